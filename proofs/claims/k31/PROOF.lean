import PyProof.Rows.All
import Wide.All
import OpenK.AllK
import Wide.FinOn
import Lean
import PyProof.EqAt
import PyProof.EqKinds
import PyProof.TupleCall
import KE.KSortTup
import PyProof.NeKinds
import KE.KLam
import KE.KNestM
import KE.KSortKey
import PyProof.ExcArgsOwn
import PyProof.ExcAttrAll.ValueError
import KE.KIsAll
import KE.KIntText
import PyProof.Rows.StrNews
import PyProof.Rows.StrSplitCount
import PyProof.Rows.SetFrom
import PyProof.Conv_int_bool
import KE.KMinKey
import PySem.Challenge.RW_forsworn_k31_whole_plain_deeds_refused
set_option Elab.async false
set_option linter.all false
set_option maxRecDepth 100000
set_option maxHeartbeats 4000000
abbrev xA:=@List.length_map
abbrev xB:=@Option.none_or
abbrev xC:=@List.length_append
abbrev xD:=@List.getElem?_eq_getElem
abbrev xE:=@List.mem_cons
abbrev xF:=@List.mem_of_getElem?
abbrev xG:=@List.getElem?_map
abbrev xH:=@Bool.false_ne_true
abbrev xI:=@PySem.Heap.get?_push_of_some
abbrev xJ:=@List.mem_append_right
abbrev xK:=@Nat.le_refl
abbrev xL:=@List.size_toArray
abbrev xM:=@List.mem_append
abbrev xN:=@Option.map_eq_some_iff
abbrev xO:=@PySem.Heap.lt_size
abbrev xP:=@List.mem_singleton
abbrev xQ:=@List.getElem?_eq_some_iff
abbrev xR:=@List.append_nil
abbrev xS:=@Nat.lt_of_lt_of_le
abbrev xT:=@decide_eq_false
abbrev xU:=@List.map_cons
abbrev xV:=@Bool.and_eq_true
abbrev xW:=@decide_eq_true
abbrev xX:=@List.mem_cons_of_mem
abbrev xY:=@List.length_cons
abbrev xZ:=@List.length_take
abbrev yC:=@List.mem_cons_self
abbrev yD:=@PySem.Heap.get?_push_size
abbrev yE:=@List.map_append
abbrev yF:=@List.nodup_cons
abbrev yG:=@List.cons_append
abbrev yH:=@List.lookup_cons
abbrev yI:=@List.take_add_one
abbrev yJ:=@Int.eq_ofNat_of_zero_le
abbrev yK:=@Nat.le_trans
abbrev yL:=@PySem.Heap.get?_update_other
abbrev yM:=@Nat.ne_of_lt
abbrev yN:=@List.getD_eq_getElem?_getD
abbrev yO:=@Nat.lt_of_le_of_lt
abbrev yP:=@List.not_mem_nil
abbrev yQ:=@Nat.zero_le
abbrev yR:=@List.take_length
abbrev yS:=@List.getElem?_append_right
abbrev yT:=@Bool.false_and
abbrev yU:=@Option.or_none
abbrev yV:=@Int.toNat_natCast
abbrev yW:=@Option.or_assoc
abbrev yX:=@Option.bind_some
abbrev yY:=@List.take_of_length_le
abbrev yZ:=@List.all_eq_true
abbrev zA:=@List.filter_append
abbrev zB:=@List.getElem?_append_left
abbrev zC:=@List.getElem?_zip_eq_some
abbrev zD:=@List.map_nil
abbrev zE:=@Bool.eq_iff_iff
abbrev zF:=@List.of_mem_zip
abbrev zG:=@Option.isSome_iff_exists
abbrev zH:=@List.append_assoc
abbrev zI:=@List.findSome?_cons
abbrev zJ:=@Bool.false_eq_true
abbrev zK:=@Option.or_eq_none_iff
abbrev zL:=@Nat.lt_irrefl
abbrev zM:=@Array.getElem?_eq_some_iff
abbrev zN:=@List.findSome?_eq_none_iff
abbrev zO:=@List.mem_append_left
abbrev zP:=@List.length_drop
abbrev zQ:=@List.replicate_succ
abbrev zR:=@List.getElem?_range
abbrev zS:=@List.filter_cons_of_neg
abbrev zT:=@List.nil_append
abbrev zU:=@List.find?_cons
abbrev zV:=@List.flatten_cons
abbrev zW:=@PySem.Heap.get?_update_self
abbrev uFg:=PySem.W.Frag
section
namespace L2
open PySem PySem.W
def topRunT(tb:String->Option Builtin)(p:Program)(w:World)(m:Nat)(ann:Option Value):Nat->SharedT->Thread->Option SharedT
 | 0,_,_=>none
 | n+1,s,t=>match through t with
  | true=>some s
  | false=>match stepOk m ann t with
   | false=>none
   | true=>match stepT (denote tb) p w s t with
    | some x=>topRunT tb p w m ann n x.1 x.2
    | none=>none
theorem Zd3{tb:String->Option Builtin}{p:Program}{w:World}{m:Nat}{ann:Option Value}:∀{n:Nat}{s r:SharedT}{t:Thread},topRunT tb p w m ann n s t=some r->topRun tb p w m ann n s.abs t=some r.abs
 | 0,s,r,t,h=>by cases h
 | n+1,s,r,t,h=>by
  unfold topRunT at h
  unfold topRun
  cases a:through t with
  | true=>rw[a] at h;cases h;rfl
  | false =>
   rw[a] at h
   cases b:stepOk m ann t with
   | false=>rw[b] at h;cases h
   | true =>
    rw[b] at h
    cases c:stepT (denote tb) p w s t with
    | none=>rw[c] at h;cases h
    | some x=>obtain⟨s2,t2⟩:=x;rw[c] at h;dsimp only at h ⊢;rw[stepT_spec c];exact Zd3 h
def Zdy:List Obj->Nat->BT->BT
 | [],_,t=>t
 | o::r,i,t=>Zdy r (i+1) (t.ins i o)
noncomputable def s0T (P:Params) (os:OsState):SharedT:=⟨Zdy (boot_heap P).objs.toList 0 .nil,11,(boot_heap P).life,#[],boot_drawn,boot_toks,os⟩
noncomputable def seenT {α:Type}(p q:Program) (loose:List Str) (Xt:Shared->Bool) (Yf:Shared->α) (P:Params) (s:Shared) :=
 (staticsOk (importedModules p.main.body) (boot_heap P) s.heap && namesBound p s.heap && gensDone s && laidKept (boot_heap P) s.heap,openSeen q loose (importedModules p.main.body) Xt true s,Yf s)
theorem Zit(P:Params)(os:OsState):(s0T P os).abs=⟨boot_heap P,#[],boot_drawn,boot_toks,os⟩:=by kernel_rfl
theorem Zht(P:Params):((boot_heap P).isNs mainGlobals && (#[]:Array GenState).size == 0,(boot_heap P).objs.size,(boot_heap P).nsMap mainGlobals "__annotations__")=(true,11,some (.ref 6)):=by kernel_rfl
theorem Zy1{p q:Program}{loose:List Str}{Xt:Shared->Bool}{α:Type}{Yf:Shared->α}{Ya:World->α}{N:Nat}(e:opening p=plainProg p.main.scope.names)(hN:Nat.ble 600 N=true)(f:∀s,fenceModules? p s=some s)(run:∀ (w:World) (os:OsState),(topRunT treeTable p w 11 (some (.ref 6)) N (s0T w.params os) (topStub p)).map (fun s=>seenT p q loose Xt Yf w.params s.abs)=some (true,openGood q loose,Ya w)):LeftO p q loose Xt Yf Ya N:=fun w=>by
 obtain⟨⟨h,gs,d,k,os⟩,e1,e2⟩:=xN.mp (boot_open e hN f w)
 obtain⟨rfl,rfl,rfl,rfl⟩:h=boot_heap w.params/\gs = #[]/\d=boot_drawn/\k=boot_toks:=by simpa using e2
 obtain⟨s,r1,r2⟩:=xN.mp (run w os)
 unfold seenT at r2
 obtain⟨l1,l2,l3⟩:_/\_/\_:=by simpa only [Prod.mk.injEq] using r2
 have r:=Zd3 r1
 rw[Zit] at r
 obtain⟨z1,z2,z3⟩:_/\_/\_:=by simpa only [Prod.mk.injEq] using Zht w.params
 have t:topFrom treeTable p w N ⟨boot_heap w.params,#[],boot_drawn,boot_toks,os⟩=some s.abs:=by
  unfold topFrom
  dsimp only
  rw[z1,z2,z3,r]
  show (match staticsOk (importedModules p.main.body) (boot_heap w.params) s.abs.heap && namesBound p s.abs.heap && gensDone s.abs && laidKept (boot_heap w.params) s.abs.heap with | true=>some s.abs | false=>none)=_
  rw[l1]
 unfold openEnds
 rw[e1]
 show (topFrom treeTable p w N _).map _=_
 rw[t]
 exact congrArg some (Prod.ext l2 l3)
def Zv(p:Program)(i:Nat):Stmt:=p.main.body.getD i (.Pass ⟨0,0,0,0⟩)
def hIn(s:Stmt)(j:Nat):Stmt:=match s with
 | .ClassDef _ _ _ b _ _ _ _ _ _ _=>b.getD j (.Pass ⟨0,0,0,0⟩)
 | _=>s
def Zj5(s:Stmt):Arguments:=match s with
 | .FunctionDef _ a _ _ _ _ _ _ _ _=>a
 | _=>⟨[],[],none,[],[],none,[]⟩
def Zj6(s:Stmt):List Stmt:=match s with
 | .FunctionDef _ _ b _ _ _ _ _ _ _=>b
 | _=>[]
def Zjl(s:Stmt):Scope:=match s with
 | .FunctionDef _ _ _ _ _ _ c _ _ _=>c
 | _=>{kind:=.function,names:=[],isGenerator:=false,isCoroutine:=false }
def de(P:Params)(n:Str)(t:Tok)(v:Value):DictEntry:=⟨PyData.keyHash P n,.str n t,v⟩
def kFn(n q:Str)(st:Stmt)(pm:Value)(c:Addr):Obj:=⟨.type "function", none,.func (PySem.W.fnOf n q (Zj5 st) (Zj6 st) (Zjl st) .none .none .none pm none (.ref c) .none),#[]⟩
def kC(n q:Str)(t l a u:Nat)(r s v x y:Value):Obj:=⟨.type "code", none,.fields #[.str n t,.str q (t+1),.str "/claim/cut.py" (t+2),.int l 0,.int a 0,.int 0 0,.int 0 0,.int 3 0,r,.bool true,.int 181 0,s,.none,v,x,y,.int u 0,.int l 0,.str "/claim/cut.py" (u+1)],#[]⟩
def kg(c:Nat)(n q:Str)(t l a u:Nat)(st:Stmt)(pm:Value)(r:uFg):uFg:=(c,kC n q t l a u (.ref (c - 5)) (.ref (c - 4)) (.ref (c - 3)) (.ref (c - 2)) (.ref (c - 1)))::(c+1,kFn n q st pm c)::r
def kg0(c:Nat)(n q:Str)(t l a u:Nat)(st:Stmt)(pm:Value)(r:uFg):uFg:=(c,kC n q t l a u (.ref (c - 3)) (.ref (c - 2)) .none .none (.ref (c - 1)))::(c+1,kFn n q st pm c)::r
def kE(P:Params)(a:Nat)(n:Str)(l t:Nat)(r:uFg):uFg:=(a,⟨.type "dict", none,.dict #[de P "__module__" t (.str "forsworn.errors" 194),de P "__firstlineno__" (t+4) (.int l (t+3)),de P "called" (t+11) (.ref (a - 2)),de P "__static_attributes__" (t+12) (.ref (a - 1)),de P "__doc__" (t+13) .none] 2,#[]⟩)::(a+1,⟨.type "type", none,.cls {name:=n,bases:=[.ref 38],mro:=[.ref (a+1),.ref 38,.type "ValueError", .type "Exception", .type "BaseException", .type "object"],ns:=a,qualname:=n,hasDict:=true,slotNames:=[],subclasses:=[],abstract:=false,collection:=none,hasDel:=false },#[some (.ref (a - 15)),none,some (.str n (t - 7)),some (.str n (t+1)),some (.builtin "ValueError.__new__"),some (.bool true)]⟩)::r
def kpO(x:Addr×Obj)(r:uFg):uFg:=x::r
def kf(c:Nat)(n:Str):=kg c n n
def kf0(c:Nat)(n:Str):=kg0 c n n
end L2
namespace PySem.W.Fast
noncomputable def tw14598715356260435866:PySem.Params->PySem.Obj:=PySem.W.boot_o_0
theorem te14598715356260435866:PySem.W.boot_o_0=tw14598715356260435866:=rfl
end PySem.W.Fast
lay_quick L2.topRunT L2.s0T L2.seenT
end
section
namespace L2
open PySem PySem.W PyProof.Rows
abbrev p0:Pos:=⟨0,0,0,0⟩
def Zcr(p:Program):Env:={scope:=p.main.scope,locals:=mainNs,globals:=mainNs,cells:=[],code:=.ref 13,frame:=some 14 }
def cP(p:Program):Code:=.body (behindTheImports p) (Zcr p)
def Zda(tb:String->Option Builtin)(p:Program)(w:World)(m:Nat)(ann:Option Value):Nat->SharedT->Thread->Option (SharedT×Thread)
 | 0,s,t=>some (s,t)
 | n+1,s,t=>match through t with
  | true=>none
  | false=>match stepOk m ann t with
   | false=>none
   | true=>match stepT (denote tb) p w s t with
    | some x=>Zda tb p w m ann n x.1 x.2
    | none=>none
theorem Zhu{tb:String->Option Builtin}{p:Program}{w:World}{m:Nat}{ann:Option Value}:∀{n:Nat}{s r:SharedT}{t u:Thread},Zda tb p w m ann n s t=some (r,u)->topGo tb p w m ann n s.abs t=some (r.abs,u)
 | 0,s,r,t,u,h=>by cases h;rfl
 | n+1,s,r,t,u,h=>by
  unfold Zda at h
  unfold topGo
  cases a:through t with
  | true=>rw[a] at h;cases h
  | false =>
   rw[a] at h
   cases b:stepOk m ann t with
   | false=>rw[b] at h;cases h
   | true =>
    rw[b] at h
    cases c:stepT (denote tb) p w s t with
    | none=>rw[c] at h;cases h
    | some x=>obtain⟨s2,t2⟩:=x;rw[c] at h;dsimp only at h ⊢;rw[stepT_spec c];exact Zhu h
def preP(p:Program)(w:World)(s:SharedT):Option (SharedT×Thread):=Zda treeTable p w 11 (some (.ref 6)) 12 s (topStub p)
def stubT(p:Program):Thread:=⟨denote treeTable (cP p),cP p,p0,[topFrame p0]⟩
def blkP(p:Program)(w:World)(s:SharedT):Option (Flow×SharedT×Code×Pos):=segRunT treeTable p w 11 (some (.ref 6)) 1 1 s (blockOf (behindTheImports p) (Zcr p) (cP p) p0 [topFrame p0])
def segP(p:Program)(w:World)(n k j:Nat)(pos:Pos)(s:SharedT):Option (Flow×SharedT×Code×Pos):=segRunT treeTable p w 11 (some (.ref 6)) 1 n s (piecesOf (((behindTheImports p).drop k).take j) (Zcr p) (cP p) pos [topFrame p0])
def topQ(p:Program)(w:World)(n k:Nat)(pos:Pos)(s:SharedT):Option SharedT:=topRunT treeTable p w 11 (some (.ref 6)) n s (restOf ((behindTheImports p).drop k) (Zcr p) (cP p) pos [topFrame p0])
def vI(n:Nat):Value:=.int n 0
def tuO(l:List Value):Obj:=⟨.type "tuple", none,.seq l.toArray 0,#[]⟩
def fdO(c:Value)(l:List Value):Obj:=⟨c,none,.fields l.toArray,#[]⟩
def diO(l:List DictEntry)(n:Nat):Obj:=⟨.type "dict", none,.dict l.toArray n,#[]⟩
def cut(t:Nat):Value:=.str "/claim/cut.py" t
def mdl:Value:=.str "forsworn.errors" 194
def cdO(n q:Str)(b l:Nat)(ar fl:Nat)(fn:Bool)(a:Nat)(r:List Value):Obj:=fdO (.type "code") ([.str n b,.str q (b+1),cut (b+2),vI l,vI ar,vI 0,vI 0,vI fl,.ref a,.bool fn,vI 181,.ref (a+1)]++r ++ [vI (if fn then b+4 else b+3),vI l,cut (if fn then b+5 else b+4)])
def fn0(n q:Str)(st:Stmt):Obj:=⟨.none,none,.func {name:=n,qualname:=q,params:=Zj5 st,body:=.stmts (Zj6 st),scope:=Zjl st,globals:=0,closure:=[],defaults:=.none,kwdefaults:=.none },#[]⟩
def Zlu(P:Params)(a b l:Nat)(st:Stmt)(bs:Value)(dc:Nat)(more:List DictEntry)(cl:Obj)(n q:Str)(hd:List Obj)(tl:List Obj):List Obj :=
 let one:=[de P "__module__" (b+7) mdl]
 let two:=[de P "__firstlineno__" (b+11) (.int l (b+10)),de P "called" (b+18) (.ref (a+13)),de P "__static_attributes__" (b+19) (.ref (a+14))]
 hd ++ [tuO [bs],fdO (.type "builtin_function_or_method") [.builtin "type.__prepare__", .type "type"],diO (one ++ [de P "__qualname__" (b+9) (.str n (b+8))]++two) 5,tuO [],fdO .none [vI (l+2),vI 4,.ref (a+12)],
  cdO n n (b+2) l 0 0 false (a+3) [.none,.none,.none,.none],⟨.type "frame", none,.plain,#[some (.ref (a+5)),some (.ref 3),some (.ref (a+2)),none,some mdl,none,some (.ref 0)]⟩,
  tuO [],fdO .none [],tuO [.str "self" (b+15)],tuO [],fn0 "called" q st,cdO "called" q (b+12) (l+2) 1 3 true (a+7) [.none,.ref (a+9),.ref (a+10),.ref (a+11)],
  kFn "called" q st mdl (a+12),tuO [],diO (one++two++more) dc,cl]++tl ++ [fdO (.type "super") [.ref (a+16),.ref (a+16),.ref (a+16)],fdO (.type "builtin_function_or_method") [.builtin "object.__init_subclass__", .ref (a+16)]]
def tyO(a b:Nat)(n:Str)(bs:List Value)(mro:List Value)(sub:List Value):Obj:=⟨.type "type", none,.cls {name:=n,bases:=bs,mro:=.ref (a+16)::mro,ns:=a+15,qualname:=n,hasDict:=true,slotNames:=[],subclasses:=sub,abstract:=false,collection:=none,hasDel:=false },
 #[some (.ref a),none,some (.str n b),some (.str n (b+8)),some (.builtin "ValueError.__new__"),some (.bool true)]⟩
def Zlv:List Value:=[.type "ValueError", .type "Exception", .type "BaseException", .type "object"]
def Zx3(P:Params)(p:Program)(j:Nat)(x:Str×Str):List Obj:=let a:=42+19 * j;let b:=221+23 * j;let l:=9+4 * j
 Zlu P a b l (hIn (Zv p (3+j)) 0) (.ref 38) 2 [de P "__doc__" (b+20) .none] (tyO a b x.1 [.ref 38] (.ref 38::Zlv) []) x.1 x.2 [] []
def num{α:Type}:Nat->List α->List (Nat × α)
 | _,[]=>[]
 | i,x::r=>(i,x)::num (i+1) r
noncomputable def Zx4 (p:Program) (P:Params) (ns:List (Str×Str)):List Obj:=let w:=Zv p 0
  [boot_o_0 P,boot_o_1 P,boot_o_2 P,
   diO ([de P "__name__" 165 mdl,de P "__doc__" 166 .none,de P "__package__" 167 .none,de P "__loader__" 168 (.builtin "__main__.__loader__#opaque"),de P "__spec__" 169 .none,de P "__annotations__" 170 (.ref 6),de P "__builtins__" 171 (.ref 4),de P "__file__" 173 (cut 172),de P "__cached__" 174 .none,de P "_wall" 193 (.ref 21),de P "MootError" 220 (.ref 38)]++(num 0 ns).map fun x=>de P x.2.1 (243+23 * x.1) (.ref (58+19 * x.1))) (11+ns.length),
   boot_o_4 P,boot_o_5 P,boot_o_6 P,boot_o_7 P,boot_o_8 P,boot_o_9 P,boot_o_10 P,tuO [],fdO .none ([vI 1,vI 0,.ref 20,vI 5,vI 0,.ref 27]++((num 0 ns).map fun x=>[vI (9+4 * x.1),vI 0,.ref (47+19 * x.1)]).flatten),
   cdO "<module>" "<module>" 182 1 0 0 false 11 [.none,.none,.none,.none],⟨.type "frame", none,.plain,#[some (.ref 13),some (.ref 3),some (.ref 3),none,some (.str "__main__" 164),none,some (.ref 0)]⟩,
   tuO [],fdO .none [],tuO [.str "k" 190],tuO [],fn0 "_wall" "_wall" w,cdO "_wall" "_wall" 187 1 1 3 true 15 [.none,.ref 17,.ref 18,.ref 19],kFn "_wall" "_wall" w (.str "__main__" 164) 20] ++
  Zlu P 22 196 5 (hIn (Zv p 2) 0) (.type "ValueError") 3 [de P "__weakref__" 217 (.ref 39),de P "__doc__" 218 .none] (tyO 22 196 "MootError" [.type "ValueError"] Zlv ((num 0 ns).map fun x=>.ref (58+19 * x.1))) "MootError" "MootError.called" [] [fdO (.type "getset_descriptor") [.str "__weakref__" 216,.ref 38,.builtin "ExceptionGroup.__weakref__", .none]] ++
  ((num 0 ns).map fun x=>Zx3 P p x.1 x.2).flatten
noncomputable def errS (p:Program) (ns:List (Str×Str)) (P:Params) (os:OsState):SharedT:=⟨Zdy (Zx4 p P ns) 0 .nil,42+19 * ns.length,(boot_heap P).life,#[],boot_drawn,221+23 * ns.length,os⟩
noncomputable def stubS (P:Params) (os:OsState):SharedT:=⟨Zdy ((boot_heap P).objs.toList ++ [tuO [],fdO .none [],cdO "<module>" "<module>" 182 1 0 0 false 11 [.none,.none,.none,.none],⟨.type "frame", none,.plain,#[some (.ref 13),some (.ref 3),some (.ref 3),none,some (.str "__main__" 164),none,some (.ref 0)]⟩]) 0 .nil,15,(boot_heap P).life,#[],boot_drawn,187,os⟩
def Reach(p:Program)(w:World)(os:OsState)(M:Nat)(s:SharedT)(k:Nat)(pos:Pos):Prop:=∀(N:Nat)(r:Shared),
 topRun treeTable p w 11 (some (.ref 6)) N s.abs (restOf ((behindTheImports p).drop k) (Zcr p) (cP p) pos [topFrame p0])=some r->topRun treeTable p w 11 (some (.ref 6)) (M+N) (s0T w.params os).abs (topStub p)=some r
theorem Reach.zero{p:Program}{w:World}{os:OsState}(h:preP p w (s0T w.params os)=some (stubS w.params os,stubT p))(b:blkP p w (stubS w.params os)=some (.next,stubS w.params os,cP p,p0)):Reach p w os 13 (stubS w.params os) 0 p0:=fun N r k=>by
 have k':=go_top (Zhu h) (piece_block (segRun_of b) k)
 rwa [← Nat.add_assoc] at k'
theorem Reach.step{p:Program}{w:World}{os:OsState}{M k:Nat}{s s':SharedT}{pos pos':Pos}(R:Reach p w os M s k pos)(n j:Nat)(h:segP p w n k j pos s=some (.next,s',cP p,pos')):Reach p w os (M+n) s' (k+j) pos':=fun N r x=>by
 rw[Nat.add_assoc]
 refine R _ r ?_
 rw[← List.take_append_drop j ((behindTheImports p).drop k),List.drop_drop]
 exact piece_app (segRun_of h) x
section
variable(p q:Program)(loose:List Str)(Xt:Shared->Bool)
noncomputable def sn0 (P:Params) (s:SharedT):Bool:=staticsOk (importedModules p.main.body) (boot_heap P) s.abs.heap && namesBound p s.abs.heap && gensDone s.abs && laidKept (boot_heap P) s.abs.heap
def sn1(s:SharedT):=(seen ((recsOf q).map (·.name)) (ownsOf q) [] {s.abs with gens:=#[] },s.abs.heap.bltView)
def sn2(s:SharedT):Bool:=s.abs.heap.keysOk (looseW q loose) ((recsOf q).map (·.name)) ((litsOf q).map (·.1)) ((clssOf q (looseW q loose)).map (·.name)) && s.abs.heap.accountedOkI (importedModules p.main.body) && s.abs.heap.isNs mainGlobals && s.abs.heap.isNs builtinsNs && tablesOk q s.abs.heap && Xt s.abs && (if true then s.abs.gens.size == 0 else !leftWithCleanup s.abs.gens)
def sn3(s:SharedT):Bool:=tabsOk q s.abs
def sn4(s:SharedT):=pinSeenD q (drecsOf q) s.abs
def sn9(i:Nat)(s:SharedT):=(((plainsOf q (looseW q loose)).drop i).take 1).map fun c=>s.abs.heap.plainShapeAt c.withCmp
def snA(i:Nat)(s:SharedT):=((plainsOf q (looseW q loose)).drop i).map fun c=>s.abs.heap.plainShapeAt c.withCmp
def sn5(s:SharedT):=plainSeenD q loose s.abs
def sn8(s:SharedT):=wideSeen q s.abs
def sn6(s:SharedT):=clsSeenW q loose s.abs
end
def gd9(q:Program)(loose:List Str)(i:Nat):=(((plainsOf q (looseW q loose)).drop i).take 1).map fun c=>some c.withCmp.plainShape
def gdA(q:Program)(loose:List Str)(i:Nat):=((plainsOf q (looseW q loose)).drop i).map fun c=>some c.withCmp.plainShape
theorem Zlw{α β:Type}(f : α->β)(l:List α):l.map f=((l.drop 0).take 1).map f++(((l.drop 1).take 1).map f++(l.drop 2).map f):=by
 rcases l with _ | ⟨a,_ | ⟨b,l⟩⟩<;>rfl
theorem Zo1{p q:Program}{loose:List Str}{Xt:Shared->Bool}{α:Type}{Yf:Shared->α}{Ya:World->α}{M N k:Nat}{s:World->OsState->SharedT}{pos:Pos}(e:opening p=plainProg p.main.scope.names)(hN:Nat.ble 600 (M+N)=true)(f:∀s,fenceModules? p s=some s)(R:∀ (w:World) (os:OsState),Reach p w os M (s w os) k pos)(r0:∀ (w:World) (os:OsState),(topQ p w N k pos (s w os)).map (sn0 p w.params)=some true)(r1:∀ (w:World) (os:OsState),(topQ p w N k pos (s w os)).map (sn1 q)=some (expectedOf q,bltViewBooted))(r2:∀ (w:World) (os:OsState),(topQ p w N k pos (s w os)).map (sn2 p q loose Xt)=some true)(r3:∀ (w:World) (os:OsState),(topQ p w N k pos (s w os)).map (sn3 q)=some true)(r4:∀ (w:World) (os:OsState),(topQ p w N k pos (s w os)).map (sn4 q)=some (pinGoodD (drecsOf q)))(r9:∀ (w:World) (os:OsState),(topQ p w N k pos (s w os)).map (sn9 q loose 0)=some (gd9 q loose 0))(rB:∀ (w:World) (os:OsState),(topQ p w N k pos (s w os)).map (sn9 q loose 1)=some (gd9 q loose 1))(rA:∀ (w:World) (os:OsState),(topQ p w N k pos (s w os)).map (snA q loose 2)=some (gdA q loose 2))(r5:∀ (w:World) (os:OsState),(topQ p w N k pos (s w os)).map (sn5 q loose)=some (plainGoodD q loose))(r8:∀ (w:World) (os:OsState),(topQ p w N k pos (s w os)).map (sn8 q)=some (wideGood q))(r6:∀ (w:World) (os:OsState),(topQ p w N k pos (s w os)).map (sn6 q loose)=some (clsGoodW q loose))(r7:∀ (w:World) (os:OsState),(topQ p w N k pos (s w os)).map (fun s=>Yf s.abs)=some (Ya w)):LeftO p q loose Xt Yf Ya (M+N):=fun w=>by
 obtain⟨⟨h,gs,d,k,os⟩,e1,e2⟩:=xN.mp (boot_open e hN f w)
 obtain⟨rfl,rfl,rfl,rfl⟩:h=boot_heap w.params/\gs = #[]/\d=boot_drawn/\k=boot_toks:=by simpa using e2
 obtain⟨s,x,y0⟩:=xN.mp (r0 w os)
 have y1:=r1 w os
 have y2:=r2 w os
 have y3:=r3 w os
 have y4:=r4 w os
 have y5:=r5 w os
 have y9:=r9 w os
 have yA:=rA w os
 have yB:=rB w os
 have y8:=r8 w os
 have y6:=r6 w os
 have y7:=r7 w os
 rw[x,Option.map_some,Option.some_inj] at y1 y2 y3 y4 y5 y6 y7 y8 y9 yA yB
 have r:=R w os N _ (Zd3 x)
 rw[Zit] at r
 obtain⟨z1,z2,z3⟩:_/\_/\_:=by simpa only [Prod.mk.injEq] using Zht w.params
 have t:topFrom treeTable p w (M+N) ⟨boot_heap w.params,#[],boot_drawn,boot_toks,os⟩=some s.abs:=by
  unfold topFrom
  dsimp only
  rw[z1,z2,z3,r]
  show (match staticsOk (importedModules p.main.body) (boot_heap w.params) s.abs.heap && namesBound p s.abs.heap && gensDone s.abs && laidKept (boot_heap w.params) s.abs.heap with | true=>some s.abs | false=>none)=_
  unfold sn0 at y0
  rw[y0]
 unfold openEnds
 rw[e1]
 show (topFrom treeTable p w (M+N) _).map _=_
 rw[t]
 refine congrArg some (Prod.ext ?_ y7)
 have a1:=congrArg Prod.fst y1
 have b1:=congrArg Prod.snd y1
 exact Prod.ext a1 (Prod.ext b1 (Prod.ext y2 (Prod.ext y3 (Prod.ext y4 (Prod.ext ((Zlw _ _).trans ((congr (congrArg _ y9) (congr (congrArg _ yB) yA)).trans (Zlw _ _).symm)) (Prod.ext y5 (Prod.ext y8 y6)))))))
end L2
lay_quick L2.preP L2.blkP L2.segP L2.topQ L2.errS L2.stubS L2.stubT L2.sn0 L2.sn1 L2.sn2 L2.sn3 L2.sn4 L2.sn5 L2.sn6 L2.sn8 L2.sn9 L2.snA L2.gd9 L2.gdA
end
namespace Law
open PySem L2
def pm0:Value:=(.str "forsworn.deeds" 589)
def pm1:Value:=(.str "forsworn.measures" 600)
def pm2:Value:=(.str "forsworn.oaths" 638)
def pm3:Value:=(.str "forsworn.folk" 654)
def pm4:Value:=(.str "forsworn.stands" 863)
def pm5:Value:=(.str "forsworn.moot" 949)
def pm6:Value:=(.str "law_forsworn_k31_whole_plain_deeds_refused" 1382)
def Kp(p:Program)(P:Params):uFg :=
 kpO (3,⟨(.type "dict"),none,(.dict #[de P "__name__" 165 (.str "law_forsworn_k31_whole_plain_deeds_refused" 1382),de P "__doc__" 166 .none,de P "__package__" 167 .none,de P "__loader__" 168 (.builtin "__main__.__loader__#opaque"),de P "__spec__" 169 .none,de P "__annotations__" 170 (.ref 6),de P "__builtins__" 171 (.ref 4),de P "__file__" 173 (.str "/claim/cut.py" 172),de P "__cached__" 174 .none,de P "_wall" 193 (.ref 21),de P "MootError" 220 (.ref 38),de P "NoName" 243 (.ref 58),de P "NoMeasure" 266 (.ref 77),de P "Unknown" 289 (.ref 96),de P "Taken" 312 (.ref 115),de P "NoThing" 335 (.ref 134),de P "NoCase" 358 (.ref 153),de P "NoOath" 381 (.ref 172),de P "NotYet" 404 (.ref 191),de P "Dead" 427 (.ref 210),de P "NoHeir" 450 (.ref 229),de P "TooMany" 473 (.ref 248),de P "SwornTwice" 496 (.ref 267),de P "Forsworn" 519 (.ref 286),de P "TooLight" 542 (.ref 305),de P "Broken" 565 (.ref 324),de P "NoDeed" 588 (.ref 343),de P "done" 599 (.ref 352),de P "LAST_DAY" 603 (.int (9999) 602),de P "MOST_WEIGHT" 605 (.int (1000) 604),de P "MOST_NEED" 607 (.int (12000) 606),de P "MOST_MONEY" 609 (.int (1000000) 608),de P "check_day" 616 (.ref 359),de P "check_weight" 623 (.ref 366),de P "check_need" 630 (.ref 373),de P "check_money" 637 (.ref 380),de P "LONGEST_NAME" 641 (.int (12) 640),de P "is_name" 647 (.ref 385),de P "total" 653 (.ref 390),de P "MOST_FOLK" 657 (.int (40) 656),de P "Folk" 862 (.ref 545),de P "ONES" 866 (.int (0) 865),de P "OTHERS" 868 (.int (1) 867),de P "NEED" 870 (.int (2) 869),de P "NAMED" 872 (.int (3) 871),de P "settled" 879 (.ref 556),de P "settled_with" 891 (.ref 563),de P "breakers" 900 (.ref 570),de P "breakers_stands" 901 (.ref 570),de P "breaking" 907 (.ref 575),de P "naming" 918 (.ref 582),de P "check_case" 926 (.ref 589),de P "check_oath" 932 (.ref 594),de P "margin_without" 942 (.ref 601),de P "kept_weight" 948 (.ref 606),de P "MOST_THINGS" 952 (.int (40) 951),de P "MOST_CASES" 954 (.int (60) 953),de P "MOST_SWEARERS" 956 (.int (12) 955),de P "MOST_MOMENTS" 958 (.int (400) 957),de P "Moot" 1381 (.ref 920),de P "_law_src" 1390 (.ref 931),de P "_law_next" 1400 (.ref 938),de P "_law_unlike" 1411 (.ref 945),de P "_law_word" 1417 (.ref 950),de P "_law_names" 1431 (.ref 957),de P "_law_came" 1440 (.ref 964),de P "_law_death" 1449 (.ref 971),de P "_law_is_dead" 1459 (.ref 978),de P "_law_one" 1467 (.ref 985),de P "_law_is_name" 1475 (.ref 992),de P "_law_bringings" 1481 (.ref 997),de P "_law_folk_of" 1487 (.ref 1002),de P "_law_day_of" 1494 (.ref 1009),de P "_law_measured" 1501 (.ref 1016),de P "_law_early_due" 1510 (.ref 1023),de P "_law_late_due" 1516 (.ref 1028),de P "_law_due" 1522 (.ref 1033),de P "_law_plain_deed" 1535 (.ref 1040),de P "_law_kinds" 1545 (.ref 1047),de P "_law_kinds_of" 1551 (.ref 1052),de P "_law_odd_row" 1561 (.ref 1059),de P "_law_wild" 1573 (.ref 1066),de P "law" 1579 (.ref 1071)] 83),#[]⟩)<|
 kpO (37,⟨(.type "dict"),none,(.dict #[de P "__module__" 203 (.str "forsworn.errors" 194),de P "__firstlineno__" 207 (.int (5) 206),de P "called" 214 (.ref 35),de P "__static_attributes__" 215 (.ref 36),de P "__weakref__" 217 (.ref 39),de P "__doc__" 218 .none] 3),#[]⟩)<|
 kpO (38,⟨(.type "type"),none,(.cls {name:="MootError", bases:=[(.type "ValueError")],mro:=[(.ref 38),(.type "ValueError"),(.type "Exception"),(.type "BaseException"),(.type "object")],ns:=37,qualname:="MootError", hasDict:=true,slotNames:=[],subclasses:=[(.ref 58),(.ref 77),(.ref 96),(.ref 115),(.ref 134),(.ref 153),(.ref 172),(.ref 191),(.ref 210),(.ref 229),(.ref 248),(.ref 267),(.ref 286),(.ref 305),(.ref 324),(.ref 343)],abstract:=false,collection:=none,hasDel:=false }),#[some (.ref 22),none,some (.str "MootError" 196),some (.str "MootError" 204),some (.builtin "ValueError.__new__"),some (.bool true)]⟩)<|
 kE P 57 "NoName" 9 228<|
 kE P 76 "NoMeasure" 13 251<|
 kE P 95 "Unknown" 17 274<|
 kE P 114 "Taken" 21 297<|
 kE P 133 "NoThing" 25 320<|
 kE P 152 "NoCase" 29 343<|
 kE P 171 "NoOath" 33 366<|
 kE P 190 "NotYet" 37 389<|
 kE P 209 "Dead" 41 412<|
 kE P 228 "NoHeir" 45 435<|
 kE P 247 "TooMany" 49 458<|
 kE P 266 "SwornTwice" 53 481<|
 kE P 285 "Forsworn" 57 504<|
 kE P 304 "TooLight" 61 527<|
 kE P 323 "Broken" 65 550<|
 kE P 342 "NoDeed" 69 573<|
 kf 351 "done" 591 74 2 597 (Zv p 20) pm0<|
 kf 358 "check_day" 610 102 1 614 (Zv p 26) pm1<|
 kf 365 "check_weight" 617 105 1 621 (Zv p 27) pm1<|
 kf 372 "check_need" 624 108 1 628 (Zv p 28) pm1<|
 kf 379 "check_money" 631 111 1 635 (Zv p 29) pm1<|
 kf0 384 "is_name" 642 116 1 645 (Zv p 32) pm2<|
 kf0 389 "total" 648 118 1 651 (Zv p 33) pm2<|
 kg 403 "__init__" "Folk.__init__" 670 124 1 674 (hIn (Zv p 36) 0) pm3<|
 kg 410 "come" "Folk.come" 677 130 4 684 (hIn (Zv p 36) 1) pm3<|
 kg 417 "rise" "Folk.rise" 687 135 4 694 (hIn (Zv p 36) 2) pm3<|
 kg 424 "die" "Folk.die" 697 139 4 704 (hIn (Zv p 36) 3) pm3<|
 kg 478 "died_by" "Folk.died_by" 762 171 3 768 (hIn (Zv p 36) 11) pm3<|
 kg 499 "check_coming" "Folk.check_coming" 787 180 4 794 (hIn (Zv p 36) 14) pm3<|
 kg 506 "check_rise" "Folk.check_rise" 797 190 4 804 (hIn (Zv p 36) 15) pm3<|
 kg 513 "check_death" "Folk.check_death" 807 197 4 814 (hIn (Zv p 36) 16) pm3<|
 kg 520 "check_known" "Folk.check_known" 817 207 2 822 (hIn (Zv p 36) 17) pm3<|
 kg 527 "check_there" "Folk.check_there" 825 211 3 831 (hIn (Zv p 36) 18) pm3<|
 kg 534 "check_living" "Folk.check_living" 834 215 3 840 (hIn (Zv p 36) 19) pm3<|
 kg 541 "check_untold" "Folk.check_untold" 843 219 2 848 (hIn (Zv p 36) 20) pm3<|
 kpO (544,⟨(.type "dict"),none,(.dict #[de P "__module__" 665 (.str "forsworn.folk" 654),de P "__firstlineno__" 669 (.int (122) 668),de P "__init__" 676 (.ref 404),de P "come" 686 (.ref 411),de P "rise" 696 (.ref 418),de P "die" 706 (.ref 425),de P "names" 713 (.ref 432),de P "came" 721 (.ref 439),de P "weight" 727 (.ref 444),de P "dead" 736 (.ref 451),de P "stands_for" 745 (.ref 458),de P "twin" 752 (.ref 465),de P "stand_in" 761 (.ref 472),de P "died_by" 770 (.ref 479),de P "death_day" 778 (.ref 486),de P "heir_of" 786 (.ref 493),de P "check_coming" 796 (.ref 500),de P "check_rise" 806 (.ref 507),de P "check_death" 816 (.ref 514),de P "check_known" 824 (.ref 521),de P "check_there" 833 (.ref 528),de P "check_living" 842 (.ref 535),de P "check_untold" 850 (.ref 542),de P "__static_attributes__" 855 (.ref 543),de P "__dict__" 857 (.ref 546),de P "__weakref__" 859 (.ref 547),de P "__doc__" 860 .none] 4),#[]⟩)<|
 kpO (545,⟨(.type "type"),none,(.cls {name:="Folk", bases:=[(.type "object")],mro:=[(.ref 545),(.type "object")],ns:=544,qualname:="Folk", hasDict:=true,slotNames:=[],subclasses:=[],abstract:=false,collection:=none,hasDel:=false }),#[none,none,some (.str "Folk" 658),some (.str "Folk" 666),some (.builtin "object.__new__"),some (.bool true)]⟩)<|
 kf 555 "settled" 873 227 1 877 (Zv p 42) pm4<|
 kf 562 "settled_with" 880 229 2 889 (Zv p 43) pm4<|
 kf 569 "breakers" 892 239 3 898 (Zv p 44) pm4<|
 kf0 574 "breaking" 902 243 1 905 (Zv p 46) pm4<|
 kf 581 "naming" 908 245 2 916 (Zv p 47) pm4<|
 kf 588 "check_case" 919 252 2 924 (Zv p 48) pm4<|
 kf0 593 "check_oath" 927 255 3 930 (Zv p 49) pm4<|
 kf 600 "margin_without" 933 259 3 940 (Zv p 50) pm4<|
 kf0 605 "kept_weight" 943 262 3 946 (Zv p 51) pm4<|
 kg 619 "__init__" "Moot.__init__" 971 271 1 975 (hIn (Zv p 57) 0) pm5<|
 kg 626 "come" "Moot.come" 978 282 4 985 (hIn (Zv p 57) 1) pm5<|
 kg 633 "rise" "Moot.rise" 988 288 4 995 (hIn (Zv p 57) 2) pm5<|
 kg 640 "die" "Moot.die" 998 294 4 1005 (hIn (Zv p 57) 3) pm5<|
 kg 647 "penance" "Moot.penance" 1008 300 2 1013 (hIn (Zv p 57) 4) pm5<|
 kg 654 "bring" "Moot.bring" 1016 307 3 1022 (hIn (Zv p 57) 5) pm5<|
 kg 661 "give" "Moot.give" 1025 318 5 1033 (hIn (Zv p 57) 6) pm5<|
 kg 668 "pay" "Moot.pay" 1036 325 5 1044 (hIn (Zv p 57) 7) pm5<|
 kg 696 "now" "Moot.now" 1089 364 1 1093 (hIn (Zv p 57) 11) pm5<|
 kg 895 "check_named" "Moot.check_named" 1325 461 5 1334 (hIn (Zv p 57) 40) pm5<|
 kg 902 "check_thing" "Moot.check_thing" 1337 477 2 1342 (hIn (Zv p 57) 41) pm5<|
 kg 916 "check_moments" "Moot.check_moments" 1358 496 1 1362 (hIn (Zv p 57) 43) pm5<|
 kpO (919,⟨(.type "dict"),none,(.dict #[de P "__module__" 966 (.str "forsworn.moot" 949),de P "__firstlineno__" 970 (.int (269) 969),de P "__init__" 977 (.ref 620),de P "come" 987 (.ref 627),de P "rise" 997 (.ref 634),de P "die" 1007 (.ref 641),de P "penance" 1015 (.ref 648),de P "bring" 1024 (.ref 655),de P "give" 1035 (.ref 662),de P "pay" 1046 (.ref 669),de P "claim" 1060 (.ref 676),de P "wergild" 1075 (.ref 683),de P "accuse" 1088 (.ref 690),de P "now" 1095 (.ref 697),de P "roll" 1102 (.ref 704),de P "names" 1109 (.ref 711),de P "weight" 1118 (.ref 718),de P "dead" 1127 (.ref 725),de P "stands_for" 1136 (.ref 732),de P "things" 1143 (.ref 739),de P "cases" 1150 (.ref 746),de P "suits" 1156 (.ref 751),de P "standing" 1163 (.ref 758),de P "stands" 1171 (.ref 765),de P "margin" 1179 (.ref 772),de P "breakers" 1188 (.ref 779),de P "chain" 1196 (.ref 786),de P "bearing" 1204 (.ref 793),de P "paper" 1212 (.ref 800),de P "fewest" 1220 (.ref 807),de P "forsworn" 1228 (.ref 814),de P "holder" 1237 (.ref 821),de P "road" 1246 (.ref 828),de P "holds" 1255 (.ref 835),de P "owed" 1263 (.ref 842),de P "balance" 1272 (.ref 849),de P "twin" 1279 (.ref 856),de P "then" 1287 (.ref 863),de P "counting" 1295 (.ref 870),de P "forsworn_names" 1306 (.ref 877),de P "weighed" 1312 (.ref 882),de P "try_case" 1324 (.ref 889),de P "check_named" 1336 (.ref 896),de P "check_thing" 1344 (.ref 903),de P "check_sides" 1357 (.ref 910),de P "check_moments" 1364 (.ref 917),de P "__static_attributes__" 1374 (.ref 918),de P "__dict__" 1376 (.ref 921),de P "__weakref__" 1378 (.ref 922),de P "__doc__" 1379 .none] 4),#[]⟩)<|
 kpO (920,⟨(.type "type"),none,(.cls {name:="Moot", bases:=[(.type "object")],mro:=[(.ref 920),(.type "object")],ns:=919,qualname:="Moot", hasDict:=true,slotNames:=[],subclasses:=[],abstract:=false,collection:=none,hasDel:=false }),#[none,none,some (.str "Moot" 959),some (.str "Moot" 967),some (.builtin "object.__new__"),some (.bool true)]⟩)<|
 kf 930 "_law_src" 1384 500 1 1388 (Zv p 59) pm6<|
 kf 937 "_law_next" 1391 502 2 1398 (Zv p 60) pm6<|
 kf 944 "_law_unlike" 1401 517 2 1409 (Zv p 61) pm6<|
 kf0 949 "_law_word" 1412 525 2 1415 (Zv p 62) pm6<|
 kf 956 "_law_names" 1418 528 2 1429 (Zv p 63) pm6<|
 kf 963 "_law_came" 1432 541 2 1438 (Zv p 64) pm6<|
 kf 970 "_law_death" 1441 546 2 1447 (Zv p 65) pm6<|
 kf 977 "_law_is_dead" 1450 551 3 1457 (Zv p 66) pm6<|
 kf 984 "_law_one" 1460 554 2 1465 (Zv p 67) pm6<|
 kf 991 "_law_is_name" 1468 556 1 1473 (Zv p 68) pm6<|
 kf0 996 "_law_bringings" 1476 561 1 1479 (Zv p 69) pm6<|
 kf0 1001 "_law_folk_of" 1482 563 1 1485 (Zv p 70) pm6<|
 kf 1008 "_law_day_of" 1488 566 1 1492 (Zv p 71) pm6<|
 kf 1015 "_law_measured" 1495 570 1 1499 (Zv p 72) pm6<|
 kf 1022 "_law_early_due" 1502 578 2 1508 (Zv p 73) pm6<|
 kf0 1027 "_law_late_due" 1511 591 2 1514 (Zv p 74) pm6<|
 kf0 1032 "_law_due" 1517 610 2 1520 (Zv p 75) pm6<|
 kf 1039 "_law_plain_deed" 1523 619 3 1533 (Zv p 76) pm6<|
 kf 1046 "_law_kinds" 1536 635 2 1543 (Zv p 77) pm6<|
 kf0 1051 "_law_kinds_of" 1546 644 1 1549 (Zv p 78) pm6<|
 kf 1065 "_law_wild" 1562 658 3 1571 (Zv p 80) pm6<|
 kf0 1070 "law" 1574 669 1 1577 (Zv p 81) pm6<|[]
def KK(P:Params):uFg:=Kp PySem.Challenge.pw_forsworn_k31_whole_plain_deeds_refused P
def askd:List Addr:=[3,37,38,57,58,76,77,95,96,114,115,133,134,152,153,171,172,190,191,209,210,228,229,247,248,266,267,285,286,304,305,323,324,342,343,351,352,358,359,365,366,372,373,379,380,384,385,389,390,403,404,410,411,417,418,424,425,478,479,499,500,506,507,513,514,520,521,527,528,534,535,541,542,544,545,555,556,562,563,569,570,574,575,581,582,588,589,593,594,600,601,605,606,619,620,626,627,633,634,640,641,647,648,654,655,661,662,668,669,696,697,895,896,902,903,916,917,919,920,930,931,937,938,944,945,949,950,956,957,963,964,970,971,977,978,984,985,991,992,996,997,1001,1002,1008,1009,1015,1016,1022,1023,1027,1028,1032,1033,1039,1040,1046,1047,1051,1052,1065,1066,1070,1071]
def HK:PySem.W.Hook:=PySem.W.kHook KK askd fun _=>by kernel_rfl
def q:Program:=PySem.W.view PySem.Challenge.pw_forsworn_k31_whole_plain_deeds_refused [0,2,3,4,5,6,7,8,9,10,11,12,13,14,15,16,17,18,20,22,23,24,25,26,27,28,29,31,32,33,35,36,38,39,40,41,42,43,44,45,46,47,48,49,50,51,53,54,55,56,57,59,60,61,62,63,64,65,66,67,68,69,70,71,72,73,74,75,76,77,78,79,80,81]
def ens:List (Str×Str):=[("NoName", "NoName.called"),("NoMeasure", "NoMeasure.called"),("Unknown", "Unknown.called"),("Taken", "Taken.called"),("NoThing", "NoThing.called"),("NoCase", "NoCase.called"),("NoOath", "NoOath.called"),("NotYet", "NotYet.called"),("Dead", "Dead.called"),("NoHeir", "NoHeir.called"),("TooMany", "TooMany.called"),("SwornTwice", "SwornTwice.called"),("Forsworn", "Forsworn.called"),("TooLight", "TooLight.called"),("Broken", "Broken.called"),("NoDeed", "NoDeed.called")]
end Law
namespace PySem.W.Fast
noncomputable def tw11636912260177920307:PySem.Program:=PySem.Challenge.pw_forsworn_k31_whole_plain_deeds_refused
theorem te11636912260177920307:PySem.Challenge.pw_forsworn_k31_whole_plain_deeds_refused=tw11636912260177920307:=rfl
end PySem.W.Fast
lay_quick PySem.Challenge.rw_forsworn_k31_whole_plain_deeds_refused Law.q Law.ens
namespace Law
open PySem L2 PySem.W.Fast
set_option maxRecDepth 1000000
noncomputable abbrev zqP:=(tw2368527892694137696 tw6502770130064647419).prog
theorem Zx5(w:World)(os:PySem.OsState):tw14574945829899846032 zqP w (tw15095419895629540892 w.params os)=some (tw17173385231801463501 w.params os,tw17649063868247884333 zqP):=by
 kernel_rfl
theorem Zx6(w:World)(os:PySem.OsState):tw897522592586576512 zqP w (tw17173385231801463501 w.params os)=some (.next,tw17173385231801463501 w.params os,cP zqP,p0):=by
 kernel_rfl
theorem Zx7(w:World)(os:PySem.OsState):tw3364177927453363911 zqP w 1713 0 9 p0 (tw17173385231801463501 w.params os)=some (.next,(tw15053072615319938550 zqP (tw2665081048563830263.take 6) w.params os),cP zqP,⟨29,0,32,23⟩):=by
 kernel_rfl
theorem Zx8(w:World)(os:PySem.OsState):tw3364177927453363911 zqP w 1459 9 6 ⟨29,0,32,23⟩ (tw15053072615319938550 zqP (tw2665081048563830263.take 6) w.params os)=some (.next,(tw15053072615319938550 zqP (tw2665081048563830263.take 12) w.params os),cP zqP,⟨53,0,56,27⟩):=by
 kernel_rfl
theorem Zx9(w:World)(os:PySem.OsState):tw3364177927453363911 zqP w 973 15 4 ⟨53,0,56,27⟩ (tw15053072615319938550 zqP (tw2665081048563830263.take 12) w.params os)=some (.next,(tw15053072615319938550 zqP (tw2665081048563830263.take 16) w.params os),cP zqP,⟨69,0,72,23⟩):=by
 kernel_rfl
theorem Zqm(w:World)(os:PySem.OsState):Option.map (tw5166864615210023351 zqP w.params) (tw9491608239551792999 zqP w 7940 19 ⟨69,0,72,23⟩ (tw15053072615319938550 zqP (tw2665081048563830263.take 16) w.params os))=some true:=by
 kernel_rfl
theorem Zqn(w:World)(os:PySem.OsState):Option.map (tw9146811602139678113 tw2797900513057943271) (tw9491608239551792999 zqP w 7940 19 ⟨69,0,72,23⟩ (tw15053072615319938550 zqP (tw2665081048563830263.take 16) w.params os))=some (PyProof.Rows.expectedOf tw2797900513057943271,bltViewBooted):=by
 kernel_rfl
theorem Zqo(w:World)(os:PySem.OsState):Option.map (tw4330636226384752446 zqP tw2797900513057943271 ["breakers_stands"] (fun s=>PySem.W.xlAt tw2797900513057943271 [] s && PySem.W.recOk (tw2368527892694137696 tw6502770130064647419).records s)) (tw9491608239551792999 zqP w 7940 19 ⟨69,0,72,23⟩ (tw15053072615319938550 zqP (tw2665081048563830263.take 16) w.params os))=some true:=by
 kernel_rfl
theorem Zqp(w:World)(os:PySem.OsState):Option.map (tw290884773970851577 tw2797900513057943271) (tw9491608239551792999 zqP w 7940 19 ⟨69,0,72,23⟩ (tw15053072615319938550 zqP (tw2665081048563830263.take 16) w.params os))=some true:=by
 kernel_rfl
theorem Zqq(w:World)(os:PySem.OsState):Option.map (tw9020109020722589832 tw2797900513057943271) (tw9491608239551792999 zqP w 7940 19 ⟨69,0,72,23⟩ (tw15053072615319938550 zqP (tw2665081048563830263.take 16) w.params os))=some (pinGoodD (PyProof.Rows.drecsOf tw2797900513057943271)):=by
 kernel_rfl
theorem Zqr(w:World)(os:PySem.OsState):Option.map (tw1658975667393823239 tw2797900513057943271 ["breakers_stands"] 0) (tw9491608239551792999 zqP w 7940 19 ⟨69,0,72,23⟩ (tw15053072615319938550 zqP (tw2665081048563830263.take 16) w.params os))=some (tw10258256380655884400 tw2797900513057943271 ["breakers_stands"] 0):=by
 kernel_rfl
theorem Zqs(w:World)(os:PySem.OsState):Option.map (tw1658975667393823239 tw2797900513057943271 ["breakers_stands"] 1) (tw9491608239551792999 zqP w 7940 19 ⟨69,0,72,23⟩ (tw15053072615319938550 zqP (tw2665081048563830263.take 16) w.params os))=some (tw10258256380655884400 tw2797900513057943271 ["breakers_stands"] 1):=by
 kernel_rfl
theorem Zqt(w:World)(os:PySem.OsState):Option.map (tw1671388014868620310 tw2797900513057943271 ["breakers_stands"] 2) (tw9491608239551792999 zqP w 7940 19 ⟨69,0,72,23⟩ (tw15053072615319938550 zqP (tw2665081048563830263.take 16) w.params os))=some (tw2047387775680494199 tw2797900513057943271 ["breakers_stands"] 2):=by
 kernel_rfl
theorem Zqu(w:World)(os:PySem.OsState):Option.map (tw11153056314078912757 tw2797900513057943271 ["breakers_stands"]) (tw9491608239551792999 zqP w 7940 19 ⟨69,0,72,23⟩ (tw15053072615319938550 zqP (tw2665081048563830263.take 16) w.params os))=some (PyProof.Rows.plainGoodD tw2797900513057943271 ["breakers_stands"]):=by
 kernel_rfl
theorem Zqv(w:World)(os:PySem.OsState):Option.map (tw1743938642414776662 tw2797900513057943271) (tw9491608239551792999 zqP w 7940 19 ⟨69,0,72,23⟩ (tw15053072615319938550 zqP (tw2665081048563830263.take 16) w.params os))=some (PySem.W.wideGood tw2797900513057943271):=by
 kernel_rfl
theorem Zqw(w:World)(os:PySem.OsState):Option.map (tw15055011524645977279 tw2797900513057943271 ["breakers_stands"]) (tw9491608239551792999 zqP w 7940 19 ⟨69,0,72,23⟩ (tw15053072615319938550 zqP (tw2665081048563830263.take 16) w.params os))=some (PySem.W.clsGoodW tw2797900513057943271 ["breakers_stands"]):=by
 kernel_rfl
theorem Zqx(w:World)(os:PySem.OsState):Option.map (fun s=>askd.map s.abs.heap.get?) (tw9491608239551792999 zqP w 7940 19 ⟨69,0,72,23⟩ (tw15053072615319938550 zqP (tw2665081048563830263.take 16) w.params os))=some ((Kp tw11636912260177920307 w.params).map fun p=>some p.2):=by
 kernel_rfl
local macro_rules | `(tactic| walk_at "q")=>`(tactic| (intro h;simp only[← te14574945829899846032,← te897522592586576512,← te3364177927453363911,← te9491608239551792999,← te15053072615319938550,← te17173385231801463501,← te17649063868247884333,← te2665081048563830263,← te5166864615210023351,← te9146811602139678113,← te4330636226384752446,← te290884773970851577,← te9020109020722589832,← te11153056314078912757,← te15055011524645977279,← te1743938642414776662,← te1658975667393823239,← te1671388014868620310,← te10258256380655884400,← te2047387775680494199,← te15095419895629540892,← te2797900513057943271,← te2368527892694137696,← te6502770130064647419,← te14364793385576792824,← te11636912260177920307] at h;exact h))
theorem left:PySem.W.LeftO PySem.Challenge.rw_forsworn_k31_whole_plain_deeds_refused.row.prog q ["breakers_stands"] (fun s=>PySem.W.xlAt q [] s && PySem.W.recOk (PySem.W.RowW.records PySem.Challenge.rw_forsworn_k31_whole_plain_deeds_refused.row.toRowW) s) HK.obs HK.val 12098:=by
 refine Zo1 (M:=4158) (N:=7940) (k:=19) (pos:=⟨69,0,72,23⟩) (s:=fun w os=>errS PySem.Challenge.rw_forsworn_k31_whole_plain_deeds_refused.row.prog (ens.take 16) w.params os) (by kernel_rfl) (by decide) (fun s=>by kernel_rfl) (fun w os=>?_)
  (fun w os=>(by have h:=Zqm w os;revert h;walk_at "q"))
  (fun w os=>(by have h:=Zqn w os;revert h;walk_at "q"))
  (fun w os=>(by have h:=Zqo w os;revert h;walk_at "q"))
  (fun w os=>(by have h:=Zqp w os;revert h;walk_at "q"))
  (fun w os=>(by have h:=Zqq w os;revert h;walk_at "q"))
  (fun w os=>(by have h:=Zqr w os;revert h;walk_at "q"))
  (fun w os=>(by have h:=Zqs w os;revert h;walk_at "q"))
  (fun w os=>(by have h:=Zqt w os;revert h;walk_at "q"))
  (fun w os=>(by have h:=Zqu w os;revert h;walk_at "q"))
  (fun w os=>(by have h:=Zqv w os;revert h;walk_at "q"))
  (fun w os=>(by have h:=Zqw w os;revert h;walk_at "q"))
  (fun w os=>(by have h:=Zqx w os;revert h;walk_at "q"))
 have R:=Reach.zero (p:=PySem.Challenge.rw_forsworn_k31_whole_plain_deeds_refused.row.prog) (w:=w) (os:=os) (by have h:=Zx5 w os;revert h;walk_at "q") (by have h:=Zx6 w os;revert h;walk_at "q")
 have R:=R.step 1713 9 (by have h:=Zx7 w os;revert h;walk_at "q")
 have R:=R.step 1459 6 (by have h:=Zx8 w os;revert h;walk_at "q")
 have R:=R.step 973 4 (by have h:=Zx9 w os;revert h;walk_at "q")
 exact R
end Law
section
namespace L2
open PySem PySem.Spec PyProof.Rows
abbrev Key:=Sum Int Str
def Zbi:Key->Value->Bool
 | .inl k,v=>Value.isInt k v
 | .inr x,v=>Value.isStrOf x v
def Zya(w:World):Key->Int
 | .inl k=>hashInt k
 | .inr x=>hashStr w x
theorem Uk:∀{k:Key}{v:Value},Zbi k v=true->(∃i t,k=Sum.inl i/\v=Value.int i t)\/(∃x t,k=Sum.inr x/\v=Value.str x t)
 | .inl i,v,h=>by
  obtain⟨t,e⟩:=Value.isInt_shape (k:=i) (v:=v) h
  exact .inl ⟨i,t,rfl,e⟩
 | .inr x,v,h=>by
  obtain⟨t,e⟩:=Value.isStrOf_shape (x:=x) (v:=v) h
  exact .inr ⟨x,t,rfl,e⟩
theorem Zn6(i:Int)(t:Tok):Zbi (.inl i) (.int i t)=true:=by simp[Zbi,Value.isInt]
theorem Zn7(x:Str)(t:Tok):Zbi (.inr x) (.str x t)=true:=by simp[Zbi,Value.isStrOf]
theorem Zs4(a b:Int):decide ((Sum.inl a:Key)=Sum.inl b)=(a == b):=by
 by_cases e:a=b
 ·subst e;simp
 ·have h:¬(Sum.inl a:Key)=Sum.inl b:=fun q=>e (Sum.inl.inj q)
  rw[xT h]
  exact(beq_eq_false_iff_ne.mpr e).symm
theorem Zs5(a b:Str):decide ((Sum.inr a:Key)=Sum.inr b)=decide (a=b):=by
 by_cases e:a=b
 ·subst e;simp
 ·have h:¬(Sum.inr a:Key)=Sum.inr b:=fun q=>e (Sum.inr.inj q)
  rw[xT h,xT e]
theorem Zs6(a:Int)(b:Str):decide ((Sum.inl a:Key)=Sum.inr b)=false:=xT (fun q=>nomatch q)
theorem Zs7(a:Str)(b:Int):decide ((Sum.inr a:Key)=Sum.inl b)=false:=xT (fun q=>nomatch q)
def Wr(prog:Program)(w:World):PySem.KeyKind prog w Key where
 is:=Zbi
 hash:=Zya w
 inj:=fun v a b ha hb=>by
  rcases Uk ha with⟨i,t,rfl,rfl⟩ | ⟨x,t,rfl,rfl⟩
  ·rcases Uk hb with⟨j,u,rfl,e⟩ | ⟨y,u,rfl,e⟩
   ·injection e with e1 _;rw[e1]
   ·exact nomatch e
  ·rcases Uk hb with⟨j,u,rfl,e⟩ | ⟨y,u,rfl,e⟩
   ·exact nomatch e
   ·injection e with e1 _;rw[e1]
 byValue:=fun k v h=>by
  rcases Uk h with⟨i,t,rfl,rfl⟩ | ⟨x,t,rfl,rfl⟩<;>rfl
 pyHash:=fun hv h=>by
  rcases Uk hv with⟨i,t,rfl,rfl⟩ | ⟨x,t,rfl,rfl⟩
  ·exact wpAny_pyHash_int h
  ·exact wpAny_pyHash_str h
 eqBool:=fun hu hv h=>by
  rcases Uk hu with⟨i,t,rfl,rfl⟩ | ⟨x,t,rfl,rfl⟩
  ·rcases Uk hv with⟨j,u,rfl,rfl⟩ | ⟨y,u,rfl,rfl⟩
   ·rw[Zs4] at h;exact wpAny_eqBool_int h
   ·rw[Zs6] at h;exact SeqAt.EqAt.int_str i t y u _ _ _ _ h
  ·rcases Uk hv with⟨j,u,rfl,rfl⟩ | ⟨y,u,rfl,rfl⟩
   ·rw[Zs7] at h;exact SeqAt.EqAt.str_int x t j u _ _ _ _ h
   ·rw[Zs5] at h;exact wpAny_eqBool_str h
 «strs»:=fun k x t v h=>by
  rcases Uk h with⟨i,u,rfl,e⟩ | ⟨y,u,rfl,e⟩
  ·exact nomatch e
  ·injection e with e1 _
   subst e1
   cases v<;>rfl
theorem Znc(prog:Program)(w:World)(i:Int)(t:Tok):(Wr prog w).is (.inl i) (.int i t)=true:=Zn6 i t
theorem Znd(prog:Program)(w:World)(x:Str)(t:Tok):(Wr prog w).is (.inr x) (.str x t)=true:=Zn7 x t
end L2
namespace L2
open PySem PySem.Spec PyProof.Rows
inductive V where
 | non | bl (b:Bool) | int (i:Int) | str (x:Str) | byt (b:Array UInt8) | flt (b:UInt64) | ref (a:Addr) | ty (n:String)
 deriving DecidableEq
def RelV:V->Value->Prop
 | .non,u=>u=Value.none
 | .bl b,u=>u=Value.bool b
 | .int i,u=>∃t,u=Value.int i t
 | .str x,u=>∃t,u=Value.str x t
 | .byt b,u=>∃t,u=Value.bytes b t
 | .flt b,u=>∃t,u=Value.float b t
 | .ref a,u=>u=Value.ref a
 | .ty n,u=>u=Value.type n
abbrev Vals:List V->List Value->Prop:=Paired RelV
theorem Vals.length{xs:List V}{us:List Value}(r:Vals xs us):xs.length=us.length:=Paired.length r
theorem Vals.get:∀{xs:List V}{us:List Value}{i:Nat}{x:V},Vals xs us->xs[i]? = some x->∃u,us[i]? = some u/\RelV x u
 | _,_,_,_,.nil,e=>by simp at e
 | _,_,0,_,.cons r _,e=>by simp at e;subst e;exact⟨_,rfl,r⟩
 | _,_,i+1,x,.cons _ t,e=>by
  obtain⟨u,h1,h2⟩:=Vals.get (i:=i) (x:=x) t (by simpa using e)
  exact⟨u,by simpa using h1,h2⟩
theorem Vals.set{x:V}{u:Value}(r:RelV x u):∀{xs:List V}{us:List Value}(i:Nat),Vals xs us->Vals (xs.set i x) (us.set i u)
 | _,_,_,.nil=>.nil
 | _,_,0,.cons _ t=>.cons r t
 | _,_,i+1,.cons q t=>.cons q (Vals.set r i t)
theorem Vals.append:∀{xs ys:List V}{us ws:List Value},Vals xs us->Vals ys ws->Vals (xs++ys) (us++ws)
 | _,_,_,_,.nil,s=>s
 | _,_,_,_,.cons r t,s=>.cons r (Vals.append t s)
theorem Vals.take:∀{xs:List V}{us:List Value}(n:Nat),Vals xs us->Vals (xs.take n) (us.take n)
 | _,_,0,_=>.nil
 | _,_,_+1,.nil=>.nil
 | _,_,n+1,.cons r t=>.cons r (Vals.take n t)
theorem Vals.drop:∀{xs:List V}{us:List Value}(n:Nat),Vals xs us->Vals (xs.drop n) (us.drop n)
 | _,_,0,r=>r
 | _,_,_+1,.nil=>.nil
 | _,_,n+1,.cons _ t=>Vals.drop n t
def RelO:Option V->Option Value->Prop
 | some v,some u=>RelV v u
 | none,none=>True
 | _,_=>False
def KV{κ:Type}:List (κ×V)->List (κ×Value)->Prop:=Paired fun(p : κ×V) (q : κ×Value)=>p.1=q.1/\RelV p.2 q.2
def kV:Key->V
 | .inl i=>.int i
 | .inr x=>.str x
inductive HO where
 | lst (xs:List V)
 | tup (xs:List V)
 | dK (kvs:List (Key×V)) | dT (kvs:List (List Key×V))
 | set (S:Int->Bool) (n:Nat)
 | ins (C dx:Addr) (fs:List (Str×V))
 | own (x:Addr)
 | xd (fs:List (Str×V))
 | met (f x:Addr)
 | rng (lo hi:Int)
 | frz (o:Obj) (u:HO)
 | tbl (ps:Array Value)
 | ext (φ:Heap->Prop)
abbrev Hp:=Addr->Option HO
def upd(H:Hp)(a:Addr)(o:HO):Hp:=fun b=>if b=a then some o else H b
theorem Zg{H:Hp}{a:Addr}{o:HO}:upd H a o a=some o:=by unfold upd;rw[if_pos rfl]
theorem Zf{H:Hp}{a b:Addr}{o:HO}(h:b≠a):upd H a o b=H b:=by unfold upd;rw[if_neg h]
theorem Zux{H:Hp}{a b:Addr}{o u:HO}(h:H a=some o)(h':H b=some u)(d:o≠u):a≠b:=by
 intro e;subst e;rw[h] at h';exact d (Option.some.inj h')
theorem Zp{H:Hp}{a b:Addr}{o:HO}(h:H a=some o)(h':H b=none):a≠b:=by
 intro e;subst e;rw[h] at h';cases h'
section
variable(P:Program)(w:World)
def ObjOk(H:Hp)(h:Heap)(a:Addr):HO->Prop
 | .lst xs=>xs.length<=sizeLine/\∃(its:List Value)(n:Nat),Vals xs its/\h.get? a=some {cls:=.type "list", data:=.seq its.toArray n }
 | .tup xs=>xs.length<=sizeLine/\∃its:List Value,Vals xs its/\IsTup h a its.toArray
 | .dK kvs=>kvs.length<=sizeLine/\(a == sysModules)=false/\∃vs,KV kvs vs/\h.DictOf (Wr P w) a vs
 | .dT kvs=>kvs.length<=sizeLine/\(a == sysModules)=false/\∃xs:List (List Key×Addr×Value),
   Paired (fun(p:List Key×V) (q:List Key×Addr×Value)=>p.1=q.1/\H q.2.1=some (.tup (p.1.map kV))/\RelV p.2 q.2.2) kvs xs /\
   ∃o es ep,h.get? a=some o/\o.ExactDict/\o.data = .dict es ep/\es.toList=xs.map (entryOfKey (tupleKind (Wr P w)))/\(xs.map (·.1)).Nodup
 | .set S n=>h.SetOf (intKind P w) a S n
 | .ins C dx fs=>H dx=some (.own a)/\fs.length<=1000/\dx≠a/\h.get? a=some (PySem.W.instObj C dx)/\
   ∃mA,h.Ns1 dx mA/\(∀f,RelO (fs.lookup f) (mA f))/\PySem.Within mA (fs.map (·.1))
 | .own _=>∃o,h.get? a=some o
 | .xd fs=>∃mA,h.Ns1 a mA/\∀f,RelO (fs.lookup f) (mA f)
 | .rng lo hi=>∃t u v,h.get? a=some {cls:=.type "range", data:=.fields #[.int lo t,.int hi u,.int 1 v] }
 | .frz o u=>h.get? a=some o/\ObjOk H h a u
 | .tbl ps=>∃(qs:Array Value)(nm:Str)(t:Tok),h.get? a=some {cls:=.none,data:=.fields qs }/\TriplesOk qs.toList/\ps[0]? = some (.str nm t)/\∀pos cv,codeAmong pos qs.toList=some cv->∃c,cv = .ref c/\H c=some (.own a)/\h.CodeRec (.ref c) nm
 | .met f x=>h.get? a=some (PySem.W.methodObj (.ref f) (.ref x))
 | .ext φ=>φ h/\(∃o,h.get? a=some o)/\∀h1 h2:Heap,φ h1->(∀o,h1.get? a=some o->h2.get? a=some o)->φ h2
def HOk(H:Hp)(h:Heap):Prop:=∀a o,H a=some o->ObjOk P w H h a o
end
section
variable{P:Program}{w:World}{H H':Hp}{h h':Heap}{a:Addr}{o:HO}
theorem ObjOk.lt(x:ObjOk P w H h a o):a < h.objs.size:=by
 cases o with
 | lst xs=>obtain⟨_,_,_,_,e⟩:=x;exact xO e
 | tup xs=>obtain⟨_,_,_,p⟩:=x;exact p.lt
 | dK kvs=>obtain⟨_,_,_,_,o,_,_,e,_⟩:=x;exact xO e
 | dT kvs=>obtain⟨_,_,_,_,o,_,_,e,_⟩:=x;exact xO e
 | set S n=>obtain⟨o,_,_,_,e,_⟩:=x;exact xO e
 | ins C dx fs=>obtain⟨_,_,_,e,_⟩:=x;exact xO e
 | own y=>obtain⟨_,e⟩:=x;exact xO e
 | xd fs=>obtain⟨_,⟨_,_,_,e,_⟩,_⟩:=x;exact xO e
 | rng lo hi=>obtain⟨_,_,_,e⟩:=x;exact xO e
 | frz ob u=>obtain⟨e,_⟩:=x;exact xO e
 | tbl ps=>obtain⟨_,_,_,e,_⟩:=x;exact xO e
 | met f y=>exact xO (show h.get? a=some _ from x)
 | ext φ=>obtain⟨_,⟨_,e⟩,_⟩:=x;exact xO e
theorem Paired.mapP{α β:Type}{F G : α->β->Prop}:∀{l₁:List α}{l₂:List β},Paired F l₁ l₂->(∀a b,F a b->G a b)->Paired G l₁ l₂
 | _,_,.nil,_=>.nil
 | _,_,.cons r t,f=>.cons (f _ _ r) (Paired.mapP t f)
theorem ObjOk.stay(x:ObjOk P w H h a o)(k:∀b u,(b=a\/H b=some (.own a))->h.get? b=some u->h'.get? b=some u)(ho:∀b,H b=some (.own a)->H' b=some (.own a))(ht:∀b xs,H b=some (.tup xs)->H' b=some (.tup xs)):ObjOk P w H' h' a o:=by
 induction o with
 | lst xs=>obtain⟨z,its,n,r,e⟩:=x;exact⟨z,its,n,r,k _ _ (.inl rfl) e⟩
 | tup xs=>obtain⟨z,its,r,ob,e,c⟩:=x;exact⟨z,its,r,ob,k _ _ (.inl rfl) e,c⟩
 | dK kvs=>obtain⟨z,y,vs,r,ob,es,ep,e,c⟩:=x;exact⟨z,y,vs,r,ob,es,ep,k _ _ (.inl rfl) e,c⟩
 | dT kvs =>
  obtain⟨z,y,xs,r,ob,es,ep,e,c⟩:=x
  exact⟨z,y,xs,Paired.mapP r fun p q z=>⟨z.1,ht _ _ z.2.1,z.2.2⟩,ob,es,ep,k _ _ (.inl rfl) e,c⟩
 | set S n=>obtain⟨ob,es,ep,t,e,c⟩:=x;exact⟨ob,es,ep,t,k _ _ (.inl rfl) e,c⟩
 | ins C dx fs =>
  obtain⟨d,z,ne,e,mA,⟨od,es,ep,e2,c⟩,r⟩:=x
  exact⟨ho _ d,z,ne,k _ _ (.inl rfl) e,mA,⟨od,es,ep,k _ _ (.inr d) e2,c⟩,r⟩
 | own y=>obtain⟨ob,e⟩:=x;exact⟨ob,k _ _ (.inl rfl) e⟩
 | xd fs=>obtain⟨mA,⟨od,es,ep,e,c⟩,r⟩:=x;exact⟨mA,⟨od,es,ep,k _ _ (.inl rfl) e,c⟩,r⟩
 | rng lo hi=>obtain⟨t,u,v,e⟩:=x;exact⟨t,u,v,k _ _ (.inl rfl) e⟩
 | frz ob u ih=>obtain⟨e,q⟩:=x;exact⟨k _ _ (.inl rfl) e,ih q⟩
 | tbl ps =>
  obtain⟨qs,nm,t,e,z1,z2,z3⟩:=x
  refine⟨qs,nm,t,k a _ (.inl rfl) e,z1,z2,fun pos cv ec=>?_⟩
  obtain⟨c,e1,e2,c2,oc,vs,tt,e3,e4,e5⟩:=z3 pos cv ec
  cases e3
  exact⟨c,e1,ho _ e2,c,oc,vs,tt,rfl,k _ _ (.inr e2) e4,e5⟩
 | met f y =>
  have e:h.get? a=some (PySem.W.methodObj (.ref f) (.ref y)):=x
  show h'.get? a=some (PySem.W.methodObj (.ref f) (.ref y))
  exact k a _ (.inl rfl) e
 | ext φ=>obtain⟨p,⟨o,e⟩,st⟩:=x;exact⟨st _ _ p fun o q=>k _ _ (.inl rfl) q,⟨o,k _ _ (.inl rfl) e⟩,st⟩
theorem HOk.lt(x:HOk P w H h)(e:H a=some o):a < h.objs.size:=(x a o e).lt
theorem HOk.fresh(x:HOk P w H h)(e:h.objs.size<=a):H a=none:=by
 cases q:H a with
 | none=>rfl
 | some u=>exact absurd (xS (x.lt q) e) (zL _)
theorem HOk.kept(x:HOk P w H h)(k:∀b u,h.get? b=some u->h'.get? b=some u):HOk P w H h':=fun a o e =>
 (x a o e).stay (fun b u _ q=>k b u q) (fun _ q=>q) fun _ _ q=>q
theorem HOk.laid(x:HOk P w H h)(k:∀b u,h.get? b=some u->h'.get? b=some u)(hp:h.objs.size<=a)(new:ObjOk P w (upd H a o) h' a o):HOk P w (upd H a o) h':=fun b u e=>by
 have hn:=x.fresh hp
 by_cases hb:b=a
 ·subst hb;rw[Zg] at e;cases e;exact new
 ·rw[Zf hb] at e
  exact(x b u e).stay (fun c v _ q=>k c v q) (fun c q=>by rw[Zf (Zp q hn)];exact q) fun c xs q=>by rw[Zf (Zp q hn)];exact q
end
def Rd(H:Hp)(a:Addr)(u:HO):Prop:=H a=some u\/∃o,H a=some (.frz o u)
theorem Rd.ok{P:Program}{w:World}{H:Hp}{h:Heap}{a:Addr}{u:HO}(r:Rd H a u)(x:HOk P w H h):ObjOk P w H h a u:=by
 rcases r with r | ⟨o,r⟩
 ·exact x a u r
 ·obtain⟨_,q⟩:=x a _ r
  exact q
def Mut:Option HO->Prop
 | some (.lst _)=>True
 | some (.dK _)=>True
 | some (.dT _)=>True
 | some (.set _ _)=>True
 | some (.ins _ _ _)=>True
 | some (.ext _)=>True
 | _=>False
section
variable{P:Program}{w:World}{H:Hp}{h h':Heap}{x e:Addr}{o':HO}
theorem HOk.write(ok:HOk P w H h)(mu:Mut (H x))(he:e=x\/H e=some (.own x))(k:∀b u,b≠e->h.get? b=some u->h'.get? b=some u)(heo:∃u,h'.get? e=some u)(new:ObjOk P w (upd H x o') h' x o'):HOk P w (upd H x o') h':=fun b u q=>by
 have nown:∀c y,H c=some (.own y)->c≠x:=fun c y r z=>by subst z;rw[r] at mu;exact mu
 have ntup:∀c xs,H c=some (.tup xs)->c≠x:=fun c xs r z=>by subst z;rw[r] at mu;exact mu
 by_cases hb:b=x
 ·subst hb;rw[Zg] at q;cases q;exact new
 ·rw[Zf hb] at q
  by_cases hbe:b=e
  ·have q':H b=some (.own x):=by
    rcases he with z | z
    ·exact absurd (hbe.trans z) hb
    ·rw[hbe];exact z
   rw[q] at q';cases q'
   obtain⟨v,hv⟩:=heo
   exact⟨v,by rw[hbe];exact hv⟩
  ·refine(ok b u q).stay (fun c v hc r=>k c v ?_ r) (fun c r=>by rw[Zf (nown c b r)];exact r) fun c xs r=>by rw[Zf (ntup c xs r)];exact r
   rcases hc with rfl | hc
   ·exact hbe
   ·rintro rfl
    rcases he with z | z
    ·exact nown c b hc z
    ·rw[hc] at z;cases z;exact hb rfl
end
structure Un (fs ex:List Addr) (H H':Hp) (h h':Heap):Prop where
 keep:∀b o,h.get? b=some o->H b=none->b∉fs->b∉ex->h'.get? b=some o
 slot:∀b o,h.get? b=some o->H b=none->b∈fs->b∉ex->∃sl,h'.get? b=some {o with slots:=sl }
 free:∀b o,h.get? b=some o->H b=none->b∉ex->H' b=none
 there:∀b o,h.get? b=some o->b∉ex->∃o',h'.get? b=some o'
 tups:∀b xs,H b=some (.tup xs)->H' b=some (.tup xs)
 frzs:∀b o u,H b=some (.frz o u)->H' b=some (.frz o u)
 tbls:∀b ps,H b=some (.tbl ps)->∃more,H' b=some (.tbl (ps++more))
section
variable{fs fs' ex ex':List Addr}{H H1 H2:Hp}{h h1 h2 h':Heap}{a x e:Addr}{o:HO}
theorem Un.any(u:Un fs ex H H1 h h1){b:Addr}{ob:Obj}(q:h.get? b=some ob)(n:H b=none)(hx:b∉ex):∃sl,h1.get? b=some {ob with slots:=sl }:=by
 by_cases hb:b∈fs
 ·exact u.slot b ob q n hb hx
 ·exact⟨ob.slots,u.keep b ob q n hb hx⟩
theorem Un.kept(k:∀b u,h.get? b=some u->h'.get? b=some u):Un fs ex H H h h' :=
 ⟨fun b ob q _ _ _=>k b ob q,fun b ob q _ _ _=>⟨ob.slots,k b ob q⟩,fun _ _ _ n _=>n,fun b ob q _=>⟨ob,k b ob q⟩,fun _ _ q=>q,fun _ _ _ q=>q,fun _ ps q=>⟨#[],by rw[q];simp⟩⟩
theorem Un.refl:Un fs ex H H h h:=Un.kept fun _ _ q=>q
theorem Un.laid(k:∀b u,h.get? b=some u->h'.get? b=some u)(hp:h.objs.size<=a)(hn:H a=none):Un fs ex H (upd H a o) h h' where
 keep:=fun b u q _ _ _=>k b u q
 slot:=fun b u q _ _ _=>⟨u.slots,k b u q⟩
 free:=fun b u q n _=>by rw[Zf (yM (xS (xO q) hp))];exact n
 there:=fun b u q _=>⟨u,k b u q⟩
 tups:=fun b xs q=>by rw[Zf (Zp q hn)];exact q
 frzs:=fun b u xs q=>by rw[Zf (Zp q hn)];exact q
 tbls:=fun b ps q=>⟨#[],by rw[Zf (Zp q hn),q];simp⟩
theorem Un.write(mu:Mut (H x))(he:e=x\/H e=some (.own x))(k:∀b u,b≠e->h.get? b=some u->h'.get? b=some u)(heo:∃u,h'.get? e=some u):Un fs ex H (upd H x o) h h':=by
 have hx:∀b,H b=none->b≠x:=fun b n z=>by subst z;rw[n] at mu;exact mu
 have hb:∀b,H b=none->b≠e:=fun b n z=>by
  subst z
  rcases he with r | r
  ·exact hx b n r
  ·rw[n] at r;cases r
 have hm:∀b u,H b=some u->¬Mut (some u)->b≠x:=fun b u q nm z=>by subst z;rw[q] at mu;exact nm mu
 refine⟨fun b u q n _ _=>k b u (hb b n) q,fun b u q n _ _=>⟨u.slots,k b u (hb b n) q⟩,fun b u q n _=>by rw[Zf (hx b n)];exact n,fun b u q _=>?_,
  fun b xs q=>by rw[Zf (hm b _ q fun z=>z)];exact q,fun b u xs q=>by rw[Zf (hm b _ q fun z=>z)];exact q,fun b ps q=>⟨#[],by rw[Zf (hm b _ q fun z=>z),q];simp⟩⟩
 by_cases hbe:b=e
 ·subst hbe;exact heo
 ·exact⟨u,k b u hbe q⟩
end
def trk(h:Heap)(H:Hp):List Addr:=(List.range h.objs.size).filter fun a=>(H a).isSome
def Ul(h:Heap)(H:Hp):Heap:=PySem.W.hideAll h (trk h H)
theorem Zn8(h:Heap)(H:Hp):(Ul h H).objs.size=h.objs.size:=PySem.W.hideAll_size _ _
theorem Zo2{h:Heap}{H:Hp}{b:Addr}{o:Obj}(e:h.get? b=some o)(n:H b=none):(Ul h H).get? b=some o :=
 PySem.W.hideAll_get _ e fun hm=>by
  have q:(H b).isSome=true:=(List.mem_filter.mp hm).2
  rw[n] at q;simp at q
theorem Zqy{h:Heap}{H:Hp}{b:Addr}{o:Obj}(e:(Ul h H).get? b=some o):h.get? b=some o/\H b=none:=by
 have e':h.get? b=some o:=PySem.W.of_hideAll (trk h H) e
 refine⟨e',?_⟩
 cases q:H b with
 | none=>rfl
 | some x =>
  have hm:b∈trk h H:=List.mem_filter.mpr ⟨List.mem_range.mpr (xO e'),by simp[q]⟩
  have z:(Ul h H).get? b=none:=PySem.W.hideAll_none (trk h H) hm
  rw[z] at e;cases e
end L2
namespace L2
open PySem PySem.Spec PyProof.Rows
structure Mod (K:uFg) (mg:Str->Option Value) (base:Heap):Prop where
 kin:K.In base
 glob:base.Ns mainGlobals mg
 blt:∃mb,base.Ns builtinsNs mb/\∀x:Str,x ≠ "__name__" -> mb x=bootBuiltins x
 nolimit:base.NoLimit
/-- the context: a def's body (or a comprehension's block) running. base: fixed through the whole law;s₀,H₀: the entry;outer: the frames whose slots others may change (a def's callers);stack: all frames that run;
   ex: iterators that were made ahead of the entry and are walked here (a comprehension's);fn: the names whose cells were made at the entry (a def: all;a comprehension's block: its own);calm: not within an except suite;pn: pins that every state bears;xe: what is wanted of an exception that leaves the code -/
structure Cx where
 prog:Program
 w:World
 K:uFg
 mg:Str->Option Value
 base:Heap
 A:Around
 N:List Str
 s₀:Shared
 H₀:Hp
 env:Env
 outer:List Env
 stack:List Env
 ex:List Addr
 fn:Str->Bool
 calm:Bool
 pn:List (Addr×Obj)
 xe:Value->Shared->Prop
def frs(l:List Env):List Addr:=l.filterMap (·.frame)
abbrev Cx.fs(X:Cx):List Addr:=frs X.outer
def Vis(sc:Scope)(x:Str):Prop:=sc.names.lookup x=some .local\/sc.names.lookup x=some .cell\/sc.names.lookup x=some .free
def Loc(sc:Scope)(x:Str):Prop:=sc.names.lookup x=some .local\/sc.names.lookup x=some .cell
def Zyb(env:Env)(h:Heap)(m:Str->Option Value)(x:Str)(u:Value):Prop :=
 (env.kindOf x=some .local/\m x=some u)\/((env.kindOf x=some .cell\/env.kindOf x=some .free)/\∃c,env.cells.lookup x=some c/\h.IsCell c (some u))
structure Cx.Ok (X:Cx):Prop where
 mod:Mod X.K X.mg X.base
 kind:X.env.scope.kind = .function
 glob:X.env.globals=mainGlobals
 blt:X.env.builtins=builtinsNs
 above:X.s₀.heap.objs.size<=X.env.locals
 inj:∀x y c,X.env.cells.lookup x=some c->X.env.cells.lookup y=some c->x=y
 has:∀x,(X.env.kindOf x=some .cell\/X.env.kindOf x=some .free)->∃c,X.env.cells.lookup x=some c
 cab:∀x c,X.fn x=true->X.env.cells.lookup x=some c->X.s₀.heap.objs.size<=c
 hd:X.calm=true->X.A.handled=none
 frames:X.A.frames=some X.stack
 stk:X.stack=X.outer\/(X.stack=X.env::X.outer/\X.env.frame=some X.env.locals)
 exf:∀b∈X.ex,b≠X.env.locals/\∀x c,X.env.cells.lookup x=some c->c≠b
 bs:∀b o,X.base.get? b=some o->X.s₀.heap.get? b=some o/\X.H₀ b=none
 bsz:X.base.objs.size<=X.s₀.heap.objs.size
 noex:∀b o,X.base.get? b=some o->b∉X.ex
 exfs:∀b∈X.ex,b∉X.fs
 funs:X.s₀.heap.FunFrames X.base X.outer
 frf:∀b∈X.fs,X.H₀ b=none
structure Inv (X:Cx) (pins:List (Addr×Obj)) (σ:List (Option V)) (H:Hp) (s:Shared):Prop where
 ok:X.Ok
 os:s.os=X.s₀.os
 bare:AllBare s.gens
 base:Un X.fs X.ex X.H₀ H X.s₀.heap s.heap
 loc:∃m,s.heap.Ns X.env.locals m/\∀(i:Nat)(x:Str)(v:V),X.N[i]? = some x->σ[i]? = some (some v)->Vis X.env.scope x->∃u,RelV v u/\Zyb X.env s.heap m x u
 cell:∀x c,X.env.cells.lookup x=some c->∃v,s.heap.IsCell c v
 free:H X.env.locals=none
 freeC:∀x c,X.env.cells.lookup x=some c->H c=none
 pin:∀p∈X.pn++pins,s.heap.get? p.1=some p.2/\H p.1=none/\p.1≠X.env.locals/\p.1∉X.fs/\∀v,p.2.data ≠ .cell v
 hok:HOk X.prog X.w H s.heap
 len : σ.length=X.N.length
section
variable{X:Cx}{pins:List (Addr×Obj)}{σ:List (Option V)}{H H':Hp}{s:Shared}{h':Heap}
theorem Cx.Ok.nofr(ok:X.Ok){b:Addr}{o:Obj}(e:X.base.get? b=some o):b∉X.fs:=fun hb=>by
 have:=(ok.funs.mem hb).1
 rw[e] at this;cases this
theorem Inv.bs(I:Inv X pins σ H s):∀b o,X.base.get? b=some o->s.heap.get? b=some o/\H b=none:=fun b o e =>
 ⟨I.base.keep b o (I.ok.bs b o e).1 (I.ok.bs b o e).2 (I.ok.nofr e) (I.ok.noex b o e),I.base.free b o (I.ok.bs b o e).1 (I.ok.bs b o e).2 (I.ok.noex b o e)⟩
theorem Inv.bk(I:Inv X pins σ H s):∀b o,X.base.get? b=some o->s.heap.get? b=some o:=fun b o e=>(I.bs b o e).1
theorem Inv.mod(I:Inv X pins σ H s):Mod X.K X.mg X.base:=I.ok.mod
theorem Inv.kIn(I:Inv X pins σ H s):X.K.In s.heap:=I.ok.mod.kin.keeps I.bk
theorem Inv.lt(I:Inv X pins σ H s):X.env.locals < s.heap.objs.size:=let ⟨_,hn,_⟩:=I.loc;hn.lt
theorem Inv.sz(I:Inv X pins σ H s):X.s₀.heap.objs.size<=s.heap.objs.size:=yK I.ok.above (Nat.le_of_lt I.lt)
theorem Inv.nofs(I:Inv X pins σ H s){a:Addr}(h:s.heap.objs.size<=a):a∉X.fs:=fun hb=>by
 obtain⟨_,o,ho,_⟩:=I.ok.funs.mem hb
 exact absurd (xS (xO ho) (yK I.sz h)) (zL _)
theorem Inv.cne(I:Inv X pins σ H s):∀x c,X.env.cells.lookup x=some c->c≠X.env.locals:=fun x c e z=>by
 obtain⟨v,o,ho,hd⟩:=I.cell x c e
 obtain⟨m,⟨o',es,ep,ho',hd',_⟩,_⟩:=I.loc
 rw[z,ho'] at ho;cases ho;rw[hd'] at hd;cases hd
theorem Inv.funs(I:Inv X pins σ H s):s.heap.FunFrames X.base X.outer:=by
 have all:∀(l:List Env),(∀b∈frs l,b∈X.fs)->X.s₀.heap.FunFrames X.base l->s.heap.FunFrames X.base l:=by
  intro l
  induction l with
  | nil=>intro _ _;trivial
  | cons env r ih =>
   intro hs hl
   obtain⟨hk,⟨L,o,hf,hn,ho,hd⟩,hr⟩:=hl
   have hL:L∈X.fs:=hs L (by unfold frs;rw[List.filterMap_cons,hf];exact yC)
   obtain⟨sl,e⟩:=I.base.slot L o ho (I.ok.frf L hL) hL fun z=>I.ok.exfs L z hL
   exact⟨hk,⟨L,_,hf,hn,e,hd⟩,ih (fun b hb=>hs b (by unfold frs;rw[List.filterMap_cons,hf];exact xX _ hb)) hr⟩
 exact all X.outer (fun _ hb=>hb) I.ok.funs
theorem Inv.stack(I:Inv X pins σ H s):s.heap.FunFrames X.base X.stack:=by
 rcases I.ok.stk with e | ⟨e,hf⟩
 ·rw[e];exact I.funs
 ·rw[e]
  obtain⟨m,hn,_⟩:=I.loc
  refine .cons (by rw[I.ok.kind];decide) hf hn ?_ I.funs
  exact Heap.get?_none_of_le (yK I.ok.bsz I.ok.above)
theorem Inv.stkSub(I:Inv X pins σ H s):∀b∈frs X.stack,b∈X.env.locals::X.fs:=fun b hb=>by
 rcases I.ok.stk with e | ⟨e,hf⟩
 ·rw[e] at hb;exact xX _ hb
 ·rw[e] at hb
  unfold frs at hb
  rw[List.filterMap_cons,hf] at hb
  exact hb
theorem Inv.stkFree(I:Inv X pins σ H s):∀b∈frs X.stack,H b=none:=fun b hb=>by
 rcases xE.mp (I.stkSub b hb) with e | hb
 ·rw[e];exact I.free
 ·obtain⟨_,o,ho,_⟩:=I.ok.funs.mem hb
  exact I.base.free b o ho (I.ok.frf b hb) fun z=>I.ok.exfs b z hb
theorem Inv.step{g':Array GenState}{t':Nat}{d':Drawn}{ch:List Addr}(I:Inv X pins σ H s)(hch:∀b∈ch,(b∈X.ex\/X.s₀.heap.objs.size<=b)/\b≠X.env.locals/\(∀x c,X.env.cells.lookup x=some c->c≠b)/\∀p∈X.pn++pins,p.1≠b)(keep:∀b o,b≠X.env.locals->b∉X.fs->b∉ch->s.heap.get? b=some o->H b=none->h'.get? b=some o)(slot:∀b o,b≠X.env.locals->b∈X.fs->b∉ch->s.heap.get? b=some o->H b=none->∃sl,h'.get? b=some {o with slots:=sl })(free:∀b o,b∉ch->s.heap.get? b=some o->H b=none->H' b=none)(there:∀b o,b∉ch->s.heap.get? b=some o->∃o',h'.get? b=some o')(tups:∀b xs,H b=some (.tup xs)->H' b=some (.tup xs))(frzs:∀b o u,H b=some (.frz o u)->H' b=some (.frz o u))(tbls:∀b ps,H b=some (.tbl ps)->∃more,H' b=some (.tbl (ps++more)))(ns:∀m,s.heap.Ns X.env.locals m->h'.Ns X.env.locals m)(hok:HOk X.prog X.w H' h')(hg:AllBare g') :
  Inv X pins σ H' {s with heap:=h',gens:=g',drawn:=d',toks:=t' }:=by
 have neL:∀b o,X.s₀.heap.get? b=some o->b≠X.env.locals:=fun b o e=>yM (xS (xO e) I.ok.above)
 have neC:∀b o,X.s₀.heap.get? b=some o->b∉X.ex->b∉ch:=fun b o e hx hb=>by
  rcases(hch b hb).1 with z | z
  ·exact hx z
  ·exact absurd (xS (xO e) z) (zL _)
 have cellK:∀x c,X.env.cells.lookup x=some c->∀v,s.heap.IsCell c v->h'.IsCell c v:=fun x c e v ⟨o,ho,hd⟩=>by
  have nch:c∉ch:=fun z=>(hch c z).2.2.1 x c e rfl
  by_cases hc:c∈X.fs
  ·obtain⟨sl,q⟩:=slot c o (I.cne x c e) hc nch ho (I.freeC x c e)
   exact⟨_,q,hd⟩
  ·exact⟨o,keep c o (I.cne x c e) hc nch ho (I.freeC x c e),hd⟩
 refine⟨I.ok,I.os,hg,⟨fun b o e n hb hx=>?_,fun b o e n hb hx=>?_,fun b o e n hx=>?_,fun b o e hx=>?_,fun b xs e=>tups b xs (I.base.tups b xs e),fun b o xs e=>frzs b o xs (I.base.frzs b o xs e),fun b ps e=>?_⟩,?_,fun x c e=>?_,?_,fun x c e=>?_,fun p hp=>?_,hok,I.len⟩
 ·exact keep b o (neL b o e) hb (neC b o e hx) (I.base.keep b o e n hb hx) (I.base.free b o e n hx)
 ·obtain⟨sl,e1⟩:=I.base.slot b o e n hb hx
  obtain⟨sl',e2⟩:=slot b _ (neL b o e) hb (neC b o e hx) e1 (I.base.free b o e n hx)
  exact⟨sl',e2⟩
 ·obtain⟨o',e1⟩:=I.base.there b o e hx
  exact free b o' (neC b o e hx) e1 (I.base.free b o e n hx)
 ·obtain⟨o',e1⟩:=I.base.there b o e hx
  exact there b o' (neC b o e hx) e1
 ·obtain⟨m1,e1⟩:=I.base.tbls b ps e
  obtain⟨m2,e2⟩:=tbls b _ e1
  exact⟨m1++m2,by rw[e2,Array.append_assoc]⟩
 ·obtain⟨m,hn,hl⟩:=I.loc
  refine⟨m,ns m hn,fun i x v e1 e2 e3=>?_⟩
  obtain⟨u,r,l⟩:=hl i x v e1 e2 e3
  refine⟨u,r,?_⟩
  rcases l with l | ⟨k,c,e,z⟩
  ·exact .inl l
  ·exact .inr ⟨k,c,e,cellK x c e _ z⟩
 ·obtain⟨v,z⟩:=I.cell x c e
  exact⟨v,cellK x c e v z⟩
 ·obtain⟨m,⟨o,_,_,ho,_⟩,_⟩:=I.loc
  exact free _ o (fun z=>(hch _ z).2.1 rfl) ho I.free
 ·obtain⟨v,o,ho,hd⟩:=I.cell x c e
  exact free c o (fun z=>(hch c z).2.2.1 x c e rfl) ho (I.freeC x c e)
 ·obtain⟨e,n,ne,nf,d⟩:=I.pin p hp
  have nch:p.1∉ch:=fun z=>(hch p.1 z).2.2.2 p hp rfl
  exact⟨keep p.1 p.2 ne nf nch e n,free p.1 p.2 nch e n,ne,nf,d⟩
theorem Inv.un{t':Nat}(I:Inv X pins σ H s)(u:Un X.fs [] H H' s.heap h')(hok:HOk X.prog X.w H' h'):Inv X pins σ H' {s with heap:=h',toks:=t' }:=by
 obtain⟨m,⟨o,es,ep,ho,r⟩,_⟩:=id I.loc
 obtain⟨sl,hL⟩:=u.any ho I.free (by simp)
 exact I.step (g':=s.gens) (d':=s.drawn) (ch:=[]) (fun _ z=>nomatch z) (fun b o _ hb _ e n=>u.keep b o e n hb (by simp)) (fun b o _ hb _ e n=>u.slot b o e n hb (by simp)) (fun b o _ e n=>u.free b o e n (by simp)) (fun b o _ e=>u.there b o e (by simp)) u.tups u.frzs u.tbls (fun m' hm=>by
  obtain⟨o',es',ep',ho',r'⟩:=hm
  rw[ho] at ho';cases ho'
  exact⟨_,es',ep',hL,r'⟩) hok I.bare
theorem Inv.call{g':Array GenState}{t':Nat}{d':Drawn}{ch:List Addr}(I:Inv X pins σ H s)(u:Un (frs X.stack) ch H H' s.heap h')(hok:HOk X.prog X.w H' h')(hg:AllBare g')(hch:∀b∈ch,(b∈X.ex\/X.s₀.heap.objs.size<=b)/\b≠X.env.locals/\(∀x c,X.env.cells.lookup x=some c->c≠b)/\∀p∈X.pn++pins,p.1≠b) :
  Inv X pins σ H' {s with heap:=h',gens:=g',drawn:=d',toks:=t' }:=by
 obtain⟨m,⟨o,es,ep,ho,r⟩,_⟩:=id I.loc
 obtain⟨sl,hL⟩:=u.any ho I.free fun z=>(hch _ z).2.1 rfl
 exact I.step (ch:=ch) hch (fun b o hL hb hc e n=>u.keep b o e n (fun z=>(xE.mp (I.stkSub b z)).elim hL hb) hc) (fun b o _ _ hc e n=>u.any e n hc) (fun b o hc e n=>u.free b o e n hc) (fun b o hc e=>u.there b o e hc) u.tups u.frzs u.tbls (fun m' hm=>by
  obtain⟨o',es',ep',ho',r'⟩:=hm
  rw[ho] at ho';cases ho'
  exact⟨_,es',ep',hL,r'⟩) hok hg
theorem Inv.turned{t':Nat}{it:Addr}(I:Inv X pins σ H s)(k:∀b o,b≠it->s.heap.get? b=some o->h'.get? b=some o)(hn:H it=none)(hL:it≠X.env.locals)(h1:it∈X.ex\/X.s₀.heap.objs.size<=it)(h2:∀x c,X.env.cells.lookup x=some c->c≠it)(h3:∀p∈X.pn++pins,p.1≠it):Inv X pins σ H {s with heap:=h',toks:=t' }:=by
 have nit:∀b u,H b=some u->b≠it:=fun b u e z=>by rw[z,hn] at e;cases e
 refine I.step (g':=s.gens) (d':=s.drawn) (ch:=[it]) (fun b hb=>?_) (fun b o _ _ hc e _=>k b o (fun z=>hc (by simp[z])) e) (fun b o _ _ hc e _=>⟨o.slots,k b o (fun z=>hc (by simp[z])) e⟩) (fun _ _ _ _ n=>n)
  (fun b o hc e=>⟨o,k b o (fun z=>hc (by simp[z])) e⟩) (fun _ _ e=>e) (fun _ _ _ e=>e) (fun b ps e=>⟨#[],by rw[e];simp⟩) (fun m hm=>?_) (fun b u e=>?_) I.bare
 ·have e:b=it:=by simpa using hb
  subst e
  exact⟨h1,hL,h2,h3⟩
 ·obtain⟨o,es,ep,ho,r⟩:=hm
  exact⟨o,es,ep,k _ o (Ne.symm hL) ho,r⟩
 ·refine(I.hok b u e).stay (fun c v hc q=>k c v ?_ q) (fun _ q=>q) fun _ _ q=>q
  rcases hc with z | z
  ·rw[z];exact nit b u e
  ·exact nit c _ z
theorem Inv.tok(I:Inv X pins σ H s)(t:Nat):Inv X pins σ H {s with toks:=t }:=I.un (h':=s.heap) (t':=t) Un.refl I.hok
theorem Inv.kept{t':Nat}(I:Inv X pins σ H s)(k:∀b u,s.heap.get? b=some u->h'.get? b=some u):Inv X pins σ H {s with heap:=h',toks:=t' }:=I.un (Un.kept k) (I.hok.kept k)
theorem Inv.laid{a:Addr}{o:HO}{t':Nat}(I:Inv X pins σ H s)(k:∀b u,s.heap.get? b=some u->h'.get? b=some u)(hp:s.heap.objs.size<=a)(new:ObjOk X.prog X.w (upd H a o) h' a o) :
  Inv X pins σ (upd H a o) {s with heap:=h',toks:=t' }:=I.un (Un.laid k hp (I.hok.fresh hp)) (I.hok.laid k hp new)
theorem Inv.write{x e:Addr}{o:HO}{t':Nat}(I:Inv X pins σ H s)(mu:Mut (H x))(he:e=x\/H e=some (.own x))(k:∀b u,b≠e->s.heap.get? b=some u->h'.get? b=some u)(heo:∃u,h'.get? e=some u)(new:ObjOk X.prog X.w (upd H x o) h' x o):Inv X pins σ (upd H x o) {s with heap:=h',toks:=t' }:=I.un (Un.write mu he k heo) (I.hok.write mu he k heo new)
theorem Inv.pins_of{pins':List (Addr×Obj)}(I:Inv X pins σ H s)(h:∀p∈pins',s.heap.get? p.1=some p.2/\H p.1=none/\p.1≠X.env.locals/\p.1∉X.fs/\∀v,p.2.data ≠ .cell v):Inv X pins' σ H s :=
 ⟨I.ok,I.os,I.bare,I.base,I.loc,I.cell,I.free,I.freeC,fun p hp=>(xM.mp hp).elim (fun z=>I.pin p (zO _ z)) (h p),I.hok,I.len⟩
theorem Zef{N:List Str}(hN:N.Nodup){i j:Nat}{x:Str}(a:N[i]? = some x)(b:N[j]? = some x):i=j:=by
 obtain⟨h1,e1⟩:=xQ.mp a
 obtain⟨h2,e2⟩:=xQ.mp b
 exact(List.getElem_inj hN).mp (e1.trans e2.symm)
theorem Zn9{M:Model}{A:Around}{E:Value->Shared->Prop}{i:Nat}{x:Str}{v:V}{u:Value}{Q:Unit->Shared->Prop}(I:Inv X pins σ H s)(hN:X.N.Nodup)(hi:X.N[i]? = some x)(hx:Loc X.env.scope x)(r:RelV v u)(h:∀s',Inv X pins (σ.set i (some v)) H s'->(∃a,Heap.SameBut a s.heap s'.heap/\(a=X.env.locals\/X.env.cells.lookup x=some a))->Q () s')(hf:X.fn x=true\/X.env.scope.names.lookup x=some .local:=by first | exact .inl rfl | exact .inr rfl | assumption):wpAny M A (storeName X.env x u) Q E s:=by
 obtain⟨m,hn,hl⟩:=id I.loc
 have hcls:(X.env.scope.kind == .class || (X.env.scope.kind == .module && X.env.locals != X.env.globals))=false:=by rw[I.ok.kind];rfl
 have hiσ:i < σ.length:=by rw[I.len];exact(xQ.mp hi).1
 have cne:=I.cne
 have tracked:∀{a:Addr}{h':Heap},(∃o,s.heap.get? a=some o/\H a=none)->Heap.SameBut a s.heap h'->HOk X.prog X.w H h':=fun {a h'} ha hs b ob e=>by
  obtain⟨_,_,hfree⟩:=ha
  refine(I.hok b ob e).stay (fun c w' hc q=>(hs.2 c ?_).trans q) (fun _ q=>q) fun _ _ q=>q
  rintro rfl
  rcases hc with rfl | hc
  ·rw[hfree] at e;cases e
  ·rw[hfree] at hc;cases hc
 rcases hx with hk | hk
 ·refine wpAny_storeName_local hk hn (fun h' hn' hs=>?_) hcls
  obtain⟨oL,_,_,hoL,_⟩:=id hn
  refine h _ ⟨I.ok,I.os,I.bare,⟨fun b o e n hb hx=>?_,fun b o e n hb hx=>?_,I.base.free,fun b o e hx=>?_,I.base.tups,I.base.frzs,I.base.tbls⟩,⟨_,hn',fun j y v' e1 e2 e3=>?_⟩,fun y c e=>?_,I.free,I.freeC,fun p hp=>?_,tracked ⟨oL,hoL,I.free⟩ hs,by simpa using I.len⟩ ⟨_,hs,.inl rfl⟩
  ·exact(hs.2 b (yM (xS (xO e) I.ok.above))).trans (I.base.keep b o e n hb hx)
  ·obtain⟨sl,e1⟩:=I.base.slot b o e n hb hx
   exact⟨sl,(hs.2 b (yM (xS (xO e) I.ok.above))).trans e1⟩
  ·obtain⟨o',e1⟩:=I.base.there b o e hx
   exact⟨o',(hs.2 b (yM (xS (xO e) I.ok.above))).trans e1⟩
  ·by_cases hj:j=i
   ·subst hj
    rw[hi] at e1;cases e1
    rw[List.getElem?_set_self hiσ] at e2
    cases e2
    exact⟨u,r,.inl ⟨hk,by simp⟩⟩
   ·rw[List.getElem?_set_ne (Ne.symm hj)] at e2
    obtain⟨u',r',q⟩:=hl j y v' e1 e2 e3
    refine⟨u',r',?_⟩
    rcases q with⟨k,e⟩ | ⟨k,c,e,z⟩
    ·refine .inl ⟨k,?_⟩
     have:y≠x:=fun e=>hj (Zef hN e1 (e▸hi))
     simp[this,e]
    ·exact .inr ⟨k,c,e,z.sameBut hs (cne y c e)⟩
  ·obtain⟨w',z⟩:=I.cell y c e
   exact⟨w',z.sameBut hs (cne y c e)⟩
  ·obtain⟨e,n,ne,nf,d⟩:=I.pin p hp
   exact⟨(hs.2 p.1 ne).trans e,n,ne,nf,d⟩
 ·have hfn:X.fn x=true:=by
   rcases hf with z | z
   ·exact z
   ·rw[z] at hk;cases hk
  obtain⟨c,hc⟩:=I.ok.has x (.inl hk)
  obtain⟨w',z⟩:=I.cell x c hc
  refine wpAny_storeName_cell I.ok.kind hk hc z (fun h' hc' hs=>?_)
  obtain⟨oc,hoc,hocd⟩:=id z
  refine h {s with heap:=h' } ⟨I.ok,I.os,I.bare,⟨fun b o e n hb hx=>?_,fun b o e n hb hx=>?_,I.base.free,fun b o e hx=>?_,I.base.tups,I.base.frzs,I.base.tbls⟩,⟨m,hn.sameBut hs (Ne.symm (cne x c hc)),fun j y v' e1 e2 e3=>?_⟩,fun y c' e=>?_,I.free,I.freeC,fun p hp=>?_,tracked ⟨oc,hoc,I.freeC x c hc⟩ hs,by simpa using I.len⟩ ⟨c,hs,.inr hc⟩
  ·exact(hs.2 b (yM (xS (xO e) (I.ok.cab x c hfn hc)))).trans (I.base.keep b o e n hb hx)
  ·obtain⟨sl,e1⟩:=I.base.slot b o e n hb hx
   exact⟨sl,(hs.2 b (yM (xS (xO e) (I.ok.cab x c hfn hc)))).trans e1⟩
  ·obtain⟨o',e1⟩:=I.base.there b o e hx
   exact⟨o',(hs.2 b (yM (xS (xO e) (I.ok.cab x c hfn hc)))).trans e1⟩
  ·by_cases hj:j=i
   ·subst hj
    rw[hi] at e1;cases e1
    rw[List.getElem?_set_self hiσ] at e2
    cases e2
    exact⟨u,r,.inr ⟨.inl hk,c,hc,hc'⟩⟩
   ·rw[List.getElem?_set_ne (Ne.symm hj)] at e2
    obtain⟨u',r',q⟩:=hl j y v' e1 e2 e3
    refine⟨u',r',?_⟩
    rcases q with q | ⟨k,c',e,z'⟩
    ·exact .inl q
    ·refine .inr ⟨k,c',e,z'.sameBut hs ?_⟩
     rintro rfl
     exact hj (Zef hN e1 (I.ok.inj _ _ _ e hc▸hi))
  ·by_cases hcc:c'=c
   ·subst hcc;exact⟨_,hc'⟩
   ·obtain⟨w2,z2⟩:=I.cell y c' e
    exact⟨w2,z2.sameBut hs hcc⟩
  ·obtain⟨e,n,ne,nf,d⟩:=I.pin p hp
   refine⟨(hs.2 p.1 ?_).trans e,n,ne,nf,d⟩
   intro q
   rw[q,hoc] at e
   have q':oc=p.2:=Option.some.inj e
   exact d w' (by rw[← q'];exact hocd)
theorem Zc2{M:Model}{A:Around}{E:Value->Shared->Prop}{i:Nat}{x:Str}{v:V}{u:Value}{Q:Unit->Shared->Prop}(I:Inv X pins σ H s)(hN:X.N.Nodup)(hi:X.N[i]? = some x)(hx:Loc X.env.scope x)(r:RelV v u)(h:∀s',Inv X pins (σ.set i (some v)) H s'->Q () s')(hf:X.fn x=true\/X.env.scope.names.lookup x=some .local:=by first | exact .inl rfl | exact .inr rfl | assumption):wpAny M A (storeName X.env x u) Q E s :=
 Zn9 I hN hi hx r (fun s' I' _=>h s' I') hf
theorem Inv.call'{s':Shared}{ch:List Addr}(I:Inv X pins σ H s)(ho:s'.os=s.os)(u:Un (frs X.stack) ch H H' s.heap s'.heap)(hok:HOk X.prog X.w H' s'.heap)(hg:AllBare s'.gens)(hch:∀b∈ch,(b∈X.ex\/X.s₀.heap.objs.size<=b)/\b≠X.env.locals/\(∀x c,X.env.cells.lookup x=some c->c≠b)/\∀p∈X.pn++pins,p.1≠b):Inv X pins σ H' s':=by
 obtain⟨h',g',d',t',o'⟩:=s'
 have e:o'=s.os:=ho
 subst e
 exact I.call (g':=g') (t':=t') (d':=d') u hok hg hch
end
abbrev XK:=Value->Option Addr->Hp->Prop
abbrev St:=List (Option V)
abbrev VK:=V->Hp->Prop
abbrev TE:=St->Hp->VK->Prop
abbrev TT:=St->Hp->(Bool->Hp->Prop)->Prop
abbrev TA:=St->Hp->(List V->Hp->Prop)->Prop
structure Ends where
 nx:St->Hp->Prop
 rt:VK
 bk:St->Hp->Prop:=fun _ _=>False
 ct:St->Hp->Prop:=fun _ _=>False
abbrev TS:=Ends->St->Hp->Prop
def EP(X:Cx)(pins:List (Addr×Obj))(σ:St)(Q:VK)(u:Value)(s':Shared):Prop:=∃v H',Inv X pins σ H' s'/\RelV v u/\Q v H'
def TP(X:Cx)(pins:List (Addr×Obj))(σ:St)(Q:Bool->Hp->Prop)(b:Bool)(s':Shared):Prop:=∃H',Inv X pins σ H' s'/\Q b H'
def AP(X:Cx)(pins:List (Addr×Obj))(σ:St)(Q:List V->Hp->Prop)(us:List Value)(s':Shared):Prop:=∃vs H',Inv X pins σ H' s'/\Vals vs us/\Q vs H'
def SP(X:Cx)(pins:List (Addr×Obj))(D:Ends)(f:Flow)(s':Shared):Prop :=
 match f with
 | .next=>∃ σ' H',Inv X pins σ' H' s'/\D.nx σ' H'
 | .brk=>∃ σ' H',Inv X pins σ' H' s'/\D.bk σ' H'
 | .cont=>∃ σ' H',Inv X pins σ' H' s'/\D.ct σ' H'
 | .ret u=>∃v σ' H',Inv X pins σ' H' s'/\RelV v u/\D.rt v H'
def PE(X:Cx)(e:Expr)(t:TE):Prop :=
 ∀(pins:List (Addr×Obj))(s:Shared)(σ:St)(H:Hp)(Q:VK),Inv X pins σ H s->t σ H Q->wpAny (model X.prog X.w) X.A (eval e X.env) (EP X pins σ Q) X.xe s
def PT(X:Cx)(e:Expr)(t:TT):Prop :=
 ∀(pins:List (Addr×Obj))(s:Shared)(σ:St)(H:Hp)(Q:Bool->Hp->Prop),Inv X pins σ H s->t σ H Q->wpAny (model X.prog X.w) X.A (isTrue e X.env (eval e X.env)) (TP X pins σ Q) X.xe s
def PW(X:Cx)(e:Expr)(t:TT):Prop :=
 ∀(whole:Sem Value)(pins:List (Addr×Obj))(s:Shared)(σ:St)(H:Hp)(Q:Bool->Hp->Prop),Inv X pins σ H s->t σ H Q->wpAny (model X.prog X.w) X.A (isTrue e X.env whole) (TP X pins σ Q) X.xe s
theorem PW.pt{X:Cx}{e:Expr}{t:TT}(h:PW X e t):PT X e t:=h _
def PA(X:Cx)(es:List Expr)(t:TA):Prop :=
 ∀(pos:Pos)(pins:List (Addr×Obj))(s:Shared)(σ:St)(H:Hp)(Q:List V->Hp->Prop),Inv X pins σ H s->t σ H Q->wpAny (model X.prog X.w) X.A (spliced (backTo pos (starEach es X.env))) (AP X pins σ Q) X.xe s
def PS(X:Cx)(st:Stmt)(t:TS):Prop :=
 ∀(pins:List (Addr×Obj))(s:Shared)(σ:St)(H:Hp)(D:Ends),Inv X pins σ H s->t D σ H->wpAny (model X.prog X.w) X.A (exec st X.env) (SP X pins D) X.xe s
def PSs(X:Cx)(st:List Stmt)(t:TS):Prop :=
 ∀(pins:List (Addr×Obj))(s:Shared)(σ:St)(H:Hp)(D:Ends),Inv X pins σ H s->t D σ H->wpAny (model X.prog X.w) X.A (execs st X.env) (SP X pins D) X.xe s
theorem thn{α:Type}{t:Sem α}{Q Q' : α->Shared->Prop}{M:Model}{A:Around}{E:Value->Shared->Prop}{s:Shared}(h:wpAny M A t Q E s)(hQ:∀a s,Q a s->Q' a s):wpAny M A t Q' E s:=wpAny_mono h hQ fun _ _ x=>x
end L2
namespace L2
open PySem PySem.Spec PyProof.Rows
section
variable{X:Cx}
inductive tVar (i:Nat) (σ:St) (H:Hp) (Q:VK):Prop
 | mk (v) (h0 : σ[i]? = some (some v)) (h1:Q v H)
def tC(v:V):TE:=fun _ H Q=>Q v H
theorem Zdb{i:Nat}{x:Str}{pos:Pos}(hN:X.N[i]? = some x)(hv:Vis X.env.scope x)(hd:(x == ("__debug__" : Str))=false:=by decide)(hcd:(x == ("__classdict__" : Str))=false:=by decide):PE X (.Name x pos) (tVar i):=by
 intro pins s σ H Q I h
 obtain⟨v,e,h⟩:=h
 obtain⟨m,hn,hl⟩:=I.loc
 obtain⟨u,r,l⟩:=hl i x v hN e hv
 have fin:EP X pins σ Q u s:=⟨v,H,I,r,h⟩
 rcases l with⟨hk,hm⟩ | ⟨hk,c,hc,hcell⟩
 ·exact wpAny_Name (wpAny_loadName_local I.ok.kind hk hn hm fin) hd
 ·rcases hk with hk | hk
  ·exact wpAny_Name (wpAny_loadName_cell I.ok.kind hk hc hcell fin) hd
  ·exact wpAny_Name (wpAny_loadName_free I.ok.kind hk hc hcell fin hcd) hd
theorem Zs8 {i j pos}:PE X (.Constant (.int i) j pos) (tC (.int i)):=fun _ _ _ H _ I h=>wpAny_Constant_int ⟨.int i,H,I.tok _,⟨_,rfl⟩,h⟩
theorem Zuy {b j pos}:PE X (.Constant (.bool b) j pos) (tC (.bl b)):=fun _ _ _ H _ I h=>Constant_bool ⟨.bl b,H,I,rfl,h⟩
theorem Zs9 {j pos}:PE X (.Constant .none j pos) (tC .non):=fun _ _ _ H _ I h=>Constant_none ⟨.non,H,I,rfl,h⟩
theorem Zta {x j pos}:PE X (.Constant (.str x) j pos) (tC (.str x)):=fun _ _ _ H _ I h=>Calls.Constant_str ⟨.str x,H,I.tok _,⟨_,rfl⟩,h⟩
def Gl(X:Cx)(x:Str):Prop:=X.env.kindOf x=some .globalImplicit
theorem Za9{E:Value->Shared->Prop}{pins:List (Addr×Obj)}{s:Shared}{σ:St}{H:Hp}{x:Str}{u:Value}{pos:Pos}{Q:Value->Shared->Prop}(I:Inv X pins σ H s)(hg:Gl X x)(hm:X.mg x=some u)(h:Q u s)(hd:(x == ("__debug__" : Str))=false:=by decide):wpAny (model X.prog X.w) X.A (eval (.Name x pos) X.env) Q E s :=
 Calls.Name_function_global I.ok.kind hg (Calls.loadGlobal_global (by rw[I.ok.glob];exact I.mod.glob.keeps I.bk) hm h) hd
theorem Zcd{E:Value->Shared->Prop}{pins:List (Addr×Obj)}{s:Shared}{σ:St}{H:Hp}{x:Str}{u:Value}{pos:Pos}{Q:Value->Shared->Prop}(I:Inv X pins σ H s)(hg:Gl X x)(hm:X.mg x=none)(hv:bootBuiltins x=some u)(h:Q u s)(hn:x ≠ "__name__" := by decide)(hd:(x == ("__debug__" : Str))=false:=by decide):wpAny (model X.prog X.w) X.A (eval (.Name x pos) X.env) Q E s:=by
 obtain⟨mb,h1,h2⟩:=I.mod.blt
 exact Calls.Name_function_global I.ok.kind hg (Calls.loadGlobal_builtin (by rw[I.ok.glob];exact I.mod.glob.keeps I.bk) hm (by rw[I.ok.blt];exact h1.keeps I.bk) ((h2 x hn).trans hv) h) hd
theorem Zqz{x:Str}{v:V}{u:Value}{pos:Pos}(hg:Gl X x)(hm:X.mg x=some u)(r:RelV v u)(hd:(x == ("__debug__" : Str))=false:=by decide):PE X (.Name x pos) (tC v) :=
 fun _ _ _ H _ I h=>Za9 I hg hm ⟨v,H,I,r,h⟩ hd
theorem Zra{x:Str}{v:V}{u:Value}{pos:Pos}(hg:Gl X x)(hm:X.mg x=none)(hv:bootBuiltins x=some u)(r:RelV v u)(hn:x ≠ "__name__" := by decide)(hd:(x == ("__debug__" : Str))=false:=by decide):PE X (.Name x pos) (tC v) :=
 fun _ _ _ H _ I h=>Zcd I hg hm hv ⟨v,H,I,r,h⟩ hn hd
variable{a b:Expr}{ta tb:TE}{pos:Pos}
inductive tB_ (Q:Bool->Hp->Prop) (x:V) (H1:Hp):Prop
 | mk (c) (h0:x = .bl c) (h1:Q c H1)
def tB(t:TE):TT:=fun σ H Q=>t σ H fun x H1=>tB_ Q x H1
theorem Ztb{e:Expr}{t:TE}(h:PE X e t)(he:∀whole,isTrue e X.env whole=(do let v ← whole;standAt e.pos;holding [v] (truthy v)):=by intro _;rfl):PT X e (tB t):=by
 intro pins s σ H Q I hw
 refine isTrue_plain (thn (h pins s σ H _ I hw) fun v s1 ⟨x,H1,I1,r1,q1⟩=>?_) (he _)
 obtain⟨d,rfl,q⟩:=q1
 cases r1
 exact wpAny_truthy_bool ⟨H1,I1,q⟩
variable{tA tB':TT}{rest:List Expr}
def Zlx(t u:TT):TT:=fun σ H Q=>t σ H fun c H1=>if c=true then u σ H1 Q else Q false H1
def tOr(t u:TT):TT:=fun σ H Q=>t σ H fun c H1=>if c=true then Q true H1 else u σ H1 Q
def Zly(t:TT):TT:=fun σ H Q=>t σ H fun c H1=>Q (!c) H1
theorem Zrb(ha:PT X a tA):PW X (.BoolOp .And [a] pos) tA:=by
 intro wh pins s σ H Q I h
 refine isTrue_and (thn (ha pins s σ H Q I h) fun c s1 e=>?_)
 cases c with
 | true=>exact isTrue_and_nil e
 | false=>exact e
theorem Ztc(ha:PT X a tA):PW X (.BoolOp .Or [a] pos) tA:=by
 intro wh pins s σ H Q I h
 refine isTrue_or (thn (ha pins s σ H Q I h) fun c s1 e=>?_)
 cases c with
 | false=>exact isTrue_or_nil e
 | true=>exact e
theorem Ztd(ha:PT X a tA)(hb:PW X (.BoolOp .And (b::rest) pos) tB'):PW X (.BoolOp .And (a::b::rest) pos) (Zlx tA tB'):=by
 intro wh pins s σ H Q I h
 refine isTrue_and (thn (ha pins s σ H _ I h) fun c s1 ⟨H1,I1,q1⟩=>?_)
 cases c with
 | true=>exact hb wh pins s1 σ H1 Q I1 q1
 | false=>exact⟨H1,I1,q1⟩
theorem Zuz(ha:PT X a tA)(hb:PW X (.BoolOp .Or (b::rest) pos) tB'):PW X (.BoolOp .Or (a::b::rest) pos) (tOr tA tB'):=by
 intro wh pins s σ H Q I h
 refine isTrue_or (thn (ha pins s σ H _ I h) fun c s1 ⟨H1,I1,q1⟩=>?_)
 cases c with
 | true=>exact⟨H1,I1,q1⟩
 | false=>exact hb wh pins s1 σ H1 Q I1 q1
theorem Zte(ha:PT X a tA):PT X (.UnaryOp .Not a pos) (Zly tA):=by
 intro pins s σ H Q I h
 exact isTrue_not (ha pins s σ H (fun c H1=>Q (!c) H1) I h)
inductive tAndV_ (tb:TE) (σ:St) (Q:VK) (x:V) (H1:Hp):Prop
 | mk (c) (h0:x = .bl c) (h1:if c=true then tb σ H1 Q else Q (.bl false) H1)
def Zj7(ta tb:TE):TE:=fun σ H Q=>ta σ H fun x H1=>tAndV_ tb σ Q x H1
inductive tOrV_ (tb:TE) (σ:St) (Q:VK) (x:V) (H1:Hp):Prop
 | mk (c) (h0:x = .bl c) (h1:if c=true then Q (.bl true) H1 else tb σ H1 Q)
def Zlz(ta tb:TE):TE:=fun σ H Q=>ta σ H fun x H1=>tOrV_ tb σ Q x H1
inductive tNotV_ (Q:VK) (x:V) (H1:Hp):Prop
 | mk (c) (h0:x = .bl c) (h1:Q (.bl (!c)) H1)
theorem Ztf {op} {t:TE}(h:PE X a t):PE X (.BoolOp op [a] pos) t:=fun pins s σ H Q I hw=>BoolOp_one (h pins s σ H Q I hw)
theorem Ztg(ha:PE X a ta)(hb:PE X (.BoolOp .And (b::rest) pos) tb):PE X (.BoolOp .And (a::b::rest) pos) (Zj7 ta tb):=by
 intro pins s σ H Q I h
 refine BoolOp_and (thn (ha pins s σ H _ I h) fun v s1 ⟨x,H1,I1,r1,q1⟩=>?_)
 obtain⟨c,rfl,q1⟩:=q1
 cases r1
 refine wpAny_truthy_bool ?_
 cases c with
 | true=>exact hb pins s1 σ H1 Q I1 q1
 | false=>exact⟨.bl false,H1,I1,rfl,q1⟩
theorem Zu0(ha:PE X a ta)(hb:PE X (.BoolOp .Or (b::rest) pos) tb):PE X (.BoolOp .Or (a::b::rest) pos) (Zlz ta tb):=by
 intro pins s σ H Q I h
 refine BoolOp_or (thn (ha pins s σ H _ I h) fun v s1 ⟨x,H1,I1,r1,q1⟩=>?_)
 obtain⟨c,rfl,q1⟩:=q1
 cases r1
 refine wpAny_truthy_bool ?_
 cases c with
 | false=>exact hb pins s1 σ H1 Q I1 q1
 | true=>exact⟨.bl true,H1,I1,rfl,q1⟩
end
end L2
namespace L2
open PySem PySem.Spec PyProof.Rows
def SqL(K:uFg)(H:Hp)(a:Addr)(xs:List V):Prop :=
 Rd H a (.lst xs)\/
  ∃(o:Obj)(its:Array Value)(n:Nat),K.lookup a=some o/\o.cls = .type "list" /\ o.dict=none/\o.data = .seq its n/\its.size<=sizeLine/\Vals xs its.toList
def SqT(K:uFg)(H:Hp)(a:Addr)(xs:List V):Prop :=
 Rd H a (.tup xs)\/
  ∃(o:Obj)(its:Array Value)(n:Nat),K.lookup a=some o/\o.cls = .type "tuple" /\ o.data = .seq its n/\its.size<=sizeLine/\Vals xs its.toList
def Zyc:Value->Option V
 | .none=>some .non
 | .bool b=>some (.bl b)
 | .int i _=>some (.int i)
 | .str x _=>some (.str x)
 | .bytes b _=>some (.byt b)
 | .float b _=>some (.flt b)
 | .ref a=>some (.ref a)
 | .type n=>some (.ty n)
 | _=>none
theorem RelV.abs{x:V}{u:Value}(r:RelV x u):Zyc u=some x:=by
 cases x with
 | non=>cases r;rfl
 | bl _=>cases r;rfl
 | int _=>obtain⟨t,rfl⟩:=r;rfl
 | str _=>obtain⟨t,rfl⟩:=r;rfl
 | byt _=>obtain⟨t,rfl⟩:=r;rfl
 | flt _=>obtain⟨t,rfl⟩:=r;rfl
 | ref _=>cases r;rfl
 | ty _=>cases r;rfl
theorem RelV.inj{x y:V}{u:Value}(r:RelV x u)(q:RelV y u):x=y:=Option.some.inj (r.abs.symm.trans q.abs)
theorem Vals.inj:∀{xs ys:List V}{us:List Value},Vals xs us->Vals ys us->xs=ys
 | _,_,_,.nil,.nil=>rfl
 | _,_,_,.cons r t,.cons r' t'=>by rw[r.inj r',Vals.inj t t']
section
variable{X:Cx}{pins:List (Addr×Obj)}{σ:St}{H:Hp}{s:Shared}{a:Addr}{xs ys:List V}
theorem SqL.of{K:uFg}(h:H a=some (.lst xs)):SqL K H a xs:=.inl (.inl h)
theorem SqT.of{K:uFg}(h:H a=some (.tup xs)):SqT K H a xs:=.inl (.inl h)
theorem Inv.list(I:Inv X pins σ H s)(h:SqL X.K H a xs):∃its:List Value,Vals xs its/\PlainL s.heap a its.toArray/\xs.length<=sizeLine:=by
 rcases h with h | ⟨o,its,n,hk,hc,hd,hs,hz,r⟩
 ·obtain⟨z,its,n,r,e⟩:=h.ok I.hok
  exact⟨its,r,⟨_,n,e,rfl,rfl,rfl⟩,z⟩
 ·refine⟨its.toList,r,⟨o,n,I.kIn a o hk,hc,hd,by simpa using hs⟩,?_⟩
  have e:=r.length
  simp only[Array.length_toList] at e
  lia
theorem Inv.tuple(I:Inv X pins σ H s)(h:SqT X.K H a xs):∃its:List Value,Vals xs its/\IsTup s.heap a its.toArray/\xs.length<=sizeLine:=by
 rcases h with h | ⟨o,its,n,hk,hc,hs,hz,r⟩
 ·obtain⟨z,its,r,p⟩:=h.ok I.hok
  exact⟨its,r,p,z⟩
 ·refine⟨its.toList,r,⟨o,I.kIn a o hk,hc,n,by simpa using hs⟩,?_⟩
  have e:=r.length
  simp only[Array.length_toList] at e
  lia
theorem Inv.list_inj(I:Inv X pins σ H s)(h:SqL X.K H a xs)(h':SqL X.K H a ys):xs=ys:=by
 obtain⟨its,r,⟨o,n,e,_,_,d⟩,_⟩:=I.list h
 obtain⟨its',r',⟨o',n',e',_,_,d'⟩,_⟩:=I.list h'
 rw[e] at e';cases e'
 rw[d] at d'
 injection d' with d1 _
 have:its=its':=by simpa using congrArg Array.toList d1
 subst this
 exact r.inj r'
end
abbrev Cx.wish(X:Cx)(E:Value->Shared->Prop):Cx:={X with xe:=E }
abbrev Cx.nox(X:Cx):Cx:=X.wish fun _ _=>False
theorem Cx.Ok.wish{X:Cx}(ok:X.Ok)(E:Value->Shared->Prop):(X.wish E).Ok :=
 ⟨ok.mod,ok.kind,ok.glob,ok.blt,ok.above,ok.inj,ok.has,ok.cab,ok.hd,ok.frames,ok.stk,ok.exf,ok.bs,ok.bsz,ok.noex,ok.exfs,ok.funs,ok.frf⟩
theorem Cx.Ok.unwish{X:Cx}{E:Value->Shared->Prop}(ok:(X.wish E).Ok):X.Ok :=
 ⟨ok.mod,ok.kind,ok.glob,ok.blt,ok.above,ok.inj,ok.has,ok.cab,ok.hd,ok.frames,ok.stk,ok.exf,ok.bs,ok.bsz,ok.noex,ok.exfs,ok.funs,ok.frf⟩
section
variable{X:Cx}{pins:List (Addr×Obj)}{σ:St}{H:Hp}{s:Shared}{E:Value->Shared->Prop}
theorem Inv.wish(I:Inv X pins σ H s)(E:Value->Shared->Prop):Inv (X.wish E) pins σ H s:=⟨I.ok.wish E,I.os,I.bare,I.base,I.loc,I.cell,I.free,I.freeC,I.pin,I.hok,I.len⟩
theorem Inv.unwish(I:Inv (X.wish E) pins σ H s):Inv X pins σ H s:=⟨I.ok.unwish,I.os,I.bare,I.base,I.loc,I.cell,I.free,I.freeC,I.pin,I.hok,I.len⟩
theorem SP.unwish{D:Ends}{f:Flow}{s':Shared}(h:SP (X.wish E) pins D f s'):SP X pins D f s':=by
 cases f with
 | next=>obtain⟨σ',H',I,q⟩:=h;exact⟨σ',H',I.unwish,q⟩
 | brk=>obtain⟨σ',H',I,q⟩:=h;exact⟨σ',H',I.unwish,q⟩
 | cont=>obtain⟨σ',H',I,q⟩:=h;exact⟨σ',H',I.unwish,q⟩
 | ret u=>obtain⟨v,σ',H',I,r,q⟩:=h;exact⟨v,σ',H',I.unwish,r,q⟩
theorem PSs.nox{st:List Stmt}{t:TS}(h:PSs X.nox st t):PSs X st t:=fun pins s σ H D I hw =>
 wpAny_mono (h pins s σ H D (I.wish _) hw) (fun _ _ q=>q.unwish) fun _ _ z=>False.elim z
end
section
variable{X:Cx}{st:Stmt}{rest:List Stmt}{t u:TS}{e:Expr}{te:TE}{pos:Pos}
def Zbj:TS:=fun D σ H=>D.nx σ H
def Ve(t u:TS):TS:=fun D σ H=>t {D with nx:=u D } σ H
theorem Zrc:PSs X [] Zbj:=fun _ _ σ H _ I h=>wpAny_execs_nil ⟨σ,H,I,h⟩
theorem Zo3(h1:PS X st t)(h2:PSs X rest u):PSs X (st::rest) (Ve t u):=by
 intro pins s σ H D I h
 refine wpAny_execs_cons (thn (h1 pins s σ H {D with nx:=u D } I h) fun f s1 q=>?_)
 cases f with
 | next =>
  obtain⟨σ',H',I',q⟩:=q
  exact h2 pins s1 σ' H' D I' q
 | ret v=>exact q
 | brk=>exact q
 | cont=>exact q
theorem Zrd(h1:PS X st t):PSs X [st] t:=by
 intro pins s σ H D I h
 refine wpAny_execs_cons (thn (h1 pins s σ H D I h) fun f s1 q=>?_)
 cases f with
 | next=>exact wpAny_execs_nil q
 | ret v=>exact q
 | brk=>exact q
 | cont=>exact q
theorem Inv.quiet{pins:List (Addr×Obj)}{σ:St}{H:Hp}{s:Shared}(I:Inv X pins σ H s):interactive X.env=false:=by simp[interactive,I.ok.kind]
def Zdh(te:TE):TS:=fun D σ H=>te σ H fun _ H1=>D.nx σ H1
theorem Zre(he:PE X e te)(hs:swapsWith e none pos.line X.env=pure false:=by rfl):PS X (.Expr e pos) (Zdh te):=by
 intro pins s σ H D I h
 exact wpAny_Expr_any (thn (he pins s σ H _ I h) fun v s1 ⟨x,H1,I1,r1,q1⟩=>⟨σ,H1,I1,q1⟩) I.quiet hs
def Zl0(te:TE):TS:=fun D σ H=>te σ H D.rt
theorem Zth(he:PE X e te):PS X (.Return (some e) pos) (Zl0 te):=by
 intro pins s σ H D I h
 exact wpAny_Return_some (thn (he pins s σ H _ I h) fun v s1 ⟨x,H1,I1,r1,q1⟩=>⟨x,σ,H1,I1,r1,q1⟩)
def Zcs(c:TT)(t u:TS):TS:=fun D σ H=>c σ H fun b H1=>if b=true then t D σ H1 else u D σ H1
theorem Zu1{c:Expr}{a b:List Stmt}{tc:TT}(hc:PT X c tc)(ha:PSs X a t)(hb:PSs X b u):PS X (.If c a b pos) (Zcs tc t u):=by
 intro pins s σ H D I h
 refine wpAny_If (thn (hc pins s σ H _ I h) fun d s1 ⟨H1,I1,q1⟩=>?_)
 cases d with
 | true=>exact ha pins s1 σ H1 D I1 q1
 | false=>exact hb pins s1 σ H1 D I1 q1
end
abbrev TG:=V->St->Hp->(St->Hp->Prop)->Prop
abbrev TGs:=List V->St->Hp->(St->Hp->Prop)->Prop
def PG(X:Cx)(target:Expr)(t:TG):Prop :=
 ∀(pins:List (Addr×Obj))(s:Shared)(σ:St)(H:Hp)(v:V)(u:Value)(Q:St->Hp->Prop),Inv X pins σ H s->RelV v u->t v σ H Q ->
  wpAny (model X.prog X.w) X.A (assign target X.env u) (fun _ s'=>∃ σ' H',Inv X pins σ' H' s'/\Q σ' H') X.xe s
def PGs(X:Cx)(ts:List Expr)(t:TGs):Prop :=
 ∀(pins:List (Addr×Obj))(s:Shared)(σ:St)(H:Hp)(vs:List V)(us:List Value)(Q:St->Hp->Prop),Inv X pins σ H s->Vals vs us->t vs σ H Q ->
  wpAny (model X.prog X.w) X.A (assignInOrder ((assignEach ts X.env).map (·.2)) us) (fun _ s'=>∃ σ' H',Inv X pins σ' H' s'/\Q σ' H') X.xe s
abbrev Zct:=V->V->V->Hp->(Hp->Prop)->Prop
def Zgx(X:Cx)(t:Zct):Prop :=
 ∀(pins:List (Addr×Obj))(s:Shared)(σ:St)(H:Hp)(o i v:V)(ov iv u:Value)(Q:Hp->Prop),Inv X pins σ H s->RelV o ov->RelV i iv->RelV v u->t o i v H Q ->
  wpAny (model X.prog X.w) X.A (setItem ov iv u) (fun _ s'=>∃H',Inv X pins σ H' s'/\Q H') X.xe s
abbrev TIp:=V->V->Hp->VK->Prop
def PIp(X:Cx)(op:Operator)(t:TIp):Prop :=
 ∀(pins:List (Addr×Obj))(s:Shared)(σ:St)(H:Hp)(x y:V)(v u:Value)(Q:VK),Inv X pins σ H s->RelV x v->RelV y u->t x y H Q ->
  wpAny (model X.prog X.w) X.A (inplaceOp op v u) (EP X pins σ Q) X.xe s
section
variable{X:Cx}{pos:Pos}
def Wa(i:Nat):TG:=fun v σ H Q=>Q (σ.set i (some v)) H
theorem Ziu{i:Nat}{x:Str}(hN:X.N.Nodup)(hi:X.N[i]? = some x)(hx:Loc X.env.scope x)(hf:X.fn x=true\/X.env.scope.names.lookup x=some .local:=by first | exact .inl rfl | exact .inr rfl | assumption):PG X (.Name x pos) (Wa i):=by
 intro pins s σ H v u Q I r h
 exact wpAny_assign_Name (Zc2 I hN hi hx r (fun s' I'=>⟨_,H,I',h⟩) hf)
def Zgy:TGs:=fun vs σ H Q=>vs = []/\Q σ H
inductive gCons (t:TG) (u:TGs) (vs:List V) (σ:St) (H:Hp) (Q:St->Hp->Prop):Prop
 | mk (v r) (h0:vs=v::r) (h1:t v σ H fun σ' H'=>u r σ' H' Q)
theorem Zrf:PGs X [] Zgy:=by
 intro pins s σ H vs us Q I r h
 obtain⟨e,h⟩:=h
 subst e
 cases r
 exact assignInOrder_nil ⟨σ,H,I,h⟩
theorem Zo4{e:Expr}{es:List Expr}{t:TG}{u:TGs}(h1:PG X e t)(h2:PGs X es u)(hs:(assignEach (e::es) X.env).map (·.2)=assign e X.env::(assignEach es X.env).map (·.2):=by rfl):PGs X (e::es) (gCons t u):=by
 intro pins s σ H vs us Q I r h
 obtain⟨v,vr,e1,h⟩:=h
 subst e1
 cases r with
 | cons r rr =>
  rw[hs]
  refine assignInOrder_cons (thn (h1 pins s σ H _ _ _ I r h) fun _ s1 ⟨σ1,H1,I1,q1⟩=>?_)
  exact h2 pins s1 σ1 H1 _ _ Q I1 rr q1
inductive gTup (K:uFg) (n:Nat) (t:TGs) (v:V) (σ:St) (H:Hp) (Q:St->Hp->Prop):Prop
 | mk (a xs) (h0:v = .ref a) (h1:SqT K H a xs) (h2:xs.length=n) (h3:t xs σ H Q)
theorem Zti{es:List Expr}{k:Nat}{t:TGs}{n:Nat}(hc:X.calm=true)(h:PGs X es t)(hn:(assignEach es X.env).length=n:=by rfl)(hst:(assignEach es X.env).findIdx? (·.1)=none:=by rfl):PG X (.Tuple es k pos) (gTup X.K n t):=by
 intro pins s σ H v u Q I r hw
 obtain⟨a,xs,e1,hq,hl,hw⟩:=hw
 subst e1
 cases r
 obtain⟨its,rv,ht,hz⟩:=I.tuple hq
 refine assign_Tuple_tuple (I.ok.hd hc) ht (by simp[hn,← hl,rv.length]) hst fun h' hx=>?_
 have I1:Inv X pins σ H {s with heap:=h' }:=I.kept (t':=s.toks) fun b o e=>hx b o (yM (xO e)) e
 exact h pins _ σ H xs _ Q I1 (by simpa using rv) hw
def Zl1(to ti:TE)(t:Zct):TG:=fun v σ H Q=>to σ H fun o H1=>ti σ H1 fun i H2=>t o i v H2 fun H3=>Q σ H3
theorem Ztj{o i:Expr}{to ti:TE}{t:Zct}(ho:PE X o to)(hi:PE X i ti)(hs:Zgx X t)(ha:∀v,assign (.Subscript o i pos) X.env v=(do
   let ov ← holding [v] (eval o X.env)
   let iv ← holding [v,ov] (eval i X.env)
   standAt pos
   holding [v,ov,iv] (setItem ov iv v)
   release [v,ov,iv] []):=by intro _;rfl):PG X (.Subscript o i pos) (Zl1 to ti t):=by
 intro pins s σ H v u Q I r h
 rw[ha]
 refine wpAny_bind (wpAny_holding (thn (ho pins s σ H _ I h) fun ov s1 ⟨x,H1,I1,r1,q1⟩=>?_))
 refine wpAny_bind (wpAny_holding (thn (hi pins s1 σ H1 _ I1 q1) fun iv s2 ⟨y,H2,I2,r2,q2⟩=>?_))
 refine wpAny_bind (wpAny_standAt (wpAny_bind (wpAny_holding (thn (hs pins s2 σ H2 x y v ov iv u _ I2 r1 r2 r q2) fun _ s3 ⟨H3,I3,q3⟩=>?_))))
 exact wpAny_release ⟨σ,H3,I3,q3⟩
def V8(te:TE)(g:TG):TS:=fun D σ H=>te σ H fun x H1=>g x σ H1 D.nx
theorem Ztk{tg e:Expr}{te:TE}{g:TG}(he:PE X e te)(hg:PG X tg g)(hs:swapsWithSole [tg] e pos.line X.env=pure false:=by rfl)(hw:swappedStores [tg] e X.env=pure none:=by rfl)(h1:(assignEach [tg] X.env).map (·.2)= [assign tg X.env]:=by rfl):PS X (.Assign [tg] e pos) (V8 te g):=by
 intro pins s σ H D I h
 refine wpAny_Assign_stores (thn (he pins s σ H _ I h) fun v s1 ⟨x,H1,I1,r1,q1⟩=>?_) hs hw
 rw[h1]
 exact thn (hg pins s1 σ H1 x v _ I1 r1 q1) fun _ s2 q=>q
theorem Zjm{i:Nat}{x:Str}{e:Expr}{te:TE}{pos':Pos}(hN:X.N.Nodup)(hi:X.N[i]? = some x)(hx:Loc X.env.scope x)(he:PE X e te)(hs:swapsWith e (some (.Name x pos')) pos.line X.env=pure false:=by rfl)(hf:X.fn x=true\/X.env.scope.names.lookup x=some .local:=by first | exact .inl rfl | exact .inr rfl | assumption) :
  PS X (.Assign [.Name x pos'] e pos) (V8 te (Wa i)):=by
 intro pins s σ H D I h
 refine wpAny_Assign_Name (thn (he pins s σ H _ I h) fun v s1 ⟨y,H1,I1,r1,q1⟩=>?_) hs
 exact Zc2 I1 hN hi hx r1 (fun s2 I2=>⟨_,H1,I2,q1⟩) hf
inductive tPar_ (i:Nat) (j:Nat) (D:Ends) (σ:St) (vs:List V) (H1:Hp):Prop
 | mk (v w) (h0:vs = [v,w]) (h1:D.nx ((σ.set i (some v)).set j (some w)) H1)
inductive ipI (f:Int->Int->Int) (x:V) (y:V) (H:Hp) (Q:VK):Prop
 | mk (i j) (h0:x = .int i) (h1:y = .int j) (h2:Q (.int (f i j)) H)
end
section
variable{X:Cx}{pos:Pos}
end
structure It where
 go:Nat->Hp->Prop
 yld:Nat->Hp->V->Hp->Prop
 stop:Nat->Hp->Prop
def Vf(X:Cx)(pins:List (Addr×Obj))(H:Hp)(b:Addr):Prop :=
 H b=none/\b≠X.env.locals/\b∉X.fs/\(b∈X.ex\/X.s₀.heap.objs.size<=b)/\(∀x c,X.env.cells.lookup x=some c->c≠b)/\∀p∈X.pn++pins,p.1≠b
theorem Inv.fpOk{X:Cx}{pins:List (Addr×Obj)}{σ:St}{H H':Hp}{s:Shared}{b:Addr}(I:Inv X pins σ H s)(hb:s.heap.objs.size<=b)(hn:H' b=none):Vf X pins H' b:=by
 refine⟨hn,Nat.ne_of_gt (xS I.lt hb),I.nofs hb,.inr (yK I.sz hb),fun x c e z=>?_,fun p hp z=>?_⟩
 ·obtain⟨v,q⟩:=I.cell x c e
  exact absurd (xS q.lt (by rw[z];exact hb)) (zL _)
 ·exact absurd (xS (xO (I.pin p hp).1) (by rw[z];exact hb)) (zL _)
structure Turn (P:Program) (w:World) (K:uFg) (tg:Expr) (J:It) (fp:List Addr) (it:Addr) (tn:Nat->Heap->Prop):Prop where
 mem:it∈fp
 obj:∀i h,tn i h->∀b∈fp,∃o,h.get? b=some o/\∀v,o.data ≠ .cell v
 keep:∀i h h',tn i h->(∀b∈fp,∀o,h.get? b=some o->h'.get? b=some o)->tn i h'
 item:∀(X:Cx),X.prog=P->X.w=w->X.K=K->X.calm=true->∀(i:Nat)(pins:List (Addr×Obj))(s:Shared)(σ:St)(H:Hp)(E:Value->Shared->Prop),Inv X pins σ H s->(∀b∈fp,Vf X pins H b)->tn i s.heap->J.go i H ->
  wpAny (model P w) X.A (pyNext (.ref it)) (fun r s1=>∃u,r=some u /\
   wpAny (model P w) X.A (letOwnedTupleGo tg (.ref it) u) (fun _ s2=>∃x H',Inv X pins σ H' s2/\RelV x u/\J.yld i H x H'/\tn (i+1) s2.heap/\∀b∈fp,H' b=none) E s1) E s
 done:∀(X:Cx),X.prog=P->X.w=w->X.K=K->X.calm=true->∀(i:Nat)(pins:List (Addr×Obj))(s:Shared)(σ:St)(H:Hp)(E:Value->Shared->Prop),Inv X pins σ H s->(∀b∈fp,Vf X pins H b)->tn i s.heap->J.stop i H ->
  wpAny (model P w) X.A (pyNext (.ref it)) (fun r s1=>r=none/\Inv X pins σ H s1) E s
 self:∀(A:Around)(i:Nat)(s:Shared)(Q:Value->Shared->Prop)(E:Value->Shared->Prop),tn i s.heap->Q (.ref it) s->wpAny (model P w) A (pyIter (.ref it)) Q E s
abbrev TI:=St->Hp->(It->Hp->Prop)->Prop
def PIE(X:Cx)(pins:List (Addr×Obj))(σ:St)(tg:Expr)(R:It->Hp->Prop)(itv:Value)(s2:Shared):Prop :=
 ∃(it:Addr)(fp:List Addr)(tn:Nat->Heap->Prop)(J:It)(H':Hp),itv = .ref it/\Inv X pins σ H' s2/\Turn X.prog X.w X.K tg J fp it tn/\tn 0 s2.heap/\(∀b∈fp,Vf X pins H' b)/\R J H'
def PI(X:Cx)(tg iter:Expr)(wi:TI):Prop :=
 ∀(pins:List (Addr×Obj))(s:Shared)(σ:St)(H:Hp)(R:It->Hp->Prop),Inv X pins σ H s->wi σ H R ->
  wpAny (model X.prog X.w) X.A (eval iter X.env) (fun v s1=>wpAny (model X.prog X.w) X.A (pyIter v) (PIE X pins σ tg R) X.xe s1) X.xe s
theorem Ze0{M:Model}{A:Around}{E:Value->Shared->Prop}{s:Shared}{tg:Expr}{it:Addr}{u:Value}{o:Obj}{n:String}{vs:Array Value}{Q:Unit->Shared->Prop}(ho:s.heap.get? it=some o)(hc:o.cls = .type n)(hd:o.data = .fields vs)(hn : ["enumerate", "zip", "dict_itemiterator", "dict_reverseitemiterator", "odict_iterator", "itertools.zip_longest", "itertools.pairwise"].contains n=false)(hQ:Q () s):wpAny M A (letOwnedTupleGo tg (.ref it) u) Q E s:=by
  unfold letOwnedTupleGo
  cases tg<;>first
    | exact wpAny_pure hQ
    | (cases u<;>first
        | exact wpAny_pure hQ
        | (refine wpAny_bind (wpAny_load ho ?_)
           rw[hc,hd]
           show wpAny M A (if (["enumerate", "zip", "dict_itemiterator", "dict_reverseitemiterator", "odict_iterator", "itertools.zip_longest", "itertools.pairwise"].contains n && vs[0]? == some (rawInt _))=true then _ else _) Q E s
           rw[if_neg (by intro h;rw[hn,yT] at h;cases h)]
           exact wpAny_pure hQ))
def Itl(K:uFg)(a:Addr):It :=
 ⟨fun i H=>∃xs x,SqL K H a xs/\xs[i]? = some x,fun i H x H'=>H'=H/\∀xs,SqL K H a xs->xs[i]? = some x,fun i H=>∃xs,SqL K H a xs/\xs.length<=i⟩
def Itt(K:uFg)(a:Addr):It :=
 ⟨fun i H=>∃xs x,SqT K H a xs/\xs[i]? = some x,fun i H x H'=>H'=H/\∀xs,SqT K H a xs->xs[i]? = some x,fun i H=>∃xs,SqT K H a xs/\xs.length<=i⟩
def Itr(lo:Int)(n:Nat):It:=⟨fun i _=>i < n,fun i H x H'=>H'=H/\x = .int (lo+i),fun i _=>n<=i⟩
theorem Zoa{P:Program}{w:World}{K:uFg}{tg:Expr}(a it:Addr):Turn P w K tg (Itl K a) [it] it (fun i h=>h.IsListIter it a i) where
 mem:=by simp
 obj:=fun i h st b hb=>by
  have e:b=it:=by simpa using hb
  subst e
  obtain⟨o,e,c,d⟩:=st
  exact⟨o,e,fun v z=>by rw[d] at z;cases z⟩
 keep:=fun i h h' st k=>st.at fun o e=>k it (by simp) o e
 item:=by
  intro X hP hw hK hc i pins s σ H E I hf st hg
  subst hP hw hK
  obtain⟨xs,x,hq,hx⟩:=hg
  obtain⟨its,rv,p,hz⟩:=I.list hq
  obtain⟨u,hu,ru⟩:=rv.get hx
  obtain⟨f0,f1,f2,f3,f4,f5⟩:=hf it (by simp)
  refine wpAny_pyNext_list_item st p.isList (x:=u) (by simpa using hu) fun h' st' sb=>?_
  have I1:Inv X pins σ H {s with heap:=h' }:=I.turned (t':=s.toks) (fun b o hb e=>(sb.2 b hb).trans e) f0 f1 f3 f4 f5
  obtain⟨o,e,c,d⟩:=id st'
  exact⟨u,rfl,Ze0 (s:={s with heap:=h' }) e c d (by decide) ⟨x,H,I1,ru,⟨rfl,fun ys hy=>by rw[I.list_inj hy hq];exact hx⟩,st',fun b hb=>(hf b hb).1⟩⟩
 done:=by
  intro X hP hw hK hc i pins s σ H E I hf st hg
  subst hP hw hK
  obtain⟨xs,hq,hx⟩:=hg
  obtain⟨its,rv,p,hz⟩:=I.list hq
  obtain⟨f0,f1,f2,f3,f4,f5⟩:=hf it (by simp)
  have hl:=rv.length
  exact wpAny_pyNext_list_end (I.ok.hd hc) st p.isList (by simp;lia) fun h' eb=>⟨rfl,I.turned (t':=s.toks) (fun b o hb e=>eb b o hb e) f0 f1 f3 f4 f5⟩
 self:=fun _ _ _ _ _ st h=>wpAny_pyIter_listiter st h
theorem Znh{P:Program}{w:World}{K:uFg}{tg:Expr}(it:Addr)(lo:Int)(n:Nat):Turn P w K tg (Itr lo n) [it] it (fun i h=>IsRangeIter h it (lo+(i:Nat) * 1) ((n:Int) - (i:Nat)) 1) where
 mem:=by simp
 obj:=fun i h st b hb=>by
  have e:b=it:=by simpa using hb
  subst e
  exact⟨_,st,fun v z=>by
   have z':Data.fields _=Data.cell v:=z
   cases z'⟩
 keep:=fun i h h' st k=>k it (by simp) _ st
 item:=by
  intro X hP hw hK hc i pins s σ H E I hf st hg
  subst hP hw hK
  obtain⟨f0,f1,f2,f3,f4,f5⟩:=hf it (by simp)
  have W:=Walks.range (prog:=X.prog) (w:=X.w) (I.ok.hd hc) it lo 1 n
  refine W.item i s _ _ hg st fun v h' tk hv st' kk=>?_
  obtain⟨t,rfl⟩:=hv
  have I1:Inv X pins σ H {s with heap:=h',toks:=tk }:=I.turned (fun b o hb e=>kk b o (by simpa using hb) e) f0 f1 f3 f4 f5
  refine⟨_,rfl,Ze0 (s:={s with heap:=h',toks:=tk }) (n:="range_iterator") st' rfl rfl (by decide) ⟨.int (lo+i),H,I1,⟨t,?_⟩,⟨rfl,rfl⟩,st',fun b hb=>(hf b hb).1⟩⟩
  rw[Int.mul_one]
 done:=by
  intro X hP hw hK hc i pins s σ H E I hf st hg
  subst hP hw hK
  obtain⟨f0,f1,f2,f3,f4,f5⟩:=hf it (by simp)
  exact wpAny_pyNext_range_end (I.ok.hd hc) st (by have:n<=i:=hg;lia) fun h' eb=>⟨rfl,I.turned (t':=s.toks) (fun b o hb e=>eb b o hb e) f0 f1 f3 f4 f5⟩
 self:=fun _ _ _ _ _ st h=>wpAny_pyIter_rangeiter st h
end L2
namespace L2
open PySem PySem.Spec PyProof.Rows
section
variable{X:Cx}{tg:Expr}
inductive iList_ (K:uFg) (R:It->Hp->Prop) (x:V) (H1:Hp):Prop
 | mk (a) (h0:x = .ref a) (h1:(∃xs,SqL K H1 a xs)) (h2:R (Itl K a) H1)
def Zj8(K:uFg)(tl:TE):TI:=fun σ H R=>tl σ H fun x H1=>iList_ K R x H1
inductive iTup_ (K:uFg) (R:It->Hp->Prop) (x:V) (H1:Hp):Prop
 | mk (a) (h0:x = .ref a) (h1:(∃xs,SqT K H1 a xs)) (h2:R (Itt K a) H1)
theorem Zrg{l:Expr}{tl:TE}(hl:PE X l tl):PI X tg l (Zj8 X.K tl):=by
 intro pins s σ H R I h
 refine thn (hl pins s σ H _ I h) fun v s1 ⟨x,H1,I1,r1,q1⟩=>?_
 obtain⟨a,e,⟨xs,hq⟩,q⟩:=q1
 subst e
 cases r1
 obtain⟨its,rv,p,hz⟩:=I1.list hq
 refine wpAny_pyIter_list p.isList ?_
 refine⟨s1.heap.objs.size,[s1.heap.objs.size],_,_,H1,rfl,I1.kept (t':=s1.toks) fun b o e=>xI _ e,Zoa a _,⟨_,yD _ rfl,rfl,rfl⟩,fun b hb=>?_,q⟩
 have e:b=s1.heap.objs.size:=by simpa using hb
 subst e
 exact I1.fpOk (xK _) (I1.hok.fresh (xK _))
theorem Zo5{pins:List (Addr×Obj)}{σ:St}{H:Hp}{s:Shared}{R:It->Hp->Prop}{E:Value->Shared->Prop}{lo hi:Int}{t u v:Tok}{tk:Nat}(I:Inv X pins σ H s)(h1 : -(2 ^ 62)<=lo)(h2:lo < 2 ^ 62)(h3 : -(2 ^ 62)<=hi)(h4:hi < 2 ^ 62)(q:R (Itr lo (hi - lo).toNat) H):wpAny (model X.prog X.w) X.A (pyIter (.ref s.heap.objs.size)) (PIE X pins σ tg R) E {s with heap:=s.heap.push {cls:=.type "range", data:=.fields #[.int lo t,.int hi u,.int 1 v] },toks:=tk }:=by
 refine wpAny_pyIter_range (IsRange.new ..) (small_one h1 h2 h3 h4) ?_
 have I1:Inv X pins σ H {s with heap:=s.heap.push {cls:=.type "range", data:=.fields #[.int lo t,.int hi u,.int 1 v] },toks:=tk }:=I.kept fun b o e=>xI _ e
 refine⟨(s.heap.push {cls:=.type "range", data:=.fields #[.int lo t,.int hi u,.int 1 v] }).objs.size,[(s.heap.push {cls:=.type "range", data:=.fields #[.int lo t,.int hi u,.int 1 v] }).objs.size],_,_,H,rfl,
  I1.kept (t':=tk) fun b o e=>xI _ e,Znh _ lo (hi - lo).toNat,?_,fun b hb=>?_,q⟩
 ·have e1:lo+((0:Nat):Int) * 1=lo:=by simp
  have e2:(((hi - lo).toNat:Nat):Int) - ((0:Nat):Int)=Builtin.Range.rangeSize lo hi 1:=by rw[rangeSize_one];split<;>lia
  show IsRangeIter _ _ (lo+((0:Nat):Int) * 1) ((((hi - lo).toNat:Nat):Int) - ((0:Nat):Int)) 1
  rw[e1,e2]
  exact yD _ rfl
 ·have e:b=(s.heap.push {cls:=.type "range", data:=.fields #[.int lo t,.int hi u,.int 1 v] }).objs.size:=by simpa using hb
  subst e
  exact I1.fpOk (xK _) (I1.hok.fresh (xK _))
inductive iRng1_ (R:It->Hp->Prop) (vs:List V) (H1:Hp):Prop
 | mk (j:Int) (h0:vs = [.int j]) (h1 : -(2 ^ 62)<=j) (h2:j < 2 ^ 62) (h3:R (Itr 0 j.toNat) H1)
def Zj9(ta:TA):TI:=fun σ H R=>ta σ H fun vs H1=>iRng1_ R vs H1
inductive iRng2_ (R:It->Hp->Prop) (vs:List V) (H1:Hp):Prop
 | mk (i j:Int) (h0:vs = [.int i,.int j]) (h1:(-(2 ^ 62)<=i/\i < 2 ^ 62 /\ -(2 ^ 62)<=j/\j < 2 ^ 62)) (h2:R (Itr i (j - i).toNat) H1)
theorem Zob{a:Expr}{ta:TA}{p pos:Pos}(hg:Gl X "range")(hm:X.mg "range" = none)(ha:PA X [a] ta)(hs:starEach [a] X.env = [(false,eval a X.env)]:=by rfl):PI X tg (.Call (.Name "range" p) [a] [] pos) (Zj9 ta):=by
 intro pins s σ H R I h
 refine Call_ (Zcd I hg hm boot_range (PyProof.Rows.callWith_type1 (thn (ha pos pins s σ H _ I h) fun us s1 ⟨vs,H1,I1,r1,q1⟩=>?_) hs rfl))
 obtain⟨j,e,q1,q2,q⟩:=q1
 subst e
 cases r1 with
 | cons r rr =>
  cases rr
  obtain⟨t,rfl⟩:=r
  exact call_range_1 (Zo5 I1 (by lia) (by lia) q1 q2 (by simpa using q))
def Zyd(wi:TI)(g:TG)(tb:TS):TS:=fun D σ H=>wi σ H fun J H1=>∃W:Nat->Nat->St->Hp->Prop,(∃m,W 0 m σ H1)/\∀i m σ H,W i m σ H ->
 (J.stop i H/\D.nx σ H)\/(J.go i H/\∃N:St->Hp->Prop,(∀ σ' H',N σ' H'->∃m',m' < m/\W (i+1) m' σ' H')/\∀x H',J.yld i H x H'->g x σ H' fun σ2 H2=>tb {D with nx:=N,ct:=N,bk:=D.nx } σ2 H2)
def Zac(fp:List Addr)(h:Heap):List (Addr×Obj):=fp.filterMap fun b=>(h.get? b).map fun o=>(b,o)
theorem Zb3{fp:List Addr}{h:Heap}{b:Addr}{o:Obj}(hb:b∈fp)(e:h.get? b=some o):(b,o)∈Zac fp h:=List.mem_filterMap.mpr ⟨b,hb,by rw[e];rfl⟩
theorem Zhv{fp:List Addr}{h:Heap}{p:Addr×Obj}(hp:p∈Zac fp h):p.1∈fp/\h.get? p.1=some p.2:=by
 obtain⟨b,hb,e⟩:=List.mem_filterMap.mp hp
 cases q:h.get? b with
 | none=>rw[q] at e;cases e
 | some o =>
  rw[q] at e
  have e':(b,o)=p:=Option.some.inj e
  subst e'
  exact⟨hb,q⟩
theorem Inv.pinned{pins:List (Addr×Obj)}{σ:St}{H:Hp}{s:Shared}{fp:List Addr}(I:Inv X pins σ H s)(hf:∀b∈fp,Vf X pins H b)(ho:∀b∈fp,∃o,s.heap.get? b=some o/\∀v,o.data ≠ .cell v):Inv X (pins++Zac fp s.heap) σ H s :=
 I.pins_of fun p hp=>(xM.mp hp).elim (fun z=>I.pin p (xJ _ z)) fun z=>by
  obtain⟨hb,e⟩:=Zhv z
  obtain⟨f0,f1,f2,_⟩:=hf p.1 hb
  obtain⟨o,e',d⟩:=ho p.1 hb
  rw[e] at e';cases e'
  exact⟨e,f0,f1,f2,d⟩
theorem Inv.unpinned{pins pl:List (Addr×Obj)}{σ:St}{H:Hp}{s:Shared}(I:Inv X (pins++pl) σ H s):Inv X pins σ H s:=I.pins_of fun p hp=>I.pin p (xJ _ (zO _ hp))
theorem Ztl{iter:Expr}{body:List Stmt}{wi:TI}{g:TG}{tb:TS}{pos:Pos}(hp:PassesOwn (model X.prog X.w) X.A X.env X.xe)(hc:X.calm=true)(hi:PI X tg iter wi)(hg:PG X tg g)(hb:PSs X body tb)(hs:∀x,foldedSetIterable iter X.env x=pure x:=by intro _;rfl):PS X (.For tg iter body [] pos) (Zyd wi g tb):=by
 intro pins s σ H D I h
 refine wpAny_For (thn (hi pins s σ H _ I h) fun v s1 h1=>thn h1 fun itv s2 h2=>?_) hs
 obtain⟨it,fp,tn,J,H2,e,I2,T,st2,f2,W,⟨m0,w0⟩,turn⟩:=h2
 subst e
 have stat:∀{H':Hp},(∀b∈fp,H' b=none)->∀b∈fp,Vf X pins H' b:=fun hn b hb=>⟨hn b hb,(f2 b hb).2⟩
 refine codeAny_forLoop_any (fun n s'=>∃i σ' H',Inv X pins σ' H' s'/\tn i s'.heap/\(∀b∈fp,H' b=none)/\W i n σ' H') ?_ m0 ⟨0,σ,H2,I2,st2,fun b hb=>(f2 b hb).1,w0⟩
 rintro n s3 ⟨i,σ3,H3,I3,st3,fr3,w3⟩
 rcases turn i n σ3 H3 w3 with⟨stop,qn⟩ | ⟨go,N,hN,step⟩
 ·refine wpAny_passesOwn hp (thn (T.done X rfl rfl rfl hc i pins s3 σ3 H3 X.xe I3 (stat fr3) st3 stop) fun r s4 ⟨hr,I4⟩=>?_)
  subst hr
  exact wpAny_execs_nil ⟨σ3,H3,I4,qn⟩
 ·refine wpAny_passesOwn hp (thn (T.item X rfl rfl rfl hc i pins s3 σ3 H3 X.xe I3 (stat fr3) st3 go) fun r s4 ⟨u,hr,h4⟩=>?_)
  subst hr
  refine wpAny_passesOwn hp (thn h4 fun _ s5 ⟨x,H5,I5,r5,y5,st5,fr5⟩=>?_)
  have I5':=I5.pinned (stat fr5) (T.obj _ _ st5)
  refine wpAny_passesOwn hp (thn (hg _ s5 σ3 H5 x u _ I5' r5 (step x H5 y5)) fun _ s6 ⟨σ6,H6,I6,q6⟩=>?_)
  refine wpAny_passesOwn hp (thn (hb _ s6 σ6 H6 _ I6 q6) fun f s7 q7=>?_)
  have again:∀{σ7:St}{H7:Hp},Inv X (pins++Zac fp s5.heap) σ7 H7 s7->N σ7 H7->∃m,m < n/\∃i σ' H',Inv X pins σ' H' s7/\tn i s7.heap/\(∀b∈fp,H' b=none)/\W i m σ' H':=fun {σ7 H7} I7 n7=>by
   obtain⟨m',hm,w7⟩:=hN σ7 H7 n7
   refine⟨m',hm,i+1,σ7,H7,I7.unpinned,T.keep _ _ _ st5 fun b hb o e=>(I7.pin (b,o) (xJ _ (xJ _ (Zb3 hb e)))).1,fun b hb=>?_,w7⟩
   obtain⟨o,e,d⟩:=T.obj _ _ st5 b hb
   exact(I7.pin (b,o) (xJ _ (xJ _ (Zb3 hb e)))).2.1
  cases f with
  | next=>obtain⟨σ7,H7,I7,n7⟩:=q7;exact again I7 n7
  | cont=>obtain⟨σ7,H7,I7,n7⟩:=q7;exact again I7 n7
  | brk=>obtain⟨σ7,H7,I7,q7⟩:=q7;exact⟨σ7,H7,I7.unpinned,q7⟩
  | ret v=>obtain⟨x7,σ7,H7,I7,r7,q7⟩:=q7;exact⟨x7,σ7,H7,I7.unpinned,r7,q7⟩
end
theorem Zo6{K:uFg}{a:Addr}{xs:List V}{g:TG}{tb:TS}{D:Ends}{σ:St}{H:Hp}(Pv:Nat->St->Hp->Prop)(h0:Pv 0 σ H)(hl:∀i σ H,i<=xs.length->Pv i σ H->SqL K H a xs)(hs:∀i x σ H,xs[i]? = some x->Pv i σ H->g x σ H fun σ2 H2=>tb {D with nx:=Pv (i+1),ct:=Pv (i+1),bk:=D.nx } σ2 H2)(hd:∀ σ H,Pv xs.length σ H->D.nx σ H) :
  ∃W:Nat->Nat->St->Hp->Prop,(∃m,W 0 m σ H)/\∀i m σ H,W i m σ H ->
   ((Itl K a).stop i H/\D.nx σ H)\/((Itl K a).go i H/\∃N:St->Hp->Prop,(∀ σ' H',N σ' H'->∃m',m' < m/\W (i+1) m' σ' H')/\∀x H',(Itl K a).yld i H x H'->g x σ H' fun σ2 H2=>tb {D with nx:=N,ct:=N,bk:=D.nx } σ2 H2):=by
 refine⟨fun i m σ H=>m=xs.length - i/\i<=xs.length/\Pv i σ H,⟨xs.length,by simp,yQ _,h0⟩,?_⟩
 rintro i m σ H ⟨rfl,hi,p⟩
 have q:=hl i σ H hi p
 by_cases hlt:i < xs.length
 ·refine .inr ⟨⟨xs,xs[i],q,by simp[hlt]⟩,Pv (i+1),fun σ' H' p'=>⟨xs.length - (i+1),by lia,rfl,hlt,p'⟩,fun x H' y=>?_⟩
  obtain⟨e,y⟩:=y
  subst e
  exact hs i x σ _ (y xs q) p
 ·have e:i=xs.length:=by lia
  subst e
  exact .inl ⟨⟨xs,q,xK _⟩,hd σ H p⟩
theorem Zoc{lo:Int}{n:Nat}{g:TG}{tb:TS}{D:Ends}{σ:St}{H:Hp}(Pv:Nat->St->Hp->Prop)(h0:Pv 0 σ H)(hs:∀i σ H,i < n->Pv i σ H->g (.int (lo+i)) σ H fun σ2 H2=>tb {D with nx:=Pv (i+1),ct:=Pv (i+1),bk:=D.nx } σ2 H2)(hd:∀ σ H,Pv n σ H->D.nx σ H) :
  ∃W:Nat->Nat->St->Hp->Prop,(∃m,W 0 m σ H)/\∀i m σ H,W i m σ H ->
   ((Itr lo n).stop i H/\D.nx σ H)\/((Itr lo n).go i H/\∃N:St->Hp->Prop,(∀ σ' H',N σ' H'->∃m',m' < m/\W (i+1) m' σ' H')/\∀x H',(Itr lo n).yld i H x H'->g x σ H' fun σ2 H2=>tb {D with nx:=N,ct:=N,bk:=D.nx } σ2 H2):=by
 refine⟨fun i m σ H=>m=n - i/\i<=n/\Pv i σ H,⟨n,by simp,yQ _,h0⟩,?_⟩
 rintro i m σ H ⟨rfl,hi,p⟩
 by_cases hlt:i < n
 ·refine .inr ⟨hlt,Pv (i+1),fun σ' H' p'=>⟨n - (i+1),by lia,rfl,hlt,p'⟩,fun x H' y=>?_⟩
  obtain⟨e,y⟩:=y
  subst e y
  exact hs i σ _ hlt p
 ·have e:i=n:=by lia
  subst e
  exact .inl ⟨xK _,hd σ H p⟩
end L2
namespace L2
open PySem PySem.Spec PyProof.Rows
abbrev R2:=V->V->Hp->VK->Prop
def OpR(X:Cx)(f:Value->Value->Sem Value)(r:R2):Prop :=
 ∀(pins:List (Addr×Obj))(s:Shared)(σ:St)(H:Hp)(x y:V)(v u:Value)(Q:VK),Inv X pins σ H s->RelV x v->RelV y u->r x y H Q ->
  wpAny (model X.prog X.w) X.A (f v u) (EP X pins σ Q) X.xe s
def UnR(X:Cx)(f:Value->Sem Value)(r:V->Hp->VK->Prop):Prop :=
 ∀(pins:List (Addr×Obj))(s:Shared)(σ:St)(H:Hp)(x:V)(v:Value)(Q:VK),Inv X pins σ H s->RelV x v->r x H Q ->
  wpAny (model X.prog X.w) X.A (f v) (EP X pins σ Q) X.xe s
def Vv(X:Cx)(f:Value)(r:List V->Hp->VK->Prop):Prop :=
 ∀(pins:List (Addr×Obj))(s:Shared)(σ:St)(H:Hp)(xs:List V)(us:List Value)(Q:VK),Inv X pins σ H s->Vals xs us->r xs H Q ->
  wpAny (model X.prog X.w) X.A (call f us) (EP X pins σ Q) X.xe s
def tOp(r:R2)(ta tb:TE):TE:=fun σ H Q=>ta σ H fun x H1=>tb σ H1 fun y H2=>r x y H2 Q
def tUn(r:V->Hp->VK->Prop)(ta:TE):TE:=fun σ H Q=>ta σ H fun x H1=>r x H1 Q
inductive rI (C:Int->Int->Prop) (g:Int->Int->V) (x:V) (y:V) (H:Hp) (Q:VK):Prop
 | mk (i j) (h0:x = .int i) (h1:y = .int j) (h2:C i j) (h3:Q (g i j) H)
inductive rI0 (g:Int->Int->V) (x:V) (y:V) (H:Hp) (Q:VK):Prop
 | mk (i j) (h0:x = .int i) (h1:y = .int j) (h2:Q (g i j) H)
inductive rU (g:Int->V) (x:V) (H:Hp) (Q:VK):Prop
 | mk (i) (h0:x = .int i) (h1:Q (g i) H)
section
variable{X:Cx}{a b c:Expr}{ta tb tc:TE}{pos:Pos}
theorem Zgz(ha:PE X a ta)(hb:PE X b tb){pins:List (Addr×Obj)}{s:Shared}{σ:St}{H:Hp}{R:V->V->Hp->Prop}(I:Inv X pins σ H s)(h:ta σ H fun x H1=>tb σ H1 fun y H2=>R x y H2){Q:Value->Shared->Prop}{f:Value->Value->Sem Value}(hf:∀v u s2 x y H2,Inv X pins σ H2 s2->RelV x v->RelV y u->R x y H2->wpAny (model X.prog X.w) X.A (f v u) Q X.xe s2) :
  wpAny (model X.prog X.w) X.A (eval a X.env) (fun v s₁=>wpAny (model X.prog X.w) X.A (eval b X.env) (fun u s₂=>wpAny (model X.prog X.w) X.A (f v u) Q X.xe s₂) X.xe s₁) X.xe s:=by
 refine thn (ha pins s σ H _ I h) fun v s1 ⟨x,H1,I1,r1,q1⟩=>?_
 refine thn (hb pins s1 σ H1 _ I1 q1) fun u s2 ⟨y,H2,I2,r2,q2⟩=>?_
 exact hf v u s2 x y H2 I2 r1 r2 q2
theorem Zu2{op:Operator}{r:R2}(ho:OpR X (binaryOp op) r)(ha:PE X a ta)(hb:PE X b tb):PE X (.BinOp a op b pos) (tOp r ta tb):=by
 intro pins s σ H Q I h
 exact wpAny_BinOp (Zgz ha hb I h fun v u s2 x y H2 I2 rx ry q=>ho pins s2 σ H2 x y v u Q I2 rx ry q)
theorem Zu3{op:UnaryOp}{r:V->Hp->VK->Prop}(ho:UnR X (unaryOp op) r)(ha:PE X a ta):PE X (.UnaryOp op a pos) (tUn r ta):=by
 intro pins s σ H Q I h
 exact UnaryOp_ (thn (ha pins s σ H _ I h) fun v s1 ⟨x,H1,I1,r1,q1⟩=>ho pins s1 σ H1 x v Q I1 r1 q1)
theorem opI{f:Value->Value->Sem Value}{C:Int->Int->Prop}{g:Int->Int->Int}(rule:∀ (i j:Int) (t u:Tok) (s:Shared) (Q:Value->Shared->Prop) (E:Value->Shared->Prop),C i j->Q (.int (g i j) s.toks) {s with toks:=s.toks+1 }->wpAny (model X.prog X.w) X.A (f (.int i t) (.int j u)) Q E s) :
  OpR X f (rI C fun i j=>.int (g i j)):=by
 intro pins s σ H x y v u Q I rx ry h
 obtain⟨i,j,rfl,rfl,hc,q⟩:=h
 obtain⟨t,rfl⟩:=rx
 obtain⟨t',rfl⟩:=ry
 exact rule i j t t' s _ _ hc ⟨.int (g i j),H,I.tok _,⟨_,rfl⟩,q⟩
theorem Zl2{f:Value->Value->Sem Value}{g:Int->Int->Int}(rule:∀ (i j:Int) (t u:Tok) (s:Shared) (Q:Value->Shared->Prop) (E:Value->Shared->Prop),Q (.int (g i j) s.toks) {s with toks:=s.toks+1 }->wpAny (model X.prog X.w) X.A (f (.int i t) (.int j u)) Q E s) :
  OpR X f (rI0 fun i j=>.int (g i j)):=by
 intro pins s σ H x y v u Q I rx ry h
 obtain⟨i,j,rfl,rfl,q⟩:=h
 obtain⟨t,rfl⟩:=rx
 obtain⟨t',rfl⟩:=ry
 exact rule i j t t' s _ _ ⟨.int (g i j),H,I.tok _,⟨_,rfl⟩,q⟩
theorem Zdz{f:Value->Value->Sem Value}{g:Int->Int->Bool}(rule:∀ (i j:Int) (t u:Tok) (s:Shared) (Q:Value->Shared->Prop) (E:Value->Shared->Prop),Q (.bool (g i j)) s->wpAny (model X.prog X.w) X.A (f (.int i t) (.int j u)) Q E s) :
  OpR X f (rI0 fun i j=>.bl (g i j)):=by
 intro pins s σ H x y v u Q I rx ry h
 obtain⟨i,j,rfl,rfl,q⟩:=h
 obtain⟨t,rfl⟩:=rx
 obtain⟨t',rfl⟩:=ry
 exact rule i j t t' s _ _ ⟨.bl (g i j),H,I,rfl,q⟩
def Zg0(i j:Int):Prop:=0 < j/\j < 1073741824
def Zg1(i j:Int):Prop:=0<=j/\j<=1000000/\i.natAbs < 2 ^ 64
def CMul(i j:Int):Prop:=(-(2 ^ 64) < i/\i < 2 ^ 64)\/(-(2 ^ 64) < j/\j < 2 ^ 64)
theorem CMul.ok{i j:Int}(h:CMul i j):IntMulOk i j:=by
 rcases h with⟨h1,h2⟩ | ⟨h1,h2⟩
 ·exact .of_left (intBits_le_64 h1 h2)
 ·exact .of_right (intBits_le_64 h1 h2)
theorem Ztm:OpR X (binaryOp .Add) (rI0 fun i j=>.int (i+j)):=Zl2 fun _ _ _ _ _ _ _ q=>add_int q
theorem Ztn:OpR X (binaryOp .Sub) (rI0 fun i j=>.int (i - j)):=Zl2 fun _ _ _ _ _ _ _ q=>sub_int q
theorem Zto:OpR X (binaryOp .Mult) (rI CMul fun i j=>.int (i * j)):=opI fun _ _ _ _ _ _ _ hc q=>mul_int q hc.ok
theorem Zrh:OpR X (binaryOp .FloorDiv) (rI Zg0 fun i j=>.int (i / j)):=opI fun i j _ _ _ _ _ hc q=>by
 have h1:(0:Int) < j:=hc.1
 have h2:j < 1073741824:=hc.2
 exact floordiv_int (by lia) (by rw[Int.fdiv_eq_ediv_of_nonneg i (by lia)];exact q) (.inl (PyProof.noPylong_small (by lia)))
theorem Ztp:OpR X (binaryOp .Mod) (rI (fun _ j=>0 < j) fun i j=>.int (i % j)):=opI fun i j _ _ _ _ _ hc q=>by
 have h1:(0:Int) < j:=hc
 exact mod_int' (by lia) (by rw[Int.fmod_eq_emod_of_nonneg i (by lia)];exact q)
theorem Ztq:OpR X (binaryOp .Pow) (rI Zg1 fun i j=>.int (i ^ j.toNat)):=opI fun _ _ _ _ _ _ _ hc q=>pow_int_small hc.1 hc.2.1 hc.2.2 q
end
def Zl3:V->V->Bool
 | .non,.non=>true | .non,.int _=>true | .int _,.non=>true | .non,.bl _=>true | .bl _,.non=>true | .non,.str _=>true | .str _,.non=>true
 | .int _,.int _=>true | .bl _,.bl _=>true | .str _,.str _=>true | .byt _,.byt _=>true
 | .int _,.str _=>true | .str _,.int _=>true | .bl _,.str _=>true | .str _,.bl _=>true
 | _,_=>false
def rEq:R2:=fun x y H Q=>Zl3 x y=true/\Q (.bl (decide (x=y))) H
def rNe:R2:=fun x y H Q=>Zl3 x y=true/\Q (.bl (!decide (x=y))) H
theorem Ziv{i j:Int}:decide (V.int i=V.int j)=(i == j):=by
 rw[zE]
 simp
theorem Zjn{i j:Bool}:decide (V.bl i=V.bl j)=(i == j):=by
 rw[zE]
 simp
theorem Ziw{i j:Str}:decide (V.str i=V.str j)=(i == j):=by
 rw[zE]
 simp
theorem Zix{i j:Array UInt8}:decide (V.byt i=V.byt j)=(i.toList == j.toList):=by
 rw[zE]
 cases i
 cases j
 simp
section
variable{X:Cx}{a b c:Expr}{ta tb tc:TE}{pos:Pos}
theorem Yb{pins:List (Addr×Obj)}{σ:St}{H:Hp}{s:Shared}{Q:VK}{k k':Bool}(I:Inv X pins σ H s)(q:Q (.bl k) H)(e:k=k'):EP X pins σ Q (.bool k') s:=by
 subst e
 exact⟨.bl k,H,I,rfl,q⟩
theorem Zu4:OpR X (compareOp .Eq) rEq:=by
 intro pins s σ H x y v u Q I rx ry h
 obtain⟨hs,q⟩:=h
 cases x with
 | non =>
  cases rx
  cases y with
  | non=>cases ry;exact PySem.EqNone.eq_none_none (Yb I q (by simp))
  | bl j=>cases ry;exact PySem.EqNone.eq_none_bool (Yb I q (by simp))
  | int j=>obtain⟨t',rfl⟩:=ry;exact PySem.EqNone.eq_none_int (Yb I q (by simp))
  | str j=>obtain⟨t',rfl⟩:=ry;exact PySem.EqNone.eq_none_str (Yb I q (by simp))
  | _=>exact absurd (show false=true from hs) xH
 | bl i =>
  cases rx
  cases y with
  | non=>cases ry;exact PySem.EqNone.eq_bool_none (Yb I q (by simp))
  | bl j=>cases ry;exact eq_bool (Yb I q Zjn)
  | str j=>obtain⟨t',rfl⟩:=ry;exact PySem.EqMixed.eq_bool_str (Yb I q (by simp))
  | _=>exact absurd (show false=true from hs) xH
 | int i =>
  obtain⟨t,rfl⟩:=rx
  cases y with
  | non=>cases ry;exact PySem.EqNone.eq_int_none (Yb I q (by simp))
  | int j=>obtain⟨t',rfl⟩:=ry;exact eq_int (Yb I q Ziv)
  | str j=>obtain⟨t',rfl⟩:=ry;exact PySem.EqMixed.eq_int_str (Yb I q (by simp))
  | _=>exact absurd (show false=true from hs) xH
 | str i =>
  obtain⟨t,rfl⟩:=rx
  cases y with
  | non=>cases ry;exact PySem.EqNone.eq_str_none (Yb I q (by simp))
  | bl j=>cases ry;exact PySem.EqMixed.eq_str_bool (Yb I q (by simp))
  | int j=>obtain⟨t',rfl⟩:=ry;exact PySem.EqMixed.eq_str_int (Yb I q (by simp))
  | str j=>obtain⟨t',rfl⟩:=ry;exact eq_str (Yb I q Ziw)
  | _=>exact absurd (show false=true from hs) xH
 | byt i =>
  obtain⟨t,rfl⟩:=rx
  cases y with
  | byt j=>obtain⟨t',rfl⟩:=ry;exact PySem.W.eq_bytes (Yb I q Zix)
  | _=>exact absurd (show false=true from hs) xH
 | _=>cases y<;>exact absurd (show false=true from hs) xH
theorem Zu5:OpR X (compareOp .NotEq) rNe:=by
 intro pins s σ H x y v u Q I rx ry h
 obtain⟨hs,q⟩:=h
 cases x with
 | non =>
  cases rx
  cases y with
  | non=>cases ry;exact PySem.EqNone.ne_none_none (Yb I q (by simp))
  | bl j=>cases ry;exact PySem.EqNone.ne_none_bool (Yb I q (by simp))
  | int j=>obtain⟨t',rfl⟩:=ry;exact PySem.EqNone.ne_none_int (Yb I q (by simp))
  | str j=>obtain⟨t',rfl⟩:=ry;exact PySem.EqNone.ne_none_str (Yb I q (by simp))
  | _=>exact absurd (show false=true from hs) xH
 | bl i =>
  cases rx
  cases y with
  | non=>cases ry;exact PySem.EqNone.ne_bool_none (Yb I q (by simp))
  | bl j=>cases ry;exact ne_bool (Yb I q (congrArg not Zjn))
  | str j=>obtain⟨t',rfl⟩:=ry;exact PySem.EqMixed.ne_bool_str (Yb I q (by simp))
  | _=>exact absurd (show false=true from hs) xH
 | int i =>
  obtain⟨t,rfl⟩:=rx
  cases y with
  | non=>cases ry;exact PySem.EqNone.ne_int_none (Yb I q (by simp))
  | int j=>obtain⟨t',rfl⟩:=ry;exact ne_int (Yb I q (congrArg not Ziv))
  | str j=>obtain⟨t',rfl⟩:=ry;exact PySem.EqMixed.ne_int_str (Yb I q (by simp))
  | _=>exact absurd (show false=true from hs) xH
 | str i =>
  obtain⟨t,rfl⟩:=rx
  cases y with
  | non=>cases ry;exact PySem.EqNone.ne_str_none (Yb I q (by simp))
  | bl j=>cases ry;exact PySem.EqMixed.ne_str_bool (Yb I q (by simp))
  | int j=>obtain⟨t',rfl⟩:=ry;exact PySem.EqMixed.ne_str_int (Yb I q (by simp))
  | str j=>obtain⟨t',rfl⟩:=ry;exact ne_str (Yb I q (congrArg not Ziw))
  | _=>exact absurd (show false=true from hs) xH
 | byt i =>
  obtain⟨t,rfl⟩:=rx
  cases y with
  | byt j=>obtain⟨t',rfl⟩:=ry;exact PySem.W.ne_bytes (Yb I q (congrArg not Zix))
  | _=>exact absurd (show false=true from hs) xH
 | _=>cases y<;>exact absurd (show false=true from hs) xH
theorem Zu6:OpR X (compareOp .Lt) (rI0 fun i j=>.bl (decide (i < j))):=Zdz fun _ _ _ _ _ _ _ q=>lt_int q
theorem Zu7:OpR X (compareOp .LtE) (rI0 fun i j=>.bl (decide (i<=j))):=Zdz fun _ _ _ _ _ _ _ q=>le_int q
theorem Zu8:OpR X (compareOp .Gt) (rI0 fun i j=>.bl (decide (j < i))):=Zdz fun _ _ _ _ _ _ _ q=>gt_int q
theorem Zu9:OpR X (compareOp .GtE) (rI0 fun i j=>.bl (decide (j<=i))):=Zdz fun _ _ _ _ _ _ _ q=>ge_int q
theorem Ztr:OpR X (compareOp .Is) (fun x y H Q=>y = .non/\Q (.bl (decide (x = .non))) H):=by
 intro pins s σ H x y v u Q I rx ry h
 obtain⟨rfl,q⟩:=h
 cases ry
 refine is_none_gen (Yb I q ?_)
 cases x<;>first
  | (cases rx;rfl)
  | (obtain⟨t,rfl⟩:=rx;rfl)
theorem Zri:OpR X (compareOp .IsNot) (fun x y H Q=>y = .non/\Q (.bl (!decide (x = .non))) H):=by
 intro pins s σ H x y v u Q I rx ry h
 obtain⟨rfl,q⟩:=h
 cases ry
 refine isnot_none_gen (Yb I q ?_)
 cases x<;>first
  | (cases rx;rfl)
  | (obtain⟨t,rfl⟩:=rx;rfl)
theorem Zm(b:Expr){op:CmpOp}(h:op ≠ .In:=by decide)(h2:op ≠ .NotIn:=by decide):behindInMarks op b=false:=by
 have e1:(op == CmpOp.In)=false:=by cases op<;>first | rfl | exact absurd rfl h
 have e2:(op == CmpOp.NotIn)=false:=by cases op<;>first | rfl | exact absurd rfl h2
 cases b<;>simp[behindInMarks,e1,e2]
theorem Zrj{op:CmpOp}{r:R2}(ho:OpR X (compareOp op) r)(ha:PE X a ta)(hb:PE X b tb)(hm:behindInMarks op b=false):PE X (.Compare a [op] [b] pos) (tOp r ta tb):=by
 intro pins s σ H Q I h
 exact wpAny_Compare1 (Zgz ha hb I h fun v u s2 x y H2 I2 rx ry q=>ho pins s2 σ H2 x y v u Q I2 rx ry q) hm
def Zad(t:TE):TT:=fun σ H Q=>t σ H fun x H'=>∃k,x = .bl k/\Q k H'
theorem Zrk{op:CmpOp}{r:R2}(ho:OpR X (compareOp op) r)(ha:PE X a ta)(hb:PE X b tb)(hm:behindInMarks op b=false):PT X (.Compare a [op] [b] pos) (Zad (tOp r ta tb)):=by
 intro pins s σ H Q I h
 refine wpAny_isTrue_Compare1 (thn (ha pins s σ H _ I h) fun v s1 ⟨x,H1,I1,r1,q1⟩=>thn (hb pins s1 σ H1 _ I1 q1) fun u s2 ⟨y,H2,I2,r2,q2⟩=>
  thn (ho pins s2 σ H2 x y v u _ I2 r1 r2 q2) fun c s3 ⟨z,H3,I3,r3,k,e,q3⟩=>?_) hm
 subst e
 cases r3
 exact wpAny_truthy_bool ⟨H3,I3,q3⟩
inductive tChain_ (r':R2) (tc:TE) (σ:St) (Q:VK) (y:V) (z:V) (H3:Hp):Prop
 | mk (k) (h0:z = .bl k) (h1:(if k=true then tc σ H3 fun w' H4=>r' y w' H4 Q else Q (.bl false) H3))
def Zdc(r r':R2)(ta tb tc:TE):TE:=fun σ H Q=>ta σ H fun x H1=>tb σ H1 fun y H2=>r x y H2 fun z H3=>tChain_ r' tc σ Q y z H3
theorem Zo7{op op':CmpOp}{r r':R2}(ho:OpR X (compareOp op) r)(ho':OpR X (compareOp op') r')(ha:PE X a ta)(hb:PE X b tb)(hc:PE X c tc)(hm:lastMarks [op,op'] [b,c]=false:=by with_unfolding_all rfl):PE X (.Compare a [op,op'] [b,c] pos) (Zdc r r' ta tb tc):=by
 intro pins s σ H Q I h
 refine Compare_chain (thn (ha pins s σ H _ I h) fun v s1 ⟨x,H1,I1,r1,q1⟩=>chain_link (thn (hb pins s1 σ H1 _ I1 q1) fun u s2 ⟨y,H2,I2,r2,q2⟩=>
  thn (ho pins s2 σ H2 x y v u _ I2 r1 r2 q2) fun d s3 ⟨z,H3,I3,r3,k,e,q3⟩=>?_)) hm
 subst e
 cases r3
 refine wpAny_truthy_bool ?_
 cases k with
 | false=>exact ite_ff ⟨.bl false,H3,I3,rfl,q3⟩
 | true=>exact ite_tt (chain_last (thn (hc pins s3 σ H3 _ I3 q3) fun w' s4 ⟨z',H4,I4,r4,q4⟩=>ho' pins s4 σ H4 y z' u w' Q I4 r2 r4 q4))
theorem Zo8{op op':CmpOp}{r r':R2}(ho:OpR X (compareOp op) r)(ho':OpR X (compareOp op') r')(ha:PE X a ta)(hb:PE X b tb)(hc:PE X c tc)(hm:lastMarks [op,op'] [b,c]=false:=by with_unfolding_all rfl):PT X (.Compare a [op,op'] [b,c] pos) (Zad (Zdc r r' ta tb tc)):=by
 intro pins s σ H Q I h
 refine isTrue_chain (thn (ha pins s σ H _ I h) fun v s1 ⟨x,H1,I1,r1,q1⟩=>test_link (thn (hb pins s1 σ H1 _ I1 q1) fun u s2 ⟨y,H2,I2,r2,q2⟩=>
  thn (ho pins s2 σ H2 x y v u _ I2 r1 r2 q2) fun d s3 ⟨z,H3,I3,r3,k,e,q3⟩=>?_)) hm
 subst e
 cases r3
 refine wpAny_truthy_bool ?_
 cases k with
 | false =>
  obtain⟨k',e',q'⟩:=q3
  cases e'
  exact ite_ff ⟨H3,I3,q'⟩
 | true =>
  refine ite_tt (test_last (thn (hc pins s3 σ H3 _ I3 q3) fun w' s4 ⟨z',H4,I4,r4,q4⟩=>thn (ho' pins s4 σ H4 y z' u w' _ I4 r2 r4 q4) fun d' s5 ⟨z2,H5,I5,r5,k2,e2,q5⟩=>?_))
  subst e2
  cases r5
  exact wpAny_truthy_bool ⟨H5,I5,q5⟩
theorem Zbc:(sizeLine:Nat) < 2 ^ 63:=by rw[sizeLine_eq];decide
theorem Zni:OpR X (binaryOp .Add) (fun x y H Q=>∃i j,x = .str i/\y = .str j/\i.length+j.length<=sizeLine/\Q (.str (i++j)) H):=by
 intro pins s σ H x y v u Q I rx ry h
 obtain⟨i,j,rfl,rfl,hz,q⟩:=h
 obtain⟨t,rfl⟩:=rx
 obtain⟨t',rfl⟩:=ry
 exact add_str (fun t' tk=>⟨.str (i++j),H,I.tok _,⟨_,rfl⟩,q⟩) hz
theorem Zae{x:V}{us:List Value}(r:Vals [x] us):∃u,us = [u]/\RelV x u:=by
 cases r with
 | cons r1 r2=>cases r2;exact⟨_,rfl,r1⟩
theorem Zva{x y:V}{us:List Value}(r:Vals [x,y] us):∃u w',us = [u,w']/\RelV x u/\RelV y w':=by
 cases r with
 | cons r1 r2 =>
  cases r2 with
  | cons r3 r4=>cases r4;exact⟨_,_,rfl,r1,r3⟩
end
end L2
namespace L2
open PySem PySem.Spec PyProof.Rows
structure ObjM (h:Heap) (x dx C:Addr) (mA:Str->Option Value):Prop where
 obj:h.get? x=some (PySem.W.instObj C dx)
 ns:h.Ns1 dx mA
 ne:dx≠x
theorem Zod{h:Heap}{dx:Addr}{mA:Str->Option Value}(n:h.Ns1 dx mA):∃od,h.get? dx=some od/\∀name,PySem.W.lookIn name od=some (mA name):=by
 obtain⟨o,es,ep,ho,hd,hk,_,hm⟩:=n
 refine⟨o,ho,fun name=>?_⟩
 have e:=hm name
 unfold nsFind findBy at e
 rw[← Array.find?_toList] at e
 unfold PySem.W.lookIn
 rw[hd]
 dsimp only
 split
 ·rename_i y q
  rw[q] at e
  exact congrArg some e
 ·rename_i q
  rw[q] at e
  have a:es.toList.any (·.refKey)=false:=by
   rw[List.any_eq_false]
   intro y hy
   obtain⟨z,t,hkey⟩:=hk y (Array.mem_toList_iff.mp hy)
   simp[DictEntry.refKey,hkey]
  have a':¬es.toList.any (·.refKey)=true:=by rw[a];exact xH
  rw[if_neg a']
  exact congrArg some e
theorem ObjM.look{h:Heap}{x dx C:Addr}{mA:Str->Option Value}(I:ObjM h x dx C mA):∃od,PySem.W.InstAt h x (PySem.W.instObj C dx) C (some od)/\∀name,PySem.W.lookIn name od=some (mA name) :=
 let ⟨od,ho,hl⟩:=Zod I.ns
 ⟨od,⟨I.obj,rfl,rfl,ho⟩,hl⟩
section
variable{prog:Program}{w:World}{A:Around}{E:Value->Shared->Prop}{s:Shared}{K:uFg}{x dx C f:Addr}{mA:Str->Option Value}{name:Str}{v:Value}
theorem Zrl{expr:Bool}{Q:Value->Shared->Prop}(X:K.In s.heap)(I:ObjM s.heap x dx C mA)(hg:PySem.W.plainGet K C name=true)(hh:PySem.W.hasDictIn K C=true)(ha:PySem.W.findIn K (.ref C) name=some none)(hv:mA name=some v)(hv':PySem.W.handedIn v=true)(h:Q v {s with toks:=s.toks+1 }) :
  wpAny (model prog w) A (getAttr (.ref x) name expr) Q E s:=by
 obtain⟨od,J,hl⟩:=I.look
 exact PySem.W.get_value X J (PySem.W.plainGet_of hg).1 (PySem.W.findObj_own hh ha rfl (by rw[hl,hv])) hv' h
theorem Zo9{pl:Sem Bool}{Q:Value×List Value->Shared->Prop}(X:K.In s.heap)(I:ObjM s.heap x dx C mA)(hg:PySem.W.plainGet K C name=true)(hf:PySem.W.findIn K (.ref C) name=some (some (.ref f)))(ht:PySem.W.isFn K (.ref f)=true)(hv:mA name=none)(h:Q (.ref f,[.ref x]) s) :
  wpAny (model prog w) A (getMethod (.ref x) name pl) Q E s:=by
 obtain⟨od,J,hl⟩:=I.look
 exact PySem.W.method_fn X J (PySem.W.plainGet_of hg).1 (PySem.W.plainGet_of hg).2 hf (beq_iff_eq.mp ht) (by show (PySem.W.lookIn name od).map (·.isSome)=some false;rw[hl,hv];rfl) h
theorem Zrm{ns:List Str}{Q:Unit->Shared->Prop}(X:K.In s.heap)(I:ObjM s.heap x dx C mA)(hs:PySem.W.findIn K (.ref C) "__setattr__" = some (some (.builtin "object.__setattr__")))(hp:PySem.W.plainOver K C=true)(ht:PySem.W.takerIn K C name=some none)(hh:PySem.W.hasDictIn K C=true)(hw:PySem.Within mA ns)(hsz:ns.length<=sizeLine)(h:∀h',ObjM h' x dx C (fun y=>if y=name then some v else mA y)->Heap.SameBut dx s.heap h'->Q () {s with heap:=h',toks:=s.toks+2 }) :
  wpAny (model prog w) A (setAttr (.ref x) name v) Q E s:=by
 obtain⟨od,J,hl⟩:=I.look
 refine PySem.W.set_plain X J hs (PySem.W.osa_open (s:={s with toks:=s.toks+1 }) (r:=none) X J hp ht fun b=>?_)
 obtain⟨cd,hc,hd'⟩:=PySem.W.any_some hh
 have hx:s.heap.get? x=some ⟨.ref C,some dx,.plain,#[]⟩:=I.obj
 refine wpAny_bind (wpAny_pure (wpAny_bind (wpAny_bind (wpAny_loadPart hx (wpAny_bind (PySem.W.Looks.here (s:={s with toks:=s.toks+1 }) (PySem.W.looks_clsIn X hc) ?_))))))
 rw[hd']
 refine wpAny_pure (a:=some dx) (wpAny_bind (wpAny_pure (wpAny_bind ?_)))
 refine wpAny_nsSet1 (s:={s with toks:=s.toks+1 }) I.ns fun h' hn2 hs2=>?_
 obtain⟨oD,esD,epD,hoD,hdD,hcD⟩:=hn2.count (PySem.Within.cons name v hw)
 refine wpAny_bind (wpAny_lookBehind hoD (by rw[hdD];exact pastItsLine_dict (yK hcD (by rw[xY];lia))) ?_)
 exact wpAny_pure (h _ ⟨(hs2.2 _ (Ne.symm I.ne)).trans I.obj,hn2,I.ne⟩ hs2)
theorem Zpa{R:Result->Shared->Prop}{vs:List Value}{kw:List (Str×Value)}(X:K.In s.heap)(hm:PySem.W.makesIn K C=true)(hi:PySem.W.findIn K (.ref C) "__init__" = some (some (.ref f)))(hf:PySem.W.typeIn K (.ref f)=some (.type "function"))(h:codeAny (model prog w) (A.under (.builtin "type.__call__" ⟨.ref C::vs,kw⟩)) (.call (.ref f) ⟨.ref (s.heap.objs.size+1)::vs,kw⟩) (PySem.W.InitBack (s.heap.objs.size+1) R)
   {s with heap:=(s.heap.push PySem.W.emptyDict).push (PySem.W.instObj C s.heap.objs.size) }) :
  codeAny (model prog w) A (.call (.ref C) ⟨vs,kw⟩) R s:=by
 obtain⟨hh,g,d,t,os⟩:=s
 exact PySem.W.make_core (PySem.W.makes_of X hm) (PySem.W.looks_findIn X hi) (fun self=>PySem.W.bind_fn X self hf) (.inl rfl) h
end
def Zn(f:Str)(v:V):List (Str×V)->List (Str×V)
 | []=>[(f,v)]
 | (g,x)::r=>if g=f then (g,v)::r else (g,x)::Zn f v r
theorem Yk(f g:Str)(v:V):∀fs:List (Str×V),(Zn f v fs).lookup g=if g=f then some v else fs.lookup g
 | []=>by
  show List.lookup g [(f,v)]=_
  by_cases h:g=f
  ·have hb:(g == f)=true:=beq_iff_eq.mpr h
   simp only[List.lookup,hb,if_pos h]
  ·have hb:(g == f)=false:=beq_eq_false_iff_ne.mpr h
   simp only[List.lookup,hb,if_neg h]
 | (k,x)::r=>by
  have ih:=Yk f g v r
  rw[show Zn f v ((k,x)::r)=(if k=f then (k,v)::r else (k,x)::Zn f v r) from rfl]
  by_cases hk:k=f
  ·rw[if_pos hk]
   by_cases h:g=k
   ·have hb:(g == k)=true:=beq_iff_eq.mpr h
    simp only[List.lookup,hb,if_pos (h.trans hk)]
   ·have hb:(g == k)=false:=beq_eq_false_iff_ne.mpr h
    simp only[List.lookup,hb,if_neg (fun e:g=f=>h (e.trans hk.symm))]
  ·rw[if_neg hk]
   by_cases h:g=k
   ·have hb:(g == k)=true:=beq_iff_eq.mpr h
    simp only[List.lookup,hb,if_neg (fun e:g=f=>hk (h.symm.trans e))]
   ·have hb:(g == k)=false:=beq_eq_false_iff_ne.mpr h
    simp only[List.lookup,hb]
    exact ih
theorem Zec(f:Str)(v:V):∀fs:List (Str×V),f∈(Zn f v fs).map (·.1)/\∀g,g∈fs.map (·.1)->g∈(Zn f v fs).map (·.1)
 | []=>⟨by simp[Zn],fun g h=>by simp at h⟩
 | (k,x)::r=>by
  obtain⟨i1,i2⟩:=Zec f v r
  rw[show Zn f v ((k,x)::r)=(if k=f then (k,v)::r else (k,x)::Zn f v r) from rfl]
  by_cases hk:k=f
  ·rw[if_pos hk]
   subst hk
   exact⟨by simp,fun g h=>by simpa using h⟩
  ·rw[if_neg hk]
   refine⟨?_,fun g h=>?_⟩
   ·rw[xU]
    exact xX _ i1
   ·rw[xU] at h ⊢
    rcases xE.mp h with e | e
    ·exact xE.mpr (.inl e)
    ·exact xX _ (i2 g e)
theorem Zaf(f:Str)(v:V):∀fs:List (Str×V),(Zn f v fs).length<=fs.length+1
 | []=>by simp[Zn]
 | (k,x)::r=>by
  have ih:=Zaf f v r
  rw[show Zn f v ((k,x)::r)=(if k=f then (k,v)::r else (k,x)::Zn f v r) from rfl]
  by_cases hk:k=f
  ·rw[if_pos hk,xY,xY];lia
  ·rw[if_neg hk,xY,xY];lia
theorem RelO.some_of{v:V}{o:Option Value}(r:RelO (some v) o):∃u,o=some u/\RelV v u:=by
 cases o with
 | none=>exact(show False from r).elim
 | some u=>exact⟨u,rfl,r⟩
theorem RelO.none_of{o:Option Value}(r:RelO none o):o=none:=by
 cases o with
 | none=>rfl
 | some u=>exact(show False from r).elim
theorem Zoe{v:V}{u:Value}(r:RelV v u):PySem.W.handedIn u=true:=by
 cases v with
 | non=>cases (show u=Value.none from r);rfl
 | bl b=>cases (show u=Value.bool b from r);rfl
 | int i=>obtain⟨t,e⟩:=(show ∃t,u=Value.int i t from r);cases e;rfl
 | str x=>obtain⟨t,e⟩:=(show ∃t,u=Value.str x t from r);cases e;rfl
 | byt b=>obtain⟨t,e⟩:=(show ∃t,u=Value.bytes b t from r);cases e;rfl
 | flt b=>obtain⟨t,e⟩:=(show ∃t,u=Value.float b t from r);cases e;rfl
 | ref a=>cases (show u=Value.ref a from r);rfl
 | ty n=>cases (show u=Value.type n from r);rfl
section
variable{P:Program}{w:World}{H H':Hp}{h h':Heap}{a C dx:Addr}{fs fs':List (Str×V)}
theorem Zc5(hok:HOk P w H h)(e:H a=some (.ins C dx fs)):∃mA,ObjM h a dx C mA/\(∀f,RelO (fs.lookup f) (mA f))/\PySem.Within mA (fs.map (·.1))/\fs.length<=1000/\H dx=some (.own a):=by
 obtain⟨d,z,ne,ob,mA,n,r,q⟩:=(show ObjOk P w H h a (.ins C dx fs) from hok a _ e)
 exact⟨mA,⟨ob,n,ne⟩,r,q,z,d⟩
end
structure Cls (K:uFg) (C:Addr):Prop where
 pg:PySem.W.plainGet K C Str.empty=true
 hd:PySem.W.hasDictIn K C=true
 po:PySem.W.plainOver K C=true
 sa:PySem.W.findIn K (.ref C) "__setattr__" = some (some (.builtin "object.__setattr__"))
theorem Cls.get{K:uFg}{C:Addr}(c:Cls K C)(f:Str):PySem.W.plainGet K C f=true:=c.pg
def NoAttr(K:uFg)(C:Addr)(f:Str):Prop:=PySem.W.findIn K (.ref C) f=some none
theorem NoAttr.taker{K:uFg}{C:Addr}{f:Str}(n:NoAttr K C f):PySem.W.takerIn K C f=some none:=by
 unfold PySem.W.takerIn
 rw[show PySem.W.findIn K (.ref C) f=some none from n]
 rfl
structure Con (K:uFg) (C:Addr) (f:Str) (v:V) (u:Value):Prop where
 at_:PySem.W.findIn K (.ref C) f=some (some u)
 rel:RelV v u
 get:PySem.W.specialIn K u "__get__" = some none
 cp:PySem.W.copiedNames.contains f=false
structure Meth (K:uFg) (C:Addr) (m:Str) (f:Addr):Prop where
 at_:PySem.W.findIn K (.ref C) m=some (some (.ref f))
 fn:PySem.W.isFn K (.ref f)=true
 kp:PySem.W.keepIn K (.ref f)=true
section
variable{X:Cx}{pins:List (Addr×Obj)}{σ:St}{H:Hp}{s:Shared}{a C dx:Addr}{fs:List (Str×V)}{f:Str}{v:V}{A:Around}{E:Value->Shared->Prop}
theorem Znj{b:Bool}{Q:Value->Shared->Prop}(I:Inv X pins σ H s)(e:H a=some (.ins C dx fs))(c:Cls X.K C)(n:NoAttr X.K C f)(l:fs.lookup f=some v)(h:∀u s',Inv X pins σ H s'->RelV v u->Q u s'):wpAny (model X.prog X.w) A (getAttr (.ref a) f b) Q E s:=by
 obtain⟨mA,O,r,_,_,_⟩:=Zc5 I.hok e
 obtain⟨u,hu,ru⟩:=RelO.some_of (v:=v) (o:=mA f) (by rw[← l];exact r f)
 exact Zrl I.kIn O (c.get f) c.hd n hu (Zoe ru) (h u _ (I.tok _) ru)
theorem Zcz{m:Str}{g:Addr}{pl:Sem Bool}{Q:Value×List Value->Shared->Prop}(I:Inv X pins σ H s)(e:H a=some (.ins C dx fs))(c:Cls X.K C)(k:Meth X.K C m g)(l:fs.lookup m=none)(h:Q (.ref g,[.ref a]) s):wpAny (model X.prog X.w) A (getMethod (.ref a) m pl) Q E s:=by
 obtain⟨mA,O,r,_,_,_⟩:=Zc5 I.hok e
 have hn:mA m=none:=RelO.none_of (by rw[← l];exact r m)
 exact Zo9 I.kIn O (c.get m) k.at_ k.fn hn h
theorem Znk{y:V}{u:Value}{Q:Unit->Shared->Prop}(I:Inv X pins σ H s)(e:H a=some (.ins C dx fs))(c:Cls X.K C)(n:NoAttr X.K C f)(hl:fs.length < 1000)(ry:RelV y u)(h:∀s',Inv X pins σ (upd H a (.ins C dx (Zn f y fs))) s'->Q () s'):wpAny (model X.prog X.w) A (setAttr (.ref a) f u) Q E s:=by
 obtain⟨mA,O,r,wi,_,ho⟩:=Zc5 I.hok e
 have hz:(fs.map (·.1)).length<=sizeLine:=by rw[xA,sizeLine_eq];lia
 refine Zrm I.kIn O c.sa c.po n.taker c.hd wi hz fun h' O' sb=>h _ ?_
 have hd:∃o,h'.get? dx=some o:=let ⟨o,_,_,e',_⟩:=O'.ns;⟨o,e'⟩
 refine I.write (x:=a) (e:=dx) (by rw[e];exact True.intro) (.inr ho) (fun b q hb z=>(sb.2 b hb).trans z) hd ?_
 refine⟨by rw[Zf O.ne];exact ho,?_,O.ne,O'.obj,_,O'.ns,fun g=>?_,fun g hg=>?_⟩
 ·have:=Zaf f y fs;lia
 ·show RelO ((Zn f y fs).lookup g) (if g=f then some u else mA g)
  rw[Yk]
  by_cases q:g=f
  ·rw[if_pos q,if_pos q];exact ry
  ·rw[if_neg q,if_neg q];exact r g
 ·by_cases q:g=f
  ·rw[q];exact(Zec f y fs).1
  ·refine(Zec f y fs).2 g (wi g fun z=>hg ?_)
   show (if g=f then some u else mA g)=none
   rw[if_neg q];exact z
theorem Inv.made(I:Inv X pins σ H s):Inv X pins σ (upd (upd H s.heap.objs.size (.own (s.heap.objs.size+1))) (s.heap.objs.size+1) (.ins C s.heap.objs.size []))
  {s with heap:=(s.heap.push PySem.W.emptyDict).push (PySem.W.instObj C s.heap.objs.size) }:=by
 have e1:(s.heap.push PySem.W.emptyDict).get? s.heap.objs.size=some PySem.W.emptyDict:=yD s.heap rfl
 have e2:((s.heap.push PySem.W.emptyDict).push (PySem.W.instObj C s.heap.objs.size)).get? (s.heap.objs.size+1)=some (PySem.W.instObj C s.heap.objs.size):=by
  have:=yD (s.heap.push PySem.W.emptyDict) (o:=PySem.W.instObj C s.heap.objs.size) rfl
  rwa [Heap.size_push] at this
 have e3:(s.heap.push PySem.W.emptyDict).Ns s.heap.objs.size (fun _=>none):=⟨PySem.W.emptyDict,#[],_,e1,rfl,(fun e he=>absurd he (by simp)),fun _=>rfl⟩
 have I1:=I.laid (a:=s.heap.objs.size) (o:=.own (s.heap.objs.size+1)) (h':=s.heap.push PySem.W.emptyDict) (t':=s.toks) (fun b u q=>xI _ q) (xK _) ⟨_,e1⟩
 refine I1.laid (a:=s.heap.objs.size+1) (o:=.ins C s.heap.objs.size []) (t':=s.toks) (fun b u q=>xI _ q) (Nat.le_of_eq (Heap.size_push _ _)) ?_
 have ne:s.heap.objs.size≠s.heap.objs.size+1:=yM (Nat.lt_succ_self _)
 refine⟨by rw[Zf ne,Zg],yQ _,ne,e2,fun _=>none,(Heap.Ns1.of_empty e3).at fun o q=>xI _ q,fun _=>True.intro,fun y hy=>absurd rfl hy⟩
theorem Zrn{prog:Program}{w:World}{env:Env}{e:Expr}{f:Str}{pos:Pos}{s:Shared}{Q:Value->Shared->Prop}(hb:attributeBase e f env (eval e env)=eval e env)(h:wpAny (model prog w) A (eval e env) (fun o s₁=>wpAny (model prog w) A (getAttr o f true) Q E s₁) E s):wpAny (model prog w) A (eval (.Attribute e f pos) env) Q E s :=
 Attribute_any_ h (by rw[arm_eval_Attribute,hb])
end
inductive tFld_ (K:uFg) (f:Str) (Q:VK) (x:V) (H1:Hp):Prop
 | mk (a C dx fs v) (h0:x = .ref a) (h1:H1 a=some (.ins C dx fs)) (h2:Cls K C) (h3:NoAttr K C f) (h4:fs.lookup f=some v) (h5:Q v H1)
def Zl4(K:uFg)(ta:TE)(f:Str):TE:=fun σ H Q=>ta σ H fun x H1=>tFld_ K f Q x H1
inductive tCon_ (K:uFg) (f:Str) (Q:VK) (x:V) (H1:Hp):Prop
 | mk (a C dx fs v u) (h0:x = .ref a) (h1:H1 a=some (.ins C dx fs)) (h2:Cls K C) (h3:Con K C f v u) (h4:fs.lookup f=none) (h5:Q v H1)
inductive sFld_ (K:uFg) (f:Str) (D:Ends) (σ:St) (y:V) (x:V) (H2:Hp):Prop
 | mk (a C dx fs) (h0:x = .ref a) (h1:H2 a=some (.ins C dx fs)) (h2:Cls K C) (h3:NoAttr K C f) (h4:fs.length < 1000) (h5:D.nx σ (upd H2 a (.ins C dx (Zn f y fs))))
def Zl5(K:uFg)(ta tv:TE)(f:Str):TS:=fun D σ H=>tv σ H fun y H1=>ta σ H1 fun x H2=>sFld_ K f D σ y x H2
inductive sFldAug_ (K:uFg) (tv:TE) (rd:V->V->Hp->VK->Prop) (f:Str) (D:Ends) (σ:St) (x:V) (H1:Hp):Prop
 | mk (a C dx fs v) (h0:x = .ref a) (h1:H1 a=some (.ins C dx fs)) (h2:Cls K C) (h3:NoAttr K C f) (h4:fs.lookup f=some v) (h5:tv σ H1 fun y H2=>rd v y H2 fun z H3=>∃dx' fs',H3 a=some (.ins C dx' fs')/\fs'.length < 1000/\D.nx σ (upd H3 a (.ins C dx' (Zn f z fs'))))
section
variable{X:Cx}{o e value:Expr}{f:Str}{pos pos' tpos:Pos}{ta tv:TE}
theorem Zts(he:PE X e ta)(hb:attributeBase e f X.env (eval e X.env)=eval e X.env):PE X (.Attribute e f pos) (Zl4 X.K ta f):=by
 intro pins s σ H Q I h
 refine Zrn hb (thn (he pins s σ H _ I h) fun u s1 ⟨x,H1,I1,rx,a,C,dx,fs,v,ex,ea,c,n,l,q⟩=>?_)
 subst ex
 obtain rfl:u=Value.ref a:=rx
 exact Znj I1 ea c n l fun u' s2 I2 ru=>⟨v,H1,I2,ru,q⟩
theorem Ztt(ha:PE X o ta)(hv:PE X value tv)(hs:swapsWith value (some (.Attribute o f pos')) pos.line X.env=pure false):PS X (.Assign [.Attribute o f pos'] value pos) (Zl5 X.K ta tv f):=by
 intro pins s σ H D I h
 refine plainObj_wpAny_Assign_Attribute (thn (hv pins s σ H _ I h) fun u s1 ⟨y,H1,I1,ry,q⟩=>thn (ha pins s1 σ H1 _ I1 q) fun ov s2 ⟨x,H2,I2,rx,a,C,dx,fs,ex,ea,c,n,l,q2⟩=>?_) hs
 subst ex
 obtain rfl:ov=Value.ref a:=rx
 exact Znk I2 ea c n l ry fun s3 I3=>⟨σ,_,I3,q2⟩
inductive rAdd (x:V) (y:V) (H:Hp) (Q:VK):Prop
 | mk (i j) (h0:x = .int i) (h1:y = .int j) (h2:Q (.int (i+j)) H)
inductive rSub (x:V) (y:V) (H:Hp) (Q:VK):Prop
 | mk (i j) (h0:x = .int i) (h1:y = .int j) (h2:Q (.int (i - j)) H)
end
section
variable{X:Cx}{pins:List (Addr×Obj)}{σ:St}{H:Hp}{s:Shared}{A:Around}{E:Value->Shared->Prop}{Q:Value->Shared->Prop}{c:Value}{b:Bool}
inductive TyOf (K:uFg) (H:Hp):V->Value->Prop where
 | non:TyOf K H .non (.type "NoneType")
 | bl (x:Bool):TyOf K H (.bl x) (.type "bool")
 | int (i:Int):TyOf K H (.int i) (.type "int")
 | str (x:Str):TyOf K H (.str x) (.type "str")
 | flt (x:UInt64):TyOf K H (.flt x) (.type "float")
 | lst {a:Addr}{xs:List V}(e:H a=some (.lst xs)):TyOf K H (.ref a) (.type "list")
 | frz {a:Addr}{o:Obj}{xs:List V}(e:H a=some (.frz o (.lst xs))):TyOf K H (.ref a) (.type "list")
 | tup {a:Addr}{xs:List V}(e:H a=some (.tup xs)):TyOf K H (.ref a) (.type "tuple")
 | dK {a:Addr}{kvs:List (Key×V)}(e:H a=some (.dK kvs)):TyOf K H (.ref a) (.type "dict")
 | dT {a:Addr}{kvs:List (List Key×V)}(e:H a=some (.dT kvs)):TyOf K H (.ref a) (.type "dict")
 | ins {a C dx:Addr}{fs:List (Str×V)}(e:H a=some (.ins C dx fs)) (cl:Cls K C) (ha:PySem.W.findIn K (.ref C) "__class__" = some (some (.builtin "object.__class__")))
   (hn:PySem.W.specialIn K (.builtin "object.__class__") "__get__" = some (some (.builtin "getset_descriptor.__get__"))) (htk:PySem.W.takesIn K (.builtin "object.__class__")=some true)
   (hm:PySem.W.mroIn K C (.type "object")=some true):TyOf K H (.ref a) (.ref C)
theorem Zof{x:V}{u t:Value}(I:Inv X pins σ H s)(rx:RelV x u)(ty:TyOf X.K H x t)(e:PySem.W.kitOne X.K t c=some b)(h:∀tk,Q (.bool b) {s with toks:=tk }) :
  wpAny (model X.prog X.w) A (call (.builtin "isinstance") [u,c]) Q E s:=by
 cases ty with
 | non=>cases (show u=Value.none from rx);exact PySem.W.kia_one PySem.W.kitx_none I.kIn True.intro e (fun z=>nomatch z) h
 | bl y=>cases (show u=Value.bool y from rx);exact PySem.W.kia_one PySem.W.kitx_bool I.kIn True.intro e (fun z=>nomatch z) h
 | int i=>obtain⟨t,q⟩:=(show ∃t,u=Value.int i t from rx);cases q;exact PySem.W.kia_one PySem.W.kitx_int I.kIn True.intro e (fun z=>nomatch z) h
 | str y=>obtain⟨t,q⟩:=(show ∃t,u=Value.str y t from rx);cases q;exact PySem.W.kia_one PySem.W.kitx_str I.kIn True.intro e (fun z=>nomatch z) h
 | flt y=>obtain⟨t,q⟩:=(show ∃t,u=Value.float y t from rx);cases q;exact PySem.W.kia_one PySem.W.kitx_float I.kIn True.intro e (fun z=>nomatch z) h
 | @lst a xs ea =>
  cases (show u=Value.ref a from rx)
  obtain⟨_,_,n,_,h1⟩:=(show ObjOk X.prog X.w H s.heap a (.lst xs) from I.hok a _ ea)
  exact PySem.W.kia_one PySem.W.kitx_list I.kIn ⟨_,h1,rfl⟩ e (fun z=>nomatch z) h
 | @frz a ob xs ea =>
  cases (show u=Value.ref a from rx)
  obtain⟨_,_,_,n,_,h1⟩:=(show ObjOk X.prog X.w H s.heap a (.frz ob (.lst xs)) from I.hok a _ ea)
  exact PySem.W.kia_one PySem.W.kitx_list I.kIn ⟨_,h1,rfl⟩ e (fun z=>nomatch z) h
 | @tup a xs ea =>
  cases (show u=Value.ref a from rx)
  obtain⟨_,_,_,p⟩:=(show ObjOk X.prog X.w H s.heap a (.tup xs) from I.hok a _ ea)
  obtain⟨o,h1,h2,_⟩:=p
  exact PySem.W.kia_one PySem.W.kitx_tuple I.kIn ⟨o,h1,h2⟩ e (fun z=>nomatch z) h
 | @dK a kvs ea =>
  cases (show u=Value.ref a from rx)
  obtain⟨_,_,vs,_,p⟩:=(show ObjOk X.prog X.w H s.heap a (.dK kvs) from I.hok a _ ea)
  obtain⟨o,es,ep,h1,h2,_⟩:=p
  exact PySem.W.kia_one PySem.W.kitx_dict I.kIn ⟨o,h1,h2.1⟩ e (fun z=>nomatch z) h
 | @dT a kvs ea =>
  cases (show u=Value.ref a from rx)
  obtain⟨_,_,xs,_,o,es,ep,h1,h2,_⟩:=(show ObjOk X.prog X.w H s.heap a (.dT kvs) from I.hok a _ ea)
  exact PySem.W.kia_one PySem.W.kitx_dict I.kIn ⟨o,h1,h2.1⟩ e (fun z=>nomatch z) h
 | @ins a C dx fs ea cl ha hn htk hm =>
  cases (show u=Value.ref a from rx)
  obtain⟨mA,O,_⟩:=Zc5 I.hok ea
  obtain⟨od,J,_⟩:=O.look
  exact PySem.W.kia_one (PySem.W.kitx_own (cl.get _) cl.hd ha hn htk hm) I.kIn J e (fun z=>nomatch z) h
end
end L2
namespace L2
open PySem PySem.Spec PyProof.Rows
structure Room (k:Nat) (A:Around):Prop where
 hd:A.handled=none
 dp:A.depth+3 * k+5 < recursionLimit
 un:A.units+16 * k+200 < cLine
theorem Room.mono{j k:Nat}{A:Around}(r:Room k A)(h:j<=k):Room j A:=⟨r.hd,by have:=r.dp;lia,by have:=r.un;lia⟩
theorem Room.deeper{k:Nat}{A:Around}(r:Room (k+1) A)(env:Env):Room k (A.deeper env) :=
 ⟨r.hd,by have:=r.dp;show A.depth+1+3 * k+5 < _;lia,by have:=r.un;show A.units+3+16 * k+200 < _;lia⟩
theorem Znl{A:Around}{C:Addr}{us:List Value}{kw:List (Str×Value)}:(A.under (.builtin "type.__call__" ⟨.ref C::us,kw⟩)).depth=A.depth+1:=by
 first | rfl | simp[Around.under,Code.weight,Code.isCreation,Code.isGuard,Code.isCaller,Code.frames,Code.isFrame,guardIds]
theorem Znm{A:Around}{C:Addr}{us:List Value}{kw:List (Str×Value)}:(A.under (.builtin "type.__call__" ⟨.ref C::us,kw⟩)).units=A.units+1:=by
 first | rfl | simp[Around.under,Code.cUnits,Code.frames,Code.isFrame]
theorem Room.make{k:Nat}{A:Around}(r:Room (k+1) A)(C:Addr)(us:List Value)(kw:List (Str×Value)):Room k (A.under (.builtin "type.__call__" ⟨.ref C::us,kw⟩)) :=
 ⟨r.hd,by have:=r.dp;rw[Znl];lia,by have:=r.un;rw[Znm];lia⟩
theorem Room.depth{k:Nat}{A:Around}(r:Room k A):A.depth < recursionLimit:=by have:=r.dp;lia
theorem Room.units{k:Nat}{A:Around}(r:Room k A):A.units+64 < cLine:=by have:=r.un;lia
theorem Room.units0{k:Nat}{A:Around}(r:Room k A):A.units < cLine:=by have:=r.un;lia
def Vg:TA:=fun _ H Q=>Q [] H
def W8(ta:TE)(tr:TA):TA:=fun σ H Q=>ta σ H fun x H1=>tr σ H1 fun xs H2=>Q (x::xs) H2
section
variable{X:Cx}{e:Expr}{es:List Expr}{te:TE}{t:TA}{pos:Pos}
theorem Ztu:PA X [] Vg:=fun _ _ _ _ H Q I h=>Calls.spliced_nil ⟨[],H,I,.nil,h⟩
theorem Zro(ha:PE X e te)(hr:PA X es t)(hs:starEach (e::es) X.env=(false,eval e X.env)::starEach es X.env:=by rfl):PA X (e::es) (W8 te t):=by
 intro pos pins s σ H Q I h
 rw[hs]
 show wpAny _ _ (spliced ((false,eval e X.env)::backTo pos (starEach es X.env))) _ _ s
 refine Calls.spliced_cons (thn (ha pins s σ H _ I h) fun u s1 ⟨x,H1,I1,r1,q1⟩=>?_)
 exact thn (hr pos pins s1 σ H1 _ I1 q1) fun us s2 ⟨xs,H2,I2,r2,q2⟩=>⟨x::xs,H2,I2,.cons r1 r2,q2⟩
def Zl6(t:TA):TE:=fun σ H Q=>t σ H fun xs H1=>xs.length<=sizeLine/\∀p,H1 p=none->Q (.ref p) (upd H1 p (.tup xs))
def Zl7(t:TA):TE:=fun σ H Q=>t σ H fun xs H1=>xs.length<=sizeLine/\∀p,H1 p=none->Q (.ref p) (upd H1 p (.lst xs))
theorem Ztv {x1} (h:PA X es t):PE X (.Tuple es x1 pos) (Zl6 t):=by
 intro pins s σ H Q I hq
 refine wpAny_Tuple_spliced (thn (h pos pins s σ H _ I hq) fun us s1 ⟨xs,H1,I1,r,z,q⟩=>⟨by rw[← r.length];exact z,?_⟩)
 have hf:H1 s1.heap.objs.size=none:=I1.hok.fresh (xK _)
 refine⟨.ref s1.heap.objs.size,upd H1 s1.heap.objs.size (.tup xs),I1.laid (t':=s1.toks) (fun b u e=>xI _ e) (xK _) ?_,rfl,q _ hf⟩
 exact⟨z,us,r,⟨_,yD _ rfl,rfl,_,rfl⟩⟩
theorem Ztw(h:PA X es t):PE X (.List es pos) (Zl7 t):=by
 intro pins s σ H Q I hq
 refine wpAny_List_spliced (thn (h pos pins s σ H _ I hq) fun us s1 ⟨xs,H1,I1,r,z,q⟩=>⟨by rw[← r.length];exact z,?_⟩)
 have hf:H1 s1.heap.objs.size=none:=I1.hok.fresh (xK _)
 refine⟨.ref s1.heap.objs.size,upd H1 s1.heap.objs.size (.lst xs),I1.laid (t':=s1.toks) (fun b u e=>xI _ e) (xK _) ?_,rfl,q _ hf⟩
 exact⟨z,us,0,r,yD _ rfl⟩
end
abbrev Sp:=List V->Hp->VK->XK->Prop
abbrev CXT:=List Env->Hp->Shared->XK->Value->Shared->Prop
structure Env0 (P:Program) (w:World) (K:uFg) (mg:Str->Option Value) (base:Heap) (A:Around) (outer:List Env) (s:Shared) (H:Hp):Prop where
 frames:A.frames=some outer
 mod:Mod K mg base
 bs:∀b o,base.get? b=some o->s.heap.get? b=some o/\H b=none
 bsz:base.objs.size<=s.heap.objs.size
 funs:s.heap.FunFrames base outer
 frf:∀b∈frs outer,H b=none
 hok:HOk P w H s.heap
 bare:AllBare s.gens
def CE(outer:List Env)(P:Program)(w:World)(H:Hp)(s:Shared)(Q:VK)(u:Value)(s':Shared):Prop :=
 ∃v H',s'.os=s.os/\AllBare s'.gens/\Un (frs outer) [] H H' s.heap s'.heap/\HOk P w H' s'.heap/\RelV v u/\Q v H'
def CR(CX:CXT)(outer:List Env)(P:Program)(w:World)(H:Hp)(s:Shared)(Q:VK)(E:XK)(r:Result)(s':Shared):Prop :=
 match r with
 | .ok (.ret u)=>CE outer P w H s Q u s'
 | .ok _=>False
 | .error e=>CX outer H s E e s'
structure FnOk (P:Program) (w:World) (K:uFg) (mg:Str->Option Value) (base:Heap) (CX:CXT) (k:Nat) (f:Addr) (fd:FuncData) (ps:List Str) (sp:Sp):Prop where
 len:∀vs H Q E,sp vs H Q E->vs.length=ps.length
 run:∀(A:Around)(outer:List Env)(s:Shared)(H:Hp)(args:Args)(us:List Value)(vs:List V)(Q:VK)(E:XK),Room k A->Env0 P w K mg base A outer s H->BindsTo s fd args (ps.zip us)->Vals vs us->sp vs H Q E ->
  codeAny (model P w) A (.call (.ref f) args) (CR CX outer P w H s Q E) s
theorem FnOk.mono{P:Program}{w:World}{K:uFg}{mg:Str->Option Value}{base:Heap}{CX:CXT}{j k:Nat}{f:Addr}{fd:FuncData}{ps:List Str}{sp:Sp}(F:FnOk P w K mg base CX j f fd ps sp)(h:j<=k) :
  FnOk P w K mg base CX k f fd ps sp:=⟨F.len,fun A outer s H args us vs Q E hr=>F.run A outer s H args us vs Q E (hr.mono h)⟩
theorem Env0.make{P:Program}{w:World}{K:uFg}{mg:Str->Option Value}{base:Heap}{A:Around}{outer:List Env}{s:Shared}{H:Hp}(e:Env0 P w K mg base A outer s H)(C:Addr)(us:List Value)(kw:List (Str×Value)) :
  Env0 P w K mg base (A.under (.builtin "type.__call__" ⟨.ref C::us,kw⟩)) outer s H:=⟨by first | exact e.frames | (simpa [Around.under,Code.envs,Code.isFrame,pushEnvs] using e.frames),e.mod,e.bs,e.bsz,e.funs,e.frf,e.hok,e.bare⟩
section
variable{X:Cx}{pins:List (Addr×Obj)}{σ:St}{H:Hp}{s s':Shared}
theorem Inv.env0(I:Inv X pins σ H s):Env0 X.prog X.w X.K X.mg X.base X.A X.stack s H :=
 ⟨I.ok.frames,I.ok.mod,I.bs,yK I.ok.bsz I.sz,I.stack,I.stkFree,I.hok,I.bare⟩
theorem Inv.after{Q:VK}{u:Value}(I:Inv X pins σ H s)(h:CE X.stack X.prog X.w H s Q u s'):EP X pins σ Q u s':=by
 obtain⟨v,H',os,bare,un,hok,r,q⟩:=h
 obtain⟨hh,g,d,t,os'⟩:=s'
 obtain rfl:os'=s.os:=os
 exact⟨v,H',I.call (h':=hh) (g':=g) (d':=d) (t':=t) (ch:=[]) un hok bare (fun b z=>absurd z (by simp)),r,q⟩
end
def Ze1(sp:Sp)(dvs:List V)(E:XK)(t:TA):TE:=fun σ H Q=>t σ H fun vs H1=>sp (vs++dvs) H1 Q E
inductive tMeth_ (C:Addr) (m:Str) (sp:Sp) (dvs:List V) (E:XK) (t:TA) (σ:St) (Q:VK) (x:V) (H1:Hp):Prop
 | mk (a dx fs) (h0:x = .ref a) (h1:H1 a=some (.ins C dx fs)) (h2:fs.lookup m=none) (h3:t σ H1 fun vs H2=>sp (x::(vs++dvs)) H2 Q E)
def Zdi(C:Addr)(m:Str)(sp:Sp)(dvs:List V)(E:XK)(ta:TE)(t:TA):TE:=fun σ H Q=>ta σ H fun x H1=>tMeth_ C m sp dvs E t σ Q x H1
def Zka(C:Addr)(sp:Sp)(dvs:List V)(E:XK)(t:TA):TE:=fun σ H Q=>t σ H fun vs H1=>∀x dx,H1 x=none->H1 dx=none->dx≠x ->
 sp (.ref x::(vs++dvs)) (upd (upd H1 dx (.own x)) x (.ins C dx [])) (fun v H2=>v = .non/\Q (.ref x) H2) E
def Binds(K:uFg)(fd:FuncData)(ps:List Str)(ds:List Value):Prop :=
 ∀(s:Shared)(us:List Value),K.In s.heap->(us++ds).length=ps.length->BindsTo s fd ⟨us,[]⟩ (ps.zip (us++ds))
theorem Binds.all{K:uFg}{fd:FuncData}{ps:List Str}(h:∀us:List Value,us.length=ps.length->bindArgs fd ⟨us,[]⟩=pure (ps.zip us)):Binds K fd ps []:=fun s us _ hl=>by
 rw[xR] at hl ⊢
 exact .of_eq (h us hl)
def Zag(CX:CXT)(X:Cx)(E:XK):Prop:=∀(pins:List (Addr×Obj))(σ:St)(H:Hp)(s:Shared)(e:Value)(s':Shared),Inv X pins σ H s->CX X.stack H s E e s'->X.xe e s'
section
variable{X:Cx}{CX:CXT}{k:Nat}{f C:Addr}{fd:FuncData}{ps:List Str}{sp:Sp}{dvs:List V}{ds:List Value}{E:XK}{x m:Str}{p pos apos:Pos}{e o:Expr}{es:List Expr}{ta:TE}{t:TA}
theorem Zeu{pins:List (Addr×Obj)}{σ:St}{H:Hp}{s:Shared}{Q:VK}{us:List Value}{vs:List V}(F:FnOk X.prog X.w X.K X.mg X.base CX k f fd ps sp)(hr:Room k X.A)(hb:Binds X.K fd ps ds)(hd:Vals dvs ds)(hx:Zag CX X E)(I:Inv X pins σ H s)(r:Vals vs us)(h:sp (vs++dvs) H Q E):wpAny (model X.prog X.w) X.A (call (.ref f) us) (EP X pins σ Q) X.xe s:=by
 have r2:Vals (vs++dvs) (us++ds):=r.append hd
 have hl:(us++ds).length=ps.length:=by rw[← r2.length];exact F.len _ _ _ _ h
 refine wpAny_call (codeAny_mono (F.run X.A X.stack s H ⟨us,[]⟩ (us++ds) (vs++dvs) Q E hr I.env0 (hb s us I.kIn hl) r2 h) fun r s' hq=>?_)
 cases r with
 | error e=>exact hx pins σ H s e s' I hq
 | ok fl =>
  cases fl with
  | ret u=>exact I.after hq
  | next=>exact False.elim hq
  | brk=>exact False.elim hq
  | cont=>exact False.elim hq
theorem Zrp(F:FnOk X.prog X.w X.K X.mg X.base CX k f fd ps sp)(hr:Room k X.A)(hg:Gl X x)(hm:X.mg x=some (.ref f))(hk:PySem.W.keepIn X.K (.ref f)=true)(hb:Binds X.K fd ps ds)(hd:Vals dvs ds)(hx:Zag CX X E)(ha:PA X (e::es) t)(hdb:(x == ("__debug__" : Str))=false:=by decide)(he:starEach (e::es) X.env=(false,eval e X.env)::starEach es X.env:=by rfl)(hpl:(backTo pos (starEach es X.env)).any (·.1)=false:=by rfl) :
  PE X (.Call (.Name x p) (e::es) [] pos) (Ze1 sp dvs E t):=by
 intro pins s σ H Q I h
 refine wpAny_Call_Name_kw (Za9 I hg hm ?_ hdb)
 refine PySem.W.callWith_K (h₀:=X.base) I.ok.mod.kin hk (thn (ha pos pins s σ H _ I h) fun us s1 ⟨vs,H1,I1,r,q⟩=>⟨I1.kIn,?_⟩) he hpl
 exact Zeu F hr hb hd hx I1 r q
theorem Zrq{pl:Sem Bool}(he:PE X o ta)(c:Cls X.K C)(hm:Meth X.K C m f)(F:FnOk X.prog X.w X.K X.mg X.base CX k f fd ps sp)(hr:Room k X.A)(hb:Binds X.K fd ps ds)(hd:Vals dvs ds)(hx:Zag CX X E)(ha:PA X (e::es) t)(hst:starEach (e::es) X.env=(false,eval e X.env)::starEach es X.env:=by rfl)(hpl:(backTo pos (starEach es X.env)).any (·.1)=false:=by rfl)(ht:eval (.Call (.Attribute o m apos) (e::es) [] pos) X.env=(do
   let ov ← eval o X.env
   standAt apos.atName
   let (f,first) ← holding [ov] (getMethod ov m pl)
   callWith pos f first (backTo pos (starEach (e::es) X.env)) (backToKw pos (keywordEach [] X.env))):=by rfl) :
  PE X (.Call (.Attribute o m apos) (e::es) [] pos) (Zdi C m sp dvs E ta t):=by
 intro pins s σ H Q I h
 refine PySem.W.methodCall_KW (pl:=pl) (thn (he pins s σ H _ I h) fun u s1 ⟨x,H1,I1,rx,a,dx,fs,ex,ea,l,q⟩=>?_) ht
 subst ex
 obtain rfl:u=Value.ref a:=rx
 refine Zcz I1 ea c hm l ?_
 refine PySem.W.callWith_K (first:=[.ref a]) (h₀:=X.base) I.ok.mod.kin hm.kp (thn (ha pos pins s1 σ H1 _ I1 q) fun us s2 ⟨vs,H2,I2,r,q2⟩=>⟨I2.kIn,?_⟩) hst hpl
 exact Zeu (us:=.ref a::us) (vs:=.ref a::vs) F hr hb hd hx I2 (.cons rfl r) q2
theorem Zpb{pl:Sem Bool}(he:PE X o ta)(c:Cls X.K C)(hm:Meth X.K C m f)(F:FnOk X.prog X.w X.K X.mg X.base CX k f fd ps sp)(hr:Room k X.A)(hb:Binds X.K fd ps ds)(hd:Vals dvs ds)(hx:Zag CX X E)(ht:eval (.Call (.Attribute o m apos) [] [] pos) X.env=(do
   let ov ← eval o X.env
   standAt apos.atName
   let (f,first) ← holding [ov] (getMethod ov m pl)
   callWith pos f first (backTo pos (starEach [] X.env)) (backToKw pos (keywordEach [] X.env))):=by rfl) :
  PE X (.Call (.Attribute o m apos) [] [] pos) (Zdi C m sp dvs E ta Vg):=by
 intro pins s σ H Q I h
 refine PySem.W.methodCall_KW (pl:=pl) (thn (he pins s σ H _ I h) fun u s1 ⟨x,H1,I1,rx,a,dx,fs,ex,ea,l,q⟩=>?_) ht
 subst ex
 obtain rfl:u=Value.ref a:=rx
 refine Zcz I1 ea c hm l ?_
 exact PySem.W.callWith_K0 (first:=[.ref a]) I1.kIn hm.kp (Zeu (us:=[.ref a]) (vs:=[.ref a]) F hr hb hd hx I1 (.cons rfl .nil) q)
structure Mk (K:uFg) (C f:Addr):Prop where
 makes:PySem.W.makesIn K C=true
 init:PySem.W.findIn K (.ref C) "__init__" = some (some (.ref f))
 fn:PySem.W.isFn K (.ref f)=true
 kp:PySem.W.keepIn K (.ref C)=true
theorem Zpc{pins:List (Addr×Obj)}{σ:St}{H:Hp}{s:Shared}{Q:VK}{us:List Value}{vs:List V}(M:Mk X.K C f)(F:FnOk X.prog X.w X.K X.mg X.base CX k f fd ps sp)(hr:Room (k+1) X.A)(hb:Binds X.K fd ps ds)(hd:Vals dvs ds)(hx:Zag CX X E)(I:Inv X pins σ H s)(r:Vals vs us)(h:∀x dx,H x=none->H dx=none->dx≠x->sp (.ref x::(vs++dvs)) (upd (upd H dx (.own x)) x (.ins C dx [])) (fun v H2=>v = .non/\Q (.ref x) H2) E) :
  wpAny (model X.prog X.w) X.A (call (.ref C) us) (EP X pins σ Q) X.xe s:=by
 have hq:=h (s.heap.objs.size+1) s.heap.objs.size (I.hok.fresh (Nat.le_succ _)) (I.hok.fresh (xK _)) (yM (Nat.lt_succ_self _))
 have I2:=Inv.made (C:=C) I
 have r2:Vals (V.ref (s.heap.objs.size+1)::(vs++dvs)) (Value.ref (s.heap.objs.size+1)::(us++ds)):=.cons rfl (r.append hd)
 have hl:(Value.ref (s.heap.objs.size+1)::us++ds).length=ps.length:=by
  have e:=r2.length
  rw[F.len _ _ _ _ hq] at e
  exact e.symm
 refine wpAny_call (Zpa (f:=f) I.kIn M.makes M.init (beq_iff_eq.mp M.fn) (codeAny_mono (F.run _ X.stack _ _ ⟨Value.ref (s.heap.objs.size+1)::us,[]⟩ (Value.ref (s.heap.objs.size+1)::(us++ds)) _ _ E (hr.make C us [])
  (I2.env0.make C us []) (hb _ (Value.ref (s.heap.objs.size+1)::us) I2.kIn hl) r2 hq) fun r s' hq'=>?_))
 cases r with
 | error e=>exact hx pins σ _ _ e s' I2 hq'
 | ok fl =>
  cases fl with
  | ret u =>
   obtain⟨v,H',I3,rv,ev,q3⟩:=I2.after hq'
   subst ev
   exact⟨rv,⟨V.ref (s.heap.objs.size+1),H',I3,rfl,q3⟩⟩
  | next=>exact False.elim hq'
  | brk=>exact False.elim hq'
  | cont=>exact False.elim hq'
theorem Zpd(M:Mk X.K C f)(F:FnOk X.prog X.w X.K X.mg X.base CX k f fd ps sp)(hr:Room (k+1) X.A)(hg:Gl X x)(hm:X.mg x=some (.ref C))(hb:Binds X.K fd ps ds)(hd:Vals dvs ds)(hx:Zag CX X E)(hdb:(x == ("__debug__" : Str))=false:=by decide):PE X (.Call (.Name x p) [] [] pos) (Zka C sp dvs E Vg):=by
 intro pins s σ H Q I h
 refine wpAny_Call_Name_kw (Za9 I hg hm ?_ hdb)
 exact PySem.W.callWith_K0 I.kIn M.kp (Zpc (us:=[]) M F hr hb hd hx I .nil h)
end
section
variable{X:Cx}{CX:CXT}{k:Nat}{f C:Addr}{fd:FuncData}{ps ks:List Str}{sp:Sp}{E:XK}{x m:Str}{p pos apos kpos:Pos}{e o:Expr}{es:List Expr}{kws:List Keyword}{te ta:TE}{t tk:TA}{nm:Option Str}
structure KBinds (K:uFg) (fd:FuncData) (ps ks:List Str) (g:List Value->List Value->List Value) (gV:List V->List V->List V):Prop where
 to:∀(s:Shared)(us ws:List Value),K.In s.heap->(g us ws).length=ps.length->BindsTo s fd ⟨us,ks.zip ws⟩ (ps.zip (g us ws))
 rel:∀{vs:List V}{us:List Value}{zs:List V}{ws:List Value},Vals vs us->Vals zs ws->Vals (gV vs zs) (g us ws)
variable{g:List Value->List Value->List Value}{gV:List V->List V->List V}
end
structure FnScope (N P:List Str) (sc:Scope):Prop where
 kind:sc.kind = .function
 co:sc.isCoroutine=false
 gen:sc.isGenerator=false
 nd:N.Nodup
 pre:N.take P.length=P
 par:∀x∈P,sc.names.lookup x=some .local\/sc.names.lookup x=some .cell
 nofree:∀y∈sc.names,y.2 ≠ .free
theorem Zhw{kindOf:Str->Option NameKind}{x:Str}:∀{binds:List (Str×Value)}{m:Str->Option Value},(∀v,(x,v)∉binds)->bindL kindOf binds m x=m x
 | [],_,_=>rfl
 | (n,v)::r,m,h=>by
  unfold bindL
  rw[Zhw fun w hw=>h w (xX _ hw)]
  split
  ·have:x≠n:=by rintro rfl;exact h v yC
   simp[this]
  ·rfl
theorem Zhx{kindOf:Str->Option NameKind}{x:Str}:∀{binds:List (Str×Value)}{m:Str->Option Value},(∀v,(x,v)∉binds)->bindC kindOf binds m x=m x
 | [],_,_=>rfl
 | (n,v)::r,m,h=>by
  unfold bindC
  rw[Zhx fun w hw=>h w (xX _ hw)]
  split
  ·rfl
  ·have:x≠n:=by rintro rfl;exact h v yC
   simp[this]
theorem Zhy{kindOf:Str->Option NameKind}{x:Str}{v:Value}:∀{P:List Str}{vs:List Value}{i:Nat}{m:Str->Option Value},P.Nodup->P[i]? = some x->vs[i]? = some v->kindOf x=some .local ->
  bindL kindOf (P.zip vs) m x=some v
 | [],_,_,_,_,h,_,_=>by simp at h
 | _::_,[],_,_,_,_,h,_=>by simp at h
 | p::P,w::vs,0,m,nd,h1,h2,hk=>by
  simp at h1 h2;subst h1;subst h2
  show bindL kindOf ((p,w)::P.zip vs) m p=_
  unfold bindL
  rw[Zhw fun v hv=>(yF.mp nd).1 (zF hv).1,if_pos hk]
  simp
 | p::P,w::vs,i+1,m,nd,h1,h2,hk=>by
  show bindL kindOf ((p,w)::P.zip vs) m x=_
  unfold bindL
  exact Zhy (i:=i) (yF.mp nd).2 (by simpa using h1) (by simpa using h2) hk
theorem Zhz{kindOf:Str->Option NameKind}{x:Str}{v:Value}:∀{P:List Str}{vs:List Value}{i:Nat}{m:Str->Option Value},P.Nodup->P[i]? = some x->vs[i]? = some v->kindOf x≠some .local ->
  bindC kindOf (P.zip vs) m x=some v
 | [],_,_,_,_,h,_,_=>by simp at h
 | _::_,[],_,_,_,_,h,_=>by simp at h
 | p::P,w::vs,0,m,nd,h1,h2,hk=>by
  simp at h1 h2;subst h1;subst h2
  show bindC kindOf ((p,w)::P.zip vs) m p=_
  unfold bindC
  rw[Zhx fun v hv=>(yF.mp nd).1 (zF hv).1,if_neg hk]
  simp
 | p::P,w::vs,i+1,m,nd,h1,h2,hk=>by
  show bindC kindOf ((p,w)::P.zip vs) m x=_
  unfold bindC
  exact Zhz (i:=i) (yF.mp nd).2 (by simpa using h1) (by simpa using h2) hk
def start(N:List Str)(vs:List V):St:=vs.map some++List.replicate (N.length - vs.length) none
def Yg(CX:CXT)(P:Program)(w:World)(K:uFg)(mg:Str->Option Value)(base:Heap)(N:List Str)(qual:Str)(scope:Scope)(f:Addr)(cd:Value)(A:Around)(outer:List Env)(s:Shared)(H:Hp)(E:XK):Cx where
 prog:=P
 w:=w
 K:=K
 mg:=mg
 base:=base
 A:=A.deeper (envOfC qual scope s.heap.objs.size f cd)
 N:=N
 s₀:=s
 H₀:=H
 env:=envOfC qual scope s.heap.objs.size f cd
 outer:=outer
 stack:=envOfC qual scope s.heap.objs.size f cd::outer
 ex:=[]
 calm:=true
 fn:=fun _=>true
 pn:=[]
 xe:=fun e s'=>wpAny (model P w) (A.deeper (envOfC qual scope s.heap.objs.size f cd)) (leaving (envOfC qual scope s.heap.objs.size f cd) e) (fun _ s''=>CX outer H s E e s'') (fun e' s''=>CX outer H s E e' s'') s'
theorem Zie{sc:Scope}{n:Nat}{x:Str}(h:sc.names.lookup x=some .cell):∃c,(cellsFrom n sc.names []).lookup x=some c:=by
 have q:=PySem.W.cellsFrom_some sc.names n [] (.inl h)
 exact zG.mp q
theorem Zh0{CX:CXT}{P:Program}{w:World}{K:uFg}{mg:Str->Option Value}{base:Heap}{N ps:List Str}{qual:Str}{scope:Scope}{f:Addr}{cd:Value}{A:Around}{outer:List Env}{s s1:Shared}{H:Hp}{E:XK}{us:List Value}{vs:List V}(S:FnScope N ps scope)(hd:A.handled=none)(e0:Env0 P w K mg base A outer s H)(hl:vs.length=ps.length)(r:Vals vs us)(x:InCallC s s.heap.objs.size (bindL (envOfC qual scope s.heap.objs.size f cd).kindOf (ps.zip us) fun _=>none) (cellsFrom (s.heap.objs.size+1) scope.names []) (bindC (envOfC qual scope s.heap.objs.size f cd).kindOf (ps.zip us) fun _=>none) s1) :
  Inv (Yg CX P w K mg base N qual scope f cd A outer s H E) [] (start N vs) H s1:=by
 have hpl:ps.length<=N.length:=by have:=congrArg List.length S.pre;rw[xZ] at this;lia
 obtain⟨h1,tk,rfl,hk⟩:=x.done
 have noA:∀b:Addr,b∉(Yg CX P w K mg base N qual scope f cd A outer s H E).ex:=fun b z=>absurd (show b∈([]:List Addr) from z) (by simp)
 refine⟨⟨e0.mod,S.kind,rfl,rfl,xK _,fun y z c h1 h2=>?_,fun y hy=>?_,fun y c _ h=>?_,fun _=>hd,Around.frames_deeper e0.frames,.inr ⟨rfl,rfl⟩,fun b z=>absurd z (noA b),e0.bs,e0.bsz,fun b _ _=>noA b,fun b z=>absurd z (noA b),e0.funs,e0.frf⟩,
  rfl,e0.bare,Un.kept hk,⟨_,x.toInCall.ns,fun i y v h1 h2 h3=>?_⟩,fun y c h=>⟨_,x.cell y c h⟩,e0.hok.fresh (xK _),fun y c h=>?_,fun p hp=>absurd (show p∈([]:List (Addr×Obj)) from hp) (by simp),e0.hok.kept hk,?_⟩
 ·exact name_of_addr x.apart (PySem.mem_of_lookup h1) (PySem.mem_of_lookup h2)
 ·have hy:scope.names.lookup y=some .cell\/scope.names.lookup y=some .free:=hy
  rcases hy with hy | hy
  ·exact Zie hy
  ·exact absurd rfl (S.nofree _ (PySem.mem_of_lookup hy))
 ·exact Nat.le_of_lt (x.above y c (PySem.mem_of_lookup h))
 ·have hi:i < vs.length:=by
   unfold start at h2
   by_cases hi:i < vs.length
   ·exact hi
   ·rw[yS (by simpa using hi)] at h2
    rw[List.getElem?_replicate] at h2
    split at h2<;>cases h2
  have ha:vs[i]? = some v:=by
   unfold start at h2
   rw[zB (by simpa using hi),xG] at h2
   cases e:vs[i]? with
   | none=>rw[e] at h2;cases h2
   | some a=>rw[e] at h2;cases h2;rfl
  obtain⟨u,hu,rv⟩:=r.get ha
  have hp:ps[i]? = some y:=by
   rw[← S.pre,List.getElem?_take_of_lt (by lia)];exact h1
  have ndP:ps.Nodup:=by rw[← S.pre];exact S.nd.sublist (List.take_sublist _ _)
  refine⟨u,rv,?_⟩
  rcases S.par y (xF hp) with k | k
  ·exact .inl ⟨k,Zhy ndP hp hu k⟩
  ·obtain⟨c,e⟩:=Zie (n:=s.heap.objs.size+1) k
   refine .inr ⟨.inl k,c,e,?_⟩
   have q:=x.cell y c e
   rw[Zhz ndP hp hu (by show scope.names.lookup y≠_;rw[k];decide)] at q
   exact q
 ·exact e0.hok.fresh (Nat.le_of_lt (x.above y c (PySem.mem_of_lookup h)))
 ·unfold start
  show _=N.length
  rw[xC,xA,List.length_replicate]
  lia
theorem Zkb{CX:CXT}{P:Program}{w:World}{K:uFg}{mg:Str->Option Value}{base:Heap}{k:Nat}{f:Addr}{name qual:Str}{params:Arguments}{body:List Stmt}{scope:Scope}{dV kV doc pm cdv ct oc:Value}{an od:Option Addr}{osl:Array (Option Value)}{N ps:List Str}{sp:Sp}(lk:K.lookup f=some ⟨oc,od,.func (PySem.W.fnOf name qual params body scope dV kV doc pm an cdv ct),osl⟩)(hcd:PySem.W.codeIn K cdv qual=true)(S:FnScope N ps scope)(len:∀vs H Q E,sp vs H Q E->vs.length=ps.length)(hbody:∀ (A:Around) (outer:List Env) (s:Shared) (H:Hp) (vs:List V) (Q:VK) (E:XK),Room k (A.deeper (envOfC qual scope s.heap.objs.size f cdv))->sp vs H Q E ->
   ∃t,PSs (Yg CX P w K mg base N qual scope f cdv A outer s H E) body t/\t {nx:=fun _ H'=>Q .non H',rt:=Q } (start N vs) H) :
  FnOk P w K mg base CX (k+1) f (PySem.W.fnOf name qual params body scope dV kV doc pm an cdv ct) ps sp:=by
 refine⟨len,fun A outer s H args us vs Q E hr e0 hb r hsp=>?_⟩
 have hl:=len _ _ _ _ hsp
 have KX:K.In s.heap:=e0.mod.kin.keeps fun b o e=>(e0.bs b o e).1
 have lim:s.heap.NoLimit:=e0.mod.nolimit.keeps fun b o e=>(e0.bs b o e).1
 have hkind:∀y∈ps.zip us,scope.names.lookup y.1=some .local\/(scope.names.lookup y.1=some .cell/\((cellsFrom (s.heap.objs.size+1) scope.names []).lookup y.1).isSome=true):=fun⟨n,v⟩ hy=>by
  rcases S.par n (zF hy).1 with q | q
  ·exact .inl q
  ·exact .inr ⟨q,PySem.W.cellsFrom_some _ _ _ (.inl q)⟩
 refine codeAny_call_function hr.depth (KX _ _ lk) rfl S.co S.gen rfl (PySem.W.codeRec_of KX hcd) (hb _ _ _ _ ?_)
 refine wpAny_newFunctionEnv_cells S.kind hkind fun env he s1 x=>?_
 subst he
 refine⟨lim.keeps x.toInCall.keep,codeAny_func ?_⟩
 obtain⟨t,ht,hq⟩:=hbody A outer s H vs Q E (hr.deeper _) hsp
 have I:Inv (Yg CX P w K mg base N qual scope f cdv A outer s H E) [] (start N vs) H s1:=Zh0 S hr.hd e0 hl r x
 refine wpAny_mono (ht [] s1 (start N vs) H _ I hq) (fun fl s' hs=>?_) fun e s' hs=>hs
 have fin:∀{σ':St}{H':Hp}{v:V}{u:Value},Inv (Yg CX P w K mg base N qual scope f cdv A outer s H E) [] σ' H' s'->RelV v u->Q v H'->CE outer P w H s Q u s' :=
  fun {σ' H' v u} J rv q=>⟨v,H',J.os,J.bare,J.base,J.hok,rv,q⟩
 cases fl with
 | ret u =>
  obtain⟨v,σ',H',J,rv,q⟩:=hs
  exact fin J rv q
 | next =>
  obtain⟨σ',H',J,q⟩:=hs
  exact fin (v:=V.non) (u:=Value.none) J rfl q
 | brk =>
  obtain⟨_,_,_,q⟩:=hs
  exact False.elim q
 | cont =>
  obtain⟨_,_,_,q⟩:=hs
  exact False.elim q
end L2
namespace L2
open PySem PySem.Spec PyProof.Rows
section
variable{X:Cx}{x:Str}{p pos:Pos}{e:Expr}{es:List Expr}{t:TA}{id T:String}{r:List V->Hp->VK->Prop}
def tCB(r:List V->Hp->VK->Prop)(t:TA):TE:=fun σ H Q=>t σ H fun vs H1=>r vs H1 Q
theorem Zpe(hc:Vv X (.builtin id) r)(hg:Gl X x)(hm:X.mg x=none)(hv:bootBuiltins x=some (.builtin id))(ha:PA X (e::es) t)(hn:x ≠ "__name__" := by decide)(hdb:(x == ("__debug__" : Str))=false:=by decide)(he:starEach (e::es) X.env=(false,eval e X.env)::starEach es X.env:=by rfl)(hpl:(backTo pos (starEach es X.env)).any (·.1)=false:=by rfl):PE X (.Call (.Name x p) (e::es) [] pos) (tCB r t):=by
 intro pins s σ H Q I h
 refine wpAny_Call_Name_kw (Zcd I hg hm hv ?_ hn hdb)
 exact PyProof.Rows.callWith_builtin1 (thn (ha pos pins s σ H _ I h) fun us s1 ⟨vs,H1,I1,r1,q1⟩=>hc pins s1 σ H1 vs us Q I1 r1 q1) he hpl
theorem Zog(hc:Vv X (.type T) r)(hg:Gl X x)(hm:X.mg x=none)(hv:bootBuiltins x=some (.type T))(ha:PA X (e::es) t)(hn:x ≠ "__name__" := by decide)(hdb:(x == ("__debug__" : Str))=false:=by decide)(he:starEach (e::es) X.env=(false,eval e X.env)::starEach es X.env:=by rfl)(hpl:(backTo pos (starEach es X.env)).any (·.1)=false:=by rfl):PE X (.Call (.Name x p) (e::es) [] pos) (tCB r t):=by
 intro pins s σ H Q I h
 refine wpAny_Call_Name_kw (Zcd I hg hm hv ?_ hn hdb)
 exact PyProof.Rows.callWith_type1 (thn (ha pos pins s σ H _ I h) fun us s1 ⟨vs,H1,I1,r1,q1⟩=>hc pins s1 σ H1 vs us Q I1 r1 q1) he hpl
end
end L2
namespace HT
open PySem PyProof.Rows
def lexLt:List Int->List Int->Bool
 | [],[]=>false
 | [],_::_=>true
 | _::_,[]=>false
 | x::xs,y::ys=>if x=y then lexLt xs ys else decide (x < y)
section
open PySem.SeqAt
open PySem.AutoSeq1 (wpAny_loadPart')
open PySem.MeetsSeq PySem.MeetsSeq2 PySem.MeetsSeq3
end
section
variable{prog:Program}{w:World}{A:Around}{E:Value->Shared->Prop}{s:Shared}
theorem cat_tup{t b:Addr}{vs ws:List Value}{Q:Value->Shared->Prop}(ht:IsTup s.heap t vs.toArray)(hb:IsTup s.heap b ws.toArray)(hv:vs ≠ [])(h1:ws = []->Q (.ref t) s)(h2:ws ≠ []->Q (.ref s.heap.objs.size) {s with heap:=s.heap.push {cls:=.type "tuple", data:=.seq (vs++ws).toArray } })(hsz:vs.length+ws.length<=sizeLine):wpAny (model prog w) A (binaryOp .Add (.ref t) (.ref b)) Q E s:=by
 obtain⟨⟨cls,dd,data,sl⟩,ho,hc,n,hd⟩:=id ht
 obtain⟨⟨cls2,dd2,data2,sl2⟩,ho2,hc2,n2,hd2⟩:=id hb
 simp only at hc hd hc2 hd2
 subst hc hd hc2 hd2
 have e:vs.toArray++ws.toArray=(vs++ws).toArray:=by simp
 by_cases hw:ws = []
 ·exact concat_meets ⟨_,ho,rfl⟩ ⟨_,ho2,rfl⟩ noFill_tuple_add seq_tuple_add PySem.F.slot_tuple_add PySem.F.entry_tuple_add (PySem.F.args_tuple_add_2 _ _)
   (tuple_addW1 t b vs.toArray ws.toArray n n2 dd dd2 sl sl2 (by simpa using hv) (by simp[hw])) ⟨ho,ho2,h1 hw⟩
 ·refine concat_meets ⟨_,ho,rfl⟩ ⟨_,ho2,rfl⟩ noFill_tuple_add seq_tuple_add PySem.F.slot_tuple_add PySem.F.entry_tuple_add (PySem.F.args_tuple_add_2 _ _)
   (tuple_addW2 t b vs.toArray ws.toArray n n2 dd dd2 sl sl2 (by simpa using hv) (by simpa using hw) (by rw[xL,xL];exact hsz)) ⟨ho,ho2,?_⟩
  rw[e]
  exact h2 hw
def sIx(n d:Nat):Option Int->Nat
 | none=>d
 | some v=>if v < 0 then (v+(n:Int)).toNat else min v.toNat n
theorem sIx_none(n d:Nat):sIx n d none=d:=rfl
theorem Ztx(n d:Nat)(hd:d<=n)(o:Option Int):sIx n d o<=n:=by
 cases o with
 | none=>exact hd
 | some v =>
  show (if v < 0 then (v+(n:Int)).toNat else min v.toNat n)<=n
  by_cases hv:v < 0
  ·rw[if_pos hv];lia
  ·rw[if_neg hv];exact Nat.min_le_right _ _
theorem Ziy(v:Int)(n d:Nat):(if v < 0 then max (v+(n:Int)) 0 else min v (n:Int))=((sIx n d (some v):Nat):Int):=by
 show (if v < 0 then max (v+(n:Int)) 0 else min v (n:Int))=(((if v < 0 then (v+(n:Int)).toNat else min v.toNat n):Nat):Int)
 by_cases hv:v < 0
 ·simp only[if_pos hv];lia
 ·simp only[if_neg hv];lia
theorem Znn(lo hi:Option Int)(n:Nat):Builtin.Slice.sliceAdjust lo hi 1 (n:Int)=(((sIx n 0 lo:Nat):Int),((sIx n n hi:Nat):Int)):=by
 have h1:¬((1:Int) < 0):=by lia
 unfold Builtin.Slice.sliceAdjust
 simp only[h1,if_false]
 refine Prod.ext ?_ ?_
 ·cases lo with
  | none=>rfl
  | some v=>exact Ziy v n 0
 ·cases hi with
  | none=>rfl
  | some v=>exact Ziy v n n
theorem Zno(i j:Nat):Builtin.Slice.slicePlaces (i:Int) (j:Int) 1=j - i:=by
 unfold Builtin.Slice.slicePlaces
 have h1:(1:Int) > 0:=by lia
 simp only[h1,if_true,Int.ediv_one]
 split<;>lia
theorem Zhj{v:Value}{o:Option Int}{Q:Option Int->Shared->Prop}(p:IsPart v o)(h:Q o s):wpAny (model prog w) A (Builtin.Slice.slicePartIndex v) Q E s:=by
 cases p with
 | none=>exact slicePart_none h
 | int i t=>exact slicePart_int h
theorem Zms{sl:Addr}{vl vu:Value}{lo hi:Option Int}{n:Nat}{Q:Int×Int×Nat->Shared->Prop}(hs:s.heap.IsSliceOf sl vl vu .none)(pl:IsPart vl lo)(pu:IsPart vu hi)(h:Q (((sIx n 0 lo:Nat):Int),1,sIx n n hi - sIx n 0 lo) s):wpAny (model prog w) A (Builtin.Slice.sliceApplied (.ref sl) (pure (n:Int))) Q E s:=by
 obtain⟨os,hos,hcs,hds⟩:=id hs
 unfold Builtin.Slice.sliceApplied Builtin.Slice.sliceFields
 refine wpAny_bind (wpAny_bind (wpAny_field hos hds (x:=vl) rfl (wpAny_bind (wpAny_field hos hds (x:=vu) rfl (wpAny_bind (wpAny_field hos hds (x:=.none) rfl (wpAny_pure ?_)))))))
 refine wpAny_bind (slicePart_none ?_)
 show wpAny _ _ (if ((1:Int)== 0)=true then _ else _) _ _ s
 rw[if_neg (by decide)]
 refine wpAny_bind (Zhj pl (wpAny_bind (Zhj pu (wpAny_bind (wpAny_pure ?_)))))
 show wpAny _ _ (match Builtin.Slice.sliceAdjust lo hi 1 (n:Int) with | (lo,hi)=>pure (lo,(1:Int),Builtin.Slice.slicePlaces lo hi 1)) _ _ s
 rw[Znn lo hi n]
 show wpAny _ _ (pure (((sIx n 0 lo:Nat):Int),(1:Int),Builtin.Slice.slicePlaces ((sIx n 0 lo:Nat):Int) ((sIx n n hi:Nat):Int) 1)) _ _ s
 rw[Zno]
 exact wpAny_pure h
theorem Zpf(xs:Array Value)(i k:Nat):((List.range k).filterMap fun(m:Nat)=>xs[((i:Int)+(m:Int) * 1).toNat]?).toArray=((xs.toList.drop i).take k).toArray:=by
 have e:(fun(m:Nat)=>xs[((i:Int)+(m:Int) * 1).toNat]?)=fun m=>xs[i+m]?:=by
  funext m
  have:((i:Int)+(m:Int) * 1).toNat=i+m:=by lia
  rw[this]
 rw[e]
 have:=pick_run xs i k
 rw[List.filterMap_map] at this
 have e2:((fun x=>xs[x]?)∘fun x=>i+x)=fun m=>xs[i+m]?:=rfl
 rw[e2] at this
 rw[this]
theorem getItem_tuple_cut{t sl:Addr}{items:Array Value}{vl vu:Value}{lo hi:Option Int}{Q:Value->Shared->Prop}(ht:IsTup s.heap t items)(hs:s.heap.IsSliceOf sl vl vu .none)(pl:IsPart vl lo)(pu:IsPart vu hi)(hw:¬(sIx items.size 0 lo=0/\sIx items.size items.size hi=items.size))(h:Q (.ref s.heap.objs.size) {s with heap:=s.heap.push {cls:=.type "tuple", data:=.seq ((items.toList.drop (sIx items.size 0 lo)).take (sIx items.size items.size hi - sIx items.size 0 lo)).toArray } })(hsz:items.size<=sizeLine):wpAny (model prog w) A (getItem (.ref t) (.ref sl)) Q E s:=by
 have htake:sizeOk (.seq ((items.toList.drop (sIx items.size 0 lo)).take (sIx items.size items.size hi - sIx items.size 0 lo)).toArray):=by
  show ((items.toList.drop (sIx items.size 0 lo)).take (sIx items.size items.size hi - sIx items.size 0 lo)).toArray.size<=sizeLine
  rw[xL,xZ,zP,Array.length_toList]
  lia
 have hj:sIx items.size items.size hi<=items.size:=Ztx _ _ (xK _) hi
 obtain⟨os,hos,hcs,hds⟩:=id hs
 have hTs:s.TypeIs (.ref sl) "slice" := ⟨os,hos,hcs⟩
 unfold getItem
 try with_reducible refine wpAny_holding ?_
 first | refine wpAny_bind (wpAny_pure ?_) | skip
 refine wpAny_bind (wpAny_sequenceKey ht.typeIs (by decide) ?_)
 refine wpAny_bind (wpAny_callSpecial?_slot (name:=Str.ofString "__getitem__") ht.typeIs PyProof.Rows.slot_tuple_getitem
  (wpAny_call_entry PyProof.Rows.slot_tuple_getitem ht.typeIs entry_tuple_getitem ?_ (args_tuple_getitem _ _)))
 show wpAny _ _ (Builtin.Tuple.tupleItemsOf (.ref t) >>= _) _ _ s
 refine wpAny_bind (tupleItemsOf_ ht ?_)
 refine wpAny_bind (wpAny_typeOf hTs ?_)
 rw[if_pos (by decide)]
 refine wpAny_bind (Zms hs pl pu ?_)
 have hno:¬((((sIx items.size 0 lo:Nat):Int)== 0 && (1:Int)== 1 && (sIx items.size items.size hi - sIx items.size 0 lo)== items.size)=true):=by
  intro q
  rw[xV,xV] at q
  have q1:((sIx items.size 0 lo:Nat):Int)=0:=eq_of_beq q.1.1
  have q2:sIx items.size items.size hi - sIx items.size 0 lo=items.size:=eq_of_beq q.2
  exact hw ⟨by lia,by lia⟩
 show wpAny _ _ (if (((sIx items.size 0 lo:Nat):Int)== 0 && (1:Int)== 1 && (sIx items.size items.size hi - sIx items.size 0 lo)== items.size)=true then _ else _) _ _ s
 rw[if_neg hno,Zpf]
 first
  | exact wpAny_bind (m:=Builtin.Tuple.tupleExact _) (wpAny_newObj_type (wpAny_pure ⟨_,rfl,wpAny_pure h⟩) htake)
  | exact wpAny_bind (m:=Builtin.Tuple.tupleExact _) (wpAny_newObj_type (wpAny_bind (wpAny_pure (wpAny_pure ⟨_,rfl,wpAny_pure h⟩))) htake)
  | exact wpAny_bind (wpAny_bind (m:=Builtin.Tuple.tupleExact _) (wpAny_newObj_type (wpAny_pure (wpAny_pure ⟨_,rfl,wpAny_pure h⟩)) htake))
  | exact wpAny_bind (wpAny_bind (m:=Builtin.Tuple.tupleExact _) (wpAny_newObj_type (wpAny_pure ⟨_,rfl,wpAny_pure h⟩) htake))
end
end HT
namespace L2
open PySem PySem.Spec PyProof.Rows
abbrev TO:=St->Hp->(Option Int->Hp->Prop)->Prop
def PO(X:Cx)(e:Option Expr)(t:TO):Prop :=
 ∀(pins:List (Addr×Obj))(s:Shared)(σ:St)(H:Hp)(Q:Option Int->Hp->Prop),Inv X pins σ H s->t σ H Q ->
  wpAny (model X.prog X.w) X.A (evalPart e X.env) (fun u s'=>∃o H',Inv X pins σ H' s'/\IsPart u o/\Q o H') X.xe s
def Ziz:TO:=fun _ H Q=>Q none H
inductive tPart_ (Q:Option Int->Hp->Prop) (x:V) (H1:Hp):Prop
 | mk (i) (h0:x = .int i) (h1:Q (some i) H1)
def Zkc(t:TE):TO:=fun σ H Q=>t σ H fun x H1=>tPart_ Q x H1
section
variable{X:Cx}{e:Expr}{te:TE}{lo hi:Option Expr}{tl th:TO}{pos p2:Pos}
theorem Zrr:PO X none Ziz:=by
 intro pins s σ H Q I h
 rw[evalPart_none]
 exact wpAny_pure ⟨none,H,I,.none,h⟩
theorem Zrs(h:PE X e te):PO X (some e) (Zkc te):=by
 intro pins s σ H Q I hw
 rw[evalPart_some]
 refine thn (h pins s σ H _ I hw) fun u s1 ⟨x,H1,I1,r1,q1⟩=>?_
 obtain⟨i,rfl,q⟩:=q1
 obtain⟨t,rfl⟩:=r1
 exact⟨some i,H1,I1,.int i t,q⟩
def SlR(X:Cx)(r:V->Option Int->Option Int->Hp->VK->Prop):Prop :=
 ∀(pins:List (Addr×Obj))(s:Shared)(σ:St)(H:Hp)(x:V)(v vl vu:Value)(lo hi:Option Int)(sl:Addr)(Q:VK),Inv X pins σ H s->RelV x v->s.heap.IsSliceOf sl vl vu .none->IsPart vl lo->IsPart vu hi->r x lo hi H Q ->
  ∃T id,typeLookup (.type T) "__getitem__" = pure (some (.builtin id))/\s.TypeIs v T/\wpAny (model X.prog X.w) X.A (getItem v (.ref sl)) (EP X pins σ Q) X.xe s
def tSl(r:V->Option Int->Option Int->Hp->VK->Prop)(te:TE)(tl th:TO):TE:=fun σ H Q=>te σ H fun x H1=>tl σ H1 fun l H2=>th σ H2 fun u H3=>r x l u H3 Q
theorem Zpg{r:V->Option Int->Option Int->Hp->VK->Prop}(hr:SlR X r)(he:PE X e te)(hl:PO X lo tl)(hu:PO X hi th):PE X (.Subscript e (.Slice lo hi none p2) pos) (tSl r te tl th):=by
 intro pins s σ H Q I h
 refine Subscript_ (thn (he pins s σ H _ I h) fun v s1 ⟨x,H1,I1,r1,q1⟩=>?_)
 refine wpAny_Slice (thn (hl pins s1 σ H1 _ I1 q1) fun vl s2 ⟨l,H2,I2,pl,q2⟩=>thn (hu pins s2 σ H2 _ I2 q2) fun vu s3 ⟨u,H3,I3,pu,q3⟩=>?_)
 rw[evalPart_none]
 refine wpAny_pure ?_
 have I4:Inv X pins σ H3 {s3 with heap:=s3.heap.push {cls:=.type "slice", data:=.fields #[vl,vu,.none] } }:=I3.kept (t':=s3.toks) fun b ob q=>xI _ q
 obtain⟨T,id,hT,ht,hg⟩:=hr pins {s3 with heap:=s3.heap.push {cls:=.type "slice", data:=.fields #[vl,vu,.none] } } σ H3 x v vl vu l u s3.heap.objs.size Q I4 r1 (Heap.IsSliceOf.new ..) pl pu q3
 show wpAny (model X.prog X.w) X.A (subscriptTail e (.Slice lo hi none p2) v (.ref s3.heap.objs.size)) (EP X pins σ Q) X.xe {s3 with heap:=s3.heap.push {cls:=.type "slice", data:=.fields #[vl,vu,.none] } }
 exact tail_any (ops:=[.ref s3.heap.objs.size,v]) ht hT hg (by with_unfolding_all rfl)
def Ww(xs:List V)(lo hi:Option Int):List V:=(xs.drop (HT.sIx xs.length 0 lo)).take (HT.sIx xs.length xs.length hi - HT.sIx xs.length 0 lo)
theorem Zhh(xs:List V)(lo hi:Option Int):(Ww xs lo hi).length<=xs.length:=by
 unfold Ww
 rw[xZ,zP]
 lia
inductive rSlT (K:uFg) (x:V) (lo:Option Int) (hi:Option Int) (H:Hp) (Q:VK):Prop
 | mk (a xs) (h0:x = .ref a) (h1:SqT K H a xs) (h2:¬(HT.sIx xs.length 0 lo=0/\HT.sIx xs.length xs.length hi=xs.length)) (h3:∀p,H p=none->Q (.ref p) (upd H p (.tup (Ww xs lo hi))))
theorem Zty:SlR X (rSlT X.K):=by
 intro pins s σ H x v vl vu lo hi sl Q I rx hs pl pu h
 obtain⟨a,xs,rfl,hx,hw,q⟩:=h
 cases rx
 obtain⟨its,r,ht,hz⟩:=I.tuple hx
 have hlen:its.toArray.size=xs.length:=by rw[xL];exact r.length.symm
 refine⟨"tuple", _,PyProof.Rows.slot_tuple_getitem.lookup,ht.typeIs,?_⟩
 refine HT.getItem_tuple_cut ht hs pl pu (by rw[hlen];exact hw) ?_ (by rw[hlen];exact hz)
 rw[hlen]
 refine⟨.ref s.heap.objs.size,_,I.laid (t':=s.toks) (o:=.tup (Ww xs lo hi)) (fun b ob q=>xI _ q) (xK _) ?_,rfl,q _ (I.hok.fresh (xK _))⟩
 exact⟨yK (Zhh xs lo hi) hz,_,(r.drop (HT.sIx xs.length 0 lo)).take (HT.sIx xs.length xs.length hi - HT.sIx xs.length 0 lo),IsTup.new _ _⟩
inductive rLtT (K:uFg) (x:V) (y:V) (H:Hp) (Q:VK):Prop
 | mk (a b ns ms) (h0:x = .ref a) (h1:y = .ref b) (h2:SqT K H a (ns.map V.int)) (h3:SqT K H b (ms.map V.int)) (h4:Q (.bl (HT.lexLt ns ms)) H)
inductive rCatT (K:uFg) (x:V) (y:V) (H:Hp) (Q:VK):Prop
 | mk (a b xs ys) (h0:x = .ref a) (h1:y = .ref b) (h2:SqT K H a xs) (h3:SqT K H b ys) (h4:xs ≠ []) (h5:xs.length+ys.length<=sizeLine) (h6:(ys = []->Q (.ref a) H)) (h7:(ys ≠ []->∀p,H p=none->Q (.ref p) (upd H p (.tup (xs++ys)))))
theorem Vals.nil_iff{xs:List V}{us:List Value}(r:Vals xs us):us = []↔xs = []:=by
 cases r with
 | nil=>simp
 | cons _ _=>simp
theorem Zrt:OpR X (binaryOp .Add) (rCatT X.K):=by
 intro pins s σ H x y v u Q I rx ry h
 obtain⟨a,b,xs,ys,rfl,rfl,ha,hb,hx,hz,q1,q2⟩:=h
 cases rx
 cases ry
 obtain⟨its,r1,p1,_⟩:=I.tuple ha
 obtain⟨its2,r2,p2,_⟩:=I.tuple hb
 refine HT.cat_tup p1 p2 (fun z=>hx (r1.nil_iff.mp z)) (fun z=>⟨.ref a,H,I,rfl,q1 (r2.nil_iff.mp z)⟩) (fun z=>?_) (by rw[← r1.length,← r2.length];exact hz)
 refine⟨.ref s.heap.objs.size,_,I.laid (t':=s.toks) (o:=.tup (xs++ys)) (fun b ob q=>xI _ q) (xK _) ?_,rfl,q2 (fun w=>z (r2.nil_iff.mpr w)) _ (I.hok.fresh (xK _))⟩
 exact⟨by rw[xC];exact hz,_,r1.append r2,IsTup.new _ _⟩
end
end L2
namespace L2
open PySem PySem.Spec PyProof.Rows
def ixN(n:Nat)(i:Int):Option Nat:=if 0<=i then (if i < n then some i.toNat else none) else if -(n:Int)<=i then some (i+n).toNat else none
def atI{α:Type}(xs:List α)(i:Int):Option α:=(ixN xs.length i).bind fun j=>xs[j]?
theorem Zi0{n:Nat}{i:Int}{j:Nat}(h:ixN n i=some j):seqIndex? i n=some j/\j < n /\ -(n:Int)<=i/\i < n:=by
 unfold ixN at h
 by_cases h0 : 0<=i
 ·rw[if_pos h0] at h
  by_cases h1:i < n
  ·rw[if_pos h1] at h
   have e:i.toNat=j:=Option.some.inj h
   exact⟨by rw[seqIndex_of h0 h1,e],by lia,by lia,h1⟩
  ·rw[if_neg h1] at h;cases h
 ·rw[if_neg h0] at h
  by_cases h1 : -(n:Int)<=i
  ·rw[if_pos h1] at h
   have e:(i+n).toNat=j:=Option.some.inj h
   exact⟨by rw[seqIndex_neg (by lia) h1,e],by lia,h1,by lia⟩
  ·rw[if_neg h1] at h;cases h
theorem Zei{α:Type}{xs:List α}{i:Int}{v : α}(h:atI xs i=some v):∃j,seqIndex? i xs.length=some j/\xs[j]? = some v/\j < xs.length /\ -(xs.length:Int)<=i/\i < xs.length:=by
 unfold atI at h
 cases e:ixN xs.length i with
 | none=>rw[e] at h;cases h
 | some j =>
  rw[e] at h
  obtain⟨h1,h2,h3,h4⟩:=Zi0 e
  exact⟨j,h1,h,h2,h3,h4⟩
theorem Wj{α:Type}{xs:List α}{j:Nat}{v : α}(h:xs[j]? = some v):atI xs (j:Int)=some v:=by
 have hj:j < xs.length:=(xQ.mp h).1
 have e:ixN xs.length (j:Int)=some j:=by
  unfold ixN
  rw[if_pos (by lia),if_pos (by lia)];simp
 unfold atI;rw[e];exact h
def Zi1(b:Expr):Prop:=∀o i,subscripted b false o i=operate [o,i] (getItem o i)
def IxR(X:Cx)(r:R2):Prop :=
 ∀(value slice:Expr)(pins:List (Addr×Obj))(s:Shared)(σ:St)(H:Hp)(x y:V)(v u:Value)(Q:VK),Inv X pins σ H s->RelV x v->RelV y u->r x y H Q ->
  subscripted slice false v u=operate [v,u] (getItem v u)->wpAny (model X.prog X.w) X.A (subscriptTail value slice v u) (EP X pins σ Q) X.xe s
def MtR(X:Cx)(id:String)(r:V->List V->Hp->VK->Prop):Prop :=
 ∀(pins:List (Addr×Obj))(s:Shared)(σ:St)(H:Hp)(x:V)(xs:List V)(v:Value)(us:List Value)(Q:VK),Inv X pins σ H s->RelV x v->Vals xs us->r x xs H Q ->
  wpAny (model X.prog X.w) X.A (call (.builtin id) (v::us)) (EP X pins σ Q) X.xe s
section
variable{X:Cx}{a b:Expr}{ta tb:TE}{pos:Pos}
theorem Zvb{r:R2}(hr:IxR X r)(ha:PE X a ta)(hb:PE X b tb)(hs:Zi1 b):PE X (.Subscript a b pos) (tOp r ta tb):=by
 intro pins s σ H Q I h
 exact Subscript_ (Zgz ha hb I h fun v u s2 x y H2 I2 rx ry q=>hr a b pins s2 σ H2 x y v u Q I2 rx ry q (hs _ _))
inductive rIxL (K:uFg) (x:V) (y:V) (H:Hp) (Q:VK):Prop
 | mk (p xs i v) (h0:x = .ref p) (h1:y = .int i) (h2:SqL K H p xs) (h3:atI xs i=some v) (h4:Q v H)
inductive rIxT (K:uFg) (x:V) (y:V) (H:Hp) (Q:VK):Prop
 | mk (p xs i v) (h0:x = .ref p) (h1:y = .int i) (h2:SqT K H p xs) (h3:atI xs i=some v) (h4:Q v H)
inductive rIxS (x:V) (y:V) (H:Hp) (Q:VK):Prop
 | mk (z i c) (h0:x = .str z) (h1:y = .int i) (h2:z.length<=sizeLine) (h3:atI z.cps.toList i=some c) (h4:Q (.str ⟨#[c]⟩) H)
theorem Zru:IxR X (rIxL X.K):=by
 intro value slice pins s σ H x y v u Q I rx ry h hs
 obtain⟨p,xs,i,z,rfl,rfl,hq,he,q⟩:=h
 cases rx
 obtain⟨t,rfl⟩:=ry
 obtain⟨its,r,pl,hz⟩:=I.list hq
 obtain⟨j,h1,h2,h3,h4,h5⟩:=Zei he
 obtain⟨w,ew,rw'⟩:=r.get h2
 have hl:=r.length
 have hn:=Zbc
 have fin:EP X pins σ Q w s:=⟨z,H,I,rw',q⟩
 by_cases h0 : 0<=i
 ·have hj:i.toNat=j:=by
   rw[seqIndex_of h0 h5] at h1
   exact Option.some.inj h1
  exact item_listR pl.isList h0 (by lia) (by rw[hj];simpa using ew) fin hs
 ·have hj:(i+(its.toArray.size:Int)).toNat=j:=by
   rw[seqIndex_neg (by lia) h4] at h1
   rw[xL,← hl]
   exact Option.some.inj h1
  exact subscriptTail_builtinR (x:=w) pl.isList.typeIs slot_list_getitem.lookup
   (wpAny_getItem_list_neg (Q:=fun r s'=>r=w/\EP X pins σ Q r s') pl.isList (by lia) (by rw[xL]<;>lia) (by lia) (by rw[hj];simpa using ew) ⟨rfl,fin⟩) hs
theorem Zjo:IxR X (rIxT X.K):=by
 intro value slice pins s σ H x y v u Q I rx ry h hs
 obtain⟨p,xs,i,z,rfl,rfl,hq,he,q⟩:=h
 cases rx
 obtain⟨t,rfl⟩:=ry
 obtain⟨its,r,pl,hz⟩:=I.tuple hq
 obtain⟨j,h1,h2,h3,h4,h5⟩:=Zei he
 obtain⟨w,ew,rw'⟩:=r.get h2
 have hl:=r.length
 have hn:=Zbc
 have fin:EP X pins σ Q w s:=⟨z,H,I,rw',q⟩
 exact subscriptTail_builtinR (x:=w) pl.typeIs slot_tuple_getitem.lookup
  (getItem_tuple (j:=j) (Q:=fun r s'=>r=w/\EP X pins σ Q r s') pl (by lia) (by lia) (by rw[xL,← hl];exact h1) (by simpa using ew) ⟨rfl,fin⟩) hs
theorem Ztz:IxR X rIxS:=by
 intro value slice pins s σ H x y v u Q I rx ry h hs
 obtain⟨z,i,c,rfl,rfl,hz,he,q⟩:=h
 obtain⟨t,rfl⟩:=rx
 obtain⟨t',rfl⟩:=ry
 obtain⟨j,h1,h2,h3,h4,h5⟩:=Zei he
 have hl:z.cps.toList.length=z.length:=by simp[Str.length]
 rw[hl] at h1 h4 h5
 have hn:=Zbc
 exact tail_any (typeIs_str s z t) slot_str_getitem.lookup (getItem_str (c:=c) (by
  have e1:decide (i < -(2 ^ 63:Int))=false:=xT (by lia)
  have e2:decide (i>=2 ^ 63)=false:=xT (by lia)
  rw[e1,e2,Bool.or_false]) (by rw[h1];simpa using h2) ⟨.str ⟨#[c]⟩,H,I.tok _,⟨_,rfl⟩,q⟩) hs
theorem Znp(its:List Value)(n j:Nat)(u:Value):Obj.mapSeq (·.setIfInBounds j u) {cls:=.type "list", data:=.seq its.toArray n }={cls:=.type "list", data:=.seq (its.set j u).toArray n }:=by
 simp[Obj.mapSeq]
theorem Inv.lst{pins:List (Addr×Obj)}{σ:St}{H:Hp}{s:Shared}{p:Addr}{xs:List V}(I:Inv X pins σ H s)(h:H p=some (.lst xs)) :
  ∃(its:List Value)(n:Nat),Vals xs its/\s.heap.get? p=some {cls:=.type "list", data:=.seq its.toArray n }/\xs.length<=sizeLine:=by
 obtain⟨z,its,n,r,e⟩:=I.hok p _ h
 exact⟨its,n,r,e,z⟩
theorem Inv.lstUpd{pins:List (Addr×Obj)}{σ:St}{H:Hp}{s:Shared}{p:Addr}{xs ys:List V}{its its':List Value}{n n':Nat}{f:Obj->Obj}(I:Inv X pins σ H s)(h:H p=some (.lst xs))(ho:s.heap.get? p=some {cls:=.type "list", data:=.seq its.toArray n })(hf:f {cls:=.type "list", data:=.seq its.toArray n }={cls:=.type "list", data:=.seq its'.toArray n' })(r:Vals ys its')(hz:ys.length<=sizeLine)(t:Nat) :
  Inv X pins σ (upd H p (.lst ys)) {s with heap:=s.heap.update p f,toks:=t }:=by
 have e:(s.heap.update p f).get? p=some {cls:=.type "list", data:=.seq its'.toArray n' }:=by
  rw[zW f ho (by rw[hf]<;>rfl),hf]
 refine I.write (x:=p) (e:=p) (by rw[h];trivial) (.inl rfl) (fun b u hb q=>(yL _ _ (Ne.symm hb)).trans q) ⟨_,e⟩ ?_
 exact⟨hz,its',n',r,e⟩
inductive rSetL (o:V) (i:V) (v:V) (H:Hp) (Q:Hp->Prop):Prop
 | mk (p xs k j) (h0:o = .ref p) (h1:i = .int k) (h2:H p=some (.lst xs)) (h3:ixN xs.length k=some j) (h4:Q (upd H p (.lst (xs.set j v))))
theorem Zph:Zgx X rSetL:=by
 intro pins s σ H o i v ov iv u Q I ro ri rv h
 obtain⟨p,xs,k,j,rfl,rfl,hp,hj,q⟩:=h
 cases ro
 obtain⟨t,rfl⟩:=ri
 obtain⟨its,n,r,ho,hz⟩:=I.lst hp
 obtain⟨h1,h2,h3,h4⟩:=Zi0 hj
 have hl:=r.length
 have hn:=Zbc
 have I':Inv X pins σ (upd H p (.lst (xs.set j v))) {s with heap:=s.heap.update p (Obj.mapSeq (·.setIfInBounds j u)) } :=
  I.lstUpd hp ho (Znp its n j u) (r.set rv j) (by rw[List.length_set];exact hz) s.toks
 by_cases h0 : 0<=k
 ·have hk:k.toNat=j:=by
   rw[seqIndex_of h0 h4] at h1
   exact Option.some.inj h1
  exact PySem.W.ki_setAt ho h0 (by lia) (by rw[xL,← hl];exact h4) (by rw[hk];exact⟨_,I',q⟩)
 ·have hk:(k+(its.toArray.size:Int)).toNat=j:=by
   rw[seqIndex_neg (by lia) h3] at h1
   rw[xL,← hl]
   exact Option.some.inj h1
  exact PySem.W.ki_setBack ho (by lia) (by rw[xL,← hl];exact h3) (by lia) (by rw[hk];exact⟨_,I',q⟩)
theorem Zm3(lo hi:Option Int)(n:Nat):(sliceBounds lo hi none n).1=((HT.sIx n 0 lo:Nat):Int)/\(sliceBounds lo hi none n).2.1=((HT.sIx n n hi:Nat):Int)/\(sliceBounds lo hi none n).2.2=1:=by
 refine⟨?_,?_,rfl⟩
 ·cases lo with
  | none=>simp[sliceBounds,HT.sIx]
  | some i =>
   simp only[sliceBounds,HT.sIx,Option.getD_none,show (1:Int) > 0 by decide,if_true]
   by_cases h:i < 0
   ·simp only[h,if_true]<;>lia
   ·simp only[h,if_false]<;>lia
 ·cases hi with
  | none=>simp[sliceBounds,HT.sIx]
  | some i =>
   simp only[sliceBounds,HT.sIx,Option.getD_none,show (1:Int) > 0 by decide,if_true]
   by_cases h:i < 0
   ·simp only[h,if_true]<;>lia
   ·simp only[h,if_false]<;>lia
theorem Zmz(its:List Value)(lo hi:Option Int):slicePick its.toArray lo hi none=((its.drop (HT.sIx its.length 0 lo)).take (HT.sIx its.length its.length hi - HT.sIx its.length 0 lo)).toArray:=by
 obtain⟨h1,h2,h3⟩:=Zm3 lo hi its.toArray.size
 unfold slicePick
 rw[h1,h2,h3]
 simp only[sliceRange_one,pick_run,xL]<;>rfl
inductive rSlL (K:uFg) (x:V) (lo:Option Int) (hi:Option Int) (H:Hp) (Q:VK):Prop
 | mk (a xs) (h0:x = .ref a) (h1:SqL K H a xs) (h2:∀p,H p=none->Q (.ref p) (upd H p (.lst (Ww xs lo hi))))
theorem Zrv:SlR X (rSlL X.K):=by
 intro pins s σ H x v vl vu lo hi sl Q I rx hs pl pu h
 obtain⟨a,xs,rfl,hx,q⟩:=h
 cases rx
 obtain⟨its,r,ht,hz⟩:=I.list hx
 have hlen:=r.length
 refine⟨"list", _,slot_list_getitem.lookup,ht.isList.typeIs,?_⟩
 refine wpAny_getItem_list_slice ht.isList hs pl pu .none (by simp) ?_ (by rw[xL]<;>lia)
 rw[Zmz,← hlen]
 refine⟨.ref s.heap.objs.size,_,I.laid (t':=s.toks) (o:=.lst (Ww xs lo hi)) (fun b ob q=>xI _ q) (xK _) ?_,rfl,q _ (I.hok.fresh (xK _))⟩
 exact⟨yK (Zhh xs lo hi) hz,_,0,(r.drop (HT.sIx xs.length 0 lo)).take (HT.sIx xs.length xs.length hi - HT.sIx xs.length 0 lo),yD _ rfl⟩
def Vw:V->Bool
 | .non=>true
 | .bl _=>true
 | .int _=>true
 | .str _=>true
 | _=>false
def eqV:V->V->Bool
 | .non,.non=>true
 | .bl a,.bl b=>a == b
 | .bl a,.int b=>(if a then 1 else 0)== b
 | .int a,.bl b=>a == (if b then 1 else 0)
 | .int a,.int b=>a == b
 | .str a,.str b=>a == b
 | _,_=>false
theorem Zt0{A:Around}{s:Shared}{y x:V}{u v:Value}(ry:RelV y u)(rx:RelV x v)(fy:Vw y=true)(fx:Vw x=true):SeqAt.EqAt A s u v (eqV y x):=by
 cases y with
 | non =>
  cases ry
  cases x with
  | non=>cases rx;exact SeqAt.EqAt.same _
  | bl b=>cases rx;exact SeqAt.EqAt.none_bool b
  | int b=>obtain⟨t,rfl⟩:=rx;exact SeqAt.EqAt.none_int b t
  | str b=>obtain⟨t,rfl⟩:=rx;exact SeqAt.EqAt.none_str b t
  | _=>exact absurd (show false=true from fx) xH
 | bl a =>
  cases ry
  cases x with
  | non=>cases rx;exact SeqAt.EqAt.bool_none a
  | bl b=>cases rx;exact SeqAt.EqAt.bool_bool a b
  | int b=>obtain⟨t,rfl⟩:=rx;exact SeqAt.EqAt.bool_int a b t
  | str b=>obtain⟨t,rfl⟩:=rx;exact SeqAt.EqAt.bool_str a b t
  | _=>exact absurd (show false=true from fx) xH
 | int a =>
  obtain⟨t',rfl⟩:=ry
  cases x with
  | non=>cases rx;exact SeqAt.EqAt.int_none a t'
  | bl b=>cases rx;exact SeqAt.EqAt.int_bool a t' b
  | int b=>obtain⟨t,rfl⟩:=rx;exact SeqAt.EqAt.int_int a t' b t
  | str b=>obtain⟨t,rfl⟩:=rx;exact SeqAt.EqAt.int_str a t' b t
  | _=>exact absurd (show false=true from fx) xH
 | str a =>
  obtain⟨t',rfl⟩:=ry
  cases x with
  | non=>cases rx;exact SeqAt.EqAt.str_none a t'
  | bl b=>cases rx;exact SeqAt.EqAt.str_bool a t' b
  | int b=>obtain⟨t,rfl⟩:=rx;exact SeqAt.EqAt.str_int a t' b t
  | str b=>obtain⟨t,rfl⟩:=rx;exact SeqAt.EqAt.str_str a t' b t
  | _=>exact absurd (show false=true from fx) xH
 | _=>exact absurd (show false=true from fy) xH
def eqU(x:V)(u:Value):Bool:=match u with
 | .none=>eqV .non x
 | .bool b=>eqV (.bl b) x
 | .int i _=>eqV (.int i) x
 | .str z _=>eqV (.str z) x
 | _=>false
theorem Zjp{x y:V}{u:Value}(r:RelV y u)(f:Vw y=true):eqU x u=eqV y x:=by
 cases y with
 | non=>cases r;rfl
 | bl b=>cases r;rfl
 | int i=>obtain⟨t,rfl⟩:=r;rfl
 | str z=>obtain⟨t,rfl⟩:=r;rfl
 | _=>exact absurd (show false=true from f) xH
theorem Zca{x:V}:∀{xs:List V}{us:List Value},Vals xs us->xs.all Vw=true->us.any (eqU x)=xs.any fun y=>eqV y x
 | _,_,.nil,_=>rfl
 | y::xs,u::us,.cons r t,f=>by
  rw[List.all_cons,xV] at f
  rw[List.any_cons,List.any_cons,Zjp r f.1,Zca t f.2]
theorem Zb6{A:Around}{s:Shared}{x:V}{v:Value}(rx:RelV x v)(fx:Vw x=true):∀{xs:List V}{us:List Value},Vals xs us->xs.all Vw=true->∀u∈us,SeqAt.EqAt A s u v (eqU x u)
 | _,_,.nil,_=>fun u hu=>by cases hu
 | y::xs,u::us,.cons r t,f=>fun u' hu=>by
  rw[List.all_cons,xV] at f
  rcases xE.mp hu with rfl | hu
  ·rw[Zjp r f.1];exact Zt0 r rx f.1 fx
  ·exact Zb6 rx fx t f.2 u' hu
def inV(x:V)(xs:List V):Bool:=xs.any fun y=>eqV y x
inductive rIn (K:uFg) (neg:Bool) (x:V) (y:V) (H:Hp) (Q:VK):Prop
 | mk (p xs) (h0:y = .ref p) (h1:(SqL K H p xs\/SqT K H p xs)) (h2:Vw x=true) (h3:xs.all Vw=true) (h4:Q (.bl (if neg then !inV x xs else inV x xs)) H)
theorem Zoh:OpR X (compareOp .In) (rIn X.K false):=by
 intro pins s σ H x y v u Q I rx ry h
 obtain⟨p,xs,rfl,hq,fx,fs,q⟩:=h
 cases ry
 rcases hq with hq | hq
 ·obtain⟨its,r,pl,hz⟩:=I.list hq
  refine SeqAt.in_listAt (eqU x) pl.isList (fun w hw=>Zb6 rx fx r fs w (by simpa using hw)) ⟨.bl _,H,I,rfl,?_⟩
  rw[show its.toArray.any (eqU x)=its.any (eqU x) by simp,Zca r fs]
  exact q
 ·obtain⟨its,r,pl,hz⟩:=I.tuple hq
  refine SeqAt.in_tupleAt (eqU x) pl (fun w hw=>Zb6 rx fx r fs w (by simpa using hw)) ⟨.bl _,H,I,rfl,?_⟩
  rw[show its.toArray.any (eqU x)=its.any (eqU x) by simp,Zca r fs]
  exact q
theorem Zm4:OpR X (compareOp .NotIn) (rIn X.K true):=by
 intro pins s σ H x y v u Q I rx ry h
 obtain⟨p,xs,rfl,hq,fx,fs,q⟩:=h
 cases ry
 rcases hq with hq | hq
 ·obtain⟨its,r,pl,hz⟩:=I.list hq
  refine SeqAt.notIn_listAt (eqU x) pl.isList (fun w hw=>Zb6 rx fx r fs w (by simpa using hw)) ⟨.bl _,H,I,rfl,?_⟩
  rw[show its.toArray.any (eqU x)=its.any (eqU x) by simp,Zca r fs]
  exact q
 ·obtain⟨its,r,pl,hz⟩:=I.tuple hq
  refine SeqAt.notIn_tupleAt (eqU x) pl (fun w hw=>Zb6 rx fx r fs w (by simpa using hw)) ⟨.bl _,H,I,rfl,?_⟩
  rw[show its.toArray.any (eqU x)=its.any (eqU x) by simp,Zca r fs]
  exact q
theorem Zm5:Vv X (.builtin "len") (fun xs H Q=>∃p ys,xs = [.ref p]/\(SqL X.K H p ys\/SqT X.K H p ys)/\Q (.int ys.length) H):=by
 intro pins s σ H xs us Q I r h
 obtain⟨p,ys,rfl,hq,q⟩:=h
 obtain⟨u,rfl,rx⟩:=Zae r
 cases rx
 have hn:=Zbc
 rcases hq with hq | hq
 ·obtain⟨its,r',pl,hz⟩:=I.list hq
  have hlen:=r'.length
  exact Calls.call_len_list pl.isList (by simp only[xL]<;>lia) ⟨.int ys.length,H,I.tok _,⟨s.toks+1,by rw[xL,hlen]⟩,q⟩
 ·obtain⟨its,r',pl,hz⟩:=I.tuple hq
  have hlen:=r'.length
  exact len_tuple pl (by simp only[xL]<;>lia) ⟨.int ys.length,H,I.tok _,⟨s.toks+1,by rw[xL,hlen]⟩,q⟩
theorem Zm6:Vv X (.builtin "len") (fun xs H Q=>∃z,xs = [.str z]/\z.length<=sizeLine/\Q (.int z.length) H):=by
 intro pins s σ H xs us Q I r h
 obtain⟨z,rfl,hz,q⟩:=h
 obtain⟨u,rfl,t,rfl⟩:=Zae r
 have hn:=Zbc
 exact len_str (by lia) ⟨.int z.length,H,I.tok _,⟨_,rfl⟩,q⟩
theorem Zm7:Vv X (.type "list") (fun xs H Q=>∃p ys,xs = [.ref p]/\(SqL X.K H p ys\/SqT X.K H p ys)/\∀l,H l=none->Q (.ref l) (upd H l (.lst ys))):=by
 intro pins s σ H xs us Q I r h
 obtain⟨p,ys,rfl,hq,q⟩:=h
 obtain⟨u,rfl,rx⟩:=Zae r
 cases rx
 have fin:∀(its:List Value),Vals ys its->ys.length<=sizeLine->∀(h':Heap)(c':Nat),(∀b o',s.heap.get? b=some o'->h'.get? b=some o')->
   h'.get? s.heap.objs.size=some {cls:=.type "list", dict:=none,data:=.seq its.toArray c',slots:=#[] }->EP X pins σ Q (.ref s.heap.objs.size) {s with heap:=h' }:=fun its r' hz h' c' kp e =>
  ⟨.ref s.heap.objs.size,_,I.laid (t':=s.toks) kp (xK _) (show ObjOk X.prog X.w _ h' _ (.lst ys) from⟨hz,its,c',r',e⟩),rfl,q _ (I.hok.fresh (xK _))⟩
 rcases hq with hq | hq
 ·obtain⟨its,r',pl,hz⟩:=I.list hq
  have hlen:=r'.length
  obtain⟨o,ho,hc,n,hd⟩:=pl.isList
  exact call_list_seq p (.inl rfl) ho hc hd (fun h' c' kp e=>fin its r' hz h' c' kp e) (by simp only[xL]<;>lia)
 ·obtain⟨its,r',pl,hz⟩:=I.tuple hq
  have hlen:=r'.length
  obtain⟨o,ho,hc,n,hd⟩:=pl
  exact call_list_seq p (.inr rfl) ho hc hd (fun h' c' kp e=>fin its r' hz h' c' kp e) (by simp only[xL]<;>lia)
def tyV(K:uFg)(T:String)(x:V)(H:Hp):Prop:=match x with
 | .str _=>T = "str"
 | .int _=>T = "int"
 | .ref p=>(T = "list" /\ ∃xs,SqL K H p xs)\/(T = "tuple" /\ ∃o,K.lookup p=some o/\o.cls = .type "tuple" /\ o.dict=none)\/
   (T = "dict" /\ ((∃kvs,H p=some (.dK kvs))\/∃kvs,H p=some (.dT kvs)))\/(T = "set" /\ ∃S n,H p=some (.set S n))
 | _=>False
theorem Zt1{pins:List (Addr×Obj)}{σ:St}{H:Hp}{s:Shared}{T:String}{x:V}{v:Value}(I:Inv X pins σ H s)(r:RelV x v)(ty:tyV X.K T x H) :
  s.TypeIs v T/\∀a,v = .ref a->∃ob,s.heap.get? a=some ob/\ob.dict=none:=by
 cases x with
 | str z =>
  obtain⟨t,rfl⟩:=r
  cases (show T = "str" from ty)
  exact⟨typeIs_str s z t,fun _ e=>nomatch e⟩
 | int i =>
  obtain⟨t,rfl⟩:=r
  cases (show T = "int" from ty)
  exact⟨typeIs_int s i t,fun _ e=>nomatch e⟩
 | ref p =>
  cases r
  rcases ty with⟨rfl,xs,hq⟩ | ⟨rfl,o,hk,hc,hd⟩ | ⟨rfl,hk⟩ | ⟨rfl,S,n,hk⟩
  ·obtain⟨its,_,pl,_⟩:=I.list hq
   refine⟨pl.isList.typeIs,fun a e=>?_⟩
   cases e
   obtain⟨o,n,e,c,hd,_⟩:=pl
   exact⟨o,e,hd⟩
  ·refine⟨⟨o,I.kIn p o hk,hc⟩,fun a e=>?_⟩
   cases e
   exact⟨o,I.kIn _ o hk,hd⟩
  ·have z:∃o,s.heap.get? p=some o/\o.ExactDict:=by
    rcases hk with⟨kvs,hk⟩ | ⟨kvs,hk⟩
    ·obtain⟨_,_,_,_,o,_,_,e,ex,_⟩:=I.hok p _ hk
     exact⟨o,e,ex⟩
    ·obtain⟨_,_,_,_,o,_,_,e,ex,_⟩:=I.hok p _ hk
     exact⟨o,e,ex⟩
   obtain⟨o,e,ex⟩:=z
   refine⟨⟨o,e,ex.1⟩,fun a e2=>?_⟩
   cases e2
   exact⟨o,e,ex.2.1⟩
  ·obtain⟨o,_,_,_,e,ex,_⟩:=I.hok p _ hk
   refine⟨⟨o,e,ex.1⟩,fun a e2=>?_⟩
   cases e2
   exact⟨o,e,ex.2.1⟩
 | _=>exact False.elim ty
def tBM(K:uFg)(T:String)(r:V->List V->Hp->VK->Prop)(to:TE)(t:TA):TE:=fun σ H Q=>to σ H fun x H1=>tyV K T x H1/\t σ H1 fun xs H2=>r x xs H2 Q
variable{o e:Expr}{es:List Expr}{to:TE}{t:TA}{name:Str}{apos cpos:Pos}{T id:String}{r:V->List V->Hp->VK->Prop}
theorem Zvc(pa:PlainAttrs T)(slot:Slot T name id)(hty:typeOf (.builtin id)=pure (.type "method_descriptor"))(hm:MtR X id r)(ho:PE X o to)(ha:PA X (e::es) t)(hbase:attributeBase o name X.env (eval o X.env)=eval o X.env:=by rfl)(hfew:((backTo cpos (starEach (e::es) X.env)).all (fun x=>!x.1) && (backToKw cpos (keywordEach [] X.env)).all (fun x=>x.1.isSome)
   && decide ((e::es).length+([]:List Keyword).length+(if ([]:List Keyword).isEmpty then 0 else 1) < 30))=true:=by rfl)(hline:(apos.endLine == cpos.line)=true:=by rfl)(hs:starEach (e::es) X.env=(false,eval e X.env)::starEach es X.env:=by rfl)(hplain:(backTo cpos (starEach es X.env)).any (·.1)=false:=by rfl) :
  PE X (.Call (.Attribute o name apos) (e::es) [] cpos) (tBM X.K T r to t):=by
 intro pins s σ H Q I h
 refine wpAny_Call_method_late hbase hfew hline rfl (thn (ho pins s σ H _ I h) fun v s1 ⟨x,H1,I1,r1,ty,q1⟩=>?_)
 obtain⟨h1,h2⟩:=Zt1 I1 r1 ty
 refine⟨T,id,pa,slot,hty,h1,h2,?_⟩
 have hA:=ha cpos pins s1 σ H1 _ I1 q1
 rw[hs] at hA ⊢
 refine Calls.callWith_builtin (by show (false || (backTo cpos (starEach es X.env)).any (·.1))=false;rw[hplain]<;>rfl) (Calls.evalArgs_plain ?_)
 exact thn hA fun us s2 ⟨vs,H2,I2,r2,q2⟩=>hm pins s2 σ H2 x vs v us Q I2 r1 r2 q2
/- xs.append(e),list.index on a module's tuple .. are MtR facts of 06m -/
end
end L2
namespace L2
open PySem PySem.Spec PyProof.Rows
def MtM(X:Cx)(id:String)(r:V->List V->Hp->VK->Prop):Prop :=
 ∀(pins:List (Addr×Obj))(s:Shared)(σ:St)(H:Hp)(x:V)(xs:List V)(v:Value)(us:List Value)(Q:VK),Inv X pins σ H s->RelV x v->Vals xs us->r x xs H Q ->
  wpAny (model X.prog X.w) X.A (call (.builtin id) (v::us)) (EP X pins σ Q) X.xe s
theorem Vals.one:∀{x:V}{us:List Value},Vals [x] us->∃u,us = [u]/\RelV x u
 | _,_,.cons r .nil=>⟨_,rfl,r⟩
theorem Vals.rep{xs:List V}{us:List Value}(h:Vals xs us):∀k:Nat,Vals (List.replicate k xs).flatten (List.replicate k us).flatten
 | 0=>.nil
 | k+1=>by
  rw[zQ,zQ,zV,zV]
  exact Vals.append h (Vals.rep h k)
theorem Zh1(its:List Value):∀(k:Nat)(acc:List Value),
  List.foldl (fun x1 x2=>x1++x2) acc.toArray (List.replicate k its.toArray)=(acc++(List.replicate k its).flatten).toArray
 | 0,acc=>by simp
 | k+1,acc=>by
  have e:acc.toArray++its.toArray=(acc++its).toArray:=by simp
  have e2:(acc++its)++(List.replicate k its).flatten=acc++(List.replicate (k+1) its).flatten:=by
   rw[zQ,zV,zH]
  rw[← e2,← Zh1 its k (acc++its),← e,zQ,List.foldl_cons]
section
variable{X:Cx}{pins:List (Addr×Obj)}{σ:St}{H:Hp}{s:Shared}{l b:Addr}{xs ys zs:List V}
theorem Inv.lset{its its':List Value}{n:Nat}{f:Array Value->Array Value}{t':Nat}(I:Inv X pins σ H s)(hH:H l=some (.lst xs))(e:s.heap.get? l=some {cls:=.type "list", data:=.seq its.toArray n })(hf:f its.toArray=its'.toArray)(hv:Vals ys its')(hz:ys.length<=sizeLine) :
  Inv X pins σ (upd H l (.lst ys)) {s with heap:=s.heap.update l (Obj.mapSeq f),toks:=t' }:=by
 have q:=PySem.IsL.update e f
 rw[hf] at q
 refine I.write (x:=l) (e:=l) (by rw[hH];exact trivial) (.inl rfl) (fun b' u hb hu=>(yL s.heap (Obj.mapSeq f) (Ne.symm hb)).trans hu) ⟨_,q⟩ ?_
 exact⟨hz,its',_,hv,q⟩
theorem Inv.lnew{its:List Value}{t':Nat}(I:Inv X pins σ H s)(hv:Vals ys its)(hz:ys.length<=sizeLine) :
  Inv X pins σ (upd H s.heap.objs.size (.lst ys)) {s with heap:=s.heap.push {cls:=.type "list", data:=.seq its.toArray },toks:=t' } :=
 I.laid (fun _ _ q=>xI _ q) (xK _) ⟨hz,its,0,hv,yD _ rfl⟩
theorem Inv.fresh(I:Inv X pins σ H s):H s.heap.objs.size=none:=I.hok.fresh (xK _)
theorem Inv.lstM(I:Inv X pins σ H s)(hH:H l=some (.lst xs)):xs.length<=sizeLine/\∃(its:List Value)(n:Nat),Vals xs its/\xs.length=its.length/\s.heap.get? l=some {cls:=.type "list", data:=.seq its.toArray n }:=by
 obtain⟨z,its,n,r,e⟩:=I.hok l _ hH
 exact⟨z,its,n,r,r.length,e⟩
theorem Zpi{n:Nat}(h:n<=sizeLine):Builtin.List.listTooLong n=false:=by
 unfold Builtin.List.listTooLong
 exact xT (by lia)
end
section
variable{X:Cx}
inductive rAppend (x:V) (vs:List V) (H:Hp) (Q:VK):Prop
 | mk (l xs y) (h0:x = .ref l) (h1:vs = [y]) (h2:H l=some (.lst xs)) (h3:xs.length < sizeLine) (h4:Q .non (upd H l (.lst (xs ++ [y]))))
theorem Zoi:MtM X "list.append" rAppend:=by
 intro pins s σ H x vs v us Q I rx rv h
 obtain⟨l,xs,y,rfl,rfl,hH,hz,q⟩:=h
 cases rx
 obtain⟨u,rfl,ru⟩:=rv.one
 obtain⟨z,its,n,r,hl,e⟩:=I.lstM hH
 refine call_meets F.slot_list_append ⟨_,e,rfl⟩ F.entry_list_append (F.args_list_append_2 _ _) (PySem.list_append l its.toArray n u (by rw[xL];lia)) ⟨e,?_⟩
 refine⟨.non,_,I.lset (its':=its ++ [u]) hH e (by simp) (r.append (.cons ru .nil)) ?_,rfl,q⟩
 rw[xC,List.length_singleton]
 lia
inductive rExtend (x:V) (vs:List V) (H:Hp) (Q:VK):Prop
 | mk (l b xs zs) (h0:x = .ref l) (h1:vs = [.ref b]) (h2:H l=some (.lst xs)) (h3:H b=some (.lst zs)) (h4:xs.length+zs.length<=sizeLine) (h5:Q .non (upd H l (.lst (xs++zs))))
inductive rPop (x:V) (vs:List V) (H:Hp) (Q:VK):Prop
 | mk (l xs y) (h0:x = .ref l) (h1:vs = []) (h2:H l=some (.lst xs)) (h3:xs[xs.length - 1]? = some y) (h4:Q y (upd H l (.lst xs.dropLast)))
inductive rPopAt (x:V) (vs:List V) (H:Hp) (Q:VK):Prop
 | mk (l xs i k y) (h0:x = .ref l) (h1:vs = [.int i]) (h2:H l=some (.lst xs)) (h3 : -(2 ^ 63)<=i) (h4:i < 2 ^ 63) (h5:seqIndex? i xs.length=some k) (h6:xs[k]? = some y) (h7:Q y (upd H l (.lst (xs.eraseIdx k))))
inductive rReverse (x:V) (vs:List V) (H:Hp) (Q:VK):Prop
 | mk (l xs) (h0:x = .ref l) (h1:vs = []) (h2:H l=some (.lst xs)) (h3:Q .non (upd H l (.lst xs.reverse)))
inductive rClear (x:V) (vs:List V) (H:Hp) (Q:VK):Prop
 | mk (l xs) (h0:x = .ref l) (h1:vs = []) (h2:H l=some (.lst xs)) (h3:Q .non (upd H l (.lst [])))
inductive rCat (x:V) (y:V) (H:Hp) (Q:VK):Prop
 | mk (l b xs zs) (h0:x = .ref l) (h1:y = .ref b) (h2:H l=some (.lst xs)) (h3:H b=some (.lst zs)) (h4:xs.length+zs.length<=sizeLine) (h5:∀p,H p=none->Q (.ref p) (upd H p (.lst (xs++zs))))
theorem Zt2:OpR X (binaryOp .Add) rCat:=by
 intro pins s σ H x y v u Q I rx ry h
 obtain⟨l,b,xs,zs,rfl,rfl,hH,hB,hz,q⟩:=h
 cases rx
 cases ry
 obtain⟨z,its,n,r,hl,e⟩:=I.lstM hH
 obtain⟨z2,its2,n2,r2,hl2,e2⟩:=I.lstM hB
 refine PySem.P.add_list e e2 ?_ (by rw[xL,xL];lia)
 have ea:its.toArray++its2.toArray=(its++its2).toArray:=by simp
 rw[ea]
 exact⟨.ref _,_,I.lnew (t':=s.toks) (r.append r2) (by rw[xC];lia),rfl,q _ I.fresh⟩
inductive rRep (x:V) (y:V) (H:Hp) (Q:VK):Prop
 | mk (l k xs) (h0:x = .ref l) (h1:y = .int k) (h2:H l=some (.lst xs)) (h3 : -(2 ^ 63)<=k) (h4:k < 2 ^ 63) (h5:xs.length * k.toNat<=sizeLine) (h6:∀p,H p=none->Q (.ref p) (upd H p (.lst (List.replicate k.toNat xs).flatten)))
theorem Zi2{α:Type}(xs:List α)(k:Nat):(List.replicate k xs).flatten.length=k * xs.length:=by
 induction k with
 | zero=>simp
 | succ k ih=>rw[zQ,zV,xC,ih,Nat.succ_mul,Nat.add_comm]
theorem Zt3:OpR X (binaryOp .Mult) rRep:=by
 intro pins s σ H x y v u Q I rx ry h
 obtain⟨l,k,xs,rfl,rfl,hH,h1,h2,hz,q⟩:=h
 cases rx
 obtain⟨t,rfl⟩:=ry
 obtain⟨z,its,n,r,hl,e⟩:=I.lstM hH
 have hlen:its.toArray.size * k.toNat<=sizeLine:=by rw[xL,← hl];exact hz
 have hcap:¬its.toArray.size * k.toNat > (2 ^ 63 - 1) / 8:=by
  have:(sizeLine:Nat)<=(2 ^ 63 - 1) / 8:=by decide
  lia
 have hfit:¬(!Builtin.List.listFitsIndex k)=true:=by
  rw[fitsIndex_both h1 h2]
  exact xH
 have hlong:¬Builtin.List.listTooLong (its.toArray.size * k.toNat)=true:=by
  rw[Zpi hlen]
  exact xH
 have hnew:List.foldl (fun x1 x2=>x1++x2) #[] (List.replicate (if its.toArray.isEmpty=true then 0 else k.toNat) its.toArray)=(List.replicate k.toNat its).flatten.toArray:=by
  have f0:∀m:Nat,List.foldl (fun x1 x2=>x1++x2) #[] (List.replicate m its.toArray)=(List.replicate m its).flatten.toArray:=fun m=>by
   have:=Zh1 its m []
   rw[zT] at this
   exact this
  rw[f0]
  cases its with
  | nil=>simp
  | cons a r'=>rw[if_neg (by simp)]
 refine wpAny_binaryOp_repeat_ref (T:="list") (U:="int") (by decide) ⟨_,e,rfl⟩ (fun s'=>typeIs_int s' k t) noFill_list_mul F.fills_int_mul F.slot_int_rmul repeat_list F.slot_int_index.lookup
  (call_meets F.slot_int_rmul (typeIs_int s k t) F.entry_int_rmul (F.args_int_rmul_2 _ _) (int___rmul___int_list k t l its.toArray n)
   ⟨e,rfl,⟨_,e,rfl⟩,call_meets F.slot_list_mul ⟨_,e,rfl⟩ F.entry_list_mul (F.args_list_mul_2 _ _) (AutoListH.list___mul___list_int_3 l its.toArray n k t hfit hcap hlong) ⟨e,?_⟩⟩)
 rw[hnew]
 exact⟨.ref _,_,I.lnew (t':=s.toks) (r.rep k.toNat) (by rw[Zi2,Nat.mul_comm];exact hz),rfl,q _ I.fresh⟩
end
section
variable{prog:Program}{w:World}{A:Around}{E:Value->Shared->Prop}{s:Shared}
set_option maxRecDepth 100000 in
end
section
variable{X:Cx}
end
end L2
namespace L2
open PySem PySem.Spec PyProof.Rows
section
variable{κ:Type} [DecidableEq κ]
def Z3(kvs:List (κ×V))(k : κ):Option V:=(kvs.find? fun kv=>decide (kv.1=k)).map (·.2)
def Z2(kvs:List (κ×V))(k : κ)(v:V):List (κ×V) :=
 if (kvs.any fun kv=>decide (kv.1=k))=true then kvs.map (fun kv=>if kv.1=k then (kv.1,v) else kv) else kvs ++ [(k,v)]
def Ze2(kvs:List (κ×V))(k : κ):List (κ×V):=kvs.filter fun kv=>decide (kv.1≠k)
theorem Vy{p : κ×V}{r:List (κ×V)}{k : κ}(e:p.1=k):Z3 (p::r) k=some p.2:=by simp[Z3,zU,e]
theorem Vz{p : κ×V}{r:List (κ×V)}{k : κ}(e:¬p.1=k):Z3 (p::r) k=Z3 r k:=by simp[Z3,zU,e]
theorem Zb7(k : κ):∀kvs:List (κ×V),(kvs.any fun kv=>decide (kv.1=k))=(Z3 kvs k).isSome
 | []=>rfl
 | p::r=>by
  rw[List.any_cons]
  by_cases e:p.1=k
  ·simp only[Vy e,xW e,Bool.true_or,Option.isSome_some]
  ·rw[Vz e,xT e,Bool.false_or];exact Zb7 k r
theorem Zif(k j : κ)(y:V):∀kvs:List (κ×V),Z3 (kvs.map fun kv=>if kv.1=k then (kv.1,y) else kv) j=(Z3 kvs j).map fun x=>if j=k then y else x
 | []=>rfl
 | p::r=>by
  have ih:=Zif k j y r
  rw[xU]
  by_cases h:p.1=k
  ·rw[if_pos h]
   by_cases e:p.1=j
   ·rw[Vy (p:=(p.1,y)) e,Vy e,Option.map_some,if_pos (e.symm.trans h)]
   ·rw[Vz (p:=(p.1,y)) e,Vz e,ih]
  ·rw[if_neg h]
   by_cases e:p.1=j
   ·rw[Vy (p:=p) e,Vy e,Option.map_some,if_neg (fun z=>h (e.trans z))]
   ·rw[Vz (p:=p) e,Vz e,ih]
theorem Zh2(k j : κ)(y:V):∀kvs:List (κ×V),Z3 kvs k=none->Z3 (kvs ++ [(k,y)]) j=if j=k then some y else Z3 kvs j
 | [],_=>by
  by_cases e:k=j
  ·rw[if_pos e.symm];exact Vy (p:=(k,y)) e
  ·rw[if_neg (fun z=>e z.symm)];exact Vz (p:=(k,y)) e
 | p::r,hn=>by
  rw[yG]
  have hk:¬p.1=k:=fun z=>by rw[Vy z] at hn;cases hn
  rw[Vz hk] at hn
  have ih:=Zh2 k j y r hn
  by_cases e:p.1=j
  ·rw[Vy e,Vy e,if_neg (fun z=>hk (e.trans z))]
  ·rw[Vz e,Vz e,ih]
theorem Za7(kvs:List (κ×V))(k j : κ)(y:V):Z3 (Z2 kvs k y) j=if j=k then some y else Z3 kvs j:=by
 unfold Z2
 by_cases a:(kvs.any fun kv=>decide (kv.1=k))=true
 ·rw[if_pos a,Zif]
  rw[Zb7] at a
  by_cases e:j=k
  ·obtain⟨x,hx⟩:=zG.mp a
   rw[if_pos e,e,hx,Option.map_some,if_pos rfl]
  ·rw[if_neg e]
   cases Z3 kvs j with
   | none=>rfl
   | some x=>rw[Option.map_some,if_neg e]
 ·rw[if_neg a]
  refine Zh2 k j y kvs ?_
  rw[Zb7] at a
  cases q:Z3 kvs k with
  | none=>rfl
  | some x=>rw[q] at a;exact(a rfl).elim
theorem Um(kvs:List (κ×V))(k : κ)(v:V):(Z2 kvs k v).length<=kvs.length+1:=by
 unfold Z2
 split
 ·rw[xA];lia
 ·rw[xC,xY,List.length_nil];lia
theorem Zpj{kvs:List (κ×V)}{k : κ}(v:V)(h:Z3 kvs k=none):Z2 kvs k v=kvs ++ [(k,v)]:=by
 unfold Z2
 rw[Zb7,h]
 exact if_neg (by decide)
theorem RelO.isSome_eq{o:Option V}{u:Option Value}(r:RelO o u):o.isSome=u.isSome:=by
 cases o with
 | none=>cases u with
  | none=>rfl
  | some _=>exact(show False from r).elim
 | some _=>cases u with
  | none=>exact(show False from r).elim
  | some _=>rfl
theorem KV.val{kvs:List (κ×V)}{vs:List (κ×Value)}(r:KV kvs vs)(k : κ):RelO (Z3 kvs k) (valueAt vs k):=by
 unfold KV at r
 induction r with
 | nil=>exact True.intro
 | @cons p q ps qs h t ih =>
  obtain⟨h1,h2⟩:=h
  by_cases e:p.1=k
  ·have e':q.1=k:=h1.symm.trans e
   have b:valueAt (q::qs) k=some q.2:=by simp[valueAt,zU,e']
   rw[Vy e,b];exact h2
  ·have e':¬q.1=k:=fun z=>e (h1.trans z)
   have b:valueAt (q::qs) k=valueAt qs k:=by simp[valueAt,zU,e']
   rw[Vz e,b];exact ih
theorem KV.any{kvs:List (κ×V)}{vs:List (κ×Value)}(r:KV kvs vs)(k : κ):(kvs.any fun kv=>decide (kv.1=k))=vs.any fun kv=>decide (kv.1=k):=by
 unfold KV at r
 induction r with
 | nil=>rfl
 | cons h t ih=>rw[List.any_cons,List.any_cons,ih,h.1]
theorem KV.repl{kvs:List (κ×V)}{vs:List (κ×Value)}(r:KV kvs vs)(k : κ){y:V}{u:Value}(ry:RelV y u) :
  KV (kvs.map fun kv=>if kv.1=k then (kv.1,y) else kv) (vs.map fun kv=>if kv.1=k then (kv.1,u) else kv):=by
 unfold KV at r ⊢
 induction r with
 | nil=>exact .nil
 | @cons p q ps qs h t ih =>
  rw[xU,xU]
  refine .cons ?_ ih
  obtain⟨h1,h2⟩:=h
  by_cases e:p.1=k
  ·rw[if_pos e,if_pos (h1.symm.trans e)];exact⟨h1,ry⟩
  ·rw[if_neg e,if_neg (fun z=>e (h1.trans z))];exact⟨h1,h2⟩
theorem KV.put{kvs:List (κ×V)}{vs:List (κ×Value)}(r:KV kvs vs)(k : κ){y:V}{u:Value}(ry:RelV y u):KV (Z2 kvs k y) (stored vs k u):=by
 unfold Z2 stored
 rw[r.any k]
 by_cases e:(vs.any fun kv=>decide (kv.1=k))=true
 ·rw[if_pos e,if_pos e];exact r.repl k ry
 ·rw[if_neg e,if_neg e];exact Paired.snoc r ⟨rfl,ry⟩
theorem KV.length{kvs:List (κ×V)}{vs:List (κ×Value)}(r:KV kvs vs):kvs.length=vs.length:=Paired.length r
end
theorem Zbk{P:Program}{w:World}{k:Key}{u:Value}(r:RelV (kV k) u):(Wr P w).is k u=true:=by
 cases k with
 | inl i=>obtain⟨t,e⟩:=(show ∃t,u=Value.int i t from r);subst e;exact Znc P w i t
 | inr x=>obtain⟨t,e⟩:=(show ∃t,u=Value.str x t from r);subst e;exact Znd P w x t
theorem Zh3{P:Program}{w:World}:∀{ks:List Key}{us:List Value},Vals (ks.map kV) us->ItemsAre (Wr P w) ks us
 | [],_,r=>by rw[zD] at r;cases r;exact .nil
 | k::ks,_,r=>by
  rw[xU] at r
  cases r with
  | cons h t=>exact .cons (Zbk h) (Zh3 t)
abbrev KT(H:Hp):List (List Key×V)->List (List Key×Addr×Value)->Prop:=Paired fun p q=>p.1=q.1/\H q.2.1=some (.tup (p.1.map kV))/\RelV p.2 q.2.2
theorem KT.val{H:Hp}{kvs:List (List Key×V)}{xs:List (List Key×Addr×Value)}(r:KT H kvs xs)(k:List Key):RelO (Z3 kvs k) ((atKey xs k).map (·.2)):=by
 induction r with
 | nil=>exact True.intro
 | @cons p q ps qs h t ih =>
  obtain⟨h1,_,h2⟩:=h
  by_cases e:p.1=k
  ·have e':q.1=k:=h1.symm.trans e
   have b:atKey (q::qs) k=some q.2:=by simp[atKey,zU,e']
   rw[Vy e,b];exact h2
  ·have e':¬q.1=k:=fun z=>e (h1.trans z)
   have b:atKey (q::qs) k=atKey qs k:=by simp[atKey,zU,e']
   rw[Vz e,b];exact ih
theorem KT.repl{H:Hp}{kvs:List (List Key×V)}{xs:List (List Key×Addr×Value)}(r:KT H kvs xs)(k:List Key){y:V}{u:Value}(ry:RelV y u) :
  KT H (kvs.map fun kv=>if kv.1=k then (kv.1,y) else kv) (xs.map (putAt k u)):=by
 induction r with
 | nil=>exact .nil
 | @cons p q ps qs h t ih =>
  rw[xU,xU]
  refine .cons ?_ ih
  obtain⟨h1,h2,h3⟩:=h
  unfold putAt
  by_cases e:p.1=k
  ·rw[if_pos e,if_pos (h1.symm.trans e)];exact⟨h1,h2,ry⟩
  ·rw[if_neg e,if_neg (fun z=>e (h1.trans z))];exact⟨h1,h2,h3⟩
theorem KT.put{H:Hp}{kvs:List (List Key×V)}{xs:List (List Key×Addr×Value)}(r:KT H kvs xs)(k:List Key){b:Addr}{y:V}{u:Value}(hb:H b=some (.tup (k.map kV)))(ry:RelV y u) :
  KT H (Z2 kvs k y) (storedH xs k b u):=by
 have e:(kvs.any fun kv=>decide (kv.1=k))=(atKey xs k).isSome:=by
  rw[Zb7,(r.val k).isSome_eq,Option.isSome_map]
 unfold Z2 storedH
 rw[e]
 by_cases q:(atKey xs k).isSome=true
 ·rw[if_pos q,if_pos q];exact r.repl k ry
 ·rw[if_neg q,if_neg q];exact Paired.snoc r ⟨rfl,hb,ry⟩
theorem KT.keeps{H H':Hp}{kvs:List (List Key×V)}{xs:List (List Key×Addr×Value)}(r:KT H kvs xs)(ht:∀b ys,H b=some (.tup ys)->H' b=some (.tup ys)):KT H' kvs xs :=
 Paired.mapP r fun _ _ z=>⟨z.1,ht _ _ z.2.1,z.2.2⟩
section
variable{P:Program}{w:World}{H:Hp}{h:Heap}{a:Addr}
theorem Zkd{u:HO}(ok:HOk P w H h)(e:Rd H a u):ObjOk P w H h a u:=e.ok ok
theorem Zbl{kvs:List (Key×V)}(ok:HOk P w H h)(e:Rd H a (.dK kvs)):kvs.length<=sizeLine/\(a == sysModules)=false/\∃vs,KV kvs vs/\h.DictOf (Wr P w) a vs :=
 show ObjOk P w H h a (.dK kvs) from Zkd ok e
theorem Zke{kvs:List (Key×V)}(ok:HOk P w H h)(e:H a=some (.dK kvs)):kvs.length<=sizeLine/\(a == sysModules)=false/\∃vs,KV kvs vs/\h.DictOf (Wr P w) a vs:=Zbl ok (.inl e)
theorem Zce{ks:List Key}(ok:HOk P w H h)(e:H a=some (.tup (ks.map kV))):(tupleKind (Wr P w)).is h ks a:=by
 obtain⟨_,its,r,o,h1,h2,n,h3⟩:=(show ObjOk P w H h a (.tup (ks.map kV)) from ok a _ e)
 exact⟨o,its.toArray,n,h1,h2,h3,by simpa using Zh3 r⟩
theorem Zci{kvs:List (List Key×V)}(ok:HOk P w H h)(e:Rd H a (.dT kvs)):kvs.length<=sizeLine/\(a == sysModules)=false /\
  ∃xs,KT H kvs xs/\h.DictOfH (tupleKind (Wr P w)) a xs:=by
 obtain⟨z,y,xs,r,o,es,ep,h1,h2,h3,h4,h5⟩:=(show ObjOk P w H h a (.dT kvs) from Zkd ok e)
 refine⟨z,y,xs,r,o,es,ep,h1,h2,h3,h4,fun x hx=>?_,h5⟩
 have all:∀{l:List (List Key×V)}{m:List (List Key×Addr×Value)},KT H l m->∀x∈m,(tupleKind (Wr P w)).is h x.1 x.2.1:=by
  intro l m q
  induction q with
  | nil=>intro x hx;exact nomatch hx
  | @cons p q ps qs hq t ih =>
   intro x hx
   rcases xE.mp hx with e | hx
   ·subst e
    exact Zce ok (by rw[← hq.1];exact hq.2.1)
   ·exact ih x hx
 exact all r x hx
theorem Zvd{kvs:List (List Key×V)}(ok:HOk P w H h)(e:H a=some (.dT kvs)):kvs.length<=sizeLine/\(a == sysModules)=false /\
  ∃xs,KT H kvs xs/\h.DictOfH (tupleKind (Wr P w)) a xs:=Zci ok (.inl e)
end
def DGet(H:Hp)(a:Addr)(y:V)(r:Option V):Prop :=
 (∃kvs k,Rd H a (.dK kvs)/\y=kV k/\r=Z3 kvs k)\/∃kvs k b,Rd H a (.dT kvs)/\y = .ref b/\H b=some (.tup (k.map kV))/\r=Z3 kvs k
def DPut(H:Hp)(a:Addr)(y v:V)(H':Hp):Prop :=
 (∃kvs k,H a=some (.dK kvs)/\y=kV k/\kvs.length < sizeLine/\H'=upd H a (.dK (Z2 kvs k v)))\/
 ∃kvs k b,H a=some (.dT kvs)/\y = .ref b/\H b=some (.tup (k.map kV))/\kvs.length < sizeLine/\H'=upd H a (.dT (Z2 kvs k v))
theorem DGet.k{H:Hp}{a:Addr}{kvs:List (Key×V)}{k:Key}(e:H a=some (.dK kvs)):DGet H a (kV k) (Z3 kvs k):=.inl ⟨kvs,k,.inl e,rfl,rfl⟩
theorem DPut.k{H:Hp}{a:Addr}{kvs:List (Key×V)}{k:Key}{v:V}(e:H a=some (.dK kvs))(hl:kvs.length < sizeLine):DPut H a (kV k) v (upd H a (.dK (Z2 kvs k v))):=.inl ⟨kvs,k,e,rfl,hl,rfl⟩
section
variable{X:Cx}{pins:List (Addr×Obj)}{σ:St}{H:Hp}{s:Shared}{a:Addr}{y v:V}{u r:Value}{o:Option V}{A:Around}{E:Value->Shared->Prop}
theorem Inv.big(I:Inv X pins σ H s):sysModules < s.heap.objs.size:=by
 have h:mainGlobals < s.heap.objs.size:=(I.mod.glob.keeps I.bk).lt
 exact Nat.lt_trans (by decide) h
theorem Zoj{Q:Value->Shared->Prop}(hu:A.units+1 < cLine)(I:Inv X pins σ H s)(g:DGet H a y (some v))(ry:RelV y u)(h:∀w' s',Inv X pins σ H s'->RelV v w'->Q w' s') :
  wpAny (model X.prog X.w) A (getItem (.ref a) u) Q E s:=by
 rcases g with⟨kvs,k,e,ey,l⟩ | ⟨kvs,k,b,e,ey,eb,l⟩
 ·subst ey
  obtain⟨z,hd,vs,rel,dd⟩:=Zbl I.hok e
  obtain⟨w',hw,rw'⟩:=RelO.some_of (v:=v) (o:=valueAt vs k) (by rw[l];exact rel.val k)
  exact wpAny_getItem_of (Zbk ry) dd.mapOf hw (h w' _ (I.tok _) rw')
 ·subst ey
  cases (show u=Value.ref b from ry)
  obtain⟨z,hd,xs,rel,dd⟩:=Zci I.hok e
  obtain⟨w',hw,rw'⟩:=RelO.some_of (v:=v) (o:=(atKey xs k).map (·.2)) (by rw[l];exact rel.val k)
  obtain⟨p,hp,hp2⟩:=xN.mp hw
  refine wpAny_getItem_heap (tupleKind_room_in1 hu) (Zce I.hok eb) dd hp ?_
  rw[hp2]
  exact h w' _ (I.tok _) rw'
theorem Zye{Q:Value->Shared->Prop}(hu:A.units+1 < cLine)(I:Inv X pins σ H s)(g:DGet H a y o)(ry:RelV y u)(h:∀s',Inv X pins σ H s'->Q (.bool o.isSome) s') :
  wpAny (model X.prog X.w) A (compareOp .In u (.ref a)) Q E s:=by
 rcases g with⟨kvs,k,e,ey,l⟩ | ⟨kvs,k,b,e,ey,eb,l⟩
 ·subst ey
  obtain⟨z,hd,vs,rel,dd⟩:=Zbl I.hok e
  refine wpAny_in_of (Zbk ry) hd dd.mapOf ?_
  rw[← (rel.val k).isSome_eq,← l]
  exact h _ (I.tok _)
 ·subst ey
  cases (show u=Value.ref b from ry)
  obtain⟨z,hd,xs,rel,dd⟩:=Zci I.hok e
  refine wpAny_in_heap (tupleKind_room_in1 hu) (Zce I.hok eb) hd dd ?_
  have q:=(rel.val k).isSome_eq
  rw[Option.isSome_map] at q
  rw[← q,← l]
  exact h _ (I.tok _)
theorem Zrw{Q:Value->Shared->Prop}(hu:A.units+1 < cLine)(I:Inv X pins σ H s)(g:DGet H a y o)(ry:RelV y u)(h:∀s',Inv X pins σ H s'->Q (.bool (!o.isSome)) s') :
  wpAny (model X.prog X.w) A (compareOp .NotIn u (.ref a)) Q E s:=by
 rcases g with⟨kvs,k,e,ey,l⟩ | ⟨kvs,k,b,e,ey,eb,l⟩
 ·subst ey
  obtain⟨z,hd,vs,rel,dd⟩:=Zbl I.hok e
  refine wpAny_notIn_of (Zbk ry) hd dd.mapOf ?_
  rw[← (rel.val k).isSome_eq,← l]
  exact h _ (I.tok _)
 ·subst ey
  cases (show u=Value.ref b from ry)
  obtain⟨z,hd,xs,rel,dd⟩:=Zci I.hok e
  refine wpAny_notIn_heap (tupleKind_room_in1 hu) (Zce I.hok eb) hd dd ?_
  have q:=(rel.val k).isSome_eq
  rw[Option.isSome_map] at q
  rw[← q,← l]
  exact h _ (I.tok _)
theorem Zej{h':Heap}{t':Nat}{ob:HO}(I:Inv X pins σ H s)(mu:Mut (H a))(hs:Heap.SameBut a s.heap h')(he:∃q,h'.get? a=some q)(new:ObjOk X.prog X.w (upd H a ob) h' a ob) :
  Inv X pins σ (upd H a ob) {s with heap:=h',toks:=t' } :=
 I.write (x:=a) (e:=a) mu (.inl rfl) (fun b q hb z=>(hs.2 b hb).trans z) he new
theorem Zjq{P:Program}{w:World}{H':Hp}{h':Heap}{kvs:List (Key×V)}{vs:List (Key×Value)}(z:kvs.length<=sizeLine)(hd:(a == sysModules)=false)(rel:KV kvs vs)(dd:h'.DictOf (Wr P w) a vs) :
  ObjOk P w H' h' a (.dK kvs):=⟨z,hd,vs,rel,dd⟩
theorem Zok{H':Hp}{Q:Unit->Shared->Prop}(hu:A.units+1 < cLine)(I:Inv X pins σ H s)(g:DPut H a y v H')(ry:RelV y u)(rv:RelV v r)(h:∀s',Inv X pins σ H' s'->Q () s') :
  wpAny (model X.prog X.w) A (setItem (.ref a) u r) Q E s:=by
 rcases g with⟨kvs,k,e,ey,l,eH⟩ | ⟨kvs,k,b,e,ey,eb,l,eH⟩
 ·subst ey eH
  obtain⟨z,hd,vs,rel,dd⟩:=Zke I.hok e
  have hz:vs.length<=sizeLine:=by rw[← rel.length];exact z
  have hl:(Z2 kvs k v).length<=sizeLine:=by have:=Um kvs k v;lia
  refine wpAny_setItem_pairs (hsz:=hz) (Zbk ry) dd fun h' dd' hs=>h _ ?_
  have he:∃q,h'.get? a=some q:=let ⟨q,_,_,hq,_⟩:=dd';⟨q,hq⟩
  exact Zej I (by rw[e];exact True.intro) hs he (Zjq hl hd (rel.put k rv) dd')
 ·subst ey eH
  cases (show u=Value.ref b from ry)
  obtain⟨z,hd,xs,rel,dd⟩:=Zvd I.hok e
  have hz:xs.length<=sizeLine:=by rw[← Paired.length rel];exact z
  have hl:(Z2 kvs k v).length<=sizeLine:=by have:=Um kvs k v;lia
  refine wpAny_setItem_heap (hsz:=hz) (tupleKind_room_in1 hu) (Zce I.hok eb) dd fun h' dd' hs=>h _ ?_
  obtain⟨q,es,ep,hq,h2,h3,h4,_,h5⟩:=dd'
  refine Zej I (by rw[e];exact True.intro) hs ⟨q,hq⟩ ⟨hl,hd,_,(rel.put k eb rv).keeps fun c ys ec=>?_,q,es,ep,hq,h2,h3,h4,h5⟩
  rw[Zf (Zux ec e (fun z=>nomatch z))]
  exact ec
end
section
variable{X:Cx}{pins:List (Addr×Obj)}{σ:St}{H:Hp}{s:Shared}{a:Addr}{kvs:List (Key×V)}{k:Key}{u:Value}{A:Around}{E:Value->Shared->Prop}
theorem Zve{Q:Value->Shared->Prop}(I:Inv X pins σ H s)(e:Rd H a (.dK kvs))(h:∀t s',Inv X pins σ H s'->Q (.int kvs.length t) s'):wpAny (model X.prog X.w) A (call (.builtin "len") [.ref a]) Q E s:=by
 obtain⟨z,hd,vs,rel,dd⟩:=Zbl I.hok e
 refine call_len_dict hd dd (by rw[← rel.length];rw[sizeLine_eq] at z;lia) ?_
 rw[← rel.length]
 exact h _ _ (I.tok _)
end
def Zg2(i:Expr):Prop:=∀ov iv,subscripted i false ov iv=operate [ov,iv] (getItem ov iv)
theorem Zrx{prog:Program}{w:World}{A:Around}{E:Value->Shared->Prop}{s:Shared}{env:Env}{value slice:Expr}{pos:Pos}{T id:String}{Q:Value->Shared->Prop}(hl:typeLookup (.type T) "__getitem__" = pure (some (.builtin id)))(hs:Zg2 slice)(h:wpAny (model prog w) A (eval value env) (fun o s₁=>wpAny (model prog w) A (eval slice env) (fun i s₂=>s₂.TypeIs o T/\wpAny (model prog w) A (getItem o i) Q E s₂) E s₁) E s) :
  wpAny (model prog w) A (eval (.Subscript value slice pos) env) Q E s:=by
 refine Subscript_ (wpAny_mono h (fun o s₁ h₁=>wpAny_mono h₁ (fun i s₂ h₂=>?_) fun _ _ x=>x) fun _ _ x=>x)
 obtain⟨hT,h₂⟩:=h₂
 unfold subscriptTail
 refine wpAny_bind ?_
 rw[getitemInPython_of_ne hT.not_modules]
 refine wpAny_bind (wpAny_specialOf hT hl ?_)
 have fin:wpAny (model prog w) A (subscripted slice false o i) (fun r s₃=>wpAny (model prog w) A (letTemporaryGo value o r >>= fun _=>pure r) Q E s₃) E s₂:=by
  rw[hs o i]
  exact wpAny_operating (wpAny_mono h₂ (fun r s₃ h₃=>wpAny_bind (wpAny_letTemporaryGo (wpAny_pure h₃))) fun _ _ x=>x)
 first
  | exact wpAny_pure (wpAny_bind fin)
  | exact wpAny_bind (wpAny_pure (wpAny_bind fin))
  | exact wpAny_bind fin
theorem Zne{X:Cx}{pins:List (Addr×Obj)}{σ:St}{H:Hp}{s:Shared}{a:Addr}{y:V}{o:Option V}(I:Inv X pins σ H s)(g:DGet H a y o):s.TypeIs (.ref a) "dict" := by
 rcases g with⟨kvs,k,e,_,_⟩ | ⟨kvs,k,b,e,_,_,_⟩
 ·obtain⟨_,_,vs,_,dd⟩:=Zbl I.hok e
  exact dd.typeIs
 ·obtain⟨_,_,xs,_,dd⟩:=Zci I.hok e
  exact dd.typeIs
inductive tDGet_ (Q:VK) (x:V) (y:V) (H2:Hp):Prop
 | mk (a v) (h0:x = .ref a) (h1:DGet H2 a y (some v)) (h2:Q v H2)
def Zkf(td ty:TE):TE:=fun σ H Q=>td σ H fun x H1=>ty σ H1 fun y H2=>tDGet_ Q x y H2
inductive tDIn_ (Q:VK) (y:V) (x:V) (H2:Hp):Prop
 | mk (a o) (h0:x = .ref a) (h1:DGet H2 a y o) (h2:Q (.bl o.isSome) H2)
inductive tDNotIn_ (Q:VK) (y:V) (x:V) (H2:Hp):Prop
 | mk (a o) (h0:x = .ref a) (h1:DGet H2 a y o) (h2:Q (.bl (!o.isSome)) H2)
inductive sDPut_ (D:Ends) (σ:St) (v:V) (x:V) (y:V) (H3:Hp):Prop
 | mk (a H4) (h0:x = .ref a) (h1:DPut H3 a y v H4) (h2:D.nx σ H4)
def Zkg(td ty tv:TE):TS:=fun D σ H=>tv σ H fun v H1=>td σ H1 fun x H2=>ty σ H2 fun y H3=>sDPut_ D σ v x y H3
inductive sDAug_ (tv:TE) (rd:V->V->Hp->VK->Prop) (D:Ends) (σ:St) (x:V) (y:V) (H2:Hp):Prop
 | mk (a v) (h0:x = .ref a) (h1:DGet H2 a y (some v)) (h2:tv σ H2 fun y2 H3=>rd v y2 H3 fun z H4=>∃H5,DPut H4 a y z H5/\D.nx σ H5)
inductive sDDel_ (D:Ends) (σ:St) (x:V) (y:V) (H2:Hp):Prop
 | mk (a kvs k) (h0:x = .ref a) (h1:H2 a=some (.dK kvs)) (h2:y=kV k) (h3:(Z3 kvs k).isSome=true) (h4:D.nx σ (upd H2 a (.dK (Ze2 kvs k))))
section
variable{X:Cx}{o i e value:Expr}{pos pos' tpos:Pos}{td ty tv:TE}
theorem Zry(hu:X.A.units+1 < cLine)(ho:PE X o td)(hi:PE X i ty)(hs:Zg2 i):PE X (.Subscript o i pos) (Zkf td ty):=by
 intro pins s σ H Q I h
 refine Zrx PySem.F.slot_dict_getitem.lookup hs (thn (ho pins s σ H _ I h) fun u s1 ⟨x,H1,I1,rx,q1⟩=>thn (hi pins s1 σ H1 _ I1 q1) fun iv s2 ⟨y,H2,I2,ry,a,v,ex,g,q2⟩=>?_)
 subst ex
 obtain rfl:u=Value.ref a:=rx
 exact⟨Zne I2 g,Zoj hu I2 g ry fun w' s3 I3 rw'=>⟨v,H2,I3,rw',q2⟩⟩
theorem Zrz(hu:X.A.units+1 < cLine)(ho:PE X o td)(hi:PE X i ty)(hv:PE X value tv)(hs:swapsWith value (some (.Subscript o i pos')) pos.line X.env=pure false) :
  PS X (.Assign [.Subscript o i pos'] value pos) (Zkg td ty tv):=by
 intro pins s σ H D I h
 refine wpAny_Assign_Subscript (thn (hv pins s σ H _ I h) fun r s1 ⟨v,H1,I1,rv,q1⟩=>thn (ho pins s1 σ H1 _ I1 q1) fun u s2 ⟨x,H2,I2,rx,q2⟩=>thn (hi pins s2 σ H2 _ I2 q2) fun iv s3 ⟨y,H3,I3,ry,a,H4,ex,g,q3⟩=>?_) hs
 subst ex
 obtain rfl:u=Value.ref a:=rx
 exact Zok hu I3 g ry rv fun s4 I4=>⟨σ,H4,I4,q3⟩
end
theorem Zig{P:Program}{w:World}{H:Hp}(h:Heap)(hb:sysModules < h.objs.size):ObjOk P w H (h.push {cls:=.type "dict", data:=.dict #[] }) h.objs.size (.dK []) :=
 ⟨yQ _,beq_eq_false_iff_ne.mpr (Ne.symm (yM hb)),[],.nil,Heap.DictOf.new h⟩
def Zjr:TE:=fun _ H Q=>∀p,H p=none->Q (.ref p) (upd H p (.dK []))
section
variable{X:Cx}{pos:Pos}
theorem Zpk:PE X (.Dict [] [] pos) Zjr:=fun pins s σ H Q I h =>
 wpAny_Dict_empty ⟨.ref s.heap.objs.size,_,I.laid (a:=s.heap.objs.size) (o:=.dK []) (t':=s.toks) (fun _ _ q=>xI _ q) (xK _) (Zig s.heap I.big),rfl,h _ (I.hok.fresh (xK _))⟩
end
def Zev:List (TE×TE)->St->Hp->(List (V×V)->Hp->Prop)->Prop
 | [],_,H,Q=>Q [] H
 | (tk,tv)::r,σ,H,Q=>tk σ H fun x H1=>tv σ H1 fun y H2=>Zev r σ H2 fun ps H3=>Q ((x,y)::ps) H3
abbrev VV:List (V×V)->List (Value×Value)->Prop:=Paired fun p q=>RelV p.1 q.1/\RelV p.2 q.2
def PPs(X:Cx)(pos:Pos)(keys:List (Option Expr))(values:List Expr)(trs:List (TE×TE)):Prop :=
 ∀(pins:List (Addr×Obj))(s:Shared)(σ:St)(H:Hp)(Q:List (V×V)->Hp->Prop),Inv X pins σ H s->Zev trs σ H Q ->
  wpAny (model X.prog X.w) X.A (evalPairs (pairTrees keys values X.env pos)) (fun vs s'=>∃ps H',Inv X pins σ H' s'/\VV ps vs/\Q ps H') X.xe s
theorem Zi3{X:Cx}{pos:Pos}:PPs X pos [] [] []:=fun pins s σ H Q I h=>pairTrees_nil_walk ⟨[],H,I,.nil,h⟩
theorem Zih{X:Cx}{pos:Pos}{k v:Expr}{ks:List (Option Expr)}{vs:List Expr}{tk tv:TE}{trs:List (TE×TE)}(hk:PE X k tk)(hv:PE X v tv)(hr:PPs X pos ks vs trs) :
  PPs X pos (some k::ks) (v::vs) ((tk,tv)::trs):=fun pins s σ H Q I h =>
 pairTrees_cons_walk (thn (hk pins s σ H _ I h) fun u s1 ⟨x,H1,I1,rx,q1⟩=>thn (hv pins s1 σ H1 _ I1 q1) fun w2 s2 ⟨y,H2,I2,ry,q2⟩=>
  thn (hr pins s2 σ H2 _ I2 q2) fun ws s3 ⟨ps,H3,I3,rel,q3⟩=>⟨(x,y)::ps,H3,I3,.cons ⟨rx,ry⟩ rel,q3⟩)
def Ws(kvs more:List (Key×V)):List (Key×V):=more.foldl (fun acc kv=>Z2 acc kv.1 kv.2) kvs
theorem KV.merge:∀{more:List (Key×V)}{rs:List (Key×Value)}{kvs:List (Key×V)}{vs:List (Key×Value)},KV more rs->KV kvs vs->KV (Ws kvs more) (merged vs rs):=by
 intro more rs kvs vs r
 unfold KV at r
 induction r generalizing kvs vs with
 | nil=>intro q;exact q
 | @cons p q ps qs h t ih =>
  intro r0
  have e:KV (Z2 kvs p.1 p.2) (stored vs q.1 q.2):=by
   have:=r0.put p.1 h.2
   rw[← h.1];exact this
  exact ih e
theorem Zhd:∀(more kvs:List (Key×V)),(Ws kvs more).length<=kvs.length+more.length
 | [],kvs=>by show kvs.length<=kvs.length+0;lia
 | p::r,kvs=>by
  have h1:=Zhd r (Z2 kvs p.1 p.2)
  have h2:=Um kvs p.1 p.2
  show (Ws (Z2 kvs p.1 p.2) r).length<=_
  rw[xY];lia
theorem Zhk{P:Program}{w:World}:∀{kvs:List (Key×V)}{ws:List (Value×Value)},VV (kvs.map fun kv=>(kV kv.1,kv.2)) ws->∃rs,Carries (Wr P w) ws rs/\KV kvs rs
 | [],_,r=>by rw[zD] at r;cases r;exact⟨[],True.intro,.nil⟩
 | p::kvs,_,r=>by
  rw[xU] at r
  cases r with
  | @cons a b as bs h t =>
   obtain⟨rs,c,q⟩:=Zhk (P:=P) (w:=w) t
   obtain⟨b1,b2⟩:=b
   exact⟨(p.1,b2)::rs,⟨Zbk h.1,rfl,c⟩,.cons ⟨rfl,h.2⟩ q⟩
def Ze3(trs:List (TE×TE)):TE:=fun σ H Q=>∀p,H p=none->Zev trs σ (upd H p (.dK [])) fun ps H2=>H2 p=some (.dK [])/\∃kvs:List (Key×V),ps=kvs.map (fun kv=>(kV kv.1,kv.2))/\kvs.length<=15/\Q (.ref p) (upd H2 p (.dK (Ws [] kvs)))
theorem Zi4{X:Cx}{pos:Pos}{keys:List (Option Expr)}{values:List Expr}{trs:List (TE×TE)}(h:PPs X pos keys values trs)(hall:keys.all (·.isSome)=true)(hl:keys.length=values.length)(h0:keys ≠ [])(h15:keys.length<=15):PE X (.Dict keys values pos) (Ze3 trs):=by
 intro pins s σ H Q I q
 have hn:=I.hok.fresh (xK s.heap.objs.size)
 have I1:=I.laid (a:=s.heap.objs.size) (o:=.dK []) (h':=s.heap.push {cls:=.type "dict", data:=.dict #[] }) (t':=s.toks) (fun _ _ q=>xI _ q) (xK _) (Zig s.heap I.big)
 refine wpAny_Dict_walk (knd:=Wr X.prog X.w) hall hl h0 h15 (thn (h pins _ σ _ _ I1 (q _ hn)) fun ws s2 ⟨ps,H2,I2,rel,e,kvs,ep,lk,q2⟩=>?_)
 subst ep
 obtain⟨rs,c,rk⟩:=Zhk (P:=X.prog) (w:=X.w) rel
 obtain⟨z,hd,vs0,r0,dd⟩:=Zke I2.hok e
 cases r0
 refine⟨rs,c,dd,fun h' dd' hs=>⟨.ref s.heap.objs.size,_,?_,rfl,q2⟩⟩
 have hz:(Ws [] kvs).length<=sizeLine:=by
  have h1:=Zhd kvs []
  rw[List.length_nil] at h1
  rw[sizeLine_eq];lia
 have he:∃q,h'.get? s.heap.objs.size=some q:=let ⟨q,_,_,hq,_⟩:=dd';⟨q,hq⟩
 exact Zej I2 (by rw[e];exact True.intro) hs he (Zjq hz hd (rk.merge .nil) dd')
structure M1 (X:Cx) (o:Expr) (m:Str) (apos:Pos) (e:Expr) (cpos:Pos):Prop where
 base:attributeBase o m X.env (eval o X.env)=eval o X.env
 few:((backTo cpos (starEach [e] X.env)).all (fun x=>!x.1) && (backToKw cpos (keywordEach [] X.env)).all (fun x=>x.1.isSome)
  && decide (([e]:List Expr).length+([]:List Keyword).length+(if ([]:List Keyword).isEmpty then 0 else 1) < 30))=true
 line:(apos.endLine == cpos.line)=true
 trees:backTo cpos (starEach [e] X.env)= [(false,eval e X.env)]
structure M2 (X:Cx) (o:Expr) (m:Str) (apos:Pos) (e f:Expr) (cpos:Pos):Prop where
 base:attributeBase o m X.env (eval o X.env)=eval o X.env
 few:((backTo cpos (starEach [e,f] X.env)).all (fun x=>!x.1) && (backToKw cpos (keywordEach [] X.env)).all (fun x=>x.1.isSome)
  && decide (([e,f]:List Expr).length+([]:List Keyword).length+(if ([]:List Keyword).isEmpty then 0 else 1) < 30))=true
 line:(apos.endLine == cpos.line)=true
 trees:backTo cpos (starEach [e,f] X.env)= [(false,eval e X.env),(false,eval f X.env)]
def IsD(H:Hp)(a:Addr):Prop:=(∃kvs,Rd H a (.dK kvs))\/∃kvs,Rd H a (.dT kvs)
section
variable{X:Cx}{pins:List (Addr×Obj)}{σ:St}{H:Hp}{s:Shared}{a:Addr}{y d:V}{u r:Value}{o:Option V}{A:Around}{E:Value->Shared->Prop}
end
inductive tDGet1_ (ty:TE) (σ:St) (Q:VK) (x:V) (H1:Hp):Prop
 | mk (a) (h0:x = .ref a) (h1:IsD H1 a) (h2:ty σ H1 fun y H2=>∃o,DGet H2 a y o/\Q (o.getD .non) H2)
inductive tDGet2_ (ty:TE) (tx:TE) (σ:St) (Q:VK) (x:V) (H1:Hp):Prop
 | mk (a) (h0:x = .ref a) (h1:IsD H1 a) (h2:ty σ H1 fun y H2=>tx σ H2 fun z H3=>∃o,DGet H3 a y o/\Q (o.getD z) H3)
inductive tDPop1_ (ty:TE) (σ:St) (Q:VK) (x:V) (H1:Hp):Prop
 | mk (a) (h0:x = .ref a) (h1:IsD H1 a) (h2:ty σ H1 fun y H2=>∃kvs k v,H2 a=some (.dK kvs)/\y=kV k/\Z3 kvs k=some v/\Q v (upd H2 a (.dK (Ze2 kvs k))))
inductive tDPop2_ (ty:TE) (tx:TE) (σ:St) (Q:VK) (x:V) (H1:Hp):Prop
 | mk (a) (h0:x = .ref a) (h1:IsD H1 a) (h2:ty σ H1 fun y H2=>tx σ H2 fun z H3=>∃kvs k,H3 a=some (.dK kvs)/\y=kV k/\(∀v,Z3 kvs k=some v->Q v (upd H3 a (.dK (Ze2 kvs k))))/\(Z3 kvs k=none->Q z H3))
section
variable{X:Cx}{o e f:Expr}{apos cpos:Pos}{td ty tx:TE}
end
section
variable{X:Cx}{pins:List (Addr×Obj)}{σ:St}{H:Hp}{s:Shared}{a:Addr}{kvs:List (Key×V)}{A:Around}{E:Value->Shared->Prop}
end
section
variable{X:Cx}{pins:List (Addr×Obj)}{σ:St}{H:Hp}{s:Shared}{a:Addr}{y:V}{u:Value}{A:Around}{E:Value->Shared->Prop}
end
end L2
namespace Att
open PySem PySem.W PySem.Calls PyProof.Rows
theorem Zmu{P:Params}{h:Heap}:∀(ns:List Int)(vs:List Value),WellAll P h vs (ns.map WData.int)->IntsAre vs ns:=by
 intro ns
 induction ns with
 | nil =>
  intro vs w
  rw[zD] at w
  cases w
  exact .nil
 | cons n ns ih =>
  intro vs w
  rw[xU] at w
  cases w with
  | cons a b =>
   cases a
   exact .cons _ _ (ih _ b)
theorem Zol{l:OpenLaw}{n:Nat}(hn:l.most=some n){P:Params}{h:Heap}{args:List WData}{vals:List Value}(hpre:l.row.toRowW.claim.pre args=true)(hwl:WellAll P h vals args) :
  ∃a vs ns,vals = [Value.ref a]/\args = [WData.list (ns.map WData.int)]/\h.get? a=some {cls:=.type "list", data:=.seq vs.toArray }/\IntsAre vs ns/\ns.length<=n:=by
 have hsh:WShape.hasAll [] args [.list .int]=true:=(pre_splitW hpre).1
 have hc:l.pre.holds [] {args:=args }=true:=(pre_splitW hpre).2
 obtain⟨d,r,rfl,h1,h2⟩:=hasAllW_cons hsh
 obtain rfl:=hasAllW_nil h2
 obtain⟨xs,rfl,h3⟩:=hasW_list h1
 obtain⟨ns,rfl⟩:=items_int h3
 have hlen:ns.length<=n:=by
  unfold OpenLaw.pre at hc
  have h4:(WTm.not (.lt (.lit (.int (n:Int))) (.len (.arg 0)))).holds [] {args:=[.list (ns.map .int)] }=true:=by
   have h4:=(holds_andW hc).1
   rw[hn] at h4
   exact h4
  have h5:=condW_of h4 (w_not (w_lt w_lit (w_len_list (w_arg rfl))))
  rw[xA] at h5
  refine Nat.le_of_not_lt fun q=>?_
  have q':(n:Int) < ((ns.length:Nat):Int):=by lia
  first
   | (rw[xW q'] at h5;exact absurd h5 (by decide))
   | (simp at h5;lia)
 cases hwl with
 | cons w1 w2 =>
  cases w2
  cases w1 with
  | list ho hall=>exact⟨_,_,ns,rfl,rfl,ho,Zmu ns _ hall,hlen⟩
theorem Zom(l:OpenLaw)(args:List WData):l.row.toRowW.claim.post args (.bool true) args=true :=
 postW_of (r:=l.row.toRowW) (X:=(true == true))
  (show WShape.has [] (.bool true) .bool=true by first | rfl | decide | simp[WShape.has,WShape.arms,WShape.armsAll])
  (show (WTm.eq .res (.lit (.bool true))).value [] {args:=args,res:=some (.bool true),after:=args }=some (.bool (true == true)) from w_eq_bool (w_res rfl) w_lit) rfl
theorem attach_call{l:OpenLaw}{n:Nat}{q:Program}{loose:List Str}{XP:(Str->Option Value)->Heap->Prop}{YP:World->Heap->Prop}{d:DefRec}(hn:l.most=some n)(hdf:d.params.defaults = [])(call:∀ (w:World) (s₀ s₁:Shared) (mg mb:Str->Option Value) (fa:Addr) (o:Obj) (pm cd doc:Value) (a:Addr) (vs:List Value) (ns:List Int),
   Ground q loose [] XP w s₀ mg mb s₁.heap->YP w s₁.heap ->
   s₁.heap.get? fa=some o->o.data = .func (docDef d.name d.params d.body d.scope pm cd doc)->s₁.heap.CodeRec cd d.name->mg d.name=some (.ref fa)->
   s₁.heap.get? a=some {cls:=.type "list", data:=.seq vs.toArray }->IntsAre vs ns->ns.length<=n->s₁.gens = #[]->
   codeAny (model l.prog w) callerA (.call (.ref fa) ⟨[.ref a],[]⟩) (fun r s'=>r = .ok (.ret (.bool true))/\OldK s₁.heap s'.heap/\s'.os=s₁.os/\AllBare s'.gens) s₁) :
  WalkO q loose XP YP l.row.toRowW d [] (fun f vs=>PySem.call f vs):=by
 intro w s₀ s₁ mg mb G Y fa o pm cd doc dV kV ho hd hcd hD hmg hg args vals as hpre hlay hrd hwl hlo
 obtain rfl:dV = .none:=Dflts.none hD hdf
 obtain rfl:kV = .none:=Dflts.noKw hD
 obtain⟨a,vs,ns,rfl,rfl,hobj,hints,hlen⟩:=Zol hn hpre hwl
 refine enter_call (codeAny_mono (call w s₀ s₁ mg mb fa o pm cd doc a vs ns G Y ho (fd_plain hd) hcd hmg hobj hints hlen hg) fun r s' hq=>?_)
 obtain⟨rfl,h2,h3,h4⟩:=hq
 exact⟨.inl ⟨.bool true,.bool true,[],rfl,fun _=>rfl,.bool true,Zom l _,fun _=>⟨List.Pairwise.nil,fun _ hm=>(nomatch hm)⟩⟩,h2,h3,h4⟩
section
variable{prog:Program}{w:World}{A:Around}{E:Value->Shared->Prop}{s:Shared}{K:Frag}
end
end Att
namespace L2
open PySem PySem.Spec PyProof.Rows
theorem Zh4:∀{vs:List Value}{ns:List Int},IntsAre vs ns->Vals (ns.map V.int) vs
 | _,_,.nil=>.nil
 | _,_,.cons n t h=>.cons ⟨t,rfl⟩ (Zh4 h)
def Zg3(H:Hp):Prop:=∀b,H b=none\/∃o xs,H b=some (.frz o (.lst xs))
theorem Zpl{P:Program}{w:World}{K:uFg}{mg mb:Str->Option Value}{CX:CXT}{k:Nat}{fa a:Addr}{fd:FuncData}{x:Str}{sp:Sp}{s₁:Shared}{vs:List Value}{ns:List Int}(KX:K.In s₁.heap)(hns:s₁.heap.Ns mainGlobals mg)(hb:s₁.heap.Ns builtinsNs mb)(hbb:∀x:Str,x ≠ "__name__" -> mb x=bootBuiltins x)(hlim:s₁.heap.NoLimit)(hg:s₁.gens = #[])(ha:s₁.heap.get? a=some {cls:=.type "list", data:=.seq vs.toArray })(hi:IntsAre vs ns)(hl:ns.length<=sizeLine)(hr:Room k callerA)(F:∀base:Heap,K.In base->base.Ns mainGlobals mg->FnOk P w K mg base CX k fa fd [x] sp)(hbind:∀ (s:Shared) (u:Value),BindsTo s fd ⟨[u],[]⟩ [(x,u)])(hsp:∀H:Hp,Zg3 H->SqL K H a (ns.map V.int)->sp [.ref a] H (fun v _=>v = .bl true) fun _ _ _=>False)(hCX:∀H e s',CX [] H s₁ (fun _ _ _=>False) e s'->False) :
  codeAny (model P w) callerA (.call (.ref fa) ⟨[.ref a],[]⟩) (fun r s'=>r = .ok (.ret (.bool true))/\OldK s₁.heap s'.heap/\s'.os=s₁.os/\AllBare s'.gens) s₁:=by
 have rv:=Zh4 hi
 have lenV:=hi.length
 have core:∀H:Hp,Zg3 H->SqL K H a (ns.map V.int)->HOk P w H s₁.heap->(∀b,H b≠none->b=a)->(H a≠none->K.lookup a=none)->
   codeAny (model P w) callerA (.call (.ref fa) ⟨[.ref a],[]⟩) (fun r s'=>r = .ok (.ret (.bool true))/\OldK s₁.heap s'.heap/\s'.os=s₁.os/\AllBare s'.gens) s₁:=by
  intro H hO hS hok hA hK
  have base_of:∀{b:Addr}{o:Obj},s₁.heap.get? b=some o->H b=none->(Ul s₁.heap H).get? b=some o:=fun e n=>Zo2 e n
  have noA:∀{b:Addr}{o:Obj}{es:Array DictEntry}{ep:Nat},s₁.heap.get? b=some o->o.data = .dict es ep->H b=none:=fun {b o es ep} e d=>by
   cases q:H b with
   | none=>rfl
   | some u =>
    have e':b=a:=hA b (by rw[q];simp)
    subst e'
    rw[ha] at e;cases e
    have d':Data.seq vs.toArray _=Data.dict es ep:=d
    cases d'
  have nsK:∀{b:Addr}{m:Str->Option Value},s₁.heap.Ns b m->(Ul s₁.heap H).Ns b m:=fun {b m} ⟨o,es,ep,e,d,r⟩=>⟨o,es,ep,base_of e (noA e d),d,r⟩
  have hKb:K.In (Ul s₁.heap H):=fun b o e=>base_of (KX b o e) (by
   cases q:H b with
   | none=>rfl
   | some u =>
    have e':b=a:=hA b (by rw[q];simp)
    subst e'
    rw[hK (by rw[q];simp)] at e;cases e)
  have hM:Mod K mg (Ul s₁.heap H):=⟨hKb,nsK hns,⟨mb,nsK hb,hbb⟩,let ⟨mc,h1,h2⟩:=hlim;⟨mc,nsK h1,h2⟩⟩
  have e0:Env0 P w K mg (Ul s₁.heap H) callerA [] s₁ H:=⟨rfl,hM,fun b o e=>Zqy e,Nat.le_of_eq (Zn8 _ _),trivial,fun b hb=>absurd (show b∈([]:List Addr) from hb) (by simp),hok,.of_eq hg⟩
  refine codeAny_mono ((F _ hKb (nsK hns)).run callerA [] s₁ H ⟨[.ref a],[]⟩ [.ref a] [.ref a] _ _ hr e0 (hbind s₁ (.ref a)) (.cons rfl .nil) (hsp H hO hS)) fun r s' h=>?_
  cases r with
  | error e=>exact(hCX H e s' h).elim
  | ok fl =>
   cases fl with
   | next=>exact False.elim h
   | brk=>exact False.elim h
   | cont=>exact False.elim h
   | ret u =>
    obtain⟨v,H',os,bare,un,hok',r',q⟩:=h
    have q':v = .bl true:=q
    subst q'
    obtain rfl:u=Value.bool true:=r'
    refine⟨rfl,OldK.of_keep fun b o e=>?_,os,bare⟩
    cases q:H b with
    | none=>exact un.keep b o e q (by intro z;exact absurd (show b∈([]:List Addr) from z) (by simp)) (by simp)
    | some u =>
     rcases hO b with z | ⟨ob,xs,z⟩
     ·rw[q] at z;cases z
     ·have z2:=un.frzs b ob _ z
      obtain⟨e1,_⟩:=hok b _ z
      obtain⟨e2,_⟩:=hok' b _ z2
      rw[e] at e1;cases e1
      exact e2
 cases hk:K.lookup a with
 | some o =>
  have e:=KX a o hk
  rw[ha] at e
  cases e
  refine core (fun _=>none) (fun _=>.inl rfl) (.inr ⟨_,vs.toArray,_,hk,rfl,rfl,rfl,by rw[xL,lenV];exact hl,by simpa using rv⟩) (fun b u z=>by have z':(none:Option HO)=some u:=z;cases z') (fun b z=>absurd rfl z) fun z=>absurd rfl z
 | none =>
  refine core (fun b=>if b=a then some (.frz {cls:=.type "list", data:=.seq vs.toArray } (.lst (ns.map V.int))) else none) (fun b=>?_) (.inl (.inr ⟨{cls:=.type "list", data:=.seq vs.toArray },if_pos rfl⟩)) (fun b u z=>?_) (fun b z=>?_) fun _=>hk
  ·by_cases hb:b=a
   ·exact .inr ⟨_,_,if_pos hb⟩
   ·exact .inl (if_neg hb)
  ·by_cases hb:b=a
   ·have z':=(if_pos hb).symm.trans z
    cases z'
    subst hb
    exact⟨ha,by rw[xA];exact hl,vs,_,rv,ha⟩
   ·have z':=(if_neg hb).symm.trans z
    cases z'
  ·by_cases hb:b=a
   ·exact hb
   ·exact absurd (if_neg hb) z
end L2
namespace L2
open PySem PySem.Spec PyProof.Rows
theorem walk_of{l:PySem.W.OpenLaw}{n k:Nat}{q:Program}{loose:List Str}{XP:(Str->Option Value)->Heap->Prop}{YP:World->Heap->Prop}{d:DefRec}{K:Params->uFg}{CX:World->CXT}{sp:World->Sp}{x:Str}(hn:l.most=some n)(hn2:n<=sizeLine)(hdf:d.params.defaults = [])(hr:Room k callerA)(hY:∀ (w:World) (h:Heap),YP w h->(K w.params).In h)(F:∀ (w:World) (mg:Str->Option Value) (fa:Addr) (h:Heap),(K w.params).In h->h.Ns mainGlobals mg->mg d.name=some (.ref fa)->
   ∃fd:FuncData,(∀ (s:Shared) (u:Value),BindsTo s fd ⟨[u],[]⟩ [(x,u)])/\
    ∀base:Heap,(K w.params).In base->base.Ns mainGlobals mg->FnOk l.prog w (K w.params) mg base (CX w) k fa fd [x] (sp w))(hsp:∀ (w:World) (H:Hp) (a:Addr) (ns:List Int),ns.length<=n->Zg3 H->SqL (K w.params) H a (ns.map V.int)->sp w [.ref a] H (fun v _=>v = .bl true) fun _ _ _=>False)(hCX:∀ (w:World) (H:Hp) (s:Shared) (e:Value) (s':Shared),CX w [] H s (fun _ _ _=>False) e s'->False) :
  PySem.W.WalkO q loose XP YP l.row.toRowW d [] (fun f vs=>PySem.call f vs):=by
 refine Att.attach_call hn hdf fun w s₀ s₁ mg mb fa o pm cd doc a vs ns G Y ho hd hcd hmg hobj hints hlen hg=>?_
 have KX:=hY w _ Y
 obtain⟨fd,hb,hF⟩:=F w mg fa _ KX G.T.g hmg
 exact Zpl KX G.T.g G.T.b G.T.builtins G.T.nolimit hg hobj hints (yK hlen hn2) hr hF hb (fun H hO hS=>hsp w H a ns hlen hO hS) fun H e s'=>hCX w H s₁ e s'
end L2
/- THE LAST THEOREM (shape;LID,My.* are yours):
   My.Adr: a structure of the addresses that your layer names (classes,functions);My.Txt K t: a structure (Prop) of the equations over K;
   My.txt_mk:{K} {implicit addresses ..} (e1:nsIn K mainGlobals "law" = some (some (.ref f))) (e2:K.lookup f=some ⟨oc,od,.func (fnOf "law" "law" params body scope dV kV doc pm an cdv ct),sl⟩) (e3:codeIn K cdv "law" = true) .. : ∃t,My.Txt K t
set_option maxRecDepth 100000 in
set_option maxHeartbeats 0 in
theorem PySem.Challenge.cw_LID_holds : PySem.Challenge.rw_LID.Holds := by
 w_on;o_law;k_head;(case hw=>w_witness2)
 k_fill
 refine L2.walk_of (l:=PySem.Challenge.rw_LID) (n:=63) (k:=40) (x:="script") (CX:=fun w=>..) (sp:=fun _=>My.sp_law) rfl (by decide) rfl ⟨rfl,by decide,by decide⟩ (fun w h Y=>PySem.W.kIn_of Y) ?F ?S ?C
 case F =>
  intro w mg fa h KX G hmg
  have T:∃t,My.Txt (L2.KOf KX) t:=by
   dsimp only [L2.KOf]                          -- K must stand as «<heap const> w.params» for k_is
   refine' My.txt_mk ?e1 ?e2 ?e3 ..
   (case e1=>PySem.W.k_is)                    -- in the order: a name->its address->its object->its parts
   (case e2=>PySem.W.k_is)
   ..
  obtain⟨t,T⟩:=T
  have e0:=hmg.symm.trans (PySem.W.mg_of KX G T.law)
  cases e0                                       -- fa is the law's own address
  exact⟨_,fun s u=>.of_eq rfl,fun base kb nb=>My.law_fn T kb nb⟩     -- if «.of_eq rfl» comes too early: refine' ⟨_,?b,fun base kb nb=>My.law_fn T kb nb⟩;exact fun s u=>.of_eq rfl
 case S=>exact fun w H a ns hl hO hS=>..
 case C=>exact ..
(the tactic k_is has no namespace: write k_is) -/
namespace L2
open PySem PySem.Spec PyProof.Rows
def Yt(s:Stmt)(j:Nat):Stmt:=match s with
 | .ClassDef _ _ _ body _ _ _ _ _ _ _=>body.getD j (.Pass ⟨0,0,0,0⟩)
 | _=>.Pass ⟨0,0,0,0⟩
def Y3(s:Stmt):Arguments:=match s with
 | .FunctionDef _ a _ _ _ _ _ _ _ _=>a
 | _=>{posonlyargs:=[],args:=[],vararg:=none,kwonlyargs:=[],kw_defaults:=[],kwarg:=none,defaults:=[] }
def Z9(s:Stmt):List Stmt:=match s with
 | .FunctionDef _ _ b _ _ _ _ _ _ _=>b
 | _=>[]
def Zs(s:Stmt):Scope:=match s with
 | .FunctionDef _ _ _ _ _ _ sc _ _ _=>sc
 | _=>{kind:=.function,names:=[],isGenerator:=false,isCoroutine:=false }
abbrev CX0:CXT:=fun _ _ _ _ _ _=>False
abbrev E0:XK:=fun _ _ _=>False
theorem Zdj{X:Cx}:Zag CX0 X E0:=fun _ _ _ _ _ _ _ h=>h.elim
structure Fun (K:uFg) (x qual:Str) (st:Stmt) (f:Addr) (fd:FuncData):Prop where
 ex:∃(oc:Value)(od:Option Addr)(kV doc pm:Value)(an:Option Addr)(cdv ct:Value)(osl:Array (Option Value)),
  fd=PySem.W.fnOf x qual (Y3 st) (Z9 st) (Zs st) .none kV doc pm an cdv ct/\K.lookup f=some ⟨oc,od,.func fd,osl⟩/\PySem.W.codeIn K cdv qual=true
 kp:PySem.W.keepIn K (.ref f)=true
section
variable{P:Program}{w:World}{K:uFg}{mg:Str->Option Value}{base:Heap}
theorem Fun.ok{x qual:Str}{st:Stmt}{f:Addr}{fd:FuncData}{N ps:List Str}{k:Nat}{sp:Sp}(F:Fun K x qual st f fd)(S:FnScope N ps (Zs st))(len:∀vs H Q E,sp vs H Q E->vs.length=ps.length)(hbody:∀ (cdv:Value) (A:Around) (outer:List Env) (s:Shared) (H:Hp) (vs:List V) (Q:VK) (E:XK),Room k (A.deeper (envOfC qual (Zs st) s.heap.objs.size f cdv))->sp vs H Q E ->
   ∃t,PSs (Yg CX0 P w K mg base N qual (Zs st) f cdv A outer s H E).nox (Z9 st) t/\t {nx:=fun _ H'=>Q .non H',rt:=Q } (start N vs) H):FnOk P w K mg base CX0 (k+1) f fd ps sp:=by
 obtain⟨oc,od,kV,doc,pm,an,cdv,ct,osl,rfl,lk,hcd⟩:=F.ex
 refine Zkb lk hcd S len fun A outer s H vs Q E hr hsp=>?_
 obtain⟨t,h,q⟩:=hbody cdv A outer s H vs Q E hr hsp
 exact⟨t,h.nox,q⟩
theorem Fun.binds{x qual:Str}{st:Stmt}{f:Addr}{fd:FuncData}{ps:List Str}(F:Fun K x qual st f fd)(h:∀ (kV doc pm:Value) (an:Option Addr) (cdv ct:Value) (us:List Value),us.length=ps.length->bindArgs (PySem.W.fnOf x qual (Y3 st) (Z9 st) (Zs st) .none kV doc pm an cdv ct) ⟨us,[]⟩=pure (ps.zip us)):Binds K fd ps []:=by
 obtain⟨oc,od,kV,doc,pm,an,cdv,ct,osl,rfl,lk,hcd⟩:=F.ex
 exact .all (h kV doc pm an cdv ct)
theorem Zew{x qual:Str}{st:Stmt}{f:Addr}{oc:Value}{od an:Option Addr}{osl:Array (Option Value)}{kV doc pm cdv ct:Value}(l:K.lookup f=some ⟨oc,od,.func (PySem.W.fnOf x qual (Y3 st) (Z9 st) (Zs st) .none kV doc pm an cdv ct),osl⟩)(c:PySem.W.codeIn K cdv qual=true)(k:PySem.W.keepIn K (.ref f)=true):Fun K x qual st f (PySem.W.fnOf x qual (Y3 st) (Z9 st) (Zs st) .none kV doc pm an cdv ct):=⟨⟨oc,od,kV,doc,pm,an,cdv,ct,osl,rfl,l,c⟩,k⟩
end
section
variable{X:Cx}
end
theorem Z8{A B:Prop}(h:B):if false=true then A else B:=by
 rw[if_neg xH]
 exact h
theorem Yl{A B:Prop}(h:A):if true=true then A else B:=by
 rw[if_pos rfl]
 exact h
def Same(H H':Hp):Prop:=∀b o,H b=some o->H' b=some o
theorem Same.refl(H:Hp):Same H H:=fun _ _ h=>h
theorem Same.trans{H H1 H2:Hp}(a:Same H H1)(b:Same H1 H2):Same H H2:=fun c o h=>b c o (a c o h)
theorem Same.free{H H':Hp}(e:Same H H'){l:Addr}(h:H' l=Option.none):H l=Option.none:=by
 cases q:H l with
 | none=>rfl
 | some o =>
  rw[e l o q] at h
  cases h
end L2
namespace L2
open PySem PySem.Spec PyProof.Rows
section
variable{X:Cx}
theorem Zon:Vv X (.builtin "len") (fun xs H Q=>∃a kvs,xs = [V.ref a]/\H a=some (.dK kvs)/\Q (.int kvs.length) H):=by
 intro pins s σ H xs us Q I r h
 obtain⟨a,kvs,rfl,ha,q⟩:=h
 obtain⟨u,rfl,ru⟩:=Zae r
 cases ru
 exact Zve I (.inl ha) fun t s' I'=>⟨.int kvs.length,H,I',⟨t,rfl⟩,q⟩
end
section
variable{κ:Type} [DecidableEq κ]
theorem Zi5:∀{l:List κ}{k : κ},l.Nodup->¬k∈l->(l ++ [k]).Nodup
 | [],k,_,_=>by simp
 | a::r,k,h,hk=>by
  obtain⟨h1,h2⟩:=yF.mp h
  show (a::(r ++ [k])).Nodup
  refine yF.mpr ⟨fun m=>?_,Zi5 h2 fun m=>hk (xE.mpr (Or.inr m))⟩
  rcases xM.mp m with q | q
  ·exact h1 q
  ·exact hk (xE.mpr (Or.inl (xP.mp q).symm))
end
end L2
end
section
namespace L2
open PySem PySem.Spec PyProof.Rows
section
abbrev ccx(X:Cx)(scope:Scope)(cl:List (Str×Addr))(C:Addr)(N':List Str)(s2:Shared)(H2:Hp)(ex:List Addr)(pn:List (Addr×Obj)):Cx where
 prog:=X.prog
 w:=X.w
 K:=X.K
 mg:=X.mg
 base:=X.base
 A:=X.A
 N:=N'
 s₀:=s2
 H₀:=H2
 env:=compEnvC scope cl C X.env
 outer:=X.stack
 stack:=X.stack
 ex:=ex
 fn:=fun _=>false
 calm:=X.calm
 pn:=pn
 xe:=fun _ _=>False
theorem Zd4(env:Env):∀(l:List (Str×NameKind))(cs:List (Str×Addr)),(∀p∈l,p.2 = .free->∃c,env.cells.lookup p.1=some c)->
  ∃cl,(forIn l cs (fun(x:Str×NameKind) (r:List (Str×Addr))=>if (x.2 == NameKind.free)=true then (do let a ← cellOf env x.1;pure (ForInStep.yield ((x.1,a)::r)):Sem (ForInStep (List (Str×Addr)))) else pure (ForInStep.yield r)):Sem _)=pure cl /\
   (∀x c,cl.lookup x=some c->env.cells.lookup x=some c\/cs.lookup x=some c)/\(∀x,((x,NameKind.free)∈l\/∃c,cs.lookup x=some c)->∃c,cl.lookup x=some c)
 | [],cs,_=>⟨cs,rfl,fun x c h=>.inr h,fun x h=>h.elim (fun z=>nomatch z) id⟩
 | (n,k)::r,cs,h=>by
  have hr:∀p∈r,p.2 = .free->∃c,env.cells.lookup p.1=some c:=fun p hp=>h p (xX _ hp)
  by_cases hk:k = .free
  ·subst hk
   obtain⟨c,hc⟩:=h (n,.free) yC rfl
   obtain⟨cl,e,h1,h2⟩:=Zd4 env r ((n,c)::cs) hr
   refine⟨cl,?_,fun x d hx=>?_,fun x hx=>?_⟩
   ·rw[List.forIn_cons]
    have e2:cellOf env n=pure c:=by unfold cellOf;rw[hc]
    simp only[beq_self_eq_true,if_true,e2,pure_bind]
    exact e
   ·rcases h1 x d hx with z | z
    ·exact .inl z
    ·rw[yH] at z
     cases q:x == n with
     | true =>
      rw[q] at z
      cases z
      have:x=n:=by simpa using q
      subst this
      exact .inl hc
     | false =>
      rw[q] at z
      exact .inr z
   ·apply h2
    rcases hx with hx | ⟨d,hx⟩
    ·rcases xE.mp hx with z | z
     ·cases z
      exact .inr ⟨c,by rw[yH];simp⟩
     ·exact .inl z
    ·right
     rw[yH]
     cases q:x == n with
     | true=>exact⟨c,rfl⟩
     | false=>exact⟨d,hx⟩
  ·obtain⟨cl,e,h1,h2⟩:=Zd4 env r cs hr
   refine⟨cl,?_,h1,fun x hx=>h2 x ?_⟩
   ·rw[List.forIn_cons]
    have e2:(k == NameKind.free)=false:=by simpa using hk
    simp only[e2,zJ,if_false,pure_bind]
    exact e
   ·rcases hx with hx | hx
    ·rcases xE.mp hx with z | z
     ·cases z
      exact absurd rfl hk
     ·exact .inl z
    ·exact .inr hx
theorem Znq{scope:Scope}{env:Env}(h:∀p∈scope.names,p.2 = .free->∃c,env.cells.lookup p.1=some c) :
  ∃cl,closureFor scope env=pure cl/\(∀x c,cl.lookup x=some c->env.cells.lookup x=some c)/\(∀x,(x,NameKind.free)∈scope.names->∃c,cl.lookup x=some c):=by
 obtain⟨cl,e,h1,h2⟩:=Zd4 env scope.names [] h
 refine⟨cl,?_,fun x c hx=>(h1 x c hx).elim id (fun z=>nomatch z),fun x hx=>h2 x (.inl hx)⟩
 unfold closureFor
 have e':=congrArg (fun m:Sem (List (Str×Addr))=>m >>= fun r=>pure r) e
 simp only[pure_bind] at e'
 exact e'
theorem Zhc{env:Env}{kk:NameKind}(hkk:kk ≠ .free):∀{names:List (Str×NameKind)}{x:Str},names.lookup x=some kk ->
  (names.map fun(n,k)=>if (k == NameKind.free && env.scope.kind == .function && env.kindOf n == some .cell) then (n,NameKind.cell) else (n,k)).lookup x=some kk
 | [],_,h=>by simp at h
 | (n,k)::r,x,h=>by
  have ih:=@Zhc env kk hkk r x
  show List.lookup x ((if (k == NameKind.free && env.scope.kind == .function && env.kindOf n == some .cell)=true then (n,NameKind.cell) else (n,k))::_)=_
  cases hx:x == n with
  | true =>
   simp only[yH,hx] at h
   have h:some k=some kk:=h
   have h':k=kk:=Option.some.inj h
   subst h'
   have e:(k == NameKind.free)=false:=by simpa using hkk
   rw[e,yT,yT,if_neg xH,yH,hx]
  | false =>
   simp only[yH,hx] at h
   by_cases hc:(k == NameKind.free && env.scope.kind == .function && env.kindOf n == some .cell)=true
   ·rw[if_pos hc];simp only[yH,hx];exact ih h
   ·rw[if_neg hc];simp only[yH,hx];exact ih h
theorem Zd1{env:Env}:∀{names:List (Str×NameKind)}{x:Str},names.lookup x=some .free ->
  ((names.map fun(n,k)=>if (k == NameKind.free && env.scope.kind == .function && env.kindOf n == some .cell) then (n,NameKind.cell) else (n,k)).lookup x=some .cell)\/
  ((names.map fun(n,k)=>if (k == NameKind.free && env.scope.kind == .function && env.kindOf n == some .cell) then (n,NameKind.cell) else (n,k)).lookup x=some .free)
 | [],_,h=>by simp at h
 | (n,k)::r,x,h=>by
  have ih:=@Zd1 env r x
  show (List.lookup x ((if (k == NameKind.free && env.scope.kind == .function && env.kindOf n == some .cell)=true then (n,NameKind.cell) else (n,k))::_)=_)\/(List.lookup x ((if (k == NameKind.free && env.scope.kind == .function && env.kindOf n == some .cell)=true then (n,NameKind.cell) else (n,k))::_)=_)
  cases hx:x == n with
  | true =>
   simp only[yH,hx] at h
   cases h
   by_cases hc:(NameKind.free == NameKind.free && env.scope.kind == .function && env.kindOf n == some .cell)=true
   ·rw[if_pos hc];simp[yH,hx]
   ·rw[if_neg hc];simp[yH,hx]
  | false =>
   simp only[yH,hx] at h
   by_cases hc:(k == NameKind.free && env.scope.kind == .function && env.kindOf n == some .cell)=true
   ·rw[if_pos hc];simp only[yH,hx];exact ih h
   ·rw[if_neg hc];simp only[yH,hx];exact ih h
theorem Zhi{env:Env}{scope:Scope}{x:Str}(hcell:∀y∈scope.names,y.2 ≠ .cell)(h:(relabel scope env).names.lookup x=some .cell\/(relabel scope env).names.lookup x=some .free):(x,NameKind.free)∈scope.names:=by
 have m:∃k',(k'=NameKind.cell\/k'=NameKind.free)/\(x,k')∈(relabel scope env).names:=by
  rcases h with h | h
  ·exact⟨_,.inl rfl,PySem.mem_of_lookup h⟩
  ·exact⟨_,.inr rfl,PySem.mem_of_lookup h⟩
 obtain⟨k',hk,m⟩:=m
 obtain⟨⟨n,k⟩,hm,e⟩:=List.mem_map.mp m
 have e:(if (k == NameKind.free && env.scope.kind == .function && env.kindOf n == some .cell)=true then (n,NameKind.cell) else (n,k))=(x,k'):=e
 by_cases hc:(k == NameKind.free && env.scope.kind == .function && env.kindOf n == some .cell)=true
 ·rw[if_pos hc] at e
  cases e
  have:k = .free:=by
   cases k<;>simp at hc ⊢
  rw[← this];exact hm
 ·rw[if_neg hc] at e
  cases e
  rcases hk with z | z
  ·exact absurd z (hcell _ hm)
  ·rw[← z];exact hm
section
variable{prog:Program}{w:World}{A:Around}{E:Value->Shared->Prop}{R:Result->Shared->Prop}{s:Shared}
theorem Zmr{elt target iter:Expr}{ifs:List Expr}{scope:Scope}{pos:Pos}{it acc:Value}{env:Env}(I:Nat->Shared->Prop){EX:Value->Shared->Prop}(hEX:∀e s,EX e s->notedBy (model prog w) A env (fun x s'=>R (.error x) s') e s)(turn:∀n s,I n s->wpAny (model prog w) A (pyNext it) (fun r s₁=>match r with
   | none=>R (.ok .next) s₁
   | some v=>wpAny (model prog w) A (letOwnedTupleGo target it v) (fun _ s1=>wpAny (model prog w) A (assign target env v) (fun _ s₂ =>
     wpAny (model prog w) A (forIn ifs true fun c r=>if r=true then do let ok ← isTrue c env (eval c env);pure (ForInStep.yield ok) else pure (ForInStep.yield r)) (fun ok s₃ =>
      if ok=true then wpAny (model prog w) A (eval elt env) (fun x s₄ =>
       wpAny (model prog w) A (call (.builtin "list.append") [acc,x]) (fun _ s₅=>∃m,m < n/\I m s₅) (fun _ _=>False) s₄) EX s₃
      else ∃m,m < n/\I m s₃) (fun _ _=>False) s₂) (fun _ _=>False) s1) (fun _ _=>False) s₁) (fun _ _=>False) s)(n:Nat)(h:I n s) :
  codeAny (model prog w) A (.compLoop (.ListComp elt [⟨target,iter,ifs,0⟩] scope pos) 0 it acc env) R s:=by
 refine codeAny_loop rfl I (fun n s hI=>?_) n h
 show wpAny _ A ((compTurn (.ListComp elt [⟨target,iter,ifs,0⟩] scope pos) 0 it acc env).onRaise (fun x=>do noteFrame x env;theTreesLotGoes x)) _ _ s
 refine wpAny_noted ?_
 rw[compTurn_list]
 refine wpAny_bind (wpAny_standAt (wpAny_bind (wpAny_mono (turn n s hI) (fun r s₁ h₁=>?_) fun _ _ h'=>h'.elim)))
 cases r with
 | none=>exact wpAny_pure h₁
 | some v =>
  refine wpAny_bind (wpAny_mono h₁ (fun _ s1 h1=>?_) fun _ _ h'=>h'.elim)
  refine wpAny_bind (wpAny_mono h1 (fun _ s₂ h₂=>wpAny_bind (wpAny_mono h₂ (fun ok s₃ h₃=>?_) fun _ _ h'=>h'.elim)) fun _ _ h'=>h'.elim)
  cases ok with
  | false=>exact wpAny_pure ⟨rfl,h₃⟩
  | true =>
   exact wpAny_bind (wpAny_bind (wpAny_mono h₃ (fun x s₄ h₄=>wpAny_bind (wpAny_mono h₄ (fun _ s₅ h₅=>wpAny_pure (wpAny_pure ⟨rfl,h₅⟩)) fun _ _ h'=>h'.elim)) fun e s h'=>hEX e s h'))
end
abbrev TTs:=St->Hp->(Bool->Hp->Prop)->Prop
def PTs(X:Cx)(ifs:List Expr)(t:TTs):Prop :=
 ∀(pins:List (Addr×Obj))(s:Shared)(σ:St)(H:Hp)(Q:Bool->Hp->Prop),Inv X pins σ H s->t σ H Q ->
  wpAny (model X.prog X.w) X.A (forIn ifs true fun c r=>if r=true then do let ok ← isTrue c X.env (eval c X.env);pure (ForInStep.yield ok) else pure (ForInStep.yield r)) (TP X pins σ Q) X.xe s
theorem Zr0{X:Cx}:PTs X [] (fun _ H Q=>Q true H):=fun _ _ _ H _ I h=>wpAny_tests_nil ⟨H,I,h⟩
theorem Zr1{X:Cx}{c:Expr}{t:TT}(h:PT X c t):PTs X [c] t:=fun pins s σ H Q I hw=>wpAny_tests_one (h pins s σ H Q I hw)
structure FrOk (X:Cx) (scope:Scope) (fr:List (Str×Nat)):Prop where
 slots:∀p∈fr,X.N[p.2]? = some p.1/\(X.env.kindOf p.1=some .cell\/X.env.kindOf p.1=some .free)
 kind:∀p∈fr,scope.names.lookup p.1=some .free
def inN(locs:List Str)(fr:List (Str×Nat)):List Str:=locs++fr.map (·.1)
def inS(locs:List Str)(fr:List (Str×Nat))(σ:St):St:=List.replicate locs.length none++fr.map fun p=>(σ[p.2]?).join
def inF(fr:List (Str×Nat))(σ:St):St:=fr.map fun p=>(σ[p.2]?).join
def Uv(n:Nat)(fv:St)(g:TG)(tt:TTs)(te:TE)(x:V)(H:Hp)(Y:V->Hp->Prop)(N:Hp->Prop):Prop :=
 ∀ls:St,ls.length=n->g x (ls++fv) H fun σ2 H2=>(∃l2:St,l2.length=n /\ σ2=l2++fv)/\tt σ2 H2 fun b H3=>if b=true then te σ2 H3 Y else N H3
def Zbd(J:It)(n:Nat)(fv:St)(g:TG)(tt:TTs)(te:TE)(Q:VK)(H1:Hp):Prop:=∃W:Nat->Nat->List V->Hp->Prop,(∃m,W 0 m [] H1)/\∀i m ys H,W i m ys H ->
 (J.stop i H/\ys.length<=sizeLine/\∀l,H l=none->Q (.ref l) (upd H l (.lst ys)))\/
 (J.go i H/\ys.length < sizeLine/\∃m',m' < m/\∀x H',J.yld i H x H'->Uv n fv g tt te x H' (fun y H4=>W (i+1) m' (ys ++ [y]) H4) fun H3=>W (i+1) m' ys H3)
def Zdk(n:Nat)(fr:List (Str×Nat))(wi:TI)(g:TG)(tt:TTs)(te:TE):TE:=fun σ H Q=>wi σ H fun J H1=>Zbd J n (inF fr σ) g tt te Q H1
theorem Zr2{P:Program}{w:World}{H:Hp}{h:Heap}{D:Addr}{o:HO}(ok:HOk P w H h)(hn:H D=none)(new:ObjOk P w (upd H D o) h D o):HOk P w (upd H D o) h:=fun b u e=>by
 by_cases hb:b=D
 ·subst hb;rw[Zg] at e;cases e;exact new
 ·rw[Zf hb] at e
  exact(ok b u e).stay (fun _ _ _ q=>q) (fun c q=>by rw[Zf (Zp q hn)];exact q) fun c xs q=>by rw[Zf (Zp q hn)];exact q
section
variable{X:Cx}{tg elt iter:Expr}{ifs:List Expr}{scope:Scope}{pos:Pos}{locs:List Str}{fr:List (Str×Nat)}{g:TG}{tt:TTs}{te:TE}
theorem Zh5{pins:List (Addr×Obj)}{σ:St}{H1:Hp}{s2:Shared}{it:Addr}{fp:List Addr}{tn:Nat->Heap->Prop}{J:It}{cl:List (Str×Addr)}{E:Value->Shared->Prop}{RR:Value->Addr->Result->Shared->Prop}{QQ:List V->Hp->Prop}{EE:Hp->Value->Shared->Prop}(hc:X.calm=true)(hkind:scope.kind = .function)(hcell:∀y∈scope.names,y.2 ≠ .cell)(hlo:∀x∈locs,scope.names.lookup x=some .local)(F:FrOk X scope fr)(hnd:(inN locs fr).Nodup)(cl1:∀x c,cl.lookup x=some c->X.env.cells.lookup x=some c)(cl2:∀x,(x,NameKind.free)∈scope.names->∃c,cl.lookup x=some c)(inner:∀ (C:Addr) (s0:Shared) (H0:Hp) (ex:List Addr) (pn:List (Addr×Obj)),PG (ccx X scope cl C (inN locs fr) s0 H0 ex pn) tg g/\PTs (ccx X scope cl C (inN locs fr) s0 H0 ex pn) ifs tt)(hel:∀ (C:Addr) (pE:List (Addr×Obj)) (s:Shared) (σ':St) (H:Hp) (Y:VK),(∀b∈fp,∃o,(b,o)∈pE)->Inv (ccx X scope cl C (inN locs fr) s2 H1 fp (X.pn++pins)) pE σ' H s->te σ' H Y ->
   wpAny (model X.prog X.w) X.A (eval elt (compEnvC scope cl C X.env)) (EP (ccx X scope cl C (inN locs fr) s2 H1 fp (X.pn++pins)) pE σ' Y) (fun e s'=>∃pE' σ2 H',Inv (ccx X scope cl C (inN locs fr) s2 H1 fp (X.pn++pins)) pE' σ2 H' s'/\EE H' e s') s)(hER:∀ (D C:Addr) (H':Hp) (e:Value) (s':Shared) (m:Str->Option Value),Inv X pins σ H' s'->Vf X pins H' C->s'.heap.Ns C m->EE H' e s'->notedBy (model X.prog X.w) X.A (compEnvC scope cl C X.env) (fun x s''=>RR (.ref D) C (.error x) s'') e s')(I:Inv X pins σ H1 s2)(T:Turn X.prog X.w X.K tg J fp it tn)(st0:tn 0 s2.heap)(hf:∀b∈fp,Vf X pins H1 b){W:Nat->Nat->List V->Hp->Prop}(w0:∃m,W 0 m [] H1)(turn:∀i m ys H,W i m ys H ->
   (J.stop i H/\ys.length<=sizeLine/\QQ ys H)\/
   (J.go i H/\ys.length < sizeLine/\∃m',m' < m/\∀x H',J.yld i H x H'->Uv locs.length (inF fr σ) g tt te x H' (fun y H4=>W (i+1) m' (ys ++ [y]) H4) fun H3=>W (i+1) m' ys H3))(hRR:∀ (D C:Addr) (ys:List V) (H':Hp) (s':Shared) (m:Str->Option Value),H' D=none->D≠C->Inv X pins σ (upd H' D (.lst ys)) s'->Vf X pins (upd H' D (.lst ys)) C->s'.heap.Ns C m->QQ ys H'->RR (.ref D) C (.ok .next) s') :
  wpAny (model X.prog X.w) X.A (newList []) (fun acc s₃=>wpAny (model X.prog X.w) X.A (newFunctionEnv scope X.env.globals cl [] X.env.qual none .none (some X.env)) (fun cenv s₄ =>
   codeAny (model X.prog X.w) X.A (.compStart (.ListComp elt [⟨tg,iter,ifs,0⟩] scope pos) 0 (.ref it) acc {cenv with scope:=relabel scope X.env }) (RR acc cenv.locals) s₄) E s₃) E s2:=by
 refine wpAny_newObj_type (wpAny_newFunctionEnv hcell (by intro y hy;simp at hy) (fun h₁ hns₁ hsb₁=>?_) hkind)
 dsimp only at hns₁ hsb₁ ⊢
 generalize hH2:s2.heap.push {cls:=.type "list", dict:=none,data:=.seq ([]:List Value).toArray }=Hq at hns₁ hsb₁ ⊢
 have hC:Hq.objs.size=s2.heap.objs.size+1:=by rw[← hH2,Heap.size_push]
 generalize hDe:s2.heap.objs.size=D at hC ⊢
 generalize hCe:Hq.objs.size=C at hC hns₁ hsb₁ ⊢
 have hDC:D≠C:=by lia
 have below:∀b,b < D->b≠C/\b≠D:=fun b hb=>⟨by lia,by lia⟩
 have ltD:∀{b:Addr}{o:Obj},s2.heap.get? b=some o->b < D:=fun e=>hDe▸xO e
 have old:∀b o,s2.heap.get? b=some o->h₁.get? b=some o:=fun b o e=>hsb₁.extBut b o (below b (ltD e)).1 (xI _ (hH2▸xI _ e))
 have hacc:h₁.PlainList D #[]:=⟨_,hsb₁.extBut _ _ hDC (xI _ (by subst hDe;exact hH2▸yD _ rfl))⟩
 let X':Cx:=ccx X scope cl C (inN locs fr) s2 H1 fp (X.pn++pins)
 have ltC:s2.heap.objs.size<=C:=by rw[hDe,hC];exact Nat.le_succ _
 have fpC:Vf X pins H1 C:=I.fpOk ltC (I.hok.fresh ltC)
 have fpD:Vf X pins H1 D:=I.fpOk (Nat.le_of_eq hDe) (I.hok.fresh (Nat.le_of_eq hDe))
 have stkN:∀b,b≠X.env.locals->b∉X.fs->b∉frs X.stack:=fun b h1 h2 z=>(xE.mp (I.stkSub b z)).elim h1 h2
 have ok':X'.Ok:=by
  refine⟨I.ok.mod,hkind,I.ok.glob,I.ok.blt,ltC,fun x y c h1 h2=>I.ok.inj x y c (cl1 x c h1) (cl1 y c h2),fun x hx=>?_,fun x c h=>?_,I.ok.hd,I.ok.frames,.inl rfl,fun b hb=>?_,fun b o e=>I.bs b o e,yK I.ok.bsz I.sz,fun b o e hb=>?_,fun b hb=>?_,I.stack,I.stkFree⟩
  ·obtain⟨c,hcc⟩:=cl2 x (Zhi hcell hx)
   exact⟨c,hcc⟩
  ·cases h
  ·refine⟨fun z=>?_,fun x c e=>(hf b hb).2.2.2.2.1 x c (cl1 x c e)⟩
   obtain⟨o,ho,_⟩:=T.obj _ _ st0 b hb
   have z':b=C:=z
   exact(below b (ltD ho)).1 z'
  ·have hb':=hf b hb
   rcases hb'.2.2.2.1 with z | z
   ·exact I.ok.noex b o e z
   ·exact absurd (xS (xO e) (yK I.ok.bsz z)) (zL _)
  ·exact stkN b (hf b hb).2.1 (hf b hb).2.2.1
 have I1:Inv X' [] (inS locs fr σ) H1 {s2 with heap:=h₁,toks:=s2.toks+([]:List (Str×Value)).length }:=by
  refine⟨ok',I.os.symm▸rfl,I.bare,Un.kept old,⟨_,hns₁,fun i x v h1 h2 h3=>?_⟩,fun x c e=>?_,I.hok.fresh ltC,fun x c e=>I.freeC x c (cl1 x c e),fun p hp=>?_,I.hok.kept old,?_⟩
  ·-- a slot of the block that has a value is a free name's
   have hge:locs.length<=i:=by
    by_cases hi:i < locs.length
    ·unfold inS at h2
     rw[zB (by simpa using hi),List.getElem?_replicate,if_pos hi] at h2
     cases h2
    ·lia
   have h1':(fr.map (·.1))[i - locs.length]? = some x:=by
    have h1:(inN locs fr)[i]? = some x:=h1
    unfold inN at h1
    rw[yS hge] at h1
    exact h1
   have h2':(fr.map fun p=>(σ[p.2]?).join)[i - locs.length]? = some (some v):=by
    unfold inS at h2
    rw[yS (by simpa using hge),List.length_replicate] at h2
    exact h2
   rw[xG] at h1' h2'
   cases e:fr[i - locs.length]? with
   | none=>rw[e] at h1';cases h1'
   | some p =>
    rw[e] at h1' h2'
    have ex:p.1=x:=Option.some.inj h1'
    have ev:(σ[p.2]?).join=some v:=Option.some.inj h2'
    obtain⟨f1,f2⟩:=F.slots p (xF e)
    have ev' : σ[p.2]? = some (some v):=by
     cases q : σ[p.2]? with
     | none=>rw[q] at ev;cases ev
     | some o=>rw[q] at ev;cases o with
      | none=>cases ev
      | some v'=>cases ev;rfl
    obtain⟨m0,hn0,hl0⟩:=I.loc
    have vis0:Vis X.env.scope p.1:=by
     rcases f2 with z | z
     ·exact .inr (.inl z)
     ·exact .inr (.inr z)
    obtain⟨u,ru,lk⟩:=hl0 p.2 p.1 v f1 ev' vis0
    have hxm:x∉locs:=fun z=>by
     have hnd':=hnd
     unfold inN at hnd'
     exact(List.nodup_append.mp hnd').2.2 x z x (List.mem_map.mpr ⟨p,xF e,ex⟩) rfl
    refine⟨u,ru,?_⟩
    rcases lk with⟨hk,_⟩ | ⟨hk,c,hcc,hce⟩
    ·rcases f2 with z | z
     ·rw[z] at hk;cases hk
     ·rw[z] at hk;cases hk
    ·-- in the block it is a cell or free name
     have h3:Vis (relabel scope X.env) x:=h3
     have hk':(compEnvC scope cl C X.env).kindOf x=some .cell\/(compEnvC scope cl C X.env).kindOf x=some .free:=by
      rcases h3 with z | z | z
      ·exfalso
       have q:=Zd1 (env:=X.env) (F.kind p (xF e))
       rw[ex] at q
       rcases q with q | q
       ·have z':some NameKind.local=some NameKind.cell:=z.symm.trans q
        cases z'
       ·have z':some NameKind.local=some NameKind.free:=z.symm.trans q
        cases z'
      ·exact .inl z
      ·exact .inr z
     obtain⟨c',hc'⟩:=cl2 x (Zhi hcell hk')
     have:=cl1 x c' hc'
     rw[← ex,hcc] at this
     cases this
     refine .inr ⟨hk',c,hc',?_⟩
     obtain⟨o,ho,hd⟩:=hce
     exact⟨o,old _ _ ho,hd⟩
  ·obtain⟨v,o,ho,hd⟩:=I.cell x c (cl1 x c e)
   exact⟨v,o,old _ _ ho,hd⟩
  ·have hp':p∈X.pn++pins:=(xM.mp hp).elim id fun z=>nomatch z
   obtain⟨e,n,ne,nf,d⟩:=I.pin p hp'
   exact⟨old _ _ e,n,(below _ (ltD e)).1,stkN _ ne nf,d⟩
  ·show (inS locs fr σ).length=(inN locs fr).length
   unfold inS inN
   simp
 have fpLt:∀b∈fp,b < D:=fun b hb=>by
  obtain⟨o,ho,_⟩:=T.obj _ _ st0 b hb
  exact ltD ho
 obtain⟨m0,w0⟩:=w0
 let oD:List Value->Nat->Obj:=fun its k=>{cls:=.type "list", data:=.seq its.toArray k }
 have stat:∀{H':Hp}{ob:Obj},(∀b∈fp,H' b=none)->∀b∈fp,Vf X' [(D,ob)] H' b:=fun {H' ob} hn b hb=>by
  obtain⟨f0,f1,f2,f3,f4,f5⟩:=hf b hb
  refine⟨hn b hb,(below b (fpLt b hb)).1,stkN b f1 f2,.inl hb,fun x c e=>f4 x c (cl1 x c e),fun p hp z=>?_⟩
  rcases xM.mp hp with q | q
  ·exact f5 p q z
  ·have e:p=(D,ob):=by simpa using q
   subst e
   exact(below b (fpLt b hb)).2 z.symm
 have loop:∀s₃:Shared,s₃={s2 with heap:=h₁,toks:=s2.toks+([]:List (Str×Value)).length }->
   codeAny (model X.prog X.w) X.A (.compLoop (.ListComp elt [⟨tg,iter,ifs,0⟩] scope pos) 0 (.ref it) (.ref D) (compEnvC scope cl C X.env)) (RR (.ref D) C) s₃:=by
  rintro s₃ rfl
  refine Zmr (fun n s'=>∃(i:Nat)(ls:St)(H':Hp)(ys:List V)(its:List Value)(k:Nat),ls.length=locs.length/\Inv X' [(D,oD its k)] (ls++inF fr σ) H' s'/\tn i s'.heap/\(∀b∈fp,H' b=none)/\Vals ys its/\W i n ys H') (EX:=fun e s'=>∃pE' σ2 H',Inv X' pE' σ2 H' s'/\EE H' e s') ?_ ?_ m0 ?_
  ·rintro e s4 ⟨pE',σ2,H3,I4,q⟩
   obtain⟨mC,hnC,_⟩:=I4.loc
   have hnC:s4.heap.Ns C mC:=hnC
   have nC:H3 C=none:=I4.free
   have I5:Inv X pins σ H3 s4:=I.call' (ch:=fp) (show s4.os=s2.os from I4.os) I4.base I4.hok I4.bare fun b hb=>by
    obtain⟨f0,f1,f2,f3,f4,f5⟩:=hf b hb
    exact⟨f3,f1,f4,f5⟩
   exact hER D C H3 e s4 mC I5 (I.fpOk ltC nC) hnC q
  ·rintro n s3 ⟨i,ls,H3,ys,its,k,hls,I3,st3,fr3,rv,w3⟩
   rcases turn i n ys H3 w3 with⟨stop,hz,q⟩ | ⟨go,hz,m',hm,step⟩
   ·refine thn (T.done X' rfl rfl rfl hc i _ s3 _ H3 (fun _ _=>False) I3 (stat fr3) st3 stop) fun r s4 ⟨hr,I4⟩=>?_
    subst hr
    obtain⟨pD,nD,_,_,_⟩:=I4.pin (D,oD its k) (xJ _ yC)
    have nD:H3 D=none:=nD
    obtain⟨mC,hnC,_⟩:=I4.loc
    have hnC:s4.heap.Ns C mC:=hnC
    have nC:H3 C=none:=I4.free
    have new:ObjOk X.prog X.w (upd H3 D (.lst ys)) s4.heap D (.lst ys):=⟨hz,its,k,rv,pD⟩
    have hok4:HOk X.prog X.w (upd H3 D (.lst ys)) s4.heap:=Zr2 I4.hok nD new
    have u4:Un (frs X.stack) fp H1 H3 s2.heap s4.heap:=I4.base
    have u5:Un (frs X.stack) fp H1 (upd H3 D (.lst ys)) s2.heap s4.heap:=by
     refine⟨u4.keep,u4.slot,fun b o e n hx=>?_,u4.there,fun b xs e=>?_,fun b o u e=>?_,fun b ps e=>?_⟩
     ·rw[Zf (below b (ltD e)).2];exact u4.free b o e n hx
     ·rw[Zf (Zp e fpD.1)];exact u4.tups b xs e
     ·rw[Zf (Zp e fpD.1)];exact u4.frzs b o u e
     ·rw[Zf (Zp e fpD.1)];exact u4.tbls b ps e
    have I5:Inv X pins σ (upd H3 D (.lst ys)) s4:=by
     refine I.call' (ch:=fp) ?_ u5 hok4 I4.bare fun b hb=>?_
     ·have:s4.os=s2.os:=I4.os
      exact this
     ·obtain⟨f0,f1,f2,f3,f4,f5⟩:=hf b hb
      exact⟨f3,f1,f4,f5⟩
    have fpC':Vf X pins (upd H3 D (.lst ys)) C:=I.fpOk ltC (by rw[Zf hDC.symm];exact nC)
    exact hRR D C ys H3 s4 mC nD hDC I5 fpC' hnC q
   ·refine thn (T.item X' rfl rfl rfl hc i _ s3 _ H3 (fun _ _=>False) I3 (stat fr3) st3 go) fun r s4 ⟨u,hr,h4⟩=>?_
    subst hr
    refine thn h4 fun _ s5 ⟨x,H5,I5,r5,y5,st5,fr5⟩=>?_
    obtain⟨hg,htt⟩:=inner C s2 H1 fp (X.pn++pins)
    have I5':=I5.pinned (stat fr5) (T.obj _ _ st5)
    refine thn (hg _ s5 _ H5 x u _ I5' r5 (step x H5 y5 ls hls)) fun _ s6 ⟨σ6,H6,I6,⟨l6,hl6,e6⟩,q6⟩=>?_
    subst e6
    refine thn (htt _ s6 _ H6 _ I6 q6) fun ok s7 ⟨H7,I7,q7⟩=>?_
    have again:∀{H8:Hp}{s8:Shared},Inv X' ([(D,oD its k)]++Zac fp s5.heap) (l6++inF fr σ) H8 s8->tn (i+1) s8.heap/\∀b∈fp,H8 b=none:=fun {H8 s8} I8=>by
     refine⟨T.keep _ _ _ st5 fun b hb o e=>(I8.pin (b,o) (xJ _ (xJ _ (Zb3 hb e)))).1,fun b hb=>?_⟩
     obtain⟨o,e,d⟩:=T.obj _ _ st5 b hb
     exact(I8.pin (b,o) (xJ _ (xJ _ (Zb3 hb e)))).2.1
    cases ok with
    | false =>
     rw[if_neg xH] at q7 ⊢
     obtain⟨a1,a2⟩:=again I7
     exact⟨m',hm,i+1,l6,H7,ys,its,k,hl6,I7.unpinned,a1,a2,rv,q7⟩
    | true =>
     rw[if_pos rfl] at q7 ⊢
     refine thn (hel C _ s7 _ H7 _ (fun b hb=>let ⟨o,ho,_⟩:=T.obj _ _ st5 b hb;⟨o,xJ _ (Zb3 hb ho)⟩) I7 q7) fun yv s8 ⟨y,H8,I8,r8,q8⟩=>?_
     obtain⟨a1,a2⟩:=again I8
     obtain⟨pD,nD,_,nfD,_⟩:=I8.pin (D,oD its k) (xJ _ (zO _ yC))
     have nD:H8 D=none:=nD
     have hl8:s8.heap.PlainList D its.toArray:=⟨k,pD⟩
     have hlen:its.toArray.size<=sizeLine:=by
      rw[xL,← rv.length];lia
     refine wpAny_list_append_plain (hsz:=hlen) hl8 fun h9 hl9 hs9=>?_
     obtain⟨k9,e9⟩:=hl9
     have I9:Inv X' (Zac fp s5.heap) (l6++inF fr σ) H8 s8:=I8.pins_of fun p hp=>I8.pin p (xJ _ (xJ _ hp))
     have I10:Inv X' (Zac fp s5.heap) (l6++inF fr σ) H8 {s8 with heap:=h9 }:=by
      refine I9.turned (it:=D) (t':=s8.toks) (fun b o hb e=>(hs9.2 b hb).trans e) nD ?_ ?_ ?_ ?_
      ·exact hDC
      ·exact .inr (Nat.le_of_eq hDe)
      ·exact fun x c e=>fpD.2.2.2.2.1 x c (cl1 x c e)
      ·intro p hp z
       rcases xM.mp hp with q | q
       ·exact fpD.2.2.2.2.2 p q z
       ·have:=fpLt p.1 (Zhv q).1
        exact(below p.1 this).2 z
     have e9':h9.get? D=some (oD (its ++ [yv]) k9):=by
      rw[e9];simp[oD]
     have I11:Inv X' [(D,oD (its ++ [yv]) k9)] (l6++inF fr σ) H8 {s8 with heap:=h9 }:=I10.pins_of fun p hp=>by
      have e:p=(D,oD (its ++ [yv]) k9):=by simpa using hp
      subst e
      exact⟨e9',nD,hDC,nfD,fun v z=>by cases z⟩
     refine⟨m',hm,i+1,l6,H8,ys ++ [y],its ++ [yv],k9,hl6,I11,?_,a2,Vals.append rv (.cons r8 .nil),q8⟩
     exact T.keep _ _ _ a1 fun b hb o e=>(hs9.2 b (below b (fpLt b hb)).2).trans e
  ·have e0:List.replicate locs.length none++inF fr σ=inS locs fr σ:=rfl
   obtain⟨k0,eD⟩:=hacc
   refine⟨0,List.replicate locs.length none,H1,[],[],k0,by simp,?_,T.keep _ _ _ st0 fun b _ o e=>old b o e,fun b hb=>(hf b hb).1,.nil,w0⟩
   rw[e0]
   refine I1.pins_of fun p hp=>?_
   have e:p=(D,oD [] k0):=by simpa using hp
   subst e
   exact⟨eD,fpD.1,hDC,stkN D fpD.2.1 fpD.2.2.1,fun v z=>by cases z⟩
 exact codeAny_compStart_list (loop _ rfl) (T.self _ 0 _ _ _ (T.keep _ _ _ st0 fun b _ o e=>old b o e) (loop _ rfl))
structure CompOk (X:Cx) (scope:Scope) (locs:List Str) (fr:List (Str×Nat)):Prop where
 kind:scope.kind = .function
 nocell:∀y∈scope.names,y.2 ≠ .cell
 names:∀y∈scope.names,y.2 = .local->scope.names.lookup y.1=some .local
 own:∀x∈locs,scope.names.lookup x=some .local
 free:∀y∈scope.names,y.2 = .free->y.1∈fr.map (·.1)
 nd:(inN locs fr).Nodup
theorem FrOk.nil:FrOk X scope []:=⟨(fun _ h=>nomatch h),(fun _ h=>nomatch h)⟩
theorem FrOk.cons{x:Str}{j:Nat}{fr:List (Str×Nat)}(h1:X.N[j]? = some x)(h2:X.env.kindOf x=some .cell\/X.env.kindOf x=some .free)(h3:scope.names.lookup x=some .free)(t:FrOk X scope fr):FrOk X scope ((x,j)::fr) :=
 ⟨fun p hp=>(xE.mp hp).elim (fun e=>by subst e;exact⟨h1,h2⟩) (t.slots p),fun p hp=>(xE.mp hp).elim (fun e=>by subst e;exact h3) (t.kind p)⟩
theorem CompOk.clos{pins:List (Addr×Obj)}{σ:St}{H:Hp}{s:Shared}(S:CompOk X scope locs fr)(F:FrOk X scope fr)(I:Inv X pins σ H s) :
  ∃cl,closureFor scope X.env=pure cl/\(∀x c,cl.lookup x=some c->X.env.cells.lookup x=some c)/\(∀x,(x,NameKind.free)∈scope.names->∃c,cl.lookup x=some c):=by
 refine Znq fun p hp hk=>?_
 obtain⟨q,hq,e⟩:=List.mem_map.mp (S.free p hp hk)
 obtain⟨c,hc⟩:=I.ok.has q.1 (F.slots q hq).2
 exact⟨c,e▸hc⟩
theorem Zpm{wi:TI}(S:CompOk X scope locs fr)(F:FrOk X scope fr)(hc:X.calm=true)(hi:PI X tg iter wi)(inner:∀ (cl:List (Str×Addr)) (C:Addr) (s0:Shared) (H0:Hp) (ex:List Addr) (pn:List (Addr×Obj)),PG (ccx X scope cl C (inN locs fr) s0 H0 ex pn) tg g/\PTs (ccx X scope cl C (inN locs fr) s0 H0 ex pn) ifs tt/\PE (ccx X scope cl C (inN locs fr) s0 H0 ex pn) elt te)(hs:∀x,foldedSetIterable iter X.env x=pure x:=by intro _;rfl):PE X (.ListComp elt [⟨tg,iter,ifs,0⟩] scope pos) (Zdk locs.length fr wi g tt te):=by
 intro pins s σ H Q I h
 obtain⟨cl,hcl,cl1,cl2⟩:=S.clos F I
 rw[eval_ListComp]
 refine wpAny_comprehension_free (use:=none) rfl hs hcl S.kind S.names (thn (hi pins s σ H _ I h) fun v s1 h1=>thn h1 fun itv s2 h2=>?_)
 obtain⟨it,fp,tn,J,H1,e,I2,T,st2,f2,W,w0,turn⟩:=h2
 subst e
 refine Zh5 (QQ:=fun ys H'=>∀l,H' l=none->Q (.ref l) (upd H' l (.lst ys))) (EE:=fun _ _ _=>False) hc S.kind S.nocell S.own F S.nd cl1 cl2 (fun C s0 H0 ex pn=>let ⟨a,b,_⟩:=inner cl C s0 H0 ex pn;⟨a,b⟩) (fun C pE s σ' H Y _ I h=>wpAny_mono ((inner cl C s2 H1 fp (X.pn++pins)).2.2 pE s σ' H Y I h) (fun _ _ q=>q) fun _ _ z=>z.elim) (fun _ _ _ _ _ _ _ _ _ z=>z.elim) I2 T st2 f2 w0 turn fun D C ys H' s' m nD hDC I' fC hn q=>?_
 refine⟨m,hn,fun h' hs'=>?_⟩
 obtain⟨f0,f1,f2,f3,f4,f5⟩:=fC
 exact⟨.ref D,_,I'.turned (it:=C) (t':=s'.toks) (fun b o hb e=>(hs'.2 b hb).trans e) f0 f1 f3 f4 f5,rfl,q D nD⟩
theorem Zr3{wi:TI}{i:Nat}{x:Str}{pos' spos:Pos}(S:CompOk X scope locs fr)(F:FrOk X scope fr)(hc:X.calm=true)(hi:PI X tg iter wi)(inner:∀ (cl:List (Str×Addr)) (C:Addr) (s0:Shared) (H0:Hp) (ex:List Addr) (pn:List (Addr×Obj)),PG (ccx X scope cl C (inN locs fr) s0 H0 ex pn) tg g/\PTs (ccx X scope cl C (inN locs fr) s0 H0 ex pn) ifs tt/\PE (ccx X scope cl C (inN locs fr) s0 H0 ex pn) elt te)(hN:X.N.Nodup)(hi0:X.N[i]? = some x)(hx:X.env.scope.names.lookup x=some .local)(hsw:swapsWith (.ListComp elt [⟨tg,iter,ifs,0⟩] scope pos) (some (.Name x pos')) spos.line X.env=pure true)(hs:∀x,foldedSetIterable iter X.env x=pure x:=by intro _;rfl):PS X (.Assign [.Name x pos'] (.ListComp elt [⟨tg,iter,ifs,0⟩] scope pos) spos) (V8 (Zdk locs.length fr wi g tt te) (Wa i)):=by
 intro pins s σ H D0 I h
 obtain⟨cl,hcl,cl1,cl2⟩:=S.clos F I
 rw[exec_Assign_Name_used _ _ _ _ hsw]
 refine wpAny_bind (wpAny_standAt (wpAny_bind ?_))
 show wpAny _ X.A (do let _ ← comprehension (.ListComp elt [⟨tg,iter,ifs,0⟩] scope pos) scope X.env _ (newList []) false (eval iter X.env) (some (assign (.Name x pos') X.env))) _ _ s
 refine wpAny_bind (wpAny_mono (wpAny_comprehension_free (use:=some (assign (.Name x pos') X.env)) (Q:=fun _ s'=>SP X pins D0 .next s') rfl hs hcl S.kind S.names (thn (hi pins s σ H _ I h) fun v s1 h1=>thn h1 fun itv s2 h2=>?_)) (fun _ s' hq=>wpAny_pure (wpAny_pure hq)) fun _ _ e=>e)
 obtain⟨it,fp,tn,J,H1,e,I2,T,st2,f2,W,w0,turn⟩:=h2
 subst e
 refine Zh5 (QQ:=fun ys H'=>∀l,H' l=none->Wa i (.ref l) σ (upd H' l (.lst ys)) D0.nx) (EE:=fun _ _ _=>False) hc S.kind S.nocell S.own F S.nd cl1 cl2 (fun C s0 H0 ex pn=>let ⟨a,b,_⟩:=inner cl C s0 H0 ex pn;⟨a,b⟩) (fun C pE s σ' H Y _ I h=>wpAny_mono ((inner cl C s2 H1 fp (X.pn++pins)).2.2 pE s σ' H Y I h) (fun _ _ q=>q) fun _ _ z=>z.elim) (fun _ _ _ _ _ _ _ _ _ z=>z.elim) I2 T st2 f2 w0 turn fun D C ys H' s' m nD hDC I' fC hn q=>?_
 obtain⟨f0,f1,f2,f3,f4,f5⟩:=fC
 obtain⟨oC,es,ep,hoC,hdC,hrC⟩:=id hn
 have I6:Inv X (pins ++ [(C,oC)]) σ (upd H' D (.lst ys)) s':=I'.pins_of fun p hp=>(xM.mp hp).elim (fun z=>I'.pin p (xJ _ z)) fun z=>by
  have e:p=(C,oC):=by simpa using z
  subst e
  exact⟨hoC,f0,f1,f2,fun v z=>by rw[hdC] at z;cases z⟩
 refine wpAny_assign_Name (Zc2 (v:=.ref D) I6 hN hi0 (.inl hx) rfl (fun s'' I''=>?_) (.inr hx))
 obtain⟨p1,p2,p3,p4,p5⟩:=I''.pin (C,oC) (xJ _ (xJ _ yC))
 refine⟨m,⟨oC,es,ep,p1,hdC,hrC⟩,fun h' hs'=>?_⟩
 have I7:Inv X pins (σ.set i (some (.ref D))) (upd H' D (.lst ys)) s'':=I''.unpinned
 exact⟨_,_,I7.turned (it:=C) (t':=s''.toks) (fun b o hb e=>(hs'.2 b hb).trans e) p2 p3 f3 f4 f5,q D nD⟩
end
section
variable{X:Cx}{scope:Scope}{cl:List (Str×Addr)}{C:Addr}{N':List Str}{s0:Shared}{H0:Hp}{ex:List Addr}{pn:List (Addr×Obj)}
theorem pvL(i:Nat){x:Str}{pos:Pos}(hN:N'[i]? = some x:=by rfl)(h:scope.names.lookup x=some .local:=by rfl)(hd:(x == ("__debug__" : Str))=false:=by decide)(hcd:(x == ("__classdict__" : Str))=false:=by decide) :
  PE (ccx X scope cl C N' s0 H0 ex pn) (.Name x pos) (tVar i):=Zdb hN (.inl (lookup_relabel_local h)) hd hcd
theorem pvF(i:Nat){x:Str}{pos:Pos}(hN:N'[i]? = some x:=by rfl)(h:scope.names.lookup x=some .free:=by rfl)(hd:(x == ("__debug__" : Str))=false:=by decide)(hcd:(x == ("__classdict__" : Str))=false:=by decide) :
  PE (ccx X scope cl C N' s0 H0 ex pn) (.Name x pos) (tVar i):=Zdb hN ((Zd1 h).elim (fun z=>.inr (.inl z)) fun z=>.inr (.inr z)) hd hcd
theorem pgL(i:Nat){x:Str}{pos:Pos}(hnd:N'.Nodup)(hN:N'[i]? = some x:=by rfl)(h:scope.names.lookup x=some .local:=by rfl):PG (ccx X scope cl C N' s0 H0 ex pn) (.Name x pos) (Wa i) :=
 Ziu (X:=ccx X scope cl C N' s0 H0 ex pn) hnd hN (.inl (lookup_relabel_local h)) (.inr (lookup_relabel_local h))
end
end
section
def sgn(x:Str)(i:Nat):V:=.str ⟨#[x.cps.getD i 0]⟩
def Its(x:Str):It:=⟨fun i _=>i < x.length,fun i H v H'=>H'=H/\v=sgn x i,fun i _=>i=x.length⟩
theorem Zhg{P:Program}{w:World}{A:Around}(hh:A.handled=none)(I:Addr)(x:Str)(t:Tok) :
  Walks P w A I [I] [I] x.cps.size (SignAt x) (fun i h=>h.IsStrIter I (strIterType x) x t i):=by
 unfold strIterType
 cases ha:x.cps.all (· < 128)
 ·exact Walks.strWide hh I x t
 ·exact Walks.strAscii hh I x t
theorem Zpn{P:Program}{w:World}{K:uFg}{tg:Expr}(it:Addr)(x:Str)(t:Tok):Turn P w K tg (Its x) [it] it (fun i h=>h.IsStrIter it (strIterType x) x t i) where
 mem:=by simp
 obj:=fun i h st b hb=>by
  have e:b=it:=by simpa using hb
  subst e
  obtain⟨o,e,c,d⟩:=st
  exact⟨o,e,fun v z=>by rw[d] at z;cases z⟩
 keep:=fun i h h' st k=>let ⟨o,ho,r⟩:=st;⟨o,k it (by simp) o ho,r⟩
 item:=by
  intro X hP hw hK hc i pins s σ H E I hf st hg
  subst hP hw hK
  obtain⟨f0,f1,f2,f3,f4,f5⟩:=hf it (by simp)
  refine(Zhg (I.ok.hd hc) it x t).item i s _ _ hg st fun v h' tk hv st' kk=>?_
  obtain⟨c,u,hcx,rfl⟩:=hv
  have I1:Inv X pins σ H {s with heap:=h',toks:=tk }:=I.turned (fun b o hb e=>kk b o (by simpa using hb) e) f0 f1 f3 f4 f5
  obtain⟨o,e,cc,d⟩:=id st'
  have hn : ["enumerate", "zip", "dict_itemiterator", "dict_reverseitemiterator", "odict_iterator", "itertools.zip_longest", "itertools.pairwise"].contains (strIterType x)=false:=by
   unfold strIterType
   split<;>decide
  refine⟨_,rfl,Ze0 (s:={s with heap:=h',toks:=tk }) e cc d hn ⟨sgn x i,H,I1,⟨u,?_⟩,⟨rfl,rfl⟩,st',fun b hb=>(hf b hb).1⟩⟩
  rw[Array.getD_eq_getD_getElem?,hcx]
  all_goals rfl
 done:=by
  intro X hP hw hK hc i pins s σ H E I hf st hg
  subst hP hw hK
  obtain⟨f0,f1,f2,f3,f4,f5⟩:=hf it (by simp)
  have e:i=x.cps.size:=hg
  subst e
  exact(Zhg (I.ok.hd hc) it x t).done s _ _ st fun h' tk kk=>⟨rfl,I.turned (fun b o hb e=>kk b o (by simpa using hb) e) f0 f1 f3 f4 f5⟩
 self:=fun A i s Q E st h=>by
  have st:s.heap.IsStrIter it (strIterType x) x t i:=st
  unfold strIterType at st
  split at st
  ·exact wpAny_pyIter_striter_ascii st h
  ·exact wpAny_pyIter_striter_wide st h
inductive iStr_ (R:It->Hp->Prop) (v:V) (H1:Hp):Prop
 | mk (x) (h0:v = .str x) (h1:R (Its x) H1)
def Zl8(te:TE):TI:=fun σ H R=>te σ H fun v H1=>iStr_ R v H1
theorem Zt4{X:Cx}{tg l:Expr}{tl:TE}(hl:PE X l tl):PI X tg l (Zl8 tl):=by
 intro pins s σ H R I h
 refine thn (hl pins s σ H _ I h) fun v s1 ⟨y,H1,I1,r1,q1⟩=>?_
 obtain⟨x,e,q⟩:=q1
 subst e
 obtain⟨t,rfl⟩:=r1
 refine wpAny_pyIter_strU ?_
 refine⟨s1.heap.objs.size,[s1.heap.objs.size],_,_,H1,rfl,I1.kept (t':=s1.toks) fun b o e=>xI _ e,Zpn _ x t,⟨_,yD _ rfl,rfl,rfl⟩,fun b hb=>?_,q⟩
 have e:b=s1.heap.objs.size:=by simpa using hb
 subst e
 exact I1.fpOk (xK _) (I1.hok.fresh (xK _))
section
variable{X:Cx}
theorem Zoo:OpR X (compareOp .LtE) (fun x y H Q=>∃i j,x = .str i/\y = .str j/\Q (.bl (!decide (j.cps.toList < i.cps.toList))) H):=by
 intro pins s σ H x y v u Q I rx ry h
 obtain⟨i,j,rfl,rfl,q⟩:=h
 obtain⟨t,rfl⟩:=rx
 obtain⟨t',rfl⟩:=ry
 exact P.le_str ⟨.bl _,H,I,rfl,q⟩
end
theorem Zhl{v:Value}{o:Option Int}(h:IsPart v o):∃l:Option (Int×Tok),v=partValue l/\l.map (·.1)=o:=by
 cases h with
 | none=>exact⟨none,rfl,rfl⟩
 | int i t=>exact⟨some (i,t),rfl,rfl⟩
section
variable{X:Cx}
theorem Zt5:SlR X (fun x lo hi H Q=>∃z,x = .str z/\z.length<=sizeLine/\Q (.str (Txt.slice z lo hi)) H):=by
 intro pins s σ H x v vl vu lo hi sl Q I rx hs pl pu h
 obtain⟨z,rfl,hz,q⟩:=h
 obtain⟨t,rfl⟩:=rx
 obtain⟨l,rfl,rfl⟩:=Zhl pl
 obtain⟨u,rfl,rfl⟩:=Zhl pu
 refine⟨"str", _,F.slot_str_getitem.lookup,typeIs_str _ _ _,?_⟩
 refine wpAny_getItem_str_slice (l:=l) (u:=u) (st:=none) hs rfl (post_val_or_str ⟨yK (Txt.slice_le z _ _) hz,fun t' k=>?_⟩)
 exact⟨.str _,H,I.tok _,⟨t',rfl⟩,q⟩
end
theorem Znr{ys:List Str}:∀{us:List Value},Vals (ys.map V.str) us->StrsAre us ys:=by
 induction ys with
 | nil=>intro us r;rw[zD] at r;cases r;exact .nil
 | cons n ns ih =>
  intro us r
  rw[xU] at r
  cases r with
  | cons r1 r2 =>
   obtain⟨t,e⟩:=r1
   subst e
   exact .cons n t (ih r2)
section
variable{X:Cx}
theorem Zr4:MtR X "str.join" (fun x xs H Q=>∃sep a ys,x = .str sep/\xs = [.ref a]/\SqL X.K H a (ys.map V.str)/\(ys.map (·.length)).sum+ys.length * sep.length<=16777216/\Q (.str (Txt.join sep ys)) H):=by
 intro pins s σ H x xs v us Q I rx rs h
 obtain⟨sep,a,ys,rfl,rfl,ha,hz,q⟩:=h
 obtain⟨t,rfl⟩:=rx
 obtain⟨u,rfl,ru⟩:=Zae rs
 cases ru
 obtain⟨its,r,p,_⟩:=I.list ha
 exact join_list p.isList (Znr r) hz fun t' k=>⟨.str _,H,I.tok _,⟨t',rfl⟩,q⟩
theorem Zpo(hc:X.calm=true):Vv X (.builtin "all") (fun xs H Q=>∃(a:Addr)(bs:List Bool),xs = [.ref a]/\SqL X.K H a (bs.map V.bl)/\Q (.bl (bs.all id)) H):=by
 intro pins s σ H xs us Q I r h
 obtain⟨a,bs,rfl,ha,q⟩:=h
 obtain⟨u,rfl,ru⟩:=Zae r
 cases ru
 obtain⟨its,rv,p,_⟩:=I.list ha
 have hlt:a < s.heap.objs.size:=by obtain⟨o,n,e,_⟩:=p;exact xO e
 refine call_all_walk (wpAny_pyIter_list p.isList ?_)
 refine⟨s.heap.objs.size,_,_,_,_,_,fun i=>bs.getD i true,rfl,Walks.list (A:=X.A.in1) (I.ok.hd hc) _ a (yM hlt) its.toArray,⟨⟨_,yD _ rfl,rfl,rfl⟩,p.isList.push _⟩,?_,fun h' tk hk=>?_⟩
 ·intro i v s' Q' E' hv hq
  have hv:its.toArray[i]? = some v:=hv
  have hv':its[i]? = some v:=by simpa using hv
  have hlen:bs.length=its.length:=by have:=rv.length;simpa using this
  have hi:i < its.length:=(xQ.mp hv').1
  have hb:(bs.map V.bl)[i]? = some (V.bl (bs.getD i true)):=by
   rw[xG,yN,xD (by lia)]
   rfl
  obtain⟨u,hu,ru⟩:=rv.get hb
  rw[hv'] at hu
  cases hu
  cases ru
  exact wpAny_truthy_bool hq
 ·have hlen:its.toArray.size=bs.length:=by have:=rv.length;simp at this ⊢;lia
  have e:(List.range its.toArray.size).all (fun i=>bs.getD i true)=bs.all id:=by
   rw[hlen,zE,yZ,yZ]
   constructor
   ·intro h b hb
    obtain⟨i,hi,e⟩:=List.mem_iff_getElem.mp hb
    have:=h i (List.mem_range.mpr hi)
    rw[yN,xD hi,e] at this
    exact this
   ·intro h i hi
    have hi:=List.mem_range.mp hi
    rw[yN,xD hi]
    exact h _ (List.getElem_mem hi)
  refine⟨.bl (bs.all id),H,I.kept (h':=h') (t':=tk) (fun b o eb=>hk b o ?_ (xI _ eb)),by rw[e];rfl,q⟩
  intro z
  have:b=s.heap.objs.size:=by simpa using z
  exact absurd (xO eb) (by rw[this];exact zL _)
theorem Znf:Vv X (.builtin "isinstance") (fun xs H Q=>∃x n t b,xs = [x,.ty n]/\TyOf X.K H x t/\PySem.W.kitOne X.K t (.type n)=some b/\Q (.bl b) H):=by
 intro pins s σ H xs us Q I r h
 obtain⟨x,n,t,b,rfl,ty,e,q⟩:=h
 obtain⟨u,w',rfl,ru,rw'⟩:=Zva r
 cases rw'
 exact Zof I ru ty e fun tk=>⟨.bl b,H,I.tok _,rfl,q⟩
def Zdl(X:Cx)(f:Value)(kw:Str)(r:List V->V->Hp->VK->Prop):Prop :=
 ∀(pins:List (Addr×Obj))(s:Shared)(σ:St)(H:Hp)(xs:List V)(us:List Value)(k:V)(ku:Value)(Q:VK),Inv X pins σ H s->Vals xs us->RelV k ku->r xs k H Q ->
  wpAny (model X.prog X.w) X.A (call f us [(kw,ku)]) (EP X pins σ Q) X.xe s
theorem Zop{x:Str}{p pos kp:Pos}{e ke:Expr}{es:List Expr}{t:TA}{tk:TE}{id:String}{kw:Str}{r:List V->V->Hp->VK->Prop}(hc:Zdl X (.builtin id) kw r)(hg:Gl X x)(hm:X.mg x=none)(hv:bootBuiltins x=some (.builtin id))(ha:PA X (e::es) t)(hk:PE X ke tk)(hn:x ≠ "__name__" := by decide)(hdb:(x == ("__debug__" : Str))=false:=by decide)(he:backTo pos (starEach (e::es) X.env)=(false,eval e X.env)::backTo pos (starEach es X.env):=by rfl)(hpl:(backTo pos (starEach (e::es) X.env)).any (·.1)=false:=by rfl) :
  PE X (.Call (.Name x p) (e::es) [⟨some kw,ke,kp⟩] pos) (fun σ H Q=>t σ H fun vs H1=>tk σ H1 fun k H2=>r vs k H2 Q):=by
 intro pins s σ H Q I h
 refine wpAny_Call_Name_kw (Zcd I hg hm hv ?_ hn hdb)
 refine PyProof.Rows.callWith_kw (thn (ha pos pins s σ H _ I h) fun us s1 ⟨vs,H1,I1,r1,q1⟩=>?_) he hpl rfl rfl
 refine PyProof.Rows.kws_cons (thn (hk pins s1 σ H1 _ I1 q1) fun ku s2 ⟨k,H2,I2,r2,q2⟩=>PyProof.Rows.kws_nil ?_)
 exact hc pins s2 σ H2 vs us k ku Q I2 r1 r2 q2
end
section
variable{K:uFg}
end
end
end L2
end
section
namespace L2
open PySem PySem.Spec PyProof.Rows
def Has(K:uFg)(mg:Str->Option Value)(x:Str)(st:Stmt):Prop:=∃f fd,Fun K x x st f fd/\mg x=some (.ref f)
def Fn(P:Program)(w:World)(K:uFg)(mg:Str->Option Value)(base:Heap)(x:Str)(ps:List Str)(k:Nat)(sp:Sp):Prop :=
 ∃f fd,mg x=some (.ref f)/\PySem.W.keepIn K (.ref f)=true/\Binds K fd ps []/\FnOk P w K mg base CX0 k f fd ps sp
section
variable{P:Program}{w:World}{K:uFg}{mg:Str->Option Value}{base:Heap}
theorem Has.fn{x:Str}{st:Stmt}{N ps:List Str}{k:Nat}{sp:Sp}(h:Has K mg x st)(S:FnScope N ps (Zs st))(hb:∀ (kV doc pm:Value) (an:Option Addr) (cdv ct:Value) (us:List Value),us.length=ps.length->bindArgs (PySem.W.fnOf x x (Y3 st) (Z9 st) (Zs st) .none kV doc pm an cdv ct) ⟨us,[]⟩=pure (ps.zip us))(len:∀vs H Q E,sp vs H Q E->vs.length=ps.length)(hbody:∀ (f:Addr) (cdv:Value) (A:Around) (outer:List Env) (s:Shared) (H:Hp) (vs:List V) (Q:VK) (E:XK),Room k (A.deeper (envOfC x (Zs st) s.heap.objs.size f cdv))->sp vs H Q E ->
   ∃t,PSs (Yg CX0 P w K mg base N x (Zs st) f cdv A outer s H E).nox (Z9 st) t/\t {nx:=fun _ H'=>Q .non H',rt:=Q } (start N vs) H):Fn P w K mg base x ps (k+1) sp:=by
 obtain⟨f,fd,F,hm⟩:=h
 exact⟨f,fd,hm,F.kp,F.binds hb,F.ok S len fun cdv A outer s H vs Q E hr q=>hbody f cdv A outer s H vs Q E hr q⟩
theorem Zt6{h:Heap}{x:Str}{st:Stmt}{f:Addr}{oc:Value}{od an:Option Addr}{osl:Array (Option Value)}{kV doc pm cdv ct:Value}(KX:K.In h)(G:h.Ns mainGlobals mg)(a:PySem.W.nsIn K mainGlobals x=some (some (.ref f)))(l:K.lookup f=some ⟨oc,od,.func (PySem.W.fnOf x x (Y3 st) (Z9 st) (Zs st) .none kV doc pm an cdv ct),osl⟩)(c:PySem.W.codeIn K cdv x=true)(k:PySem.W.keepIn K (.ref f)=true):Has K mg x st:=⟨f,_,Zew l c k,PySem.W.mg_of KX G a⟩
theorem hQ{h:Heap}(x:Str)(st:Stmt)(f c:Addr)(pm:Value)(KX:K.In h)(G:h.Ns mainGlobals mg)(e:PySem.W.nsIn K mainGlobals x=some (some (.ref f))/\K.lookup f=some ⟨.type "function", none,.func (PySem.W.fnOf x x (Y3 st) (Z9 st) (Zs st) .none .none .none pm none (.ref c) .none),#[]⟩/\PySem.W.codeIn K (.ref c) x=true/\PySem.W.keepIn K (.ref f)=true):Has K mg x st:=Zt6 KX G e.1 e.2.1 e.2.2.1 e.2.2.2
end
def tFn(sp:Sp)(t:TA):TE:=fun σ H Q=>t σ H fun vs H1=>sp vs H1 Q E0
section
variable{X:Cx}
theorem Zvf{k:Nat}{ps:List Str}{sp:Sp}{x:Str}{p pos:Pos}{e:Expr}{es:List Expr}{t:TA}(F:Fn X.prog X.w X.K X.mg X.base x ps k sp)(hr:Room k X.A)(hg:Gl X x)(ha:PA X (e::es) t)(hdb:(x == ("__debug__" : Str))=false:=by decide)(he:starEach (e::es) X.env=(false,eval e X.env)::starEach es X.env:=by rfl)(hpl:(backTo pos (starEach es X.env)).any (·.1)=false:=by rfl) :
  PE X (.Call (.Name x p) (e::es) [] pos) (tFn sp t):=by
 obtain⟨f,fd,hm,hk,hb,G⟩:=F
 intro pins s σ H Q I h
 refine Zrp G hr hg hm hk hb .nil Zdj ha hdb he hpl pins s σ H Q I ?_
 have e:Ze1 sp [] E0 t=tFn sp t:=by
  unfold Ze1 tFn
  simp only[xR]
 rw[e]
 exact h
theorem Zt7:UnR X (unaryOp .USub) (rU fun i=>.int (-i)):=by
 intro pins s σ H x v Q I rx h
 obtain⟨i,rfl,q⟩:=h
 obtain⟨t,rfl⟩:=rx
 exact neg_int ⟨.int (-i),H,I.tok _,⟨_,rfl⟩,q⟩
end
theorem Yv:bootBuiltins "len" = some (.builtin "len"):=by decide +kernel
theorem Zvg:bootBuiltins "max" = some (.builtin "max"):=by decide +kernel
theorem Zvh:bootBuiltins "all" = some (.builtin "all"):=by decide +kernel
theorem Vh:bootBuiltins "isinstance" = some (.builtin "isinstance"):=by decide +kernel
theorem Zjs:bootBuiltins "list" = some (.type "list"):=by decide +kernel
theorem Zt8:bootBuiltins "bool" = some (.type "bool"):=by decide +kernel
theorem Zvi:bootBuiltins "int" = some (.type "int"):=by decide +kernel
theorem Zvj:bootBuiltins "str" = some (.type "str"):=by decide +kernel
def SameX(s:Addr)(H H':Hp):Prop:=∀b o,b≠s->H b=some o->H' b=some o
theorem SameX.refl{s:Addr}{H:Hp}:SameX s H H:=fun _ _ _ e=>e
theorem SameX.trans{s:Addr}{H H1 H2:Hp}(a:SameX s H H1)(b:SameX s H1 H2):SameX s H H2:=fun c o n e=>b c o n (a c o n e)
theorem SameX.upd{s:Addr}{H:Hp}{o:HO}:SameX s H (upd H s o):=fun b _ n e=>by rw[Zf n];exact e
theorem SameX.new{s l:Addr}{H:Hp}{o:HO}(h:H l=none):SameX s H (L2.upd H l o):=fun b _ _ e=>by rw[Zf (Zp e h)];exact e
theorem Same.new{l:Addr}{H:Hp}{o:HO}(h:H l=none):Same H (L2.upd H l o):=fun b _ e=>by rw[Zf (Zp e h)];exact e
theorem Same.x{s:Addr}{H H':Hp}(h:Same H H'):SameX s H H':=fun b o _ e=>h b o e
def SrcAt(H:Hp)(s la:Addr):Prop:=∃(ns:List Int)(i big st cnt:Int),H s=some (.lst [.ref la,.int i,.int big,.int st,.int cnt])/\H la=some (.lst (ns.map V.int))/\0<=i/\la≠s
theorem SrcAt.keep{H H':Hp}{s la:Addr}(h:SrcAt H s la)(k:Same H H'):SrcAt H' s la:=by
 obtain⟨ns,i,big,st,cnt,h1,h2,h3,h4⟩:=h
 exact⟨ns,i,big,st,cnt,k _ _ h1,k _ _ h2,h3,h4⟩
theorem SrcAt.keepX{H H':Hp}{s la l:Addr}(h:SrcAt H s la)(k:SameX l H H')(n1:l≠s)(n2:l≠la):SrcAt H' s la:=by
 obtain⟨ns,i,big,st,cnt,h1,h2,h3,h4⟩:=h
 exact⟨ns,i,big,st,cnt,k _ _ n1.symm h1,k _ _ n2.symm h2,h3,h4⟩
theorem SrcAt.ne{H:Hp}{s la l:Addr}(h:SrcAt H s la)(hl:H l=none):l≠s/\l≠la:=by
 obtain⟨ns,i,big,st,cnt,h1,h2,h3,h4⟩:=h
 exact⟨(Zp h1 hl).symm,(Zp h2 hl).symm⟩
end L2
namespace L2
open PySem PySem.Spec PyProof.Rows
theorem Zr{c A B:Prop} [Decidable c] (h1:c->A) (h2:¬c->B):if decide c=true then A else B:=by
 by_cases h:c
 ·rw[if_pos (xW h)];exact h1 h
 ·rw[if_neg (by rw[xT h];exact xH)];exact h2 h
theorem Wb{c A B:Prop} [Decidable c] (h1:¬c->A) (h2:c->B):if (!decide c)=true then A else B:=by
 by_cases h:c
 ·rw[if_neg (by rw[xW h];exact xH)];exact h2 h
 ·rw[if_pos (by rw[xT h];rfl)];exact h1 h
theorem Zg4{b:Bool}{A B:Prop}(h1:b=true->A)(h2:b=false->B):if b=true then A else B:=by
 cases b
 ·rw[if_neg xH];exact h2 rfl
 ·rw[if_pos rfl];exact h1 rfl
theorem Zbm{b:Bool}{A B:Prop}(h1:b=false->A)(h2:b=true->B):if (!b)=true then A else B:=by
 cases b
 ·exact h1 rfl
 ·exact h2 rfl
theorem Zr5{ns:List Int}{i:Int}(h0 : 0<=i)(h1:i < (ns.map V.int).length):atI (ns.map V.int) i=some (.int (ns.getD i.toNat 0)):=by
 obtain⟨j,rfl⟩:=yJ h0
 rw[xA] at h1
 refine Wj ?_
 rw[xG,yV,yN,xD (by lia)]
 rfl
end L2
namespace L2
open PySem PySem.Spec PyProof.Rows
def Nm(sc:Scope)(x:Str)(k:NameKind):Prop:=sc.names.lookup x=some k/\(x == ("__debug__" : Str))=false/\(x == ("__classdict__" : Str))=false/\x ≠ "__name__"
instance (sc:Scope) (x:Str) (k:NameKind):Decidable (Nm sc x k):=by unfold Nm;exact inferInstance
section
variable{X:Cx}{x:Str}{pos:Pos}
theorem al1{α:Type _}{P:List α->Prop}(k:∀a,P [a]):∀l:List α,l.length=1->P l
 | [a],_=>k a
theorem al2{α:Type _}{P:List α->Prop}(k:∀a b,P [a,b]):∀l:List α,l.length=2->P l
 | [a,b],_=>k a b
theorem al3{α:Type _}{P:List α->Prop}(k:∀a b c,P [a,b,c]):∀l:List α,l.length=3->P l
 | [a,b,c],_=>k a b c
theorem al4{α:Type _}{P:List α->Prop}(k:∀a b c d,P [a,b,c,d]):∀l:List α,l.length=4->P l
 | [a,b,c,d],_=>k a b c d
theorem al5{α:Type _}{P:List α->Prop}(k:∀a b c d e,P [a,b,c,d,e]):∀l:List α,l.length=5->P l
 | [a,b,c,d,e],_=>k a b c d e
def nmB(X:Cx)(x:Str)(k:NameKind):Bool:=decide (Nm X.env.scope x k)
def ndB(X:Cx):Bool:=decide X.N.Nodup
abbrev nB(X:Cx)(x:Str)(k:NameKind):Prop:=nmB X x k=true
abbrev nD(X:Cx):Prop:=ndB X=true
theorem od{p:Prop} [Decidable p] (h:decide p=true):p:=of_decide_eq_true h
theorem fsc{N P:List Str}{sc:Scope}(a:sc.kind = .function:=by rfl)(h:decide (sc.isCoroutine=false/\sc.isGenerator=false/\N.Nodup/\N.take P.length=P/\(∀x∈P,sc.names.lookup x=some .local\/sc.names.lookup x=some .cell)/\∀y∈sc.names,y.2 ≠ .free)=true:=by kernel_rfl):FnScope N P sc :=
 have ⟨b,c,d,e,f,g⟩:=od h;⟨a,b,c,d,e,f,g⟩
theorem pvN(i:Nat)(n:Nm X.env.scope x .local)(hN:X.N[i]? = some x:=by rfl):PE X (.Name x pos) (tVar i):=Zdb hN (.inl n.1) n.2.1 n.2.2.1
theorem pvC(i:Nat)(n:Nm X.env.scope x .cell)(hN:X.N[i]? = some x:=by rfl):PE X (.Name x pos) (tVar i):=Zdb hN (.inr (.inl n.1)) n.2.1 n.2.2.1
theorem Zpp{v:V}{u:Value}(n:Nm X.env.scope x .globalImplicit)(hm:X.mg x=some u)(r:RelV v u):PE X (.Name x pos) (tC v):=Zqz n.1 hm r n.2.1
theorem Zpq{v:V}{u:Value}(n:Nm X.env.scope x .globalImplicit)(hm:X.mg x=none)(hv:bootBuiltins x=some u)(r:RelV v u):PE X (.Name x pos) (tC v):=Zra n.1 hm hv r n.2.2.2 n.2.1
theorem Zt9{k:Nat}{ps:List Str}{sp:Sp}{p:Pos}{e:Expr}{es:List Expr}{t:TA}(F:Fn X.prog X.w X.K X.mg X.base x ps k sp)(hr:Room k X.A)(n:Nm X.env.scope x .globalImplicit)(ha:PA X (e::es) t)(he:starEach (e::es) X.env=(false,eval e X.env)::starEach es X.env:=by rfl)(hpl:(backTo pos (starEach es X.env)).any (·.1)=false:=by rfl) :
  PE X (.Call (.Name x p) (e::es) [] pos) (tFn sp t):=Zvf F hr n.1 ha n.2.1 he hpl
theorem Zoq{p:Pos}{e:Expr}{es:List Expr}{t:TA}{id:String}{r:List V->Hp->VK->Prop}(hc:Vv X (.builtin id) r)(n:Nm X.env.scope x .globalImplicit)(hm:X.mg x=none)(hv:bootBuiltins x=some (.builtin id))(ha:PA X (e::es) t)(he:starEach (e::es) X.env=(false,eval e X.env)::starEach es X.env:=by rfl)(hpl:(backTo pos (starEach es X.env)).any (·.1)=false:=by rfl):PE X (.Call (.Name x p) (e::es) [] pos) (tCB r t):=Zpe hc n.1 hm hv ha n.2.2.2 n.2.1 he hpl
theorem Zns{p:Pos}{e:Expr}{es:List Expr}{t:TA}{T:String}{r:List V->Hp->VK->Prop}(hc:Vv X (.type T) r)(n:Nm X.env.scope x .globalImplicit)(hm:X.mg x=none)(hv:bootBuiltins x=some (.type T))(ha:PA X (e::es) t)(he:starEach (e::es) X.env=(false,eval e X.env)::starEach es X.env:=by rfl)(hpl:(backTo pos (starEach es X.env)).any (·.1)=false:=by rfl):PE X (.Call (.Name x p) (e::es) [] pos) (tCB r t):=Zog hc n.1 hm hv ha n.2.2.2 n.2.1 he hpl
theorem Znt{p kp:Pos}{e ke:Expr}{es:List Expr}{t:TA}{tk:TE}{id:String}{kw:Str}{r:List V->V->Hp->VK->Prop}(hc:Zdl X (.builtin id) kw r)(n:Nm X.env.scope x .globalImplicit)(hm:X.mg x=none)(hv:bootBuiltins x=some (.builtin id))(ha:PA X (e::es) t)(hk:PE X ke tk)(he:backTo pos (starEach (e::es) X.env)=(false,eval e X.env)::backTo pos (starEach es X.env):=by rfl)(hpl:(backTo pos (starEach (e::es) X.env)).any (·.1)=false:=by rfl) :
  PE X (.Call (.Name x p) (e::es) [⟨some kw,ke,kp⟩] pos) (fun σ H Q=>t σ H fun vs H1=>tk σ H1 fun k H2=>r vs k H2 Q):=Zop hc n.1 hm hv ha hk n.2.2.2 n.2.1 he hpl
theorem Zr6{i:Nat}{e:Expr}{te:TE}{pos':Pos}(hN:X.N.Nodup)(n:Nm X.env.scope x .local)(he:PE X e te)(hi:X.N[i]? = some x:=by rfl)(hs:swapsWith e (some (.Name x pos')) pos.line X.env=pure false:=by rfl) :
  PS X (.Assign [.Name x pos'] e pos) (V8 te (Wa i)):=Zjm hN hi (.inl n.1) he hs (.inr n.1)
theorem Zpr{i:Nat}{e:Expr}{te:TE}{pos':Pos}(hN:X.N.Nodup)(n:Nm X.env.scope x .cell)(he:PE X e te)(hf:X.fn x=true:=by rfl)(hi:X.N[i]? = some x:=by rfl)(hs:swapsWith e (some (.Name x pos')) pos.line X.env=pure false:=by rfl) :
  PS X (.Assign [.Name x pos'] e pos) (V8 te (Wa i)):=Zjm hN hi (.inr n.1) he hs (.inl hf)
theorem Zps{i:Nat}(hN:X.N.Nodup)(n:Nm X.env.scope x .local)(hi:X.N[i]? = some x:=by rfl):PG X (.Name x pos) (Wa i):=Ziu hN hi (.inl n.1) (.inr n.1)
end
section
variable{X:Cx}{scope:Scope}{cl:List (Str×Addr)}{C:Addr}{N':List Str}{s0:Shared}{H0:Hp}{ex:List Addr}{pn:List (Addr×Obj)}{x:Str}{pos:Pos}
theorem Zyf(i:Nat)(n:Nm scope x .local:=by decide +kernel)(hN:N'[i]? = some x:=by rfl):PE (ccx X scope cl C N' s0 H0 ex pn) (.Name x pos) (tVar i):=pvL i hN n.1 n.2.1 n.2.2.1
theorem Zyg(i:Nat)(n:Nm scope x .free:=by decide +kernel)(hN:N'[i]? = some x:=by rfl):PE (ccx X scope cl C N' s0 H0 ex pn) (.Name x pos) (tVar i):=pvF i hN n.1 n.2.1 n.2.2.1
theorem Zyh(i:Nat)(hnd:N'.Nodup)(n:Nm scope x .local:=by decide +kernel)(hN:N'[i]? = some x:=by rfl):PG (ccx X scope cl C N' s0 H0 ex pn) (.Name x pos) (Wa i):=pgL i hnd hN n.1
theorem Zyi(n:Nm scope x .globalImplicit:=by decide +kernel):Nm (ccx X scope cl C N' s0 H0 ex pn).env.scope x .globalImplicit:=⟨Zhc (by decide) n.1,n.2⟩
theorem nmC(n:Nm scope x .globalImplicit:=by decide +kernel):nB (ccx X scope cl C N' s0 H0 ex pn) x .globalImplicit:=xW (Zyi n)
theorem FrOk.consN{j:Nat}{fr:List (Str×Nat)}(n:Nm X.env.scope x .cell)(t:FrOk X scope fr)(m:Nm scope x .free:=by decide +kernel)(h1:X.N[j]? = some x:=by rfl):FrOk X scope ((x,j)::fr):=.cons h1 (.inl n.1) m.1 t
end
end L2
end
section
namespace L2
open PySem PySem.Spec PyProof.Rows
def cs(x:Str):List Nat:=x.cps.toList
theorem Wc(x:Str):(cs x).length=x.length:=by unfold cs;exact Array.length_toList
theorem Zdd(x y:Str):cs (x++y)=cs x++cs y:=by unfold cs;rw[PySem.Str.cps_append,Array.toList_append]
theorem Zkh(l:List Nat):cs ⟨l.toArray⟩=l:=by unfold cs;simp
theorem Zhm(xs:List Nat)(lo:Nat):∀m,lo+m<=xs.length->((List.range m).map (lo + ·)).filterMap (xs[·]?)=(xs.drop lo).take m:=by
 intro m
 induction m with
 | zero=>intro _;simp
 | succ m ih =>
  intro h
  rw[List.range_succ,yE,List.filterMap_append,ih (by lia),yI,List.getElem?_drop]
  have:lo+m < xs.length:=by lia
  simp[xD this]
theorem Zek(x:Str){i:Int}(h : 0<=i):cs (Txt.slice x none (some i))=(cs x).take i.toNat:=by
 have hl:=Wc x
 have e:Builtin.Str.strSliceIndices none (some i) 1 x.length=(List.range (min i.toNat x.length)).map (0 + ·):=by
  unfold Builtin.Str.strSliceIndices sliceRange
  simp only[show (1:Int) > 0 by decide,if_true]
  have e1:(if i < 0 then i+(x.length:Int) else i)=i:=if_neg (by lia)
  rw[e1]
  have e2:(if (0:Int) < max 0 (min i (x.length:Int)) then (max 0 (min i (x.length:Int)) - 0+1 - 1) / 1 else 0).toNat=min i.toNat x.length:=by
   split<;>(try simp only[Int.ediv_one])<;>lia
  rw[e2]
  apply List.map_congr_left
  intro k _
  lia
 unfold Txt.slice
 rw[e]
 split
 ·rename_i hc
  have hc:((List.range (min i.toNat x.length)).map (0 + ·)).length=x.length:=by simpa using hc
  rw[xA,List.length_range] at hc
  rw[yY (by lia)]
 ·rw[Zkh]
  have:=Zhm (cs x) 0 (min i.toNat x.length) (by lia)
  rw[List.drop_zero] at this
  have e3:(cs x).take (min i.toNat x.length)=(cs x).take i.toNat:=by
   rw[← hl]
   by_cases h1:i.toNat<=(cs x).length
   ·rw[Nat.min_eq_left h1]
   ·rw[Nat.min_eq_right (by lia),yY (by lia),yY (by lia)]
  rw[← e3,← this]
  congr 1
  funext k
  unfold cs
  simp
theorem Zr7(x:Str){i:Int}(h : 0<=i):cs (Txt.slice x (some i) none)=(cs x).drop i.toNat:=by
 have hl:=Wc x
 have e:Builtin.Str.strSliceIndices (some i) none 1 x.length=(List.range (x.length - min i.toNat x.length)).map (min i.toNat x.length + ·):=by
  unfold Builtin.Str.strSliceIndices sliceRange
  simp only[show (1:Int) > 0 by decide,if_true]
  have e1:(if i < 0 then i+(x.length:Int) else i)=i:=if_neg (by lia)
  rw[e1]
  have e2:(if max 0 (min i (x.length:Int)) < (x.length:Int) then ((x.length:Int) - max 0 (min i (x.length:Int))+1 - 1) / 1 else 0).toNat=x.length - min i.toNat x.length:=by
   split<;>(try simp only[Int.ediv_one])<;>lia
  rw[e2]
  apply List.map_congr_left
  intro k _
  lia
 unfold Txt.slice
 rw[e]
 split
 ·rename_i hc
  have hc:((List.range (x.length - min i.toNat x.length)).map (min i.toNat x.length + ·)).length=x.length:=by simpa using hc
  rw[xA,List.length_range] at hc
  by_cases h0:i.toNat=0
  ·rw[h0,List.drop_zero]
  ·have:x.length=0:=by lia
   rw[List.drop_of_length_le (by lia)]
   exact List.length_eq_zero_iff.mp (by lia)
 ·rw[Zkh]
  have:=Zhm (cs x) (min i.toNat x.length) (x.length - min i.toNat x.length) (by lia)
  have e3:((cs x).drop (min i.toNat x.length)).take (x.length - min i.toNat x.length)=(cs x).drop i.toNat:=by
   rw[yY (by rw[zP];lia)]
   by_cases h1:i.toNat<=x.length
   ·rw[Nat.min_eq_left h1]
   ·rw[Nat.min_eq_right (by lia),List.drop_of_length_le (by lia),List.drop_of_length_le (by lia)]
  rw[← e3,← this]
  congr 1
  funext k
  unfold cs
  simp
theorem Zpt:∀ys:List Str,cs (Txt.join "" ys)=(ys.map cs).flatten:=by
 have go:∀(ys:List Str)(a:Array Nat),(ys.foldl (fun acc p=>acc++(("" : Str)).cps++p.cps) a).toList=a.toList++(ys.map cs).flatten:=by
  intro ys
  induction ys with
  | nil=>intro a;simp
  | cons y r ih =>
   intro a
   rw[List.foldl_cons,ih]
   have:(("" : Str)).cps = #[]:=by decide +kernel
   rw[this]
   simp[cs]
 intro ys
 show (cs (Builtin.Str.glued "" ys))=_
 unfold Builtin.Str.glued
 cases ys with
 | nil=>decide +kernel
 | cons y r =>
  show (List.foldl _ y.cps r).toList=_
  rw[go]
  rfl
def Low(x:Str):Prop:=∀c∈cs x,97<=c/\c<=122
def letters:Str:="abcdefghijklmnopqrstuvwxyz"
theorem Znu:cs letters=(List.range 26).map (97 + ·):=by decide +kernel
theorem Zd5{d:Int}(h0 : 0<=d)(h1:d < 26):atI letters.cps.toList d=some (97+d.toNat):=by
 obtain⟨j,rfl⟩:=yJ h0
 refine Wj ?_
 show (cs letters)[j]? = _
 rw[Znu,xG,zR (by lia)]
 rfl
theorem Zel{J:It}{nl:Nat}{fv:St}{g:TG}{tt:TTs}{te:TE}{Q:VK}{H:Hp}{xs:List V}(Pv:Nat->List V->Hp->Prop)(h0:Pv 0 [] H)(hn:xs.length<=1000000)(hgo:∀i H ys,i < xs.length->Pv i ys H->J.go i H)(hy:∀i H x H' ys,i < xs.length->Pv i ys H->J.yld i H x H'->H'=H/\xs[i]? = some x)(hst:∀H ys,Pv xs.length ys H->J.stop xs.length H)(hlen:∀i ys H,Pv i ys H->ys.length<=i)(step:∀i x ys H,xs[i]? = some x->Pv i ys H->Uv nl fv g tt te x H (fun y H'=>Pv (i+1) (ys ++ [y]) H') fun H'=>Pv (i+1) ys H')(hd:∀ys H,Pv xs.length ys H->∀l,H l=none->Q (.ref l) (upd H l (.lst ys))) :
  Zbd J nl fv g tt te Q H:=by
 have mono:∀{x:V}{H:Hp}{Y Y':V->Hp->Prop}{N N':Hp->Prop},Uv nl fv g tt te x H Y N->Y=Y'->N=N'->Uv nl fv g tt te x H Y' N':=fun h e1 e2=>by subst e1;subst e2;exact h
 refine⟨fun i m ys H=>m=xs.length - i/\i<=xs.length/\Pv i ys H,⟨xs.length,by simp,yQ _,h0⟩,?_⟩
 rintro i m ys H ⟨rfl,hi,p⟩
 have hl:=hlen i ys H p
 have hz:(1000000:Nat) < sizeLine:=by decide
 by_cases hlt:i < xs.length
 ·refine .inr ⟨hgo i H ys hlt p,by lia,xs.length - (i+1),by lia,fun x H' y=>?_⟩
  obtain⟨e,ex⟩:=hy i H x H' ys hlt p y
  subst e
  refine mono (step i x ys _ ex p) ?_ ?_
  ·funext y H4
   apply propext
   exact⟨fun q=>⟨rfl,hlt,q⟩,fun q=>q.2.2⟩
  ·funext H3
   apply propext
   exact⟨fun q=>⟨rfl,hlt,q⟩,fun q=>q.2.2⟩
 ·have e:i=xs.length:=by lia
  subst e
  exact .inl ⟨hst H ys p,by lia,hd ys H p⟩
def Zbs(lo:Int)(n:Nat):List V:=(List.range n).map fun k=>V.int (lo+(k:Nat))
theorem Za8(lo:Int)(n:Nat):(Zbs lo n).length=n:=by simp[Zbs]
theorem Zpu{lo:Int}{n i:Nat}{x:V}(h:(Zbs lo n)[i]? = some x):i < n/\x = .int (lo+(i:Nat)):=by
 have hi:i < n:=by have:=(xQ.mp h).1;rwa [Za8] at this
 refine⟨hi,?_⟩
 unfold Zbs at h
 rw[xG,zR hi] at h
 exact(Option.some.inj h).symm
theorem Znv{lo:Int}{n:Nat}{nl:Nat}{fv:St}{g:TG}{tt:TTs}{te:TE}{Q:VK}{H:Hp}(Pv:Nat->List V->Hp->Prop)(h0:Pv 0 [] H)(hn:n<=1000000)(hlen:∀i ys H,Pv i ys H->ys.length<=i)(step:∀i ys H,i < n->Pv i ys H->Uv nl fv g tt te (.int (lo+(i:Nat))) H (fun y H'=>Pv (i+1) (ys ++ [y]) H') fun H'=>Pv (i+1) ys H')(hd:∀ys H,Pv n ys H->∀l,H l=none->Q (.ref l) (upd H l (.lst ys))) :
  Zbd (Itr lo n) nl fv g tt te Q H:=by
 refine Zel (xs:=Zbs lo n) Pv h0 (by rw[Za8];exact hn) ?_ ?_ ?_ hlen ?_ ?_
 ·intro i H ys hi _
  rw[Za8] at hi
  exact hi
 ·rintro i H x H' ys hi _ ⟨rfl,rfl⟩
  rw[Za8] at hi
  refine⟨rfl,?_⟩
  unfold Zbs
  rw[xG,zR hi]
  rfl
 ·intro H ys _
  rw[Za8]
  exact xK _
 ·intro i x ys H hx p
  obtain⟨hi,rfl⟩:=Zpu hx
  exact step i ys H hi p
 ·intro ys H p
  rw[Za8] at p
  exact hd ys H p
theorem Zah{K:uFg}{a:Addr}{xs:List V}{nl:Nat}{fv:St}{g:TG}{tt:TTs}{te:TE}{Q:VK}{H:Hp}(Pv:Nat->List V->Hp->Prop)(h0:Pv 0 [] H)(hn:xs.length<=1000000)(hl:∀i ys H,i<=xs.length->Pv i ys H->SqL K H a xs)(hlen:∀i ys H,Pv i ys H->ys.length<=i)(step:∀i x ys H,xs[i]? = some x->Pv i ys H->Uv nl fv g tt te x H (fun y H'=>Pv (i+1) (ys ++ [y]) H') fun H'=>Pv (i+1) ys H')(hd:∀ys H,Pv xs.length ys H->∀l,H l=none->Q (.ref l) (upd H l (.lst ys))) :
  Zbd (Itl K a) nl fv g tt te Q H:=by
 refine Zel (xs:=xs) Pv h0 hn ?_ ?_ ?_ hlen step hd
 ·intro i H ys hi p
  exact⟨xs,xs[i],hl i ys H (Nat.le_of_lt hi) p,by simp[hi]⟩
 ·rintro i H x H' ys hi p ⟨rfl,y⟩
  exact⟨rfl,y xs (hl i ys _ (Nat.le_of_lt hi) p)⟩
 ·intro H ys p
  exact⟨xs,hl _ ys H (xK _) p,xK _⟩
theorem Zpv{x:Str}{nl:Nat}{fv:St}{g:TG}{tt:TTs}{te:TE}{Q:VK}{H:Hp}(Pv:Nat->List V->Hp->Prop)(h0:Pv 0 [] H)(hn:x.length<=1000000)(hlen:∀i ys H,Pv i ys H->ys.length<=i)(step:∀i ys H,i < x.length->Pv i ys H->Uv nl fv g tt te (sgn x i) H (fun y H'=>Pv (i+1) (ys ++ [y]) H') fun H'=>Pv (i+1) ys H')(hd:∀ys H,Pv x.length ys H->∀l,H l=none->Q (.ref l) (upd H l (.lst ys))) :
  Zbd (Its x) nl fv g tt te Q H:=by
 have ln:((List.range x.length).map fun i=>sgn x i).length=x.length:=by simp
 refine Zel (xs:=(List.range x.length).map fun i=>sgn x i) Pv h0 (by rw[ln];exact hn) ?_ ?_ ?_ hlen ?_ ?_
 ·intro i H ys hi _
  rw[ln] at hi
  exact hi
 ·rintro i H v H' ys hi _ ⟨rfl,rfl⟩
  rw[ln] at hi
  refine⟨rfl,?_⟩
  rw[xG,zR hi]
  rfl
 ·intro H ys _
  rw[ln]
  exact rfl
 ·intro i v ys H hx p
  have hi:i < x.length:=by have:=(xQ.mp hx).1;rwa [ln] at this
  rw[xG,zR hi] at hx
  cases hx
  exact step i ys H hi p
 ·intro ys H p
  rw[ln] at p
  exact hd ys H p
theorem Zr8{x:Str}{g:TG}{tb:TS}{D:Ends}{σ:St}{H:Hp}(Pv:Nat->St->Hp->Prop)(h0:Pv 0 σ H)(hs:∀i σ H,i < x.length->Pv i σ H->g (sgn x i) σ H fun σ2 H2=>tb {D with nx:=Pv (i+1),ct:=Pv (i+1),bk:=D.nx } σ2 H2)(hd:∀ σ H,Pv x.length σ H->D.nx σ H) :
  ∃W:Nat->Nat->St->Hp->Prop,(∃m,W 0 m σ H)/\∀i m σ H,W i m σ H ->
   ((Its x).stop i H/\D.nx σ H)\/((Its x).go i H/\∃N:St->Hp->Prop,(∀ σ' H',N σ' H'->∃m',m' < m/\W (i+1) m' σ' H')/\∀v H',(Its x).yld i H v H'->g v σ H' fun σ2 H2=>tb {D with nx:=N,ct:=N,bk:=D.nx } σ2 H2):=by
 refine⟨fun i m σ H=>m=x.length - i/\i<=x.length/\Pv i σ H,⟨x.length,by simp,yQ _,h0⟩,?_⟩
 rintro i m σ H ⟨rfl,hi,p⟩
 by_cases hlt:i < x.length
 ·refine .inr ⟨hlt,Pv (i+1),fun σ' H' p'=>⟨x.length - (i+1),by lia,rfl,hlt,p'⟩,fun v H' y=>?_⟩
  obtain⟨e,y⟩:=y
  subst e y
  exact hs i σ _ hlt p
 ·have e:i=x.length:=by lia
  subst e
  exact .inl ⟨rfl,hd σ H p⟩
theorem Zaa{ls:St}(h:ls.length=1):∃a,ls = [a]:=by
 match ls,h with
 | [a],_=>exact⟨a,rfl⟩
theorem Zyj{ls:St}(h:ls.length=2):∃a b,ls = [a,b]:=by
 match ls,h with
 | [a,b],_=>exact⟨a,b,rfl⟩
end L2
end
section
namespace L2
open PySem PySem.Spec PyProof.Rows
structure QE (X:Cx) (e:Expr) (t:TE):Prop where
 h:PE X e t
structure QT (X:Cx) (e:Expr) (t:TT):Prop where
 h:PT X e t
structure QW (X:Cx) (e:Expr) (t:TT):Prop where
 h:PW X e t
structure QS (X:Cx) (s:Stmt) (t:TS):Prop where
 h:PS X s t
structure QSs (X:Cx) (s:List Stmt) (t:TS):Prop where
 h:PSs X s t
structure QA (X:Cx) (es:List Expr) (t:TA):Prop where
 h:PA X es t
structure QG (X:Cx) (e:Expr) (t:TG):Prop where
 h:PG X e t
structure QGs (X:Cx) (es:List Expr) (t:TGs):Prop where
 h:PGs X es t
structure QI (X:Cx) (tg iter:Expr) (t:TI):Prop where
 h:PI X tg iter t
structure QO (X:Cx) (e:Option Expr) (t:TO):Prop where
 h:PO X e t
structure QTs (X:Cx) (es:List Expr) (t:TTs):Prop where
 h:PTs X es t
structure QOp (X:Cx) (f:Value->Value->Sem Value) (r:R2):Prop where
 h:OpR X f r
structure QUn (X:Cx) (f:Value->Sem Value) (r:V->Hp->VK->Prop):Prop where
 h:UnR X f r
structure QC (X:Cx) (f:Value) (r:List V->Hp->VK->Prop):Prop where
 h:Vv X f r
theorem QC.imp{X:Cx}{f:Value}{r r':List V->Hp->VK->Prop}(h:QC X f r)(i:∀xs H Q,r' xs H Q->r xs H Q):QC X f r':=⟨fun p s σ H x u Q I v k=>h.h p s σ H x u Q I v (i x H Q k)⟩
structure QCk (X:Cx) (f:Value) (kw:Str) (r:List V->V->Hp->VK->Prop):Prop where
 h:Zdl X f kw r
structure QIx (X:Cx) (r:R2):Prop where
 h:IxR X r
structure QSl (X:Cx) (r:V->Option Int->Option Int->Hp->VK->Prop):Prop where
 h:SlR X r
structure QM (X:Cx) (id:String) (r:V->List V->Hp->VK->Prop):Prop where
 h:MtR X id r
structure QSet (X:Cx) (t:Zct):Prop where
 h:Zgx X t
structure QIp (X:Cx) (op:Operator) (t:TIp):Prop where
 h:PIp X op t
section
variable{X:Cx}{a b c:Expr}{ta tb tc te:TE}{tA tB':TT}{pos p p2 pos':Pos}{st:Stmt}{rest:List Stmt}{t u:TS}{x:Str}{es:List Expr}{e:Expr}
theorem Zq:QSs X [] Zbj:=⟨Zrc⟩
theorem Zd(h1:QS X st t)(h2:QSs X rest u):QSs X (st::rest) (Ve t u):=⟨Zo3 h1.h h2.h⟩
theorem Ze(h1:QS X st t):QSs X [st] t:=⟨Zrd h1.h⟩
theorem Zx(h:QE X e te):QS X (.Return (some e) pos) (Zl0 te):=⟨Zth h.h⟩
theorem Zo{c:Expr}{a b:List Stmt}{tc:TT}(hc:QT X c tc)(ha:QSs X a t)(hb:QSs X b u):QS X (.If c a b pos) (Zcs tc t u):=⟨Zu1 hc.h ha.h hb.h⟩
theorem Zt(he:QE X e te)(hs:swapsWith e none pos.line X.env=pure false:=by rfl):QS X (.Expr e pos) (Zdh te):=⟨Zre he.h hs⟩
theorem Z1(i:Nat)(he:QE X e te)(hN:nD X:=by kernel_rfl)(n:nB X x .local:=by kernel_rfl)(hi:X.N[i]? = some x:=by rfl)(hs:swapsWith e (some (.Name x pos')) pos.line X.env=pure false:=by rfl) :
  QS X (.Assign [.Name x pos'] e pos) (V8 te (Wa i)):=⟨Zr6 (od hN) (od n) he.h hi hs⟩
theorem Zpw{i:Nat}(hN:X.N.Nodup)(n:Nm X.env.scope x .cell)(he:QE X e te)(hf:X.fn x=true:=by rfl)(hi:X.N[i]? = some x:=by rfl)(hs:swapsWith e (some (.Name x pos')) pos.line X.env=pure false:=by rfl) :
  QS X (.Assign [.Name x pos'] e pos) (V8 te (Wa i)):=⟨Zpr hN n he.h hf hi hs⟩
theorem Zcf{tg:Expr}{g:TG}(he:QE X e te)(hg:QG X tg g)(hs:swapsWithSole [tg] e pos.line X.env=pure false:=by rfl)(hw:swappedStores [tg] e X.env=pure none:=by rfl)(h1:(assignEach [tg] X.env).map (·.2)= [assign tg X.env]:=by rfl):QS X (.Assign [tg] e pos) (V8 te g):=⟨Ztk he.h hg.h hs hw h1⟩
def Zcj(J:It)(g:TG)(tb:TS)(D:Ends)(σ:St)(H1:Hp):Prop:=∃W:Nat->Nat->St->Hp->Prop,(∃m,W 0 m σ H1)/\∀i m σ H,W i m σ H ->
 (J.stop i H/\D.nx σ H)\/(J.go i H/\∃N:St->Hp->Prop,(∀ σ' H',N σ' H'->∃m',m' < m/\W (i+1) m' σ' H')/\∀x H',J.yld i H x H'->g x σ H' fun σ2 H2=>tb {D with nx:=N,ct:=N,bk:=D.nx } σ2 H2)
def Zki(wi:TI)(g:TG)(tb:TS):TS:=fun D σ H=>wi σ H fun J H1=>Zcj J g tb D σ H1
theorem V3{tg iter:Expr}{body:List Stmt}{wi:TI}{g:TG}(hp:PassesOwn (model X.prog X.w) X.A X.env X.xe)(hc:X.calm=true)(hi:QI X tg iter wi)(hg:QG X tg g)(hb:QSs X body t)(hs:∀x,foldedSetIterable iter X.env x=pure x:=by intro _;rfl):QS X (.For tg iter body [] pos) (Zki wi g t):=⟨Ztl hp hc hi.h hg.h hb.h hs⟩
theorem Vq(i:Nat)(hN:nD X:=by kernel_rfl)(n:nB X x .local:=by kernel_rfl)(hi:X.N[i]? = some x:=by rfl):QG X (.Name x pos) (Wa i):=⟨Zps (od hN) (od n) hi⟩
theorem Zr9:QGs X [] Zgy:=⟨Zrf⟩
theorem Zkj{t:TG}{u:TGs}(h1:QG X e t)(h2:QGs X es u)(hs:(assignEach (e::es) X.env).map (·.2)=assign e X.env::(assignEach es X.env).map (·.2):=by rfl):QGs X (e::es) (gCons t u):=⟨Zo4 h1.h h2.h hs⟩
theorem Zcg{o i:Expr}{to ti:TE}{t:Zct}(ho:QE X o to)(hi:QE X i ti)(hs:QSet X t)(ha:∀v,assign (.Subscript o i pos) X.env v=(do
   let ov ← holding [v] (eval o X.env)
   let iv ← holding [v,ov] (eval i X.env)
   standAt pos
   holding [v,ov,iv] (setItem ov iv v)
   release [v,ov,iv] []):=by intro _;rfl):QG X (.Subscript o i pos) (Zl1 to ti t):=⟨Ztj ho.h hi.h hs.h ha⟩
theorem Zb4:QSet X rSetL:=⟨Zph⟩
variable{tg:Expr}
theorem Wt{l:Expr}(hl:QE X l te):QI X tg l (Zj8 X.K te):=⟨Zrg hl.h⟩
theorem Zjt{l:Expr}(hl:QE X l te):QI X tg l (Zl8 te):=⟨Zt4 hl.h⟩
theorem Zc1{a:Expr}{ta:TA}(hm:X.mg "range" = none)(ha:QA X [a] ta)(hg:nB X "range" .globalImplicit:=by kernel_rfl)(hs:starEach [a] X.env = [(false,eval a X.env)]:=by rfl):QI X tg (.Call (.Name "range" p) [a] [] pos) (Zj9 ta):=⟨Zob (od hg).1 hm ha.h hs⟩
theorem Zb:QA X [] Vg:=⟨Ztu⟩
theorem Za{t:TA}(ha:QE X e te)(hr:QA X es t)(hs:starEach (e::es) X.env=(false,eval e X.env)::starEach es X.env:=by rfl):QA X (e::es) (W8 te t):=⟨Zro ha.h hr.h hs⟩
theorem Yw {x1} {t:TA}(h:QA X es t):QE X (.Tuple es x1 pos) (Zl6 t):=⟨Ztv h.h⟩
theorem Z6{t:TA}(h:QA X es t):QE X (.List es pos) (Zl7 t):=⟨Ztw h.h⟩
theorem Vk(ha:QT X a tA):QT X (.UnaryOp .Not a pos) (Zly tA):=⟨Zte ha.h⟩
theorem QW.pt(h:QW X e tA):QT X e tA:=⟨PW.pt h.h⟩
theorem V4(ha:QT X a tA):QW X (.BoolOp .And [a] pos) tA:=⟨Zrb ha.h⟩
theorem Zbe(ha:QT X a tA):QW X (.BoolOp .Or [a] pos) tA:=⟨Ztc ha.h⟩
theorem Vl{rest:List Expr}(ha:QT X a tA)(hb:QW X (.BoolOp .And (b::rest) pos) tB'):QW X (.BoolOp .And (a::b::rest) pos) (Zlx tA tB'):=⟨Ztd ha.h hb.h⟩
theorem Zbn{rest:List Expr}(ha:QT X a tA)(hb:QW X (.BoolOp .Or (b::rest) pos) tB'):QW X (.BoolOp .Or (a::b::rest) pos) (tOr tA tB'):=⟨Zuz ha.h hb.h⟩
theorem Zl{op:CmpOp}{r:R2}(ho:QOp X (compareOp op) r)(ha:QE X a ta)(hb:QE X b tb)(hm:behindInMarks op b=false):QT X (.Compare a [op] [b] pos) (Zad (tOp r ta tb)):=⟨Zrk ho.h ha.h hb.h hm⟩
theorem Vi{op:CmpOp}{r:R2}(ho:QOp X (compareOp op) r)(ha:QE X a ta)(hb:QE X b tb)(hm:behindInMarks op b=false):QE X (.Compare a [op] [b] pos) (tOp r ta tb):=⟨Zrj ho.h ha.h hb.h hm⟩
theorem Zii{op op':CmpOp}{r r':R2}(ho:QOp X (compareOp op) r)(ho':QOp X (compareOp op') r')(ha:QE X a ta)(hb:QE X b tb)(hc:QE X c tc)(hm:lastMarks [op,op'] [b,c]=false:=by with_unfolding_all rfl):QE X (.Compare a [op,op'] [b,c] pos) (Zdc r r' ta tb tc):=⟨Zo7 ho.h ho'.h ha.h hb.h hc.h hm⟩
theorem Zai{op op':CmpOp}{r r':R2}(ho:QOp X (compareOp op) r)(ho':QOp X (compareOp op') r')(ha:QE X a ta)(hb:QE X b tb)(hc:QE X c tc)(hm:lastMarks [op,op'] [b,c]=false:=by with_unfolding_all rfl):QT X (.Compare a [op,op'] [b,c] pos) (Zad (Zdc r r' ta tb tc)):=⟨Zo8 ho.h ho'.h ha.h hb.h hc.h hm⟩
theorem V5(h:QE X e te)(he:∀whole,isTrue e X.env whole=(do let v ← whole;standAt e.pos;holding [v] (truthy v)):=by intro _;rfl):QT X e (tB te):=⟨Ztb h.h he⟩
theorem Zc {i j pos}:QE X (.Constant (.int i) j pos) (tC (.int i)):=⟨Zs8⟩
theorem Zaj {b j pos}:QE X (.Constant (.bool b) j pos) (tC (.bl b)):=⟨Zuy⟩
theorem Y1 {j pos}:QE X (.Constant .none j pos) (tC .non):=⟨Zs9⟩
theorem Zi {x j pos}:QE X (.Constant (.str x) j pos) (tC (.str x)):=⟨Zta⟩
theorem qvN(i:Nat)(n:nB X x .local:=by kernel_rfl)(hN:X.N[i]? = some x:=by rfl):QE X (.Name x pos) (tVar i):=⟨pvN i (od n) hN⟩
theorem qvC(i:Nat)(n:Nm X.env.scope x .cell)(hN:X.N[i]? = some x:=by rfl):QE X (.Name x pos) (tVar i):=⟨pvC i n hN⟩
theorem Yu{v:V}{u:Value}(hm:X.mg x=some u)(r:RelV v u)(n:nB X x .globalImplicit:=by kernel_rfl):QE X (.Name x pos) (tC v):=⟨Zpp (od n) hm r⟩
theorem Zc3{v:V}{u:Value}(hm:X.mg x=none)(hv:bootBuiltins x=some u)(r:RelV v u)(n:nB X x .globalImplicit:=by kernel_rfl):QE X (.Name x pos) (tC v):=⟨Zpq (od n) hm hv r⟩
theorem Z0{op:Operator}{r:R2}(ho:QOp X (binaryOp op) r)(ha:QE X a ta)(hb:QE X b tb):QE X (.BinOp a op b pos) (tOp r ta tb):=⟨Zu2 ho.h ha.h hb.h⟩
theorem Ze4{op:UnaryOp}{r:V->Hp->VK->Prop}(ho:QUn X (unaryOp op) r)(ha:QE X a ta):QE X (.UnaryOp op a pos) (tUn r ta):=⟨Zu3 ho.h ha.h⟩
theorem Zak {op} (h:QE X a ta):QE X (.BoolOp op [a] pos) ta:=⟨Ztf h.h⟩
theorem Zbf{rest:List Expr}(ha:QE X a ta)(hb:QE X (.BoolOp .And (b::rest) pos) tb):QE X (.BoolOp .And (a::b::rest) pos) (Zj7 ta tb):=⟨Ztg ha.h hb.h⟩
theorem Zvk{rest:List Expr}(ha:QE X a ta)(hb:QE X (.BoolOp .Or (b::rest) pos) tb):QE X (.BoolOp .Or (a::b::rest) pos) (Zlz ta tb):=⟨Zu0 ha.h hb.h⟩
theorem Zal:QO X none Ziz:=⟨Zrr⟩
theorem Zam(h:QE X e te):QO X (some e) (Zkc te):=⟨Zrs h.h⟩
theorem Zan{lo hi:Option Expr}{tl th:TO}{r:V->Option Int->Option Int->Hp->VK->Prop}(hr:QSl X r)(he:QE X e te)(hl:QO X lo tl)(hu:QO X hi th):QE X (.Subscript e (.Slice lo hi none p2) pos) (tSl r te tl th):=⟨Zpg hr.h he.h hl.h hu.h⟩
theorem Zj{r:R2}(hr:QIx X r)(ha:QE X a ta)(hb:QE X b tb)(hs:Zi1 b):QE X (.Subscript a b pos) (tOp r ta tb):=⟨Zvb hr.h ha.h hb.h hs⟩
theorem Zw{k:Nat}{ps:List Str}{sp:Sp}{t:TA}(F:Fn X.prog X.w X.K X.mg X.base x ps k sp)(ha:QA X (e::es) t)(hr:Room k X.A:=by exact Room.mono (by assumption) (by first | decide | lia))(n:nB X x .globalImplicit:=by kernel_rfl)(he:starEach (e::es) X.env=(false,eval e X.env)::starEach es X.env:=by rfl)(hpl:(backTo pos (starEach es X.env)).any (·.1)=false:=by rfl) :
  QE X (.Call (.Name x p) (e::es) [] pos) (tFn sp t):=⟨Zt9 F hr (od n) ha.h he hpl⟩
theorem Z7{t:TA}{id:String}{r:List V->Hp->VK->Prop}(hc:QC X (.builtin id) r)(hm:X.mg x=none)(hv:bootBuiltins x=some (.builtin id))(ha:QA X (e::es) t)(n:nB X x .globalImplicit:=by kernel_rfl)(he:starEach (e::es) X.env=(false,eval e X.env)::starEach es X.env:=by rfl)(hpl:(backTo pos (starEach es X.env)).any (·.1)=false:=by rfl):QE X (.Call (.Name x p) (e::es) [] pos) (tCB r t):=⟨Zoq hc.h (od n) hm hv ha.h he hpl⟩
theorem Zhn{t:TA}{T:String}{r:List V->Hp->VK->Prop}(hc:QC X (.type T) r)(hm:X.mg x=none)(hv:bootBuiltins x=some (.type T))(ha:QA X (e::es) t)(n:nB X x .globalImplicit:=by kernel_rfl)(he:starEach (e::es) X.env=(false,eval e X.env)::starEach es X.env:=by rfl)(hpl:(backTo pos (starEach es X.env)).any (·.1)=false:=by rfl):QE X (.Call (.Name x p) (e::es) [] pos) (tCB r t):=⟨Zns hc.h (od n) hm hv ha.h he hpl⟩
def tCk(r:List V->V->Hp->VK->Prop)(t:TA)(tk:TE):TE:=fun σ H Q=>t σ H fun vs H1=>tk σ H1 fun k H2=>r vs k H2 Q
theorem Znw{kp:Pos}{ke:Expr}{t:TA}{tk:TE}{id:String}{kw:Str}{r:List V->V->Hp->VK->Prop}(hc:QCk X (.builtin id) kw r)(hm:X.mg x=none)(hv:bootBuiltins x=some (.builtin id))(ha:QA X (e::es) t)(hk:QE X ke tk)(n:nB X x .globalImplicit:=by kernel_rfl)(he:backTo pos (starEach (e::es) X.env)=(false,eval e X.env)::backTo pos (starEach es X.env):=by rfl)(hpl:(backTo pos (starEach (e::es) X.env)).any (·.1)=false:=by rfl) :
  QE X (.Call (.Name x p) (e::es) [⟨some kw,ke,kp⟩] pos) (tCk r t tk):=⟨Znt hc.h (od n) hm hv ha.h hk.h he hpl⟩
theorem Wq{o:Expr}{to:TE}{t:TA}{name:Str}{apos cpos:Pos}{T id:String}{r:V->List V->Hp->VK->Prop}(pa:PlainAttrs T)(slot:Slot T name id)(hty:typeOf (.builtin id)=pure (.type "method_descriptor"))(hm:QM X id r)(ho:QE X o to)(ha:QA X (e::es) t)(hbase:attributeBase o name X.env (eval o X.env)=eval o X.env:=by rfl)(hfew:((backTo cpos (starEach (e::es) X.env)).all (fun x=>!x.1) && (backToKw cpos (keywordEach [] X.env)).all (fun x=>x.1.isSome)
   && decide ((e::es).length+([]:List Keyword).length+(if ([]:List Keyword).isEmpty then 0 else 1) < 30))=true:=by rfl)(hline:(apos.endLine == cpos.line)=true:=by rfl)(hs:starEach (e::es) X.env=(false,eval e X.env)::starEach es X.env:=by rfl)(hplain:(backTo cpos (starEach es X.env)).any (·.1)=false:=by rfl) :
  QE X (.Call (.Attribute o name apos) (e::es) [] cpos) (tBM X.K T r to t):=⟨Zvc pa slot hty hm.h ho.h ha.h hbase hfew hline hs hplain⟩
theorem Wk:QOp X (binaryOp .Add) (rI0 fun i j=>.int (i+j)):=⟨Ztm⟩
theorem Zi6:QOp X (binaryOp .Sub) (rI0 fun i j=>.int (i - j)):=⟨Ztn⟩
theorem Zem:QOp X (binaryOp .Mult) (rI CMul fun i j=>.int (i * j)):=⟨Zto⟩
theorem Zc4:QOp X (binaryOp .FloorDiv) (rI Zg0 fun i j=>.int (i / j)):=⟨Zrh⟩
theorem Zba:QOp X (binaryOp .Mod) (rI (fun _ j=>0 < j) fun i j=>.int (i % j)):=⟨Ztp⟩
theorem Zen:QOp X (binaryOp .Pow) (rI Zg1 fun i j=>.int (i ^ j.toNat)):=⟨Ztq⟩
theorem Zeo:QUn X (unaryOp .USub) (rU fun i=>.int (-i)):=⟨Zt7⟩
def Zvl(g:Str->Str->V):R2:=fun x y H Q=>∃i j,x = .str i/\y = .str j/\Q (g i j) H
theorem Zc0:QOp X (compareOp .LtE) (Zvl fun i j=>.bl (!decide (j.cps.toList < i.cps.toList))):=⟨Zoo⟩
def Zvm:R2:=fun x y H Q=>∃i j,x = .str i/\y = .str j/\i.length+j.length<=sizeLine/\Q (.str (i++j)) H
theorem Zcy:QOp X (binaryOp .Add) Zvm:=⟨Zni⟩
theorem Zao:QOp X (binaryOp .Add) rCat:=⟨Zt2⟩
theorem Zij:QOp X (binaryOp .Add) (rCatT X.K):=⟨Zrt⟩
theorem Zi7:QOp X (binaryOp .Mult) rRep:=⟨Zt3⟩
theorem Z4:QOp X (compareOp .Eq) rEq:=⟨Zu4⟩
theorem Zju:QOp X (compareOp .NotEq) rNe:=⟨Zu5⟩
theorem V6:QOp X (compareOp .Lt) (rI0 fun i j=>.bl (decide (i < j))):=⟨Zu6⟩
theorem Yx:QOp X (compareOp .LtE) (rI0 fun i j=>.bl (decide (i<=j))):=⟨Zu7⟩
theorem Zjv:QOp X (compareOp .Gt) (rI0 fun i j=>.bl (decide (j < i))):=⟨Zu8⟩
theorem Uw:QOp X (compareOp .GtE) (rI0 fun i j=>.bl (decide (j<=i))):=⟨Zu9⟩
def Zyk:R2:=fun x y H Q=>y = .non/\Q (.bl (decide (x = .non))) H
def Zvn:R2:=fun x y H Q=>y = .non/\Q (.bl (!decide (x = .non))) H
theorem Zi8:QOp X (compareOp .Is) Zyk:=⟨Ztr⟩
theorem Ud:QOp X (compareOp .IsNot) Zvn:=⟨Zri⟩
theorem Zd6:QOp X (compareOp .In) (rIn X.K false):=⟨Zoh⟩
theorem Zhe:QOp X (compareOp .NotIn) (rIn X.K true):=⟨Zm4⟩
theorem Yh:QIx X (rIxL X.K):=⟨Zru⟩
theorem Zu:QIx X (rIxT X.K):=⟨Zjo⟩
theorem Zep:QIx X rIxS:=⟨Ztz⟩
theorem Zpx:QSl X (rSlL X.K):=⟨Zrv⟩
theorem Zi9:QSl X (rSlT X.K):=⟨Zty⟩
def Zyl:V->Option Int->Option Int->Hp->VK->Prop:=fun x lo hi H Q=>∃z,x = .str z/\z.length<=sizeLine/\Q (.str (Txt.slice z lo hi)) H
theorem Zc6:QSl X Zyl:=⟨Zt5⟩
inductive rLenSeq (K:uFg) (xs:List V) (H:Hp) (Q:VK):Prop
 | mk (p ys) (h0:xs = [.ref p]) (h1:(SqL K H p ys\/SqT K H p ys)) (h2:Q (.int ys.length) H)
theorem Wm:QC X (.builtin "len") (rLenSeq X.K):=.imp ⟨Zm5⟩ fun _ _ _ ⟨p,y,a,b,k⟩=>⟨p,y,a,b,k⟩
def Zvo:List V->Hp->VK->Prop:=fun xs H Q=>∃z,xs = [.str z]/\z.length<=sizeLine/\Q (.int z.length) H
theorem Zb2:QC X (.builtin "len") Zvo:=⟨Zm6⟩
def Zym(K:uFg):List V->Hp->VK->Prop:=fun xs H Q=>∃(a:Addr)(bs:List Bool),xs = [.ref a]/\SqL K H a (bs.map V.bl)/\Q (.bl (bs.all id)) H
theorem Zor(hc:X.calm=true):QC X (.builtin "all") (Zym X.K):=⟨Zpo hc⟩
def Zsa(K:uFg):List V->Hp->VK->Prop:=fun xs H Q=>∃x n t b,xs = [x,.ty n]/\TyOf K H x t/\PySem.W.kitOne K t (.type n)=some b/\Q (.bl b) H
theorem Zd2:QC X (.builtin "isinstance") (Zsa X.K):=⟨Znf⟩
inductive rListOf (K:uFg) (xs:List V) (H:Hp) (Q:VK):Prop
 | mk (p ys) (h0:xs = [.ref p]) (h1:(SqL K H p ys\/SqT K H p ys)) (h2:∀l,H l=none->Q (.ref l) (upd H l (.lst ys)))
theorem Zm0:QC X (.type "list") (rListOf X.K):=.imp ⟨Zm7⟩ fun _ _ _ ⟨p,y,a,b,k⟩=>⟨p,y,a,b,k⟩
def Zvp(K:uFg):V->List V->Hp->VK->Prop:=fun x xs H Q=>∃sep a ys,x = .str sep/\xs = [.ref a]/\SqL K H a (ys.map V.str)/\(ys.map (·.length)).sum+ys.length * sep.length<=16777216/\Q (.str (Txt.join sep ys)) H
theorem Zpy:QM X "str.join" (Zvp X.K):=⟨Zr4⟩
theorem Wx:QM X "list.append" rAppend:=⟨Zoi⟩
end
section
variable{g:TG}{tb:TS}{D:Ends}{σ:St}{H:Hp}
theorem Zd7{lo:Int}{n:Nat}(m:Nat)(hm:n=m)(Pv:Nat->St->Hp->Prop)(h0:Pv 0 σ H)(hs:∀i σ H,i < m->Pv i σ H->g (.int (lo+i)) σ H fun σ2 H2=>tb {D with nx:=Pv (i+1),ct:=Pv (i+1),bk:=D.nx } σ2 H2)(hd:∀ σ H,Pv m σ H->D.nx σ H):Zcj (Itr lo n) g tb D σ H:=by
 subst hm
 exact Zoc Pv h0 hs hd
theorem Ux{K:uFg}{a:Addr}(xs:List V)(Pv:Nat->St->Hp->Prop)(h0:Pv 0 σ H)(hl:∀i σ H,i<=xs.length->Pv i σ H->SqL K H a xs)(hs:∀i x σ H,xs[i]? = some x->Pv i σ H->g x σ H fun σ2 H2=>tb {D with nx:=Pv (i+1),ct:=Pv (i+1),bk:=D.nx } σ2 H2)(hd:∀ σ H,Pv xs.length σ H->D.nx σ H):Zcj (Itl K a) g tb D σ H:=Zo6 Pv h0 hl hs hd
theorem Zpz{x:Str}(Pv:Nat->St->Hp->Prop)(h0:Pv 0 σ H)(hs:∀i σ H,i < x.length->Pv i σ H->g (sgn x i) σ H fun σ2 H2=>tb {D with nx:=Pv (i+1),ct:=Pv (i+1),bk:=D.nx } σ2 H2)(hd:∀ σ H,Pv x.length σ H->D.nx σ H):Zcj (Its x) g tb D σ H:=Zr8 Pv h0 hs hd
end
section
variable{X:Cx}{tg elt iter:Expr}{ifs:List Expr}{scope:Scope}{pos:Pos}{locs:List Str}{fr:List (Str×Nat)}{g:TG}{tt:TTs}{te:TE}
theorem Zap:QTs X [] (fun _ H Q=>Q true H):=⟨Zr0⟩
theorem Zja{c:Expr}{t:TT}(h:QT X c t):QTs X [c] t:=⟨Zr1 h.h⟩
structure Inn (X:Cx) (scope:Scope) (N':List Str) (tg:Expr) (ifs:List Expr) (elt:Expr) (g:TG) (tt:TTs) (te:TE):Prop where
 h:∀(cl:List (Str×Addr))(C:Addr)(s0:Shared)(H0:Hp)(ex:List Addr)(pn:List (Addr×Obj)),QG (ccx X scope cl C N' s0 H0 ex pn) tg g/\QTs (ccx X scope cl C N' s0 H0 ex pn) ifs tt/\QE (ccx X scope cl C N' s0 H0 ex pn) elt te
theorem Uy{wi:TI}(S:CompOk X scope locs fr)(F:FrOk X scope fr)(hc:X.calm=true)(hi:QI X tg iter wi)(inner:Inn X scope (inN locs fr) tg ifs elt g tt te)(hs:∀x,foldedSetIterable iter X.env x=pure x:=by intro _;rfl):QE X (.ListComp elt [⟨tg,iter,ifs,0⟩] scope pos) (Zdk locs.length fr wi g tt te) :=
 ⟨Zpm S F hc hi.h (fun cl C s0 H0 ex pn=>let ⟨a,b,c⟩:=inner.h cl C s0 H0 ex pn;⟨a.h,b.h,c.h⟩) hs⟩
theorem Zsb{wi:TI}{i:Nat}{x:Str}{pos' spos:Pos}(S:CompOk X scope locs fr)(F:FrOk X scope fr)(hc:X.calm=true)(hi:QI X tg iter wi)(inner:Inn X scope (inN locs fr) tg ifs elt g tt te)(hN:X.N.Nodup)(n:Nm X.env.scope x .local)(hsw:swapsWith (.ListComp elt [⟨tg,iter,ifs,0⟩] scope pos) (some (.Name x pos')) spos.line X.env=pure true)(hi0:X.N[i]? = some x:=by rfl)(hs:∀x,foldedSetIterable iter X.env x=pure x:=by intro _;rfl):QS X (.Assign [.Name x pos'] (.ListComp elt [⟨tg,iter,ifs,0⟩] scope pos) spos) (V8 (Zdk locs.length fr wi g tt te) (Wa i)) :=
 ⟨Zr3 S F hc hi.h (fun cl C s0 H0 ex pn=>let ⟨a,b,c⟩:=inner.h cl C s0 H0 ex pn;⟨a.h,b.h,c.h⟩) hN hi0 n.1 hsw hs⟩
end
section
variable{X:Cx}{scope:Scope}{cl:List (Str×Addr)}{C:Addr}{N':List Str}{s0:Shared}{H0:Hp}{ex:List Addr}{pn:List (Addr×Obj)}{x:Str}{pos:Pos}
theorem V9(i:Nat)(n:Nm scope x .local:=by decide +kernel)(hN:N'[i]? = some x:=by rfl):QE (ccx X scope cl C N' s0 H0 ex pn) (.Name x pos) (tVar i):=⟨Zyf i n hN⟩
theorem Zcu(i:Nat)(n:Nm scope x .free:=by decide +kernel)(hN:N'[i]? = some x:=by rfl):QE (ccx X scope cl C N' s0 H0 ex pn) (.Name x pos) (tVar i):=⟨Zyg i n hN⟩
theorem Ua(i:Nat)(hnd:N'.Nodup)(n:Nm scope x .local:=by decide +kernel)(hN:N'[i]? = some x:=by rfl):QG (ccx X scope cl C N' s0 H0 ex pn) (.Name x pos) (Wa i):=⟨Zyh i hnd n hN⟩
end
section
variable{P:Program}{w:World}{K:uFg}{mg:Str->Option Value}{base:Heap}
theorem Has.fnQ{x:Str}{st:Stmt}{N ps:List Str}{k:Nat}{sp:Sp}(h:Has K mg x st)(S:FnScope N ps (Zs st))(hb:∀ (kV doc pm:Value) (an:Option Addr) (cdv ct:Value) (us:List Value),us.length=ps.length->bindArgs (PySem.W.fnOf x x (Y3 st) (Z9 st) (Zs st) .none kV doc pm an cdv ct) ⟨us,[]⟩=pure (ps.zip us))(len:∀vs H Q E,sp vs H Q E->vs.length=ps.length)(hbody:∀ (f:Addr) (cdv:Value) (A:Around) (outer:List Env) (s:Shared) (H:Hp) (vs:List V) (Q:VK) (E:XK),Room k (A.deeper (envOfC x (Zs st) s.heap.objs.size f cdv))->sp vs H Q E ->
   ∃t,QSs (Yg CX0 P w K mg base N x (Zs st) f cdv A outer s H E).nox (Z9 st) t/\t {nx:=fun _ H'=>Q .non H',rt:=Q } (start N vs) H):Fn P w K mg base x ps (k+1) sp :=
 h.fn S hb len fun f cdv A outer s H vs Q E hr q=>let ⟨t,a,b⟩:=hbody f cdv A outer s H vs Q E hr q;⟨t,a.h,b⟩
theorem Zck{k:Nat}{e:Env}(h:k<=60):Room k (({}:Around).deeper e) :=
 Room.deeper (Room.mono (k:=61) ⟨rfl,by decide,by decide⟩ (by lia)) e
theorem Has.fq{x:Str}{st:Stmt}{ps:List Str}{k:Nat}{sp:Sp}(h:Has K mg x st)(N:List Str)(hbody:∀{f:Addr}{cdv:Value}{A:Around}{outer:List Env}{s:Shared}(H:Hp) (vs:List V) (Q:VK) (E:XK),Room k (A.deeper (envOfC x (Zs st) s.heap.objs.size f cdv))->sp vs H Q E->vs.length=ps.length/\∃t,QSs (Yg CX0 P w K mg base N x (Zs st) f cdv A outer s H E).nox (Z9 st) t/\t {nx:=fun _ H'=>Q .non H',rt:=Q } (start N vs) H)(S:FnScope N ps (Zs st):=by exact fsc)(hk:k<=60:=by decide)(hb:∀ (kV doc pm:Value) (an:Option Addr) (cdv ct:Value) (us:List Value),us.length=ps.length->bindArgs (PySem.W.fnOf x x (Y3 st) (Z9 st) (Zs st) .none kV doc pm an cdv ct) ⟨us,[]⟩=pure (ps.zip us):=by exact fun _ _ _ _ _ _=>by first | exact al1 fun _=>rfl | exact al2 fun _ _=>rfl | exact al3 fun _ _ _=>rfl | exact al4 fun _ _ _ _=>rfl | exact al5 fun _ _ _ _ _=>rfl | exact al6 fun _ _ _ _ _ _=>rfl | exact al7 fun _ _ _ _ _ _ _=>rfl | exact al8 fun _ _ _ _ _ _ _ _=>rfl):Fn P w K mg base x ps (k+1) sp :=
 h.fnQ S hb (fun vs H Q E h=>(hbody (f:=0) (cdv:=.none) (A:={}) (outer:=[]) (s:={}) H vs Q E (Zck hk) h).1) fun _ _ _ _ _ H vs Q E hr q=>(hbody H vs Q E hr q).2
end
end L2
namespace L2
open PySem PySem.Spec PyProof.Rows
theorem Vr{t u:TS}{D:Ends}{σ:St}{H:Hp}(R:St->Hp->Prop)(hu:∀ σ' H',R σ' H'->u D σ' H')(ht:∀D':Ends,(∀ σ' H',R σ' H'->D'.nx σ' H')->(∀v H',D.rt v H'->D'.rt v H')->(∀ σ' H',D.bk σ' H'->D'.bk σ' H')->(∀ σ' H',D.ct σ' H'->D'.ct σ' H')->t D' σ H):Ve t u D σ H :=
 ht {D with nx:=u D } hu (fun _ _ h=>h) (fun _ _ h=>h) (fun _ _ h=>h)
theorem Zho{a b:Nat}:(([a]:List Nat) < [b])↔a < b:=by
 constructor
 ·intro h
  rcases List.cons_lt_cons_iff.mp h with z | ⟨_,z⟩
  ·exact z
  ·exact absurd z (by simp)
 ·intro h
  exact List.cons_lt_cons_iff.mpr (.inl h)
end L2
namespace L2
theorem V0{i:Nat}{v:V}{σ:St}{H:Hp}{Q:St->Hp->Prop}(h:Q (σ.set i (some v)) H):Wa i v σ H Q:=h
end L2
namespace L2
open PySem PySem.Spec PyProof.Rows
theorem Fun.okQ{P:Program}{w:World}{K:uFg}{mg:Str->Option Value}{base:Heap}{x qual:Str}{st:Stmt}{f:Addr}{fd:FuncData}{N ps:List Str}{k:Nat}{sp:Sp}(F:Fun K x qual st f fd)(S:FnScope N ps (Zs st))(len:∀vs H Q E,sp vs H Q E->vs.length=ps.length)(hbody:∀ (cdv:Value) (A:Around) (outer:List Env) (s:Shared) (H:Hp) (vs:List V) (Q:VK) (E:XK),Room k (A.deeper (envOfC qual (Zs st) s.heap.objs.size f cdv))->sp vs H Q E ->
   ∃t,QSs (Yg CX0 P w K mg base N qual (Zs st) f cdv A outer s H E).nox (Z9 st) t/\t {nx:=fun _ H'=>Q .non H',rt:=Q } (start N vs) H):FnOk P w K mg base CX0 (k+1) f fd ps sp :=
 F.ok S len fun cdv A outer s H vs Q E hr q=>let ⟨t,a,b⟩:=hbody cdv A outer s H vs Q E hr q;⟨t,a.h,b⟩
def Zdm(K:uFg):Sp:=fun vs H Q _=>∃(a:Addr)(ns:List Int),vs = [.ref a]/\SqL K H a (ns.map V.int)/\ns.length<=63/\∀H',Q (.bl true) H'
theorem walkLaw{l:PySem.W.OpenLaw}{q:Program}{loose:List Str}{XP:(Str->Option Value)->Heap->Prop}{YP:World->Heap->Prop}{d:DefRec}{K:Params->uFg}(hn:l.most=some 63)(hdf:d.params.defaults = [])(hY:∀ (w:World) (h:Heap),YP w h->(K w.params).In h)(F:∀ (w:World) (mg:Str->Option Value) (fa:Addr) (h:Heap),(K w.params).In h->h.Ns mainGlobals mg->mg d.name=some (.ref fa)->
   ∃fd:FuncData,(∀ (s:Shared) (u:Value),BindsTo s fd ⟨[u],[]⟩ [("_law_script", u)])/\∀base:Heap,(K w.params).In base->base.Ns mainGlobals mg->FnOk l.prog w (K w.params) mg base CX0 40 fa fd ["_law_script"] (Zdm (K w.params))) :
  PySem.W.WalkO q loose XP YP l.row.toRowW d [] (fun f vs=>PySem.call f vs) :=
 L2.walk_of (n:=63) (k:=40) (x:="_law_script") (CX:=fun _=>CX0) (sp:=fun w=>Zdm (K w.params)) hn (by decide) hdf ⟨rfl,by decide,by decide⟩ hY F (fun _ _ a ns hl _ hS=>⟨a,ns,rfl,hS,hl,fun _=>rfl⟩) fun _ _ _ _ _ z=>z
end L2
namespace L2
open PySem PySem.Spec PyProof.Rows
section
variable{X:Cx}{scope:Scope}{cl:List (Str×Addr)}{C:Addr}{N':List Str}{s0:Shared}{H0:Hp}{ex:List Addr}{pn:List (Addr×Obj)}{x:Str}{pos:Pos}{es:List Expr}{k:Nat}{t:TGs}
theorem Zsc(n:Nat)(hc:X.calm=true)(h:QGs (ccx X scope cl C N' s0 H0 ex pn) es t)(hn:(assignEach es (ccx X scope cl C N' s0 H0 ex pn).env).length=n:=by rfl)(hst:(assignEach es (ccx X scope cl C N' s0 H0 ex pn).env).findIdx? (·.1)=none:=by rfl) :
  QG (ccx X scope cl C N' s0 H0 ex pn) (.Tuple es k pos) (gTup X.K n t):=⟨Zti (X:=ccx X scope cl C N' s0 H0 ex pn) hc h.h hn hst⟩
theorem Zeg:QIx (ccx X scope cl C N' s0 H0 ex pn) (rIxT X.K):=⟨Zjo (X:=ccx X scope cl C N' s0 H0 ex pn)⟩
end
end L2
end
section
namespace L2
open PySem PySem.Spec PyProof.Rows
def Lik(a b:Value):Prop:=a=b\/∃c t u,a = .str c t/\b = .str c u
structure Drw (P:Program) (w:World) (it l:Addr) (St:Nat->Heap->Prop) (Hs:Heap->List Value->Prop):Prop where
 obj:∀k h,St k h->∃o,h.get? it=some o/\∀v,o.data ≠ .cell v
 keep:∀k h h',St k h->(∀o,h.get? it=some o->h'.get? it=some o)->St k h'
 src:∀h h' its,Hs h its->(∀o,h.get? l=some o->h'.get? l=some o)->Hs h' its
 item:∀(A:Around)(k:Nat)(s:Shared)(its:List Value)(x:Value)(Q:Value->Shared->Prop)(E:Value->Shared->Prop),St k s.heap->Hs s.heap its->its[k]? = some x ->
  (∀x' h' tk,Lik x x'->St (k+1) h'->Heap.SameBut it s.heap h'->Q x' {s with heap:=h',toks:=tk })->wpAny (model P w) A (Builtin.SmallTypes.nextOf (.ref it)) Q E s
 done:∀(A:Around)(k:Nat)(s:Shared)(its:List Value)(Q:Value->Shared->Prop)(E:Value->Shared->Prop),A.handled=none->St k s.heap->Hs s.heap its->its[k]? = none ->
  (∀h' e,Heap.ExtBut it s.heap h'->(∃o,h'.get? e=some o/\o.cls = .type "StopIteration")->E (.ref e) {s with heap:=h' })->wpAny (model P w) A (Builtin.SmallTypes.nextOf (.ref it)) Q E s
section
variable{P:Program}{w:World}{A:Around}{E:Value->Shared->Prop}{s:Shared}
end
structure ZA (z TI TO i1 i2 l1 l2:Addr):Prop where
 a1:TI≠z
 a2:TO≠z
 a3:i1≠z
 a4:i2≠z
 a5:TI≠TO
 a6:TI≠i1
 a7:TI≠i2
 a8:TO≠i1
 a9:TO≠i2
 a10:i1≠i2
 b1:l1≠z
 b2:l1≠TO
 b3:l1≠i1
 b4:l1≠i2
 b5:l2≠z
 b6:l2≠TO
 b7:l2≠i1
 b8:l2≠i2
section
variable{P:Program}{w:World}{A:Around}{E:Value->Shared->Prop}{s:Shared}{z TI TO i1 i2 l1 l2:Addr}{S1 S2:Nat->Heap->Prop}{H1 H2:Heap->List Value->Prop}{k:Nat}{xs ys:List Value}{x y a b:Value}
end
structure SqK (sq:uFg->Hp->Addr->List V->Prop) (Hs:Addr->Heap->List Value->Prop):Prop where
 get:∀{X:Cx}{pins:List (Addr×Obj)}{σ:St}{H:Hp}{s:Shared}{l:Addr}{xs:List V},Inv X pins σ H s->sq X.K H l xs->∃its,Vals xs its/\Hs l s.heap its
 inj:∀{X:Cx}{pins:List (Addr×Obj)}{σ:St}{H:Hp}{s:Shared}{l:Addr}{xs ys:List V},Inv X pins σ H s->sq X.K H l xs->sq X.K H l ys->xs=ys
def Itz(sq:uFg->Hp->Addr->List V->Prop)(K:uFg)(l1 l2:Addr):It :=
 ⟨fun i H=>∃xs ys,sq K H l1 xs/\sq K H l2 ys/\i < xs.length/\i < ys.length,fun i H v H'=>∃p a b,v = .ref p/\H p=none/\H'=upd H p (.tup [a,b])/\∀xs ys,sq K H l1 xs->sq K H l2 ys->xs[i]? = some a/\ys[i]? = some b,
  fun i H=>∃xs ys,sq K H l1 xs/\sq K H l2 ys/\(xs.length<=i\/ys.length<=i)⟩
section
variable{P:Program}{w:World}{A:Around}{E:Value->Shared->Prop}{s:Shared}
end
inductive iZip_ (K:uFg) (R:It->Hp->Prop) (vs:List V) (H1:Hp):Prop
 | mk (l1 l2) (h0:vs = [.ref l1,.ref l2]) (h1:((∃xs ys,SqL K H1 l1 xs/\SqL K H1 l2 ys/\R (Itz SqL K l1 l2) H1)\/(∃xs ys,SqT K H1 l1 xs/\SqT K H1 l2 ys/\R (Itz SqT K l1 l2) H1)))
end L2
end
section
namespace L2
open PySem PySem.Spec PyProof.Rows
inductive D where
 | non | bl (b:Bool) | int (i:Int) | str (x:Str) | tup (xs:List D) | lst (xs:List D)
mutual
def Rep(H:Hp):D->V->Prop
 | .non,v=>v = .non
 | .bl b,v=>v = .bl b
 | .int i,v=>v = .int i
 | .str x,v=>v = .str x
 | .tup ds,v=>∃a vs,v = .ref a/\H a=some (.tup vs)/\RepL H ds vs
 | .lst ds,v=>∃a vs,v = .ref a/\H a=some (.lst vs)/\RepL H ds vs
def RepL(H:Hp):List D->List V->Prop
 | [],vs=>vs = []
 | d::ds,vs=>∃v r,vs=v::r/\Rep H d v/\RepL H ds r
end
mutual
theorem Rep.mono{H H':Hp}(k:Same H H'):∀(d:D)(v:V),Rep H d v->Rep H' d v
 | .non,v,h=>h
 | .bl b,v,h=>h
 | .int i,v,h=>h
 | .str x,v,h=>h
 | .tup ds,v,h=>by
  obtain⟨a,vs,e,h1,h2⟩:=h
  exact⟨a,vs,e,k _ _ h1,RepL.mono k ds vs h2⟩
 | .lst ds,v,h=>by
  obtain⟨a,vs,e,h1,h2⟩:=h
  exact⟨a,vs,e,k _ _ h1,RepL.mono k ds vs h2⟩
theorem RepL.mono{H H':Hp}(k:Same H H'):∀(ds:List D)(vs:List V),RepL H ds vs->RepL H' ds vs
 | [],vs,h=>h
 | d::ds,vs,h=>by
  obtain⟨v,r,e,h1,h2⟩:=h
  exact⟨v,r,e,Rep.mono k d v h1,RepL.mono k ds r h2⟩
end
theorem RepL.length{H:Hp}:∀{ds:List D}{vs:List V},RepL H ds vs->vs.length=ds.length
 | [],vs,h=>by cases h;rfl
 | d::ds,vs,h=>by
  obtain⟨v,r,rfl,h1,h2⟩:=h
  rw[xY,xY,RepL.length h2]
theorem RepL.get{H:Hp}:∀{ds:List D}{vs:List V}{i:Nat}{v:V},RepL H ds vs->vs[i]? = some v->∃d,ds[i]? = some d/\Rep H d v
 | [],vs,i,v,h,e=>by cases h;simp at e
 | d::ds,vs,i,v,h,e=>by
  obtain⟨w,r,rfl,h1,h2⟩:=h
  cases i with
  | zero=>simp at e;subst e;exact⟨d,rfl,h1⟩
  | succ i=>simp at e;exact RepL.get (i:=i) h2 e
theorem RepL.snoc{H:Hp}{d:D}{v:V}(hd:Rep H d v):∀{ds:List D}{vs:List V},RepL H ds vs->RepL H (ds ++ [d]) (vs ++ [v])
 | [],vs,h=>by cases h;exact⟨v,[],rfl,hd,rfl⟩
 | e::ds,vs,h=>by
  obtain⟨w,r,rfl,h1,h2⟩:=h
  exact⟨w,r ++ [v],rfl,h1,RepL.snoc hd h2⟩
mutual
def Zaq:D->D->Bool
 | .non,.non=>true
 | .bl a,.bl b=>a == b
 | .int a,.int b=>a == b
 | .str a,.str b=>a == b
 | .tup a,.tup b=>Zcl a b
 | .lst a,.lst b=>Zcl a b
 | _,_=>false
def Zcl:List D->List D->Bool
 | [],[]=>true
 | a::r,b::s=>Zaq a b && Zcl r s
 | _,_=>false
end
mutual
theorem Znx:∀d:D,Zaq d d=true
 | .non=>rfl
 | .bl _=>by simp[Zaq]
 | .int _=>by simp[Zaq]
 | .str _=>by simp[Zaq]
 | .tup ds=>by rw[Zaq];exact Zd8 ds
 | .lst ds=>by rw[Zaq];exact Zd8 ds
theorem Zd8:∀ds:List D,Zcl ds ds=true
 | []=>rfl
 | d::ds=>by rw[Zcl,Znx d,Zd8 ds];rfl
end
mutual
def D.deep:D->Nat
 | .tup ds=>Ze5 ds+1
 | .lst ds=>Ze5 ds+1
 | _=>0
def Ze5:List D->Nat
 | []=>0
 | d::ds=>max d.deep (Ze5 ds)
end
def isI:D->String->Bool
 | .non,_=>false
 | .bl _,c=>c == "bool" || c == "int"
 | .int _,c=>c == "int"
 | .str _,c=>c == "str"
 | .tup _,c=>c == "tuple"
 | .lst _,c=>c == "list"
def Zkk:List String:=["bool", "int", "str", "list", "tuple"]
theorem isi{K:uFg}{H:Hp}{d:D}{v:V}(r:Rep H d v)(c:String)(hc:c∈Zkk):∃t,TyOf K H v t/\PySem.W.kitOne K t (.type c)=some (isI d c):=by
 unfold Zkk at hc
 simp only[xE,yP,or_false] at hc
 cases d with
 | non=>cases r;refine⟨_,.non,?_⟩;rcases hc with rfl | rfl | rfl | rfl | rfl<;>rfl
 | bl b=>cases r;refine⟨_,.bl b,?_⟩;rcases hc with rfl | rfl | rfl | rfl | rfl<;>rfl
 | int i=>cases r;refine⟨_,.int i,?_⟩;rcases hc with rfl | rfl | rfl | rfl | rfl<;>rfl
 | str x=>cases r;refine⟨_,.str x,?_⟩;rcases hc with rfl | rfl | rfl | rfl | rfl<;>rfl
 | tup ds=>obtain⟨a,vs,rfl,h1,h2⟩:=r;refine⟨_,.tup h1,?_⟩;rcases hc with rfl | rfl | rfl | rfl | rfl<;>rfl
 | lst ds=>obtain⟨a,vs,rfl,h1,h2⟩:=r;refine⟨_,.lst h1,?_⟩;rcases hc with rfl | rfl | rfl | rfl | rfl<;>rfl
end L2
namespace L2
theorem RepL.mono'{H H':Hp}{ds:List D}{vs:List V}(h:RepL H ds vs)(k:Same H H'):RepL H' ds vs:=RepL.mono k ds vs h
end L2
end
section
namespace L2
open PySem PySem.Spec PyProof.Rows
section
def Itd(lo:Int)(n:Nat):It:=⟨fun i _=>i < n,fun i H x H'=>H'=H/\x = .int (lo - i),fun i _=>n<=i⟩
section
variable{X:Cx}{tg:Expr}
inductive iRngD_ (R:It->Hp->Prop) (vs:List V) (H1:Hp):Prop
 | mk (i j:Int) (h0:vs = [.int i,.int j,.int (-1)]) (h1:(-(2 ^ 62)<=i/\i < 2 ^ 62 /\ -(2 ^ 62)<=j/\j < 2 ^ 62)) (h2:R (Itd i (i - j).toNat) H1)
end
section
variable{g:TG}{tb:TS}{D:Ends}{σ:St}{H:Hp}
end
section
variable{X:Cx}{o i value:Expr}{pos pos':Pos}{td ty tv:TE}
inductive rDNotIn (y:V) (x:V) (H:Hp) (Q:VK):Prop
 | mk (a o) (h0:x = .ref a) (h1:DGet H a y o) (h2:Q (.bl (!o.isSome)) H)
inductive rDIn (y:V) (x:V) (H:Hp) (Q:VK):Prop
 | mk (a o) (h0:x = .ref a) (h1:DGet H a y o) (h2:Q (.bl o.isSome) H)
theorem Zos(hu:X.A.units+1 < cLine):OpR X (compareOp .NotIn) rDNotIn:=by
 intro pins s σ H y x iv u Q I ry rx ⟨a,ov,ex,g,q⟩
 subst ex
 obtain rfl:u=Value.ref a:=rx
 exact Zrw hu I g ry fun s3 I3=>⟨.bl (!ov.isSome),H,I3,rfl,q⟩
theorem Zua(hu:X.A.units+1 < cLine):OpR X (compareOp .In) rDIn:=by
 intro pins s σ H y x iv u Q I ry rx ⟨a,ov,ex,g,q⟩
 subst ex
 obtain rfl:u=Value.ref a:=rx
 exact Zye hu I g ry fun s3 I3=>⟨.bl ov.isSome,H,I3,rfl,q⟩
theorem Zhp{k:Nat}(hr:Room k X.A):QOp X (compareOp .NotIn) rDNotIn:=⟨Zos (by have:=hr.units;lia)⟩
theorem Zar{k:Nat}(hr:Room k X.A):QOp X (compareOp .In) rDIn:=⟨Zua (by have:=hr.units;lia)⟩
theorem Zbb{k:Nat}(hr:Room k X.A)(ho:QE X o td)(hi:QE X i ty)(hv:QE X value tv)(hs:swapsWith value (some (.Subscript o i pos')) pos.line X.env=pure false:=by rfl) :
  QS X (.Assign [.Subscript o i pos'] value pos) (Zkg td ty tv):=⟨Zrz (by have:=hr.units;lia) ho.h hi.h hv.h hs⟩
end
end
section
section
variable{X:Cx}
inductive rEqK (x:V) (y:V) (H:Hp) (Q:VK):Prop
 | mk (b:Addr) (k2:List Key) (h0:y = .ref b) (h1:H b=some (.tup (k2.map kV))) (h2:((x = .non/\Q (.bl false) H)\/∃(a:Addr)(k1:List Key),x = .ref a/\H a=some (.tup (k1.map kV))/\Q (.bl (decide (k1=k2))) H))
inductive rInNil (K:uFg) (x:V) (y:V) (H:Hp) (Q:VK):Prop
 | mk (p) (h0:y = .ref p) (h1:SqL K H p []) (h2:Q (.bl false) H)
end
end
section
def Ze6(H:Hp):List (Int×Str)->List V->Prop
 | [],vs=>vs = []
 | p::r,vs=>∃a vs',vs = .ref a::vs'/\H a=some (.tup [.int p.1,.str p.2])/\Ze6 H r vs'
section
variable{X:Cx}
inductive rInP (K:uFg) (x:V) (y:V) (H:Hp) (Q:VK):Prop
 | mk (b p:Addr) (c:Int) (n:Str) (ps:List (Int×Str)) (vs:List V) (h0:x = .ref b) (h1:H b=some (.tup [.int c,.str n])) (h2:y = .ref p) (h3:SqL K H p vs) (h4:Ze6 H ps vs) (h5:Q (.bl (decide ((c,n)∈ps))) H)
end
end
section
section
variable{prog:Program}{w:World}{K:Type} [DecidableEq K] {knd:HeapKind prog w K}{A:Around}{E:Value->Shared->Prop}{s:Shared}
end
section
variable{X:Cx}{pins:List (Addr×Obj)}{σ:St}{H:Hp}{s:Shared}{a b:Addr}{z:V}{r:Value}{kvs:List (List Key×V)}{k:List Key}{A:Around}{E:Value->Shared->Prop}
end
inductive tSetDef_ (ty:TE) (tx:TE) (σ:St) (Q:VK) (x:V) (H1:Hp):Prop
 | mk (a) (h0:x = .ref a) (h1:IsD H1 a) (h2:ty σ H1 fun y H2=>tx σ H2 fun z H3=>∃kvs k b,H3 a=some (.dT kvs)/\y = .ref b/\H3 b=some (.tup (k.map kV))/\kvs.length < sizeLine/\(∀v,Z3 kvs k=some v->Q v H3)/\(Z3 kvs k=none->Q z (upd H3 a (.dT (Z2 kvs k z)))))
section
variable{X:Cx}{o e f:Expr}{apos cpos:Pos}{td ty tx:TE}{n:Nat}
inductive rCount (K:uFg) (x:V) (vs:List V) (H:Hp) (Q:VK):Prop
 | mk (l xs y) (h0:x = .ref l) (h1:vs = [y]) (h2:SqL K H l xs) (h3:Vw y=true) (h4:xs.all Vw=true) (h5:Q (.int (xs.countP fun z=>eqV z y)) H)
inductive tLRng_ (Q:VK) (vs:List V) (H1:Hp):Prop
 | mk (n:Nat) (h0:vs = [.int n]) (h1:n<=1000000) (h2:∀l,H1 l=none->Q (.ref l) (upd H1 l (.lst ((List.range n).map fun i:Nat=>V.int (i:Int)))))
end
end
section
theorem Wy{X:Cx}{st:Stmt}:QS X st (fun _ _ _=>False):=⟨fun _ _ _ _ _ _ h=>h.elim⟩
end
section
def Ite(K:uFg)(l:Addr):It :=
 ⟨fun i H=>∃xs,SqL K H l xs/\i < xs.length,fun i H v H'=>∃p a,v = .ref p/\H p=none/\H'=upd H p (.tup [.int i,a])/\∀xs,SqL K H l xs->xs[i]? = some a,
  fun i H=>∃xs,SqL K H l xs/\xs.length<=i⟩
inductive iEnum_ (K:uFg) (R:It->Hp->Prop) (vs:List V) (H1:Hp):Prop
 | mk (l xs) (h0:vs = [.ref l]) (h1:SqL K H1 l xs) (h2:R (Ite K l) H1)
end
section
structure HasM (K:uFg) (C:Addr) (m qual:Str) (st:Stmt):Prop where
 ex:∃(f:Addr)(fd:FuncData),Fun K m qual st f fd/\Meth K C m f
structure Mt (P:Program) (w:World) (K:uFg) (mg:Str->Option Value) (base:Heap) (C:Addr) (m:Str) (ps:List Str) (k:Nat) (sp:Sp):Prop where
 ex:∃(f:Addr)(fd:FuncData),Meth K C m f/\FnOk P w K mg base CX0 k f fd ps sp/\Binds K fd ps []
section
variable{P:Program}{w:World}{K:uFg}{mg:Str->Option Value}{base:Heap}{C:Addr}{m qual:Str}{st:Stmt}{N ps:List Str}{k:Nat}{sp:Sp}
theorem HasM.mtQ(h:HasM K C m qual st)(S:FnScope N ps (Zs st))(hb:∀ (kV doc pm:Value) (an:Option Addr) (cdv ct:Value) (us:List Value),us.length=ps.length->bindArgs (PySem.W.fnOf m qual (Y3 st) (Z9 st) (Zs st) .none kV doc pm an cdv ct) ⟨us,[]⟩=pure (ps.zip us))(len:∀vs H Q E,sp vs H Q E->vs.length=ps.length)(hbody:∀ (f:Addr) (cdv:Value) (A:Around) (outer:List Env) (s:Shared) (H:Hp) (vs:List V) (Q:VK) (E:XK),Room k (A.deeper (envOfC qual (Zs st) s.heap.objs.size f cdv))->sp vs H Q E ->
   ∃t,QSs (Yg CX0 P w K mg base N qual (Zs st) f cdv A outer s H E).nox (Z9 st) t/\t {nx:=fun _ H'=>Q .non H',rt:=Q } (start N vs) H):Mt P w K mg base C m ps (k+1) sp:=by
 obtain⟨f,fd,F,M⟩:=h.ex
 exact⟨f,fd,M,F.okQ S len (hbody f),F.binds hb⟩
theorem HasM.mq(h:HasM K C m qual st)(N:List Str)(hbody:∀{f:Addr}{cdv:Value}{A:Around}{outer:List Env}{s:Shared}(H:Hp) (vs:List V) (Q:VK) (E:XK),Room k (A.deeper (envOfC qual (Zs st) s.heap.objs.size f cdv))->sp vs H Q E->vs.length=ps.length/\∃t,QSs (Yg CX0 P w K mg base N qual (Zs st) f cdv A outer s H E).nox (Z9 st) t/\t {nx:=fun _ H'=>Q .non H',rt:=Q } (start N vs) H)(S:FnScope N ps (Zs st):=by exact fsc)(hk:k<=60:=by decide)(hb:∀ (kV doc pm:Value) (an:Option Addr) (cdv ct:Value) (us:List Value),us.length=ps.length->bindArgs (PySem.W.fnOf m qual (Y3 st) (Z9 st) (Zs st) .none kV doc pm an cdv ct) ⟨us,[]⟩=pure (ps.zip us):=by exact fun _ _ _ _ _ _=>by first | exact al1 fun _=>rfl | exact al2 fun _ _=>rfl | exact al3 fun _ _ _=>rfl | exact al4 fun _ _ _ _=>rfl | exact al5 fun _ _ _ _ _=>rfl | exact al6 fun _ _ _ _ _ _=>rfl | exact al7 fun _ _ _ _ _ _ _=>rfl | exact al8 fun _ _ _ _ _ _ _ _=>rfl):Mt P w K mg base C m ps (k+1) sp :=
 h.mtQ S hb (fun vs H Q E h=>(hbody (f:=0) (cdv:=.none) (A:={}) (outer:=[]) (s:={}) H vs Q E (Zck hk) h).1) fun _ _ _ _ _ H vs Q E hr q=>(hbody H vs Q E hr q).2
theorem Zsd{f:Addr}{oc:Value}{od an:Option Addr}{osl:Array (Option Value)}{kV doc pm cdv ct:Value}(a:PySem.W.findIn K (.ref C) m=some (some (.ref f)))(i:PySem.W.isFn K (.ref f)=true)(l:K.lookup f=some ⟨oc,od,.func (PySem.W.fnOf m qual (Y3 st) (Z9 st) (Zs st) .none kV doc pm an cdv ct),osl⟩)(c:PySem.W.codeIn K cdv qual=true)(kp:PySem.W.keepIn K (.ref f)=true):HasM K C m qual st:=⟨f,_,Zew l c kp,⟨a,i,kp⟩⟩
theorem hMQ{K:uFg}(C:Addr)(m qual:Str)(st:Stmt)(f c:Addr)(pm:Value)(e:PySem.W.findIn K (.ref C) m=some (some (.ref f))/\PySem.W.isFn K (.ref f)=true/\K.lookup f=some ⟨.type "function", none,.func (PySem.W.fnOf m qual (Y3 st) (Z9 st) (Zs st) .none .none .none pm none (.ref c) .none),#[]⟩/\PySem.W.codeIn K (.ref c) qual=true/\PySem.W.keepIn K (.ref f)=true):HasM K C m qual st:=Zsd e.1 e.2.1 e.2.2.1 e.2.2.2.1 e.2.2.2.2
structure Mks (P:Program) (w:World) (K:uFg) (mg:Str->Option Value) (base:Heap) (C:Addr) (x:Str) (k:Nat) (sp:Sp):Prop where
 ex:∃(f:Addr)(fd:FuncData),Mk K C f/\FnOk P w K mg base CX0 k f fd ["self"] sp/\Binds K fd ["self"] []/\mg x=some (.ref C)
theorem Mt.mks{x:Str}(h:Mt P w K mg base C "__init__" ["self"] k sp)(mk:PySem.W.makesIn K C=true)(kc:PySem.W.keepIn K (.ref C)=true)(g:mg x=some (.ref C)):Mks P w K mg base C x k sp:=by
 obtain⟨f,fd,M,F,B⟩:=h.ex
 exact⟨f,fd,⟨mk,M.at_,M.fn,kc⟩,F,B,g⟩
end
section
variable{X:Cx}{C:Addr}{m x f:Str}{ps:List Str}{k:Nat}{sp:Sp}{o e value i:Expr}{es:List Expr}{ta td ty tv:TE}{t:TA}{apos pos pos' p:Pos}
theorem Wi{pl:Sem Bool}(he:QE X o ta)(c:Cls X.K C)(M:Mt X.prog X.w X.K X.mg X.base C m ps k sp)(ha:QA X (e::es) t)(hr:Room k X.A:=by exact Room.mono (by assumption) (by first | decide | lia))(hst:starEach (e::es) X.env=(false,eval e X.env)::starEach es X.env:=by rfl)(hpl:(backTo pos (starEach es X.env)).any (·.1)=false:=by rfl)(ht:eval (.Call (.Attribute o m apos) (e::es) [] pos) X.env=(do
   let ov ← eval o X.env
   standAt apos.atName
   let (f,first) ← holding [ov] (getMethod ov m pl)
   callWith pos f first (backTo pos (starEach (e::es) X.env)) (backToKw pos (keywordEach [] X.env))):=by rfl) :
  QE X (.Call (.Attribute o m apos) (e::es) [] pos) (Zdi C m sp [] E0 ta t):=by
 obtain⟨f,fd,M,F,B⟩:=M.ex
 exact⟨Zrq he.h c M F hr B .nil Zdj ha.h hst hpl ht⟩
theorem Zub{pl:Sem Bool}(he:QE X o ta)(c:Cls X.K C)(M:Mt X.prog X.w X.K X.mg X.base C m ps k sp)(hr:Room k X.A:=by exact Room.mono (by assumption) (by first | decide | lia))(ht:eval (.Call (.Attribute o m apos) [] [] pos) X.env=(do
   let ov ← eval o X.env
   standAt apos.atName
   let (f,first) ← holding [ov] (getMethod ov m pl)
   callWith pos f first (backTo pos (starEach [] X.env)) (backToKw pos (keywordEach [] X.env))):=by rfl) :
  QE X (.Call (.Attribute o m apos) [] [] pos) (Zdi C m sp [] E0 ta Vg):=by
 obtain⟨f,fd,M,F,B⟩:=M.ex
 exact⟨Zpb he.h c M F hr B .nil Zdj ht⟩
theorem Zjw(M:Mks X.prog X.w X.K X.mg X.base C x k sp)(hr:Room (k+1) X.A:=by exact Room.mono (by assumption) (by first | decide | lia))(n:nB X x .globalImplicit:=by kernel_rfl):QE X (.Call (.Name x p) [] [] pos) (Zka C sp [] E0 Vg):=by
 obtain⟨f,fd,M,F,B,g⟩:=M.ex
 exact⟨Zpd M F hr (od n).1 g B .nil Zdj (od n).2.1⟩
theorem Zz(he:QE X e ta)(hb:attributeBase e f X.env (eval e X.env)=eval e X.env:=by rfl):QE X (.Attribute e f pos) (Zl4 X.K ta f):=⟨Zts he.h hb⟩
theorem W9(ha:QE X o ta)(hv:QE X value tv)(hs:swapsWith value (some (.Attribute o f pos')) pos.line X.env=pure false:=by rfl):QS X (.Assign [.Attribute o f pos'] value pos) (Zl5 X.K ta tv f):=⟨Ztt ha.h hv.h hs⟩
theorem Zb8:QE X (.Dict [] [] pos) Zjr:=⟨Zpk⟩
theorem Zcb(hr:Room k X.A)(ho:QE X o td)(hi:QE X i ty)(hs:Zg2 i):QE X (.Subscript o i pos) (Zkf td ty):=⟨Zry (by have:=hr.units;lia) ho.h hi.h hs⟩
theorem Zp0{ek ev:Expr}{tk tw:TE}(hk:QE X ek tk)(hv:QE X ev tw):QE X (.Dict [some ek] [ev] pos) (Ze3 [(tk,tw)]):=⟨Zi4 (Zih hk.h hv.h Zi3) rfl rfl (by simp) (by show 1<=15;decide)⟩
inductive rLenD (xs:List V) (H:Hp) (Q:VK):Prop
 | mk (a kvs) (h0:xs = [V.ref a]) (h1:H a=some (.dK kvs)) (h2:Q (.int kvs.length) H)
theorem Zhq:QC X (.builtin "len") rLenD:=.imp ⟨Zon⟩ fun _ _ _ ⟨p,y,a,b,k⟩=>⟨p,y,a,b,k⟩
inductive rMax3 (xs:List V) (H:Hp) (Q:VK):Prop
 | mk (i j l) (h0:xs = [.int i,.int j,.int l]) (h1:Q (.int (if j > i then (if l > j then l else j) else (if l > i then l else i))) H)
end
end
section
section
variable{X:Cx}{scope:Scope}{cl:List (Str×Addr)}{C:Addr}{N':List Str}{s0:Shared}{H0:Hp}{ex:List Addr}{pn:List (Addr×Obj)}{f:Str}{pos:Pos}{e:Expr}{ta:TE}
end
end
section
section
variable{X:Cx}
inductive rNotInP (K:uFg) (x:V) (y:V) (H:Hp) (Q:VK):Prop
 | mk (b p:Addr) (c:Int) (n:Str) (ps:List (Int×Str)) (vs:List V) (h0:x = .ref b) (h1:H b=some (.tup [.int c,.str n])) (h2:y = .ref p) (h3:SqL K H p vs) (h4:Ze6 H ps vs) (h5:Q (.bl (!decide ((c,n)∈ps))) H)
end
section
variable{X:Cx}{scope:Scope}{cl:List (Str×Addr)}{C:Addr}{N':List Str}{s0:Shared}{H0:Hp}{ex:List Addr}{pn:List (Addr×Obj)}
end
end
section
def stS(r:List Str)(x:Str):List Str:=if r.any (· == x) then r else r ++ [x]
section
variable{prog:Program}{w:World}{A:Around}{R:Result->Shared->Prop}{I:Addr}{fp wr:List Addr}{G:Array GenState->Array GenState->Prop}{n:Nat}{P:Nat->Value->Prop}{St:Nat->Shared->Prop}
end
section
variable{prog:Program}{w:World}{A:Around}{E:Value->Shared->Prop}{s:Shared}
end
def Zl9(xs:List Str):Nat:=(xs.foldl stS []).length
section
variable{X:Cx}
inductive tLenSet_ (K:uFg) (Q:VK) (vs:List V) (H1:Hp):Prop
 | mk (l:Addr) (xs:List Str) (h0:vs = [.ref l]) (h1:SqL K H1 l (xs.map V.str)) (h2:xs.length<=1000) (h3:Q (.int (Zl9 xs)) H1)
end
end
end L2
end
section
namespace L2
open PySem PySem.Spec PyProof.Rows
def XTr(h0:Heap)(H:Hp)(h:Heap)(a:Addr)(vs:Array Value):Prop:=∃T oT ts v3,vs[1]? = some (.ref T)/\T≠a/\h.get? T=some oT/\oT.data = .fields ts/\ts[3]? = some v3/\H T=none/\h0.get? T=none
def XAt(h0:Heap)(H:Hp)(h:Heap)(a C:Addr):Prop:=H a=none/\h0.get? a=none/\∃oe vs a0,h.get? a=some oe/\oe.cls = .ref C/\oe.data = .fields vs/\vs[0]? = some a0/\(vs[1]? = some .none\/XTr h0 H h a vs)
def XOn(h0:Heap)(H:Hp)(h:Heap)(a C:Addr):Prop:=H a=none/\h0.get? a=none/\∃oe vs a0,h.get? a=some oe/\oe.cls = .ref C/\oe.data = .fields vs/\vs[0]? = some a0/\XTr h0 H h a vs
theorem XOn.at_{h0:Heap}{H:Hp}{h:Heap}{a C:Addr}(x:XOn h0 H h a C):XAt h0 H h a C:=let ⟨p,q,oe,vs,a0,h1,h2,h3,h4,h5⟩:=x;⟨p,q,oe,vs,a0,h1,h2,h3,h4,.inr h5⟩
def CXE(P:Program)(w:World):CXT:=fun outer H s E e s'=>∃a C H',e = .ref a/\s'.os=s.os/\AllBare s'.gens/\Un (frs outer) [] H H' s.heap s'.heap/\HOk P w H' s'.heap/\XAt s.heap H' s'.heap a C/\E (.ref C) none H'
structure Xp (X:Cx) (E:St->XK):Prop where
 h:∀pins σ H s a C,Inv X pins σ H s->XAt X.s₀.heap H s.heap a C->E σ (.ref C) none H->X.xe (.ref a) s
theorem ObjOk.ex{P:Program}{w:World}{H:Hp}{h:Heap}{a:Addr}{o:HO}(x:ObjOk P w H h a o):∃u,h.get? a=some u:=by
 cases o with
 | lst xs=>obtain⟨_,_,_,_,e⟩:=x;exact⟨_,e⟩
 | tup xs=>obtain⟨_,_,_,_,e,_⟩:=x;exact⟨_,e⟩
 | dK kvs=>obtain⟨_,_,_,_,o,_,_,e,_⟩:=x;exact⟨_,e⟩
 | dT kvs=>obtain⟨_,_,_,_,o,_,_,e,_⟩:=x;exact⟨_,e⟩
 | set S n=>obtain⟨o,_,_,_,e,_⟩:=x;exact⟨_,e⟩
 | ins C dx fs=>obtain⟨_,_,_,e,_⟩:=x;exact⟨_,e⟩
 | own y=>exact x
 | xd fs=>obtain⟨_,⟨_,_,_,e,_⟩,_⟩:=x;exact⟨_,e⟩
 | rng lo hi=>obtain⟨_,_,_,e⟩:=x;exact⟨_,e⟩
 | frz ob u=>obtain⟨e,_⟩:=x;exact⟨_,e⟩
 | tbl ps=>obtain⟨_,_,_,e,_⟩:=x;exact⟨_,e⟩
 | met f y=>exact⟨_,x⟩
 | ext φ=>obtain⟨_,e,_⟩:=x;exact e
section
variable{X:Cx}{σ:List (Option V)}{H H':Hp}{s:Shared}{h':Heap}
theorem Inv.stepN{g':Array GenState}{t':Nat}{d':Drawn}{ch:List Addr}(I:Inv X [] σ H s)(hpn:X.pn = [])(hch:∀b∈ch,X.s₀.heap.get? b=none/\b≠X.env.locals/\∀x c,X.env.cells.lookup x=some c->c≠b)(keep:∀b o,b≠X.env.locals->b∉X.fs->b∉ch->s.heap.get? b=some o->H b=none->h'.get? b=some o)(slot:∀b o,b≠X.env.locals->b∈X.fs->b∉ch->s.heap.get? b=some o->H b=none->∃sl,h'.get? b=some {o with slots:=sl })(there:∀b o,b∉ch->s.heap.get? b=some o->∃o',h'.get? b=some o')(ns:∀m,s.heap.Ns X.env.locals m->h'.Ns X.env.locals m)(hok:HOk X.prog X.w H h')(hg:AllBare g') :
  Inv X [] σ H {s with heap:=h',gens:=g',drawn:=d',toks:=t' }:=by
 have neL:∀b o,X.s₀.heap.get? b=some o->b≠X.env.locals:=fun b o e=>yM (xS (xO e) I.ok.above)
 have neC:∀b o,X.s₀.heap.get? b=some o->b∉ch:=fun b o e hb=>by
  have:=(hch b hb).1
  rw[e] at this;cases this
 have cellK:∀x c,X.env.cells.lookup x=some c->∀v,s.heap.IsCell c v->h'.IsCell c v:=fun x c e v ⟨o,ho,hd⟩=>by
  have nch:c∉ch:=fun z=>(hch c z).2.2 x c e rfl
  by_cases hc:c∈X.fs
  ·obtain⟨sl,q⟩:=slot c o (I.cne x c e) hc nch ho (I.freeC x c e)
   exact⟨_,q,hd⟩
  ·exact⟨o,keep c o (I.cne x c e) hc nch ho (I.freeC x c e),hd⟩
 refine⟨I.ok,I.os,hg,⟨fun b o e n hb hx=>?_,fun b o e n hb hx=>?_,fun b o e n hx=>I.base.free b o e n hx,fun b o e hx=>?_,I.base.tups,I.base.frzs,I.base.tbls⟩,?_,fun x c e=>?_,I.free,I.freeC,fun p hp=>?_,hok,I.len⟩
 ·exact keep b o (neL b o e) hb (neC b o e) (I.base.keep b o e n hb hx) (I.base.free b o e n hx)
 ·obtain⟨sl,e1⟩:=I.base.slot b o e n hb hx
  obtain⟨sl',e2⟩:=slot b _ (neL b o e) hb (neC b o e) e1 (I.base.free b o e n hx)
  exact⟨sl',e2⟩
 ·obtain⟨o',e1⟩:=I.base.there b o e hx
  exact there b o' (neC b o e) e1
 ·obtain⟨m,hn,hl⟩:=I.loc
  refine⟨m,ns m hn,fun i x v e1 e2 e3=>?_⟩
  obtain⟨u,r,l⟩:=hl i x v e1 e2 e3
  refine⟨u,r,?_⟩
  rcases l with l | ⟨k,c,e,z⟩
  ·exact .inl l
  ·exact .inr ⟨k,c,e,cellK x c e _ z⟩
 ·obtain⟨v,z⟩:=I.cell x c e
  exact⟨v,cellK x c e v z⟩
 ·rw[hpn] at hp;cases hp
theorem Inv.noted{hs:List Addr}(I:Inv X [] σ H s)(hpn:X.pn = [])(hh:∀b∈hs,X.s₀.heap.get? b=none/\H b=none/\∃o vs,s.heap.get? b=some o/\o.data = .fields vs)(st:(PySem.W.hideAll s.heap (hs++frs X.stack)).StaysIn h')(up:∀b o,s.heap.get? b=some o->(∀vs,o.data ≠ .fields vs)->∃sl,h'.get? b=some {o with slots:=sl }):Inv X [] σ H {s with heap:=h' }:=by
 obtain⟨m,⟨oL,esL,epL,hoL,hdL,rL⟩,_⟩:=id I.loc
 have kp:∀b o,b∉hs->b∉frs X.stack->s.heap.get? b=some o->h'.get? b=some o:=fun b o n1 n2 e=>st b o (PySem.W.hideAll_get _ e fun hm=>(xM.mp hm).elim n1 n2)
 have fr:∀b,b∈frs X.stack->∃o,s.heap.get? b=some o/\∀vs,o.data ≠ .fields vs:=fun b hb=>(I.stack.mem hb).2
 refine I.stepN (g':=s.gens) (d':=s.drawn) (t':=s.toks) (ch:=hs) hpn (fun b hb=>?_) (fun b o hL hf hc e _=>kp b o hc (fun z=>(xE.mp (I.stkSub b z)).elim hL hf) e) (fun b o hL hf _ e _=>?_) (fun b o hc e=>?_) (fun m' hm=>?_) (fun b u e=>?_) I.bare
 ·obtain⟨h1,h2,o,vs,e,d⟩:=hh b hb
  refine⟨h1,fun z=>?_,fun x c ec z=>?_⟩
  ·rw[z,hoL] at e;cases e;rw[hdL] at d;cases d
  ·obtain⟨v,oc,ho,hd⟩:=I.cell x c ec
   rw[z,e] at ho;cases ho;rw[d] at hd;cases hd
 ·obtain⟨o',e',d⟩:=(I.funs.mem (show b∈X.outer.filterMap (·.frame) from hf)).2
  rw[e] at e';cases e'
  exact up b o e d
 ·by_cases hb:b∈frs X.stack
  ·obtain⟨o',e',d⟩:=fr b hb
   rw[e] at e';cases e'
   obtain⟨sl,q⟩:=up b o e d
   exact⟨_,q⟩
  ·exact⟨o,kp b o hc hb e⟩
 ·obtain⟨o,es,ep,ho,d,r⟩:=hm
  obtain⟨sl,q⟩:=up _ o ho fun vs z=>by rw[d] at z;cases z
  exact⟨_,es,ep,q,d,r⟩
 ·have nh:∀c v,H c=some v->c∉hs/\c∉frs X.stack:=fun c v ec=>⟨(fun z=>by rw[(hh c z).2.1] at ec;cases ec),(fun z=>by rw[I.stkFree c z] at ec;cases ec)⟩
  refine(I.hok b u e).stay (fun c v hc q=>?_) (fun _ q=>q) fun _ _ q=>q
  rcases hc with rfl | hc
  ·exact kp c v (nh c _ e).1 (nh c _ e).2 q
  ·exact kp c v (nh c _ hc).1 (nh c _ hc).2 q
end
section
variable{X:Cx}{σ:List (Option V)}{H:Hp}{s:Shared}{a C:Addr}{M:Model}{E:Value->Shared->Prop}{Q:Unit->Shared->Prop}
theorem Zik(I:Inv X [] σ H s)(hpn:X.pn = [])(hex:X.ex = [])(stk:X.stack=X.env::X.outer)(hf:X.env.frame=some X.env.locals)(x:XAt X.s₀.heap H s.heap a C)(k:∀h',Inv X [] σ H {s with heap:=h' }->XOn X.s₀.heap H h' a C->(∀b o,s.heap.get? b=some o->(∀vs,o.data ≠ .fields vs)->∃sl,h'.get? b=some {o with slots:=sl })->Q () {s with heap:=h' }) :
  wpAny M X.A (noteFrame (.ref a) X.env) Q E s:=by
 obtain⟨ha,h0a,oe,vs,a0,he,hc,hd,v0,tr⟩:=x
 have fin:∀(hs:List Addr),a∈hs->(∀b∈hs,X.s₀.heap.get? b=none/\H b=none/\∃o vs,s.heap.get? b=some o/\o.data = .fields vs)->
   ∀h1,Heap.NotedW (PySem.W.hideAll s.heap (hs++frs X.stack)) (X.env::X.outer) a (.ref C) a0 (rawInt X.env.locals) s.heap h1->Q () {s with heap:=h1 }:=by
  intro hs has hh h1 N
  refine k h1 (I.noted hpn hh N.1 N.2.2.2) ?_ N.2.2.2
  obtain⟨oe',vs',T,oT,ts,he',⟨hc',v0'⟩,hd',h1',hnT,hTe,hT,hdT,h3⟩:=N.2.2.1
  have no:∀o,s.heap.get? T=some o->T∉hs->T∉frs X.stack->False:=fun o e n1 n2=>by
   have:=PySem.W.hideAll_get (hs++frs X.stack) e fun hm=>(xM.mp hm).elim n1 n2
   rw[this] at hnT;cases hnT
  have nfr:T∉frs X.stack:=fun z=>by
   rw[stk] at z
   obtain⟨_,o,e,d⟩:=N.2.1.mem (show T∈(X.env::X.outer).filterMap (·.frame) from z)
   rw[hT] at e;cases e;exact d ts hdT
  refine⟨ha,h0a,oe',vs',a0,he',hc',hd',v0',T,oT,ts,_,h1',hTe,hT,hdT,h3,?_,?_⟩
  ·cases q:H T with
   | none=>rfl
   | some u =>
    obtain⟨o,e⟩:=(I.hok T u q).ex
    exact(no o e (fun z=>by rw[(hh T z).2.1] at q;cases q) nfr).elim
  ·cases q:X.s₀.heap.get? T with
   | none=>rfl
   | some o =>
    obtain⟨o',e⟩:=I.base.there T o q (by rw[hex];simp)
    exact(no o' e (fun z=>by rw[(hh T z).1] at q;cases q) nfr).elim
 have hfr:X.A.frames=some (X.env::X.outer):=by rw[← stk];exact I.ok.frames
 have hl:∀hs:List Addr,s.heap.FunFrames (PySem.W.hideAll s.heap (hs++frs X.stack)) (X.env::X.outer):=fun hs=>by
  rw[← stk]
  exact PySem.W.funFrames_hide I.stack fun env he b hb=>xJ _ (List.mem_filterMap.mpr ⟨env,he,hb⟩)
 have hkb:∀hs:List Addr,(PySem.W.hideAll s.heap (hs++frs X.stack)).StaysIn s.heap:=fun hs b o q=>PySem.W.of_hideAll _ q
 rcases tr with v1 | ⟨T,oT,ts,v3,v1,hTe,hT,hdT,h3,hHT,h0T⟩
 ·have hh:∀b ∈ [a],X.s₀.heap.get? b=none/\H b=none/\∃o vs,s.heap.get? b=some o/\o.data = .fields vs:=fun b hb=>by
   rw[xP] at hb;subst hb;exact⟨h0a,ha,oe,vs,he,hd⟩
  unfold noteFrame
  simp only[hf]
  refine wpAny_bind (wpAny_field he hd v1 ?_)
  rw[if_neg (by decide)]
  refine wpAny_entryW (base:=PySem.W.hideAll s.heap ([a]++frs X.stack)) hfr (hl _) hf he (hkb _) (PySem.W.hideAll_none _ (by simp)) hd (zM.mp v1).1 v0 fun h1 N=>?_
  rw[hc] at N
  exact fin [a] (by simp) hh h1 N
 ·have hh:∀b ∈ [a,T],X.s₀.heap.get? b=none/\H b=none/\∃o vs,s.heap.get? b=some o/\o.data = .fields vs:=fun b hb=>by
   rcases xE.mp hb with rfl | hb
   ·exact⟨h0a,ha,oe,vs,he,hd⟩
   ·rw[xP] at hb;subst hb;exact⟨h0T,hHT,oT,ts,hT,hdT⟩
  unfold noteFrame
  simp only[hf]
  refine wpAny_bind (wpAny_field he hd v1 ?_)
  rw[if_pos (show (Value.ref T != Value.none)=true from by simp)]
  refine wpAny_bind (wpAny_field hT hdT h3 ?_)
  by_cases zz:(v3 == rawInt X.env.locals)=true
  ·rw[if_pos zz]
   exact wpAny_pure (k s.heap I ⟨ha,h0a,oe,vs,a0,he,hc,hd,v0,T,oT,ts,v3,v1,hTe,hT,hdT,h3,hHT,h0T⟩ fun b o e _=>⟨o.slots,e⟩)
  ·rw[if_neg zz]
   refine wpAny_bind (wpAny_setField hT hdT (zM.mp h3).1 ?_)
   have oth:∀b,b≠T->(s.heap.update T (Obj.mapFields (·.setIfInBounds 3 Value.none))).get? b=s.heap.get? b:=fun b hb=>yL _ _ (Ne.symm hb)
   have nr:∀b o,s.heap.get? b=some o->(∀vs,o.data ≠ .fields vs)->b≠T:=fun b o hb hn q=>by
    rw[q,hT] at hb;injection hb with hb;subst hb;exact hn ts hdT
   have hbT:(PySem.W.hideAll s.heap ([a,T]++frs X.stack)).get? T=none:=PySem.W.hideAll_none _ (by simp)
   refine wpAny_entryW (base:=PySem.W.hideAll s.heap ([a,T]++frs X.stack)) hfr ((hl _).of_keeps fun b o hb hn=>⟨o,(oth b (nr b o hb hn)).trans hb,rfl⟩) hf ((oth a (Ne.symm hTe)).trans he)
    (fun b o hbo=>(oth b fun q=>by rw[q,hbT] at hbo;cases hbo).trans (hkb _ b o hbo)) (PySem.W.hideAll_none _ (by simp)) hd (zM.mp v1).1 v0
    fun h1 ⟨x1,x2,x3,x4⟩=>?_
   rw[hc] at x3
   exact fin [a,T] (by simp) hh h1 ⟨x1,x2,x3,fun b o hb hn=>x4 b o ((oth b (nr b o hb hn)).trans hb) hn⟩
theorem Zed{A:Around}{fr:Option Addr}(I:Inv X [] σ H s)(hpn:X.pn = [])(x:XOn X.s₀.heap H s.heap a C)(k:∀h',Inv X [] σ H {s with heap:=h' }->XOn X.s₀.heap H h' a C->Q () {s with heap:=h' }):wpAny M A (setFlight (.ref a) fr) Q E s:=by
 obtain⟨ha,h0a,oe,vs,a0,he,hc,hd,v0,T,oT,ts,v3,v1,hTe,hT,hdT,h3,hHT,h0T⟩:=x
 have sz3:=(zM.mp h3).1
 unfold setFlight
 refine wpAny_bind (wpAny_field he hd v1 ?_)
 rw[if_pos (show (Value.ref T != Value.none)=true from by simp)]
 refine wpAny_setField hT hdT sz3 ?_
 have oth:∀b,b≠T->(s.heap.update T (Obj.mapFields (·.setIfInBounds 3 (fr.elim Value.none fun f=>rawInt f)))).get? b=s.heap.get? b:=fun b hb=>yL _ _ (Ne.symm hb)
 refine k _ (I.noted (hs:=[T]) hpn (fun b hb=>by rw[xP] at hb;subst hb;exact⟨h0T,hHT,oT,ts,hT,hdT⟩) (fun b o q=>?_) fun b o hb hn=>⟨o.slots,(oth b fun q=>by rw[q,hT] at hb;cases hb;exact hn ts hdT).trans hb⟩)
  ⟨ha,h0a,oe,vs,a0,(oth a (Ne.symm hTe)).trans he,hc,hd,v0,T,_,_,(fr.elim Value.none fun f=>rawInt f),v1,hTe,zW _ hT (Obj.isFreed_of_fields (Obj.data_mapFields hdT _)),Obj.data_mapFields hdT _,by simp[sz3],hHT,h0T⟩
 refine(oth b fun z=>?_).trans (PySem.W.of_hideAll _ q)
 rw[z,PySem.W.hideAll_none _ (by simp)] at q
 cases q
theorem Zh6(I:Inv X [] σ H s)(hpn:X.pn = [])(hex:X.ex = [])(stk:X.stack=X.env::X.outer)(hf:X.env.frame=some X.env.locals)(x:XAt X.s₀.heap H s.heap a C)(k:∀h',Inv X [] σ H {s with heap:=h' }->XAt X.s₀.heap H h' a C->Q () {s with heap:=h' }) :
  wpAny M X.A (noteFrame (.ref a) X.env) (fun _ s₂=>wpAny M X.A (setFlight (.ref a) none) Q E s₂) E s :=
 Zik I hpn hex stk hf x fun h1 I1 x1 _=>Zed (s:={s with heap:=h1 }) I1 hpn x1 fun h2 I2 x2=>k h2 I2 x2.at_
end
end L2
namespace L2
open PySem PySem.Spec PyProof.Rows
theorem XAt.mono{h0 h1 h:Heap}{H:Hp}{a C:Addr}(x:XAt h0 H h a C)(k:∀b,h0.get? b=none->h1.get? b=none):XAt h1 H h a C:=by
 obtain⟨ha,h0a,oe,vs,a0,he,hc,hd,v0,tr⟩:=x
 refine⟨ha,k a h0a,oe,vs,a0,he,hc,hd,v0,?_⟩
 rcases tr with v1 | ⟨T,oT,ts,v3,v1,hTe,hT,hdT,h3,hHT,h0T⟩
 ·exact .inl v1
 ·exact .inr ⟨T,oT,ts,v3,v1,hTe,hT,hdT,h3,hHT,k T h0T⟩
theorem Yy{P:Program}{w:World}{K:uFg}{mg:Str->Option Value}{base:Heap}{N:List Str}{qual:Str}{scope:Scope}{f:Addr}{cd:Value}{A:Around}{outer:List Env}{s:Shared}{H:Hp}{E:XK} :
  Xp (Yg (CXE P w) P w K mg base N qual scope f cd A outer s H E) fun _=>E:=⟨fun pins σ H1 s1 a C I x hE=>by
 have I':=I.pins_of (pins':=[]) (fun p hp=>nomatch hp)
 show wpAny _ _ (noteFrame _ _ >>= fun _=>setFlight _ none) _ _ _
 refine wpAny_bind (Zh6 (X:=Yg (CXE P w) P w K mg base N qual scope f cd A outer s H E) I' rfl rfl rfl rfl x fun h' J y=>?_)
 exact⟨a,C,H1,rfl,J.os,J.bare,J.base,J.hok,y,hE⟩⟩
section
variable{X:Cx}{E:St->XK}
theorem Inv.newer{pins:List (Addr×Obj)}{σ:St}{H:Hp}{s:Shared}(I:Inv X pins σ H s)(hex:X.ex = []):∀b,s.heap.get? b=none->X.s₀.heap.get? b=none:=fun b e=>by
 cases q:X.s₀.heap.get? b with
 | none=>rfl
 | some o =>
  obtain⟨o',e'⟩:=I.base.there b o q (by rw[hex];simp)
  rw[e] at e';cases e'
structure Xq (X:Cx) (E:St->XK):Prop where
 h:(∀ σ c d H,¬E σ c d H)\/(X.ex = []/\Xp X E)
theorem Xq.pass{pins:List (Addr×Obj)}{σ:St}{H:Hp}{s s':Shared}{e:Value}(hx:Xq X E)(I:Inv X pins σ H s)(h:CXE X.prog X.w X.stack H s (E σ) e s'):X.xe e s':=by
 obtain⟨a,C,H',rfl,os,bare,un,hok,x,hE⟩:=h
 rcases hx.h with z | ⟨hex,hx⟩
 ·exact(z _ _ _ _ hE).elim
 obtain⟨hh,g,d,t,os'⟩:=s'
 obtain rfl:os'=s.os:=os
 have J:=I.call (h':=hh) (g':=g) (d':=d) (t':=t) (ch:=[]) un hok bare (fun b z=>absurd z (by simp))
 exact hx.h pins σ H' _ a C J (x.mono (I.newer hex)) hE
theorem Z5{P:Program}{w:World}{K:uFg}{mg:Str->Option Value}{base:Heap}{N:List Str}{qual:Str}{scope:Scope}{f:Addr}{cd:Value}{A:Around}{outer:List Env}{s:Shared}{H:Hp}{E:XK} :
  Xq (Yg (CXE P w) P w K mg base N qual scope f cd A outer s H E) fun _=>E:=⟨.inr ⟨rfl,Yy⟩⟩
end
structure Run (P:Program) (w:World) (K:uFg) (mg:Str->Option Value) (base:Heap) (k:Nat) (f:Addr) (sp:Sp):Prop where
 run:∀(A:Around)(outer:List Env)(s:Shared)(H:Hp)(us:List Value)(vs:List V)(Q:VK)(E:XK),Room k A->Env0 P w K mg base A outer s H->Vals vs us->sp vs H Q E->codeAny (model P w) A (.call (.ref f) ⟨us,[]⟩) (CR (CXE P w) outer P w H s Q E) s
theorem FnOk.runX{P:Program}{w:World}{K:uFg}{mg:Str->Option Value}{base:Heap}{k:Nat}{f:Addr}{fd:FuncData}{ps:List Str}{sp:Sp}(F:FnOk P w K mg base (CXE P w) k f fd ps sp)(hb:Binds K fd ps []):Run P w K mg base k f sp :=
 ⟨fun A outer s H us vs Q E hr e0 r h=>by
  have KX:K.In s.heap:=e0.mod.kin.keeps fun b o e=>(e0.bs b o e).1
  have hl:us.length=ps.length:=by rw[← r.length];exact F.len _ _ _ _ h
  have hb':BindsTo s fd ⟨us,[]⟩ (ps.zip us):=by
   have:=hb s us KX (by rw[xR];exact hl)
   rw[xR] at this
   exact this
  exact F.run A outer s H ⟨us,[]⟩ us vs Q E hr e0 hb' r h⟩
def FnX(P:Program)(w:World)(K:uFg)(mg:Str->Option Value)(base:Heap)(x:Str)(k:Nat)(sp:Sp):Prop :=
 ∃f,mg x=some (.ref f)/\PySem.W.keepIn K (.ref f)=true/\Run P w K mg base k f sp
structure MtX (P:Program) (w:World) (K:uFg) (mg:Str->Option Value) (base:Heap) (C:Addr) (m:Str) (k:Nat) (sp:Sp):Prop where
 ex:∃(f:Addr),Meth K C m f/\Run P w K mg base k f sp
section
variable{P:Program}{w:World}{K:uFg}{mg:Str->Option Value}{base:Heap}{C:Addr}{x:Str}{ps:List Str}{k k':Nat}{sp sp':Sp}
end
def Zyn(sp:Sp)(E:St->XK)(t:TA):TE:=fun σ H Q=>t σ H fun vs H1=>sp vs H1 Q (E σ)
inductive tMtX_ (C:Addr) (m:Str) (sp:Sp) (E:St->XK) (t:TA) (σ:St) (Q:VK) (x:V) (H1:Hp):Prop
 | mk (a dx fs) (h0:x = .ref a) (h1:H1 a=some (.ins C dx fs)) (h2:fs.lookup m=none) (h3:t σ H1 fun vs H2=>sp (x::vs) H2 Q (E σ))
def Zma(C:Addr)(m:Str)(sp:Sp)(E:St->XK)(ta:TE)(t:TA):TE:=fun σ H Q=>ta σ H fun x H1=>tMtX_ C m sp E t σ Q x H1
section
variable{X:Cx}{E:St->XK}{k:Nat}{f C:Addr}{sp:Sp}{x m:Str}{p pos apos:Pos}{e o:Expr}{es:List Expr}{ta:TE}{t:TA}
theorem Zeq{pins:List (Addr×Obj)}{σ:St}{H:Hp}{s:Shared}{Q:VK}{us:List Value}{vs:List V}(F:Run X.prog X.w X.K X.mg X.base k f sp)(hr:Room k X.A)(hx:Xq X E)(I:Inv X pins σ H s)(r:Vals vs us)(h:sp vs H Q (E σ)):wpAny (model X.prog X.w) X.A (call (.ref f) us) (EP X pins σ Q) X.xe s:=by
 refine wpAny_call (codeAny_mono (F.run X.A X.stack s H us vs Q (E σ) hr I.env0 r h) fun r s' hq=>?_)
 cases r with
 | error e=>exact hx.pass I hq
 | ok fl =>
  cases fl with
  | ret u=>exact I.after hq
  | next=>exact False.elim hq
  | brk=>exact False.elim hq
  | cont=>exact False.elim hq
theorem Vm(hx:Xq X E)(F:FnX X.prog X.w X.K X.mg X.base x k sp)(ha:QA X (e::es) t)(hr:Room k X.A:=by exact Room.mono (by assumption) (by first | decide | lia))(n:nB X x .globalImplicit:=by kernel_rfl)(he:starEach (e::es) X.env=(false,eval e X.env)::starEach es X.env:=by rfl)(hpl:(backTo pos (starEach es X.env)).any (·.1)=false:=by rfl) :
  QE X (.Call (.Name x p) (e::es) [] pos) (Zyn sp E t):=⟨by
 obtain⟨f,hm,hk,G⟩:=F
 intro pins s σ H Q I h
 have n:=od n
 refine wpAny_Call_Name_kw (Za9 I n.1 hm ?_ n.2.1)
 refine PySem.W.callWith_K (h₀:=X.base) I.ok.mod.kin hk (thn (ha.h pos pins s σ H _ I h) fun us s1 ⟨vs,H1,I1,r,q⟩=>⟨I1.kIn,?_⟩) he hpl
 exact Zeq G hr hx I1 r q⟩
theorem Ym{pl:Sem Bool}(hx:Xq X E)(he:QE X o ta)(c:Cls X.K C)(M:MtX X.prog X.w X.K X.mg X.base C m k sp)(ha:QA X (e::es) t)(hr:Room k X.A:=by exact Room.mono (by assumption) (by first | decide | lia))(hst:starEach (e::es) X.env=(false,eval e X.env)::starEach es X.env:=by rfl)(hpl:(backTo pos (starEach es X.env)).any (·.1)=false:=by rfl)(ht:eval (.Call (.Attribute o m apos) (e::es) [] pos) X.env=(do
   let ov ← eval o X.env
   standAt apos.atName
   let (f,first) ← holding [ov] (getMethod ov m pl)
   callWith pos f first (backTo pos (starEach (e::es) X.env)) (backToKw pos (keywordEach [] X.env))):=by rfl) :
  QE X (.Call (.Attribute o m apos) (e::es) [] pos) (Zma C m sp E ta t):=⟨by
 obtain⟨f,hm,F⟩:=M.ex
 intro pins s σ H Q I h
 refine PySem.W.methodCall_KW (pl:=pl) (thn (he.h pins s σ H _ I h) fun u s1 ⟨x,H1,I1,rx,a,dx,fs,ex,ea,l,q⟩=>?_) ht
 subst ex
 obtain rfl:u=Value.ref a:=rx
 refine Zcz I1 ea c hm l ?_
 refine PySem.W.callWith_K (first:=[.ref a]) (h₀:=X.base) I.ok.mod.kin hm.kp (thn (ha.h pos pins s1 σ H1 _ I1 q) fun us s2 ⟨vs,H2,I2,r,q2⟩=>⟨I2.kIn,?_⟩) hst hpl
 exact Zeq (us:=.ref a::us) (vs:=.ref a::vs) F hr hx I2 (.cons rfl r) q2⟩
theorem Zas{pl:Sem Bool}(hx:Xq X E)(he:QE X o ta)(c:Cls X.K C)(M:MtX X.prog X.w X.K X.mg X.base C m k sp)(hr:Room k X.A:=by exact Room.mono (by assumption) (by first | decide | lia))(ht:eval (.Call (.Attribute o m apos) [] [] pos) X.env=(do
   let ov ← eval o X.env
   standAt apos.atName
   let (f,first) ← holding [ov] (getMethod ov m pl)
   callWith pos f first (backTo pos (starEach [] X.env)) (backToKw pos (keywordEach [] X.env))):=by rfl) :
  QE X (.Call (.Attribute o m apos) [] [] pos) (Zma C m sp E ta Vg):=⟨by
 obtain⟨f,hm,F⟩:=M.ex
 intro pins s σ H Q I h
 refine PySem.W.methodCall_KW (pl:=pl) (thn (he.h pins s σ H _ I h) fun u s1 ⟨x,H1,I1,rx,a,dx,fs,ex,ea,l,q⟩=>?_) ht
 subst ex
 obtain rfl:u=Value.ref a:=rx
 refine Zcz I1 ea c hm l ?_
 exact PySem.W.callWith_K0 (first:=[.ref a]) I1.kIn hm.kp (Zeq (us:=[.ref a]) (vs:=[.ref a]) F hr hx I1 (.cons rfl .nil) q)⟩
end
section
variable{P:Program}{w:World}{K:uFg}{mg:Str->Option Value}{base:Heap}
theorem Fun.okX{x qual:Str}{st:Stmt}{f:Addr}{fd:FuncData}{N ps:List Str}{k:Nat}{sp:Sp}(F:Fun K x qual st f fd)(S:FnScope N ps (Zs st))(len:∀vs H Q E,sp vs H Q E->vs.length=ps.length)(hbody:∀ (cdv:Value) (A:Around) (outer:List Env) (s:Shared) (H:Hp) (vs:List V) (Q:VK) (E:XK),Room k (A.deeper (envOfC qual (Zs st) s.heap.objs.size f cdv))->sp vs H Q E ->
   ∃t,QSs (Yg (CXE P w) P w K mg base N qual (Zs st) f cdv A outer s H E) (Z9 st) t/\t {nx:=fun _ H'=>Q .non H',rt:=Q } (start N vs) H):FnOk P w K mg base (CXE P w) (k+1) f fd ps sp:=by
 obtain⟨oc,od,kV,doc,pm,an,cdv,ct,osl,rfl,lk,hcd⟩:=F.ex
 refine Zkb lk hcd S len fun A outer s H vs Q E hr hsp=>?_
 obtain⟨t,h,q⟩:=hbody cdv A outer s H vs Q E hr hsp
 exact⟨t,h.h,q⟩
theorem Has.fnX{x:Str}{st:Stmt}{N ps:List Str}{k:Nat}{sp:Sp}(h:Has K mg x st)(S:FnScope N ps (Zs st))(hb:∀ (kV doc pm:Value) (an:Option Addr) (cdv ct:Value) (us:List Value),us.length=ps.length->bindArgs (PySem.W.fnOf x x (Y3 st) (Z9 st) (Zs st) .none kV doc pm an cdv ct) ⟨us,[]⟩=pure (ps.zip us))(len:∀vs H Q E,sp vs H Q E->vs.length=ps.length)(hbody:∀ (f:Addr) (cdv:Value) (A:Around) (outer:List Env) (s:Shared) (H:Hp) (vs:List V) (Q:VK) (E:XK),Room k (A.deeper (envOfC x (Zs st) s.heap.objs.size f cdv))->sp vs H Q E ->
   ∃t,QSs (Yg (CXE P w) P w K mg base N x (Zs st) f cdv A outer s H E) (Z9 st) t/\t {nx:=fun _ H'=>Q .non H',rt:=Q } (start N vs) H):FnX P w K mg base x (k+1) sp:=by
 obtain⟨f,fd,F,hm⟩:=h
 exact⟨f,hm,F.kp,(F.okX S len (hbody f)).runX (F.binds hb)⟩
theorem Has.fx{x:Str}{st:Stmt}{k:Nat}{sp:Sp}(h:Has K mg x st)(N ps:List Str)(hbody:∀{f:Addr}{cdv:Value}{A:Around}{outer:List Env}{s:Shared}(H:Hp) (vs:List V) (Q:VK) (E:XK),Room k (A.deeper (envOfC x (Zs st) s.heap.objs.size f cdv))->sp vs H Q E->vs.length=ps.length/\∃t,QSs (Yg (CXE P w) P w K mg base N x (Zs st) f cdv A outer s H E) (Z9 st) t/\t {nx:=fun _ H'=>Q .non H',rt:=Q } (start N vs) H)(S:FnScope N ps (Zs st):=by exact fsc)(hk:k<=60:=by decide)(hb:∀ (kV doc pm:Value) (an:Option Addr) (cdv ct:Value) (us:List Value),us.length=ps.length->bindArgs (PySem.W.fnOf x x (Y3 st) (Z9 st) (Zs st) .none kV doc pm an cdv ct) ⟨us,[]⟩=pure (ps.zip us):=by exact fun _ _ _ _ _ _=>by first | exact al1 fun _=>rfl | exact al2 fun _ _=>rfl | exact al3 fun _ _ _=>rfl | exact al4 fun _ _ _ _=>rfl | exact al5 fun _ _ _ _ _=>rfl | exact al6 fun _ _ _ _ _ _=>rfl | exact al7 fun _ _ _ _ _ _ _=>rfl | exact al8 fun _ _ _ _ _ _ _ _=>rfl):FnX P w K mg base x (k+1) sp :=
 h.fnX S hb (fun vs H Q E h=>(hbody (f:=0) (cdv:=.none) (A:={}) (outer:=[]) (s:={}) H vs Q E (Zck hk) h).1) fun _ _ _ _ _ H vs Q E hr q=>(hbody H vs Q E hr q).2
theorem HasM.mtX{C:Addr}{m qual:Str}{st:Stmt}{N ps:List Str}{k:Nat}{sp:Sp}(h:HasM K C m qual st)(S:FnScope N ps (Zs st))(hb:∀ (kV doc pm:Value) (an:Option Addr) (cdv ct:Value) (us:List Value),us.length=ps.length->bindArgs (PySem.W.fnOf m qual (Y3 st) (Z9 st) (Zs st) .none kV doc pm an cdv ct) ⟨us,[]⟩=pure (ps.zip us))(len:∀vs H Q E,sp vs H Q E->vs.length=ps.length)(hbody:∀ (f:Addr) (cdv:Value) (A:Around) (outer:List Env) (s:Shared) (H:Hp) (vs:List V) (Q:VK) (E:XK),Room k (A.deeper (envOfC qual (Zs st) s.heap.objs.size f cdv))->sp vs H Q E ->
   ∃t,QSs (Yg (CXE P w) P w K mg base N qual (Zs st) f cdv A outer s H E) (Z9 st) t/\t {nx:=fun _ H'=>Q .non H',rt:=Q } (start N vs) H):MtX P w K mg base C m (k+1) sp:=by
 obtain⟨f,fd,F,M⟩:=h.ex
 exact⟨f,M,(F.okX S len (hbody f)).runX (F.binds hb)⟩
theorem HasM.mx{C:Addr}{m qual:Str}{st:Stmt}{k:Nat}{sp:Sp}(h:HasM K C m qual st)(N ps:List Str)(hbody:∀{f:Addr}{cdv:Value}{A:Around}{outer:List Env}{s:Shared}(H:Hp) (vs:List V) (Q:VK) (E:XK),Room k (A.deeper (envOfC qual (Zs st) s.heap.objs.size f cdv))->sp vs H Q E->vs.length=ps.length/\∃t,QSs (Yg (CXE P w) P w K mg base N qual (Zs st) f cdv A outer s H E) (Z9 st) t/\t {nx:=fun _ H'=>Q .non H',rt:=Q } (start N vs) H)(S:FnScope N ps (Zs st):=by exact fsc)(hk:k<=60:=by decide)(hb:∀ (kV doc pm:Value) (an:Option Addr) (cdv ct:Value) (us:List Value),us.length=ps.length->bindArgs (PySem.W.fnOf m qual (Y3 st) (Z9 st) (Zs st) .none kV doc pm an cdv ct) ⟨us,[]⟩=pure (ps.zip us):=by exact fun _ _ _ _ _ _=>by first | exact al1 fun _=>rfl | exact al2 fun _ _=>rfl | exact al3 fun _ _ _=>rfl | exact al4 fun _ _ _ _=>rfl | exact al5 fun _ _ _ _ _=>rfl | exact al6 fun _ _ _ _ _ _=>rfl | exact al7 fun _ _ _ _ _ _ _=>rfl | exact al8 fun _ _ _ _ _ _ _ _=>rfl):MtX P w K mg base C m (k+1) sp :=
 h.mtX S hb (fun vs H Q E h=>(hbody (f:=0) (cdv:=.none) (A:={}) (outer:=[]) (s:={}) H vs Q E (Zck hk) h).1) fun _ _ _ _ _ H vs Q E hr q=>(hbody H vs Q E hr q).2
end
end L2
namespace L2
open PySem PySem.Spec PyProof.Rows
def nsX(K:uFg)(N:Addr):Bool:=match K.lookup N with
 | some ⟨_,_,.dict es _,_⟩=>(es.toList.all fun e=>match e.key with | .str _ _=>true | _=>false) && (nsFind es "__init__").isNone
 | _=>false
def vE:List Value:=[.type "ValueError", .type "Exception", .type "BaseException", .type "object"]
def Zg5:List (Option Value)->Bool
 | [_,_,_,_,some v,_]=>v == .builtin "ValueError.__new__"
 | _=>false
def Zmb(K:uFg):List Value->Bool
 | .ref M::r=>r == vE && (match K.lookup M with | some ⟨_,_,.cls cd,_⟩=>nsX K cd.ns | _=>false)
 | _=>false
def Zab(K:uFg)(C:Addr):Bool:=match K.lookup C with
 | some ⟨c,_,.cls cd,sl⟩=>(c == .type "type") && (cd.hasDel == false) && nsX K cd.ns && Zg5 sl.toList && (match cd.mro with | v::r=>(v == .ref C) && Zmb K r | _=>false)
 | _=>false
theorem Zjx{K:uFg}{h:Heap}{N:Addr}(X:K.In h)(e:nsX K N=true):∃mN,h.Ns N mN/\mN "__init__" = none:=by
 unfold nsX at e
 split at e
 ·rename_i c d es n sl q
  rw[xV] at e
  refine⟨nsFind es,⟨_,es,n,X _ _ q,rfl,fun en hen=>?_,fun _=>rfl⟩,Option.isNone_iff_eq_none.mp e.2⟩
  have z:=yZ.mp e.1 en (Array.mem_toList_iff.mpr hen)
  cases k:en.key with
  | str x t=>exact⟨x,t,rfl⟩
  | _=>rw[k] at z;cases z
 ·cases e
theorem Zse:∀{l:List (Option Value)},Zg5 l=true->∃k0 k1 k2 k3 k5,l = [k0,k1,k2,k3,some (.builtin "ValueError.__new__"),k5]:=by
 intro l e
 unfold Zg5 at e
 split at e
 ·exact⟨_,_,_,_,_,by rw[beq_iff_eq.mp e]⟩
 ·exact Bool.noConfusion e
theorem Zkl{K:uFg}{h:Heap}{C:Addr}(X:K.In h)(e:Zab K C=true) :
  ∃nm q N bs bm hdct sn sub ab col dd k0 k1 k2 k3 k5 mN,h.get? C=some (excClassObj nm q C N bs bm hdct sn sub ab col dd k0 k1 k2 k3 k5 "ValueError.__new__")/\h.Ns N mN/\mN "__init__" = none/\OwnTail h vE bm:=by
 unfold Zab at e
 split at e
 ·rename_i c d cd sl q
  simp only[xV] at e
  obtain⟨⟨⟨⟨e1,e2⟩,e3⟩,e4⟩,e5⟩:=e
  have e1:=beq_iff_eq.mp e1
  subst e1
  obtain⟨mN,hn,hi⟩:=Zjx X e3
  obtain⟨nm,bs,mro,N,qn,hdc,sn,sub,ab,col,hdl⟩:=cd
  have e2:hdl=false:=beq_iff_eq.mp e2
  subst e2
  cases mro with
  | nil=>cases e5
  | cons v r =>
   dsimp only at e5
   rw[xV] at e5
   have e6:=beq_iff_eq.mp e5.1
   subst e6
   have e7:=e5.2
   unfold Zmb at e7
   split at e7
   ·rename_i M r
    rw[xV] at e7
    have e8:=beq_iff_eq.mp e7.1
    subst e8
    have e9:=e7.2
    split at e9
    ·rename_i c2 d2 cd2 sl2 q2
     obtain⟨mM,hM,hMi⟩:=Zjx X e9
     obtain⟨sl⟩:=sl
     obtain⟨k0,k1,k2,k3,k5,rfl⟩:=Zse (l:=sl) e4
     ·exact⟨nm,qn,N,bs,.ref M::vE,hdc,sn,sub,ab,col,d,k0,k1,k2,k3,k5,mN,X _ _ q,hn,hi,.own (X _ _ q2) hM hMi .base⟩
    ·cases e9
   ·cases e7
 ·cases e
def Zjy(E:St->XK)(C:Addr)(te:TE):TS:=fun _ σ H=>te σ H fun _ H1=>E σ (.ref C) none H1
section
variable{X:Cx}{E:St->XK}{C:Addr}{x:Str}{np cpos pos:Pos}{e:Expr}{te:TE}
theorem Zp1(hx:Xp X E)(hcl:X.calm=true)(hex:X.ex = [])(xc:Zab X.K C=true)(n:Nm X.env.scope x .globalImplicit)(hm:X.mg x=some (.ref C))(he:QE X e te)(hs:starEach [e] X.env = [(false,eval e X.env)]:=by rfl):QS X (.Raise (some (.Call (.Name x np) [e] [] cpos)) none pos) (Zjy E C te):=⟨by
 intro pins s σ H D I h
 obtain⟨nm,q,N,bs,bm,hdct,sn,sub,ab,col,dd,k0,k1,k2,k3,k5,mN,hC,hn,hi,T⟩:=Zkl I.kIn xc
 refine wpAny_Raise_call_subU (C:=C) (N:=N) (nm:=nm) (q:=q) (bs:=bs) (bm:=bm) (bmB:=vE) (hdct:=hdct) (sn:=sn) (sub:=sub) (ab:=ab) (col:=col) (dd:=dd) (k0:=k0) (k1:=k1) (k2:=k2) (k3:=k3) (k5:=k5) (mN:=mN)
  F.excBase_ValueError (by decide) F.excBase_ValueError (T.hasType (by decide)) (I.ok.hd hcl) (by rw[hs];rfl) hi (Za9 I n.1 hm ⟨rfl,?_⟩ n.2.1)
 rw[hs]
 refine Calls.evalArgs_plain (Calls.spliced_cons (thn (he.h pins s σ H _ I h) fun u s1 ⟨v,H1,I1,r1,q1⟩=>Calls.spliced_nil ?_))
 have K1:∀b o,X.base.get? b=some o->s1.heap.get? b=some o:=I1.bk
 obtain⟨nm',q',N',bs',bm',hdct',sn',sub',ab',col',dd',k0',k1',k2',k3',k5',mN',hC',hn',hi',T'⟩:=Zkl I1.kIn xc
 have lk:∃o,X.K.lookup C=some o:=by
  unfold Zab at xc
  split at xc
  ·rename_i z;exact⟨_,z⟩
  ·cases xc
 obtain⟨oC,hoC⟩:=lk
 have z1:=(I.kIn _ _ hoC).symm.trans hC
 have z2:=(I1.kIn _ _ hoC).symm.trans hC'
 have hC1:s1.heap.get? C=some (excClassObj nm q C N bs bm hdct sn sub ab col dd k0 k1 k2 k3 k5 "ValueError.__new__"):=by rw[hC',← z2,z1]
 have zz:=hC1.symm.trans hC'
 have eN:N=N':=by
  have:=congrArg (fun o:Option Obj=>match o with | some ⟨_,_,.cls cd,_⟩=>cd.ns | _=>0) zz
  exact this
 have ebm:bm=bm':=by
  have:=congrArg (fun o:Option Obj=>match o with | some ⟨_,_,.cls cd,_⟩=>cd.mro | _=>[]) zz
  exact(List.cons.inj this).2
 subst eN ebm
 refine⟨rfl,by show 1<=sizeLine;decide,hC1,?_,T',fun h' a hx'=>?_⟩
 ·-- the namespace is the same object
  have lkN:∃o,X.K.lookup N=some o:=by
   unfold Zab at xc
   rw[hoC] at xc
   obtain⟨c,d,dt,sl⟩:=oC
   cases dt with
   | cls cd =>
    simp only[xV] at xc
    have e3:=xc.1.1.2
    have eN:cd.ns=N:=by
     have:=congrArg (fun o:Option Obj=>match o with | some ⟨_,_,.cls cd,_⟩=>cd.ns | _=>0) z1
     exact this
    rw[eN] at e3
    unfold nsX at e3
    split at e3
    ·rename_i z;exact⟨_,z⟩
    ·cases e3
   | _=>cases xc
  obtain⟨oN,hoN⟩:=lkN
  obtain⟨o1,es1,ep1,ho1,r1⟩:=hn
  have:=(I.kIn _ _ hoN).symm.trans ho1
  cases this
  exact⟨_,es1,ep1,I1.kIn _ _ hoN,r1⟩
 ·obtain⟨t,e1,e2,e3⟩:=hx'.there
  have I2:Inv X pins σ H1 {s1 with heap:=h' }:=I1.kept (t':=s1.toks) hx'.keeps
  have fr:∀b,s1.heap.get? b=none->H1 b=none:=fun b z=>by
   cases q:H1 b with
   | none=>rfl
   | some u=>obtain⟨o,e⟩:=(I1.hok b u q).ex;rw[z] at e;cases e
  refine hx.h pins σ H1 {s1 with heap:=h' } a C I2 ⟨fr a hx'.new,?_,_,_,_,e1,rfl,rfl,rfl,.inl rfl⟩ q1
  cases q:X.s₀.heap.get? a with
  | none=>rfl
  | some o =>
   obtain⟨o',e'⟩:=I1.base.there a o q (by rw[hex];simp)
   rw[hx'.new] at e';cases e'⟩
end
end L2
end
section
namespace L2
open PySem PySem.Spec PyProof.Rows
abbrev TJ:=St->Hp->(Hp->Prop)->Prop
def PJ(X:Cx)(es:List Expr)(t:TJ):Prop:=∀(pins:List (Addr×Obj))(s:Shared)(σ:St)(H:Hp)(Q:Hp->Prop)(acc:Str),Inv X pins σ H s->acc.length+es.length * 1000000<=sizeLine->t σ H Q ->
 Joins (model X.prog X.w) X.A X.xe (evalEach es X.env) acc (fun out s₁=>out.length<=sizeLine/\∃H',Inv X pins σ H' s₁/\Q H') s
structure QJ (X:Cx) (es:List Expr) (t:TJ):Prop where
 h:PJ X es t
def tJt(n:Nat)(t:TJ):TJ:=fun σ H Q=>n<=1000000/\t σ H Q
def tJf(te:TE)(t:TJ):TJ:=fun σ H Q=>te σ H fun v H1=>((∃x,v = .str x/\x.length<=1000000)\/(∃i,v = .int i/\i.natAbs.log2 < 1920))/\t σ H1 Q
def tJr(te:TE)(t:TJ):TJ:=fun σ H Q=>te σ H fun v H1=>(∃x,v = .str x/\x.length<=10000/\∀c∈x.cps.toList,c < 16 ^ 8)/\t σ H1 Q
def tJ0:TJ:=fun _ H Q=>Q H
def Zvq(t:TJ):TE:=fun σ H Q=>t σ H fun H1=>∀x:Str,Q (.str x) H1
section
variable{X:Cx}{es:List Expr}{e:Expr}{te:TE}{t:TJ}{pos:Pos}
theorem Y6:QJ X [] tJ0:=⟨fun pins s σ H Q acc I hl h=>⟨by simpa using hl,H,I,h⟩⟩
theorem Uz(a b:Str):(a++b).length=a.length+b.length:=strLen_append a b
theorem Yr{x:Str}{j:Nat}(h:QJ X es t)(he:evalEach (.Constant (.str x) j pos::es) X.env=eval (.Constant (.str x) j pos) X.env::evalEach es X.env:=by rfl):QJ X (.Constant (.str x) j pos::es) (tJt x.length t):=⟨by
 intro pins s σ H Q acc I hl hq
 obtain⟨hx,hq⟩:=hq
 rw[xY] at hl
 rw[he]
 refine Calls.Constant_str ⟨x,_,rfl,?_,h.h pins _ σ H Q (acc++x) (I.tok _) ?_ hq⟩
 ·rw[Uz];lia
 ·rw[Uz];lia⟩
theorem Yz(h1:QE X e te)(h:QJ X es t)(he:evalEach (.FormattedValue e (-1) none pos::es) X.env=eval (.FormattedValue e (-1) none pos) X.env::evalEach es X.env:=by rfl):QJ X (.FormattedValue e (-1) none pos::es) (tJf te t):=⟨by
 intro pins s σ H Q acc I hl hq
 rw[xY] at hl
 rw[he]
 refine wpAny_FormattedValue_plain (thn (h1.h pins s σ H _ I hq) fun u s1 ⟨v,H1,I1,rv,hv,q⟩=>?_)
 rcases hv with⟨x,rfl,hx⟩ | ⟨i,rfl,hi⟩
 ·obtain⟨tk,rfl⟩:=rv
  refine formatField_str (fun t' tk'=>⟨x,t',rfl,?_,h.h pins _ σ H1 Q (acc++x) (I1.tok _) ?_ q⟩) (by rw[sizeLine_eq];lia)
  ·rw[Uz];lia
  ·rw[Uz];lia
 ·obtain⟨tk,rfl⟩:=rv
  have hn:(Str.ofString (toString i)).length<=1921:=by rw[PySem.ofString_length];exact int_text_length_le (by decide) hi
  refine wpAny_formatField_int hi ⟨_,_,rfl,?_,h.h pins _ σ H1 Q _ (I1.tok _) ?_ q⟩
  ·rw[Uz];lia
  ·rw[Uz];lia⟩
theorem Zuc(h1:QE X e te)(h:QJ X es t)(he:evalEach (.FormattedValue e 114 none pos::es) X.env=eval (.FormattedValue e 114 none pos) X.env::evalEach es X.env:=by rfl):QJ X (.FormattedValue e 114 none pos::es) (tJr te t):=⟨by
 intro pins s σ H Q acc I hl hq
 rw[xY] at hl
 rw[he]
 refine wpAny_FormattedValue_repr (thn (h1.h pins s σ H _ I hq) fun u s1 ⟨v,H1,I1,rv,hv,q⟩=>?_)
 obtain⟨x,rfl,hx,hc⟩:=hv
 obtain⟨tk,rfl⟩:=rv
 have hn:=StrLaws.reprText_len x hc
 have hz:(reprText x).length<=sizeLine:=by rw[sizeLine_eq];lia
 refine wpAny_pyReprObj_gives (x:=reprText x) (typeIs_str _ _ _) F.slot_str_repr F.entry_str_repr (F.args_str_repr_1 _) (gives_str_repr x tk) ?_ rfl hz
 refine formatField_str (fun t' tk'=>⟨_,t',rfl,?_,h.h pins _ σ H1 Q _ ((I1.tok _).tok _) ?_ q⟩) hz
 ·rw[Uz];lia
 ·rw[Uz];lia⟩
theorem Zhr{M:Model}{A:Around}{E:Value->Shared->Prop}{Q Q':Str->Shared->Prop}(hQ:∀o s,Q o s->Q' o s):∀{l:List (Sem Value)}{acc:Str}{s:Shared},Joins M A E l acc Q s->Joins M A E l acc Q' s
 | [],_,_,h=>hQ _ _ h
 | _::_,_,_,h=>wpAny_mono h (fun _ _ ⟨y,t,a,b,c⟩=>⟨y,t,a,b,Zhr hQ c⟩) fun _ _ z=>z
theorem Y7{e1 e2:Expr}(h:QJ X (e1::e2::es) t)(hn:es.length<=8:=by decide):QE X (.JoinedStr (e1::e2::es) pos) (Zvq t):=⟨by
 intro pins s σ H Q I hq
 have hs:(Str.empty).length+(e1::e2::es).length * 1000000<=sizeLine:=by
  have:Str.empty.length=0:=rfl
  rw[this,xY,xY,sizeLine_eq];lia
 refine wpAny_JoinedStr ?_
 have key:=h.h pins s σ H _ Str.empty I hs hq
 refine Zhr (fun out s1 ⟨h1,H1,I1,q⟩=>⟨h1,.str out,H1,I1.tok _,⟨_,rfl⟩,q out⟩) key⟩
end
end L2
end
section
namespace L2
open PySem PySem.Spec PyProof.Rows PySem.W PySem.Calls PySem.Builtin PySem.Builtin.ObjectAttr PySem.Builtin.Getset_descriptor
def Ub(K:Frag)(C:Addr):Bool:=(clsIn K C).isSome && (findIn K (.ref C) "__getattribute__" == some (some (.builtin "BaseException.__getattribute__"))) && (findIn K (.ref C) "__getattr__" == some none) && (findIn K (.ref C) "__class__" == some (some (.builtin "object.__class__"))) &&
 (mroIn K C (.type "object")== some true) && (mroIn K C (.type "BaseException")== some true)
section
variable{prog:Program}{w:World}{A:Around}{E:Value->Shared->Prop}{h:Heap}{g:Array GenState}{d:Drawn}{t:Nat}{os:OsState}{a C:Addr}{o:Obj}{K:Frag}
theorem Zny{tp:Value}{R:Result->Shared->Prop}{s:Shared}(X:K.In s.heap)(L0:Looks (model prog w) s.heap (typeOf (.ref a)) (.ref C))(hm:mroIn K C (.type "object")=some true)(h:R (.ok (.ret (.ref C))) s):codeAny (model prog w) A (.call (.builtin "getset_descriptor.__get__") ⟨[.builtin "object.__class__", .ref a,tp],[]⟩) R s:=by
 obtain⟨hh,g,dr,t,os⟩:=s
 have L1:=looks_mroIn (M:=model prog w) X hm
 refine codeAny_call_builtin KF.slot_gs.plain KF.entry_gs (KF.slot_gs.check _ _ _ _ _ _ _ _ KF.type_class (KF.args_gs _ _ _) ?_)
 unfold Builtin.«getset_descriptor.__get__» descrGet
 rw[dga_obj]
 refine wpAny_bind (wpAny_pure ?_)
 unfold descrGetter descrCheckInstance descrNameAndClass isInstance
 simp only[KF.owner_class]
 repeat lk
 refine⟨Code.quiet_builtin _ (by decide +kernel),codeAny_builtin KF.entry_class ?_⟩
 unfold Builtin.«object.__class__» shownTypeOf
 repeat lk
 exact h
structure ExA (h:Heap) (a:Addr) (o:Obj) (C:Addr):Prop where
 at_:h.get? a=some o
 cls:o.cls = .ref C
theorem ExA.type{M:Model}(I:ExA h a o C):Looks M h (typeOf (.ref a)) (.ref C):=I.cls▸(Looks.ld I.at_).andThen .now
theorem Zmv{tk:Tok}{Q:Fin->Shared->Prop}(X:K.In h)(I:ExA h a o C)(k1:findIn K (.ref C) "__class__" = some (some (.builtin "object.__class__")))(k2:mroIn K C (.type "object")=some true)(hq:Q (.done (.ret (.ref C))) ⟨h,g,d,t,os⟩):wpAny (model prog w) A (Builtin.«object.__getattribute__» ⟨[.ref a,.str "__class__" tk],[]⟩) Q E ⟨h,g,d,t,os⟩:=by
 have hT5:(⟨h,g,d,t,os⟩:Shared).TypeIs (.builtin "object.__class__") "getset_descriptor" := F.typeOf_object_class
 have f5:=F.typeOf_object_class
 have f6:=F.slot_gs_get.lookup
 have f7:=F.slot_gs_set.lookup
 have hx:=I.at_
 have hc:=I.cls
 have L1:=looks_findIn (M:=model prog w) X k1
 repeat (any_goals (first | assumption | (with_reducible refine wpAny_loadPart_at hx ?_;rw[hc]) | with_reducible refine L1.at ?_ | wp_step))
 refine Zny (s:=⟨h,g,d,t,os⟩) X I.type k2 ?_
 repeat (any_goals (first | assumption | wp_step))
theorem Zm8{M:Model}{nameV:Value}{Q:Unit->Shared->Prop}(X:K.In h)(I:ExA h a o C)(k3:mroIn K C (.type "BaseException")=some true)(hq:Q () ⟨h,g,d,t,os⟩) :
  wpAny M A (checkBuiltinCall "BaseException.__getattribute__" ⟨[.ref a,nameV],[]⟩) Q E ⟨h,g,d,t,os⟩:=by
 have hk:builtinKind "BaseException.__getattribute__" = some .slot:=by decide +kernel
 have hsplit:splitId "BaseException.__getattribute__" = some ("BaseException", "__getattribute__"):=by decide +kernel
 have ha:=F.args_bexc_ga (.ref a) nameV
 have hx:=I.at_
 have hc:=I.cls
 have L1:=looks_mroIn (M:=M) X k3
 simp only[checkBuiltinCall,hk,hsplit]
 refine wpAny_bind ?_
 ·unfold isInstance
  repeat (first | (with_reducible refine wpAny_loadPart_at hx ?_;rw[hc]) | with_reducible refine L1.at ?_ | wp_step)
  exact hq
theorem Zm9{tk:Tok}{fill expr:Bool}{Q:Value->Shared->Prop}(X:K.In h)(I:ExA h a o C)(kc:Ub K C=true)(hq:Q (.ref C) ⟨h,g,d,t,os⟩) :
  wpAny (model prog w) A (getAttrBy (.ref a) (.str "__class__" tk) fill expr) Q E ⟨h,g,d,t,os⟩:=by
 unfold Ub at kc
 simp only[xV] at kc
 obtain⟨⟨⟨⟨⟨_,k1⟩,k2⟩,k3⟩,k4⟩,k5⟩:=kc
 have k1:=beq_iff_eq.mp k1
 have k2:=beq_iff_eq.mp k2
 have k3:=beq_iff_eq.mp k3
 have k4:=beq_iff_eq.mp k4
 have k5:=beq_iff_eq.mp k5
 have f3:=F.attr_ValueError.ga.bind (.ref a)
 have hx:=I.at_
 have hc:=I.cls
 have hx0:(expr && onTheHeap (Value.builtin "BaseException.__getattribute__"))=false:=by cases expr<;>rfl
 have hx2:(Value.builtin "BaseException.__getattribute__" == Value.builtin "object.__getattribute__")=false:=by decide +kernel
 have hx1:(onTheHeap (Value.ref C) && Value.builtin "BaseException.__getattribute__" == Value.builtin "object.__getattribute__")=false:=by rw[hx2];rfl
 have L1:=looks_findIn (M:=model prog w) X k1
 have L2':=looks_findIn (M:=model prog w) X k2
 repeat (any_goals (first | assumption | (with_reducible refine wpAny_loadPart_at hx ?_;rw[hc]) | with_reducible refine L1.at ?_ | with_reducible refine L2'.at ?_ | wp_step))
 refine codeAny_call_builtin F.attr_ValueError.ga.plain F.entry_bexc_ga (Zm8 X I k5 (Zmv X I k3 k4 ?_))
 repeat (any_goals (first | assumption | wp_step))
theorem Zmw{Q:Option Value->Shared->Prop}(X:K.In h)(I:ExA h a o C)(kc:Ub K C=true)(hq:Q (some (.ref C)) ⟨h,g,d,t+1,os⟩) :
  wpAny (model prog w) A (getAttr? (.ref a) "__class__") Q E ⟨h,g,d,t,os⟩:=by
 unfold getAttr? getAttrBy?
 refine wpAny_bind (wpAny_mkText (wpAny_bind (wpAny_attempt (Zm9 X I kc ?_))))
 exact wpAny_pure hq
end
section
variable{K:Frag}{a C:Addr}{o:Obj}
theorem Zil(kc:Ub K C=true):KitX K (.ref a) (.ref C) (fun h=>ExA h a o C) where
 ty:=fun _ _ _ I=>I.type
 it:=fun _ _ X _=>by
  unfold Ub at kc
  simp only[xV] at kc
  obtain⟨cdD,hcD⟩:=zG.mp kc.1.1.1.1.1
  unfold clsIn at hcD
  split at hcD
  ·rename_i c' d' cd' sl' ho
   intro A' Q' E' s' k q
   unfold isType loadHead
   exact wpAny_bind (wpAny_loadPart (k _ _ (X _ _ ho)) (wpAny_pure q))
  ·cases hcD
 ne:=fun h tp dd its n sl X htp=>by
  unfold Ub at kc
  simp only[xV] at kc
  obtain⟨cdD,hcD⟩:=zG.mp kc.1.1.1.1.1
  refine Bool.eq_false_iff.mpr fun q=>?_
  have e:C=tp:=Value.ref.inj (beq_iff_eq.mp q)
  subst e
  unfold clsIn at hcD
  split at hcD
  ·rename_i c' d' cd' sl' ho
   have z:=(X _ _ ho).symm.trans htp
   cases z
  ·cases hcD
 ca:=fun {_ _ _ _ _ s} X I k=>by
  obtain⟨h,g,d,t,os⟩:=s
  exact Zmw X I kc k
end
end L2
end
section
namespace L2
open PySem PySem.Spec PyProof.Rows
abbrev Cx.hnd(X:Cx)(a:Addr)(o:Obj):Cx:={X with A:=X.A.mark (some (.ref a)),calm:=false,pn:=[(a,o)],xe:=fun _ _=>False }
section
variable{X:Cx}{σ:St}{H:Hp}{s:Shared}{a C:Addr}{o:Obj}
theorem Inv.hnd(I:Inv X [] σ H s)(ho:s.heap.get? a=some o)(hH:H a=none)(hd:∃vs,o.data = .fields vs):Inv (X.hnd a o) [] σ H s:=by
 obtain⟨vs,hd⟩:=hd
 obtain⟨m,⟨oL,esL,epL,hoL,hdL,rL⟩,_⟩:=id I.loc
 refine⟨⟨I.ok.mod,I.ok.kind,I.ok.glob,I.ok.blt,I.ok.above,I.ok.inj,I.ok.has,I.ok.cab,fun z=>Bool.noConfusion z,I.ok.frames,I.ok.stk,I.ok.exf,I.ok.bs,I.ok.bsz,I.ok.noex,I.ok.exfs,I.ok.funs,I.ok.frf⟩,I.os,I.bare,I.base,I.loc,I.cell,I.free,I.freeC,fun p hp=>?_,I.hok,I.len⟩
 have e:p=(a,o):=by simpa using hp
 subst e
 refine⟨ho,hH,fun z=>?_,fun z=>?_,fun v z=>?_⟩
 ·have z:a=X.env.locals:=z
  rw[z,hoL] at ho;cases ho;rw[hdL] at hd;cases hd
 ·obtain⟨_,o',e',d⟩:=I.funs.mem (show a∈X.outer.filterMap (·.frame) from z)
  rw[ho] at e';cases e';exact d vs hd
 ·have z:o.data = .cell v:=z
  rw[hd] at z;cases z
theorem Inv.unhnd(I:Inv (X.hnd a o) [] σ H s)(ok:X.Ok)(hpn:X.pn = []):Inv X [] σ H s :=
 ⟨ok,I.os,I.bare,I.base,I.loc,I.cell,I.free,I.freeC,(fun p hp=>by rw[hpn] at hp;cases hp),I.hok,I.len⟩
theorem Zp2{M:Model}{A:Around}{E:Value->Shared->Prop}{Q:Unit->Shared->Prop}(I:Inv X [] σ H s)(hpn:X.pn = [])(hex:X.ex = [])(stk:X.stack=X.env::X.outer)(x:XAt X.s₀.heap H s.heap a C)(k:∀h',Inv X [] σ H {s with heap:=h' }->XAt X.s₀.heap H h' a C->Q () {s with heap:=h' }):wpAny M A (setFlight (.ref a) none) Q E s:=by
 obtain⟨ha,h0a,oe,vs,a0,he,hc,hd,v0,tr⟩:=id x
 rcases tr with v1 | tr
 ·unfold setFlight
  refine wpAny_bind (wpAny_field he hd v1 ?_)
  rw[if_neg (by decide)]
  exact wpAny_pure (k s.heap I x)
 ·exact Zed I hpn ⟨ha,h0a,oe,vs,a0,he,hc,hd,v0,tr⟩ fun h' I' x'=>k h' I' x'.at_
end
def Uo(K:uFg)(C D:Addr):Option Bool:=if ((PySem.W.clsIn K D).isSome && (PySem.W.typeIn K (.ref D)== some (.type "type")) && (PySem.W.subIn K (.ref D) (.type "BaseException")== some true))=true then PySem.W.subIn K (.ref C) (.ref D) else none
theorem Zm1{M:Model}{A:Around}{E:Value->Shared->Prop}{s:Shared}{K:uFg}{a C D:Addr}{oe:Obj}{b:Bool}{Q:Bool->Shared->Prop}(X:K.In s.heap)(he:s.heap.get? a=some oe)(hc:oe.cls = .ref C)(e:Uo K C D=some b)(q:Q b s):wpAny M A (excMatches (.ref a) (.ref D)) Q E s:=by
 unfold Uo at e
 split at e
 ·rename_i z
  simp only[xV] at z
  obtain⟨⟨z0,z1⟩,z2⟩:=z
  have L0:=PySem.W.looks_typeIn (M:=M) X (beq_iff_eq.mp z1)
  have L1:=PySem.W.looks_subIn (M:=M) X (beq_iff_eq.mp z2)
  have L2:=PySem.W.looks_subIn (M:=M) X e
  have LI:PySem.W.Looks M s.heap (isInstance (.ref D) (.type "tuple")) false:=L0.andThen (PySem.W.Looks.of_pure tc_notTuple)
  obtain⟨cdD,hcD⟩:=zG.mp z0
  have LT:PySem.W.Looks M s.heap (isType (.ref D)) true:=by
   unfold PySem.W.clsIn at hcD
   split at hcD
   ·rename_i c' d' cd' sl' ho
    intro A' Q' E' s' k q
    unfold isType loadHead
    exact wpAny_bind (wpAny_loadPart (k _ _ (X _ _ ho)) (wpAny_pure q))
   ·cases hcD
  have LE:PySem.W.Looks M s.heap (isExcClass (.ref D)) true:=LT.andThen L1
  have Lt:PySem.W.Looks M s.heap (typeOf (.ref a)) (.ref C):=hc▸(PySem.W.Looks.ld he).andThen .now
  obtain⟨h0,g,d,t,os⟩:=s
  unfold excMatches
  refine wpAny_bind (LI.at ?_)
  simp only[zJ,if_false]
  refine wpAny_bind (wpAny_pure ?_)
  simp only[List.forIn_cons,List.forIn_nil]
  refine wpAny_bind (wpAny_bind (wpAny_bind (LE.at ?_)))
  simp only[Bool.not_true,zJ,if_false]
  refine wpAny_pure (wpAny_pure ?_)
  refine wpAny_bind (Lt.at (wpAny_bind (wpAny_bind (wpAny_bind (L2.at ?_)))))
  cases b with
  | true=>simp only[if_true];exact wpAny_pure (wpAny_pure (wpAny_pure q))
  | false=>simp only[zJ,if_false];exact wpAny_pure (wpAny_pure (wpAny_pure q))
 ·cases e
def PH(X:Cx)(hs:List ExceptHandler)(t:Addr->TS):Prop:=∀(a C:Addr)(s:Shared)(σ:St)(H:Hp)(D:Ends),Inv X [] σ H s->XAt X.s₀.heap H s.heap a C->t C D σ H->wpAny (model X.prog X.w) X.A (handleBy (.ref a) X.env hs) (SP X [] D) X.xe s
structure QH (X:Cx) (hs:List ExceptHandler) (t:Addr->TS):Prop where
 h:PH X hs t
def tH0:Addr->TS:=fun _ _ _ _=>False
def Ends.off(D:Ends)(i:Nat):Ends:={nx:=fun σ H=>D.nx (σ.set i none) H,rt:=D.rt,bk:=fun σ H=>D.bk (σ.set i none) H,ct:=fun σ H=>D.ct (σ.set i none) H }
def Zyo(K:uFg)(Dc:Addr)(i:Nat)(ts:Addr->Addr->TS)(tr:Addr->TS):Addr->TS:=fun C D σ H=>∃b,Uo K C Dc=some b/\if b=true then ∀a,ts a C (D.off i) (σ.set i (some (.ref a))) H else tr C D σ H
structure Pl (X:Cx):Prop where
 pn:X.pn = []
 ex:X.ex = []
 stk:X.stack=X.env::X.outer
 fr:X.env.frame=some X.env.locals
section
variable{X:Cx}{x n:Str}{np pos:Pos}{b₀:Stmt}{suite:List Stmt}{rest:List ExceptHandler}{Dc:Addr}{tr:Addr->TS}
theorem Zud:QH X [] tH0:=⟨fun _ _ _ _ _ _ _ _ h=>h.elim⟩
theorem Zp3{a:Addr}{o:Obj}{D:Ends}{f:Flow}{s:Shared}(ok:X.Ok)(hpn:X.pn = [])(h:SP (X.hnd a o) [] D f s):SP X [] D f s:=by
 cases f with
 | next=>obtain⟨σ,H,I,q⟩:=h;exact⟨σ,H,I.unhnd ok hpn,q⟩
 | brk=>obtain⟨σ,H,I,q⟩:=h;exact⟨σ,H,I.unhnd ok hpn,q⟩
 | cont=>obtain⟨σ,H,I,q⟩:=h;exact⟨σ,H,I.unhnd ok hpn,q⟩
 | ret u=>obtain⟨v,σ,H,I,r,q⟩:=h;exact⟨v,σ,H,I.unhnd ok hpn,r,q⟩
theorem Inv.unset{i:Nat}{σ:St}{H:Hp}{s:Shared}{h':Heap}{tk:Nat}{m:Str->Option Value}{v:Option Value}(I:Inv X [] σ H s)(hpn:X.pn = [])(hN:X.N.Nodup)(hi:X.N[i]? = some n)(hn:s.heap.Ns X.env.locals m)(hn':h'.Ns X.env.locals (fun y=>if y=n then v else m y))(hs:Heap.SameBut X.env.locals s.heap h'):Inv X [] (σ.set i none) H {s with heap:=h',toks:=tk }:=by
 obtain⟨m0,hn0,hl⟩:=id I.loc
 have em:∀y,m0 y=m y:=by
  obtain⟨o1,e1,p1,g1,d1,_,f1⟩:=hn0
  obtain⟨o2,e2,p2,g2,d2,_,f2⟩:=hn
  rw[g1] at g2;cases g2
  rw[d1] at d2;cases d2
  intro y;rw[← f1,← f2]
 have cne:=I.cne
 have tracked:HOk X.prog X.w H h':=fun b ob e=>by
  refine(I.hok b ob e).stay (fun c w' hc q=>(hs.2 c ?_).trans q) (fun _ q=>q) fun _ _ q=>q
  rintro rfl
  rcases hc with rfl | hc
  ·rw[I.free] at e;cases e
  ·rw[I.free] at hc;cases hc
 have neL:∀b o,X.s₀.heap.get? b=some o->b≠X.env.locals:=fun b o e=>yM (xS (xO e) I.ok.above)
 refine⟨I.ok,I.os,I.bare,⟨fun b o e nn hb hx=>(hs.2 b (neL b o e)).trans (I.base.keep b o e nn hb hx),fun b o e nn hb hx=>?_,I.base.free,fun b o e hx=>?_,I.base.tups,I.base.frzs,I.base.tbls⟩,⟨_,hn',fun j y v' e1 e2 e3=>?_⟩,fun y c e=>?_,I.free,I.freeC,(fun q hq=>by rw[hpn] at hq;cases hq),tracked,by rw[List.length_set];exact I.len⟩
 ·obtain⟨sl,e1⟩:=I.base.slot b o e nn hb hx
  exact⟨sl,(hs.2 b (neL b o e)).trans e1⟩
 ·obtain⟨o',e1⟩:=I.base.there b o e hx
  exact⟨o',(hs.2 b (neL b o e)).trans e1⟩
 ·by_cases hj:j=i
  ·subst hj
   rw[List.getElem?_set] at e2
   split at e2
   ·split at e2<;>cases e2
   ·rename_i z;exact absurd rfl z
  ·rw[List.getElem?_set_ne (Ne.symm hj)] at e2
   obtain⟨u',r',q⟩:=hl j y v' e1 e2 e3
   refine⟨u',r',?_⟩
   rcases q with⟨k,e⟩ | ⟨k,c,e,z⟩
   ·refine .inl ⟨k,?_⟩
    have ne:y≠n:=fun e=>hj (Zef hN e1 (e▸hi))
    show (if y=n then v else m y)=some u'
    rw[if_neg ne,← em];exact e
   ·exact .inr ⟨k,c,e,z.sameBut hs (cne y c e)⟩
 ·obtain⟨w',z⟩:=I.cell y c e
  exact⟨w',z.sameBut hs (cne y c e)⟩
theorem Zvr(i:Nat){ts:Addr->Addr->TS}(p:Pl X)(hm:X.mg x=some (.ref Dc))(hb:∀a C o,o.cls = .ref C->QSs (X.hnd a o) (b₀::suite) (ts a C))(hr:QH X rest tr)(nm:nB X x .globalImplicit:=by kernel_rfl)(hN:nD X:=by kernel_rfl)(ne:nB X n .local:=by kernel_rfl)(hi:X.N[i]? = some n:=by rfl):QH X (.ExceptHandler (some (.Name x np)) (some n) (b₀::suite) pos::rest) (Zyo X.K Dc i ts tr):=⟨by
 have nm:=od nm
 have hN:=od hN
 have ne:=od ne
 intro a C s σ H D I xa h
 obtain⟨b,eb,h⟩:=h
 obtain⟨ha,h0a,oe,vs,a0,he,hc,hd,v0,_⟩:=id xa
 have J:=I.hnd he ha ⟨vs,hd⟩
 refine wpAny_handleBy_cons (codeAny_handlers_test (Za9 (X:=X.hnd a oe) J nm.1 hm ?_ nm.2.1)) (by intro q;cases q)
 refine Zm1 J.kIn he hc eb ?_
 cases b with
 | false=>exact hr.h a C s σ H D I xa h
 | true =>
  refine codeAny_handlers_suite_as (Zp2 I p.pn p.ex p.stk xa fun h' I' xa'=>?_)
  obtain⟨ha',_,oe',vs',_,he',hc',hd',_⟩:=xa'
  refine Zc2 (X:=X.hnd a oe') (I'.hnd he' ha' ⟨vs',hd'⟩) hN hi (.inl ne.1) (v:=.ref a) rfl (fun s1 I1=>?_) (.inr ne.1)
  refine wpAny_mono ((hb a C oe' hc').h [] _ _ H (D.off i) I1 (h a)) (fun f s2 q=>?_) fun _ _ z=>z.elim
  have q:=Zp3 I.ok p.pn q
  have hp:(X.env.scope.kind == .class || (X.env.scope.kind == .module && X.env.locals != X.env.globals))=false:=by rw[I.ok.kind];rfl
  cases f with
  | next =>
   obtain⟨σ2,H2,I2,q⟩:=q
   obtain⟨m,hn,_⟩:=id I2.loc
   exact wpAny_nameGoes_keeps ne.1 hn hp fun h3 v hn3 hs3=>⟨_,H2,I2.unset p.pn hN hi hn hn3 hs3,q⟩
  | brk =>
   obtain⟨σ2,H2,I2,q⟩:=q
   obtain⟨m,hn,_⟩:=id I2.loc
   exact wpAny_nameGoes_keeps ne.1 hn hp fun h3 v hn3 hs3=>⟨_,H2,I2.unset p.pn hN hi hn hn3 hs3,q⟩
  | cont =>
   obtain⟨σ2,H2,I2,q⟩:=q
   obtain⟨m,hn,_⟩:=id I2.loc
   exact wpAny_nameGoes_keeps ne.1 hn hp fun h3 v hn3 hs3=>⟨_,H2,I2.unset p.pn hN hi hn hn3 hs3,q⟩
  | ret u =>
   obtain⟨v,σ2,H2,I2,r,q⟩:=q
   obtain⟨m,hn,_⟩:=id I2.loc
   exact wpAny_nameGoes_keeps ne.1 hn hp fun h3 v' hn3 hs3=>⟨v,_,H2,I2.unset p.pn hN hi hn hn3 hs3,r,q⟩⟩
end
end L2
namespace L2
open PySem PySem.Spec PyProof.Rows
def PS0(X:Cx)(st:Stmt)(t:TS):Prop:=∀(s:Shared)(σ:St)(H:Hp)(D:Ends),Inv X [] σ H s->t D σ H->wpAny (model X.prog X.w) X.A (exec st X.env) (SP X [] D) X.xe s
def Zyp(X:Cx)(st:List Stmt)(t:TS):Prop:=∀(s:Shared)(σ:St)(H:Hp)(D:Ends),Inv X [] σ H s->t D σ H->wpAny (model X.prog X.w) X.A (execs st X.env) (SP X [] D) X.xe s
structure QS0 (X:Cx) (st:Stmt) (t:TS):Prop where
 h:PS0 X st t
structure QSs0 (X:Cx) (st:List Stmt) (t:TS):Prop where
 h:Zyp X st t
def Zyq(tb:(St->XK)->TS)(th:Addr->TS):TS:=fun D σ H=>tb (fun σ' c _ H'=>∃C,c = .ref C/\th C D σ' H') D σ H
section
variable{X:Cx}{st:Stmt}{rest body:List Stmt}{t u:TS}{h₀:ExceptHandler}{hs:List ExceptHandler}{tb:(St->XK)->TS}{th:Addr->TS}{pos:Pos}
theorem QS.q0(h:QS X st t):QS0 X st t:=⟨fun s σ H D I q=>h.h [] s σ H D I q⟩
theorem QSs.q0(h:QSs X rest t):QSs0 X rest t:=⟨fun s σ H D I q=>h.h [] s σ H D I q⟩
theorem Zee(h1:QS0 X st t)(h2:QSs0 X rest u):QSs0 X (st::rest) (Ve t u):=⟨by
 intro s σ H D I h
 rw[execs]
 refine wpAny_bind (thn (h1.h s σ H _ I h) fun f s1 q=>?_)
 cases f with
 | next =>
  obtain⟨σ1,H1,I1,q⟩:=q
  exact h2.h s1 σ1 H1 D I1 q
 | brk=>exact wpAny_pure q
 | cont=>exact wpAny_pure q
 | ret u=>exact wpAny_pure q⟩
theorem Zue(p:Pl X)(hb:∀ (E':Value->Shared->Prop) (EH:St->XK),Xq (X.wish E') EH->QSs (X.wish E') body (tb EH))(hh:QH X (h₀::hs) th):QS0 X (.Try body (h₀::hs) [] [] pos) (Zyq tb th):=⟨by
 intro s σ H D I h
 refine wpAny_Try_except ?_
 have wish:∀{E'} {σ:St}{H:Hp}{s:Shared},Inv X [] σ H s->Inv (X.wish E') [] σ H s:=fun I=>⟨⟨I.ok.mod,I.ok.kind,I.ok.glob,I.ok.blt,I.ok.above,I.ok.inj,I.ok.has,I.ok.cab,I.ok.hd,I.ok.frames,I.ok.stk,I.ok.exf,I.ok.bs,I.ok.bsz,I.ok.noex,I.ok.exfs,I.ok.funs,I.ok.frf⟩,I.os,I.bare,I.base,I.loc,I.cell,I.free,I.freeC,I.pin,I.hok,I.len⟩
 have unw:∀{E'} {σ:St}{H:Hp}{s:Shared}{pins:List (Addr×Obj)},Inv (X.wish E') pins σ H s->Inv X pins σ H s:=fun I=>⟨⟨I.ok.mod,I.ok.kind,I.ok.glob,I.ok.blt,I.ok.above,I.ok.inj,I.ok.has,I.ok.cab,I.ok.hd,I.ok.frames,I.ok.stk,I.ok.exf,I.ok.bs,I.ok.bsz,I.ok.noex,I.ok.exfs,I.ok.funs,I.ok.frf⟩,I.os,I.bare,I.base,I.loc,I.cell,I.free,I.freeC,I.pin,I.hok,I.len⟩
 have hx:Xq (X.wish fun e s₁=>wpAny (model X.prog X.w) X.A (noteFrame e X.env) (fun _ s₂=>wpAny (model X.prog X.w) X.A (setFlight e none) (fun _ s₃=>wpAny (model X.prog X.w) X.A (handleBy e X.env (h₀::hs)) (SP X [] D) X.xe s₃) X.xe s₂) X.xe s₁)
   fun σ' c _ H'=>∃C,c = .ref C/\th C D σ' H':=⟨.inr ⟨p.ex,⟨fun pins σ1 H1 s1 a C I1 x q=>by
  obtain⟨C',eC,q⟩:=q
  cases eC
  have I2:=(unw I1).pins_of (pins':=[]) (fun p hp=>nomatch hp)
  exact Zh6 I2 p.pn p.ex p.stk p.fr x fun h' J y=>hh.h a C _ σ1 H1 D J y q⟩⟩⟩
 refine wpAny_mono ((hb _ _ hx).h [] s σ H D (wish I) h) (fun f s1 q=>?_) fun _ _ z=>z
 have q':SP X [] D f s1:=by
  cases f with
  | next=>obtain⟨σ,H,I,q⟩:=q;exact⟨σ,H,unw I,q⟩
  | brk=>obtain⟨σ,H,I,q⟩:=q;exact⟨σ,H,unw I,q⟩
  | cont=>obtain⟨σ,H,I,q⟩:=q;exact⟨σ,H,unw I,q⟩
  | ret u=>obtain⟨v,σ,H,I,r,q⟩:=q;exact⟨v,σ,H,unw I,r,q⟩
 cases f with
 | next=>exact wpAny_pure q'
 | brk=>exact q'
 | cont=>exact q'
 | ret u=>exact q'⟩
end
def Zyr(K:uFg)(a C:Addr):List V->Hp->VK->Prop:=fun xs H Q=>Ub K C=true/\∃b,((∃D,xs = [.ref a,.ref D]/\PySem.W.kitOne K (.ref C) (.ref D)=some b)\/(∃n,xs = [.ref a,.ty n]/\PySem.W.kitOne K (.ref C) (.type n)=some b))/\Q (.bl b) H
theorem Uc{X:Cx}{a C:Addr}{o:Obj}(hc:o.cls = .ref C):QC (X.hnd a o) (.builtin "isinstance") (Zyr X.K a C):=⟨by
 intro pins s σ H xs us Q I r h
 obtain⟨kc,b,hv,q⟩:=h
 have hp:=I.pin (a,o) (zO _ (by simp))
 have hA:ExA s.heap a o C:=⟨hp.1,hc⟩
 have fin:∀tk,EP (X.hnd a o) pins σ Q (.bool b) {s with toks:=tk }:=fun tk=>⟨.bl b,H,I.tok tk,rfl,q⟩
 rcases hv with⟨D,rfl,e⟩ | ⟨n,rfl,e⟩
 ·cases r with
  | cons r1 r=>cases r with
   | cons r2 r =>
    cases r
    obtain rfl:=r1
    obtain rfl:=r2
    exact PySem.W.kia_one (Zil kc) I.kIn hA e (by intro z;cases z) fin
 ·cases r with
  | cons r1 r=>cases r with
   | cons r2 r =>
    cases r
    obtain rfl:=r1
    obtain rfl:=r2
    exact PySem.W.kia_one (Zil kc) I.kIn hA e (by intro z;cases z) fin⟩
section
variable{P:Program}{w:World}{K:uFg}{mg:Str->Option Value}{base:Heap}
theorem Fun.ok0{x qual:Str}{st:Stmt}{f:Addr}{fd:FuncData}{N ps:List Str}{k:Nat}{sp:Sp}(F:Fun K x qual st f fd)(S:FnScope N ps (Zs st))(len:∀vs H Q E,sp vs H Q E->vs.length=ps.length)(hbody:∀ (cdv:Value) (A:Around) (outer:List Env) (s:Shared) (H:Hp) (vs:List V) (Q:VK) (E:XK),Room k (A.deeper (envOfC qual (Zs st) s.heap.objs.size f cdv))->sp vs H Q E ->
   ∃t,QSs0 (Yg CX0 P w K mg base N qual (Zs st) f cdv A outer s H E).nox (Z9 st) t/\t {nx:=fun _ H'=>Q .non H',rt:=Q } (start N vs) H):FnOk P w K mg base CX0 (k+1) f fd ps sp:=by
 obtain⟨oc,od,kV,doc,pm,an,cdv,ct,osl,rfl,lk,hcd⟩:=F.ex
 refine⟨len,fun A outer s H args us vs Q E hr e0 hb r hsp=>?_⟩
 have hl:=len _ _ _ _ hsp
 have KX:K.In s.heap:=e0.mod.kin.keeps fun b o e=>(e0.bs b o e).1
 have lim:s.heap.NoLimit:=e0.mod.nolimit.keeps fun b o e=>(e0.bs b o e).1
 have hkind:∀y∈ps.zip us,(Zs st).names.lookup y.1=some .local\/((Zs st).names.lookup y.1=some .cell/\((cellsFrom (s.heap.objs.size+1) (Zs st).names []).lookup y.1).isSome=true):=fun⟨n,v⟩ hy=>by
  rcases S.par n (zF hy).1 with q | q
  ·exact .inl q
  ·exact .inr ⟨q,PySem.W.cellsFrom_some _ _ _ (.inl q)⟩
 refine codeAny_call_function hr.depth (KX _ _ lk) rfl S.co S.gen rfl (PySem.W.codeRec_of KX hcd) (hb _ _ _ _ ?_)
 refine wpAny_newFunctionEnv_cells S.kind hkind fun env he s1 x=>?_
 subst he
 refine⟨lim.keeps x.toInCall.keep,codeAny_func ?_⟩
 obtain⟨t,ht,hq⟩:=hbody cdv A outer s H vs Q E (hr.deeper _) hsp
 have I0:Inv (Yg CX0 P w K mg base N qual (Zs st) f cdv A outer s H E) [] (start N vs) H s1:=Zh0 S hr.hd e0 hl r x
 have I:Inv (Yg CX0 P w K mg base N qual (Zs st) f cdv A outer s H E).nox [] (start N vs) H s1:=⟨⟨I0.ok.mod,I0.ok.kind,I0.ok.glob,I0.ok.blt,I0.ok.above,I0.ok.inj,I0.ok.has,I0.ok.cab,I0.ok.hd,I0.ok.frames,I0.ok.stk,I0.ok.exf,I0.ok.bs,I0.ok.bsz,I0.ok.noex,I0.ok.exfs,I0.ok.funs,I0.ok.frf⟩,I0.os,I0.bare,I0.base,I0.loc,I0.cell,I0.free,I0.freeC,I0.pin,I0.hok,I0.len⟩
 refine wpAny_mono (ht.h s1 (start N vs) H _ I hq) (fun fl s' hs=>?_) fun e s' hs=>hs.elim
 have fin:∀{σ':St}{H':Hp}{v:V}{u:Value},Inv (Yg CX0 P w K mg base N qual (Zs st) f cdv A outer s H E).nox [] σ' H' s'->RelV v u->Q v H'->CE outer P w H s Q u s' :=
  fun {σ' H' v u} J rv q=>⟨v,H',J.os,J.bare,J.base,J.hok,rv,q⟩
 cases fl with
 | ret u =>
  obtain⟨v,σ',H',J,rv,q⟩:=hs
  exact fin J rv q
 | next =>
  obtain⟨σ',H',J,q⟩:=hs
  exact fin (v:=V.non) (u:=Value.none) J rfl q
 | brk=>obtain⟨_,_,_,z⟩:=hs;exact z.elim
 | cont=>obtain⟨_,_,_,z⟩:=hs;exact z.elim
theorem Has.fn0{x:Str}{st:Stmt}{N ps:List Str}{k:Nat}{sp:Sp}(h:Has K mg x st)(S:FnScope N ps (Zs st))(hb:∀ (kV doc pm:Value) (an:Option Addr) (cdv ct:Value) (us:List Value),us.length=ps.length->bindArgs (PySem.W.fnOf x x (Y3 st) (Z9 st) (Zs st) .none kV doc pm an cdv ct) ⟨us,[]⟩=pure (ps.zip us))(len:∀vs H Q E,sp vs H Q E->vs.length=ps.length)(hbody:∀ (f:Addr) (cdv:Value) (A:Around) (outer:List Env) (s:Shared) (H:Hp) (vs:List V) (Q:VK) (E:XK),Room k (A.deeper (envOfC x (Zs st) s.heap.objs.size f cdv))->sp vs H Q E ->
   ∃t,QSs0 (Yg CX0 P w K mg base N x (Zs st) f cdv A outer s H E).nox (Z9 st) t/\t {nx:=fun _ H'=>Q .non H',rt:=Q } (start N vs) H):Fn P w K mg base x ps (k+1) sp:=by
 obtain⟨f,fd,F,hm⟩:=h
 exact⟨f,fd,hm,F.kp,F.binds hb,F.ok0 S len (hbody f)⟩
theorem Has.f0{x:Str}{st:Stmt}{ps:List Str}{k:Nat}{sp:Sp}(h:Has K mg x st)(N:List Str)(hbody:∀{f:Addr}{cdv:Value}{A:Around}{outer:List Env}{s:Shared}(H:Hp) (vs:List V) (Q:VK) (E:XK),Room k (A.deeper (envOfC x (Zs st) s.heap.objs.size f cdv))->sp vs H Q E->vs.length=ps.length/\∃t,QSs0 (Yg CX0 P w K mg base N x (Zs st) f cdv A outer s H E).nox (Z9 st) t/\t {nx:=fun _ H'=>Q .non H',rt:=Q } (start N vs) H)(S:FnScope N ps (Zs st):=by exact fsc)(hk:k<=60:=by decide)(hb:∀ (kV doc pm:Value) (an:Option Addr) (cdv ct:Value) (us:List Value),us.length=ps.length->bindArgs (PySem.W.fnOf x x (Y3 st) (Z9 st) (Zs st) .none kV doc pm an cdv ct) ⟨us,[]⟩=pure (ps.zip us):=by exact fun _ _ _ _ _ _=>by first | exact al1 fun _=>rfl | exact al2 fun _ _=>rfl | exact al3 fun _ _ _=>rfl | exact al4 fun _ _ _ _=>rfl | exact al5 fun _ _ _ _ _=>rfl | exact al6 fun _ _ _ _ _ _=>rfl | exact al7 fun _ _ _ _ _ _ _=>rfl | exact al8 fun _ _ _ _ _ _ _ _=>rfl):Fn P w K mg base x ps (k+1) sp :=
 h.fn0 S hb (fun vs H Q E h=>(hbody (f:=0) (cdv:=.none) (A:={}) (outer:=[]) (s:={}) H vs Q E (Zck hk) h).1) fun _ _ _ _ _ H vs Q E hr q=>(hbody H vs Q E hr q).2
end
theorem Zjz{CX:CXT}{P:Program}{w:World}{K:uFg}{mg:Str->Option Value}{base:Heap}{N:List Str}{qual:Str}{scope:Scope}{f:Addr}{cd:Value}{A:Around}{outer:List Env}{s:Shared}{H:Hp}{E:XK} :
  Pl (Yg CX P w K mg base N qual scope f cd A outer s H E).nox:=⟨rfl,rfl,rfl,rfl⟩
structure Er (K:uFg) (mg:Str->Option Value) (c:Str->Addr) (errs:List Str):Prop where
 g:∀x,x∈errs->mg x=some (.ref (c x))
 x:∀x,x∈errs->Zab K (c x)=true
 k:∀x,x∈errs->Ub K (c x)=true
 m:mg "MootError" = some (.ref (c "MootError"))
 e:∀x,x∈errs->Uo K (c x) (c "MootError")=some true
 s:∀x,x∈errs->∀y,y∈errs->Uo K (c x) (c y)=some (decide (x=y))
 i:∀x,x∈errs->∀y,y∈errs->PySem.W.kitOne K (.ref (c x)) (.ref (c y))=some (decide (x=y))
 v:∀x,x∈errs->PySem.W.kitOne K (.ref (c x)) (.type "ValueError")=some true
theorem Y8{X:Cx}{E:St->XK}{x:Str}{np cpos pos:Pos}{e:Expr}{te:TE}{c:Str->Addr}{es:List Str}(hx:Xp X E)(er:Er X.K X.mg c es)(he:QE X e te)(hm:decide (x∈es)=true:=by kernel_rfl)(n:nB X x .globalImplicit:=by kernel_rfl)(hcl:X.calm=true:=by rfl)(hex:X.ex = []:=by rfl)(hs:starEach [e] X.env = [(false,eval e X.env)]:=by rfl):QS X (.Raise (some (.Call (.Name x np) [e] [] cpos)) none pos) (Zjy E (c x) te):=Zp1 hx hcl hex (er.x x (od hm)) (od n) (er.g x (od hm)) he hs
end L2
end
section
namespace L2
open PySem PySem.Spec PyProof.Rows
section
section
variable{X:Cx}
inductive rNeBls (K:uFg) (x:V) (y:V) (H:Hp) (Q:VK):Prop
 | mk (a b:Addr) (is:List Bool) (h0:x = .ref a) (h1:y = .ref b) (h2:SqL K H a (is.map V.bl)) (h3:SqL K H b (is.map V.bl)) (h4:Q (.bl false) H)
theorem Zex:∀{is:List Bool}{its:List Value},Vals (is.map V.bl) its->its=is.map Value.bool
 | [],_,.nil=>rfl
 | i::is,_,.cons r rr=>by
  have h:=Zex rr
  obtain rfl:=r
  rw[h];rfl
theorem Zp4(hu:X.A.units < cLine):OpR X (compareOp .NotEq) (rNeBls X.K):=by
 intro pins s σ H x y v u Q I rx ry ⟨a,b,is,ex,ey,ha,hb,q⟩
 subst ex ey
 obtain rfl:v=Value.ref a:=rx
 obtain rfl:u=Value.ref b:=ry
 obtain⟨i1,r1,p1,_⟩:=I.list ha
 obtain⟨i2,r2,p2,_⟩:=I.list hb
 obtain rfl:=Zex r1
 obtain rfl:=Zex r2
 have h:=SeqAt.RcNeAt.lists (A:=X.A) (e:=fun _=>true) p1.isList p2.isList rfl hu (fun j h1 h2=>by
  show SeqAt.EqAt _ _ _ _ true
  have hj:j < is.length:=by simpa using h1
  have f1:(is.map Value.bool).toArray[j]= .bool is[j]:=by simp
  rw[f1]
  rw[← beq_self_eq_true is[j]]
  exact SeqAt.EqAt.bool_bool _ _)
 rw[show (!(List.range (is.map Value.bool).toArray.size).all fun _=>true)=false by simp] at h
 exact h X.prog X.w _ _ ⟨.bl false,H,I,rfl,q⟩
theorem Zot{k:Nat}(hr:Room k X.A):QOp X (compareOp .NotEq) (rNeBls X.K):=⟨Zp4 hr.units0⟩
end
end
section
abbrev lxE(X:Cx)(E:St->XK):Value->Shared->Prop:=fun(e:Value) (s':Shared)=>∃ σ H a C,e = .ref a/\Inv X [] σ H s'/\XAt X.s₀.heap H s'.heap a C/\E σ (.ref C) none H
abbrev Cx.lx(X:Cx)(E:St->XK):Cx:=X.wish (lxE X E)
theorem Zp5{X:Cx}{st:Stmt}{t:TS}{E:St->XK}(p:Pl X)(hx:Xp X E)(h:Xq (X.lx E) E->Xp (X.lx E) E->PassesOwn (model X.prog X.w) X.A X.env (lxE X E)->QS (X.lx E) st t):QS X st t:=⟨by
 intro pins s σ H D I q
 have wish:∀{E'} {σ:St}{H:Hp}{s:Shared}{pins:List (Addr×Obj)},Inv X pins σ H s->Inv (X.wish E') pins σ H s:=fun I=>⟨⟨I.ok.mod,I.ok.kind,I.ok.glob,I.ok.blt,I.ok.above,I.ok.inj,I.ok.has,I.ok.cab,I.ok.hd,I.ok.frames,I.ok.stk,I.ok.exf,I.ok.bs,I.ok.bsz,I.ok.noex,I.ok.exfs,I.ok.funs,I.ok.frf⟩,I.os,I.bare,I.base,I.loc,I.cell,I.free,I.freeC,I.pin,I.hok,I.len⟩
 have unw:∀{E'} {σ:St}{H:Hp}{s:Shared}{pins:List (Addr×Obj)},Inv (X.wish E') pins σ H s->Inv X pins σ H s:=fun I=>⟨⟨I.ok.mod,I.ok.kind,I.ok.glob,I.ok.blt,I.ok.above,I.ok.inj,I.ok.has,I.ok.cab,I.ok.hd,I.ok.frames,I.ok.stk,I.ok.exf,I.ok.bs,I.ok.bsz,I.ok.noex,I.ok.exfs,I.ok.funs,I.ok.frf⟩,I.os,I.bare,I.base,I.loc,I.cell,I.free,I.freeC,I.pin,I.hok,I.len⟩
 have hp:PassesOwn (model X.prog X.w) X.A X.env (lxE X E):=by
  rintro e s' ⟨σ1,H1,a,C,rfl,I1,x1,q1⟩
  refine Zik I1 p.pn p.ex p.stk p.fr x1 fun h2 I2 x2 _=>?_
  obtain⟨ha,h0a,oe,vs,a0,he,hc,hd,v0,T,oT,ts,v3,v1,tr⟩:=id x2
  show wpAny _ _ (field (.ref a) 1 >>= _) _ _ _
  refine wpAny_bind (wpAny_field he hd v1 ?_)
  rw[if_neg (show ¬((Value.ref T == Value.none)=true) from by simp)]
  exact Zed (s:={s' with heap:=h2 }) I2 p.pn x2 fun h3 I3 x3=>⟨σ1,H1,a,C,rfl,I3,x3.at_,q1⟩
 have hx':Xp (X.lx E) E:=⟨fun pins σ1 H1 s1 a C I1 x1 q1=>by exact⟨σ1,H1,a,C,rfl,(unw I1).pins_of (fun p hp=>nomatch hp),x1,q1⟩⟩
 refine wpAny_mono ((h ⟨.inr ⟨p.ex,hx'⟩⟩ hx' hp).h pins s σ H D (wish I) q) (fun f s1 q=>?_) fun e s1 z=>?_
 ·cases f with
  | next=>obtain⟨σ,H,I,q⟩:=q;exact⟨σ,H,unw I,q⟩
  | brk=>obtain⟨σ,H,I,q⟩:=q;exact⟨σ,H,unw I,q⟩
  | cont=>obtain⟨σ,H,I,q⟩:=q;exact⟨σ,H,unw I,q⟩
  | ret u=>obtain⟨v,σ,H,I,r,q⟩:=q;exact⟨v,σ,H,unw I,r,q⟩
 ·obtain⟨σ1,H1,a,C,rfl,I1,x1,q1⟩:=z
  exact hx.h [] σ1 H1 s1 a C I1 x1 q1⟩
theorem Zer{X:Cx}{tg iter:Expr}{body:List Stmt}{wi:TI}{g:TG}{t:TS}{pos:Pos}{E:St->XK}(p:Pl X)(hx:Xp X E)(hc:X.calm=true)(hi:QI (X.lx E) tg iter wi)(hg:QG (X.lx E) tg g)(hb:Xq (X.lx E) E->Xp (X.lx E) E->QSs (X.lx E) body t)(hs:∀x,foldedSetIterable iter X.env x=pure x:=by intro _;rfl):QS X (.For tg iter body [] pos) (Zki wi g t):=Zp5 p hx fun hq hp po=>V3 (X:=X.lx E) po hc hi hg (hb hq hp) hs
end
section
inductive rIntB (xs:List V) (H:Hp) (Q:VK):Prop
 | mk (b:Bool) (h0:xs = [.bl b]) (h1:Q (.int (if b then 1 else 0)) H)
theorem Znz{X:Cx}:QC X (.type "int") rIntB:=⟨by
 intro pins s σ H xs us Q I r h
 obtain⟨b,rfl,q⟩:=h
 cases r with
 | cons r1 r =>
  cases r
  obtain rfl:=r1
  exact call_int_bool ⟨.int (if b then 1 else 0),H,I.tok _,⟨_,rfl⟩,q⟩⟩
end
section
section
variable{X:Cx}
inductive rIntT (xs:List V) (H:Hp) (Q:VK):Prop
 | mk (x n) (h0:xs = [.str x]) (h1:PySem.intText? x=some n) (h2:x.length<=640) (h3:Q (.int n) H)
inductive rSplit (x:V) (xs:List V) (H:Hp) (Q:VK):Prop
 | mk (a b:Str) (h0:x = .str a) (h1:xs = [.str b]) (h2:b.length≠0) (h3:a.length+2<=sizeLine) (h4:∀l,H l=none->Q (.ref l) (upd H l (.lst ((Txt.split a b).map V.str))))
inductive rIdxS (K:uFg) (v:V) (vs:List V) (H:Hp) (Q:VK):Prop
 | mk (l:Addr) (xs:List Str) (x:Str) (j:Nat) (h0:v = .ref l) (h1:vs = [.str x]) (h2:SqL K H l (xs.map V.str)) (h3:xs[j]? = some x) (h4:(∀m,m < j->xs[m]? ≠ some x)) (h5:Q (.int j) H)
end
end
section
def Zmc(K:uFg)(P:Params)(d:Addr)(kvs:List (Str×Tok×Addr)):Prop:=(∃n,K.lookup d=some ⟨.type "dict", none,.dict (kvs.map fun x=>de P x.1 x.2.1 (.ref x.2.2)).toArray n,#[]⟩)/\(kvs.map (·.1)).Nodup/\(d == sysModules)=false
def Zmd(kvs:List (Str×Tok×Addr))(n:Str):Option Addr:=(kvs.find? fun x=>decide (x.1=n)).map (·.2.2)
section
variable{X:Cx}
inductive rInKD (K:uFg) (P:Params) (x:V) (y:V) (H:Hp) (Q:VK):Prop
 | mk (n:Str) (d:Addr) (kvs:List (Str×Tok×Addr)) (h0:x = .str n) (h1:y = .ref d) (h2:Zmc K P d kvs) (h3:Q (.bl (Zmd kvs n).isSome) H)
inductive rIxKD (K:uFg) (P:Params) (x:V) (y:V) (H:Hp) (Q:VK):Prop
 | mk (n:Str) (d t:Addr) (kvs:List (Str×Tok×Addr)) (h0:x = .ref d) (h1:y = .str n) (h2:Zmc K P d kvs) (h3:Zmd kvs n=some t) (h4:Q (.ref t) H)
end
end
section
end
section
section
variable{P:Program}{w:World}{A:Around}{E:Value->Shared->Prop}{s:Shared}
end
def SqM(l1:Addr):uFg->Hp->Addr->List V->Prop:=fun K H a xs=>(a=l1/\SqL K H a xs)\/(a≠l1/\SqT K H a xs)
inductive iZipM_ (K:uFg) (R:It->Hp->Prop) (vs:List V) (H1:Hp):Prop
 | mk (l1 l2 xs ys) (h0:vs = [.ref l1,.ref l2]) (h1:SqL K H1 l1 xs) (h2:SqT K H1 l2 ys) (h3:(l2≠l1->R (Itz (SqM l1) K l1 l2) H1))
end
section
section
variable{X:Cx}{pins:List (Addr×Obj)}{σ:St}{H:Hp}{s:Shared}
end
section
variable{X:Cx}{e:Expr}{te:TE}
inductive tIced (te:TE) (σ:St) (H:Hp) (Q:VK):Prop
 | mk (d kvs) (h0:H d=some (.dK kvs)) (h1:∀o,te σ (upd H d (.frz o (.dK kvs))) fun v H'=>H' d=some (.frz o (.dK kvs))/\Q v (upd H' d (.dK kvs)))
end
def Itk(d:Addr)(o:Obj)(kvs:List (Key×V)):It :=
 ⟨fun i H=>H d=some (.frz o (.dK kvs))/\i < kvs.length,fun i H v H'=>H'=H/\∃p,kvs[i]? = some p/\v=kV p.1,fun i H=>H d=some (.frz o (.dK kvs))/\kvs.length<=i⟩
section
variable{X:Cx}{tg l:Expr}{te:TE}
inductive iKeys_ (R:It->Hp->Prop) (x:V) (H1:Hp):Prop
 | mk (d o kvs) (h0:x = .ref d) (h1:H1 d=some (.frz o (.dK kvs))) (h2:R (Itk d o kvs) H1)
end
section
variable{X:Cx}
inductive rMaxL (K:uFg) (xs:List V) (H:Hp) (Q:VK):Prop
 | mk (a:Addr) (ns:List Int) (h0:xs = [.ref a]) (h1:SqL K H a (ns.map V.int)) (h2:ns ≠ []) (h3:∀m,m∈ns->(∀x∈ns,x<=m)->Q (.int m) H)
theorem Zn0{ns:List Int}:∀{us:List Value},Vals (ns.map V.int) us->∃xs:List (Int×Tok),xs.map (·.1)=ns/\us=xs.map fun p=>Value.int p.1 p.2:=by
 induction ns with
 | nil=>intro us r;cases r;exact⟨[],rfl,rfl⟩
 | cons n ns ih =>
  intro us r
  cases r with
  | cons r1 r2 =>
   obtain⟨t,rfl⟩:=r1
   obtain⟨xs,e1,e2⟩:=ih r2
   exact⟨(n,t)::xs,by rw[xU,e1],by rw[xU,e2]⟩
inductive rListD (xs:List V) (H:Hp) (Q:VK):Prop
 | mk (d:Addr) (kvs:List (Key×V)) (h0:xs = [.ref d]) (h1:H d=some (.dK kvs)) (h2:∀l,H l=none->Q (.ref l) (upd H l (.lst (kvs.map fun p=>kV p.1))))
end
end
section
section
variable{prog:Program}{w:World}{A:Around}{R:Result->Shared->Prop}{I:Addr}{fp wr:List Addr}{n:Nat}{P:Nat->Value->Prop}{St:Nat->Heap->Prop}
abbrev Zkm(vs:Array Value)(c:Nat):Obj:={cls:=.type "list", dict:=none,data:=.seq vs c,slots:=#[] }
theorem mxn:(toString "max" ++ toString ".loop" : String)= "max.loop" := by decide
theorem Zuf(W:Walks prog w A.in1 I fp wr n P St){bt:Nat->Nat->Bool}(hc:CmpOf prog w A.in1 .Gt P bt){S:Addr}(hf:S∉fp)(kw:List (Str×Value))(k:Nat) :
  ∀(j:Nat)(s:Shared)(vb:Value)(c:Nat),n - (j+1)=k->j < n->St (j+1) s.heap->P (argBest bt j) vb->s.heap.get? S=some (Zkm #[vb,vb] c)->
   (∀v h' tk,P (argBest bt (n - 1)) v->(∀b o,b∉wr->b≠S->s.heap.get? b=some o->h'.get? b=some o)->R (.ok (.ret v)) {s with heap:=h',toks:=tk })->
   codeAny (model prog w) A (.builtin "max.loop" ⟨[.ref I,.none,.ref S],kw⟩) R s:=by
 have hw:S∉wr:=fun h=>hf (W.sub _ h)
 induction k with
 | zero =>
  intro j s vb c hk hj hst hP hS hR
  obtain rfl:j+1=n:=by lia
  refine codeAny_builtin F.entry_max_loop ?_;rw[Around.under_plainId F.plain_max_loop _];refine wpAny_bind (wpAny_seqItems hS rfl ?_)
  refine wpAny_bind (wpAny_tryCatch (W.done s _ _ hst fun h' tk hk'=>wpAny_bind (wpAny_updateSeq (hk' S _ hw hS) rfl (wpAny_bind (wpAny_letGo (wpAny_pure ?_))))))
  exact hR vb _ tk hP fun b o h1 h2 e=>(yL _ _ (Ne.symm h2)).trans (hk' b o h1 e)
 | succ k ih =>
  intro j s vb c hk hj hst hP hS hR
  have hlt:j+1 < n:=by lia
  refine codeAny_builtin F.entry_max_loop ?_;rw[Around.under_plainId F.plain_max_loop _];refine wpAny_bind (wpAny_seqItems hS rfl ?_)
  refine wpAny_bind (wpAny_tryCatch (W.item (j+1) s _ _ hlt hst fun v h' tk hv hst' hk'=>?_))
  have hS':=hk' S _ hw hS
  refine wpAny_bind (wpAny_pure (wpAny_bind (wpAny_tryCatch (wpAny_holding (wpAny_bind (hc (j+1) (argBest bt j) v vb _ _ _ hv hP (wpAny_bind (wpAny_holding (wpAny_truthy_bool (wpAny_bind (wpAny_letGo (wpAny_pure ?_))))))))))))
  cases hb:bt (j+1) (argBest bt j) with
  | true =>
   simp only[if_true]
   refine wpAny_bind (wpAny_updateSeq hS' rfl (wpAny_bind (wpAny_letGo ?_)))
   rw[mxn]
   exact wpAny_pure ⟨plainId_quiet F.plain_max_loop _,ih (j+1) _ v _ (by lia) hlt (W.frame _ _ _ hst' fun b hb' o e=>(yL _ _ (fun h:S=b=>hf (h▸hb'))).trans e) (by simp only[argBest,hb,if_true];exact hv) (zW _ hS' rfl)
    fun v' h2 t2 hv' hk2=>hR v' h2 t2 hv' fun b o h1 hS2 e=>hk2 b o h1 hS2 ((yL _ _ (Ne.symm hS2)).trans (hk' b o h1 e))⟩
  | false =>
   simp only[zJ,if_false]
   refine wpAny_bind (wpAny_letGo ?_)
   rw[mxn]
   exact wpAny_pure ⟨plainId_quiet F.plain_max_loop _,ih (j+1) _ vb c (by lia) hlt hst' (by simp only[argBest,hb,zJ,if_false];exact hP) hS' fun v' h2 t2 hv' hk2=>hR v' h2 t2 hv' fun b o h1 hS2 e=>hk2 b o h1 hS2 (hk' b o h1 e)⟩
theorem Zug(W:Walks prog w A.in1 I fp wr n P St){bt:Nat->Nat->Bool}(hc:CmpOf prog w A.in1 .Gt P bt){S:Addr}(hf:S∉fp){kx:Str}{d:Value}{s:Shared}{c:Nat}(hst:St 0 s.heap)(hS:s.heap.get? S=some (Zkm #[] c))(hR:∀v h' tk,(if n=0 then v=d else P (argBest bt (n - 1)) v)->(∀b o,b∉wr->b≠S->s.heap.get? b=some o->h'.get? b=some o)->R (.ok (.ret v)) {s with heap:=h',toks:=tk }) :
  codeAny (model prog w) A (.builtin "max.loop" ⟨[.ref I,.none,.ref S],[(kx,d)]⟩) R s:=by
 have hw:S∉wr:=fun h=>hf (W.sub _ h)
 refine codeAny_builtin F.entry_max_loop ?_;rw[Around.under_plainId F.plain_max_loop _];refine wpAny_bind (wpAny_seqItems hS rfl ?_)
 by_cases hn:n=0
 ·subst hn
  exact wpAny_bind (wpAny_tryCatch (W.done s _ _ hst fun h' tk hk'=>wpAny_bind (wpAny_rule (wpAny_pure (hR d h' tk rfl fun b o h1 _ e=>hk' b o h1 e)))))
 ·refine wpAny_bind (wpAny_tryCatch (W.item 0 s _ _ (by lia) hst fun v h' tk hv hst' hk'=>?_))
  have hS':=hk' S _ hw hS
  refine wpAny_bind (wpAny_pure (wpAny_bind (wpAny_updateSeq hS' rfl ?_)))
  rw[mxn]
  refine wpAny_pure ⟨plainId_quiet F.plain_max_loop _,Zuf W hc hf _ _ 0 _ v _ rfl (by lia) (W.frame _ _ _ hst' fun b hb' o e=>(yL _ _ (fun h:S=b=>hf (h▸hb'))).trans e) hv (zW _ hS' rfl) fun v' h2 t2 hv' hk2=>?_⟩
  exact hR v' h2 t2 (by rw[if_neg hn];exact hv') fun b o h1 hS2 e=>hk2 b o h1 hS2 ((yL _ _ (Ne.symm hS2)).trans (hk' b o h1 e))
theorem Zsf(a d:Value):PySem.argsOk "max" ⟨[a],[(Str.ofString "default", d)]⟩:=by unfold PySem.argsOk;kernel_rfl
end
section
variable{X:Cx}
inductive rMaxD (K:uFg) (xs:List V) (k:V) (H:Hp) (Q:VK):Prop
 | mk (a:Addr) (ns:List Int) (d:Int) (h0:xs = [.ref a]) (h1:k = .int d) (h2:SqL K H a (ns.map V.int)) (h3:∀m,(if ns = [] then m=d else m∈ns/\∀x∈ns,x<=m)->Q (.int m) H)
theorem Zou(hc:X.calm=true):Zdl X (.builtin "max") "default" (rMaxD X.K):=by
 intro pins s σ H xs us k ku Q I r rk h
 obtain⟨a,ns,d,rfl,rfl,ha,q⟩:=h
 obtain⟨u,rfl,ru⟩:=Zae r
 cases ru
 obtain⟨td,rfl⟩:=rk
 obtain⟨its,rv,p,_⟩:=I.list ha
 obtain⟨ps,e1,e2⟩:=Zn0 rv
 subst e2
 have hl:s.heap.IsList a (intItems ps.toArray):=by
  have e:intItems ps.toArray=(ps.map fun p=>Value.int p.1 p.2).toArray:=by unfold intItems;simp
  rw[e];exact p.isList
 have hz:(intItems ps.toArray).size=ps.length:=by simp[intItems]
 have hnl:ns.length=ps.length:=by rw[← e1,xA]
 refine kmk_tree F.kind_max F.plain_max F.entry_max (Zsf _ _) ?_
 refine wpAny_bind (wpAny_of_eq (show Builtin.Builtins.bindParams "max" ["key", "default"] 0 ⟨[],[(Str.ofString "default", .int d td)]⟩=pure [none,some (.int d td)] from rfl) (wpAny_bind (wpAny_pure (wpAny_bind (iter_intList hl fun s₂ e st hfp hlI=>?_)))))
 subst e
 refine wpAny_bind (wpAny_newObj_type ?_)
 rw[mxn]
 have W:=Walks.list (prog:=X.prog) (w:=X.w) (A:=X.A.in1) (I.ok.hd hc) _ a hlI (intItems ps.toArray)
 refine wpAny_pure ⟨plainId_quiet F.plain_max_loop _,Zug W (CmpOf.ints_gt (numAt ps.toArray) (fun _ _=>intItems_at)) (fun hm=>zL _ (hfp _ hm)) (W.frame _ _ _ st fun b _ o e=>xI _ e) (yD _ rfl) fun v h' tk hv hk=>?_⟩
 have kp:∀b o,s.heap.get? b=some o->h'.get? b=some o:=old_kept fun b o hb e=>hk b o hb (yM (xO e)) (xI _ e)
 rw[hz] at hv
 have num:∀i:Nat,i < ps.length->ns[i]? = some (numAt ps.toArray i):=fun i hi=>by
  rw[← e1,xG];unfold numAt
  rw[List.getElem?_toArray,xD hi];rfl
 by_cases hn:ps.length=0
 ·rw[if_pos hn] at hv
  subst hv
  exact⟨.int d,H,I.kept kp,⟨td,rfl⟩,q d (by rw[if_pos (List.eq_nil_of_length_eq_zero (hnl.trans hn))])⟩
 ·rw[if_neg hn] at hv
  obtain⟨b1,b2⟩:=argBest_gt (numAt ps.toArray) (ps.length - 1)
  generalize argBest (fun i j=>decide (numAt ps.toArray i > numAt ps.toArray j)) (ps.length - 1)=j at hv b1 b2
  obtain⟨t,rfl⟩:=intItems_at hv
  refine⟨.int (numAt ps.toArray j),H,I.kept kp,⟨t,rfl⟩,q _ (by
   rw[if_neg (fun z=>hn (by rw[← hnl,z];rfl))]
   refine⟨xF (num j (by lia)),fun x hx=>?_⟩
   obtain⟨i,hi⟩:=List.getElem?_of_mem hx
   have hil:i < ps.length:=by have:=(xQ.mp hi).1;lia
   rw[num i hil] at hi
   cases hi
   exact b2 i (by lia))⟩
theorem Zn1(hc:X.calm=true):QCk X (.builtin "max") "default" (rMaxD X.K):=⟨Zou hc⟩
end
end
section
def Iti(d:Addr)(o:Obj)(kvs:List (Key×V)):It :=
 ⟨fun i H=>H d=some (.frz o (.dK kvs))/\i < kvs.length,fun i H v H'=>∃p x,kvs[i]? = some x/\v = .ref p/\H p=none/\H'=upd H p (.tup [kV x.1,x.2]),fun i H=>H d=some (.frz o (.dK kvs))/\kvs.length<=i⟩
section
variable{X:Cx}{o:Expr}{te:TE}
inductive iItems_ (R:It->Hp->Prop) (x:V) (H1:Hp):Prop
 | mk (d ob kvs) (h0:x = .ref d) (h1:H1 d=some (.frz ob (.dK kvs))) (h2:R (Iti d ob kvs) H1)
inductive rDictD (xs:List V) (H:Hp) (Q:VK):Prop
 | mk (d kvs) (h0:xs = [.ref d]) (h1:Rd H d (.dK kvs)) (h2:∀l,H l=none->Q (.ref l) (upd H l (.dK kvs)))
end
end
section
end
section
section
variable{X:Cx}
inductive rTupOf (K:uFg) (xs:List V) (H:Hp) (Q:VK):Prop
 | mk (p ys) (h0:xs = [.ref p]) (h1:((SqL K H p ys/\∀l,H l=none->Q (.ref l) (upd H l (.tup ys)))\/(SqT K H p ys/\Q (.ref p) H)))
structure QPs (X:Cx) (pos:Pos) (keys:List (Option Expr)) (values:List Expr) (trs:List (TE×TE)):Prop where
 h:PPs X pos keys values trs
theorem Zsg{pos:Pos}:QPs X pos [] [] []:=⟨Zi3⟩
theorem Zat{pos:Pos}{k v:Expr}{ks:List (Option Expr)}{vs:List Expr}{tk tv:TE}{trs:List (TE×TE)}(hk:QE X k tk)(hv:QE X v tv)(hr:QPs X pos ks vs trs):QPs X pos (some k::ks) (v::vs) ((tk,tv)::trs):=⟨Zih hk.h hv.h hr.h⟩
theorem Zsh{pos:Pos}{keys:List (Option Expr)}{values:List Expr}{trs:List (TE×TE)}(h:QPs X pos keys values trs)(hall:keys.all (·.isSome)=true:=by rfl)(hl:keys.length=values.length:=by rfl)(h0:keys ≠ []:=by simp)(h15:keys.length<=15:=by decide):QE X (.Dict keys values pos) (Ze3 trs):=⟨Zi4 h.h hall hl h0 h15⟩
end
end
section
structure InnX (X:Cx) (scope:Scope) (N':List Str) (tg:Expr) (ifs:List Expr) (x:Str) (e:Expr) (es:List Expr) (pos:Pos) (g:TG) (tt:TTs) (t:TA):Prop where
 h:∀(cl:List (Str×Addr))(C:Addr)(s0:Shared)(H0:Hp)(ex:List Addr)(pn:List (Addr×Obj)),QG (ccx X scope cl C N' s0 H0 ex pn) tg g/\QTs (ccx X scope cl C N' s0 H0 ex pn) ifs tt/\QA (ccx X scope cl C N' s0 H0 ex pn) (e::es) t/\Nm (ccx X scope cl C N' s0 H0 ex pn).env.scope x .globalImplicit /\
  starEach (e::es) (ccx X scope cl C N' s0 H0 ex pn).env=(false,eval e (ccx X scope cl C N' s0 H0 ex pn).env)::starEach es (ccx X scope cl C N' s0 H0 ex pn).env/\(backTo pos (starEach es (ccx X scope cl C N' s0 H0 ex pn).env)).any (·.1)=false
section
variable{X:Cx}{tg iter e:Expr}{es ifs:List Expr}{scope:Scope}{pos cpos np:Pos}{locs:List Str}{fr:List (Str×Nat)}{g:TG}{tt:TTs}{t:TA}{x:Str}
end
theorem Zg6{P:Program}{w:World}{K:uFg}{mg:Str->Option Value}{base:Heap}{N:List Str}{qual:Str}{scope:Scope}{f:Addr}{cd:Value}{A:Around}{outer:List Env}{s:Shared}{H:Hp}{E:XK} :
  Pl (Yg (CXE P w) P w K mg base N qual scope f cd A outer s H E):=⟨rfl,rfl,rfl,rfl⟩
end
end L2
end
section
namespace L2
open PySem PySem.Spec PyProof.Rows PySem.W
def Pm(N:Nat)(p:Array Nat):Prop:=p.toList.Perm (List.range N)
section
variable{s:Shared}{cmp:Nat->Nat->(Bool->Shared->Prop)->Shared->Prop}{r:Nat->Nat}{N:Nat}{p:Array Nat}
end
end L2
namespace L2
structure Weak (lt:Nat->Nat->Bool):Prop where
 irr:∀i,lt i i=false
 tr:∀i j k,lt i j=true->lt j k=true->lt i k=true
 neg:∀i j k,lt i j=true->lt i k=true\/lt k j=true
end L2
namespace L2
open PySem PySem.Spec PyProof.Rows
def ltK:List Key->List Key->Bool
 | .inl x::r,.inl y::t=>if x=y then ltK r t else decide (x < y)
 | .inr x::r,.inr y::t=>if x=y then ltK r t else decide (x.cps.toList < y.cps.toList)
 | _,_=>false
def shp(k:List Key):List Bool:=k.map Sum.isLeft
end L2
namespace L2
open PySem PySem.Spec PyProof.Rows PySem.W
section
variable{prog:Program}{w:World}{A:Around}{E:Value->Shared->Prop}{s:Shared}
end
section
variable{X:Cx}
def Zvs(H:Hp)(p:Addr×List Key):Prop:=H p.1=some (.tup (p.2.map kV))
inductive rSortedT (K:uFg) (xs:List V) (H:Hp) (Q:VK):Prop
 | mk (a:Addr) (ps:List (Addr×List Key)) (sh:List Bool) (h0:xs = [.ref a]) (h1:SqL K H a (ps.map fun p=>V.ref p.1)) (h2:ps.length < 64) (h3:(∀p∈ps,Zvs H p/\shp p.2=sh)) (h4:sh ≠ []) (h5:∀(l:Addr)(ms:List (Addr×List Key)),H l=none->ms.Perm ps->ms.Pairwise (fun p q=>ltK q.2 p.2=false)->Q (.ref l) (upd H l (.lst (ms.map fun p=>V.ref p.1))))
inductive rNeRefs (K:uFg) (x:V) (y:V) (H:Hp) (Q:VK):Prop
 | mk (a b:Addr) (as:List Addr) (h0:x = .ref a) (h1:y = .ref b) (h2:SqL K H a (as.map V.ref)) (h3:SqL K H b (as.map V.ref)) (h4:Q (.bl false) H)
end
end L2
end
section
namespace L2
open PySem PySem.Spec PyProof.Rows PySem.W
def LL(r:Nat->Nat)(a b:Nat):Prop:=r a < r b\/(r a=r b/\a < b)
structure Tl (N m:Nat) (p:Array Nat):Prop where
 pm:Pm N p
 tl:∀j,m<=j->j < N->p.getD j 0=j
 hd:∀j,j < m->p.getD j 0 < m
section
variable{s:Shared}{cmp:Nat->Nat->(Bool->Shared->Prop)->Shared->Prop}{r:Nat->Nat}{N:Nat}{p:Array Nat}
structure Dn (r:Nat->Nat) (p:Array Nat) (z n:Nat):Prop where
 a:∀i,i+1<=z->LL r (p.getD (i+1) 0) (p.getD i 0)
 b:∀i,i+1=z->r (p.getD (i+1) 0) < r (p.getD i 0)
 c:∀i,z<=i->i+1 < n->r (p.getD i 0)=r (p.getD (i+1) 0)/\p.getD i 0 < p.getD (i+1) 0
end
def kI(ks:List Int)(i:Nat):Int:=ks.getD i 0
end L2
end
section
namespace L2
open PySem PySem.Spec PyProof.Rows PySem.W
section
variable{P:Program}{w:World}{K:Frag}{mg:Str->Option Value}{base:Heap}
end
structure LamX (X:Cx) (c P:Addr) (nm:Str):Prop where
 code:X.env.code = .ref c
 hd:CodeHd X.base c P
 blt:X.base.BuiltinsAt X.mg P
 nmq:X.env.qual ++ "<lambda>" = nm
 gl:mainGlobals≠P
section
variable{X:Cx}{pins:List (Addr×Obj)}{σ:St}{H:Hp}{s:Shared}{c P:Addr}{nm:Str}{params:Arguments}{body:Expr}{scope:Scope}{lpos:Pos}
end
end L2
end
section
namespace L2
open PySem PySem.Spec PyProof.Rows PySem.W
def LKb(b:Bool)(ks:List Int)(x y:Nat):Prop:=(if b=true then kI ks y < kI ks x else kI ks x < kI ks y)\/(kI ks x=kI ks y/\x < y)
section
variable{X:Cx}{pins:List (Addr×Obj)}{σ:St}{H:Hp}{s:Shared}
variable{f:Value}{c' a kS:Addr}{oc:Obj}{vs:List Value}{ks:List Int}{keys:Array Value}{b:Bool}{e e1:Nat}{Pf:PySem.Fin->Shared->Prop}{E:Value->Shared->Prop}
end
end L2
end
section
namespace L2
open PySem PySem.Spec PyProof.Rows PySem.W
inductive rSortK (K:Frag) (b:Bool) (te:TE) (vs:List V) (H:Hp) (Q:VK):Prop
 | mk (a:Addr) (xs:List V) (ks:List Int) (h0:vs = [.ref a]) (h1:SqL K H a xs) (h2:xs.length < 64) (h3:ks.length=xs.length) (h4:(∀(i:Nat)(x:V)(k:Int),xs[i]? = some x->ks[i]? = some k->∀H2:Hp,(∀b ys,H b=some (.tup ys)->H2 b=some (.tup ys))->te [some x] H2 fun z H3=>z = .int k/\H3=H2)) (h5:∀(l:Addr)(p:List Nat)(H':Hp),Same H H'->H' l=none->p.Perm (List.range xs.length)->p.Pairwise (LKb b ks)->Q (.ref l) (upd H' l (.lst (p.map fun i=>xs.getD i .non))))
section
variable{X:Cx}{c P:Addr}{nm x:Str}{params:Arguments}{body:Expr}{scope:Scope}{lpos p kp kp2 pos:Pos}{e:Expr}{te1 te:TE}{k:Nat}
structure LamOk (X:Cx) (nm x:Str) (params:Arguments) (body:Expr) (scope:Scope) (te:TE):Prop where
 cl:closureFor scope X.env=pure []
 df:defaultsOf params X.env=([],[])
 S:FnScope [x] [x] scope
 bd:∀(pm cv ctv u:Value),bindArgs (kla_fn "<lambda>" nm params body scope [] pm cv ctv) ⟨[u],[]⟩=pure [(x,u)]
 bo:∀(f:Addr)(cv:Value)(A:Around)(s:Shared)(H2:Hp),QE (Yg CX0 X.prog X.w X.K X.mg X.base [x] nm scope f cv A X.stack s H2 E0) body te
end
end L2
end
section
namespace L2
open PySem PySem.Spec PyProof.Rows PySem.W
/- the library's own look at a code's head (KE.KNestM): a match of its own cost 37,000 objects -/
structure LamB (K:Frag) (mg:Str->Option Value) (c P:Addr):Prop where
 hd:PySem.W.codeHdIn K c P=true
 bm:∃bm o,mg "__builtins__" = some (.ref bm)/\bm≠builtinsNs/\bm≠mainGlobals/\bm≠P/\K.lookup bm=some o/\o.cls = .type "module" /\ o.dict=some builtinsNs/\o.data = .plain
 gl:mainGlobals≠P
section
variable{P:Program}{w:World}{K:uFg}{mg:Str->Option Value}{base:Heap}
end
section
variable{P:Program}{w:World}{K:uFg}{mg:Str->Option Value}{base:Heap}{x nm:Str}{scope:Scope}{f:Addr}{cv:Value}{A:Around}{outer:List Env}{s:Shared}{H:Hp}{E:XK}{pos:Pos}
end
structure Tb where
 c:Addr
 P:Addr
 nm:Str
end L2
namespace L2
open PySem PySem.Spec PyProof.Rows PySem.W
end L2
namespace L2
open PySem PySem.Spec PyProof.Rows PySem.W
section
variable{X:Cx}{a:Expr}{ta:TE}
end
end L2
end
section
namespace L2
open PySem PySem.Spec PyProof.Rows
section
def erB(K:uFg)(c:Str->Addr)(errs:List Str):Bool :=
 decide (PySem.W.nsIn K mainGlobals "MootError" = some (some (.ref (c "MootError")))) && errs.all fun x=>decide (PySem.W.nsIn K mainGlobals x=some (some (.ref (c x)))) && Zab K (c x) && Ub K (c x) && decide (Uo K (c x) (c "MootError")=some true) && decide (PySem.W.kitOne K (.ref (c x)) (.type "ValueError")=some true) &&
  errs.all fun y=>decide (Uo K (c x) (c y)=some (decide (x=y))) && decide (PySem.W.kitOne K (.ref (c x)) (.ref (c y))=some (decide (x=y)))
theorem Zvt{K:uFg}{h:Heap}{mg:Str->Option Value}{c:Str->Addr}{errs:List Str}(X:K.In h)(G:h.Ns mainGlobals mg)(e:erB K c errs=true):Er K mg c errs:=by
 unfold erB at e
 rw[xV,yZ] at e
 obtain⟨e0,e⟩:=e
 have e1:∀x,x∈errs->(((((PySem.W.nsIn K mainGlobals x=some (some (.ref (c x)))/\Zab K (c x)=true)/\Ub K (c x)=true)/\Uo K (c x) (c "MootError")=some true)/\PySem.W.kitOne K (.ref (c x)) (.type "ValueError")=some true)/\∀y,y∈errs->Uo K (c x) (c y)=some (decide (x=y))/\PySem.W.kitOne K (.ref (c x)) (.ref (c y))=some (decide (x=y))):=fun x hx=>by
  have:=e x hx
  simp only[xV,decide_eq_true_eq,yZ] at this
  exact this
 exact⟨fun x hx=>PySem.W.mg_of X G (e1 x hx).1.1.1.1.1,fun x hx=>(e1 x hx).1.1.1.1.2,fun x hx=>(e1 x hx).1.1.1.2,PySem.W.mg_of X G (of_decide_eq_true e0),fun x hx=>(e1 x hx).1.1.2,fun x hx y hy=>((e1 x hx).2 y hy).1,fun x hx y hy=>((e1 x hx).2 y hy).2,fun x hx=>(e1 x hx).1.2⟩
end
section
section
variable{X:Cx}{o:Expr}{to:TE}{name:Str}{apos cpos:Pos}{T id:String}{r:V->List V->Hp->VK->Prop}
end
end
section
section
variable{prog:Program}{w:World}{A:Around}{E:Value->Shared->Prop}
variable{s:Shared}
end
section
variable{X:Cx}{pos:Pos}
inductive gLst (K:uFg) (n:Nat) (t:TGs) (v:V) (σ:St) (H:Hp) (Q:St->Hp->Prop):Prop
 | mk (a xs) (h0:v = .ref a) (h1:SqL K H a xs) (h2:xs.length=n) (h3:t xs σ H Q)
end
end
end L2
end
namespace Law
open PySem L2
local macro_rules | `(tactic| walk_at "hp")=>`(tactic| first | exact Zg | assumption | (rw[Zf (by first | assumption | (apply Ne.symm;assumption))];walk_at "hp"))
local macro_rules | `(tactic| walk_at "sq")=>`(tactic| first | assumption | exact SqL.of (by walk_at "hp"))
local macro_rules | `(tactic| walk_at "dc")=>`(tactic| first | decide | assumption | lia)
local macro_rules | `(tactic| walk_at "rd1")=>`(tactic| first | refine Yl ?_ | refine Z8 ?_ | refine Zr (fun _=>?_) (fun _=>?_) | refine Wb (fun _=>?_) (fun _=>?_) | refine Zg4 (fun _=>?_) (fun _=>?_) | refine⟨_,rfl,?_⟩ | refine⟨_,_,rfl,rfl,?_⟩ | refine⟨_,_,rfl,rfl,(.inr ⟨by decide,by decide⟩:CMul _ _),?_⟩ | refine⟨_,_,rfl,rfl,(⟨by walk_at "dc", by walk_at "dc"⟩:Zg0 _ _),?_⟩ | refine⟨_,_,rfl,rfl,(⟨by decide,by decide,by decide⟩:Zg1 _ _),?_⟩ | refine⟨_,_,rfl,rfl,(show (0:Int) < _ by walk_at "dc"),?_⟩ | refine⟨_,_,_,_,rfl,rfl,(by walk_at "sq"),(by rfl),?_⟩ | refine⟨_,_,_,_,rfl,rfl,(by walk_at "sq"),Zr5 (by lia) (by lia),?_⟩ | refine⟨_,_,_,_,rfl,rfl,(by walk_at "hp"),(by rfl),?_⟩ | refine⟨_,_,rfl,.inl (by walk_at "sq"),?_⟩ | fail "rd")
local macro_rules | `(tactic| walk_at "rd")=>`(tactic| repeat' walk_at "rd1")
def top(i:Nat):Stmt:=PySem.Challenge.pw_forsworn_k31_whole_plain_deeds_refused.main.body.getD i (.Pass ⟨0,0,0,0⟩)
structure Txt (mg:Str->Option Value):Prop where
 len:mg "len" = none
 list:mg "list" = none
 range:mg "range" = none
 isinstance:mg "isinstance" = none
 bool:mg "bool" = none
 int:mg "int" = none
 str:mg "str" = none
 tuple:mg "tuple" = none
 zip:mg "zip" = none
 all:mg "all" = none
 max:mg "max" = none
 enumerate:mg "enumerate" = none
 sum:mg "sum" = none
 set:mg "set" = none
 min:mg "min" = none
 ValueError:mg "ValueError" = none
section
variable{P:Program}{w:World}{K:uFg}{mg:Str->Option Value}{base:Heap}
inductive spSrc (K:uFg) (vs:List V) (H:Hp) (Q:VK) (z3:XK):Prop
 | mk (a:Addr) (ns:List Int) (h0:vs = [.ref a]) (h1:SqL K H a (ns.map V.int)) (h2:∀(s la:Addr)(H':Hp),H s=none->H la=none->SrcAt H' s la->Same H H'->Q (.ref s) H')
abbrev Zkn:Stmt:=top 59
theorem Zvu(Ze7:Has K mg "_law_src" Zkn)(T:Txt mg):Fn P w K mg base "_law_src" ["_law_script"] 1 (spSrc K):=by
 refine Ze7.fq ["_law_script"] fun H vs Q E hr h=>?_
 obtain⟨a,ns,rfl,hS,k⟩:=h
 refine⟨rfl,_,(Ze (Zx (Z6 (Za (Zhn Zm0 T.list Zjs (Za (Zan Zpx (qvN 0) Zal (Zam Zc)) Zb)) (Za Zc (Za Zc (Za Zc (Za Zc Zb)))))))),?_⟩
 refine⟨_,rfl,_,rfl,a,_,rfl,hS,fun l hl=>?_⟩
 have hc:∃ms:List Int,Ww (ns.map V.int) none (some 63)=ms.map V.int:=by
  unfold Ww
  rw[← List.map_drop,← List.map_take]
  exact⟨_,rfl⟩
 obtain⟨ms,ec⟩:=hc
 refine⟨l,_,rfl,.inl (SqL.of Zg),fun l2 hl2=>⟨by show 5<=sizeLine;decide,fun s hs=>?_⟩⟩
 have n1:l2≠l:=fun z=>by rw[z,Zg] at hl2;cases hl2
 have s1:Same H (upd H l (.lst (Ww (ns.map V.int) none (some 63)))):=Same.new hl
 have s2:=s1.trans (Same.new (o:=.lst (Ww (ns.map V.int) none (some 63))) hl2)
 have n2:l2≠s:=fun z=>by rw[← z,Zg] at hs;cases hs
 refine k s l2 _ (s2.free hs) (s1.free hl2) ⟨ms,0,0,1,0,Zg,by rw[Zf n2,Zg,ec],by decide,n2⟩ (s2.trans (Same.new hs))
inductive spNext (vs:List V) (H:Hp) (Q:VK) (z3:XK):Prop
 | mk (s la:Addr) (b:Int) (h0:vs = [.ref s,.int b]) (h1:SrcAt H s la) (h2 : 0 < b) (h3:b < 1073741824) (h4:∀(d:Int)(H':Hp),0<=d->d < b->SrcAt H' s la->SameX s H H'->Q (.int d) H')
abbrev Zko:Stmt:=top 60
theorem Zvv(Ze8:Has K mg "_law_next" Zko)(T:Txt mg):Fn P w K mg base "_law_next" ["_law_src_here", "_law_base"] 1 spNext:=by
 refine Ze8.fq ["_law_src_here", "_law_base", "_law_cell", "_law_digit"] fun H vs Q E hr h=>?_
 obtain⟨s,la,b,rfl,⟨ns,i,big,st,cnt,hs,hla,hi,hne⟩,hb0,hb1,k⟩:=h
 refine⟨rfl,_,(Zd (Zcf (Z0 Wk (Zj Yh (qvN 0) Zc (fun _ _=>rfl)) Zc) (Zcg (qvN 0) Zc Zb4))
 (Zd (Zo (Zl Yx (Zj Yh (qvN 0) Zc (fun _ _=>rfl)) Zc (Zm _)) (Zd (Z1 2 Zc)
 (Zd (Zo (Zl V6 (Zj Yh (qvN 0) Zc (fun _ _=>rfl)) (Z7 Wm T.len Yv (Za (Zj Yh (qvN 0) Zc (fun _ _=>rfl)) Zb)) (Zm _)) (Zd (Z1 2 (Zj Yh (Zj Yh (qvN 0) Zc (fun _ _=>rfl)) (Zj Yh (qvN 0) Zc (fun _ _=>rfl)) (fun _ _=>rfl)))
 (Ze (Zcf (Z0 Wk (Zj Yh (qvN 0) Zc (fun _ _=>rfl)) Zc) (Zcg (qvN 0) Zc Zb4)))) Zq)
 (Zd (Zcf (Z0 Zba (Z0 Wk (Z0 Wk (Z0 Zem (Zj Yh (qvN 0) Zc (fun _ _=>rfl)) Zc) (Z0 Zba (qvN 2) Zc)) (Zj Yh (qvN 0) Zc (fun _ _=>rfl))) Zc) (Zcg (qvN 0) Zc Zb4))
 (Ze (Zo (Zl Uw (qvN 2) (Z0 Zen Zc Zc) (Zm _)) (Ze (Zcf (qvN 2) (Zcg (qvN 0) Zc Zb4))) Zq))))) Zq)
 (Zd (Zo (Zl Zjv (Zj Yh (qvN 0) Zc (fun _ _=>rfl)) Zc (Zm _)) (Zd (Z1 3 (Z0 Zba (Zj Yh (qvN 0) Zc (fun _ _=>rfl)) (qvN 1)))
 (Zd (Zcf (Z0 Zc4 (Zj Yh (qvN 0) Zc (fun _ _=>rfl)) (qvN 1)) (Zcg (qvN 0) Zc Zb4))
 (Ze (Zx (qvN 3))))) Zq)
 (Ze (Zx (Z0 Zba (Z0 Zc4 (Z0 Zba (Z0 Zem (Zj Yh (qvN 0) Zc (fun _ _=>rfl)) Zc) Zc) Zc) (qvN 1))))))),?_⟩
 have fin:∀(H1:Hp)(i' big st cnt d:Int),0<=d->d < b->SameX s H H1->H1 s=some (.lst [.ref la,.int i',.int big,.int st,.int cnt])->0<=i'->Q (.int d) H1:=fun H1 i' big st cnt d h0 h1 sx hs1 hi1 =>
  k d H1 h0 h1 ⟨ns,i',big,st,cnt,hs1,sx _ _ hne hla,hi1,hne⟩ sx
 walk_at "rd"
 all_goals refine fin _ _ _ _ _ _ (Int.emod_nonneg _ (by lia)) (Int.emod_lt_of_pos _ hb0) ?_ Zg (by lia)
 all_goals repeat (first | exact SameX.refl | refine SameX.trans ?_ SameX.upd)
end
section
variable{P:Program}{w:World}{K:uFg}{mg:Str->Option Value}{base:Heap}
inductive spWord (vs:List V) (H:Hp) (Q:VK) (z3:XK):Prop
 | mk (s la:Addr) (n:Int) (h0:vs = [.ref s,.int n]) (h1:SrcAt H s la) (h2 : 0<=n) (h3:n<=100) (h4:∀(x:Str)(H':Hp),(x.length:Int)=n->Low x->SrcAt H' s la->SameX s H H'->Q (.str x) H')
theorem Zna(cl:List Nat):(List.map cs (cl.map fun c=>(⟨#[c]⟩:Str))).flatten=cl:=by
 induction cl with
 | nil=>rfl
 | cons c r ih=>rw[xU,xU,zV,ih];rfl
abbrev Zcm:Stmt:=top 62
theorem Zvw:FnScope ["_law_src_here", "_law_many", "_law_letters"] ["_law_src_here", "_law_many"] (Zs Zcm):=fsc
theorem Nq1:Nm (Zs Zcm) "_law_letters" .cell:=by decide +kernel
theorem Nq4:Nm (Zs Zcm) "_law_src_here" .cell:=by decide +kernel
theorem Zvx(Ze9:Has K mg "_law_word" Zcm)(T:Txt mg)(Yp:Fn P w K mg base "_law_next" ["_law_src_here", "_law_base"] 1 spNext):Fn P w K mg base "_law_word" ["_law_src_here", "_law_many"] 2 spWord:=by
 refine Ze9.fq ["_law_src_here", "_law_many", "_law_letters"] fun H vs Q E hr h=>?_
 obtain⟨s,la,n,rfl,hsrc,hn0,hn1,k⟩:=h
 refine⟨rfl,_,(Zd (Zpw (i:=2) Zvw.nd Nq1 Zi)
 (Ze (Zx (Wq F.plainAttrs_str F.slot_str_join F.type_str_join Zpy Zi (Za (Uy (locs:=["_law_k"]) (fr:=[("_law_src_here", 0),("_law_letters", 2)]) ⟨rfl,by decide +kernel,by decide +kernel,by decide +kernel,by decide +kernel,by decide +kernel⟩ (.consN Nq4 (.consN Nq1 .nil)) rfl (Zc1 T.range (Za (qvN 1) Zb)) ⟨fun _ _ _ _ _ _=>by
  have cnd:(inN ["_law_k"] [("_law_src_here", 0),("_law_letters", 2)]).Nodup:=by decide +kernel
  exact⟨(Ua 0 cnd),Zap,(Zj Zep (Zcu 2) (Zw Yp (Za (Zcu 1) (Za Zc Zb)) (n:=nmC)) (fun _ _=>rfl))⟩⟩) Zb))))),?_⟩
 refine⟨rfl,_,rfl,n,rfl,by lia,by lia,?_⟩
 refine Znv (n:=n.toNat) (fun i ys H2=>SrcAt H2 s la/\SameX s H H2/\∃cl:List Nat,cl.length=i/\ys=cl.map (fun c=>V.str ⟨#[c]⟩)/\∀c∈cl,97<=c/\c<=122) ⟨hsrc,SameX.refl,[],rfl,rfl,(fun _ z=>nomatch z)⟩ (by lia) ?_ ?_ ?_
 ·rintro i ys H2 ⟨_,_,cl,h1,rfl,_⟩
  rw[xA];lia
 ·rintro i ys H2 hi ⟨hs2,sx2,cl,h1,rfl,hc⟩ ls hls
  obtain⟨a,rfl⟩:=Zaa hls
  refine⟨⟨[_],rfl,rfl⟩,?_⟩
  walk_at "rd"
  refine⟨s,la,26,rfl,hs2,by decide,by decide,fun d H3 d0 d1 hs3 sx3=>?_⟩
  refine⟨letters,d,_,rfl,rfl,by decide,Zd5 d0 d1,hs3,sx2.trans sx3,cl ++ [97+d.toNat],by rw[xC,h1];rfl,by rw[yE];rfl,fun c hc'=>?_⟩
  rcases xM.mp hc' with z | z
  ·exact hc c z
  ·have:c=97+d.toNat:=by simpa using z
   lia
 ·rintro ys H2 ⟨hs2,sx2,cl,h1,rfl,hc⟩ l hl
  have e:(cl.map fun c=>V.str ⟨#[c]⟩)=(cl.map fun c=>(⟨#[c]⟩:Str)).map V.str:=by rw[List.map_map];rfl
  have sumlen:∀l:List Nat,((l.map fun c=>(⟨#[c]⟩:Str)).map (·.length)).sum=l.length:=by
   intro l
   induction l with
   | nil=>rfl
   | cons c r ih=>rw[xU,xU,List.sum_cons,ih,xY];show 1+r.length=_;lia
  refine⟨_,l,cl.map fun c=>(⟨#[c]⟩:Str),rfl,rfl,SqL.of (by rw[Zg,e]),?_,?_⟩
  ·rw[sumlen,xA]
   show cl.length+cl.length * 0<=16777216
   lia
  ·have ej:cs (Txt.join "" (cl.map fun c=>(⟨#[c]⟩:Str)))=cl:=by rw[Zpt,Zna]
   refine k _ _ ?_ (fun c hc'=>hc c (by rw[ej] at hc';exact hc')) (hs2.keep (Same.new hl)) (sx2.trans (SameX.new hl))
   rw[← Wc,ej,h1]
   lia
end
theorem ph{α:Type} [DecidableEq α]:∀(L M:List α),L.Nodup->(∀a∈L,a∈M)->L.length<=M.length
 | [],_,_,_=>yQ _
 | a::L,M,nd,h=>by
  obtain⟨n1,n2⟩:=yF.mp nd
  have ha:=h a yC
  have:=ph L (M.erase a) n2 fun b hb=>(List.mem_erase_of_ne (fun(e:b=a)=>n1 (by rw[← e];exact hb))).mpr (h b (xX _ hb))
  rw[List.length_erase_of_mem ha] at this
  have hp : 0 < M.length:=List.length_pos_of_mem ha
  rw[xY]
  lia
def Wu(stem:Str)(j:Nat):Str:=stem++⟨#[97+j % 26]⟩++⟨#[97+j / 26]⟩
theorem Zc7(stem:Str)(j:Nat):cs (Wu stem j)=cs stem ++ [97+j % 26,97+j / 26]:=by
 unfold Wu
 rw[Zdd,Zdd]
 simp[cs]
theorem Zp6{stem:Str}{i j:Nat}(h:Wu stem i=Wu stem j):i=j:=by
 have e:cs (Wu stem i)=cs (Wu stem j):=by rw[h]
 rw[Zc7,Zc7] at e
 have e2:=List.append_cancel_left e
 injection e2 with e3 e4
 injection e4 with e5 _
 lia
theorem Zim(stem:Str)(j:Nat):(Wu stem j).length=stem.length+2:=by
 rw[← Wc,Zc7,xC,Wc]
 rfl
theorem Zp7{stem:Str}{j:Nat}(h:Low stem)(hj:j < 676):Low (Wu stem j):=by
 intro c hc
 rw[Zc7] at hc
 rcases xM.mp hc with z | z
 ·exact h c z
 ·simp at z
  lia
theorem Zm2{names:List Str}{stem:Str}(h:∀j,j < names.length->Wu stem j∈names):Wu stem names.length∉names:=by
 intro hm
 have nd:((List.range (names.length+1)).map (Wu stem)).Nodup:=by
  rw[List.nodup_iff_pairwise_ne,List.pairwise_map]
  exact List.Pairwise.imp (fun h e=>h (Zp6 e)) (List.nodup_iff_pairwise_ne.mp List.nodup_range)
 have:=ph _ names nd fun a ha=>by
  obtain⟨j,hj,rfl⟩:=List.mem_map.mp ha
  have hj:=List.mem_range.mp hj
  by_cases e:j=names.length
  ·rw[e];exact hm
  ·exact h j (by lia)
 rw[xA,List.length_range] at this
 lia
theorem Zjb(x:Str)(names:List Str):inV (.str x) (names.map V.str)=decide (x∈names):=by
 unfold inV
 rw[List.any_map,zE,List.any_eq_true,decide_eq_true_iff]
 constructor
 ·rintro⟨y,hy,e⟩
  have:y=x:=by simpa [eqV] using e
  rw[← this];exact hy
 ·intro h
  exact⟨x,h,by simp[eqV]⟩
theorem Zh7(names:List Str):(names.map V.str).all Vw=true:=by
 rw[List.all_map,yZ]
 intro x _
 rfl
def Wd(x:Str):Prop:=Low x/\1<=x.length/\x.length<=12
section
variable{P:Program}{w:World}{K:uFg}{mg:Str->Option Value}{base:Heap}
inductive spUnlike (K:uFg) (vs:List V) (H:Hp) (Q:VK) (z3:XK):Prop
 | mk (a:Addr) (names:List Str) (x:Str) (h0:vs = [.ref a,.str x]) (h1:SqL K H a (names.map V.str)) (h2:names.length<=600) (h3:Wd x) (h4:∀y:Str,Wd y->y∉names->Q (.str y) H)
abbrev Zkp:Stmt:=top 61
theorem Zvy(Zfa:Has K mg "_law_unlike" Zkp)(T:Txt mg):Fn P w K mg base "_law_unlike" ["_law_names_here", "_law_name"] 1 (spUnlike K):=by
 refine Zfa.fq ["_law_names_here", "_law_name", "_law_letters", "_law_stem", "_law_tries"] fun H vs Q E hr h=>?_
 obtain⟨a,names,x,rfl,hS,hn,⟨hx1,hx2,hx3⟩,k⟩:=h
 refine⟨rfl,_,(Zd (Z1 2 Zi)
 (Zd (Z1 3 (Zan Zc6 (qvN 1) Zal (Zam Zc)))
 (Zd (V3 PassesOwn.never rfl (Zc1 T.range (Za (Z0 Wk (Z7 Wm T.len Yv (Za (qvN 0) Zb)) Zc) Zb)) (Vq 4)
 (Zd (Zo (Zl Zhe (qvN 1) (qvN 0) rfl) (Ze (Zx (qvN 1))) Zq)
 (Ze (Z1 1 (Z0 Zcy (Z0 Zcy (qvN 3) (Zj Zep (qvN 2) (Z0 Zba (qvN 4) Zc) (fun _ _=>rfl))) (Zj Zep (qvN 2) (Z0 Zc4 (qvN 4) Zc) (fun _ _=>rfl)))))))
 (Ze (Zx (qvN 1)))))),?_⟩
 have hz:(13:Nat)<=sizeLine:=by decide
 refine⟨_,rfl,10,rfl,x,rfl,by lia,?_⟩
 have hst:cs (Txt.slice x none (some 10))=(cs x).take 10:=Zek x (by decide)
 have hstl:(Txt.slice x none (some 10)).length<=10:=by rw[← Wc,hst,xZ];lia
 have hsto:Low (Txt.slice x none (some 10)):=fun c hc=>hx1 c (by rw[hst] at hc;exact List.mem_of_mem_take hc)
 show Ve _ _ _ [some (.ref a),some (.str x),some (.str letters),some (.str (Txt.slice x none (some 10))),none] H
 generalize Txt.slice x none (some 10)=stem at hstl hsto
 refine⟨_,rfl,a,_,rfl,.inl hS,_,_,rfl,rfl,_,rfl,by lia,by rw[xA];lia,?_⟩
 refine Zd7 (names.length+1) (by rw[xA];lia) (fun i σ H'=>H'=H/\∃(cur:Str)(v:Option V),σ = [some (.ref a),some (.str cur),some (.str letters),some (.str stem),v]/\Wd cur/\(i=0\/cur=Wu stem (i - 1))/\∀j,j+1 < i->Wu stem j∈names)
  ⟨rfl,x,none,rfl,⟨hx1,hx2,hx3⟩,.inl rfl,fun j hj=>by lia⟩ ?_ ?_
 ·rintro i σ H' hi ⟨rfl,cur,v,rfl,hc,hci,hal⟩
  refine⟨_,rfl,_,rfl,a,_,rfl,.inl hS,rfl,Zh7 names,_,rfl,?_⟩
  rw[Zjb]
  refine Wb (fun hnin=>?_) (fun hin=>?_)
  ·exact⟨_,rfl,k cur hc hnin⟩
  ·have hi':i<=600:=by lia
   refine⟨_,rfl,_,rfl,_,rfl,_,_,rfl,rfl,by show (0:Int) < 26;decide,letters,_,_,rfl,rfl,by decide,Zd5 (Int.emod_nonneg _ (by decide)) (Int.emod_lt_of_pos _ (by decide)),stem,_,rfl,rfl,?_,?_⟩
   ·show stem.length+1<=sizeLine
    lia
   refine⟨_,rfl,_,rfl,_,_,rfl,rfl,⟨by decide,by decide⟩,letters,_,_,rfl,rfl,by decide,Zd5 (Int.ediv_nonneg (by lia) (by decide)) (by lia),_,_,rfl,rfl,?_,?_⟩
   ·show (stem++_).length+1<=sizeLine
    rw[PySem.Str.length_append]
    show stem.length+1+1<=sizeLine
    lia
   have e1:((0:Int)+(i:Nat)) % 26=((i % 26:Nat):Int):=by lia
   have e2:((0:Int)+(i:Nat)) / 26=((i / 26:Nat):Int):=by lia
   refine⟨rfl,Wu stem i,some (.int (0+(i:Nat))),?_,⟨Zp7 hsto (by lia),by rw[Zim];lia,by rw[Zim];lia⟩,.inr rfl,fun j hj=>?_⟩
   ·show [some (V.ref a),some (V.str _),some (V.str letters),some (V.str stem),some (V.int _)]=_
    unfold Wu
    rw[e1,e2]
    rfl
   ·by_cases e:j+1=i
    ·rcases hci with z | z
     ·lia
     ·have:j=i - 1:=by lia
      rw[this,← z];exact hin
    ·exact hal j (by lia)
 ·rintro σ H' ⟨rfl,cur,v,rfl,hc,hci,hal⟩
  refine⟨_,rfl,k cur hc ?_⟩
  rcases hci with z | z
  ·lia
  ·rw[z]
   exact Zm2 fun j hj=>hal j (by lia)
inductive spNames (vs:List V) (H:Hp) (Q:VK) (z3:XK):Prop
 | mk (s la:Addr) (n:Int) (h0:vs = [.ref s,.int n]) (h1:SrcAt H s la) (h2 : 0<=n) (h3:n<=100) (h4:∀(l:Addr)(names:List Str)(H':Hp),(names.length:Int)=n->names.Nodup->(∀x∈names,Wd x)->H l=none->H' l=some (.lst (names.map V.str))->SrcAt H' s la->SameX s H H'->Q (.ref l) H')
abbrev Zkq:Stmt:=top 63
theorem Zvz(Zfb:Has K mg "_law_names" Zkq)(T:Txt mg)(Yp:Fn P w K mg base "_law_next" ["_law_src_here", "_law_base"] 1 spNext)(Zfc:Fn P w K mg base "_law_word" ["_law_src_here", "_law_many"] 2 spWord)(Zv0:Fn P w K mg base "_law_unlike" ["_law_names_here", "_law_name"] 1 (spUnlike K)):Fn P w K mg base "_law_names" ["_law_src_here", "_law_many"] 3 spNames:=by
 refine Zfb.fq ["_law_src_here", "_law_many", "_law_style", "_law_stem", "_law_at", "_law_names_here", "_law_k", "_law_name"] fun H vs Q E hr h=>?_
 obtain⟨s,la,n,rfl,hsrc,hn0,hn1,k⟩:=h
 refine⟨rfl,_,(Zd (Z1 2 (Zw Yp (Za (qvN 0) (Za Zc Zb))))
 (Zd (Z1 3 (Zw Zfc (Za (qvN 0) (Za (Z0 Wk Zc (Zw Yp (Za (qvN 0) (Za Zc Zb)))) Zb))))
 (Zd (Z1 4 (Zw Yp (Za (qvN 0) (Za (Z7 Zb2 T.len Yv (Za (qvN 3) Zb)) Zb))))
 (Zd (Z1 5 (Z6 Zb))
 (Zd (V3 PassesOwn.never rfl (Zc1 T.range (Za (qvN 1) Zb)) (Vq 6)
 (Zd (Z1 7 (Z0 Zcy (Z0 Zcy (Zan Zc6 (qvN 3) Zal (Zam (qvN 4))) (Zw Zfc (Za (qvN 0) (Za Zc Zb)))) (Zan Zc6 (qvN 3) (Zam (Z0 Wk (qvN 4) Zc)) Zal)))
 (Zd (Zo (Zl Z4 (qvN 2) Zc (Zm _)) (Ze (Z1 7 (Zan Zc6 (qvN 3) Zal (Zam (Z0 Wk Zc (Zw Yp (Za (qvN 0) (Za (Z7 Zb2 T.len Yv (Za (qvN 3) Zb)) Zb)))))))) Zq)
 (Zd (Zo (Zl Z4 (qvN 2) Zc (Zm _)) (Ze (Z1 7 (Zw Zfc (Za (qvN 0) (Za (Z0 Wk Zc (Zw Yp (Za (qvN 0) (Za Zc Zb)))) Zb))))) Zq)
 (Ze (Zt (Wq F.plainAttrs_list F.slot_list_append F.type_list_append Wx (qvN 5) (Za (Zw Zv0 (Za (qvN 5) (Za (qvN 7) Zb))) Zb))))))))
 (Ze (Zx (qvN 5)))))))),?_⟩
 have hz:(200:Nat)<=sizeLine:=by decide
 refine⟨_,rfl,s,la,3,rfl,hsrc,by decide,by decide,fun style H1 st0 st1 hs1 sx1=>?_⟩
 refine⟨_,rfl,_,rfl,s,la,11,rfl,hs1,by decide,by decide,fun d1 H2 d10 d11 hs2 sx2=>?_⟩
 refine⟨_,_,rfl,rfl,s,la,_,rfl,hs2,by lia,by lia,fun stem H3 hl3 hlow3 hs3 sx3=>?_⟩
 refine⟨_,rfl,_,rfl,stem,rfl,by lia,s,la,_,rfl,hs3,by lia,by lia,fun at_ H4 at0 at1 hs4 sx4=>?_⟩
 refine⟨by show 0<=sizeLine;lia,fun l hl4=>?_⟩
 have sx:SameX s H H4:=((sx1.trans sx2).trans sx3).trans sx4
 obtain⟨nls,nlla⟩:=hs4.ne hl4
 have hlH:H l=none:=by
  cases e:H l with
  | none=>rfl
  | some o=>exact absurd (sx l o nls e) (by rw[hl4];simp)
 refine⟨_,rfl,n,rfl,by lia,by lia,?_⟩
 show Zcj _ _ _ _ [some (.ref s),some (.int n),some (.int style),some (.str stem),some (.int at_),some (.ref l),none,none] (upd H4 l (.lst []))
 have mkn:∀x:Str,Low x->1<=x.length->x.length<=12->Wd x:=fun x a b c=>⟨a,b,c⟩
 refine Zd7 n.toNat rfl (fun i σ H'=>∃(names:List Str)(v1 v2:Option V),σ = [some (.ref s),some (.int n),some (.int style),some (.str stem),some (.int at_),some (.ref l),v1,v2]/\names.length=i/\names.Nodup/\(∀x∈names,Wd x)/\H' l=some (.lst (names.map V.str))/\SrcAt H' s la/\SameX s H H')
  ⟨[],none,none,rfl,rfl,List.nodup_nil,(fun _ z=>nomatch z),Zg,hs4.keep (Same.new hl4),sx.trans (SameX.new hl4)⟩ ?_ ?_
 ·rintro i σ H5 hi ⟨names,v1,v2,rfl,hlen,hnd,hall,hl5,hs5,sx5⟩
  have e1:cs (Txt.slice stem none (some at_))=(cs stem).take at_.toNat:=Zek stem at0
  have e2:cs (Txt.slice stem (some (at_+1)) none)=(cs stem).drop (at_+1).toNat:=Zr7 stem (by lia)
  have l1:(Txt.slice stem none (some at_)).length<=11:=by rw[← Wc,e1,xZ,Wc];lia
  have l2:(Txt.slice stem (some (at_+1)) none).length+(at_+1).toNat=stem.length:=by rw[← Wc,e2,zP,Wc];lia
  have l1':(Txt.slice stem none (some at_)).length=at_.toNat:=by rw[← Wc,e1,xZ,Wc];lia
  refine⟨_,rfl,_,rfl,at_,rfl,stem,rfl,by lia,_,rfl,s,la,1,rfl,hs5,by decide,by decide,fun x1 H6 hx1 hlow1 hs6 sx6=>?_⟩
  have hl6:H6 l=some (.lst (names.map V.str)):=sx6 l _ nls hl5
  refine⟨_,_,rfl,rfl,by lia,?_⟩
  refine⟨_,rfl,_,rfl,_,_,rfl,rfl,_,rfl,stem,rfl,by lia,?_⟩
  have l3:(Txt.slice stem none (some at_)++x1).length=at_.toNat+1:=by rw[PySem.Str.length_append,l1'];lia
  refine⟨_,_,rfl,rfl,by rw[l3];lia,?_⟩
  have hname:Wd (Txt.slice stem none (some at_)++x1++Txt.slice stem (some (at_+1)) none):=by
   refine mkn _ (fun c hc=>?_) ?_ ?_
   ·rw[Zdd,Zdd,e1,e2] at hc
    rcases xM.mp hc with hc | hc
    ·rcases xM.mp hc with hc | hc
     ·exact hlow3 c (List.mem_of_mem_take hc)
     ·exact hlow1 c hc
    ·exact hlow3 c (List.mem_of_mem_drop hc)
   ·rw[PySem.Str.length_append,l3];lia
   ·rw[PySem.Str.length_append,l3];lia
  generalize Txt.slice stem none (some at_)++x1++Txt.slice stem (some (at_+1)) none=nm0 at hname
  show Ve _ _ _ [some (.ref s),some (.int n),some (.int style),some (.str stem),some (.int at_),some (.ref l),some (.int (0+(i:Nat))),some (.str nm0)] H6
  have app:∀(D:Ends),(∀ σ H',(∃(names:List Str)(v1 v2:Option V),σ = [some (.ref s),some (.int n),some (.int style),some (.str stem),some (.int at_),some (.ref l),v1,v2]/\names.length=i+1/\names.Nodup/\(∀x∈names,Wd x)/\H' l=some (.lst (names.map V.str))/\SrcAt H' s la/\SameX s H H')->D.nx σ H')->
    ∀(x:Str)(H6:Hp),Wd x->H6 l=some (.lst (names.map V.str))->SrcAt H6 s la->SameX s H H6 ->
    Zdh (tBM K "list" rAppend (tVar 5) (W8 (tFn (spUnlike K) (W8 (tVar 5) (W8 (tVar 7) Vg))) Vg)) D
     [some (.ref s),some (.int n),some (.int style),some (.str stem),some (.int at_),some (.ref l),some (.int (0+(i:Nat))),some (.str x)] H6:=by
   intro D hD x H6 hx hl6 hs6 sx6
   refine⟨_,rfl,.inl ⟨rfl,_,SqL.of hl6⟩,_,rfl,_,rfl,l,names,x,rfl,SqL.of hl6,by lia,hx,fun y hy hny=>?_⟩
   refine⟨l,_,_,rfl,rfl,hl6,by rw[xA];lia,hD _ _ ⟨names ++ [y],_,_,rfl,by rw[xC,hlen];rfl,Zi5 hnd hny,fun z hz=>?_,?_,?_,?_⟩⟩
   ·rcases xM.mp hz with q | q
    ·exact hall z q
    ·have:z=y:=by simpa using q
     rw[this];exact hy
   ·rw[Zg,yE];rfl
   ·exact hs6.keepX SameX.upd nls nlla
   ·intro b o hb e
    have:b≠l:=fun z=>by rw[z,hlH] at e;cases e
    rw[Zf this]
    exact sx6 b o hb e
  have step2:∀(D:Ends),(∀ σ H',(∃(names:List Str)(v1 v2:Option V),σ = [some (.ref s),some (.int n),some (.int style),some (.str stem),some (.int at_),some (.ref l),v1,v2]/\names.length=i+1/\names.Nodup/\(∀x∈names,Wd x)/\H' l=some (.lst (names.map V.str))/\SrcAt H' s la/\SameX s H H')->D.nx σ H')->
    ∀(x:Str)(H6:Hp),Wd x->H6 l=some (.lst (names.map V.str))->SrcAt H6 s la->SameX s H H6 ->
    Ve (Zcs (Zad (tOp rEq (tVar 2) (tC (.int 2)))) (V8 (tFn spWord (W8 (tVar 0) (W8 (tOp (rI0 fun i j=>.int (i+j)) (tC (.int 1)) (tFn spNext (W8 (tVar 0) (W8 (tC (.int 12)) Vg)))) Vg))) (Wa 7)) Zbj)
     (Zdh (tBM K "list" rAppend (tVar 5) (W8 (tFn (spUnlike K) (W8 (tVar 5) (W8 (tVar 7) Vg))) Vg))) D
     [some (.ref s),some (.int n),some (.int style),some (.str stem),some (.int at_),some (.ref l),some (.int (0+(i:Nat))),some (.str x)] H6:=by
   intro D hD x H6 hx hl6 hs6 sx6
   refine⟨_,rfl,rfl,_,rfl,Zr (fun _=>?_) (fun _=>?_)⟩
   ·refine⟨_,rfl,_,rfl,s,la,12,rfl,hs6,by decide,by decide,fun d H7 d0 d1 hs7 sx7=>?_⟩
    refine⟨_,_,rfl,rfl,s,la,_,rfl,hs7,by lia,by lia,fun y H8 hy1 hy2 hs8 sx8=>?_⟩
    exact app D hD y H8 ⟨hy2,by lia,by lia⟩ (sx8 l _ nls (sx7 l _ nls hl6)) hs8 ((sx6.trans sx7).trans sx8)
   ·exact app D hD x H6 hx hl6 hs6 sx6
  refine⟨_,rfl,rfl,_,rfl,Zr (fun _=>?_) (fun _=>?_)⟩
  ·refine⟨_,rfl,_,rfl,_,rfl,stem,rfl,by lia,s,la,_,rfl,hs6,by lia,by lia,fun d H7 d0 d1 hs7 sx7=>?_⟩
   refine⟨_,_,rfl,rfl,_,rfl,stem,rfl,by lia,?_⟩
   have e3:cs (Txt.slice stem none (some (1+d)))=(cs stem).take (1+d).toNat:=Zek stem (by lia)
   refine step2 _ (fun σ H' h=>h) _ H7 ⟨fun c hc=>hlow3 c (by rw[e3] at hc;exact List.mem_of_mem_take hc),?_,?_⟩ (sx7 l _ nls hl6) hs7 ((sx5.trans sx6).trans sx7)
   ·rw[← Wc,e3,xZ,Wc];lia
   ·rw[← Wc,e3,xZ,Wc];lia
  ·exact step2 _ (fun σ H' h=>h) nm0 H6 hname hl6 hs6 (sx5.trans sx6)
 ·rintro σ H5 ⟨names,v1,v2,rfl,hlen,hnd,hall,hl5,hs5,sx5⟩
  exact⟨_,rfl,k l names H5 (by lia) hnd hall hlH hl5 hs5 sx5⟩
end
section
variable{P:Program}{w:World}{K:uFg}{mg:Str->Option Value}{base:Heap}
def okc(c:Nat):Bool:=decide (97<=c) && decide (c<=122)
def Y2(x:Str):Bool:=(decide (1<=x.length) && decide (x.length<=12)) && (cs x).all okc
theorem Zn2{x:Str}(h:Wd x):Y2 x=true:=by
 obtain⟨h1,h2,h3⟩:=h
 unfold Y2
 rw[xW h2,xW h3,Bool.true_and,Bool.true_and,yZ]
 intro c hc
 obtain⟨a,b⟩:=h1 c hc
 unfold okc
 rw[xW a,xW b]
 rfl
inductive spIsName (vs:List V) (H:Hp) (Q:VK) (z3:XK):Prop
 | mk (x:Str) (h0:vs = [.str x]) (h1:x.length<=1000) (h2:∀H',Same H H'->Q (.bl (Y2 x)) H')
theorem Zde{x:Str}{i:Nat}(hi:i < x.length):(cs x)[i]? = some (x.cps.getD i 0):=by
 unfold cs
 have:i < x.cps.size:=hi
 rw[Array.getD_eq_getD_getElem?,Array.getElem?_eq_getElem this,Array.getElem?_toList,Array.getElem?_eq_getElem this]
 rfl
theorem leA(c:Nat):(!decide ((⟨#[c]⟩:Str).cps.toList < ("a" : Str).cps.toList))=decide (97<=c):=by
 have e:("a" : Str).cps.toList = [97]:=by decide +kernel
 rw[e]
 show (!decide (([c]:List Nat) < [97]))=_
 rw[zE,Bool.not_eq_true',decide_eq_false_iff_not,decide_eq_true_iff,Zho]
 lia
theorem leZ(c:Nat):(!decide (("z" : Str).cps.toList < (⟨#[c]⟩:Str).cps.toList))=decide (c<=122):=by
 have e:("z" : Str).cps.toList = [122]:=by decide +kernel
 rw[e]
 show (!decide (([122]:List Nat) < [c]))=_
 rw[zE,Bool.not_eq_true',decide_eq_false_iff_not,decide_eq_true_iff,Zho]
 lia
theorem Zhf{α β:Type}{l:List α}{i:Nat}{a : α}(f : α->β)(h:l[i]? = some a):(l.take (i+1)).map f=(l.take i).map f ++ [f a]:=by
 rw[yI,h,yE]
 rfl
abbrev Zkr:Stmt:=top 32
theorem Zv1(Zfd:Has K mg "is_name" Zkr)(T:Txt mg)(hL:∃t,mg "LONGEST_NAME" = some (.int 12 t)):Fn P w K mg base "is_name" ["text"] 1 spIsName:=by
 obtain⟨tL,c_LONGEST_NAME⟩:=hL
 have r_LONGEST_NAME:RelV (.int 12) (.int 12 tL):=⟨tL,rfl⟩
 refine Zfd.fq ["text"] fun H vs Q E hr h=>?_
 obtain⟨x,rfl,hx,k⟩:=h
 refine⟨rfl,_,(Ze (Zx (Zbf (Zii Yx Yx Zc (Z7 Zb2 T.len Yv (Za (qvN 0) Zb)) (Yu c_LONGEST_NAME r_LONGEST_NAME)) (Zak (Z7 (Zor (by rfl)) T.all Zvh (Za (Uy (locs:=["sign"]) (fr:=[]) ⟨rfl,by decide +kernel,by decide +kernel,by decide +kernel,by decide +kernel,by decide +kernel⟩ .nil rfl (Zjt (qvN 0)) ⟨fun _ _ _ _ _ _=>by
  have cnd:(inN ["sign"] []).Nodup:=by decide +kernel
  exact⟨(Ua 0 cnd),Zap,(Zii Zc0 Zc0 Zi (V9 0) Zi)⟩⟩) Zb)))))),?_⟩
 have hz:(1000:Nat)<=sizeLine:=by decide
 refine⟨_,rfl,x,rfl,by lia,_,_,rfl,rfl,_,rfl,Zr (fun h1=>?_) (fun h1=>?_)⟩
 ·refine⟨_,_,rfl,rfl,_,rfl,Zr (fun h2=>?_) (fun h2=>?_)⟩
  ·refine⟨_,rfl,x,rfl,?_⟩
   refine Zpv (fun i ys H'=>H'=H/\ys=((cs x).take i).map fun c=>V.bl (okc c)) ⟨rfl,rfl⟩ (by lia) ?_ ?_ ?_
   ·rintro i ys H' ⟨_,rfl⟩
    rw[xA,xZ];lia
   ·rintro i ys H' hi ⟨rfl,rfl⟩ ls hls
    obtain⟨a,rfl⟩:=Zaa hls
    refine⟨⟨[_],rfl,rfl⟩,Yl ?_⟩
    refine⟨_,rfl,_,_,rfl,rfl,_,rfl,?_⟩
    rw[leA]
    refine Zr (fun h3=>?_) (fun h3=>?_)
    ·refine⟨_,_,rfl,rfl,rfl,?_⟩
     dsimp only
     rw[leZ,Zhf _ (Zde hi)]
     unfold okc
     rw[xW h3,Bool.true_and]
    ·refine⟨rfl,?_⟩
     rw[Zhf _ (Zde hi)]
     unfold okc
     rw[xT h3,yT]
   ·rintro ys H' ⟨rfl,rfl⟩ l hl
    refine⟨l,(cs x).map okc,rfl,SqL.of (by rw[Zg,← Wc,yR,List.map_map];rfl),?_⟩
    have e:((cs x).map okc).all id=Y2 x:=by
     unfold Y2
     rw[List.all_map,xW (show 1<=x.length by lia),xW (show x.length<=12 by lia)]
     rfl
    rw[e]
    exact k _ (Same.new hl)
  ·refine(?_:Q (.bl false) H)
   have e:Y2 x=false:=by
    unfold Y2
    rw[xT (show ¬x.length<=12 by lia),Bool.and_false,yT]
   rw[← e]
   exact k H (Same.refl _)
 ·refine⟨_,rfl,Z8 ?_⟩
  have e:Y2 x=false:=by
   unfold Y2
   rw[xT (show ¬ 1<=x.length by lia),yT,yT]
  rw[← e]
  exact k H (Same.refl _)
end
section
variable{P:Program}{w:World}{K:uFg}{mg:Str->Option Value}{base:Heap}
inductive Deed where
 | come (n:Str) (d w:Int) | rise (n:Str) (d w:Int) | die (n:Str) (d:Int) (h:Str)
def Zk:List Deed->Str->Option Int
 | [],_=>none
 | .come m d _::r,n=>if m=n then some d else Zk r n
 | .rise _ _ _::r,n=>Zk r n
 | .die _ _ _::r,n=>Zk r n
def Zy:List Deed->Str->Option (Int×Str)
 | [],_=>none
 | .die m d h::r,n=>if m=n then some (d,h) else Zy r n
 | .come _ _ _::r,n=>Zy r n
 | .rise _ _ _::r,n=>Zy r n
theorem Za6(a b:List Deed)(n:Str):Zk (a++b) n=(Zk a n).or (Zk b n):=by
 induction a with
 | nil=>rfl
 | cons x r ih =>
  cases x with
  | come m d w =>
   rw[yG,Zk,Zk]
   by_cases e:m=n
   ·rw[if_pos e,if_pos e];rfl
   ·rw[if_neg e,if_neg e,ih]
  | rise m d w=>rw[yG,Zk,Zk,ih]
  | die m d h=>rw[yG,Zk,Zk,ih]
theorem Zb5(a b:List Deed)(n:Str):Zy (a++b) n=(Zy a n).or (Zy b n):=by
 induction a with
 | nil=>rfl
 | cons x r ih =>
  cases x with
  | come m d w=>rw[yG,Zy,Zy,ih]
  | rise m d w=>rw[yG,Zy,Zy,ih]
  | die m d h =>
   rw[yG,Zy,Zy]
   by_cases e:m=n
   ·rw[if_pos e,if_pos e];rfl
   ·rw[if_neg e,if_neg e,ih]
theorem Zn3{ds:List Deed}{n:Str}{d w:Int}(h:Zk ds n=none)(x:Str):Zk (ds ++ [.come n d w]) x=if x=n then some d else Zk ds x:=by
 rw[Za6,Zk,Zk]
 by_cases e:x=n
 ·subst e
  rw[if_pos rfl,if_pos rfl,h];rfl
 ·rw[if_neg (Ne.symm e),if_neg e]
  cases Zk ds x<;>rfl
theorem Zh8{ds:List Deed}{n h:Str}{d:Int}(x:Str):Zk (ds ++ [.die n d h]) x=Zk ds x:=by
 rw[Za6,Zk,Zk]
 cases Zk ds x<;>rfl
theorem Zd9{ds:List Deed}{n:Str}{d w:Int}(x:Str):Zy (ds ++ [.come n d w]) x=Zy ds x:=by
 rw[Zb5,Zy,Zy]
 cases Zy ds x<;>rfl
theorem Zh9{ds:List Deed}{n h:Str}{d:Int}(hn:Zy ds n=none)(x:Str):Zy (ds ++ [.die n d h]) x=if x=n then some (d,h) else Zy ds x:=by
 rw[Zb5,Zy,Zy]
 by_cases e:x=n
 ·subst e
  rw[if_pos rfl,if_pos rfl,hn];rfl
 ·rw[if_neg (Ne.symm e),if_neg e]
  cases Zy ds x<;>rfl
def Va(ds:List Deed)(n:Str)(day:Int):Bool:=match Zy ds n with
 | some x=>decide (x.1<=day)
 | none=>false
def Vb(dc dw dd dh:Addr):List (Str×V):=Zn "heirs" (.ref dh) (Zn "deaths" (.ref dd) (Zn "weights" (.ref dw) (Zn "comings" (.ref dc) [])))
theorem Up(dc dw dd dh:Addr):(Vb dc dw dd dh).lookup ("comings" : Str)=some (.ref dc):=by
 unfold Vb
 rw[Yk,if_neg (by decide +kernel),Yk,if_neg (by decide +kernel),Yk,if_neg (by decide +kernel),Yk,if_pos rfl]
theorem Zme(dc dw dd dh:Addr):(Vb dc dw dd dh).lookup ("weights" : Str)=some (.ref dw):=by
 unfold Vb
 rw[Yk,if_neg (by decide +kernel),Yk,if_neg (by decide +kernel),Yk,if_pos rfl]
theorem Za0(dc dw dd dh:Addr):(Vb dc dw dd dh).lookup ("deaths" : Str)=some (.ref dd):=by
 unfold Vb
 rw[Yk,if_neg (by decide +kernel),Yk,if_pos rfl]
theorem Zys(dc dw dd dh:Addr):(Vb dc dw dd dh).lookup ("heirs" : Str)=some (.ref dh):=by
 unfold Vb
 rw[Yk,if_pos rfl]
def Zd0(m:Str):Prop:=¬m = "heirs" /\ ¬m = "deaths" /\ ¬m = "weights" /\ ¬m = "comings"
instance (m:Str):Decidable (Zd0 m):=by unfold Zd0;exact inferInstance
theorem Yi(dc dw dd dh:Addr){m:Str}(h:Zd0 m:=by decide +kernel):(Vb dc dw dd dh).lookup m=none:=by
 obtain⟨a,b,c,d⟩:=h
 unfold Vb
 rw[Yk,if_neg a,Yk,if_neg b,Yk,if_neg c,Yk,if_neg d]
 rfl
structure FL where
 p:Addr
 dc:Addr
 dw:Addr
 dd:Addr
 dh:Addr
structure FolkAt (C:Addr) (H:Hp) (L:FL) (ds:List Deed):Prop where
 ob:∃dx,H L.p=some (.ins C dx (Vb L.dc L.dw L.dd L.dh))
 c:∃kvs:List (Key×V),H L.dc=some (.dK kvs)/\kvs.length<=ds.length/\∀n:Str,Z3 kvs (.inr n)=(Zk ds n).map V.int
 w:∃kvs:List (Key×V),H L.dw=some (.dK kvs)/\kvs.length<=ds.length
 d:∃kvs:List (Key×V),H L.dd=some (.dK kvs)/\kvs.length<=ds.length/\∀n:Str,Z3 kvs (.inr n)=(Zy ds n).map fun x=>V.int x.1
 h:∃kvs:List (Key×V),H L.dh=some (.dK kvs)/\kvs.length<=ds.length/\∀n:Str,Z3 kvs (.inr n)=(Zy ds n).map fun x=>V.str x.2
 a1:L.dc≠L.dw
 a2:L.dc≠L.dd
 a3:L.dc≠L.dh
 a4:L.dw≠L.dd
 a5:L.dw≠L.dh
 a6:L.dd≠L.dh
def Zfe(H H':Hp):Prop:=∀b o,(∀xs,o ≠ .lst xs)->H b=some o->H' b=some o
theorem Same.n{H H':Hp}(h:Same H H'):Zfe H H':=fun b o _ e=>h b o e
theorem FolkAt.keep{C:Addr}{H H':Hp}{L:FL}{ds:List Deed}(h:FolkAt C H L ds)(k:Zfe H H'):FolkAt C H' L ds:=by
 obtain⟨⟨dx,ob⟩,⟨k1,c1,c2⟩,⟨k2,w1,w2⟩,⟨k3,d1,d2⟩,⟨k4,h1,h2⟩,a1,a2,a3,a4,a5,a6⟩:=h
 exact⟨⟨dx,k _ _ (fun _ z=>nomatch z) ob⟩,⟨k1,k _ _ (fun _ z=>nomatch z) c1,c2⟩,⟨k2,k _ _ (fun _ z=>nomatch z) w1,w2⟩,⟨k3,k _ _ (fun _ z=>nomatch z) d1,d2⟩,⟨k4,k _ _ (fun _ z=>nomatch z) h1,h2⟩,a1,a2,a3,a4,a5,a6⟩
def SameLT(H H':Hp):Prop:=(∀b xs,H b=some (.lst xs)->H' b=some (.lst xs))/\∀b xs,H b=some (.tup xs)->H' b=some (.tup xs)
theorem SameLT.updD{H:Hp}{l:Addr}{kvs kvs':List (Key×V)}(h:H l=some (.dK kvs)):SameLT H (upd H l (.dK kvs')) :=
 ⟨fun b xs e=>by rw[Zf (fun z=>by rw[z,h] at e;cases e)];exact e,fun b xs e=>by rw[Zf (fun z=>by rw[z,h] at e;cases e)];exact e⟩
structure TxC (K:uFg) (C:Addr):Prop where
 cl:Cls K C
 nc:NoAttr K C "comings"
 nw:NoAttr K C "weights"
 nd:NoAttr K C "deaths"
 nh:NoAttr K C "heirs"
variable{C:Addr}
inductive spDay (vs:List V) (H:Hp) (Q:VK) (z3:XK):Prop
 | mk (d:Int) (h0:vs = [.int d]) (h1 : 0<=d) (h2:d<=9999) (h3:Q .non H)
abbrev Zff:Stmt:=top 26
theorem Zv2(Zbo:Has K mg "check_day" Zff)(C0:∃t,mg "LAST_DAY" = some (.int 9999 t)):Fn P w K mg base "check_day" ["day"] 1 spDay:=by
 obtain⟨t0,c_LAST_DAY⟩:=C0
 have r_LAST_DAY:RelV (.int 9999) (.int 9999 t0):=⟨t0,rfl⟩
 refine Zbo.fq ["day"] fun H vs Q E hr h=>?_
 obtain⟨d,rfl,h0,h1,k⟩:=h
 refine⟨rfl,_,(Ze (Zo (Vk (Zai Yx Yx Zc (qvN 0) (Yu c_LAST_DAY r_LAST_DAY))) (Ze Wy) Zq)),?_⟩
 refine⟨_,rfl,_,_,rfl,rfl,_,rfl,Zr (fun _=>?_) (fun z=>absurd h0 z)⟩
 refine⟨_,_,rfl,rfl,_,rfl,Wb (fun z=>absurd h1 z) (fun _=>k)⟩
inductive spWt (vs:List V) (H:Hp) (Q:VK) (z3:XK):Prop
 | mk (d:Int) (h0:vs = [.int d]) (h1 : 1<=d) (h2:d<=1000) (h3:Q .non H)
abbrev Zfg:Stmt:=top 27
theorem Zv3(Zbt:Has K mg "check_weight" Zfg)(C0:∃t,mg "MOST_WEIGHT" = some (.int 1000 t)):Fn P w K mg base "check_weight" ["weight"] 1 spWt:=by
 obtain⟨t0,c_MOST_WEIGHT⟩:=C0
 have r_MOST_WEIGHT:RelV (.int 1000) (.int 1000 t0):=⟨t0,rfl⟩
 refine Zbt.fq ["weight"] fun H vs Q E hr h=>?_
 obtain⟨d,rfl,h0,h1,k⟩:=h
 refine⟨rfl,_,(Ze (Zo (Vk (Zai Yx Yx Zc (qvN 0) (Yu c_MOST_WEIGHT r_MOST_WEIGHT))) (Ze Wy) Zq)),?_⟩
 refine⟨_,rfl,_,_,rfl,rfl,_,rfl,Zr (fun _=>?_) (fun z=>absurd h0 z)⟩
 refine⟨_,_,rfl,rfl,_,rfl,Wb (fun z=>absurd h1 z) (fun _=>k)⟩
inductive spKnown (C:Addr) (vs:List V) (H:Hp) (Q:VK) (z3:XK):Prop
 | mk (L:FL) (ds:List Deed) (n:Str) (d:Int) (h0:vs = [.ref L.p,.str n]) (h1:FolkAt C H L ds) (h2:Zk ds n=some d) (h3:Q .non H)
abbrev Zfh:Stmt:=Yt (top 36) 17
theorem Zv4(Zbu:HasM K C "check_known" "Folk.check_known" Zfh)(Tc:TxC K C):Mt P w K mg base C "check_known" ["self", "name"] 1 (spKnown C):=by
 refine Zbu.mq ["self", "name"] fun H vs Q E hr h=>?_
 obtain⟨L,ds,n,d,rfl,F,hn,k⟩:=h
 refine⟨rfl,_,(Ze (Zo (Zl (Zhp hr) (qvN 1) (Zz (qvN 0)) rfl) (Ze Wy) Zq)),?_⟩
 obtain⟨dx,ob⟩:=F.ob
 obtain⟨kvs,c1,c2,c3⟩:=F.c
 refine⟨_,rfl,_,rfl,L.p,C,dx,_,_,rfl,ob,Tc.cl,Tc.nc,Up _ _ _ _,L.dc,_,rfl,DGet.k (k:=Sum.inr n) c1,_,rfl,?_⟩
 rw[c3,hn]
 exact Z8 k
inductive spThere (C:Addr) (vs:List V) (H:Hp) (Q:VK) (z3:XK):Prop
 | mk (L:FL) (ds:List Deed) (n:Str) (d day:Int) (h0:vs = [.ref L.p,.str n,.int day]) (h1:FolkAt C H L ds) (h2:Zk ds n=some d) (h3:d<=day) (h4:Q .non H)
abbrev Zfi:Stmt:=Yt (top 36) 18
theorem Zv5(Zbv:HasM K C "check_there" "Folk.check_there" Zfi)(Tc:TxC K C):Mt P w K mg base C "check_there" ["self", "name", "day"] 1 (spThere C):=by
 refine Zbv.mq ["self", "name", "day"] fun H vs Q E hr h=>?_
 obtain⟨L,ds,n,d,day,rfl,F,hn,hd,k⟩:=h
 refine⟨rfl,_,(Ze (Zo (Zl V6 (qvN 2) (Zcb hr (Zz (qvN 0)) (qvN 1) (fun _ _=>rfl)) (Zm _)) (Ze Wy) Zq)),?_⟩
 obtain⟨dx,ob⟩:=F.ob
 obtain⟨kvs,c1,c2,c3⟩:=F.c
 have g:=DGet.k (k:=Sum.inr n) c1
 rw[c3,hn] at g
 refine⟨_,rfl,_,rfl,L.p,C,dx,_,_,rfl,ob,Tc.cl,Tc.nc,Up _ _ _ _,_,rfl,L.dc,.int d,rfl,g,?_⟩
 exact⟨_,_,rfl,rfl,_,rfl,Zr (fun z=>absurd z (by lia)) (fun _=>k)⟩
inductive spDiedBy (C:Addr) (vs:List V) (H:Hp) (Q:VK) (z3:XK):Prop
 | mk (L:FL) (ds:List Deed) (n:Str) (day:Int) (h0:vs = [.ref L.p,.str n,.int day]) (h1:FolkAt C H L ds) (h2:Q (.bl (Va ds n day)) H)
abbrev Zks:Stmt:=Yt (top 36) 11
theorem Zv6(Zfj:HasM K C "died_by" "Folk.died_by" Zks)(Tc:TxC K C):Mt P w K mg base C "died_by" ["self", "name", "day"] 1 (spDiedBy C):=by
 refine Zfj.mq ["self", "name", "day"] fun H vs Q E hr h=>?_
 obtain⟨L,ds,n,day,rfl,F,k⟩:=h
 refine⟨rfl,_,(Ze (Zx (Zbf (Vi (Zar hr) (qvN 1) (Zz (qvN 0)) rfl) (Zak (Vi Yx (Zcb hr (Zz (qvN 0)) (qvN 1) (fun _ _=>rfl)) (qvN 2) (Zm _)))))),?_⟩
 obtain⟨dx,ob⟩:=F.ob
 obtain⟨kvs,c1,c2,c3⟩:=F.d
 have g:=DGet.k (k:=Sum.inr n) c1
 rw[c3] at g
 unfold Va at k
 refine⟨_,rfl,_,rfl,L.p,C,dx,_,_,rfl,ob,Tc.cl,Tc.nd,Za0 _ _ _ _,L.dd,_,rfl,g,_,rfl,?_⟩
 cases e:Zy ds n with
 | none =>
  rw[e] at k
  exact Z8 k
 | some x =>
  rw[e] at k g
  refine Yl ?_
  exact⟨_,rfl,L.p,C,dx,_,_,rfl,ob,Tc.cl,Tc.nd,Za0 _ _ _ _,_,rfl,L.dd,.int x.1,rfl,g,_,rfl,_,_,rfl,rfl,k⟩
end
section
variable{P:Program}{w:World}{K:uFg}{mg:Str->Option Value}{base:Heap}{C:Addr}
inductive spInit (C:Addr) (vs:List V) (H:Hp) (Q:VK) (z3:XK):Prop
 | mk (p dx:Addr) (h0:vs = [.ref p]) (h1:H p=some (.ins C dx [])) (h2:∀(L:FL)(H':Hp),L.p=p->FolkAt C H' L []->(∀b o,H b=some o->b≠p->H' b=some o)->(∀b,b=L.dc\/b=L.dw\/b=L.dd\/b=L.dh->H b=none)->Q .non H')
abbrev Zkt:Stmt:=Yt (top 36) 0
theorem Zv7(Zfk:HasM K C "__init__" "Folk.__init__" Zkt)(Tc:TxC K C):Mt P w K mg base C "__init__" ["self"] 1 (spInit C):=by
 refine Zfk.mq ["self"] fun H vs Q E hr h=>?_
 obtain⟨p,dx,rfl,hp,k⟩:=h
 refine⟨rfl,_,(Zd (W9 (qvN 0) Zb8)
 (Zd (W9 (qvN 0) Zb8)
 (Zd (W9 (qvN 0) Zb8)
 (Ze (W9 (qvN 0) Zb8))))),?_⟩
 intro dc hdc
 have p1:p≠dc:=Zp hp hdc
 refine⟨_,rfl,p,C,dx,[],rfl,(by rw[Zf p1];exact hp),Tc.cl,Tc.nc,(by show 0 < 1000;decide),?_⟩
 have g1:(upd (upd H dc (.dK [])) p (.ins C dx (Zn "comings" (.ref dc) []))) p=some (.ins C dx (Zn "comings" (.ref dc) [])):=Zg
 have c1:(upd (upd H dc (.dK [])) p (.ins C dx (Zn "comings" (.ref dc) []))) dc=some (.dK []):=by rw[Zf p1.symm,Zg]
 have s1:∀b o,H b=some o->b≠p->(upd (upd H dc (.dK [])) p (.ins C dx (Zn "comings" (.ref dc) []))) b=some o:=fun b o e n=>by rw[Zf n,Zf (Zp e hdc)];exact e
 generalize (upd (upd H dc (.dK [])) p (.ins C dx (Zn "comings" (.ref dc) [])))=H1 at g1 c1 s1 ⊢
 intro dw hdw
 have p2:p≠dw:=Zp g1 hdw
 have q1:dc≠dw:=Zp c1 hdw
 refine⟨_,rfl,p,C,dx,_,rfl,(by rw[Zf p2];exact g1),Tc.cl,Tc.nw,(by show 1 < 1000;decide),?_⟩
 have g2:(upd (upd H1 dw (.dK [])) p (.ins C dx (Zn "weights" (.ref dw) (Zn "comings" (.ref dc) [])))) p=some (.ins C dx (Zn "weights" (.ref dw) (Zn "comings" (.ref dc) []))):=Zg
 have c2:(upd (upd H1 dw (.dK [])) p (.ins C dx (Zn "weights" (.ref dw) (Zn "comings" (.ref dc) [])))) dc=some (.dK []):=by rw[Zf p1.symm,Zf q1];exact c1
 have w2:(upd (upd H1 dw (.dK [])) p (.ins C dx (Zn "weights" (.ref dw) (Zn "comings" (.ref dc) [])))) dw=some (.dK []):=by rw[Zf p2.symm,Zg]
 have s2:∀b o,H b=some o->b≠p->(upd (upd H1 dw (.dK [])) p (.ins C dx (Zn "weights" (.ref dw) (Zn "comings" (.ref dc) [])))) b=some o:=fun b o e n=>by rw[Zf n,Zf (Zp (s1 b o e n) hdw)];exact s1 b o e n
 generalize (upd (upd H1 dw (.dK [])) p (.ins C dx (Zn "weights" (.ref dw) (Zn "comings" (.ref dc) []))))=H2 at g2 c2 w2 s2 ⊢
 intro dd hdd
 have p3:p≠dd:=Zp g2 hdd
 have q2:dc≠dd:=Zp c2 hdd
 have q3:dw≠dd:=Zp w2 hdd
 have z1:(Zn "comings" (V.ref dc) []).length<=0+1:=Zaf "comings" (V.ref dc) []
 have z2:=Zaf "weights" (V.ref dw) (Zn "comings" (V.ref dc) [])
 have z3:=Zaf "deaths" (V.ref dd) (Zn "weights" (V.ref dw) (Zn "comings" (V.ref dc) []))
 refine⟨_,rfl,p,C,dx,_,rfl,(by rw[Zf p3];exact g2),Tc.cl,Tc.nd,(by lia),?_⟩
 have g3:(upd (upd H2 dd (.dK [])) p (.ins C dx (Zn "deaths" (.ref dd) (Zn "weights" (.ref dw) (Zn "comings" (.ref dc) []))))) p=some (.ins C dx (Zn "deaths" (.ref dd) (Zn "weights" (.ref dw) (Zn "comings" (.ref dc) [])))):=Zg
 have c3:(upd (upd H2 dd (.dK [])) p (.ins C dx (Zn "deaths" (.ref dd) (Zn "weights" (.ref dw) (Zn "comings" (.ref dc) []))))) dc=some (.dK []):=by rw[Zf p1.symm,Zf q2];exact c2
 have w3:(upd (upd H2 dd (.dK [])) p (.ins C dx (Zn "deaths" (.ref dd) (Zn "weights" (.ref dw) (Zn "comings" (.ref dc) []))))) dw=some (.dK []):=by rw[Zf p2.symm,Zf q3];exact w2
 have d3:(upd (upd H2 dd (.dK [])) p (.ins C dx (Zn "deaths" (.ref dd) (Zn "weights" (.ref dw) (Zn "comings" (.ref dc) []))))) dd=some (.dK []):=by rw[Zf p3.symm,Zg]
 have s3:∀b o,H b=some o->b≠p->(upd (upd H2 dd (.dK [])) p (.ins C dx (Zn "deaths" (.ref dd) (Zn "weights" (.ref dw) (Zn "comings" (.ref dc) []))))) b=some o:=fun b o e n=>by rw[Zf n,Zf (Zp (s2 b o e n) hdd)];exact s2 b o e n
 generalize (upd (upd H2 dd (.dK [])) p (.ins C dx (Zn "deaths" (.ref dd) (Zn "weights" (.ref dw) (Zn "comings" (.ref dc) [])))))=H3 at g3 c3 w3 d3 s3 ⊢
 intro dh hdh
 have p4:p≠dh:=Zp g3 hdh
 have q4:dc≠dh:=Zp c3 hdh
 have q5:dw≠dh:=Zp w3 hdh
 have q6:dd≠dh:=Zp d3 hdh
 refine⟨_,rfl,p,C,dx,_,rfl,(by rw[Zf p4];exact g3),Tc.cl,Tc.nh,(by lia),?_⟩
 refine k ⟨p,dc,dw,dd,dh⟩ _ rfl ⟨⟨dx,Zg⟩,⟨[],?_,xK _,fun n=>rfl⟩,⟨[],?_,xK _⟩,⟨[],?_,xK _,fun n=>rfl⟩,⟨[],?_,xK _,fun n=>rfl⟩,q1,q2,q4,q3,q5,q6⟩ (fun b o e n=>?_) fun b hb=>?_
 ·show (upd (upd H3 dh _) p _) dc=_
  rw[Zf p1.symm,Zf q4];exact c3
 ·show (upd (upd H3 dh _) p _) dw=_
  rw[Zf p2.symm,Zf q5];exact w3
 ·show (upd (upd H3 dh _) p _) dd=_
  rw[Zf p3.symm,Zf q6];exact d3
 ·show (upd (upd H3 dh _) p _) dh=_
  rw[Zf p4.symm,Zg]
 ·rw[Zf n,Zf (Zp (s3 b o e n) hdh)];exact s3 b o e n
 ·cases eb:H b with
  | none=>rfl
  | some o =>
   rcases hb with z | z | z | z<;>subst z
   ·rw[hdc] at eb;cases eb
   ·have:=s1 _ _ eb p2.symm;rw[hdw] at this;cases this
   ·have:=s2 _ _ eb p3.symm;rw[hdd] at this;cases this
   ·have:=s3 _ _ eb p4.symm;rw[hdh] at this;cases this
inductive spChkCome (C:Addr) (vs:List V) (H:Hp) (Q:VK) (z3:XK):Prop
 | mk (L:FL) (ds:List Deed) (n:Str) (day wt:Int) (h0:vs = [.ref L.p,.str n,.int day,.int wt]) (h1:FolkAt C H L ds) (h2:(∃kvs,H L.dc=some (.dK kvs)/\kvs.length < 40)) (h3:Wd n) (h4 : 0<=day) (h5:day<=9999) (h6 : 1<=wt) (h7:wt<=1000) (h8:Zk ds n=none) (h9:∀H',Same H H'->Q .non H')
abbrev Zfl:Stmt:=Yt (top 36) 14
theorem Zv8(Zbw:HasM K C "check_coming" "Folk.check_coming" Zfl)(T:Txt mg)(Tc:TxC K C)(C0:∃t,mg "MOST_FOLK" = some (.int 40 t))(Zfm:Fn P w K mg base "is_name" ["text"] 1 spIsName)(Wf:Fn P w K mg base "check_day" ["day"] 1 spDay)(Za1:Fn P w K mg base "check_weight" ["weight"] 1 spWt) :
  Mt P w K mg base C "check_coming" ["self", "name", "day", "weight"] 2 (spChkCome C):=by
 obtain⟨t0,c_MOST_FOLK⟩:=C0
 have r_MOST_FOLK:RelV (.int 40) (.int 40 t0):=⟨t0,rfl⟩
 refine Zbw.mq ["self", "name", "day", "weight"] fun H vs Q E hr h=>?_
 obtain⟨L,ds,n,day,wt,rfl,F0,hl,hnm,d0,d1,w0,w1,hc,k⟩:=h
 refine⟨rfl,_,(Zd (Zo (Vk (V5 (Zw Zfm (Za (qvN 1) Zb)))) (Ze Wy) Zq)
 (Zd (Zt (Zw Wf (Za (qvN 2) Zb)))
 (Zd (Zt (Zw Za1 (Za (qvN 3) Zb)))
 (Zd (Zo (Zl (Zar hr) (qvN 1) (Zz (qvN 0)) rfl) (Ze Wy) Zq)
 (Ze (Zo (Zl Uw (Z7 Zhq T.len Yv (Za (Zz (qvN 0)) Zb)) (Yu c_MOST_FOLK r_MOST_FOLK) (Zm _)) (Ze Wy) Zq)))))),?_⟩
 refine⟨_,rfl,n,rfl,by have:=hnm.2.2;lia,fun H1 s1=>⟨_,rfl,?_⟩⟩
 rw[Zn2 hnm]
 refine Z8 ?_
 have F:=F0.keep (Same.n s1)
 obtain⟨dx,ob⟩:=F.ob
 obtain⟨kvs,c1,c2,c3⟩:=F.c
 obtain⟨kv2,c4,c5⟩:=hl
 obtain rfl:kvs=kv2:=by have:=s1 _ _ c4;rw[c1] at this;cases this;rfl
 have g:=DGet.k (k:=Sum.inr n) c1
 rw[c3,hc] at g
 refine⟨_,rfl,day,rfl,d0,d1,?_⟩
 refine⟨_,rfl,wt,rfl,w0,w1,?_⟩
 refine⟨_,rfl,_,rfl,L.p,C,dx,_,_,rfl,ob,Tc.cl,Tc.nc,Up _ _ _ _,L.dc,_,rfl,g,_,rfl,Z8 ?_⟩
 refine⟨_,rfl,L.p,C,dx,_,_,rfl,ob,Tc.cl,Tc.nc,Up _ _ _ _,L.dc,kvs,rfl,c1,_,_,rfl,rfl,_,rfl,Zr (fun z=>absurd z (by lia)) (fun _=>?_)⟩
 exact k H1 s1
end
section
variable{P:Program}{w:World}{K:uFg}{mg:Str->Option Value}{base:Heap}{C:Addr}
def Vc(f:Str->Option (List (Key×V))):Deed->Str->Option (List (Key×V))
 | .come n d w,m=>if m=n then some [(.inl d,.int w)] else f m
 | .rise n d w,m=>if m=n then (f m).map fun l=>Z2 l (.inl d) (.int w) else f m
 | .die _ _ _,m=>f m
def kw(ds:List Deed):Str->Option (List (Key×V)):=ds.foldl Vc fun _=>none
theorem Zau(ds:List Deed)(x:Deed):kw (ds ++ [x])=Vc (kw ds) x:=by
 unfold kw
 rw[List.foldl_append]
 rfl
def We:List Deed->List Str
 | []=>[]
 | .come n _ _::r=>n::We r
 | .rise _ _ _::r=>We r
 | .die _ _ _::r=>We r
theorem Za5(a b:List Deed):We (a++b)=We a++We b:=by
 induction a with
 | nil=>rfl
 | cons x r ih=>cases x<;>simp[We,ih]
theorem Zhs{ds:List Deed}{n:Str}{d w:Int}(x:Str):Zk (ds ++ [.rise n d w]) x=Zk ds x:=by
 rw[Za6,Zk,Zk]
 cases Zk ds x<;>rfl
theorem Zea{ds:List Deed}{n:Str}{d w:Int}(x:Str):Zy (ds ++ [.rise n d w]) x=Zy ds x:=by
 rw[Zb5,Zy,Zy]
 cases Zy ds x<;>rfl
theorem Zp8{l:List (Key×V)}{k:Key}{v:V}{p:Key×V}(h:p∈Z2 l k v):p=(k,v)\/p∈l:=by
 unfold Z2 at h
 split at h
 ·obtain⟨q,hq,e⟩:=List.mem_map.mp h
  split at e
  ·rename_i e2
   rw[← e,e2];exact .inl rfl
  ·rw[← e];exact .inr hq
 ·rcases xM.mp h with z | z
  ·exact .inr z
  ·exact .inl (xP.mp z)
def IsW(kv:Option (List (Key×V)))(day wt:Int):Prop:=∃l m,kv=some l/\Z3 l (.inl m)=some (.int wt)/\m<=day/\∀d v,Z3 l (.inl d)=some v->d<=day->d<=m
theorem Zjc:∀(ds:List Deed)(f:Str->Option (List (Key×V)))(g:Str->Option Int),(∀m,(f m).isSome=(g m).isSome)->∀m,(ds.foldl Vc f m).isSome=((g m).or (Zk ds m)).isSome
 | [],f,g,h,m=>by rw[Zk];show (f m).isSome=_;rw[h m];cases g m<;>rfl
 | x::r,f,g,h,m=>by
  have e:Zk (x::r) m=(Zk [x] m).or (Zk r m):=Za6 [x] r m
  have ih:=Zjc r (Vc f x) (fun m=>(g m).or (Zk [x] m)) (fun m=>?_) m
  ·rw[List.foldl_cons,ih,e]
   cases g m<;>rfl
  ·cases x with
   | come n d w =>
    rw[Vc,Zk,Zk]
    by_cases z:m=n
    ·rw[if_pos z,if_pos z.symm];cases g m<;>rfl
    ·rw[if_neg z,if_neg (Ne.symm z),h m];cases g m<;>rfl
   | rise n d w =>
    rw[Vc,Zk,Zk]
    have hm:=h m
    by_cases z:m=n
    ·rw[if_pos z];cases e1:f m<;>cases e2:g m<;>rw[e1,e2] at hm<;>first | rfl | cases hm
    ·rw[if_neg z];cases e1:f m<;>cases e2:g m<;>rw[e1,e2] at hm<;>first | rfl | cases hm
   | die n d w=>rw[Vc,Zk,Zk,h m];cases g m<;>rfl
theorem Zj0(ds:List Deed)(n:Str):(kw ds n).isSome=(Zk ds n).isSome:=by
 have:=Zjc ds (fun _=>none) (fun _=>none) (fun _=>rfl) n
 exact this
structure WtsAt (H:Hp) (L:FL) (ds:List Deed) (wa:Str->Addr):Prop where
 w:∃kvs:List (Key×V),H L.dw=some (.dK kvs)/\kvs.length<=ds.length/\∀n l,kw ds n=some l->Z3 kvs (.inr n)=some (.ref (wa n))/\H (wa n)=some (.dK l)/\l.length<=ds.length
 ord:∃kvs:List (Key×V),H L.dc=some (.dK kvs)/\(kvs.map fun p=>kV p.1)=(We ds).map V.str
 ap:∀n l,kw ds n=some l->wa n≠L.dc/\wa n≠L.dw/\wa n≠L.dd/\wa n≠L.dh
 inj:∀n m l l',kw ds n=some l->kw ds m=some l'->wa n=wa m->n=m
theorem WtsAt.keep{H H':Hp}{L:FL}{ds:List Deed}{wa:Str->Addr}(h:WtsAt H L ds wa)(k:Zfe H H'):WtsAt H' L ds wa:=by
 obtain⟨⟨k1,w1,w2,w3⟩,⟨k2,o1,o2⟩,ap,inj⟩:=h
 exact⟨⟨k1,k _ _ (fun _ z=>nomatch z) w1,w2,fun n l e=>let ⟨a,b,c⟩:=w3 n l e;⟨a,k _ _ (fun _ z=>nomatch z) b,c⟩⟩,⟨k2,k _ _ (fun _ z=>nomatch z) o1,o2⟩,ap,inj⟩
theorem WtsAt.start{H:Hp}{L:FL}{wa:Str->Addr}(h:FolkAt C H L []):WtsAt H L [] wa:=by
 obtain⟨k,w1,w2⟩:=h.w
 obtain⟨k2,c1,c2,_⟩:=h.c
 exact⟨⟨k,w1,w2,(fun n l e=>by cases e)⟩,⟨k2,c1,by rw[List.eq_nil_of_length_eq_zero (Nat.le_zero.mp c2)];rfl⟩,(fun n l e=>by cases e),(fun n m l l' e=>by cases e)⟩
def Zyt(H:Hp)(L:FL)(ds:List Deed)(wa:Str->Addr):Prop:=∃kvs:List (Key×V),H L.dw=some (.dK kvs)/\∀p∈kvs,∃n l,kw ds n=some l/\p=(Sum.inr n,V.ref (wa n))
def own(L:FL)(ds:List Deed)(wa:Str->Addr)(b:Addr):Prop:=b=L.p\/b=L.dc\/b=L.dw\/b=L.dd\/b=L.dh\/∃n l,kw ds n=some l/\b=wa n
structure Fk (C:Addr) (H:Hp) (L:FL) (ds:List Deed) (wa:Str->Addr):Prop where
 f:FolkAt C H L ds
 w:WtsAt H L ds wa
 all:Zyt H L ds wa
def Touch(L:FL)(ds:List Deed)(wa:Str->Addr)(H H':Hp):Prop:=∀b o,H b=some o->¬own L ds wa b->H' b=some o
def Zcn(L:FL)(ds:List Deed)(wa:Str->Addr)(ds':List Deed)(wa':Str->Addr)(H:Hp):Prop:=∀b,own L ds' wa' b->own L ds wa b\/H b=none
theorem Fk.at{H H':Hp}{L:FL}{ds:List Deed}{wa:Str->Addr}(h:Fk C H L ds wa)(k:∀b o,own L ds wa b->H b=some o->H' b=some o):Fk C H' L ds wa:=by
 obtain⟨⟨⟨dx,ob⟩,⟨k1,c1,c2⟩,⟨k2,w1,w2⟩,⟨k3,d1,d2⟩,⟨k4,h1,h2⟩,a1,a2,a3,a4,a5,a6⟩,⟨⟨k5,x1,x2,x3⟩,⟨k6,o1,o2⟩,ap,inj⟩,⟨k7,y1,y2⟩⟩:=h
 have kp:=k L.p _ (.inl rfl) ob
 have kc:=fun o=>k L.dc o (.inr (.inl rfl))
 have kw':=fun o=>k L.dw o (.inr (.inr (.inl rfl)))
 exact⟨⟨⟨dx,kp⟩,⟨k1,kc _ c1,c2⟩,⟨k2,kw' _ w1,w2⟩,⟨k3,k L.dd _ (.inr (.inr (.inr (.inl rfl)))) d1,d2⟩,⟨k4,k L.dh _ (.inr (.inr (.inr (.inr (.inl rfl))))) h1,h2⟩,a1,a2,a3,a4,a5,a6⟩,
  ⟨⟨k5,kw' _ x1,x2,fun n l e=>let ⟨a,b,c⟩:=x3 n l e;⟨a,k _ _ (.inr (.inr (.inr (.inr (.inr ⟨n,l,e,rfl⟩))))) b,c⟩⟩,⟨k6,kc _ o1,o2⟩,ap,inj⟩,⟨k7,kw' _ y1,y2⟩⟩
theorem Fk.there{H:Hp}{L:FL}{ds:List Deed}{wa:Str->Addr}(h:Fk C H L ds wa){b:Addr}(hb:own L ds wa b):∃o,H b=some o/\(∀xs,o ≠ .lst xs)/\∀xs,o ≠ .tup xs:=by
 obtain⟨⟨⟨dx,ob⟩,⟨k1,c1,c2⟩,⟨k2,w1,w2⟩,⟨k3,d1,d2⟩,⟨k4,h1,h2⟩,_⟩,⟨⟨k5,x1,x2,x3⟩,_⟩,_⟩:=h
 rcases hb with rfl | rfl | rfl | rfl | rfl | ⟨n,l,e,rfl⟩
 ·exact⟨_,ob,(fun _ z=>nomatch z),(fun _ z=>nomatch z)⟩
 ·exact⟨_,c1,(fun _ z=>nomatch z),(fun _ z=>nomatch z)⟩
 ·exact⟨_,w1,(fun _ z=>nomatch z),(fun _ z=>nomatch z)⟩
 ·exact⟨_,d1,(fun _ z=>nomatch z),(fun _ z=>nomatch z)⟩
 ·exact⟨_,h1,(fun _ z=>nomatch z),(fun _ z=>nomatch z)⟩
 ·exact⟨_,(x3 n l e).2.1,(fun _ z=>nomatch z),(fun _ z=>nomatch z)⟩
theorem Touch.lt{H H':Hp}{L:FL}{ds:List Deed}{wa:Str->Addr}(h:Fk C H L ds wa)(k:Touch L ds wa H H'):SameLT H H' :=
 ⟨fun b xs e=>k b _ e fun hb=>by obtain⟨o',e',n1,_⟩:=h.there hb;rw[e] at e';cases e';exact n1 xs rfl,fun b xs e=>k b _ e fun hb=>by obtain⟨o',e',_,n2⟩:=h.there hb;rw[e] at e';cases e';exact n2 xs rfl⟩
theorem Fk.cnt{H:Hp}{L:FL}{ds:List Deed}{wa:Str->Addr}(h:Fk C H L ds wa):∃kvs,H L.dc=some (.dK kvs)/\kvs.length=(We ds).length:=by
 obtain⟨kvs,a,b⟩:=h.w.ord
 exact⟨kvs,a,by have:=congrArg List.length b;rwa [xA,xA] at this⟩
inductive spComeW (C:Addr) (vs:List V) (H:Hp) (Q:VK) (z3:XK):Prop
 | mk (L:FL) (ds:List Deed) (wa:Str->Addr) (n:Str) (day wt:Int) (h0:vs = [.ref L.p,.str n,.int day,.int wt]) (h1:Fk C H L ds wa) (h2:(We ds).length < 40) (h3:ds.length<=1000) (h4:Wd n) (h5 : 0<=day) (h6:day<=9999) (h7 : 1<=wt) (h8:wt<=1000) (h9:Zk ds n=none) (h10:∀(wa':Str->Addr)(H':Hp),Fk C H' L (ds ++ [.come n day wt]) wa'->Touch L ds wa H H'->Zcn L ds wa (ds ++ [.come n day wt]) wa' H->Q .non H')
abbrev Zku:Stmt:=Yt (top 36) 1
theorem Zv9(Zfn:HasM K C "come" "Folk.come" Zku)(Tc:TxC K C)(M_check_coming:Mt P w K mg base C "check_coming" ["self", "name", "day", "weight"] 2 (spChkCome C)) :
  Mt P w K mg base C "come" ["self", "name", "day", "weight"] 3 (spComeW C):=by
 refine Zfn.mq ["self", "name", "day", "weight"] fun H vs Q E hr h=>?_
 obtain⟨L,ds,wa,n,day,wt,rfl,K0,hcm,hl,hnm,d0,d1,w0,w1,hc,k⟩:=h
 refine⟨rfl,_,(Zd (Zt (Wi (qvN 0) Tc.cl M_check_coming (Za (qvN 1) (Za (qvN 2) (Za (qvN 3) Zb)))))
 (Zd (Zbb hr (Zz (qvN 0)) (qvN 1) (qvN 2))
 (Ze (Zbb hr (Zz (qvN 0)) (qvN 1) (Zp0 (qvN 2) (qvN 3)))))),?_⟩
 have F0:=K0.f
 have W0:=K0.w
 have hz:(5000:Nat)<=sizeLine:=by decide
 obtain⟨dx0,ob0⟩:=F0.ob
 refine⟨_,rfl,L.p,dx0,_,rfl,ob0,Yi _ _ _ _ (by decide +kernel),_,rfl,_,rfl,_,rfl,L,ds,n,day,wt,rfl,F0,(let ⟨kvs,a,b⟩:=K0.cnt;⟨kvs,a,by lia⟩),hnm,d0,d1,w0,w1,hc,fun H1 s1=>?_⟩
 have F:=F0.keep (Same.n s1)
 have W:=W0.keep (Same.n s1)
 obtain⟨k9,y8,y9⟩:=K0.all
 have y7:=s1 _ _ y8
 have hkn:kw ds n=none:=by
  have:=Zj0 ds n
  rw[hc] at this
  cases e:kw ds n with
  | none=>rfl
  | some l=>rw[e] at this;cases this
 obtain⟨⟨dx,ob⟩,⟨k1,c1,c2,c3⟩,_,⟨k3,e1,e2,e3⟩,⟨k4,h1,h2,h3⟩,a1,a2,a3,a4,a5,a6⟩:=F
 obtain⟨⟨k2,w2,w3,w4⟩,⟨k1',o1,o2⟩,wap,winj⟩:=W
 rw[c1] at o1
 cases o1
 have np:L.p≠L.dc:=fun z=>by rw[z,c1] at ob;cases ob
 have np2:L.p≠L.dw:=fun z=>by rw[z,w2] at ob;cases ob
 refine⟨_,rfl,_,rfl,L.p,C,dx,_,_,rfl,ob,Tc.cl,Tc.nc,Up _ _ _ _,_,rfl,L.dc,_,rfl,DPut.k (k:=Sum.inr n) c1 (by lia),?_⟩
 have T1:=SameLT.updD (kvs':=Z2 k1 (Sum.inr n) (.int day)) c1
 have g0:∀b o,b≠L.dc->H1 b=some o->(upd H1 L.dc (.dK (Z2 k1 (Sum.inr n) (.int day)))) b=some o:=fun b o nb e=>by rw[Zf nb];exact e
 have g2:(upd H1 L.dc (.dK (Z2 k1 (Sum.inr n) (.int day)))) L.dc=some (.dK (Z2 k1 (Sum.inr n) (.int day))):=Zg
 generalize (upd H1 L.dc (.dK (Z2 k1 (Sum.inr n) (.int day))))=H2 at T1 g0 g2 ⊢
 have g1:=g0 _ _ np ob
 have g3:=g0 _ _ a1.symm w2
 have g4:=g0 _ _ a2.symm e1
 have g5:=g0 _ _ a3.symm h1
 intro q hq
 refine⟨_,rfl,_,rfl,Zg,[(Sum.inl day,.int wt)],rfl,by show 1<=15;decide,?_⟩
 have S3:Same H2 (upd (upd H2 q (.dK [])) q (.dK (Ws [] [(Sum.inl day,.int wt)]))):=fun b o e=>by rw[Zf (Zp e hq),Zf (Zp e hq)];exact e
 have kq:(upd (upd H2 q (.dK [])) q (.dK (Ws [] [(Sum.inl day,.int wt)]))) q=some (.dK [(Sum.inl day,.int wt)]):=Zg
 generalize (upd (upd H2 q (.dK [])) q (.dK (Ws [] [(Sum.inl day,.int wt)])))=H3 at S3 kq ⊢
 refine⟨_,rfl,L.p,C,dx,_,_,rfl,S3 _ _ g1,Tc.cl,Tc.nw,Zme _ _ _ _,_,rfl,L.dw,_,rfl,DPut.k (k:=Sum.inr n) (S3 _ _ g3) (by lia),?_⟩
 have T4:=SameLT.updD (kvs':=Z2 k2 (Sum.inr n) (.ref q)) (S3 _ _ g3)
 have ll:=Um k1 (Sum.inr n:Key) (V.int day)
 have ll2:=Um k2 (Sum.inr n:Key) (V.ref q)
 have lapp:(ds ++ [Deed.come n day wt]).length=ds.length+1:=by rw[xC];rfl
 have q1:q≠L.dc:=fun z=>by rw[z,g2] at hq;cases hq
 have q2:q≠L.dw:=fun z=>by rw[z,g3] at hq;cases hq
 have q3:q≠L.dd:=fun z=>by rw[z,g4] at hq;cases hq
 have q4:q≠L.dh:=fun z=>by rw[z,g5] at hq;cases hq
 have old:∀m l,kw ds m=some l->H3 (wa m)=some (.dK l)/\wa m≠q:=fun m l e=>by
  have hh:=g0 _ _ (wap m l e).1 (w4 m l e).2.1
  exact⟨S3 _ _ hh,Zp hh hq⟩
 have hkw:∀m l,kw (ds ++ [.come n day wt]) m=some l->(m=n/\l = [(Sum.inl day,.int wt)])\/(m≠n/\kw ds m=some l):=fun m l e=>by
  rw[Zau,Vc] at e
  split at e
  ·rename_i z;cases e;exact .inl ⟨z,rfl⟩
  ·rename_i z;exact .inr ⟨z,e⟩
 refine k (fun m=>if m=n then q else wa m) _ ⟨⟨⟨dx,by rw[Zf np2];exact S3 _ _ g1⟩,⟨_,by rw[Zf a1];exact S3 _ _ g2,by lia,fun x=>?_⟩,⟨_,Zg,by lia⟩,⟨k3,by rw[Zf a4.symm];exact S3 _ _ g4,by lia,fun x=>?_⟩,⟨k4,by rw[Zf a5.symm];exact S3 _ _ g5,by lia,fun x=>?_⟩,a1,a2,a3,a4,a5,a6⟩,
  ⟨⟨_,Zg,by lia,fun m l e=>?_⟩,⟨_,by rw[Zf a1];exact S3 _ _ g2,?_⟩,fun m l e=>?_,fun m m' l l' e e' z=>?_⟩,⟨_,Zg,fun p hp=>?_⟩⟩ (fun b o e hn=>?_) (fun b hb=>?_)
 ·rw[Za7,Zn3 hc]
  by_cases e:x=n
  ·subst e;rw[if_pos rfl,if_pos rfl];rfl
  ·rw[if_neg (fun z=>e (Sum.inr.inj z)),if_neg e];exact c3 x
 ·rw[Zd9];exact e3 x
 ·rw[Zd9];exact h3 x
 ·(try dsimp only)
  rcases hkw m l e with⟨rfl,rfl⟩ | ⟨hm,e'⟩
  ·rw[if_pos rfl]
   exact⟨by rw[Za7,if_pos rfl],by rw[Zf q2];exact kq,by rw[lapp];show 1<=_;lia⟩
  ·rw[if_neg hm]
   obtain⟨y1,y2,y3⟩:=w4 m l e'
   exact⟨by rw[Za7,if_neg (fun z=>hm (Sum.inr.inj z))];exact y1,by rw[Zf (wap m l e').2.1];exact(old m l e').1,by lia⟩
 ·have hv:Z3 k1 (Sum.inr n:Key)=none:=by rw[c3,hc];rfl
  rw[Zpj _ hv,yE,Za5,yE,o2]
  rfl
 ·(try dsimp only)
  rcases hkw m l e with⟨rfl,rfl⟩ | ⟨hm,e'⟩
  ·rw[if_pos rfl];exact⟨q1,q2,q3,q4⟩
  ·rw[if_neg hm];exact wap m l e'
 ·(try dsimp only at z)
  rcases hkw m l e with⟨rfl,rfl⟩ | ⟨hm,y⟩
  ·rcases hkw m' l' e' with⟨rfl,rfl⟩ | ⟨hm',y'⟩
   ·rfl
   ·rw[if_pos rfl,if_neg hm'] at z
    exact absurd z.symm (old m' l' y').2
  ·rcases hkw m' l' e' with⟨rfl,rfl⟩ | ⟨hm',y'⟩
   ·rw[if_neg hm,if_pos rfl] at z
    exact absurd z (old m l y).2
   ·rw[if_neg hm,if_neg hm'] at z
    exact winj m m' l l' y y' z
 ·rw[w2] at y7
  cases y7
  rcases Zp8 hp with rfl | hp
  ·exact⟨n,[(Sum.inl day,.int wt)],by rw[Zau,Vc,if_pos rfl],by (try dsimp only);rw[if_pos rfl]⟩
  ·obtain⟨m,l,e,rfl⟩:=y9 p hp
   have hm:m≠n:=fun z=>by rw[z,hkn] at e;cases e
   exact⟨m,l,by rw[Zau,Vc,if_neg hm];exact e,by (try dsimp only);rw[if_neg hm]⟩
 ·rw[Zf (fun z=>hn (.inr (.inr (.inl z))))]
  exact S3 _ _ (g0 b o (fun z=>hn (.inr (.inl z))) (s1 _ _ e))
 ·rcases hb with z | z | z | z | z | ⟨m,l,e,z⟩
  ·exact .inl (.inl z)
  ·exact .inl (.inr (.inl z))
  ·exact .inl (.inr (.inr (.inl z)))
  ·exact .inl (.inr (.inr (.inr (.inl z))))
  ·exact .inl (.inr (.inr (.inr (.inr (.inl z)))))
  ·(try dsimp only at z)
   rcases hkw m l e with⟨rfl,rfl⟩ | ⟨hm,y⟩
   ·rw[if_pos rfl] at z
    refine .inr ?_
    cases eq:H b with
    | none=>rfl
    | some o =>
     have:=g0 _ _ (by rw[z];exact q1) (s1 _ _ eq)
     rw[z,hq] at this
     cases this
   ·rw[if_neg hm] at z
    exact .inl (.inr (.inr (.inr (.inr (.inr ⟨m,l,y,z⟩)))))
end
section
variable{P:Program}{w:World}{K:uFg}{mg:Str->Option Value}{base:Heap}{C:Addr}
inductive spLiving (C:Addr) (vs:List V) (H:Hp) (Q:VK) (z3:XK):Prop
 | mk (L:FL) (ds:List Deed) (n:Str) (day:Int) (h0:vs = [.ref L.p,.str n,.int day]) (h1:FolkAt C H L ds) (h2:Va ds n day=false) (h3:Q .non H)
abbrev Zfo:Stmt:=Yt (top 36) 19
theorem Zwa(Zbx:HasM K C "check_living" "Folk.check_living" Zfo)(Tc:TxC K C)(M_died_by:Mt P w K mg base C "died_by" ["self", "name", "day"] 1 (spDiedBy C)):Mt P w K mg base C "check_living" ["self", "name", "day"] 2 (spLiving C):=by
 refine Zbx.mq ["self", "name", "day"] fun H vs Q E hr h=>?_
 obtain⟨L,ds,n,day,rfl,F,hd,k⟩:=h
 refine⟨rfl,_,(Ze (Zo (V5 (Wi (qvN 0) Tc.cl M_died_by (Za (qvN 1) (Za (qvN 2) Zb)))) (Ze Wy) Zq)),?_⟩
 obtain⟨dx,ob⟩:=F.ob
 refine⟨_,rfl,L.p,dx,_,rfl,ob,Yi _ _ _ _ (by decide +kernel),_,rfl,_,rfl,L,ds,n,day,rfl,F,_,rfl,?_⟩
 rw[hd]
 exact Z8 k
inductive spWeigh (C:Addr) (vs:List V) (H:Hp) (Q:VK) (z3:XK):Prop
 | mk (L:FL) (ds:List Deed) (wa:Str->Addr) (n:Str) (day d0 wt:Int) (h0:vs = [.ref L.p,.str n,.int day]) (h1:FolkAt C H L ds) (h2:WtsAt H L ds wa) (h3:ds.length<=1000) (h4 : 0<=day) (h5:day<=9999) (h6:Zk ds n=some d0) (h7:d0<=day) (h8:IsW (kw ds n) day wt) (h9:∀H',Same H H'->Q (.int wt) H')
end
section
variable{P:Program}{w:World}{K:uFg}{mg:Str->Option Value}{base:Heap}{C:Addr}
inductive spChkRise (C:Addr) (vs:List V) (H:Hp) (Q:VK) (z3:XK):Prop
 | mk (L:FL) (ds:List Deed) (n:Str) (day wt d0:Int) (h0:vs = [.ref L.p,.str n,.int day,.int wt]) (h1:FolkAt C H L ds) (h2 : 0<=day) (h3:day<=9999) (h4 : 1<=wt) (h5:wt<=1000) (h6:Zk ds n=some d0) (h7:d0<=day) (h8:Va ds n day=false) (h9:Q .non H)
abbrev Zfp:Stmt:=Yt (top 36) 15
theorem Zwb(Zby:HasM K C "check_rise" "Folk.check_rise" Zfp)(Tc:TxC K C)(Wf:Fn P w K mg base "check_day" ["day"] 1 spDay)(Za1:Fn P w K mg base "check_weight" ["weight"] 1 spWt)(M_check_known:Mt P w K mg base C "check_known" ["self", "name"] 1 (spKnown C))(M_check_there:Mt P w K mg base C "check_there" ["self", "name", "day"] 1 (spThere C))(M_check_living:Mt P w K mg base C "check_living" ["self", "name", "day"] 2 (spLiving C)):Mt P w K mg base C "check_rise" ["self", "name", "day", "weight"] 3 (spChkRise C):=by
 refine Zby.mq ["self", "name", "day", "weight"] fun H vs Q E hr h=>?_
 obtain⟨L,ds,n,day,wt,e0,rfl,F,d0,d1,w0,w1,hc,hd,hv,k⟩:=h
 refine⟨rfl,_,(Zd (Zt (Zw Wf (Za (qvN 2) Zb)))
 (Zd (Zt (Zw Za1 (Za (qvN 3) Zb)))
 (Zd (Zt (Wi (qvN 0) Tc.cl M_check_known (Za (qvN 1) Zb)))
 (Zd (Zt (Wi (qvN 0) Tc.cl M_check_there (Za (qvN 1) (Za (qvN 2) Zb))))
 (Ze (Zt (Wi (qvN 0) Tc.cl M_check_living (Za (qvN 1) (Za (qvN 2) Zb))))))))),?_⟩
 obtain⟨dx,ob⟩:=F.ob
 refine⟨_,rfl,day,rfl,d0,d1,?_⟩
 refine⟨_,rfl,wt,rfl,w0,w1,?_⟩
 refine⟨_,rfl,L.p,dx,_,rfl,ob,Yi _ _ _ _ (by decide +kernel),_,rfl,L,ds,n,e0,rfl,F,hc,?_⟩
 refine⟨_,rfl,L.p,dx,_,rfl,ob,Yi _ _ _ _ (by decide +kernel),_,rfl,_,rfl,L,ds,n,e0,day,rfl,F,hc,hd,?_⟩
 exact⟨_,rfl,L.p,dx,_,rfl,ob,Yi _ _ _ _ (by decide +kernel),_,rfl,_,rfl,L,ds,n,day,rfl,F,hv,k⟩
inductive spRise (C:Addr) (vs:List V) (H:Hp) (Q:VK) (z3:XK):Prop
 | mk (L:FL) (ds:List Deed) (wa:Str->Addr) (n:Str) (day wt d0:Int) (h0:vs = [.ref L.p,.str n,.int day,.int wt]) (h1:Fk C H L ds wa) (h2:ds.length<=1000) (h3 : 0<=day) (h4:day<=9999) (h5 : 1<=wt) (h6:wt<=1000) (h7:Zk ds n=some d0) (h8:d0<=day) (h9:Va ds n day=false) (h10:∀H',Fk C H' L (ds ++ [.rise n day wt]) wa->Touch L ds wa H H'->Zcn L ds wa (ds ++ [.rise n day wt]) wa H->Q .non H')
abbrev Zkv:Stmt:=Yt (top 36) 2
theorem Zwc(Zfq:HasM K C "rise" "Folk.rise" Zkv)(Tc:TxC K C)(M_check_rise:Mt P w K mg base C "check_rise" ["self", "name", "day", "weight"] 3 (spChkRise C)):Mt P w K mg base C "rise" ["self", "name", "day", "weight"] 4 (spRise C):=by
 refine Zfq.mq ["self", "name", "day", "weight"] fun H vs Q E hr h=>?_
 obtain⟨L,ds,wa,n,day,wt,e0,rfl,K0,hl,d0,d1,w0,w1,hc,hd,hv,k⟩:=h
 refine⟨rfl,_,(Zd (Zt (Wi (qvN 0) Tc.cl M_check_rise (Za (qvN 1) (Za (qvN 2) (Za (qvN 3) Zb)))))
 (Ze (Zbb hr (Zcb hr (Zz (qvN 0)) (qvN 1) (fun _ _=>rfl)) (qvN 2) (qvN 3)))),?_⟩
 have F:=K0.f
 have W:=K0.w
 obtain⟨k9,y8,y9⟩:=K0.all
 have hz:(5000:Nat)<=sizeLine:=by decide
 obtain⟨dx0,ob0⟩:=F.ob
 refine⟨_,rfl,L.p,dx0,_,rfl,ob0,Yi _ _ _ _ (by decide +kernel),_,rfl,_,rfl,_,rfl,L,ds,n,day,wt,e0,rfl,F,d0,d1,w0,w1,hc,hd,hv,?_⟩
 obtain⟨l,hkl⟩:∃l,kw ds n=some l:=by
  have:=Zj0 ds n
  rw[hc] at this
  cases e:kw ds n with
  | none=>rw[e] at this;cases this
  | some l=>exact⟨l,rfl⟩
 obtain⟨⟨dx,ob⟩,⟨k1,c1,c2,c3⟩,_,⟨k3,e1,e2,e3⟩,⟨k4,h1,h2,h3⟩,a1,a2,a3,a4,a5,a6⟩:=F
 obtain⟨⟨k2,w2,w3,w4⟩,⟨k1',o1,o2⟩,wap,winj⟩:=W
 rw[c1] at o1
 cases o1
 obtain⟨y1,y2,y3⟩:=w4 n l hkl
 obtain⟨z1,z2,z3,z4⟩:=wap n l hkl
 have zp:L.p≠wa n:=fun z=>by rw[z,y2] at ob;cases ob
 have g:=DGet.k (k:=Sum.inr n) w2
 rw[y1] at g
 refine⟨_,rfl,_,rfl,L.p,C,dx,_,_,rfl,ob,Tc.cl,Tc.nw,Zme _ _ _ _,_,rfl,L.dw,.ref (wa n),rfl,g,_,rfl,wa n,_,rfl,DPut.k (k:=Sum.inl day) y2 (by lia),?_⟩
 have T1:=SameLT.updD (kvs':=Z2 l (Sum.inl day) (.int wt)) y2
 have ll:=Um l (Sum.inl day:Key) (V.int wt)
 have lapp:(ds ++ [Deed.rise n day wt]).length=ds.length+1:=by rw[xC];rfl
 have hkw:∀m l',kw (ds ++ [.rise n day wt]) m=some l'->(m=n/\l'=Z2 l (Sum.inl day) (.int wt))\/(m≠n/\kw ds m=some l'):=fun m l' e=>by
  rw[Zau,Vc] at e
  split at e
  ·rename_i z
   subst z
   rw[hkl] at e
   cases e
   exact .inl ⟨rfl,rfl⟩
  ·rename_i z;exact .inr ⟨z,e⟩
 have old:∀m l',kw (ds ++ [.rise n day wt]) m=some l'->∃l'',kw ds m=some l'':=fun m l' e=>by
  rcases hkw m l' e with⟨rfl,_⟩ | ⟨_,y⟩
  ·exact⟨l,hkl⟩
  ·exact⟨l',y⟩
 refine k _ ⟨⟨⟨dx,by rw[Zf zp];exact ob⟩,⟨k1,by rw[Zf z1.symm];exact c1,by lia,fun x=>by rw[Zhs];exact c3 x⟩,⟨k2,by rw[Zf z2.symm];exact w2,by lia⟩,⟨k3,by rw[Zf z3.symm];exact e1,by lia,fun x=>by rw[Zea];exact e3 x⟩,⟨k4,by rw[Zf z4.symm];exact h1,by lia,fun x=>by rw[Zea];exact h3 x⟩,a1,a2,a3,a4,a5,a6⟩,
  ⟨⟨k2,by rw[Zf z2.symm];exact w2,by lia,fun m l' e=>?_⟩,⟨k1,by rw[Zf z1.symm];exact c1,?_⟩,fun m l' e=>?_,fun m m' l1 l2 e e' z=>?_⟩,⟨k9,by rw[Zf z2.symm];exact y8,fun p hp=>?_⟩⟩ (fun b o e hn=>?_) (fun b hb=>?_)
 ·rcases hkw m l' e with⟨rfl,rfl⟩ | ⟨hm,y⟩
  ·exact⟨y1,Zg,by lia⟩
  ·obtain⟨x1,x2,x3⟩:=w4 m l' y
   exact⟨x1,by rw[Zf (fun z=>hm (winj m n l' l y hkl z))];exact x2,by lia⟩
 ·rw[Za5,o2]
  show _=((We ds)++[]).map V.str
  rw[xR]
 ·obtain⟨l'',y⟩:=old m l' e
  exact wap m l'' y
 ·obtain⟨x1,y⟩:=old m l1 e
  obtain⟨x2,y'⟩:=old m' l2 e'
  exact winj m m' x1 x2 y y' z
 ·obtain⟨m,l',e,rfl⟩:=y9 p hp
  by_cases hm:m=n
  ·subst hm
   exact⟨m,Z2 l (Sum.inl day) (.int wt),by rw[Zau,Vc,if_pos rfl,hkl];rfl,rfl⟩
  ·exact⟨m,l',by rw[Zau,Vc,if_neg hm];exact e,rfl⟩
 ·rw[Zf (fun z=>hn (.inr (.inr (.inr (.inr (.inr ⟨n,l,hkl,z⟩))))))]
  exact e
 ·rcases hb with z | z | z | z | z | ⟨m,l',e,z⟩
  ·exact .inl (.inl z)
  ·exact .inl (.inr (.inl z))
  ·exact .inl (.inr (.inr (.inl z)))
  ·exact .inl (.inr (.inr (.inr (.inl z))))
  ·exact .inl (.inr (.inr (.inr (.inr (.inl z)))))
  ·obtain⟨l'',y⟩:=old m l' e
   exact .inl (.inr (.inr (.inr (.inr (.inr ⟨m,l'',y,z⟩)))))
inductive spUntold (C:Addr) (vs:List V) (H:Hp) (Q:VK) (z3:XK):Prop
 | mk (L:FL) (ds:List Deed) (n:Str) (h0:vs = [.ref L.p,.str n]) (h1:FolkAt C H L ds) (h2:Zy ds n=none) (h3:Q .non H)
abbrev Zfr:Stmt:=Yt (top 36) 20
theorem Zwd(Zbz:HasM K C "check_untold" "Folk.check_untold" Zfr)(Tc:TxC K C):Mt P w K mg base C "check_untold" ["self", "name"] 1 (spUntold C):=by
 refine Zbz.mq ["self", "name"] fun H vs Q E hr h=>?_
 obtain⟨L,ds,n,rfl,F,c5,k⟩:=h
 refine⟨rfl,_,(Ze (Zo (Zl (Zar hr) (qvN 1) (Zz (qvN 0)) rfl) (Ze Wy) Zq)),?_⟩
 obtain⟨dx,ob⟩:=F.ob
 obtain⟨kvs,e1,e2,e3⟩:=F.d
 have g:=DGet.k (k:=Sum.inr n) e1
 rw[e3,c5] at g
 exact⟨_,rfl,_,rfl,L.p,C,dx,_,_,rfl,ob,Tc.cl,Tc.nd,Za0 _ _ _ _,L.dd,_,rfl,g,_,rfl,Z8 k⟩
inductive spChkDie (C:Addr) (vs:List V) (H:Hp) (Q:VK) (z3:XK):Prop
 | mk (L:FL) (ds:List Deed) (n hr:Str) (day dn dr:Int) (h0:vs = [.ref L.p,.str n,.int day,.str hr]) (h1:FolkAt C H L ds) (h2 : 0<=day) (h3:day<=9999) (h4:Zk ds n=some dn) (h5:dn<=day) (h6:Zk ds hr=some dr) (h7:dr<=day) (h8:Zy ds n=none) (h9:Zy ds hr=none) (h10:hr≠n) (h11:Q .non H)
abbrev Zfs:Stmt:=Yt (top 36) 16
theorem Zwe(Zb0:HasM K C "check_death" "Folk.check_death" Zfs)(Tc:TxC K C)(Wf:Fn P w K mg base "check_day" ["day"] 1 spDay)(M_check_known:Mt P w K mg base C "check_known" ["self", "name"] 1 (spKnown C))(M_check_there:Mt P w K mg base C "check_there" ["self", "name", "day"] 1 (spThere C))(M_check_untold:Mt P w K mg base C "check_untold" ["self", "name"] 1 (spUntold C)) :
  Mt P w K mg base C "check_death" ["self", "name", "day", "heir"] 2 (spChkDie C):=by
 refine Zb0.mq ["self", "name", "day", "heir"] fun H vs Q E hr h=>?_
 obtain⟨L,ds,n,he,day,dn,dr,rfl,F,d0,d1,c1,c2,c3,c4,c5,c6,c7,k⟩:=h
 refine⟨rfl,_,(Zd (Zt (Zw Wf (Za (qvN 2) Zb)))
 (Zd (Zt (Wi (qvN 0) Tc.cl M_check_known (Za (qvN 1) Zb)))
 (Zd (Zt (Wi (qvN 0) Tc.cl M_check_known (Za (qvN 3) Zb)))
 (Zd (Zt (Wi (qvN 0) Tc.cl M_check_there (Za (qvN 1) (Za (qvN 2) Zb))))
 (Zd (Zt (Wi (qvN 0) Tc.cl M_check_there (Za (qvN 3) (Za (qvN 2) Zb))))
 (Zd (Zt (Wi (qvN 0) Tc.cl M_check_untold (Za (qvN 1) Zb)))
 (Ze (Zo (QW.pt (Zbn (Zl Z4 (qvN 3) (qvN 1) (Zm _)) (Zbe (Zl (Zar hr) (qvN 3) (Zz (qvN 0)) rfl)))) (Ze Wy) Zq)))))))),?_⟩
 obtain⟨dx,ob⟩:=F.ob
 obtain⟨kvs,e1,e2,e3⟩:=F.d
 have g:=DGet.k (k:=Sum.inr n) e1
 rw[e3,c5] at g
 have g':=DGet.k (k:=Sum.inr he) e1
 rw[e3,c6] at g'
 have no:∀{m:Str},Zd0 m->(Vb L.dc L.dw L.dd L.dh).lookup m=none:=fun h=>Yi _ _ _ _ h
 refine⟨_,rfl,day,rfl,d0,d1,?_⟩
 refine⟨_,rfl,L.p,dx,_,rfl,ob,no (by decide +kernel),_,rfl,L,ds,n,dn,rfl,F,c1,?_⟩
 refine⟨_,rfl,L.p,dx,_,rfl,ob,no (by decide +kernel),_,rfl,L,ds,he,dr,rfl,F,c3,?_⟩
 refine⟨_,rfl,L.p,dx,_,rfl,ob,no (by decide +kernel),_,rfl,_,rfl,L,ds,n,dn,day,rfl,F,c1,c2,?_⟩
 refine⟨_,rfl,L.p,dx,_,rfl,ob,no (by decide +kernel),_,rfl,_,rfl,L,ds,he,dr,day,rfl,F,c3,c4,?_⟩
 refine⟨_,rfl,L.p,dx,_,rfl,ob,no (by decide +kernel),_,rfl,L,ds,n,rfl,F,c5,?_⟩
 refine⟨_,rfl,_,rfl,rfl,_,rfl,Zr (fun z=>absurd (by injection z) c7) (fun _=>?_)⟩
 exact⟨_,rfl,_,rfl,L.p,C,dx,_,_,rfl,ob,Tc.cl,Tc.nd,Za0 _ _ _ _,L.dd,_,rfl,g',_,rfl,Z8 k⟩
inductive spDie (C:Addr) (vs:List V) (H:Hp) (Q:VK) (z3:XK):Prop
 | mk (L:FL) (ds:List Deed) (wa:Str->Addr) (n hr:Str) (day dn dr:Int) (h0:vs = [.ref L.p,.str n,.int day,.str hr]) (h1:Fk C H L ds wa) (h2:ds.length<=1000) (h3 : 0<=day) (h4:day<=9999) (h5:Zk ds n=some dn) (h6:dn<=day) (h7:Zk ds hr=some dr) (h8:dr<=day) (h9:Zy ds n=none) (h10:Zy ds hr=none) (h11:hr≠n) (h12:∀H',Fk C H' L (ds ++ [.die n day hr]) wa->Touch L ds wa H H'->Zcn L ds wa (ds ++ [.die n day hr]) wa H->Q .non H')
abbrev Zkw:Stmt:=Yt (top 36) 3
theorem Zwf(Zft:HasM K C "die" "Folk.die" Zkw)(Tc:TxC K C)(M_check_death:Mt P w K mg base C "check_death" ["self", "name", "day", "heir"] 2 (spChkDie C)) :
  Mt P w K mg base C "die" ["self", "name", "day", "heir"] 3 (spDie C):=by
 refine Zft.mq ["self", "name", "day", "heir"] fun H vs Q E hr h=>?_
 obtain⟨L,ds,wa,n,he,day,dn,dr,rfl,K0,hl,d0,d1,b1,b2,b3,b4,b5,b6,b7,k⟩:=h
 refine⟨rfl,_,(Zd (Zt (Wi (qvN 0) Tc.cl M_check_death (Za (qvN 1) (Za (qvN 2) (Za (qvN 3) Zb)))))
 (Zd (Zbb hr (Zz (qvN 0)) (qvN 1) (qvN 2))
 (Ze (Zbb hr (Zz (qvN 0)) (qvN 1) (qvN 3))))),?_⟩
 have F:=K0.f
 obtain⟨⟨k5,x1,x2,x3⟩,⟨k6,o1,o2⟩,wap,winj⟩:=K0.w
 obtain⟨k9,y8,y9⟩:=K0.all
 have hkw:kw (ds ++ [.die n day he])=kw ds:=by rw[Zau];rfl
 have hz:(5000:Nat)<=sizeLine:=by decide
 obtain⟨dx0,ob0⟩:=F.ob
 refine⟨_,rfl,L.p,dx0,_,rfl,ob0,Yi _ _ _ _ (by decide +kernel),_,rfl,_,rfl,_,rfl,L,ds,n,he,day,dn,dr,rfl,F,d0,d1,b1,b2,b3,b4,b5,b6,b7,?_⟩
 obtain⟨⟨dx,ob⟩,⟨k1,c1,c2,c3⟩,⟨k2,w2,w3⟩,⟨k3,e1,e2,e3⟩,⟨k4,h1,h2,h3⟩,a1,a2,a3,a4,a5,a6⟩:=F
 have np:L.p≠L.dd:=fun z=>by rw[z,e1] at ob;cases ob
 have np2:L.p≠L.dh:=fun z=>by rw[z,h1] at ob;cases ob
 refine⟨_,rfl,_,rfl,L.p,C,dx,_,_,rfl,ob,Tc.cl,Tc.nd,Za0 _ _ _ _,_,rfl,L.dd,_,rfl,DPut.k (k:=Sum.inr n) e1 (by lia),?_⟩
 have T1:=SameLT.updD (kvs':=Z2 k3 (Sum.inr n) (.int day)) e1
 have g1:(upd H L.dd (.dK (Z2 k3 (Sum.inr n) (.int day)))) L.p=some (.ins C dx (Vb L.dc L.dw L.dd L.dh)):=by rw[Zf np];exact ob
 have g0:∀b o,b≠L.dd->H b=some o->(upd H L.dd (.dK (Z2 k3 (Sum.inr n) (.int day)))) b=some o:=fun b o nb e=>by rw[Zf nb];exact e
 have g2:(upd H L.dd (.dK (Z2 k3 (Sum.inr n) (.int day)))) L.dd=some (.dK (Z2 k3 (Sum.inr n) (.int day))):=Zg
 have g3:(upd H L.dd (.dK (Z2 k3 (Sum.inr n) (.int day)))) L.dw=some (.dK k2):=by rw[Zf a4];exact w2
 have g4:(upd H L.dd (.dK (Z2 k3 (Sum.inr n) (.int day)))) L.dc=some (.dK k1):=by rw[Zf a2];exact c1
 have g5:(upd H L.dd (.dK (Z2 k3 (Sum.inr n) (.int day)))) L.dh=some (.dK k4):=by rw[Zf a6.symm];exact h1
 generalize (upd H L.dd (.dK (Z2 k3 (Sum.inr n) (.int day))))=H2 at T1 g0 g1 g2 g3 g4 g5 ⊢
 refine⟨_,rfl,_,rfl,L.p,C,dx,_,_,rfl,g1,Tc.cl,Tc.nh,Zys _ _ _ _,_,rfl,L.dh,_,rfl,DPut.k (k:=Sum.inr n) g5 (by lia),?_⟩
 have T4:=SameLT.updD (kvs':=Z2 k4 (Sum.inr n) (.str he)) g5
 have ll:=Um k3 (Sum.inr n:Key) (V.int day)
 have ll2:=Um k4 (Sum.inr n:Key) (V.str he)
 have lapp:(ds ++ [Deed.die n day he]).length=ds.length+1:=by rw[xC];rfl
 refine k _ ⟨⟨⟨dx,by rw[Zf np2];exact g1⟩,⟨k1,by rw[Zf a3];exact g4,by lia,fun x=>?_⟩,⟨k2,by rw[Zf a5];exact g3,by lia⟩,⟨_,by rw[Zf a6];exact g2,by lia,fun x=>?_⟩,⟨_,Zg,by lia,fun x=>?_⟩,a1,a2,a3,a4,a5,a6⟩,
  ⟨⟨k5,by rw[Zf a5];exact g0 _ _ a4 x1,by lia,fun m l e=>?_⟩,⟨k6,by rw[Zf a3];exact g0 _ _ a2 o1,?_⟩,fun m l e=>wap m l (by rw[← hkw];exact e),fun m m' l l' e e' z=>winj m m' l l' (by rw[← hkw];exact e) (by rw[← hkw];exact e') z⟩,⟨k9,by rw[Zf a5];exact g0 _ _ a4 y8,fun p hp=>?_⟩⟩ (fun b o e hn=>?_) (fun b hb=>?_)
 ·rw[Zh8];exact c3 x
 ·rw[Za7,Zh9 b5]
  by_cases e:x=n
  ·subst e;rw[if_pos rfl,if_pos rfl];rfl
  ·rw[if_neg (fun z=>e (Sum.inr.inj z)),if_neg e];exact e3 x
 ·rw[Za7,Zh9 b5]
  by_cases e:x=n
  ·subst e;rw[if_pos rfl,if_pos rfl];rfl
  ·rw[if_neg (fun z=>e (Sum.inr.inj z)),if_neg e];exact h3 x
 ·rw[hkw] at e
  obtain⟨q1,q2,q3⟩:=x3 m l e
  obtain⟨_,_,z3,z4⟩:=wap m l e
  exact⟨q1,by rw[Zf z4];exact g0 _ _ z3 q2,by lia⟩
 ·rw[Za5,o2]
  show _=((We ds)++[]).map V.str
  rw[xR]
 ·obtain⟨m,l,e,q⟩:=y9 p hp
  exact⟨m,l,by rw[hkw];exact e,q⟩
 ·rw[Zf (fun z=>hn (.inr (.inr (.inr (.inr (.inl z))))))]
  exact g0 b o (fun z=>hn (.inr (.inr (.inr (.inl z))))) e
 ·refine .inl ?_
  unfold own at hb ⊢
  rw[hkw] at hb
  exact hb
end
def Vn(H H':Hp):Prop:=∀b xs,H b=some (.tup xs)->H' b=some (.tup xs)
theorem Zj1{l:Addr}{H:Hp}{xs:List V}{o:HO}(hl:H l=some (.lst xs)):Vn H (upd H l o):=fun b ys e=>by
 rw[Zf (fun z=>by rw[z,hl] at e;cases e)];exact e
section
variable{P:Program}{w:World}{K:uFg}{mg:Str->Option Value}{base:Heap}
abbrev Y0:=List (Str×Int)
def Zfu(p:Str×Int):D:=.tup [.str p.1,.int p.2]
def Zfv(sd:Y0):D:=.lst (sd.map Zfu)
def RepS(H:Hp):Y0->List V->Prop
 | [],vs=>vs = []
 | p::r,vs=>∃a vs',vs = .ref a::vs'/\H a=some (.tup [.str p.1,.int p.2])/\RepS H r vs'
theorem RepS.mono{H H':Hp}(k:Vn H H'):∀{sd:Y0}{vs:List V},RepS H sd vs->RepS H' sd vs
 | [],_,h=>h
 | _::_,_,⟨a,vs',e,h1,h2⟩=>⟨a,vs',e,k _ _ h1,RepS.mono k h2⟩
theorem RepS.rep{H:Hp}:∀{sd:Y0}{vs:List V},RepS H sd vs->RepL H (sd.map Zfu) vs
 | [],_,h=>h
 | p::_,_,⟨a,vs',e,h1,h2⟩=>⟨.ref a,vs',e,⟨a,_,rfl,h1,⟨.str p.1,_,rfl,rfl,⟨.int p.2,[],rfl,rfl,rfl⟩⟩⟩,RepS.rep h2⟩
theorem RepS.of{H:Hp}:∀{sd:Y0}{vs:List V},RepL H (sd.map Zfu) vs->RepS H sd vs
 | [],_,h=>h
 | p::_,_,⟨v,vs',e,⟨a,us,e2,h1,⟨x,r1,e3,e4,⟨y,r2,e5,e6,e7⟩⟩⟩,h2⟩=>by
  subst e2 e7 e5 e3
  cases e4
  cases e6
  exact⟨a,vs',e,h1,RepS.of h2⟩
theorem RepS.len{H:Hp}{sd:Y0}{vs:List V}(h:RepS H sd vs):vs.length=sd.length:=by
 have:=(RepS.rep h).length
 rw[xA] at this
 exact this
theorem RepS.get{H:Hp}:∀{sd:Y0}{vs:List V}{i:Nat}{v:V},RepS H sd vs->vs[i]? = some v->∃p a,sd[i]? = some p/\v = .ref a/\H a=some (.tup [.str p.1,.int p.2])
 | [],vs,i,v,h,e=>by cases h;simp at e
 | p::sd,vs,i,v,⟨a,vs',e1,h1,h2⟩,e=>by
  subst e1
  cases i with
  | zero=>simp at e;subst e;exact⟨p,a,rfl,rfl,h1⟩
  | succ i=>simp at e;exact RepS.get (i:=i) h2 e
end
section
variable{P:Program}{w:World}{K:uFg}{mg:Str->Option Value}{base:Heap}
def wts(sd:Y0):List Int:=sd.map (·.2)
def Zdn(sd:Y0):Prop:=(∀p∈sd,1<=p.2/\p.2<=1000)/\sd.length<=60
def SideAt(H:Hp)(sd:Y0)(v:V):Prop:=∃a vs,v = .ref a/\H a=some (.lst vs)/\RepS H sd vs
theorem Same.t{H H':Hp}(h:Same H H'):Vn H H':=fun b xs e=>h b _ e
end
section
variable{P:Program}{w:World}{K:uFg}{mg:Str->Option Value}{base:Heap}
inductive spTotal (vs:List V) (H:Hp) (Q:VK) (z3:XK):Prop
 | mk (v:V) (sd:Y0) (h0:vs = [v]) (h1:SideAt H sd v) (h2:Zdn sd) (h3:∀H',Same H H'->Q (.int (wts sd).sum) H')
abbrev Zwg:Stmt:=top 33
end
section
variable{P:Program}{w:World}{K:uFg}{mg:Str->Option Value}{base:Heap}
structure Suit where
 ones:Y0
 others:Y0
 need:Int
 named:Option (Int×Str)
def Zdf:Option (Int×Str)->D
 | none=>.non
 | some (c,n)=>.tup [.int c,.str n]
def U0(t:Suit):D:=.tup [Zfv t.ones,Zfv t.others,.int t.need,Zdf t.named]
theorem SideAt.of{H:Hp}{sd:Y0}{v:V}(h:Rep H (Zfv sd) v):SideAt H sd v:=by
 obtain⟨a,vs,e,h1,h2⟩:=h
 exact⟨a,vs,e,h1,RepS.of h2⟩
theorem Zp9{H:Hp}{t:Suit}{v:V}(h:Rep H (U0 t) v):∃a u1 u2 u4,v = .ref a/\H a=some (.tup [u1,u2,.int t.need,u4])/\SideAt H t.ones u1/\SideAt H t.others u2/\Rep H (Zdf t.named) u4:=by
 obtain⟨a,vs,e,h1,⟨u1,r1,rfl,a1,⟨u2,r2,rfl,a2,⟨u3,r3,rfl,a3,⟨u4,r4,rfl,a4,a5⟩⟩⟩⟩⟩:=h
 cases a3
 cases a5
 exact⟨a,u1,u2,u4,e,h1,.of a1,.of a2,a4⟩
theorem RepS.app{H:Hp}{b:Y0}{ws:List V}(hb:RepS H b ws):∀{a:Y0}{vs:List V},RepS H a vs->RepS H (a++b) (vs++ws)
 | [],vs,h=>by cases h;exact hb
 | p::a,vs,⟨c,vs',e,h1,h2⟩=>by subst e;exact⟨c,vs'++ws,rfl,h1,RepS.app hb h2⟩
theorem Zqa{H:Hp}{sd:Y0}{a:Addr}{vs:List V}{fv:St}{Q:VK}(ha:H a=some (.lst vs))(hr:RepS H sd vs)(hl:sd.length<=1000)(hd:∀l,H l=none->Q (.ref l) (upd H l (.lst ((sd.map (·.1)).map V.str)))) :
  Zbd (Itl K a) 2 fv (gTup K 2 (gCons (Wa 0) (gCons (Wa 1) Zgy))) (fun _ H Q=>Q true H) (tVar 0) Q H:=by
 have hlen:=hr.len
 refine Zah (xs:=vs) (fun i ys H'=>H'=H/\ys=((sd.map (·.1)).take i).map V.str) ⟨rfl,rfl⟩ (by lia) (fun i ys H' _ ⟨e,_⟩=>by rw[e];exact SqL.of ha) ?_ ?_ ?_
 ·rintro i ys H' ⟨_,rfl⟩
  rw[xA,xZ];lia
 ·rintro i x ys H' hx ⟨rfl,rfl⟩ ls hls
  obtain⟨u,v,rfl⟩:=Zyj hls
  obtain⟨p,b,hp,rfl,hb⟩:=hr.get hx
  refine⟨b,_,rfl,SqT.of hb,rfl,_,_,rfl,_,_,rfl,rfl,⟨[_,_],rfl,rfl⟩,Yl ?_⟩
  refine⟨_,rfl,rfl,?_⟩
  have e:(sd.map (·.1))[i]? = some p.1:=by rw[xG,hp];rfl
  rw[yI,e,yE]
  rfl
 ·rintro ys H' ⟨rfl,rfl⟩ l hl'
  have e:(sd.map (·.1)).take vs.length=sd.map (·.1):=yY (by rw[xA];lia)
  rw[e]
  exact hd l hl'
def Zsi(ss:List Suit)(nm:Option (Int×Str)):Prop:=∀c n,nm=some (c,n)->0<=c/\∃t wt,ss[c.toNat]? = some t/\(n,wt)∈t.ones++t.others
def U8(t:Suit):Prop:=Zdn t.ones/\Zdn t.others/\1<=t.need/\t.need<=12000
end
section
variable{P:Program}{w:World}{K:uFg}{mg:Str->Option Value}{base:Heap}
structure Line (ss:List Suit):Prop where
 ok:∀t∈ss,U8 t
 nd:∀t∈ss,((t.ones++t.others).map (·.1)).Nodup
 nm:∀t∈ss,∀p∈t.ones++t.others,Wd p.1
 back:∀i t,ss[i]? = some t->Zsi (ss.take i) t.named
end
section
variable{P:Program}{w:World}{K:uFg}{mg:Str->Option Value}{base:Heap}
abbrev Zcv:=List (List Key×V)
def V1(c:Int)(n:Str):List Key:=[.inl c,.inr n]
def brk(kvs:Zcv)(c:Int)(n:Str):Bool:=(Z3 kvs (V1 c n)).isSome
def keep(br:Int->Str->Bool)(c:Int)(sd:Y0):Y0:=sd.filter fun p=>!br c p.1
def Zfw(br:Int->Str->Bool)(c:Int)(sd:Y0):Int:=(wts (keep br c sd)).sum
inductive spKept (vs:List V) (H:Hp) (Q:VK) (z3:XK):Prop
 | mk (c:Int) (v:V) (g:Addr) (sd:Y0) (kvs:Zcv) (h0:vs = [.int c,v,.ref g]) (h1:SideAt H sd v) (h2:Zdn sd) (h3:H g=some (.dT kvs)) (h4:∀H',Same H H'->Q (.int (Zfw (brk kvs) c sd)) H')
abbrev Zwh:Stmt:=top 51
def Zg7(br:Int->Str->Bool)(c:Int)(t:Suit):Int:=Zfw br c t.ones - Zfw br c t.others - t.need
def SuitsAt(H:Hp)(ss:List Suit)(l:Addr):Prop:=∃us,H l=some (.lst us)/\RepL H (ss.map U0) us
theorem SuitsAt.get{H:Hp}{ss:List Suit}{l:Addr}{us:List V}{i:Nat}{t:Suit}(b:RepL H (ss.map U0) us)(ht:ss[i]? = some t) :
  ∃ta u1 u2 u4,us[i]? = some (.ref ta)/\H ta=some (.tup [u1,u2,.int t.need,u4])/\SideAt H t.ones u1/\SideAt H t.others u2/\Rep H (Zdf t.named) u4:=by
 have hl:=b.length
 rw[xA] at hl
 have hi:i < us.length:=by rw[hl];exact(xQ.mp ht).1
 have hu:us[i]? = some us[i]:=xD hi
 obtain⟨d,hd,hr⟩:=b.get hu
 rw[xG,ht] at hd
 cases hd
 obtain⟨ta,u1,u2,u4,e,h1,h2,h3,h4⟩:=Zp9 hr
 exact⟨ta,u1,u2,u4,by rw[hu,e],h1,h2,h3,h4⟩
inductive spMargin (vs:List V) (H:Hp) (Q:VK) (z3:XK):Prop
 | mk (l g:Addr) (c:Nat) (ss:List Suit) (t:Suit) (kvs:Zcv) (h0:vs = [.ref l,.int c,.ref g]) (h1:SuitsAt H ss l) (h2:ss[c]? = some t) (h3:U8 t) (h4:H g=some (.dT kvs)) (h5:∀H',Same H H'->Q (.int (Zg7 (brk kvs) c t)) H')
abbrev Zwi:Stmt:=top 50
end
section
variable{P:Program}{w:World}{K:uFg}{mg:Str->Option Value}{base:Heap}
abbrev Zg8:=Int×Str
def Ue(more:List Zg8):Nat->List Suit->List Bool×List Zg8
 | _,[]=>([],more)
 | i,t::r =>
  (decide (0<=Zg7 (fun c n=>decide ((c,n)∈(Ue more (i+1) r).2)) i t)::(Ue more (i+1) r).1,
   if decide (0<=Zg7 (fun c n=>decide ((c,n)∈(Ue more (i+1) r).2)) i t)=true then (Ue more (i+1) r).2++t.named.toList else (Ue more (i+1) r).2)
inductive spSettW (vs:List V) (H:Hp) (Q:VK) (z3:XK):Prop
 | mk (l m:Addr) (ss:List Suit) (ms:List V) (more:List Zg8) (h0:vs = [.ref l,.ref m]) (h1:SuitsAt H ss l) (h2:(∀t∈ss,U8 t)) (h3:ss.length<=1000) (h4:H m=some (.lst ms)) (h5:RepL H (more.map fun x=>Zdf (some x)) ms) (h6:more.length<=1000) (h7:∀(l2:Addr)(H':Hp),H l2=none->H' l2=some (.lst ((Ue more 0 ss).1.map V.bl))->Same H H'->Q (.ref l2) H')
abbrev Zwj:Stmt:=top 43
end
section
variable{P:Program}{w:World}{K:uFg}{mg:Str->Option Value}{base:Heap}
inductive spSett (vs:List V) (H:Hp) (Q:VK) (z3:XK):Prop
 | mk (l:Addr) (ss:List Suit) (h0:vs = [.ref l]) (h1:SuitsAt H ss l) (h2:(∀t∈ss,U8 t)) (h3:ss.length<=1000) (h4:∀(l2:Addr)(H':Hp),H l2=none->H' l2=some (.lst ((Ue [] 0 ss).1.map V.bl))->Same H H'->Q (.ref l2) H')
abbrev Zwk:Stmt:=top 42
end
section
variable{P:Program}{w:World}{K:uFg}{mg:Str->Option Value}{base:Heap}
def Zdo(cs:List Nat):List V:=cs.map fun(c:Nat)=>V.int (c:Int)
def nmd(ss:List Suit)(c:Int)(n:Str)(j:Nat):Bool:=match ss[j]? with
 | some u=>decide (u.named=some (c,n))
 | none=>false
def Za2(ss:List Suit)(c:Int)(n:Str)(cs:List Nat):List Nat:=cs.filter (nmd ss c n)
def Zmf(H:Hp)(g:Addr)(ss:List Suit)(cs:List Nat):Prop:=∃kvs:Zcv,H g=some (.dT kvs)/\kvs.length<=cs.length/\(∀p∈kvs,∃c n,p.1=V1 c n/\Za2 ss c n cs ≠ [])/\∀c n,(Z3 kvs (V1 c n)=none/\Za2 ss c n cs = [])\/∃a,Z3 kvs (V1 c n)=some (.ref a)/\H a=some (.lst (Zdo (Za2 ss c n cs)))
structure NbPre (H H':Hp) (g:Addr) (ss:List Suit) (cs:List Nat) (kvs:Zcv):Prop where
 at_:H' g=some (.dT kvs)
 len:kvs.length<=cs.length
 keys:∀p∈kvs,∃c n,p.1=V1 c n/\Za2 ss c n cs ≠ []
 no:∀c n,Z3 kvs (V1 c n)=none->Za2 ss c n cs = []
 yes:∀c n v,Z3 kvs (V1 c n)=some v->∃a,v = .ref a/\H a=none/\a≠g/\H' a=some (.lst (Zdo (Za2 ss c n cs)))
 one:∀c n c' n' a,Z3 kvs (V1 c n)=some (.ref a)->Z3 kvs (V1 c' n')=some (.ref a)->(c,n)=(c',n')
inductive spNaming (vs:List V) (H:Hp) (Q:VK) (z3:XK):Prop
 | mk (l lc:Addr) (ss:List Suit) (cs:List Nat) (h0:vs = [.ref l,.ref lc]) (h1:SuitsAt H ss l) (h2:cs.length<=1000) (h3:(∀j∈cs,j < ss.length)) (h4:H lc=some (.lst (Zdo cs))) (h5:∀(g:Addr)(H':Hp),H g=none->Zmf H' g ss cs->(∀kvs c n a,H' g=some (.dT kvs)->Z3 kvs (V1 c n)=some (.ref a)->H a=none)->Same H H'->Q (.ref g) H')
abbrev Zwl:Stmt:=top 47
end
section
variable{P:Program}{w:World}{K:uFg}{mg:Str->Option Value}{base:Heap}
def stT(bs:List Bool)(i:Nat):List Nat:=(List.range i).filter fun j=>bs.getD j false
def stL(bs:List Bool):List Nat:=stT bs bs.length
abbrev Zmg(ss:List Suit):List Bool:=(Ue [] 0 ss).1
def Zmh(ss:List Suit)(c:Int)(n:Str):List Nat:=Za2 ss c n (stL (Zmg ss))
inductive spBreaking (vs:List V) (H:Hp) (Q:VK) (z3:XK):Prop
 | mk (l:Addr) (ss:List Suit) (h0:vs = [.ref l]) (h1:SuitsAt H ss l) (h2:(∀t∈ss,U8 t)) (h3:ss.length<=1000) (h4:∀(g:Addr)(H':Hp),H g=none->Zmf H' g ss (stL (Zmg ss))->(∀kvs c n a,H' g=some (.dT kvs)->Z3 kvs (V1 c n)=some (.ref a)->H a=none)->Same H H'->Q (.ref g) H')
abbrev Zwm:Stmt:=top 46
end
section
variable{P:Program}{w:World}{K:uFg}{mg:Str->Option Value}{base:Heap}{C CM:Addr}
def fz(xs:List Addr)(H:Hp):Hp:=fun b=>if b∈xs then H b else match H b with
 | some (.tup t)=>some (.tup t)
 | _=>none
theorem Zdp{xs:List Addr}{H:Hp}{b:Addr}{o:HO}(h:fz xs H b=some o):H b=some o/\(b∈xs\/∃t,o = .tup t):=by
 unfold fz at h
 split at h
 ·rename_i m;exact⟨h,.inl m⟩
 ·split at h
  ·rename_i t e;cases h;exact⟨e,.inr ⟨t,rfl⟩⟩
  ·cases h
theorem Zwn{xs:List Addr}{H:Hp}{b:Addr}{o:HO}(m:b∈xs)(h:H b=some o):fz xs H b=some o:=by unfold fz;rw[if_pos m];exact h
theorem Wz{xs:List Addr}{H:Hp}{b:Addr}{t:List V}(h:H b=some (.tup t)):fz xs H b=some (.tup t):=by
 unfold fz
 split
 ·exact h
 ·rw[h]
theorem Zwo{xs:List Addr}{H:Hp}:Same (fz xs H) H:=fun _ _ e=>(Zdp e).1
theorem V7{xs xs':List Addr}{H H':Hp}(kt:Vn H H')(kx:∀x∈xs,∀o,H x=some o->H' x=some o)(s:∀x∈xs,x∈xs'):Same (fz xs H) (fz xs' H'):=fun b o e=>by
 obtain⟨e,m | ⟨t,rfl⟩⟩:=Zdp e
 ·exact Zwn (s b m) (kx b m o e)
 ·exact Wz (kt b t e)
def LAt(H:Hp)(xs:List Addr)(l:Addr)(ds:List D):Prop:=∃vs,H l=some (.lst vs)/\RepL (fz xs H) ds vs
theorem LAt.mono{H H':Hp}{xs xs':List Addr}{l:Addr}{ds:List D}(h:LAt H xs l ds)(k:∀o,H l=some o->H' l=some o)(s:Same (fz xs H) (fz xs' H')):LAt H' xs' l ds :=
 let ⟨vs,a,b⟩:=h;⟨vs,k _ a,b.mono' s⟩
theorem LAt.get{H:Hp}{xs:List Addr}{l:Addr}{ds:List D}(h:LAt H xs l ds):∃vs,H l=some (.lst vs)/\RepL H ds vs/\vs.length=ds.length :=
 let ⟨vs,a,b⟩:=h;⟨vs,a,b.mono' Zwo,b.length⟩
structure ML where
 p:Addr
 L:FL
 ld:Addr
 lb:Addr
 lh:Addr
 lq:Addr
 lt:Addr
 ly:Addr
 lv:Addr
 dp:Addr
def Vo(M:ML):List (Str×V):=Zn "penances" (.ref M.dp) (Zn "verdicts" (.ref M.lv) (Zn "trial_days" (.ref M.ly) (Zn "trials" (.ref M.lt) (Zn "debts" (.ref M.lq) (Zn "happenings" (.ref M.lh) (Zn "bringings" (.ref M.lb) (Zn "folk" (.ref M.L.p) (Zn "deeds" (.ref M.ld) []))))))))
local macro_rules | `(tactic| walk_at "mf")=>`(tactic| (unfold Vo;repeat (first | rw[Yk,if_pos (by decide +kernel)] | rw[Yk,if_neg (by decide +kernel)])))
theorem Uf(M:ML):(Vo M).lookup ("deeds" : Str)=some (.ref M.ld):=by walk_at "mf"
theorem Vx(M:ML):(Vo M).lookup ("folk" : Str)=some (.ref M.L.p):=by walk_at "mf"
theorem Zb9(M:ML):(Vo M).lookup ("bringings" : Str)=some (.ref M.lb):=by walk_at "mf"
theorem Zjd(M:ML):(Vo M).lookup ("happenings" : Str)=some (.ref M.lh):=by walk_at "mf"
theorem Zqb(M:ML):(Vo M).lookup ("debts" : Str)=some (.ref M.lq):=by walk_at "mf"
theorem Zia(M:ML):(Vo M).lookup ("trials" : Str)=some (.ref M.lt):=by walk_at "mf"
theorem Zsj(M:ML):(Vo M).lookup ("trial_days" : Str)=some (.ref M.ly):=by walk_at "mf"
theorem Zuh(M:ML):(Vo M).lookup ("penances" : Str)=some (.ref M.dp):=by walk_at "mf"
def ML.setv(M:ML)(l:Addr):ML:={M with lv:=l }
def Zg9(m:Str):Prop:=¬m = "penances" /\ ¬m = "verdicts" /\ ¬m = "trial_days" /\ ¬m = "trials" /\ ¬m = "debts" /\ ¬m = "happenings" /\ ¬m = "bringings" /\ ¬m = "folk" /\ ¬m = "deeds"
instance (m:Str):Decidable (Zg9 m):=by unfold Zg9;exact inferInstance
theorem Y9(M:ML){m:Str}(h:Zg9 m:=by decide +kernel):(Vo M).lookup m=none:=by
 obtain⟨a1,a2,a3,a4,a5,a6,a7,a8,a9⟩:=h
 unfold Vo
 rw[Yk,if_neg a1,Yk,if_neg a2,Yk,if_neg a3,Yk,if_neg a4,Yk,if_neg a5,Yk,if_neg a6,Yk,if_neg a7,Yk,if_neg a8,Yk,if_neg a9]
 rfl
abbrev Zsk:=TxC
structure TxCMoot (K:uFg) (C:Addr):Prop where
 cl:Cls K C
 nd:NoAttr K C "deeds"
 nf:NoAttr K C "folk"
 nb:NoAttr K C "bringings"
 nh:NoAttr K C "happenings"
 nq:NoAttr K C "debts"
 nt:NoAttr K C "trials"
 ny:NoAttr K C "trial_days"
 nv:NoAttr K C "verdicts"
 np:NoAttr K C "penances"
structure Mo where
 deeds:List D
 brs:List D
 haps:List (List D)
 debts:List D
 trials:List Suit
 days:List Int
 verd:List Bool
 pen:Str->Option Int
 npen:Nat
def ML.ls(M:ML):List Addr:=[M.ld,M.lb,M.lq,M.lt,M.ly,M.lv]
def Mo.at_(m:Mo)(M:ML)(qs:List Addr):List (Addr×List D) :=
 (M.ld,m.deeds)::(M.lb,m.brs)::(M.lq,m.debts)::(M.lt,m.trials.map U0)::(M.ly,m.days.map D.int)::(M.lv,m.verd.map D.bl)::qs.zip m.haps
structure MootAt (C CM:Addr) (H:Hp) (M:ML) (ds:List Deed) (wa:Str->Addr) (xs:List Addr) (m:Mo) (qs:List Addr):Prop where
 ob:∃dx,H M.p=some (.ins CM dx (Vo M))
 fk:Fk C H M.L ds wa
 ls:∀p∈m.at_ M qs,LAt H xs p.1 p.2
 hl:H M.lh=some (.lst (qs.map V.ref))
 hn:qs.length=m.haps.length
 pn:∃kvs:List (Key×V),H M.dp=some (.dK kvs)/\kvs.length<=m.npen/\∀n:Str,Z3 kvs (.inr n)=(m.pen n).map V.int
 nl:(M.lh::(M.ls++qs)).Nodup
 nx:∀x∈xs,x∉M.lh::(M.ls++qs)
 xl:∀x∈xs,∃vs,H x=some (.lst vs)
 np:M.p≠M.L.p
 nd:¬own M.L ds wa M.dp
def mo(M:ML)(ds:List Deed)(wa:Str->Addr)(xs qs:List Addr)(b:Addr):Prop:=b=M.p\/b=M.dp\/b∈M.lh::(M.ls++qs)\/b∈xs\/own M.L ds wa b
variable{M:ML}{ds:List Deed}{wa:Str->Addr}{xs qs:List Addr}{m:Mo}{H H':Hp}
theorem Zey{p:Addr×List D}(h:p∈m.at_ M qs):p.1∈M.ls++qs:=by
 unfold Mo.at_ at h
 simp only[xE] at h
 rcases h with rfl | rfl | rfl | rfl | rfl | rfl | h
 iterate 6 (refine zO _ ?_;unfold ML.ls;simp only[xE,true_or,or_true])
 exact xJ _ (zF h).1
theorem MootAt.keep(h:MootAt C CM H M ds wa xs m qs)(k:∀b o,mo M ds wa xs qs b->H b=some o->H' b=some o)(kt:Vn H H'):MootAt C CM H' M ds wa xs m qs:=by
 obtain⟨⟨dx,ob⟩,fk,ls,hl,hn,⟨kvs,p1,p2,p3⟩,nl,nx,xl,np,nd⟩:=h
 have s:=V7 (xs:=xs) (xs':=xs) kt (fun x hx o e=>k x o (.inr (.inr (.inr (.inl hx)))) e) (fun _ z=>z)
 exact⟨⟨dx,k _ _ (.inl rfl) ob⟩,fk.at fun b o hb e=>k b o (.inr (.inr (.inr (.inr hb)))) e,fun p hp=>(ls p hp).mono (fun o e=>k _ o (.inr (.inr (.inl (xX _ (Zey hp))))) e) s,
  k _ _ (.inr (.inr (.inl yC))) hl,hn,⟨kvs,k _ _ (.inr (.inl rfl)) p1,p2,p3⟩,nl,nx,fun x hx=>let ⟨vs,e⟩:=xl x hx;⟨vs,k _ _ (.inr (.inr (.inr (.inl hx)))) e⟩,np,nd⟩
theorem MootAt.same(h:MootAt C CM H M ds wa xs m qs)(k:Same H H'):MootAt C CM H' M ds wa xs m qs:=h.keep (fun b o _ e=>k b o e) fun _ _ e=>k _ _ e
theorem MootAt.x(h:MootAt C CM H M ds wa xs m qs){s:Addr}{ys:List V}(hs:H s=some (.lst ys))(hn:¬mo M ds wa xs qs s)(k:SameX s H H'):MootAt C CM H' M ds wa xs m qs :=
 h.keep (fun b o hb e=>k b o (fun z=>hn (z▸hb)) e) fun b ys e=>k b _ (fun z=>by rw[z,hs] at e;cases e) e
theorem MootAt.nown(h:MootAt C CM H M ds wa xs m qs){b:Addr}{ys:List V}(e:H b=some (.lst ys)):¬own M.L ds wa b:=fun z=>by
 obtain⟨o,e',n1,_⟩:=h.fk.there z
 rw[e] at e';cases e';exact n1 ys rfl
theorem MootAt.pown(h:MootAt C CM H M ds wa xs m qs):¬own M.L ds wa M.p:=fun z=>by
 obtain⟨dx,ob⟩:=h.ob
 obtain⟨⟨_,⟨k1,c1,_⟩,⟨k2,w1,_⟩,⟨k3,d1,_⟩,⟨k4,h1,_⟩,_⟩,⟨⟨k5,x1,x2,x3⟩,_⟩,_⟩:=h.fk
 rcases z with z | z | z | z | z | ⟨n,l,e,z⟩
 ·exact h.np z
 ·rw[z,c1] at ob;cases ob
 ·rw[z,w1] at ob;cases ob
 ·rw[z,d1] at ob;cases ob
 ·rw[z,h1] at ob;cases ob
 ·rw[z,(x3 n l e).2.1] at ob;cases ob
theorem MootAt.folk(h:MootAt C CM H M ds wa xs m qs){ds':List Deed}{wa':Str->Addr}(F:Fk C H' M.L ds' wa')(t:Touch M.L ds wa H H')(f:Zcn M.L ds wa ds' wa' H):MootAt C CM H' M ds' wa' xs m qs:=by
 have T:=Touch.lt h.fk t
 have pw:=h.pown
 obtain⟨⟨dx,ob⟩,fk,ls,hl,hn,⟨kvs,p1,p2,p3⟩,nl,nx,xl,np,nd⟩:=h
 have s:=V7 (xs:=xs) (xs':=xs) T.2 (fun x hx o e=>by obtain⟨vs,e'⟩:=xl x hx;rw[e] at e';cases e';exact T.1 _ _ e) (fun _ z=>z)
 exact⟨⟨dx,t _ _ ob pw⟩,F,fun p hp=>by
  obtain⟨vs,a,b⟩:=ls p hp
  exact⟨vs,T.1 _ _ a,b.mono' s⟩,T.1 _ _ hl,hn,⟨kvs,t _ _ p1 nd,p2,p3⟩,nl,nx,fun x hx=>let ⟨vs,e⟩:=xl x hx;⟨vs,T.1 _ _ e⟩,np,fun z=>(f _ z).elim nd fun z=>by rw[p1] at z;cases z⟩
end
section
variable{P:Program}{w:World}{K:uFg}{mg:Str->Option Value}{base:Heap}{C CM:Addr}
variable{M:ML}{ds:List Deed}{wa:Str->Addr}{xs qs:List Addr}{m:Mo}{H H':Hp}
theorem Zez{l:Addr}(h:l∈M.ls++qs):l∈M.lh::(M.ls++qs):=xX _ h
theorem MootAt.lst(h:MootAt C CM H M ds wa xs m qs){l:Addr}(hl:l∈M.lh::(M.ls++qs)):∃ys,H l=some (.lst ys):=by
 rcases xE.mp hl with rfl | hl
 ·exact⟨_,h.hl⟩
 have:∃p∈m.at_ M qs,p.1=l:=by
  rcases xM.mp hl with z | z
  ·unfold ML.ls at z
   simp only[xE,yP,or_false] at z
   unfold Mo.at_
   rcases z with rfl | rfl | rfl | rfl | rfl | rfl
   ·exact⟨(M.ld,m.deeds),by simp,rfl⟩
   ·exact⟨(M.lb,m.brs),by simp,rfl⟩
   ·exact⟨(M.lq,m.debts),by simp,rfl⟩
   ·exact⟨(M.lt,m.trials.map U0),by simp,rfl⟩
   ·exact⟨(M.ly,m.days.map D.int),by simp,rfl⟩
   ·exact⟨(M.lv,m.verd.map D.bl),by simp,rfl⟩
  ·obtain⟨i,hi,e⟩:=List.getElem_of_mem z
   have hi':i < m.haps.length:=h.hn▸hi
   refine⟨(qs[i],m.haps[i]),?_,e⟩
   have:(qs[i],m.haps[i])∈qs.zip m.haps:=xF (i:=i) (by rw[zC];exact⟨xD hi,xD hi'⟩)
   exact xJ [(M.ld,m.deeds),(M.lb,m.brs),(M.lq,m.debts),(M.lt,m.trials.map U0),(M.ly,m.days.map D.int),(M.lv,m.verd.map D.bl)] this
 obtain⟨p,hp,rfl⟩:=this
 obtain⟨vs,e,_⟩:=h.ls p hp
 exact⟨vs,e⟩
theorem MootAt.there(h:MootAt C CM H M ds wa xs m qs){b:Addr}(hb:mo M ds wa xs qs b):∃o,H b=some o:=by
 rcases hb with rfl | rfl | hb | hb | hb
 ·obtain⟨dx,e⟩:=h.ob;exact⟨_,e⟩
 ·obtain⟨kvs,e,_⟩:=h.pn;exact⟨_,e⟩
 ·obtain⟨ys,e⟩:=h.lst hb;exact⟨_,e⟩
 ·obtain⟨ys,e⟩:=h.xl b hb;exact⟨_,e⟩
 ·obtain⟨o,e,_⟩:=h.fk.there hb;exact⟨o,e⟩
theorem MootAt.put(h:MootAt C CM H M ds wa xs m qs){l:Addr}{zs:List V}(hl:l∈M.ls++qs){m':Mo}(e1:m'.haps.length=m.haps.length)(e2:m'.pen=m.pen)(e3:m'.npen=m.npen)(k:∀p∈m'.at_ M qs,(p∈m.at_ M qs/\p.1≠l)\/(p.1=l/\RepL (fz xs H) p.2 zs)):MootAt C CM (upd H l (.lst zs)) M ds wa xs m' qs:=by
 obtain⟨ys,e⟩:=h.lst (Zez hl)
 have nw:=h.nown e
 have hh:=h
 obtain⟨⟨dx,ob⟩,fk,ls,lh,hn,⟨kvs,p1,p2,p3⟩,nl,nx,xl,np,nd⟩:=h
 have kt:Vn H (upd H l (.lst zs)):=Zj1 e
 have kx:∀x∈xs,x≠l:=fun x hx z=>nx x hx (z▸Zez hl)
 have s:Same (fz xs H) (fz xs (upd H l (.lst zs))):=V7 kt (fun x hx o e=>by rw[Zf (kx x hx)];exact e) (fun _ z=>z)
 have nh:M.lh≠l:=fun z=>(yF.mp nl).1 (z▸hl)
 refine⟨⟨dx,by rw[Zf (fun z=>by rw[z,e] at ob;cases ob)];exact ob⟩,fk.at fun b o hb eb=>by rw[Zf (fun z:b=l=>nw (z▸hb))];exact eb,fun p hp=>?_,by rw[Zf nh];exact lh,by rw[e1];exact hn,
  ⟨kvs,by rw[Zf (fun z=>by rw[z,e] at p1;cases p1)];exact p1,by rw[e3];exact p2,by rw[e2];exact p3⟩,nl,nx,fun x hx=>?_,np,nd⟩
 ·rcases k p hp with⟨a,b⟩ | ⟨a,b⟩
  ·exact(ls p a).mono (fun o e=>by rw[Zf b];exact e) s
  ·exact⟨zs,by rw[a,Zg],b.mono' s⟩
 ·obtain⟨vs,e⟩:=xl x hx
  exact⟨vs,by rw[Zf (kx x hx)];exact e⟩
theorem MootAt.pena(h:MootAt C CM H M ds wa xs m qs){kvs:List (Key×V)}{n:Str}{c:Int}(e:H M.dp=some (.dK kvs)) :
  MootAt C CM (upd H M.dp (.dK (Z2 kvs (.inr n) (.int c)))) M ds wa xs {m with pen:=fun x=>if x=n then some c else m.pen x,npen:=m.npen+1 } qs:=by
 have hh:=h
 obtain⟨⟨dx,ob⟩,fk,ls,lh,hn,⟨kvs',p1,p2,p3⟩,nl,nx,xl,np,nd⟩:=h
 rw[e] at p1
 cases p1
 have ll:∀l∈M.lh::(M.ls++qs),l≠M.dp:=fun l hl z=>by obtain⟨ys,e'⟩:=hh.lst hl;rw[z,e] at e';cases e'
 have kt:Vn H (upd H M.dp (.dK (Z2 kvs (.inr n) (.int c)))):=fun b t eb=>by rw[Zf (fun z=>by rw[z,e] at eb;cases eb)];exact eb
 have kx:∀x∈xs,x≠M.dp:=fun x hx z=>by obtain⟨vs,e'⟩:=xl x hx;rw[z,e] at e';cases e'
 have s:Same (fz xs H) (fz xs (upd H M.dp (.dK (Z2 kvs (.inr n) (.int c))))):=V7 kt (fun x hx o e=>by rw[Zf (kx x hx)];exact e) (fun _ z=>z)
 refine⟨⟨dx,by rw[Zf (fun z=>by rw[z,e] at ob;cases ob)];exact ob⟩,fk.at fun b o hb eb=>by rw[Zf (fun z:b=M.dp=>nd (z▸hb))];exact eb,fun p hp=>(ls p hp).mono (fun o e=>by rw[Zf (ll _ (Zez (Zey hp)))];exact e) s,
  by rw[Zf (ll _ yC)];exact lh,hn,⟨_,Zg,yK (Um _ _ _) (by show kvs.length+1<=m.npen+1;lia),fun x=>?_⟩,nl,nx,fun x hx=>?_,np,nd⟩
 ·rw[Za7]
  show _=(if x=n then some c else m.pen x).map V.int
  by_cases z:x=n
  ·rw[if_pos (by rw[z]),if_pos z];rfl
  ·rw[if_neg (fun y=>z (by injection y)),if_neg z];exact p3 x
 ·obtain⟨vs,e'⟩:=xl x hx
  exact⟨vs,by rw[Zf (kx x hx)];exact e'⟩
end
section
variable{P:Program}{w:World}{K:uFg}{mg:Str->Option Value}{base:Heap}{C CM:Addr}
variable{M:ML}{ds:List Deed}{wa:Str->Addr}{xs qs:List Addr}{m:Mo}{H H':Hp}
theorem MootAt.rep(h:MootAt C CM H M ds wa xs m qs){l:Addr}{c:List D}{vs:List V}(hp:(l,c)∈m.at_ M qs)(e:H l=some (.lst vs)):RepL (fz xs H) c vs:=by
 obtain⟨vs',e',r⟩:=h.ls _ hp
 rw[e] at e';cases e';exact r
theorem MootAt.deed(h:MootAt C CM H M ds wa xs m qs){vs:List V}{v:V}{d:D}(e:H M.ld=some (.lst vs))(hd:Rep (fz xs H) d v):MootAt C CM (upd H M.ld (.lst (vs ++ [v]))) M ds wa xs {m with deeds:=m.deeds ++ [d] } qs:=by
 have r:=h.rep (l:=M.ld) (c:=m.deeds) (by simp[Mo.at_]) e
 have nl:=h.nl
 simp only[ML.ls,yF,xE,xM,yG,zT,not_or] at nl
 obtain⟨_,⟨b2,b3,b4,b5,b6,b7⟩,⟨c3,c4,c5,c6,c7⟩,⟨d4,d5,d6,d7⟩,⟨f5,f6,f7⟩,⟨g6,g7⟩,k7,k8⟩:=nl
 refine h.put (l:=M.ld) (by simp[ML.ls]) rfl rfl rfl fun p hp=>?_
 simp only[Mo.at_,xE] at hp ⊢
 rcases hp with rfl | rfl | rfl | rfl | rfl | rfl | hp
 ·exact .inr ⟨rfl,r.snoc hd⟩
 ·exact .inl ⟨by simp,Ne.symm b2⟩
 ·exact .inl ⟨by simp,Ne.symm b3⟩
 ·exact .inl ⟨by simp,Ne.symm b4⟩
 ·exact .inl ⟨by simp,Ne.symm b5⟩
 ·exact .inl ⟨by simp,Ne.symm b6⟩
 ·exact .inl ⟨by simp[hp],fun z=>b7 (z▸(zF hp).1)⟩
theorem MootAt.debt(h:MootAt C CM H M ds wa xs m qs){vs:List V}{v:V}{d:D}(e:H M.lq=some (.lst vs))(hd:Rep (fz xs H) d v):MootAt C CM (upd H M.lq (.lst (vs ++ [v]))) M ds wa xs {m with debts:=m.debts ++ [d] } qs:=by
 have r:=h.rep (l:=M.lq) (c:=m.debts) (by simp[Mo.at_]) e
 have nl:=h.nl
 simp only[ML.ls,yF,xE,xM,yG,zT,not_or] at nl
 obtain⟨_,⟨b2,b3,b4,b5,b6,b7⟩,⟨c3,c4,c5,c6,c7⟩,⟨d4,d5,d6,d7⟩,⟨f5,f6,f7⟩,⟨g6,g7⟩,k7,k8⟩:=nl
 refine h.put (l:=M.lq) (by simp[ML.ls]) rfl rfl rfl fun p hp=>?_
 simp only[Mo.at_,xE] at hp ⊢
 rcases hp with rfl | rfl | rfl | rfl | rfl | rfl | hp
 ·exact .inl ⟨by simp,b3⟩
 ·exact .inl ⟨by simp,c3⟩
 ·exact .inr ⟨rfl,r.snoc hd⟩
 ·exact .inl ⟨by simp,Ne.symm d4⟩
 ·exact .inl ⟨by simp,Ne.symm d5⟩
 ·exact .inl ⟨by simp,Ne.symm d6⟩
 ·exact .inl ⟨by simp[hp],fun z=>d7 (z▸(zF hp).1)⟩
end
section
variable{P:Program}{w:World}{K:uFg}{mg:Str->Option Value}{base:Heap}{C CM:Addr}
variable{M:ML}{ds:List Deed}{wa:Str->Addr}{xs qs:List Addr}{m:Mo}{H H':Hp}
theorem MootAt.brg(h:MootAt C CM H M ds wa xs m qs){vs:List V}{v:V}{d:D}(e:H M.lb=some (.lst vs))(hd:Rep (fz xs H) d v):MootAt C CM (upd H M.lb (.lst (vs ++ [v]))) M ds wa xs {m with brs:=m.brs ++ [d] } qs:=by
 have r:=h.rep (l:=M.lb) (c:=m.brs) (by simp[Mo.at_]) e
 have nl:=h.nl
 simp only[ML.ls,yF,xE,xM,yG,zT,not_or] at nl
 obtain⟨_,⟨b2,b3,b4,b5,b6,b7⟩,⟨c3,c4,c5,c6,c7⟩,⟨d4,d5,d6,d7⟩,⟨f5,f6,f7⟩,⟨g6,g7⟩,k7,k8⟩:=nl
 refine h.put (l:=M.lb) (by simp[ML.ls]) rfl rfl rfl fun p hp=>?_
 simp only[Mo.at_,xE] at hp ⊢
 rcases hp with rfl | rfl | rfl | rfl | rfl | rfl | hp
 ·exact .inl ⟨by simp,b2⟩
 ·exact .inr ⟨rfl,r.snoc hd⟩
 ·exact .inl ⟨by simp,Ne.symm c3⟩
 ·exact .inl ⟨by simp,Ne.symm c4⟩
 ·exact .inl ⟨by simp,Ne.symm c5⟩
 ·exact .inl ⟨by simp,Ne.symm c6⟩
 ·exact .inl ⟨by simp[hp],fun z=>c7 (z▸(zF hp).1)⟩
theorem MootAt.hap(h:MootAt C CM H M ds wa xs m qs){i:Nat}{q:Addr}{c:List D}{vs:List V}{v:V}{d:D}(hq:qs[i]? = some q)(hc:m.haps[i]? = some c)(e:H q=some (.lst vs))(hd:Rep (fz xs H) d v) :
  MootAt C CM (upd H q (.lst (vs ++ [v]))) M ds wa xs {m with haps:=m.haps.set i (c ++ [d]) } qs:=by
 have mq:q∈qs:=xF hq
 have mz:(q,c)∈qs.zip m.haps:=xF (i:=i) (by rw[zC];exact⟨hq,hc⟩)
 have r:=h.rep (l:=q) (c:=c) (by simp[Mo.at_,mz]) e
 have nl:=h.nl
 simp only[ML.ls,yF,xE,xM,yG,zT,not_or] at nl
 obtain⟨_,⟨b2,b3,b4,b5,b6,b7⟩,⟨c3,c4,c5,c6,c7⟩,⟨d4,d5,d6,d7⟩,⟨f5,f6,f7⟩,⟨g6,g7⟩,k7,k8⟩:=nl
 refine h.put (l:=q) (xJ _ mq) (List.length_set ..) rfl rfl fun p hp=>?_
 simp only[Mo.at_,xE] at hp ⊢
 rcases hp with rfl | rfl | rfl | rfl | rfl | rfl | hp
 ·exact .inl ⟨by simp,fun z:M.ld=q=>b7 (z▸mq)⟩
 ·exact .inl ⟨by simp,fun z:M.lb=q=>c7 (z▸mq)⟩
 ·exact .inl ⟨by simp,fun z:M.lq=q=>d7 (z▸mq)⟩
 ·exact .inl ⟨by simp,fun z:M.lt=q=>f7 (z▸mq)⟩
 ·exact .inl ⟨by simp,fun z:M.ly=q=>g7 (z▸mq)⟩
 ·exact .inl ⟨by simp,fun z:M.lv=q=>k7 (z▸mq)⟩
 ·obtain⟨j,hj⟩:=List.getElem?_of_mem hp
  rw[zC] at hj
  obtain⟨j1,j2⟩:=hj
  by_cases z:i=j
  ·subst z
   rw[hq] at j1
   injection j1 with j1
   rw[List.getElem?_set_self (by
    rcases Nat.lt_or_ge i m.haps.length with y | y
    ·exact y
    ·rw[List.getElem?_eq_none y] at hc;cases hc)] at j2
   injection j2 with j2
   exact .inr ⟨j1.symm,by rw[← j2];exact r.snoc hd⟩
  ·rw[List.getElem?_set_ne z] at j2
   refine .inl ⟨.inr (.inr (.inr (.inr (.inr (.inr (xF (i:=j) (by rw[zC];exact⟨j1,j2⟩))))))),fun y=>z ?_⟩
   have li:i < qs.length:=(xQ.mp hq).1
   exact(List.getElem?_inj li k8).mp (by rw[hq,j1,y])
theorem MootAt.newq(h:MootAt C CM H M ds wa xs m qs){q:Addr}(hq:H q=some (.lst []))(n:¬mo M ds wa xs qs q) :
  MootAt C CM (upd H M.lh (.lst ((qs ++ [q]).map V.ref))) M ds wa xs {m with haps:=m.haps ++ [[]] } (qs ++ [q]):=by
 have hh:=h
 have nw:=h.nown h.hl
 obtain⟨⟨dx,ob⟩,fk,ls,lh,hn,⟨kvs,p1,p2,p3⟩,nl,nx,xl,np,nd⟩:=h
 have kt:Vn H (upd H M.lh (.lst ((qs ++ [q]).map V.ref))):=Zj1 lh
 have kx:∀x∈xs,x≠M.lh:=fun x hx z=>nx x hx (z▸yC)
 have s:Same (fz xs H) (fz xs (upd H M.lh (.lst ((qs ++ [q]).map V.ref)))):=V7 kt (fun x hx o e=>by rw[Zf (kx x hx)];exact e) (fun _ z=>z)
 have nh:M.lh∉M.ls++qs:=(yF.mp nl).1
 have nq:q∉M.lh::(M.ls++qs):=fun z=>n (.inr (.inr (.inl z)))
 have nqh:q≠M.lh:=fun z=>nq (z▸yC)
 refine⟨⟨dx,by rw[Zf (fun z=>by rw[z,lh] at ob;cases ob)];exact ob⟩,fk.at fun b o hb eb=>by rw[Zf (fun z:b=M.lh=>nw (z▸hb))];exact eb,fun p hp=>?_,Zg,by rw[xC,hn];show _=(m.haps ++ [[]]).length;rw[xC];rfl,
  ⟨kvs,by rw[Zf (fun z=>by rw[z,lh] at p1;cases p1)];exact p1,p2,p3⟩,?_,fun x hx z=>?_,fun x hx=>?_,np,nd⟩
 ·by_cases z:p=(q,[])
  ·subst z
   exact⟨[],by show (upd H M.lh _) q=_;rw[Zf nqh];exact hq,rfl⟩
  ·have hp':p∈m.at_ M qs:=by
    simp only[Mo.at_,xE] at hp ⊢
    rw[List.zip_append hn] at hp
    rcases hp with y | y | y | y | y | y | y
    ·exact .inl y
    ·exact .inr (.inl y)
    ·exact .inr (.inr (.inl y))
    ·exact .inr (.inr (.inr (.inl y)))
    ·exact .inr (.inr (.inr (.inr (.inl y))))
    ·exact .inr (.inr (.inr (.inr (.inr (.inl y)))))
    ·rcases xM.mp y with y | y
     ·exact .inr (.inr (.inr (.inr (.inr (.inr y)))))
     ·exact absurd (xP.mp y) z
   exact(ls p hp').mono (fun o e=>by rw[Zf (fun z:p.1=M.lh=>nh (z▸Zey hp'))];exact e) s
 ·rw[← zH]
  refine List.nodup_append.mpr ⟨nl,yF.mpr ⟨yP,List.nodup_nil⟩,fun a ha b hb z=>nq ?_⟩
  rw[xP] at hb
  rw[← hb,← z];exact ha
 ·rw[← zH,← yG] at z
  rcases xM.mp z with z | z
  ·exact nx x hx z
  ·exact n (.inr (.inr (.inr (.inl (xP.mp z▸hx)))))
 ·obtain⟨vs,e'⟩:=xl x hx
  exact⟨vs,by rw[Zf (kx x hx)];exact e'⟩
end
section
variable{P:Program}{w:World}{K:uFg}{mg:Str->Option Value}{base:Heap}{C CM:Addr}{c:Str->Addr}
abbrev errs:List Str:=["NoName", "NoMeasure", "Unknown", "Taken", "NoThing", "NoCase", "NoOath", "NotYet", "Dead", "NoHeir", "TooMany", "SwornTwice", "Forsworn", "TooLight", "Broken", "NoDeed"]
theorem Wn{d:Int}(h:d.natAbs<=1000000000000000000):d.natAbs.log2 < 1920:=by
 by_cases z:d.natAbs=0
 ·rw[z];decide +kernel
 ·rw[Nat.log2_lt z]
  exact yO h (by decide +kernel)
def okI(d:Int):Prop:=d.natAbs<=1000000000000000000
def due(E:XK)(c:Str->Addr)(H:Hp)(k:Prop):Option Str->Prop
 | none=>k
 | some x=>E (.ref (c x)) none H
def eM(lo hi d:Int):Option Str:=if lo<=d/\d<=hi then none else some "NoMeasure"
inductive spM (lo hi:Int) (c:Str->Addr) (vs:List V) (H:Hp) (Q:VK) (E:XK):Prop
 | mk (d:Int) (h0:vs = [.int d]) (h1:okI d) (h2:due E c H (Q .non H) (eM lo hi d))
theorem Zwp(Zbo:Has K mg "check_day" Zff)(C0:∃t,mg "LAST_DAY" = some (.int 9999 t))(er:Er K mg c errs):FnX P w K mg base "check_day" 1 (spM 0 9999 c):=by
 obtain⟨t0,c_LAST_DAY⟩:=C0
 have r_LAST_DAY:RelV (.int 9999) (.int 9999 t0):=⟨t0,rfl⟩
 refine Zbo.fx ["day"] ["day"] fun H vs Q E hr h=>?_
 obtain⟨d,rfl,hs,k⟩:=h
 refine⟨rfl,_,(Ze (Zo (Vk (Zai Yx Yx Zc (qvN 0) (Yu c_LAST_DAY r_LAST_DAY))) (Ze (Y8 Yy er (Y7 (Yz (qvN 0) (Yr Y6))))) Zq)),?_⟩
 unfold eM at k
 refine⟨_,rfl,_,_,rfl,rfl,_,rfl,Zr (fun h0=>?_) (fun z=>?_)⟩
 ·refine⟨_,_,rfl,rfl,_,rfl,Wb (fun z=>?_) (fun h1=>?_)⟩
  ·rw[if_neg (fun y=>z y.2)] at k
   exact⟨_,rfl,.inr ⟨d,rfl,Wn hs⟩,by decide +kernel,fun _=>k⟩
  ·rw[if_pos ⟨h0,h1⟩] at k;exact k
 ·rw[if_neg (fun y=>z y.1)] at k
  exact⟨false,rfl,Yl ⟨_,rfl,.inr ⟨d,rfl,Wn hs⟩,by decide +kernel,fun _=>k⟩⟩
theorem Zwq(Zbt:Has K mg "check_weight" Zfg)(C0:∃t,mg "MOST_WEIGHT" = some (.int 1000 t))(er:Er K mg c errs):FnX P w K mg base "check_weight" 1 (spM 1 1000 c):=by
 obtain⟨t0,c_MOST_WEIGHT⟩:=C0
 have r_MOST_WEIGHT:RelV (.int 1000) (.int 1000 t0):=⟨t0,rfl⟩
 refine Zbt.fx ["weight"] ["weight"] fun H vs Q E hr h=>?_
 obtain⟨d,rfl,hs,k⟩:=h
 refine⟨rfl,_,(Ze (Zo (Vk (Zai Yx Yx Zc (qvN 0) (Yu c_MOST_WEIGHT r_MOST_WEIGHT))) (Ze (Y8 Yy er (Y7 (Yz (qvN 0) (Yr Y6))))) Zq)),?_⟩
 unfold eM at k
 refine⟨_,rfl,_,_,rfl,rfl,_,rfl,Zr (fun h0=>?_) (fun z=>?_)⟩
 ·refine⟨_,_,rfl,rfl,_,rfl,Wb (fun z=>?_) (fun h1=>?_)⟩
  ·rw[if_neg (fun y=>z y.2)] at k
   exact⟨_,rfl,.inr ⟨d,rfl,Wn hs⟩,by decide +kernel,fun _=>k⟩
  ·rw[if_pos ⟨h0,h1⟩] at k;exact k
 ·rw[if_neg (fun y=>z y.1)] at k
  exact⟨false,rfl,Yl ⟨_,rfl,.inr ⟨d,rfl,Wn hs⟩,by decide +kernel,fun _=>k⟩⟩
abbrev Zwr:Stmt:=top 28
abbrev Zkx:Stmt:=top 29
theorem Zws(Zfx:Has K mg "check_money" Zkx)(C0:∃t,mg "MOST_MONEY" = some (.int 1000000 t))(er:Er K mg c errs):FnX P w K mg base "check_money" 1 (spM 1 1000000 c):=by
 obtain⟨t0,c_MOST_MONEY⟩:=C0
 have r_MOST_MONEY:RelV (.int 1000000) (.int 1000000 t0):=⟨t0,rfl⟩
 refine Zfx.fx ["many"] ["many"] fun H vs Q E hr h=>?_
 obtain⟨d,rfl,hs,k⟩:=h
 refine⟨rfl,_,(Ze (Zo (Vk (Zai Yx Yx Zc (qvN 0) (Yu c_MOST_MONEY r_MOST_MONEY))) (Ze (Y8 Yy er (Y7 (Yz (qvN 0) (Yr Y6))))) Zq)),?_⟩
 unfold eM at k
 refine⟨_,rfl,_,_,rfl,rfl,_,rfl,Zr (fun h0=>?_) (fun z=>?_)⟩
 ·refine⟨_,_,rfl,rfl,_,rfl,Wb (fun z=>?_) (fun h1=>?_)⟩
  ·rw[if_neg (fun y=>z y.2)] at k
   exact⟨_,rfl,.inr ⟨d,rfl,Wn hs⟩,by decide +kernel,fun _=>k⟩
  ·rw[if_pos ⟨h0,h1⟩] at k;exact k
 ·rw[if_neg (fun y=>z y.1)] at k
  exact⟨false,rfl,Yl ⟨_,rfl,.inr ⟨d,rfl,Wn hs⟩,by decide +kernel,fun _=>k⟩⟩
def Yq(ds:List Deed)(n:Str):Option Str:=if Zk ds n=none then some "Unknown" else none
inductive spKnownX (C:Addr) (c:Str->Addr) (vs:List V) (H:Hp) (Q:VK) (E:XK):Prop
 | mk (L:FL) (ds:List Deed) (n:Str) (h0:vs = [.ref L.p,.str n]) (h1:FolkAt C H L ds) (h2:n.length<=100) (h3:due E c H (Q .non H) (Yq ds n))
theorem Zwt(Zbu:HasM K C "check_known" "Folk.check_known" Zfh)(Tc:TxC K C)(er:Er K mg c errs):MtX P w K mg base C "check_known" 1 (spKnownX C c):=by
 refine Zbu.mx ["self", "name"] ["self", "name"] fun H vs Q E hr h=>?_
 obtain⟨L,ds,n,rfl,F,ho,k⟩:=h
 refine⟨rfl,_,(Ze (Zo (Zl (Zhp hr) (qvN 1) (Zz (qvN 0)) rfl) (Ze (Y8 Yy er (Y7 (Yr (Yz (qvN 1) Y6))))) Zq)),?_⟩
 obtain⟨dx,ob⟩:=F.ob
 obtain⟨kvs,c1,c2,c3⟩:=F.c
 refine⟨_,rfl,_,rfl,L.p,C,dx,_,_,rfl,ob,Tc.cl,Tc.nc,Up _ _ _ _,L.dc,_,rfl,DGet.k (k:=Sum.inr n) c1,_,rfl,?_⟩
 unfold Yq at k
 rw[c3]
 cases hn:Zk ds n with
 | none =>
  rw[if_pos hn] at k
  exact Yl ⟨by decide +kernel,_,rfl,.inl ⟨n,rfl,by lia⟩,fun _=>k⟩
 | some d =>
  rw[if_neg (by rw[hn];intro z;cases z)] at k
  exact Z8 k
def Ys(d day:Int):Option Str:=if day < d then some "NotYet" else none
inductive spThereX (C:Addr) (c:Str->Addr) (vs:List V) (H:Hp) (Q:VK) (E:XK):Prop
 | mk (L:FL) (ds:List Deed) (n:Str) (d day:Int) (h0:vs = [.ref L.p,.str n,.int day]) (h1:FolkAt C H L ds) (h2:Zk ds n=some d) (h3:n.length<=100) (h4:okI day) (h5:due E c H (Q .non H) (Ys d day))
theorem Zwu(Zbv:HasM K C "check_there" "Folk.check_there" Zfi)(Tc:TxC K C)(er:Er K mg c errs):MtX P w K mg base C "check_there" 1 (spThereX C c):=by
 refine Zbv.mx ["self", "name", "day"] ["self", "name", "day"] fun H vs Q E hr h=>?_
 obtain⟨L,ds,n,d,day,rfl,F,hn,ho,hi,k⟩:=h
 refine⟨rfl,_,(Ze (Zo (Zl V6 (qvN 2) (Zcb hr (Zz (qvN 0)) (qvN 1) (fun _ _=>rfl)) (Zm _)) (Ze (Y8 Yy er (Y7 (Yz (qvN 1) (Yr (Yz (qvN 2) Y6)))))) Zq)),?_⟩
 obtain⟨dx,ob⟩:=F.ob
 obtain⟨kvs,c1,c2,c3⟩:=F.c
 have g:=DGet.k (k:=Sum.inr n) c1
 rw[c3,hn] at g
 refine⟨_,rfl,_,rfl,L.p,C,dx,_,_,rfl,ob,Tc.cl,Tc.nc,Up _ _ _ _,_,rfl,L.dc,.int d,rfl,g,?_⟩
 unfold Ys at k
 refine⟨_,_,rfl,rfl,_,rfl,Zr (fun z=>?_) (fun z=>?_)⟩
 ·rw[if_pos z] at k
  exact⟨_,rfl,.inl ⟨n,rfl,by lia⟩,by decide +kernel,_,rfl,.inr ⟨day,rfl,Wn hi⟩,fun _=>k⟩
 ·rw[if_neg z] at k;exact k
def Wv(ds:List Deed)(n:Str)(day:Int):Option Str:=if Va ds n day=true then some "Dead" else none
inductive spLivingX (C:Addr) (c:Str->Addr) (vs:List V) (H:Hp) (Q:VK) (E:XK):Prop
 | mk (L:FL) (ds:List Deed) (n:Str) (day:Int) (h0:vs = [.ref L.p,.str n,.int day]) (h1:FolkAt C H L ds) (h2:n.length<=100) (h3:okI day) (h4:due E c H (Q .non H) (Wv ds n day))
theorem Zwv(Zbx:HasM K C "check_living" "Folk.check_living" Zfo)(Tc:TxC K C)(er:Er K mg c errs)(M_died_by:Mt P w K mg base C "died_by" ["self", "name", "day"] 1 (spDiedBy C)):MtX P w K mg base C "check_living" 2 (spLivingX C c):=by
 refine Zbx.mx ["self", "name", "day"] ["self", "name", "day"] fun H vs Q E hr h=>?_
 obtain⟨L,ds,n,day,rfl,F,ho,hi,k⟩:=h
 refine⟨rfl,_,(Ze (Zo (V5 (Wi (qvN 0) Tc.cl M_died_by (Za (qvN 1) (Za (qvN 2) Zb)))) (Ze (Y8 Yy er (Y7 (Yz (qvN 1) (Yr (Yz (qvN 2) Y6)))))) Zq)),?_⟩
 obtain⟨dx,ob⟩:=F.ob
 refine⟨_,rfl,L.p,dx,_,rfl,ob,Yi _ _ _ _ (by decide +kernel),_,rfl,_,rfl,L,ds,n,day,rfl,F,_,rfl,?_⟩
 unfold Wv at k
 cases hd:Va ds n day with
 | true =>
  rw[if_pos hd] at k
  exact Yl ⟨_,rfl,.inl ⟨n,rfl,by lia⟩,by decide +kernel,_,rfl,.inr ⟨day,rfl,Wn hi⟩,fun _=>k⟩
 | false =>
  rw[if_neg (by rw[hd];decide)] at k
  exact Z8 k
def Wo(ds:List Deed)(n:Str):Option Str:=if Zy ds n=none then none else some "Dead"
inductive spUntoldX (C:Addr) (c:Str->Addr) (vs:List V) (H:Hp) (Q:VK) (E:XK):Prop
 | mk (L:FL) (ds:List Deed) (n:Str) (h0:vs = [.ref L.p,.str n]) (h1:FolkAt C H L ds) (h2:n.length<=100) (h3:due E c H (Q .non H) (Wo ds n))
theorem Zww(Zbz:HasM K C "check_untold" "Folk.check_untold" Zfr)(Tc:TxC K C)(er:Er K mg c errs):MtX P w K mg base C "check_untold" 1 (spUntoldX C c):=by
 refine Zbz.mx ["self", "name"] ["self", "name"] fun H vs Q E hr h=>?_
 obtain⟨L,ds,n,rfl,F,ho,k⟩:=h
 refine⟨rfl,_,(Ze (Zo (Zl (Zar hr) (qvN 1) (Zz (qvN 0)) rfl) (Ze (Y8 Yy er (Y7 (Yr (Yz (qvN 1) (Yr Y6)))))) Zq)),?_⟩
 obtain⟨dx,ob⟩:=F.ob
 obtain⟨kvs,c1,c2,c3⟩:=F.d
 refine⟨_,rfl,_,rfl,L.p,C,dx,_,_,rfl,ob,Tc.cl,Tc.nd,Za0 _ _ _ _,L.dd,_,rfl,DGet.k (k:=Sum.inr n) c1,_,rfl,?_⟩
 unfold Wo at k
 rw[c3]
 cases hn:Zy ds n with
 | none =>
  rw[if_pos hn] at k
  exact Z8 k
 | some x =>
  rw[if_neg (by rw[hn];intro z;cases z)] at k
  exact Yl ⟨by decide +kernel,_,rfl,.inl ⟨n,rfl,by lia⟩,by decide +kernel,fun _=>k⟩
def okN(n:Str):Prop:=n.length<=100/\∀x∈n.cps.toList,x < 16 ^ 8
def Ug(ds:List Deed)(n:Str)(day wt:Int):Option Str:=if Y2 n=false then some "NoName" else (eM 0 9999 day).or ((eM 1 1000 wt).or ((if Zk ds n=none then none else some ("Taken" : Str)).or (if (We ds).length < 40 then none else some ("TooMany" : Str))))
inductive spComingX (C:Addr) (c:Str->Addr) (vs:List V) (H:Hp) (Q:VK) (E:XK):Prop
 | mk (L:FL) (ds:List Deed) (wa:Str->Addr) (n:Str) (day wt:Int) (h0:vs = [.ref L.p,.str n,.int day,.int wt]) (h1:Fk C H L ds wa) (h2:ds.length<=1000) (h3:okN n) (h4:okI day) (h5:okI wt) (h6:∀H',Same H H'->due E c H' (Q .non H') (Ug ds n day wt))
theorem Zwx(Zbw:HasM K C "check_coming" "Folk.check_coming" Zfl)(T:Txt mg)(Tc:TxC K C)(C0:∃t,mg "MOST_FOLK" = some (.int 40 t))(er:Er K mg c errs)(Zfm:Fn P w K mg base "is_name" ["text"] 1 spIsName)(Wf:FnX P w K mg base "check_day" 1 (spM 0 9999 c))(Za1:FnX P w K mg base "check_weight" 1 (spM 1 1000 c)):MtX P w K mg base C "check_coming" 2 (spComingX C c):=by
 obtain⟨t0,c_MOST_FOLK⟩:=C0
 have r_MOST_FOLK:RelV (.int 40) (.int 40 t0):=⟨t0,rfl⟩
 refine Zbw.mx ["self", "name", "day", "weight"] ["self", "name", "day", "weight"] fun H vs Q E hr h=>?_
 obtain⟨L,ds,wa,n,day,wt,rfl,F1,hl,ho,hi,hw,k⟩:=h
 have F0:=F1.f
 refine⟨rfl,_,(Zd (Zo (Vk (V5 (Zw Zfm (Za (qvN 1) Zb)))) (Ze (Y8 Yy er (Y7 (Zuc (qvN 1) (Yr Y6))))) Zq)
 (Zd (Zt (Vm Z5 Wf (Za (qvN 2) Zb)))
 (Zd (Zt (Vm Z5 Za1 (Za (qvN 3) Zb)))
 (Zd (Zo (Zl (Zar hr) (qvN 1) (Zz (qvN 0)) rfl) (Ze (Y8 Yy er (Y7 (Yr (Yz (qvN 1) (Yr Y6)))))) Zq)
 (Ze (Zo (Zl Uw (Z7 Zhq T.len Yv (Za (Zz (qvN 0)) Zb)) (Yu c_MOST_FOLK r_MOST_FOLK) (Zm _)) (Ze (Y8 Yy er (Y7 (Yr (Yz (Yu c_MOST_FOLK r_MOST_FOLK) (Yr Y6)))))) Zq)))))),?_⟩
 have hl':=ho.1
 refine⟨_,rfl,n,rfl,by lia,fun H1 s1=>⟨_,rfl,?_⟩⟩
 replace k:=k H1 s1
 unfold Ug at k
 cases e:Y2 n with
 | false =>
  rw[if_pos e] at k
  exact Yl ⟨_,rfl,⟨n,rfl,by lia,ho.2⟩,by decide +kernel,fun _=>k⟩
 | true =>
  rw[if_neg (by rw[e];decide)] at k
  refine Z8 ?_
  have F:=F0.keep (Same.n s1)
  obtain⟨dx,ob⟩:=F.ob
  obtain⟨kvs,c1,c2,c3⟩:=F.c
  obtain⟨kv2,c4,c5⟩:=F1.cnt
  obtain rfl:kvs=kv2:=by have:=s1 _ _ c4;rw[c1] at this;cases this;rfl
  have g:=DGet.k (k:=Sum.inr n) c1
  rw[c3] at g
  refine⟨_,rfl,day,rfl,hi,?_⟩
  cases ed:eM 0 9999 day with
  | some x=>rw[ed] at k;exact k
  | none =>
  rw[ed,xB] at k
  refine⟨_,rfl,wt,rfl,hw,?_⟩
  cases ew:eM 1 1000 wt with
  | some x=>rw[ew] at k;exact k
  | none =>
  rw[ew,xB] at k
  refine⟨_,rfl,_,rfl,L.p,C,dx,_,_,rfl,ob,Tc.cl,Tc.nc,Up _ _ _ _,L.dc,_,rfl,g,_,rfl,?_⟩
  cases hc:Zk ds n with
  | some d0 =>
   rw[if_neg (by rw[hc];intro z;cases z)] at k
   exact Yl ⟨by decide +kernel,_,rfl,.inl ⟨n,rfl,by lia⟩,by decide +kernel,fun _=>k⟩
  | none =>
   rw[if_pos hc,xB] at k
   refine Z8 ⟨_,rfl,L.p,C,dx,_,_,rfl,ob,Tc.cl,Tc.nc,Up _ _ _ _,L.dc,kvs,rfl,c1,_,_,rfl,rfl,_,rfl,Zr (fun z=>?_) (fun z=>?_)⟩
   ·rw[if_neg (by lia)] at k
    exact⟨by decide +kernel,.inr ⟨40,rfl,by decide +kernel⟩,by decide +kernel,fun _=>k⟩
   ·rw[if_pos (by lia)] at k
    exact k
def Uh(ds:List Deed)(n:Str)(day wt:Int):Option Str:=(eM 0 9999 day).or ((eM 1 1000 wt).or ((Yq ds n).or ((Ys ((Zk ds n).getD 0) day).or (Wv ds n day))))
inductive spRisX (C:Addr) (c:Str->Addr) (vs:List V) (H:Hp) (Q:VK) (E:XK):Prop
 | mk (L:FL) (ds:List Deed) (n:Str) (day wt:Int) (h0:vs = [.ref L.p,.str n,.int day,.int wt]) (h1:FolkAt C H L ds) (h2:n.length<=100) (h3:okI day) (h4:okI wt) (h5:due E c H (Q .non H) (Uh ds n day wt))
theorem Zav{ds:List Deed}{n:Str}(h:Yq ds n=none):∃d,Zk ds n=some d:=by
 unfold Yq at h
 cases e:Zk ds n with
 | none=>rw[if_pos e] at h;cases h
 | some d=>exact⟨d,rfl⟩
theorem Zwy(Zby:HasM K C "check_rise" "Folk.check_rise" Zfp)(Tc:TxC K C)(Wf:FnX P w K mg base "check_day" 1 (spM 0 9999 c))(Za1:FnX P w K mg base "check_weight" 1 (spM 1 1000 c))(M_check_known:MtX P w K mg base C "check_known" 1 (spKnownX C c))(M_check_there:MtX P w K mg base C "check_there" 1 (spThereX C c))(M_check_living:MtX P w K mg base C "check_living" 2 (spLivingX C c)):MtX P w K mg base C "check_rise" 3 (spRisX C c):=by
 refine Zby.mx ["self", "name", "day", "weight"] ["self", "name", "day", "weight"] fun H vs Q E hr h=>?_
 obtain⟨L,ds,n,day,wt,rfl,F,ho,hi,hw,k⟩:=h
 refine⟨rfl,_,(Zd (Zt (Vm Z5 Wf (Za (qvN 2) Zb)))
 (Zd (Zt (Vm Z5 Za1 (Za (qvN 3) Zb)))
 (Zd (Zt (Ym Z5 (qvN 0) Tc.cl M_check_known (Za (qvN 1) Zb)))
 (Zd (Zt (Ym Z5 (qvN 0) Tc.cl M_check_there (Za (qvN 1) (Za (qvN 2) Zb))))
 (Ze (Zt (Ym Z5 (qvN 0) Tc.cl M_check_living (Za (qvN 1) (Za (qvN 2) Zb))))))))),?_⟩
 obtain⟨dx,ob⟩:=F.ob
 unfold Uh at k
 refine⟨_,rfl,day,rfl,hi,?_⟩
 cases ed:eM 0 9999 day with
 | some x=>rw[ed] at k;exact k
 | none =>
 rw[ed,xB] at k
 refine⟨_,rfl,wt,rfl,hw,?_⟩
 cases ew:eM 1 1000 wt with
 | some x=>rw[ew] at k;exact k
 | none =>
 rw[ew,xB] at k
 refine⟨_,rfl,L.p,dx,_,rfl,ob,Yi _ _ _ _ (by decide +kernel),_,rfl,L,ds,n,rfl,F,ho,?_⟩
 cases ek:Yq ds n with
 | some x=>rw[ek] at k;exact k
 | none =>
 rw[ek,xB] at k
 obtain⟨d,hc⟩:=Zav ek
 rw[hc,Option.getD_some] at k
 refine⟨_,rfl,L.p,dx,_,rfl,ob,Yi _ _ _ _ (by decide +kernel),_,rfl,_,rfl,L,ds,n,d,day,rfl,F,hc,ho,hi,?_⟩
 cases et:Ys d day with
 | some x=>rw[et] at k;exact k
 | none =>
 rw[et,xB] at k
 exact⟨_,rfl,L.p,dx,_,rfl,ob,Yi _ _ _ _ (by decide +kernel),_,rfl,_,rfl,L,ds,n,day,rfl,F,ho,hi,k⟩
def Uq(ds:List Deed)(n he:Str)(day:Int):Option Str:=(eM 0 9999 day).or ((Yq ds n).or ((Yq ds he).or ((Ys ((Zk ds n).getD 0) day).or ((Ys ((Zk ds he).getD 0) day).or ((Wo ds n).or (if he=n\/Zy ds he≠none then some ("NoHeir" : Str) else none))))))
inductive spDiX (C:Addr) (c:Str->Addr) (vs:List V) (H:Hp) (Q:VK) (E:XK):Prop
 | mk (L:FL) (ds:List Deed) (n he:Str) (day:Int) (h0:vs = [.ref L.p,.str n,.int day,.str he]) (h1:FolkAt C H L ds) (h2:n.length<=100) (h3:he.length<=100) (h4:okI day) (h5:due E c H (Q .non H) (Uq ds n he day))
theorem Zwz(Zb0:HasM K C "check_death" "Folk.check_death" Zfs)(Tc:TxC K C)(er:Er K mg c errs)(Wf:FnX P w K mg base "check_day" 1 (spM 0 9999 c))(M_check_known:MtX P w K mg base C "check_known" 1 (spKnownX C c))(M_check_there:MtX P w K mg base C "check_there" 1 (spThereX C c))(M_check_untold:MtX P w K mg base C "check_untold" 1 (spUntoldX C c)):MtX P w K mg base C "check_death" 2 (spDiX C c):=by
 refine Zb0.mx ["self", "name", "day", "heir"] ["self", "name", "day", "heir"] fun H vs Q E hr h=>?_
 obtain⟨L,ds,n,he,day,rfl,F,ho,ho',hi,k⟩:=h
 refine⟨rfl,_,(Zd (Zt (Vm Z5 Wf (Za (qvN 2) Zb)))
 (Zd (Zt (Ym Z5 (qvN 0) Tc.cl M_check_known (Za (qvN 1) Zb)))
 (Zd (Zt (Ym Z5 (qvN 0) Tc.cl M_check_known (Za (qvN 3) Zb)))
 (Zd (Zt (Ym Z5 (qvN 0) Tc.cl M_check_there (Za (qvN 1) (Za (qvN 2) Zb))))
 (Zd (Zt (Ym Z5 (qvN 0) Tc.cl M_check_there (Za (qvN 3) (Za (qvN 2) Zb))))
 (Zd (Zt (Ym Z5 (qvN 0) Tc.cl M_check_untold (Za (qvN 1) Zb)))
 (Ze (Zo (QW.pt (Zbn (Zl Z4 (qvN 3) (qvN 1) (Zm _)) (Zbe (Zl (Zar hr) (qvN 3) (Zz (qvN 0)) rfl)))) (Ze (Y8 Yy er (Y7 (Yz (qvN 3) (Yr (Yz (qvN 1) Y6)))))) Zq)))))))),?_⟩
 obtain⟨dx,ob⟩:=F.ob
 unfold Uq at k
 refine⟨_,rfl,day,rfl,hi,?_⟩
 cases ed:eM 0 9999 day with
 | some x=>rw[ed] at k;exact k
 | none =>
 rw[ed,xB] at k
 refine⟨_,rfl,L.p,dx,_,rfl,ob,Yi _ _ _ _ (by decide +kernel),_,rfl,L,ds,n,rfl,F,ho,?_⟩
 cases ek:Yq ds n with
 | some x=>rw[ek] at k;exact k
 | none =>
 rw[ek,xB] at k
 obtain⟨d,hc⟩:=Zav ek
 refine⟨_,rfl,L.p,dx,_,rfl,ob,Yi _ _ _ _ (by decide +kernel),_,rfl,L,ds,he,rfl,F,ho',?_⟩
 cases eh:Yq ds he with
 | some x=>rw[eh] at k;exact k
 | none =>
 rw[eh,xB] at k
 obtain⟨d2,hc2⟩:=Zav eh
 rw[hc,hc2,Option.getD_some,Option.getD_some] at k
 refine⟨_,rfl,L.p,dx,_,rfl,ob,Yi _ _ _ _ (by decide +kernel),_,rfl,_,rfl,L,ds,n,d,day,rfl,F,hc,ho,hi,?_⟩
 cases et:Ys d day with
 | some x=>rw[et] at k;exact k
 | none =>
 rw[et,xB] at k
 refine⟨_,rfl,L.p,dx,_,rfl,ob,Yi _ _ _ _ (by decide +kernel),_,rfl,_,rfl,L,ds,he,d2,day,rfl,F,hc2,ho',hi,?_⟩
 cases et2:Ys d2 day with
 | some x=>rw[et2] at k;exact k
 | none =>
 rw[et2,xB] at k
 refine⟨_,rfl,L.p,dx,_,rfl,ob,Yi _ _ _ _ (by decide +kernel),_,rfl,L,ds,n,rfl,F,ho,?_⟩
 cases eu:Wo ds n with
 | some x=>rw[eu] at k;exact k
 | none =>
 rw[eu,xB] at k
 obtain⟨kvs,c1,c2,c3⟩:=F.d
 have g:=DGet.k (k:=Sum.inr he) c1
 rw[c3] at g
 refine⟨_,rfl,_,rfl,rfl,_,rfl,Zr (fun z=>?_) (fun z=>?_)⟩
 ·have z':he=n:=by injection z
  rw[if_pos (.inl z')] at k
  exact Yl ⟨_,rfl,.inl ⟨he,rfl,by lia⟩,by decide +kernel,_,rfl,.inl ⟨n,rfl,by lia⟩,fun _=>k⟩
 ·have z':he≠n:=fun y=>z (by rw[y])
  refine⟨_,rfl,_,rfl,L.p,C,dx,_,_,rfl,ob,Tc.cl,Tc.nd,Za0 _ _ _ _,L.dd,_,rfl,g,_,rfl,?_⟩
  cases hh:Zy ds he with
  | none =>
   rw[if_neg (by rw[hh];exact fun y=>y.elim z' fun w=>w rfl)] at k
   exact Z8 k
  | some x =>
   rw[if_pos (.inr (by rw[hh];intro w;cases w))] at k
   exact Yl ⟨_,rfl,.inl ⟨he,rfl,by lia⟩,by decide +kernel,_,rfl,.inl ⟨n,rfl,by lia⟩,fun _=>k⟩
abbrev inB(i:Int)(n:Nat):Prop:=0<=i/\i < n
def Ui(m:Mo)(i:Int):Option Str:=if inB i m.brs.length then none else some "NoThing"
inductive spThingX (C CM:Addr) (c:Str->Addr) (vs:List V) (H:Hp) (Q:VK) (E:XK):Prop
 | mk (M:ML) (ds:List Deed) (wa:Str->Addr) (xs:List Addr) (m:Mo) (qs:List Addr) (i:Int) (h0:vs = [.ref M.p,.int i]) (h1:MootAt C CM H M ds wa xs m qs) (h2:okI i) (h3:due E c H (Q .non H) (Ui m i))
abbrev Zky:Stmt:=Yt (top 57) 41
theorem Zmx(Zfy:HasM K CM "check_thing" "Moot.check_thing" Zky)(T:Txt mg)(Tm:TxCMoot K CM)(er:Er K mg c errs):MtX P w K mg base CM "check_thing" 1 (spThingX C CM c):=by
 refine Zfy.mx ["self", "thing"] ["self", "thing"] fun H vs Q E hr h=>?_
 obtain⟨M,ds,wa,xs,m,qs,i,rfl,W,hs,k⟩:=h
 refine⟨rfl,_,(Ze (Zo (Vk (Zai Yx V6 Zc (qvN 1) (Z7 Wm T.len Yv (Za (Zz (qvN 0)) Zb)))) (Ze (Y8 Yy er (Y7 (Yr (Yz (qvN 1) Y6))))) Zq)),?_⟩
 obtain⟨dx,ob⟩:=W.ob
 obtain⟨vs,b1,_,hl⟩:=(W.ls (M.lb,m.brs) (by simp[Mo.at_])).get
 dsimp only at b1 hl
 unfold Ui at k
 rw[← hl] at k
 refine⟨_,rfl,_,_,rfl,rfl,_,rfl,Zr (fun h0=>?_) (fun z=>?_)⟩
 ·refine⟨_,rfl,M.p,CM,dx,_,_,rfl,ob,Tm.cl,Tm.nb,Zb9 _,M.lb,vs,rfl,.inl (SqL.of b1),_,_,rfl,rfl,_,rfl,Wb (fun z=>?_) (fun h1=>?_)⟩
  ·rw[if_neg (fun y=>z y.2)] at k
   exact⟨by decide +kernel,_,rfl,.inr ⟨i,rfl,Wn hs⟩,fun _=>k⟩
  ·rw[if_pos ⟨h0,h1⟩] at k;exact k
 ·rw[if_neg (fun y=>z y.1)] at k
  exact⟨false,rfl,Yl ⟨by decide +kernel,_,rfl,.inr ⟨i,rfl,Wn hs⟩,fun _=>k⟩⟩
inductive spCaseX (c:Str->Addr) (vs:List V) (H:Hp) (Q:VK) (E:XK):Prop
 | mk (l:Addr) (us:List V) (i:Int) (h0:vs = [.ref l,.int i]) (h1:H l=some (.lst us)) (h2:okI i) (h3:due E c H (Q .non H) (if inB i us.length then none else some "NoCase"))
abbrev Zkz:Stmt:=top 48
theorem Zw0(Zfz:Has K mg "check_case" Zkz)(T:Txt mg)(er:Er K mg c errs):FnX P w K mg base "check_case" 1 (spCaseX c):=by
 refine Zfz.fx ["suits", "case"] ["suits", "case"] fun H vs Q E hr h=>?_
 obtain⟨l,us,i,rfl,hl,hs,k⟩:=h
 refine⟨rfl,_,(Ze (Zo (Vk (Zai Yx V6 Zc (qvN 1) (Z7 Wm T.len Yv (Za (qvN 0) Zb)))) (Ze (Y8 Yy er (Y7 (Yr (Yz (qvN 1) Y6))))) Zq)),?_⟩
 refine⟨_,rfl,_,_,rfl,rfl,_,rfl,Zr (fun h0=>?_) (fun z=>?_)⟩
 ·refine⟨_,rfl,l,us,rfl,.inl (SqL.of hl),_,_,rfl,rfl,_,rfl,Wb (fun z=>?_) (fun h1=>?_)⟩
  ·rw[if_neg (fun y=>z y.2)] at k
   exact⟨by decide +kernel,_,rfl,.inr ⟨i,rfl,Wn hs⟩,fun _=>k⟩
  ·rw[if_pos ⟨h0,h1⟩] at k;exact k
 ·rw[if_neg (fun y=>z y.1)] at k
  exact⟨false,rfl,Yl ⟨by decide +kernel,_,rfl,.inr ⟨i,rfl,Wn hs⟩,fun _=>k⟩⟩
def Yj(m:Mo):Option Str:=if m.deeds.length < 400 then none else some "TooMany"
inductive spMomX (C CM:Addr) (c:Str->Addr) (vs:List V) (H:Hp) (Q:VK) (E:XK):Prop
 | mk (M:ML) (ds:List Deed) (wa:Str->Addr) (xs:List Addr) (m:Mo) (qs:List Addr) (h0:vs = [.ref M.p]) (h1:MootAt C CM H M ds wa xs m qs) (h2:due E c H (Q .non H) (Yj m))
abbrev Zk0:Stmt:=Yt (top 57) 43
theorem Zmt(Zf0:HasM K CM "check_moments" "Moot.check_moments" Zk0)(T:Txt mg)(Tm:TxCMoot K CM)(er:Er K mg c errs)(C0:∃t,mg "MOST_MOMENTS" = some (.int 400 t)):MtX P w K mg base CM "check_moments" 1 (spMomX C CM c):=by
 obtain⟨t0,c_MOST_MOMENTS⟩:=C0
 have r_MOST_MOMENTS:RelV (.int 400) (.int 400 t0):=⟨t0,rfl⟩
 refine Zf0.mx ["self"] ["self"] fun H vs Q E hr h=>?_
 obtain⟨M,ds,wa,xs,m,qs,rfl,W,k⟩:=h
 refine⟨rfl,_,(Ze (Zo (Zl Uw (Z7 Wm T.len Yv (Za (Zz (qvN 0)) Zb)) (Yu c_MOST_MOMENTS r_MOST_MOMENTS) (Zm _)) (Ze (Y8 Yy er (Y7 (Yr (Yz (Yu c_MOST_MOMENTS r_MOST_MOMENTS) (Yr Y6)))))) Zq)),?_⟩
 obtain⟨dx,ob⟩:=W.ob
 obtain⟨vs,d1,_,d2⟩:=(W.ls (M.ld,m.deeds) (by simp[Mo.at_])).get
 dsimp only at d1 d2
 unfold Yj at k
 refine⟨_,rfl,M.p,CM,dx,_,_,rfl,ob,Tm.cl,Tm.nd,Uf _,M.ld,vs,rfl,.inl (SqL.of d1),_,_,rfl,rfl,_,rfl,Zr (fun z=>?_) (fun z=>?_)⟩
 ·rw[if_neg (by lia)] at k
  exact⟨by decide +kernel,.inr ⟨400,rfl,by decide +kernel⟩,by decide +kernel,fun _=>k⟩
 ·rw[if_pos (by lia)] at k;exact k
end
section
variable{P:Program}{w:World}{K:uFg}{mg:Str->Option Value}{base:Heap}{c:Str->Addr}
def Vp(ss:List Suit)(i:Int)(n:Str):Option Str:=match ss[i.toNat]? with
 | some t=>if inB i ss.length then (if n∈(t.ones++t.others).map (·.1) then none else some "NoOath") else some "NoCase"
 | none=>some "NoCase"
inductive spOathX (c:Str->Addr) (vs:List V) (H:Hp) (Q:VK) (E:XK):Prop
 | mk (l:Addr) (ss:List Suit) (i:Int) (n:Str) (h0:vs = [.ref l,.int i,.str n]) (h1:SuitsAt H ss l) (h2:(∀t∈ss,U8 t)) (h3:okI i) (h4:n.length<=100) (h5:∀H',Same H H'->due E c H' (Q .non H') (Vp ss i n))
abbrev Zk1:Stmt:=top 49
theorem Zw1(Zf1:Has K mg "check_oath" Zk1)(T:Txt mg)(C0:∃t,mg "ONES" = some (.int 0 t))(C1:∃t,mg "OTHERS" = some (.int 1 t))(er:Er K mg c errs)(Zw2:FnX P w K mg base "check_case" 1 (spCaseX c)) :
  FnX P w K mg base "check_oath" 2 (spOathX c):=by
 obtain⟨t0,c_ONES⟩:=C0
 obtain⟨t1,c_OTHERS⟩:=C1
 have r_ONES:RelV (.int 0) (.int 0 t0):=⟨t0,rfl⟩
 have r_OTHERS:RelV (.int 1) (.int 1 t1):=⟨t1,rfl⟩
 refine Zf1.fx ["suits", "case", "name"] ["suits", "case", "name"] fun H vs Q E hr h=>?_
 obtain⟨l,ss,i,n,rfl,hsu,hok,hi,hn,k⟩:=h
 refine⟨rfl,_,(Zd (Zt (Vm Z5 Zw2 (Za (qvN 0) (Za (qvN 1) Zb))))
 (Ze (Zo (Zl Zhe (qvN 2) (Uy (locs:=["swearer", "weight"]) (fr:=[]) ⟨rfl,by decide +kernel,by decide +kernel,by decide +kernel,by decide +kernel,by decide +kernel⟩ .nil rfl (Wt (Z0 Zao (Zj Zu (Zj Yh (qvN 0) (qvN 1) (fun _ _=>rfl)) (Yu c_ONES r_ONES) (fun _ _=>rfl)) (Zj Zu (Zj Yh (qvN 0) (qvN 1) (fun _ _=>rfl)) (Yu c_OTHERS r_OTHERS) (fun _ _=>rfl)))) ⟨fun _ _ _ _ _ _=>by
  have cnd:(inN ["swearer", "weight"] []).Nodup:=by decide +kernel
  exact⟨(Zsc 2 (by rfl) (Zkj (Ua 0 cnd) (Zkj (Ua 1 cnd) Zr9))),Zap,(V9 0)⟩⟩) rfl) (Ze (Y8 Yy er (Y7 (Yz (qvN 2) (Yr (Yz (qvN 1) Y6)))))) Zq))),?_⟩
 have hz:(5000:Nat)<=sizeLine:=by decide
 obtain⟨us,hl,hrep⟩:=id hsu
 have hul:us.length=ss.length:=by have:=hrep.length;rw[xA] at this;exact this
 refine⟨_,rfl,_,rfl,l,us,i,rfl,hl,hi,?_⟩
 by_cases hb:inB i ss.length
 ·unfold Vp at k
  rw[if_pos (by rw[hul];exact hb)]
  obtain⟨j,rfl⟩:=yJ hb.1
  have hj:j < ss.length:=by have:=hb.2;lia
  have ht:ss[j]? = some ss[j]:=xD hj
  generalize ss[j]=t at ht
  rw[yV,ht] at k
  dsimp only at k
  rw[if_pos hb] at k
  obtain⟨ta,u1,u2,u4,hu,hta,⟨b1,w1,rfl,hb1,hr1⟩,⟨b2,w2,rfl,hb2,hr2⟩,h4⟩:=SuitsAt.get (l:=l) hrep ht
  obtain⟨L1,L2',_,_⟩:=hok t (xF ht)
  have z1:=hr1.len
  have z2:=hr2.len
  have y1:=L1.2
  have y2:=L2'.2
  refine⟨_,rfl,_,rfl,_,rfl,l,us,j,.ref ta,rfl,rfl,SqL.of hl,Wj hu,ta,_,0,.ref b1,rfl,rfl,SqT.of hta,rfl,?_⟩
  refine⟨_,rfl,_,rfl,l,us,j,.ref ta,rfl,rfl,SqL.of hl,Wj hu,ta,_,1,.ref b2,rfl,rfl,SqT.of hta,rfl,?_⟩
  refine⟨b1,b2,w1,w2,rfl,rfl,hb1,hb2,by lia,fun q hq=>?_⟩
  have Sc:=Same.new (o:=.lst (w1++w2)) hq
  have kc:(upd H q (.lst (w1++w2))) q=some (.lst (w1++w2)):=Zg
  generalize (upd H q (.lst (w1++w2)))=H2 at Sc kc ⊢
  have hrs:RepS H2 (t.ones++t.others) (w1++w2):=RepS.mono (Same.t Sc) (RepS.app hr2 hr1)
  refine⟨q,rfl,⟨_,SqL.of kc⟩,?_⟩
  refine Zqa kc hrs (by rw[xC];lia) fun l2 hl2=>?_
  refine⟨l2,_,rfl,.inl (SqL.of Zg),rfl,Zh7 _,_,rfl,?_⟩
  rw[Zjb]
  refine Wb (fun z=>?_) (fun z=>?_)
  ·rw[if_neg z] at k
   exact⟨_,rfl,.inl ⟨n,rfl,by lia⟩,by decide +kernel,_,rfl,.inr ⟨_,rfl,Wn hi⟩,fun _=>k _ (Sc.trans (Same.new hl2))⟩
  ·rw[if_pos z] at k;exact k _ (Sc.trans (Same.new hl2))
 ·rw[if_neg (by rw[hul];exact hb)]
  have e:Vp ss i n=some "NoCase" := by
   unfold Vp
   cases ss[i.toNat]? with
   | none=>rfl
   | some t=>exact if_neg hb
  have k:=k H (Same.refl H)
  rw[e] at k
  exact k
inductive spBreakers (vs:List V) (H:Hp) (Q:VK) (z3:XK):Prop
 | mk (l:Addr) (ss:List Suit) (i:Nat) (n:Str) (h0:vs = [.ref l,.int i,.str n]) (h1:SuitsAt H ss l) (h2:(∀t∈ss,U8 t)) (h3:ss.length<=1000) (h4:n.length<=100) (h5:Vp ss i n=none) (h6:∀(l2:Addr)(H':Hp),H l2=none->H' l2=some (.lst (Zdo (Zmh ss i n)))->Same H H'->Q (.ref l2) H')
abbrev Zw3:Stmt:=top 44
end
section
variable{P:Program}{w:World}{K:uFg}{mg:Str->Option Value}{base:Heap}{C CM:Addr}{c:Str->Addr}
theorem Zdq{t u:TS}{D:_}{σ:St}{H:Hp}(Rk:Hp->Prop)(h:(∀H',Rk H'->u D σ H')->Ve t u D σ H)(k:∀H',Rk H'->u D σ H'):Ve t u D σ H:=h k
theorem Zc8{f:Str->Option Str}:∀{ps:List Str}{i:Nat}{n x:Str},ps[i]? = some n->(∀j < i,∀y,ps[j]? = some y->f y=none)->f n=some x->ps.findSome? f=some x
 | [],i,n,x,h,_,_=>by cases h
 | p::ps,0,n,x,h,_,e=>by cases h;rw[zI,e]
 | p::ps,i+1,n,x,h,a,e=>by rw[zI,a 0 (by lia) p rfl];exact Zc8 (i:=i) h (fun j hj y hy=>a (j+1) (by lia) y hy) e
theorem Zes{f:Str->Option Str}{ps:List Str}(a:∀j < ps.length,∀y,ps[j]? = some y->f y=none):ps.findSome? f=none:=by
 rw[zN]
 intro x hx
 obtain⟨j,hj,e⟩:=List.getElem_of_mem hx
 exact a j hj x (by rw[xD hj,e])
theorem Zet{f:Str->Option Str}{ps:List Str}{i:Nat}{n:Str}(h:ps[i]? = some n)(a:∀j < i,∀y,ps[j]? = some y->f y=none)(e:f n=none):∀j < i+1,∀y,ps[j]? = some y->f y=none:=fun j hj y hy=>by
 by_cases z:j=i
 ·subst z;rw[h] at hy;cases hy;exact e
 ·exact a j (by lia) y hy
structure MoK (m:Mo):Prop where
 ok:∀t∈m.trials,U8 t
 dl:m.days.length=m.trials.length
 br:∀(i:Nat)(e:D),m.brs[i]? = some e->∃(x:Str)(d:Int),e = .tup [.str x,.int d]
 le:m.trials.length<=60
 vl:m.verd.length=m.trials.length
 hb:m.haps.length=m.brs.length
 hl:∀q∈m.haps,q.length<=m.deeds.length
 ql:m.debts.length<=m.deeds.length
def brD(m:Mo)(i:Int):Int:=match m.brs[i.toNat]? with
 | some (.tup [_,.int d])=>d
 | _=>0
def Y4(ds:List Deed)(m:Mo)(day:Int)(ps:List Str)(th:Option Int)(oa:Option (Int×Str)):Option Str :=
 (ps.findSome? (Yq ds)).or ((th.bind (Ui m)).or ((oa.bind fun p=>Vp m.trials p.1 p.2).or ((ps.findSome? fun n=>Ys ((Zk ds n).getD 0) day).or ((th.bind fun i=>Ys (brD m i) day).or
  ((oa.bind fun p=>Ys (m.days.getD p.1.toNat 0) day).or (ps.findSome? fun n=>Wv ds n day))))))
def thV:Option Int->V
 | none=>.non
 | some i=>.int i
def oaV(H:Hp):Option (Int×Str)->V->Prop
 | none,v=>v = .non
 | some (i,n),v=>okI i/\n.length<=100/\∃a,v = .ref a/\H a=some (.tup [.int i,.str n])
inductive spNamedX (C CM:Addr) (c:Str->Addr) (vs:List V) (H:Hp) (Q:VK) (E:XK):Prop
 | mk (M:ML) (ds:List Deed) (wa:Str->Addr) (xs:List Addr) (m:Mo) (qs:List Addr) (day:Int) (pl:Addr) (ps:List Str) (th:Option Int) (oa:Option (Int×Str)) (v2:V) (h0:vs = [.ref M.p,.int day,.ref pl,thV th,v2]) (h1:MootAt C CM H M ds wa xs m qs) (h2:MoK m) (h3:H pl=some (.lst (ps.map V.str))) (h4:(∀n∈ps,n.length<=100)) (h5:okI day) (h6:(∀i,th=some i->okI i)) (h7:oaV H oa v2) (h8:∀H',Same H H'->due E c H' (Q .non H') (Y4 ds m day ps th oa))
abbrev Zk2:Stmt:=Yt (top 57) 40
theorem Zmy(Zf2:HasM K CM "check_named" "Moot.check_named" Zk2)(Tc:TxC K C)(Tm:TxCMoot K CM)(er:Er K mg c errs)(M_check_known:MtX P w K mg base C "check_known" 1 (spKnownX C c))(M_check_there:MtX P w K mg base C "check_there" 1 (spThereX C c))(M_check_living:MtX P w K mg base C "check_living" 2 (spLivingX C c))(MM_check_thing:MtX P w K mg base CM "check_thing" 1 (spThingX C CM c))(Zw4:FnX P w K mg base "check_oath" 2 (spOathX c)):MtX P w K mg base CM "check_named" 3 (spNamedX C CM c):=by
 refine Zf2.mx ["self", "day", "people", "thing", "oath", "name"] ["self", "day", "people", "thing", "oath"] fun H vs Q E hr h=>?_
 obtain⟨M,ds,wa,xs,m,qs,day,pl,ps,th,oa,v2,rfl,W,ok,hpl,hps,hd,hth,hoa,k⟩:=h
 refine⟨rfl,_,(Zd (Zer Zg6 Yy (by rfl) (Wt (qvN 2)) (Vq 5)
 (fun hxq hxp=>(Ze (Zt (Ym hxq (Zz (qvN 0)) Tc.cl M_check_known (Za (qvN 5) Zb))))))
 (Zd (Zo (Zl Ud (qvN 3) Y1 (Zm _)) (Ze (Zt (Ym Z5 (qvN 0) Tm.cl MM_check_thing (Za (qvN 3) Zb)))) Zq)
 (Zd (Zo (Zl Ud (qvN 4) Y1 (Zm _)) (Ze (Zt (Vm Z5 Zw4 (Za (Zz (qvN 0)) (Za (Zj Zu (qvN 4) Zc (fun _ _=>rfl)) (Za (Zj Zu (qvN 4) Zc (fun _ _=>rfl)) Zb)))))) Zq)
 (Zd (Zer Zg6 Yy (by rfl) (Wt (qvN 2)) (Vq 5)
 (fun hxq hxp=>(Ze (Zt (Ym hxq (Zz (qvN 0)) Tc.cl M_check_there (Za (qvN 5) (Za (qvN 1) Zb)))))))
 (Zd (Zo (QW.pt (Vl (Zl Ud (qvN 3) Y1 (Zm _)) (V4 (Zl V6 (qvN 1) (Zj Zu (Zj Yh (Zz (qvN 0)) (qvN 3) (fun _ _=>rfl)) Zc (fun _ _=>rfl)) (Zm _))))) (Ze (Y8 Yy er (Y7 (Yr (Yz (qvN 3) (Yr (Yz (qvN 1) Y6))))))) Zq)
 (Zd (Zo (QW.pt (Vl (Zl Ud (qvN 4) Y1 (Zm _)) (V4 (Zl V6 (qvN 1) (Zj Yh (Zz (qvN 0)) (Zj Zu (qvN 4) Zc (fun _ _=>rfl)) (fun _ _=>rfl)) (Zm _))))) (Ze (Y8 Yy er (Y7 (Yr (Yz (qvN 1) Y6))))) Zq)
 (Ze (Zer Zg6 Yy (by rfl) (Wt (qvN 2)) (Vq 5)
 (fun hxq hxp=>(Ze (Zt (Ym hxq (Zz (qvN 0)) Tc.cl M_check_living (Za (qvN 5) (Za (qvN 1) Zb)))))))))))))),?_⟩
 obtain⟨dm,obm⟩:=W.ob
 have F:=W.fk.f
 obtain⟨dx,ob⟩:=F.ob
 have hget:∀{i:Nat}{v:V},(ps.map V.str)[i]? = some v->∃n,v = .str n/\ps[i]? = some n/\n.length<=100:=fun {i v} hv=>by
  rw[xG] at hv
  obtain⟨a,h1,h2⟩:=xN.mp hv
  exact⟨a,h2.symm,h1,hps a (xF h1)⟩
 have hlen:(ps.map V.str).length=ps.length:=xA ..
 unfold Y4 at k
 refine⟨_,rfl,pl,rfl,⟨_,SqL.of hpl⟩,?_⟩
 refine Ux (ps.map V.str) (fun i σ H'=>∃v5:Option V,σ = [some (.ref M.p),some (.int day),some (.ref pl),some (thV th),some v2,v5]/\H=H'/\∀j < i,∀y,ps[j]? = some y->Yq ds y=none) ⟨none,rfl,rfl,fun j hj=>absurd hj (by lia)⟩ (fun i σ H' _ ⟨_,_,e,_⟩=>by rw[← e];exact SqL.of hpl) ?_ ?_
 ·rintro i v σ H' hv ⟨v5,rfl,rfl,ha⟩
  obtain⟨n,rfl,hn,hl⟩:=hget hv
  refine⟨_,rfl,M.p,CM,dm,_,_,rfl,obm,Tm.cl,Tm.nf,Vx _,M.L.p,dx,_,rfl,ob,Yi _ _ _ _ (by decide +kernel),_,rfl,M.L,ds,n,rfl,F,hl,?_⟩
  cases e:Yq ds n with
  | none=>exact⟨_,rfl,rfl,Zet hn ha e⟩
  | some x =>
   rw[Zc8 hn ha e] at k
   exact k H (Same.refl H)
 rintro σ H' ⟨v5,rfl,rfl,ha⟩
 rw[hlen] at ha
 rw[Zes ha,xB] at k
 have hcom:∀i n,ps[i]? = some n->∃d,Zk ds n=some d:=fun i n hi=>by
  have:=ha i (xQ.mp hi).1 n hi
  unfold Yq at this
  cases e:Zk ds n with
  | none=>rw[if_pos e] at this;cases this
  | some d=>exact⟨d,rfl⟩
 try dsimp only
 refine Zdq (fun H'=>Same H H'/\th.bind (Ui m)=none) (fun kk=>?_) (fun H1 ⟨S1,e1⟩=>?_)
 ·cases th with
  | none=>exact⟨_,rfl,rfl,_,rfl,Z8 (kk H ⟨Same.refl H,rfl⟩)⟩
  | some i =>
   refine⟨_,rfl,rfl,_,rfl,Yl ⟨_,rfl,M.p,dm,_,rfl,obm,Y9 _ (by decide +kernel),_,rfl,M,ds,wa,xs,m,qs,i,rfl,W,hth i rfl,?_⟩⟩
   rw[yX] at k
   cases e:Ui m i with
   | none=>exact kk H ⟨Same.refl H,e⟩
   | some x=>rw[e] at k;exact k H (Same.refl H)
 rw[e1,xB] at k
 have W1:=W.same S1
 try dsimp only
 refine Zdq (fun H'=>Same H H'/\(oa.bind fun p=>Vp m.trials p.1 p.2)=none) (fun kk=>?_) (fun H2 ⟨S2,e2⟩=>?_)
 ·cases oa with
  | none =>
   obtain rfl:=hoa
   exact⟨_,rfl,rfl,_,rfl,Z8 (kk H1 ⟨S1,rfl⟩)⟩
  | some p =>
   obtain⟨hi,hn,a,rfl,ha⟩:=hoa
   obtain⟨ts,t1,t2,_⟩:=(W1.ls (M.lt,m.trials.map U0) (by simp[Mo.at_])).get
   refine⟨_,rfl,rfl,_,rfl,Yl ⟨_,rfl,M.p,CM,dm,_,_,rfl,S1 _ _ obm,Tm.cl,Tm.nt,Zia _,_,rfl,a,_,0,_,rfl,rfl,SqT.of (S1 _ _ ha),rfl,_,rfl,a,_,1,_,rfl,rfl,SqT.of (S1 _ _ ha),rfl,?_⟩⟩
   refine⟨M.lt,m.trials,p.1,p.2,rfl,⟨ts,t1,t2⟩,ok.ok,hi,hn,fun H' S'=>?_⟩
   rw[yX] at k
   cases e:Vp m.trials p.1 p.2 with
   | none=>exact kk H' ⟨S1.trans S',e⟩
   | some x=>rw[e] at k;exact k H' (S1.trans S')
 rw[e2,xB] at k
 have W2:=W.same S2
 have F2:=W2.fk.f
 refine⟨_,rfl,pl,rfl,⟨_,SqL.of (S2 _ _ hpl)⟩,?_⟩
 refine Ux (ps.map V.str) (fun i σ H'=>∃v5:Option V,σ = [some (.ref M.p),some (.int day),some (.ref pl),some (thV th),some v2,v5]/\H2=H'/\∀j < i,∀y,ps[j]? = some y->Ys ((Zk ds y).getD 0) day=none) ⟨v5,rfl,rfl,fun j hj=>absurd hj (by lia)⟩ (fun i σ H' _ ⟨_,_,e,_⟩=>by rw[← e];exact SqL.of (S2 _ _ hpl)) ?_ ?_
 ·rintro i v σ H' hv ⟨v5,rfl,rfl,ha⟩
  obtain⟨n,rfl,hn,hl⟩:=hget hv
  obtain⟨d,hc⟩:=hcom i n hn
  refine⟨_,rfl,M.p,CM,dm,_,_,rfl,S2 _ _ obm,Tm.cl,Tm.nf,Vx _,M.L.p,dx,_,rfl,S2 _ _ ob,Yi _ _ _ _ (by decide +kernel),_,rfl,_,rfl,M.L,ds,n,d,day,rfl,F2,hc,hl,hd,?_⟩
  have eq:Ys ((Zk ds n).getD 0) day=Ys d day:=by rw[hc];rfl
  cases e:Ys d day with
  | none=>exact⟨_,rfl,rfl,Zet hn ha (eq.trans e)⟩
  | some x =>
   rw[Zc8 hn ha (eq.trans e)] at k
   exact k H2 S2
 rintro σ H' ⟨v5,rfl,rfl,hb⟩
 rw[hlen] at hb
 rw[Zes hb,xB] at k
 try dsimp only
 refine Zdq (fun H'=>Same H H'/\(th.bind fun i=>Ys (brD m i) day)=none) (fun kk=>?_) (fun H3 ⟨S3,e3⟩=>?_)
 ·cases th with
  | none=>exact⟨_,rfl,rfl,_,rfl,Z8 (Z8 (kk H2 ⟨S2,rfl⟩))⟩
  | some i =>
   obtain⟨vs,b1,b2,b3⟩:=(W2.ls (M.lb,m.brs) (by simp[Mo.at_])).get
   dsimp only at b1 b2 b3
   have hin:inB i m.brs.length:=by
    rw[yX] at e1
    unfold Ui at e1
    by_cases z:inB i m.brs.length
    ·exact z
    ·rw[if_neg z] at e1;cases e1
   obtain⟨j,rfl⟩:=yJ hin.1
   have hj:j < vs.length:=by have:=hin.2;lia
   obtain⟨e,he,re⟩:=b2.get (xD hj)
   obtain⟨x,d,rfl⟩:=ok.br j e he
   obtain⟨a,us,ea,ha,⟨_,_,rfl,rfl,⟨_,_,rfl,rfl,rfl⟩⟩⟩:=re
   have hbr:brD m (j:Int)=d:=by unfold brD;rw[yV,he]
   rw[yX,hbr] at k
   refine⟨_,rfl,rfl,_,rfl,Yl ⟨_,rfl,_,rfl,M.p,CM,dm,_,_,rfl,S2 _ _ obm,Tm.cl,Tm.nb,Zb9 _,_,rfl,M.lb,vs,j,_,rfl,rfl,SqL.of b1,Wj (xD hj),a,_,1,_,ea,rfl,SqT.of ha,rfl,_,_,rfl,rfl,_,rfl,Zr (fun z=>?_) (fun z=>?_)⟩⟩
   ·have e:Ys d day=some "NotYet" := if_pos z
    rw[e] at k
    exact⟨by decide +kernel,_,rfl,.inr ⟨_,rfl,Wn (hth _ rfl)⟩,by decide +kernel,_,rfl,.inr ⟨_,rfl,Wn hd⟩,fun _=>k H2 S2⟩
   ·exact kk H2 ⟨S2,by rw[yX,hbr];exact if_neg z⟩
 rw[e3,xB] at k
 have W3:=W.same S3
 try dsimp only
 refine Zdq (fun H'=>Same H H'/\(oa.bind fun p=>Ys (m.days.getD p.1.toNat 0) day)=none) (fun kk=>?_) (fun H4 ⟨S4,e4⟩=>?_)
 ·cases oa with
  | none =>
   obtain rfl:=hoa
   exact⟨_,rfl,rfl,_,rfl,Z8 (Z8 (kk H3 ⟨S3,rfl⟩))⟩
  | some p =>
   obtain⟨i,n⟩:=p
   obtain⟨hi,hn,a,rfl,ha⟩:=hoa
   obtain⟨vs,y1,y2,y3⟩:=(W3.ls (M.ly,m.days.map D.int) (by simp[Mo.at_])).get
   dsimp only at y1 y2 y3
   rw[xA] at y3
   have hin:inB i m.trials.length:=by
    rw[yX] at e2
    unfold Vp at e2
    by_cases z:inB i m.trials.length
    ·exact z
    ·split at e2
     ·rw[if_neg z] at e2;cases e2
     ·cases e2
   obtain⟨j,rfl⟩:=yJ hin.1
   have hj:j < vs.length:=by have:=hin.2;have:=ok.dl;lia
   obtain⟨e,he,re⟩:=y2.get (xD hj)
   rw[xG] at he
   obtain⟨d,hd1,rfl⟩:=xN.mp he
   have re:vs[j]= .int d:=re
   have hdd:m.days.getD (j:Int).toNat 0=d:=by rw[yV,yN,hd1];rfl
   rw[yX] at k
   dsimp only at k
   rw[hdd] at k
   refine⟨_,rfl,rfl,_,rfl,Yl ⟨_,rfl,_,rfl,M.p,CM,dm,_,_,rfl,S3 _ _ obm,Tm.cl,Tm.ny,Zsj _,_,rfl,a,_,0,_,rfl,rfl,SqT.of (S3 _ _ ha),rfl,M.ly,vs,j,.int d,rfl,rfl,SqL.of y1,re▸Wj (xD hj),_,_,rfl,rfl,_,rfl,Zr (fun z=>?_) (fun z=>?_)⟩⟩
   ·have e:Ys d day=some "NotYet" := if_pos z
    rw[e] at k
    exact⟨by decide +kernel,_,rfl,.inr ⟨_,rfl,Wn hd⟩,fun _=>k H3 S3⟩
   ·exact kk H3 ⟨S3,by rw[yX];dsimp only;rw[hdd];exact if_neg z⟩
 rw[e4,xB] at k
 have W4:=W.same S4
 have F4:=W4.fk.f
 refine⟨_,rfl,pl,rfl,⟨_,SqL.of (S4 _ _ hpl)⟩,?_⟩
 refine Ux (ps.map V.str) (fun i σ H'=>∃v5:Option V,σ = [some (.ref M.p),some (.int day),some (.ref pl),some (thV th),some v2,v5]/\H4=H'/\∀j < i,∀y,ps[j]? = some y->Wv ds y day=none) ⟨v5,rfl,rfl,fun j hj=>absurd hj (by lia)⟩ (fun i σ H' _ ⟨_,_,e,_⟩=>by rw[← e];exact SqL.of (S4 _ _ hpl)) ?_ ?_
 ·rintro i v σ H' hv ⟨v5,rfl,rfl,ha⟩
  obtain⟨n,rfl,hn,hl⟩:=hget hv
  refine⟨_,rfl,M.p,CM,dm,_,_,rfl,S4 _ _ obm,Tm.cl,Tm.nf,Vx _,M.L.p,dx,_,rfl,S4 _ _ ob,Yi _ _ _ _ (by decide +kernel),_,rfl,_,rfl,M.L,ds,n,day,rfl,F4,hl,hd,?_⟩
  cases e:Wv ds n day with
  | none=>exact⟨_,rfl,rfl,Zet hn ha e⟩
  | some x =>
   rw[Zc8 hn ha e] at k
   exact k H4 S4
 rintro σ H' ⟨v5,rfl,rfl,hg⟩
 rw[hlen] at hg
 rw[Zes hg] at k
 exact k _ S4
end
section
variable{P:Program}{w:World}{K:uFg}{mg:Str->Option Value}{base:Heap}{C CM:Addr}{c:Str->Addr}
def wOk(ds:List Deed)(day:Int)(f:Str->Int)(n:Str):Prop:=∃d,Zk ds n=some d/\d<=day/\IsW (kw ds n) day (f n)
inductive spWeighed (C CM:Addr) (vs:List V) (H:Hp) (Q:VK) (z3:XK):Prop
 | mk (M:ML) (ds:List Deed) (wa:Str->Addr) (xs:List Addr) (m:Mo) (qs:List Addr) (nl:Addr) (ns:List Str) (day:Int) (f:Str->Int) (h0:vs = [.ref M.p,.ref nl,.int day]) (h1:MootAt C CM H M ds wa xs m qs) (h2:ds.length<=1000) (h3:H nl=some (.lst (ns.map V.str))) (h4:ns.length<=60) (h5 : 0<=day) (h6:day<=9999) (h7:(∀n∈ns,wOk ds day f n)) (h8:∀(l:Addr)(us:List V)(H':Hp),H l=none->Same H H'->H' l=some (.lst us)->RepS H' (ns.map fun n=>(n,f n)) us->Q (.ref l) H')
end
section
variable{P:Program}{w:World}{K:uFg}{mg:Str->Option Value}{base:Heap}{C CM:Addr}{c:Str->Addr}
def Zyu(m:Mo)(n:Str)(i:Nat):Bool:=match (m.trials[i]?).bind (·.named) with
 | some p=>decide (p.2=n) && m.verd.getD i false && decide ((m.pen n).getD 0<=(i:Int))
 | none=>false
def Zw5(m:Mo)(k:Nat)(n:Str):Bool:=(List.range k).any (Zyu m n)
def Zmi(m:Mo)(n:Str):Bool:=Zw5 m m.trials.length n
inductive spForsN (C CM:Addr) (vs:List V) (H:Hp) (Q:VK) (z3:XK):Prop
 | mk (M:ML) (ds:List Deed) (wa:Str->Addr) (xs:List Addr) (m:Mo) (qs:List Addr) (h0:vs = [.ref M.p]) (h1:MootAt C CM H M ds wa xs m qs) (h2:m.verd.length=m.trials.length) (h3:m.trials.length<=60) (h4:∀(g:Addr)(kvs:List (Key×V))(H':Hp),H g=none->Same H H'->H' g=some (.dK kvs)->(∀n:Str,(Z3 kvs (.inr n)).isSome=Zmi m n)->Q (.ref g) H')
end
section
variable{P:Program}{w:World}{K:uFg}{mg:Str->Option Value}{base:Heap}{C CM:Addr}{c:Str->Addr}
abbrev Ur(f:Str->Int)(ns:List Str):Y0:=ns.map fun n=>(n,f n)
def Zdg(m:Mo)(need:Int)(f:Str->Int)(o1 o2:List Str):Option Str :=
 if 60<=m.trials.length then some "TooMany" else if 12 < max o1.length o2.length then some "TooMany" else (Yj m).or (if Zl9 (o1++o2) < (o1++o2).length then some ("SwornTwice" : Str) else
  ((o1++o2).findSome? fun n=>if Zmi m n=true then some ("Forsworn" : Str) else none).or (if (wts (Ur f o1)).sum < need then some ("TooLight" : Str) else none))
inductive spSidesX (C CM:Addr) (c:Str->Addr) (vs:List V) (H:Hp) (Q:VK) (E:XK):Prop
 | mk (M:ML) (ds:List Deed) (wa:Str->Addr) (xs:List Addr) (m:Mo) (qs:List Addr) (day need:Int) (l1 l2:Addr) (o1 o2:List Str) (f:Str->Int) (h0:vs = [.ref M.p,.int day,.int need,.ref l1,.ref l2]) (h1:MootAt C CM H M ds wa xs m qs) (h2:MoK m) (h3:ds.length<=1000) (h4:H l1=some (.lst (o1.map V.str))) (h5:H l2=some (.lst (o2.map V.str))) (h6:o1.length<=60) (h7:o2.length<=60) (h8 : 0<=day) (h9:day<=9999) (h10:okI need) (h11:(∀n∈o1++o2,n.length<=100/\wOk ds day f n/\1<=f n/\f n<=1000)) (h12:∀H',Same H H'->due E c H' (Q .non H') (Zdg m need f o1 o2))
end
section
variable{P:Program}{w:World}{K:uFg}{mg:Str->Option Value}{base:Heap}{C CM:Addr}
def Zbg(M:ML)(ds:List Deed)(wa:Str->Addr)(xs qs:List Addr)(H H':Hp):Prop:=∀b o,H b=some o->¬mo M ds wa xs qs b->H' b=some o
def MFresh(M:ML)(ds:List Deed)(wa:Str->Addr)(xs qs:List Addr)(M':ML)(ds':List Deed)(wa':Str->Addr)(xs' qs':List Addr)(H:Hp):Prop:=∀b,mo M' ds' wa' xs' qs' b->mo M ds wa xs qs b\/H b=none
theorem MFresh.folk{M:ML}{ds ds':List Deed}{wa wa':Str->Addr}{xs qs:List Addr}{H:Hp}(f:Zcn M.L ds wa ds' wa' H):MFresh M ds wa xs qs M ds' wa' xs qs H:=fun b hb=>by
 rcases hb with z | z | z | z | z
 ·exact .inl (.inl z)
 ·exact .inl (.inr (.inl z))
 ·exact .inl (.inr (.inr (.inl z)))
 ·exact .inl (.inr (.inr (.inr (.inl z))))
 ·exact(f b z).imp (fun z=>.inr (.inr (.inr (.inr z)))) id
theorem Zaw{M:ML}{ds:List Deed}{wa:Str->Addr}{xs qs:List Addr}:mo M ds wa xs qs M.ld:=.inr (.inr (.inl (by simp[ML.ls])))
end
section
variable{P:Program}{w:World}{K:uFg}{mg:Str->Option Value}{base:Heap}{C CM:Addr}{c:Str->Addr}
def Mo.tried(m:Mo)(day:Int)(t:Suit):Mo:={m with trials:=m.trials ++ [t],days:=m.days ++ [day],verd:=(Ue [] 0 (m.trials ++ [t])).1 }
inductive spTry (C CM:Addr) (vs:List V) (H:Hp) (Q:VK) (z3:XK):Prop
 | mk (M:ML) (ds:List Deed) (wa:Str->Addr) (xs:List Addr) (m:Mo) (qs:List Addr) (day need:Int) (l1 l2:Addr) (o1 o2:List Str) (f:Str->Int) (oa:Option (Int×Str)) (v2:V) (h0:vs = [.ref M.p,.int day,.int need,.ref l1,.ref l2,v2]) (h1:MootAt C CM H M ds wa xs m qs) (h2:MoK m) (h3:m.trials.length < 60) (h4:ds.length<=1000) (h5:H l1=some (.lst (o1.map V.str))) (h6:H l2=some (.lst (o2.map V.str))) (h7:o1.length<=60) (h8:o2.length<=60) (h9 : 0<=day) (h10:day<=9999) (h11 : 1<=need) (h12:need<=12000) (h13:(∀n∈o1++o2,wOk ds day f n/\1<=f n/\f n<=1000)) (h14:oaV H oa v2) (h15:∀(lv s1 s2:Addr)(H':Hp),MootAt C CM H' (M.setv lv) ds wa (s1::s2::xs) (m.tried day ⟨Ur f o1,Ur f o2,need,oa⟩) qs->Zbg M ds wa xs qs H H'->MFresh M ds wa xs qs (M.setv lv) ds wa (s1::s2::xs) qs H->Q (.int m.trials.length) H')
end
section
variable{P:Program}{w:World}{K:uFg}{mg:Str->Option Value}{base:Heap}{C CM:Addr}{c:Str->Addr}
def Frm(O:Addr->Prop)(H:Hp)(O':Addr->Prop)(H':Hp):Prop:=(∀b o,H b=some o->¬O b->H' b=some o)/\∀b,O' b->O b\/H b=none
theorem Frm.same{O:Addr->Prop}{H H':Hp}(s:Same H H'):Frm O H O H':=⟨fun b o e _=>s b o e,fun b hb=>.inl hb⟩
def MSt(C CM:Addr)(H:Hp)(p:Addr)(ds:List Deed)(m:Mo)(O:Addr->Prop):Prop:=∃M wa xs qs,M.p=p/\MootAt C CM H M ds wa xs m qs/\O=mo M ds wa xs qs
theorem MSt.same{H H':Hp}{p:Addr}{ds:List Deed}{m:Mo}{O:Addr->Prop}(h:MSt C CM H p ds m O)(k:Same H H'):MSt C CM H' p ds m O:=let ⟨M,wa,xs,qs,e,W,o⟩:=h;⟨M,wa,xs,qs,e,W.same k,o⟩
def Vs(E:XK)(c:Str->Addr)(H:Hp)(k:Prop):Option Str->Prop
 | none=>k
 | some x=>∀H',Same H H'->E (.ref (c x)) none H'
theorem Zqc{ds:List Deed}{m:Mo}{day:Int}{ps:List Str}{th:Option Int}{oa:Option (Int×Str)}(h:Y4 ds m day ps th oa=none):(∀n∈ps,∃d,Zk ds n=some d/\d<=day)/\(∀i,th=some i->Ui m i=none)/\∀i n,oa=some (i,n)->Vp m.trials i n=none:=by
 unfold Y4 at h
 simp only[zK] at h
 obtain⟨h1,h2,h3,h4,_⟩:=h
 rw[zN] at h1 h4
 refine⟨fun n hn=>?_,fun i e=>by subst e;exact h2,fun i n e=>by subst e;exact h3⟩
 have a:=h1 n hn
 have b:=h4 n hn
 unfold Yq at a
 unfold Ys at b
 cases e:Zk ds n with
 | none=>rw[if_pos e] at a;cases a
 | some d =>
  refine⟨d,rfl,?_⟩
  rw[e,Option.getD_some] at b
  by_cases z:day < d
  ·rw[if_pos z] at b;cases b
  ·lia
structure CsA (ds:List Deed) (m:Mo) (H:Hp) (l1 l2:Addr) (o1 o2:List Str) (day need:Int) (f:Str->Int):Prop where
 ok:MoK m
 hd:ds.length<=1000
 h1:H l1=some (.lst (o1.map V.str))
 h2:H l2=some (.lst (o2.map V.str))
 n1:o1.length<=60
 n2:o2.length<=60
 di:okI day
 ni:okI need
 hw:∀n∈o1++o2,n.length<=100/\∀d,Zk ds n=some d->d<=day->IsW (kw ds n) day (f n)/\1<=f n/\f n<=1000
theorem Zco{lo hi d:Int}(h:eM lo hi d=none):lo<=d/\d<=hi:=by
 unfold eM at h
 by_cases z:lo<=d/\d<=hi
 ·exact z
 ·rw[if_neg z] at h;cases h
theorem Zax{m:Mo}(h:Yj m=none):m.deeds.length < 400:=by
 unfold Yj at h
 by_cases z:m.deeds.length < 400
 ·exact z
 ·rw[if_neg z] at h;cases h
variable{M:ML}{ds:List Deed}{wa:Str->Addr}{xs qs:List Addr}{m:Mo}{H H':Hp}
end
section
variable{P:Program}{w:World}{K:uFg}{mg:Str->Option Value}{base:Heap}{C CM:Addr}{c:Str->Addr}
def clD(x:Str)(i day need:Int)(o1 o2:List Str):D:=.tup [.str "claim", .str x,.int i,.int day,.int need,.lst (o1.map D.str),.lst (o2.map D.str)]
def Mo.won(m:Mo)(x:Str)(i:Nat)(day need:Int)(f:Str->Int)(o1 o2:List Str):Mo :=
 {m.tried day ⟨Ur f o1,Ur f o2,need,none⟩ with haps:=m.haps.set i (m.haps.getD i [] ++ [.tup [.int m.trials.length,.tup [.int day,.str "won", .non,.str x]]]),deeds:=m.deeds ++ [clD x i day need o1 o2] }
def Zj2(ds:List Deed)(m:Mo)(x:Str)(i day need:Int)(f:Str->Int)(o1 o2:List Str):Option Str:=(eM 0 9999 day).or ((eM 1 12000 need).or ((Y4 ds m day ([x]++o1++o2) (some i) none).or (Zdg m need f o1 o2)))
inductive spClaimX (C CM:Addr) (c:Str->Addr) (vs:List V) (H:Hp) (Q:VK) (E:XK):Prop
 | mk (p:Addr) (ds:List Deed) (m:Mo) (O:Addr->Prop) (x:Str) (i day need:Int) (l1 l2:Addr) (o1 o2:List Str) (f:Str->Int) (h0:vs = [.ref p,.str x,.int i,.int day,.int need,.ref l1,.ref l2]) (h1:MSt C CM H p ds m O) (h2:CsA ds m H l1 l2 o1 o2 day need f) (h3:¬O l1) (h4:¬O l2) (h5:x.length<=100) (h6:okI i) (h7:Vs E c H (∀O' H',MSt C CM H' p ds (m.won x i.toNat day need f o1 o2) O'->Frm O H O' H'->Q (.int m.trials.length) H') (Zj2 ds m x i day need f o1 o2))
end
section
variable{P:Program}{w:World}{K:uFg}{mg:Str->Option Value}{base:Heap}{C CM:Addr}{c:Str->Addr}
def weD(x y:Str)(many day need:Int)(o1 o2:List Str):D:=.tup [.str "wergild", .str x,.str y,.int many,.int day,.int need,.lst (o1.map D.str),.lst (o2.map D.str)]
def Mo.owes(m:Mo)(x y:Str)(many day need:Int)(f:Str->Int)(o1 o2:List Str):Mo :=
 {m.tried day ⟨Ur f o1,Ur f o2,need,none⟩ with debts:=m.debts ++ [.tup [.int m.trials.length,.tup [.int day,.str y,.str x,.int many]]],deeds:=m.deeds ++ [weD x y many day need o1 o2] }
def Zmj(ds:List Deed)(m:Mo)(x y:Str)(many day need:Int)(f:Str->Int)(o1 o2:List Str):Option Str:=(eM 1 1000000 many).or ((eM 0 9999 day).or ((eM 1 12000 need).or ((Y4 ds m day ([x,y]++o1++o2) none none).or (Zdg m need f o1 o2))))
inductive spWerX (C CM:Addr) (c:Str->Addr) (vs:List V) (H:Hp) (Q:VK) (E:XK):Prop
 | mk (p:Addr) (ds:List Deed) (m:Mo) (O:Addr->Prop) (x y:Str) (many day need:Int) (l1 l2:Addr) (o1 o2:List Str) (f:Str->Int) (h0:vs = [.ref p,.str x,.str y,.int many,.int day,.int need,.ref l1,.ref l2]) (h1:MSt C CM H p ds m O) (h2:CsA ds m H l1 l2 o1 o2 day need f) (h3:¬O l1) (h4:¬O l2) (h5:x.length<=100) (h6:y.length<=100) (h7:okI many) (h8:Vs E c H (∀O' H',MSt C CM H' p ds (m.owes x y many day need f o1 o2) O'->Frm O H O' H'->Q (.int m.trials.length) H') (Zmj ds m x y many day need f o1 o2))
end
section
variable{P:Program}{w:World}{K:uFg}{mg:Str->Option Value}{base:Heap}{C CM:Addr}{c:Str->Addr}
def acD(i:Int)(n:Str)(day need:Int)(o1 o2:List Str):D:=.tup [.str "accuse", .int i,.str n,.int day,.int need,.lst (o1.map D.str),.lst (o2.map D.str)]
def Mo.told(m:Mo)(d:D):Mo:={m with deeds:=m.deeds ++ [d] }
def Mo.acc(m:Mo)(i:Int)(n:Str)(day need:Int)(f:Str->Int)(o1 o2:List Str):Mo:=(m.told (acD i n day need o1 o2)).tried day ⟨Ur f o1,Ur f o2,need,some (i,n)⟩
def Zmk(ds:List Deed)(m:Mo)(i:Int)(n:Str)(day need:Int)(f:Str->Int)(o1 o2:List Str):Option Str:=(eM 0 9999 day).or ((eM 1 12000 need).or ((Y4 ds m day (o1++o2) none (some (i,n))).or ((Zdg m need f o1 o2).or (if Zmh m.trials i n = [] then none else some ("Broken" : Str)))))
inductive spAccX (C CM:Addr) (c:Str->Addr) (vs:List V) (H:Hp) (Q:VK) (E:XK):Prop
 | mk (p:Addr) (ds:List Deed) (m:Mo) (O:Addr->Prop) (i:Int) (n:Str) (day need:Int) (l1 l2:Addr) (o1 o2:List Str) (f:Str->Int) (h0:vs = [.ref p,.int i,.str n,.int day,.int need,.ref l1,.ref l2]) (h1:MSt C CM H p ds m O) (h2:CsA ds m H l1 l2 o1 o2 day need f) (h3:¬O l1) (h4:¬O l2) (h5:n.length<=100) (h6:okI i) (h7:Vs E c H (∀O' H',MSt C CM H' p ds (m.acc i n day need f o1 o2) O'->Frm O H O' H'->Q (.int m.trials.length) H') (Zmk ds m i n day need f o1 o2))
end
section
variable{P:Program}{w:World}{K:uFg}{mg:Str->Option Value}{base:Heap}{C CM:Addr}{c:Str->Addr}
def Mo.pena(m:Mo)(n:Str):Mo:={m with pen:=fun x=>if x=n then some (m.trials.length:Int) else m.pen x,npen:=m.npen+1,deeds:=m.deeds ++ [.tup [.str "penance", .str n]] }
inductive spPenX (C CM:Addr) (c:Str->Addr) (vs:List V) (H:Hp) (Q:VK) (E:XK):Prop
 | mk (p:Addr) (ds:List Deed) (m:Mo) (O:Addr->Prop) (n:Str) (h0:vs = [.ref p,.str n]) (h1:MSt C CM H p ds m O) (h2:n.length<=100) (h3:m.npen<=1000) (h4:m.trials.length<=1000) (h5:Vs E c H (∀O' H',MSt C CM H' p ds (m.pena n) O'->Frm O H O' H'->Q .non H') ((Yq ds n).or ((Wo ds n).or (Yj m))))
abbrev Zk3:Stmt:=Yt (top 57) 4
theorem Zn4(Zf3:HasM K CM "penance" "Moot.penance" Zk3)(T:Txt mg)(Tc:TxC K C)(Tm:TxCMoot K CM)(M_check_known:MtX P w K mg base C "check_known" 1 (spKnownX C c))(M_check_untold:MtX P w K mg base C "check_untold" 1 (spUntoldX C c))(MM_check_moments:MtX P w K mg base CM "check_moments" 1 (spMomX C CM c)):MtX P w K mg base CM "penance" 2 (spPenX C CM c):=by
 refine Zf3.mx ["self", "name"] ["self", "name"] fun H vs Q E hr h=>?_
 obtain⟨_,ds,m,_,n,rfl,⟨M,wa,xs,qs,rfl,W,rfl⟩,ho,hp4,ht4,k⟩:=h
 refine⟨rfl,_,(Zd (Zt (Ym Z5 (Zz (qvN 0)) Tc.cl M_check_known (Za (qvN 1) Zb)))
 (Zd (Zt (Ym Z5 (Zz (qvN 0)) Tc.cl M_check_untold (Za (qvN 1) Zb)))
 (Zd (Zt (Zas Z5 (qvN 0) Tm.cl MM_check_moments))
 (Zd (Zbb hr (Zz (qvN 0)) (qvN 1) (Z7 Wm T.len Yv (Za (Zz (qvN 0)) Zb)))
 (Ze (Zt (Wq F.plainAttrs_list F.slot_list_append F.type_list_append Wx (Zz (qvN 0)) (Za (Yw (Za Zi (Za (qvN 1) Zb))) Zb)))))))),?_⟩
 have hz:(5000:Nat)<=sizeLine:=by decide
 obtain⟨dm,obm⟩:=W.ob
 obtain⟨dx,ob⟩:=W.fk.f.ob
 refine⟨_,rfl,M.p,CM,dm,_,_,rfl,obm,Tm.cl,Tm.nf,Vx _,M.L.p,dx,_,rfl,ob,Yi _ _ _ _ (by decide +kernel),_,rfl,M.L,ds,n,rfl,W.fk.f,ho,?_⟩
 cases ek:Yq ds n with
 | some z=>rw[ek] at k;exact k H (Same.refl H)
 | none =>
 rw[ek,xB] at k
 refine⟨_,rfl,M.p,CM,dm,_,_,rfl,obm,Tm.cl,Tm.nf,Vx _,M.L.p,dx,_,rfl,ob,Yi _ _ _ _ (by decide +kernel),_,rfl,M.L,ds,n,rfl,W.fk.f,ho,?_⟩
 cases eu:Wo ds n with
 | some z=>rw[eu] at k;exact k H (Same.refl H)
 | none =>
 rw[eu,xB] at k
 refine⟨_,rfl,M.p,dm,_,rfl,obm,Y9 _ (by decide +kernel),M,ds,wa,xs,m,qs,rfl,W,?_⟩
 cases em:Yj m with
 | some z=>rw[em] at k;exact k H (Same.refl H)
 | none =>
 rw[em] at k
 have hn4:=Zax em
 obtain⟨ts,t1,_,t2⟩:=(W.ls (M.lt,m.trials.map U0) (by simp[Mo.at_])).get
 dsimp only at t1 t2
 rw[xA] at t2
 obtain⟨kvs,p1,p2,p3⟩:=W.pn
 refine⟨_,rfl,M.p,CM,dm,_,_,rfl,obm,Tm.cl,Tm.nt,Zia _,M.lt,ts,rfl,.inl (SqL.of t1),?_⟩
 refine⟨_,rfl,M.p,CM,dm,_,_,rfl,obm,Tm.cl,Tm.np,Zuh _,_,rfl,M.dp,_,rfl,DPut.k (k:=Sum.inr n) p1 (by lia),?_⟩
 rw[t2]
 have W1:=W.pena (n:=n) (c:=(m.trials.length:Int)) p1
 have g0:∀b o,b≠M.dp->H b=some o->(upd H M.dp (.dK (Z2 kvs (.inr n) (.int m.trials.length)))) b=some o:=fun b o nb e=>by rw[Zf nb];exact e
 generalize (upd H M.dp (.dK (Z2 kvs (.inr n) (.int m.trials.length))))=H1 at W1 g0 ⊢
 obtain⟨dm2,obm2⟩:=W1.ob
 obtain⟨vs,e1,_,e2⟩:=(W1.ls (M.ld,m.deeds) (by simp[Mo.at_])).get
 dsimp only at e1 e2
 refine⟨_,rfl,M.p,CM,dm2,_,_,rfl,obm2,Tm.cl,Tm.nd,Uf _,.inl ⟨rfl,_,SqL.of e1⟩,_,rfl,by show 2<=sizeLine;lia,fun p hp=>?_⟩
 have S3:=Same.new (o:=.tup [.str "penance", .str n]) hp
 have kp:(upd H1 p (.tup [.str "penance", .str n])) p=some (.tup [.str "penance", .str n]):=Zg
 generalize (upd H1 p (.tup [.str "penance", .str n]))=H3 at S3 kp ⊢
 have W3:=W1.same S3
 refine⟨M.ld,vs,.ref p,rfl,rfl,S3 _ _ e1,by lia,?_⟩
 refine k _ _ ⟨M,wa,xs,qs,rfl,W3.deed (S3 _ _ e1) ⟨p,_,rfl,Wz kp,⟨_,_,rfl,rfl,⟨_,_,rfl,rfl,rfl⟩⟩⟩,rfl⟩ ⟨fun b o e nb=>?_,fun _ hb=>.inl hb⟩
 rw[Zf (fun z:b=M.ld=>nb (z▸Zaw))]
 exact S3 _ _ (g0 b o (fun z=>nb (.inr (.inl z))) e)
end
section
variable{P:Program}{w:World}{K:uFg}{mg:Str->Option Value}{base:Heap}{C CM:Addr}{c:Str->Addr}
theorem Zov{x:Str}(h:Y2 x=true):Wd x:=by
 unfold Y2 at h
 simp only[xV,decide_eq_true_eq,yZ] at h
 exact⟨fun c hc=>by have:=h.2 c hc;unfold okc at this;simpa using this,h.1.1,h.1.2⟩
theorem Zow{ds:List Deed}{n:Str}{day wt:Int}(h:Ug ds n day wt=none):Wd n/\(0<=day/\day<=9999)/\(1<=wt/\wt<=1000)/\Zk ds n=none/\(We ds).length < 40:=by
 unfold Ug at h
 by_cases z:Y2 n=false
 ·rw[if_pos z] at h;cases h
 ·rw[if_neg z] at h
  simp only[zK] at h
  refine⟨Zov (by simpa using z),Zco h.1,Zco h.2.1,?_⟩
  obtain⟨a,b⟩:=h.2.2
  refine⟨Classical.byContradiction fun y=>?_,Classical.byContradiction fun y=>?_⟩
  ·rw[if_neg y] at a;cases a
  ·rw[if_neg y] at b;cases b
def coD(n:Str)(day wt:Int):D:=.tup [.str "come", .str n,.int day,.int wt]
inductive spComeX (C CM:Addr) (c:Str->Addr) (vs:List V) (H:Hp) (Q:VK) (E:XK):Prop
 | mk (p:Addr) (ds:List Deed) (m:Mo) (O:Addr->Prop) (n:Str) (day wt:Int) (h0:vs = [.ref p,.str n,.int day,.int wt]) (h1:MSt C CM H p ds m O) (h2:ds.length<=1000) (h3:okN n) (h4:okI day) (h5:okI wt) (h6:Vs E c H (∀O' H',MSt C CM H' p (ds ++ [.come n day wt]) (m.told (coD n day wt)) O'->Frm O H O' H'->Q .non H') ((Ug ds n day wt).or (Yj m)))
abbrev Zk4:Stmt:=Yt (top 57) 1
theorem Zsl(Zf4:HasM K CM "come" "Moot.come" Zk4)(Tc:TxC K C)(Tm:TxCMoot K CM)(M_check_coming:MtX P w K mg base C "check_coming" 2 (spComingX C c))(M_come:Mt P w K mg base C "come" ["self", "name", "day", "weight"] 3 (spComeW C))(MM_check_moments:MtX P w K mg base CM "check_moments" 1 (spMomX C CM c)):MtX P w K mg base CM "come" 4 (spComeX C CM c):=by
 refine Zf4.mx ["self", "name", "day", "weight"] ["self", "name", "day", "weight"] fun H vs Q E hr h=>?_
 obtain⟨_,ds,m,_,n,day,wt,rfl,⟨M,wa,xs,qs,rfl,W0,rfl⟩,hl,ho,hi,hw,k⟩:=h
 refine⟨rfl,_,(Zd (Zt (Ym Z5 (Zz (qvN 0)) Tc.cl M_check_coming (Za (qvN 1) (Za (qvN 2) (Za (qvN 3) Zb)))))
 (Zd (Zt (Zas Z5 (qvN 0) Tm.cl MM_check_moments))
 (Zd (Zt (Wi (Zz (qvN 0)) Tc.cl M_come (Za (qvN 1) (Za (qvN 2) (Za (qvN 3) Zb)))))
 (Ze (Zt (Wq F.plainAttrs_list F.slot_list_append F.type_list_append Wx (Zz (qvN 0)) (Za (Yw (Za Zi (Za (qvN 1) (Za (qvN 2) (Za (qvN 3) Zb))))) Zb))))))),?_⟩
 have hz:(5000:Nat)<=sizeLine:=by decide
 obtain⟨dm,obm⟩:=W0.ob
 obtain⟨dx,ob⟩:=W0.fk.f.ob
 refine⟨_,rfl,M.p,CM,dm,_,_,rfl,obm,Tm.cl,Tm.nf,Vx _,M.L.p,dx,_,rfl,ob,Yi _ _ _ _ (by decide +kernel),_,rfl,_,rfl,_,rfl,M.L,ds,wa,n,day,wt,rfl,W0.fk,hl,ho,hi,hw,fun H1 S1=>?_⟩
 cases ec:Ug ds n day wt with
 | some z=>rw[ec] at k;exact k H1 S1
 | none =>
 rw[ec,xB] at k
 have W1:=W0.same S1
 refine⟨_,rfl,M.p,dm,_,rfl,S1 _ _ obm,Y9 _ (by decide +kernel),M,ds,wa,xs,m,qs,rfl,W1,?_⟩
 cases em:Yj m with
 | some z=>rw[em] at k;exact k H1 S1
 | none =>
 rw[em] at k
 have hn4:=Zax em
 obtain⟨hnm,⟨d0,d1⟩,⟨w0,w1⟩,hc,hcm⟩:=Zow ec
 refine⟨_,rfl,M.p,CM,dm,_,_,rfl,S1 _ _ obm,Tm.cl,Tm.nf,Vx _,M.L.p,dx,_,rfl,S1 _ _ ob,Yi _ _ _ _ (by decide +kernel),_,rfl,_,rfl,_,rfl,M.L,ds,wa,n,day,wt,rfl,W1.fk,hcm,hl,hnm,d0,d1,w0,w1,hc,fun wa' H2 F2 T2 R2=>?_⟩
 have W2:=W1.folk F2 T2 R2
 obtain⟨dm2,obm2⟩:=W2.ob
 obtain⟨vs,e1,_,e2⟩:=(W2.ls (M.ld,m.deeds) (by simp[Mo.at_])).get
 dsimp only at e1 e2
 refine⟨_,rfl,M.p,CM,dm2,_,_,rfl,obm2,Tm.cl,Tm.nd,Uf _,.inl ⟨rfl,_,SqL.of e1⟩,_,rfl,_,rfl,_,rfl,by show 4<=sizeLine;lia,fun p hp=>?_⟩
 have S3:=Same.new (o:=.tup [.str "come", .str n,.int day,.int wt]) hp
 have kp:(upd H2 p (.tup [.str "come", .str n,.int day,.int wt])) p=some (.tup [.str "come", .str n,.int day,.int wt]):=Zg
 generalize (upd H2 p (.tup [.str "come", .str n,.int day,.int wt]))=H3 at S3 kp ⊢
 have W3:=W2.same S3
 refine⟨M.ld,vs,.ref p,rfl,rfl,S3 _ _ e1,by lia,?_⟩
 refine k _ _ ⟨M,wa',xs,qs,rfl,W3.deed (S3 _ _ e1) ⟨p,_,rfl,Wz kp,⟨_,_,rfl,rfl,⟨_,_,rfl,rfl,⟨_,_,rfl,rfl,⟨_,_,rfl,rfl,rfl⟩⟩⟩⟩⟩,rfl⟩ ⟨fun b o e nb=>?_,fun b hb=>?_⟩
 ·rw[Zf (fun z:b=M.ld=>nb (z▸Zaw))]
  exact S3 _ _ (T2 b o (S1 _ _ e) fun z=>nb (.inr (.inr (.inr (.inr z)))))
 ·exact(MFresh.folk (xs:=xs) (qs:=qs) R2 b hb).imp id S1.free
end
section
variable{P:Program}{w:World}{K:uFg}{mg:Str->Option Value}{base:Heap}{C CM:Addr}{c:Str->Addr}
def Zml(n:Str)(day:Int):D:=.tup [.str "bring", .str n,.int day]
def Mo.brg(m:Mo)(n:Str)(day:Int):Mo:={m with brs:=m.brs ++ [.tup [.str n,.int day]],haps:=m.haps ++ [[]],deeds:=m.deeds ++ [Zml n day] }
def Zcw(m:Mo):Option Str:=if m.brs.length < 40 then none else some "TooMany"
inductive spBringX (C CM:Addr) (c:Str->Addr) (vs:List V) (H:Hp) (Q:VK) (E:XK):Prop
 | mk (p:Addr) (ds:List Deed) (m:Mo) (O:Addr->Prop) (n:Str) (day:Int) (h0:vs = [.ref p,.str n,.int day]) (h1:MSt C CM H p ds m O) (h2:MoK m) (h3:n.length<=100) (h4:okI day) (h5:Vs E c H (∀O' H',MSt C CM H' p ds (m.brg n day) O'->Frm O H O' H'->Q (.int m.brs.length) H') ((eM 0 9999 day).or ((Y4 ds m day [n] none none).or ((Zcw m).or (Yj m)))))
abbrev Zk5:Stmt:=Yt (top 57) 5
theorem Zqd(Zf5:HasM K CM "bring" "Moot.bring" Zk5)(T:Txt mg)(Tm:TxCMoot K CM)(C0:∃t,mg "MOST_THINGS" = some (.int 40 t))(er:Er K mg c errs)(Wf:FnX P w K mg base "check_day" 1 (spM 0 9999 c))(MM_check_named:MtX P w K mg base CM "check_named" 3 (spNamedX C CM c))(MM_check_moments:MtX P w K mg base CM "check_moments" 1 (spMomX C CM c)):MtX P w K mg base CM "bring" 4 (spBringX C CM c):=by
 obtain⟨t0,c_MOST_THINGS⟩:=C0
 have r_MOST_THINGS:RelV (.int 40) (.int 40 t0):=⟨t0,rfl⟩
 refine Zf5.mx ["self", "name", "day"] ["self", "name", "day"] fun H vs Q E hr h=>?_
 obtain⟨_,ds,m,_,n,day,rfl,⟨M,wa,xs,qs,rfl,W0,rfl⟩,ok,ho,dI,k⟩:=h
 refine⟨rfl,_,(Zd (Zt (Vm Z5 Wf (Za (qvN 2) Zb)))
 (Zd (Zt (Ym Z5 (qvN 0) Tm.cl MM_check_named (Za (qvN 2) (Za (Z6 (Za (qvN 1) Zb)) (Za Y1 (Za Y1 Zb))))))
 (Zd (Zo (Zl Uw (Z7 Wm T.len Yv (Za (Zz (qvN 0)) Zb)) (Yu c_MOST_THINGS r_MOST_THINGS) (Zm _)) (Ze (Y8 Yy er (Y7 (Yr (Yz (Yu c_MOST_THINGS r_MOST_THINGS) (Yr Y6)))))) Zq)
 (Zd (Zt (Zas Z5 (qvN 0) Tm.cl MM_check_moments))
 (Zd (Zt (Wq F.plainAttrs_list F.slot_list_append F.type_list_append Wx (Zz (qvN 0)) (Za (Yw (Za (qvN 1) (Za (qvN 2) Zb))) Zb)))
 (Zd (Zt (Wq F.plainAttrs_list F.slot_list_append F.type_list_append Wx (Zz (qvN 0)) (Za (Z6 Zb) Zb)))
 (Zd (Zt (Wq F.plainAttrs_list F.slot_list_append F.type_list_append Wx (Zz (qvN 0)) (Za (Yw (Za Zi (Za (qvN 1) (Za (qvN 2) Zb)))) Zb)))
 (Ze (Zx (Z0 Zi6 (Z7 Wm T.len Yv (Za (Zz (qvN 0)) Zb)) Zc)))))))))),?_⟩
 have hz:(5000:Nat)<=sizeLine:=by decide
 have hhb:=ok.hb
 refine⟨_,rfl,day,rfl,dI,?_⟩
 cases ed:eM 0 9999 day with
 | some z=>rw[ed] at k;exact k H (Same.refl H)
 | none =>
 rw[ed,xB] at k
 obtain⟨dm,obm⟩:=W0.ob
 refine⟨_,rfl,M.p,dm,_,rfl,obm,Y9 _ (by decide +kernel),_,rfl,_,rfl,by show 1<=sizeLine;lia,fun pl hpl=>?_⟩
 have S1:=Same.new (o:=.lst [.str n]) hpl
 have k1:(upd H pl (.lst [.str n])) pl=some (.lst ([n].map V.str)):=Zg
 generalize (upd H pl (.lst [.str n]))=H1 at S1 k1 ⊢
 have W1:=W0.same S1
 refine⟨M,ds,wa,xs,m,qs,day,pl,[n],none,none,.non,rfl,W1,ok,k1,fun m hm=>by rw[xP.mp hm];exact ho,dI,(fun j e=>nomatch e),rfl,fun H1' S1'=>?_⟩
 replace S1:=S1.trans S1'
 replace W1:=W1.same S1'
 cases en:Y4 ds m day [n] none none with
 | some z=>rw[en] at k;exact k H1' S1
 | none =>
 rw[en,xB] at k
 have obm1:=S1 _ _ obm
 obtain⟨us,e1,_,hul⟩:=(W1.ls (M.lb,m.brs) (by simp[Mo.at_])).get
 dsimp only at e1 hul
 refine⟨_,rfl,M.p,CM,dm,_,_,rfl,obm1,Tm.cl,Tm.nb,Zb9 _,M.lb,us,rfl,.inl (SqL.of e1),_,_,rfl,rfl,_,rfl,Zr (fun z=>?_) (fun z=>?_)⟩
 ·have:Zcw m=some "TooMany" := if_neg (by lia)
  rw[this] at k
  exact⟨by decide +kernel,.inr ⟨40,rfl,by decide +kernel⟩,by decide +kernel,fun _=>k H1' S1⟩
 have hl:m.brs.length < 40:=by lia
 have:Zcw m=none:=if_pos hl
 rw[this,xB] at k
 refine⟨_,rfl,M.p,dm,_,rfl,obm1,Y9 _ (by decide +kernel),M,ds,wa,xs,m,qs,rfl,W1,?_⟩
 cases em:Yj m with
 | some z=>rw[em] at k;exact k H1' S1
 | none =>
 rw[em] at k
 have hn4:=Zax em
 refine⟨_,rfl,M.p,CM,dm,_,_,rfl,obm1,Tm.cl,Tm.nb,Zb9 _,.inl ⟨rfl,_,SqL.of e1⟩,_,rfl,_,rfl,by show 2<=sizeLine;lia,fun a ha=>?_⟩
 have S2:=Same.new (o:=.tup [.str n,.int day]) ha
 have k2:(upd H1' a (.tup [.str n,.int day])) a=some (.tup [.str n,.int day]):=Zg
 generalize (upd H1' a (.tup [.str n,.int day]))=H2 at S2 k2 ⊢
 have W2:=W1.same S2
 refine⟨M.lb,us,.ref a,rfl,rfl,S2 _ _ e1,by lia,?_⟩
 have W3:=W2.brg (S2 _ _ e1) (d:=.tup [.str n,.int day]) (v:=.ref a) ⟨a,_,rfl,Wz k2,⟨_,_,rfl,rfl,⟨_,_,rfl,rfl,rfl⟩⟩⟩
 have T3:Zbg M ds wa xs qs H (upd H2 M.lb (.lst (us ++ [.ref a]))):=fun b o e nb=>by
  rw[Zf (fun z:b=M.lb=>nb (z ▸ .inr (.inr (.inl (by simp[ML.ls])))))]
  exact S2 _ _ (S1 _ _ e)
 generalize (upd H2 M.lb (.lst (us ++ [.ref a])))=H3 at W3 T3 ⊢
 obtain⟨dm2,obm2⟩:=W3.ob
 have e3:=W3.hl
 refine⟨_,rfl,M.p,CM,dm2,_,_,rfl,obm2,Tm.cl,Tm.nh,Zjd _,.inl ⟨rfl,_,SqL.of e3⟩,by show 0<=sizeLine;lia,fun q hq=>?_⟩
 have S4:=Same.new (o:=.lst []) hq
 have k4:(upd H3 q (.lst [])) q=some (.lst []):=Zg
 have nq:¬mo M ds wa xs qs q:=fun z=>by obtain⟨o,e⟩:=W3.there z;rw[hq] at e;cases e
 have hqf:H q=none:=by
  cases e:H q with
  | none=>rfl
  | some o=>rw[T3 q o e nq] at hq;cases hq
 generalize (upd H3 q (.lst []))=H4 at S4 k4 ⊢
 refine⟨M.lh,qs.map V.ref,.ref q,rfl,rfl,S4 _ _ e3,by rw[xA];have:=W0.hn;lia,?_⟩
 have W5:=(W3.same S4).newq k4 nq
 have T5:Zbg M ds wa xs qs H (upd H4 M.lh (.lst (qs.map V.ref ++ [.ref q]))):=fun b o e nb=>by
  rw[Zf (fun z:b=M.lh=>nb (z ▸ .inr (.inr (.inl yC))))]
  exact S4 _ _ (T3 b o e nb)
 have em:(qs ++ [q]).map V.ref=qs.map V.ref ++ [.ref q]:=by rw[yE];rfl
 rw[em] at W5
 generalize (upd H4 M.lh (.lst (qs.map V.ref ++ [.ref q])))=H5 at W5 T5 ⊢
 obtain⟨dm4,obm4⟩:=W5.ob
 obtain⟨vs,f1,_,f2⟩:=(W5.ls (M.ld,m.deeds) (by simp[Mo.at_])).get
 dsimp only at f1 f2
 refine⟨_,rfl,M.p,CM,dm4,_,_,rfl,obm4,Tm.cl,Tm.nd,Uf _,.inl ⟨rfl,_,SqL.of f1⟩,_,rfl,_,rfl,by show 3<=sizeLine;lia,fun p hp=>?_⟩
 have S6:=Same.new (o:=.tup [.str "bring", .str n,.int day]) hp
 have k6:(upd H5 p (.tup [.str "bring", .str n,.int day])) p=some (.tup [.str "bring", .str n,.int day]):=Zg
 generalize (upd H5 p (.tup [.str "bring", .str n,.int day]))=H6 at S6 k6 ⊢
 have W6:=W5.same S6
 refine⟨M.ld,vs,.ref p,rfl,rfl,S6 _ _ f1,by lia,?_⟩
 have W7:=W6.deed (v:=.ref p) (S6 _ _ f1) (d:=.tup [.str "bring", .str n,.int day]) ⟨p,_,rfl,Wz k6,⟨_,_,rfl,rfl,⟨_,_,rfl,rfl,⟨_,_,rfl,rfl,rfl⟩⟩⟩⟩
 have T7:Zbg M ds wa xs qs H (upd H6 M.ld (.lst (vs ++ [.ref p]))):=fun b o e nb=>by
  rw[Zf (fun z:b=M.ld=>nb (z▸Zaw))]
  exact S6 _ _ (T5 b o e nb)
 generalize (upd H6 M.ld (.lst (vs ++ [.ref p])))=H7 at W7 T7 ⊢
 obtain⟨dm6,obm6⟩:=W7.ob
 obtain⟨us6,g1,_,g2⟩:=(W7.ls (M.lb,m.brs ++ [.tup [.str n,.int day]]) (by simp[Mo.at_])).get
 dsimp only at g1 g2
 rw[xC] at g2
 refine⟨_,rfl,M.p,CM,dm6,_,_,rfl,obm6,Tm.cl,Tm.nb,Zb9 _,M.lb,us6,rfl,.inl (SqL.of g1),_,_,rfl,rfl,?_⟩
 have ei:((us6.length:Int) - 1)=(m.brs.length:Int):=by rw[g2];simp
 show Q (.int ((us6.length:Int) - 1)) H7
 rw[ei]
 refine k _ H7 ⟨M,wa,xs,_,rfl,W7,rfl⟩ ⟨T7,fun b hb=>?_⟩
 rcases hb with z | z | z | z | z
 ·exact .inl (.inl z)
 ·exact .inl (.inr (.inl z))
 ·rw[← zH,← yG] at z
  rcases xM.mp z with z | z
  ·exact .inl (.inr (.inr (.inl z)))
  ·rw[xP.mp z];exact .inr hqf
 ·exact .inl (.inr (.inr (.inr (.inl z))))
 ·exact .inl (.inr (.inr (.inr (.inr z))))
end
section
variable{P:Program}{w:World}{K:uFg}{mg:Str->Option Value}{base:Heap}{C CM:Addr}{c:Str->Addr}
def gvD(i:Int)(x y:Str)(day:Int):D:=.tup [.str "give", .int i,.str x,.str y,.int day]
def Mo.give(m:Mo)(i:Nat)(x y:Str)(day:Int):Mo:={m with haps:=m.haps.set i (m.haps.getD i [] ++ [.tup [.non,.tup [.int day,.str "given", .str x,.str y]]]),deeds:=m.deeds ++ [gvD i x y day] }
inductive spGiveX (C CM:Addr) (c:Str->Addr) (vs:List V) (H:Hp) (Q:VK) (E:XK):Prop
 | mk (p:Addr) (ds:List Deed) (m:Mo) (O:Addr->Prop) (i:Int) (x y:Str) (day:Int) (h0:vs = [.ref p,.int i,.str x,.str y,.int day]) (h1:MSt C CM H p ds m O) (h2:MoK m) (h3:x.length<=100) (h4:y.length<=100) (h5:okI i) (h6:okI day) (h7:Vs E c H (∀O' H',MSt C CM H' p ds (m.give i.toNat x y day) O'->Frm O H O' H'->Q .non H') ((eM 0 9999 day).or ((Y4 ds m day [x,y] (some i) none).or (Yj m))))
abbrev Zk6:Stmt:=Yt (top 57) 6
theorem Zsm(Zf6:HasM K CM "give" "Moot.give" Zk6)(Tm:TxCMoot K CM)(Wf:FnX P w K mg base "check_day" 1 (spM 0 9999 c))(MM_check_named:MtX P w K mg base CM "check_named" 3 (spNamedX C CM c))(MM_check_moments:MtX P w K mg base CM "check_moments" 1 (spMomX C CM c)):MtX P w K mg base CM "give" 4 (spGiveX C CM c):=by
 refine Zf6.mx ["self", "thing", "giver", "taker", "day"] ["self", "thing", "giver", "taker", "day"] fun H vs Q E hr h=>?_
 obtain⟨_,ds,m,_,i,x,y,day,rfl,⟨M,wa,xs,qs,rfl,W0,rfl⟩,ok,hx,hy,hi,dI,k⟩:=h
 refine⟨rfl,_,(Zd (Zt (Vm Z5 Wf (Za (qvN 4) Zb)))
 (Zd (Zt (Ym Z5 (qvN 0) Tm.cl MM_check_named (Za (qvN 4) (Za (Z6 (Za (qvN 2) (Za (qvN 3) Zb))) (Za (qvN 1) (Za Y1 Zb))))))
 (Zd (Zt (Zas Z5 (qvN 0) Tm.cl MM_check_moments))
 (Zd (Zt (Wq F.plainAttrs_list F.slot_list_append F.type_list_append Wx (Zj Yh (Zz (qvN 0)) (qvN 1) (fun _ _=>rfl)) (Za (Yw (Za Y1 (Za (Yw (Za (qvN 4) (Za Zi (Za (qvN 2) (Za (qvN 3) Zb))))) Zb))) Zb)))
 (Ze (Zt (Wq F.plainAttrs_list F.slot_list_append F.type_list_append Wx (Zz (qvN 0)) (Za (Yw (Za Zi (Za (qvN 1) (Za (qvN 2) (Za (qvN 3) (Za (qvN 4) Zb)))))) Zb)))))))),?_⟩
 have hz:(5000:Nat)<=sizeLine:=by decide
 refine⟨_,rfl,day,rfl,dI,?_⟩
 cases ed:eM 0 9999 day with
 | some z=>rw[ed] at k;exact k H (Same.refl H)
 | none =>
 rw[ed,xB] at k
 obtain⟨dm,obm⟩:=W0.ob
 refine⟨_,rfl,M.p,dm,_,rfl,obm,Y9 _ (by decide +kernel),_,rfl,_,rfl,_,rfl,by show 2<=sizeLine;lia,fun pl hpl=>?_⟩
 have S1:=Same.new (o:=.lst [.str x,.str y]) hpl
 have k1:(upd H pl (.lst [.str x,.str y])) pl=some (.lst ([x,y].map V.str)):=Zg
 generalize (upd H pl (.lst [.str x,.str y]))=H1 at S1 k1 ⊢
 refine⟨_,rfl,M,ds,wa,xs,m,qs,day,pl,[x,y],some i,none,.non,rfl,W0.same S1,ok,k1,fun n hn=>?_,dI,(fun j e=>by cases e;exact hi),rfl,fun H1' S1'=>?_⟩
 ·rcases xE.mp hn with z | z
  ·rw[z];exact hx
  ·rw[xP.mp z];exact hy
 replace S1:=S1.trans S1'
 cases en:Y4 ds m day [x,y] (some i) none with
 | some z=>rw[en] at k;exact k H1' S1
 | none =>
 rw[en,xB] at k
 have W1:=W0.same S1
 have obm1:=S1 _ _ obm
 refine⟨_,rfl,M.p,dm,_,rfl,obm1,Y9 _ (by decide +kernel),M,ds,wa,xs,m,qs,rfl,W1,?_⟩
 cases em:Yj m with
 | some z=>rw[em] at k;exact k H1' S1
 | none =>
 rw[em] at k
 have hn4:=Zax em
 obtain⟨_,p2,_⟩:=Zqc en
 have hin:inB i m.brs.length:=by
  have:=p2 i rfl
  unfold Ui at this
  by_cases z:inB i m.brs.length
  ·exact z
  ·rw[if_neg z] at this;cases this
 obtain⟨i,rfl⟩:=yJ hin.1
 have hj:i < m.haps.length:=by rw[ok.hb];have:=hin.2;lia
 have hcl:m.haps[i]? = some (m.haps.getD i []):=by rw[yN,xD hj];rfl
 have hcn:=ok.hl _ (xF hcl)
 rw[yV] at k
 unfold Mo.give at k
 generalize m.haps.getD i []=cl at hcl hcn k
 have hi:i < qs.length:=by rw[W1.hn];exact(xQ.mp hcl).1
 have hq:qs[i]? = some qs[i]:=xD hi
 have mz:(qs[i],cl)∈qs.zip m.haps:=xF (i:=i) (by rw[zC];exact⟨hq,hcl⟩)
 obtain⟨us,e1,_,hul⟩:=(W1.ls (qs[i],cl) (by simp[Mo.at_,mz])).get
 dsimp only at e1 hul
 refine⟨_,rfl,M.p,CM,dm,_,_,rfl,obm1,Tm.cl,Tm.nh,Zjd _,_,rfl,M.lh,_,i,.ref qs[i],rfl,rfl,SqL.of W1.hl,Wj (by rw[xG,hq];rfl),.inl ⟨rfl,_,SqL.of e1⟩,_,rfl,_,rfl,_,rfl,by show 4<=sizeLine;lia,fun b hb=>?_⟩
 have S2:=Same.new (o:=.tup [.int day,.str "given", .str x,.str y]) hb
 have k2:(upd H1' b (.tup [.int day,.str "given", .str x,.str y])) b=some (.tup [.int day,.str "given", .str x,.str y]):=Zg
 generalize (upd H1' b (.tup [.int day,.str "given", .str x,.str y]))=H2 at S2 k2 ⊢
 refine⟨by show 2<=sizeLine;lia,fun a ha=>?_⟩
 have S3:=Same.new (o:=.tup [.non,.ref b]) ha
 have k3:(upd H2 a (.tup [.non,.ref b])) a=some (.tup [.non,.ref b]):=Zg
 generalize (upd H2 a (.tup [.non,.ref b]))=H3 at S3 k3 ⊢
 have W3:=(W1.same S2).same S3
 have e3:=S3 _ _ (S2 _ _ e1)
 refine⟨qs[i],us,.ref a,rfl,rfl,e3,by lia,?_⟩
 have W4:=W3.hap hq hcl (d:=.tup [.non,.tup [.int day,.str "given", .str x,.str y]]) (v:=.ref a) e3 ⟨a,_,rfl,Wz k3,⟨_,_,rfl,rfl,⟨_,_,rfl,⟨b,_,rfl,Wz (S3 _ _ k2),⟨_,_,rfl,rfl,⟨_,_,rfl,rfl,⟨_,_,rfl,rfl,⟨_,_,rfl,rfl,rfl⟩⟩⟩⟩⟩,rfl⟩⟩⟩
 have T4:Zbg M ds wa xs qs H (upd H3 qs[i] (.lst (us ++ [.ref a]))):=fun c o e nb=>by
  rw[Zf (fun z:c=qs[i]=>nb (z ▸ .inr (.inr (.inl (xX _ (xJ _ (List.getElem_mem hi)))))))]
  exact S3 _ _ (S2 _ _ (S1 _ _ e))
 generalize (upd H3 qs[i] (.lst (us ++ [.ref a])))=H4 at W4 T4 ⊢
 obtain⟨dm4,obm4⟩:=W4.ob
 obtain⟨vs,f1,_,f2⟩:=(W4.ls (M.ld,m.deeds) (by simp[Mo.at_])).get
 dsimp only at f1 f2
 refine⟨_,rfl,M.p,CM,dm4,_,_,rfl,obm4,Tm.cl,Tm.nd,Uf _,.inl ⟨rfl,_,SqL.of f1⟩,_,rfl,_,rfl,_,rfl,_,rfl,by show 5<=sizeLine;lia,fun p hp=>?_⟩
 have S5:=Same.new (o:=.tup [.str "give", .int i,.str x,.str y,.int day]) hp
 have kp:(upd H4 p (.tup [.str "give", .int i,.str x,.str y,.int day])) p=some (.tup [.str "give", .int i,.str x,.str y,.int day]):=Zg
 generalize (upd H4 p (.tup [.str "give", .int i,.str x,.str y,.int day]))=H5 at S5 kp ⊢
 refine⟨M.ld,vs,.ref p,rfl,rfl,S5 _ _ f1,by lia,?_⟩
 refine k _ _ ⟨M,wa,xs,qs,rfl,(W4.same S5).deed (S5 _ _ f1) ⟨p,_,rfl,Wz kp,⟨_,_,rfl,rfl,⟨_,_,rfl,rfl,⟨_,_,rfl,rfl,⟨_,_,rfl,rfl,⟨_,_,rfl,rfl,rfl⟩⟩⟩⟩⟩⟩,rfl⟩ ⟨fun c o e nb=>?_,fun _ hb=>.inl hb⟩
 rw[Zf (fun z:c=M.ld=>nb (z▸Zaw))]
 exact S5 _ _ (T4 c o e nb)
end
section
variable{P:Program}{w:World}{K:uFg}{mg:Str->Option Value}{base:Heap}{C CM:Addr}{c:Str->Addr}
def pyD(x y:Str)(many day:Int):D:=.tup [.str "pay", .str x,.str y,.int many,.int day]
def Mo.pay(m:Mo)(x y:Str)(many day:Int):Mo:={m with debts:=m.debts ++ [.tup [.non,.tup [.int day,.str y,.str x,.int many]]],deeds:=m.deeds ++ [pyD x y many day] }
inductive spPayX (C CM:Addr) (c:Str->Addr) (vs:List V) (H:Hp) (Q:VK) (E:XK):Prop
 | mk (p:Addr) (ds:List Deed) (m:Mo) (O:Addr->Prop) (x y:Str) (many day:Int) (h0:vs = [.ref p,.str x,.str y,.int many,.int day]) (h1:MSt C CM H p ds m O) (h2:MoK m) (h3:x.length<=100) (h4:y.length<=100) (h5:okI many) (h6:okI day) (h7:Vs E c H (∀O' H',MSt C CM H' p ds (m.pay x y many day) O'->Frm O H O' H'->Q .non H') ((eM 1 1000000 many).or ((eM 0 9999 day).or ((Y4 ds m day [x,y] none none).or (Yj m)))))
abbrev Zk7:Stmt:=Yt (top 57) 7
theorem Zui(Zf7:HasM K CM "pay" "Moot.pay" Zk7)(Tm:TxCMoot K CM)(Zw6:FnX P w K mg base "check_money" 1 (spM 1 1000000 c))(Wf:FnX P w K mg base "check_day" 1 (spM 0 9999 c))(MM_check_named:MtX P w K mg base CM "check_named" 3 (spNamedX C CM c))(MM_check_moments:MtX P w K mg base CM "check_moments" 1 (spMomX C CM c)):MtX P w K mg base CM "pay" 4 (spPayX C CM c):=by
 refine Zf7.mx ["self", "payer", "taker", "many", "day"] ["self", "payer", "taker", "many", "day"] fun H vs Q E hr h=>?_
 obtain⟨_,ds,m,_,x,y,many,day,rfl,⟨M,wa,xs,qs,rfl,W0,rfl⟩,ok,hx,hy,hmi,dI,k⟩:=h
 refine⟨rfl,_,(Zd (Zt (Vm Z5 Zw6 (Za (qvN 3) Zb)))
 (Zd (Zt (Vm Z5 Wf (Za (qvN 4) Zb)))
 (Zd (Zt (Ym Z5 (qvN 0) Tm.cl MM_check_named (Za (qvN 4) (Za (Z6 (Za (qvN 1) (Za (qvN 2) Zb))) (Za Y1 (Za Y1 Zb))))))
 (Zd (Zt (Zas Z5 (qvN 0) Tm.cl MM_check_moments))
 (Zd (Zt (Wq F.plainAttrs_list F.slot_list_append F.type_list_append Wx (Zz (qvN 0)) (Za (Yw (Za Y1 (Za (Yw (Za (qvN 4) (Za (qvN 2) (Za (qvN 1) (Za (qvN 3) Zb))))) Zb))) Zb)))
 (Ze (Zt (Wq F.plainAttrs_list F.slot_list_append F.type_list_append Wx (Zz (qvN 0)) (Za (Yw (Za Zi (Za (qvN 1) (Za (qvN 2) (Za (qvN 3) (Za (qvN 4) Zb)))))) Zb))))))))),?_⟩
 have hz:(5000:Nat)<=sizeLine:=by decide
 have hql:=ok.ql
 refine⟨_,rfl,many,rfl,hmi,?_⟩
 cases ey:eM 1 1000000 many with
 | some z=>rw[ey] at k;exact k H (Same.refl H)
 | none =>
 rw[ey,xB] at k
 refine⟨_,rfl,day,rfl,dI,?_⟩
 cases ed:eM 0 9999 day with
 | some z=>rw[ed] at k;exact k H (Same.refl H)
 | none =>
 rw[ed,xB] at k
 obtain⟨dm,obm⟩:=W0.ob
 refine⟨_,rfl,M.p,dm,_,rfl,obm,Y9 _ (by decide +kernel),_,rfl,_,rfl,_,rfl,by show 2<=sizeLine;lia,fun pl hpl=>?_⟩
 have S1:=Same.new (o:=.lst [.str x,.str y]) hpl
 have k1:(upd H pl (.lst [.str x,.str y])) pl=some (.lst ([x,y].map V.str)):=Zg
 generalize (upd H pl (.lst [.str x,.str y]))=H1 at S1 k1 ⊢
 refine⟨M,ds,wa,xs,m,qs,day,pl,[x,y],none,none,.non,rfl,W0.same S1,ok,k1,fun n hn=>?_,dI,(fun j e=>nomatch e),rfl,fun H1' S1'=>?_⟩
 ·rcases xE.mp hn with z | z
  ·rw[z];exact hx
  ·rw[xP.mp z];exact hy
 replace S1:=S1.trans S1'
 cases en:Y4 ds m day [x,y] none none with
 | some z=>rw[en] at k;exact k H1' S1
 | none =>
 rw[en,xB] at k
 have W1:=W0.same S1
 have obm1:=S1 _ _ obm
 refine⟨_,rfl,M.p,dm,_,rfl,obm1,Y9 _ (by decide +kernel),M,ds,wa,xs,m,qs,rfl,W1,?_⟩
 cases em:Yj m with
 | some z=>rw[em] at k;exact k H1' S1
 | none =>
 rw[em] at k
 have hn4:=Zax em
 obtain⟨us,e1,_,hul⟩:=(W1.ls (M.lq,m.debts) (by simp[Mo.at_])).get
 dsimp only at e1 hul
 refine⟨_,rfl,M.p,CM,dm,_,_,rfl,obm1,Tm.cl,Tm.nq,Zqb _,.inl ⟨rfl,_,SqL.of e1⟩,_,rfl,_,rfl,_,rfl,_,rfl,by show 4<=sizeLine;lia,fun b hb=>?_⟩
 have S2:=Same.new (o:=.tup [.int day,.str y,.str x,.int many]) hb
 have k2:(upd H1' b (.tup [.int day,.str y,.str x,.int many])) b=some (.tup [.int day,.str y,.str x,.int many]):=Zg
 generalize (upd H1' b (.tup [.int day,.str y,.str x,.int many]))=H2 at S2 k2 ⊢
 refine⟨by show 2<=sizeLine;lia,fun a ha=>?_⟩
 have S3:=Same.new (o:=.tup [.non,.ref b]) ha
 have k3:(upd H2 a (.tup [.non,.ref b])) a=some (.tup [.non,.ref b]):=Zg
 generalize (upd H2 a (.tup [.non,.ref b]))=H3 at S3 k3 ⊢
 have W3:=(W1.same S2).same S3
 have e3:=S3 _ _ (S2 _ _ e1)
 refine⟨M.lq,us,.ref a,rfl,rfl,e3,by lia,?_⟩
 have W4:=W3.debt (d:=.tup [.non,.tup [.int day,.str y,.str x,.int many]]) (v:=.ref a) e3 ⟨a,_,rfl,Wz k3,⟨_,_,rfl,rfl,⟨_,_,rfl,⟨b,_,rfl,Wz (S3 _ _ k2),⟨_,_,rfl,rfl,⟨_,_,rfl,rfl,⟨_,_,rfl,rfl,⟨_,_,rfl,rfl,rfl⟩⟩⟩⟩⟩,rfl⟩⟩⟩
 have T4:Zbg M ds wa xs qs H (upd H3 M.lq (.lst (us ++ [.ref a]))):=fun c o e nb=>by
  rw[Zf (fun z:c=M.lq=>nb (z ▸ .inr (.inr (.inl (by simp[ML.ls])))))]
  exact S3 _ _ (S2 _ _ (S1 _ _ e))
 generalize (upd H3 M.lq (.lst (us ++ [.ref a])))=H4 at W4 T4 ⊢
 obtain⟨dm4,obm4⟩:=W4.ob
 obtain⟨vs,f1,_,f2⟩:=(W4.ls (M.ld,m.deeds) (by simp[Mo.at_])).get
 dsimp only at f1 f2
 refine⟨_,rfl,M.p,CM,dm4,_,_,rfl,obm4,Tm.cl,Tm.nd,Uf _,.inl ⟨rfl,_,SqL.of f1⟩,_,rfl,_,rfl,_,rfl,_,rfl,by show 5<=sizeLine;lia,fun p hp=>?_⟩
 have S5:=Same.new (o:=.tup [.str "pay", .str x,.str y,.int many,.int day]) hp
 have kp:(upd H4 p (.tup [.str "pay", .str x,.str y,.int many,.int day])) p=some (.tup [.str "pay", .str x,.str y,.int many,.int day]):=Zg
 generalize (upd H4 p (.tup [.str "pay", .str x,.str y,.int many,.int day]))=H5 at S5 kp ⊢
 refine⟨M.ld,vs,.ref p,rfl,rfl,S5 _ _ f1,by lia,?_⟩
 refine k _ _ ⟨M,wa,xs,qs,rfl,(W4.same S5).deed (S5 _ _ f1) ⟨p,_,rfl,Wz kp,⟨_,_,rfl,rfl,⟨_,_,rfl,rfl,⟨_,_,rfl,rfl,⟨_,_,rfl,rfl,⟨_,_,rfl,rfl,rfl⟩⟩⟩⟩⟩⟩,rfl⟩ ⟨fun c o e nb=>?_,fun _ hb=>.inl hb⟩
 rw[Zf (fun z:c=M.ld=>nb (z▸Zaw))]
 exact S5 _ _ (T4 c o e nb)
end
section
variable{P:Program}{w:World}{K:uFg}{mg:Str->Option Value}{base:Heap}{C CM:Addr}{c:Str->Addr}
theorem Zeh{d day:Int}(h:Ys d day=none):d<=day:=by
 unfold Ys at h
 by_cases z:day < d
 ·rw[if_pos z] at h;cases h
 ·lia
theorem Zsn{ds:List Deed}{n:Str}{day wt:Int}(h:Uh ds n day wt=none):(0<=day/\day<=9999)/\(1<=wt/\wt<=1000)/\(∃d,Zk ds n=some d/\d<=day)/\Va ds n day=false:=by
 unfold Uh at h
 simp only[zK] at h
 obtain⟨h1,h2,h3,h4,h5⟩:=h
 obtain⟨d,hd⟩:=Zav h3
 rw[hd] at h4
 refine⟨Zco h1,Zco h2,⟨d,hd,Zeh h4⟩,?_⟩
 unfold Wv at h5
 cases z:Va ds n day with
 | false=>rfl
 | true=>rw[if_pos z] at h5;cases h5
theorem Zuj{ds:List Deed}{n he:Str}{day:Int}(h:Uq ds n he day=none):(0<=day/\day<=9999)/\(∃d,Zk ds n=some d/\d<=day)/\(∃d,Zk ds he=some d/\d<=day)/\Zy ds n=none/\Zy ds he=none/\he≠n:=by
 unfold Uq at h
 simp only[zK] at h
 obtain⟨h1,h2,h3,h4,h5,h6,h7⟩:=h
 obtain⟨d,hd⟩:=Zav h2
 obtain⟨e,he'⟩:=Zav h3
 rw[hd] at h4
 rw[he'] at h5
 have h6':Zy ds n=none:=by
  unfold Wo at h6
  by_cases z:Zy ds n=none
  ·exact z
  ·rw[if_neg z] at h6;cases h6
 by_cases z:he=n\/Zy ds he≠none
 ·rw[if_pos z] at h7;cases h7
 ·refine⟨Zco h1,⟨d,hd,Zeh h4⟩,⟨e,he',Zeh h5⟩,h6',?_,fun y=>z (.inl y)⟩
  by_cases y:Zy ds he=none
  ·exact y
  ·exact absurd (.inr y) z
def riD(n:Str)(day wt:Int):D:=.tup [.str "rise", .str n,.int day,.int wt]
inductive spRiseX (C CM:Addr) (c:Str->Addr) (vs:List V) (H:Hp) (Q:VK) (E:XK):Prop
 | mk (p:Addr) (ds:List Deed) (m:Mo) (O:Addr->Prop) (n:Str) (day wt:Int) (h0:vs = [.ref p,.str n,.int day,.int wt]) (h1:MSt C CM H p ds m O) (h2:ds.length<=1000) (h3:n.length<=100) (h4:okI day) (h5:okI wt) (h6:Vs E c H (∀O' H',MSt C CM H' p (ds ++ [.rise n day wt]) (m.told (riD n day wt)) O'->Frm O H O' H'->Q .non H') ((Uh ds n day wt).or (Yj m)))
abbrev Zk8:Stmt:=Yt (top 57) 2
theorem Zso(Zf8:HasM K CM "rise" "Moot.rise" Zk8)(Tc:TxC K C)(Tm:TxCMoot K CM)(M_check_rise:MtX P w K mg base C "check_rise" 3 (spRisX C c))(M_rise:Mt P w K mg base C "rise" ["self", "name", "day", "weight"] 4 (spRise C))(MM_check_moments:MtX P w K mg base CM "check_moments" 1 (spMomX C CM c)):MtX P w K mg base CM "rise" 5 (spRiseX C CM c):=by
 refine Zf8.mx ["self", "name", "day", "weight"] ["self", "name", "day", "weight"] fun H vs Q E hr h=>?_
 obtain⟨_,ds,m,_,n,day,wt,rfl,⟨M,wa,xs,qs,rfl,W0,rfl⟩,hl,ho,hi,hw,k⟩:=h
 refine⟨rfl,_,(Zd (Zt (Ym Z5 (Zz (qvN 0)) Tc.cl M_check_rise (Za (qvN 1) (Za (qvN 2) (Za (qvN 3) Zb)))))
 (Zd (Zt (Zas Z5 (qvN 0) Tm.cl MM_check_moments))
 (Zd (Zt (Wi (Zz (qvN 0)) Tc.cl M_rise (Za (qvN 1) (Za (qvN 2) (Za (qvN 3) Zb)))))
 (Ze (Zt (Wq F.plainAttrs_list F.slot_list_append F.type_list_append Wx (Zz (qvN 0)) (Za (Yw (Za Zi (Za (qvN 1) (Za (qvN 2) (Za (qvN 3) Zb))))) Zb))))))),?_⟩
 have hz:(5000:Nat)<=sizeLine:=by decide
 obtain⟨dm,obm⟩:=W0.ob
 obtain⟨dx,ob⟩:=W0.fk.f.ob
 refine⟨_,rfl,M.p,CM,dm,_,_,rfl,obm,Tm.cl,Tm.nf,Vx _,M.L.p,dx,_,rfl,ob,Yi _ _ _ _ (by decide +kernel),_,rfl,_,rfl,_,rfl,M.L,ds,n,day,wt,rfl,W0.fk.f,ho,hi,hw,?_⟩
 cases ec:Uh ds n day wt with
 | some z=>rw[ec] at k;exact k H (Same.refl H)
 | none =>
 rw[ec,xB] at k
 refine⟨_,rfl,M.p,dm,_,rfl,obm,Y9 _ (by decide +kernel),M,ds,wa,xs,m,qs,rfl,W0,?_⟩
 cases em:Yj m with
 | some z=>rw[em] at k;exact k H (Same.refl H)
 | none =>
 rw[em] at k
 have hn4:=Zax em
 obtain⟨⟨d0,d1⟩,⟨w0,w1⟩,⟨d,hd,hdd⟩,hv⟩:=Zsn ec
 refine⟨_,rfl,M.p,CM,dm,_,_,rfl,obm,Tm.cl,Tm.nf,Vx _,M.L.p,dx,_,rfl,ob,Yi _ _ _ _ (by decide +kernel),_,rfl,_,rfl,_,rfl,M.L,ds,wa,n,day,wt,d,rfl,W0.fk,hl,d0,d1,w0,w1,hd,hdd,hv,fun H2 F2 T2 R2=>?_⟩
 have W2:=W0.folk F2 T2 R2
 obtain⟨dm2,obm2⟩:=W2.ob
 obtain⟨vs,e1,_,e2⟩:=(W2.ls (M.ld,m.deeds) (by simp[Mo.at_])).get
 dsimp only at e1 e2
 refine⟨_,rfl,M.p,CM,dm2,_,_,rfl,obm2,Tm.cl,Tm.nd,Uf _,.inl ⟨rfl,_,SqL.of e1⟩,_,rfl,_,rfl,_,rfl,by show 4<=sizeLine;lia,fun p hp=>?_⟩
 have S3:=Same.new (o:=.tup [.str "rise", .str n,.int day,.int wt]) hp
 have kp:(upd H2 p (.tup [.str "rise", .str n,.int day,.int wt])) p=some (.tup [.str "rise", .str n,.int day,.int wt]):=Zg
 generalize (upd H2 p (.tup [.str "rise", .str n,.int day,.int wt]))=H3 at S3 kp ⊢
 have W3:=W2.same S3
 refine⟨M.ld,vs,.ref p,rfl,rfl,S3 _ _ e1,by lia,?_⟩
 refine k _ _ ⟨M,wa,xs,qs,rfl,W3.deed (S3 _ _ e1) ⟨p,_,rfl,Wz kp,⟨_,_,rfl,rfl,⟨_,_,rfl,rfl,⟨_,_,rfl,rfl,⟨_,_,rfl,rfl,rfl⟩⟩⟩⟩⟩,rfl⟩ ⟨fun b o e nb=>?_,fun b hb=>?_⟩
 ·rw[Zf (fun z:b=M.ld=>nb (z▸Zaw))]
  exact S3 _ _ (T2 b o e fun z=>nb (.inr (.inr (.inr (.inr z)))))
 ·exact MFresh.folk (xs:=xs) (qs:=qs) R2 b hb
def diD(n he:Str)(day:Int):D:=.tup [.str "die", .str n,.int day,.str he]
inductive spDieX (C CM:Addr) (c:Str->Addr) (vs:List V) (H:Hp) (Q:VK) (E:XK):Prop
 | mk (p:Addr) (ds:List Deed) (m:Mo) (O:Addr->Prop) (n he:Str) (day:Int) (h0:vs = [.ref p,.str n,.int day,.str he]) (h1:MSt C CM H p ds m O) (h2:ds.length<=1000) (h3:n.length<=100) (h4:he.length<=100) (h5:okI day) (h6:Vs E c H (∀O' H',MSt C CM H' p (ds ++ [.die n day he]) (m.told (diD n he day)) O'->Frm O H O' H'->Q .non H') ((Uq ds n he day).or (Yj m)))
abbrev Zk9:Stmt:=Yt (top 57) 3
theorem Zuk(Zf9:HasM K CM "die" "Moot.die" Zk9)(Tc:TxC K C)(Tm:TxCMoot K CM)(M_check_death:MtX P w K mg base C "check_death" 2 (spDiX C c))(M_die:Mt P w K mg base C "die" ["self", "name", "day", "heir"] 3 (spDie C))(MM_check_moments:MtX P w K mg base CM "check_moments" 1 (spMomX C CM c)):MtX P w K mg base CM "die" 4 (spDieX C CM c):=by
 refine Zf9.mx ["self", "name", "day", "heir"] ["self", "name", "day", "heir"] fun H vs Q E hr h=>?_
 obtain⟨_,ds,m,_,n,he,day,rfl,⟨M,wa,xs,qs,rfl,W0,rfl⟩,hl,ho,ho2,hi,k⟩:=h
 refine⟨rfl,_,(Zd (Zt (Ym Z5 (Zz (qvN 0)) Tc.cl M_check_death (Za (qvN 1) (Za (qvN 2) (Za (qvN 3) Zb)))))
 (Zd (Zt (Zas Z5 (qvN 0) Tm.cl MM_check_moments))
 (Zd (Zt (Wi (Zz (qvN 0)) Tc.cl M_die (Za (qvN 1) (Za (qvN 2) (Za (qvN 3) Zb)))))
 (Ze (Zt (Wq F.plainAttrs_list F.slot_list_append F.type_list_append Wx (Zz (qvN 0)) (Za (Yw (Za Zi (Za (qvN 1) (Za (qvN 2) (Za (qvN 3) Zb))))) Zb))))))),?_⟩
 have hz:(5000:Nat)<=sizeLine:=by decide
 obtain⟨dm,obm⟩:=W0.ob
 obtain⟨dx,ob⟩:=W0.fk.f.ob
 refine⟨_,rfl,M.p,CM,dm,_,_,rfl,obm,Tm.cl,Tm.nf,Vx _,M.L.p,dx,_,rfl,ob,Yi _ _ _ _ (by decide +kernel),_,rfl,_,rfl,_,rfl,M.L,ds,n,he,day,rfl,W0.fk.f,ho,ho2,hi,?_⟩
 cases ec:Uq ds n he day with
 | some z=>rw[ec] at k;exact k H (Same.refl H)
 | none =>
 rw[ec,xB] at k
 refine⟨_,rfl,M.p,dm,_,rfl,obm,Y9 _ (by decide +kernel),M,ds,wa,xs,m,qs,rfl,W0,?_⟩
 cases em:Yj m with
 | some z=>rw[em] at k;exact k H (Same.refl H)
 | none =>
 rw[em] at k
 have hn4:=Zax em
 obtain⟨⟨d0,d1⟩,⟨d,hd,hdd⟩,⟨d2,hd2,hdd2⟩,hv,hv2,hne⟩:=Zuj ec
 refine⟨_,rfl,M.p,CM,dm,_,_,rfl,obm,Tm.cl,Tm.nf,Vx _,M.L.p,dx,_,rfl,ob,Yi _ _ _ _ (by decide +kernel),_,rfl,_,rfl,_,rfl,M.L,ds,wa,n,he,day,d,d2,rfl,W0.fk,hl,d0,d1,hd,hdd,hd2,hdd2,hv,hv2,hne,fun H2 F2 T2 R2=>?_⟩
 have W2:=W0.folk F2 T2 R2
 obtain⟨dm2,obm2⟩:=W2.ob
 obtain⟨vs,e1,_,e2⟩:=(W2.ls (M.ld,m.deeds) (by simp[Mo.at_])).get
 dsimp only at e1 e2
 refine⟨_,rfl,M.p,CM,dm2,_,_,rfl,obm2,Tm.cl,Tm.nd,Uf _,.inl ⟨rfl,_,SqL.of e1⟩,_,rfl,_,rfl,_,rfl,by show 4<=sizeLine;lia,fun p hp=>?_⟩
 have S3:=Same.new (o:=.tup [.str "die", .str n,.int day,.str he]) hp
 have kp:(upd H2 p (.tup [.str "die", .str n,.int day,.str he])) p=some (.tup [.str "die", .str n,.int day,.str he]):=Zg
 generalize (upd H2 p (.tup [.str "die", .str n,.int day,.str he]))=H3 at S3 kp ⊢
 have W3:=W2.same S3
 refine⟨M.ld,vs,.ref p,rfl,rfl,S3 _ _ e1,by lia,?_⟩
 refine k _ _ ⟨M,wa,xs,qs,rfl,W3.deed (S3 _ _ e1) ⟨p,_,rfl,Wz kp,⟨_,_,rfl,rfl,⟨_,_,rfl,rfl,⟨_,_,rfl,rfl,⟨_,_,rfl,rfl,rfl⟩⟩⟩⟩⟩,rfl⟩ ⟨fun b o e nb=>?_,fun b hb=>?_⟩
 ·rw[Zf (fun z:b=M.ld=>nb (z▸Zaw))]
  exact S3 _ _ (T2 b o e fun z=>nb (.inr (.inr (.inr (.inr z)))))
 ·exact MFresh.folk (xs:=xs) (qs:=qs) R2 b hb
end
section
variable{P:Program}{w:World}{K:uFg}{mg:Str->Option Value}{base:Heap}{C CM:Addr}{c:Str->Addr}
theorem Y5{i:Nat}{k:Int}{tr:TA}{σ:St}{H:Hp}{Q:List V->Hp->Prop}{a:Addr}{us:List V}{v:V}(h1 : σ[i]? = some (some (.ref a)))(h2:H a=some (.tup us))(h3:atI us k=some v)(h:tr σ H fun vs H2=>Q (v::vs) H2):W8 (tOp (rIxT K) (tVar i) (tC (.int k))) tr σ H Q:=⟨_,h1,a,us,k,v,rfl,rfl,SqT.of h2,h3,h⟩
theorem Zbp{i:Nat}{w v:Str}{t u:TS}{D:Ends}{σ:St}{H:Hp}(h1 : σ[i]? = some (some (.str v)))(h2:v≠w)(h:u D σ H):Ve (Zcs (Zad (tOp rEq (tVar i) (tC (.str w)))) t Zbj) u D σ H:=⟨_,h1,rfl,_,rfl,Zr (fun z=>absurd (by injection z) h2) (fun _=>h)⟩
theorem Zay{i:Nat}{w:Str}{t u:TS}{D:Ends}{σ:St}{H:Hp}(h1 : σ[i]? = some (some (.str w)))(h:t {D with nx:=u D } σ H):Ve (Zcs (Zad (tOp rEq (tVar i) (tC (.str w)))) t Zbj) u D σ H:=⟨_,h1,rfl,_,rfl,Zr (fun _=>h) (fun z=>absurd rfl z)⟩
inductive CD where
 | wer (x y:Str) (many:Int) | clm (x:Str) (i:Int) | acc (i:Int) (n:Str)
def cdV(day need:Int)(l1 l2:Addr):CD->List V
 | .wer x y many=>[.str "wergild", .str x,.str y,.int many,.int day,.int need,.ref l1,.ref l2]
 | .clm x i=>[.str "claim", .str x,.int i,.int day,.int need,.ref l1,.ref l2]
 | .acc i n=>[.str "accuse", .int i,.str n,.int day,.int need,.ref l1,.ref l2]
def Zyv:CD->Prop
 | .wer x y many=>x.length<=100/\y.length<=100/\okI many
 | .clm x i=>x.length<=100/\okI i
 | .acc i n=>n.length<=100/\okI i
def eCD(ds:List Deed)(m:Mo)(day need:Int)(f:Str->Int)(o1 o2:List Str):CD->Option Str
 | .wer x y many=>Zmj ds m x y many day need f o1 o2
 | .clm x i=>Zj2 ds m x i day need f o1 o2
 | .acc i n=>Zmk ds m i n day need f o1 o2
def Mo.does(m:Mo)(day need:Int)(f:Str->Int)(o1 o2:List Str):CD->Mo
 | .wer x y many=>m.owes x y many day need f o1 o2
 | .clm x i=>m.won x i.toNat day need f o1 o2
 | .acc i n=>m.acc i n day need f o1 o2
inductive SD where
 | come (n:Str) (day wt:Int) | rise (n:Str) (day wt:Int) | die (n he:Str) (day:Int) | pen (n:Str) | bring (n:Str) (day:Int) | give (i:Int) (x y:Str) (day:Int) | pay (x y:Str) (many day:Int)
def sdV:SD->List V
 | .come n day wt=>[.str "come", .str n,.int day,.int wt]
 | .rise n day wt=>[.str "rise", .str n,.int day,.int wt]
 | .die n he day=>[.str "die", .str n,.int day,.str he]
 | .pen n=>[.str "penance", .str n]
 | .bring n day=>[.str "bring", .str n,.int day]
 | .give i x y day=>[.str "give", .int i,.str x,.str y,.int day]
 | .pay x y many day=>[.str "pay", .str x,.str y,.int many,.int day]
def Zha(ds:List Deed)(m:Mo):SD->Prop
 | .come n day wt=>ds.length<=1000/\okN n/\okI day/\okI wt
 | .rise n day wt=>ds.length<=1000/\n.length<=100/\okI day/\okI wt
 | .die n he day=>ds.length<=1000/\n.length<=100/\he.length<=100/\okI day
 | .pen n=>n.length<=100/\m.npen<=1000/\m.trials.length<=1000
 | .bring n day=>MoK m/\n.length<=100/\okI day
 | .give i x y day=>MoK m/\x.length<=100/\y.length<=100/\okI i/\okI day
 | .pay x y many day=>MoK m/\x.length<=100/\y.length<=100/\okI many/\okI day
def eSD(ds:List Deed)(m:Mo):SD->Option Str
 | .come n day wt=>(Ug ds n day wt).or (Yj m)
 | .rise n day wt=>(Uh ds n day wt).or (Yj m)
 | .die n he day=>(Uq ds n he day).or (Yj m)
 | .pen n=>(Yq ds n).or ((Wo ds n).or (Yj m))
 | .bring n day=>(eM 0 9999 day).or ((Y4 ds m day [n] none none).or ((Zcw m).or (Yj m)))
 | .give i x y day=>(eM 0 9999 day).or ((Y4 ds m day [x,y] (some i) none).or (Yj m))
 | .pay x y many day=>(eM 1 1000000 many).or ((eM 0 9999 day).or ((Y4 ds m day [x,y] none none).or (Yj m)))
def sdF(ds:List Deed):SD->List Deed
 | .come n day wt=>ds ++ [.come n day wt]
 | .rise n day wt=>ds ++ [.rise n day wt]
 | .die n he day=>ds ++ [.die n day he]
 | _=>ds
def Mo.sd(m:Mo):SD->Mo
 | .come n day wt=>m.told (coD n day wt)
 | .rise n day wt=>m.told (riD n day wt)
 | .die n he day=>m.told (diD n he day)
 | .pen n=>m.pena n
 | .bring n day=>m.brg n day
 | .give i x y day=>m.give i.toNat x y day
 | .pay x y many day=>m.pay x y many day
def sdR(m:Mo):SD->V
 | .bring _ _=>.int m.brs.length
 | _=>.non
inductive spDoneS (C CM:Addr) (c:Str->Addr) (vs:List V) (H:Hp) (Q:VK) (E:XK):Prop
 | mk (p:Addr) (ds:List Deed) (m:Mo) (O:Addr->Prop) (a:Addr) (d:SD) (h0:vs = [.ref p,.ref a]) (h1:MSt C CM H p ds m O) (h2:H a=some (.tup (sdV d))) (h3:Zha ds m d) (h4:Vs E c H (∀O' H',MSt C CM H' p (sdF ds d) (m.sd d) O'->Frm O H O' H'->Q (sdR m d) H') (eSD ds m d))
inductive spDoneX (C CM:Addr) (c:Str->Addr) (vs:List V) (H:Hp) (Q:VK) (E:XK):Prop
 | mk (p:Addr) (ds:List Deed) (m:Mo) (O:Addr->Prop) (a:Addr) (d:CD) (day need:Int) (l1 l2:Addr) (o1 o2:List Str) (f:Str->Int) (h0:vs = [.ref p,.ref a]) (h1:MSt C CM H p ds m O) (h2:H a=some (.tup (cdV day need l1 l2 d))) (h3:CsA ds m H l1 l2 o1 o2 day need f) (h4:¬O l1) (h5:¬O l2) (h6:Zyv d) (h7:Vs E c H (∀O' H',MSt C CM H' p ds (m.does day need f o1 o2 d) O'->Frm O H O' H'->Q (.int m.trials.length) H') (eCD ds m day need f o1 o2 d))
abbrev Zla:Stmt:=top 20
theorem Zw7(Zga:Has K mg "done" Zla)(Tm:TxCMoot K CM)(er:Er K mg c errs)(MM_come:MtX P w K mg base CM "come" 4 (spComeX C CM c))(MM_rise:MtX P w K mg base CM "rise" 5 (spRiseX C CM c))(MM_die:MtX P w K mg base CM "die" 4 (spDieX C CM c))(MM_penance:MtX P w K mg base CM "penance" 2 (spPenX C CM c))(MM_bring:MtX P w K mg base CM "bring" 4 (spBringX C CM c))(MM_give:MtX P w K mg base CM "give" 4 (spGiveX C CM c))(MM_pay:MtX P w K mg base CM "pay" 4 (spPayX C CM c)):FnX P w K mg base "done" 8 (spDoneS C CM c):=by
 refine Zga.fx ["moot", "deed", "word"] ["moot", "deed"] fun H vs Q E hr h=>?_
 obtain⟨_,ds,m,_,a,d,rfl,⟨M,wa,xs,qs,rfl,W,rfl⟩,ha,hd,k⟩:=h
 refine⟨rfl,_,(Zd (Z1 2 (Zj Zu (qvN 1) Zc (fun _ _=>rfl)))
 (Zd (Zo (Zl Z4 (qvN 2) Zi (Zm _)) (Ze (Zx (Ym Z5 (qvN 0) Tm.cl MM_come (Za (Zj Zu (qvN 1) Zc (fun _ _=>rfl)) (Za (Zj Zu (qvN 1) Zc (fun _ _=>rfl)) (Za (Zj Zu (qvN 1) Zc (fun _ _=>rfl)) Zb)))))) Zq)
 (Zd (Zo (Zl Z4 (qvN 2) Zi (Zm _)) (Ze (Zx (Ym Z5 (qvN 0) Tm.cl MM_rise (Za (Zj Zu (qvN 1) Zc (fun _ _=>rfl)) (Za (Zj Zu (qvN 1) Zc (fun _ _=>rfl)) (Za (Zj Zu (qvN 1) Zc (fun _ _=>rfl)) Zb)))))) Zq)
 (Zd (Zo (Zl Z4 (qvN 2) Zi (Zm _)) (Ze (Zx (Ym Z5 (qvN 0) Tm.cl MM_die (Za (Zj Zu (qvN 1) Zc (fun _ _=>rfl)) (Za (Zj Zu (qvN 1) Zc (fun _ _=>rfl)) (Za (Zj Zu (qvN 1) Zc (fun _ _=>rfl)) Zb)))))) Zq)
 (Zd (Zo (Zl Z4 (qvN 2) Zi (Zm _)) (Ze (Zx (Ym Z5 (qvN 0) Tm.cl MM_penance (Za (Zj Zu (qvN 1) Zc (fun _ _=>rfl)) Zb)))) Zq)
 (Zd (Zo (Zl Z4 (qvN 2) Zi (Zm _)) (Ze (Zx (Ym Z5 (qvN 0) Tm.cl MM_bring (Za (Zj Zu (qvN 1) Zc (fun _ _=>rfl)) (Za (Zj Zu (qvN 1) Zc (fun _ _=>rfl)) Zb))))) Zq)
 (Zd (Zo (Zl Z4 (qvN 2) Zi (Zm _)) (Ze (Zx (Ym Z5 (qvN 0) Tm.cl MM_give (Za (Zj Zu (qvN 1) Zc (fun _ _=>rfl)) (Za (Zj Zu (qvN 1) Zc (fun _ _=>rfl)) (Za (Zj Zu (qvN 1) Zc (fun _ _=>rfl)) (Za (Zj Zu (qvN 1) Zc (fun _ _=>rfl)) Zb))))))) Zq)
 (Zd (Zo (Zl Z4 (qvN 2) Zi (Zm _)) (Ze (Zx (Ym Z5 (qvN 0) Tm.cl MM_pay (Za (Zj Zu (qvN 1) Zc (fun _ _=>rfl)) (Za (Zj Zu (qvN 1) Zc (fun _ _=>rfl)) (Za (Zj Zu (qvN 1) Zc (fun _ _=>rfl)) (Za (Zj Zu (qvN 1) Zc (fun _ _=>rfl)) Zb))))))) Zq)
 (Zd (Zo (Zl Z4 (qvN 2) Zi (Zm _)) (Ze Wy) Zq)
 (Zd (Zo (Zl Z4 (qvN 2) Zi (Zm _)) (Ze Wy) Zq)
 (Zd (Zo (Zl Z4 (qvN 2) Zi (Zm _)) (Ze Wy) Zq)
 (Ze (Y8 Yy er (Y7 (Yz (qvN 2) (Yr Y6)))))))))))))))),?_⟩
 ·obtain⟨dm,obm⟩:=W.ob
  have mst:MSt C CM H M.p ds m (mo M ds wa xs qs):=⟨M,wa,xs,qs,rfl,W,rfl⟩
  cases d with
  | come n day wt =>
   refine⟨_,rfl,a,_,0,_,rfl,rfl,SqT.of ha,rfl,?_⟩
   refine V0 ?_
   refine Zay rfl ?_
   exact⟨_,rfl,M.p,dm,_,rfl,obm,Y9 _ (by decide +kernel),Y5 rfl ha rfl (Y5 rfl ha rfl (Y5 rfl ha rfl ⟨M.p,ds,m,_,n,day,wt,rfl,mst,hd.1,hd.2.1,hd.2.2.1,hd.2.2.2,k⟩))⟩
  | rise n day wt =>
   refine⟨_,rfl,a,_,0,_,rfl,rfl,SqT.of ha,rfl,?_⟩
   refine V0 ?_
   iterate 1 refine Zbp rfl (by decide +kernel) ?_
   refine Zay rfl ?_
   exact⟨_,rfl,M.p,dm,_,rfl,obm,Y9 _ (by decide +kernel),Y5 rfl ha rfl (Y5 rfl ha rfl (Y5 rfl ha rfl ⟨M.p,ds,m,_,n,day,wt,rfl,mst,hd.1,hd.2.1,hd.2.2.1,hd.2.2.2,k⟩))⟩
  | die n he day =>
   refine⟨_,rfl,a,_,0,_,rfl,rfl,SqT.of ha,rfl,?_⟩
   refine V0 ?_
   iterate 2 refine Zbp rfl (by decide +kernel) ?_
   refine Zay rfl ?_
   exact⟨_,rfl,M.p,dm,_,rfl,obm,Y9 _ (by decide +kernel),Y5 rfl ha rfl (Y5 rfl ha rfl (Y5 rfl ha rfl ⟨M.p,ds,m,_,n,he,day,rfl,mst,hd.1,hd.2.1,hd.2.2.1,hd.2.2.2,k⟩))⟩
  | pen n =>
   refine⟨_,rfl,a,_,0,_,rfl,rfl,SqT.of ha,rfl,?_⟩
   refine V0 ?_
   iterate 3 refine Zbp rfl (by decide +kernel) ?_
   refine Zay rfl ?_
   exact⟨_,rfl,M.p,dm,_,rfl,obm,Y9 _ (by decide +kernel),Y5 rfl ha rfl ⟨M.p,ds,m,_,n,rfl,mst,hd.1,hd.2.1,hd.2.2,k⟩⟩
  | bring n day =>
   refine⟨_,rfl,a,_,0,_,rfl,rfl,SqT.of ha,rfl,?_⟩
   refine V0 ?_
   iterate 4 refine Zbp rfl (by decide +kernel) ?_
   refine Zay rfl ?_
   exact⟨_,rfl,M.p,dm,_,rfl,obm,Y9 _ (by decide +kernel),Y5 rfl ha rfl (Y5 rfl ha rfl ⟨M.p,ds,m,_,n,day,rfl,mst,hd.1,hd.2.1,hd.2.2,k⟩)⟩
  | give i x y day =>
   refine⟨_,rfl,a,_,0,_,rfl,rfl,SqT.of ha,rfl,?_⟩
   refine V0 ?_
   iterate 5 refine Zbp rfl (by decide +kernel) ?_
   refine Zay rfl ?_
   exact⟨_,rfl,M.p,dm,_,rfl,obm,Y9 _ (by decide +kernel),Y5 rfl ha rfl (Y5 rfl ha rfl (Y5 rfl ha rfl (Y5 rfl ha rfl ⟨M.p,ds,m,_,i,x,y,day,rfl,mst,hd.1,hd.2.1,hd.2.2.1,hd.2.2.2.1,hd.2.2.2.2,k⟩)))⟩
  | pay x y many day =>
   refine⟨_,rfl,a,_,0,_,rfl,rfl,SqT.of ha,rfl,?_⟩
   refine V0 ?_
   iterate 6 refine Zbp rfl (by decide +kernel) ?_
   refine Zay rfl ?_
   exact⟨_,rfl,M.p,dm,_,rfl,obm,Y9 _ (by decide +kernel),Y5 rfl ha rfl (Y5 rfl ha rfl (Y5 rfl ha rfl (Y5 rfl ha rfl ⟨M.p,ds,m,_,x,y,many,day,rfl,mst,hd.1,hd.2.1,hd.2.2.1,hd.2.2.2.1,hd.2.2.2.2,k⟩)))⟩
end
section
variable{P:Program}{w:World}{K:uFg}{mg:Str->Option Value}{base:Heap}{C CM:Addr}{c:Str->Addr}
theorem MSt.there{H:Hp}{p:Addr}{ds:List Deed}{m:Mo}{O:Addr->Prop}(h:MSt C CM H p ds m O){b:Addr}(hb:O b):∃o,H b=some o:=by
 obtain⟨M,wa,xs,qs,_,W,rfl⟩:=h
 exact W.there hb
theorem MSt.out{H:Hp}{p:Addr}{ds:List Deed}{m:Mo}{O:Addr->Prop}(h:MSt C CM H p ds m O){b:Addr}(e:H b=none):¬O b:=fun z=>by
 obtain⟨o,e'⟩:=h.there z
 rw[e] at e';cases e'
end
section
variable{P:Program}{w:World}{K:uFg}{mg:Str->Option Value}{base:Heap}{C CM:Addr}
theorem Yc{t u:TS}{D:Ends}{σ:St}{H:Hp}(h:∀D':Ends,(∀ σ' H',u D σ' H'->D'.nx σ' H')->t D' σ H):Ve t u D σ H:=h {D with nx:=u D } fun _ _ h=>h
theorem ini{H:Hp}{p l dx:Addr}{fs fs':List (Str×V)}{y:HO}(hp:H p=some (.ins CM dx fs))(hl:H l=none):(upd (upd H l y) p (.ins CM dx fs')) p=some (.ins CM dx fs')/\(upd (upd H l y) p (.ins CM dx fs')) l=some y/\(∀b o,H b=some o->b≠p->(upd (upd H l y) p (.ins CM dx fs')) b=some o)/\p≠l:=by
 have n:p≠l:=Zp hp hl
 exact⟨Zg,by rw[Zf n.symm,Zg],fun b o e nb=>by rw[Zf nb,Zf (Zp e hl)];exact e,n⟩
theorem U9{N:Hp->Prop}{H:Hp}{p l dx:Addr}{fs:List (Str×V)}{nm:Str}{y:HO}{k:Nat}(hp:H p=some (.ins CM dx fs))(hl:H l=none)(hb:fs.length<=k)(h:∀ (H1:Hp) (f1:List (Str×V)),Zn nm (.ref l) fs=f1->f1.length<=k+1->H1 p=some (.ins CM dx f1)->H1 l=some y->(∀b o,H b=some o->b≠p->H1 b=some o)->N H1):N (upd (upd H l y) p (.ins CM dx (Zn nm (.ref l) fs))) :=
 have i:=ini (fs':=Zn nm (.ref l) fs) (y:=y) hp hl
 h _ _ rfl (yK (Zaf ..) (by lia)) i.1 i.2.1 i.2.2.1
def mo0:Mo:=⟨[],[],[],[],[],[],[],fun _=>none,0⟩
inductive spMInit (C CM:Addr) (vs:List V) (H:Hp) (Q:VK) (z3:XK):Prop
 | mk (p dx:Addr) (h0:vs = [.ref p]) (h1:H p=some (.ins CM dx [])) (h2:∀(M:ML)(H':Hp),M.p=p->MootAt C CM H' M [] (fun _=>0) [] mo0 []->(∀b o,H b=some o->b≠p->H' b=some o)->(∀b,mo M [] (fun _=>0) [] [] b->b=p\/H b=none)->Q .non H')
abbrev Zlb:Stmt:=Yt (top 57) 0
theorem Zsp(Zgb:HasM K CM "__init__" "Moot.__init__" Zlb)(Tm:TxCMoot K CM)(M_Folk:Mks P w K mg base C "Folk" 1 (spInit C)):Mt P w K mg base CM "__init__" ["self"] 3 (spMInit C CM):=by
 refine Zgb.mq ["self"] fun H vs Q E hr h=>?_
 obtain⟨p,dx,rfl,hp,k⟩:=h
 refine⟨rfl,_,(Zd (W9 (qvN 0) (Z6 Zb))
 (Zd (W9 (qvN 0) (Zjw M_Folk))
 (Zd (W9 (qvN 0) (Z6 Zb))
 (Zd (W9 (qvN 0) (Z6 Zb))
 (Zd (W9 (qvN 0) (Z6 Zb))
 (Zd (W9 (qvN 0) (Z6 Zb))
 (Zd (W9 (qvN 0) (Z6 Zb))
 (Zd (W9 (qvN 0) (Z6 Zb))
 (Ze (W9 (qvN 0) Zb8)))))))))),?_⟩
 have hz:(5000:Nat)<=sizeLine:=by decide
 refine Yc fun D1 hn1=>?_
 refine⟨by show 0<=sizeLine;lia,fun ld hld=>?_⟩
 have pld:p≠ld:=Zp hp hld
 refine⟨_,rfl,p,CM,dx,[],rfl,(by rw[Zf pld];exact hp),Tm.cl,Tm.nd,(yO (xK 0) (by decide)),U9 (k:=0) hp hld (xK 0) fun H1 f1 g1 l1 i1p i1l i1k=>hn1 _ _ ?_⟩
 refine Yc fun D2 hn2=>?_
 intro x dx2 nx ndx nex
 have px:p≠x:=Zp i1p nx
 have pdx:p≠dx2:=Zp i1p ndx
 refine⟨x,dx2,rfl,Zg,fun L H2a eL F2 kp fr=>⟨rfl,?_⟩⟩
 subst eL
 have sm2:Same H1 H2a:=fun b o e=>kp b o (by rw[Zf (Zp e nx),Zf (Zp e ndx)];exact e) (Zp e nx)
 have fr2:∀b,b=L.dc\/b=L.dw\/b=L.dd\/b=L.dh->H1 b=none:=fun b hb=>by
  have:=fr b hb
  by_cases c:b=L.p
  ·rw[c];exact nx
  ·rw[Zf c] at this
   by_cases c2:b=dx2
   ·rw[c2];exact ndx
   ·rw[Zf c2] at this;exact this
 have i2p0:=sm2 _ _ i1p
 have K2:Fk C H2a L [] (fun _=>0):=by
  obtain⟨kv,w1,w2⟩:=F2.w
  exact⟨F2,WtsAt.start F2,kv,w1,fun p hp=>by rw[List.eq_nil_of_length_eq_zero (Nat.le_zero.mp w2)] at hp;cases hp⟩
 refine⟨_,rfl,p,CM,dx,f1,rfl,i2p0,Tm.cl,Tm.nf,(yO l1 (by decide)),hn2 _ _ ?_⟩
 have l2:(Zn "folk" (V.ref L.p) f1).length<=2:=yK (Zaf ..) (by lia)
 generalize g2:Zn "folk" (V.ref L.p) f1=f2 at l2 ⊢
 have i2p:(upd H2a p (.ins CM dx f2)) p=some (.ins CM dx f2):=Zg
 have i2k:∀b o,H2a b=some o->b≠p->(upd H2a p (.ins CM dx f2)) b=some o:=fun b o e nb=>by rw[Zf nb];exact e
 generalize (upd H2a p (.ins CM dx f2))=H2 at i2p i2k ⊢
 refine Yc fun D3 hn3=>?_
 refine⟨by show 0<=sizeLine;lia,fun lb hlb=>?_⟩
 have plb:p≠lb:=Zp i2p hlb
 refine⟨_,rfl,p,CM,dx,f2,rfl,(by rw[Zf plb];exact i2p),Tm.cl,Tm.nb,(yO l2 (by decide)),U9 (k:=2) i2p hlb l2 fun H3 f3 g3 l3 i3p i3l i3k=>hn3 _ _ ?_⟩
 refine Yc fun D4 hn4=>?_
 refine⟨by show 0<=sizeLine;lia,fun lh hlh=>?_⟩
 have plh:p≠lh:=Zp i3p hlh
 refine⟨_,rfl,p,CM,dx,f3,rfl,(by rw[Zf plh];exact i3p),Tm.cl,Tm.nh,(yO l3 (by decide)),U9 (k:=3) i3p hlh l3 fun H4 f4 g4 l4 i4p i4l i4k=>hn4 _ _ ?_⟩
 refine Yc fun D5 hn5=>?_
 refine⟨by show 0<=sizeLine;lia,fun lq hlq=>?_⟩
 have plq:p≠lq:=Zp i4p hlq
 refine⟨_,rfl,p,CM,dx,f4,rfl,(by rw[Zf plq];exact i4p),Tm.cl,Tm.nq,(yO l4 (by decide)),U9 (k:=4) i4p hlq l4 fun H5 f5 g5 l5 i5p i5l i5k=>hn5 _ _ ?_⟩
 refine Yc fun D6 hn6=>?_
 refine⟨by show 0<=sizeLine;lia,fun lt hlt=>?_⟩
 have plt:p≠lt:=Zp i5p hlt
 refine⟨_,rfl,p,CM,dx,f5,rfl,(by rw[Zf plt];exact i5p),Tm.cl,Tm.nt,(yO l5 (by decide)),U9 (k:=5) i5p hlt l5 fun H6 f6 g6 l6 i6p i6l i6k=>hn6 _ _ ?_⟩
 refine Yc fun D7 hn7=>?_
 refine⟨by show 0<=sizeLine;lia,fun ly hly=>?_⟩
 have ply:p≠ly:=Zp i6p hly
 refine⟨_,rfl,p,CM,dx,f6,rfl,(by rw[Zf ply];exact i6p),Tm.cl,Tm.ny,(yO l6 (by decide)),U9 (k:=6) i6p hly l6 fun H7 f7 g7 l7 i7p i7l i7k=>hn7 _ _ ?_⟩
 refine Yc fun D8 hn8=>?_
 refine⟨by show 0<=sizeLine;lia,fun lv hlv=>?_⟩
 have plv:p≠lv:=Zp i7p hlv
 refine⟨_,rfl,p,CM,dx,f7,rfl,(by rw[Zf plv];exact i7p),Tm.cl,Tm.nv,(yO l7 (by decide)),U9 (k:=7) i7p hlv l7 fun H8 f8 g8 l8 i8p i8l i8k=>hn8 _ _ ?_⟩
 intro dp hdp
 have pdp:p≠dp:=Zp i8p hdp
 refine⟨_,rfl,p,CM,dx,f8,rfl,(by rw[Zf pdp];exact i8p),Tm.cl,Tm.np,(yO l8 (by decide)),U9 (k:=8) i8p hdp l8 fun H9 f9 g9 l9 i9p i9l i9k=>?_⟩
 have k1:=i1k
 have k2:∀b o,H b=some o->b≠p->H2 b=some o:=fun b o e n=>i2k b o (sm2 b o (k1 b o e n)) n
 have k3:∀b o,H b=some o->b≠p->H3 b=some o:=fun b o e n=>i3k b o (k2 b o e n) n
 have k4:∀b o,H b=some o->b≠p->H4 b=some o:=fun b o e n=>i4k b o (k3 b o e n) n
 have k5:∀b o,H b=some o->b≠p->H5 b=some o:=fun b o e n=>i5k b o (k4 b o e n) n
 have k6:∀b o,H b=some o->b≠p->H6 b=some o:=fun b o e n=>i6k b o (k5 b o e n) n
 have k7:∀b o,H b=some o->b≠p->H7 b=some o:=fun b o e n=>i7k b o (k6 b o e n) n
 have k8:∀b o,H b=some o->b≠p->H8 b=some o:=fun b o e n=>i8k b o (k7 b o e n) n
 have k9:∀b o,H b=some o->b≠p->H9 b=some o:=fun b o e n=>i9k b o (k8 b o e n) n
 have q2:=i2k
 have q3:∀b o,H2a b=some o->b≠p->H3 b=some o:=fun b o e n=>i3k b o (q2 b o e n) n
 have q4:∀b o,H2a b=some o->b≠p->H4 b=some o:=fun b o e n=>i4k b o (q3 b o e n) n
 have q5:∀b o,H2a b=some o->b≠p->H5 b=some o:=fun b o e n=>i5k b o (q4 b o e n) n
 have q6:∀b o,H2a b=some o->b≠p->H6 b=some o:=fun b o e n=>i6k b o (q5 b o e n) n
 have q7:∀b o,H2a b=some o->b≠p->H7 b=some o:=fun b o e n=>i7k b o (q6 b o e n) n
 have q8:∀b o,H2a b=some o->b≠p->H8 b=some o:=fun b o e n=>i8k b o (q7 b o e n) n
 have q9:∀b o,H2a b=some o->b≠p->H9 b=some o:=fun b o e n=>i9k b o (q8 b o e n) n
 have eld:H9 ld=some (.lst []):=(i9k _ _ (i8k _ _ (i7k _ _ (i6k _ _ (i5k _ _ (i4k _ _ (i3k _ _ (i2k _ _ (sm2 _ _ i1l) pld.symm) pld.symm) pld.symm) pld.symm) pld.symm) pld.symm) pld.symm) pld.symm)
 have zld:H ld=none:=hld
 have elb:H9 lb=some (.lst []):=(i9k _ _ (i8k _ _ (i7k _ _ (i6k _ _ (i5k _ _ (i4k _ _ i3l plb.symm) plb.symm) plb.symm) plb.symm) plb.symm) plb.symm)
 have zlb:H lb=none:=by
  cases eb:H lb with
  | none=>rfl
  | some o=>have:=k2 _ _ eb plb.symm;rw[hlb] at this;cases this
 have elh:H9 lh=some (.lst []):=(i9k _ _ (i8k _ _ (i7k _ _ (i6k _ _ (i5k _ _ i4l plh.symm) plh.symm) plh.symm) plh.symm) plh.symm)
 have zlh:H lh=none:=by
  cases eb:H lh with
  | none=>rfl
  | some o=>have:=k3 _ _ eb plh.symm;rw[hlh] at this;cases this
 have elq:H9 lq=some (.lst []):=(i9k _ _ (i8k _ _ (i7k _ _ (i6k _ _ i5l plq.symm) plq.symm) plq.symm) plq.symm)
 have zlq:H lq=none:=by
  cases eb:H lq with
  | none=>rfl
  | some o=>have:=k4 _ _ eb plq.symm;rw[hlq] at this;cases this
 have elt:H9 lt=some (.lst []):=(i9k _ _ (i8k _ _ (i7k _ _ i6l plt.symm) plt.symm) plt.symm)
 have zlt:H lt=none:=by
  cases eb:H lt with
  | none=>rfl
  | some o=>have:=k5 _ _ eb plt.symm;rw[hlt] at this;cases this
 have ely:H9 ly=some (.lst []):=(i9k _ _ (i8k _ _ i7l ply.symm) ply.symm)
 have zly:H ly=none:=by
  cases eb:H ly with
  | none=>rfl
  | some o=>have:=k6 _ _ eb ply.symm;rw[hly] at this;cases this
 have elv:H9 lv=some (.lst []):=(i9k _ _ i8l plv.symm)
 have zlv:H lv=none:=by
  cases eb:H lv with
  | none=>rfl
  | some o=>have:=k7 _ _ eb plv.symm;rw[hlv] at this;cases this
 have edp:H9 dp=some (.dK []):=i9l
 have zdp:H dp=none:=by
  cases eb:H dp with
  | none=>rfl
  | some o=>have:=k8 _ _ eb pdp.symm;rw[hdp] at this;cases this
 have nldlb:ld≠lb:=Zp (i2k _ _ (sm2 _ _ i1l) pld.symm) hlb
 have nldlh:ld≠lh:=Zp (i3k _ _ (i2k _ _ (sm2 _ _ i1l) pld.symm) pld.symm) hlh
 have nldlq:ld≠lq:=Zp (i4k _ _ (i3k _ _ (i2k _ _ (sm2 _ _ i1l) pld.symm) pld.symm) pld.symm) hlq
 have nldlt:ld≠lt:=Zp (i5k _ _ (i4k _ _ (i3k _ _ (i2k _ _ (sm2 _ _ i1l) pld.symm) pld.symm) pld.symm) pld.symm) hlt
 have nldly:ld≠ly:=Zp (i6k _ _ (i5k _ _ (i4k _ _ (i3k _ _ (i2k _ _ (sm2 _ _ i1l) pld.symm) pld.symm) pld.symm) pld.symm) pld.symm) hly
 have nldlv:ld≠lv:=Zp (i7k _ _ (i6k _ _ (i5k _ _ (i4k _ _ (i3k _ _ (i2k _ _ (sm2 _ _ i1l) pld.symm) pld.symm) pld.symm) pld.symm) pld.symm) pld.symm) hlv
 have nlblh:lb≠lh:=Zp i3l hlh
 have nlblq:lb≠lq:=Zp (i4k _ _ i3l plb.symm) hlq
 have nlblt:lb≠lt:=Zp (i5k _ _ (i4k _ _ i3l plb.symm) plb.symm) hlt
 have nlbly:lb≠ly:=Zp (i6k _ _ (i5k _ _ (i4k _ _ i3l plb.symm) plb.symm) plb.symm) hly
 have nlblv:lb≠lv:=Zp (i7k _ _ (i6k _ _ (i5k _ _ (i4k _ _ i3l plb.symm) plb.symm) plb.symm) plb.symm) hlv
 have nlhlq:lh≠lq:=Zp i4l hlq
 have nlhlt:lh≠lt:=Zp (i5k _ _ i4l plh.symm) hlt
 have nlhly:lh≠ly:=Zp (i6k _ _ (i5k _ _ i4l plh.symm) plh.symm) hly
 have nlhlv:lh≠lv:=Zp (i7k _ _ (i6k _ _ (i5k _ _ i4l plh.symm) plh.symm) plh.symm) hlv
 have nlqlt:lq≠lt:=Zp i5l hlt
 have nlqly:lq≠ly:=Zp (i6k _ _ i5l plq.symm) hly
 have nlqlv:lq≠lv:=Zp (i7k _ _ (i6k _ _ i5l plq.symm) plq.symm) hlv
 have nltly:lt≠ly:=Zp i6l hly
 have nltlv:lt≠lv:=Zp (i7k _ _ i6l plt.symm) hlv
 have nlylv:ly≠lv:=Zp i7l hlv
 have pl:¬own L [] (fun _=>0) p:=fun z=>by
  rcases z with z | z | z | z | z | ⟨n,l,e,z⟩
  ·exact px z
  ·have:=fr2 p (.inl z);rw[i1p] at this;cases this
  ·have:=fr2 p (.inr (.inl z));rw[i1p] at this;cases this
  ·have:=fr2 p (.inr (.inr (.inl z)));rw[i1p] at this;cases this
  ·have:=fr2 p (.inr (.inr (.inr z)));rw[i1p] at this;cases this
  ·cases e
 have K9:Fk C H9 L [] (fun _=>0):=K2.at fun b o hb e=>q9 b o e fun z=>pl (z▸hb)
 have h1n:∀b,H1 b=none->b≠p->H b=none:=fun b hb n=>by
  cases eb:H b with
  | none=>rfl
  | some o=>have:=k1 _ _ eb n;rw[hb] at this;cases this
 have i9p:H9 p=some (.ins CM dx _):=i9p.trans (congrArg (fun f=>some (HO.ins CM dx f)) (g9.symm.trans (congrArg (Zn _ _) (g8.symm.trans (congrArg (Zn _ _) (g7.symm.trans (congrArg (Zn _ _) (g6.symm.trans (congrArg (Zn _ _) (g5.symm.trans (congrArg (Zn _ _) (g4.symm.trans (congrArg (Zn _ _) (g3.symm.trans (congrArg (Zn _ _) (g2.symm.trans (congrArg (Zn _ _) g1.symm)))))))))))))))))
 have ndp:¬own L [] (fun _=>0) dp:=fun z=>by
  obtain⟨o,e,_⟩:=K2.there z
  have:=q8 _ _ e pdp.symm
  rw[hdp] at this;cases this
 refine k ⟨p,L,ld,lb,lh,lq,lt,ly,lv,dp⟩ H9 rfl ⟨⟨dx,i9p⟩,K9,fun q hq=>?_,elh,rfl,⟨[],edp,xK _,fun _=>rfl⟩,?_,(fun _ z=>nomatch z),(fun _ z=>nomatch z),px,ndp⟩ k9 (fun b hb=>?_)
 ·simp only[Mo.at_,mo0,xE,List.zip_nil_left,yP,or_false] at hq
  rcases hq with rfl | rfl | rfl | rfl | rfl | rfl
  ·exact⟨[],eld,rfl⟩
  ·exact⟨[],elb,rfl⟩
  ·exact⟨[],elq,rfl⟩
  ·exact⟨[],elt,rfl⟩
  ·exact⟨[],ely,rfl⟩
  ·exact⟨[],elv,rfl⟩
 ·simp only[ML.ls,xR,yF,xE,yP,or_false,not_or,not_false_eq_true,List.nodup_nil,and_true]
  exact⟨⟨Ne.symm nldlh,Ne.symm nlblh,nlhlq,nlhlt,nlhly,nlhlv⟩,⟨nldlb,nldlq,nldlt,nldly,nldlv⟩,⟨nlblq,nlblt,nlbly,nlblv⟩,⟨nlqlt,nlqly,nlqlv⟩,⟨nltly,nltlv⟩,nlylv⟩
 ·rcases hb with z | z | z | z | z
  ·exact .inl z
  ·rw[z];exact .inr zdp
  ·simp only[ML.ls,xR,xE,yP,or_false] at z
   rcases z with rfl | rfl | rfl | rfl | rfl | rfl | rfl<;>exact .inr (by assumption)
  ·cases z
  ·have ne:b≠p:=fun y=>pl (y▸z)
   refine .inr ?_
   rcases z with z | z | z | z | z | ⟨n,l,e,z⟩
   ·exact h1n b (by rw[z];exact nx) ne
   ·exact h1n b (fr2 b (.inl z)) ne
   ·exact h1n b (fr2 b (.inr (.inl z))) ne
   ·exact h1n b (fr2 b (.inr (.inr (.inl z)))) ne
   ·exact h1n b (fr2 b (.inr (.inr (.inr z)))) ne
   ·cases e
end
section
inductive AD where
 | s (d:SD) | c (d:CD) (day need:Int) (o1 o2:List Str) (f:Str->Int)
abbrev Za3:=List Deed×Mo
def Zaz(s:Za3):AD->Za3
 | .s d=>(sdF s.1 d,s.2.sd d)
 | .c d day need o1 o2 f=>(s.1,s.2.does day need f o1 o2 d)
def Zh(as:List AD):Za3:=as.foldl Zaz ([],mo0)
def sdD:SD->D
 | .come n day wt=>coD n day wt
 | .rise n day wt=>riD n day wt
 | .die n he day=>diD n he day
 | .pen n=>.tup [.str "penance", .str n]
 | .bring n day=>Zml n day
 | .give i x y day=>gvD i.toNat x y day
 | .pay x y many day=>pyD x y many day
def cdD(day need:Int)(o1 o2:List Str):CD->D
 | .wer x y many=>weD x y many day need o1 o2
 | .clm x i=>clD x i.toNat day need o1 o2
 | .acc i n=>acD i n day need o1 o2
def adD:AD->D
 | .s d=>sdD d
 | .c d day need o1 o2 _=>cdD day need o1 o2 d
theorem Zox(s:Za3)(a:AD):(Zaz s a).2.deeds=s.2.deeds ++ [adD a]:=by
 cases a with
 | s d=>cases d<;>rfl
 | c d day need o1 o2 f=>cases d<;>rfl
theorem Zin:∀(as:List AD)(s:Za3),(as.foldl Zaz s).2.deeds=s.2.deeds++as.map adD
 | [],s=>by simp
 | a::as,s=>by
  rw[List.foldl_cons,Zin as,xU,Zox,zH]
  rfl
theorem Zng(as:List AD):(Zh as).2.deeds=as.map adD:=by unfold Zh;rw[Zin];rfl
theorem Zeb(as:List AD)(a:AD):Zh (as ++ [a])=Zaz (Zh as) a:=by unfold Zh;rw[List.foldl_append];rfl
theorem Zib(as:List AD):(Zh as).2.deeds.length=as.length:=by rw[Zng,xA]
end
section
variable{P:Program}{w:World}{K:uFg}{mg:Str->Option Value}{base:Heap}{C CM:Addr}{c:Str->Addr}
def scD:D->Bool
 | .str _=>true
 | .int _=>true
 | .non=>true
 | .bl _=>true
 | _=>false
theorem Zul{H H':Hp}{d:D}{u v:V}(h:scD d=true)(a:Rep H d u)(b:Rep H' d v):v=u:=by
 cases d<;>first | (cases h;done) | (cases a;cases b;rfl)
theorem Zje{H H':Hp}:∀{ds:List D}{us vs:List V},(∀d∈ds,scD d=true)->RepL H ds us->RepL H' ds vs->vs=us
 | [],_,_,_,a,b=>by cases a;cases b;rfl
 | d::ds,_,_,h,⟨_,_,rfl,a,a'⟩,⟨_,_,rfl,b,b'⟩=>by rw[Zul (h d yC) a b,Zje (fun x hx=>h x (xX _ hx)) a' b']
def sdP:SD->List D
 | .come n day wt=>[.str "come", .str n,.int day,.int wt]
 | .rise n day wt=>[.str "rise", .str n,.int day,.int wt]
 | .die n he day=>[.str "die", .str n,.int day,.str he]
 | .pen n=>[.str "penance", .str n]
 | .bring n day=>[.str "bring", .str n,.int day]
 | .give i x y day=>[.str "give", .int i,.str x,.str y,.int day]
 | .pay x y many day=>[.str "pay", .str x,.str y,.int many,.int day]
theorem Zum(d:SD):∀x∈sdP d,scD x=true:=by cases d<;>simp[sdP,scD]
theorem Zjf(H:Hp)(d:SD):RepL H (sdP d) (sdV d):=by cases d<;>simp[sdP,sdV,RepL,Rep]
def cdP(day need:Int)(o1 o2:List Str):CD->List D
 | .wer x y many=>[.str "wergild", .str x,.str y,.int many,.int day,.int need,.lst (o1.map D.str),.lst (o2.map D.str)]
 | .clm x i=>[.str "claim", .str x,.int i,.int day,.int need,.lst (o1.map D.str),.lst (o2.map D.str)]
 | .acc i n=>[.str "accuse", .int i,.str n,.int day,.int need,.lst (o1.map D.str),.lst (o2.map D.str)]
theorem Zio{H:Hp}:∀{o:List Str}{vs:List V},RepL H (o.map D.str) vs->vs=o.map V.str
 | [],_,h=>h
 | _::_,_,⟨_,_,e,rfl,h⟩=>by rw[e,Zio h];rfl
theorem Zsq{H:Hp}{day need:Int}{o1 o2:List Str}{d:CD}{vs:List V}(h:RepL H (cdP day need o1 o2 d) vs):∃l1 l2,vs=cdV day need l1 l2 d/\H l1=some (.lst (o1.map V.str))/\H l2=some (.lst (o2.map V.str)):=by
 have inv:∀{o:List Str}{v:V},Rep H (.lst (o.map D.str)) v->∃l,v = .ref l/\H l=some (.lst (o.map V.str)):=fun h=>by
  obtain⟨l,us,rfl,hl,hu⟩:=h
  exact⟨l,rfl,by rw[hl,Zio hu]⟩
 cases d with
 | wer x y m =>
  obtain⟨_,_,rfl,rfl,⟨_,_,rfl,rfl,⟨_,_,rfl,rfl,⟨_,_,rfl,rfl,⟨_,_,rfl,rfl,⟨_,_,rfl,rfl,⟨_,_,rfl,r1,⟨_,_,rfl,r2,rfl⟩⟩⟩⟩⟩⟩⟩⟩:=h
  obtain⟨l1,rfl,h1⟩:=inv r1
  obtain⟨l2,rfl,h2⟩:=inv r2
  exact⟨l1,l2,rfl,h1,h2⟩
 | clm x i =>
  obtain⟨_,_,rfl,rfl,⟨_,_,rfl,rfl,⟨_,_,rfl,rfl,⟨_,_,rfl,rfl,⟨_,_,rfl,rfl,⟨_,_,rfl,r1,⟨_,_,rfl,r2,rfl⟩⟩⟩⟩⟩⟩⟩:=h
  obtain⟨l1,rfl,h1⟩:=inv r1
  obtain⟨l2,rfl,h2⟩:=inv r2
  exact⟨l1,l2,rfl,h1,h2⟩
 | acc i n =>
  obtain⟨_,_,rfl,rfl,⟨_,_,rfl,rfl,⟨_,_,rfl,rfl,⟨_,_,rfl,rfl,⟨_,_,rfl,rfl,⟨_,_,rfl,r1,⟨_,_,rfl,r2,rfl⟩⟩⟩⟩⟩⟩⟩:=h
  obtain⟨l1,rfl,h1⟩:=inv r1
  obtain⟨l2,rfl,h2⟩:=inv r2
  exact⟨l1,l2,rfl,h1,h2⟩
end
section
variable{P:Program}{w:World}{K:uFg}{mg:Str->Option Value}{base:Heap}{C CM:Addr}{c:Str->Addr}
variable{s la:Addr}{H H':Hp}{fx fx':List Addr}
def adP:AD->List D
 | .s d=>sdP d
 | .c d day need o1 o2 _=>cdP day need o1 o2 d
def adT(a:AD):D:=.tup (adP a)
theorem Zdr{fx:List Addr}{H:Hp}{d:SD}{v:V}(h:Rep (fz fx H) (adT (.s d)) v):∃q,v = .ref q/\H q=some (.tup (sdV d)):=by
 obtain⟨a,us,rfl,ha,hu⟩:=h
 exact⟨a,rfl,by rw[(Zdp ha).1,Zje (Zum d) (Zjf H d) hu]⟩
theorem Zw8{fx:List Addr}{H:Hp}{d:CD}{day need:Int}{o1 o2:List Str}{f:Str->Int}{v:V}(h:Rep (fz fx H) (adT (.c d day need o1 o2 f)) v):∃q l1 l2,v = .ref q/\H q=some (.tup (cdV day need l1 l2 d))/\fz fx H l1=some (.lst (o1.map V.str))/\fz fx H l2=some (.lst (o2.map V.str)):=by
 obtain⟨a,us,rfl,ha,hu⟩:=h
 obtain⟨l1,l2,rfl,h1,h2⟩:=Zsq hu
 exact⟨a,l1,l2,rfl,(Zdp ha).1,h1,h2⟩
theorem LAt.snoc{l:Addr}{c:List D}{vs:List V}{v:V}{d:D}(h:LAt H fx l c)(e:H l=some (.lst vs))(f:Same (fz fx H) (fz fx (upd H l (.lst (vs ++ [v])))))(hd:Rep (fz fx H) d v):LAt (upd H l (.lst (vs ++ [v]))) fx l (c ++ [d]):=by
 obtain⟨us,a,r⟩:=h
 rw[e] at a
 cases a
 exact⟨_,Zg,RepL.snoc (Rep.mono f _ _ hd) (r.mono' f)⟩
inductive spOne (vs:List V) (H:Hp) (Q:VK) (z3:XK):Prop
 | mk (s la nl:Addr) (ns:List Str) (h0:vs = [.ref s,.ref nl]) (h1:SrcAt H s la) (h2:H nl=some (.lst (ns.map V.str))) (h3:nl≠s) (h4 : 0 < ns.length) (h5:ns.length<=1000) (h6:∀(n:Str)(H':Hp),n∈ns->SrcAt H' s la->SameX s H H'->Q (.str n) H')
abbrev Zlc:Stmt:=top 67
theorem Zw9(Zgc:Has K mg "_law_one" Zlc)(T:Txt mg)(Yp:Fn P w K mg base "_law_next" ["_law_src_here", "_law_base"] 1 spNext):Fn P w K mg base "_law_one" ["_law_src_here", "_law_names_here"] 2 spOne:=by
 refine Zgc.fq ["_law_src_here", "_law_names_here"] fun H vs Q E hr h=>?_
 obtain⟨s,la,nl,ns,rfl,hs,hn,hne,h0,h1,k⟩:=h
 refine⟨rfl,_,(Ze (Zx (Zj Yh (qvN 1) (Zw Yp (Za (qvN 0) (Za (Z7 Wm T.len Yv (Za (qvN 1) Zb)) Zb))) (fun _ _=>rfl)))),?_⟩
 refine⟨_,rfl,_,rfl,_,rfl,nl,_,rfl,.inl (SqL.of hn),s,la,_,rfl,hs,by rw[xA];lia,by rw[xA];lia,fun d H1 d0 d1 hs1 sx1=>?_⟩
 obtain⟨j,rfl⟩:=yJ d0
 rw[xA] at d1
 have hj:j < ns.length:=by lia
 exact⟨nl,_,_,.str ns[j],rfl,rfl,SqL.of (sx1 _ _ hne hn),Wj (by rw[xG,xD hj];rfl),k _ H1 (List.getElem_mem hj) hs1 sx1⟩
def Ye:AD->Str
 | .s (.come ..)=> "come"
 | .s (.rise ..)=> "rise"
 | .s (.die ..)=> "die"
 | .s (.pen ..)=> "penance"
 | .s (.bring ..)=> "bring"
 | .s (.give ..)=> "give"
 | .s (.pay ..)=> "pay"
 | .c (.wer ..) .. => "wergild"
 | .c (.clm ..) .. => "claim"
 | .c (.acc ..) .. => "accuse"
theorem Zds{x:AD}{v:V}(h:Rep (fz fx H) (adT x) v):∃q us,v = .ref q/\H q=some (.tup us)/\us[0]? = some (.str (Ye x)):=by
 cases x with
 | s d =>
  obtain⟨q,rfl,hq⟩:=Zdr h
  exact⟨q,_,rfl,hq,by cases d<;>rfl⟩
 | c d day need o1 o2 f =>
  obtain⟨q,l1,l2,rfl,hq,_⟩:=Zw8 h
  exact⟨q,_,rfl,hq,by cases d<;>rfl⟩
def fdS(ds:List Deed):AD->List Deed
 | .s d=>sdF ds d
 | .c ..=>ds
theorem Zic(as:List AD)(x:AD):(Zh (as ++ [x])).1=fdS (Zh as).1 x:=by
 rw[Zeb]
 cases x<;>rfl
end
section
variable{P:Program}{w:World}{K:uFg}{mg:Str->Option Value}{base:Heap}{C CM:Addr}{c:Str->Addr}
theorem Zsr(s:Za3)(x:AD):∃r,(Zaz s x).1=s.1++r:=by
 cases x with
 | s d=>cases d<;>first | exact⟨_,rfl⟩ | exact⟨[],(xR _).symm⟩
 | c d day need o1 o2 f=>exact⟨[],(xR _).symm⟩
theorem Zip:∀(bs:List AD)(s:Za3),∃r,(bs.foldl Zaz s).1=s.1++r
 | [],s=>⟨[],(xR _).symm⟩
 | x::bs,s=>by
  obtain⟨r1,e1⟩:=Zsr s x
  obtain⟨r2,e2⟩:=Zip bs (Zaz s x)
  exact⟨r1++r2,by rw[List.foldl_cons,e2,e1,zH]⟩
theorem Zjg(as:List AD)(i:Nat):∃r,(Zh as).1=(Zh (as.take i)).1++r:=by
 obtain⟨r,e⟩:=Zip (as.drop i) (Zh (as.take i))
 refine⟨r,?_⟩
 rw[← e]
 unfold Zh
 rw[← List.foldl_append,List.take_append_drop]
theorem Zqe{as:List AD}{i:Nat}{n:Str}{d:Int}(h:Zk (Zh (as.take i)).1 n=some d):Zk (Zh as).1 n=some d:=by
 obtain⟨r,e⟩:=Zjg as i
 rw[e,Za6,h];rfl
theorem Zqf{as:List AD}{i:Nat}{n:Str}{d:Int×Str}(h:Zy (Zh (as.take i)).1 n=some d):Zy (Zh as).1 n=some d:=by
 obtain⟨r,e⟩:=Zjg as i
 rw[e,Zb5,h];rfl
theorem Zoy{x:AD}(h:Ye x = "come"):∃n d wt,x = .s (.come n d wt):=by
 cases x with
 | s d=>cases d<;>first | exact⟨_,_,_,rfl⟩ | exact absurd h (by dsimp only [Ye];decide +kernel)
 | c d day need o1 o2 f=>cases d<;>exact absurd h (by dsimp only [Ye];decide +kernel)
theorem Zqg{x:AD}(h:Ye x = "die"):∃n he d,x = .s (.die n he d):=by
 cases x with
 | s d=>cases d<;>first | exact⟨_,_,_,rfl⟩ | exact absurd h (by dsimp only [Ye];decide +kernel)
 | c d day need o1 o2 f=>cases d<;>exact absurd h (by dsimp only [Ye];decide +kernel)
theorem Zss{ds:List Deed}{x:AD}{n:Str}(h:Zk ds n=none):Zk (fdS ds x) n=match x with
  | .s (.come m d _)=>if m=n then some d else none
  | _=>none:=by
 cases x with
 | s d =>
  cases d with
  | come m d wt=>show Zk (ds ++ [_]) n=_;rw[Za6,h];rfl
  | rise m d wt=>exact(Zhs n).trans h
  | die m he d=>exact(Zh8 n).trans h
  | _=>exact h
 | c d day need o1 o2 f=>exact h
theorem Zst{ds:List Deed}{x:AD}{n:Str}(h:Zy ds n=none):Zy (fdS ds x) n=match x with
  | .s (.die m he d)=>if m=n then some (d,he) else none
  | _=>none:=by
 cases x with
 | s d =>
  cases d with
  | come m d wt=>exact(Zd9 n).trans h
  | rise m d wt=>exact(Zea n).trans h
  | die m he d=>show Zy (ds ++ [_]) n=_;rw[Zb5,h];rfl
  | _=>exact h
 | c d day need o1 o2 f=>exact h
def Zyw:Option Int->V
 | none=>.non
 | some d=>.int d
inductive spCame (vs:List V) (H:Hp) (Q:VK) (z3:XK):Prop
 | mk (q:Addr) (fx:List Addr) (as:List AD) (n:Str) (h0:vs = [.ref q,.str n]) (h1:LAt H fx q (as.map adT)) (h2:Q (Zyw (Zk (Zh as).1 n)) H)
abbrev Zld:Stmt:=top 64
theorem Zxa(Zgd:Has K mg "_law_came" Zld)(T:Txt mg):Fn P w K mg base "_law_came" ["_law_deeds", "_law_name"] 1 spCame:=by
 refine Zgd.fq ["_law_deeds", "_law_name", "_law_deed"] fun H vs Q E hr h=>?_
 obtain⟨q,fx,as,n,rfl,⟨vs,hq,hrep⟩,k⟩:=h
 refine⟨rfl,_,(Zd (V3 PassesOwn.never rfl (Wt (qvN 0)) (Vq 2)
 (Ze (Zo (QW.pt (Vl (Zl Z4 (Zj Zu (qvN 2) Zc (fun _ _=>rfl)) Zi (Zm _)) (V4 (Zl Z4 (Zj Zu (qvN 2) Zc (fun _ _=>rfl)) (qvN 1) (Zm _))))) (Ze (Zx (Zj Zu (qvN 2) Zc (fun _ _=>rfl)))) Zq)))
 (Ze (Zx Y1))),?_⟩
 have hvl:=hrep.length
 rw[xA] at hvl
 refine⟨_,rfl,q,rfl,⟨_,SqL.of hq⟩,?_⟩
 refine Ux vs (fun i σ H'=>∃v2:Option V,σ = [some (.ref q),some (.str n),v2]/\H'=H/\Zk (Zh (as.take i)).1 n=none) ⟨none,rfl,rfl,rfl⟩ (fun i σ H' _ ⟨_,_,e,_⟩=>by rw[e];exact SqL.of hq) ?_ ?_
 ·rintro i v σ H' hv ⟨v2,rfl,rfl,hno⟩
  obtain⟨x0,hx0,re⟩:=hrep.get hv
  rw[xG] at hx0
  obtain⟨x,hx,rfl⟩:=xN.mp hx0
  have et:as.take (i+1)=as.take i ++ [x]:=by rw[yI,hx];rfl
  have cr:=Zss (x:=x) hno
  rw[← Zic,← et] at cr
  obtain⟨a,us,rfl,ha,hw⟩:=Zds re
  refine⟨_,rfl,a,_,0,.str (Ye x),rfl,rfl,SqT.of ha,Wj hw,rfl,_,rfl,Zr (fun z=>?_) (fun z=>Z8 ?_)⟩
  ·obtain⟨m,dd,wt,rfl⟩:=Zoy (by injection z)
   obtain⟨a',e',ha'⟩:=Zdr re
   cases e'
   rw[ha'] at ha
   cases ha
   refine⟨_,rfl,a,_,1,.str m,rfl,rfl,SqT.of ha',rfl,_,rfl,rfl,_,rfl,Zr (fun z2=>?_) (fun z2=>?_)⟩
   ·have em:m=n:=by injection z2
    have cr:=cr.trans (if_pos em)
    rw[Zqe cr] at k
    exact⟨_,rfl,a,_,2,.int dd,rfl,rfl,SqT.of ha',rfl,k⟩
   ·refine⟨_,rfl,rfl,cr.trans (if_neg fun y=>z2 (by rw[y]))⟩
  ·refine⟨_,rfl,rfl,cr.trans ?_⟩
   split
   ·exact absurd rfl z
   ·rfl
 ·rintro σ H' ⟨v2,rfl,rfl,hno⟩
  rw[hvl,yR] at hno
  rw[hno] at k
  exact k
def Zyx(H:Hp):Option (Int×Str)->V->Prop
 | none,v=>v = .non
 | some (d,he),v=>∃a,v = .ref a/\H a=some (.tup [.int d,.str he])
inductive spDeath (vs:List V) (H:Hp) (Q:VK) (z3:XK):Prop
 | mk (q:Addr) (fx:List Addr) (as:List AD) (n:Str) (h0:vs = [.ref q,.str n]) (h1:LAt H fx q (as.map adT)) (h2:∀v H',Same H H'->Zyx H' (Zy (Zh as).1 n) v->Q v H')
abbrev Zle:Stmt:=top 65
theorem Zxb(Zge:Has K mg "_law_death" Zle)(T:Txt mg):Fn P w K mg base "_law_death" ["_law_deeds", "_law_name"] 1 spDeath:=by
 refine Zge.fq ["_law_deeds", "_law_name", "_law_deed"] fun H vs Q E hr h=>?_
 obtain⟨q,fx,as,n,rfl,⟨vs,hq,hrep⟩,k⟩:=h
 refine⟨rfl,_,(Zd (V3 PassesOwn.never rfl (Wt (qvN 0)) (Vq 2)
 (Ze (Zo (QW.pt (Vl (Zl Z4 (Zj Zu (qvN 2) Zc (fun _ _=>rfl)) Zi (Zm _)) (V4 (Zl Z4 (Zj Zu (qvN 2) Zc (fun _ _=>rfl)) (qvN 1) (Zm _))))) (Ze (Zx (Yw (Za (Zj Zu (qvN 2) Zc (fun _ _=>rfl)) (Za (Zj Zu (qvN 2) Zc (fun _ _=>rfl)) Zb))))) Zq)))
 (Ze (Zx Y1))),?_⟩
 have hz:(5000:Nat)<=sizeLine:=by decide
 have hvl:=hrep.length
 rw[xA] at hvl
 refine⟨_,rfl,q,rfl,⟨_,SqL.of hq⟩,?_⟩
 refine Ux vs (fun i σ H'=>∃v2:Option V,σ = [some (.ref q),some (.str n),v2]/\H'=H/\Zy (Zh (as.take i)).1 n=none) ⟨none,rfl,rfl,rfl⟩ (fun i σ H' _ ⟨_,_,e,_⟩=>by rw[e];exact SqL.of hq) ?_ ?_
 ·rintro i v σ H' hv ⟨v2,rfl,rfl,hno⟩
  obtain⟨x0,hx0,re⟩:=hrep.get hv
  rw[xG] at hx0
  obtain⟨x,hx,rfl⟩:=xN.mp hx0
  have et:as.take (i+1)=as.take i ++ [x]:=by rw[yI,hx];rfl
  have cr:=Zst (x:=x) hno
  rw[← Zic,← et] at cr
  obtain⟨a,us,rfl,ha,hw⟩:=Zds re
  refine⟨_,rfl,a,_,0,.str (Ye x),rfl,rfl,SqT.of ha,Wj hw,rfl,_,rfl,Zr (fun z=>?_) (fun z=>Z8 ?_)⟩
  ·obtain⟨m,he,dd,rfl⟩:=Zqg (by injection z)
   obtain⟨a',e',ha'⟩:=Zdr re
   cases e'
   rw[ha'] at ha
   cases ha
   refine⟨_,rfl,a,_,1,.str m,rfl,rfl,SqT.of ha',rfl,_,rfl,rfl,_,rfl,Zr (fun z2=>?_) (fun z2=>?_)⟩
   ·have em:m=n:=by injection z2
    have cr:=cr.trans (if_pos em)
    have:=Zqf cr
    rw[this] at k
    refine⟨_,rfl,a,_,2,.int dd,rfl,rfl,SqT.of ha',rfl,_,rfl,a,_,3,.str he,rfl,rfl,SqT.of ha',rfl,by show 2<=sizeLine;lia,fun p hp=>k _ _ (Same.new hp) ⟨p,rfl,Zg⟩⟩
   ·refine⟨_,rfl,rfl,cr.trans (if_neg fun y=>z2 (by rw[y]))⟩
  ·refine⟨_,rfl,rfl,cr.trans ?_⟩
   split
   ·exact absurd rfl z
   ·rfl
 ·rintro σ H' ⟨v2,rfl,rfl,hno⟩
  rw[hvl,yR] at hno
  rw[hno] at k
  exact k _ _ (Same.refl _) rfl
inductive spIsDead (vs:List V) (H:Hp) (Q:VK) (z3:XK):Prop
 | mk (q:Addr) (fx:List Addr) (as:List AD) (n:Str) (day:Int) (h0:vs = [.ref q,.str n,.int day]) (h1:LAt H fx q (as.map adT)) (h2:∀H',Same H H'->Q (.bl (Va (Zh as).1 n day)) H')
abbrev Zlf:Stmt:=top 66
theorem Zxc(Zgf:Has K mg "_law_is_dead" Zlf)(T:Txt mg)(Zcp:Fn P w K mg base "_law_death" ["_law_deeds", "_law_name"] 1 spDeath):Fn P w K mg base "_law_is_dead" ["_law_deeds", "_law_name", "_law_day"] 2 spIsDead:=by
 refine Zgf.fq ["_law_deeds", "_law_name", "_law_day", "_law_death_here"] fun H vs Q E hr h=>?_
 obtain⟨q,fx,as,n,day,rfl,hl,k⟩:=h
 refine⟨rfl,_,(Zd (Z1 3 (Zw Zcp (Za (qvN 0) (Za (qvN 1) Zb))))
 (Ze (Zx (Zbf (Vi Ud (qvN 3) Y1 (Zm _)) (Zak (Vi Yx (Zj Zu (qvN 3) Zc (fun _ _=>rfl)) (qvN 2) (Zm _))))))),?_⟩
 refine⟨_,rfl,_,rfl,q,fx,as,n,rfl,hl,fun v H1 S1 hv=>?_⟩
 refine V0 ?_
 have k:=k H1 S1
 unfold Va at k
 cases e:Zy (Zh as).1 n with
 | none =>
  rw[e] at hv k
  have hv:v = .non:=hv
  subst hv
  exact⟨_,rfl,rfl,_,rfl,Z8 k⟩
 | some x =>
  obtain⟨d,he⟩:=x
  rw[e] at hv k
  obtain⟨a,rfl,ha⟩:=hv
  refine⟨_,rfl,rfl,_,rfl,Yl ?_⟩
  exact⟨_,rfl,a,_,0,.int d,rfl,rfl,SqT.of ha,rfl,_,rfl,_,_,rfl,rfl,k⟩
end
section
variable{P:Program}{w:World}{K:uFg}{mg:Str->Option Value}{base:Heap}{C CM:Addr}{c:Str->Addr}
inductive spLIsN (vs:List V) (H:Hp) (Q:VK) (z3:XK):Prop
 | mk (x:Str) (h0:vs = [.str x]) (h1:x.length<=1000) (h2:Q (.bl (Y2 x)) H)
abbrev Zlg:Stmt:=top 68
theorem Zxd(Zgg:Has K mg "_law_is_name" Zlg)(T:Txt mg):Fn P w K mg base "_law_is_name" ["_law_text"] 1 spLIsN:=by
 refine Zgg.fq ["_law_text", "_law_sign"] fun H vs Q E hr h=>?_
 obtain⟨x,rfl,hx,k⟩:=h
 refine⟨rfl,_,(Zd (V3 PassesOwn.never rfl (Zjt (qvN 0)) (Vq 1)
 (Ze (Zo (Vk (QW.pt (Vl (Zl Zc0 Zi (qvN 1) (Zm _)) (V4 (Zl Zc0 (qvN 1) Zi (Zm _)))))) (Ze (Zx Zaj)) Zq)))
 (Ze (Zx (Zbf (Vi Yx Zc (Z7 Zb2 T.len Yv (Za (qvN 0) Zb)) (Zm _)) (Zak (Vi Yx (Z7 Zb2 T.len Yv (Za (qvN 0) Zb)) Zc (Zm _))))))),?_⟩
 have hz:(1000:Nat)<=sizeLine:=by decide
 refine⟨_,rfl,x,rfl,?_⟩
 refine Zpz (fun i σ H'=>H'=H/\∃v1,σ = [some (.str x),v1]/\((cs x).take i).all okc=true) ⟨rfl,none,rfl,by simp⟩ ?_ ?_
 ·rintro i σ H' hi ⟨rfl,v1,rfl,hall⟩
  have bad:okc (x.cps.getD i 0)=false->Q (.bl false) H':=fun h=>by
   have:Y2 x=false:=by
    unfold Y2
    have:(cs x).all okc=false:=by
     rw[List.all_eq_false]
     exact⟨_,xF (Zde hi),by rw[h];decide⟩
    rw[this,Bool.and_false]
   rw[← this];exact k
  have step:((cs x).take (i+1)).all okc=(((cs x).take i).all okc && okc (x.cps.getD i 0)):=by
   rw[yI,Zde hi,List.all_append]
   simp
  refine⟨_,rfl,_,_,rfl,rfl,_,rfl,?_⟩
  dsimp only
  rw[leA]
  refine Zr (fun h3=>?_) (fun h3=>?_)
  ·refine⟨_,rfl,_,_,rfl,rfl,_,rfl,?_⟩
   dsimp only
   rw[leZ]
   refine Wb (fun h4=>bad (by unfold okc;rw[xT h4,Bool.and_false])) (fun h4=>?_)
   refine⟨rfl,_,rfl,?_⟩
   rw[step,hall]
   unfold okc;rw[xW h3,xW h4];rfl
  ·exact Yl (bad (by unfold okc;rw[xT h3,yT]))
 ·rintro σ H' ⟨rfl,v1,rfl,hall⟩
  have e:Y2 x=(decide (1<=x.length) && decide (x.length<=12)):=by
   rw[← Wc,yR] at hall
   unfold Y2;rw[hall,Bool.and_true]
  rw[e] at k
  refine⟨_,rfl,x,rfl,by lia,_,_,rfl,rfl,_,rfl,Zr (fun h1=>?_) (fun h1=>?_)⟩
  ·refine⟨_,rfl,x,rfl,by lia,_,_,rfl,rfl,?_⟩
   rw[xW (show 1<=x.length by lia),Bool.true_and] at k
   have e2:decide ((x.length:Int)<=12)=decide (x.length<=12):=decide_eq_decide.mpr (by lia)
   dsimp only
   rw[e2];exact k
  ·rw[xT (show ¬ 1<=x.length by lia),yT] at k
   exact k
def Yn:AD->Bool
 | .s (.bring ..)=>true
 | _=>false
theorem Zjh(x:AD):(Ye x = "bring")↔Yn x=true:=by
 cases x with
 | s d=>cases d<;>simp[Ye,Yn]<;>decide +kernel
 | c d day need o1 o2 f=>cases d<;>simp[Ye,Yn]<;>decide +kernel
theorem Wp{t u:TS}{D:Ends}{σ:St}{H:Hp}(h:∀D':Ends,(∀ σ' H',u D σ' H'->D'.nx σ' H')->(∀v H',D.rt v H'->D'.rt v H')->t D' σ H):Ve t u D σ H:=h {D with nx:=u D } (fun _ _ h=>h) fun _ _ h=>h
theorem Vt(d:SD):atI (sdV d) 0=some (.str (Ye (.s d))):=by cases d<;>rfl
theorem Zc9{d:SD}(h:V.str (Ye (.s d))= .str "come"):∃n day wt,d = .come n day wt:=by cases d<;>first | exact⟨_,_,_,rfl⟩ | exact absurd h (by dsimp only [Ye];decide +kernel)
theorem Zun{d:SD}(h:V.str (Ye (.s d))= .str "die"):∃n he day,d = .die n he day:=by cases d<;>first | exact⟨_,_,_,rfl⟩ | exact absurd h (by dsimp only [Ye];decide +kernel)
theorem Zj3{d:SD}(h:V.str (Ye (.s d))= .str "penance"):∃n,d = .pen n:=by cases d<;>first | exact⟨_,rfl⟩ | exact absurd h (by dsimp only [Ye];decide +kernel)
theorem Zji{d:SD}(h:V.str (Ye (.s d))= .str "give"):∃i x y day,d = .give i x y day:=by cases d<;>first | exact⟨_,_,_,_,rfl⟩ | exact absurd h (by dsimp only [Ye];decide +kernel)
theorem Ziq{d:SD}(h:V.str (Ye (.s d))= .str "bring"):∃n day,d = .bring n day:=by cases d<;>first | exact⟨_,_,rfl⟩ | exact absurd h (by dsimp only [Ye];decide +kernel)
def plc:SD->List Int
 | .come ..=>[]
 | .rise ..=>[1]
 | .pen ..=>[1]
 | .bring ..=>[1]
 | .die ..=>[1,3]
 | .give ..=>[2,3]
 | .pay ..=>[1,2]
def Yd:SD->List Str
 | .come ..=>[]
 | .rise n _ _=>[n]
 | .pen n=>[n]
 | .bring n _=>[n]
 | .die n he _=>[n,he]
 | .give _ x y _=>[x,y]
 | .pay x y _ _=>[x,y]
theorem Zjj(d:SD):(plc d).length=(Yd d).length/\(Yd d).length<=2:=by cases d<;>exact⟨rfl,by simp[Yd]⟩
theorem Zuo{d:SD}{j:Nat}{p:Int}(h:(plc d)[j]? = some p):∃n,(Yd d)[j]? = some n/\atI (sdV d) p=some (.str n):=by
 cases d with
 | come n day wt=>cases h
 | _=>(rcases j with _ | _ | j)<;>first | (cases h;exact⟨_,rfl,rfl⟩) | cases h
def Yo:SD->Int
 | .come _ day _=>day
 | .rise _ day _=>day
 | .die _ _ day=>day
 | .pen _=>0
 | .bring _ day=>day
 | .give _ _ _ day=>day
 | .pay _ _ _ day=>day
def inM(lo hi x:Int):Bool:=decide (lo<=x) && decide (x<=hi)
def Zxe:SD->Bool
 | .come _ _ wt=>inM 1 1000 wt
 | .rise _ _ wt=>inM 1 1000 wt
 | .pay _ _ many _=>inM 1 1000000 many
 | _=>true
def Zbq(d:SD):Bool:=inM 0 9999 (Yo d) && Zxe d
inductive spBrs (vs:List V) (H:Hp) (Q:VK) (z3:XK):Prop
 | mk (q:Addr) (fx:List Addr) (as:List AD) (h0:vs = [.ref q]) (h1:LAt H fx q (as.map adT)) (h2:as.length<=1000) (h3:∀(l:Addr)(H':Hp),Same H H'->LAt H' fx l ((as.filter Yn).map adT)->Q (.ref l) H')
abbrev Zlh:Stmt:=top 69
theorem Zxf(Zgh:Has K mg "_law_bringings" Zlh)(T:Txt mg):Fn P w K mg base "_law_bringings" ["_law_deeds"] 1 spBrs:=by
 refine Zgh.fq ["_law_deeds"] fun H vs Q E hr h=>?_
 obtain⟨q,fx,as,rfl,⟨vs,hq,hrep⟩,hal,k⟩:=h
 refine⟨rfl,_,(Ze (Zx (Uy (locs:=["_law_deed"]) (fr:=[]) ⟨rfl,by decide +kernel,by decide +kernel,by decide +kernel,by decide +kernel,by decide +kernel⟩ .nil rfl (Wt (qvN 0)) ⟨fun _ _ _ _ _ _=>by
  have cnd:(inN ["_law_deed"] []).Nodup:=by decide +kernel
  exact⟨(Ua 0 cnd),(Zja (Zl Z4 (Zj Zeg (V9 0) Zc (fun _ _=>rfl)) Zi (Zm _))),(V9 0)⟩⟩))),?_⟩
 have hz:(5000:Nat)<=sizeLine:=by decide
 have hvl:=hrep.length
 rw[xA] at hvl
 refine⟨_,rfl,q,rfl,⟨_,SqL.of hq⟩,?_⟩
 refine Zah (xs:=vs) (fun i ys H'=>H'=H/\RepL (fz fx H) (((as.take i).filter Yn).map adT) ys) ⟨rfl,rfl⟩ (by lia) (fun i ys H' _ ⟨e,_⟩=>by rw[e];exact SqL.of hq) (fun i ys H' ⟨_,e⟩=>by rw[e.length,xA];exact yK (List.length_filter_le _ _) (by rw[xZ];lia)) ?_ ?_
 ·rintro i v ys H' hv ⟨rfl,e⟩ ls hls
  obtain⟨u,rfl⟩:=Zaa hls
  obtain⟨x0,hx0,re⟩:=hrep.get hv
  rw[xG] at hx0
  obtain⟨x,hx,rfl⟩:=xN.mp hx0
  obtain⟨a,us,rfl,ha,hw⟩:=Zds re
  have et:as.take (i+1)=as.take i ++ [x]:=by rw[yI,hx];rfl
  rw[et,zA]
  refine⟨⟨[_],rfl,rfl⟩,_,rfl,a,_,0,.str (Ye x),rfl,rfl,SqT.of ha,Wj hw,rfl,_,rfl,Zr (fun z=>⟨_,rfl,rfl,?_⟩) (fun z=>⟨rfl,?_⟩)⟩
  ·rw[List.filter_cons_of_pos ((Zjh x).mp (by injection z)),yE]
   exact RepL.snoc re e
  ·rw[zS (fun y=>z (by rw[(Zjh x).mpr y])),yE]
   show RepL _ (_ ++ []) ys
   rw[xR];exact e
 ·rintro ys H' ⟨rfl,e⟩ l hl
  rw[hvl,yR] at e
  have S:=Same.new (o:=.lst ys) hl
  exact k l _ S ⟨ys,Zg,e.mono' (V7 (fun _ _ e=>S _ _ e) (fun _ _ _ e=>S _ _ e) fun _ z=>z)⟩
inductive spDayOf (vs:List V) (H:Hp) (Q:VK) (z3:XK):Prop
 | mk (a:Addr) (d:SD) (h0:vs = [.ref a]) (h1:H a=some (.tup (sdV d))) (h2:(∀n,d ≠ .pen n)) (h3:∀H',Same H H'->Q (.int (Yo d)) H')
abbrev Zli:Stmt:=top 71
theorem Zxg(Zgi:Has K mg "_law_day_of" Zli)(T:Txt mg):Fn P w K mg base "_law_day_of" ["_law_deed"] 1 spDayOf:=by
 refine Zgi.fq ["_law_deed"] fun H vs Q E hr h=>?_
 obtain⟨a,d,rfl,ha,hp,k⟩:=h
 refine⟨rfl,_,(Zd (Zo (Zl Zd6 (Zj Zu (qvN 0) Zc (fun _ _=>rfl)) (Z6 (Za Zi (Za Zi Zb))) rfl) (Ze (Zx (Zj Zu (qvN 0) Zc (fun _ _=>rfl)))) Zq)
 (Ze (Zx (Zj Zu (qvN 0) Zc (fun _ _=>rfl))))),?_⟩
 have hz:(5000:Nat)<=sizeLine:=by decide
 refine⟨_,rfl,a,_,0,_,rfl,rfl,SqT.of ha,Vt d,by show 2<=sizeLine;lia,fun l hl=>?_⟩
 have S:=Same.new (o:=.lst [.str "give", .str "pay"]) hl
 have kl:(upd H l (.lst [.str "give", .str "pay"])) l=some (.lst [.str "give", .str "pay"]):=Zg
 generalize (upd H l (.lst [.str "give", .str "pay"]))=H1 at S kl ⊢
 have k:=k H1 S
 have ha:=S _ _ ha
 refine⟨l,_,rfl,.inl (SqL.of kl),rfl,rfl,_,rfl,?_⟩
 cases d with
 | pen n=>exact absurd rfl (hp n)
 | give i x y day=>exact Zr (fun _=>⟨_,rfl,a,_,4,_,rfl,rfl,SqT.of ha,rfl,k⟩) fun z=>absurd (show inV (.str "give") [.str "give", .str "pay"]=true by decide +kernel) z
 | pay x y many day=>exact Zr (fun _=>⟨_,rfl,a,_,4,_,rfl,rfl,SqT.of ha,rfl,k⟩) fun z=>absurd (show inV (.str "pay") [.str "give", .str "pay"]=true by decide +kernel) z
 | come n day wt=>exact Zr (fun z=>absurd z (show ¬inV (.str "come") [.str "give", .str "pay"]=true by decide +kernel)) fun _=>⟨_,rfl,a,_,2,_,rfl,rfl,SqT.of ha,rfl,k⟩
 | rise n day wt=>exact Zr (fun z=>absurd z (show ¬inV (.str "rise") [.str "give", .str "pay"]=true by decide +kernel)) fun _=>⟨_,rfl,a,_,2,_,rfl,rfl,SqT.of ha,rfl,k⟩
 | die n he day=>exact Zr (fun z=>absurd z (show ¬inV (.str "die") [.str "give", .str "pay"]=true by decide +kernel)) fun _=>⟨_,rfl,a,_,2,_,rfl,rfl,SqT.of ha,rfl,k⟩
 | bring n day=>exact Zr (fun z=>absurd z (show ¬inV (.str "bring") [.str "give", .str "pay"]=true by decide +kernel)) fun _=>⟨_,rfl,a,_,2,_,rfl,rfl,SqT.of ha,rfl,k⟩
inductive spFolkOf (vs:List V) (H:Hp) (Q:VK) (z3:XK):Prop
 | mk (a:Addr) (d:SD) (h0:vs = [.ref a]) (h1:H a=some (.tup (sdV d))) (h2:∀(l:Addr)(H':Hp),Same H H'->H l=none->H' l=some (.lst ((Yd d).map V.str))->Q (.ref l) H')
abbrev Zgj:Stmt:=top 70
theorem Nq2:Nm (Zs Zgj) "_law_deed" .cell:=by decide +kernel
theorem Zxh(Zgk:Has K mg "_law_folk_of" Zgj)(T:Txt mg):Fn P w K mg base "_law_folk_of" ["_law_deed"] 1 spFolkOf:=by
 refine Zgk.fq ["_law_deed", "_law_places"] fun H vs Q E hr h=>?_
 obtain⟨a,d,rfl,ha,k⟩:=h
 refine⟨rfl,_,(Zd (Z1 1 (Zsh (Zat Zi (Z6 Zb) (Zat Zi (Z6 (Za Zc Zb)) (Zat Zi (Z6 (Za Zc Zb)) (Zat Zi (Z6 (Za Zc Zb)) (Zat Zi (Z6 (Za Zc (Za Zc Zb))) (Zat Zi (Z6 (Za Zc (Za Zc Zb))) (Zat Zi (Z6 (Za Zc (Za Zc Zb))) Zsg)))))))))
 (Ze (Zx (Uy (locs:=["_law_at"]) (fr:=[("_law_deed", 0)]) ⟨rfl,by decide +kernel,by decide +kernel,by decide +kernel,by decide +kernel,by decide +kernel⟩ (.consN Nq2 .nil) rfl (Wt (Zcb hr (qvN 1) (Zj Zu (qvC 0 Nq2) Zc (fun _ _=>rfl)) (fun _ _=>rfl))) ⟨fun _ _ _ _ _ _=>by
  have cnd:(inN ["_law_at"] [("_law_deed", 0)]).Nodup:=by decide +kernel
  exact⟨(Ua 0 cnd),Zap,(Zj Zeg (Zcu 1) (V9 0) (fun _ _=>rfl))⟩⟩)))),?_⟩
 have hz:(5000:Nat)<=sizeLine:=by decide
 refine Yc fun D1 hn1=>?_
 intro p hp
 have Sp:=Same.new (o:=.dK []) hp
 have kp:(upd H p (.dK [])) p=some (.dK []):=Zg
 generalize (upd H p (.dK []))=H0 at Sp kp ⊢
 refine⟨by show 0<=sizeLine;lia,fun l1 h1=>?_⟩
 have S1:=Same.new (o:=.lst []) h1
 have e1:(upd H0 l1 (.lst [])) l1=some (.lst []):=Zg
 generalize (upd H0 l1 (.lst []))=H1 at S1 e1 ⊢
 refine⟨by show 1<=sizeLine;lia,fun l2 h2=>?_⟩
 have S2:=Same.new (o:=.lst [.int 1]) h2
 have e2:(upd H1 l2 (.lst [.int 1])) l2=some (.lst [.int 1]):=Zg
 generalize (upd H1 l2 (.lst [.int 1]))=H2 at S2 e2 ⊢
 refine⟨by show 1<=sizeLine;lia,fun l3 h3=>?_⟩
 have S3:=Same.new (o:=.lst [.int 1]) h3
 have e3:(upd H2 l3 (.lst [.int 1])) l3=some (.lst [.int 1]):=Zg
 generalize (upd H2 l3 (.lst [.int 1]))=H3 at S3 e3 ⊢
 refine⟨by show 1<=sizeLine;lia,fun l4 h4=>?_⟩
 have S4:=Same.new (o:=.lst [.int 1]) h4
 have e4:(upd H3 l4 (.lst [.int 1])) l4=some (.lst [.int 1]):=Zg
 generalize (upd H3 l4 (.lst [.int 1]))=H4 at S4 e4 ⊢
 refine⟨by show 2<=sizeLine;lia,fun l5 h5=>?_⟩
 have S5:=Same.new (o:=.lst [.int 1,.int 3]) h5
 have e5:(upd H4 l5 (.lst [.int 1,.int 3])) l5=some (.lst [.int 1,.int 3]):=Zg
 generalize (upd H4 l5 (.lst [.int 1,.int 3]))=H5 at S5 e5 ⊢
 refine⟨by show 2<=sizeLine;lia,fun l6 h6=>?_⟩
 have S6:=Same.new (o:=.lst [.int 2,.int 3]) h6
 have e6:(upd H5 l6 (.lst [.int 2,.int 3])) l6=some (.lst [.int 2,.int 3]):=Zg
 generalize (upd H5 l6 (.lst [.int 2,.int 3]))=H6 at S6 e6 ⊢
 refine⟨by show 2<=sizeLine;lia,fun l7 h7=>?_⟩
 have S7:=Same.new (o:=.lst [.int 1,.int 2]) h7
 have e7:(upd H6 l7 (.lst [.int 1,.int 2])) l7=some (.lst [.int 1,.int 2]):=Zg
 generalize (upd H6 l7 (.lst [.int 1,.int 2]))=H7 at S7 e7 ⊢
 have S76:=S6.trans S7
 have S75:=S5.trans S76
 have S74:=S4.trans S75
 have S73:=S3.trans S74
 have S72:=S2.trans S73
 have S71:=S1.trans S72
 have k7:=S71 _ _ kp
 refine⟨k7,[(.inr "come", .ref l1),(.inr "rise", .ref l2),(.inr "penance", .ref l3),(.inr "bring", .ref l4),(.inr "die", .ref l5),(.inr "give", .ref l6),(.inr "pay", .ref l7)],rfl,by show 7<=15;decide,hn1 _ _ ?_⟩
 have nb:∀{b o},H b=some o->(upd H7 p (.dK (Ws [] [(.inr "come", .ref l1),(.inr "rise", .ref l2),(.inr "penance", .ref l3),(.inr "bring", .ref l4),(.inr "die", .ref l5),(.inr "give", .ref l6),(.inr "pay", .ref l7)]))) b=some o:=fun {b o} e=>by rw[Zf (Zp e hp)];exact S71 _ _ (Sp _ _ e)
 have np:∀{b o},H7 b=some o->b≠p->(upd H7 p (.dK (Ws [] [(.inr "come", .ref l1),(.inr "rise", .ref l2),(.inr "penance", .ref l3),(.inr "bring", .ref l4),(.inr "die", .ref l5),(.inr "give", .ref l6),(.inr "pay", .ref l7)]))) b=some o:=fun e n=>by rw[Zf n];exact e
 obtain⟨L,hL,hv⟩:∃L,(upd H7 p (.dK (Ws [] [(.inr "come", .ref l1),(.inr "rise", .ref l2),(.inr "penance", .ref l3),(.inr "bring", .ref l4),(.inr "die", .ref l5),(.inr "give", .ref l6),(.inr "pay", .ref l7)]))) L=some (.lst ((plc d).map V.int))/\Z3 (Ws [] [(.inr "come", .ref l1),(.inr "rise", .ref l2),(.inr "penance", .ref l3),(.inr "bring", .ref l4),(.inr "die", .ref l5),(.inr "give", .ref l6),(.inr "pay", .ref l7)]) (.inr (Ye (.s d)))=some (.ref L):=by
  have n1:=(Zp kp h1).symm
  have n2:=(Zp (S1 _ _ kp) h2).symm
  have n3:=(Zp ((S1.trans S2) _ _ kp) h3).symm
  have n4:=(Zp (((S1.trans S2).trans S3) _ _ kp) h4).symm
  have n5:=(Zp ((((S1.trans S2).trans S3).trans S4) _ _ kp) h5).symm
  have n6:=(Zp (((((S1.trans S2).trans S3).trans S4).trans S5) _ _ kp) h6).symm
  have n7:=(Zp ((((((S1.trans S2).trans S3).trans S4).trans S5).trans S6) _ _ kp) h7).symm
  cases d with
  | come n day wt=>exact⟨l1,np (S72 _ _ e1) n1,rfl⟩
  | rise n day wt=>exact⟨l2,np (S73 _ _ e2) n2,rfl⟩
  | pen n=>exact⟨l3,np (S74 _ _ e3) n3,rfl⟩
  | bring n day=>exact⟨l4,np (S75 _ _ e4) n4,rfl⟩
  | die n he day=>exact⟨l5,np (S76 _ _ e5) n5,rfl⟩
  | give i x y day=>exact⟨l6,np (S7 _ _ e6) n6,rfl⟩
  | pay x y many day=>exact⟨l7,np e7 n7,rfl⟩
 have kd:(upd H7 p (.dK (Ws [] [(.inr "come", .ref l1),(.inr "rise", .ref l2),(.inr "penance", .ref l3),(.inr "bring", .ref l4),(.inr "die", .ref l5),(.inr "give", .ref l6),(.inr "pay", .ref l7)]))) p=some (.dK (Ws [] [(.inr "come", .ref l1),(.inr "rise", .ref l2),(.inr "penance", .ref l3),(.inr "bring", .ref l4),(.inr "die", .ref l5),(.inr "give", .ref l6),(.inr "pay", .ref l7)])):=Zg
 generalize Ws [] [(.inr "come", .ref l1),(.inr "rise", .ref l2),(.inr "penance", .ref l3),(.inr "bring", .ref l4),(.inr "die", .ref l5),(.inr "give", .ref l6),(.inr "pay", .ref l7)]=kvs at hv kd hL nb ⊢
 generalize (upd H7 p (.dK kvs))=H8 at kd hL nb ⊢
 have ha8:=nb ha
 have gt:=DGet.k (k:=.inr (Ye (.s d))) kd
 rw[hv] at gt
 have fr:∀{b},H8 b=none->H b=none:=fun {b} e=>by
  cases z:H b with
  | none=>rfl
  | some o=>rw[nb z] at e;cases e
 have hpl:=Zjj d
 refine⟨_,rfl,_,rfl,a,_,0,_,rfl,rfl,SqT.of ha8,Vt d,p,_,rfl,gt,L,rfl,⟨_,SqL.of hL⟩,?_⟩
 refine Zah (xs:=(plc d).map V.int) (fun i ys H'=>H'=H8/\ys=((Yd d).take i).map V.str) ⟨rfl,rfl⟩ (by rw[xA];lia) (fun i ys H' _ ⟨e,_⟩=>by rw[e];exact SqL.of hL) (fun i ys H' ⟨_,e⟩=>by rw[e,xA,xZ];lia) ?_ ?_
 ·rintro i v ys H' hv ⟨rfl,e⟩ ls hls
  obtain⟨u,rfl⟩:=Zaa hls
  rw[xG] at hv
  obtain⟨j,hj,rfl⟩:=xN.mp hv
  obtain⟨n,hn,hat⟩:=Zuo hj
  refine⟨⟨[_],rfl,rfl⟩,_,rfl,_,rfl,a,_,j,_,rfl,rfl,SqT.of ha8,hat,rfl,?_⟩
  rw[e,yI,hn,yE];rfl
 ·rintro ys H' ⟨rfl,e⟩ l hl
  rw[xA,hpl.1,yR] at e
  subst e
  have S:=Same.new (o:=.lst ((Yd d).map V.str)) hl
  exact k l _ (fun b o e=>S _ _ (nb e)) (fr hl) Zg
theorem Zbh{P1 P2:Prop} [Decidable P1] [Decidable P2] {Q:VK}{H:Hp}(k:Q (.bl (decide P1 && decide P2)) H):(P1->Q (.bl (decide P2)) H)/\(¬P1->Q (.bl false) H):=by
 constructor
 ·intro h;rw[xW h,Bool.true_and] at k;exact k
 ·intro h;rw[xT h,yT] at k;exact k
inductive spMeas (vs:List V) (H:Hp) (Q:VK) (z3:XK):Prop
 | mk (a:Addr) (d:SD) (h0:vs = [.ref a]) (h1:H a=some (.tup (sdV d))) (h2:∀H',Same H H'->Q (.bl (Zbq d)) H')
abbrev Zlj:Stmt:=top 72
theorem Zxi(Zgl:Has K mg "_law_measured" Zlj)(T:Txt mg)(Zdt:Fn P w K mg base "_law_day_of" ["_law_deed"] 1 spDayOf):Fn P w K mg base "_law_measured" ["_law_deed"] 2 spMeas:=by
 refine Zgl.fq ["_law_deed"] fun H vs Q E hr h=>?_
 obtain⟨a,d,rfl,ha,k⟩:=h
 refine⟨rfl,_,(Zd (Zo (Zl Z4 (Zj Zu (qvN 0) Zc (fun _ _=>rfl)) Zi (Zm _)) (Ze (Zx Zaj)) Zq)
 (Zd (Zo (QW.pt (Zbn (Zl V6 (Zw Zdt (Za (qvN 0) Zb)) Zc (Zm _)) (Zbe (Zl Zjv (Zw Zdt (Za (qvN 0) Zb)) Zc (Zm _))))) (Ze (Zx Zaj)) Zq)
 (Zd (Zo (Zl Zd6 (Zj Zu (qvN 0) Zc (fun _ _=>rfl)) (Z6 (Za Zi (Za Zi Zb))) rfl) (Ze (Zx (Zbf (Vi Yx Zc (Zj Zu (qvN 0) Zc (fun _ _=>rfl)) (Zm _)) (Zak (Vi Yx (Zj Zu (qvN 0) Zc (fun _ _=>rfl)) Zc (Zm _)))))) Zq)
 (Ze (Zx (Zvk (Vi Zju (Zj Zu (qvN 0) Zc (fun _ _=>rfl)) Zi (Zm _)) (Zak (Zbf (Vi Yx Zc (Zj Zu (qvN 0) Zc (fun _ _=>rfl)) (Zm _)) (Zak (Vi Yx (Zj Zu (qvN 0) Zc (fun _ _=>rfl)) Zc (Zm _))))))))))),?_⟩
 have hz:(5000:Nat)<=sizeLine:=by decide
 refine⟨_,rfl,a,_,0,_,rfl,rfl,SqT.of ha,Vt d,rfl,_,rfl,Zr (fun z=>?_) (fun z=>?_)⟩
 ·have:Zbq d=true:=by
   obtain⟨n,rfl⟩:=Zj3 z
   rfl
  have k:=k H (Same.refl _)
  rw[this] at k
  exact k
 have hp:∀n,d ≠ .pen n:=fun n e=>z (by rw[e];rfl)
 have bad:∀{H'},Same H H'->¬(0<=Yo d/\Yo d<=9999)->Q (.bl false) H':=fun {H'} S h=>by
  have k:=k _ S
  have:inM 0 9999 (Yo d)=false:=by unfold inM;rw[← Bool.decide_and];exact xT h
  unfold Zbq at k
  rw[this,yT] at k;exact k
 dsimp only [Zbj]
 refine Wp fun D1 hn1 hr1=>?_
 refine⟨_,rfl,a,d,rfl,ha,hp,fun H1 S1=>⟨_,_,rfl,rfl,_,rfl,Zr (fun z1=>Yl (hr1 _ _ (bad S1 (by lia)))) (fun z1=>?_)⟩⟩
 refine⟨_,rfl,a,d,rfl,S1 _ _ ha,hp,fun H2 S2=>⟨_,_,rfl,rfl,_,rfl,Zr (fun z2=>hr1 _ _ (bad (S1.trans S2) (by lia))) (fun z2=>hn1 _ _ ?_)⟩⟩
 have S02:=S1.trans S2
 have ha2:=S02 _ _ ha
 have good:inM 0 9999 (Yo d)=true:=by unfold inM;rw[← Bool.decide_and];exact xW (by lia)
 refine⟨_,rfl,a,_,0,_,rfl,rfl,SqT.of ha2,Vt d,by show 2<=sizeLine;lia,fun l hl=>?_⟩
 have S3:=S02.trans (Same.new (o:=.lst [.str "come", .str "rise"]) hl)
 have kl:(upd H2 l (.lst [.str "come", .str "rise"])) l=some (.lst [.str "come", .str "rise"]):=Zg
 generalize (upd H2 l (.lst [.str "come", .str "rise"]))=H3 at S3 kl ⊢
 have k:=k H3 S3
 unfold Zbq at k
 rw[good,Bool.true_and] at k
 have ha3:=S3 _ _ ha
 refine⟨l,_,rfl,.inl (SqL.of kl),rfl,rfl,_,rfl,?_⟩
 cases d with
 | pen n=>exact absurd rfl (hp n)
 | come n day wt=>exact Zr (fun _=>⟨_,rfl,a,_,3,_,rfl,rfl,SqT.of ha3,rfl,_,_,rfl,rfl,_,rfl,Zr (fun y=>⟨_,rfl,a,_,3,_,rfl,rfl,SqT.of ha3,rfl,_,_,rfl,rfl,(Zbh k).1 y⟩) (Zbh k).2⟩) fun y=>absurd (show inV (.str "come") [.str "come", .str "rise"]=true by decide +kernel) y
 | rise n day wt=>exact Zr (fun _=>⟨_,rfl,a,_,3,_,rfl,rfl,SqT.of ha3,rfl,_,_,rfl,rfl,_,rfl,Zr (fun y=>⟨_,rfl,a,_,3,_,rfl,rfl,SqT.of ha3,rfl,_,_,rfl,rfl,(Zbh k).1 y⟩) (Zbh k).2⟩) fun y=>absurd (show inV (.str "rise") [.str "come", .str "rise"]=true by decide +kernel) y
 | pay x y many day=>exact Zr (fun y=>absurd y (show ¬inV (.str "pay") [.str "come", .str "rise"]=true by decide +kernel)) fun _=>⟨_,rfl,a,_,0,_,rfl,rfl,SqT.of ha3,rfl,rfl,_,rfl,Zbm (fun y=>absurd y (by decide +kernel)) fun _=>⟨_,rfl,a,_,3,_,rfl,rfl,SqT.of ha3,rfl,_,_,rfl,rfl,_,rfl,Zr (fun y=>⟨_,rfl,a,_,3,_,rfl,rfl,SqT.of ha3,rfl,_,_,rfl,rfl,(Zbh k).1 y⟩) (Zbh k).2⟩⟩
 | die n he day=>exact Zr (fun y=>absurd y (show ¬inV (.str "die") [.str "come", .str "rise"]=true by decide +kernel)) fun _=>⟨_,rfl,a,_,0,_,rfl,rfl,SqT.of ha3,rfl,rfl,_,rfl,Zbm (fun _=>k) fun y=>absurd y (by decide +kernel)⟩
 | bring n day=>exact Zr (fun y=>absurd y (show ¬inV (.str "bring") [.str "come", .str "rise"]=true by decide +kernel)) fun _=>⟨_,rfl,a,_,0,_,rfl,rfl,SqT.of ha3,rfl,rfl,_,rfl,Zbm (fun _=>k) fun y=>absurd y (by decide +kernel)⟩
 | give i x y day=>exact Zr (fun y=>absurd y (show ¬inV (.str "give") [.str "come", .str "rise"]=true by decide +kernel)) fun _=>⟨_,rfl,a,_,0,_,rfl,rfl,SqT.of ha3,rfl,rfl,_,rfl,Zbm (fun _=>k) fun y=>absurd y (by decide +kernel)⟩
end
section
variable{P:Program}{w:World}{K:uFg}{mg:Str->Option Value}{base:Heap}{C CM:Addr}{c:Str->Addr}
def eNm:SD->Option Str
 | .come n _ _=>if Y2 n=false then some ("NoName" : Str) else none
 | _=>none
def eMs(d:SD):Option Str:=if Zbq d=true then none else some ("NoMeasure" : Str)
def eTk(ds:List Deed):SD->Option Str
 | .come n _ _=>if Zk ds n=none then none else some ("Taken" : Str)
 | _=>none
def eTh(nb:Nat):SD->Option Str
 | .give i _ _ _=>if 0<=i/\i < nb then none else some ("NoThing" : Str)
 | _=>none
def Wg(ds:List Deed)(nb:Nat)(d:SD):Option Str:=(eNm d).or ((eMs d).or (((Yd d).findSome? (Yq ds)).or ((eTk ds d).or (eTh nb d))))
abbrev Vj(o:Option Str):V:=.str (o.getD "")
def Zgm:SD->Prop
 | .come n _ _=>n.length<=1000
 | _=>True
inductive spEarly (vs:List V) (H:Hp) (Q:VK) (z3:XK):Prop
 | mk (q a:Addr) (fx:List Addr) (as:List AD) (d:SD) (h0:vs = [.ref q,.ref a]) (h1:LAt H fx q (as.map adT)) (h2:H a=some (.tup (sdV d))) (h3:as.length<=1000) (h4:Zgm d) (h5:∀H',Same H H'->Q (Vj (Wg (Zh as).1 (as.filter Yn).length d)) H')
theorem LAt.sm{H H':Hp}{fx:List Addr}{q:Addr}{c:List D}(h:LAt H fx q c)(S:Same H H'):LAt H' fx q c:=h.mono (fun o e=>S _ _ e) (V7 (fun _ _ e=>S _ _ e) (fun _ _ _ e=>S _ _ e) fun _ z=>z)
theorem Zid{α β:Type}{f : α->Option β}{l:List α}(h:∀n∈l,f n=none):l.findSome? f=none:=zN.mpr h
theorem Zn5{ds:List Deed}{l:List Str}{n:Str}(hn:n∈l)(e:Zk ds n=none):l.findSome? (Yq ds)=some ("Unknown" : Str):=by
 induction l with
 | nil=>cases hn
 | cons m l ih =>
  rw[zI]
  by_cases z:Zk ds m=none
  ·have:Yq ds m=some ("Unknown" : Str):=if_pos z
   rw[this]
  ·have:Yq ds m=none:=if_neg z
   rw[this]
   rcases xE.mp hn with rfl | y
   ·exact absurd e z
   ·exact ih y
abbrev Zlk:Stmt:=top 73
theorem Zxj(Zgn:Has K mg "_law_early_due" Zlk)(T:Txt mg)(Zxk:Fn P w K mg base "_law_is_name" ["_law_text"] 1 spLIsN)(Zxl:Fn P w K mg base "_law_measured" ["_law_deed"] 2 spMeas)(Zdu:Fn P w K mg base "_law_folk_of" ["_law_deed"] 1 spFolkOf)(Zdv:Fn P w K mg base "_law_came" ["_law_deeds", "_law_name"] 1 spCame)(Za4:Fn P w K mg base "_law_bringings" ["_law_deeds"] 1 spBrs) :
  Fn P w K mg base "_law_early_due" ["_law_deeds", "_law_deed"] 3 spEarly:=by
 refine Zgn.fq ["_law_deeds", "_law_deed", "_law_name"] fun H vs Q E hr h=>?_
 obtain⟨q,a,fx,as,d,rfl,hl,ha,hal,hnm,k⟩:=h
 refine⟨rfl,_,(Zd (Zo (QW.pt (Vl (Zl Z4 (Zj Zu (qvN 1) Zc (fun _ _=>rfl)) Zi (Zm _)) (V4 (Vk (V5 (Zw Zxk (Za (Zj Zu (qvN 1) Zc (fun _ _=>rfl)) Zb))))))) (Ze (Zx Zi)) Zq)
 (Zd (Zo (Vk (V5 (Zw Zxl (Za (qvN 1) Zb)))) (Ze (Zx Zi)) Zq)
 (Zd (V3 PassesOwn.never rfl (Wt (Zw Zdu (Za (qvN 1) Zb))) (Vq 2)
 (Ze (Zo (Zl Zi8 (Zw Zdv (Za (qvN 0) (Za (qvN 2) Zb))) Y1 (Zm _)) (Ze (Zx Zi)) Zq)))
 (Zd (Zo (QW.pt (Vl (Zl Z4 (Zj Zu (qvN 1) Zc (fun _ _=>rfl)) Zi (Zm _)) (V4 (Zl Ud (Zw Zdv (Za (qvN 0) (Za (Zj Zu (qvN 1) Zc (fun _ _=>rfl)) Zb))) Y1 (Zm _))))) (Ze (Zx Zi)) Zq)
 (Zd (Zo (QW.pt (Vl (Zl Z4 (Zj Zu (qvN 1) Zc (fun _ _=>rfl)) Zi (Zm _)) (V4 (QW.pt (Zbn (Zl V6 (Zj Zu (qvN 1) Zc (fun _ _=>rfl)) Zc (Zm _)) (Zbe (Zl Uw (Zj Zu (qvN 1) Zc (fun _ _=>rfl)) (Z7 Wm T.len Yv (Za (Zw Za4 (Za (qvN 0) Zb)) Zb)) (Zm _)))))))) (Ze (Zx Zi)) Zq)
 (Ze (Zx Zi))))))),?_⟩
 have hz:(5000:Nat)<=sizeLine:=by decide
 refine Vr (fun σ H'=>σ = [some (.ref q),some (.ref a),none]/\H=H'/\eNm d=none) ?_ ?_
 rotate_left
 ·intro D1 hn1 hr1 _ _
  refine⟨_,rfl,a,_,0,_,rfl,rfl,SqT.of ha,Vt d,rfl,_,rfl,Zr (fun z=>?_) (fun z=>Z8 (hn1 _ _ ⟨rfl,rfl,?_⟩))⟩
  ·obtain⟨n,day,wt,rfl⟩:=Zc9 z
   refine⟨_,rfl,a,_,1,_,rfl,rfl,SqT.of ha,rfl,n,rfl,hnm,_,rfl,Zbm (fun y=>hr1 _ _ ?_) (fun y=>hn1 _ _ ⟨rfl,rfl,if_neg (by rw[y];decide)⟩)⟩
   have k:=k H (Same.refl _)
   have e:eNm (.come n day wt)=some ("NoName" : Str):=if_pos y
   unfold Wg at k;rw[e] at k;exact k
  ·cases d with
   | come n day wt=>exact absurd rfl z
   | _=>rfl
 rintro σ H' ⟨rfl,rfl,e1⟩
 unfold Wg at k
 rw[e1,xB] at k
 refine Vr (fun σ H'=>σ = [some (.ref q),some (.ref a),none]/\Same H H'/\eMs d=none) ?_ ?_
 rotate_left
 ·intro D1 hn1 hr1 _ _
  refine⟨_,rfl,a,d,rfl,ha,fun H1 S1=>⟨_,rfl,Zbm (fun y=>hr1 _ _ ?_) (fun y=>hn1 _ _ ⟨rfl,S1,if_pos y⟩)⟩⟩
  have k:=k H1 S1
  have e:eMs d=some ("NoMeasure" : Str):=if_neg (by rw[y];decide)
  rw[e] at k;exact k
 rintro σ H1 ⟨rfl,S1,e2⟩
 rw[e2,xB] at k
 refine Vr (fun σ H'=>∃v2:Option V,σ = [some (.ref q),some (.ref a),v2]/\Same H H'/\(Yd d).findSome? (Yq (Zh as).1)=none) ?_ ?_
 rotate_left
 ·intro D1 hn1 hr1 _ _
  refine⟨_,rfl,a,d,rfl,S1 _ _ ha,fun l H2 S2 fl kl=>⟨l,rfl,⟨_,SqL.of kl⟩,?_⟩⟩
  have S02:=S1.trans S2
  refine Ux ((Yd d).map V.str) (fun i σ H'=>∃v2:Option V,σ = [some (.ref q),some (.ref a),v2]/\H'=H2/\∀n∈(Yd d).take i,Yq (Zh as).1 n=none) ⟨none,rfl,rfl,fun n hn=>by cases hn⟩ (fun i σ H' _ ⟨_,_,e,_⟩=>by rw[e];exact SqL.of kl) ?_ ?_
  ·rintro i v σ H' hv ⟨v2,rfl,rfl,hno⟩
   rw[xG] at hv
   obtain⟨n,hn,rfl⟩:=xN.mp hv
   refine⟨_,rfl,_,rfl,q,fx,as,n,rfl,hl.sm S02,rfl,_,rfl,?_⟩
   cases e:Zk (Zh as).1 n with
   | none =>
    refine Zr (fun _=>hr1 _ _ ?_) (fun z=>absurd rfl z)
    have k:=k _ S02
    rw[Zn5 (xF hn) e] at k;exact k
   | some x =>
    refine Zr (fun z=>by cases z) (fun _=>⟨_,rfl,rfl,fun m hm=>?_⟩)
    rw[yI,hn] at hm
    rcases xM.mp hm with y | y
    ·exact hno m y
    ·cases xP.mp y
     exact if_neg (by rw[e];exact fun z=>by cases z)
  ·rintro σ H' ⟨v2,rfl,rfl,hno⟩
   rw[xA,yR] at hno
   exact hn1 _ _ ⟨_,rfl,S02,Zid hno⟩
 rintro σ H2 ⟨v2,rfl,S2,e3⟩
 rw[e3,xB] at k
 refine Vr (fun σ H'=>σ = [some (.ref q),some (.ref a),v2]/\H2=H'/\eTk (Zh as).1 d=none) ?_ ?_
 rotate_left
 ·intro D1 hn1 hr1 _ _
  have ha2:=S2 _ _ ha
  refine⟨_,rfl,a,_,0,_,rfl,rfl,SqT.of ha2,Vt d,rfl,_,rfl,Zr (fun z=>?_) (fun z=>Z8 (hn1 _ _ ⟨rfl,rfl,?_⟩))⟩
  ·obtain⟨n,day,wt,rfl⟩:=Zc9 z
   refine⟨_,rfl,_,rfl,a,_,1,_,rfl,rfl,SqT.of ha2,rfl,q,fx,as,n,rfl,hl.sm S2,rfl,_,rfl,?_⟩
   cases e:Zk (Zh as).1 n with
   | none=>exact Wb (fun z=>absurd rfl z) (fun _=>hn1 _ _ ⟨rfl,rfl,if_pos e⟩)
   | some x =>
    refine Wb (fun _=>hr1 _ _ ?_) (fun z=>by cases z)
    have k:=k _ S2
    have e':eTk (Zh as).1 (.come n day wt)=some ("Taken" : Str):=if_neg (by rw[e];exact fun z=>by cases z)
    rw[e'] at k;exact k
  ·cases d with
   | come n day wt=>exact absurd rfl z
   | _=>rfl
 rintro σ H' ⟨rfl,rfl,e4⟩
 rw[e4,xB] at k
 have ha2:=S2 _ _ ha
 refine Wp fun D1 hn1 hr1=>?_
 have fin:∀{H'' σ},Same H H''->eTh (as.filter Yn).length d=none->D1.nx σ H'':=fun S e=>hn1 _ _ (by have k:=k _ S;rw[e] at k;exact k)
 refine⟨_,rfl,a,_,0,_,rfl,rfl,SqT.of ha2,Vt d,rfl,_,rfl,Zr (fun z=>?_) (fun z=>Z8 (fin S2 ?_))⟩
 ·obtain⟨i,x,y,day,rfl⟩:=Zji z
  have bad:∀{H''},Same H H''->¬(0<=i/\i < (as.filter Yn).length)->Q (.str "NoThing") H'':=fun S h=>by
   have k:=k _ S
   have e':eTh (as.filter Yn).length (.give i x y day)=some ("NoThing" : Str):=if_neg h
   rw[e'] at k;exact k
  refine⟨_,rfl,a,_,1,_,rfl,rfl,SqT.of ha2,rfl,_,_,rfl,rfl,_,rfl,Zr (fun z1=>Yl (hr1 _ _ (bad S2 (by lia)))) (fun z1=>?_)⟩
  refine⟨_,rfl,a,_,1,_,rfl,rfl,SqT.of ha2,rfl,_,rfl,q,fx,as,rfl,hl.sm S2,hal,fun l H3 S3 ⟨us,hu,hur⟩=>?_⟩
  have hul:=hur.length
  rw[xA] at hul
  refine⟨l,us,rfl,.inl (SqL.of hu),_,_,rfl,rfl,_,rfl,?_⟩
  rw[hul]
  exact Zr (fun z2=>hr1 _ _ (bad (S2.trans S3) (by lia))) (fun z2=>fin (S2.trans S3) (if_pos (by lia)))
 ·cases d with
  | give i x y day=>exact absurd rfl z
  | _=>rfl
end
section
variable{P:Program}{w:World}{K:uFg}{mg:Str->Option Value}{base:Heap}{C CM:Addr}{c:Str->Addr}
def Us(as:List AD)(j:Nat):Int:=match (as.filter Yn)[j]? with
 | some (.s (.bring _ day))=>day
 | _=>0
def brT(as:List AD):SD->List Int
 | .give i _ _ _=>[Us as i.toNat]
 | _=>[]
def cdy(as:List AD)(n:Str):Int:=(Zk (Zh as).1 n).getD 0
def Wh(as:List AD)(d:SD):List Int:=(Yd d).map (cdy as)++brT as d
def eNy(sts:List Int)(day:Int):Option Str:=if ∃x∈sts,day < x then some ("NotYet" : Str) else none
def eLt(ds:List Deed):SD->Option Str
 | .die n he _=>(Wo ds n).or (if n=he\/Zy ds he≠none then some ("NoHeir" : Str) else none)
 | d=>(Yd d).findSome? fun n=>Wv ds n (Yo d)
def Vd(as:List AD):SD->Option Str
 | .pen n=>Wo (Zh as).1 n
 | d=>(eNy (Wh as d) (Yo d)).or (eLt (Zh as).1 d)
theorem Zir{as:List AD}{d:SD}(h:∀n,d ≠ .pen n):Vd as d=(eNy (Wh as d) (Yo d)).or (eLt (Zh as).1 d):=by
 cases d with
 | pen n=>exact absurd rfl (h n)
 | _=>rfl
theorem Zup{ds:List Deed}{d:SD}(h:∀n he day,d ≠ .die n he day):eLt ds d=(Yd d).findSome? fun n=>Wv ds n (Yo d):=by
 cases d with
 | die n he day=>exact absurd rfl (h n he day)
 | _=>rfl
theorem Zoz{ds:List Deed}{day:Int}{l:List Str}{n:Str}(hn:n∈l)(e:Va ds n day=true):(l.findSome? fun n=>Wv ds n day)=some ("Dead" : Str):=by
 induction l with
 | nil=>cases hn
 | cons m l ih =>
  rw[zI]
  by_cases z:Va ds m day=true
  ·have:Wv ds m day=some ("Dead" : Str):=if_pos z
   rw[this]
  ·have:Wv ds m day=none:=if_neg z
   rw[this]
   rcases xE.mp hn with rfl | y
   ·exact absurd e z
   ·exact ih y
structure Ear (as:List AD) (d:SD):Prop where
 kn:∀n∈Yd d,∃x,Zk (Zh as).1 n=some x
 th:∀i x y day,d = .give i x y day->0<=i/\i < (as.filter Yn).length
 dy:(∀n,d ≠ .pen n)->0<=Yo d
theorem Ear.of{as:List AD}{d:SD}(h:Wg (Zh as).1 (as.filter Yn).length d=none):Ear as d:=by
 unfold Wg at h
 simp only[zK] at h
 obtain⟨_,h2,h3,_,h5⟩:=h
 refine⟨fun n hn=>?_,fun i x y day e=>?_,fun _=>?_⟩
 ·have:=zN.mp h3 n hn
  exact Zav this
 ·subst e
  exact Classical.byContradiction fun z=>by
   have:eTh (as.filter Yn).length (.give i x y day)=some ("NoThing" : Str):=if_neg z
   rw[this] at h5;cases h5
 ·unfold eMs Zbq inM at h2
  by_cases z : 0<=Yo d
  ·exact z
  ·rw[xT z] at h2;cases h2
inductive spLate (vs:List V) (H:Hp) (Q:VK) (z3:XK):Prop
 | mk (q a:Addr) (fx:List Addr) (as:List AD) (d:SD) (h0:vs = [.ref q,.ref a]) (h1:LAt H fx q (as.map adT)) (h2:H a=some (.tup (sdV d))) (h3:as.length<=1000) (h4:Ear as d) (h5:∀H',Same H H'->Q (Vj (Vd as d)) H')
abbrev Zcq:Stmt:=top 74
theorem Zxm:FnScope ["_law_deeds", "_law_deed", "_law_day", "_law_starts", "_law_name"] ["_law_deeds", "_law_deed"] (Zs Zcq):=fsc
theorem Nq0:Nm (Zs Zcq) "_law_deeds" .cell:=by decide +kernel
theorem Nq5:Nm (Zs Zcq) "_law_starts" .local:=by decide +kernel
theorem Zxn(Zgo:Has K mg "_law_late_due" Zcq)(T:Txt mg)(Zdt:Fn P w K mg base "_law_day_of" ["_law_deed"] 1 spDayOf)(Zdu:Fn P w K mg base "_law_folk_of" ["_law_deed"] 1 spFolkOf)(Zdv:Fn P w K mg base "_law_came" ["_law_deeds", "_law_name"] 1 spCame)(Zcp:Fn P w K mg base "_law_death" ["_law_deeds", "_law_name"] 1 spDeath)(Zxo:Fn P w K mg base "_law_is_dead" ["_law_deeds", "_law_name", "_law_day"] 2 spIsDead)(Za4:Fn P w K mg base "_law_bringings" ["_law_deeds"] 1 spBrs) :
  Fn P w K mg base "_law_late_due" ["_law_deeds", "_law_deed"] 3 spLate:=by
 refine Zgo.fq ["_law_deeds", "_law_deed", "_law_day", "_law_starts", "_law_name"] fun H vs Q E hr h=>?_
 obtain⟨q,a,fx,as,d,rfl,hl,ha,hal,er,k⟩:=h
 refine⟨rfl,_,(Zd (Zo (Zl Z4 (Zj Zu (qvN 1) Zc (fun _ _=>rfl)) Zi (Zm _)) (Ze (Zx (Zj Yh (Z6 (Za Zi (Za Zi Zb))) (Zhn Znz T.int Zvi (Za (Vi Ud (Zw Zcp (Za (qvC 0 Nq0) (Za (Zj Zu (qvN 1) Zc (fun _ _=>rfl)) Zb))) Y1 (Zm _)) Zb)) (fun _ _=>rfl)))) Zq)
 (Zd (Z1 2 (Zw Zdt (Za (qvN 1) Zb)))
 (Zd (Zsb (locs:=["_law_name"]) (fr:=[("_law_deeds", 0)]) ⟨rfl,by decide +kernel,by decide +kernel,by decide +kernel,by decide +kernel,by decide +kernel⟩ (.consN Nq0 .nil) rfl (Wt (Zw Zdu (Za (qvN 1) Zb))) ⟨fun _ _ _ _ _ _=>by
  have cnd:(inN ["_law_name"] [("_law_deeds", 0)]).Nodup:=by decide +kernel
  exact⟨(Ua 0 cnd),Zap,(Zw Zdv (Za (Zcu 1) (Za (V9 0) Zb)) (n:=nmC))⟩⟩ Zxm.nd Nq5 (by rfl) (i:=3))
 (Zd (Zo (Zl Z4 (Zj Zu (qvN 1) Zc (fun _ _=>rfl)) Zi (Zm _)) (Ze (Zt (Wq F.plainAttrs_list F.slot_list_append F.type_list_append Wx (qvN 3) (Za (Zj Zu (Zj Yh (Zw Za4 (Za (qvC 0 Nq0) Zb)) (Zj Zu (qvN 1) Zc (fun _ _=>rfl)) (fun _ _=>rfl)) Zc (fun _ _=>rfl)) Zb)))) Zq)
 (Zd (Zo (Zl V6 (qvN 2) (Znw (Zn1 (by rfl)) T.max Zvg (Za (qvN 3) Zb) Zc) (Zm _)) (Ze (Zx Zi)) Zq)
 (Zd (Zo (Zl Z4 (Zj Zu (qvN 1) Zc (fun _ _=>rfl)) Zi (Zm _)) (Zd (Zo (Zl Ud (Zw Zcp (Za (qvC 0 Nq0) (Za (Zj Zu (qvN 1) Zc (fun _ _=>rfl)) Zb))) Y1 (Zm _)) (Ze (Zx Zi)) Zq)
 (Zd (Zo (QW.pt (Zbn (Zl Z4 (Zj Zu (qvN 1) Zc (fun _ _=>rfl)) (Zj Zu (qvN 1) Zc (fun _ _=>rfl)) (Zm _)) (Zbe (Zl Ud (Zw Zcp (Za (qvC 0 Nq0) (Za (Zj Zu (qvN 1) Zc (fun _ _=>rfl)) Zb))) Y1 (Zm _))))) (Ze (Zx Zi)) Zq)
 (Ze (Zx Zi)))) Zq)
 (Zd (V3 PassesOwn.never rfl (Wt (Zw Zdu (Za (qvN 1) Zb))) (Vq 4)
 (Ze (Zo (V5 (Zw Zxo (Za (qvC 0 Nq0) (Za (qvN 4) (Za (qvN 2) Zb))))) (Ze (Zx Zi)) Zq)))
 (Ze (Zx Zi))))))))),?_⟩
 have hz:(5000:Nat)<=sizeLine:=by decide
 refine Wp fun D0 hn0 hr0=>?_
 refine⟨_,rfl,a,_,0,_,rfl,rfl,SqT.of ha,Vt d,rfl,_,rfl,Zr (fun z=>?_) (fun z=>hn0 _ _ ?_)⟩
 ·obtain⟨n,rfl⟩:=Zj3 z
  refine⟨by show 2<=sizeLine;lia,fun l hl1=>?_⟩
  have S1:=Same.new (o:=.lst [.str "", .str "Dead"]) hl1
  have kl:(upd H l (.lst [.str "", .str "Dead"])) l=some (.lst [.str "", .str "Dead"]):=Zg
  generalize (upd H l (.lst [.str "", .str "Dead"]))=H1 at S1 kl ⊢
  refine⟨_,rfl,_,rfl,a,_,1,_,rfl,rfl,SqT.of (S1 _ _ ha),rfl,q,fx,as,n,rfl,hl.sm S1,fun v H2 S2 hv=>?_⟩
  have k:Q (Vj (Wo (Zh as).1 n)) H2:=k _ (S1.trans S2)
  unfold Wo at k
  cases e:Zy (Zh as).1 n with
  | none =>
   rw[e] at hv k
   have hv:v = .non:=hv
   subst hv
   exact⟨rfl,_,rfl,l,_,0,.str "", rfl,rfl,SqL.of (S2 _ _ kl),rfl,hr0 _ _ k⟩
  | some x =>
   obtain⟨dd,he⟩:=x
   rw[e] at hv k
   obtain⟨a2,rfl,ha2⟩:=hv
   exact⟨rfl,_,rfl,l,_,1,.str "Dead", rfl,rfl,SqL.of (S2 _ _ kl),rfl,hr0 _ _ k⟩
 have hp:∀n,d ≠ .pen n:=fun n e=>z (by rw[e];rfl)
 rw[Zir hp] at k
 refine Wp fun D1 hn1 hr1=>?_
 refine⟨_,rfl,a,d,rfl,ha,hp,fun H1 S1=>hn1 _ _ ?_⟩
 refine Wp fun D2 hn2 hr2=>?_
 refine⟨_,rfl,a,d,rfl,S1 _ _ ha,fun l H2 S2 fl kl=>⟨l,rfl,⟨_,SqL.of kl⟩,?_⟩⟩
 have S02:=S1.trans S2
 have hl2:=hl.sm S02
 refine Zah (xs:=(Yd d).map V.str) (fun i ys H'=>H2=H'/\ys=((Yd d).take i).map fun n=>V.int (cdy as n)) ⟨rfl,rfl⟩ (by rw[xA];have:=(Zjj d).2;lia) (fun i ys H' _ ⟨e,_⟩=>by rw[← e];exact SqL.of kl) (fun i ys H' ⟨_,e⟩=>by rw[e,xA,xZ];lia) ?_ ?_
 ·rintro i v ys H' hv ⟨rfl,e⟩ ls hls
  obtain⟨u,rfl⟩:=Zaa hls
  rw[xG] at hv
  obtain⟨n,hn,rfl⟩:=xN.mp hv
  obtain⟨x,hx⟩:=er.kn n (xF hn)
  refine⟨⟨[_],rfl,rfl⟩,_,rfl,_,rfl,q,fx,as,n,rfl,hl2,rfl,?_⟩
  rw[e,yI,hn,yE,hx]
  show _=_ ++ [V.int ((Zk (Zh as).1 n).getD 0)]
  rw[hx];rfl
 rintro ys H' ⟨rfl,e⟩ ls hls
 rw[xA,yR] at e
 subst e
 have S3:=Same.new (o:=.lst ((Yd d).map fun n=>V.int (cdy as n))) hls
 have ks:(upd H2 ls (.lst ((Yd d).map fun n=>V.int (cdy as n)))) ls=some (.lst (((Yd d).map (cdy as)).map V.int)):=by rw[List.map_map];exact Zg
 generalize (upd H2 ls (.lst ((Yd d).map fun n=>V.int (cdy as n))))=H3 at S3 ks ⊢
 refine V0 (hn2 _ _ ?_)
 have S03:=S02.trans S3
 have lsn:H ls=none:=by
  cases z:H ls with
  | none=>rfl
  | some o=>rw[S02 _ _ z] at hls;cases hls
 refine Vr (fun σ H'=>σ = [some (.ref q),some (.ref a),some (.int (Yo d)),some (.ref ls),none]/\Same H H'/\H' ls=some (.lst ((Wh as d).map V.int))) ?_ ?_
 rotate_left
 ·intro D3 hn3 _ _ _
  refine⟨_,rfl,a,_,0,_,rfl,rfl,SqT.of (S03 _ _ ha),Vt d,rfl,_,rfl,Zr (fun z=>?_) (fun z=>hn3 _ _ ⟨rfl,S03,?_⟩)⟩
  ·obtain⟨i,x,y,day,rfl⟩:=Zji z
   obtain⟨i0,i1⟩:=er.th i x y day rfl
   refine⟨_,rfl,.inl ⟨rfl,_,SqL.of ks⟩,_,rfl,q,fx,as,rfl,hl.sm S03,hal,fun lb H4 S4 ⟨us,hu,hur⟩=>?_⟩
   obtain⟨j,rfl⟩:=yJ i0
   have hj:j < (as.filter Yn).length:=by lia
   have hul:=hur.length
   rw[xA] at hul
   obtain⟨v,hv⟩:∃v,us[j]? = some v:=⟨_,xD (by lia)⟩
   obtain⟨x0,hx0,re⟩:=hur.get hv
   rw[xG] at hx0
   obtain⟨x1,hx1,rfl⟩:=xN.mp hx0
   have hb:Yn x1=true:=(List.mem_filter.mp (xF hx1)).2
   obtain⟨n,dy,rfl⟩:∃n dy,x1 = .s (.bring n dy):=by
    cases x1 with
    | s d=>cases d<;>first | exact⟨_,_,rfl⟩ | cases hb
    | c d day need o1 o2 f=>cases hb
   obtain⟨ab,rfl,hab⟩:=Zdr re
   have ed:Us as j=dy:=by unfold Us;rw[hx1]
   have S04:=S03.trans S4
   refine⟨_,rfl,a,_,1,_,rfl,rfl,SqT.of (S04 _ _ ha),rfl,lb,us,j,_,rfl,rfl,SqL.of hu,Wj hv,ab,_,2,.int dy,rfl,rfl,SqT.of hab,rfl,ls,_,.int dy,rfl,rfl,S4 _ _ ks,by rw[xA,xA];show 2 < sizeLine;lia,?_⟩
   refine hn3 _ _ ⟨rfl,fun b o e=>?_,?_⟩
   ·rw[Zf (Zp e lsn)];exact S04 _ _ e
   ·rw[Zg]
    unfold Wh
    rw[yE]
    show _=some (HO.lst (_ ++ [V.int (Us as (Int.toNat (j:Int)))]))
    rw[yV,ed]
  ·have:Wh as d=(Yd d).map (cdy as):=by
    unfold Wh
    cases d with
    | give i x y day=>exact absurd rfl z
    | _=>exact xR _
   rw[this];exact ks
 rintro σ H4 ⟨rfl,S4,ks⟩
 have dy0:=er.dy hp
 refine Wp fun D4 hn4 hr4=>?_
 refine⟨_,rfl,_,rfl,ls,Wh as d,0,rfl,rfl,SqL.of ks,fun m hm=>⟨_,_,rfl,rfl,_,rfl,?_⟩⟩
 have hny:Yo d < m↔∃x∈Wh as d,Yo d < x:=by
  by_cases e:Wh as d = []
  ·rw[if_pos e] at hm
   subst hm
   rw[e]
   exact⟨fun z=>by lia,fun⟨x,hx,_⟩=>by cases hx⟩
  ·rw[if_neg e] at hm
   exact⟨fun z=>⟨m,hm.1,z⟩,fun⟨x,hx,z⟩=>Int.lt_of_lt_of_le z (hm.2 x hx)⟩
 refine Zr (fun z=>hr4 _ _ ?_) (fun z=>hn4 _ _ ?_)
 ·have k:=k _ S4
  have e:eNy (Wh as d) (Yo d)=some ("NotYet" : Str):=if_pos (hny.mp z)
  rw[e] at k;exact k
 have e:eNy (Wh as d) (Yo d)=none:=if_neg fun y=>z (hny.mpr y)
 rw[e,xB] at k
 have ha4:=S4 _ _ ha
 refine Wp fun D5 hn5 hr5=>?_
 refine⟨_,rfl,a,_,0,_,rfl,rfl,SqT.of ha4,Vt d,rfl,_,rfl,Zr (fun z=>?_) (fun z=>hn5 _ _ ?_)⟩
 ·obtain⟨n,he,day,rfl⟩:=Zun z
  have k:∀H',Same H H'->Q (Vj ((Wo (Zh as).1 n).or (if n=he\/Zy (Zh as).1 he≠none then some ("NoHeir" : Str) else none))) H':=k
  refine Wp fun D6 hn6 hr6=>?_
  refine⟨_,rfl,_,rfl,a,_,1,_,rfl,rfl,SqT.of ha4,rfl,q,fx,as,n,rfl,hl.sm S4,fun v H5 S5 hv=>?_⟩
  have S05:=S4.trans S5
  unfold Wo at k
  cases e:Zy (Zh as).1 n with
  | some x =>
   obtain⟨dd,hh⟩:=x
   rw[e] at hv k
   obtain⟨a2,rfl,ha2⟩:=hv
   exact⟨rfl,_,rfl,Wb (fun _=>hr6 _ _ (hr5 _ _ (k _ S05))) (fun z=>by cases z)⟩
  | none =>
   rw[e] at hv k
   have hv:v = .non:=hv
   subst hv
   refine⟨rfl,_,rfl,Wb (fun z=>absurd rfl z) (fun _=>hn6 _ _ ?_)⟩
   refine Wp fun D7 hn7 hr7=>?_
   have ha5:=S05 _ _ ha
   have k2:∀H',Same H H'->Q (Vj (if n=he\/Zy (Zh as).1 he≠none then some ("NoHeir" : Str) else none)) H':=k
   refine⟨_,rfl,a,_,1,_,rfl,rfl,SqT.of ha5,rfl,_,rfl,a,_,3,_,rfl,rfl,SqT.of ha5,rfl,rfl,_,rfl,Zr (fun y=>Yl (hr7 _ _ (hr5 _ _ ?_))) (fun y=>?_)⟩
   ·have k2:=k2 _ S05
    rw[if_pos (.inl (by injection y))] at k2;exact k2
   refine⟨_,rfl,_,rfl,a,_,3,_,rfl,rfl,SqT.of ha5,rfl,q,fx,as,he,rfl,hl.sm S05,fun v H6 S6 hv=>?_⟩
   have k2:=k2 _ (S05.trans S6)
   cases e2:Zy (Zh as).1 he with
   | some x =>
    obtain⟨dd,hh⟩:=x
    rw[e2] at hv
    obtain⟨a2,rfl,ha2⟩:=hv
    rw[if_pos (.inr (by rw[e2];exact fun z=>by cases z))] at k2
    exact⟨rfl,_,rfl,Wb (fun _=>hr7 _ _ (hr5 _ _ k2)) (fun z=>by cases z)⟩
   | none =>
    rw[e2] at hv
    have hv:v = .non:=hv
    subst hv
    rw[if_neg (fun z=>z.elim (fun z=>y (by rw[z])) (fun z=>z e2))] at k2
    exact⟨rfl,_,rfl,Wb (fun z=>absurd rfl z) (fun _=>hn7 _ _ (hr5 _ _ k2))⟩
 have hnd:∀n he day,d ≠ .die n he day:=fun n he day e=>z (by rw[e];rfl)
 rw[Zup hnd] at k
 refine Wp fun D6 hn6 hr6=>?_
 refine⟨_,rfl,a,d,rfl,ha4,fun l2 H5 S5 fl2 kl2=>⟨l2,rfl,⟨_,SqL.of kl2⟩,?_⟩⟩
 have S05:=S4.trans S5
 refine Ux ((Yd d).map V.str) (fun i σ H'=>∃v4:Option V,σ = [some (.ref q),some (.ref a),some (.int (Yo d)),some (.ref ls),v4]/\Same H5 H'/\∀n∈(Yd d).take i,Wv (Zh as).1 n (Yo d)=none) ⟨none,rfl,Same.refl _,fun n hn=>by cases hn⟩ (fun i σ H' _ ⟨_,_,e,_⟩=>SqL.of (e _ _ kl2)) ?_ ?_
 ·rintro i v σ H' hv ⟨v4,rfl,S6,hno⟩
  rw[xG] at hv
  obtain⟨n,hn,rfl⟩:=xN.mp hv
  refine⟨_,rfl,_,rfl,_,rfl,q,fx,as,n,Yo d,rfl,hl.sm (S05.trans S6),fun H7 S7=>⟨_,rfl,?_⟩⟩
  refine Zg4 (fun y=>hr6 _ _ ?_) (fun y=>⟨_,rfl,S6.trans S7,fun m hm=>?_⟩)
  ·have k:=k _ ((S05.trans S6).trans S7)
   rw[Zoz (xF hn) y] at k;exact k
  ·rw[yI,hn] at hm
   rcases xM.mp hm with z | z
   ·exact hno m z
   ·cases xP.mp z
    exact if_neg (by rw[y];decide)
 ·rintro σ H' ⟨v4,rfl,S6,hno⟩
  rw[xA,yR] at hno
  have k:=k _ (S05.trans S6)
  rw[Zid hno] at k
  exact hn6 _ _ k
end
section
variable{P:Program}{w:World}{K:uFg}{mg:Str->Option Value}{base:Heap}{C CM:Addr}{c:Str->Addr}
def Ut:AD->Bool
 | .s (.come ..)=>true
 | _=>false
theorem Zjk(x:AD):(Ye x = "come")↔Ut x=true:=by
 cases x with
 | s d=>cases d<;>simp[Ye,Ut]<;>decide +kernel
 | c d day need o1 o2 f=>cases d<;>simp[Ye,Ut]<;>decide +kernel
def eTC(as:List AD):SD->Option Str
 | .come ..=>if (as.filter Ut).length < 40 then none else some ("TooMany" : Str)
 | _=>none
def eTB(as:List AD):SD->Option Str
 | .bring ..=>if (as.filter Yn).length < 40 then none else some ("TooMany" : Str)
 | _=>none
def Uu(as:List AD)(d:SD):Option Str:=(eTC as d).or (eTB as d)
def V2(as:List AD)(d:SD):Option Str:=(Wg (Zh as).1 (as.filter Yn).length d).or ((Vd as d).or (Uu as d))
def okS(o:Option Str):Prop:=∀x,o=some x->x≠("" : Str)
theorem okS.or{a b:Option Str}(h:okS a)(k:okS b):okS (a.or b):=fun x e=>by
 cases a with
 | none=>exact k x e
 | some y=>exact h x e
theorem okS.non:okS none:=fun x e=>by cases e
theorem okS.yes{y:Str}(h:y≠("" : Str)):okS (some y):=fun x e=>by cases e;exact h
theorem okS.ite{p:Prop} [Decidable p] {a b:Option Str}(h:okS a) (k:okS b):okS (if p then a else b):=by split<;>assumption
theorem okS.find{l:List Str}{f:Str->Option Str}(h:∀n,okS (f n)):okS (l.findSome? f):=fun x e=>by
 obtain⟨n,_,e⟩:=List.exists_of_findSome?_eq_some e
 exact h n x e
theorem okS.early(ds:List Deed)(nb:Nat)(d:SD):okS (Wg ds nb d):=by
 refine .or ?_ (.or (.ite .non (.yes (by decide +kernel))) (.or (.find fun n=>.ite (.yes (by decide +kernel)) .non) (.or ?_ ?_)))
 ·cases d<;>first | exact .ite (.yes (by decide +kernel)) .non | exact .non
 ·cases d<;>first | exact .ite .non (.yes (by decide +kernel)) | exact .non
 ·cases d<;>first | exact .ite .non (.yes (by decide +kernel)) | exact .non
theorem okS.late(as:List AD)(d:SD):okS (Vd as d):=by
 have a:∀n,okS (Wo (Zh as).1 n):=fun n=>.ite .non (.yes (by decide +kernel))
 have b:∀s dy,okS (eNy s dy):=fun s dy=>.ite (.yes (by decide +kernel)) .non
 have f:∀(l:List Str) dy,okS (l.findSome? fun n=>Wv (Zh as).1 n dy):=fun l dy=>.find fun n=>.ite (.yes (by decide +kernel)) .non
 cases d with
 | pen n=>exact a n
 | come n day wt=>exact(Zir (as:=as) (d:=.come n day wt) (fun n e=>by cases e)) ▸ .or (b _ _) .non
 | die n he day=>exact .or (b _ _) (.or (a n) (.ite (.yes (by decide +kernel)) .non))
 | _=>exact .or (b _ _) (f _ _)
theorem Uj{o:Option Str}(h:okS o):(Vj o = .str "")↔o=none:=by
 cases o with
 | none=>exact⟨fun _=>rfl,fun _=>rfl⟩
 | some x=>exact⟨fun z=>absurd (by injection z) (h x rfl),fun z=>by cases z⟩
inductive spDue (vs:List V) (H:Hp) (Q:VK) (z3:XK):Prop
 | mk (q a:Addr) (fx:List Addr) (as:List AD) (d:SD) (h0:vs = [.ref q,.ref a]) (h1:LAt H fx q (as.map adT)) (h2:H a=some (.tup (sdV d))) (h3:as.length<=1000) (h4:Zgm d) (h5:∀H',Same H H'->Q (Vj (V2 as d)) H')
abbrev Zll:Stmt:=top 75
theorem Zxp(Zgp:Has K mg "_law_due" Zll)(T:Txt mg)(Zxq:Fn P w K mg base "_law_early_due" ["_law_deeds", "_law_deed"] 3 spEarly)(Zxr:Fn P w K mg base "_law_late_due" ["_law_deeds", "_law_deed"] 3 spLate)(Za4:Fn P w K mg base "_law_bringings" ["_law_deeds"] 1 spBrs):Fn P w K mg base "_law_due" ["_law_deeds", "_law_deed"] 4 spDue:=by
 refine Zgp.fq ["_law_deeds", "_law_deed", "_law_due_here"] fun H vs Q E hr h=>?_
 obtain⟨q,a,fx,as,d,rfl,hl,ha,hal,hnm,k⟩:=h
 refine⟨rfl,_,(Zd (Z1 2 (Zw Zxq (Za (qvN 0) (Za (qvN 1) Zb))))
 (Zd (Zo (Zl Z4 (qvN 2) Zi (Zm _)) (Ze (Z1 2 (Zw Zxr (Za (qvN 0) (Za (qvN 1) Zb))))) Zq)
 (Zd (Zo (QW.pt (Vl (Zl Z4 (qvN 2) Zi (Zm _)) (Vl (Zl Z4 (Zj Zu (qvN 1) Zc (fun _ _=>rfl)) Zi (Zm _)) (V4 (Zl Uw (Z7 Wm T.len Yv (Za (Uy (locs:=["_law_one_here"]) (fr:=[]) ⟨rfl,by decide +kernel,by decide +kernel,by decide +kernel,by decide +kernel,by decide +kernel⟩ .nil rfl (Wt (qvN 0)) ⟨fun _ _ _ _ _ _=>by
  have cnd:(inN ["_law_one_here"] []).Nodup:=by decide +kernel
  exact⟨(Ua 0 cnd),(Zja (Zl Z4 (Zj Zeg (V9 0) Zc (fun _ _=>rfl)) Zi (Zm _))),(V9 0)⟩⟩) Zb)) Zc (Zm _)))))) (Ze (Z1 2 Zi)) Zq)
 (Zd (Zo (QW.pt (Vl (Zl Z4 (qvN 2) Zi (Zm _)) (Vl (Zl Z4 (Zj Zu (qvN 1) Zc (fun _ _=>rfl)) Zi (Zm _)) (V4 (Zl Uw (Z7 Wm T.len Yv (Za (Zw Za4 (Za (qvN 0) Zb)) Zb)) Zc (Zm _)))))) (Ze (Z1 2 Zi)) Zq)
 (Ze (Zx (qvN 2))))))),?_⟩
 have hz:(5000:Nat)<=sizeLine:=by decide
 have oe:=okS.early (Zh as).1 (as.filter Yn).length d
 have ol:=okS.late as d
 refine Yc fun D0 hn0=>?_
 refine⟨_,rfl,_,rfl,q,a,fx,as,d,rfl,hl,ha,hal,hnm,fun H1 S1=>hn0 _ _ ?_⟩
 refine Vr (fun σ H'=>σ = [some (.ref q),some (.ref a),some (Vj ((Wg (Zh as).1 (as.filter Yn).length d).or (Vd as d)))]/\Same H H') ?_ ?_
 rotate_left
 ·intro D1 hn1 _ _ _
  refine⟨_,rfl,rfl,_,rfl,Zr (fun z=>?_) (fun z=>hn1 _ _ ⟨?_,S1⟩)⟩
  ·have e:=(Uj oe).mp z
   refine⟨_,rfl,_,rfl,q,a,fx,as,d,rfl,hl.sm S1,S1 _ _ ha,hal,Ear.of e,fun H2 S2=>hn1 _ _ ⟨?_,S1.trans S2⟩⟩
   rw[e];rfl
  ·cases e:Wg (Zh as).1 (as.filter Yn).length d with
   | none=>exact absurd ((Uj oe).mpr e) (by rw[e] at z ⊢;exact z)
   | some x=>rfl
 rintro σ H2 ⟨rfl,S2⟩
 have oo:=oe.or ol
 unfold V2 at k
 rw[← yW] at k
 generalize (Wg (Zh as).1 (as.filter Yn).length d).or (Vd as d)=r at oo k
 obtain⟨us,hu,hur⟩:=hl.sm S2
 have hul:=hur.length
 rw[xA] at hul
 have ha2:=S2 _ _ ha
 have no:∀x:Option Str,r≠none->r.or x=r:=fun x h=>by
  cases r with
  | none=>exact absurd rfl h
  | some y=>rfl
 refine Vr (fun σ H'=>σ = [some (.ref q),some (.ref a),some (Vj (r.or (eTC as d)))]/\Same H H') ?_ ?_
 rotate_left
 ·intro D1 hn1 _ _ _
  refine⟨_,rfl,rfl,_,rfl,Zr (fun z=>?_) (fun z=>Z8 (hn1 _ _ ⟨?_,S2⟩))⟩
  ·have e:=(Uj oo).mp z
   subst e
   refine⟨_,rfl,a,_,0,_,rfl,rfl,SqT.of ha2,Vt d,rfl,_,rfl,Zr (fun z2=>?_) (fun z2=>Z8 (hn1 _ _ ⟨?_,S2⟩))⟩
   ·refine⟨_,rfl,q,rfl,⟨_,SqL.of hu⟩,?_⟩
    refine Zah (xs:=us) (fun i ys H'=>H2=H'/\ys.length=((as.take i).filter Ut).length) ⟨rfl,rfl⟩ (by lia) (fun i ys H' _ ⟨e,_⟩=>by rw[← e];exact SqL.of hu) (fun i ys H' ⟨_,e⟩=>by rw[e];exact yK (List.length_filter_le _ _) (by rw[xZ];lia)) ?_ ?_
    ·rintro i v ys H' hv ⟨rfl,e⟩ ls hls
     obtain⟨u,rfl⟩:=Zaa hls
     obtain⟨x0,hx0,re⟩:=hur.get hv
     rw[xG] at hx0
     obtain⟨x,hx,rfl⟩:=xN.mp hx0
     obtain⟨a1,us1,rfl,ha1,hw⟩:=Zds re
     have et:as.take (i+1)=as.take i ++ [x]:=by rw[yI,hx];rfl
     rw[et,zA]
     refine⟨⟨[_],rfl,rfl⟩,_,rfl,a1,_,0,.str (Ye x),rfl,rfl,SqT.of ha1,Wj hw,rfl,_,rfl,Zr (fun z=>⟨_,rfl,rfl,?_⟩) (fun z=>⟨rfl,?_⟩)⟩
     ·rw[xC,xC,e,List.filter_cons_of_pos ((Zjk x).mp (by injection z))];rfl
     ·rw[xC,e,zS (fun y=>z (by rw[(Zjk x).mpr y]))];rfl
    ·rintro ys H' ⟨rfl,e⟩ l hl1
     rw[hul,yR] at e
     have S3:=Same.new (o:=.lst ys) hl1
     have kl:(upd H2 l (.lst ys)) l=some (.lst ys):=Zg
     generalize (upd H2 l (.lst ys))=H3 at S3 kl ⊢
     refine⟨l,ys,rfl,.inl (SqL.of kl),_,_,rfl,rfl,_,rfl,Zr (fun z3=>hn1 _ _ ⟨?_,S2.trans S3⟩) (fun z3=>hn1 _ _ ⟨?_,S2.trans S3⟩)⟩
     ·obtain⟨n,day,wt,rfl⟩:=Zc9 z2
      have:eTC as (.come n day wt)=some ("TooMany" : Str):=if_neg (by lia)
      rw[this];rfl
     ·obtain⟨n,day,wt,rfl⟩:=Zc9 z2
      have:eTC as (.come n day wt)=none:=if_pos (by lia)
      rw[this];rfl
   ·have:eTC as d=none:=by
     cases d with
     | come n day wt=>exact absurd rfl z2
     | _=>rfl
    rw[this];rfl
  ·rw[no _ (fun e=>z ((Uj oo).mpr e))]
 rintro σ H3 ⟨rfl,S3⟩
 have o2:okS (r.or (eTC as d)):=oo.or (by cases d<;>first | exact .ite .non (.yes (by decide +kernel)) | exact .non)
 have ek:∀H',Same H H'->Q (Vj ((r.or (eTC as d)).or (eTB as d))) H':=fun H' S=>by
  have k:=k _ S
  unfold Uu at k
  rw[← yW] at k;exact k
 generalize r.or (eTC as d)=r2 at o2 ek
 have no2:∀x:Option Str,r2≠none->r2.or x=r2:=fun x h=>by
  cases r2 with
  | none=>exact absurd rfl h
  | some y=>rfl
 refine Yc fun D1 hn1=>?_
 have ha3:=S3 _ _ ha
 refine⟨_,rfl,rfl,_,rfl,Zr (fun z=>?_) (fun z=>Z8 (hn1 _ _ ⟨_,rfl,?_⟩))⟩
 ·have e:=(Uj o2).mp z
  subst e
  refine⟨_,rfl,a,_,0,_,rfl,rfl,SqT.of ha3,Vt d,rfl,_,rfl,Zr (fun z2=>?_) (fun z2=>Z8 (hn1 _ _ ⟨_,rfl,?_⟩))⟩
  ·refine⟨_,rfl,q,fx,as,rfl,hl.sm S3,hal,fun l H4 S4 ⟨ys,hy,hyr⟩=>?_⟩
   have hyl:=hyr.length
   rw[xA] at hyl
   have ek:=ek _ (S3.trans S4)
   refine⟨l,ys,rfl,.inl (SqL.of hy),_,_,rfl,rfl,_,rfl,?_⟩
   rw[hyl]
   refine Zr (fun z3=>hn1 _ _ ⟨_,rfl,?_⟩) (fun z3=>hn1 _ _ ⟨_,rfl,?_⟩)
   ·obtain⟨n,day,rfl⟩:=Ziq z2
    have:eTB as (.bring n day)=some ("TooMany" : Str):=if_neg (by lia)
    rw[this] at ek;exact ek
   ·obtain⟨n,day,rfl⟩:=Ziq z2
    have:eTB as (.bring n day)=none:=if_pos (by lia)
    rw[this] at ek;exact ek
  ·have ek:=ek _ S3
   have:eTB as d=none:=by
    cases d with
    | bring n day=>exact absurd rfl z2
    | _=>rfl
   rw[this] at ek;exact ek
 ·have ek:=ek _ S3
  rw[no2 _ (fun e=>z ((Uj o2).mpr e))] at ek;exact ek
end
section
variable{P:Program}{w:World}{K:uFg}{mg:Str->Option Value}{base:Heap}{C CM:Addr}{c:Str->Addr}
def okD:SD->Prop
 | .come n day wt=>okN n/\okI day/\okI wt
 | .rise n day wt=>okN n/\okI day/\okI wt
 | .die n he day=>okN n/\okN he/\okI day
 | .pen n=>okN n
 | .bring n day=>okN n/\okI day
 | .give i x y day=>okI i/\okN x/\okN y/\okI day
 | .pay x y many day=>okN x/\okN y/\okI many/\okI day
theorem LAt.x{s la q:Addr}{H H':Hp}{c:List D}(h:LAt H [] q c)(hs:SrcAt H s la)(k:SameX s H H')(n:q≠s):LAt H' [] q c:=by
 obtain⟨_,_,_,_,_,a,_⟩:=hs
 exact h.mono (fun o e=>k _ _ n e) (V7 (fun b u e=>k _ _ (fun z=>by rw[z,a] at e;cases e) e) (fun x hx=>by cases hx) fun _ z=>z)
theorem Zch{i:Int}(h : -1000000000<=i)(h':i<=1000000000):okI i:=by unfold okI;lia
structure Wl (H:Hp) (s la q nl:Addr) (ns:List Str) (as:List AD):Prop where
 sr:SrcAt H s la
 l:LAt H [] q (as.map adT)
 nm:H nl=some (.lst (ns.map V.str))
 n1:nl≠s
 n2:q≠s
 n0 : 0 < ns.length
 nz:ns.length<=1000
 al:as.length<=1000
 ok:∀n∈ns,okN n
theorem Wl.x{H H':Hp}{s la q nl:Addr}{ns:List Str}{as:List AD}(h:Wl H s la q nl ns as)(hs:SrcAt H' s la)(k:SameX s H H'):Wl H' s la q nl ns as :=
 ⟨hs,h.l.x h.sr k h.n2,k _ _ h.n1 h.nm,h.n1,h.n2,h.n0,h.nz,h.al,h.ok⟩
theorem Wl.same{H H':Hp}{s la q nl:Addr}{ns:List Str}{as:List AD}(h:Wl H s la q nl ns as)(k:Same H H'):Wl H' s la q nl ns as :=
 ⟨h.sr.keep k,h.l.sm k,k _ _ h.nm,h.n1,h.n2,h.n0,h.nz,h.al,h.ok⟩
inductive spPln (vs:List V) (H:Hp) (Q:VK) (z3:XK):Prop
 | mk (s la q nl:Addr) (ns:List Str) (as:List AD) (h0:vs = [.ref s,.ref q,.ref nl]) (h1:Wl H s la q nl ns as) (h2:∀(p:Addr)(d:SD)(H':Hp),okD d->H' p=some (.tup (sdV d))->SrcAt H' s la->SameX s H H'->Q (.ref p) H')
abbrev Zlm:Stmt:=top 76
theorem Zxs(Zgq:Has K mg "_law_plain_deed" Zlm)(T:Txt mg)(Yp:Fn P w K mg base "_law_next" ["_law_src_here", "_law_base"] 1 spNext)(Zln:Fn P w K mg base "_law_one" ["_law_src_here", "_law_names_here"] 2 spOne)(Za4:Fn P w K mg base "_law_bringings" ["_law_deeds"] 1 spBrs):Fn P w K mg base "_law_plain_deed" ["_law_src_here", "_law_deeds", "_law_names_here"] 3 spPln:=by
 refine Zgq.fq ["_law_src_here", "_law_deeds", "_law_names_here", "_law_word_here", "_law_day", "_law_name", "_law_other"] fun H vs Q E hr h=>?_
 obtain⟨s,la,q,nl,ns,as,rfl,U,k⟩:=h
 refine⟨rfl,_,(Zd (Z1 3 (Zj Yh (Z6 (Za Zi (Za Zi (Za Zi (Za Zi (Za Zi (Za Zi (Za Zi (Za Zi Zb))))))))) (Zw Yp (Za (qvN 0) (Za Zc Zb))) (fun _ _=>rfl)))
 (Zd (Z1 4 (Zw Yp (Za (qvN 0) (Za Zc Zb))))
 (Zd (Z1 5 (Zw Zln (Za (qvN 0) (Za (qvN 2) Zb))))
 (Zd (Z1 6 (Zw Zln (Za (qvN 0) (Za (qvN 2) Zb))))
 (Zd (Zo (Zl Zd6 (qvN 3) (Z6 (Za Zi (Za Zi Zb))) rfl) (Ze (Zx (Yw (Za (qvN 3) (Za (qvN 5) (Za (qvN 4) (Za (Z0 Wk Zc (Zw Yp (Za (qvN 0) (Za Zc Zb)))) Zb))))))) Zq)
 (Zd (Zo (Zl Z4 (qvN 3) Zi (Zm _)) (Ze (Zx (Yw (Za (qvN 3) (Za (qvN 5) (Za (qvN 4) (Za (qvN 6) Zb))))))) Zq)
 (Zd (Zo (Zl Z4 (qvN 3) Zi (Zm _)) (Ze (Zx (Yw (Za (qvN 3) (Za (qvN 5) Zb))))) Zq)
 (Zd (Zo (Zl Z4 (qvN 3) Zi (Zm _)) (Ze (Zx (Yw (Za (qvN 3) (Za (qvN 5) (Za (qvN 4) Zb)))))) Zq)
 (Zd (Zo (Zl Z4 (qvN 3) Zi (Zm _)) (Ze (Zx (Yw (Za (qvN 3) (Za (Zw Yp (Za (qvN 0) (Za (Z0 Wk Zc (Z7 Wm T.len Yv (Za (Zw Za4 (Za (qvN 1) Zb)) Zb))) Zb))) (Za (qvN 5) (Za (qvN 6) (Za (qvN 4) Zb)))))))) Zq)
 (Ze (Zx (Yw (Za (qvN 3) (Za (qvN 5) (Za (qvN 6) (Za (Z0 Wk Zc (Zw Yp (Za (qvN 0) (Za Zc Zb)))) (Za (qvN 4) Zb))))))))))))))))),?_⟩
 have hz:(5000:Nat)<=sizeLine:=by decide
 refine Yc fun D0 hn0=>?_
 refine⟨by show 8<=sizeLine;lia,fun l hl=>?_⟩
 have T1:=Same.new (o:=.lst [.str "come", .str "rise", .str "die", .str "penance", .str "bring", .str "give", .str "pay", .str "give"]) hl
 have k1:(upd H l (.lst [.str "come", .str "rise", .str "die", .str "penance", .str "bring", .str "give", .str "pay", .str "give"])) l=some (.lst [.str "come", .str "rise", .str "die", .str "penance", .str "bring", .str "give", .str "pay", .str "give"]):=Zg
 generalize (upd H l (.lst [.str "come", .str "rise", .str "die", .str "penance", .str "bring", .str "give", .str "pay", .str "give"]))=H1 at T1 k1 ⊢
 have U1:=U.same T1
 have nls:l≠s:=(U.sr.ne hl).1
 refine⟨_,rfl,s,la,8,rfl,U1.sr,by decide,by decide,fun j H2 j0 j1 hs2 sx2=>?_⟩
 have U2:=U1.x hs2 sx2
 have sx02:SameX s H H2:=T1.x.trans sx2
 obtain⟨wd,hwd,hwo⟩:∃wd:Str,atI [V.str "come", V.str "rise", V.str "die", V.str "penance", V.str "bring", V.str "give", V.str "pay", V.str "give"] j=some (.str wd)/\wd∈(["come", "rise", "die", "penance", "bring", "give", "pay"]:List Str):=by
  rcases(show j=0\/j=1\/j=2\/j=3\/j=4\/j=5\/j=6\/j=7 by lia) with rfl | rfl | rfl | rfl | rfl | rfl | rfl | rfl<;>exact⟨_,rfl,by decide +kernel⟩
 refine⟨l,_,_,.str wd,rfl,rfl,SqL.of (sx2 _ _ nls k1),hwd,hn0 _ _ ?_⟩
 refine Yc fun D1 hn1=>?_
 refine⟨_,rfl,s,la,24,rfl,U2.sr,by decide,by decide,fun day H3 y0 y1 hs3 sx3=>hn1 _ _ ?_⟩
 have U3:=U2.x hs3 sx3
 refine Yc fun D2 hn2=>?_
 refine⟨_,rfl,_,rfl,s,la,nl,ns,rfl,U3.sr,U3.nm,U.n1,U.n0,U.nz,fun n H4 mn hs4 sx4=>hn2 _ _ ?_⟩
 have U4:=U3.x hs4 sx4
 refine Yc fun D3 hn3=>?_
 refine⟨_,rfl,_,rfl,s,la,nl,ns,rfl,U4.sr,U4.nm,U.n1,U.n0,U.nz,fun m H5 mm hs5 sx5=>hn3 _ _ ?_⟩
 have U5:=U4.x hs5 sx5
 have sx05:SameX s H H5:=((sx02.trans sx3).trans sx4).trans sx5
 have on:=U.ok n mn
 have om:=U.ok m mm
 have oy:okI day:=Zch (by lia) (by lia)
 clear hn0 hn1 hn2 hn3
 have fin:∀{H':Hp}{p:Addr}{us:List V}(d:SD),sdV d=us->okD d->SrcAt H' s la->SameX s H H'->H' p=none->Q (.ref p) (upd H' p (.tup us)):=fun {H' p us} d e hd hs' sx' hp=>by
  subst e
  have T:=Same.new (o:=.tup (sdV d)) hp
  exact k p d _ hd Zg (hs'.keep T) (sx'.trans T.x)
 refine Wp fun D4 hn4 hr4=>?_
 refine⟨_,rfl,by show 2<=sizeLine;lia,fun l2 hl2=>?_⟩
 have T6:=Same.new (o:=.lst [.str "come", .str "rise"]) hl2
 have k6:(upd H5 l2 (.lst [.str "come", .str "rise"])) l2=some (.lst [.str "come", .str "rise"]):=Zg
 generalize (upd H5 l2 (.lst [.str "come", .str "rise"]))=H6 at T6 k6 ⊢
 have U6:=U5.same T6
 have sx06:SameX s H H6:=sx05.trans T6.x
 refine⟨l2,_,rfl,.inl (SqL.of k6),rfl,rfl,_,rfl,Zg4 (fun z=>?_) (fun z=>hn4 _ _ ?_)⟩
 ·refine⟨_,rfl,_,rfl,_,rfl,_,rfl,s,la,9,rfl,U6.sr,by decide,by decide,fun e H7 e0 e1 hs7 sx7=>?_⟩
  refine⟨_,_,rfl,rfl,by show 4<=sizeLine;lia,fun p hp=>hr4 _ _ ?_⟩
  have oe:okI (1+e):=Zch (by lia) (by lia)
  have:wd = "come" \/ wd = "rise" := by
   simp only[xE,yP,or_false] at hwo
   rcases hwo with rfl | rfl | rfl | rfl | rfl | rfl | rfl
   ·exact .inl rfl
   ·exact .inr rfl
   all_goals exact absurd z (by decide +kernel)
  rcases this with rfl | rfl
  ·exact fin (.come n day (1+e)) rfl ⟨on,oy,oe⟩ hs7 (sx06.trans sx7) hp
  ·exact fin (.rise n day (1+e)) rfl ⟨on,oy,oe⟩ hs7 (sx06.trans sx7) hp
 have hwo:wd∈(["die", "penance", "bring", "give", "pay"]:List Str):=by
  simp only[xE,yP,or_false] at hwo ⊢
  rcases hwo with rfl | rfl | hwo
  ·exact absurd z (by decide +kernel)
  ·exact absurd z (by decide +kernel)
  ·exact hwo
 refine Wp fun D5 hn5 hr5=>?_
 refine⟨_,rfl,rfl,_,rfl,Zr (fun z=>?_) (fun z=>hn5 _ _ ?_)⟩
 ·have e:wd = "die" := by injection z
  subst e
  exact⟨_,rfl,_,rfl,_,rfl,_,rfl,by show 4<=sizeLine;lia,fun p hp=>hr5 _ _ (fin (.die n m day) rfl ⟨on,om,oy⟩ U6.sr sx06 hp)⟩
 refine Wp fun D6 hn6 hr6=>?_
 refine⟨_,rfl,rfl,_,rfl,Zr (fun z=>?_) (fun z=>hn6 _ _ ?_)⟩
 ·have e:wd = "penance" := by injection z
  subst e
  exact⟨_,rfl,_,rfl,by show 2<=sizeLine;lia,fun p hp=>hr6 _ _ (fin (.pen n) rfl on U6.sr sx06 hp)⟩
 refine Wp fun D7 hn7 hr7=>?_
 refine⟨_,rfl,rfl,_,rfl,Zr (fun z=>?_) (fun z=>hn7 _ _ ?_)⟩
 ·have e:wd = "bring" := by injection z
  subst e
  exact⟨_,rfl,_,rfl,_,rfl,by show 3<=sizeLine;lia,fun p hp=>hr7 _ _ (fin (.bring n day) rfl ⟨on,oy⟩ U6.sr sx06 hp)⟩
 refine Wp fun D8 hn8 hr8=>?_
 refine⟨_,rfl,rfl,_,rfl,Zr (fun z=>?_) (fun z=>hn8 _ _ ?_)⟩
 ·have e:wd = "give" := by injection z
  subst e
  refine⟨_,rfl,_,rfl,_,rfl,q,[],as,rfl,U6.l,U.al,fun lb H7 S7 ⟨us,hu,hur⟩=>?_⟩
  have hul:=hur.length
  rw[xA] at hul
  have:=List.length_filter_le Yn as
  have al:=U.al
  refine⟨lb,us,rfl,.inl (SqL.of hu),_,_,rfl,rfl,s,la,_,rfl,U6.sr.keep S7,by lia,by lia,fun i H8 i0 i1 hs8 sx8=>?_⟩
  exact⟨_,rfl,_,rfl,_,rfl,by show 5<=sizeLine;lia,fun p hp=>hr8 _ _ (fin (.give i n m day) rfl ⟨Zch (by lia) (by lia),on,om,oy⟩ hs8 ((sx06.trans S7.x).trans sx8) hp)⟩
 have e:wd = "pay" := by
  simp only[xE,yP,or_false] at hwo
  rcases hwo with rfl | rfl | rfl | rfl | rfl
  all_goals first | rfl | (exfalso;first | exact ‹¬V.str "die" = V.str "die"› rfl | exact ‹¬V.str "penance" = V.str "penance"› rfl | exact ‹¬V.str "bring" = V.str "bring"› rfl | exact ‹¬V.str "give" = V.str "give"› rfl)
 subst e
 refine⟨_,rfl,_,rfl,_,rfl,_,rfl,s,la,9,rfl,U6.sr,by decide,by decide,fun e H7 e0 e1 hs7 sx7=>?_⟩
 exact⟨_,_,rfl,rfl,_,rfl,by show 5<=sizeLine;lia,fun p hp=>fin (.pay n m (1+e) day) rfl ⟨on,om,Zch (by lia) (by lia),oy⟩ hs7 (sx06.trans sx7) hp⟩
end
section
variable{P:Program}{w:World}{K:uFg}{mg:Str->Option Value}{base:Heap}{C CM:Addr}{c:Str->Addr}
def Zmm:SD->Nat->Str->SD
 | .come _ day wt,_,s=>.come s day wt
 | .rise _ day wt,_,s=>.rise s day wt
 | .die n he day,j,s=>if j=1 then .die s he day else .die n s day
 | .pen _,_,s=>.pen s
 | .bring _ day,_,s=>.bring s day
 | .give i x y day,j,s=>if j=2 then .give i s y day else .give i x s day
 | .pay x y m day,j,s=>if j=1 then .pay s y m day else .pay x s m day
def Zmn:SD->Nat->Int->SD
 | .come n day wt,j,i=>if j=2 then .come n i wt else .come n day i
 | .rise n day wt,j,i=>if j=2 then .rise n i wt else .rise n day i
 | .die n he _,_,i=>.die n he i
 | .pen n,_,_=>.pen n
 | .bring n _,_,i=>.bring n i
 | .give k x y day,j,i=>if j=1 then .give i x y day else .give k x y i
 | .pay x y m day,j,i=>if j=3 then .pay x y i day else .pay x y m i
theorem Zsu{d:SD}{j:Nat}{x s:Str}(h:(sdV d)[j]? = some (.str x))(hj : 1<=j)(o:okD d)(os:okN s):sdV (Zmm d j s)=(sdV d).set j (.str s)/\okD (Zmm d j s):=by
 cases d<;>(rcases j with _ | _ | _ | _ | _ | j)<;>first | lia | (cases h;done) | (obtain⟨o1,o2,o3,o4⟩:=o;exact⟨rfl,by first | exact⟨os,o2,o3,o4⟩ | exact⟨o1,os,o3,o4⟩ | exact⟨o1,o2,os,o4⟩⟩) | (obtain⟨o1,o2,o3⟩:=o;exact⟨rfl,by first | exact⟨os,o2,o3⟩ | exact⟨o1,os,o3⟩⟩) | (obtain⟨o1,o2⟩:=o;exact⟨rfl,os,o2⟩) | exact⟨rfl,os⟩
theorem Zsv{d:SD}{j:Nat}{x i:Int}(h:(sdV d)[j]? = some (.int x))(hj : 1<=j)(o:okD d)(oi:okI i):sdV (Zmn d j i)=(sdV d).set j (.int i)/\okD (Zmn d j i):=by
 cases d<;>(rcases j with _ | _ | _ | _ | _ | j)<;>first | lia | (cases h;done) | (obtain⟨o1,o2,o3,o4⟩:=o;exact⟨rfl,by first | exact⟨oi,o2,o3,o4⟩ | exact⟨o1,o2,oi,o4⟩ | exact⟨o1,o2,o3,oi⟩⟩) | (obtain⟨o1,o2,o3⟩:=o;exact⟨rfl,by first | exact⟨o1,oi,o3⟩ | exact⟨o1,o2,oi⟩⟩) | (obtain⟨o1,o2⟩:=o;exact⟨rfl,o1,oi⟩)
theorem Zsw(d:SD):∀v∈sdV d,(∃x,v = .str x)\/∃i,v = .int i:=by
 cases d<;>simp[sdV]
theorem Zsx(d:SD) : 2<=(sdV d).length/\(sdV d).length<=5:=by cases d<;>exact⟨by simp[sdV],by simp[sdV]⟩
theorem Zdw{n d j:Nat}(h:j<=n):HT.sIx n d (some (j:Int))=j:=by
 unfold HT.sIx
 dsimp only
 rw[if_neg (by lia),yV];lia
theorem Zuq{xs:List V}{j:Nat}(h:j<=xs.length):Ww xs none (some (j:Int))=xs.take j:=by
 unfold Ww;rw[Zdw h,HT.sIx_none];rfl
theorem Zur{xs:List V}{j:Nat}(h:j<=xs.length):Ww xs (some (j:Int)) none=xs.drop j:=by
 unfold Ww;rw[Zdw h,HT.sIx_none,yY (by rw[zP];lia)]
def Prt(v u:V):Prop:=(∃x s,v = .str x/\u = .str s/\okN s)\/∃x i,v = .int x/\u = .int i/\okI i
inductive spWild (vs:List V) (H:Hp) (Q:VK) (z3:XK):Prop
 | mk (s la q nl a:Addr) (ns:List Str) (as:List AD) (d:SD) (h0:vs = [.ref s,.ref nl,.ref a]) (h1:Wl H s la q nl ns as) (h2:H a=some (.tup (sdV d))) (h3:okD d) (h4:∀(p:Addr)(d:SD)(H':Hp),okD d->H' p=some (.tup (sdV d))->SrcAt H' s la->SameX s H H'->Q (.ref p) H')
abbrev Zlo:Stmt:=top 80
theorem Zxt(Zgr:Has K mg "_law_wild" Zlo)(T:Txt mg)(Yp:Fn P w K mg base "_law_next" ["_law_src_here", "_law_base"] 1 spNext):Fn P w K mg base "_law_wild" ["_law_src_here", "_law_names_here", "_law_deed"] 2 spWild:=by
 refine Zgr.fq ["_law_src_here", "_law_names_here", "_law_deed", "_law_at", "_law_part", "_law_odd"] fun H vs Q E hr h=>?_
 obtain⟨s,la,q,nl,a,ns,as,d,rfl,U,ha,hd,k⟩:=h
 refine⟨rfl,_,(Zd (Z1 3 (Z0 Wk Zc (Zw Yp (Za (qvN 0) (Za (Z0 Zi6 (Z7 Wm T.len Yv (Za (qvN 2) Zb)) Zc) Zb)))))
 (Zd (Z1 4 (Zj Zu (qvN 2) (qvN 3) (fun _ _=>rfl)))
 (Zd (Zo (V5 (Z7 Zd2 T.isinstance Vh (Za (qvN 4) (Za (Zc3 (v:=.ty "list") T.list Zjs rfl) Zb)))) (Ze Wy) (Ze (Zo (V5 (Z7 Zd2 T.isinstance Vh (Za (qvN 4) (Za (Zc3 (v:=.ty "str") T.str Zvj rfl) Zb)))) (Ze (Z1 4 (Zj Yh (Z6 (Za Zi (Za Zi (Za Zi (Za (Zj Yh (qvN 1) Zc (fun _ _=>rfl)) (Za (Zj Yh (qvN 1) (Ze4 Zeo Zc) (fun _ _=>rfl)) (Za Zi Zb))))))) (Zw Yp (Za (qvN 0) (Za Zc Zb))) (fun _ _=>rfl)))) (Zd (Z1 5 (Z6 (Za (Ze4 Zeo Zc) (Za Zc (Za Zc (Za Zc (Za Zc (Za Zc (Za Zc (Za Zc (Za Zc (Za Zc (Za Zc (Za Zc (Za (Z0 Zen Zc Zc) (Za (Ze4 Zeo (Z0 Zen Zc Zc)) Zb))))))))))))))))
 (Ze (Z1 4 (Zj Yh (qvN 5) (Zw Yp (Za (qvN 0) (Za Zc Zb))) (fun _ _=>rfl))))))))
 (Ze (Zx (Z0 Zij (Z0 Zij (Zan Zi9 (qvN 2) Zal (Zam (qvN 3))) (Yw (Za (qvN 4) Zb))) (Zan Zi9 (qvN 2) (Zam (Z0 Wk (qvN 3) Zc)) Zal))))))),?_⟩
 have hz:(5000:Nat)<=sizeLine:=by decide
 obtain⟨l2,l5⟩:=Zsx d
 obtain⟨_,_,_,_,_,hsl,_⟩:=id U.sr
 have nas:a≠s:=fun z=>by rw[z,hsl] at ha;cases ha
 refine Yc fun D0 hn0=>?_
 refine⟨_,rfl,_,rfl,a,_,rfl,.inr (SqT.of ha),_,_,rfl,rfl,s,la,_,rfl,U.sr,by lia,by lia,fun j0 H1 j00 j01 hs1 sx1=>?_⟩
 obtain⟨i,rfl⟩:=yJ j00
 obtain⟨j,ej⟩:∃j:Nat,(1:Int)+(i:Int)=(j:Int):=⟨i+1,by lia⟩
 have jl : 1<=j/\j < (sdV d).length:=by lia
 refine⟨_,_,rfl,rfl,hn0 _ _ ?_⟩
 dsimp only
 rw[ej]
 have U1:=U.x hs1 sx1
 have ha1:=sx1 _ _ nas ha
 obtain⟨v,hv⟩:∃v,(sdV d)[j]? = some v:=⟨_,xD jl.2⟩
 refine Yc fun D1 hn1=>?_
 refine⟨_,rfl,_,rfl,a,_,j,v,rfl,rfl,SqT.of ha1,Wj hv,hn1 _ _ ?_⟩
 refine Vr (fun σ H'=>∃(v5:Option V)(u:V),σ = [some (.ref s),some (.ref nl),some (.ref a),some (.int j),some u,v5]/\SrcAt H' s la/\SameX s H H'/\Prt v u) ?_ ?_
 rotate_left
 ·intro D2 hn2 _ _ _
  obtain⟨m0,ix0,i0m⟩:∃m,atI (ns.map V.str) 0=some (.str m)/\m∈ns:=by
   have e:=xD U.n0
   exact⟨_,Wj (j:=0) (by rw[xG,e];rfl),xF e⟩
  obtain⟨m1,ix1,i1m⟩:∃m,atI (ns.map V.str) (-1)=some (.str m)/\m∈ns:=by
   have h0:=U.n0
   have e:ns[ns.length - 1]? = some (ns[ns.length - 1]'(by lia)):=xD (by lia)
   refine⟨_,?_,xF e⟩
   unfold atI
   have ei:ixN ns.length (-1)=some (ns.length - 1):=by
    unfold ixN
    rw[if_neg (by lia),if_pos (by lia)]
    congr 1;lia
   rw[xA,ei]
   show (ns.map V.str)[ns.length - 1]? = _
   rw[xG,e];rfl
  rcases Zsw d v (xF hv) with⟨x,rfl⟩ | ⟨x,rfl⟩
  ·obtain⟨t1,a1,b1⟩:=isi (K:=K) (H:=H1) (d:=.str x) (v:=.str x) rfl "list" (by decide)
   obtain⟨t2,a2,b2⟩:=isi (K:=K) (H:=H1) (d:=.str x) (v:=.str x) rfl "str" (by decide)
   refine⟨_,rfl,_, "list", t1,_,rfl,a1,b1,_,rfl,Z8 ⟨_,rfl,_, "str", t2,_,rfl,a2,b2,_,rfl,Yl ?_⟩⟩
   refine⟨_,rfl,nl,_,0,_,rfl,rfl,SqL.of U1.nm,ix0,_,rfl,1,rfl,nl,_,-1,_,rfl,rfl,SqL.of U1.nm,ix1,by show 6<=sizeLine;lia,fun l hl=>?_⟩
   have S:=Same.new (o:=.lst [.str "", .str "Ann", .str "nobody", .str m0,.str m1,.str "abcdefghijklm"]) hl
   have kl:(upd H1 l (.lst [.str "", .str "Ann", .str "nobody", .str m0,.str m1,.str "abcdefghijklm"])) l=some (.lst [.str "", .str "Ann", .str "nobody", .str m0,.str m1,.str "abcdefghijklm"]):=Zg
   have nls:l≠s:=(U1.sr.ne hl).1
   generalize (upd H1 l (.lst [.str "", .str "Ann", .str "nobody", .str m0,.str m1,.str "abcdefghijklm"]))=H2 at S kl ⊢
   refine⟨_,rfl,s,la,6,rfl,U1.sr.keep S,by decide,by decide,fun i6 H3 g0 g1 hs3 sx3=>?_⟩
   obtain⟨t,ht,ot⟩:∃t:Str,atI [V.str "", V.str "Ann", V.str "nobody", V.str m0,V.str m1,V.str "abcdefghijklm"] i6=some (.str t)/\okN t:=by
    rcases(show i6=0\/i6=1\/i6=2\/i6=3\/i6=4\/i6=5 by lia) with rfl | rfl | rfl | rfl | rfl | rfl
    ·exact⟨_,rfl,by unfold okN;decide +kernel⟩
    ·exact⟨_,rfl,by unfold okN;decide +kernel⟩
    ·exact⟨_,rfl,by unfold okN;decide +kernel⟩
    ·exact⟨_,rfl,U.ok _ i0m⟩
    ·exact⟨_,rfl,U.ok _ i1m⟩
    ·exact⟨_,rfl,by unfold okN;decide +kernel⟩
   exact⟨l,_,_,_,rfl,rfl,SqL.of (sx3 _ _ nls kl),ht,hn2 _ _ ⟨_,_,rfl,hs3,(sx1.trans S.x).trans sx3,.inl ⟨x,t,rfl,rfl,ot⟩⟩⟩
  ·obtain⟨t1,a1,b1⟩:=isi (K:=K) (H:=H1) (d:=.int x) (v:=.int x) rfl "list" (by decide)
   obtain⟨t2,a2,b2⟩:=isi (K:=K) (H:=H1) (d:=.int x) (v:=.int x) rfl "str" (by decide)
   refine⟨_,rfl,_, "list", t1,_,rfl,a1,b1,_,rfl,Z8 ⟨_,rfl,_, "str", t2,_,rfl,a2,b2,_,rfl,Z8 ?_⟩⟩
   refine Yc fun D3 hn3=>?_
   refine⟨1,rfl,_,_,rfl,rfl,⟨by decide,by decide,by decide⟩,_,_,rfl,rfl,⟨by decide,by decide,by decide⟩,_,rfl,by show 14<=sizeLine;lia,fun l hl=>?_⟩
   have nls:l≠s:=(U1.sr.ne hl).1
   refine hn3 _ _ ?_
   have S:=Same.new (o:=.lst [.int (-1),.int 0,.int 1,.int 2,.int 1000,.int 1001,.int 9999,.int 10000,.int 12000,.int 12001,.int 1000000,.int 1000001,.int (10 ^ Int.toNat 17),.int (-10 ^ Int.toNat 17)]) hl
   have kl:(upd H1 l (.lst [.int (-1),.int 0,.int 1,.int 2,.int 1000,.int 1001,.int 9999,.int 10000,.int 12000,.int 12001,.int 1000000,.int 1000001,.int (10 ^ Int.toNat 17),.int (-10 ^ Int.toNat 17)])) l=some (.lst [.int (-1),.int 0,.int 1,.int 2,.int 1000,.int 1001,.int 9999,.int 10000,.int 12000,.int 12001,.int 1000000,.int 1000001,.int (10 ^ Int.toNat 17),.int (-10 ^ Int.toNat 17)]):=Zg
   generalize (upd H1 l (.lst [.int (-1),.int 0,.int 1,.int 2,.int 1000,.int 1001,.int 9999,.int 10000,.int 12000,.int 12001,.int 1000000,.int 1000001,.int (10 ^ Int.toNat 17),.int (-10 ^ Int.toNat 17)]))=H2 at S kl ⊢
   refine⟨_,rfl,_,rfl,s,la,14,rfl,U1.sr.keep S,by decide,by decide,fun i6 H3 g0 g1 hs3 sx3=>?_⟩
   obtain⟨t,ht,ot⟩:∃t:Int,atI [V.int (-1),.int 0,.int 1,.int 2,.int 1000,.int 1001,.int 9999,.int 10000,.int 12000,.int 12001,.int 1000000,.int 1000001,.int (10 ^ Int.toNat 17),.int (-10 ^ Int.toNat 17)] i6=some (.int t)/\okI t:=by
    rcases(show i6=0\/i6=1\/i6=2\/i6=3\/i6=4\/i6=5\/i6=6\/i6=7\/i6=8\/i6=9\/i6=10\/i6=11\/i6=12\/i6=13 by lia) with rfl | rfl | rfl | rfl | rfl | rfl | rfl | rfl | rfl | rfl | rfl | rfl | rfl | rfl<;>exact⟨_,rfl,by unfold okI;decide +kernel⟩
   exact⟨l,_,_,_,rfl,rfl,SqL.of (sx3 _ _ nls kl),ht,hn2 _ _ ⟨_,_,rfl,hs3,(sx1.trans S.x).trans sx3,.inr ⟨x,t,rfl,rfl,ot⟩⟩⟩
 rintro σ H2 ⟨v5,u,rfl,hs2,sx2,pr⟩
 have ha2:=sx2 _ _ nas ha
 obtain⟨d',e',o'⟩:∃d',sdV d'=(sdV d).set j u/\okD d':=by
  rcases pr with⟨x,t,rfl,rfl,ot⟩ | ⟨x,t,rfl,rfl,ot⟩
  ·exact⟨_,Zsu hv jl.1 hd ot⟩
  ·exact⟨_,Zsv hv jl.1 hd ot⟩
 have es:sdV d'=(sdV d).take j ++ [u]++(sdV d).drop (j+1):=by
  rw[e',List.set_eq_take_append_cons_drop,if_pos jl.2,zH];rfl
 have jle:j<=(sdV d).length:=by lia
 have fin:∀{H':Hp}{p:Addr},H' p=some (.tup ((sdV d).take j ++ [u]++(sdV d).drop (j+1)))->SrcAt H' s la->SameX s H H'->Q (.ref p) H':=fun hp hs' sx'=>k _ d' _ o' (by rw[es];exact hp) hs' sx'
 refine⟨_,rfl,_,rfl,j,rfl,a,sdV d,rfl,SqT.of ha2,?_,fun p1 hp1=>?_⟩
 ·rw[Zdw jle,HT.sIx_none];lia
 rw[Zuq jle]
 have S3:=Same.new (o:=.tup ((sdV d).take j)) hp1
 have k3:(upd H2 p1 (.tup ((sdV d).take j))) p1=some (.tup ((sdV d).take j)):=Zg
 generalize (upd H2 p1 (.tup ((sdV d).take j)))=H3 at S3 k3 ⊢
 refine⟨_,rfl,by show 1<=sizeLine;lia,fun p2 hp2=>?_⟩
 have S4:=Same.new (o:=.tup [u]) hp2
 have k4:(upd H3 p2 (.tup [u])) p2=some (.tup [u]):=Zg
 generalize (upd H3 p2 (.tup [u]))=H4 at S4 k4 ⊢
 have lt:((sdV d).take j).length=j:=by rw[xZ];lia
 refine⟨p1,p2,_,_,rfl,rfl,SqT.of (S4 _ _ k3),SqT.of k4,(fun z=>by rw[z] at lt;simp at lt;lia),by rw[lt];show j+1<=sizeLine;lia,(fun z=>by cases z),fun _ p3 hp3=>?_⟩
 have S5:=Same.new (o:=.tup ((sdV d).take j ++ [u])) hp3
 have k5:(upd H4 p3 (.tup ((sdV d).take j ++ [u]))) p3=some (.tup ((sdV d).take j ++ [u])):=Zg
 generalize (upd H4 p3 (.tup ((sdV d).take j ++ [u])))=H5 at S5 k5 ⊢
 have S25:=(S3.trans S4).trans S5
 have jle2:j+1<=(sdV d).length:=by lia
 refine⟨_,rfl,_,rfl,_,_,rfl,rfl,((j+1:Nat):Int),by rw[show ((j:Int)+1)=((j+1:Nat):Int) by lia],a,sdV d,rfl,SqT.of (S25 _ _ ha2),?_,fun p4 hp4=>?_⟩
 ·rw[Zdw jle2,HT.sIx_none];lia
 rw[Zur jle2]
 have S6:=Same.new (o:=.tup ((sdV d).drop (j+1))) hp4
 have k6:(upd H5 p4 (.tup ((sdV d).drop (j+1)))) p4=some (.tup ((sdV d).drop (j+1))):=Zg
 generalize (upd H5 p4 (.tup ((sdV d).drop (j+1))))=H6 at S6 k6 ⊢
 have S26:=S25.trans S6
 have hs6:=hs2.keep S26
 have sx6:SameX s H H6:=sx2.trans S26.x
 refine⟨p3,p4,_,_,rfl,rfl,SqT.of (S6 _ _ k5),SqT.of k6,by simp,by rw[xC,lt,zP];show j+1+_<=sizeLine;lia,fun z=>fin (by rw[z,xR];exact S6 _ _ k5) hs6 sx6,fun _ p5 hp5=>?_⟩
 have S7:=Same.new (o:=.tup ((sdV d).take j ++ [u]++(sdV d).drop (j+1))) hp5
 exact fin Zg (hs6.keep S7) (sx6.trans S7.x)
end
section
variable{P:Program}{w:World}{K:uFg}{mg:Str->Option Value}{base:Heap}{C CM:Addr}{c:Str->Addr}
theorem Znb:bootBuiltins "ValueError" = some (.type "ValueError"):=by decide +kernel
abbrev ns9:List Str:=["NoName", "NoMeasure", "Unknown", "Taken", "NoThing", "NotYet", "Dead", "NoHeir", "TooMany"]
def Zhb:Option Str->List Bool
 | none=>[]
 | some x=>ns9.map (fun y=>decide (x=y))++[true]
def stB(ds:List Deed)(m:Mo)(d:SD):List Deed×Mo:=if eSD ds m d=none then (sdF ds d,m.sd d) else (ds,m)
inductive spKnds (C CM:Addr) (vs:List V) (H:Hp) (Q:VK) (z3:XK):Prop
 | mk (p:Addr) (ds:List Deed) (m:Mo) (O:Addr->Prop) (a:Addr) (d:SD) (h0:vs = [.ref p,.ref a]) (h1:MSt C CM H p ds m O) (h2:H a=some (.tup (sdV d))) (h3:Zha ds m d) (h4:(∀x,eSD ds m d=some x->x∈errs)) (h5:∀(O':Addr->Prop)(H':Hp)(l:Addr),MSt C CM H' p (stB ds m d).1 (stB ds m d).2 O'->Frm O H O' H'->H' l=some (.lst ((Zhb (eSD ds m d)).map V.bl))->Q (.ref l) H')
theorem Frm.out{O O':Addr->Prop}{H H1 H':Hp}(s:Same H H1)(f:Frm O H1 O' H'):Frm O H O' H':=⟨fun b o e n=>f.1 _ _ (s _ _ e) n,fun b hb=>(f.2 b hb).imp id fun e=>by
 cases z:H b with
 | none=>rfl
 | some o=>rw[s _ _ z] at e;cases e⟩
abbrev Zlp:Stmt:=top 77
theorem Zxu(Zgs:Has K mg "_law_kinds" Zlp)(T:Txt mg)(er:Er K mg c errs)(Zxv:FnX P w K mg base "done" 8 (spDoneS C CM c)):Fn P w K mg base "_law_kinds" ["_law_moot", "_law_deed"] 9 (spKnds C CM):=by
 refine Zgs.f0 ["_law_moot", "_law_deed", "_law_kinds_here", "e"] fun H vs Q E hr h=>?_
 obtain⟨p,ds,m,O,a,d,rfl,W,ha,hd,hx,k⟩:=h
 refine⟨rfl,_,(Zee (QS.q0 (Z1 2 (Z6 Zb)))
 (Zee (Zue Zjz (fun _ _ hx=>(Ze (Zt (Vm hx Zxv (Za (qvN 0) (Za (qvN 1) Zb))))))
 (Zvr 3 Zjz (er.m) (fun a C o hc=>(Zd (Z1 2 (Z6 (Za (Z7 (Uc hc) T.isinstance Vh (Za (qvN 3) (Za (Yu (v:=.ref (c "NoName")) (er.g "NoName" (by decide +kernel)) rfl) Zb))) (Za (Z7 (Uc hc) T.isinstance Vh (Za (qvN 3) (Za (Yu (v:=.ref (c "NoMeasure")) (er.g "NoMeasure" (by decide +kernel)) rfl) Zb))) (Za (Z7 (Uc hc) T.isinstance Vh (Za (qvN 3) (Za (Yu (v:=.ref (c "Unknown")) (er.g "Unknown" (by decide +kernel)) rfl) Zb))) (Za (Z7 (Uc hc) T.isinstance Vh (Za (qvN 3) (Za (Yu (v:=.ref (c "Taken")) (er.g "Taken" (by decide +kernel)) rfl) Zb))) Zb))))))
 (Zd (Z1 2 (Z0 Zao (qvN 2) (Z6 (Za (Z7 (Uc hc) T.isinstance Vh (Za (qvN 3) (Za (Yu (v:=.ref (c "NoThing")) (er.g "NoThing" (by decide +kernel)) rfl) Zb))) (Za (Z7 (Uc hc) T.isinstance Vh (Za (qvN 3) (Za (Yu (v:=.ref (c "NotYet")) (er.g "NotYet" (by decide +kernel)) rfl) Zb))) (Za (Z7 (Uc hc) T.isinstance Vh (Za (qvN 3) (Za (Yu (v:=.ref (c "Dead")) (er.g "Dead" (by decide +kernel)) rfl) Zb))) Zb))))))
 (Ze (Z1 2 (Z0 Zao (qvN 2) (Z6 (Za (Z7 (Uc hc) T.isinstance Vh (Za (qvN 3) (Za (Yu (v:=.ref (c "NoHeir")) (er.g "NoHeir" (by decide +kernel)) rfl) Zb))) (Za (Z7 (Uc hc) T.isinstance Vh (Za (qvN 3) (Za (Yu (v:=.ref (c "TooMany")) (er.g "TooMany" (by decide +kernel)) rfl) Zb))) (Za (Z7 (Uc hc) T.isinstance Vh (Za (qvN 3) (Za (Zc3 (v:=.ty "ValueError") T.ValueError Znb rfl) Zb))) Zb)))))))))) Zud))
 (Zee (QS.q0 (Zx (qvN 2)))
 (QSs.q0 Zq)))),?_⟩
 have hz:(20:Nat)<=sizeLine:=by decide
 refine Yc fun D0 hn0=>?_
 refine⟨by show 0<=sizeLine;lia,fun l hl=>hn0 _ _ ?_⟩
 have s0:=Same.new (o:=.lst []) hl
 have hl0:(upd H l (.lst [])) l=some (.lst []):=Zg
 generalize (upd H l (.lst []))=H1 at s0 hl0 ⊢
 have W1:=W.same s0
 have no:¬O l:=W.out hl
 refine⟨_,rfl,_,rfl,p,ds,m,O,a,d,rfl,W1,s0 _ _ ha,hd,?_⟩
 cases e:eSD ds m d with
 | none =>
  have eb:stB ds m d=(sdF ds d,m.sd d):=if_pos e
  rw[e,eb] at k
  exact fun O' H' W' F'=>⟨_,rfl,k O' H' l W' (Frm.out s0 F') (F'.1 _ _ hl0 no)⟩
 | some x =>
  have eb:stB ds m d=(ds,m):=if_neg (by rw[e];exact fun z=>by cases z)
  rw[e,eb] at k
  have hm:=hx x e
  refine fun H2 S2=>⟨_,rfl,true,er.e _ hm,Yl fun ae=>?_⟩
  refine Yc fun D1 hn1=>?_
  refine⟨_,rfl,er.k _ hm,_,.inl ⟨_,rfl,er.i _ hm _ (by decide +kernel)⟩,_,rfl,er.k _ hm,_,.inl ⟨_,rfl,er.i _ hm _ (by decide +kernel)⟩,_,rfl,er.k _ hm,_,.inl ⟨_,rfl,er.i _ hm _ (by decide +kernel)⟩,_,rfl,er.k _ hm,_,.inl ⟨_,rfl,er.i _ hm _ (by decide +kernel)⟩,by show 4<=sizeLine;lia,fun l1 hl1=>hn1 _ _ ?_⟩
  have S3:=Same.new (o:=.lst [.bl (decide (x = "NoName")),.bl (decide (x = "NoMeasure")),.bl (decide (x = "Unknown")),.bl (decide (x = "Taken"))]) hl1
  have k3:(upd H2 l1 (.lst [.bl (decide (x = "NoName")),.bl (decide (x = "NoMeasure")),.bl (decide (x = "Unknown")),.bl (decide (x = "Taken"))])) l1=some (.lst [.bl (decide (x = "NoName")),.bl (decide (x = "NoMeasure")),.bl (decide (x = "Unknown")),.bl (decide (x = "Taken"))]):=Zg
  generalize (upd H2 l1 (.lst [.bl (decide (x = "NoName")),.bl (decide (x = "NoMeasure")),.bl (decide (x = "Unknown")),.bl (decide (x = "Taken"))]))=H3 at S3 k3 ⊢
  refine Yc fun D2 hn2=>?_
  refine⟨_,rfl,_,rfl,er.k _ hm,_,.inl ⟨_,rfl,er.i _ hm _ (by decide +kernel)⟩,_,rfl,er.k _ hm,_,.inl ⟨_,rfl,er.i _ hm _ (by decide +kernel)⟩,_,rfl,er.k _ hm,_,.inl ⟨_,rfl,er.i _ hm _ (by decide +kernel)⟩,by show 3<=sizeLine;lia,fun l2 hl2=>?_⟩
  have S4:=Same.new (o:=.lst [.bl (decide (x = "NoThing")),.bl (decide (x = "NotYet")),.bl (decide (x = "Dead"))]) hl2
  have k4:(upd H3 l2 (.lst [.bl (decide (x = "NoThing")),.bl (decide (x = "NotYet")),.bl (decide (x = "Dead"))])) l2=some (.lst [.bl (decide (x = "NoThing")),.bl (decide (x = "NotYet")),.bl (decide (x = "Dead"))]):=Zg
  generalize (upd H3 l2 (.lst [.bl (decide (x = "NoThing")),.bl (decide (x = "NotYet")),.bl (decide (x = "Dead"))]))=H4 at S4 k4 ⊢
  refine⟨l1,l2,_,_,rfl,rfl,S4 _ _ k3,k4,by show 4+3<=sizeLine;lia,fun l3 hl3=>hn2 _ _ ?_⟩
  have S5:=Same.new (o:=.lst ([.bl (decide (x = "NoName")),.bl (decide (x = "NoMeasure")),.bl (decide (x = "Unknown")),.bl (decide (x = "Taken"))] ++ [.bl (decide (x = "NoThing")),.bl (decide (x = "NotYet")),.bl (decide (x = "Dead"))])) hl3
  have k5:(upd H4 l3 (.lst ([.bl (decide (x = "NoName")),.bl (decide (x = "NoMeasure")),.bl (decide (x = "Unknown")),.bl (decide (x = "Taken"))] ++ [.bl (decide (x = "NoThing")),.bl (decide (x = "NotYet")),.bl (decide (x = "Dead"))]))) l3=some (.lst ([.bl (decide (x = "NoName")),.bl (decide (x = "NoMeasure")),.bl (decide (x = "Unknown")),.bl (decide (x = "Taken"))] ++ [.bl (decide (x = "NoThing")),.bl (decide (x = "NotYet")),.bl (decide (x = "Dead"))])):=Zg
  generalize (upd H4 l3 (.lst ([.bl (decide (x = "NoName")),.bl (decide (x = "NoMeasure")),.bl (decide (x = "Unknown")),.bl (decide (x = "Taken"))] ++ [.bl (decide (x = "NoThing")),.bl (decide (x = "NotYet")),.bl (decide (x = "Dead"))])))=H5 at S5 k5 ⊢
  refine⟨_,rfl,_,rfl,er.k _ hm,_,.inl ⟨_,rfl,er.i _ hm _ (by decide +kernel)⟩,_,rfl,er.k _ hm,_,.inl ⟨_,rfl,er.i _ hm _ (by decide +kernel)⟩,_,rfl,er.k _ hm,_,.inr ⟨_,rfl,er.v _ hm⟩,by show 3<=sizeLine;lia,fun l4 hl4=>?_⟩
  have S6:=Same.new (o:=.lst [.bl (decide (x = "NoHeir")),.bl (decide (x = "TooMany")),.bl true]) hl4
  have k6:(upd H5 l4 (.lst [.bl (decide (x = "NoHeir")),.bl (decide (x = "TooMany")),.bl true])) l4=some (.lst [.bl (decide (x = "NoHeir")),.bl (decide (x = "TooMany")),.bl true]):=Zg
  generalize (upd H5 l4 (.lst [.bl (decide (x = "NoHeir")),.bl (decide (x = "TooMany")),.bl true]))=H6 at S6 k6 ⊢
  refine⟨l3,l4,_,_,rfl,rfl,S6 _ _ k5,k6,by show 7+3<=sizeLine;lia,fun l5 hl5=>⟨_,rfl,?_⟩⟩
  have S7:Same H6 _:=Same.new (o:=.lst ([.bl (decide (x = "NoName")),.bl (decide (x = "NoMeasure")),.bl (decide (x = "Unknown")),.bl (decide (x = "Taken"))] ++ [.bl (decide (x = "NoThing")),.bl (decide (x = "NotYet")),.bl (decide (x = "Dead"))] ++ [.bl (decide (x = "NoHeir")),.bl (decide (x = "TooMany")),.bl true])) hl5
  have S:=((((((s0.trans S2).trans S3).trans S4).trans S5).trans S6).trans S7)
  exact k O _ l5 (W.same S) (Frm.same S) Zg
inductive spKOf (vs:List V) (H:Hp) (Q:VK) (z3:XK):Prop
 | mk (o:Option Str) (h0:vs = [Vj o]) (h1:okS o) (h2:∀H' l,Same H H'->H' l=some (.lst ((Zhb o).map V.bl))->Q (.ref l) H')
abbrev Zgt:Stmt:=top 78
theorem Nq3:Nm (Zs Zgt) "_law_name" .cell:=by decide +kernel
theorem Zxw(Zgu:Has K mg "_law_kinds_of" Zgt)(T:Txt mg):Fn P w K mg base "_law_kinds_of" ["_law_name"] 1 spKOf:=by
 refine Zgu.fq ["_law_name", "_law_names_here"] fun H vs Q E hr h=>?_
 obtain⟨o,rfl,oo,k⟩:=h
 refine⟨rfl,_,(Zd (Zo (Zl Z4 (qvC 0 Nq3) Zi (Zm _)) (Ze (Zx (Z6 Zb))) Zq)
 (Zd (Z1 1 (Z6 (Za Zi (Za Zi (Za Zi (Za Zi (Za Zi (Za Zi (Za Zi (Za Zi (Za Zi Zb)))))))))))
 (Ze (Zx (Z0 Zao (Uy (locs:=["_law_one_here"]) (fr:=[("_law_name", 0)]) ⟨rfl,by decide +kernel,by decide +kernel,by decide +kernel,by decide +kernel,by decide +kernel⟩ (.consN Nq3 .nil) rfl (Wt (qvN 1)) ⟨fun _ _ _ _ _ _=>by
  have cnd:(inN ["_law_one_here"] [("_law_name", 0)]).Nodup:=by decide +kernel
  exact⟨(Ua 0 cnd),Zap,(Vi Z4 (V9 0) (Zcu 1) (Zm _))⟩⟩) (Z6 (Za Zaj Zb))))))),?_⟩
 have hz:(20:Nat)<=sizeLine:=by decide
 refine Wp fun D0 hn0 hr0=>?_
 refine⟨_,rfl,rfl,_,rfl,Zr (fun z=>?_) (fun z=>hn0 _ _ ?_)⟩
 ·have e:=(Uj oo).mp z
  subst e
  exact⟨by show 0<=sizeLine;lia,fun l hl=>hr0 _ _ (k _ l (Same.new hl) Zg)⟩
 cases o with
 | none=>exact absurd rfl z
 | some s =>
  refine Yc fun D1 hn1=>?_
  refine⟨by show 9<=sizeLine;lia,fun l hl=>hn1 _ _ ?_⟩
  have S1:=Same.new (o:=.lst (ns9.map V.str)) hl
  have k1:(upd H l (.lst (ns9.map V.str))) l=some (.lst (ns9.map V.str)):=Zg
  change _ at k1
  refine(fun(J:∀G1,Same H G1->G1 l=some (.lst (ns9.map V.str))->_)=>J _ S1 k1) fun G1 S1 k1=>?_
  refine⟨_,rfl,l,rfl,⟨_,SqL.of k1⟩,?_⟩
  refine Zah (xs:=ns9.map V.str) (fun i ys H'=>G1=H'/\ys=(ns9.take i).map fun y=>V.bl (decide (s=y))) ⟨rfl,rfl⟩ (by decide) (fun i ys H' _ ⟨e,_⟩=>by rw[← e];exact SqL.of k1) (fun i ys H' ⟨_,e⟩=>by rw[e,xA,xZ];lia) ?_ ?_
  ·rintro i x ys H' hx ⟨rfl,rfl⟩ ls hls
   obtain⟨w0,rfl⟩:=Zaa hls
   rw[xG] at hx
   obtain⟨y,e,rfl⟩:=xN.mp hx
   refine⟨⟨[_],rfl,rfl⟩,_,rfl,_,rfl,rfl,rfl,?_⟩
   rw[yI,e,yE]
   have:decide (V.str y=Vj (some s))=decide (s=y):=decide_eq_decide.mpr ⟨fun z=>by injection z with z;exact z.symm,fun z=>by rw[z];rfl⟩
   rw[this];rfl
  ·rintro ys H' ⟨rfl,rfl⟩ l2 hl2
   refine⟨by show 1<=sizeLine;lia,fun l3 hl3=>?_⟩
   refine⟨l2,l3,_,_,rfl,rfl,by rw[Zf (Zp (show _=_ from Zg) hl3)];exact Zg,Zg,by show 9+1<=sizeLine;lia,fun l4 hl4=>?_⟩
   exact k _ l4 (((S1.trans (Same.new hl2)).trans (Same.new hl3)).trans (Same.new hl4)) Zg
end
section
theorem Vu{α:Type _}(l:List α)(x : α):(l ++ [x]).length=l.length+1:=by rw[xC];rfl
theorem Zsy{m:Mo}(h:MoK m)(i:Nat):(m.haps.getD i []).length<=m.deeds.length:=by
 rw[yN]
 cases e:m.haps[i]? with
 | none=>exact yQ _
 | some c=>exact h.hl c (xF e)
theorem Zus{m:Mo}(h:MoK m){i:Nat}{x:D}:∀q∈m.haps.set i (m.haps.getD i [] ++ [x]),q.length<=m.deeds.length+1:=fun q hq=>by
 rcases List.mem_or_eq_of_mem_set hq with z | z
 ·exact Nat.le_succ_of_le (h.hl q z)
 ·rw[z,Vu];exact Nat.succ_le_succ (Zsy h i)
theorem Zut(m:Mo)(d:SD):(m.sd d).deeds.length=m.deeds.length+1:=by cases d<;>exact Vu _ _
theorem MoK.sd{m:Mo}(h:MoK m)(d:SD):MoK (m.sd d):=by
 have hq:∀q∈m.haps,q.length<=m.deeds.length+1:=fun q z=>Nat.le_succ_of_le (h.hl q z)
 have ql:=Nat.le_succ_of_le h.ql
 have dl:=Zut m d
 cases d with
 | bring n day =>
  refine⟨h.ok,h.dl,fun i e he=>?_,h.le,h.vl,?_,?_,dl▸ql⟩
  ·change (m.brs ++ [_])[i]? = some e at he
   rcases Nat.lt_or_ge i m.brs.length with z | z
   ·rw[zB z] at he;exact h.br i e he
   ·rw[yS z] at he
    cases xP.mp (xF he)
    exact⟨n,day,rfl⟩
  ·show (m.haps ++ [_]).length=(m.brs ++ [_]).length;rw[Vu,Vu,h.hb]
  ·rw[dl]
   intro q z
   rcases xM.mp z with z | z
   ·exact hq q z
   ·cases xP.mp z;exact yQ _
 | give i x y day=>exact⟨h.ok,h.dl,h.br,h.le,h.vl,(List.length_set ..).trans h.hb,dl▸Zus h,dl▸ql⟩
 | pay x y many day=>exact⟨h.ok,h.dl,h.br,h.le,h.vl,h.hb,dl▸hq,dl▸(Vu m.debts _).symm▸Nat.succ_le_succ h.ql⟩
 | _=>exact⟨h.ok,h.dl,h.br,h.le,h.vl,h.hb,dl▸hq,dl▸ql⟩
theorem Zdx{α β:Type}{f : α->Option β}{x : α} : [x].findSome? f=f x:=by
 rw[zI];cases f x<;>rfl
theorem Zgv{α β:Type}{f : α->Option β}{x y : α} : [x,y].findSome? f=(f x).or (f y):=by
 rw[zI,Zdx];cases f x<;>rfl
theorem ny0{day:Int}:eNy [] day=none:=if_neg fun⟨_,h,_⟩=>by cases h
theorem Zcc{a day:Int}{l:List Int}:eNy (a::l) day=(Ys a day).or (eNy l day):=by
 unfold eNy Ys
 by_cases z:day < a
 ·rw[if_pos ⟨a,by simp,z⟩,if_pos z];rfl
 ·rw[if_neg z,xB]
  by_cases y:∃x∈l,day < x
  ·rw[if_pos y];obtain⟨x,hx,h⟩:=y;rw[if_pos ⟨x,xX _ hx,h⟩]
  ·rw[if_neg y,if_neg]
   rintro⟨x,hx,h⟩
   rcases xE.mp hx with rfl | hx
   ·exact z h
   ·exact y ⟨x,hx,h⟩
theorem ms1{lo hi x:Int}{b:Bool}:(if (inM lo hi x && b)=true then none else some ("NoMeasure" : Str))=(eM lo hi x).or (if b=true then none else some ("NoMeasure" : Str)):=by
 unfold inM eM
 by_cases z:lo<=x/\x<=hi
 ·rw[if_pos z,xW z.1,xW z.2,xB];simp
 ·rw[if_neg z,if_neg]
  ·rfl
  ·intro h
   simp only[xV,decide_eq_true_eq] at h
   exact z h.1
theorem ms2{lo hi x:Int}:(if inM lo hi x=true then none else some ("NoMeasure" : Str))=eM lo hi x:=by
 have:=ms1 (lo:=lo) (hi:=hi) (x:=x) (b:=true)
 rw[Bool.and_true,if_pos rfl,yU] at this;exact this
theorem msC{a b:Option Str}(ha:a=none\/a=some ("NoMeasure" : Str))(hb:b=none\/b=some ("NoMeasure" : Str)):a.or b=b.or a:=by
 rcases ha with rfl | rfl<;>rcases hb with rfl | rfl<;>rfl
theorem Zlq(lo hi x:Int):eM lo hi x=none\/eM lo hi x=some ("NoMeasure" : Str):=by unfold eM;split<;>simp
theorem Zqh{n:Str}{day wt:Int}:eMs (.come n day wt)=(eM 0 9999 day).or (eM 1 1000 wt):=(ms1 (lo:=0) (hi:=9999) (x:=day) (b:=inM 1 1000 wt)).trans (by rw[ms2])
theorem Zqi{n:Str}{day wt:Int}:eMs (.rise n day wt)=(eM 0 9999 day).or (eM 1 1000 wt):=(ms1 (lo:=0) (hi:=9999) (x:=day) (b:=inM 1 1000 wt)).trans (by rw[ms2])
theorem Zsz{x y:Str}{many day:Int}:eMs (.pay x y many day)=(eM 1 1000000 many).or (eM 0 9999 day):=((ms1 (lo:=0) (hi:=9999) (x:=day) (b:=inM 1 1000000 many)).trans (by rw[ms2])).trans (msC (Zlq _ _ _) (Zlq _ _ _))
theorem Zs0{n he:Str}{day:Int}:eMs (.die n he day)=eM 0 9999 day:=(ms1 (lo:=0) (hi:=9999) (x:=day) (b:=true)).trans (by rw[if_pos rfl,yU])
theorem Zo0{n:Str}{day:Int}:eMs (.bring n day)=eM 0 9999 day:=(ms1 (lo:=0) (hi:=9999) (x:=day) (b:=true)).trans (by rw[if_pos rfl,yU])
theorem Zqj{i:Int}{x y:Str}{day:Int}:eMs (.give i x y day)=eM 0 9999 day:=(ms1 (lo:=0) (hi:=9999) (x:=day) (b:=true)).trans (by rw[if_pos rfl,yU])
theorem Zs1{n:Str}:eMs (.pen n)=none:=if_pos rfl
structure I31 (as:List AD):Prop where
 al:as.length<=100
 cm:(We (Zh as).1).length=(as.filter Ut).length
 bl:(Zh as).2.brs.length=(as.filter Yn).length
 bd:∀j:Nat,brD (Zh as).2 j=Us as j
 ok:MoK (Zh as).2
 ln:(Zh as).1.length<=as.length
 pn:(Zh as).2.npen<=as.length
 tr:(Zh as).2.trials.length=0
theorem Zuu{as:List AD}(I:I31 as)(d:SD):V2 as d=eSD (Zh as).1 (Zh as).2 d:=by
 have al:=I.al
 have em:Yj (Zh as).2=none:=if_pos (by rw[Zib];lia)
 have ct:∀n,(Zk (Zh as).1 n).getD 0=cdy as n:=fun _=>rfl
 cases d with
 | come n day wt =>
  show _=(Ug _ n day wt).or _
  unfold V2 Wg Ug eNm eTk eTh Vd Uu eTC eTB Wh brT
  simp only[em,Yd,List.findSome?_nil,xB,yU,zD,xR,ny0,Zqh,Yo,I.cm,eLt]
  by_cases z:Y2 n=false
  ·rw[if_pos z,if_pos z];rfl
  ·rw[if_neg z,if_neg z,xB,yW,yW]
 | rise n day wt =>
  show _=(Uh _ n day wt).or _
  unfold V2 Wg Uh eNm eTk eTh Vd Uu eTC eTB Wh brT eLt
  simp only[em,Yd,Zdx,xB,yU,xU,zD,xR,ny0,Zcc,Zqi,Yo,ct,yW]
 | die n he day =>
  show _=(Uq _ n he day).or _
  unfold V2 Wg Uq eNm eTk eTh Vd Uu eTC eTB Wh brT eLt
  simp only[em,Yd,Zgv,xB,yU,xU,zD,xR,ny0,Zcc,Zs0,Yo,ct,yW,eq_comm (a:=n) (b:=he)]
 | pen n =>
  show _=(Yq _ n).or _
  unfold V2 Wg eNm eTk eTh Vd Uu eTC eTB
  simp only[em,Yd,Zdx,xB,yU,Zs1,Yo,yW]
 | bring n day =>
  show _=(eM 0 9999 day).or _
  unfold V2 Wg eNm eTk eTh Vd Uu eTC eTB Wh brT eLt Y4 Zcw
  simp only[em,Yd,Zdx,xB,yU,xU,zD,xR,ny0,Zcc,Zo0,Yo,ct,yW,I.bl,Option.bind_none]
 | give i x y day =>
  show _=(eM 0 9999 day).or _
  unfold V2 Wg eNm eTk eTh Vd Uu eTC eTB Wh brT eLt Y4 Ui
  simp only[em,Yd,Zgv,xB,yU,xU,zD,yG,zT,ny0,Zcc,Zqj,Yo,ct,yW,Option.bind_none,yX,I.bl]
  have hb:brD (Zh as).2 i=Us as i.toNat:=by
   have:=I.bd i.toNat
   unfold brD at this ⊢
   rw[yV] at this;exact this
  rw[hb]
 | pay x y many day =>
  show _=(eM 1 1000000 many).or _
  unfold V2 Wg eNm eTk eTh Vd Uu eTC eTB Wh brT eLt Y4
  simp only[em,Yd,Zgv,xB,yU,xU,zD,xR,ny0,Zcc,Zsz,Yo,ct,yW,Option.bind_none]
theorem I31.nil:I31 []:=⟨yQ _,rfl,rfl,fun j=>rfl,⟨fun t h=>(nomatch h),rfl,fun i e h=>(nomatch h),yQ _,rfl,rfl,fun q h=>(nomatch h),yQ _⟩,yQ _,yQ _,rfl⟩
theorem I31.snoc{as:List AD}(I:I31 as){d:SD}(hl:as.length < 100):I31 (as ++ [.s d]):=by
 have hr:Zh (as ++ [.s d])=(sdF (Zh as).1 d,(Zh as).2.sd d):=Zeb as (.s d)
 have ln:=I.ln
 have pn:=I.pn
 have key:∀x:AD,(Yn x=false->(as ++ [x]).filter Yn=as.filter Yn)/\(Ut x=false->(as ++ [x]).filter Ut=as.filter Ut):=fun x =>
  ⟨fun h=>by rw[zA,zS (by rw[h];decide)];exact xR _,fun h=>by rw[zA,zS (by rw[h];decide)];exact xR _⟩
 have nb:Yn (.s d)=false->(∀j:Nat,brD (Zh as).2 j=Us (as ++ [.s d]) j):=fun h j=>by rw[I.bd j];unfold Us;rw[(key _).1 h]
 refine⟨by rw[Vu];lia,?_,?_,?_,by rw[hr];exact I.ok.sd d,?_,?_,by rw[hr];cases d<;>exact I.tr⟩
 ·rw[hr]
  cases d with
  | come n day wt =>
   show (We (_++_)).length=_
   rw[Za5,xC,I.cm,zA,xC];rfl
  | rise n day wt=>rw[(key _).2 rfl];show (We (_++_)).length=_;rw[Za5,xC,I.cm];rfl
  | die n he day=>rw[(key _).2 rfl];show (We (_++_)).length=_;rw[Za5,xC,I.cm];rfl
  | _=>rw[(key _).2 rfl];exact I.cm
 ·rw[hr]
  cases d with
  | bring n day=>show (_ ++ [_]).length=_;rw[Vu,I.bl,zA,xC];rfl
  | _=>rw[(key _).1 rfl];exact I.bl
 ·intro j
  rw[hr]
  cases d with
  | bring n day =>
   have hj:=I.bd j
   have hl:=I.bl
   unfold brD Us at hj ⊢
   rw[yV] at hj ⊢
   show (match ((Zh as).2.brs ++ [D.tup [.str n,.int day]])[j]? with | some (.tup [_,.int d])=>d | _=>0)=_
   rw[zA,List.filter_cons_of_pos rfl]
   rcases Nat.lt_trichotomy j (Zh as).2.brs.length with z | z | z
   ·rw[zB z,zB (by lia)];exact hj
   ·rw[yS (by lia),yS (by lia),z,hl,Nat.sub_self];rfl
   ·rw[List.getElem?_eq_none (by rw[Vu];lia),List.getElem?_eq_none (by rw[xC];show _+1<=_;lia)]
  | _=>exact nb rfl j
 ·rw[hr,Vu]
  cases d<;>simp only[sdF,xC,List.length_singleton]<;>lia
 ·rw[hr,Vu]
  cases d with
  | pen n=>show (Zh as).2.npen+1<=_;lia
  | _=>show (Zh as).2.npen<=_;lia
theorem Zs2{as:List AD}(I:I31 as){d:SD}(h:okD d):Zha (Zh as).1 (Zh as).2 d:=by
 have al:=I.al
 have ln:=I.ln
 have pn:=I.pn
 have tr:=I.tr
 cases d with
 | come n day wt=>exact⟨by lia,h⟩
 | rise n day wt=>exact⟨by lia,h.1.1,h.2⟩
 | die n he day=>exact⟨by lia,h.1.1,h.2.1.1,h.2.2⟩
 | pen n=>exact⟨h.1,by lia,by lia⟩
 | bring n day=>exact⟨I.ok,h.1.1,h.2⟩
 | give i x y day=>exact⟨I.ok,h.2.1.1,h.2.2.1.1,h.1,h.2.2.2⟩
 | pay x y many day=>exact⟨I.ok,h.1.1,h.2.1.1,h.2.2.1,h.2.2.2⟩
theorem Zqk{d:SD}(h:okD d):Zgm d:=by
 cases d with
 | come n day wt=>have:=h.1.1;show n.length<=1000;lia
 | _=>trivial
end
section
variable{P:Program}{w:World}{K:uFg}{mg:Str->Option Value}{base:Heap}{C CM:Addr}{c:Str->Addr}
theorem MootAt.ntup{M:ML}{ds:List Deed}{wa:Str->Addr}{xs qs:List Addr}{m:Mo}{H:Hp}(h:MootAt C CM H M ds wa xs m qs){b:Addr}{t:List V}(e:H b=some (.tup t)):¬mo M ds wa xs qs b:=fun hb=>by
 rcases hb with z | z | z | z | z
 ·obtain⟨dx,ob⟩:=h.ob;rw[z,ob] at e;cases e
 ·obtain⟨k,p1,_⟩:=h.pn;rw[z,p1] at e;cases e
 ·obtain⟨ys,y⟩:=h.lst z;rw[e] at y;cases y
 ·obtain⟨ys,y⟩:=h.xl b z;rw[e] at y;cases y
 ·obtain⟨o,e',_,n2⟩:=h.fk.there z;rw[e] at e';cases e';exact n2 t rfl
theorem MSt.ntup{H:Hp}{p:Addr}{ds:List Deed}{m:Mo}{O:Addr->Prop}(h:MSt C CM H p ds m O){b:Addr}{t:List V}(e:H b=some (.tup t)):¬O b:=by
 obtain⟨M,wa,xs,qs,_,W,rfl⟩:=h
 exact W.ntup e
def okE(o:Option Str):Prop:=∀x,o=some x->x∈errs
theorem okE.or{a b:Option Str}(h:okE a)(k:okE b):okE (a.or b):=fun x e=>by
 cases a with
 | none=>exact k x e
 | some y=>exact h x e
theorem okE.non:okE none:=fun x e=>by cases e
theorem okE.yes{y:Str}(h:y∈errs):okE (some y):=fun x e=>by cases e;exact h
theorem okE.ite{p:Prop} [Decidable p] {a b:Option Str}(h:okE a) (k:okE b):okE (if p then a else b):=by split<;>assumption
theorem okE.find{l:List Str}{f:Str->Option Str}(h:∀n,okE (f n)):okE (l.findSome? f):=fun x e=>by
 obtain⟨n,_,hn⟩:=List.exists_of_findSome?_eq_some e
 exact h n x hn
theorem okE.bind{α:Type}{o:Option α}{f : α->Option Str}(h:∀n,okE (f n)):okE (o.bind f):=by
 cases o with
 | none=>exact okE.non
 | some a=>exact h a
theorem okE.known(ds:List Deed)(n:Str):okE (Yq ds n):=.ite (.yes (by decide +kernel)) .non
theorem okE.there(d day:Int):okE (Ys d day):=.ite (.yes (by decide +kernel)) .non
theorem okE.living(ds:List Deed)(n:Str)(day:Int):okE (Wv ds n day):=.ite (.yes (by decide +kernel)) .non
theorem okE.untold(ds:List Deed)(n:Str):okE (Wo ds n):=.ite .non (.yes (by decide +kernel))
theorem okE.m(lo hi d:Int):okE (eM lo hi d):=.ite .non (.yes (by decide +kernel))
theorem okE.mom(m:Mo):okE (Yj m):=.ite .non (.yes (by decide +kernel))
theorem okE.oath(ss:List Suit)(i:Int)(n:Str):okE (Vp ss i n):=by
 unfold Vp
 split
 ·exact .ite (.ite .non (.yes (by decide +kernel))) (.yes (by decide +kernel))
 ·exact .yes (by decide +kernel)
theorem okE.named(ds:List Deed)(m:Mo)(day:Int)(ps:List Str)(th:Option Int)(oa:Option (Int×Str)):okE (Y4 ds m day ps th oa) :=
 (okE.find (okE.known ds)).or ((okE.bind fun _=>.ite .non (.yes (by decide +kernel))).or ((okE.bind fun _=>okE.oath _ _ _).or ((okE.find fun _=>okE.there _ _).or ((okE.bind fun _=>okE.there _ _).or ((okE.bind fun _=>okE.there _ _).or (okE.find fun _=>okE.living _ _ _))))))
theorem Zql(ds:List Deed)(m:Mo)(d:SD):okE (eSD ds m d):=by
 cases d with
 | come n day wt=>exact okE.or (.ite (.yes (by decide +kernel)) ((okE.m _ _ _).or ((okE.m _ _ _).or (okE.or (.ite .non (.yes (by decide +kernel))) (.ite .non (.yes (by decide +kernel))))))) (okE.mom m)
 | rise n day wt=>exact okE.or ((okE.m _ _ _).or ((okE.m _ _ _).or ((okE.known _ _).or ((okE.there _ _).or (okE.living _ _ _))))) (okE.mom m)
 | die n he day=>exact okE.or ((okE.m _ _ _).or ((okE.known _ _).or ((okE.known _ _).or ((okE.there _ _).or ((okE.there _ _).or ((okE.untold _ _).or (.ite (.yes (by decide +kernel)) .non))))))) (okE.mom m)
 | pen n=>exact(okE.known _ _).or ((okE.untold _ _).or (okE.mom m))
 | bring n day=>exact(okE.m _ _ _).or ((okE.named _ _ _ _ _ _).or (okE.or (.ite .non (.yes (by decide +kernel))) (okE.mom m)))
 | give i x y day=>exact(okE.m _ _ _).or ((okE.named _ _ _ _ _ _).or (okE.mom m))
 | pay x y many day=>exact(okE.m _ _ _).or ((okE.m _ _ _).or ((okE.named _ _ _ _ _ _).or (okE.mom m)))
inductive spNow (C CM:Addr) (vs:List V) (H:Hp) (Q:VK) (z3:XK):Prop
 | mk (M:ML) (ds:List Deed) (wa:Str->Addr) (xs:List Addr) (m:Mo) (qs:List Addr) (h0:vs = [.ref M.p]) (h1:MootAt C CM H M ds wa xs m qs) (h2:Q (.int m.deeds.length) H)
abbrev Zlr:Stmt:=Yt (top 57) 11
theorem Zuv(Zgw:HasM K CM "now" "Moot.now" Zlr)(T:Txt mg)(Tm:TxCMoot K CM):Mt P w K mg base CM "now" ["self"] 1 (spNow C CM):=by
 refine Zgw.mq ["self"] fun H vs Q E hr h=>?_
 obtain⟨M,ds,wa,xs,m,qs,rfl,W,k⟩:=h
 refine⟨rfl,_,(Ze (Zx (Z7 Wm T.len Yv (Za (Zz (qvN 0)) Zb)))),?_⟩
 obtain⟨dx,ob⟩:=W.ob
 obtain⟨vs,d1,_,d2⟩:=(W.ls (M.ld,m.deeds) (by simp[Mo.at_])).get
 dsimp only at d1 d2
 refine⟨_,rfl,M.p,CM,dx,_,_,rfl,ob,Tm.cl,Tm.nd,Uf _,M.ld,vs,rfl,.inl (SqL.of d1),?_⟩
 rw[d2]
 exact k
structure Lx (s la dl nl rl:Addr) (ns:List Str) (us:List V) (O:Addr->Prop) (H:Hp) (as:List AD):Prop where
 u:Wl H s la dl nl ns as
 r:H rl=some (.lst us)
 ro:∀v∈us,v = .non\/∃a d,v = .ref a/\H a=some (.tup (sdV d))/\okD d
 o:∀b ∈ [s,la,dl,nl,rl],¬O b
 n1:rl≠s
 n2:dl≠rl
 n3:dl≠nl
 n4:dl≠la
variable{p s la dl nl rl:Addr}{ns:List Str}{us:List V}{O O':Addr->Prop}{H H':Hp}{as:List AD}
theorem Lx.ro'{H H':Hp}(kt:Vn H H')(h:∀v∈us,v = .non\/∃a d,v = .ref a/\H a=some (.tup (sdV d))/\okD d):∀v∈us,v = .non\/∃a d,v = .ref a/\H' a=some (.tup (sdV d))/\okD d :=
 fun v hv=>(h v hv).imp id fun⟨a,d,e,ha,o⟩=>⟨a,d,e,kt _ _ ha,o⟩
theorem Lx.x(h:Lx s la dl nl rl ns us O H as)(hs:SrcAt H' s la)(k:SameX s H H'):Lx s la dl nl rl ns us O H' as:=by
 obtain⟨_,_,_,_,_,a,_⟩:=id h.u.sr
 exact⟨h.u.x hs k,k _ _ h.n1 h.r,Lx.ro' (fun b u e=>k _ _ (fun z=>by rw[z,a] at e;cases e) e) h.ro,h.o,h.n1,h.n2,h.n3,h.n4⟩
theorem Lx.same(h:Lx s la dl nl rl ns us O H as)(k:Same H H'):Lx s la dl nl rl ns us O H' as :=
 ⟨h.u.same k,k _ _ h.r,Lx.ro' (fun _ _ e=>k _ _ e) h.ro,h.o,h.n1,h.n2,h.n3,h.n4⟩
theorem Lx.frm(h:Lx s la dl nl rl ns us O H as)(nt:∀{b t},H b=some (.tup t)->¬O b)(f:Frm O H O' H'):Lx s la dl nl rl ns us O' H' as:=by
 have os:=h.o s (by simp)
 have ol:=h.o la (by simp)
 have od:=h.o dl (by simp)
 have on:=h.o nl (by simp)
 have orl:=h.o rl (by simp)
 obtain⟨ks,i,big,st,cnt,a,b,c,d⟩:=id h.u.sr
 have kt:Vn H H':=fun b u e=>f.1 _ _ e (nt e)
 obtain⟨vs,e1,e2⟩:=id h.u.l
 refine⟨⟨⟨ks,i,big,st,cnt,f.1 _ _ a os,f.1 _ _ b ol,c,d⟩,h.u.l.mono (fun o e=>f.1 _ _ e od) (V7 kt (fun x hx=>by cases hx) fun _ z=>z),f.1 _ _ h.u.nm on,h.u.n1,h.u.n2,h.u.n0,h.u.nz,h.u.al,h.u.ok⟩,f.1 _ _ h.r orl,Lx.ro' kt h.ro,fun x hx=>?_,h.n1,h.n2,h.n3,h.n4⟩
 have no:∀{b:Addr}{o:HO},H b=some o->¬O b->¬O' b:=fun e n z=>(f.2 _ z).elim n (fun y=>by rw[e] at y;cases y)
 simp only[xE,yP,or_false] at hx
 rcases hx with rfl | rfl | rfl | rfl | rfl
 ·exact no a os
 ·exact no b ol
 ·exact no e1 od
 ·exact no h.u.nm on
 ·exact no h.r orl
theorem Lx.add(h:Lx s la dl nl rl ns us O H as)(hal:as.length < 1000){vs:List V}{a:Addr}{d:SD}(e:H dl=some (.lst vs))(ha:H a=some (.tup (sdV d))):Lx s la dl nl rl ns us O (upd H dl (.lst (vs ++ [.ref a]))) (as ++ [.s d]):=by
 have kx:SameX dl H (upd H dl (.lst (vs ++ [.ref a]))):=SameX.upd
 have kt:Vn H (upd H dl (.lst (vs ++ [.ref a]))):=fun b u y=>kx _ _ (fun z=>by rw[z,e] at y;cases y) y
 refine⟨⟨h.u.sr.keepX kx h.u.n2 h.n4,?_,kx _ _ h.n3.symm h.u.nm,h.u.n1,h.u.n2,h.u.n0,h.u.nz,by rw[Vu];lia,h.u.ok⟩,kx _ _ h.n2.symm h.r,Lx.ro' kt h.ro,h.o,h.n1,h.n2,h.n3,h.n4⟩
 rw[yE]
 exact h.u.l.snoc e (V7 kt (fun x hx=>by cases hx) fun _ z=>z) ⟨a,_,rfl,Wz ha,Zjf _ d⟩
end
section
variable{P:Program}{w:World}{K:uFg}{mg:Str->Option Value}{base:Heap}{C CM:Addr}{c:Str->Addr}
theorem MSt.x{H H':Hp}{p:Addr}{ds:List Deed}{m:Mo}{O:Addr->Prop}(h:MSt C CM H p ds m O){s:Addr}{ys:List V}(hs:H s=some (.lst ys))(hn:¬O s)(k:SameX s H H'):MSt C CM H' p ds m O:=by
 obtain⟨M,wa,xs,qs,e,W,rfl⟩:=h
 exact⟨M,wa,xs,qs,e,W.x hs hn k,rfl⟩
theorem Zj4{n:Str}(h:Wd n):okN n:=⟨by have:=h.2.2;lia,fun x hx=>by have:=h.1 x hx;lia⟩
def RowsO(H:Hp)(us:List V):Prop:=∀v∈us,v = .non\/∃a d,v = .ref a/\H a=some (.tup (sdV d))/\okD d
theorem RowsO.app{H:Hp}{us vs:List V}(h:RowsO H us)(k:RowsO H vs):RowsO H (us++vs):=fun v hv=>(xM.mp hv).elim (h v) (k v)
theorem RowsO.mono{H H':Hp}{us:List V}(kt:Vn H H')(h:RowsO H us):RowsO H' us:=Lx.ro' kt h
theorem RowsO.rep{H:Hp}{v:V}{k:Nat}(h:RowsO H [v]):RowsO H (List.replicate k [v]).flatten:=fun u hu=>by
 obtain⟨l,hl,hu⟩:=List.mem_flatten.mp hu
 rw[(List.mem_replicate.mp hl).2] at hu
 exact h u hu
theorem Zis{v:V}{k:Nat}:(List.replicate k [v]).flatten.length=k:=by rw[Zi2];exact Nat.mul_one k
structure Rdy (C CM p s la dl nl:Addr) (ns:List Str) (O:Addr->Prop) (H:Hp) (rl:Addr) (us:List V):Prop where
 w:MSt C CM H p (Zh []).1 (Zh []).2 O
 u:Wl H s la dl nl ns []
 r:H rl=some (.lst us)
 ro:RowsO H us
 o:¬O rl
 n1:rl≠s
 n2:dl≠rl
variable{p s la dl nl rl:Addr}{ns:List Str}{us:List V}{O:Addr->Prop}{H H':Hp}
theorem Rdy.same(h:Rdy C CM p s la dl nl ns O H rl us)(k:Same H H'):Rdy C CM p s la dl nl ns O H' rl us:=⟨h.w.same k,h.u.same k,k _ _ h.r,h.ro.mono fun _ _ e=>k _ _ e,h.o,h.n1,h.n2⟩
theorem Rdy.x(h:Rdy C CM p s la dl nl ns O H rl us)(os:¬O s)(hs:SrcAt H' s la)(k:SameX s H H'):Rdy C CM p s la dl nl ns O H' rl us:=by
 obtain⟨_,_,_,_,_,a,_⟩:=id h.u.sr
 exact⟨h.w.x a os k,h.u.x hs k,k _ _ h.n1 h.r,h.ro.mono (fun b u e=>k _ _ (fun z=>by rw[z,a] at e;cases e) e),h.o,h.n1,h.n2⟩
theorem Rdy.new(h:Rdy C CM p s la dl nl ns O H rl us){r:Addr}{vs:List V}(hr:H r=none)(hv:RowsO H vs):Rdy C CM p s la dl nl ns O (upd H r (.lst vs)) r vs:=by
 have S:=Same.new (o:=.lst vs) hr
 obtain⟨_,e,_⟩:=id h.u.l
 exact⟨h.w.same S,h.u.same S,Zg,hv.mono fun _ _ e=>S _ _ e,h.w.out hr,(h.u.sr.ne hr).1,Zp e hr⟩
theorem Zyy{H:Hp}{s la q nl:Addr}{ns:List Str}{as:List AD}(U:Wl H s la q nl ns as):∃m,atI (ns.map V.str) 0=some (.str m)/\okN m:=by
 have e:=xD U.n0
 exact⟨_,Wj (j:=0) (by rw[xG,e];rfl),U.ok _ (xF e)⟩
theorem Zcx{i:Int}(h : 0<=i)(h':i<=100):okI i:=Zch (by lia) (by lia)
theorem Zs3(as:List AD)(d:SD):okS (V2 as d):=(okS.early _ _ _).or ((okS.late _ _).or (okS.or (by cases d<;>first | exact .ite .non (.yes (by decide +kernel)) | exact .non) (by cases d<;>first | exact .ite .non (.yes (by decide +kernel)) | exact .non)))
abbrev Zbr:Stmt:=top 81
theorem Zuw:FnScope ["_law_script", "_law_src_here", "_law_moot", "_law_deeds", "_law_names_here", "_law_rows", "_law_kind", "_law_deed", "_law_more", "_law_due_here", "_law_found"] ["_law_script"] (Zs Zbr):=fsc
theorem Zxx{f:Addr}{fd:FuncData}(F_law:Fun K "law" "law" Zbr f fd)(T:Txt mg)(Tm:TxCMoot K CM)(Zxy:Fn P w K mg base "_law_src" ["_law_script"] 1 (spSrc K))(Yp:Fn P w K mg base "_law_next" ["_law_src_here", "_law_base"] 1 spNext)(Zls:Fn P w K mg base "_law_names" ["_law_src_here", "_law_many"] 3 spNames)(M_Moot:Mks P w K mg base CM "Moot" 3 (spMInit C CM))(Zxz:Fn P w K mg base "_law_plain_deed" ["_law_src_here", "_law_deeds", "_law_names_here"] 3 spPln)(Zlt:Fn P w K mg base "_law_wild" ["_law_src_here", "_law_names_here", "_law_deed"] 2 spWild)(Zx0:Fn P w K mg base "_law_due" ["_law_deeds", "_law_deed"] 4 spDue)(Zx1:Fn P w K mg base "_law_kinds" ["_law_moot", "_law_deed"] 9 (spKnds C CM))(Zx2:Fn P w K mg base "_law_kinds_of" ["_law_name"] 1 spKOf)(MM_now:Mt P w K mg base CM "now" ["self"] 1 (spNow C CM)):FnOk P w K mg base CX0 11 f fd ["_law_script"] (Zdm K):=by
 refine F_law.okQ Zuw (fun vs H Q E h=>?_) (fun cdv A outer s0 H vs Q E hr h=>?_)
 ·obtain⟨a,ns,rfl,_⟩:=h
  rfl
 ·obtain⟨a0,ks,rfl,hS,hlen,k⟩:=h
  refine⟨_,(Zd (Z1 1 (Zw Zxy (Za (qvN 0) Zb)))
 (Zd (Z1 2 (Zjw M_Moot))
 (Zd (Z1 3 (Z6 Zb))
 (Zd (Z1 4 (Zw Zls (Za (qvN 1) (Za (Z0 Wk Zc (Zw Yp (Za (qvN 1) (Za Zc Zb)))) Zb))))
 (Zd (Z1 5 (Z0 Zi7 (Z6 (Za Y1 Zb)) (Zw Yp (Za (qvN 1) (Za Zc Zb)))))
 (Zd (Z1 6 (Zw Yp (Za (qvN 1) (Za Zc Zb))))
 (Zd (Zo (Zl Z4 (qvN 6) Zc (Zm _)) (Ze (Z1 5 (Z0 Zao (qvN 5) (Uy (locs:=["_law_name"]) (fr:=[]) ⟨rfl,by decide +kernel,by decide +kernel,by decide +kernel,by decide +kernel,by decide +kernel⟩ .nil rfl (Wt (Zw Zls (Za (qvN 1) (Za Zc Zb)))) ⟨fun _ _ _ _ _ _=>by
  have cnd:(inN ["_law_name"] []).Nodup:=by decide +kernel
  exact⟨(Ua 0 cnd),Zap,(Yw (Za Zi (Za (V9 0) (Za Zc (Za Zc Zb)))))⟩⟩)))) Zq)
 (Zd (Zo (Zl Z4 (qvN 6) Zc (Zm _)) (Ze (Z1 5 (Z0 Zao (Z0 Zao (qvN 5) (Z6 (Za (Yw (Za Zi (Za (Zj Yh (qvN 4) Zc (fun _ _=>rfl)) (Za Zc (Za Zc Zb))))) Zb))) (Z0 Zi7 (Z6 (Za (Yw (Za Zi (Za (Zj Yh (qvN 4) Zc (fun _ _=>rfl)) (Za Zc Zb)))) Zb)) Zc)))) Zq)
 (Zd (V3 PassesOwn.never rfl (Wt (qvN 5)) (Vq 7)
 (Zd (Zo (Zl Zi8 (qvN 7) Y1 (Zm _)) (Zd (Z1 7 (Zw Zxz (Za (qvN 1) (Za (qvN 3) (Za (qvN 4) Zb)))))
 (Ze (V3 PassesOwn.never rfl (Zc1 T.range (Za (Z0 Zem (Z0 Zc4 (Zw Yp (Za (qvN 1) (Za Zc Zb))) Zc) (Z0 Wk Zc (Zw Yp (Za (qvN 1) (Za Zc Zb))))) Zb)) (Vq 8)
 (Ze (Z1 7 (Zw Zlt (Za (qvN 1) (Za (qvN 4) (Za (qvN 7) Zb))))))))) (Ze (Zo (Zl Z4 (Zw Yp (Za (qvN 1) (Za Zc Zb))) Zc (Zm _)) (Ze (Z1 7 (Zw Zlt (Za (qvN 1) (Za (qvN 4) (Za (qvN 7) Zb)))))) Zq)))
 (Zd (Z1 9 (Zw Zx0 (Za (qvN 3) (Za (qvN 7) Zb))))
 (Zd (Zo (Zl (Zot hr) (Zw Zx1 (Za (qvN 2) (Za (qvN 7) Zb))) (Zw Zx2 (Za (qvN 9) Zb)) (Zm _)) (Ze (Zx Zaj)) Zq)
 (Zd (Zo (Zl Z4 (qvN 9) Zi (Zm _)) (Ze (Zt (Wq F.plainAttrs_list F.slot_list_append F.type_list_append Wx (qvN 3) (Za (qvN 7) Zb)))) Zq)
 (Zd (Z1 10 (Zub (qvN 2) Tm.cl MM_now))
 (Ze (Zo (QW.pt (Zbn (V5 (Z7 Zd2 T.isinstance Vh (Za (qvN 10) (Za (Zc3 (v:=.ty "bool") T.bool Zt8 rfl) Zb)))) (Zbe (Zl Zju (qvN 10) (Z7 Wm T.len Yv (Za (qvN 3) Zb)) (Zm _))))) (Ze (Zx Zaj)) Zq))))))))
 (Ze (Zx Zaj))))))))))),?_⟩
  have hz:(5000:Nat)<=sizeLine:=by decide
  refine Yc fun D1 hn1=>?_
  refine⟨_,rfl,a0,ks,rfl,hS,fun s la H1 hs hla hs1 sm1=>hn1 _ _ ?_⟩
  refine Yc fun D2 hn2=>?_
  intro p dx nx ndx nex
  refine⟨p,dx,rfl,Zg,fun M H2 hM W2 kp fr=>⟨rfl,hn2 _ _ ?_⟩⟩
  have sm2:Same H1 H2:=fun b o e=>kp b o (by rw[Zf (Zp e nx),Zf (Zp e ndx)];exact e) (Zp e nx)
  have no2:∀b o,H1 b=some o->¬mo M [] (fun _=>0) [] [] b:=fun b o e z=>by
   rcases fr b z with y | y
   ·rw[y,nx] at e;cases e
   ·have nb:b≠p:=fun z=>by rw[z,nx] at e;cases e
    rw[Zf nb,Zf (Zp e ndx),e] at y;cases y
  obtain⟨_,_,_,_,_,hq1,hq2,_,hq3⟩:=id hs1
  have W3:MSt C CM H2 p (Zh []).1 (Zh []).2 (mo M [] (fun _=>0) [] []):=⟨M,_,[],[],hM,W2,rfl⟩
  have ns1:=no2 _ _ hq1
  have ns2:=no2 _ _ hq2
  have hs2:=hs1.keep sm2
  generalize mo M [] (fun _=>0) [] []=O at W3 ns1 ns2
  clear W2 kp fr nex no2
  refine Yc fun D3 hn3=>?_
  refine⟨by show 0<=sizeLine;lia,fun dl hdl=>V0 (hn3 _ _ ?_)⟩
  have od:=W3.out hdl
  have S3:=Same.new (o:=.lst []) hdl
  have k3:(upd H2 dl (.lst [])) dl=some (.lst []):=Zg
  generalize (upd H2 dl (.lst []))=H3 at S3 k3 ⊢
  have W4:=W3.same S3
  have hs3:=hs2.keep S3
  have nds:dl≠s:=(hs2.ne hdl).1
  have ndl:dl≠la:=(hs2.ne hdl).2
  refine Yc fun D4 hn4=>?_
  refine⟨_,rfl,_,rfl,s,la,7,rfl,hs3,by decide,by decide,fun z H4 z0 z1 hs4 sx4=>⟨_,_,rfl,rfl,s,la,3+z,rfl,hs4,by lia,by lia,fun nl ns H5 hnl hnd hnm fnl knl hs5 sx5=>V0 (hn4 _ _ ?_)⟩⟩
  obtain⟨_,_,_,_,_,q3,_⟩:=id hs3
  obtain⟨_,_,_,_,_,q4,_⟩:=id hs4
  have W5:=MSt.x (MSt.x W4 q3 ns1 sx4) q4 ns1 sx5
  have d5:=sx5 _ _ nds (sx4 _ _ nds k3)
  have on:=(MSt.x W4 q3 ns1 sx4).out fnl
  have nns:nl≠s:=fun y=>by rw[y,q4] at fnl;cases fnl
  have ndn:dl≠nl:=Zp (sx4 _ _ nds k3) fnl
  have U5:Wl H5 s la dl nl ns []:=⟨hs5,⟨[],d5,rfl⟩,knl,nns,nds,by lia,by lia,yQ _,fun n hn=>Zj4 (hnm n hn)⟩
  clear W3 W4 hs2 hs1 hs3 hs4
  refine Yc fun D5 hn5=>?_
  refine⟨by show 1<=sizeLine;lia,fun l0 hl0=>?_⟩
  have S6:=Same.new (o:=.lst [.non]) hl0
  have k6:(upd H5 l0 (.lst [.non])) l0=some (.lst [.non]):=Zg
  have nl0:l0≠s:=(hs5.ne hl0).1
  generalize (upd H5 l0 (.lst [.non]))=H6 at S6 k6 ⊢
  have U6:=U5.same S6
  have W6:=W5.same S6
  refine⟨_,rfl,s,la,41,rfl,U6.sr,by decide,by decide,fun m H7 m0 m1 hs7 sx7=>?_⟩
  obtain⟨_,_,_,_,_,q6,_⟩:=id U6.sr
  have U7:=U6.x hs7 sx7
  have W7:=W6.x q6 ns1 sx7
  refine⟨l0,m,_,rfl,rfl,sx7 _ _ nl0 k6,by lia,by lia,by show 1 * m.toNat<=sizeLine;lia,fun r0 hr0=>hn5 _ _ ?_⟩
  have R7:Rdy C CM p s la dl nl ns O (upd H7 r0 (.lst (List.replicate m.toNat [V.non]).flatten)) r0 (List.replicate m.toNat [V.non]).flatten:=by
   have S:=Same.new (o:=.lst (List.replicate m.toNat [V.non]).flatten) hr0
   obtain⟨_,e,_⟩:=id U7.l
   exact⟨W7.same S,U7.same S,Zg,RowsO.rep (fun v hv=>.inl (xP.mp hv)),W7.out hr0,(U7.sr.ne hr0).1,Zp e hr0⟩
  have l7:(List.replicate m.toNat [V.non]).flatten.length<=40:=by rw[Zis];lia
  generalize (List.replicate m.toNat [V.non]).flatten=us0 at R7 l7 ⊢
  generalize (upd H7 r0 (.lst us0))=H8 at R7 ⊢
  clear U5 U6 U7 W5 W6 W7 S6 k6
  refine Yc fun D6 hn6=>?_
  refine⟨_,rfl,s,la,12,rfl,R7.u.sr,by decide,by decide,fun kd H9 kd0 kd1 hs9 sx9=>hn6 _ _ ?_⟩
  have R9:=R7.x ns1 hs9 sx9
  clear R7
  refine Vr (fun σ H'=>∃(rl:Addr)(us:List V),σ = [some (.ref a0),some (.ref s),some (.ref p),some (.ref dl),some (.ref nl),some (.ref rl),some (.int kd),none,none,none,none]/\Rdy C CM p s la dl nl ns O H' rl us/\us.length<=85/\(kd≠0->us.length<=40)) ?_ ?_
  rotate_left
  ·intro D7 hn7 _ _ _
   refine⟨_,rfl,rfl,_,rfl,Zr (fun z=>?_) (fun z=>hn7 _ _ ⟨r0,us0,rfl,R9,by lia,fun _=>l7⟩)⟩
   refine⟨_,rfl,_,rfl,s,la,45,rfl,R9.u.sr,by decide,by decide,fun n2 ms HA hA1 hA2 hA3 fA kA hsA sxA=>⟨n2,rfl,⟨_,SqL.of kA⟩,?_⟩⟩
   have RA:=R9.x ns1 hsA sxA
   refine Zah (xs:=ms.map V.str) (fun i ys H'=>Same HA H'/\ys.length=i/\RowsO H' ys) ⟨Same.refl _,rfl,fun v hv=>by cases hv⟩ (by rw[xA];lia) (fun i ys H' _ ⟨S,_⟩=>SqL.of (S _ _ kA)) (fun i ys H' ⟨_,e,_⟩=>by lia) ?_ ?_
   ·rintro i v ys H' hv ⟨S,e,ro⟩ ls hls
    obtain⟨u,rfl⟩:=Zaa hls
    rw[xG] at hv
    obtain⟨n,hn,rfl⟩:=xN.mp hv
    refine⟨⟨[_],rfl,rfl⟩,_,rfl,by show 4<=sizeLine;lia,fun q hq=>?_⟩
    have Sq:=Same.new (o:=.tup [.str "come", .str n,.int 3,.int 5]) hq
    refine⟨S.trans Sq,by rw[xC,e];rfl,(ro.mono fun _ _ e=>Sq _ _ e).app fun v hv=>?_⟩
    rw[xP.mp hv]
    exact .inr ⟨q,.come n 3 5,rfl,Zg,Zj4 (hA3 n (xF hn)),Zcx (by decide) (by decide),Zcx (by decide) (by decide)⟩
   ·rintro ys H' ⟨S,e,ro⟩ lc hlc
    rw[xA] at e
    have Sc:=Same.new (o:=.lst ys) hlc
    have kc:(upd H' lc (.lst ys)) lc=some (.lst ys):=Zg
    generalize (upd H' lc (.lst ys))=HB at Sc kc ⊢
    have RB:=RA.same (S.trans Sc)
    refine⟨r0,lc,us0,ys,rfl,rfl,RB.r,kc,by lia,fun r1 hr1=>hn7 _ _ ⟨r1,us0++ys,rfl,RB.new hr1 (RB.ro.app (ro.mono fun _ _ e=>Sc _ _ e)),by rw[xC];lia,fun y=>absurd ?_ y⟩⟩
    injection z
  rintro σ HC ⟨rl1,us1,rfl,RC,lC,lC2⟩
  clear R9
  refine Vr (fun σ H'=>∃(rl:Addr)(us:List V),σ = [some (.ref a0),some (.ref s),some (.ref p),some (.ref dl),some (.ref nl),some (.ref rl),some (.int kd),none,none,none,none]/\Rdy C CM p s la dl nl ns O H' rl us/\us.length<=90) ?_ ?_
  rotate_left
  ·intro D7 hn7 _ _ _
   refine⟨_,rfl,rfl,_,rfl,Zr (fun z=>?_) (fun z=>hn7 _ _ ⟨rl1,us1,rfl,RC,by lia⟩)⟩
   have hk1:kd=1:=by injection z
   have lC3:=lC2 (by lia)
   obtain⟨m0,i0,om0⟩:=Zyy RC.u
   refine⟨_,rfl,_,rfl,nl,_,0,_,rfl,rfl,SqL.of RC.u.nm,i0,by show 4<=sizeLine;lia,fun q1 hq1=>?_⟩
   have S1:=Same.new (o:=.tup [.str "come", .str m0,.int 3,.int 5]) hq1
   have e1:(upd HC q1 (.tup [.str "come", .str m0,.int 3,.int 5])) q1=some (.tup (sdV (.come m0 3 5))):=Zg
   generalize (upd HC q1 (.tup [.str "come", .str m0,.int 3,.int 5]))=G1 at S1 e1 ⊢
   refine⟨by show 1<=sizeLine;lia,fun l1 hl1=>?_⟩
   have S2:=Same.new (o:=.lst [.ref q1]) hl1
   have e2:(upd G1 l1 (.lst [.ref q1])) l1=some (.lst [.ref q1]):=Zg
   generalize (upd G1 l1 (.lst [.ref q1]))=G2 at S2 e2 ⊢
   have R2:=RC.same (S1.trans S2)
   refine⟨rl1,l1,us1,_,rfl,rfl,R2.r,e2,by show us1.length+1<=sizeLine;lia,fun r1 hr1=>?_⟩
   have ro2:RowsO G2 (us1 ++ [.ref q1]):=R2.ro.app fun v hv=>by
    rw[xP.mp hv]
    exact .inr ⟨q1,.come m0 3 5,rfl,S2 _ _ e1,om0,Zcx (by decide) (by decide),Zcx (by decide) (by decide)⟩
   have R3:=R2.new hr1 ro2
   generalize (upd G2 r1 (.lst (us1 ++ [.ref q1])))=G3 at R3 ⊢
   refine⟨_,rfl,nl,_,0,_,rfl,rfl,SqL.of R3.u.nm,i0,by show 3<=sizeLine;lia,fun q2 hq2=>?_⟩
   have S4:=Same.new (o:=.tup [.str "bring", .str m0,.int 30]) hq2
   have e4:(upd G3 q2 (.tup [.str "bring", .str m0,.int 30])) q2=some (.tup (sdV (.bring m0 30))):=Zg
   generalize (upd G3 q2 (.tup [.str "bring", .str m0,.int 30]))=G4 at S4 e4 ⊢
   refine⟨by show 1<=sizeLine;lia,fun l2 hl2=>?_⟩
   have S5:=Same.new (o:=.lst [.ref q2]) hl2
   have e5:(upd G4 l2 (.lst [.ref q2])) l2=some (.lst [.ref q2]):=Zg
   generalize (upd G4 l2 (.lst [.ref q2]))=G5 at S5 e5 ⊢
   refine⟨l2,45,_,rfl,rfl,e5,by decide,by decide,by show 1 * 45<=sizeLine;lia,fun l3 hl3=>?_⟩
   have S6:=Same.new (o:=.lst (List.replicate (Int.toNat 45) [V.ref q2]).flatten) hl3
   have e6:(upd G5 l3 (.lst (List.replicate (Int.toNat 45) [V.ref q2]).flatten)) l3=some (.lst (List.replicate (Int.toNat 45) [V.ref q2]).flatten):=Zg
   have ro6:RowsO (upd G5 l3 (.lst (List.replicate (Int.toNat 45) [V.ref q2]).flatten)) (List.replicate (Int.toNat 45) [V.ref q2]).flatten:=RowsO.rep fun v hv=>by
    rw[xP.mp hv]
    exact .inr ⟨q2,.bring m0 30,rfl,S6 _ _ (S5 _ _ e4),om0,Zcx (by decide) (by decide)⟩
   have l6:(List.replicate (Int.toNat 45) [V.ref q2]).flatten.length=45:=Zis
   change _ at e6
   have R6:=R3.same ((S4.trans S5).trans S6)
   refine⟨r1,l3,us1 ++ [.ref q1],(List.replicate (Int.toNat 45) [V.ref q2]).flatten,rfl,rfl,R6.r,e6,by rw[l6,xC];show us1.length+1+45<=sizeLine;lia,fun r2 hr2=>hn7 _ _ ⟨r2,_,rfl,R6.new hr2 (R6.ro.app ro6),by rw[xC,l6,xC];show us1.length+1+45<=90;lia⟩⟩
  rintro σ HD ⟨rl,us,rfl,RD,lD⟩
  clear RC
  have X0:Lx s la dl nl rl ns us O HD []:=⟨RD.u,RD.r,RD.ro,fun b hb=>by
   simp only[xE,yP,or_false] at hb
   rcases hb with rfl | rfl | rfl | rfl | rfl
   ·exact ns1
   ·exact ns2
   ·exact od
   ·exact on
   ·exact RD.o,RD.n1,RD.n2,ndn,ndl⟩
  refine⟨_,rfl,rl,rfl,⟨_,SqL.of RD.r⟩,?_⟩
  refine Ux us (fun i σ H'=>∃(v7 v8 v9 v10:Option V)(as:List AD)(O:Addr->Prop),σ = [some (.ref a0),some (.ref s),some (.ref p),some (.ref dl),some (.ref nl),some (.ref rl),some (.int kd),v7,v8,v9,v10]/\MSt C CM H' p (Zh as).1 (Zh as).2 O/\Lx s la dl nl rl ns us O H' as/\I31 as/\as.length<=i) ⟨_,_,_,_,[],O,rfl,RD.w,X0,I31.nil,xK _⟩ (fun i σ H' _ ⟨_,_,_,_,_,_,_,_,X,_⟩=>SqL.of X.r) ?_ ?_
  ·clear X0 RD ns1 ns2 od on
   rintro i v σ H1 hv ⟨v7,v8,v9,v10,as,O,rfl,W,X,I,hal⟩
   have hi:=(xQ.mp hv).1
   refine Vr (fun σ H'=>∃(v8:Option V)(a:Addr)(d:SD),σ = [some (.ref a0),some (.ref s),some (.ref p),some (.ref dl),some (.ref nl),some (.ref rl),some (.int kd),some (.ref a),v8,v9,v10]/\MSt C CM H' p (Zh as).1 (Zh as).2 O/\Lx s la dl nl rl ns us O H' as/\H' a=some (.tup (sdV d))/\okD d) ?_ ?_
   rotate_left
   ·intro D1 hn1 _ _ _
    have os:=X.o s (by simp)
    have srx:∀{H H':Hp},MSt C CM H p (Zh as).1 (Zh as).2 O->SrcAt H s la->SameX s H H'->MSt C CM H' p (Zh as).1 (Zh as).2 O:=fun W hs k=>by
     obtain⟨_,_,_,_,_,a,_⟩:=id hs
     exact W.x a os k
    rcases X.ro v (xF hv) with rfl | ⟨a,d,rfl,ha,od⟩
    ·refine⟨_,rfl,rfl,_,rfl,Zr (fun _=>?_) (fun z=>absurd rfl z)⟩
     refine Yc fun D2 hn2=>?_
     refine⟨_,rfl,_,rfl,_,rfl,s,la,dl,nl,ns,as,rfl,X.u,fun q d H2 od hq hs2 sx2=>hn2 _ _ ?_⟩
     have W2:=srx W X.u.sr sx2
     have X2:=X.x hs2 sx2
     refine⟨_,rfl,s,la,4,rfl,X2.u.sr,by decide,by decide,fun e H3 e0 e1 hs3 sx3=>?_⟩
     have W3:=srx W2 X2.u.sr sx3
     have X3:=X2.x hs3 sx3
     refine⟨_,_,rfl,rfl,⟨by decide,by decide⟩,_,rfl,s,la,2,rfl,X3.u.sr,by decide,by decide,fun g H4 g0 g1 hs4 sx4=>?_⟩
     have W4:=srx W3 X3.u.sr sx4
     have X4:=X3.x hs4 sx4
     have hb : 0<=e / 2 * (1+g)/\e / 2 * (1+g)<=2:=by
      rcases(show e / 2=0\/e / 2=1 by lia) with h | h<;>rw[h]<;>lia
     refine⟨_,_,rfl,rfl,_,_,rfl,rfl,.inr ⟨by lia,by lia⟩,_,rfl,Int.le_trans (by decide) hb.1,Int.lt_of_le_of_lt hb.2 (by decide),?_⟩
     have hq4:H4 q=some (.tup (sdV d)):=by
      obtain⟨_,_,_,_,_,q2,_⟩:=id X2.u.sr
      have nq:q≠s:=fun z=>by rw[z,q2] at hq;cases hq
      exact sx4 _ _ nq (sx3 _ _ nq hq)
     refine Zd7 (e / 2 * (1+g)).toNat (by lia) (fun j σ H'=>∃(v8:Option V)(a:Addr)(d:SD),σ = [some (.ref a0),some (.ref s),some (.ref p),some (.ref dl),some (.ref nl),some (.ref rl),some (.int kd),some (.ref a),v8,v9,v10]/\MSt C CM H' p (Zh as).1 (Zh as).2 O/\Lx s la dl nl rl ns us O H' as/\H' a=some (.tup (sdV d))/\okD d) ⟨_,q,d,rfl,W4,X4,hq4,od⟩ ?_ ?_
     ·rintro j σ H5 hj ⟨v8,a,d,rfl,W5,X5,ha5,od5⟩
      exact⟨_,rfl,_,rfl,_,rfl,s,la,dl,nl,a,ns,as,d,rfl,X5.u,ha5,od5,fun q' d' H' od' hq' hs' sx'=>⟨_,q',d',rfl,srx W5 X5.u.sr sx',X5.x hs' sx',hq',od'⟩⟩
     ·rintro σ H5 ⟨v8,a,d,rfl,W5,X5,ha5,od5⟩
      exact hn1 _ _ ⟨_,a,d,rfl,W5,X5,ha5,od5⟩
    ·refine⟨_,rfl,rfl,_,rfl,Zr (fun z=>by cases z) (fun _=>?_)⟩
     refine⟨_,rfl,s,la,4,rfl,X.u.sr,by decide,by decide,fun e H2 e0 e1 hs2 sx2=>?_⟩
     have W2:=srx W X.u.sr sx2
     have X2:=X.x hs2 sx2
     obtain⟨_,_,_,_,_,q1,_⟩:=id X.u.sr
     have ha2:=sx2 _ _ (fun z=>by rw[z,q1] at ha;cases ha) ha
     refine⟨rfl,_,rfl,Zr (fun z=>?_) (fun z=>hn1 _ _ ⟨_,a,d,rfl,W2,X2,ha2,od⟩)⟩
     exact⟨_,rfl,_,rfl,_,rfl,s,la,dl,nl,a,ns,as,d,rfl,X2.u,ha2,od,fun q' d' H' od' hq' hs' sx'=>hn1 _ _ ⟨_,q',d',rfl,srx W2 X2.u.sr sx',X2.x hs' sx',hq',od'⟩⟩
   rintro σ H2 ⟨v8,a,d,rfl,W2,X2,ha,od⟩
   clear W X
   have es:=Zuu I d
   have osd:=Zs3 as d
   have oerr:∀x,eSD (Zh as).1 (Zh as).2 d=some x->x∈errs:=Zql _ _ _
   have sok:=Zs2 I od
   have lt:as.length < 90:=by lia
   refine Yc fun D1 hn1=>?_
   refine⟨_,rfl,_,rfl,dl,a,[],as,d,rfl,X2.u.l,ha,X2.u.al,Zqk od,fun H3 S3=>hn1 _ _ ?_⟩
   rw[es] at osd ⊢
   have W3:=W2.same S3
   have X3:=X2.same S3
   have ha3:=S3 _ _ ha
   refine Yc fun D2 hn2=>?_
   refine⟨_,rfl,_,rfl,p,_,_,O,a,d,rfl,W3,ha3,sok,oerr,fun O' H4 l W4 F4 kl=>⟨_,rfl,eSD (Zh as).1 (Zh as).2 d,rfl,osd,fun H5 l2 S5 kl2=>⟨l,l2,Zhb (eSD (Zh as).1 (Zh as).2 d),rfl,rfl,SqL.of (S5 _ _ kl),SqL.of kl2,_,rfl,Z8 (hn2 _ _ ?_)⟩⟩⟩
   have X5:=(X3.frm (fun e=>W3.ntup e) F4).same S5
   have W5:=W4.same S5
   have ha5:=S5 _ _ (F4.1 _ _ ha3 (W3.ntup ha3))
   clear W2 X2 W3 X3 W4 F4
   refine Vr (fun σ H'=>∃(as':List AD),σ = [some (.ref a0),some (.ref s),some (.ref p),some (.ref dl),some (.ref nl),some (.ref rl),some (.int kd),some (.ref a),v8,some (Vj (eSD (Zh as).1 (Zh as).2 d)),v10]/\MSt C CM H' p (Zh as').1 (Zh as').2 O'/\Lx s la dl nl rl ns us O' H' as'/\I31 as'/\as'.length<=as.length+1) ?_ ?_
   rotate_left
   ·intro D3 hn3 _ _ _
    refine⟨_,rfl,rfl,_,rfl,Zr (fun z=>?_) (fun z=>hn3 _ _ ⟨as,rfl,?_,X5,I,by lia⟩)⟩
    ·have e:=(Uj osd).mp z
     have hst:stB (Zh as).1 (Zh as).2 d=Zh (as ++ [.s d]):=by rw[Zeb];exact if_pos e
     rw[hst] at W5
     obtain⟨vs,hd1,hd2⟩:=id X5.u.l
     have hvl:=hd2.length
     rw[xA] at hvl
     refine⟨_,rfl,.inl ⟨rfl,_,SqL.of hd1⟩,_,rfl,dl,vs,.ref a,rfl,rfl,hd1,by lia,hn3 _ _ ⟨as ++ [.s d],rfl,W5.x hd1 (X5.o dl (by simp)) SameX.upd,X5.add (by lia) hd1 ha5,I.snoc (by lia),by rw[Vu];lia⟩⟩
    ·have e:eSD (Zh as).1 (Zh as).2 d≠none:=fun e=>z ((Uj osd).mpr e)
     have hst:stB (Zh as).1 (Zh as).2 d=Zh as:=if_neg e
     rw[hst] at W5;exact W5
   rintro σ H6 ⟨as',rfl,W6,X6,I6,l6⟩
   obtain⟨M,wa,xs,qs,hM,WM,_⟩:=id W6
   obtain⟨dm,obm⟩:=WM.ob
   have ep:∀l:List V,V.ref p::l=V.ref M.p::l:=fun l=>by rw[hM]
   rw[hM] at obm
   refine Yc fun D4 hn4=>?_
   refine⟨_,rfl,p,dm,_,rfl,obm,Y9 _ (by decide +kernel),M,_,wa,xs,_,qs,ep _,WM,hn4 _ _ ?_⟩
   rw[Zib]
   obtain⟨ty,t1,t2⟩:=isi (K:=K) (H:=H6) (d:=.int as'.length) (v:=.int as'.length) rfl "bool" (by decide)
   obtain⟨vs,hd1,hd2⟩:=id X6.u.l
   have hvl:=hd2.length
   rw[xA] at hvl
   refine⟨_,rfl,_, "bool", ty,_,rfl,t1,t2,_,rfl,Z8 ⟨_,rfl,_,rfl,dl,vs,rfl,.inl (SqL.of hd1),rfl,_,rfl,?_⟩⟩
   rw[hvl]
   exact Wb (fun z=>absurd rfl z) (fun _=>⟨_,_,_,_,as',O',rfl,W6,X6,I6,by lia⟩)
  ·rintro σ H' ⟨v7,v8,v9,v10,as,O,rfl,_⟩
   exact k _
end
def cE(x:Str):Addr:=(([("MootError", 38),("NoName", 58),("NoMeasure", 77),("Unknown", 96),("Taken", 115),("NoThing", 134),("NoCase", 153),("NoOath", 172),("NotYet", 191),("Dead", 210),("NoHeir", 229),("TooMany", 248),("SwornTwice", 267),("Forsworn", 286),("TooLight", 305),("Broken", 324),("NoDeed", 343)]:List (Str×Addr)).lookup x).getD 0
local macro_rules | `(tactic| walk_at "k")=>`(tactic| ((repeat' (refine And.intro ?_ ?_))<;>kernel_rfl))
theorem all_mk{Pz:Program}{w:World}{h:Heap}{mg:Str->Option Value}{fa:Addr}(X:(KK w.params).In h)(G:h.Ns mainGlobals mg)(hfa:mg "law" = some (.ref fa)) :
  ∃fd:FuncData,(∀(s:Shared)(v:Value),BindsTo s fd ⟨[v],[]⟩ [("_law_script", v)])/\∀base:Heap,(KK w.params).In base->base.Ns mainGlobals mg->FnOk Pz w (KK w.params) mg base CX0 40 fa fd ["_law_script"] (Zdm (KK w.params)):=by
 have e:some (Value.ref fa)=some (.ref 1071):=hfa.symm.trans (PySem.W.mg_of X G (by kernel_rfl))
 cases e
 have Zga:=hQ "done" Zla 352 351 pm0 X G (by walk_at "k")
 have Zbo:=hQ "check_day" Zff 359 358 pm1 X G (by walk_at "k")
 have Zbt:=hQ "check_weight" Zfg 366 365 pm1 X G (by walk_at "k")
 have Zy2:=hQ "check_need" Zwr 373 372 pm1 X G (by walk_at "k")
 have Zfx:=hQ "check_money" Zkx 380 379 pm1 X G (by walk_at "k")
 have Zfd:=hQ "is_name" Zkr 385 384 pm2 X G (by walk_at "k")
 have Zy3:=hQ "total" Zwg 390 389 pm2 X G (by walk_at "k")
 have Zy4:=hQ "settled" Zwk 556 555 pm4 X G (by walk_at "k")
 have Zy5:=hQ "settled_with" Zwj 563 562 pm4 X G (by walk_at "k")
 have Zy6:=hQ "breakers" Zw3 570 569 pm4 X G (by walk_at "k")
 have Zy7:=hQ "breaking" Zwm 575 574 pm4 X G (by walk_at "k")
 have Zy8:=hQ "naming" Zwl 582 581 pm4 X G (by walk_at "k")
 have Zfz:=hQ "check_case" Zkz 589 588 pm4 X G (by walk_at "k")
 have Zf1:=hQ "check_oath" Zk1 594 593 pm4 X G (by walk_at "k")
 have Zy9:=hQ "margin_without" Zwi 601 600 pm4 X G (by walk_at "k")
 have Zza:=hQ "kept_weight" Zwh 606 605 pm4 X G (by walk_at "k")
 have Ze7:=hQ "_law_src" Zkn 931 930 pm6 X G (by walk_at "k")
 have Ze8:=hQ "_law_next" Zko 938 937 pm6 X G (by walk_at "k")
 have Zfa:=hQ "_law_unlike" Zkp 945 944 pm6 X G (by walk_at "k")
 have Ze9:=hQ "_law_word" Zcm 950 949 pm6 X G (by walk_at "k")
 have Zfb:=hQ "_law_names" Zkq 957 956 pm6 X G (by walk_at "k")
 have Zgd:=hQ "_law_came" Zld 964 963 pm6 X G (by walk_at "k")
 have Zge:=hQ "_law_death" Zle 971 970 pm6 X G (by walk_at "k")
 have Zgf:=hQ "_law_is_dead" Zlf 978 977 pm6 X G (by walk_at "k")
 have Zgc:=hQ "_law_one" Zlc 985 984 pm6 X G (by walk_at "k")
 have Zgg:=hQ "_law_is_name" Zlg 992 991 pm6 X G (by walk_at "k")
 have Zgh:=hQ "_law_bringings" Zlh 997 996 pm6 X G (by walk_at "k")
 have Zgk:=hQ "_law_folk_of" Zgj 1002 1001 pm6 X G (by walk_at "k")
 have Zgi:=hQ "_law_day_of" Zli 1009 1008 pm6 X G (by walk_at "k")
 have Zgl:=hQ "_law_measured" Zlj 1016 1015 pm6 X G (by walk_at "k")
 have Zgn:=hQ "_law_early_due" Zlk 1023 1022 pm6 X G (by walk_at "k")
 have Zgo:=hQ "_law_late_due" Zcq 1028 1027 pm6 X G (by walk_at "k")
 have Zgp:=hQ "_law_due" Zll 1033 1032 pm6 X G (by walk_at "k")
 have Zgq:=hQ "_law_plain_deed" Zlm 1040 1039 pm6 X G (by walk_at "k")
 have Zgs:=hQ "_law_kinds" Zlp 1047 1046 pm6 X G (by walk_at "k")
 have Zgu:=hQ "_law_kinds_of" Zgt 1052 1051 pm6 X G (by walk_at "k")
 have Zgr:=hQ "_law_wild" Zlo 1066 1065 pm6 X G (by walk_at "k")
 have F_law:=Zew (K:=KK w.params) (x:="law") (qual:="law") (st:=Zbr) (f:=1071) (oc:=.type "function") (od:=none) (an:=none) (osl:=#[]) (kV:=.none) (doc:=.none) (pm:=(.str "law_forsworn_k31_whole_plain_deeds_refused" 1382)) (cdv:=(.ref 1070)) (ct:=.none) (by kernel_rfl) (by kernel_rfl) (by kernel_rfl)
 have Zfk:=hMQ (K:=KK w.params) 545 "__init__" "Folk.__init__" Zkt 404 403 pm3 (by walk_at "k")
 have Zfn:=hMQ (K:=KK w.params) 545 "come" "Folk.come" Zku 411 410 pm3 (by walk_at "k")
 have Zfq:=hMQ (K:=KK w.params) 545 "rise" "Folk.rise" Zkv 418 417 pm3 (by walk_at "k")
 have Zft:=hMQ (K:=KK w.params) 545 "die" "Folk.die" Zkw 425 424 pm3 (by walk_at "k")
 have Zfj:=hMQ (K:=KK w.params) 545 "died_by" "Folk.died_by" Zks 479 478 pm3 (by walk_at "k")
 have Zbw:=hMQ (K:=KK w.params) 545 "check_coming" "Folk.check_coming" Zfl 500 499 pm3 (by walk_at "k")
 have Zby:=hMQ (K:=KK w.params) 545 "check_rise" "Folk.check_rise" Zfp 507 506 pm3 (by walk_at "k")
 have Zb0:=hMQ (K:=KK w.params) 545 "check_death" "Folk.check_death" Zfs 514 513 pm3 (by walk_at "k")
 have Zbu:=hMQ (K:=KK w.params) 545 "check_known" "Folk.check_known" Zfh 521 520 pm3 (by walk_at "k")
 have Zbv:=hMQ (K:=KK w.params) 545 "check_there" "Folk.check_there" Zfi 528 527 pm3 (by walk_at "k")
 have Zbx:=hMQ (K:=KK w.params) 545 "check_living" "Folk.check_living" Zfo 535 534 pm3 (by walk_at "k")
 have Zbz:=hMQ (K:=KK w.params) 545 "check_untold" "Folk.check_untold" Zfr 542 541 pm3 (by walk_at "k")
 have TcFolk:Zsk (KK w.params) 545:=by
  refine⟨⟨?_,?_,?_,?_⟩,?_,?_,?_,?_⟩<;>(show _=_;kernel_rfl)
 have mkFolk:PySem.W.makesIn (KK w.params) 545=true:=by kernel_rfl
 have kcFolk:PySem.W.keepIn (KK w.params) (.ref 545)=true:=by kernel_rfl
 have gCFolk:mg "Folk" = some (.ref 545):=PySem.W.mg_of X G (by kernel_rfl)
 have Zgb:=hMQ (K:=KK w.params) 920 "__init__" "Moot.__init__" Zlb 620 619 pm5 (by walk_at "k")
 have Zf4:=hMQ (K:=KK w.params) 920 "come" "Moot.come" Zk4 627 626 pm5 (by walk_at "k")
 have Zf8:=hMQ (K:=KK w.params) 920 "rise" "Moot.rise" Zk8 634 633 pm5 (by walk_at "k")
 have Zf9:=hMQ (K:=KK w.params) 920 "die" "Moot.die" Zk9 641 640 pm5 (by walk_at "k")
 have Zf3:=hMQ (K:=KK w.params) 920 "penance" "Moot.penance" Zk3 648 647 pm5 (by walk_at "k")
 have Zf5:=hMQ (K:=KK w.params) 920 "bring" "Moot.bring" Zk5 655 654 pm5 (by walk_at "k")
 have Zf6:=hMQ (K:=KK w.params) 920 "give" "Moot.give" Zk6 662 661 pm5 (by walk_at "k")
 have Zf7:=hMQ (K:=KK w.params) 920 "pay" "Moot.pay" Zk7 669 668 pm5 (by walk_at "k")
 have Zgw:=hMQ (K:=KK w.params) 920 "now" "Moot.now" Zlr 697 696 pm5 (by walk_at "k")
 have Zf2:=hMQ (K:=KK w.params) 920 "check_named" "Moot.check_named" Zk2 896 895 pm5 (by walk_at "k")
 have Zfy:=hMQ (K:=KK w.params) 920 "check_thing" "Moot.check_thing" Zky 903 902 pm5 (by walk_at "k")
 have Zf0:=hMQ (K:=KK w.params) 920 "check_moments" "Moot.check_moments" Zk0 917 916 pm5 (by walk_at "k")
 have TcMoot:TxCMoot (KK w.params) 920:=by
  refine⟨⟨?_,?_,?_,?_⟩,?_,?_,?_,?_,?_,?_,?_,?_,?_⟩<;>(show _=_;kernel_rfl)
 have mkMoot:PySem.W.makesIn (KK w.params) 920=true:=by kernel_rfl
 have kcMoot:PySem.W.keepIn (KK w.params) (.ref 920)=true:=by kernel_rfl
 have gCMoot:mg "Moot" = some (.ref 920):=PySem.W.mg_of X G (by kernel_rfl)
 have er:Er (KK w.params) mg cE errs:=Zvt X G (by kernel_rfl)
 have al_breakers_stands:mg "breakers_stands" = mg "breakers" := (PySem.W.mg_of X G (by kernel_rfl):mg "breakers_stands" = some (.ref 570)).trans (PySem.W.mg_of X G (by kernel_rfl):mg "breakers" = some (.ref 570)).symm
 have c_LAST_DAY:mg "LAST_DAY" = some (.int 9999 602):=PySem.W.mg_of X G (by kernel_rfl)
 have c_MOST_WEIGHT:mg "MOST_WEIGHT" = some (.int 1000 604):=PySem.W.mg_of X G (by kernel_rfl)
 have c_MOST_NEED:mg "MOST_NEED" = some (.int 12000 606):=PySem.W.mg_of X G (by kernel_rfl)
 have c_MOST_MONEY:mg "MOST_MONEY" = some (.int 1000000 608):=PySem.W.mg_of X G (by kernel_rfl)
 have c_LONGEST_NAME:mg "LONGEST_NAME" = some (.int 12 640):=PySem.W.mg_of X G (by kernel_rfl)
 have c_MOST_FOLK:mg "MOST_FOLK" = some (.int 40 656):=PySem.W.mg_of X G (by kernel_rfl)
 have c_ONES:mg "ONES" = some (.int 0 865):=PySem.W.mg_of X G (by kernel_rfl)
 have c_OTHERS:mg "OTHERS" = some (.int 1 867):=PySem.W.mg_of X G (by kernel_rfl)
 have c_NEED:mg "NEED" = some (.int 2 869):=PySem.W.mg_of X G (by kernel_rfl)
 have c_NAMED:mg "NAMED" = some (.int 3 871):=PySem.W.mg_of X G (by kernel_rfl)
 have c_MOST_THINGS:mg "MOST_THINGS" = some (.int 40 951):=PySem.W.mg_of X G (by kernel_rfl)
 have c_MOST_CASES:mg "MOST_CASES" = some (.int 60 953):=PySem.W.mg_of X G (by kernel_rfl)
 have c_MOST_SWEARERS:mg "MOST_SWEARERS" = some (.int 12 955):=PySem.W.mg_of X G (by kernel_rfl)
 have c_MOST_MOMENTS:mg "MOST_MOMENTS" = some (.int 400 957):=PySem.W.mg_of X G (by kernel_rfl)
 have T:Txt mg:=⟨PySem.W.mg_none_of X G (by kernel_rfl),PySem.W.mg_none_of X G (by kernel_rfl),PySem.W.mg_none_of X G (by kernel_rfl),PySem.W.mg_none_of X G (by kernel_rfl),PySem.W.mg_none_of X G (by kernel_rfl),PySem.W.mg_none_of X G (by kernel_rfl),PySem.W.mg_none_of X G (by kernel_rfl),PySem.W.mg_none_of X G (by kernel_rfl),PySem.W.mg_none_of X G (by kernel_rfl),PySem.W.mg_none_of X G (by kernel_rfl),PySem.W.mg_none_of X G (by kernel_rfl),PySem.W.mg_none_of X G (by kernel_rfl),PySem.W.mg_none_of X G (by kernel_rfl),PySem.W.mg_none_of X G (by kernel_rfl),PySem.W.mg_none_of X G (by kernel_rfl),PySem.W.mg_none_of X G (by kernel_rfl)⟩
 exact⟨PySem.W.fnOf "law" "law" (Y3 Zbr) (Z9 Zbr) (Zs Zbr) .none .none .none (.str "law_forsworn_k31_whole_plain_deeds_refused" 1382) none (.ref 1070) .none,fun s v=>.of_eq rfl,fun base _ _=>by
  have F1:=Zvu (P:=Pz) (w:=w) (base:=base) Ze7 T
  have F2:=Zvv (P:=Pz) (w:=w) (base:=base) Ze8 T
  have F3:=Zvx Ze9 T F2
  have F4:=Zvy (P:=Pz) (w:=w) (base:=base) Zfa T
  have F5:=Zvz Zfb T F2 F3 F4
  have F9:=Zv1 (P:=Pz) (w:=w) (base:=base) Zfd T ⟨_,c_LONGEST_NAME⟩
  have F10:=Zv2 (P:=Pz) (w:=w) (base:=base) Zbo ⟨_,c_LAST_DAY⟩
  have F11:=Zv3 (P:=Pz) (w:=w) (base:=base) Zbt ⟨_,c_MOST_WEIGHT⟩
  have E10:=Zwp (P:=Pz) (w:=w) (base:=base) Zbo ⟨_,c_LAST_DAY⟩ er
  have E11:=Zwq (P:=Pz) (w:=w) (base:=base) Zbt ⟨_,c_MOST_WEIGHT⟩ er
  have F12:=Zws (P:=Pz) (w:=w) (base:=base) Zfx ⟨_,c_MOST_MONEY⟩ er
  have M1:=Zv4 (P:=Pz) (w:=w) (mg:=mg) (base:=base) Zbu TcFolk
  have M2:=Zv5 (P:=Pz) (w:=w) (mg:=mg) (base:=base) Zbv TcFolk
  have M3:=Zv6 (P:=Pz) (w:=w) (mg:=mg) (base:=base) Zfj TcFolk
  have M4:=Zwa Zbx TcFolk M3
  have M5:=Zwd (P:=Pz) (w:=w) (mg:=mg) (base:=base) Zbz TcFolk
  have X1:=Zwt (P:=Pz) (w:=w) (base:=base) Zbu TcFolk er
  have X2:=Zwu (P:=Pz) (w:=w) (base:=base) Zbv TcFolk er
  have X3:=Zwv Zbx TcFolk er M3
  have X4:=Zww (P:=Pz) (w:=w) (base:=base) Zbz TcFolk er
  have X5:=Zwx Zbw T TcFolk ⟨_,c_MOST_FOLK⟩ er F9 E10 E11
  have X6:=Zwy Zby TcFolk E10 E11 X1 X2 X3
  have X7:=Zwz Zb0 TcFolk er E10 X1 X2 X4
  have M6:=Zv8 Zbw T TcFolk ⟨_,c_MOST_FOLK⟩ F9 F10 F11
  have M7:=Zv9 Zfn TcFolk M6
  have M9:=Zwc Zfq TcFolk (Zwb Zby TcFolk F10 F11 M1 M2 M4)
  have M10:=Zwf Zft TcFolk (Zwe Zb0 TcFolk F10 M1 M2 M5)
  have M0:=(Zv7 (P:=Pz) (w:=w) (mg:=mg) (base:=base) Zfk TcFolk).mks mkFolk kcFolk gCFolk
  have G7:=Zw0 (P:=Pz) (w:=w) (base:=base) Zfz T er
  have G8:=Zw1 Zf1 T ⟨_,c_ONES⟩ ⟨_,c_OTHERS⟩ er G7
  have N1:=fun C=>Zmt (P:=Pz) (w:=w) (base:=base) (C:=C) Zf0 T TcMoot er ⟨_,c_MOST_MOMENTS⟩
  have N2:=fun C=>Zmx (P:=Pz) (w:=w) (base:=base) (C:=C) Zfy T TcMoot er
  have N3:=Zmy Zf2 TcFolk TcMoot er X1 X2 X3 (N2 _) G8
  have N0:=(Zsp Zgb TcMoot M0).mks mkMoot kcMoot gCMoot
  have P4:=Zn4 Zf3 T TcFolk TcMoot X1 X4 (N1 _)
  have P5:=Zsl Zf4 TcFolk TcMoot X5 M7 (N1 _)
  have P6:=Zqd Zf5 T TcMoot ⟨_,c_MOST_THINGS⟩ er E10 N3 (N1 _)
  have P7:=Zsm Zf6 TcMoot E10 N3 (N1 _)
  have P8:=Zui Zf7 TcMoot F12 E10 N3 (N1 _)
  have P9:=Zso Zf8 TcFolk TcMoot X6 M9 (N1 _)
  have P10:=Zuk Zf9 TcFolk TcMoot X7 M10 (N1 _)
  have P11:=Zw7 Zga TcMoot er P5 P9 P10 P4 P6 P7 P8
  have R1:=Zw9 Zgc T F2
  have R2:=Zxa (P:=Pz) (w:=w) (base:=base) Zgd T
  have R3:=Zxb (P:=Pz) (w:=w) (base:=base) Zge T
  have R4:=Zxc Zgf T R3
  have R5:=Zxd (P:=Pz) (w:=w) (base:=base) Zgg T
  have R6:=Zxf (P:=Pz) (w:=w) (base:=base) Zgh T
  have R7:=Zxg (P:=Pz) (w:=w) (base:=base) Zgi T
  have R8:=Zxh (P:=Pz) (w:=w) (base:=base) Zgk T
  have R9:=Zxi Zgl T R7
  have R10:=Zxj Zgn T R5 R9 R8 R2 R6
  have R11:=Zxn Zgo T R7 R8 R2 R3 R4 R6
  have R12:=Zxp Zgp T R10 R11 R6
  have R13:=Zxs Zgq T F2 R1 R6
  have R14:=Zxt Zgr T F2
  have R15:=Zxu Zgs T er P11
  have R16:=Zxw (P:=Pz) (w:=w) (base:=base) Zgu T
  have R17:=fun C=>Zuv (P:=Pz) (w:=w) (base:=base) (C:=C) Zgw T TcMoot
  exact(Zxx F_law T TcMoot F1 F2 F5 N0 R13 R14 R12 R15 R16 (R17 _)).mono (by decide)⟩
end Law
open PySem PySem.W PyProof.Rows
set_option maxRecDepth 100000 in
set_option maxHeartbeats 0 in
theorem PySem.Challenge.cw_forsworn_k31_whole_plain_deeds_refused_holds : PySem.Challenge.rw_forsworn_k31_whole_plain_deeds_refused.Holds := by
 w_on;o_law
 refine holds_open (q:=Law.q) (loose:=["breakers_stands"]) (Xt:=fun s=>xlAt Law.q [] s && recOk (RowW.records PySem.Challenge.rw_forsworn_k31_whole_plain_deeds_refused.row.toRowW) s) (XP:=XL Law.q []) (Yf:=Law.HK.obs) (Ya:=Law.HK.val) (YP:=Law.HK.says) (N:=12098) Law.left Law.HK.of Law.HK.keeps (fun s e=>xl_of s (Bool.and_eq_true_iff.mp e).1) XL.keeps (by rfl) (by rfl) (by rfl) (fun s e=>recFacts_of (Bool.and_eq_true_iff.mp e).2) (by rfl) (by first | assumption | decide +kernel) (by decide +kernel) ⟨rfl,rfl,rfl,rfl,rfl,by decide +kernel⟩ ?hw ?hc
 case hw=>w_witness2
 refine L2.walkLaw (l:=PySem.Challenge.rw_forsworn_k31_whole_plain_deeds_refused) rfl rfl (fun w h Y=>PySem.W.kIn_of (K:=Law.KK) Y) fun w mg fa h KX G hmg=>Law.all_mk KX G hmg
namespace Law
end Law
