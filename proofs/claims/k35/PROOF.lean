import PyProof.Rows.All
import Wide.All
import OpenK.AllK
import Wide.FinOn
import Lean
import PyProof.EqAt
import PyProof.EqKinds
import PyProof.TupleCall
import KE.KSortTup
import PyProof.NeKinds
import KE.KLam
import KE.KNestM
import KE.KSortKey
import PyProof.ExcArgsOwn
import PyProof.ExcAttrAll.ValueError
import KE.KIsAll
import KE.KIntText
import PyProof.Rows.StrNews
import PyProof.Rows.StrSplitCount
import PyProof.Rows.SetFrom
import PyProof.Conv_int_bool
import PySem.Challenge.RW_forsworn_k35_four_hundred_moments
set_option Elab.async false
set_option linter.all false
set_option maxRecDepth 100000
set_option maxHeartbeats 4000000
abbrev xA:=@PySem.Heap.get?_push_of_some
abbrev xB:=@List.length_map
abbrev xC:=@List.getElem?_eq_getElem
abbrev xD:=@List.mem_cons
abbrev xE:=@Nat.le_refl
abbrev xF:=@List.getElem?_eq_some_iff
abbrev xG:=@Option.none_or
abbrev xH:=@Bool.false_ne_true
abbrev xI:=@List.mem_of_getElem?
abbrev xJ:=@List.mem_append
abbrev xK:=@List.mem_singleton
abbrev xL:=@List.mem_append_right
abbrev xM:=@PySem.Heap.lt_size
abbrev xN:=@List.length_append
abbrev xO:=@List.getElem?_map
abbrev xP:=@PySem.Heap.get?_push_size
abbrev xQ:=@List.size_toArray
abbrev xR:=@List.not_mem_nil
abbrev xS:=@List.getD_eq_getElem?_getD
abbrev xT:=@Nat.le_trans
abbrev xU:=@List.length_cons
abbrev xV:=@List.map_append
abbrev xW:=@List.mem_cons_of_mem
abbrev xX:=@List.length_take
abbrev xY:=@List.cons_append
abbrev xZ:=@Option.map_eq_some_iff
abbrev yC:=@List.mem_cons_self
abbrev yD:=@Nat.ne_of_lt
abbrev yE:=@List.map_cons
abbrev yF:=@Nat.lt_of_lt_of_le
abbrev yG:=@List.take_of_length_le
abbrev yH:=@List.nodup_cons
abbrev yI:=@decide_eq_false
abbrev yJ:=@Nat.zero_le
abbrev yK:=@Int.eq_ofNat_of_zero_le
abbrev yL:=@decide_eq_true
abbrev yM:=@List.lookup_cons
abbrev yN:=@Int.toNat_natCast
abbrev yO:=@List.append_assoc
abbrev yP:=@List.take_add_one
abbrev yQ:=@List.append_nil
abbrev yR:=@List.replicate_succ
abbrev yS:=@Nat.lt_of_le_of_lt
abbrev yT:=@Bool.and_eq_true
abbrev yU:=@List.take_length
abbrev yV:=@List.nil_append
abbrev yW:=@Option.bind_some
abbrev yX:=@List.mem_append_left
abbrev yY:=@PySem.Heap.size_push
abbrev yZ:=@List.of_mem_zip
abbrev zA:=@List.getElem?_zip_eq_some
abbrev zB:=@Nat.le_of_lt
abbrev zC:=@List.mem_map
abbrev zD:=@List.getElem?_append_right
abbrev zE:=@List.all_eq_true
abbrev zF:=@List.getElem?_append_left
abbrev zG:=@Bool.eq_iff_iff
abbrev zH:=@Nat.lt_irrefl
abbrev zI:=@Bool.false_and
abbrev zJ:=@Bool.false_eq_true
abbrev zK:=@List.find?_cons
abbrev zL:=@List.length_singleton
abbrev zM:=@List.getElem?_eq_none
abbrev zN:=@Option.or_eq_none_iff
abbrev zO:=@Array.getElem?_eq_some_iff
abbrev zP:=@List.flatten_cons
abbrev zQ:=@List.getElem?_range
abbrev zR:=@List.take_succ_cons
abbrev zS:=@Option.map_some
abbrev zT:=@PySem.Heap.get?_update_other
abbrev zU:=@Nat.le_succ_of_le
abbrev zV:=@PySem.Heap.get?_update_self
abbrev zW:=@List.length_filter_le
abbrev zX:=@List.getElem_mem
abbrev uFg:=PySem.W.Frag
section
namespace L2
open PySem PySem.W
def topRunT(tb:String->Option Builtin)(p:Program)(w:World)(m:Nat)(ann:Option Value):Nat->SharedT->Thread->Option SharedT
 | 0,_,_=>none
 | n+1,s,t=>match through t with
  | true=>some s
  | false=>match stepOk m ann t with
   | false=>none
   | true=>match stepT (denote tb) p w s t with
    | some x=>topRunT tb p w m ann n x.1 x.2
    | none=>none
theorem Zfi{tb:String->Option Builtin}{p:Program}{w:World}{m:Nat}{ann:Option Value}:∀{n:Nat}{s r:SharedT}{t:Thread},topRunT tb p w m ann n s t=some r->topRun tb p w m ann n s.abs t=some r.abs
 | 0,s,r,t,h=>by cases h
 | n+1,s,r,t,h=>by
  unfold topRunT at h
  unfold topRun
  cases a:through t with
  | true=>rw[a] at h;cases h;rfl
  | false =>
   rw[a] at h
   cases b:stepOk m ann t with
   | false=>rw[b] at h;cases h
   | true =>
    rw[b] at h
    cases c:stepT (denote tb) p w s t with
    | none=>rw[c] at h;cases h
    | some x=>obtain⟨s2,t2⟩:=x;rw[c] at h;dsimp only at h ⊢;rw[stepT_spec c];exact Zfi h
def Ze8:List Obj->Nat->BT->BT
 | [],_,t=>t
 | o::r,i,t=>Ze8 r (i+1) (t.ins i o)
noncomputable def s0T (P:Params) (os:OsState):SharedT:=⟨Ze8 (boot_heap P).objs.toList 0 .nil,11,(boot_heap P).life,#[],boot_drawn,boot_toks,os⟩
noncomputable def seenT {α:Type}(p q:Program) (loose:List Str) (Xt:Shared->Bool) (Yf:Shared->α) (P:Params) (s:Shared) :=
 (staticsOk (importedModules p.main.body) (boot_heap P) s.heap && namesBound p s.heap && gensDone s && laidKept (boot_heap P) s.heap,openSeen q loose (importedModules p.main.body) Xt true s,Yf s)
theorem Zmo(P:Params)(os:OsState):(s0T P os).abs=⟨boot_heap P,#[],boot_drawn,boot_toks,os⟩:=by kernel_rfl
theorem Zle(P:Params):((boot_heap P).isNs mainGlobals && (#[]:Array GenState).size == 0,(boot_heap P).objs.size,(boot_heap P).nsMap mainGlobals "__annotations__")=(true,11,some (.ref 6)):=by kernel_rfl
theorem Z45{p q:Program}{loose:List Str}{Xt:Shared->Bool}{α:Type}{Yf:Shared->α}{Ya:World->α}{N:Nat}(e:opening p=plainProg p.main.scope.names)(hN:Nat.ble 600 N=true)(f:∀s,fenceModules? p s=some s)(run:∀ (w:World) (os:OsState),(topRunT treeTable p w 11 (some (.ref 6)) N (s0T w.params os) (topStub p)).map (fun s=>seenT p q loose Xt Yf w.params s.abs)=some (true,openGood q loose,Ya w)):LeftO p q loose Xt Yf Ya N:=fun w=>by
 obtain⟨⟨h,gs,d,k,os⟩,e1,e2⟩:=xZ.mp (boot_open e hN f w)
 obtain⟨rfl,rfl,rfl,rfl⟩:h=boot_heap w.params/\gs = #[]/\d=boot_drawn/\k=boot_toks:=by simpa using e2
 obtain⟨s,r1,r2⟩:=xZ.mp (run w os)
 unfold seenT at r2
 obtain⟨l1,l2,l3⟩:_/\_/\_:=by simpa only [Prod.mk.injEq] using r2
 have r:=Zfi r1
 rw[Zmo] at r
 obtain⟨z1,z2,z3⟩:_/\_/\_:=by simpa only [Prod.mk.injEq] using Zle w.params
 have t:topFrom treeTable p w N ⟨boot_heap w.params,#[],boot_drawn,boot_toks,os⟩=some s.abs:=by
  unfold topFrom
  dsimp only
  rw[z1,z2,z3,r]
  show (match staticsOk (importedModules p.main.body) (boot_heap w.params) s.abs.heap && namesBound p s.abs.heap && gensDone s.abs && laidKept (boot_heap w.params) s.abs.heap with | true=>some s.abs | false=>none)=_
  rw[l1]
 unfold openEnds
 rw[e1]
 show (topFrom treeTable p w N _).map _=_
 rw[t]
 exact congrArg some (Prod.ext l2 l3)
def Zr(p:Program)(i:Nat):Stmt:=p.main.body.getD i (.Pass ⟨0,0,0,0⟩)
def hIn(s:Stmt)(j:Nat):Stmt:=match s with
 | .ClassDef _ _ _ b _ _ _ _ _ _ _=>b.getD j (.Pass ⟨0,0,0,0⟩)
 | _=>s
def Zot(s:Stmt):Arguments:=match s with
 | .FunctionDef _ a _ _ _ _ _ _ _ _=>a
 | _=>⟨[],[],none,[],[],none,[]⟩
def Zou(s:Stmt):List Stmt:=match s with
 | .FunctionDef _ _ b _ _ _ _ _ _ _=>b
 | _=>[]
def Znp(s:Stmt):Scope:=match s with
 | .FunctionDef _ _ _ _ _ _ c _ _ _=>c
 | _=>{kind:=.function,names:=[],isGenerator:=false,isCoroutine:=false }
def de(P:Params)(n:Str)(t:Tok)(v:Value):DictEntry:=⟨PyData.keyHash P n,.str n t,v⟩
def kFn(n q:Str)(st:Stmt)(pm:Value)(c:Addr):Obj:=⟨.type "function", none,.func (PySem.W.fnOf n q (Zot st) (Zou st) (Znp st) .none .none .none pm none (.ref c) .none),#[]⟩
def kC(n q:Str)(t l a u:Nat)(r s v x y:Value):Obj:=⟨.type "code", none,.fields #[.str n t,.str q (t+1),.str "/claim/cut.py" (t+2),.int l 0,.int a 0,.int 0 0,.int 0 0,.int 3 0,r,.bool true,.int 181 0,s,.none,v,x,y,.int u 0,.int l 0,.str "/claim/cut.py" (u+1)],#[]⟩
def kg(c:Nat)(n q:Str)(t l a u:Nat)(st:Stmt)(pm:Value)(r:uFg):uFg:=(c,kC n q t l a u (.ref (c - 5)) (.ref (c - 4)) (.ref (c - 3)) (.ref (c - 2)) (.ref (c - 1)))::(c+1,kFn n q st pm c)::r
def kg0(c:Nat)(n q:Str)(t l a u:Nat)(st:Stmt)(pm:Value)(r:uFg):uFg:=(c,kC n q t l a u (.ref (c - 3)) (.ref (c - 2)) .none .none (.ref (c - 1)))::(c+1,kFn n q st pm c)::r
def kE(P:Params)(a:Nat)(n:Str)(l t:Nat)(r:uFg):uFg:=(a,⟨.type "dict", none,.dict #[de P "__module__" t (.str "forsworn.errors" 194),de P "__firstlineno__" (t+4) (.int l (t+3)),de P "called" (t+11) (.ref (a - 2)),de P "__static_attributes__" (t+12) (.ref (a - 1)),de P "__doc__" (t+13) .none] 2,#[]⟩)::(a+1,⟨.type "type", none,.cls {name:=n,bases:=[.ref 38],mro:=[.ref (a+1),.ref 38,.type "ValueError", .type "Exception", .type "BaseException", .type "object"],ns:=a,qualname:=n,hasDict:=true,slotNames:=[],subclasses:=[],abstract:=false,collection:=none,hasDel:=false },#[some (.ref (a - 15)),none,some (.str n (t - 7)),some (.str n (t+1)),some (.builtin "ValueError.__new__"),some (.bool true)]⟩)::r
def kpO(x:Addr×Obj)(r:uFg):uFg:=x::r
def kf(c:Nat)(n:Str):=kg c n n
def kf0(c:Nat)(n:Str):=kg0 c n n
end L2
namespace PySem.W.Fast
noncomputable def tw14598715356260435866:PySem.Params->PySem.Obj:=PySem.W.boot_o_0
theorem te14598715356260435866:PySem.W.boot_o_0=tw14598715356260435866:=rfl
end PySem.W.Fast
lay_quick L2.topRunT L2.s0T L2.seenT
end
section
namespace L2
open PySem PySem.W PyProof.Rows
abbrev p0:Pos:=⟨0,0,0,0⟩
def Zdf(p:Program):Env:={scope:=p.main.scope,locals:=mainNs,globals:=mainNs,cells:=[],code:=.ref 13,frame:=some 14 }
def cP(p:Program):Code:=.body (behindTheImports p) (Zdf p)
def Zee(tb:String->Option Builtin)(p:Program)(w:World)(m:Nat)(ann:Option Value):Nat->SharedT->Thread->Option (SharedT×Thread)
 | 0,s,t=>some (s,t)
 | n+1,s,t=>match through t with
  | true=>none
  | false=>match stepOk m ann t with
   | false=>none
   | true=>match stepT (denote tb) p w s t with
    | some x=>Zee tb p w m ann n x.1 x.2
    | none=>none
theorem Zlf{tb:String->Option Builtin}{p:Program}{w:World}{m:Nat}{ann:Option Value}:∀{n:Nat}{s r:SharedT}{t u:Thread},Zee tb p w m ann n s t=some (r,u)->topGo tb p w m ann n s.abs t=some (r.abs,u)
 | 0,s,r,t,u,h=>by cases h;rfl
 | n+1,s,r,t,u,h=>by
  unfold Zee at h
  unfold topGo
  cases a:through t with
  | true=>rw[a] at h;cases h
  | false =>
   rw[a] at h
   cases b:stepOk m ann t with
   | false=>rw[b] at h;cases h
   | true =>
    rw[b] at h
    cases c:stepT (denote tb) p w s t with
    | none=>rw[c] at h;cases h
    | some x=>obtain⟨s2,t2⟩:=x;rw[c] at h;dsimp only at h ⊢;rw[stepT_spec c];exact Zlf h
def preP(p:Program)(w:World)(s:SharedT):Option (SharedT×Thread):=Zee treeTable p w 11 (some (.ref 6)) 12 s (topStub p)
def stubT(p:Program):Thread:=⟨denote treeTable (cP p),cP p,p0,[topFrame p0]⟩
def blkP(p:Program)(w:World)(s:SharedT):Option (Flow×SharedT×Code×Pos):=segRunT treeTable p w 11 (some (.ref 6)) 1 1 s (blockOf (behindTheImports p) (Zdf p) (cP p) p0 [topFrame p0])
def segP(p:Program)(w:World)(n k j:Nat)(pos:Pos)(s:SharedT):Option (Flow×SharedT×Code×Pos):=segRunT treeTable p w 11 (some (.ref 6)) 1 n s (piecesOf (((behindTheImports p).drop k).take j) (Zdf p) (cP p) pos [topFrame p0])
def topQ(p:Program)(w:World)(n k:Nat)(pos:Pos)(s:SharedT):Option SharedT:=topRunT treeTable p w 11 (some (.ref 6)) n s (restOf ((behindTheImports p).drop k) (Zdf p) (cP p) pos [topFrame p0])
def vI(n:Nat):Value:=.int n 0
def tuO(l:List Value):Obj:=⟨.type "tuple", none,.seq l.toArray 0,#[]⟩
def fdO(c:Value)(l:List Value):Obj:=⟨c,none,.fields l.toArray,#[]⟩
def diO(l:List DictEntry)(n:Nat):Obj:=⟨.type "dict", none,.dict l.toArray n,#[]⟩
def cut(t:Nat):Value:=.str "/claim/cut.py" t
def mdl:Value:=.str "forsworn.errors" 194
def cdO(n q:Str)(b l:Nat)(ar fl:Nat)(fn:Bool)(a:Nat)(r:List Value):Obj:=fdO (.type "code") ([.str n b,.str q (b+1),cut (b+2),vI l,vI ar,vI 0,vI 0,vI fl,.ref a,.bool fn,vI 181,.ref (a+1)]++r ++ [vI (if fn then b+4 else b+3),vI l,cut (if fn then b+5 else b+4)])
def fn0(n q:Str)(st:Stmt):Obj:=⟨.none,none,.func {name:=n,qualname:=q,params:=Zot st,body:=.stmts (Zou st),scope:=Znp st,globals:=0,closure:=[],defaults:=.none,kwdefaults:=.none },#[]⟩
def Zp7(P:Params)(a b l:Nat)(st:Stmt)(bs:Value)(dc:Nat)(more:List DictEntry)(cl:Obj)(n q:Str)(hd:List Obj)(tl:List Obj):List Obj :=
 let one:=[de P "__module__" (b+7) mdl]
 let two:=[de P "__firstlineno__" (b+11) (.int l (b+10)),de P "called" (b+18) (.ref (a+13)),de P "__static_attributes__" (b+19) (.ref (a+14))]
 hd ++ [tuO [bs],fdO (.type "builtin_function_or_method") [.builtin "type.__prepare__", .type "type"],diO (one ++ [de P "__qualname__" (b+9) (.str n (b+8))]++two) 5,tuO [],fdO .none [vI (l+2),vI 4,.ref (a+12)],
  cdO n n (b+2) l 0 0 false (a+3) [.none,.none,.none,.none],⟨.type "frame", none,.plain,#[some (.ref (a+5)),some (.ref 3),some (.ref (a+2)),none,some mdl,none,some (.ref 0)]⟩,
  tuO [],fdO .none [],tuO [.str "self" (b+15)],tuO [],fn0 "called" q st,cdO "called" q (b+12) (l+2) 1 3 true (a+7) [.none,.ref (a+9),.ref (a+10),.ref (a+11)],
  kFn "called" q st mdl (a+12),tuO [],diO (one++two++more) dc,cl]++tl ++ [fdO (.type "super") [.ref (a+16),.ref (a+16),.ref (a+16)],fdO (.type "builtin_function_or_method") [.builtin "object.__init_subclass__", .ref (a+16)]]
def tyO(a b:Nat)(n:Str)(bs:List Value)(mro:List Value)(sub:List Value):Obj:=⟨.type "type", none,.cls {name:=n,bases:=bs,mro:=.ref (a+16)::mro,ns:=a+15,qualname:=n,hasDict:=true,slotNames:=[],subclasses:=sub,abstract:=false,collection:=none,hasDel:=false },
 #[some (.ref a),none,some (.str n b),some (.str n (b+8)),some (.builtin "ValueError.__new__"),some (.bool true)]⟩
def Zp8:List Value:=[.type "ValueError", .type "Exception", .type "BaseException", .type "object"]
def Z35(P:Params)(p:Program)(j:Nat)(x:Str×Str):List Obj:=let a:=42+19 * j;let b:=221+23 * j;let l:=9+4 * j
 Zp7 P a b l (hIn (Zr p (3+j)) 0) (.ref 38) 2 [de P "__doc__" (b+20) .none] (tyO a b x.1 [.ref 38] (.ref 38::Zp8) []) x.1 x.2 [] []
def num{α:Type}:Nat->List α->List (Nat × α)
 | _,[]=>[]
 | i,x::r=>(i,x)::num (i+1) r
noncomputable def Z36 (p:Program) (P:Params) (ns:List (Str×Str)):List Obj:=let w:=Zr p 0
  [boot_o_0 P,boot_o_1 P,boot_o_2 P,
   diO ([de P "__name__" 165 mdl,de P "__doc__" 166 .none,de P "__package__" 167 .none,de P "__loader__" 168 (.builtin "__main__.__loader__#opaque"),de P "__spec__" 169 .none,de P "__annotations__" 170 (.ref 6),de P "__builtins__" 171 (.ref 4),de P "__file__" 173 (cut 172),de P "__cached__" 174 .none,de P "_wall" 193 (.ref 21),de P "MootError" 220 (.ref 38)]++(num 0 ns).map fun x=>de P x.2.1 (243+23 * x.1) (.ref (58+19 * x.1))) (11+ns.length),
   boot_o_4 P,boot_o_5 P,boot_o_6 P,boot_o_7 P,boot_o_8 P,boot_o_9 P,boot_o_10 P,tuO [],fdO .none ([vI 1,vI 0,.ref 20,vI 5,vI 0,.ref 27]++((num 0 ns).map fun x=>[vI (9+4 * x.1),vI 0,.ref (47+19 * x.1)]).flatten),
   cdO "<module>" "<module>" 182 1 0 0 false 11 [.none,.none,.none,.none],⟨.type "frame", none,.plain,#[some (.ref 13),some (.ref 3),some (.ref 3),none,some (.str "__main__" 164),none,some (.ref 0)]⟩,
   tuO [],fdO .none [],tuO [.str "k" 190],tuO [],fn0 "_wall" "_wall" w,cdO "_wall" "_wall" 187 1 1 3 true 15 [.none,.ref 17,.ref 18,.ref 19],kFn "_wall" "_wall" w (.str "__main__" 164) 20] ++
  Zp7 P 22 196 5 (hIn (Zr p 2) 0) (.type "ValueError") 3 [de P "__weakref__" 217 (.ref 39),de P "__doc__" 218 .none] (tyO 22 196 "MootError" [.type "ValueError"] Zp8 ((num 0 ns).map fun x=>.ref (58+19 * x.1))) "MootError" "MootError.called" [] [fdO (.type "getset_descriptor") [.str "__weakref__" 216,.ref 38,.builtin "ExceptionGroup.__weakref__", .none]] ++
  ((num 0 ns).map fun x=>Z35 P p x.1 x.2).flatten
noncomputable def errS (p:Program) (ns:List (Str×Str)) (P:Params) (os:OsState):SharedT:=⟨Ze8 (Z36 p P ns) 0 .nil,42+19 * ns.length,(boot_heap P).life,#[],boot_drawn,221+23 * ns.length,os⟩
noncomputable def stubS (P:Params) (os:OsState):SharedT:=⟨Ze8 ((boot_heap P).objs.toList ++ [tuO [],fdO .none [],cdO "<module>" "<module>" 182 1 0 0 false 11 [.none,.none,.none,.none],⟨.type "frame", none,.plain,#[some (.ref 13),some (.ref 3),some (.ref 3),none,some (.str "__main__" 164),none,some (.ref 0)]⟩]) 0 .nil,15,(boot_heap P).life,#[],boot_drawn,187,os⟩
def Reach(p:Program)(w:World)(os:OsState)(M:Nat)(s:SharedT)(k:Nat)(pos:Pos):Prop:=∀(N:Nat)(r:Shared),
 topRun treeTable p w 11 (some (.ref 6)) N s.abs (restOf ((behindTheImports p).drop k) (Zdf p) (cP p) pos [topFrame p0])=some r->topRun treeTable p w 11 (some (.ref 6)) (M+N) (s0T w.params os).abs (topStub p)=some r
theorem Reach.zero{p:Program}{w:World}{os:OsState}(h:preP p w (s0T w.params os)=some (stubS w.params os,stubT p))(b:blkP p w (stubS w.params os)=some (.next,stubS w.params os,cP p,p0)):Reach p w os 13 (stubS w.params os) 0 p0:=fun N r k=>by
 have k':=go_top (Zlf h) (piece_block (segRun_of b) k)
 rwa [← Nat.add_assoc] at k'
theorem Reach.step{p:Program}{w:World}{os:OsState}{M k:Nat}{s s':SharedT}{pos pos':Pos}(R:Reach p w os M s k pos)(n j:Nat)(h:segP p w n k j pos s=some (.next,s',cP p,pos')):Reach p w os (M+n) s' (k+j) pos':=fun N r x=>by
 rw[Nat.add_assoc]
 refine R _ r ?_
 rw[← List.take_append_drop j ((behindTheImports p).drop k),List.drop_drop]
 exact piece_app (segRun_of h) x
section
variable(p q:Program)(loose:List Str)(Xt:Shared->Bool)
noncomputable def sn0 (P:Params) (s:SharedT):Bool:=staticsOk (importedModules p.main.body) (boot_heap P) s.abs.heap && namesBound p s.abs.heap && gensDone s.abs && laidKept (boot_heap P) s.abs.heap
def sn1(s:SharedT):=(seen ((recsOf q).map (·.name)) (ownsOf q) [] {s.abs with gens:=#[] },s.abs.heap.bltView)
def sn2(s:SharedT):Bool:=s.abs.heap.keysOk (looseW q loose) ((recsOf q).map (·.name)) ((litsOf q).map (·.1)) ((clssOf q (looseW q loose)).map (·.name)) && s.abs.heap.accountedOkI (importedModules p.main.body) && s.abs.heap.isNs mainGlobals && s.abs.heap.isNs builtinsNs && tablesOk q s.abs.heap && Xt s.abs && (if true then s.abs.gens.size == 0 else !leftWithCleanup s.abs.gens)
def sn3(s:SharedT):Bool:=tabsOk q s.abs
def sn4(s:SharedT):=pinSeenD q (drecsOf q) s.abs
def sn9(i:Nat)(s:SharedT):=(((plainsOf q (looseW q loose)).drop i).take 1).map fun c=>s.abs.heap.plainShapeAt c.withCmp
def snA(i:Nat)(s:SharedT):=((plainsOf q (looseW q loose)).drop i).map fun c=>s.abs.heap.plainShapeAt c.withCmp
def sn5(s:SharedT):=plainSeenD q loose s.abs
def sn8(s:SharedT):=wideSeen q s.abs
def sn6(s:SharedT):=clsSeenW q loose s.abs
end
def gd9(q:Program)(loose:List Str)(i:Nat):=(((plainsOf q (looseW q loose)).drop i).take 1).map fun c=>some c.withCmp.plainShape
def gdA(q:Program)(loose:List Str)(i:Nat):=((plainsOf q (looseW q loose)).drop i).map fun c=>some c.withCmp.plainShape
theorem Zp9{α β:Type}(f : α->β)(l:List α):l.map f=((l.drop 0).take 1).map f++(((l.drop 1).take 1).map f++(l.drop 2).map f):=by
 rcases l with _ | ⟨a,_ | ⟨b,l⟩⟩<;>rfl
theorem Zt9{p q:Program}{loose:List Str}{Xt:Shared->Bool}{α:Type}{Yf:Shared->α}{Ya:World->α}{M N k:Nat}{s:World->OsState->SharedT}{pos:Pos}(e:opening p=plainProg p.main.scope.names)(hN:Nat.ble 600 (M+N)=true)(f:∀s,fenceModules? p s=some s)(R:∀ (w:World) (os:OsState),Reach p w os M (s w os) k pos)(r0:∀ (w:World) (os:OsState),(topQ p w N k pos (s w os)).map (sn0 p w.params)=some true)(r1:∀ (w:World) (os:OsState),(topQ p w N k pos (s w os)).map (sn1 q)=some (expectedOf q,bltViewBooted))(r2:∀ (w:World) (os:OsState),(topQ p w N k pos (s w os)).map (sn2 p q loose Xt)=some true)(r3:∀ (w:World) (os:OsState),(topQ p w N k pos (s w os)).map (sn3 q)=some true)(r4:∀ (w:World) (os:OsState),(topQ p w N k pos (s w os)).map (sn4 q)=some (pinGoodD (drecsOf q)))(r9:∀ (w:World) (os:OsState),(topQ p w N k pos (s w os)).map (sn9 q loose 0)=some (gd9 q loose 0))(rB:∀ (w:World) (os:OsState),(topQ p w N k pos (s w os)).map (sn9 q loose 1)=some (gd9 q loose 1))(rA:∀ (w:World) (os:OsState),(topQ p w N k pos (s w os)).map (snA q loose 2)=some (gdA q loose 2))(r5:∀ (w:World) (os:OsState),(topQ p w N k pos (s w os)).map (sn5 q loose)=some (plainGoodD q loose))(r8:∀ (w:World) (os:OsState),(topQ p w N k pos (s w os)).map (sn8 q)=some (wideGood q))(r6:∀ (w:World) (os:OsState),(topQ p w N k pos (s w os)).map (sn6 q loose)=some (clsGoodW q loose))(r7:∀ (w:World) (os:OsState),(topQ p w N k pos (s w os)).map (fun s=>Yf s.abs)=some (Ya w)):LeftO p q loose Xt Yf Ya (M+N):=fun w=>by
 obtain⟨⟨h,gs,d,k,os⟩,e1,e2⟩:=xZ.mp (boot_open e hN f w)
 obtain⟨rfl,rfl,rfl,rfl⟩:h=boot_heap w.params/\gs = #[]/\d=boot_drawn/\k=boot_toks:=by simpa using e2
 obtain⟨s,x,y0⟩:=xZ.mp (r0 w os)
 have y1:=r1 w os
 have y2:=r2 w os
 have y3:=r3 w os
 have y4:=r4 w os
 have y5:=r5 w os
 have y9:=r9 w os
 have yA:=rA w os
 have yB:=rB w os
 have y8:=r8 w os
 have y6:=r6 w os
 have y7:=r7 w os
 rw[x,zS,Option.some_inj] at y1 y2 y3 y4 y5 y6 y7 y8 y9 yA yB
 have r:=R w os N _ (Zfi x)
 rw[Zmo] at r
 obtain⟨z1,z2,z3⟩:_/\_/\_:=by simpa only [Prod.mk.injEq] using Zle w.params
 have t:topFrom treeTable p w (M+N) ⟨boot_heap w.params,#[],boot_drawn,boot_toks,os⟩=some s.abs:=by
  unfold topFrom
  dsimp only
  rw[z1,z2,z3,r]
  show (match staticsOk (importedModules p.main.body) (boot_heap w.params) s.abs.heap && namesBound p s.abs.heap && gensDone s.abs && laidKept (boot_heap w.params) s.abs.heap with | true=>some s.abs | false=>none)=_
  unfold sn0 at y0
  rw[y0]
 unfold openEnds
 rw[e1]
 show (topFrom treeTable p w (M+N) _).map _=_
 rw[t]
 refine congrArg some (Prod.ext ?_ y7)
 have a1:=congrArg Prod.fst y1
 have b1:=congrArg Prod.snd y1
 exact Prod.ext a1 (Prod.ext b1 (Prod.ext y2 (Prod.ext y3 (Prod.ext y4 (Prod.ext ((Zp9 _ _).trans ((congr (congrArg _ y9) (congr (congrArg _ yB) yA)).trans (Zp9 _ _).symm)) (Prod.ext y5 (Prod.ext y8 y6)))))))
end L2
lay_quick L2.preP L2.blkP L2.segP L2.topQ L2.errS L2.stubS L2.stubT L2.sn0 L2.sn1 L2.sn2 L2.sn3 L2.sn4 L2.sn5 L2.sn6 L2.sn8 L2.sn9 L2.snA L2.gd9 L2.gdA
end
namespace Law
open PySem L2
def pm0:Value:=(.str "forsworn.deeds" 612)
def pm1:Value:=(.str "forsworn.measures" 623)
def pm2:Value:=(.str "forsworn.oaths" 661)
def pm3:Value:=(.str "forsworn.folk" 677)
def pm4:Value:=(.str "forsworn.stands" 886)
def pm5:Value:=(.str "forsworn.moot" 972)
def pm6:Value:=(.str "law_forsworn_k35_four_hundred_moments" 1407)
def Kp(p:Program)(P:Params):uFg :=
 kpO (3,⟨(.type "dict"),none,(.dict #[de P "__name__" 165 (.str "law_forsworn_k35_four_hundred_moments" 1407),de P "__doc__" 166 .none,de P "__package__" 167 .none,de P "__loader__" 168 (.builtin "__main__.__loader__#opaque"),de P "__spec__" 169 .none,de P "__annotations__" 170 (.ref 6),de P "__builtins__" 171 (.ref 4),de P "__file__" 173 (.str "/claim/cut.py" 172),de P "__cached__" 174 .none,de P "_wall" 193 (.ref 21),de P "MootError" 220 (.ref 38),de P "NoName" 243 (.ref 58),de P "NoMeasure" 266 (.ref 77),de P "Unknown" 289 (.ref 96),de P "Taken" 312 (.ref 115),de P "NoThing" 335 (.ref 134),de P "NoCase" 358 (.ref 153),de P "NoOath" 381 (.ref 172),de P "NotYet" 404 (.ref 191),de P "Dead" 427 (.ref 210),de P "NoHeir" 450 (.ref 229),de P "TooMany" 473 (.ref 248),de P "SwornTwice" 496 (.ref 267),de P "Forsworn" 519 (.ref 286),de P "TooLight" 542 (.ref 305),de P "Broken" 565 (.ref 324),de P "NoMoment" 588 (.ref 343),de P "NoDeed" 611 (.ref 362),de P "done" 622 (.ref 371),de P "LAST_DAY" 626 (.int (9999) 625),de P "MOST_WEIGHT" 628 (.int (1000) 627),de P "MOST_NEED" 630 (.int (12000) 629),de P "MOST_MONEY" 632 (.int (1000000) 631),de P "check_day" 639 (.ref 378),de P "check_weight" 646 (.ref 385),de P "check_need" 653 (.ref 392),de P "check_money" 660 (.ref 399),de P "LONGEST_NAME" 664 (.int (12) 663),de P "is_name" 670 (.ref 404),de P "total" 676 (.ref 409),de P "MOST_FOLK" 680 (.int (40) 679),de P "Folk" 885 (.ref 564),de P "ONES" 889 (.int (0) 888),de P "OTHERS" 891 (.int (1) 890),de P "NEED" 893 (.int (2) 892),de P "NAMED" 895 (.int (3) 894),de P "settled" 902 (.ref 575),de P "settled_with" 914 (.ref 582),de P "breakers" 923 (.ref 589),de P "breakers_stands" 924 (.ref 589),de P "breaking" 930 (.ref 594),de P "naming" 941 (.ref 601),de P "check_case" 949 (.ref 608),de P "check_oath" 955 (.ref 613),de P "margin_without" 965 (.ref 620),de P "kept_weight" 971 (.ref 625),de P "MOST_THINGS" 975 (.int (40) 974),de P "MOST_CASES" 977 (.int (60) 976),de P "MOST_SWEARERS" 979 (.int (12) 978),de P "MOST_MOMENTS" 981 (.int (400) 980),de P "Moot" 1406 (.ref 939),de P "_law_src" 1415 (.ref 950),de P "_law_next" 1425 (.ref 957),de P "_law_whole" 1432 (.ref 964),de P "_law_same" 1442 (.ref 971),de P "_law_unlike" 1453 (.ref 978),de P "_law_word" 1459 (.ref 983),de P "_law_names" 1473 (.ref 990),de P "_law_hand" 1479 (.ref 995),de P "_law_try" 1485 (.ref 1000),de P "_law_kind" 1494 (.ref 1007),de P "_law_no_moment" 1503 (.ref 1014),de P "_law_ends" 1514 (.ref 1021),de P "_law_bad" 1528 (.ref 1028),de P "law" 1551 (.ref 1035)] 75),#[]⟩)<|
 kpO (37,⟨(.type "dict"),none,(.dict #[de P "__module__" 203 (.str "forsworn.errors" 194),de P "__firstlineno__" 207 (.int (5) 206),de P "called" 214 (.ref 35),de P "__static_attributes__" 215 (.ref 36),de P "__weakref__" 217 (.ref 39),de P "__doc__" 218 .none] 3),#[]⟩)<|
 kpO (38,⟨(.type "type"),none,(.cls {name:="MootError", bases:=[(.type "ValueError")],mro:=[(.ref 38),(.type "ValueError"),(.type "Exception"),(.type "BaseException"),(.type "object")],ns:=37,qualname:="MootError", hasDict:=true,slotNames:=[],subclasses:=[(.ref 58),(.ref 77),(.ref 96),(.ref 115),(.ref 134),(.ref 153),(.ref 172),(.ref 191),(.ref 210),(.ref 229),(.ref 248),(.ref 267),(.ref 286),(.ref 305),(.ref 324),(.ref 343),(.ref 362)],abstract:=false,collection:=none,hasDel:=false }),#[some (.ref 22),none,some (.str "MootError" 196),some (.str "MootError" 204),some (.builtin "ValueError.__new__"),some (.bool true)]⟩)<|
 kE P 57 "NoName" 9 228<|
 kE P 76 "NoMeasure" 13 251<|
 kE P 95 "Unknown" 17 274<|
 kE P 114 "Taken" 21 297<|
 kE P 133 "NoThing" 25 320<|
 kE P 152 "NoCase" 29 343<|
 kE P 171 "NoOath" 33 366<|
 kE P 190 "NotYet" 37 389<|
 kE P 209 "Dead" 41 412<|
 kE P 228 "NoHeir" 45 435<|
 kE P 247 "TooMany" 49 458<|
 kE P 266 "SwornTwice" 53 481<|
 kE P 285 "Forsworn" 57 504<|
 kE P 304 "TooLight" 61 527<|
 kE P 323 "Broken" 65 550<|
 kE P 342 "NoMoment" 69 573<|
 kE P 361 "NoDeed" 73 596<|
 kf 370 "done" 614 78 2 620 (Zr p 21) pm0<|
 kf 377 "check_day" 633 106 1 637 (Zr p 27) pm1<|
 kf 384 "check_weight" 640 109 1 644 (Zr p 28) pm1<|
 kf 391 "check_need" 647 112 1 651 (Zr p 29) pm1<|
 kf 398 "check_money" 654 115 1 658 (Zr p 30) pm1<|
 kf0 403 "is_name" 665 120 1 668 (Zr p 33) pm2<|
 kf0 408 "total" 671 122 1 674 (Zr p 34) pm2<|
 kg 422 "__init__" "Folk.__init__" 693 128 1 697 (hIn (Zr p 37) 0) pm3<|
 kg 429 "come" "Folk.come" 700 134 4 707 (hIn (Zr p 37) 1) pm3<|
 kg 436 "rise" "Folk.rise" 710 139 4 717 (hIn (Zr p 37) 2) pm3<|
 kg 443 "die" "Folk.die" 720 143 4 727 (hIn (Zr p 37) 3) pm3<|
 kg0 462 "weight" "Folk.weight" 745 154 3 748 (hIn (Zr p 37) 6) pm3<|
 kg 497 "died_by" "Folk.died_by" 785 175 3 791 (hIn (Zr p 37) 11) pm3<|
 kg 518 "check_coming" "Folk.check_coming" 810 184 4 817 (hIn (Zr p 37) 14) pm3<|
 kg 525 "check_rise" "Folk.check_rise" 820 194 4 827 (hIn (Zr p 37) 15) pm3<|
 kg 532 "check_death" "Folk.check_death" 830 201 4 837 (hIn (Zr p 37) 16) pm3<|
 kg 539 "check_known" "Folk.check_known" 840 211 2 845 (hIn (Zr p 37) 17) pm3<|
 kg 546 "check_there" "Folk.check_there" 848 215 3 854 (hIn (Zr p 37) 18) pm3<|
 kg 553 "check_living" "Folk.check_living" 857 219 3 863 (hIn (Zr p 37) 19) pm3<|
 kg 560 "check_untold" "Folk.check_untold" 866 223 2 871 (hIn (Zr p 37) 20) pm3<|
 kpO (563,⟨(.type "dict"),none,(.dict #[de P "__module__" 688 (.str "forsworn.folk" 677),de P "__firstlineno__" 692 (.int (126) 691),de P "__init__" 699 (.ref 423),de P "come" 709 (.ref 430),de P "rise" 719 (.ref 437),de P "die" 729 (.ref 444),de P "names" 736 (.ref 451),de P "came" 744 (.ref 458),de P "weight" 750 (.ref 463),de P "dead" 759 (.ref 470),de P "stands_for" 768 (.ref 477),de P "twin" 775 (.ref 484),de P "stand_in" 784 (.ref 491),de P "died_by" 793 (.ref 498),de P "death_day" 801 (.ref 505),de P "heir_of" 809 (.ref 512),de P "check_coming" 819 (.ref 519),de P "check_rise" 829 (.ref 526),de P "check_death" 839 (.ref 533),de P "check_known" 847 (.ref 540),de P "check_there" 856 (.ref 547),de P "check_living" 865 (.ref 554),de P "check_untold" 873 (.ref 561),de P "__static_attributes__" 878 (.ref 562),de P "__dict__" 880 (.ref 565),de P "__weakref__" 882 (.ref 566),de P "__doc__" 883 .none] 4),#[]⟩)<|
 kpO (564,⟨(.type "type"),none,(.cls {name:="Folk", bases:=[(.type "object")],mro:=[(.ref 564),(.type "object")],ns:=563,qualname:="Folk", hasDict:=true,slotNames:=[],subclasses:=[],abstract:=false,collection:=none,hasDel:=false }),#[none,none,some (.str "Folk" 681),some (.str "Folk" 689),some (.builtin "object.__new__"),some (.bool true)]⟩)<|
 kf 574 "settled" 896 231 1 900 (Zr p 43) pm4<|
 kf 581 "settled_with" 903 233 2 912 (Zr p 44) pm4<|
 kf 588 "breakers" 915 243 3 921 (Zr p 45) pm4<|
 kf0 593 "breaking" 925 247 1 928 (Zr p 47) pm4<|
 kf 600 "naming" 931 249 2 939 (Zr p 48) pm4<|
 kf 607 "check_case" 942 256 2 947 (Zr p 49) pm4<|
 kf0 612 "check_oath" 950 259 3 953 (Zr p 50) pm4<|
 kf 619 "margin_without" 956 263 3 963 (Zr p 51) pm4<|
 kf0 624 "kept_weight" 966 266 3 969 (Zr p 52) pm4<|
 kg 638 "__init__" "Moot.__init__" 994 275 1 998 (hIn (Zr p 58) 0) pm5<|
 kg 645 "come" "Moot.come" 1001 286 4 1008 (hIn (Zr p 58) 1) pm5<|
 kg 652 "rise" "Moot.rise" 1011 292 4 1018 (hIn (Zr p 58) 2) pm5<|
 kg 659 "die" "Moot.die" 1021 298 4 1028 (hIn (Zr p 58) 3) pm5<|
 kg 666 "penance" "Moot.penance" 1031 304 2 1036 (hIn (Zr p 58) 4) pm5<|
 kg 673 "bring" "Moot.bring" 1039 311 3 1045 (hIn (Zr p 58) 5) pm5<|
 kg 680 "give" "Moot.give" 1048 322 5 1056 (hIn (Zr p 58) 6) pm5<|
 kg 687 "pay" "Moot.pay" 1059 329 5 1067 (hIn (Zr p 58) 7) pm5<|
 kg 694 "claim" "Moot.claim" 1070 337 7 1081 (hIn (Zr p 58) 8) pm5<|
 kg 701 "wergild" "Moot.wergild" 1084 347 8 1096 (hIn (Zr p 58) 9) pm5<|
 kg 708 "accuse" "Moot.accuse" 1099 358 7 1109 (hIn (Zr p 58) 10) pm5<|
 kg 715 "now" "Moot.now" 1112 368 1 1116 (hIn (Zr p 58) 11) pm5<|
 kg 881 "then" "Moot.then" 1303 442 2 1310 (hIn (Zr p 58) 35) pm5<|
 kg 895 "forsworn_names" "Moot.forsworn_names" 1321 453 1 1329 (hIn (Zr p 58) 37) pm5<|
 kg0 900 "weighed" "Moot.weighed" 1332 461 3 1335 (hIn (Zr p 58) 38) pm5<|
 kg 907 "try_case" "Moot.try_case" 1338 464 6 1347 (hIn (Zr p 58) 39) pm5<|
 kg 914 "check_named" "Moot.check_named" 1350 470 5 1359 (hIn (Zr p 58) 40) pm5<|
 kg 921 "check_thing" "Moot.check_thing" 1362 486 2 1367 (hIn (Zr p 58) 41) pm5<|
 kg 928 "check_sides" "Moot.check_sides" 1370 490 5 1380 (hIn (Zr p 58) 42) pm5<|
 kg 935 "check_moments" "Moot.check_moments" 1383 505 1 1387 (hIn (Zr p 58) 43) pm5<|
 kpO (938,⟨(.type "dict"),none,(.dict #[de P "__module__" 989 (.str "forsworn.moot" 972),de P "__firstlineno__" 993 (.int (273) 992),de P "__init__" 1000 (.ref 639),de P "come" 1010 (.ref 646),de P "rise" 1020 (.ref 653),de P "die" 1030 (.ref 660),de P "penance" 1038 (.ref 667),de P "bring" 1047 (.ref 674),de P "give" 1058 (.ref 681),de P "pay" 1069 (.ref 688),de P "claim" 1083 (.ref 695),de P "wergild" 1098 (.ref 702),de P "accuse" 1111 (.ref 709),de P "now" 1118 (.ref 716),de P "roll" 1125 (.ref 723),de P "names" 1132 (.ref 730),de P "weight" 1141 (.ref 737),de P "dead" 1150 (.ref 744),de P "stands_for" 1159 (.ref 751),de P "things" 1166 (.ref 758),de P "cases" 1173 (.ref 765),de P "suits" 1179 (.ref 770),de P "standing" 1186 (.ref 777),de P "stands" 1194 (.ref 784),de P "margin" 1202 (.ref 791),de P "breakers" 1211 (.ref 798),de P "chain" 1219 (.ref 805),de P "bearing" 1227 (.ref 812),de P "paper" 1235 (.ref 819),de P "fewest" 1243 (.ref 826),de P "forsworn" 1251 (.ref 833),de P "holder" 1260 (.ref 840),de P "road" 1269 (.ref 847),de P "holds" 1278 (.ref 854),de P "owed" 1286 (.ref 861),de P "balance" 1295 (.ref 868),de P "twin" 1302 (.ref 875),de P "then" 1312 (.ref 882),de P "counting" 1320 (.ref 889),de P "forsworn_names" 1331 (.ref 896),de P "weighed" 1337 (.ref 901),de P "try_case" 1349 (.ref 908),de P "check_named" 1361 (.ref 915),de P "check_thing" 1369 (.ref 922),de P "check_sides" 1382 (.ref 929),de P "check_moments" 1389 (.ref 936),de P "__static_attributes__" 1399 (.ref 937),de P "__dict__" 1401 (.ref 940),de P "__weakref__" 1403 (.ref 941),de P "__doc__" 1404 .none] 4),#[]⟩)<|
 kpO (939,⟨(.type "type"),none,(.cls {name:="Moot", bases:=[(.type "object")],mro:=[(.ref 939),(.type "object")],ns:=938,qualname:="Moot", hasDict:=true,slotNames:=[],subclasses:=[],abstract:=false,collection:=none,hasDel:=false }),#[none,none,some (.str "Moot" 982),some (.str "Moot" 990),some (.builtin "object.__new__"),some (.bool true)]⟩)<|
 kf 949 "_law_src" 1409 509 1 1413 (Zr p 60) pm6<|
 kf 956 "_law_next" 1416 511 2 1423 (Zr p 61) pm6<|
 kf 963 "_law_whole" 1426 526 1 1430 (Zr p 62) pm6<|
 kf 970 "_law_same" 1433 528 2 1440 (Zr p 63) pm6<|
 kf 977 "_law_unlike" 1443 545 2 1451 (Zr p 64) pm6<|
 kf0 982 "_law_word" 1454 553 2 1457 (Zr p 65) pm6<|
 kf 989 "_law_names" 1460 556 2 1471 (Zr p 66) pm6<|
 kf0 994 "_law_hand" 1474 569 1 1477 (Zr p 67) pm6<|
 kf0 999 "_law_try" 1480 571 2 1483 (Zr p 68) pm6<|
 kf 1006 "_law_kind" 1486 581 2 1492 (Zr p 69) pm6<|
 kf 1013 "_law_no_moment" 1495 590 2 1501 (Zr p 70) pm6<|
 kf 1020 "_law_ends" 1504 597 4 1512 (Zr p 71) pm6<|
 kf 1027 "_law_bad" 1515 602 4 1526 (Zr p 72) pm6<|
 kf 1034 "law" 1529 609 1 1549 (Zr p 73) pm6<|[]
def KK(P:Params):uFg:=Kp PySem.Challenge.pw_forsworn_k35_four_hundred_moments P
def askd:List Addr:=[3,37,38,57,58,76,77,95,96,114,115,133,134,152,153,171,172,190,191,209,210,228,229,247,248,266,267,285,286,304,305,323,324,342,343,361,362,370,371,377,378,384,385,391,392,398,399,403,404,408,409,422,423,429,430,436,437,443,444,462,463,497,498,518,519,525,526,532,533,539,540,546,547,553,554,560,561,563,564,574,575,581,582,588,589,593,594,600,601,607,608,612,613,619,620,624,625,638,639,645,646,652,653,659,660,666,667,673,674,680,681,687,688,694,695,701,702,708,709,715,716,881,882,895,896,900,901,907,908,914,915,921,922,928,929,935,936,938,939,949,950,956,957,963,964,970,971,977,978,982,983,989,990,994,995,999,1000,1006,1007,1013,1014,1020,1021,1027,1028,1034,1035]
def HK:PySem.W.Hook:=PySem.W.kHook KK askd fun _=>by kernel_rfl
def q:Program:=PySem.W.view PySem.Challenge.pw_forsworn_k35_four_hundred_moments [0,2,3,4,5,6,7,8,9,10,11,12,13,14,15,16,17,18,19,21,23,24,25,26,27,28,29,30,32,33,34,36,37,39,40,41,42,43,44,45,46,47,48,49,50,51,52,54,55,56,57,58,60,61,62,63,64,65,66,67,68,69,70,71,72,73]
def ens:List (Str×Str):=[("NoName", "NoName.called"),("NoMeasure", "NoMeasure.called"),("Unknown", "Unknown.called"),("Taken", "Taken.called"),("NoThing", "NoThing.called"),("NoCase", "NoCase.called"),("NoOath", "NoOath.called"),("NotYet", "NotYet.called"),("Dead", "Dead.called"),("NoHeir", "NoHeir.called"),("TooMany", "TooMany.called"),("SwornTwice", "SwornTwice.called"),("Forsworn", "Forsworn.called"),("TooLight", "TooLight.called"),("Broken", "Broken.called"),("NoMoment", "NoMoment.called"),("NoDeed", "NoDeed.called")]
end Law
namespace PySem.W.Fast
noncomputable def tw17549737899445391709:PySem.Program:=PySem.Challenge.pw_forsworn_k35_four_hundred_moments
theorem te17549737899445391709:PySem.Challenge.pw_forsworn_k35_four_hundred_moments=tw17549737899445391709:=rfl
end PySem.W.Fast
lay_quick PySem.Challenge.rw_forsworn_k35_four_hundred_moments Law.q Law.ens
namespace Law
open PySem L2 PySem.W.Fast
set_option maxRecDepth 1000000
noncomputable abbrev zqP:=(tw2368527892694137696 tw2698471319617032047).prog
theorem Z37(w:World)(os:PySem.OsState):tw14574945829899846032 zqP w (tw15095419895629540892 w.params os)=some (tw17173385231801463501 w.params os,tw17649063868247884333 zqP):=by
 kernel_rfl
theorem Z38(w:World)(os:PySem.OsState):tw897522592586576512 zqP w (tw17173385231801463501 w.params os)=some (.next,tw17173385231801463501 w.params os,cP zqP,p0):=by
 kernel_rfl
theorem Z39(w:World)(os:PySem.OsState):tw3364177927453363911 zqP w 1713 0 9 p0 (tw17173385231801463501 w.params os)=some (.next,(tw15053072615319938550 zqP (tw2665081048563830263.take 6) w.params os),cP zqP,⟨29,0,32,23⟩):=by
 kernel_rfl
theorem Z4a(w:World)(os:PySem.OsState):tw3364177927453363911 zqP w 1459 9 6 ⟨29,0,32,23⟩ (tw15053072615319938550 zqP (tw2665081048563830263.take 6) w.params os)=some (.next,(tw15053072615319938550 zqP (tw2665081048563830263.take 12) w.params os),cP zqP,⟨53,0,56,27⟩):=by
 kernel_rfl
theorem Z4b(w:World)(os:PySem.OsState):tw3364177927453363911 zqP w 1216 15 5 ⟨53,0,56,27⟩ (tw15053072615319938550 zqP (tw2665081048563830263.take 12) w.params os)=some (.next,(tw15053072615319938550 zqP (tw2665081048563830263.take 17) w.params os),cP zqP,⟨73,0,76,23⟩):=by
 kernel_rfl
theorem Zvz(w:World)(os:PySem.OsState):Option.map (tw5166864615210023351 zqP w.params) (tw9491608239551792999 zqP w 7458 20 ⟨73,0,76,23⟩ (tw15053072615319938550 zqP (tw2665081048563830263.take 17) w.params os))=some true:=by
 kernel_rfl
theorem Zv0(w:World)(os:PySem.OsState):Option.map (tw9146811602139678113 tw2797900513057943271) (tw9491608239551792999 zqP w 7458 20 ⟨73,0,76,23⟩ (tw15053072615319938550 zqP (tw2665081048563830263.take 17) w.params os))=some (PyProof.Rows.expectedOf tw2797900513057943271,bltViewBooted):=by
 kernel_rfl
theorem Zv1(w:World)(os:PySem.OsState):Option.map (tw4330636226384752446 zqP tw2797900513057943271 ["breakers_stands"] (fun s=>PySem.W.xlAt tw2797900513057943271 [] s && PySem.W.recOk (tw2368527892694137696 tw2698471319617032047).records s)) (tw9491608239551792999 zqP w 7458 20 ⟨73,0,76,23⟩ (tw15053072615319938550 zqP (tw2665081048563830263.take 17) w.params os))=some true:=by
 kernel_rfl
theorem Zv2(w:World)(os:PySem.OsState):Option.map (tw290884773970851577 tw2797900513057943271) (tw9491608239551792999 zqP w 7458 20 ⟨73,0,76,23⟩ (tw15053072615319938550 zqP (tw2665081048563830263.take 17) w.params os))=some true:=by
 kernel_rfl
theorem Zv3(w:World)(os:PySem.OsState):Option.map (tw9020109020722589832 tw2797900513057943271) (tw9491608239551792999 zqP w 7458 20 ⟨73,0,76,23⟩ (tw15053072615319938550 zqP (tw2665081048563830263.take 17) w.params os))=some (pinGoodD (PyProof.Rows.drecsOf tw2797900513057943271)):=by
 kernel_rfl
theorem Zv4(w:World)(os:PySem.OsState):Option.map (tw1658975667393823239 tw2797900513057943271 ["breakers_stands"] 0) (tw9491608239551792999 zqP w 7458 20 ⟨73,0,76,23⟩ (tw15053072615319938550 zqP (tw2665081048563830263.take 17) w.params os))=some (tw10258256380655884400 tw2797900513057943271 ["breakers_stands"] 0):=by
 kernel_rfl
theorem Zv5(w:World)(os:PySem.OsState):Option.map (tw1658975667393823239 tw2797900513057943271 ["breakers_stands"] 1) (tw9491608239551792999 zqP w 7458 20 ⟨73,0,76,23⟩ (tw15053072615319938550 zqP (tw2665081048563830263.take 17) w.params os))=some (tw10258256380655884400 tw2797900513057943271 ["breakers_stands"] 1):=by
 kernel_rfl
theorem Zv6(w:World)(os:PySem.OsState):Option.map (tw1671388014868620310 tw2797900513057943271 ["breakers_stands"] 2) (tw9491608239551792999 zqP w 7458 20 ⟨73,0,76,23⟩ (tw15053072615319938550 zqP (tw2665081048563830263.take 17) w.params os))=some (tw2047387775680494199 tw2797900513057943271 ["breakers_stands"] 2):=by
 kernel_rfl
theorem Zv7(w:World)(os:PySem.OsState):Option.map (tw11153056314078912757 tw2797900513057943271 ["breakers_stands"]) (tw9491608239551792999 zqP w 7458 20 ⟨73,0,76,23⟩ (tw15053072615319938550 zqP (tw2665081048563830263.take 17) w.params os))=some (PyProof.Rows.plainGoodD tw2797900513057943271 ["breakers_stands"]):=by
 kernel_rfl
theorem Zv8(w:World)(os:PySem.OsState):Option.map (tw1743938642414776662 tw2797900513057943271) (tw9491608239551792999 zqP w 7458 20 ⟨73,0,76,23⟩ (tw15053072615319938550 zqP (tw2665081048563830263.take 17) w.params os))=some (PySem.W.wideGood tw2797900513057943271):=by
 kernel_rfl
theorem Zv9(w:World)(os:PySem.OsState):Option.map (tw15055011524645977279 tw2797900513057943271 ["breakers_stands"]) (tw9491608239551792999 zqP w 7458 20 ⟨73,0,76,23⟩ (tw15053072615319938550 zqP (tw2665081048563830263.take 17) w.params os))=some (PySem.W.clsGoodW tw2797900513057943271 ["breakers_stands"]):=by
 kernel_rfl
theorem Zwa(w:World)(os:PySem.OsState):Option.map (fun s=>askd.map s.abs.heap.get?) (tw9491608239551792999 zqP w 7458 20 ⟨73,0,76,23⟩ (tw15053072615319938550 zqP (tw2665081048563830263.take 17) w.params os))=some ((Kp tw17549737899445391709 w.params).map fun p=>some p.2):=by
 kernel_rfl
local macro_rules | `(tactic| walk_at "q")=>`(tactic| (intro h;simp only[← te14574945829899846032,← te897522592586576512,← te3364177927453363911,← te9491608239551792999,← te15053072615319938550,← te17173385231801463501,← te17649063868247884333,← te2665081048563830263,← te5166864615210023351,← te9146811602139678113,← te4330636226384752446,← te290884773970851577,← te9020109020722589832,← te11153056314078912757,← te15055011524645977279,← te1743938642414776662,← te1658975667393823239,← te1671388014868620310,← te10258256380655884400,← te2047387775680494199,← te15095419895629540892,← te2797900513057943271,← te2368527892694137696,← te2698471319617032047,← te14364793385576792824,← te17549737899445391709] at h;exact h))
theorem left:PySem.W.LeftO PySem.Challenge.rw_forsworn_k35_four_hundred_moments.row.prog q ["breakers_stands"] (fun s=>PySem.W.xlAt q [] s && PySem.W.recOk (PySem.W.RowW.records PySem.Challenge.rw_forsworn_k35_four_hundred_moments.row.toRowW) s) HK.obs HK.val 11859:=by
 refine Zt9 (M:=4401) (N:=7458) (k:=20) (pos:=⟨73,0,76,23⟩) (s:=fun w os=>errS PySem.Challenge.rw_forsworn_k35_four_hundred_moments.row.prog (ens.take 17) w.params os) (by kernel_rfl) (by decide) (fun s=>by kernel_rfl) (fun w os=>?_)
  (fun w os=>(by have h:=Zvz w os;revert h;walk_at "q"))
  (fun w os=>(by have h:=Zv0 w os;revert h;walk_at "q"))
  (fun w os=>(by have h:=Zv1 w os;revert h;walk_at "q"))
  (fun w os=>(by have h:=Zv2 w os;revert h;walk_at "q"))
  (fun w os=>(by have h:=Zv3 w os;revert h;walk_at "q"))
  (fun w os=>(by have h:=Zv4 w os;revert h;walk_at "q"))
  (fun w os=>(by have h:=Zv5 w os;revert h;walk_at "q"))
  (fun w os=>(by have h:=Zv6 w os;revert h;walk_at "q"))
  (fun w os=>(by have h:=Zv7 w os;revert h;walk_at "q"))
  (fun w os=>(by have h:=Zv8 w os;revert h;walk_at "q"))
  (fun w os=>(by have h:=Zv9 w os;revert h;walk_at "q"))
  (fun w os=>(by have h:=Zwa w os;revert h;walk_at "q"))
 have R:=Reach.zero (p:=PySem.Challenge.rw_forsworn_k35_four_hundred_moments.row.prog) (w:=w) (os:=os) (by have h:=Z37 w os;revert h;walk_at "q") (by have h:=Z38 w os;revert h;walk_at "q")
 have R:=R.step 1713 9 (by have h:=Z39 w os;revert h;walk_at "q")
 have R:=R.step 1459 6 (by have h:=Z4a w os;revert h;walk_at "q")
 have R:=R.step 1216 5 (by have h:=Z4b w os;revert h;walk_at "q")
 exact R
end Law
section
namespace L2
open PySem PySem.Spec PyProof.Rows
abbrev Key:=Sum Int Str
def Zb9:Key->Value->Bool
 | .inl k,v=>Value.isInt k v
 | .inr x,v=>Value.isStrOf x v
def Z4c(w:World):Key->Int
 | .inl k=>hashInt k
 | .inr x=>hashStr w x
theorem Zaj:∀{k:Key}{v:Value},Zb9 k v=true->(∃i t,k=Sum.inl i/\v=Value.int i t)\/(∃x t,k=Sum.inr x/\v=Value.str x t)
 | .inl i,v,h=>by
  obtain⟨t,e⟩:=Value.isInt_shape (k:=i) (v:=v) h
  exact .inl ⟨i,t,rfl,e⟩
 | .inr x,v,h=>by
  obtain⟨t,e⟩:=Value.isStrOf_shape (x:=x) (v:=v) h
  exact .inr ⟨x,t,rfl,e⟩
theorem Zsu(i:Int)(t:Tok):Zb9 (.inl i) (.int i t)=true:=by simp[Zb9,Value.isInt]
theorem Zsv(x:Str)(t:Tok):Zb9 (.inr x) (.str x t)=true:=by simp[Zb9,Value.isStrOf]
theorem Zx5(a b:Int):decide ((Sum.inl a:Key)=Sum.inl b)=(a == b):=by
 by_cases e:a=b
 ·subst e;simp
 ·have h:¬(Sum.inl a:Key)=Sum.inl b:=fun q=>e (Sum.inl.inj q)
  rw[yI h]
  exact(beq_eq_false_iff_ne.mpr e).symm
theorem Zx6(a b:Str):decide ((Sum.inr a:Key)=Sum.inr b)=decide (a=b):=by
 by_cases e:a=b
 ·subst e;simp
 ·have h:¬(Sum.inr a:Key)=Sum.inr b:=fun q=>e (Sum.inr.inj q)
  rw[yI h,yI e]
theorem Zx7(a:Int)(b:Str):decide ((Sum.inl a:Key)=Sum.inr b)=false:=yI (fun q=>nomatch q)
theorem Zx8(a:Str)(b:Int):decide ((Sum.inr a:Key)=Sum.inl b)=false:=yI (fun q=>nomatch q)
def Y8(prog:Program)(w:World):PySem.KeyKind prog w Key where
 is:=Zb9
 hash:=Z4c w
 inj:=fun v a b ha hb=>by
  rcases Zaj ha with⟨i,t,rfl,rfl⟩ | ⟨x,t,rfl,rfl⟩
  ·rcases Zaj hb with⟨j,u,rfl,e⟩ | ⟨y,u,rfl,e⟩
   ·injection e with e1 _;rw[e1]
   ·exact nomatch e
  ·rcases Zaj hb with⟨j,u,rfl,e⟩ | ⟨y,u,rfl,e⟩
   ·exact nomatch e
   ·injection e with e1 _;rw[e1]
 byValue:=fun k v h=>by
  rcases Zaj h with⟨i,t,rfl,rfl⟩ | ⟨x,t,rfl,rfl⟩<;>rfl
 pyHash:=fun hv h=>by
  rcases Zaj hv with⟨i,t,rfl,rfl⟩ | ⟨x,t,rfl,rfl⟩
  ·exact wpAny_pyHash_int h
  ·exact wpAny_pyHash_str h
 eqBool:=fun hu hv h=>by
  rcases Zaj hu with⟨i,t,rfl,rfl⟩ | ⟨x,t,rfl,rfl⟩
  ·rcases Zaj hv with⟨j,u,rfl,rfl⟩ | ⟨y,u,rfl,rfl⟩
   ·rw[Zx5] at h;exact wpAny_eqBool_int h
   ·rw[Zx7] at h;exact SeqAt.EqAt.int_str i t y u _ _ _ _ h
  ·rcases Zaj hv with⟨j,u,rfl,rfl⟩ | ⟨y,u,rfl,rfl⟩
   ·rw[Zx8] at h;exact SeqAt.EqAt.str_int x t j u _ _ _ _ h
   ·rw[Zx6] at h;exact wpAny_eqBool_str h
 «strs»:=fun k x t v h=>by
  rcases Zaj h with⟨i,u,rfl,e⟩ | ⟨y,u,rfl,e⟩
  ·exact nomatch e
  ·injection e with e1 _
   subst e1
   cases v<;>rfl
theorem Zry(prog:Program)(w:World)(i:Int)(t:Tok):(Y8 prog w).is (.inl i) (.int i t)=true:=Zsu i t
theorem Zrz(prog:Program)(w:World)(x:Str)(t:Tok):(Y8 prog w).is (.inr x) (.str x t)=true:=Zsv x t
end L2
namespace L2
open PySem PySem.Spec PyProof.Rows
inductive V where
 | non | bl (b:Bool) | int (i:Int) | str (x:Str) | byt (b:Array UInt8) | flt (b:UInt64) | ref (a:Addr) | ty (n:String)
 deriving DecidableEq
def RelV:V->Value->Prop
 | .non,u=>u=Value.none
 | .bl b,u=>u=Value.bool b
 | .int i,u=>∃t,u=Value.int i t
 | .str x,u=>∃t,u=Value.str x t
 | .byt b,u=>∃t,u=Value.bytes b t
 | .flt b,u=>∃t,u=Value.float b t
 | .ref a,u=>u=Value.ref a
 | .ty n,u=>u=Value.type n
abbrev Vals:List V->List Value->Prop:=Paired RelV
theorem Vals.length{xs:List V}{us:List Value}(r:Vals xs us):xs.length=us.length:=Paired.length r
theorem Vals.get:∀{xs:List V}{us:List Value}{i:Nat}{x:V},Vals xs us->xs[i]? = some x->∃u,us[i]? = some u/\RelV x u
 | _,_,_,_,.nil,e=>by simp at e
 | _,_,0,_,.cons r _,e=>by simp at e;subst e;exact⟨_,rfl,r⟩
 | _,_,i+1,x,.cons _ t,e=>by
  obtain⟨u,h1,h2⟩:=Vals.get (i:=i) (x:=x) t (by simpa using e)
  exact⟨u,by simpa using h1,h2⟩
theorem Vals.set{x:V}{u:Value}(r:RelV x u):∀{xs:List V}{us:List Value}(i:Nat),Vals xs us->Vals (xs.set i x) (us.set i u)
 | _,_,_,.nil=>.nil
 | _,_,0,.cons _ t=>.cons r t
 | _,_,i+1,.cons q t=>.cons q (Vals.set r i t)
theorem Vals.append:∀{xs ys:List V}{us ws:List Value},Vals xs us->Vals ys ws->Vals (xs++ys) (us++ws)
 | _,_,_,_,.nil,s=>s
 | _,_,_,_,.cons r t,s=>.cons r (Vals.append t s)
theorem Vals.take:∀{xs:List V}{us:List Value}(n:Nat),Vals xs us->Vals (xs.take n) (us.take n)
 | _,_,0,_=>.nil
 | _,_,_+1,.nil=>.nil
 | _,_,n+1,.cons r t=>.cons r (Vals.take n t)
theorem Vals.drop:∀{xs:List V}{us:List Value}(n:Nat),Vals xs us->Vals (xs.drop n) (us.drop n)
 | _,_,0,r=>r
 | _,_,_+1,.nil=>.nil
 | _,_,n+1,.cons _ t=>Vals.drop n t
def RelO:Option V->Option Value->Prop
 | some v,some u=>RelV v u
 | none,none=>True
 | _,_=>False
def KV{κ:Type}:List (κ×V)->List (κ×Value)->Prop:=Paired fun(p : κ×V) (q : κ×Value)=>p.1=q.1/\RelV p.2 q.2
def kV:Key->V
 | .inl i=>.int i
 | .inr x=>.str x
inductive HO where
 | lst (xs:List V)
 | tup (xs:List V)
 | dK (kvs:List (Key×V)) | dT (kvs:List (List Key×V))
 | set (S:Int->Bool) (n:Nat)
 | ins (C dx:Addr) (fs:List (Str×V))
 | own (x:Addr)
 | xd (fs:List (Str×V))
 | met (f x:Addr)
 | rng (lo hi:Int)
 | frz (o:Obj) (u:HO)
 | tbl (ps:Array Value)
 | ext (φ:Heap->Prop)
abbrev Hp:=Addr->Option HO
def upd(H:Hp)(a:Addr)(o:HO):Hp:=fun b=>if b=a then some o else H b
theorem Zg{H:Hp}{a:Addr}{o:HO}:upd H a o a=some o:=by unfold upd;rw[if_pos rfl]
theorem Zc{H:Hp}{a b:Addr}{o:HO}(h:b≠a):upd H a o b=H b:=by unfold upd;rw[if_neg h]
theorem Zov{H:Hp}{a b:Addr}{o u:HO}(h:H a=some o)(h':H b=some u)(d:o≠u):a≠b:=by
 intro e;subst e;rw[h] at h';exact d (Option.some.inj h')
theorem Zj{H:Hp}{a b:Addr}{o:HO}(h:H a=some o)(h':H b=none):a≠b:=by
 intro e;subst e;rw[h] at h';cases h'
section
variable(P:Program)(w:World)
def ObjOk(H:Hp)(h:Heap)(a:Addr):HO->Prop
 | .lst xs=>xs.length<=sizeLine/\∃(its:List Value)(n:Nat),Vals xs its/\h.get? a=some {cls:=.type "list", data:=.seq its.toArray n }
 | .tup xs=>xs.length<=sizeLine/\∃its:List Value,Vals xs its/\IsTup h a its.toArray
 | .dK kvs=>kvs.length<=sizeLine/\(a == sysModules)=false/\∃vs,KV kvs vs/\h.DictOf (Y8 P w) a vs
 | .dT kvs=>kvs.length<=sizeLine/\(a == sysModules)=false/\∃xs:List (List Key×Addr×Value),
   Paired (fun(p:List Key×V) (q:List Key×Addr×Value)=>p.1=q.1/\H q.2.1=some (.tup (p.1.map kV))/\RelV p.2 q.2.2) kvs xs /\
   ∃o es ep,h.get? a=some o/\o.ExactDict/\o.data = .dict es ep/\es.toList=xs.map (entryOfKey (tupleKind (Y8 P w)))/\(xs.map (·.1)).Nodup
 | .set S n=>h.SetOf (intKind P w) a S n
 | .ins C dx fs=>H dx=some (.own a)/\fs.length<=1000/\dx≠a/\h.get? a=some (PySem.W.instObj C dx)/\
   ∃mA,h.Ns1 dx mA/\(∀f,RelO (fs.lookup f) (mA f))/\PySem.Within mA (fs.map (·.1))
 | .own _=>∃o,h.get? a=some o
 | .xd fs=>∃mA,h.Ns1 a mA/\∀f,RelO (fs.lookup f) (mA f)
 | .rng lo hi=>∃t u v,h.get? a=some {cls:=.type "range", data:=.fields #[.int lo t,.int hi u,.int 1 v] }
 | .frz o u=>h.get? a=some o/\ObjOk H h a u
 | .tbl ps=>∃(qs:Array Value)(nm:Str)(t:Tok),h.get? a=some {cls:=.none,data:=.fields qs }/\TriplesOk qs.toList/\ps[0]? = some (.str nm t)/\∀pos cv,codeAmong pos qs.toList=some cv->∃c,cv = .ref c/\H c=some (.own a)/\h.CodeRec (.ref c) nm
 | .met f x=>h.get? a=some (PySem.W.methodObj (.ref f) (.ref x))
 | .ext φ=>φ h/\(∃o,h.get? a=some o)/\∀h1 h2:Heap,φ h1->(∀o,h1.get? a=some o->h2.get? a=some o)->φ h2
def HOk(H:Hp)(h:Heap):Prop:=∀a o,H a=some o->ObjOk P w H h a o
end
section
variable{P:Program}{w:World}{H H':Hp}{h h':Heap}{a:Addr}{o:HO}
theorem ObjOk.lt(x:ObjOk P w H h a o):a < h.objs.size:=by
 cases o with
 | lst xs=>obtain⟨_,_,_,_,e⟩:=x;exact xM e
 | tup xs=>obtain⟨_,_,_,p⟩:=x;exact p.lt
 | dK kvs=>obtain⟨_,_,_,_,o,_,_,e,_⟩:=x;exact xM e
 | dT kvs=>obtain⟨_,_,_,_,o,_,_,e,_⟩:=x;exact xM e
 | set S n=>obtain⟨o,_,_,_,e,_⟩:=x;exact xM e
 | ins C dx fs=>obtain⟨_,_,_,e,_⟩:=x;exact xM e
 | own y=>obtain⟨_,e⟩:=x;exact xM e
 | xd fs=>obtain⟨_,⟨_,_,_,e,_⟩,_⟩:=x;exact xM e
 | rng lo hi=>obtain⟨_,_,_,e⟩:=x;exact xM e
 | frz ob u=>obtain⟨e,_⟩:=x;exact xM e
 | tbl ps=>obtain⟨_,_,_,e,_⟩:=x;exact xM e
 | met f y=>exact xM (show h.get? a=some _ from x)
 | ext φ=>obtain⟨_,⟨_,e⟩,_⟩:=x;exact xM e
theorem Paired.mapP{α β:Type}{F G : α->β->Prop}:∀{l₁:List α}{l₂:List β},Paired F l₁ l₂->(∀a b,F a b->G a b)->Paired G l₁ l₂
 | _,_,.nil,_=>.nil
 | _,_,.cons r t,f=>.cons (f _ _ r) (Paired.mapP t f)
theorem ObjOk.stay(x:ObjOk P w H h a o)(k:∀b u,(b=a\/H b=some (.own a))->h.get? b=some u->h'.get? b=some u)(ho:∀b,H b=some (.own a)->H' b=some (.own a))(ht:∀b xs,H b=some (.tup xs)->H' b=some (.tup xs)):ObjOk P w H' h' a o:=by
 induction o with
 | lst xs=>obtain⟨z,its,n,r,e⟩:=x;exact⟨z,its,n,r,k _ _ (.inl rfl) e⟩
 | tup xs=>obtain⟨z,its,r,ob,e,c⟩:=x;exact⟨z,its,r,ob,k _ _ (.inl rfl) e,c⟩
 | dK kvs=>obtain⟨z,y,vs,r,ob,es,ep,e,c⟩:=x;exact⟨z,y,vs,r,ob,es,ep,k _ _ (.inl rfl) e,c⟩
 | dT kvs =>
  obtain⟨z,y,xs,r,ob,es,ep,e,c⟩:=x
  exact⟨z,y,xs,Paired.mapP r fun p q z=>⟨z.1,ht _ _ z.2.1,z.2.2⟩,ob,es,ep,k _ _ (.inl rfl) e,c⟩
 | set S n=>obtain⟨ob,es,ep,t,e,c⟩:=x;exact⟨ob,es,ep,t,k _ _ (.inl rfl) e,c⟩
 | ins C dx fs =>
  obtain⟨d,z,ne,e,mA,⟨od,es,ep,e2,c⟩,r⟩:=x
  exact⟨ho _ d,z,ne,k _ _ (.inl rfl) e,mA,⟨od,es,ep,k _ _ (.inr d) e2,c⟩,r⟩
 | own y=>obtain⟨ob,e⟩:=x;exact⟨ob,k _ _ (.inl rfl) e⟩
 | xd fs=>obtain⟨mA,⟨od,es,ep,e,c⟩,r⟩:=x;exact⟨mA,⟨od,es,ep,k _ _ (.inl rfl) e,c⟩,r⟩
 | rng lo hi=>obtain⟨t,u,v,e⟩:=x;exact⟨t,u,v,k _ _ (.inl rfl) e⟩
 | frz ob u ih=>obtain⟨e,q⟩:=x;exact⟨k _ _ (.inl rfl) e,ih q⟩
 | tbl ps =>
  obtain⟨qs,nm,t,e,z1,z2,z3⟩:=x
  refine⟨qs,nm,t,k a _ (.inl rfl) e,z1,z2,fun pos cv ec=>?_⟩
  obtain⟨c,e1,e2,c2,oc,vs,tt,e3,e4,e5⟩:=z3 pos cv ec
  cases e3
  exact⟨c,e1,ho _ e2,c,oc,vs,tt,rfl,k _ _ (.inr e2) e4,e5⟩
 | met f y =>
  have e:h.get? a=some (PySem.W.methodObj (.ref f) (.ref y)):=x
  show h'.get? a=some (PySem.W.methodObj (.ref f) (.ref y))
  exact k a _ (.inl rfl) e
 | ext φ=>obtain⟨p,⟨o,e⟩,st⟩:=x;exact⟨st _ _ p fun o q=>k _ _ (.inl rfl) q,⟨o,k _ _ (.inl rfl) e⟩,st⟩
theorem HOk.lt(x:HOk P w H h)(e:H a=some o):a < h.objs.size:=(x a o e).lt
theorem HOk.fresh(x:HOk P w H h)(e:h.objs.size<=a):H a=none:=by
 cases q:H a with
 | none=>rfl
 | some u=>exact absurd (yF (x.lt q) e) (zH _)
theorem HOk.kept(x:HOk P w H h)(k:∀b u,h.get? b=some u->h'.get? b=some u):HOk P w H h':=fun a o e =>
 (x a o e).stay (fun b u _ q=>k b u q) (fun _ q=>q) fun _ _ q=>q
theorem HOk.laid(x:HOk P w H h)(k:∀b u,h.get? b=some u->h'.get? b=some u)(hp:h.objs.size<=a)(new:ObjOk P w (upd H a o) h' a o):HOk P w (upd H a o) h':=fun b u e=>by
 have hn:=x.fresh hp
 by_cases hb:b=a
 ·subst hb;rw[Zg] at e;cases e;exact new
 ·rw[Zc hb] at e
  exact(x b u e).stay (fun c v _ q=>k c v q) (fun c q=>by rw[Zc (Zj q hn)];exact q) fun c xs q=>by rw[Zc (Zj q hn)];exact q
end
def Rd(H:Hp)(a:Addr)(u:HO):Prop:=H a=some u\/∃o,H a=some (.frz o u)
theorem Rd.ok{P:Program}{w:World}{H:Hp}{h:Heap}{a:Addr}{u:HO}(r:Rd H a u)(x:HOk P w H h):ObjOk P w H h a u:=by
 rcases r with r | ⟨o,r⟩
 ·exact x a u r
 ·obtain⟨_,q⟩:=x a _ r
  exact q
def Mut:Option HO->Prop
 | some (.lst _)=>True
 | some (.dK _)=>True
 | some (.dT _)=>True
 | some (.set _ _)=>True
 | some (.ins _ _ _)=>True
 | some (.ext _)=>True
 | _=>False
section
variable{P:Program}{w:World}{H:Hp}{h h':Heap}{x e:Addr}{o':HO}
theorem HOk.write(ok:HOk P w H h)(mu:Mut (H x))(he:e=x\/H e=some (.own x))(k:∀b u,b≠e->h.get? b=some u->h'.get? b=some u)(heo:∃u,h'.get? e=some u)(new:ObjOk P w (upd H x o') h' x o'):HOk P w (upd H x o') h':=fun b u q=>by
 have nown:∀c y,H c=some (.own y)->c≠x:=fun c y r z=>by subst z;rw[r] at mu;exact mu
 have ntup:∀c xs,H c=some (.tup xs)->c≠x:=fun c xs r z=>by subst z;rw[r] at mu;exact mu
 by_cases hb:b=x
 ·subst hb;rw[Zg] at q;cases q;exact new
 ·rw[Zc hb] at q
  by_cases hbe:b=e
  ·have q':H b=some (.own x):=by
    rcases he with z | z
    ·exact absurd (hbe.trans z) hb
    ·rw[hbe];exact z
   rw[q] at q';cases q'
   obtain⟨v,hv⟩:=heo
   exact⟨v,by rw[hbe];exact hv⟩
  ·refine(ok b u q).stay (fun c v hc r=>k c v ?_ r) (fun c r=>by rw[Zc (nown c b r)];exact r) fun c xs r=>by rw[Zc (ntup c xs r)];exact r
   rcases hc with rfl | hc
   ·exact hbe
   ·rintro rfl
    rcases he with z | z
    ·exact nown c b hc z
    ·rw[hc] at z;cases z;exact hb rfl
end
structure Un (fs ex:List Addr) (H H':Hp) (h h':Heap):Prop where
 keep:∀b o,h.get? b=some o->H b=none->b∉fs->b∉ex->h'.get? b=some o
 slot:∀b o,h.get? b=some o->H b=none->b∈fs->b∉ex->∃sl,h'.get? b=some {o with slots:=sl }
 free:∀b o,h.get? b=some o->H b=none->b∉ex->H' b=none
 there:∀b o,h.get? b=some o->b∉ex->∃o',h'.get? b=some o'
 tups:∀b xs,H b=some (.tup xs)->H' b=some (.tup xs)
 frzs:∀b o u,H b=some (.frz o u)->H' b=some (.frz o u)
 tbls:∀b ps,H b=some (.tbl ps)->∃more,H' b=some (.tbl (ps++more))
section
variable{fs fs' ex ex':List Addr}{H H1 H2:Hp}{h h1 h2 h':Heap}{a x e:Addr}{o:HO}
theorem Un.any(u:Un fs ex H H1 h h1){b:Addr}{ob:Obj}(q:h.get? b=some ob)(n:H b=none)(hx:b∉ex):∃sl,h1.get? b=some {ob with slots:=sl }:=by
 by_cases hb:b∈fs
 ·exact u.slot b ob q n hb hx
 ·exact⟨ob.slots,u.keep b ob q n hb hx⟩
theorem Un.kept(k:∀b u,h.get? b=some u->h'.get? b=some u):Un fs ex H H h h' :=
 ⟨fun b ob q _ _ _=>k b ob q,fun b ob q _ _ _=>⟨ob.slots,k b ob q⟩,fun _ _ _ n _=>n,fun b ob q _=>⟨ob,k b ob q⟩,fun _ _ q=>q,fun _ _ _ q=>q,fun _ ps q=>⟨#[],by rw[q];simp⟩⟩
theorem Un.refl:Un fs ex H H h h:=Un.kept fun _ _ q=>q
theorem Un.laid(k:∀b u,h.get? b=some u->h'.get? b=some u)(hp:h.objs.size<=a)(hn:H a=none):Un fs ex H (upd H a o) h h' where
 keep:=fun b u q _ _ _=>k b u q
 slot:=fun b u q _ _ _=>⟨u.slots,k b u q⟩
 free:=fun b u q n _=>by rw[Zc (yD (yF (xM q) hp))];exact n
 there:=fun b u q _=>⟨u,k b u q⟩
 tups:=fun b xs q=>by rw[Zc (Zj q hn)];exact q
 frzs:=fun b u xs q=>by rw[Zc (Zj q hn)];exact q
 tbls:=fun b ps q=>⟨#[],by rw[Zc (Zj q hn),q];simp⟩
theorem Un.write(mu:Mut (H x))(he:e=x\/H e=some (.own x))(k:∀b u,b≠e->h.get? b=some u->h'.get? b=some u)(heo:∃u,h'.get? e=some u):Un fs ex H (upd H x o) h h':=by
 have hx:∀b,H b=none->b≠x:=fun b n z=>by subst z;rw[n] at mu;exact mu
 have hb:∀b,H b=none->b≠e:=fun b n z=>by
  subst z
  rcases he with r | r
  ·exact hx b n r
  ·rw[n] at r;cases r
 have hm:∀b u,H b=some u->¬Mut (some u)->b≠x:=fun b u q nm z=>by subst z;rw[q] at mu;exact nm mu
 refine⟨fun b u q n _ _=>k b u (hb b n) q,fun b u q n _ _=>⟨u.slots,k b u (hb b n) q⟩,fun b u q n _=>by rw[Zc (hx b n)];exact n,fun b u q _=>?_,
  fun b xs q=>by rw[Zc (hm b _ q fun z=>z)];exact q,fun b u xs q=>by rw[Zc (hm b _ q fun z=>z)];exact q,fun b ps q=>⟨#[],by rw[Zc (hm b _ q fun z=>z),q];simp⟩⟩
 by_cases hbe:b=e
 ·subst hbe;exact heo
 ·exact⟨u,k b u hbe q⟩
end
def trk(h:Heap)(H:Hp):List Addr:=(List.range h.objs.size).filter fun a=>(H a).isSome
def Zak(h:Heap)(H:Hp):Heap:=PySem.W.hideAll h (trk h H)
theorem Zsw(h:Heap)(H:Hp):(Zak h H).objs.size=h.objs.size:=PySem.W.hideAll_size _ _
theorem Zua{h:Heap}{H:Hp}{b:Addr}{o:Obj}(e:h.get? b=some o)(n:H b=none):(Zak h H).get? b=some o :=
 PySem.W.hideAll_get _ e fun hm=>by
  have q:(H b).isSome=true:=(List.mem_filter.mp hm).2
  rw[n] at q;simp at q
theorem Zwb{h:Heap}{H:Hp}{b:Addr}{o:Obj}(e:(Zak h H).get? b=some o):h.get? b=some o/\H b=none:=by
 have e':h.get? b=some o:=PySem.W.of_hideAll (trk h H) e
 refine⟨e',?_⟩
 cases q:H b with
 | none=>rfl
 | some x =>
  have hm:b∈trk h H:=List.mem_filter.mpr ⟨List.mem_range.mpr (xM e'),by simp[q]⟩
  have z:(Zak h H).get? b=none:=PySem.W.hideAll_none (trk h H) hm
  rw[z] at e;cases e
end L2
namespace L2
open PySem PySem.Spec PyProof.Rows
structure Mod (K:uFg) (mg:Str->Option Value) (base:Heap):Prop where
 kin:K.In base
 glob:base.Ns mainGlobals mg
 blt:∃mb,base.Ns builtinsNs mb/\∀x:Str,x ≠ "__name__" -> mb x=bootBuiltins x
 nolimit:base.NoLimit
/-- the context: a def's body (or a comprehension's block) running. base: fixed through the whole law;s₀,H₀: the entry;outer: the frames whose slots others may change (a def's callers);stack: all frames that run;
   ex: iterators that were made ahead of the entry and are walked here (a comprehension's);fn: the names whose cells were made at the entry (a def: all;a comprehension's block: its own);calm: not within an except suite;pn: pins that every state bears;xe: what is wanted of an exception that leaves the code -/
structure Cx where
 prog:Program
 w:World
 K:uFg
 mg:Str->Option Value
 base:Heap
 A:Around
 N:List Str
 s₀:Shared
 H₀:Hp
 env:Env
 outer:List Env
 stack:List Env
 ex:List Addr
 fn:Str->Bool
 calm:Bool
 pn:List (Addr×Obj)
 xe:Value->Shared->Prop
def frs(l:List Env):List Addr:=l.filterMap (·.frame)
abbrev Cx.fs(X:Cx):List Addr:=frs X.outer
def Vis(sc:Scope)(x:Str):Prop:=sc.names.lookup x=some .local\/sc.names.lookup x=some .cell\/sc.names.lookup x=some .free
def Loc(sc:Scope)(x:Str):Prop:=sc.names.lookup x=some .local\/sc.names.lookup x=some .cell
def Z4d(env:Env)(h:Heap)(m:Str->Option Value)(x:Str)(u:Value):Prop :=
 (env.kindOf x=some .local/\m x=some u)\/((env.kindOf x=some .cell\/env.kindOf x=some .free)/\∃c,env.cells.lookup x=some c/\h.IsCell c (some u))
structure Cx.Ok (X:Cx):Prop where
 mod:Mod X.K X.mg X.base
 kind:X.env.scope.kind = .function
 glob:X.env.globals=mainGlobals
 blt:X.env.builtins=builtinsNs
 above:X.s₀.heap.objs.size<=X.env.locals
 inj:∀x y c,X.env.cells.lookup x=some c->X.env.cells.lookup y=some c->x=y
 has:∀x,(X.env.kindOf x=some .cell\/X.env.kindOf x=some .free)->∃c,X.env.cells.lookup x=some c
 cab:∀x c,X.fn x=true->X.env.cells.lookup x=some c->X.s₀.heap.objs.size<=c
 hd:X.calm=true->X.A.handled=none
 frames:X.A.frames=some X.stack
 stk:X.stack=X.outer\/(X.stack=X.env::X.outer/\X.env.frame=some X.env.locals)
 exf:∀b∈X.ex,b≠X.env.locals/\∀x c,X.env.cells.lookup x=some c->c≠b
 bs:∀b o,X.base.get? b=some o->X.s₀.heap.get? b=some o/\X.H₀ b=none
 bsz:X.base.objs.size<=X.s₀.heap.objs.size
 noex:∀b o,X.base.get? b=some o->b∉X.ex
 exfs:∀b∈X.ex,b∉X.fs
 funs:X.s₀.heap.FunFrames X.base X.outer
 frf:∀b∈X.fs,X.H₀ b=none
structure Inv (X:Cx) (pins:List (Addr×Obj)) (σ:List (Option V)) (H:Hp) (s:Shared):Prop where
 ok:X.Ok
 os:s.os=X.s₀.os
 bare:AllBare s.gens
 base:Un X.fs X.ex X.H₀ H X.s₀.heap s.heap
 loc:∃m,s.heap.Ns X.env.locals m/\∀(i:Nat)(x:Str)(v:V),X.N[i]? = some x->σ[i]? = some (some v)->Vis X.env.scope x->∃u,RelV v u/\Z4d X.env s.heap m x u
 cell:∀x c,X.env.cells.lookup x=some c->∃v,s.heap.IsCell c v
 free:H X.env.locals=none
 freeC:∀x c,X.env.cells.lookup x=some c->H c=none
 pin:∀p∈X.pn++pins,s.heap.get? p.1=some p.2/\H p.1=none/\p.1≠X.env.locals/\p.1∉X.fs/\∀v,p.2.data ≠ .cell v
 hok:HOk X.prog X.w H s.heap
 len : σ.length=X.N.length
section
variable{X:Cx}{pins:List (Addr×Obj)}{σ:List (Option V)}{H H':Hp}{s:Shared}{h':Heap}
theorem Cx.Ok.nofr(ok:X.Ok){b:Addr}{o:Obj}(e:X.base.get? b=some o):b∉X.fs:=fun hb=>by
 have:=(ok.funs.mem hb).1
 rw[e] at this;cases this
theorem Inv.bs(I:Inv X pins σ H s):∀b o,X.base.get? b=some o->s.heap.get? b=some o/\H b=none:=fun b o e =>
 ⟨I.base.keep b o (I.ok.bs b o e).1 (I.ok.bs b o e).2 (I.ok.nofr e) (I.ok.noex b o e),I.base.free b o (I.ok.bs b o e).1 (I.ok.bs b o e).2 (I.ok.noex b o e)⟩
theorem Inv.bk(I:Inv X pins σ H s):∀b o,X.base.get? b=some o->s.heap.get? b=some o:=fun b o e=>(I.bs b o e).1
theorem Inv.mod(I:Inv X pins σ H s):Mod X.K X.mg X.base:=I.ok.mod
theorem Inv.kIn(I:Inv X pins σ H s):X.K.In s.heap:=I.ok.mod.kin.keeps I.bk
theorem Inv.lt(I:Inv X pins σ H s):X.env.locals < s.heap.objs.size:=let ⟨_,hn,_⟩:=I.loc;hn.lt
theorem Inv.sz(I:Inv X pins σ H s):X.s₀.heap.objs.size<=s.heap.objs.size:=xT I.ok.above (zB I.lt)
theorem Inv.nofs(I:Inv X pins σ H s){a:Addr}(h:s.heap.objs.size<=a):a∉X.fs:=fun hb=>by
 obtain⟨_,o,ho,_⟩:=I.ok.funs.mem hb
 exact absurd (yF (xM ho) (xT I.sz h)) (zH _)
theorem Inv.cne(I:Inv X pins σ H s):∀x c,X.env.cells.lookup x=some c->c≠X.env.locals:=fun x c e z=>by
 obtain⟨v,o,ho,hd⟩:=I.cell x c e
 obtain⟨m,⟨o',es,ep,ho',hd',_⟩,_⟩:=I.loc
 rw[z,ho'] at ho;cases ho;rw[hd'] at hd;cases hd
theorem Inv.funs(I:Inv X pins σ H s):s.heap.FunFrames X.base X.outer:=by
 have all:∀(l:List Env),(∀b∈frs l,b∈X.fs)->X.s₀.heap.FunFrames X.base l->s.heap.FunFrames X.base l:=by
  intro l
  induction l with
  | nil=>intro _ _;trivial
  | cons env r ih =>
   intro hs hl
   obtain⟨hk,⟨L,o,hf,hn,ho,hd⟩,hr⟩:=hl
   have hL:L∈X.fs:=hs L (by unfold frs;rw[List.filterMap_cons,hf];exact yC)
   obtain⟨sl,e⟩:=I.base.slot L o ho (I.ok.frf L hL) hL fun z=>I.ok.exfs L z hL
   exact⟨hk,⟨L,_,hf,hn,e,hd⟩,ih (fun b hb=>hs b (by unfold frs;rw[List.filterMap_cons,hf];exact xW _ hb)) hr⟩
 exact all X.outer (fun _ hb=>hb) I.ok.funs
theorem Inv.stack(I:Inv X pins σ H s):s.heap.FunFrames X.base X.stack:=by
 rcases I.ok.stk with e | ⟨e,hf⟩
 ·rw[e];exact I.funs
 ·rw[e]
  obtain⟨m,hn,_⟩:=I.loc
  refine .cons (by rw[I.ok.kind];decide) hf hn ?_ I.funs
  exact Heap.get?_none_of_le (xT I.ok.bsz I.ok.above)
theorem Inv.stkSub(I:Inv X pins σ H s):∀b∈frs X.stack,b∈X.env.locals::X.fs:=fun b hb=>by
 rcases I.ok.stk with e | ⟨e,hf⟩
 ·rw[e] at hb;exact xW _ hb
 ·rw[e] at hb
  unfold frs at hb
  rw[List.filterMap_cons,hf] at hb
  exact hb
theorem Inv.stkFree(I:Inv X pins σ H s):∀b∈frs X.stack,H b=none:=fun b hb=>by
 rcases xD.mp (I.stkSub b hb) with e | hb
 ·rw[e];exact I.free
 ·obtain⟨_,o,ho,_⟩:=I.ok.funs.mem hb
  exact I.base.free b o ho (I.ok.frf b hb) fun z=>I.ok.exfs b z hb
theorem Inv.step{g':Array GenState}{t':Nat}{d':Drawn}{ch:List Addr}(I:Inv X pins σ H s)(hch:∀b∈ch,(b∈X.ex\/X.s₀.heap.objs.size<=b)/\b≠X.env.locals/\(∀x c,X.env.cells.lookup x=some c->c≠b)/\∀p∈X.pn++pins,p.1≠b)(keep:∀b o,b≠X.env.locals->b∉X.fs->b∉ch->s.heap.get? b=some o->H b=none->h'.get? b=some o)(slot:∀b o,b≠X.env.locals->b∈X.fs->b∉ch->s.heap.get? b=some o->H b=none->∃sl,h'.get? b=some {o with slots:=sl })(free:∀b o,b∉ch->s.heap.get? b=some o->H b=none->H' b=none)(there:∀b o,b∉ch->s.heap.get? b=some o->∃o',h'.get? b=some o')(tups:∀b xs,H b=some (.tup xs)->H' b=some (.tup xs))(frzs:∀b o u,H b=some (.frz o u)->H' b=some (.frz o u))(tbls:∀b ps,H b=some (.tbl ps)->∃more,H' b=some (.tbl (ps++more)))(ns:∀m,s.heap.Ns X.env.locals m->h'.Ns X.env.locals m)(hok:HOk X.prog X.w H' h')(hg:AllBare g') :
  Inv X pins σ H' {s with heap:=h',gens:=g',drawn:=d',toks:=t' }:=by
 have neL:∀b o,X.s₀.heap.get? b=some o->b≠X.env.locals:=fun b o e=>yD (yF (xM e) I.ok.above)
 have neC:∀b o,X.s₀.heap.get? b=some o->b∉X.ex->b∉ch:=fun b o e hx hb=>by
  rcases(hch b hb).1 with z | z
  ·exact hx z
  ·exact absurd (yF (xM e) z) (zH _)
 have cellK:∀x c,X.env.cells.lookup x=some c->∀v,s.heap.IsCell c v->h'.IsCell c v:=fun x c e v ⟨o,ho,hd⟩=>by
  have nch:c∉ch:=fun z=>(hch c z).2.2.1 x c e rfl
  by_cases hc:c∈X.fs
  ·obtain⟨sl,q⟩:=slot c o (I.cne x c e) hc nch ho (I.freeC x c e)
   exact⟨_,q,hd⟩
  ·exact⟨o,keep c o (I.cne x c e) hc nch ho (I.freeC x c e),hd⟩
 refine⟨I.ok,I.os,hg,⟨fun b o e n hb hx=>?_,fun b o e n hb hx=>?_,fun b o e n hx=>?_,fun b o e hx=>?_,fun b xs e=>tups b xs (I.base.tups b xs e),fun b o xs e=>frzs b o xs (I.base.frzs b o xs e),fun b ps e=>?_⟩,?_,fun x c e=>?_,?_,fun x c e=>?_,fun p hp=>?_,hok,I.len⟩
 ·exact keep b o (neL b o e) hb (neC b o e hx) (I.base.keep b o e n hb hx) (I.base.free b o e n hx)
 ·obtain⟨sl,e1⟩:=I.base.slot b o e n hb hx
  obtain⟨sl',e2⟩:=slot b _ (neL b o e) hb (neC b o e hx) e1 (I.base.free b o e n hx)
  exact⟨sl',e2⟩
 ·obtain⟨o',e1⟩:=I.base.there b o e hx
  exact free b o' (neC b o e hx) e1 (I.base.free b o e n hx)
 ·obtain⟨o',e1⟩:=I.base.there b o e hx
  exact there b o' (neC b o e hx) e1
 ·obtain⟨m1,e1⟩:=I.base.tbls b ps e
  obtain⟨m2,e2⟩:=tbls b _ e1
  exact⟨m1++m2,by rw[e2,Array.append_assoc]⟩
 ·obtain⟨m,hn,hl⟩:=I.loc
  refine⟨m,ns m hn,fun i x v e1 e2 e3=>?_⟩
  obtain⟨u,r,l⟩:=hl i x v e1 e2 e3
  refine⟨u,r,?_⟩
  rcases l with l | ⟨k,c,e,z⟩
  ·exact .inl l
  ·exact .inr ⟨k,c,e,cellK x c e _ z⟩
 ·obtain⟨v,z⟩:=I.cell x c e
  exact⟨v,cellK x c e v z⟩
 ·obtain⟨m,⟨o,_,_,ho,_⟩,_⟩:=I.loc
  exact free _ o (fun z=>(hch _ z).2.1 rfl) ho I.free
 ·obtain⟨v,o,ho,hd⟩:=I.cell x c e
  exact free c o (fun z=>(hch c z).2.2.1 x c e rfl) ho (I.freeC x c e)
 ·obtain⟨e,n,ne,nf,d⟩:=I.pin p hp
  have nch:p.1∉ch:=fun z=>(hch p.1 z).2.2.2 p hp rfl
  exact⟨keep p.1 p.2 ne nf nch e n,free p.1 p.2 nch e n,ne,nf,d⟩
theorem Inv.un{t':Nat}(I:Inv X pins σ H s)(u:Un X.fs [] H H' s.heap h')(hok:HOk X.prog X.w H' h'):Inv X pins σ H' {s with heap:=h',toks:=t' }:=by
 obtain⟨m,⟨o,es,ep,ho,r⟩,_⟩:=id I.loc
 obtain⟨sl,hL⟩:=u.any ho I.free (by simp)
 exact I.step (g':=s.gens) (d':=s.drawn) (ch:=[]) (fun _ z=>nomatch z) (fun b o _ hb _ e n=>u.keep b o e n hb (by simp)) (fun b o _ hb _ e n=>u.slot b o e n hb (by simp)) (fun b o _ e n=>u.free b o e n (by simp)) (fun b o _ e=>u.there b o e (by simp)) u.tups u.frzs u.tbls (fun m' hm=>by
  obtain⟨o',es',ep',ho',r'⟩:=hm
  rw[ho] at ho';cases ho'
  exact⟨_,es',ep',hL,r'⟩) hok I.bare
theorem Inv.call{g':Array GenState}{t':Nat}{d':Drawn}{ch:List Addr}(I:Inv X pins σ H s)(u:Un (frs X.stack) ch H H' s.heap h')(hok:HOk X.prog X.w H' h')(hg:AllBare g')(hch:∀b∈ch,(b∈X.ex\/X.s₀.heap.objs.size<=b)/\b≠X.env.locals/\(∀x c,X.env.cells.lookup x=some c->c≠b)/\∀p∈X.pn++pins,p.1≠b) :
  Inv X pins σ H' {s with heap:=h',gens:=g',drawn:=d',toks:=t' }:=by
 obtain⟨m,⟨o,es,ep,ho,r⟩,_⟩:=id I.loc
 obtain⟨sl,hL⟩:=u.any ho I.free fun z=>(hch _ z).2.1 rfl
 exact I.step (ch:=ch) hch (fun b o hL hb hc e n=>u.keep b o e n (fun z=>(xD.mp (I.stkSub b z)).elim hL hb) hc) (fun b o _ _ hc e n=>u.any e n hc) (fun b o hc e n=>u.free b o e n hc) (fun b o hc e=>u.there b o e hc) u.tups u.frzs u.tbls (fun m' hm=>by
  obtain⟨o',es',ep',ho',r'⟩:=hm
  rw[ho] at ho';cases ho'
  exact⟨_,es',ep',hL,r'⟩) hok hg
theorem Inv.turned{t':Nat}{it:Addr}(I:Inv X pins σ H s)(k:∀b o,b≠it->s.heap.get? b=some o->h'.get? b=some o)(hn:H it=none)(hL:it≠X.env.locals)(h1:it∈X.ex\/X.s₀.heap.objs.size<=it)(h2:∀x c,X.env.cells.lookup x=some c->c≠it)(h3:∀p∈X.pn++pins,p.1≠it):Inv X pins σ H {s with heap:=h',toks:=t' }:=by
 have nit:∀b u,H b=some u->b≠it:=fun b u e z=>by rw[z,hn] at e;cases e
 refine I.step (g':=s.gens) (d':=s.drawn) (ch:=[it]) (fun b hb=>?_) (fun b o _ _ hc e _=>k b o (fun z=>hc (by simp[z])) e) (fun b o _ _ hc e _=>⟨o.slots,k b o (fun z=>hc (by simp[z])) e⟩) (fun _ _ _ _ n=>n)
  (fun b o hc e=>⟨o,k b o (fun z=>hc (by simp[z])) e⟩) (fun _ _ e=>e) (fun _ _ _ e=>e) (fun b ps e=>⟨#[],by rw[e];simp⟩) (fun m hm=>?_) (fun b u e=>?_) I.bare
 ·have e:b=it:=by simpa using hb
  subst e
  exact⟨h1,hL,h2,h3⟩
 ·obtain⟨o,es,ep,ho,r⟩:=hm
  exact⟨o,es,ep,k _ o (Ne.symm hL) ho,r⟩
 ·refine(I.hok b u e).stay (fun c v hc q=>k c v ?_ q) (fun _ q=>q) fun _ _ q=>q
  rcases hc with z | z
  ·rw[z];exact nit b u e
  ·exact nit c _ z
theorem Inv.tok(I:Inv X pins σ H s)(t:Nat):Inv X pins σ H {s with toks:=t }:=I.un (h':=s.heap) (t':=t) Un.refl I.hok
theorem Inv.kept{t':Nat}(I:Inv X pins σ H s)(k:∀b u,s.heap.get? b=some u->h'.get? b=some u):Inv X pins σ H {s with heap:=h',toks:=t' }:=I.un (Un.kept k) (I.hok.kept k)
theorem Inv.laid{a:Addr}{o:HO}{t':Nat}(I:Inv X pins σ H s)(k:∀b u,s.heap.get? b=some u->h'.get? b=some u)(hp:s.heap.objs.size<=a)(new:ObjOk X.prog X.w (upd H a o) h' a o) :
  Inv X pins σ (upd H a o) {s with heap:=h',toks:=t' }:=I.un (Un.laid k hp (I.hok.fresh hp)) (I.hok.laid k hp new)
theorem Inv.write{x e:Addr}{o:HO}{t':Nat}(I:Inv X pins σ H s)(mu:Mut (H x))(he:e=x\/H e=some (.own x))(k:∀b u,b≠e->s.heap.get? b=some u->h'.get? b=some u)(heo:∃u,h'.get? e=some u)(new:ObjOk X.prog X.w (upd H x o) h' x o):Inv X pins σ (upd H x o) {s with heap:=h',toks:=t' }:=I.un (Un.write mu he k heo) (I.hok.write mu he k heo new)
theorem Inv.pins_of{pins':List (Addr×Obj)}(I:Inv X pins σ H s)(h:∀p∈pins',s.heap.get? p.1=some p.2/\H p.1=none/\p.1≠X.env.locals/\p.1∉X.fs/\∀v,p.2.data ≠ .cell v):Inv X pins' σ H s :=
 ⟨I.ok,I.os,I.bare,I.base,I.loc,I.cell,I.free,I.freeC,fun p hp=>(xJ.mp hp).elim (fun z=>I.pin p (yX _ z)) (h p),I.hok,I.len⟩
theorem Zl0{N:List Str}(hN:N.Nodup){i j:Nat}{x:Str}(a:N[i]? = some x)(b:N[j]? = some x):i=j:=by
 obtain⟨h1,e1⟩:=xF.mp a
 obtain⟨h2,e2⟩:=xF.mp b
 exact(List.getElem_inj hN).mp (e1.trans e2.symm)
theorem Zsx{M:Model}{A:Around}{E:Value->Shared->Prop}{i:Nat}{x:Str}{v:V}{u:Value}{Q:Unit->Shared->Prop}(I:Inv X pins σ H s)(hN:X.N.Nodup)(hi:X.N[i]? = some x)(hx:Loc X.env.scope x)(r:RelV v u)(h:∀s',Inv X pins (σ.set i (some v)) H s'->(∃a,Heap.SameBut a s.heap s'.heap/\(a=X.env.locals\/X.env.cells.lookup x=some a))->Q () s')(hf:X.fn x=true\/X.env.scope.names.lookup x=some .local:=by first | exact .inl rfl | exact .inr rfl | assumption):wpAny M A (storeName X.env x u) Q E s:=by
 obtain⟨m,hn,hl⟩:=id I.loc
 have hcls:(X.env.scope.kind == .class || (X.env.scope.kind == .module && X.env.locals != X.env.globals))=false:=by rw[I.ok.kind];rfl
 have hiσ:i < σ.length:=by rw[I.len];exact(xF.mp hi).1
 have cne:=I.cne
 have tracked:∀{a:Addr}{h':Heap},(∃o,s.heap.get? a=some o/\H a=none)->Heap.SameBut a s.heap h'->HOk X.prog X.w H h':=fun {a h'} ha hs b ob e=>by
  obtain⟨_,_,hfree⟩:=ha
  refine(I.hok b ob e).stay (fun c w' hc q=>(hs.2 c ?_).trans q) (fun _ q=>q) fun _ _ q=>q
  rintro rfl
  rcases hc with rfl | hc
  ·rw[hfree] at e;cases e
  ·rw[hfree] at hc;cases hc
 rcases hx with hk | hk
 ·refine wpAny_storeName_local hk hn (fun h' hn' hs=>?_) hcls
  obtain⟨oL,_,_,hoL,_⟩:=id hn
  refine h _ ⟨I.ok,I.os,I.bare,⟨fun b o e n hb hx=>?_,fun b o e n hb hx=>?_,I.base.free,fun b o e hx=>?_,I.base.tups,I.base.frzs,I.base.tbls⟩,⟨_,hn',fun j y v' e1 e2 e3=>?_⟩,fun y c e=>?_,I.free,I.freeC,fun p hp=>?_,tracked ⟨oL,hoL,I.free⟩ hs,by simpa using I.len⟩ ⟨_,hs,.inl rfl⟩
  ·exact(hs.2 b (yD (yF (xM e) I.ok.above))).trans (I.base.keep b o e n hb hx)
  ·obtain⟨sl,e1⟩:=I.base.slot b o e n hb hx
   exact⟨sl,(hs.2 b (yD (yF (xM e) I.ok.above))).trans e1⟩
  ·obtain⟨o',e1⟩:=I.base.there b o e hx
   exact⟨o',(hs.2 b (yD (yF (xM e) I.ok.above))).trans e1⟩
  ·by_cases hj:j=i
   ·subst hj
    rw[hi] at e1;cases e1
    rw[List.getElem?_set_self hiσ] at e2
    cases e2
    exact⟨u,r,.inl ⟨hk,by simp⟩⟩
   ·rw[List.getElem?_set_ne (Ne.symm hj)] at e2
    obtain⟨u',r',q⟩:=hl j y v' e1 e2 e3
    refine⟨u',r',?_⟩
    rcases q with⟨k,e⟩ | ⟨k,c,e,z⟩
    ·refine .inl ⟨k,?_⟩
     have:y≠x:=fun e=>hj (Zl0 hN e1 (e▸hi))
     simp[this,e]
    ·exact .inr ⟨k,c,e,z.sameBut hs (cne y c e)⟩
  ·obtain⟨w',z⟩:=I.cell y c e
   exact⟨w',z.sameBut hs (cne y c e)⟩
  ·obtain⟨e,n,ne,nf,d⟩:=I.pin p hp
   exact⟨(hs.2 p.1 ne).trans e,n,ne,nf,d⟩
 ·have hfn:X.fn x=true:=by
   rcases hf with z | z
   ·exact z
   ·rw[z] at hk;cases hk
  obtain⟨c,hc⟩:=I.ok.has x (.inl hk)
  obtain⟨w',z⟩:=I.cell x c hc
  refine wpAny_storeName_cell I.ok.kind hk hc z (fun h' hc' hs=>?_)
  obtain⟨oc,hoc,hocd⟩:=id z
  refine h {s with heap:=h' } ⟨I.ok,I.os,I.bare,⟨fun b o e n hb hx=>?_,fun b o e n hb hx=>?_,I.base.free,fun b o e hx=>?_,I.base.tups,I.base.frzs,I.base.tbls⟩,⟨m,hn.sameBut hs (Ne.symm (cne x c hc)),fun j y v' e1 e2 e3=>?_⟩,fun y c' e=>?_,I.free,I.freeC,fun p hp=>?_,tracked ⟨oc,hoc,I.freeC x c hc⟩ hs,by simpa using I.len⟩ ⟨c,hs,.inr hc⟩
  ·exact(hs.2 b (yD (yF (xM e) (I.ok.cab x c hfn hc)))).trans (I.base.keep b o e n hb hx)
  ·obtain⟨sl,e1⟩:=I.base.slot b o e n hb hx
   exact⟨sl,(hs.2 b (yD (yF (xM e) (I.ok.cab x c hfn hc)))).trans e1⟩
  ·obtain⟨o',e1⟩:=I.base.there b o e hx
   exact⟨o',(hs.2 b (yD (yF (xM e) (I.ok.cab x c hfn hc)))).trans e1⟩
  ·by_cases hj:j=i
   ·subst hj
    rw[hi] at e1;cases e1
    rw[List.getElem?_set_self hiσ] at e2
    cases e2
    exact⟨u,r,.inr ⟨.inl hk,c,hc,hc'⟩⟩
   ·rw[List.getElem?_set_ne (Ne.symm hj)] at e2
    obtain⟨u',r',q⟩:=hl j y v' e1 e2 e3
    refine⟨u',r',?_⟩
    rcases q with q | ⟨k,c',e,z'⟩
    ·exact .inl q
    ·refine .inr ⟨k,c',e,z'.sameBut hs ?_⟩
     rintro rfl
     exact hj (Zl0 hN e1 (I.ok.inj _ _ _ e hc▸hi))
  ·by_cases hcc:c'=c
   ·subst hcc;exact⟨_,hc'⟩
   ·obtain⟨w2,z2⟩:=I.cell y c' e
    exact⟨w2,z2.sameBut hs hcc⟩
  ·obtain⟨e,n,ne,nf,d⟩:=I.pin p hp
   refine⟨(hs.2 p.1 ?_).trans e,n,ne,nf,d⟩
   intro q
   rw[q,hoc] at e
   have q':oc=p.2:=Option.some.inj e
   exact d w' (by rw[← q'];exact hocd)
theorem Zl1{M:Model}{A:Around}{E:Value->Shared->Prop}{i:Nat}{x:Str}{v:V}{u:Value}{Q:Unit->Shared->Prop}(I:Inv X pins σ H s)(hN:X.N.Nodup)(hi:X.N[i]? = some x)(hx:Loc X.env.scope x)(r:RelV v u)(h:∀s',Inv X pins (σ.set i (some v)) H s'->Q () s')(hf:X.fn x=true\/X.env.scope.names.lookup x=some .local:=by first | exact .inl rfl | exact .inr rfl | assumption):wpAny M A (storeName X.env x u) Q E s :=
 Zsx I hN hi hx r (fun s' I' _=>h s' I') hf
theorem Inv.call'{s':Shared}{ch:List Addr}(I:Inv X pins σ H s)(ho:s'.os=s.os)(u:Un (frs X.stack) ch H H' s.heap s'.heap)(hok:HOk X.prog X.w H' s'.heap)(hg:AllBare s'.gens)(hch:∀b∈ch,(b∈X.ex\/X.s₀.heap.objs.size<=b)/\b≠X.env.locals/\(∀x c,X.env.cells.lookup x=some c->c≠b)/\∀p∈X.pn++pins,p.1≠b):Inv X pins σ H' s':=by
 obtain⟨h',g',d',t',o'⟩:=s'
 have e:o'=s.os:=ho
 subst e
 exact I.call (g':=g') (t':=t') (d':=d') u hok hg hch
end
abbrev XK:=Value->Option Addr->Hp->Prop
abbrev St:=List (Option V)
abbrev VK:=V->Hp->Prop
abbrev TE:=St->Hp->VK->Prop
abbrev TT:=St->Hp->(Bool->Hp->Prop)->Prop
abbrev TA:=St->Hp->(List V->Hp->Prop)->Prop
structure Ends where
 nx:St->Hp->Prop
 rt:VK
 bk:St->Hp->Prop:=fun _ _=>False
 ct:St->Hp->Prop:=fun _ _=>False
abbrev TS:=Ends->St->Hp->Prop
def EP(X:Cx)(pins:List (Addr×Obj))(σ:St)(Q:VK)(u:Value)(s':Shared):Prop:=∃v H',Inv X pins σ H' s'/\RelV v u/\Q v H'
def TP(X:Cx)(pins:List (Addr×Obj))(σ:St)(Q:Bool->Hp->Prop)(b:Bool)(s':Shared):Prop:=∃H',Inv X pins σ H' s'/\Q b H'
def AP(X:Cx)(pins:List (Addr×Obj))(σ:St)(Q:List V->Hp->Prop)(us:List Value)(s':Shared):Prop:=∃vs H',Inv X pins σ H' s'/\Vals vs us/\Q vs H'
def SP(X:Cx)(pins:List (Addr×Obj))(D:Ends)(f:Flow)(s':Shared):Prop :=
 match f with
 | .next=>∃ σ' H',Inv X pins σ' H' s'/\D.nx σ' H'
 | .brk=>∃ σ' H',Inv X pins σ' H' s'/\D.bk σ' H'
 | .cont=>∃ σ' H',Inv X pins σ' H' s'/\D.ct σ' H'
 | .ret u=>∃v σ' H',Inv X pins σ' H' s'/\RelV v u/\D.rt v H'
def PE(X:Cx)(e:Expr)(t:TE):Prop :=
 ∀(pins:List (Addr×Obj))(s:Shared)(σ:St)(H:Hp)(Q:VK),Inv X pins σ H s->t σ H Q->wpAny (model X.prog X.w) X.A (eval e X.env) (EP X pins σ Q) X.xe s
def PT(X:Cx)(e:Expr)(t:TT):Prop :=
 ∀(pins:List (Addr×Obj))(s:Shared)(σ:St)(H:Hp)(Q:Bool->Hp->Prop),Inv X pins σ H s->t σ H Q->wpAny (model X.prog X.w) X.A (isTrue e X.env (eval e X.env)) (TP X pins σ Q) X.xe s
def PW(X:Cx)(e:Expr)(t:TT):Prop :=
 ∀(whole:Sem Value)(pins:List (Addr×Obj))(s:Shared)(σ:St)(H:Hp)(Q:Bool->Hp->Prop),Inv X pins σ H s->t σ H Q->wpAny (model X.prog X.w) X.A (isTrue e X.env whole) (TP X pins σ Q) X.xe s
theorem PW.pt{X:Cx}{e:Expr}{t:TT}(h:PW X e t):PT X e t:=h _
def PA(X:Cx)(es:List Expr)(t:TA):Prop :=
 ∀(pos:Pos)(pins:List (Addr×Obj))(s:Shared)(σ:St)(H:Hp)(Q:List V->Hp->Prop),Inv X pins σ H s->t σ H Q->wpAny (model X.prog X.w) X.A (spliced (backTo pos (starEach es X.env))) (AP X pins σ Q) X.xe s
def PS(X:Cx)(st:Stmt)(t:TS):Prop :=
 ∀(pins:List (Addr×Obj))(s:Shared)(σ:St)(H:Hp)(D:Ends),Inv X pins σ H s->t D σ H->wpAny (model X.prog X.w) X.A (exec st X.env) (SP X pins D) X.xe s
def PSs(X:Cx)(st:List Stmt)(t:TS):Prop :=
 ∀(pins:List (Addr×Obj))(s:Shared)(σ:St)(H:Hp)(D:Ends),Inv X pins σ H s->t D σ H->wpAny (model X.prog X.w) X.A (execs st X.env) (SP X pins D) X.xe s
theorem thn{α:Type}{t:Sem α}{Q Q' : α->Shared->Prop}{M:Model}{A:Around}{E:Value->Shared->Prop}{s:Shared}(h:wpAny M A t Q E s)(hQ:∀a s,Q a s->Q' a s):wpAny M A t Q' E s:=wpAny_mono h hQ fun _ _ x=>x
end L2
namespace L2
open PySem PySem.Spec PyProof.Rows
section
variable{X:Cx}
def Y3(i:Nat):TE:=fun σ H Q=>∃v,σ[i]? = some (some v)/\Q v H
def tC(v:V):TE:=fun _ H Q=>Q v H
theorem Zef{i:Nat}{x:Str}{pos:Pos}(hN:X.N[i]? = some x)(hv:Vis X.env.scope x)(hd:(x == ("__debug__" : Str))=false:=by decide)(hcd:(x == ("__classdict__" : Str))=false:=by decide):PE X (.Name x pos) (Y3 i):=by
 intro pins s σ H Q I h
 obtain⟨v,e,h⟩:=h
 obtain⟨m,hn,hl⟩:=I.loc
 obtain⟨u,r,l⟩:=hl i x v hN e hv
 have fin:EP X pins σ Q u s:=⟨v,H,I,r,h⟩
 rcases l with⟨hk,hm⟩ | ⟨hk,c,hc,hcell⟩
 ·exact wpAny_Name (wpAny_loadName_local I.ok.kind hk hn hm fin) hd
 ·rcases hk with hk | hk
  ·exact wpAny_Name (wpAny_loadName_cell I.ok.kind hk hc hcell fin) hd
  ·exact wpAny_Name (wpAny_loadName_free I.ok.kind hk hc hcell fin hcd) hd
theorem Zx9 {i j pos}:PE X (.Constant (.int i) j pos) (tC (.int i)):=fun _ _ _ H _ I h=>wpAny_Constant_int ⟨.int i,H,I.tok _,⟨_,rfl⟩,h⟩
theorem Zzz {b j pos}:PE X (.Constant (.bool b) j pos) (tC (.bl b)):=fun _ _ _ H _ I h=>Constant_bool ⟨.bl b,H,I,rfl,h⟩
theorem Zya {j pos}:PE X (.Constant .none j pos) (tC .non):=fun _ _ _ H _ I h=>Constant_none ⟨.non,H,I,rfl,h⟩
theorem Zyb {x j pos}:PE X (.Constant (.str x) j pos) (tC (.str x)):=fun _ _ _ H _ I h=>Calls.Constant_str ⟨.str x,H,I.tok _,⟨_,rfl⟩,h⟩
def Gl(X:Cx)(x:Str):Prop:=X.env.kindOf x=some .globalImplicit
theorem Zb0{E:Value->Shared->Prop}{pins:List (Addr×Obj)}{s:Shared}{σ:St}{H:Hp}{x:Str}{u:Value}{pos:Pos}{Q:Value->Shared->Prop}(I:Inv X pins σ H s)(hg:Gl X x)(hm:X.mg x=some u)(h:Q u s)(hd:(x == ("__debug__" : Str))=false:=by decide):wpAny (model X.prog X.w) X.A (eval (.Name x pos) X.env) Q E s :=
 Calls.Name_function_global I.ok.kind hg (Calls.loadGlobal_global (by rw[I.ok.glob];exact I.mod.glob.keeps I.bk) hm h) hd
theorem U2{E:Value->Shared->Prop}{pins:List (Addr×Obj)}{s:Shared}{σ:St}{H:Hp}{x:Str}{u:Value}{pos:Pos}{Q:Value->Shared->Prop}(I:Inv X pins σ H s)(hg:Gl X x)(hm:X.mg x=none)(hv:bootBuiltins x=some u)(h:Q u s)(hn:x ≠ "__name__" := by decide)(hd:(x == ("__debug__" : Str))=false:=by decide):wpAny (model X.prog X.w) X.A (eval (.Name x pos) X.env) Q E s:=by
 obtain⟨mb,h1,h2⟩:=I.mod.blt
 exact Calls.Name_function_global I.ok.kind hg (Calls.loadGlobal_builtin (by rw[I.ok.glob];exact I.mod.glob.keeps I.bk) hm (by rw[I.ok.blt];exact h1.keeps I.bk) ((h2 x hn).trans hv) h) hd
theorem Zwc{x:Str}{v:V}{u:Value}{pos:Pos}(hg:Gl X x)(hm:X.mg x=some u)(r:RelV v u)(hd:(x == ("__debug__" : Str))=false:=by decide):PE X (.Name x pos) (tC v) :=
 fun _ _ _ H _ I h=>Zb0 I hg hm ⟨v,H,I,r,h⟩ hd
theorem Zwd{x:Str}{v:V}{u:Value}{pos:Pos}(hg:Gl X x)(hm:X.mg x=none)(hv:bootBuiltins x=some u)(r:RelV v u)(hn:x ≠ "__name__" := by decide)(hd:(x == ("__debug__" : Str))=false:=by decide):PE X (.Name x pos) (tC v) :=
 fun _ _ _ H _ I h=>U2 I hg hm hv ⟨v,H,I,r,h⟩ hn hd
variable{a b:Expr}{ta tb:TE}{pos:Pos}
def tB(t:TE):TT:=fun σ H Q=>t σ H fun x H1=>∃c,x = .bl c/\Q c H1
theorem Zyc{e:Expr}{t:TE}(h:PE X e t)(he:∀whole,isTrue e X.env whole=(do let v ← whole;standAt e.pos;holding [v] (truthy v)):=by intro _;rfl):PT X e (tB t):=by
 intro pins s σ H Q I hw
 refine isTrue_plain (thn (h pins s σ H _ I hw) fun v s1 ⟨x,H1,I1,r1,q1⟩=>?_) (he _)
 obtain⟨d,rfl,q⟩:=q1
 cases r1
 exact wpAny_truthy_bool ⟨H1,I1,q⟩
variable{tA tB':TT}{rest:List Expr}
def Zqa(t u:TT):TT:=fun σ H Q=>t σ H fun c H1=>if c=true then u σ H1 Q else Q false H1
def tOr(t u:TT):TT:=fun σ H Q=>t σ H fun c H1=>if c=true then Q true H1 else u σ H1 Q
def Zqb(t:TT):TT:=fun σ H Q=>t σ H fun c H1=>Q (!c) H1
theorem Zwe(ha:PT X a tA):PW X (.BoolOp .And [a] pos) tA:=by
 intro wh pins s σ H Q I h
 refine isTrue_and (thn (ha pins s σ H Q I h) fun c s1 e=>?_)
 cases c with
 | true=>exact isTrue_and_nil e
 | false=>exact e
theorem Zyd(ha:PT X a tA):PW X (.BoolOp .Or [a] pos) tA:=by
 intro wh pins s σ H Q I h
 refine isTrue_or (thn (ha pins s σ H Q I h) fun c s1 e=>?_)
 cases c with
 | false=>exact isTrue_or_nil e
 | true=>exact e
theorem Zye(ha:PT X a tA)(hb:PW X (.BoolOp .And (b::rest) pos) tB'):PW X (.BoolOp .And (a::b::rest) pos) (Zqa tA tB'):=by
 intro wh pins s σ H Q I h
 refine isTrue_and (thn (ha pins s σ H _ I h) fun c s1 ⟨H1,I1,q1⟩=>?_)
 cases c with
 | true=>exact hb wh pins s1 σ H1 Q I1 q1
 | false=>exact⟨H1,I1,q1⟩
theorem Zz0(ha:PT X a tA)(hb:PW X (.BoolOp .Or (b::rest) pos) tB'):PW X (.BoolOp .Or (a::b::rest) pos) (tOr tA tB'):=by
 intro wh pins s σ H Q I h
 refine isTrue_or (thn (ha pins s σ H _ I h) fun c s1 ⟨H1,I1,q1⟩=>?_)
 cases c with
 | true=>exact⟨H1,I1,q1⟩
 | false=>exact hb wh pins s1 σ H1 Q I1 q1
theorem Zyf(ha:PT X a tA):PT X (.UnaryOp .Not a pos) (Zqb tA):=by
 intro pins s σ H Q I h
 exact isTrue_not (ha pins s σ H (fun c H1=>Q (!c) H1) I h)
def Zow(ta tb:TE):TE:=fun σ H Q=>ta σ H fun x H1=>∃c,x = .bl c/\if c=true then tb σ H1 Q else Q (.bl false) H1
def Zox(ta:TE):TE:=fun σ H Q=>ta σ H fun x H1=>∃c,x = .bl c/\Q (.bl (!c)) H1
theorem Zyg {op} {t:TE}(h:PE X a t):PE X (.BoolOp op [a] pos) t:=fun pins s σ H Q I hw=>BoolOp_one (h pins s σ H Q I hw)
theorem Zyh(ha:PE X a ta)(hb:PE X (.BoolOp .And (b::rest) pos) tb):PE X (.BoolOp .And (a::b::rest) pos) (Zow ta tb):=by
 intro pins s σ H Q I h
 refine BoolOp_and (thn (ha pins s σ H _ I h) fun v s1 ⟨x,H1,I1,r1,q1⟩=>?_)
 obtain⟨c,rfl,q1⟩:=q1
 cases r1
 refine wpAny_truthy_bool ?_
 cases c with
 | true=>exact hb pins s1 σ H1 Q I1 q1
 | false=>exact⟨.bl false,H1,I1,rfl,q1⟩
theorem Zyi(ha:PE X a ta):PE X (.UnaryOp .Not a pos) (Zox ta):=by
 intro pins s σ H Q I h
 refine UnaryOp_ (thn (ha pins s σ H _ I h) fun v s1 ⟨x,H1,I1,r1,q1⟩=>?_)
 obtain⟨c,rfl,q1⟩:=q1
 cases r1
 exact not_of (wpAny_truthy_bool ⟨.bl (!c),H1,I1,rfl,q1⟩)
def tIf(t:TT)(ta tb:TE):TE:=fun σ H Q=>t σ H fun c H1=>if c=true then ta σ H1 Q else tb σ H1 Q
theorem Zub{c:Expr}(hc:PT X c tA)(ha:PE X a ta)(hb:PE X b tb):PE X (.IfExp c a b pos) (tIf tA ta tb):=by
 intro pins s σ H Q I h
 refine wpAny_IfExp (thn (hc pins s σ H _ I h) fun d s1 ⟨H1,I1,q1⟩=>?_)
 cases d with
 | true=>exact ha pins s1 σ H1 Q I1 q1
 | false=>exact hb pins s1 σ H1 Q I1 q1
end
end L2
namespace L2
open PySem PySem.Spec PyProof.Rows
def SqL(K:uFg)(H:Hp)(a:Addr)(xs:List V):Prop :=
 Rd H a (.lst xs)\/
  ∃(o:Obj)(its:Array Value)(n:Nat),K.lookup a=some o/\o.cls = .type "list" /\ o.dict=none/\o.data = .seq its n/\its.size<=sizeLine/\Vals xs its.toList
def SqT(K:uFg)(H:Hp)(a:Addr)(xs:List V):Prop :=
 Rd H a (.tup xs)\/
  ∃(o:Obj)(its:Array Value)(n:Nat),K.lookup a=some o/\o.cls = .type "tuple" /\ o.data = .seq its n/\its.size<=sizeLine/\Vals xs its.toList
def Z4e:Value->Option V
 | .none=>some .non
 | .bool b=>some (.bl b)
 | .int i _=>some (.int i)
 | .str x _=>some (.str x)
 | .bytes b _=>some (.byt b)
 | .float b _=>some (.flt b)
 | .ref a=>some (.ref a)
 | .type n=>some (.ty n)
 | _=>none
theorem RelV.abs{x:V}{u:Value}(r:RelV x u):Z4e u=some x:=by
 cases x with
 | non=>cases r;rfl
 | bl _=>cases r;rfl
 | int _=>obtain⟨t,rfl⟩:=r;rfl
 | str _=>obtain⟨t,rfl⟩:=r;rfl
 | byt _=>obtain⟨t,rfl⟩:=r;rfl
 | flt _=>obtain⟨t,rfl⟩:=r;rfl
 | ref _=>cases r;rfl
 | ty _=>cases r;rfl
theorem RelV.inj{x y:V}{u:Value}(r:RelV x u)(q:RelV y u):x=y:=Option.some.inj (r.abs.symm.trans q.abs)
theorem Vals.inj:∀{xs ys:List V}{us:List Value},Vals xs us->Vals ys us->xs=ys
 | _,_,_,.nil,.nil=>rfl
 | _,_,_,.cons r t,.cons r' t'=>by rw[r.inj r',Vals.inj t t']
section
variable{X:Cx}{pins:List (Addr×Obj)}{σ:St}{H:Hp}{s:Shared}{a:Addr}{xs ys:List V}
theorem SqL.of{K:uFg}(h:H a=some (.lst xs)):SqL K H a xs:=.inl (.inl h)
theorem SqT.of{K:uFg}(h:H a=some (.tup xs)):SqT K H a xs:=.inl (.inl h)
theorem Inv.list(I:Inv X pins σ H s)(h:SqL X.K H a xs):∃its:List Value,Vals xs its/\PlainL s.heap a its.toArray/\xs.length<=sizeLine:=by
 rcases h with h | ⟨o,its,n,hk,hc,hd,hs,hz,r⟩
 ·obtain⟨z,its,n,r,e⟩:=h.ok I.hok
  exact⟨its,r,⟨_,n,e,rfl,rfl,rfl⟩,z⟩
 ·refine⟨its.toList,r,⟨o,n,I.kIn a o hk,hc,hd,by simpa using hs⟩,?_⟩
  have e:=r.length
  simp only[Array.length_toList] at e
  lia
theorem Inv.tuple(I:Inv X pins σ H s)(h:SqT X.K H a xs):∃its:List Value,Vals xs its/\IsTup s.heap a its.toArray/\xs.length<=sizeLine:=by
 rcases h with h | ⟨o,its,n,hk,hc,hs,hz,r⟩
 ·obtain⟨z,its,r,p⟩:=h.ok I.hok
  exact⟨its,r,p,z⟩
 ·refine⟨its.toList,r,⟨o,I.kIn a o hk,hc,n,by simpa using hs⟩,?_⟩
  have e:=r.length
  simp only[Array.length_toList] at e
  lia
theorem Inv.list_inj(I:Inv X pins σ H s)(h:SqL X.K H a xs)(h':SqL X.K H a ys):xs=ys:=by
 obtain⟨its,r,⟨o,n,e,_,_,d⟩,_⟩:=I.list h
 obtain⟨its',r',⟨o',n',e',_,_,d'⟩,_⟩:=I.list h'
 rw[e] at e';cases e'
 rw[d] at d'
 injection d' with d1 _
 have:its=its':=by simpa using congrArg Array.toList d1
 subst this
 exact r.inj r'
theorem Inv.tuple_inj(I:Inv X pins σ H s)(h:SqT X.K H a xs)(h':SqT X.K H a ys):xs=ys:=by
 obtain⟨its,r,⟨o,e,_,n,d⟩,_⟩:=I.tuple h
 obtain⟨its',r',⟨o',e',_,n',d'⟩,_⟩:=I.tuple h'
 rw[e] at e';cases e'
 rw[d] at d'
 injection d' with d1 _
 have:its=its':=by simpa using congrArg Array.toList d1
 subst this
 exact r.inj r'
end
abbrev Cx.wish(X:Cx)(E:Value->Shared->Prop):Cx:={X with xe:=E }
abbrev Cx.nox(X:Cx):Cx:=X.wish fun _ _=>False
theorem Cx.Ok.wish{X:Cx}(ok:X.Ok)(E:Value->Shared->Prop):(X.wish E).Ok :=
 ⟨ok.mod,ok.kind,ok.glob,ok.blt,ok.above,ok.inj,ok.has,ok.cab,ok.hd,ok.frames,ok.stk,ok.exf,ok.bs,ok.bsz,ok.noex,ok.exfs,ok.funs,ok.frf⟩
theorem Cx.Ok.unwish{X:Cx}{E:Value->Shared->Prop}(ok:(X.wish E).Ok):X.Ok :=
 ⟨ok.mod,ok.kind,ok.glob,ok.blt,ok.above,ok.inj,ok.has,ok.cab,ok.hd,ok.frames,ok.stk,ok.exf,ok.bs,ok.bsz,ok.noex,ok.exfs,ok.funs,ok.frf⟩
section
variable{X:Cx}{pins:List (Addr×Obj)}{σ:St}{H:Hp}{s:Shared}{E:Value->Shared->Prop}
theorem Inv.wish(I:Inv X pins σ H s)(E:Value->Shared->Prop):Inv (X.wish E) pins σ H s:=⟨I.ok.wish E,I.os,I.bare,I.base,I.loc,I.cell,I.free,I.freeC,I.pin,I.hok,I.len⟩
theorem Inv.unwish(I:Inv (X.wish E) pins σ H s):Inv X pins σ H s:=⟨I.ok.unwish,I.os,I.bare,I.base,I.loc,I.cell,I.free,I.freeC,I.pin,I.hok,I.len⟩
theorem SP.unwish{D:Ends}{f:Flow}{s':Shared}(h:SP (X.wish E) pins D f s'):SP X pins D f s':=by
 cases f with
 | next=>obtain⟨σ',H',I,q⟩:=h;exact⟨σ',H',I.unwish,q⟩
 | brk=>obtain⟨σ',H',I,q⟩:=h;exact⟨σ',H',I.unwish,q⟩
 | cont=>obtain⟨σ',H',I,q⟩:=h;exact⟨σ',H',I.unwish,q⟩
 | ret u=>obtain⟨v,σ',H',I,r,q⟩:=h;exact⟨v,σ',H',I.unwish,r,q⟩
theorem PSs.nox{st:List Stmt}{t:TS}(h:PSs X.nox st t):PSs X st t:=fun pins s σ H D I hw =>
 wpAny_mono (h pins s σ H D (I.wish _) hw) (fun _ _ q=>q.unwish) fun _ _ z=>False.elim z
end
section
variable{X:Cx}{st:Stmt}{rest:List Stmt}{t u:TS}{e:Expr}{te:TE}{pos:Pos}
def Wr:TS:=fun D σ H=>D.nx σ H
def V2(t u:TS):TS:=fun D σ H=>t {D with nx:=u D } σ H
theorem Zwf:PSs X [] Wr:=fun _ _ σ H _ I h=>wpAny_execs_nil ⟨σ,H,I,h⟩
theorem Zuc(h1:PS X st t)(h2:PSs X rest u):PSs X (st::rest) (V2 t u):=by
 intro pins s σ H D I h
 refine wpAny_execs_cons (thn (h1 pins s σ H {D with nx:=u D } I h) fun f s1 q=>?_)
 cases f with
 | next =>
  obtain⟨σ',H',I',q⟩:=q
  exact h2 pins s1 σ' H' D I' q
 | ret v=>exact q
 | brk=>exact q
 | cont=>exact q
theorem Zwg(h1:PS X st t):PSs X [st] t:=by
 intro pins s σ H D I h
 refine wpAny_execs_cons (thn (h1 pins s σ H D I h) fun f s1 q=>?_)
 cases f with
 | next=>exact wpAny_execs_nil q
 | ret v=>exact q
 | brk=>exact q
 | cont=>exact q
theorem Inv.quiet{pins:List (Addr×Obj)}{σ:St}{H:Hp}{s:Shared}(I:Inv X pins σ H s):interactive X.env=false:=by simp[interactive,I.ok.kind]
def Zep(te:TE):TS:=fun D σ H=>te σ H fun _ H1=>D.nx σ H1
theorem Zwh(he:PE X e te)(hs:swapsWith e none pos.line X.env=pure false:=by rfl):PS X (.Expr e pos) (Zep te):=by
 intro pins s σ H D I h
 exact wpAny_Expr_any (thn (he pins s σ H _ I h) fun v s1 ⟨x,H1,I1,r1,q1⟩=>⟨σ,H1,I1,q1⟩) I.quiet hs
def Zqc(te:TE):TS:=fun D σ H=>te σ H D.rt
theorem Zyj(he:PE X e te):PS X (.Return (some e) pos) (Zqc te):=by
 intro pins s σ H D I h
 exact wpAny_Return_some (thn (he pins s σ H _ I h) fun v s1 ⟨x,H1,I1,r1,q1⟩=>⟨x,σ,H1,I1,r1,q1⟩)
def Zdg(c:TT)(t u:TS):TS:=fun D σ H=>c σ H fun b H1=>if b=true then t D σ H1 else u D σ H1
theorem Zz1{c:Expr}{a b:List Stmt}{tc:TT}(hc:PT X c tc)(ha:PSs X a t)(hb:PSs X b u):PS X (.If c a b pos) (Zdg tc t u):=by
 intro pins s σ H D I h
 refine wpAny_If (thn (hc pins s σ H _ I h) fun d s1 ⟨H1,I1,q1⟩=>?_)
 cases d with
 | true=>exact ha pins s1 σ H1 D I1 q1
 | false=>exact hb pins s1 σ H1 D I1 q1
end
abbrev TG:=V->St->Hp->(St->Hp->Prop)->Prop
abbrev TGs:=List V->St->Hp->(St->Hp->Prop)->Prop
def PG(X:Cx)(target:Expr)(t:TG):Prop :=
 ∀(pins:List (Addr×Obj))(s:Shared)(σ:St)(H:Hp)(v:V)(u:Value)(Q:St->Hp->Prop),Inv X pins σ H s->RelV v u->t v σ H Q ->
  wpAny (model X.prog X.w) X.A (assign target X.env u) (fun _ s'=>∃ σ' H',Inv X pins σ' H' s'/\Q σ' H') X.xe s
def PGs(X:Cx)(ts:List Expr)(t:TGs):Prop :=
 ∀(pins:List (Addr×Obj))(s:Shared)(σ:St)(H:Hp)(vs:List V)(us:List Value)(Q:St->Hp->Prop),Inv X pins σ H s->Vals vs us->t vs σ H Q ->
  wpAny (model X.prog X.w) X.A (assignInOrder ((assignEach ts X.env).map (·.2)) us) (fun _ s'=>∃ σ' H',Inv X pins σ' H' s'/\Q σ' H') X.xe s
abbrev Zdh:=V->V->V->Hp->(Hp->Prop)->Prop
def Zj3(X:Cx)(t:Zdh):Prop :=
 ∀(pins:List (Addr×Obj))(s:Shared)(σ:St)(H:Hp)(o i v:V)(ov iv u:Value)(Q:Hp->Prop),Inv X pins σ H s->RelV o ov->RelV i iv->RelV v u->t o i v H Q ->
  wpAny (model X.prog X.w) X.A (setItem ov iv u) (fun _ s'=>∃H',Inv X pins σ H' s'/\Q H') X.xe s
abbrev TIp:=V->V->Hp->VK->Prop
def PIp(X:Cx)(op:Operator)(t:TIp):Prop :=
 ∀(pins:List (Addr×Obj))(s:Shared)(σ:St)(H:Hp)(x y:V)(v u:Value)(Q:VK),Inv X pins σ H s->RelV x v->RelV y u->t x y H Q ->
  wpAny (model X.prog X.w) X.A (inplaceOp op v u) (EP X pins σ Q) X.xe s
section
variable{X:Cx}{pos:Pos}
def Wv(i:Nat):TG:=fun v σ H Q=>Q (σ.set i (some v)) H
theorem Zmp{i:Nat}{x:Str}(hN:X.N.Nodup)(hi:X.N[i]? = some x)(hx:Loc X.env.scope x)(hf:X.fn x=true\/X.env.scope.names.lookup x=some .local:=by first | exact .inl rfl | exact .inr rfl | assumption):PG X (.Name x pos) (Wv i):=by
 intro pins s σ H v u Q I r h
 exact wpAny_assign_Name (Zl1 I hN hi hx r (fun s' I'=>⟨_,H,I',h⟩) hf)
def Ze9:TGs:=fun vs σ H Q=>vs = []/\Q σ H
def Zca(t:TG)(u:TGs):TGs:=fun vs σ H Q=>∃v r,vs=v::r/\t v σ H fun σ' H'=>u r σ' H' Q
theorem Zwi:PGs X [] Ze9:=by
 intro pins s σ H vs us Q I r h
 obtain⟨e,h⟩:=h
 subst e
 cases r
 exact assignInOrder_nil ⟨σ,H,I,h⟩
theorem Zud{e:Expr}{es:List Expr}{t:TG}{u:TGs}(h1:PG X e t)(h2:PGs X es u)(hs:(assignEach (e::es) X.env).map (·.2)=assign e X.env::(assignEach es X.env).map (·.2):=by rfl):PGs X (e::es) (Zca t u):=by
 intro pins s σ H vs us Q I r h
 obtain⟨v,vr,e1,h⟩:=h
 subst e1
 cases r with
 | cons r rr =>
  rw[hs]
  refine assignInOrder_cons (thn (h1 pins s σ H _ _ _ I r h) fun _ s1 ⟨σ1,H1,I1,q1⟩=>?_)
  exact h2 pins s1 σ1 H1 _ _ Q I1 rr q1
def Zdi(K:uFg)(n:Nat)(t:TGs):TG:=fun v σ H Q=>∃a xs,v = .ref a/\SqT K H a xs/\xs.length=n/\t xs σ H Q
theorem Znq{es:List Expr}{k:Nat}{t:TGs}{n:Nat}(hc:X.calm=true)(h:PGs X es t)(hn:(assignEach es X.env).length=n:=by rfl)(hst:(assignEach es X.env).findIdx? (·.1)=none:=by rfl):PG X (.Tuple es k pos) (Zdi X.K n t):=by
 intro pins s σ H v u Q I r hw
 obtain⟨a,xs,e1,hq,hl,hw⟩:=hw
 subst e1
 cases r
 obtain⟨its,rv,ht,hz⟩:=I.tuple hq
 refine assign_Tuple_tuple (I.ok.hd hc) ht (by simp[hn,← hl,rv.length]) hst fun h' hx=>?_
 have I1:Inv X pins σ H {s with heap:=h' }:=I.kept (t':=s.toks) fun b o e=>hx b o (yD (xM e)) e
 exact h pins _ σ H xs _ Q I1 (by simpa using rv) hw
def Zqd(to ti:TE)(t:Zdh):TG:=fun v σ H Q=>to σ H fun o H1=>ti σ H1 fun i H2=>t o i v H2 fun H3=>Q σ H3
theorem Zyk{o i:Expr}{to ti:TE}{t:Zdh}(ho:PE X o to)(hi:PE X i ti)(hs:Zj3 X t)(ha:∀v,assign (.Subscript o i pos) X.env v=(do
   let ov ← holding [v] (eval o X.env)
   let iv ← holding [v,ov] (eval i X.env)
   standAt pos
   holding [v,ov,iv] (setItem ov iv v)
   release [v,ov,iv] []):=by intro _;rfl):PG X (.Subscript o i pos) (Zqd to ti t):=by
 intro pins s σ H v u Q I r h
 rw[ha]
 refine wpAny_bind (wpAny_holding (thn (ho pins s σ H _ I h) fun ov s1 ⟨x,H1,I1,r1,q1⟩=>?_))
 refine wpAny_bind (wpAny_holding (thn (hi pins s1 σ H1 _ I1 q1) fun iv s2 ⟨y,H2,I2,r2,q2⟩=>?_))
 refine wpAny_bind (wpAny_standAt (wpAny_bind (wpAny_holding (thn (hs pins s2 σ H2 x y v ov iv u _ I2 r1 r2 r q2) fun _ s3 ⟨H3,I3,q3⟩=>?_))))
 exact wpAny_release ⟨σ,H3,I3,q3⟩
def Uw(te:TE)(g:TG):TS:=fun D σ H=>te σ H fun x H1=>g x σ H1 D.nx
theorem Zyl{tg e:Expr}{te:TE}{g:TG}(he:PE X e te)(hg:PG X tg g)(hs:swapsWithSole [tg] e pos.line X.env=pure false:=by rfl)(hw:swappedStores [tg] e X.env=pure none:=by rfl)(h1:(assignEach [tg] X.env).map (·.2)= [assign tg X.env]:=by rfl):PS X (.Assign [tg] e pos) (Uw te g):=by
 intro pins s σ H D I h
 refine wpAny_Assign_stores (thn (he pins s σ H _ I h) fun v s1 ⟨x,H1,I1,r1,q1⟩=>?_) hs hw
 rw[h1]
 exact thn (hg pins s1 σ H1 x v _ I1 r1 q1) fun _ s2 q=>q
theorem Znr{i:Nat}{x:Str}{e:Expr}{te:TE}{pos':Pos}(hN:X.N.Nodup)(hi:X.N[i]? = some x)(hx:Loc X.env.scope x)(he:PE X e te)(hs:swapsWith e (some (.Name x pos')) pos.line X.env=pure false:=by rfl)(hf:X.fn x=true\/X.env.scope.names.lookup x=some .local:=by first | exact .inl rfl | exact .inr rfl | assumption) :
  PS X (.Assign [.Name x pos'] e pos) (Uw te (Wv i)):=by
 intro pins s σ H D I h
 refine wpAny_Assign_Name (thn (he pins s σ H _ I h) fun v s1 ⟨y,H1,I1,r1,q1⟩=>?_) hs
 exact Zl1 I1 hN hi hx r1 (fun s2 I2=>⟨_,H1,I2,q1⟩) hf
end
section
variable{X:Cx}{pos:Pos}
end
structure It where
 go:Nat->Hp->Prop
 yld:Nat->Hp->V->Hp->Prop
 stop:Nat->Hp->Prop
def V3(X:Cx)(pins:List (Addr×Obj))(H:Hp)(b:Addr):Prop :=
 H b=none/\b≠X.env.locals/\b∉X.fs/\(b∈X.ex\/X.s₀.heap.objs.size<=b)/\(∀x c,X.env.cells.lookup x=some c->c≠b)/\∀p∈X.pn++pins,p.1≠b
theorem Inv.fpOk{X:Cx}{pins:List (Addr×Obj)}{σ:St}{H H':Hp}{s:Shared}{b:Addr}(I:Inv X pins σ H s)(hb:s.heap.objs.size<=b)(hn:H' b=none):V3 X pins H' b:=by
 refine⟨hn,Nat.ne_of_gt (yF I.lt hb),I.nofs hb,.inr (xT I.sz hb),fun x c e z=>?_,fun p hp z=>?_⟩
 ·obtain⟨v,q⟩:=I.cell x c e
  exact absurd (yF q.lt (by rw[z];exact hb)) (zH _)
 ·exact absurd (yF (xM (I.pin p hp).1) (by rw[z];exact hb)) (zH _)
structure Turn (P:Program) (w:World) (K:uFg) (tg:Expr) (J:It) (fp:List Addr) (it:Addr) (tn:Nat->Heap->Prop):Prop where
 mem:it∈fp
 obj:∀i h,tn i h->∀b∈fp,∃o,h.get? b=some o/\∀v,o.data ≠ .cell v
 keep:∀i h h',tn i h->(∀b∈fp,∀o,h.get? b=some o->h'.get? b=some o)->tn i h'
 item:∀(X:Cx),X.prog=P->X.w=w->X.K=K->X.calm=true->∀(i:Nat)(pins:List (Addr×Obj))(s:Shared)(σ:St)(H:Hp)(E:Value->Shared->Prop),Inv X pins σ H s->(∀b∈fp,V3 X pins H b)->tn i s.heap->J.go i H ->
  wpAny (model P w) X.A (pyNext (.ref it)) (fun r s1=>∃u,r=some u /\
   wpAny (model P w) X.A (letOwnedTupleGo tg (.ref it) u) (fun _ s2=>∃x H',Inv X pins σ H' s2/\RelV x u/\J.yld i H x H'/\tn (i+1) s2.heap/\∀b∈fp,H' b=none) E s1) E s
 done:∀(X:Cx),X.prog=P->X.w=w->X.K=K->X.calm=true->∀(i:Nat)(pins:List (Addr×Obj))(s:Shared)(σ:St)(H:Hp)(E:Value->Shared->Prop),Inv X pins σ H s->(∀b∈fp,V3 X pins H b)->tn i s.heap->J.stop i H ->
  wpAny (model P w) X.A (pyNext (.ref it)) (fun r s1=>r=none/\Inv X pins σ H s1) E s
 self:∀(A:Around)(i:Nat)(s:Shared)(Q:Value->Shared->Prop)(E:Value->Shared->Prop),tn i s.heap->Q (.ref it) s->wpAny (model P w) A (pyIter (.ref it)) Q E s
abbrev TI:=St->Hp->(It->Hp->Prop)->Prop
def PIE(X:Cx)(pins:List (Addr×Obj))(σ:St)(tg:Expr)(R:It->Hp->Prop)(itv:Value)(s2:Shared):Prop :=
 ∃(it:Addr)(fp:List Addr)(tn:Nat->Heap->Prop)(J:It)(H':Hp),itv = .ref it/\Inv X pins σ H' s2/\Turn X.prog X.w X.K tg J fp it tn/\tn 0 s2.heap/\(∀b∈fp,V3 X pins H' b)/\R J H'
def PI(X:Cx)(tg iter:Expr)(wi:TI):Prop :=
 ∀(pins:List (Addr×Obj))(s:Shared)(σ:St)(H:Hp)(R:It->Hp->Prop),Inv X pins σ H s->wi σ H R ->
  wpAny (model X.prog X.w) X.A (eval iter X.env) (fun v s1=>wpAny (model X.prog X.w) X.A (pyIter v) (PIE X pins σ tg R) X.xe s1) X.xe s
theorem Zcb{M:Model}{A:Around}{E:Value->Shared->Prop}{s:Shared}{tg:Expr}{it:Addr}{u:Value}{o:Obj}{n:String}{vs:Array Value}{Q:Unit->Shared->Prop}(ho:s.heap.get? it=some o)(hc:o.cls = .type n)(hd:o.data = .fields vs)(hn : ["enumerate", "zip", "dict_itemiterator", "dict_reverseitemiterator", "odict_iterator", "itertools.zip_longest", "itertools.pairwise"].contains n=false)(hQ:Q () s):wpAny M A (letOwnedTupleGo tg (.ref it) u) Q E s:=by
  unfold letOwnedTupleGo
  cases tg<;>first
    | exact wpAny_pure hQ
    | (cases u<;>first
        | exact wpAny_pure hQ
        | (refine wpAny_bind (wpAny_load ho ?_)
           rw[hc,hd]
           show wpAny M A (if (["enumerate", "zip", "dict_itemiterator", "dict_reverseitemiterator", "odict_iterator", "itertools.zip_longest", "itertools.pairwise"].contains n && vs[0]? == some (rawInt _))=true then _ else _) Q E s
           rw[if_neg (by intro h;rw[hn,zI] at h;cases h)]
           exact wpAny_pure hQ))
def Itl(K:uFg)(a:Addr):It :=
 ⟨fun i H=>∃xs x,SqL K H a xs/\xs[i]? = some x,fun i H x H'=>H'=H/\∀xs,SqL K H a xs->xs[i]? = some x,fun i H=>∃xs,SqL K H a xs/\xs.length<=i⟩
def Itt(K:uFg)(a:Addr):It :=
 ⟨fun i H=>∃xs x,SqT K H a xs/\xs[i]? = some x,fun i H x H'=>H'=H/\∀xs,SqT K H a xs->xs[i]? = some x,fun i H=>∃xs,SqT K H a xs/\xs.length<=i⟩
def Itr(lo:Int)(n:Nat):It:=⟨fun i _=>i < n,fun i H x H'=>H'=H/\x = .int (lo+i),fun i _=>n<=i⟩
theorem Zsy{P:Program}{w:World}{K:uFg}{tg:Expr}(a it:Addr):Turn P w K tg (Itl K a) [it] it (fun i h=>h.IsListIter it a i) where
 mem:=by simp
 obj:=fun i h st b hb=>by
  have e:b=it:=by simpa using hb
  subst e
  obtain⟨o,e,c,d⟩:=st
  exact⟨o,e,fun v z=>by rw[d] at z;cases z⟩
 keep:=fun i h h' st k=>st.at fun o e=>k it (by simp) o e
 item:=by
  intro X hP hw hK hc i pins s σ H E I hf st hg
  subst hP hw hK
  obtain⟨xs,x,hq,hx⟩:=hg
  obtain⟨its,rv,p,hz⟩:=I.list hq
  obtain⟨u,hu,ru⟩:=rv.get hx
  obtain⟨f0,f1,f2,f3,f4,f5⟩:=hf it (by simp)
  refine wpAny_pyNext_list_item st p.isList (x:=u) (by simpa using hu) fun h' st' sb=>?_
  have I1:Inv X pins σ H {s with heap:=h' }:=I.turned (t':=s.toks) (fun b o hb e=>(sb.2 b hb).trans e) f0 f1 f3 f4 f5
  obtain⟨o,e,c,d⟩:=id st'
  exact⟨u,rfl,Zcb (s:={s with heap:=h' }) e c d (by decide) ⟨x,H,I1,ru,⟨rfl,fun ys hy=>by rw[I.list_inj hy hq];exact hx⟩,st',fun b hb=>(hf b hb).1⟩⟩
 done:=by
  intro X hP hw hK hc i pins s σ H E I hf st hg
  subst hP hw hK
  obtain⟨xs,hq,hx⟩:=hg
  obtain⟨its,rv,p,hz⟩:=I.list hq
  obtain⟨f0,f1,f2,f3,f4,f5⟩:=hf it (by simp)
  have hl:=rv.length
  exact wpAny_pyNext_list_end (I.ok.hd hc) st p.isList (by simp;lia) fun h' eb=>⟨rfl,I.turned (t':=s.toks) (fun b o hb e=>eb b o hb e) f0 f1 f3 f4 f5⟩
 self:=fun _ _ _ _ _ st h=>wpAny_pyIter_listiter st h
theorem Zr3{P:Program}{w:World}{K:uFg}{tg:Expr}(a it:Addr):Turn P w K tg (Itt K a) [it] it (fun i h=>h.IsTupleIter it a i) where
 mem:=by simp
 obj:=fun i h st b hb=>by
  have e:b=it:=by simpa using hb
  subst e
  obtain⟨o,e,c,d⟩:=st
  exact⟨o,e,fun v z=>by rw[d] at z;cases z⟩
 keep:=fun i h h' st k=>st.at fun o e=>k it (by simp) o e
 item:=by
  intro X hP hw hK hc i pins s σ H E I hf st hg
  subst hP hw hK
  obtain⟨xs,x,hq,hx⟩:=hg
  obtain⟨its,rv,p,hz⟩:=I.tuple hq
  obtain⟨u,hu,ru⟩:=rv.get hx
  obtain⟨f0,f1,f2,f3,f4,f5⟩:=hf it (by simp)
  refine wpAny_pyNext_tuple_item st (show s.heap.IsTuple a its.toArray from p) (x:=u) (by simpa using hu) fun h' st' sb=>?_
  have I1:Inv X pins σ H {s with heap:=h' }:=I.turned (t':=s.toks) (fun b o hb e=>(sb.2 b hb).trans e) f0 f1 f3 f4 f5
  obtain⟨o,e,c,d⟩:=id st'
  exact⟨u,rfl,Zcb (s:={s with heap:=h' }) e c d (by decide) ⟨x,H,I1,ru,⟨rfl,fun ys hy=>by rw[I.tuple_inj hy hq];exact hx⟩,st',fun b hb=>(hf b hb).1⟩⟩
 done:=by
  intro X hP hw hK hc i pins s σ H E I hf st hg
  subst hP hw hK
  obtain⟨xs,hq,hx⟩:=hg
  obtain⟨its,rv,p,hz⟩:=I.tuple hq
  obtain⟨f0,f1,f2,f3,f4,f5⟩:=hf it (by simp)
  have hl:=rv.length
  exact wpAny_pyNext_tuple_end (I.ok.hd hc) st (show s.heap.IsTuple a its.toArray from p) (by simp;lia) fun h' eb=>⟨rfl,I.turned (t':=s.toks) (fun b o hb e=>eb b o hb e) f0 f1 f3 f4 f5⟩
 self:=fun _ _ _ _ _ st h=>wpAny_pyIter_tupleiter st h
theorem Zr4{P:Program}{w:World}{K:uFg}{tg:Expr}(it:Addr)(lo:Int)(n:Nat):Turn P w K tg (Itr lo n) [it] it (fun i h=>IsRangeIter h it (lo+(i:Nat) * 1) ((n:Int) - (i:Nat)) 1) where
 mem:=by simp
 obj:=fun i h st b hb=>by
  have e:b=it:=by simpa using hb
  subst e
  exact⟨_,st,fun v z=>by
   have z':Data.fields _=Data.cell v:=z
   cases z'⟩
 keep:=fun i h h' st k=>k it (by simp) _ st
 item:=by
  intro X hP hw hK hc i pins s σ H E I hf st hg
  subst hP hw hK
  obtain⟨f0,f1,f2,f3,f4,f5⟩:=hf it (by simp)
  have W:=Walks.range (prog:=X.prog) (w:=X.w) (I.ok.hd hc) it lo 1 n
  refine W.item i s _ _ hg st fun v h' tk hv st' kk=>?_
  obtain⟨t,rfl⟩:=hv
  have I1:Inv X pins σ H {s with heap:=h',toks:=tk }:=I.turned (fun b o hb e=>kk b o (by simpa using hb) e) f0 f1 f3 f4 f5
  refine⟨_,rfl,Zcb (s:={s with heap:=h',toks:=tk }) (n:="range_iterator") st' rfl rfl (by decide) ⟨.int (lo+i),H,I1,⟨t,?_⟩,⟨rfl,rfl⟩,st',fun b hb=>(hf b hb).1⟩⟩
  rw[Int.mul_one]
 done:=by
  intro X hP hw hK hc i pins s σ H E I hf st hg
  subst hP hw hK
  obtain⟨f0,f1,f2,f3,f4,f5⟩:=hf it (by simp)
  exact wpAny_pyNext_range_end (I.ok.hd hc) st (by have:n<=i:=hg;lia) fun h' eb=>⟨rfl,I.turned (t':=s.toks) (fun b o hb e=>eb b o hb e) f0 f1 f3 f4 f5⟩
 self:=fun _ _ _ _ _ st h=>wpAny_pyIter_rangeiter st h
end L2
namespace L2
open PySem PySem.Spec PyProof.Rows
section
variable{X:Cx}{tg:Expr}
def Zoy(K:uFg)(tl:TE):TI:=fun σ H R=>tl σ H fun x H1=>∃a,x = .ref a/\(∃xs,SqL K H1 a xs)/\R (Itl K a) H1
def Zqe(K:uFg)(tl:TE):TI:=fun σ H R=>tl σ H fun x H1=>∃a,x = .ref a/\(∃xs,SqT K H1 a xs)/\R (Itt K a) H1
theorem Zwj{l:Expr}{tl:TE}(hl:PE X l tl):PI X tg l (Zoy X.K tl):=by
 intro pins s σ H R I h
 refine thn (hl pins s σ H _ I h) fun v s1 ⟨x,H1,I1,r1,q1⟩=>?_
 obtain⟨a,e,⟨xs,hq⟩,q⟩:=q1
 subst e
 cases r1
 obtain⟨its,rv,p,hz⟩:=I1.list hq
 refine wpAny_pyIter_list p.isList ?_
 refine⟨s1.heap.objs.size,[s1.heap.objs.size],_,_,H1,rfl,I1.kept (t':=s1.toks) fun b o e=>xA _ e,Zsy a _,⟨_,xP _ rfl,rfl,rfl⟩,fun b hb=>?_,q⟩
 have e:b=s1.heap.objs.size:=by simpa using hb
 subst e
 exact I1.fpOk (xE _) (I1.hok.fresh (xE _))
theorem Zym{l:Expr}{tl:TE}(hl:PE X l tl):PI X tg l (Zqe X.K tl):=by
 intro pins s σ H R I h
 refine thn (hl pins s σ H _ I h) fun v s1 ⟨x,H1,I1,r1,q1⟩=>?_
 obtain⟨a,e,⟨xs,hq⟩,q⟩:=q1
 subst e
 cases r1
 obtain⟨its,rv,p,hz⟩:=I1.tuple hq
 refine wpAny_pyIter_tuple (show s1.heap.IsTuple a its.toArray from p) ?_
 refine⟨s1.heap.objs.size,[s1.heap.objs.size],_,_,H1,rfl,I1.kept (t':=s1.toks) fun b o e=>xA _ e,Zr3 a _,⟨_,xP _ rfl,rfl,rfl⟩,fun b hb=>?_,q⟩
 have e:b=s1.heap.objs.size:=by simpa using hb
 subst e
 exact I1.fpOk (xE _) (I1.hok.fresh (xE _))
theorem Zue{pins:List (Addr×Obj)}{σ:St}{H:Hp}{s:Shared}{R:It->Hp->Prop}{E:Value->Shared->Prop}{lo hi:Int}{t u v:Tok}{tk:Nat}(I:Inv X pins σ H s)(h1 : -(2 ^ 62)<=lo)(h2:lo < 2 ^ 62)(h3 : -(2 ^ 62)<=hi)(h4:hi < 2 ^ 62)(q:R (Itr lo (hi - lo).toNat) H):wpAny (model X.prog X.w) X.A (pyIter (.ref s.heap.objs.size)) (PIE X pins σ tg R) E {s with heap:=s.heap.push {cls:=.type "range", data:=.fields #[.int lo t,.int hi u,.int 1 v] },toks:=tk }:=by
 refine wpAny_pyIter_range (IsRange.new ..) (small_one h1 h2 h3 h4) ?_
 have I1:Inv X pins σ H {s with heap:=s.heap.push {cls:=.type "range", data:=.fields #[.int lo t,.int hi u,.int 1 v] },toks:=tk }:=I.kept fun b o e=>xA _ e
 refine⟨(s.heap.push {cls:=.type "range", data:=.fields #[.int lo t,.int hi u,.int 1 v] }).objs.size,[(s.heap.push {cls:=.type "range", data:=.fields #[.int lo t,.int hi u,.int 1 v] }).objs.size],_,_,H,rfl,
  I1.kept (t':=tk) fun b o e=>xA _ e,Zr4 _ lo (hi - lo).toNat,?_,fun b hb=>?_,q⟩
 ·have e1:lo+((0:Nat):Int) * 1=lo:=by simp
  have e2:(((hi - lo).toNat:Nat):Int) - ((0:Nat):Int)=Builtin.Range.rangeSize lo hi 1:=by rw[rangeSize_one];split<;>lia
  show IsRangeIter _ _ (lo+((0:Nat):Int) * 1) ((((hi - lo).toNat:Nat):Int) - ((0:Nat):Int)) 1
  rw[e1,e2]
  exact xP _ rfl
 ·have e:b=(s.heap.push {cls:=.type "range", data:=.fields #[.int lo t,.int hi u,.int 1 v] }).objs.size:=by simpa using hb
  subst e
  exact I1.fpOk (xE _) (I1.hok.fresh (xE _))
def Zoz(ta:TA):TI:=fun σ H R=>ta σ H fun vs H1=>∃j:Int,vs = [.int j]/\ -(2 ^ 62)<=j/\j < 2 ^ 62/\R (Itr 0 j.toNat) H1
theorem Zsz{a:Expr}{ta:TA}{p pos:Pos}(hg:Gl X "range")(hm:X.mg "range" = none)(ha:PA X [a] ta)(hs:starEach [a] X.env = [(false,eval a X.env)]:=by rfl):PI X tg (.Call (.Name "range" p) [a] [] pos) (Zoz ta):=by
 intro pins s σ H R I h
 refine Call_ (U2 I hg hm boot_range (PyProof.Rows.callWith_type1 (thn (ha pos pins s σ H _ I h) fun us s1 ⟨vs,H1,I1,r1,q1⟩=>?_) hs rfl))
 obtain⟨j,e,q1,q2,q⟩:=q1
 subst e
 cases r1 with
 | cons r rr =>
  cases rr
  obtain⟨t,rfl⟩:=r
  exact call_range_1 (Zue I1 (by lia) (by lia) q1 q2 (by simpa using q))
def Z4f(wi:TI)(g:TG)(tb:TS):TS:=fun D σ H=>wi σ H fun J H1=>∃W:Nat->Nat->St->Hp->Prop,(∃m,W 0 m σ H1)/\∀i m σ H,W i m σ H ->
 (J.stop i H/\D.nx σ H)\/(J.go i H/\∃N:St->Hp->Prop,(∀ σ' H',N σ' H'->∃m',m' < m/\W (i+1) m' σ' H')/\∀x H',J.yld i H x H'->g x σ H' fun σ2 H2=>tb {D with nx:=N,ct:=N,bk:=D.nx } σ2 H2)
def Za1(fp:List Addr)(h:Heap):List (Addr×Obj):=fp.filterMap fun b=>(h.get? b).map fun o=>(b,o)
theorem Zcv{fp:List Addr}{h:Heap}{b:Addr}{o:Obj}(hb:b∈fp)(e:h.get? b=some o):(b,o)∈Za1 fp h:=List.mem_filterMap.mpr ⟨b,hb,by rw[e];rfl⟩
theorem Zlg{fp:List Addr}{h:Heap}{p:Addr×Obj}(hp:p∈Za1 fp h):p.1∈fp/\h.get? p.1=some p.2:=by
 obtain⟨b,hb,e⟩:=List.mem_filterMap.mp hp
 cases q:h.get? b with
 | none=>rw[q] at e;cases e
 | some o =>
  rw[q] at e
  have e':(b,o)=p:=Option.some.inj e
  subst e'
  exact⟨hb,q⟩
theorem Inv.pinned{pins:List (Addr×Obj)}{σ:St}{H:Hp}{s:Shared}{fp:List Addr}(I:Inv X pins σ H s)(hf:∀b∈fp,V3 X pins H b)(ho:∀b∈fp,∃o,s.heap.get? b=some o/\∀v,o.data ≠ .cell v):Inv X (pins++Za1 fp s.heap) σ H s :=
 I.pins_of fun p hp=>(xJ.mp hp).elim (fun z=>I.pin p (xL _ z)) fun z=>by
  obtain⟨hb,e⟩:=Zlg z
  obtain⟨f0,f1,f2,_⟩:=hf p.1 hb
  obtain⟨o,e',d⟩:=ho p.1 hb
  rw[e] at e';cases e'
  exact⟨e,f0,f1,f2,d⟩
theorem Inv.unpinned{pins pl:List (Addr×Obj)}{σ:St}{H:Hp}{s:Shared}(I:Inv X (pins++pl) σ H s):Inv X pins σ H s:=I.pins_of fun p hp=>I.pin p (xL _ (yX _ hp))
theorem Zyn{iter:Expr}{body:List Stmt}{wi:TI}{g:TG}{tb:TS}{pos:Pos}(hp:PassesOwn (model X.prog X.w) X.A X.env X.xe)(hc:X.calm=true)(hi:PI X tg iter wi)(hg:PG X tg g)(hb:PSs X body tb)(hs:∀x,foldedSetIterable iter X.env x=pure x:=by intro _;rfl):PS X (.For tg iter body [] pos) (Z4f wi g tb):=by
 intro pins s σ H D I h
 refine wpAny_For (thn (hi pins s σ H _ I h) fun v s1 h1=>thn h1 fun itv s2 h2=>?_) hs
 obtain⟨it,fp,tn,J,H2,e,I2,T,st2,f2,W,⟨m0,w0⟩,turn⟩:=h2
 subst e
 have stat:∀{H':Hp},(∀b∈fp,H' b=none)->∀b∈fp,V3 X pins H' b:=fun hn b hb=>⟨hn b hb,(f2 b hb).2⟩
 refine codeAny_forLoop_any (fun n s'=>∃i σ' H',Inv X pins σ' H' s'/\tn i s'.heap/\(∀b∈fp,H' b=none)/\W i n σ' H') ?_ m0 ⟨0,σ,H2,I2,st2,fun b hb=>(f2 b hb).1,w0⟩
 rintro n s3 ⟨i,σ3,H3,I3,st3,fr3,w3⟩
 rcases turn i n σ3 H3 w3 with⟨stop,qn⟩ | ⟨go,N,hN,step⟩
 ·refine wpAny_passesOwn hp (thn (T.done X rfl rfl rfl hc i pins s3 σ3 H3 X.xe I3 (stat fr3) st3 stop) fun r s4 ⟨hr,I4⟩=>?_)
  subst hr
  exact wpAny_execs_nil ⟨σ3,H3,I4,qn⟩
 ·refine wpAny_passesOwn hp (thn (T.item X rfl rfl rfl hc i pins s3 σ3 H3 X.xe I3 (stat fr3) st3 go) fun r s4 ⟨u,hr,h4⟩=>?_)
  subst hr
  refine wpAny_passesOwn hp (thn h4 fun _ s5 ⟨x,H5,I5,r5,y5,st5,fr5⟩=>?_)
  have I5':=I5.pinned (stat fr5) (T.obj _ _ st5)
  refine wpAny_passesOwn hp (thn (hg _ s5 σ3 H5 x u _ I5' r5 (step x H5 y5)) fun _ s6 ⟨σ6,H6,I6,q6⟩=>?_)
  refine wpAny_passesOwn hp (thn (hb _ s6 σ6 H6 _ I6 q6) fun f s7 q7=>?_)
  have again:∀{σ7:St}{H7:Hp},Inv X (pins++Za1 fp s5.heap) σ7 H7 s7->N σ7 H7->∃m,m < n/\∃i σ' H',Inv X pins σ' H' s7/\tn i s7.heap/\(∀b∈fp,H' b=none)/\W i m σ' H':=fun {σ7 H7} I7 n7=>by
   obtain⟨m',hm,w7⟩:=hN σ7 H7 n7
   refine⟨m',hm,i+1,σ7,H7,I7.unpinned,T.keep _ _ _ st5 fun b hb o e=>(I7.pin (b,o) (xL _ (xL _ (Zcv hb e)))).1,fun b hb=>?_,w7⟩
   obtain⟨o,e,d⟩:=T.obj _ _ st5 b hb
   exact(I7.pin (b,o) (xL _ (xL _ (Zcv hb e)))).2.1
  cases f with
  | next=>obtain⟨σ7,H7,I7,n7⟩:=q7;exact again I7 n7
  | cont=>obtain⟨σ7,H7,I7,n7⟩:=q7;exact again I7 n7
  | brk=>obtain⟨σ7,H7,I7,q7⟩:=q7;exact⟨σ7,H7,I7.unpinned,q7⟩
  | ret v=>obtain⟨x7,σ7,H7,I7,r7,q7⟩:=q7;exact⟨x7,σ7,H7,I7.unpinned,r7,q7⟩
end
theorem Zuf{K:uFg}{a:Addr}{xs:List V}{g:TG}{tb:TS}{D:Ends}{σ:St}{H:Hp}(Pv:Nat->St->Hp->Prop)(h0:Pv 0 σ H)(hl:∀i σ H,i<=xs.length->Pv i σ H->SqL K H a xs)(hs:∀i x σ H,xs[i]? = some x->Pv i σ H->g x σ H fun σ2 H2=>tb {D with nx:=Pv (i+1),ct:=Pv (i+1),bk:=D.nx } σ2 H2)(hd:∀ σ H,Pv xs.length σ H->D.nx σ H) :
  ∃W:Nat->Nat->St->Hp->Prop,(∃m,W 0 m σ H)/\∀i m σ H,W i m σ H ->
   ((Itl K a).stop i H/\D.nx σ H)\/((Itl K a).go i H/\∃N:St->Hp->Prop,(∀ σ' H',N σ' H'->∃m',m' < m/\W (i+1) m' σ' H')/\∀x H',(Itl K a).yld i H x H'->g x σ H' fun σ2 H2=>tb {D with nx:=N,ct:=N,bk:=D.nx } σ2 H2):=by
 refine⟨fun i m σ H=>m=xs.length - i/\i<=xs.length/\Pv i σ H,⟨xs.length,by simp,yJ _,h0⟩,?_⟩
 rintro i m σ H ⟨rfl,hi,p⟩
 have q:=hl i σ H hi p
 by_cases hlt:i < xs.length
 ·refine .inr ⟨⟨xs,xs[i],q,by simp[hlt]⟩,Pv (i+1),fun σ' H' p'=>⟨xs.length - (i+1),by lia,rfl,hlt,p'⟩,fun x H' y=>?_⟩
  obtain⟨e,y⟩:=y
  subst e
  exact hs i x σ _ (y xs q) p
 ·have e:i=xs.length:=by lia
  subst e
  exact .inl ⟨⟨xs,q,xE _⟩,hd σ H p⟩
theorem Zs0{lo:Int}{n:Nat}{g:TG}{tb:TS}{D:Ends}{σ:St}{H:Hp}(Pv:Nat->St->Hp->Prop)(h0:Pv 0 σ H)(hs:∀i σ H,i < n->Pv i σ H->g (.int (lo+i)) σ H fun σ2 H2=>tb {D with nx:=Pv (i+1),ct:=Pv (i+1),bk:=D.nx } σ2 H2)(hd:∀ σ H,Pv n σ H->D.nx σ H) :
  ∃W:Nat->Nat->St->Hp->Prop,(∃m,W 0 m σ H)/\∀i m σ H,W i m σ H ->
   ((Itr lo n).stop i H/\D.nx σ H)\/((Itr lo n).go i H/\∃N:St->Hp->Prop,(∀ σ' H',N σ' H'->∃m',m' < m/\W (i+1) m' σ' H')/\∀x H',(Itr lo n).yld i H x H'->g x σ H' fun σ2 H2=>tb {D with nx:=N,ct:=N,bk:=D.nx } σ2 H2):=by
 refine⟨fun i m σ H=>m=n - i/\i<=n/\Pv i σ H,⟨n,by simp,yJ _,h0⟩,?_⟩
 rintro i m σ H ⟨rfl,hi,p⟩
 by_cases hlt:i < n
 ·refine .inr ⟨hlt,Pv (i+1),fun σ' H' p'=>⟨n - (i+1),by lia,rfl,hlt,p'⟩,fun x H' y=>?_⟩
  obtain⟨e,y⟩:=y
  subst e y
  exact hs i σ _ hlt p
 ·have e:i=n:=by lia
  subst e
  exact .inl ⟨xE _,hd σ H p⟩
end L2
namespace L2
open PySem PySem.Spec PyProof.Rows
abbrev R2:=V->V->Hp->VK->Prop
def OpR(X:Cx)(f:Value->Value->Sem Value)(r:R2):Prop :=
 ∀(pins:List (Addr×Obj))(s:Shared)(σ:St)(H:Hp)(x y:V)(v u:Value)(Q:VK),Inv X pins σ H s->RelV x v->RelV y u->r x y H Q ->
  wpAny (model X.prog X.w) X.A (f v u) (EP X pins σ Q) X.xe s
def UnR(X:Cx)(f:Value->Sem Value)(r:V->Hp->VK->Prop):Prop :=
 ∀(pins:List (Addr×Obj))(s:Shared)(σ:St)(H:Hp)(x:V)(v:Value)(Q:VK),Inv X pins σ H s->RelV x v->r x H Q ->
  wpAny (model X.prog X.w) X.A (f v) (EP X pins σ Q) X.xe s
def Vd(X:Cx)(f:Value)(r:List V->Hp->VK->Prop):Prop :=
 ∀(pins:List (Addr×Obj))(s:Shared)(σ:St)(H:Hp)(xs:List V)(us:List Value)(Q:VK),Inv X pins σ H s->Vals xs us->r xs H Q ->
  wpAny (model X.prog X.w) X.A (call f us) (EP X pins σ Q) X.xe s
def Z4g(X:Cx)(r:V->Hp->(Bool->Hp->Prop)->Prop):Prop :=
 ∀(pins:List (Addr×Obj))(s:Shared)(σ:St)(H:Hp)(x:V)(v:Value)(Q:Bool->Hp->Prop),Inv X pins σ H s->RelV x v->r x H Q ->
  wpAny (model X.prog X.w) X.A (truthy v) (TP X pins σ Q) X.xe s
def tOp(r:R2)(ta tb:TE):TE:=fun σ H Q=>ta σ H fun x H1=>tb σ H1 fun y H2=>r x y H2 Q
def tUn(r:V->Hp->VK->Prop)(ta:TE):TE:=fun σ H Q=>ta σ H fun x H1=>r x H1 Q
def rI(C:Int->Int->Prop)(g:Int->Int->V):R2:=fun x y H Q=>∃i j,x = .int i/\y = .int j/\C i j/\Q (g i j) H
def rI0(g:Int->Int->V):R2:=fun x y H Q=>∃i j,x = .int i/\y = .int j/\Q (g i j) H
def rU(g:Int->V):V->Hp->VK->Prop:=fun x H Q=>∃i,x = .int i/\Q (g i) H
section
variable{X:Cx}{a b c:Expr}{ta tb tc:TE}{pos:Pos}
theorem Zj4(ha:PE X a ta)(hb:PE X b tb){pins:List (Addr×Obj)}{s:Shared}{σ:St}{H:Hp}{R:V->V->Hp->Prop}(I:Inv X pins σ H s)(h:ta σ H fun x H1=>tb σ H1 fun y H2=>R x y H2){Q:Value->Shared->Prop}{f:Value->Value->Sem Value}(hf:∀v u s2 x y H2,Inv X pins σ H2 s2->RelV x v->RelV y u->R x y H2->wpAny (model X.prog X.w) X.A (f v u) Q X.xe s2) :
  wpAny (model X.prog X.w) X.A (eval a X.env) (fun v s₁=>wpAny (model X.prog X.w) X.A (eval b X.env) (fun u s₂=>wpAny (model X.prog X.w) X.A (f v u) Q X.xe s₂) X.xe s₁) X.xe s:=by
 refine thn (ha pins s σ H _ I h) fun v s1 ⟨x,H1,I1,r1,q1⟩=>?_
 refine thn (hb pins s1 σ H1 _ I1 q1) fun u s2 ⟨y,H2,I2,r2,q2⟩=>?_
 exact hf v u s2 x y H2 I2 r1 r2 q2
theorem Zz2{op:Operator}{r:R2}(ho:OpR X (binaryOp op) r)(ha:PE X a ta)(hb:PE X b tb):PE X (.BinOp a op b pos) (tOp r ta tb):=by
 intro pins s σ H Q I h
 exact wpAny_BinOp (Zj4 ha hb I h fun v u s2 x y H2 I2 rx ry q=>ho pins s2 σ H2 x y v u Q I2 rx ry q)
theorem Zz3{op:UnaryOp}{r:V->Hp->VK->Prop}(ho:UnR X (unaryOp op) r)(ha:PE X a ta):PE X (.UnaryOp op a pos) (tUn r ta):=by
 intro pins s σ H Q I h
 exact UnaryOp_ (thn (ha pins s σ H _ I h) fun v s1 ⟨x,H1,I1,r1,q1⟩=>ho pins s1 σ H1 x v Q I1 r1 q1)
theorem opI{f:Value->Value->Sem Value}{C:Int->Int->Prop}{g:Int->Int->Int}(rule:∀ (i j:Int) (t u:Tok) (s:Shared) (Q:Value->Shared->Prop) (E:Value->Shared->Prop),C i j->Q (.int (g i j) s.toks) {s with toks:=s.toks+1 }->wpAny (model X.prog X.w) X.A (f (.int i t) (.int j u)) Q E s) :
  OpR X f (rI C fun i j=>.int (g i j)):=by
 intro pins s σ H x y v u Q I rx ry h
 obtain⟨i,j,rfl,rfl,hc,q⟩:=h
 obtain⟨t,rfl⟩:=rx
 obtain⟨t',rfl⟩:=ry
 exact rule i j t t' s _ _ hc ⟨.int (g i j),H,I.tok _,⟨_,rfl⟩,q⟩
theorem Zqf{f:Value->Value->Sem Value}{g:Int->Int->Int}(rule:∀ (i j:Int) (t u:Tok) (s:Shared) (Q:Value->Shared->Prop) (E:Value->Shared->Prop),Q (.int (g i j) s.toks) {s with toks:=s.toks+1 }->wpAny (model X.prog X.w) X.A (f (.int i t) (.int j u)) Q E s) :
  OpR X f (rI0 fun i j=>.int (g i j)):=by
 intro pins s σ H x y v u Q I rx ry h
 obtain⟨i,j,rfl,rfl,q⟩:=h
 obtain⟨t,rfl⟩:=rx
 obtain⟨t',rfl⟩:=ry
 exact rule i j t t' s _ _ ⟨.int (g i j),H,I.tok _,⟨_,rfl⟩,q⟩
theorem Zfa{f:Value->Value->Sem Value}{g:Int->Int->Bool}(rule:∀ (i j:Int) (t u:Tok) (s:Shared) (Q:Value->Shared->Prop) (E:Value->Shared->Prop),Q (.bool (g i j)) s->wpAny (model X.prog X.w) X.A (f (.int i t) (.int j u)) Q E s) :
  OpR X f (rI0 fun i j=>.bl (g i j)):=by
 intro pins s σ H x y v u Q I rx ry h
 obtain⟨i,j,rfl,rfl,q⟩:=h
 obtain⟨t,rfl⟩:=rx
 obtain⟨t',rfl⟩:=ry
 exact rule i j t t' s _ _ ⟨.bl (g i j),H,I,rfl,q⟩
def Zj5(i j:Int):Prop:=0 < j/\j < 1073741824
def Zj6(i j:Int):Prop:=0<=j/\j<=1000000/\i.natAbs < 2 ^ 64
def CMul(i j:Int):Prop:=(-(2 ^ 64) < i/\i < 2 ^ 64)\/(-(2 ^ 64) < j/\j < 2 ^ 64)
theorem CMul.ok{i j:Int}(h:CMul i j):IntMulOk i j:=by
 rcases h with⟨h1,h2⟩ | ⟨h1,h2⟩
 ·exact .of_left (intBits_le_64 h1 h2)
 ·exact .of_right (intBits_le_64 h1 h2)
theorem Zyo:OpR X (binaryOp .Add) (rI0 fun i j=>.int (i+j)):=Zqf fun _ _ _ _ _ _ _ q=>add_int q
theorem Zyp:OpR X (binaryOp .Sub) (rI0 fun i j=>.int (i - j)):=Zqf fun _ _ _ _ _ _ _ q=>sub_int q
theorem Zyq:OpR X (binaryOp .Mult) (rI CMul fun i j=>.int (i * j)):=opI fun _ _ _ _ _ _ _ hc q=>mul_int q hc.ok
theorem Zwk:OpR X (binaryOp .FloorDiv) (rI Zj5 fun i j=>.int (i / j)):=opI fun i j _ _ _ _ _ hc q=>by
 have h1:(0:Int) < j:=hc.1
 have h2:j < 1073741824:=hc.2
 exact floordiv_int (by lia) (by rw[Int.fdiv_eq_ediv_of_nonneg i (by lia)];exact q) (.inl (PyProof.noPylong_small (by lia)))
theorem Zyr:OpR X (binaryOp .Mod) (rI (fun _ j=>0 < j) fun i j=>.int (i % j)):=opI fun i j _ _ _ _ _ hc q=>by
 have h1:(0:Int) < j:=hc
 exact mod_int' (by lia) (by rw[Int.fmod_eq_emod_of_nonneg i (by lia)];exact q)
theorem Zys:OpR X (binaryOp .Pow) (rI Zj6 fun i j=>.int (i ^ j.toNat)):=opI fun _ _ _ _ _ _ _ hc q=>pow_int_small hc.1 hc.2.1 hc.2.2 q
end
def Zqg:V->V->Bool
 | .non,.non=>true | .non,.int _=>true | .int _,.non=>true | .non,.bl _=>true | .bl _,.non=>true | .non,.str _=>true | .str _,.non=>true
 | .int _,.int _=>true | .bl _,.bl _=>true | .str _,.str _=>true | .byt _,.byt _=>true
 | .int _,.str _=>true | .str _,.int _=>true | .bl _,.str _=>true | .str _,.bl _=>true
 | _,_=>false
def rEq:R2:=fun x y H Q=>Zqg x y=true/\Q (.bl (decide (x=y))) H
def rNe:R2:=fun x y H Q=>Zqg x y=true/\Q (.bl (!decide (x=y))) H
theorem Zf2{i j:Int}:decide (V.int i=V.int j)=(i == j):=by
 rw[zG]
 simp
theorem Zgh{i j:Bool}:decide (V.bl i=V.bl j)=(i == j):=by
 rw[zG]
 simp
theorem Zf3{i j:Str}:decide (V.str i=V.str j)=(i == j):=by
 rw[zG]
 simp
theorem Zmq{i j:Array UInt8}:decide (V.byt i=V.byt j)=(i.toList == j.toList):=by
 rw[zG]
 cases i
 cases j
 simp
section
variable{X:Cx}{a b c:Expr}{ta tb tc:TE}{pos:Pos}
theorem Yo{pins:List (Addr×Obj)}{σ:St}{H:Hp}{s:Shared}{Q:VK}{k k':Bool}(I:Inv X pins σ H s)(q:Q (.bl k) H)(e:k=k'):EP X pins σ Q (.bool k') s:=by
 subst e
 exact⟨.bl k,H,I,rfl,q⟩
theorem Zz4:OpR X (compareOp .Eq) rEq:=by
 intro pins s σ H x y v u Q I rx ry h
 obtain⟨hs,q⟩:=h
 cases x with
 | non =>
  cases rx
  cases y with
  | non=>cases ry;exact PySem.EqNone.eq_none_none (Yo I q (by simp))
  | bl j=>cases ry;exact PySem.EqNone.eq_none_bool (Yo I q (by simp))
  | int j=>obtain⟨t',rfl⟩:=ry;exact PySem.EqNone.eq_none_int (Yo I q (by simp))
  | str j=>obtain⟨t',rfl⟩:=ry;exact PySem.EqNone.eq_none_str (Yo I q (by simp))
  | _=>exact absurd (show false=true from hs) xH
 | bl i =>
  cases rx
  cases y with
  | non=>cases ry;exact PySem.EqNone.eq_bool_none (Yo I q (by simp))
  | bl j=>cases ry;exact eq_bool (Yo I q Zgh)
  | str j=>obtain⟨t',rfl⟩:=ry;exact PySem.EqMixed.eq_bool_str (Yo I q (by simp))
  | _=>exact absurd (show false=true from hs) xH
 | int i =>
  obtain⟨t,rfl⟩:=rx
  cases y with
  | non=>cases ry;exact PySem.EqNone.eq_int_none (Yo I q (by simp))
  | int j=>obtain⟨t',rfl⟩:=ry;exact eq_int (Yo I q Zf2)
  | str j=>obtain⟨t',rfl⟩:=ry;exact PySem.EqMixed.eq_int_str (Yo I q (by simp))
  | _=>exact absurd (show false=true from hs) xH
 | str i =>
  obtain⟨t,rfl⟩:=rx
  cases y with
  | non=>cases ry;exact PySem.EqNone.eq_str_none (Yo I q (by simp))
  | bl j=>cases ry;exact PySem.EqMixed.eq_str_bool (Yo I q (by simp))
  | int j=>obtain⟨t',rfl⟩:=ry;exact PySem.EqMixed.eq_str_int (Yo I q (by simp))
  | str j=>obtain⟨t',rfl⟩:=ry;exact eq_str (Yo I q Zf3)
  | _=>exact absurd (show false=true from hs) xH
 | byt i =>
  obtain⟨t,rfl⟩:=rx
  cases y with
  | byt j=>obtain⟨t',rfl⟩:=ry;exact PySem.W.eq_bytes (Yo I q Zmq)
  | _=>exact absurd (show false=true from hs) xH
 | _=>cases y<;>exact absurd (show false=true from hs) xH
theorem Zz5:OpR X (compareOp .NotEq) rNe:=by
 intro pins s σ H x y v u Q I rx ry h
 obtain⟨hs,q⟩:=h
 cases x with
 | non =>
  cases rx
  cases y with
  | non=>cases ry;exact PySem.EqNone.ne_none_none (Yo I q (by simp))
  | bl j=>cases ry;exact PySem.EqNone.ne_none_bool (Yo I q (by simp))
  | int j=>obtain⟨t',rfl⟩:=ry;exact PySem.EqNone.ne_none_int (Yo I q (by simp))
  | str j=>obtain⟨t',rfl⟩:=ry;exact PySem.EqNone.ne_none_str (Yo I q (by simp))
  | _=>exact absurd (show false=true from hs) xH
 | bl i =>
  cases rx
  cases y with
  | non=>cases ry;exact PySem.EqNone.ne_bool_none (Yo I q (by simp))
  | bl j=>cases ry;exact ne_bool (Yo I q (congrArg not Zgh))
  | str j=>obtain⟨t',rfl⟩:=ry;exact PySem.EqMixed.ne_bool_str (Yo I q (by simp))
  | _=>exact absurd (show false=true from hs) xH
 | int i =>
  obtain⟨t,rfl⟩:=rx
  cases y with
  | non=>cases ry;exact PySem.EqNone.ne_int_none (Yo I q (by simp))
  | int j=>obtain⟨t',rfl⟩:=ry;exact ne_int (Yo I q (congrArg not Zf2))
  | str j=>obtain⟨t',rfl⟩:=ry;exact PySem.EqMixed.ne_int_str (Yo I q (by simp))
  | _=>exact absurd (show false=true from hs) xH
 | str i =>
  obtain⟨t,rfl⟩:=rx
  cases y with
  | non=>cases ry;exact PySem.EqNone.ne_str_none (Yo I q (by simp))
  | bl j=>cases ry;exact PySem.EqMixed.ne_str_bool (Yo I q (by simp))
  | int j=>obtain⟨t',rfl⟩:=ry;exact PySem.EqMixed.ne_str_int (Yo I q (by simp))
  | str j=>obtain⟨t',rfl⟩:=ry;exact ne_str (Yo I q (congrArg not Zf3))
  | _=>exact absurd (show false=true from hs) xH
 | byt i =>
  obtain⟨t,rfl⟩:=rx
  cases y with
  | byt j=>obtain⟨t',rfl⟩:=ry;exact PySem.W.ne_bytes (Yo I q (congrArg not Zmq))
  | _=>exact absurd (show false=true from hs) xH
 | _=>cases y<;>exact absurd (show false=true from hs) xH
theorem Zz6:OpR X (compareOp .Lt) (rI0 fun i j=>.bl (decide (i < j))):=Zfa fun _ _ _ _ _ _ _ q=>lt_int q
theorem Zz7:OpR X (compareOp .LtE) (rI0 fun i j=>.bl (decide (i<=j))):=Zfa fun _ _ _ _ _ _ _ q=>le_int q
theorem Zz8:OpR X (compareOp .Gt) (rI0 fun i j=>.bl (decide (j < i))):=Zfa fun _ _ _ _ _ _ _ q=>gt_int q
theorem Zz9:OpR X (compareOp .GtE) (rI0 fun i j=>.bl (decide (j<=i))):=Zfa fun _ _ _ _ _ _ _ q=>ge_int q
theorem Zyt:OpR X (compareOp .Is) (fun x y H Q=>y = .non/\Q (.bl (decide (x = .non))) H):=by
 intro pins s σ H x y v u Q I rx ry h
 obtain⟨rfl,q⟩:=h
 cases ry
 refine is_none_gen (Yo I q ?_)
 cases x<;>first
  | (cases rx;rfl)
  | (obtain⟨t,rfl⟩:=rx;rfl)
theorem Zwl:OpR X (compareOp .IsNot) (fun x y H Q=>y = .non/\Q (.bl (!decide (x = .non))) H):=by
 intro pins s σ H x y v u Q I rx ry h
 obtain⟨rfl,q⟩:=h
 cases ry
 refine isnot_none_gen (Yo I q ?_)
 cases x<;>first
  | (cases rx;rfl)
  | (obtain⟨t,rfl⟩:=rx;rfl)
theorem Z1(b:Expr){op:CmpOp}(h:op ≠ .In:=by decide)(h2:op ≠ .NotIn:=by decide):behindInMarks op b=false:=by
 have e1:(op == CmpOp.In)=false:=by cases op<;>first | rfl | exact absurd rfl h
 have e2:(op == CmpOp.NotIn)=false:=by cases op<;>first | rfl | exact absurd rfl h2
 cases b<;>simp[behindInMarks,e1,e2]
theorem Zwm{op:CmpOp}{r:R2}(ho:OpR X (compareOp op) r)(ha:PE X a ta)(hb:PE X b tb)(hm:behindInMarks op b=false):PE X (.Compare a [op] [b] pos) (tOp r ta tb):=by
 intro pins s σ H Q I h
 exact wpAny_Compare1 (Zj4 ha hb I h fun v u s2 x y H2 I2 rx ry q=>ho pins s2 σ H2 x y v u Q I2 rx ry q) hm
def Za2(t:TE):TT:=fun σ H Q=>t σ H fun x H'=>∃k,x = .bl k/\Q k H'
theorem Zwn{op:CmpOp}{r:R2}(ho:OpR X (compareOp op) r)(ha:PE X a ta)(hb:PE X b tb)(hm:behindInMarks op b=false):PT X (.Compare a [op] [b] pos) (Za2 (tOp r ta tb)):=by
 intro pins s σ H Q I h
 refine wpAny_isTrue_Compare1 (thn (ha pins s σ H _ I h) fun v s1 ⟨x,H1,I1,r1,q1⟩=>thn (hb pins s1 σ H1 _ I1 q1) fun u s2 ⟨y,H2,I2,r2,q2⟩=>
  thn (ho pins s2 σ H2 x y v u _ I2 r1 r2 q2) fun c s3 ⟨z,H3,I3,r3,k,e,q3⟩=>?_) hm
 subst e
 cases r3
 exact wpAny_truthy_bool ⟨H3,I3,q3⟩
def Zeg(r r':R2)(ta tb tc:TE):TE:=fun σ H Q=>ta σ H fun x H1=>tb σ H1 fun y H2=>r x y H2 fun z H3=>∃k,z = .bl k /\
 (if k=true then tc σ H3 fun w' H4=>r' y w' H4 Q else Q (.bl false) H3)
theorem Zug{op op':CmpOp}{r r':R2}(ho:OpR X (compareOp op) r)(ho':OpR X (compareOp op') r')(ha:PE X a ta)(hb:PE X b tb)(hc:PE X c tc)(hm:lastMarks [op,op'] [b,c]=false:=by with_unfolding_all rfl):PE X (.Compare a [op,op'] [b,c] pos) (Zeg r r' ta tb tc):=by
 intro pins s σ H Q I h
 refine Compare_chain (thn (ha pins s σ H _ I h) fun v s1 ⟨x,H1,I1,r1,q1⟩=>chain_link (thn (hb pins s1 σ H1 _ I1 q1) fun u s2 ⟨y,H2,I2,r2,q2⟩=>
  thn (ho pins s2 σ H2 x y v u _ I2 r1 r2 q2) fun d s3 ⟨z,H3,I3,r3,k,e,q3⟩=>?_)) hm
 subst e
 cases r3
 refine wpAny_truthy_bool ?_
 cases k with
 | false=>exact ite_ff ⟨.bl false,H3,I3,rfl,q3⟩
 | true=>exact ite_tt (chain_last (thn (hc pins s3 σ H3 _ I3 q3) fun w' s4 ⟨z',H4,I4,r4,q4⟩=>ho' pins s4 σ H4 y z' u w' Q I4 r2 r4 q4))
theorem Zuh{op op':CmpOp}{r r':R2}(ho:OpR X (compareOp op) r)(ho':OpR X (compareOp op') r')(ha:PE X a ta)(hb:PE X b tb)(hc:PE X c tc)(hm:lastMarks [op,op'] [b,c]=false:=by with_unfolding_all rfl):PT X (.Compare a [op,op'] [b,c] pos) (Za2 (Zeg r r' ta tb tc)):=by
 intro pins s σ H Q I h
 refine isTrue_chain (thn (ha pins s σ H _ I h) fun v s1 ⟨x,H1,I1,r1,q1⟩=>test_link (thn (hb pins s1 σ H1 _ I1 q1) fun u s2 ⟨y,H2,I2,r2,q2⟩=>
  thn (ho pins s2 σ H2 x y v u _ I2 r1 r2 q2) fun d s3 ⟨z,H3,I3,r3,k,e,q3⟩=>?_)) hm
 subst e
 cases r3
 refine wpAny_truthy_bool ?_
 cases k with
 | false =>
  obtain⟨k',e',q'⟩:=q3
  cases e'
  exact ite_ff ⟨H3,I3,q'⟩
 | true =>
  refine ite_tt (test_last (thn (hc pins s3 σ H3 _ I3 q3) fun w' s4 ⟨z',H4,I4,r4,q4⟩=>thn (ho' pins s4 σ H4 y z' u w' _ I4 r2 r4 q4) fun d' s5 ⟨z2,H5,I5,r5,k2,e2,q5⟩=>?_))
  subst e2
  cases r5
  exact wpAny_truthy_bool ⟨H5,I5,q5⟩
def Zj7(K:uFg)(x:V)(H:Hp)(k:Bool):Prop :=
 match x with
 | .non=>k=false
 | .bl b=>k=b
 | .int i=>k=(i != 0)
 | .str y=>y.length<=sizeLine/\k=((y.length:Int) != 0)
 | .byt y=>y.size<=sizeLine/\k=((y.size:Int) != 0)
 | .ref p=>(∃xs,SqL K H p xs/\k = !xs.isEmpty)\/(∃xs,SqT K H p xs/\k = !xs.isEmpty)\/∃kvs,H p=some (.dK kvs)/\k = !kvs.isEmpty
 | _=>False
theorem Zr5{κ:Type}{kvs:List (κ×V)}{vs:List (κ×Value)}(r:KV kvs vs):(!vs.isEmpty)= !kvs.isEmpty:=by
 cases r<;>rfl
theorem Zkz{xs:List V}{its:List Value}(r:Vals xs its):(!its.toArray.isEmpty)= !xs.isEmpty:=by
 cases r<;>simp
theorem Za3:(sizeLine:Nat) < 2 ^ 63:=by rw[sizeLine_eq];decide
theorem Zyu:Z4g X (fun x H Q=>∃k,Zj7 X.K x H k/\Q k H):=by
 intro pins s σ H x v Q I rx h
 obtain⟨k,e,q⟩:=h
 have hl:=Za3
 have hs:sizeLine=16777216:=sizeLine_eq
 cases x with
 | non =>
  cases rx
  have e':k=false:=e
  subst e'
  exact truthy_none ⟨H,I,q⟩
 | bl b =>
  cases rx
  have e':k=b:=e
  subst e'
  exact wpAny_truthy_bool ⟨H,I,q⟩
 | int i =>
  obtain⟨t,rfl⟩:=rx
  have e':k=(i != 0):=e
  subst e'
  exact PySem.P.truthy_int ⟨H,I,q⟩
 | str y =>
  obtain⟨t,rfl⟩:=rx
  obtain⟨hy,e'⟩:y.length<=sizeLine/\k=((y.length:Int) != 0):=e
  subst e'
  exact PySem.P.truthy_str (by lia) ⟨H,I.tok _,q⟩
 | byt y =>
  obtain⟨t,rfl⟩:=rx
  obtain⟨hy,e'⟩:y.size<=sizeLine/\k=((y.size:Int) != 0):=e
  subst e'
  exact PySem.W.truthy_bytes (by lia) ⟨H,I.tok _,q⟩
 | ref p =>
  cases rx
  have e':(∃xs,SqL X.K H p xs/\k = !xs.isEmpty)\/(∃xs,SqT X.K H p xs/\k = !xs.isEmpty)\/∃kvs,H p=some (.dK kvs)/\k = !kvs.isEmpty:=e
  rcases e' with⟨xs,hx,e'⟩ | ⟨xs,hx,e'⟩ | ⟨kvs,hx,e'⟩
  ·subst e'
   obtain⟨its,r,pl,hz⟩:=I.list hx
   have hlen:=r.length
   exact wpAny_truthy_list pl.isList (by simp only[xQ];lia) ⟨H,I.tok _,by rw[Zkz r];exact q⟩
  ·subst e'
   obtain⟨its,r,pl,hz⟩:=I.tuple hx
   have hlen:=r.length
   exact truthy_tuple pl (by simp only[xQ];lia) ⟨H,I.tok _,by rw[Zkz r];exact q⟩
  ·subst e'
   obtain⟨hz,hS,vs,r,m⟩:kvs.length<=sizeLine/\(p == sysModules)=false/\∃vs,KV kvs vs/\s.heap.DictOf (Y8 X.prog X.w) p vs:=I.hok p _ hx
   have hlen:kvs.length=vs.length:=Paired.length r
   exact wpAny_truthy_dict hS m (by lia) ⟨H,I.tok _,by rw[Zr5 r];exact q⟩
 | _=>exact(show False from e).elim
theorem Zui(ha:PE X a ta)(he:∀whole,isTrue a X.env whole=(do let v ← whole;standAt a.pos;holding [v] (truthy v))) :
  PT X a (fun σ H Q=>ta σ H fun x H'=>∃k,Zj7 X.K x H' k/\Q k H'):=by
 intro pins s σ H Q I h
 exact isTrue_plain (thn (ha pins s σ H _ I h) fun v s1 ⟨x,H1,I1,r1,q1⟩=>Zyu pins s1 σ H1 x v Q I1 r1 q1) (he _)
theorem Zr6:OpR X (binaryOp .Add) (fun x y H Q=>∃i j,x = .str i/\y = .str j/\i.length+j.length<=sizeLine/\Q (.str (i++j)) H):=by
 intro pins s σ H x y v u Q I rx ry h
 obtain⟨i,j,rfl,rfl,hz,q⟩:=h
 obtain⟨t,rfl⟩:=rx
 obtain⟨t',rfl⟩:=ry
 exact add_str (fun t' tk=>⟨.str (i++j),H,I.tok _,⟨_,rfl⟩,q⟩) hz
theorem Up{x:V}{us:List Value}(r:Vals [x] us):∃u,us = [u]/\RelV x u:=by
 cases r with
 | cons r1 r2=>cases r2;exact⟨_,rfl,r1⟩
theorem Zgv{x y:V}{us:List Value}(r:Vals [x,y] us):∃u w',us = [u,w']/\RelV x u/\RelV y w':=by
 cases r with
 | cons r1 r2 =>
  cases r2 with
  | cons r3 r4=>cases r4;exact⟨_,_,rfl,r1,r3⟩
theorem Zs1(hc:X.calm=true):Vd X (.builtin "max") (fun xs H Q=>∃i j,xs = [.int i,.int j]/\Q (.int (if j > i then j else i)) H):=by
 intro pins s σ H xs us Q I r h
 obtain⟨i,j,rfl,q⟩:=h
 obtain⟨u,w',rfl,⟨t,rfl⟩,⟨t',rfl⟩⟩:=Zgv r
 refine max_two_ints (I.ok.hd hc) fun h' tk k=>⟨_,H,I.kept k,?_,q⟩
 by_cases hj:j > i
 ·rw[if_pos hj,if_pos hj];exact⟨_,rfl⟩
 ·rw[if_neg hj,if_neg hj];exact⟨_,rfl⟩
end
end L2
namespace L2
open PySem PySem.Spec PyProof.Rows
structure ObjM (h:Heap) (x dx C:Addr) (mA:Str->Option Value):Prop where
 obj:h.get? x=some (PySem.W.instObj C dx)
 ns:h.Ns1 dx mA
 ne:dx≠x
theorem Zs2{h:Heap}{dx:Addr}{mA:Str->Option Value}(n:h.Ns1 dx mA):∃od,h.get? dx=some od/\∀name,PySem.W.lookIn name od=some (mA name):=by
 obtain⟨o,es,ep,ho,hd,hk,_,hm⟩:=n
 refine⟨o,ho,fun name=>?_⟩
 have e:=hm name
 unfold nsFind findBy at e
 rw[← Array.find?_toList] at e
 unfold PySem.W.lookIn
 rw[hd]
 dsimp only
 split
 ·rename_i y q
  rw[q] at e
  exact congrArg some e
 ·rename_i q
  rw[q] at e
  have a:es.toList.any (·.refKey)=false:=by
   rw[List.any_eq_false]
   intro y hy
   obtain⟨z,t,hkey⟩:=hk y (Array.mem_toList_iff.mp hy)
   simp[DictEntry.refKey,hkey]
  have a':¬es.toList.any (·.refKey)=true:=by rw[a];exact xH
  rw[if_neg a']
  exact congrArg some e
theorem ObjM.look{h:Heap}{x dx C:Addr}{mA:Str->Option Value}(I:ObjM h x dx C mA):∃od,PySem.W.InstAt h x (PySem.W.instObj C dx) C (some od)/\∀name,PySem.W.lookIn name od=some (mA name) :=
 let ⟨od,ho,hl⟩:=Zs2 I.ns
 ⟨od,⟨I.obj,rfl,rfl,ho⟩,hl⟩
section
variable{prog:Program}{w:World}{A:Around}{E:Value->Shared->Prop}{s:Shared}{K:uFg}{x dx C f:Addr}{mA:Str->Option Value}{name:Str}{v:Value}
theorem Zwo{expr:Bool}{Q:Value->Shared->Prop}(X:K.In s.heap)(I:ObjM s.heap x dx C mA)(hg:PySem.W.plainGet K C name=true)(hh:PySem.W.hasDictIn K C=true)(ha:PySem.W.findIn K (.ref C) name=some none)(hv:mA name=some v)(hv':PySem.W.handedIn v=true)(h:Q v {s with toks:=s.toks+1 }) :
  wpAny (model prog w) A (getAttr (.ref x) name expr) Q E s:=by
 obtain⟨od,J,hl⟩:=I.look
 exact PySem.W.get_value X J (PySem.W.plainGet_of hg).1 (PySem.W.findObj_own hh ha rfl (by rw[hl,hv])) hv' h
theorem Zuj{pl:Sem Bool}{Q:Value×List Value->Shared->Prop}(X:K.In s.heap)(I:ObjM s.heap x dx C mA)(hg:PySem.W.plainGet K C name=true)(hf:PySem.W.findIn K (.ref C) name=some (some (.ref f)))(ht:PySem.W.isFn K (.ref f)=true)(hv:mA name=none)(h:Q (.ref f,[.ref x]) s) :
  wpAny (model prog w) A (getMethod (.ref x) name pl) Q E s:=by
 obtain⟨od,J,hl⟩:=I.look
 exact PySem.W.method_fn X J (PySem.W.plainGet_of hg).1 (PySem.W.plainGet_of hg).2 hf (beq_iff_eq.mp ht) (by show (PySem.W.lookIn name od).map (·.isSome)=some false;rw[hl,hv];rfl) h
theorem Zwp{ns:List Str}{Q:Unit->Shared->Prop}(X:K.In s.heap)(I:ObjM s.heap x dx C mA)(hs:PySem.W.findIn K (.ref C) "__setattr__" = some (some (.builtin "object.__setattr__")))(hp:PySem.W.plainOver K C=true)(ht:PySem.W.takerIn K C name=some none)(hh:PySem.W.hasDictIn K C=true)(hw:PySem.Within mA ns)(hsz:ns.length<=sizeLine)(h:∀h',ObjM h' x dx C (fun y=>if y=name then some v else mA y)->Heap.SameBut dx s.heap h'->Q () {s with heap:=h',toks:=s.toks+2 }) :
  wpAny (model prog w) A (setAttr (.ref x) name v) Q E s:=by
 obtain⟨od,J,hl⟩:=I.look
 refine PySem.W.set_plain X J hs (PySem.W.osa_open (s:={s with toks:=s.toks+1 }) (r:=none) X J hp ht fun b=>?_)
 obtain⟨cd,hc,hd'⟩:=PySem.W.any_some hh
 have hx:s.heap.get? x=some ⟨.ref C,some dx,.plain,#[]⟩:=I.obj
 refine wpAny_bind (wpAny_pure (wpAny_bind (wpAny_bind (wpAny_loadPart hx (wpAny_bind (PySem.W.Looks.here (s:={s with toks:=s.toks+1 }) (PySem.W.looks_clsIn X hc) ?_))))))
 rw[hd']
 refine wpAny_pure (a:=some dx) (wpAny_bind (wpAny_pure (wpAny_bind ?_)))
 refine wpAny_nsSet1 (s:={s with toks:=s.toks+1 }) I.ns fun h' hn2 hs2=>?_
 obtain⟨oD,esD,epD,hoD,hdD,hcD⟩:=hn2.count (PySem.Within.cons name v hw)
 refine wpAny_bind (wpAny_lookBehind hoD (by rw[hdD];exact pastItsLine_dict (xT hcD (by rw[xU];lia))) ?_)
 exact wpAny_pure (h _ ⟨(hs2.2 _ (Ne.symm I.ne)).trans I.obj,hn2,I.ne⟩ hs2)
theorem Zuk{R:Result->Shared->Prop}{vs:List Value}{kw:List (Str×Value)}(X:K.In s.heap)(hm:PySem.W.makesIn K C=true)(hi:PySem.W.findIn K (.ref C) "__init__" = some (some (.ref f)))(hf:PySem.W.typeIn K (.ref f)=some (.type "function"))(h:codeAny (model prog w) (A.under (.builtin "type.__call__" ⟨.ref C::vs,kw⟩)) (.call (.ref f) ⟨.ref (s.heap.objs.size+1)::vs,kw⟩) (PySem.W.InitBack (s.heap.objs.size+1) R)
   {s with heap:=(s.heap.push PySem.W.emptyDict).push (PySem.W.instObj C s.heap.objs.size) }) :
  codeAny (model prog w) A (.call (.ref C) ⟨vs,kw⟩) R s:=by
 obtain⟨hh,g,d,t,os⟩:=s
 exact PySem.W.make_core (PySem.W.makes_of X hm) (PySem.W.looks_findIn X hi) (fun self=>PySem.W.bind_fn X self hf) (.inl rfl) h
end
def Zm(f:Str)(v:V):List (Str×V)->List (Str×V)
 | []=>[(f,v)]
 | (g,x)::r=>if g=f then (g,v)::r else (g,x)::Zm f v r
theorem Yx(f g:Str)(v:V):∀fs:List (Str×V),(Zm f v fs).lookup g=if g=f then some v else fs.lookup g
 | []=>by
  show List.lookup g [(f,v)]=_
  by_cases h:g=f
  ·have hb:(g == f)=true:=beq_iff_eq.mpr h
   simp only[List.lookup,hb,if_pos h]
  ·have hb:(g == f)=false:=beq_eq_false_iff_ne.mpr h
   simp only[List.lookup,hb,if_neg h]
 | (k,x)::r=>by
  have ih:=Yx f g v r
  rw[show Zm f v ((k,x)::r)=(if k=f then (k,v)::r else (k,x)::Zm f v r) from rfl]
  by_cases hk:k=f
  ·rw[if_pos hk]
   by_cases h:g=k
   ·have hb:(g == k)=true:=beq_iff_eq.mpr h
    simp only[List.lookup,hb,if_pos (h.trans hk)]
   ·have hb:(g == k)=false:=beq_eq_false_iff_ne.mpr h
    simp only[List.lookup,hb,if_neg (fun e:g=f=>h (e.trans hk.symm))]
  ·rw[if_neg hk]
   by_cases h:g=k
   ·have hb:(g == k)=true:=beq_iff_eq.mpr h
    simp only[List.lookup,hb,if_neg (fun e:g=f=>hk (h.symm.trans e))]
   ·have hb:(g == k)=false:=beq_eq_false_iff_ne.mpr h
    simp only[List.lookup,hb]
    exact ih
theorem Zfo(f:Str)(v:V):∀fs:List (Str×V),f∈(Zm f v fs).map (·.1)/\∀g,g∈fs.map (·.1)->g∈(Zm f v fs).map (·.1)
 | []=>⟨by simp[Zm],fun g h=>by simp at h⟩
 | (k,x)::r=>by
  obtain⟨i1,i2⟩:=Zfo f v r
  rw[show Zm f v ((k,x)::r)=(if k=f then (k,v)::r else (k,x)::Zm f v r) from rfl]
  by_cases hk:k=f
  ·rw[if_pos hk]
   subst hk
   exact⟨by simp,fun g h=>by simpa using h⟩
  ·rw[if_neg hk]
   refine⟨?_,fun g h=>?_⟩
   ·rw[yE]
    exact xW _ i1
   ·rw[yE] at h ⊢
    rcases xD.mp h with e | e
    ·exact xD.mpr (.inl e)
    ·exact xW _ (i2 g e)
theorem Za4(f:Str)(v:V):∀fs:List (Str×V),(Zm f v fs).length<=fs.length+1
 | []=>by simp[Zm]
 | (k,x)::r=>by
  have ih:=Za4 f v r
  rw[show Zm f v ((k,x)::r)=(if k=f then (k,v)::r else (k,x)::Zm f v r) from rfl]
  by_cases hk:k=f
  ·rw[if_pos hk,xU,xU];lia
  ·rw[if_neg hk,xU,xU];lia
theorem RelO.some_of{v:V}{o:Option Value}(r:RelO (some v) o):∃u,o=some u/\RelV v u:=by
 cases o with
 | none=>exact(show False from r).elim
 | some u=>exact⟨u,rfl,r⟩
theorem RelO.none_of{o:Option Value}(r:RelO none o):o=none:=by
 cases o with
 | none=>rfl
 | some u=>exact(show False from r).elim
theorem Zs3{v:V}{u:Value}(r:RelV v u):PySem.W.handedIn u=true:=by
 cases v with
 | non=>cases (show u=Value.none from r);rfl
 | bl b=>cases (show u=Value.bool b from r);rfl
 | int i=>obtain⟨t,e⟩:=(show ∃t,u=Value.int i t from r);cases e;rfl
 | str x=>obtain⟨t,e⟩:=(show ∃t,u=Value.str x t from r);cases e;rfl
 | byt b=>obtain⟨t,e⟩:=(show ∃t,u=Value.bytes b t from r);cases e;rfl
 | flt b=>obtain⟨t,e⟩:=(show ∃t,u=Value.float b t from r);cases e;rfl
 | ref a=>cases (show u=Value.ref a from r);rfl
 | ty n=>cases (show u=Value.type n from r);rfl
section
variable{P:Program}{w:World}{H H':Hp}{h h':Heap}{a C dx:Addr}{fs fs':List (Str×V)}
theorem Zd0(hok:HOk P w H h)(e:H a=some (.ins C dx fs)):∃mA,ObjM h a dx C mA/\(∀f,RelO (fs.lookup f) (mA f))/\PySem.Within mA (fs.map (·.1))/\fs.length<=1000/\H dx=some (.own a):=by
 obtain⟨d,z,ne,ob,mA,n,r,q⟩:=(show ObjOk P w H h a (.ins C dx fs) from hok a _ e)
 exact⟨mA,⟨ob,n,ne⟩,r,q,z,d⟩
end
structure Cls (K:uFg) (C:Addr):Prop where
 pg:PySem.W.plainGet K C Str.empty=true
 hd:PySem.W.hasDictIn K C=true
 po:PySem.W.plainOver K C=true
 sa:PySem.W.findIn K (.ref C) "__setattr__" = some (some (.builtin "object.__setattr__"))
theorem Cls.get{K:uFg}{C:Addr}(c:Cls K C)(f:Str):PySem.W.plainGet K C f=true:=c.pg
def NoAttr(K:uFg)(C:Addr)(f:Str):Prop:=PySem.W.findIn K (.ref C) f=some none
theorem NoAttr.taker{K:uFg}{C:Addr}{f:Str}(n:NoAttr K C f):PySem.W.takerIn K C f=some none:=by
 unfold PySem.W.takerIn
 rw[show PySem.W.findIn K (.ref C) f=some none from n]
 rfl
structure Con (K:uFg) (C:Addr) (f:Str) (v:V) (u:Value):Prop where
 at_:PySem.W.findIn K (.ref C) f=some (some u)
 rel:RelV v u
 get:PySem.W.specialIn K u "__get__" = some none
 cp:PySem.W.copiedNames.contains f=false
structure Meth (K:uFg) (C:Addr) (m:Str) (f:Addr):Prop where
 at_:PySem.W.findIn K (.ref C) m=some (some (.ref f))
 fn:PySem.W.isFn K (.ref f)=true
 kp:PySem.W.keepIn K (.ref f)=true
section
variable{X:Cx}{pins:List (Addr×Obj)}{σ:St}{H:Hp}{s:Shared}{a C dx:Addr}{fs:List (Str×V)}{f:Str}{v:V}{A:Around}{E:Value->Shared->Prop}
theorem Zr7{b:Bool}{Q:Value->Shared->Prop}(I:Inv X pins σ H s)(e:H a=some (.ins C dx fs))(c:Cls X.K C)(n:NoAttr X.K C f)(l:fs.lookup f=some v)(h:∀u s',Inv X pins σ H s'->RelV v u->Q u s'):wpAny (model X.prog X.w) A (getAttr (.ref a) f b) Q E s:=by
 obtain⟨mA,O,r,_,_,_⟩:=Zd0 I.hok e
 obtain⟨u,hu,ru⟩:=RelO.some_of (v:=v) (o:=mA f) (by rw[← l];exact r f)
 exact Zwo I.kIn O (c.get f) c.hd n hu (Zs3 ru) (h u _ (I.tok _) ru)
theorem Zdp{m:Str}{g:Addr}{pl:Sem Bool}{Q:Value×List Value->Shared->Prop}(I:Inv X pins σ H s)(e:H a=some (.ins C dx fs))(c:Cls X.K C)(k:Meth X.K C m g)(l:fs.lookup m=none)(h:Q (.ref g,[.ref a]) s):wpAny (model X.prog X.w) A (getMethod (.ref a) m pl) Q E s:=by
 obtain⟨mA,O,r,_,_,_⟩:=Zd0 I.hok e
 have hn:mA m=none:=RelO.none_of (by rw[← l];exact r m)
 exact Zuj I.kIn O (c.get m) k.at_ k.fn hn h
theorem Zr8{y:V}{u:Value}{Q:Unit->Shared->Prop}(I:Inv X pins σ H s)(e:H a=some (.ins C dx fs))(c:Cls X.K C)(n:NoAttr X.K C f)(hl:fs.length < 1000)(ry:RelV y u)(h:∀s',Inv X pins σ (upd H a (.ins C dx (Zm f y fs))) s'->Q () s'):wpAny (model X.prog X.w) A (setAttr (.ref a) f u) Q E s:=by
 obtain⟨mA,O,r,wi,_,ho⟩:=Zd0 I.hok e
 have hz:(fs.map (·.1)).length<=sizeLine:=by rw[xB,sizeLine_eq];lia
 refine Zwp I.kIn O c.sa c.po n.taker c.hd wi hz fun h' O' sb=>h _ ?_
 have hd:∃o,h'.get? dx=some o:=let ⟨o,_,_,e',_⟩:=O'.ns;⟨o,e'⟩
 refine I.write (x:=a) (e:=dx) (by rw[e];exact True.intro) (.inr ho) (fun b q hb z=>(sb.2 b hb).trans z) hd ?_
 refine⟨by rw[Zc O.ne];exact ho,?_,O.ne,O'.obj,_,O'.ns,fun g=>?_,fun g hg=>?_⟩
 ·have:=Za4 f y fs;lia
 ·show RelO ((Zm f y fs).lookup g) (if g=f then some u else mA g)
  rw[Yx]
  by_cases q:g=f
  ·rw[if_pos q,if_pos q];exact ry
  ·rw[if_neg q,if_neg q];exact r g
 ·by_cases q:g=f
  ·rw[q];exact(Zfo f y fs).1
  ·refine(Zfo f y fs).2 g (wi g fun z=>hg ?_)
   show (if g=f then some u else mA g)=none
   rw[if_neg q];exact z
theorem Inv.made(I:Inv X pins σ H s):Inv X pins σ (upd (upd H s.heap.objs.size (.own (s.heap.objs.size+1))) (s.heap.objs.size+1) (.ins C s.heap.objs.size []))
  {s with heap:=(s.heap.push PySem.W.emptyDict).push (PySem.W.instObj C s.heap.objs.size) }:=by
 have e1:(s.heap.push PySem.W.emptyDict).get? s.heap.objs.size=some PySem.W.emptyDict:=xP s.heap rfl
 have e2:((s.heap.push PySem.W.emptyDict).push (PySem.W.instObj C s.heap.objs.size)).get? (s.heap.objs.size+1)=some (PySem.W.instObj C s.heap.objs.size):=by
  have:=xP (s.heap.push PySem.W.emptyDict) (o:=PySem.W.instObj C s.heap.objs.size) rfl
  rwa [yY] at this
 have e3:(s.heap.push PySem.W.emptyDict).Ns s.heap.objs.size (fun _=>none):=⟨PySem.W.emptyDict,#[],_,e1,rfl,(fun e he=>absurd he (by simp)),fun _=>rfl⟩
 have I1:=I.laid (a:=s.heap.objs.size) (o:=.own (s.heap.objs.size+1)) (h':=s.heap.push PySem.W.emptyDict) (t':=s.toks) (fun b u q=>xA _ q) (xE _) ⟨_,e1⟩
 refine I1.laid (a:=s.heap.objs.size+1) (o:=.ins C s.heap.objs.size []) (t':=s.toks) (fun b u q=>xA _ q) (Nat.le_of_eq (yY _ _)) ?_
 have ne:s.heap.objs.size≠s.heap.objs.size+1:=yD (Nat.lt_succ_self _)
 refine⟨by rw[Zc ne,Zg],yJ _,ne,e2,fun _=>none,(Heap.Ns1.of_empty e3).at fun o q=>xA _ q,fun _=>True.intro,fun y hy=>absurd rfl hy⟩
theorem Zwq{prog:Program}{w:World}{env:Env}{e:Expr}{f:Str}{pos:Pos}{s:Shared}{Q:Value->Shared->Prop}(hb:attributeBase e f env (eval e env)=eval e env)(h:wpAny (model prog w) A (eval e env) (fun o s₁=>wpAny (model prog w) A (getAttr o f true) Q E s₁) E s):wpAny (model prog w) A (eval (.Attribute e f pos) env) Q E s :=
 Attribute_any_ h (by rw[arm_eval_Attribute,hb])
end
def Zj8(K:uFg)(ta:TE)(f:Str):TE:=fun σ H Q=>ta σ H fun x H1=>∃a C dx fs v,x = .ref a/\H1 a=some (.ins C dx fs)/\Cls K C/\NoAttr K C f/\fs.lookup f=some v/\Q v H1
def Zqh(K:uFg)(ta tv:TE)(f:Str):TS:=fun D σ H=>tv σ H fun y H1=>ta σ H1 fun x H2=>∃a C dx fs,x = .ref a/\H2 a=some (.ins C dx fs)/\Cls K C/\NoAttr K C f/\fs.length < 1000 /\
 D.nx σ (upd H2 a (.ins C dx (Zm f y fs)))
section
variable{X:Cx}{o e value:Expr}{f:Str}{pos pos' tpos:Pos}{ta tv:TE}
theorem Zns(he:PE X e ta)(hb:attributeBase e f X.env (eval e X.env)=eval e X.env):PE X (.Attribute e f pos) (Zj8 X.K ta f):=by
 intro pins s σ H Q I h
 refine Zwq hb (thn (he pins s σ H _ I h) fun u s1 ⟨x,H1,I1,rx,a,C,dx,fs,v,ex,ea,c,n,l,q⟩=>?_)
 subst ex
 obtain rfl:u=Value.ref a:=rx
 exact Zr7 I1 ea c n l fun u' s2 I2 ru=>⟨v,H1,I2,ru,q⟩
theorem Zyv(ha:PE X o ta)(hv:PE X value tv)(hs:swapsWith value (some (.Attribute o f pos')) pos.line X.env=pure false):PS X (.Assign [.Attribute o f pos'] value pos) (Zqh X.K ta tv f):=by
 intro pins s σ H D I h
 refine plainObj_wpAny_Assign_Attribute (thn (hv pins s σ H _ I h) fun u s1 ⟨y,H1,I1,ry,q⟩=>thn (ha pins s1 σ H1 _ I1 q) fun ov s2 ⟨x,H2,I2,rx,a,C,dx,fs,ex,ea,c,n,l,q2⟩=>?_) hs
 subst ex
 obtain rfl:ov=Value.ref a:=rx
 exact Zr8 I2 ea c n l ry fun s3 I3=>⟨σ,_,I3,q2⟩
end
section
variable{X:Cx}{pins:List (Addr×Obj)}{σ:St}{H:Hp}{s:Shared}{A:Around}{E:Value->Shared->Prop}{Q:Value->Shared->Prop}{c:Value}{b:Bool}
inductive TyOf (K:uFg) (H:Hp):V->Value->Prop where
 | non:TyOf K H .non (.type "NoneType")
 | bl (x:Bool):TyOf K H (.bl x) (.type "bool")
 | int (i:Int):TyOf K H (.int i) (.type "int")
 | str (x:Str):TyOf K H (.str x) (.type "str")
 | flt (x:UInt64):TyOf K H (.flt x) (.type "float")
 | lst {a:Addr}{xs:List V}(e:H a=some (.lst xs)):TyOf K H (.ref a) (.type "list")
 | frz {a:Addr}{o:Obj}{xs:List V}(e:H a=some (.frz o (.lst xs))):TyOf K H (.ref a) (.type "list")
 | tup {a:Addr}{xs:List V}(e:H a=some (.tup xs)):TyOf K H (.ref a) (.type "tuple")
 | dK {a:Addr}{kvs:List (Key×V)}(e:H a=some (.dK kvs)):TyOf K H (.ref a) (.type "dict")
 | dT {a:Addr}{kvs:List (List Key×V)}(e:H a=some (.dT kvs)):TyOf K H (.ref a) (.type "dict")
 | ins {a C dx:Addr}{fs:List (Str×V)}(e:H a=some (.ins C dx fs)) (cl:Cls K C) (ha:PySem.W.findIn K (.ref C) "__class__" = some (some (.builtin "object.__class__")))
   (hn:PySem.W.specialIn K (.builtin "object.__class__") "__get__" = some (some (.builtin "getset_descriptor.__get__"))) (htk:PySem.W.takesIn K (.builtin "object.__class__")=some true)
   (hm:PySem.W.mroIn K C (.type "object")=some true):TyOf K H (.ref a) (.ref C)
theorem Zs4{x:V}{u t:Value}(I:Inv X pins σ H s)(rx:RelV x u)(ty:TyOf X.K H x t)(e:PySem.W.kitOne X.K t c=some b)(h:∀tk,Q (.bool b) {s with toks:=tk }) :
  wpAny (model X.prog X.w) A (call (.builtin "isinstance") [u,c]) Q E s:=by
 cases ty with
 | non=>cases (show u=Value.none from rx);exact PySem.W.kia_one PySem.W.kitx_none I.kIn True.intro e (fun z=>nomatch z) h
 | bl y=>cases (show u=Value.bool y from rx);exact PySem.W.kia_one PySem.W.kitx_bool I.kIn True.intro e (fun z=>nomatch z) h
 | int i=>obtain⟨t,q⟩:=(show ∃t,u=Value.int i t from rx);cases q;exact PySem.W.kia_one PySem.W.kitx_int I.kIn True.intro e (fun z=>nomatch z) h
 | str y=>obtain⟨t,q⟩:=(show ∃t,u=Value.str y t from rx);cases q;exact PySem.W.kia_one PySem.W.kitx_str I.kIn True.intro e (fun z=>nomatch z) h
 | flt y=>obtain⟨t,q⟩:=(show ∃t,u=Value.float y t from rx);cases q;exact PySem.W.kia_one PySem.W.kitx_float I.kIn True.intro e (fun z=>nomatch z) h
 | @lst a xs ea =>
  cases (show u=Value.ref a from rx)
  obtain⟨_,_,n,_,h1⟩:=(show ObjOk X.prog X.w H s.heap a (.lst xs) from I.hok a _ ea)
  exact PySem.W.kia_one PySem.W.kitx_list I.kIn ⟨_,h1,rfl⟩ e (fun z=>nomatch z) h
 | @frz a ob xs ea =>
  cases (show u=Value.ref a from rx)
  obtain⟨_,_,_,n,_,h1⟩:=(show ObjOk X.prog X.w H s.heap a (.frz ob (.lst xs)) from I.hok a _ ea)
  exact PySem.W.kia_one PySem.W.kitx_list I.kIn ⟨_,h1,rfl⟩ e (fun z=>nomatch z) h
 | @tup a xs ea =>
  cases (show u=Value.ref a from rx)
  obtain⟨_,_,_,p⟩:=(show ObjOk X.prog X.w H s.heap a (.tup xs) from I.hok a _ ea)
  obtain⟨o,h1,h2,_⟩:=p
  exact PySem.W.kia_one PySem.W.kitx_tuple I.kIn ⟨o,h1,h2⟩ e (fun z=>nomatch z) h
 | @dK a kvs ea =>
  cases (show u=Value.ref a from rx)
  obtain⟨_,_,vs,_,p⟩:=(show ObjOk X.prog X.w H s.heap a (.dK kvs) from I.hok a _ ea)
  obtain⟨o,es,ep,h1,h2,_⟩:=p
  exact PySem.W.kia_one PySem.W.kitx_dict I.kIn ⟨o,h1,h2.1⟩ e (fun z=>nomatch z) h
 | @dT a kvs ea =>
  cases (show u=Value.ref a from rx)
  obtain⟨_,_,xs,_,o,es,ep,h1,h2,_⟩:=(show ObjOk X.prog X.w H s.heap a (.dT kvs) from I.hok a _ ea)
  exact PySem.W.kia_one PySem.W.kitx_dict I.kIn ⟨o,h1,h2.1⟩ e (fun z=>nomatch z) h
 | @ins a C dx fs ea cl ha hn htk hm =>
  cases (show u=Value.ref a from rx)
  obtain⟨mA,O,_⟩:=Zd0 I.hok ea
  obtain⟨od,J,_⟩:=O.look
  exact PySem.W.kia_one (PySem.W.kitx_own (cl.get _) cl.hd ha hn htk hm) I.kIn J e (fun z=>nomatch z) h
end
end L2
namespace L2
open PySem PySem.Spec PyProof.Rows
structure Room (k:Nat) (A:Around):Prop where
 hd:A.handled=none
 dp:A.depth+3 * k+5 < recursionLimit
 un:A.units+16 * k+200 < cLine
theorem Room.mono{j k:Nat}{A:Around}(r:Room k A)(h:j<=k):Room j A:=⟨r.hd,by have:=r.dp;lia,by have:=r.un;lia⟩
theorem Room.deeper{k:Nat}{A:Around}(r:Room (k+1) A)(env:Env):Room k (A.deeper env) :=
 ⟨r.hd,by have:=r.dp;show A.depth+1+3 * k+5 < _;lia,by have:=r.un;show A.units+3+16 * k+200 < _;lia⟩
theorem Zr9{A:Around}{C:Addr}{us:List Value}{kw:List (Str×Value)}:(A.under (.builtin "type.__call__" ⟨.ref C::us,kw⟩)).depth=A.depth+1:=by
 first | rfl | simp[Around.under,Code.weight,Code.isCreation,Code.isGuard,Code.isCaller,Code.frames,Code.isFrame,guardIds]
theorem Zsa{A:Around}{C:Addr}{us:List Value}{kw:List (Str×Value)}:(A.under (.builtin "type.__call__" ⟨.ref C::us,kw⟩)).units=A.units+1:=by
 first | rfl | simp[Around.under,Code.cUnits,Code.frames,Code.isFrame]
theorem Room.make{k:Nat}{A:Around}(r:Room (k+1) A)(C:Addr)(us:List Value)(kw:List (Str×Value)):Room k (A.under (.builtin "type.__call__" ⟨.ref C::us,kw⟩)) :=
 ⟨r.hd,by have:=r.dp;rw[Zr9];lia,by have:=r.un;rw[Zsa];lia⟩
theorem Room.depth{k:Nat}{A:Around}(r:Room k A):A.depth < recursionLimit:=by have:=r.dp;lia
theorem Room.units{k:Nat}{A:Around}(r:Room k A):A.units+64 < cLine:=by have:=r.un;lia
def Vu:TA:=fun _ H Q=>Q [] H
def Ve(ta:TE)(tr:TA):TA:=fun σ H Q=>ta σ H fun x H1=>tr σ H1 fun xs H2=>Q (x::xs) H2
section
variable{X:Cx}{e:Expr}{es:List Expr}{te:TE}{t:TA}{pos:Pos}
theorem Zyw:PA X [] Vu:=fun _ _ _ _ H Q I h=>Calls.spliced_nil ⟨[],H,I,.nil,h⟩
theorem Zwr(ha:PE X e te)(hr:PA X es t)(hs:starEach (e::es) X.env=(false,eval e X.env)::starEach es X.env:=by rfl):PA X (e::es) (Ve te t):=by
 intro pos pins s σ H Q I h
 rw[hs]
 show wpAny _ _ (spliced ((false,eval e X.env)::backTo pos (starEach es X.env))) _ _ s
 refine Calls.spliced_cons (thn (ha pins s σ H _ I h) fun u s1 ⟨x,H1,I1,r1,q1⟩=>?_)
 exact thn (hr pos pins s1 σ H1 _ I1 q1) fun us s2 ⟨xs,H2,I2,r2,q2⟩=>⟨x::xs,H2,I2,.cons r1 r2,q2⟩
def Zfb(t:TA):TE:=fun σ H Q=>t σ H fun xs H1=>xs.length<=sizeLine/\∀p,H1 p=none->Q (.ref p) (upd H1 p (.tup xs))
def Zj9(t:TA):TE:=fun σ H Q=>t σ H fun xs H1=>xs.length<=sizeLine/\∀p,H1 p=none->Q (.ref p) (upd H1 p (.lst xs))
theorem Zyx {x1} (h:PA X es t):PE X (.Tuple es x1 pos) (Zfb t):=by
 intro pins s σ H Q I hq
 refine wpAny_Tuple_spliced (thn (h pos pins s σ H _ I hq) fun us s1 ⟨xs,H1,I1,r,z,q⟩=>⟨by rw[← r.length];exact z,?_⟩)
 have hf:H1 s1.heap.objs.size=none:=I1.hok.fresh (xE _)
 refine⟨.ref s1.heap.objs.size,upd H1 s1.heap.objs.size (.tup xs),I1.laid (t':=s1.toks) (fun b u e=>xA _ e) (xE _) ?_,rfl,q _ hf⟩
 exact⟨z,us,r,⟨_,xP _ rfl,rfl,_,rfl⟩⟩
theorem Zyy(h:PA X es t):PE X (.List es pos) (Zj9 t):=by
 intro pins s σ H Q I hq
 refine wpAny_List_spliced (thn (h pos pins s σ H _ I hq) fun us s1 ⟨xs,H1,I1,r,z,q⟩=>⟨by rw[← r.length];exact z,?_⟩)
 have hf:H1 s1.heap.objs.size=none:=I1.hok.fresh (xE _)
 refine⟨.ref s1.heap.objs.size,upd H1 s1.heap.objs.size (.lst xs),I1.laid (t':=s1.toks) (fun b u e=>xA _ e) (xE _) ?_,rfl,q _ hf⟩
 exact⟨z,us,0,r,xP _ rfl⟩
end
abbrev Sp:=List V->Hp->VK->XK->Prop
abbrev CXT:=List Env->Hp->Shared->XK->Value->Shared->Prop
structure Env0 (P:Program) (w:World) (K:uFg) (mg:Str->Option Value) (base:Heap) (A:Around) (outer:List Env) (s:Shared) (H:Hp):Prop where
 frames:A.frames=some outer
 mod:Mod K mg base
 bs:∀b o,base.get? b=some o->s.heap.get? b=some o/\H b=none
 bsz:base.objs.size<=s.heap.objs.size
 funs:s.heap.FunFrames base outer
 frf:∀b∈frs outer,H b=none
 hok:HOk P w H s.heap
 bare:AllBare s.gens
def CE(outer:List Env)(P:Program)(w:World)(H:Hp)(s:Shared)(Q:VK)(u:Value)(s':Shared):Prop :=
 ∃v H',s'.os=s.os/\AllBare s'.gens/\Un (frs outer) [] H H' s.heap s'.heap/\HOk P w H' s'.heap/\RelV v u/\Q v H'
def CR(CX:CXT)(outer:List Env)(P:Program)(w:World)(H:Hp)(s:Shared)(Q:VK)(E:XK)(r:Result)(s':Shared):Prop :=
 match r with
 | .ok (.ret u)=>CE outer P w H s Q u s'
 | .ok _=>False
 | .error e=>CX outer H s E e s'
structure FnOk (P:Program) (w:World) (K:uFg) (mg:Str->Option Value) (base:Heap) (CX:CXT) (k:Nat) (f:Addr) (fd:FuncData) (ps:List Str) (sp:Sp):Prop where
 len:∀vs H Q E,sp vs H Q E->vs.length=ps.length
 run:∀(A:Around)(outer:List Env)(s:Shared)(H:Hp)(args:Args)(us:List Value)(vs:List V)(Q:VK)(E:XK),Room k A->Env0 P w K mg base A outer s H->BindsTo s fd args (ps.zip us)->Vals vs us->sp vs H Q E ->
  codeAny (model P w) A (.call (.ref f) args) (CR CX outer P w H s Q E) s
theorem FnOk.mono{P:Program}{w:World}{K:uFg}{mg:Str->Option Value}{base:Heap}{CX:CXT}{j k:Nat}{f:Addr}{fd:FuncData}{ps:List Str}{sp:Sp}(F:FnOk P w K mg base CX j f fd ps sp)(h:j<=k) :
  FnOk P w K mg base CX k f fd ps sp:=⟨F.len,fun A outer s H args us vs Q E hr=>F.run A outer s H args us vs Q E (hr.mono h)⟩
theorem FnOk.imp{P:Program}{w:World}{K:uFg}{mg:Str->Option Value}{base:Heap}{CX:CXT}{k:Nat}{f:Addr}{fd:FuncData}{ps:List Str}{sp sp':Sp}(F:FnOk P w K mg base CX k f fd ps sp)(h:∀vs H Q E,sp' vs H Q E->sp vs H Q E):FnOk P w K mg base CX k f fd ps sp' :=
 ⟨fun vs H Q E q=>F.len vs H Q E (h _ _ _ _ q),fun A outer s H args us vs Q E hr he hb hv hs=>F.run A outer s H args us vs Q E hr he hb hv (h _ _ _ _ hs)⟩
theorem Env0.make{P:Program}{w:World}{K:uFg}{mg:Str->Option Value}{base:Heap}{A:Around}{outer:List Env}{s:Shared}{H:Hp}(e:Env0 P w K mg base A outer s H)(C:Addr)(us:List Value)(kw:List (Str×Value)) :
  Env0 P w K mg base (A.under (.builtin "type.__call__" ⟨.ref C::us,kw⟩)) outer s H:=⟨by first | exact e.frames | (simpa [Around.under,Code.envs,Code.isFrame,pushEnvs] using e.frames),e.mod,e.bs,e.bsz,e.funs,e.frf,e.hok,e.bare⟩
section
variable{X:Cx}{pins:List (Addr×Obj)}{σ:St}{H:Hp}{s s':Shared}
theorem Inv.env0(I:Inv X pins σ H s):Env0 X.prog X.w X.K X.mg X.base X.A X.stack s H :=
 ⟨I.ok.frames,I.ok.mod,I.bs,xT I.ok.bsz I.sz,I.stack,I.stkFree,I.hok,I.bare⟩
theorem Inv.after{Q:VK}{u:Value}(I:Inv X pins σ H s)(h:CE X.stack X.prog X.w H s Q u s'):EP X pins σ Q u s':=by
 obtain⟨v,H',os,bare,un,hok,r,q⟩:=h
 obtain⟨hh,g,d,t,os'⟩:=s'
 obtain rfl:os'=s.os:=os
 exact⟨v,H',I.call (h':=hh) (g':=g) (d':=d) (t':=t) (ch:=[]) un hok bare (fun b z=>absurd z (by simp)),r,q⟩
end
def Zgw(sp:Sp)(dvs:List V)(E:XK)(t:TA):TE:=fun σ H Q=>t σ H fun vs H1=>sp (vs++dvs) H1 Q E
def Zeq(C:Addr)(m:Str)(sp:Sp)(dvs:List V)(E:XK)(ta:TE)(t:TA):TE:=fun σ H Q=>ta σ H fun x H1=>∃a dx fs,x = .ref a/\H1 a=some (.ins C dx fs)/\fs.lookup m=none /\
 t σ H1 fun vs H2=>sp (x::(vs++dvs)) H2 Q E
def Zo0(C:Addr)(sp:Sp)(dvs:List V)(E:XK)(t:TA):TE:=fun σ H Q=>t σ H fun vs H1=>∀x dx,H1 x=none->H1 dx=none->dx≠x ->
 sp (.ref x::(vs++dvs)) (upd (upd H1 dx (.own x)) x (.ins C dx [])) (fun v H2=>v = .non/\Q (.ref x) H2) E
def Binds(K:uFg)(fd:FuncData)(ps:List Str)(ds:List Value):Prop :=
 ∀(s:Shared)(us:List Value),K.In s.heap->(us++ds).length=ps.length->BindsTo s fd ⟨us,[]⟩ (ps.zip (us++ds))
theorem Binds.all{K:uFg}{fd:FuncData}{ps:List Str}(h:∀us:List Value,us.length=ps.length->bindArgs fd ⟨us,[]⟩=pure (ps.zip us)):Binds K fd ps []:=fun s us _ hl=>by
 rw[yQ] at hl ⊢
 exact .of_eq (h us hl)
def Za5(CX:CXT)(X:Cx)(E:XK):Prop:=∀(pins:List (Addr×Obj))(σ:St)(H:Hp)(s:Shared)(e:Value)(s':Shared),Inv X pins σ H s->CX X.stack H s E e s'->X.xe e s'
section
variable{X:Cx}{CX:CXT}{k:Nat}{f C:Addr}{fd:FuncData}{ps:List Str}{sp:Sp}{dvs:List V}{ds:List Value}{E:XK}{x m:Str}{p pos apos:Pos}{e o:Expr}{es:List Expr}{ta:TE}{t:TA}
theorem Zgi{pins:List (Addr×Obj)}{σ:St}{H:Hp}{s:Shared}{Q:VK}{us:List Value}{vs:List V}(F:FnOk X.prog X.w X.K X.mg X.base CX k f fd ps sp)(hr:Room k X.A)(hb:Binds X.K fd ps ds)(hd:Vals dvs ds)(hx:Za5 CX X E)(I:Inv X pins σ H s)(r:Vals vs us)(h:sp (vs++dvs) H Q E):wpAny (model X.prog X.w) X.A (call (.ref f) us) (EP X pins σ Q) X.xe s:=by
 have r2:Vals (vs++dvs) (us++ds):=r.append hd
 have hl:(us++ds).length=ps.length:=by rw[← r2.length];exact F.len _ _ _ _ h
 refine wpAny_call (codeAny_mono (F.run X.A X.stack s H ⟨us,[]⟩ (us++ds) (vs++dvs) Q E hr I.env0 (hb s us I.kIn hl) r2 h) fun r s' hq=>?_)
 cases r with
 | error e=>exact hx pins σ H s e s' I hq
 | ok fl =>
  cases fl with
  | ret u=>exact I.after hq
  | next=>exact False.elim hq
  | brk=>exact False.elim hq
  | cont=>exact False.elim hq
theorem Zws(F:FnOk X.prog X.w X.K X.mg X.base CX k f fd ps sp)(hr:Room k X.A)(hg:Gl X x)(hm:X.mg x=some (.ref f))(hk:PySem.W.keepIn X.K (.ref f)=true)(hb:Binds X.K fd ps ds)(hd:Vals dvs ds)(hx:Za5 CX X E)(ha:PA X (e::es) t)(hdb:(x == ("__debug__" : Str))=false:=by decide)(he:starEach (e::es) X.env=(false,eval e X.env)::starEach es X.env:=by rfl)(hpl:(backTo pos (starEach es X.env)).any (·.1)=false:=by rfl) :
  PE X (.Call (.Name x p) (e::es) [] pos) (Zgw sp dvs E t):=by
 intro pins s σ H Q I h
 refine wpAny_Call_Name_kw (Zb0 I hg hm ?_ hdb)
 refine PySem.W.callWith_K (h₀:=X.base) I.ok.mod.kin hk (thn (ha pos pins s σ H _ I h) fun us s1 ⟨vs,H1,I1,r,q⟩=>⟨I1.kIn,?_⟩) he hpl
 exact Zgi F hr hb hd hx I1 r q
theorem Zwt{pl:Sem Bool}(he:PE X o ta)(c:Cls X.K C)(hm:Meth X.K C m f)(F:FnOk X.prog X.w X.K X.mg X.base CX k f fd ps sp)(hr:Room k X.A)(hb:Binds X.K fd ps ds)(hd:Vals dvs ds)(hx:Za5 CX X E)(ha:PA X (e::es) t)(hst:starEach (e::es) X.env=(false,eval e X.env)::starEach es X.env:=by rfl)(hpl:(backTo pos (starEach es X.env)).any (·.1)=false:=by rfl)(ht:eval (.Call (.Attribute o m apos) (e::es) [] pos) X.env=(do
   let ov ← eval o X.env
   standAt apos.atName
   let (f,first) ← holding [ov] (getMethod ov m pl)
   callWith pos f first (backTo pos (starEach (e::es) X.env)) (backToKw pos (keywordEach [] X.env))):=by rfl) :
  PE X (.Call (.Attribute o m apos) (e::es) [] pos) (Zeq C m sp dvs E ta t):=by
 intro pins s σ H Q I h
 refine PySem.W.methodCall_KW (pl:=pl) (thn (he pins s σ H _ I h) fun u s1 ⟨x,H1,I1,rx,a,dx,fs,ex,ea,l,q⟩=>?_) ht
 subst ex
 obtain rfl:u=Value.ref a:=rx
 refine Zdp I1 ea c hm l ?_
 refine PySem.W.callWith_K (first:=[.ref a]) (h₀:=X.base) I.ok.mod.kin hm.kp (thn (ha pos pins s1 σ H1 _ I1 q) fun us s2 ⟨vs,H2,I2,r,q2⟩=>⟨I2.kIn,?_⟩) hst hpl
 exact Zgi (us:=.ref a::us) (vs:=.ref a::vs) F hr hb hd hx I2 (.cons rfl r) q2
theorem Zul{pl:Sem Bool}(he:PE X o ta)(c:Cls X.K C)(hm:Meth X.K C m f)(F:FnOk X.prog X.w X.K X.mg X.base CX k f fd ps sp)(hr:Room k X.A)(hb:Binds X.K fd ps ds)(hd:Vals dvs ds)(hx:Za5 CX X E)(ht:eval (.Call (.Attribute o m apos) [] [] pos) X.env=(do
   let ov ← eval o X.env
   standAt apos.atName
   let (f,first) ← holding [ov] (getMethod ov m pl)
   callWith pos f first (backTo pos (starEach [] X.env)) (backToKw pos (keywordEach [] X.env))):=by rfl) :
  PE X (.Call (.Attribute o m apos) [] [] pos) (Zeq C m sp dvs E ta Vu):=by
 intro pins s σ H Q I h
 refine PySem.W.methodCall_KW (pl:=pl) (thn (he pins s σ H _ I h) fun u s1 ⟨x,H1,I1,rx,a,dx,fs,ex,ea,l,q⟩=>?_) ht
 subst ex
 obtain rfl:u=Value.ref a:=rx
 refine Zdp I1 ea c hm l ?_
 exact PySem.W.callWith_K0 (first:=[.ref a]) I1.kIn hm.kp (Zgi (us:=[.ref a]) (vs:=[.ref a]) F hr hb hd hx I1 (.cons rfl .nil) q)
structure Mk (K:uFg) (C f:Addr):Prop where
 makes:PySem.W.makesIn K C=true
 init:PySem.W.findIn K (.ref C) "__init__" = some (some (.ref f))
 fn:PySem.W.isFn K (.ref f)=true
 kp:PySem.W.keepIn K (.ref C)=true
theorem Zum{pins:List (Addr×Obj)}{σ:St}{H:Hp}{s:Shared}{Q:VK}{us:List Value}{vs:List V}(M:Mk X.K C f)(F:FnOk X.prog X.w X.K X.mg X.base CX k f fd ps sp)(hr:Room (k+1) X.A)(hb:Binds X.K fd ps ds)(hd:Vals dvs ds)(hx:Za5 CX X E)(I:Inv X pins σ H s)(r:Vals vs us)(h:∀x dx,H x=none->H dx=none->dx≠x->sp (.ref x::(vs++dvs)) (upd (upd H dx (.own x)) x (.ins C dx [])) (fun v H2=>v = .non/\Q (.ref x) H2) E) :
  wpAny (model X.prog X.w) X.A (call (.ref C) us) (EP X pins σ Q) X.xe s:=by
 have hq:=h (s.heap.objs.size+1) s.heap.objs.size (I.hok.fresh (Nat.le_succ _)) (I.hok.fresh (xE _)) (yD (Nat.lt_succ_self _))
 have I2:=Inv.made (C:=C) I
 have r2:Vals (V.ref (s.heap.objs.size+1)::(vs++dvs)) (Value.ref (s.heap.objs.size+1)::(us++ds)):=.cons rfl (r.append hd)
 have hl:(Value.ref (s.heap.objs.size+1)::us++ds).length=ps.length:=by
  have e:=r2.length
  rw[F.len _ _ _ _ hq] at e
  exact e.symm
 refine wpAny_call (Zuk (f:=f) I.kIn M.makes M.init (beq_iff_eq.mp M.fn) (codeAny_mono (F.run _ X.stack _ _ ⟨Value.ref (s.heap.objs.size+1)::us,[]⟩ (Value.ref (s.heap.objs.size+1)::(us++ds)) _ _ E (hr.make C us [])
  (I2.env0.make C us []) (hb _ (Value.ref (s.heap.objs.size+1)::us) I2.kIn hl) r2 hq) fun r s' hq'=>?_))
 cases r with
 | error e=>exact hx pins σ _ _ e s' I2 hq'
 | ok fl =>
  cases fl with
  | ret u =>
   obtain⟨v,H',I3,rv,ev,q3⟩:=I2.after hq'
   subst ev
   exact⟨rv,⟨V.ref (s.heap.objs.size+1),H',I3,rfl,q3⟩⟩
  | next=>exact False.elim hq'
  | brk=>exact False.elim hq'
  | cont=>exact False.elim hq'
theorem Zun(M:Mk X.K C f)(F:FnOk X.prog X.w X.K X.mg X.base CX k f fd ps sp)(hr:Room (k+1) X.A)(hg:Gl X x)(hm:X.mg x=some (.ref C))(hb:Binds X.K fd ps ds)(hd:Vals dvs ds)(hx:Za5 CX X E)(hdb:(x == ("__debug__" : Str))=false:=by decide):PE X (.Call (.Name x p) [] [] pos) (Zo0 C sp dvs E Vu):=by
 intro pins s σ H Q I h
 refine wpAny_Call_Name_kw (Zb0 I hg hm ?_ hdb)
 exact PySem.W.callWith_K0 I.kIn M.kp (Zum (us:=[]) M F hr hb hd hx I .nil h)
end
section
variable{X:Cx}{CX:CXT}{k:Nat}{f C:Addr}{fd:FuncData}{ps ks:List Str}{sp:Sp}{E:XK}{x m:Str}{p pos apos kpos:Pos}{e o:Expr}{es:List Expr}{kws:List Keyword}{te ta:TE}{t tk:TA}{nm:Option Str}
structure KBinds (K:uFg) (fd:FuncData) (ps ks:List Str) (g:List Value->List Value->List Value) (gV:List V->List V->List V):Prop where
 to:∀(s:Shared)(us ws:List Value),K.In s.heap->(g us ws).length=ps.length->BindsTo s fd ⟨us,ks.zip ws⟩ (ps.zip (g us ws))
 rel:∀{vs:List V}{us:List Value}{zs:List V}{ws:List Value},Vals vs us->Vals zs ws->Vals (gV vs zs) (g us ws)
variable{g:List Value->List Value->List Value}{gV:List V->List V->List V}
end
structure FnScope (N P:List Str) (sc:Scope):Prop where
 kind:sc.kind = .function
 co:sc.isCoroutine=false
 gen:sc.isGenerator=false
 nd:N.Nodup
 pre:N.take P.length=P
 par:∀x∈P,sc.names.lookup x=some .local\/sc.names.lookup x=some .cell
 nofree:∀y∈sc.names,y.2 ≠ .free
theorem Zlh{kindOf:Str->Option NameKind}{x:Str}:∀{binds:List (Str×Value)}{m:Str->Option Value},(∀v,(x,v)∉binds)->bindL kindOf binds m x=m x
 | [],_,_=>rfl
 | (n,v)::r,m,h=>by
  unfold bindL
  rw[Zlh fun w hw=>h w (xW _ hw)]
  split
  ·have:x≠n:=by rintro rfl;exact h v yC
   simp[this]
  ·rfl
theorem Zli{kindOf:Str->Option NameKind}{x:Str}:∀{binds:List (Str×Value)}{m:Str->Option Value},(∀v,(x,v)∉binds)->bindC kindOf binds m x=m x
 | [],_,_=>rfl
 | (n,v)::r,m,h=>by
  unfold bindC
  rw[Zli fun w hw=>h w (xW _ hw)]
  split
  ·rfl
  ·have:x≠n:=by rintro rfl;exact h v yC
   simp[this]
theorem Zlj{kindOf:Str->Option NameKind}{x:Str}{v:Value}:∀{P:List Str}{vs:List Value}{i:Nat}{m:Str->Option Value},P.Nodup->P[i]? = some x->vs[i]? = some v->kindOf x=some .local ->
  bindL kindOf (P.zip vs) m x=some v
 | [],_,_,_,_,h,_,_=>by simp at h
 | _::_,[],_,_,_,_,h,_=>by simp at h
 | p::P,w::vs,0,m,nd,h1,h2,hk=>by
  simp at h1 h2;subst h1;subst h2
  show bindL kindOf ((p,w)::P.zip vs) m p=_
  unfold bindL
  rw[Zlh fun v hv=>(yH.mp nd).1 (yZ hv).1,if_pos hk]
  simp
 | p::P,w::vs,i+1,m,nd,h1,h2,hk=>by
  show bindL kindOf ((p,w)::P.zip vs) m x=_
  unfold bindL
  exact Zlj (i:=i) (yH.mp nd).2 (by simpa using h1) (by simpa using h2) hk
theorem Zlk{kindOf:Str->Option NameKind}{x:Str}{v:Value}:∀{P:List Str}{vs:List Value}{i:Nat}{m:Str->Option Value},P.Nodup->P[i]? = some x->vs[i]? = some v->kindOf x≠some .local ->
  bindC kindOf (P.zip vs) m x=some v
 | [],_,_,_,_,h,_,_=>by simp at h
 | _::_,[],_,_,_,_,h,_=>by simp at h
 | p::P,w::vs,0,m,nd,h1,h2,hk=>by
  simp at h1 h2;subst h1;subst h2
  show bindC kindOf ((p,w)::P.zip vs) m p=_
  unfold bindC
  rw[Zli fun v hv=>(yH.mp nd).1 (yZ hv).1,if_neg hk]
  simp
 | p::P,w::vs,i+1,m,nd,h1,h2,hk=>by
  show bindC kindOf ((p,w)::P.zip vs) m x=_
  unfold bindC
  exact Zlk (i:=i) (yH.mp nd).2 (by simpa using h1) (by simpa using h2) hk
def start(N:List Str)(vs:List V):St:=vs.map some++List.replicate (N.length - vs.length) none
def Y6(CX:CXT)(P:Program)(w:World)(K:uFg)(mg:Str->Option Value)(base:Heap)(N:List Str)(qual:Str)(scope:Scope)(f:Addr)(cd:Value)(A:Around)(outer:List Env)(s:Shared)(H:Hp)(E:XK):Cx where
 prog:=P
 w:=w
 K:=K
 mg:=mg
 base:=base
 A:=A.deeper (envOfC qual scope s.heap.objs.size f cd)
 N:=N
 s₀:=s
 H₀:=H
 env:=envOfC qual scope s.heap.objs.size f cd
 outer:=outer
 stack:=envOfC qual scope s.heap.objs.size f cd::outer
 ex:=[]
 calm:=true
 fn:=fun _=>true
 pn:=[]
 xe:=fun e s'=>wpAny (model P w) (A.deeper (envOfC qual scope s.heap.objs.size f cd)) (leaving (envOfC qual scope s.heap.objs.size f cd) e) (fun _ s''=>CX outer H s E e s'') (fun e' s''=>CX outer H s E e' s'') s'
theorem Zl2{sc:Scope}{n:Nat}{x:Str}(h:sc.names.lookup x=some .cell):∃c,(cellsFrom n sc.names []).lookup x=some c:=by
 have q:=PySem.W.cellsFrom_some sc.names n [] (.inl h)
 exact Option.isSome_iff_exists.mp q
theorem Zll{CX:CXT}{P:Program}{w:World}{K:uFg}{mg:Str->Option Value}{base:Heap}{N ps:List Str}{qual:Str}{scope:Scope}{f:Addr}{cd:Value}{A:Around}{outer:List Env}{s s1:Shared}{H:Hp}{E:XK}{us:List Value}{vs:List V}(S:FnScope N ps scope)(hd:A.handled=none)(e0:Env0 P w K mg base A outer s H)(hl:vs.length=ps.length)(r:Vals vs us)(x:InCallC s s.heap.objs.size (bindL (envOfC qual scope s.heap.objs.size f cd).kindOf (ps.zip us) fun _=>none) (cellsFrom (s.heap.objs.size+1) scope.names []) (bindC (envOfC qual scope s.heap.objs.size f cd).kindOf (ps.zip us) fun _=>none) s1) :
  Inv (Y6 CX P w K mg base N qual scope f cd A outer s H E) [] (start N vs) H s1:=by
 have hpl:ps.length<=N.length:=by have:=congrArg List.length S.pre;rw[xX] at this;lia
 obtain⟨h1,tk,rfl,hk⟩:=x.done
 have noA:∀b:Addr,b∉(Y6 CX P w K mg base N qual scope f cd A outer s H E).ex:=fun b z=>absurd (show b∈([]:List Addr) from z) (by simp)
 refine⟨⟨e0.mod,S.kind,rfl,rfl,xE _,fun y z c h1 h2=>?_,fun y hy=>?_,fun y c _ h=>?_,fun _=>hd,Around.frames_deeper e0.frames,.inr ⟨rfl,rfl⟩,fun b z=>absurd z (noA b),e0.bs,e0.bsz,fun b _ _=>noA b,fun b z=>absurd z (noA b),e0.funs,e0.frf⟩,
  rfl,e0.bare,Un.kept hk,⟨_,x.toInCall.ns,fun i y v h1 h2 h3=>?_⟩,fun y c h=>⟨_,x.cell y c h⟩,e0.hok.fresh (xE _),fun y c h=>?_,fun p hp=>absurd (show p∈([]:List (Addr×Obj)) from hp) (by simp),e0.hok.kept hk,?_⟩
 ·exact name_of_addr x.apart (PySem.mem_of_lookup h1) (PySem.mem_of_lookup h2)
 ·have hy:scope.names.lookup y=some .cell\/scope.names.lookup y=some .free:=hy
  rcases hy with hy | hy
  ·exact Zl2 hy
  ·exact absurd rfl (S.nofree _ (PySem.mem_of_lookup hy))
 ·exact zB (x.above y c (PySem.mem_of_lookup h))
 ·have hi:i < vs.length:=by
   unfold start at h2
   by_cases hi:i < vs.length
   ·exact hi
   ·rw[zD (by simpa using hi)] at h2
    rw[List.getElem?_replicate] at h2
    split at h2<;>cases h2
  have ha:vs[i]? = some v:=by
   unfold start at h2
   rw[zF (by simpa using hi),xO] at h2
   cases e:vs[i]? with
   | none=>rw[e] at h2;cases h2
   | some a=>rw[e] at h2;cases h2;rfl
  obtain⟨u,hu,rv⟩:=r.get ha
  have hp:ps[i]? = some y:=by
   rw[← S.pre,List.getElem?_take_of_lt (by lia)];exact h1
  have ndP:ps.Nodup:=by rw[← S.pre];exact S.nd.sublist (List.take_sublist _ _)
  refine⟨u,rv,?_⟩
  rcases S.par y (xI hp) with k | k
  ·exact .inl ⟨k,Zlj ndP hp hu k⟩
  ·obtain⟨c,e⟩:=Zl2 (n:=s.heap.objs.size+1) k
   refine .inr ⟨.inl k,c,e,?_⟩
   have q:=x.cell y c e
   rw[Zlk ndP hp hu (by show scope.names.lookup y≠_;rw[k];decide)] at q
   exact q
 ·exact e0.hok.fresh (zB (x.above y c (PySem.mem_of_lookup h)))
 ·unfold start
  show _=N.length
  rw[xN,xB,List.length_replicate]
  lia
theorem Zo1{CX:CXT}{P:Program}{w:World}{K:uFg}{mg:Str->Option Value}{base:Heap}{k:Nat}{f:Addr}{name qual:Str}{params:Arguments}{body:List Stmt}{scope:Scope}{dV kV doc pm cdv ct oc:Value}{an od:Option Addr}{osl:Array (Option Value)}{N ps:List Str}{sp:Sp}(lk:K.lookup f=some ⟨oc,od,.func (PySem.W.fnOf name qual params body scope dV kV doc pm an cdv ct),osl⟩)(hcd:PySem.W.codeIn K cdv qual=true)(S:FnScope N ps scope)(len:∀vs H Q E,sp vs H Q E->vs.length=ps.length)(hbody:∀ (A:Around) (outer:List Env) (s:Shared) (H:Hp) (vs:List V) (Q:VK) (E:XK),Room k (A.deeper (envOfC qual scope s.heap.objs.size f cdv))->sp vs H Q E ->
   ∃t,PSs (Y6 CX P w K mg base N qual scope f cdv A outer s H E) body t/\t {nx:=fun _ H'=>Q .non H',rt:=Q } (start N vs) H) :
  FnOk P w K mg base CX (k+1) f (PySem.W.fnOf name qual params body scope dV kV doc pm an cdv ct) ps sp:=by
 refine⟨len,fun A outer s H args us vs Q E hr e0 hb r hsp=>?_⟩
 have hl:=len _ _ _ _ hsp
 have KX:K.In s.heap:=e0.mod.kin.keeps fun b o e=>(e0.bs b o e).1
 have lim:s.heap.NoLimit:=e0.mod.nolimit.keeps fun b o e=>(e0.bs b o e).1
 have hkind:∀y∈ps.zip us,scope.names.lookup y.1=some .local\/(scope.names.lookup y.1=some .cell/\((cellsFrom (s.heap.objs.size+1) scope.names []).lookup y.1).isSome=true):=fun⟨n,v⟩ hy=>by
  rcases S.par n (yZ hy).1 with q | q
  ·exact .inl q
  ·exact .inr ⟨q,PySem.W.cellsFrom_some _ _ _ (.inl q)⟩
 refine codeAny_call_function hr.depth (KX _ _ lk) rfl S.co S.gen rfl (PySem.W.codeRec_of KX hcd) (hb _ _ _ _ ?_)
 refine wpAny_newFunctionEnv_cells S.kind hkind fun env he s1 x=>?_
 subst he
 refine⟨lim.keeps x.toInCall.keep,codeAny_func ?_⟩
 obtain⟨t,ht,hq⟩:=hbody A outer s H vs Q E (hr.deeper _) hsp
 have I:Inv (Y6 CX P w K mg base N qual scope f cdv A outer s H E) [] (start N vs) H s1:=Zll S hr.hd e0 hl r x
 refine wpAny_mono (ht [] s1 (start N vs) H _ I hq) (fun fl s' hs=>?_) fun e s' hs=>hs
 have fin:∀{σ':St}{H':Hp}{v:V}{u:Value},Inv (Y6 CX P w K mg base N qual scope f cdv A outer s H E) [] σ' H' s'->RelV v u->Q v H'->CE outer P w H s Q u s' :=
  fun {σ' H' v u} J rv q=>⟨v,H',J.os,J.bare,J.base,J.hok,rv,q⟩
 cases fl with
 | ret u =>
  obtain⟨v,σ',H',J,rv,q⟩:=hs
  exact fin J rv q
 | next =>
  obtain⟨σ',H',J,q⟩:=hs
  exact fin (v:=V.non) (u:=Value.none) J rfl q
 | brk =>
  obtain⟨_,_,_,q⟩:=hs
  exact False.elim q
 | cont =>
  obtain⟨_,_,_,q⟩:=hs
  exact False.elim q
end L2
namespace L2
open PySem PySem.Spec PyProof.Rows
section
variable{X:Cx}{x:Str}{p pos:Pos}{e:Expr}{es:List Expr}{t:TA}{id T:String}{r:List V->Hp->VK->Prop}
def tCB(r:List V->Hp->VK->Prop)(t:TA):TE:=fun σ H Q=>t σ H fun vs H1=>r vs H1 Q
theorem Zuo(hc:Vd X (.builtin id) r)(hg:Gl X x)(hm:X.mg x=none)(hv:bootBuiltins x=some (.builtin id))(ha:PA X (e::es) t)(hn:x ≠ "__name__" := by decide)(hdb:(x == ("__debug__" : Str))=false:=by decide)(he:starEach (e::es) X.env=(false,eval e X.env)::starEach es X.env:=by rfl)(hpl:(backTo pos (starEach es X.env)).any (·.1)=false:=by rfl):PE X (.Call (.Name x p) (e::es) [] pos) (tCB r t):=by
 intro pins s σ H Q I h
 refine wpAny_Call_Name_kw (U2 I hg hm hv ?_ hn hdb)
 exact PyProof.Rows.callWith_builtin1 (thn (ha pos pins s σ H _ I h) fun us s1 ⟨vs,H1,I1,r1,q1⟩=>hc pins s1 σ H1 vs us Q I1 r1 q1) he hpl
theorem Zs5(hc:Vd X (.type T) r)(hg:Gl X x)(hm:X.mg x=none)(hv:bootBuiltins x=some (.type T))(ha:PA X (e::es) t)(hn:x ≠ "__name__" := by decide)(hdb:(x == ("__debug__" : Str))=false:=by decide)(he:starEach (e::es) X.env=(false,eval e X.env)::starEach es X.env:=by rfl)(hpl:(backTo pos (starEach es X.env)).any (·.1)=false:=by rfl):PE X (.Call (.Name x p) (e::es) [] pos) (tCB r t):=by
 intro pins s σ H Q I h
 refine wpAny_Call_Name_kw (U2 I hg hm hv ?_ hn hdb)
 exact PyProof.Rows.callWith_type1 (thn (ha pos pins s σ H _ I h) fun us s1 ⟨vs,H1,I1,r1,q1⟩=>hc pins s1 σ H1 vs us Q I1 r1 q1) he hpl
end
end L2
namespace HT
open PySem PyProof.Rows
section
open PySem.SeqAt
open PySem.AutoSeq1 (wpAny_loadPart')
open PySem.MeetsSeq PySem.MeetsSeq2 PySem.MeetsSeq3
end
section
variable{prog:Program}{w:World}{A:Around}{E:Value->Shared->Prop}{s:Shared}
def sIx(n d:Nat):Option Int->Nat
 | none=>d
 | some v=>if v < 0 then (v+(n:Int)).toNat else min v.toNat n
theorem sIx_none(n d:Nat):sIx n d none=d:=rfl
theorem sIx_nat(n d k:Nat):sIx n d (some (k:Int))=min k n:=by
 show (if (k:Int) < 0 then ((k:Int)+(n:Int)).toNat else min (k:Int).toNat n)=min k n
 rw[if_neg (by lia),yN]
end
end HT
namespace L2
open PySem PySem.Spec PyProof.Rows
abbrev TO:=St->Hp->(Option Int->Hp->Prop)->Prop
def PO(X:Cx)(e:Option Expr)(t:TO):Prop :=
 ∀(pins:List (Addr×Obj))(s:Shared)(σ:St)(H:Hp)(Q:Option Int->Hp->Prop),Inv X pins σ H s->t σ H Q ->
  wpAny (model X.prog X.w) X.A (evalPart e X.env) (fun u s'=>∃o H',Inv X pins σ H' s'/\IsPart u o/\Q o H') X.xe s
def Zmr:TO:=fun _ H Q=>Q none H
def Zo2(t:TE):TO:=fun σ H Q=>t σ H fun x H1=>∃i,x = .int i/\Q (some i) H1
section
variable{X:Cx}{e:Expr}{te:TE}{lo hi:Option Expr}{tl th:TO}{pos p2:Pos}
theorem Zwu:PO X none Zmr:=by
 intro pins s σ H Q I h
 rw[evalPart_none]
 exact wpAny_pure ⟨none,H,I,.none,h⟩
theorem Zwv(h:PE X e te):PO X (some e) (Zo2 te):=by
 intro pins s σ H Q I hw
 rw[evalPart_some]
 refine thn (h pins s σ H _ I hw) fun u s1 ⟨x,H1,I1,r1,q1⟩=>?_
 obtain⟨i,rfl,q⟩:=q1
 obtain⟨t,rfl⟩:=r1
 exact⟨some i,H1,I1,.int i t,q⟩
def SlR(X:Cx)(r:V->Option Int->Option Int->Hp->VK->Prop):Prop :=
 ∀(pins:List (Addr×Obj))(s:Shared)(σ:St)(H:Hp)(x:V)(v vl vu:Value)(lo hi:Option Int)(sl:Addr)(Q:VK),Inv X pins σ H s->RelV x v->s.heap.IsSliceOf sl vl vu .none->IsPart vl lo->IsPart vu hi->r x lo hi H Q ->
  ∃T id,typeLookup (.type T) "__getitem__" = pure (some (.builtin id))/\s.TypeIs v T/\wpAny (model X.prog X.w) X.A (getItem v (.ref sl)) (EP X pins σ Q) X.xe s
def tSl(r:V->Option Int->Option Int->Hp->VK->Prop)(te:TE)(tl th:TO):TE:=fun σ H Q=>te σ H fun x H1=>tl σ H1 fun l H2=>th σ H2 fun u H3=>r x l u H3 Q
theorem Zup{r:V->Option Int->Option Int->Hp->VK->Prop}(hr:SlR X r)(he:PE X e te)(hl:PO X lo tl)(hu:PO X hi th):PE X (.Subscript e (.Slice lo hi none p2) pos) (tSl r te tl th):=by
 intro pins s σ H Q I h
 refine Subscript_ (thn (he pins s σ H _ I h) fun v s1 ⟨x,H1,I1,r1,q1⟩=>?_)
 refine wpAny_Slice (thn (hl pins s1 σ H1 _ I1 q1) fun vl s2 ⟨l,H2,I2,pl,q2⟩=>thn (hu pins s2 σ H2 _ I2 q2) fun vu s3 ⟨u,H3,I3,pu,q3⟩=>?_)
 rw[evalPart_none]
 refine wpAny_pure ?_
 have I4:Inv X pins σ H3 {s3 with heap:=s3.heap.push {cls:=.type "slice", data:=.fields #[vl,vu,.none] } }:=I3.kept (t':=s3.toks) fun b ob q=>xA _ q
 obtain⟨T,id,hT,ht,hg⟩:=hr pins {s3 with heap:=s3.heap.push {cls:=.type "slice", data:=.fields #[vl,vu,.none] } } σ H3 x v vl vu l u s3.heap.objs.size Q I4 r1 (Heap.IsSliceOf.new ..) pl pu q3
 show wpAny (model X.prog X.w) X.A (subscriptTail e (.Slice lo hi none p2) v (.ref s3.heap.objs.size)) (EP X pins σ Q) X.xe {s3 with heap:=s3.heap.push {cls:=.type "slice", data:=.fields #[vl,vu,.none] } }
 exact tail_any (ops:=[.ref s3.heap.objs.size,v]) ht hT hg (by with_unfolding_all rfl)
def Ux(xs:List V)(lo hi:Option Int):List V:=(xs.drop (HT.sIx xs.length 0 lo)).take (HT.sIx xs.length xs.length hi - HT.sIx xs.length 0 lo)
theorem Zr0(xs:List V)(lo hi:Option Int):(Ux xs lo hi).length<=xs.length:=by
 unfold Ux
 rw[xX,List.length_drop]
 lia
end
end L2
namespace L2
open PySem PySem.Spec PyProof.Rows
def ixN(n:Nat)(i:Int):Option Nat:=if 0<=i then (if i < n then some i.toNat else none) else if -(n:Int)<=i then some (i+n).toNat else none
def atI{α:Type}(xs:List α)(i:Int):Option α:=(ixN xs.length i).bind fun j=>xs[j]?
theorem Zms{n:Nat}{i:Int}{j:Nat}(h:ixN n i=some j):seqIndex? i n=some j/\j < n /\ -(n:Int)<=i/\i < n:=by
 unfold ixN at h
 by_cases h0 : 0<=i
 ·rw[if_pos h0] at h
  by_cases h1:i < n
  ·rw[if_pos h1] at h
   have e:i.toNat=j:=Option.some.inj h
   exact⟨by rw[seqIndex_of h0 h1,e],by lia,by lia,h1⟩
  ·rw[if_neg h1] at h;cases h
 ·rw[if_neg h0] at h
  by_cases h1 : -(n:Int)<=i
  ·rw[if_pos h1] at h
   have e:(i+n).toNat=j:=Option.some.inj h
   exact⟨by rw[seqIndex_neg (by lia) h1,e],by lia,h1,by lia⟩
  ·rw[if_neg h1] at h;cases h
theorem Zf4{α:Type}{xs:List α}{i:Int}{v : α}(h:atI xs i=some v):∃j,seqIndex? i xs.length=some j/\xs[j]? = some v/\j < xs.length /\ -(xs.length:Int)<=i/\i < xs.length:=by
 unfold atI at h
 cases e:ixN xs.length i with
 | none=>rw[e] at h;cases h
 | some j =>
  rw[e] at h
  obtain⟨h1,h2,h3,h4⟩:=Zms e
  exact⟨j,h1,h,h2,h3,h4⟩
theorem Va{α:Type}{xs:List α}{j:Nat}{v : α}(h:xs[j]? = some v):atI xs (j:Int)=some v:=by
 have hj:j < xs.length:=(xF.mp h).1
 have e:ixN xs.length (j:Int)=some j:=by
  unfold ixN
  rw[if_pos (by lia),if_pos (by lia)];simp
 unfold atI;rw[e];exact h
def Zmt(b:Expr):Prop:=∀o i,subscripted b false o i=operate [o,i] (getItem o i)
def IxR(X:Cx)(r:R2):Prop :=
 ∀(value slice:Expr)(pins:List (Addr×Obj))(s:Shared)(σ:St)(H:Hp)(x y:V)(v u:Value)(Q:VK),Inv X pins σ H s->RelV x v->RelV y u->r x y H Q ->
  subscripted slice false v u=operate [v,u] (getItem v u)->wpAny (model X.prog X.w) X.A (subscriptTail value slice v u) (EP X pins σ Q) X.xe s
def MtR(X:Cx)(id:String)(r:V->List V->Hp->VK->Prop):Prop :=
 ∀(pins:List (Addr×Obj))(s:Shared)(σ:St)(H:Hp)(x:V)(xs:List V)(v:Value)(us:List Value)(Q:VK),Inv X pins σ H s->RelV x v->Vals xs us->r x xs H Q ->
  wpAny (model X.prog X.w) X.A (call (.builtin id) (v::us)) (EP X pins σ Q) X.xe s
section
variable{X:Cx}{a b:Expr}{ta tb:TE}{pos:Pos}
theorem Z0a{r:R2}(hr:IxR X r)(ha:PE X a ta)(hb:PE X b tb)(hs:Zmt b):PE X (.Subscript a b pos) (tOp r ta tb):=by
 intro pins s σ H Q I h
 exact Subscript_ (Zj4 ha hb I h fun v u s2 x y H2 I2 rx ry q=>hr a b pins s2 σ H2 x y v u Q I2 rx ry q (hs _ _))
def Zqi(K:uFg):R2:=fun x y H Q=>∃p xs i v,x = .ref p/\y = .int i/\SqL K H p xs/\atI xs i=some v/\Q v H
def Zka(K:uFg):R2:=fun x y H Q=>∃p xs i v,x = .ref p/\y = .int i/\SqT K H p xs/\atI xs i=some v/\Q v H
def Zqj:R2:=fun x y H Q=>∃z i c,x = .str z/\y = .int i/\z.length<=sizeLine/\atI z.cps.toList i=some c/\Q (.str ⟨#[c]⟩) H
theorem Zww:IxR X (Zqi X.K):=by
 intro value slice pins s σ H x y v u Q I rx ry h hs
 obtain⟨p,xs,i,z,rfl,rfl,hq,he,q⟩:=h
 cases rx
 obtain⟨t,rfl⟩:=ry
 obtain⟨its,r,pl,hz⟩:=I.list hq
 obtain⟨j,h1,h2,h3,h4,h5⟩:=Zf4 he
 obtain⟨w,ew,rw'⟩:=r.get h2
 have hl:=r.length
 have hn:=Za3
 have fin:EP X pins σ Q w s:=⟨z,H,I,rw',q⟩
 by_cases h0 : 0<=i
 ·have hj:i.toNat=j:=by
   rw[seqIndex_of h0 h5] at h1
   exact Option.some.inj h1
  exact item_listR pl.isList h0 (by lia) (by rw[hj];simpa using ew) fin hs
 ·have hj:(i+(its.toArray.size:Int)).toNat=j:=by
   rw[seqIndex_neg (by lia) h4] at h1
   rw[xQ,← hl]
   exact Option.some.inj h1
  exact subscriptTail_builtinR (x:=w) pl.isList.typeIs slot_list_getitem.lookup
   (wpAny_getItem_list_neg (Q:=fun r s'=>r=w/\EP X pins σ Q r s') pl.isList (by lia) (by rw[xQ]<;>lia) (by lia) (by rw[hj];simpa using ew) ⟨rfl,fin⟩) hs
theorem Zyz:IxR X (Zka X.K):=by
 intro value slice pins s σ H x y v u Q I rx ry h hs
 obtain⟨p,xs,i,z,rfl,rfl,hq,he,q⟩:=h
 cases rx
 obtain⟨t,rfl⟩:=ry
 obtain⟨its,r,pl,hz⟩:=I.tuple hq
 obtain⟨j,h1,h2,h3,h4,h5⟩:=Zf4 he
 obtain⟨w,ew,rw'⟩:=r.get h2
 have hl:=r.length
 have hn:=Za3
 have fin:EP X pins σ Q w s:=⟨z,H,I,rw',q⟩
 exact subscriptTail_builtinR (x:=w) pl.typeIs slot_tuple_getitem.lookup
  (getItem_tuple (j:=j) (Q:=fun r s'=>r=w/\EP X pins σ Q r s') pl (by lia) (by lia) (by rw[xQ,← hl];exact h1) (by simpa using ew) ⟨rfl,fin⟩) hs
theorem Zy0:IxR X Zqj:=by
 intro value slice pins s σ H x y v u Q I rx ry h hs
 obtain⟨z,i,c,rfl,rfl,hz,he,q⟩:=h
 obtain⟨t,rfl⟩:=rx
 obtain⟨t',rfl⟩:=ry
 obtain⟨j,h1,h2,h3,h4,h5⟩:=Zf4 he
 have hl:z.cps.toList.length=z.length:=by simp[Str.length]
 rw[hl] at h1 h4 h5
 have hn:=Za3
 exact tail_any (typeIs_str s z t) slot_str_getitem.lookup (getItem_str (c:=c) (by
  have e1:decide (i < -(2 ^ 63:Int))=false:=yI (by lia)
  have e2:decide (i>=2 ^ 63)=false:=yI (by lia)
  rw[e1,e2,Bool.or_false]) (by rw[h1];simpa using h2) ⟨.str ⟨#[c]⟩,H,I.tok _,⟨_,rfl⟩,q⟩) hs
theorem Zsb(its:List Value)(n j:Nat)(u:Value):Obj.mapSeq (·.setIfInBounds j u) {cls:=.type "list", data:=.seq its.toArray n }={cls:=.type "list", data:=.seq (its.set j u).toArray n }:=by
 simp[Obj.mapSeq]
theorem Inv.lst{pins:List (Addr×Obj)}{σ:St}{H:Hp}{s:Shared}{p:Addr}{xs:List V}(I:Inv X pins σ H s)(h:H p=some (.lst xs)) :
  ∃(its:List Value)(n:Nat),Vals xs its/\s.heap.get? p=some {cls:=.type "list", data:=.seq its.toArray n }/\xs.length<=sizeLine:=by
 obtain⟨z,its,n,r,e⟩:=I.hok p _ h
 exact⟨its,n,r,e,z⟩
theorem Inv.lstUpd{pins:List (Addr×Obj)}{σ:St}{H:Hp}{s:Shared}{p:Addr}{xs ys:List V}{its its':List Value}{n n':Nat}{f:Obj->Obj}(I:Inv X pins σ H s)(h:H p=some (.lst xs))(ho:s.heap.get? p=some {cls:=.type "list", data:=.seq its.toArray n })(hf:f {cls:=.type "list", data:=.seq its.toArray n }={cls:=.type "list", data:=.seq its'.toArray n' })(r:Vals ys its')(hz:ys.length<=sizeLine)(t:Nat) :
  Inv X pins σ (upd H p (.lst ys)) {s with heap:=s.heap.update p f,toks:=t }:=by
 have e:(s.heap.update p f).get? p=some {cls:=.type "list", data:=.seq its'.toArray n' }:=by
  rw[zV f ho (by rw[hf]<;>rfl),hf]
 refine I.write (x:=p) (e:=p) (by rw[h];trivial) (.inl rfl) (fun b u hb q=>(zT _ _ (Ne.symm hb)).trans q) ⟨_,e⟩ ?_
 exact⟨hz,its',n',r,e⟩
def Zo3:V->V->V->Hp->(Hp->Prop)->Prop:=fun o i v H Q=>∃p xs k j,o = .ref p/\i = .int k/\H p=some (.lst xs)/\ixN xs.length k=some j/\Q (upd H p (.lst (xs.set j v)))
theorem Zuq:Zj3 X Zo3:=by
 intro pins s σ H o i v ov iv u Q I ro ri rv h
 obtain⟨p,xs,k,j,rfl,rfl,hp,hj,q⟩:=h
 cases ro
 obtain⟨t,rfl⟩:=ri
 obtain⟨its,n,r,ho,hz⟩:=I.lst hp
 obtain⟨h1,h2,h3,h4⟩:=Zms hj
 have hl:=r.length
 have hn:=Za3
 have I':Inv X pins σ (upd H p (.lst (xs.set j v))) {s with heap:=s.heap.update p (Obj.mapSeq (·.setIfInBounds j u)) } :=
  I.lstUpd hp ho (Zsb its n j u) (r.set rv j) (by rw[List.length_set];exact hz) s.toks
 by_cases h0 : 0<=k
 ·have hk:k.toNat=j:=by
   rw[seqIndex_of h0 h4] at h1
   exact Option.some.inj h1
  exact PySem.W.ki_setAt ho h0 (by lia) (by rw[xQ,← hl];exact h4) (by rw[hk];exact⟨_,I',q⟩)
 ·have hk:(k+(its.toArray.size:Int)).toNat=j:=by
   rw[seqIndex_neg (by lia) h3] at h1
   rw[xQ,← hl]
   exact Option.some.inj h1
  exact PySem.W.ki_setBack ho (by lia) (by rw[xQ,← hl];exact h3) (by lia) (by rw[hk];exact⟨_,I',q⟩)
theorem Zrq(lo hi:Option Int)(n:Nat):(sliceBounds lo hi none n).1=((HT.sIx n 0 lo:Nat):Int)/\(sliceBounds lo hi none n).2.1=((HT.sIx n n hi:Nat):Int)/\(sliceBounds lo hi none n).2.2=1:=by
 refine⟨?_,?_,rfl⟩
 ·cases lo with
  | none=>simp[sliceBounds,HT.sIx]
  | some i =>
   simp only[sliceBounds,HT.sIx,Option.getD_none,show (1:Int) > 0 by decide,if_true]
   by_cases h:i < 0
   ·simp only[h,if_true]<;>lia
   ·simp only[h,if_false]<;>lia
 ·cases hi with
  | none=>simp[sliceBounds,HT.sIx]
  | some i =>
   simp only[sliceBounds,HT.sIx,Option.getD_none,show (1:Int) > 0 by decide,if_true]
   by_cases h:i < 0
   ·simp only[h,if_true]<;>lia
   ·simp only[h,if_false]<;>lia
theorem Zrm(its:List Value)(lo hi:Option Int):slicePick its.toArray lo hi none=((its.drop (HT.sIx its.length 0 lo)).take (HT.sIx its.length its.length hi - HT.sIx its.length 0 lo)).toArray:=by
 obtain⟨h1,h2,h3⟩:=Zrq lo hi its.toArray.size
 unfold slicePick
 rw[h1,h2,h3]
 simp only[sliceRange_one,pick_run,xQ]<;>rfl
def Zqk(K:uFg):V->Option Int->Option Int->Hp->VK->Prop:=fun x lo hi H Q=>∃a xs,x = .ref a/\SqL K H a xs/\∀p,H p=none->Q (.ref p) (upd H p (.lst (Ux xs lo hi)))
theorem Zwx:SlR X (Zqk X.K):=by
 intro pins s σ H x v vl vu lo hi sl Q I rx hs pl pu h
 obtain⟨a,xs,rfl,hx,q⟩:=h
 cases rx
 obtain⟨its,r,ht,hz⟩:=I.list hx
 have hlen:=r.length
 refine⟨"list", _,slot_list_getitem.lookup,ht.isList.typeIs,?_⟩
 refine wpAny_getItem_list_slice ht.isList hs pl pu .none (by simp) ?_ (by rw[xQ]<;>lia)
 rw[Zrm,← hlen]
 refine⟨.ref s.heap.objs.size,_,I.laid (t':=s.toks) (o:=.lst (Ux xs lo hi)) (fun b ob q=>xA _ q) (xE _) ?_,rfl,q _ (I.hok.fresh (xE _))⟩
 exact⟨xT (Zr0 xs lo hi) hz,_,0,(r.drop (HT.sIx xs.length 0 lo)).take (HT.sIx xs.length xs.length hi - HT.sIx xs.length 0 lo),xP _ rfl⟩
def U5:V->Bool
 | .non=>true
 | .bl _=>true
 | .int _=>true
 | .str _=>true
 | _=>false
def eqV:V->V->Bool
 | .non,.non=>true
 | .bl a,.bl b=>a == b
 | .bl a,.int b=>(if a then 1 else 0)== b
 | .int a,.bl b=>a == (if b then 1 else 0)
 | .int a,.int b=>a == b
 | .str a,.str b=>a == b
 | _,_=>false
theorem Zy1{A:Around}{s:Shared}{y x:V}{u v:Value}(ry:RelV y u)(rx:RelV x v)(fy:U5 y=true)(fx:U5 x=true):SeqAt.EqAt A s u v (eqV y x):=by
 cases y with
 | non =>
  cases ry
  cases x with
  | non=>cases rx;exact SeqAt.EqAt.same _
  | bl b=>cases rx;exact SeqAt.EqAt.none_bool b
  | int b=>obtain⟨t,rfl⟩:=rx;exact SeqAt.EqAt.none_int b t
  | str b=>obtain⟨t,rfl⟩:=rx;exact SeqAt.EqAt.none_str b t
  | _=>exact absurd (show false=true from fx) xH
 | bl a =>
  cases ry
  cases x with
  | non=>cases rx;exact SeqAt.EqAt.bool_none a
  | bl b=>cases rx;exact SeqAt.EqAt.bool_bool a b
  | int b=>obtain⟨t,rfl⟩:=rx;exact SeqAt.EqAt.bool_int a b t
  | str b=>obtain⟨t,rfl⟩:=rx;exact SeqAt.EqAt.bool_str a b t
  | _=>exact absurd (show false=true from fx) xH
 | int a =>
  obtain⟨t',rfl⟩:=ry
  cases x with
  | non=>cases rx;exact SeqAt.EqAt.int_none a t'
  | bl b=>cases rx;exact SeqAt.EqAt.int_bool a t' b
  | int b=>obtain⟨t,rfl⟩:=rx;exact SeqAt.EqAt.int_int a t' b t
  | str b=>obtain⟨t,rfl⟩:=rx;exact SeqAt.EqAt.int_str a t' b t
  | _=>exact absurd (show false=true from fx) xH
 | str a =>
  obtain⟨t',rfl⟩:=ry
  cases x with
  | non=>cases rx;exact SeqAt.EqAt.str_none a t'
  | bl b=>cases rx;exact SeqAt.EqAt.str_bool a t' b
  | int b=>obtain⟨t,rfl⟩:=rx;exact SeqAt.EqAt.str_int a t' b t
  | str b=>obtain⟨t,rfl⟩:=rx;exact SeqAt.EqAt.str_str a t' b t
  | _=>exact absurd (show false=true from fx) xH
 | _=>exact absurd (show false=true from fy) xH
def eqU(x:V)(u:Value):Bool:=match u with
 | .none=>eqV .non x
 | .bool b=>eqV (.bl b) x
 | .int i _=>eqV (.int i) x
 | .str z _=>eqV (.str z) x
 | _=>false
theorem Znt{x y:V}{u:Value}(r:RelV y u)(f:U5 y=true):eqU x u=eqV y x:=by
 cases y with
 | non=>cases r;rfl
 | bl b=>cases r;rfl
 | int i=>obtain⟨t,rfl⟩:=r;rfl
 | str z=>obtain⟨t,rfl⟩:=r;rfl
 | _=>exact absurd (show false=true from f) xH
theorem Zf5{x:V}:∀{xs:List V}{us:List Value},Vals xs us->xs.all U5=true->us.any (eqU x)=xs.any fun y=>eqV y x
 | _,_,.nil,_=>rfl
 | y::xs,u::us,.cons r t,f=>by
  rw[List.all_cons,yT] at f
  rw[List.any_cons,List.any_cons,Znt r f.1,Zf5 t f.2]
theorem Zfv{A:Around}{s:Shared}{x:V}{v:Value}(rx:RelV x v)(fx:U5 x=true):∀{xs:List V}{us:List Value},Vals xs us->xs.all U5=true->∀u∈us,SeqAt.EqAt A s u v (eqU x u)
 | _,_,.nil,_=>fun u hu=>by cases hu
 | y::xs,u::us,.cons r t,f=>fun u' hu=>by
  rw[List.all_cons,yT] at f
  rcases xD.mp hu with rfl | hu
  ·rw[Znt r f.1];exact Zy1 r rx f.1 fx
  ·exact Zfv rx fx t f.2 u' hu
def inV(x:V)(xs:List V):Bool:=xs.any fun y=>eqV y x
def rIn(K:uFg)(neg:Bool):R2:=fun x y H Q=>∃p xs,y = .ref p/\(SqL K H p xs\/SqT K H p xs)/\U5 x=true/\xs.all U5=true/\Q (.bl (if neg then !inV x xs else inV x xs)) H
theorem Zrr:OpR X (compareOp .NotIn) (rIn X.K true):=by
 intro pins s σ H x y v u Q I rx ry h
 obtain⟨p,xs,rfl,hq,fx,fs,q⟩:=h
 cases ry
 rcases hq with hq | hq
 ·obtain⟨its,r,pl,hz⟩:=I.list hq
  refine SeqAt.notIn_listAt (eqU x) pl.isList (fun w hw=>Zfv rx fx r fs w (by simpa using hw)) ⟨.bl _,H,I,rfl,?_⟩
  rw[show its.toArray.any (eqU x)=its.any (eqU x) by simp,Zf5 r fs]
  exact q
 ·obtain⟨its,r,pl,hz⟩:=I.tuple hq
  refine SeqAt.notIn_tupleAt (eqU x) pl (fun w hw=>Zfv rx fx r fs w (by simpa using hw)) ⟨.bl _,H,I,rfl,?_⟩
  rw[show its.toArray.any (eqU x)=its.any (eqU x) by simp,Zf5 r fs]
  exact q
theorem Zrs:Vd X (.builtin "len") (fun xs H Q=>∃p ys,xs = [.ref p]/\(SqL X.K H p ys\/SqT X.K H p ys)/\Q (.int ys.length) H):=by
 intro pins s σ H xs us Q I r h
 obtain⟨p,ys,rfl,hq,q⟩:=h
 obtain⟨u,rfl,rx⟩:=Up r
 cases rx
 have hn:=Za3
 rcases hq with hq | hq
 ·obtain⟨its,r',pl,hz⟩:=I.list hq
  have hlen:=r'.length
  exact Calls.call_len_list pl.isList (by simp only[xQ]<;>lia) ⟨.int ys.length,H,I.tok _,⟨s.toks+1,by rw[xQ,hlen]⟩,q⟩
 ·obtain⟨its,r',pl,hz⟩:=I.tuple hq
  have hlen:=r'.length
  exact len_tuple pl (by simp only[xQ]<;>lia) ⟨.int ys.length,H,I.tok _,⟨s.toks+1,by rw[xQ,hlen]⟩,q⟩
theorem Zrt:Vd X (.builtin "len") (fun xs H Q=>∃z,xs = [.str z]/\z.length<=sizeLine/\Q (.int z.length) H):=by
 intro pins s σ H xs us Q I r h
 obtain⟨z,rfl,hz,q⟩:=h
 obtain⟨u,rfl,t,rfl⟩:=Up r
 have hn:=Za3
 exact len_str (by lia) ⟨.int z.length,H,I.tok _,⟨_,rfl⟩,q⟩
theorem Zku:Vd X (.type "list") (fun xs H Q=>∃p ys,xs = [.ref p]/\(SqL X.K H p ys\/SqT X.K H p ys)/\∀l,H l=none->Q (.ref l) (upd H l (.lst ys))):=by
 intro pins s σ H xs us Q I r h
 obtain⟨p,ys,rfl,hq,q⟩:=h
 obtain⟨u,rfl,rx⟩:=Up r
 cases rx
 have fin:∀(its:List Value),Vals ys its->ys.length<=sizeLine->∀(h':Heap)(c':Nat),(∀b o',s.heap.get? b=some o'->h'.get? b=some o')->
   h'.get? s.heap.objs.size=some {cls:=.type "list", dict:=none,data:=.seq its.toArray c',slots:=#[] }->EP X pins σ Q (.ref s.heap.objs.size) {s with heap:=h' }:=fun its r' hz h' c' kp e =>
  ⟨.ref s.heap.objs.size,_,I.laid (t':=s.toks) kp (xE _) (show ObjOk X.prog X.w _ h' _ (.lst ys) from⟨hz,its,c',r',e⟩),rfl,q _ (I.hok.fresh (xE _))⟩
 rcases hq with hq | hq
 ·obtain⟨its,r',pl,hz⟩:=I.list hq
  have hlen:=r'.length
  obtain⟨o,ho,hc,n,hd⟩:=pl.isList
  exact call_list_seq p (.inl rfl) ho hc hd (fun h' c' kp e=>fin its r' hz h' c' kp e) (by simp only[xQ]<;>lia)
 ·obtain⟨its,r',pl,hz⟩:=I.tuple hq
  have hlen:=r'.length
  obtain⟨o,ho,hc,n,hd⟩:=pl
  exact call_list_seq p (.inr rfl) ho hc hd (fun h' c' kp e=>fin its r' hz h' c' kp e) (by simp only[xQ]<;>lia)
theorem Zrn:Vd X (.type "tuple") (fun xs H Q=>∃p ys,xs = [.ref p]/\((SqL X.K H p ys/\∀l,H l=none->Q (.ref l) (upd H l (.tup ys)))\/(SqT X.K H p ys/\Q (.ref p) H))):=by
 intro pins s σ H xs us Q I r h
 obtain⟨p,ys,rfl,h⟩:=h
 obtain⟨u,rfl,rx⟩:=Up r
 cases rx
 rcases h with⟨hq,q⟩ | ⟨hq,q⟩
 ·obtain⟨its,r',pl,hz⟩:=I.list hq
  have hlen:=r'.length
  refine call_tuple_list pl.isList (fun h' kp=>?_) (by simp only[xQ]<;>lia)
  have I1:Inv X pins σ H {s with heap:=h' }:=I.kept (t':=s.toks) kp
  have I2:Inv X pins σ (upd H h'.objs.size (.tup ys)) {s with heap:=h'.push {cls:=.type "tuple", data:=.seq its.toArray } } :=
   I1.laid (t':=s.toks) (fun b o e=>xA _ e) (xE _) (show ObjOk X.prog X.w _ _ _ (.tup ys) from⟨hz,its,r',IsTup.new _ _⟩)
  exact⟨.ref h'.objs.size,_,I2,rfl,q _ (I1.hok.fresh (xE _))⟩
 ·obtain⟨its,r',pl,hz⟩:=I.tuple hq
  exact call_tuple_same pl ⟨.ref p,H,I,rfl,q⟩
def tyV(K:uFg)(T:String)(x:V)(H:Hp):Prop:=match x with
 | .str _=>T = "str"
 | .int _=>T = "int"
 | .ref p=>(T = "list" /\ ∃xs,SqL K H p xs)\/(T = "tuple" /\ ∃o,K.lookup p=some o/\o.cls = .type "tuple" /\ o.dict=none)\/
   (T = "dict" /\ ((∃kvs,H p=some (.dK kvs))\/∃kvs,H p=some (.dT kvs)))\/(T = "set" /\ ∃S n,H p=some (.set S n))
 | _=>False
theorem Znu{pins:List (Addr×Obj)}{σ:St}{H:Hp}{s:Shared}{T:String}{x:V}{v:Value}(I:Inv X pins σ H s)(r:RelV x v)(ty:tyV X.K T x H) :
  s.TypeIs v T/\∀a,v = .ref a->∃ob,s.heap.get? a=some ob/\ob.dict=none:=by
 cases x with
 | str z =>
  obtain⟨t,rfl⟩:=r
  cases (show T = "str" from ty)
  exact⟨typeIs_str s z t,fun _ e=>nomatch e⟩
 | int i =>
  obtain⟨t,rfl⟩:=r
  cases (show T = "int" from ty)
  exact⟨typeIs_int s i t,fun _ e=>nomatch e⟩
 | ref p =>
  cases r
  rcases ty with⟨rfl,xs,hq⟩ | ⟨rfl,o,hk,hc,hd⟩ | ⟨rfl,hk⟩ | ⟨rfl,S,n,hk⟩
  ·obtain⟨its,_,pl,_⟩:=I.list hq
   refine⟨pl.isList.typeIs,fun a e=>?_⟩
   cases e
   obtain⟨o,n,e,c,hd,_⟩:=pl
   exact⟨o,e,hd⟩
  ·refine⟨⟨o,I.kIn p o hk,hc⟩,fun a e=>?_⟩
   cases e
   exact⟨o,I.kIn _ o hk,hd⟩
  ·have z:∃o,s.heap.get? p=some o/\o.ExactDict:=by
    rcases hk with⟨kvs,hk⟩ | ⟨kvs,hk⟩
    ·obtain⟨_,_,_,_,o,_,_,e,ex,_⟩:=I.hok p _ hk
     exact⟨o,e,ex⟩
    ·obtain⟨_,_,_,_,o,_,_,e,ex,_⟩:=I.hok p _ hk
     exact⟨o,e,ex⟩
   obtain⟨o,e,ex⟩:=z
   refine⟨⟨o,e,ex.1⟩,fun a e2=>?_⟩
   cases e2
   exact⟨o,e,ex.2.1⟩
  ·obtain⟨o,_,_,_,e,ex,_⟩:=I.hok p _ hk
   refine⟨⟨o,e,ex.1⟩,fun a e2=>?_⟩
   cases e2
   exact⟨o,e,ex.2.1⟩
 | _=>exact False.elim ty
def Zql(K:uFg)(T:String)(r:V->List V->Hp->VK->Prop)(to:TE):TE:=fun σ H Q=>to σ H fun x H1=>tyV K T x H1/\r x [] H1 Q
def tBM(K:uFg)(T:String)(r:V->List V->Hp->VK->Prop)(to:TE)(t:TA):TE:=fun σ H Q=>to σ H fun x H1=>tyV K T x H1/\t σ H1 fun xs H2=>r x xs H2 Q
variable{o e:Expr}{es:List Expr}{to:TE}{t:TA}{name:Str}{apos cpos:Pos}{T id:String}{r:V->List V->Hp->VK->Prop}
theorem Zy2(pa:PlainAttrs T)(slot:Slot T name id)(hty:typeOf (.builtin id)=pure (.type "method_descriptor"))(hm:MtR X id r)(ho:PE X o to)(hbase:attributeBase o name X.env (eval o X.env)=eval o X.env:=by rfl)(hline:(apos.endLine == cpos.line)=true:=by rfl):PE X (.Call (.Attribute o name apos) [] [] cpos) (Zql X.K T r to):=by
 intro pins s σ H Q I h
 refine wpAny_Call_method0_late hbase hline (thn (ho pins s σ H _ I h) fun v s1 ⟨x,H1,I1,r1,ty,q1⟩=>?_)
 obtain⟨h1,h2⟩:=Znu I1 r1 ty
 exact⟨T,id,pa,slot,hty,h1,h2,Calls.callWith_builtin rfl (PySem.evalArgs_none (hm pins s1 σ H1 x [] v [] Q I1 r1 .nil q1))⟩
theorem Z0b(pa:PlainAttrs T)(slot:Slot T name id)(hty:typeOf (.builtin id)=pure (.type "method_descriptor"))(hm:MtR X id r)(ho:PE X o to)(ha:PA X (e::es) t)(hbase:attributeBase o name X.env (eval o X.env)=eval o X.env:=by rfl)(hfew:((backTo cpos (starEach (e::es) X.env)).all (fun x=>!x.1) && (backToKw cpos (keywordEach [] X.env)).all (fun x=>x.1.isSome)
   && decide ((e::es).length+([]:List Keyword).length+(if ([]:List Keyword).isEmpty then 0 else 1) < 30))=true:=by rfl)(hline:(apos.endLine == cpos.line)=true:=by rfl)(hs:starEach (e::es) X.env=(false,eval e X.env)::starEach es X.env:=by rfl)(hplain:(backTo cpos (starEach es X.env)).any (·.1)=false:=by rfl) :
  PE X (.Call (.Attribute o name apos) (e::es) [] cpos) (tBM X.K T r to t):=by
 intro pins s σ H Q I h
 refine wpAny_Call_method_late hbase hfew hline rfl (thn (ho pins s σ H _ I h) fun v s1 ⟨x,H1,I1,r1,ty,q1⟩=>?_)
 obtain⟨h1,h2⟩:=Znu I1 r1 ty
 refine⟨T,id,pa,slot,hty,h1,h2,?_⟩
 have hA:=ha cpos pins s1 σ H1 _ I1 q1
 rw[hs] at hA ⊢
 refine Calls.callWith_builtin (by show (false || (backTo cpos (starEach es X.env)).any (·.1))=false;rw[hplain]<;>rfl) (Calls.evalArgs_plain ?_)
 exact thn hA fun us s2 ⟨vs,H2,I2,r2,q2⟩=>hm pins s2 σ H2 x vs v us Q I2 r1 r2 q2
/- xs.append(e),list.index on a module's tuple .. are MtR facts of 06m -/
end
end L2
namespace L2
open PySem PySem.Spec PyProof.Rows
def MtM(X:Cx)(id:String)(r:V->List V->Hp->VK->Prop):Prop :=
 ∀(pins:List (Addr×Obj))(s:Shared)(σ:St)(H:Hp)(x:V)(xs:List V)(v:Value)(us:List Value)(Q:VK),Inv X pins σ H s->RelV x v->Vals xs us->r x xs H Q ->
  wpAny (model X.prog X.w) X.A (call (.builtin id) (v::us)) (EP X pins σ Q) X.xe s
theorem Vals.one:∀{x:V}{us:List Value},Vals [x] us->∃u,us = [u]/\RelV x u
 | _,_,.cons r .nil=>⟨_,rfl,r⟩
theorem Vals.zero:∀{us:List Value},Vals [] us->us = []
 | _,.nil=>rfl
theorem Vals.rep{xs:List V}{us:List Value}(h:Vals xs us):∀k:Nat,Vals (List.replicate k xs).flatten (List.replicate k us).flatten
 | 0=>.nil
 | k+1=>by
  rw[yR,yR,zP,zP]
  exact Vals.append h (Vals.rep h k)
theorem Zlm(its:List Value):∀(k:Nat)(acc:List Value),
  List.foldl (fun x1 x2=>x1++x2) acc.toArray (List.replicate k its.toArray)=(acc++(List.replicate k its).flatten).toArray
 | 0,acc=>by simp
 | k+1,acc=>by
  have e:acc.toArray++its.toArray=(acc++its).toArray:=by simp
  have e2:(acc++its)++(List.replicate k its).flatten=acc++(List.replicate (k+1) its).flatten:=by
   rw[yR,zP,yO]
  rw[← e2,← Zlm its k (acc++its),← e,yR,List.foldl_cons]
section
variable{X:Cx}{pins:List (Addr×Obj)}{σ:St}{H:Hp}{s:Shared}{l b:Addr}{xs ys zs:List V}
theorem Inv.lset{its its':List Value}{n:Nat}{f:Array Value->Array Value}{t':Nat}(I:Inv X pins σ H s)(hH:H l=some (.lst xs))(e:s.heap.get? l=some {cls:=.type "list", data:=.seq its.toArray n })(hf:f its.toArray=its'.toArray)(hv:Vals ys its')(hz:ys.length<=sizeLine) :
  Inv X pins σ (upd H l (.lst ys)) {s with heap:=s.heap.update l (Obj.mapSeq f),toks:=t' }:=by
 have q:=PySem.IsL.update e f
 rw[hf] at q
 refine I.write (x:=l) (e:=l) (by rw[hH];exact trivial) (.inl rfl) (fun b' u hb hu=>(zT s.heap (Obj.mapSeq f) (Ne.symm hb)).trans hu) ⟨_,q⟩ ?_
 exact⟨hz,its',_,hv,q⟩
theorem Inv.lnew{its:List Value}{t':Nat}(I:Inv X pins σ H s)(hv:Vals ys its)(hz:ys.length<=sizeLine) :
  Inv X pins σ (upd H s.heap.objs.size (.lst ys)) {s with heap:=s.heap.push {cls:=.type "list", data:=.seq its.toArray },toks:=t' } :=
 I.laid (fun _ _ q=>xA _ q) (xE _) ⟨hz,its,0,hv,xP _ rfl⟩
theorem Inv.fresh(I:Inv X pins σ H s):H s.heap.objs.size=none:=I.hok.fresh (xE _)
theorem Inv.lstM(I:Inv X pins σ H s)(hH:H l=some (.lst xs)):xs.length<=sizeLine/\∃(its:List Value)(n:Nat),Vals xs its/\xs.length=its.length/\s.heap.get? l=some {cls:=.type "list", data:=.seq its.toArray n }:=by
 obtain⟨z,its,n,r,e⟩:=I.hok l _ hH
 exact⟨z,its,n,r,r.length,e⟩
theorem Zur{n:Nat}(h:n<=sizeLine):Builtin.List.listTooLong n=false:=by
 unfold Builtin.List.listTooLong
 exact yI (by lia)
end
section
variable{X:Cx}
def Zd1:V->List V->Hp->VK->Prop:=fun x vs H Q=>∃l xs y,x = .ref l/\vs = [y]/\H l=some (.lst xs)/\xs.length < sizeLine/\Q .non (upd H l (.lst (xs ++ [y])))
theorem Zs6:MtM X "list.append" Zd1:=by
 intro pins s σ H x vs v us Q I rx rv h
 obtain⟨l,xs,y,rfl,rfl,hH,hz,q⟩:=h
 cases rx
 obtain⟨u,rfl,ru⟩:=rv.one
 obtain⟨z,its,n,r,hl,e⟩:=I.lstM hH
 refine call_meets F.slot_list_append ⟨_,e,rfl⟩ F.entry_list_append (F.args_list_append_2 _ _) (PySem.list_append l its.toArray n u (by rw[xQ];lia)) ⟨e,?_⟩
 refine⟨.non,_,I.lset (its':=its ++ [u]) hH e (by simp) (r.append (.cons ru .nil)) ?_,rfl,q⟩
 rw[xN,zL]
 lia
def Znv:V->List V->Hp->VK->Prop:=fun x vs H Q=>∃l xs,x = .ref l/\vs = []/\H l=some (.lst xs)/\Q .non (upd H l (.lst []))
theorem Zus:MtM X "list.clear" Znv:=by
 intro pins s σ H x vs v us Q I rx rv h
 obtain⟨l,xs,rfl,rfl,hH,q⟩:=h
 cases rx
 have hus:=rv.zero
 subst hus
 obtain⟨z,its,n,r,hl,e⟩:=I.lstM hH
 refine call_meets F.slot_list_clear ⟨_,e,rfl⟩ F.entry_list_clear (F.args_list_clear_1 _) (AutoSeq1.list_clear_list_0 l its.toArray n (by rw[xQ];lia)) ⟨e,?_⟩
 exact⟨.non,_,I.lset (its':=[]) (ys:=[]) hH e rfl .nil (yJ _),rfl,q⟩
def Zkb:R2:=fun x y H Q=>∃l b xs zs,x = .ref l/\y = .ref b/\H l=some (.lst xs)/\H b=some (.lst zs)/\xs.length+zs.length<=sizeLine/\∀p,H p=none->Q (.ref p) (upd H p (.lst (xs++zs)))
theorem Zy3:OpR X (binaryOp .Add) Zkb:=by
 intro pins s σ H x y v u Q I rx ry h
 obtain⟨l,b,xs,zs,rfl,rfl,hH,hB,hz,q⟩:=h
 cases rx
 cases ry
 obtain⟨z,its,n,r,hl,e⟩:=I.lstM hH
 obtain⟨z2,its2,n2,r2,hl2,e2⟩:=I.lstM hB
 refine PySem.P.add_list e e2 ?_ (by rw[xQ,xQ];lia)
 have ea:its.toArray++its2.toArray=(its++its2).toArray:=by simp
 rw[ea]
 exact⟨.ref _,_,I.lnew (t':=s.toks) (r.append r2) (by rw[xN];lia),rfl,q _ I.fresh⟩
def Zqm:R2:=fun x y H Q=>∃l k xs,x = .ref l/\y = .int k/\H l=some (.lst xs)/\ -(2 ^ 63)<=k/\k < 2 ^ 63/\xs.length * k.toNat<=sizeLine /\
 ∀p,H p=none->Q (.ref p) (upd H p (.lst (List.replicate k.toNat xs).flatten))
theorem Zwy{α:Type}(xs:List α)(k:Nat):(List.replicate k xs).flatten.length=k * xs.length:=by
 induction k with
 | zero=>simp
 | succ k ih=>rw[yR,zP,xN,ih,Nat.succ_mul,Nat.add_comm]
theorem Zy4:OpR X (binaryOp .Mult) Zqm:=by
 intro pins s σ H x y v u Q I rx ry h
 obtain⟨l,k,xs,rfl,rfl,hH,h1,h2,hz,q⟩:=h
 cases rx
 obtain⟨t,rfl⟩:=ry
 obtain⟨z,its,n,r,hl,e⟩:=I.lstM hH
 have hlen:its.toArray.size * k.toNat<=sizeLine:=by rw[xQ,← hl];exact hz
 have hcap:¬its.toArray.size * k.toNat > (2 ^ 63 - 1) / 8:=by
  have:(sizeLine:Nat)<=(2 ^ 63 - 1) / 8:=by decide
  lia
 have hfit:¬(!Builtin.List.listFitsIndex k)=true:=by
  rw[fitsIndex_both h1 h2]
  exact xH
 have hlong:¬Builtin.List.listTooLong (its.toArray.size * k.toNat)=true:=by
  rw[Zur hlen]
  exact xH
 have hnew:List.foldl (fun x1 x2=>x1++x2) #[] (List.replicate (if its.toArray.isEmpty=true then 0 else k.toNat) its.toArray)=(List.replicate k.toNat its).flatten.toArray:=by
  have f0:∀m:Nat,List.foldl (fun x1 x2=>x1++x2) #[] (List.replicate m its.toArray)=(List.replicate m its).flatten.toArray:=fun m=>by
   have:=Zlm its m []
   rw[yV] at this
   exact this
  rw[f0]
  cases its with
  | nil=>simp
  | cons a r'=>rw[if_neg (by simp)]
 refine wpAny_binaryOp_repeat_ref (T:="list") (U:="int") (by decide) ⟨_,e,rfl⟩ (fun s'=>typeIs_int s' k t) noFill_list_mul F.fills_int_mul F.slot_int_rmul repeat_list F.slot_int_index.lookup
  (call_meets F.slot_int_rmul (typeIs_int s k t) F.entry_int_rmul (F.args_int_rmul_2 _ _) (int___rmul___int_list k t l its.toArray n)
   ⟨e,rfl,⟨_,e,rfl⟩,call_meets F.slot_list_mul ⟨_,e,rfl⟩ F.entry_list_mul (F.args_list_mul_2 _ _) (AutoListH.list___mul___list_int_3 l its.toArray n k t hfit hcap hlong) ⟨e,?_⟩⟩)
 rw[hnew]
 exact⟨.ref _,_,I.lnew (t':=s.toks) (r.rep k.toNat) (by rw[Zwy,Nat.mul_comm];exact hz),rfl,q _ I.fresh⟩
end
section
variable{prog:Program}{w:World}{A:Around}{E:Value->Shared->Prop}{s:Shared}
set_option maxRecDepth 100000 in
end
section
variable{X:Cx}
end
end L2
namespace L2
open PySem PySem.Spec PyProof.Rows
section
variable{κ:Type} [DecidableEq κ]
def Zx(kvs:List (κ×V))(k : κ):Option V:=(kvs.find? fun kv=>decide (kv.1=k)).map (·.2)
def Z0(kvs:List (κ×V))(k : κ)(v:V):List (κ×V) :=
 if (kvs.any fun kv=>decide (kv.1=k))=true then kvs.map (fun kv=>if kv.1=k then (kv.1,v) else kv) else kvs ++ [(k,v)]
theorem V8{p : κ×V}{r:List (κ×V)}{k : κ}(e:p.1=k):Zx (p::r) k=some p.2:=by simp[Zx,zK,e]
theorem Ud{p : κ×V}{r:List (κ×V)}{k : κ}(e:¬p.1=k):Zx (p::r) k=Zx r k:=by simp[Zx,zK,e]
theorem Zcy(k : κ):∀kvs:List (κ×V),(kvs.any fun kv=>decide (kv.1=k))=(Zx kvs k).isSome
 | []=>rfl
 | p::r=>by
  rw[List.any_cons]
  by_cases e:p.1=k
  ·simp only[V8 e,yL e,Bool.true_or,Option.isSome_some]
  ·rw[Ud e,yI e,Bool.false_or];exact Zcy k r
theorem Zl3(k j : κ)(y:V):∀kvs:List (κ×V),Zx (kvs.map fun kv=>if kv.1=k then (kv.1,y) else kv) j=(Zx kvs j).map fun x=>if j=k then y else x
 | []=>rfl
 | p::r=>by
  have ih:=Zl3 k j y r
  rw[yE]
  by_cases h:p.1=k
  ·rw[if_pos h]
   by_cases e:p.1=j
   ·rw[V8 (p:=(p.1,y)) e,V8 e,zS,if_pos (e.symm.trans h)]
   ·rw[Ud (p:=(p.1,y)) e,Ud e,ih]
  ·rw[if_neg h]
   by_cases e:p.1=j
   ·rw[V8 (p:=p) e,V8 e,zS,if_neg (fun z=>h (e.trans z))]
   ·rw[Ud (p:=p) e,Ud e,ih]
theorem Zln(k j : κ)(y:V):∀kvs:List (κ×V),Zx kvs k=none->Zx (kvs ++ [(k,y)]) j=if j=k then some y else Zx kvs j
 | [],_=>by
  by_cases e:k=j
  ·rw[if_pos e.symm];exact V8 (p:=(k,y)) e
  ·rw[if_neg (fun z=>e z.symm)];exact Ud (p:=(k,y)) e
 | p::r,hn=>by
  rw[xY]
  have hk:¬p.1=k:=fun z=>by rw[V8 z] at hn;cases hn
  rw[Ud hk] at hn
  have ih:=Zln k j y r hn
  by_cases e:p.1=j
  ·rw[V8 e,V8 e,if_neg (fun z=>hk (e.trans z))]
  ·rw[Ud e,Ud e,ih]
theorem Ue(kvs:List (κ×V))(k j : κ)(y:V):Zx (Z0 kvs k y) j=if j=k then some y else Zx kvs j:=by
 unfold Z0
 by_cases a:(kvs.any fun kv=>decide (kv.1=k))=true
 ·rw[if_pos a,Zl3]
  rw[Zcy] at a
  by_cases e:j=k
  ·obtain⟨x,hx⟩:=Option.isSome_iff_exists.mp a
   rw[if_pos e,e,hx,zS,if_pos rfl]
  ·rw[if_neg e]
   cases Zx kvs j with
   | none=>rfl
   | some x=>rw[zS,if_neg e]
 ·rw[if_neg a]
  refine Zln k j y kvs ?_
  rw[Zcy] at a
  cases q:Zx kvs k with
  | none=>rfl
  | some x=>rw[q] at a;exact(a rfl).elim
theorem Vv(kvs:List (κ×V))(k : κ)(v:V):(Z0 kvs k v).length<=kvs.length+1:=by
 unfold Z0
 split
 ·rw[xB];lia
 ·rw[xN,xU,List.length_nil];lia
theorem Zut{kvs:List (κ×V)}{k : κ}(v:V)(h:Zx kvs k=none):Z0 kvs k v=kvs ++ [(k,v)]:=by
 unfold Z0
 rw[Zcy,h]
 exact if_neg (by decide)
theorem RelO.isSome_eq{o:Option V}{u:Option Value}(r:RelO o u):o.isSome=u.isSome:=by
 cases o with
 | none=>cases u with
  | none=>rfl
  | some _=>exact(show False from r).elim
 | some _=>cases u with
  | none=>exact(show False from r).elim
  | some _=>rfl
theorem RelO.getD{o:Option V}{u:Option Value}{d:V}{d':Value}(r:RelO o u)(rd:RelV d d'):RelV (o.getD d) (u.getD d'):=by
 cases o with
 | none=>cases u with
  | none=>exact rd
  | some _=>exact(show False from r).elim
 | some _=>cases u with
  | none=>exact(show False from r).elim
  | some _=>exact r
theorem KV.val{kvs:List (κ×V)}{vs:List (κ×Value)}(r:KV kvs vs)(k : κ):RelO (Zx kvs k) (valueAt vs k):=by
 unfold KV at r
 induction r with
 | nil=>exact True.intro
 | @cons p q ps qs h t ih =>
  obtain⟨h1,h2⟩:=h
  by_cases e:p.1=k
  ·have e':q.1=k:=h1.symm.trans e
   have b:valueAt (q::qs) k=some q.2:=by simp[valueAt,zK,e']
   rw[V8 e,b];exact h2
  ·have e':¬q.1=k:=fun z=>e (h1.trans z)
   have b:valueAt (q::qs) k=valueAt qs k:=by simp[valueAt,zK,e']
   rw[Ud e,b];exact ih
theorem KV.any{kvs:List (κ×V)}{vs:List (κ×Value)}(r:KV kvs vs)(k : κ):(kvs.any fun kv=>decide (kv.1=k))=vs.any fun kv=>decide (kv.1=k):=by
 unfold KV at r
 induction r with
 | nil=>rfl
 | cons h t ih=>rw[List.any_cons,List.any_cons,ih,h.1]
theorem KV.repl{kvs:List (κ×V)}{vs:List (κ×Value)}(r:KV kvs vs)(k : κ){y:V}{u:Value}(ry:RelV y u) :
  KV (kvs.map fun kv=>if kv.1=k then (kv.1,y) else kv) (vs.map fun kv=>if kv.1=k then (kv.1,u) else kv):=by
 unfold KV at r ⊢
 induction r with
 | nil=>exact .nil
 | @cons p q ps qs h t ih =>
  rw[yE,yE]
  refine .cons ?_ ih
  obtain⟨h1,h2⟩:=h
  by_cases e:p.1=k
  ·rw[if_pos e,if_pos (h1.symm.trans e)];exact⟨h1,ry⟩
  ·rw[if_neg e,if_neg (fun z=>e (h1.trans z))];exact⟨h1,h2⟩
theorem KV.put{kvs:List (κ×V)}{vs:List (κ×Value)}(r:KV kvs vs)(k : κ){y:V}{u:Value}(ry:RelV y u):KV (Z0 kvs k y) (stored vs k u):=by
 unfold Z0 stored
 rw[r.any k]
 by_cases e:(vs.any fun kv=>decide (kv.1=k))=true
 ·rw[if_pos e,if_pos e];exact r.repl k ry
 ·rw[if_neg e,if_neg e];exact Paired.snoc r ⟨rfl,ry⟩
theorem KV.length{kvs:List (κ×V)}{vs:List (κ×Value)}(r:KV kvs vs):kvs.length=vs.length:=Paired.length r
end
theorem Za6{P:Program}{w:World}{k:Key}{u:Value}(r:RelV (kV k) u):(Y8 P w).is k u=true:=by
 cases k with
 | inl i=>obtain⟨t,e⟩:=(show ∃t,u=Value.int i t from r);subst e;exact Zry P w i t
 | inr x=>obtain⟨t,e⟩:=(show ∃t,u=Value.str x t from r);subst e;exact Zrz P w x t
theorem Zlo{P:Program}{w:World}:∀{ks:List Key}{us:List Value},Vals (ks.map kV) us->ItemsAre (Y8 P w) ks us
 | [],_,r=>by rw[List.map_nil] at r;cases r;exact .nil
 | k::ks,_,r=>by
  rw[yE] at r
  cases r with
  | cons h t=>exact .cons (Za6 h) (Zlo t)
abbrev KT(H:Hp):List (List Key×V)->List (List Key×Addr×Value)->Prop:=Paired fun p q=>p.1=q.1/\H q.2.1=some (.tup (p.1.map kV))/\RelV p.2 q.2.2
theorem KT.val{H:Hp}{kvs:List (List Key×V)}{xs:List (List Key×Addr×Value)}(r:KT H kvs xs)(k:List Key):RelO (Zx kvs k) ((atKey xs k).map (·.2)):=by
 induction r with
 | nil=>exact True.intro
 | @cons p q ps qs h t ih =>
  obtain⟨h1,_,h2⟩:=h
  by_cases e:p.1=k
  ·have e':q.1=k:=h1.symm.trans e
   have b:atKey (q::qs) k=some q.2:=by simp[atKey,zK,e']
   rw[V8 e,b];exact h2
  ·have e':¬q.1=k:=fun z=>e (h1.trans z)
   have b:atKey (q::qs) k=atKey qs k:=by simp[atKey,zK,e']
   rw[Ud e,b];exact ih
theorem KT.repl{H:Hp}{kvs:List (List Key×V)}{xs:List (List Key×Addr×Value)}(r:KT H kvs xs)(k:List Key){y:V}{u:Value}(ry:RelV y u) :
  KT H (kvs.map fun kv=>if kv.1=k then (kv.1,y) else kv) (xs.map (putAt k u)):=by
 induction r with
 | nil=>exact .nil
 | @cons p q ps qs h t ih =>
  rw[yE,yE]
  refine .cons ?_ ih
  obtain⟨h1,h2,h3⟩:=h
  unfold putAt
  by_cases e:p.1=k
  ·rw[if_pos e,if_pos (h1.symm.trans e)];exact⟨h1,h2,ry⟩
  ·rw[if_neg e,if_neg (fun z=>e (h1.trans z))];exact⟨h1,h2,h3⟩
theorem KT.put{H:Hp}{kvs:List (List Key×V)}{xs:List (List Key×Addr×Value)}(r:KT H kvs xs)(k:List Key){b:Addr}{y:V}{u:Value}(hb:H b=some (.tup (k.map kV)))(ry:RelV y u) :
  KT H (Z0 kvs k y) (storedH xs k b u):=by
 have e:(kvs.any fun kv=>decide (kv.1=k))=(atKey xs k).isSome:=by
  rw[Zcy,(r.val k).isSome_eq,Option.isSome_map]
 unfold Z0 storedH
 rw[e]
 by_cases q:(atKey xs k).isSome=true
 ·rw[if_pos q,if_pos q];exact r.repl k ry
 ·rw[if_neg q,if_neg q];exact Paired.snoc r ⟨rfl,hb,ry⟩
theorem KT.keeps{H H':Hp}{kvs:List (List Key×V)}{xs:List (List Key×Addr×Value)}(r:KT H kvs xs)(ht:∀b ys,H b=some (.tup ys)->H' b=some (.tup ys)):KT H' kvs xs :=
 Paired.mapP r fun _ _ z=>⟨z.1,ht _ _ z.2.1,z.2.2⟩
section
variable{P:Program}{w:World}{H:Hp}{h:Heap}{a:Addr}
theorem Zo4{u:HO}(ok:HOk P w H h)(e:Rd H a u):ObjOk P w H h a u:=e.ok ok
theorem Zan{kvs:List (Key×V)}(ok:HOk P w H h)(e:Rd H a (.dK kvs)):kvs.length<=sizeLine/\(a == sysModules)=false/\∃vs,KV kvs vs/\h.DictOf (Y8 P w) a vs :=
 show ObjOk P w H h a (.dK kvs) from Zo4 ok e
theorem Zo5{kvs:List (Key×V)}(ok:HOk P w H h)(e:H a=some (.dK kvs)):kvs.length<=sizeLine/\(a == sysModules)=false/\∃vs,KV kvs vs/\h.DictOf (Y8 P w) a vs:=Zan ok (.inl e)
theorem Za7{ks:List Key}(ok:HOk P w H h)(e:H a=some (.tup (ks.map kV))):(tupleKind (Y8 P w)).is h ks a:=by
 obtain⟨_,its,r,o,h1,h2,n,h3⟩:=(show ObjOk P w H h a (.tup (ks.map kV)) from ok a _ e)
 exact⟨o,its.toArray,n,h1,h2,h3,by simpa using Zlo r⟩
theorem Za8{kvs:List (List Key×V)}(ok:HOk P w H h)(e:Rd H a (.dT kvs)):kvs.length<=sizeLine/\(a == sysModules)=false /\
  ∃xs,KT H kvs xs/\h.DictOfH (tupleKind (Y8 P w)) a xs:=by
 obtain⟨z,y,xs,r,o,es,ep,h1,h2,h3,h4,h5⟩:=(show ObjOk P w H h a (.dT kvs) from Zo4 ok e)
 refine⟨z,y,xs,r,o,es,ep,h1,h2,h3,h4,fun x hx=>?_,h5⟩
 have all:∀{l:List (List Key×V)}{m:List (List Key×Addr×Value)},KT H l m->∀x∈m,(tupleKind (Y8 P w)).is h x.1 x.2.1:=by
  intro l m q
  induction q with
  | nil=>intro x hx;exact nomatch hx
  | @cons p q ps qs hq t ih =>
   intro x hx
   rcases xD.mp hx with e | hx
   ·subst e
    exact Za7 ok (by rw[← hq.1];exact hq.2.1)
   ·exact ih x hx
 exact all r x hx
theorem Zo6{kvs:List (List Key×V)}(ok:HOk P w H h)(e:H a=some (.dT kvs)):kvs.length<=sizeLine/\(a == sysModules)=false /\
  ∃xs,KT H kvs xs/\h.DictOfH (tupleKind (Y8 P w)) a xs:=Za8 ok (.inl e)
end
def DGet(H:Hp)(a:Addr)(y:V)(r:Option V):Prop :=
 (∃kvs k,Rd H a (.dK kvs)/\y=kV k/\r=Zx kvs k)\/∃kvs k b,Rd H a (.dT kvs)/\y = .ref b/\H b=some (.tup (k.map kV))/\r=Zx kvs k
def DPut(H:Hp)(a:Addr)(y v:V)(H':Hp):Prop :=
 (∃kvs k,H a=some (.dK kvs)/\y=kV k/\kvs.length < sizeLine/\H'=upd H a (.dK (Z0 kvs k v)))\/
 ∃kvs k b,H a=some (.dT kvs)/\y = .ref b/\H b=some (.tup (k.map kV))/\kvs.length < sizeLine/\H'=upd H a (.dT (Z0 kvs k v))
theorem DGet.k{H:Hp}{a:Addr}{kvs:List (Key×V)}{k:Key}(e:H a=some (.dK kvs)):DGet H a (kV k) (Zx kvs k):=.inl ⟨kvs,k,.inl e,rfl,rfl⟩
theorem DGet.t{H:Hp}{a b:Addr}{kvs:List (List Key×V)}{k:List Key}(e:H a=some (.dT kvs))(eb:H b=some (.tup (k.map kV))):DGet H a (.ref b) (Zx kvs k):=.inr ⟨kvs,k,b,.inl e,rfl,eb,rfl⟩
theorem DPut.k{H:Hp}{a:Addr}{kvs:List (Key×V)}{k:Key}{v:V}(e:H a=some (.dK kvs))(hl:kvs.length < sizeLine):DPut H a (kV k) v (upd H a (.dK (Z0 kvs k v))):=.inl ⟨kvs,k,e,rfl,hl,rfl⟩
theorem DPut.t{H:Hp}{a b:Addr}{kvs:List (List Key×V)}{k:List Key}{v:V}(e:H a=some (.dT kvs))(eb:H b=some (.tup (k.map kV)))(hl:kvs.length < sizeLine) :
  DPut H a (.ref b) v (upd H a (.dT (Z0 kvs k v))):=.inr ⟨kvs,k,b,e,rfl,eb,hl,rfl⟩
section
variable{X:Cx}{pins:List (Addr×Obj)}{σ:St}{H:Hp}{s:Shared}{a:Addr}{y v:V}{u r:Value}{o:Option V}{A:Around}{E:Value->Shared->Prop}
theorem Inv.big(I:Inv X pins σ H s):sysModules < s.heap.objs.size:=by
 have h:mainGlobals < s.heap.objs.size:=(I.mod.glob.keeps I.bk).lt
 exact Nat.lt_trans (by decide) h
theorem Zs7{Q:Value->Shared->Prop}(hu:A.units+1 < cLine)(I:Inv X pins σ H s)(g:DGet H a y (some v))(ry:RelV y u)(h:∀w' s',Inv X pins σ H s'->RelV v w'->Q w' s') :
  wpAny (model X.prog X.w) A (getItem (.ref a) u) Q E s:=by
 rcases g with⟨kvs,k,e,ey,l⟩ | ⟨kvs,k,b,e,ey,eb,l⟩
 ·subst ey
  obtain⟨z,hd,vs,rel,dd⟩:=Zan I.hok e
  obtain⟨w',hw,rw'⟩:=RelO.some_of (v:=v) (o:=valueAt vs k) (by rw[l];exact rel.val k)
  exact wpAny_getItem_of (Za6 ry) dd.mapOf hw (h w' _ (I.tok _) rw')
 ·subst ey
  cases (show u=Value.ref b from ry)
  obtain⟨z,hd,xs,rel,dd⟩:=Za8 I.hok e
  obtain⟨w',hw,rw'⟩:=RelO.some_of (v:=v) (o:=(atKey xs k).map (·.2)) (by rw[l];exact rel.val k)
  obtain⟨p,hp,hp2⟩:=xZ.mp hw
  refine wpAny_getItem_heap (tupleKind_room_in1 hu) (Za7 I.hok eb) dd hp ?_
  rw[hp2]
  exact h w' _ (I.tok _) rw'
theorem Z4h{Q:Value->Shared->Prop}(hu:A.units+1 < cLine)(I:Inv X pins σ H s)(g:DGet H a y o)(ry:RelV y u)(h:∀s',Inv X pins σ H s'->Q (.bool o.isSome) s') :
  wpAny (model X.prog X.w) A (compareOp .In u (.ref a)) Q E s:=by
 rcases g with⟨kvs,k,e,ey,l⟩ | ⟨kvs,k,b,e,ey,eb,l⟩
 ·subst ey
  obtain⟨z,hd,vs,rel,dd⟩:=Zan I.hok e
  refine wpAny_in_of (Za6 ry) hd dd.mapOf ?_
  rw[← (rel.val k).isSome_eq,← l]
  exact h _ (I.tok _)
 ·subst ey
  cases (show u=Value.ref b from ry)
  obtain⟨z,hd,xs,rel,dd⟩:=Za8 I.hok e
  refine wpAny_in_heap (tupleKind_room_in1 hu) (Za7 I.hok eb) hd dd ?_
  have q:=(rel.val k).isSome_eq
  rw[Option.isSome_map] at q
  rw[← q,← l]
  exact h _ (I.tok _)
theorem Zwz{Q:Value->Shared->Prop}(hu:A.units+1 < cLine)(I:Inv X pins σ H s)(g:DGet H a y o)(ry:RelV y u)(h:∀s',Inv X pins σ H s'->Q (.bool (!o.isSome)) s') :
  wpAny (model X.prog X.w) A (compareOp .NotIn u (.ref a)) Q E s:=by
 rcases g with⟨kvs,k,e,ey,l⟩ | ⟨kvs,k,b,e,ey,eb,l⟩
 ·subst ey
  obtain⟨z,hd,vs,rel,dd⟩:=Zan I.hok e
  refine wpAny_notIn_of (Za6 ry) hd dd.mapOf ?_
  rw[← (rel.val k).isSome_eq,← l]
  exact h _ (I.tok _)
 ·subst ey
  cases (show u=Value.ref b from ry)
  obtain⟨z,hd,xs,rel,dd⟩:=Za8 I.hok e
  refine wpAny_notIn_heap (tupleKind_room_in1 hu) (Za7 I.hok eb) hd dd ?_
  have q:=(rel.val k).isSome_eq
  rw[Option.isSome_map] at q
  rw[← q,← l]
  exact h _ (I.tok _)
theorem Zd2{h':Heap}{t':Nat}{ob:HO}(I:Inv X pins σ H s)(mu:Mut (H a))(hs:Heap.SameBut a s.heap h')(he:∃q,h'.get? a=some q)(new:ObjOk X.prog X.w (upd H a ob) h' a ob) :
  Inv X pins σ (upd H a ob) {s with heap:=h',toks:=t' } :=
 I.write (x:=a) (e:=a) mu (.inl rfl) (fun b q hb z=>(hs.2 b hb).trans z) he new
theorem Znw{P:Program}{w:World}{H':Hp}{h':Heap}{kvs:List (Key×V)}{vs:List (Key×Value)}(z:kvs.length<=sizeLine)(hd:(a == sysModules)=false)(rel:KV kvs vs)(dd:h'.DictOf (Y8 P w) a vs) :
  ObjOk P w H' h' a (.dK kvs):=⟨z,hd,vs,rel,dd⟩
theorem Zs8{H':Hp}{Q:Unit->Shared->Prop}(hu:A.units+1 < cLine)(I:Inv X pins σ H s)(g:DPut H a y v H')(ry:RelV y u)(rv:RelV v r)(h:∀s',Inv X pins σ H' s'->Q () s') :
  wpAny (model X.prog X.w) A (setItem (.ref a) u r) Q E s:=by
 rcases g with⟨kvs,k,e,ey,l,eH⟩ | ⟨kvs,k,b,e,ey,eb,l,eH⟩
 ·subst ey eH
  obtain⟨z,hd,vs,rel,dd⟩:=Zo5 I.hok e
  have hz:vs.length<=sizeLine:=by rw[← rel.length];exact z
  have hl:(Z0 kvs k v).length<=sizeLine:=by have:=Vv kvs k v;lia
  refine wpAny_setItem_pairs (hsz:=hz) (Za6 ry) dd fun h' dd' hs=>h _ ?_
  have he:∃q,h'.get? a=some q:=let ⟨q,_,_,hq,_⟩:=dd';⟨q,hq⟩
  exact Zd2 I (by rw[e];exact True.intro) hs he (Znw hl hd (rel.put k rv) dd')
 ·subst ey eH
  cases (show u=Value.ref b from ry)
  obtain⟨z,hd,xs,rel,dd⟩:=Zo6 I.hok e
  have hz:xs.length<=sizeLine:=by rw[← Paired.length rel];exact z
  have hl:(Z0 kvs k v).length<=sizeLine:=by have:=Vv kvs k v;lia
  refine wpAny_setItem_heap (hsz:=hz) (tupleKind_room_in1 hu) (Za7 I.hok eb) dd fun h' dd' hs=>h _ ?_
  obtain⟨q,es,ep,hq,h2,h3,h4,_,h5⟩:=dd'
  refine Zd2 I (by rw[e];exact True.intro) hs ⟨q,hq⟩ ⟨hl,hd,_,(rel.put k eb rv).keeps fun c ys ec=>?_,q,es,ep,hq,h2,h3,h4,h5⟩
  rw[Zc (Zov ec e (fun z=>nomatch z))]
  exact ec
end
section
variable{X:Cx}{pins:List (Addr×Obj)}{σ:St}{H:Hp}{s:Shared}{a:Addr}{kvs:List (Key×V)}{k:Key}{u:Value}{A:Around}{E:Value->Shared->Prop}
theorem Z0c{Q:Value->Shared->Prop}(I:Inv X pins σ H s)(e:Rd H a (.dK kvs))(h:∀t s',Inv X pins σ H s'->Q (.int kvs.length t) s'):wpAny (model X.prog X.w) A (call (.builtin "len") [.ref a]) Q E s:=by
 obtain⟨z,hd,vs,rel,dd⟩:=Zan I.hok e
 refine call_len_dict hd dd (by rw[← rel.length];rw[sizeLine_eq] at z;lia) ?_
 rw[← rel.length]
 exact h _ _ (I.tok _)
end
def Zkc(i:Expr):Prop:=∀ov iv,subscripted i false ov iv=operate [ov,iv] (getItem ov iv)
theorem Zw0{prog:Program}{w:World}{A:Around}{E:Value->Shared->Prop}{s:Shared}{env:Env}{value slice:Expr}{pos:Pos}{T id:String}{Q:Value->Shared->Prop}(hl:typeLookup (.type T) "__getitem__" = pure (some (.builtin id)))(hs:Zkc slice)(h:wpAny (model prog w) A (eval value env) (fun o s₁=>wpAny (model prog w) A (eval slice env) (fun i s₂=>s₂.TypeIs o T/\wpAny (model prog w) A (getItem o i) Q E s₂) E s₁) E s) :
  wpAny (model prog w) A (eval (.Subscript value slice pos) env) Q E s:=by
 refine Subscript_ (wpAny_mono h (fun o s₁ h₁=>wpAny_mono h₁ (fun i s₂ h₂=>?_) fun _ _ x=>x) fun _ _ x=>x)
 obtain⟨hT,h₂⟩:=h₂
 unfold subscriptTail
 refine wpAny_bind ?_
 rw[getitemInPython_of_ne hT.not_modules]
 refine wpAny_bind (wpAny_specialOf hT hl ?_)
 have fin:wpAny (model prog w) A (subscripted slice false o i) (fun r s₃=>wpAny (model prog w) A (letTemporaryGo value o r >>= fun _=>pure r) Q E s₃) E s₂:=by
  rw[hs o i]
  exact wpAny_operating (wpAny_mono h₂ (fun r s₃ h₃=>wpAny_bind (wpAny_letTemporaryGo (wpAny_pure h₃))) fun _ _ x=>x)
 first
  | exact wpAny_pure (wpAny_bind fin)
  | exact wpAny_bind (wpAny_pure (wpAny_bind fin))
  | exact wpAny_bind fin
theorem Zr1{X:Cx}{pins:List (Addr×Obj)}{σ:St}{H:Hp}{s:Shared}{a:Addr}{y:V}{o:Option V}(I:Inv X pins σ H s)(g:DGet H a y o):s.TypeIs (.ref a) "dict" := by
 rcases g with⟨kvs,k,e,_,_⟩ | ⟨kvs,k,b,e,_,_,_⟩
 ·obtain⟨_,_,vs,_,dd⟩:=Zan I.hok e
  exact dd.typeIs
 ·obtain⟨_,_,xs,_,dd⟩:=Za8 I.hok e
  exact dd.typeIs
def Zo7(td ty:TE):TE:=fun σ H Q=>td σ H fun x H1=>ty σ H1 fun y H2=>∃a v,x = .ref a/\DGet H2 a y (some v)/\Q v H2
def Zo8(td ty tv:TE):TS:=fun D σ H=>tv σ H fun v H1=>td σ H1 fun x H2=>ty σ H2 fun y H3=>∃a H4,x = .ref a/\DPut H3 a y v H4/\D.nx σ H4
section
variable{X:Cx}{o i e value:Expr}{pos pos' tpos:Pos}{td ty tv:TE}
theorem Zw1(hu:X.A.units+1 < cLine)(ho:PE X o td)(hi:PE X i ty)(hs:Zkc i):PE X (.Subscript o i pos) (Zo7 td ty):=by
 intro pins s σ H Q I h
 refine Zw0 PySem.F.slot_dict_getitem.lookup hs (thn (ho pins s σ H _ I h) fun u s1 ⟨x,H1,I1,rx,q1⟩=>thn (hi pins s1 σ H1 _ I1 q1) fun iv s2 ⟨y,H2,I2,ry,a,v,ex,g,q2⟩=>?_)
 subst ex
 obtain rfl:u=Value.ref a:=rx
 exact⟨Zr1 I2 g,Zs7 hu I2 g ry fun w' s3 I3 rw'=>⟨v,H2,I3,rw',q2⟩⟩
theorem Zw2(hu:X.A.units+1 < cLine)(ho:PE X o td)(hi:PE X i ty)(hv:PE X value tv)(hs:swapsWith value (some (.Subscript o i pos')) pos.line X.env=pure false) :
  PS X (.Assign [.Subscript o i pos'] value pos) (Zo8 td ty tv):=by
 intro pins s σ H D I h
 refine wpAny_Assign_Subscript (thn (hv pins s σ H _ I h) fun r s1 ⟨v,H1,I1,rv,q1⟩=>thn (ho pins s1 σ H1 _ I1 q1) fun u s2 ⟨x,H2,I2,rx,q2⟩=>thn (hi pins s2 σ H2 _ I2 q2) fun iv s3 ⟨y,H3,I3,ry,a,H4,ex,g,q3⟩=>?_) hs
 subst ex
 obtain rfl:u=Value.ref a:=rx
 exact Zs8 hu I3 g ry rv fun s4 I4=>⟨σ,H4,I4,q3⟩
end
theorem Zl4{P:Program}{w:World}{H:Hp}(h:Heap)(hb:sysModules < h.objs.size):ObjOk P w H (h.push {cls:=.type "dict", data:=.dict #[] }) h.objs.size (.dK []) :=
 ⟨yJ _,beq_eq_false_iff_ne.mpr (Ne.symm (yD hb)),[],.nil,Heap.DictOf.new h⟩
theorem Zuu{P:Program}{w:World}{H:Hp}(h:Heap)(hb:sysModules < h.objs.size):ObjOk P w H (h.push {cls:=.type "dict", data:=.dict #[] }) h.objs.size (.dT []) :=
 ⟨yJ _,beq_eq_false_iff_ne.mpr (Ne.symm (yD hb)),[],.nil,_,#[],0,xP _ rfl,⟨rfl,rfl,rfl⟩,rfl,rfl,List.nodup_nil⟩
def Znx:TE:=fun _ H Q=>∀p,H p=none->Q (.ref p) (upd H p (.dK []))
def Zny:TE:=fun _ H Q=>∀p,H p=none->Q (.ref p) (upd H p (.dT []))
section
variable{X:Cx}{pos:Pos}
theorem Zuv:PE X (.Dict [] [] pos) Znx:=fun pins s σ H Q I h =>
 wpAny_Dict_empty ⟨.ref s.heap.objs.size,_,I.laid (a:=s.heap.objs.size) (o:=.dK []) (t':=s.toks) (fun _ _ q=>xA _ q) (xE _) (Zl4 s.heap I.big),rfl,h _ (I.hok.fresh (xE _))⟩
theorem Zuw:PE X (.Dict [] [] pos) Zny:=fun pins s σ H Q I h =>
 wpAny_Dict_empty ⟨.ref s.heap.objs.size,_,I.laid (a:=s.heap.objs.size) (o:=.dT []) (t':=s.toks) (fun _ _ q=>xA _ q) (xE _) (Zuu s.heap I.big),rfl,h _ (I.hok.fresh (xE _))⟩
end
def Zgj:List (TE×TE)->St->Hp->(List (V×V)->Hp->Prop)->Prop
 | [],_,H,Q=>Q [] H
 | (tk,tv)::r,σ,H,Q=>tk σ H fun x H1=>tv σ H1 fun y H2=>Zgj r σ H2 fun ps H3=>Q ((x,y)::ps) H3
abbrev VV:List (V×V)->List (Value×Value)->Prop:=Paired fun p q=>RelV p.1 q.1/\RelV p.2 q.2
def PPs(X:Cx)(pos:Pos)(keys:List (Option Expr))(values:List Expr)(trs:List (TE×TE)):Prop :=
 ∀(pins:List (Addr×Obj))(s:Shared)(σ:St)(H:Hp)(Q:List (V×V)->Hp->Prop),Inv X pins σ H s->Zgj trs σ H Q ->
  wpAny (model X.prog X.w) X.A (evalPairs (pairTrees keys values X.env pos)) (fun vs s'=>∃ps H',Inv X pins σ H' s'/\VV ps vs/\Q ps H') X.xe s
theorem Zw3{X:Cx}{pos:Pos}:PPs X pos [] [] []:=fun pins s σ H Q I h=>pairTrees_nil_walk ⟨[],H,I,.nil,h⟩
theorem Zux{X:Cx}{pos:Pos}{k v:Expr}{ks:List (Option Expr)}{vs:List Expr}{tk tv:TE}{trs:List (TE×TE)}(hk:PE X k tk)(hv:PE X v tv)(hr:PPs X pos ks vs trs) :
  PPs X pos (some k::ks) (v::vs) ((tk,tv)::trs):=fun pins s σ H Q I h =>
 pairTrees_cons_walk (thn (hk pins s σ H _ I h) fun u s1 ⟨x,H1,I1,rx,q1⟩=>thn (hv pins s1 σ H1 _ I1 q1) fun w2 s2 ⟨y,H2,I2,ry,q2⟩=>
  thn (hr pins s2 σ H2 _ I2 q2) fun ws s3 ⟨ps,H3,I3,rel,q3⟩=>⟨(x,y)::ps,H3,I3,.cons ⟨rx,ry⟩ rel,q3⟩)
def Zao(kvs more:List (Key×V)):List (Key×V):=more.foldl (fun acc kv=>Z0 acc kv.1 kv.2) kvs
theorem KV.merge:∀{more:List (Key×V)}{rs:List (Key×Value)}{kvs:List (Key×V)}{vs:List (Key×Value)},KV more rs->KV kvs vs->KV (Zao kvs more) (merged vs rs):=by
 intro more rs kvs vs r
 unfold KV at r
 induction r generalizing kvs vs with
 | nil=>intro q;exact q
 | @cons p q ps qs h t ih =>
  intro r0
  have e:KV (Z0 kvs p.1 p.2) (stored vs q.1 q.2):=by
   have:=r0.put p.1 h.2
   rw[← h.1];exact this
  exact ih e
theorem Zkq:∀(more kvs:List (Key×V)),(Zao kvs more).length<=kvs.length+more.length
 | [],kvs=>by show kvs.length<=kvs.length+0;lia
 | p::r,kvs=>by
  have h1:=Zkq r (Z0 kvs p.1 p.2)
  have h2:=Vv kvs p.1 p.2
  show (Zao (Z0 kvs p.1 p.2) r).length<=_
  rw[xU];lia
theorem Zk0{P:Program}{w:World}:∀{kvs:List (Key×V)}{ws:List (Value×Value)},VV (kvs.map fun kv=>(kV kv.1,kv.2)) ws->∃rs,Carries (Y8 P w) ws rs/\KV kvs rs
 | [],_,r=>by rw[List.map_nil] at r;cases r;exact⟨[],True.intro,.nil⟩
 | p::kvs,_,r=>by
  rw[yE] at r
  cases r with
  | @cons a b as bs h t =>
   obtain⟨rs,c,q⟩:=Zk0 (P:=P) (w:=w) t
   obtain⟨b1,b2⟩:=b
   exact⟨(p.1,b2)::rs,⟨Za6 h.1,rfl,c⟩,.cons ⟨rfl,h.2⟩ q⟩
def Zo9(trs:List (TE×TE)):TE:=fun σ H Q=>∀p,H p=none->Zgj trs σ (upd H p (.dK [])) fun ps H2=>H2 p=some (.dK [])/\∃kvs:List (Key×V),ps=kvs.map (fun kv=>(kV kv.1,kv.2))/\kvs.length<=15/\Q (.ref p) (upd H2 p (.dK (Zao [] kvs)))
theorem Zw4{X:Cx}{pos:Pos}{keys:List (Option Expr)}{values:List Expr}{trs:List (TE×TE)}(h:PPs X pos keys values trs)(hall:keys.all (·.isSome)=true)(hl:keys.length=values.length)(h0:keys ≠ [])(h15:keys.length<=15):PE X (.Dict keys values pos) (Zo9 trs):=by
 intro pins s σ H Q I q
 have hn:=I.hok.fresh (xE s.heap.objs.size)
 have I1:=I.laid (a:=s.heap.objs.size) (o:=.dK []) (h':=s.heap.push {cls:=.type "dict", data:=.dict #[] }) (t':=s.toks) (fun _ _ q=>xA _ q) (xE _) (Zl4 s.heap I.big)
 refine wpAny_Dict_walk (knd:=Y8 X.prog X.w) hall hl h0 h15 (thn (h pins _ σ _ _ I1 (q _ hn)) fun ws s2 ⟨ps,H2,I2,rel,e,kvs,ep,lk,q2⟩=>?_)
 subst ep
 obtain⟨rs,c,rk⟩:=Zk0 (P:=X.prog) (w:=X.w) rel
 obtain⟨z,hd,vs0,r0,dd⟩:=Zo5 I2.hok e
 cases r0
 refine⟨rs,c,dd,fun h' dd' hs=>⟨.ref s.heap.objs.size,_,?_,rfl,q2⟩⟩
 have hz:(Zao [] kvs).length<=sizeLine:=by
  have h1:=Zkq kvs []
  rw[List.length_nil] at h1
  rw[sizeLine_eq];lia
 have he:∃q,h'.get? s.heap.objs.size=some q:=let ⟨q,_,_,hq,_⟩:=dd';⟨q,hq⟩
 exact Zd2 I2 (by rw[e];exact True.intro) hs he (Znw hz hd (rk.merge .nil) dd')
structure M1 (X:Cx) (o:Expr) (m:Str) (apos:Pos) (e:Expr) (cpos:Pos):Prop where
 base:attributeBase o m X.env (eval o X.env)=eval o X.env
 few:((backTo cpos (starEach [e] X.env)).all (fun x=>!x.1) && (backToKw cpos (keywordEach [] X.env)).all (fun x=>x.1.isSome)
  && decide (([e]:List Expr).length+([]:List Keyword).length+(if ([]:List Keyword).isEmpty then 0 else 1) < 30))=true
 line:(apos.endLine == cpos.line)=true
 trees:backTo cpos (starEach [e] X.env)= [(false,eval e X.env)]
structure M2 (X:Cx) (o:Expr) (m:Str) (apos:Pos) (e f:Expr) (cpos:Pos):Prop where
 base:attributeBase o m X.env (eval o X.env)=eval o X.env
 few:((backTo cpos (starEach [e,f] X.env)).all (fun x=>!x.1) && (backToKw cpos (keywordEach [] X.env)).all (fun x=>x.1.isSome)
  && decide (([e,f]:List Expr).length+([]:List Keyword).length+(if ([]:List Keyword).isEmpty then 0 else 1) < 30))=true
 line:(apos.endLine == cpos.line)=true
 trees:backTo cpos (starEach [e,f] X.env)= [(false,eval e X.env),(false,eval f X.env)]
def IsD(H:Hp)(a:Addr):Prop:=(∃kvs,Rd H a (.dK kvs))\/∃kvs,Rd H a (.dT kvs)
theorem Znz{X:Cx}{pins:List (Addr×Obj)}{σ:St}{H:Hp}{s:Shared}{a:Addr}(I:Inv X pins σ H s)(d:IsD H a) :
  s.TypeIs (.ref a) "dict" /\ (∀b,Value.ref a = .ref b->∃ob,s.heap.get? b=some ob/\ob.dict=none)/\(a == sysModules)=false:=by
 rcases d with⟨kvs,e⟩ | ⟨kvs,e⟩
 ·obtain⟨_,hd,vs,_,dd⟩:=Zan I.hok e
  refine⟨dd.typeIs,fun b q=>?_,hd⟩
  cases q
  obtain⟨ob,_,_,h1,h2,_⟩:=dd
  exact⟨ob,h1,h2.2.1⟩
 ·obtain⟨_,hd,xs,_,dd⟩:=Za8 I.hok e
  refine⟨dd.typeIs,fun b q=>?_,hd⟩
  cases q
  obtain⟨ob,_,_,h1,h2,_⟩:=dd
  exact⟨ob,h1,h2.2.1⟩
section
variable{X:Cx}{pins:List (Addr×Obj)}{σ:St}{H:Hp}{s:Shared}{a:Addr}{y d:V}{u r:Value}{o:Option V}{A:Around}{E:Value->Shared->Prop}
theorem Zy5{Q:Value->Shared->Prop}(hu:A.units+1 < cLine)(I:Inv X pins σ H s)(g:DGet H a y o)(ry:RelV y u)(rd:RelV d r)(h:∀w' s',Inv X pins σ H s'->RelV (o.getD d) w'->Q w' s') :
  wpAny (model X.prog X.w) A (call (.builtin "dict.get") [.ref a,u,r]) Q E s:=by
 rcases g with⟨kvs,k,e,ey,l⟩ | ⟨kvs,k,b,e,ey,eb,l⟩
 ·subst ey
  obtain⟨z,hd,vs,rel,dd⟩:=Zan I.hok e
  refine call_meetsIn PySem.F.slot_dict_get dd.typeIs PySem.F.entry_dict_get (PySem.F.args_dict_get_3 _ _ _) (meets_dict_get_default (Y8 X.prog X.w) a (Za6 ry) hd r) ⟨_,dd.mapOf,h _ _ (I.tok _) ?_⟩
  rw[l]
  exact(rel.val k).getD rd
 ·subst ey
  cases (show u=Value.ref b from ry)
  obtain⟨z,hd,xs,rel,dd⟩:=Za8 I.hok e
  refine call_meetsIn PySem.F.slot_dict_get dd.typeIs PySem.F.entry_dict_get (PySem.F.args_dict_get_3 _ _ _) (meetsH_dict_get_default (tupleKind (Y8 X.prog X.w)) a b hd r) ⟨tupleKind_room_in1 hu,k,xs,Za7 I.hok eb,dd,h _ _ (I.tok _) ?_⟩
  rw[l]
  exact(rel.val k).getD rd
end
def Zn0(td ty tx:TE):TE:=fun σ H Q=>td σ H fun x H1=>∃a,x = .ref a/\IsD H1 a/\ty σ H1 fun y H2=>tx σ H2 fun z H3=>∃o,DGet H3 a y o/\Q (o.getD z) H3
section
variable{X:Cx}{o e f:Expr}{apos cpos:Pos}{td ty tx:TE}
theorem Zuy(hu:X.A.units+1 < cLine)(ho:PE X o td)(he:PE X e ty)(hf:PE X f tx)(m:M2 X o "get" apos e f cpos):PE X (.Call (.Attribute o "get" apos) [e,f] [] cpos) (Zn0 td ty tx):=by
 intro pins s σ H Q I h
 refine wpAny_Call_method m.base m.few m.line PySem.F.plainAttrs_dict PySem.F.slot_dict_get PySem.F.type_dict_get (thn (ho pins s σ H _ I h) fun u s1 ⟨x,H1,I1,rx,a,ex,d,q1⟩=>?_)
 subst ex
 obtain rfl:u=Value.ref a:=rx
 obtain⟨t1,t2,_⟩:=Znz I1 d
 refine⟨t1,t2,?_⟩
 rw[m.trees]
 refine Calls.callWith_builtin rfl (Calls.evalArgs_plain (Calls.spliced_cons (thn (he pins s1 σ H1 _ I1 q1) fun iv s2 ⟨y,H2,I2,ry,q2⟩=>
  Calls.spliced_cons (thn (hf pins s2 σ H2 _ I2 q2) fun fv s3 ⟨z,H3,I3,rz,ov,g,q3⟩=>Calls.spliced_nil ?_))))
 exact Zy5 hu I3 g ry rz fun w' s4 I4 rw'=>⟨_,H3,I4,rw',q3⟩
end
section
variable{X:Cx}{pins:List (Addr×Obj)}{σ:St}{H:Hp}{s:Shared}{a:Addr}{kvs:List (Key×V)}{A:Around}{E:Value->Shared->Prop}
end
section
variable{X:Cx}{pins:List (Addr×Obj)}{σ:St}{H:Hp}{s:Shared}{a:Addr}{y:V}{u:Value}{A:Around}{E:Value->Shared->Prop}
end
end L2
namespace Att
open PySem PySem.W PySem.Calls PyProof.Rows
theorem Zrf{P:Params}{h:Heap}:∀(ns:List Int)(vs:List Value),WellAll P h vs (ns.map WData.int)->IntsAre vs ns:=by
 intro ns
 induction ns with
 | nil =>
  intro vs w
  rw[List.map_nil] at w
  cases w
  exact .nil
 | cons n ns ih =>
  intro vs w
  rw[yE] at w
  cases w with
  | cons a b =>
   cases a
   exact .cons _ _ (ih _ b)
theorem Zs9{l:OpenLaw}{n:Nat}(hn:l.most=some n){P:Params}{h:Heap}{args:List WData}{vals:List Value}(hpre:l.row.toRowW.claim.pre args=true)(hwl:WellAll P h vals args) :
  ∃a vs ns,vals = [Value.ref a]/\args = [WData.list (ns.map WData.int)]/\h.get? a=some {cls:=.type "list", data:=.seq vs.toArray }/\IntsAre vs ns/\ns.length<=n:=by
 have hsh:WShape.hasAll [] args [.list .int]=true:=(pre_splitW hpre).1
 have hc:l.pre.holds [] {args:=args }=true:=(pre_splitW hpre).2
 obtain⟨d,r,rfl,h1,h2⟩:=hasAllW_cons hsh
 obtain rfl:=hasAllW_nil h2
 obtain⟨xs,rfl,h3⟩:=hasW_list h1
 obtain⟨ns,rfl⟩:=items_int h3
 have hlen:ns.length<=n:=by
  unfold OpenLaw.pre at hc
  have h4:(WTm.not (.lt (.lit (.int (n:Int))) (.len (.arg 0)))).holds [] {args:=[.list (ns.map .int)] }=true:=by
   have h4:=(holds_andW hc).1
   rw[hn] at h4
   exact h4
  have h5:=condW_of h4 (w_not (w_lt w_lit (w_len_list (w_arg rfl))))
  rw[xB] at h5
  refine Nat.le_of_not_lt fun q=>?_
  have q':(n:Int) < ((ns.length:Nat):Int):=by lia
  first
   | (rw[yL q'] at h5;exact absurd h5 (by decide))
   | (simp at h5;lia)
 cases hwl with
 | cons w1 w2 =>
  cases w2
  cases w1 with
  | list ho hall=>exact⟨_,_,ns,rfl,rfl,ho,Zrf ns _ hall,hlen⟩
theorem Zta(l:OpenLaw)(args:List WData):l.row.toRowW.claim.post args (.bool true) args=true :=
 postW_of (r:=l.row.toRowW) (X:=(true == true))
  (show WShape.has [] (.bool true) .bool=true by first | rfl | decide | simp[WShape.has,WShape.arms,WShape.armsAll])
  (show (WTm.eq .res (.lit (.bool true))).value [] {args:=args,res:=some (.bool true),after:=args }=some (.bool (true == true)) from w_eq_bool (w_res rfl) w_lit) rfl
theorem attach_call{l:OpenLaw}{n:Nat}{q:Program}{loose:List Str}{XP:(Str->Option Value)->Heap->Prop}{YP:World->Heap->Prop}{d:DefRec}(hn:l.most=some n)(hdf:d.params.defaults = [])(call:∀ (w:World) (s₀ s₁:Shared) (mg mb:Str->Option Value) (fa:Addr) (o:Obj) (pm cd doc:Value) (a:Addr) (vs:List Value) (ns:List Int),
   Ground q loose [] XP w s₀ mg mb s₁.heap->YP w s₁.heap ->
   s₁.heap.get? fa=some o->o.data = .func (docDef d.name d.params d.body d.scope pm cd doc)->s₁.heap.CodeRec cd d.name->mg d.name=some (.ref fa)->
   s₁.heap.get? a=some {cls:=.type "list", data:=.seq vs.toArray }->IntsAre vs ns->ns.length<=n->s₁.gens = #[]->
   codeAny (model l.prog w) callerA (.call (.ref fa) ⟨[.ref a],[]⟩) (fun r s'=>r = .ok (.ret (.bool true))/\OldK s₁.heap s'.heap/\s'.os=s₁.os/\AllBare s'.gens) s₁) :
  WalkO q loose XP YP l.row.toRowW d [] (fun f vs=>PySem.call f vs):=by
 intro w s₀ s₁ mg mb G Y fa o pm cd doc dV kV ho hd hcd hD hmg hg args vals as hpre hlay hrd hwl hlo
 obtain rfl:dV = .none:=Dflts.none hD hdf
 obtain rfl:kV = .none:=Dflts.noKw hD
 obtain⟨a,vs,ns,rfl,rfl,hobj,hints,hlen⟩:=Zs9 hn hpre hwl
 refine enter_call (codeAny_mono (call w s₀ s₁ mg mb fa o pm cd doc a vs ns G Y ho (fd_plain hd) hcd hmg hobj hints hlen hg) fun r s' hq=>?_)
 obtain⟨rfl,h2,h3,h4⟩:=hq
 exact⟨.inl ⟨.bool true,.bool true,[],rfl,fun _=>rfl,.bool true,Zta l _,fun _=>⟨List.Pairwise.nil,fun _ hm=>(nomatch hm)⟩⟩,h2,h3,h4⟩
section
variable{prog:Program}{w:World}{A:Around}{E:Value->Shared->Prop}{s:Shared}{K:Frag}
end
end Att
namespace L2
open PySem PySem.Spec PyProof.Rows
theorem Zlp:∀{vs:List Value}{ns:List Int},IntsAre vs ns->Vals (ns.map V.int) vs
 | _,_,.nil=>.nil
 | _,_,.cons n t h=>.cons ⟨t,rfl⟩ (Zlp h)
def Zkd(H:Hp):Prop:=∀b,H b=none\/∃o xs,H b=some (.frz o (.lst xs))
theorem Zuz{P:Program}{w:World}{K:uFg}{mg mb:Str->Option Value}{CX:CXT}{k:Nat}{fa a:Addr}{fd:FuncData}{x:Str}{sp:Sp}{s₁:Shared}{vs:List Value}{ns:List Int}(KX:K.In s₁.heap)(hns:s₁.heap.Ns mainGlobals mg)(hb:s₁.heap.Ns builtinsNs mb)(hbb:∀x:Str,x ≠ "__name__" -> mb x=bootBuiltins x)(hlim:s₁.heap.NoLimit)(hg:s₁.gens = #[])(ha:s₁.heap.get? a=some {cls:=.type "list", data:=.seq vs.toArray })(hi:IntsAre vs ns)(hl:ns.length<=sizeLine)(hr:Room k callerA)(F:∀base:Heap,K.In base->base.Ns mainGlobals mg->FnOk P w K mg base CX k fa fd [x] sp)(hbind:∀ (s:Shared) (u:Value),BindsTo s fd ⟨[u],[]⟩ [(x,u)])(hsp:∀H:Hp,Zkd H->SqL K H a (ns.map V.int)->sp [.ref a] H (fun v _=>v = .bl true) fun _ _ _=>False)(hCX:∀H e s',CX [] H s₁ (fun _ _ _=>False) e s'->False) :
  codeAny (model P w) callerA (.call (.ref fa) ⟨[.ref a],[]⟩) (fun r s'=>r = .ok (.ret (.bool true))/\OldK s₁.heap s'.heap/\s'.os=s₁.os/\AllBare s'.gens) s₁:=by
 have rv:=Zlp hi
 have lenV:=hi.length
 have core:∀H:Hp,Zkd H->SqL K H a (ns.map V.int)->HOk P w H s₁.heap->(∀b,H b≠none->b=a)->(H a≠none->K.lookup a=none)->
   codeAny (model P w) callerA (.call (.ref fa) ⟨[.ref a],[]⟩) (fun r s'=>r = .ok (.ret (.bool true))/\OldK s₁.heap s'.heap/\s'.os=s₁.os/\AllBare s'.gens) s₁:=by
  intro H hO hS hok hA hK
  have base_of:∀{b:Addr}{o:Obj},s₁.heap.get? b=some o->H b=none->(Zak s₁.heap H).get? b=some o:=fun e n=>Zua e n
  have noA:∀{b:Addr}{o:Obj}{es:Array DictEntry}{ep:Nat},s₁.heap.get? b=some o->o.data = .dict es ep->H b=none:=fun {b o es ep} e d=>by
   cases q:H b with
   | none=>rfl
   | some u =>
    have e':b=a:=hA b (by rw[q];simp)
    subst e'
    rw[ha] at e;cases e
    have d':Data.seq vs.toArray _=Data.dict es ep:=d
    cases d'
  have nsK:∀{b:Addr}{m:Str->Option Value},s₁.heap.Ns b m->(Zak s₁.heap H).Ns b m:=fun {b m} ⟨o,es,ep,e,d,r⟩=>⟨o,es,ep,base_of e (noA e d),d,r⟩
  have hKb:K.In (Zak s₁.heap H):=fun b o e=>base_of (KX b o e) (by
   cases q:H b with
   | none=>rfl
   | some u =>
    have e':b=a:=hA b (by rw[q];simp)
    subst e'
    rw[hK (by rw[q];simp)] at e;cases e)
  have hM:Mod K mg (Zak s₁.heap H):=⟨hKb,nsK hns,⟨mb,nsK hb,hbb⟩,let ⟨mc,h1,h2⟩:=hlim;⟨mc,nsK h1,h2⟩⟩
  have e0:Env0 P w K mg (Zak s₁.heap H) callerA [] s₁ H:=⟨rfl,hM,fun b o e=>Zwb e,Nat.le_of_eq (Zsw _ _),trivial,fun b hb=>absurd (show b∈([]:List Addr) from hb) (by simp),hok,.of_eq hg⟩
  refine codeAny_mono ((F _ hKb (nsK hns)).run callerA [] s₁ H ⟨[.ref a],[]⟩ [.ref a] [.ref a] _ _ hr e0 (hbind s₁ (.ref a)) (.cons rfl .nil) (hsp H hO hS)) fun r s' h=>?_
  cases r with
  | error e=>exact(hCX H e s' h).elim
  | ok fl =>
   cases fl with
   | next=>exact False.elim h
   | brk=>exact False.elim h
   | cont=>exact False.elim h
   | ret u =>
    obtain⟨v,H',os,bare,un,hok',r',q⟩:=h
    have q':v = .bl true:=q
    subst q'
    obtain rfl:u=Value.bool true:=r'
    refine⟨rfl,OldK.of_keep fun b o e=>?_,os,bare⟩
    cases q:H b with
    | none=>exact un.keep b o e q (by intro z;exact absurd (show b∈([]:List Addr) from z) (by simp)) (by simp)
    | some u =>
     rcases hO b with z | ⟨ob,xs,z⟩
     ·rw[q] at z;cases z
     ·have z2:=un.frzs b ob _ z
      obtain⟨e1,_⟩:=hok b _ z
      obtain⟨e2,_⟩:=hok' b _ z2
      rw[e] at e1;cases e1
      exact e2
 cases hk:K.lookup a with
 | some o =>
  have e:=KX a o hk
  rw[ha] at e
  cases e
  refine core (fun _=>none) (fun _=>.inl rfl) (.inr ⟨_,vs.toArray,_,hk,rfl,rfl,rfl,by rw[xQ,lenV];exact hl,by simpa using rv⟩) (fun b u z=>by have z':(none:Option HO)=some u:=z;cases z') (fun b z=>absurd rfl z) fun z=>absurd rfl z
 | none =>
  refine core (fun b=>if b=a then some (.frz {cls:=.type "list", data:=.seq vs.toArray } (.lst (ns.map V.int))) else none) (fun b=>?_) (.inl (.inr ⟨{cls:=.type "list", data:=.seq vs.toArray },if_pos rfl⟩)) (fun b u z=>?_) (fun b z=>?_) fun _=>hk
  ·by_cases hb:b=a
   ·exact .inr ⟨_,_,if_pos hb⟩
   ·exact .inl (if_neg hb)
  ·by_cases hb:b=a
   ·have z':=(if_pos hb).symm.trans z
    cases z'
    subst hb
    exact⟨ha,by rw[xB];exact hl,vs,_,rv,ha⟩
   ·have z':=(if_neg hb).symm.trans z
    cases z'
  ·by_cases hb:b=a
   ·exact hb
   ·exact absurd (if_neg hb) z
end L2
namespace L2
open PySem PySem.Spec PyProof.Rows
theorem walk_of{l:PySem.W.OpenLaw}{n k:Nat}{q:Program}{loose:List Str}{XP:(Str->Option Value)->Heap->Prop}{YP:World->Heap->Prop}{d:DefRec}{K:Params->uFg}{CX:World->CXT}{sp:World->Sp}{x:Str}(hn:l.most=some n)(hn2:n<=sizeLine)(hdf:d.params.defaults = [])(hr:Room k callerA)(hY:∀ (w:World) (h:Heap),YP w h->(K w.params).In h)(F:∀ (w:World) (mg:Str->Option Value) (fa:Addr) (h:Heap),(K w.params).In h->h.Ns mainGlobals mg->mg d.name=some (.ref fa)->
   ∃fd:FuncData,(∀ (s:Shared) (u:Value),BindsTo s fd ⟨[u],[]⟩ [(x,u)])/\
    ∀base:Heap,(K w.params).In base->base.Ns mainGlobals mg->FnOk l.prog w (K w.params) mg base (CX w) k fa fd [x] (sp w))(hsp:∀ (w:World) (H:Hp) (a:Addr) (ns:List Int),ns.length<=n->Zkd H->SqL (K w.params) H a (ns.map V.int)->sp w [.ref a] H (fun v _=>v = .bl true) fun _ _ _=>False)(hCX:∀ (w:World) (H:Hp) (s:Shared) (e:Value) (s':Shared),CX w [] H s (fun _ _ _=>False) e s'->False) :
  PySem.W.WalkO q loose XP YP l.row.toRowW d [] (fun f vs=>PySem.call f vs):=by
 refine Att.attach_call hn hdf fun w s₀ s₁ mg mb fa o pm cd doc a vs ns G Y ho hd hcd hmg hobj hints hlen hg=>?_
 have KX:=hY w _ Y
 obtain⟨fd,hb,hF⟩:=F w mg fa _ KX G.T.g hmg
 exact Zuz KX G.T.g G.T.b G.T.builtins G.T.nolimit hg hobj hints (xT hlen hn2) hr hF hb (fun H hO hS=>hsp w H a ns hlen hO hS) fun H e s'=>hCX w H s₁ e s'
end L2
/- THE LAST THEOREM (shape;LID,My.* are yours):
   My.Adr: a structure of the addresses that your layer names (classes,functions);My.Txt K t: a structure (Prop) of the equations over K;
   My.txt_mk:{K} {implicit addresses ..} (e1:nsIn K mainGlobals "law" = some (some (.ref f))) (e2:K.lookup f=some ⟨oc,od,.func (fnOf "law" "law" params body scope dV kV doc pm an cdv ct),sl⟩) (e3:codeIn K cdv "law" = true) .. : ∃t,My.Txt K t
set_option maxRecDepth 100000 in
set_option maxHeartbeats 0 in
theorem PySem.Challenge.cw_LID_holds : PySem.Challenge.rw_LID.Holds := by
 w_on;o_law;k_head;(case hw=>w_witness2)
 k_fill
 refine L2.walk_of (l:=PySem.Challenge.rw_LID) (n:=63) (k:=40) (x:="script") (CX:=fun w=>..) (sp:=fun _=>My.sp_law) rfl (by decide) rfl ⟨rfl,by decide,by decide⟩ (fun w h Y=>PySem.W.kIn_of Y) ?F ?S ?C
 case F =>
  intro w mg fa h KX G hmg
  have T:∃t,My.Txt (L2.KOf KX) t:=by
   dsimp only [L2.KOf]                          -- K must stand as «<heap const> w.params» for k_is
   refine' My.txt_mk ?e1 ?e2 ?e3 ..
   (case e1=>PySem.W.k_is)                    -- in the order: a name->its address->its object->its parts
   (case e2=>PySem.W.k_is)
   ..
  obtain⟨t,T⟩:=T
  have e0:=hmg.symm.trans (PySem.W.mg_of KX G T.law)
  cases e0                                       -- fa is the law's own address
  exact⟨_,fun s u=>.of_eq rfl,fun base kb nb=>My.law_fn T kb nb⟩     -- if «.of_eq rfl» comes too early: refine' ⟨_,?b,fun base kb nb=>My.law_fn T kb nb⟩;exact fun s u=>.of_eq rfl
 case S=>exact fun w H a ns hl hO hS=>..
 case C=>exact ..
(the tactic k_is has no namespace: write k_is) -/
namespace L2
open PySem PySem.Spec PyProof.Rows
def Ym(s:Stmt)(j:Nat):Stmt:=match s with
 | .ClassDef _ _ _ body _ _ _ _ _ _ _=>body.getD j (.Pass ⟨0,0,0,0⟩)
 | _=>.Pass ⟨0,0,0,0⟩
def Vj(s:Stmt):Arguments:=match s with
 | .FunctionDef _ a _ _ _ _ _ _ _ _=>a
 | _=>{posonlyargs:=[],args:=[],vararg:=none,kwonlyargs:=[],kw_defaults:=[],kwarg:=none,defaults:=[] }
def Y4(s:Stmt):List Stmt:=match s with
 | .FunctionDef _ _ b _ _ _ _ _ _ _=>b
 | _=>[]
def Zh(s:Stmt):Scope:=match s with
 | .FunctionDef _ _ _ _ _ _ sc _ _ _=>sc
 | _=>{kind:=.function,names:=[],isGenerator:=false,isCoroutine:=false }
abbrev CX0:CXT:=fun _ _ _ _ _ _=>False
abbrev E0:XK:=fun _ _ _=>False
theorem Zer{X:Cx}:Za5 CX0 X E0:=fun _ _ _ _ _ _ _ h=>h.elim
structure Fun (K:uFg) (x qual:Str) (st:Stmt) (f:Addr) (fd:FuncData):Prop where
 ex:∃(oc:Value)(od:Option Addr)(kV doc pm:Value)(an:Option Addr)(cdv ct:Value)(osl:Array (Option Value)),
  fd=PySem.W.fnOf x qual (Vj st) (Y4 st) (Zh st) .none kV doc pm an cdv ct/\K.lookup f=some ⟨oc,od,.func fd,osl⟩/\PySem.W.codeIn K cdv qual=true
 kp:PySem.W.keepIn K (.ref f)=true
section
variable{P:Program}{w:World}{K:uFg}{mg:Str->Option Value}{base:Heap}
theorem Fun.ok{x qual:Str}{st:Stmt}{f:Addr}{fd:FuncData}{N ps:List Str}{k:Nat}{sp:Sp}(F:Fun K x qual st f fd)(S:FnScope N ps (Zh st))(len:∀vs H Q E,sp vs H Q E->vs.length=ps.length)(hbody:∀ (cdv:Value) (A:Around) (outer:List Env) (s:Shared) (H:Hp) (vs:List V) (Q:VK) (E:XK),Room k (A.deeper (envOfC qual (Zh st) s.heap.objs.size f cdv))->sp vs H Q E ->
   ∃t,PSs (Y6 CX0 P w K mg base N qual (Zh st) f cdv A outer s H E).nox (Y4 st) t/\t {nx:=fun _ H'=>Q .non H',rt:=Q } (start N vs) H):FnOk P w K mg base CX0 (k+1) f fd ps sp:=by
 obtain⟨oc,od,kV,doc,pm,an,cdv,ct,osl,rfl,lk,hcd⟩:=F.ex
 refine Zo1 lk hcd S len fun A outer s H vs Q E hr hsp=>?_
 obtain⟨t,h,q⟩:=hbody cdv A outer s H vs Q E hr hsp
 exact⟨t,h.nox,q⟩
theorem Fun.binds{x qual:Str}{st:Stmt}{f:Addr}{fd:FuncData}{ps:List Str}(F:Fun K x qual st f fd)(h:∀ (kV doc pm:Value) (an:Option Addr) (cdv ct:Value) (us:List Value),us.length=ps.length->bindArgs (PySem.W.fnOf x qual (Vj st) (Y4 st) (Zh st) .none kV doc pm an cdv ct) ⟨us,[]⟩=pure (ps.zip us)):Binds K fd ps []:=by
 obtain⟨oc,od,kV,doc,pm,an,cdv,ct,osl,rfl,lk,hcd⟩:=F.ex
 exact .all (h kV doc pm an cdv ct)
theorem Zgk{x qual:Str}{st:Stmt}{f:Addr}{oc:Value}{od an:Option Addr}{osl:Array (Option Value)}{kV doc pm cdv ct:Value}(l:K.lookup f=some ⟨oc,od,.func (PySem.W.fnOf x qual (Vj st) (Y4 st) (Zh st) .none kV doc pm an cdv ct),osl⟩)(c:PySem.W.codeIn K cdv qual=true)(k:PySem.W.keepIn K (.ref f)=true):Fun K x qual st f (PySem.W.fnOf x qual (Vj st) (Y4 st) (Zh st) .none kV doc pm an cdv ct):=⟨⟨oc,od,kV,doc,pm,an,cdv,ct,osl,rfl,l,c⟩,k⟩
end
section
variable{X:Cx}
end
theorem Zt{A B:Prop}(h:B):if false=true then A else B:=by
 rw[if_neg xH]
 exact h
theorem Z5{A B:Prop}(h:A):if true=true then A else B:=by
 rw[if_pos rfl]
 exact h
def Same(H H':Hp):Prop:=∀b o,H b=some o->H' b=some o
theorem Same.refl(H:Hp):Same H H:=fun _ _ h=>h
theorem Same.trans{H H1 H2:Hp}(a:Same H H1)(b:Same H1 H2):Same H H2:=fun c o h=>b c o (a c o h)
theorem Same.free{H H':Hp}(e:Same H H'){l:Addr}(h:H' l=Option.none):H l=Option.none:=by
 cases q:H l with
 | none=>rfl
 | some o =>
  rw[e l o q] at h
  cases h
end L2
namespace L2
open PySem PySem.Spec PyProof.Rows
section
variable{X:Cx}
theorem Ztb:Vd X (.builtin "len") (fun xs H Q=>∃a kvs,xs = [V.ref a]/\H a=some (.dK kvs)/\Q (.int kvs.length) H):=by
 intro pins s σ H xs us Q I r h
 obtain⟨a,kvs,rfl,ha,q⟩:=h
 obtain⟨u,rfl,ru⟩:=Up r
 cases ru
 exact Z0c I (.inl ha) fun t s' I'=>⟨.int kvs.length,H,I',⟨t,rfl⟩,q⟩
end
section
variable{κ:Type} [DecidableEq κ]
theorem Zmu:∀{l:List κ}{k : κ},l.Nodup->¬k∈l->(l ++ [k]).Nodup
 | [],k,_,_=>by simp
 | a::r,k,h,hk=>by
  obtain⟨h1,h2⟩:=yH.mp h
  show (a::(r ++ [k])).Nodup
  refine yH.mpr ⟨fun m=>?_,Zmu h2 fun m=>hk (xD.mpr (Or.inr m))⟩
  rcases xJ.mp m with q | q
  ·exact h1 q
  ·exact hk (xD.mpr (Or.inl (xK.mp q).symm))
end
end L2
end
section
namespace L2
open PySem PySem.Spec PyProof.Rows
section
abbrev ccx(X:Cx)(scope:Scope)(cl:List (Str×Addr))(C:Addr)(N':List Str)(s2:Shared)(H2:Hp)(ex:List Addr)(pn:List (Addr×Obj)):Cx where
 prog:=X.prog
 w:=X.w
 K:=X.K
 mg:=X.mg
 base:=X.base
 A:=X.A
 N:=N'
 s₀:=s2
 H₀:=H2
 env:=compEnvC scope cl C X.env
 outer:=X.stack
 stack:=X.stack
 ex:=ex
 fn:=fun _=>false
 calm:=X.calm
 pn:=pn
 xe:=fun _ _=>False
theorem Zfj(env:Env):∀(l:List (Str×NameKind))(cs:List (Str×Addr)),(∀p∈l,p.2 = .free->∃c,env.cells.lookup p.1=some c)->
  ∃cl,(forIn l cs (fun(x:Str×NameKind) (r:List (Str×Addr))=>if (x.2 == NameKind.free)=true then (do let a ← cellOf env x.1;pure (ForInStep.yield ((x.1,a)::r)):Sem (ForInStep (List (Str×Addr)))) else pure (ForInStep.yield r)):Sem _)=pure cl /\
   (∀x c,cl.lookup x=some c->env.cells.lookup x=some c\/cs.lookup x=some c)/\(∀x,((x,NameKind.free)∈l\/∃c,cs.lookup x=some c)->∃c,cl.lookup x=some c)
 | [],cs,_=>⟨cs,rfl,fun x c h=>.inr h,fun x h=>h.elim (fun z=>nomatch z) id⟩
 | (n,k)::r,cs,h=>by
  have hr:∀p∈r,p.2 = .free->∃c,env.cells.lookup p.1=some c:=fun p hp=>h p (xW _ hp)
  by_cases hk:k = .free
  ·subst hk
   obtain⟨c,hc⟩:=h (n,.free) yC rfl
   obtain⟨cl,e,h1,h2⟩:=Zfj env r ((n,c)::cs) hr
   refine⟨cl,?_,fun x d hx=>?_,fun x hx=>?_⟩
   ·rw[List.forIn_cons]
    have e2:cellOf env n=pure c:=by unfold cellOf;rw[hc]
    simp only[beq_self_eq_true,if_true,e2,pure_bind]
    exact e
   ·rcases h1 x d hx with z | z
    ·exact .inl z
    ·rw[yM] at z
     cases q:x == n with
     | true =>
      rw[q] at z
      cases z
      have:x=n:=by simpa using q
      subst this
      exact .inl hc
     | false =>
      rw[q] at z
      exact .inr z
   ·apply h2
    rcases hx with hx | ⟨d,hx⟩
    ·rcases xD.mp hx with z | z
     ·cases z
      exact .inr ⟨c,by rw[yM];simp⟩
     ·exact .inl z
    ·right
     rw[yM]
     cases q:x == n with
     | true=>exact⟨c,rfl⟩
     | false=>exact⟨d,hx⟩
  ·obtain⟨cl,e,h1,h2⟩:=Zfj env r cs hr
   refine⟨cl,?_,h1,fun x hx=>h2 x ?_⟩
   ·rw[List.forIn_cons]
    have e2:(k == NameKind.free)=false:=by simpa using hk
    simp only[e2,zJ,if_false,pure_bind]
    exact e
   ·rcases hx with hx | hx
    ·rcases xD.mp hx with z | z
     ·cases z
      exact absurd rfl hk
     ·exact .inl z
    ·exact .inr hx
theorem Zsc{scope:Scope}{env:Env}(h:∀p∈scope.names,p.2 = .free->∃c,env.cells.lookup p.1=some c) :
  ∃cl,closureFor scope env=pure cl/\(∀x c,cl.lookup x=some c->env.cells.lookup x=some c)/\(∀x,(x,NameKind.free)∈scope.names->∃c,cl.lookup x=some c):=by
 obtain⟨cl,e,h1,h2⟩:=Zfj env scope.names [] h
 refine⟨cl,?_,fun x c hx=>(h1 x c hx).elim id (fun z=>nomatch z),fun x hx=>h2 x (.inl hx)⟩
 unfold closureFor
 have e':=congrArg (fun m:Sem (List (Str×Addr))=>m >>= fun r=>pure r) e
 simp only[pure_bind] at e'
 exact e'
theorem Zko{env:Env}{kk:NameKind}(hkk:kk ≠ .free):∀{names:List (Str×NameKind)}{x:Str},names.lookup x=some kk ->
  (names.map fun(n,k)=>if (k == NameKind.free && env.scope.kind == .function && env.kindOf n == some .cell) then (n,NameKind.cell) else (n,k)).lookup x=some kk
 | [],_,h=>by simp at h
 | (n,k)::r,x,h=>by
  have ih:=@Zko env kk hkk r x
  show List.lookup x ((if (k == NameKind.free && env.scope.kind == .function && env.kindOf n == some .cell)=true then (n,NameKind.cell) else (n,k))::_)=_
  cases hx:x == n with
  | true =>
   simp only[yM,hx] at h
   have h:some k=some kk:=h
   have h':k=kk:=Option.some.inj h
   subst h'
   have e:(k == NameKind.free)=false:=by simpa using hkk
   rw[e,zI,zI,if_neg xH,yM,hx]
  | false =>
   simp only[yM,hx] at h
   by_cases hc:(k == NameKind.free && env.scope.kind == .function && env.kindOf n == some .cell)=true
   ·rw[if_pos hc];simp only[yM,hx];exact ih h
   ·rw[if_neg hc];simp only[yM,hx];exact ih h
theorem Zfg{env:Env}:∀{names:List (Str×NameKind)}{x:Str},names.lookup x=some .free ->
  ((names.map fun(n,k)=>if (k == NameKind.free && env.scope.kind == .function && env.kindOf n == some .cell) then (n,NameKind.cell) else (n,k)).lookup x=some .cell)\/
  ((names.map fun(n,k)=>if (k == NameKind.free && env.scope.kind == .function && env.kindOf n == some .cell) then (n,NameKind.cell) else (n,k)).lookup x=some .free)
 | [],_,h=>by simp at h
 | (n,k)::r,x,h=>by
  have ih:=@Zfg env r x
  show (List.lookup x ((if (k == NameKind.free && env.scope.kind == .function && env.kindOf n == some .cell)=true then (n,NameKind.cell) else (n,k))::_)=_)\/(List.lookup x ((if (k == NameKind.free && env.scope.kind == .function && env.kindOf n == some .cell)=true then (n,NameKind.cell) else (n,k))::_)=_)
  cases hx:x == n with
  | true =>
   simp only[yM,hx] at h
   cases h
   by_cases hc:(NameKind.free == NameKind.free && env.scope.kind == .function && env.kindOf n == some .cell)=true
   ·rw[if_pos hc];simp[yM,hx]
   ·rw[if_neg hc];simp[yM,hx]
  | false =>
   simp only[yM,hx] at h
   by_cases hc:(k == NameKind.free && env.scope.kind == .function && env.kindOf n == some .cell)=true
   ·rw[if_pos hc];simp only[yM,hx];exact ih h
   ·rw[if_neg hc];simp only[yM,hx];exact ih h
theorem Zkw{env:Env}{scope:Scope}{x:Str}(hcell:∀y∈scope.names,y.2 ≠ .cell)(h:(relabel scope env).names.lookup x=some .cell\/(relabel scope env).names.lookup x=some .free):(x,NameKind.free)∈scope.names:=by
 have m:∃k',(k'=NameKind.cell\/k'=NameKind.free)/\(x,k')∈(relabel scope env).names:=by
  rcases h with h | h
  ·exact⟨_,.inl rfl,PySem.mem_of_lookup h⟩
  ·exact⟨_,.inr rfl,PySem.mem_of_lookup h⟩
 obtain⟨k',hk,m⟩:=m
 obtain⟨⟨n,k⟩,hm,e⟩:=zC.mp m
 have e:(if (k == NameKind.free && env.scope.kind == .function && env.kindOf n == some .cell)=true then (n,NameKind.cell) else (n,k))=(x,k'):=e
 by_cases hc:(k == NameKind.free && env.scope.kind == .function && env.kindOf n == some .cell)=true
 ·rw[if_pos hc] at e
  cases e
  have:k = .free:=by
   cases k<;>simp at hc ⊢
  rw[← this];exact hm
 ·rw[if_neg hc] at e
  cases e
  rcases hk with z | z
  ·exact absurd z (hcell _ hm)
  ·rw[← z];exact hm
section
variable{prog:Program}{w:World}{A:Around}{E:Value->Shared->Prop}{R:Result->Shared->Prop}{s:Shared}
theorem Zra{elt target iter:Expr}{ifs:List Expr}{scope:Scope}{pos:Pos}{it acc:Value}{env:Env}(I:Nat->Shared->Prop){EX:Value->Shared->Prop}(hEX:∀e s,EX e s->notedBy (model prog w) A env (fun x s'=>R (.error x) s') e s)(turn:∀n s,I n s->wpAny (model prog w) A (pyNext it) (fun r s₁=>match r with
   | none=>R (.ok .next) s₁
   | some v=>wpAny (model prog w) A (letOwnedTupleGo target it v) (fun _ s1=>wpAny (model prog w) A (assign target env v) (fun _ s₂ =>
     wpAny (model prog w) A (forIn ifs true fun c r=>if r=true then do let ok ← isTrue c env (eval c env);pure (ForInStep.yield ok) else pure (ForInStep.yield r)) (fun ok s₃ =>
      if ok=true then wpAny (model prog w) A (eval elt env) (fun x s₄ =>
       wpAny (model prog w) A (call (.builtin "list.append") [acc,x]) (fun _ s₅=>∃m,m < n/\I m s₅) (fun _ _=>False) s₄) EX s₃
      else ∃m,m < n/\I m s₃) (fun _ _=>False) s₂) (fun _ _=>False) s1) (fun _ _=>False) s₁) (fun _ _=>False) s)(n:Nat)(h:I n s) :
  codeAny (model prog w) A (.compLoop (.ListComp elt [⟨target,iter,ifs,0⟩] scope pos) 0 it acc env) R s:=by
 refine codeAny_loop rfl I (fun n s hI=>?_) n h
 show wpAny _ A ((compTurn (.ListComp elt [⟨target,iter,ifs,0⟩] scope pos) 0 it acc env).onRaise (fun x=>do noteFrame x env;theTreesLotGoes x)) _ _ s
 refine wpAny_noted ?_
 rw[compTurn_list]
 refine wpAny_bind (wpAny_standAt (wpAny_bind (wpAny_mono (turn n s hI) (fun r s₁ h₁=>?_) fun _ _ h'=>h'.elim)))
 cases r with
 | none=>exact wpAny_pure h₁
 | some v =>
  refine wpAny_bind (wpAny_mono h₁ (fun _ s1 h1=>?_) fun _ _ h'=>h'.elim)
  refine wpAny_bind (wpAny_mono h1 (fun _ s₂ h₂=>wpAny_bind (wpAny_mono h₂ (fun ok s₃ h₃=>?_) fun _ _ h'=>h'.elim)) fun _ _ h'=>h'.elim)
  cases ok with
  | false=>exact wpAny_pure ⟨rfl,h₃⟩
  | true =>
   exact wpAny_bind (wpAny_bind (wpAny_mono h₃ (fun x s₄ h₄=>wpAny_bind (wpAny_mono h₄ (fun _ s₅ h₅=>wpAny_pure (wpAny_pure ⟨rfl,h₅⟩)) fun _ _ h'=>h'.elim)) fun e s h'=>hEX e s h'))
end
abbrev TTs:=St->Hp->(Bool->Hp->Prop)->Prop
def PTs(X:Cx)(ifs:List Expr)(t:TTs):Prop :=
 ∀(pins:List (Addr×Obj))(s:Shared)(σ:St)(H:Hp)(Q:Bool->Hp->Prop),Inv X pins σ H s->t σ H Q ->
  wpAny (model X.prog X.w) X.A (forIn ifs true fun c r=>if r=true then do let ok ← isTrue c X.env (eval c X.env);pure (ForInStep.yield ok) else pure (ForInStep.yield r)) (TP X pins σ Q) X.xe s
theorem Zw5{X:Cx}:PTs X [] (fun _ H Q=>Q true H):=fun _ _ _ H _ I h=>wpAny_tests_nil ⟨H,I,h⟩
theorem Zw6{X:Cx}{c:Expr}{t:TT}(h:PT X c t):PTs X [c] t:=fun pins s σ H Q I hw=>wpAny_tests_one (h pins s σ H Q I hw)
structure FrOk (X:Cx) (scope:Scope) (fr:List (Str×Nat)):Prop where
 slots:∀p∈fr,X.N[p.2]? = some p.1/\(X.env.kindOf p.1=some .cell\/X.env.kindOf p.1=some .free)
 kind:∀p∈fr,scope.names.lookup p.1=some .free
def inN(locs:List Str)(fr:List (Str×Nat)):List Str:=locs++fr.map (·.1)
def inS(locs:List Str)(fr:List (Str×Nat))(σ:St):St:=List.replicate locs.length none++fr.map fun p=>(σ[p.2]?).join
def inF(fr:List (Str×Nat))(σ:St):St:=fr.map fun p=>(σ[p.2]?).join
def Vp(n:Nat)(fv:St)(g:TG)(tt:TTs)(te:TE)(x:V)(H:Hp)(Y:V->Hp->Prop)(N:Hp->Prop):Prop :=
 ∀ls:St,ls.length=n->g x (ls++fv) H fun σ2 H2=>(∃l2:St,l2.length=n /\ σ2=l2++fv)/\tt σ2 H2 fun b H3=>if b=true then te σ2 H3 Y else N H3
def Uf(J:It)(n:Nat)(fv:St)(g:TG)(tt:TTs)(te:TE)(Q:VK)(H1:Hp):Prop:=∃W:Nat->Nat->List V->Hp->Prop,(∃m,W 0 m [] H1)/\∀i m ys H,W i m ys H ->
 (J.stop i H/\ys.length<=sizeLine/\∀l,H l=none->Q (.ref l) (upd H l (.lst ys)))\/
 (J.go i H/\ys.length < sizeLine/\∃m',m' < m/\∀x H',J.yld i H x H'->Vp n fv g tt te x H' (fun y H4=>W (i+1) m' (ys ++ [y]) H4) fun H3=>W (i+1) m' ys H3)
def Zpa(n:Nat)(fr:List (Str×Nat))(wi:TI)(g:TG)(tt:TTs)(te:TE):TE:=fun σ H Q=>wi σ H fun J H1=>Uf J n (inF fr σ) g tt te Q H1
theorem Zw7{P:Program}{w:World}{H:Hp}{h:Heap}{D:Addr}{o:HO}(ok:HOk P w H h)(hn:H D=none)(new:ObjOk P w (upd H D o) h D o):HOk P w (upd H D o) h:=fun b u e=>by
 by_cases hb:b=D
 ·subst hb;rw[Zg] at e;cases e;exact new
 ·rw[Zc hb] at e
  exact(ok b u e).stay (fun _ _ _ q=>q) (fun c q=>by rw[Zc (Zj q hn)];exact q) fun c xs q=>by rw[Zc (Zj q hn)];exact q
section
variable{X:Cx}{tg elt iter:Expr}{ifs:List Expr}{scope:Scope}{pos:Pos}{locs:List Str}{fr:List (Str×Nat)}{g:TG}{tt:TTs}{te:TE}
theorem Ztc{pins:List (Addr×Obj)}{σ:St}{H1:Hp}{s2:Shared}{it:Addr}{fp:List Addr}{tn:Nat->Heap->Prop}{J:It}{cl:List (Str×Addr)}{E:Value->Shared->Prop}{RR:Value->Addr->Result->Shared->Prop}{QQ:List V->Hp->Prop}{EE:Hp->Value->Shared->Prop}(hc:X.calm=true)(hkind:scope.kind = .function)(hcell:∀y∈scope.names,y.2 ≠ .cell)(hlo:∀x∈locs,scope.names.lookup x=some .local)(F:FrOk X scope fr)(hnd:(inN locs fr).Nodup)(cl1:∀x c,cl.lookup x=some c->X.env.cells.lookup x=some c)(cl2:∀x,(x,NameKind.free)∈scope.names->∃c,cl.lookup x=some c)(inner:∀ (C:Addr) (s0:Shared) (H0:Hp) (ex:List Addr) (pn:List (Addr×Obj)),PG (ccx X scope cl C (inN locs fr) s0 H0 ex pn) tg g/\PTs (ccx X scope cl C (inN locs fr) s0 H0 ex pn) ifs tt)(hel:∀ (C:Addr) (pE:List (Addr×Obj)) (s:Shared) (σ':St) (H:Hp) (Y:VK),(∀b∈fp,∃o,(b,o)∈pE)->Inv (ccx X scope cl C (inN locs fr) s2 H1 fp (X.pn++pins)) pE σ' H s->te σ' H Y ->
   wpAny (model X.prog X.w) X.A (eval elt (compEnvC scope cl C X.env)) (EP (ccx X scope cl C (inN locs fr) s2 H1 fp (X.pn++pins)) pE σ' Y) (fun e s'=>∃pE' σ2 H',Inv (ccx X scope cl C (inN locs fr) s2 H1 fp (X.pn++pins)) pE' σ2 H' s'/\EE H' e s') s)(hER:∀ (D C:Addr) (H':Hp) (e:Value) (s':Shared) (m:Str->Option Value),Inv X pins σ H' s'->V3 X pins H' C->s'.heap.Ns C m->EE H' e s'->notedBy (model X.prog X.w) X.A (compEnvC scope cl C X.env) (fun x s''=>RR (.ref D) C (.error x) s'') e s')(I:Inv X pins σ H1 s2)(T:Turn X.prog X.w X.K tg J fp it tn)(st0:tn 0 s2.heap)(hf:∀b∈fp,V3 X pins H1 b){W:Nat->Nat->List V->Hp->Prop}(w0:∃m,W 0 m [] H1)(turn:∀i m ys H,W i m ys H ->
   (J.stop i H/\ys.length<=sizeLine/\QQ ys H)\/
   (J.go i H/\ys.length < sizeLine/\∃m',m' < m/\∀x H',J.yld i H x H'->Vp locs.length (inF fr σ) g tt te x H' (fun y H4=>W (i+1) m' (ys ++ [y]) H4) fun H3=>W (i+1) m' ys H3))(hRR:∀ (D C:Addr) (ys:List V) (H':Hp) (s':Shared) (m:Str->Option Value),H' D=none->D≠C->Inv X pins σ (upd H' D (.lst ys)) s'->V3 X pins (upd H' D (.lst ys)) C->s'.heap.Ns C m->QQ ys H'->RR (.ref D) C (.ok .next) s') :
  wpAny (model X.prog X.w) X.A (newList []) (fun acc s₃=>wpAny (model X.prog X.w) X.A (newFunctionEnv scope X.env.globals cl [] X.env.qual none .none (some X.env)) (fun cenv s₄ =>
   codeAny (model X.prog X.w) X.A (.compStart (.ListComp elt [⟨tg,iter,ifs,0⟩] scope pos) 0 (.ref it) acc {cenv with scope:=relabel scope X.env }) (RR acc cenv.locals) s₄) E s₃) E s2:=by
 refine wpAny_newObj_type (wpAny_newFunctionEnv hcell (by intro y hy;simp at hy) (fun h₁ hns₁ hsb₁=>?_) hkind)
 dsimp only at hns₁ hsb₁ ⊢
 generalize hH2:s2.heap.push {cls:=.type "list", dict:=none,data:=.seq ([]:List Value).toArray }=Hq at hns₁ hsb₁ ⊢
 have hC:Hq.objs.size=s2.heap.objs.size+1:=by rw[← hH2,yY]
 generalize hDe:s2.heap.objs.size=D at hC ⊢
 generalize hCe:Hq.objs.size=C at hC hns₁ hsb₁ ⊢
 have hDC:D≠C:=by lia
 have below:∀b,b < D->b≠C/\b≠D:=fun b hb=>⟨by lia,by lia⟩
 have ltD:∀{b:Addr}{o:Obj},s2.heap.get? b=some o->b < D:=fun e=>hDe▸xM e
 have old:∀b o,s2.heap.get? b=some o->h₁.get? b=some o:=fun b o e=>hsb₁.extBut b o (below b (ltD e)).1 (xA _ (hH2▸xA _ e))
 have hacc:h₁.PlainList D #[]:=⟨_,hsb₁.extBut _ _ hDC (xA _ (by subst hDe;exact hH2▸xP _ rfl))⟩
 let X':Cx:=ccx X scope cl C (inN locs fr) s2 H1 fp (X.pn++pins)
 have ltC:s2.heap.objs.size<=C:=by rw[hDe,hC];exact Nat.le_succ _
 have fpC:V3 X pins H1 C:=I.fpOk ltC (I.hok.fresh ltC)
 have fpD:V3 X pins H1 D:=I.fpOk (Nat.le_of_eq hDe) (I.hok.fresh (Nat.le_of_eq hDe))
 have stkN:∀b,b≠X.env.locals->b∉X.fs->b∉frs X.stack:=fun b h1 h2 z=>(xD.mp (I.stkSub b z)).elim h1 h2
 have ok':X'.Ok:=by
  refine⟨I.ok.mod,hkind,I.ok.glob,I.ok.blt,ltC,fun x y c h1 h2=>I.ok.inj x y c (cl1 x c h1) (cl1 y c h2),fun x hx=>?_,fun x c h=>?_,I.ok.hd,I.ok.frames,.inl rfl,fun b hb=>?_,fun b o e=>I.bs b o e,xT I.ok.bsz I.sz,fun b o e hb=>?_,fun b hb=>?_,I.stack,I.stkFree⟩
  ·obtain⟨c,hcc⟩:=cl2 x (Zkw hcell hx)
   exact⟨c,hcc⟩
  ·cases h
  ·refine⟨fun z=>?_,fun x c e=>(hf b hb).2.2.2.2.1 x c (cl1 x c e)⟩
   obtain⟨o,ho,_⟩:=T.obj _ _ st0 b hb
   have z':b=C:=z
   exact(below b (ltD ho)).1 z'
  ·have hb':=hf b hb
   rcases hb'.2.2.2.1 with z | z
   ·exact I.ok.noex b o e z
   ·exact absurd (yF (xM e) (xT I.ok.bsz z)) (zH _)
  ·exact stkN b (hf b hb).2.1 (hf b hb).2.2.1
 have I1:Inv X' [] (inS locs fr σ) H1 {s2 with heap:=h₁,toks:=s2.toks+([]:List (Str×Value)).length }:=by
  refine⟨ok',I.os.symm▸rfl,I.bare,Un.kept old,⟨_,hns₁,fun i x v h1 h2 h3=>?_⟩,fun x c e=>?_,I.hok.fresh ltC,fun x c e=>I.freeC x c (cl1 x c e),fun p hp=>?_,I.hok.kept old,?_⟩
  ·-- a slot of the block that has a value is a free name's
   have hge:locs.length<=i:=by
    by_cases hi:i < locs.length
    ·unfold inS at h2
     rw[zF (by simpa using hi),List.getElem?_replicate,if_pos hi] at h2
     cases h2
    ·lia
   have h1':(fr.map (·.1))[i - locs.length]? = some x:=by
    have h1:(inN locs fr)[i]? = some x:=h1
    unfold inN at h1
    rw[zD hge] at h1
    exact h1
   have h2':(fr.map fun p=>(σ[p.2]?).join)[i - locs.length]? = some (some v):=by
    unfold inS at h2
    rw[zD (by simpa using hge),List.length_replicate] at h2
    exact h2
   rw[xO] at h1' h2'
   cases e:fr[i - locs.length]? with
   | none=>rw[e] at h1';cases h1'
   | some p =>
    rw[e] at h1' h2'
    have ex:p.1=x:=Option.some.inj h1'
    have ev:(σ[p.2]?).join=some v:=Option.some.inj h2'
    obtain⟨f1,f2⟩:=F.slots p (xI e)
    have ev' : σ[p.2]? = some (some v):=by
     cases q : σ[p.2]? with
     | none=>rw[q] at ev;cases ev
     | some o=>rw[q] at ev;cases o with
      | none=>cases ev
      | some v'=>cases ev;rfl
    obtain⟨m0,hn0,hl0⟩:=I.loc
    have vis0:Vis X.env.scope p.1:=by
     rcases f2 with z | z
     ·exact .inr (.inl z)
     ·exact .inr (.inr z)
    obtain⟨u,ru,lk⟩:=hl0 p.2 p.1 v f1 ev' vis0
    have hxm:x∉locs:=fun z=>by
     have hnd':=hnd
     unfold inN at hnd'
     exact(List.nodup_append.mp hnd').2.2 x z x (zC.mpr ⟨p,xI e,ex⟩) rfl
    refine⟨u,ru,?_⟩
    rcases lk with⟨hk,_⟩ | ⟨hk,c,hcc,hce⟩
    ·rcases f2 with z | z
     ·rw[z] at hk;cases hk
     ·rw[z] at hk;cases hk
    ·-- in the block it is a cell or free name
     have h3:Vis (relabel scope X.env) x:=h3
     have hk':(compEnvC scope cl C X.env).kindOf x=some .cell\/(compEnvC scope cl C X.env).kindOf x=some .free:=by
      rcases h3 with z | z | z
      ·exfalso
       have q:=Zfg (env:=X.env) (F.kind p (xI e))
       rw[ex] at q
       rcases q with q | q
       ·have z':some NameKind.local=some NameKind.cell:=z.symm.trans q
        cases z'
       ·have z':some NameKind.local=some NameKind.free:=z.symm.trans q
        cases z'
      ·exact .inl z
      ·exact .inr z
     obtain⟨c',hc'⟩:=cl2 x (Zkw hcell hk')
     have:=cl1 x c' hc'
     rw[← ex,hcc] at this
     cases this
     refine .inr ⟨hk',c,hc',?_⟩
     obtain⟨o,ho,hd⟩:=hce
     exact⟨o,old _ _ ho,hd⟩
  ·obtain⟨v,o,ho,hd⟩:=I.cell x c (cl1 x c e)
   exact⟨v,o,old _ _ ho,hd⟩
  ·have hp':p∈X.pn++pins:=(xJ.mp hp).elim id fun z=>nomatch z
   obtain⟨e,n,ne,nf,d⟩:=I.pin p hp'
   exact⟨old _ _ e,n,(below _ (ltD e)).1,stkN _ ne nf,d⟩
  ·show (inS locs fr σ).length=(inN locs fr).length
   unfold inS inN
   simp
 have fpLt:∀b∈fp,b < D:=fun b hb=>by
  obtain⟨o,ho,_⟩:=T.obj _ _ st0 b hb
  exact ltD ho
 obtain⟨m0,w0⟩:=w0
 let oD:List Value->Nat->Obj:=fun its k=>{cls:=.type "list", data:=.seq its.toArray k }
 have stat:∀{H':Hp}{ob:Obj},(∀b∈fp,H' b=none)->∀b∈fp,V3 X' [(D,ob)] H' b:=fun {H' ob} hn b hb=>by
  obtain⟨f0,f1,f2,f3,f4,f5⟩:=hf b hb
  refine⟨hn b hb,(below b (fpLt b hb)).1,stkN b f1 f2,.inl hb,fun x c e=>f4 x c (cl1 x c e),fun p hp z=>?_⟩
  rcases xJ.mp hp with q | q
  ·exact f5 p q z
  ·have e:p=(D,ob):=by simpa using q
   subst e
   exact(below b (fpLt b hb)).2 z.symm
 have loop:∀s₃:Shared,s₃={s2 with heap:=h₁,toks:=s2.toks+([]:List (Str×Value)).length }->
   codeAny (model X.prog X.w) X.A (.compLoop (.ListComp elt [⟨tg,iter,ifs,0⟩] scope pos) 0 (.ref it) (.ref D) (compEnvC scope cl C X.env)) (RR (.ref D) C) s₃:=by
  rintro s₃ rfl
  refine Zra (fun n s'=>∃(i:Nat)(ls:St)(H':Hp)(ys:List V)(its:List Value)(k:Nat),ls.length=locs.length/\Inv X' [(D,oD its k)] (ls++inF fr σ) H' s'/\tn i s'.heap/\(∀b∈fp,H' b=none)/\Vals ys its/\W i n ys H') (EX:=fun e s'=>∃pE' σ2 H',Inv X' pE' σ2 H' s'/\EE H' e s') ?_ ?_ m0 ?_
  ·rintro e s4 ⟨pE',σ2,H3,I4,q⟩
   obtain⟨mC,hnC,_⟩:=I4.loc
   have hnC:s4.heap.Ns C mC:=hnC
   have nC:H3 C=none:=I4.free
   have I5:Inv X pins σ H3 s4:=I.call' (ch:=fp) (show s4.os=s2.os from I4.os) I4.base I4.hok I4.bare fun b hb=>by
    obtain⟨f0,f1,f2,f3,f4,f5⟩:=hf b hb
    exact⟨f3,f1,f4,f5⟩
   exact hER D C H3 e s4 mC I5 (I.fpOk ltC nC) hnC q
  ·rintro n s3 ⟨i,ls,H3,ys,its,k,hls,I3,st3,fr3,rv,w3⟩
   rcases turn i n ys H3 w3 with⟨stop,hz,q⟩ | ⟨go,hz,m',hm,step⟩
   ·refine thn (T.done X' rfl rfl rfl hc i _ s3 _ H3 (fun _ _=>False) I3 (stat fr3) st3 stop) fun r s4 ⟨hr,I4⟩=>?_
    subst hr
    obtain⟨pD,nD,_,_,_⟩:=I4.pin (D,oD its k) (xL _ yC)
    have nD:H3 D=none:=nD
    obtain⟨mC,hnC,_⟩:=I4.loc
    have hnC:s4.heap.Ns C mC:=hnC
    have nC:H3 C=none:=I4.free
    have new:ObjOk X.prog X.w (upd H3 D (.lst ys)) s4.heap D (.lst ys):=⟨hz,its,k,rv,pD⟩
    have hok4:HOk X.prog X.w (upd H3 D (.lst ys)) s4.heap:=Zw7 I4.hok nD new
    have u4:Un (frs X.stack) fp H1 H3 s2.heap s4.heap:=I4.base
    have u5:Un (frs X.stack) fp H1 (upd H3 D (.lst ys)) s2.heap s4.heap:=by
     refine⟨u4.keep,u4.slot,fun b o e n hx=>?_,u4.there,fun b xs e=>?_,fun b o u e=>?_,fun b ps e=>?_⟩
     ·rw[Zc (below b (ltD e)).2];exact u4.free b o e n hx
     ·rw[Zc (Zj e fpD.1)];exact u4.tups b xs e
     ·rw[Zc (Zj e fpD.1)];exact u4.frzs b o u e
     ·rw[Zc (Zj e fpD.1)];exact u4.tbls b ps e
    have I5:Inv X pins σ (upd H3 D (.lst ys)) s4:=by
     refine I.call' (ch:=fp) ?_ u5 hok4 I4.bare fun b hb=>?_
     ·have:s4.os=s2.os:=I4.os
      exact this
     ·obtain⟨f0,f1,f2,f3,f4,f5⟩:=hf b hb
      exact⟨f3,f1,f4,f5⟩
    have fpC':V3 X pins (upd H3 D (.lst ys)) C:=I.fpOk ltC (by rw[Zc hDC.symm];exact nC)
    exact hRR D C ys H3 s4 mC nD hDC I5 fpC' hnC q
   ·refine thn (T.item X' rfl rfl rfl hc i _ s3 _ H3 (fun _ _=>False) I3 (stat fr3) st3 go) fun r s4 ⟨u,hr,h4⟩=>?_
    subst hr
    refine thn h4 fun _ s5 ⟨x,H5,I5,r5,y5,st5,fr5⟩=>?_
    obtain⟨hg,htt⟩:=inner C s2 H1 fp (X.pn++pins)
    have I5':=I5.pinned (stat fr5) (T.obj _ _ st5)
    refine thn (hg _ s5 _ H5 x u _ I5' r5 (step x H5 y5 ls hls)) fun _ s6 ⟨σ6,H6,I6,⟨l6,hl6,e6⟩,q6⟩=>?_
    subst e6
    refine thn (htt _ s6 _ H6 _ I6 q6) fun ok s7 ⟨H7,I7,q7⟩=>?_
    have again:∀{H8:Hp}{s8:Shared},Inv X' ([(D,oD its k)]++Za1 fp s5.heap) (l6++inF fr σ) H8 s8->tn (i+1) s8.heap/\∀b∈fp,H8 b=none:=fun {H8 s8} I8=>by
     refine⟨T.keep _ _ _ st5 fun b hb o e=>(I8.pin (b,o) (xL _ (xL _ (Zcv hb e)))).1,fun b hb=>?_⟩
     obtain⟨o,e,d⟩:=T.obj _ _ st5 b hb
     exact(I8.pin (b,o) (xL _ (xL _ (Zcv hb e)))).2.1
    cases ok with
    | false =>
     rw[if_neg xH] at q7 ⊢
     obtain⟨a1,a2⟩:=again I7
     exact⟨m',hm,i+1,l6,H7,ys,its,k,hl6,I7.unpinned,a1,a2,rv,q7⟩
    | true =>
     rw[if_pos rfl] at q7 ⊢
     refine thn (hel C _ s7 _ H7 _ (fun b hb=>let ⟨o,ho,_⟩:=T.obj _ _ st5 b hb;⟨o,xL _ (Zcv hb ho)⟩) I7 q7) fun yv s8 ⟨y,H8,I8,r8,q8⟩=>?_
     obtain⟨a1,a2⟩:=again I8
     obtain⟨pD,nD,_,nfD,_⟩:=I8.pin (D,oD its k) (xL _ (yX _ yC))
     have nD:H8 D=none:=nD
     have hl8:s8.heap.PlainList D its.toArray:=⟨k,pD⟩
     have hlen:its.toArray.size<=sizeLine:=by
      rw[xQ,← rv.length];lia
     refine wpAny_list_append_plain (hsz:=hlen) hl8 fun h9 hl9 hs9=>?_
     obtain⟨k9,e9⟩:=hl9
     have I9:Inv X' (Za1 fp s5.heap) (l6++inF fr σ) H8 s8:=I8.pins_of fun p hp=>I8.pin p (xL _ (xL _ hp))
     have I10:Inv X' (Za1 fp s5.heap) (l6++inF fr σ) H8 {s8 with heap:=h9 }:=by
      refine I9.turned (it:=D) (t':=s8.toks) (fun b o hb e=>(hs9.2 b hb).trans e) nD ?_ ?_ ?_ ?_
      ·exact hDC
      ·exact .inr (Nat.le_of_eq hDe)
      ·exact fun x c e=>fpD.2.2.2.2.1 x c (cl1 x c e)
      ·intro p hp z
       rcases xJ.mp hp with q | q
       ·exact fpD.2.2.2.2.2 p q z
       ·have:=fpLt p.1 (Zlg q).1
        exact(below p.1 this).2 z
     have e9':h9.get? D=some (oD (its ++ [yv]) k9):=by
      rw[e9];simp[oD]
     have I11:Inv X' [(D,oD (its ++ [yv]) k9)] (l6++inF fr σ) H8 {s8 with heap:=h9 }:=I10.pins_of fun p hp=>by
      have e:p=(D,oD (its ++ [yv]) k9):=by simpa using hp
      subst e
      exact⟨e9',nD,hDC,nfD,fun v z=>by cases z⟩
     refine⟨m',hm,i+1,l6,H8,ys ++ [y],its ++ [yv],k9,hl6,I11,?_,a2,Vals.append rv (.cons r8 .nil),q8⟩
     exact T.keep _ _ _ a1 fun b hb o e=>(hs9.2 b (below b (fpLt b hb)).2).trans e
  ·have e0:List.replicate locs.length none++inF fr σ=inS locs fr σ:=rfl
   obtain⟨k0,eD⟩:=hacc
   refine⟨0,List.replicate locs.length none,H1,[],[],k0,by simp,?_,T.keep _ _ _ st0 fun b _ o e=>old b o e,fun b hb=>(hf b hb).1,.nil,w0⟩
   rw[e0]
   refine I1.pins_of fun p hp=>?_
   have e:p=(D,oD [] k0):=by simpa using hp
   subst e
   exact⟨eD,fpD.1,hDC,stkN D fpD.2.1 fpD.2.2.1,fun v z=>by cases z⟩
 exact codeAny_compStart_list (loop _ rfl) (T.self _ 0 _ _ _ (T.keep _ _ _ st0 fun b _ o e=>old b o e) (loop _ rfl))
structure CompOk (X:Cx) (scope:Scope) (locs:List Str) (fr:List (Str×Nat)):Prop where
 kind:scope.kind = .function
 nocell:∀y∈scope.names,y.2 ≠ .cell
 names:∀y∈scope.names,y.2 = .local->scope.names.lookup y.1=some .local
 own:∀x∈locs,scope.names.lookup x=some .local
 free:∀y∈scope.names,y.2 = .free->y.1∈fr.map (·.1)
 nd:(inN locs fr).Nodup
theorem FrOk.nil:FrOk X scope []:=⟨(fun _ h=>nomatch h),(fun _ h=>nomatch h)⟩
theorem FrOk.cons{x:Str}{j:Nat}{fr:List (Str×Nat)}(h1:X.N[j]? = some x)(h2:X.env.kindOf x=some .cell\/X.env.kindOf x=some .free)(h3:scope.names.lookup x=some .free)(t:FrOk X scope fr):FrOk X scope ((x,j)::fr) :=
 ⟨fun p hp=>(xD.mp hp).elim (fun e=>by subst e;exact⟨h1,h2⟩) (t.slots p),fun p hp=>(xD.mp hp).elim (fun e=>by subst e;exact h3) (t.kind p)⟩
theorem CompOk.clos{pins:List (Addr×Obj)}{σ:St}{H:Hp}{s:Shared}(S:CompOk X scope locs fr)(F:FrOk X scope fr)(I:Inv X pins σ H s) :
  ∃cl,closureFor scope X.env=pure cl/\(∀x c,cl.lookup x=some c->X.env.cells.lookup x=some c)/\(∀x,(x,NameKind.free)∈scope.names->∃c,cl.lookup x=some c):=by
 refine Zsc fun p hp hk=>?_
 obtain⟨q,hq,e⟩:=zC.mp (S.free p hp hk)
 obtain⟨c,hc⟩:=I.ok.has q.1 (F.slots q hq).2
 exact⟨c,e▸hc⟩
theorem Zu0{wi:TI}(S:CompOk X scope locs fr)(F:FrOk X scope fr)(hc:X.calm=true)(hi:PI X tg iter wi)(inner:∀ (cl:List (Str×Addr)) (C:Addr) (s0:Shared) (H0:Hp) (ex:List Addr) (pn:List (Addr×Obj)),PG (ccx X scope cl C (inN locs fr) s0 H0 ex pn) tg g/\PTs (ccx X scope cl C (inN locs fr) s0 H0 ex pn) ifs tt/\PE (ccx X scope cl C (inN locs fr) s0 H0 ex pn) elt te)(hs:∀x,foldedSetIterable iter X.env x=pure x:=by intro _;rfl):PE X (.ListComp elt [⟨tg,iter,ifs,0⟩] scope pos) (Zpa locs.length fr wi g tt te):=by
 intro pins s σ H Q I h
 obtain⟨cl,hcl,cl1,cl2⟩:=S.clos F I
 rw[eval_ListComp]
 refine wpAny_comprehension_free (use:=none) rfl hs hcl S.kind S.names (thn (hi pins s σ H _ I h) fun v s1 h1=>thn h1 fun itv s2 h2=>?_)
 obtain⟨it,fp,tn,J,H1,e,I2,T,st2,f2,W,w0,turn⟩:=h2
 subst e
 refine Ztc (QQ:=fun ys H'=>∀l,H' l=none->Q (.ref l) (upd H' l (.lst ys))) (EE:=fun _ _ _=>False) hc S.kind S.nocell S.own F S.nd cl1 cl2 (fun C s0 H0 ex pn=>let ⟨a,b,_⟩:=inner cl C s0 H0 ex pn;⟨a,b⟩) (fun C pE s σ' H Y _ I h=>wpAny_mono ((inner cl C s2 H1 fp (X.pn++pins)).2.2 pE s σ' H Y I h) (fun _ _ q=>q) fun _ _ z=>z.elim) (fun _ _ _ _ _ _ _ _ _ z=>z.elim) I2 T st2 f2 w0 turn fun D C ys H' s' m nD hDC I' fC hn q=>?_
 refine⟨m,hn,fun h' hs'=>?_⟩
 obtain⟨f0,f1,f2,f3,f4,f5⟩:=fC
 exact⟨.ref D,_,I'.turned (it:=C) (t':=s'.toks) (fun b o hb e=>(hs'.2 b hb).trans e) f0 f1 f3 f4 f5,rfl,q D nD⟩
end
section
variable{X:Cx}{scope:Scope}{cl:List (Str×Addr)}{C:Addr}{N':List Str}{s0:Shared}{H0:Hp}{ex:List Addr}{pn:List (Addr×Obj)}
theorem pvL(i:Nat){x:Str}{pos:Pos}(hN:N'[i]? = some x:=by rfl)(h:scope.names.lookup x=some .local:=by rfl)(hd:(x == ("__debug__" : Str))=false:=by decide)(hcd:(x == ("__classdict__" : Str))=false:=by decide) :
  PE (ccx X scope cl C N' s0 H0 ex pn) (.Name x pos) (Y3 i):=Zef hN (.inl (lookup_relabel_local h)) hd hcd
theorem pvF(i:Nat){x:Str}{pos:Pos}(hN:N'[i]? = some x:=by rfl)(h:scope.names.lookup x=some .free:=by rfl)(hd:(x == ("__debug__" : Str))=false:=by decide)(hcd:(x == ("__classdict__" : Str))=false:=by decide) :
  PE (ccx X scope cl C N' s0 H0 ex pn) (.Name x pos) (Y3 i):=Zef hN ((Zfg h).elim (fun z=>.inr (.inl z)) fun z=>.inr (.inr z)) hd hcd
theorem pgL(i:Nat){x:Str}{pos:Pos}(hnd:N'.Nodup)(hN:N'[i]? = some x:=by rfl)(h:scope.names.lookup x=some .local:=by rfl):PG (ccx X scope cl C N' s0 H0 ex pn) (.Name x pos) (Wv i) :=
 Zmp (X:=ccx X scope cl C N' s0 H0 ex pn) hnd hN (.inl (lookup_relabel_local h)) (.inr (lookup_relabel_local h))
end
end
section
def sgn(x:Str)(i:Nat):V:=.str ⟨#[x.cps.getD i 0]⟩
def Its(x:Str):It:=⟨fun i _=>i < x.length,fun i H v H'=>H'=H/\v=sgn x i,fun i _=>i=x.length⟩
theorem Zkv{P:Program}{w:World}{A:Around}(hh:A.handled=none)(I:Addr)(x:Str)(t:Tok) :
  Walks P w A I [I] [I] x.cps.size (SignAt x) (fun i h=>h.IsStrIter I (strIterType x) x t i):=by
 unfold strIterType
 cases ha:x.cps.all (· < 128)
 ·exact Walks.strWide hh I x t
 ·exact Walks.strAscii hh I x t
theorem Zu1{P:Program}{w:World}{K:uFg}{tg:Expr}(it:Addr)(x:Str)(t:Tok):Turn P w K tg (Its x) [it] it (fun i h=>h.IsStrIter it (strIterType x) x t i) where
 mem:=by simp
 obj:=fun i h st b hb=>by
  have e:b=it:=by simpa using hb
  subst e
  obtain⟨o,e,c,d⟩:=st
  exact⟨o,e,fun v z=>by rw[d] at z;cases z⟩
 keep:=fun i h h' st k=>let ⟨o,ho,r⟩:=st;⟨o,k it (by simp) o ho,r⟩
 item:=by
  intro X hP hw hK hc i pins s σ H E I hf st hg
  subst hP hw hK
  obtain⟨f0,f1,f2,f3,f4,f5⟩:=hf it (by simp)
  refine(Zkv (I.ok.hd hc) it x t).item i s _ _ hg st fun v h' tk hv st' kk=>?_
  obtain⟨c,u,hcx,rfl⟩:=hv
  have I1:Inv X pins σ H {s with heap:=h',toks:=tk }:=I.turned (fun b o hb e=>kk b o (by simpa using hb) e) f0 f1 f3 f4 f5
  obtain⟨o,e,cc,d⟩:=id st'
  have hn : ["enumerate", "zip", "dict_itemiterator", "dict_reverseitemiterator", "odict_iterator", "itertools.zip_longest", "itertools.pairwise"].contains (strIterType x)=false:=by
   unfold strIterType
   split<;>decide
  refine⟨_,rfl,Zcb (s:={s with heap:=h',toks:=tk }) e cc d hn ⟨sgn x i,H,I1,⟨u,?_⟩,⟨rfl,rfl⟩,st',fun b hb=>(hf b hb).1⟩⟩
  rw[Array.getD_eq_getD_getElem?,hcx]
  all_goals rfl
 done:=by
  intro X hP hw hK hc i pins s σ H E I hf st hg
  subst hP hw hK
  obtain⟨f0,f1,f2,f3,f4,f5⟩:=hf it (by simp)
  have e:i=x.cps.size:=hg
  subst e
  exact(Zkv (I.ok.hd hc) it x t).done s _ _ st fun h' tk kk=>⟨rfl,I.turned (fun b o hb e=>kk b o (by simpa using hb) e) f0 f1 f3 f4 f5⟩
 self:=fun A i s Q E st h=>by
  have st:s.heap.IsStrIter it (strIterType x) x t i:=st
  unfold strIterType at st
  split at st
  ·exact wpAny_pyIter_striter_ascii st h
  ·exact wpAny_pyIter_striter_wide st h
def Zqn(te:TE):TI:=fun σ H R=>te σ H fun v H1=>∃x,v = .str x/\R (Its x) H1
theorem Zy6{X:Cx}{tg l:Expr}{tl:TE}(hl:PE X l tl):PI X tg l (Zqn tl):=by
 intro pins s σ H R I h
 refine thn (hl pins s σ H _ I h) fun v s1 ⟨y,H1,I1,r1,q1⟩=>?_
 obtain⟨x,e,q⟩:=q1
 subst e
 obtain⟨t,rfl⟩:=r1
 refine wpAny_pyIter_strU ?_
 refine⟨s1.heap.objs.size,[s1.heap.objs.size],_,_,H1,rfl,I1.kept (t':=s1.toks) fun b o e=>xA _ e,Zu1 _ x t,⟨_,xP _ rfl,rfl,rfl⟩,fun b hb=>?_,q⟩
 have e:b=s1.heap.objs.size:=by simpa using hb
 subst e
 exact I1.fpOk (xE _) (I1.hok.fresh (xE _))
section
variable{X:Cx}
theorem Ztd:OpR X (compareOp .LtE) (fun x y H Q=>∃i j,x = .str i/\y = .str j/\Q (.bl (!decide (j.cps.toList < i.cps.toList))) H):=by
 intro pins s σ H x y v u Q I rx ry h
 obtain⟨i,j,rfl,rfl,q⟩:=h
 obtain⟨t,rfl⟩:=rx
 obtain⟨t',rfl⟩:=ry
 exact P.le_str ⟨.bl _,H,I,rfl,q⟩
end
theorem Zk1{v:Value}{o:Option Int}(h:IsPart v o):∃l:Option (Int×Tok),v=partValue l/\l.map (·.1)=o:=by
 cases h with
 | none=>exact⟨none,rfl,rfl⟩
 | int i t=>exact⟨some (i,t),rfl,rfl⟩
section
variable{X:Cx}
theorem Zy7:SlR X (fun x lo hi H Q=>∃z,x = .str z/\z.length<=sizeLine/\Q (.str (Txt.slice z lo hi)) H):=by
 intro pins s σ H x v vl vu lo hi sl Q I rx hs pl pu h
 obtain⟨z,rfl,hz,q⟩:=h
 obtain⟨t,rfl⟩:=rx
 obtain⟨l,rfl,rfl⟩:=Zk1 pl
 obtain⟨u,rfl,rfl⟩:=Zk1 pu
 refine⟨"str", _,F.slot_str_getitem.lookup,typeIs_str _ _ _,?_⟩
 refine wpAny_getItem_str_slice (l:=l) (u:=u) (st:=none) hs rfl (post_val_or_str ⟨xT (Txt.slice_le z _ _) hz,fun t' k=>?_⟩)
 exact⟨.str _,H,I.tok _,⟨t',rfl⟩,q⟩
end
theorem Zsd{ys:List Str}:∀{us:List Value},Vals (ys.map V.str) us->StrsAre us ys:=by
 induction ys with
 | nil=>intro us r;rw[List.map_nil] at r;cases r;exact .nil
 | cons n ns ih =>
  intro us r
  rw[yE] at r
  cases r with
  | cons r1 r2 =>
   obtain⟨t,e⟩:=r1
   subst e
   exact .cons n t (ih r2)
section
variable{X:Cx}
theorem Zw8:MtR X "str.join" (fun x xs H Q=>∃sep a ys,x = .str sep/\xs = [.ref a]/\SqL X.K H a (ys.map V.str)/\(ys.map (·.length)).sum+ys.length * sep.length<=16777216/\Q (.str (Txt.join sep ys)) H):=by
 intro pins s σ H x xs v us Q I rx rs h
 obtain⟨sep,a,ys,rfl,rfl,ha,hz,q⟩:=h
 obtain⟨t,rfl⟩:=rx
 obtain⟨u,rfl,ru⟩:=Up rs
 cases ru
 obtain⟨its,r,p,_⟩:=I.list ha
 exact join_list p.isList (Zsd r) hz fun t' k=>⟨.str _,H,I.tok _,⟨t',rfl⟩,q⟩
theorem Zu2(hc:X.calm=true):Vd X (.builtin "all") (fun xs H Q=>∃(a:Addr)(bs:List Bool),xs = [.ref a]/\SqL X.K H a (bs.map V.bl)/\Q (.bl (bs.all id)) H):=by
 intro pins s σ H xs us Q I r h
 obtain⟨a,bs,rfl,ha,q⟩:=h
 obtain⟨u,rfl,ru⟩:=Up r
 cases ru
 obtain⟨its,rv,p,_⟩:=I.list ha
 have hlt:a < s.heap.objs.size:=by obtain⟨o,n,e,_⟩:=p;exact xM e
 refine call_all_walk (wpAny_pyIter_list p.isList ?_)
 refine⟨s.heap.objs.size,_,_,_,_,_,fun i=>bs.getD i true,rfl,Walks.list (A:=X.A.in1) (I.ok.hd hc) _ a (yD hlt) its.toArray,⟨⟨_,xP _ rfl,rfl,rfl⟩,p.isList.push _⟩,?_,fun h' tk hk=>?_⟩
 ·intro i v s' Q' E' hv hq
  have hv:its.toArray[i]? = some v:=hv
  have hv':its[i]? = some v:=by simpa using hv
  have hlen:bs.length=its.length:=by have:=rv.length;simpa using this
  have hi:i < its.length:=(xF.mp hv').1
  have hb:(bs.map V.bl)[i]? = some (V.bl (bs.getD i true)):=by
   rw[xO,xS,xC (by lia)]
   rfl
  obtain⟨u,hu,ru⟩:=rv.get hb
  rw[hv'] at hu
  cases hu
  cases ru
  exact wpAny_truthy_bool hq
 ·have hlen:its.toArray.size=bs.length:=by have:=rv.length;simp at this ⊢;lia
  have e:(List.range its.toArray.size).all (fun i=>bs.getD i true)=bs.all id:=by
   rw[hlen,zG,zE,zE]
   constructor
   ·intro h b hb
    obtain⟨i,hi,e⟩:=List.mem_iff_getElem.mp hb
    have:=h i (List.mem_range.mpr hi)
    rw[xS,xC hi,e] at this
    exact this
   ·intro h i hi
    have hi:=List.mem_range.mp hi
    rw[xS,xC hi]
    exact h _ (zX hi)
  refine⟨.bl (bs.all id),H,I.kept (h':=h') (t':=tk) (fun b o eb=>hk b o ?_ (xA _ eb)),by rw[e];rfl,q⟩
  intro z
  have:b=s.heap.objs.size:=by simpa using z
  exact absurd (xM eb) (by rw[this];exact zH _)
theorem Zkx:Vd X (.builtin "isinstance") (fun xs H Q=>∃x n t b,xs = [x,.ty n]/\TyOf X.K H x t/\PySem.W.kitOne X.K t (.type n)=some b/\Q (.bl b) H):=by
 intro pins s σ H xs us Q I r h
 obtain⟨x,n,t,b,rfl,ty,e,q⟩:=h
 obtain⟨u,w',rfl,ru,rw'⟩:=Zgv r
 cases rw'
 exact Zs4 I ru ty e fun tk=>⟨.bl b,H,I.tok _,rfl,q⟩
theorem Zu3(hc:X.calm=true):Vd X (.builtin "sum") (fun xs H Q=>∃(a:Addr)(ns:List Int),xs = [.ref a]/\SqL X.K H a (ns.map V.int)/\(∀n∈ns,-1000000000<=n/\n<=1000000000)/\ns.length<=1000000/\Q (.int ns.sum) H):=by
 intro pins s σ H xs us Q I r h
 obtain⟨a,ns,rfl,ha,hb,hl,q⟩:=h
 obtain⟨u,rfl,ru⟩:=Up r
 cases ru
 obtain⟨its,rv,p,_⟩:=I.list ha
 have hlt:a < s.heap.objs.size:=by obtain⟨o,n,e,_⟩:=p;exact xM e
 have hlen:ns.length=its.length:=by have:=rv.length;simpa using this
 have hpre:∀k,k<=ns.length->preSum (fun i=>ns.getD i 0) k=(ns.take k).sum:=by
  intro k
  induction k with
  | zero=>intro _;simp[preSum]
  | succ k ih =>
   intro hk
   have hk':k < ns.length:=hk
   rw[preSum,ih (zB hk'),yP,List.sum_append,xS,xC hk']
   simp
 have bnd:∀l:List Int,(∀n∈l,-1000000000<=n/\n<=1000000000)->-1000000000 * (l.length:Int)<=l.sum/\l.sum<=1000000000 * (l.length:Int):=by
  intro l
  induction l with
  | nil=>intro _;simp
  | cons x l ih =>
   intro h
   have h1:=h x yC
   have h2:=ih fun n hn=>h n (xW _ hn)
   rw[List.sum_cons,xU]
   lia
 refine call_sum_walk (wpAny_pyIter_list p.isList ?_)
 refine⟨s.heap.objs.size,_,_,_,_,_,fun i=>ns.getD i 0,rfl,Walks.list (A:=X.A.in1) (I.ok.hd hc) _ a (yD hlt) its.toArray,⟨⟨_,xP _ rfl,rfl,rfl⟩,p.isList.push _⟩,?_,?_,?_,fun h' tk t' hk=>?_⟩
 ·intro b hb
  show b < (s.heap.push _).objs.size
  rw[yY]
  rcases xD.mp hb with rfl | hb
  ·exact Nat.lt_succ_self _
  ·have:b=a:=by simpa using hb
   subst this
   exact Nat.lt_succ_of_lt hlt
 ·intro i v hv
  have hv:its.toArray[i]? = some v:=hv
  have hv':its[i]? = some v:=by simpa using hv
  have hi:i < its.length:=(xF.mp hv').1
  have hb:(ns.map V.int)[i]? = some (V.int (ns.getD i 0)):=by
   rw[xO,xS,xC (by lia)]
   rfl
  obtain⟨u,hu,ru⟩:=rv.get hb
  rw[hv'] at hu
  cases hu
  exact ru
 ·intro j hj
  have hj:j < its.toArray.size:=hj
  rw[xQ] at hj
  have hj':j < ns.length:=by lia
  refine⟨?_,?_⟩
  ·show InLong (ns.getD j 0)
   rw[xS,xC hj']
   have:=hb _ (zX hj')
   show -(2 ^ 63)<=ns[j]/\ns[j] < 2 ^ 63
   lia
  ·rw[hpre (j+1) hj']
   have:=bnd (ns.take (j+1)) fun n hn=>hb n (List.mem_of_mem_take hn)
   have hl2:(ns.take (j+1)).length<=1000000:=by rw[xX];lia
   show -(2 ^ 63)<=_/\_ < 2 ^ 63
   lia
 ·have e:preSum (fun i=>ns.getD i 0) its.toArray.size=ns.sum:=by
   rw[xQ,← hlen,hpre _ (xE _),yU]
  refine⟨.int ns.sum,H,I.kept (h':=h') (t':=tk) (fun b o eb=>hk b o ?_ (xA _ eb)),⟨t',by rw[e]⟩,q⟩
  intro z
  have:b=s.heap.objs.size:=by simpa using z
  exact absurd (xM eb) (by rw[this];exact zH _)
def Z0d(X:Cx)(f:Value)(kw:Str)(r:List V->V->Hp->VK->Prop):Prop :=
 ∀(pins:List (Addr×Obj))(s:Shared)(σ:St)(H:Hp)(xs:List V)(us:List Value)(k:V)(ku:Value)(Q:VK),Inv X pins σ H s->Vals xs us->RelV k ku->r xs k H Q ->
  wpAny (model X.prog X.w) X.A (call f us [(kw,ku)]) (EP X pins σ Q) X.xe s
end
section
variable{K:uFg}
end
end
end L2
end
section
namespace L2
open PySem PySem.Spec PyProof.Rows
def Has(K:uFg)(mg:Str->Option Value)(x:Str)(st:Stmt):Prop:=∃f fd,Fun K x x st f fd/\mg x=some (.ref f)
def Fn(P:Program)(w:World)(K:uFg)(mg:Str->Option Value)(base:Heap)(x:Str)(ps:List Str)(k:Nat)(sp:Sp):Prop :=
 ∃f fd,mg x=some (.ref f)/\PySem.W.keepIn K (.ref f)=true/\Binds K fd ps []/\FnOk P w K mg base CX0 k f fd ps sp
theorem Fn.imp{P:Program}{w:World}{K:uFg}{mg:Str->Option Value}{base:Heap}{x:Str}{ps:List Str}{k:Nat}{sp sp':Sp}(F:Fn P w K mg base x ps k sp)(h:∀vs H Q E,sp' vs H Q E->sp vs H Q E):Fn P w K mg base x ps k sp' :=
 let ⟨f,fd,a,b,c,d⟩:=F;⟨f,fd,a,b,c,d.imp h⟩
section
variable{P:Program}{w:World}{K:uFg}{mg:Str->Option Value}{base:Heap}
theorem Has.fn{x:Str}{st:Stmt}{N ps:List Str}{k:Nat}{sp:Sp}(h:Has K mg x st)(S:FnScope N ps (Zh st))(hb:∀ (kV doc pm:Value) (an:Option Addr) (cdv ct:Value) (us:List Value),us.length=ps.length->bindArgs (PySem.W.fnOf x x (Vj st) (Y4 st) (Zh st) .none kV doc pm an cdv ct) ⟨us,[]⟩=pure (ps.zip us))(len:∀vs H Q E,sp vs H Q E->vs.length=ps.length)(hbody:∀ (f:Addr) (cdv:Value) (A:Around) (outer:List Env) (s:Shared) (H:Hp) (vs:List V) (Q:VK) (E:XK),Room k (A.deeper (envOfC x (Zh st) s.heap.objs.size f cdv))->sp vs H Q E ->
   ∃t,PSs (Y6 CX0 P w K mg base N x (Zh st) f cdv A outer s H E).nox (Y4 st) t/\t {nx:=fun _ H'=>Q .non H',rt:=Q } (start N vs) H):Fn P w K mg base x ps (k+1) sp:=by
 obtain⟨f,fd,F,hm⟩:=h
 exact⟨f,fd,hm,F.kp,F.binds hb,F.ok S len fun cdv A outer s H vs Q E hr q=>hbody f cdv A outer s H vs Q E hr q⟩
theorem Zy8{h:Heap}{x:Str}{st:Stmt}{f:Addr}{oc:Value}{od an:Option Addr}{osl:Array (Option Value)}{kV doc pm cdv ct:Value}(KX:K.In h)(G:h.Ns mainGlobals mg)(a:PySem.W.nsIn K mainGlobals x=some (some (.ref f)))(l:K.lookup f=some ⟨oc,od,.func (PySem.W.fnOf x x (Vj st) (Y4 st) (Zh st) .none kV doc pm an cdv ct),osl⟩)(c:PySem.W.codeIn K cdv x=true)(k:PySem.W.keepIn K (.ref f)=true):Has K mg x st:=⟨f,_,Zgk l c k,PySem.W.mg_of KX G a⟩
theorem hQ{h:Heap}(x:Str)(st:Stmt)(f c:Addr)(pm:Value)(KX:K.In h)(G:h.Ns mainGlobals mg)(e:PySem.W.nsIn K mainGlobals x=some (some (.ref f))/\K.lookup f=some ⟨.type "function", none,.func (PySem.W.fnOf x x (Vj st) (Y4 st) (Zh st) .none .none .none pm none (.ref c) .none),#[]⟩/\PySem.W.codeIn K (.ref c) x=true/\PySem.W.keepIn K (.ref f)=true):Has K mg x st:=Zy8 KX G e.1 e.2.1 e.2.2.1 e.2.2.2
end
def tFn(sp:Sp)(t:TA):TE:=fun σ H Q=>t σ H fun vs H1=>sp vs H1 Q E0
section
variable{X:Cx}
theorem Z0e{k:Nat}{ps:List Str}{sp:Sp}{x:Str}{p pos:Pos}{e:Expr}{es:List Expr}{t:TA}(F:Fn X.prog X.w X.K X.mg X.base x ps k sp)(hr:Room k X.A)(hg:Gl X x)(ha:PA X (e::es) t)(hdb:(x == ("__debug__" : Str))=false:=by decide)(he:starEach (e::es) X.env=(false,eval e X.env)::starEach es X.env:=by rfl)(hpl:(backTo pos (starEach es X.env)).any (·.1)=false:=by rfl) :
  PE X (.Call (.Name x p) (e::es) [] pos) (tFn sp t):=by
 obtain⟨f,fd,hm,hk,hb,G⟩:=F
 intro pins s σ H Q I h
 refine Zws G hr hg hm hk hb .nil Zer ha hdb he hpl pins s σ H Q I ?_
 have e:Zgw sp [] E0 t=tFn sp t:=by
  unfold Zgw tFn
  simp only[yQ]
 rw[e]
 exact h
theorem Zy9:UnR X (unaryOp .USub) (rU fun i=>.int (-i)):=by
 intro pins s σ H x v Q I rx h
 obtain⟨i,rfl,q⟩:=h
 obtain⟨t,rfl⟩:=rx
 exact neg_int ⟨.int (-i),H,I.tok _,⟨_,rfl⟩,q⟩
end
theorem Y0:bootBuiltins "len" = some (.builtin "len"):=by decide +kernel
theorem Zpb:bootBuiltins "max" = some (.builtin "max"):=by decide +kernel
theorem Zpc:bootBuiltins "sum" = some (.builtin "sum"):=by decide +kernel
theorem Z0f:bootBuiltins "all" = some (.builtin "all"):=by decide +kernel
theorem V4:bootBuiltins "isinstance" = some (.builtin "isinstance"):=by decide +kernel
theorem V9:bootBuiltins "list" = some (.type "list"):=by decide +kernel
theorem Zgl:bootBuiltins "bool" = some (.type "bool"):=by decide +kernel
theorem Zgx:bootBuiltins "int" = some (.type "int"):=by decide +kernel
theorem Zpd:bootBuiltins "str" = some (.type "str"):=by decide +kernel
theorem Zf6:bootBuiltins "tuple" = some (.type "tuple"):=by decide +kernel
def SameX(s:Addr)(H H':Hp):Prop:=∀b o,b≠s->H b=some o->H' b=some o
theorem SameX.refl{s:Addr}{H:Hp}:SameX s H H:=fun _ _ _ e=>e
theorem SameX.trans{s:Addr}{H H1 H2:Hp}(a:SameX s H H1)(b:SameX s H1 H2):SameX s H H2:=fun c o n e=>b c o n (a c o n e)
theorem SameX.upd{s:Addr}{H:Hp}{o:HO}:SameX s H (upd H s o):=fun b _ n e=>by rw[Zc n];exact e
theorem SameX.new{s l:Addr}{H:Hp}{o:HO}(h:H l=none):SameX s H (L2.upd H l o):=fun b _ _ e=>by rw[Zc (Zj e h)];exact e
theorem Same.new{l:Addr}{H:Hp}{o:HO}(h:H l=none):Same H (L2.upd H l o):=fun b _ e=>by rw[Zc (Zj e h)];exact e
def SrcAt(H:Hp)(s la:Addr):Prop:=∃(ns:List Int)(i big st cnt:Int),H s=some (.lst [.ref la,.int i,.int big,.int st,.int cnt])/\H la=some (.lst (ns.map V.int))/\0<=i/\la≠s
theorem SrcAt.keep{H H':Hp}{s la:Addr}(h:SrcAt H s la)(k:Same H H'):SrcAt H' s la:=by
 obtain⟨ns,i,big,st,cnt,h1,h2,h3,h4⟩:=h
 exact⟨ns,i,big,st,cnt,k _ _ h1,k _ _ h2,h3,h4⟩
theorem SrcAt.keepX{H H':Hp}{s la l:Addr}(h:SrcAt H s la)(k:SameX l H H')(n1:l≠s)(n2:l≠la):SrcAt H' s la:=by
 obtain⟨ns,i,big,st,cnt,h1,h2,h3,h4⟩:=h
 exact⟨ns,i,big,st,cnt,k _ _ n1.symm h1,k _ _ n2.symm h2,h3,h4⟩
theorem SrcAt.ne{H:Hp}{s la l:Addr}(h:SrcAt H s la)(hl:H l=none):l≠s/\l≠la:=by
 obtain⟨ns,i,big,st,cnt,h1,h2,h3,h4⟩:=h
 exact⟨(Zj h1 hl).symm,(Zj h2 hl).symm⟩
end L2
namespace L2
open PySem PySem.Spec PyProof.Rows
theorem Yg{c A B:Prop} [Decidable c] (h1:c->A) (h2:¬c->B):if decide c=true then A else B:=by
 by_cases h:c
 ·rw[if_pos (yL h)];exact h1 h
 ·rw[if_neg (by rw[yI h];exact xH)];exact h2 h
theorem Yq{c A B:Prop} [Decidable c] (h1:¬c->A) (h2:c->B):if (!decide c)=true then A else B:=by
 by_cases h:c
 ·rw[if_neg (by rw[yL h];exact xH)];exact h2 h
 ·rw[if_pos (by rw[yI h];rfl)];exact h1 h
theorem Zqo{b:Bool}{A B:Prop}(h1:b=true->A)(h2:b=false->B):if b=true then A else B:=by
 cases b
 ·rw[if_neg xH];exact h2 rfl
 ·rw[if_pos rfl];exact h1 rfl
theorem Zgy{b:Bool}{A B:Prop}(h1:b=false->A)(h2:b=true->B):if (!b)=true then A else B:=by
 cases b
 ·exact h1 rfl
 ·exact h2 rfl
theorem Zw9{ns:List Int}{i:Int}(h0 : 0<=i)(h1:i < (ns.map V.int).length):atI (ns.map V.int) i=some (.int (ns.getD i.toNat 0)):=by
 obtain⟨j,rfl⟩:=yK h0
 rw[xB] at h1
 refine Va ?_
 rw[xO,yN,xS,xC (by lia)]
 rfl
end L2
namespace L2
open PySem PySem.Spec PyProof.Rows
def Nm(sc:Scope)(x:Str)(k:NameKind):Prop:=sc.names.lookup x=some k/\(x == ("__debug__" : Str))=false/\(x == ("__classdict__" : Str))=false/\x ≠ "__name__"
instance (sc:Scope) (x:Str) (k:NameKind):Decidable (Nm sc x k):=by unfold Nm;exact inferInstance
section
variable{X:Cx}{x:Str}{pos:Pos}
theorem al1{α:Type _}{P:List α->Prop}(k:∀a,P [a]):∀l:List α,l.length=1->P l
 | [a],_=>k a
theorem al2{α:Type _}{P:List α->Prop}(k:∀a b,P [a,b]):∀l:List α,l.length=2->P l
 | [a,b],_=>k a b
theorem al3{α:Type _}{P:List α->Prop}(k:∀a b c,P [a,b,c]):∀l:List α,l.length=3->P l
 | [a,b,c],_=>k a b c
theorem al4{α:Type _}{P:List α->Prop}(k:∀a b c d,P [a,b,c,d]):∀l:List α,l.length=4->P l
 | [a,b,c,d],_=>k a b c d
theorem al5{α:Type _}{P:List α->Prop}(k:∀a b c d e,P [a,b,c,d,e]):∀l:List α,l.length=5->P l
 | [a,b,c,d,e],_=>k a b c d e
theorem al6{α:Type _}{P:List α->Prop}(k:∀a b c d e f,P [a,b,c,d,e,f]):∀l:List α,l.length=6->P l
 | [a,b,c,d,e,f],_=>k a b c d e f
theorem al7{α:Type _}{P:List α->Prop}(k:∀a b c d e f g,P [a,b,c,d,e,f,g]):∀l:List α,l.length=7->P l
 | [a,b,c,d,e,f,g],_=>k a b c d e f g
theorem al8{α:Type _}{P:List α->Prop}(k:∀a b c d e f g h,P [a,b,c,d,e,f,g,h]):∀l:List α,l.length=8->P l
 | [a,b,c,d,e,f,g,h],_=>k a b c d e f g h
def nmB(X:Cx)(x:Str)(k:NameKind):Bool:=decide (Nm X.env.scope x k)
def ndB(X:Cx):Bool:=decide X.N.Nodup
abbrev nB(X:Cx)(x:Str)(k:NameKind):Prop:=nmB X x k=true
abbrev nD(X:Cx):Prop:=ndB X=true
theorem od{p:Prop} [Decidable p] (h:decide p=true):p:=of_decide_eq_true h
theorem fsc{N P:List Str}{sc:Scope}(a:sc.kind = .function:=by rfl)(h:decide (sc.isCoroutine=false/\sc.isGenerator=false/\N.Nodup/\N.take P.length=P/\(∀x∈P,sc.names.lookup x=some .local\/sc.names.lookup x=some .cell)/\∀y∈sc.names,y.2 ≠ .free)=true:=by kernel_rfl):FnScope N P sc :=
 have ⟨b,c,d,e,f,g⟩:=od h;⟨a,b,c,d,e,f,g⟩
theorem pvN(i:Nat)(n:Nm X.env.scope x .local)(hN:X.N[i]? = some x:=by rfl):PE X (.Name x pos) (Y3 i):=Zef hN (.inl n.1) n.2.1 n.2.2.1
theorem pvC(i:Nat)(n:Nm X.env.scope x .cell)(hN:X.N[i]? = some x:=by rfl):PE X (.Name x pos) (Y3 i):=Zef hN (.inr (.inl n.1)) n.2.1 n.2.2.1
theorem Zu4{v:V}{u:Value}(n:Nm X.env.scope x .globalImplicit)(hm:X.mg x=some u)(r:RelV v u):PE X (.Name x pos) (tC v):=Zwc n.1 hm r n.2.1
theorem Zu5{v:V}{u:Value}(n:Nm X.env.scope x .globalImplicit)(hm:X.mg x=none)(hv:bootBuiltins x=some u)(r:RelV v u):PE X (.Name x pos) (tC v):=Zwd n.1 hm hv r n.2.2.2 n.2.1
theorem Zza{k:Nat}{ps:List Str}{sp:Sp}{p:Pos}{e:Expr}{es:List Expr}{t:TA}(F:Fn X.prog X.w X.K X.mg X.base x ps k sp)(hr:Room k X.A)(n:Nm X.env.scope x .globalImplicit)(ha:PA X (e::es) t)(he:starEach (e::es) X.env=(false,eval e X.env)::starEach es X.env:=by rfl)(hpl:(backTo pos (starEach es X.env)).any (·.1)=false:=by rfl) :
  PE X (.Call (.Name x p) (e::es) [] pos) (tFn sp t):=Z0e F hr n.1 ha n.2.1 he hpl
theorem Zte{p:Pos}{e:Expr}{es:List Expr}{t:TA}{id:String}{r:List V->Hp->VK->Prop}(hc:Vd X (.builtin id) r)(n:Nm X.env.scope x .globalImplicit)(hm:X.mg x=none)(hv:bootBuiltins x=some (.builtin id))(ha:PA X (e::es) t)(he:starEach (e::es) X.env=(false,eval e X.env)::starEach es X.env:=by rfl)(hpl:(backTo pos (starEach es X.env)).any (·.1)=false:=by rfl):PE X (.Call (.Name x p) (e::es) [] pos) (tCB r t):=Zuo hc n.1 hm hv ha n.2.2.2 n.2.1 he hpl
theorem Zse{p:Pos}{e:Expr}{es:List Expr}{t:TA}{T:String}{r:List V->Hp->VK->Prop}(hc:Vd X (.type T) r)(n:Nm X.env.scope x .globalImplicit)(hm:X.mg x=none)(hv:bootBuiltins x=some (.type T))(ha:PA X (e::es) t)(he:starEach (e::es) X.env=(false,eval e X.env)::starEach es X.env:=by rfl)(hpl:(backTo pos (starEach es X.env)).any (·.1)=false:=by rfl):PE X (.Call (.Name x p) (e::es) [] pos) (tCB r t):=Zs5 hc n.1 hm hv ha n.2.2.2 n.2.1 he hpl
theorem Zxa{i:Nat}{e:Expr}{te:TE}{pos':Pos}(hN:X.N.Nodup)(n:Nm X.env.scope x .local)(he:PE X e te)(hi:X.N[i]? = some x:=by rfl)(hs:swapsWith e (some (.Name x pos')) pos.line X.env=pure false:=by rfl) :
  PS X (.Assign [.Name x pos'] e pos) (Uw te (Wv i)):=Znr hN hi (.inl n.1) he hs (.inr n.1)
theorem Zu6{i:Nat}{e:Expr}{te:TE}{pos':Pos}(hN:X.N.Nodup)(n:Nm X.env.scope x .cell)(he:PE X e te)(hf:X.fn x=true:=by rfl)(hi:X.N[i]? = some x:=by rfl)(hs:swapsWith e (some (.Name x pos')) pos.line X.env=pure false:=by rfl) :
  PS X (.Assign [.Name x pos'] e pos) (Uw te (Wv i)):=Znr hN hi (.inr n.1) he hs (.inl hf)
theorem Zu7{i:Nat}(hN:X.N.Nodup)(n:Nm X.env.scope x .local)(hi:X.N[i]? = some x:=by rfl):PG X (.Name x pos) (Wv i):=Zmp hN hi (.inl n.1) (.inr n.1)
end
section
variable{X:Cx}{scope:Scope}{cl:List (Str×Addr)}{C:Addr}{N':List Str}{s0:Shared}{H0:Hp}{ex:List Addr}{pn:List (Addr×Obj)}{x:Str}{pos:Pos}
theorem Z4i(i:Nat)(n:Nm scope x .local:=by decide +kernel)(hN:N'[i]? = some x:=by rfl):PE (ccx X scope cl C N' s0 H0 ex pn) (.Name x pos) (Y3 i):=pvL i hN n.1 n.2.1 n.2.2.1
theorem Z4j(i:Nat)(n:Nm scope x .free:=by decide +kernel)(hN:N'[i]? = some x:=by rfl):PE (ccx X scope cl C N' s0 H0 ex pn) (.Name x pos) (Y3 i):=pvF i hN n.1 n.2.1 n.2.2.1
theorem Z4k(i:Nat)(hnd:N'.Nodup)(n:Nm scope x .local:=by decide +kernel)(hN:N'[i]? = some x:=by rfl):PG (ccx X scope cl C N' s0 H0 ex pn) (.Name x pos) (Wv i):=pgL i hnd hN n.1
theorem Z4l(n:Nm scope x .globalImplicit:=by decide +kernel):Nm (ccx X scope cl C N' s0 H0 ex pn).env.scope x .globalImplicit:=⟨Zko (by decide) n.1,n.2⟩
theorem nmC(n:Nm scope x .globalImplicit:=by decide +kernel):nB (ccx X scope cl C N' s0 H0 ex pn) x .globalImplicit:=yL (Z4l n)
theorem FrOk.consN{j:Nat}{fr:List (Str×Nat)}(n:Nm X.env.scope x .cell)(t:FrOk X scope fr)(m:Nm scope x .free:=by decide +kernel)(h1:X.N[j]? = some x:=by rfl):FrOk X scope ((x,j)::fr):=.cons h1 (.inl n.1) m.1 t
end
end L2
end
section
namespace L2
open PySem PySem.Spec PyProof.Rows
def cs(x:Str):List Nat:=x.cps.toList
theorem Wy(x:Str):(cs x).length=x.length:=by unfold cs;exact Array.length_toList
theorem Zeh(x y:Str):cs (x++y)=cs x++cs y:=by unfold cs;rw[PySem.Str.cps_append,Array.toList_append]
theorem Zpe(l:List Nat):cs ⟨l.toArray⟩=l:=by unfold cs;simp
theorem Zk2(xs:List Nat)(lo:Nat):∀m,lo+m<=xs.length->((List.range m).map (lo + ·)).filterMap (xs[·]?)=(xs.drop lo).take m:=by
 intro m
 induction m with
 | zero=>intro _;simp
 | succ m ih =>
  intro h
  rw[List.range_succ,xV,List.filterMap_append,ih (by lia),yP,List.getElem?_drop]
  have:lo+m < xs.length:=by lia
  simp[xC this]
theorem Zf7(x:Str){i:Int}(h : 0<=i):cs (Txt.slice x none (some i))=(cs x).take i.toNat:=by
 have hl:=Wy x
 have e:Builtin.Str.strSliceIndices none (some i) 1 x.length=(List.range (min i.toNat x.length)).map (0 + ·):=by
  unfold Builtin.Str.strSliceIndices sliceRange
  simp only[show (1:Int) > 0 by decide,if_true]
  have e1:(if i < 0 then i+(x.length:Int) else i)=i:=if_neg (by lia)
  rw[e1]
  have e2:(if (0:Int) < max 0 (min i (x.length:Int)) then (max 0 (min i (x.length:Int)) - 0+1 - 1) / 1 else 0).toNat=min i.toNat x.length:=by
   split<;>(try simp only[Int.ediv_one])<;>lia
  rw[e2]
  apply List.map_congr_left
  intro k _
  lia
 unfold Txt.slice
 rw[e]
 split
 ·rename_i hc
  have hc:((List.range (min i.toNat x.length)).map (0 + ·)).length=x.length:=by simpa using hc
  rw[xB,List.length_range] at hc
  rw[yG (by lia)]
 ·rw[Zpe]
  have:=Zk2 (cs x) 0 (min i.toNat x.length) (by lia)
  rw[List.drop_zero] at this
  have e3:(cs x).take (min i.toNat x.length)=(cs x).take i.toNat:=by
   rw[← hl]
   by_cases h1:i.toNat<=(cs x).length
   ·rw[Nat.min_eq_left h1]
   ·rw[Nat.min_eq_right (by lia),yG (by lia),yG (by lia)]
  rw[← e3,← this]
  congr 1
  funext k
  unfold cs
  simp
theorem Zxb(x:Str){i:Int}(h : 0<=i):cs (Txt.slice x (some i) none)=(cs x).drop i.toNat:=by
 have hl:=Wy x
 have e:Builtin.Str.strSliceIndices (some i) none 1 x.length=(List.range (x.length - min i.toNat x.length)).map (min i.toNat x.length + ·):=by
  unfold Builtin.Str.strSliceIndices sliceRange
  simp only[show (1:Int) > 0 by decide,if_true]
  have e1:(if i < 0 then i+(x.length:Int) else i)=i:=if_neg (by lia)
  rw[e1]
  have e2:(if max 0 (min i (x.length:Int)) < (x.length:Int) then ((x.length:Int) - max 0 (min i (x.length:Int))+1 - 1) / 1 else 0).toNat=x.length - min i.toNat x.length:=by
   split<;>(try simp only[Int.ediv_one])<;>lia
  rw[e2]
  apply List.map_congr_left
  intro k _
  lia
 unfold Txt.slice
 rw[e]
 split
 ·rename_i hc
  have hc:((List.range (x.length - min i.toNat x.length)).map (min i.toNat x.length + ·)).length=x.length:=by simpa using hc
  rw[xB,List.length_range] at hc
  by_cases h0:i.toNat=0
  ·rw[h0,List.drop_zero]
  ·have:x.length=0:=by lia
   rw[List.drop_of_length_le (by lia)]
   exact List.length_eq_zero_iff.mp (by lia)
 ·rw[Zpe]
  have:=Zk2 (cs x) (min i.toNat x.length) (x.length - min i.toNat x.length) (by lia)
  have e3:((cs x).drop (min i.toNat x.length)).take (x.length - min i.toNat x.length)=(cs x).drop i.toNat:=by
   rw[yG (by rw[List.length_drop];lia)]
   by_cases h1:i.toNat<=x.length
   ·rw[Nat.min_eq_left h1]
   ·rw[Nat.min_eq_right (by lia),List.drop_of_length_le (by lia),List.drop_of_length_le (by lia)]
  rw[← e3,← this]
  congr 1
  funext k
  unfold cs
  simp
theorem Zu8:∀ys:List Str,cs (Txt.join "" ys)=(ys.map cs).flatten:=by
 have go:∀(ys:List Str)(a:Array Nat),(ys.foldl (fun acc p=>acc++(("" : Str)).cps++p.cps) a).toList=a.toList++(ys.map cs).flatten:=by
  intro ys
  induction ys with
  | nil=>intro a;simp
  | cons y r ih =>
   intro a
   rw[List.foldl_cons,ih]
   have:(("" : Str)).cps = #[]:=by decide +kernel
   rw[this]
   simp[cs]
 intro ys
 show (cs (Builtin.Str.glued "" ys))=_
 unfold Builtin.Str.glued
 cases ys with
 | nil=>decide +kernel
 | cons y r =>
  show (List.foldl _ y.cps r).toList=_
  rw[go]
  rfl
def Low(x:Str):Prop:=∀c∈cs x,97<=c/\c<=122
def letters:Str:="abcdefghijklmnopqrstuvwxyz"
theorem Zsf:cs letters=(List.range 26).map (97 + ·):=by decide +kernel
theorem Zfk{d:Int}(h0 : 0<=d)(h1:d < 26):atI letters.cps.toList d=some (97+d.toNat):=by
 obtain⟨j,rfl⟩:=yK h0
 refine Va ?_
 show (cs letters)[j]? = _
 rw[Zsf,xO,zQ (by lia)]
 rfl
theorem Zc1{J:It}{nl:Nat}{fv:St}{g:TG}{tt:TTs}{te:TE}{Q:VK}{H:Hp}{xs:List V}(Pv:Nat->List V->Hp->Prop)(h0:Pv 0 [] H)(hn:xs.length<=1000000)(hgo:∀i H ys,i < xs.length->Pv i ys H->J.go i H)(hy:∀i H x H' ys,i < xs.length->Pv i ys H->J.yld i H x H'->H'=H/\xs[i]? = some x)(hst:∀H ys,Pv xs.length ys H->J.stop xs.length H)(hlen:∀i ys H,Pv i ys H->ys.length<=i)(step:∀i x ys H,xs[i]? = some x->Pv i ys H->Vp nl fv g tt te x H (fun y H'=>Pv (i+1) (ys ++ [y]) H') fun H'=>Pv (i+1) ys H')(hd:∀ys H,Pv xs.length ys H->∀l,H l=none->Q (.ref l) (upd H l (.lst ys))) :
  Uf J nl fv g tt te Q H:=by
 have mono:∀{x:V}{H:Hp}{Y Y':V->Hp->Prop}{N N':Hp->Prop},Vp nl fv g tt te x H Y N->Y=Y'->N=N'->Vp nl fv g tt te x H Y' N':=fun h e1 e2=>by subst e1;subst e2;exact h
 refine⟨fun i m ys H=>m=xs.length - i/\i<=xs.length/\Pv i ys H,⟨xs.length,by simp,yJ _,h0⟩,?_⟩
 rintro i m ys H ⟨rfl,hi,p⟩
 have hl:=hlen i ys H p
 have hz:(1000000:Nat) < sizeLine:=by decide
 by_cases hlt:i < xs.length
 ·refine .inr ⟨hgo i H ys hlt p,by lia,xs.length - (i+1),by lia,fun x H' y=>?_⟩
  obtain⟨e,ex⟩:=hy i H x H' ys hlt p y
  subst e
  refine mono (step i x ys _ ex p) ?_ ?_
  ·funext y H4
   apply propext
   exact⟨fun q=>⟨rfl,hlt,q⟩,fun q=>q.2.2⟩
  ·funext H3
   apply propext
   exact⟨fun q=>⟨rfl,hlt,q⟩,fun q=>q.2.2⟩
 ·have e:i=xs.length:=by lia
  subst e
  exact .inl ⟨hst H ys p,by lia,hd ys H p⟩
def Zcg(lo:Int)(n:Nat):List V:=(List.range n).map fun k=>V.int (lo+(k:Nat))
theorem Zby(lo:Int)(n:Nat):(Zcg lo n).length=n:=by simp[Zcg]
theorem Zu9{lo:Int}{n i:Nat}{x:V}(h:(Zcg lo n)[i]? = some x):i < n/\x = .int (lo+(i:Nat)):=by
 have hi:i < n:=by have:=(xF.mp h).1;rwa [Zby] at this
 refine⟨hi,?_⟩
 unfold Zcg at h
 rw[xO,zQ hi] at h
 exact(Option.some.inj h).symm
theorem Zsg{lo:Int}{n:Nat}{nl:Nat}{fv:St}{g:TG}{tt:TTs}{te:TE}{Q:VK}{H:Hp}(Pv:Nat->List V->Hp->Prop)(h0:Pv 0 [] H)(hn:n<=1000000)(hlen:∀i ys H,Pv i ys H->ys.length<=i)(step:∀i ys H,i < n->Pv i ys H->Vp nl fv g tt te (.int (lo+(i:Nat))) H (fun y H'=>Pv (i+1) (ys ++ [y]) H') fun H'=>Pv (i+1) ys H')(hd:∀ys H,Pv n ys H->∀l,H l=none->Q (.ref l) (upd H l (.lst ys))) :
  Uf (Itr lo n) nl fv g tt te Q H:=by
 refine Zc1 (xs:=Zcg lo n) Pv h0 (by rw[Zby];exact hn) ?_ ?_ ?_ hlen ?_ ?_
 ·intro i H ys hi _
  rw[Zby] at hi
  exact hi
 ·rintro i H x H' ys hi _ ⟨rfl,rfl⟩
  rw[Zby] at hi
  refine⟨rfl,?_⟩
  unfold Zcg
  rw[xO,zQ hi]
  rfl
 ·intro H ys _
  rw[Zby]
  exact xE _
 ·intro i x ys H hx p
  obtain⟨hi,rfl⟩:=Zu9 hx
  exact step i ys H hi p
 ·intro ys H p
  rw[Zby] at p
  exact hd ys H p
theorem Zds{K:uFg}{a:Addr}{xs:List V}{nl:Nat}{fv:St}{g:TG}{tt:TTs}{te:TE}{Q:VK}{H:Hp}(Pv:Nat->List V->Hp->Prop)(h0:Pv 0 [] H)(hn:xs.length<=1000000)(hl:∀i ys H,i<=xs.length->Pv i ys H->SqL K H a xs)(hlen:∀i ys H,Pv i ys H->ys.length<=i)(step:∀i x ys H,xs[i]? = some x->Pv i ys H->Vp nl fv g tt te x H (fun y H'=>Pv (i+1) (ys ++ [y]) H') fun H'=>Pv (i+1) ys H')(hd:∀ys H,Pv xs.length ys H->∀l,H l=none->Q (.ref l) (upd H l (.lst ys))) :
  Uf (Itl K a) nl fv g tt te Q H:=by
 refine Zc1 (xs:=xs) Pv h0 hn ?_ ?_ ?_ hlen step hd
 ·intro i H ys hi p
  exact⟨xs,xs[i],hl i ys H (zB hi) p,by simp[hi]⟩
 ·rintro i H x H' ys hi p ⟨rfl,y⟩
  exact⟨rfl,y xs (hl i ys _ (zB hi) p)⟩
 ·intro H ys p
  exact⟨xs,hl _ ys H (xE _) p,xE _⟩
theorem Zva{x:Str}{nl:Nat}{fv:St}{g:TG}{tt:TTs}{te:TE}{Q:VK}{H:Hp}(Pv:Nat->List V->Hp->Prop)(h0:Pv 0 [] H)(hn:x.length<=1000000)(hlen:∀i ys H,Pv i ys H->ys.length<=i)(step:∀i ys H,i < x.length->Pv i ys H->Vp nl fv g tt te (sgn x i) H (fun y H'=>Pv (i+1) (ys ++ [y]) H') fun H'=>Pv (i+1) ys H')(hd:∀ys H,Pv x.length ys H->∀l,H l=none->Q (.ref l) (upd H l (.lst ys))) :
  Uf (Its x) nl fv g tt te Q H:=by
 have ln:((List.range x.length).map fun i=>sgn x i).length=x.length:=by simp
 refine Zc1 (xs:=(List.range x.length).map fun i=>sgn x i) Pv h0 (by rw[ln];exact hn) ?_ ?_ ?_ hlen ?_ ?_
 ·intro i H ys hi _
  rw[ln] at hi
  exact hi
 ·rintro i H v H' ys hi _ ⟨rfl,rfl⟩
  rw[ln] at hi
  refine⟨rfl,?_⟩
  rw[xO,zQ hi]
  rfl
 ·intro H ys _
  rw[ln]
  exact rfl
 ·intro i v ys H hx p
  have hi:i < x.length:=by have:=(xF.mp hx).1;rwa [ln] at this
  rw[xO,zQ hi] at hx
  cases hx
  exact step i ys H hi p
 ·intro ys H p
  rw[ln] at p
  exact hd ys H p
theorem Zch{ls:St}(h:ls.length=1):∃a,ls = [a]:=by
 match ls,h with
 | [a],_=>exact⟨a,rfl⟩
theorem Zfc{ls:St}(h:ls.length=2):∃a b,ls = [a,b]:=by
 match ls,h with
 | [a,b],_=>exact⟨a,b,rfl⟩
end L2
end
section
namespace L2
open PySem PySem.Spec PyProof.Rows
structure QE (X:Cx) (e:Expr) (t:TE):Prop where
 h:PE X e t
structure QT (X:Cx) (e:Expr) (t:TT):Prop where
 h:PT X e t
structure QW (X:Cx) (e:Expr) (t:TT):Prop where
 h:PW X e t
structure QS (X:Cx) (s:Stmt) (t:TS):Prop where
 h:PS X s t
structure QSs (X:Cx) (s:List Stmt) (t:TS):Prop where
 h:PSs X s t
structure QA (X:Cx) (es:List Expr) (t:TA):Prop where
 h:PA X es t
structure QG (X:Cx) (e:Expr) (t:TG):Prop where
 h:PG X e t
structure QGs (X:Cx) (es:List Expr) (t:TGs):Prop where
 h:PGs X es t
structure QI (X:Cx) (tg iter:Expr) (t:TI):Prop where
 h:PI X tg iter t
structure QO (X:Cx) (e:Option Expr) (t:TO):Prop where
 h:PO X e t
structure QTs (X:Cx) (es:List Expr) (t:TTs):Prop where
 h:PTs X es t
structure QOp (X:Cx) (f:Value->Value->Sem Value) (r:R2):Prop where
 h:OpR X f r
structure QUn (X:Cx) (f:Value->Sem Value) (r:V->Hp->VK->Prop):Prop where
 h:UnR X f r
structure QC (X:Cx) (f:Value) (r:List V->Hp->VK->Prop):Prop where
 h:Vd X f r
structure QCk (X:Cx) (f:Value) (kw:Str) (r:List V->V->Hp->VK->Prop):Prop where
 h:Z0d X f kw r
structure QIx (X:Cx) (r:R2):Prop where
 h:IxR X r
structure QSl (X:Cx) (r:V->Option Int->Option Int->Hp->VK->Prop):Prop where
 h:SlR X r
structure QM (X:Cx) (id:String) (r:V->List V->Hp->VK->Prop):Prop where
 h:MtR X id r
structure QSet (X:Cx) (t:Zdh):Prop where
 h:Zj3 X t
structure QIp (X:Cx) (op:Operator) (t:TIp):Prop where
 h:PIp X op t
section
variable{X:Cx}{a b c:Expr}{ta tb tc te:TE}{tA tB':TT}{pos p p2 pos':Pos}{st:Stmt}{rest:List Stmt}{t u:TS}{x:Str}{es:List Expr}{e:Expr}
theorem Zo:QSs X [] Wr:=⟨Zwf⟩
theorem Ze(h1:QS X st t)(h2:QSs X rest u):QSs X (st::rest) (V2 t u):=⟨Zuc h1.h h2.h⟩
theorem Zf(h1:QS X st t):QSs X [st] t:=⟨Zwg h1.h⟩
theorem Zu(h:QE X e te):QS X (.Return (some e) pos) (Zqc te):=⟨Zyj h.h⟩
theorem Zp{c:Expr}{a b:List Stmt}{tc:TT}(hc:QT X c tc)(ha:QSs X a t)(hb:QSs X b u):QS X (.If c a b pos) (Zdg tc t u):=⟨Zz1 hc.h ha.h hb.h⟩
theorem Zi(he:QE X e te)(hs:swapsWith e none pos.line X.env=pure false:=by rfl):QS X (.Expr e pos) (Zep te):=⟨Zwh he.h hs⟩
theorem Z4(i:Nat)(he:QE X e te)(hN:nD X:=by kernel_rfl)(n:nB X x .local:=by kernel_rfl)(hi:X.N[i]? = some x:=by rfl)(hs:swapsWith e (some (.Name x pos')) pos.line X.env=pure false:=by rfl) :
  QS X (.Assign [.Name x pos'] e pos) (Uw te (Wv i)):=⟨Zxa (od hN) (od n) he.h hi hs⟩
theorem Zvb{i:Nat}(hN:X.N.Nodup)(n:Nm X.env.scope x .cell)(he:QE X e te)(hf:X.fn x=true:=by rfl)(hi:X.N[i]? = some x:=by rfl)(hs:swapsWith e (some (.Name x pos')) pos.line X.env=pure false:=by rfl) :
  QS X (.Assign [.Name x pos'] e pos) (Uw te (Wv i)):=⟨Zu6 hN n he.h hf hi hs⟩
theorem Zap{tg:Expr}{g:TG}(he:QE X e te)(hg:QG X tg g)(hs:swapsWithSole [tg] e pos.line X.env=pure false:=by rfl)(hw:swappedStores [tg] e X.env=pure none:=by rfl)(h1:(assignEach [tg] X.env).map (·.2)= [assign tg X.env]:=by rfl):QS X (.Assign [tg] e pos) (Uw te g):=⟨Zyl he.h hg.h hs hw h1⟩
def Za9(J:It)(g:TG)(tb:TS)(D:Ends)(σ:St)(H1:Hp):Prop:=∃W:Nat->Nat->St->Hp->Prop,(∃m,W 0 m σ H1)/\∀i m σ H,W i m σ H ->
 (J.stop i H/\D.nx σ H)\/(J.go i H/\∃N:St->Hp->Prop,(∀ σ' H',N σ' H'->∃m',m' < m/\W (i+1) m' σ' H')/\∀x H',J.yld i H x H'->g x σ H' fun σ2 H2=>tb {D with nx:=N,ct:=N,bk:=D.nx } σ2 H2)
def Zpf(wi:TI)(g:TG)(tb:TS):TS:=fun D σ H=>wi σ H fun J H1=>Za9 J g tb D σ H1
theorem Vf{tg iter:Expr}{body:List Stmt}{wi:TI}{g:TG}(hp:PassesOwn (model X.prog X.w) X.A X.env X.xe)(hc:X.calm=true)(hi:QI X tg iter wi)(hg:QG X tg g)(hb:QSs X body t)(hs:∀x,foldedSetIterable iter X.env x=pure x:=by intro _;rfl):QS X (.For tg iter body [] pos) (Zpf wi g t):=⟨Zyn hp hc hi.h hg.h hb.h hs⟩
theorem Yt(i:Nat)(hN:nD X:=by kernel_rfl)(n:nB X x .local:=by kernel_rfl)(hi:X.N[i]? = some x:=by rfl):QG X (.Name x pos) (Wv i):=⟨Zu7 (od hN) (od n) hi⟩
theorem Zaq:QGs X [] Ze9:=⟨Zwi⟩
theorem Wk{t:TG}{u:TGs}(h1:QG X e t)(h2:QGs X es u)(hs:(assignEach (e::es) X.env).map (·.2)=assign e X.env::(assignEach es X.env).map (·.2):=by rfl):QGs X (e::es) (Zca t u):=⟨Zud h1.h h2.h hs⟩
theorem Zn1{k:Nat}{t:TGs}{n:Nat}(hc:X.calm=true)(h:QGs X es t)(hn:(assignEach es X.env).length=n:=by rfl)(hst:(assignEach es X.env).findIdx? (·.1)=none:=by rfl):QG X (.Tuple es k pos) (Zdi X.K n t):=⟨Znq hc h.h hn hst⟩
theorem Zb6{o i:Expr}{to ti:TE}{t:Zdh}(ho:QE X o to)(hi:QE X i ti)(hs:QSet X t)(ha:∀v,assign (.Subscript o i pos) X.env v=(do
   let ov ← holding [v] (eval o X.env)
   let iv ← holding [v,ov] (eval i X.env)
   standAt pos
   holding [v,ov,iv] (setItem ov iv v)
   release [v,ov,iv] []):=by intro _;rfl):QG X (.Subscript o i pos) (Zqd to ti t):=⟨Zyk ho.h hi.h hs.h ha⟩
theorem Zbw:QSet X Zo3:=⟨Zuq⟩
variable{tg:Expr}
theorem Vb{l:Expr}(hl:QE X l te):QI X tg l (Zoy X.K te):=⟨Zwj hl.h⟩
theorem Zn2{l:Expr}(hl:QE X l te):QI X tg l (Zqe X.K te):=⟨Zym hl.h⟩
theorem Zzb{l:Expr}(hl:QE X l te):QI X tg l (Zqn te):=⟨Zy6 hl.h⟩
theorem Zcx{a:Expr}{ta:TA}(hm:X.mg "range" = none)(ha:QA X [a] ta)(hg:nB X "range" .globalImplicit:=by kernel_rfl)(hs:starEach [a] X.env = [(false,eval a X.env)]:=by rfl):QI X tg (.Call (.Name "range" p) [a] [] pos) (Zoz ta):=⟨Zsz (od hg).1 hm ha.h hs⟩
theorem Zb:QA X [] Vu:=⟨Zyw⟩
theorem Za{t:TA}(ha:QE X e te)(hr:QA X es t)(hs:starEach (e::es) X.env=(false,eval e X.env)::starEach es X.env:=by rfl):QA X (e::es) (Ve te t):=⟨Zwr ha.h hr.h hs⟩
theorem Zs {x1} {t:TA}(h:QA X es t):QE X (.Tuple es x1 pos) (Zfb t):=⟨Zyx h.h⟩
theorem Zy{t:TA}(h:QA X es t):QE X (.List es pos) (Zj9 t):=⟨Zyy h.h⟩
theorem Vg(ha:QT X a tA):QT X (.UnaryOp .Not a pos) (Zqb tA):=⟨Zyf ha.h⟩
theorem QW.pt(h:QW X e tA):QT X e tA:=⟨PW.pt h.h⟩
theorem Zd3(ha:QT X a tA):QW X (.BoolOp .And [a] pos) tA:=⟨Zwe ha.h⟩
theorem Zgm(ha:QT X a tA):QW X (.BoolOp .Or [a] pos) tA:=⟨Zyd ha.h⟩
theorem Zc4{rest:List Expr}(ha:QT X a tA)(hb:QW X (.BoolOp .And (b::rest) pos) tB'):QW X (.BoolOp .And (a::b::rest) pos) (Zqa tA tB'):=⟨Zye ha.h hb.h⟩
theorem Zgz{rest:List Expr}(ha:QT X a tA)(hb:QW X (.BoolOp .Or (b::rest) pos) tB'):QW X (.BoolOp .Or (a::b::rest) pos) (tOr tA tB'):=⟨Zz0 ha.h hb.h⟩
theorem Zv{op:CmpOp}{r:R2}(ho:QOp X (compareOp op) r)(ha:QE X a ta)(hb:QE X b tb)(hm:behindInMarks op b=false):QT X (.Compare a [op] [b] pos) (Za2 (tOp r ta tb)):=⟨Zwn ho.h ha.h hb.h hm⟩
theorem U6{op:CmpOp}{r:R2}(ho:QOp X (compareOp op) r)(ha:QE X a ta)(hb:QE X b tb)(hm:behindInMarks op b=false):QE X (.Compare a [op] [b] pos) (tOp r ta tb):=⟨Zwm ho.h ha.h hb.h hm⟩
theorem Zl5{op op':CmpOp}{r r':R2}(ho:QOp X (compareOp op) r)(ho':QOp X (compareOp op') r')(ha:QE X a ta)(hb:QE X b tb)(hc:QE X c tc)(hm:lastMarks [op,op'] [b,c]=false:=by with_unfolding_all rfl):QE X (.Compare a [op,op'] [b,c] pos) (Zeg r r' ta tb tc):=⟨Zug ho.h ho'.h ha.h hb.h hc.h hm⟩
theorem Uq{op op':CmpOp}{r r':R2}(ho:QOp X (compareOp op) r)(ho':QOp X (compareOp op') r')(ha:QE X a ta)(hb:QE X b tb)(hc:QE X c tc)(hm:lastMarks [op,op'] [b,c]=false:=by with_unfolding_all rfl):QT X (.Compare a [op,op'] [b,c] pos) (Za2 (Zeg r r' ta tb tc)):=⟨Zuh ho.h ho'.h ha.h hb.h hc.h hm⟩
theorem Vh(h:QE X e te)(he:∀whole,isTrue e X.env whole=(do let v ← whole;standAt e.pos;holding [v] (truthy v)):=by intro _;rfl):QT X e (tB te):=⟨Zyc h.h he⟩
theorem Zd {i j pos}:QE X (.Constant (.int i) j pos) (tC (.int i)):=⟨Zx9⟩
theorem Vq {b j pos}:QE X (.Constant (.bool b) j pos) (tC (.bl b)):=⟨Zzz⟩
theorem Y9 {j pos}:QE X (.Constant .none j pos) (tC .non):=⟨Zya⟩
theorem Zn {x j pos}:QE X (.Constant (.str x) j pos) (tC (.str x)):=⟨Zyb⟩
theorem qvN(i:Nat)(n:nB X x .local:=by kernel_rfl)(hN:X.N[i]? = some x:=by rfl):QE X (.Name x pos) (Y3 i):=⟨pvN i (od n) hN⟩
theorem qvC(i:Nat)(n:Nm X.env.scope x .cell)(hN:X.N[i]? = some x:=by rfl):QE X (.Name x pos) (Y3 i):=⟨pvC i n hN⟩
theorem Yy{v:V}{u:Value}(hm:X.mg x=some u)(r:RelV v u)(n:nB X x .globalImplicit:=by kernel_rfl):QE X (.Name x pos) (tC v):=⟨Zu4 (od n) hm r⟩
theorem V5{v:V}{u:Value}(hm:X.mg x=none)(hv:bootBuiltins x=some u)(r:RelV v u)(n:nB X x .globalImplicit:=by kernel_rfl):QE X (.Name x pos) (tC v):=⟨Zu5 (od n) hm hv r⟩
theorem Zz{op:Operator}{r:R2}(ho:QOp X (binaryOp op) r)(ha:QE X a ta)(hb:QE X b tb):QE X (.BinOp a op b pos) (tOp r ta tb):=⟨Zz2 ho.h ha.h hb.h⟩
theorem Zg0{op:UnaryOp}{r:V->Hp->VK->Prop}(ho:QUn X (unaryOp op) r)(ha:QE X a ta):QE X (.UnaryOp op a pos) (tUn r ta):=⟨Zz3 ho.h ha.h⟩
theorem Zzc(ha:QE X a ta):QE X (.UnaryOp .Not a pos) (Zox ta):=⟨Zyi ha.h⟩
theorem Zba {op} (h:QE X a ta):QE X (.BoolOp op [a] pos) ta:=⟨Zyg h.h⟩
theorem Zbb{rest:List Expr}(ha:QE X a ta)(hb:QE X (.BoolOp .And (b::rest) pos) tb):QE X (.BoolOp .And (a::b::rest) pos) (Zow ta tb):=⟨Zyh ha.h hb.h⟩
theorem Zvc(hc:QT X c tA)(ha:QE X a ta)(hb:QE X b tb):QE X (.IfExp c a b pos) (tIf tA ta tb):=⟨Zub hc.h ha.h hb.h⟩
theorem Zbc:QO X none Zmr:=⟨Zwu⟩
theorem Zbd(h:QE X e te):QO X (some e) (Zo2 te):=⟨Zwv h.h⟩
theorem Zbe{lo hi:Option Expr}{tl th:TO}{r:V->Option Int->Option Int->Hp->VK->Prop}(hr:QSl X r)(he:QE X e te)(hl:QO X lo tl)(hu:QO X hi th):QE X (.Subscript e (.Slice lo hi none p2) pos) (tSl r te tl th):=⟨Zup hr.h he.h hl.h hu.h⟩
theorem Zl{r:R2}(hr:QIx X r)(ha:QE X a ta)(hb:QE X b tb)(hs:Zmt b):QE X (.Subscript a b pos) (tOp r ta tb):=⟨Z0a hr.h ha.h hb.h hs⟩
theorem Z6{k:Nat}{ps:List Str}{sp:Sp}{t:TA}(F:Fn X.prog X.w X.K X.mg X.base x ps k sp)(ha:QA X (e::es) t)(hr:Room k X.A:=by exact Room.mono (by assumption) (by first | decide | lia))(n:nB X x .globalImplicit:=by kernel_rfl)(he:starEach (e::es) X.env=(false,eval e X.env)::starEach es X.env:=by rfl)(hpl:(backTo pos (starEach es X.env)).any (·.1)=false:=by rfl) :
  QE X (.Call (.Name x p) (e::es) [] pos) (tFn sp t):=⟨Zza F hr (od n) ha.h he hpl⟩
theorem Z7{t:TA}{id:String}{r:List V->Hp->VK->Prop}(hc:QC X (.builtin id) r)(hm:X.mg x=none)(hv:bootBuiltins x=some (.builtin id))(ha:QA X (e::es) t)(n:nB X x .globalImplicit:=by kernel_rfl)(he:starEach (e::es) X.env=(false,eval e X.env)::starEach es X.env:=by rfl)(hpl:(backTo pos (starEach es X.env)).any (·.1)=false:=by rfl):QE X (.Call (.Name x p) (e::es) [] pos) (tCB r t):=⟨Zte hc.h (od n) hm hv ha.h he hpl⟩
theorem Uy{t:TA}{T:String}{r:List V->Hp->VK->Prop}(hc:QC X (.type T) r)(hm:X.mg x=none)(hv:bootBuiltins x=some (.type T))(ha:QA X (e::es) t)(n:nB X x .globalImplicit:=by kernel_rfl)(he:starEach (e::es) X.env=(false,eval e X.env)::starEach es X.env:=by rfl)(hpl:(backTo pos (starEach es X.env)).any (·.1)=false:=by rfl):QE X (.Call (.Name x p) (e::es) [] pos) (tCB r t):=⟨Zse hc.h (od n) hm hv ha.h he hpl⟩
theorem Wf{o:Expr}{to:TE}{t:TA}{name:Str}{apos cpos:Pos}{T id:String}{r:V->List V->Hp->VK->Prop}(pa:PlainAttrs T)(slot:Slot T name id)(hty:typeOf (.builtin id)=pure (.type "method_descriptor"))(hm:QM X id r)(ho:QE X o to)(ha:QA X (e::es) t)(hbase:attributeBase o name X.env (eval o X.env)=eval o X.env:=by rfl)(hfew:((backTo cpos (starEach (e::es) X.env)).all (fun x=>!x.1) && (backToKw cpos (keywordEach [] X.env)).all (fun x=>x.1.isSome)
   && decide ((e::es).length+([]:List Keyword).length+(if ([]:List Keyword).isEmpty then 0 else 1) < 30))=true:=by rfl)(hline:(apos.endLine == cpos.line)=true:=by rfl)(hs:starEach (e::es) X.env=(false,eval e X.env)::starEach es X.env:=by rfl)(hplain:(backTo cpos (starEach es X.env)).any (·.1)=false:=by rfl) :
  QE X (.Call (.Attribute o name apos) (e::es) [] cpos) (tBM X.K T r to t):=⟨Z0b pa slot hty hm.h ho.h ha.h hbase hfew hline hs hplain⟩
theorem Vy:QOp X (binaryOp .Add) (rI0 fun i j=>.int (i+j)):=⟨Zyo⟩
theorem Zb1:QOp X (binaryOp .Sub) (rI0 fun i j=>.int (i - j)):=⟨Zyp⟩
theorem Zmv:QOp X (binaryOp .Mult) (rI CMul fun i j=>.int (i * j)):=⟨Zyq⟩
theorem Zdu:QOp X (binaryOp .FloorDiv) (rI Zj5 fun i j=>.int (i / j)):=⟨Zwk⟩
theorem Zbf:QOp X (binaryOp .Mod) (rI (fun _ j=>0 < j) fun i j=>.int (i % j)):=⟨Zyr⟩
theorem Zxc:QOp X (binaryOp .Pow) (rI Zj6 fun i j=>.int (i ^ j.toNat)):=⟨Zys⟩
theorem Zf8:QUn X (unaryOp .USub) (rU fun i=>.int (-i)):=⟨Zy9⟩
def Z0g(g:Str->Str->V):R2:=fun x y H Q=>∃i j,x = .str i/\y = .str j/\Q (g i j) H
theorem Zk3:QOp X (compareOp .LtE) (Z0g fun i j=>.bl (!decide (j.cps.toList < i.cps.toList))):=⟨Ztd⟩
def Z0h:R2:=fun x y H Q=>∃i j,x = .str i/\y = .str j/\i.length+j.length<=sizeLine/\Q (.str (i++j)) H
theorem Zdo:QOp X (binaryOp .Add) Z0h:=⟨Zr6⟩
theorem Wp:QOp X (binaryOp .Add) Zkb:=⟨Zy3⟩
theorem Zxd:QOp X (binaryOp .Mult) Zqm:=⟨Zy4⟩
theorem Wt:QOp X (compareOp .Eq) rEq:=⟨Zz4⟩
theorem Zbg:QOp X (compareOp .NotEq) rNe:=⟨Zz5⟩
theorem Zaa:QOp X (compareOp .Lt) (rI0 fun i j=>.bl (decide (i < j))):=⟨Zz6⟩
theorem Wa:QOp X (compareOp .LtE) (rI0 fun i j=>.bl (decide (i<=j))):=⟨Zz7⟩
theorem Zn3:QOp X (compareOp .Gt) (rI0 fun i j=>.bl (decide (j < i))):=⟨Zz8⟩
theorem Zab:QOp X (compareOp .GtE) (rI0 fun i j=>.bl (decide (j<=i))):=⟨Zz9⟩
def Z4m:R2:=fun x y H Q=>y = .non/\Q (.bl (decide (x = .non))) H
def Z0i:R2:=fun x y H Q=>y = .non/\Q (.bl (!decide (x = .non))) H
theorem Zmw:QOp X (compareOp .Is) Z4m:=⟨Zyt⟩
theorem Zbh:QOp X (compareOp .IsNot) Z0i:=⟨Zwl⟩
theorem Zkr:QOp X (compareOp .NotIn) (rIn X.K true):=⟨Zrr⟩
theorem Yu:QIx X (Zqi X.K):=⟨Zww⟩
theorem Z2:QIx X (Zka X.K):=⟨Zyz⟩
theorem Zf9:QIx X Zqj:=⟨Zy0⟩
theorem Zfw:QSl X (Zqk X.K):=⟨Zwx⟩
def Z4n:V->Option Int->Option Int->Hp->VK->Prop:=fun x lo hi H Q=>∃z,x = .str z/\z.length<=sizeLine/\Q (.str (Txt.slice z lo hi)) H
theorem Zd4:QSl X Z4n:=⟨Zy7⟩
def Zxe(K:uFg):List V->Hp->VK->Prop:=fun xs H Q=>∃p ys,xs = [.ref p]/\(SqL K H p ys\/SqT K H p ys)/\Q (.int ys.length) H
theorem Wl:QC X (.builtin "len") (Zxe X.K):=⟨Zrs⟩
def Z0j:List V->Hp->VK->Prop:=fun xs H Q=>∃z,xs = [.str z]/\z.length<=sizeLine/\Q (.int z.length) H
theorem Zfh:QC X (.builtin "len") Z0j:=⟨Zrt⟩
def Z0k:List V->Hp->VK->Prop:=fun xs H Q=>∃i j,xs = [.int i,.int j]/\Q (.int (if j > i then j else i)) H
theorem Zsh(hc:X.calm=true):QC X (.builtin "max") Z0k:=⟨Zs1 hc⟩
def Z4o(K:uFg):List V->Hp->VK->Prop:=fun xs H Q=>∃(a:Addr)(bs:List Bool),xs = [.ref a]/\SqL K H a (bs.map V.bl)/\Q (.bl (bs.all id)) H
theorem Ztf(hc:X.calm=true):QC X (.builtin "all") (Z4o X.K):=⟨Zu2 hc⟩
def Z4p(K:uFg):List V->Hp->VK->Prop:=fun xs H Q=>∃(a:Addr)(ns:List Int),xs = [.ref a]/\SqL K H a (ns.map V.int)/\(∀n∈ns,-1000000000<=n/\n<=1000000000)/\ns.length<=1000000/\Q (.int ns.sum) H
theorem Zlq(hc:X.calm=true):QC X (.builtin "sum") (Z4p X.K):=⟨Zu3 hc⟩
def Zmx(K:uFg):List V->Hp->VK->Prop:=fun xs H Q=>∃x n t b,xs = [x,.ty n]/\TyOf K H x t/\PySem.W.kitOne K t (.type n)=some b/\Q (.bl b) H
theorem Uk:QC X (.builtin "isinstance") (Zmx X.K):=⟨Zkx⟩
def Zmy(K:uFg):List V->Hp->VK->Prop:=fun xs H Q=>∃p ys,xs = [.ref p]/\(SqL K H p ys\/SqT K H p ys)/\∀l,H l=none->Q (.ref l) (upd H l (.lst ys))
theorem Zbi:QC X (.type "list") (Zmy X.K):=⟨Zku⟩
def Z0l(K:uFg):V->List V->Hp->VK->Prop:=fun x xs H Q=>∃sep a ys,x = .str sep/\xs = [.ref a]/\SqL K H a (ys.map V.str)/\(ys.map (·.length)).sum+ys.length * sep.length<=16777216/\Q (.str (Txt.join sep ys)) H
theorem Zvd:QM X "str.join" (Z0l X.K):=⟨Zw8⟩
theorem Wm:QM X "list.append" Zd1:=⟨Zs6⟩
end
section
variable{g:TG}{tb:TS}{D:Ends}{σ:St}{H:Hp}
theorem Zdq{lo:Int}{n:Nat}(m:Nat)(hm:n=m)(Pv:Nat->St->Hp->Prop)(h0:Pv 0 σ H)(hs:∀i σ H,i < m->Pv i σ H->g (.int (lo+i)) σ H fun σ2 H2=>tb {D with nx:=Pv (i+1),ct:=Pv (i+1),bk:=D.nx } σ2 H2)(hd:∀ σ H,Pv m σ H->D.nx σ H):Za9 (Itr lo n) g tb D σ H:=by
 subst hm
 exact Zs0 Pv h0 hs hd
theorem Ug{K:uFg}{a:Addr}(xs:List V)(Pv:Nat->St->Hp->Prop)(h0:Pv 0 σ H)(hl:∀i σ H,i<=xs.length->Pv i σ H->SqL K H a xs)(hs:∀i x σ H,xs[i]? = some x->Pv i σ H->g x σ H fun σ2 H2=>tb {D with nx:=Pv (i+1),ct:=Pv (i+1),bk:=D.nx } σ2 H2)(hd:∀ σ H,Pv xs.length σ H->D.nx σ H):Za9 (Itl K a) g tb D σ H:=Zuf Pv h0 hl hs hd
end
section
variable{X:Cx}{tg elt iter:Expr}{ifs:List Expr}{scope:Scope}{pos:Pos}{locs:List Str}{fr:List (Str×Nat)}{g:TG}{tt:TTs}{te:TE}
theorem Zb2:QTs X [] (fun _ H Q=>Q true H):=⟨Zw5⟩
theorem Zd5{c:Expr}{t:TT}(h:QT X c t):QTs X [c] t:=⟨Zw6 h.h⟩
structure Inn (X:Cx) (scope:Scope) (N':List Str) (tg:Expr) (ifs:List Expr) (elt:Expr) (g:TG) (tt:TTs) (te:TE):Prop where
 h:∀(cl:List (Str×Addr))(C:Addr)(s0:Shared)(H0:Hp)(ex:List Addr)(pn:List (Addr×Obj)),QG (ccx X scope cl C N' s0 H0 ex pn) tg g/\QTs (ccx X scope cl C N' s0 H0 ex pn) ifs tt/\QE (ccx X scope cl C N' s0 H0 ex pn) elt te
theorem Ur{wi:TI}(S:CompOk X scope locs fr)(F:FrOk X scope fr)(hc:X.calm=true)(hi:QI X tg iter wi)(inner:Inn X scope (inN locs fr) tg ifs elt g tt te)(hs:∀x,foldedSetIterable iter X.env x=pure x:=by intro _;rfl):QE X (.ListComp elt [⟨tg,iter,ifs,0⟩] scope pos) (Zpa locs.length fr wi g tt te) :=
 ⟨Zu0 S F hc hi.h (fun cl C s0 H0 ex pn=>let ⟨a,b,c⟩:=inner.h cl C s0 H0 ex pn;⟨a.h,b.h,c.h⟩) hs⟩
end
section
variable{X:Cx}{scope:Scope}{cl:List (Str×Addr)}{C:Addr}{N':List Str}{s0:Shared}{H0:Hp}{ex:List Addr}{pn:List (Addr×Obj)}{x:Str}{pos:Pos}
theorem Vc(i:Nat)(n:Nm scope x .local:=by decide +kernel)(hN:N'[i]? = some x:=by rfl):QE (ccx X scope cl C N' s0 H0 ex pn) (.Name x pos) (Y3 i):=⟨Z4i i n hN⟩
theorem Zbp(i:Nat)(n:Nm scope x .free:=by decide +kernel)(hN:N'[i]? = some x:=by rfl):QE (ccx X scope cl C N' s0 H0 ex pn) (.Name x pos) (Y3 i):=⟨Z4j i n hN⟩
theorem Vw(i:Nat)(hnd:N'.Nodup)(n:Nm scope x .local:=by decide +kernel)(hN:N'[i]? = some x:=by rfl):QG (ccx X scope cl C N' s0 H0 ex pn) (.Name x pos) (Wv i):=⟨Z4k i hnd n hN⟩
end
section
variable{P:Program}{w:World}{K:uFg}{mg:Str->Option Value}{base:Heap}
theorem Has.fnQ{x:Str}{st:Stmt}{N ps:List Str}{k:Nat}{sp:Sp}(h:Has K mg x st)(S:FnScope N ps (Zh st))(hb:∀ (kV doc pm:Value) (an:Option Addr) (cdv ct:Value) (us:List Value),us.length=ps.length->bindArgs (PySem.W.fnOf x x (Vj st) (Y4 st) (Zh st) .none kV doc pm an cdv ct) ⟨us,[]⟩=pure (ps.zip us))(len:∀vs H Q E,sp vs H Q E->vs.length=ps.length)(hbody:∀ (f:Addr) (cdv:Value) (A:Around) (outer:List Env) (s:Shared) (H:Hp) (vs:List V) (Q:VK) (E:XK),Room k (A.deeper (envOfC x (Zh st) s.heap.objs.size f cdv))->sp vs H Q E ->
   ∃t,QSs (Y6 CX0 P w K mg base N x (Zh st) f cdv A outer s H E).nox (Y4 st) t/\t {nx:=fun _ H'=>Q .non H',rt:=Q } (start N vs) H):Fn P w K mg base x ps (k+1) sp :=
 h.fn S hb len fun f cdv A outer s H vs Q E hr q=>let ⟨t,a,b⟩:=hbody f cdv A outer s H vs Q E hr q;⟨t,a.h,b⟩
end
end L2
namespace L2
open PySem PySem.Spec PyProof.Rows
theorem Zxf{t u:TS}{D:Ends}{σ:St}{H:Hp}(R:St->Hp->Prop)(hu:∀ σ' H',R σ' H'->u D σ' H')(ht:∀D':Ends,(∀ σ' H',R σ' H'->D'.nx σ' H')->(∀v H',D.rt v H'->D'.rt v H')->(∀ σ' H',D.bk σ' H'->D'.bk σ' H')->(∀ σ' H',D.ct σ' H'->D'.ct σ' H')->t D' σ H):V2 t u D σ H :=
 ht {D with nx:=u D } hu (fun _ _ h=>h) (fun _ _ h=>h) (fun _ _ h=>h)
theorem Zk4{a b:Nat}:(([a]:List Nat) < [b])↔a < b:=by
 constructor
 ·intro h
  rcases List.cons_lt_cons_iff.mp h with z | ⟨_,z⟩
  ·exact z
  ·exact absurd z (by simp)
 ·intro h
  exact List.cons_lt_cons_iff.mpr (.inl h)
end L2
namespace L2
theorem Yb{i:Nat}{v:V}{σ:St}{H:Hp}{Q:St->Hp->Prop}(h:Q (σ.set i (some v)) H):Wv i v σ H Q:=h
end L2
namespace L2
open PySem PySem.Spec PyProof.Rows
theorem Fun.okQ{P:Program}{w:World}{K:uFg}{mg:Str->Option Value}{base:Heap}{x qual:Str}{st:Stmt}{f:Addr}{fd:FuncData}{N ps:List Str}{k:Nat}{sp:Sp}(F:Fun K x qual st f fd)(S:FnScope N ps (Zh st))(len:∀vs H Q E,sp vs H Q E->vs.length=ps.length)(hbody:∀ (cdv:Value) (A:Around) (outer:List Env) (s:Shared) (H:Hp) (vs:List V) (Q:VK) (E:XK),Room k (A.deeper (envOfC qual (Zh st) s.heap.objs.size f cdv))->sp vs H Q E ->
   ∃t,QSs (Y6 CX0 P w K mg base N qual (Zh st) f cdv A outer s H E).nox (Y4 st) t/\t {nx:=fun _ H'=>Q .non H',rt:=Q } (start N vs) H):FnOk P w K mg base CX0 (k+1) f fd ps sp :=
 F.ok S len fun cdv A outer s H vs Q E hr q=>let ⟨t,a,b⟩:=hbody cdv A outer s H vs Q E hr q;⟨t,a.h,b⟩
def Zes(K:uFg):Sp:=fun vs H Q _=>∃(a:Addr)(ns:List Int),vs = [.ref a]/\SqL K H a (ns.map V.int)/\ns.length<=63/\∀H',Q (.bl true) H'
theorem walkLaw{l:PySem.W.OpenLaw}{q:Program}{loose:List Str}{XP:(Str->Option Value)->Heap->Prop}{YP:World->Heap->Prop}{d:DefRec}{K:Params->uFg}(hn:l.most=some 63)(hdf:d.params.defaults = [])(hY:∀ (w:World) (h:Heap),YP w h->(K w.params).In h)(F:∀ (w:World) (mg:Str->Option Value) (fa:Addr) (h:Heap),(K w.params).In h->h.Ns mainGlobals mg->mg d.name=some (.ref fa)->
   ∃fd:FuncData,(∀ (s:Shared) (u:Value),BindsTo s fd ⟨[u],[]⟩ [("_law_script", u)])/\∀base:Heap,(K w.params).In base->base.Ns mainGlobals mg->FnOk l.prog w (K w.params) mg base CX0 40 fa fd ["_law_script"] (Zes (K w.params))) :
  PySem.W.WalkO q loose XP YP l.row.toRowW d [] (fun f vs=>PySem.call f vs) :=
 L2.walk_of (n:=63) (k:=40) (x:="_law_script") (CX:=fun _=>CX0) (sp:=fun w=>Zes (K w.params)) hn (by decide) hdf ⟨rfl,by decide,by decide⟩ hY F (fun _ _ a ns hl _ hS=>⟨a,ns,rfl,hS,hl,fun _=>rfl⟩) fun _ _ _ _ _ z=>z
end L2
namespace L2
open PySem PySem.Spec PyProof.Rows
section
variable{X:Cx}{scope:Scope}{cl:List (Str×Addr)}{C:Addr}{N':List Str}{s0:Shared}{H0:Hp}{ex:List Addr}{pn:List (Addr×Obj)}{x:Str}{pos:Pos}{es:List Expr}{k:Nat}{t:TGs}
theorem Zd6(n:Nat)(hc:X.calm=true)(h:QGs (ccx X scope cl C N' s0 H0 ex pn) es t)(hn:(assignEach es (ccx X scope cl C N' s0 H0 ex pn).env).length=n:=by rfl)(hst:(assignEach es (ccx X scope cl C N' s0 H0 ex pn).env).findIdx? (·.1)=none:=by rfl) :
  QG (ccx X scope cl C N' s0 H0 ex pn) (.Tuple es k pos) (Zdi X.K n t):=⟨Znq (X:=ccx X scope cl C N' s0 H0 ex pn) hc h.h hn hst⟩
theorem Zrh:QC (ccx X scope cl C N' s0 H0 ex pn) (.type "list") (Zmy X.K):=⟨Zku (X:=ccx X scope cl C N' s0 H0 ex pn)⟩
theorem Zks:QC (ccx X scope cl C N' s0 H0 ex pn) (.builtin "isinstance") (Zmx X.K):=⟨Zkx (X:=ccx X scope cl C N' s0 H0 ex pn)⟩
end
end L2
end
section
namespace L2
open PySem PySem.Spec PyProof.Rows
def Lik(a b:Value):Prop:=a=b\/∃c t u,a = .str c t/\b = .str c u
theorem Lik.rel{y:V}{a b:Value}(h:Lik a b)(r:RelV y a):RelV y b:=by
 rcases h with rfl | ⟨c,t,u,rfl,rfl⟩
 ·exact r
 ·cases y with
  | str z=>obtain⟨k,e⟩:=r;cases e;exact⟨u,rfl⟩
  | non=>cases r
  | bl _=>cases r
  | int _=>obtain⟨_,e⟩:=r;cases e
  | byt _=>obtain⟨_,e⟩:=r;cases e
  | flt _=>obtain⟨_,e⟩:=r;cases e
  | _=>cases r
structure Drw (P:Program) (w:World) (it l:Addr) (St:Nat->Heap->Prop) (Hs:Heap->List Value->Prop):Prop where
 obj:∀k h,St k h->∃o,h.get? it=some o/\∀v,o.data ≠ .cell v
 keep:∀k h h',St k h->(∀o,h.get? it=some o->h'.get? it=some o)->St k h'
 src:∀h h' its,Hs h its->(∀o,h.get? l=some o->h'.get? l=some o)->Hs h' its
 item:∀(A:Around)(k:Nat)(s:Shared)(its:List Value)(x:Value)(Q:Value->Shared->Prop)(E:Value->Shared->Prop),St k s.heap->Hs s.heap its->its[k]? = some x ->
  (∀x' h' tk,Lik x x'->St (k+1) h'->Heap.SameBut it s.heap h'->Q x' {s with heap:=h',toks:=tk })->wpAny (model P w) A (Builtin.SmallTypes.nextOf (.ref it)) Q E s
 done:∀(A:Around)(k:Nat)(s:Shared)(its:List Value)(Q:Value->Shared->Prop)(E:Value->Shared->Prop),A.handled=none->St k s.heap->Hs s.heap its->its[k]? = none ->
  (∀h' e,Heap.ExtBut it s.heap h'->(∃o,h'.get? e=some o/\o.cls = .type "StopIteration")->E (.ref e) {s with heap:=h' })->wpAny (model P w) A (Builtin.SmallTypes.nextOf (.ref it)) Q E s
theorem Zl6{P:Program}{w:World}(it l:Addr):Drw P w it l (fun k h=>h.IsListIter it l k) (fun h its=>h.IsList l its.toArray) where
 obj:=fun k h st=>by
  obtain⟨o,e,c,d⟩:=st
  exact⟨o,e,fun v z=>by rw[d] at z;cases z⟩
 keep:=fun k h h' st kk=>st.at kk
 src:=fun h h' its hl kk=>hl.at kk
 item:=fun A k s its x Q E st hl hx hQ=>wpAny_nextOf_list_item st hl (by simpa using hx) fun h'=>hQ x h' s.toks (.inl rfl)
 done:=fun A k s its Q E hh st hl hx hE=>wpAny_nextOf_list_end hh st hl (by simpa using hx) hE
section
variable{P:Program}{w:World}{A:Around}{E:Value->Shared->Prop}{s:Shared}
theorem Zsi{it t:Addr}{k:Nat}{its:List Value}{x:Value}{Q:Value->Shared->Prop}(st:s.heap.IsTupleIter it t k)(ht:s.heap.IsTuple t its.toArray)(hx:its[k]? = some x)(hQ:∀h',h'.IsTupleIter it t (k+1)->Heap.SameBut it s.heap h'->Q x {s with heap:=h' }):wpAny (model P w) A (Builtin.SmallTypes.nextOf (.ref it)) Q E s:=by
 obtain⟨o,ho,hc,hd⟩:=id st
 obtain⟨ot,hot,_,nt,hdt⟩:=id ht
 unfold Builtin.SmallTypes.nextOf
 refine wpAny_bind (wpAny_callSpecial?_slot (name:=Str.ofString "__next__") st.typeIs F.slot_tuple_iterator_next (wpAny_call_entry F.slot_tuple_iterator_next st.typeIs F.entry_tuple_iterator_next ?_ (F.args_tuple_iterator_next_1 _)))
 show wpAny _ _ (field (.ref it) 0 >>= _) _ _ s
 refine wpAny_bind (wpAny_field ho hd (x:=.ref t) rfl ?_)
 show wpAny _ _ (if (Value.ref t == Value.none)=true then _ else _) _ _ s
 rw[if_neg (show ¬((Value.ref t == Value.none)=true) from xH)]
 show wpAny _ _ (field (.ref it) 1 >>= _) _ _ s
 refine wpAny_bind (wpAny_field ho hd (x:=.int k 0) rfl ?_)
 show wpAny _ _ (seqItems? (.ref t) >>= _) _ _ s
 refine wpAny_bind (wpAny_seqItems hot hdt ?_)
 have hx':its.toArray[k]? = some x:=by simpa using hx
 simp only[yN,hx']
 refine wpAny_bind (wpAny_setField ho hd (by simp) ?_)
 refine wpAny_pure ⟨_,rfl,wpAny_pure (hQ _ ?_ (Heap.SameBut.update ..))⟩
 refine⟨_,zV _ ho ?_,?_,?_⟩
 ·obtain⟨c,d,dt,sl⟩:=o;subst hd;rfl
 ·obtain⟨c,d,dt,sl⟩:=o;subst hd;exact hc
 ·obtain⟨c,d,dt,sl⟩:=o;subst hd;rfl
theorem Ztg{it t:Addr}{k:Nat}{its:List Value}{Q:Value->Shared->Prop}(hh:A.handled=none)(st:s.heap.IsTupleIter it t k)(ht:s.heap.IsTuple t its.toArray)(hx:its[k]? = none)(hE:∀h' e,Heap.ExtBut it s.heap h'->(∃o,h'.get? e=some o/\o.cls = .type "StopIteration")->E (.ref e) {s with heap:=h' }):wpAny (model P w) A (Builtin.SmallTypes.nextOf (.ref it)) Q E s:=by
 obtain⟨o,ho,hc,hd⟩:=id st
 obtain⟨ot,hot,_,nt,hdt⟩:=id ht
 unfold Builtin.SmallTypes.nextOf
 refine wpAny_bind (wpAny_callSpecial?_slot (name:=Str.ofString "__next__") st.typeIs F.slot_tuple_iterator_next (wpAny_call_entry F.slot_tuple_iterator_next st.typeIs F.entry_tuple_iterator_next ?_ (F.args_tuple_iterator_next_1 _)))
 show wpAny _ _ (field (.ref it) 0 >>= _) _ _ s
 refine wpAny_bind (wpAny_field ho hd (x:=.ref t) rfl ?_)
 show wpAny _ _ (if (Value.ref t == Value.none)=true then _ else _) _ _ s
 rw[if_neg (show ¬((Value.ref t == Value.none)=true) from xH)]
 show wpAny _ _ (field (.ref it) 1 >>= _) _ _ s
 refine wpAny_bind (wpAny_field ho hd (x:=.int k 0) rfl ?_)
 show wpAny _ _ (seqItems? (.ref t) >>= _) _ _ s
 refine wpAny_bind (wpAny_seqItems hot hdt ?_)
 have hx':its.toArray[k]? = none:=by simpa using hx
 simp only[yN,hx']
 refine wpAny_bind (wpAny_rule (wpAny_bind (wpAny_setField ho hd (by simp) ?_)))
 show wpAny _ _ (newExc (.type "StopIteration") [] >>= _) _ _ _
 refine wpAny_bind ?_
 simp only[newExc,newTuple]
 refine wpAny_bind (wpAny_newObj_type ?_ (by size_fits))
 refine wpAny_bind (m:=firstArgMember _ _) (wpAny_of_eq (a:=Value.none) (by first | rfl | (simp only[firstArgMember];rfl)) ?_)
 refine wpAny_newObj_type ?_ (by size_fits)
 simp only[raiseNew]
 refine wpAny_bind (wpAny_handled ?_)
 first | rw[show A.in1.handled=none from hh] | rw[hh]
 refine wpAny_bind (wpAny_pure (wpAny_throw ?_))
 exact hE _ _ (((Heap.SameBut.update ..).extBut.push _).push _) ⟨_,xP _ rfl,rfl⟩
end
theorem Zlr{P:Program}{w:World}(it l:Addr):Drw P w it l (fun k h=>h.IsTupleIter it l k) (fun h its=>h.IsTuple l its.toArray) where
 obj:=fun k h st=>by
  obtain⟨o,e,c,d⟩:=st
  exact⟨o,e,fun v z=>by rw[d] at z;cases z⟩
 keep:=fun k h h' st kk=>st.at kk
 src:=fun h h' its hl kk=>let ⟨o,e,r⟩:=hl;⟨o,kk o e,r⟩
 item:=fun A k s its x Q E st hl hx hQ=>Zsi st hl hx fun h'=>hQ x h' s.toks (.inl rfl)
 done:=fun A k s its Q E hh st hl hx hE=>Ztg hh st hl hx hE
structure ZA (z TI TO i1 i2 l1 l2:Addr):Prop where
 a1:TI≠z
 a2:TO≠z
 a3:i1≠z
 a4:i2≠z
 a5:TI≠TO
 a6:TI≠i1
 a7:TI≠i2
 a8:TO≠i1
 a9:TO≠i2
 a10:i1≠i2
 b1:l1≠z
 b2:l1≠TO
 b3:l1≠i1
 b4:l1≠i2
 b5:l2≠z
 b6:l2≠TO
 b7:l2≠i1
 b8:l2≠i2
section
variable{P:Program}{w:World}{A:Around}{E:Value->Shared->Prop}{s:Shared}{z TI TO i1 i2 l1 l2:Addr}{S1 S2:Nat->Heap->Prop}{H1 H2:Heap->List Value->Prop}{k:Nat}{xs ys:List Value}{x y a b:Value}
theorem Zth{Q:Value->Shared->Prop}(Z:ZA z TI TO i1 i2 l1 l2)(D1:Drw P w i1 l1 S1 H1)(D2:Drw P w i2 l2 S2 H2)(hz:IsZip s.heap z TI TO .none)(hTI:IsPair s.heap TI (.ref i1) (.ref i2))(hTO:IsPair s.heap TO a b)(st1:S1 k s.heap)(st2:S2 k s.heap)(h1:H1 s.heap xs)(h2:H2 s.heap ys)(hx:xs[k]? = some x)(hy:ys[k]? = some y)(hQ:∀x' y' h' tk,Lik x x'->Lik y y'->IsZip h' z TI TO (rawInt s.heap.objs.size)->IsPair h' TO x' y'->S1 (k+1) h'->S2 (k+1) h'->IsPair h' s.heap.objs.size x' y' ->
   (∀c o,c≠z->c≠TO->c≠i1->c≠i2->s.heap.get? c=some o->h'.get? c=some o)->Q (.ref s.heap.objs.size) {s with heap:=h',toks:=tk }) :
  wpAny (model P w) A (Builtin.«zip.__next__» ⟨[.ref z],[]⟩) (fun fin s'=>∃v,fin = .done (.ret v)/\Q v s') E s:=by
 show wpAny _ _ (field (.ref z) 2 >>= _) _ _ _
 refine wpAny_bind (wpAny_field hz rfl (x:=.bool false) rfl ?_)
 show wpAny _ _ (field (.ref z) 3 >>= _) _ _ _
 refine wpAny_bind (wpAny_field hz rfl (x:=.ref TI) rfl (wpAny_bind (wpAny_seqItems hTI rfl ?_)))
 show wpAny _ _ (Builtin.SmallTypes.ownedTupleIsFree (.ref z) >>= _) _ _ _
 refine wpAny_bind ?_
 unfold Builtin.SmallTypes.ownedTupleIsFree
 refine wpAny_bind (wpAny_field hz rfl (x:=.none) rfl (wpAny_pure ?_))
 simp only[if_true]
 refine wpAny_bind (wpAny_rule (wpAny_bind (wpAny_field hz rfl (x:=.ref TO) rfl (wpAny_bind (wpAny_setField_rec hz (by simp) fun g1 z1 e1=>?_)))))
 replace z1:IsZip g1 z TI TO .ellipsis:=z1
 refine wpAny_bind ?_
 simp only[List.zipIdx_cons,List.zipIdx_nil,List.forIn_cons,List.forIn_nil]
 refine wpAny_bind (wpAny_bind (wpAny_onRaise ?_))
 show wpAny _ _ (Builtin.SmallTypes.nextOf (.ref i1) >>= _) _ _ _
 refine wpAny_bind (D1.item _ k _ xs x _ _ (D1.keep _ _ _ st1 fun o e=>e1.extBut _ _ Z.a3 e) (D1.src _ _ _ h1 fun o e=>e1.extBut _ _ Z.b1 e) hx fun x' g2 tk2 lx s12 e2=>wpAny_pure ?_)
 have t2:IsPair g2 TO a b:=e2.extBut _ _ Z.a8 (e1.extBut _ _ Z.a2 hTO)
 refine wpAny_bind (wpAny_seqItems t2 rfl (wpAny_bind (wpAny_updateSeq_pair t2 fun g3 t3 e3=>?_)))
 replace t3:IsPair g3 TO x' b:=t3
 refine wpAny_bind (wpAny_letGo (wpAny_pure (wpAny_bind (wpAny_bind (wpAny_onRaise ?_)))))
 show wpAny _ _ (Builtin.SmallTypes.nextOf (.ref i2) >>= _) _ _ _
 have up3:∀c o,c≠z->c≠TO->c≠i1->s.heap.get? c=some o->g3.get? c=some o:=fun c o c1 c2 c3 e=>e3.extBut _ _ c2 (e2.extBut _ _ c3 (e1.extBut _ _ c1 e))
 refine wpAny_bind (D2.item _ k _ ys y _ _ (D2.keep _ _ _ st2 fun o e=>up3 _ _ Z.a4 Z.a9.symm Z.a10.symm e) (D2.src _ _ _ h2 fun o e=>up3 _ _ Z.b5 Z.b6 Z.b7 e) hy fun y' g4 tk4 ly s24 e4=>wpAny_pure ?_)
 have t4:IsPair g4 TO x' b:=e4.extBut _ _ Z.a9 t3
 refine wpAny_bind (wpAny_seqItems t4 rfl (wpAny_bind (wpAny_updateSeq_pair t4 fun g5 t5 e5=>?_)))
 replace t5:IsPair g5 TO x' y':=t5
 refine wpAny_bind (wpAny_letGo (wpAny_pure (wpAny_pure (wpAny_bind (wpAny_seqItems t5 rfl (wpAny_bind (wpAny_newTuple ?_)))))))
 have size5:g5.objs.size=s.heap.objs.size:=by rw[e5.1,e4.1,e3.1,e2.1,e1.1]
 have z5:IsZip g5 z TI TO .ellipsis:=e5.extBut _ _ Z.a2.symm (e4.extBut _ _ Z.a4.symm (e3.extBut _ _ Z.a2.symm (e2.extBut _ _ Z.a3.symm z1)))
 have up5:∀c o,c≠z->c≠TO->c≠i1->c≠i2->s.heap.get? c=some o->g5.get? c=some o:=fun c o c1 c2 c3 c4 e=>e5.extBut _ _ c2 (e4.extBut _ _ c4 (up3 c o c1 c2 c3 e))
 have s15:S1 (k+1) g5:=D1.keep _ _ _ s12 fun o e=>e5.extBut _ _ Z.a8.symm (e4.extBut _ _ Z.a10 (e3.extBut _ _ Z.a8.symm e))
 have s25:S2 (k+1) g5:=D2.keep _ _ _ s24 fun o e=>e5.extBut _ _ Z.a9.symm e
 have zlt:z < g5.objs.size:=xM z5
 show wpAny _ _ (Builtin.SmallTypes.ownedTupleHandOut (.ref z) (.ref g5.objs.size) >>= _) _ _ _
 refine wpAny_bind ?_
 unfold Builtin.SmallTypes.ownedTupleHandOut
 have z6:IsZip (g5.push {cls:=.type "tuple", data:=.seq #[x',y'] }) z TI TO .ellipsis:=xA _ z5
 refine wpAny_bind (wpAny_setField_rec z6 (by simp) fun g7 z7 e7=>?_)
 replace z7:IsZip g7 z TI TO (rawInt g5.objs.size):=z7
 refine wpAny_setField_rec z7 (by simp) fun g8 z8 e8=>?_
 replace z8:IsZip g8 z TI TO (rawInt g5.objs.size):=z8
 have up8:∀c o,c≠z->g5.get? c=some o->g8.get? c=some o:=fun c o c1 e=>e8.extBut _ _ c1 (e7.extBut _ _ c1 (xA _ e))
 have p8:IsPair g8 g5.objs.size x' y':=e8.extBut _ _ (Nat.ne_of_gt zlt) (e7.extBut _ _ (Nat.ne_of_gt zlt) (xP _ rfl))
 rw[size5] at z8 p8
 refine wpAny_pure ⟨_,rfl,?_⟩
 show Q (.ref g5.objs.size) _
 rw[size5]
 exact hQ x' y' g8 _ lx ly z8 (up8 _ _ Z.a2 t5) (D1.keep _ _ _ s15 fun o e=>up8 _ _ Z.a3 e) (D2.keep _ _ _ s25 fun o e=>up8 _ _ Z.a4 e) p8 fun c o c1 c2 c3 c4 e=>up8 c o c1 (up5 c o c1 c2 c3 c4 e)
theorem Zve{Q:PySem.Fin->Shared->Prop}(hh:A.handled=none)(Z:ZA z TI TO i1 i2 l1 l2)(D1:Drw P w i1 l1 S1 H1)(D2:Drw P w i2 l2 S2 H2)(hz:IsZip s.heap z TI TO .none)(hTI:IsPair s.heap TI (.ref i1) (.ref i2))(hTO:IsPair s.heap TO a b)(st1:S1 k s.heap)(st2:S2 k s.heap)(h1:H1 s.heap xs)(h2:H2 s.heap ys)(hend:xs[k]? = none\/ys[k]? = none)(hE:∀h' e tk,(∀c o,c≠z->c≠TO->c≠i1->c≠i2->s.heap.get? c=some o->h'.get? c=some o)->(∃o,h'.get? e=some o/\o.cls = .type "StopIteration")->E (.ref e) {s with heap:=h',toks:=tk }) :
  wpAny (model P w) A (Builtin.«zip.__next__» ⟨[.ref z],[]⟩) Q E s:=by
 show wpAny _ _ (field (.ref z) 2 >>= _) _ _ _
 refine wpAny_bind (wpAny_field hz rfl (x:=.bool false) rfl ?_)
 show wpAny _ _ (field (.ref z) 3 >>= _) _ _ _
 refine wpAny_bind (wpAny_field hz rfl (x:=.ref TI) rfl (wpAny_bind (wpAny_seqItems hTI rfl ?_)))
 show wpAny _ _ (Builtin.SmallTypes.ownedTupleIsFree (.ref z) >>= _) _ _ _
 refine wpAny_bind ?_
 unfold Builtin.SmallTypes.ownedTupleIsFree
 refine wpAny_bind (wpAny_field hz rfl (x:=.none) rfl (wpAny_pure ?_))
 simp only[if_true]
 refine wpAny_bind (wpAny_rule (wpAny_bind (wpAny_field hz rfl (x:=.ref TO) rfl (wpAny_bind (wpAny_setField_rec hz (by simp) fun g1 z1 e1=>?_)))))
 replace z1:IsZip g1 z TI TO .ellipsis:=z1
 refine wpAny_bind ?_
 simp only[List.zipIdx_cons,List.zipIdx_nil,List.forIn_cons,List.forIn_nil]
 refine wpAny_bind (wpAny_bind (wpAny_onRaise ?_))
 show wpAny _ _ (Builtin.SmallTypes.nextOf (.ref i1) >>= _) _ _ _
 have st1':=D1.keep _ _ _ st1 fun o e=>e1.extBut _ _ Z.a3 e
 have h1':=D1.src _ _ _ h1 fun o e=>e1.extBut _ _ Z.b1 e
 cases hx:xs[k]? with
 | none =>
  refine wpAny_bind (D1.done _ k _ xs _ _ hh st1' h1' hx fun g2 e e2 ⟨oe,hoe,hce⟩=>?_)
  have z2:IsZip g2 z TI TO .ellipsis:=e2 _ _ Z.a3.symm z1
  have ne:e≠z:=fun q=>by subst q;rw[z2] at hoe;cases hoe;simp at hce
  exact wpAny_setField_rec z2 (by simp) fun g3 _ e3=>hE g3 e s.toks (fun c o c1 _ c3 _ q=>e3.extBut _ _ c1 (e2 _ _ c3 (e1.extBut _ _ c1 q))) ⟨oe,e3.extBut _ _ ne hoe,hce⟩
 | some x =>
  have hy:ys[k]? = none:=hend.elim (fun q=>by rw[hx] at q;cases q) id
  refine wpAny_bind (D1.item _ k _ xs x _ _ st1' h1' hx fun x' g2 tk2 lx s12 e2=>wpAny_pure ?_)
  have t2:IsPair g2 TO a b:=e2.extBut _ _ Z.a8 (e1.extBut _ _ Z.a2 hTO)
  refine wpAny_bind (wpAny_seqItems t2 rfl (wpAny_bind (wpAny_updateSeq_pair t2 fun g3 t3 e3=>?_)))
  refine wpAny_bind (wpAny_letGo (wpAny_pure (wpAny_bind (wpAny_bind (wpAny_onRaise ?_)))))
  show wpAny _ _ (Builtin.SmallTypes.nextOf (.ref i2) >>= _) _ _ _
  have up3:∀c o,c≠z->c≠TO->c≠i1->s.heap.get? c=some o->g3.get? c=some o:=fun c o c1 c2 c3 e=>e3.extBut _ _ c2 (e2.extBut _ _ c3 (e1.extBut _ _ c1 e))
  refine wpAny_bind (D2.done _ k _ ys _ _ hh (D2.keep _ _ _ st2 fun o e=>up3 _ _ Z.a4 Z.a9.symm Z.a10.symm e) (D2.src _ _ _ h2 fun o e=>up3 _ _ Z.b5 Z.b6 Z.b7 e) hy fun g4 e e4 ⟨oe,hoe,hce⟩=>?_)
  have z4:IsZip g4 z TI TO .ellipsis:=e4 _ _ Z.a4.symm (e3.extBut _ _ Z.a2.symm (e2.extBut _ _ Z.a3.symm z1))
  have ne:e≠z:=fun q=>by subst q;rw[z4] at hoe;cases hoe;simp at hce
  exact wpAny_setField_rec z4 (by simp) fun g5 _ e5=>hE g5 e _ (fun c o c1 c2 c3 c4 q=>e5.extBut _ _ c1 (e4 _ _ c4 (up3 c o c1 c2 c3 q))) ⟨oe,e5.extBut _ _ ne hoe,hce⟩
end
structure SqK (sq:uFg->Hp->Addr->List V->Prop) (Hs:Addr->Heap->List Value->Prop):Prop where
 get:∀{X:Cx}{pins:List (Addr×Obj)}{σ:St}{H:Hp}{s:Shared}{l:Addr}{xs:List V},Inv X pins σ H s->sq X.K H l xs->∃its,Vals xs its/\Hs l s.heap its
 inj:∀{X:Cx}{pins:List (Addr×Obj)}{σ:St}{H:Hp}{s:Shared}{l:Addr}{xs ys:List V},Inv X pins σ H s->sq X.K H l xs->sq X.K H l ys->xs=ys
theorem Zvf:SqK SqL (fun l h its=>h.IsList l its.toArray):=⟨fun I h=>let ⟨its,r,p,_⟩:=I.list h;⟨its,r,p.isList⟩,fun I h h'=>I.list_inj h h'⟩
theorem Zxg:SqK SqT (fun l h its=>h.IsTuple l its.toArray):=⟨fun I h=>let ⟨its,r,p,_⟩:=I.tuple h;⟨its,r,p⟩,fun I h h'=>I.tuple_inj h h'⟩
def Itz(sq:uFg->Hp->Addr->List V->Prop)(K:uFg)(l1 l2:Addr):It :=
 ⟨fun i H=>∃xs ys,sq K H l1 xs/\sq K H l2 ys/\i < xs.length/\i < ys.length,fun i H v H'=>∃p a b,v = .ref p/\H p=none/\H'=upd H p (.tup [a,b])/\∀xs ys,sq K H l1 xs->sq K H l2 ys->xs[i]? = some a/\ys[i]? = some b,
  fun i H=>∃xs ys,sq K H l1 xs/\sq K H l2 ys/\(xs.length<=i\/ys.length<=i)⟩
theorem Zvg{P:Program}{w:World}{K:uFg}{elts:List Expr}{ek:Nat}{epos:Pos}{sq:uFg->Hp->Addr->List V->Prop}{Hs:Addr->Heap->List Value->Prop}{z TI TO i1 i2 l1 l2:Addr}{S1 S2:Nat->Heap->Prop}(SK:SqK sq Hs)(Z:ZA z TI TO i1 i2 l1 l2)(D1:Drw P w i1 l1 S1 (Hs l1))(D2:Drw P w i2 l2 S2 (Hs l2)) :
  Turn P w K (.Tuple elts ek epos) (Itz sq K l1 l2) [z,TI,TO,i1,i2] z (fun i h=>IsZip h z TI TO .none/\IsPair h TI (.ref i1) (.ref i2)/\(∃a b,IsPair h TO a b)/\S1 i h/\S2 i h) where
 mem:=by simp
 obj:=fun i h st b hb=>by
  obtain⟨hz,hTI,⟨a,c,hTO⟩,s1,s2⟩:=st
  simp only[xD,xR,or_false] at hb
  rcases hb with rfl | rfl | rfl | rfl | rfl
  ·exact⟨_,hz,fun v q=>by cases q⟩
  ·exact⟨_,hTI,fun v q=>by cases q⟩
  ·exact⟨_,hTO,fun v q=>by cases q⟩
  ·exact D1.obj _ _ s1
  ·exact D2.obj _ _ s2
 keep:=fun i h h' st k=>by
  obtain⟨hz,hTI,⟨a,c,hTO⟩,s1,s2⟩:=st
  exact⟨k z (by simp) _ hz,k TI (by simp) _ hTI,⟨a,c,k TO (by simp) _ hTO⟩,D1.keep _ _ _ s1 fun o e=>k i1 (by simp) o e,D2.keep _ _ _ s2 fun o e=>k i2 (by simp) o e⟩
 item:=by
  intro X hP hw hK hc i pins s σ H E I hf st hg
  subst hP hw hK
  obtain⟨hz,hTI,⟨a,b,hTO⟩,s1,s2⟩:=st
  obtain⟨xs,ys,q1,q2,hx,hy⟩:=hg
  obtain⟨its1,r1,w1⟩:=SK.get I q1
  obtain⟨its2,r2,w2⟩:=SK.get I q2
  have gx:xs[i]? = some xs[i]:=xC hx
  have gy:ys[i]? = some ys[i]:=xC hy
  obtain⟨u1,hu1,ru1⟩:=r1.get gx
  obtain⟨u2,hu2,ru2⟩:=r2.get gy
  have hT:s.TypeIs (.ref z) "zip" := ⟨_,hz,rfl⟩
  unfold pyNext
  refine wpAny_bind (wpAny_attempt (wpAny_callSpecial?_slot (name:=Str.ofString "__next__") hT F.slot_zip_next (wpAny_call_entry F.slot_zip_next hT F.entry_zip_next
   (Zth Z D1 D2 hz hTI hTO s1 s2 w1 w2 hu1 hu2 fun u1' u2' h' tk l1' l2' z1 t1 n1 n2 p1 kp=>wpAny_pure ?_) (F.args_zip_next_1 _))))
  refine⟨_,rfl,?_⟩
  have nfp:∀c,c ∈ [z,TO,i1,i2]->c ∈ [z,TI,TO,i1,i2]:=fun c hc=>by
   simp only[xD,xR,or_false] at hc ⊢
   rcases hc with q | q | q | q
   ·exact .inl q
   ·exact .inr (.inr (.inl q))
   ·exact .inr (.inr (.inr (.inl q)))
   ·exact .inr (.inr (.inr (.inr q)))
  have kp':∀c o,c ∉ [z,TO,i1,i2]->s.heap.get? c=some o->h'.get? c=some o:=fun c o hc e=>kp c o (fun q=>hc (by simp[q])) (fun q=>hc (by simp[q])) (fun q=>hc (by simp[q])) (fun q=>hc (by simp[q])) e
  have hp:H s.heap.objs.size=none:=I.hok.fresh (xE _)
  have ltp:∀c o,s.heap.get? c=some o->c≠s.heap.objs.size:=fun c o e=>yD (xM e)
  have ntr:∀c u,H c=some u->c ∉ [z,TO,i1,i2]:=fun c u e hc=>by
   have:=(hf c (nfp c hc)).1
   rw[this] at e;cases e
  have there4:∀c,c ∈ [z,TO,i1,i2]->∃o',h'.get? c=some o':=fun c hc=>by
   simp only[xD,xR,or_false] at hc
   rcases hc with rfl | rfl | rfl | rfl
   ·exact⟨_,z1⟩
   ·exact⟨_,t1⟩
   ·obtain⟨o,e,_⟩:=D1.obj _ _ n1;exact⟨o,e⟩
   ·obtain⟨o,e,_⟩:=D2.obj _ _ n2;exact⟨o,e⟩
  have I1:Inv X pins σ (upd H s.heap.objs.size (.tup [xs[i],ys[i]])) {s with heap:=h',toks:=tk }:=by
   refine I.step (g':=s.gens) (d':=s.drawn) (t':=tk) (ch:=[z,TO,i1,i2]) (fun c hc=>?_) (fun c o _ _ hc e _=>kp' c o hc e) (fun c o _ _ hc e _=>⟨o.slots,kp' c o hc e⟩) (fun c o hc e n=>by rw[Zc (ltp c o e)];exact n)
    (fun c o hc e=>⟨o,kp' c o hc e⟩) (fun c us e=>by rw[Zc (Zj e hp)];exact e) (fun c o u e=>by rw[Zc (Zj e hp)];exact e) (fun c ps e=>⟨#[],by rw[Zc (Zj e hp),e];simp⟩) (fun m hm=>?_) ?_ I.bare
   ·obtain⟨f0,f1,f2,f3,f4,f5⟩:=hf c (nfp c hc)
    exact⟨f3,f1,f4,f5⟩
   ·refine hm.at fun o e=>kp' _ o (fun hc=>?_) e
    exact(hf _ (nfp _ hc)).2.1 rfl
   ·intro c u e
    by_cases hcp:c=s.heap.objs.size
    ·subst hcp
     rw[Zg] at e
     cases e
     exact⟨by show 2<=sizeLine;decide,[u1',u2'],.cons (l1'.rel ru1) (.cons (l2'.rel ru2) .nil),⟨_,p1,rfl,_,rfl⟩⟩
    ·rw[Zc hcp] at e
     refine(I.hok c u e).stay (fun d v hd q=>kp' d v ?_ q) (fun d q=>by rw[Zc (Zj q hp)];exact q) fun d us q=>by rw[Zc (Zj q hp)];exact q
     rcases hd with rfl | hd
     ·exact ntr _ u e
     ·exact ntr _ _ hd
  refine wpAny_letOwnedTupleGo_zip (s:={s with heap:=h',toks:=tk }) z1 fun h2 z2 e2=>?_
  obtain⟨f0,f1,f2,f3,f4,f5⟩:=hf z (by simp)
  have nz:z≠s.heap.objs.size:=ltp z _ hz
  have I2:Inv X pins σ (upd H s.heap.objs.size (.tup [xs[i],ys[i]])) {s with heap:=h2,toks:=tk }:=I1.turned (s:={s with heap:=h',toks:=tk }) (it:=z) (t':=tk) (fun c o hc e=>(e2.2 c hc).trans e) (by rw[Zc nz];exact f0) f1 f3 f4 f5
  refine⟨.ref s.heap.objs.size,_,I2,rfl,⟨s.heap.objs.size,xs[i],ys[i],rfl,hp,rfl,fun xs' ys' q1' q2'=>?_⟩,⟨z2,(e2.2 _ Z.a1).trans (kp' TI _ (fun hc=>?_) hTI),⟨_,_,(e2.2 _ Z.a2).trans t1⟩,D1.keep _ _ _ n1 fun o e=>(e2.2 _ Z.a3).trans e,D2.keep _ _ _ n2 fun o e=>(e2.2 _ Z.a4).trans e⟩,fun c hc=>?_⟩
  ·rw[SK.inj I q1' q1,SK.inj I q2' q2]
   exact⟨gx,gy⟩
  ·simp only[xD,xR,or_false] at hc
   rcases hc with q | q | q | q
   ·exact Z.a1 q
   ·exact Z.a5 q
   ·exact Z.a6 q
   ·exact Z.a7 q
  ·obtain⟨o,ho⟩:∃o,s.heap.get? c=some o:=by
    simp only[xD,xR,or_false] at hc
    rcases hc with rfl | rfl | rfl | rfl | rfl
    ·exact⟨_,hz⟩
    ·exact⟨_,hTI⟩
    ·exact⟨_,hTO⟩
    ·obtain⟨o,e,_⟩:=D1.obj _ _ s1;exact⟨o,e⟩
    ·obtain⟨o,e,_⟩:=D2.obj _ _ s2;exact⟨o,e⟩
   rw[Zc (ltp c o ho)]
   exact(hf c hc).1
 done:=by
  intro X hP hw hK hc i pins s σ H E I hf st hg
  subst hP hw hK
  obtain⟨hz,hTI,⟨a,b,hTO⟩,s1,s2⟩:=st
  obtain⟨xs,ys,q1,q2,hend⟩:=hg
  obtain⟨its1,r1,w1⟩:=SK.get I q1
  obtain⟨its2,r2,w2⟩:=SK.get I q2
  have hT:s.TypeIs (.ref z) "zip" := ⟨_,hz,rfl⟩
  have hend':its1[i]? = none\/its2[i]? = none:=by
   have e1:=r1.length
   have e2:=r2.length
   rcases hend with q | q
   ·exact .inl (zM (by lia))
   ·exact .inr (zM (by lia))
  unfold pyNext
  refine wpAny_bind (wpAny_attempt (wpAny_callSpecial?_slot (name:=Str.ofString "__next__") hT F.slot_zip_next (wpAny_call_entry F.slot_zip_next hT F.entry_zip_next (Zve (I.ok.hd hc) Z D1 D2 hz hTI hTO s1 s2 w1 w2 hend' fun h' e tk kp ⟨o,ho,hcl⟩=>?_) (F.args_zip_next_1 _))))
  refine wpAny_bind (wpAny_isInstance (T:="StopIteration") (b:=true) ⟨o,ho,hcl⟩ isSubtype_stop (wpAny_pure ⟨rfl,?_⟩))
  have nfp:∀c,c ∈ [z,TO,i1,i2]->c ∈ [z,TI,TO,i1,i2]:=fun c hc=>by
   simp only[xD,xR,or_false] at hc ⊢
   rcases hc with q | q | q | q
   ·exact .inl q
   ·exact .inr (.inr (.inl q))
   ·exact .inr (.inr (.inr (.inl q)))
   ·exact .inr (.inr (.inr (.inr q)))
  have kp':∀c o,c ∉ [z,TO,i1,i2]->s.heap.get? c=some o->h'.get? c=some o:=fun c o hc e=>kp c o (fun q=>hc (by simp[q])) (fun q=>hc (by simp[q])) (fun q=>hc (by simp[q])) (fun q=>hc (by simp[q])) e
  have ntr:∀c u,H c=some u->c ∉ [z,TO,i1,i2]:=fun c u e hc=>by
   have:=(hf c (nfp c hc)).1
   rw[this] at e;cases e
  refine I.step (g':=s.gens) (d':=s.drawn) (t':=tk) (ch:=[z,TO,i1,i2]) (fun c hc=>?_) (fun c o _ _ hc e _=>kp' c o hc e) (fun c o _ _ hc e _=>⟨o.slots,kp' c o hc e⟩) (fun c o hc e n=>n)
   (fun c o hc e=>⟨o,kp' c o hc e⟩) (fun c us e=>e) (fun c o u e=>e) (fun c ps e=>⟨#[],by rw[e];simp⟩) (fun m hm=>?_) ?_ I.bare
  ·obtain⟨f0,f1,f2,f3,f4,f5⟩:=hf c (nfp c hc)
   exact⟨f3,f1,f4,f5⟩
  ·refine hm.at fun o e=>kp' _ o (fun hc=>?_) e
   exact(hf _ (nfp _ hc)).2.1 rfl
  ·intro c u e
   refine(I.hok c u e).stay (fun d v hd q=>kp' d v ?_ q) (fun d q=>q) fun d us q=>q
   rcases hd with rfl | hd
   ·exact ntr _ u e
   ·exact ntr _ _ hd
 self:=fun A i s Q E st h=>wpAny_pyIter_zip st.1 h
abbrev tzA(h:Heap)(t1:Addr):Heap:=h.push {cls:=.type "tuple_iterator", data:=.fields #[.ref t1,.int 0 0] }
abbrev tzB(h:Heap)(t1 t2:Addr):Heap:=(tzA h t1).push {cls:=.type "tuple_iterator", data:=.fields #[.ref t2,.int 0 0] }
abbrev tzC(h:Heap)(t1 t2:Addr):Heap:=(tzB h t1 t2).push {cls:=.type "tuple", data:=.seq #[.ref h.objs.size,.ref (tzA h t1).objs.size] }
abbrev tzD(h:Heap)(t1 t2:Addr):Heap:=(tzC h t1 t2).push {cls:=.type "tuple", data:=.seq #[.none,.none] }
abbrev tzE(h:Heap)(t1 t2:Addr):Heap:=(tzD h t1 t2).push {cls:=.type "zip", data:=.fields #[.none,.bool false,.bool false,.ref (tzB h t1 t2).objs.size,.ref (tzC h t1 t2).objs.size] }
theorem Zsj(l1 l2:Addr)(xs ys:Array Value):Meets (Builtin.«zip.__new__» ⟨[.type "zip", .ref l1,.ref l2],[]⟩) (fun _ R s=>s.heap.IsTuple l1 xs/\s.heap.IsTuple l2 ys/\R (.ok (.ret (.ref (tzD s.heap l1 l2).objs.size))) {s with heap:=tzE s.heap l1 l2 }) :=
 .of_wp fun prog w A R s h=>by
  obtain⟨hp,g,d,tk,os⟩:=s;obtain⟨hl1,hl2,h⟩:=h
  have hsub:=sub_zip
  have hL1:Heap.IsTuple (Shared.heap ⟨hp,g,d,tk,os⟩) l1 xs:=hl1
  have hL2:Heap.IsTuple (Shared.heap ⟨tzA hp l1,g,d,tk,os⟩) l2 ys:=let ⟨o,e,r⟩:=hl2;⟨o,xA _ e,r⟩
  wp_walk using wpAny_pyIter_tuple hL1,wpAny_pyIter_tuple hL2
  exact⟨_,rfl,h⟩
section
variable{P:Program}{w:World}{A:Around}{E:Value->Shared->Prop}{s:Shared}
theorem Zti{l1 l2:Addr}{xs ys:Array Value}{Q:Value->Shared->Prop}(hl1:s.heap.IsTuple l1 xs)(hl2:s.heap.IsTuple l2 ys)(h:∀h',IsZip h' (s.heap.objs.size+4) (s.heap.objs.size+2) (s.heap.objs.size+3) .none->IsPair h' (s.heap.objs.size+2) (.ref s.heap.objs.size) (.ref (s.heap.objs.size+1))->
   IsPair h' (s.heap.objs.size+3) .none .none->h'.IsTupleIter s.heap.objs.size l1 0->h'.IsTupleIter (s.heap.objs.size+1) l2 0 ->
   (∀c o,s.heap.get? c=some o->h'.get? c=some o)->Q (.ref (s.heap.objs.size+4)) {s with heap:=h' }):wpAny (model P w) A (call (.type "zip") [.ref l1,.ref l2]) Q E s:=by
 refine callType_new F.called_zip (by decide) (F.typeCall_zip_2 _ _) (F.newCall_zip_2 _ _) (fun obj=>F.args_object_init_3 obj _ _) F.entry_zip_new (Zsj l1 l2 xs ys) ⟨hl1,hl2,?_⟩
 have n1:(tzA s.heap l1).objs.size=s.heap.objs.size+1:=yY ..
 have n2:(tzB s.heap l1 l2).objs.size=s.heap.objs.size+2:=by rw[yY,n1]
 have n3:(tzC s.heap l1 l2).objs.size=s.heap.objs.size+3:=by rw[yY,n2]
 have n4:(tzD s.heap l1 l2).objs.size=s.heap.objs.size+4:=by rw[yY,n3]
 have q5:(tzE s.heap l1 l2).get? (tzD s.heap l1 l2).objs.size=some _:=xP _ rfl
 have q4:(tzE s.heap l1 l2).get? (tzC s.heap l1 l2).objs.size=some _:=xA _ (xP _ rfl)
 have q3:(tzE s.heap l1 l2).get? (tzB s.heap l1 l2).objs.size=some _:=xA _ (xA _ (xP _ rfl))
 have q2:(tzE s.heap l1 l2).get? (tzA s.heap l1).objs.size=some _:=xA _ (xA _ (xA _ (xP _ rfl)))
 have q1:(tzE s.heap l1 l2).get? s.heap.objs.size=some _:=xA _ (xA _ (xA _ (xA _ (xP _ rfl))))
 show _/\_
 rw[n2,n3,n4] at q5
 rw[n1,n2] at q3
 rw[n3] at q4
 rw[n1] at q2
 rw[n4]
 exact⟨⟨_,q5,rfl⟩,h _ q5 q3 q4 ⟨_,q1,rfl,rfl⟩ ⟨_,q2,rfl,rfl⟩ fun c o x=>xA _ (xA _ (xA _ (xA _ (xA _ x))))⟩
end
theorem Z0m{n l1 l2:Addr}(h1:l1 < n)(h2:l2 < n):ZA (n+4) (n+2) (n+3) n (n+1) l1 l2:=by
 have h1 : @LT.lt Nat _ l1 n:=h1
 have h2 : @LT.lt Nat _ l2 n:=h2
 have key:∀(a b:Nat),(a < b\/b < a)->¬(@Eq Nat a b):=fun a b h q=>by lia
 exact⟨key _ _ (by lia),key _ _ (by lia),key _ _ (by lia),key _ _ (by lia),key _ _ (by lia),key _ _ (by lia),key _ _ (by lia),key _ _ (by lia),key _ _ (by lia),key _ _ (by lia),
  key _ _ (by lia),key _ _ (by lia),key _ _ (by lia),key _ _ (by lia),key _ _ (by lia),key _ _ (by lia),key _ _ (by lia),key _ _ (by lia)⟩
def Zqp(K:uFg)(ta:TA):TI:=fun σ H R=>ta σ H fun vs H1=>∃l1 l2,vs = [.ref l1,.ref l2]/\
 ((∃xs ys,SqL K H1 l1 xs/\SqL K H1 l2 ys/\R (Itz SqL K l1 l2) H1)\/(∃xs ys,SqT K H1 l1 xs/\SqT K H1 l2 ys/\R (Itz SqT K l1 l2) H1))
theorem Zzd{X:Cx}{a b:Expr}{ta:TA}{p pos:Pos}{elts:List Expr}{ek:Nat}{epos:Pos}(hg:Gl X "zip")(hm:X.mg "zip" = none)(ha:PA X [a,b] ta)(hs:starEach [a,b] X.env = [(false,eval a X.env),(false,eval b X.env)]:=by rfl)(hs2:starEach [b] X.env = [(false,eval b X.env)]:=by rfl) :
  PI X (.Tuple elts ek epos) (.Call (.Name "zip" p) [a,b] [] pos) (Zqp X.K ta):=by
 intro pins s σ H R I h
 refine Call_ (U2 I hg hm boot_zip (PyProof.Rows.callWith_type1 (thn (ha pos pins s σ H _ I h) fun us s1 ⟨vs,H1,I1,r1,q1⟩=>?_) (by rw[hs,hs2]) (by rw[hs2];rfl)))
 obtain⟨l1,l2,e,q1⟩:=q1
 subst e
 obtain⟨u1,u2,rfl,ru1,ru2⟩:=Zgv r1
 cases ru1
 cases ru2
 have fin:∀{sq:uFg->Hp->Addr->List V->Prop}{Hs:Addr->Heap->List Value->Prop}{S1 S2:Nat->Heap->Prop}{h':Heap},SqK sq Hs->l1 < s1.heap.objs.size->l2 < s1.heap.objs.size->Drw X.prog X.w s1.heap.objs.size l1 S1 (Hs l1)->Drw X.prog X.w (s1.heap.objs.size+1) l2 S2 (Hs l2)->
   IsZip h' (s1.heap.objs.size+4) (s1.heap.objs.size+2) (s1.heap.objs.size+3) .none->IsPair h' (s1.heap.objs.size+2) (.ref s1.heap.objs.size) (.ref (s1.heap.objs.size+1))->IsPair h' (s1.heap.objs.size+3) .none .none->S1 0 h'->S2 0 h'->(∀c o,s1.heap.get? c=some o->h'.get? c=some o)->R (Itz sq X.K l1 l2) H1 ->
   wpAny (model X.prog X.w) X.A (pyIter (.ref (s1.heap.objs.size+4))) (PIE X pins σ (.Tuple elts ek epos) R) X.xe {s1 with heap:=h' }:=by
  intro sq Hs S1 S2 h' SK b1 b2 D1 D2 z0 t1 t0 st1 st2 kp q
  refine wpAny_pyIter_zip z0 ?_
  refine⟨s1.heap.objs.size+4,_,_,_,H1,rfl,I1.kept (h':=h') (t':=s1.toks) kp,Zvg SK (Z0m b1 b2) D1 D2,⟨z0,t1,⟨_,_,t0⟩,st1,st2⟩,fun c hc=>?_,q⟩
  have hle:s1.heap.objs.size<=c:=by
   simp only[xD,xR,or_false] at hc
   have:(s1.heap.objs.size:Nat)<=(c:Nat):=by rcases hc with rfl | rfl | rfl | rfl | rfl<;>lia
   exact this
  exact I1.fpOk hle (I1.hok.fresh hle)
 rcases q1 with⟨xs,ys,h1,h2,q⟩ | ⟨xs,ys,h1,h2,q⟩
 ·obtain⟨its1,r1,p1,_⟩:=I1.list h1
  obtain⟨its2,r2,p2,_⟩:=I1.list h2
  have b1:l1 < s1.heap.objs.size:=by obtain⟨o,n,e,_⟩:=p1;exact xM e
  have b2:l2 < s1.heap.objs.size:=by obtain⟨o,n,e,_⟩:=p2;exact xM e
  exact call_zip_2 p1.isList p2.isList fun h' z0 t1 t0 st1 st2 _ kp=>fin Zvf b1 b2 (Zl6 _ _) (Zl6 _ _) z0 t1 t0 st1 st2 kp q
 ·obtain⟨its1,r1,p1,_⟩:=I1.tuple h1
  obtain⟨its2,r2,p2,_⟩:=I1.tuple h2
  have b1:l1 < s1.heap.objs.size:=by obtain⟨o,e,_⟩:=p1;exact xM e
  have b2:l2 < s1.heap.objs.size:=by obtain⟨o,e,_⟩:=p2;exact xM e
  exact Zti p1 p2 fun h' z0 t1 t0 st1 st2 kp=>fin Zxg b1 b2 (Zlr _ _) (Zlr _ _) z0 t1 t0 st1 st2 kp q
theorem Zze{X:Cx}{a b:Expr}{ta:TA}{p pos:Pos}{elts:List Expr}{ek:Nat}{epos:Pos}(hm:X.mg "zip" = none)(ha:QA X [a,b] ta)(hg:nB X "zip" .globalImplicit:=by kernel_rfl)(hs:starEach [a,b] X.env = [(false,eval a X.env),(false,eval b X.env)]:=by rfl)(hs2:starEach [b] X.env = [(false,eval b X.env)]:=by rfl) :
  QI X (.Tuple elts ek epos) (.Call (.Name "zip" p) [a,b] [] pos) (Zqp X.K ta):=⟨Zzd (od hg).1 hm ha.h hs hs2⟩
theorem Zl7{sq:uFg->Hp->Addr->List V->Prop}{K:uFg}{l1 l2:Addr}{g:TG}{tb:TS}{D:Ends}{σ:St}{H:Hp}(xs ys:List V)(hxy:xs.length=ys.length)(Pv:Nat->St->Hp->Prop)(h0:Pv 0 σ H)(hl:∀i σ H,i<=xs.length->Pv i σ H->sq K H l1 xs/\sq K H l2 ys)(hs:∀i x y p σ H,xs[i]? = some x->ys[i]? = some y->Pv i σ H->H p=none->g (.ref p) σ (upd H p (.tup [x,y])) fun σ2 H2=>tb {D with nx:=Pv (i+1),ct:=Pv (i+1),bk:=D.nx } σ2 H2)(hd:∀ σ H,Pv xs.length σ H->D.nx σ H):Za9 (Itz sq K l1 l2) g tb D σ H:=by
 refine⟨fun i m σ H=>m=xs.length - i/\i<=xs.length/\Pv i σ H,⟨xs.length,by simp,yJ _,h0⟩,?_⟩
 rintro i m σ H ⟨rfl,hi,p⟩
 obtain⟨q1,q2⟩:=hl i σ H hi p
 by_cases hlt:i < xs.length
 ·refine .inr ⟨⟨xs,ys,q1,q2,hlt,by lia⟩,Pv (i+1),fun σ' H' p'=>⟨xs.length - (i+1),by lia,rfl,hlt,p'⟩,fun v H' y=>?_⟩
  obtain⟨pp,a,b,rfl,hp,rfl,hv⟩:=y
  obtain⟨e1,e2⟩:=hv xs ys q1 q2
  exact hs i a b pp σ H e1 e2 p hp
 ·have e:i=xs.length:=by lia
  subst e
  exact .inl ⟨⟨xs,ys,q1,q2,.inl (xE _)⟩,hd σ H p⟩
end L2
end
section
namespace L2
open PySem PySem.Spec PyProof.Rows
inductive D where
 | non | bl (b:Bool) | int (i:Int) | str (x:Str) | tup (xs:List D) | lst (xs:List D)
mutual
def Rep(H:Hp):D->V->Prop
 | .non,v=>v = .non
 | .bl b,v=>v = .bl b
 | .int i,v=>v = .int i
 | .str x,v=>v = .str x
 | .tup ds,v=>∃a vs,v = .ref a/\H a=some (.tup vs)/\RepL H ds vs
 | .lst ds,v=>∃a vs,v = .ref a/\H a=some (.lst vs)/\RepL H ds vs
def RepL(H:Hp):List D->List V->Prop
 | [],vs=>vs = []
 | d::ds,vs=>∃v r,vs=v::r/\Rep H d v/\RepL H ds r
end
mutual
theorem Rep.mono{H H':Hp}(k:Same H H'):∀(d:D)(v:V),Rep H d v->Rep H' d v
 | .non,v,h=>h
 | .bl b,v,h=>h
 | .int i,v,h=>h
 | .str x,v,h=>h
 | .tup ds,v,h=>by
  obtain⟨a,vs,e,h1,h2⟩:=h
  exact⟨a,vs,e,k _ _ h1,RepL.mono k ds vs h2⟩
 | .lst ds,v,h=>by
  obtain⟨a,vs,e,h1,h2⟩:=h
  exact⟨a,vs,e,k _ _ h1,RepL.mono k ds vs h2⟩
theorem RepL.mono{H H':Hp}(k:Same H H'):∀(ds:List D)(vs:List V),RepL H ds vs->RepL H' ds vs
 | [],vs,h=>h
 | d::ds,vs,h=>by
  obtain⟨v,r,e,h1,h2⟩:=h
  exact⟨v,r,e,Rep.mono k d v h1,RepL.mono k ds r h2⟩
end
theorem RepL.length{H:Hp}:∀{ds:List D}{vs:List V},RepL H ds vs->vs.length=ds.length
 | [],vs,h=>by cases h;rfl
 | d::ds,vs,h=>by
  obtain⟨v,r,rfl,h1,h2⟩:=h
  rw[xU,xU,RepL.length h2]
theorem RepL.get{H:Hp}:∀{ds:List D}{vs:List V}{i:Nat}{v:V},RepL H ds vs->vs[i]? = some v->∃d,ds[i]? = some d/\Rep H d v
 | [],vs,i,v,h,e=>by cases h;simp at e
 | d::ds,vs,i,v,h,e=>by
  obtain⟨w,r,rfl,h1,h2⟩:=h
  cases i with
  | zero=>simp at e;subst e;exact⟨d,rfl,h1⟩
  | succ i=>simp at e;exact RepL.get (i:=i) h2 e
theorem RepL.snoc{H:Hp}{d:D}{v:V}(hd:Rep H d v):∀{ds:List D}{vs:List V},RepL H ds vs->RepL H (ds ++ [d]) (vs ++ [v])
 | [],vs,h=>by cases h;exact⟨v,[],rfl,hd,rfl⟩
 | e::ds,vs,h=>by
  obtain⟨w,r,rfl,h1,h2⟩:=h
  exact⟨w,r ++ [v],rfl,h1,RepL.snoc hd h2⟩
mutual
def Y7:D->D->Bool
 | .non,.non=>true
 | .bl a,.bl b=>a == b
 | .int a,.int b=>a == b
 | .str a,.str b=>a == b
 | .tup a,.tup b=>Ww a b
 | .lst a,.lst b=>Ww a b
 | _,_=>false
def Ww:List D->List D->Bool
 | [],[]=>true
 | a::r,b::s=>Y7 a b && Ww r s
 | _,_=>false
end
mutual
theorem Zk5:∀d:D,Y7 d d=true
 | .non=>rfl
 | .bl _=>by simp[Y7]
 | .int _=>by simp[Y7]
 | .str _=>by simp[Y7]
 | .tup ds=>by rw[Y7];exact Zfl ds
 | .lst ds=>by rw[Y7];exact Zfl ds
theorem Zfl:∀ds:List D,Ww ds ds=true
 | []=>rfl
 | d::ds=>by rw[Ww,Zk5 d,Zfl ds];rfl
end
mutual
def D.deep:D->Nat
 | .tup ds=>Zar ds+1
 | .lst ds=>Zar ds+1
 | _=>0
def Zar:List D->Nat
 | []=>0
 | d::ds=>max d.deep (Zar ds)
end
theorem Zfx:∀{ds:List D}{i:Nat}{d:D},ds[i]? = some d->d.deep<=Zar ds
 | [],i,d,h=>by simp at h
 | e::ds,0,d,h=>by simp at h;subst h;rw[Zar];lia
 | e::ds,i+1,d,h=>by
  simp at h
  have:=Zfx h
  rw[Zar];lia
def isI:D->String->Bool
 | .non,_=>false
 | .bl _,c=>c == "bool" || c == "int"
 | .int _,c=>c == "int"
 | .str _,c=>c == "str"
 | .tup _,c=>c == "tuple"
 | .lst _,c=>c == "list"
def Zpg:List String:=["bool", "int", "str", "list", "tuple"]
theorem isi{K:uFg}{H:Hp}{d:D}{v:V}(r:Rep H d v)(c:String)(hc:c∈Zpg):∃t,TyOf K H v t/\PySem.W.kitOne K t (.type c)=some (isI d c):=by
 unfold Zpg at hc
 simp only[xD,xR,or_false] at hc
 cases d with
 | non=>cases r;refine⟨_,.non,?_⟩;rcases hc with rfl | rfl | rfl | rfl | rfl<;>rfl
 | bl b=>cases r;refine⟨_,.bl b,?_⟩;rcases hc with rfl | rfl | rfl | rfl | rfl<;>rfl
 | int i=>cases r;refine⟨_,.int i,?_⟩;rcases hc with rfl | rfl | rfl | rfl | rfl<;>rfl
 | str x=>cases r;refine⟨_,.str x,?_⟩;rcases hc with rfl | rfl | rfl | rfl | rfl<;>rfl
 | tup ds=>obtain⟨a,vs,rfl,h1,h2⟩:=r;refine⟨_,.tup h1,?_⟩;rcases hc with rfl | rfl | rfl | rfl | rfl<;>rfl
 | lst ds=>obtain⟨a,vs,rfl,h1,h2⟩:=r;refine⟨_,.lst h1,?_⟩;rcases hc with rfl | rfl | rfl | rfl | rfl<;>rfl
theorem Rep.none_iff{H:Hp}{d:D}{v:V}(r:Rep H d v):decide (v = .non)=(match d with | .non=>true | _=>false):=by
 cases d with
 | non=>cases r;rfl
 | bl b=>cases r;rfl
 | int i=>cases r;rfl
 | str x=>cases r;rfl
 | tup ds=>obtain⟨a,vs,rfl,h1,h2⟩:=r;rfl
 | lst ds=>obtain⟨a,vs,rfl,h1,h2⟩:=r;rfl
theorem Zk6{as bs:List D}:∀{i:Nat}{a b:D},as[i]? = some a->bs[i]? = some b->Ww (as.take (i+1)) (bs.take (i+1))=(Ww (as.take i) (bs.take i) && Y7 a b):=by
 induction as generalizing bs with
 | nil=>intro i a b h;simp at h
 | cons x as ih =>
  intro i a b h1 h2
  cases bs with
  | nil=>simp at h2
  | cons y bs =>
   cases i with
   | zero=>simp at h1 h2;subst h1;subst h2;simp[Ww]
   | succ i =>
    simp at h1 h2
    have:=ih h1 h2
    rw[zR,zR,Ww,this,zR,zR,Ww,Bool.and_assoc]
theorem Zkn{as bs:List D}(h:as.length≠bs.length):Ww as bs=false:=by
 induction as generalizing bs with
 | nil=>cases bs with
  | nil=>exact absurd rfl h
  | cons y bs=>rfl
 | cons x as ih=>cases bs with
  | nil=>rfl
  | cons y bs=>rw[Ww,ih (fun e=>h (by rw[xU,xU,e])),Bool.and_false]
theorem Zkp{as bs:List D}{i:Nat}{a b:D}(h1:as[i]? = some a)(h2:bs[i]? = some b)(h:Y7 a b=false):Ww as bs=false:=by
 induction as generalizing bs i with
 | nil=>simp at h1
 | cons x as ih =>
  cases bs with
  | nil=>simp at h2
  | cons y bs =>
   cases i with
   | zero=>simp at h1 h2;subst h1;subst h2;rw[Ww,h,zI]
   | succ i=>simp at h1 h2;rw[Ww,ih h1 h2,Bool.and_false]
end L2
namespace L2
theorem Rep.mono'{H H':Hp}{d:D}{v:V}(h:Rep H d v)(k:Same H H'):Rep H' d v:=Rep.mono k d v h
theorem RepL.mono'{H H':Hp}{ds:List D}{vs:List V}(h:RepL H ds vs)(k:Same H H'):RepL H' ds vs:=RepL.mono k ds vs h
end L2
end
section
namespace L2
open PySem PySem.Spec PyProof.Rows
section
def Itd(lo:Int)(n:Nat):It:=⟨fun i _=>i < n,fun i H x H'=>H'=H/\x = .int (lo - i),fun i _=>n<=i⟩
theorem Ztj{P:Program}{w:World}{K:uFg}{tg:Expr}(it:Addr)(lo:Int)(n:Nat):Turn P w K tg (Itd lo n) [it] it (fun i h=>IsRangeIter h it (lo+(i:Nat) * (-1)) ((n:Int) - (i:Nat)) (-1)) where
 mem:=by simp
 obj:=fun i h st b hb=>by
  have e:b=it:=by simpa using hb
  subst e
  exact⟨_,st,fun v z=>by
   have z':Data.fields _=Data.cell v:=z
   cases z'⟩
 keep:=fun i h h' st k=>k it (by simp) _ st
 item:=by
  intro X hP hw hK hc i pins s σ H E I hf st hg
  subst hP hw hK
  obtain⟨f0,f1,f2,f3,f4,f5⟩:=hf it (by simp)
  have W:=Walks.range (prog:=X.prog) (w:=X.w) (I.ok.hd hc) it lo (-1) n
  refine W.item i s _ _ hg st fun v h' tk hv st' kk=>?_
  obtain⟨t,rfl⟩:=hv
  have I1:Inv X pins σ H {s with heap:=h',toks:=tk }:=I.turned (fun b o hb e=>kk b o (by simpa using hb) e) f0 f1 f3 f4 f5
  refine⟨_,rfl,Zcb (s:={s with heap:=h',toks:=tk }) (n:="range_iterator") st' rfl rfl (by decide) ⟨.int (lo - i),H,I1,⟨t,?_⟩,⟨rfl,rfl⟩,st',fun b hb=>(hf b hb).1⟩⟩
  have e:lo+(i:Int) * (-1)=lo - i:=by lia
  rw[e]
 done:=by
  intro X hP hw hK hc i pins s σ H E I hf st hg
  subst hP hw hK
  obtain⟨f0,f1,f2,f3,f4,f5⟩:=hf it (by simp)
  exact wpAny_pyNext_range_end (I.ok.hd hc) st (by have:n<=i:=hg;lia) fun h' eb=>⟨rfl,I.turned (t':=s.toks) (fun b o hb e=>eb b o hb e) f0 f1 f3 f4 f5⟩
 self:=fun _ _ _ _ _ st h=>wpAny_pyIter_rangeiter st h
section
variable{X:Cx}{tg:Expr}
theorem Ztk{pins:List (Addr×Obj)}{σ:St}{H:Hp}{s:Shared}{R:It->Hp->Prop}{E:Value->Shared->Prop}{lo hi:Int}{t u v:Tok}{tk:Nat}(I:Inv X pins σ H s)(h1 : -(2 ^ 62)<=lo)(h2:lo < 2 ^ 62)(h3 : -(2 ^ 62)<=hi)(h4:hi < 2 ^ 62)(q:R (Itd lo (lo - hi).toNat) H):wpAny (model X.prog X.w) X.A (pyIter (.ref s.heap.objs.size)) (PIE X pins σ tg R) E {s with heap:=s.heap.push {cls:=.type "range", data:=.fields #[.int lo t,.int hi u,.int (-1) v] },toks:=tk }:=by
 refine wpAny_pyIter_range (IsRange.new ..) (PySem.W.small_down h1 h2 h3 h4) ?_
 have I1:Inv X pins σ H {s with heap:=s.heap.push {cls:=.type "range", data:=.fields #[.int lo t,.int hi u,.int (-1) v] },toks:=tk }:=I.kept fun b o e=>xA _ e
 refine⟨(s.heap.push {cls:=.type "range", data:=.fields #[.int lo t,.int hi u,.int (-1) v] }).objs.size,[(s.heap.push {cls:=.type "range", data:=.fields #[.int lo t,.int hi u,.int (-1) v] }).objs.size],_,_,H,rfl,
  I1.kept (t':=tk) fun b o e=>xA _ e,Ztj _ lo (lo - hi).toNat,?_,fun b hb=>?_,q⟩
 ·have e1:lo+((0:Nat):Int) * (-1)=lo:=by simp
  have e2:(((lo - hi).toNat:Nat):Int) - ((0:Nat):Int)=Builtin.Range.rangeSize lo hi (-1):=by rw[PySem.W.rangeSize_downNat];lia
  show IsRangeIter _ _ (lo+((0:Nat):Int) * (-1)) ((((lo - hi).toNat:Nat):Int) - ((0:Nat):Int)) (-1)
  rw[e1,e2]
  exact xP _ rfl
 ·have e:b=(s.heap.push {cls:=.type "range", data:=.fields #[.int lo t,.int hi u,.int (-1) v] }).objs.size:=by simpa using hb
  subst e
  exact I1.fpOk (xE _) (I1.hok.fresh (xE _))
def Zph(ta:TA):TI:=fun σ H R=>ta σ H fun vs H1=>∃i j:Int,vs = [.int i,.int j,.int (-1)]/\(-(2 ^ 62)<=i/\i < 2 ^ 62 /\ -(2 ^ 62)<=j/\j < 2 ^ 62)/\R (Itd i (i - j).toNat) H1
theorem Zru{a b c:Expr}{ta:TA}{p pos:Pos}(hg:Gl X "range")(hm:X.mg "range" = none)(ha:PA X [a,b,c] ta)(hs:starEach [a,b,c] X.env=(false,eval a X.env)::starEach [b,c] X.env:=by rfl)(hs2:(backTo pos (starEach [b,c] X.env)).any (·.1)=false:=by rfl) :
  PI X tg (.Call (.Name "range" p) [a,b,c] [] pos) (Zph ta):=by
 intro pins s σ H R I h
 refine Call_ (U2 I hg hm boot_range (PyProof.Rows.callWith_type1 (thn (ha pos pins s σ H _ I h) fun us s1 ⟨vs,H1,I1,r1,q1⟩=>?_) hs hs2))
 obtain⟨i,j,e,⟨q1,q2,q3,q4⟩,q⟩:=q1
 subst e
 cases r1 with
 | cons r rr =>
  cases rr with
  | cons r' rr =>
   cases rr with
   | cons r'' rr =>
    cases rr
    obtain⟨t,rfl⟩:=r
    obtain⟨t',rfl⟩:=r'
    obtain⟨t'',rfl⟩:=r''
    exact call_range_3 (by decide) (Ztk I1 q1 q2 q3 q4 q) (.inl (PyProof.noPylong_small (by decide)))
theorem Zrv{a b c:Expr}{ta:TA}{p pos:Pos}(hm:X.mg "range" = none)(ha:QA X [a,b,c] ta)(hg:nB X "range" .globalImplicit:=by kernel_rfl)(hs:starEach [a,b,c] X.env=(false,eval a X.env)::starEach [b,c] X.env:=by rfl)(hs2:(backTo pos (starEach [b,c] X.env)).any (·.1)=false:=by rfl) :
  QI X tg (.Call (.Name "range" p) [a,b,c] [] pos) (Zph ta):=⟨Zru (od hg).1 hm ha.h hs hs2⟩
end
section
variable{g:TG}{tb:TS}{D:Ends}{σ:St}{H:Hp}
theorem Ztl{lo:Int}{n:Nat}(m:Nat)(hm:n=m)(Pv:Nat->St->Hp->Prop)(h0:Pv 0 σ H)(hs:∀i σ H,i < m->Pv i σ H->g (.int (lo - i)) σ H fun σ2 H2=>tb {D with nx:=Pv (i+1),ct:=Pv (i+1),bk:=D.nx } σ2 H2)(hd:∀ σ H,Pv m σ H->D.nx σ H):Za9 (Itd lo n) g tb D σ H:=by
 subst hm
 refine⟨fun i k σ H=>k=n - i/\i<=n/\Pv i σ H,⟨n,rfl,yJ _,h0⟩,?_⟩
 rintro i k σ H ⟨rfl,hi,p⟩
 by_cases e:i < n
 ·refine .inr ⟨e,Pv (i+1),fun σ' H' p'=>⟨n - (i+1),by lia,rfl,by lia,p'⟩,?_⟩
  rintro x H' ⟨rfl,rfl⟩
  exact hs i σ H' e p
 ·have:i=n:=by lia
  subst this
  exact .inl ⟨xE _,hd σ H p⟩
end
section
variable{X:Cx}{o i value:Expr}{pos pos':Pos}{td ty tv:TE}
def Zmz:R2:=fun y x H Q=>∃a o,x = .ref a/\DGet H a y o/\Q (.bl (!o.isSome)) H
def Zqq:R2:=fun y x H Q=>∃a o,x = .ref a/\DGet H a y o/\Q (.bl o.isSome) H
theorem Ztm(hu:X.A.units+1 < cLine):OpR X (compareOp .NotIn) Zmz:=by
 intro pins s σ H y x iv u Q I ry rx ⟨a,ov,ex,g,q⟩
 subst ex
 obtain rfl:u=Value.ref a:=rx
 exact Zwz hu I g ry fun s3 I3=>⟨.bl (!ov.isSome),H,I3,rfl,q⟩
theorem Zzf(hu:X.A.units+1 < cLine):OpR X (compareOp .In) Zqq:=by
 intro pins s σ H y x iv u Q I ry rx ⟨a,ov,ex,g,q⟩
 subst ex
 obtain rfl:u=Value.ref a:=rx
 exact Z4h hu I g ry fun s3 I3=>⟨.bl ov.isSome,H,I3,rfl,q⟩
theorem Zfm{k:Nat}(hr:Room k X.A):QOp X (compareOp .NotIn) Zmz:=⟨Ztm (by have:=hr.units;lia)⟩
theorem Zas{k:Nat}(hr:Room k X.A):QOp X (compareOp .In) Zqq:=⟨Zzf (by have:=hr.units;lia)⟩
theorem Zl8:QE X (.Dict [] [] pos) Zny:=⟨Zuw⟩
theorem Zac{k:Nat}(hr:Room k X.A)(ho:QE X o td)(hi:QE X i ty)(hv:QE X value tv)(hs:swapsWith value (some (.Subscript o i pos')) pos.line X.env=pure false:=by rfl) :
  QS X (.Assign [.Subscript o i pos'] value pos) (Zo8 td ty tv):=⟨Zw2 (by have:=hr.units;lia) ho.h hi.h hv.h hs⟩
end
end
section
section
variable{X:Cx}
end
end
section
section
variable{X:Cx}
end
end
section
section
variable{prog:Program}{w:World}{K:Type} [DecidableEq K] {knd:HeapKind prog w K}{A:Around}{E:Value->Shared->Prop}{s:Shared}
theorem Zrg{d a:Addr}{xs:List (K×Addr×Value)}{k:K}{v:Value}{Q:Value->Shared->Prop}(hu:knd.room A)(hkey:knd.is s.heap k a)(hm:s.heap.DictOfH knd d xs)(h1:∀p,atKey xs k=some p->Q p.2 {s with toks:=s.toks+knd.draws k })(h2:atKey xs k=none->∀h',h'.DictOfH knd d (storedH xs k a v)->Heap.SameBut d s.heap h'->Q v {s with heap:=h',toks:=s.toks+knd.draws k })(hsz:xs.length<=sizeLine):wpAny (model prog w) A (dictSetDefault d (.ref a) v) Q E s:=by
 obtain⟨o,es,ep,ho,hc,hd,he,his,hn⟩:=hm
 unfold dictSetDefault
 try with_reducible refine wpAny_holding ?_
 refine wpAny_bind (knd.pyHash hu hkey ?_)
 refine wpAny_bind (wpAny_dictFind_heap (s:={s with toks:=s.toks+knd.draws k }) hu hkey ho hd he his hn ?_ ?_)
 ·intro hno
  have hnot:k∉xs.map (·.1):=not_mem_keys_of_get hno
  refine wpAny_bind (wpAny_rule (wpAny_bind (wpAny_updateDictKeys (hz:=by have e:=size_of_entries he;lia) (s:={s with toks:=s.toks+knd.draws k }) ho hd (wpAny_pure (h2 (atKey_none_of_get hno) _ ⟨_,_,ep+1,zV _ ho (Obj.isFreed_of_dict (Obj.data_mapDictKeys hd _)),
   hc.mapDictKeys _,Obj.data_mapDictKeys hd _,?_,?_,?_⟩ (Heap.SameBut.update ..))))))
  ·rw[storedH_new (atKey_none_of_get hno)]
   simp[he,entryOfKey]
  ·rw[storedH_new (atKey_none_of_get hno)]
   intro x hx
   rcases xJ.mp hx with hx | hx
   ·exact knd.keeps (his x hx) ho hd (Heap.SameBut.update ..)
   ·simp only[xK] at hx
    subst hx
    exact knd.keeps hkey ho hd (Heap.SameBut.update ..)
  ·rw[storedH_new (atKey_none_of_get hno)]
   rw[xV,List.nodup_append]
   refine⟨hn,by simp,?_⟩
   intro x hx y hy
   simp only[yE,List.map_nil,xK] at hy
   subst hy
   exact fun e=>hnot (e▸hx)
 ·intro j p hj
  refine wpAny_bind (wpAny_dictEntries (s:={s with toks:=s.toks+knd.draws k }) ho hd ?_)
  rw[entry_at he j,hj]
  exact wpAny_bind (wpAny_rule (wpAny_pure (h1 _ (atKey_of_get hn hj))))
theorem Zrb(knd:HeapKind prog w K)(d a:Addr)(hd:(d == sysModules)=false)(dflt:Value) :
  MeetsIn prog w (Builtin.«dict.setdefault» ⟨[.ref d,.ref a,dflt],[]⟩) (fun A R s=>knd.room A.in1/\∃k xs,knd.is s.heap k a/\s.heap.DictOfH knd d xs/\xs.length<=sizeLine /\
   (∀p,atKey xs k=some p->R (.ok (.ret p.2)) {s with toks:=s.toks+knd.draws k })/\
   (atKey xs k=none->∀h',h'.DictOfH knd d (storedH xs k a dflt)->Heap.SameBut d s.heap h'->R (.ok (.ret dflt)) {s with heap:=h',toks:=s.toks+knd.draws k })) :=
 .of_wp fun A R s ⟨hu,k,xs,hkey,hm,hz,h1,h2⟩=>by
  unfold Builtin.«dict.setdefault»
  refine wpAny_bind ?_
  unfold Builtin.Dict.keyAndDefault
  refine wpAny_bind (wpAny_notOrdered_dict hm.typeIs ?_)
  show wpAny _ _ (pure (d,Value.ref a,some dflt)) _ _ s
  refine wpAny_pure ?_
  show wpAny _ _ (if (d == sysModules)=true then _ else (dictSetDefault d (.ref a) dflt >>= _)) _ _ s
  rw[if_neg (by rw[hd];exact xH)]
  exact wpAny_bind (Zrg hu hkey hm (fun p hp=>wpAny_pure ⟨p.2,rfl,h1 p hp⟩) (fun hn h' hm' hs'=>wpAny_pure ⟨dflt,rfl,h2 hn h' hm' hs'⟩) hz)
end
section
variable{X:Cx}{pins:List (Addr×Obj)}{σ:St}{H:Hp}{s:Shared}{a b:Addr}{z:V}{r:Value}{kvs:List (List Key×V)}{k:List Key}{A:Around}{E:Value->Shared->Prop}
theorem Zvh{Q:Value->Shared->Prop}(hu:A.units+1 < cLine)(I:Inv X pins σ H s)(e:H a=some (.dT kvs))(eb:H b=some (.tup (k.map kV)))(hl:kvs.length < sizeLine)(rz:RelV z r)(h1:∀v,Zx kvs k=some v->∀w' s',Inv X pins σ H s'->RelV v w'->Q w' s')(h2:Zx kvs k=none->∀s',Inv X pins σ (upd H a (.dT (Z0 kvs k z))) s'->Q r s'):wpAny (model X.prog X.w) A (call (.builtin "dict.setdefault") [.ref a,.ref b,r]) Q E s:=by
 obtain⟨zl,hd,xs,rel,dd⟩:=Zo6 I.hok e
 have hz:xs.length<=sizeLine:=by rw[← Paired.length rel];exact zl
 have hl':(Z0 kvs k z).length<=sizeLine:=by have:=Vv kvs k z;lia
 refine call_meetsIn PySem.F.slot_dict_setdefault dd.typeIs PySem.F.entry_dict_setdefault (PySem.F.args_dict_setdefault_3 _ _ _) (Zrb (tupleKind (Y8 X.prog X.w)) a b hd r) ⟨tupleKind_room_in1 hu,k,xs,Za7 I.hok eb,dd,hz,fun p hp=>?_,fun hn h' dd' hs=>?_⟩
 ·have q:=rel.val k
  rw[hp,zS] at q
  cases hv:Zx kvs k with
  | none=>rw[hv] at q;cases q
  | some v=>rw[hv] at q;exact h1 v hv _ _ (I.tok _) q
 ·have q:=rel.val k
  rw[hn,Option.map_none] at q
  have hv:Zx kvs k=none:=by
   cases hv:Zx kvs k with
   | none=>rfl
   | some v=>rw[hv] at q;exact(show False from q).elim
  refine h2 hv _ ?_
  obtain⟨q,es,ep,hq,e2,e3,e4,_,e5⟩:=dd'
  refine Zd2 I (by rw[e];exact True.intro) hs ⟨q,hq⟩ ⟨hl',hd,_,(rel.put k eb rz).keeps fun c ys ec=>?_,q,es,ep,hq,e2,e3,e4,e5⟩
  rw[Zc (Zov ec e (fun z=>nomatch z))]
  exact ec
end
def Zm0(td ty tx:TE):TE:=fun σ H Q=>td σ H fun x H1=>∃a,x = .ref a/\IsD H1 a/\ty σ H1 fun y H2=>tx σ H2 fun z H3=>∃kvs k b,H3 a=some (.dT kvs)/\y = .ref b/\H3 b=some (.tup (k.map kV))/\kvs.length < sizeLine /\
 (∀v,Zx kvs k=some v->Q v H3)/\(Zx kvs k=none->Q z (upd H3 a (.dT (Z0 kvs k z))))
section
variable{X:Cx}{o e f:Expr}{apos cpos:Pos}{td ty tx:TE}{n:Nat}
theorem Ztn(hu:X.A.units+1 < cLine)(ho:PE X o td)(he:PE X e ty)(hf:PE X f tx)(m:M2 X o "setdefault" apos e f cpos):PE X (.Call (.Attribute o "setdefault" apos) [e,f] [] cpos) (Zm0 td ty tx):=by
 intro pins s σ H Q I h
 refine wpAny_Call_method m.base m.few m.line PySem.F.plainAttrs_dict PySem.F.slot_dict_setdefault PySem.F.type_dict_setdefault (thn (ho pins s σ H _ I h) fun u s1 ⟨x,H1,I1,rx,a,ex,d,q1⟩=>?_)
 subst ex
 obtain rfl:u=Value.ref a:=rx
 obtain⟨t1,t2,_⟩:=Znz I1 d
 refine⟨t1,t2,?_⟩
 rw[m.trees]
 refine Calls.callWith_builtin rfl (Calls.evalArgs_plain (Calls.spliced_cons (thn (he pins s1 σ H1 _ I1 q1) fun iv s2 ⟨y,H2,I2,ry,q2⟩=>
  Calls.spliced_cons (thn (hf pins s2 σ H2 _ I2 q2) fun fv s3 ⟨z,H3,I3,rz,kvs,k,b,ea,ey,eb,hl,q3,q4⟩=>Calls.spliced_nil ?_))))
 subst ey
 obtain rfl:iv=Value.ref b:=ry
 exact Zvh hu I3 ea eb hl rz (fun v hv w' s4 I4 rw'=>⟨_,_,I4,rw',q3 v hv⟩) fun hn s4 I4=>⟨_,_,I4,rz,q4 hn⟩
theorem Zto(hr:Room n X.A)(ho:QE X o td)(he:QE X e ty)(hf:QE X f tx)(m:M2 X o "setdefault" apos e f cpos:=by exact⟨rfl,rfl,rfl,rfl⟩):QE X (.Call (.Attribute o "setdefault" apos) [e,f] [] cpos) (Zm0 td ty tx):=⟨Ztn (by have:=hr.units;lia) ho.h he.h hf.h m⟩
theorem Zl9(hr:Room n X.A)(ho:QE X o td)(he:QE X e ty)(hf:QE X f tx)(m:M2 X o "get" apos e f cpos:=by exact⟨rfl,rfl,rfl,rfl⟩):QE X (.Call (.Attribute o "get" apos) [e,f] [] cpos) (Zn0 td ty tx):=⟨Zuy (by have:=hr.units;lia) ho.h he.h hf.h m⟩
end
end
section
theorem Uh{X:Cx}{st:Stmt}:QS X st (fun _ _ _=>False):=⟨fun _ _ _ _ _ _ h=>h.elim⟩
end
section
def Ite(K:uFg)(l:Addr):It :=
 ⟨fun i H=>∃xs,SqL K H l xs/\i < xs.length,fun i H v H'=>∃p a,v = .ref p/\H p=none/\H'=upd H p (.tup [.int i,a])/\∀xs,SqL K H l xs->xs[i]? = some a,
  fun i H=>∃xs,SqL K H l xs/\xs.length<=i⟩
theorem Ztp{P:Program}{w:World}{K:uFg}{elts:List Expr}{ek:Nat}{epos:Pos}{e it l:Addr}(hei:e≠it)(hle:l≠e)(hli:l≠it) :
  Turn P w K (.Tuple elts ek epos) (Ite K l) [e,it] e (fun i h=>(∃old,IsEnum h e it i old)/\h.IsListIter it l i) where
 mem:=by simp
 obj:=fun i h st b hb=>by
  obtain⟨⟨old,he⟩,⟨o,ho,hc,hd⟩⟩:=st
  simp only[xD,xR,or_false] at hb
  rcases hb with rfl | rfl
  ·exact⟨_,he,fun v q=>by cases q⟩
  ·exact⟨o,ho,fun v q=>by rw[hd] at q;cases q⟩
 keep:=fun i h h' st k=>by
  obtain⟨⟨old,he⟩,hit⟩:=st
  exact⟨⟨old,k e (by simp) _ he⟩,hit.at fun o x=>k it (by simp) o x⟩
 item:=by
  intro X hP hw hK hc i pins s σ H E I hf st hg
  subst hP hw hK
  obtain⟨⟨old,he⟩,hit⟩:=st
  obtain⟨xs,q1,hx⟩:=hg
  obtain⟨its,r1,w1,_⟩:=I.list q1
  have gx:xs[i]? = some xs[i]:=xC hx
  obtain⟨u1,hu1,ru1⟩:=r1.get gx
  refine wpAny_pyNext_enum_item he hit w1.isList (by simpa using hu1) hei fun h' ho hit' hT hsz kp=>?_
  refine⟨_,rfl,?_⟩
  have hp:H s.heap.objs.size=none:=I.hok.fresh (xE _)
  have ltp:∀c o,s.heap.get? c=some o->c≠s.heap.objs.size:=fun c o e=>yD (xM e)
  have kp':∀c o,c ∉ [e,it]->s.heap.get? c=some o->h'.get? c=some o:=fun c o hc e=>kp c o (fun q=>hc (by simp[q])) (fun q=>hc (by simp[q])) e
  have ntr:∀c u,H c=some u->c ∉ [e,it]:=fun c u e hc=>by
   have:=(hf c hc).1
   rw[this] at e;cases e
  have I1:Inv X pins σ (upd H s.heap.objs.size (.tup [.int i,xs[i]])) {s with heap:=h',toks:=s.toks+1 }:=by
   refine I.step (g':=s.gens) (d':=s.drawn) (t':=s.toks+1) (ch:=[e,it]) (fun c hc=>?_) (fun c o _ _ hc e _=>kp' c o hc e) (fun c o _ _ hc e _=>⟨o.slots,kp' c o hc e⟩) (fun c o hc e n=>by rw[Zc (ltp c o e)];exact n)
    (fun c o hc e=>⟨o,kp' c o hc e⟩) (fun c us e=>by rw[Zc (Zj e hp)];exact e) (fun c o u e=>by rw[Zc (Zj e hp)];exact e) (fun c ps e=>⟨#[],by rw[Zc (Zj e hp),e];simp⟩) (fun m hm=>?_) ?_ I.bare
   ·obtain⟨f0,f1,f2,f3,f4,f5⟩:=hf c hc
    exact⟨f3,f1,f4,f5⟩
   ·refine hm.at fun o e=>kp' _ o (fun hc=>?_) e
    exact(hf _ hc).2.1 rfl
   ·intro c u e
    by_cases hcp:c=s.heap.objs.size
    ·subst hcp
     rw[Zg] at e
     cases e
     exact⟨by show 2<=sizeLine;decide,[.int i s.toks,u1],.cons ⟨s.toks,rfl⟩ (.cons ru1 .nil),⟨_,hT,rfl,_,rfl⟩⟩
    ·rw[Zc hcp] at e
     refine(I.hok c u e).stay (fun d v hd q=>kp' d v ?_ q) (fun d q=>by rw[Zc (Zj q hp)];exact q) fun d us q=>by rw[Zc (Zj q hp)];exact q
     rcases hd with rfl | hd
     ·exact ntr _ u e
     ·exact ntr _ _ hd
  refine wpAny_letOwnedTupleGo_enum (s:={s with heap:=h',toks:=s.toks+1 }) ho fun h2 z2 e2=>?_
  obtain⟨f0,f1,f2,f3,f4,f5⟩:=hf e (by simp)
  have nz:e≠s.heap.objs.size:=ltp e _ he
  have I2:Inv X pins σ (upd H s.heap.objs.size (.tup [.int i,xs[i]])) {s with heap:=h2,toks:=s.toks+1 }:=I1.turned (s:={s with heap:=h',toks:=s.toks+1 }) (it:=e) (t':=s.toks+1) (fun c o hc e=>(e2.2 c hc).trans e) (by rw[Zc nz];exact f0) f1 f3 f4 f5
  have z2':IsEnum h2 e it ((i+1:Nat):Int) u1:=by
   have e0:((i+1:Nat):Int)=(i:Int)+1:=by push_cast;rfl
   rw[e0];exact z2
  refine⟨.ref s.heap.objs.size,_,I2,rfl,⟨s.heap.objs.size,xs[i],rfl,hp,rfl,fun xs' q1'=>?_⟩,⟨⟨_,z2'⟩,hit'.at fun o x=>(e2.2 it hei.symm).trans x⟩,fun c hc=>?_⟩
  ·rw[I.list_inj q1' q1]
   exact gx
  ·obtain⟨o,ho⟩:∃o,s.heap.get? c=some o:=by
    simp only[xD,xR,or_false] at hc
    rcases hc with rfl | rfl
    ·exact⟨_,he⟩
    ·obtain⟨o,x,_⟩:=hit;exact⟨o,x⟩
   rw[Zc (ltp c o ho)]
   exact(hf c hc).1
 done:=by
  intro X hP hw hK hc i pins s σ H E I hf st hg
  subst hP hw hK
  obtain⟨⟨old,he⟩,hit⟩:=st
  obtain⟨xs,q1,hend⟩:=hg
  obtain⟨its,r1,w1,_⟩:=I.list q1
  refine wpAny_pyNext_enum_end (I.ok.hd hc) he hit w1.isList (by have e1:=r1.length;simp;lia) fun h' kp=>⟨rfl,?_⟩
  obtain⟨f0,f1,f2,f3,f4,f5⟩:=hf it (by simp)
  exact I.turned (it:=it) (t':=s.toks) (fun c o hc e=>kp c o hc e) f0 f1 f3 f4 f5
 self:=fun A i s Q E st h=>by
  obtain⟨⟨old,he⟩,_⟩:=st
  exact wpAny_pyIter_enum he h
def Zpi(K:uFg)(ta:TA):TI:=fun σ H R=>ta σ H fun vs H1=>∃l xs,vs = [.ref l]/\SqL K H1 l xs/\R (Ite K l) H1
theorem Zrw:bootBuiltins "enumerate" = some (.type "enumerate"):=by decide +kernel
theorem Zxh{X:Cx}{a:Expr}{ta:TA}{p pos:Pos}{elts:List Expr}{ek:Nat}{epos:Pos}(hg:Gl X "enumerate")(hm:X.mg "enumerate" = none)(ha:PA X [a] ta)(hs:starEach [a] X.env = [(false,eval a X.env)]:=by rfl) :
  PI X (.Tuple elts ek epos) (.Call (.Name "enumerate" p) [a] [] pos) (Zpi X.K ta):=by
 intro pins s σ H R I h
 refine Call_ (U2 I hg hm Zrw (PyProof.Rows.callWith_type1 (thn (ha pos pins s σ H _ I h) fun us s1 ⟨vs,H1,I1,r1,q1⟩=>?_) hs rfl))
 obtain⟨l,xs,e,h1,q⟩:=q1
 subst e
 obtain⟨u1,rfl,ru1⟩:=Up r1
 cases ru1
 obtain⟨its,r1,p1,_⟩:=I1.list h1
 have b1:l < s1.heap.objs.size:=by obtain⟨o,n,e,_⟩:=p1;exact xM e
 refine call_enumerate_list p1.isList fun h' z0 st1 _ kp=>?_
 refine wpAny_pyIter_enum z0 ?_
 have b1' : @LT.lt Nat _ l s1.heap.objs.size:=b1
 have key:∀(a b:Nat),(a < b\/b < a)->¬(@Eq Nat a b):=fun a b h q=>by lia
 refine⟨s1.heap.objs.size+1,_,_,_,H1,rfl,I1.kept (h':=h') (t':=s1.toks) kp,Ztp (it:=s1.heap.objs.size) (l:=l) (key _ _ (by lia)) (key _ _ (by lia)) (key _ _ (by lia)),⟨⟨_,z0⟩,st1⟩,fun c hc=>?_,q⟩
 have hle:s1.heap.objs.size<=c:=by
  simp only[xD,xR,or_false] at hc
  have:(s1.heap.objs.size:Nat)<=(c:Nat):=by rcases hc with rfl | rfl<;>lia
  exact this
 exact I1.fpOk hle (I1.hok.fresh hle)
theorem Zm1{X:Cx}{a:Expr}{ta:TA}{p pos:Pos}{elts:List Expr}{ek:Nat}{epos:Pos}(hm:X.mg "enumerate" = none)(ha:QA X [a] ta)(hg:nB X "enumerate" .globalImplicit:=by kernel_rfl)(hs:starEach [a] X.env = [(false,eval a X.env)]:=by rfl) :
  QI X (.Tuple elts ek epos) (.Call (.Name "enumerate" p) [a] [] pos) (Zpi X.K ta):=⟨Zxh (od hg).1 hm ha.h hs⟩
theorem Ztq{K:uFg}{l:Addr}{g:TG}{tb:TS}{D:Ends}{σ:St}{H:Hp}(xs:List V)(Pv:Nat->St->Hp->Prop)(h0:Pv 0 σ H)(hl:∀i σ H,i<=xs.length->Pv i σ H->SqL K H l xs)(hs:∀i x p σ H,xs[i]? = some x->Pv i σ H->H p=none->g (.ref p) σ (upd H p (.tup [.int i,x])) fun σ2 H2=>tb {D with nx:=Pv (i+1),ct:=Pv (i+1),bk:=D.nx } σ2 H2)(hd:∀ σ H,Pv xs.length σ H->D.nx σ H):Za9 (Ite K l) g tb D σ H:=by
 refine⟨fun i m σ H=>m=xs.length - i/\i<=xs.length/\Pv i σ H,⟨xs.length,by simp,yJ _,h0⟩,?_⟩
 rintro i m σ H ⟨rfl,hi,p⟩
 have q1:=hl i σ H hi p
 by_cases hlt:i < xs.length
 ·refine .inr ⟨⟨xs,q1,hlt⟩,Pv (i+1),fun σ' H' p'=>⟨xs.length - (i+1),by lia,rfl,hlt,p'⟩,fun v H' y=>?_⟩
  obtain⟨pp,a,rfl,hp,rfl,hv⟩:=y
  exact hs i a pp σ H (hv xs q1) p hp
 ·have e:i=xs.length:=by lia
  subst e
  exact .inl ⟨⟨xs,q1,xE _⟩,hd σ H p⟩
end
section
structure HasM (K:uFg) (C:Addr) (m qual:Str) (st:Stmt):Prop where
 ex:∃(f:Addr)(fd:FuncData),Fun K m qual st f fd/\Meth K C m f
structure Mt (P:Program) (w:World) (K:uFg) (mg:Str->Option Value) (base:Heap) (C:Addr) (m:Str) (ps:List Str) (k:Nat) (sp:Sp):Prop where
 ex:∃(f:Addr)(fd:FuncData),Meth K C m f/\FnOk P w K mg base CX0 k f fd ps sp/\Binds K fd ps []
section
variable{P:Program}{w:World}{K:uFg}{mg:Str->Option Value}{base:Heap}{C:Addr}{m qual:Str}{st:Stmt}{N ps:List Str}{k:Nat}{sp:Sp}
theorem HasM.mtQ(h:HasM K C m qual st)(S:FnScope N ps (Zh st))(hb:∀ (kV doc pm:Value) (an:Option Addr) (cdv ct:Value) (us:List Value),us.length=ps.length->bindArgs (PySem.W.fnOf m qual (Vj st) (Y4 st) (Zh st) .none kV doc pm an cdv ct) ⟨us,[]⟩=pure (ps.zip us))(len:∀vs H Q E,sp vs H Q E->vs.length=ps.length)(hbody:∀ (f:Addr) (cdv:Value) (A:Around) (outer:List Env) (s:Shared) (H:Hp) (vs:List V) (Q:VK) (E:XK),Room k (A.deeper (envOfC qual (Zh st) s.heap.objs.size f cdv))->sp vs H Q E ->
   ∃t,QSs (Y6 CX0 P w K mg base N qual (Zh st) f cdv A outer s H E).nox (Y4 st) t/\t {nx:=fun _ H'=>Q .non H',rt:=Q } (start N vs) H):Mt P w K mg base C m ps (k+1) sp:=by
 obtain⟨f,fd,F,M⟩:=h.ex
 exact⟨f,fd,M,F.okQ S len (hbody f),F.binds hb⟩
theorem Zxi{f:Addr}{oc:Value}{od an:Option Addr}{osl:Array (Option Value)}{kV doc pm cdv ct:Value}(a:PySem.W.findIn K (.ref C) m=some (some (.ref f)))(i:PySem.W.isFn K (.ref f)=true)(l:K.lookup f=some ⟨oc,od,.func (PySem.W.fnOf m qual (Vj st) (Y4 st) (Zh st) .none kV doc pm an cdv ct),osl⟩)(c:PySem.W.codeIn K cdv qual=true)(kp:PySem.W.keepIn K (.ref f)=true):HasM K C m qual st:=⟨f,_,Zgk l c kp,⟨a,i,kp⟩⟩
theorem hMQ{K:uFg}(C:Addr)(m qual:Str)(st:Stmt)(f c:Addr)(pm:Value)(e:PySem.W.findIn K (.ref C) m=some (some (.ref f))/\PySem.W.isFn K (.ref f)=true/\K.lookup f=some ⟨.type "function", none,.func (PySem.W.fnOf m qual (Vj st) (Y4 st) (Zh st) .none .none .none pm none (.ref c) .none),#[]⟩/\PySem.W.codeIn K (.ref c) qual=true/\PySem.W.keepIn K (.ref f)=true):HasM K C m qual st:=Zxi e.1 e.2.1 e.2.2.1 e.2.2.2.1 e.2.2.2.2
structure Mks (P:Program) (w:World) (K:uFg) (mg:Str->Option Value) (base:Heap) (C:Addr) (x:Str) (k:Nat) (sp:Sp):Prop where
 ex:∃(f:Addr)(fd:FuncData),Mk K C f/\FnOk P w K mg base CX0 k f fd ["self"] sp/\Binds K fd ["self"] []/\mg x=some (.ref C)
theorem Mt.mks{x:Str}(h:Mt P w K mg base C "__init__" ["self"] k sp)(mk:PySem.W.makesIn K C=true)(kc:PySem.W.keepIn K (.ref C)=true)(g:mg x=some (.ref C)):Mks P w K mg base C x k sp:=by
 obtain⟨f,fd,M,F,B⟩:=h.ex
 exact⟨f,fd,⟨mk,M.at_,M.fn,kc⟩,F,B,g⟩
end
section
variable{X:Cx}{C:Addr}{m x f:Str}{ps:List Str}{k:Nat}{sp:Sp}{o e value i:Expr}{es:List Expr}{ta td ty tv:TE}{t:TA}{apos pos pos' p:Pos}
theorem Yw{pl:Sem Bool}(he:QE X o ta)(c:Cls X.K C)(M:Mt X.prog X.w X.K X.mg X.base C m ps k sp)(ha:QA X (e::es) t)(hr:Room k X.A:=by exact Room.mono (by assumption) (by first | decide | lia))(hst:starEach (e::es) X.env=(false,eval e X.env)::starEach es X.env:=by rfl)(hpl:(backTo pos (starEach es X.env)).any (·.1)=false:=by rfl)(ht:eval (.Call (.Attribute o m apos) (e::es) [] pos) X.env=(do
   let ov ← eval o X.env
   standAt apos.atName
   let (f,first) ← holding [ov] (getMethod ov m pl)
   callWith pos f first (backTo pos (starEach (e::es) X.env)) (backToKw pos (keywordEach [] X.env))):=by rfl) :
  QE X (.Call (.Attribute o m apos) (e::es) [] pos) (Zeq C m sp [] E0 ta t):=by
 obtain⟨f,fd,M,F,B⟩:=M.ex
 exact⟨Zwt he.h c M F hr B .nil Zer ha.h hst hpl ht⟩
theorem Zb7{pl:Sem Bool}(he:QE X o ta)(c:Cls X.K C)(M:Mt X.prog X.w X.K X.mg X.base C m ps k sp)(hr:Room k X.A:=by exact Room.mono (by assumption) (by first | decide | lia))(ht:eval (.Call (.Attribute o m apos) [] [] pos) X.env=(do
   let ov ← eval o X.env
   standAt apos.atName
   let (f,first) ← holding [ov] (getMethod ov m pl)
   callWith pos f first (backTo pos (starEach [] X.env)) (backToKw pos (keywordEach [] X.env))):=by rfl) :
  QE X (.Call (.Attribute o m apos) [] [] pos) (Zeq C m sp [] E0 ta Vu):=by
 obtain⟨f,fd,M,F,B⟩:=M.ex
 exact⟨Zul he.h c M F hr B .nil Zer ht⟩
theorem Zei(M:Mks X.prog X.w X.K X.mg X.base C x k sp)(hr:Room (k+1) X.A:=by exact Room.mono (by assumption) (by first | decide | lia))(n:nB X x .globalImplicit:=by kernel_rfl):QE X (.Call (.Name x p) [] [] pos) (Zo0 C sp [] E0 Vu):=by
 obtain⟨f,fd,M,F,B,g⟩:=M.ex
 exact⟨Zun M F hr (od n).1 g B .nil Zer (od n).2.1⟩
theorem Zq(he:QE X e ta)(hb:attributeBase e f X.env (eval e X.env)=eval e X.env:=by rfl):QE X (.Attribute e f pos) (Zj8 X.K ta f):=⟨Zns he.h hb⟩
theorem Vr(ha:QE X o ta)(hv:QE X value tv)(hs:swapsWith value (some (.Attribute o f pos')) pos.line X.env=pure false:=by rfl):QS X (.Assign [.Attribute o f pos'] value pos) (Zqh X.K ta tv f):=⟨Zyv ha.h hv.h hs⟩
theorem Zbz:QE X (.Dict [] [] pos) Znx:=⟨Zuv⟩
theorem Zb3(hr:Room k X.A)(ho:QE X o td)(hi:QE X i ty)(hs:Zkc i):QE X (.Subscript o i pos) (Zo7 td ty):=⟨Zw1 (by have:=hr.units;lia) ho.h hi.h hs⟩
theorem Zvi{ek ev:Expr}{tk tw:TE}(hk:QE X ek tk)(hv:QE X ev tw):QE X (.Dict [some ek] [ev] pos) (Zo9 [(tk,tw)]):=⟨Zw4 (Zux hk.h hv.h Zw3) rfl rfl (by simp) (by show 1<=15;decide)⟩
def Z0n:List V->Hp->VK->Prop:=fun xs H Q=>∃a kvs,xs = [V.ref a]/\H a=some (.dK kvs)/\Q (.int kvs.length) H
theorem Zk7:QC X (.builtin "len") Z0n:=⟨Ztb⟩
end
end
section
section
variable{X:Cx}{scope:Scope}{cl:List (Str×Addr)}{C:Addr}{N':List Str}{s0:Shared}{H0:Hp}{ex:List Addr}{pn:List (Addr×Obj)}{f:Str}{pos:Pos}{e:Expr}{ta:TE}
theorem Zxj(he:QE (ccx X scope cl C N' s0 H0 ex pn) e ta)(hb:attributeBase e f (ccx X scope cl C N' s0 H0 ex pn).env (eval e (ccx X scope cl C N' s0 H0 ex pn).env)=eval e (ccx X scope cl C N' s0 H0 ex pn).env:=by rfl):QE (ccx X scope cl C N' s0 H0 ex pn) (.Attribute e f pos) (Zj8 X.K ta f):=⟨Zns (X:=ccx X scope cl C N' s0 H0 ex pn) he.h hb⟩
end
end
section
section
variable{X:Cx}
end
section
variable{X:Cx}{scope:Scope}{cl:List (Str×Addr)}{C:Addr}{N':List Str}{s0:Shared}{H0:Hp}{ex:List Addr}{pn:List (Addr×Obj)}
end
end
section
def stS(r:List Str)(x:Str):List Str:=if r.any (· == x) then r else r ++ [x]
def fmS(val:Nat->Str):Nat->List Str
 | 0=>[]
 | i+1=>stS (fmS val i) (val i)
theorem Zgn(val:Nat->Str):∀i,(fmS val i).length<=i
 | 0=>xE _
 | i+1=>by
  have ih:=Zgn val i
  unfold fmS stS
  split
  ·lia
  ·rw[xN,zL];lia
theorem Zxk(r:List Str)(v k:Str):(stS r v).any (· == k)=(r.any (· == k) || decide (k=v)):=by
 unfold stS
 by_cases h:r.any (· == v)=true
 ·rw[if_pos h]
  by_cases e:k=v
  ·subst e;rw[h];simp
  ·simp[e]
 ·rw[if_neg h,List.any_append]
  by_cases e:k=v
  ·subst e;simp
  ·have hb:(v == k)=false:=by simpa [beq_iff_eq] using (fun h':v=k=>e h'.symm)
   simp[hb,e]
theorem Zsk(r:List Str)(v:Str):(stS r v).length=if r.any (· == v) then r.length else r.length+1:=by
 unfold stS;split<;>simp
section
variable{prog:Program}{w:World}{A:Around}{R:Result->Shared->Prop}{I:Addr}{fp wr:List Addr}{G:Array GenState->Array GenState->Prop}{n:Nat}{P:Nat->Value->Prop}{St:Nat->Shared->Prop}
theorem Ztr(W:WalksS prog w A.in1 I fp wr G n P St)(S:Addr)(hSf:S∉fp)(val:Nat->Str)(hval:∀i v,P i v->∃t,v = .str (val i) t)(hb:n+1 < scanBound) :
  ∀(k i:Nat)(s:Shared),n - i=k->i<=n->St i s->s.heap.SetOf (strKind prog w) S (fun k'=>(fmS val i).any (· == k')) (fmS val i).length ->
   (∀s',Moved (S::wr) G s s'->s'.heap.SetOf (strKind prog w) S (fun k'=>(fmS val n).any (· == k')) (fmS val n).length->R (.ok (.ret .none)) s')->
   codeAny (model prog w) A (.builtin "set.update.loop" ⟨[.ref S,.ref I],[]⟩) R s:=by
 have hSw:S∉wr:=fun h=>hSf (W.sub _ h)
 have hsub:∀b∈wr,b∈S::wr:=fun b hb=>xW _ hb
 intro k
 induction k with
 | zero =>
  intro i s hk hi hst hS hR
  have hin:i=n:=by lia
  subst hin
  refine codeAny_builtin F.entry_set_update_loop ?_
  rw[Around.under_plainId F.plain_set_update_loop _]
  show wpAny _ A.in1 (pyNext (.ref I) >>= _) _ _ s
  refine wpAny_bind (W.done s _ _ hst fun s' hm=>?_)
  show wpAny _ A.in1 (ret Value.none) _ _ s'
  exact wpAny_pure (hR s' (hm.mono hsub) (by
   obtain⟨o,es,ep,t,ho,rest⟩:=hS
   exact⟨o,es,ep,t,hm.heap S _ hSw ho,rest⟩))
 | succ k ih =>
  intro i s hk hi hst hS hR
  have hlt:i < n:=by lia
  refine codeAny_builtin F.entry_set_update_loop ?_
  rw[Around.under_plainId F.plain_set_update_loop _]
  show wpAny _ A.in1 (pyNext (.ref I) >>= _) _ _ s
  refine wpAny_bind (W.item i s _ _ hlt hst fun v s' hP hst' hm=>?_)
  obtain⟨t,rfl⟩:=hval i v hP
  have hS':s'.heap.SetOf (strKind prog w) S (fun k'=>(fmS val i).any (· == k')) (fmS val i).length:=by
   obtain⟨o,es,ep,tb,ho,rest⟩:=hS
   exact⟨o,es,ep,tb,hm.heap S _ hSw ho,rest⟩
  show wpAny _ A.in1 (holding [Value.str (val i) t] (setAdd S (.str (val i) t)) >>= _) _ _ s'
  refine wpAny_bind (wpAny_holding ?_)
  unfold setAdd
  refine wpAny_holding ?_
  refine wpAny_bind ((strKind prog w).pyHash (k:=val i) (strKind_is _ _ _ _) ?_)
  have hroom:(fmS val i).length+1 < scanBound:=by have:=Zgn val i;lia
  refine wpAny_setAddHashed_of (knd:=strKind prog w) (s:={s' with toks:=s'.toks+1 }) (strKind_is _ _ _ _) rfl hS' hroom fun h' hsb hS2=>?_
  have hSi:h'.SetOf (strKind prog w) S (fun k'=>(fmS val (i+1)).any (· == k')) (fmS val (i+1)).length:=SetOf_congr hS2 (fun k'=>(Zxk _ _ _).symm) (Zsk _ _).symm
  refine wpAny_pure ⟨plainId_quiet F.plain_set_update_loop _,ih (i+1) _ (by lia) hlt (W.frame _ s' _ _ hst' (Nat.le_succ _) fun b hb o e=>?_) hSi fun s'' hm'' hS''=>?_⟩
  ·rw[hsb.2 b (fun h:b=S=>hSf (by rw[← h];exact hb))];exact e
  ·refine hR s'' (Moved.trans W.gtrans ((hm.mono hsub).then_heap (Nat.le_succ _) fun b o hb e=>?_) hm'') hS''
   rw[hsb.2 b (fun h:b=S=>hb (by rw[h];exact yC))];exact e
end
section
variable{prog:Program}{w:World}{A:Around}{E:Value->Shared->Prop}{s:Shared}
theorem Zts{l:Addr}{items:Array Value}{val:Nat->Str}{Q:Value->Shared->Prop}(hh:A.handled=none)(hl:s.heap.IsList l items)(hval:∀ (i:Nat) (v:Value),items[i]? = some v->∃t,v = .str (val i) t)(hb:items.size+1 < scanBound)(h:∀ (h':Heap) (tk:Nat),h'.SetOf (strKind prog w) s.heap.objs.size (fun k'=>(fmS val items.size).any (· == k')) (fmS val items.size).length ->
   (∀b o,b < s.heap.objs.size->s.heap.get? b=some o->h'.get? b=some o)->Q (.ref s.heap.objs.size) {s with heap:=h',toks:=tk }) :
  wpAny (model prog w) A (call (.type "set") [.ref l]) Q E s:=by
 obtain⟨c,tl,hmro⟩:=F.called_set.mro
 have hmade:=F.called_set.made
 have hsub:=F.called_set.sub
 refine wpAny_call (codeAny_of_tree ?_)
 show wpAny _ _ (callAny (.type "set") _) _ _ _
 refine wpAny_pure ⟨Code.quiet_builtin _ (by decide +kernel),codeAny_builtin F.entry_type_call ?_⟩
 rw[Around.under_plain (weight_type_call_type "set" [.ref l] []) rfl]
 have h1:=F.called_set.notType
 have h2:=F.called_set.canCreate
 have hct:=F.typeCall_set_1 (.ref l)
 repeat (any_goals (first | assumption | wp_step))
 refine codeAny_mono (code_set_new_1 (.ref l) (E:=E) (Q₁:=fun obj s₁=>∃led:Bool,obj = .ref s.heap.objs.size/\s₁={s with heap:=s.heap.push {cls:=.type "set", dict:=none,data:=.set #[] 0 (.fresh 0 0 led) } }) fun led=>⟨led,rfl,rfl⟩) fun r s₁ hr=>?_
 cases r with
 | error e=>exact hr
 | ok fl =>
  cases fl with
  | ret obj =>
   obtain⟨led,rfl,rfl⟩:=hr
   have hS:(s.heap.push {cls:=.type "set", dict:=none,data:=.set #[] 0 (.fresh 0 0 led) }).get? s.heap.objs.size=some {cls:=.type "set", dict:=none,data:=.set #[] 0 (.fresh 0 0 led) }:=xP _ rfl
   have hT:Shared.TypeIs {s with heap:=s.heap.push {cls:=.type "set", dict:=none,data:=.set #[] 0 (.fresh 0 0 led) } } (.ref s.heap.objs.size) "set" := ⟨_,hS,rfl⟩
   have hli:=F.called_set.init.lookup
   have hbi:=F.called_set.init.bind (.ref s.heap.objs.size)
   repeat (any_goals (first | assumption | wp_step))
   refine codeAny_mono (codeAny_call_builtin (R:=wants (fun r s₂=>r = .none/\∃h' tk,s₂={s with heap:=h',toks:=tk }/\h'.SetOf (strKind prog w) s.heap.objs.size (fun k'=>(fmS val items.size).any (· == k')) (fmS val items.size).length /\
     (∀b o,b < s.heap.objs.size->s.heap.get? b=some o->h'.get? b=some o)) E) F.called_set.init.plain F.entry_set_init (check_set_init_1 hT ?_)) fun r₂ s₂ hr₂=>?_
   ·obtain⟨ol,hol,hcl,nl,hdl⟩:=hl
    obtain⟨ocls,odict,odata,oslots⟩:=ol
    simp only at hcl hdl
    subst hcl;subst hdl
    have hol':(s.heap.push {cls:=.type "set", dict:=none,data:=.set #[] 0 (.fresh 0 0 led) }).get? l=some {cls:=.type "list", dict:=odict,data:=.seq items nl,slots:=oslots }:=xA _ hol
    have hsls:=F.sub_list_set
    have hslf:=F.sub_list_frozenset
    have hne:(Value.type "list" == Value.type "dict")=false:=by decide
    have hl1:(s.heap.push {cls:=.type "set", dict:=none,data:=.set #[] 0 (.fresh 0 0 led) }).IsList l items:=⟨_,hol',rfl,nl,rfl⟩
    unfold Builtin.«set.__init__» noKeywords Builtin.Frozenset.updateFrom
    generalize hPI:pyIter=PI
    wp_walk
    subst hPI
    refine wpAny_pyIter_list hl1 ?_
    refine wpAny_bind (wpAny_runValue ?_)
    have hlS:l < s.heap.objs.size:=xM hol
    have hh3:A.in1.in1.in1.handled=none:=by simp[hh]
    have hneI:l≠(s.heap.push {cls:=.type "set", dict:=none,data:=.set #[] 0 (.fresh 0 0 led) }).objs.size:=by
     rw[yY];exact yD (Nat.lt_succ_of_lt hlS)
    have hSf:s.heap.objs.size ∉ [(s.heap.push {cls:=.type "set", dict:=none,data:=.set #[] 0 (.fresh 0 0 led) }).objs.size,l]:=by
     rw[yY];simp only[xD,xK,xR,or_false,not_or]
     exact⟨yD (Nat.lt_succ_self _),Nat.ne_of_gt hlS⟩
    refine Ztr ((Walks.list hh3 _ l hneI items).toS) s.heap.objs.size hSf val hval hb (items.size - 0) 0 _ (by lia) (yJ _) ⟨⟨_,xP _ rfl,rfl,rfl⟩,(hl1.push _)⟩ ?hS0 ?hR
    case hS0 =>
     have hget:((s.heap.push {cls:=.type "set", dict:=none,data:=.set #[] 0 (.fresh 0 0 led) }).push {cls:=.type "list_iterator", data:=.fields #[.ref l,.int 0 0] }).get? s.heap.objs.size
       = some {cls:=.type "set", dict:=none,data:=.set #[] 0 (.fresh 0 0 led) }:=xA _ hS
     exact SetOf_congr ((setObjOf_fresh (knd:=strKind prog w) led).setOf hget (by unfold scanBound;lia)) (fun _=>rfl) rfl
    case hR =>
     intro s' hm hS'
     obtain⟨h',g',d',tk',os'⟩:=s'
     have eg:g'=s.gens:=hm.gens
     have ed:d'=s.drawn:=hm.drawn
     have eo:os'=s.os:=hm.os
     subst eg;subst ed;subst eo
     show wpAny _ _ _ _ _ _
     refine wpAny_pure ?_
     show wpAny _ _ (ret Value.none) _ _ _
     refine wpAny_pure ⟨rfl,h',tk',rfl,hS',fun b o hb e=>?_⟩
     have hb1:b≠s.heap.objs.size:=yD hb
     have hb2:b≠(s.heap.push {cls:=.type "set", dict:=none,data:=.set #[] 0 (.fresh 0 0 led) }).objs.size:=by
      rw[yY];exact yD (Nat.lt_succ_of_lt hb)
     exact hm.heap b o (by simp only[xD,xK,xR,or_false,not_or];exact⟨hb1,hb2⟩) (xA _ (xA _ e))
   ·cases r₂ with
    | error e=>exact hr₂
    | ok fl₂ =>
     cases fl₂ with
     | ret r =>
      obtain⟨rfl,h',tk,rfl,hS',hk'⟩:=hr₂
      repeat (any_goals (first | assumption | wp_step))
      exact h _ _ hS' hk'
     | _=>exact hr₂.elim
  | _=>exact hr.elim
end
def Zdj(xs:List Str):Nat:=(xs.foldl stS []).length
theorem Zn4(xs:List Str):∀n,n<=xs.length->fmS (fun i=>xs.getD i "") n=(xs.take n).foldl stS []
 | 0,_=>rfl
 | n+1,h=>by
  show stS (fmS _ n) _=_
  rw[Zn4 xs n (by lia),List.take_succ_eq_append_getElem (by lia),List.foldl_append]
  show stS _ (xs.getD n "")=stS _ (xs[n])
  rw[xS,xC (by lia)]
  rfl
section
variable{X:Cx}
def Zm2(K:uFg)(ta:TA):TE:=fun σ H Q=>ta σ H fun vs H1=>∃(l:Addr)(xs:List Str),vs = [.ref l]/\SqL K H1 l (xs.map V.str)/\xs.length<=1000/\Q (.int (Zdj xs)) H1
theorem Ztt{a:Expr}{ta:TA}{p q pos pos':Pos}(hc:X.calm=true)(hgl:Nm X.env.scope "len" .globalImplicit)(hml:X.mg "len" = none)(hg:Nm X.env.scope "set" .globalImplicit)(hm:X.mg "set" = none)(ha:PA X [a] ta)(hs:starEach [a] X.env = [(false,eval a X.env)]:=by rfl)(hs2:starEach [.Call (.Name "set" p) [a] [] pos] X.env = [(false,eval (.Call (.Name "set" p) [a] [] pos) X.env)]:=by rfl) :
  PE X (.Call (.Name "len" q) [.Call (.Name "set" p) [a] [] pos] [] pos') (Zm2 X.K ta):=by
 intro pins s σ H Q I h
 refine wpAny_Call_Name_kw (U2 I hgl.1 hml (show bootBuiltins "len" = some (.builtin "len") by decide +kernel) ?_ hgl.2.2.2 hgl.2.1)
 refine PyProof.Rows.callWith_builtin1 ?_ hs2 rfl
 rw[hs2]
 refine Calls.spliced_cons ?_
 refine wpAny_Call_Name_kw (U2 I hg.1 hm (show bootBuiltins "set" = some (.type "set") by decide +kernel) (PyProof.Rows.callWith_type1 (thn (ha pos pins s σ H _ I h) fun us s1 ⟨vs,H1,I1,r1,l,xs,e,hL,hn,q1⟩=>?_) hs rfl) hg.2.2.2 hg.2.1)
 subst e
 cases r1 with
 | cons r rr =>
  cases rr
  obtain rfl:=r
  obtain⟨its,r,pl,hz⟩:=I1.list hL
  have hlen:its.length=xs.length:=by rw[← r.length,xB]
  obtain⟨o,n,e1,e2,e3,e4⟩:=pl
  have hval:∀(i:Nat)(v:Value),its.toArray[i]? = some v->∃t,v = .str (xs.getD i "") t:=fun i v hv=>by
   rw[← Array.getElem?_toList] at hv
   have hi:i < its.length:=by have:=(xF.mp hv).1;simpa using this
   obtain⟨u,eu,t,ru⟩:=r.get (i:=i) (x:=.str (xs.getD i "")) (by rw[xO,xC (by lia),xS,xC (by lia)];rfl)
   have hv:its[i]? = some v:=hv
   rw[hv] at eu;cases eu
   exact⟨t,ru⟩
  have hsz:its.toArray.size=xs.length:=by rw[xQ,hlen]
  refine Zts (items:=its.toArray) (val:=fun i=>xs.getD i "") (I1.ok.hd hc) ⟨o,e1,e2,n,e4⟩ hval (by unfold scanBound;lia) fun h' tk hS hk=>?_
  rw[hsz] at hS
  have I2:Inv X pins σ H1 {s1 with heap:=h',toks:=tk }:=I1.kept fun b u e=>hk b u (xM e) e
  refine Calls.spliced_nil ?_
  obtain⟨o2,ho,hso⟩:=hS.objOf
  obtain⟨hex,es,ep,t,hd,_,_,hnn,hf⟩:=hso
  have hle:=Zgn (fun i=>xs.getD i "") xs.length
  have hlt:(es.size:Int) < 2 ^ 63:=Int.lt_of_le_of_lt (show (es.size:Int)<=1000 by lia) (by decide)
  refine call_len_set (s:={s1 with heap:=h',toks:=tk }) ho hex hd hf hlt ?_
  refine⟨.int es.size,H1,I2.tok _,⟨_,rfl⟩,?_⟩
  have e:es.size=Zdj xs:=by
   rw[hnn,Zn4 xs xs.length (xE _),yU];rfl
  rw[e]
  exact q1
theorem Ztu{a:Expr}{ta:TA}{p q pos pos':Pos}(hc:X.calm=true)(hml:X.mg "len" = none)(hm:X.mg "set" = none)(ha:QA X [a] ta)(hgl:nB X "len" .globalImplicit:=by kernel_rfl)(hg:nB X "set" .globalImplicit:=by kernel_rfl)(hs:starEach [a] X.env = [(false,eval a X.env)]:=by rfl)(hs2:starEach [.Call (.Name "set" p) [a] [] pos] X.env = [(false,eval (.Call (.Name "set" p) [a] [] pos) X.env)]:=by rfl) :
  QE X (.Call (.Name "len" q) [.Call (.Name "set" p) [a] [] pos] [] pos') (Zm2 X.K ta):=⟨Ztt hc (od hgl) hml (od hg) hm ha.h hs hs2⟩
end
theorem Zsl{xs:List Str}(h:xs.Nodup):Zdj xs=xs.length:=by
 have:∀(ys r:List Str),(r++ys).Nodup->ys.foldl stS r=r++ys:=by
  intro ys
  induction ys with
  | nil=>intro r _;simp
  | cons y ys ih =>
   intro r h
   have ny:r.any (· == y)=false:=by
    rw[List.any_eq_false]
    intro z hz e
    rw[beq_iff_eq] at e
    subst e
    exact(List.nodup_append.mp h).2.2 z hz z yC rfl
   have e1:stS r y=r ++ [y]:=by unfold stS;rw[ny,if_neg (by decide)]
   show ys.foldl stS (stS r y)=_
   rw[e1,ih (r ++ [y]) (by rwa [yO,List.singleton_append]),yO]
   rfl
 unfold Zdj
 rw[this xs [] (by simpa using h)]
 simp
end
end L2
end
section
namespace L2
open PySem PySem.Spec PyProof.Rows
def XTr(h0:Heap)(H:Hp)(h:Heap)(a:Addr)(vs:Array Value):Prop:=∃T oT ts v3,vs[1]? = some (.ref T)/\T≠a/\h.get? T=some oT/\oT.data = .fields ts/\ts[3]? = some v3/\H T=none/\h0.get? T=none
def XAt(h0:Heap)(H:Hp)(h:Heap)(a C:Addr):Prop:=H a=none/\h0.get? a=none/\∃oe vs a0,h.get? a=some oe/\oe.cls = .ref C/\oe.data = .fields vs/\vs[0]? = some a0/\(vs[1]? = some .none\/XTr h0 H h a vs)
def XOn(h0:Heap)(H:Hp)(h:Heap)(a C:Addr):Prop:=H a=none/\h0.get? a=none/\∃oe vs a0,h.get? a=some oe/\oe.cls = .ref C/\oe.data = .fields vs/\vs[0]? = some a0/\XTr h0 H h a vs
theorem XOn.at_{h0:Heap}{H:Hp}{h:Heap}{a C:Addr}(x:XOn h0 H h a C):XAt h0 H h a C:=let ⟨p,q,oe,vs,a0,h1,h2,h3,h4,h5⟩:=x;⟨p,q,oe,vs,a0,h1,h2,h3,h4,.inr h5⟩
def CXE(P:Program)(w:World):CXT:=fun outer H s E e s'=>∃a C H',e = .ref a/\s'.os=s.os/\AllBare s'.gens/\Un (frs outer) [] H H' s.heap s'.heap/\HOk P w H' s'.heap/\XAt s.heap H' s'.heap a C/\E (.ref C) none H'
structure Xp (X:Cx) (E:St->XK):Prop where
 h:∀pins σ H s a C,Inv X pins σ H s->XAt X.s₀.heap H s.heap a C->E σ (.ref C) none H->X.xe (.ref a) s
theorem ObjOk.ex{P:Program}{w:World}{H:Hp}{h:Heap}{a:Addr}{o:HO}(x:ObjOk P w H h a o):∃u,h.get? a=some u:=by
 cases o with
 | lst xs=>obtain⟨_,_,_,_,e⟩:=x;exact⟨_,e⟩
 | tup xs=>obtain⟨_,_,_,_,e,_⟩:=x;exact⟨_,e⟩
 | dK kvs=>obtain⟨_,_,_,_,o,_,_,e,_⟩:=x;exact⟨_,e⟩
 | dT kvs=>obtain⟨_,_,_,_,o,_,_,e,_⟩:=x;exact⟨_,e⟩
 | set S n=>obtain⟨o,_,_,_,e,_⟩:=x;exact⟨_,e⟩
 | ins C dx fs=>obtain⟨_,_,_,e,_⟩:=x;exact⟨_,e⟩
 | own y=>exact x
 | xd fs=>obtain⟨_,⟨_,_,_,e,_⟩,_⟩:=x;exact⟨_,e⟩
 | rng lo hi=>obtain⟨_,_,_,e⟩:=x;exact⟨_,e⟩
 | frz ob u=>obtain⟨e,_⟩:=x;exact⟨_,e⟩
 | tbl ps=>obtain⟨_,_,_,e,_⟩:=x;exact⟨_,e⟩
 | met f y=>exact⟨_,x⟩
 | ext φ=>obtain⟨_,e,_⟩:=x;exact e
section
variable{X:Cx}{σ:List (Option V)}{H H':Hp}{s:Shared}{h':Heap}
theorem Inv.stepN{g':Array GenState}{t':Nat}{d':Drawn}{ch:List Addr}(I:Inv X [] σ H s)(hpn:X.pn = [])(hch:∀b∈ch,X.s₀.heap.get? b=none/\b≠X.env.locals/\∀x c,X.env.cells.lookup x=some c->c≠b)(keep:∀b o,b≠X.env.locals->b∉X.fs->b∉ch->s.heap.get? b=some o->H b=none->h'.get? b=some o)(slot:∀b o,b≠X.env.locals->b∈X.fs->b∉ch->s.heap.get? b=some o->H b=none->∃sl,h'.get? b=some {o with slots:=sl })(there:∀b o,b∉ch->s.heap.get? b=some o->∃o',h'.get? b=some o')(ns:∀m,s.heap.Ns X.env.locals m->h'.Ns X.env.locals m)(hok:HOk X.prog X.w H h')(hg:AllBare g') :
  Inv X [] σ H {s with heap:=h',gens:=g',drawn:=d',toks:=t' }:=by
 have neL:∀b o,X.s₀.heap.get? b=some o->b≠X.env.locals:=fun b o e=>yD (yF (xM e) I.ok.above)
 have neC:∀b o,X.s₀.heap.get? b=some o->b∉ch:=fun b o e hb=>by
  have:=(hch b hb).1
  rw[e] at this;cases this
 have cellK:∀x c,X.env.cells.lookup x=some c->∀v,s.heap.IsCell c v->h'.IsCell c v:=fun x c e v ⟨o,ho,hd⟩=>by
  have nch:c∉ch:=fun z=>(hch c z).2.2 x c e rfl
  by_cases hc:c∈X.fs
  ·obtain⟨sl,q⟩:=slot c o (I.cne x c e) hc nch ho (I.freeC x c e)
   exact⟨_,q,hd⟩
  ·exact⟨o,keep c o (I.cne x c e) hc nch ho (I.freeC x c e),hd⟩
 refine⟨I.ok,I.os,hg,⟨fun b o e n hb hx=>?_,fun b o e n hb hx=>?_,fun b o e n hx=>I.base.free b o e n hx,fun b o e hx=>?_,I.base.tups,I.base.frzs,I.base.tbls⟩,?_,fun x c e=>?_,I.free,I.freeC,fun p hp=>?_,hok,I.len⟩
 ·exact keep b o (neL b o e) hb (neC b o e) (I.base.keep b o e n hb hx) (I.base.free b o e n hx)
 ·obtain⟨sl,e1⟩:=I.base.slot b o e n hb hx
  obtain⟨sl',e2⟩:=slot b _ (neL b o e) hb (neC b o e) e1 (I.base.free b o e n hx)
  exact⟨sl',e2⟩
 ·obtain⟨o',e1⟩:=I.base.there b o e hx
  exact there b o' (neC b o e) e1
 ·obtain⟨m,hn,hl⟩:=I.loc
  refine⟨m,ns m hn,fun i x v e1 e2 e3=>?_⟩
  obtain⟨u,r,l⟩:=hl i x v e1 e2 e3
  refine⟨u,r,?_⟩
  rcases l with l | ⟨k,c,e,z⟩
  ·exact .inl l
  ·exact .inr ⟨k,c,e,cellK x c e _ z⟩
 ·obtain⟨v,z⟩:=I.cell x c e
  exact⟨v,cellK x c e v z⟩
 ·rw[hpn] at hp;cases hp
theorem Inv.noted{hs:List Addr}(I:Inv X [] σ H s)(hpn:X.pn = [])(hh:∀b∈hs,X.s₀.heap.get? b=none/\H b=none/\∃o vs,s.heap.get? b=some o/\o.data = .fields vs)(st:(PySem.W.hideAll s.heap (hs++frs X.stack)).StaysIn h')(up:∀b o,s.heap.get? b=some o->(∀vs,o.data ≠ .fields vs)->∃sl,h'.get? b=some {o with slots:=sl }):Inv X [] σ H {s with heap:=h' }:=by
 obtain⟨m,⟨oL,esL,epL,hoL,hdL,rL⟩,_⟩:=id I.loc
 have kp:∀b o,b∉hs->b∉frs X.stack->s.heap.get? b=some o->h'.get? b=some o:=fun b o n1 n2 e=>st b o (PySem.W.hideAll_get _ e fun hm=>(xJ.mp hm).elim n1 n2)
 have fr:∀b,b∈frs X.stack->∃o,s.heap.get? b=some o/\∀vs,o.data ≠ .fields vs:=fun b hb=>(I.stack.mem hb).2
 refine I.stepN (g':=s.gens) (d':=s.drawn) (t':=s.toks) (ch:=hs) hpn (fun b hb=>?_) (fun b o hL hf hc e _=>kp b o hc (fun z=>(xD.mp (I.stkSub b z)).elim hL hf) e) (fun b o hL hf _ e _=>?_) (fun b o hc e=>?_) (fun m' hm=>?_) (fun b u e=>?_) I.bare
 ·obtain⟨h1,h2,o,vs,e,d⟩:=hh b hb
  refine⟨h1,fun z=>?_,fun x c ec z=>?_⟩
  ·rw[z,hoL] at e;cases e;rw[hdL] at d;cases d
  ·obtain⟨v,oc,ho,hd⟩:=I.cell x c ec
   rw[z,e] at ho;cases ho;rw[d] at hd;cases hd
 ·obtain⟨o',e',d⟩:=(I.funs.mem (show b∈X.outer.filterMap (·.frame) from hf)).2
  rw[e] at e';cases e'
  exact up b o e d
 ·by_cases hb:b∈frs X.stack
  ·obtain⟨o',e',d⟩:=fr b hb
   rw[e] at e';cases e'
   obtain⟨sl,q⟩:=up b o e d
   exact⟨_,q⟩
  ·exact⟨o,kp b o hc hb e⟩
 ·obtain⟨o,es,ep,ho,d,r⟩:=hm
  obtain⟨sl,q⟩:=up _ o ho fun vs z=>by rw[d] at z;cases z
  exact⟨_,es,ep,q,d,r⟩
 ·have nh:∀c v,H c=some v->c∉hs/\c∉frs X.stack:=fun c v ec=>⟨(fun z=>by rw[(hh c z).2.1] at ec;cases ec),(fun z=>by rw[I.stkFree c z] at ec;cases ec)⟩
  refine(I.hok b u e).stay (fun c v hc q=>?_) (fun _ q=>q) fun _ _ q=>q
  rcases hc with rfl | hc
  ·exact kp c v (nh c _ e).1 (nh c _ e).2 q
  ·exact kp c v (nh c _ hc).1 (nh c _ hc).2 q
end
section
variable{X:Cx}{σ:List (Option V)}{H:Hp}{s:Shared}{a C:Addr}{M:Model}{E:Value->Shared->Prop}{Q:Unit->Shared->Prop}
theorem Zma(I:Inv X [] σ H s)(hpn:X.pn = [])(hex:X.ex = [])(stk:X.stack=X.env::X.outer)(hf:X.env.frame=some X.env.locals)(x:XAt X.s₀.heap H s.heap a C)(k:∀h',Inv X [] σ H {s with heap:=h' }->XOn X.s₀.heap H h' a C->(∀b o,s.heap.get? b=some o->(∀vs,o.data ≠ .fields vs)->∃sl,h'.get? b=some {o with slots:=sl })->Q () {s with heap:=h' }) :
  wpAny M X.A (noteFrame (.ref a) X.env) Q E s:=by
 obtain⟨ha,h0a,oe,vs,a0,he,hc,hd,v0,tr⟩:=x
 have fin:∀(hs:List Addr),a∈hs->(∀b∈hs,X.s₀.heap.get? b=none/\H b=none/\∃o vs,s.heap.get? b=some o/\o.data = .fields vs)->
   ∀h1,Heap.NotedW (PySem.W.hideAll s.heap (hs++frs X.stack)) (X.env::X.outer) a (.ref C) a0 (rawInt X.env.locals) s.heap h1->Q () {s with heap:=h1 }:=by
  intro hs has hh h1 N
  refine k h1 (I.noted hpn hh N.1 N.2.2.2) ?_ N.2.2.2
  obtain⟨oe',vs',T,oT,ts,he',⟨hc',v0'⟩,hd',h1',hnT,hTe,hT,hdT,h3⟩:=N.2.2.1
  have no:∀o,s.heap.get? T=some o->T∉hs->T∉frs X.stack->False:=fun o e n1 n2=>by
   have:=PySem.W.hideAll_get (hs++frs X.stack) e fun hm=>(xJ.mp hm).elim n1 n2
   rw[this] at hnT;cases hnT
  have nfr:T∉frs X.stack:=fun z=>by
   rw[stk] at z
   obtain⟨_,o,e,d⟩:=N.2.1.mem (show T∈(X.env::X.outer).filterMap (·.frame) from z)
   rw[hT] at e;cases e;exact d ts hdT
  refine⟨ha,h0a,oe',vs',a0,he',hc',hd',v0',T,oT,ts,_,h1',hTe,hT,hdT,h3,?_,?_⟩
  ·cases q:H T with
   | none=>rfl
   | some u =>
    obtain⟨o,e⟩:=(I.hok T u q).ex
    exact(no o e (fun z=>by rw[(hh T z).2.1] at q;cases q) nfr).elim
  ·cases q:X.s₀.heap.get? T with
   | none=>rfl
   | some o =>
    obtain⟨o',e⟩:=I.base.there T o q (by rw[hex];simp)
    exact(no o' e (fun z=>by rw[(hh T z).1] at q;cases q) nfr).elim
 have hfr:X.A.frames=some (X.env::X.outer):=by rw[← stk];exact I.ok.frames
 have hl:∀hs:List Addr,s.heap.FunFrames (PySem.W.hideAll s.heap (hs++frs X.stack)) (X.env::X.outer):=fun hs=>by
  rw[← stk]
  exact PySem.W.funFrames_hide I.stack fun env he b hb=>xL _ (List.mem_filterMap.mpr ⟨env,he,hb⟩)
 have hkb:∀hs:List Addr,(PySem.W.hideAll s.heap (hs++frs X.stack)).StaysIn s.heap:=fun hs b o q=>PySem.W.of_hideAll _ q
 rcases tr with v1 | ⟨T,oT,ts,v3,v1,hTe,hT,hdT,h3,hHT,h0T⟩
 ·have hh:∀b ∈ [a],X.s₀.heap.get? b=none/\H b=none/\∃o vs,s.heap.get? b=some o/\o.data = .fields vs:=fun b hb=>by
   rw[xK] at hb;subst hb;exact⟨h0a,ha,oe,vs,he,hd⟩
  unfold noteFrame
  simp only[hf]
  refine wpAny_bind (wpAny_field he hd v1 ?_)
  rw[if_neg (by decide)]
  refine wpAny_entryW (base:=PySem.W.hideAll s.heap ([a]++frs X.stack)) hfr (hl _) hf he (hkb _) (PySem.W.hideAll_none _ (by simp)) hd (zO.mp v1).1 v0 fun h1 N=>?_
  rw[hc] at N
  exact fin [a] (by simp) hh h1 N
 ·have hh:∀b ∈ [a,T],X.s₀.heap.get? b=none/\H b=none/\∃o vs,s.heap.get? b=some o/\o.data = .fields vs:=fun b hb=>by
   rcases xD.mp hb with rfl | hb
   ·exact⟨h0a,ha,oe,vs,he,hd⟩
   ·rw[xK] at hb;subst hb;exact⟨h0T,hHT,oT,ts,hT,hdT⟩
  unfold noteFrame
  simp only[hf]
  refine wpAny_bind (wpAny_field he hd v1 ?_)
  rw[if_pos (show (Value.ref T != Value.none)=true from by simp)]
  refine wpAny_bind (wpAny_field hT hdT h3 ?_)
  by_cases zz:(v3 == rawInt X.env.locals)=true
  ·rw[if_pos zz]
   exact wpAny_pure (k s.heap I ⟨ha,h0a,oe,vs,a0,he,hc,hd,v0,T,oT,ts,v3,v1,hTe,hT,hdT,h3,hHT,h0T⟩ fun b o e _=>⟨o.slots,e⟩)
  ·rw[if_neg zz]
   refine wpAny_bind (wpAny_setField hT hdT (zO.mp h3).1 ?_)
   have oth:∀b,b≠T->(s.heap.update T (Obj.mapFields (·.setIfInBounds 3 Value.none))).get? b=s.heap.get? b:=fun b hb=>zT _ _ (Ne.symm hb)
   have nr:∀b o,s.heap.get? b=some o->(∀vs,o.data ≠ .fields vs)->b≠T:=fun b o hb hn q=>by
    rw[q,hT] at hb;injection hb with hb;subst hb;exact hn ts hdT
   have hbT:(PySem.W.hideAll s.heap ([a,T]++frs X.stack)).get? T=none:=PySem.W.hideAll_none _ (by simp)
   refine wpAny_entryW (base:=PySem.W.hideAll s.heap ([a,T]++frs X.stack)) hfr ((hl _).of_keeps fun b o hb hn=>⟨o,(oth b (nr b o hb hn)).trans hb,rfl⟩) hf ((oth a (Ne.symm hTe)).trans he)
    (fun b o hbo=>(oth b fun q=>by rw[q,hbT] at hbo;cases hbo).trans (hkb _ b o hbo)) (PySem.W.hideAll_none _ (by simp)) hd (zO.mp v1).1 v0
    fun h1 ⟨x1,x2,x3,x4⟩=>?_
   rw[hc] at x3
   exact fin [a,T] (by simp) hh h1 ⟨x1,x2,x3,fun b o hb hn=>x4 b o ((oth b (nr b o hb hn)).trans hb) hn⟩
theorem Zfp{A:Around}{fr:Option Addr}(I:Inv X [] σ H s)(hpn:X.pn = [])(x:XOn X.s₀.heap H s.heap a C)(k:∀h',Inv X [] σ H {s with heap:=h' }->XOn X.s₀.heap H h' a C->Q () {s with heap:=h' }):wpAny M A (setFlight (.ref a) fr) Q E s:=by
 obtain⟨ha,h0a,oe,vs,a0,he,hc,hd,v0,T,oT,ts,v3,v1,hTe,hT,hdT,h3,hHT,h0T⟩:=x
 have sz3:=(zO.mp h3).1
 unfold setFlight
 refine wpAny_bind (wpAny_field he hd v1 ?_)
 rw[if_pos (show (Value.ref T != Value.none)=true from by simp)]
 refine wpAny_setField hT hdT sz3 ?_
 have oth:∀b,b≠T->(s.heap.update T (Obj.mapFields (·.setIfInBounds 3 (fr.elim Value.none fun f=>rawInt f)))).get? b=s.heap.get? b:=fun b hb=>zT _ _ (Ne.symm hb)
 refine k _ (I.noted (hs:=[T]) hpn (fun b hb=>by rw[xK] at hb;subst hb;exact⟨h0T,hHT,oT,ts,hT,hdT⟩) (fun b o q=>?_) fun b o hb hn=>⟨o.slots,(oth b fun q=>by rw[q,hT] at hb;cases hb;exact hn ts hdT).trans hb⟩)
  ⟨ha,h0a,oe,vs,a0,(oth a (Ne.symm hTe)).trans he,hc,hd,v0,T,_,_,(fr.elim Value.none fun f=>rawInt f),v1,hTe,zV _ hT (Obj.isFreed_of_fields (Obj.data_mapFields hdT _)),Obj.data_mapFields hdT _,by simp[sz3],hHT,h0T⟩
 refine(oth b fun z=>?_).trans (PySem.W.of_hideAll _ q)
 rw[z,PySem.W.hideAll_none _ (by simp)] at q
 cases q
theorem Zls(I:Inv X [] σ H s)(hpn:X.pn = [])(hex:X.ex = [])(stk:X.stack=X.env::X.outer)(hf:X.env.frame=some X.env.locals)(x:XAt X.s₀.heap H s.heap a C)(k:∀h',Inv X [] σ H {s with heap:=h' }->XAt X.s₀.heap H h' a C->Q () {s with heap:=h' }) :
  wpAny M X.A (noteFrame (.ref a) X.env) (fun _ s₂=>wpAny M X.A (setFlight (.ref a) none) Q E s₂) E s :=
 Zma I hpn hex stk hf x fun h1 I1 x1 _=>Zfp (s:={s with heap:=h1 }) I1 hpn x1 fun h2 I2 x2=>k h2 I2 x2.at_
end
end L2
namespace L2
open PySem PySem.Spec PyProof.Rows
theorem XAt.mono{h0 h1 h:Heap}{H:Hp}{a C:Addr}(x:XAt h0 H h a C)(k:∀b,h0.get? b=none->h1.get? b=none):XAt h1 H h a C:=by
 obtain⟨ha,h0a,oe,vs,a0,he,hc,hd,v0,tr⟩:=x
 refine⟨ha,k a h0a,oe,vs,a0,he,hc,hd,v0,?_⟩
 rcases tr with v1 | ⟨T,oT,ts,v3,v1,hTe,hT,hdT,h3,hHT,h0T⟩
 ·exact .inl v1
 ·exact .inr ⟨T,oT,ts,v3,v1,hTe,hT,hdT,h3,hHT,k T h0T⟩
theorem Yp{P:Program}{w:World}{K:uFg}{mg:Str->Option Value}{base:Heap}{N:List Str}{qual:Str}{scope:Scope}{f:Addr}{cd:Value}{A:Around}{outer:List Env}{s:Shared}{H:Hp}{E:XK} :
  Xp (Y6 (CXE P w) P w K mg base N qual scope f cd A outer s H E) fun _=>E:=⟨fun pins σ H1 s1 a C I x hE=>by
 have I':=I.pins_of (pins':=[]) (fun p hp=>nomatch hp)
 show wpAny _ _ (noteFrame _ _ >>= fun _=>setFlight _ none) _ _ _
 refine wpAny_bind (Zls (X:=Y6 (CXE P w) P w K mg base N qual scope f cd A outer s H E) I' rfl rfl rfl rfl x fun h' J y=>?_)
 exact⟨a,C,H1,rfl,J.os,J.bare,J.base,J.hok,y,hE⟩⟩
section
variable{X:Cx}{E:St->XK}
theorem Inv.newer{pins:List (Addr×Obj)}{σ:St}{H:Hp}{s:Shared}(I:Inv X pins σ H s)(hex:X.ex = []):∀b,s.heap.get? b=none->X.s₀.heap.get? b=none:=fun b e=>by
 cases q:X.s₀.heap.get? b with
 | none=>rfl
 | some o =>
  obtain⟨o',e'⟩:=I.base.there b o q (by rw[hex];simp)
  rw[e] at e';cases e'
structure Xq (X:Cx) (E:St->XK):Prop where
 h:(∀ σ c d H,¬E σ c d H)\/(X.ex = []/\Xp X E)
theorem Xq.never:Xq X fun _ _ _ _=>False:=⟨.inl fun _ _ _ _ h=>h⟩
theorem Xq.pass{pins:List (Addr×Obj)}{σ:St}{H:Hp}{s s':Shared}{e:Value}(hx:Xq X E)(I:Inv X pins σ H s)(h:CXE X.prog X.w X.stack H s (E σ) e s'):X.xe e s':=by
 obtain⟨a,C,H',rfl,os,bare,un,hok,x,hE⟩:=h
 rcases hx.h with z | ⟨hex,hx⟩
 ·exact(z _ _ _ _ hE).elim
 obtain⟨hh,g,d,t,os'⟩:=s'
 obtain rfl:os'=s.os:=os
 have J:=I.call (h':=hh) (g':=g) (d':=d) (t':=t) (ch:=[]) un hok bare (fun b z=>absurd z (by simp))
 exact hx.h pins σ H' _ a C J (x.mono (I.newer hex)) hE
theorem Zw{P:Program}{w:World}{K:uFg}{mg:Str->Option Value}{base:Heap}{N:List Str}{qual:Str}{scope:Scope}{f:Addr}{cd:Value}{A:Around}{outer:List Env}{s:Shared}{H:Hp}{E:XK} :
  Xq (Y6 (CXE P w) P w K mg base N qual scope f cd A outer s H E) fun _=>E:=⟨.inr ⟨rfl,Yp⟩⟩
end
structure Run (P:Program) (w:World) (K:uFg) (mg:Str->Option Value) (base:Heap) (k:Nat) (f:Addr) (sp:Sp):Prop where
 run:∀(A:Around)(outer:List Env)(s:Shared)(H:Hp)(us:List Value)(vs:List V)(Q:VK)(E:XK),Room k A->Env0 P w K mg base A outer s H->Vals vs us->sp vs H Q E->codeAny (model P w) A (.call (.ref f) ⟨us,[]⟩) (CR (CXE P w) outer P w H s Q E) s
theorem FnOk.runX{P:Program}{w:World}{K:uFg}{mg:Str->Option Value}{base:Heap}{k:Nat}{f:Addr}{fd:FuncData}{ps:List Str}{sp:Sp}(F:FnOk P w K mg base (CXE P w) k f fd ps sp)(hb:Binds K fd ps []):Run P w K mg base k f sp :=
 ⟨fun A outer s H us vs Q E hr e0 r h=>by
  have KX:K.In s.heap:=e0.mod.kin.keeps fun b o e=>(e0.bs b o e).1
  have hl:us.length=ps.length:=by rw[← r.length];exact F.len _ _ _ _ h
  have hb':BindsTo s fd ⟨us,[]⟩ (ps.zip us):=by
   have:=hb s us KX (by rw[yQ];exact hl)
   rw[yQ] at this
   exact this
  exact F.run A outer s H ⟨us,[]⟩ us vs Q E hr e0 hb' r h⟩
def FnX(P:Program)(w:World)(K:uFg)(mg:Str->Option Value)(base:Heap)(x:Str)(k:Nat)(sp:Sp):Prop :=
 ∃f,mg x=some (.ref f)/\PySem.W.keepIn K (.ref f)=true/\Run P w K mg base k f sp
structure MtX (P:Program) (w:World) (K:uFg) (mg:Str->Option Value) (base:Heap) (C:Addr) (m:Str) (k:Nat) (sp:Sp):Prop where
 ex:∃(f:Addr),Meth K C m f/\Run P w K mg base k f sp
section
variable{P:Program}{w:World}{K:uFg}{mg:Str->Option Value}{base:Heap}{C:Addr}{x:Str}{ps:List Str}{k k':Nat}{sp sp':Sp}
def Sp.or(a b:Sp):Sp:=fun vs H Q E=>a vs H Q E\/b vs H Q E
end
def Z4q(sp:Sp)(E:St->XK)(t:TA):TE:=fun σ H Q=>t σ H fun vs H1=>sp vs H1 Q (E σ)
def Zqr(C:Addr)(m:Str)(sp:Sp)(E:St->XK)(ta:TE)(t:TA):TE:=fun σ H Q=>ta σ H fun x H1=>∃a dx fs,x = .ref a/\H1 a=some (.ins C dx fs)/\fs.lookup m=none/\t σ H1 fun vs H2=>sp (x::vs) H2 Q (E σ)
section
variable{X:Cx}{E:St->XK}{k:Nat}{f C:Addr}{sp:Sp}{x m:Str}{p pos apos:Pos}{e o:Expr}{es:List Expr}{ta:TE}{t:TA}
theorem Zga{pins:List (Addr×Obj)}{σ:St}{H:Hp}{s:Shared}{Q:VK}{us:List Value}{vs:List V}(F:Run X.prog X.w X.K X.mg X.base k f sp)(hr:Room k X.A)(hx:Xq X E)(I:Inv X pins σ H s)(r:Vals vs us)(h:sp vs H Q (E σ)):wpAny (model X.prog X.w) X.A (call (.ref f) us) (EP X pins σ Q) X.xe s:=by
 refine wpAny_call (codeAny_mono (F.run X.A X.stack s H us vs Q (E σ) hr I.env0 r h) fun r s' hq=>?_)
 cases r with
 | error e=>exact hx.pass I hq
 | ok fl =>
  cases fl with
  | ret u=>exact I.after hq
  | next=>exact False.elim hq
  | brk=>exact False.elim hq
  | cont=>exact False.elim hq
theorem Wb(hx:Xq X E)(F:FnX X.prog X.w X.K X.mg X.base x k sp)(ha:QA X (e::es) t)(hr:Room k X.A:=by exact Room.mono (by assumption) (by first | decide | lia))(n:nB X x .globalImplicit:=by kernel_rfl)(he:starEach (e::es) X.env=(false,eval e X.env)::starEach es X.env:=by rfl)(hpl:(backTo pos (starEach es X.env)).any (·.1)=false:=by rfl) :
  QE X (.Call (.Name x p) (e::es) [] pos) (Z4q sp E t):=⟨by
 obtain⟨f,hm,hk,G⟩:=F
 intro pins s σ H Q I h
 have n:=od n
 refine wpAny_Call_Name_kw (Zb0 I n.1 hm ?_ n.2.1)
 refine PySem.W.callWith_K (h₀:=X.base) I.ok.mod.kin hk (thn (ha.h pos pins s σ H _ I h) fun us s1 ⟨vs,H1,I1,r,q⟩=>⟨I1.kIn,?_⟩) he hpl
 exact Zga G hr hx I1 r q⟩
theorem Yh{pl:Sem Bool}(hx:Xq X E)(he:QE X o ta)(c:Cls X.K C)(M:MtX X.prog X.w X.K X.mg X.base C m k sp)(ha:QA X (e::es) t)(hr:Room k X.A:=by exact Room.mono (by assumption) (by first | decide | lia))(hst:starEach (e::es) X.env=(false,eval e X.env)::starEach es X.env:=by rfl)(hpl:(backTo pos (starEach es X.env)).any (·.1)=false:=by rfl)(ht:eval (.Call (.Attribute o m apos) (e::es) [] pos) X.env=(do
   let ov ← eval o X.env
   standAt apos.atName
   let (f,first) ← holding [ov] (getMethod ov m pl)
   callWith pos f first (backTo pos (starEach (e::es) X.env)) (backToKw pos (keywordEach [] X.env))):=by rfl) :
  QE X (.Call (.Attribute o m apos) (e::es) [] pos) (Zqr C m sp E ta t):=⟨by
 obtain⟨f,hm,F⟩:=M.ex
 intro pins s σ H Q I h
 refine PySem.W.methodCall_KW (pl:=pl) (thn (he.h pins s σ H _ I h) fun u s1 ⟨x,H1,I1,rx,a,dx,fs,ex,ea,l,q⟩=>?_) ht
 subst ex
 obtain rfl:u=Value.ref a:=rx
 refine Zdp I1 ea c hm l ?_
 refine PySem.W.callWith_K (first:=[.ref a]) (h₀:=X.base) I.ok.mod.kin hm.kp (thn (ha.h pos pins s1 σ H1 _ I1 q) fun us s2 ⟨vs,H2,I2,r,q2⟩=>⟨I2.kIn,?_⟩) hst hpl
 exact Zga (us:=.ref a::us) (vs:=.ref a::vs) F hr hx I2 (.cons rfl r) q2⟩
theorem Zat{pl:Sem Bool}(hx:Xq X E)(he:QE X o ta)(c:Cls X.K C)(M:MtX X.prog X.w X.K X.mg X.base C m k sp)(hr:Room k X.A:=by exact Room.mono (by assumption) (by first | decide | lia))(ht:eval (.Call (.Attribute o m apos) [] [] pos) X.env=(do
   let ov ← eval o X.env
   standAt apos.atName
   let (f,first) ← holding [ov] (getMethod ov m pl)
   callWith pos f first (backTo pos (starEach [] X.env)) (backToKw pos (keywordEach [] X.env))):=by rfl) :
  QE X (.Call (.Attribute o m apos) [] [] pos) (Zqr C m sp E ta Vu):=⟨by
 obtain⟨f,hm,F⟩:=M.ex
 intro pins s σ H Q I h
 refine PySem.W.methodCall_KW (pl:=pl) (thn (he.h pins s σ H _ I h) fun u s1 ⟨x,H1,I1,rx,a,dx,fs,ex,ea,l,q⟩=>?_) ht
 subst ex
 obtain rfl:u=Value.ref a:=rx
 refine Zdp I1 ea c hm l ?_
 exact PySem.W.callWith_K0 (first:=[.ref a]) I1.kIn hm.kp (Zga (us:=[.ref a]) (vs:=[.ref a]) F hr hx I1 (.cons rfl .nil) q)⟩
end
section
variable{P:Program}{w:World}{K:uFg}{mg:Str->Option Value}{base:Heap}
theorem Fun.okX{x qual:Str}{st:Stmt}{f:Addr}{fd:FuncData}{N ps:List Str}{k:Nat}{sp:Sp}(F:Fun K x qual st f fd)(S:FnScope N ps (Zh st))(len:∀vs H Q E,sp vs H Q E->vs.length=ps.length)(hbody:∀ (cdv:Value) (A:Around) (outer:List Env) (s:Shared) (H:Hp) (vs:List V) (Q:VK) (E:XK),Room k (A.deeper (envOfC qual (Zh st) s.heap.objs.size f cdv))->sp vs H Q E ->
   ∃t,QSs (Y6 (CXE P w) P w K mg base N qual (Zh st) f cdv A outer s H E) (Y4 st) t/\t {nx:=fun _ H'=>Q .non H',rt:=Q } (start N vs) H):FnOk P w K mg base (CXE P w) (k+1) f fd ps sp:=by
 obtain⟨oc,od,kV,doc,pm,an,cdv,ct,osl,rfl,lk,hcd⟩:=F.ex
 refine Zo1 lk hcd S len fun A outer s H vs Q E hr hsp=>?_
 obtain⟨t,h,q⟩:=hbody cdv A outer s H vs Q E hr hsp
 exact⟨t,h.h,q⟩
theorem Has.fnX{x:Str}{st:Stmt}{N ps:List Str}{k:Nat}{sp:Sp}(h:Has K mg x st)(S:FnScope N ps (Zh st))(hb:∀ (kV doc pm:Value) (an:Option Addr) (cdv ct:Value) (us:List Value),us.length=ps.length->bindArgs (PySem.W.fnOf x x (Vj st) (Y4 st) (Zh st) .none kV doc pm an cdv ct) ⟨us,[]⟩=pure (ps.zip us))(len:∀vs H Q E,sp vs H Q E->vs.length=ps.length)(hbody:∀ (f:Addr) (cdv:Value) (A:Around) (outer:List Env) (s:Shared) (H:Hp) (vs:List V) (Q:VK) (E:XK),Room k (A.deeper (envOfC x (Zh st) s.heap.objs.size f cdv))->sp vs H Q E ->
   ∃t,QSs (Y6 (CXE P w) P w K mg base N x (Zh st) f cdv A outer s H E) (Y4 st) t/\t {nx:=fun _ H'=>Q .non H',rt:=Q } (start N vs) H):FnX P w K mg base x (k+1) sp:=by
 obtain⟨f,fd,F,hm⟩:=h
 exact⟨f,hm,F.kp,(F.okX S len (hbody f)).runX (F.binds hb)⟩
theorem HasM.mtX{C:Addr}{m qual:Str}{st:Stmt}{N ps:List Str}{k:Nat}{sp:Sp}(h:HasM K C m qual st)(S:FnScope N ps (Zh st))(hb:∀ (kV doc pm:Value) (an:Option Addr) (cdv ct:Value) (us:List Value),us.length=ps.length->bindArgs (PySem.W.fnOf m qual (Vj st) (Y4 st) (Zh st) .none kV doc pm an cdv ct) ⟨us,[]⟩=pure (ps.zip us))(len:∀vs H Q E,sp vs H Q E->vs.length=ps.length)(hbody:∀ (f:Addr) (cdv:Value) (A:Around) (outer:List Env) (s:Shared) (H:Hp) (vs:List V) (Q:VK) (E:XK),Room k (A.deeper (envOfC qual (Zh st) s.heap.objs.size f cdv))->sp vs H Q E ->
   ∃t,QSs (Y6 (CXE P w) P w K mg base N qual (Zh st) f cdv A outer s H E) (Y4 st) t/\t {nx:=fun _ H'=>Q .non H',rt:=Q } (start N vs) H):MtX P w K mg base C m (k+1) sp:=by
 obtain⟨f,fd,F,M⟩:=h.ex
 exact⟨f,M,(F.okX S len (hbody f)).runX (F.binds hb)⟩
end
end L2
namespace L2
open PySem PySem.Spec PyProof.Rows
def nsX(K:uFg)(N:Addr):Bool:=match K.lookup N with
 | some ⟨_,_,.dict es _,_⟩=>(es.toList.all fun e=>match e.key with | .str _ _=>true | _=>false) && (nsFind es "__init__").isNone
 | _=>false
def vE:List Value:=[.type "ValueError", .type "Exception", .type "BaseException", .type "object"]
def Zke:List (Option Value)->Bool
 | [_,_,_,_,some v,_]=>v == .builtin "ValueError.__new__"
 | _=>false
def Zqs(K:uFg):List Value->Bool
 | .ref M::r=>r == vE && (match K.lookup M with | some ⟨_,_,.cls cd,_⟩=>nsX K cd.ns | _=>false)
 | _=>false
def Za0(K:uFg)(C:Addr):Bool:=match K.lookup C with
 | some ⟨c,_,.cls cd,sl⟩=>(c == .type "type") && (cd.hasDel == false) && nsX K cd.ns && Zke sl.toList && (match cd.mro with | v::r=>(v == .ref C) && Zqs K r | _=>false)
 | _=>false
theorem Zn5{K:uFg}{h:Heap}{N:Addr}(X:K.In h)(e:nsX K N=true):∃mN,h.Ns N mN/\mN "__init__" = none:=by
 unfold nsX at e
 split at e
 ·rename_i c d es n sl q
  rw[yT] at e
  refine⟨nsFind es,⟨_,es,n,X _ _ q,rfl,fun en hen=>?_,fun _=>rfl⟩,Option.isNone_iff_eq_none.mp e.2⟩
  have z:=zE.mp e.1 en (Array.mem_toList_iff.mpr hen)
  cases k:en.key with
  | str x t=>exact⟨x,t,rfl⟩
  | _=>rw[k] at z;cases z
 ·cases e
theorem Zxl:∀{l:List (Option Value)},Zke l=true->∃k0 k1 k2 k3 k5,l = [k0,k1,k2,k3,some (.builtin "ValueError.__new__"),k5]:=by
 intro l e
 unfold Zke at e
 split at e
 ·exact⟨_,_,_,_,_,by rw[beq_iff_eq.mp e]⟩
 ·exact Bool.noConfusion e
theorem Zpj{K:uFg}{h:Heap}{C:Addr}(X:K.In h)(e:Za0 K C=true) :
  ∃nm q N bs bm hdct sn sub ab col dd k0 k1 k2 k3 k5 mN,h.get? C=some (excClassObj nm q C N bs bm hdct sn sub ab col dd k0 k1 k2 k3 k5 "ValueError.__new__")/\h.Ns N mN/\mN "__init__" = none/\OwnTail h vE bm:=by
 unfold Za0 at e
 split at e
 ·rename_i c d cd sl q
  simp only[yT] at e
  obtain⟨⟨⟨⟨e1,e2⟩,e3⟩,e4⟩,e5⟩:=e
  have e1:=beq_iff_eq.mp e1
  subst e1
  obtain⟨mN,hn,hi⟩:=Zn5 X e3
  obtain⟨nm,bs,mro,N,qn,hdc,sn,sub,ab,col,hdl⟩:=cd
  have e2:hdl=false:=beq_iff_eq.mp e2
  subst e2
  cases mro with
  | nil=>cases e5
  | cons v r =>
   dsimp only at e5
   rw[yT] at e5
   have e6:=beq_iff_eq.mp e5.1
   subst e6
   have e7:=e5.2
   unfold Zqs at e7
   split at e7
   ·rename_i M r
    rw[yT] at e7
    have e8:=beq_iff_eq.mp e7.1
    subst e8
    have e9:=e7.2
    split at e9
    ·rename_i c2 d2 cd2 sl2 q2
     obtain⟨mM,hM,hMi⟩:=Zn5 X e9
     obtain⟨sl⟩:=sl
     obtain⟨k0,k1,k2,k3,k5,rfl⟩:=Zxl (l:=sl) e4
     ·exact⟨nm,qn,N,bs,.ref M::vE,hdc,sn,sub,ab,col,d,k0,k1,k2,k3,k5,mN,X _ _ q,hn,hi,.own (X _ _ q2) hM hMi .base⟩
    ·cases e9
   ·cases e7
 ·cases e
def Zn6(E:St->XK)(C:Addr)(te:TE):TS:=fun _ σ H=>te σ H fun _ H1=>E σ (.ref C) none H1
section
variable{X:Cx}{E:St->XK}{C:Addr}{x:Str}{np cpos pos:Pos}{e:Expr}{te:TE}
theorem Zvj(hx:Xp X E)(hcl:X.calm=true)(hex:X.ex = [])(xc:Za0 X.K C=true)(n:Nm X.env.scope x .globalImplicit)(hm:X.mg x=some (.ref C))(he:QE X e te)(hs:starEach [e] X.env = [(false,eval e X.env)]:=by rfl):QS X (.Raise (some (.Call (.Name x np) [e] [] cpos)) none pos) (Zn6 E C te):=⟨by
 intro pins s σ H D I h
 obtain⟨nm,q,N,bs,bm,hdct,sn,sub,ab,col,dd,k0,k1,k2,k3,k5,mN,hC,hn,hi,T⟩:=Zpj I.kIn xc
 refine wpAny_Raise_call_subU (C:=C) (N:=N) (nm:=nm) (q:=q) (bs:=bs) (bm:=bm) (bmB:=vE) (hdct:=hdct) (sn:=sn) (sub:=sub) (ab:=ab) (col:=col) (dd:=dd) (k0:=k0) (k1:=k1) (k2:=k2) (k3:=k3) (k5:=k5) (mN:=mN)
  F.excBase_ValueError (by decide) F.excBase_ValueError (T.hasType (by decide)) (I.ok.hd hcl) (by rw[hs];rfl) hi (Zb0 I n.1 hm ⟨rfl,?_⟩ n.2.1)
 rw[hs]
 refine Calls.evalArgs_plain (Calls.spliced_cons (thn (he.h pins s σ H _ I h) fun u s1 ⟨v,H1,I1,r1,q1⟩=>Calls.spliced_nil ?_))
 have K1:∀b o,X.base.get? b=some o->s1.heap.get? b=some o:=I1.bk
 obtain⟨nm',q',N',bs',bm',hdct',sn',sub',ab',col',dd',k0',k1',k2',k3',k5',mN',hC',hn',hi',T'⟩:=Zpj I1.kIn xc
 have lk:∃o,X.K.lookup C=some o:=by
  unfold Za0 at xc
  split at xc
  ·rename_i z;exact⟨_,z⟩
  ·cases xc
 obtain⟨oC,hoC⟩:=lk
 have z1:=(I.kIn _ _ hoC).symm.trans hC
 have z2:=(I1.kIn _ _ hoC).symm.trans hC'
 have hC1:s1.heap.get? C=some (excClassObj nm q C N bs bm hdct sn sub ab col dd k0 k1 k2 k3 k5 "ValueError.__new__"):=by rw[hC',← z2,z1]
 have zz:=hC1.symm.trans hC'
 have eN:N=N':=by
  have:=congrArg (fun o:Option Obj=>match o with | some ⟨_,_,.cls cd,_⟩=>cd.ns | _=>0) zz
  exact this
 have ebm:bm=bm':=by
  have:=congrArg (fun o:Option Obj=>match o with | some ⟨_,_,.cls cd,_⟩=>cd.mro | _=>[]) zz
  exact(List.cons.inj this).2
 subst eN ebm
 refine⟨rfl,by show 1<=sizeLine;decide,hC1,?_,T',fun h' a hx'=>?_⟩
 ·-- the namespace is the same object
  have lkN:∃o,X.K.lookup N=some o:=by
   unfold Za0 at xc
   rw[hoC] at xc
   obtain⟨c,d,dt,sl⟩:=oC
   cases dt with
   | cls cd =>
    simp only[yT] at xc
    have e3:=xc.1.1.2
    have eN:cd.ns=N:=by
     have:=congrArg (fun o:Option Obj=>match o with | some ⟨_,_,.cls cd,_⟩=>cd.ns | _=>0) z1
     exact this
    rw[eN] at e3
    unfold nsX at e3
    split at e3
    ·rename_i z;exact⟨_,z⟩
    ·cases e3
   | _=>cases xc
  obtain⟨oN,hoN⟩:=lkN
  obtain⟨o1,es1,ep1,ho1,r1⟩:=hn
  have:=(I.kIn _ _ hoN).symm.trans ho1
  cases this
  exact⟨_,es1,ep1,I1.kIn _ _ hoN,r1⟩
 ·obtain⟨t,e1,e2,e3⟩:=hx'.there
  have I2:Inv X pins σ H1 {s1 with heap:=h' }:=I1.kept (t':=s1.toks) hx'.keeps
  have fr:∀b,s1.heap.get? b=none->H1 b=none:=fun b z=>by
   cases q:H1 b with
   | none=>rfl
   | some u=>obtain⟨o,e⟩:=(I1.hok b u q).ex;rw[z] at e;cases e
  refine hx.h pins σ H1 {s1 with heap:=h' } a C I2 ⟨fr a hx'.new,?_,_,_,_,e1,rfl,rfl,rfl,.inl rfl⟩ q1
  cases q:X.s₀.heap.get? a with
  | none=>rfl
  | some o =>
   obtain⟨o',e'⟩:=I1.base.there a o q (by rw[hex];simp)
   rw[hx'.new] at e';cases e'⟩
end
end L2
end
section
namespace L2
open PySem PySem.Spec PyProof.Rows
abbrev TJ:=St->Hp->(Hp->Prop)->Prop
def PJ(X:Cx)(es:List Expr)(t:TJ):Prop:=∀(pins:List (Addr×Obj))(s:Shared)(σ:St)(H:Hp)(Q:Hp->Prop)(acc:Str),Inv X pins σ H s->acc.length+es.length * 1000000<=sizeLine->t σ H Q ->
 Joins (model X.prog X.w) X.A X.xe (evalEach es X.env) acc (fun out s₁=>out.length<=sizeLine/\∃H',Inv X pins σ H' s₁/\Q H') s
structure QJ (X:Cx) (es:List Expr) (t:TJ):Prop where
 h:PJ X es t
def tJt(n:Nat)(t:TJ):TJ:=fun σ H Q=>n<=1000000/\t σ H Q
def tJf(te:TE)(t:TJ):TJ:=fun σ H Q=>te σ H fun v H1=>((∃x,v = .str x/\x.length<=1000000)\/(∃i,v = .int i/\i.natAbs.log2 < 1920))/\t σ H1 Q
def tJr(te:TE)(t:TJ):TJ:=fun σ H Q=>te σ H fun v H1=>(∃x,v = .str x/\x.length<=10000/\∀c∈x.cps.toList,c < 16 ^ 8)/\t σ H1 Q
def tJ0:TJ:=fun _ H Q=>Q H
def Z0o(t:TJ):TE:=fun σ H Q=>t σ H fun H1=>∀x:Str,Q (.str x) H1
section
variable{X:Cx}{es:List Expr}{e:Expr}{te:TE}{t:TJ}{pos:Pos}
theorem Y1:QJ X [] tJ0:=⟨fun pins s σ H Q acc I hl h=>⟨by simpa using hl,H,I,h⟩⟩
theorem Zau(a b:Str):(a++b).length=a.length+b.length:=strLen_append a b
theorem Yj{x:Str}{j:Nat}(h:QJ X es t)(he:evalEach (.Constant (.str x) j pos::es) X.env=eval (.Constant (.str x) j pos) X.env::evalEach es X.env:=by rfl):QJ X (.Constant (.str x) j pos::es) (tJt x.length t):=⟨by
 intro pins s σ H Q acc I hl hq
 obtain⟨hx,hq⟩:=hq
 rw[xU] at hl
 rw[he]
 refine Calls.Constant_str ⟨x,_,rfl,?_,h.h pins _ σ H Q (acc++x) (I.tok _) ?_ hq⟩
 ·rw[Zau];lia
 ·rw[Zau];lia⟩
theorem Yr(h1:QE X e te)(h:QJ X es t)(he:evalEach (.FormattedValue e (-1) none pos::es) X.env=eval (.FormattedValue e (-1) none pos) X.env::evalEach es X.env:=by rfl):QJ X (.FormattedValue e (-1) none pos::es) (tJf te t):=⟨by
 intro pins s σ H Q acc I hl hq
 rw[xU] at hl
 rw[he]
 refine wpAny_FormattedValue_plain (thn (h1.h pins s σ H _ I hq) fun u s1 ⟨v,H1,I1,rv,hv,q⟩=>?_)
 rcases hv with⟨x,rfl,hx⟩ | ⟨i,rfl,hi⟩
 ·obtain⟨tk,rfl⟩:=rv
  refine formatField_str (fun t' tk'=>⟨x,t',rfl,?_,h.h pins _ σ H1 Q (acc++x) (I1.tok _) ?_ q⟩) (by rw[sizeLine_eq];lia)
  ·rw[Zau];lia
  ·rw[Zau];lia
 ·obtain⟨tk,rfl⟩:=rv
  have hn:(Str.ofString (toString i)).length<=1921:=by rw[PySem.ofString_length];exact int_text_length_le (by decide) hi
  refine wpAny_formatField_int hi ⟨_,_,rfl,?_,h.h pins _ σ H1 Q _ (I1.tok _) ?_ q⟩
  ·rw[Zau];lia
  ·rw[Zau];lia⟩
theorem Zzg(h1:QE X e te)(h:QJ X es t)(he:evalEach (.FormattedValue e 114 none pos::es) X.env=eval (.FormattedValue e 114 none pos) X.env::evalEach es X.env:=by rfl):QJ X (.FormattedValue e 114 none pos::es) (tJr te t):=⟨by
 intro pins s σ H Q acc I hl hq
 rw[xU] at hl
 rw[he]
 refine wpAny_FormattedValue_repr (thn (h1.h pins s σ H _ I hq) fun u s1 ⟨v,H1,I1,rv,hv,q⟩=>?_)
 obtain⟨x,rfl,hx,hc⟩:=hv
 obtain⟨tk,rfl⟩:=rv
 have hn:=StrLaws.reprText_len x hc
 have hz:(reprText x).length<=sizeLine:=by rw[sizeLine_eq];lia
 refine wpAny_pyReprObj_gives (x:=reprText x) (typeIs_str _ _ _) F.slot_str_repr F.entry_str_repr (F.args_str_repr_1 _) (gives_str_repr x tk) ?_ rfl hz
 refine formatField_str (fun t' tk'=>⟨_,t',rfl,?_,h.h pins _ σ H1 Q _ ((I1.tok _).tok _) ?_ q⟩) hz
 ·rw[Zau];lia
 ·rw[Zau];lia⟩
theorem Zk8{M:Model}{A:Around}{E:Value->Shared->Prop}{Q Q':Str->Shared->Prop}(hQ:∀o s,Q o s->Q' o s):∀{l:List (Sem Value)}{acc:Str}{s:Shared},Joins M A E l acc Q s->Joins M A E l acc Q' s
 | [],_,_,h=>hQ _ _ h
 | _::_,_,_,h=>wpAny_mono h (fun _ _ ⟨y,t,a,b,c⟩=>⟨y,t,a,b,Zk8 hQ c⟩) fun _ _ z=>z
theorem Y2{e1 e2:Expr}(h:QJ X (e1::e2::es) t)(hn:es.length<=8:=by decide):QE X (.JoinedStr (e1::e2::es) pos) (Z0o t):=⟨by
 intro pins s σ H Q I hq
 have hs:(Str.empty).length+(e1::e2::es).length * 1000000<=sizeLine:=by
  have:Str.empty.length=0:=rfl
  rw[this,xU,xU,sizeLine_eq];lia
 refine wpAny_JoinedStr ?_
 have key:=h.h pins s σ H _ Str.empty I hs hq
 refine Zk8 (fun out s1 ⟨h1,H1,I1,q⟩=>⟨h1,.str out,H1,I1.tok _,⟨_,rfl⟩,q out⟩) key⟩
end
end L2
end
section
namespace L2
open PySem PySem.Spec PyProof.Rows PySem.W PySem.Calls PySem.Builtin PySem.Builtin.ObjectAttr PySem.Builtin.Getset_descriptor
def Zkf(K:Frag)(C:Addr):Bool:=(clsIn K C).isSome && (findIn K (.ref C) "__getattribute__" == some (some (.builtin "BaseException.__getattribute__"))) && (findIn K (.ref C) "__getattr__" == some none) && (findIn K (.ref C) "__class__" == some (some (.builtin "object.__class__"))) &&
 (mroIn K C (.type "object")== some true) && (mroIn K C (.type "BaseException")== some true)
section
variable{prog:Program}{w:World}{A:Around}{E:Value->Shared->Prop}{h:Heap}{g:Array GenState}{d:Drawn}{t:Nat}{os:OsState}{a C:Addr}{o:Obj}{K:Frag}
structure ExA (h:Heap) (a:Addr) (o:Obj) (C:Addr):Prop where
 at_:h.get? a=some o
 cls:o.cls = .ref C
end
section
variable{K:Frag}{a C:Addr}{o:Obj}
end
end L2
end
section
namespace L2
open PySem PySem.Spec PyProof.Rows
abbrev Cx.hnd(X:Cx)(a:Addr)(o:Obj):Cx:={X with A:=X.A.mark (some (.ref a)),calm:=false,pn:=[(a,o)],xe:=fun _ _=>False }
section
variable{X:Cx}{σ:St}{H:Hp}{s:Shared}{a C:Addr}{o:Obj}
theorem Inv.hnd(I:Inv X [] σ H s)(ho:s.heap.get? a=some o)(hH:H a=none)(hd:∃vs,o.data = .fields vs):Inv (X.hnd a o) [] σ H s:=by
 obtain⟨vs,hd⟩:=hd
 obtain⟨m,⟨oL,esL,epL,hoL,hdL,rL⟩,_⟩:=id I.loc
 refine⟨⟨I.ok.mod,I.ok.kind,I.ok.glob,I.ok.blt,I.ok.above,I.ok.inj,I.ok.has,I.ok.cab,fun z=>Bool.noConfusion z,I.ok.frames,I.ok.stk,I.ok.exf,I.ok.bs,I.ok.bsz,I.ok.noex,I.ok.exfs,I.ok.funs,I.ok.frf⟩,I.os,I.bare,I.base,I.loc,I.cell,I.free,I.freeC,fun p hp=>?_,I.hok,I.len⟩
 have e:p=(a,o):=by simpa using hp
 subst e
 refine⟨ho,hH,fun z=>?_,fun z=>?_,fun v z=>?_⟩
 ·have z:a=X.env.locals:=z
  rw[z,hoL] at ho;cases ho;rw[hdL] at hd;cases hd
 ·obtain⟨_,o',e',d⟩:=I.funs.mem (show a∈X.outer.filterMap (·.frame) from z)
  rw[ho] at e';cases e';exact d vs hd
 ·have z:o.data = .cell v:=z
  rw[hd] at z;cases z
theorem Inv.unhnd(I:Inv (X.hnd a o) [] σ H s)(ok:X.Ok)(hpn:X.pn = []):Inv X [] σ H s :=
 ⟨ok,I.os,I.bare,I.base,I.loc,I.cell,I.free,I.freeC,(fun p hp=>by rw[hpn] at hp;cases hp),I.hok,I.len⟩
theorem Zvk{M:Model}{A:Around}{E:Value->Shared->Prop}{Q:Unit->Shared->Prop}(I:Inv X [] σ H s)(hpn:X.pn = [])(hex:X.ex = [])(stk:X.stack=X.env::X.outer)(x:XAt X.s₀.heap H s.heap a C)(k:∀h',Inv X [] σ H {s with heap:=h' }->XAt X.s₀.heap H h' a C->Q () {s with heap:=h' }):wpAny M A (setFlight (.ref a) none) Q E s:=by
 obtain⟨ha,h0a,oe,vs,a0,he,hc,hd,v0,tr⟩:=id x
 rcases tr with v1 | tr
 ·unfold setFlight
  refine wpAny_bind (wpAny_field he hd v1 ?_)
  rw[if_neg (by decide)]
  exact wpAny_pure (k s.heap I x)
 ·exact Zfp I hpn ⟨ha,h0a,oe,vs,a0,he,hc,hd,v0,tr⟩ fun h' I' x'=>k h' I' x'.at_
end
def Zal(K:uFg)(C D:Addr):Option Bool:=if ((PySem.W.clsIn K D).isSome && (PySem.W.typeIn K (.ref D)== some (.type "type")) && (PySem.W.subIn K (.ref D) (.type "BaseException")== some true))=true then PySem.W.subIn K (.ref C) (.ref D) else none
theorem Zro{M:Model}{A:Around}{E:Value->Shared->Prop}{s:Shared}{K:uFg}{a C D:Addr}{oe:Obj}{b:Bool}{Q:Bool->Shared->Prop}(X:K.In s.heap)(he:s.heap.get? a=some oe)(hc:oe.cls = .ref C)(e:Zal K C D=some b)(q:Q b s):wpAny M A (excMatches (.ref a) (.ref D)) Q E s:=by
 unfold Zal at e
 split at e
 ·rename_i z
  simp only[yT] at z
  obtain⟨⟨z0,z1⟩,z2⟩:=z
  have L0:=PySem.W.looks_typeIn (M:=M) X (beq_iff_eq.mp z1)
  have L1:=PySem.W.looks_subIn (M:=M) X (beq_iff_eq.mp z2)
  have L2:=PySem.W.looks_subIn (M:=M) X e
  have LI:PySem.W.Looks M s.heap (isInstance (.ref D) (.type "tuple")) false:=L0.andThen (PySem.W.Looks.of_pure tc_notTuple)
  obtain⟨cdD,hcD⟩:=Option.isSome_iff_exists.mp z0
  have LT:PySem.W.Looks M s.heap (isType (.ref D)) true:=by
   unfold PySem.W.clsIn at hcD
   split at hcD
   ·rename_i c' d' cd' sl' ho
    intro A' Q' E' s' k q
    unfold isType loadHead
    exact wpAny_bind (wpAny_loadPart (k _ _ (X _ _ ho)) (wpAny_pure q))
   ·cases hcD
  have LE:PySem.W.Looks M s.heap (isExcClass (.ref D)) true:=LT.andThen L1
  have Lt:PySem.W.Looks M s.heap (typeOf (.ref a)) (.ref C):=hc▸(PySem.W.Looks.ld he).andThen .now
  obtain⟨h0,g,d,t,os⟩:=s
  unfold excMatches
  refine wpAny_bind (LI.at ?_)
  simp only[zJ,if_false]
  refine wpAny_bind (wpAny_pure ?_)
  simp only[List.forIn_cons,List.forIn_nil]
  refine wpAny_bind (wpAny_bind (wpAny_bind (LE.at ?_)))
  simp only[Bool.not_true,zJ,if_false]
  refine wpAny_pure (wpAny_pure ?_)
  refine wpAny_bind (Lt.at (wpAny_bind (wpAny_bind (wpAny_bind (L2.at ?_)))))
  cases b with
  | true=>simp only[if_true];exact wpAny_pure (wpAny_pure (wpAny_pure q))
  | false=>simp only[zJ,if_false];exact wpAny_pure (wpAny_pure (wpAny_pure q))
 ·cases e
def PH(X:Cx)(hs:List ExceptHandler)(t:Addr->TS):Prop:=∀(a C:Addr)(s:Shared)(σ:St)(H:Hp)(D:Ends),Inv X [] σ H s->XAt X.s₀.heap H s.heap a C->t C D σ H->wpAny (model X.prog X.w) X.A (handleBy (.ref a) X.env hs) (SP X [] D) X.xe s
structure QH (X:Cx) (hs:List ExceptHandler) (t:Addr->TS):Prop where
 h:PH X hs t
def tH0:Addr->TS:=fun _ _ _ _=>False
def Z4r(K:uFg)(Dc:Addr)(ts:TS)(tr:Addr->TS):Addr->TS:=fun C D σ H=>∃b,Zal K C Dc=some b/\if b=true then ts D σ H else tr C D σ H
structure Pl (X:Cx):Prop where
 pn:X.pn = []
 ex:X.ex = []
 stk:X.stack=X.env::X.outer
 fr:X.env.frame=some X.env.locals
section
variable{X:Cx}{x n:Str}{np pos:Pos}{b₀:Stmt}{suite:List Stmt}{rest:List ExceptHandler}{Dc:Addr}{tr:Addr->TS}
theorem Zgo:QH X [] tH0:=⟨fun _ _ _ _ _ _ _ _ h=>h.elim⟩
theorem Zvl{a:Addr}{o:Obj}{D:Ends}{f:Flow}{s:Shared}(ok:X.Ok)(hpn:X.pn = [])(h:SP (X.hnd a o) [] D f s):SP X [] D f s:=by
 cases f with
 | next=>obtain⟨σ,H,I,q⟩:=h;exact⟨σ,H,I.unhnd ok hpn,q⟩
 | brk=>obtain⟨σ,H,I,q⟩:=h;exact⟨σ,H,I.unhnd ok hpn,q⟩
 | cont=>obtain⟨σ,H,I,q⟩:=h;exact⟨σ,H,I.unhnd ok hpn,q⟩
 | ret u=>obtain⟨v,σ,H,I,r,q⟩:=h;exact⟨v,σ,H,I.unhnd ok hpn,r,q⟩
theorem Zej{ts:TS}(p:Pl X)(hm:X.mg x=some (.ref Dc))(hb:∀a o,QSs (X.hnd a o) (b₀::suite) ts)(hr:QH X rest tr)(nm:nB X x .globalImplicit:=by kernel_rfl) :
  QH X (.ExceptHandler (some (.Name x np)) none (b₀::suite) pos::rest) (Z4r X.K Dc ts tr):=⟨by
 have nm:=od nm
 intro a C s σ H D I xa h
 obtain⟨b,eb,h⟩:=h
 obtain⟨ha,h0a,oe,vs,a0,he,hc,hd,v0,_⟩:=id xa
 have J:=I.hnd he ha ⟨vs,hd⟩
 refine wpAny_handleBy_cons (codeAny_handlers_test (Zb0 (X:=X.hnd a oe) J nm.1 hm ?_ nm.2.1)) (by intro q;cases q)
 refine Zro J.kIn he hc eb ?_
 cases b with
 | false=>exact hr.h a C s σ H D I xa h
 | true =>
  refine codeAny_handlers_suite (Zvk I p.pn p.ex p.stk xa fun h' I' xa'=>?_)
  obtain⟨ha',_,oe',vs',_,he',_,hd',_⟩:=xa'
  refine wpAny_mono ((hb a oe').h [] _ σ H D (I'.hnd he' ha' ⟨vs',hd'⟩) h) (fun f s2 q=>Zvl I.ok p.pn q) fun _ _ z=>z.elim⟩
end
end L2
namespace L2
open PySem PySem.Spec PyProof.Rows
def PS0(X:Cx)(st:Stmt)(t:TS):Prop:=∀(s:Shared)(σ:St)(H:Hp)(D:Ends),Inv X [] σ H s->t D σ H->wpAny (model X.prog X.w) X.A (exec st X.env) (SP X [] D) X.xe s
def Z4s(X:Cx)(st:List Stmt)(t:TS):Prop:=∀(s:Shared)(σ:St)(H:Hp)(D:Ends),Inv X [] σ H s->t D σ H->wpAny (model X.prog X.w) X.A (execs st X.env) (SP X [] D) X.xe s
structure QS0 (X:Cx) (st:Stmt) (t:TS):Prop where
 h:PS0 X st t
structure QSs0 (X:Cx) (st:List Stmt) (t:TS):Prop where
 h:Z4s X st t
def Z4t(tb:(St->XK)->TS)(th:Addr->TS):TS:=fun D σ H=>tb (fun σ' c _ H'=>∃C,c = .ref C/\th C D σ' H') D σ H
section
variable{X:Cx}{st:Stmt}{rest body:List Stmt}{t u:TS}{h₀:ExceptHandler}{hs:List ExceptHandler}{tb:(St->XK)->TS}{th:Addr->TS}{pos:Pos}
theorem QS.q0(h:QS X st t):QS0 X st t:=⟨fun s σ H D I q=>h.h [] s σ H D I q⟩
theorem QSs.q0(h:QSs X rest t):QSs0 X rest t:=⟨fun s σ H D I q=>h.h [] s σ H D I q⟩
theorem Ui(h1:QS0 X st t)(h2:QSs0 X rest u):QSs0 X (st::rest) (V2 t u):=⟨by
 intro s σ H D I h
 rw[execs]
 refine wpAny_bind (thn (h1.h s σ H _ I h) fun f s1 q=>?_)
 cases f with
 | next =>
  obtain⟨σ1,H1,I1,q⟩:=q
  exact h2.h s1 σ1 H1 D I1 q
 | brk=>exact wpAny_pure q
 | cont=>exact wpAny_pure q
 | ret u=>exact wpAny_pure q⟩
theorem Zgp(p:Pl X)(hb:∀ (E':Value->Shared->Prop) (EH:St->XK),Xq (X.wish E') EH->QSs (X.wish E') body (tb EH))(hh:QH X (h₀::hs) th):QS0 X (.Try body (h₀::hs) [] [] pos) (Z4t tb th):=⟨by
 intro s σ H D I h
 refine wpAny_Try_except ?_
 have wish:∀{E'} {σ:St}{H:Hp}{s:Shared},Inv X [] σ H s->Inv (X.wish E') [] σ H s:=fun I=>⟨⟨I.ok.mod,I.ok.kind,I.ok.glob,I.ok.blt,I.ok.above,I.ok.inj,I.ok.has,I.ok.cab,I.ok.hd,I.ok.frames,I.ok.stk,I.ok.exf,I.ok.bs,I.ok.bsz,I.ok.noex,I.ok.exfs,I.ok.funs,I.ok.frf⟩,I.os,I.bare,I.base,I.loc,I.cell,I.free,I.freeC,I.pin,I.hok,I.len⟩
 have unw:∀{E'} {σ:St}{H:Hp}{s:Shared}{pins:List (Addr×Obj)},Inv (X.wish E') pins σ H s->Inv X pins σ H s:=fun I=>⟨⟨I.ok.mod,I.ok.kind,I.ok.glob,I.ok.blt,I.ok.above,I.ok.inj,I.ok.has,I.ok.cab,I.ok.hd,I.ok.frames,I.ok.stk,I.ok.exf,I.ok.bs,I.ok.bsz,I.ok.noex,I.ok.exfs,I.ok.funs,I.ok.frf⟩,I.os,I.bare,I.base,I.loc,I.cell,I.free,I.freeC,I.pin,I.hok,I.len⟩
 have hx:Xq (X.wish fun e s₁=>wpAny (model X.prog X.w) X.A (noteFrame e X.env) (fun _ s₂=>wpAny (model X.prog X.w) X.A (setFlight e none) (fun _ s₃=>wpAny (model X.prog X.w) X.A (handleBy e X.env (h₀::hs)) (SP X [] D) X.xe s₃) X.xe s₂) X.xe s₁)
   fun σ' c _ H'=>∃C,c = .ref C/\th C D σ' H':=⟨.inr ⟨p.ex,⟨fun pins σ1 H1 s1 a C I1 x q=>by
  obtain⟨C',eC,q⟩:=q
  cases eC
  have I2:=(unw I1).pins_of (pins':=[]) (fun p hp=>nomatch hp)
  exact Zls I2 p.pn p.ex p.stk p.fr x fun h' J y=>hh.h a C _ σ1 H1 D J y q⟩⟩⟩
 refine wpAny_mono ((hb _ _ hx).h [] s σ H D (wish I) h) (fun f s1 q=>?_) fun _ _ z=>z
 have q':SP X [] D f s1:=by
  cases f with
  | next=>obtain⟨σ,H,I,q⟩:=q;exact⟨σ,H,unw I,q⟩
  | brk=>obtain⟨σ,H,I,q⟩:=q;exact⟨σ,H,unw I,q⟩
  | cont=>obtain⟨σ,H,I,q⟩:=q;exact⟨σ,H,unw I,q⟩
  | ret u=>obtain⟨v,σ,H,I,r,q⟩:=q;exact⟨v,σ,H,unw I,r,q⟩
 cases f with
 | next=>exact wpAny_pure q'
 | brk=>exact q'
 | cont=>exact q'
 | ret u=>exact q'⟩
end
section
variable{P:Program}{w:World}{K:uFg}{mg:Str->Option Value}{base:Heap}
theorem Fun.ok0{x qual:Str}{st:Stmt}{f:Addr}{fd:FuncData}{N ps:List Str}{k:Nat}{sp:Sp}(F:Fun K x qual st f fd)(S:FnScope N ps (Zh st))(len:∀vs H Q E,sp vs H Q E->vs.length=ps.length)(hbody:∀ (cdv:Value) (A:Around) (outer:List Env) (s:Shared) (H:Hp) (vs:List V) (Q:VK) (E:XK),Room k (A.deeper (envOfC qual (Zh st) s.heap.objs.size f cdv))->sp vs H Q E ->
   ∃t,QSs0 (Y6 CX0 P w K mg base N qual (Zh st) f cdv A outer s H E).nox (Y4 st) t/\t {nx:=fun _ H'=>Q .non H',rt:=Q } (start N vs) H):FnOk P w K mg base CX0 (k+1) f fd ps sp:=by
 obtain⟨oc,od,kV,doc,pm,an,cdv,ct,osl,rfl,lk,hcd⟩:=F.ex
 refine⟨len,fun A outer s H args us vs Q E hr e0 hb r hsp=>?_⟩
 have hl:=len _ _ _ _ hsp
 have KX:K.In s.heap:=e0.mod.kin.keeps fun b o e=>(e0.bs b o e).1
 have lim:s.heap.NoLimit:=e0.mod.nolimit.keeps fun b o e=>(e0.bs b o e).1
 have hkind:∀y∈ps.zip us,(Zh st).names.lookup y.1=some .local\/((Zh st).names.lookup y.1=some .cell/\((cellsFrom (s.heap.objs.size+1) (Zh st).names []).lookup y.1).isSome=true):=fun⟨n,v⟩ hy=>by
  rcases S.par n (yZ hy).1 with q | q
  ·exact .inl q
  ·exact .inr ⟨q,PySem.W.cellsFrom_some _ _ _ (.inl q)⟩
 refine codeAny_call_function hr.depth (KX _ _ lk) rfl S.co S.gen rfl (PySem.W.codeRec_of KX hcd) (hb _ _ _ _ ?_)
 refine wpAny_newFunctionEnv_cells S.kind hkind fun env he s1 x=>?_
 subst he
 refine⟨lim.keeps x.toInCall.keep,codeAny_func ?_⟩
 obtain⟨t,ht,hq⟩:=hbody cdv A outer s H vs Q E (hr.deeper _) hsp
 have I0:Inv (Y6 CX0 P w K mg base N qual (Zh st) f cdv A outer s H E) [] (start N vs) H s1:=Zll S hr.hd e0 hl r x
 have I:Inv (Y6 CX0 P w K mg base N qual (Zh st) f cdv A outer s H E).nox [] (start N vs) H s1:=⟨⟨I0.ok.mod,I0.ok.kind,I0.ok.glob,I0.ok.blt,I0.ok.above,I0.ok.inj,I0.ok.has,I0.ok.cab,I0.ok.hd,I0.ok.frames,I0.ok.stk,I0.ok.exf,I0.ok.bs,I0.ok.bsz,I0.ok.noex,I0.ok.exfs,I0.ok.funs,I0.ok.frf⟩,I0.os,I0.bare,I0.base,I0.loc,I0.cell,I0.free,I0.freeC,I0.pin,I0.hok,I0.len⟩
 refine wpAny_mono (ht.h s1 (start N vs) H _ I hq) (fun fl s' hs=>?_) fun e s' hs=>hs.elim
 have fin:∀{σ':St}{H':Hp}{v:V}{u:Value},Inv (Y6 CX0 P w K mg base N qual (Zh st) f cdv A outer s H E).nox [] σ' H' s'->RelV v u->Q v H'->CE outer P w H s Q u s' :=
  fun {σ' H' v u} J rv q=>⟨v,H',J.os,J.bare,J.base,J.hok,rv,q⟩
 cases fl with
 | ret u =>
  obtain⟨v,σ',H',J,rv,q⟩:=hs
  exact fin J rv q
 | next =>
  obtain⟨σ',H',J,q⟩:=hs
  exact fin (v:=V.non) (u:=Value.none) J rfl q
 | brk=>obtain⟨_,_,_,z⟩:=hs;exact z.elim
 | cont=>obtain⟨_,_,_,z⟩:=hs;exact z.elim
theorem Has.fn0{x:Str}{st:Stmt}{N ps:List Str}{k:Nat}{sp:Sp}(h:Has K mg x st)(S:FnScope N ps (Zh st))(hb:∀ (kV doc pm:Value) (an:Option Addr) (cdv ct:Value) (us:List Value),us.length=ps.length->bindArgs (PySem.W.fnOf x x (Vj st) (Y4 st) (Zh st) .none kV doc pm an cdv ct) ⟨us,[]⟩=pure (ps.zip us))(len:∀vs H Q E,sp vs H Q E->vs.length=ps.length)(hbody:∀ (f:Addr) (cdv:Value) (A:Around) (outer:List Env) (s:Shared) (H:Hp) (vs:List V) (Q:VK) (E:XK),Room k (A.deeper (envOfC x (Zh st) s.heap.objs.size f cdv))->sp vs H Q E ->
   ∃t,QSs0 (Y6 CX0 P w K mg base N x (Zh st) f cdv A outer s H E).nox (Y4 st) t/\t {nx:=fun _ H'=>Q .non H',rt:=Q } (start N vs) H):Fn P w K mg base x ps (k+1) sp:=by
 obtain⟨f,fd,F,hm⟩:=h
 exact⟨f,fd,hm,F.kp,F.binds hb,F.ok0 S len (hbody f)⟩
end
theorem Zbj{CX:CXT}{P:Program}{w:World}{K:uFg}{mg:Str->Option Value}{base:Heap}{N:List Str}{qual:Str}{scope:Scope}{f:Addr}{cd:Value}{A:Around}{outer:List Env}{s:Shared}{H:Hp}{E:XK} :
  Pl (Y6 CX P w K mg base N qual scope f cd A outer s H E).nox:=⟨rfl,rfl,rfl,rfl⟩
structure Er (K:uFg) (mg:Str->Option Value) (c:Str->Addr) (errs:List Str):Prop where
 g:∀x,x∈errs->mg x=some (.ref (c x))
 x:∀x,x∈errs->Za0 K (c x)=true
 k:∀x,x∈errs->Zkf K (c x)=true
 m:mg "MootError" = some (.ref (c "MootError"))
 e:∀x,x∈errs->Zal K (c x) (c "MootError")=some true
 s:∀x,x∈errs->∀y,y∈errs->Zal K (c x) (c y)=some (decide (x=y))
 i:∀x,x∈errs->∀y,y∈errs->PySem.W.kitOne K (.ref (c x)) (.ref (c y))=some (decide (x=y))
 v:∀x,x∈errs->PySem.W.kitOne K (.ref (c x)) (.type "ValueError")=some true
theorem Yz{X:Cx}{E:St->XK}{x:Str}{np cpos pos:Pos}{e:Expr}{te:TE}{c:Str->Addr}{es:List Str}(hx:Xp X E)(er:Er X.K X.mg c es)(he:QE X e te)(hm:decide (x∈es)=true:=by kernel_rfl)(n:nB X x .globalImplicit:=by kernel_rfl)(hcl:X.calm=true:=by rfl)(hex:X.ex = []:=by rfl)(hs:starEach [e] X.env = [(false,eval e X.env)]:=by rfl):QS X (.Raise (some (.Call (.Name x np) [e] [] cpos)) none pos) (Zn6 E (c x) te):=Zvj hx hcl hex (er.x x (od hm)) (od n) (er.g x (od hm)) he hs
end L2
end
section
namespace L2
open PySem PySem.Spec PyProof.Rows
section
abbrev lxE(X:Cx)(E:St->XK):Value->Shared->Prop:=fun(e:Value) (s':Shared)=>∃ σ H a C,e = .ref a/\Inv X [] σ H s'/\XAt X.s₀.heap H s'.heap a C/\E σ (.ref C) none H
abbrev Cx.lx(X:Cx)(E:St->XK):Cx:=X.wish (lxE X E)
theorem Zvm{X:Cx}{st:Stmt}{t:TS}{E:St->XK}(p:Pl X)(hx:Xp X E)(h:Xq (X.lx E) E->Xp (X.lx E) E->PassesOwn (model X.prog X.w) X.A X.env (lxE X E)->QS (X.lx E) st t):QS X st t:=⟨by
 intro pins s σ H D I q
 have wish:∀{E'} {σ:St}{H:Hp}{s:Shared}{pins:List (Addr×Obj)},Inv X pins σ H s->Inv (X.wish E') pins σ H s:=fun I=>⟨⟨I.ok.mod,I.ok.kind,I.ok.glob,I.ok.blt,I.ok.above,I.ok.inj,I.ok.has,I.ok.cab,I.ok.hd,I.ok.frames,I.ok.stk,I.ok.exf,I.ok.bs,I.ok.bsz,I.ok.noex,I.ok.exfs,I.ok.funs,I.ok.frf⟩,I.os,I.bare,I.base,I.loc,I.cell,I.free,I.freeC,I.pin,I.hok,I.len⟩
 have unw:∀{E'} {σ:St}{H:Hp}{s:Shared}{pins:List (Addr×Obj)},Inv (X.wish E') pins σ H s->Inv X pins σ H s:=fun I=>⟨⟨I.ok.mod,I.ok.kind,I.ok.glob,I.ok.blt,I.ok.above,I.ok.inj,I.ok.has,I.ok.cab,I.ok.hd,I.ok.frames,I.ok.stk,I.ok.exf,I.ok.bs,I.ok.bsz,I.ok.noex,I.ok.exfs,I.ok.funs,I.ok.frf⟩,I.os,I.bare,I.base,I.loc,I.cell,I.free,I.freeC,I.pin,I.hok,I.len⟩
 have hp:PassesOwn (model X.prog X.w) X.A X.env (lxE X E):=by
  rintro e s' ⟨σ1,H1,a,C,rfl,I1,x1,q1⟩
  refine Zma I1 p.pn p.ex p.stk p.fr x1 fun h2 I2 x2 _=>?_
  obtain⟨ha,h0a,oe,vs,a0,he,hc,hd,v0,T,oT,ts,v3,v1,tr⟩:=id x2
  show wpAny _ _ (field (.ref a) 1 >>= _) _ _ _
  refine wpAny_bind (wpAny_field he hd v1 ?_)
  rw[if_neg (show ¬((Value.ref T == Value.none)=true) from by simp)]
  exact Zfp (s:={s' with heap:=h2 }) I2 p.pn x2 fun h3 I3 x3=>⟨σ1,H1,a,C,rfl,I3,x3.at_,q1⟩
 have hx':Xp (X.lx E) E:=⟨fun pins σ1 H1 s1 a C I1 x1 q1=>by exact⟨σ1,H1,a,C,rfl,(unw I1).pins_of (fun p hp=>nomatch hp),x1,q1⟩⟩
 refine wpAny_mono ((h ⟨.inr ⟨p.ex,hx'⟩⟩ hx' hp).h pins s σ H D (wish I) q) (fun f s1 q=>?_) fun e s1 z=>?_
 ·cases f with
  | next=>obtain⟨σ,H,I,q⟩:=q;exact⟨σ,H,unw I,q⟩
  | brk=>obtain⟨σ,H,I,q⟩:=q;exact⟨σ,H,unw I,q⟩
  | cont=>obtain⟨σ,H,I,q⟩:=q;exact⟨σ,H,unw I,q⟩
  | ret u=>obtain⟨v,σ,H,I,r,q⟩:=q;exact⟨v,σ,H,unw I,r,q⟩
 ·obtain⟨σ1,H1,a,C,rfl,I1,x1,q1⟩:=z
  exact hx.h [] σ1 H1 s1 a C I1 x1 q1⟩
theorem Zc2{X:Cx}{tg iter:Expr}{body:List Stmt}{wi:TI}{g:TG}{t:TS}{pos:Pos}{E:St->XK}(p:Pl X)(hx:Xp X E)(hc:X.calm=true)(hi:QI (X.lx E) tg iter wi)(hg:QG (X.lx E) tg g)(hb:Xq (X.lx E) E->Xp (X.lx E) E->QSs (X.lx E) body t)(hs:∀x,foldedSetIterable iter X.env x=pure x:=by intro _;rfl):QS X (.For tg iter body [] pos) (Zpf wi g t):=Zvm p hx fun hq hp po=>Vf (X:=X.lx E) po hc hi hg (hb hq hp) hs
end
section
def Z0p:List V->Hp->VK->Prop:=fun xs H Q=>∃b:Bool,xs = [.bl b]/\Q (.int (if b then 1 else 0)) H
theorem Zsm{X:Cx}:QC X (.type "int") Z0p:=⟨by
 intro pins s σ H xs us Q I r h
 obtain⟨b,rfl,q⟩:=h
 cases r with
 | cons r1 r =>
  cases r
  obtain rfl:=r1
  exact call_int_bool ⟨.int (if b then 1 else 0),H,I.tok _,⟨_,rfl⟩,q⟩⟩
end
section
section
variable{X:Cx}
end
end
section
section
variable{X:Cx}
end
end
section
end
section
section
variable{P:Program}{w:World}{A:Around}{E:Value->Shared->Prop}{s:Shared}
end
end
section
section
variable{X:Cx}{pins:List (Addr×Obj)}{σ:St}{H:Hp}{s:Shared}
theorem Inv.freeze{d:Addr}{o:Obj}{kvs:List (Key×V)}(I:Inv X pins σ H s)(e:H d=some (.dK kvs))(ho:s.heap.get? d=some o):Inv X pins σ (upd H d (.frz o (.dK kvs))) s:=by
 have h:=I.write (h':=s.heap) (t':=s.toks) (x:=d) (e:=d) (o:=.frz o (.dK kvs)) (by rw[e];exact True.intro) (.inl rfl) (fun _ _ _ q=>q) ⟨o,ho⟩ ⟨ho,?_⟩
 ·exact h
 ·obtain⟨z,y,vs,r,q⟩:=(show ObjOk X.prog X.w H s.heap d (.dK kvs) from I.hok d _ e)
  exact⟨z,y,vs,r,q⟩
theorem Inv.nofrz{d:Addr}{kvs:List (Key×V)}(I:Inv X pins σ H s)(e:H d=some (.dK kvs)):∀o u,X.H₀ d≠some (.frz o u):=fun o u z=>by
 have:=I.base.frzs d o u z
 rw[e] at this;cases this
theorem Inv.thaw{d:Addr}{o:Obj}{kvs:List (Key×V)}(I:Inv X pins σ H s)(e:H d=some (.frz o (.dK kvs)))(nf:∀o u,X.H₀ d≠some (.frz o u)):Inv X pins σ (upd H d (.dK kvs)) s:=by
 have hne:∀b u,H b=some u->(∀x,u ≠ .frz o x)->b≠d:=fun b u q n z=>by rw[z,e] at q;exact n _ (Option.some.inj q).symm
 have hnn:∀b,H b=none->b≠d:=fun b q z=>by rw[z,e] at q;cases q
 refine⟨I.ok,I.os,I.bare,⟨I.base.keep,I.base.slot,fun b ob q n hx=>?_,I.base.there,fun b xs q=>?_,fun b ob u q=>?_,fun b ps q=>?_⟩,I.loc,I.cell,?_,fun x c q=>?_,fun p hp=>?_,fun b u q=>?_,I.len⟩
 ·have:=I.base.free b ob q n hx
  rw[Zc (hnn b this)];exact this
 ·have:=I.base.tups b xs q
  rw[Zc (hne b _ this fun _ z=>nomatch z)];exact this
 ·have:=I.base.frzs b ob u q
  rw[Zc (fun z=>nf ob u (by rw[← z];exact q))];exact this
 ·obtain⟨m,hm⟩:=I.base.tbls b ps q
  exact⟨m,by rw[Zc (hne b _ hm fun _ z=>nomatch z)];exact hm⟩
 ·rw[Zc (hnn _ I.free)];exact I.free
 ·rw[Zc (hnn _ (I.freeC x c q))];exact I.freeC x c q
 ·obtain⟨p1,p2,p3,p4,p5⟩:=I.pin p hp
  exact⟨p1,by rw[Zc (hnn _ p2)];exact p2,p3,p4,p5⟩
 ·by_cases hb:b=d
  ·subst hb
   rw[Zg] at q
   cases q
   obtain⟨_,z,y,vs,r,c⟩:=(show ObjOk X.prog X.w H s.heap b (.frz o (.dK kvs)) from I.hok b _ e)
   exact⟨z,y,vs,r,c⟩
  ·rw[Zc hb] at q
   refine(I.hok b u q).stay (fun _ _ _ z=>z) (fun c z=>?_) fun c xs z=>?_
   ·rw[Zc (hne c _ z fun _ y=>nomatch y)];exact z
   ·rw[Zc (hne c _ z fun _ y=>nomatch y)];exact z
end
section
variable{X:Cx}{e:Expr}{te:TE}
def Z0q(te:TE):TE:=fun σ H Q=>∃d kvs,H d=some (.dK kvs)/\∀o,te σ (upd H d (.frz o (.dK kvs))) fun v H'=>H' d=some (.frz o (.dK kvs))/\Q v (upd H' d (.dK kvs))
theorem Zxm(h:QE X e te):QE X e (Z0q te):=⟨by
 intro pins s σ H Q I q
 obtain⟨d,kvs,ed,q⟩:=q
 obtain⟨z,y,vs,r,o,es,ep,ho,c⟩:=(show ObjOk X.prog X.w H s.heap d (.dK kvs) from I.hok d _ ed)
 have nf:=I.nofrz ed
 exact thn (h.h pins s σ _ _ (I.freeze ed ho) (q o)) fun u s1 ⟨x,H1,I1,r1,e1,q1⟩=>⟨x,_,I1.thaw e1 nf,r1,q1⟩⟩
end
def Itk(d:Addr)(o:Obj)(kvs:List (Key×V)):It :=
 ⟨fun i H=>H d=some (.frz o (.dK kvs))/\i < kvs.length,fun i H v H'=>H'=H/\∃p,kvs[i]? = some p/\v=kV p.1,fun i H=>H d=some (.frz o (.dK kvs))/\kvs.length<=i⟩
theorem Zzh{P:Program}{w:World}{k:Key}{v:Value}(h:(Y8 P w).is k v=true):RelV (kV k) v:=by
 cases k with
 | inl i =>
  cases v<;>first
   | exact absurd (show false=true from h) xH
   | skip
  rename_i j t
  have e:j=i:=by
   have h:(j == i)=true:=h
   exact eq_of_beq h
  exact⟨t,by rw[e]⟩
 | inr x =>
  cases v<;>first
   | exact absurd (show false=true from h) xH
   | skip
  rename_i j t
  have e:j=x:=by
   have h:(j == x)=true:=h
   exact eq_of_beq h
  exact⟨t,by rw[e]⟩
theorem KV.get{κ:Type}:∀{kvs:List (κ×V)}{vs:List (κ×Value)}{i:Nat}{p : κ×V}{q : κ×Value},KV kvs vs->kvs[i]? = some p->vs[i]? = some q->p.1=q.1/\RelV p.2 q.2:=by
 intro kvs vs i p q r
 unfold KV at r
 induction r generalizing i with
 | nil=>intro h;simp at h
 | cons h t ih =>
  intro e1 e2
  cases i with
  | zero =>
   have e1:some _=some p:=e1
   have e2:some _=some q:=e2
   cases e1
   cases e2
   exact h
  | succ i=>exact ih (i:=i) e1 e2
theorem Ztv{P:Program}{w:World}{K:uFg}{tg:Expr}(it d:Addr)(o:Obj)(kvs:List (Key×V))(vs:List (Key×Value))(ep:Nat)(hne:d≠it)(rel:KV kvs vs)(hD:∀h:Heap,h.get? d=some o->h.DictAt (Y8 P w) d vs ep) :
  Turn P w K tg (Itk d o kvs) [it] it (fun i h=>h.IsKeyIter it d i vs.length ep) where
 mem:=by simp
 obj:=fun i h st b hb=>by
  have e:b=it:=by simpa using hb
  subst e
  obtain⟨ob,ho,hc,hd⟩:=st
  exact⟨ob,ho,fun v q=>by rw[hd] at q;cases q⟩
 keep:=fun i h h' st k=>st.at fun ob q=>k it (by simp) ob q
 item:=by
  intro X hP hw hK hc i pins s σ H E I hf st hg
  subst hP hw hK
  obtain⟨f0,f1,f2,f3,f4,f5⟩:=hf it (by simp)
  obtain⟨ed,hi⟩:=hg
  obtain⟨hod,_⟩:=(show ObjOk X.prog X.w H s.heap d (.frz o (.dK kvs)) from I.hok d _ ed)
  have W:=Walks.dictKeys (prog:=X.prog) (w:=X.w) (A:=X.A) (knd:=Y8 X.prog X.w) (I.ok.hd hc) it d hne vs ep
  refine W.item i s _ _ (by rw[← rel.length];exact hi) ⟨st,hD _ hod⟩ fun v h' tk hv st' kk=>?_
  obtain⟨k,x,hx,hk⟩:=hv
  have I1:Inv X pins σ H {s with heap:=h',toks:=tk }:=I.turned (fun b ob hb e=>kk b ob (by simpa using hb) e) f0 f1 f3 f4 f5
  obtain⟨ob,ho,hcl,hdt⟩:=id st'.1
  obtain⟨p,hp⟩:∃p,kvs[i]? = some p:=⟨_,xC hi⟩
  have hpk:p.1=k:=(KV.get rel hp hx).1
  refine⟨_,rfl,Zcb (s:={s with heap:=h',toks:=tk }) (n:="dict_keyiterator") ho hcl hdt (by decide) ⟨kV p.1,H,I1,by rw[hpk];exact Zzh hk,⟨rfl,p,hp,rfl⟩,st'.1,fun b hb=>(hf b hb).1⟩⟩
 done:=by
  intro X hP hw hK hc i pins s σ H E I hf st hg
  subst hP hw hK
  obtain⟨f0,f1,f2,f3,f4,f5⟩:=hf it (by simp)
  obtain⟨ed,hi⟩:=hg
  obtain⟨hod,_⟩:=(show ObjOk X.prog X.w H s.heap d (.frz o (.dK kvs)) from I.hok d _ ed)
  exact wpAny_pyNext_dict_end (I.ok.hd hc) st (hD _ hod) (zM (by rw[← rel.length];exact hi)) fun h' eb=>⟨rfl,I.turned (t':=s.toks) (fun b ob hb e=>eb b ob hb e) f0 f1 f3 f4 f5⟩
 self:=fun _ _ _ _ _ st h=>wpAny_pyIter_keyiter st h
section
variable{X:Cx}{tg l:Expr}{te:TE}
def Z0r(te:TE):TI:=fun σ H R=>te σ H fun x H1=>∃d o kvs,x = .ref d/\H1 d=some (.frz o (.dK kvs))/\R (Itk d o kvs) H1
theorem Zxn(hl:QE X l te):QI X tg l (Z0r te):=⟨by
 intro pins s σ H R I h
 refine thn (hl.h pins s σ H _ I h) fun u s1 ⟨x,H1,I1,r1,d,o,kvs,ex,ed,q⟩=>?_
 subst ex
 obtain rfl:u=Value.ref d:=r1
 obtain⟨hod,z,hsys,vs,rel,o',es,ep,ho',c⟩:=(show ObjOk X.prog X.w H1 s1.heap d (.frz o (.dK kvs)) from I1.hok d _ ed)
 rw[hod] at ho'
 cases ho'
 have hD:∀h:Heap,h.get? d=some o->h.DictAt (Y8 X.prog X.w) d vs ep:=fun h e=>⟨o,es,e,c⟩
 refine wpAny_pyIter_dict hsys (hD _ hod) ?_
 have lt:d < s1.heap.objs.size:=xM hod
 refine⟨s1.heap.objs.size,[s1.heap.objs.size],_,_,H1,rfl,I1.kept (t':=s1.toks) fun b ob e=>xA _ e,Ztv s1.heap.objs.size d o kvs vs ep (yD lt) rel hD,⟨_,xP _ rfl,rfl,rfl⟩,fun b hb=>?_,q⟩
 have e:b=s1.heap.objs.size:=by simpa using hb
 subst e
 exact I1.fpOk (xE _) (I1.hok.fresh (xE _))⟩
end
theorem Ztw{d:Addr}{o:Obj}{kvs:List (Key×V)}{nl:Nat}{fv:St}{g:TG}{tt:TTs}{te:TE}{Q:VK}{H:Hp}(Pv:Nat->List V->Hp->Prop)(h0:Pv 0 [] H)(hn:kvs.length<=1000000)(hl:∀i ys H,i<=kvs.length->Pv i ys H->H d=some (.frz o (.dK kvs)))(hlen:∀i ys H,Pv i ys H->ys.length<=i)(step:∀i p ys H,kvs[i]? = some p->Pv i ys H->Vp nl fv g tt te (kV p.1) H (fun y H'=>Pv (i+1) (ys ++ [y]) H') fun H'=>Pv (i+1) ys H')(hd:∀ys H,Pv kvs.length ys H->∀l,H l=none->Q (.ref l) (upd H l (.lst ys))) :
  Uf (Itk d o kvs) nl fv g tt te Q H:=by
 have hml:(kvs.map fun p=>kV p.1).length=kvs.length:=xB ..
 refine Zc1 (xs:=kvs.map fun p=>kV p.1) Pv h0 (by rw[hml];exact hn) ?_ ?_ ?_ hlen ?_ ?_
 ·intro i H ys hi p
  rw[hml] at hi
  exact⟨hl i ys H (zB hi) p,hi⟩
 ·rintro i H x H' ys hi p ⟨rfl,q,hq,rfl⟩
  exact⟨rfl,by rw[xO,hq];rfl⟩
 ·intro H ys p
  rw[hml] at p ⊢
  exact⟨hl _ ys H (xE _) p,xE _⟩
 ·intro i x ys H hx p
  rw[xO] at hx
  cases e:kvs[i]? with
  | none=>rw[e] at hx;cases hx
  | some q=>rw[e] at hx;cases hx;exact step i q ys H e p
 ·intro ys H p
  rw[hml] at p
  exact hd ys H p
section
variable{X:Cx}
def Zpk(K:uFg):List V->Hp->VK->Prop:=fun xs H Q=>∃(a:Addr)(ns:List Int),xs = [.ref a]/\SqL K H a (ns.map V.int)/\ns ≠ []/\∀m,m∈ns->(∀x∈ns,x<=m)->Q (.int m) H
theorem Zsn{ns:List Int}:∀{us:List Value},Vals (ns.map V.int) us->∃xs:List (Int×Tok),xs.map (·.1)=ns/\us=xs.map fun p=>Value.int p.1 p.2:=by
 induction ns with
 | nil=>intro us r;cases r;exact⟨[],rfl,rfl⟩
 | cons n ns ih =>
  intro us r
  cases r with
  | cons r1 r2 =>
   obtain⟨t,rfl⟩:=r1
   obtain⟨xs,e1,e2⟩:=ih r2
   exact⟨(n,t)::xs,by rw[yE,e1],by rw[yE,e2]⟩
theorem Ztx(hc:X.calm=true):Vd X (.builtin "max") (Zpk X.K):=by
 intro pins s σ H xs us Q I r h
 obtain⟨a,ns,rfl,ha,hne,q⟩:=h
 obtain⟨u,rfl,ru⟩:=Up r
 cases ru
 obtain⟨its,rv,p,_⟩:=I.list ha
 obtain⟨ps,e1,e2⟩:=Zsn rv
 subst e2
 have hl:s.heap.IsList a (intItems ps.toArray):=by
  have:=p.isList
  have e:intItems ps.toArray=(ps.map fun p=>Value.int p.1 p.2).toArray:=by unfold intItems;simp
  rw[e];exact this
 have hps : 0 < ps.toArray.size:=by
  rw[xQ]
  cases ps with
  | nil=>exact absurd e1.symm hne
  | cons x r=>simp
 refine max_intList (I.ok.hd hc) hl hps fun v h' tk hv k=>?_
 obtain⟨b1,b2⟩:=argBest_gt (numAt ps.toArray) (ps.toArray.size - 1)
 generalize argBest (fun i j=>decide (numAt ps.toArray i > numAt ps.toArray j)) (ps.toArray.size - 1)=j at hv b1 b2
 obtain⟨t,rfl⟩:=intItems_at hv
 have num:∀i:Nat,i < ps.length->ns[i]? = some (numAt ps.toArray i):=fun i hi=>by
  rw[← e1,xO]
  unfold numAt
  rw[List.getElem?_toArray,xC hi]
  rfl
 have hsz:ps.toArray.size=ps.length:=xQ ..
 have hnl:ns.length=ps.length:=by rw[← e1,xB]
 refine⟨.int (numAt ps.toArray j),H,I.kept k,⟨t,rfl⟩,q _ (xI (num j (by lia))) fun x hx=>?_⟩
 obtain⟨i,hi⟩:=List.getElem?_of_mem hx
 have hil:i < ps.length:=by have:=(xF.mp hi).1;lia
 rw[num i hil] at hi
 cases hi
 exact b2 i (by lia)
theorem Zso(hc:X.calm=true):QC X (.builtin "max") (Zpk X.K):=⟨Ztx hc⟩
end
end
section
section
variable{X:Cx}{o:Expr}{te:TE}
end
end
section
theorem Zty{J:It}{nl:Nat}{fv:St}{g:TG}{tt:TTs}{te:TE}{Q:VK}{H:Hp}(n:Nat)(f:Nat->Option (List V))(Pv:Nat->List V->Hp->Prop)(h0:Pv 0 [] H)(hn:n<=1000000)(hgo:∀i H ys,i < n->Pv i ys H->J.go i H)(hy:∀i H x H' ys,i < n->Pv i ys H->J.yld i H x H'->∃p us,f i=some us/\x = .ref p/\H p=none/\H'=upd H p (.tup us))(hst:∀H ys,Pv n ys H->J.stop n H)(hlen:∀i ys H,Pv i ys H->ys.length<=i)(step:∀i us p ys H,i < n->f i=some us->Pv i ys H->H p=none->Vp nl fv g tt te (.ref p) (upd H p (.tup us)) (fun y H'=>Pv (i+1) (ys ++ [y]) H') fun H'=>Pv (i+1) ys H')(hd:∀ys H,Pv n ys H->∀l,H l=none->Q (.ref l) (upd H l (.lst ys))) :
  Uf J nl fv g tt te Q H:=by
 have mono:∀{x:V}{H:Hp}{Y Y':V->Hp->Prop}{N N':Hp->Prop},Vp nl fv g tt te x H Y N->Y=Y'->N=N'->Vp nl fv g tt te x H Y' N':=fun h e1 e2=>by subst e1;subst e2;exact h
 refine⟨fun i m ys H=>m=n - i/\i<=n/\Pv i ys H,⟨n,by simp,yJ _,h0⟩,?_⟩
 rintro i m ys H ⟨rfl,hi,p⟩
 have hl:=hlen i ys H p
 have hz:(1000000:Nat) < sizeLine:=by decide
 by_cases hlt:i < n
 ·refine .inr ⟨hgo i H ys hlt p,by lia,n - (i+1),by lia,fun x H' y=>?_⟩
  obtain⟨q,us,hf,rfl,hq,rfl⟩:=hy i H x H' ys hlt p y
  refine mono (step i us q ys H hlt hf p hq) ?_ ?_
  ·funext y H4
   apply propext
   exact⟨fun q=>⟨rfl,hlt,q⟩,fun q=>q.2.2⟩
  ·funext H3
   apply propext
   exact⟨fun q=>⟨rfl,hlt,q⟩,fun q=>q.2.2⟩
 ·have e:i=n:=by lia
  subst e
  exact .inl ⟨hst H ys p,by lia,hd ys H p⟩
theorem Ztz{K:uFg}{l:Addr}{nl:Nat}{fv:St}{g:TG}{tt:TTs}{te:TE}{Q:VK}{H:Hp}(xs:List V)(Pv:Nat->List V->Hp->Prop)(h0:Pv 0 [] H)(hn:xs.length<=1000000)(hl:∀i ys H,i<=xs.length->Pv i ys H->SqL K H l xs)(hlen:∀i ys H,Pv i ys H->ys.length<=i)(step:∀i x p ys H,xs[i]? = some x->Pv i ys H->H p=none->Vp nl fv g tt te (.ref p) (upd H p (.tup [.int i,x])) (fun y H'=>Pv (i+1) (ys ++ [y]) H') fun H'=>Pv (i+1) ys H')(hd:∀ys H,Pv xs.length ys H->∀l,H l=none->Q (.ref l) (upd H l (.lst ys))) :
  Uf (Ite K l) nl fv g tt te Q H:=by
 refine Zty xs.length (fun i=>(xs[i]?).map fun x=>[.int i,x]) Pv h0 hn (fun i H ys hi p=>⟨xs,hl i ys H (zB hi) p,hi⟩) ?_ (fun H ys p=>⟨xs,hl _ ys H (xE _) p,xE _⟩) hlen ?_ hd
 ·rintro i H x H' ys hi p ⟨q,a,rfl,hq,rfl,ha⟩
  exact⟨q,_,by rw[ha xs (hl i ys H (zB hi) p)];rfl,rfl,hq,rfl⟩
 ·intro i us p ys H hi hf hp hq
  obtain⟨x,hx,rfl⟩:=xZ.mp hf
  exact step i x p ys H hx hp hq
end
section
theorem Zmb{K:uFg}{a:Addr}{xs:List V}{nl:Nat}{fv:St}{g:TG}{tt:TTs}{te:TE}{Q:VK}{H:Hp}(Pv:Nat->List V->Hp->Prop)(h0:Pv 0 [] H)(hn:xs.length<=1000000)(hl:∀i ys H,i<=xs.length->Pv i ys H->SqT K H a xs)(hlen:∀i ys H,Pv i ys H->ys.length<=i)(step:∀i x ys H,xs[i]? = some x->Pv i ys H->Vp nl fv g tt te x H (fun y H'=>Pv (i+1) (ys ++ [y]) H') fun H'=>Pv (i+1) ys H')(hd:∀ys H,Pv xs.length ys H->∀l,H l=none->Q (.ref l) (upd H l (.lst ys))) :
  Uf (Itt K a) nl fv g tt te Q H:=by
 refine Zc1 (xs:=xs) Pv h0 hn ?_ ?_ ?_ hlen step hd
 ·intro i H ys hi p
  exact⟨xs,xs[i],hl i ys H (zB hi) p,by simp[hi]⟩
 ·rintro i H x H' ys hi p ⟨rfl,y⟩
  exact⟨rfl,y xs (hl i ys _ (zB hi) p)⟩
 ·intro H ys p
  exact⟨xs,hl _ ys H (xE _) p,xE _⟩
section
variable{X:Cx}
def Zzi(K:uFg):List V->Hp->VK->Prop:=fun xs H Q=>∃p ys,xs = [.ref p]/\((SqL K H p ys/\∀l,H l=none->Q (.ref l) (upd H l (.tup ys)))\/(SqT K H p ys/\Q (.ref p) H))
theorem Zri:QC X (.type "tuple") (Zzi X.K):=⟨Zrn⟩
structure QPs (X:Cx) (pos:Pos) (keys:List (Option Expr)) (values:List Expr) (trs:List (TE×TE)):Prop where
 h:PPs X pos keys values trs
end
end
section
structure InnX (X:Cx) (scope:Scope) (N':List Str) (tg:Expr) (ifs:List Expr) (x:Str) (e:Expr) (es:List Expr) (pos:Pos) (g:TG) (tt:TTs) (t:TA):Prop where
 h:∀(cl:List (Str×Addr))(C:Addr)(s0:Shared)(H0:Hp)(ex:List Addr)(pn:List (Addr×Obj)),QG (ccx X scope cl C N' s0 H0 ex pn) tg g/\QTs (ccx X scope cl C N' s0 H0 ex pn) ifs tt/\QA (ccx X scope cl C N' s0 H0 ex pn) (e::es) t/\Nm (ccx X scope cl C N' s0 H0 ex pn).env.scope x .globalImplicit /\
  starEach (e::es) (ccx X scope cl C N' s0 H0 ex pn).env=(false,eval e (ccx X scope cl C N' s0 H0 ex pn).env)::starEach es (ccx X scope cl C N' s0 H0 ex pn).env/\(backTo pos (starEach es (ccx X scope cl C N' s0 H0 ex pn).env)).any (·.1)=false
section
variable{X:Cx}{tg iter e:Expr}{es ifs:List Expr}{scope:Scope}{pos cpos np:Pos}{locs:List Str}{fr:List (Str×Nat)}{g:TG}{tt:TTs}{t:TA}{x:Str}
end
theorem Zdk{P:Program}{w:World}{K:uFg}{mg:Str->Option Value}{base:Heap}{N:List Str}{qual:Str}{scope:Scope}{f:Addr}{cd:Value}{A:Around}{outer:List Env}{s:Shared}{H:Hp}{E:XK} :
  Pl (Y6 (CXE P w) P w K mg base N qual scope f cd A outer s H E):=⟨rfl,rfl,rfl,rfl⟩
end
end L2
end
section
namespace L2
open PySem PySem.Spec PyProof.Rows PySem.W
def Pm(N:Nat)(p:Array Nat):Prop:=p.toList.Perm (List.range N)
section
variable{s:Shared}{cmp:Nat->Nat->(Bool->Shared->Prop)->Shared->Prop}{r:Nat->Nat}{N:Nat}{p:Array Nat}
end
end L2
namespace L2
structure Weak (lt:Nat->Nat->Bool):Prop where
 irr:∀i,lt i i=false
 tr:∀i j k,lt i j=true->lt j k=true->lt i k=true
 neg:∀i j k,lt i j=true->lt i k=true\/lt k j=true
end L2
namespace L2
open PySem PySem.Spec PyProof.Rows
end L2
namespace L2
open PySem PySem.Spec PyProof.Rows PySem.W
section
variable{prog:Program}{w:World}{A:Around}{E:Value->Shared->Prop}{s:Shared}
end
section
variable{X:Cx}
end
end L2
end
section
namespace L2
open PySem PySem.Spec PyProof.Rows PySem.W
def LL(r:Nat->Nat)(a b:Nat):Prop:=r a < r b\/(r a=r b/\a < b)
structure Tl (N m:Nat) (p:Array Nat):Prop where
 pm:Pm N p
 tl:∀j,m<=j->j < N->p.getD j 0=j
 hd:∀j,j < m->p.getD j 0 < m
section
variable{s:Shared}{cmp:Nat->Nat->(Bool->Shared->Prop)->Shared->Prop}{r:Nat->Nat}{N:Nat}{p:Array Nat}
structure Dn (r:Nat->Nat) (p:Array Nat) (z n:Nat):Prop where
 a:∀i,i+1<=z->LL r (p.getD (i+1) 0) (p.getD i 0)
 b:∀i,i+1=z->r (p.getD (i+1) 0) < r (p.getD i 0)
 c:∀i,z<=i->i+1 < n->r (p.getD i 0)=r (p.getD (i+1) 0)/\p.getD i 0 < p.getD (i+1) 0
end
end L2
end
section
namespace L2
open PySem PySem.Spec PyProof.Rows PySem.W
section
variable{P:Program}{w:World}{K:Frag}{mg:Str->Option Value}{base:Heap}
end
structure LamX (X:Cx) (c P:Addr) (nm:Str):Prop where
 code:X.env.code = .ref c
 hd:CodeHd X.base c P
 blt:X.base.BuiltinsAt X.mg P
 nmq:X.env.qual ++ "<lambda>" = nm
 gl:mainGlobals≠P
section
variable{X:Cx}{pins:List (Addr×Obj)}{σ:St}{H:Hp}{s:Shared}{c P:Addr}{nm:Str}{params:Arguments}{body:Expr}{scope:Scope}{lpos:Pos}
end
end L2
end
section
namespace L2
open PySem PySem.Spec PyProof.Rows PySem.W
section
variable{X:Cx}{pins:List (Addr×Obj)}{σ:St}{H:Hp}{s:Shared}
variable{f:Value}{c' a kS:Addr}{oc:Obj}{vs:List Value}{ks:List Int}{keys:Array Value}{b:Bool}{e e1:Nat}{Pf:PySem.Fin->Shared->Prop}{E:Value->Shared->Prop}
end
end L2
end
section
namespace L2
open PySem PySem.Spec PyProof.Rows PySem.W
section
variable{X:Cx}{c P:Addr}{nm x:Str}{params:Arguments}{body:Expr}{scope:Scope}{lpos p kp kp2 pos:Pos}{e:Expr}{te1 te:TE}{k:Nat}
structure LamOk (X:Cx) (nm x:Str) (params:Arguments) (body:Expr) (scope:Scope) (te:TE):Prop where
 cl:closureFor scope X.env=pure []
 df:defaultsOf params X.env=([],[])
 S:FnScope [x] [x] scope
 bd:∀(pm cv ctv u:Value),bindArgs (kla_fn "<lambda>" nm params body scope [] pm cv ctv) ⟨[u],[]⟩=pure [(x,u)]
 bo:∀(f:Addr)(cv:Value)(A:Around)(s:Shared)(H2:Hp),QE (Y6 CX0 X.prog X.w X.K X.mg X.base [x] nm scope f cv A X.stack s H2 E0) body te
end
end L2
end
section
namespace L2
open PySem PySem.Spec PyProof.Rows PySem.W
/- the library's own look at a code's head (KE.KNestM): a match of its own cost 37,000 objects -/
structure LamB (K:Frag) (mg:Str->Option Value) (c P:Addr):Prop where
 hd:PySem.W.codeHdIn K c P=true
 bm:∃bm o,mg "__builtins__" = some (.ref bm)/\bm≠builtinsNs/\bm≠mainGlobals/\bm≠P/\K.lookup bm=some o/\o.cls = .type "module" /\ o.dict=some builtinsNs/\o.data = .plain
 gl:mainGlobals≠P
section
variable{P:Program}{w:World}{K:uFg}{mg:Str->Option Value}{base:Heap}
end
section
variable{P:Program}{w:World}{K:uFg}{mg:Str->Option Value}{base:Heap}{x nm:Str}{scope:Scope}{f:Addr}{cv:Value}{A:Around}{outer:List Env}{s:Shared}{H:Hp}{E:XK}{pos:Pos}
end
structure Tb where
 c:Addr
 P:Addr
 nm:Str
end L2
namespace L2
open PySem PySem.Spec PyProof.Rows PySem.W
end L2
namespace L2
open PySem PySem.Spec PyProof.Rows PySem.W
section
variable{X:Cx}{a:Expr}{ta:TE}
def Z4u(K:Frag)(ta:TE):TT:=fun σ H Q=>ta σ H fun x H'=>∃k,Zj7 K x H' k/\Q k H'
theorem Zvn(ha:QE X a ta)(he:∀whole,isTrue a X.env whole=(do let v ← whole;standAt a.pos;holding [v] (truthy v))):QT X a (Z4u X.K ta):=⟨Zui ha.h he⟩
end
end L2
end
section
namespace L2
open PySem PySem.Spec PyProof.Rows
section
def erB(K:uFg)(c:Str->Addr)(errs:List Str):Bool :=
 decide (PySem.W.nsIn K mainGlobals "MootError" = some (some (.ref (c "MootError")))) && errs.all fun x=>decide (PySem.W.nsIn K mainGlobals x=some (some (.ref (c x)))) && Za0 K (c x) && Zkf K (c x) && decide (Zal K (c x) (c "MootError")=some true) && decide (PySem.W.kitOne K (.ref (c x)) (.type "ValueError")=some true) &&
  errs.all fun y=>decide (Zal K (c x) (c y)=some (decide (x=y))) && decide (PySem.W.kitOne K (.ref (c x)) (.ref (c y))=some (decide (x=y)))
theorem Z0s{K:uFg}{h:Heap}{mg:Str->Option Value}{c:Str->Addr}{errs:List Str}(X:K.In h)(G:h.Ns mainGlobals mg)(e:erB K c errs=true):Er K mg c errs:=by
 unfold erB at e
 rw[yT,zE] at e
 obtain⟨e0,e⟩:=e
 have e1:∀x,x∈errs->(((((PySem.W.nsIn K mainGlobals x=some (some (.ref (c x)))/\Za0 K (c x)=true)/\Zkf K (c x)=true)/\Zal K (c x) (c "MootError")=some true)/\PySem.W.kitOne K (.ref (c x)) (.type "ValueError")=some true)/\∀y,y∈errs->Zal K (c x) (c y)=some (decide (x=y))/\PySem.W.kitOne K (.ref (c x)) (.ref (c y))=some (decide (x=y))):=fun x hx=>by
  have:=e x hx
  simp only[yT,decide_eq_true_eq,zE] at this
  exact this
 exact⟨fun x hx=>PySem.W.mg_of X G (e1 x hx).1.1.1.1.1,fun x hx=>(e1 x hx).1.1.1.1.2,fun x hx=>(e1 x hx).1.1.1.2,PySem.W.mg_of X G (of_decide_eq_true e0),fun x hx=>(e1 x hx).1.1.2,fun x hx y hy=>((e1 x hx).2 y hy).1,fun x hx y hy=>((e1 x hx).2 y hy).2,fun x hx=>(e1 x hx).1.2⟩
end
section
section
variable{X:Cx}{o:Expr}{to:TE}{name:Str}{apos cpos:Pos}{T id:String}{r:V->List V->Hp->VK->Prop}
theorem Zt0:QM X "list.clear" Znv:=⟨Zus⟩
theorem Zzj(pa:PlainAttrs T)(slot:Slot T name id)(hty:typeOf (.builtin id)=pure (.type "method_descriptor"))(hm:QM X id r)(ho:QE X o to)(hbase:attributeBase o name X.env (eval o X.env)=eval o X.env:=by rfl)(hline:(apos.endLine == cpos.line)=true:=by rfl):QE X (.Call (.Attribute o name apos) [] [] cpos) (Zql X.K T r to):=⟨Zy2 pa slot hty hm.h ho.h hbase hline⟩
end
end
section
section
variable{prog:Program}{w:World}{A:Around}{E:Value->Shared->Prop}
theorem Zlt{it l:Addr}{items:Array Value}(hne:l≠it):∀(n i:Nat)(s:Shared)(Q:List Value->Shared->Prop),s.heap.IsListIter it l i->s.heap.IsList l items->i+n<=items.size ->
  (∀h',h'.IsListIter it l (i+n)->Heap.SameBut it s.heap h'->Q ((items.toList.drop i).take n) {s with heap:=h' })->wpAny (model prog w) A (draw (.ref it) n) Q E s
 | 0,i,s,Q,hit,_,_,hQ=>by
  show wpAny _ _ (pure []) Q E s
  exact wpAny_pure (by simpa using hQ s.heap hit (Heap.SameBut.refl ..))
 | n+1,i,s,Q,hit,ht,hle,hQ=>by
  have hlt:i < items.size:=by lia
  show wpAny _ _ (pyNext (.ref it) >>= _) Q E s
  refine wpAny_bind (wpAny_pyNext_list_item hit ht (x:=items[i]) (by simp[hlt]) fun h₁ hit₁ hs₁=>?_)
  refine wpAny_bind (wpAny_holding (Zlt hne n (i+1) _ _ hit₁ (ht.extBut hs₁.extBut hne) (by lia) fun h₂ hit₂ hs₂=>wpAny_pure ?_))
  have hd:items.toList.drop i=items[i]::items.toList.drop (i+1):=by simp[List.drop_eq_getElem_cons,hlt]
  have:=hQ h₂ (by rw[show i+(n+1)=i+1+n by lia];exact hit₂) (hs₁.trans hs₂)
  rw[hd,zR] at this
  exact this
variable{s:Shared}
theorem Zrc{env:Env}{elts:List Expr}{x1} {pos:Pos}{l:Addr}{items:Array Value}{Q:Unit->Shared->Prop}(hh:A.handled=none) (ht:s.heap.IsList l items)
  (hn:(assignEach elts env).length=items.size) (hstar:(assignEach elts env).findIdx? (·.1)=none)
  (h:∀h',Heap.ExtBut s.heap.objs.size s.heap h'->wpAny (model prog w) A (assignInOrder ((assignEach elts env).map (·.2)) items.toList) Q E {s with heap:=h' }) :
  wpAny (model prog w) A (assign (.Tuple elts x1 pos) env (.ref l)) Q E s:=by
 have hlt:l≠s.heap.objs.size:=by obtain⟨o,ho,_⟩:=ht;exact yD (xM ho)
 rw[assign_Tuple]
 refine wpAny_bind (wpAny_standAt ?_)
 unfold unpack
 rw[hn,hstar]
 refine wpAny_bind (wpAny_holding ?_)
 unfold unpackItems
 refine wpAny_bind ?_
 ·unfold notIterableAtAll
  refine wpAny_bind (wpAny_specialOf ht.typeIs slot_list_iter.lookup ?_)
  refine wpAny_pure ?_
  simp only[zJ,if_false]
  refine wpAny_bind (wpAny_holding (wpAny_pyIter_list ht ?_))
  refine wpAny_bind (wpAny_holding (Zlt hlt items.size 0 _ _ ⟨_,xP _ rfl,rfl,rfl⟩ (ht.push _) (by lia) fun h₁ hit₁ hs₁=>?_))
  have hall:List.take items.size (List.drop 0 items.toList)=items.toList:=by
   rw[List.drop_zero];exact yG (by simp)
  rw[hall]
  rw[if_neg (by simp)]
  have ht₁:h₁.IsList l items:=(ht.push _).extBut hs₁.extBut hlt
  refine wpAny_bind (wpAny_holding (wpAny_pyNext_list_end hh hit₁ ht₁ (by simp) fun h₂ he₂=>?_))
  simp only[Option.isSome_none,zJ,if_false]
  refine wpAny_pure (h h₂ fun b o hb e=>he₂ b o hb (hs₁.extBut b o hb (xA _ e)))
end
section
variable{X:Cx}{pos:Pos}
def Z4v(K:uFg)(n:Nat)(t:TGs):TG:=fun v σ H Q=>∃a xs,v = .ref a/\SqL K H a xs/\xs.length=n/\t xs σ H Q
theorem Zm3{es:List Expr}{k:Nat}{t:TGs}{n:Nat}(hc:X.calm=true)(h:QGs X es t)(hn:(assignEach es X.env).length=n:=by rfl)(hst:(assignEach es X.env).findIdx? (·.1)=none:=by rfl):QG X (.Tuple es k pos) (Z4v X.K n t):=⟨by
 intro pins s σ H v u Q I r hw
 obtain⟨a,xs,e1,hq,hl,hw⟩:=hw
 subst e1
 cases r
 obtain⟨its,rv,⟨o,m,ho,hcl,_,hd⟩,hz⟩:=I.list hq
 refine Zrc (I.ok.hd hc) ⟨o,ho,hcl,m,hd⟩ (by simp[hn,← hl,rv.length]) hst fun h' hx=>?_
 have I1:Inv X pins σ H {s with heap:=h' }:=I.kept (t':=s.toks) fun b o e=>hx b o (yD (xM e)) e
 exact h.h pins _ σ H xs _ Q I1 (by simpa using rv) hw⟩
end
end
end L2
end
namespace Law
open PySem L2
local macro_rules | `(tactic| walk_at "hp")=>`(tactic| first | exact Zg | assumption | (rw[Zc (by first | assumption | (apply Ne.symm;assumption))];walk_at "hp"))
local macro_rules | `(tactic| walk_at "sq")=>`(tactic| first | assumption | exact SqL.of (by walk_at "hp"))
local macro_rules | `(tactic| walk_at "dc")=>`(tactic| first | decide | assumption | lia)
local macro_rules | `(tactic| walk_at "rd1")=>`(tactic| first | refine Z5 ?_ | refine Zt ?_ | refine Yg (fun _=>?_) (fun _=>?_) | refine Yq (fun _=>?_) (fun _=>?_) | refine Zqo (fun _=>?_) (fun _=>?_) | refine⟨_,rfl,?_⟩ | refine⟨_,_,rfl,rfl,?_⟩ | refine⟨(.inr ⟨by decide,by decide⟩:CMul _ _),?_⟩ | refine⟨(⟨by walk_at "dc", by walk_at "dc"⟩:Zj5 _ _),?_⟩ | refine⟨(⟨by decide,by decide,by decide⟩:Zj6 _ _),?_⟩ | refine⟨(show (0:Int) < _ by walk_at "dc"),?_⟩ | refine⟨_,_,_,_,rfl,rfl,(by walk_at "sq"),(by rfl),?_⟩ | refine⟨_,_,_,_,rfl,rfl,(by walk_at "sq"),Zw9 (by lia) (by lia),?_⟩ | refine⟨_,_,_,_,rfl,rfl,(by walk_at "hp"),(by rfl),?_⟩ | refine⟨_,_,rfl,.inl (by walk_at "sq"),?_⟩ | fail "rd")
local macro_rules | `(tactic| walk_at "rd")=>`(tactic| repeat' walk_at "rd1")
def top(i:Nat):Stmt:=PySem.Challenge.pw_forsworn_k35_four_hundred_moments.main.body.getD i (.Pass ⟨0,0,0,0⟩)
structure Txt (mg:Str->Option Value):Prop where
 len:mg "len" = none
 list:mg "list" = none
 range:mg "range" = none
 isinstance:mg "isinstance" = none
 bool:mg "bool" = none
 int:mg "int" = none
 str:mg "str" = none
 tuple:mg "tuple" = none
 zip:mg "zip" = none
 all:mg "all" = none
 max:mg "max" = none
 enumerate:mg "enumerate" = none
 sum:mg "sum" = none
 set:mg "set" = none
 min:mg "min" = none
section
variable{P:Program}{w:World}{K:uFg}{mg:Str->Option Value}{base:Heap}
def isInt:D->Bool
 | .int _=>true
 | _=>false
def Zgb:Sp:=fun vs H Q _=>∃(v:V)(d:D),vs = [v]/\Rep H d v/\Q (.bl (isInt d)) H
abbrev Zg1:Stmt:=top 62
theorem Z0t:FnScope ["_law_found"] ["_law_found"] (Zh Zg1):=fsc
theorem Z0u(Zg2:Has K mg "_law_whole" Zg1)(T:Txt mg):Fn P w K mg base "_law_whole" ["_law_found"] 1 Zgb:=by
 refine Zg2.fnQ Z0t (fun _ _ _ _ _ _=>al1 fun _=>rfl) (fun vs H Q E h=>?_) (fun f cdv A outer s H vs Q E hr h=>?_)
 ·obtain⟨v,d,rfl,_⟩:=h
  rfl
 ·obtain⟨v,d,rfl,r,k⟩:=h
  refine⟨_,(Zf (Zu (Zbb (Z7 Uk T.isinstance V4 (Za (qvN 0) (Za (V5 (v:=.ty "int") T.int Zgx rfl) Zb))) (Zba (Zzc (Z7 Uk T.isinstance V4 (Za (qvN 0) (Za (V5 (v:=.ty "bool") T.bool Zgl rfl) Zb)))))))),?_⟩
  obtain⟨t1,ty1,e1⟩:=isi (K:=K) r "int" (by decide)
  obtain⟨t2,ty2,e2⟩:=isi (K:=K) r "bool" (by decide)
  refine⟨_,rfl,v, "int", t1,_,rfl,ty1,e1,_,rfl,Zqo (fun h1=>?_) (fun h1=>?_)⟩
  ·refine⟨_,rfl,v, "bool", t2,_,rfl,ty2,e2,_,rfl,?_⟩
   have e:(!isI d "bool")=isInt d:=by cases d<;>first | rfl | (simp[isI] at h1)
   rw[e]
   exact k
  ·have e:false=isInt d:=by cases d<;>first | rfl | (simp[isI] at h1)
   rw[e]
   exact k
def Zek(n:Nat):Sp:=fun vs H Q _=>∃(v1 v2:V)(d1 d2:D),vs = [v1,v2]/\Rep H d1 v1/\Rep H d2 v2/\d2.deep<=n/\∀H',Same H H'->Q (.bl (Y7 d1 d2)) H'
abbrev Zc7:Stmt:=top 63
theorem Z0v:FnScope ["_law_found", "_law_due", "_law_one", "_law_other"] ["_law_found", "_law_due"] (Zh Zc7):=fsc
theorem Zlu{n k:Nat}(Uz:Has K mg "_law_same" Zc7)(T:Txt mg)(Zc8:Fn P w K mg base "_law_whole" ["_law_found"] 1 Zgb)(Zet:Fn P w K mg base "_law_same" ["_law_found", "_law_due"] (k+1) (fun vs H Q E=>0 < n/\Zek (n - 1) vs H Q E)):Fn P w K mg base "_law_same" ["_law_found", "_law_due"] (k+2) (Zek n):=by
 refine Uz.fnQ Z0v (fun _ _ _ _ _ _=>al2 fun _ _=>rfl) (fun vs H Q E h=>?_) (fun f cdv A outer s H vs Q E hr h=>?_)
 ·obtain⟨v1,v2,d1,d2,rfl,_⟩:=h
  rfl
 ·obtain⟨v1,v2,d1,d2,rfl,r1,r2,hn,q⟩:=h
  have hk : 1<=k+1:=Nat.le_add_left _ _
  refine⟨_,(Ze (Zp (Zv Zmw (qvN 1) Y9 (Z1 _)) (Zf (Zu (U6 Zmw (qvN 0) Y9 (Z1 _)))) Zo)
 (Ze (Zp (Vh (Z7 Uk T.isinstance V4 (Za (qvN 1) (Za (V5 (v:=.ty "bool") T.bool Zgl rfl) Zb)))) (Zf (Zu (Zbb (Z7 Uk T.isinstance V4 (Za (qvN 0) (Za (V5 (v:=.ty "bool") T.bool Zgl rfl) Zb))) (Zba (U6 Wt (qvN 0) (qvN 1) (Z1 _)))))) Zo)
 (Ze (Zp (Vh (Z7 Uk T.isinstance V4 (Za (qvN 1) (Za (V5 (v:=.ty "int") T.int Zgx rfl) Zb)))) (Zf (Zu (Zbb (Z6 Zc8 (Za (qvN 0) Zb)) (Zba (U6 Wt (qvN 0) (qvN 1) (Z1 _)))))) Zo)
 (Ze (Zp (Vh (Z7 Uk T.isinstance V4 (Za (qvN 1) (Za (V5 (v:=.ty "str") T.str Zpd rfl) Zb)))) (Zf (Zu (Zbb (Z7 Uk T.isinstance V4 (Za (qvN 0) (Za (V5 (v:=.ty "str") T.str Zpd rfl) Zb))) (Zba (U6 Wt (qvN 0) (qvN 1) (Z1 _)))))) Zo)
 (Ze (Zp (QW.pt (Zgz (Zv Zbg (Z7 Uk T.isinstance V4 (Za (qvN 1) (Za (V5 (v:=.ty "list") T.list V9 rfl) Zb))) (Z7 Uk T.isinstance V4 (Za (qvN 0) (Za (V5 (v:=.ty "list") T.list V9 rfl) Zb))) (Z1 _)) (Zgm (Zv Zbg (Z7 Uk T.isinstance V4 (Za (qvN 1) (Za (V5 (v:=.ty "tuple") T.tuple Zf6 rfl) Zb))) (Z7 Uk T.isinstance V4 (Za (qvN 0) (Za (V5 (v:=.ty "tuple") T.tuple Zf6 rfl) Zb))) (Z1 _))))) (Zf (Zu Vq)) Zo)
 (Ze (Zp (Zv Zbg (Z7 Wl T.len Y0 (Za (qvN 0) Zb)) (Z7 Wl T.len Y0 (Za (qvN 1) Zb)) (Z1 _)) (Zf (Zu Vq)) Zo)
 (Ze (Vf PassesOwn.never rfl (Zze T.zip (Za (qvN 0) (Za (qvN 1) Zb))) (Zn1 (by rfl) (Wk (Yt 2) (Wk (Yt 3) Zaq)))
 (Zf (Zp (Vg (Vh (Z6 Zet (Za (qvN 2) (Za (qvN 3) Zb))))) (Zf (Zu Vq)) Zo)))
 (Zf (Zu Vq))))))))),?_⟩
  have q0:Q (.bl (Y7 d1 d2)) H:=q H (Same.refl _)
  obtain⟨tb2,yb2,eb2⟩:=isi (K:=K) r2 "bool" (by decide)
  obtain⟨ti2,yi2,ei2⟩:=isi (K:=K) r2 "int" (by decide)
  obtain⟨ts2,ys2,es2⟩:=isi (K:=K) r2 "str" (by decide)
  obtain⟨tl2,yl2,el2⟩:=isi (K:=K) r2 "list" (by decide)
  obtain⟨tt2,yt2,et2⟩:=isi (K:=K) r2 "tuple" (by decide)
  obtain⟨tb1,yb1,eb1⟩:=isi (K:=K) r1 "bool" (by decide)
  obtain⟨ts1,ys1,es1⟩:=isi (K:=K) r1 "str" (by decide)
  obtain⟨tl1,yl1,el1⟩:=isi (K:=K) r1 "list" (by decide)
  obtain⟨tt1,yt1,et1⟩:=isi (K:=K) r1 "tuple" (by decide)
  refine⟨_,rfl,rfl,_,rfl,?_⟩
  rw[r2.none_iff]
  cases d2 with
  | non =>
   refine Z5 ⟨_,rfl,rfl,?_⟩
   rw[r1.none_iff]
   cases d1<;>exact q0
  | bl b2 =>
   refine Zt ?_
   refine⟨_,rfl,v2, "bool", tb2,_,rfl,yb2,eb2,_,rfl,Z5 ?_⟩
   refine⟨_,rfl,v1, "bool", tb1,_,rfl,yb1,eb1,_,rfl,?_⟩
   cases r2
   cases d1 with
   | bl b1 =>
    cases r1
    refine Z5 ⟨_,rfl,_,rfl,rfl,?_⟩
    rw[Zgh]
    exact q0
   | non=>exact Zt q0
   | int _=>exact Zt q0
   | str _=>exact Zt q0
   | tup _=>exact Zt q0
   | lst _=>exact Zt q0
  | int i2 =>
   refine Zt ?_
   refine⟨_,rfl,v2, "bool", tb2,_,rfl,yb2,eb2,_,rfl,Zt ?_⟩
   refine⟨_,rfl,v2, "int", ti2,_,rfl,yi2,ei2,_,rfl,Z5 ?_⟩
   refine⟨_,rfl,v1,d1,rfl,r1,_,rfl,?_⟩
   cases r2
   cases d1 with
   | int i1 =>
    cases r1
    refine Z5 ⟨_,rfl,_,rfl,rfl,?_⟩
    rw[Zf2]
    exact q0
   | non=>exact Zt q0
   | bl _=>exact Zt q0
   | str _=>exact Zt q0
   | tup _=>exact Zt q0
   | lst _=>exact Zt q0
  | str x2 =>
   refine Zt ?_
   refine⟨_,rfl,v2, "bool", tb2,_,rfl,yb2,eb2,_,rfl,Zt ?_⟩
   refine⟨_,rfl,v2, "int", ti2,_,rfl,yi2,ei2,_,rfl,Zt ?_⟩
   refine⟨_,rfl,v2, "str", ts2,_,rfl,ys2,es2,_,rfl,Z5 ?_⟩
   refine⟨_,rfl,v1, "str", ts1,_,rfl,ys1,es1,_,rfl,?_⟩
   cases r2
   cases d1 with
   | str x1 =>
    cases r1
    refine Z5 ⟨_,rfl,_,rfl,rfl,?_⟩
    rw[Zf3]
    exact q0
   | non=>exact Zt q0
   | bl _=>exact Zt q0
   | int _=>exact Zt q0
   | tup _=>exact Zt q0
   | lst _=>exact Zt q0
  | lst ds2 =>
   refine Zt ?_
   refine⟨_,rfl,v2, "bool", tb2,_,rfl,yb2,eb2,_,rfl,Zt ?_⟩
   refine⟨_,rfl,v2, "int", ti2,_,rfl,yi2,ei2,_,rfl,Zt ?_⟩
   refine⟨_,rfl,v2, "str", ts2,_,rfl,ys2,es2,_,rfl,Zt ?_⟩
   refine⟨_,rfl,v2, "list", tl2,_,rfl,yl2,el2,_,rfl,v1, "list", tl1,_,rfl,yl1,el1,rfl,_,rfl,?_⟩
   have ne1:∀{A B:Prop},B->if (!decide (V.bl true=V.bl true))=true then A else B:=fun h=>Yq (fun z=>absurd rfl z) fun _=>h
   have ne2:∀{A B:Prop},B->if (!decide (V.bl false=V.bl false))=true then A else B:=fun h=>Yq (fun z=>absurd rfl z) fun _=>h
   have nt1:∀{A B:Prop},A->if (!decide (V.bl true=V.bl false))=true then A else B:=fun h=>Yq (fun _=>h) fun z=>by cases z
   have nt2:∀{A B:Prop},A->if (!decide (V.bl false=V.bl true))=true then A else B:=fun h=>Yq (fun _=>h) fun z=>by cases z
   have two:∀{R:Prop},R->R:=id
   cases d1 with
   | lst ds1 =>
    refine ne1 ?_
    refine⟨_,rfl,v2, "tuple", tt2,_,rfl,yt2,et2,_,rfl,v1, "tuple", tt1,_,rfl,yt1,et1,rfl,_,rfl,?_⟩
    refine ne2 ?_
    obtain⟨a1,vs1,rfl,g1,p1⟩:=r1
    obtain⟨a2,vs2,rfl,g2,p2⟩:=r2
    refine⟨_,rfl,a1,vs1,rfl,.inl (SqL.of g1),_,rfl,a2,vs2,rfl,.inl (SqL.of g2),rfl,_,rfl,Yq (fun hne=>?_) (fun heq=>?_)⟩
    ·have:ds1.length≠ds2.length:=fun z=>hne (by rw[p1.length,p2.length,z])
     have e:Y7 (.lst ds1) (.lst ds2)=false:=by rw[Y7];exact Zkn this
     rw[e] at q0
     exact q0
    ·have hl:vs1.length=vs2.length:=by injection heq with z;lia
     have hl1:=p1.length
     have hl2:=p2.length
     refine⟨_,rfl,_,rfl,a1,a2,rfl,.inl ⟨vs1,vs2,SqL.of g1,SqL.of g2,?_⟩⟩
     refine Zl7 vs1 vs2 hl (fun i σ H'=>Same H H'/\∃w3 w4,σ = [some (.ref a1),some (.ref a2),w3,w4]/\Ww (ds1.take i) (ds2.take i)=true) ⟨Same.refl _,none,none,rfl,rfl⟩ (fun i σ H' _ ⟨sm,_⟩=>⟨SqL.of (sm _ _ g1),SqL.of (sm _ _ g2)⟩) ?_ ?_
     ·rintro i x y p σ H' hx hy ⟨sm,w3,w4,rfl,hs⟩ hp
      obtain⟨dx,ex,rx⟩:=p1.get hx
      obtain⟨dy,ey,ry⟩:=p2.get hy
      have sm':=sm.trans (Same.new (o:=.tup [x,y]) hp)
      have dd:=Zfx ey
      have hn':Zar ds2+1<=n:=hn
      refine⟨p,_,rfl,SqT.of Zg,rfl,x,[y],rfl,y,[],rfl,rfl,?_⟩
      refine⟨_,rfl,_,rfl,by lia,x,y,dx,dy,rfl,rx.mono' sm',ry.mono' sm',by lia,fun H2 sm2=>⟨_,rfl,Zgy (fun hf=>?_) (fun ht=>?_)⟩⟩
      ·have e:Y7 (.lst ds1) (.lst ds2)=false:=by rw[Y7];exact Zkp ex ey hf
       have qq:=q H2 (sm'.trans sm2)
       rw[e] at qq
       exact qq
      ·exact⟨sm'.trans sm2,_,_,rfl,by rw[Zk6 ex ey,hs,ht];rfl⟩
     ·rintro σ H' ⟨sm,w3,w4,rfl,hs⟩
      have e:Y7 (.lst ds1) (.lst ds2)=true:=by
       rw[Y7]
       rw[yG (by lia),yG (by lia)] at hs
       exact hs
      have qq:=q H' sm
      rw[e] at qq
      exact qq
   | tup _=>exact nt1 (Z5 q0)
   | non=>exact nt1 (Z5 q0)
   | bl _=>exact nt1 (Z5 q0)
   | int _=>exact nt1 (Z5 q0)
   | str _=>exact nt1 (Z5 q0)
  | tup ds2 =>
   refine Zt ?_
   refine⟨_,rfl,v2, "bool", tb2,_,rfl,yb2,eb2,_,rfl,Zt ?_⟩
   refine⟨_,rfl,v2, "int", ti2,_,rfl,yi2,ei2,_,rfl,Zt ?_⟩
   refine⟨_,rfl,v2, "str", ts2,_,rfl,ys2,es2,_,rfl,Zt ?_⟩
   refine⟨_,rfl,v2, "list", tl2,_,rfl,yl2,el2,_,rfl,v1, "list", tl1,_,rfl,yl1,el1,rfl,_,rfl,?_⟩
   have ne1:∀{A B:Prop},B->if (!decide (V.bl true=V.bl true))=true then A else B:=fun h=>Yq (fun z=>absurd rfl z) fun _=>h
   have ne2:∀{A B:Prop},B->if (!decide (V.bl false=V.bl false))=true then A else B:=fun h=>Yq (fun z=>absurd rfl z) fun _=>h
   have nt1:∀{A B:Prop},A->if (!decide (V.bl true=V.bl false))=true then A else B:=fun h=>Yq (fun _=>h) fun z=>by cases z
   have nt2:∀{A B:Prop},A->if (!decide (V.bl false=V.bl true))=true then A else B:=fun h=>Yq (fun _=>h) fun z=>by cases z
   have two:∀{R:Prop},R->R:=id
   cases d1 with
   | tup ds1 =>
    refine ne2 ?_
    refine⟨_,rfl,v2, "tuple", tt2,_,rfl,yt2,et2,_,rfl,v1, "tuple", tt1,_,rfl,yt1,et1,rfl,_,rfl,?_⟩
    refine ne1 ?_
    obtain⟨a1,vs1,rfl,g1,p1⟩:=r1
    obtain⟨a2,vs2,rfl,g2,p2⟩:=r2
    refine⟨_,rfl,a1,vs1,rfl,.inr (SqT.of g1),_,rfl,a2,vs2,rfl,.inr (SqT.of g2),rfl,_,rfl,Yq (fun hne=>?_) (fun heq=>?_)⟩
    ·have:ds1.length≠ds2.length:=fun z=>hne (by rw[p1.length,p2.length,z])
     have e:Y7 (.tup ds1) (.tup ds2)=false:=by rw[Y7];exact Zkn this
     rw[e] at q0
     exact q0
    ·have hl:vs1.length=vs2.length:=by injection heq with z;lia
     have hl1:=p1.length
     have hl2:=p2.length
     refine⟨_,rfl,_,rfl,a1,a2,rfl,.inr ⟨vs1,vs2,SqT.of g1,SqT.of g2,?_⟩⟩
     refine Zl7 vs1 vs2 hl (fun i σ H'=>Same H H'/\∃w3 w4,σ = [some (.ref a1),some (.ref a2),w3,w4]/\Ww (ds1.take i) (ds2.take i)=true) ⟨Same.refl _,none,none,rfl,rfl⟩ (fun i σ H' _ ⟨sm,_⟩=>⟨SqT.of (sm _ _ g1),SqT.of (sm _ _ g2)⟩) ?_ ?_
     ·rintro i x y p σ H' hx hy ⟨sm,w3,w4,rfl,hs⟩ hp
      obtain⟨dx,ex,rx⟩:=p1.get hx
      obtain⟨dy,ey,ry⟩:=p2.get hy
      have sm':=sm.trans (Same.new (o:=.tup [x,y]) hp)
      have dd:=Zfx ey
      have hn':Zar ds2+1<=n:=hn
      refine⟨p,_,rfl,SqT.of Zg,rfl,x,[y],rfl,y,[],rfl,rfl,?_⟩
      refine⟨_,rfl,_,rfl,by lia,x,y,dx,dy,rfl,rx.mono' sm',ry.mono' sm',by lia,fun H2 sm2=>⟨_,rfl,Zgy (fun hf=>?_) (fun ht=>?_)⟩⟩
      ·have e:Y7 (.tup ds1) (.tup ds2)=false:=by rw[Y7];exact Zkp ex ey hf
       have qq:=q H2 (sm'.trans sm2)
       rw[e] at qq
       exact qq
      ·exact⟨sm'.trans sm2,_,_,rfl,by rw[Zk6 ex ey,hs,ht];rfl⟩
     ·rintro σ H' ⟨sm,w3,w4,rfl,hs⟩
      have e:Y7 (.tup ds1) (.tup ds2)=true:=by
       rw[Y7]
       rw[yG (by lia),yG (by lia)] at hs
       exact hs
      have qq:=q H' sm
      rw[e] at qq
      exact qq
   | lst _=>exact nt2 (Z5 q0)
   | non=>exact ne2 ⟨_,rfl,v2, "tuple", tt2,_,rfl,yt2,et2,_,rfl,v1, "tuple", tt1,_,rfl,yt1,et1,rfl,_,rfl,nt1 q0⟩
   | bl _=>exact ne2 ⟨_,rfl,v2, "tuple", tt2,_,rfl,yt2,et2,_,rfl,v1, "tuple", tt1,_,rfl,yt1,et1,rfl,_,rfl,nt1 q0⟩
   | int _=>exact ne2 ⟨_,rfl,v2, "tuple", tt2,_,rfl,yt2,et2,_,rfl,v1, "tuple", tt1,_,rfl,yt1,et1,rfl,_,rfl,nt1 q0⟩
   | str _=>exact ne2 ⟨_,rfl,v2, "tuple", tt2,_,rfl,yt2,et2,_,rfl,v1, "tuple", tt1,_,rfl,yt1,et1,rfl,_,rfl,nt1 q0⟩
theorem Zsp{k:Nat}(Uz:Has K mg "_law_same" Zc7):Fn P w K mg base "_law_same" ["_law_found", "_law_due"] k (fun _ _ _ _=>False):=by
 obtain⟨f,fd,F,hm⟩:=Uz
 exact⟨f,fd,hm,F.kp,F.binds fun _ _ _ _ _ _ us hl=>match us,hl with | [_,_],_=>rfl,⟨fun _ _ _ _ h=>h.elim,fun _ _ _ _ _ _ _ _ _ _ _ _ _ h=>h.elim⟩⟩
theorem Zpl(Uz:Has K mg "_law_same" Zc7)(T:Txt mg)(Zc8:Fn P w K mg base "_law_whole" ["_law_found"] 1 Zgb):∀n:Nat,Fn P w K mg base "_law_same" ["_law_found", "_law_due"] (n+2) (Zek n)
 | 0=>Zlu (k:=0) Uz T Zc8 ((Zsp Uz).imp fun _ _ _ _ h=>absurd h.1 (zH _))
 | n+1=>Zlu (k:=n+1) Uz T Zc8 ((Zpl Uz T Zc8 n).imp fun _ _ _ _ h=>h.2)
end
section
variable{P:Program}{w:World}{K:uFg}{mg:Str->Option Value}{base:Heap}
def Zpm(K:uFg):Sp:=fun vs H Q _=>∃(a:Addr)(ns:List Int),vs = [.ref a]/\SqL K H a (ns.map V.int)/\∀(s la:Addr)(H':Hp),H s=none->H la=none->SrcAt H' s la->Same H H'->Q (.ref s) H'
abbrev Zg3:Stmt:=top 60
theorem Z0w:FnScope ["_law_script"] ["_law_script"] (Zh Zg3):=fsc
theorem Z0x(Zg4:Has K mg "_law_src" Zg3)(T:Txt mg):Fn P w K mg base "_law_src" ["_law_script"] 1 (Zpm K):=by
 refine Zg4.fnQ Z0w (fun _ _ _ _ _ _=>al1 fun _=>rfl) (fun vs H Q E h=>?_) (fun f cdv A outer s H vs Q E hr h=>?_)
 ·obtain⟨a,ns,rfl,_⟩:=h
  rfl
 ·obtain⟨a,ns,rfl,hS,k⟩:=h
  refine⟨_,(Zf (Zu (Zy (Za (Uy Zbi T.list V9 (Za (Zbe Zfw (qvN 0) Zbc (Zbd Zd)) Zb)) (Za Zd (Za Zd (Za Zd (Za Zd Zb)))))))),?_⟩
  refine⟨_,rfl,_,rfl,a,_,rfl,hS,fun l hl=>?_⟩
  have hc:∃ms:List Int,Ux (ns.map V.int) none (some 63)=ms.map V.int:=by
   unfold Ux
   rw[← List.map_drop,← List.map_take]
   exact⟨_,rfl⟩
  obtain⟨ms,ec⟩:=hc
  refine⟨l,_,rfl,.inl (SqL.of Zg),fun l2 hl2=>⟨by show 5<=sizeLine;decide,fun s hs=>?_⟩⟩
  have n1:l2≠l:=fun z=>by rw[z,Zg] at hl2;cases hl2
  have s1:Same H (upd H l (.lst (Ux (ns.map V.int) none (some 63)))):=Same.new hl
  have s2:=s1.trans (Same.new (o:=.lst (Ux (ns.map V.int) none (some 63))) hl2)
  have n2:l2≠s:=fun z=>by rw[← z,Zg] at hs;cases hs
  refine k s l2 _ (s2.free hs) (s1.free hl2) ⟨ms,0,0,1,0,Zg,by rw[Zc n2,Zg,ec],by decide,n2⟩ (s2.trans (Same.new hs))
def Zc5:Sp:=fun vs H Q _=>∃(s la:Addr)(b:Int),vs = [.ref s,.int b]/\SrcAt H s la/\0 < b/\b < 1073741824/\∀(d:Int)(H':Hp),0<=d->d < b->SrcAt H' s la->SameX s H H'->Q (.int d) H'
abbrev Zg5:Stmt:=top 61
theorem Z0y:FnScope ["_law_src_here", "_law_base", "_law_cell", "_law_digit"] ["_law_src_here", "_law_base"] (Zh Zg5):=fsc
theorem Z0z(Zg6:Has K mg "_law_next" Zg5)(T:Txt mg):Fn P w K mg base "_law_next" ["_law_src_here", "_law_base"] 1 Zc5:=by
 refine Zg6.fnQ Z0y (fun _ _ _ _ _ _=>al2 fun _ _=>rfl) (fun vs H Q E h=>?_) (fun f cdv A outer s H vs Q E hr h=>?_)
 ·obtain⟨s,la,b,rfl,_⟩:=h
  rfl
 ·obtain⟨s,la,b,rfl,⟨ns,i,big,st,cnt,hs,hla,hi,hne⟩,hb0,hb1,k⟩:=h
  refine⟨_,(Ze (Zap (Zz Vy (Zl Yu (qvN 0) Zd (fun _ _=>rfl)) Zd) (Zb6 (qvN 0) Zd Zbw))
 (Ze (Zp (Zv Wa (Zl Yu (qvN 0) Zd (fun _ _=>rfl)) Zd (Z1 _)) (Ze (Z4 2 Zd)
 (Ze (Zp (Zv Zaa (Zl Yu (qvN 0) Zd (fun _ _=>rfl)) (Z7 Wl T.len Y0 (Za (Zl Yu (qvN 0) Zd (fun _ _=>rfl)) Zb)) (Z1 _)) (Ze (Z4 2 (Zl Yu (Zl Yu (qvN 0) Zd (fun _ _=>rfl)) (Zl Yu (qvN 0) Zd (fun _ _=>rfl)) (fun _ _=>rfl)))
 (Zf (Zap (Zz Vy (Zl Yu (qvN 0) Zd (fun _ _=>rfl)) Zd) (Zb6 (qvN 0) Zd Zbw)))) Zo)
 (Ze (Zap (Zz Zbf (Zz Vy (Zz Vy (Zz Zmv (Zl Yu (qvN 0) Zd (fun _ _=>rfl)) Zd) (Zz Zbf (qvN 2) Zd)) (Zl Yu (qvN 0) Zd (fun _ _=>rfl))) Zd) (Zb6 (qvN 0) Zd Zbw))
 (Zf (Zp (Zv Zab (qvN 2) (Zz Zxc Zd Zd) (Z1 _)) (Zf (Zap (qvN 2) (Zb6 (qvN 0) Zd Zbw))) Zo))))) Zo)
 (Ze (Zp (Zv Zn3 (Zl Yu (qvN 0) Zd (fun _ _=>rfl)) Zd (Z1 _)) (Ze (Z4 3 (Zz Zbf (Zl Yu (qvN 0) Zd (fun _ _=>rfl)) (qvN 1)))
 (Ze (Zap (Zz Zdu (Zl Yu (qvN 0) Zd (fun _ _=>rfl)) (qvN 1)) (Zb6 (qvN 0) Zd Zbw))
 (Zf (Zu (qvN 3))))) Zo)
 (Zf (Zu (Zz Zbf (Zz Zdu (Zz Zbf (Zz Zmv (Zl Yu (qvN 0) Zd (fun _ _=>rfl)) Zd) Zd) Zd) (qvN 1))))))),?_⟩
  have fin:∀(H1:Hp)(i' big st cnt d:Int),0<=d->d < b->SameX s H H1->H1 s=some (.lst [.ref la,.int i',.int big,.int st,.int cnt])->0<=i'->Q (.int d) H1:=fun H1 i' big st cnt d h0 h1 sx hs1 hi1 =>
   k d H1 h0 h1 ⟨ns,i',big,st,cnt,hs1,sx _ _ hne hla,hi1,hne⟩ sx
  walk_at "rd"
  all_goals refine fin _ _ _ _ _ _ (Int.emod_nonneg _ (by lia)) (Int.emod_lt_of_pos _ hb0) ?_ Zg (by lia)
  all_goals repeat (first | exact SameX.refl | refine SameX.trans ?_ SameX.upd)
end
section
variable{P:Program}{w:World}{K:uFg}{mg:Str->Option Value}{base:Heap}
def Zgq:Sp:=fun vs H Q _=>∃(s la:Addr)(n:Int),vs = [.ref s,.int n]/\SrcAt H s la/\0<=n/\n<=100/\∀(x:Str)(H':Hp),(x.length:Int)=n->Low x->SrcAt H' s la->SameX s H H'->Q (.str x) H'
theorem Zrx(cl:List Nat):(List.map cs (cl.map fun c=>(⟨#[c]⟩:Str))).flatten=cl:=by
 induction cl with
 | nil=>rfl
 | cons c r ih=>rw[yE,yE,zP,ih];rfl
abbrev Zc9:Stmt:=top 65
theorem Zpn:FnScope ["_law_src_here", "_law_many", "_law_letters"] ["_law_src_here", "_law_many"] (Zh Zc9):=fsc
theorem Nq1:Nm (Zh Zc9) "_law_letters" .cell:=by decide +kernel
theorem Nq2:Nm (Zh Zc9) "_law_src_here" .cell:=by decide +kernel
theorem Z00(Zg7:Has K mg "_law_word" Zc9)(T:Txt mg)(V6:Fn P w K mg base "_law_next" ["_law_src_here", "_law_base"] 1 Zc5):Fn P w K mg base "_law_word" ["_law_src_here", "_law_many"] 2 Zgq:=by
 refine Zg7.fnQ Zpn (fun _ _ _ _ _ _=>al2 fun _ _=>rfl) (fun vs H Q E h=>?_) (fun f cdv A outer s H vs Q E hr h=>?_)
 ·obtain⟨s,la,n,rfl,_⟩:=h
  rfl
 ·obtain⟨s,la,n,rfl,hsrc,hn0,hn1,k⟩:=h
  refine⟨_,(Ze (Zvb (i:=2) Zpn.nd Nq1 Zn)
 (Zf (Zu (Wf F.plainAttrs_str F.slot_str_join F.type_str_join Zvd Zn (Za (Ur (locs:=["_law_k"]) (fr:=[("_law_src_here", 0),("_law_letters", 2)]) ⟨rfl,by decide +kernel,by decide +kernel,by decide +kernel,by decide +kernel,by decide +kernel⟩ (.consN Nq2 (.consN Nq1 .nil)) rfl (Zcx T.range (Za (qvN 1) Zb)) ⟨fun _ _ _ _ _ _=>by
  have cnd:(inN ["_law_k"] [("_law_src_here", 0),("_law_letters", 2)]).Nodup:=by decide +kernel
  exact⟨(Vw 0 cnd),Zb2,(Zl Zf9 (Zbp 2) (Z6 V6 (Za (Zbp 1) (Za Zd Zb)) (n:=nmC)) (fun _ _=>rfl))⟩⟩) Zb))))),?_⟩
  refine⟨rfl,_,rfl,n,rfl,by lia,by lia,?_⟩
  refine Zsg (n:=n.toNat) (fun i ys H2=>SrcAt H2 s la/\SameX s H H2/\∃cl:List Nat,cl.length=i/\ys=cl.map (fun c=>V.str ⟨#[c]⟩)/\∀c∈cl,97<=c/\c<=122) ⟨hsrc,SameX.refl,[],rfl,rfl,(fun _ z=>nomatch z)⟩ (by lia) ?_ ?_ ?_
  ·rintro i ys H2 ⟨_,_,cl,h1,rfl,_⟩
   rw[xB];lia
  ·rintro i ys H2 hi ⟨hs2,sx2,cl,h1,rfl,hc⟩ ls hls
   obtain⟨a,rfl⟩:=Zch hls
   refine⟨⟨[_],rfl,rfl⟩,?_⟩
   walk_at "rd"
   refine⟨s,la,26,rfl,hs2,by decide,by decide,fun d H3 d0 d1 hs3 sx3=>?_⟩
   refine⟨letters,d,_,rfl,rfl,by decide,Zfk d0 d1,hs3,sx2.trans sx3,cl ++ [97+d.toNat],by rw[xN,h1];rfl,by rw[xV];rfl,fun c hc'=>?_⟩
   rcases xJ.mp hc' with z | z
   ·exact hc c z
   ·have:c=97+d.toNat:=by simpa using z
    lia
  ·rintro ys H2 ⟨hs2,sx2,cl,h1,rfl,hc⟩ l hl
   have e:(cl.map fun c=>V.str ⟨#[c]⟩)=(cl.map fun c=>(⟨#[c]⟩:Str)).map V.str:=by rw[List.map_map];rfl
   have sumlen:∀l:List Nat,((l.map fun c=>(⟨#[c]⟩:Str)).map (·.length)).sum=l.length:=by
    intro l
    induction l with
    | nil=>rfl
    | cons c r ih=>rw[yE,yE,List.sum_cons,ih,xU];show 1+r.length=_;lia
   refine⟨_,l,cl.map fun c=>(⟨#[c]⟩:Str),rfl,rfl,SqL.of (by rw[Zg,e]),?_,?_⟩
   ·rw[sumlen,xB]
    show cl.length+cl.length * 0<=16777216
    lia
   ·have ej:cs (Txt.join "" (cl.map fun c=>(⟨#[c]⟩:Str)))=cl:=by rw[Zu8,Zrx]
    refine k _ _ ?_ (fun c hc'=>hc c (by rw[ej] at hc';exact hc')) (hs2.keep (Same.new hl)) (sx2.trans (SameX.new hl))
    rw[← Wy,ej,h1]
    lia
end
theorem ph{α:Type} [DecidableEq α]:∀(L M:List α),L.Nodup->(∀a∈L,a∈M)->L.length<=M.length
 | [],_,_,_=>yJ _
 | a::L,M,nd,h=>by
  obtain⟨n1,n2⟩:=yH.mp nd
  have ha:=h a yC
  have:=ph L (M.erase a) n2 fun b hb=>(List.mem_erase_of_ne (fun(e:b=a)=>n1 (by rw[← e];exact hb))).mpr (h b (xW _ hb))
  rw[List.length_erase_of_mem ha] at this
  have hp : 0 < M.length:=List.length_pos_of_mem ha
  rw[xU]
  lia
def Vk(stem:Str)(j:Nat):Str:=stem++⟨#[97+j % 26]⟩++⟨#[97+j / 26]⟩
theorem Zd7(stem:Str)(j:Nat):cs (Vk stem j)=cs stem ++ [97+j % 26,97+j / 26]:=by
 unfold Vk
 rw[Zeh,Zeh]
 simp[cs]
theorem Zvo{stem:Str}{i j:Nat}(h:Vk stem i=Vk stem j):i=j:=by
 have e:cs (Vk stem i)=cs (Vk stem j):=by rw[h]
 rw[Zd7,Zd7] at e
 have e2:=List.append_cancel_left e
 injection e2 with e3 e4
 injection e4 with e5 _
 lia
theorem Zmc(stem:Str)(j:Nat):(Vk stem j).length=stem.length+2:=by
 rw[← Wy,Zd7,xN,Wy]
 rfl
theorem Zvp{stem:Str}{j:Nat}(h:Low stem)(hj:j < 676):Low (Vk stem j):=by
 intro c hc
 rw[Zd7] at hc
 rcases xJ.mp hc with z | z
 ·exact h c z
 ·simp at z
  lia
theorem Zrp{names:List Str}{stem:Str}(h:∀j,j < names.length->Vk stem j∈names):Vk stem names.length∉names:=by
 intro hm
 have nd:((List.range (names.length+1)).map (Vk stem)).Nodup:=by
  rw[List.nodup_iff_pairwise_ne,List.pairwise_map]
  exact List.Pairwise.imp (fun h e=>h (Zvo e)) (List.nodup_iff_pairwise_ne.mp List.nodup_range)
 have:=ph _ names nd fun a ha=>by
  obtain⟨j,hj,rfl⟩:=zC.mp ha
  have hj:=List.mem_range.mp hj
  by_cases e:j=names.length
  ·rw[e];exact hm
  ·exact h j (by lia)
 rw[xB,List.length_range] at this
 lia
theorem Zm4(x:Str)(names:List Str):inV (.str x) (names.map V.str)=decide (x∈names):=by
 unfold inV
 rw[List.any_map,zG,List.any_eq_true,decide_eq_true_iff]
 constructor
 ·rintro⟨y,hy,e⟩
  have:y=x:=by simpa [eqV] using e
  rw[← this];exact hy
 ·intro h
  exact⟨x,h,by simp[eqV]⟩
theorem Zlv(names:List Str):(names.map V.str).all U5=true:=by
 rw[List.all_map,zE]
 intro x _
 rfl
def Wq(x:Str):Prop:=Low x/\1<=x.length/\x.length<=12
section
variable{P:Program}{w:World}{K:uFg}{mg:Str->Option Value}{base:Heap}
def Zdv(K:uFg):Sp:=fun vs H Q _=>∃(a:Addr)(names:List Str)(x:Str),vs = [.ref a,.str x]/\SqL K H a (names.map V.str)/\names.length<=600/\Wq x/\∀y:Str,Wq y->y∉names->Q (.str y) H
abbrev Zg8:Stmt:=top 64
theorem Z01:FnScope ["_law_names_here", "_law_name", "_law_letters", "_law_stem", "_law_tries"] ["_law_names_here", "_law_name"] (Zh Zg8):=fsc
theorem Z02(Zg9:Has K mg "_law_unlike" Zg8)(T:Txt mg):Fn P w K mg base "_law_unlike" ["_law_names_here", "_law_name"] 1 (Zdv K):=by
 refine Zg9.fnQ Z01 (fun _ _ _ _ _ _=>al2 fun _ _=>rfl) (fun vs H Q E h=>?_) (fun f cdv A outer s H vs Q E hr h=>?_)
 ·obtain⟨a,names,x,rfl,_⟩:=h
  rfl
 ·obtain⟨a,names,x,rfl,hS,hn,⟨hx1,hx2,hx3⟩,k⟩:=h
  refine⟨_,(Ze (Z4 2 Zn)
 (Ze (Z4 3 (Zbe Zd4 (qvN 1) Zbc (Zbd Zd)))
 (Ze (Vf PassesOwn.never rfl (Zcx T.range (Za (Zz Vy (Z7 Wl T.len Y0 (Za (qvN 0) Zb)) Zd) Zb)) (Yt 4)
 (Ze (Zp (Zv Zkr (qvN 1) (qvN 0) rfl) (Zf (Zu (qvN 1))) Zo)
 (Zf (Z4 1 (Zz Zdo (Zz Zdo (qvN 3) (Zl Zf9 (qvN 2) (Zz Zbf (qvN 4) Zd) (fun _ _=>rfl))) (Zl Zf9 (qvN 2) (Zz Zdu (qvN 4) Zd) (fun _ _=>rfl)))))))
 (Zf (Zu (qvN 1)))))),?_⟩
  have hz:(13:Nat)<=sizeLine:=by decide
  refine⟨_,rfl,10,rfl,x,rfl,by lia,?_⟩
  have hst:cs (Txt.slice x none (some 10))=(cs x).take 10:=Zf7 x (by decide)
  have hstl:(Txt.slice x none (some 10)).length<=10:=by rw[← Wy,hst,xX];lia
  have hsto:Low (Txt.slice x none (some 10)):=fun c hc=>hx1 c (by rw[hst] at hc;exact List.mem_of_mem_take hc)
  show V2 _ _ _ [some (.ref a),some (.str x),some (.str letters),some (.str (Txt.slice x none (some 10))),none] H
  generalize Txt.slice x none (some 10)=stem at hstl hsto
  refine⟨_,rfl,a,_,rfl,.inl hS,_,_,rfl,rfl,_,rfl,by lia,by rw[xB];lia,?_⟩
  refine Zdq (names.length+1) (by rw[xB];lia) (fun i σ H'=>H'=H/\∃(cur:Str)(v:Option V),σ = [some (.ref a),some (.str cur),some (.str letters),some (.str stem),v]/\Wq cur/\(i=0\/cur=Vk stem (i - 1))/\∀j,j+1 < i->Vk stem j∈names)
   ⟨rfl,x,none,rfl,⟨hx1,hx2,hx3⟩,.inl rfl,fun j hj=>by lia⟩ ?_ ?_
  ·rintro i σ H' hi ⟨rfl,cur,v,rfl,hc,hci,hal⟩
   refine⟨_,rfl,_,rfl,a,_,rfl,.inl hS,rfl,Zlv names,_,rfl,?_⟩
   rw[Zm4]
   refine Yq (fun hnin=>?_) (fun hin=>?_)
   ·exact⟨_,rfl,k cur hc hnin⟩
   ·have hi':i<=600:=by lia
    refine⟨_,rfl,_,rfl,_,rfl,_,_,rfl,rfl,by show (0:Int) < 26;decide,letters,_,_,rfl,rfl,by decide,Zfk (Int.emod_nonneg _ (by decide)) (Int.emod_lt_of_pos _ (by decide)),stem,_,rfl,rfl,?_,?_⟩
    ·show stem.length+1<=sizeLine
     lia
    refine⟨_,rfl,_,rfl,_,_,rfl,rfl,⟨by decide,by decide⟩,letters,_,_,rfl,rfl,by decide,Zfk (Int.ediv_nonneg (by lia) (by decide)) (by lia),_,_,rfl,rfl,?_,?_⟩
    ·show (stem++_).length+1<=sizeLine
     rw[PySem.Str.length_append]
     show stem.length+1+1<=sizeLine
     lia
    have e1:((0:Int)+(i:Nat)) % 26=((i % 26:Nat):Int):=by lia
    have e2:((0:Int)+(i:Nat)) / 26=((i / 26:Nat):Int):=by lia
    refine⟨rfl,Vk stem i,some (.int (0+(i:Nat))),?_,⟨Zvp hsto (by lia),by rw[Zmc];lia,by rw[Zmc];lia⟩,.inr rfl,fun j hj=>?_⟩
    ·show [some (V.ref a),some (V.str _),some (V.str letters),some (V.str stem),some (V.int _)]=_
     unfold Vk
     rw[e1,e2]
     rfl
    ·by_cases e:j+1=i
     ·rcases hci with z | z
      ·lia
      ·have:j=i - 1:=by lia
       rw[this,← z];exact hin
     ·exact hal j (by lia)
  ·rintro σ H' ⟨rfl,cur,v,rfl,hc,hci,hal⟩
   refine⟨_,rfl,k cur hc ?_⟩
   rcases hci with z | z
   ·lia
   ·rw[z]
    exact Zrp fun j hj=>hal j (by lia)
def Zm5:Sp:=fun vs H Q _=>∃(s la:Addr)(n:Int),vs = [.ref s,.int n]/\SrcAt H s la/\0<=n/\n<=100 /\
 ∀(l:Addr)(names:List Str)(H':Hp),(names.length:Int)=n->names.Nodup->(∀x∈names,Wq x)->H l=none->H' l=some (.lst (names.map V.str))->SrcAt H' s la->SameX s H H'->Q (.ref l) H'
abbrev Zha:Stmt:=top 66
theorem Z03:FnScope ["_law_src_here", "_law_many", "_law_style", "_law_stem", "_law_at", "_law_names_here", "_law_k", "_law_name"] ["_law_src_here", "_law_many"] (Zh Zha):=fsc
theorem Z04(Zhb:Has K mg "_law_names" Zha)(T:Txt mg)(V6:Fn P w K mg base "_law_next" ["_law_src_here", "_law_base"] 1 Zc5)(Zhc:Fn P w K mg base "_law_word" ["_law_src_here", "_law_many"] 2 Zgq)(Z05:Fn P w K mg base "_law_unlike" ["_law_names_here", "_law_name"] 1 (Zdv K)):Fn P w K mg base "_law_names" ["_law_src_here", "_law_many"] 3 Zm5:=by
 refine Zhb.fnQ Z03 (fun _ _ _ _ _ _=>al2 fun _ _=>rfl) (fun vs H Q E h=>?_) (fun f cdv A outer s H vs Q E hr h=>?_)
 ·obtain⟨s,la,n,rfl,_⟩:=h
  rfl
 ·obtain⟨s,la,n,rfl,hsrc,hn0,hn1,k⟩:=h
  refine⟨_,(Ze (Z4 2 (Z6 V6 (Za (qvN 0) (Za Zd Zb))))
 (Ze (Z4 3 (Z6 Zhc (Za (qvN 0) (Za (Zz Vy Zd (Z6 V6 (Za (qvN 0) (Za Zd Zb)))) Zb))))
 (Ze (Z4 4 (Z6 V6 (Za (qvN 0) (Za (Z7 Zfh T.len Y0 (Za (qvN 3) Zb)) Zb))))
 (Ze (Z4 5 (Zy Zb))
 (Ze (Vf PassesOwn.never rfl (Zcx T.range (Za (qvN 1) Zb)) (Yt 6)
 (Ze (Z4 7 (Zz Zdo (Zz Zdo (Zbe Zd4 (qvN 3) Zbc (Zbd (qvN 4))) (Z6 Zhc (Za (qvN 0) (Za Zd Zb)))) (Zbe Zd4 (qvN 3) (Zbd (Zz Vy (qvN 4) Zd)) Zbc)))
 (Ze (Zp (Zv Wt (qvN 2) Zd (Z1 _)) (Zf (Z4 7 (Zbe Zd4 (qvN 3) Zbc (Zbd (Zz Vy Zd (Z6 V6 (Za (qvN 0) (Za (Z7 Zfh T.len Y0 (Za (qvN 3) Zb)) Zb)))))))) Zo)
 (Ze (Zp (Zv Wt (qvN 2) Zd (Z1 _)) (Zf (Z4 7 (Z6 Zhc (Za (qvN 0) (Za (Zz Vy Zd (Z6 V6 (Za (qvN 0) (Za Zd Zb)))) Zb))))) Zo)
 (Zf (Zi (Wf F.plainAttrs_list F.slot_list_append F.type_list_append Wm (qvN 5) (Za (Z6 Z05 (Za (qvN 5) (Za (qvN 7) Zb))) Zb))))))))
 (Zf (Zu (qvN 5)))))))),?_⟩
  have hz:(200:Nat)<=sizeLine:=by decide
  refine⟨_,rfl,s,la,3,rfl,hsrc,by decide,by decide,fun style H1 st0 st1 hs1 sx1=>?_⟩
  refine⟨_,rfl,_,rfl,s,la,11,rfl,hs1,by decide,by decide,fun d1 H2 d10 d11 hs2 sx2=>?_⟩
  refine⟨_,_,rfl,rfl,s,la,_,rfl,hs2,by lia,by lia,fun stem H3 hl3 hlow3 hs3 sx3=>?_⟩
  refine⟨_,rfl,_,rfl,stem,rfl,by lia,s,la,_,rfl,hs3,by lia,by lia,fun at_ H4 at0 at1 hs4 sx4=>?_⟩
  refine⟨by show 0<=sizeLine;lia,fun l hl4=>?_⟩
  have sx:SameX s H H4:=((sx1.trans sx2).trans sx3).trans sx4
  obtain⟨nls,nlla⟩:=hs4.ne hl4
  have hlH:H l=none:=by
   cases e:H l with
   | none=>rfl
   | some o=>exact absurd (sx l o nls e) (by rw[hl4];simp)
  refine⟨_,rfl,n,rfl,by lia,by lia,?_⟩
  show Za9 _ _ _ _ [some (.ref s),some (.int n),some (.int style),some (.str stem),some (.int at_),some (.ref l),none,none] (upd H4 l (.lst []))
  have mkn:∀x:Str,Low x->1<=x.length->x.length<=12->Wq x:=fun x a b c=>⟨a,b,c⟩
  refine Zdq n.toNat rfl (fun i σ H'=>∃(names:List Str)(v1 v2:Option V),σ = [some (.ref s),some (.int n),some (.int style),some (.str stem),some (.int at_),some (.ref l),v1,v2]/\names.length=i/\names.Nodup/\(∀x∈names,Wq x)/\H' l=some (.lst (names.map V.str))/\SrcAt H' s la/\SameX s H H')
   ⟨[],none,none,rfl,rfl,List.nodup_nil,(fun _ z=>nomatch z),Zg,hs4.keep (Same.new hl4),sx.trans (SameX.new hl4)⟩ ?_ ?_
  ·rintro i σ H5 hi ⟨names,v1,v2,rfl,hlen,hnd,hall,hl5,hs5,sx5⟩
   have e1:cs (Txt.slice stem none (some at_))=(cs stem).take at_.toNat:=Zf7 stem at0
   have e2:cs (Txt.slice stem (some (at_+1)) none)=(cs stem).drop (at_+1).toNat:=Zxb stem (by lia)
   have l1:(Txt.slice stem none (some at_)).length<=11:=by rw[← Wy,e1,xX,Wy];lia
   have l2:(Txt.slice stem (some (at_+1)) none).length+(at_+1).toNat=stem.length:=by rw[← Wy,e2,List.length_drop,Wy];lia
   have l1':(Txt.slice stem none (some at_)).length=at_.toNat:=by rw[← Wy,e1,xX,Wy];lia
   refine⟨_,rfl,_,rfl,at_,rfl,stem,rfl,by lia,_,rfl,s,la,1,rfl,hs5,by decide,by decide,fun x1 H6 hx1 hlow1 hs6 sx6=>?_⟩
   have hl6:H6 l=some (.lst (names.map V.str)):=sx6 l _ nls hl5
   refine⟨_,_,rfl,rfl,by lia,?_⟩
   refine⟨_,rfl,_,rfl,_,_,rfl,rfl,_,rfl,stem,rfl,by lia,?_⟩
   have l3:(Txt.slice stem none (some at_)++x1).length=at_.toNat+1:=by rw[PySem.Str.length_append,l1'];lia
   refine⟨_,_,rfl,rfl,by rw[l3];lia,?_⟩
   have hname:Wq (Txt.slice stem none (some at_)++x1++Txt.slice stem (some (at_+1)) none):=by
    refine mkn _ (fun c hc=>?_) ?_ ?_
    ·rw[Zeh,Zeh,e1,e2] at hc
     rcases xJ.mp hc with hc | hc
     ·rcases xJ.mp hc with hc | hc
      ·exact hlow3 c (List.mem_of_mem_take hc)
      ·exact hlow1 c hc
     ·exact hlow3 c (List.mem_of_mem_drop hc)
    ·rw[PySem.Str.length_append,l3];lia
    ·rw[PySem.Str.length_append,l3];lia
   generalize Txt.slice stem none (some at_)++x1++Txt.slice stem (some (at_+1)) none=nm0 at hname
   show V2 _ _ _ [some (.ref s),some (.int n),some (.int style),some (.str stem),some (.int at_),some (.ref l),some (.int (0+(i:Nat))),some (.str nm0)] H6
   have app:∀(D:Ends),(∀ σ H',(∃(names:List Str)(v1 v2:Option V),σ = [some (.ref s),some (.int n),some (.int style),some (.str stem),some (.int at_),some (.ref l),v1,v2]/\names.length=i+1/\names.Nodup/\(∀x∈names,Wq x)/\H' l=some (.lst (names.map V.str))/\SrcAt H' s la/\SameX s H H')->D.nx σ H')->
     ∀(x:Str)(H6:Hp),Wq x->H6 l=some (.lst (names.map V.str))->SrcAt H6 s la->SameX s H H6 ->
     Zep (tBM K "list" Zd1 (Y3 5) (Ve (tFn (Zdv K) (Ve (Y3 5) (Ve (Y3 7) Vu))) Vu)) D
      [some (.ref s),some (.int n),some (.int style),some (.str stem),some (.int at_),some (.ref l),some (.int (0+(i:Nat))),some (.str x)] H6:=by
    intro D hD x H6 hx hl6 hs6 sx6
    refine⟨_,rfl,.inl ⟨rfl,_,SqL.of hl6⟩,_,rfl,_,rfl,l,names,x,rfl,SqL.of hl6,by lia,hx,fun y hy hny=>?_⟩
    refine⟨l,_,_,rfl,rfl,hl6,by rw[xB];lia,hD _ _ ⟨names ++ [y],_,_,rfl,by rw[xN,hlen];rfl,Zmu hnd hny,fun z hz=>?_,?_,?_,?_⟩⟩
    ·rcases xJ.mp hz with q | q
     ·exact hall z q
     ·have:z=y:=by simpa using q
      rw[this];exact hy
    ·rw[Zg,xV];rfl
    ·exact hs6.keepX SameX.upd nls nlla
    ·intro b o hb e
     have:b≠l:=fun z=>by rw[z,hlH] at e;cases e
     rw[Zc this]
     exact sx6 b o hb e
   have step2:∀(D:Ends),(∀ σ H',(∃(names:List Str)(v1 v2:Option V),σ = [some (.ref s),some (.int n),some (.int style),some (.str stem),some (.int at_),some (.ref l),v1,v2]/\names.length=i+1/\names.Nodup/\(∀x∈names,Wq x)/\H' l=some (.lst (names.map V.str))/\SrcAt H' s la/\SameX s H H')->D.nx σ H')->
     ∀(x:Str)(H6:Hp),Wq x->H6 l=some (.lst (names.map V.str))->SrcAt H6 s la->SameX s H H6 ->
     V2 (Zdg (Za2 (tOp rEq (Y3 2) (tC (.int 2)))) (Uw (tFn Zgq (Ve (Y3 0) (Ve (tOp (rI0 fun i j=>.int (i+j)) (tC (.int 1)) (tFn Zc5 (Ve (Y3 0) (Ve (tC (.int 12)) Vu)))) Vu))) (Wv 7)) Wr)
      (Zep (tBM K "list" Zd1 (Y3 5) (Ve (tFn (Zdv K) (Ve (Y3 5) (Ve (Y3 7) Vu))) Vu))) D
      [some (.ref s),some (.int n),some (.int style),some (.str stem),some (.int at_),some (.ref l),some (.int (0+(i:Nat))),some (.str x)] H6:=by
    intro D hD x H6 hx hl6 hs6 sx6
    refine⟨_,rfl,rfl,_,rfl,Yg (fun _=>?_) (fun _=>?_)⟩
    ·refine⟨_,rfl,_,rfl,s,la,12,rfl,hs6,by decide,by decide,fun d H7 d0 d1 hs7 sx7=>?_⟩
     refine⟨_,_,rfl,rfl,s,la,_,rfl,hs7,by lia,by lia,fun y H8 hy1 hy2 hs8 sx8=>?_⟩
     exact app D hD y H8 ⟨hy2,by lia,by lia⟩ (sx8 l _ nls (sx7 l _ nls hl6)) hs8 ((sx6.trans sx7).trans sx8)
    ·exact app D hD x H6 hx hl6 hs6 sx6
   refine⟨_,rfl,rfl,_,rfl,Yg (fun _=>?_) (fun _=>?_)⟩
   ·refine⟨_,rfl,_,rfl,_,rfl,stem,rfl,by lia,s,la,_,rfl,hs6,by lia,by lia,fun d H7 d0 d1 hs7 sx7=>?_⟩
    refine⟨_,_,rfl,rfl,_,rfl,stem,rfl,by lia,?_⟩
    have e3:cs (Txt.slice stem none (some (1+d)))=(cs stem).take (1+d).toNat:=Zf7 stem (by lia)
    refine step2 _ (fun σ H' h=>h) _ H7 ⟨fun c hc=>hlow3 c (by rw[e3] at hc;exact List.mem_of_mem_take hc),?_,?_⟩ (sx7 l _ nls hl6) hs7 ((sx5.trans sx6).trans sx7)
    ·rw[← Wy,e3,xX,Wy];lia
    ·rw[← Wy,e3,xX,Wy];lia
   ·exact step2 _ (fun σ H' h=>h) nm0 H6 hname hl6 hs6 (sx5.trans sx6)
  ·rintro σ H5 ⟨names,v1,v2,rfl,hlen,hnd,hall,hl5,hs5,sx5⟩
   exact⟨_,rfl,k l names H5 (by lia) hnd hall hlH hl5 hs5 sx5⟩
end
section
variable{P:Program}{w:World}{K:uFg}{mg:Str->Option Value}{base:Heap}
def okc(c:Nat):Bool:=decide (97<=c) && decide (c<=122)
def Vl(x:Str):Bool:=(decide (1<=x.length) && decide (x.length<=12)) && (cs x).all okc
theorem Zav{x:Str}(h:Wq x):Vl x=true:=by
 obtain⟨h1,h2,h3⟩:=h
 unfold Vl
 rw[yL h2,yL h3,Bool.true_and,Bool.true_and,zE]
 intro c hc
 obtain⟨a,b⟩:=h1 c hc
 unfold okc
 rw[yL a,yL b]
 rfl
def Zfy:Sp:=fun vs H Q _=>∃x:Str,vs = [.str x]/\x.length<=1000/\∀H',Same H H'->Q (.bl (Vl x)) H'
theorem Zn7{x:Str}{i:Nat}(hi:i < x.length):(cs x)[i]? = some (x.cps.getD i 0):=by
 unfold cs
 have:i < x.cps.size:=hi
 rw[Array.getD_eq_getD_getElem?,Array.getElem?_eq_getElem this,Array.getElem?_toList,Array.getElem?_eq_getElem this]
 rfl
theorem leA(c:Nat):(!decide ((⟨#[c]⟩:Str).cps.toList < ("a" : Str).cps.toList))=decide (97<=c):=by
 have e:("a" : Str).cps.toList = [97]:=by decide +kernel
 rw[e]
 show (!decide (([c]:List Nat) < [97]))=_
 rw[zG,Bool.not_eq_true',decide_eq_false_iff_not,decide_eq_true_iff,Zk4]
 lia
theorem leZ(c:Nat):(!decide (("z" : Str).cps.toList < (⟨#[c]⟩:Str).cps.toList))=decide (c<=122):=by
 have e:("z" : Str).cps.toList = [122]:=by decide +kernel
 rw[e]
 show (!decide (([122]:List Nat) < [c]))=_
 rw[zG,Bool.not_eq_true',decide_eq_false_iff_not,decide_eq_true_iff,Zk4]
 lia
theorem Zkt{α β:Type}{l:List α}{i:Nat}{a : α}(f : α->β)(h:l[i]? = some a):(l.take (i+1)).map f=(l.take i).map f ++ [f a]:=by
 rw[yP,h,xV]
 rfl
abbrev Zhd:Stmt:=top 33
theorem Z06:FnScope ["text"] ["text"] (Zh Zhd):=fsc
theorem Z07(Zhe:Has K mg "is_name" Zhd)(T:Txt mg)(hL:∃t,mg "LONGEST_NAME" = some (.int 12 t)):Fn P w K mg base "is_name" ["text"] 1 Zfy:=by
 obtain⟨tL,c_LONGEST_NAME⟩:=hL
 have r_LONGEST_NAME:RelV (.int 12) (.int 12 tL):=⟨tL,rfl⟩
 refine Zhe.fnQ Z06 (fun _ _ _ _ _ _=>al1 fun _=>rfl) (fun vs H Q E h=>?_) (fun f cdv A outer s H vs Q E hr h=>?_)
 ·obtain⟨x,rfl,_⟩:=h
  rfl
 ·obtain⟨x,rfl,hx,k⟩:=h
  refine⟨_,(Zf (Zu (Zbb (Zl5 Wa Wa Zd (Z7 Zfh T.len Y0 (Za (qvN 0) Zb)) (Yy c_LONGEST_NAME r_LONGEST_NAME)) (Zba (Z7 (Ztf (by rfl)) T.all Z0f (Za (Ur (locs:=["sign"]) (fr:=[]) ⟨rfl,by decide +kernel,by decide +kernel,by decide +kernel,by decide +kernel,by decide +kernel⟩ .nil rfl (Zzb (qvN 0)) ⟨fun _ _ _ _ _ _=>by
  have cnd:(inN ["sign"] []).Nodup:=by decide +kernel
  exact⟨(Vw 0 cnd),Zb2,(Zl5 Zk3 Zk3 Zn (Vc 0) Zn)⟩⟩) Zb)))))),?_⟩
  have hz:(1000:Nat)<=sizeLine:=by decide
  refine⟨_,rfl,x,rfl,by lia,_,_,rfl,rfl,_,rfl,Yg (fun h1=>?_) (fun h1=>?_)⟩
  ·refine⟨_,_,rfl,rfl,_,rfl,Yg (fun h2=>?_) (fun h2=>?_)⟩
   ·refine⟨_,rfl,x,rfl,?_⟩
    refine Zva (fun i ys H'=>H'=H/\ys=((cs x).take i).map fun c=>V.bl (okc c)) ⟨rfl,rfl⟩ (by lia) ?_ ?_ ?_
    ·rintro i ys H' ⟨_,rfl⟩
     rw[xB,xX];lia
    ·rintro i ys H' hi ⟨rfl,rfl⟩ ls hls
     obtain⟨a,rfl⟩:=Zch hls
     refine⟨⟨[_],rfl,rfl⟩,Z5 ?_⟩
     refine⟨_,rfl,_,_,rfl,rfl,_,rfl,?_⟩
     rw[leA]
     refine Yg (fun h3=>?_) (fun h3=>?_)
     ·refine⟨_,_,rfl,rfl,rfl,?_⟩
      dsimp only
      rw[leZ,Zkt _ (Zn7 hi)]
      unfold okc
      rw[yL h3,Bool.true_and]
     ·refine⟨rfl,?_⟩
      rw[Zkt _ (Zn7 hi)]
      unfold okc
      rw[yI h3,zI]
    ·rintro ys H' ⟨rfl,rfl⟩ l hl
     refine⟨l,(cs x).map okc,rfl,SqL.of (by rw[Zg,← Wy,yU,List.map_map];rfl),?_⟩
     have e:((cs x).map okc).all id=Vl x:=by
      unfold Vl
      rw[List.all_map,yL (show 1<=x.length by lia),yL (show x.length<=12 by lia)]
      rfl
     rw[e]
     exact k _ (Same.new hl)
   ·refine(?_:Q (.bl false) H)
    have e:Vl x=false:=by
     unfold Vl
     rw[yI (show ¬x.length<=12 by lia),Bool.and_false,zI]
    rw[← e]
    exact k H (Same.refl _)
  ·refine⟨_,rfl,Zt ?_⟩
   have e:Vl x=false:=by
    unfold Vl
    rw[yI (show ¬ 1<=x.length by lia),zI,zI]
   rw[← e]
   exact k H (Same.refl _)
end
section
variable{P:Program}{w:World}{K:uFg}{mg:Str->Option Value}{base:Heap}
inductive Deed where
 | come (n:Str) (d w:Int) | rise (n:Str) (d w:Int) | die (n:Str) (d:Int) (h:Str)
def Zk:List Deed->Str->Option Int
 | [],_=>none
 | .come m d _::r,n=>if m=n then some d else Zk r n
 | .rise _ _ _::r,n=>Zk r n
 | .die _ _ _::r,n=>Zk r n
def Z3:List Deed->Str->Option (Int×Str)
 | [],_=>none
 | .die m d h::r,n=>if m=n then some (d,h) else Z3 r n
 | .come _ _ _::r,n=>Z3 r n
 | .rise _ _ _::r,n=>Z3 r n
theorem Zdt(a b:List Deed)(n:Str):Zk (a++b) n=(Zk a n).or (Zk b n):=by
 induction a with
 | nil=>rfl
 | cons x r ih =>
  cases x with
  | come m d w =>
   rw[xY,Zk,Zk]
   by_cases e:m=n
   ·rw[if_pos e,if_pos e];rfl
   ·rw[if_neg e,if_neg e,ih]
  | rise m d w=>rw[xY,Zk,Zk,ih]
  | die m d h=>rw[xY,Zk,Zk,ih]
theorem Zfq(a b:List Deed)(n:Str):Z3 (a++b) n=(Z3 a n).or (Z3 b n):=by
 induction a with
 | nil=>rfl
 | cons x r ih =>
  cases x with
  | come m d w=>rw[xY,Z3,Z3,ih]
  | rise m d w=>rw[xY,Z3,Z3,ih]
  | die m d h =>
   rw[xY,Z3,Z3]
   by_cases e:m=n
   ·rw[if_pos e,if_pos e];rfl
   ·rw[if_neg e,if_neg e,ih]
theorem Zsq{ds:List Deed}{n:Str}{d w:Int}(h:Zk ds n=none)(x:Str):Zk (ds ++ [.come n d w]) x=if x=n then some d else Zk ds x:=by
 rw[Zdt,Zk,Zk]
 by_cases e:x=n
 ·subst e
  rw[if_pos rfl,if_pos rfl,h];rfl
 ·rw[if_neg (Ne.symm e),if_neg e]
  cases Zk ds x<;>rfl
theorem Zt1{ds:List Deed}{n h:Str}{d:Int}(x:Str):Zk (ds ++ [.die n d h]) x=Zk ds x:=by
 rw[Zdt,Zk,Zk]
 cases Zk ds x<;>rfl
theorem Zk9{ds:List Deed}{n:Str}{d w:Int}(x:Str):Z3 (ds ++ [.come n d w]) x=Z3 ds x:=by
 rw[Zfq,Z3,Z3]
 cases Z3 ds x<;>rfl
theorem Zlw{ds:List Deed}{n h:Str}{d:Int}(hn:Z3 ds n=none)(x:Str):Z3 (ds ++ [.die n d h]) x=if x=n then some (d,h) else Z3 ds x:=by
 rw[Zfq,Z3,Z3]
 by_cases e:x=n
 ·subst e
  rw[if_pos rfl,if_pos rfl,hn];rfl
 ·rw[if_neg (Ne.symm e),if_neg e]
  cases Z3 ds x<;>rfl
def Wo(ds:List Deed)(n:Str)(day:Int):Bool:=match Z3 ds n with
 | some x=>decide (x.1<=day)
 | none=>false
def Vz(dc dw dd dh:Addr):List (Str×V):=Zm "heirs" (.ref dh) (Zm "deaths" (.ref dd) (Zm "weights" (.ref dw) (Zm "comings" (.ref dc) [])))
theorem Zam(dc dw dd dh:Addr):(Vz dc dw dd dh).lookup ("comings" : Str)=some (.ref dc):=by
 unfold Vz
 rw[Yx,if_neg (by decide +kernel),Yx,if_neg (by decide +kernel),Yx,if_neg (by decide +kernel),Yx,if_pos rfl]
theorem Zkg(dc dw dd dh:Addr):(Vz dc dw dd dh).lookup ("weights" : Str)=some (.ref dw):=by
 unfold Vz
 rw[Yx,if_neg (by decide +kernel),Yx,if_neg (by decide +kernel),Yx,if_pos rfl]
theorem Zbq(dc dw dd dh:Addr):(Vz dc dw dd dh).lookup ("deaths" : Str)=some (.ref dd):=by
 unfold Vz
 rw[Yx,if_neg (by decide +kernel),Yx,if_pos rfl]
theorem Z4w(dc dw dd dh:Addr):(Vz dc dw dd dh).lookup ("heirs" : Str)=some (.ref dh):=by
 unfold Vz
 rw[Yx,if_pos rfl]
def Zfd(m:Str):Prop:=¬m = "heirs" /\ ¬m = "deaths" /\ ¬m = "weights" /\ ¬m = "comings"
instance (m:Str):Decidable (Zfd m):=by unfold Zfd;exact inferInstance
theorem Ys(dc dw dd dh:Addr){m:Str}(h:Zfd m:=by decide +kernel):(Vz dc dw dd dh).lookup m=none:=by
 obtain⟨a,b,c,d⟩:=h
 unfold Vz
 rw[Yx,if_neg a,Yx,if_neg b,Yx,if_neg c,Yx,if_neg d]
 rfl
structure FL where
 p:Addr
 dc:Addr
 dw:Addr
 dd:Addr
 dh:Addr
structure FolkAt (C:Addr) (H:Hp) (L:FL) (ds:List Deed):Prop where
 ob:∃dx,H L.p=some (.ins C dx (Vz L.dc L.dw L.dd L.dh))
 c:∃kvs:List (Key×V),H L.dc=some (.dK kvs)/\kvs.length<=ds.length/\∀n:Str,Zx kvs (.inr n)=(Zk ds n).map V.int
 w:∃kvs:List (Key×V),H L.dw=some (.dK kvs)/\kvs.length<=ds.length
 d:∃kvs:List (Key×V),H L.dd=some (.dK kvs)/\kvs.length<=ds.length/\∀n:Str,Zx kvs (.inr n)=(Z3 ds n).map fun x=>V.int x.1
 h:∃kvs:List (Key×V),H L.dh=some (.dK kvs)/\kvs.length<=ds.length/\∀n:Str,Zx kvs (.inr n)=(Z3 ds n).map fun x=>V.str x.2
 a1:L.dc≠L.dw
 a2:L.dc≠L.dd
 a3:L.dc≠L.dh
 a4:L.dw≠L.dd
 a5:L.dw≠L.dh
 a6:L.dd≠L.dh
def Zhf(H H':Hp):Prop:=∀b o,(∀xs,o ≠ .lst xs)->H b=some o->H' b=some o
theorem Same.n{H H':Hp}(h:Same H H'):Zhf H H':=fun b o _ e=>h b o e
theorem FolkAt.keep{C:Addr}{H H':Hp}{L:FL}{ds:List Deed}(h:FolkAt C H L ds)(k:Zhf H H'):FolkAt C H' L ds:=by
 obtain⟨⟨dx,ob⟩,⟨k1,c1,c2⟩,⟨k2,w1,w2⟩,⟨k3,d1,d2⟩,⟨k4,h1,h2⟩,a1,a2,a3,a4,a5,a6⟩:=h
 exact⟨⟨dx,k _ _ (fun _ z=>nomatch z) ob⟩,⟨k1,k _ _ (fun _ z=>nomatch z) c1,c2⟩,⟨k2,k _ _ (fun _ z=>nomatch z) w1,w2⟩,⟨k3,k _ _ (fun _ z=>nomatch z) d1,d2⟩,⟨k4,k _ _ (fun _ z=>nomatch z) h1,h2⟩,a1,a2,a3,a4,a5,a6⟩
def SameLT(H H':Hp):Prop:=(∀b xs,H b=some (.lst xs)->H' b=some (.lst xs))/\∀b xs,H b=some (.tup xs)->H' b=some (.tup xs)
theorem SameLT.updD{H:Hp}{l:Addr}{kvs kvs':List (Key×V)}(h:H l=some (.dK kvs)):SameLT H (upd H l (.dK kvs')) :=
 ⟨fun b xs e=>by rw[Zc (fun z=>by rw[z,h] at e;cases e)];exact e,fun b xs e=>by rw[Zc (fun z=>by rw[z,h] at e;cases e)];exact e⟩
structure TxC (K:uFg) (C:Addr):Prop where
 cl:Cls K C
 nc:NoAttr K C "comings"
 nw:NoAttr K C "weights"
 nd:NoAttr K C "deaths"
 nh:NoAttr K C "heirs"
variable{C:Addr}
def Zda:Sp:=fun vs H Q _=>∃d:Int,vs = [.int d]/\0<=d/\d<=9999/\Q .non H
abbrev Zeu:Stmt:=top 27
theorem Zpo:FnScope ["day"] ["day"] (Zh Zeu):=fsc
theorem Z08(Zcc:Has K mg "check_day" Zeu)(C0:∃t,mg "LAST_DAY" = some (.int 9999 t)):Fn P w K mg base "check_day" ["day"] 1 Zda:=by
 obtain⟨t0,c_LAST_DAY⟩:=C0
 have r_LAST_DAY:RelV (.int 9999) (.int 9999 t0):=⟨t0,rfl⟩
 refine Zcc.fnQ Zpo (fun _ _ _ _ _ _=>al1 fun _=>rfl) (fun vs H Q E h=>?_) (fun f cdv A outer s H vs Q E hr h=>?_)
 ·obtain⟨d,rfl,_⟩:=h
  rfl
 ·obtain⟨d,rfl,h0,h1,k⟩:=h
  refine⟨_,(Zf (Zp (Vg (Uq Wa Wa Zd (qvN 0) (Yy c_LAST_DAY r_LAST_DAY))) (Zf Uh) Zo)),?_⟩
  refine⟨_,rfl,_,_,rfl,rfl,_,rfl,Yg (fun _=>?_) (fun z=>absurd h0 z)⟩
  refine⟨_,_,rfl,rfl,_,rfl,Yq (fun z=>absurd h1 z) (fun _=>k)⟩
def Zkh:Sp:=fun vs H Q _=>∃d:Int,vs = [.int d]/\1<=d/\d<=1000/\Q .non H
abbrev Zev:Stmt:=top 28
theorem Zpp:FnScope ["weight"] ["weight"] (Zh Zev):=fsc
theorem Z09(Zcd:Has K mg "check_weight" Zev)(C0:∃t,mg "MOST_WEIGHT" = some (.int 1000 t)):Fn P w K mg base "check_weight" ["weight"] 1 Zkh:=by
 obtain⟨t0,c_MOST_WEIGHT⟩:=C0
 have r_MOST_WEIGHT:RelV (.int 1000) (.int 1000 t0):=⟨t0,rfl⟩
 refine Zcd.fnQ Zpp (fun _ _ _ _ _ _=>al1 fun _=>rfl) (fun vs H Q E h=>?_) (fun f cdv A outer s H vs Q E hr h=>?_)
 ·obtain⟨d,rfl,_⟩:=h
  rfl
 ·obtain⟨d,rfl,h0,h1,k⟩:=h
  refine⟨_,(Zf (Zp (Vg (Uq Wa Wa Zd (qvN 0) (Yy c_MOST_WEIGHT r_MOST_WEIGHT))) (Zf Uh) Zo)),?_⟩
  refine⟨_,rfl,_,_,rfl,rfl,_,rfl,Yg (fun _=>?_) (fun z=>absurd h0 z)⟩
  refine⟨_,_,rfl,rfl,_,rfl,Yq (fun z=>absurd h1 z) (fun _=>k)⟩
def Zd8(C:Addr):Sp:=fun vs H Q _=>∃(L:FL)(ds:List Deed)(n:Str)(d:Int),vs = [.ref L.p,.str n]/\FolkAt C H L ds/\Zk ds n=some d/\Q .non H
abbrev Zew:Stmt:=Ym (top 37) 17
theorem Zpq:FnScope ["self", "name"] ["self", "name"] (Zh Zew):=fsc
theorem Z1a(Zci:HasM K C "check_known" "Folk.check_known" Zew)(Tc:TxC K C):Mt P w K mg base C "check_known" ["self", "name"] 1 (Zd8 C):=by
 refine Zci.mtQ Zpq (fun _ _ _ _ _ _=>al2 fun _ _=>rfl) (fun vs H Q E h=>?_) (fun f cdv A outer s H vs Q E hr h=>?_)
 ·obtain⟨L,ds,n,d,rfl,_⟩:=h
  rfl
 ·obtain⟨L,ds,n,d,rfl,F,hn,k⟩:=h
  refine⟨_,(Zf (Zp (Zv (Zfm hr) (qvN 1) (Zq (qvN 0)) rfl) (Zf Uh) Zo)),?_⟩
  obtain⟨dx,ob⟩:=F.ob
  obtain⟨kvs,c1,c2,c3⟩:=F.c
  refine⟨_,rfl,_,rfl,L.p,C,dx,_,_,rfl,ob,Tc.cl,Tc.nc,Zam _ _ _ _,L.dc,_,rfl,DGet.k (k:=Sum.inr n) c1,_,rfl,?_⟩
  rw[c3,hn]
  exact Zt k
def Zd9(C:Addr):Sp:=fun vs H Q _=>∃(L:FL)(ds:List Deed)(n:Str)(d day:Int),vs = [.ref L.p,.str n,.int day]/\FolkAt C H L ds/\Zk ds n=some d/\d<=day/\Q .non H
abbrev Zex:Stmt:=Ym (top 37) 18
theorem Zpr:FnScope ["self", "name", "day"] ["self", "name", "day"] (Zh Zex):=fsc
theorem Z1b(Zcj:HasM K C "check_there" "Folk.check_there" Zex)(Tc:TxC K C):Mt P w K mg base C "check_there" ["self", "name", "day"] 1 (Zd9 C):=by
 refine Zcj.mtQ Zpr (fun _ _ _ _ _ _=>al3 fun _ _ _=>rfl) (fun vs H Q E h=>?_) (fun f cdv A outer s H vs Q E hr h=>?_)
 ·obtain⟨L,ds,n,d,day,rfl,_⟩:=h
  rfl
 ·obtain⟨L,ds,n,d,day,rfl,F,hn,hd,k⟩:=h
  refine⟨_,(Zf (Zp (Zv Zaa (qvN 2) (Zb3 hr (Zq (qvN 0)) (qvN 1) (fun _ _=>rfl)) (Z1 _)) (Zf Uh) Zo)),?_⟩
  obtain⟨dx,ob⟩:=F.ob
  obtain⟨kvs,c1,c2,c3⟩:=F.c
  have g:=DGet.k (k:=Sum.inr n) c1
  rw[c3,hn] at g
  refine⟨_,rfl,_,rfl,L.p,C,dx,_,_,rfl,ob,Tc.cl,Tc.nc,Zam _ _ _ _,_,rfl,L.dc,.int d,rfl,g,?_⟩
  exact⟨_,_,rfl,rfl,_,rfl,Yg (fun z=>absurd z (by lia)) (fun _=>k)⟩
def Zfz(C:Addr):Sp:=fun vs H Q _=>∃(L:FL)(ds:List Deed)(n:Str)(day:Int),vs = [.ref L.p,.str n,.int day]/\FolkAt C H L ds/\Q (.bl (Wo ds n day)) H
abbrev Zhg:Stmt:=Ym (top 37) 11
theorem Z1c:FnScope ["self", "name", "day"] ["self", "name", "day"] (Zh Zhg):=fsc
theorem Z1d(Zhh:HasM K C "died_by" "Folk.died_by" Zhg)(Tc:TxC K C):Mt P w K mg base C "died_by" ["self", "name", "day"] 1 (Zfz C):=by
 refine Zhh.mtQ Z1c (fun _ _ _ _ _ _=>al3 fun _ _ _=>rfl) (fun vs H Q E h=>?_) (fun f cdv A outer s H vs Q E hr h=>?_)
 ·obtain⟨L,ds,n,day,rfl,_⟩:=h
  rfl
 ·obtain⟨L,ds,n,day,rfl,F,k⟩:=h
  refine⟨_,(Zf (Zu (Zbb (U6 (Zas hr) (qvN 1) (Zq (qvN 0)) rfl) (Zba (U6 Wa (Zb3 hr (Zq (qvN 0)) (qvN 1) (fun _ _=>rfl)) (qvN 2) (Z1 _)))))),?_⟩
  obtain⟨dx,ob⟩:=F.ob
  obtain⟨kvs,c1,c2,c3⟩:=F.d
  have g:=DGet.k (k:=Sum.inr n) c1
  rw[c3] at g
  unfold Wo at k
  refine⟨_,rfl,_,rfl,L.p,C,dx,_,_,rfl,ob,Tc.cl,Tc.nd,Zbq _ _ _ _,L.dd,_,rfl,g,_,rfl,?_⟩
  cases e:Z3 ds n with
  | none =>
   rw[e] at k
   exact Zt k
  | some x =>
   rw[e] at k g
   refine Z5 ?_
   exact⟨_,rfl,L.p,C,dx,_,_,rfl,ob,Tc.cl,Tc.nd,Zbq _ _ _ _,_,rfl,L.dd,.int x.1,rfl,g,_,rfl,_,_,rfl,rfl,k⟩
end
section
variable{P:Program}{w:World}{K:uFg}{mg:Str->Option Value}{base:Heap}{C:Addr}
def Zn8(C:Addr):Sp:=fun vs H Q _=>∃(p dx:Addr),vs = [.ref p]/\H p=some (.ins C dx [])/\∀(L:FL)(H':Hp),L.p=p->FolkAt C H' L []->(∀b o,H b=some o->b≠p->H' b=some o)->(∀b,b=L.dc\/b=L.dw\/b=L.dd\/b=L.dh->H b=none)->Q .non H'
abbrev Zhi:Stmt:=Ym (top 37) 0
theorem Z1e:FnScope ["self"] ["self"] (Zh Zhi):=fsc
theorem Z1f(Zhj:HasM K C "__init__" "Folk.__init__" Zhi)(Tc:TxC K C):Mt P w K mg base C "__init__" ["self"] 1 (Zn8 C):=by
 refine Zhj.mtQ Z1e (fun _ _ _ _ _ _=>al1 fun _=>rfl) (fun vs H Q E h=>?_) (fun f cdv A outer s H vs Q E hr h=>?_)
 ·obtain⟨p,dx,rfl,_⟩:=h
  rfl
 ·obtain⟨p,dx,rfl,hp,k⟩:=h
  refine⟨_,(Ze (Vr (qvN 0) Zbz)
 (Ze (Vr (qvN 0) Zbz)
 (Ze (Vr (qvN 0) Zbz)
 (Zf (Vr (qvN 0) Zbz))))),?_⟩
  intro dc hdc
  have p1:p≠dc:=Zj hp hdc
  refine⟨_,rfl,p,C,dx,[],rfl,(by rw[Zc p1];exact hp),Tc.cl,Tc.nc,(by show 0 < 1000;decide),?_⟩
  have g1:(upd (upd H dc (.dK [])) p (.ins C dx (Zm "comings" (.ref dc) []))) p=some (.ins C dx (Zm "comings" (.ref dc) [])):=Zg
  have c1:(upd (upd H dc (.dK [])) p (.ins C dx (Zm "comings" (.ref dc) []))) dc=some (.dK []):=by rw[Zc p1.symm,Zg]
  have s1:∀b o,H b=some o->b≠p->(upd (upd H dc (.dK [])) p (.ins C dx (Zm "comings" (.ref dc) []))) b=some o:=fun b o e n=>by rw[Zc n,Zc (Zj e hdc)];exact e
  generalize (upd (upd H dc (.dK [])) p (.ins C dx (Zm "comings" (.ref dc) [])))=H1 at g1 c1 s1 ⊢
  intro dw hdw
  have p2:p≠dw:=Zj g1 hdw
  have q1:dc≠dw:=Zj c1 hdw
  refine⟨_,rfl,p,C,dx,_,rfl,(by rw[Zc p2];exact g1),Tc.cl,Tc.nw,(by show 1 < 1000;decide),?_⟩
  have g2:(upd (upd H1 dw (.dK [])) p (.ins C dx (Zm "weights" (.ref dw) (Zm "comings" (.ref dc) [])))) p=some (.ins C dx (Zm "weights" (.ref dw) (Zm "comings" (.ref dc) []))):=Zg
  have c2:(upd (upd H1 dw (.dK [])) p (.ins C dx (Zm "weights" (.ref dw) (Zm "comings" (.ref dc) [])))) dc=some (.dK []):=by rw[Zc p1.symm,Zc q1];exact c1
  have w2:(upd (upd H1 dw (.dK [])) p (.ins C dx (Zm "weights" (.ref dw) (Zm "comings" (.ref dc) [])))) dw=some (.dK []):=by rw[Zc p2.symm,Zg]
  have s2:∀b o,H b=some o->b≠p->(upd (upd H1 dw (.dK [])) p (.ins C dx (Zm "weights" (.ref dw) (Zm "comings" (.ref dc) [])))) b=some o:=fun b o e n=>by rw[Zc n,Zc (Zj (s1 b o e n) hdw)];exact s1 b o e n
  generalize (upd (upd H1 dw (.dK [])) p (.ins C dx (Zm "weights" (.ref dw) (Zm "comings" (.ref dc) []))))=H2 at g2 c2 w2 s2 ⊢
  intro dd hdd
  have p3:p≠dd:=Zj g2 hdd
  have q2:dc≠dd:=Zj c2 hdd
  have q3:dw≠dd:=Zj w2 hdd
  have z1:(Zm "comings" (V.ref dc) []).length<=0+1:=Za4 "comings" (V.ref dc) []
  have z2:=Za4 "weights" (V.ref dw) (Zm "comings" (V.ref dc) [])
  have z3:=Za4 "deaths" (V.ref dd) (Zm "weights" (V.ref dw) (Zm "comings" (V.ref dc) []))
  refine⟨_,rfl,p,C,dx,_,rfl,(by rw[Zc p3];exact g2),Tc.cl,Tc.nd,(by lia),?_⟩
  have g3:(upd (upd H2 dd (.dK [])) p (.ins C dx (Zm "deaths" (.ref dd) (Zm "weights" (.ref dw) (Zm "comings" (.ref dc) []))))) p=some (.ins C dx (Zm "deaths" (.ref dd) (Zm "weights" (.ref dw) (Zm "comings" (.ref dc) [])))):=Zg
  have c3:(upd (upd H2 dd (.dK [])) p (.ins C dx (Zm "deaths" (.ref dd) (Zm "weights" (.ref dw) (Zm "comings" (.ref dc) []))))) dc=some (.dK []):=by rw[Zc p1.symm,Zc q2];exact c2
  have w3:(upd (upd H2 dd (.dK [])) p (.ins C dx (Zm "deaths" (.ref dd) (Zm "weights" (.ref dw) (Zm "comings" (.ref dc) []))))) dw=some (.dK []):=by rw[Zc p2.symm,Zc q3];exact w2
  have d3:(upd (upd H2 dd (.dK [])) p (.ins C dx (Zm "deaths" (.ref dd) (Zm "weights" (.ref dw) (Zm "comings" (.ref dc) []))))) dd=some (.dK []):=by rw[Zc p3.symm,Zg]
  have s3:∀b o,H b=some o->b≠p->(upd (upd H2 dd (.dK [])) p (.ins C dx (Zm "deaths" (.ref dd) (Zm "weights" (.ref dw) (Zm "comings" (.ref dc) []))))) b=some o:=fun b o e n=>by rw[Zc n,Zc (Zj (s2 b o e n) hdd)];exact s2 b o e n
  generalize (upd (upd H2 dd (.dK [])) p (.ins C dx (Zm "deaths" (.ref dd) (Zm "weights" (.ref dw) (Zm "comings" (.ref dc) [])))))=H3 at g3 c3 w3 d3 s3 ⊢
  intro dh hdh
  have p4:p≠dh:=Zj g3 hdh
  have q4:dc≠dh:=Zj c3 hdh
  have q5:dw≠dh:=Zj w3 hdh
  have q6:dd≠dh:=Zj d3 hdh
  refine⟨_,rfl,p,C,dx,_,rfl,(by rw[Zc p4];exact g3),Tc.cl,Tc.nh,(by lia),?_⟩
  refine k ⟨p,dc,dw,dd,dh⟩ _ rfl ⟨⟨dx,Zg⟩,⟨[],?_,xE _,fun n=>rfl⟩,⟨[],?_,xE _⟩,⟨[],?_,xE _,fun n=>rfl⟩,⟨[],?_,xE _,fun n=>rfl⟩,q1,q2,q4,q3,q5,q6⟩ (fun b o e n=>?_) fun b hb=>?_
  ·show (upd (upd H3 dh _) p _) dc=_
   rw[Zc p1.symm,Zc q4];exact c3
  ·show (upd (upd H3 dh _) p _) dw=_
   rw[Zc p2.symm,Zc q5];exact w3
  ·show (upd (upd H3 dh _) p _) dd=_
   rw[Zc p3.symm,Zc q6];exact d3
  ·show (upd (upd H3 dh _) p _) dh=_
   rw[Zc p4.symm,Zg]
  ·rw[Zc n,Zc (Zj (s3 b o e n) hdh)];exact s3 b o e n
  ·cases eb:H b with
   | none=>rfl
   | some o =>
    rcases hb with z | z | z | z<;>subst z
    ·rw[hdc] at eb;cases eb
    ·have:=s1 _ _ eb p2.symm;rw[hdw] at this;cases this
    ·have:=s2 _ _ eb p3.symm;rw[hdd] at this;cases this
    ·have:=s3 _ _ eb p4.symm;rw[hdh] at this;cases this
def Zlx(C:Addr):Sp:=fun vs H Q _=>∃(L:FL)(ds:List Deed)(n:Str)(day wt:Int),vs = [.ref L.p,.str n,.int day,.int wt]/\FolkAt C H L ds/\(∃kvs,H L.dc=some (.dK kvs)/\kvs.length < 40)/\Wq n/\0<=day/\day<=9999/\1<=wt/\wt<=1000/\Zk ds n=none/\∀H',Same H H'->Q .non H'
abbrev Zey:Stmt:=Ym (top 37) 14
theorem Zps:FnScope ["self", "name", "day", "weight"] ["self", "name", "day", "weight"] (Zh Zey):=fsc
theorem Z1g(Zck:HasM K C "check_coming" "Folk.check_coming" Zey)(T:Txt mg)(Tc:TxC K C)(C0:∃t,mg "MOST_FOLK" = some (.int 40 t))(Zhk:Fn P w K mg base "is_name" ["text"] 1 Zfy)(Y5:Fn P w K mg base "check_day" ["day"] 1 Zda)(Zbr:Fn P w K mg base "check_weight" ["weight"] 1 Zkh) :
  Mt P w K mg base C "check_coming" ["self", "name", "day", "weight"] 2 (Zlx C):=by
 obtain⟨t0,c_MOST_FOLK⟩:=C0
 have r_MOST_FOLK:RelV (.int 40) (.int 40 t0):=⟨t0,rfl⟩
 refine Zck.mtQ Zps (fun _ _ _ _ _ _=>al4 fun _ _ _ _=>rfl) (fun vs H Q E h=>?_) (fun f cdv A outer s H vs Q E hr h=>?_)
 ·obtain⟨L,ds,n,day,wt,rfl,_⟩:=h
  rfl
 ·obtain⟨L,ds,n,day,wt,rfl,F0,hl,hnm,d0,d1,w0,w1,hc,k⟩:=h
  refine⟨_,(Ze (Zp (Vg (Vh (Z6 Zhk (Za (qvN 1) Zb)))) (Zf Uh) Zo)
 (Ze (Zi (Z6 Y5 (Za (qvN 2) Zb)))
 (Ze (Zi (Z6 Zbr (Za (qvN 3) Zb)))
 (Ze (Zp (Zv (Zas hr) (qvN 1) (Zq (qvN 0)) rfl) (Zf Uh) Zo)
 (Zf (Zp (Zv Zab (Z7 Zk7 T.len Y0 (Za (Zq (qvN 0)) Zb)) (Yy c_MOST_FOLK r_MOST_FOLK) (Z1 _)) (Zf Uh) Zo)))))),?_⟩
  refine⟨_,rfl,n,rfl,by have:=hnm.2.2;lia,fun H1 s1=>⟨_,rfl,?_⟩⟩
  rw[Zav hnm]
  refine Zt ?_
  have F:=F0.keep (Same.n s1)
  obtain⟨dx,ob⟩:=F.ob
  obtain⟨kvs,c1,c2,c3⟩:=F.c
  obtain⟨kv2,c4,c5⟩:=hl
  obtain rfl:kvs=kv2:=by have:=s1 _ _ c4;rw[c1] at this;cases this;rfl
  have g:=DGet.k (k:=Sum.inr n) c1
  rw[c3,hc] at g
  refine⟨_,rfl,day,rfl,d0,d1,?_⟩
  refine⟨_,rfl,wt,rfl,w0,w1,?_⟩
  refine⟨_,rfl,_,rfl,L.p,C,dx,_,_,rfl,ob,Tc.cl,Tc.nc,Zam _ _ _ _,L.dc,_,rfl,g,_,rfl,Zt ?_⟩
  refine⟨_,rfl,L.p,C,dx,_,_,rfl,ob,Tc.cl,Tc.nc,Zam _ _ _ _,L.dc,kvs,rfl,c1,_,_,rfl,rfl,_,rfl,Yg (fun z=>absurd z (by lia)) (fun _=>?_)⟩
  exact k H1 s1
end
section
variable{P:Program}{w:World}{K:uFg}{mg:Str->Option Value}{base:Heap}{C:Addr}
def Wg(f:Str->Option (List (Key×V))):Deed->Str->Option (List (Key×V))
 | .come n d w,m=>if m=n then some [(.inl d,.int w)] else f m
 | .rise n d w,m=>if m=n then (f m).map fun l=>Z0 l (.inl d) (.int w) else f m
 | .die _ _ _,m=>f m
def kw(ds:List Deed):Str->Option (List (Key×V)):=ds.foldl Wg fun _=>none
theorem Zad(ds:List Deed)(x:Deed):kw (ds ++ [x])=Wg (kw ds) x:=by
 unfold kw
 rw[List.foldl_append]
 rfl
def Wh:List Deed->List Str
 | []=>[]
 | .come n _ _::r=>n::Wh r
 | .rise _ _ _::r=>Wh r
 | .die _ _ _::r=>Wh r
theorem Zdr(a b:List Deed):Wh (a++b)=Wh a++Wh b:=by
 induction a with
 | nil=>rfl
 | cons x r ih=>cases x<;>simp[Wh,ih]
theorem Zla{ds:List Deed}{n:Str}{d w:Int}(x:Str):Zk (ds ++ [.rise n d w]) x=Zk ds x:=by
 rw[Zdt,Zk,Zk]
 cases Zk ds x<;>rfl
theorem Zfn{ds:List Deed}{n:Str}{d w:Int}(x:Str):Z3 (ds ++ [.rise n d w]) x=Z3 ds x:=by
 rw[Zfq,Z3,Z3]
 cases Z3 ds x<;>rfl
theorem Zmd{l:List (Key×V)}{k:Key}{v:V}{p:Key×V}(h:p∈Z0 l k v):p=(k,v)\/p∈l:=by
 unfold Z0 at h
 split at h
 ·obtain⟨q,hq,e⟩:=zC.mp h
  split at e
  ·rename_i e2
   rw[← e,e2];exact .inl rfl
  ·rw[← e];exact .inr hq
 ·rcases xJ.mp h with z | z
  ·exact .inr z
  ·exact .inl (xK.mp z)
def Zhl(l:List (Key×V)):Prop:=∀p∈l,∃(d w:Int),p=(.inl d,.int w)
theorem Zm6:∀(ds:List Deed)(f:Str->Option (List (Key×V))),(∀n l,f n=some l->Zhl l)->∀n l,ds.foldl Wg f n=some l->Zhl l
 | [],f,h,n,l,e=>h n l e
 | x::r,f,h,n,l,e=>by
  refine Zm6 r (Wg f x) (fun m l' e'=>?_) n l e
  cases x with
  | come n' d w' =>
   rw[Wg] at e'
   split at e'
   ·cases e';intro p hp;exact⟨d,w',xK.mp hp⟩
   ·exact h m l' e'
  | rise n' d w' =>
   rw[Wg] at e'
   split at e'
   ·cases e2:f m with
    | none=>rw[e2] at e';cases e'
    | some l0 =>
     rw[e2] at e'
     cases e'
     intro p hp
     rcases Zmd hp with rfl | hp
     ·exact⟨d,w',rfl⟩
     ·exact h m l0 e2 p hp
   ·exact h m l' e'
  | die n' d h'=>exact h m l' e'
theorem Zzk{ds:List Deed}{n:Str}{l:List (Key×V)}(h:kw ds n=some l):Zhl l:=Zm6 ds _ (fun _ _ z=>by cases z) n l h
def IsW(kv:Option (List (Key×V)))(day wt:Int):Prop:=∃l m,kv=some l/\Zx l (.inl m)=some (.int wt)/\m<=day/\∀d v,Zx l (.inl d)=some v->d<=day->d<=m
theorem Zqt{d:Int}{v:V}{j:Int}:Zx [((.inl d:Key),v)] (.inl j)=if j=d then some v else none:=by
 by_cases e:j=d
 ·subst e;rw[if_pos rfl];exact V8 rfl
 ·rw[if_neg e];simp[Zx,zK,Ne.symm e]
theorem Zm7:∀(ds:List Deed)(f:Str->Option (List (Key×V)))(g:Str->Option Int),(∀m,(f m).isSome=(g m).isSome)->∀m,(ds.foldl Wg f m).isSome=((g m).or (Zk ds m)).isSome
 | [],f,g,h,m=>by rw[Zk];show (f m).isSome=_;rw[h m];cases g m<;>rfl
 | x::r,f,g,h,m=>by
  have e:Zk (x::r) m=(Zk [x] m).or (Zk r m):=Zdt [x] r m
  have ih:=Zm7 r (Wg f x) (fun m=>(g m).or (Zk [x] m)) (fun m=>?_) m
  ·rw[List.foldl_cons,ih,e]
   cases g m<;>rfl
  ·cases x with
   | come n d w =>
    rw[Wg,Zk,Zk]
    by_cases z:m=n
    ·rw[if_pos z,if_pos z.symm];cases g m<;>rfl
    ·rw[if_neg z,if_neg (Ne.symm z),h m];cases g m<;>rfl
   | rise n d w =>
    rw[Wg,Zk,Zk]
    have hm:=h m
    by_cases z:m=n
    ·rw[if_pos z];cases e1:f m<;>cases e2:g m<;>rw[e1,e2] at hm<;>first | rfl | cases hm
    ·rw[if_neg z];cases e1:f m<;>cases e2:g m<;>rw[e1,e2] at hm<;>first | rfl | cases hm
   | die n d w=>rw[Wg,Zk,Zk,h m];cases g m<;>rfl
theorem Zn9(ds:List Deed)(n:Str):(kw ds n).isSome=(Zk ds n).isSome:=by
 have:=Zm7 ds (fun _=>none) (fun _=>none) (fun _=>rfl) n
 exact this
structure WtsAt (H:Hp) (L:FL) (ds:List Deed) (wa:Str->Addr):Prop where
 w:∃kvs:List (Key×V),H L.dw=some (.dK kvs)/\kvs.length<=ds.length/\∀n l,kw ds n=some l->Zx kvs (.inr n)=some (.ref (wa n))/\H (wa n)=some (.dK l)/\l.length<=ds.length
 ord:∃kvs:List (Key×V),H L.dc=some (.dK kvs)/\(kvs.map fun p=>kV p.1)=(Wh ds).map V.str
 ap:∀n l,kw ds n=some l->wa n≠L.dc/\wa n≠L.dw/\wa n≠L.dd/\wa n≠L.dh
 inj:∀n m l l',kw ds n=some l->kw ds m=some l'->wa n=wa m->n=m
theorem WtsAt.keep{H H':Hp}{L:FL}{ds:List Deed}{wa:Str->Addr}(h:WtsAt H L ds wa)(k:Zhf H H'):WtsAt H' L ds wa:=by
 obtain⟨⟨k1,w1,w2,w3⟩,⟨k2,o1,o2⟩,ap,inj⟩:=h
 exact⟨⟨k1,k _ _ (fun _ z=>nomatch z) w1,w2,fun n l e=>let ⟨a,b,c⟩:=w3 n l e;⟨a,k _ _ (fun _ z=>nomatch z) b,c⟩⟩,⟨k2,k _ _ (fun _ z=>nomatch z) o1,o2⟩,ap,inj⟩
theorem WtsAt.start{H:Hp}{L:FL}{wa:Str->Addr}(h:FolkAt C H L []):WtsAt H L [] wa:=by
 obtain⟨k,w1,w2⟩:=h.w
 obtain⟨k2,c1,c2,_⟩:=h.c
 exact⟨⟨k,w1,w2,(fun n l e=>by cases e)⟩,⟨k2,c1,by rw[List.eq_nil_of_length_eq_zero (Nat.le_zero.mp c2)];rfl⟩,(fun n l e=>by cases e),(fun n m l l' e=>by cases e)⟩
def Z4x(H:Hp)(L:FL)(ds:List Deed)(wa:Str->Addr):Prop:=∃kvs:List (Key×V),H L.dw=some (.dK kvs)/\∀p∈kvs,∃n l,kw ds n=some l/\p=(Sum.inr n,V.ref (wa n))
def own(L:FL)(ds:List Deed)(wa:Str->Addr)(b:Addr):Prop:=b=L.p\/b=L.dc\/b=L.dw\/b=L.dd\/b=L.dh\/∃n l,kw ds n=some l/\b=wa n
structure Fk (C:Addr) (H:Hp) (L:FL) (ds:List Deed) (wa:Str->Addr):Prop where
 f:FolkAt C H L ds
 w:WtsAt H L ds wa
 all:Z4x H L ds wa
def Touch(L:FL)(ds:List Deed)(wa:Str->Addr)(H H':Hp):Prop:=∀b o,H b=some o->¬own L ds wa b->H' b=some o
def Zdb(L:FL)(ds:List Deed)(wa:Str->Addr)(ds':List Deed)(wa':Str->Addr)(H:Hp):Prop:=∀b,own L ds' wa' b->own L ds wa b\/H b=none
theorem Fk.at{H H':Hp}{L:FL}{ds:List Deed}{wa:Str->Addr}(h:Fk C H L ds wa)(k:∀b o,own L ds wa b->H b=some o->H' b=some o):Fk C H' L ds wa:=by
 obtain⟨⟨⟨dx,ob⟩,⟨k1,c1,c2⟩,⟨k2,w1,w2⟩,⟨k3,d1,d2⟩,⟨k4,h1,h2⟩,a1,a2,a3,a4,a5,a6⟩,⟨⟨k5,x1,x2,x3⟩,⟨k6,o1,o2⟩,ap,inj⟩,⟨k7,y1,y2⟩⟩:=h
 have kp:=k L.p _ (.inl rfl) ob
 have kc:=fun o=>k L.dc o (.inr (.inl rfl))
 have kw':=fun o=>k L.dw o (.inr (.inr (.inl rfl)))
 exact⟨⟨⟨dx,kp⟩,⟨k1,kc _ c1,c2⟩,⟨k2,kw' _ w1,w2⟩,⟨k3,k L.dd _ (.inr (.inr (.inr (.inl rfl)))) d1,d2⟩,⟨k4,k L.dh _ (.inr (.inr (.inr (.inr (.inl rfl))))) h1,h2⟩,a1,a2,a3,a4,a5,a6⟩,
  ⟨⟨k5,kw' _ x1,x2,fun n l e=>let ⟨a,b,c⟩:=x3 n l e;⟨a,k _ _ (.inr (.inr (.inr (.inr (.inr ⟨n,l,e,rfl⟩))))) b,c⟩⟩,⟨k6,kc _ o1,o2⟩,ap,inj⟩,⟨k7,kw' _ y1,y2⟩⟩
theorem Fk.there{H:Hp}{L:FL}{ds:List Deed}{wa:Str->Addr}(h:Fk C H L ds wa){b:Addr}(hb:own L ds wa b):∃o,H b=some o/\(∀xs,o ≠ .lst xs)/\∀xs,o ≠ .tup xs:=by
 obtain⟨⟨⟨dx,ob⟩,⟨k1,c1,c2⟩,⟨k2,w1,w2⟩,⟨k3,d1,d2⟩,⟨k4,h1,h2⟩,_⟩,⟨⟨k5,x1,x2,x3⟩,_⟩,_⟩:=h
 rcases hb with rfl | rfl | rfl | rfl | rfl | ⟨n,l,e,rfl⟩
 ·exact⟨_,ob,(fun _ z=>nomatch z),(fun _ z=>nomatch z)⟩
 ·exact⟨_,c1,(fun _ z=>nomatch z),(fun _ z=>nomatch z)⟩
 ·exact⟨_,w1,(fun _ z=>nomatch z),(fun _ z=>nomatch z)⟩
 ·exact⟨_,d1,(fun _ z=>nomatch z),(fun _ z=>nomatch z)⟩
 ·exact⟨_,h1,(fun _ z=>nomatch z),(fun _ z=>nomatch z)⟩
 ·exact⟨_,(x3 n l e).2.1,(fun _ z=>nomatch z),(fun _ z=>nomatch z)⟩
theorem Touch.lt{H H':Hp}{L:FL}{ds:List Deed}{wa:Str->Addr}(h:Fk C H L ds wa)(k:Touch L ds wa H H'):SameLT H H' :=
 ⟨fun b xs e=>k b _ e fun hb=>by obtain⟨o',e',n1,_⟩:=h.there hb;rw[e] at e';cases e';exact n1 xs rfl,fun b xs e=>k b _ e fun hb=>by obtain⟨o',e',_,n2⟩:=h.there hb;rw[e] at e';cases e';exact n2 xs rfl⟩
theorem Fk.cnt{H:Hp}{L:FL}{ds:List Deed}{wa:Str->Addr}(h:Fk C H L ds wa):∃kvs,H L.dc=some (.dK kvs)/\kvs.length=(Wh ds).length:=by
 obtain⟨kvs,a,b⟩:=h.w.ord
 exact⟨kvs,a,by have:=congrArg List.length b;rwa [xB,xB] at this⟩
def Zm8(C:Addr):Sp:=fun vs H Q _=>∃(L:FL)(ds:List Deed)(wa:Str->Addr)(n:Str)(day wt:Int),vs = [.ref L.p,.str n,.int day,.int wt]/\Fk C H L ds wa/\(Wh ds).length < 40/\ds.length<=1000/\Wq n/\0<=day/\day<=9999/\1<=wt/\wt<=1000/\Zk ds n=none /\
 ∀(wa':Str->Addr)(H':Hp),Fk C H' L (ds ++ [.come n day wt]) wa'->Touch L ds wa H H'->Zdb L ds wa (ds ++ [.come n day wt]) wa' H->Q .non H'
abbrev Zhm:Stmt:=Ym (top 37) 1
theorem Z1h:FnScope ["self", "name", "day", "weight"] ["self", "name", "day", "weight"] (Zh Zhm):=fsc
theorem Z1i(Zhn:HasM K C "come" "Folk.come" Zhm)(Tc:TxC K C)(M_check_coming:Mt P w K mg base C "check_coming" ["self", "name", "day", "weight"] 2 (Zlx C)) :
  Mt P w K mg base C "come" ["self", "name", "day", "weight"] 3 (Zm8 C):=by
 refine Zhn.mtQ Z1h (fun _ _ _ _ _ _=>al4 fun _ _ _ _=>rfl) (fun vs H Q E h=>?_) (fun f cdv A outer s H vs Q E hr h=>?_)
 ·obtain⟨L,ds,wa,n,day,wt,rfl,_⟩:=h
  rfl
 ·obtain⟨L,ds,wa,n,day,wt,rfl,K0,hcm,hl,hnm,d0,d1,w0,w1,hc,k⟩:=h
  refine⟨_,(Ze (Zi (Yw (qvN 0) Tc.cl M_check_coming (Za (qvN 1) (Za (qvN 2) (Za (qvN 3) Zb)))))
 (Ze (Zac hr (Zq (qvN 0)) (qvN 1) (qvN 2))
 (Zf (Zac hr (Zq (qvN 0)) (qvN 1) (Zvi (qvN 2) (qvN 3)))))),?_⟩
  have F0:=K0.f
  have W0:=K0.w
  have hz:(5000:Nat)<=sizeLine:=by decide
  obtain⟨dx0,ob0⟩:=F0.ob
  refine⟨_,rfl,L.p,dx0,_,rfl,ob0,Ys _ _ _ _ (by decide +kernel),_,rfl,_,rfl,_,rfl,L,ds,n,day,wt,rfl,F0,(let ⟨kvs,a,b⟩:=K0.cnt;⟨kvs,a,by lia⟩),hnm,d0,d1,w0,w1,hc,fun H1 s1=>?_⟩
  have F:=F0.keep (Same.n s1)
  have W:=W0.keep (Same.n s1)
  obtain⟨k9,y8,y9⟩:=K0.all
  have y7:=s1 _ _ y8
  have hkn:kw ds n=none:=by
   have:=Zn9 ds n
   rw[hc] at this
   cases e:kw ds n with
   | none=>rfl
   | some l=>rw[e] at this;cases this
  obtain⟨⟨dx,ob⟩,⟨k1,c1,c2,c3⟩,_,⟨k3,e1,e2,e3⟩,⟨k4,h1,h2,h3⟩,a1,a2,a3,a4,a5,a6⟩:=F
  obtain⟨⟨k2,w2,w3,w4⟩,⟨k1',o1,o2⟩,wap,winj⟩:=W
  rw[c1] at o1
  cases o1
  have np:L.p≠L.dc:=fun z=>by rw[z,c1] at ob;cases ob
  have np2:L.p≠L.dw:=fun z=>by rw[z,w2] at ob;cases ob
  refine⟨_,rfl,_,rfl,L.p,C,dx,_,_,rfl,ob,Tc.cl,Tc.nc,Zam _ _ _ _,_,rfl,L.dc,_,rfl,DPut.k (k:=Sum.inr n) c1 (by lia),?_⟩
  have T1:=SameLT.updD (kvs':=Z0 k1 (Sum.inr n) (.int day)) c1
  have g0:∀b o,b≠L.dc->H1 b=some o->(upd H1 L.dc (.dK (Z0 k1 (Sum.inr n) (.int day)))) b=some o:=fun b o nb e=>by rw[Zc nb];exact e
  have g2:(upd H1 L.dc (.dK (Z0 k1 (Sum.inr n) (.int day)))) L.dc=some (.dK (Z0 k1 (Sum.inr n) (.int day))):=Zg
  generalize (upd H1 L.dc (.dK (Z0 k1 (Sum.inr n) (.int day))))=H2 at T1 g0 g2 ⊢
  have g1:=g0 _ _ np ob
  have g3:=g0 _ _ a1.symm w2
  have g4:=g0 _ _ a2.symm e1
  have g5:=g0 _ _ a3.symm h1
  intro q hq
  refine⟨_,rfl,_,rfl,Zg,[(Sum.inl day,.int wt)],rfl,by show 1<=15;decide,?_⟩
  have S3:Same H2 (upd (upd H2 q (.dK [])) q (.dK (Zao [] [(Sum.inl day,.int wt)]))):=fun b o e=>by rw[Zc (Zj e hq),Zc (Zj e hq)];exact e
  have kq:(upd (upd H2 q (.dK [])) q (.dK (Zao [] [(Sum.inl day,.int wt)]))) q=some (.dK [(Sum.inl day,.int wt)]):=Zg
  generalize (upd (upd H2 q (.dK [])) q (.dK (Zao [] [(Sum.inl day,.int wt)])))=H3 at S3 kq ⊢
  refine⟨_,rfl,L.p,C,dx,_,_,rfl,S3 _ _ g1,Tc.cl,Tc.nw,Zkg _ _ _ _,_,rfl,L.dw,_,rfl,DPut.k (k:=Sum.inr n) (S3 _ _ g3) (by lia),?_⟩
  have T4:=SameLT.updD (kvs':=Z0 k2 (Sum.inr n) (.ref q)) (S3 _ _ g3)
  have ll:=Vv k1 (Sum.inr n:Key) (V.int day)
  have ll2:=Vv k2 (Sum.inr n:Key) (V.ref q)
  have lapp:(ds ++ [Deed.come n day wt]).length=ds.length+1:=by rw[xN];rfl
  have q1:q≠L.dc:=fun z=>by rw[z,g2] at hq;cases hq
  have q2:q≠L.dw:=fun z=>by rw[z,g3] at hq;cases hq
  have q3:q≠L.dd:=fun z=>by rw[z,g4] at hq;cases hq
  have q4:q≠L.dh:=fun z=>by rw[z,g5] at hq;cases hq
  have old:∀m l,kw ds m=some l->H3 (wa m)=some (.dK l)/\wa m≠q:=fun m l e=>by
   have hh:=g0 _ _ (wap m l e).1 (w4 m l e).2.1
   exact⟨S3 _ _ hh,Zj hh hq⟩
  have hkw:∀m l,kw (ds ++ [.come n day wt]) m=some l->(m=n/\l = [(Sum.inl day,.int wt)])\/(m≠n/\kw ds m=some l):=fun m l e=>by
   rw[Zad,Wg] at e
   split at e
   ·rename_i z;cases e;exact .inl ⟨z,rfl⟩
   ·rename_i z;exact .inr ⟨z,e⟩
  refine k (fun m=>if m=n then q else wa m) _ ⟨⟨⟨dx,by rw[Zc np2];exact S3 _ _ g1⟩,⟨_,by rw[Zc a1];exact S3 _ _ g2,by lia,fun x=>?_⟩,⟨_,Zg,by lia⟩,⟨k3,by rw[Zc a4.symm];exact S3 _ _ g4,by lia,fun x=>?_⟩,⟨k4,by rw[Zc a5.symm];exact S3 _ _ g5,by lia,fun x=>?_⟩,a1,a2,a3,a4,a5,a6⟩,
   ⟨⟨_,Zg,by lia,fun m l e=>?_⟩,⟨_,by rw[Zc a1];exact S3 _ _ g2,?_⟩,fun m l e=>?_,fun m m' l l' e e' z=>?_⟩,⟨_,Zg,fun p hp=>?_⟩⟩ (fun b o e hn=>?_) (fun b hb=>?_)
  ·rw[Ue,Zsq hc]
   by_cases e:x=n
   ·subst e;rw[if_pos rfl,if_pos rfl];rfl
   ·rw[if_neg (fun z=>e (Sum.inr.inj z)),if_neg e];exact c3 x
  ·rw[Zk9];exact e3 x
  ·rw[Zk9];exact h3 x
  ·(try dsimp only)
   rcases hkw m l e with⟨rfl,rfl⟩ | ⟨hm,e'⟩
   ·rw[if_pos rfl]
    exact⟨by rw[Ue,if_pos rfl],by rw[Zc q2];exact kq,by rw[lapp];show 1<=_;lia⟩
   ·rw[if_neg hm]
    obtain⟨y1,y2,y3⟩:=w4 m l e'
    exact⟨by rw[Ue,if_neg (fun z=>hm (Sum.inr.inj z))];exact y1,by rw[Zc (wap m l e').2.1];exact(old m l e').1,by lia⟩
  ·have hv:Zx k1 (Sum.inr n:Key)=none:=by rw[c3,hc];rfl
   rw[Zut _ hv,xV,Zdr,xV,o2]
   rfl
  ·(try dsimp only)
   rcases hkw m l e with⟨rfl,rfl⟩ | ⟨hm,e'⟩
   ·rw[if_pos rfl];exact⟨q1,q2,q3,q4⟩
   ·rw[if_neg hm];exact wap m l e'
  ·(try dsimp only at z)
   rcases hkw m l e with⟨rfl,rfl⟩ | ⟨hm,y⟩
   ·rcases hkw m' l' e' with⟨rfl,rfl⟩ | ⟨hm',y'⟩
    ·rfl
    ·rw[if_pos rfl,if_neg hm'] at z
     exact absurd z.symm (old m' l' y').2
   ·rcases hkw m' l' e' with⟨rfl,rfl⟩ | ⟨hm',y'⟩
    ·rw[if_neg hm,if_pos rfl] at z
     exact absurd z (old m l y).2
    ·rw[if_neg hm,if_neg hm'] at z
     exact winj m m' l l' y y' z
  ·rw[w2] at y7
   cases y7
   rcases Zmd hp with rfl | hp
   ·exact⟨n,[(Sum.inl day,.int wt)],by rw[Zad,Wg,if_pos rfl],by (try dsimp only);rw[if_pos rfl]⟩
   ·obtain⟨m,l,e,rfl⟩:=y9 p hp
    have hm:m≠n:=fun z=>by rw[z,hkn] at e;cases e
    exact⟨m,l,by rw[Zad,Wg,if_neg hm];exact e,by (try dsimp only);rw[if_neg hm]⟩
  ·rw[Zc (fun z=>hn (.inr (.inr (.inl z))))]
   exact S3 _ _ (g0 b o (fun z=>hn (.inr (.inl z))) (s1 _ _ e))
  ·rcases hb with z | z | z | z | z | ⟨m,l,e,z⟩
   ·exact .inl (.inl z)
   ·exact .inl (.inr (.inl z))
   ·exact .inl (.inr (.inr (.inl z)))
   ·exact .inl (.inr (.inr (.inr (.inl z))))
   ·exact .inl (.inr (.inr (.inr (.inr (.inl z)))))
   ·(try dsimp only at z)
    rcases hkw m l e with⟨rfl,rfl⟩ | ⟨hm,y⟩
    ·rw[if_pos rfl] at z
     refine .inr ?_
     cases eq:H b with
     | none=>rfl
     | some o =>
      have:=g0 _ _ (by rw[z];exact q1) (s1 _ _ eq)
      rw[z,hq] at this
      cases this
    ·rw[if_neg hm] at z
     exact .inl (.inr (.inr (.inr (.inr (.inr ⟨m,l,y,z⟩)))))
end
section
variable{P:Program}{w:World}{K:uFg}{mg:Str->Option Value}{base:Heap}{C:Addr}
def Zme(C:Addr):Sp:=fun vs H Q _=>∃(L:FL)(ds:List Deed)(n:Str)(day:Int),vs = [.ref L.p,.str n,.int day]/\FolkAt C H L ds/\Wo ds n day=false/\Q .non H
abbrev Zez:Stmt:=Ym (top 37) 19
theorem Zpt:FnScope ["self", "name", "day"] ["self", "name", "day"] (Zh Zez):=fsc
theorem Z1j(Zcl:HasM K C "check_living" "Folk.check_living" Zez)(Tc:TxC K C)(M_died_by:Mt P w K mg base C "died_by" ["self", "name", "day"] 1 (Zfz C)):Mt P w K mg base C "check_living" ["self", "name", "day"] 2 (Zme C):=by
 refine Zcl.mtQ Zpt (fun _ _ _ _ _ _=>al3 fun _ _ _=>rfl) (fun vs H Q E h=>?_) (fun f cdv A outer s H vs Q E hr h=>?_)
 ·obtain⟨L,ds,n,day,rfl,_⟩:=h
  rfl
 ·obtain⟨L,ds,n,day,rfl,F,hd,k⟩:=h
  refine⟨_,(Zf (Zp (Vh (Yw (qvN 0) Tc.cl M_died_by (Za (qvN 1) (Za (qvN 2) Zb)))) (Zf Uh) Zo)),?_⟩
  obtain⟨dx,ob⟩:=F.ob
  refine⟨_,rfl,L.p,dx,_,rfl,ob,Ys _ _ _ _ (by decide +kernel),_,rfl,_,rfl,L,ds,n,day,rfl,F,_,rfl,?_⟩
  rw[hd]
  exact Zt k
def V7(l:List (Key×V))(day:Int):List Int:=l.filterMap fun p=>match p.1 with
 | .inl d=>if d<=day then some d else none
 | .inr _=>none
theorem Zt2{l:List (Key×V)}{i:Nat}{d wt day:Int}(h:l[i]? = some (.inl d,.int wt)):V7 (l.take (i+1)) day=V7 (l.take i) day++(if d<=day then [d] else []):=by
 unfold V7
 rw[yP,h,List.filterMap_append]
 congr 1
 by_cases e:d<=day
 ·simp[e]
 ·simp[e]
theorem upTo_mem{l:List (Key×V)}{day x:Int}:x∈V7 l day↔(∃v,(.inl x,v)∈l)/\x<=day:=by
 unfold V7
 rw[List.mem_filterMap]
 constructor
 ·rintro⟨⟨k,v⟩,hp,e⟩
  cases k with
  | inl d =>
   have e:(if d<=day then some d else none)=some x:=e
   split at e
   ·cases e;exact⟨⟨v,hp⟩,by assumption⟩
   ·cases e
  | inr y=>cases e
 ·rintro⟨⟨v,hp⟩,hx⟩
  exact⟨(.inl x,v),hp,by show (if x<=day then some x else none)=_;rw[if_pos hx]⟩
theorem Zt3{l:List (Key×V)}{k:Key}{v:V}(h:Zx l k=some v):(k,v)∈l:=by
 unfold Zx at h
 cases e:l.find? fun kv=>decide (kv.1=k) with
 | none=>rw[e] at h;cases h
 | some p =>
  rw[e] at h
  cases h
  have h1:=List.mem_of_find?_eq_some e
  have h2:=List.find?_some e
  have h2:p.1=k:=by simpa using h2
  rw[← h2]
  exact h1
theorem Zvq{l:List (Key×V)}{k:Key}{v:V}(h:(k,v)∈l):∃u,Zx l k=some u:=by
 unfold Zx
 cases e:l.find? fun kv=>decide (kv.1=k) with
 | none =>
  have:=List.find?_eq_none.mp e (k,v) h
  exact absurd (yL rfl) this
 | some p=>exact⟨p.2,rfl⟩
def Zm9(C:Addr):Sp:=fun vs H Q _=>∃(L:FL)(ds:List Deed)(wa:Str->Addr)(n:Str)(day d0 wt:Int),vs = [.ref L.p,.str n,.int day]/\FolkAt C H L ds/\WtsAt H L ds wa/\ds.length<=1000/\0<=day/\day<=9999/\Zk ds n=some d0/\d0<=day/\IsW (kw ds n) day wt/\∀H',Same H H'->Q (.int wt) H'
abbrev Ze0:Stmt:=Ym (top 37) 6
theorem Z1k:FnScope ["self", "name", "day", "told"] ["self", "name", "day"] (Zh Ze0):=fsc
theorem Nq0:Nm (Zh Ze0) "day" .cell:=by decide +kernel
theorem Z1l(Zho:HasM K C "weight" "Folk.weight" Ze0)(T:Txt mg)(Tc:TxC K C)(Y5:Fn P w K mg base "check_day" ["day"] 1 Zda)(M_check_known:Mt P w K mg base C "check_known" ["self", "name"] 1 (Zd8 C))(M_check_there:Mt P w K mg base C "check_there" ["self", "name", "day"] 1 (Zd9 C)) :
  Mt P w K mg base C "weight" ["self", "name", "day"] 2 (Zm9 C):=by
 refine Zho.mtQ Z1k (fun _ _ _ _ _ _=>al3 fun _ _ _=>rfl) (fun vs H Q E h=>?_) (fun f cdv A outer s H vs Q E hr h=>?_)
 ·obtain⟨L,ds,wa,n,day,d0,wt,rfl,_⟩:=h
  rfl
 ·obtain⟨L,ds,wa,n,day,e0,wt,rfl,F,W,hl,d0,d1,hc,hd,hw,k⟩:=h
  refine⟨_,(Ze (Zi (Z6 Y5 (Za (qvC 2 Nq0) Zb)))
 (Ze (Zi (Yw (qvN 0) Tc.cl M_check_known (Za (qvN 1) Zb)))
 (Ze (Zi (Yw (qvN 0) Tc.cl M_check_there (Za (qvN 1) (Za (qvC 2 Nq0) Zb))))
 (Ze (Z4 3 (Zb3 hr (Zq (qvN 0)) (qvN 1) (fun _ _=>rfl)))
 (Zf (Zu (Zb3 hr (qvN 3) (Z7 (Zso (by rfl)) T.max Zpb (Za (Zxm (Ur (locs:=["since"]) (fr:=[("day", 2)]) ⟨rfl,by decide +kernel,by decide +kernel,by decide +kernel,by decide +kernel,by decide +kernel⟩ (.consN Nq0 .nil) rfl (Zxn (qvN 3)) ⟨fun _ _ _ _ _ _=>by
  have cnd:(inN ["since"] [("day", 2)]).Nodup:=by decide +kernel
  exact⟨(Vw 0 cnd),(Zd5 (Zv Wa (Vc 0) (Zbp 1) (Z1 _))),(Vc 0)⟩⟩)) Zb)) (fun _ _=>rfl)))))))),?_⟩
  have hz:(5000:Nat)<=sizeLine:=by decide
  obtain⟨dx,ob⟩:=F.ob
  refine⟨_,rfl,day,rfl,d0,d1,?_⟩
  refine⟨_,rfl,L.p,dx,_,rfl,ob,Ys _ _ _ _ (by decide +kernel),_,rfl,L,ds,n,e0,rfl,F,hc,?_⟩
  refine⟨_,rfl,L.p,dx,_,rfl,ob,Ys _ _ _ _ (by decide +kernel),_,rfl,_,rfl,L,ds,n,e0,day,rfl,F,hc,hd,?_⟩
  obtain⟨l,m0,hkl,hm0,hm1,hm2⟩:=hw
  obtain⟨k2,w2,w3,w4⟩:=W.w
  obtain⟨y1,y2,y3⟩:=w4 n l hkl
  have hint:=Zzk hkl
  have g:=DGet.k (k:=Sum.inr n) w2
  rw[y1] at g
  refine⟨_,rfl,L.p,C,dx,_,_,rfl,ob,Tc.cl,Tc.nw,Zkg _ _ _ _,_,rfl,L.dw,.ref (wa n),rfl,g,?_⟩
  refine⟨_,rfl,wa n,l,y2,fun o=>?_⟩
  refine⟨_,rfl,wa n,o,l,rfl,Zg,?_⟩
  refine Ztw (fun i ys H'=>H'=upd H (wa n) (.frz o (.dK l))/\ys=(V7 (l.take i) day).map V.int) ⟨rfl,rfl⟩ (by lia) (fun i ys H' _ ⟨e,_⟩=>by rw[e];exact Zg) ?_ ?_ ?_
  ·rintro i ys H' ⟨_,rfl⟩
   rw[xB]
   unfold V7
   refine xT (List.length_filterMap_le _ _) ?_
   rw[xX];lia
  ·rintro i p ys H' hp ⟨rfl,rfl⟩ ls hls
   obtain⟨w0,rfl⟩:=Zch hls
   obtain⟨d,wt',rfl⟩:=hint p (xI hp)
   refine⟨⟨[_],rfl,rfl⟩,?_⟩
   refine⟨_,rfl,_,rfl,d,day,rfl,rfl,_,rfl,?_⟩
   rw[Zt2 hp]
   refine Yg (fun e=>?_) (fun e=>?_)
   ·refine⟨_,rfl,rfl,?_⟩
    rw[if_pos e,xV]
    rfl
   ·exact⟨rfl,by rw[if_neg e,yQ]⟩
  ·rintro ys H' ⟨rfl,rfl⟩ q hq
   rw[yU]
   have nq:q≠wa n:=fun z=>by rw[z,Zg] at hq;cases hq
   refine⟨by rw[Zc nq.symm];exact Zg,?_⟩
   have hqH:H q=none:=by rw[Zc nq] at hq;exact hq
   have S:Same H (upd (upd (upd H (wa n) (.frz o (.dK l))) q (.lst ((V7 l day).map V.int))) (wa n) (.dK l)):=fun b ob e=>by
    by_cases z:b=wa n
    ·rw[z,Zg];rw[z,y2] at e;exact e
    ·rw[Zc z,Zc (Zj e hqH),Zc z];exact e
   have kq:(upd (upd (upd H (wa n) (.frz o (.dK l))) q (.lst ((V7 l day).map V.int))) (wa n) (.dK l)) q=some (.lst ((V7 l day).map V.int)):=by rw[Zc nq,Zg]
   generalize (upd (upd (upd H (wa n) (.frz o (.dK l))) q (.lst ((V7 l day).map V.int))) (wa n) (.dK l))=H2 at S kq ⊢
   have hin:m0∈V7 l day:=upTo_mem.mpr ⟨⟨_,Zt3 hm0⟩,hm1⟩
   refine⟨q,V7 l day,rfl,SqL.of kq,(fun z=>by rw[z] at hin;cases hin),fun m hm hmx=>?_⟩
   obtain⟨⟨v,hv⟩,hmd⟩:=upTo_mem.mp hm
   obtain⟨u,hu⟩:=Zvq hv
   have e1:=hm2 m u hu hmd
   have e2:=hmx m0 hin
   have em:m=m0:=by lia
   subst em
   have g2:=DGet.k (k:=Sum.inl m) (S _ _ y2)
   rw[hm0] at g2
   exact⟨wa n,.int wt,rfl,g2,k H2 S⟩
end
section
variable{P:Program}{w:World}{K:uFg}{mg:Str->Option Value}{base:Heap}{C:Addr}
def Zly(C:Addr):Sp:=fun vs H Q _=>∃(L:FL)(ds:List Deed)(n:Str)(day wt d0:Int),vs = [.ref L.p,.str n,.int day,.int wt]/\FolkAt C H L ds/\0<=day/\day<=9999/\1<=wt/\wt<=1000/\Zk ds n=some d0/\d0<=day/\Wo ds n day=false/\Q .non H
abbrev Ze1:Stmt:=Ym (top 37) 15
theorem Zpu:FnScope ["self", "name", "day", "weight"] ["self", "name", "day", "weight"] (Zh Ze1):=fsc
theorem Z1m(Zcm:HasM K C "check_rise" "Folk.check_rise" Ze1)(Tc:TxC K C)(Y5:Fn P w K mg base "check_day" ["day"] 1 Zda)(Zbr:Fn P w K mg base "check_weight" ["weight"] 1 Zkh)(M_check_known:Mt P w K mg base C "check_known" ["self", "name"] 1 (Zd8 C))(M_check_there:Mt P w K mg base C "check_there" ["self", "name", "day"] 1 (Zd9 C))(M_check_living:Mt P w K mg base C "check_living" ["self", "name", "day"] 2 (Zme C)):Mt P w K mg base C "check_rise" ["self", "name", "day", "weight"] 3 (Zly C):=by
 refine Zcm.mtQ Zpu (fun _ _ _ _ _ _=>al4 fun _ _ _ _=>rfl) (fun vs H Q E h=>?_) (fun f cdv A outer s H vs Q E hr h=>?_)
 ·obtain⟨L,ds,n,day,wt,d0,rfl,_⟩:=h
  rfl
 ·obtain⟨L,ds,n,day,wt,e0,rfl,F,d0,d1,w0,w1,hc,hd,hv,k⟩:=h
  refine⟨_,(Ze (Zi (Z6 Y5 (Za (qvN 2) Zb)))
 (Ze (Zi (Z6 Zbr (Za (qvN 3) Zb)))
 (Ze (Zi (Yw (qvN 0) Tc.cl M_check_known (Za (qvN 1) Zb)))
 (Ze (Zi (Yw (qvN 0) Tc.cl M_check_there (Za (qvN 1) (Za (qvN 2) Zb))))
 (Zf (Zi (Yw (qvN 0) Tc.cl M_check_living (Za (qvN 1) (Za (qvN 2) Zb))))))))),?_⟩
  obtain⟨dx,ob⟩:=F.ob
  refine⟨_,rfl,day,rfl,d0,d1,?_⟩
  refine⟨_,rfl,wt,rfl,w0,w1,?_⟩
  refine⟨_,rfl,L.p,dx,_,rfl,ob,Ys _ _ _ _ (by decide +kernel),_,rfl,L,ds,n,e0,rfl,F,hc,?_⟩
  refine⟨_,rfl,L.p,dx,_,rfl,ob,Ys _ _ _ _ (by decide +kernel),_,rfl,_,rfl,L,ds,n,e0,day,rfl,F,hc,hd,?_⟩
  exact⟨_,rfl,L.p,dx,_,rfl,ob,Ys _ _ _ _ (by decide +kernel),_,rfl,_,rfl,L,ds,n,day,rfl,F,hv,k⟩
def Zoa(C:Addr):Sp:=fun vs H Q _=>∃(L:FL)(ds:List Deed)(wa:Str->Addr)(n:Str)(day wt d0:Int),vs = [.ref L.p,.str n,.int day,.int wt]/\Fk C H L ds wa/\ds.length<=1000/\0<=day/\day<=9999/\1<=wt/\wt<=1000/\Zk ds n=some d0/\d0<=day/\Wo ds n day=false /\
 ∀H',Fk C H' L (ds ++ [.rise n day wt]) wa->Touch L ds wa H H'->Zdb L ds wa (ds ++ [.rise n day wt]) wa H->Q .non H'
abbrev Zhp:Stmt:=Ym (top 37) 2
theorem Z1n:FnScope ["self", "name", "day", "weight"] ["self", "name", "day", "weight"] (Zh Zhp):=fsc
theorem Z1o(Zhq:HasM K C "rise" "Folk.rise" Zhp)(Tc:TxC K C)(M_check_rise:Mt P w K mg base C "check_rise" ["self", "name", "day", "weight"] 3 (Zly C)):Mt P w K mg base C "rise" ["self", "name", "day", "weight"] 4 (Zoa C):=by
 refine Zhq.mtQ Z1n (fun _ _ _ _ _ _=>al4 fun _ _ _ _=>rfl) (fun vs H Q E h=>?_) (fun f cdv A outer s H vs Q E hr h=>?_)
 ·obtain⟨L,ds,wa,n,day,wt,d0,rfl,_⟩:=h
  rfl
 ·obtain⟨L,ds,wa,n,day,wt,e0,rfl,K0,hl,d0,d1,w0,w1,hc,hd,hv,k⟩:=h
  refine⟨_,(Ze (Zi (Yw (qvN 0) Tc.cl M_check_rise (Za (qvN 1) (Za (qvN 2) (Za (qvN 3) Zb)))))
 (Zf (Zac hr (Zb3 hr (Zq (qvN 0)) (qvN 1) (fun _ _=>rfl)) (qvN 2) (qvN 3)))),?_⟩
  have F:=K0.f
  have W:=K0.w
  obtain⟨k9,y8,y9⟩:=K0.all
  have hz:(5000:Nat)<=sizeLine:=by decide
  obtain⟨dx0,ob0⟩:=F.ob
  refine⟨_,rfl,L.p,dx0,_,rfl,ob0,Ys _ _ _ _ (by decide +kernel),_,rfl,_,rfl,_,rfl,L,ds,n,day,wt,e0,rfl,F,d0,d1,w0,w1,hc,hd,hv,?_⟩
  obtain⟨l,hkl⟩:∃l,kw ds n=some l:=by
   have:=Zn9 ds n
   rw[hc] at this
   cases e:kw ds n with
   | none=>rw[e] at this;cases this
   | some l=>exact⟨l,rfl⟩
  obtain⟨⟨dx,ob⟩,⟨k1,c1,c2,c3⟩,_,⟨k3,e1,e2,e3⟩,⟨k4,h1,h2,h3⟩,a1,a2,a3,a4,a5,a6⟩:=F
  obtain⟨⟨k2,w2,w3,w4⟩,⟨k1',o1,o2⟩,wap,winj⟩:=W
  rw[c1] at o1
  cases o1
  obtain⟨y1,y2,y3⟩:=w4 n l hkl
  obtain⟨z1,z2,z3,z4⟩:=wap n l hkl
  have zp:L.p≠wa n:=fun z=>by rw[z,y2] at ob;cases ob
  have g:=DGet.k (k:=Sum.inr n) w2
  rw[y1] at g
  refine⟨_,rfl,_,rfl,L.p,C,dx,_,_,rfl,ob,Tc.cl,Tc.nw,Zkg _ _ _ _,_,rfl,L.dw,.ref (wa n),rfl,g,_,rfl,wa n,_,rfl,DPut.k (k:=Sum.inl day) y2 (by lia),?_⟩
  have T1:=SameLT.updD (kvs':=Z0 l (Sum.inl day) (.int wt)) y2
  have ll:=Vv l (Sum.inl day:Key) (V.int wt)
  have lapp:(ds ++ [Deed.rise n day wt]).length=ds.length+1:=by rw[xN];rfl
  have hkw:∀m l',kw (ds ++ [.rise n day wt]) m=some l'->(m=n/\l'=Z0 l (Sum.inl day) (.int wt))\/(m≠n/\kw ds m=some l'):=fun m l' e=>by
   rw[Zad,Wg] at e
   split at e
   ·rename_i z
    subst z
    rw[hkl] at e
    cases e
    exact .inl ⟨rfl,rfl⟩
   ·rename_i z;exact .inr ⟨z,e⟩
  have old:∀m l',kw (ds ++ [.rise n day wt]) m=some l'->∃l'',kw ds m=some l'':=fun m l' e=>by
   rcases hkw m l' e with⟨rfl,_⟩ | ⟨_,y⟩
   ·exact⟨l,hkl⟩
   ·exact⟨l',y⟩
  refine k _ ⟨⟨⟨dx,by rw[Zc zp];exact ob⟩,⟨k1,by rw[Zc z1.symm];exact c1,by lia,fun x=>by rw[Zla];exact c3 x⟩,⟨k2,by rw[Zc z2.symm];exact w2,by lia⟩,⟨k3,by rw[Zc z3.symm];exact e1,by lia,fun x=>by rw[Zfn];exact e3 x⟩,⟨k4,by rw[Zc z4.symm];exact h1,by lia,fun x=>by rw[Zfn];exact h3 x⟩,a1,a2,a3,a4,a5,a6⟩,
   ⟨⟨k2,by rw[Zc z2.symm];exact w2,by lia,fun m l' e=>?_⟩,⟨k1,by rw[Zc z1.symm];exact c1,?_⟩,fun m l' e=>?_,fun m m' l1 l2 e e' z=>?_⟩,⟨k9,by rw[Zc z2.symm];exact y8,fun p hp=>?_⟩⟩ (fun b o e hn=>?_) (fun b hb=>?_)
  ·rcases hkw m l' e with⟨rfl,rfl⟩ | ⟨hm,y⟩
   ·exact⟨y1,Zg,by lia⟩
   ·obtain⟨x1,x2,x3⟩:=w4 m l' y
    exact⟨x1,by rw[Zc (fun z=>hm (winj m n l' l y hkl z))];exact x2,by lia⟩
  ·rw[Zdr,o2]
   show _=((Wh ds)++[]).map V.str
   rw[yQ]
  ·obtain⟨l'',y⟩:=old m l' e
   exact wap m l'' y
  ·obtain⟨x1,y⟩:=old m l1 e
   obtain⟨x2,y'⟩:=old m' l2 e'
   exact winj m m' x1 x2 y y' z
  ·obtain⟨m,l',e,rfl⟩:=y9 p hp
   by_cases hm:m=n
   ·subst hm
    exact⟨m,Z0 l (Sum.inl day) (.int wt),by rw[Zad,Wg,if_pos rfl,hkl];rfl,rfl⟩
   ·exact⟨m,l',by rw[Zad,Wg,if_neg hm];exact e,rfl⟩
  ·rw[Zc (fun z=>hn (.inr (.inr (.inr (.inr (.inr ⟨n,l,hkl,z⟩))))))]
   exact e
  ·rcases hb with z | z | z | z | z | ⟨m,l',e,z⟩
   ·exact .inl (.inl z)
   ·exact .inl (.inr (.inl z))
   ·exact .inl (.inr (.inr (.inl z)))
   ·exact .inl (.inr (.inr (.inr (.inl z))))
   ·exact .inl (.inr (.inr (.inr (.inr (.inl z)))))
   ·obtain⟨l'',y⟩:=old m l' e
    exact .inl (.inr (.inr (.inr (.inr (.inr ⟨m,l'',y,z⟩)))))
def Zmf(C:Addr):Sp:=fun vs H Q _=>∃(L:FL)(ds:List Deed)(n:Str),vs = [.ref L.p,.str n]/\FolkAt C H L ds/\Z3 ds n=none/\Q .non H
abbrev Ze2:Stmt:=Ym (top 37) 20
theorem Zpv:FnScope ["self", "name"] ["self", "name"] (Zh Ze2):=fsc
theorem Z1p(Zcn:HasM K C "check_untold" "Folk.check_untold" Ze2)(Tc:TxC K C):Mt P w K mg base C "check_untold" ["self", "name"] 1 (Zmf C):=by
 refine Zcn.mtQ Zpv (fun _ _ _ _ _ _=>al2 fun _ _=>rfl) (fun vs H Q E h=>?_) (fun f cdv A outer s H vs Q E hr h=>?_)
 ·obtain⟨L,ds,n,rfl,_⟩:=h
  rfl
 ·obtain⟨L,ds,n,rfl,F,c5,k⟩:=h
  refine⟨_,(Zf (Zp (Zv (Zas hr) (qvN 1) (Zq (qvN 0)) rfl) (Zf Uh) Zo)),?_⟩
  obtain⟨dx,ob⟩:=F.ob
  obtain⟨kvs,e1,e2,e3⟩:=F.d
  have g:=DGet.k (k:=Sum.inr n) e1
  rw[e3,c5] at g
  exact⟨_,rfl,_,rfl,L.p,C,dx,_,_,rfl,ob,Tc.cl,Tc.nd,Zbq _ _ _ _,L.dd,_,rfl,g,_,rfl,Zt k⟩
def Zmg(C:Addr):Sp:=fun vs H Q _=>∃(L:FL)(ds:List Deed)(n hr:Str)(day dn dr:Int),vs = [.ref L.p,.str n,.int day,.str hr]/\FolkAt C H L ds/\0<=day/\day<=9999/\Zk ds n=some dn/\dn<=day/\Zk ds hr=some dr/\dr<=day/\Z3 ds n=none/\Z3 ds hr=none/\hr≠n/\Q .non H
abbrev Ze3:Stmt:=Ym (top 37) 16
theorem Zpw:FnScope ["self", "name", "day", "heir"] ["self", "name", "day", "heir"] (Zh Ze3):=fsc
theorem Z1q(Zco:HasM K C "check_death" "Folk.check_death" Ze3)(Tc:TxC K C)(Y5:Fn P w K mg base "check_day" ["day"] 1 Zda)(M_check_known:Mt P w K mg base C "check_known" ["self", "name"] 1 (Zd8 C))(M_check_there:Mt P w K mg base C "check_there" ["self", "name", "day"] 1 (Zd9 C))(M_check_untold:Mt P w K mg base C "check_untold" ["self", "name"] 1 (Zmf C)) :
  Mt P w K mg base C "check_death" ["self", "name", "day", "heir"] 2 (Zmg C):=by
 refine Zco.mtQ Zpw (fun _ _ _ _ _ _=>al4 fun _ _ _ _=>rfl) (fun vs H Q E h=>?_) (fun f cdv A outer s H vs Q E hr h=>?_)
 ·obtain⟨L,ds,n,hr,day,dn,dr,rfl,_⟩:=h
  rfl
 ·obtain⟨L,ds,n,he,day,dn,dr,rfl,F,d0,d1,c1,c2,c3,c4,c5,c6,c7,k⟩:=h
  refine⟨_,(Ze (Zi (Z6 Y5 (Za (qvN 2) Zb)))
 (Ze (Zi (Yw (qvN 0) Tc.cl M_check_known (Za (qvN 1) Zb)))
 (Ze (Zi (Yw (qvN 0) Tc.cl M_check_known (Za (qvN 3) Zb)))
 (Ze (Zi (Yw (qvN 0) Tc.cl M_check_there (Za (qvN 1) (Za (qvN 2) Zb))))
 (Ze (Zi (Yw (qvN 0) Tc.cl M_check_there (Za (qvN 3) (Za (qvN 2) Zb))))
 (Ze (Zi (Yw (qvN 0) Tc.cl M_check_untold (Za (qvN 1) Zb)))
 (Zf (Zp (QW.pt (Zgz (Zv Wt (qvN 3) (qvN 1) (Z1 _)) (Zgm (Zv (Zas hr) (qvN 3) (Zq (qvN 0)) rfl)))) (Zf Uh) Zo)))))))),?_⟩
  obtain⟨dx,ob⟩:=F.ob
  obtain⟨kvs,e1,e2,e3⟩:=F.d
  have g:=DGet.k (k:=Sum.inr n) e1
  rw[e3,c5] at g
  have g':=DGet.k (k:=Sum.inr he) e1
  rw[e3,c6] at g'
  have no:∀{m:Str},Zfd m->(Vz L.dc L.dw L.dd L.dh).lookup m=none:=fun h=>Ys _ _ _ _ h
  refine⟨_,rfl,day,rfl,d0,d1,?_⟩
  refine⟨_,rfl,L.p,dx,_,rfl,ob,no (by decide +kernel),_,rfl,L,ds,n,dn,rfl,F,c1,?_⟩
  refine⟨_,rfl,L.p,dx,_,rfl,ob,no (by decide +kernel),_,rfl,L,ds,he,dr,rfl,F,c3,?_⟩
  refine⟨_,rfl,L.p,dx,_,rfl,ob,no (by decide +kernel),_,rfl,_,rfl,L,ds,n,dn,day,rfl,F,c1,c2,?_⟩
  refine⟨_,rfl,L.p,dx,_,rfl,ob,no (by decide +kernel),_,rfl,_,rfl,L,ds,he,dr,day,rfl,F,c3,c4,?_⟩
  refine⟨_,rfl,L.p,dx,_,rfl,ob,no (by decide +kernel),_,rfl,L,ds,n,rfl,F,c5,?_⟩
  refine⟨_,rfl,_,rfl,rfl,_,rfl,Yg (fun z=>absurd (by injection z) c7) (fun _=>?_)⟩
  exact⟨_,rfl,_,rfl,L.p,C,dx,_,_,rfl,ob,Tc.cl,Tc.nd,Zbq _ _ _ _,L.dd,_,rfl,g',_,rfl,Zt k⟩
def Zpx(C:Addr):Sp:=fun vs H Q _=>∃(L:FL)(ds:List Deed)(wa:Str->Addr)(n hr:Str)(day dn dr:Int),vs = [.ref L.p,.str n,.int day,.str hr]/\Fk C H L ds wa/\ds.length<=1000/\0<=day/\day<=9999/\Zk ds n=some dn/\dn<=day/\Zk ds hr=some dr/\dr<=day/\Z3 ds n=none/\Z3 ds hr=none/\hr≠n /\
 ∀H',Fk C H' L (ds ++ [.die n day hr]) wa->Touch L ds wa H H'->Zdb L ds wa (ds ++ [.die n day hr]) wa H->Q .non H'
abbrev Zhr:Stmt:=Ym (top 37) 3
theorem Z1r:FnScope ["self", "name", "day", "heir"] ["self", "name", "day", "heir"] (Zh Zhr):=fsc
theorem Z1s(Zhs:HasM K C "die" "Folk.die" Zhr)(Tc:TxC K C)(M_check_death:Mt P w K mg base C "check_death" ["self", "name", "day", "heir"] 2 (Zmg C)) :
  Mt P w K mg base C "die" ["self", "name", "day", "heir"] 3 (Zpx C):=by
 refine Zhs.mtQ Z1r (fun _ _ _ _ _ _=>al4 fun _ _ _ _=>rfl) (fun vs H Q E h=>?_) (fun f cdv A outer s H vs Q E hr h=>?_)
 ·obtain⟨L,ds,wa,n,hr,day,dn,dr,rfl,_⟩:=h
  rfl
 ·obtain⟨L,ds,wa,n,he,day,dn,dr,rfl,K0,hl,d0,d1,b1,b2,b3,b4,b5,b6,b7,k⟩:=h
  refine⟨_,(Ze (Zi (Yw (qvN 0) Tc.cl M_check_death (Za (qvN 1) (Za (qvN 2) (Za (qvN 3) Zb)))))
 (Ze (Zac hr (Zq (qvN 0)) (qvN 1) (qvN 2))
 (Zf (Zac hr (Zq (qvN 0)) (qvN 1) (qvN 3))))),?_⟩
  have F:=K0.f
  obtain⟨⟨k5,x1,x2,x3⟩,⟨k6,o1,o2⟩,wap,winj⟩:=K0.w
  obtain⟨k9,y8,y9⟩:=K0.all
  have hkw:kw (ds ++ [.die n day he])=kw ds:=by rw[Zad];rfl
  have hz:(5000:Nat)<=sizeLine:=by decide
  obtain⟨dx0,ob0⟩:=F.ob
  refine⟨_,rfl,L.p,dx0,_,rfl,ob0,Ys _ _ _ _ (by decide +kernel),_,rfl,_,rfl,_,rfl,L,ds,n,he,day,dn,dr,rfl,F,d0,d1,b1,b2,b3,b4,b5,b6,b7,?_⟩
  obtain⟨⟨dx,ob⟩,⟨k1,c1,c2,c3⟩,⟨k2,w2,w3⟩,⟨k3,e1,e2,e3⟩,⟨k4,h1,h2,h3⟩,a1,a2,a3,a4,a5,a6⟩:=F
  have np:L.p≠L.dd:=fun z=>by rw[z,e1] at ob;cases ob
  have np2:L.p≠L.dh:=fun z=>by rw[z,h1] at ob;cases ob
  refine⟨_,rfl,_,rfl,L.p,C,dx,_,_,rfl,ob,Tc.cl,Tc.nd,Zbq _ _ _ _,_,rfl,L.dd,_,rfl,DPut.k (k:=Sum.inr n) e1 (by lia),?_⟩
  have T1:=SameLT.updD (kvs':=Z0 k3 (Sum.inr n) (.int day)) e1
  have g1:(upd H L.dd (.dK (Z0 k3 (Sum.inr n) (.int day)))) L.p=some (.ins C dx (Vz L.dc L.dw L.dd L.dh)):=by rw[Zc np];exact ob
  have g0:∀b o,b≠L.dd->H b=some o->(upd H L.dd (.dK (Z0 k3 (Sum.inr n) (.int day)))) b=some o:=fun b o nb e=>by rw[Zc nb];exact e
  have g2:(upd H L.dd (.dK (Z0 k3 (Sum.inr n) (.int day)))) L.dd=some (.dK (Z0 k3 (Sum.inr n) (.int day))):=Zg
  have g3:(upd H L.dd (.dK (Z0 k3 (Sum.inr n) (.int day)))) L.dw=some (.dK k2):=by rw[Zc a4];exact w2
  have g4:(upd H L.dd (.dK (Z0 k3 (Sum.inr n) (.int day)))) L.dc=some (.dK k1):=by rw[Zc a2];exact c1
  have g5:(upd H L.dd (.dK (Z0 k3 (Sum.inr n) (.int day)))) L.dh=some (.dK k4):=by rw[Zc a6.symm];exact h1
  generalize (upd H L.dd (.dK (Z0 k3 (Sum.inr n) (.int day))))=H2 at T1 g0 g1 g2 g3 g4 g5 ⊢
  refine⟨_,rfl,_,rfl,L.p,C,dx,_,_,rfl,g1,Tc.cl,Tc.nh,Z4w _ _ _ _,_,rfl,L.dh,_,rfl,DPut.k (k:=Sum.inr n) g5 (by lia),?_⟩
  have T4:=SameLT.updD (kvs':=Z0 k4 (Sum.inr n) (.str he)) g5
  have ll:=Vv k3 (Sum.inr n:Key) (V.int day)
  have ll2:=Vv k4 (Sum.inr n:Key) (V.str he)
  have lapp:(ds ++ [Deed.die n day he]).length=ds.length+1:=by rw[xN];rfl
  refine k _ ⟨⟨⟨dx,by rw[Zc np2];exact g1⟩,⟨k1,by rw[Zc a3];exact g4,by lia,fun x=>?_⟩,⟨k2,by rw[Zc a5];exact g3,by lia⟩,⟨_,by rw[Zc a6];exact g2,by lia,fun x=>?_⟩,⟨_,Zg,by lia,fun x=>?_⟩,a1,a2,a3,a4,a5,a6⟩,
   ⟨⟨k5,by rw[Zc a5];exact g0 _ _ a4 x1,by lia,fun m l e=>?_⟩,⟨k6,by rw[Zc a3];exact g0 _ _ a2 o1,?_⟩,fun m l e=>wap m l (by rw[← hkw];exact e),fun m m' l l' e e' z=>winj m m' l l' (by rw[← hkw];exact e) (by rw[← hkw];exact e') z⟩,⟨k9,by rw[Zc a5];exact g0 _ _ a4 y8,fun p hp=>?_⟩⟩ (fun b o e hn=>?_) (fun b hb=>?_)
  ·rw[Zt1];exact c3 x
  ·rw[Ue,Zlw b5]
   by_cases e:x=n
   ·subst e;rw[if_pos rfl,if_pos rfl];rfl
   ·rw[if_neg (fun z=>e (Sum.inr.inj z)),if_neg e];exact e3 x
  ·rw[Ue,Zlw b5]
   by_cases e:x=n
   ·subst e;rw[if_pos rfl,if_pos rfl];rfl
   ·rw[if_neg (fun z=>e (Sum.inr.inj z)),if_neg e];exact h3 x
  ·rw[hkw] at e
   obtain⟨q1,q2,q3⟩:=x3 m l e
   obtain⟨_,_,z3,z4⟩:=wap m l e
   exact⟨q1,by rw[Zc z4];exact g0 _ _ z3 q2,by lia⟩
  ·rw[Zdr,o2]
   show _=((Wh ds)++[]).map V.str
   rw[yQ]
  ·obtain⟨m,l,e,q⟩:=y9 p hp
   exact⟨m,l,by rw[hkw];exact e,q⟩
  ·rw[Zc (fun z=>hn (.inr (.inr (.inr (.inr (.inl z))))))]
   exact g0 b o (fun z=>hn (.inr (.inr (.inr (.inl z))))) e
  ·refine .inl ?_
   unfold own at hb ⊢
   rw[hkw] at hb
   exact hb
end
def V0(H H':Hp):Prop:=∀b xs,H b=some (.tup xs)->H' b=some (.tup xs)
theorem Zob{l:Addr}{H:Hp}{xs:List V}{o:HO}(hl:H l=some (.lst xs)):V0 H (upd H l o):=fun b ys e=>by
 rw[Zc (fun z=>by rw[z,hl] at e;cases e)];exact e
section
variable{P:Program}{w:World}{K:uFg}{mg:Str->Option Value}{base:Heap}
abbrev Yv:=List (Str×Int)
def Ze4(p:Str×Int):D:=.tup [.str p.1,.int p.2]
def Zht(sd:Yv):D:=.lst (sd.map Ze4)
def RepS(H:Hp):Yv->List V->Prop
 | [],vs=>vs = []
 | p::r,vs=>∃a vs',vs = .ref a::vs'/\H a=some (.tup [.str p.1,.int p.2])/\RepS H r vs'
theorem RepS.mono{H H':Hp}(k:V0 H H'):∀{sd:Yv}{vs:List V},RepS H sd vs->RepS H' sd vs
 | [],_,h=>h
 | _::_,_,⟨a,vs',e,h1,h2⟩=>⟨a,vs',e,k _ _ h1,RepS.mono k h2⟩
theorem RepS.rep{H:Hp}:∀{sd:Yv}{vs:List V},RepS H sd vs->RepL H (sd.map Ze4) vs
 | [],_,h=>h
 | p::_,_,⟨a,vs',e,h1,h2⟩=>⟨.ref a,vs',e,⟨a,_,rfl,h1,⟨.str p.1,_,rfl,rfl,⟨.int p.2,[],rfl,rfl,rfl⟩⟩⟩,RepS.rep h2⟩
theorem RepS.of{H:Hp}:∀{sd:Yv}{vs:List V},RepL H (sd.map Ze4) vs->RepS H sd vs
 | [],_,h=>h
 | p::_,_,⟨v,vs',e,⟨a,us,e2,h1,⟨x,r1,e3,e4,⟨y,r2,e5,e6,e7⟩⟩⟩,h2⟩=>by
  subst e2 e7 e5 e3
  cases e4
  cases e6
  exact⟨a,vs',e,h1,RepS.of h2⟩
theorem RepS.len{H:Hp}{sd:Yv}{vs:List V}(h:RepS H sd vs):vs.length=sd.length:=by
 have:=(RepS.rep h).length
 rw[xB] at this
 exact this
theorem RepS.get{H:Hp}:∀{sd:Yv}{vs:List V}{i:Nat}{v:V},RepS H sd vs->vs[i]? = some v->∃p a,sd[i]? = some p/\v = .ref a/\H a=some (.tup [.str p.1,.int p.2])
 | [],vs,i,v,h,e=>by cases h;simp at e
 | p::sd,vs,i,v,⟨a,vs',e1,h1,h2⟩,e=>by
  subst e1
  cases i with
  | zero=>simp at e;subst e;exact⟨p,a,rfl,rfl,h1⟩
  | succ i=>simp at e;exact RepS.get (i:=i) h2 e
theorem RepS.snoc{H:Hp}{p:Str×Int}{a:Addr}(hp:H a=some (.tup [.str p.1,.int p.2])):∀{sd:Yv}{vs:List V},RepS H sd vs->RepS H (sd ++ [p]) (vs ++ [.ref a])
 | [],vs,h=>by cases h;exact⟨a,[],rfl,hp,rfl⟩
 | q::sd,vs,⟨b,vs',e,h1,h2⟩=>by subst e;exact⟨b,vs' ++ [.ref a],rfl,h1,RepS.snoc hp h2⟩
end
section
variable{P:Program}{w:World}{K:uFg}{mg:Str->Option Value}{base:Heap}
def wts(sd:Yv):List Int:=sd.map (·.2)
def Light(sd:Yv):Prop:=(∀p∈sd,1<=p.2/\p.2<=1000)/\sd.length<=60
theorem Light.bnd{sd:Yv}(h:Light sd):∀n∈wts sd,-1000000000<=n/\n<=1000000000:=fun n hn=>by
 obtain⟨p,hp,rfl⟩:=zC.mp hn
 have:=h.1 p hp
 show -1000000000<=p.2/\p.2<=1000000000
 lia
theorem Zxo{sd:Yv}{i:Nat}{p:Str×Int}(h:sd[i]? = some p):(wts sd)[i]? = some p.2:=by unfold wts;rw[xO,h];rfl
def SideAt(H:Hp)(sd:Yv)(v:V):Prop:=∃a vs,v = .ref a/\H a=some (.lst vs)/\RepS H sd vs
theorem Same.t{H H':Hp}(h:Same H H'):V0 H H':=fun b xs e=>h b _ e
theorem SideAt.mono{H H':Hp}{sd:Yv}{v:V}(h:SideAt H sd v)(k:Same H H'):SideAt H' sd v:=let ⟨a,vs,e,h1,h2⟩:=h;⟨a,vs,e,k _ _ h1,h2.mono fun b xs e=>k b _ e⟩
end
section
variable{P:Program}{w:World}{K:uFg}{mg:Str->Option Value}{base:Heap}
def Zna:Sp:=fun vs H Q _=>∃(v:V)(sd:Yv),vs = [v]/\SideAt H sd v/\Light sd/\∀H',Same H H'->Q (.int (wts sd).sum) H'
theorem Zvr{H:Hp}{sd:Yv}{a:Addr}{vs:List V}{fv:St}{Q:VK}(ha:H a=some (.lst vs))(hr:RepS H sd vs)(hl:sd.length<=60)(hd:∀l,H l=none->Q (.ref l) (upd H l (.lst ((wts sd).map V.int)))) :
  Uf (Itl K a) 2 fv (Zdi K 2 (Zca (Wv 0) (Zca (Wv 1) Ze9))) (fun _ H Q=>Q true H) (Y3 1) Q H:=by
 have hlen:=hr.len
 refine Zds (xs:=vs) (fun i ys H'=>H'=H/\ys=((wts sd).take i).map V.int) ⟨rfl,rfl⟩ (by lia) (fun i ys H' _ ⟨e,_⟩=>by rw[e];exact SqL.of ha) ?_ ?_ ?_
 ·rintro i ys H' ⟨_,rfl⟩
  rw[xB,xX];lia
 ·rintro i x ys H' hx ⟨rfl,rfl⟩ ls hls
  obtain⟨u,v,rfl⟩:=Zfc hls
  obtain⟨p,b,hp,rfl,hb⟩:=hr.get hx
  refine⟨b,_,rfl,SqT.of hb,rfl,_,_,rfl,_,_,rfl,rfl,⟨[_,_],rfl,rfl⟩,Z5 ?_⟩
  refine⟨_,rfl,rfl,?_⟩
  rw[yP,Zxo hp,xV]
  rfl
 ·rintro ys H' ⟨rfl,rfl⟩ l hl'
  have e:(wts sd).take vs.length=wts sd:=yG (by unfold wts;rw[xB];lia)
  rw[e]
  exact hd l hl'
abbrev Zhu:Stmt:=top 34
theorem Z1t:FnScope ["side"] ["side"] (Zh Zhu):=fsc
theorem Z1u(Zhv:Has K mg "total" Zhu)(T:Txt mg):Fn P w K mg base "total" ["side"] 1 Zna:=by
 refine Zhv.fnQ Z1t (fun _ _ _ _ _ _=>al1 fun _=>rfl) (fun vs H Q E h=>?_) (fun f cdv A outer s H vs Q E hr h=>?_)
 ·obtain⟨v,sd,rfl,_⟩:=h
  rfl
 ·obtain⟨v,sd,rfl,⟨a,vs,rfl,ha,hr⟩,hL,k⟩:=h
  refine⟨_,(Zf (Zu (Z7 (Zlq (by rfl)) T.sum Zpc (Za (Ur (locs:=["name", "weight"]) (fr:=[]) ⟨rfl,by decide +kernel,by decide +kernel,by decide +kernel,by decide +kernel,by decide +kernel⟩ .nil rfl (Vb (qvN 0)) ⟨fun _ _ _ _ _ _=>by
  have cnd:(inN ["name", "weight"] []).Nodup:=by decide +kernel
  exact⟨(Zd6 2 (by rfl) (Wk (Vw 0 cnd) (Wk (Vw 1 cnd) Zaq))),Zb2,(Vc 1)⟩⟩) Zb)))),?_⟩
  refine⟨_,rfl,a,rfl,⟨_,SqL.of ha⟩,?_⟩
  refine Zvr ha hr hL.2 fun l hl=>?_
  exact⟨l,wts sd,rfl,SqL.of Zg,hL.bnd,by unfold wts;rw[xB];have:=hL.2;lia,k _ (Same.new hl)⟩
end
section
variable{P:Program}{w:World}{K:uFg}{mg:Str->Option Value}{base:Heap}
structure Suit where
 ones:Yv
 others:Yv
 need:Int
 named:Option (Int×Str)
def Zc6:Option (Int×Str)->D
 | none=>.non
 | some (c,n)=>.tup [.int c,.str n]
def Ws(t:Suit):D:=.tup [Zht t.ones,Zht t.others,.int t.need,Zc6 t.named]
theorem SideAt.of{H:Hp}{sd:Yv}{v:V}(h:Rep H (Zht sd) v):SideAt H sd v:=by
 obtain⟨a,vs,e,h1,h2⟩:=h
 exact⟨a,vs,e,h1,RepS.of h2⟩
theorem Zvs{H:Hp}{t:Suit}{v:V}(h:Rep H (Ws t) v):∃a u1 u2 u4,v = .ref a/\H a=some (.tup [u1,u2,.int t.need,u4])/\SideAt H t.ones u1/\SideAt H t.others u2/\Rep H (Zc6 t.named) u4:=by
 obtain⟨a,vs,e,h1,⟨u1,r1,rfl,a1,⟨u2,r2,rfl,a2,⟨u3,r3,rfl,a3,⟨u4,r4,rfl,a4,a5⟩⟩⟩⟩⟩:=h
 cases a3
 cases a5
 exact⟨a,u1,u2,u4,e,h1,.of a1,.of a2,a4⟩
theorem RepS.app{H:Hp}{b:Yv}{ws:List V}(hb:RepS H b ws):∀{a:Yv}{vs:List V},RepS H a vs->RepS H (a++b) (vs++ws)
 | [],vs,h=>by cases h;exact hb
 | p::a,vs,⟨c,vs',e,h1,h2⟩=>by subst e;exact⟨c,vs'++ws,rfl,h1,RepS.app hb h2⟩
theorem Zvt{H:Hp}{sd:Yv}{a:Addr}{vs:List V}{fv:St}{Q:VK}(ha:H a=some (.lst vs))(hr:RepS H sd vs)(hl:sd.length<=1000)(hd:∀l,H l=none->Q (.ref l) (upd H l (.lst ((sd.map (·.1)).map V.str)))) :
  Uf (Itl K a) 2 fv (Zdi K 2 (Zca (Wv 0) (Zca (Wv 1) Ze9))) (fun _ H Q=>Q true H) (Y3 0) Q H:=by
 have hlen:=hr.len
 refine Zds (xs:=vs) (fun i ys H'=>H'=H/\ys=((sd.map (·.1)).take i).map V.str) ⟨rfl,rfl⟩ (by lia) (fun i ys H' _ ⟨e,_⟩=>by rw[e];exact SqL.of ha) ?_ ?_ ?_
 ·rintro i ys H' ⟨_,rfl⟩
  rw[xB,xX];lia
 ·rintro i x ys H' hx ⟨rfl,rfl⟩ ls hls
  obtain⟨u,v,rfl⟩:=Zfc hls
  obtain⟨p,b,hp,rfl,hb⟩:=hr.get hx
  refine⟨b,_,rfl,SqT.of hb,rfl,_,_,rfl,_,_,rfl,rfl,⟨[_,_],rfl,rfl⟩,Z5 ?_⟩
  refine⟨_,rfl,rfl,?_⟩
  have e:(sd.map (·.1))[i]? = some p.1:=by rw[xO,hp];rfl
  rw[yP,e,xV]
  rfl
 ·rintro ys H' ⟨rfl,rfl⟩ l hl'
  have e:(sd.map (·.1)).take vs.length=sd.map (·.1):=yG (by rw[xB];lia)
  rw[e]
  exact hd l hl'
def Zxp(ss:List Suit)(nm:Option (Int×Str)):Prop:=∀c n,nm=some (c,n)->0<=c/\∃t wt,ss[c.toNat]? = some t/\(n,wt)∈t.ones++t.others
def Us(t:Suit):Prop:=Light t.ones/\Light t.others/\1<=t.need/\t.need<=12000
end
section
variable{P:Program}{w:World}{K:uFg}{mg:Str->Option Value}{base:Heap}
theorem Zzl(xs:List V)(c:Nat):Ux xs none (some (c:Int))=xs.take c:=by
 unfold Ux
 rw[HT.sIx_none,HT.sIx_nat,List.drop_zero,Nat.sub_zero]
 by_cases h:c<=xs.length
 ·rw[Nat.min_eq_left h]
 ·rw[Nat.min_eq_right (by lia),yG (xE _),yG (by lia)]
structure Line (ss:List Suit):Prop where
 ok:∀t∈ss,Us t
 nd:∀t∈ss,((t.ones++t.others).map (·.1)).Nodup
 nm:∀t∈ss,∀p∈t.ones++t.others,Wq p.1
 back:∀i t,ss[i]? = some t->Zxp (ss.take i) t.named
end
section
variable{P:Program}{w:World}{K:uFg}{mg:Str->Option Value}{base:Heap}
abbrev Ul:=List (List Key×V)
def Yi(c:Int)(n:Str):List Key:=[.inl c,.inr n]
def brk(kvs:Ul)(c:Int)(n:Str):Bool:=(Zx kvs (Yi c n)).isSome
def keep(br:Int->Str->Bool)(c:Int)(sd:Yv):Yv:=sd.filter fun p=>!br c p.1
def Zhw(br:Int->Str->Bool)(c:Int)(sd:Yv):Int:=(wts (keep br c sd)).sum
def Zoc:Sp:=fun vs H Q _=>∃(c:Int)(v:V)(g:Addr)(sd:Yv)(kvs:Ul),vs = [.int c,v,.ref g]/\SideAt H sd v/\Light sd/\H g=some (.dT kvs)/\∀H',Same H H'->Q (.int (Zhw (brk kvs) c sd)) H'
theorem Zt4{br:Int->Str->Bool}{c:Int}{sd:Yv}{i:Nat}{p:Str×Int}(h:sd[i]? = some p):keep br c (sd.take (i+1))=keep br c (sd.take i)++(if br c p.1 then [] else [p]):=by
 unfold keep
 rw[yP,h,List.filter_append]
 cases e:br c p.1<;>simp[e]
abbrev Zdc:Stmt:=top 52
theorem Z1v:FnScope ["case", "side", "gone"] ["case", "side", "gone"] (Zh Zdc):=fsc
theorem Nq3:Nm (Zh Zdc) "case" .cell:=by decide +kernel
theorem Nq4:Nm (Zh Zdc) "gone" .cell:=by decide +kernel
theorem Z1w(Zhx:Has K mg "kept_weight" Zdc)(T:Txt mg):Fn P w K mg base "kept_weight" ["case", "side", "gone"] 1 Zoc:=by
 refine Zhx.fnQ Z1v (fun _ _ _ _ _ _=>al3 fun _ _ _=>rfl) (fun vs H Q E h=>?_) (fun f cdv A outer s H vs Q E hr h=>?_)
 ·obtain⟨c,v,g,sd,kvs,rfl,_⟩:=h
  rfl
 ·obtain⟨c,v,g,sd,kvs,rfl,⟨a,vs,rfl,ha,hrs⟩,hL,hg,k⟩:=h
  refine⟨_,(Zf (Zu (Z7 (Zlq (by rfl)) T.sum Zpc (Za (Ur (locs:=["name", "weight"]) (fr:=[("case", 0),("gone", 2)]) ⟨rfl,by decide +kernel,by decide +kernel,by decide +kernel,by decide +kernel,by decide +kernel⟩ (.consN Nq3 (.consN Nq4 .nil)) rfl (Vb (qvN 1)) ⟨fun _ _ _ _ _ _=>by
  have cnd:(inN ["name", "weight"] [("case", 0),("gone", 2)]).Nodup:=by decide +kernel
  exact⟨(Zd6 2 (by rfl) (Wk (Vw 0 cnd) (Wk (Vw 1 cnd) Zaq))),(Zd5 (Zv (Zfm hr) (Zs (Za (Zbp 2) (Za (Vc 0) Zb))) (Zbp 3) rfl)),(Vc 1)⟩⟩) Zb)))),?_⟩
  have hz:(2000:Nat)<=sizeLine:=by decide
  have hvl:=hrs.len
  have hl60:=hL.2
  refine⟨_,rfl,a,rfl,⟨_,SqL.of ha⟩,?_⟩
  refine Zds (xs:=vs) (fun i ys H'=>Same H H'/\ys=(wts (keep (brk kvs) c (sd.take i))).map V.int) ⟨fun _ _ e=>e,rfl⟩ (by lia) (fun i ys H' _ ⟨e,_⟩=>SqL.of (e _ _ ha)) ?_ ?_ ?_
  ·rintro i ys H' ⟨_,rfl⟩
   unfold wts keep
   rw[xB,xB]
   refine xT (zW _ _) ?_
   rw[xX];lia
  ·rintro i x ys H' hx ⟨sm,rfl⟩ ls hls
   obtain⟨w1,w2,rfl⟩:=Zfc hls
   obtain⟨p,b,hp,rfl,hb⟩:=hrs.get hx
   refine⟨b,_,rfl,SqT.of (sm _ _ hb),rfl,_,_,rfl,_,_,rfl,rfl,⟨[_,_],rfl,rfl⟩,?_⟩
   refine⟨_,rfl,_,rfl,by show 2<=sizeLine;lia,fun q hq=>?_⟩
   have S1:=Same.new (o:=.tup [.int c,.str p.1]) hq
   have k1:(upd H' q (.tup [.int c,.str p.1])) q=some (.tup [.int c,.str p.1]):=Zg
   generalize (upd H' q (.tup [.int c,.str p.1]))=H1 at S1 k1 ⊢
   refine⟨_,rfl,g,_,rfl,DGet.t (S1 _ _ (sm _ _ hg)) (k:=Yi c p.1) k1,_,rfl,?_⟩
   have e:=Zt4 (br:=brk kvs) (c:=c) hp
   show if (!brk kvs c p.1)=true then _ else _
   cases hb':brk kvs c p.1 with
   | true =>
    rw[hb',if_pos rfl,yQ] at e
    refine Zt ?_
    exact⟨sm.trans S1,by rw[e]⟩
   | false =>
    rw[hb',if_neg xH] at e
    refine Z5 ?_
    refine⟨_,rfl,sm.trans S1,?_⟩
    rw[e]
    unfold wts
    rw[xV,xV]
    rfl
  ·rintro ys H' ⟨sm,rfl⟩ l hl'
   rw[hvl,yU]
   refine⟨l,wts (keep (brk kvs) c sd),rfl,SqL.of Zg,fun n hn=>?_,?_,k _ (sm.trans (Same.new hl'))⟩
   ·obtain⟨p,hp,rfl⟩:=zC.mp hn
    exact hL.bnd _ (zC.mpr ⟨p,(List.mem_filter.mp hp).1,rfl⟩)
   ·unfold wts keep
    rw[xB]
    exact xT (zW _ _) (by lia)
def Zbs(br:Int->Str->Bool)(c:Int)(t:Suit):Int:=Zhw br c t.ones - Zhw br c t.others - t.need
def SuitsAt(H:Hp)(ss:List Suit)(l:Addr):Prop:=∃us,H l=some (.lst us)/\RepL H (ss.map Ws) us
theorem SuitsAt.mono{H H':Hp}{ss:List Suit}{l:Addr}(h:SuitsAt H ss l)(k:Same H H'):SuitsAt H' ss l:=let ⟨us,a,b⟩:=h;⟨us,k _ _ a,b.mono' k⟩
theorem SuitsAt.get{H:Hp}{ss:List Suit}{l:Addr}{us:List V}{i:Nat}{t:Suit}(b:RepL H (ss.map Ws) us)(ht:ss[i]? = some t) :
  ∃ta u1 u2 u4,us[i]? = some (.ref ta)/\H ta=some (.tup [u1,u2,.int t.need,u4])/\SideAt H t.ones u1/\SideAt H t.others u2/\Rep H (Zc6 t.named) u4:=by
 have hl:=b.length
 rw[xB] at hl
 have hi:i < us.length:=by rw[hl];exact(xF.mp ht).1
 have hu:us[i]? = some us[i]:=xC hi
 obtain⟨d,hd,hr⟩:=b.get hu
 rw[xO,ht] at hd
 cases hd
 obtain⟨ta,u1,u2,u4,e,h1,h2,h3,h4⟩:=Zvs hr
 exact⟨ta,u1,u2,u4,by rw[hu,e],h1,h2,h3,h4⟩
def Zmh:Sp:=fun vs H Q _=>∃(l g:Addr)(c:Nat)(ss:List Suit)(t:Suit)(kvs:Ul),vs = [.ref l,.int c,.ref g]/\SuitsAt H ss l/\ss[c]? = some t/\Us t/\H g=some (.dT kvs)/\∀H',Same H H'->Q (.int (Zbs (brk kvs) c t)) H'
abbrev Zhy:Stmt:=top 51
theorem Z1x:FnScope ["suits", "case", "gone", "suit"] ["suits", "case", "gone"] (Zh Zhy):=fsc
theorem Z1y(Zhz:Has K mg "margin_without" Zhy)(T:Txt mg)(C0:∃t,mg "ONES" = some (.int 0 t))(C1:∃t,mg "OTHERS" = some (.int 1 t))(C2:∃t,mg "NEED" = some (.int 2 t))(Zpy:Fn P w K mg base "kept_weight" ["case", "side", "gone"] 1 Zoc):Fn P w K mg base "margin_without" ["suits", "case", "gone"] 2 Zmh:=by
 obtain⟨t0,c_ONES⟩:=C0
 obtain⟨t1,c_OTHERS⟩:=C1
 obtain⟨t2,c_NEED⟩:=C2
 have r_ONES:RelV (.int 0) (.int 0 t0):=⟨t0,rfl⟩
 have r_OTHERS:RelV (.int 1) (.int 1 t1):=⟨t1,rfl⟩
 have r_NEED:RelV (.int 2) (.int 2 t2):=⟨t2,rfl⟩
 refine Zhz.fnQ Z1x (fun _ _ _ _ _ _=>al3 fun _ _ _=>rfl) (fun vs H Q E h=>?_) (fun f cdv A outer s H vs Q E hr h=>?_)
 ·obtain⟨l,g,c,ss,t,kvs,rfl,_⟩:=h
  rfl
 ·obtain⟨l,g,c,ss,t,kvs,rfl,⟨us,hl,hrep⟩,ht,⟨L1,L2',_,_⟩,hg,k⟩:=h
  refine⟨_,(Ze (Z4 3 (Zl Yu (qvN 0) (qvN 1) (fun _ _=>rfl)))
 (Zf (Zu (Zz Zb1 (Zz Zb1 (Z6 Zpy (Za (qvN 1) (Za (Zl Z2 (qvN 3) (Yy c_ONES r_ONES) (fun _ _=>rfl)) (Za (qvN 2) Zb)))) (Z6 Zpy (Za (qvN 1) (Za (Zl Z2 (qvN 3) (Yy c_OTHERS r_OTHERS) (fun _ _=>rfl)) (Za (qvN 2) Zb))))) (Zl Z2 (qvN 3) (Yy c_NEED r_NEED) (fun _ _=>rfl)))))),?_⟩
  obtain⟨ta,u1,u2,u4,hu,hta,h1,h2,h4⟩:=SuitsAt.get (l:=l) hrep ht
  refine⟨_,rfl,_,rfl,l,us,c,.ref ta,rfl,rfl,SqL.of hl,Va hu,?_⟩
  refine⟨_,rfl,_,rfl,ta,_,0,u1,rfl,rfl,SqT.of hta,rfl,_,rfl,c,u1,g,t.ones,kvs,rfl,h1,L1,hg,fun H1 s1=>?_⟩
  refine⟨_,rfl,_,rfl,ta,_,1,u2,rfl,rfl,SqT.of (s1 _ _ hta),rfl,_,rfl,c,u2,g,t.others,kvs,rfl,h2.mono s1,L2',s1 _ _ hg,fun H2 s2=>?_⟩
  refine⟨_,_,rfl,rfl,_,rfl,ta,_,2,_,rfl,rfl,SqT.of (s2 _ _ (s1 _ _ hta)),rfl,_,_,rfl,rfl,k H2 (s1.trans s2)⟩
end
section
variable{P:Program}{w:World}{K:uFg}{mg:Str->Option Value}{base:Heap}
abbrev Zcp:=Int×Str
def Wc(more:List Zcp):Nat->List Suit->List Bool×List Zcp
 | _,[]=>([],more)
 | i,t::r =>
  (decide (0<=Zbs (fun c n=>decide ((c,n)∈(Wc more (i+1) r).2)) i t)::(Wc more (i+1) r).1,
   if decide (0<=Zbs (fun c n=>decide ((c,n)∈(Wc more (i+1) r).2)) i t)=true then (Wc more (i+1) r).2++t.named.toList else (Wc more (i+1) r).2)
theorem Zfr(more:List Zcp):∀(ss:List Suit)(i:Nat),(Wc more i ss).1.length=ss.length
 | [],_=>rfl
 | t::r,i=>by rw[Wc,xU,Zfr more r (i+1),xU]
def GoneIs(kvs:Ul)(gn:List Zcp):Prop:=∀c n,brk kvs c n=decide ((c,n)∈gn)
theorem GoneIs.put{kvs:Ul}{gn:List Zcp}{c:Int}{n:Str}{v:V}(h:GoneIs kvs gn):GoneIs (Z0 kvs (Yi c n) v) (gn ++ [(c,n)]):=by
 intro c' n'
 unfold brk
 rw[Ue]
 by_cases e:Yi c' n'=Yi c n
 ·rw[if_pos e]
  have e':(c',n')=(c,n):=by
   unfold Yi at e
   injection e with e1 e2
   injection e2 with e2 _
   cases e1
   cases e2
   rfl
  rw[e']
  exact(yL (xL _ (xK.mpr rfl))).symm
 ·rw[if_neg e]
  refine(h c' n').trans ?_
  have e':¬(c',n')=(c,n):=fun z=>e (by injection z with z1 z2;rw[z1,z2])
  have:((c',n')∈gn ++ [(c,n)])↔((c',n')∈gn):=by rw[xJ,xK];exact⟨fun z=>z.elim id (fun z=>absurd z e'),.inl⟩
  rw[decide_eq_decide]
  exact this.symm
theorem Znb(r:List Bool)(b:Bool):∀c:Nat,((List.replicate (c+1) false++r).map V.bl).set c (.bl b)=(List.replicate c false++(b::r)).map V.bl
 | 0=>rfl
 | c+1=>by
  rw[yR,xY,yE,List.set_cons_succ,Znb r b c,yR,xY,yE]
theorem Znc(r:List Bool)(b:Bool):∀c:Nat,((List.replicate c false++(b::r)).map V.bl)[c]? = some (.bl b)
 | 0=>rfl
 | c+1=>by
  rw[yR,xY,yE,List.getElem?_cons_succ]
  exact Znc r b c
theorem Zxq{n c:Nat}(h:c < n):ixN n (c:Int)=some c:=by
 unfold ixN
 rw[if_pos (by lia),if_pos (by lia),yN]
def Znd:Sp:=fun vs H Q _=>∃(l m:Addr)(ss:List Suit)(ms:List V)(more:List Zcp),vs = [.ref l,.ref m]/\SuitsAt H ss l/\(∀t∈ss,Us t)/\ss.length<=1000/\H m=some (.lst ms)/\RepL H (more.map fun x=>Zc6 (some x)) ms/\more.length<=1000 /\
 ∀(l2:Addr)(H':Hp),H l2=none->H' l2=some (.lst ((Wc more 0 ss).1.map V.bl))->Same H H'->Q (.ref l2) H'
abbrev Zh0:Stmt:=top 44
theorem Z1z:FnScope ["suits", "more", "gone", "oath", "standing", "case"] ["suits", "more"] (Zh Zh0):=fsc
theorem Z10(Zh1:Has K mg "settled_with" Zh0)(T:Txt mg)(C3:∃t,mg "NAMED" = some (.int 3 t))(Z11:Fn P w K mg base "margin_without" ["suits", "case", "gone"] 2 Zmh):Fn P w K mg base "settled_with" ["suits", "more"] 3 Znd:=by
 obtain⟨t3,c_NAMED⟩:=C3
 have r_NAMED:RelV (.int 3) (.int 3 t3):=⟨t3,rfl⟩
 refine Zh1.fnQ Z1z (fun _ _ _ _ _ _=>al2 fun _ _=>rfl) (fun vs H Q E h=>?_) (fun f cdv A outer s H vs Q E hr h=>?_)
 ·obtain⟨l,m,ss,ms,more,rfl,_⟩:=h
  rfl
 ·obtain⟨l,m,ss,ms,more,rfl,hsu,hok,hlen,hm,hms,hml,k⟩:=h
  refine⟨_,(Ze (Z4 2 Zl8)
 (Ze (Vf PassesOwn.never rfl (Vb (qvN 1)) (Yt 3)
 (Zf (Zac hr (qvN 2) (qvN 3) Vq)))
 (Ze (Z4 4 (Zz Zxd (Zy (Za Vq Zb)) (Z7 Wl T.len Y0 (Za (qvN 0) Zb))))
 (Ze (Vf PassesOwn.never rfl (Zrv T.range (Za (Zz Zb1 (Z7 Wl T.len Y0 (Za (qvN 0) Zb)) Zd) (Za (Zg0 Zf8 Zd) (Za (Zg0 Zf8 Zd) Zb)))) (Yt 5)
 (Ze (Zap (U6 Zab (Z6 Z11 (Za (qvN 0) (Za (qvN 5) (Za (qvN 2) Zb)))) Zd (Z1 _)) (Zb6 (qvN 4) (qvN 5) Zbw))
 (Zf (Zp (QW.pt (Zc4 (Vh (Zl Yu (qvN 4) (qvN 5) (fun _ _=>rfl))) (Zd3 (Zv Zbh (Zl Z2 (Zl Yu (qvN 0) (qvN 5) (fun _ _=>rfl)) (Yy c_NAMED r_NAMED) (fun _ _=>rfl)) Y9 (Z1 _))))) (Zf (Zac hr (qvN 2) (Zl Z2 (Zl Yu (qvN 0) (qvN 5) (fun _ _=>rfl)) (Yy c_NAMED r_NAMED) (fun _ _=>rfl)) Vq)) Zo))))
 (Zf (Zu (qvN 4))))))),?_⟩
  have hz:(5000:Nat)<=sizeLine:=by decide
  refine fun g hg=>?_
  have S0:Same H (upd H g (.dT [])):=Same.new hg
  have hml':ms.length=more.length:=by have:=hms.length;rw[xB] at this;exact this
  refine⟨_,rfl,m,rfl,⟨_,SqL.of (S0 _ _ hm)⟩,?_⟩
  refine Ug ms (fun i σ H'=>∃(kvs:Ul)(v3:Option V),σ = [some (.ref l),some (.ref m),some (.ref g),v3,none,none]/\H' g=some (.dT kvs)/\GoneIs kvs (more.take i)/\kvs.length<=i/\Same H H') ⟨[],none,rfl,Zg,fun c n=>rfl,xE _,S0⟩ (fun i σ H' _ ⟨_,_,_,_,_,_,e⟩=>SqL.of (e _ _ hm)) ?_ ?_
  ·rintro i x σ H' hx ⟨kvs,v3,rfl,hg',hgi,hkl,sm⟩
   obtain⟨d,hd,hrd⟩:=hms.get hx
   rw[xO] at hd
   obtain⟨⟨c,n⟩,ho⟩:∃o,more[i]? = some o:=by cases e:more[i]? with | none=>rw[e] at hd;cases hd | some t=>exact⟨t,rfl⟩
   rw[ho] at hd
   cases hd
   obtain⟨b,bs,rfl,hb,⟨y1,r1,rfl,e1,⟨y2,r2,rfl,e2,e3⟩⟩⟩:=hrd
   cases e1
   cases e2
   cases e3
   have hi:i < ms.length:=(xF.mp hx).1
   refine⟨_,rfl,_,rfl,g,_,rfl,DPut.t hg' (k:=Yi c n) (sm _ _ hb) (by lia),?_⟩
   refine⟨_,_,rfl,Zg,?_,xT (Vv _ _ _) (by lia),?_⟩
   ·rw[yP,ho]
    exact hgi.put
   ·intro b' o e
    rw[Zc (fun z=>by rw[z,hg] at e;cases e)]
    exact sm b' o e
  ·rintro σ H1 ⟨kvs,v3,rfl,hg1,hgi,hkl,sm1⟩
   rw[hml',yU] at hgi
   obtain⟨us,hl1,hrep1⟩:=hsu.mono sm1
   have hul:us.length=ss.length:=by have:=hrep1.length;rw[xB] at this;exact this
   refine⟨by show 1<=sizeLine;lia,fun q hq=>?_⟩
   have S2:=Same.new (o:=.lst [.bl false]) hq
   have k2:(upd H1 q (.lst [.bl false])) q=some (.lst [.bl false]):=Zg
   generalize (upd H1 q (.lst [.bl false]))=H2 at S2 k2 ⊢
   refine⟨_,rfl,l,us,rfl,.inl (SqL.of (S2 _ _ hl1)),q,_,_,rfl,rfl,k2,by lia,by lia,?_,fun st hst=>?_⟩
   ·rw[yN,hul];show 1 * ss.length<=sizeLine;lia
   have hstH:H st=none:=(sm1.trans S2).free hst
   have hgst:g≠st:=fun z=>by rw[← z,S2 _ _ hg1] at hst;cases hst
   have S3:=Same.new (o:=.lst (List.replicate (us.length:Int).toNat [V.bl false]).flatten) hst
   have k3:(upd H2 st (.lst (List.replicate (us.length:Int).toNat [V.bl false]).flatten)) st=some (.lst ((List.replicate ss.length false).map V.bl)):=by
    rw[Zg,yN,hul]
    have:∀n:Nat,(List.replicate n [V.bl false]).flatten=(List.replicate n false).map V.bl:=by
     intro n
     induction n with
     | zero=>rfl
     | succ n ih=>rw[yR,zP,ih,yR,yE];rfl
    rw[this]
   generalize (upd H2 st (.lst (List.replicate (us.length:Int).toNat [V.bl false]).flatten))=H3 at S3 k3 ⊢
   have S13:=S2.trans S3
   have sm3:=sm1.trans S13
   refine⟨_,rfl,l,us,rfl,.inl (SqL.of (S13 _ _ hl1)),_,_,rfl,rfl,_,rfl,_,rfl,_,_,rfl,⟨by lia,by lia,by decide,by decide⟩,?_⟩
   refine Ztl ss.length (by lia) (fun i σ H'=>∃(kvs:Ul)(v3 v5:Option V),σ = [some (.ref l),some (.ref m),some (.ref g),v3,some (.ref st),v5]/\
     H' st=some (.lst ((List.replicate (ss.length - i) false++(Wc more (ss.length - i) (ss.drop (ss.length - i))).1).map V.bl))/\H' g=some (.dT kvs)/\GoneIs kvs (Wc more (ss.length - i) (ss.drop (ss.length - i))).2/\kvs.length<=1000+i/\Same H H')
    ⟨kvs,_,none,rfl,?_,S13 _ _ hg1,?_,by lia,sm3⟩ ?_ ?_
   ·rw[Nat.sub_zero,List.drop_length,Wc,yQ];exact k3
   ·rw[Nat.sub_zero,List.drop_length,Wc];exact hgi
   ·rintro i σ H' hi ⟨kvs,v3,v5,rfl,hst',hg',hgi',hkl',sm'⟩
    obtain⟨c,hc⟩:∃c,ss.length - i=c+1:=⟨ss.length - i - 1,by lia⟩
    have hc2:ss.length - (i+1)=c:=by lia
    have hcl:c < ss.length:=by lia
    have ec:((us.length:Int) - 1 - (i:Nat))=((c:Nat):Int):=by lia
    rw[hc] at hst' hgi'
    rw[ec,hc2]
    have ht:ss[c]? = some ss[c]:=xC hcl
    have htm:ss[c]∈ss:=zX hcl
    have ed:ss.drop c=ss[c]::ss.drop (c+1):=List.drop_eq_getElem_cons hcl
    rw[ed]
    generalize ss[c]=t at ht htm ed ⊢
    obtain⟨us',hl',hrep'⟩:=hsu.mono sm'
    have hg'':brk kvs=fun(a:Int) (n:Str)=>decide ((a,n)∈(Wc more (c+1) (ss.drop (c+1))).2):=funext fun a=>funext fun b=>hgi' a b
    have hset:Wc more c (t::ss.drop (c+1))=(decide (0<=Zbs (brk kvs) c t)::(Wc more (c+1) (ss.drop (c+1))).1,if decide (0<=Zbs (brk kvs) c t)=true then (Wc more (c+1) (ss.drop (c+1))).2++t.named.toList else (Wc more (c+1) (ss.drop (c+1))).2):=by rw[hg'',Wc]
    rw[hset]
    generalize Wc more (c+1) (ss.drop (c+1))=R at hst' hgi' ⊢
    refine⟨_,rfl,_,rfl,_,rfl,l,g,c,ss,t,kvs,rfl,hsu.mono sm',ht,hok t htm,hg',fun H4 s4=>?_⟩
    have hst4:=s4 _ _ hst'
    refine⟨Zbs (brk kvs) c t,0,rfl,rfl,_,rfl,_,rfl,st,_,c,c,rfl,rfl,hst4,?_,?_⟩
    ·exact Zxq (by rw[xB,xN,List.length_replicate];lia)
    dsimp only
    generalize decide (0<=Zbs (brk kvs) c t)=b
    rw[Znb]
    have sm5:Same H (upd H4 st (.lst ((List.replicate c false++(b::R.1)).map V.bl))):=fun x o e=>by
     rw[Zc (fun z=>by rw[z,hstH] at e;cases e)]
     exact s4 _ _ (sm' _ _ e)
    have k5:(upd H4 st (.lst ((List.replicate c false++(b::R.1)).map V.bl))) st=some (.lst ((List.replicate c false++(b::R.1)).map V.bl)):=Zg
    have hg5:(upd H4 st (.lst ((List.replicate c false++(b::R.1)).map V.bl))) g=some (.dT kvs):=by rw[Zc hgst];exact s4 _ _ hg'
    generalize (upd H4 st (.lst ((List.replicate c false++(b::R.1)).map V.bl)))=H5 at sm5 k5 hg5 ⊢
    obtain⟨us5,hl5,hrep5⟩:=hsu.mono sm5
    obtain⟨ta,u1,u2,u4,hu,hta,h1,h2,h4⟩:=SuitsAt.get (l:=l) hrep5 ht
    refine⟨_,rfl,_,rfl,st,_,c,.bl b,rfl,rfl,SqL.of k5,Va (Znc ..),b,rfl,?_⟩
    cases b with
    | false =>
     refine Zt (Zt ?_)
     exact⟨kvs,_,_,rfl,k5,hg5,hgi',by lia,sm5⟩
    | true =>
     refine Z5 ?_
     refine⟨_,rfl,_,rfl,l,us5,c,.ref ta,rfl,rfl,SqL.of hl5,Va hu,ta,_,3,u4,rfl,rfl,SqT.of hta,rfl,rfl,_,rfl,?_⟩
     cases hn:t.named with
     | none =>
      rw[hn] at h4
      cases h4
      refine Zt ?_
      exact⟨kvs,_,_,rfl,k5,hg5,by show GoneIs kvs (R.2 ++ []);rw[yQ];exact hgi',by lia,sm5⟩
     | some o =>
      rw[hn] at h4
      obtain⟨oc,on⟩:=o
      obtain⟨d,bs,rfl,hb,⟨y1,r1,rfl,e1,⟨y2,r2,rfl,e2,e3⟩⟩⟩:=h4
      cases e1
      cases e2
      cases e3
      refine Z5 ?_
      refine⟨_,rfl,_,rfl,_,rfl,l,us5,c,.ref ta,rfl,rfl,SqL.of hl5,Va hu,ta,_,3,.ref d,rfl,rfl,SqT.of hta,rfl,?_⟩
      refine⟨g,_,rfl,DPut.t hg5 (k:=Yi oc on) hb (by lia),?_⟩
      refine⟨_,_,_,rfl,by rw[Zc hgst.symm];exact k5,Zg,hgi'.put,xT (Vv _ _ _) (by lia),?_⟩
      intro b' o e
      rw[Zc (fun z=>by rw[z,hg] at e;cases e)]
      exact sm5 b' o e
   ·rintro σ H' ⟨kvs,v3,v5,rfl,hst',hg',hgi',hkl',sm'⟩
    rw[Nat.sub_self] at hst'
    exact⟨_,rfl,k st H' hstH hst' sm'⟩
end
section
variable{P:Program}{w:World}{K:uFg}{mg:Str->Option Value}{base:Heap}
def Zgr:Sp:=fun vs H Q _=>∃(l:Addr)(ss:List Suit),vs = [.ref l]/\SuitsAt H ss l/\(∀t∈ss,Us t)/\ss.length<=1000 /\
 ∀(l2:Addr)(H':Hp),H l2=none->H' l2=some (.lst ((Wc [] 0 ss).1.map V.bl))->Same H H'->Q (.ref l2) H'
abbrev Zh2:Stmt:=top 43
theorem Z12:FnScope ["suits"] ["suits"] (Zh Zh2):=fsc
theorem Z13(Zh3:Has K mg "settled" Zh2)(T:Txt mg)(Z14:Fn P w K mg base "settled_with" ["suits", "more"] 3 Znd):Fn P w K mg base "settled" ["suits"] 4 Zgr:=by
 refine Zh3.fnQ Z12 (fun _ _ _ _ _ _=>al1 fun _=>rfl) (fun vs H Q E h=>?_) (fun f cdv A outer s H vs Q E hr h=>?_)
 ·obtain⟨l,ss,rfl,_⟩:=h
  rfl
 ·obtain⟨l,ss,rfl,hsu,hok,hlen,k⟩:=h
  refine⟨_,(Zf (Zu (Z6 Z14 (Za (qvN 0) (Za (Zy Zb) Zb))))),?_⟩
  refine⟨_,rfl,by show 0<=sizeLine;lia,fun q hq=>?_⟩
  have S:=Same.new (o:=.lst []) hq
  exact⟨l,q,ss,[],[],rfl,hsu.mono S,hok,hlen,Zg,rfl,yJ _,fun l2 H' h1 h2 h3=>k l2 H' (S.free h1) h2 (S.trans h3)⟩
end
section
variable{P:Program}{w:World}{K:uFg}{mg:Str->Option Value}{base:Heap}
def Wx(cs:List Nat):List V:=cs.map fun(c:Nat)=>V.int (c:Int)
def nmd(ss:List Suit)(c:Int)(n:Str)(j:Nat):Bool:=match ss[j]? with
 | some u=>decide (u.named=some (c,n))
 | none=>false
theorem nmd_iff{ss:List Suit}{c:Int}{n:Str}{j:Nat}:nmd ss c n j=true↔∃u,ss[j]? = some u/\u.named=some (c,n):=by
 unfold nmd
 cases e:ss[j]? with
 | none=>exact⟨(fun z=>nomatch z),(fun⟨u,z,_⟩=>nomatch z)⟩
 | some u=>exact⟨fun z=>⟨u,rfl,of_decide_eq_true z⟩,fun⟨v,z,q⟩=>by cases z;exact yL q⟩
def Wn(ss:List Suit)(c:Int)(n:Str)(cs:List Nat):List Nat:=cs.filter (nmd ss c n)
theorem Zea{ss:List Suit}{c:Int}{n:Str}{cs:List Nat}{i j:Nat}(h:cs[i]? = some j):Wn ss c n (cs.take (i+1))=Wn ss c n (cs.take i)++(if nmd ss c n j then [j] else []):=by
 unfold Wn
 rw[yP,h,List.filter_append]
 cases e:nmd ss c n j<;>simp[e]
theorem Zzm(ss:List Suit)(c:Int)(n:Str)(cs:List Nat):(Wn ss c n cs).length<=cs.length:=zW _ _
def Zqu(H:Hp)(g:Addr)(ss:List Suit)(cs:List Nat):Prop:=∃kvs:Ul,H g=some (.dT kvs)/\kvs.length<=cs.length/\(∀p∈kvs,∃c n,p.1=Yi c n/\Wn ss c n cs ≠ [])/\∀c n,(Zx kvs (Yi c n)=none/\Wn ss c n cs = [])\/∃a,Zx kvs (Yi c n)=some (.ref a)/\H a=some (.lst (Wx (Wn ss c n cs)))
structure NbPre (H H':Hp) (g:Addr) (ss:List Suit) (cs:List Nat) (kvs:Ul):Prop where
 at_:H' g=some (.dT kvs)
 len:kvs.length<=cs.length
 keys:∀p∈kvs,∃c n,p.1=Yi c n/\Wn ss c n cs ≠ []
 no:∀c n,Zx kvs (Yi c n)=none->Wn ss c n cs = []
 yes:∀c n v,Zx kvs (Yi c n)=some v->∃a,v = .ref a/\H a=none/\a≠g/\H' a=some (.lst (Wx (Wn ss c n cs)))
 one:∀c n c' n' a,Zx kvs (Yi c n)=some (.ref a)->Zx kvs (Yi c' n')=some (.ref a)->(c,n)=(c',n')
def Zmi:Sp:=fun vs H Q _=>∃(l lc:Addr)(ss:List Suit)(cs:List Nat),vs = [.ref l,.ref lc]/\SuitsAt H ss l/\cs.length<=1000/\(∀j∈cs,j < ss.length)/\H lc=some (.lst (Wx cs))/\
 ∀(g:Addr)(H':Hp),H g=none->Zqu H' g ss cs->(∀kvs c n a,H' g=some (.dT kvs)->Zx kvs (Yi c n)=some (.ref a)->H a=none)->Same H H'->Q (.ref g) H'
theorem Zf0{c c':Int}{n n':Str}(e:Yi c n=Yi c' n'):(c,n)=(c',n'):=by
 unfold Yi at e
 injection e with e1 e2
 injection e2 with e2 _
 cases e1
 cases e2
 rfl
theorem Zvu{l:Ul}{k:List Key}{v:V}{p:List Key×V}(h:p∈Z0 l k v):p=(k,v)\/p∈l:=by
 unfold Z0 at h
 split at h
 ·obtain⟨q,hq,e⟩:=zC.mp h
  split at e
  ·rename_i e2
   rw[← e,e2];exact .inl rfl
  ·rw[← e];exact .inr hq
 ·rcases xJ.mp h with z | z
  ·exact .inr z
  ·exact .inl (xK.mp z)
abbrev Zh4:Stmt:=top 48
theorem Z15:FnScope ["suits", "cases", "named_by", "case", "oath"] ["suits", "cases"] (Zh Zh4):=fsc
theorem Z16(Zh5:Has K mg "naming" Zh4)(T:Txt mg)(C3:∃t,mg "NAMED" = some (.int 3 t)):Fn P w K mg base "naming" ["suits", "cases"] 1 Zmi:=by
 obtain⟨t3,c_NAMED⟩:=C3
 have r_NAMED:RelV (.int 3) (.int 3 t3):=⟨t3,rfl⟩
 refine Zh5.fnQ Z15 (fun _ _ _ _ _ _=>al2 fun _ _=>rfl) (fun vs H Q E h=>?_) (fun f cdv A outer s H vs Q E hr h=>?_)
 ·obtain⟨l,lc,ss,cs,rfl,_⟩:=h
  rfl
 ·obtain⟨l,lc,ss,cs,rfl,hsu,hlen,hcs,hlc,k⟩:=h
  refine⟨_,(Ze (Z4 2 Zl8)
 (Ze (Vf PassesOwn.never rfl (Vb (qvN 1)) (Yt 3)
 (Ze (Z4 4 (Zl Z2 (Zl Yu (qvN 0) (qvN 3) (fun _ _=>rfl)) (Yy c_NAMED r_NAMED) (fun _ _=>rfl)))
 (Zf (Zp (Zv Zbh (qvN 4) Y9 (Z1 _)) (Zf (Zi (Wf F.plainAttrs_list F.slot_list_append F.type_list_append Wm (Zto hr (qvN 2) (qvN 4) (Zy Zb)) (Za (qvN 3) Zb)))) Zo))))
 (Zf (Zu (qvN 2))))),?_⟩
  have hz:(5000:Nat)<=sizeLine:=by decide
  refine fun g hg=>?_
  have S0:Same H (upd H g (.dT [])):=Same.new hg
  refine⟨_,rfl,lc,rfl,⟨_,SqL.of (S0 _ _ hlc)⟩,?_⟩
  refine Ug (Wx cs) (fun i σ H'=>∃(kvs:Ul)(v3 v4:Option V),σ = [some (.ref l),some (.ref lc),some (.ref g),v3,v4]/\NbPre H H' g ss (cs.take i) kvs/\Same H H') ⟨[],none,none,rfl,⟨Zg,xE _,(fun p hp=>nomatch hp),fun c n _=>rfl,(fun c n v e=>nomatch e),(fun c n c' n' a e=>nomatch e)⟩,S0⟩ (fun i σ H' _ ⟨_,_,_,_,_,e⟩=>SqL.of (e _ _ hlc)) ?_ ?_
  ·rintro i x σ H' hx ⟨kvs,v3,v4,rfl,I,sm⟩
   have hi:i < cs.length:=by
    have:=(xF.mp hx).1
    unfold Wx at this
    rw[xB] at this
    exact this
   obtain⟨j,hcj,ex⟩:∃j,cs[i]? = some j/\x = .int (j:Int):=by
    unfold Wx at hx
    rw[xO] at hx
    obtain⟨j,h1,h2⟩:=xZ.mp hx
    exact⟨j,h1,h2.symm⟩
   subst ex
   have tl:(cs.take i).length=i:=by rw[xX];lia
   have tl1:(cs.take (i+1)).length=i+1:=by rw[xX];lia
   have more:∀c n,Wn ss c n (cs.take i)≠ []->Wn ss c n (cs.take (i+1))≠ []:=fun c n h z=>by
    rw[Zea hcj] at z
    exact h (List.append_eq_nil_iff.mp z).1
   have hlen':=I.len
   rw[tl] at hlen'
   obtain⟨t,ht⟩:∃t,ss[j]? = some t:=⟨_,xC (hcs j (xI hcj))⟩
   obtain⟨us,hl',hrep⟩:=hsu.mono sm
   obtain⟨ta,u1,u2,u4,hu,hta,_,_,h4⟩:=SuitsAt.get (l:=l) hrep ht
   refine⟨_,rfl,_,rfl,l,us,j,.ref ta,rfl,rfl,SqL.of hl',Va hu,ta,_,3,u4,rfl,rfl,SqT.of hta,rfl,?_⟩
   cases hn:t.named with
   | none =>
    rw[hn] at h4
    cases h4
    refine⟨_,rfl,rfl,_,rfl,Yq (fun z=>absurd rfl z) (fun _=>?_)⟩
    have same:∀c n,Wn ss c n (cs.take (i+1))=Wn ss c n (cs.take i):=fun c n=>by
     rw[Zea hcj]
     have:nmd ss c n j=false:=by
      cases e:nmd ss c n j with
      | false=>rfl
      | true=>obtain⟨u,q1,q2⟩:=nmd_iff.mp e;rw[ht] at q1;cases q1;rw[hn] at q2;cases q2
     rw[this,if_neg xH,yQ]
    exact⟨kvs,_,_,rfl,⟨I.at_,by lia,fun p hp=>let ⟨c,n,e,h⟩:=I.keys p hp;⟨c,n,e,more c n h⟩,fun c n e=>by rw[same];exact I.no c n e,fun c n v e=>by rw[same];exact I.yes c n v e,I.one⟩,sm⟩
   | some o =>
    rw[hn] at h4
    obtain⟨c0,n0⟩:=o
    obtain⟨b,bs,rfl,hb,⟨y1,r1,rfl,e1,⟨y2,r2,rfl,e2,e3⟩⟩⟩:=h4
    cases e1
    cases e2
    cases e3
    have mine:Wn ss c0 n0 (cs.take (i+1))=Wn ss c0 n0 (cs.take i)++[j]:=by rw[Zea hcj,nmd_iff.mpr ⟨t,ht,hn⟩,if_pos rfl]
    have same:∀c n,(c,n)≠(c0,n0)->Wn ss c n (cs.take (i+1))=Wn ss c n (cs.take i):=fun c n hne=>by
     rw[Zea hcj]
     have:nmd ss c n j=false:=by
      cases e:nmd ss c n j with
      | false=>rfl
      | true=>obtain⟨u,q1,q2⟩:=nmd_iff.mp e;rw[ht] at q1;cases q1;rw[hn] at q2;exact absurd (Option.some.inj q2).symm hne
     rw[this,if_neg xH,yQ]
    have snocV:Wx (Wn ss c0 n0 (cs.take i))++[V.int j]=Wx (Wn ss c0 n0 (cs.take (i+1))):=by rw[mine];unfold Wx;rw[xV];rfl
    have jl:=Zzm ss c0 n0 (cs.take i)
    rw[tl] at jl
    refine⟨_,rfl,rfl,_,rfl,Yq (fun _=>?_) (fun z=>nomatch z)⟩
    refine⟨_,rfl,g,rfl,.inr ⟨kvs,.inl I.at_⟩,_,rfl,by show 0<=sizeLine;lia,fun q hq=>?_⟩
    have Sq:=Same.new (o:=.lst []) hq
    have kq:(upd H' q (.lst [])) q=some (.lst []):=Zg
    have gq:q≠g:=fun z=>by rw[z,I.at_] at hq;cases hq
    have hqH:H q=none:=sm.free hq
    generalize (upd H' q (.lst []))=H1 at Sq kq ⊢
    have smq:=sm.trans Sq
    refine⟨kvs,Yi c0 n0,b,Sq _ _ I.at_,rfl,Sq _ _ hb,by lia,fun v hv=>?_,fun hv=>?_⟩
    ·obtain⟨a,rfl,haf,hag,ha⟩:=I.yes c0 n0 v hv
     have ha1:=Sq _ _ ha
     refine⟨.inl ⟨rfl,_,SqL.of ha1⟩,_,rfl,a,_,_,rfl,rfl,ha1,by unfold Wx;rw[xB];lia,?_⟩
     refine⟨kvs,_,_,rfl,⟨?_,by lia,fun p hp=>let ⟨c,n,e,h⟩:=I.keys p hp;⟨c,n,e,more c n h⟩,fun c n e=>?_,fun c n v e=>?_,I.one⟩,?_⟩
     ·rw[Zc hag.symm];exact Sq _ _ I.at_
     ·rw[same c n (fun z=>by cases z;rw[hv] at e;cases e)];exact I.no c n e
     ·obtain⟨a',rfl,h1,h2,h3⟩:=I.yes c n v e
      refine⟨a',rfl,h1,h2,?_⟩
      by_cases hk:(c,n)=(c0,n0)
      ·cases hk
       rw[hv] at e
       cases e
       rw[Zg,snocV]
      ·rw[same c n hk,Zc (fun z=>hk (by rw[z] at e;exact I.one c n c0 n0 a e hv))]
       exact Sq _ _ h3
     ·intro b' o e
      rw[Zc (fun z=>by rw[z,haf] at e;cases e)]
      exact smq b' o e
    ·have hg2:(upd H1 g (.dT (Z0 kvs (Yi c0 n0) (.ref q)))) q=some (.lst []):=by rw[Zc gq];exact kq
     refine⟨.inl ⟨rfl,_,SqL.of hg2⟩,_,rfl,q,_,_,rfl,rfl,hg2,by show 0 < sizeLine;lia,?_⟩
     have j0:=I.no c0 n0 hv
     refine⟨Z0 kvs (Yi c0 n0) (.ref q),_,_,rfl,⟨?_,xT (Vv _ _ _) (by lia),fun p hp=>?_,fun c n e=>?_,fun c n v e=>?_,fun c n c' n' a e e'=>?_⟩,?_⟩
     ·rw[Zc gq.symm,Zg]
     ·rcases Zvu hp with rfl | hp
      ·exact⟨c0,n0,rfl,by rw[mine];simp⟩
      ·obtain⟨c,n,e,h⟩:=I.keys p hp
       exact⟨c,n,e,more c n h⟩
     ·rw[Ue] at e
      by_cases hk:Yi c n=Yi c0 n0
      ·rw[if_pos hk] at e;cases e
      ·rw[if_neg hk] at e
       rw[same c n (fun z=>hk (by cases z;rfl))]
       exact I.no c n e
     ·rw[Ue] at e
      by_cases hk:Yi c n=Yi c0 n0
      ·rw[if_pos hk] at e
       cases e
       have hk':=Zf0 hk
       cases hk'
       exact⟨q,rfl,hqH,gq,by rw[Zg,mine,j0];rfl⟩
      ·rw[if_neg hk] at e
       obtain⟨a',rfl,h1,h2,h3⟩:=I.yes c n v e
       refine⟨a',rfl,h1,h2,?_⟩
       have aq:a'≠q:=fun z=>by rw[z,hq] at h3;cases h3
       rw[same c n (fun z=>hk (by cases z;rfl)),Zc aq,Zc h2]
       exact Sq _ _ h3
     ·rw[Ue] at e e'
      have no:∀c n,Zx kvs (Yi c n)=some (.ref q)->False:=fun c n z=>by
       obtain⟨a',z1,_,_,h3⟩:=I.yes c n _ z
       cases z1
       rw[hq] at h3
       cases h3
      by_cases hk:Yi c n=Yi c0 n0
      ·by_cases hk':Yi c' n'=Yi c0 n0
       ·exact(Zf0 hk).trans (Zf0 hk').symm
       ·rw[if_pos hk] at e
        rw[if_neg hk'] at e'
        cases e
        exact(no _ _ e').elim
      ·rw[if_neg hk] at e
       by_cases hk':Yi c' n'=Yi c0 n0
       ·rw[if_pos hk'] at e'
        cases e'
        exact(no _ _ e).elim
       ·rw[if_neg hk'] at e'
        exact I.one _ _ _ _ _ e e'
     ·intro b' o e
      rw[Zc (fun z=>by rw[z,hqH] at e;cases e),Zc (fun z=>by rw[z,hg] at e;cases e)]
      exact smq b' o e
  ·rintro σ H' ⟨kvs,v3,v4,rfl,I,sm⟩
   have el:(Wx cs).length=cs.length:=by unfold Wx;rw[xB]
   rw[el,yU] at I
   refine⟨_,rfl,k g H' hg ⟨kvs,I.at_,I.len,I.keys,fun c n=>?_⟩ (fun kvs2 c n a e1 e2=>?_) sm⟩
   ·cases e:Zx kvs (Yi c n) with
    | none=>exact .inl ⟨rfl,I.no c n e⟩
    | some v =>
     obtain⟨a,rfl,_,_,h3⟩:=I.yes c n v e
     exact .inr ⟨a,rfl,h3⟩
   ·rw[I.at_] at e1
    cases e1
    obtain⟨a',z,hz',_,_⟩:=I.yes c n _ e2
    cases z
    exact hz'
end
section
variable{P:Program}{w:World}{K:uFg}{mg:Str->Option Value}{base:Heap}
def stT(bs:List Bool)(i:Nat):List Nat:=(List.range i).filter fun j=>bs.getD j false
def stL(bs:List Bool):List Nat:=stT bs bs.length
theorem Zvv{bs:List Bool}{i:Nat}{b:Bool}(h:bs[i]? = some b):stT bs (i+1)=stT bs i++(if b then [i] else []):=by
 unfold stT
 rw[List.range_succ,List.filter_append]
 cases b<;>simp[h]
theorem Zne(bs:List Bool)(i:Nat):(stT bs i).length<=i:=xT (zW _ _) (by rw[List.length_range];exact xE _)
theorem stL_mem{bs:List Bool}{j:Nat}:j∈stL bs↔bs[j]? = some true:=by
 unfold stL stT
 rw[List.mem_filter,List.mem_range,xS]
 constructor
 ·rintro⟨h1,h2⟩
  rw[xC h1] at h2 ⊢
  exact congrArg some h2
 ·intro h
  exact⟨(xF.mp h).1,by rw[h];rfl⟩
abbrev U0(ss:List Suit):List Bool:=(Wc [] 0 ss).1
def Zfe(ss:List Suit)(c:Int)(n:Str):List Nat:=Wn ss c n (stL (U0 ss))
def Zlb:Sp:=fun vs H Q _=>∃(l:Addr)(ss:List Suit),vs = [.ref l]/\SuitsAt H ss l/\(∀t∈ss,Us t)/\ss.length<=1000 /\
 ∀(g:Addr)(H':Hp),H g=none->Zqu H' g ss (stL (U0 ss))->(∀kvs c n a,H' g=some (.dT kvs)->Zx kvs (Yi c n)=some (.ref a)->H a=none)->Same H H'->Q (.ref g) H'
abbrev Zh6:Stmt:=top 47
theorem Z17:FnScope ["suits"] ["suits"] (Zh Zh6):=fsc
theorem Z18(Zh7:Has K mg "breaking" Zh6)(T:Txt mg)(Zh8:Fn P w K mg base "settled" ["suits"] 4 Zgr)(Z19:Fn P w K mg base "naming" ["suits", "cases"] 1 Zmi) :
  Fn P w K mg base "breaking" ["suits"] 5 Zlb:=by
 refine Zh7.fnQ Z17 (fun _ _ _ _ _ _=>al1 fun _=>rfl) (fun vs H Q E h=>?_) (fun f cdv A outer s H vs Q E hr h=>?_)
 ·obtain⟨l,ss,rfl,_⟩:=h
  rfl
 ·obtain⟨l,ss,rfl,hsu,hok,hlen,k⟩:=h
  refine⟨_,(Zf (Zu (Z6 Z19 (Za (qvN 0) (Za (Ur (locs:=["case", "stands"]) (fr:=[]) ⟨rfl,by decide +kernel,by decide +kernel,by decide +kernel,by decide +kernel,by decide +kernel⟩ .nil rfl (Zm1 T.enumerate (Za (Z6 Zh8 (Za (qvN 0) Zb)) Zb)) ⟨fun _ _ _ _ _ _=>by
  have cnd:(inN ["case", "stands"] []).Nodup:=by decide +kernel
  exact⟨(Zd6 2 (by rfl) (Wk (Vw 0 cnd) (Wk (Vw 1 cnd) Zaq))),(Zd5 (Vh (Vc 1))),(Vc 0)⟩⟩) Zb))))),?_⟩
  refine⟨_,rfl,_,rfl,l,ss,rfl,hsu,hok,hlen,fun tl H1 h1 h2 sm1=>?_⟩
  have hbl:(U0 ss).length=ss.length:=Zfr [] ss 0
  refine⟨tl,_,rfl,SqL.of h2,?_⟩
  refine Ztz ((U0 ss).map V.bl) (fun i ys H'=>Same H1 H'/\ys=Wx (stT (U0 ss) i)) ⟨fun _ _ e=>e,rfl⟩ (by rw[xB];lia) (fun i ys H' _ ⟨e,_⟩=>SqL.of (e _ _ h2)) ?_ ?_ ?_
  ·rintro i ys H' ⟨_,rfl⟩
   unfold Wx
   rw[xB]
   exact Zne _ _
  ·rintro i x p ys H' hx ⟨sm,rfl⟩ hp ls hls
   obtain⟨w1,w2,rfl⟩:=Zfc hls
   have Sp:=Same.new (o:=.tup [.int i,x]) hp
   have kp:(upd H' p (.tup [.int i,x])) p=some (.tup [.int i,x]):=Zg
   generalize (upd H' p (.tup [.int i,x]))=H2 at Sp kp ⊢
   obtain⟨b,hb,rfl⟩:∃b,(U0 ss)[i]? = some b/\x = .bl b:=by
    rw[xO] at hx
    obtain⟨b,h1,h2⟩:=xZ.mp hx
    exact⟨b,h1,h2.symm⟩
   refine⟨p,_,rfl,SqT.of kp,rfl,_,_,rfl,_,_,rfl,rfl,⟨[_,_],rfl,rfl⟩,?_⟩
   refine⟨_,rfl,b,rfl,?_⟩
   have e:=Zvv hb
   cases b with
   | true =>
    refine Z5 ?_
    refine⟨_,rfl,sm.trans Sp,?_⟩
    rw[e]
    unfold Wx
    rw[xV]
    rfl
   | false =>
    refine Zt ?_
    exact⟨sm.trans Sp,by rw[e];simp⟩
  ·rintro ys H' ⟨sm,rfl⟩ lc hlc
   rw[xB]
   have Sc:=Same.new (o:=.lst (Wx (stL (U0 ss)))) hlc
   have S:=(sm1.trans sm).trans Sc
   have hl9:=Zne (U0 ss) (U0 ss).length
   refine⟨l,lc,ss,stL (U0 ss),rfl,hsu.mono S,by unfold stL;lia,fun j hj=>?_,Zg,fun g H2 hg hnb hfr sm2=>?_⟩
   ·rw[← hbl];exact(xF.mp (stL_mem.mp hj)).1
   ·exact k g H2 (S.free hg) hnb (fun kvs c n a e1 e2=>S.free (hfr kvs c n a e1 e2)) (S.trans sm2)
end
section
variable{P:Program}{w:World}{K:uFg}{mg:Str->Option Value}{base:Heap}{C CM:Addr}
def fz(xs:List Addr)(H:Hp):Hp:=fun b=>if b∈xs then H b else match H b with
 | some (.tup t)=>some (.tup t)
 | _=>none
theorem Zpz{xs:List Addr}{H:Hp}{b:Addr}{o:HO}(h:fz xs H b=some o):H b=some o/\(b∈xs\/∃t,o = .tup t):=by
 unfold fz at h
 split at h
 ·rename_i m;exact⟨h,.inl m⟩
 ·split at h
  ·rename_i t e;cases h;exact⟨e,.inr ⟨t,rfl⟩⟩
  ·cases h
theorem Zae{xs:List Addr}{H:Hp}{b:Addr}{o:HO}(m:b∈xs)(h:H b=some o):fz xs H b=some o:=by unfold fz;rw[if_pos m];exact h
theorem Wd{xs:List Addr}{H:Hp}{b:Addr}{t:List V}(h:H b=some (.tup t)):fz xs H b=some (.tup t):=by
 unfold fz
 split
 ·exact h
 ·rw[h]
theorem Z2a{xs:List Addr}{H:Hp}:Same (fz xs H) H:=fun _ _ e=>(Zpz e).1
theorem Zbk{xs xs':List Addr}{H H':Hp}(kt:V0 H H')(kx:∀x∈xs,∀o,H x=some o->H' x=some o)(s:∀x∈xs,x∈xs'):Same (fz xs H) (fz xs' H'):=fun b o e=>by
 obtain⟨e,m | ⟨t,rfl⟩⟩:=Zpz e
 ·exact Zae (s b m) (kx b m o e)
 ·exact Wd (kt b t e)
def LAt(H:Hp)(xs:List Addr)(l:Addr)(ds:List D):Prop:=∃vs,H l=some (.lst vs)/\RepL (fz xs H) ds vs
theorem LAt.mono{H H':Hp}{xs xs':List Addr}{l:Addr}{ds:List D}(h:LAt H xs l ds)(k:∀o,H l=some o->H' l=some o)(s:Same (fz xs H) (fz xs' H')):LAt H' xs' l ds :=
 let ⟨vs,a,b⟩:=h;⟨vs,k _ a,b.mono' s⟩
theorem LAt.get{H:Hp}{xs:List Addr}{l:Addr}{ds:List D}(h:LAt H xs l ds):∃vs,H l=some (.lst vs)/\RepL H ds vs/\vs.length=ds.length :=
 let ⟨vs,a,b⟩:=h;⟨vs,a,b.mono' Z2a,b.length⟩
structure ML where
 p:Addr
 L:FL
 ld:Addr
 lb:Addr
 lh:Addr
 lq:Addr
 lt:Addr
 ly:Addr
 lv:Addr
 dp:Addr
def Wi(M:ML):List (Str×V):=Zm "penances" (.ref M.dp) (Zm "verdicts" (.ref M.lv) (Zm "trial_days" (.ref M.ly) (Zm "trials" (.ref M.lt) (Zm "debts" (.ref M.lq) (Zm "happenings" (.ref M.lh) (Zm "bringings" (.ref M.lb) (Zm "folk" (.ref M.L.p) (Zm "deeds" (.ref M.ld) []))))))))
local macro_rules | `(tactic| walk_at "mf")=>`(tactic| (unfold Wi;repeat (first | rw[Yx,if_pos (by decide +kernel)] | rw[Yx,if_neg (by decide +kernel)])))
theorem Vm(M:ML):(Wi M).lookup ("deeds" : Str)=some (.ref M.ld):=by walk_at "mf"
theorem Ua(M:ML):(Wi M).lookup ("folk" : Str)=some (.ref M.L.p):=by walk_at "mf"
theorem Zcz(M:ML):(Wi M).lookup ("bringings" : Str)=some (.ref M.lb):=by walk_at "mf"
theorem Zgc(M:ML):(Wi M).lookup ("happenings" : Str)=some (.ref M.lh):=by walk_at "mf"
theorem Zmj(M:ML):(Wi M).lookup ("debts" : Str)=some (.ref M.lq):=by walk_at "mf"
theorem Zaw(M:ML):(Wi M).lookup ("trials" : Str)=some (.ref M.lt):=by walk_at "mf"
theorem Znf(M:ML):(Wi M).lookup ("trial_days" : Str)=some (.ref M.ly):=by walk_at "mf"
theorem Zxr(M:ML):(Wi M).lookup ("verdicts" : Str)=some (.ref M.lv):=by walk_at "mf"
theorem Zod(M:ML):(Wi M).lookup ("penances" : Str)=some (.ref M.dp):=by walk_at "mf"
def ML.setv(M:ML)(l:Addr):ML:={M with lv:=l }
theorem Zxs(M:ML)(l:Addr):Zm "verdicts" (.ref l) (Wi M)=Wi (M.setv l):=by
 obtain⟨p,L,ld,lb,lh,lq,lt,ly,lv,dp⟩:=M
 rfl
def Zki(m:Str):Prop:=¬m = "penances" /\ ¬m = "verdicts" /\ ¬m = "trial_days" /\ ¬m = "trials" /\ ¬m = "debts" /\ ¬m = "happenings" /\ ¬m = "bringings" /\ ¬m = "folk" /\ ¬m = "deeds"
instance (m:Str):Decidable (Zki m):=by unfold Zki;exact inferInstance
theorem Z8(M:ML){m:Str}(h:Zki m:=by decide +kernel):(Wi M).lookup m=none:=by
 obtain⟨a1,a2,a3,a4,a5,a6,a7,a8,a9⟩:=h
 unfold Wi
 rw[Yx,if_neg a1,Yx,if_neg a2,Yx,if_neg a3,Yx,if_neg a4,Yx,if_neg a5,Yx,if_neg a6,Yx,if_neg a7,Yx,if_neg a8,Yx,if_neg a9]
 rfl
abbrev Zxt:=TxC
structure TxCMoot (K:uFg) (C:Addr):Prop where
 cl:Cls K C
 nd:NoAttr K C "deeds"
 nf:NoAttr K C "folk"
 nb:NoAttr K C "bringings"
 nh:NoAttr K C "happenings"
 nq:NoAttr K C "debts"
 nt:NoAttr K C "trials"
 ny:NoAttr K C "trial_days"
 nv:NoAttr K C "verdicts"
 np:NoAttr K C "penances"
structure Mo where
 deeds:List D
 brs:List D
 haps:List (List D)
 debts:List D
 trials:List Suit
 days:List Int
 verd:List Bool
 pen:Str->Option Int
 npen:Nat
def ML.ls(M:ML):List Addr:=[M.ld,M.lb,M.lq,M.lt,M.ly,M.lv]
def Mo.at_(m:Mo)(M:ML)(qs:List Addr):List (Addr×List D) :=
 (M.ld,m.deeds)::(M.lb,m.brs)::(M.lq,m.debts)::(M.lt,m.trials.map Ws)::(M.ly,m.days.map D.int)::(M.lv,m.verd.map D.bl)::qs.zip m.haps
structure MootAt (C CM:Addr) (H:Hp) (M:ML) (ds:List Deed) (wa:Str->Addr) (xs:List Addr) (m:Mo) (qs:List Addr):Prop where
 ob:∃dx,H M.p=some (.ins CM dx (Wi M))
 fk:Fk C H M.L ds wa
 ls:∀p∈m.at_ M qs,LAt H xs p.1 p.2
 hl:H M.lh=some (.lst (qs.map V.ref))
 hn:qs.length=m.haps.length
 pn:∃kvs:List (Key×V),H M.dp=some (.dK kvs)/\kvs.length<=m.npen/\∀n:Str,Zx kvs (.inr n)=(m.pen n).map V.int
 nl:(M.lh::(M.ls++qs)).Nodup
 nx:∀x∈xs,x∉M.lh::(M.ls++qs)
 xl:∀x∈xs,∃vs,H x=some (.lst vs)
 np:M.p≠M.L.p
 nd:¬own M.L ds wa M.dp
def mo(M:ML)(ds:List Deed)(wa:Str->Addr)(xs qs:List Addr)(b:Addr):Prop:=b=M.p\/b=M.dp\/b∈M.lh::(M.ls++qs)\/b∈xs\/own M.L ds wa b
variable{M:ML}{ds:List Deed}{wa:Str->Addr}{xs qs:List Addr}{m:Mo}{H H':Hp}
theorem Zel{p:Addr×List D}(h:p∈m.at_ M qs):p.1∈M.ls++qs:=by
 unfold Mo.at_ at h
 simp only[xD] at h
 rcases h with rfl | rfl | rfl | rfl | rfl | rfl | h
 iterate 6 (refine yX _ ?_;unfold ML.ls;simp only[xD,true_or,or_true])
 exact xL _ (yZ h).1
theorem MootAt.keep(h:MootAt C CM H M ds wa xs m qs)(k:∀b o,mo M ds wa xs qs b->H b=some o->H' b=some o)(kt:V0 H H'):MootAt C CM H' M ds wa xs m qs:=by
 obtain⟨⟨dx,ob⟩,fk,ls,hl,hn,⟨kvs,p1,p2,p3⟩,nl,nx,xl,np,nd⟩:=h
 have s:=Zbk (xs:=xs) (xs':=xs) kt (fun x hx o e=>k x o (.inr (.inr (.inr (.inl hx)))) e) (fun _ z=>z)
 exact⟨⟨dx,k _ _ (.inl rfl) ob⟩,fk.at fun b o hb e=>k b o (.inr (.inr (.inr (.inr hb)))) e,fun p hp=>(ls p hp).mono (fun o e=>k _ o (.inr (.inr (.inl (xW _ (Zel hp))))) e) s,
  k _ _ (.inr (.inr (.inl yC))) hl,hn,⟨kvs,k _ _ (.inr (.inl rfl)) p1,p2,p3⟩,nl,nx,fun x hx=>let ⟨vs,e⟩:=xl x hx;⟨vs,k _ _ (.inr (.inr (.inr (.inl hx)))) e⟩,np,nd⟩
theorem MootAt.same(h:MootAt C CM H M ds wa xs m qs)(k:Same H H'):MootAt C CM H' M ds wa xs m qs:=h.keep (fun b o _ e=>k b o e) fun _ _ e=>k _ _ e
theorem MootAt.x(h:MootAt C CM H M ds wa xs m qs){s:Addr}{ys:List V}(hs:H s=some (.lst ys))(hn:¬mo M ds wa xs qs s)(k:SameX s H H'):MootAt C CM H' M ds wa xs m qs :=
 h.keep (fun b o hb e=>k b o (fun z=>hn (z▸hb)) e) fun b ys e=>k b _ (fun z=>by rw[z,hs] at e;cases e) e
theorem MootAt.nown(h:MootAt C CM H M ds wa xs m qs){b:Addr}{ys:List V}(e:H b=some (.lst ys)):¬own M.L ds wa b:=fun z=>by
 obtain⟨o,e',n1,_⟩:=h.fk.there z
 rw[e] at e';cases e';exact n1 ys rfl
theorem MootAt.pown(h:MootAt C CM H M ds wa xs m qs):¬own M.L ds wa M.p:=fun z=>by
 obtain⟨dx,ob⟩:=h.ob
 obtain⟨⟨_,⟨k1,c1,_⟩,⟨k2,w1,_⟩,⟨k3,d1,_⟩,⟨k4,h1,_⟩,_⟩,⟨⟨k5,x1,x2,x3⟩,_⟩,_⟩:=h.fk
 rcases z with z | z | z | z | z | ⟨n,l,e,z⟩
 ·exact h.np z
 ·rw[z,c1] at ob;cases ob
 ·rw[z,w1] at ob;cases ob
 ·rw[z,d1] at ob;cases ob
 ·rw[z,h1] at ob;cases ob
 ·rw[z,(x3 n l e).2.1] at ob;cases ob
theorem MootAt.folk(h:MootAt C CM H M ds wa xs m qs){ds':List Deed}{wa':Str->Addr}(F:Fk C H' M.L ds' wa')(t:Touch M.L ds wa H H')(f:Zdb M.L ds wa ds' wa' H):MootAt C CM H' M ds' wa' xs m qs:=by
 have T:=Touch.lt h.fk t
 have pw:=h.pown
 obtain⟨⟨dx,ob⟩,fk,ls,hl,hn,⟨kvs,p1,p2,p3⟩,nl,nx,xl,np,nd⟩:=h
 have s:=Zbk (xs:=xs) (xs':=xs) T.2 (fun x hx o e=>by obtain⟨vs,e'⟩:=xl x hx;rw[e] at e';cases e';exact T.1 _ _ e) (fun _ z=>z)
 exact⟨⟨dx,t _ _ ob pw⟩,F,fun p hp=>by
  obtain⟨vs,a,b⟩:=ls p hp
  exact⟨vs,T.1 _ _ a,b.mono' s⟩,T.1 _ _ hl,hn,⟨kvs,t _ _ p1 nd,p2,p3⟩,nl,nx,fun x hx=>let ⟨vs,e⟩:=xl x hx;⟨vs,T.1 _ _ e⟩,np,fun z=>(f _ z).elim nd fun z=>by rw[p1] at z;cases z⟩
end
section
variable{P:Program}{w:World}{K:uFg}{mg:Str->Option Value}{base:Heap}{C CM:Addr}
variable{M:ML}{ds:List Deed}{wa:Str->Addr}{xs qs:List Addr}{m:Mo}{H H':Hp}
theorem Zem{l:Addr}(h:l∈M.ls++qs):l∈M.lh::(M.ls++qs):=xW _ h
theorem MootAt.lst(h:MootAt C CM H M ds wa xs m qs){l:Addr}(hl:l∈M.lh::(M.ls++qs)):∃ys,H l=some (.lst ys):=by
 rcases xD.mp hl with rfl | hl
 ·exact⟨_,h.hl⟩
 have:∃p∈m.at_ M qs,p.1=l:=by
  rcases xJ.mp hl with z | z
  ·unfold ML.ls at z
   simp only[xD,xR,or_false] at z
   unfold Mo.at_
   rcases z with rfl | rfl | rfl | rfl | rfl | rfl
   ·exact⟨(M.ld,m.deeds),by simp,rfl⟩
   ·exact⟨(M.lb,m.brs),by simp,rfl⟩
   ·exact⟨(M.lq,m.debts),by simp,rfl⟩
   ·exact⟨(M.lt,m.trials.map Ws),by simp,rfl⟩
   ·exact⟨(M.ly,m.days.map D.int),by simp,rfl⟩
   ·exact⟨(M.lv,m.verd.map D.bl),by simp,rfl⟩
  ·obtain⟨i,hi,e⟩:=List.getElem_of_mem z
   have hi':i < m.haps.length:=h.hn▸hi
   refine⟨(qs[i],m.haps[i]),?_,e⟩
   have:(qs[i],m.haps[i])∈qs.zip m.haps:=xI (i:=i) (by rw[zA];exact⟨xC hi,xC hi'⟩)
   exact xL [(M.ld,m.deeds),(M.lb,m.brs),(M.lq,m.debts),(M.lt,m.trials.map Ws),(M.ly,m.days.map D.int),(M.lv,m.verd.map D.bl)] this
 obtain⟨p,hp,rfl⟩:=this
 obtain⟨vs,e,_⟩:=h.ls p hp
 exact⟨vs,e⟩
theorem MootAt.there(h:MootAt C CM H M ds wa xs m qs){b:Addr}(hb:mo M ds wa xs qs b):∃o,H b=some o:=by
 rcases hb with rfl | rfl | hb | hb | hb
 ·obtain⟨dx,e⟩:=h.ob;exact⟨_,e⟩
 ·obtain⟨kvs,e,_⟩:=h.pn;exact⟨_,e⟩
 ·obtain⟨ys,e⟩:=h.lst hb;exact⟨_,e⟩
 ·obtain⟨ys,e⟩:=h.xl b hb;exact⟨_,e⟩
 ·obtain⟨o,e,_⟩:=h.fk.there hb;exact⟨o,e⟩
theorem MootAt.put(h:MootAt C CM H M ds wa xs m qs){l:Addr}{zs:List V}(hl:l∈M.ls++qs){m':Mo}(e1:m'.haps.length=m.haps.length)(e2:m'.pen=m.pen)(e3:m'.npen=m.npen)(k:∀p∈m'.at_ M qs,(p∈m.at_ M qs/\p.1≠l)\/(p.1=l/\RepL (fz xs H) p.2 zs)):MootAt C CM (upd H l (.lst zs)) M ds wa xs m' qs:=by
 obtain⟨ys,e⟩:=h.lst (Zem hl)
 have nw:=h.nown e
 have hh:=h
 obtain⟨⟨dx,ob⟩,fk,ls,lh,hn,⟨kvs,p1,p2,p3⟩,nl,nx,xl,np,nd⟩:=h
 have kt:V0 H (upd H l (.lst zs)):=Zob e
 have kx:∀x∈xs,x≠l:=fun x hx z=>nx x hx (z▸Zem hl)
 have s:Same (fz xs H) (fz xs (upd H l (.lst zs))):=Zbk kt (fun x hx o e=>by rw[Zc (kx x hx)];exact e) (fun _ z=>z)
 have nh:M.lh≠l:=fun z=>(yH.mp nl).1 (z▸hl)
 refine⟨⟨dx,by rw[Zc (fun z=>by rw[z,e] at ob;cases ob)];exact ob⟩,fk.at fun b o hb eb=>by rw[Zc (fun z:b=l=>nw (z▸hb))];exact eb,fun p hp=>?_,by rw[Zc nh];exact lh,by rw[e1];exact hn,
  ⟨kvs,by rw[Zc (fun z=>by rw[z,e] at p1;cases p1)];exact p1,by rw[e3];exact p2,by rw[e2];exact p3⟩,nl,nx,fun x hx=>?_,np,nd⟩
 ·rcases k p hp with⟨a,b⟩ | ⟨a,b⟩
  ·exact(ls p a).mono (fun o e=>by rw[Zc b];exact e) s
  ·exact⟨zs,by rw[a,Zg],b.mono' s⟩
 ·obtain⟨vs,e⟩:=xl x hx
  exact⟨vs,by rw[Zc (kx x hx)];exact e⟩
theorem MootAt.freeze(h:MootAt C CM H M ds wa xs m qs){a:Addr}{vs:List V}(e:H a=some (.lst vs))(n:a∉M.lh::(M.ls++qs)):MootAt C CM H M ds wa (a::xs) m qs:=by
 obtain⟨ob,fk,ls,lh,hn,pn,nl,nx,xl,np,nd⟩:=h
 have s:Same (fz xs H) (fz (a::xs) H):=Zbk (fun _ _ e=>e) (fun _ _ _ e=>e) (fun _ z=>xW _ z)
 exact⟨ob,fk,fun p hp=>(ls p hp).mono (fun _ e=>e) s,lh,hn,pn,nl,fun x hx=>(xD.mp hx).elim (fun z=>z▸n) (nx x),fun x hx=>(xD.mp hx).elim (fun z=>⟨vs,z▸e⟩) (xl x),np,nd⟩
theorem MootAt.pena(h:MootAt C CM H M ds wa xs m qs){kvs:List (Key×V)}{n:Str}{c:Int}(e:H M.dp=some (.dK kvs)) :
  MootAt C CM (upd H M.dp (.dK (Z0 kvs (.inr n) (.int c)))) M ds wa xs {m with pen:=fun x=>if x=n then some c else m.pen x,npen:=m.npen+1 } qs:=by
 have hh:=h
 obtain⟨⟨dx,ob⟩,fk,ls,lh,hn,⟨kvs',p1,p2,p3⟩,nl,nx,xl,np,nd⟩:=h
 rw[e] at p1
 cases p1
 have ll:∀l∈M.lh::(M.ls++qs),l≠M.dp:=fun l hl z=>by obtain⟨ys,e'⟩:=hh.lst hl;rw[z,e] at e';cases e'
 have kt:V0 H (upd H M.dp (.dK (Z0 kvs (.inr n) (.int c)))):=fun b t eb=>by rw[Zc (fun z=>by rw[z,e] at eb;cases eb)];exact eb
 have kx:∀x∈xs,x≠M.dp:=fun x hx z=>by obtain⟨vs,e'⟩:=xl x hx;rw[z,e] at e';cases e'
 have s:Same (fz xs H) (fz xs (upd H M.dp (.dK (Z0 kvs (.inr n) (.int c))))):=Zbk kt (fun x hx o e=>by rw[Zc (kx x hx)];exact e) (fun _ z=>z)
 refine⟨⟨dx,by rw[Zc (fun z=>by rw[z,e] at ob;cases ob)];exact ob⟩,fk.at fun b o hb eb=>by rw[Zc (fun z:b=M.dp=>nd (z▸hb))];exact eb,fun p hp=>(ls p hp).mono (fun o e=>by rw[Zc (ll _ (Zem (Zel hp)))];exact e) s,
  by rw[Zc (ll _ yC)];exact lh,hn,⟨_,Zg,xT (Vv _ _ _) (by show kvs.length+1<=m.npen+1;lia),fun x=>?_⟩,nl,nx,fun x hx=>?_,np,nd⟩
 ·rw[Ue]
  show _=(if x=n then some c else m.pen x).map V.int
  by_cases z:x=n
  ·rw[if_pos (by rw[z]),if_pos z];rfl
  ·rw[if_neg (fun y=>z (by injection y)),if_neg z];exact p3 x
 ·obtain⟨vs,e'⟩:=xl x hx
  exact⟨vs,by rw[Zc (kx x hx)];exact e'⟩
theorem MootAt.setv(h:MootAt C CM H M ds wa xs m qs){l dx:Addr}{bs:List Bool}(e:H M.p=some (.ins CM dx (Wi M)))(hl:H l=some (.lst (bs.map V.bl)))(n:¬mo M ds wa xs qs l) :
  MootAt C CM (upd H M.p (.ins CM dx (Wi (M.setv l)))) (M.setv l) ds wa xs {m with verd:=bs } qs:=by
 have hh:=h
 obtain⟨_,fk,ls,lh,hn,⟨kvs,p1,p2,p3⟩,nl,nx,xl,np,nd⟩:=h
 have ll:∀l∈M.lh::(M.ls++qs),l≠M.p:=fun l hl z=>by obtain⟨ys,e'⟩:=hh.lst hl;rw[z,e] at e';cases e'
 have nlp:l≠M.p:=fun z=>n (.inl z)
 have kt:V0 H (upd H M.p (.ins CM dx (Wi (M.setv l)))):=fun b t eb=>by rw[Zc (fun z=>by rw[z,e] at eb;cases eb)];exact eb
 have kx:∀x∈xs,x≠M.p:=fun x hx z=>by obtain⟨vs,e'⟩:=xl x hx;rw[z,e] at e';cases e'
 have s:Same (fz xs H) (fz xs (upd H M.p (.ins CM dx (Wi (M.setv l))))):=Zbk kt (fun x hx o e=>by rw[Zc (kx x hx)];exact e) (fun _ z=>z)
 have pw:=hh.pown
 have rb:∀(H:Hp)(bs:List Bool),RepL H (bs.map D.bl) (bs.map V.bl):=fun H bs=>by
  induction bs with
  | nil=>rfl
  | cons b r ih=>exact⟨_,_,rfl,rfl,ih⟩
 have nm:∀x,x∈M.lh::((M.setv l).ls++qs)->x∈M.lh::(M.ls++qs)\/x=l:=fun x hx=>by
  simp only[ML.ls,ML.setv,xD,xJ,xR,or_false] at hx ⊢
  rcases hx with z | (z | z | z | z | z | z) | z<;>simp[z]
 have nlm:l∉M.lh::(M.ls++qs):=fun z=>n (.inr (.inr (.inl z)))
 refine⟨⟨dx,Zg⟩,fk.at fun b o hb eb=>by rw[Zc (fun z:b=M.p=>pw (z▸hb))];exact eb,fun p hp=>?_,by show (upd H M.p _) M.lh=_;rw[Zc (ll _ yC)];exact lh,hn,
  ⟨kvs,by show (upd H M.p _) M.dp=_;rw[Zc (fun z=>by rw[z,e] at p1;cases p1)];exact p1,p2,p3⟩,?_,fun x hx z=>(nm x z).elim (nx x hx) (fun z=>n (.inr (.inr (.inr (.inl (z▸hx)))))),fun x hx=>?_,np,nd⟩
 ·by_cases z:p=(l,bs.map D.bl)
  ·subst z
   exact⟨_,by show (upd H M.p _) l=_;rw[Zc nlp];exact hl,rb _ bs⟩
  ·have hp':p∈m.at_ M qs:=by
    simp only[Mo.at_,ML.setv,xD] at hp ⊢
    rcases hp with y | y | y | y | y | y | y
    ·exact .inl y
    ·exact .inr (.inl y)
    ·exact .inr (.inr (.inl y))
    ·exact .inr (.inr (.inr (.inl y)))
    ·exact .inr (.inr (.inr (.inr (.inl y))))
    ·exact absurd y z
    ·exact .inr (.inr (.inr (.inr (.inr (.inr y)))))
   exact(ls p hp').mono (fun o e=>by rw[Zc (ll _ (Zem (Zel hp')))];exact e) s
 ·simp only[ML.ls,ML.setv,yH,xD,xJ,xY,yV,not_or] at nl nlm ⊢
  obtain⟨⟨a1,a2,a3,a4,a5,a6,a7⟩,⟨b2,b3,b4,b5,b6,b7⟩,⟨c3,c4,c5,c6,c7⟩,⟨d4,d5,d6,d7⟩,⟨f5,f6,f7⟩,⟨g6,g7⟩,k7,k8⟩:=nl
  obtain⟨m0,m1,m2,m3,m4,m5,m6,m7⟩:=nlm
  exact⟨⟨a1,a2,a3,a4,a5,Ne.symm m0,a7⟩,⟨b2,b3,b4,b5,Ne.symm m1,b7⟩,⟨c3,c4,c5,Ne.symm m2,c7⟩,⟨d4,d5,Ne.symm m3,d7⟩,⟨f5,Ne.symm m4,f7⟩,⟨Ne.symm m5,g7⟩,m7,k8⟩
 ·obtain⟨vs,e'⟩:=xl x hx
  exact⟨vs,by rw[Zc (kx x hx)];exact e'⟩
end
section
variable{P:Program}{w:World}{K:uFg}{mg:Str->Option Value}{base:Heap}{C CM:Addr}
variable{M:ML}{ds:List Deed}{wa:Str->Addr}{xs qs:List Addr}{m:Mo}{H H':Hp}
theorem MootAt.rep(h:MootAt C CM H M ds wa xs m qs){l:Addr}{c:List D}{vs:List V}(hp:(l,c)∈m.at_ M qs)(e:H l=some (.lst vs)):RepL (fz xs H) c vs:=by
 obtain⟨vs',e',r⟩:=h.ls _ hp
 rw[e] at e';cases e';exact r
theorem MootAt.deed(h:MootAt C CM H M ds wa xs m qs){vs:List V}{v:V}{d:D}(e:H M.ld=some (.lst vs))(hd:Rep (fz xs H) d v):MootAt C CM (upd H M.ld (.lst (vs ++ [v]))) M ds wa xs {m with deeds:=m.deeds ++ [d] } qs:=by
 have r:=h.rep (l:=M.ld) (c:=m.deeds) (by simp[Mo.at_]) e
 have nl:=h.nl
 simp only[ML.ls,yH,xD,xJ,xY,yV,not_or] at nl
 obtain⟨_,⟨b2,b3,b4,b5,b6,b7⟩,⟨c3,c4,c5,c6,c7⟩,⟨d4,d5,d6,d7⟩,⟨f5,f6,f7⟩,⟨g6,g7⟩,k7,k8⟩:=nl
 refine h.put (l:=M.ld) (by simp[ML.ls]) rfl rfl rfl fun p hp=>?_
 simp only[Mo.at_,xD] at hp ⊢
 rcases hp with rfl | rfl | rfl | rfl | rfl | rfl | hp
 ·exact .inr ⟨rfl,r.snoc hd⟩
 ·exact .inl ⟨by simp,Ne.symm b2⟩
 ·exact .inl ⟨by simp,Ne.symm b3⟩
 ·exact .inl ⟨by simp,Ne.symm b4⟩
 ·exact .inl ⟨by simp,Ne.symm b5⟩
 ·exact .inl ⟨by simp,Ne.symm b6⟩
 ·exact .inl ⟨by simp[hp],fun z=>b7 (z▸(yZ hp).1)⟩
theorem MootAt.debt(h:MootAt C CM H M ds wa xs m qs){vs:List V}{v:V}{d:D}(e:H M.lq=some (.lst vs))(hd:Rep (fz xs H) d v):MootAt C CM (upd H M.lq (.lst (vs ++ [v]))) M ds wa xs {m with debts:=m.debts ++ [d] } qs:=by
 have r:=h.rep (l:=M.lq) (c:=m.debts) (by simp[Mo.at_]) e
 have nl:=h.nl
 simp only[ML.ls,yH,xD,xJ,xY,yV,not_or] at nl
 obtain⟨_,⟨b2,b3,b4,b5,b6,b7⟩,⟨c3,c4,c5,c6,c7⟩,⟨d4,d5,d6,d7⟩,⟨f5,f6,f7⟩,⟨g6,g7⟩,k7,k8⟩:=nl
 refine h.put (l:=M.lq) (by simp[ML.ls]) rfl rfl rfl fun p hp=>?_
 simp only[Mo.at_,xD] at hp ⊢
 rcases hp with rfl | rfl | rfl | rfl | rfl | rfl | hp
 ·exact .inl ⟨by simp,b3⟩
 ·exact .inl ⟨by simp,c3⟩
 ·exact .inr ⟨rfl,r.snoc hd⟩
 ·exact .inl ⟨by simp,Ne.symm d4⟩
 ·exact .inl ⟨by simp,Ne.symm d5⟩
 ·exact .inl ⟨by simp,Ne.symm d6⟩
 ·exact .inl ⟨by simp[hp],fun z=>d7 (z▸(yZ hp).1)⟩
theorem MootAt.trial(h:MootAt C CM H M ds wa xs m qs){vs:List V}{v:V}{d:Suit}(e:H M.lt=some (.lst vs))(hd:Rep (fz xs H) (Ws d) v):MootAt C CM (upd H M.lt (.lst (vs ++ [v]))) M ds wa xs {m with trials:=m.trials ++ [d] } qs:=by
 have r:=h.rep (l:=M.lt) (c:=m.trials.map Ws) (by simp[Mo.at_]) e
 have nl:=h.nl
 simp only[ML.ls,yH,xD,xJ,xY,yV,not_or] at nl
 obtain⟨_,⟨b2,b3,b4,b5,b6,b7⟩,⟨c3,c4,c5,c6,c7⟩,⟨d4,d5,d6,d7⟩,⟨f5,f6,f7⟩,⟨g6,g7⟩,k7,k8⟩:=nl
 refine h.put (l:=M.lt) (by simp[ML.ls]) rfl rfl rfl fun p hp=>?_
 simp only[Mo.at_,xD] at hp ⊢
 rcases hp with rfl | rfl | rfl | rfl | rfl | rfl | hp
 ·exact .inl ⟨by simp,b4⟩
 ·exact .inl ⟨by simp,c4⟩
 ·exact .inl ⟨by simp,d4⟩
 ·exact .inr ⟨rfl,by rw[xV];exact r.snoc hd⟩
 ·exact .inl ⟨by simp,Ne.symm f5⟩
 ·exact .inl ⟨by simp,Ne.symm f6⟩
 ·exact .inl ⟨by simp[hp],fun z=>f7 (z▸(yZ hp).1)⟩
theorem MootAt.day(h:MootAt C CM H M ds wa xs m qs){vs:List V}{v:V}{d:Int}(e:H M.ly=some (.lst vs))(hd:Rep (fz xs H) (.int d) v):MootAt C CM (upd H M.ly (.lst (vs ++ [v]))) M ds wa xs {m with days:=m.days ++ [d] } qs:=by
 have r:=h.rep (l:=M.ly) (c:=m.days.map D.int) (by simp[Mo.at_]) e
 have nl:=h.nl
 simp only[ML.ls,yH,xD,xJ,xY,yV,not_or] at nl
 obtain⟨_,⟨b2,b3,b4,b5,b6,b7⟩,⟨c3,c4,c5,c6,c7⟩,⟨d4,d5,d6,d7⟩,⟨f5,f6,f7⟩,⟨g6,g7⟩,k7,k8⟩:=nl
 refine h.put (l:=M.ly) (by simp[ML.ls]) rfl rfl rfl fun p hp=>?_
 simp only[Mo.at_,xD] at hp ⊢
 rcases hp with rfl | rfl | rfl | rfl | rfl | rfl | hp
 ·exact .inl ⟨by simp,b5⟩
 ·exact .inl ⟨by simp,c5⟩
 ·exact .inl ⟨by simp,d5⟩
 ·exact .inl ⟨by simp,f5⟩
 ·exact .inr ⟨rfl,by rw[xV];exact r.snoc hd⟩
 ·exact .inl ⟨by simp,Ne.symm g6⟩
 ·exact .inl ⟨by simp[hp],fun z=>g7 (z▸(yZ hp).1)⟩
end
section
variable{P:Program}{w:World}{K:uFg}{mg:Str->Option Value}{base:Heap}{C CM:Addr}
variable{M:ML}{ds:List Deed}{wa:Str->Addr}{xs qs:List Addr}{m:Mo}{H H':Hp}
theorem MootAt.brg(h:MootAt C CM H M ds wa xs m qs){vs:List V}{v:V}{d:D}(e:H M.lb=some (.lst vs))(hd:Rep (fz xs H) d v):MootAt C CM (upd H M.lb (.lst (vs ++ [v]))) M ds wa xs {m with brs:=m.brs ++ [d] } qs:=by
 have r:=h.rep (l:=M.lb) (c:=m.brs) (by simp[Mo.at_]) e
 have nl:=h.nl
 simp only[ML.ls,yH,xD,xJ,xY,yV,not_or] at nl
 obtain⟨_,⟨b2,b3,b4,b5,b6,b7⟩,⟨c3,c4,c5,c6,c7⟩,⟨d4,d5,d6,d7⟩,⟨f5,f6,f7⟩,⟨g6,g7⟩,k7,k8⟩:=nl
 refine h.put (l:=M.lb) (by simp[ML.ls]) rfl rfl rfl fun p hp=>?_
 simp only[Mo.at_,xD] at hp ⊢
 rcases hp with rfl | rfl | rfl | rfl | rfl | rfl | hp
 ·exact .inl ⟨by simp,b2⟩
 ·exact .inr ⟨rfl,r.snoc hd⟩
 ·exact .inl ⟨by simp,Ne.symm c3⟩
 ·exact .inl ⟨by simp,Ne.symm c4⟩
 ·exact .inl ⟨by simp,Ne.symm c5⟩
 ·exact .inl ⟨by simp,Ne.symm c6⟩
 ·exact .inl ⟨by simp[hp],fun z=>c7 (z▸(yZ hp).1)⟩
theorem MootAt.hap(h:MootAt C CM H M ds wa xs m qs){i:Nat}{q:Addr}{c:List D}{vs:List V}{v:V}{d:D}(hq:qs[i]? = some q)(hc:m.haps[i]? = some c)(e:H q=some (.lst vs))(hd:Rep (fz xs H) d v) :
  MootAt C CM (upd H q (.lst (vs ++ [v]))) M ds wa xs {m with haps:=m.haps.set i (c ++ [d]) } qs:=by
 have mq:q∈qs:=xI hq
 have mz:(q,c)∈qs.zip m.haps:=xI (i:=i) (by rw[zA];exact⟨hq,hc⟩)
 have r:=h.rep (l:=q) (c:=c) (by simp[Mo.at_,mz]) e
 have nl:=h.nl
 simp only[ML.ls,yH,xD,xJ,xY,yV,not_or] at nl
 obtain⟨_,⟨b2,b3,b4,b5,b6,b7⟩,⟨c3,c4,c5,c6,c7⟩,⟨d4,d5,d6,d7⟩,⟨f5,f6,f7⟩,⟨g6,g7⟩,k7,k8⟩:=nl
 refine h.put (l:=q) (xL _ mq) (List.length_set ..) rfl rfl fun p hp=>?_
 simp only[Mo.at_,xD] at hp ⊢
 rcases hp with rfl | rfl | rfl | rfl | rfl | rfl | hp
 ·exact .inl ⟨by simp,fun z:M.ld=q=>b7 (z▸mq)⟩
 ·exact .inl ⟨by simp,fun z:M.lb=q=>c7 (z▸mq)⟩
 ·exact .inl ⟨by simp,fun z:M.lq=q=>d7 (z▸mq)⟩
 ·exact .inl ⟨by simp,fun z:M.lt=q=>f7 (z▸mq)⟩
 ·exact .inl ⟨by simp,fun z:M.ly=q=>g7 (z▸mq)⟩
 ·exact .inl ⟨by simp,fun z:M.lv=q=>k7 (z▸mq)⟩
 ·obtain⟨j,hj⟩:=List.getElem?_of_mem hp
  rw[zA] at hj
  obtain⟨j1,j2⟩:=hj
  by_cases z:i=j
  ·subst z
   rw[hq] at j1
   injection j1 with j1
   rw[List.getElem?_set_self (by
    rcases Nat.lt_or_ge i m.haps.length with y | y
    ·exact y
    ·rw[zM y] at hc;cases hc)] at j2
   injection j2 with j2
   exact .inr ⟨j1.symm,by rw[← j2];exact r.snoc hd⟩
  ·rw[List.getElem?_set_ne z] at j2
   refine .inl ⟨.inr (.inr (.inr (.inr (.inr (.inr (xI (i:=j) (by rw[zA];exact⟨j1,j2⟩))))))),fun y=>z ?_⟩
   have li:i < qs.length:=(xF.mp hq).1
   exact(List.getElem?_inj li k8).mp (by rw[hq,j1,y])
theorem MootAt.newq(h:MootAt C CM H M ds wa xs m qs){q:Addr}(hq:H q=some (.lst []))(n:¬mo M ds wa xs qs q) :
  MootAt C CM (upd H M.lh (.lst ((qs ++ [q]).map V.ref))) M ds wa xs {m with haps:=m.haps ++ [[]] } (qs ++ [q]):=by
 have hh:=h
 have nw:=h.nown h.hl
 obtain⟨⟨dx,ob⟩,fk,ls,lh,hn,⟨kvs,p1,p2,p3⟩,nl,nx,xl,np,nd⟩:=h
 have kt:V0 H (upd H M.lh (.lst ((qs ++ [q]).map V.ref))):=Zob lh
 have kx:∀x∈xs,x≠M.lh:=fun x hx z=>nx x hx (z▸yC)
 have s:Same (fz xs H) (fz xs (upd H M.lh (.lst ((qs ++ [q]).map V.ref)))):=Zbk kt (fun x hx o e=>by rw[Zc (kx x hx)];exact e) (fun _ z=>z)
 have nh:M.lh∉M.ls++qs:=(yH.mp nl).1
 have nq:q∉M.lh::(M.ls++qs):=fun z=>n (.inr (.inr (.inl z)))
 have nqh:q≠M.lh:=fun z=>nq (z▸yC)
 refine⟨⟨dx,by rw[Zc (fun z=>by rw[z,lh] at ob;cases ob)];exact ob⟩,fk.at fun b o hb eb=>by rw[Zc (fun z:b=M.lh=>nw (z▸hb))];exact eb,fun p hp=>?_,Zg,by rw[xN,hn];show _=(m.haps ++ [[]]).length;rw[xN];rfl,
  ⟨kvs,by rw[Zc (fun z=>by rw[z,lh] at p1;cases p1)];exact p1,p2,p3⟩,?_,fun x hx z=>?_,fun x hx=>?_,np,nd⟩
 ·by_cases z:p=(q,[])
  ·subst z
   exact⟨[],by show (upd H M.lh _) q=_;rw[Zc nqh];exact hq,rfl⟩
  ·have hp':p∈m.at_ M qs:=by
    simp only[Mo.at_,xD] at hp ⊢
    rw[List.zip_append hn] at hp
    rcases hp with y | y | y | y | y | y | y
    ·exact .inl y
    ·exact .inr (.inl y)
    ·exact .inr (.inr (.inl y))
    ·exact .inr (.inr (.inr (.inl y)))
    ·exact .inr (.inr (.inr (.inr (.inl y))))
    ·exact .inr (.inr (.inr (.inr (.inr (.inl y)))))
    ·rcases xJ.mp y with y | y
     ·exact .inr (.inr (.inr (.inr (.inr (.inr y)))))
     ·exact absurd (xK.mp y) z
   exact(ls p hp').mono (fun o e=>by rw[Zc (fun z:p.1=M.lh=>nh (z▸Zel hp'))];exact e) s
 ·rw[← yO]
  refine List.nodup_append.mpr ⟨nl,yH.mpr ⟨xR,List.nodup_nil⟩,fun a ha b hb z=>nq ?_⟩
  rw[xK] at hb
  rw[← hb,← z];exact ha
 ·rw[← yO,← xY] at z
  rcases xJ.mp z with z | z
  ·exact nx x hx z
  ·exact n (.inr (.inr (.inr (.inl (xK.mp z▸hx)))))
 ·obtain⟨vs,e'⟩:=xl x hx
  exact⟨vs,by rw[Zc (kx x hx)];exact e'⟩
end
section
variable{P:Program}{w:World}{K:uFg}{mg:Str->Option Value}{base:Heap}{C CM:Addr}{c:Str->Addr}
abbrev errs:List Str:=["NoName", "NoMeasure", "Unknown", "Taken", "NoThing", "NoCase", "NoOath", "NotYet", "Dead", "NoHeir", "TooMany", "SwornTwice", "Forsworn", "TooLight", "Broken", "NoMoment", "NoDeed"]
theorem Wj{d:Int}(h:d.natAbs<=1000000000000000000):d.natAbs.log2 < 1920:=by
 by_cases z:d.natAbs=0
 ·rw[z];decide +kernel
 ·rw[Nat.log2_lt z]
  exact yS h (by decide +kernel)
def okI(d:Int):Prop:=d.natAbs<=1000000000000000000
def due(E:XK)(c:Str->Addr)(H:Hp)(k:Prop):Option Str->Prop
 | none=>k
 | some x=>E (.ref (c x)) none H
def eM(lo hi d:Int):Option Str:=if lo<=d/\d<=hi then none else some "NoMeasure"
def spM(lo hi:Int)(c:Str->Addr):Sp:=fun vs H Q E=>∃d:Int,vs = [.int d]/\okI d/\due E c H (Q .non H) (eM lo hi d)
theorem Z2b(Zcc:Has K mg "check_day" Zeu)(C0:∃t,mg "LAST_DAY" = some (.int 9999 t))(er:Er K mg c errs):FnX P w K mg base "check_day" 1 (spM 0 9999 c):=by
 obtain⟨t0,c_LAST_DAY⟩:=C0
 have r_LAST_DAY:RelV (.int 9999) (.int 9999 t0):=⟨t0,rfl⟩
 refine Zcc.fnX Zpo (fun _ _ _ _ _ _=>al1 fun _=>rfl) (fun vs H Q E h=>?_) (fun f cdv A outer s H vs Q E hr h=>?_)
 ·obtain⟨d,rfl,_⟩:=h
  rfl
 ·obtain⟨d,rfl,hs,k⟩:=h
  refine⟨_,(Zf (Zp (Vg (Uq Wa Wa Zd (qvN 0) (Yy c_LAST_DAY r_LAST_DAY))) (Zf (Yz Yp er (Y2 (Yr (qvN 0) (Yj Y1))))) Zo)),?_⟩
  unfold eM at k
  refine⟨_,rfl,_,_,rfl,rfl,_,rfl,Yg (fun h0=>?_) (fun z=>?_)⟩
  ·refine⟨_,_,rfl,rfl,_,rfl,Yq (fun z=>?_) (fun h1=>?_)⟩
   ·rw[if_neg (fun y=>z y.2)] at k
    exact⟨_,rfl,.inr ⟨d,rfl,Wj hs⟩,by decide +kernel,fun _=>k⟩
   ·rw[if_pos ⟨h0,h1⟩] at k;exact k
  ·rw[if_neg (fun y=>z y.1)] at k
   exact⟨false,rfl,Z5 ⟨_,rfl,.inr ⟨d,rfl,Wj hs⟩,by decide +kernel,fun _=>k⟩⟩
theorem Z2c(Zcd:Has K mg "check_weight" Zev)(C0:∃t,mg "MOST_WEIGHT" = some (.int 1000 t))(er:Er K mg c errs):FnX P w K mg base "check_weight" 1 (spM 1 1000 c):=by
 obtain⟨t0,c_MOST_WEIGHT⟩:=C0
 have r_MOST_WEIGHT:RelV (.int 1000) (.int 1000 t0):=⟨t0,rfl⟩
 refine Zcd.fnX Zpp (fun _ _ _ _ _ _=>al1 fun _=>rfl) (fun vs H Q E h=>?_) (fun f cdv A outer s H vs Q E hr h=>?_)
 ·obtain⟨d,rfl,_⟩:=h
  rfl
 ·obtain⟨d,rfl,hs,k⟩:=h
  refine⟨_,(Zf (Zp (Vg (Uq Wa Wa Zd (qvN 0) (Yy c_MOST_WEIGHT r_MOST_WEIGHT))) (Zf (Yz Yp er (Y2 (Yr (qvN 0) (Yj Y1))))) Zo)),?_⟩
  unfold eM at k
  refine⟨_,rfl,_,_,rfl,rfl,_,rfl,Yg (fun h0=>?_) (fun z=>?_)⟩
  ·refine⟨_,_,rfl,rfl,_,rfl,Yq (fun z=>?_) (fun h1=>?_)⟩
   ·rw[if_neg (fun y=>z y.2)] at k
    exact⟨_,rfl,.inr ⟨d,rfl,Wj hs⟩,by decide +kernel,fun _=>k⟩
   ·rw[if_pos ⟨h0,h1⟩] at k;exact k
  ·rw[if_neg (fun y=>z y.1)] at k
   exact⟨false,rfl,Z5 ⟨_,rfl,.inr ⟨d,rfl,Wj hs⟩,by decide +kernel,fun _=>k⟩⟩
abbrev Zh9:Stmt:=top 29
theorem Z2d:FnScope ["need"] ["need"] (Zh Zh9):=fsc
theorem Z2e(Zia:Has K mg "check_need" Zh9)(C0:∃t,mg "MOST_NEED" = some (.int 12000 t))(er:Er K mg c errs):FnX P w K mg base "check_need" 1 (spM 1 12000 c):=by
 obtain⟨t0,c_MOST_NEED⟩:=C0
 have r_MOST_NEED:RelV (.int 12000) (.int 12000 t0):=⟨t0,rfl⟩
 refine Zia.fnX Z2d (fun _ _ _ _ _ _=>al1 fun _=>rfl) (fun vs H Q E h=>?_) (fun f cdv A outer s H vs Q E hr h=>?_)
 ·obtain⟨d,rfl,_⟩:=h
  rfl
 ·obtain⟨d,rfl,hs,k⟩:=h
  refine⟨_,(Zf (Zp (Vg (Uq Wa Wa Zd (qvN 0) (Yy c_MOST_NEED r_MOST_NEED))) (Zf (Yz Yp er (Y2 (Yr (qvN 0) (Yj Y1))))) Zo)),?_⟩
  unfold eM at k
  refine⟨_,rfl,_,_,rfl,rfl,_,rfl,Yg (fun h0=>?_) (fun z=>?_)⟩
  ·refine⟨_,_,rfl,rfl,_,rfl,Yq (fun z=>?_) (fun h1=>?_)⟩
   ·rw[if_neg (fun y=>z y.2)] at k
    exact⟨_,rfl,.inr ⟨d,rfl,Wj hs⟩,by decide +kernel,fun _=>k⟩
   ·rw[if_pos ⟨h0,h1⟩] at k;exact k
  ·rw[if_neg (fun y=>z y.1)] at k
   exact⟨false,rfl,Z5 ⟨_,rfl,.inr ⟨d,rfl,Wj hs⟩,by decide +kernel,fun _=>k⟩⟩
abbrev Zib:Stmt:=top 30
theorem Z2f:FnScope ["many"] ["many"] (Zh Zib):=fsc
theorem Z2g(Zic:Has K mg "check_money" Zib)(C0:∃t,mg "MOST_MONEY" = some (.int 1000000 t))(er:Er K mg c errs):FnX P w K mg base "check_money" 1 (spM 1 1000000 c):=by
 obtain⟨t0,c_MOST_MONEY⟩:=C0
 have r_MOST_MONEY:RelV (.int 1000000) (.int 1000000 t0):=⟨t0,rfl⟩
 refine Zic.fnX Z2f (fun _ _ _ _ _ _=>al1 fun _=>rfl) (fun vs H Q E h=>?_) (fun f cdv A outer s H vs Q E hr h=>?_)
 ·obtain⟨d,rfl,_⟩:=h
  rfl
 ·obtain⟨d,rfl,hs,k⟩:=h
  refine⟨_,(Zf (Zp (Vg (Uq Wa Wa Zd (qvN 0) (Yy c_MOST_MONEY r_MOST_MONEY))) (Zf (Yz Yp er (Y2 (Yr (qvN 0) (Yj Y1))))) Zo)),?_⟩
  unfold eM at k
  refine⟨_,rfl,_,_,rfl,rfl,_,rfl,Yg (fun h0=>?_) (fun z=>?_)⟩
  ·refine⟨_,_,rfl,rfl,_,rfl,Yq (fun z=>?_) (fun h1=>?_)⟩
   ·rw[if_neg (fun y=>z y.2)] at k
    exact⟨_,rfl,.inr ⟨d,rfl,Wj hs⟩,by decide +kernel,fun _=>k⟩
   ·rw[if_pos ⟨h0,h1⟩] at k;exact k
  ·rw[if_neg (fun y=>z y.1)] at k
   exact⟨false,rfl,Z5 ⟨_,rfl,.inr ⟨d,rfl,Wj hs⟩,by decide +kernel,fun _=>k⟩⟩
def Z9(ds:List Deed)(n:Str):Option Str:=if Zk ds n=none then some "Unknown" else none
def Zc0(C:Addr)(c:Str->Addr):Sp:=fun vs H Q E=>∃(L:FL)(ds:List Deed)(n:Str),vs = [.ref L.p,.str n]/\FolkAt C H L ds/\n.length<=100/\due E c H (Q .non H) (Z9 ds n)
theorem Z2h(Zci:HasM K C "check_known" "Folk.check_known" Zew)(Tc:TxC K C)(er:Er K mg c errs):MtX P w K mg base C "check_known" 1 (Zc0 C c):=by
 refine Zci.mtX Zpq (fun _ _ _ _ _ _=>al2 fun _ _=>rfl) (fun vs H Q E h=>?_) (fun f cdv A outer s H vs Q E hr h=>?_)
 ·obtain⟨L,ds,n,rfl,_⟩:=h
  rfl
 ·obtain⟨L,ds,n,rfl,F,ho,k⟩:=h
  refine⟨_,(Zf (Zp (Zv (Zfm hr) (qvN 1) (Zq (qvN 0)) rfl) (Zf (Yz Yp er (Y2 (Yj (Yr (qvN 1) Y1))))) Zo)),?_⟩
  obtain⟨dx,ob⟩:=F.ob
  obtain⟨kvs,c1,c2,c3⟩:=F.c
  refine⟨_,rfl,_,rfl,L.p,C,dx,_,_,rfl,ob,Tc.cl,Tc.nc,Zam _ _ _ _,L.dc,_,rfl,DGet.k (k:=Sum.inr n) c1,_,rfl,?_⟩
  unfold Z9 at k
  rw[c3]
  cases hn:Zk ds n with
  | none =>
   rw[if_pos hn] at k
   exact Z5 ⟨by decide +kernel,_,rfl,.inl ⟨n,rfl,by lia⟩,fun _=>k⟩
  | some d =>
   rw[if_neg (by rw[hn];intro z;cases z)] at k
   exact Zt k
def Yc(d day:Int):Option Str:=if day < d then some "NotYet" else none
def Zdw(C:Addr)(c:Str->Addr):Sp:=fun vs H Q E=>∃(L:FL)(ds:List Deed)(n:Str)(d day:Int),vs = [.ref L.p,.str n,.int day]/\FolkAt C H L ds/\Zk ds n=some d/\n.length<=100/\okI day/\due E c H (Q .non H) (Yc d day)
theorem Z2i(Zcj:HasM K C "check_there" "Folk.check_there" Zex)(Tc:TxC K C)(er:Er K mg c errs):MtX P w K mg base C "check_there" 1 (Zdw C c):=by
 refine Zcj.mtX Zpr (fun _ _ _ _ _ _=>al3 fun _ _ _=>rfl) (fun vs H Q E h=>?_) (fun f cdv A outer s H vs Q E hr h=>?_)
 ·obtain⟨L,ds,n,d,day,rfl,_⟩:=h
  rfl
 ·obtain⟨L,ds,n,d,day,rfl,F,hn,ho,hi,k⟩:=h
  refine⟨_,(Zf (Zp (Zv Zaa (qvN 2) (Zb3 hr (Zq (qvN 0)) (qvN 1) (fun _ _=>rfl)) (Z1 _)) (Zf (Yz Yp er (Y2 (Yr (qvN 1) (Yj (Yr (qvN 2) Y1)))))) Zo)),?_⟩
  obtain⟨dx,ob⟩:=F.ob
  obtain⟨kvs,c1,c2,c3⟩:=F.c
  have g:=DGet.k (k:=Sum.inr n) c1
  rw[c3,hn] at g
  refine⟨_,rfl,_,rfl,L.p,C,dx,_,_,rfl,ob,Tc.cl,Tc.nc,Zam _ _ _ _,_,rfl,L.dc,.int d,rfl,g,?_⟩
  unfold Yc at k
  refine⟨_,_,rfl,rfl,_,rfl,Yg (fun z=>?_) (fun z=>?_)⟩
  ·rw[if_pos z] at k
   exact⟨_,rfl,.inl ⟨n,rfl,by lia⟩,by decide +kernel,_,rfl,.inr ⟨day,rfl,Wj hi⟩,fun _=>k⟩
  ·rw[if_neg z] at k;exact k
def Wu(ds:List Deed)(n:Str)(day:Int):Option Str:=if Wo ds n day=true then some "Dead" else none
def Zfs(C:Addr)(c:Str->Addr):Sp:=fun vs H Q E=>∃(L:FL)(ds:List Deed)(n:Str)(day:Int),vs = [.ref L.p,.str n,.int day]/\FolkAt C H L ds/\n.length<=100/\okI day/\due E c H (Q .non H) (Wu ds n day)
theorem Z2j(Zcl:HasM K C "check_living" "Folk.check_living" Zez)(Tc:TxC K C)(er:Er K mg c errs)(M_died_by:Mt P w K mg base C "died_by" ["self", "name", "day"] 1 (Zfz C)):MtX P w K mg base C "check_living" 2 (Zfs C c):=by
 refine Zcl.mtX Zpt (fun _ _ _ _ _ _=>al3 fun _ _ _=>rfl) (fun vs H Q E h=>?_) (fun f cdv A outer s H vs Q E hr h=>?_)
 ·obtain⟨L,ds,n,day,rfl,_⟩:=h
  rfl
 ·obtain⟨L,ds,n,day,rfl,F,ho,hi,k⟩:=h
  refine⟨_,(Zf (Zp (Vh (Yw (qvN 0) Tc.cl M_died_by (Za (qvN 1) (Za (qvN 2) Zb)))) (Zf (Yz Yp er (Y2 (Yr (qvN 1) (Yj (Yr (qvN 2) Y1)))))) Zo)),?_⟩
  obtain⟨dx,ob⟩:=F.ob
  refine⟨_,rfl,L.p,dx,_,rfl,ob,Ys _ _ _ _ (by decide +kernel),_,rfl,_,rfl,L,ds,n,day,rfl,F,_,rfl,?_⟩
  unfold Wu at k
  cases hd:Wo ds n day with
  | true =>
   rw[if_pos hd] at k
   exact Z5 ⟨_,rfl,.inl ⟨n,rfl,by lia⟩,by decide +kernel,_,rfl,.inr ⟨day,rfl,Wj hi⟩,fun _=>k⟩
  | false =>
   rw[if_neg (by rw[hd];decide)] at k
   exact Zt k
def Vn(ds:List Deed)(n:Str):Option Str:=if Z3 ds n=none then none else some "Dead"
def Zft(C:Addr)(c:Str->Addr):Sp:=fun vs H Q E=>∃(L:FL)(ds:List Deed)(n:Str),vs = [.ref L.p,.str n]/\FolkAt C H L ds/\n.length<=100/\due E c H (Q .non H) (Vn ds n)
theorem Z2k(Zcn:HasM K C "check_untold" "Folk.check_untold" Ze2)(Tc:TxC K C)(er:Er K mg c errs):MtX P w K mg base C "check_untold" 1 (Zft C c):=by
 refine Zcn.mtX Zpv (fun _ _ _ _ _ _=>al2 fun _ _=>rfl) (fun vs H Q E h=>?_) (fun f cdv A outer s H vs Q E hr h=>?_)
 ·obtain⟨L,ds,n,rfl,_⟩:=h
  rfl
 ·obtain⟨L,ds,n,rfl,F,ho,k⟩:=h
  refine⟨_,(Zf (Zp (Zv (Zas hr) (qvN 1) (Zq (qvN 0)) rfl) (Zf (Yz Yp er (Y2 (Yj (Yr (qvN 1) (Yj Y1)))))) Zo)),?_⟩
  obtain⟨dx,ob⟩:=F.ob
  obtain⟨kvs,c1,c2,c3⟩:=F.d
  refine⟨_,rfl,_,rfl,L.p,C,dx,_,_,rfl,ob,Tc.cl,Tc.nd,Zbq _ _ _ _,L.dd,_,rfl,DGet.k (k:=Sum.inr n) c1,_,rfl,?_⟩
  unfold Vn at k
  rw[c3]
  cases hn:Z3 ds n with
  | none =>
   rw[if_pos hn] at k
   exact Zt k
  | some x =>
   rw[if_neg (by rw[hn];intro z;cases z)] at k
   exact Z5 ⟨by decide +kernel,_,rfl,.inl ⟨n,rfl,by lia⟩,by decide +kernel,fun _=>k⟩
def okN(n:Str):Prop:=n.length<=100/\∀x∈n.cps.toList,x < 16 ^ 8
def Vo(ds:List Deed)(n:Str)(day wt:Int):Option Str:=if Vl n=false then some "NoName" else (eM 0 9999 day).or ((eM 1 1000 wt).or ((if Zk ds n=none then none else some ("Taken" : Str)).or (if (Wh ds).length < 40 then none else some ("TooMany" : Str))))
def Zlz(C:Addr)(c:Str->Addr):Sp:=fun vs H Q E=>∃(L:FL)(ds:List Deed)(wa:Str->Addr)(n:Str)(day wt:Int),vs = [.ref L.p,.str n,.int day,.int wt]/\Fk C H L ds wa/\ds.length<=1000/\okN n/\okI day/\okI wt/\∀H',Same H H'->due E c H' (Q .non H') (Vo ds n day wt)
theorem Z2l(Zck:HasM K C "check_coming" "Folk.check_coming" Zey)(T:Txt mg)(Tc:TxC K C)(C0:∃t,mg "MOST_FOLK" = some (.int 40 t))(er:Er K mg c errs)(Zhk:Fn P w K mg base "is_name" ["text"] 1 Zfy)(Y5:FnX P w K mg base "check_day" 1 (spM 0 9999 c))(Zbr:FnX P w K mg base "check_weight" 1 (spM 1 1000 c)):MtX P w K mg base C "check_coming" 2 (Zlz C c):=by
 obtain⟨t0,c_MOST_FOLK⟩:=C0
 have r_MOST_FOLK:RelV (.int 40) (.int 40 t0):=⟨t0,rfl⟩
 refine Zck.mtX Zps (fun _ _ _ _ _ _=>al4 fun _ _ _ _=>rfl) (fun vs H Q E h=>?_) (fun f cdv A outer s H vs Q E hr h=>?_)
 ·obtain⟨L,ds,wa,n,day,wt,rfl,_⟩:=h
  rfl
 ·obtain⟨L,ds,wa,n,day,wt,rfl,F1,hl,ho,hi,hw,k⟩:=h
  have F0:=F1.f
  refine⟨_,(Ze (Zp (Vg (Vh (Z6 Zhk (Za (qvN 1) Zb)))) (Zf (Yz Yp er (Y2 (Zzg (qvN 1) (Yj Y1))))) Zo)
 (Ze (Zi (Wb Zw Y5 (Za (qvN 2) Zb)))
 (Ze (Zi (Wb Zw Zbr (Za (qvN 3) Zb)))
 (Ze (Zp (Zv (Zas hr) (qvN 1) (Zq (qvN 0)) rfl) (Zf (Yz Yp er (Y2 (Yj (Yr (qvN 1) (Yj Y1)))))) Zo)
 (Zf (Zp (Zv Zab (Z7 Zk7 T.len Y0 (Za (Zq (qvN 0)) Zb)) (Yy c_MOST_FOLK r_MOST_FOLK) (Z1 _)) (Zf (Yz Yp er (Y2 (Yj (Yr (Yy c_MOST_FOLK r_MOST_FOLK) (Yj Y1)))))) Zo)))))),?_⟩
  have hl':=ho.1
  refine⟨_,rfl,n,rfl,by lia,fun H1 s1=>⟨_,rfl,?_⟩⟩
  replace k:=k H1 s1
  unfold Vo at k
  cases e:Vl n with
  | false =>
   rw[if_pos e] at k
   exact Z5 ⟨_,rfl,⟨n,rfl,by lia,ho.2⟩,by decide +kernel,fun _=>k⟩
  | true =>
   rw[if_neg (by rw[e];decide)] at k
   refine Zt ?_
   have F:=F0.keep (Same.n s1)
   obtain⟨dx,ob⟩:=F.ob
   obtain⟨kvs,c1,c2,c3⟩:=F.c
   obtain⟨kv2,c4,c5⟩:=F1.cnt
   obtain rfl:kvs=kv2:=by have:=s1 _ _ c4;rw[c1] at this;cases this;rfl
   have g:=DGet.k (k:=Sum.inr n) c1
   rw[c3] at g
   refine⟨_,rfl,day,rfl,hi,?_⟩
   cases ed:eM 0 9999 day with
   | some x=>rw[ed] at k;exact k
   | none =>
   rw[ed,xG] at k
   refine⟨_,rfl,wt,rfl,hw,?_⟩
   cases ew:eM 1 1000 wt with
   | some x=>rw[ew] at k;exact k
   | none =>
   rw[ew,xG] at k
   refine⟨_,rfl,_,rfl,L.p,C,dx,_,_,rfl,ob,Tc.cl,Tc.nc,Zam _ _ _ _,L.dc,_,rfl,g,_,rfl,?_⟩
   cases hc:Zk ds n with
   | some d0 =>
    rw[if_neg (by rw[hc];intro z;cases z)] at k
    exact Z5 ⟨by decide +kernel,_,rfl,.inl ⟨n,rfl,by lia⟩,by decide +kernel,fun _=>k⟩
   | none =>
    rw[if_pos hc,xG] at k
    refine Zt ⟨_,rfl,L.p,C,dx,_,_,rfl,ob,Tc.cl,Tc.nc,Zam _ _ _ _,L.dc,kvs,rfl,c1,_,_,rfl,rfl,_,rfl,Yg (fun z=>?_) (fun z=>?_)⟩
    ·rw[if_neg (by lia)] at k
     exact⟨by decide +kernel,.inr ⟨40,rfl,by decide +kernel⟩,by decide +kernel,fun _=>k⟩
    ·rw[if_pos (by lia)] at k
     exact k
def Zaf(ds:List Deed)(n:Str)(day wt:Int):Option Str:=(eM 0 9999 day).or ((eM 1 1000 wt).or ((Z9 ds n).or ((Yc ((Zk ds n).getD 0) day).or (Wu ds n day))))
def Zoe(C:Addr)(c:Str->Addr):Sp:=fun vs H Q E=>∃(L:FL)(ds:List Deed)(n:Str)(day wt:Int),vs = [.ref L.p,.str n,.int day,.int wt]/\FolkAt C H L ds/\n.length<=100/\okI day/\okI wt/\due E c H (Q .non H) (Zaf ds n day wt)
theorem Zbv{ds:List Deed}{n:Str}(h:Z9 ds n=none):∃d,Zk ds n=some d:=by
 unfold Z9 at h
 cases e:Zk ds n with
 | none=>rw[if_pos e] at h;cases h
 | some d=>exact⟨d,rfl⟩
theorem Z2m(Zcm:HasM K C "check_rise" "Folk.check_rise" Ze1)(Tc:TxC K C)(Y5:FnX P w K mg base "check_day" 1 (spM 0 9999 c))(Zbr:FnX P w K mg base "check_weight" 1 (spM 1 1000 c))(M_check_known:MtX P w K mg base C "check_known" 1 (Zc0 C c))(M_check_there:MtX P w K mg base C "check_there" 1 (Zdw C c))(M_check_living:MtX P w K mg base C "check_living" 2 (Zfs C c)):MtX P w K mg base C "check_rise" 3 (Zoe C c):=by
 refine Zcm.mtX Zpu (fun _ _ _ _ _ _=>al4 fun _ _ _ _=>rfl) (fun vs H Q E h=>?_) (fun f cdv A outer s H vs Q E hr h=>?_)
 ·obtain⟨L,ds,n,day,wt,rfl,_⟩:=h
  rfl
 ·obtain⟨L,ds,n,day,wt,rfl,F,ho,hi,hw,k⟩:=h
  refine⟨_,(Ze (Zi (Wb Zw Y5 (Za (qvN 2) Zb)))
 (Ze (Zi (Wb Zw Zbr (Za (qvN 3) Zb)))
 (Ze (Zi (Yh Zw (qvN 0) Tc.cl M_check_known (Za (qvN 1) Zb)))
 (Ze (Zi (Yh Zw (qvN 0) Tc.cl M_check_there (Za (qvN 1) (Za (qvN 2) Zb))))
 (Zf (Zi (Yh Zw (qvN 0) Tc.cl M_check_living (Za (qvN 1) (Za (qvN 2) Zb))))))))),?_⟩
  obtain⟨dx,ob⟩:=F.ob
  unfold Zaf at k
  refine⟨_,rfl,day,rfl,hi,?_⟩
  cases ed:eM 0 9999 day with
  | some x=>rw[ed] at k;exact k
  | none =>
  rw[ed,xG] at k
  refine⟨_,rfl,wt,rfl,hw,?_⟩
  cases ew:eM 1 1000 wt with
  | some x=>rw[ew] at k;exact k
  | none =>
  rw[ew,xG] at k
  refine⟨_,rfl,L.p,dx,_,rfl,ob,Ys _ _ _ _ (by decide +kernel),_,rfl,L,ds,n,rfl,F,ho,?_⟩
  cases ek:Z9 ds n with
  | some x=>rw[ek] at k;exact k
  | none =>
  rw[ek,xG] at k
  obtain⟨d,hc⟩:=Zbv ek
  rw[hc,Option.getD_some] at k
  refine⟨_,rfl,L.p,dx,_,rfl,ob,Ys _ _ _ _ (by decide +kernel),_,rfl,_,rfl,L,ds,n,d,day,rfl,F,hc,ho,hi,?_⟩
  cases et:Yc d day with
  | some x=>rw[et] at k;exact k
  | none =>
  rw[et,xG] at k
  exact⟨_,rfl,L.p,dx,_,rfl,ob,Ys _ _ _ _ (by decide +kernel),_,rfl,_,rfl,L,ds,n,day,rfl,F,ho,hi,k⟩
def Um(ds:List Deed)(n he:Str)(day:Int):Option Str:=(eM 0 9999 day).or ((Z9 ds n).or ((Z9 ds he).or ((Yc ((Zk ds n).getD 0) day).or ((Yc ((Zk ds he).getD 0) day).or ((Vn ds n).or (if he=n\/Z3 ds he≠none then some ("NoHeir" : Str) else none))))))
def Zp0(C:Addr)(c:Str->Addr):Sp:=fun vs H Q E=>∃(L:FL)(ds:List Deed)(n he:Str)(day:Int),vs = [.ref L.p,.str n,.int day,.str he]/\FolkAt C H L ds/\n.length<=100/\he.length<=100/\okI day/\due E c H (Q .non H) (Um ds n he day)
theorem Z2n(Zco:HasM K C "check_death" "Folk.check_death" Ze3)(Tc:TxC K C)(er:Er K mg c errs)(Y5:FnX P w K mg base "check_day" 1 (spM 0 9999 c))(M_check_known:MtX P w K mg base C "check_known" 1 (Zc0 C c))(M_check_there:MtX P w K mg base C "check_there" 1 (Zdw C c))(M_check_untold:MtX P w K mg base C "check_untold" 1 (Zft C c)):MtX P w K mg base C "check_death" 2 (Zp0 C c):=by
 refine Zco.mtX Zpw (fun _ _ _ _ _ _=>al4 fun _ _ _ _=>rfl) (fun vs H Q E h=>?_) (fun f cdv A outer s H vs Q E hr h=>?_)
 ·obtain⟨L,ds,n,he,day,rfl,_⟩:=h
  rfl
 ·obtain⟨L,ds,n,he,day,rfl,F,ho,ho',hi,k⟩:=h
  refine⟨_,(Ze (Zi (Wb Zw Y5 (Za (qvN 2) Zb)))
 (Ze (Zi (Yh Zw (qvN 0) Tc.cl M_check_known (Za (qvN 1) Zb)))
 (Ze (Zi (Yh Zw (qvN 0) Tc.cl M_check_known (Za (qvN 3) Zb)))
 (Ze (Zi (Yh Zw (qvN 0) Tc.cl M_check_there (Za (qvN 1) (Za (qvN 2) Zb))))
 (Ze (Zi (Yh Zw (qvN 0) Tc.cl M_check_there (Za (qvN 3) (Za (qvN 2) Zb))))
 (Ze (Zi (Yh Zw (qvN 0) Tc.cl M_check_untold (Za (qvN 1) Zb)))
 (Zf (Zp (QW.pt (Zgz (Zv Wt (qvN 3) (qvN 1) (Z1 _)) (Zgm (Zv (Zas hr) (qvN 3) (Zq (qvN 0)) rfl)))) (Zf (Yz Yp er (Y2 (Yr (qvN 3) (Yj (Yr (qvN 1) Y1)))))) Zo)))))))),?_⟩
  obtain⟨dx,ob⟩:=F.ob
  unfold Um at k
  refine⟨_,rfl,day,rfl,hi,?_⟩
  cases ed:eM 0 9999 day with
  | some x=>rw[ed] at k;exact k
  | none =>
  rw[ed,xG] at k
  refine⟨_,rfl,L.p,dx,_,rfl,ob,Ys _ _ _ _ (by decide +kernel),_,rfl,L,ds,n,rfl,F,ho,?_⟩
  cases ek:Z9 ds n with
  | some x=>rw[ek] at k;exact k
  | none =>
  rw[ek,xG] at k
  obtain⟨d,hc⟩:=Zbv ek
  refine⟨_,rfl,L.p,dx,_,rfl,ob,Ys _ _ _ _ (by decide +kernel),_,rfl,L,ds,he,rfl,F,ho',?_⟩
  cases eh:Z9 ds he with
  | some x=>rw[eh] at k;exact k
  | none =>
  rw[eh,xG] at k
  obtain⟨d2,hc2⟩:=Zbv eh
  rw[hc,hc2,Option.getD_some,Option.getD_some] at k
  refine⟨_,rfl,L.p,dx,_,rfl,ob,Ys _ _ _ _ (by decide +kernel),_,rfl,_,rfl,L,ds,n,d,day,rfl,F,hc,ho,hi,?_⟩
  cases et:Yc d day with
  | some x=>rw[et] at k;exact k
  | none =>
  rw[et,xG] at k
  refine⟨_,rfl,L.p,dx,_,rfl,ob,Ys _ _ _ _ (by decide +kernel),_,rfl,_,rfl,L,ds,he,d2,day,rfl,F,hc2,ho',hi,?_⟩
  cases et2:Yc d2 day with
  | some x=>rw[et2] at k;exact k
  | none =>
  rw[et2,xG] at k
  refine⟨_,rfl,L.p,dx,_,rfl,ob,Ys _ _ _ _ (by decide +kernel),_,rfl,L,ds,n,rfl,F,ho,?_⟩
  cases eu:Vn ds n with
  | some x=>rw[eu] at k;exact k
  | none =>
  rw[eu,xG] at k
  obtain⟨kvs,c1,c2,c3⟩:=F.d
  have g:=DGet.k (k:=Sum.inr he) c1
  rw[c3] at g
  refine⟨_,rfl,_,rfl,rfl,_,rfl,Yg (fun z=>?_) (fun z=>?_)⟩
  ·have z':he=n:=by injection z
   rw[if_pos (.inl z')] at k
   exact Z5 ⟨_,rfl,.inl ⟨he,rfl,by lia⟩,by decide +kernel,_,rfl,.inl ⟨n,rfl,by lia⟩,fun _=>k⟩
  ·have z':he≠n:=fun y=>z (by rw[y])
   refine⟨_,rfl,_,rfl,L.p,C,dx,_,_,rfl,ob,Tc.cl,Tc.nd,Zbq _ _ _ _,L.dd,_,rfl,g,_,rfl,?_⟩
   cases hh:Z3 ds he with
   | none =>
    rw[if_neg (by rw[hh];exact fun y=>y.elim z' fun w=>w rfl)] at k
    exact Zt k
   | some x =>
    rw[if_pos (.inr (by rw[hh];intro w;cases w))] at k
    exact Z5 ⟨_,rfl,.inl ⟨he,rfl,by lia⟩,by decide +kernel,_,rfl,.inl ⟨n,rfl,by lia⟩,fun _=>k⟩
abbrev inB(i:Int)(n:Nat):Prop:=0<=i/\i < n
def Vs(m:Mo)(i:Int):Option Str:=if inB i m.brs.length then none else some "NoThing"
def Zmk(C CM:Addr)(c:Str->Addr):Sp:=fun vs H Q E=>∃(M:ML)(ds:List Deed)(wa:Str->Addr)(xs:List Addr)(m:Mo)(qs:List Addr)(i:Int),vs = [.ref M.p,.int i]/\MootAt C CM H M ds wa xs m qs/\okI i/\due E c H (Q .non H) (Vs m i)
abbrev Zid:Stmt:=Ym (top 58) 41
theorem Z2o:FnScope ["self", "thing"] ["self", "thing"] (Zh Zid):=fsc
theorem Zrj(Zie:HasM K CM "check_thing" "Moot.check_thing" Zid)(T:Txt mg)(Tm:TxCMoot K CM)(er:Er K mg c errs):MtX P w K mg base CM "check_thing" 1 (Zmk C CM c):=by
 refine Zie.mtX Z2o (fun _ _ _ _ _ _=>al2 fun _ _=>rfl) (fun vs H Q E h=>?_) (fun f cdv A outer s H vs Q E hr h=>?_)
 ·obtain⟨M,ds,wa,xs,m,qs,i,rfl,_⟩:=h
  rfl
 ·obtain⟨M,ds,wa,xs,m,qs,i,rfl,W,hs,k⟩:=h
  refine⟨_,(Zf (Zp (Vg (Uq Wa Zaa Zd (qvN 1) (Z7 Wl T.len Y0 (Za (Zq (qvN 0)) Zb)))) (Zf (Yz Yp er (Y2 (Yj (Yr (qvN 1) Y1))))) Zo)),?_⟩
  obtain⟨dx,ob⟩:=W.ob
  obtain⟨vs,b1,_,hl⟩:=(W.ls (M.lb,m.brs) (by simp[Mo.at_])).get
  dsimp only at b1 hl
  unfold Vs at k
  rw[← hl] at k
  refine⟨_,rfl,_,_,rfl,rfl,_,rfl,Yg (fun h0=>?_) (fun z=>?_)⟩
  ·refine⟨_,rfl,M.p,CM,dx,_,_,rfl,ob,Tm.cl,Tm.nb,Zcz _,M.lb,vs,rfl,.inl (SqL.of b1),_,_,rfl,rfl,_,rfl,Yq (fun z=>?_) (fun h1=>?_)⟩
   ·rw[if_neg (fun y=>z y.2)] at k
    exact⟨by decide +kernel,_,rfl,.inr ⟨i,rfl,Wj hs⟩,fun _=>k⟩
   ·rw[if_pos ⟨h0,h1⟩] at k;exact k
  ·rw[if_neg (fun y=>z y.1)] at k
   exact⟨false,rfl,Z5 ⟨by decide +kernel,_,rfl,.inr ⟨i,rfl,Wj hs⟩,fun _=>k⟩⟩
def Zng(c:Str->Addr):Sp:=fun vs H Q E=>∃(l:Addr)(us:List V)(i:Int),vs = [.ref l,.int i]/\H l=some (.lst us)/\okI i/\due E c H (Q .non H) (if inB i us.length then none else some "NoCase")
abbrev Zif:Stmt:=top 49
theorem Z2p:FnScope ["suits", "case"] ["suits", "case"] (Zh Zif):=fsc
theorem Z2q(Zig:Has K mg "check_case" Zif)(T:Txt mg)(er:Er K mg c errs):FnX P w K mg base "check_case" 1 (Zng c):=by
 refine Zig.fnX Z2p (fun _ _ _ _ _ _=>al2 fun _ _=>rfl) (fun vs H Q E h=>?_) (fun f cdv A outer s H vs Q E hr h=>?_)
 ·obtain⟨l,us,i,rfl,_⟩:=h
  rfl
 ·obtain⟨l,us,i,rfl,hl,hs,k⟩:=h
  refine⟨_,(Zf (Zp (Vg (Uq Wa Zaa Zd (qvN 1) (Z7 Wl T.len Y0 (Za (qvN 0) Zb)))) (Zf (Yz Yp er (Y2 (Yj (Yr (qvN 1) Y1))))) Zo)),?_⟩
  refine⟨_,rfl,_,_,rfl,rfl,_,rfl,Yg (fun h0=>?_) (fun z=>?_)⟩
  ·refine⟨_,rfl,l,us,rfl,.inl (SqL.of hl),_,_,rfl,rfl,_,rfl,Yq (fun z=>?_) (fun h1=>?_)⟩
   ·rw[if_neg (fun y=>z y.2)] at k
    exact⟨by decide +kernel,_,rfl,.inr ⟨i,rfl,Wj hs⟩,fun _=>k⟩
   ·rw[if_pos ⟨h0,h1⟩] at k;exact k
  ·rw[if_neg (fun y=>z y.1)] at k
   exact⟨false,rfl,Z5 ⟨by decide +kernel,_,rfl,.inr ⟨i,rfl,Wj hs⟩,fun _=>k⟩⟩
def Yd(m:Mo):Option Str:=if m.deeds.length < 400 then none else some "TooMany"
def Zag(C CM:Addr)(c:Str->Addr):Sp:=fun vs H Q E=>∃(M:ML)(ds:List Deed)(wa:Str->Addr)(xs:List Addr)(m:Mo)(qs:List Addr),vs = [.ref M.p]/\MootAt C CM H M ds wa xs m qs/\due E c H (Q .non H) (Yd m)
abbrev Zih:Stmt:=Ym (top 58) 43
theorem Z2r:FnScope ["self"] ["self"] (Zh Zih):=fsc
theorem Zre(Zii:HasM K CM "check_moments" "Moot.check_moments" Zih)(T:Txt mg)(Tm:TxCMoot K CM)(er:Er K mg c errs)(C0:∃t,mg "MOST_MOMENTS" = some (.int 400 t)):MtX P w K mg base CM "check_moments" 1 (Zag C CM c):=by
 obtain⟨t0,c_MOST_MOMENTS⟩:=C0
 have r_MOST_MOMENTS:RelV (.int 400) (.int 400 t0):=⟨t0,rfl⟩
 refine Zii.mtX Z2r (fun _ _ _ _ _ _=>al1 fun _=>rfl) (fun vs H Q E h=>?_) (fun f cdv A outer s H vs Q E hr h=>?_)
 ·obtain⟨M,ds,wa,xs,m,qs,rfl,_⟩:=h
  rfl
 ·obtain⟨M,ds,wa,xs,m,qs,rfl,W,k⟩:=h
  refine⟨_,(Zf (Zp (Zv Zab (Z7 Wl T.len Y0 (Za (Zq (qvN 0)) Zb)) (Yy c_MOST_MOMENTS r_MOST_MOMENTS) (Z1 _)) (Zf (Yz Yp er (Y2 (Yj (Yr (Yy c_MOST_MOMENTS r_MOST_MOMENTS) (Yj Y1)))))) Zo)),?_⟩
  obtain⟨dx,ob⟩:=W.ob
  obtain⟨vs,d1,_,d2⟩:=(W.ls (M.ld,m.deeds) (by simp[Mo.at_])).get
  dsimp only at d1 d2
  unfold Yd at k
  refine⟨_,rfl,M.p,CM,dx,_,_,rfl,ob,Tm.cl,Tm.nd,Vm _,M.ld,vs,rfl,.inl (SqL.of d1),_,_,rfl,rfl,_,rfl,Yg (fun z=>?_) (fun z=>?_)⟩
  ·rw[if_neg (by lia)] at k
   exact⟨by decide +kernel,.inr ⟨400,rfl,by decide +kernel⟩,by decide +kernel,fun _=>k⟩
  ·rw[if_pos (by lia)] at k;exact k
end
section
variable{P:Program}{w:World}{K:uFg}{mg:Str->Option Value}{base:Heap}{c:Str->Addr}
def Wz(ss:List Suit)(i:Int)(n:Str):Option Str:=match ss[i.toNat]? with
 | some t=>if inB i ss.length then (if n∈(t.ones++t.others).map (·.1) then none else some "NoOath") else some "NoCase"
 | none=>some "NoCase"
def Zgd(c:Str->Addr):Sp:=fun vs H Q E=>∃(l:Addr)(ss:List Suit)(i:Int)(n:Str),vs = [.ref l,.int i,.str n]/\SuitsAt H ss l/\(∀t∈ss,Us t)/\okI i/\n.length<=100/\∀H',Same H H'->due E c H' (Q .non H') (Wz ss i n)
abbrev Zij:Stmt:=top 50
theorem Z2s:FnScope ["suits", "case", "name"] ["suits", "case", "name"] (Zh Zij):=fsc
theorem Z2t(Zik:Has K mg "check_oath" Zij)(T:Txt mg)(C0:∃t,mg "ONES" = some (.int 0 t))(C1:∃t,mg "OTHERS" = some (.int 1 t))(er:Er K mg c errs)(Z2u:FnX P w K mg base "check_case" 1 (Zng c)) :
  FnX P w K mg base "check_oath" 2 (Zgd c):=by
 obtain⟨t0,c_ONES⟩:=C0
 obtain⟨t1,c_OTHERS⟩:=C1
 have r_ONES:RelV (.int 0) (.int 0 t0):=⟨t0,rfl⟩
 have r_OTHERS:RelV (.int 1) (.int 1 t1):=⟨t1,rfl⟩
 refine Zik.fnX Z2s (fun _ _ _ _ _ _=>al3 fun _ _ _=>rfl) (fun vs H Q E h=>?_) (fun f cdv A outer s H vs Q E hr h=>?_)
 ·obtain⟨l,ss,i,n,rfl,_⟩:=h
  rfl
 ·obtain⟨l,ss,i,n,rfl,hsu,hok,hi,hn,k⟩:=h
  refine⟨_,(Ze (Zi (Wb Zw Z2u (Za (qvN 0) (Za (qvN 1) Zb))))
 (Zf (Zp (Zv Zkr (qvN 2) (Ur (locs:=["swearer", "weight"]) (fr:=[]) ⟨rfl,by decide +kernel,by decide +kernel,by decide +kernel,by decide +kernel,by decide +kernel⟩ .nil rfl (Vb (Zz Wp (Zl Z2 (Zl Yu (qvN 0) (qvN 1) (fun _ _=>rfl)) (Yy c_ONES r_ONES) (fun _ _=>rfl)) (Zl Z2 (Zl Yu (qvN 0) (qvN 1) (fun _ _=>rfl)) (Yy c_OTHERS r_OTHERS) (fun _ _=>rfl)))) ⟨fun _ _ _ _ _ _=>by
  have cnd:(inN ["swearer", "weight"] []).Nodup:=by decide +kernel
  exact⟨(Zd6 2 (by rfl) (Wk (Vw 0 cnd) (Wk (Vw 1 cnd) Zaq))),Zb2,(Vc 0)⟩⟩) rfl) (Zf (Yz Yp er (Y2 (Yr (qvN 2) (Yj (Yr (qvN 1) Y1)))))) Zo))),?_⟩
  have hz:(5000:Nat)<=sizeLine:=by decide
  obtain⟨us,hl,hrep⟩:=id hsu
  have hul:us.length=ss.length:=by have:=hrep.length;rw[xB] at this;exact this
  refine⟨_,rfl,_,rfl,l,us,i,rfl,hl,hi,?_⟩
  by_cases hb:inB i ss.length
  ·unfold Wz at k
   rw[if_pos (by rw[hul];exact hb)]
   obtain⟨j,rfl⟩:=yK hb.1
   have hj:j < ss.length:=by have:=hb.2;lia
   have ht:ss[j]? = some ss[j]:=xC hj
   generalize ss[j]=t at ht
   rw[yN,ht] at k
   dsimp only at k
   rw[if_pos hb] at k
   obtain⟨ta,u1,u2,u4,hu,hta,⟨b1,w1,rfl,hb1,hr1⟩,⟨b2,w2,rfl,hb2,hr2⟩,h4⟩:=SuitsAt.get (l:=l) hrep ht
   obtain⟨L1,L2',_,_⟩:=hok t (xI ht)
   have z1:=hr1.len
   have z2:=hr2.len
   have y1:=L1.2
   have y2:=L2'.2
   refine⟨_,rfl,_,rfl,_,rfl,l,us,j,.ref ta,rfl,rfl,SqL.of hl,Va hu,ta,_,0,.ref b1,rfl,rfl,SqT.of hta,rfl,?_⟩
   refine⟨_,rfl,_,rfl,l,us,j,.ref ta,rfl,rfl,SqL.of hl,Va hu,ta,_,1,.ref b2,rfl,rfl,SqT.of hta,rfl,?_⟩
   refine⟨b1,b2,w1,w2,rfl,rfl,hb1,hb2,by lia,fun q hq=>?_⟩
   have Sc:=Same.new (o:=.lst (w1++w2)) hq
   have kc:(upd H q (.lst (w1++w2))) q=some (.lst (w1++w2)):=Zg
   generalize (upd H q (.lst (w1++w2)))=H2 at Sc kc ⊢
   have hrs:RepS H2 (t.ones++t.others) (w1++w2):=RepS.mono (Same.t Sc) (RepS.app hr2 hr1)
   refine⟨q,rfl,⟨_,SqL.of kc⟩,?_⟩
   refine Zvt kc hrs (by rw[xN];lia) fun l2 hl2=>?_
   refine⟨l2,_,rfl,.inl (SqL.of Zg),rfl,Zlv _,_,rfl,?_⟩
   rw[Zm4]
   refine Yq (fun z=>?_) (fun z=>?_)
   ·rw[if_neg z] at k
    exact⟨_,rfl,.inl ⟨n,rfl,by lia⟩,by decide +kernel,_,rfl,.inr ⟨_,rfl,Wj hi⟩,fun _=>k _ (Sc.trans (Same.new hl2))⟩
   ·rw[if_pos z] at k;exact k _ (Sc.trans (Same.new hl2))
  ·rw[if_neg (by rw[hul];exact hb)]
   have e:Wz ss i n=some "NoCase" := by
    unfold Wz
    cases ss[i.toNat]? with
    | none=>rfl
    | some t=>exact if_neg hb
   have k:=k H (Same.refl H)
   rw[e] at k
   exact k
def Zlc:Sp:=fun vs H Q _=>∃(l:Addr)(ss:List Suit)(i:Nat)(n:Str),vs = [.ref l,.int i,.str n]/\SuitsAt H ss l/\(∀t∈ss,Us t)/\ss.length<=1000/\n.length<=100/\Wz ss i n=none /\
 ∀(l2:Addr)(H':Hp),H l2=none->H' l2=some (.lst (Wx (Zfe ss i n)))->Same H H'->Q (.ref l2) H'
abbrev Zil:Stmt:=top 45
theorem Z2v:FnScope ["suits", "case", "name"] ["suits", "case", "name"] (Zh Zil):=fsc
theorem Z2w(Zim:Has K mg "breakers" Zil)(T:Txt mg)(Zin:FnX P w K mg base "check_oath" 2 (Zgd c))(Z2x:Fn P w K mg base "breaking" ["suits"] 5 Zlb) :
  Fn P w K mg base "breakers" ["suits", "case", "name"] 6 Zlc:=by
 refine Zim.fnQ Z2v (fun _ _ _ _ _ _=>al3 fun _ _ _=>rfl) (fun vs H Q E h=>?_) (fun f cdv A outer s H vs Q E hr h=>?_)
 ·obtain⟨l,ss,i,n,rfl,_⟩:=h
  rfl
 ·obtain⟨l,ss,i,n,rfl,hsu,hok,hlen,hn,ho,k⟩:=h
  refine⟨_,(Ze (Zi (Wb Xq.never Zin (Za (qvN 0) (Za (qvN 1) (Za (qvN 2) Zb)))))
 (Zf (Zu (Zl9 hr (Z6 Z2x (Za (qvN 0) Zb)) (Zs (Za (qvN 1) (Za (qvN 2) Zb))) (Zy Zb))))),?_⟩
  have hi:i < ss.length:=by
   unfold Wz at ho
   cases e:ss[(i:Int).toNat]? with
   | none=>rw[e] at ho;cases ho
   | some t=>rw[yN] at e;exact(xF.mp e).1
  refine⟨_,rfl,_,rfl,_,rfl,l,ss,i,n,rfl,hsu,hok,by unfold okI;lia,hn,fun H1 sm1=>?_⟩
  rw[ho]
  refine⟨_,rfl,l,ss,rfl,hsu.mono sm1,hok,hlen,fun g H2 hg ⟨kvs,a1,a2,a3,a4⟩ hfr sm2=>⟨g,rfl,.inr ⟨kvs,.inl a1⟩,?_⟩⟩
  refine⟨_,rfl,_,rfl,by show 2<=sizeLine;decide,fun q hq=>?_⟩
  have Sq:=Same.new (o:=.tup [.int i,.str n]) hq
  have kq:(upd H2 q (.tup [.int i,.str n])) q=some (.tup [.int i,.str n]):=Zg
  generalize (upd H2 q (.tup [.int i,.str n]))=H3 at Sq kq ⊢
  refine⟨by show 0<=sizeLine;decide,fun e he=>?_⟩
  have Se:=Same.new (o:=.lst []) he
  have ke:(upd H3 e (.lst [])) e=some (.lst []):=Zg
  generalize (upd H3 e (.lst []))=H4 at Se ke ⊢
  have S24:=Sq.trans Se
  have S:=(sm1.trans sm2).trans S24
  refine⟨_,DGet.t (S24 _ _ a1) (k:=Yi i n) (Se _ _ kq),?_⟩
  rcases a4 i n with⟨e1,e2⟩ | ⟨a,e1,e2⟩
  ·rw[e1]
   refine k e H4 (((sm1.trans sm2).trans Sq).free he) ?_ S
   unfold Zfe
   rw[e2]
   exact ke
  ·rw[e1]
   exact k a H4 (sm1.free (hfr kvs i n a a1 e1)) (S24 _ _ e2) S
end
section
variable{P:Program}{w:World}{K:uFg}{mg:Str->Option Value}{base:Heap}{C CM:Addr}{c:Str->Addr}
theorem Ze5{t u:TS}{D:_}{σ:St}{H:Hp}(Rk:Hp->Prop)(h:(∀H',Rk H'->u D σ H')->V2 t u D σ H)(k:∀H',Rk H'->u D σ H'):V2 t u D σ H:=h k
theorem Zc3{f:Str->Option Str}:∀{ps:List Str}{i:Nat}{n x:Str},ps[i]? = some n->(∀j < i,∀y,ps[j]? = some y->f y=none)->f n=some x->ps.findSome? f=some x
 | [],i,n,x,h,_,_=>by cases h
 | p::ps,0,n,x,h,_,e=>by cases h;rw[List.findSome?_cons,e]
 | p::ps,i+1,n,x,h,a,e=>by rw[List.findSome?_cons,a 0 (by lia) p rfl];exact Zc3 (i:=i) h (fun j hj y hy=>a (j+1) (by lia) y hy) e
theorem Zeb{f:Str->Option Str}{ps:List Str}(a:∀j < ps.length,∀y,ps[j]? = some y->f y=none):ps.findSome? f=none:=by
 rw[List.findSome?_eq_none_iff]
 intro x hx
 obtain⟨j,hj,e⟩:=List.getElem_of_mem hx
 exact a j hj x (by rw[xC hj,e])
theorem Zec{f:Str->Option Str}{ps:List Str}{i:Nat}{n:Str}(h:ps[i]? = some n)(a:∀j < i,∀y,ps[j]? = some y->f y=none)(e:f n=none):∀j < i+1,∀y,ps[j]? = some y->f y=none:=fun j hj y hy=>by
 by_cases z:j=i
 ·subst z;rw[h] at hy;cases hy;exact e
 ·exact a j (by lia) y hy
structure MoK (m:Mo):Prop where
 ok:∀t∈m.trials,Us t
 dl:m.days.length=m.trials.length
 br:∀(i:Nat)(e:D),m.brs[i]? = some e->∃(x:Str)(d:Int),e = .tup [.str x,.int d]
 le:m.trials.length<=60
 vl:m.verd.length=m.trials.length
 hb:m.haps.length=m.brs.length
 hl:∀q∈m.haps,q.length<=m.deeds.length
 ql:m.debts.length<=m.deeds.length
def brD(m:Mo)(i:Int):Int:=match m.brs[i.toNat]? with
 | some (.tup [_,.int d])=>d
 | _=>0
def Yl(ds:List Deed)(m:Mo)(day:Int)(ps:List Str)(th:Option Int)(oa:Option (Int×Str)):Option Str :=
 (ps.findSome? (Z9 ds)).or ((th.bind (Vs m)).or ((oa.bind fun p=>Wz m.trials p.1 p.2).or ((ps.findSome? fun n=>Yc ((Zk ds n).getD 0) day).or ((th.bind fun i=>Yc (brD m i) day).or
  ((oa.bind fun p=>Yc (m.days.getD p.1.toNat 0) day).or (ps.findSome? fun n=>Wu ds n day))))))
def thV:Option Int->V
 | none=>.non
 | some i=>.int i
def oaV(H:Hp):Option (Int×Str)->V->Prop
 | none,v=>v = .non
 | some (i,n),v=>okI i/\n.length<=100/\∃a,v = .ref a/\H a=some (.tup [.int i,.str n])
def Zbl(C CM:Addr)(c:Str->Addr):Sp:=fun vs H Q E=>∃(M:ML)(ds:List Deed)(wa:Str->Addr)(xs:List Addr)(m:Mo)(qs:List Addr)(day:Int)(pl:Addr)(ps:List Str)(th:Option Int)(oa:Option (Int×Str))(v2:V),vs = [.ref M.p,.int day,.ref pl,thV th,v2]/\MootAt C CM H M ds wa xs m qs/\MoK m /\
 H pl=some (.lst (ps.map V.str))/\(∀n∈ps,n.length<=100)/\okI day/\(∀i,th=some i->okI i)/\oaV H oa v2/\∀H',Same H H'->due E c H' (Q .non H') (Yl ds m day ps th oa)
abbrev Zio:Stmt:=Ym (top 58) 40
theorem Z2y:FnScope ["self", "day", "people", "thing", "oath", "name"] ["self", "day", "people", "thing", "oath"] (Zh Zio):=fsc
theorem Zrk(Zip:HasM K CM "check_named" "Moot.check_named" Zio)(Tc:TxC K C)(Tm:TxCMoot K CM)(er:Er K mg c errs)(M_check_known:MtX P w K mg base C "check_known" 1 (Zc0 C c))(M_check_there:MtX P w K mg base C "check_there" 1 (Zdw C c))(M_check_living:MtX P w K mg base C "check_living" 2 (Zfs C c))(MM_check_thing:MtX P w K mg base CM "check_thing" 1 (Zmk C CM c))(Zin:FnX P w K mg base "check_oath" 2 (Zgd c)):MtX P w K mg base CM "check_named" 3 (Zbl C CM c):=by
 refine Zip.mtX Z2y (fun _ _ _ _ _ _=>al5 fun _ _ _ _ _=>rfl) (fun vs H Q E h=>?_) (fun f cdv A outer s H vs Q E hr h=>?_)
 ·obtain⟨M,ds,wa,xs,m,qs,day,pl,ps,th,oa,v2,rfl,_⟩:=h
  rfl
 ·obtain⟨M,ds,wa,xs,m,qs,day,pl,ps,th,oa,v2,rfl,W,ok,hpl,hps,hd,hth,hoa,k⟩:=h
  refine⟨_,(Ze (Zc2 Zdk Yp (by rfl) (Vb (qvN 2)) (Yt 5)
 (fun hxq hxp=>(Zf (Zi (Yh hxq (Zq (qvN 0)) Tc.cl M_check_known (Za (qvN 5) Zb))))))
 (Ze (Zp (Zv Zbh (qvN 3) Y9 (Z1 _)) (Zf (Zi (Yh Zw (qvN 0) Tm.cl MM_check_thing (Za (qvN 3) Zb)))) Zo)
 (Ze (Zp (Zv Zbh (qvN 4) Y9 (Z1 _)) (Zf (Zi (Wb Zw Zin (Za (Zq (qvN 0)) (Za (Zl Z2 (qvN 4) Zd (fun _ _=>rfl)) (Za (Zl Z2 (qvN 4) Zd (fun _ _=>rfl)) Zb)))))) Zo)
 (Ze (Zc2 Zdk Yp (by rfl) (Vb (qvN 2)) (Yt 5)
 (fun hxq hxp=>(Zf (Zi (Yh hxq (Zq (qvN 0)) Tc.cl M_check_there (Za (qvN 5) (Za (qvN 1) Zb)))))))
 (Ze (Zp (QW.pt (Zc4 (Zv Zbh (qvN 3) Y9 (Z1 _)) (Zd3 (Zv Zaa (qvN 1) (Zl Z2 (Zl Yu (Zq (qvN 0)) (qvN 3) (fun _ _=>rfl)) Zd (fun _ _=>rfl)) (Z1 _))))) (Zf (Yz Yp er (Y2 (Yj (Yr (qvN 3) (Yj (Yr (qvN 1) Y1))))))) Zo)
 (Ze (Zp (QW.pt (Zc4 (Zv Zbh (qvN 4) Y9 (Z1 _)) (Zd3 (Zv Zaa (qvN 1) (Zl Yu (Zq (qvN 0)) (Zl Z2 (qvN 4) Zd (fun _ _=>rfl)) (fun _ _=>rfl)) (Z1 _))))) (Zf (Yz Yp er (Y2 (Yj (Yr (qvN 1) Y1))))) Zo)
 (Zf (Zc2 Zdk Yp (by rfl) (Vb (qvN 2)) (Yt 5)
 (fun hxq hxp=>(Zf (Zi (Yh hxq (Zq (qvN 0)) Tc.cl M_check_living (Za (qvN 5) (Za (qvN 1) Zb)))))))))))))),?_⟩
  obtain⟨dm,obm⟩:=W.ob
  have F:=W.fk.f
  obtain⟨dx,ob⟩:=F.ob
  have hget:∀{i:Nat}{v:V},(ps.map V.str)[i]? = some v->∃n,v = .str n/\ps[i]? = some n/\n.length<=100:=fun {i v} hv=>by
   rw[xO] at hv
   obtain⟨a,h1,h2⟩:=xZ.mp hv
   exact⟨a,h2.symm,h1,hps a (xI h1)⟩
  have hlen:(ps.map V.str).length=ps.length:=xB ..
  unfold Yl at k
  refine⟨_,rfl,pl,rfl,⟨_,SqL.of hpl⟩,?_⟩
  refine Ug (ps.map V.str) (fun i σ H'=>∃v5:Option V,σ = [some (.ref M.p),some (.int day),some (.ref pl),some (thV th),some v2,v5]/\H=H'/\∀j < i,∀y,ps[j]? = some y->Z9 ds y=none) ⟨none,rfl,rfl,fun j hj=>absurd hj (by lia)⟩ (fun i σ H' _ ⟨_,_,e,_⟩=>by rw[← e];exact SqL.of hpl) ?_ ?_
  ·rintro i v σ H' hv ⟨v5,rfl,rfl,ha⟩
   obtain⟨n,rfl,hn,hl⟩:=hget hv
   refine⟨_,rfl,M.p,CM,dm,_,_,rfl,obm,Tm.cl,Tm.nf,Ua _,M.L.p,dx,_,rfl,ob,Ys _ _ _ _ (by decide +kernel),_,rfl,M.L,ds,n,rfl,F,hl,?_⟩
   cases e:Z9 ds n with
   | none=>exact⟨_,rfl,rfl,Zec hn ha e⟩
   | some x =>
    rw[Zc3 hn ha e] at k
    exact k H (Same.refl H)
  rintro σ H' ⟨v5,rfl,rfl,ha⟩
  rw[hlen] at ha
  rw[Zeb ha,xG] at k
  have hcom:∀i n,ps[i]? = some n->∃d,Zk ds n=some d:=fun i n hi=>by
   have:=ha i (xF.mp hi).1 n hi
   unfold Z9 at this
   cases e:Zk ds n with
   | none=>rw[if_pos e] at this;cases this
   | some d=>exact⟨d,rfl⟩
  try dsimp only
  refine Ze5 (fun H'=>Same H H'/\th.bind (Vs m)=none) (fun kk=>?_) (fun H1 ⟨S1,e1⟩=>?_)
  ·cases th with
   | none=>exact⟨_,rfl,rfl,_,rfl,Zt (kk H ⟨Same.refl H,rfl⟩)⟩
   | some i =>
    refine⟨_,rfl,rfl,_,rfl,Z5 ⟨_,rfl,M.p,dm,_,rfl,obm,Z8 _ (by decide +kernel),_,rfl,M,ds,wa,xs,m,qs,i,rfl,W,hth i rfl,?_⟩⟩
    rw[yW] at k
    cases e:Vs m i with
    | none=>exact kk H ⟨Same.refl H,e⟩
    | some x=>rw[e] at k;exact k H (Same.refl H)
  rw[e1,xG] at k
  have W1:=W.same S1
  try dsimp only
  refine Ze5 (fun H'=>Same H H'/\(oa.bind fun p=>Wz m.trials p.1 p.2)=none) (fun kk=>?_) (fun H2 ⟨S2,e2⟩=>?_)
  ·cases oa with
   | none =>
    obtain rfl:=hoa
    exact⟨_,rfl,rfl,_,rfl,Zt (kk H1 ⟨S1,rfl⟩)⟩
   | some p =>
    obtain⟨hi,hn,a,rfl,ha⟩:=hoa
    obtain⟨ts,t1,t2,_⟩:=(W1.ls (M.lt,m.trials.map Ws) (by simp[Mo.at_])).get
    refine⟨_,rfl,rfl,_,rfl,Z5 ⟨_,rfl,M.p,CM,dm,_,_,rfl,S1 _ _ obm,Tm.cl,Tm.nt,Zaw _,_,rfl,a,_,0,_,rfl,rfl,SqT.of (S1 _ _ ha),rfl,_,rfl,a,_,1,_,rfl,rfl,SqT.of (S1 _ _ ha),rfl,?_⟩⟩
    refine⟨M.lt,m.trials,p.1,p.2,rfl,⟨ts,t1,t2⟩,ok.ok,hi,hn,fun H' S'=>?_⟩
    rw[yW] at k
    cases e:Wz m.trials p.1 p.2 with
    | none=>exact kk H' ⟨S1.trans S',e⟩
    | some x=>rw[e] at k;exact k H' (S1.trans S')
  rw[e2,xG] at k
  have W2:=W.same S2
  have F2:=W2.fk.f
  refine⟨_,rfl,pl,rfl,⟨_,SqL.of (S2 _ _ hpl)⟩,?_⟩
  refine Ug (ps.map V.str) (fun i σ H'=>∃v5:Option V,σ = [some (.ref M.p),some (.int day),some (.ref pl),some (thV th),some v2,v5]/\H2=H'/\∀j < i,∀y,ps[j]? = some y->Yc ((Zk ds y).getD 0) day=none) ⟨v5,rfl,rfl,fun j hj=>absurd hj (by lia)⟩ (fun i σ H' _ ⟨_,_,e,_⟩=>by rw[← e];exact SqL.of (S2 _ _ hpl)) ?_ ?_
  ·rintro i v σ H' hv ⟨v5,rfl,rfl,ha⟩
   obtain⟨n,rfl,hn,hl⟩:=hget hv
   obtain⟨d,hc⟩:=hcom i n hn
   refine⟨_,rfl,M.p,CM,dm,_,_,rfl,S2 _ _ obm,Tm.cl,Tm.nf,Ua _,M.L.p,dx,_,rfl,S2 _ _ ob,Ys _ _ _ _ (by decide +kernel),_,rfl,_,rfl,M.L,ds,n,d,day,rfl,F2,hc,hl,hd,?_⟩
   have eq:Yc ((Zk ds n).getD 0) day=Yc d day:=by rw[hc];rfl
   cases e:Yc d day with
   | none=>exact⟨_,rfl,rfl,Zec hn ha (eq.trans e)⟩
   | some x =>
    rw[Zc3 hn ha (eq.trans e)] at k
    exact k H2 S2
  rintro σ H' ⟨v5,rfl,rfl,hb⟩
  rw[hlen] at hb
  rw[Zeb hb,xG] at k
  try dsimp only
  refine Ze5 (fun H'=>Same H H'/\(th.bind fun i=>Yc (brD m i) day)=none) (fun kk=>?_) (fun H3 ⟨S3,e3⟩=>?_)
  ·cases th with
   | none=>exact⟨_,rfl,rfl,_,rfl,Zt (Zt (kk H2 ⟨S2,rfl⟩))⟩
   | some i =>
    obtain⟨vs,b1,b2,b3⟩:=(W2.ls (M.lb,m.brs) (by simp[Mo.at_])).get
    dsimp only at b1 b2 b3
    have hin:inB i m.brs.length:=by
     rw[yW] at e1
     unfold Vs at e1
     by_cases z:inB i m.brs.length
     ·exact z
     ·rw[if_neg z] at e1;cases e1
    obtain⟨j,rfl⟩:=yK hin.1
    have hj:j < vs.length:=by have:=hin.2;lia
    obtain⟨e,he,re⟩:=b2.get (xC hj)
    obtain⟨x,d,rfl⟩:=ok.br j e he
    obtain⟨a,us,ea,ha,⟨_,_,rfl,rfl,⟨_,_,rfl,rfl,rfl⟩⟩⟩:=re
    have hbr:brD m (j:Int)=d:=by unfold brD;rw[yN,he]
    rw[yW,hbr] at k
    refine⟨_,rfl,rfl,_,rfl,Z5 ⟨_,rfl,_,rfl,M.p,CM,dm,_,_,rfl,S2 _ _ obm,Tm.cl,Tm.nb,Zcz _,_,rfl,M.lb,vs,j,_,rfl,rfl,SqL.of b1,Va (xC hj),a,_,1,_,ea,rfl,SqT.of ha,rfl,_,_,rfl,rfl,_,rfl,Yg (fun z=>?_) (fun z=>?_)⟩⟩
    ·have e:Yc d day=some "NotYet" := if_pos z
     rw[e] at k
     exact⟨by decide +kernel,_,rfl,.inr ⟨_,rfl,Wj (hth _ rfl)⟩,by decide +kernel,_,rfl,.inr ⟨_,rfl,Wj hd⟩,fun _=>k H2 S2⟩
    ·exact kk H2 ⟨S2,by rw[yW,hbr];exact if_neg z⟩
  rw[e3,xG] at k
  have W3:=W.same S3
  try dsimp only
  refine Ze5 (fun H'=>Same H H'/\(oa.bind fun p=>Yc (m.days.getD p.1.toNat 0) day)=none) (fun kk=>?_) (fun H4 ⟨S4,e4⟩=>?_)
  ·cases oa with
   | none =>
    obtain rfl:=hoa
    exact⟨_,rfl,rfl,_,rfl,Zt (Zt (kk H3 ⟨S3,rfl⟩))⟩
   | some p =>
    obtain⟨i,n⟩:=p
    obtain⟨hi,hn,a,rfl,ha⟩:=hoa
    obtain⟨vs,y1,y2,y3⟩:=(W3.ls (M.ly,m.days.map D.int) (by simp[Mo.at_])).get
    dsimp only at y1 y2 y3
    rw[xB] at y3
    have hin:inB i m.trials.length:=by
     rw[yW] at e2
     unfold Wz at e2
     by_cases z:inB i m.trials.length
     ·exact z
     ·split at e2
      ·rw[if_neg z] at e2;cases e2
      ·cases e2
    obtain⟨j,rfl⟩:=yK hin.1
    have hj:j < vs.length:=by have:=hin.2;have:=ok.dl;lia
    obtain⟨e,he,re⟩:=y2.get (xC hj)
    rw[xO] at he
    obtain⟨d,hd1,rfl⟩:=xZ.mp he
    have re:vs[j]= .int d:=re
    have hdd:m.days.getD (j:Int).toNat 0=d:=by rw[yN,xS,hd1];rfl
    rw[yW] at k
    dsimp only at k
    rw[hdd] at k
    refine⟨_,rfl,rfl,_,rfl,Z5 ⟨_,rfl,_,rfl,M.p,CM,dm,_,_,rfl,S3 _ _ obm,Tm.cl,Tm.ny,Znf _,_,rfl,a,_,0,_,rfl,rfl,SqT.of (S3 _ _ ha),rfl,M.ly,vs,j,.int d,rfl,rfl,SqL.of y1,re▸Va (xC hj),_,_,rfl,rfl,_,rfl,Yg (fun z=>?_) (fun z=>?_)⟩⟩
    ·have e:Yc d day=some "NotYet" := if_pos z
     rw[e] at k
     exact⟨by decide +kernel,_,rfl,.inr ⟨_,rfl,Wj hd⟩,fun _=>k H3 S3⟩
    ·exact kk H3 ⟨S3,by rw[yW];dsimp only;rw[hdd];exact if_neg z⟩
  rw[e4,xG] at k
  have W4:=W.same S4
  have F4:=W4.fk.f
  refine⟨_,rfl,pl,rfl,⟨_,SqL.of (S4 _ _ hpl)⟩,?_⟩
  refine Ug (ps.map V.str) (fun i σ H'=>∃v5:Option V,σ = [some (.ref M.p),some (.int day),some (.ref pl),some (thV th),some v2,v5]/\H4=H'/\∀j < i,∀y,ps[j]? = some y->Wu ds y day=none) ⟨v5,rfl,rfl,fun j hj=>absurd hj (by lia)⟩ (fun i σ H' _ ⟨_,_,e,_⟩=>by rw[← e];exact SqL.of (S4 _ _ hpl)) ?_ ?_
  ·rintro i v σ H' hv ⟨v5,rfl,rfl,ha⟩
   obtain⟨n,rfl,hn,hl⟩:=hget hv
   refine⟨_,rfl,M.p,CM,dm,_,_,rfl,S4 _ _ obm,Tm.cl,Tm.nf,Ua _,M.L.p,dx,_,rfl,S4 _ _ ob,Ys _ _ _ _ (by decide +kernel),_,rfl,_,rfl,M.L,ds,n,day,rfl,F4,hl,hd,?_⟩
   cases e:Wu ds n day with
   | none=>exact⟨_,rfl,rfl,Zec hn ha e⟩
   | some x =>
    rw[Zc3 hn ha e] at k
    exact k H4 S4
  rintro σ H' ⟨v5,rfl,rfl,hg⟩
  rw[hlen] at hg
  rw[Zeb hg] at k
  exact k _ S4
end
section
variable{P:Program}{w:World}{K:uFg}{mg:Str->Option Value}{base:Heap}{C CM:Addr}{c:Str->Addr}
def wOk(ds:List Deed)(day:Int)(f:Str->Int)(n:Str):Prop:=∃d,Zk ds n=some d/\d<=day/\IsW (kw ds n) day (f n)
def Zfu(C CM:Addr):Sp:=fun vs H Q _=>∃(M:ML)(ds:List Deed)(wa:Str->Addr)(xs:List Addr)(m:Mo)(qs:List Addr)(nl:Addr)(ns:List Str)(day:Int)(f:Str->Int),vs = [.ref M.p,.ref nl,.int day]/\MootAt C CM H M ds wa xs m qs/\ds.length<=1000/\H nl=some (.lst (ns.map V.str))/\ns.length<=60/\0<=day/\day<=9999 /\
 (∀n∈ns,wOk ds day f n)/\∀(l:Addr)(us:List V)(H':Hp),H l=none->Same H H'->H' l=some (.lst us)->RepS H' (ns.map fun n=>(n,f n)) us->Q (.ref l) H'
abbrev Zdd:Stmt:=Ym (top 58) 38
theorem Z2z:FnScope ["self", "names", "day"] ["self", "names", "day"] (Zh Zdd):=fsc
theorem Nq5:Nm (Zh Zdd) "day" .cell:=by decide +kernel
theorem Nq6:Nm (Zh Zdd) "self" .cell:=by decide +kernel
theorem Zsr(Ziq:HasM K CM "weighed" "Moot.weighed" Zdd)(Tc:TxC K C)(Tm:TxCMoot K CM)(M_weight:Mt P w K mg base C "weight" ["self", "name", "day"] 2 (Zm9 C)):Mt P w K mg base CM "weighed" ["self", "names", "day"] 3 (Zfu C CM):=by
 refine Ziq.mtQ Z2z (fun _ _ _ _ _ _=>al3 fun _ _ _=>rfl) (fun vs H Q E h=>?_) (fun f cdv A outer s H vs Q E hr h=>?_)
 ·obtain⟨M,ds,wa,xs,m,qs,nl,ns,day,f,rfl,_⟩:=h
  rfl
 ·obtain⟨M,ds,wa,xs,m,qs,nl,ns,day,f,rfl,W,hds,hnl,hlen,h0,h1,hw,k⟩:=h
  refine⟨_,(Zf (Zu (Ur (locs:=["name"]) (fr:=[("self", 0),("day", 2)]) ⟨rfl,by decide +kernel,by decide +kernel,by decide +kernel,by decide +kernel,by decide +kernel⟩ (.consN Nq6 (.consN Nq5 .nil)) rfl (Vb (qvN 1)) ⟨fun _ _ _ _ _ _=>by
  have cnd:(inN ["name"] [("self", 0),("day", 2)]).Nodup:=by decide +kernel
  exact⟨(Vw 0 cnd),Zb2,(Zs (Za (Vc 0) (Za (Yw (Zxj (Zbp 1)) Tc.cl M_weight (Za (Vc 0) (Za (Zbp 2) Zb))) Zb)))⟩⟩))),?_⟩
  have hz:(60:Nat)<=sizeLine:=by decide
  obtain⟨dm,obm⟩:=W.ob
  obtain⟨dx,ob⟩:=W.fk.f.ob
  refine⟨_,rfl,nl,rfl,⟨_,SqL.of hnl⟩,?_⟩
  refine Zds (xs:=ns.map V.str) (fun i ys H'=>Same H H'/\RepS H' ((ns.take i).map fun n=>(n,f n)) ys) ⟨Same.refl H,rfl⟩ (by rw[xB];lia) (fun i ys H' _ ⟨e,_⟩=>SqL.of (e _ _ hnl)) ?_ ?_ ?_
  ·rintro i ys H' ⟨_,r⟩
   rw[r.len,xB,xX];lia
  ·rintro i x ys H' hx ⟨S,r⟩ ls hls
   obtain⟨u,rfl⟩:=Zch hls
   rw[xO] at hx
   obtain⟨n,hn,rfl⟩:=xZ.mp hx
   obtain⟨d,hc,hd,hi⟩:=hw n (xI hn)
   have W1:=W.same S
   refine⟨⟨[_],rfl,rfl⟩,Z5 ?_⟩
   refine⟨_,rfl,_,rfl,M.p,CM,dm,_,_,rfl,S _ _ obm,Tm.cl,Tm.nf,Ua _,M.L.p,dx,_,rfl,S _ _ ob,Ys _ _ _ _ (by decide +kernel),_,rfl,_,rfl,M.L,ds,wa,n,day,d,f n,rfl,W1.fk.f,W1.fk.w,hds,h0,h1,hc,hd,hi,fun H2 S2=>?_⟩
   refine⟨by show 2<=sizeLine;decide,fun q hq=>⟨(S.trans S2).trans (Same.new hq),?_⟩⟩
   rw[yP,hn,xV]
   exact RepS.snoc (p:=(n,f n)) Zg (RepS.mono (Same.t (S2.trans (Same.new hq))) r)
  ·rintro ys H' ⟨S,r⟩ l hl
   rw[xB,yU] at r
   exact k l ys _ (S.free hl) (S.trans (Same.new hl)) Zg (RepS.mono (Same.t (Same.new hl)) r)
end
section
variable{P:Program}{w:World}{K:uFg}{mg:Str->Option Value}{base:Heap}{C CM:Addr}{c:Str->Addr}
def Zcq(m:Mo)(n:Str)(i:Nat):Bool:=match (m.trials[i]?).bind (·.named) with
 | some p=>decide (p.2=n) && m.verd.getD i false && decide ((m.pen n).getD 0<=(i:Int))
 | none=>false
def Zbm(m:Mo)(k:Nat)(n:Str):Bool:=(List.range k).any (Zcq m n)
def Zcr(m:Mo)(n:Str):Bool:=Zbm m m.trials.length n
theorem Zld(m:Mo)(k:Nat)(n:Str):Zbm m (k+1) n=(Zbm m k n || Zcq m n k):=by
 unfold Zbm
 rw[List.range_succ,List.any_append]
 simp
def Znh(C CM:Addr):Sp:=fun vs H Q _=>∃(M:ML)(ds:List Deed)(wa:Str->Addr)(xs:List Addr)(m:Mo)(qs:List Addr),vs = [.ref M.p]/\MootAt C CM H M ds wa xs m qs/\m.verd.length=m.trials.length/\m.trials.length<=60 /\
 ∀(g:Addr)(kvs:List (Key×V))(H':Hp),H g=none->Same H H'->H' g=some (.dK kvs)->(∀n:Str,(Zx kvs (.inr n)).isSome=Zcr m n)->Q (.ref g) H'
abbrev Zir:Stmt:=Ym (top 58) 37
theorem Z20:FnScope ["self", "names", "case", "suit", "oath"] ["self"] (Zh Zir):=fsc
theorem Zrd(Zis:HasM K CM "forsworn_names" "Moot.forsworn_names" Zir)(T:Txt mg)(Tm:TxCMoot K CM)(C3:∃t,mg "NAMED" = some (.int 3 t)):Mt P w K mg base CM "forsworn_names" ["self"] 1 (Znh C CM):=by
 obtain⟨t3,c_NAMED⟩:=C3
 have r_NAMED:RelV (.int 3) (.int 3 t3):=⟨t3,rfl⟩
 refine Zis.mtQ Z20 (fun _ _ _ _ _ _=>al1 fun _=>rfl) (fun vs H Q E h=>?_) (fun f cdv A outer s H vs Q E hr h=>?_)
 ·obtain⟨M,ds,wa,xs,m,qs,rfl,_⟩:=h
  rfl
 ·obtain⟨M,ds,wa,xs,m,qs,rfl,W,hv,hle,k⟩:=h
  refine⟨_,(Ze (Z4 1 Zbz)
 (Ze (Vf PassesOwn.never rfl (Zm1 T.enumerate (Za (Zq (qvN 0)) Zb)) (Zn1 (by rfl) (Wk (Yt 2) (Wk (Yt 3) Zaq)))
 (Ze (Z4 4 (Zl Z2 (qvN 3) (Yy c_NAMED r_NAMED) (fun _ _=>rfl)))
 (Zf (Zp (QW.pt (Zc4 (Zv Zbh (qvN 4) Y9 (Z1 _)) (Zc4 (Vh (Zl Yu (Zq (qvN 0)) (qvN 2) (fun _ _=>rfl))) (Zd3 (Zv Zab (qvN 2) (Zl9 hr (Zq (qvN 0)) (Zl Z2 (qvN 4) Zd (fun _ _=>rfl)) Zd) (Z1 _)))))) (Zf (Zac hr (qvN 1) (Zl Z2 (qvN 4) Zd (fun _ _=>rfl)) Vq)) Zo))))
 (Zf (Zu (qvN 1))))),?_⟩
  have hz:(5000:Nat)<=sizeLine:=by decide
  obtain⟨dm,obm⟩:=W.ob
  refine fun g hg=>?_
  have Sg:=Same.new (o:=.dK []) hg
  have kg:(upd H g (.dK [])) g=some (.dK []):=Zg
  generalize (upd H g (.dK []))=H1 at Sg kg ⊢
  refine Yb ?_
  have W1:=W.same Sg
  obtain⟨ts,t1,t2,t3'⟩:=(W1.ls (M.lt,m.trials.map Ws) (by simp[Mo.at_])).get
  obtain⟨bs,v1,v2,v3⟩:=(W1.ls (M.lv,m.verd.map D.bl) (by simp[Mo.at_])).get
  dsimp only at t1 t2 t3' v1 v2 v3
  rw[xB] at t3' v3
  obtain⟨pk,p1,p2,p3⟩:=W1.pn
  have ngp:∀{o:HO}{b:Addr},H b=some o->b≠g:=fun e z=>by rw[z,hg] at e;cases e
  refine⟨_,rfl,M.p,CM,dm,_,_,rfl,Sg _ _ obm,Tm.cl,Tm.nt,Zaw _,M.lt,ts,rfl,SqL.of t1,?_⟩
  refine Ztq ts (fun i σ H'=>∃(v2 v3 v4:Option V)(kvs:List (Key×V)),σ = [some (.ref M.p),some (.ref g),v2,v3,v4]/\Same H H'/\H' g=some (.dK kvs)/\(∀b o,b≠g->H1 b=some o->H' b=some o)/\kvs.length<=i/\∀n:Str,(Zx kvs (.inr n)).isSome=Zbm m i n) ⟨none,none,none,[],rfl,Sg,kg,fun _ _ _ e=>e,yJ _,fun _=>rfl⟩
   (fun i σ H' _ ⟨_,_,_,_,_,_,_,k1,_⟩=>SqL.of (k1 _ _ (ngp ((W.ls (M.lt,m.trials.map Ws) (by simp[Mo.at_])).get.choose_spec.1)) t1)) ?_ ?_
  ·rintro i x p σ H' hx ⟨v2',v3',v4',kvs,rfl,S,kk,k1,hk,hf⟩ hp
   have Sp:=Same.new (o:=.tup [.int i,x]) hp
   have kp:(upd H' p (.tup [.int i,x])) p=some (.tup [.int i,x]):=Zg
   generalize (upd H' p (.tup [.int i,x]))=H2 at Sp kp ⊢
   have hi:i < ts.length:=(xF.mp hx).1
   obtain⟨t,ht⟩:∃t,m.trials[i]? = some t:=⟨_,xC (by lia)⟩
   obtain⟨vb,hvb⟩:∃vb,m.verd[i]? = some vb:=⟨_,xC (by lia)⟩
   obtain⟨ta,u1,u2,u4,hu,hta,_,_,h4⟩:=SuitsAt.get (l:=M.lt) t2 ht
   rw[hu] at hx
   cases hx
   have k2:∀b o,b≠g->H1 b=some o->H2 b=some o:=fun b o n e=>Sp _ _ (k1 b o n e)
   have kt:∀{b us},H1 b=some (.tup us)->H2 b=some (.tup us):=fun {b us} e=>k2 b _ (fun z=>by rw[z,kg] at e;cases e) e
   have hvd:m.verd.getD i false=vb:=by rw[xS,hvb];rfl
   refine⟨p,_,rfl,SqT.of kp,rfl,_,_,rfl,_,_,rfl,rfl,?_⟩
   refine⟨_,rfl,ta,_,3,u4,rfl,rfl,SqT.of (kt hta),rfl,?_⟩
   have stay:(∀n,Zcq m n i=false)->∃(v2 v3 v4:Option V)(kvs:List (Key×V)),[some (V.ref M.p),some (.ref g),some (.int i),some (.ref ta),some u4]= [some (.ref M.p),some (.ref g),v2,v3,v4]/\Same H H2/\H2 g=some (.dK kvs)/\(∀b o,b≠g->H1 b=some o->H2 b=some o)/\kvs.length<=i+1/\∀n:Str,(Zx kvs (.inr n)).isSome=Zbm m (i+1) n:=fun z =>
    ⟨_,_,_,kvs,rfl,S.trans Sp,Sp _ _ kk,k2,by lia,fun n=>by rw[Zld,z,Bool.or_false];exact hf n⟩
   cases hn:t.named with
   | none =>
    rw[hn] at h4
    cases h4
    refine⟨_,rfl,rfl,_,rfl,Zt (Zt (stay fun n=>?_))⟩
    unfold Zcq;rw[ht,yW,hn]
   | some o =>
    rw[hn] at h4
    obtain⟨c0,n0⟩:=o
    obtain⟨b,bs',rfl,hb,⟨y1,r1,rfl,e1,⟨y2,r2,rfl,e2,e3⟩⟩⟩:=h4
    cases e1
    cases e2
    cases e3
    have hfb:∀n,Zcq m n i=(decide (n0=n) && vb && decide ((m.pen n).getD 0<=(i:Int))):=fun n=>by unfold Zcq;rw[ht,yW,hn,hvd]
    have ibs:i < bs.length:=by rw[v3];exact(xF.mp hvb).1
    obtain⟨e,he,re⟩:=v2.get (xC ibs)
    rw[xO,hvb] at he
    cases he
    have re:bs[i]= .bl vb:=re
    refine⟨_,rfl,rfl,_,rfl,Z5 ?_⟩
    refine⟨_,rfl,M.p,CM,dm,_,_,rfl,k2 _ _ (ngp obm) (Sg _ _ obm),Tm.cl,Tm.nv,Zxr _,_,rfl,M.lv,bs,i,.bl vb,rfl,rfl,SqL.of (k2 _ _ (fun z=>by rw[z,kg] at v1;cases v1) v1),re▸Va (xC ibs),vb,rfl,?_⟩
    cases vb with
    | false=>exact Zt (Zt (stay fun n=>by rw[hfb,Bool.and_false];rfl))
    | true =>
     refine Z5 ?_
     have ndp:M.dp≠g:=fun z=>by obtain⟨pk',q1,_⟩:=W.pn;rw[z,hg] at q1;cases q1
     have p1':=k2 _ _ ndp p1
     have gp:=DGet.k (k:=Sum.inr n0) p1'
     rw[p3] at gp
     refine⟨_,rfl,_,rfl,M.p,CM,dm,_,_,rfl,k2 _ _ (ngp obm) (Sg _ _ obm),Tm.cl,Tm.np,Zod _,M.dp,rfl,.inl ⟨pk,.inl p1'⟩,_,rfl,b,_,1,_,rfl,rfl,SqT.of (kt hb),rfl,_,gp,?_⟩
     have eo:(Option.map V.int (m.pen n0)).getD (.int 0)= .int ((m.pen n0).getD 0):=by cases m.pen n0<;>rfl
     rw[eo]
     refine⟨_,_,rfl,rfl,_,rfl,Yg (fun z=>?_) (fun z=>stay fun n=>?_)⟩
     ·refine⟨_,rfl,_,rfl,b,_,1,_,rfl,rfl,SqT.of (kt hb),rfl,g,_,rfl,DPut.k (k:=Sum.inr n0) (Sp _ _ kk) (by lia),?_⟩
      refine⟨_,_,_,Z0 kvs (.inr n0) (.bl true),rfl,fun b o e=>?_,Zg,fun b o n e=>by rw[Zc n];exact k2 b o n e,xT (Vv _ _ _) (by lia),fun n=>?_⟩
      ·rw[Zc (ngp e)];exact(S.trans Sp) b o e
      ·rw[Ue,Zld,hfb,← hf n]
       by_cases e:n=n0
       ·subst e;rw[if_pos rfl,yL rfl,yL z];simp
       ·rw[if_neg (fun y=>e (by injection y)),yI (fun y=>e y.symm)];simp
     ·rw[hfb]
      by_cases e:n0=n
      ·subst e;rw[yI z,Bool.and_false]
      ·rw[yI e];rfl
  ·rintro σ H' ⟨v2',v3',v4',kvs,rfl,S,kk,k1,hk,hf⟩
   rw[t3'] at hf
   exact⟨_,rfl,k g kvs H' hg S kk hf⟩
end
section
variable{P:Program}{w:World}{K:uFg}{mg:Str->Option Value}{base:Heap}{C CM:Addr}{c:Str->Addr}
abbrev Yn(f:Str->Int)(ns:List Str):Yv:=ns.map fun n=>(n,f n)
def Vi(m:Mo)(need:Int)(f:Str->Int)(o1 o2:List Str):Option Str :=
 if 60<=m.trials.length then some "TooMany" else if 12 < max o1.length o2.length then some "TooMany" else (Yd m).or (if Zdj (o1++o2) < (o1++o2).length then some ("SwornTwice" : Str) else
  ((o1++o2).findSome? fun n=>if Zcr m n=true then some ("Forsworn" : Str) else none).or (if (wts (Yn f o1)).sum < need then some ("TooLight" : Str) else none))
def Zdx(C CM:Addr)(c:Str->Addr):Sp:=fun vs H Q E=>∃(M:ML)(ds:List Deed)(wa:Str->Addr)(xs:List Addr)(m:Mo)(qs:List Addr)(day need:Int)(l1 l2:Addr)(o1 o2:List Str)(f:Str->Int),vs = [.ref M.p,.int day,.int need,.ref l1,.ref l2]/\MootAt C CM H M ds wa xs m qs/\MoK m/\ds.length<=1000 /\
 H l1=some (.lst (o1.map V.str))/\H l2=some (.lst (o2.map V.str))/\o1.length<=60/\o2.length<=60/\0<=day/\day<=9999/\okI need/\(∀n∈o1++o2,n.length<=100/\wOk ds day f n/\1<=f n/\f n<=1000)/\∀H',Same H H'->due E c H' (Q .non H') (Vi m need f o1 o2)
abbrev Zit:Stmt:=Ym (top 58) 42
theorem Z21:FnScope ["self", "day", "need", "ones", "others", "barred", "name"] ["self", "day", "need", "ones", "others"] (Zh Zit):=fsc
theorem Zrl(Ziu:HasM K CM "check_sides" "Moot.check_sides" Zit)(T:Txt mg)(Tm:TxCMoot K CM)(er:Er K mg c errs)(C0:∃t,mg "MOST_CASES" = some (.int 60 t))(C1:∃t,mg "MOST_SWEARERS" = some (.int 12 t))(MM_check_moments:MtX P w K mg base CM "check_moments" 1 (Zag C CM c))(MM_forsworn_names:Mt P w K mg base CM "forsworn_names" ["self"] 1 (Znh C CM))(MM_weighed:Mt P w K mg base CM "weighed" ["self", "names", "day"] 3 (Zfu C CM))(Z22:Fn P w K mg base "total" ["side"] 1 Zna):MtX P w K mg base CM "check_sides" 4 (Zdx C CM c):=by
 obtain⟨t0,c_MOST_CASES⟩:=C0
 obtain⟨t1,c_MOST_SWEARERS⟩:=C1
 have r_MOST_CASES:RelV (.int 60) (.int 60 t0):=⟨t0,rfl⟩
 have r_MOST_SWEARERS:RelV (.int 12) (.int 12 t1):=⟨t1,rfl⟩
 refine Ziu.mtX Z21 (fun _ _ _ _ _ _=>al5 fun _ _ _ _ _=>rfl) (fun vs H Q E h=>?_) (fun f cdv A outer s H vs Q E hr h=>?_)
 ·obtain⟨M,ds,wa,xs,m,qs,day,need,l1,l2,o1,o2,f,rfl,_⟩:=h
  rfl
 ·obtain⟨M,ds,wa,xs,m,qs,day,need,l1,l2,o1,o2,f,rfl,W,ok,hds,h1,h2,n1,n2,d0,d1,hi,hw,k⟩:=h
  refine⟨_,(Ze (Zp (Zv Zab (Z7 Wl T.len Y0 (Za (Zq (qvN 0)) Zb)) (Yy c_MOST_CASES r_MOST_CASES) (Z1 _)) (Zf (Yz Yp er (Y2 (Yj (Yr (Yy c_MOST_CASES r_MOST_CASES) (Yj Y1)))))) Zo)
 (Ze (Zp (Zv Zn3 (Z7 (Zsh (by rfl)) T.max Zpb (Za (Z7 Wl T.len Y0 (Za (qvN 3) Zb)) (Za (Z7 Wl T.len Y0 (Za (qvN 4) Zb)) Zb))) (Yy c_MOST_SWEARERS r_MOST_SWEARERS) (Z1 _)) (Zf (Yz Yp er (Y2 (Yj (Yr (Yy c_MOST_SWEARERS r_MOST_SWEARERS) (Yj Y1)))))) Zo)
 (Ze (Zi (Zat Zw (qvN 0) Tm.cl MM_check_moments))
 (Ze (Zp (Zv Zaa (Ztu (by rfl) T.len T.set (Za (Zz Wp (qvN 3) (qvN 4)) Zb)) (Z7 Wl T.len Y0 (Za (Zz Wp (qvN 3) (qvN 4)) Zb)) (Z1 _)) (Zf (Yz Yp er Zn)) Zo)
 (Ze (Z4 5 (Zb7 (qvN 0) Tm.cl MM_forsworn_names))
 (Ze (Zc2 Zdk Yp (by rfl) (Vb (Zz Wp (qvN 3) (qvN 4))) (Yt 6)
 (fun hxq hxp=>(Zf (Zp (Zv (Zas hr) (qvN 6) (qvN 5) rfl) (Zf (Yz hxp er (Y2 (Yr (qvN 6) (Yj Y1))))) Zo))))
 (Zf (Zp (Zv Zaa (Z6 Z22 (Za (Yw (qvN 0) Tm.cl MM_weighed (Za (qvN 3) (Za (qvN 1) Zb))) Zb)) (qvN 2) (Z1 _)) (Zf (Yz Yp er (Y2 (Yj (Yr (qvN 2) Y1))))) Zo)))))))),?_⟩
  have hz:(5000:Nat)<=sizeLine:=by decide
  obtain⟨dm,obm⟩:=W.ob
  obtain⟨ts,t1,_,t3⟩:=(W.ls (M.lt,m.trials.map Ws) (by simp[Mo.at_])).get
  dsimp only at t1 t3
  rw[xB] at t3
  unfold Vi at k
  have e1:(o1.map V.str).length=o1.length:=xB ..
  have e2:(o2.map V.str).length=o2.length:=xB ..
  refine⟨_,rfl,M.p,CM,dm,_,_,rfl,obm,Tm.cl,Tm.nt,Zaw _,M.lt,ts,rfl,.inl (SqL.of t1),_,_,rfl,rfl,_,rfl,Yg (fun z=>?_) (fun z=>?_)⟩
  ·rw[if_pos (by lia)] at k
   exact⟨by decide +kernel,.inr ⟨60,rfl,by decide +kernel⟩,by decide +kernel,fun _=>k H (Same.refl H)⟩
  rw[if_neg (by lia)] at k
  refine⟨_,rfl,l1,_,rfl,.inl (SqL.of h1),_,rfl,l2,_,rfl,.inl (SqL.of h2),_,_,rfl,?_⟩
  have em:(if ((o2.map V.str).length:Int) > (o1.map V.str).length then ((o2.map V.str).length:Int) else (o1.map V.str).length)=((max o1.length o2.length:Nat):Int):=by rw[e1,e2];split<;>lia
  rw[em]
  refine⟨_,_,rfl,rfl,_,rfl,Yg (fun z=>?_) (fun z=>?_)⟩
  ·rw[if_pos (by lia)] at k
   exact⟨by decide +kernel,.inr ⟨12,rfl,by decide +kernel⟩,by decide +kernel,fun _=>k H (Same.refl H)⟩
  rw[if_neg (by lia)] at k
  refine⟨_,rfl,M.p,dm,_,rfl,obm,Z8 _ (by decide +kernel),M,ds,wa,xs,m,qs,rfl,W,?_⟩
  cases em:Yd m with
  | some x=>rw[em] at k;exact k H (Same.refl H)
  | none =>
  rw[em,xG] at k
  have ec:o1.map V.str++o2.map V.str=(o1++o2).map V.str:=xV.symm
  refine⟨_,rfl,_,rfl,l1,l2,_,_,rfl,rfl,h1,h2,by rw[e1,e2];lia,fun q hq=>?_⟩
  rw[ec]
  have S1:=Same.new (o:=.lst ((o1++o2).map V.str)) hq
  have k1:(upd H q (.lst ((o1++o2).map V.str))) q=some (.lst ((o1++o2).map V.str)):=Zg
  generalize (upd H q (.lst ((o1++o2).map V.str)))=H1 at S1 k1 ⊢
  refine⟨q,o1++o2,rfl,SqL.of k1,by rw[xN];lia,?_⟩
  refine⟨_,rfl,_,rfl,l1,l2,_,_,rfl,rfl,S1 _ _ h1,S1 _ _ h2,by rw[e1,e2];lia,fun q2 hq2=>?_⟩
  rw[ec]
  have S2:=S1.trans (Same.new (o:=.lst ((o1++o2).map V.str)) hq2)
  have k2:(upd H1 q2 (.lst ((o1++o2).map V.str))) q2=some (.lst ((o1++o2).map V.str)):=Zg
  generalize (upd H1 q2 (.lst ((o1++o2).map V.str)))=H2 at S2 k2 ⊢
  refine⟨q2,_,rfl,.inl (SqL.of k2),_,_,rfl,rfl,_,rfl,Yg (fun z=>?_) (fun z=>?_)⟩
  ·rw[if_pos (by rw[xB] at z;lia)] at k
   exact k H2 S2
  rw[if_neg (by rw[xB] at z;lia)] at k
  refine⟨_,rfl,M.p,dm,_,rfl,S2 _ _ obm,Z8 _ (by decide +kernel),M,ds,wa,xs,m,qs,rfl,W.same S2,ok.vl,ok.le,fun g kvs H3 hg S3' kg hf=>?_⟩
  have S3:=S2.trans S3'
  refine Yb ?_
  refine⟨_,rfl,_,rfl,l1,l2,_,_,rfl,rfl,S3 _ _ h1,S3 _ _ h2,by rw[e1,e2];lia,fun q3 hq3=>?_⟩
  rw[ec]
  have S4':=Same.new (o:=.lst ((o1++o2).map V.str)) hq3
  have S4:=S3.trans S4'
  have kg4:=S4' _ _ kg
  have k4:(upd H3 q3 (.lst ((o1++o2).map V.str))) q3=some (.lst ((o1++o2).map V.str)):=Zg
  generalize (upd H3 q3 (.lst ((o1++o2).map V.str)))=H4 at S4 k4 kg4 ⊢
  refine⟨q3,rfl,⟨_,SqL.of k4⟩,?_⟩
  refine Ug ((o1++o2).map V.str) (fun i σ H'=>∃v6:Option V,σ = [some (.ref M.p),some (.int day),some (.int need),some (.ref l1),some (.ref l2),some (.ref g),v6]/\H4=H'/\∀j < i,∀y,(o1++o2)[j]? = some y->(if Zcr m y=true then some ("Forsworn" : Str) else none)=none) ⟨none,rfl,rfl,fun j hj=>absurd hj (by lia)⟩ (fun i σ H' _ ⟨_,_,e,_⟩=>by rw[← e];exact SqL.of k4) ?_ ?_
  ·rintro i v σ H' hv ⟨v6,rfl,rfl,ha⟩
   rw[xO] at hv
   obtain⟨n,hn,rfl⟩:=xZ.mp hv
   refine⟨_,rfl,_,rfl,g,_,rfl,DGet.k (k:=Sum.inr n) kg4,_,rfl,?_⟩
   have hfn:=hf n
   cases e:Zx kvs (.inr n) with
   | none =>
    rw[e] at hfn
    exact Zt ⟨_,rfl,rfl,Zec hn ha (if_neg (by rw[← hfn];decide))⟩
   | some v =>
    rw[e] at hfn
    rw[Zc3 (f:=fun n=>if Zcr m n=true then some ("Forsworn" : Str) else none) hn ha (if_pos hfn.symm)] at k
    exact Z5 ⟨_,rfl,.inl ⟨n,rfl,by have:=(hw n (xI hn)).1;lia⟩,by decide +kernel,fun _=>k H4 S4⟩
  rintro σ H' ⟨v6,rfl,rfl,ha⟩
  rw[xB] at ha
  rw[Zeb (f:=fun n=>if Zcr m n=true then some ("Forsworn" : Str) else none) ha,xG] at k
  try dsimp only
  refine⟨_,rfl,M.p,dm,_,rfl,S4 _ _ obm,Z8 _ (by decide +kernel),_,rfl,_,rfl,M,ds,wa,xs,m,qs,l1,o1,day,f,rfl,W.same S4,hds,S4 _ _ h1,n1,d0,d1,fun n hn=>(hw n (yX _ hn)).2.1,fun l us H5 hl S5' kl rs=>?_⟩
  refine⟨.ref l,Yn f o1,rfl,⟨l,us,rfl,kl,rs⟩,⟨fun p hp=>?_,by rw[xB];exact n1⟩,fun H6 S6=>?_⟩
  ·obtain⟨n,hn,rfl⟩:=zC.mp hp
   exact(hw n (yX _ hn)).2.2
  have S:=(S4.trans S5').trans S6
  refine⟨_,rfl,_,_,rfl,rfl,_,rfl,Yg (fun z=>?_) (fun z=>?_)⟩
  ·rw[if_pos z] at k
   exact⟨by decide +kernel,_,rfl,.inr ⟨_,rfl,Wj hi⟩,fun _=>k H6 S⟩
  ·rw[if_neg z] at k
   exact k H6 S
end
section
variable{P:Program}{w:World}{K:uFg}{mg:Str->Option Value}{base:Heap}{C CM:Addr}
def Zah(M:ML)(ds:List Deed)(wa:Str->Addr)(xs qs:List Addr)(H H':Hp):Prop:=∀b o,H b=some o->¬mo M ds wa xs qs b->H' b=some o
def MFresh(M:ML)(ds:List Deed)(wa:Str->Addr)(xs qs:List Addr)(M':ML)(ds':List Deed)(wa':Str->Addr)(xs' qs':List Addr)(H:Hp):Prop:=∀b,mo M' ds' wa' xs' qs' b->mo M ds wa xs qs b\/H b=none
theorem MFresh.folk{M:ML}{ds ds':List Deed}{wa wa':Str->Addr}{xs qs:List Addr}{H:Hp}(f:Zdb M.L ds wa ds' wa' H):MFresh M ds wa xs qs M ds' wa' xs qs H:=fun b hb=>by
 rcases hb with z | z | z | z | z
 ·exact .inl (.inl z)
 ·exact .inl (.inr (.inl z))
 ·exact .inl (.inr (.inr (.inl z)))
 ·exact .inl (.inr (.inr (.inr (.inl z))))
 ·exact(f b z).imp (fun z=>.inr (.inr (.inr (.inr z)))) id
theorem Zax{M:ML}{ds:List Deed}{wa:Str->Addr}{xs qs:List Addr}:mo M ds wa xs qs M.ld:=.inr (.inr (.inl (by simp[ML.ls])))
end
section
variable{P:Program}{w:World}{K:uFg}{mg:Str->Option Value}{base:Heap}{C CM:Addr}{c:Str->Addr}
theorem Zzn(M:ML):(Wi M).length < 1000:=show 9 < 1000 by decide
def Mo.tried(m:Mo)(day:Int)(t:Suit):Mo:={m with trials:=m.trials ++ [t],days:=m.days ++ [day],verd:=(Wc [] 0 (m.trials ++ [t])).1 }
theorem oaV.rep{xs:List Addr}{H:Hp}{oa:Option (Int×Str)}{v:V}(h:oaV H oa v):Rep (fz xs H) (Zc6 oa) v:=by
 cases oa with
 | none=>exact h
 | some p=>obtain⟨_,_,a,e,ha⟩:=h;exact⟨a,_,e,Wd ha,⟨_,_,rfl,rfl,⟨_,_,rfl,rfl,rfl⟩⟩⟩
theorem oaV.same{H H':Hp}{oa:Option (Int×Str)}{v:V}(h:oaV H oa v)(k:Same H H'):oaV H' oa v:=by
 cases oa with
 | none=>exact h
 | some p=>obtain⟨a1,a2,a,e,ha⟩:=h;exact⟨a1,a2,a,e,k _ _ ha⟩
theorem RepS.fz{H:Hp}{xs:List Addr}{sd:Yv}{us:List V}(r:RepS H sd us):RepL (fz xs H) (sd.map Ze4) us:=(RepS.mono (fun _ _ e=>Wd e) r).rep
def Ze6(C CM:Addr):Sp:=fun vs H Q _=>∃(M:ML)(ds:List Deed)(wa:Str->Addr)(xs:List Addr)(m:Mo)(qs:List Addr)(day need:Int)(l1 l2:Addr)(o1 o2:List Str)(f:Str->Int)(oa:Option (Int×Str))(v2:V),vs = [.ref M.p,.int day,.int need,.ref l1,.ref l2,v2]/\MootAt C CM H M ds wa xs m qs/\MoK m/\m.trials.length < 60/\ds.length<=1000 /\
 H l1=some (.lst (o1.map V.str))/\H l2=some (.lst (o2.map V.str))/\o1.length<=60/\o2.length<=60/\0<=day/\day<=9999/\1<=need/\need<=12000/\(∀n∈o1++o2,wOk ds day f n/\1<=f n/\f n<=1000)/\oaV H oa v2 /\
 ∀(lv s1 s2:Addr)(H':Hp),MootAt C CM H' (M.setv lv) ds wa (s1::s2::xs) (m.tried day ⟨Yn f o1,Yn f o2,need,oa⟩) qs->Zah M ds wa xs qs H H'->MFresh M ds wa xs qs (M.setv lv) ds wa (s1::s2::xs) qs H->Q (.int m.trials.length) H'
abbrev Ziv:Stmt:=Ym (top 58) 39
theorem Z23:FnScope ["self", "day", "need", "ones", "others", "oath"] ["self", "day", "need", "ones", "others", "oath"] (Zh Ziv):=fsc
theorem Zr2(Ziw:HasM K CM "try_case" "Moot.try_case" Ziv)(T:Txt mg)(Tm:TxCMoot K CM)(MM_weighed:Mt P w K mg base CM "weighed" ["self", "names", "day"] 3 (Zfu C CM))(Zh8:Fn P w K mg base "settled" ["suits"] 4 Zgr):Mt P w K mg base CM "try_case" ["self", "day", "need", "ones", "others", "oath"] 5 (Ze6 C CM):=by
 refine Ziw.mtQ Z23 (fun _ _ _ _ _ _=>al6 fun _ _ _ _ _ _=>rfl) (fun vs H Q E h=>?_) (fun f cdv A outer s H vs Q E hr h=>?_)
 ·obtain⟨M,ds,wa,xs,m,qs,day,need,l1,l2,o1,o2,f,oa,v2,rfl,_⟩:=h
  rfl
 ·obtain⟨M,ds,wa,xs,m,qs,day,need,l1,l2,o1,o2,f,oa,v2,rfl,W,ok,hlt,hds,h1,h2,n1,n2,d0,d1,e0,e1,hw,hoa,k⟩:=h
  refine⟨_,(Ze (Zi (Wf F.plainAttrs_list F.slot_list_append F.type_list_append Wm (Zq (qvN 0)) (Za (Zs (Za (Yw (qvN 0) Tm.cl MM_weighed (Za (qvN 3) (Za (qvN 1) Zb))) (Za (Yw (qvN 0) Tm.cl MM_weighed (Za (qvN 4) (Za (qvN 1) Zb))) (Za (qvN 2) (Za (qvN 5) Zb))))) Zb)))
 (Ze (Zi (Wf F.plainAttrs_list F.slot_list_append F.type_list_append Wm (Zq (qvN 0)) (Za (qvN 1) Zb)))
 (Ze (Vr (qvN 0) (Z6 Zh8 (Za (Zq (qvN 0)) Zb)))
 (Zf (Zu (Zz Zb1 (Z7 Wl T.len Y0 (Za (Zq (qvN 0)) Zb)) Zd)))))),?_⟩
  have hz:(5000:Nat)<=sizeLine:=by decide
  obtain⟨dm,obm⟩:=W.ob
  obtain⟨ts,t1,_,t3⟩:=(W.ls (M.lt,m.trials.map Ws) (by simp[Mo.at_])).get
  dsimp only at t1 t3
  rw[xB] at t3
  refine⟨_,rfl,M.p,CM,dm,_,_,rfl,obm,Tm.cl,Tm.nt,Zaw _,.inl ⟨rfl,_,SqL.of t1⟩,?_⟩
  refine⟨_,rfl,M.p,dm,_,rfl,obm,Z8 _ (by decide +kernel),_,rfl,_,rfl,M,ds,wa,xs,m,qs,l1,o1,day,f,rfl,W,hds,h1,n1,d0,d1,fun n hn=>(hw n (yX _ hn)).1,fun s1 us1 H1 hs1 S1 ks1 rs1=>?_⟩
  refine⟨_,rfl,M.p,dm,_,rfl,S1 _ _ obm,Z8 _ (by decide +kernel),_,rfl,_,rfl,M,ds,wa,xs,m,qs,l2,o2,day,f,rfl,W.same S1,hds,S1 _ _ h2,n2,d0,d1,fun n hn=>(hw n (xL _ hn)).1,fun s2 us2 H2 hs2 S2 ks2 rs2=>?_⟩
  refine⟨_,rfl,_,rfl,by show 4<=sizeLine;lia,fun p hp=>?_⟩
  have S3:=Same.new (o:=.tup [.ref s1,.ref s2,.int need,v2]) hp
  have k3:(upd H2 p (.tup [.ref s1,.ref s2,.int need,v2])) p=some (.tup [.ref s1,.ref s2,.int need,v2]):=Zg
  generalize (upd H2 p (.tup [.ref s1,.ref s2,.int need,v2]))=H3 at S3 k3 ⊢
  have S23:=S2.trans S3
  have S:=S1.trans S23
  have out:∀{b:Addr},H b=none->¬mo M ds wa xs qs b:=fun e z=>by obtain⟨o,e'⟩:=W.there z;rw[e] at e';cases e'
  have hs2':H s2=none:=S1.free hs2
  have W3:=((W.same S).freeze (a:=s2) (S3 _ _ ks2) (fun z=>out hs2' (.inr (.inr (.inl z))))).freeze (a:=s1) (S23 _ _ ks1) (fun z=>out hs1 (.inr (.inr (.inl z))))
  refine⟨M.lt,ts,.ref p,rfl,rfl,S _ _ t1,by lia,?_⟩
  have hd:Rep (fz (s1::s2::xs) H3) (Ws ⟨Yn f o1,Yn f o2,need,oa⟩) (.ref p) :=
   ⟨p,_,rfl,Wd k3,⟨_,_,rfl,⟨s1,us1,rfl,Zae (by simp) (S23 _ _ ks1),RepS.fz (RepS.mono (Same.t S23) rs1)⟩,⟨_,_,rfl,⟨s2,us2,rfl,Zae (by simp) (S3 _ _ ks2),RepS.fz (RepS.mono (Same.t S3) rs2)⟩,⟨_,_,rfl,rfl,⟨_,_,rfl,(hoa.same S).rep,rfl⟩⟩⟩⟩⟩
  have W4:=W3.trial (S _ _ t1) hd
  have T4:Zah M ds wa xs qs H (upd H3 M.lt (.lst (ts ++ [.ref p]))):=fun b o e nb=>by
   rw[Zc (fun z:b=M.lt=>nb (z ▸ .inr (.inr (.inl (by simp[ML.ls])))))]
   exact S _ _ e
  generalize (upd H3 M.lt (.lst (ts ++ [.ref p])))=H4 at W4 T4 ⊢
  obtain⟨dm4,obm4⟩:=W4.ob
  obtain⟨ys,y1,_,y3⟩:=(W4.ls (M.ly,m.days.map D.int) (by simp[Mo.at_])).get
  dsimp only at y1 y3
  rw[xB] at y3
  have hdl:=ok.dl
  refine⟨_,rfl,M.p,CM,dm4,_,_,rfl,obm4,Tm.cl,Tm.ny,Znf _,.inl ⟨rfl,_,SqL.of y1⟩,_,rfl,M.ly,ys,.int day,rfl,rfl,y1,by lia,?_⟩
  have W5:=W4.day (d:=day) y1 rfl
  have T5:Zah M ds wa xs qs H (upd H4 M.ly (.lst (ys ++ [.int day]))):=fun b o e nb=>by
   rw[Zc (fun z:b=M.ly=>nb (z ▸ .inr (.inr (.inl (by simp[ML.ls])))))]
   exact T4 b o e nb
  generalize (upd H4 M.ly (.lst (ys ++ [.int day])))=H5 at W5 T5 ⊢
  obtain⟨dm5,obm5⟩:=W5.ob
  obtain⟨ts5,z1,z2,z3⟩:=(W5.ls (M.lt,(m.trials ++ [(⟨Yn f o1,Yn f o2,need,oa⟩:Suit)]).map Ws) (by simp[Mo.at_])).get
  dsimp only at z1 z2 z3
  rw[xB,xN,zL] at z3
  have hok:∀t∈m.trials ++ [(⟨Yn f o1,Yn f o2,need,oa⟩:Suit)],Us t:=fun t ht=>by
   rcases xJ.mp ht with z | z
   ·exact ok.ok t z
   ·rw[xK.mp z]
    refine⟨⟨fun q hq=>?_,by show (o1.map _).length<=60;rw[xB];exact n1⟩,⟨fun q hq=>?_,by show (o2.map _).length<=60;rw[xB];exact n2⟩,e0,e1⟩
    ·obtain⟨n,hn,rfl⟩:=zC.mp hq
     exact(hw n (yX _ hn)).2
    ·obtain⟨n,hn,rfl⟩:=zC.mp hq
     exact(hw n (xL _ hn)).2
  refine⟨_,rfl,M.p,CM,dm5,_,_,rfl,obm5,Tm.cl,Tm.nt,Zaw _,M.lt,_,rfl,⟨ts5,z1,z2⟩,hok,by rw[xN,zL];lia,fun lv H6 hlv klv S6=>?_⟩
  have W6:=W5.same S6
  obtain⟨dm6,obm6⟩:=W6.ob
  refine⟨_,rfl,M.p,CM,dm6,_,rfl,obm6,Tm.cl,Tm.nv,Zzn _,?_⟩
  rw[Zxs]
  have W7:=W6.setv obm6 klv (fun z=>by obtain⟨o,e⟩:=W5.there z;rw[hlv] at e;cases e)
  have T7:Zah M ds wa xs qs H (upd H6 M.p (.ins CM dm6 (Wi (M.setv lv)))):=fun b o e nb=>by
   rw[Zc (fun z:b=M.p=>nb (.inl z))]
   exact S6 _ _ (T5 b o e nb)
  generalize (upd H6 M.p (.ins CM dm6 (Wi (M.setv lv))))=H7 at W7 T7 ⊢
  obtain⟨dm7,obm7⟩:=W7.ob
  obtain⟨ts7,q1,_,q3⟩:=(W7.ls ((M.setv lv).lt,(m.trials ++ [(⟨Yn f o1,Yn f o2,need,oa⟩:Suit)]).map Ws) (by simp[Mo.at_])).get
  dsimp only at q1 q3
  rw[xB,xN,zL] at q3
  refine⟨_,rfl,M.p,CM,dm7,_,_,rfl,obm7,Tm.cl,Tm.nt,Zaw _,M.lt,ts7,rfl,.inl (SqL.of q1),_,_,rfl,rfl,?_⟩
  rw[q3]
  show Q (.int (((m.trials.length+1:Nat):Int) - 1)) H7
  rw[show (((m.trials.length+1:Nat):Int) - 1)=(m.trials.length:Int) by lia]
  refine k lv s1 s2 H7 W7 T7 fun b hb=>?_
  have lvn:H lv=none:=by
   cases e:H lv with
   | none=>rfl
   | some o =>
    by_cases z:mo M ds wa xs qs lv
    ·have z5:mo M ds wa (s1::s2::xs) qs lv:=by
      rcases z with z | z | z | z | z
      ·exact .inl z
      ·exact .inr (.inl z)
      ·exact .inr (.inr (.inl z))
      ·exact .inr (.inr (.inr (.inl (xW _ (xW _ z)))))
      ·exact .inr (.inr (.inr (.inr z)))
     obtain⟨o',e'⟩:=W5.there z5
     rw[hlv] at e';cases e'
    ·rw[T5 lv o e z] at hlv;cases hlv
  rcases hb with z | z | z | z | z
  ·exact .inl (.inl z)
  ·exact .inl (.inr (.inl z))
  ·simp only[ML.ls,ML.setv,xD,xJ,xR,or_false] at z
   have old:b∈M.lh::(M.ls++qs)\/b=lv:=by
    simp only[ML.ls,xD,xJ,xR,or_false]
    rcases z with z | (z | z | z | z | z | z) | z<;>simp[z]
   exact old.elim (fun z=>.inl (.inr (.inr (.inl z)))) (fun z=>.inr (z▸lvn))
  ·rcases xD.mp z with z | z
   ·exact .inr (z▸hs1)
   ·rcases xD.mp z with z | z
    ·exact .inr (z▸hs2')
    ·exact .inl (.inr (.inr (.inr (.inl z))))
  ·exact .inl (.inr (.inr (.inr (.inr z))))
end
section
variable{P:Program}{w:World}{K:uFg}{mg:Str->Option Value}{base:Heap}{C CM:Addr}{c:Str->Addr}
def Frm(O:Addr->Prop)(H:Hp)(O':Addr->Prop)(H':Hp):Prop:=(∀b o,H b=some o->¬O b->H' b=some o)/\∀b,O' b->O b\/H b=none
theorem Frm.trans{O O1 O2:Addr->Prop}{H H1 H2:Hp}(a:Frm O H O1 H1)(b:Frm O1 H1 O2 H2):Frm O H O2 H2:=by
 refine⟨fun x o e n=>b.1 x o (a.1 x o e n) fun z=>(a.2 x z).elim n (fun y=>by rw[e] at y;cases y),fun x hx=>?_⟩
 rcases b.2 x hx with z | z
 ·exact a.2 x z
 ·by_cases y:O x
  ·exact .inl y
  ·refine .inr ?_
   cases e:H x with
   | none=>rfl
   | some o=>rw[a.1 x o e y] at z;cases z
theorem Frm.same{O:Addr->Prop}{H H':Hp}(s:Same H H'):Frm O H O H':=⟨fun b o e _=>s b o e,fun b hb=>.inl hb⟩
def MSt(C CM:Addr)(H:Hp)(p:Addr)(ds:List Deed)(m:Mo)(O:Addr->Prop):Prop:=∃M wa xs qs,M.p=p/\MootAt C CM H M ds wa xs m qs/\O=mo M ds wa xs qs
theorem MSt.same{H H':Hp}{p:Addr}{ds:List Deed}{m:Mo}{O:Addr->Prop}(h:MSt C CM H p ds m O)(k:Same H H'):MSt C CM H' p ds m O:=let ⟨M,wa,xs,qs,e,W,o⟩:=h;⟨M,wa,xs,qs,e,W.same k,o⟩
def Ub(E:XK)(c:Str->Addr)(H:Hp)(k:Prop):Option Str->Prop
 | none=>k
 | some x=>∀H',Same H H'->E (.ref (c x)) none H'
theorem Zdy{ds:List Deed}{m:Mo}{day:Int}{ps:List Str}{th:Option Int}{oa:Option (Int×Str)}(h:Yl ds m day ps th oa=none):(∀n∈ps,∃d,Zk ds n=some d/\d<=day)/\(∀i,th=some i->Vs m i=none)/\∀i n,oa=some (i,n)->Wz m.trials i n=none:=by
 unfold Yl at h
 simp only[zN] at h
 obtain⟨h1,h2,h3,h4,_⟩:=h
 rw[List.findSome?_eq_none_iff] at h1 h4
 refine⟨fun n hn=>?_,fun i e=>by subst e;exact h2,fun i n e=>by subst e;exact h3⟩
 have a:=h1 n hn
 have b:=h4 n hn
 unfold Z9 at a
 unfold Yc at b
 cases e:Zk ds n with
 | none=>rw[if_pos e] at a;cases a
 | some d =>
  refine⟨d,rfl,?_⟩
  rw[e,Option.getD_some] at b
  by_cases z:day < d
  ·rw[if_pos z] at b;cases b
  ·lia
theorem Ut(H:Hp):∀o:List Str,RepL H (o.map D.str) (o.map V.str)
 | []=>rfl
 | x::o=>⟨_,_,rfl,rfl,Ut H o⟩
structure CsA (ds:List Deed) (m:Mo) (H:Hp) (l1 l2:Addr) (o1 o2:List Str) (day need:Int) (f:Str->Int):Prop where
 ok:MoK m
 hd:ds.length<=1000
 h1:H l1=some (.lst (o1.map V.str))
 h2:H l2=some (.lst (o2.map V.str))
 n1:o1.length<=60
 n2:o2.length<=60
 di:okI day
 ni:okI need
 hw:∀n∈o1++o2,n.length<=100/\∀d,Zk ds n=some d->d<=day->IsW (kw ds n) day (f n)/\1<=f n/\f n<=1000
theorem CsA.all{ds:List Deed}{m:Mo}{H:Hp}{l1 l2:Addr}{o1 o2:List Str}{day need:Int}{f:Str->Int}(a:CsA ds m H l1 l2 o1 o2 day need f)(h:∀n∈o1++o2,∃d,Zk ds n=some d/\d<=day):∀n∈o1++o2,n.length<=100/\wOk ds day f n/\1<=f n/\f n<=1000:=fun n hn=>by
 obtain⟨d,e1,e2⟩:=h n hn
 obtain⟨x,y,z⟩:=(a.hw n hn).2 d e1 e2
 exact⟨(a.hw n hn).1,⟨d,e1,e2,x⟩,y,z⟩
theorem Uj{lo hi d:Int}(h:eM lo hi d=none):lo<=d/\d<=hi:=by
 unfold eM at h
 by_cases z:lo<=d/\d<=hi
 ·exact z
 ·rw[if_neg z] at h;cases h
theorem Zay{m:Mo}(h:Yd m=none):m.deeds.length < 400:=by
 unfold Yd at h
 by_cases z:m.deeds.length < 400
 ·exact z
 ·rw[if_neg z] at h;cases h
theorem Zbx{m:Mo}{need:Int}{f:Str->Int}{o1 o2:List Str}(h:Vi m need f o1 o2=none):m.trials.length < 60/\m.deeds.length < 400:=by
 unfold Vi at h
 by_cases z : 60<=m.trials.length
 ·rw[if_pos z] at h;cases h
 ·rw[if_neg z] at h
  by_cases y : 12 < max o1.length o2.length
  ·rw[if_pos y] at h;cases h
  ·rw[if_neg y,zN] at h
   exact⟨by lia,Zay h.1⟩
variable{M:ML}{ds:List Deed}{wa:Str->Addr}{xs qs:List Addr}{m:Mo}{H H':Hp}
theorem Zxu{a1 a2 b:Addr}(h:mo M ds wa (a1::a2::xs) qs b):mo M ds wa xs qs b\/b=a1\/b=a2:=by
 rcases h with z | z | z | z | z
 ·exact .inl (.inl z)
 ·exact .inl (.inr (.inl z))
 ·exact .inl (.inr (.inr (.inl z)))
 ·rcases xD.mp z with z | z
  ·exact .inr (.inl z)
  ·rcases xD.mp z with z | z
   ·exact .inr (.inr z)
   ·exact .inl (.inr (.inr (.inr (.inl z))))
 ·exact .inl (.inr (.inr (.inr (.inr z))))
theorem MootAt.deed2(W:MootAt C CM H M ds wa xs m qs)(S:Same H H'){a1 a2:Addr}{u1 u2 vs:List V}{d:D}{v:V}(n1:H a1=none)(n2:H a2=none)(k1:H' a1=some (.lst u1))(k2:H' a2=some (.lst u2))(e:H M.ld=some (.lst vs))(hd:Rep (fz (a1::a2::xs) H') d v) :
  MootAt C CM (upd H' M.ld (.lst (vs ++ [v]))) M ds wa (a1::a2::xs) {m with deeds:=m.deeds ++ [d] } qs/\Frm (mo M ds wa xs qs) H (mo M ds wa (a1::a2::xs) qs) (upd H' M.ld (.lst (vs ++ [v]))):=by
 have out:∀{b:Addr},H b=none->b∉M.lh::(M.ls++qs):=fun e z=>by obtain⟨ys,e'⟩:=W.lst z;rw[e] at e';cases e'
 refine⟨(((W.same S).freeze k2 (out n2)).freeze k1 (out n1)).deed (S _ _ e) hd,fun b o eb nb=>?_,fun b hb=>?_⟩
 ·rw[Zc (fun z:b=M.ld=>nb (z▸Zax))];exact S _ _ eb
 ·rcases Zxu hb with z | z | z
  ·exact .inl z
  ·exact .inr (z▸n1)
  ·exact .inr (z▸n2)
end
section
variable{P:Program}{w:World}{K:uFg}{mg:Str->Option Value}{base:Heap}{C CM:Addr}{c:Str->Addr}
def clD(x:Str)(i day need:Int)(o1 o2:List Str):D:=.tup [.str "claim", .str x,.int i,.int day,.int need,.lst (o1.map D.str),.lst (o2.map D.str)]
def Mo.won(m:Mo)(x:Str)(i:Nat)(day need:Int)(f:Str->Int)(o1 o2:List Str):Mo :=
 {m.tried day ⟨Yn f o1,Yn f o2,need,none⟩ with haps:=m.haps.set i (m.haps.getD i [] ++ [.tup [.int m.trials.length,.tup [.int day,.str "won", .non,.str x]]]),deeds:=m.deeds ++ [clD x i day need o1 o2] }
def Zb8(ds:List Deed)(m:Mo)(x:Str)(i day need:Int)(f:Str->Int)(o1 o2:List Str):Option Str:=(eM 0 9999 day).or ((eM 1 12000 need).or ((Yl ds m day ([x]++o1++o2) (some i) none).or (Vi m need f o1 o2)))
def Zml(C CM:Addr)(c:Str->Addr):Sp:=fun vs H Q E=>∃(p:Addr)(ds:List Deed)(m:Mo)(O:Addr->Prop)(x:Str)(i day need:Int)(l1 l2:Addr)(o1 o2:List Str)(f:Str->Int),vs = [.ref p,.str x,.int i,.int day,.int need,.ref l1,.ref l2]/\MSt C CM H p ds m O/\CsA ds m H l1 l2 o1 o2 day need f/\¬O l1/\¬O l2/\x.length<=100/\okI i /\
 Ub E c H (∀O' H',MSt C CM H' p ds (m.won x i.toNat day need f o1 o2) O'->Frm O H O' H'->Q (.int m.trials.length) H') (Zb8 ds m x i day need f o1 o2)
abbrev Zix:Stmt:=Ym (top 58) 8
theorem Z24:FnScope ["self", "claimer", "thing", "day", "need", "ones", "others", "case"] ["self", "claimer", "thing", "day", "need", "ones", "others"] (Zh Zix):=fsc
theorem Zvw(Ziy:HasM K CM "claim" "Moot.claim" Zix)(T:Txt mg)(Tm:TxCMoot K CM)(Y5:FnX P w K mg base "check_day" 1 (spM 0 9999 c))(Zde:FnX P w K mg base "check_need" 1 (spM 1 12000 c))(MM_check_named:MtX P w K mg base CM "check_named" 3 (Zbl C CM c))(MM_check_sides:MtX P w K mg base CM "check_sides" 4 (Zdx C CM c))(MM_try_case:Mt P w K mg base CM "try_case" ["self", "day", "need", "ones", "others", "oath"] 5 (Ze6 C CM)):MtX P w K mg base CM "claim" 6 (Zml C CM c):=by
 refine Ziy.mtX Z24 (fun _ _ _ _ _ _=>al7 fun _ _ _ _ _ _ _=>rfl) (fun vs H Q E h=>?_) (fun f cdv A outer s H vs Q E hr h=>?_)
 ·obtain⟨p,ds,m,O,x,i,day,need,l1,l2,o1,o2,f,rfl,_⟩:=h
  rfl
 ·obtain⟨_,ds,m,_,x,i,day,need,l1,l2,o1,o2,f,rfl,⟨M,wa,xs,qs,rfl,W,rfl⟩,a,w1,w2,hx,hi,k⟩:=h
  refine⟨_,(Ze (Zi (Wb Zw Y5 (Za (qvN 3) Zb)))
 (Ze (Zi (Wb Zw Zde (Za (qvN 4) Zb)))
 (Ze (Zi (Yh Zw (qvN 0) Tm.cl MM_check_named (Za (qvN 3) (Za (Zz Wp (Zz Wp (Zy (Za (qvN 1) Zb)) (qvN 5)) (qvN 6)) (Za (qvN 2) (Za Y9 Zb))))))
 (Ze (Zi (Yh Zw (qvN 0) Tm.cl MM_check_sides (Za (qvN 3) (Za (qvN 4) (Za (qvN 5) (Za (qvN 6) Zb))))))
 (Ze (Z4 7 (Yw (qvN 0) Tm.cl MM_try_case (Za (qvN 3) (Za (qvN 4) (Za (qvN 5) (Za (qvN 6) (Za Y9 Zb)))))))
 (Ze (Zi (Wf F.plainAttrs_list F.slot_list_append F.type_list_append Wm (Zl Yu (Zq (qvN 0)) (qvN 2) (fun _ _=>rfl)) (Za (Zs (Za (qvN 7) (Za (Zs (Za (qvN 3) (Za Zn (Za Y9 (Za (qvN 1) Zb))))) Zb))) Zb)))
 (Ze (Zi (Wf F.plainAttrs_list F.slot_list_append F.type_list_append Wm (Zq (qvN 0)) (Za (Zs (Za Zn (Za (qvN 1) (Za (qvN 2) (Za (qvN 3) (Za (qvN 4) (Za (Uy Zbi T.list V9 (Za (qvN 5) Zb)) (Za (Uy Zbi T.list V9 (Za (qvN 6) Zb)) Zb)))))))) Zb)))
 (Zf (Zu (qvN 7)))))))))),?_⟩
  have hz:(5000:Nat)<=sizeLine:=by decide
  obtain⟨dm,obm⟩:=W.ob
  have ⟨ok,hds,h1,h2,n1,n2,dI,ni,hw⟩:=a
  have e1:(o1.map V.str).length=o1.length:=xB ..
  have e2:(o2.map V.str).length=o2.length:=xB ..
  unfold Zb8 at k
  refine⟨_,rfl,day,rfl,dI,?_⟩
  cases ed:eM 0 9999 day with
  | some z=>rw[ed] at k;exact k H (Same.refl H)
  | none =>
  rw[ed,xG] at k
  obtain⟨d0,d1⟩:=Uj ed
  refine⟨_,rfl,need,rfl,ni,?_⟩
  cases en:eM 1 12000 need with
  | some z=>rw[en] at k;exact k H (Same.refl H)
  | none =>
  rw[en,xG] at k
  refine⟨_,rfl,M.p,dm,_,rfl,obm,Z8 _ (by decide +kernel),_,rfl,_,rfl,by show 1<=sizeLine;lia,fun q1 hq1=>?_⟩
  have S1:=Same.new (o:=.lst [.str x]) hq1
  have k1:(upd H q1 (.lst [.str x])) q1=some (.lst [.str x]):=Zg
  generalize (upd H q1 (.lst [.str x]))=H1 at S1 k1 ⊢
  refine⟨_,rfl,q1,l1,_,_,rfl,rfl,k1,S1 _ _ h1,by rw[e1];show 1+_<=_;lia,fun q2 hq2=>?_⟩
  have S2:=S1.trans (Same.new (o:=.lst ([.str x]++o1.map V.str)) hq2)
  have k2:(upd H1 q2 (.lst ([.str x]++o1.map V.str))) q2=some (.lst ([.str x]++o1.map V.str)):=Zg
  generalize (upd H1 q2 (.lst ([.str x]++o1.map V.str)))=H2 at S2 k2 ⊢
  refine⟨_,rfl,q2,l2,_,_,rfl,rfl,k2,S2 _ _ h2,by rw[xN,e1,e2];show 1+_+_<=_;lia,fun q3 hq3=>?_⟩
  have S3:=S2.trans (Same.new (o:=.lst ([.str x]++o1.map V.str++o2.map V.str)) hq3)
  have k3:(upd H2 q3 (.lst ([.str x]++o1.map V.str++o2.map V.str))) q3=some (.lst (([x]++o1++o2).map V.str)):=by rw[Zg,xV,xV];rfl
  generalize (upd H2 q3 (.lst ([.str x]++o1.map V.str++o2.map V.str)))=H3 at S3 k3 ⊢
  refine⟨_,rfl,M,ds,wa,xs,m,qs,day,q3,[x]++o1++o2,some i,none,.non,rfl,W.same S3,ok,k3,fun n hn=>?_,dI,fun j e=>by cases e;exact hi,rfl,fun H4 S4'=>?_⟩
  ·rw[yO] at hn
   rcases xJ.mp hn with z | z
   ·rw[xK.mp z];exact hx
   ·exact(hw n z).1
  have S4:=S3.trans S4'
  cases ea:Yl ds m day ([x]++o1++o2) (some i) none with
  | some z=>rw[ea] at k;exact k H4 S4
  | none =>
  rw[ea,xG] at k
  obtain⟨p1,p2,_⟩:=Zdy ea
  have hall:=a.all fun n hn=>p1 n (by rw[yO];exact xL _ hn)
  refine⟨_,rfl,M.p,dm,_,rfl,S4 _ _ obm,Z8 _ (by decide +kernel),_,rfl,_,rfl,_,rfl,_,rfl,M,ds,wa,xs,m,qs,day,need,l1,l2,o1,o2,f,rfl,W.same S4,ok,hds,S4 _ _ h1,S4 _ _ h2,n1,n2,d0,d1,ni,hall,fun H5 S5'=>?_⟩
  have S5:=S4.trans S5'
  cases es:Vi m need f o1 o2 with
  | some z=>rw[es] at k;exact k H5 S5
  | none =>
  rw[es] at k
  obtain⟨g0,g1⟩:=Uj en
  have h4:=(Zbx es).2
  refine⟨_,rfl,M.p,dm,_,rfl,S5 _ _ obm,Z8 _ (by decide +kernel),_,rfl,_,rfl,_,rfl,_,rfl,M,ds,wa,xs,m,qs,day,need,l1,l2,o1,o2,f,none,.non,rfl,W.same S5,ok,(Zbx es).1,hds,S5 _ _ h1,S5 _ _ h2,n1,n2,d0,d1,g0,g1,fun n hn=>(hall n hn).2,rfl,fun lv s1 s2 H6 W6 T6 F6=>?_⟩
  have R6:Frm (mo M ds wa xs qs) H (mo (M.setv lv) ds wa (s1::s2::xs) qs) H6:=(Frm.same S5).trans ⟨T6,F6⟩
  refine Yb ?_
  have hin:inB i m.brs.length:=by
   have:=p2 i rfl
   unfold Vs at this
   by_cases z:inB i m.brs.length
   ·exact z
   ·rw[if_neg z] at this;cases this
  obtain⟨j,rfl⟩:=yK hin.1
  have hj:j < m.haps.length:=by rw[ok.hb];have:=hin.2;lia
  have hjq:j < qs.length:=by rw[W6.hn];exact hj
  have hq:qs[j]? = some qs[j]:=xC hjq
  have hcl:m.haps[j]? = some (m.haps.getD j []):=by rw[xS,xC hj];rfl
  have hcn:=ok.hl _ (xI hcl)
  rw[yN] at k
  unfold Mo.won at k
  generalize m.haps.getD j []=cl at hcl hcn k
  have mz:(qs[j],cl)∈qs.zip m.haps:=xI (i:=j) (by rw[zA];exact⟨hq,hcl⟩)
  obtain⟨us,u1,_,hul⟩:=(W6.ls (qs[j],cl) (by simp[Mo.at_,Mo.tried,mz])).get
  dsimp only at u1 hul
  obtain⟨dm6,obm6⟩:=W6.ob
  refine⟨_,rfl,M.p,CM,dm6,_,_,rfl,obm6,Tm.cl,Tm.nh,Zgc _,_,rfl,M.lh,_,j,.ref qs[j],rfl,rfl,SqL.of W6.hl,Va (by rw[xO,hq];rfl),.inl ⟨rfl,_,SqL.of u1⟩,_,rfl,_,rfl,_,rfl,by show 4<=sizeLine;lia,fun b hb=>?_⟩
  have S7:=Same.new (o:=.tup [.int day,.str "won", .non,.str x]) hb
  have k7:(upd H6 b (.tup [.int day,.str "won", .non,.str x])) b=some (.tup [.int day,.str "won", .non,.str x]):=Zg
  generalize (upd H6 b (.tup [.int day,.str "won", .non,.str x]))=H7 at S7 k7 ⊢
  refine⟨by show 2<=sizeLine;lia,fun a' ha=>?_⟩
  have S8:=Same.new (o:=.tup [.int m.trials.length,.ref b]) ha
  have k8:(upd H7 a' (.tup [.int m.trials.length,.ref b])) a'=some (.tup [.int m.trials.length,.ref b]):=Zg
  generalize (upd H7 a' (.tup [.int m.trials.length,.ref b]))=H8 at S8 k8 ⊢
  have W8:=W6.same (S7.trans S8)
  have u8:=S8 _ _ (S7 _ _ u1)
  refine⟨qs[j],us,.ref a',rfl,rfl,u8,by lia,?_⟩
  have W9:=W8.hap hq hcl (d:=.tup [.int m.trials.length,.tup [.int day,.str "won", .non,.str x]]) (v:=.ref a') u8 ⟨a',_,rfl,Wd k8,⟨_,_,rfl,rfl,⟨_,_,rfl,⟨b,_,rfl,Wd (S8 _ _ k7),⟨_,_,rfl,rfl,⟨_,_,rfl,rfl,⟨_,_,rfl,rfl,⟨_,_,rfl,rfl,rfl⟩⟩⟩⟩⟩,rfl⟩⟩⟩
  have R9:Frm (mo M ds wa xs qs) H (mo (M.setv lv) ds wa (s1::s2::xs) qs) (upd H8 qs[j] (.lst (us ++ [.ref a']))):=(R6.trans (Frm.same (S7.trans S8))).trans ⟨fun b o e nb=>by
   rw[Zc (fun z:b=qs[j]=>nb (z ▸ .inr (.inr (.inl (xW _ (xL _ (zX hjq)))))))];exact e,fun _ hb=>.inl hb⟩
  generalize (upd H8 qs[j] (.lst (us ++ [.ref a'])))=H9 at W9 R9 ⊢
  obtain⟨dm9,obm9⟩:=W9.ob
  obtain⟨vs,f1,_,f2⟩:=(W9.ls (M.ld,m.deeds) (by simp[Mo.at_,Mo.tried,ML.setv])).get
  dsimp only at f1 f2
  have r1:=R9.1 l1 _ h1 w1
  have r2:=R9.1 l2 _ h2 w2
  refine⟨_,rfl,M.p,CM,dm9,_,_,rfl,obm9,Tm.cl,Tm.nd,Vm _,.inl ⟨rfl,_,SqL.of f1⟩,_,rfl,_,rfl,_,rfl,_,rfl,_,rfl,l1,_,rfl,.inl (SqL.of r1),fun a1 ha1=>?_⟩
  have Sa:=Same.new (o:=.lst (o1.map V.str)) ha1
  have ka:(upd H9 a1 (.lst (o1.map V.str))) a1=some (.lst (o1.map V.str)):=Zg
  generalize (upd H9 a1 (.lst (o1.map V.str)))=Ha at Sa ka ⊢
  refine⟨_,rfl,l2,_,rfl,.inl (SqL.of (Sa _ _ r2)),fun a2 ha2=>?_⟩
  have Sb:=Same.new (o:=.lst (o2.map V.str)) ha2
  have kb:(upd Ha a2 (.lst (o2.map V.str))) a2=some (.lst (o2.map V.str)):=Zg
  generalize (upd Ha a2 (.lst (o2.map V.str)))=Hb at Sb kb ⊢
  refine⟨by show 7<=sizeLine;lia,fun q hq'=>?_⟩
  have Sc:=Same.new (o:=.tup [.str "claim", .str x,.int j,.int day,.int need,.ref a1,.ref a2]) hq'
  have kc:(upd Hb q (.tup [.str "claim", .str x,.int j,.int day,.int need,.ref a1,.ref a2])) q=some (.tup [.str "claim", .str x,.int j,.int day,.int need,.ref a1,.ref a2]):=Zg
  generalize (upd Hb q (.tup [.str "claim", .str x,.int j,.int day,.int need,.ref a1,.ref a2]))=Hc at Sc kc ⊢
  have Sac:=(Sa.trans Sb).trans Sc
  refine⟨M.ld,vs,.ref q,rfl,rfl,Sac _ _ f1,by lia,?_⟩
  have ka':=Sc _ _ (Sb _ _ ka)
  have kb':=Sc _ _ kb
  obtain⟨W10,R10⟩:=W9.deed2 Sac ha1 (Sa.free ha2) ka' kb' f1 (d:=clD x j day need o1 o2) (v:=.ref q)
   ⟨q,_,rfl,Wd kc,⟨_,_,rfl,rfl,⟨_,_,rfl,rfl,⟨_,_,rfl,rfl,⟨_,_,rfl,rfl,⟨_,_,rfl,rfl,⟨_,_,rfl,⟨a1,_,rfl,Zae (by simp) ka',Ut _ _⟩,⟨_,_,rfl,⟨a2,_,rfl,Zae (by simp) kb',Ut _ _⟩,rfl⟩⟩⟩⟩⟩⟩⟩⟩
  exact⟨_,rfl,k _ _ ⟨M.setv lv,wa,_,qs,rfl,W10,rfl⟩ (R9.trans R10)⟩
end
section
variable{P:Program}{w:World}{K:uFg}{mg:Str->Option Value}{base:Heap}{C CM:Addr}{c:Str->Addr}
def weD(x y:Str)(many day need:Int)(o1 o2:List Str):D:=.tup [.str "wergild", .str x,.str y,.int many,.int day,.int need,.lst (o1.map D.str),.lst (o2.map D.str)]
def Mo.owes(m:Mo)(x y:Str)(many day need:Int)(f:Str->Int)(o1 o2:List Str):Mo :=
 {m.tried day ⟨Yn f o1,Yn f o2,need,none⟩ with debts:=m.debts ++ [.tup [.int m.trials.length,.tup [.int day,.str y,.str x,.int many]]],deeds:=m.deeds ++ [weD x y many day need o1 o2] }
def Zdl(ds:List Deed)(m:Mo)(x y:Str)(many day need:Int)(f:Str->Int)(o1 o2:List Str):Option Str:=(eM 1 1000000 many).or ((eM 0 9999 day).or ((eM 1 12000 need).or ((Yl ds m day ([x,y]++o1++o2) none none).or (Vi m need f o1 o2))))
def Zof(C CM:Addr)(c:Str->Addr):Sp:=fun vs H Q E=>∃(p:Addr)(ds:List Deed)(m:Mo)(O:Addr->Prop)(x y:Str)(many day need:Int)(l1 l2:Addr)(o1 o2:List Str)(f:Str->Int),vs = [.ref p,.str x,.str y,.int many,.int day,.int need,.ref l1,.ref l2]/\MSt C CM H p ds m O/\CsA ds m H l1 l2 o1 o2 day need f/\¬O l1/\¬O l2/\x.length<=100/\y.length<=100/\okI many /\
 Ub E c H (∀O' H',MSt C CM H' p ds (m.owes x y many day need f o1 o2) O'->Frm O H O' H'->Q (.int m.trials.length) H') (Zdl ds m x y many day need f o1 o2)
abbrev Ziz:Stmt:=Ym (top 58) 9
theorem Z25:FnScope ["self", "claimer", "answerer", "many", "day", "need", "ones", "others", "case"] ["self", "claimer", "answerer", "many", "day", "need", "ones", "others"] (Zh Ziz):=fsc
theorem Zss(Zi0:HasM K CM "wergild" "Moot.wergild" Ziz)(T:Txt mg)(Tm:TxCMoot K CM)(Zi1:FnX P w K mg base "check_money" 1 (spM 1 1000000 c))(Y5:FnX P w K mg base "check_day" 1 (spM 0 9999 c))(Zde:FnX P w K mg base "check_need" 1 (spM 1 12000 c))(MM_check_named:MtX P w K mg base CM "check_named" 3 (Zbl C CM c))(MM_check_sides:MtX P w K mg base CM "check_sides" 4 (Zdx C CM c))(MM_try_case:Mt P w K mg base CM "try_case" ["self", "day", "need", "ones", "others", "oath"] 5 (Ze6 C CM)):MtX P w K mg base CM "wergild" 6 (Zof C CM c):=by
 refine Zi0.mtX Z25 (fun _ _ _ _ _ _=>al8 fun _ _ _ _ _ _ _ _=>rfl) (fun vs H Q E h=>?_) (fun f cdv A outer s H vs Q E hr h=>?_)
 ·obtain⟨p,ds,m,O,x,y,many,day,need,l1,l2,o1,o2,f,rfl,_⟩:=h
  rfl
 ·obtain⟨_,ds,m,_,x,y,many,day,need,l1,l2,o1,o2,f,rfl,⟨M,wa,xs,qs,rfl,W,rfl⟩,a,w1,w2,hx,hy,hmi,k⟩:=h
  refine⟨_,(Ze (Zi (Wb Zw Zi1 (Za (qvN 3) Zb)))
 (Ze (Zi (Wb Zw Y5 (Za (qvN 4) Zb)))
 (Ze (Zi (Wb Zw Zde (Za (qvN 5) Zb)))
 (Ze (Zi (Yh Zw (qvN 0) Tm.cl MM_check_named (Za (qvN 4) (Za (Zz Wp (Zz Wp (Zy (Za (qvN 1) (Za (qvN 2) Zb))) (qvN 6)) (qvN 7)) (Za Y9 (Za Y9 Zb))))))
 (Ze (Zi (Yh Zw (qvN 0) Tm.cl MM_check_sides (Za (qvN 4) (Za (qvN 5) (Za (qvN 6) (Za (qvN 7) Zb))))))
 (Ze (Z4 8 (Yw (qvN 0) Tm.cl MM_try_case (Za (qvN 4) (Za (qvN 5) (Za (qvN 6) (Za (qvN 7) (Za Y9 Zb)))))))
 (Ze (Zi (Wf F.plainAttrs_list F.slot_list_append F.type_list_append Wm (Zq (qvN 0)) (Za (Zs (Za (qvN 8) (Za (Zs (Za (qvN 4) (Za (qvN 2) (Za (qvN 1) (Za (qvN 3) Zb))))) Zb))) Zb)))
 (Ze (Zi (Wf F.plainAttrs_list F.slot_list_append F.type_list_append Wm (Zq (qvN 0)) (Za (Zs (Za Zn (Za (qvN 1) (Za (qvN 2) (Za (qvN 3) (Za (qvN 4) (Za (qvN 5) (Za (Uy Zbi T.list V9 (Za (qvN 6) Zb)) (Za (Uy Zbi T.list V9 (Za (qvN 7) Zb)) Zb))))))))) Zb)))
 (Zf (Zu (qvN 8))))))))))),?_⟩
  have hz:(5000:Nat)<=sizeLine:=by decide
  obtain⟨dm,obm⟩:=W.ob
  have ⟨ok,hds,h1,h2,n1,n2,dI,ni,hw⟩:=a
  have e1:(o1.map V.str).length=o1.length:=xB ..
  have e2:(o2.map V.str).length=o2.length:=xB ..
  unfold Zdl at k
  refine⟨_,rfl,many,rfl,hmi,?_⟩
  cases ey:eM 1 1000000 many with
  | some z=>rw[ey] at k;exact k H (Same.refl H)
  | none =>
  rw[ey,xG] at k
  refine⟨_,rfl,day,rfl,dI,?_⟩
  cases ed:eM 0 9999 day with
  | some z=>rw[ed] at k;exact k H (Same.refl H)
  | none =>
  rw[ed,xG] at k
  obtain⟨d0,d1⟩:=Uj ed
  refine⟨_,rfl,need,rfl,ni,?_⟩
  cases en:eM 1 12000 need with
  | some z=>rw[en] at k;exact k H (Same.refl H)
  | none =>
  rw[en,xG] at k
  refine⟨_,rfl,M.p,dm,_,rfl,obm,Z8 _ (by decide +kernel),_,rfl,_,rfl,_,rfl,by show 2<=sizeLine;lia,fun q1 hq1=>?_⟩
  have S1:=Same.new (o:=.lst [.str x,.str y]) hq1
  have k1:(upd H q1 (.lst [.str x,.str y])) q1=some (.lst [.str x,.str y]):=Zg
  generalize (upd H q1 (.lst [.str x,.str y]))=H1 at S1 k1 ⊢
  refine⟨_,rfl,q1,l1,_,_,rfl,rfl,k1,S1 _ _ h1,by rw[e1];show 2+_<=_;lia,fun q2 hq2=>?_⟩
  have S2:=S1.trans (Same.new (o:=.lst ([.str x,.str y]++o1.map V.str)) hq2)
  have k2:(upd H1 q2 (.lst ([.str x,.str y]++o1.map V.str))) q2=some (.lst ([.str x,.str y]++o1.map V.str)):=Zg
  generalize (upd H1 q2 (.lst ([.str x,.str y]++o1.map V.str)))=H2 at S2 k2 ⊢
  refine⟨_,rfl,q2,l2,_,_,rfl,rfl,k2,S2 _ _ h2,by rw[xN,e1,e2];show 2+_+_<=_;lia,fun q3 hq3=>?_⟩
  have S3:=S2.trans (Same.new (o:=.lst ([.str x,.str y]++o1.map V.str++o2.map V.str)) hq3)
  have k3:(upd H2 q3 (.lst ([.str x,.str y]++o1.map V.str++o2.map V.str))) q3=some (.lst (([x,y]++o1++o2).map V.str)):=by rw[Zg,xV,xV];rfl
  generalize (upd H2 q3 (.lst ([.str x,.str y]++o1.map V.str++o2.map V.str)))=H3 at S3 k3 ⊢
  refine⟨M,ds,wa,xs,m,qs,day,q3,[x,y]++o1++o2,none,none,.non,rfl,W.same S3,ok,k3,fun n hn=>?_,dI,(fun j e=>nomatch e),rfl,fun H4 S4'=>?_⟩
  ·rw[yO] at hn
   rcases xJ.mp hn with z | z
   ·rcases xD.mp z with z | z
    ·rw[z];exact hx
    ·rw[xK.mp z];exact hy
   ·exact(hw n z).1
  have S4:=S3.trans S4'
  cases ea:Yl ds m day ([x,y]++o1++o2) none none with
  | some z=>rw[ea] at k;exact k H4 S4
  | none =>
  rw[ea,xG] at k
  obtain⟨p1,_⟩:=Zdy ea
  have hall:=a.all fun n hn=>p1 n (by rw[yO];exact xL _ hn)
  refine⟨_,rfl,M.p,dm,_,rfl,S4 _ _ obm,Z8 _ (by decide +kernel),_,rfl,_,rfl,_,rfl,_,rfl,M,ds,wa,xs,m,qs,day,need,l1,l2,o1,o2,f,rfl,W.same S4,ok,hds,S4 _ _ h1,S4 _ _ h2,n1,n2,d0,d1,ni,hall,fun H5 S5'=>?_⟩
  have S5:=S4.trans S5'
  cases es:Vi m need f o1 o2 with
  | some z=>rw[es] at k;exact k H5 S5
  | none =>
  rw[es] at k
  obtain⟨g0,g1⟩:=Uj en
  have h4:=(Zbx es).2
  refine⟨_,rfl,M.p,dm,_,rfl,S5 _ _ obm,Z8 _ (by decide +kernel),_,rfl,_,rfl,_,rfl,_,rfl,M,ds,wa,xs,m,qs,day,need,l1,l2,o1,o2,f,none,.non,rfl,W.same S5,ok,(Zbx es).1,hds,S5 _ _ h1,S5 _ _ h2,n1,n2,d0,d1,g0,g1,fun n hn=>(hall n hn).2,rfl,fun lv s1 s2 H6 W6 T6 F6=>?_⟩
  have R6:Frm (mo M ds wa xs qs) H (mo (M.setv lv) ds wa (s1::s2::xs) qs) H6:=(Frm.same S5).trans ⟨T6,F6⟩
  refine Yb ?_
  unfold Mo.owes at k
  obtain⟨us,u1,_,hul⟩:=(W6.ls (M.lq,m.debts) (by simp[Mo.at_,Mo.tried,ML.setv])).get
  dsimp only at u1 hul
  have hql:=ok.ql
  obtain⟨dm6,obm6⟩:=W6.ob
  refine⟨_,rfl,M.p,CM,dm6,_,_,rfl,obm6,Tm.cl,Tm.nq,Zmj _,.inl ⟨rfl,_,SqL.of u1⟩,_,rfl,_,rfl,_,rfl,_,rfl,_,rfl,by show 4<=sizeLine;lia,fun b hb=>?_⟩
  have S7:=Same.new (o:=.tup [.int day,.str y,.str x,.int many]) hb
  have k7:(upd H6 b (.tup [.int day,.str y,.str x,.int many])) b=some (.tup [.int day,.str y,.str x,.int many]):=Zg
  generalize (upd H6 b (.tup [.int day,.str y,.str x,.int many]))=H7 at S7 k7 ⊢
  refine⟨by show 2<=sizeLine;lia,fun a' ha=>?_⟩
  have S8:=Same.new (o:=.tup [.int m.trials.length,.ref b]) ha
  have k8:(upd H7 a' (.tup [.int m.trials.length,.ref b])) a'=some (.tup [.int m.trials.length,.ref b]):=Zg
  generalize (upd H7 a' (.tup [.int m.trials.length,.ref b]))=H8 at S8 k8 ⊢
  have W8:=W6.same (S7.trans S8)
  have u8:=S8 _ _ (S7 _ _ u1)
  refine⟨M.lq,us,.ref a',rfl,rfl,u8,by lia,?_⟩
  have W9:MootAt C CM (upd H8 M.lq (.lst (us ++ [.ref a']))) (M.setv lv) ds wa (s1::s2::xs) _ qs:=W8.debt (d:=.tup [.int m.trials.length,.tup [.int day,.str y,.str x,.int many]]) (v:=.ref a') u8 ⟨a',_,rfl,Wd k8,⟨_,_,rfl,rfl,⟨_,_,rfl,⟨b,_,rfl,Wd (S8 _ _ k7),⟨_,_,rfl,rfl,⟨_,_,rfl,rfl,⟨_,_,rfl,rfl,⟨_,_,rfl,rfl,rfl⟩⟩⟩⟩⟩,rfl⟩⟩⟩
  have R9:Frm (mo M ds wa xs qs) H (mo (M.setv lv) ds wa (s1::s2::xs) qs) (upd H8 M.lq (.lst (us ++ [.ref a']))):=(R6.trans (Frm.same (S7.trans S8))).trans ⟨fun b o e nb=>by
   rw[Zc (fun z:b=M.lq=>nb (z ▸ .inr (.inr (.inl (by simp[ML.ls,ML.setv])))))];exact e,fun _ hb=>.inl hb⟩
  generalize (upd H8 M.lq (.lst (us ++ [.ref a'])))=H9 at W9 R9 ⊢
  obtain⟨dm9,obm9⟩:=W9.ob
  obtain⟨vs,f1,_,f2⟩:=(W9.ls (M.ld,m.deeds) (by simp[Mo.at_,Mo.tried,ML.setv])).get
  dsimp only at f1 f2
  have r1:=R9.1 l1 _ h1 w1
  have r2:=R9.1 l2 _ h2 w2
  refine⟨_,rfl,M.p,CM,dm9,_,_,rfl,obm9,Tm.cl,Tm.nd,Vm _,.inl ⟨rfl,_,SqL.of f1⟩,_,rfl,_,rfl,_,rfl,_,rfl,_,rfl,_,rfl,l1,_,rfl,.inl (SqL.of r1),fun a1 ha1=>?_⟩
  have Sa:=Same.new (o:=.lst (o1.map V.str)) ha1
  have ka:(upd H9 a1 (.lst (o1.map V.str))) a1=some (.lst (o1.map V.str)):=Zg
  generalize (upd H9 a1 (.lst (o1.map V.str)))=Ha at Sa ka ⊢
  refine⟨_,rfl,l2,_,rfl,.inl (SqL.of (Sa _ _ r2)),fun a2 ha2=>?_⟩
  have Sb:=Same.new (o:=.lst (o2.map V.str)) ha2
  have kb:(upd Ha a2 (.lst (o2.map V.str))) a2=some (.lst (o2.map V.str)):=Zg
  generalize (upd Ha a2 (.lst (o2.map V.str)))=Hb at Sb kb ⊢
  refine⟨by show 8<=sizeLine;lia,fun q hq'=>?_⟩
  have Sc:=Same.new (o:=.tup [.str "wergild", .str x,.str y,.int many,.int day,.int need,.ref a1,.ref a2]) hq'
  have kc:(upd Hb q (.tup [.str "wergild", .str x,.str y,.int many,.int day,.int need,.ref a1,.ref a2])) q=some (.tup [.str "wergild", .str x,.str y,.int many,.int day,.int need,.ref a1,.ref a2]):=Zg
  generalize (upd Hb q (.tup [.str "wergild", .str x,.str y,.int many,.int day,.int need,.ref a1,.ref a2]))=Hc at Sc kc ⊢
  have Sac:=(Sa.trans Sb).trans Sc
  refine⟨M.ld,vs,.ref q,rfl,rfl,Sac _ _ f1,by lia,?_⟩
  have ka':=Sc _ _ (Sb _ _ ka)
  have kb':=Sc _ _ kb
  obtain⟨W10,R10⟩:=W9.deed2 Sac ha1 (Sa.free ha2) ka' kb' f1 (d:=weD x y many day need o1 o2) (v:=.ref q)
   ⟨q,_,rfl,Wd kc,⟨_,_,rfl,rfl,⟨_,_,rfl,rfl,⟨_,_,rfl,rfl,⟨_,_,rfl,rfl,⟨_,_,rfl,rfl,⟨_,_,rfl,rfl,⟨_,_,rfl,⟨a1,_,rfl,Zae (by simp) ka',Ut _ _⟩,⟨_,_,rfl,⟨a2,_,rfl,Zae (by simp) kb',Ut _ _⟩,rfl⟩⟩⟩⟩⟩⟩⟩⟩⟩
  exact⟨_,rfl,k _ _ ⟨M.setv lv,wa,_,qs,rfl,W10,rfl⟩ (R9.trans R10)⟩
end
section
variable{P:Program}{w:World}{K:uFg}{mg:Str->Option Value}{base:Heap}{C CM:Addr}{c:Str->Addr}
theorem Fn.alias{x y:Str}{ps:List Str}{k:Nat}{sp:Sp}(F:Fn P w K mg base y ps k sp)(e:mg x=mg y):Fn P w K mg base x ps k sp:=let ⟨f,fd,a,b⟩:=F;⟨f,fd,e.trans a,b⟩
def acD(i:Int)(n:Str)(day need:Int)(o1 o2:List Str):D:=.tup [.str "accuse", .int i,.str n,.int day,.int need,.lst (o1.map D.str),.lst (o2.map D.str)]
def Mo.told(m:Mo)(d:D):Mo:={m with deeds:=m.deeds ++ [d] }
theorem MoK.told{m:Mo}(k:MoK m)(d:D):MoK (m.told d):=⟨k.ok,k.dl,k.br,k.le,k.vl,k.hb,fun q hq=>xT (k.hl q hq) (by show _<=(m.deeds ++ [d]).length;rw[xN];lia),xT k.ql (by show _<=(m.deeds ++ [d]).length;rw[xN];lia)⟩
def Mo.acc(m:Mo)(i:Int)(n:Str)(day need:Int)(f:Str->Int)(o1 o2:List Str):Mo:=(m.told (acD i n day need o1 o2)).tried day ⟨Yn f o1,Yn f o2,need,some (i,n)⟩
def Zbt(ds:List Deed)(m:Mo)(i:Int)(n:Str)(day need:Int)(f:Str->Int)(o1 o2:List Str):Option Str:=(eM 0 9999 day).or ((eM 1 12000 need).or ((Yl ds m day (o1++o2) none (some (i,n))).or ((Vi m need f o1 o2).or (if Zfe m.trials i n = [] then none else some ("Broken" : Str)))))
def Zog(C CM:Addr)(c:Str->Addr):Sp:=fun vs H Q E=>∃(p:Addr)(ds:List Deed)(m:Mo)(O:Addr->Prop)(i:Int)(n:Str)(day need:Int)(l1 l2:Addr)(o1 o2:List Str)(f:Str->Int),vs = [.ref p,.int i,.str n,.int day,.int need,.ref l1,.ref l2]/\MSt C CM H p ds m O/\CsA ds m H l1 l2 o1 o2 day need f/\¬O l1/\¬O l2/\n.length<=100/\okI i /\
 Ub E c H (∀O' H',MSt C CM H' p ds (m.acc i n day need f o1 o2) O'->Frm O H O' H'->Q (.int m.trials.length) H') (Zbt ds m i n day need f o1 o2)
abbrev Zi2:Stmt:=Ym (top 58) 10
theorem Z26:FnScope ["self", "case", "name", "day", "need", "ones", "others"] ["self", "case", "name", "day", "need", "ones", "others"] (Zh Zi2):=fsc
theorem Zt5(Zi3:HasM K CM "accuse" "Moot.accuse" Zi2)(T:Txt mg)(Tm:TxCMoot K CM)(er:Er K mg c errs)(Y5:FnX P w K mg base "check_day" 1 (spM 0 9999 c))(Zde:FnX P w K mg base "check_need" 1 (spM 1 12000 c))(MM_check_named:MtX P w K mg base CM "check_named" 3 (Zbl C CM c))(MM_check_sides:MtX P w K mg base CM "check_sides" 4 (Zdx C CM c))(Z27:Fn P w K mg base "breakers_stands" ["suits", "case", "name"] 6 Zlc)(MM_try_case:Mt P w K mg base CM "try_case" ["self", "day", "need", "ones", "others", "oath"] 5 (Ze6 C CM)):MtX P w K mg base CM "accuse" 7 (Zog C CM c):=by
 refine Zi3.mtX Z26 (fun _ _ _ _ _ _=>al7 fun _ _ _ _ _ _ _=>rfl) (fun vs H Q E h=>?_) (fun f cdv A outer s H vs Q E hr h=>?_)
 ·obtain⟨p,ds,m,O,i,n,day,need,l1,l2,o1,o2,f,rfl,_⟩:=h
  rfl
 ·obtain⟨_,ds,m,_,i,n,day,need,l1,l2,o1,o2,f,rfl,⟨M,wa,xs,qs,rfl,W,rfl⟩,a,w1,w2,hx,hi,k⟩:=h
  refine⟨_,(Ze (Zi (Wb Zw Y5 (Za (qvN 3) Zb)))
 (Ze (Zi (Wb Zw Zde (Za (qvN 4) Zb)))
 (Ze (Zi (Yh Zw (qvN 0) Tm.cl MM_check_named (Za (qvN 3) (Za (Zz Wp (qvN 5) (qvN 6)) (Za Y9 (Za (Zs (Za (qvN 1) (Za (qvN 2) Zb))) Zb))))))
 (Ze (Zi (Yh Zw (qvN 0) Tm.cl MM_check_sides (Za (qvN 3) (Za (qvN 4) (Za (qvN 5) (Za (qvN 6) Zb))))))
 (Ze (Zp (Zvn (Z6 Z27 (Za (Zq (qvN 0)) (Za (qvN 1) (Za (qvN 2) Zb)))) (fun _=>rfl)) (Zf (Yz Yp er (Y2 (Yj (Yr (qvN 2) (Yj (Yr (qvN 1) (Yj Y1)))))))) Zo)
 (Ze (Zi (Wf F.plainAttrs_list F.slot_list_append F.type_list_append Wm (Zq (qvN 0)) (Za (Zs (Za Zn (Za (qvN 1) (Za (qvN 2) (Za (qvN 3) (Za (qvN 4) (Za (Uy Zbi T.list V9 (Za (qvN 5) Zb)) (Za (Uy Zbi T.list V9 (Za (qvN 6) Zb)) Zb)))))))) Zb)))
 (Zf (Zu (Yw (qvN 0) Tm.cl MM_try_case (Za (qvN 3) (Za (qvN 4) (Za (qvN 5) (Za (qvN 6) (Za (Zs (Za (qvN 1) (Za (qvN 2) Zb))) Zb)))))))))))))),?_⟩
  have hz:(5000:Nat)<=sizeLine:=by decide
  obtain⟨dm,obm⟩:=W.ob
  have ⟨ok,hds,h1,h2,n1,n2,dI,ni,hw⟩:=a
  have e1:(o1.map V.str).length=o1.length:=xB ..
  have e2:(o2.map V.str).length=o2.length:=xB ..
  unfold Zbt at k
  refine⟨_,rfl,day,rfl,dI,?_⟩
  cases ed:eM 0 9999 day with
  | some z=>rw[ed] at k;exact k H (Same.refl H)
  | none =>
  rw[ed,xG] at k
  obtain⟨d0,d1⟩:=Uj ed
  refine⟨_,rfl,need,rfl,ni,?_⟩
  cases en:eM 1 12000 need with
  | some z=>rw[en] at k;exact k H (Same.refl H)
  | none =>
  rw[en,xG] at k
  refine⟨_,rfl,M.p,dm,_,rfl,obm,Z8 _ (by decide +kernel),_,rfl,_,rfl,_,rfl,l1,l2,_,_,rfl,rfl,h1,h2,by rw[e1,e2];lia,fun q hq=>?_⟩
  have S1:=Same.new (o:=.lst (o1.map V.str++o2.map V.str)) hq
  have k1:(upd H q (.lst (o1.map V.str++o2.map V.str))) q=some (.lst ((o1++o2).map V.str)):=by rw[Zg,xV]
  generalize (upd H q (.lst (o1.map V.str++o2.map V.str)))=H1 at S1 k1 ⊢
  refine⟨_,rfl,_,rfl,by show 2<=sizeLine;lia,fun t ht=>?_⟩
  have S2':=Same.new (o:=.tup [.int i,.str n]) ht
  have S2:=S1.trans S2'
  have k2:(upd H1 t (.tup [.int i,.str n])) t=some (.tup [.int i,.str n]):=Zg
  have k2q:=S2' _ _ k1
  generalize (upd H1 t (.tup [.int i,.str n]))=H2 at S2 k2 k2q ⊢
  refine⟨M,ds,wa,xs,m,qs,day,q,o1++o2,none,some (i,n),.ref t,rfl,W.same S2,ok,k2q,fun n hn=>(hw n hn).1,dI,(fun j e=>nomatch e),⟨hi,hx,t,rfl,k2⟩,fun H4 S4'=>?_⟩
  have S4:=S2.trans S4'
  cases ea:Yl ds m day (o1++o2) none (some (i,n)) with
  | some z=>rw[ea] at k;exact k H4 S4
  | none =>
  rw[ea,xG] at k
  obtain⟨p1,_,p3⟩:=Zdy ea
  have ho:=p3 i n rfl
  have hall:=a.all p1
  refine⟨_,rfl,M.p,dm,_,rfl,S4 _ _ obm,Z8 _ (by decide +kernel),_,rfl,_,rfl,_,rfl,_,rfl,M,ds,wa,xs,m,qs,day,need,l1,l2,o1,o2,f,rfl,W.same S4,ok,hds,S4 _ _ h1,S4 _ _ h2,n1,n2,d0,d1,ni,hall,fun H5 S5'=>?_⟩
  have S5:=S4.trans S5'
  cases es:Vi m need f o1 o2 with
  | some z=>rw[es] at k;exact k H5 S5
  | none =>
  rw[es,xG] at k
  obtain⟨g0,g1⟩:=Uj en
  have h4:=(Zbx es).2
  have hin:inB i m.trials.length:=by
   unfold Wz at ho
   by_cases z:inB i m.trials.length
   ·exact z
   ·split at ho
    ·rw[if_neg z] at ho;cases ho
    ·cases ho
  obtain⟨j,rfl⟩:=yK hin.1
  obtain⟨ts,t1,t2,_⟩:=((W.same S5).ls (M.lt,m.trials.map Ws) (by simp[Mo.at_])).get
  have hle:=ok.le
  refine⟨_,rfl,M.p,CM,dm,_,_,rfl,S5 _ _ obm,Tm.cl,Tm.nt,Zaw _,_,rfl,_,rfl,M.lt,m.trials,j,n,rfl,⟨ts,t1,t2⟩,ok.ok,by lia,hx,ho,fun lb H6 hlb klb S6'=>?_⟩
  have S6:=S5.trans S6'
  refine⟨_,.inl ⟨_,SqL.of klb,rfl⟩,?_⟩
  cases eb:Zfe m.trials j n with
  | cons z r =>
   rw[eb,if_neg (by intro y;cases y)] at k
   exact Z5 ⟨by decide +kernel,_,rfl,.inl ⟨n,rfl,by lia⟩,by decide +kernel,_,rfl,.inr ⟨_,rfl,Wj hi⟩,by decide +kernel,fun _=>k H6 S6⟩
  | nil =>
  rw[eb,if_pos rfl] at k
  refine Zt ?_
  have W6:=W.same S6
  obtain⟨vs,f1,_,f2⟩:=(W6.ls (M.ld,m.deeds) (by simp[Mo.at_])).get
  dsimp only at f1 f2
  refine⟨_,rfl,M.p,CM,dm,_,_,rfl,S6 _ _ obm,Tm.cl,Tm.nd,Vm _,.inl ⟨rfl,_,SqL.of f1⟩,_,rfl,_,rfl,_,rfl,_,rfl,_,rfl,l1,_,rfl,.inl (SqL.of (S6 _ _ h1)),fun a1 ha1=>?_⟩
  have Sa:=Same.new (o:=.lst (o1.map V.str)) ha1
  have ka:(upd H6 a1 (.lst (o1.map V.str))) a1=some (.lst (o1.map V.str)):=Zg
  generalize (upd H6 a1 (.lst (o1.map V.str)))=Ha at Sa ka ⊢
  refine⟨_,rfl,l2,_,rfl,.inl (SqL.of (Sa _ _ (S6 _ _ h2))),fun a2 ha2=>?_⟩
  have Sb:=Same.new (o:=.lst (o2.map V.str)) ha2
  have kb:(upd Ha a2 (.lst (o2.map V.str))) a2=some (.lst (o2.map V.str)):=Zg
  generalize (upd Ha a2 (.lst (o2.map V.str)))=Hb at Sb kb ⊢
  refine⟨by show 7<=sizeLine;lia,fun q' hq'=>?_⟩
  have Sc:=Same.new (o:=.tup [.str "accuse", .int j,.str n,.int day,.int need,.ref a1,.ref a2]) hq'
  have kc:(upd Hb q' (.tup [.str "accuse", .int j,.str n,.int day,.int need,.ref a1,.ref a2])) q'=some (.tup [.str "accuse", .int j,.str n,.int day,.int need,.ref a1,.ref a2]):=Zg
  generalize (upd Hb q' (.tup [.str "accuse", .int j,.str n,.int day,.int need,.ref a1,.ref a2]))=Hc at Sc kc ⊢
  have Sac:=(Sa.trans Sb).trans Sc
  refine⟨M.ld,vs,.ref q',rfl,rfl,Sac _ _ f1,by lia,?_⟩
  have ka':=Sc _ _ (Sb _ _ ka)
  have kb':=Sc _ _ kb
  obtain⟨W7,R7⟩:=W6.deed2 Sac ha1 (Sa.free ha2) ka' kb' f1 (d:=acD j n day need o1 o2) (v:=.ref q')
   ⟨q',_,rfl,Wd kc,⟨_,_,rfl,rfl,⟨_,_,rfl,rfl,⟨_,_,rfl,rfl,⟨_,_,rfl,rfl,⟨_,_,rfl,rfl,⟨_,_,rfl,⟨a1,_,rfl,Zae (by simp) ka',Ut _ _⟩,⟨_,_,rfl,⟨a2,_,rfl,Zae (by simp) kb',Ut _ _⟩,rfl⟩⟩⟩⟩⟩⟩⟩⟩
  replace R7:=(Frm.same S6).trans R7
  generalize (upd Hc M.ld (.lst (vs ++ [.ref q'])))=H7 at W7 R7 ⊢
  obtain⟨dm7,obm7⟩:=W7.ob
  refine⟨_,rfl,M.p,dm7,_,rfl,obm7,Z8 _ (by decide +kernel),_,rfl,_,rfl,_,rfl,_,rfl,_,rfl,_,rfl,by show 2<=sizeLine;lia,fun t2 ht2=>?_⟩
  have S8:=Same.new (o:=.tup [.int j,.str n]) ht2
  have k8:(upd H7 t2 (.tup [.int j,.str n])) t2=some (.tup [.int j,.str n]):=Zg
  generalize (upd H7 t2 (.tup [.int j,.str n]))=H8 at S8 k8 ⊢
  have R8:=R7.trans (Frm.same S8)
  refine⟨M,ds,wa,_,m.told (acD j n day need o1 o2),qs,day,need,l1,l2,o1,o2,f,some ((j:Int),n),.ref t2,rfl,W7.same S8,ok.told _,(Zbx es).1,hds,R8.1 l1 _ h1 w1,R8.1 l2 _ h2 w2,n1,n2,d0,d1,g0,g1,fun n hn=>(hall n hn).2,⟨hi,hx,t2,rfl,k8⟩,fun lv s1 s2 H9 W9 T9 F9=>?_⟩
  exact k _ _ ⟨M.setv lv,wa,_,qs,rfl,W9,rfl⟩ (R8.trans ⟨T9,F9⟩)
end
section
variable{P:Program}{w:World}{K:uFg}{mg:Str->Option Value}{base:Heap}{C CM:Addr}{c:Str->Addr}
def Mo.pena(m:Mo)(n:Str):Mo:={m with pen:=fun x=>if x=n then some (m.trials.length:Int) else m.pen x,npen:=m.npen+1,deeds:=m.deeds ++ [.tup [.str "penance", .str n]] }
def Zoh(C CM:Addr)(c:Str->Addr):Sp:=fun vs H Q E=>∃(p:Addr)(ds:List Deed)(m:Mo)(O:Addr->Prop)(n:Str),vs = [.ref p,.str n]/\MSt C CM H p ds m O/\n.length<=100/\m.npen<=1000/\m.trials.length<=1000 /\
 Ub E c H (∀O' H',MSt C CM H' p ds (m.pena n) O'->Frm O H O' H'->Q .non H') ((Z9 ds n).or ((Vn ds n).or (Yd m)))
abbrev Zi4:Stmt:=Ym (top 58) 4
theorem Z28:FnScope ["self", "name"] ["self", "name"] (Zh Zi4):=fsc
theorem Zst(Zi5:HasM K CM "penance" "Moot.penance" Zi4)(T:Txt mg)(Tc:TxC K C)(Tm:TxCMoot K CM)(M_check_known:MtX P w K mg base C "check_known" 1 (Zc0 C c))(M_check_untold:MtX P w K mg base C "check_untold" 1 (Zft C c))(MM_check_moments:MtX P w K mg base CM "check_moments" 1 (Zag C CM c)):MtX P w K mg base CM "penance" 2 (Zoh C CM c):=by
 refine Zi5.mtX Z28 (fun _ _ _ _ _ _=>al2 fun _ _=>rfl) (fun vs H Q E h=>?_) (fun f cdv A outer s H vs Q E hr h=>?_)
 ·obtain⟨p,ds,m,O,n,rfl,_⟩:=h
  rfl
 ·obtain⟨_,ds,m,_,n,rfl,⟨M,wa,xs,qs,rfl,W,rfl⟩,ho,hp4,ht4,k⟩:=h
  refine⟨_,(Ze (Zi (Yh Zw (Zq (qvN 0)) Tc.cl M_check_known (Za (qvN 1) Zb)))
 (Ze (Zi (Yh Zw (Zq (qvN 0)) Tc.cl M_check_untold (Za (qvN 1) Zb)))
 (Ze (Zi (Zat Zw (qvN 0) Tm.cl MM_check_moments))
 (Ze (Zac hr (Zq (qvN 0)) (qvN 1) (Z7 Wl T.len Y0 (Za (Zq (qvN 0)) Zb)))
 (Zf (Zi (Wf F.plainAttrs_list F.slot_list_append F.type_list_append Wm (Zq (qvN 0)) (Za (Zs (Za Zn (Za (qvN 1) Zb))) Zb)))))))),?_⟩
  have hz:(5000:Nat)<=sizeLine:=by decide
  obtain⟨dm,obm⟩:=W.ob
  obtain⟨dx,ob⟩:=W.fk.f.ob
  refine⟨_,rfl,M.p,CM,dm,_,_,rfl,obm,Tm.cl,Tm.nf,Ua _,M.L.p,dx,_,rfl,ob,Ys _ _ _ _ (by decide +kernel),_,rfl,M.L,ds,n,rfl,W.fk.f,ho,?_⟩
  cases ek:Z9 ds n with
  | some z=>rw[ek] at k;exact k H (Same.refl H)
  | none =>
  rw[ek,xG] at k
  refine⟨_,rfl,M.p,CM,dm,_,_,rfl,obm,Tm.cl,Tm.nf,Ua _,M.L.p,dx,_,rfl,ob,Ys _ _ _ _ (by decide +kernel),_,rfl,M.L,ds,n,rfl,W.fk.f,ho,?_⟩
  cases eu:Vn ds n with
  | some z=>rw[eu] at k;exact k H (Same.refl H)
  | none =>
  rw[eu,xG] at k
  refine⟨_,rfl,M.p,dm,_,rfl,obm,Z8 _ (by decide +kernel),M,ds,wa,xs,m,qs,rfl,W,?_⟩
  cases em:Yd m with
  | some z=>rw[em] at k;exact k H (Same.refl H)
  | none =>
  rw[em] at k
  have hn4:=Zay em
  obtain⟨ts,t1,_,t2⟩:=(W.ls (M.lt,m.trials.map Ws) (by simp[Mo.at_])).get
  dsimp only at t1 t2
  rw[xB] at t2
  obtain⟨kvs,p1,p2,p3⟩:=W.pn
  refine⟨_,rfl,M.p,CM,dm,_,_,rfl,obm,Tm.cl,Tm.nt,Zaw _,M.lt,ts,rfl,.inl (SqL.of t1),?_⟩
  refine⟨_,rfl,M.p,CM,dm,_,_,rfl,obm,Tm.cl,Tm.np,Zod _,_,rfl,M.dp,_,rfl,DPut.k (k:=Sum.inr n) p1 (by lia),?_⟩
  rw[t2]
  have W1:=W.pena (n:=n) (c:=(m.trials.length:Int)) p1
  have g0:∀b o,b≠M.dp->H b=some o->(upd H M.dp (.dK (Z0 kvs (.inr n) (.int m.trials.length)))) b=some o:=fun b o nb e=>by rw[Zc nb];exact e
  generalize (upd H M.dp (.dK (Z0 kvs (.inr n) (.int m.trials.length))))=H1 at W1 g0 ⊢
  obtain⟨dm2,obm2⟩:=W1.ob
  obtain⟨vs,e1,_,e2⟩:=(W1.ls (M.ld,m.deeds) (by simp[Mo.at_])).get
  dsimp only at e1 e2
  refine⟨_,rfl,M.p,CM,dm2,_,_,rfl,obm2,Tm.cl,Tm.nd,Vm _,.inl ⟨rfl,_,SqL.of e1⟩,_,rfl,by show 2<=sizeLine;lia,fun p hp=>?_⟩
  have S3:=Same.new (o:=.tup [.str "penance", .str n]) hp
  have kp:(upd H1 p (.tup [.str "penance", .str n])) p=some (.tup [.str "penance", .str n]):=Zg
  generalize (upd H1 p (.tup [.str "penance", .str n]))=H3 at S3 kp ⊢
  have W3:=W1.same S3
  refine⟨M.ld,vs,.ref p,rfl,rfl,S3 _ _ e1,by lia,?_⟩
  refine k _ _ ⟨M,wa,xs,qs,rfl,W3.deed (S3 _ _ e1) ⟨p,_,rfl,Wd kp,⟨_,_,rfl,rfl,⟨_,_,rfl,rfl,rfl⟩⟩⟩,rfl⟩ ⟨fun b o e nb=>?_,fun _ hb=>.inl hb⟩
  rw[Zc (fun z:b=M.ld=>nb (z▸Zax))]
  exact S3 _ _ (g0 b o (fun z=>nb (.inr (.inl z))) e)
end
section
variable{P:Program}{w:World}{K:uFg}{mg:Str->Option Value}{base:Heap}{C CM:Addr}{c:Str->Addr}
theorem Zt6{x:Str}(h:Vl x=true):Wq x:=by
 unfold Vl at h
 simp only[yT,decide_eq_true_eq,zE] at h
 exact⟨fun c hc=>by have:=h.2 c hc;unfold okc at this;simpa using this,h.1.1,h.1.2⟩
theorem Zt7{ds:List Deed}{n:Str}{day wt:Int}(h:Vo ds n day wt=none):Wq n/\(0<=day/\day<=9999)/\(1<=wt/\wt<=1000)/\Zk ds n=none/\(Wh ds).length < 40:=by
 unfold Vo at h
 by_cases z:Vl n=false
 ·rw[if_pos z] at h;cases h
 ·rw[if_neg z] at h
  simp only[zN] at h
  refine⟨Zt6 (by simpa using z),Uj h.1,Uj h.2.1,?_⟩
  obtain⟨a,b⟩:=h.2.2
  refine⟨Classical.byContradiction fun y=>?_,Classical.byContradiction fun y=>?_⟩
  ·rw[if_neg y] at a;cases a
  ·rw[if_neg y] at b;cases b
def coD(n:Str)(day wt:Int):D:=.tup [.str "come", .str n,.int day,.int wt]
def Zni(C CM:Addr)(c:Str->Addr):Sp:=fun vs H Q E=>∃(p:Addr)(ds:List Deed)(m:Mo)(O:Addr->Prop)(n:Str)(day wt:Int),vs = [.ref p,.str n,.int day,.int wt]/\MSt C CM H p ds m O/\ds.length<=1000/\okN n/\okI day/\okI wt /\
 Ub E c H (∀O' H',MSt C CM H' p (ds ++ [.come n day wt]) (m.told (coD n day wt)) O'->Frm O H O' H'->Q .non H') ((Vo ds n day wt).or (Yd m))
abbrev Zi6:Stmt:=Ym (top 58) 1
theorem Z29:FnScope ["self", "name", "day", "weight"] ["self", "name", "day", "weight"] (Zh Zi6):=fsc
theorem Zxv(Zi7:HasM K CM "come" "Moot.come" Zi6)(Tc:TxC K C)(Tm:TxCMoot K CM)(M_check_coming:MtX P w K mg base C "check_coming" 2 (Zlz C c))(M_come:Mt P w K mg base C "come" ["self", "name", "day", "weight"] 3 (Zm8 C))(MM_check_moments:MtX P w K mg base CM "check_moments" 1 (Zag C CM c)):MtX P w K mg base CM "come" 4 (Zni C CM c):=by
 refine Zi7.mtX Z29 (fun _ _ _ _ _ _=>al4 fun _ _ _ _=>rfl) (fun vs H Q E h=>?_) (fun f cdv A outer s H vs Q E hr h=>?_)
 ·obtain⟨p,ds,m,O,n,day,wt,rfl,_⟩:=h
  rfl
 ·obtain⟨_,ds,m,_,n,day,wt,rfl,⟨M,wa,xs,qs,rfl,W0,rfl⟩,hl,ho,hi,hw,k⟩:=h
  refine⟨_,(Ze (Zi (Yh Zw (Zq (qvN 0)) Tc.cl M_check_coming (Za (qvN 1) (Za (qvN 2) (Za (qvN 3) Zb)))))
 (Ze (Zi (Zat Zw (qvN 0) Tm.cl MM_check_moments))
 (Ze (Zi (Yw (Zq (qvN 0)) Tc.cl M_come (Za (qvN 1) (Za (qvN 2) (Za (qvN 3) Zb)))))
 (Zf (Zi (Wf F.plainAttrs_list F.slot_list_append F.type_list_append Wm (Zq (qvN 0)) (Za (Zs (Za Zn (Za (qvN 1) (Za (qvN 2) (Za (qvN 3) Zb))))) Zb))))))),?_⟩
  have hz:(5000:Nat)<=sizeLine:=by decide
  obtain⟨dm,obm⟩:=W0.ob
  obtain⟨dx,ob⟩:=W0.fk.f.ob
  refine⟨_,rfl,M.p,CM,dm,_,_,rfl,obm,Tm.cl,Tm.nf,Ua _,M.L.p,dx,_,rfl,ob,Ys _ _ _ _ (by decide +kernel),_,rfl,_,rfl,_,rfl,M.L,ds,wa,n,day,wt,rfl,W0.fk,hl,ho,hi,hw,fun H1 S1=>?_⟩
  cases ec:Vo ds n day wt with
  | some z=>rw[ec] at k;exact k H1 S1
  | none =>
  rw[ec,xG] at k
  have W1:=W0.same S1
  refine⟨_,rfl,M.p,dm,_,rfl,S1 _ _ obm,Z8 _ (by decide +kernel),M,ds,wa,xs,m,qs,rfl,W1,?_⟩
  cases em:Yd m with
  | some z=>rw[em] at k;exact k H1 S1
  | none =>
  rw[em] at k
  have hn4:=Zay em
  obtain⟨hnm,⟨d0,d1⟩,⟨w0,w1⟩,hc,hcm⟩:=Zt7 ec
  refine⟨_,rfl,M.p,CM,dm,_,_,rfl,S1 _ _ obm,Tm.cl,Tm.nf,Ua _,M.L.p,dx,_,rfl,S1 _ _ ob,Ys _ _ _ _ (by decide +kernel),_,rfl,_,rfl,_,rfl,M.L,ds,wa,n,day,wt,rfl,W1.fk,hcm,hl,hnm,d0,d1,w0,w1,hc,fun wa' H2 F2 T2 R2=>?_⟩
  have W2:=W1.folk F2 T2 R2
  obtain⟨dm2,obm2⟩:=W2.ob
  obtain⟨vs,e1,_,e2⟩:=(W2.ls (M.ld,m.deeds) (by simp[Mo.at_])).get
  dsimp only at e1 e2
  refine⟨_,rfl,M.p,CM,dm2,_,_,rfl,obm2,Tm.cl,Tm.nd,Vm _,.inl ⟨rfl,_,SqL.of e1⟩,_,rfl,_,rfl,_,rfl,by show 4<=sizeLine;lia,fun p hp=>?_⟩
  have S3:=Same.new (o:=.tup [.str "come", .str n,.int day,.int wt]) hp
  have kp:(upd H2 p (.tup [.str "come", .str n,.int day,.int wt])) p=some (.tup [.str "come", .str n,.int day,.int wt]):=Zg
  generalize (upd H2 p (.tup [.str "come", .str n,.int day,.int wt]))=H3 at S3 kp ⊢
  have W3:=W2.same S3
  refine⟨M.ld,vs,.ref p,rfl,rfl,S3 _ _ e1,by lia,?_⟩
  refine k _ _ ⟨M,wa',xs,qs,rfl,W3.deed (S3 _ _ e1) ⟨p,_,rfl,Wd kp,⟨_,_,rfl,rfl,⟨_,_,rfl,rfl,⟨_,_,rfl,rfl,⟨_,_,rfl,rfl,rfl⟩⟩⟩⟩⟩,rfl⟩ ⟨fun b o e nb=>?_,fun b hb=>?_⟩
  ·rw[Zc (fun z:b=M.ld=>nb (z▸Zax))]
   exact S3 _ _ (T2 b o (S1 _ _ e) fun z=>nb (.inr (.inr (.inr (.inr z)))))
  ·exact(MFresh.folk (xs:=xs) (qs:=qs) R2 b hb).imp id S1.free
end
section
variable{P:Program}{w:World}{K:uFg}{mg:Str->Option Value}{base:Heap}{C CM:Addr}{c:Str->Addr}
def Zqv(n:Str)(day:Int):D:=.tup [.str "bring", .str n,.int day]
def Mo.brg(m:Mo)(n:Str)(day:Int):Mo:={m with brs:=m.brs ++ [.tup [.str n,.int day]],haps:=m.haps ++ [[]],deeds:=m.deeds ++ [Zqv n day] }
def Zcs(m:Mo):Option Str:=if m.brs.length < 40 then none else some "TooMany"
def Zmm(C CM:Addr)(c:Str->Addr):Sp:=fun vs H Q E=>∃(p:Addr)(ds:List Deed)(m:Mo)(O:Addr->Prop)(n:Str)(day:Int),vs = [.ref p,.str n,.int day]/\MSt C CM H p ds m O/\MoK m/\n.length<=100/\okI day /\
 Ub E c H (∀O' H',MSt C CM H' p ds (m.brg n day) O'->Frm O H O' H'->Q (.int m.brs.length) H') ((eM 0 9999 day).or ((Yl ds m day [n] none none).or ((Zcs m).or (Yd m))))
abbrev Zi8:Stmt:=Ym (top 58) 5
theorem Z3a:FnScope ["self", "name", "day"] ["self", "name", "day"] (Zh Zi8):=fsc
theorem Zvx(Zi9:HasM K CM "bring" "Moot.bring" Zi8)(T:Txt mg)(Tm:TxCMoot K CM)(C0:∃t,mg "MOST_THINGS" = some (.int 40 t))(er:Er K mg c errs)(Y5:FnX P w K mg base "check_day" 1 (spM 0 9999 c))(MM_check_named:MtX P w K mg base CM "check_named" 3 (Zbl C CM c))(MM_check_moments:MtX P w K mg base CM "check_moments" 1 (Zag C CM c)):MtX P w K mg base CM "bring" 4 (Zmm C CM c):=by
 obtain⟨t0,c_MOST_THINGS⟩:=C0
 have r_MOST_THINGS:RelV (.int 40) (.int 40 t0):=⟨t0,rfl⟩
 refine Zi9.mtX Z3a (fun _ _ _ _ _ _=>al3 fun _ _ _=>rfl) (fun vs H Q E h=>?_) (fun f cdv A outer s H vs Q E hr h=>?_)
 ·obtain⟨p,ds,m,O,n,day,rfl,_⟩:=h
  rfl
 ·obtain⟨_,ds,m,_,n,day,rfl,⟨M,wa,xs,qs,rfl,W0,rfl⟩,ok,ho,dI,k⟩:=h
  refine⟨_,(Ze (Zi (Wb Zw Y5 (Za (qvN 2) Zb)))
 (Ze (Zi (Yh Zw (qvN 0) Tm.cl MM_check_named (Za (qvN 2) (Za (Zy (Za (qvN 1) Zb)) (Za Y9 (Za Y9 Zb))))))
 (Ze (Zp (Zv Zab (Z7 Wl T.len Y0 (Za (Zq (qvN 0)) Zb)) (Yy c_MOST_THINGS r_MOST_THINGS) (Z1 _)) (Zf (Yz Yp er (Y2 (Yj (Yr (Yy c_MOST_THINGS r_MOST_THINGS) (Yj Y1)))))) Zo)
 (Ze (Zi (Zat Zw (qvN 0) Tm.cl MM_check_moments))
 (Ze (Zi (Wf F.plainAttrs_list F.slot_list_append F.type_list_append Wm (Zq (qvN 0)) (Za (Zs (Za (qvN 1) (Za (qvN 2) Zb))) Zb)))
 (Ze (Zi (Wf F.plainAttrs_list F.slot_list_append F.type_list_append Wm (Zq (qvN 0)) (Za (Zy Zb) Zb)))
 (Ze (Zi (Wf F.plainAttrs_list F.slot_list_append F.type_list_append Wm (Zq (qvN 0)) (Za (Zs (Za Zn (Za (qvN 1) (Za (qvN 2) Zb)))) Zb)))
 (Zf (Zu (Zz Zb1 (Z7 Wl T.len Y0 (Za (Zq (qvN 0)) Zb)) Zd)))))))))),?_⟩
  have hz:(5000:Nat)<=sizeLine:=by decide
  have hhb:=ok.hb
  refine⟨_,rfl,day,rfl,dI,?_⟩
  cases ed:eM 0 9999 day with
  | some z=>rw[ed] at k;exact k H (Same.refl H)
  | none =>
  rw[ed,xG] at k
  obtain⟨dm,obm⟩:=W0.ob
  refine⟨_,rfl,M.p,dm,_,rfl,obm,Z8 _ (by decide +kernel),_,rfl,_,rfl,by show 1<=sizeLine;lia,fun pl hpl=>?_⟩
  have S1:=Same.new (o:=.lst [.str n]) hpl
  have k1:(upd H pl (.lst [.str n])) pl=some (.lst ([n].map V.str)):=Zg
  generalize (upd H pl (.lst [.str n]))=H1 at S1 k1 ⊢
  have W1:=W0.same S1
  refine⟨M,ds,wa,xs,m,qs,day,pl,[n],none,none,.non,rfl,W1,ok,k1,fun m hm=>by rw[xK.mp hm];exact ho,dI,(fun j e=>nomatch e),rfl,fun H1' S1'=>?_⟩
  replace S1:=S1.trans S1'
  replace W1:=W1.same S1'
  cases en:Yl ds m day [n] none none with
  | some z=>rw[en] at k;exact k H1' S1
  | none =>
  rw[en,xG] at k
  have obm1:=S1 _ _ obm
  obtain⟨us,e1,_,hul⟩:=(W1.ls (M.lb,m.brs) (by simp[Mo.at_])).get
  dsimp only at e1 hul
  refine⟨_,rfl,M.p,CM,dm,_,_,rfl,obm1,Tm.cl,Tm.nb,Zcz _,M.lb,us,rfl,.inl (SqL.of e1),_,_,rfl,rfl,_,rfl,Yg (fun z=>?_) (fun z=>?_)⟩
  ·have:Zcs m=some "TooMany" := if_neg (by lia)
   rw[this] at k
   exact⟨by decide +kernel,.inr ⟨40,rfl,by decide +kernel⟩,by decide +kernel,fun _=>k H1' S1⟩
  have hl:m.brs.length < 40:=by lia
  have:Zcs m=none:=if_pos hl
  rw[this,xG] at k
  refine⟨_,rfl,M.p,dm,_,rfl,obm1,Z8 _ (by decide +kernel),M,ds,wa,xs,m,qs,rfl,W1,?_⟩
  cases em:Yd m with
  | some z=>rw[em] at k;exact k H1' S1
  | none =>
  rw[em] at k
  have hn4:=Zay em
  refine⟨_,rfl,M.p,CM,dm,_,_,rfl,obm1,Tm.cl,Tm.nb,Zcz _,.inl ⟨rfl,_,SqL.of e1⟩,_,rfl,_,rfl,by show 2<=sizeLine;lia,fun a ha=>?_⟩
  have S2:=Same.new (o:=.tup [.str n,.int day]) ha
  have k2:(upd H1' a (.tup [.str n,.int day])) a=some (.tup [.str n,.int day]):=Zg
  generalize (upd H1' a (.tup [.str n,.int day]))=H2 at S2 k2 ⊢
  have W2:=W1.same S2
  refine⟨M.lb,us,.ref a,rfl,rfl,S2 _ _ e1,by lia,?_⟩
  have W3:=W2.brg (S2 _ _ e1) (d:=.tup [.str n,.int day]) (v:=.ref a) ⟨a,_,rfl,Wd k2,⟨_,_,rfl,rfl,⟨_,_,rfl,rfl,rfl⟩⟩⟩
  have T3:Zah M ds wa xs qs H (upd H2 M.lb (.lst (us ++ [.ref a]))):=fun b o e nb=>by
   rw[Zc (fun z:b=M.lb=>nb (z ▸ .inr (.inr (.inl (by simp[ML.ls])))))]
   exact S2 _ _ (S1 _ _ e)
  generalize (upd H2 M.lb (.lst (us ++ [.ref a])))=H3 at W3 T3 ⊢
  obtain⟨dm2,obm2⟩:=W3.ob
  have e3:=W3.hl
  refine⟨_,rfl,M.p,CM,dm2,_,_,rfl,obm2,Tm.cl,Tm.nh,Zgc _,.inl ⟨rfl,_,SqL.of e3⟩,by show 0<=sizeLine;lia,fun q hq=>?_⟩
  have S4:=Same.new (o:=.lst []) hq
  have k4:(upd H3 q (.lst [])) q=some (.lst []):=Zg
  have nq:¬mo M ds wa xs qs q:=fun z=>by obtain⟨o,e⟩:=W3.there z;rw[hq] at e;cases e
  have hqf:H q=none:=by
   cases e:H q with
   | none=>rfl
   | some o=>rw[T3 q o e nq] at hq;cases hq
  generalize (upd H3 q (.lst []))=H4 at S4 k4 ⊢
  refine⟨M.lh,qs.map V.ref,.ref q,rfl,rfl,S4 _ _ e3,by rw[xB];have:=W0.hn;lia,?_⟩
  have W5:=(W3.same S4).newq k4 nq
  have T5:Zah M ds wa xs qs H (upd H4 M.lh (.lst (qs.map V.ref ++ [.ref q]))):=fun b o e nb=>by
   rw[Zc (fun z:b=M.lh=>nb (z ▸ .inr (.inr (.inl yC))))]
   exact S4 _ _ (T3 b o e nb)
  have em:(qs ++ [q]).map V.ref=qs.map V.ref ++ [.ref q]:=by rw[xV];rfl
  rw[em] at W5
  generalize (upd H4 M.lh (.lst (qs.map V.ref ++ [.ref q])))=H5 at W5 T5 ⊢
  obtain⟨dm4,obm4⟩:=W5.ob
  obtain⟨vs,f1,_,f2⟩:=(W5.ls (M.ld,m.deeds) (by simp[Mo.at_])).get
  dsimp only at f1 f2
  refine⟨_,rfl,M.p,CM,dm4,_,_,rfl,obm4,Tm.cl,Tm.nd,Vm _,.inl ⟨rfl,_,SqL.of f1⟩,_,rfl,_,rfl,by show 3<=sizeLine;lia,fun p hp=>?_⟩
  have S6:=Same.new (o:=.tup [.str "bring", .str n,.int day]) hp
  have k6:(upd H5 p (.tup [.str "bring", .str n,.int day])) p=some (.tup [.str "bring", .str n,.int day]):=Zg
  generalize (upd H5 p (.tup [.str "bring", .str n,.int day]))=H6 at S6 k6 ⊢
  have W6:=W5.same S6
  refine⟨M.ld,vs,.ref p,rfl,rfl,S6 _ _ f1,by lia,?_⟩
  have W7:=W6.deed (v:=.ref p) (S6 _ _ f1) (d:=.tup [.str "bring", .str n,.int day]) ⟨p,_,rfl,Wd k6,⟨_,_,rfl,rfl,⟨_,_,rfl,rfl,⟨_,_,rfl,rfl,rfl⟩⟩⟩⟩
  have T7:Zah M ds wa xs qs H (upd H6 M.ld (.lst (vs ++ [.ref p]))):=fun b o e nb=>by
   rw[Zc (fun z:b=M.ld=>nb (z▸Zax))]
   exact S6 _ _ (T5 b o e nb)
  generalize (upd H6 M.ld (.lst (vs ++ [.ref p])))=H7 at W7 T7 ⊢
  obtain⟨dm6,obm6⟩:=W7.ob
  obtain⟨us6,g1,_,g2⟩:=(W7.ls (M.lb,m.brs ++ [.tup [.str n,.int day]]) (by simp[Mo.at_])).get
  dsimp only at g1 g2
  rw[xN] at g2
  refine⟨_,rfl,M.p,CM,dm6,_,_,rfl,obm6,Tm.cl,Tm.nb,Zcz _,M.lb,us6,rfl,.inl (SqL.of g1),_,_,rfl,rfl,?_⟩
  have ei:((us6.length:Int) - 1)=(m.brs.length:Int):=by rw[g2];simp
  show Q (.int ((us6.length:Int) - 1)) H7
  rw[ei]
  refine k _ H7 ⟨M,wa,xs,_,rfl,W7,rfl⟩ ⟨T7,fun b hb=>?_⟩
  rcases hb with z | z | z | z | z
  ·exact .inl (.inl z)
  ·exact .inl (.inr (.inl z))
  ·rw[← yO,← xY] at z
   rcases xJ.mp z with z | z
   ·exact .inl (.inr (.inr (.inl z)))
   ·rw[xK.mp z];exact .inr hqf
  ·exact .inl (.inr (.inr (.inr (.inl z))))
  ·exact .inl (.inr (.inr (.inr (.inr z))))
end
section
variable{P:Program}{w:World}{K:uFg}{mg:Str->Option Value}{base:Heap}{C CM:Addr}{c:Str->Addr}
def gvD(i:Int)(x y:Str)(day:Int):D:=.tup [.str "give", .int i,.str x,.str y,.int day]
def Mo.give(m:Mo)(i:Nat)(x y:Str)(day:Int):Mo:={m with haps:=m.haps.set i (m.haps.getD i [] ++ [.tup [.non,.tup [.int day,.str "given", .str x,.str y]]]),deeds:=m.deeds ++ [gvD i x y day] }
def Znj(C CM:Addr)(c:Str->Addr):Sp:=fun vs H Q E=>∃(p:Addr)(ds:List Deed)(m:Mo)(O:Addr->Prop)(i:Int)(x y:Str)(day:Int),vs = [.ref p,.int i,.str x,.str y,.int day]/\MSt C CM H p ds m O/\MoK m/\x.length<=100/\y.length<=100/\okI i/\okI day /\
 Ub E c H (∀O' H',MSt C CM H' p ds (m.give i.toNat x y day) O'->Frm O H O' H'->Q .non H') ((eM 0 9999 day).or ((Yl ds m day [x,y] (some i) none).or (Yd m)))
abbrev Zja:Stmt:=Ym (top 58) 6
theorem Z3b:FnScope ["self", "thing", "giver", "taker", "day"] ["self", "thing", "giver", "taker", "day"] (Zh Zja):=fsc
theorem Zxw(Zjb:HasM K CM "give" "Moot.give" Zja)(Tm:TxCMoot K CM)(Y5:FnX P w K mg base "check_day" 1 (spM 0 9999 c))(MM_check_named:MtX P w K mg base CM "check_named" 3 (Zbl C CM c))(MM_check_moments:MtX P w K mg base CM "check_moments" 1 (Zag C CM c)):MtX P w K mg base CM "give" 4 (Znj C CM c):=by
 refine Zjb.mtX Z3b (fun _ _ _ _ _ _=>al5 fun _ _ _ _ _=>rfl) (fun vs H Q E h=>?_) (fun f cdv A outer s H vs Q E hr h=>?_)
 ·obtain⟨p,ds,m,O,i,x,y,day,rfl,_⟩:=h
  rfl
 ·obtain⟨_,ds,m,_,i,x,y,day,rfl,⟨M,wa,xs,qs,rfl,W0,rfl⟩,ok,hx,hy,hi,dI,k⟩:=h
  refine⟨_,(Ze (Zi (Wb Zw Y5 (Za (qvN 4) Zb)))
 (Ze (Zi (Yh Zw (qvN 0) Tm.cl MM_check_named (Za (qvN 4) (Za (Zy (Za (qvN 2) (Za (qvN 3) Zb))) (Za (qvN 1) (Za Y9 Zb))))))
 (Ze (Zi (Zat Zw (qvN 0) Tm.cl MM_check_moments))
 (Ze (Zi (Wf F.plainAttrs_list F.slot_list_append F.type_list_append Wm (Zl Yu (Zq (qvN 0)) (qvN 1) (fun _ _=>rfl)) (Za (Zs (Za Y9 (Za (Zs (Za (qvN 4) (Za Zn (Za (qvN 2) (Za (qvN 3) Zb))))) Zb))) Zb)))
 (Zf (Zi (Wf F.plainAttrs_list F.slot_list_append F.type_list_append Wm (Zq (qvN 0)) (Za (Zs (Za Zn (Za (qvN 1) (Za (qvN 2) (Za (qvN 3) (Za (qvN 4) Zb)))))) Zb)))))))),?_⟩
  have hz:(5000:Nat)<=sizeLine:=by decide
  refine⟨_,rfl,day,rfl,dI,?_⟩
  cases ed:eM 0 9999 day with
  | some z=>rw[ed] at k;exact k H (Same.refl H)
  | none =>
  rw[ed,xG] at k
  obtain⟨dm,obm⟩:=W0.ob
  refine⟨_,rfl,M.p,dm,_,rfl,obm,Z8 _ (by decide +kernel),_,rfl,_,rfl,_,rfl,by show 2<=sizeLine;lia,fun pl hpl=>?_⟩
  have S1:=Same.new (o:=.lst [.str x,.str y]) hpl
  have k1:(upd H pl (.lst [.str x,.str y])) pl=some (.lst ([x,y].map V.str)):=Zg
  generalize (upd H pl (.lst [.str x,.str y]))=H1 at S1 k1 ⊢
  refine⟨_,rfl,M,ds,wa,xs,m,qs,day,pl,[x,y],some i,none,.non,rfl,W0.same S1,ok,k1,fun n hn=>?_,dI,(fun j e=>by cases e;exact hi),rfl,fun H1' S1'=>?_⟩
  ·rcases xD.mp hn with z | z
   ·rw[z];exact hx
   ·rw[xK.mp z];exact hy
  replace S1:=S1.trans S1'
  cases en:Yl ds m day [x,y] (some i) none with
  | some z=>rw[en] at k;exact k H1' S1
  | none =>
  rw[en,xG] at k
  have W1:=W0.same S1
  have obm1:=S1 _ _ obm
  refine⟨_,rfl,M.p,dm,_,rfl,obm1,Z8 _ (by decide +kernel),M,ds,wa,xs,m,qs,rfl,W1,?_⟩
  cases em:Yd m with
  | some z=>rw[em] at k;exact k H1' S1
  | none =>
  rw[em] at k
  have hn4:=Zay em
  obtain⟨_,p2,_⟩:=Zdy en
  have hin:inB i m.brs.length:=by
   have:=p2 i rfl
   unfold Vs at this
   by_cases z:inB i m.brs.length
   ·exact z
   ·rw[if_neg z] at this;cases this
  obtain⟨i,rfl⟩:=yK hin.1
  have hj:i < m.haps.length:=by rw[ok.hb];have:=hin.2;lia
  have hcl:m.haps[i]? = some (m.haps.getD i []):=by rw[xS,xC hj];rfl
  have hcn:=ok.hl _ (xI hcl)
  rw[yN] at k
  unfold Mo.give at k
  generalize m.haps.getD i []=cl at hcl hcn k
  have hi:i < qs.length:=by rw[W1.hn];exact(xF.mp hcl).1
  have hq:qs[i]? = some qs[i]:=xC hi
  have mz:(qs[i],cl)∈qs.zip m.haps:=xI (i:=i) (by rw[zA];exact⟨hq,hcl⟩)
  obtain⟨us,e1,_,hul⟩:=(W1.ls (qs[i],cl) (by simp[Mo.at_,mz])).get
  dsimp only at e1 hul
  refine⟨_,rfl,M.p,CM,dm,_,_,rfl,obm1,Tm.cl,Tm.nh,Zgc _,_,rfl,M.lh,_,i,.ref qs[i],rfl,rfl,SqL.of W1.hl,Va (by rw[xO,hq];rfl),.inl ⟨rfl,_,SqL.of e1⟩,_,rfl,_,rfl,_,rfl,by show 4<=sizeLine;lia,fun b hb=>?_⟩
  have S2:=Same.new (o:=.tup [.int day,.str "given", .str x,.str y]) hb
  have k2:(upd H1' b (.tup [.int day,.str "given", .str x,.str y])) b=some (.tup [.int day,.str "given", .str x,.str y]):=Zg
  generalize (upd H1' b (.tup [.int day,.str "given", .str x,.str y]))=H2 at S2 k2 ⊢
  refine⟨by show 2<=sizeLine;lia,fun a ha=>?_⟩
  have S3:=Same.new (o:=.tup [.non,.ref b]) ha
  have k3:(upd H2 a (.tup [.non,.ref b])) a=some (.tup [.non,.ref b]):=Zg
  generalize (upd H2 a (.tup [.non,.ref b]))=H3 at S3 k3 ⊢
  have W3:=(W1.same S2).same S3
  have e3:=S3 _ _ (S2 _ _ e1)
  refine⟨qs[i],us,.ref a,rfl,rfl,e3,by lia,?_⟩
  have W4:=W3.hap hq hcl (d:=.tup [.non,.tup [.int day,.str "given", .str x,.str y]]) (v:=.ref a) e3 ⟨a,_,rfl,Wd k3,⟨_,_,rfl,rfl,⟨_,_,rfl,⟨b,_,rfl,Wd (S3 _ _ k2),⟨_,_,rfl,rfl,⟨_,_,rfl,rfl,⟨_,_,rfl,rfl,⟨_,_,rfl,rfl,rfl⟩⟩⟩⟩⟩,rfl⟩⟩⟩
  have T4:Zah M ds wa xs qs H (upd H3 qs[i] (.lst (us ++ [.ref a]))):=fun c o e nb=>by
   rw[Zc (fun z:c=qs[i]=>nb (z ▸ .inr (.inr (.inl (xW _ (xL _ (zX hi)))))))]
   exact S3 _ _ (S2 _ _ (S1 _ _ e))
  generalize (upd H3 qs[i] (.lst (us ++ [.ref a])))=H4 at W4 T4 ⊢
  obtain⟨dm4,obm4⟩:=W4.ob
  obtain⟨vs,f1,_,f2⟩:=(W4.ls (M.ld,m.deeds) (by simp[Mo.at_])).get
  dsimp only at f1 f2
  refine⟨_,rfl,M.p,CM,dm4,_,_,rfl,obm4,Tm.cl,Tm.nd,Vm _,.inl ⟨rfl,_,SqL.of f1⟩,_,rfl,_,rfl,_,rfl,_,rfl,by show 5<=sizeLine;lia,fun p hp=>?_⟩
  have S5:=Same.new (o:=.tup [.str "give", .int i,.str x,.str y,.int day]) hp
  have kp:(upd H4 p (.tup [.str "give", .int i,.str x,.str y,.int day])) p=some (.tup [.str "give", .int i,.str x,.str y,.int day]):=Zg
  generalize (upd H4 p (.tup [.str "give", .int i,.str x,.str y,.int day]))=H5 at S5 kp ⊢
  refine⟨M.ld,vs,.ref p,rfl,rfl,S5 _ _ f1,by lia,?_⟩
  refine k _ _ ⟨M,wa,xs,qs,rfl,(W4.same S5).deed (S5 _ _ f1) ⟨p,_,rfl,Wd kp,⟨_,_,rfl,rfl,⟨_,_,rfl,rfl,⟨_,_,rfl,rfl,⟨_,_,rfl,rfl,⟨_,_,rfl,rfl,rfl⟩⟩⟩⟩⟩⟩,rfl⟩ ⟨fun c o e nb=>?_,fun _ hb=>.inl hb⟩
  rw[Zc (fun z:c=M.ld=>nb (z▸Zax))]
  exact S5 _ _ (T4 c o e nb)
end
section
variable{P:Program}{w:World}{K:uFg}{mg:Str->Option Value}{base:Heap}{C CM:Addr}{c:Str->Addr}
def pyD(x y:Str)(many day:Int):D:=.tup [.str "pay", .str x,.str y,.int many,.int day]
def Mo.pay(m:Mo)(x y:Str)(many day:Int):Mo:={m with debts:=m.debts ++ [.tup [.non,.tup [.int day,.str y,.str x,.int many]]],deeds:=m.deeds ++ [pyD x y many day] }
def Zoi(C CM:Addr)(c:Str->Addr):Sp:=fun vs H Q E=>∃(p:Addr)(ds:List Deed)(m:Mo)(O:Addr->Prop)(x y:Str)(many day:Int),vs = [.ref p,.str x,.str y,.int many,.int day]/\MSt C CM H p ds m O/\MoK m/\x.length<=100/\y.length<=100/\okI many/\okI day /\
 Ub E c H (∀O' H',MSt C CM H' p ds (m.pay x y many day) O'->Frm O H O' H'->Q .non H') ((eM 1 1000000 many).or ((eM 0 9999 day).or ((Yl ds m day [x,y] none none).or (Yd m))))
abbrev Zjc:Stmt:=Ym (top 58) 7
theorem Z3c:FnScope ["self", "payer", "taker", "many", "day"] ["self", "payer", "taker", "many", "day"] (Zh Zjc):=fsc
theorem Zzo(Zjd:HasM K CM "pay" "Moot.pay" Zjc)(Tm:TxCMoot K CM)(Zi1:FnX P w K mg base "check_money" 1 (spM 1 1000000 c))(Y5:FnX P w K mg base "check_day" 1 (spM 0 9999 c))(MM_check_named:MtX P w K mg base CM "check_named" 3 (Zbl C CM c))(MM_check_moments:MtX P w K mg base CM "check_moments" 1 (Zag C CM c)):MtX P w K mg base CM "pay" 4 (Zoi C CM c):=by
 refine Zjd.mtX Z3c (fun _ _ _ _ _ _=>al5 fun _ _ _ _ _=>rfl) (fun vs H Q E h=>?_) (fun f cdv A outer s H vs Q E hr h=>?_)
 ·obtain⟨p,ds,m,O,x,y,many,day,rfl,_⟩:=h
  rfl
 ·obtain⟨_,ds,m,_,x,y,many,day,rfl,⟨M,wa,xs,qs,rfl,W0,rfl⟩,ok,hx,hy,hmi,dI,k⟩:=h
  refine⟨_,(Ze (Zi (Wb Zw Zi1 (Za (qvN 3) Zb)))
 (Ze (Zi (Wb Zw Y5 (Za (qvN 4) Zb)))
 (Ze (Zi (Yh Zw (qvN 0) Tm.cl MM_check_named (Za (qvN 4) (Za (Zy (Za (qvN 1) (Za (qvN 2) Zb))) (Za Y9 (Za Y9 Zb))))))
 (Ze (Zi (Zat Zw (qvN 0) Tm.cl MM_check_moments))
 (Ze (Zi (Wf F.plainAttrs_list F.slot_list_append F.type_list_append Wm (Zq (qvN 0)) (Za (Zs (Za Y9 (Za (Zs (Za (qvN 4) (Za (qvN 2) (Za (qvN 1) (Za (qvN 3) Zb))))) Zb))) Zb)))
 (Zf (Zi (Wf F.plainAttrs_list F.slot_list_append F.type_list_append Wm (Zq (qvN 0)) (Za (Zs (Za Zn (Za (qvN 1) (Za (qvN 2) (Za (qvN 3) (Za (qvN 4) Zb)))))) Zb))))))))),?_⟩
  have hz:(5000:Nat)<=sizeLine:=by decide
  have hql:=ok.ql
  refine⟨_,rfl,many,rfl,hmi,?_⟩
  cases ey:eM 1 1000000 many with
  | some z=>rw[ey] at k;exact k H (Same.refl H)
  | none =>
  rw[ey,xG] at k
  refine⟨_,rfl,day,rfl,dI,?_⟩
  cases ed:eM 0 9999 day with
  | some z=>rw[ed] at k;exact k H (Same.refl H)
  | none =>
  rw[ed,xG] at k
  obtain⟨dm,obm⟩:=W0.ob
  refine⟨_,rfl,M.p,dm,_,rfl,obm,Z8 _ (by decide +kernel),_,rfl,_,rfl,_,rfl,by show 2<=sizeLine;lia,fun pl hpl=>?_⟩
  have S1:=Same.new (o:=.lst [.str x,.str y]) hpl
  have k1:(upd H pl (.lst [.str x,.str y])) pl=some (.lst ([x,y].map V.str)):=Zg
  generalize (upd H pl (.lst [.str x,.str y]))=H1 at S1 k1 ⊢
  refine⟨M,ds,wa,xs,m,qs,day,pl,[x,y],none,none,.non,rfl,W0.same S1,ok,k1,fun n hn=>?_,dI,(fun j e=>nomatch e),rfl,fun H1' S1'=>?_⟩
  ·rcases xD.mp hn with z | z
   ·rw[z];exact hx
   ·rw[xK.mp z];exact hy
  replace S1:=S1.trans S1'
  cases en:Yl ds m day [x,y] none none with
  | some z=>rw[en] at k;exact k H1' S1
  | none =>
  rw[en,xG] at k
  have W1:=W0.same S1
  have obm1:=S1 _ _ obm
  refine⟨_,rfl,M.p,dm,_,rfl,obm1,Z8 _ (by decide +kernel),M,ds,wa,xs,m,qs,rfl,W1,?_⟩
  cases em:Yd m with
  | some z=>rw[em] at k;exact k H1' S1
  | none =>
  rw[em] at k
  have hn4:=Zay em
  obtain⟨us,e1,_,hul⟩:=(W1.ls (M.lq,m.debts) (by simp[Mo.at_])).get
  dsimp only at e1 hul
  refine⟨_,rfl,M.p,CM,dm,_,_,rfl,obm1,Tm.cl,Tm.nq,Zmj _,.inl ⟨rfl,_,SqL.of e1⟩,_,rfl,_,rfl,_,rfl,_,rfl,by show 4<=sizeLine;lia,fun b hb=>?_⟩
  have S2:=Same.new (o:=.tup [.int day,.str y,.str x,.int many]) hb
  have k2:(upd H1' b (.tup [.int day,.str y,.str x,.int many])) b=some (.tup [.int day,.str y,.str x,.int many]):=Zg
  generalize (upd H1' b (.tup [.int day,.str y,.str x,.int many]))=H2 at S2 k2 ⊢
  refine⟨by show 2<=sizeLine;lia,fun a ha=>?_⟩
  have S3:=Same.new (o:=.tup [.non,.ref b]) ha
  have k3:(upd H2 a (.tup [.non,.ref b])) a=some (.tup [.non,.ref b]):=Zg
  generalize (upd H2 a (.tup [.non,.ref b]))=H3 at S3 k3 ⊢
  have W3:=(W1.same S2).same S3
  have e3:=S3 _ _ (S2 _ _ e1)
  refine⟨M.lq,us,.ref a,rfl,rfl,e3,by lia,?_⟩
  have W4:=W3.debt (d:=.tup [.non,.tup [.int day,.str y,.str x,.int many]]) (v:=.ref a) e3 ⟨a,_,rfl,Wd k3,⟨_,_,rfl,rfl,⟨_,_,rfl,⟨b,_,rfl,Wd (S3 _ _ k2),⟨_,_,rfl,rfl,⟨_,_,rfl,rfl,⟨_,_,rfl,rfl,⟨_,_,rfl,rfl,rfl⟩⟩⟩⟩⟩,rfl⟩⟩⟩
  have T4:Zah M ds wa xs qs H (upd H3 M.lq (.lst (us ++ [.ref a]))):=fun c o e nb=>by
   rw[Zc (fun z:c=M.lq=>nb (z ▸ .inr (.inr (.inl (by simp[ML.ls])))))]
   exact S3 _ _ (S2 _ _ (S1 _ _ e))
  generalize (upd H3 M.lq (.lst (us ++ [.ref a])))=H4 at W4 T4 ⊢
  obtain⟨dm4,obm4⟩:=W4.ob
  obtain⟨vs,f1,_,f2⟩:=(W4.ls (M.ld,m.deeds) (by simp[Mo.at_])).get
  dsimp only at f1 f2
  refine⟨_,rfl,M.p,CM,dm4,_,_,rfl,obm4,Tm.cl,Tm.nd,Vm _,.inl ⟨rfl,_,SqL.of f1⟩,_,rfl,_,rfl,_,rfl,_,rfl,by show 5<=sizeLine;lia,fun p hp=>?_⟩
  have S5:=Same.new (o:=.tup [.str "pay", .str x,.str y,.int many,.int day]) hp
  have kp:(upd H4 p (.tup [.str "pay", .str x,.str y,.int many,.int day])) p=some (.tup [.str "pay", .str x,.str y,.int many,.int day]):=Zg
  generalize (upd H4 p (.tup [.str "pay", .str x,.str y,.int many,.int day]))=H5 at S5 kp ⊢
  refine⟨M.ld,vs,.ref p,rfl,rfl,S5 _ _ f1,by lia,?_⟩
  refine k _ _ ⟨M,wa,xs,qs,rfl,(W4.same S5).deed (S5 _ _ f1) ⟨p,_,rfl,Wd kp,⟨_,_,rfl,rfl,⟨_,_,rfl,rfl,⟨_,_,rfl,rfl,⟨_,_,rfl,rfl,⟨_,_,rfl,rfl,rfl⟩⟩⟩⟩⟩⟩,rfl⟩ ⟨fun c o e nb=>?_,fun _ hb=>.inl hb⟩
  rw[Zc (fun z:c=M.ld=>nb (z▸Zax))]
  exact S5 _ _ (T4 c o e nb)
end
section
variable{P:Program}{w:World}{K:uFg}{mg:Str->Option Value}{base:Heap}{C CM:Addr}{c:Str->Addr}
theorem Zf1{d day:Int}(h:Yc d day=none):d<=day:=by
 unfold Yc at h
 by_cases z:day < d
 ·rw[if_pos z] at h;cases h
 ·lia
theorem Zxx{ds:List Deed}{n:Str}{day wt:Int}(h:Zaf ds n day wt=none):(0<=day/\day<=9999)/\(1<=wt/\wt<=1000)/\(∃d,Zk ds n=some d/\d<=day)/\Wo ds n day=false:=by
 unfold Zaf at h
 simp only[zN] at h
 obtain⟨h1,h2,h3,h4,h5⟩:=h
 obtain⟨d,hd⟩:=Zbv h3
 rw[hd] at h4
 refine⟨Uj h1,Uj h2,⟨d,hd,Zf1 h4⟩,?_⟩
 unfold Wu at h5
 cases z:Wo ds n day with
 | false=>rfl
 | true=>rw[if_pos z] at h5;cases h5
theorem Zzp{ds:List Deed}{n he:Str}{day:Int}(h:Um ds n he day=none):(0<=day/\day<=9999)/\(∃d,Zk ds n=some d/\d<=day)/\(∃d,Zk ds he=some d/\d<=day)/\Z3 ds n=none/\Z3 ds he=none/\he≠n:=by
 unfold Um at h
 simp only[zN] at h
 obtain⟨h1,h2,h3,h4,h5,h6,h7⟩:=h
 obtain⟨d,hd⟩:=Zbv h2
 obtain⟨e,he'⟩:=Zbv h3
 rw[hd] at h4
 rw[he'] at h5
 have h6':Z3 ds n=none:=by
  unfold Vn at h6
  by_cases z:Z3 ds n=none
  ·exact z
  ·rw[if_neg z] at h6;cases h6
 by_cases z:he=n\/Z3 ds he≠none
 ·rw[if_pos z] at h7;cases h7
 ·refine⟨Uj h1,⟨d,hd,Zf1 h4⟩,⟨e,he',Zf1 h5⟩,h6',?_,fun y=>z (.inl y)⟩
  by_cases y:Z3 ds he=none
  ·exact y
  ·exact absurd (.inr y) z
def riD(n:Str)(day wt:Int):D:=.tup [.str "rise", .str n,.int day,.int wt]
def Znk(C CM:Addr)(c:Str->Addr):Sp:=fun vs H Q E=>∃(p:Addr)(ds:List Deed)(m:Mo)(O:Addr->Prop)(n:Str)(day wt:Int),vs = [.ref p,.str n,.int day,.int wt]/\MSt C CM H p ds m O/\ds.length<=1000/\n.length<=100/\okI day/\okI wt /\
 Ub E c H (∀O' H',MSt C CM H' p (ds ++ [.rise n day wt]) (m.told (riD n day wt)) O'->Frm O H O' H'->Q .non H') ((Zaf ds n day wt).or (Yd m))
abbrev Zje:Stmt:=Ym (top 58) 2
theorem Z3d:FnScope ["self", "name", "day", "weight"] ["self", "name", "day", "weight"] (Zh Zje):=fsc
theorem Zxy(Zjf:HasM K CM "rise" "Moot.rise" Zje)(Tc:TxC K C)(Tm:TxCMoot K CM)(M_check_rise:MtX P w K mg base C "check_rise" 3 (Zoe C c))(M_rise:Mt P w K mg base C "rise" ["self", "name", "day", "weight"] 4 (Zoa C))(MM_check_moments:MtX P w K mg base CM "check_moments" 1 (Zag C CM c)):MtX P w K mg base CM "rise" 5 (Znk C CM c):=by
 refine Zjf.mtX Z3d (fun _ _ _ _ _ _=>al4 fun _ _ _ _=>rfl) (fun vs H Q E h=>?_) (fun f cdv A outer s H vs Q E hr h=>?_)
 ·obtain⟨p,ds,m,O,n,day,wt,rfl,_⟩:=h
  rfl
 ·obtain⟨_,ds,m,_,n,day,wt,rfl,⟨M,wa,xs,qs,rfl,W0,rfl⟩,hl,ho,hi,hw,k⟩:=h
  refine⟨_,(Ze (Zi (Yh Zw (Zq (qvN 0)) Tc.cl M_check_rise (Za (qvN 1) (Za (qvN 2) (Za (qvN 3) Zb)))))
 (Ze (Zi (Zat Zw (qvN 0) Tm.cl MM_check_moments))
 (Ze (Zi (Yw (Zq (qvN 0)) Tc.cl M_rise (Za (qvN 1) (Za (qvN 2) (Za (qvN 3) Zb)))))
 (Zf (Zi (Wf F.plainAttrs_list F.slot_list_append F.type_list_append Wm (Zq (qvN 0)) (Za (Zs (Za Zn (Za (qvN 1) (Za (qvN 2) (Za (qvN 3) Zb))))) Zb))))))),?_⟩
  have hz:(5000:Nat)<=sizeLine:=by decide
  obtain⟨dm,obm⟩:=W0.ob
  obtain⟨dx,ob⟩:=W0.fk.f.ob
  refine⟨_,rfl,M.p,CM,dm,_,_,rfl,obm,Tm.cl,Tm.nf,Ua _,M.L.p,dx,_,rfl,ob,Ys _ _ _ _ (by decide +kernel),_,rfl,_,rfl,_,rfl,M.L,ds,n,day,wt,rfl,W0.fk.f,ho,hi,hw,?_⟩
  cases ec:Zaf ds n day wt with
  | some z=>rw[ec] at k;exact k H (Same.refl H)
  | none =>
  rw[ec,xG] at k
  refine⟨_,rfl,M.p,dm,_,rfl,obm,Z8 _ (by decide +kernel),M,ds,wa,xs,m,qs,rfl,W0,?_⟩
  cases em:Yd m with
  | some z=>rw[em] at k;exact k H (Same.refl H)
  | none =>
  rw[em] at k
  have hn4:=Zay em
  obtain⟨⟨d0,d1⟩,⟨w0,w1⟩,⟨d,hd,hdd⟩,hv⟩:=Zxx ec
  refine⟨_,rfl,M.p,CM,dm,_,_,rfl,obm,Tm.cl,Tm.nf,Ua _,M.L.p,dx,_,rfl,ob,Ys _ _ _ _ (by decide +kernel),_,rfl,_,rfl,_,rfl,M.L,ds,wa,n,day,wt,d,rfl,W0.fk,hl,d0,d1,w0,w1,hd,hdd,hv,fun H2 F2 T2 R2=>?_⟩
  have W2:=W0.folk F2 T2 R2
  obtain⟨dm2,obm2⟩:=W2.ob
  obtain⟨vs,e1,_,e2⟩:=(W2.ls (M.ld,m.deeds) (by simp[Mo.at_])).get
  dsimp only at e1 e2
  refine⟨_,rfl,M.p,CM,dm2,_,_,rfl,obm2,Tm.cl,Tm.nd,Vm _,.inl ⟨rfl,_,SqL.of e1⟩,_,rfl,_,rfl,_,rfl,by show 4<=sizeLine;lia,fun p hp=>?_⟩
  have S3:=Same.new (o:=.tup [.str "rise", .str n,.int day,.int wt]) hp
  have kp:(upd H2 p (.tup [.str "rise", .str n,.int day,.int wt])) p=some (.tup [.str "rise", .str n,.int day,.int wt]):=Zg
  generalize (upd H2 p (.tup [.str "rise", .str n,.int day,.int wt]))=H3 at S3 kp ⊢
  have W3:=W2.same S3
  refine⟨M.ld,vs,.ref p,rfl,rfl,S3 _ _ e1,by lia,?_⟩
  refine k _ _ ⟨M,wa,xs,qs,rfl,W3.deed (S3 _ _ e1) ⟨p,_,rfl,Wd kp,⟨_,_,rfl,rfl,⟨_,_,rfl,rfl,⟨_,_,rfl,rfl,⟨_,_,rfl,rfl,rfl⟩⟩⟩⟩⟩,rfl⟩ ⟨fun b o e nb=>?_,fun b hb=>?_⟩
  ·rw[Zc (fun z:b=M.ld=>nb (z▸Zax))]
   exact S3 _ _ (T2 b o e fun z=>nb (.inr (.inr (.inr (.inr z)))))
  ·exact MFresh.folk (xs:=xs) (qs:=qs) R2 b hb
def diD(n he:Str)(day:Int):D:=.tup [.str "die", .str n,.int day,.str he]
def Zoj(C CM:Addr)(c:Str->Addr):Sp:=fun vs H Q E=>∃(p:Addr)(ds:List Deed)(m:Mo)(O:Addr->Prop)(n he:Str)(day:Int),vs = [.ref p,.str n,.int day,.str he]/\MSt C CM H p ds m O/\ds.length<=1000/\n.length<=100/\he.length<=100/\okI day /\
 Ub E c H (∀O' H',MSt C CM H' p (ds ++ [.die n day he]) (m.told (diD n he day)) O'->Frm O H O' H'->Q .non H') ((Um ds n he day).or (Yd m))
abbrev Zjg:Stmt:=Ym (top 58) 3
theorem Z3e:FnScope ["self", "name", "day", "heir"] ["self", "name", "day", "heir"] (Zh Zjg):=fsc
theorem Zzq(Zjh:HasM K CM "die" "Moot.die" Zjg)(Tc:TxC K C)(Tm:TxCMoot K CM)(M_check_death:MtX P w K mg base C "check_death" 2 (Zp0 C c))(M_die:Mt P w K mg base C "die" ["self", "name", "day", "heir"] 3 (Zpx C))(MM_check_moments:MtX P w K mg base CM "check_moments" 1 (Zag C CM c)):MtX P w K mg base CM "die" 4 (Zoj C CM c):=by
 refine Zjh.mtX Z3e (fun _ _ _ _ _ _=>al4 fun _ _ _ _=>rfl) (fun vs H Q E h=>?_) (fun f cdv A outer s H vs Q E hr h=>?_)
 ·obtain⟨p,ds,m,O,n,he,day,rfl,_⟩:=h
  rfl
 ·obtain⟨_,ds,m,_,n,he,day,rfl,⟨M,wa,xs,qs,rfl,W0,rfl⟩,hl,ho,ho2,hi,k⟩:=h
  refine⟨_,(Ze (Zi (Yh Zw (Zq (qvN 0)) Tc.cl M_check_death (Za (qvN 1) (Za (qvN 2) (Za (qvN 3) Zb)))))
 (Ze (Zi (Zat Zw (qvN 0) Tm.cl MM_check_moments))
 (Ze (Zi (Yw (Zq (qvN 0)) Tc.cl M_die (Za (qvN 1) (Za (qvN 2) (Za (qvN 3) Zb)))))
 (Zf (Zi (Wf F.plainAttrs_list F.slot_list_append F.type_list_append Wm (Zq (qvN 0)) (Za (Zs (Za Zn (Za (qvN 1) (Za (qvN 2) (Za (qvN 3) Zb))))) Zb))))))),?_⟩
  have hz:(5000:Nat)<=sizeLine:=by decide
  obtain⟨dm,obm⟩:=W0.ob
  obtain⟨dx,ob⟩:=W0.fk.f.ob
  refine⟨_,rfl,M.p,CM,dm,_,_,rfl,obm,Tm.cl,Tm.nf,Ua _,M.L.p,dx,_,rfl,ob,Ys _ _ _ _ (by decide +kernel),_,rfl,_,rfl,_,rfl,M.L,ds,n,he,day,rfl,W0.fk.f,ho,ho2,hi,?_⟩
  cases ec:Um ds n he day with
  | some z=>rw[ec] at k;exact k H (Same.refl H)
  | none =>
  rw[ec,xG] at k
  refine⟨_,rfl,M.p,dm,_,rfl,obm,Z8 _ (by decide +kernel),M,ds,wa,xs,m,qs,rfl,W0,?_⟩
  cases em:Yd m with
  | some z=>rw[em] at k;exact k H (Same.refl H)
  | none =>
  rw[em] at k
  have hn4:=Zay em
  obtain⟨⟨d0,d1⟩,⟨d,hd,hdd⟩,⟨d2,hd2,hdd2⟩,hv,hv2,hne⟩:=Zzp ec
  refine⟨_,rfl,M.p,CM,dm,_,_,rfl,obm,Tm.cl,Tm.nf,Ua _,M.L.p,dx,_,rfl,ob,Ys _ _ _ _ (by decide +kernel),_,rfl,_,rfl,_,rfl,M.L,ds,wa,n,he,day,d,d2,rfl,W0.fk,hl,d0,d1,hd,hdd,hd2,hdd2,hv,hv2,hne,fun H2 F2 T2 R2=>?_⟩
  have W2:=W0.folk F2 T2 R2
  obtain⟨dm2,obm2⟩:=W2.ob
  obtain⟨vs,e1,_,e2⟩:=(W2.ls (M.ld,m.deeds) (by simp[Mo.at_])).get
  dsimp only at e1 e2
  refine⟨_,rfl,M.p,CM,dm2,_,_,rfl,obm2,Tm.cl,Tm.nd,Vm _,.inl ⟨rfl,_,SqL.of e1⟩,_,rfl,_,rfl,_,rfl,by show 4<=sizeLine;lia,fun p hp=>?_⟩
  have S3:=Same.new (o:=.tup [.str "die", .str n,.int day,.str he]) hp
  have kp:(upd H2 p (.tup [.str "die", .str n,.int day,.str he])) p=some (.tup [.str "die", .str n,.int day,.str he]):=Zg
  generalize (upd H2 p (.tup [.str "die", .str n,.int day,.str he]))=H3 at S3 kp ⊢
  have W3:=W2.same S3
  refine⟨M.ld,vs,.ref p,rfl,rfl,S3 _ _ e1,by lia,?_⟩
  refine k _ _ ⟨M,wa,xs,qs,rfl,W3.deed (S3 _ _ e1) ⟨p,_,rfl,Wd kp,⟨_,_,rfl,rfl,⟨_,_,rfl,rfl,⟨_,_,rfl,rfl,⟨_,_,rfl,rfl,rfl⟩⟩⟩⟩⟩,rfl⟩ ⟨fun b o e nb=>?_,fun b hb=>?_⟩
  ·rw[Zc (fun z:b=M.ld=>nb (z▸Zax))]
   exact S3 _ _ (T2 b o e fun z=>nb (.inr (.inr (.inr (.inr z)))))
  ·exact MFresh.folk (xs:=xs) (qs:=qs) R2 b hb
end
section
variable{P:Program}{w:World}{K:uFg}{mg:Str->Option Value}{base:Heap}{C CM:Addr}{c:Str->Addr}
theorem Ye{i:Nat}{k:Int}{tr:TA}{σ:St}{H:Hp}{Q:List V->Hp->Prop}{a:Addr}{us:List V}{v:V}(h1 : σ[i]? = some (some (.ref a)))(h2:H a=some (.tup us))(h3:atI us k=some v)(h:tr σ H fun vs H2=>Q (v::vs) H2):Ve (tOp (Zka K) (Y3 i) (tC (.int k))) tr σ H Q:=⟨_,h1,a,us,k,v,rfl,rfl,SqT.of h2,h3,h⟩
theorem Zai{i:Nat}{w v:Str}{t u:TS}{D:Ends}{σ:St}{H:Hp}(h1 : σ[i]? = some (some (.str v)))(h2:v≠w)(h:u D σ H):V2 (Zdg (Za2 (tOp rEq (Y3 i) (tC (.str w)))) t Wr) u D σ H:=⟨_,h1,rfl,_,rfl,Yg (fun z=>absurd (by injection z) h2) (fun _=>h)⟩
theorem Uu{i:Nat}{w:Str}{t u:TS}{D:Ends}{σ:St}{H:Hp}(h1 : σ[i]? = some (some (.str w)))(h:t {D with nx:=u D } σ H):V2 (Zdg (Za2 (tOp rEq (Y3 i) (tC (.str w)))) t Wr) u D σ H:=⟨_,h1,rfl,_,rfl,Yg (fun _=>h) (fun z=>absurd rfl z)⟩
inductive CD where
 | wer (x y:Str) (many:Int) | clm (x:Str) (i:Int) | acc (i:Int) (n:Str)
def cdV(day need:Int)(l1 l2:Addr):CD->List V
 | .wer x y many=>[.str "wergild", .str x,.str y,.int many,.int day,.int need,.ref l1,.ref l2]
 | .clm x i=>[.str "claim", .str x,.int i,.int day,.int need,.ref l1,.ref l2]
 | .acc i n=>[.str "accuse", .int i,.str n,.int day,.int need,.ref l1,.ref l2]
def Zdm:CD->Prop
 | .wer x y many=>x.length<=100/\y.length<=100/\okI many
 | .clm x i=>x.length<=100/\okI i
 | .acc i n=>n.length<=100/\okI i
def eCD(ds:List Deed)(m:Mo)(day need:Int)(f:Str->Int)(o1 o2:List Str):CD->Option Str
 | .wer x y many=>Zdl ds m x y many day need f o1 o2
 | .clm x i=>Zb8 ds m x i day need f o1 o2
 | .acc i n=>Zbt ds m i n day need f o1 o2
def Mo.does(m:Mo)(day need:Int)(f:Str->Int)(o1 o2:List Str):CD->Mo
 | .wer x y many=>m.owes x y many day need f o1 o2
 | .clm x i=>m.won x i.toNat day need f o1 o2
 | .acc i n=>m.acc i n day need f o1 o2
inductive SD where
 | come (n:Str) (day wt:Int) | rise (n:Str) (day wt:Int) | die (n he:Str) (day:Int) | pen (n:Str) | bring (n:Str) (day:Int) | give (i:Int) (x y:Str) (day:Int) | pay (x y:Str) (many day:Int)
def sdV:SD->List V
 | .come n day wt=>[.str "come", .str n,.int day,.int wt]
 | .rise n day wt=>[.str "rise", .str n,.int day,.int wt]
 | .die n he day=>[.str "die", .str n,.int day,.str he]
 | .pen n=>[.str "penance", .str n]
 | .bring n day=>[.str "bring", .str n,.int day]
 | .give i x y day=>[.str "give", .int i,.str x,.str y,.int day]
 | .pay x y many day=>[.str "pay", .str x,.str y,.int many,.int day]
def Zct(ds:List Deed)(m:Mo):SD->Prop
 | .come n day wt=>ds.length<=1000/\okN n/\okI day/\okI wt
 | .rise n day wt=>ds.length<=1000/\n.length<=100/\okI day/\okI wt
 | .die n he day=>ds.length<=1000/\n.length<=100/\he.length<=100/\okI day
 | .pen n=>n.length<=100/\m.npen<=1000/\m.trials.length<=1000
 | .bring n day=>MoK m/\n.length<=100/\okI day
 | .give i x y day=>MoK m/\x.length<=100/\y.length<=100/\okI i/\okI day
 | .pay x y many day=>MoK m/\x.length<=100/\y.length<=100/\okI many/\okI day
def eSD(ds:List Deed)(m:Mo):SD->Option Str
 | .come n day wt=>(Vo ds n day wt).or (Yd m)
 | .rise n day wt=>(Zaf ds n day wt).or (Yd m)
 | .die n he day=>(Um ds n he day).or (Yd m)
 | .pen n=>(Z9 ds n).or ((Vn ds n).or (Yd m))
 | .bring n day=>(eM 0 9999 day).or ((Yl ds m day [n] none none).or ((Zcs m).or (Yd m)))
 | .give i x y day=>(eM 0 9999 day).or ((Yl ds m day [x,y] (some i) none).or (Yd m))
 | .pay x y many day=>(eM 1 1000000 many).or ((eM 0 9999 day).or ((Yl ds m day [x,y] none none).or (Yd m)))
def sdF(ds:List Deed):SD->List Deed
 | .come n day wt=>ds ++ [.come n day wt]
 | .rise n day wt=>ds ++ [.rise n day wt]
 | .die n he day=>ds ++ [.die n day he]
 | _=>ds
def Mo.sd(m:Mo):SD->Mo
 | .come n day wt=>m.told (coD n day wt)
 | .rise n day wt=>m.told (riD n day wt)
 | .die n he day=>m.told (diD n he day)
 | .pen n=>m.pena n
 | .bring n day=>m.brg n day
 | .give i x y day=>m.give i.toNat x y day
 | .pay x y many day=>m.pay x y many day
def sdR(m:Mo):SD->V
 | .bring _ _=>.int m.brs.length
 | _=>.non
def Zb4(C CM:Addr)(c:Str->Addr):Sp:=fun vs H Q E=>∃(p:Addr)(ds:List Deed)(m:Mo)(O:Addr->Prop)(a:Addr)(d:SD),vs = [.ref p,.ref a]/\MSt C CM H p ds m O/\H a=some (.tup (sdV d))/\Zct ds m d /\
 Ub E c H (∀O' H',MSt C CM H' p (sdF ds d) (m.sd d) O'->Frm O H O' H'->Q (sdR m d) H') (eSD ds m d)
def Zb5(C CM:Addr)(c:Str->Addr):Sp:=fun vs H Q E=>∃(p:Addr)(ds:List Deed)(m:Mo)(O:Addr->Prop)(a:Addr)(d:CD)(day need:Int)(l1 l2:Addr)(o1 o2:List Str)(f:Str->Int),vs = [.ref p,.ref a]/\MSt C CM H p ds m O/\H a=some (.tup (cdV day need l1 l2 d))/\CsA ds m H l1 l2 o1 o2 day need f/\¬O l1/\¬O l2/\Zdm d /\
 Ub E c H (∀O' H',MSt C CM H' p ds (m.does day need f o1 o2 d) O'->Frm O H O' H'->Q (.int m.trials.length) H') (eCD ds m day need f o1 o2 d)
abbrev Zji:Stmt:=top 21
theorem Z3f:FnScope ["moot", "deed", "word"] ["moot", "deed"] (Zh Zji):=fsc
theorem Z3g(Zjj:Has K mg "done" Zji)(Tm:TxCMoot K CM)(er:Er K mg c errs)(MM_come:MtX P w K mg base CM "come" 4 (Zni C CM c))(MM_rise:MtX P w K mg base CM "rise" 5 (Znk C CM c))(MM_die:MtX P w K mg base CM "die" 4 (Zoj C CM c))(MM_penance:MtX P w K mg base CM "penance" 2 (Zoh C CM c))(MM_bring:MtX P w K mg base CM "bring" 4 (Zmm C CM c))(MM_give:MtX P w K mg base CM "give" 4 (Znj C CM c))(MM_pay:MtX P w K mg base CM "pay" 4 (Zoi C CM c))(MM_claim:MtX P w K mg base CM "claim" 6 (Zml C CM c))(MM_wergild:MtX P w K mg base CM "wergild" 6 (Zof C CM c))(MM_accuse:MtX P w K mg base CM "accuse" 7 (Zog C CM c)):FnX P w K mg base "done" 8 ((Zb4 C CM c).or (Zb5 C CM c)):=by
 refine Zjj.fnX Z3f (fun _ _ _ _ _ _=>al2 fun _ _=>rfl) (fun vs H Q E h=>?_) (fun f cdv A outer s H vs Q E hr h=>?_)
 ·rcases h with⟨p,ds,m,O,a,d,rfl,_⟩ | ⟨p,ds,m,O,a,d,day,need,l1,l2,o1,o2,f,rfl,_⟩<;>rfl
 ·refine⟨_,(Ze (Z4 2 (Zl Z2 (qvN 1) Zd (fun _ _=>rfl)))
 (Ze (Zp (Zv Wt (qvN 2) Zn (Z1 _)) (Zf (Zu (Yh Zw (qvN 0) Tm.cl MM_come (Za (Zl Z2 (qvN 1) Zd (fun _ _=>rfl)) (Za (Zl Z2 (qvN 1) Zd (fun _ _=>rfl)) (Za (Zl Z2 (qvN 1) Zd (fun _ _=>rfl)) Zb)))))) Zo)
 (Ze (Zp (Zv Wt (qvN 2) Zn (Z1 _)) (Zf (Zu (Yh Zw (qvN 0) Tm.cl MM_rise (Za (Zl Z2 (qvN 1) Zd (fun _ _=>rfl)) (Za (Zl Z2 (qvN 1) Zd (fun _ _=>rfl)) (Za (Zl Z2 (qvN 1) Zd (fun _ _=>rfl)) Zb)))))) Zo)
 (Ze (Zp (Zv Wt (qvN 2) Zn (Z1 _)) (Zf (Zu (Yh Zw (qvN 0) Tm.cl MM_die (Za (Zl Z2 (qvN 1) Zd (fun _ _=>rfl)) (Za (Zl Z2 (qvN 1) Zd (fun _ _=>rfl)) (Za (Zl Z2 (qvN 1) Zd (fun _ _=>rfl)) Zb)))))) Zo)
 (Ze (Zp (Zv Wt (qvN 2) Zn (Z1 _)) (Zf (Zu (Yh Zw (qvN 0) Tm.cl MM_penance (Za (Zl Z2 (qvN 1) Zd (fun _ _=>rfl)) Zb)))) Zo)
 (Ze (Zp (Zv Wt (qvN 2) Zn (Z1 _)) (Zf (Zu (Yh Zw (qvN 0) Tm.cl MM_bring (Za (Zl Z2 (qvN 1) Zd (fun _ _=>rfl)) (Za (Zl Z2 (qvN 1) Zd (fun _ _=>rfl)) Zb))))) Zo)
 (Ze (Zp (Zv Wt (qvN 2) Zn (Z1 _)) (Zf (Zu (Yh Zw (qvN 0) Tm.cl MM_give (Za (Zl Z2 (qvN 1) Zd (fun _ _=>rfl)) (Za (Zl Z2 (qvN 1) Zd (fun _ _=>rfl)) (Za (Zl Z2 (qvN 1) Zd (fun _ _=>rfl)) (Za (Zl Z2 (qvN 1) Zd (fun _ _=>rfl)) Zb))))))) Zo)
 (Ze (Zp (Zv Wt (qvN 2) Zn (Z1 _)) (Zf (Zu (Yh Zw (qvN 0) Tm.cl MM_pay (Za (Zl Z2 (qvN 1) Zd (fun _ _=>rfl)) (Za (Zl Z2 (qvN 1) Zd (fun _ _=>rfl)) (Za (Zl Z2 (qvN 1) Zd (fun _ _=>rfl)) (Za (Zl Z2 (qvN 1) Zd (fun _ _=>rfl)) Zb))))))) Zo)
 (Ze (Zp (Zv Wt (qvN 2) Zn (Z1 _)) (Zf (Zu (Yh Zw (qvN 0) Tm.cl MM_claim (Za (Zl Z2 (qvN 1) Zd (fun _ _=>rfl)) (Za (Zl Z2 (qvN 1) Zd (fun _ _=>rfl)) (Za (Zl Z2 (qvN 1) Zd (fun _ _=>rfl)) (Za (Zl Z2 (qvN 1) Zd (fun _ _=>rfl)) (Za (Zl Z2 (qvN 1) Zd (fun _ _=>rfl)) (Za (Zl Z2 (qvN 1) Zd (fun _ _=>rfl)) Zb))))))))) Zo)
 (Ze (Zp (Zv Wt (qvN 2) Zn (Z1 _)) (Zf (Zu (Yh Zw (qvN 0) Tm.cl MM_wergild (Za (Zl Z2 (qvN 1) Zd (fun _ _=>rfl)) (Za (Zl Z2 (qvN 1) Zd (fun _ _=>rfl)) (Za (Zl Z2 (qvN 1) Zd (fun _ _=>rfl)) (Za (Zl Z2 (qvN 1) Zd (fun _ _=>rfl)) (Za (Zl Z2 (qvN 1) Zd (fun _ _=>rfl)) (Za (Zl Z2 (qvN 1) Zd (fun _ _=>rfl)) (Za (Zl Z2 (qvN 1) Zd (fun _ _=>rfl)) Zb)))))))))) Zo)
 (Ze (Zp (Zv Wt (qvN 2) Zn (Z1 _)) (Zf (Zu (Yh Zw (qvN 0) Tm.cl MM_accuse (Za (Zl Z2 (qvN 1) Zd (fun _ _=>rfl)) (Za (Zl Z2 (qvN 1) Zd (fun _ _=>rfl)) (Za (Zl Z2 (qvN 1) Zd (fun _ _=>rfl)) (Za (Zl Z2 (qvN 1) Zd (fun _ _=>rfl)) (Za (Zl Z2 (qvN 1) Zd (fun _ _=>rfl)) (Za (Zl Z2 (qvN 1) Zd (fun _ _=>rfl)) Zb))))))))) Zo)
 (Zf (Yz Yp er (Y2 (Yr (qvN 2) (Yj Y1)))))))))))))))),?_⟩
  rcases h with⟨_,ds,m,_,a,d,rfl,⟨M,wa,xs,qs,rfl,W,rfl⟩,ha,hd,k⟩ | ⟨_,ds,m,_,a,d,day,need,l1,l2,o1,o2,f,rfl,⟨M,wa,xs,qs,rfl,W,rfl⟩,ha,cs,y1,y2,hd,k⟩
  ·obtain⟨dm,obm⟩:=W.ob
   have mst:MSt C CM H M.p ds m (mo M ds wa xs qs):=⟨M,wa,xs,qs,rfl,W,rfl⟩
   cases d with
   | come n day wt =>
    refine⟨_,rfl,a,_,0,_,rfl,rfl,SqT.of ha,rfl,?_⟩
    refine Yb ?_
    refine Uu rfl ?_
    exact⟨_,rfl,M.p,dm,_,rfl,obm,Z8 _ (by decide +kernel),Ye rfl ha rfl (Ye rfl ha rfl (Ye rfl ha rfl ⟨M.p,ds,m,_,n,day,wt,rfl,mst,hd.1,hd.2.1,hd.2.2.1,hd.2.2.2,k⟩))⟩
   | rise n day wt =>
    refine⟨_,rfl,a,_,0,_,rfl,rfl,SqT.of ha,rfl,?_⟩
    refine Yb ?_
    iterate 1 refine Zai rfl (by decide +kernel) ?_
    refine Uu rfl ?_
    exact⟨_,rfl,M.p,dm,_,rfl,obm,Z8 _ (by decide +kernel),Ye rfl ha rfl (Ye rfl ha rfl (Ye rfl ha rfl ⟨M.p,ds,m,_,n,day,wt,rfl,mst,hd.1,hd.2.1,hd.2.2.1,hd.2.2.2,k⟩))⟩
   | die n he day =>
    refine⟨_,rfl,a,_,0,_,rfl,rfl,SqT.of ha,rfl,?_⟩
    refine Yb ?_
    iterate 2 refine Zai rfl (by decide +kernel) ?_
    refine Uu rfl ?_
    exact⟨_,rfl,M.p,dm,_,rfl,obm,Z8 _ (by decide +kernel),Ye rfl ha rfl (Ye rfl ha rfl (Ye rfl ha rfl ⟨M.p,ds,m,_,n,he,day,rfl,mst,hd.1,hd.2.1,hd.2.2.1,hd.2.2.2,k⟩))⟩
   | pen n =>
    refine⟨_,rfl,a,_,0,_,rfl,rfl,SqT.of ha,rfl,?_⟩
    refine Yb ?_
    iterate 3 refine Zai rfl (by decide +kernel) ?_
    refine Uu rfl ?_
    exact⟨_,rfl,M.p,dm,_,rfl,obm,Z8 _ (by decide +kernel),Ye rfl ha rfl ⟨M.p,ds,m,_,n,rfl,mst,hd.1,hd.2.1,hd.2.2,k⟩⟩
   | bring n day =>
    refine⟨_,rfl,a,_,0,_,rfl,rfl,SqT.of ha,rfl,?_⟩
    refine Yb ?_
    iterate 4 refine Zai rfl (by decide +kernel) ?_
    refine Uu rfl ?_
    exact⟨_,rfl,M.p,dm,_,rfl,obm,Z8 _ (by decide +kernel),Ye rfl ha rfl (Ye rfl ha rfl ⟨M.p,ds,m,_,n,day,rfl,mst,hd.1,hd.2.1,hd.2.2,k⟩)⟩
   | give i x y day =>
    refine⟨_,rfl,a,_,0,_,rfl,rfl,SqT.of ha,rfl,?_⟩
    refine Yb ?_
    iterate 5 refine Zai rfl (by decide +kernel) ?_
    refine Uu rfl ?_
    exact⟨_,rfl,M.p,dm,_,rfl,obm,Z8 _ (by decide +kernel),Ye rfl ha rfl (Ye rfl ha rfl (Ye rfl ha rfl (Ye rfl ha rfl ⟨M.p,ds,m,_,i,x,y,day,rfl,mst,hd.1,hd.2.1,hd.2.2.1,hd.2.2.2.1,hd.2.2.2.2,k⟩)))⟩
   | pay x y many day =>
    refine⟨_,rfl,a,_,0,_,rfl,rfl,SqT.of ha,rfl,?_⟩
    refine Yb ?_
    iterate 6 refine Zai rfl (by decide +kernel) ?_
    refine Uu rfl ?_
    exact⟨_,rfl,M.p,dm,_,rfl,obm,Z8 _ (by decide +kernel),Ye rfl ha rfl (Ye rfl ha rfl (Ye rfl ha rfl (Ye rfl ha rfl ⟨M.p,ds,m,_,x,y,many,day,rfl,mst,hd.1,hd.2.1,hd.2.2.1,hd.2.2.2.1,hd.2.2.2.2,k⟩)))⟩
  ·obtain⟨dm,obm⟩:=W.ob
   have mst:MSt C CM H M.p ds m (mo M ds wa xs qs):=⟨M,wa,xs,qs,rfl,W,rfl⟩
   cases d with
   | clm x i =>
    refine⟨_,rfl,a,_,0,_,rfl,rfl,SqT.of ha,rfl,?_⟩
    refine Yb ?_
    iterate 7 refine Zai rfl (by decide +kernel) ?_
    refine Uu rfl ?_
    exact⟨_,rfl,M.p,dm,_,rfl,obm,Z8 _ (by decide +kernel),Ye rfl ha rfl (Ye rfl ha rfl (Ye rfl ha rfl (Ye rfl ha rfl (Ye rfl ha rfl (Ye rfl ha rfl ⟨M.p,ds,m,_,x,i,day,need,l1,l2,o1,o2,f,rfl,mst,cs,y1,y2,hd.1,hd.2,k⟩)))))⟩
   | wer x y many =>
    refine⟨_,rfl,a,_,0,_,rfl,rfl,SqT.of ha,rfl,?_⟩
    refine Yb ?_
    iterate 8 refine Zai rfl (by decide +kernel) ?_
    refine Uu rfl ?_
    exact⟨_,rfl,M.p,dm,_,rfl,obm,Z8 _ (by decide +kernel),Ye rfl ha rfl (Ye rfl ha rfl (Ye rfl ha rfl (Ye rfl ha rfl (Ye rfl ha rfl (Ye rfl ha rfl (Ye rfl ha rfl ⟨M.p,ds,m,_,x,y,many,day,need,l1,l2,o1,o2,f,rfl,mst,cs,y1,y2,hd.1,hd.2.1,hd.2.2,k⟩))))))⟩
   | acc i n =>
    refine⟨_,rfl,a,_,0,_,rfl,rfl,SqT.of ha,rfl,?_⟩
    refine Yb ?_
    iterate 9 refine Zai rfl (by decide +kernel) ?_
    refine Uu rfl ?_
    exact⟨_,rfl,M.p,dm,_,rfl,obm,Z8 _ (by decide +kernel),Ye rfl ha rfl (Ye rfl ha rfl (Ye rfl ha rfl (Ye rfl ha rfl (Ye rfl ha rfl (Ye rfl ha rfl ⟨M.p,ds,m,_,i,n,day,need,l1,l2,o1,o2,f,rfl,mst,cs,y1,y2,hd.1,hd.2,k⟩)))))⟩
end
section
variable{P:Program}{w:World}{K:uFg}{mg:Str->Option Value}{base:Heap}{C CM:Addr}{c:Str->Addr}
theorem MSt.there{H:Hp}{p:Addr}{ds:List Deed}{m:Mo}{O:Addr->Prop}(h:MSt C CM H p ds m O){b:Addr}(hb:O b):∃o,H b=some o:=by
 obtain⟨M,wa,xs,qs,_,W,rfl⟩:=h
 exact W.there hb
theorem MSt.out{H:Hp}{p:Addr}{ds:List Deed}{m:Mo}{O:Addr->Prop}(h:MSt C CM H p ds m O){b:Addr}(e:H b=none):¬O b:=fun z=>by
 obtain⟨o,e'⟩:=h.there z
 rw[e] at e';cases e'
def kd(x:Str):Str:=if x = "TooMany" then "TooMany" else "other"
def Zqw(H:Hp)(Q:V->Hp->Prop)(ok:Prop):Option Str->Prop
 | none=>ok
 | some x=>x∈errs/\∀H',Same H H'->Q (.str (kd x)) H'
def Zge(C CM:Addr):Sp:=fun vs H Q _=>∃(p:Addr)(ds:List Deed)(m:Mo)(O:Addr->Prop)(a:Addr)(d:SD),vs = [.ref p,.ref a]/\MSt C CM H p ds m O/\H a=some (.tup (sdV d))/\Zct ds m d /\
 Zqw H Q (∀O' H',MSt C CM H' p (sdF ds d) (m.sd d) O'->Frm O H O' H'->Q (.str "") H') (eSD ds m d)
def Zgs(C CM:Addr):Sp:=fun vs H Q _=>∃(p:Addr)(ds:List Deed)(m:Mo)(O:Addr->Prop)(a:Addr)(d:CD)(day need:Int)(l1 l2:Addr)(o1 o2:List Str)(f:Str->Int),vs = [.ref p,.ref a]/\MSt C CM H p ds m O/\H a=some (.tup (cdV day need l1 l2 d))/\CsA ds m H l1 l2 o1 o2 day need f/\¬O l1/\¬O l2/\Zdm d /\
 Zqw H Q (∀O' H',MSt C CM H' p ds (m.does day need f o1 o2 d) O'->Frm O H O' H'->Q (.str "") H') (eCD ds m day need f o1 o2 d)
abbrev Zjk:Stmt:=top 69
theorem Z3h:FnScope ["_law_moot", "_law_deed", "_law_kind_here"] ["_law_moot", "_law_deed"] (Zh Zjk):=fsc
theorem Z3i(Zjl:Has K mg "_law_kind" Zjk)(er:Er K mg c errs)(Zbn:FnX P w K mg base "done" 8 ((Zb4 C CM c).or (Zb5 C CM c))):Fn P w K mg base "_law_kind" ["_law_moot", "_law_deed"] 9 ((Zge C CM).or (Zgs C CM)):=by
 refine Zjl.fn0 Z3h (fun _ _ _ _ _ _=>al2 fun _ _=>rfl) (fun vs H Q E h=>?_) (fun f cdv A outer s H vs Q E hr h=>?_)
 ·rcases h with⟨p,ds,m,O,a,d,rfl,_⟩ | ⟨p,ds,m,O,a,d,day,need,l1,l2,o1,o2,f,rfl,_⟩<;>rfl
 ·refine⟨_,(Ui (QS.q0 (Z4 2 Zn))
 (Ui (Zgp Zbj (fun _ _ hx=>(Zf (Zi (Wb hx Zbn (Za (qvN 0) (Za (qvN 1) Zb))))))
 (Zej Zbj (er.g "TooMany" (by decide +kernel)) (fun _ _=>(Zf (Z4 2 Zn))) (Zej Zbj (er.m) (fun _ _=>(Zf (Z4 2 Zn))) Zgo)))
 (Ui (QS.q0 (Zu (qvN 2)))
 (QSs.q0 Zo)))),?_⟩
  rcases h with⟨p,ds,m,O,a,d,rfl,W,ha,hd,k⟩ | ⟨p,ds,m,O,a,d,day,need,l1,l2,o1,o2,f,rfl,W,ha,cs,y1,y2,hd,k⟩
  ·refine Yb ?_
   refine⟨_,rfl,_,rfl,.inl ⟨p,ds,m,O,a,d,rfl,W,ha,hd,?_⟩⟩
   cases e:eSD ds m d with
   | none =>
    rw[e] at k
    exact fun O' H' W' F'=>⟨_,rfl,k O' H' W' F'⟩
   | some x =>
    rw[e] at k
    obtain⟨hx,k⟩:=k
    refine fun H' S'=>⟨_,rfl,_,er.s x hx "TooMany" (by decide +kernel),Yg (fun z=>?_) (fun z=>⟨_,er.e x hx,Z5 ?_⟩)⟩
    ·have k:=k H' S'
     rw[kd,if_pos z] at k
     exact Yb ⟨_,rfl,k⟩
    ·have k:=k H' S'
     rw[kd,if_neg z] at k
     exact Yb ⟨_,rfl,k⟩
  ·refine Yb ?_
   refine⟨_,rfl,_,rfl,.inr ⟨p,ds,m,O,a,d,day,need,l1,l2,o1,o2,f,rfl,W,ha,cs,y1,y2,hd,?_⟩⟩
   cases e:eCD ds m day need f o1 o2 d with
   | none =>
    rw[e] at k
    exact fun O' H' W' F'=>⟨_,rfl,k O' H' W' F'⟩
   | some x =>
    rw[e] at k
    obtain⟨hx,k⟩:=k
    refine fun H' S'=>⟨_,rfl,_,er.s x hx "TooMany" (by decide +kernel),Yg (fun z=>?_) (fun z=>⟨_,er.e x hx,Z5 ?_⟩)⟩
    ·have k:=k H' S'
     rw[kd,if_pos z] at k
     exact Yb ⟨_,rfl,k⟩
    ·have k:=k H' S'
     rw[kd,if_neg z] at k
     exact Yb ⟨_,rfl,k⟩
end
section
variable{P:Program}{w:World}{K:uFg}{mg:Str->Option Value}{base:Heap}{C CM:Addr}
theorem We{t u:TS}{D:Ends}{σ:St}{H:Hp}(h:∀D':Ends,(∀ σ' H',u D σ' H'->D'.nx σ' H')->t D' σ H):V2 t u D σ H:=h {D with nx:=u D } fun _ _ h=>h
theorem ini{H:Hp}{p l dx:Addr}{fs fs':List (Str×V)}{y:HO}(hp:H p=some (.ins CM dx fs))(hl:H l=none):(upd (upd H l y) p (.ins CM dx fs')) p=some (.ins CM dx fs')/\(upd (upd H l y) p (.ins CM dx fs')) l=some y/\(∀b o,H b=some o->b≠p->(upd (upd H l y) p (.ins CM dx fs')) b=some o)/\p≠l:=by
 have n:p≠l:=Zj hp hl
 exact⟨Zg,by rw[Zc n.symm,Zg],fun b o e nb=>by rw[Zc nb,Zc (Zj e hl)];exact e,n⟩
theorem Zaz{N:Hp->Prop}{H:Hp}{p l dx:Addr}{fs:List (Str×V)}{nm:Str}{y:HO}{k:Nat}(hp:H p=some (.ins CM dx fs))(hl:H l=none)(hb:fs.length<=k)(h:∀ (H1:Hp) (f1:List (Str×V)),Zm nm (.ref l) fs=f1->f1.length<=k+1->H1 p=some (.ins CM dx f1)->H1 l=some y->(∀b o,H b=some o->b≠p->H1 b=some o)->N H1):N (upd (upd H l y) p (.ins CM dx (Zm nm (.ref l) fs))) :=
 have i:=ini (fs':=Zm nm (.ref l) fs) (y:=y) hp hl
 h _ _ rfl (xT (Za4 ..) (by lia)) i.1 i.2.1 i.2.2.1
def mo0:Mo:=⟨[],[],[],[],[],[],[],fun _=>none,0⟩
def Zed(C CM:Addr):Sp:=fun vs H Q _=>∃(p dx:Addr),vs = [.ref p]/\H p=some (.ins CM dx [])/\∀(M:ML)(H':Hp),M.p=p->MootAt C CM H' M [] (fun _=>0) [] mo0 []->(∀b o,H b=some o->b≠p->H' b=some o)->(∀b,mo M [] (fun _=>0) [] [] b->b=p\/H b=none)->Q .non H'
abbrev Zjm:Stmt:=Ym (top 58) 0
theorem Z3j:FnScope ["self"] ["self"] (Zh Zjm):=fsc
theorem Zxz(Zjn:HasM K CM "__init__" "Moot.__init__" Zjm)(Tm:TxCMoot K CM)(M_Folk:Mks P w K mg base C "Folk" 1 (Zn8 C)):Mt P w K mg base CM "__init__" ["self"] 3 (Zed C CM):=by
 refine Zjn.mtQ Z3j (fun _ _ _ _ _ _=>al1 fun _=>rfl) (fun vs H Q E h=>?_) (fun f cdv A outer s H vs Q E hr h=>?_)
 ·obtain⟨p,dx,rfl,_⟩:=h
  rfl
 ·obtain⟨p,dx,rfl,hp,k⟩:=h
  refine⟨_,(Ze (Vr (qvN 0) (Zy Zb))
 (Ze (Vr (qvN 0) (Zei M_Folk))
 (Ze (Vr (qvN 0) (Zy Zb))
 (Ze (Vr (qvN 0) (Zy Zb))
 (Ze (Vr (qvN 0) (Zy Zb))
 (Ze (Vr (qvN 0) (Zy Zb))
 (Ze (Vr (qvN 0) (Zy Zb))
 (Ze (Vr (qvN 0) (Zy Zb))
 (Zf (Vr (qvN 0) Zbz)))))))))),?_⟩
  have hz:(5000:Nat)<=sizeLine:=by decide
  refine We fun D1 hn1=>?_
  refine⟨by show 0<=sizeLine;lia,fun ld hld=>?_⟩
  have pld:p≠ld:=Zj hp hld
  refine⟨_,rfl,p,CM,dx,[],rfl,(by rw[Zc pld];exact hp),Tm.cl,Tm.nd,(yS (xE 0) (by decide)),Zaz (k:=0) hp hld (xE 0) fun H1 f1 g1 l1 i1p i1l i1k=>hn1 _ _ ?_⟩
  refine We fun D2 hn2=>?_
  intro x dx2 nx ndx nex
  have px:p≠x:=Zj i1p nx
  have pdx:p≠dx2:=Zj i1p ndx
  refine⟨x,dx2,rfl,Zg,fun L H2a eL F2 kp fr=>⟨rfl,?_⟩⟩
  subst eL
  have sm2:Same H1 H2a:=fun b o e=>kp b o (by rw[Zc (Zj e nx),Zc (Zj e ndx)];exact e) (Zj e nx)
  have fr2:∀b,b=L.dc\/b=L.dw\/b=L.dd\/b=L.dh->H1 b=none:=fun b hb=>by
   have:=fr b hb
   by_cases c:b=L.p
   ·rw[c];exact nx
   ·rw[Zc c] at this
    by_cases c2:b=dx2
    ·rw[c2];exact ndx
    ·rw[Zc c2] at this;exact this
  have i2p0:=sm2 _ _ i1p
  have K2:Fk C H2a L [] (fun _=>0):=by
   obtain⟨kv,w1,w2⟩:=F2.w
   exact⟨F2,WtsAt.start F2,kv,w1,fun p hp=>by rw[List.eq_nil_of_length_eq_zero (Nat.le_zero.mp w2)] at hp;cases hp⟩
  refine⟨_,rfl,p,CM,dx,f1,rfl,i2p0,Tm.cl,Tm.nf,(yS l1 (by decide)),hn2 _ _ ?_⟩
  have l2:(Zm "folk" (V.ref L.p) f1).length<=2:=xT (Za4 ..) (by lia)
  generalize g2:Zm "folk" (V.ref L.p) f1=f2 at l2 ⊢
  have i2p:(upd H2a p (.ins CM dx f2)) p=some (.ins CM dx f2):=Zg
  have i2k:∀b o,H2a b=some o->b≠p->(upd H2a p (.ins CM dx f2)) b=some o:=fun b o e nb=>by rw[Zc nb];exact e
  generalize (upd H2a p (.ins CM dx f2))=H2 at i2p i2k ⊢
  refine We fun D3 hn3=>?_
  refine⟨by show 0<=sizeLine;lia,fun lb hlb=>?_⟩
  have plb:p≠lb:=Zj i2p hlb
  refine⟨_,rfl,p,CM,dx,f2,rfl,(by rw[Zc plb];exact i2p),Tm.cl,Tm.nb,(yS l2 (by decide)),Zaz (k:=2) i2p hlb l2 fun H3 f3 g3 l3 i3p i3l i3k=>hn3 _ _ ?_⟩
  refine We fun D4 hn4=>?_
  refine⟨by show 0<=sizeLine;lia,fun lh hlh=>?_⟩
  have plh:p≠lh:=Zj i3p hlh
  refine⟨_,rfl,p,CM,dx,f3,rfl,(by rw[Zc plh];exact i3p),Tm.cl,Tm.nh,(yS l3 (by decide)),Zaz (k:=3) i3p hlh l3 fun H4 f4 g4 l4 i4p i4l i4k=>hn4 _ _ ?_⟩
  refine We fun D5 hn5=>?_
  refine⟨by show 0<=sizeLine;lia,fun lq hlq=>?_⟩
  have plq:p≠lq:=Zj i4p hlq
  refine⟨_,rfl,p,CM,dx,f4,rfl,(by rw[Zc plq];exact i4p),Tm.cl,Tm.nq,(yS l4 (by decide)),Zaz (k:=4) i4p hlq l4 fun H5 f5 g5 l5 i5p i5l i5k=>hn5 _ _ ?_⟩
  refine We fun D6 hn6=>?_
  refine⟨by show 0<=sizeLine;lia,fun lt hlt=>?_⟩
  have plt:p≠lt:=Zj i5p hlt
  refine⟨_,rfl,p,CM,dx,f5,rfl,(by rw[Zc plt];exact i5p),Tm.cl,Tm.nt,(yS l5 (by decide)),Zaz (k:=5) i5p hlt l5 fun H6 f6 g6 l6 i6p i6l i6k=>hn6 _ _ ?_⟩
  refine We fun D7 hn7=>?_
  refine⟨by show 0<=sizeLine;lia,fun ly hly=>?_⟩
  have ply:p≠ly:=Zj i6p hly
  refine⟨_,rfl,p,CM,dx,f6,rfl,(by rw[Zc ply];exact i6p),Tm.cl,Tm.ny,(yS l6 (by decide)),Zaz (k:=6) i6p hly l6 fun H7 f7 g7 l7 i7p i7l i7k=>hn7 _ _ ?_⟩
  refine We fun D8 hn8=>?_
  refine⟨by show 0<=sizeLine;lia,fun lv hlv=>?_⟩
  have plv:p≠lv:=Zj i7p hlv
  refine⟨_,rfl,p,CM,dx,f7,rfl,(by rw[Zc plv];exact i7p),Tm.cl,Tm.nv,(yS l7 (by decide)),Zaz (k:=7) i7p hlv l7 fun H8 f8 g8 l8 i8p i8l i8k=>hn8 _ _ ?_⟩
  intro dp hdp
  have pdp:p≠dp:=Zj i8p hdp
  refine⟨_,rfl,p,CM,dx,f8,rfl,(by rw[Zc pdp];exact i8p),Tm.cl,Tm.np,(yS l8 (by decide)),Zaz (k:=8) i8p hdp l8 fun H9 f9 g9 l9 i9p i9l i9k=>?_⟩
  have k1:=i1k
  have k2:∀b o,H b=some o->b≠p->H2 b=some o:=fun b o e n=>i2k b o (sm2 b o (k1 b o e n)) n
  have k3:∀b o,H b=some o->b≠p->H3 b=some o:=fun b o e n=>i3k b o (k2 b o e n) n
  have k4:∀b o,H b=some o->b≠p->H4 b=some o:=fun b o e n=>i4k b o (k3 b o e n) n
  have k5:∀b o,H b=some o->b≠p->H5 b=some o:=fun b o e n=>i5k b o (k4 b o e n) n
  have k6:∀b o,H b=some o->b≠p->H6 b=some o:=fun b o e n=>i6k b o (k5 b o e n) n
  have k7:∀b o,H b=some o->b≠p->H7 b=some o:=fun b o e n=>i7k b o (k6 b o e n) n
  have k8:∀b o,H b=some o->b≠p->H8 b=some o:=fun b o e n=>i8k b o (k7 b o e n) n
  have k9:∀b o,H b=some o->b≠p->H9 b=some o:=fun b o e n=>i9k b o (k8 b o e n) n
  have q2:=i2k
  have q3:∀b o,H2a b=some o->b≠p->H3 b=some o:=fun b o e n=>i3k b o (q2 b o e n) n
  have q4:∀b o,H2a b=some o->b≠p->H4 b=some o:=fun b o e n=>i4k b o (q3 b o e n) n
  have q5:∀b o,H2a b=some o->b≠p->H5 b=some o:=fun b o e n=>i5k b o (q4 b o e n) n
  have q6:∀b o,H2a b=some o->b≠p->H6 b=some o:=fun b o e n=>i6k b o (q5 b o e n) n
  have q7:∀b o,H2a b=some o->b≠p->H7 b=some o:=fun b o e n=>i7k b o (q6 b o e n) n
  have q8:∀b o,H2a b=some o->b≠p->H8 b=some o:=fun b o e n=>i8k b o (q7 b o e n) n
  have q9:∀b o,H2a b=some o->b≠p->H9 b=some o:=fun b o e n=>i9k b o (q8 b o e n) n
  have eld:H9 ld=some (.lst []):=(i9k _ _ (i8k _ _ (i7k _ _ (i6k _ _ (i5k _ _ (i4k _ _ (i3k _ _ (i2k _ _ (sm2 _ _ i1l) pld.symm) pld.symm) pld.symm) pld.symm) pld.symm) pld.symm) pld.symm) pld.symm)
  have zld:H ld=none:=hld
  have elb:H9 lb=some (.lst []):=(i9k _ _ (i8k _ _ (i7k _ _ (i6k _ _ (i5k _ _ (i4k _ _ i3l plb.symm) plb.symm) plb.symm) plb.symm) plb.symm) plb.symm)
  have zlb:H lb=none:=by
   cases eb:H lb with
   | none=>rfl
   | some o=>have:=k2 _ _ eb plb.symm;rw[hlb] at this;cases this
  have elh:H9 lh=some (.lst []):=(i9k _ _ (i8k _ _ (i7k _ _ (i6k _ _ (i5k _ _ i4l plh.symm) plh.symm) plh.symm) plh.symm) plh.symm)
  have zlh:H lh=none:=by
   cases eb:H lh with
   | none=>rfl
   | some o=>have:=k3 _ _ eb plh.symm;rw[hlh] at this;cases this
  have elq:H9 lq=some (.lst []):=(i9k _ _ (i8k _ _ (i7k _ _ (i6k _ _ i5l plq.symm) plq.symm) plq.symm) plq.symm)
  have zlq:H lq=none:=by
   cases eb:H lq with
   | none=>rfl
   | some o=>have:=k4 _ _ eb plq.symm;rw[hlq] at this;cases this
  have elt:H9 lt=some (.lst []):=(i9k _ _ (i8k _ _ (i7k _ _ i6l plt.symm) plt.symm) plt.symm)
  have zlt:H lt=none:=by
   cases eb:H lt with
   | none=>rfl
   | some o=>have:=k5 _ _ eb plt.symm;rw[hlt] at this;cases this
  have ely:H9 ly=some (.lst []):=(i9k _ _ (i8k _ _ i7l ply.symm) ply.symm)
  have zly:H ly=none:=by
   cases eb:H ly with
   | none=>rfl
   | some o=>have:=k6 _ _ eb ply.symm;rw[hly] at this;cases this
  have elv:H9 lv=some (.lst []):=(i9k _ _ i8l plv.symm)
  have zlv:H lv=none:=by
   cases eb:H lv with
   | none=>rfl
   | some o=>have:=k7 _ _ eb plv.symm;rw[hlv] at this;cases this
  have edp:H9 dp=some (.dK []):=i9l
  have zdp:H dp=none:=by
   cases eb:H dp with
   | none=>rfl
   | some o=>have:=k8 _ _ eb pdp.symm;rw[hdp] at this;cases this
  have nldlb:ld≠lb:=Zj (i2k _ _ (sm2 _ _ i1l) pld.symm) hlb
  have nldlh:ld≠lh:=Zj (i3k _ _ (i2k _ _ (sm2 _ _ i1l) pld.symm) pld.symm) hlh
  have nldlq:ld≠lq:=Zj (i4k _ _ (i3k _ _ (i2k _ _ (sm2 _ _ i1l) pld.symm) pld.symm) pld.symm) hlq
  have nldlt:ld≠lt:=Zj (i5k _ _ (i4k _ _ (i3k _ _ (i2k _ _ (sm2 _ _ i1l) pld.symm) pld.symm) pld.symm) pld.symm) hlt
  have nldly:ld≠ly:=Zj (i6k _ _ (i5k _ _ (i4k _ _ (i3k _ _ (i2k _ _ (sm2 _ _ i1l) pld.symm) pld.symm) pld.symm) pld.symm) pld.symm) hly
  have nldlv:ld≠lv:=Zj (i7k _ _ (i6k _ _ (i5k _ _ (i4k _ _ (i3k _ _ (i2k _ _ (sm2 _ _ i1l) pld.symm) pld.symm) pld.symm) pld.symm) pld.symm) pld.symm) hlv
  have nlblh:lb≠lh:=Zj i3l hlh
  have nlblq:lb≠lq:=Zj (i4k _ _ i3l plb.symm) hlq
  have nlblt:lb≠lt:=Zj (i5k _ _ (i4k _ _ i3l plb.symm) plb.symm) hlt
  have nlbly:lb≠ly:=Zj (i6k _ _ (i5k _ _ (i4k _ _ i3l plb.symm) plb.symm) plb.symm) hly
  have nlblv:lb≠lv:=Zj (i7k _ _ (i6k _ _ (i5k _ _ (i4k _ _ i3l plb.symm) plb.symm) plb.symm) plb.symm) hlv
  have nlhlq:lh≠lq:=Zj i4l hlq
  have nlhlt:lh≠lt:=Zj (i5k _ _ i4l plh.symm) hlt
  have nlhly:lh≠ly:=Zj (i6k _ _ (i5k _ _ i4l plh.symm) plh.symm) hly
  have nlhlv:lh≠lv:=Zj (i7k _ _ (i6k _ _ (i5k _ _ i4l plh.symm) plh.symm) plh.symm) hlv
  have nlqlt:lq≠lt:=Zj i5l hlt
  have nlqly:lq≠ly:=Zj (i6k _ _ i5l plq.symm) hly
  have nlqlv:lq≠lv:=Zj (i7k _ _ (i6k _ _ i5l plq.symm) plq.symm) hlv
  have nltly:lt≠ly:=Zj i6l hly
  have nltlv:lt≠lv:=Zj (i7k _ _ i6l plt.symm) hlv
  have nlylv:ly≠lv:=Zj i7l hlv
  have pl:¬own L [] (fun _=>0) p:=fun z=>by
   rcases z with z | z | z | z | z | ⟨n,l,e,z⟩
   ·exact px z
   ·have:=fr2 p (.inl z);rw[i1p] at this;cases this
   ·have:=fr2 p (.inr (.inl z));rw[i1p] at this;cases this
   ·have:=fr2 p (.inr (.inr (.inl z)));rw[i1p] at this;cases this
   ·have:=fr2 p (.inr (.inr (.inr z)));rw[i1p] at this;cases this
   ·cases e
  have K9:Fk C H9 L [] (fun _=>0):=K2.at fun b o hb e=>q9 b o e fun z=>pl (z▸hb)
  have h1n:∀b,H1 b=none->b≠p->H b=none:=fun b hb n=>by
   cases eb:H b with
   | none=>rfl
   | some o=>have:=k1 _ _ eb n;rw[hb] at this;cases this
  have i9p:H9 p=some (.ins CM dx _):=i9p.trans (congrArg (fun f=>some (HO.ins CM dx f)) (g9.symm.trans (congrArg (Zm _ _) (g8.symm.trans (congrArg (Zm _ _) (g7.symm.trans (congrArg (Zm _ _) (g6.symm.trans (congrArg (Zm _ _) (g5.symm.trans (congrArg (Zm _ _) (g4.symm.trans (congrArg (Zm _ _) (g3.symm.trans (congrArg (Zm _ _) (g2.symm.trans (congrArg (Zm _ _) g1.symm)))))))))))))))))
  have ndp:¬own L [] (fun _=>0) dp:=fun z=>by
   obtain⟨o,e,_⟩:=K2.there z
   have:=q8 _ _ e pdp.symm
   rw[hdp] at this;cases this
  refine k ⟨p,L,ld,lb,lh,lq,lt,ly,lv,dp⟩ H9 rfl ⟨⟨dx,i9p⟩,K9,fun q hq=>?_,elh,rfl,⟨[],edp,xE _,fun _=>rfl⟩,?_,(fun _ z=>nomatch z),(fun _ z=>nomatch z),px,ndp⟩ k9 (fun b hb=>?_)
  ·simp only[Mo.at_,mo0,xD,List.zip_nil_left,xR,or_false] at hq
   rcases hq with rfl | rfl | rfl | rfl | rfl | rfl
   ·exact⟨[],eld,rfl⟩
   ·exact⟨[],elb,rfl⟩
   ·exact⟨[],elq,rfl⟩
   ·exact⟨[],elt,rfl⟩
   ·exact⟨[],ely,rfl⟩
   ·exact⟨[],elv,rfl⟩
  ·simp only[ML.ls,yQ,yH,xD,xR,or_false,not_or,not_false_eq_true,List.nodup_nil,and_true]
   exact⟨⟨Ne.symm nldlh,Ne.symm nlblh,nlhlq,nlhlt,nlhly,nlhlv⟩,⟨nldlb,nldlq,nldlt,nldly,nldlv⟩,⟨nlblq,nlblt,nlbly,nlblv⟩,⟨nlqlt,nlqly,nlqlv⟩,⟨nltly,nltlv⟩,nlylv⟩
  ·rcases hb with z | z | z | z | z
   ·exact .inl z
   ·rw[z];exact .inr zdp
   ·simp only[ML.ls,yQ,xD,xR,or_false] at z
    rcases z with rfl | rfl | rfl | rfl | rfl | rfl | rfl<;>exact .inr (by assumption)
   ·cases z
   ·have ne:b≠p:=fun y=>pl (y▸z)
    refine .inr ?_
    rcases z with z | z | z | z | z | ⟨n,l,e,z⟩
    ·exact h1n b (by rw[z];exact nx) ne
    ·exact h1n b (fr2 b (.inl z)) ne
    ·exact h1n b (fr2 b (.inr (.inl z))) ne
    ·exact h1n b (fr2 b (.inr (.inr (.inl z)))) ne
    ·exact h1n b (fr2 b (.inr (.inr (.inr z)))) ne
    ·cases e
end
section
inductive AD where
 | s (d:SD) | c (d:CD) (day need:Int) (o1 o2:List Str) (f:Str->Int)
abbrev Uo:=List Deed×Mo
def V1(s:Uo):AD->Uo
 | .s d=>(sdF s.1 d,s.2.sd d)
 | .c d day need o1 o2 f=>(s.1,s.2.does day need f o1 o2 d)
def Yk(as:List AD):Uo:=as.foldl V1 ([],mo0)
def sdD:SD->D
 | .come n day wt=>coD n day wt
 | .rise n day wt=>riD n day wt
 | .die n he day=>diD n he day
 | .pen n=>.tup [.str "penance", .str n]
 | .bring n day=>Zqv n day
 | .give i x y day=>gvD i.toNat x y day
 | .pay x y many day=>pyD x y many day
def cdD(day need:Int)(o1 o2:List Str):CD->D
 | .wer x y many=>weD x y many day need o1 o2
 | .clm x i=>clD x i.toNat day need o1 o2
 | .acc i n=>acD i n day need o1 o2
def adD:AD->D
 | .s d=>sdD d
 | .c d day need o1 o2 _=>cdD day need o1 o2 d
def Zkj:SD->Prop
 | .give i _ _ _=>0<=i
 | _=>True
def Zqx:CD->Prop
 | .clm _ i=>0<=i
 | _=>True
def Zqy(s:Uo):AD->Prop
 | .s d=>Zct s.1 s.2 d/\eSD s.1 s.2 d=none/\Zkj d
 | .c d day need o1 o2 f=>Zdm d/\MoK s.2/\s.1.length<=1000/\o1.length<=60/\o2.length<=60/\okI day/\okI need/\(∀n∈o1++o2,n.length<=100/\∀d,Zk s.1 n=some d->d<=day->IsW (kw s.1 n) day (f n)/\1<=f n/\f n<=1000)/\eCD s.1 s.2 day need f o1 o2 d=none/\Zqx d
def Gd35(as:List AD):Prop:=as.length<=400/\∀(i:Nat)(a:AD),as[i]? = some a->Zqy (Yk (as.take i)) a
theorem Zt8(s:Uo)(a:AD):(V1 s a).2.deeds=s.2.deeds ++ [adD a]:=by
 cases a with
 | s d=>cases d<;>rfl
 | c d day need o1 o2 f=>cases d<;>rfl
theorem Zmn:∀(as:List AD)(s:Uo),(as.foldl V1 s).2.deeds=s.2.deeds++as.map adD
 | [],s=>by simp
 | a::as,s=>by
  rw[List.foldl_cons,Zmn as,yE,Zt8,yO]
  rfl
theorem Zky(as:List AD):(Yk as).2.deeds=as.map adD:=by unfold Yk;rw[Zmn];rfl
theorem Zcw(as:List AD)(a:AD):Yk (as ++ [a])=V1 (Yk as) a:=by unfold Yk;rw[List.foldl_append];rfl
theorem Uc(as:List AD):(Yk as).2.deeds.length=as.length:=by rw[Zky,xB]
theorem Gd35.snoc{as:List AD}{a:AD}(h:Gd35 as)(hl:as.length < 400)(g:Zqy (Yk as) a):Gd35 (as ++ [a]):=by
 refine⟨by rw[xN];show as.length+1<=400;lia,fun i p hp=>?_⟩
 rcases Nat.lt_or_ge i as.length with z | z
 ·rw[zF z] at hp
  rw[List.take_append_of_le_length (zB z)]
  exact h.2 i p hp
 ·rw[zD z] at hp
  have e:i - as.length=0:=by
   rcases Nat.eq_zero_or_pos (i - as.length) with y | y
   ·exact y
   ·rw[zM (by show 1<=_;exact y)] at hp;cases hp
  rw[e] at hp
  cases hp
  have ei:i=as.length:=by lia
  rw[ei,List.take_append_of_le_length (xE _),yU]
  exact g
end
section
variable{P:Program}{w:World}{K:uFg}{mg:Str->Option Value}{base:Heap}{C CM:Addr}{c:Str->Addr}
def scD:D->Bool
 | .str _=>true
 | .int _=>true
 | .non=>true
 | .bl _=>true
 | _=>false
theorem Zp1{d:D}(h:scD d=true):isI d "list" = false:=by cases d<;>first | rfl | cases h
theorem Zzr{H H':Hp}{d:D}{u v:V}(h:scD d=true)(a:Rep H d u)(b:Rep H' d v):v=u:=by
 cases d<;>first | (cases h;done) | (cases a;cases b;rfl)
theorem Zgf{H H':Hp}:∀{ds:List D}{us vs:List V},(∀d∈ds,scD d=true)->RepL H ds us->RepL H' ds vs->vs=us
 | [],_,_,_,a,b=>by cases a;cases b;rfl
 | d::ds,_,_,h,⟨_,_,rfl,a,a'⟩,⟨_,_,rfl,b,b'⟩=>by rw[Zzr (h d yC) a b,Zgf (fun x hx=>h x (xW _ hx)) a' b']
def sdP:SD->List D
 | .come n day wt=>[.str "come", .str n,.int day,.int wt]
 | .rise n day wt=>[.str "rise", .str n,.int day,.int wt]
 | .die n he day=>[.str "die", .str n,.int day,.str he]
 | .pen n=>[.str "penance", .str n]
 | .bring n day=>[.str "bring", .str n,.int day]
 | .give i x y day=>[.str "give", .int i,.str x,.str y,.int day]
 | .pay x y many day=>[.str "pay", .str x,.str y,.int many,.int day]
theorem Zgt(d:SD):∀x∈sdP d,scD x=true:=by cases d<;>simp[sdP,scD]
theorem Zgg(H:Hp)(d:SD):RepL H (sdP d) (sdV d):=by cases d<;>simp[sdP,sdV,RepL,Rep]
def cdP(day need:Int)(o1 o2:List Str):CD->List D
 | .wer x y many=>[.str "wergild", .str x,.str y,.int many,.int day,.int need,.lst (o1.map D.str),.lst (o2.map D.str)]
 | .clm x i=>[.str "claim", .str x,.int i,.int day,.int need,.lst (o1.map D.str),.lst (o2.map D.str)]
 | .acc i n=>[.str "accuse", .int i,.str n,.int day,.int need,.lst (o1.map D.str),.lst (o2.map D.str)]
theorem Zdz{H:Hp}:∀{o:List Str}{vs:List V},RepL H (o.map D.str) vs->vs=o.map V.str
 | [],_,h=>h
 | _::_,_,⟨_,_,e,rfl,h⟩=>by rw[e,Zdz h];rfl
theorem Znl{H:Hp}{day need:Int}{o1 o2:List Str}{d:CD}{vs:List V}(h:RepL H (cdP day need o1 o2 d) vs):∃l1 l2,vs=cdV day need l1 l2 d/\H l1=some (.lst (o1.map V.str))/\H l2=some (.lst (o2.map V.str)):=by
 have inv:∀{o:List Str}{v:V},Rep H (.lst (o.map D.str)) v->∃l,v = .ref l/\H l=some (.lst (o.map V.str)):=fun h=>by
  obtain⟨l,us,rfl,hl,hu⟩:=h
  exact⟨l,rfl,by rw[hl,Zdz hu]⟩
 cases d with
 | wer x y m =>
  obtain⟨_,_,rfl,rfl,⟨_,_,rfl,rfl,⟨_,_,rfl,rfl,⟨_,_,rfl,rfl,⟨_,_,rfl,rfl,⟨_,_,rfl,rfl,⟨_,_,rfl,r1,⟨_,_,rfl,r2,rfl⟩⟩⟩⟩⟩⟩⟩⟩:=h
  obtain⟨l1,rfl,h1⟩:=inv r1
  obtain⟨l2,rfl,h2⟩:=inv r2
  exact⟨l1,l2,rfl,h1,h2⟩
 | clm x i =>
  obtain⟨_,_,rfl,rfl,⟨_,_,rfl,rfl,⟨_,_,rfl,rfl,⟨_,_,rfl,rfl,⟨_,_,rfl,rfl,⟨_,_,rfl,r1,⟨_,_,rfl,r2,rfl⟩⟩⟩⟩⟩⟩⟩:=h
  obtain⟨l1,rfl,h1⟩:=inv r1
  obtain⟨l2,rfl,h2⟩:=inv r2
  exact⟨l1,l2,rfl,h1,h2⟩
 | acc i n =>
  obtain⟨_,_,rfl,rfl,⟨_,_,rfl,rfl,⟨_,_,rfl,rfl,⟨_,_,rfl,rfl,⟨_,_,rfl,rfl,⟨_,_,rfl,r1,⟨_,_,rfl,r2,rfl⟩⟩⟩⟩⟩⟩⟩:=h
  obtain⟨l1,rfl,h1⟩:=inv r1
  obtain⟨l2,rfl,h2⟩:=inv r2
  exact⟨l1,l2,rfl,h1,h2⟩
theorem Zzs{H:Hp}{d:SD}{v:V}(h:Rep H (sdD d) v)(z:Zkj d):∃a,v = .ref a/\H a=some (.tup (sdV d)):=by
 have e:sdD d = .tup (sdP d):=by
  cases d with
  | give i x y day=>show D.tup [_,.int (i.toNat:Nat),_,_,_]=_;rw[Int.toNat_of_nonneg z];rfl
  | _=>rfl
 rw[e] at h
 obtain⟨a,us,rfl,ha,hu⟩:=h
 exact⟨a,rfl,by rw[ha,Zgf (Zgt d) (Zgg H d) hu]⟩
theorem Zzt{H:Hp}{d:CD}{day need:Int}{o1 o2:List Str}{v:V}(h:Rep H (cdD day need o1 o2 d) v)(z:Zqx d):∃a l1 l2,v = .ref a/\H a=some (.tup (cdV day need l1 l2 d))/\H l1=some (.lst (o1.map V.str))/\H l2=some (.lst (o2.map V.str)):=by
 have e:cdD day need o1 o2 d = .tup (cdP day need o1 o2 d):=by
  cases d with
  | clm x i=>show D.tup [_,_,.int (i.toNat:Nat),_,_,_,_]=_;rw[Int.toNat_of_nonneg z];rfl
  | _=>rfl
 rw[e] at h
 obtain⟨a,us,rfl,ha,hu⟩:=h
 obtain⟨l1,l2,rfl,h1,h2⟩:=Znl hu
 exact⟨a,l1,l2,rfl,ha,h1,h2⟩
end
section
variable{P:Program}{w:World}{K:uFg}{mg:Str->Option Value}{base:Heap}{C CM:Addr}{c:Str->Addr}
def Zok(C CM:Addr):Sp:=fun vs H Q _=>∃(p:Addr)(as:List AD)(O:Addr->Prop)(n:Nat),vs = [.ref p,.int n]/\MSt C CM H p (Yk as).1 (Yk as).2 O/\Gd35 as/\n<=as.length /\
 ∀(p2:Addr)(O2:Addr->Prop)(H':Hp),MSt C CM H' p2 (Yk (as.take n)).1 (Yk (as.take n)).2 O2->(∀b,O2 b->H b=none)->Same H H'->Q (.ref p2) H'
abbrev Ze7:Stmt:=Ym (top 58) 35
theorem Zp2:FnScope ["self", "moment", "other", "deed"] ["self", "moment"] (Zh Ze7):=fsc
theorem Zx0(Zce:HasM K CM "then" "Moot.then" Ze7)(T:Txt mg)(Tm:TxCMoot K CM)(M_Moot:Mks P w K mg base CM "Moot" 3 (Zed C CM))(Zbn:FnX P w K mg base "done" 8 ((Zb4 C CM c).or (Zb5 C CM c))):Mt P w K mg base CM "then" ["self", "moment"] 9 (Zok C CM):=by
 refine Zce.mtQ Zp2 (fun _ _ _ _ _ _=>al2 fun _ _=>rfl) (fun vs H Q E h=>?_) (fun f cdv A outer s H vs Q E hr h=>?_)
 ·obtain⟨p,as,O,n,rfl,_⟩:=h
  rfl
 ·obtain⟨_,as,_,n,rfl,⟨M,wa,xs,qs,rfl,W,rfl⟩,hg,hn,k⟩:=h
  refine⟨_,(Ze (Zp (Vg (Uq Wa Wa Zd (qvN 1) (Z7 Wl T.len Y0 (Za (Zq (qvN 0)) Zb)))) (Zf Uh) Zo)
 (Ze (Z4 2 (Zei M_Moot))
 (Ze (Vf PassesOwn.never rfl (Vb (Zbe Zfw (Zq (qvN 0)) Zbc (Zbd (qvN 1)))) (Yt 3)
 (Zf (Zi (Wb Xq.never Zbn (Za (qvN 2) (Za (qvN 3) Zb))))))
 (Zf (Zu (qvN 2)))))),?_⟩
  have hz:(5000:Nat)<=sizeLine:=by decide
  obtain⟨dm,obm⟩:=W.ob
  obtain⟨vs,d1,d2,d3⟩:=(W.ls (M.ld,(Yk as).2.deeds) (by simp[Mo.at_])).get
  dsimp only at d1 d2 d3
  rw[Uc] at d3
  rw[Zky] at d2
  have h400:=hg.1
  refine⟨_,rfl,_,_,rfl,rfl,_,rfl,Yg (fun _=>?_) (fun z=>absurd (by lia) z)⟩
  refine⟨_,rfl,M.p,CM,dm,_,_,rfl,obm,Tm.cl,Tm.nd,Vm _,M.ld,vs,rfl,.inl (SqL.of d1),_,_,rfl,rfl,_,rfl,Yq (fun z=>absurd (show (n:Int)<=vs.length by lia) z) (fun _=>?_)⟩
  intro x dx2 nx ndx nex
  refine⟨x,dx2,rfl,Zg,fun M2 H2 eM W2 kp fr=>⟨rfl,?_⟩⟩
  subst eM
  have S2:Same H H2:=fun b o e=>kp b o (by rw[Zc (Zj e nx),Zc (Zj e ndx)];exact e) (Zj e nx)
  have fr2:∀b,mo M2 [] (fun _=>0) [] [] b->H b=none:=fun b hb=>by
   rcases fr b hb with z | z
   ·rw[z];exact nx
   ·by_cases c1:b=M2.p
    ·rw[c1];exact nx
    ·rw[Zc c1] at z
     by_cases c2:b=dx2
     ·rw[c2];exact ndx
     ·rw[Zc c2] at z;exact z
  refine Yb ?_
  refine⟨_,rfl,M.p,CM,dm,_,_,rfl,S2 _ _ obm,Tm.cl,Tm.nd,Vm _,_,rfl,_,rfl,M.ld,vs,rfl,SqL.of (S2 _ _ d1),fun l hl=>?_⟩
  rw[Zzl vs n]
  have nl:¬mo M2 [] (fun _=>0) [] [] l:=fun z=>by obtain⟨o,e⟩:=W2.there z;rw[hl] at e;cases e
  have S3:=Same.new (o:=.lst (vs.take n)) hl
  have k3:(upd H2 l (.lst (vs.take n))) l=some (.lst (vs.take n)):=Zg
  generalize (upd H2 l (.lst (vs.take n)))=H3 at S3 k3 ⊢
  refine⟨l,rfl,⟨_,SqL.of k3⟩,?_⟩
  have S03:=S2.trans S3
  have out:∀{b:Addr}{o:HO},H b=some o->¬mo M2 [] (fun _=>0) [] [] b:=fun e z=>by have:=fr2 _ z;rw[e] at this;cases this
  refine Ug (vs.take n) (fun i σ H'=>∃(v3:Option V)(O2:Addr->Prop),σ = [some (.ref M.p),some (.int n),some (.ref M2.p),v3]/\MSt C CM H' M2.p (Yk (as.take i)).1 (Yk (as.take i)).2 O2/\Frm (mo M2 [] (fun _=>0) [] []) H3 O2 H')
   ⟨none,_,rfl,⟨M2,_,_,_,rfl,W2.same S3,rfl⟩,Frm.same (Same.refl _)⟩ (fun i σ H' _ ⟨_,_,_,_,f⟩=>SqL.of (f.1 _ _ k3 nl)) ?_ ?_
  ·rintro i v σ H' hv ⟨v3,O2,rfl,W',f'⟩
   have hi:i < n:=by have:=(xF.mp hv).1;rw[xX] at this;lia
   rw[List.getElem?_take_of_lt hi] at hv
   obtain⟨d,hd,re⟩:=d2.get hv
   rw[xO] at hd
   obtain⟨p,hp,rfl⟩:=xZ.mp hd
   have et:as.take (i+1)=as.take i ++ [p]:=by rw[yP,hp];rfl
   have g:=hg.2 i p hp
   rw[et,Zcw]
   have far:∀{b:Addr}{o:HO},H b=some o->¬O2 b:=fun {b o} e z=>by
    rcases f'.2 b z with y | y
    ·exact out e y
    ·rw[S03 _ _ e] at y;cases y
   cases p with
   | s d =>
    obtain⟨g1,g2,g3⟩:=g
    obtain⟨a,rfl,ha⟩:=Zzs re g3
    refine⟨_,rfl,_,rfl,.inl ⟨M2.p,_,_,O2,a,d,rfl,W',f'.1 _ _ (S03 _ _ ha) (out ha),g1,?_⟩⟩
    rw[g2]
    exact fun O3 H4 W4 f4=>⟨_,O3,rfl,W4,f'.trans f4⟩
   | c d day need o1 o2 f =>
    obtain⟨g1,g2,g3,g4,g5,g6,g7,g8,g9,g10⟩:=g
    obtain⟨a,l1,l2,rfl,ha,h1,h2⟩:=Zzt re g10
    refine⟨_,rfl,_,rfl,.inr ⟨M2.p,_,_,O2,a,d,day,need,l1,l2,o1,o2,f,rfl,W',f'.1 _ _ (S03 _ _ ha) (out ha),⟨g2,g3,f'.1 _ _ (S03 _ _ h1) (out h1),f'.1 _ _ (S03 _ _ h2) (out h2),g4,g5,g6,g7,g8⟩,far h1,far h2,g1,?_⟩⟩
    rw[g9]
    exact fun O3 H4 W4 f4=>⟨_,O3,rfl,W4,f'.trans f4⟩
  ·rintro σ H' ⟨v3,O2,rfl,W',f'⟩
   rw[xX,Nat.min_eq_left (by lia)] at W'
   refine⟨_,rfl,k M2.p O2 H' W' (fun b hb=>?_) (fun b o e=>f'.1 b o (S03 _ _ e) (out e))⟩
   rcases f'.2 b hb with z | z
   ·exact fr2 b z
   ·exact S03.free z
end
section
variable{P:Program}{w:World}{K:uFg}{mg:Str->Option Value}{base:Heap}{C CM:Addr}{c:Str->Addr}
def Znm(C CM:Addr)(c:Str->Addr):Sp:=fun vs H _ E=>∃(p:Addr)(ds:List Deed)(m:Mo)(O:Addr->Prop)(n:Int),vs = [.ref p,.int n]/\MSt C CM H p ds m O/\okI n/\(n < 0\/(m.deeds.length:Int) < n)/\E (.ref (c "NoMoment")) none H
theorem Zvy(Zce:HasM K CM "then" "Moot.then" Ze7)(T:Txt mg)(Tm:TxCMoot K CM)(er:Er K mg c errs)(M_Moot:Mks P w K mg base CM "Moot" 3 (Zed C CM))(Zbn:FnX P w K mg base "done" 8 ((Zb4 C CM c).or (Zb5 C CM c))):MtX P w K mg base CM "then" 9 (Znm C CM c):=by
 refine Zce.mtX Zp2 (fun _ _ _ _ _ _=>al2 fun _ _=>rfl) (fun vs H Q E h=>?_) (fun f cdv A outer s H vs Q E hr h=>?_)
 ·obtain⟨p,ds,m,O,n,rfl,_⟩:=h
  rfl
 ·obtain⟨_,ds,m,_,n,rfl,⟨M,wa,xs,qs,rfl,W,rfl⟩,hi,hn,k⟩:=h
  refine⟨_,(Ze (Zp (Vg (Uq Wa Wa Zd (qvN 1) (Z7 Wl T.len Y0 (Za (Zq (qvN 0)) Zb)))) (Zf (Yz Yp er (Y2 (Yj (Yr (qvN 1) Y1))))) Zo)
 (Ze (Z4 2 (Zei M_Moot))
 (Ze (Zc2 Zdk Yp (by rfl) (Vb (Zbe Zfw (Zq (qvN 0)) Zbc (Zbd (qvN 1)))) (Yt 3)
 (fun hxq hxp=>(Zf (Zi (Wb hxq Zbn (Za (qvN 2) (Za (qvN 3) Zb)))))))
 (Zf (Zu (qvN 2)))))),?_⟩
  obtain⟨dm,obm⟩:=W.ob
  obtain⟨vs,d1,d2,d3⟩:=(W.ls (M.ld,m.deeds) (by simp[Mo.at_])).get
  dsimp only at d1 d2 d3
  refine⟨_,rfl,_,_,rfl,rfl,_,rfl,Yg (fun h0=>?_) (fun z=>?_)⟩
  ·refine⟨_,rfl,M.p,CM,dm,_,_,rfl,obm,Tm.cl,Tm.nd,Vm _,M.ld,vs,rfl,.inl (SqL.of d1),_,_,rfl,rfl,_,rfl,Yq (fun z=>?_) (fun h1=>absurd h1 (by lia))⟩
   exact⟨by decide +kernel,_,rfl,.inr ⟨n,rfl,Wj hi⟩,fun _=>k⟩
  ·exact⟨false,rfl,Z5 ⟨by decide +kernel,_,rfl,.inr ⟨n,rfl,Wj hi⟩,fun _=>k⟩⟩
end
section
variable{P:Program}{w:World}{K:uFg}{mg:Str->Option Value}{base:Heap}{C CM:Addr}{c:Str->Addr}
def Zp3(C CM:Addr):Sp:=fun vs H Q _=>∃(p:Addr)(ds:List Deed)(m:Mo)(O:Addr->Prop)(n:Int),vs = [.ref p,.int n]/\MSt C CM H p ds m O/\okI n/\(n < 0\/(m.deeds.length:Int) < n)/\Q (.bl true) H
abbrev Zjo:Stmt:=top 70
theorem Z3k:FnScope ["_law_moot", "_law_moment", "_law_kind_here"] ["_law_moot", "_law_moment"] (Zh Zjo):=fsc
theorem Z3l(Zjp:Has K mg "_law_no_moment" Zjo)(Tm:TxCMoot K CM)(er:Er K mg c errs)(MM_then:MtX P w K mg base CM "then" 9 (Znm C CM c)):Fn P w K mg base "_law_no_moment" ["_law_moot", "_law_moment"] 10 (Zp3 C CM):=by
 refine Zjp.fn0 Z3k (fun _ _ _ _ _ _=>al2 fun _ _=>rfl) (fun vs H Q E h=>?_) (fun f cdv A outer s H vs Q E hr h=>?_)
 ·obtain⟨p,ds,m,O,n,rfl,_⟩:=h
  rfl
 ·obtain⟨_,ds,m,_,n,rfl,⟨M,wa,xs,qs,rfl,W,rfl⟩,hi,hn,k⟩:=h
  refine⟨_,(Ui (QS.q0 (Z4 2 Zn))
 (Ui (Zgp Zbj (fun _ _ hx=>(Zf (Zi (Yh hx (qvN 0) Tm.cl MM_then (Za (qvN 1) Zb)))))
 (Zej Zbj (er.g "NoMoment" (by decide +kernel)) (fun _ _=>(Zf (Z4 2 Zn))) Zgo))
 (Ui (QS.q0 (Zu (U6 Wt (qvN 2) Zn (Z1 _))))
 (QSs.q0 Zo)))),?_⟩
  obtain⟨dm,obm⟩:=W.ob
  refine Yb ?_
  dsimp only [Wr]
  refine⟨_,rfl,M.p,dm,_,rfl,obm,Z8 _ (by decide +kernel),_,rfl,M.p,ds,m,_,n,rfl,⟨M,wa,xs,qs,rfl,W,rfl⟩,hi,hn,?_⟩
  refine⟨_,rfl,_,er.s "NoMoment" (by decide +kernel) "NoMoment" (by decide +kernel),Yg (fun _=>?_) (fun z=>absurd rfl z)⟩
  exact Yb ⟨_,rfl,rfl,k⟩
end
section
variable{P:Program}{w:World}{K:uFg}{mg:Str->Option Value}{base:Heap}{C CM:Addr}{c:Str->Addr}
def plD(d:D):Prop:=scD d=true\/∃o:List Str,d = .lst (o.map D.str)/\o.length<=60
def Zol:Sp:=fun vs H Q _=>∃(p:Addr)(us:List V)(ds:List D),vs = [.ref p]/\H p=some (.tup us)/\RepL H ds us/\(∀d∈ds,plD d)/\ds.length<=10/\∀q ys H',H q=none->H' q=some (.tup ys)->RepL H' ds ys->(∀l,V.ref l∈ys->H l=none)->Same H H'->Q (.ref q) H'
abbrev Zjq:Stmt:=top 67
theorem Z3m:FnScope ["_law_deed"] ["_law_deed"] (Zh Zjq):=fsc
theorem Z3n(Zjr:Has K mg "_law_hand" Zjq)(T:Txt mg):Fn P w K mg base "_law_hand" ["_law_deed"] 1 Zol:=by
 refine Zjr.fnQ Z3m (fun _ _ _ _ _ _=>al1 fun _=>rfl) (fun vs H Q E h=>?_) (fun f cdv A outer s H vs Q E hr h=>?_)
 ·obtain⟨p,us,ds,rfl,_⟩:=h
  rfl
 ·obtain⟨p,us,ds,rfl,hp,hr,hs,hl,k⟩:=h
  refine⟨_,(Zf (Zu (Uy Zri T.tuple Zf6 (Za (Ur (locs:=["_law_part"]) (fr:=[]) ⟨rfl,by decide +kernel,by decide +kernel,by decide +kernel,by decide +kernel,by decide +kernel⟩ .nil rfl (Zn2 (qvN 0)) ⟨fun _ _ _ _ _ _=>by
  have cnd:(inN ["_law_part"] []).Nodup:=by decide +kernel
  exact⟨(Vw 0 cnd),Zb2,(Zvc (Vh (Z7 Zks T.isinstance V4 (Za (Vc 0) (Za (V5 (v:=.ty "list") T.list V9 rfl (n:=nmC)) Zb)) (n:=nmC))) (Uy Zrh T.list V9 (Za (Vc 0) Zb) (n:=nmC)) (Vc 0))⟩⟩) Zb)))),?_⟩
  have hul:us.length=ds.length:=hr.length
  have hz:(5000:Nat)<=sizeLine:=by decide
  refine⟨_,rfl,p,rfl,⟨_,SqT.of hp⟩,?_⟩
  refine Zmb (xs:=us) (fun i ys H'=>Same H H'/\RepL H' (ds.take i) ys/\∀l,V.ref l∈ys->H l=none) ⟨Same.refl H,rfl,(fun l h=>nomatch h)⟩ (by lia) (fun i ys H' _ ⟨e,_⟩=>SqT.of (e _ _ hp)) (fun i ys H' ⟨_,e,_⟩=>by rw[e.length,xX];lia) ?_ ?_
  ·rintro i v ys H' hv ⟨S,r,fr⟩ ls hls
   obtain⟨w0,rfl⟩:=Zch hls
   obtain⟨d,hd,re⟩:=hr.get hv
   have re:=Rep.mono S _ _ re
   obtain⟨t1,ty1,e1⟩:=isi (K:=K) re "list" (by decide)
   have et:ds.take (i+1)=ds.take i ++ [d]:=by rw[yP,hd];rfl
   rw[et]
   refine⟨⟨[_],rfl,rfl⟩,?_⟩
   rcases hs d (xI hd) with z | ⟨o,rfl,ho⟩
   ·rw[Zp1 z] at e1
    refine⟨_,rfl,v, "list", t1,_,rfl,ty1,e1,_,rfl,Zt ⟨_,rfl,S,r.snoc re,fun l h=>?_⟩⟩
    rcases xJ.mp h with h | h
    ·exact fr l h
    ·have:=xK.mp h
     subst this
     cases d<;>first | (cases z;done) | cases re
   ·obtain⟨l0,us0,rfl,h0,h1⟩:=id re
    refine⟨_,rfl,.ref l0, "list", t1,_,rfl,ty1,e1,_,rfl,Z5 ⟨_,rfl,l0,_,rfl,.inl (SqL.of h0),fun q hq=>?_⟩⟩
    have S2:=Same.new (o:=.lst us0) hq
    refine⟨S.trans S2,RepL.snoc (show Rep _ (.lst (o.map D.str)) (.ref q) from⟨q,us0,rfl,Zg,RepL.mono S2 _ _ h1⟩) (RepL.mono S2 _ _ r),fun l h=>?_⟩
    rcases xJ.mp h with h | h
    ·exact fr l h
    ·cases xK.mp h
     exact S.free hq
  ·rintro ys H' ⟨S,r,fr⟩ l hl
   rw[hul,yU] at r
   have S1:=Same.new (o:=.lst ys) hl
   have k1:(upd H' l (.lst ys)) l=some (.lst ys):=Zg
   generalize (upd H' l (.lst ys))=H1 at S1 k1 ⊢
   exact⟨l,_,rfl,.inl ⟨SqL.of k1,fun q hq=>k q ys _ ((S.trans S1).free hq) Zg (RepL.mono (S1.trans (Same.new hq)) _ _ r) fr ((S.trans S1).trans (Same.new hq))⟩⟩
theorem Zzu{day need:Int}{o1 o2:List Str}(h1:o1.length<=60)(h2:o2.length<=60)(d:CD):∀x∈cdP day need o1 o2 d,plD x:=by
 have a:plD (.lst (o1.map D.str)):=.inr ⟨o1,rfl,h1⟩
 have b:plD (.lst (o2.map D.str)):=.inr ⟨o2,rfl,h2⟩
 have c:∀x,plD (.str x):=fun _=>.inl rfl
 have e:∀x,plD (.int x):=fun _=>.inl rfl
 cases d<;>simp[cdP,a,b,c,e]
theorem Zx1{H:Hp}{day need:Int}{l1 l2:Addr}{o1 o2:List Str}(h1:H l1=some (.lst (o1.map V.str)))(h2:H l2=some (.lst (o2.map V.str)))(d:CD):RepL H (cdP day need o1 o2 d) (cdV day need l1 l2 d):=by
 have a:Rep H (.lst (o1.map D.str)) (.ref l1):=⟨l1,_,rfl,h1,Ut H o1⟩
 have b:Rep H (.lst (o2.map D.str)) (.ref l2):=⟨l2,_,rfl,h2,Ut H o2⟩
 have t:RepL H [.lst (o1.map D.str),.lst (o2.map D.str)] [.ref l1,.ref l2]:=⟨_,_,rfl,a,⟨_,_,rfl,b,rfl⟩⟩
 cases d
 ·exact⟨_,_,rfl,rfl,⟨_,_,rfl,rfl,⟨_,_,rfl,rfl,⟨_,_,rfl,rfl,⟨_,_,rfl,rfl,⟨_,_,rfl,rfl,t⟩⟩⟩⟩⟩⟩
 all_goals exact⟨_,_,rfl,rfl,⟨_,_,rfl,rfl,⟨_,_,rfl,rfl,⟨_,_,rfl,rfl,⟨_,_,rfl,rfl,t⟩⟩⟩⟩⟩
theorem MSt.x{H H':Hp}{p:Addr}{ds:List Deed}{m:Mo}{O:Addr->Prop}(h:MSt C CM H p ds m O){s:Addr}{ys:List V}(hs:H s=some (.lst ys))(hn:¬O s)(k:SameX s H H'):MSt C CM H' p ds m O:=by
 obtain⟨M,wa,xs,qs,e,W,rfl⟩:=h
 exact⟨M,wa,xs,qs,e,W.x hs hn k,rfl⟩
def trd{α:Type _}(e:Option Str)(a b : α) : α:=match e with
 | none=>a
 | some _=>b
def Zkk(C CM:Addr)(Q:V->Hp->Prop)(H:Hp)(p:Addr)(O:Addr->Prop)(ds':List Deed)(m':Mo)(tv:List V):Prop:=∀O' l H',MSt C CM H' p ds' m' O'->Frm O H O' H'->¬O' l->H' l=some (.lst tv)->Q (.ref l) H'
def Zom(C CM:Addr):Sp:=fun vs H Q _=>∃(p:Addr)(ds:List Deed)(m:Mo)(O:Addr->Prop)(a:Addr)(d:SD),vs = [.ref p,.ref a]/\MSt C CM H p ds m O/\H a=some (.tup (sdV d))/\Zct ds m d/\(∀x,eSD ds m d=some x->x∈errs)/\
 Zkk C CM Q H p O (trd (eSD ds m d) (sdF ds d) ds) (trd (eSD ds m d) (m.sd d) m) (trd (eSD ds m d) [sdR m d] [])
def Zon(C CM:Addr):Sp:=fun vs H Q _=>∃(p:Addr)(ds:List Deed)(m:Mo)(O:Addr->Prop)(a:Addr)(d:CD)(day need:Int)(l1 l2:Addr)(o1 o2:List Str)(f:Str->Int),vs = [.ref p,.ref a]/\MSt C CM H p ds m O/\H a=some (.tup (cdV day need l1 l2 d))/\CsA ds m H l1 l2 o1 o2 day need f/\Zdm d/\(∀x,eCD ds m day need f o1 o2 d=some x->x∈errs)/\
 Zkk C CM Q H p O ds (trd (eCD ds m day need f o1 o2 d) (m.does day need f o1 o2 d) m) (trd (eCD ds m day need f o1 o2 d) [.int m.trials.length] [])
abbrev Zjs:Stmt:=top 68
theorem Z3o:FnScope ["_law_moot", "_law_deed", "_law_handed", "_law_told", "_law_part"] ["_law_moot", "_law_deed"] (Zh Zjs):=fsc
theorem Z3p(Zjt:Has K mg "_law_try" Zjs)(T:Txt mg)(er:Er K mg c errs)(Z3q:Fn P w K mg base "_law_hand" ["_law_deed"] 1 Zol)(Zbn:FnX P w K mg base "done" 8 ((Zb4 C CM c).or (Zb5 C CM c))):Fn P w K mg base "_law_try" ["_law_moot", "_law_deed"] 9 ((Zom C CM).or (Zon C CM)):=by
 refine Zjt.fn0 Z3o (fun _ _ _ _ _ _=>al2 fun _ _=>rfl) (fun vs H Q E h=>?_) (fun f cdv A outer s H vs Q E hr h=>?_)
 ·rcases h with⟨p,ds,m,O,a,d,rfl,_⟩ | ⟨p,ds,m,O,a,d,day,need,l1,l2,o1,o2,f,rfl,_⟩<;>rfl
 ·refine⟨_,(Ui (QS.q0 (Z4 2 (Z6 Z3q (Za (qvN 1) Zb))))
 (Ui (QS.q0 (Z4 3 (Zy Zb)))
 (Ui (Zgp Zbj (fun _ _ hx=>(Zf (Z4 3 (Zy (Za (Wb hx Zbn (Za (qvN 0) (Za (qvN 2) Zb))) Zb)))))
 (Zej Zbj (er.m) (fun _ _=>(Zf (Z4 3 (Zy Zb)))) Zgo))
 (Ui (QS.q0 (Vf PassesOwn.never rfl (Vb (Ur (locs:=["_law_part"]) (fr:=[]) ⟨rfl,by decide +kernel,by decide +kernel,by decide +kernel,by decide +kernel,by decide +kernel⟩ .nil rfl (Zn2 (qvN 2)) ⟨fun _ _ _ _ _ _=>by
  have cnd:(inN ["_law_part"] []).Nodup:=by decide +kernel
  exact⟨(Vw 0 cnd),(Zd5 (Vh (Z7 Zks T.isinstance V4 (Za (Vc 0) (Za (V5 (v:=.ty "list") T.list V9 rfl (n:=nmC)) Zb)) (n:=nmC)))),(Vc 0)⟩⟩)) (Yt 4)
 (Zf (Zi (Zzj F.plainAttrs_list F.slot_list_clear F.type_list_clear Zt0 (qvN 4))))))
 (Ui (QS.q0 (Zu (qvN 3)))
 (QSs.q0 Zo)))))),?_⟩
  have hz:(5000:Nat)<=sizeLine:=by decide
  obtain⟨p,ds,m,O,a,us,ps,hvs,W,ha,hr0,hpl,hps,hk⟩:∃(p:Addr)(ds:List Deed)(m:Mo)(O:Addr->Prop)(a:Addr)(us:List V)(ps:List D),vs = [.ref p,.ref a]/\MSt C CM H p ds m O/\H a=some (.tup us)/\RepL H ps us/\(∀x∈ps,plD x)/\ps.length<=10 /\
    ∀(q:Addr)(ys:List V)(H2:Hp),Same H H2->H2 q=some (.tup ys)->RepL H2 ps ys->(∀l,V.ref l∈ys->H l=none)->
     ∃ds' m' tv,Zkk C CM Q H p O ds' m' tv/\∀(R:V->Hp->Prop)(E:XK),(∀(v:V)(O':Addr->Prop)(H3:Hp),tv = [v]->MSt C CM H3 p ds' m' O'->Frm O H2 O' H3->R v H3)->(∀x H3,x∈errs->tv = []->ds'=ds->m'=m->Same H2 H3->E (.ref (c x)) none H3)->((Zb4 C CM c).or (Zb5 C CM c)) [.ref p,.ref q] H2 R E:=by
   rcases h with⟨p,ds,m,O,a,d,rfl,W,ha,hd,he,k⟩ | ⟨p,ds,m,O,a,d,day,need,l1,l2,o1,o2,f,rfl,W,ha,cs,hd,he,k⟩
   ·refine⟨p,ds,m,O,a,_,sdP d,rfl,W,ha,Zgg H d,fun x hx=>.inl (Zgt d x hx),by cases d<;>simp[sdP],fun q ys H2 S kq hy _=>⟨_,_,_,k,fun R E g b=>.inl ⟨p,ds,m,O,q,d,rfl,W.same S,by rw[kq,Zgf (Zgt d) (Zgg H d) hy],hd,?_⟩⟩⟩
    cases e:eSD ds m d with
    | none=>rw[e] at g;exact fun O' H3 W3 F3=>g _ O' H3 rfl W3 F3
    | some x=>rw[e] at b;exact fun H3 S3=>b x H3 (he x e) rfl rfl rfl S3
   ·refine⟨p,ds,m,O,a,_,cdP day need o1 o2 d,rfl,W,ha,Zx1 cs.h1 cs.h2 d,Zzu cs.n1 cs.n2 d,by cases d<;>simp[cdP],fun q ys H2 S kq hy fr=>⟨_,_,_,k,fun R E g b=>?_⟩⟩
    obtain⟨m1,m2,rfl,h1,h2⟩:=Znl hy
    refine .inr ⟨p,ds,m,O,q,d,day,need,m1,m2,o1,o2,f,rfl,W.same S,kq,⟨cs.ok,cs.hd,h1,h2,cs.n1,cs.n2,cs.di,cs.ni,cs.hw⟩,W.out (fr m1 (by cases d<;>simp[cdV])),W.out (fr m2 (by cases d<;>simp[cdV])),hd,?_⟩
    cases e:eCD ds m day need f o1 o2 d with
    | none=>rw[e] at g;exact fun O' H3 W3 F3=>g _ O' H3 rfl W3 F3
    | some x=>rw[e] at b;exact fun H3 S3=>b x H3 (he x e) rfl rfl rfl S3
  subst hvs
  refine⟨_,rfl,a,us,ps,rfl,ha,hr0,hpl,hps,fun q ys H1 hq kq hy fr S1=>?_⟩
  refine Yb ?_
  dsimp only [Wr]
  refine⟨by show 0<=sizeLine;decide,fun l0 hl0=>?_⟩
  have S2:=S1.trans (Same.new (o:=.lst []) hl0)
  have kq2:=(Same.new (o:=.lst []) hl0) _ _ kq
  have hy2:=RepL.mono (Same.new (o:=.lst []) hl0) _ _ hy
  generalize (upd H1 l0 (.lst []))=H2 at S2 kq2 hy2 ⊢
  refine Yb ?_
  dsimp only [Wr]
  obtain⟨ds',m',tv,k,g⟩:=hk q ys H2 S2 kq2 hy2 fr
  have ref:∀{l:Addr},V.ref l∈ys->∃xs:List Str,H2 l=some (.lst (xs.map V.str)):=fun {l} h=>by
   obtain⟨i,hi⟩:=List.getElem?_of_mem h
   obtain⟨d,hd,re⟩:=hy2.get hi
   rcases hpl d (xI hd) with z | ⟨o,rfl,_⟩
   ·cases d<;>first | (cases z;done) | cases re
   ·obtain⟨b,us,e,e1,e2⟩:=re
    cases e
    exact⟨o,by rw[e1,Zdz e2]⟩
  refine Zxf (fun σ H4=>∃(O':Addr->Prop)(l:Addr),σ = [some (.ref p),some (.ref a),some (.ref q),some (.ref l),none]/\MSt C CM H4 p ds' m' O'/\Frm O H2 O' H4/\¬O' l/\H4 l=some (.lst tv)/\∀b,V.ref b∈ys->b≠l) ?_ ?_
  ·rintro σ H4 ⟨O',l,rfl,W4,F4,nl,kl,hne⟩
   have at4:∀{b:Addr}{o:HO},H b=none->H2 b=some o->H4 b=some o/\¬O' b:=fun e e2=>⟨F4.1 _ _ e2 (W.out e),fun z=>(F4.2 _ z).elim (W.out e) (fun y=>by rw[e2] at y;cases y)⟩
   have kq4:=(at4 hq kq2).1
   refine⟨_,rfl,q,rfl,⟨_,SqT.of kq4⟩,?_⟩
   have hyl:=hy2.length
   refine Zmb (xs:=ys) (fun i zs H'=>H'=H4/\zs.length<=i/\∀z∈zs,∃b,z = .ref b/\z∈ys) ⟨rfl,yJ _,(fun z h=>nomatch h)⟩ (by lia) (fun i zs H' _ ⟨e,_⟩=>by rw[e];exact SqT.of kq4) (fun i zs H' ⟨_,e,_⟩=>e) ?_ ?_
   ·rintro i v zs H' hv ⟨rfl,hl,hz'⟩ ls hls
    obtain⟨w0,rfl⟩:=Zch hls
    obtain⟨d,hd,re⟩:=hy2.get hv
    have hm:=xI hv
    refine⟨⟨[_],rfl,rfl⟩,?_⟩
    rcases hpl d (xI hd) with z | ⟨o,rfl,_⟩
    ·have re':Rep H' d v:=by cases d<;>first | (cases z;done) | exact re
     obtain⟨t1,ty1,e1⟩:=isi (K:=K) re' "list" (by decide)
     rw[Zp1 z] at e1
     exact⟨_,rfl,v, "list", t1,_,rfl,ty1,e1,_,rfl,Zt ⟨rfl,by lia,hz'⟩⟩
    ·obtain⟨b,us,rfl,e1,e2⟩:=re
     have re':Rep H' (.lst (o.map D.str)) (.ref b):=⟨b,us,rfl,(at4 (fr b hm) e1).1,by rw[Zdz e2];exact Ut _ _⟩
     obtain⟨t1,ty1,e1⟩:=isi (K:=K) re' "list" (by decide)
     refine⟨_,rfl,.ref b, "list", t1,_,rfl,ty1,e1,_,rfl,Z5 ⟨_,rfl,rfl,by rw[xN];show _+1<=_;lia,fun z h=>?_⟩⟩
     rcases xJ.mp h with h | h
     ·exact hz' z h
     ·cases xK.mp h;exact⟨b,rfl,hm⟩
   ·rintro zs H' ⟨rfl,hl,hz'⟩ l5 hl5
    have S5:=Same.new (o:=.lst zs) hl5
    have k5:(upd H' l5 (.lst zs)) l5=some (.lst zs):=Zg
    have n5:=W4.out hl5
    have W5:=W4.same S5
    have F5:=((Frm.same S2).trans F4).trans (Frm.same S5)
    have kl5:=S5 _ _ kl
    have ne5:∀{b:Addr}{o:HO},H' b=some o->b≠l5:=fun e=>Zj e hl5
    have in5:∀{b:Addr},V.ref b∈ys->¬O' b/\b≠l5/\∃xs,(upd H' l5 (.lst zs)) b=some (.lst xs):=fun {b} h=>by
     obtain⟨xs,e⟩:=ref h
     obtain⟨a1,a2⟩:=at4 (fr b h) e
     exact⟨a2,ne5 a1,_,S5 _ _ a1⟩
    generalize (upd H' l5 (.lst zs))=H5 at W5 F5 kl5 k5 in5 ⊢
    refine⟨l5,rfl,⟨_,SqL.of k5⟩,?_⟩
    refine Ug zs (fun i σ H6=>(∃v4:Option V,σ = [some (.ref p),some (.ref a),some (.ref q),some (.ref l),v4])/\MSt C CM H6 p ds' m' O'/\Frm O H O' H6/\H6 l=some (.lst tv)/\H6 l5=some (.lst zs)/\∀b,V.ref b∈ys->∃xs,H6 b=some (.lst xs)) ⟨⟨none,rfl⟩,W5,F5,kl5,k5,fun b h=>(in5 h).2.2⟩ (fun i σ H6 _ ⟨_,_,_,_,e,_⟩=>SqL.of e) ?_ ?_
    ·rintro i v σ H6 hv ⟨⟨v4,rfl⟩,W6,F6,kl6,k6,in6⟩
     obtain⟨b,rfl,hb⟩:=hz' v (xI hv)
     obtain⟨xs,e⟩:=in6 b hb
     have kx:SameX b H6 (upd H6 b (.lst [])):=SameX.upd
     refine⟨_,rfl,.inl ⟨rfl,_,SqL.of e⟩,b,xs,rfl,rfl,e,⟨_,rfl⟩,W6.x e (in5 hb).1 kx,⟨fun b' o e' n'=>kx _ _ (Zj e' (fr b hb)) (F6.1 _ _ e' n'),F6.2⟩,kx _ _ (hne b hb).symm kl6,kx _ _ (in5 hb).2.1.symm k6,fun b' hb'=>?_⟩
     by_cases z:b'=b
     ·rw[z];exact⟨_,Zg⟩
     ·obtain⟨xs',e'⟩:=in6 b' hb'
      exact⟨xs',kx _ _ z e'⟩
    ·rintro σ H6 ⟨⟨v4,rfl⟩,W6,F6,kl6,k6,in6⟩
     exact⟨_,rfl,k O' l H6 W6 F6 nl kl6⟩
  ·intro D' hn _ _ _
   refine⟨_,rfl,_,rfl,g _ _ (fun v O' H3 etv W3 F3=>?_) (fun x H3 hx etv ed em S3=>?_)⟩
   ·refine⟨by show 1<=sizeLine;lia,fun l hl=>?_⟩
    refine Yb (hn _ _ ⟨O',l,rfl,W3.same (Same.new hl),F3.trans (Frm.same (Same.new hl)),W3.out hl,by rw[etv];exact Zg,fun b hb=>?_⟩)
    obtain⟨xs,e⟩:=ref hb
    exact Zj (F3.1 _ _ e (W.out (fr b hb))) hl
   ·refine⟨_,rfl,_,er.e x hx,Z5 ⟨by show 0<=sizeLine;lia,fun l hl=>?_⟩⟩
    have S4:=S3.trans (Same.new (o:=.lst []) hl)
    refine Yb (hn _ _ ⟨O,l,rfl,by rw[ed,em];exact(W.same S2).same S4,Frm.same S4,W.out ((S2.trans S3).free hl),by rw[etv];exact Zg,fun b hb=>?_⟩)
    obtain⟨xs,e⟩:=ref hb
    exact Zj (S3 _ _ e) hl
end
section
variable{P:Program}{w:World}{K:uFg}{mg:Str->Option Value}{base:Heap}{C CM:Addr}{c:Str->Addr}
def Zff(N:Addr->Prop)(H:Hp):AD->V->Prop
 | .s d,v=>∃a,v = .ref a/\H a=some (.tup (sdV d))
 | .c d day need o1 o2 _,v=>∃a l1 l2,v = .ref a/\H a=some (.tup (cdV day need l1 l2 d))/\N l1/\N l2/\H l1=some (.lst (o1.map V.str))/\H l2=some (.lst (o2.map V.str))
def DdL(N:Addr->Prop)(H:Hp):List AD->List V->Prop
 | [],vs=>vs = []
 | x::xs,vs=>∃v r,vs=v::r/\Zff N H x v/\DdL N H xs r
variable{N N':Addr->Prop}
theorem DdL.mono{H H':Hp}(kt:V0 H H')(kl:∀b u,N b->H b=some (.lst u)->N' b/\H' b=some (.lst u)):∀{xs:List AD}{vs:List V},DdL N H xs vs->DdL N' H' xs vs
 | [],_,h=>h
 | .s _::_,_,⟨v,r,e,⟨a,e',h⟩,h'⟩=>⟨v,r,e,⟨a,e',kt _ _ h⟩,h'.mono kt kl⟩
 | .c .. :: _,_,⟨v,r,e,⟨a,l1,l2,e',h,n1,n2,h1,h2⟩,h'⟩=>⟨v,r,e,⟨a,l1,l2,e',kt _ _ h,(kl _ _ n1 h1).1,(kl _ _ n2 h2).1,(kl _ _ n1 h1).2,(kl _ _ n2 h2).2⟩,h'.mono kt kl⟩
theorem DdL.same{H H':Hp}{xs:List AD}{vs:List V}(h:DdL N H xs vs)(k:Same H H'):DdL N H' xs vs:=h.mono (fun _ _ e=>k _ _ e) (fun _ _ n e=>⟨n,k _ _ e⟩)
theorem DdL.app{H:Hp}:∀{xs ys:List AD}{us vs:List V},DdL N H xs us->DdL N H ys vs->DdL N H (xs++ys) (us++vs)
 | [],_,_,_,h,k=>by cases h;exact k
 | _::_,_,_,_,⟨v,r,e,h,h'⟩,k=>by subst e;exact⟨v,_,rfl,h,h'.app k⟩
theorem DdL.get{H:Hp}:∀{xs:List AD}{vs:List V}{i:Nat}{v:V},DdL N H xs vs->vs[i]? = some v->∃x,xs[i]? = some x/\Zff N H x v
 | [],_,i,v,h,e=>by have h:_ = []:=h;subst h;cases e
 | x::xs,_,0,v,⟨u,r,rfl,b,_⟩,e=>by cases e;exact⟨x,rfl,b⟩
 | x::xs,_,i+1,v,⟨u,r,rfl,_,b⟩,e=>DdL.get (i:=i) b e
theorem DdL.len{H:Hp}:∀{xs:List AD}{vs:List V},DdL N H xs vs->vs.length=xs.length
 | [],_,h=>by cases h;rfl
 | _::_,_,⟨v,r,e,_,h'⟩=>by rw[e,xU,xU,h'.len]
def EvL(t:TA)(σ:St)(xs:List AD):Prop:=∀(N:Addr->Prop)(H:Hp)(Q:List V->Hp->Prop),(∀b,H b=none->N b)->(∀us H',Same H H'->DdL N H' xs us->Q us H')->t σ H Q
variable{σ:St}{t1 tr:TA}{xs:List AD}
theorem EvL.nil:EvL Vu σ []:=fun _ H _ _ h=>h [] H (Same.refl H) rfl
theorem EvL.sd(d:SD)(h1:∀H (R:List V->Hp->Prop),R (sdV d) H->t1 σ H R)(h2:EvL tr σ xs):EvL (Ve (Zfb t1) tr) σ (.s d::xs):=fun N H Q S h=>h1 H _ ⟨xT (show (sdV d).length<=10 by cases d<;>simp[sdV]) (by decide),fun p hp=>by
 have S1:=Same.new (o:=.tup (sdV d)) hp
 refine h2 N _ _ (fun b hb=>S b (S1.free hb)) fun us H' S' B=>h _ _ (S1.trans S') ⟨_,_,rfl,⟨p,rfl,S' _ _ Zg⟩,B⟩⟩
theorem EvL.cd(d:CD)(day need:Int)(o1 o2:List Str)(f:Str->Int)(h1:∀H (R:List V->Hp->Prop),(∀l1 l2,H l1=none->(upd H l1 (.lst (o1.map V.str))) l2=none->R (cdV day need l1 l2 d) (upd (upd H l1 (.lst (o1.map V.str))) l2 (.lst (o2.map V.str))))->t1 σ H R)(h2:EvL tr σ xs):EvL (Ve (Zfb t1) tr) σ (.c d day need o1 o2 f::xs):=fun N H Q S h=>h1 H _ fun l1 l2 n1 n2=>⟨xT (show (cdV day need l1 l2 d).length<=10 by cases d<;>simp[cdV]) (by decide),fun p hp=>by
 have S1:=Same.new (o:=.lst (o1.map V.str)) n1
 have S2:=Same.new (o:=.lst (o2.map V.str)) n2
 have S3:=Same.new (o:=.tup (cdV day need l1 l2 d)) hp
 have S12:=S1.trans S2
 have S13:=S12.trans S3
 refine h2 N _ _ (fun b hb=>S b (S13.free hb)) fun us H' S' B=>h _ _ (S13.trans S') ⟨_,_,rfl,⟨p,l1,l2,rfl,S' _ _ Zg,S _ n1,S _ (S1.free n2),S' _ _ (S3 _ _ (S2 _ _ Zg)),S' _ _ (S3 _ _ Zg)⟩,B⟩⟩
theorem Vt{H:Hp}{Q:VK}(E:EvL t1 σ xs)(hl:xs.length<=400)(hN:∀b,H b=none->N b)(k:∀l us H',H l=none->Same H H'->H' l=some (.lst us)->DdL (fun b=>N b/\b≠l) H' xs us->Q (.ref l) H'):Zj9 t1 σ H Q:=E N H _ hN fun us H' S' B=>⟨xT (by rw[B.len];exact hl) (show 400<=sizeLine by decide),fun p hp=>k p us _ (S'.free hp) (S'.trans (Same.new hp)) Zg (B.mono (fun _ _ e=>Same.new hp _ _ e) fun b u n e=>⟨⟨n,Zj e hp⟩,Same.new hp _ _ e⟩)⟩
theorem DdL.fst{H:Hp}{M:Addr->Prop}{vs:List V}(h:DdL (fun b=>N b/\M b) H xs vs):DdL N H xs vs:=h.mono (fun _ _ e=>e) fun _ _ n e=>⟨n.1,e⟩
theorem ble{n m:Nat}(h:Nat.ble n m=true):n<=m:=Nat.le_of_ble_eq_true h
theorem Znn{te:TE}{tg:TG}{u:TS}{D:Ends}{H:Hp}(h:te σ H fun v H1=>tg v σ H1 fun σ' H'=>u D σ' H'):V2 (Uw te tg) u D σ H:=h
variable(a b t:Str)
def f35:Str->Int:=fun n=>if n=a then 5 else 7
def Zen(g:Str):List AD:=[.s (.come g 0 5),.s (.rise b 4 9),.s (.die b t 50),.s (.bring a 1)] ++ [.s (.give 0 a b 5),.s (.pay a b 3 6),.s (.pen a)] ++ [.c (.wer a a 5) 9 1 [t] [] (f35 a),.c (.clm a 0) 9 1 [t] [a] (f35 a)] ++ [.c (.acc 0 t) 9 1 [a] [] (f35 a)]
def Zeo(g nb v:Str):List AD:=[.s (.come "Ann" 0 5),.s (.come g 10000 5),.s (.come a 0 5),.s (.give 99 a b 5)] ++ [.s (.give 0 a b 0),.s (.die b b 50),.s (.die v a 80),.s (.rise v 70 5)] ++ [.c (.acc 9 t) 9 1 [a] [] (f35 a),.c (.acc 0 a) 9 1 [a] [] (f35 a)] ++ [.c (.acc 0 t) 8 1 [a] [] (f35 a),.s (.pay a b 0 6),.s (.bring nb 3)] ++ [.c (.clm a 99) 9 1 [t] [] (f35 a),.s (.pen nb),.s (.pen v)]
variable {a b t}
theorem Uv{H H1:Hp}{l1 l2:Addr}{us vs:List V}{xs ys:List AD}{Q:VK}(hn:xs.length+ys.length<=400)(k1:H l1=some (.lst us))(D1:DdL N H xs us)(S1:Same H H1)(k2:H1 l2=some (.lst vs))(D2:DdL N H1 ys vs)(k:∀l H',H1 l=none->Same H1 H'->H' l=some (.lst (us++vs))->DdL (fun b=>N b/\b≠l) H' (xs++ys) (us++vs)->Q (.ref l) H') :
  Zkb (.ref l1) (.ref l2) H1 Q :=
 ⟨l1,l2,us,vs,rfl,rfl,S1 _ _ k1,k2,by rw[D1.len,D2.len];exact xT hn (by decide),fun l hl=>k l _ hl (Same.new hl) Zg (((D1.same S1).app D2).mono (fun _ _ e=>Same.new hl _ _ e) fun b u n e=>⟨⟨n,Zj e hl⟩,Same.new hl _ _ e⟩)⟩
def Zoo:Sp:=fun vs H Q _=>∃a b t g:Str,vs = [.str a,.str b,.str t,.str g]/\∀(q:Addr)(us:List V)(H':Hp),H q=none->Same H H'->H' q=some (.lst us)->DdL (fun b=>H b=none) H' (Zen a b t g) us->Q (.ref q) H'
abbrev Zju:Stmt:=top 71
theorem Z3r:FnScope ["_law_one", "_law_two", "_law_three", "_law_four", "_law_ends_here"] ["_law_one", "_law_two", "_law_three", "_law_four"] (Zh Zju):=fsc
theorem Z3s(Zjv:Has K mg "_law_ends" Zju):Fn P w K mg base "_law_ends" ["_law_one", "_law_two", "_law_three", "_law_four"] 1 Zoo:=by
 refine Zjv.fnQ Z3r (fun _ _ _ _ _ _=>al4 fun _ _ _ _=>rfl) (fun vs H Q E h=>?_) (fun f cdv A outer s H vs Q E hr h=>?_)
 ·obtain⟨a,b,t,g,rfl,_⟩:=h
  rfl
 ·obtain⟨a,b,t,g,rfl,k⟩:=h
  refine⟨_,(Ze (Z4 4 (Zy (Za (Zs (Za Zn (Za (qvN 3) (Za Zd (Za Zd Zb))))) (Za (Zs (Za Zn (Za (qvN 1) (Za Zd (Za Zd Zb))))) (Za (Zs (Za Zn (Za (qvN 1) (Za Zd (Za (qvN 2) Zb))))) (Za (Zs (Za Zn (Za (qvN 0) (Za Zd Zb)))) Zb))))))
 (Ze (Z4 4 (Zz Wp (qvN 4) (Zy (Za (Zs (Za Zn (Za Zd (Za (qvN 0) (Za (qvN 1) (Za Zd Zb)))))) (Za (Zs (Za Zn (Za (qvN 0) (Za (qvN 1) (Za Zd (Za Zd Zb)))))) (Za (Zs (Za Zn (Za (qvN 0) Zb))) Zb))))))
 (Ze (Z4 4 (Zz Wp (qvN 4) (Zy (Za (Zs (Za Zn (Za (qvN 0) (Za (qvN 0) (Za Zd (Za Zd (Za Zd (Za (Zy (Za (qvN 2) Zb)) (Za (Zy Zb) Zb))))))))) (Za (Zs (Za Zn (Za (qvN 0) (Za Zd (Za Zd (Za Zd (Za (Zy (Za (qvN 2) Zb)) (Za (Zy (Za (qvN 0) Zb)) Zb)))))))) Zb)))))
 (Zf (Zu (Zz Wp (qvN 4) (Zy (Za (Zs (Za Zn (Za Zd (Za (qvN 2) (Za Zd (Za Zd (Za (Zy (Za (qvN 0) Zb)) (Za (Zy Zb) Zb)))))))) Zb)))))))),?_⟩
  have lz:∀{n:Nat},n<=5->n<=sizeLine:=fun h=>xT h (by decide)
  refine Znn (Vt (by exact .sd (.come g 0 5) (fun _ _ h=>⟨_,rfl,h⟩) <| .sd (.rise b 4 9) (fun _ _ h=>⟨_,rfl,h⟩) <| .sd (.die b t 50) (fun _ _ h=>⟨_,rfl,_,rfl,h⟩) <| .sd (.bring a 1) (fun _ _ h=>⟨_,rfl,h⟩) .nil) (by exact ble rfl) (fun _ h=>h) fun q1 us1 H1 n1 S1 c1 B1=>?_)
  refine Yb ?_
  try dsimp only [Wr]
  refine⟨_,rfl,Vt (by exact .sd (.give 0 a b 5) (fun _ _ h=>⟨_,rfl,_,rfl,h⟩) <| .sd (.pay a b 3 6) (fun _ _ h=>⟨_,rfl,_,rfl,h⟩) <| .sd (.pen a) (fun _ _ h=>⟨_,rfl,h⟩) .nil) (by exact ble rfl) (fun _ h=>S1.free h) fun q2 us2 H2 n2 S2 c2 B2=>Uv (by exact ble rfl) c1 B1.fst S2 c2 B2.fst fun q3 H3 n3 S3 c3 B3=>?_⟩
  refine Yb ?_
  try dsimp only [Wr]
  have S03:=(S1.trans S2).trans S3
  refine⟨_,rfl,Vt (by exact .cd (.wer a a 5) 9 1 [t] [] (f35 a) (fun _ _ h=>⟨_,rfl,_,rfl,_,rfl,lz (ble rfl),fun l1 n1=>⟨lz (ble rfl),fun l2 n2=>h l1 l2 n1 n2⟩⟩) <| .cd (.clm a 0) 9 1 [t] [a] (f35 a) (fun _ _ h=>⟨_,rfl,_,rfl,lz (ble rfl),fun l1 n1=>⟨_,rfl,lz (ble rfl),fun l2 n2=>h l1 l2 n1 n2⟩⟩) .nil) (by exact ble rfl) (fun _ h=>S03.free h) fun q4 us4 H4 n4 S4 c4 B4=>Uv (by exact ble rfl) c3 B3.fst S4 c4 B4.fst fun q5 H5 n5 S5 c5 B5=>?_⟩
  refine Yb ?_
  try dsimp only [Wr]
  have S05:=(S03.trans S4).trans S5
  refine⟨_,rfl,Vt (by exact .cd (.acc 0 t) 9 1 [a] [] (f35 a) (fun _ _ h=>⟨_,rfl,_,rfl,lz (ble rfl),fun l1 n1=>⟨lz (ble rfl),fun l2 n2=>h l1 l2 n1 n2⟩⟩) .nil) (by exact ble rfl) (fun _ h=>S05.free h) fun q6 us6 H6 n6 S6 c6 B6=>Uv (by exact ble rfl) c5 B5.fst S6 c6 B6.fst fun q7 H7 n7 S7 c7 B7=>?_⟩
  exact k q7 _ H7 ((S05.trans S6).free n7) ((S05.trans S6).trans S7) c7 B7.fst
def Zp4:Sp:=fun vs H Q _=>∃(a b t g nb v:Str)(l:Addr),vs = [.str a,.str b,.str t,.ref l]/\H l=some (.lst [.str g,.str nb,.str v])/\∀(q:Addr)(us:List V)(H':Hp),H q=none->Same H H'->H' q=some (.lst us)->DdL (fun b=>H b=none) H' (Zeo a b t g nb v) us->Q (.ref q) H'
abbrev Zjw:Stmt:=top 72
theorem Z3t:FnScope ["_law_one", "_law_two", "_law_three", "_law_more", "_law_four", "_law_nobody", "_law_five", "_law_bad_here"] ["_law_one", "_law_two", "_law_three", "_law_more"] (Zh Zjw):=fsc
theorem Z3u(Zjx:Has K mg "_law_bad" Zjw):Fn P w K mg base "_law_bad" ["_law_one", "_law_two", "_law_three", "_law_more"] 1 Zp4:=by
 refine Zjx.fnQ Z3t (fun _ _ _ _ _ _=>al4 fun _ _ _ _=>rfl) (fun vs H Q E h=>?_) (fun f cdv A outer s H vs Q E hr h=>?_)
 ·obtain⟨a,b,t,g,nb,v,l,rfl,_⟩:=h
  rfl
 ·obtain⟨a,b,t,g,nb,v,l,rfl,hl,k⟩:=h
  refine⟨_,(Ze (Zap (qvN 3) (Zm3 (by rfl) (Wk (Yt 4) (Wk (Yt 5) (Wk (Yt 6) Zaq)))))
 (Ze (Z4 7 (Zy (Za (Zs (Za Zn (Za Zn (Za Zd (Za Zd Zb))))) (Za (Zs (Za Zn (Za (qvN 4) (Za Zd (Za Zd Zb))))) (Za (Zs (Za Zn (Za (qvN 0) (Za Zd (Za Zd Zb))))) (Za (Zs (Za Zn (Za Zd (Za (qvN 0) (Za (qvN 1) (Za Zd Zb)))))) Zb))))))
 (Ze (Z4 7 (Zz Wp (qvN 7) (Zy (Za (Zs (Za Zn (Za Zd (Za (qvN 0) (Za (qvN 1) (Za Zd Zb)))))) (Za (Zs (Za Zn (Za (qvN 1) (Za Zd (Za (qvN 1) Zb))))) (Za (Zs (Za Zn (Za (qvN 6) (Za Zd (Za (qvN 0) Zb))))) (Za (Zs (Za Zn (Za (qvN 6) (Za Zd (Za Zd Zb))))) Zb)))))))
 (Ze (Z4 7 (Zz Wp (qvN 7) (Zy (Za (Zs (Za Zn (Za Zd (Za (qvN 2) (Za Zd (Za Zd (Za (Zy (Za (qvN 0) Zb)) (Za (Zy Zb) Zb)))))))) (Za (Zs (Za Zn (Za Zd (Za (qvN 0) (Za Zd (Za Zd (Za (Zy (Za (qvN 0) Zb)) (Za (Zy Zb) Zb)))))))) Zb)))))
 (Ze (Z4 7 (Zz Wp (qvN 7) (Zy (Za (Zs (Za Zn (Za Zd (Za (qvN 2) (Za Zd (Za Zd (Za (Zy (Za (qvN 0) Zb)) (Za (Zy Zb) Zb)))))))) (Za (Zs (Za Zn (Za (qvN 0) (Za (qvN 1) (Za Zd (Za Zd Zb)))))) (Za (Zs (Za Zn (Za (qvN 5) (Za Zd Zb)))) Zb))))))
 (Zf (Zu (Zz Wp (qvN 7) (Zy (Za (Zs (Za Zn (Za (qvN 0) (Za Zd (Za Zd (Za Zd (Za (Zy (Za (qvN 2) Zb)) (Za (Zy Zb) Zb)))))))) (Za (Zs (Za Zn (Za (qvN 5) Zb))) (Za (Zs (Za Zn (Za (qvN 6) Zb))) Zb)))))))))))),?_⟩
  have lz:∀{n:Nat},n<=5->n<=sizeLine:=fun h=>xT h (by decide)
  refine⟨_,rfl,l,_,rfl,SqL.of hl,rfl,_,_,rfl,_,_,rfl,_,_,rfl,rfl,?_⟩
  try dsimp only [Wr]
  refine Znn (Vt (by exact .sd (.come "Ann" 0 5) (fun _ _ h=>h) <| .sd (.come g 10000 5) (fun _ _ h=>⟨_,rfl,h⟩) <| .sd (.come a 0 5) (fun _ _ h=>⟨_,rfl,h⟩) <| .sd (.give 99 a b 5) (fun _ _ h=>⟨_,rfl,_,rfl,h⟩) .nil) (by exact ble rfl) (fun _ h=>h) fun q1 us1 H1 n1 S1 c1 B1=>?_)
  refine Yb ?_
  try dsimp only [Wr]
  refine⟨_,rfl,Vt (by exact .sd (.give 0 a b 0) (fun _ _ h=>⟨_,rfl,_,rfl,h⟩) <| .sd (.die b b 50) (fun _ _ h=>⟨_,rfl,_,rfl,h⟩) <| .sd (.die v a 80) (fun _ _ h=>⟨_,rfl,_,rfl,h⟩) <| .sd (.rise v 70 5) (fun _ _ h=>⟨_,rfl,h⟩) .nil) (by exact ble rfl) (fun _ h=>S1.free h) fun q2 us2 H2 n2 S2 c2 B2=>Uv (by exact ble rfl) c1 B1.fst S2 c2 B2.fst fun q3 H3 n3 S3 c3 B3=>?_⟩
  refine Yb ?_
  try dsimp only [Wr]
  have S03:=(S1.trans S2).trans S3
  refine⟨_,rfl,Vt (by exact .cd (.acc 9 t) 9 1 [a] [] (f35 a) (fun _ _ h=>⟨_,rfl,_,rfl,lz (ble rfl),fun l1 n1=>⟨lz (ble rfl),fun l2 n2=>h l1 l2 n1 n2⟩⟩) <| .cd (.acc 0 a) 9 1 [a] [] (f35 a) (fun _ _ h=>⟨_,rfl,_,rfl,lz (ble rfl),fun l1 n1=>⟨lz (ble rfl),fun l2 n2=>h l1 l2 n1 n2⟩⟩) .nil) (by exact ble rfl) (fun _ h=>S03.free h) fun q4 us4 H4 n4 S4 c4 B4=>Uv (by exact ble rfl) c3 B3.fst S4 c4 B4.fst fun q5 H5 n5 S5 c5 B5=>?_⟩
  refine Yb ?_
  try dsimp only [Wr]
  have S05:=(S03.trans S4).trans S5
  refine⟨_,rfl,Vt (by exact .cd (.acc 0 t) 8 1 [a] [] (f35 a) (fun _ _ h=>⟨_,rfl,_,rfl,lz (ble rfl),fun l1 n1=>⟨lz (ble rfl),fun l2 n2=>h l1 l2 n1 n2⟩⟩) <| .sd (.pay a b 0 6) (fun _ _ h=>⟨_,rfl,_,rfl,h⟩) <| .sd (.bring nb 3) (fun _ _ h=>⟨_,rfl,h⟩) .nil) (by exact ble rfl) (fun _ h=>S05.free h) fun q6 us6 H6 n6 S6 c6 B6=>Uv (by exact ble rfl) c5 B5.fst S6 c6 B6.fst fun q7 H7 n7 S7 c7 B7=>?_⟩
  refine Yb ?_
  try dsimp only [Wr]
  have S07:=(S05.trans S6).trans S7
  refine⟨_,rfl,Vt (by exact .cd (.clm a 99) 9 1 [t] [] (f35 a) (fun _ _ h=>⟨_,rfl,_,rfl,lz (ble rfl),fun l1 n1=>⟨lz (ble rfl),fun l2 n2=>h l1 l2 n1 n2⟩⟩) <| .sd (.pen nb) (fun _ _ h=>⟨_,rfl,h⟩) <| .sd (.pen v) (fun _ _ h=>⟨_,rfl,h⟩) .nil) (by exact ble rfl) (fun _ h=>S07.free h) fun q8 us8 H8 n8 S8 c8 B8=>Uv (by exact ble rfl) c7 B7.fst S8 c8 B8.fst fun q9 H9 n9 S9 c9 B9=>?_⟩
  exact k q9 _ H9 ((S07.trans S8).free n9) ((S07.trans S8).trans S9) c9 B9.fst
end
section
theorem Vx{α:Type _}(l:List α)(x : α):(l ++ [x]).length=l.length+1:=by rw[xN];rfl
theorem Zx2{m:Mo}(h:MoK m)(i:Nat):(m.haps.getD i []).length<=m.deeds.length:=by
 rw[xS]
 cases e:m.haps[i]? with
 | none=>exact yJ _
 | some c=>exact h.hl c (xI e)
theorem Zop{m:Mo}(h:MoK m){i:Nat}{x:D}:∀q∈m.haps.set i (m.haps.getD i [] ++ [x]),q.length<=m.deeds.length+1:=fun q hq=>by
 rcases List.mem_or_eq_of_mem_set hq with z | z
 ·exact zU (h.hl q z)
 ·rw[z,Vx];exact Nat.succ_le_succ (Zx2 h i)
theorem Zoq(m:Mo)(d:SD):(m.sd d).deeds.length=m.deeds.length+1:=by cases d<;>exact Vx _ _
theorem MoK.sd{m:Mo}(h:MoK m)(d:SD):MoK (m.sd d):=by
 have hq:∀q∈m.haps,q.length<=m.deeds.length+1:=fun q z=>zU (h.hl q z)
 have ql:=zU h.ql
 have dl:=Zoq m d
 cases d with
 | bring n day =>
  refine⟨h.ok,h.dl,fun i e he=>?_,h.le,h.vl,?_,?_,dl▸ql⟩
  ·change (m.brs ++ [_])[i]? = some e at he
   rcases Nat.lt_or_ge i m.brs.length with z | z
   ·rw[zF z] at he;exact h.br i e he
   ·rw[zD z] at he
    cases xK.mp (xI he)
    exact⟨n,day,rfl⟩
  ·show (m.haps ++ [_]).length=(m.brs ++ [_]).length;rw[Vx,Vx,h.hb]
  ·rw[dl]
   intro q z
   rcases xJ.mp z with z | z
   ·exact hq q z
   ·cases xK.mp z;exact yJ _
 | give i x y day=>exact⟨h.ok,h.dl,h.br,h.le,h.vl,(List.length_set ..).trans h.hb,dl▸Zop h,dl▸ql⟩
 | pay x y many day=>exact⟨h.ok,h.dl,h.br,h.le,h.vl,h.hb,dl▸hq,dl▸(Vx m.debts _).symm▸Nat.succ_le_succ h.ql⟩
 | _=>exact⟨h.ok,h.dl,h.br,h.le,h.vl,h.hb,dl▸hq,dl▸ql⟩
theorem MoK.does{m:Mo}(h:MoK m)(hl:m.trials.length < 60){day need:Int}{f:Str->Int}{o1 o2:List Str}(h1:Light (Yn f o1))(h2:Light (Yn f o2))(g0 : 1<=need)(g1:need<=12000)(d:CD):MoK (m.does day need f o1 o2 d):=by
 have hq:∀q∈m.haps,q.length<=m.deeds.length+1:=fun q z=>zU (h.hl q z)
 have ql:=zU h.ql
 have dl:(m.does day need f o1 o2 d).deeds.length=m.deeds.length+1:=by cases d<;>exact Vx _ _
 have key:∀n:Option (Int×Str),(∀t∈m.trials ++ [⟨Yn f o1,Yn f o2,need,n⟩],Us t)/\(m.days ++ [day]).length=(m.trials ++ [(⟨Yn f o1,Yn f o2,need,n⟩:Suit)]).length/\(m.trials ++ [(⟨Yn f o1,Yn f o2,need,n⟩:Suit)]).length<=60/\(Wc [] 0 (m.trials ++ [⟨Yn f o1,Yn f o2,need,n⟩])).1.length=(m.trials ++ [(⟨Yn f o1,Yn f o2,need,n⟩:Suit)]).length:=fun n =>
  ⟨fun t ht=>(xJ.mp ht).elim (h.ok t) (fun z=>by rw[xK.mp z];exact⟨h1,h2,g0,g1⟩),by rw[Vx,Vx,h.dl],by rw[Vx];exact hl,Zfr ..⟩
 cases d with
 | wer x y many=>obtain⟨k1,k2,k3,k4⟩:=key none;exact⟨k1,k2,h.br,k3,k4,h.hb,dl▸hq,dl▸(Vx m.debts _).symm▸Nat.succ_le_succ h.ql⟩
 | clm x i=>obtain⟨k1,k2,k3,k4⟩:=key none;exact⟨k1,k2,h.br,k3,k4,(List.length_set ..).trans h.hb,dl▸Zop h,dl▸ql⟩
 | acc i n=>obtain⟨k1,k2,k3,k4⟩:=key (some (i,n));exact⟨k1,k2,h.br,k3,k4,h.hb,dl▸hq,dl▸ql⟩
theorem mo0_ok:MoK mo0:=⟨fun t h=>(nomatch h),rfl,fun i e h=>(nomatch h),yJ _,rfl,rfl,fun q h=>(nomatch h),yJ _⟩
structure I35 (a b t v:Str) (nb:Nat) (s:Uo):Prop where
 com:∀n,Zk s.1 n=if n=a\/n=b\/n=t\/n=v then some 0 else none
 die:∀n,Z3 s.1 n=if n=v then some (60,a) else none
 ka:kw s.1 a=some [(.inl 0,.int 5)]
 kt:kw s.1 t=some [(.inl 0,.int 7)]
 cm:(Wh s.1).length=4
 ln:s.1.length<=5+s.2.deeds.length
 ok:MoK s.2
 pn:s.2.npen<=s.2.deeds.length
 tr:s.2.trials = [⟨[(t,7)],[],1,none⟩]
 dy:s.2.days = [9]
 br:s.2.brs.length=nb
 b0:s.2.brs[0]? = some (.tup [.str a,.int 1])
 dl:s.2.deeds.length<=400
structure Nn (a b t g nb v:Str):Prop where
 nm:∀x ∈ [a,b,t,g,nb,v],Wq x
 ab:a≠b
 at_:a≠t
 ag:a≠g
 an:a≠nb
 av:a≠v
 bt:b≠t
 bg:b≠g
 bn:b≠nb
 bv:b≠v
 tg:t≠g
 tn:t≠nb
 tv:t≠v
 gn:g≠nb
 gv:g≠v
 nv:nb≠v
theorem Zbo{n:Str}(h:Wq n):okN n:=⟨by have:=h.2.2;lia,fun x hx=>by have:=h.1 x hx;lia⟩
variable{a b t g nb v:Str}{k:Nat}{s:Uo}
theorem Zkl(N:Nn a b t g nb v)(I:I35 a b t v k s):∀d∈([.rise b 4 9,.give 0 a b 5,.pay a b 3 6,.pen t,.bring a 1,.come g 0 5,.die b t 50,.pen a]:List SD),Zct s.1 s.2 d/\Zkj d/\(k < 40->eSD s.1 s.2 d=Yd s.2):=by
 have:=I.ln
 have:=I.dl
 have:=I.pn
 have hnl:∀x ∈ [a,b,t,g,nb,v],x.length<=100:=fun x hx=>by have:=(N.nm x hx).2.2;lia
 have na:=hnl a (by simp)
 have nb:=hnl b (by simp)
 have nt:=hnl t (by simp)
 have htl:s.2.trials.length=1:=by rw[I.tr];rfl
 have brD0:brD s.2 0=1:=by unfold brD;rw[show (0:Int).toNat=0 from rfl,I.b0]
 have hbl : 0 < s.2.brs.length:=by have:=(xF.mp I.b0).1;exact this
 have:=N.ab;have:=N.at_;have:=N.ag;have:=N.bt;have:=N.bg;have:=N.bv;have:=N.av;have:=N.tv
 intro d hd
 simp only[xD,xR,or_false] at hd
 rcases hd with rfl | rfl | rfl | rfl | rfl | rfl | rfl | rfl
 ·exact⟨⟨by lia,nb,by unfold okI;decide,by unfold okI;decide⟩,trivial,fun _=>by simp[eSD,Zaf,eM,Z9,Yc,Wu,Wo,I.com,I.die, *]⟩
 ·exact⟨⟨I.ok,na,nb,by unfold okI;decide,by unfold okI;decide⟩,by show (0:Int)<=0;decide,fun _=>by simp[eSD,eM,Yl,Z9,Vs,inB,Yc,Wu,Wo,I.com,I.die, *]⟩
 ·exact⟨⟨I.ok,na,nb,by unfold okI;decide,by unfold okI;decide⟩,trivial,fun _=>by simp[eSD,eM,Yl,Z9,Yc,Wu,Wo,I.com,I.die, *]⟩
 ·exact⟨⟨nt,by lia,by lia⟩,trivial,fun _=>by simp[eSD,Z9,Vn,I.com,I.die, *]⟩
 ·exact⟨⟨I.ok,na,by unfold okI;decide⟩,trivial,fun hk=>by simp[eSD,eM,Yl,Z9,Yc,Wu,Zcs,Wo,I.com,I.die,I.br,hk, *]⟩
 ·exact⟨⟨by lia,Zbo (N.nm g (by simp)),by unfold okI;decide,by unfold okI;decide⟩,trivial,fun _=>by simp[eSD,Vo,Zav (N.nm g (by simp)),eM,I.com,I.cm,N.ag.symm,N.bg.symm,N.tg.symm,N.gv]⟩
 ·exact⟨⟨by lia,nb,nt,by unfold okI;decide⟩,trivial,fun _=>by simp[eSD,Um,eM,Z9,Yc,Vn,I.com,I.die,N.bt.symm, *]⟩
 ·exact⟨⟨na,by lia,by lia⟩,trivial,fun _=>by simp[eSD,Z9,Vn,I.com,I.die, *]⟩
theorem Zjy{ds:List Deed}{n:Str}{z day:Int}(h:kw ds n=some [(.inl 0,.int z)])(hd : 0<=day):IsW (kw ds n) day z :=
 ⟨_,0,h,by rw[Zqt,if_pos rfl],hd,fun d v e _=>Classical.byContradiction fun y=>by rw[Zqt,if_neg (by lia)] at e;cases e⟩
theorem Zzv(N:Nn a b t g nb v)(I:I35 a b t v k s){day:Int}(hd : 0<=day):∀n,n=a\/n=t->n.length<=100/\∀d,Zk s.1 n=some d->d<=day->IsW (kw s.1 n) day (f35 a n)/\1<=f35 a n/\f35 a n<=1000:=fun n h=>by
 rcases h with rfl | rfl
 ·exact⟨by have:=(N.nm n (by simp)).2.2;lia,fun d _ _=>by rw[f35,if_pos rfl];exact⟨Zjy I.ka hd,by decide,by decide⟩⟩
 ·exact⟨by have:=(N.nm n (by simp)).2.2;lia,fun d _ _=>by rw[f35,if_neg N.at_.symm];exact⟨Zjy I.kt hd,by decide,by decide⟩⟩
theorem Z4y(N:Nn a b t g nb v)(I:I35 a b t v k s)(hm:Yd s.2=some ("TooMany" : Str)) :
  eCD s.1 s.2 9 1 (f35 a) [t] [] (.wer a a 5)=some ("TooMany" : Str)/\eCD s.1 s.2 9 1 (f35 a) [t] [a] (.clm a 0)=some ("TooMany" : Str)/\eCD s.1 s.2 9 1 (f35 a) [a] [] (.acc 0 t)=some ("TooMany" : Str)/\eCD s.1 s.2 9 9999 (f35 a) [a,a] [t] (.clm a 0)=some ("TooMany" : Str):=by
 have htl:s.2.trials.length=1:=by rw[I.tr];rfl
 have brD0:brD s.2 0=1:=by unfold brD;rw[show (0:Int).toNat=0 from rfl,I.b0]
 have hbl : 0 < s.2.brs.length:=by have:=(xF.mp I.b0).1;exact this
 have:=N.at_;have:=N.av;have:=N.tv
 refine⟨?_,?_,?_,?_⟩
 ·simp[eCD,Zdl,eM,Yl,Z9,Yc,Wu,Vi,Wo,I.com,I.die, *]
 ·simp[eCD,Zb8,eM,Yl,Z9,Vs,inB,Yc,Wu,Vi,Wo,I.com,I.die, *]
 ·simp[eCD,Zbt,eM,Yl,Z9,Wz,inB,Yc,Wu,Vi,Wo,I.com,I.die,I.tr,I.dy, *]
 ·simp[eCD,Zb8,eM,Yl,Z9,Vs,inB,Yc,Wu,Vi,Wo,I.com,I.die, *]
theorem Zor(N:Nn a b t g nb v)(I:I35 a b t v k s)(h4:s.2.deeds.length < 400):(∀d∈([.rise b 4 9,.give 0 a b 5,.pay a b 3 6,.pen t]:List SD),I35 a b t v k (V1 s (.s d)))/\I35 a b t v (k+1) (V1 s (.s (.bring a 1))):=by
 have e:∀d,(s.2.sd d).deeds.length=s.2.deeds.length+1:=Zoq s.2
 have ln:=I.ln
 have pn:=I.pn
 refine⟨fun d hd=>?_,⟨I.com,I.die,I.ka,I.kt,I.cm,?_,I.ok.sd (.bring a 1),?_,I.tr,I.dy,?_,?_,?_⟩⟩
 ·simp only[xD,xR,or_false] at hd
  rcases hd with rfl | rfl | rfl | rfl
  ·refine⟨fun n=>(Zla n).trans (I.com n),fun n=>(Zfn n).trans (I.die n),?_,?_,?_,?_,I.ok.sd (.rise b 4 9),?_,I.tr,I.dy,I.br,I.b0,?_⟩
   ·show kw (s.1 ++ [.rise b 4 9]) a=_;rw[Zad,Wg,if_neg N.ab,I.ka]
   ·show kw (s.1 ++ [.rise b 4 9]) t=_;rw[Zad,Wg,if_neg N.bt.symm,I.kt]
   ·show (Wh (s.1 ++ [.rise b 4 9])).length=4;rw[Zdr,xN,I.cm];rfl
   ·show (s.1 ++ [_]).length<=5+(s.2.sd (.rise b 4 9)).deeds.length;rw[Vx,e];lia
   ·show s.2.npen<=(s.2.sd (.rise b 4 9)).deeds.length;rw[e];lia
   ·show (s.2.sd (.rise b 4 9)).deeds.length<=400;rw[e];lia
  ·refine⟨I.com,I.die,I.ka,I.kt,I.cm,?_,I.ok.sd (.give 0 a b 5),?_,I.tr,I.dy,I.br,I.b0,?_⟩
   ·show s.1.length<=5+(s.2.sd (.give 0 a b 5)).deeds.length;rw[e];lia
   ·show s.2.npen<=(s.2.sd (.give 0 a b 5)).deeds.length;rw[e];lia
   ·show (s.2.sd (.give 0 a b 5)).deeds.length<=400;rw[e];lia
  ·refine⟨I.com,I.die,I.ka,I.kt,I.cm,?_,I.ok.sd (.pay a b 3 6),?_,I.tr,I.dy,I.br,I.b0,?_⟩
   ·show s.1.length<=5+(s.2.sd (.pay a b 3 6)).deeds.length;rw[e];lia
   ·show s.2.npen<=(s.2.sd (.pay a b 3 6)).deeds.length;rw[e];lia
   ·show (s.2.sd (.pay a b 3 6)).deeds.length<=400;rw[e];lia
  ·refine⟨I.com,I.die,I.ka,I.kt,I.cm,?_,I.ok.sd (.pen t),?_,I.tr,I.dy,I.br,I.b0,?_⟩
   ·show s.1.length<=5+(s.2.sd (.pen t)).deeds.length;rw[e];lia
   ·show s.2.npen+1<=(s.2.sd (.pen t)).deeds.length;rw[e];lia
   ·show (s.2.sd (.pen t)).deeds.length<=400;rw[e];lia
 ·show s.1.length<=5+(s.2.sd (.bring a 1)).deeds.length;rw[e];lia
 ·show s.2.npen<=(s.2.sd (.bring a 1)).deeds.length;rw[e];lia
 ·show (s.2.brs ++ [_]).length=k+1;rw[Vx,I.br]
 ·show (s.2.brs ++ [_])[0]? = _;rw[zF (xF.mp I.b0).1,I.b0]
 ·show (s.2.sd (.bring a 1)).deeds.length<=400;rw[e];lia
def Zgu(a b t v:Str):List AD:=[.s (.come a 0 5),.s (.come b 0 6),.s (.come t 0 7),.s (.bring a 1)] ++ [.c (.wer a b 5) 9 1 [t] [] (f35 a),.s (.come v 0 5),.s (.die v a 60)]
theorem Zzw(t:Str)(at_:a≠t):Light (Yn (f35 a) [t]):=⟨fun p hp=>by rw[xK.mp hp];show 1<=f35 a t/\f35 a t<=1000;rw[f35,if_neg at_.symm];decide,by show 1<=60;decide⟩
theorem Zx3(N:Nn a b t g nb v):Gd35 (Zgu a b t v)/\I35 a b t v 1 (Yk (Zgu a b t v)):=by
 have hnl:∀x ∈ [a,b,t,g,nb,v],x.length<=100:=fun x hx=>by have:=(N.nm x hx).2.2;lia
 have na:=hnl a (by simp)
 have nb:=hnl b (by simp)
 have nt:=hnl t (by simp)
 have nv:=hnl v (by simp)
 have oa:=Zbo (N.nm a (by simp));have ob:=Zbo (N.nm b (by simp));have ot:=Zbo (N.nm t (by simp));have ov:=Zbo (N.nm v (by simp))
 have ia:=Zav (N.nm a (by simp));have ib:=Zav (N.nm b (by simp));have it:=Zav (N.nm t (by simp));have iv:=Zav (N.nm v (by simp))
 have k5:okI 5:=by unfold okI;decide
 have n1:=N.ab;have n2:=N.at_;have n3:=N.bt;have n4:=N.av;have n5:=N.bv;have n6:=N.tv
 have g0:Gd35 []:=⟨yJ _,fun i p h=>by cases h⟩
 have g1:=g0.snoc (a:=.s (.come a 0 5)) (by decide) ⟨⟨yJ _,oa,by unfold okI;decide,k5⟩,by simp[Yk,eSD,Vo,ia,eM,Zk,Wh,Yd,mo0],trivial⟩
 have g2:=g1.snoc (a:=.s (.come b 0 6)) (by show 1 < 400;decide) ⟨⟨by show 1<=1000;decide,ob,by unfold okI;decide,by unfold okI;decide⟩,by simp[Yk,V1,sdF,Mo.sd,Mo.told,eSD,Vo,ib,eM,Zk,Wh,Yd,mo0,n1],trivial⟩
 have g3:=g2.snoc (a:=.s (.come t 0 7)) (by show 2 < 400;decide) ⟨⟨by show 2<=1000;decide,ot,by unfold okI;decide,by unfold okI;decide⟩,by simp[Yk,V1,sdF,Mo.sd,Mo.told,eSD,Vo,it,eM,Zk,Wh,Yd,mo0,n2,n3],trivial⟩
 have g4:=g3.snoc (a:=.s (.bring a 1)) (by show 3 < 400;decide) ⟨⟨((mo0_ok.sd (.come a 0 5)).sd (.come b 0 6)).sd (.come t 0 7),na,by unfold okI;decide⟩,by simp[Yk,V1,sdF,Mo.sd,Mo.told,eSD,Yl,Z9,Yc,Wu,Wo,Z3,Zcs,eM,Zk,Wh,Yd,mo0],trivial⟩
 have k4:MoK (Yk ([] ++ [.s (.come a 0 5)] ++ [.s (.come b 0 6)] ++ [.s (.come t 0 7)] ++ [.s (.bring a 1)])).2:=(((mo0_ok.sd (.come a 0 5)).sd (.come b 0 6)).sd (.come t 0 7)).sd (.bring a 1)
 have f7:f35 a t=7:=by rw[f35,if_neg n2.symm]
 have kt:kw [.come a 0 5,.come b 0 6,.come t 0 7] t=some [(.inl 0,.int 7)]:=by simp[kw,Wg]
 have g5:=g4.snoc (a:=.c (.wer a b 5) 9 1 [t] [] (f35 a)) (by show 4 < 400;decide) ⟨⟨na,nb,k5⟩,k4,by show 3<=1000;decide,by show 1<=60;decide,by show 0<=60;decide,by unfold okI;decide,by unfold okI;decide,fun n hn=>by
  cases xK.mp hn
  exact⟨nt,fun d _ _=>by rw[f7];exact⟨Zjy kt (by decide),by decide,by decide⟩⟩,by simp[Yk,V1,sdF,Mo.sd,Mo.told,Mo.brg,eCD,Zdl,Yl,Z9,Yc,Wu,Vi,Wo,Z3,eM,Zk,Yd,mo0,Zcr,Zbm,Zsl,wts,f7,n1,n2,n3,n3.symm,n2.symm,n1.symm],trivial⟩
 have k5:=k4.does (by show 0 < 60;decide) (day:=9) (Zzw t n2) (o2:=[]) ⟨(fun p h=>nomatch h),yJ _⟩ (by decide:(1:Int)<=1) (by decide) (.wer a b 5)
 have g6:=g5.snoc (a:=.s (.come v 0 5)) (by show 5 < 400;decide) ⟨⟨by show 3<=1000;decide,ov,by unfold okI;decide,by unfold okI;decide⟩,by simp[Yk,V1,sdF,Mo.sd,Mo.told,Mo.brg,Mo.does,Mo.owes,Mo.tried,eSD,Vo,iv,eM,Zk,Wh,Yd,mo0,n4,n5,n6],trivial⟩
 have g7:=g6.snoc (a:=.s (.die v a 60)) (by show 6 < 400;decide) ⟨⟨by show 4<=1000;decide,nv,na,by unfold okI;decide⟩,by simp[Yk,V1,sdF,Mo.sd,Mo.told,Mo.brg,Mo.does,Mo.owes,Mo.tried,eSD,Um,Z9,Yc,Vn,Z3,eM,Zk,Wh,Yd,mo0,n4,n5,n6],trivial⟩
 refine⟨g7,fun n=>?_,fun n=>?_,?_,?_,rfl,by show 5<=5+7;decide,(k5.sd (.come v 0 5)).sd (.die v a 60),by show 0<=7;decide,?_,rfl,rfl,rfl,by show 7<=400;decide⟩
 ·show Zk [.come a 0 5,.come b 0 6,.come t 0 7,.come v 0 5,.die v 60 a] n=_
  simp only[Zk]
  by_cases z1:a=n
  ·simp[z1]
  ·by_cases z2:b=n
   ·simp[z1,z2]
   ·by_cases z3:t=n
    ·simp[z1,z2,z3]
    ·by_cases z4:v=n
     ·simp[z1,z2,z3,z4]
     ·simp[z1,z2,z3,z4,Ne.symm z1,Ne.symm z2,Ne.symm z3,Ne.symm z4]
 ·show Z3 [.come a 0 5,.come b 0 6,.come t 0 7,.come v 0 5,.die v 60 a] n=_
  simp only[Z3]
  by_cases z4:v=n
  ·simp[z4]
  ·simp[z4,Ne.symm z4]
 ·show kw [.come a 0 5,.come b 0 6,.come t 0 7,.come v 0 5,.die v 60 a] a=_
  simp[kw,Wg,n1,n2,n4]
 ·show kw [.come a 0 5,.come b 0 6,.come t 0 7,.come v 0 5,.die v 60 a] t=_
  simp[kw,Wg,n6]
 ·show [(⟨Yn (f35 a) [t],[],1,none⟩:Suit)]=_
  simp[Yn,f7]
def Rf(a t:Str)(s:Uo)(o:Str):AD->Prop
 | .s d=>Zct s.1 s.2 d/\∃e,eSD s.1 s.2 d=some e/\e∈errs/\kd e=o
 | .c d day need o1 o2 f=>f=f35 a/\Zdm d/\0<=day/\okI day/\okI need/\(∀n∈o1++o2,n=a\/n=t)/\o1.length<=60/\o2.length<=60/\∃e,eCD s.1 s.2 day need f o1 o2 d=some e/\e∈errs/\kd e=o
theorem Z3v(N:Nn a b t g nb v)(I:I35 a b t v k s)(hk:k<=40):∀x∈Zeo a b t g nb v,Rf a t s "other" x:=by
 have:=I.ln
 have:=I.dl
 have:=I.pn
 have hnl:∀x ∈ [a,b,t,g,nb,v],x.length<=100:=fun x hx=>by have:=(N.nm x hx).2.2;lia
 have na:=hnl a (by simp)
 have nb':=hnl b (by simp)
 have nt:=hnl t (by simp)
 have nn:=hnl nb (by simp)
 have nv:=hnl v (by simp)
 have htl:s.2.trials.length=1:=by rw[I.tr];rfl
 have brD0:brD s.2 0=1:=by unfold brD;rw[show (0:Int).toNat=0 from rfl,I.b0]
 have hbl : 0 < s.2.brs.length:=by have:=(xF.mp I.b0).1;exact this
 have hbr:s.2.brs.length<=40:=by rw[I.br];exact hk
 have e99:Vs s.2 99=some ("NoThing" : Str):=if_neg (fun z=>by have:=z.2;lia)
 have n1:=N.ab;have n2:=N.at_;have n3:=N.an;have n4:=N.av;have n5:=N.bn;have n6:=N.bv;have n7:=N.tn;have n8:=N.tv;have n9:=N.nv
 have og:=Zbo (N.nm g (by simp));have oa:=Zbo (N.nm a (by simp))
 have ig:=Zav (N.nm g (by simp));have ia:=Zav (N.nm a (by simp))
 have oth:∀{e:Option Str}(x:Str),x∈errs/\kd x = "other" -> e=some x->∃e',e=some e'/\e'∈errs/\kd e' = "other" := fun x h e=>⟨x,e,h⟩
 intro x hx
 simp only[Zeo,yO,xY,yV,xD,xR,or_false] at hx
 rcases hx with rfl | rfl | rfl | rfl | rfl | rfl | rfl | rfl | rfl | rfl | rfl | rfl | rfl | rfl | rfl | rfl
 ·exact⟨⟨by lia,⟨by decide +kernel,by decide +kernel⟩,by unfold okI;decide,by unfold okI;decide⟩,oth "NoName" (by decide +kernel) (by simp[eSD,Vo,show Vl "Ann" = false by decide +kernel])⟩
 ·exact⟨⟨by lia,og,by unfold okI;decide,by unfold okI;decide⟩,oth "NoMeasure" (by decide +kernel) (by simp[eSD,Vo,ig,eM])⟩
 ·exact⟨⟨by lia,oa,by unfold okI;decide,by unfold okI;decide⟩,oth "Taken" (by decide +kernel) (by simp[eSD,Vo,ia,eM,I.com])⟩
 ·exact⟨⟨I.ok,na,nb',by unfold okI;decide,by unfold okI;decide⟩,oth "NoThing" (by decide +kernel) (by simp[eSD,eM,Yl,Z9,e99,I.com])⟩
 ·exact⟨⟨I.ok,na,nb',by unfold okI;decide,by unfold okI;decide⟩,oth "NotYet" (by decide +kernel) (by simp[eSD,eM,Yl,Z9,Vs,inB,Yc,I.com,hbl,brD0])⟩
 ·exact⟨⟨by lia,nb',nb',by unfold okI;decide⟩,oth "NoHeir" (by decide +kernel) (by simp[eSD,Um,eM,Z9,Yc,Vn,I.com,I.die,n6])⟩
 ·exact⟨⟨by lia,nv,na,by unfold okI;decide⟩,oth "Dead" (by decide +kernel) (by simp[eSD,Um,eM,Z9,Yc,Vn,I.com,I.die])⟩
 ·exact⟨⟨by lia,nv,by unfold okI;decide,by unfold okI;decide⟩,oth "Dead" (by decide +kernel) (by simp[eSD,Zaf,eM,Z9,Yc,Wu,Wo,I.com,I.die])⟩
 ·exact⟨rfl,⟨nt,by unfold okI;decide⟩,by decide,by unfold okI;decide,by unfold okI;decide,by simp,by simp,by simp,oth "NoCase" (by decide +kernel) (by simp[eCD,Zbt,eM,Yl,Z9,Wz,I.com,I.tr])⟩
 ·exact⟨rfl,⟨na,by unfold okI;decide⟩,by decide,by unfold okI;decide,by unfold okI;decide,by simp,by simp,by simp,oth "NoOath" (by decide +kernel) (by simp[eCD,Zbt,eM,Yl,Z9,Wz,inB,I.com,I.tr,n2])⟩
 ·exact⟨rfl,⟨nt,by unfold okI;decide⟩,by decide,by unfold okI;decide,by unfold okI;decide,by simp,by simp,by simp,oth "NotYet" (by decide +kernel) (by simp[eCD,Zbt,eM,Yl,Z9,Wz,inB,Yc,I.com,I.tr,I.dy])⟩
 ·exact⟨⟨I.ok,na,nb',by unfold okI;decide,by unfold okI;decide⟩,oth "NoMeasure" (by decide +kernel) (by simp[eSD,eM])⟩
 ·exact⟨⟨I.ok,nn,by unfold okI;decide⟩,oth "Unknown" (by decide +kernel) (by simp[eSD,eM,Yl,Z9,I.com,n3.symm,n5.symm,n7.symm,n9])⟩
 ·exact⟨rfl,⟨na,by unfold okI;decide⟩,by decide,by unfold okI;decide,by unfold okI;decide,by simp,by simp,by simp,oth "NoThing" (by decide +kernel) (by simp[eCD,Zb8,eM,Yl,Z9,e99,I.com])⟩
 ·exact⟨⟨nn,by lia,by lia⟩,oth "Unknown" (by decide +kernel) (by simp[eSD,Z9,I.com,n3.symm,n5.symm,n7.symm,n9])⟩
 ·exact⟨⟨nv,by lia,by lia⟩,oth "Dead" (by decide +kernel) (by simp[eSD,Z9,Vn,I.com,I.die])⟩
theorem Zx4(N:Nn a b t g nb v)(I:I35 a b t v k s)(hk:k < 40)(h4:¬s.2.deeds.length < 400):∀x∈Zen a b t g ++ [.c (.clm a 0) 9 9999 [a,a] [t] (f35 a)],Rf a t s "TooMany" x:=by
 have em:Yd s.2=some ("TooMany" : Str):=if_neg h4
 obtain⟨c1,c2,c3,c4⟩:=Z4y N I em
 have o:=Zkl N I
 have S:∀d∈([.rise b 4 9,.give 0 a b 5,.pay a b 3 6,.pen t,.bring a 1,.come g 0 5,.die b t 50,.pen a]:List SD),Rf a t s "TooMany" (.s d):=fun d hd=>⟨(o d hd).1, "TooMany", ((o d hd).2.2 hk).trans em,by decide +kernel,by decide +kernel⟩
 have na:a.length<=100:=by have:=(N.nm a (by simp)).2.2;lia
 have nt:t.length<=100:=by have:=(N.nm t (by simp)).2.2;lia
 have k0:okI 0:=by unfold okI;decide
 have k9:okI 9:=by unfold okI;decide
 have k1:okI 1:=by unfold okI;decide
 have tm:("TooMany" : Str)∈errs/\kd "TooMany" = "TooMany" := by decide +kernel
 intro x hx
 simp only[Zen,yO,xY,yV,xD,xR,or_false] at hx
 rcases hx with rfl | rfl | rfl | rfl | rfl | rfl | rfl | rfl | rfl | rfl | rfl
 ·exact S _ (by simp)
 ·exact S _ (by simp)
 ·exact S _ (by simp)
 ·exact S _ (by simp)
 ·exact S _ (by simp)
 ·exact S _ (by simp)
 ·exact S _ (by simp)
 ·exact⟨rfl,⟨na,na,by unfold okI;decide⟩,by decide,k9,k1,by simp,by simp,by simp,_,c1,tm⟩
 ·exact⟨rfl,⟨na,k0⟩,by decide,k9,k1,by simp,by simp,by simp,_,c2,tm⟩
 ·exact⟨rfl,⟨nt,k0⟩,by decide,k9,k1,by simp,by simp,by simp,_,c3,tm⟩
 ·exact⟨rfl,⟨na,k0⟩,by decide,k9,by unfold okI;decide,by simp,by simp,by simp,_,c4,tm⟩
end
section
variable{P:Program}{w:World}{K:uFg}{mg:Str->Option Value}{base:Heap}{C CM:Addr}{c:Str->Addr}
def Zp5(C CM:Addr):Sp:=fun vs H Q _=>∃(M:ML)(ds:List Deed)(wa:Str->Addr)(xs:List Addr)(m:Mo)(qs:List Addr),vs = [.ref M.p]/\MootAt C CM H M ds wa xs m qs/\Q (.int m.deeds.length) H
abbrev Zjz:Stmt:=Ym (top 58) 11
theorem Z3w:FnScope ["self"] ["self"] (Zh Zjz):=fsc
theorem Zzx(Zj0:HasM K CM "now" "Moot.now" Zjz)(T:Txt mg)(Tm:TxCMoot K CM):Mt P w K mg base CM "now" ["self"] 1 (Zp5 C CM):=by
 refine Zj0.mtQ Z3w (fun _ _ _ _ _ _=>al1 fun _=>rfl) (fun vs H Q E h=>?_) (fun f cdv A outer s H vs Q E hr h=>?_)
 ·obtain⟨M,ds,wa,xs,m,qs,rfl,_⟩:=h
  rfl
 ·obtain⟨M,ds,wa,xs,m,qs,rfl,W,k⟩:=h
  refine⟨_,(Zf (Zu (Z7 Wl T.len Y0 (Za (Zq (qvN 0)) Zb)))),?_⟩
  obtain⟨dx,ob⟩:=W.ob
  obtain⟨vs,d1,_,d2⟩:=(W.ls (M.ld,m.deeds) (by simp[Mo.at_])).get
  dsimp only at d1 d2
  refine⟨_,rfl,M.p,CM,dx,_,_,rfl,ob,Tm.cl,Tm.nd,Vm _,M.ld,vs,rfl,.inl (SqL.of d1),?_⟩
  rw[d2]
  exact k
theorem MootAt.ntup{M:ML}{ds:List Deed}{wa:Str->Addr}{xs qs:List Addr}{m:Mo}{H:Hp}(h:MootAt C CM H M ds wa xs m qs){b:Addr}{t:List V}(e:H b=some (.tup t)):¬mo M ds wa xs qs b:=fun hb=>by
 rcases hb with z | z | z | z | z
 ·obtain⟨dx,ob⟩:=h.ob;rw[z,ob] at e;cases e
 ·obtain⟨k,p1,_⟩:=h.pn;rw[z,p1] at e;cases e
 ·obtain⟨ys,y⟩:=h.lst z;rw[e] at y;cases y
 ·obtain⟨ys,y⟩:=h.xl b z;rw[e] at y;cases y
 ·obtain⟨o,e',_,n2⟩:=h.fk.there z;rw[e] at e';cases e';exact n2 t rfl
theorem MSt.ntup{H:Hp}{p:Addr}{ds:List Deed}{m:Mo}{O:Addr->Prop}(h:MSt C CM H p ds m O){b:Addr}{t:List V}(e:H b=some (.tup t)):¬O b:=by
 obtain⟨M,wa,xs,qs,_,W,rfl⟩:=h
 exact W.ntup e
structure U35 (C CM:Addr) (p s la rl pl:Addr) (ys:List AD) (H:Hp) (us vs:List V) (xs:List AD) (st:Uo) (O:Addr->Prop):Prop where
 w:MSt C CM H p st.1 st.2 O
 sr:SrcAt H s la
 n1:¬O s
 n2:¬O la
 r:H rl=some (.lst us)
 nr:¬O rl
 rs:rl≠s
 ra:rl≠la
 rd:DdL (fun b=>(¬O b/\b≠s)/\b≠rl) H xs us
 q:H pl=some (.lst vs)
 nq:¬O pl
 qs:pl≠s
 qr:pl≠rl
 qd:DdL (fun b=>(¬O b/\b≠s)/\b≠rl) H ys vs
variable{p s la rl pl:Addr}{H H':Hp}{us vs:List V}{xs ys:List AD}{st st':Uo}{O O':Addr->Prop}
theorem U35.step(h:U35 C CM p s la rl pl ys H us vs xs st O)(k:MSt C CM H' p st'.1 st'.2 O')(f:Frm O H O' H'):U35 C CM p s la rl pl ys H' us vs xs st' O':=by
 have no:∀{b:Addr}{o:HO},H b=some o->¬O b->¬O' b:=fun e n z=>(f.2 _ z).elim n (fun y=>by rw[e] at y;cases y)
 have kt:V0 H H':=fun b u e=>f.1 _ _ e (h.w.ntup e)
 have kl:∀b u,((¬O b/\b≠s)/\b≠rl)->H b=some (.lst u)->((¬O' b/\b≠s)/\b≠rl)/\H' b=some (.lst u):=fun b u n e=>⟨⟨⟨no e n.1.1,n.1.2⟩,n.2⟩,f.1 _ _ e n.1.1⟩
 obtain⟨ks,i,big,st,cnt,a,b,c,d⟩:=id h.sr
 exact⟨k,⟨ks,i,big,st,cnt,f.1 _ _ a h.n1,f.1 _ _ b h.n2,c,d⟩,no a h.n1,no b h.n2,f.1 _ _ h.r h.nr,no h.r h.nr,h.rs,h.ra,h.rd.mono kt kl,f.1 _ _ h.q h.nq,no h.q h.nq,h.qs,h.qr,h.qd.mono kt kl⟩
theorem U35.same(h:U35 C CM p s la rl pl ys H us vs xs st O)(k:Same H H'):U35 C CM p s la rl pl ys H' us vs xs st O:=h.step (h.w.same k) (Frm.same k)
theorem U35.x(h:U35 C CM p s la rl pl ys H us vs xs st O)(hs:SrcAt H' s la)(k:SameX s H H'):U35 C CM p s la rl pl ys H' us vs xs st O:=by
 obtain⟨_,_,_,_,_,a,_⟩:=id h.sr
 have kt:V0 H H':=fun b u e=>k _ _ (fun z=>by rw[z,a] at e;cases e) e
 have kl:∀b u,((¬O b/\b≠s)/\b≠rl)->H b=some (.lst u)->((¬O b/\b≠s)/\b≠rl)/\H' b=some (.lst u):=fun b u n e=>⟨n,k _ _ n.1.2 e⟩
 exact⟨h.w.x a h.n1 k,hs,h.n1,h.n2,k _ _ h.rs h.r,h.nr,h.rs,h.ra,h.rd.mono kt kl,k _ _ h.qs h.q,h.nq,h.qs,h.qr,h.qd.mono kt kl⟩
theorem U35.add(h:U35 C CM p s la rl pl ys H us vs xs st O){x:AD}{v:V}(hv:Zff (fun b=>(¬O b/\b≠s)/\b≠rl) H x v):U35 C CM p s la rl pl ys (upd H rl (.lst (us ++ [v]))) (us ++ [v]) vs (xs ++ [x]) st O:=by
 have kx:SameX rl H (upd H rl (.lst (us ++ [v]))):=SameX.upd
 have kt:V0 H (upd H rl (.lst (us ++ [v]))):=fun b u e=>kx _ _ (fun z=>by rw[z,h.r] at e;cases e) e
 have kl:∀b u,((¬O b/\b≠s)/\b≠rl)->H b=some (.lst u)->((¬O b/\b≠s)/\b≠rl)/\(upd H rl (.lst (us ++ [v]))) b=some (.lst u):=fun b u n e=>⟨n,kx _ _ n.2 e⟩
 exact⟨h.w.x h.r h.nr kx,h.sr.keepX kx h.rs h.ra,h.n1,h.n2,Zg,h.nr,h.rs,h.ra,(h.rd.app (ys:=[x]) ⟨v,[],rfl,hv,rfl⟩).mono kt kl,kx _ _ h.qr h.q,h.nq,h.qs,h.qr,h.qd.mono kt kl⟩
def Zdn(a0 s p:Addr)(a b t g nb v:Str)(rl pl:Addr)(tn so:Int)(x y z u:Option V):List (Option V):=[some (.ref a0),some (.ref s),some (.ref p),some (.str a),some (.str b),some (.str t),some (.str g),some (.str nb),some (.str v),some (.ref rl),some (.ref pl),some (.int (1+tn)),some (.int (398+so)),x,y,z,u]
theorem Zos{te:TE}{tg:TG}{D:Ends}{σ:St}{H:Hp}(h:te σ H fun v H1=>tg v σ H1 D.nx):Uw te tg D σ H:=h
theorem Z4z{α:Type}:∀{l:List α},l.length=6->∃a b c d e f,l = [a,b,c,d,e,f]
 | [a,b,c,d,e,f],_=>⟨a,b,c,d,e,f,rfl⟩
def Zcu(a b t:Str):List SD:=[.rise b 4 9,.give 0 a b 5,.pay a b 3 6,.pen t]
def Zbu(a b t:Str):List AD:=[.s (.rise b 4 9),.s (.give 0 a b 5),.s (.pay a b 3 6),.s (.pen t)]
theorem Z3x{a b t:Str}{i:Nat}{x:AD}(h:(Zbu a b t)[i]? = some x):∃d∈Zcu a b t,x = .s d:=by
 have:Zbu a b t=(Zcu a b t).map .s:=rfl
 rw[this,xO] at h
 obtain⟨d,hd,rfl⟩:=xZ.mp h
 exact⟨d,xI hd,rfl⟩
theorem Zj1{m:Mo}(h:m.deeds.length < 400):Yd m=none:=if_pos h
theorem Z3y{m:Mo}(h:¬m.deeds.length < 400):Yd m=some ("TooMany" : Str):=if_neg h
theorem Zno{a b t g nb v:Str}{k:Nat}(N:Nn a b t g nb v)(I:I35 a b t v k st)(W:MSt C CM H p st.1 st.2 O){o:Str}{x:AD}{y:V}(hx:Rf a t st o x)(hd:Zff (fun b=>¬O b) H x y){Q:V->Hp->Prop}{E:XK}(h:∀H',Same H H'->Q (.str o) H'):((Zge C CM).or (Zgs C CM)) [.ref p,y] H Q E:=by
 have:=I.ln
 have:=I.dl
 cases x with
 | s d =>
  obtain⟨q,rfl,hq⟩:=hd
  obtain⟨h1,e,h2,h3,h4⟩:=hx
  refine .inl ⟨p,_,_,O,q,d,rfl,W,hq,h1,?_⟩
  rw[h2]
  exact⟨h3,by rw[h4];exact h⟩
 | c d day need o1 o2 f =>
  obtain⟨q,l1,l2,rfl,hq,n1,n2,k1,k2⟩:=hd
  obtain⟨rfl,h1,h2,h3,h4,h5,h6,h7,e,h8,h9,h10⟩:=hx
  refine .inr ⟨p,_,_,O,q,d,day,need,l1,l2,o1,o2,_,rfl,W,hq,⟨I.ok,by lia,k1,k2,h6,h7,h3,h4,fun n hn=>Zzv N I h2 n (h5 n hn)⟩,n1,n2,h1,?_⟩
  rw[h8]
  exact⟨h9,by rw[h10];exact h⟩
abbrev Zcf:Stmt:=top 73
theorem Zzy:FnScope ["_law_script", "_law_src_here", "_law_moot", "_law_one", "_law_two", "_law_three", "_law_four", "_law_nobody", "_law_five", "_law_rows", "_law_plain", "_law_turn", "_law_stop", "_law_k", "_law_deed", "_law_now", "_law_due"] ["_law_script"] (Zh Zcf):=fsc
theorem Z3z{f:Addr}{fd:FuncData}(F_law:Fun K "law" "law" Zcf f fd)(T:Txt mg)(Tm:TxCMoot K CM)(Z30:Fn P w K mg base "_law_src" ["_law_script"] 1 (Zpm K))(V6:Fn P w K mg base "_law_next" ["_law_src_here", "_law_base"] 1 Zc5)(Z31:Fn P w K mg base "_law_names" ["_law_src_here", "_law_many"] 3 Zm5)(M_Moot:Mks P w K mg base CM "Moot" 3 (Zed C CM))(MM_now:Mt P w K mg base CM "now" ["self"] 1 (Zp5 C CM))(MM_then:Mt P w K mg base CM "then" ["self", "moment"] 9 (Zok C CM))(Z32:Fn P w K mg base "_law_try" ["_law_moot", "_law_deed"] 9 ((Zom C CM).or (Zon C CM)))(Zj2:Fn P w K mg base "_law_kind" ["_law_moot", "_law_deed"] 9 ((Zge C CM).or (Zgs C CM)))(Z33:Fn P w K mg base "_law_ends" ["_law_one", "_law_two", "_law_three", "_law_four"] 1 Zoo)(Z34:Fn P w K mg base "_law_bad" ["_law_one", "_law_two", "_law_three", "_law_more"] 1 Zp4)(Zp6:Fn P w K mg base "_law_no_moment" ["_law_moot", "_law_moment"] 10 (Zp3 C CM))(Zet:Fn P w K mg base "_law_same" ["_law_found", "_law_due"] 6 (Zek 4)):FnOk P w K mg base CX0 11 f fd ["_law_script"] (Zes K):=by
 refine F_law.okQ Zzy (fun vs H Q E h=>?_) (fun cdv A outer s0 H vs Q E hr h=>?_)
 ·obtain⟨a,ns,rfl,_⟩:=h
  rfl
 ·obtain⟨a0,ks,rfl,hS,hlen,k⟩:=h
  refine⟨_,(Ze (Z4 1 (Z6 Z30 (Za (qvN 0) Zb)))
 (Ze (Z4 2 (Zei M_Moot))
 (Ze (Zap (Z6 Z31 (Za (qvN 1) (Za Zd Zb))) (Zm3 (by rfl) (Wk (Yt 3) (Wk (Yt 4) (Wk (Yt 5) (Wk (Yt 6) (Wk (Yt 7) (Wk (Yt 8) Zaq))))))))
 (Ze (Z4 9 (Zy (Za (Zs (Za Zn (Za (qvN 3) (Za Zd (Za Zd Zb))))) (Za (Zs (Za Zn (Za (qvN 4) (Za Zd (Za Zd Zb))))) (Za (Zs (Za Zn (Za (qvN 5) (Za Zd (Za Zd Zb))))) (Za (Zs (Za Zn (Za (qvN 3) (Za Zd Zb)))) Zb))))))
 (Ze (Z4 9 (Zz Wp (qvN 9) (Zy (Za (Zs (Za Zn (Za (qvN 3) (Za (qvN 4) (Za Zd (Za Zd (Za Zd (Za (Zy (Za (qvN 5) Zb)) (Za (Zy Zb) Zb))))))))) (Za (Zs (Za Zn (Za (qvN 8) (Za Zd (Za Zd Zb))))) (Za (Zs (Za Zn (Za (qvN 8) (Za Zd (Za (qvN 3) Zb))))) Zb))))))
 (Ze (Z4 10 (Zy (Za (Zs (Za Zn (Za (qvN 4) (Za Zd (Za Zd Zb))))) (Za (Zs (Za Zn (Za Zd (Za (qvN 3) (Za (qvN 4) (Za Zd Zb)))))) (Za (Zs (Za Zn (Za (qvN 3) (Za (qvN 4) (Za Zd (Za Zd Zb)))))) (Za (Zs (Za Zn (Za (qvN 5) Zb))) Zb))))))
 (Ze (Z4 11 (Zz Vy Zd (Z6 V6 (Za (qvN 1) (Za Zd Zb)))))
 (Ze (Z4 12 (Zz Vy Zd (Z6 V6 (Za (qvN 1) (Za Zd Zb)))))
 (Ze (Vf PassesOwn.never rfl (Zcx T.range (Za (Zz Zb1 (qvN 12) Zd) Zb)) (Yt 13)
 (Zf (Zi (Wf F.plainAttrs_list F.slot_list_append F.type_list_append Wm (qvN 9) (Za (Zl Yu (qvN 10) (Zz Zbf (Zz Vy (Zz Zdu (qvN 13) (qvN 11)) (Z6 V6 (Za (qvN 1) (Za Zd Zb)))) Zd) (fun _ _=>rfl)) Zb)))))
 (Ze (Vf PassesOwn.never rfl (Vb (qvN 9)) (Yt 14)
 (Zf (Zp (Zv Zbg (Z7 Wl T.len Y0 (Za (Z6 Z32 (Za (qvN 2) (Za (qvN 14) Zb))) Zb)) Zd (Z1 _)) (Zf (Zu Vq)) Zo)))
 (Ze (Vf PassesOwn.never rfl (Zcx T.range (Za (Zz Vy Zd (Z6 V6 (Za (qvN 1) (Za Zd Zb)))) Zb)) (Yt 13)
 (Ze (Z4 15 (Zb7 (qvN 2) Tm.cl MM_now))
 (Ze (Z4 16 (Zl Yu (Zy (Za Zn (Za Zn Zb))) (Uy Zsm T.int Zgx (Za (U6 Zab (qvN 15) Zd (Z1 _)) Zb)) (fun _ _=>rfl)))
 (Zf (Zp (Zv Zbg (Z6 Zj2 (Za (qvN 2) (Za (Zl Yu (Zz Wp (qvN 10) (Zy (Za (Zs (Za Zn (Za (qvN 3) (Za Zd Zb)))) Zb))) (Z6 V6 (Za (qvN 1) (Za Zd Zb))) (fun _ _=>rfl)) Zb))) (qvN 16) (Z1 _)) (Zf (Zu Vq)) Zo)))))
 (Ze (Vf PassesOwn.never rfl (Vb (Zz Wp (Z6 Z33 (Za (qvN 3) (Za (qvN 4) (Za (qvN 5) (Za (qvN 6) Zb))))) (Zy (Za (Zs (Za Zn (Za (qvN 3) (Za Zd (Za Zd (Za Zd (Za (Zy (Za (qvN 3) (Za (qvN 3) Zb))) (Za (Zy (Za (qvN 5) Zb)) Zb)))))))) Zb)))) (Yt 14)
 (Zf (Zp (Zv Zbg (Z6 Zj2 (Za (qvN 2) (Za (qvN 14) Zb))) Zn (Z1 _)) (Zf (Zu Vq)) Zo)))
 (Ze (Vf PassesOwn.never rfl (Vb (Z6 Z34 (Za (qvN 3) (Za (qvN 4) (Za (qvN 5) (Za (Zy (Za (qvN 6) (Za (qvN 7) (Za (qvN 8) Zb)))) Zb)))))) (Yt 14)
 (Zf (Zp (Zv Zbg (Z6 Zj2 (Za (qvN 2) (Za (qvN 14) Zb))) Zn (Z1 _)) (Zf (Zu Vq)) Zo)))
 (Ze (Zp (Vg (Vh (Z6 Zet (Za (Zb7 (qvN 2) Tm.cl MM_now) (Za Zd Zb))))) (Zf (Zu Vq)) Zo)
 (Ze (Zp (Vg (Vh (Z6 Zet (Za (Zy (Za (Zb7 (Yw (qvN 2) Tm.cl MM_then (Za Zd Zb)) Tm.cl MM_now) (Za (Zb7 (Yw (qvN 2) Tm.cl MM_then (Za Zd Zb)) Tm.cl MM_now) (Za (Zb7 (Yw (qvN 2) Tm.cl MM_then (Za Zd Zb)) Tm.cl MM_now) Zb)))) (Za (Zy (Za Zd (Za Zd (Za Zd Zb)))) Zb))))) (Zf (Zu Vq)) Zo)
 (Zf (Zu (Zbb (Z6 Zp6 (Za (qvN 2) (Za Zd Zb))) (Zba (Z6 Zp6 (Za (qvN 2) (Za (Zg0 Zf8 Zd) Zb)))))))))))))))))))))),?_⟩
  have hz:(5000:Nat)<=sizeLine:=by decide
  have lz:∀{n:Nat},n<=5->n<=sizeLine:=fun h=>xT h (by decide)
  have ok:∀{d:D}{A B:Prop},B->if (!Y7 d d)=true then A else B:=fun h=>Zgy (fun z=>by rw[Zk5] at z;cases z) fun _=>h
  refine We fun D1 hn1=>?_
  refine⟨_,rfl,a0,ks,rfl,hS,fun s la H1 hs hla hs1 sm1=>hn1 _ _ ?_⟩
  refine We fun D2 hn2=>?_
  intro p dx nx ndx nex
  refine⟨p,dx,rfl,Zg,fun M H2 hM W2 kp fr=>⟨rfl,hn2 _ _ ?_⟩⟩
  have sm2:Same H1 H2:=fun b o e=>kp b o (by rw[Zc (Zj e nx),Zc (Zj e ndx)];exact e) (Zj e nx)
  have no2:∀b o,H1 b=some o->¬mo M [] (fun _=>0) [] [] b:=fun b o e z=>by
   rcases fr b z with y | y
   ·rw[y,nx] at e;cases e
   ·have nb:b≠p:=fun z=>by rw[z,nx] at e;cases e
    rw[Zc nb,Zc (Zj e ndx),e] at y;cases y
  obtain⟨_,_,_,_,_,hq1,hq2,_⟩:=id hs1
  refine We fun D3 hn3=>?_
  refine⟨_,rfl,s,la,6,rfl,hs1.keep sm2,by decide,by decide,fun nl ns H3 hnl hnd hnm fnl knl hs3 sx3=>?_⟩
  obtain⟨a,b,t,g,nb,v,rfl⟩:=Z4z (show ns.length=6 by lia)
  have N:Nn a b t g nb v:=by
   simp only[yH,xD,xR,or_false,not_or] at hnd
   obtain⟨⟨x1,x2,x3,x4,x5⟩,⟨y1,y2,y3,y4⟩,⟨z1,z2,z3⟩,⟨u1,u2⟩,w1,_⟩:=hnd
   exact⟨hnm,x1,x2,x3,x4,x5,y1,y2,y3,y4,z1,z2,z3,u1,u2,w1⟩
  obtain⟨O3,hO3⟩:∃O,O=mo M [] (fun _=>0) [] []:=⟨_,rfl⟩
  have W3:MSt C CM H3 p (Yk []).1 (Yk []).2 O3:=MSt.x ⟨M,_,[],[],hM,W2,hO3⟩ (sm2 _ _ hq1) (by rw[hO3];exact no2 _ _ hq1) sx3
  have ns1:¬O3 s:=by rw[hO3];exact no2 _ _ hq1
  have ns2:¬O3 la:=by rw[hO3];exact no2 _ _ hq2
  clear W2 kp fr nex
  obtain⟨_,_,_,_,_,hq3,hq4,_⟩:=id hs3
  refine⟨nl,_,rfl,SqL.of knl,rfl,_,_,rfl,_,_,rfl,_,_,rfl,_,_,rfl,_,_,rfl,_,_,rfl,rfl,hn3 _ _ ?_⟩
  have fr3:∀{H':Hp}(S:Same H3 H') (b:Addr),H' b=none->¬O3 b/\b≠s:=fun S b h=>⟨W3.out (S.free h),fun z=>by rw[z,S _ _ hq3] at h;cases h⟩
  refine We fun D4 hn4=>?_
  refine Zos (Vt (by exact .sd (.come a 0 5) (fun _ _ h=>⟨_,rfl,h⟩) <| .sd (.come b 0 6) (fun _ _ h=>⟨_,rfl,h⟩) <| .sd (.come t 0 7) (fun _ _ h=>⟨_,rfl,h⟩) <| .sd (.bring a 1) (fun _ _ h=>⟨_,rfl,h⟩) .nil) (by exact ble rfl) (fr3 (Same.refl H3)) fun r1 us1 H4 n4 S4 c4 B4=>Yb (hn4 _ _ ?_))
  refine We fun D5 hn5=>?_
  refine⟨_,rfl,Vt (by exact .cd (.wer a b 5) 9 1 [t] [] (f35 a) (fun _ _ h=>⟨_,rfl,_,rfl,_,rfl,lz (ble rfl),fun l1 n1=>⟨lz (ble rfl),fun l2 n2=>h l1 l2 n1 n2⟩⟩) <| .sd (.come v 0 5) (fun _ _ h=>⟨_,rfl,h⟩) <| .sd (.die v a 60) (fun _ _ h=>⟨_,rfl,_,rfl,h⟩) .nil) (by exact ble rfl) (fr3 S4) fun r2 us2 H5 n5 S5 c5 B5=>Uv (by exact ble rfl) c4 B4.fst S5 c5 B5.fst fun rl H6 n6 S6 c6 B6=>Yb (hn5 _ _ ?_)⟩
  have S36:=(S4.trans S5).trans S6
  have frl:=(S4.trans S5).free n6
  have nrl:rl≠s:=fun z=>by rw[z,hq3] at frl;cases frl
  have nla:rl≠la:=fun z=>by rw[z,hq4] at frl;cases frl
  refine We fun D6 hn6=>?_
  refine Zos (Vt (by exact .sd (.rise b 4 9) (fun _ _ h=>⟨_,rfl,h⟩) <| .sd (.give 0 a b 5) (fun _ _ h=>⟨_,rfl,_,rfl,h⟩) <| .sd (.pay a b 3 6) (fun _ _ h=>⟨_,rfl,_,rfl,h⟩) <| .sd (.pen t) (fun _ _ h=>⟨_,rfl,h⟩) .nil) (by exact ble rfl) (N:=fun x=>(¬O3 x/\x≠s)/\x≠rl) (fun x h=>⟨fr3 S36 x h,fun z=>by rw[z,c6] at h;cases h⟩) fun pl vs H7 n7 S7 c7 B7=>Yb (hn6 _ _ ?_))
  have fpl:=S36.free n7
  have U7:U35 C CM p s la rl pl (Zbu a b t) H7 (us1++us2) vs (Zgu a b t v) (Yk []) O3:=⟨W3.same (S36.trans S7),hs3.keep (S36.trans S7),ns1,ns2,S7 _ _ c6,W3.out frl,nrl,nla,B6.same S7,c7,W3.out fpl,fun z=>(by rw[z,hq3] at fpl;cases fpl),fun z=>(by rw[z,c6] at n7;cases n7),B7.fst⟩
  refine We fun D7 hn7=>?_
  refine⟨_,rfl,s,la,3,rfl,U7.sr,by decide,by decide,fun tn H8 tn0 tn1 hs8 sx8=>⟨_,_,rfl,rfl,Yb (hn7 _ _ ?_)⟩⟩
  have U8:=U7.x hs8 sx8
  refine We fun D8 hn8=>?_
  refine⟨_,rfl,s,la,3,rfl,U8.sr,by decide,by decide,fun so H9 so0 so1 hs9 sx9=>⟨_,_,rfl,rfl,Yb (hn8 _ _ ?_)⟩⟩
  have U9:=U8.x hs9 sx9
  obtain⟨st,hst⟩:=yK (show 0<=398+so by lia)
  obtain⟨g7,I7⟩:=Zx3 N
  clear U7 U8 B4 B5 B6 B7
  refine We fun D9 hn9=>?_
  refine⟨_,rfl,_,_,rfl,rfl,_,rfl,by lia,by lia,?_⟩
  refine Zdq (st - 7) (by lia) (fun i σ H'=>∃(v13:Option V)(xs:List AD)(us:List V),σ=Zdn a0 s p a b t g nb v rl pl tn so v13 none none none/\U35 C CM p s la rl pl (Zbu a b t) H' us vs xs (Yk []) O3/\Gd35 xs/\I35 a b t v 1 (Yk xs)/\xs.length=7+i) ⟨none,_,_,rfl,U9,g7,I7,rfl⟩ ?_ ?_
  ·rintro i σ H' hi ⟨v13,xs,us,rfl,U,G,I,hl⟩
   refine⟨_,rfl,.inl ⟨rfl,_,SqL.of U.r⟩,_,rfl,_,rfl,_,rfl,_,_,rfl,rfl,⟨by lia,by lia⟩,?_⟩
   refine⟨_,rfl,s,la,2,rfl,U.sr,by decide,by decide,fun z2 J z20 z21 hsJ sxJ=>?_⟩
   refine⟨_,_,rfl,rfl,_,_,rfl,rfl,(show (0:Int) < 4 by decide),?_⟩
   have ix0:=Int.emod_nonneg ((0+(i:Int)) / (1+tn)+z2) (show (4:Int)≠0 by decide)
   have ix1:=Int.emod_lt_of_pos ((0+(i:Int)) / (1+tn)+z2) (show (0:Int) < 4 by decide)
   obtain⟨m,em⟩:=yK ix0
   have UJ:=U.x hsJ sxJ
   have hvl:=UJ.qd.len
   have hvl:vs.length=4:=hvl
   obtain⟨y,hy⟩:∃y,vs[m]? = some y:=⟨_,xC (by lia)⟩
   obtain⟨x,hx,hd⟩:=UJ.qd.get hy
   obtain⟨d,hdm,rfl⟩:=Z3x hx
   have hul:=UJ.rd.len
   refine⟨pl,_,_,y,rfl,rfl,SqL.of UJ.q,(by rw[em];exact Va hy),rl,us,y,rfl,rfl,UJ.r,by lia,?_⟩
   have lt:(Yk xs).2.deeds.length < 400:=by rw[Uc];lia
   have od:=Zkl N I d (by simp only[Zcu,xD,xR,or_false] at hdm;rcases hdm with rfl | rfl | rfl | rfl<;>simp)
   refine⟨_,_,_,rfl,UJ.add hd,G.snoc (by lia) ⟨od.1,(od.2.2 (by decide)).trans (Zj1 lt),od.2.1⟩,?_,by rw[Vx,hl];lia⟩
   rw[Zcw]
   exact(Zor N I lt).1 d hdm
  rintro σ H10 ⟨v13,xs,us,rfl,U10,G,I11,hl⟩
  refine hn9 _ _ ?_
  refine We fun D10 hn10=>?_
  have hxl:xs.length=st:=by lia
  have hul:=U10.rd.len
  refine⟨_,rfl,rl,rfl,⟨_,SqL.of U10.r⟩,?_⟩
  refine Ug us (fun i σ H'=>∃(v14:Option V)(O:Addr->Prop),σ=Zdn a0 s p a b t g nb v rl pl tn so v13 v14 none none/\U35 C CM p s la rl pl (Zbu a b t) H' us vs xs (Yk (xs.take i)) O) ⟨none,_,rfl,U10⟩ (fun i σ H' _ ⟨_,_,_,U⟩=>SqL.of U.r) ?_ ?_
  ·rintro i y σ H' hy ⟨v14,O,rfl,U⟩
   obtain⟨x,hx,hd⟩:=U.rd.get hy
   have g:=G.2 i x hx
   have et:xs.take (i+1)=xs.take i ++ [x]:=by rw[yP,hx];rfl
   rw[et,Zcw]
   cases x with
   | s d =>
    obtain⟨g1,g2,g3⟩:=g
    obtain⟨q,rfl,hq⟩:=hd
    refine⟨_,rfl,_,rfl,.inl ⟨p,_,_,O,q,d,rfl,U.w,hq,g1,(fun x e=>by rw[g2] at e;cases e),?_⟩⟩
    rw[g2]
    exact fun O' l H'' W'' F'' _ kl=>⟨l,_,rfl,.inl (SqL.of kl),rfl,_,rfl,Yq (fun z=>absurd rfl z) (fun _=>⟨_,O',rfl,U.step W'' F''⟩)⟩
   | c d day need o1 o2 f =>
    obtain⟨g1,g2,g3,g4,g5,g6,g7,g8,g9,g10⟩:=g
    obtain⟨q,l1,l2,rfl,hq,_,_,h1,h2⟩:=hd
    refine⟨_,rfl,_,rfl,.inr ⟨p,_,_,O,q,d,day,need,l1,l2,o1,o2,f,rfl,U.w,hq,⟨g2,g3,h1,h2,g4,g5,g6,g7,g8⟩,g1,(fun x e=>by rw[g9] at e;cases e),?_⟩⟩
    rw[g9]
    exact fun O' l H'' W'' F'' _ kl=>⟨l,_,rfl,.inl (SqL.of kl),rfl,_,rfl,Yq (fun z=>absurd rfl z) (fun _=>⟨_,O',rfl,U.step W'' F''⟩)⟩
  rintro σ H11 ⟨v14,O11,rfl,U11⟩
  refine hn10 _ _ ?_
  refine We fun D11 hn11=>?_
  rw[hul,yU] at U11
  clear U10
  refine⟨_,rfl,s,la,3,rfl,U11.sr,by decide,by decide,fun mo' H12 mo0' mo1 hs12 sx12=>?_⟩
  refine⟨_,_,rfl,rfl,_,rfl,by lia,by lia,?_⟩
  have U12:=U11.x hs12 sx12
  refine Zdq (2+mo'.toNat) (by lia) (fun i σ H'=>∃(v13 v15 v16:Option V)(as:List AD)(O:Addr->Prop)(kk:Nat),σ=Zdn a0 s p a b t g nb v rl pl tn so v13 v14 v15 v16/\U35 C CM p s la rl pl (Zbu a b t) H' us vs xs (Yk as) O/\Gd35 as/\I35 a b t v kk (Yk as)/\kk<=1+i/\as.length=min 400 (st+i)) ⟨v13,none,none,xs,O11,1,rfl,U12,G,I11,by lia,by lia⟩ ?_ ?_
  ·rintro i σ H' hi ⟨v13,v15,v16,as,O,kk,rfl,U,GA,I,hk,hal⟩
   obtain⟨M1,wa,xs1,qs1,hM1,WM,hO⟩:=id U.w
   obtain⟨dm,obm⟩:=WM.ob
   rw[hM1] at obm
   refine⟨_,rfl,p,dm,_,rfl,obm,Z8 _ (by decide +kernel),M1,_,wa,xs1,_,qs1,congrArg (fun x=>[V.ref x]) hM1.symm,WM,?_⟩
   rw[Uc]
   refine Yb ?_
   dsimp only [Wr]
   refine⟨by show 2<=sizeLine;lia,fun qd hqd=>?_⟩
   have Sd:=Same.new (o:=.lst [.str "", .str "TooMany"]) hqd
   have kd':(upd H' qd (.lst [.str "", .str "TooMany"])) qd=some (.lst [.str "", .str "TooMany"]):=Zg
   generalize (upd H' qd (.lst [.str "", .str "TooMany"]))=H1 at Sd kd' ⊢
   have U1:=U.same Sd
   refine⟨_,rfl,_,_,rfl,rfl,_,rfl,qd,_,_,.str (if 400<=as.length then "TooMany" else ""),rfl,rfl,SqL.of kd',?_,?_⟩
   ·by_cases z : 400<=as.length
    ·rw[if_pos z,show decide ((as.length:Int)>=400)=true from yL (by lia)];rfl
    ·rw[if_neg z,show decide ((as.length:Int)>=400)=false from yI (by lia)];rfl
   refine Yb ?_
   dsimp only [Wr]
   refine⟨_,rfl,_,rfl,Vt (by exact .sd (.bring a 1) (fun _ _ h=>⟨_,rfl,h⟩) .nil) (by exact ble rfl) (N:=fun x=>(¬O x/\x≠s)/\x≠rl) (fun x h=>⟨⟨U1.w.out h,fun z=>by obtain⟨_,_,_,_,_,e,_⟩:=id U1.sr;rw[z,e] at h;cases h⟩,fun z=>by rw[z,U1.r] at h;cases h⟩) fun q1 w1 H2 n2 S2 c2 B2=>Uv (by exact ble rfl) U1.q U1.qd S2 c2 B2.fst fun q2 H3 n3 S3 c3 B3=>?_⟩
   have U3:=U1.same (S2.trans S3)
   obtain⟨_,_,_,_,_,hq5,_⟩:=id (U1.same S2).sr
   refine⟨_,rfl,s,la,5,rfl,U3.sr,by decide,by decide,fun z5 H4 z50 z51 hs4 sx4=>?_⟩
   have U4:=U3.x hs4 sx4
   obtain⟨m5,rfl⟩:=yK z50
   have nq2:q2≠s:=fun z=>by rw[z,hq5] at n3;cases n3
   have hvl:=B3.len
   have hvl:(vs++w1).length=5:=hvl
   obtain⟨y,hy⟩:∃y,(vs++w1)[m5]? = some y:=⟨_,xC (by lia)⟩
   obtain⟨x,hx,hd⟩:=B3.get hy
   have hxs:∃d∈Zcu a b t ++ [SD.bring a 1],x = .s d:=by
    have:Zbu a b t ++ [.s (.bring a 1)]=(Zcu a b t ++ [SD.bring a 1]).map .s:=rfl
    rw[this,xO] at hx
    obtain⟨d,he,rfl⟩:=xZ.mp hx
    exact⟨d,xI he,rfl⟩
   obtain⟨d,hdm,rfl⟩:=hxs
   obtain⟨q,rfl,hq⟩:=hd
   have hq4:H4 q=some (.tup (sdV d)):=sx4 _ _ (fun z=>by rw[z,S3 _ _ hq5] at hq;cases hq) hq
   have od:=Zkl N I d (by simp only[Zcu,xY,yV,xD,xR,or_false] at hdm;rcases hdm with rfl | rfl | rfl | rfl | rfl<;>simp)
   refine⟨q2,_,_,_,rfl,rfl,SqL.of (sx4 _ _ nq2 c3),Va hy,.inl ⟨p,_,_,O,q,d,rfl,U4.w,hq4,od.1,?_⟩⟩
   rw[od.2.2 (by lia)]
   by_cases z:as.length < 400
   ·rw[Zj1 (by rw[Uc];exact z)]
    refine fun O' H5 W5 F5=>⟨_,rfl,rfl,_,rfl,Yq (fun y=>absurd (by rw[if_neg (by lia)]) y) (fun _=>?_)⟩
    have lt:(Yk as).2.deeds.length < 400:=by rw[Uc];exact z
    have st:=Zor N I lt
    have hI:∃kk',I35 a b t v kk' (V1 (Yk as) (.s d))/\kk'<=kk+1:=by
     rcases xJ.mp hdm with h | h
     ·exact⟨kk,st.1 d h,by lia⟩
     ·cases xK.mp h;exact⟨kk+1,st.2,by lia⟩
    obtain⟨kk',hI,hk'⟩:=hI
    refine⟨_,_,_,as ++ [.s d],O',kk',rfl,?_,GA.snoc (a:=.s d) z ⟨od.1,(od.2.2 (by lia)).trans (Zj1 lt),od.2.1⟩,by rw[Zcw];exact hI,by lia,by rw[Vx];lia⟩
    rw[Zcw]
    exact U4.step W5 F5
   ·rw[Z3y (by rw[Uc];exact z)]
    exact⟨by decide +kernel,fun H5 S5=>⟨_,rfl,rfl,_,rfl,Yq (fun y=>absurd (by rw[if_pos (by lia)];rfl) y) (fun _=>⟨_,_,_,as,O,kk,rfl,U4.same S5,GA,I,by lia,by lia⟩)⟩⟩
  rintro σ H13 ⟨w13,v15,v16,as,O,kk,rfl,U13,GA,I,hk,hal⟩
  refine hn11 _ _ ?_
  refine We fun D12 hn12=>?_
  have h400:as.length=400:=by lia
  have h4:¬(Yk as).2.deeds.length < 400:=by rw[Uc];lia
  have fresh:∀{H':Hp},Same H13 H'->∀b,H' b=none->¬O b:=fun S b h=>U13.w.out (S.free h)
  refine⟨_,rfl,_,rfl,_,rfl,_,rfl,a,b,t,g,rfl,fun q1 w1 H14 n1 S1 c1 B1=>?_⟩
  have B1:DdL (fun b=>¬O b) H14 (Zen a b t g) w1:=B1.mono (fun _ _ e=>e) fun b u n e=>⟨U13.w.out n,e⟩
  refine Vt (by exact .cd (.clm a 0) 9 9999 [a,a] [t] (f35 a) (fun _ _ h=>⟨_,rfl,_,rfl,_,rfl,lz (ble rfl),fun l1 n1=>⟨_,rfl,lz (ble rfl),fun l2 n2=>h l1 l2 n1 n2⟩⟩) .nil) (by exact ble rfl) (fresh S1) fun q2 w2 H15 n2 S2 c2 B2=>Uv (by exact ble rfl) c1 B1 S2 c2 B2.fst fun q3 H16 n3 S3 c3 B3=>?_
  have B3:=B3.fst
  have S16:=(S1.trans S2).trans S3
  refine⟨q3,rfl,⟨_,SqL.of c3⟩,?_⟩
  refine Ug (w1++w2) (fun i σ H'=>∃v14:Option V,σ=Zdn a0 s p a b t g nb v rl pl tn so w13 v14 v15 v16/\Same H16 H') ⟨v14,rfl,Same.refl _⟩ (fun i σ H' _ ⟨_,_,S⟩=>SqL.of (S _ _ c3)) ?_ ?_
  ·rintro i y σ H' hy ⟨v14,rfl,S⟩
   obtain⟨x,hx,hd⟩:=(B3.same S).get hy
   exact⟨_,rfl,_,rfl,Zno N I (U13.w.same (S16.trans S)) (Zx4 N I (by lia) h4 x (xI hx)) hd fun H'' S'=>⟨rfl,_,rfl,Yq (fun z=>absurd rfl z) (fun _=>⟨_,rfl,S.trans S'⟩)⟩⟩
  rintro σ H17 ⟨v14,rfl,S17⟩
  refine hn12 _ _ ?_
  refine We fun D13 hn13=>?_
  have S17:=S16.trans S17
  refine⟨_,rfl,_,rfl,_,rfl,_,rfl,_,rfl,_,rfl,lz (ble rfl),fun ql hql=>?_⟩
  have Sl:=Same.new (o:=.lst [.str g,.str nb,.str v]) hql
  have kl:(upd H17 ql (.lst [.str g,.str nb,.str v])) ql=some (.lst [.str g,.str nb,.str v]):=Zg
  generalize (upd H17 ql (.lst [.str g,.str nb,.str v]))=H18 at Sl kl ⊢
  have S18:=S17.trans Sl
  refine⟨a,b,t,g,nb,v,ql,rfl,kl,fun q4 w4 H19 n4 S4 c4 B4=>?_⟩
  have B4:DdL (fun b=>¬O b) H19 (Zeo a b t g nb v) w4:=B4.mono (fun _ _ e=>e) fun b u n e=>⟨fresh S18 b n,e⟩
  have S19:=S18.trans S4
  refine⟨q4,rfl,⟨_,SqL.of c4⟩,?_⟩
  refine Ug w4 (fun i σ H'=>∃v14:Option V,σ=Zdn a0 s p a b t g nb v rl pl tn so w13 v14 v15 v16/\Same H19 H') ⟨v14,rfl,Same.refl _⟩ (fun i σ H' _ ⟨_,_,S⟩=>SqL.of (S _ _ c4)) ?_ ?_
  ·rintro i y σ H' hy ⟨v14,rfl,S⟩
   obtain⟨x,hx,hd⟩:=(B4.same S).get hy
   exact⟨_,rfl,_,rfl,Zno N I (U13.w.same (S19.trans S)) (Z3v N I (by lia) x (xI hx)) hd fun H'' S'=>⟨rfl,_,rfl,Yq (fun z=>absurd rfl z) (fun _=>⟨_,rfl,S.trans S'⟩)⟩⟩
  rintro σ H20 ⟨v14,rfl,S20⟩
  refine hn13 _ _ ?_
  refine We fun D14 hn14=>?_
  have W20:=U13.w.same (S19.trans S20)
  obtain⟨M1,wa,xs1,qs1,hM1,WM,hO⟩:=id W20
  obtain⟨dm,obm⟩:=WM.ob
  rw[hM1] at obm
  refine⟨_,rfl,p,dm,_,rfl,obm,Z8 _ (by decide +kernel),M1,_,wa,xs1,_,qs1,congrArg (fun x=>[V.ref x]) hM1.symm,WM,?_⟩
  rw[Uc,h400]
  refine⟨.int 400,.int 400,.int 400,.int 400,rfl,rfl,rfl,by show 0<=4;decide,fun H21 S21=>⟨_,rfl,ok (hn14 _ _ ?_)⟩⟩
  have W21:=W20.same S21
  refine We fun D15 hn15=>?_
  have obm21:=S21 _ _ obm
  refine⟨_,rfl,p,dm,_,rfl,obm21,Z8 _ (by decide +kernel),p,as,O,0,rfl,W21,GA,by lia,fun p22 O22 H22 W22 _ S22=>?_⟩
  obtain⟨M22,wa22,xs22,qs22,hM22,WM22,_⟩:=id W22
  obtain⟨dm22,obm22⟩:=WM22.ob
  rw[hM22] at obm22
  refine⟨p22,dm22,_,rfl,obm22,Z8 _ (by decide +kernel),M22,_,wa22,xs22,_,qs22,congrArg (fun x=>[V.ref x]) hM22.symm,WM22,?_⟩
  rw[Uc,xX,h400]
  refine⟨_,rfl,p,dm,_,rfl,(S22 _ _ obm21),Z8 _ (by decide +kernel),p,as,O,399,rfl,(W21.same S22),GA,by lia,fun p23 O23 H23 W23 _ S23=>?_⟩
  obtain⟨M23,wa23,xs23,qs23,hM23,WM23,_⟩:=id W23
  obtain⟨dm23,obm23⟩:=WM23.ob
  rw[hM23] at obm23
  refine⟨p23,dm23,_,rfl,obm23,Z8 _ (by decide +kernel),M23,_,wa23,xs23,_,qs23,congrArg (fun x=>[V.ref x]) hM23.symm,WM23,?_⟩
  rw[Uc,xX,h400]
  refine⟨_,rfl,p,dm,_,rfl,(S23 _ _ (S22 _ _ obm21)),Z8 _ (by decide +kernel),p,as,O,400,rfl,(W21.same (S22.trans S23)),GA,by lia,fun p24 O24 H24 W24 _ S24=>?_⟩
  obtain⟨M24,wa24,xs24,qs24,hM24,WM24,_⟩:=id W24
  obtain⟨dm24,obm24⟩:=WM24.ob
  rw[hM24] at obm24
  refine⟨p24,dm24,_,rfl,obm24,Z8 _ (by decide +kernel),M24,_,wa24,xs24,_,qs24,congrArg (fun x=>[V.ref x]) hM24.symm,WM24,?_⟩
  rw[Uc,xX,h400]
  refine⟨by show 3<=sizeLine;lia,fun l1 hl1=>?_⟩
  have T1:=Same.new (o:=.lst [.int ((min 0 400:Nat):Int),.int ((min 399 400:Nat):Int),.int ((min 400 400:Nat):Int)]) hl1
  have j1:(upd H24 l1 (.lst [.int ((min 0 400:Nat):Int),.int ((min 399 400:Nat):Int),.int ((min 400 400:Nat):Int)])) l1=some (.lst [.int 0,.int 399,.int 400]):=Zg
  generalize (upd H24 l1 (.lst [.int ((min 0 400:Nat):Int),.int ((min 399 400:Nat):Int),.int ((min 400 400:Nat):Int)]))=H25 at T1 j1 ⊢
  refine⟨by show 3<=sizeLine;lia,fun l2 hl2=>?_⟩
  have T2:=Same.new (o:=.lst [.int 0,.int 399,.int 400]) hl2
  have j2:(upd H25 l2 (.lst [.int 0,.int 399,.int 400])) l2=some (.lst [.int 0,.int 399,.int 400]):=Zg
  generalize (upd H25 l2 (.lst [.int 0,.int 399,.int 400]))=H26 at T2 j2 ⊢
  have rp:∀H:Hp,RepL H [.int 0,.int 399,.int 400] [.int 0,.int 399,.int 400]:=fun H=>⟨_,_,rfl,rfl,⟨_,_,rfl,rfl,⟨_,_,rfl,rfl,rfl⟩⟩⟩
  refine⟨.ref l1,.ref l2,.lst [.int 0,.int 399,.int 400],.lst [.int 0,.int 399,.int 400],rfl,⟨l1,_,rfl,T2 _ _ j1,rp _⟩,⟨l2,_,rfl,j2,rp _⟩,by show 1<=4;decide,fun H27 S27=>⟨_,rfl,ok (hn15 _ _ ?_)⟩⟩
  have W27:=W21.same ((((S22.trans S23).trans S24).trans (T1.trans T2)).trans S27)
  refine⟨_,rfl,p,_,_,O,401,rfl,W27,by unfold okI;decide,.inr (by rw[Uc,h400];decide),?_⟩
  refine⟨true,rfl,Z5 ?_⟩
  refine⟨_,rfl,_,rfl,p,_,_,O,-1,rfl,W27,by unfold okI;decide,.inl (by decide),?_⟩
  exact k _
end
def cE(x:Str):Addr:=(([("MootError", 38),("NoName", 58),("NoMeasure", 77),("Unknown", 96),("Taken", 115),("NoThing", 134),("NoCase", 153),("NoOath", 172),("NotYet", 191),("Dead", 210),("NoHeir", 229),("TooMany", 248),("SwornTwice", 267),("Forsworn", 286),("TooLight", 305),("Broken", 324),("NoMoment", 343),("NoDeed", 362)]:List (Str×Addr)).lookup x).getD 0
local macro_rules | `(tactic| walk_at "k")=>`(tactic| ((repeat' (refine And.intro ?_ ?_))<;>kernel_rfl))
theorem all_mk{Pz:Program}{w:World}{h:Heap}{mg:Str->Option Value}{fa:Addr}(X:(KK w.params).In h)(G:h.Ns mainGlobals mg)(hfa:mg "law" = some (.ref fa)) :
  ∃fd:FuncData,(∀(s:Shared)(v:Value),BindsTo s fd ⟨[v],[]⟩ [("_law_script", v)])/\∀base:Heap,(KK w.params).In base->base.Ns mainGlobals mg->FnOk Pz w (KK w.params) mg base CX0 40 fa fd ["_law_script"] (Zes (KK w.params)):=by
 have e:some (Value.ref fa)=some (.ref 1035):=hfa.symm.trans (PySem.W.mg_of X G (by kernel_rfl))
 cases e
 have Zjj:=hQ "done" Zji 371 370 pm0 X G (by walk_at "k")
 have Zcc:=hQ "check_day" Zeu 378 377 pm1 X G (by walk_at "k")
 have Zcd:=hQ "check_weight" Zev 385 384 pm1 X G (by walk_at "k")
 have Zia:=hQ "check_need" Zh9 392 391 pm1 X G (by walk_at "k")
 have Zic:=hQ "check_money" Zib 399 398 pm1 X G (by walk_at "k")
 have Zhe:=hQ "is_name" Zhd 404 403 pm2 X G (by walk_at "k")
 have Zhv:=hQ "total" Zhu 409 408 pm2 X G (by walk_at "k")
 have Zh3:=hQ "settled" Zh2 575 574 pm4 X G (by walk_at "k")
 have Zh1:=hQ "settled_with" Zh0 582 581 pm4 X G (by walk_at "k")
 have Zim:=hQ "breakers" Zil 589 588 pm4 X G (by walk_at "k")
 have Zh7:=hQ "breaking" Zh6 594 593 pm4 X G (by walk_at "k")
 have Zh5:=hQ "naming" Zh4 601 600 pm4 X G (by walk_at "k")
 have Zig:=hQ "check_case" Zif 608 607 pm4 X G (by walk_at "k")
 have Zik:=hQ "check_oath" Zij 613 612 pm4 X G (by walk_at "k")
 have Zhz:=hQ "margin_without" Zhy 620 619 pm4 X G (by walk_at "k")
 have Zhx:=hQ "kept_weight" Zdc 625 624 pm4 X G (by walk_at "k")
 have Zg4:=hQ "_law_src" Zg3 950 949 pm6 X G (by walk_at "k")
 have Zg6:=hQ "_law_next" Zg5 957 956 pm6 X G (by walk_at "k")
 have Zg2:=hQ "_law_whole" Zg1 964 963 pm6 X G (by walk_at "k")
 have Uz:=hQ "_law_same" Zc7 971 970 pm6 X G (by walk_at "k")
 have Zg9:=hQ "_law_unlike" Zg8 978 977 pm6 X G (by walk_at "k")
 have Zg7:=hQ "_law_word" Zc9 983 982 pm6 X G (by walk_at "k")
 have Zhb:=hQ "_law_names" Zha 990 989 pm6 X G (by walk_at "k")
 have Zjr:=hQ "_law_hand" Zjq 995 994 pm6 X G (by walk_at "k")
 have Zjt:=hQ "_law_try" Zjs 1000 999 pm6 X G (by walk_at "k")
 have Zjl:=hQ "_law_kind" Zjk 1007 1006 pm6 X G (by walk_at "k")
 have Zjp:=hQ "_law_no_moment" Zjo 1014 1013 pm6 X G (by walk_at "k")
 have Zjv:=hQ "_law_ends" Zju 1021 1020 pm6 X G (by walk_at "k")
 have Zjx:=hQ "_law_bad" Zjw 1028 1027 pm6 X G (by walk_at "k")
 have F_law:=Zgk (K:=KK w.params) (x:="law") (qual:="law") (st:=Zcf) (f:=1035) (oc:=.type "function") (od:=none) (an:=none) (osl:=#[]) (kV:=.none) (doc:=.none) (pm:=(.str "law_forsworn_k35_four_hundred_moments" 1407)) (cdv:=(.ref 1034)) (ct:=.none) (by kernel_rfl) (by kernel_rfl) (by kernel_rfl)
 have Zhj:=hMQ (K:=KK w.params) 564 "__init__" "Folk.__init__" Zhi 423 422 pm3 (by walk_at "k")
 have Zhn:=hMQ (K:=KK w.params) 564 "come" "Folk.come" Zhm 430 429 pm3 (by walk_at "k")
 have Zhq:=hMQ (K:=KK w.params) 564 "rise" "Folk.rise" Zhp 437 436 pm3 (by walk_at "k")
 have Zhs:=hMQ (K:=KK w.params) 564 "die" "Folk.die" Zhr 444 443 pm3 (by walk_at "k")
 have Zho:=hMQ (K:=KK w.params) 564 "weight" "Folk.weight" Ze0 463 462 pm3 (by walk_at "k")
 have Zhh:=hMQ (K:=KK w.params) 564 "died_by" "Folk.died_by" Zhg 498 497 pm3 (by walk_at "k")
 have Zck:=hMQ (K:=KK w.params) 564 "check_coming" "Folk.check_coming" Zey 519 518 pm3 (by walk_at "k")
 have Zcm:=hMQ (K:=KK w.params) 564 "check_rise" "Folk.check_rise" Ze1 526 525 pm3 (by walk_at "k")
 have Zco:=hMQ (K:=KK w.params) 564 "check_death" "Folk.check_death" Ze3 533 532 pm3 (by walk_at "k")
 have Zci:=hMQ (K:=KK w.params) 564 "check_known" "Folk.check_known" Zew 540 539 pm3 (by walk_at "k")
 have Zcj:=hMQ (K:=KK w.params) 564 "check_there" "Folk.check_there" Zex 547 546 pm3 (by walk_at "k")
 have Zcl:=hMQ (K:=KK w.params) 564 "check_living" "Folk.check_living" Zez 554 553 pm3 (by walk_at "k")
 have Zcn:=hMQ (K:=KK w.params) 564 "check_untold" "Folk.check_untold" Ze2 561 560 pm3 (by walk_at "k")
 have TcFolk:Zxt (KK w.params) 564:=by
  refine⟨⟨?_,?_,?_,?_⟩,?_,?_,?_,?_⟩<;>(show _=_;kernel_rfl)
 have mkFolk:PySem.W.makesIn (KK w.params) 564=true:=by kernel_rfl
 have kcFolk:PySem.W.keepIn (KK w.params) (.ref 564)=true:=by kernel_rfl
 have gCFolk:mg "Folk" = some (.ref 564):=PySem.W.mg_of X G (by kernel_rfl)
 have Zjn:=hMQ (K:=KK w.params) 939 "__init__" "Moot.__init__" Zjm 639 638 pm5 (by walk_at "k")
 have Zi7:=hMQ (K:=KK w.params) 939 "come" "Moot.come" Zi6 646 645 pm5 (by walk_at "k")
 have Zjf:=hMQ (K:=KK w.params) 939 "rise" "Moot.rise" Zje 653 652 pm5 (by walk_at "k")
 have Zjh:=hMQ (K:=KK w.params) 939 "die" "Moot.die" Zjg 660 659 pm5 (by walk_at "k")
 have Zi5:=hMQ (K:=KK w.params) 939 "penance" "Moot.penance" Zi4 667 666 pm5 (by walk_at "k")
 have Zi9:=hMQ (K:=KK w.params) 939 "bring" "Moot.bring" Zi8 674 673 pm5 (by walk_at "k")
 have Zjb:=hMQ (K:=KK w.params) 939 "give" "Moot.give" Zja 681 680 pm5 (by walk_at "k")
 have Zjd:=hMQ (K:=KK w.params) 939 "pay" "Moot.pay" Zjc 688 687 pm5 (by walk_at "k")
 have Ziy:=hMQ (K:=KK w.params) 939 "claim" "Moot.claim" Zix 695 694 pm5 (by walk_at "k")
 have Zi0:=hMQ (K:=KK w.params) 939 "wergild" "Moot.wergild" Ziz 702 701 pm5 (by walk_at "k")
 have Zi3:=hMQ (K:=KK w.params) 939 "accuse" "Moot.accuse" Zi2 709 708 pm5 (by walk_at "k")
 have Zj0:=hMQ (K:=KK w.params) 939 "now" "Moot.now" Zjz 716 715 pm5 (by walk_at "k")
 have Zce:=hMQ (K:=KK w.params) 939 "then" "Moot.then" Ze7 882 881 pm5 (by walk_at "k")
 have Zis:=hMQ (K:=KK w.params) 939 "forsworn_names" "Moot.forsworn_names" Zir 896 895 pm5 (by walk_at "k")
 have Ziq:=hMQ (K:=KK w.params) 939 "weighed" "Moot.weighed" Zdd 901 900 pm5 (by walk_at "k")
 have Ziw:=hMQ (K:=KK w.params) 939 "try_case" "Moot.try_case" Ziv 908 907 pm5 (by walk_at "k")
 have Zip:=hMQ (K:=KK w.params) 939 "check_named" "Moot.check_named" Zio 915 914 pm5 (by walk_at "k")
 have Zie:=hMQ (K:=KK w.params) 939 "check_thing" "Moot.check_thing" Zid 922 921 pm5 (by walk_at "k")
 have Ziu:=hMQ (K:=KK w.params) 939 "check_sides" "Moot.check_sides" Zit 929 928 pm5 (by walk_at "k")
 have Zii:=hMQ (K:=KK w.params) 939 "check_moments" "Moot.check_moments" Zih 936 935 pm5 (by walk_at "k")
 have TcMoot:TxCMoot (KK w.params) 939:=by
  refine⟨⟨?_,?_,?_,?_⟩,?_,?_,?_,?_,?_,?_,?_,?_,?_⟩<;>(show _=_;kernel_rfl)
 have mkMoot:PySem.W.makesIn (KK w.params) 939=true:=by kernel_rfl
 have kcMoot:PySem.W.keepIn (KK w.params) (.ref 939)=true:=by kernel_rfl
 have gCMoot:mg "Moot" = some (.ref 939):=PySem.W.mg_of X G (by kernel_rfl)
 have er:Er (KK w.params) mg cE errs:=Z0s X G (by kernel_rfl)
 have al_breakers_stands:mg "breakers_stands" = mg "breakers" := (PySem.W.mg_of X G (by kernel_rfl):mg "breakers_stands" = some (.ref 589)).trans (PySem.W.mg_of X G (by kernel_rfl):mg "breakers" = some (.ref 589)).symm
 have c_LAST_DAY:mg "LAST_DAY" = some (.int 9999 625):=PySem.W.mg_of X G (by kernel_rfl)
 have c_MOST_WEIGHT:mg "MOST_WEIGHT" = some (.int 1000 627):=PySem.W.mg_of X G (by kernel_rfl)
 have c_MOST_NEED:mg "MOST_NEED" = some (.int 12000 629):=PySem.W.mg_of X G (by kernel_rfl)
 have c_MOST_MONEY:mg "MOST_MONEY" = some (.int 1000000 631):=PySem.W.mg_of X G (by kernel_rfl)
 have c_LONGEST_NAME:mg "LONGEST_NAME" = some (.int 12 663):=PySem.W.mg_of X G (by kernel_rfl)
 have c_MOST_FOLK:mg "MOST_FOLK" = some (.int 40 679):=PySem.W.mg_of X G (by kernel_rfl)
 have c_ONES:mg "ONES" = some (.int 0 888):=PySem.W.mg_of X G (by kernel_rfl)
 have c_OTHERS:mg "OTHERS" = some (.int 1 890):=PySem.W.mg_of X G (by kernel_rfl)
 have c_NEED:mg "NEED" = some (.int 2 892):=PySem.W.mg_of X G (by kernel_rfl)
 have c_NAMED:mg "NAMED" = some (.int 3 894):=PySem.W.mg_of X G (by kernel_rfl)
 have c_MOST_THINGS:mg "MOST_THINGS" = some (.int 40 974):=PySem.W.mg_of X G (by kernel_rfl)
 have c_MOST_CASES:mg "MOST_CASES" = some (.int 60 976):=PySem.W.mg_of X G (by kernel_rfl)
 have c_MOST_SWEARERS:mg "MOST_SWEARERS" = some (.int 12 978):=PySem.W.mg_of X G (by kernel_rfl)
 have c_MOST_MOMENTS:mg "MOST_MOMENTS" = some (.int 400 980):=PySem.W.mg_of X G (by kernel_rfl)
 have T:Txt mg:=⟨PySem.W.mg_none_of X G (by kernel_rfl),PySem.W.mg_none_of X G (by kernel_rfl),PySem.W.mg_none_of X G (by kernel_rfl),PySem.W.mg_none_of X G (by kernel_rfl),PySem.W.mg_none_of X G (by kernel_rfl),PySem.W.mg_none_of X G (by kernel_rfl),PySem.W.mg_none_of X G (by kernel_rfl),PySem.W.mg_none_of X G (by kernel_rfl),PySem.W.mg_none_of X G (by kernel_rfl),PySem.W.mg_none_of X G (by kernel_rfl),PySem.W.mg_none_of X G (by kernel_rfl),PySem.W.mg_none_of X G (by kernel_rfl),PySem.W.mg_none_of X G (by kernel_rfl),PySem.W.mg_none_of X G (by kernel_rfl),PySem.W.mg_none_of X G (by kernel_rfl)⟩
 exact⟨PySem.W.fnOf "law" "law" (Vj Zcf) (Y4 Zcf) (Zh Zcf) .none .none .none (.str "law_forsworn_k35_four_hundred_moments" 1407) none (.ref 1034) .none,fun s v=>.of_eq rfl,fun base _ _=>by
  have F1:=Z0x (P:=Pz) (w:=w) (base:=base) Zg4 T
  have F2:=Z0z (P:=Pz) (w:=w) (base:=base) Zg6 T
  have F3:=Z00 Zg7 T F2
  have F4:=Z02 (P:=Pz) (w:=w) (base:=base) Zg9 T
  have F5:=Z04 Zhb T F2 F3 F4
  have F8:=Zpl Uz T (Z0u (P:=Pz) (w:=w) (base:=base) Zg2 T) 4
  have F9:=Z07 (P:=Pz) (w:=w) (base:=base) Zhe T ⟨_,c_LONGEST_NAME⟩
  have F10:=Z08 (P:=Pz) (w:=w) (base:=base) Zcc ⟨_,c_LAST_DAY⟩
  have F11:=Z09 (P:=Pz) (w:=w) (base:=base) Zcd ⟨_,c_MOST_WEIGHT⟩
  have E10:=Z2b (P:=Pz) (w:=w) (base:=base) Zcc ⟨_,c_LAST_DAY⟩ er
  have E11:=Z2c (P:=Pz) (w:=w) (base:=base) Zcd ⟨_,c_MOST_WEIGHT⟩ er
  have F12:=Z2g (P:=Pz) (w:=w) (base:=base) Zic ⟨_,c_MOST_MONEY⟩ er
  have F13:=Z2e (P:=Pz) (w:=w) (base:=base) Zia ⟨_,c_MOST_NEED⟩ er
  have M1:=Z1a (P:=Pz) (w:=w) (mg:=mg) (base:=base) Zci TcFolk
  have M2:=Z1b (P:=Pz) (w:=w) (mg:=mg) (base:=base) Zcj TcFolk
  have M3:=Z1d (P:=Pz) (w:=w) (mg:=mg) (base:=base) Zhh TcFolk
  have M4:=Z1j Zcl TcFolk M3
  have M5:=Z1p (P:=Pz) (w:=w) (mg:=mg) (base:=base) Zcn TcFolk
  have X1:=Z2h (P:=Pz) (w:=w) (base:=base) Zci TcFolk er
  have X2:=Z2i (P:=Pz) (w:=w) (base:=base) Zcj TcFolk er
  have X3:=Z2j Zcl TcFolk er M3
  have X4:=Z2k (P:=Pz) (w:=w) (base:=base) Zcn TcFolk er
  have X5:=Z2l Zck T TcFolk ⟨_,c_MOST_FOLK⟩ er F9 E10 E11
  have X6:=Z2m Zcm TcFolk E10 E11 X1 X2 X3
  have X7:=Z2n Zco TcFolk er E10 X1 X2 X4
  have M6:=Z1g Zck T TcFolk ⟨_,c_MOST_FOLK⟩ F9 F10 F11
  have M7:=Z1i Zhn TcFolk M6
  have M8:=Z1l Zho T TcFolk F10 M1 M2
  have M9:=Z1o Zhq TcFolk (Z1m Zcm TcFolk F10 F11 M1 M2 M4)
  have M10:=Z1s Zhs TcFolk (Z1q Zco TcFolk F10 M1 M2 M5)
  have M0:=(Z1f (P:=Pz) (w:=w) (mg:=mg) (base:=base) Zhj TcFolk).mks mkFolk kcFolk gCFolk
  have G1:=Z1w (P:=Pz) (w:=w) (base:=base) Zhx T
  have G2:=Z1y Zhz T ⟨_,c_ONES⟩ ⟨_,c_OTHERS⟩ ⟨_,c_NEED⟩ G1
  have G3:=Z10 Zh1 T ⟨_,c_NAMED⟩ G2
  have G4:=Z13 Zh3 T G3
  have G5:=Z16 (P:=Pz) (w:=w) (base:=base) Zh5 T ⟨_,c_NAMED⟩
  have G6:=Z18 Zh7 T G4 G5
  have G7:=Z2q (P:=Pz) (w:=w) (base:=base) Zig T er
  have G8:=Z2t Zik T ⟨_,c_ONES⟩ ⟨_,c_OTHERS⟩ er G7
  have G9:=Z2w Zim T G8 G6
  have G10:=Z1u (P:=Pz) (w:=w) (base:=base) Zhv T
  have N1:=fun C=>Zre (P:=Pz) (w:=w) (base:=base) (C:=C) Zii T TcMoot er ⟨_,c_MOST_MOMENTS⟩
  have N2:=fun C=>Zrj (P:=Pz) (w:=w) (base:=base) (C:=C) Zie T TcMoot er
  have N3:=Zrk Zip TcFolk TcMoot er X1 X2 X3 (N2 _) G8
  have N0:=(Zxz Zjn TcMoot M0).mks mkMoot kcMoot gCMoot
  have N5:=Zsr Ziq TcFolk TcMoot M8
  have N6:=fun C=>Zrd (P:=Pz) (w:=w) (mg:=mg) (base:=base) (C:=C) Zis T TcMoot ⟨_,c_NAMED⟩
  have N7:=Zrl Ziu T TcMoot er ⟨_,c_MOST_CASES⟩ ⟨_,c_MOST_SWEARERS⟩ (N1 _) (N6 _) N5 G10
  have N8:=Zr2 Ziw T TcMoot N5 G4
  have P1:=Zvw Ziy T TcMoot E10 F13 N3 N7 N8
  have P2:=Zss Zi0 T TcMoot F12 E10 F13 N3 N7 N8
  have P3:=Zt5 Zi3 T TcMoot er E10 F13 N3 N7 (Fn.alias G9 al_breakers_stands) N8
  have P4:=Zst Zi5 T TcFolk TcMoot X1 X4 (N1 _)
  have P5:=Zxv Zi7 TcFolk TcMoot X5 M7 (N1 _)
  have P6:=Zvx Zi9 T TcMoot ⟨_,c_MOST_THINGS⟩ er E10 N3 (N1 _)
  have P7:=Zxw Zjb TcMoot E10 N3 (N1 _)
  have P8:=Zzo Zjd TcMoot F12 E10 N3 (N1 _)
  have P9:=Zxy Zjf TcFolk TcMoot X6 M9 (N1 _)
  have P10:=Zzq Zjh TcFolk TcMoot X7 M10 (N1 _)
  have P11:=Z3g Zjj TcMoot er P5 P9 P10 P4 P6 P7 P8 P1 P2 P3
  have R1:=Z3n (P:=Pz) (w:=w) (base:=base) Zjr T
  have R2:=Z3p Zjt T er R1 P11
  have R3:=Z3i Zjl er P11
  have R4:=Zx0 Zce T TcMoot N0 P11
  have R5:=Z3l Zjp TcMoot er (Zvy Zce T TcMoot er N0 P11)
  have R6:=fun C=>Zzx (P:=Pz) (w:=w) (base:=base) (C:=C) Zj0 T TcMoot
  have R7:=Z3s (P:=Pz) (w:=w) (base:=base) Zjv
  have R8:=Z3u (P:=Pz) (w:=w) (base:=base) Zjx
  exact(Z3z F_law T TcMoot F1 F2 F5 N0 (R6 _) R4 R2 R3 R7 R8 R5 F8).mono (by decide)⟩
end Law
open PySem PySem.W PyProof.Rows
set_option maxRecDepth 100000 in
set_option maxHeartbeats 0 in
theorem PySem.Challenge.cw_forsworn_k35_four_hundred_moments_holds : PySem.Challenge.rw_forsworn_k35_four_hundred_moments.Holds := by
 w_on;o_law
 refine holds_open (q:=Law.q) (loose:=["breakers_stands"]) (Xt:=fun s=>xlAt Law.q [] s && recOk (RowW.records PySem.Challenge.rw_forsworn_k35_four_hundred_moments.row.toRowW) s) (XP:=XL Law.q []) (Yf:=Law.HK.obs) (Ya:=Law.HK.val) (YP:=Law.HK.says) (N:=11859) Law.left Law.HK.of Law.HK.keeps (fun s e=>xl_of s (Bool.and_eq_true_iff.mp e).1) XL.keeps (by rfl) (by rfl) (by rfl) (fun s e=>recFacts_of (Bool.and_eq_true_iff.mp e).2) (by rfl) (by first | assumption | decide +kernel) (by decide +kernel) ⟨rfl,rfl,rfl,rfl,rfl,by decide +kernel⟩ ?hw ?hc
 case hw=>w_witness2
 refine L2.walkLaw (l:=PySem.Challenge.rw_forsworn_k35_four_hundred_moments) rfl rfl (fun w h Y=>PySem.W.kIn_of (K:=Law.KK) Y) fun w mg fa h KX G hmg=>Law.all_mk KX G hmg
namespace Law
end Law
