import PyProof.Rows.All
import Wide.All
import OpenK.AllK
import Wide.FinOn
import Lean
import PyProof.EqAt
import PyProof.EqKinds
import PyProof.TupleCall
import KE.KSortTup
import PyProof.NeKinds
import KE.KLam
import KE.KNestM
import KE.KSortKey
import PyProof.ExcArgsOwn
import PyProof.ExcAttrAll.ValueError
import KE.KIsAll
import KE.KIntText
import PyProof.Rows.StrNews
import PyProof.Rows.StrSplitCount
import PyProof.Rows.SetFrom
import PyProof.Conv_int_bool
import PySem.Challenge.RW_forsworn_k56_folk_of_a_moot
set_option Elab.async false
set_option linter.all false
set_option maxRecDepth 100000
set_option maxHeartbeats 4000000
abbrev dU:=PySem.Value->PySem.Shared->Prop
abbrev dW:=PySem.Str->Option PySem.Value
abbrev dX:=List PySem.Str
abbrev dY:=List PySem.Value
abbrev dZ:=PySem.Str->PySem.Addr
abbrev eA:=List PySem.Addr
abbrev eB:=PySem.Shared
abbrev eE:=PySem.Value
abbrev eF:=PySem.Addr
abbrev eG:=PySem.Program
abbrev eI:=PySem.World
abbrev eJ:=PySem.Around
abbrev xA:=@List.length_map
abbrev xB:=@List.getElem?_eq_getElem
abbrev xC:=@List.mem_cons
abbrev xD:=@Nat.le_refl
abbrev xE:=@List.length_append
abbrev xF:=@List.mem_append_right
abbrev xG:=@PySem.Heap.get?_push_of_some
abbrev xH:=@List.getElem?_eq_some_iff
abbrev xI:=@List.getElem?_map
abbrev xJ:=@List.mem_of_getElem?
abbrev xK:=@Option.none_or
abbrev xL:=@List.mem_append
abbrev xM:=@Bool.false_ne_true
abbrev xN:=@List.mem_cons_of_mem
abbrev xO:=@List.map_append
abbrev xP:=@List.size_toArray
abbrev xQ:=@PySem.Heap.lt_size
abbrev xR:=@Option.map_eq_some_iff
abbrev xS:=@List.not_mem_nil
abbrev xT:=@List.mem_singleton
abbrev xU:=@List.length_take
abbrev xV:=@List.take_add_one
abbrev xW:=@PySem.Heap.get?_push_size
abbrev xX:=@Nat.le_trans
abbrev xY:=@List.mem_cons_self
abbrev xZ:=@List.getD_eq_getElem?_getD
abbrev yC:=@List.take_length
abbrev yD:=@List.append_nil
abbrev yE:=@List.length_cons
abbrev yF:=@List.cons_append
abbrev yG:=@Nat.ne_of_lt
abbrev yH:=@Nat.lt_of_lt_of_le
abbrev yI:=@List.map_cons
abbrev yJ:=@List.nodup_cons
abbrev yK:=@Int.eq_ofNat_of_zero_le
abbrev yL:=@Nat.zero_le
abbrev yM:=@Option.or_eq_none_iff
abbrev yN:=@decide_eq_true
abbrev yO:=@List.length_filter_le
abbrev yP:=@List.mem_append_left
abbrev yQ:=@List.replicate_succ
abbrev yR:=@Int.toNat_natCast
abbrev yS:=@Nat.lt_of_le_of_lt
abbrev yT:=@List.lookup_cons
abbrev yU:=@List.take_of_length_le
abbrev yV:=@List.append_assoc
abbrev yW:=@Bool.and_eq_true
abbrev yX:=@Option.bind_some
abbrev yY:=@List.mem_map
abbrev yZ:=@List.of_mem_zip
abbrev zA:=@List.getElem?_zip_eq_some
abbrev zB:=@List.take_append_drop
abbrev zC:=@Nat.le_of_lt
abbrev zD:=@decide_eq_false
abbrev zE:=@List.getElem_mem
abbrev zF:=@List.filter_append
abbrev zG:=@List.length_singleton
abbrev zH:=@Bool.eq_iff_iff
abbrev zI:=@List.nil_append
abbrev zJ:=@Nat.lt_irrefl
abbrev zK:=@List.all_eq_true
abbrev zL:=@List.drop_of_length_le
abbrev zM:=@List.find?_cons
abbrev zN:=@Array.getElem?_eq_some_iff
abbrev zO:=@List.flatten_cons
abbrev zP:=@Nat.le_succ_of_le
abbrev zQ:=@List.getElem?_append_left
abbrev zR:=@List.drop_eq_getElem_cons
abbrev zS:=@Bool.false_and
abbrev zT:=@PySem.Heap.size_push
abbrev zU:=@List.length_drop
abbrev zV:=@List.getElem?_range
abbrev zW:=@Option.map_some
abbrev zX:=@Bool.false_eq_true
abbrev zY:=@PySem.Heap.get?_update_other
abbrev zZ:=@List.foldl_append
abbrev wA:=@Array.getElem?_toList
abbrev uFg:=PySem.W.Frag
namespace L2
open PySem PySem.W
def topRunT(tb:String->Option Builtin)(p:eG)(w:eI)(m:Nat)(ann:Option eE):Nat->SharedT->Thread->Option SharedT
 | 0,_,_=>none
 | n+1,s,t=>match through t with
  | true=>some s
  | false=>match stepOk m ann t with
   | false=>none
   | true=>match stepT (denote tb) p w s t with
    | some x=>topRunT tb p w m ann n x.1 x.2
    | none=>none
theorem Dx{tb:String->Option Builtin}{p:eG}{w:eI}{m:Nat}{ann:Option eE}:∀{n:Nat}{s r:SharedT}{t:Thread},topRunT tb p w m ann n s t=some r->topRun tb p w m ann n s.abs t=some r.abs
 | 0,s,r,t,h=>by cases h
 | n+1,s,r,t,h=>by
  unfold topRunT at h;unfold topRun;cases a:through t with
  | true=>rw[a] at h;cases h;rfl
  | false =>
   rw[a] at h;cases b:stepOk m ann t with
   | false=>rw[b] at h;cases h
   | true =>
    rw[b] at h;cases c:stepT (denote tb) p w s t with
    | none=>rw[c] at h;cases h
    | some x=>obtain⟨s2,t2⟩:=x;rw[c] at h;dsimp only at h ⊢;rw[stepT_spec c];exact Dx h
def CW:List Obj->Nat->BT->BT
 | [],_,t=>t
 | o::r,i,t=>CW r (i+1) (t.ins i o)
noncomputable def s0T (P:Params) (os:OsState):SharedT:=⟨CW (boot_heap P).objs.toList 0 .nil,11,(boot_heap P).life,#[],boot_drawn,boot_toks,os⟩
noncomputable def seenT {α:Type}(p q:eG) (loose:dX) (Xt:eB->Bool) (Yf:eB->α) (P:Params) (s:eB) :=
 (staticsOk (importedModules p.main.body) (boot_heap P) s.heap && namesBound p s.heap && gensDone s && laidKept (boot_heap P) s.heap,openSeen q loose (importedModules p.main.body) Xt true s,Yf s)
theorem Gc(P:Params)(os:OsState):(s0T P os).abs=⟨boot_heap P,#[],boot_drawn,boot_toks,os⟩:=by kernel_rfl
theorem Iq(P:Params):((boot_heap P).isNs mainGlobals && (#[]:Array GenState).size == 0,(boot_heap P).objs.size,(boot_heap P).nsMap mainGlobals "__annotations__")=(true,11,some (.ref 6)):=by kernel_rfl
theorem dS{p q:eG}{loose:dX}{Xt:eB->Bool}{α:Type}{Yf:eB->α}{Ya:eI->α}{N:Nat}(e:opening p=plainProg p.main.scope.names)(hN:Nat.ble 600 N=true)(f:∀s,fenceModules? p s=some s)(run:∀ (w:eI) (os:OsState),(topRunT treeTable p w 11 (some (.ref 6)) N (s0T w.params os) (topStub p)).map (fun s=>seenT p q loose Xt Yf w.params s.abs)=some (true,openGood q loose,Ya w)):LeftO p q loose Xt Yf Ya N:=fun w=>by
 obtain⟨⟨h,gs,d,k,os⟩,e1,e2⟩:=xR.mp (boot_open e hN f w);obtain⟨rfl,rfl,rfl,rfl⟩:h=boot_heap w.params/\gs = #[]/\d=boot_drawn/\k=boot_toks:=by simpa using e2
 obtain⟨s,r1,r2⟩:=xR.mp (run w os);unfold seenT at r2;obtain⟨l1,l2,l3⟩:_/\_/\_:=by simpa only [Prod.mk.injEq] using r2
 have r:=Dx r1;rw[Gc] at r;obtain⟨z1,z2,z3⟩:_/\_/\_:=by simpa only [Prod.mk.injEq] using Iq w.params
 have t:topFrom treeTable p w N ⟨boot_heap w.params,#[],boot_drawn,boot_toks,os⟩=some s.abs:=by
  unfold topFrom;dsimp only;rw[z1,z2,z3,r];show (match staticsOk (importedModules p.main.body) (boot_heap w.params) s.abs.heap && namesBound p s.abs.heap && gensDone s.abs && laidKept (boot_heap w.params) s.abs.heap with | true=>some s.abs | false=>none)=_;rw[l1]
 unfold openEnds;rw[e1];show (topFrom treeTable p w N _).map _=_;rw[t];exact congrArg some (Prod.ext l2 l3)
def Zs(p:eG)(i:Nat):Stmt:=p.main.body.getD i (.Pass ⟨0,0,0,0⟩)
def hIn(s:Stmt)(j:Nat):Stmt:=match s with
 | .ClassDef _ _ _ b _ _ _ _ _ _ _=>b.getD j (.Pass ⟨0,0,0,0⟩)
 | _=>s
def IV(s:Stmt):Arguments:=match s with
 | .FunctionDef _ a _ _ _ _ _ _ _ _=>a
 | _=>⟨[],[],none,[],[],none,[]⟩
def IW(s:Stmt):List Stmt:=match s with
 | .FunctionDef _ _ b _ _ _ _ _ _ _=>b
 | _=>[]
def Lf(s:Stmt):Scope:=match s with
 | .FunctionDef _ _ _ _ _ _ c _ _ _=>c
 | _=>{kind:=.function,names:=[],isGenerator:=false,isCoroutine:=false }
def de(P:Params)(n:Str)(t:Tok)(v:eE):DictEntry:=⟨PyData.keyHash P n,.str n t,v⟩
def kFn(n q:Str)(st:Stmt)(pm:eE)(c:eF):Obj:=⟨.type "function", none,.func (PySem.W.fnOf n q (IV st) (IW st) (Lf st) .none .none .none pm none (.ref c) .none),#[]⟩
def kC(n q:Str)(t l a u:Nat)(r s v x y:eE):Obj:=⟨.type "code", none,.fields #[.str n t,.str q (t+1),.str "/claim/cut.py" (t+2),.int l 0,.int a 0,.int 0 0,.int 0 0,.int 3 0,r,.bool true,.int 181 0,s,.none,v,x,y,.int u 0,.int l 0,.str "/claim/cut.py" (u+1)],#[]⟩
def kg(c:Nat)(n q:Str)(t l a u:Nat)(st:Stmt)(pm:eE)(r:uFg):uFg:=(c,kC n q t l a u (.ref (c - 5)) (.ref (c - 4)) (.ref (c - 3)) (.ref (c - 2)) (.ref (c - 1)))::(c+1,kFn n q st pm c)::r
def kg0(c:Nat)(n q:Str)(t l a u:Nat)(st:Stmt)(pm:eE)(r:uFg):uFg:=(c,kC n q t l a u (.ref (c - 3)) (.ref (c - 2)) .none .none (.ref (c - 1)))::(c+1,kFn n q st pm c)::r
def kE(P:Params)(a:Nat)(n:Str)(l t:Nat)(r:uFg):uFg:=(a,⟨.type "dict", none,.dict #[de P "__module__" t (.str "forsworn.errors" 194),de P "__firstlineno__" (t+4) (.int l (t+3)),de P "called" (t+11) (.ref (a - 2)),de P "__static_attributes__" (t+12) (.ref (a - 1)),de P "__doc__" (t+13) .none] 2,#[]⟩)::(a+1,⟨.type "type", none,.cls {name:=n,bases:=[.ref 38],mro:=[.ref (a+1),.ref 38,.type "ValueError", .type "Exception", .type "BaseException", .type "object"],ns:=a,qualname:=n,hasDict:=true,slotNames:=[],subclasses:=[],abstract:=false,collection:=none,hasDel:=false },#[some (.ref (a - 15)),none,some (.str n (t - 7)),some (.str n (t+1)),some (.builtin "ValueError.__new__"),some (.bool true)]⟩)::r
def kpO(x:eF×Obj)(r:uFg):uFg:=x::r
def kf(c:Nat)(n:Str):=kg c n n
def kf0(c:Nat)(n:Str):=kg0 c n n
end L2
namespace PySem.W.Fast
noncomputable def tw14598715356260435866:PySem.Params->PySem.Obj:=PySem.W.boot_o_0
theorem te14598715356260435866:PySem.W.boot_o_0=tw14598715356260435866:=rfl
end PySem.W.Fast
lay_quick L2.topRunT L2.s0T L2.seenT
namespace L2
open PySem PySem.W PyProof.Rows
abbrev p0:Pos:=⟨0,0,0,0⟩
def Bv(p:eG):Env:={scope:=p.main.scope,locals:=mainNs,globals:=mainNs,cells:=[],code:=.ref 13,frame:=some 14 }
def cP(p:eG):Code:=.body (behindTheImports p) (Bv p)
def C8(tb:String->Option Builtin)(p:eG)(w:eI)(m:Nat)(ann:Option eE):Nat->SharedT->Thread->Option (SharedT×Thread)
 | 0,s,t=>some (s,t)
 | n+1,s,t=>match through t with
  | true=>none
  | false=>match stepOk m ann t with
   | false=>none
   | true=>match stepT (denote tb) p w s t with
    | some x=>C8 tb p w m ann n x.1 x.2
    | none=>none
theorem FP{tb:String->Option Builtin}{p:eG}{w:eI}{m:Nat}{ann:Option eE}:∀{n:Nat}{s r:SharedT}{t u:Thread},C8 tb p w m ann n s t=some (r,u)->topGo tb p w m ann n s.abs t=some (r.abs,u)
 | 0,s,r,t,u,h=>by cases h;rfl
 | n+1,s,r,t,u,h=>by
  unfold C8 at h;unfold topGo;cases a:through t with
  | true=>rw[a] at h;cases h
  | false =>
   rw[a] at h;cases b:stepOk m ann t with
   | false=>rw[b] at h;cases h
   | true =>
    rw[b] at h;cases c:stepT (denote tb) p w s t with
    | none=>rw[c] at h;cases h
    | some x=>obtain⟨s2,t2⟩:=x;rw[c] at h;dsimp only at h ⊢;rw[stepT_spec c];exact FP h
def preP(p:eG)(w:eI)(s:SharedT):Option (SharedT×Thread):=C8 treeTable p w 11 (some (.ref 6)) 12 s (topStub p)
def stubT(p:eG):Thread:=⟨denote treeTable (cP p),cP p,p0,[topFrame p0]⟩
def blkP(p:eG)(w:eI)(s:SharedT):Option (Flow×SharedT×Code×Pos):=segRunT treeTable p w 11 (some (.ref 6)) 1 1 s (blockOf (behindTheImports p) (Bv p) (cP p) p0 [topFrame p0])
def segP(p:eG)(w:eI)(n k j:Nat)(pos:Pos)(s:SharedT):Option (Flow×SharedT×Code×Pos):=segRunT treeTable p w 11 (some (.ref 6)) 1 n s (piecesOf (((behindTheImports p).drop k).take j) (Bv p) (cP p) pos [topFrame p0])
def topQ(p:eG)(w:eI)(n k:Nat)(pos:Pos)(s:SharedT):Option SharedT:=topRunT treeTable p w 11 (some (.ref 6)) n s (restOf ((behindTheImports p).drop k) (Bv p) (cP p) pos [topFrame p0])
def vI(n:Nat):eE:=.int n 0
def tuO(l:dY):Obj:=⟨.type "tuple", none,.seq l.toArray 0,#[]⟩
def fdO(c:eE)(l:dY):Obj:=⟨c,none,.fields l.toArray,#[]⟩
def diO(l:List DictEntry)(n:Nat):Obj:=⟨.type "dict", none,.dict l.toArray n,#[]⟩
def cut(t:Nat):eE:=.str "/claim/cut.py" t
def mdl:eE:=.str "forsworn.errors" 194
def cdO(n q:Str)(b l:Nat)(ar fl:Nat)(fn:Bool)(a:Nat)(r:dY):Obj:=fdO (.type "code") ([.str n b,.str q (b+1),cut (b+2),vI l,vI ar,vI 0,vI 0,vI fl,.ref a,.bool fn,vI 181,.ref (a+1)]++r ++ [vI (if fn then b+4 else b+3),vI l,cut (if fn then b+5 else b+4)])
def fn0(n q:Str)(st:Stmt):Obj:=⟨.none,none,.func {name:=n,qualname:=q,params:=IV st,body:=.stmts (IW st),scope:=Lf st,globals:=0,closure:=[],defaults:=.none,kwdefaults:=.none },#[]⟩
def Iy(P:Params)(a b l:Nat)(st:Stmt)(bs:eE)(dc:Nat)(more:List DictEntry)(cl:Obj)(n q:Str)(hd:List Obj)(tl:List Obj):List Obj :=
 let one:=[de P "__module__" (b+7) mdl]
 let two:=[de P "__firstlineno__" (b+11) (.int l (b+10)),de P "called" (b+18) (.ref (a+13)),de P "__static_attributes__" (b+19) (.ref (a+14))]
 hd ++ [tuO [bs],fdO (.type "builtin_function_or_method") [.builtin "type.__prepare__", .type "type"],diO (one ++ [de P "__qualname__" (b+9) (.str n (b+8))]++two) 5,tuO [],fdO .none [vI (l+2),vI 4,.ref (a+12)],
  cdO n n (b+2) l 0 0 false (a+3) [.none,.none,.none,.none],⟨.type "frame", none,.plain,#[some (.ref (a+5)),some (.ref 3),some (.ref (a+2)),none,some mdl,none,some (.ref 0)]⟩,
  tuO [],fdO .none [],tuO [.str "self" (b+15)],tuO [],fn0 "called" q st,cdO "called" q (b+12) (l+2) 1 3 true (a+7) [.none,.ref (a+9),.ref (a+10),.ref (a+11)],
  kFn "called" q st mdl (a+12),tuO [],diO (one++two++more) dc,cl]++tl ++ [fdO (.type "super") [.ref (a+16),.ref (a+16),.ref (a+16)],fdO (.type "builtin_function_or_method") [.builtin "object.__init_subclass__", .ref (a+16)]]
def tyO(a b:Nat)(n:Str)(bs:dY)(mro:dY)(sub:dY):Obj:=⟨.type "type", none,.cls {name:=n,bases:=bs,mro:=.ref (a+16)::mro,ns:=a+15,qualname:=n,hasDict:=true,slotNames:=[],subclasses:=sub,abstract:=false,collection:=none,hasDel:=false },
 #[some (.ref a),none,some (.str n b),some (.str n (b+8)),some (.builtin "ValueError.__new__"),some (.bool true)]⟩
def Io:List eE:=[.type "ValueError", .type "Exception", .type "BaseException", .type "object"]
def bH(P:Params)(p:eG)(j:Nat)(x:Str×Str):List Obj:=let a:=42+19 * j;let b:=221+23 * j;let l:=9+4 * j
 Iy P a b l (hIn (Zs p (3+j)) 0) (.ref 38) 2 [de P "__doc__" (b+20) .none] (tyO a b x.1 [.ref 38] (.ref 38::Io) []) x.1 x.2 [] []
def num{α:Type}:Nat->List α->List (Nat × α)
 | _,[]=>[]
 | i,x::r=>(i,x)::num (i+1) r
noncomputable def Ml (p:eG) (P:Params) (ns:List (Str×Str)):List Obj:=let w:=Zs p 0
  [boot_o_0 P,boot_o_1 P,boot_o_2 P,
   diO ([de P "__name__" 165 mdl,de P "__doc__" 166 .none,de P "__package__" 167 .none,de P "__loader__" 168 (.builtin "__main__.__loader__#opaque"),de P "__spec__" 169 .none,de P "__annotations__" 170 (.ref 6),de P "__builtins__" 171 (.ref 4),de P "__file__" 173 (cut 172),de P "__cached__" 174 .none,de P "_wall" 193 (.ref 21),de P "MootError" 220 (.ref 38)]++(num 0 ns).map fun x=>de P x.2.1 (243+23 * x.1) (.ref (58+19 * x.1))) (11+ns.length),
   boot_o_4 P,boot_o_5 P,boot_o_6 P,boot_o_7 P,boot_o_8 P,boot_o_9 P,boot_o_10 P,tuO [],fdO .none ([vI 1,vI 0,.ref 20,vI 5,vI 0,.ref 27]++((num 0 ns).map fun x=>[vI (9+4 * x.1),vI 0,.ref (47+19 * x.1)]).flatten),
   cdO "<module>" "<module>" 182 1 0 0 false 11 [.none,.none,.none,.none],⟨.type "frame", none,.plain,#[some (.ref 13),some (.ref 3),some (.ref 3),none,some (.str "__main__" 164),none,some (.ref 0)]⟩,
   tuO [],fdO .none [],tuO [.str "k" 190],tuO [],fn0 "_wall" "_wall" w,cdO "_wall" "_wall" 187 1 1 3 true 15 [.none,.ref 17,.ref 18,.ref 19],kFn "_wall" "_wall" w (.str "__main__" 164) 20] ++
  Iy P 22 196 5 (hIn (Zs p 2) 0) (.type "ValueError") 3 [de P "__weakref__" 217 (.ref 39),de P "__doc__" 218 .none] (tyO 22 196 "MootError" [.type "ValueError"] Io ((num 0 ns).map fun x=>.ref (58+19 * x.1))) "MootError" "MootError.called" [] [fdO (.type "getset_descriptor") [.str "__weakref__" 216,.ref 38,.builtin "ExceptionGroup.__weakref__", .none]] ++
  ((num 0 ns).map fun x=>bH P p x.1 x.2).flatten
noncomputable def errS (p:eG) (ns:List (Str×Str)) (P:Params) (os:OsState):SharedT:=⟨CW (Ml p P ns) 0 .nil,42+19 * ns.length,(boot_heap P).life,#[],boot_drawn,221+23 * ns.length,os⟩
noncomputable def stubS (P:Params) (os:OsState):SharedT:=⟨CW ((boot_heap P).objs.toList ++ [tuO [],fdO .none [],cdO "<module>" "<module>" 182 1 0 0 false 11 [.none,.none,.none,.none],⟨.type "frame", none,.plain,#[some (.ref 13),some (.ref 3),some (.ref 3),none,some (.str "__main__" 164),none,some (.ref 0)]⟩]) 0 .nil,15,(boot_heap P).life,#[],boot_drawn,187,os⟩
def VC(p:eG)(w:eI)(os:OsState)(M:Nat)(s:SharedT)(k:Nat)(pos:Pos):Prop:=∀(N:Nat)(r:eB),
 topRun treeTable p w 11 (some (.ref 6)) N s.abs (restOf ((behindTheImports p).drop k) (Bv p) (cP p) pos [topFrame p0])=some r->topRun treeTable p w 11 (some (.ref 6)) (M+N) (s0T w.params os).abs (topStub p)=some r
theorem VC.zero{p:eG}{w:eI}{os:OsState}(h:preP p w (s0T w.params os)=some (stubS w.params os,stubT p))(b:blkP p w (stubS w.params os)=some (.next,stubS w.params os,cP p,p0)):VC p w os 13 (stubS w.params os) 0 p0:=fun N r k=>by
 have k':=go_top (FP h) (piece_block (segRun_of b) k)
 rwa [← Nat.add_assoc] at k'
theorem VC.step{p:eG}{w:eI}{os:OsState}{M k:Nat}{s s':SharedT}{pos pos':Pos}(R:VC p w os M s k pos)(n j:Nat)(h:segP p w n k j pos s=some (.next,s',cP p,pos')):VC p w os (M+n) s' (k+j) pos':=fun N r x=>by
 rw[Nat.add_assoc];refine R _ r ?_;rw[← zB j ((behindTheImports p).drop k),List.drop_drop];exact piece_app (segRun_of h) x
section
variable(p q:eG)(loose:dX)(Xt:eB->Bool)
noncomputable def sn0 (P:Params) (s:SharedT):Bool:=staticsOk (importedModules p.main.body) (boot_heap P) s.abs.heap && namesBound p s.abs.heap && gensDone s.abs && laidKept (boot_heap P) s.abs.heap
def sn1(s:SharedT):=(seen ((recsOf q).map (·.name)) (ownsOf q) [] {s.abs with gens:=#[] },s.abs.heap.bltView)
def sn2(s:SharedT):Bool:=s.abs.heap.keysOk (looseW q loose) ((recsOf q).map (·.name)) ((litsOf q).map (·.1)) ((clssOf q (looseW q loose)).map (·.name)) && s.abs.heap.accountedOkI (importedModules p.main.body) && s.abs.heap.isNs mainGlobals && s.abs.heap.isNs builtinsNs && tablesOk q s.abs.heap && Xt s.abs && (if true then s.abs.gens.size == 0 else !leftWithCleanup s.abs.gens)
def sn3(s:SharedT):Bool:=tabsOk q s.abs
def sn4(s:SharedT):=pinSeenD q (drecsOf q) s.abs
def sn9(i:Nat)(s:SharedT):=(((plainsOf q (looseW q loose)).drop i).take 1).map fun c=>s.abs.heap.plainShapeAt c.withCmp
def snA(i:Nat)(s:SharedT):=((plainsOf q (looseW q loose)).drop i).map fun c=>s.abs.heap.plainShapeAt c.withCmp
def sn5(s:SharedT):=plainSeenD q loose s.abs
def sn8(s:SharedT):=wideSeen q s.abs
def sn6(s:SharedT):=clsSeenW q loose s.abs
end
def gd9(q:eG)(loose:dX)(i:Nat):=(((plainsOf q (looseW q loose)).drop i).take 1).map fun c=>some c.withCmp.plainShape
def gdA(q:eG)(loose:dX)(i:Nat):=((plainsOf q (looseW q loose)).drop i).map fun c=>some c.withCmp.plainShape
theorem IP{α β:Type}(f : α->β)(l:List α):l.map f=((l.drop 0).take 1).map f++(((l.drop 1).take 1).map f++(l.drop 2).map f):=by
 rcases l with _ | ⟨a,_ | ⟨b,l⟩⟩<;>rfl
theorem cA{p q:eG}{loose:dX}{Xt:eB->Bool}{α:Type}{Yf:eB->α}{Ya:eI->α}{M N k:Nat}{s:eI->OsState->SharedT}{pos:Pos}(e:opening p=plainProg p.main.scope.names)(hN:Nat.ble 600 (M+N)=true)(f:∀s,fenceModules? p s=some s)(R:∀ (w:eI) (os:OsState),VC p w os M (s w os) k pos)(r0:∀ (w:eI) (os:OsState),(topQ p w N k pos (s w os)).map (sn0 p w.params)=some true)(r1:∀ (w:eI) (os:OsState),(topQ p w N k pos (s w os)).map (sn1 q)=some (expectedOf q,bltViewBooted))(r2:∀ (w:eI) (os:OsState),(topQ p w N k pos (s w os)).map (sn2 p q loose Xt)=some true)(r3:∀ (w:eI) (os:OsState),(topQ p w N k pos (s w os)).map (sn3 q)=some true)(r4:∀ (w:eI) (os:OsState),(topQ p w N k pos (s w os)).map (sn4 q)=some (pinGoodD (drecsOf q)))(r9:∀ (w:eI) (os:OsState),(topQ p w N k pos (s w os)).map (sn9 q loose 0)=some (gd9 q loose 0))(rB:∀ (w:eI) (os:OsState),(topQ p w N k pos (s w os)).map (sn9 q loose 1)=some (gd9 q loose 1))(rA:∀ (w:eI) (os:OsState),(topQ p w N k pos (s w os)).map (snA q loose 2)=some (gdA q loose 2))(r5:∀ (w:eI) (os:OsState),(topQ p w N k pos (s w os)).map (sn5 q loose)=some (plainGoodD q loose))(r8:∀ (w:eI) (os:OsState),(topQ p w N k pos (s w os)).map (sn8 q)=some (wideGood q))(r6:∀ (w:eI) (os:OsState),(topQ p w N k pos (s w os)).map (sn6 q loose)=some (clsGoodW q loose))(r7:∀ (w:eI) (os:OsState),(topQ p w N k pos (s w os)).map (fun s=>Yf s.abs)=some (Ya w)):LeftO p q loose Xt Yf Ya (M+N):=fun w=>by
 obtain⟨⟨h,gs,d,k,os⟩,e1,e2⟩:=xR.mp (boot_open e hN f w);obtain⟨rfl,rfl,rfl,rfl⟩:h=boot_heap w.params/\gs = #[]/\d=boot_drawn/\k=boot_toks:=by simpa using e2
 obtain⟨s,x,y0⟩:=xR.mp (r0 w os);have y1:=r1 w os;have y2:=r2 w os;have y3:=r3 w os;have y4:=r4 w os;have y5:=r5 w os;have y9:=r9 w os;have yA:=rA w os;have yB:=rB w os;have y8:=r8 w os;have y6:=r6 w os;have y7:=r7 w os;rw[x,zW,Option.some_inj] at y1 y2 y3 y4 y5 y6 y7 y8 y9 yA yB;have r:=R w os N _ (Dx x);rw[Gc] at r;obtain⟨z1,z2,z3⟩:_/\_/\_:=by simpa only [Prod.mk.injEq] using Iq w.params
 have t:topFrom treeTable p w (M+N) ⟨boot_heap w.params,#[],boot_drawn,boot_toks,os⟩=some s.abs:=by
  unfold topFrom;dsimp only;rw[z1,z2,z3,r];show (match staticsOk (importedModules p.main.body) (boot_heap w.params) s.abs.heap && namesBound p s.abs.heap && gensDone s.abs && laidKept (boot_heap w.params) s.abs.heap with | true=>some s.abs | false=>none)=_;unfold sn0 at y0;rw[y0]
 unfold openEnds;rw[e1];show (topFrom treeTable p w (M+N) _).map _=_;rw[t];refine congrArg some (Prod.ext ?_ y7);have a1:=congrArg Prod.fst y1;have b1:=congrArg Prod.snd y1;exact Prod.ext a1 (Prod.ext b1 (Prod.ext y2 (Prod.ext y3 (Prod.ext y4 (Prod.ext ((IP _ _).trans ((congr (congrArg _ y9) (congr (congrArg _ yB) yA)).trans (IP _ _).symm)) (Prod.ext y5 (Prod.ext y8 y6)))))))
end L2
lay_quick L2.preP L2.blkP L2.segP L2.topQ L2.errS L2.stubS L2.stubT L2.sn0 L2.sn1 L2.sn2 L2.sn3 L2.sn4 L2.sn5 L2.sn6 L2.sn8 L2.sn9 L2.snA L2.gd9 L2.gdA
namespace Law
open PySem L2
def pm0:eE:=(.str "forsworn.deeds" 589)
def pm1:eE:=(.str "forsworn.measures" 600)
def pm2:eE:=(.str "forsworn.oaths" 638)
def pm3:eE:=(.str "forsworn.folk" 654)
def pm4:eE:=(.str "forsworn.stands" 863)
def pm5:eE:=(.str "forsworn.moot" 949)
def pm6:eE:=(.str "law_forsworn_k56_folk_of_a_moot" 1382)
def Kp(p:eG)(P:Params):uFg :=
 kpO (3,⟨(.type "dict"),none,(.dict #[de P "__name__" 165 (.str "law_forsworn_k56_folk_of_a_moot" 1382),de P "__doc__" 166 .none,de P "__package__" 167 .none,de P "__loader__" 168 (.builtin "__main__.__loader__#opaque"),de P "__spec__" 169 .none,de P "__annotations__" 170 (.ref 6),de P "__builtins__" 171 (.ref 4),de P "__file__" 173 (.str "/claim/cut.py" 172),de P "__cached__" 174 .none,de P "_wall" 193 (.ref 21),de P "MootError" 220 (.ref 38),de P "NoName" 243 (.ref 58),de P "NoMeasure" 266 (.ref 77),de P "Unknown" 289 (.ref 96),de P "Taken" 312 (.ref 115),de P "NoThing" 335 (.ref 134),de P "NoCase" 358 (.ref 153),de P "NoOath" 381 (.ref 172),de P "NotYet" 404 (.ref 191),de P "Dead" 427 (.ref 210),de P "NoHeir" 450 (.ref 229),de P "TooMany" 473 (.ref 248),de P "SwornTwice" 496 (.ref 267),de P "Forsworn" 519 (.ref 286),de P "TooLight" 542 (.ref 305),de P "Broken" 565 (.ref 324),de P "NoDeed" 588 (.ref 343),de P "done" 599 (.ref 352),de P "LAST_DAY" 603 (.int (9999) 602),de P "MOST_WEIGHT" 605 (.int (1000) 604),de P "MOST_NEED" 607 (.int (12000) 606),de P "MOST_MONEY" 609 (.int (1000000) 608),de P "check_day" 616 (.ref 359),de P "check_weight" 623 (.ref 366),de P "check_need" 630 (.ref 373),de P "check_money" 637 (.ref 380),de P "LONGEST_NAME" 641 (.int (12) 640),de P "is_name" 647 (.ref 385),de P "total" 653 (.ref 390),de P "MOST_FOLK" 657 (.int (40) 656),de P "Folk" 862 (.ref 545),de P "ONES" 866 (.int (0) 865),de P "OTHERS" 868 (.int (1) 867),de P "NEED" 870 (.int (2) 869),de P "NAMED" 872 (.int (3) 871),de P "settled" 879 (.ref 556),de P "settled_with" 891 (.ref 563),de P "breakers" 900 (.ref 570),de P "breakers_stands" 901 (.ref 570),de P "breaking" 907 (.ref 575),de P "naming" 918 (.ref 582),de P "check_case" 926 (.ref 589),de P "check_oath" 932 (.ref 594),de P "margin_without" 942 (.ref 601),de P "kept_weight" 948 (.ref 606),de P "MOST_THINGS" 952 (.int (40) 951),de P "MOST_CASES" 954 (.int (60) 953),de P "MOST_SWEARERS" 956 (.int (12) 955),de P "MOST_MOMENTS" 958 (.int (400) 957),de P "Moot" 1381 (.ref 920),de P "_law_src" 1390 (.ref 931),de P "_law_next" 1400 (.ref 938),de P "_law_whole" 1407 (.ref 945),de P "_law_same" 1417 (.ref 952),de P "_law_unlike" 1428 (.ref 959),de P "_law_word" 1434 (.ref 964),de P "_law_names" 1448 (.ref 971),de P "_law_came" 1457 (.ref 978),de P "_law_death" 1466 (.ref 985),de P "_law_is_dead" 1476 (.ref 992),de P "_law_weighs" 1488 (.ref 999),de P "_law_heir" 1498 (.ref 1006),de P "_law_pick" 1510 (.ref 1013),de P "_law_hand" 1516 (.ref 1018),de P "_law_try" 1522 (.ref 1023),de P "_law_is_case" 1529 (.ref 1030),de P "_law_keep" 1535 (.ref 1035),de P "_law_start" 1549 (.ref 1042),de P "_law_one" 1557 (.ref 1049),de P "_law_sides" 1563 (.ref 1054),de P "_law_accused" 1569 (.ref 1059),de P "_law_case_deed" 1575 (.ref 1064),de P "_law_deed" 1581 (.ref 1069),de P "_law_right" 1593 (.ref 1076),de P "law" 1608 (.ref 1083)] 85),#[]⟩)<|
 kpO (37,⟨(.type "dict"),none,(.dict #[de P "__module__" 203 (.str "forsworn.errors" 194),de P "__firstlineno__" 207 (.int (5) 206),de P "called" 214 (.ref 35),de P "__static_attributes__" 215 (.ref 36),de P "__weakref__" 217 (.ref 39),de P "__doc__" 218 .none] 3),#[]⟩)<|
 kpO (38,⟨(.type "type"),none,(.cls {name:="MootError", bases:=[(.type "ValueError")],mro:=[(.ref 38),(.type "ValueError"),(.type "Exception"),(.type "BaseException"),(.type "object")],ns:=37,qualname:="MootError", hasDict:=true,slotNames:=[],subclasses:=[(.ref 58),(.ref 77),(.ref 96),(.ref 115),(.ref 134),(.ref 153),(.ref 172),(.ref 191),(.ref 210),(.ref 229),(.ref 248),(.ref 267),(.ref 286),(.ref 305),(.ref 324),(.ref 343)],abstract:=false,collection:=none,hasDel:=false }),#[some (.ref 22),none,some (.str "MootError" 196),some (.str "MootError" 204),some (.builtin "ValueError.__new__"),some (.bool true)]⟩)<|
 kE P 57 "NoName" 9 228<|
 kE P 76 "NoMeasure" 13 251<|
 kE P 95 "Unknown" 17 274<|
 kE P 114 "Taken" 21 297<|
 kE P 133 "NoThing" 25 320<|
 kE P 152 "NoCase" 29 343<|
 kE P 171 "NoOath" 33 366<|
 kE P 190 "NotYet" 37 389<|
 kE P 209 "Dead" 41 412<|
 kE P 228 "NoHeir" 45 435<|
 kE P 247 "TooMany" 49 458<|
 kE P 266 "SwornTwice" 53 481<|
 kE P 285 "Forsworn" 57 504<|
 kE P 304 "TooLight" 61 527<|
 kE P 323 "Broken" 65 550<|
 kE P 342 "NoDeed" 69 573<|
 kf 351 "done" 591 74 2 597 (Zs p 20) pm0<|
 kf 358 "check_day" 610 102 1 614 (Zs p 26) pm1<|
 kf 365 "check_weight" 617 105 1 621 (Zs p 27) pm1<|
 kf 372 "check_need" 624 108 1 628 (Zs p 28) pm1<|
 kf 379 "check_money" 631 111 1 635 (Zs p 29) pm1<|
 kf0 384 "is_name" 642 116 1 645 (Zs p 32) pm2<|
 kf0 389 "total" 648 118 1 651 (Zs p 33) pm2<|
 kg 403 "__init__" "Folk.__init__" 670 124 1 674 (hIn (Zs p 36) 0) pm3<|
 kg 410 "come" "Folk.come" 677 130 4 684 (hIn (Zs p 36) 1) pm3<|
 kg 417 "rise" "Folk.rise" 687 135 4 694 (hIn (Zs p 36) 2) pm3<|
 kg 424 "die" "Folk.die" 697 139 4 704 (hIn (Zs p 36) 3) pm3<|
 kg 431 "names" "Folk.names" 707 144 1 711 (hIn (Zs p 36) 4) pm3<|
 kg0 443 "weight" "Folk.weight" 722 150 3 725 (hIn (Zs p 36) 6) pm3<|
 kg 450 "dead" "Folk.dead" 728 157 3 734 (hIn (Zs p 36) 7) pm3<|
 kg 457 "stands_for" "Folk.stands_for" 737 162 3 743 (hIn (Zs p 36) 8) pm3<|
 kg 471 "stand_in" "Folk.stand_in" 753 170 3 759 (hIn (Zs p 36) 10) pm3<|
 kg 478 "died_by" "Folk.died_by" 762 175 3 768 (hIn (Zs p 36) 11) pm3<|
 kg 499 "check_coming" "Folk.check_coming" 787 184 4 794 (hIn (Zs p 36) 14) pm3<|
 kg 506 "check_rise" "Folk.check_rise" 797 194 4 804 (hIn (Zs p 36) 15) pm3<|
 kg 513 "check_death" "Folk.check_death" 807 201 4 814 (hIn (Zs p 36) 16) pm3<|
 kg 520 "check_known" "Folk.check_known" 817 211 2 822 (hIn (Zs p 36) 17) pm3<|
 kg 527 "check_there" "Folk.check_there" 825 215 3 831 (hIn (Zs p 36) 18) pm3<|
 kg 534 "check_living" "Folk.check_living" 834 219 3 840 (hIn (Zs p 36) 19) pm3<|
 kg 541 "check_untold" "Folk.check_untold" 843 223 2 848 (hIn (Zs p 36) 20) pm3<|
 kpO (544,⟨(.type "dict"),none,(.dict #[de P "__module__" 665 (.str "forsworn.folk" 654),de P "__firstlineno__" 669 (.int (122) 668),de P "__init__" 676 (.ref 404),de P "come" 686 (.ref 411),de P "rise" 696 (.ref 418),de P "die" 706 (.ref 425),de P "names" 713 (.ref 432),de P "came" 721 (.ref 439),de P "weight" 727 (.ref 444),de P "dead" 736 (.ref 451),de P "stands_for" 745 (.ref 458),de P "twin" 752 (.ref 465),de P "stand_in" 761 (.ref 472),de P "died_by" 770 (.ref 479),de P "death_day" 778 (.ref 486),de P "heir_of" 786 (.ref 493),de P "check_coming" 796 (.ref 500),de P "check_rise" 806 (.ref 507),de P "check_death" 816 (.ref 514),de P "check_known" 824 (.ref 521),de P "check_there" 833 (.ref 528),de P "check_living" 842 (.ref 535),de P "check_untold" 850 (.ref 542),de P "__static_attributes__" 855 (.ref 543),de P "__dict__" 857 (.ref 546),de P "__weakref__" 859 (.ref 547),de P "__doc__" 860 .none] 4),#[]⟩)<|
 kpO (545,⟨(.type "type"),none,(.cls {name:="Folk", bases:=[(.type "object")],mro:=[(.ref 545),(.type "object")],ns:=544,qualname:="Folk", hasDict:=true,slotNames:=[],subclasses:=[],abstract:=false,collection:=none,hasDel:=false }),#[none,none,some (.str "Folk" 658),some (.str "Folk" 666),some (.builtin "object.__new__"),some (.bool true)]⟩)<|
 kf 555 "settled" 873 231 1 877 (Zs p 42) pm4<|
 kf 562 "settled_with" 880 233 2 889 (Zs p 43) pm4<|
 kf 569 "breakers" 892 243 3 898 (Zs p 44) pm4<|
 kf0 574 "breaking" 902 247 1 905 (Zs p 46) pm4<|
 kf 581 "naming" 908 249 2 916 (Zs p 47) pm4<|
 kf 588 "check_case" 919 256 2 924 (Zs p 48) pm4<|
 kf0 593 "check_oath" 927 259 3 930 (Zs p 49) pm4<|
 kf 600 "margin_without" 933 263 3 940 (Zs p 50) pm4<|
 kf0 605 "kept_weight" 943 266 3 946 (Zs p 51) pm4<|
 kg 619 "__init__" "Moot.__init__" 971 275 1 975 (hIn (Zs p 57) 0) pm5<|
 kg 626 "come" "Moot.come" 978 286 4 985 (hIn (Zs p 57) 1) pm5<|
 kg 633 "rise" "Moot.rise" 988 292 4 995 (hIn (Zs p 57) 2) pm5<|
 kg 640 "die" "Moot.die" 998 298 4 1005 (hIn (Zs p 57) 3) pm5<|
 kg 647 "penance" "Moot.penance" 1008 304 2 1013 (hIn (Zs p 57) 4) pm5<|
 kg 654 "bring" "Moot.bring" 1016 311 3 1022 (hIn (Zs p 57) 5) pm5<|
 kg 661 "give" "Moot.give" 1025 322 5 1033 (hIn (Zs p 57) 6) pm5<|
 kg 668 "pay" "Moot.pay" 1036 329 5 1044 (hIn (Zs p 57) 7) pm5<|
 kg 675 "claim" "Moot.claim" 1047 337 7 1058 (hIn (Zs p 57) 8) pm5<|
 kg 682 "wergild" "Moot.wergild" 1061 347 8 1073 (hIn (Zs p 57) 9) pm5<|
 kg 689 "accuse" "Moot.accuse" 1076 358 7 1086 (hIn (Zs p 57) 10) pm5<|
 kg 710 "names" "Moot.names" 1103 374 1 1107 (hIn (Zs p 57) 13) pm5<|
 kg 717 "weight" "Moot.weight" 1110 377 3 1116 (hIn (Zs p 57) 14) pm5<|
 kg 724 "dead" "Moot.dead" 1119 380 3 1125 (hIn (Zs p 57) 15) pm5<|
 kg 731 "stands_for" "Moot.stands_for" 1128 383 3 1134 (hIn (Zs p 57) 16) pm5<|
 kg 876 "forsworn_names" "Moot.forsworn_names" 1296 448 1 1304 (hIn (Zs p 57) 37) pm5<|
 kg0 881 "weighed" "Moot.weighed" 1307 456 3 1310 (hIn (Zs p 57) 38) pm5<|
 kg 888 "try_case" "Moot.try_case" 1313 459 6 1322 (hIn (Zs p 57) 39) pm5<|
 kg 895 "check_named" "Moot.check_named" 1325 465 5 1334 (hIn (Zs p 57) 40) pm5<|
 kg 902 "check_thing" "Moot.check_thing" 1337 481 2 1342 (hIn (Zs p 57) 41) pm5<|
 kg 909 "check_sides" "Moot.check_sides" 1345 485 5 1355 (hIn (Zs p 57) 42) pm5<|
 kg 916 "check_moments" "Moot.check_moments" 1358 500 1 1362 (hIn (Zs p 57) 43) pm5<|
 kpO (919,⟨(.type "dict"),none,(.dict #[de P "__module__" 966 (.str "forsworn.moot" 949),de P "__firstlineno__" 970 (.int (273) 969),de P "__init__" 977 (.ref 620),de P "come" 987 (.ref 627),de P "rise" 997 (.ref 634),de P "die" 1007 (.ref 641),de P "penance" 1015 (.ref 648),de P "bring" 1024 (.ref 655),de P "give" 1035 (.ref 662),de P "pay" 1046 (.ref 669),de P "claim" 1060 (.ref 676),de P "wergild" 1075 (.ref 683),de P "accuse" 1088 (.ref 690),de P "now" 1095 (.ref 697),de P "roll" 1102 (.ref 704),de P "names" 1109 (.ref 711),de P "weight" 1118 (.ref 718),de P "dead" 1127 (.ref 725),de P "stands_for" 1136 (.ref 732),de P "things" 1143 (.ref 739),de P "cases" 1150 (.ref 746),de P "suits" 1156 (.ref 751),de P "standing" 1163 (.ref 758),de P "stands" 1171 (.ref 765),de P "margin" 1179 (.ref 772),de P "breakers" 1188 (.ref 779),de P "chain" 1196 (.ref 786),de P "bearing" 1204 (.ref 793),de P "paper" 1212 (.ref 800),de P "fewest" 1220 (.ref 807),de P "forsworn" 1228 (.ref 814),de P "holder" 1237 (.ref 821),de P "road" 1246 (.ref 828),de P "holds" 1255 (.ref 835),de P "owed" 1263 (.ref 842),de P "balance" 1272 (.ref 849),de P "twin" 1279 (.ref 856),de P "then" 1287 (.ref 863),de P "counting" 1295 (.ref 870),de P "forsworn_names" 1306 (.ref 877),de P "weighed" 1312 (.ref 882),de P "try_case" 1324 (.ref 889),de P "check_named" 1336 (.ref 896),de P "check_thing" 1344 (.ref 903),de P "check_sides" 1357 (.ref 910),de P "check_moments" 1364 (.ref 917),de P "__static_attributes__" 1374 (.ref 918),de P "__dict__" 1376 (.ref 921),de P "__weakref__" 1378 (.ref 922),de P "__doc__" 1379 .none] 4),#[]⟩)<|
 kpO (920,⟨(.type "type"),none,(.cls {name:="Moot", bases:=[(.type "object")],mro:=[(.ref 920),(.type "object")],ns:=919,qualname:="Moot", hasDict:=true,slotNames:=[],subclasses:=[],abstract:=false,collection:=none,hasDel:=false }),#[none,none,some (.str "Moot" 959),some (.str "Moot" 967),some (.builtin "object.__new__"),some (.bool true)]⟩)<|
 kf 930 "_law_src" 1384 504 1 1388 (Zs p 59) pm6<|
 kf 937 "_law_next" 1391 506 2 1398 (Zs p 60) pm6<|
 kf 944 "_law_whole" 1401 521 1 1405 (Zs p 61) pm6<|
 kf 951 "_law_same" 1408 523 2 1415 (Zs p 62) pm6<|
 kf 958 "_law_unlike" 1418 540 2 1426 (Zs p 63) pm6<|
 kf0 963 "_law_word" 1429 548 2 1432 (Zs p 64) pm6<|
 kf 970 "_law_names" 1435 551 2 1446 (Zs p 65) pm6<|
 kf 977 "_law_came" 1449 564 2 1455 (Zs p 66) pm6<|
 kf 984 "_law_death" 1458 569 2 1464 (Zs p 67) pm6<|
 kf 991 "_law_is_dead" 1467 574 3 1474 (Zs p 68) pm6<|
 kf 998 "_law_weighs" 1477 577 3 1486 (Zs p 69) pm6<|
 kf 1005 "_law_heir" 1489 585 3 1496 (Zs p 70) pm6<|
 kf 1012 "_law_pick" 1499 591 3 1508 (Zs p 71) pm6<|
 kf0 1017 "_law_hand" 1511 597 1 1514 (Zs p 72) pm6<|
 kf0 1022 "_law_try" 1517 599 2 1520 (Zs p 73) pm6<|
 kf 1029 "_law_is_case" 1523 609 1 1527 (Zs p 74) pm6<|
 kf0 1034 "_law_keep" 1530 611 2 1533 (Zs p 75) pm6<|
 kf 1041 "_law_start" 1536 622 4 1547 (Zs p 76) pm6<|
 kf 1048 "_law_one" 1550 631 2 1555 (Zs p 77) pm6<|
 kf0 1053 "_law_sides" 1558 633 4 1561 (Zs p 78) pm6<|
 kf0 1058 "_law_accused" 1564 644 2 1567 (Zs p 79) pm6<|
 kf0 1063 "_law_case_deed" 1570 651 4 1573 (Zs p 80) pm6<|
 kf0 1068 "_law_deed" 1576 662 3 1579 (Zs p 81) pm6<|
 kf 1075 "_law_right" 1582 679 4 1591 (Zs p 82) pm6<|
 kf 1082 "law" 1594 690 1 1606 (Zs p 83) pm6<|[]
def KK(P:Params):uFg:=Kp PySem.Challenge.pw_forsworn_k56_folk_of_a_moot P
def askd:List eF:=[3,37,38,57,58,76,77,95,96,114,115,133,134,152,153,171,172,190,191,209,210,228,229,247,248,266,267,285,286,304,305,323,324,342,343,351,352,358,359,365,366,372,373,379,380,384,385,389,390,403,404,410,411,417,418,424,425,431,432,443,444,450,451,457,458,471,472,478,479,499,500,506,507,513,514,520,521,527,528,534,535,541,542,544,545,555,556,562,563,569,570,574,575,581,582,588,589,593,594,600,601,605,606,619,620,626,627,633,634,640,641,647,648,654,655,661,662,668,669,675,676,682,683,689,690,710,711,717,718,724,725,731,732,876,877,881,882,888,889,895,896,902,903,909,910,916,917,919,920,930,931,937,938,944,945,951,952,958,959,963,964,970,971,977,978,984,985,991,992,998,999,1005,1006,1012,1013,1017,1018,1022,1023,1029,1030,1034,1035,1041,1042,1048,1049,1053,1054,1058,1059,1063,1064,1068,1069,1075,1076,1082,1083]
def HK:PySem.W.Hook:=PySem.W.kHook KK askd fun _=>by kernel_rfl
def q:eG:=PySem.W.view PySem.Challenge.pw_forsworn_k56_folk_of_a_moot [0,2,3,4,5,6,7,8,9,10,11,12,13,14,15,16,17,18,20,22,23,24,25,26,27,28,29,31,32,33,35,36,38,39,40,41,42,43,44,45,46,47,48,49,50,51,53,54,55,56,57,59,60,61,62,63,64,65,66,67,68,69,70,71,72,73,74,75,76,77,78,79,80,81,82,83]
def ens:List (Str×Str):=[("NoName","NoName.called"),("NoMeasure","NoMeasure.called"),("Unknown","Unknown.called"),("Taken","Taken.called"),("NoThing","NoThing.called"),("NoCase","NoCase.called"),("NoOath","NoOath.called"),("NotYet","NotYet.called"),("Dead","Dead.called"),("NoHeir","NoHeir.called"),("TooMany","TooMany.called"),("SwornTwice","SwornTwice.called"),("Forsworn","Forsworn.called"),("TooLight","TooLight.called"),("Broken","Broken.called"),("NoDeed","NoDeed.called")]
end Law
namespace PySem.W.Fast
noncomputable def tw10977743614529394996:PySem.Program:=PySem.Challenge.pw_forsworn_k56_folk_of_a_moot
theorem te10977743614529394996:PySem.Challenge.pw_forsworn_k56_folk_of_a_moot=tw10977743614529394996:=rfl
end PySem.W.Fast
lay_quick PySem.Challenge.rw_forsworn_k56_folk_of_a_moot Law.q Law.ens
namespace Law
open PySem L2 PySem.W.Fast
set_option maxRecDepth 1000000
noncomputable abbrev zqP:=(tw2368527892694137696 tw15792128597405937209).prog
theorem Sm(w:eI)(os:PySem.OsState):tw14574945829899846032 zqP w (tw15095419895629540892 w.params os)=some (tw17173385231801463501 w.params os,tw17649063868247884333 zqP):=by
 kernel_rfl
theorem Mf(w:eI)(os:PySem.OsState):tw897522592586576512 zqP w (tw17173385231801463501 w.params os)=some (.next,tw17173385231801463501 w.params os,cP zqP,p0):=by
 kernel_rfl
theorem OQ(w:eI)(os:PySem.OsState):tw3364177927453363911 zqP w 1713 0 9 p0 (tw17173385231801463501 w.params os)=some (.next,(tw15053072615319938550 zqP (tw2665081048563830263.take 6) w.params os),cP zqP,⟨29,0,32,23⟩):=by
 kernel_rfl
theorem XJ(w:eI)(os:PySem.OsState):tw3364177927453363911 zqP w 1459 9 6 ⟨29,0,32,23⟩ (tw15053072615319938550 zqP (tw2665081048563830263.take 6) w.params os)=some (.next,(tw15053072615319938550 zqP (tw2665081048563830263.take 12) w.params os),cP zqP,⟨53,0,56,27⟩):=by
 kernel_rfl
theorem NN(w:eI)(os:PySem.OsState):tw3364177927453363911 zqP w 973 15 4 ⟨53,0,56,27⟩ (tw15053072615319938550 zqP (tw2665081048563830263.take 12) w.params os)=some (.next,(tw15053072615319938550 zqP (tw2665081048563830263.take 16) w.params os),cP zqP,⟨69,0,72,23⟩):=by
 kernel_rfl
theorem Rm(w:eI)(os:PySem.OsState):Option.map (tw5166864615210023351 zqP w.params) (tw9491608239551792999 zqP w 8082 19 ⟨69,0,72,23⟩ (tw15053072615319938550 zqP (tw2665081048563830263.take 16) w.params os))=some true:=by
 kernel_rfl
theorem Pp(w:eI)(os:PySem.OsState):Option.map (tw9146811602139678113 tw2797900513057943271) (tw9491608239551792999 zqP w 8082 19 ⟨69,0,72,23⟩ (tw15053072615319938550 zqP (tw2665081048563830263.take 16) w.params os))=some (PyProof.Rows.expectedOf tw2797900513057943271,bltViewBooted):=by
 kernel_rfl
theorem LP(w:eI)(os:PySem.OsState):Option.map (tw4330636226384752446 zqP tw2797900513057943271 ["breakers_stands"] (fun s=>PySem.W.xlAt tw2797900513057943271 [] s && PySem.W.recOk (tw2368527892694137696 tw15792128597405937209).records s)) (tw9491608239551792999 zqP w 8082 19 ⟨69,0,72,23⟩ (tw15053072615319938550 zqP (tw2665081048563830263.take 16) w.params os))=some true:=by
 kernel_rfl
theorem Pg(w:eI)(os:PySem.OsState):Option.map (tw290884773970851577 tw2797900513057943271) (tw9491608239551792999 zqP w 8082 19 ⟨69,0,72,23⟩ (tw15053072615319938550 zqP (tw2665081048563830263.take 16) w.params os))=some true:=by
 kernel_rfl
theorem Lv(w:eI)(os:PySem.OsState):Option.map (tw9020109020722589832 tw2797900513057943271) (tw9491608239551792999 zqP w 8082 19 ⟨69,0,72,23⟩ (tw15053072615319938550 zqP (tw2665081048563830263.take 16) w.params os))=some (pinGoodD (PyProof.Rows.drecsOf tw2797900513057943271)):=by
 kernel_rfl
theorem Nc(w:eI)(os:PySem.OsState):Option.map (tw1658975667393823239 tw2797900513057943271 ["breakers_stands"] 0) (tw9491608239551792999 zqP w 8082 19 ⟨69,0,72,23⟩ (tw15053072615319938550 zqP (tw2665081048563830263.take 16) w.params os))=some (tw10258256380655884400 tw2797900513057943271 ["breakers_stands"] 0):=by
 kernel_rfl
theorem RQ(w:eI)(os:PySem.OsState):Option.map (tw1658975667393823239 tw2797900513057943271 ["breakers_stands"] 1) (tw9491608239551792999 zqP w 8082 19 ⟨69,0,72,23⟩ (tw15053072615319938550 zqP (tw2665081048563830263.take 16) w.params os))=some (tw10258256380655884400 tw2797900513057943271 ["breakers_stands"] 1):=by
 kernel_rfl
theorem cX(w:eI)(os:PySem.OsState):Option.map (tw1671388014868620310 tw2797900513057943271 ["breakers_stands"] 2) (tw9491608239551792999 zqP w 8082 19 ⟨69,0,72,23⟩ (tw15053072615319938550 zqP (tw2665081048563830263.take 16) w.params os))=some (tw2047387775680494199 tw2797900513057943271 ["breakers_stands"] 2):=by
 kernel_rfl
theorem Re(w:eI)(os:PySem.OsState):Option.map (tw11153056314078912757 tw2797900513057943271 ["breakers_stands"]) (tw9491608239551792999 zqP w 8082 19 ⟨69,0,72,23⟩ (tw15053072615319938550 zqP (tw2665081048563830263.take 16) w.params os))=some (PyProof.Rows.plainGoodD tw2797900513057943271 ["breakers_stands"]):=by
 kernel_rfl
theorem QF(w:eI)(os:PySem.OsState):Option.map (tw1743938642414776662 tw2797900513057943271) (tw9491608239551792999 zqP w 8082 19 ⟨69,0,72,23⟩ (tw15053072615319938550 zqP (tw2665081048563830263.take 16) w.params os))=some (PySem.W.wideGood tw2797900513057943271):=by
 kernel_rfl
theorem O4(w:eI)(os:PySem.OsState):Option.map (tw15055011524645977279 tw2797900513057943271 ["breakers_stands"]) (tw9491608239551792999 zqP w 8082 19 ⟨69,0,72,23⟩ (tw15053072615319938550 zqP (tw2665081048563830263.take 16) w.params os))=some (PySem.W.clsGoodW tw2797900513057943271 ["breakers_stands"]):=by
 kernel_rfl
theorem MY(w:eI)(os:PySem.OsState):Option.map (fun s=>askd.map s.abs.heap.get?) (tw9491608239551792999 zqP w 8082 19 ⟨69,0,72,23⟩ (tw15053072615319938550 zqP (tw2665081048563830263.take 16) w.params os))=some ((Kp tw10977743614529394996 w.params).map fun p=>some p.2):=by
 kernel_rfl
local macro_rules | `(tactic| walk_at "q")=>`(tactic| (intro h;simp only[← te14574945829899846032,← te897522592586576512,← te3364177927453363911,← te9491608239551792999,← te15053072615319938550,← te17173385231801463501,← te17649063868247884333,← te2665081048563830263,← te5166864615210023351,← te9146811602139678113,← te4330636226384752446,← te290884773970851577,← te9020109020722589832,← te11153056314078912757,← te15055011524645977279,← te1743938642414776662,← te1658975667393823239,← te1671388014868620310,← te10258256380655884400,← te2047387775680494199,← te15095419895629540892,← te2797900513057943271,← te2368527892694137696,← te15792128597405937209,← te14364793385576792824,← te10977743614529394996] at h;exact h))
theorem left:PySem.W.LeftO PySem.Challenge.rw_forsworn_k56_folk_of_a_moot.row.prog q ["breakers_stands"] (fun s=>PySem.W.xlAt q [] s && PySem.W.recOk (PySem.W.RowW.records PySem.Challenge.rw_forsworn_k56_folk_of_a_moot.row.toRowW) s) HK.obs HK.val 12240:=by
 refine cA (M:=4158) (N:=8082) (k:=19) (pos:=⟨69,0,72,23⟩) (s:=fun w os=>errS PySem.Challenge.rw_forsworn_k56_folk_of_a_moot.row.prog (ens.take 16) w.params os) (by kernel_rfl) (by decide) (fun s=>by kernel_rfl) (fun w os=>?_)
  (fun w os=>(by have h:=Rm w os;revert h;walk_at "q"))
  (fun w os=>(by have h:=Pp w os;revert h;walk_at "q"))
  (fun w os=>(by have h:=LP w os;revert h;walk_at "q"))
  (fun w os=>(by have h:=Pg w os;revert h;walk_at "q"))
  (fun w os=>(by have h:=Lv w os;revert h;walk_at "q"))
  (fun w os=>(by have h:=Nc w os;revert h;walk_at "q"))
  (fun w os=>(by have h:=RQ w os;revert h;walk_at "q"))
  (fun w os=>(by have h:=cX w os;revert h;walk_at "q"))
  (fun w os=>(by have h:=Re w os;revert h;walk_at "q"))
  (fun w os=>(by have h:=QF w os;revert h;walk_at "q"))
  (fun w os=>(by have h:=O4 w os;revert h;walk_at "q"))
  (fun w os=>(by have h:=MY w os;revert h;walk_at "q"))
 have R:=VC.zero (p:=PySem.Challenge.rw_forsworn_k56_folk_of_a_moot.row.prog) (w:=w) (os:=os) (by have h:=Sm w os;revert h;walk_at "q") (by have h:=Mf w os;revert h;walk_at "q");have R:=R.step 1713 9 (by have h:=OQ w os;revert h;walk_at "q");have R:=R.step 1459 6 (by have h:=XJ w os;revert h;walk_at "q");have R:=R.step 973 4 (by have h:=NN w os;revert h;walk_at "q");exact R
end Law
section
namespace L2
open PySem PySem.Spec PyProof.Rows
abbrev ZS:=Sum Int Str
def AU:ZS->eE->Bool
 | .inl k,v=>Value.isInt k v
 | .inr x,v=>Value.isStrOf x v
def Nr(w:eI):ZS->Int
 | .inl k=>hashInt k
 | .inr x=>hashStr w x
theorem JL:∀{k:ZS}{v:eE},AU k v=true->(∃i t,k=Sum.inl i/\v=Value.int i t)\/(∃x t,k=Sum.inr x/\v=Value.str x t)
 | .inl i,v,h=>by
  obtain⟨t,e⟩:=Value.isInt_shape (k:=i) (v:=v) h;exact .inl ⟨i,t,rfl,e⟩
 | .inr x,v,h=>by
  obtain⟨t,e⟩:=Value.isStrOf_shape (x:=x) (v:=v) h;exact .inr ⟨x,t,rfl,e⟩
theorem XT(i:Int)(t:Tok):AU (.inl i) (.int i t)=true:=by simp[AU,Value.isInt]
theorem Oc(x:Str)(t:Tok):AU (.inr x) (.str x t)=true:=by simp[AU,Value.isStrOf]
theorem Qe(a b:Int):decide ((Sum.inl a:ZS)=Sum.inl b)=(a == b):=by grind
theorem NW(a b:Str):decide ((Sum.inr a:ZS)=Sum.inr b)=decide (a=b):=by grind
theorem bF(a:Int)(b:Str):decide ((Sum.inl a:ZS)=Sum.inr b)=false:=zD (fun q=>nomatch q)
theorem Mu(a:Str)(b:Int):decide ((Sum.inr a:ZS)=Sum.inl b)=false:=zD (fun q=>nomatch q)
def Y7(prog:eG)(w:eI):PySem.KeyKind prog w ZS where
 is:=AU
 hash:=Nr w
 inj:=fun v a b ha hb=>by
  rcases JL ha with⟨i,t,rfl,rfl⟩ | ⟨x,t,rfl,rfl⟩
  ·rcases JL hb with⟨j,u,rfl,e⟩ | ⟨y,u,rfl,e⟩
   ·injection e with e1 _;rw[e1]
   ·exact nomatch e
  ·rcases JL hb with⟨j,u,rfl,e⟩ | ⟨y,u,rfl,e⟩
   ·exact nomatch e
   ·injection e with e1 _;rw[e1]
 byValue:=fun k v h=>by
  rcases JL h with⟨i,t,rfl,rfl⟩ | ⟨x,t,rfl,rfl⟩<;>rfl
 pyHash:=fun hv h=>by
  rcases JL hv with⟨i,t,rfl,rfl⟩ | ⟨x,t,rfl,rfl⟩
  ·exact wpAny_pyHash_int h
  ·exact wpAny_pyHash_str h
 eqBool:=fun hu hv h=>by
  rcases JL hu with⟨i,t,rfl,rfl⟩ | ⟨x,t,rfl,rfl⟩
  ·rcases JL hv with⟨j,u,rfl,rfl⟩ | ⟨y,u,rfl,rfl⟩
   ·rw[Qe] at h;exact wpAny_eqBool_int h
   ·rw[bF] at h;exact SeqAt.EqAt.int_str i t y u _ _ _ _ h
  ·rcases JL hv with⟨j,u,rfl,rfl⟩ | ⟨y,u,rfl,rfl⟩
   ·rw[Mu] at h;exact SeqAt.EqAt.str_int x t j u _ _ _ _ h
   ·rw[NW] at h;exact wpAny_eqBool_str h
 «strs»:=fun k x t v h=>by
  rcases JL h with⟨i,u,rfl,e⟩ | ⟨y,u,rfl,e⟩
  ·exact nomatch e
  ·injection e with e1 _
   subst e1
   cases v<;>rfl
theorem NJ(prog:eG)(w:eI)(i:Int)(t:Tok):(Y7 prog w).is (.inl i) (.int i t)=true:=XT i t
theorem NH(prog:eG)(w:eI)(x:Str)(t:Tok):(Y7 prog w).is (.inr x) (.str x t)=true:=Oc x t
end L2
namespace L2
open PySem PySem.Spec PyProof.Rows
inductive V where
 | non | bl (b:Bool) | int (i:Int) | str (x:Str) | byt (b:Array UInt8) | flt (b:UInt64) | ref (a:eF) | ty (n:String)
 deriving DecidableEq
def ZG:V->eE->Prop
 | .non,u=>u=Value.none
 | .bl b,u=>u=Value.bool b
 | .int i,u=>∃t,u=Value.int i t
 | .str x,u=>∃t,u=Value.str x t
 | .byt b,u=>∃t,u=Value.bytes b t
 | .flt b,u=>∃t,u=Value.float b t
 | .ref a,u=>u=Value.ref a
 | .ty n,u=>u=Value.type n
abbrev ZH:List V->List eE->Prop:=Paired ZG
theorem ZH.length(r:ZH xs us):xs.length=us.length:=Paired.length r
theorem ZH.get:∀{xs:List V}{us:dY}{i:Nat}{x:V},ZH xs us->xs[i]? = some x->∃u,us[i]? = some u/\ZG x u
 | _,_,_,_,.nil,e=>by simp at e
 | _,_,0,_,.cons r _,e=>by simp at e;subst e;exact⟨_,rfl,r⟩
 | _,_,i+1,x,.cons _ t,e=>by
  obtain⟨u,h1,h2⟩:=ZH.get (i:=i) (x:=x) t (by simpa using e);exact⟨u,by simpa using h1,h2⟩
theorem ZH.set(r:ZG x u):∀{xs:List V}{us:dY}(i:Nat),ZH xs us->ZH (xs.set i x) (us.set i u)
 | _,_,_,.nil=>.nil
 | _,_,0,.cons _ t=>.cons r t
 | _,_,i+1,.cons q t=>.cons q (ZH.set r i t)
theorem ZH.append:∀{xs ys:List V}{us ws:dY},ZH xs us->ZH ys ws->ZH (xs++ys) (us++ws)
 | _,_,_,_,.nil,s=>s
 | _,_,_,_,.cons r t,s=>.cons r (ZH.append t s)
theorem ZH.take:∀{xs:List V}{us:dY}(n:Nat),ZH xs us->ZH (xs.take n) (us.take n)
 | _,_,0,_=>.nil
 | _,_,_+1,.nil=>.nil
 | _,_,n+1,.cons r t=>.cons r (ZH.take n t)
theorem ZH.drop:∀{xs:List V}{us:dY}(n:Nat),ZH xs us->ZH (xs.drop n) (us.drop n)
 | _,_,0,r=>r
 | _,_,_+1,.nil=>.nil
 | _,_,n+1,.cons _ t=>ZH.drop n t
def YO:Option V->Option eE->Prop
 | some v,some u=>ZG v u
 | none,none=>True
 | _,_=>False
def KV{κ:Type}:List (κ×V)->List (κ×eE)->Prop:=Paired fun(p : κ×V) (q : κ×eE)=>p.1=q.1/\ZG p.2 q.2
def kV:ZS->V
 | .inl i=>.int i
 | .inr x=>.str x
inductive HO where
 | lst (xs:List V)
 | tup (xs:List V)
 | dK (kvs:List (ZS×V)) | dT (kvs:List (List ZS×V))
 | set (S:Int->Bool) (n:Nat)
 | ins (C dx:eF) (fs:List (Str×V))
 | own (x:eF)
 | xd (fs:List (Str×V))
 | met (f x:eF)
 | rng (lo hi:Int)
 | frz (o:Obj) (u:HO)
 | tbl (ps:Array eE)
 | ext (φ:Heap->Prop)
abbrev Hp:=eF->Option HO
def upd(H:Hp)(a:eF)(o:HO):Hp:=fun b=>if b=a then some o else H b
theorem Zg:upd H a o a=some o:=by unfold upd;rw[if_pos rfl]
theorem Ze(h:b≠a):upd H a o b=H b:=by unfold upd;rw[if_neg h]
theorem Gj{H:Hp}{a b:eF}{o u:HO}(h:H a=some o)(h':H b=some u)(d:o≠u):a≠b:=by
 intro e;subst e;rw[h] at h';exact d (Option.some.inj h')
theorem Zm{H:Hp}{a b:eF}{o:HO}(h:H a=some o)(h':H b=none):a≠b:=by
 intro e;subst e;rw[h] at h';cases h'
section
variable(P:eG)(w:eI)
def ZO(H:Hp)(h:Heap)(a:eF):HO->Prop
 | .lst xs=>xs.length<=sizeLine/\∃(its:dY)(n:Nat),ZH xs its/\h.get? a=some {cls:=.type "list", data:=.seq its.toArray n }
 | .tup xs=>xs.length<=sizeLine/\∃its:List eE,ZH xs its/\IsTup h a its.toArray
 | .dK kvs=>kvs.length<=sizeLine/\(a == sysModules)=false/\∃vs,KV kvs vs/\h.DictOf (Y7 P w) a vs
 | .dT kvs=>kvs.length<=sizeLine/\(a == sysModules)=false/\∃xs:List (List ZS×eF×eE),
   Paired (fun(p:List ZS×V) (q:List ZS×eF×eE)=>p.1=q.1/\H q.2.1=some (.tup (p.1.map kV))/\ZG p.2 q.2.2) kvs xs /\
   ∃o es ep,h.get? a=some o/\o.ExactDict/\o.data = .dict es ep/\es.toList=xs.map (entryOfKey (tupleKind (Y7 P w)))/\(xs.map (·.1)).Nodup
 | .set S n=>h.SetOf (intKind P w) a S n
 | .ins C dx fs=>H dx=some (.own a)/\fs.length<=1000/\dx≠a/\h.get? a=some (PySem.W.instObj C dx)/\
   ∃mA,h.Ns1 dx mA/\(∀f,YO (fs.lookup f) (mA f))/\PySem.Within mA (fs.map (·.1))
 | .own _=>∃o,h.get? a=some o
 | .xd fs=>∃mA,h.Ns1 a mA/\∀f,YO (fs.lookup f) (mA f)
 | .rng lo hi=>∃t u v,h.get? a=some {cls:=.type "range", data:=.fields #[.int lo t,.int hi u,.int 1 v] }
 | .frz o u=>h.get? a=some o/\ZO H h a u
 | .tbl ps=>∃qs nm t,h.get? a=some {cls:=.none,data:=.fields qs }/\TriplesOk qs.toList/\ps[0]? = some (.str nm t)/\∀pos cv,codeAmong pos qs.toList=some cv->∃c,cv = .ref c/\H c=some (.own a)/\h.CodeRec (.ref c) nm
 | .met f x=>h.get? a=some (PySem.W.methodObj (.ref f) (.ref x))
 | .ext φ=>φ h/\(∃o,h.get? a=some o)/\∀h1 h2:Heap,φ h1->(∀o,h1.get? a=some o->h2.get? a=some o)->φ h2
def YU(H:Hp)(h:Heap):Prop:=∀a o,H a=some o->ZO P w H h a o
end
section
variable{P:eG}{w:eI}{H:Hp}{h h':Heap}{a:eF}{o:HO}
theorem ZO.lt(x:ZO P w H h a o):a < h.objs.size:=by
 cases o with
 | lst xs=>obtain⟨_,_,_,_,e⟩:=x;exact xQ e
 | tup xs=>obtain⟨_,_,_,p⟩:=x;exact p.lt
 | dK kvs=>obtain⟨_,_,_,_,o,_,_,e,_⟩:=x;exact xQ e
 | dT kvs=>obtain⟨_,_,_,_,o,_,_,e,_⟩:=x;exact xQ e
 | set S n=>obtain⟨o,_,_,_,e,_⟩:=x;exact xQ e
 | ins C dx fs=>obtain⟨_,_,_,e,_⟩:=x;exact xQ e
 | own y=>obtain⟨_,e⟩:=x;exact xQ e
 | xd fs=>obtain⟨_,⟨_,_,_,e,_⟩,_⟩:=x;exact xQ e
 | rng lo hi=>obtain⟨_,_,_,e⟩:=x;exact xQ e
 | frz ob u=>obtain⟨e,_⟩:=x;exact xQ e
 | tbl ps=>obtain⟨_,_,_,e,_⟩:=x;exact xQ e
 | met f y=>exact xQ (show h.get? a=some _ from x)
 | ext φ=>obtain⟨_,⟨_,e⟩,_⟩:=x;exact xQ e
theorem Paired.mapP{α β:Type}{F G : α->β->Prop}:∀{l₁:List α}{l₂:List β},Paired F l₁ l₂->(∀a b,F a b->G a b)->Paired G l₁ l₂
 | _,_,.nil,_=>.nil
 | _,_,.cons r t,f=>.cons (f _ _ r) (Paired.mapP t f)
theorem ZO.stay(x:ZO P w H h a o)(k:∀b u,(b=a\/H b=some (.own a))->h.get? b=some u->h'.get? b=some u)(ho:∀b,H b=some (.own a)->H' b=some (.own a))(ht:∀b xs,H b=some (.tup xs)->H' b=some (.tup xs)):ZO P w H' h' a o:=by
 induction o with
 | lst xs=>obtain⟨z,its,n,r,e⟩:=x;exact⟨z,its,n,r,k _ _ (.inl rfl) e⟩
 | tup xs=>obtain⟨z,its,r,ob,e,c⟩:=x;exact⟨z,its,r,ob,k _ _ (.inl rfl) e,c⟩
 | dK kvs=>obtain⟨z,y,vs,r,ob,es,ep,e,c⟩:=x;exact⟨z,y,vs,r,ob,es,ep,k _ _ (.inl rfl) e,c⟩
 | dT kvs =>
  obtain⟨z,y,xs,r,ob,es,ep,e,c⟩:=x;exact⟨z,y,xs,Paired.mapP r fun p q z=>⟨z.1,ht _ _ z.2.1,z.2.2⟩,ob,es,ep,k _ _ (.inl rfl) e,c⟩
 | set S n=>obtain⟨ob,es,ep,t,e,c⟩:=x;exact⟨ob,es,ep,t,k _ _ (.inl rfl) e,c⟩
 | ins C dx fs =>
  obtain⟨d,z,ne,e,mA,⟨od,es,ep,e2,c⟩,r⟩:=x;exact⟨ho _ d,z,ne,k _ _ (.inl rfl) e,mA,⟨od,es,ep,k _ _ (.inr d) e2,c⟩,r⟩
 | own y=>obtain⟨ob,e⟩:=x;exact⟨ob,k _ _ (.inl rfl) e⟩
 | xd fs=>obtain⟨mA,⟨od,es,ep,e,c⟩,r⟩:=x;exact⟨mA,⟨od,es,ep,k _ _ (.inl rfl) e,c⟩,r⟩
 | rng lo hi=>obtain⟨t,u,v,e⟩:=x;exact⟨t,u,v,k _ _ (.inl rfl) e⟩
 | frz ob u ih=>obtain⟨e,q⟩:=x;exact⟨k _ _ (.inl rfl) e,ih q⟩
 | tbl ps =>
  obtain⟨qs,nm,t,e,z1,z2,z3⟩:=x;refine⟨qs,nm,t,k a _ (.inl rfl) e,z1,z2,fun pos cv ec=>?_⟩;obtain⟨c,e1,e2,c2,oc,vs,tt,e3,e4,e5⟩:=z3 pos cv ec;cases e3;exact⟨c,e1,ho _ e2,c,oc,vs,tt,rfl,k _ _ (.inr e2) e4,e5⟩
 | met f y =>
  have e:h.get? a=some (PySem.W.methodObj (.ref f) (.ref y)):=x;show h'.get? a=some (PySem.W.methodObj (.ref f) (.ref y));exact k a _ (.inl rfl) e
 | ext φ=>obtain⟨p,⟨o,e⟩,st⟩:=x;exact⟨st _ _ p fun o q=>k _ _ (.inl rfl) q,⟨o,k _ _ (.inl rfl) e⟩,st⟩
theorem YU.lt(x:YU P w H h)(e:H a=some o):a < h.objs.size:=(x a o e).lt
theorem YU.fresh(x:YU P w H h)(e:h.objs.size<=a):H a=none:=by
 cases q:H a with
 | none=>rfl
 | some u=>exact absurd (yH (x.lt q) e) (zJ _)
theorem YU.kept(x:YU P w H h)(k:∀b u,h.get? b=some u->h'.get? b=some u):YU P w H h':=fun a o e =>
 (x a o e).stay (fun b u _ q=>k b u q) (fun _ q=>q) fun _ _ q=>q
theorem YU.laid(x:YU P w H h)(k:∀b u,h.get? b=some u->h'.get? b=some u)(hp:h.objs.size<=a)(new:ZO P w (upd H a o) h' a o):YU P w (upd H a o) h':=fun b u e=>by
 have hn:=x.fresh hp
 by_cases hb:b=a
 ·subst hb;rw[Zg] at e;cases e;exact new
 ·rw[Ze hb] at e;exact(x b u e).stay (fun c v _ q=>k c v q) (fun c q=>by rw[Ze (Zm q hn)];exact q) fun c xs q=>by rw[Ze (Zm q hn)];exact q
end
def Rd(H:Hp)(a:eF)(u:HO):Prop:=H a=some u\/∃o,H a=some (.frz o u)
theorem Rd.ok(r:Rd H a u)(x:YU P w H h):ZO P w H h a u:=by
 rcases r with r | ⟨o,r⟩
 ·exact x a u r
 ·obtain⟨_,q⟩:=x a _ r;exact q
def Bz:Option HO->Prop
 | some (.lst _)=>True
 | some (.dK _)=>True
 | some (.dT _)=>True
 | some (.set _ _)=>True
 | some (.ins _ _ _)=>True
 | some (.ext _)=>True
 | _=>False
theorem YU.write(ok:YU P w H h)(mu:Bz (H x))(he:e=x\/H e=some (.own x))(k:∀b u,b≠e->h.get? b=some u->h'.get? b=some u)(heo:∃u,h'.get? e=some u)(new:ZO P w (upd H x o') h' x o'):YU P w (upd H x o') h':=fun b u q=>by
 have nown:∀c y,H c=some (.own y)->c≠x:=fun c y r z=>by subst z;rw[r] at mu;exact mu
 have ntup:∀c xs,H c=some (.tup xs)->c≠x:=fun c xs r z=>by subst z;rw[r] at mu;exact mu
 by_cases hb:b=x
 ·subst hb;rw[Zg] at q;cases q;exact new
 ·rw[Ze hb] at q
  by_cases hbe:b=e
  ·have q':H b=some (.own x):=by
    rcases he with z | z
    ·exact absurd (hbe.trans z) hb
    ·rw[hbe];exact z
   rw[q] at q';cases q';obtain⟨v,hv⟩:=heo;exact⟨v,by rw[hbe];exact hv⟩
  ·refine(ok b u q).stay (fun c v hc r=>k c v ?_ r) (fun c r=>by rw[Ze (nown c b r)];exact r) fun c xs r=>by rw[Ze (ntup c xs r)];exact r
   rcases hc with rfl | hc
   ·exact hbe
   ·grind
structure Un (fs ex:eA) (H H':Hp) (h h':Heap):Prop where
 keep:∀b o,h.get? b=some o->H b=none->b∉fs->b∉ex->h'.get? b=some o
 slot:∀b o,h.get? b=some o->H b=none->b∈fs->b∉ex->∃sl,h'.get? b=some {o with slots:=sl }
 free:∀b o,h.get? b=some o->H b=none->b∉ex->H' b=none
 there:∀b o,h.get? b=some o->b∉ex->∃o',h'.get? b=some o'
 tups:∀b xs,H b=some (.tup xs)->H' b=some (.tup xs)
 frzs:∀b o u,H b=some (.frz o u)->H' b=some (.frz o u)
 tbls:∀b ps,H b=some (.tbl ps)->∃more,H' b=some (.tbl (ps++more))
section
variable{fs ex:eA}{H:Hp}{h h':Heap}{a:eF}{o:HO}
theorem Un.any(u:Un fs ex H H1 h h1)(q:h.get? b=some ob)(n:H b=none)(hx:b∉ex):∃sl,h1.get? b=some {ob with slots:=sl }:=by
 by_cases hb:b∈fs
 ·exact u.slot b ob q n hb hx
 ·exact⟨ob.slots,u.keep b ob q n hb hx⟩
theorem Un.kept(k:∀b u,h.get? b=some u->h'.get? b=some u):Un fs ex H H h h' :=
 ⟨fun b ob q _ _ _=>k b ob q,fun b ob q _ _ _=>⟨ob.slots,k b ob q⟩,fun _ _ _ n _=>n,fun b ob q _=>⟨ob,k b ob q⟩,fun _ _ q=>q,fun _ _ _ q=>q,fun _ ps q=>⟨#[],by rw[q];simp⟩⟩
theorem Un.refl:Un fs ex H H h h:=Un.kept fun _ _ q=>q
theorem Un.laid(k:∀b u,h.get? b=some u->h'.get? b=some u)(hp:h.objs.size<=a)(hn:H a=none):Un fs ex H (upd H a o) h h' where
 keep:=fun b u q _ _ _=>k b u q
 slot:=fun b u q _ _ _=>⟨u.slots,k b u q⟩
 free:=fun b u q n _=>by rw[Ze (yG (yH (xQ q) hp))];exact n
 there:=fun b u q _=>⟨u,k b u q⟩
 tups:=fun b xs q=>by rw[Ze (Zm q hn)];exact q
 frzs:=fun b u xs q=>by rw[Ze (Zm q hn)];exact q
 tbls:=fun b ps q=>⟨#[],by rw[Ze (Zm q hn),q];simp⟩
theorem Un.write(mu:Bz (H x))(he:e=x\/H e=some (.own x))(k:∀b u,b≠e->h.get? b=some u->h'.get? b=some u)(heo:∃u,h'.get? e=some u):Un fs ex H (upd H x o) h h':=by
 have hx:∀b,H b=none->b≠x:=fun b n z=>by subst z;rw[n] at mu;exact mu
 have hb:∀b,H b=none->b≠e:=fun b n z=>by
  subst z;rcases he with r | r
  ·exact hx b n r
  ·rw[n] at r;cases r
 have hm:∀b u,H b=some u->¬Bz (some u)->b≠x:=fun b u q nm z=>by subst z;rw[q] at mu;exact nm mu
 refine⟨fun b u q n _ _=>k b u (hb b n) q,fun b u q n _ _=>⟨u.slots,k b u (hb b n) q⟩,fun b u q n _=>by rw[Ze (hx b n)];exact n,fun b u q _=>?_,
  fun b xs q=>by rw[Ze (hm b _ q fun z=>z)];exact q,fun b u xs q=>by rw[Ze (hm b _ q fun z=>z)];exact q,fun b ps q=>⟨#[],by rw[Ze (hm b _ q fun z=>z),q];simp⟩⟩
 by_cases hbe:b=e
 ·subst hbe;exact heo
 ·exact⟨u,k b u hbe q⟩
end
def trk(h:Heap)(H:Hp):List eF:=(List.range h.objs.size).filter fun a=>(H a).isSome
def Jy(h:Heap)(H:Hp):Heap:=PySem.W.hideAll h (trk h H)
theorem PF(h:Heap)(H:Hp):(Jy h H).objs.size=h.objs.size:=PySem.W.hideAll_size _ _
theorem SZ(e:h.get? b=some o)(n:H b=none):(Jy h H).get? b=some o :=
 PySem.W.hideAll_get _ e fun hm=>by
  have q:(H b).isSome=true:=(List.mem_filter.mp hm).2;rw[n] at q;simp at q
theorem LC(e:(Jy h H).get? b=some o):h.get? b=some o/\H b=none:=by
 have e':h.get? b=some o:=PySem.W.of_hideAll (trk h H) e;refine⟨e',?_⟩;cases q:H b with
 | none=>rfl
 | some x =>
  have hm:b∈trk h H:=List.mem_filter.mpr ⟨List.mem_range.mpr (xQ e'),by simp[q]⟩;have z:(Jy h H).get? b=none:=PySem.W.hideAll_none (trk h H) hm;rw[z] at e;cases e
end L2
namespace L2
open PySem PySem.Spec PyProof.Rows
structure Mod (K:uFg) (mg:dW) (base:Heap):Prop where
 kin:K.In base
 glob:base.Ns mainGlobals mg
 blt:∃mb,base.Ns builtinsNs mb/\∀x:Str,x ≠ "__name__" -> mb x=bootBuiltins x
 nolimit:base.NoLimit
/-- the context: a def's body (or a comprehension's block) running. base: fixed through the whole law;s₀,H₀: the entry;outer: the frames whose slots others may change (a def's callers);stack: all frames that run;
   ex: iterators that were made ahead of the entry and are walked here (a comprehension's);fn: the names whose cells were made at the entry (a def: all;a comprehension's block: its own);calm: not within an except suite;pn: pins that every state bears;xe: what is wanted of an exception that leaves the code -/
structure Cx where
 prog:eG
 w:eI
 K:uFg
 mg:Str->Option eE
 base:Heap
 A:eJ
 N:List Str
 s₀:eB
 H₀:Hp
 env:Env
 outer:List Env
 stack:List Env
 ex:List eF
 fn:Str->Bool
 calm:Bool
 pn:List (eF×Obj)
 xe:eE->eB->Prop
def frs(l:List Env):List eF:=l.filterMap (·.frame)
abbrev Cx.fs(X:Cx):List eF:=frs X.outer
def Cd(sc:Scope)(x:Str):Prop:=sc.names.lookup x=some .local\/sc.names.lookup x=some .cell\/sc.names.lookup x=some .free
def CP(sc:Scope)(x:Str):Prop:=sc.names.lookup x=some .local\/sc.names.lookup x=some .cell
def Sk(env:Env)(h:Heap)(m:dW)(x:Str)(u:eE):Prop :=
 (env.kindOf x=some .local/\m x=some u)\/((env.kindOf x=some .cell\/env.kindOf x=some .free)/\∃c,env.cells.lookup x=some c/\h.IsCell c (some u))
structure Cx.Ok (X:Cx):Prop where
 mod:Mod X.K X.mg X.base
 kind:X.env.scope.kind = .function
 glob:X.env.globals=mainGlobals
 blt:X.env.builtins=builtinsNs
 above:X.s₀.heap.objs.size<=X.env.locals
 inj:∀x y c,X.env.cells.lookup x=some c->X.env.cells.lookup y=some c->x=y
 has:∀x,(X.env.kindOf x=some .cell\/X.env.kindOf x=some .free)->∃c,X.env.cells.lookup x=some c
 cab:∀x c,X.fn x=true->X.env.cells.lookup x=some c->X.s₀.heap.objs.size<=c
 hd:X.calm=true->X.A.handled=none
 frames:X.A.frames=some X.stack
 stk:X.stack=X.outer\/(X.stack=X.env::X.outer/\X.env.frame=some X.env.locals)
 exf:∀b∈X.ex,b≠X.env.locals/\∀x c,X.env.cells.lookup x=some c->c≠b
 bs:∀b o,X.base.get? b=some o->X.s₀.heap.get? b=some o/\X.H₀ b=none
 bsz:X.base.objs.size<=X.s₀.heap.objs.size
 noex:∀b o,X.base.get? b=some o->b∉X.ex
 exfs:∀b∈X.ex,b∉X.fs
 funs:X.s₀.heap.FunFrames X.base X.outer
 frf:∀b∈X.fs,X.H₀ b=none
structure ZD (X:Cx) (pins:List (eF×Obj)) (σ:List (Option V)) (H:Hp) (s:eB):Prop where
 ok:X.Ok
 os:s.os=X.s₀.os
 bare:AllBare s.gens
 base:Un X.fs X.ex X.H₀ H X.s₀.heap s.heap
 loc:∃m,s.heap.Ns X.env.locals m/\∀(i:Nat)(x:Str)(v:V),X.N[i]? = some x->σ[i]? = some (some v)->Cd X.env.scope x->∃u,ZG v u/\Sk X.env s.heap m x u
 cell:∀x c,X.env.cells.lookup x=some c->∃v,s.heap.IsCell c v
 free:H X.env.locals=none
 freeC:∀x c,X.env.cells.lookup x=some c->H c=none
 pin:∀p∈X.pn++pins,s.heap.get? p.1=some p.2/\H p.1=none/\p.1≠X.env.locals/\p.1∉X.fs/\∀v,p.2.data ≠ .cell v
 hok:YU X.prog X.w H s.heap
 len : σ.length=X.N.length
section
variable{X:Cx}
theorem Cx.Ok.nofr(ok:X.Ok){b:eF}{o:Obj}(e:X.base.get? b=some o):b∉X.fs:=fun hb=>by
 have:=(ok.funs.mem hb).1;rw[e] at this;cases this
theorem ZD.bs(I:ZD X pins σ H s):∀b o,X.base.get? b=some o->s.heap.get? b=some o/\H b=none:=fun b o e =>
 ⟨I.base.keep b o (I.ok.bs b o e).1 (I.ok.bs b o e).2 (I.ok.nofr e) (I.ok.noex b o e),I.base.free b o (I.ok.bs b o e).1 (I.ok.bs b o e).2 (I.ok.noex b o e)⟩
theorem ZD.bk(I:ZD X pins σ H s):∀b o,X.base.get? b=some o->s.heap.get? b=some o:=fun b o e=>(I.bs b o e).1
theorem ZD.mod(I:ZD X pins σ H s):Mod X.K X.mg X.base:=I.ok.mod
theorem ZD.kIn(I:ZD X pins σ H s):X.K.In s.heap:=I.ok.mod.kin.keeps I.bk
theorem ZD.lt(I:ZD X pins σ H s):X.env.locals < s.heap.objs.size:=let ⟨_,hn,_⟩:=I.loc;hn.lt
theorem ZD.sz(I:ZD X pins σ H s):X.s₀.heap.objs.size<=s.heap.objs.size:=xX I.ok.above (zC I.lt)
theorem ZD.nofs(I:ZD X pins σ H s){a:eF}(h:s.heap.objs.size<=a):a∉X.fs:=fun hb=>by
 obtain⟨_,o,ho,_⟩:=I.ok.funs.mem hb;exact absurd (yH (xQ ho) (xX I.sz h)) (zJ _)
theorem ZD.cne(I:ZD X pins σ H s):∀x c,X.env.cells.lookup x=some c->c≠X.env.locals:=fun x c e z=>by
 obtain⟨v,o,ho,hd⟩:=I.cell x c e;obtain⟨m,⟨o',es,ep,ho',hd',_⟩,_⟩:=I.loc;rw[z,ho'] at ho;cases ho;rw[hd'] at hd;cases hd
theorem ZD.funs(I:ZD X pins σ H s):s.heap.FunFrames X.base X.outer:=by
 have all:∀(l:List Env),(∀b∈frs l,b∈X.fs)->X.s₀.heap.FunFrames X.base l->s.heap.FunFrames X.base l:=by
  intro l
  induction l with
  | nil=>intro _ _;trivial
  | cons env r ih =>
   intro hs hl;obtain⟨hk,⟨L,o,hf,hn,ho,hd⟩,hr⟩:=hl;have hL:L∈X.fs:=hs L (by unfold frs;rw[List.filterMap_cons,hf];exact xY);obtain⟨sl,e⟩:=I.base.slot L o ho (I.ok.frf L hL) hL fun z=>I.ok.exfs L z hL;exact⟨hk,⟨L,_,hf,hn,e,hd⟩,ih (fun b hb=>hs b (by unfold frs;rw[List.filterMap_cons,hf];exact xN _ hb)) hr⟩
 exact all X.outer (fun _ hb=>hb) I.ok.funs
theorem ZD.stack(I:ZD X pins σ H s):s.heap.FunFrames X.base X.stack:=by
 rcases I.ok.stk with e | ⟨e,hf⟩
 ·rw[e];exact I.funs
 ·rw[e];obtain⟨m,hn,_⟩:=I.loc;refine .cons (by rw[I.ok.kind];decide) hf hn ?_ I.funs;exact Heap.get?_none_of_le (xX I.ok.bsz I.ok.above)
theorem ZD.stkSub(I:ZD X pins σ H s):∀b∈frs X.stack,b∈X.env.locals::X.fs:=fun b hb=>by
 rcases I.ok.stk with e | ⟨e,hf⟩
 ·rw[e] at hb;exact xN _ hb
 ·rw[e] at hb;unfold frs at hb;rw[List.filterMap_cons,hf] at hb;exact hb
theorem ZD.stkFree(I:ZD X pins σ H s):∀b∈frs X.stack,H b=none:=fun b hb=>by
 rcases xC.mp (I.stkSub b hb) with e | hb
 ·rw[e];exact I.free
 ·obtain⟨_,o,ho,_⟩:=I.ok.funs.mem hb;exact I.base.free b o ho (I.ok.frf b hb) fun z=>I.ok.exfs b z hb
theorem ZD.step{g':Array GenState}{t':Nat}{d':Drawn}{ch:eA}(I:ZD X pins σ H s)(hch:∀b∈ch,(b∈X.ex\/X.s₀.heap.objs.size<=b)/\b≠X.env.locals/\(∀x c,X.env.cells.lookup x=some c->c≠b)/\∀p∈X.pn++pins,p.1≠b)(keep:∀b o,b≠X.env.locals->b∉X.fs->b∉ch->s.heap.get? b=some o->H b=none->h'.get? b=some o)(slot:∀b o,b≠X.env.locals->b∈X.fs->b∉ch->s.heap.get? b=some o->H b=none->∃sl,h'.get? b=some {o with slots:=sl })(free:∀b o,b∉ch->s.heap.get? b=some o->H b=none->H' b=none)(there:∀b o,b∉ch->s.heap.get? b=some o->∃o',h'.get? b=some o')(tups:∀b xs,H b=some (.tup xs)->H' b=some (.tup xs))(frzs:∀b o u,H b=some (.frz o u)->H' b=some (.frz o u))(tbls:∀b ps,H b=some (.tbl ps)->∃more,H' b=some (.tbl (ps++more)))(ns:∀m,s.heap.Ns X.env.locals m->h'.Ns X.env.locals m)(hok:YU X.prog X.w H' h')(hg:AllBare g') :
  ZD X pins σ H' {s with heap:=h',gens:=g',drawn:=d',toks:=t' }:=by
 have neL:∀b o,X.s₀.heap.get? b=some o->b≠X.env.locals:=fun b o e=>yG (yH (xQ e) I.ok.above);have neC:∀b o,X.s₀.heap.get? b=some o->b∉X.ex->b∉ch:=fun b o e hx hb=>by
  rcases(hch b hb).1 with z | z
  ·exact hx z
  ·exact absurd (yH (xQ e) z) (zJ _)
 have cellK:∀x c,X.env.cells.lookup x=some c->∀v,s.heap.IsCell c v->h'.IsCell c v:=fun x c e v ⟨o,ho,hd⟩=>by
  have nch:c∉ch:=fun z=>(hch c z).2.2.1 x c e rfl
  by_cases hc:c∈X.fs
  ·obtain⟨sl,q⟩:=slot c o (I.cne x c e) hc nch ho (I.freeC x c e);exact⟨_,q,hd⟩
  ·exact⟨o,keep c o (I.cne x c e) hc nch ho (I.freeC x c e),hd⟩
 refine⟨I.ok,I.os,hg,⟨fun b o e n hb hx=>?_,fun b o e n hb hx=>?_,fun b o e n hx=>?_,fun b o e hx=>?_,fun b xs e=>tups b xs (I.base.tups b xs e),fun b o xs e=>frzs b o xs (I.base.frzs b o xs e),fun b ps e=>?_⟩,?_,fun x c e=>?_,?_,fun x c e=>?_,fun p hp=>?_,hok,I.len⟩
 ·exact keep b o (neL b o e) hb (neC b o e hx) (I.base.keep b o e n hb hx) (I.base.free b o e n hx)
 ·obtain⟨sl,e1⟩:=I.base.slot b o e n hb hx;obtain⟨sl',e2⟩:=slot b _ (neL b o e) hb (neC b o e hx) e1 (I.base.free b o e n hx);exact⟨sl',e2⟩
 ·obtain⟨o',e1⟩:=I.base.there b o e hx;exact free b o' (neC b o e hx) e1 (I.base.free b o e n hx)
 ·obtain⟨o',e1⟩:=I.base.there b o e hx;exact there b o' (neC b o e hx) e1
 ·obtain⟨m1,e1⟩:=I.base.tbls b ps e;obtain⟨m2,e2⟩:=tbls b _ e1;exact⟨m1++m2,by rw[e2,Array.append_assoc]⟩
 ·obtain⟨m,hn,hl⟩:=I.loc;refine⟨m,ns m hn,fun i x v e1 e2 e3=>?_⟩;obtain⟨u,r,l⟩:=hl i x v e1 e2 e3;refine⟨u,r,?_⟩;rcases l with l | ⟨k,c,e,z⟩
  ·exact .inl l
  ·exact .inr ⟨k,c,e,cellK x c e _ z⟩
 ·obtain⟨v,z⟩:=I.cell x c e;exact⟨v,cellK x c e v z⟩
 ·obtain⟨m,⟨o,_,_,ho,_⟩,_⟩:=I.loc;exact free _ o (fun z=>(hch _ z).2.1 rfl) ho I.free
 ·obtain⟨v,o,ho,hd⟩:=I.cell x c e;exact free c o (fun z=>(hch c z).2.2.1 x c e rfl) ho (I.freeC x c e)
 ·obtain⟨e,n,ne,nf,d⟩:=I.pin p hp;have nch:p.1∉ch:=fun z=>(hch p.1 z).2.2.2 p hp rfl;exact⟨keep p.1 p.2 ne nf nch e n,free p.1 p.2 nch e n,ne,nf,d⟩
theorem ZD.un(I:ZD X pins σ H s)(u:Un X.fs [] H H' s.heap h')(hok:YU X.prog X.w H' h'):ZD X pins σ H' {s with heap:=h',toks:=t' }:=by
 obtain⟨m,⟨o,es,ep,ho,r⟩,_⟩:=id I.loc;obtain⟨sl,hL⟩:=u.any ho I.free (by simp)
 exact I.step (g':=s.gens) (d':=s.drawn) (ch:=[]) (fun _ z=>nomatch z) (fun b o _ hb _ e n=>u.keep b o e n hb (by simp)) (fun b o _ hb _ e n=>u.slot b o e n hb (by simp)) (fun b o _ e n=>u.free b o e n (by simp)) (fun b o _ e=>u.there b o e (by simp)) u.tups u.frzs u.tbls (fun m' hm=>by
  obtain⟨o',es',ep',ho',r'⟩:=hm;rw[ho] at ho';cases ho'
  exact⟨_,es',ep',hL,r'⟩) hok I.bare
theorem ZD.call(I:ZD X pins σ H s)(u:Un (frs X.stack) ch H H' s.heap h')(hok:YU X.prog X.w H' h')(hg:AllBare g')(hch:∀b∈ch,(b∈X.ex\/X.s₀.heap.objs.size<=b)/\b≠X.env.locals/\(∀x c,X.env.cells.lookup x=some c->c≠b)/\∀p∈X.pn++pins,p.1≠b) :
  ZD X pins σ H' {s with heap:=h',gens:=g',drawn:=d',toks:=t' }:=by
 obtain⟨m,⟨o,es,ep,ho,r⟩,_⟩:=id I.loc;obtain⟨sl,hL⟩:=u.any ho I.free fun z=>(hch _ z).2.1 rfl
 exact I.step (ch:=ch) hch (fun b o hL hb hc e n=>u.keep b o e n (fun z=>(xC.mp (I.stkSub b z)).elim hL hb) hc) (fun b o _ _ hc e n=>u.any e n hc) (fun b o hc e n=>u.free b o e n hc) (fun b o hc e=>u.there b o e hc) u.tups u.frzs u.tbls (fun m' hm=>by
  obtain⟨o',es',ep',ho',r'⟩:=hm;rw[ho] at ho';cases ho'
  exact⟨_,es',ep',hL,r'⟩) hok hg
theorem ZD.turned(I:ZD X pins σ H s)(k:∀b o,b≠it->s.heap.get? b=some o->h'.get? b=some o)(hn:H it=none)(hL:it≠X.env.locals)(h1:it∈X.ex\/X.s₀.heap.objs.size<=it)(h2:∀x c,X.env.cells.lookup x=some c->c≠it)(h3:∀p∈X.pn++pins,p.1≠it):ZD X pins σ H {s with heap:=h',toks:=t' }:=by
 have nit:∀b u,H b=some u->b≠it:=fun b u e z=>by rw[z,hn] at e;cases e
 refine I.step (g':=s.gens) (d':=s.drawn) (ch:=[it]) (fun b hb=>?_) (fun b o _ _ hc e _=>k b o (fun z=>hc (by simp[z])) e) (fun b o _ _ hc e _=>⟨o.slots,k b o (fun z=>hc (by simp[z])) e⟩) (fun _ _ _ _ n=>n)
  (fun b o hc e=>⟨o,k b o (fun z=>hc (by simp[z])) e⟩) (fun _ _ e=>e) (fun _ _ _ e=>e) (fun b ps e=>⟨#[],by rw[e];simp⟩) (fun m hm=>?_) (fun b u e=>?_) I.bare
 ·have e:b=it:=by simpa using hb
  subst e;exact⟨h1,hL,h2,h3⟩
 ·obtain⟨o,es,ep,ho,r⟩:=hm;exact⟨o,es,ep,k _ o (Ne.symm hL) ho,r⟩
 ·refine(I.hok b u e).stay (fun c v hc q=>k c v ?_ q) (fun _ q=>q) fun _ _ q=>q;rcases hc with z | z
  ·rw[z];exact nit b u e
  ·exact nit c _ z
theorem ZD.tok(I:ZD X pins σ H s)(t:Nat):ZD X pins σ H {s with toks:=t }:=I.un (h':=s.heap) (t':=t) Un.refl I.hok
theorem ZD.kept(I:ZD X pins σ H s)(k:∀b u,s.heap.get? b=some u->h'.get? b=some u):ZD X pins σ H {s with heap:=h',toks:=t' }:=I.un (Un.kept k) (I.hok.kept k)
theorem ZD.laid{a:eF}{o:HO}{t':Nat}(I:ZD X pins σ H s)(k:∀b u,s.heap.get? b=some u->h'.get? b=some u)(hp:s.heap.objs.size<=a)(new:ZO X.prog X.w (upd H a o) h' a o) :
  ZD X pins σ (upd H a o) {s with heap:=h',toks:=t' }:=I.un (Un.laid k hp (I.hok.fresh hp)) (I.hok.laid k hp new)
theorem ZD.write(I:ZD X pins σ H s)(mu:Bz (H x))(he:e=x\/H e=some (.own x))(k:∀b u,b≠e->s.heap.get? b=some u->h'.get? b=some u)(heo:∃u,h'.get? e=some u)(new:ZO X.prog X.w (upd H x o) h' x o):ZD X pins σ (upd H x o) {s with heap:=h',toks:=t' }:=I.un (Un.write mu he k heo) (I.hok.write mu he k heo new)
theorem ZD.pins_of(I:ZD X pins σ H s)(h:∀p∈pins',s.heap.get? p.1=some p.2/\H p.1=none/\p.1≠X.env.locals/\p.1∉X.fs/\∀v,p.2.data ≠ .cell v):ZD X pins' σ H s :=
 ⟨I.ok,I.os,I.bare,I.base,I.loc,I.cell,I.free,I.freeC,fun p hp=>(xL.mp hp).elim (fun z=>I.pin p (yP _ z)) (h p),I.hok,I.len⟩
theorem HR{N:dX}(hN:N.Nodup){i j:Nat}{x:Str}(a:N[i]? = some x)(b:N[j]? = some x):i=j:=by
 obtain⟨h1,e1⟩:=xH.mp a;obtain⟨h2,e2⟩:=xH.mp b;exact(List.getElem_inj hN).mp (e1.trans e2.symm)
theorem Q9(I:ZD X pins σ H s)(hN:X.N.Nodup)(hi:X.N[i]? = some x)(hx:CP X.env.scope x)(r:ZG v u)(h:∀s',ZD X pins (σ.set i (some v)) H s'->(∃a,Heap.SameBut a s.heap s'.heap/\(a=X.env.locals\/X.env.cells.lookup x=some a))->Q () s')(hf:X.fn x=true\/X.env.scope.names.lookup x=some .local:=by first | exact .inl rfl | exact .inr rfl | assumption):wpAny M A (storeName X.env x u) Q E s:=by
 obtain⟨m,hn,hl⟩:=id I.loc;have hcls:(X.env.scope.kind == .class || (X.env.scope.kind == .module && X.env.locals != X.env.globals))=false:=by rw[I.ok.kind];rfl
 have hiσ:i < σ.length:=by rw[I.len];exact(xH.mp hi).1
 have cne:=I.cne;have tracked:∀{a:eF}{h':Heap},(∃o,s.heap.get? a=some o/\H a=none)->Heap.SameBut a s.heap h'->YU X.prog X.w H h':=fun {a h'} ha hs b ob e=>by
  obtain⟨_,_,hfree⟩:=ha;refine(I.hok b ob e).stay (fun c w' hc q=>(hs.2 c ?_).trans q) (fun _ q=>q) fun _ _ q=>q;rintro rfl;rcases hc with rfl | hc
  ·rw[hfree] at e;cases e
  ·rw[hfree] at hc;cases hc
 rcases hx with hk | hk
 ·refine wpAny_storeName_local hk hn (fun h' hn' hs=>?_) hcls;obtain⟨oL,_,_,hoL,_⟩:=id hn;refine h _ ⟨I.ok,I.os,I.bare,⟨fun b o e n hb hx=>?_,fun b o e n hb hx=>?_,I.base.free,fun b o e hx=>?_,I.base.tups,I.base.frzs,I.base.tbls⟩,⟨_,hn',fun j y v' e1 e2 e3=>?_⟩,fun y c e=>?_,I.free,I.freeC,fun p hp=>?_,tracked ⟨oL,hoL,I.free⟩ hs,by simpa using I.len⟩ ⟨_,hs,.inl rfl⟩
  ·exact(hs.2 b (yG (yH (xQ e) I.ok.above))).trans (I.base.keep b o e n hb hx)
  ·obtain⟨sl,e1⟩:=I.base.slot b o e n hb hx;exact⟨sl,(hs.2 b (yG (yH (xQ e) I.ok.above))).trans e1⟩
  ·obtain⟨o',e1⟩:=I.base.there b o e hx;exact⟨o',(hs.2 b (yG (yH (xQ e) I.ok.above))).trans e1⟩
  ·by_cases hj:j=i
   ·subst hj;rw[hi] at e1;cases e1;rw[List.getElem?_set_self hiσ] at e2;cases e2;exact⟨u,r,.inl ⟨hk,by simp⟩⟩
   ·rw[List.getElem?_set_ne (Ne.symm hj)] at e2;obtain⟨u',r',q⟩:=hl j y v' e1 e2 e3;refine⟨u',r',?_⟩;rcases q with⟨k,e⟩ | ⟨k,c,e,z⟩
    ·refine .inl ⟨k,?_⟩;have:y≠x:=fun e=>hj (HR hN e1 (e▸hi));simp[this,e]
    ·exact .inr ⟨k,c,e,z.sameBut hs (cne y c e)⟩
  ·obtain⟨w',z⟩:=I.cell y c e;exact⟨w',z.sameBut hs (cne y c e)⟩
  ·obtain⟨e,n,ne,nf,d⟩:=I.pin p hp;exact⟨(hs.2 p.1 ne).trans e,n,ne,nf,d⟩
 ·have hfn:X.fn x=true:=by
   rcases hf with z | z
   ·exact z
   ·rw[z] at hk;cases hk
  obtain⟨c,hc⟩:=I.ok.has x (.inl hk);obtain⟨w',z⟩:=I.cell x c hc;refine wpAny_storeName_cell I.ok.kind hk hc z (fun h' hc' hs=>?_);obtain⟨oc,hoc,hocd⟩:=id z;refine h {s with heap:=h' } ⟨I.ok,I.os,I.bare,⟨fun b o e n hb hx=>?_,fun b o e n hb hx=>?_,I.base.free,fun b o e hx=>?_,I.base.tups,I.base.frzs,I.base.tbls⟩,⟨m,hn.sameBut hs (Ne.symm (cne x c hc)),fun j y v' e1 e2 e3=>?_⟩,fun y c' e=>?_,I.free,I.freeC,fun p hp=>?_,tracked ⟨oc,hoc,I.freeC x c hc⟩ hs,by simpa using I.len⟩ ⟨c,hs,.inr hc⟩
  ·exact(hs.2 b (yG (yH (xQ e) (I.ok.cab x c hfn hc)))).trans (I.base.keep b o e n hb hx)
  ·obtain⟨sl,e1⟩:=I.base.slot b o e n hb hx;exact⟨sl,(hs.2 b (yG (yH (xQ e) (I.ok.cab x c hfn hc)))).trans e1⟩
  ·obtain⟨o',e1⟩:=I.base.there b o e hx;exact⟨o',(hs.2 b (yG (yH (xQ e) (I.ok.cab x c hfn hc)))).trans e1⟩
  ·by_cases hj:j=i
   ·subst hj;rw[hi] at e1;cases e1;rw[List.getElem?_set_self hiσ] at e2;cases e2;exact⟨u,r,.inr ⟨.inl hk,c,hc,hc'⟩⟩
   ·rw[List.getElem?_set_ne (Ne.symm hj)] at e2;obtain⟨u',r',q⟩:=hl j y v' e1 e2 e3;refine⟨u',r',?_⟩;rcases q with q | ⟨k,c',e,z'⟩
    ·exact .inl q
    ·refine .inr ⟨k,c',e,z'.sameBut hs ?_⟩;rintro rfl;exact hj (HR hN e1 (I.ok.inj _ _ _ e hc▸hi))
  ·by_cases hcc:c'=c
   ·subst hcc;exact⟨_,hc'⟩
   ·obtain⟨w2,z2⟩:=I.cell y c' e;exact⟨w2,z2.sameBut hs hcc⟩
  ·obtain⟨e,n,ne,nf,d⟩:=I.pin p hp;refine⟨(hs.2 p.1 ?_).trans e,n,ne,nf,d⟩;intro q;rw[q,hoc] at e;have q':oc=p.2:=Option.some.inj e;exact d w' (by rw[← q'];exact hocd)
theorem Ec(I:ZD X pins σ H s)(hN:X.N.Nodup)(hi:X.N[i]? = some x)(hx:CP X.env.scope x)(r:ZG v u)(h:∀s',ZD X pins (σ.set i (some v)) H s'->Q () s')(hf:X.fn x=true\/X.env.scope.names.lookup x=some .local:=by first | exact .inl rfl | exact .inr rfl | assumption):wpAny M A (storeName X.env x u) Q E s :=
 Q9 I hN hi hx r (fun s' I' _=>h s' I') hf
theorem ZD.call'(I:ZD X pins σ H s)(ho:s'.os=s.os)(u:Un (frs X.stack) ch H H' s.heap s'.heap)(hok:YU X.prog X.w H' s'.heap)(hg:AllBare s'.gens)(hch:∀b∈ch,(b∈X.ex\/X.s₀.heap.objs.size<=b)/\b≠X.env.locals/\(∀x c,X.env.cells.lookup x=some c->c≠b)/\∀p∈X.pn++pins,p.1≠b):ZD X pins σ H' s':=by
 obtain⟨h',g',d',t',o'⟩:=s';have e:o'=s.os:=ho;subst e;exact I.call (g':=g') (t':=t') (d':=d') u hok hg hch
end
abbrev XK:=eE->Option eF->Hp->Prop
abbrev St:=List (Option V)
abbrev VK:=V->Hp->Prop
abbrev TE:=St->Hp->VK->Prop
abbrev TT:=St->Hp->(Bool->Hp->Prop)->Prop
abbrev TA:=St->Hp->(List V->Hp->Prop)->Prop
structure YI where
 nx:St->Hp->Prop
 rt:VK
 bk:St->Hp->Prop:=fun _ _=>False
 ct:St->Hp->Prop:=fun _ _=>False
abbrev TS:=YI->St->Hp->Prop
def EP(X:Cx)(pins:List (eF×Obj))(σ:St)(Q:VK)(u:eE)(s':eB):Prop:=∃v H',ZD X pins σ H' s'/\ZG v u/\Q v H'
def TP(X:Cx)(pins:List (eF×Obj))(σ:St)(Q:Bool->Hp->Prop)(b:Bool)(s':eB):Prop:=∃H',ZD X pins σ H' s'/\Q b H'
def AP(X:Cx)(pins:List (eF×Obj))(σ:St)(Q:List V->Hp->Prop)(us:dY)(s':eB):Prop:=∃vs H',ZD X pins σ H' s'/\ZH vs us/\Q vs H'
def SP(X:Cx)(pins:List (eF×Obj))(D:YI)(f:Flow)(s':eB):Prop :=
 match f with
 | .next=>∃ σ' H',ZD X pins σ' H' s'/\D.nx σ' H'
 | .brk=>∃ σ' H',ZD X pins σ' H' s'/\D.bk σ' H'
 | .cont=>∃ σ' H',ZD X pins σ' H' s'/\D.ct σ' H'
 | .ret u=>∃v σ' H',ZD X pins σ' H' s'/\ZG v u/\D.rt v H'
def PE(X:Cx)(e:Expr)(t:TE):Prop :=
 ∀(pins:List (eF×Obj))(s:eB)(σ:St)(H:Hp)(Q:VK),ZD X pins σ H s->t σ H Q->wpAny (model X.prog X.w) X.A (eval e X.env) (EP X pins σ Q) X.xe s
def PT(X:Cx)(e:Expr)(t:TT):Prop :=
 ∀(pins:List (eF×Obj))(s:eB)(σ:St)(H:Hp)(Q:Bool->Hp->Prop),ZD X pins σ H s->t σ H Q->wpAny (model X.prog X.w) X.A (isTrue e X.env (eval e X.env)) (TP X pins σ Q) X.xe s
def PW(X:Cx)(e:Expr)(t:TT):Prop :=
 ∀(whole:Sem eE)(pins:List (eF×Obj))(s:eB)(σ:St)(H:Hp)(Q:Bool->Hp->Prop),ZD X pins σ H s->t σ H Q->wpAny (model X.prog X.w) X.A (isTrue e X.env whole) (TP X pins σ Q) X.xe s
theorem PW.pt(h:PW X e t):PT X e t:=h _
def PA(X:Cx)(es:List Expr)(t:TA):Prop :=
 ∀(pos:Pos)(pins:List (eF×Obj))(s:eB)(σ:St)(H:Hp)(Q:List V->Hp->Prop),ZD X pins σ H s->t σ H Q->wpAny (model X.prog X.w) X.A (spliced (backTo pos (starEach es X.env))) (AP X pins σ Q) X.xe s
def PS(X:Cx)(st:Stmt)(t:TS):Prop :=
 ∀(pins:List (eF×Obj))(s:eB)(σ:St)(H:Hp)(D:YI),ZD X pins σ H s->t D σ H->wpAny (model X.prog X.w) X.A (exec st X.env) (SP X pins D) X.xe s
def UW(X:Cx)(st:List Stmt)(t:TS):Prop :=
 ∀(pins:List (eF×Obj))(s:eB)(σ:St)(H:Hp)(D:YI),ZD X pins σ H s->t D σ H->wpAny (model X.prog X.w) X.A (execs st X.env) (SP X pins D) X.xe s
theorem thn{α:Type}{t:Sem α}{Q Q' : α->eB->Prop}(h:wpAny M A t Q E s)(hQ:∀a s,Q a s->Q' a s):wpAny M A t Q' E s:=wpAny_mono h hQ fun _ _ x=>x
end L2
namespace L2
open PySem PySem.Spec PyProof.Rows
section
variable{X:Cx}
inductive YH(i:Nat)(σ:St)(H:Hp)(Q:VK):Prop
 |mk(v)(_:σ[i]? = some (some v))(_:Q v H)
def tC(v:V):TE:=fun _ H Q=>Q v H
theorem Di{i:Nat}{x:Str}{pos:Pos}(hN:X.N[i]? = some x)(hv:Cd X.env.scope x)(hd:(x == ("__debug__" : Str))=false:=by decide)(hcd:(x == ("__classdict__" : Str))=false:=by decide):PE X (.Name x pos) (YH i):=by
 intro pins s σ H Q I h;obtain⟨v,e,h⟩:=h;obtain⟨m,hn,hl⟩:=I.loc;obtain⟨u,r,l⟩:=hl i x v hN e hv;have fin:EP X pins σ Q u s:=⟨v,H,I,r,h⟩;rcases l with⟨hk,hm⟩ | ⟨hk,c,hc,hcell⟩
 ·exact wpAny_Name (wpAny_loadName_local I.ok.kind hk hn hm fin) hd
 ·rcases hk with hk | hk
  ·exact wpAny_Name (wpAny_loadName_cell I.ok.kind hk hc hcell fin) hd
  ·exact wpAny_Name (wpAny_loadName_free I.ok.kind hk hc hcell fin hcd) hd
theorem Xg {i j pos}:PE X (.Constant (.int i) j pos) (tC (.int i)):=fun _ _ _ H _ I h=>wpAny_Constant_int ⟨.int i,H,I.tok _,⟨_,rfl⟩,h⟩
theorem Ou {b j pos}:PE X (.Constant (.bool b) j pos) (tC (.bl b)):=fun _ _ _ H _ I h=>Constant_bool ⟨.bl b,H,I,rfl,h⟩
theorem On {j pos}:PE X (.Constant .none j pos) (tC .non):=fun _ _ _ H _ I h=>Constant_none ⟨.non,H,I,rfl,h⟩
theorem cW {x j pos}:PE X (.Constant (.str x) j pos) (tC (.str x)):=fun _ _ _ H _ I h=>Calls.Constant_str ⟨.str x,H,I.tok _,⟨_,rfl⟩,h⟩
def Gl(X:Cx)(x:Str):Prop:=X.env.kindOf x=some .globalImplicit
theorem Bc{E:dU}{pins:List (eF×Obj)}{s:eB}{σ:St}{H:Hp}{x:Str}{u:eE}{pos:Pos}{Q:dU}(I:ZD X pins σ H s)(hg:Gl X x)(hm:X.mg x=some u)(h:Q u s)(hd:(x == ("__debug__" : Str))=false:=by decide):wpAny (model X.prog X.w) X.A (eval (.Name x pos) X.env) Q E s :=
 Calls.Name_function_global I.ok.kind hg (Calls.loadGlobal_global (by rw[I.ok.glob];exact I.mod.glob.keeps I.bk) hm h) hd
theorem JE{E:dU}{pins:List (eF×Obj)}{s:eB}{σ:St}{H:Hp}{x:Str}{u:eE}{pos:Pos}{Q:dU}(I:ZD X pins σ H s)(hg:Gl X x)(hm:X.mg x=none)(hv:bootBuiltins x=some u)(h:Q u s)(hn:x ≠ "__name__" := by decide)(hd:(x == ("__debug__" : Str))=false:=by decide):wpAny (model X.prog X.w) X.A (eval (.Name x pos) X.env) Q E s:=by
 obtain⟨mb,h1,h2⟩:=I.mod.blt;exact Calls.Name_function_global I.ok.kind hg (Calls.loadGlobal_builtin (by rw[I.ok.glob];exact I.mod.glob.keeps I.bk) hm (by rw[I.ok.blt];exact h1.keeps I.bk) ((h2 x hn).trans hv) h) hd
theorem XR(hg:Gl X x)(hm:X.mg x=some u)(r:ZG v u)(hd:(x == ("__debug__" : Str))=false:=by decide):PE X (.Name x pos) (tC v) :=
 fun _ _ _ H _ I h=>Bc I hg hm ⟨v,H,I,r,h⟩ hd
theorem Np{x:Str}{v:V}{u:eE}{pos:Pos}(hg:Gl X x)(hm:X.mg x=none)(hv:bootBuiltins x=some u)(r:ZG v u)(hn:x ≠ "__name__" := by decide)(hd:(x == ("__debug__" : Str))=false:=by decide):PE X (.Name x pos) (tC v) :=
 fun _ _ _ H _ I h=>JE I hg hm hv ⟨v,H,I,r,h⟩ hn hd
variable{a b:Expr}{ta tb:TE}{pos:Pos}
inductive bC(Q:Bool->Hp->Prop)(x:V)(H1:Hp):Prop
 |mk(c)(_:x = .bl c)(_:Q c H1)
def tB(t:TE):TT:=fun σ H Q=>t σ H fun x H1=>bC Q x H1
theorem Sf(h:PE X e t)(he:∀whole,isTrue e X.env whole=(do let v ← whole;standAt e.pos;holding [v] (truthy v)):=by intro _;rfl):PT X e (tB t):=by
 intro pins s σ H Q I hw;refine isTrue_plain (thn (h pins s σ H _ I hw) fun v s1 ⟨x,H1,I1,r1,q1⟩=>?_) (he _);obtain⟨d,rfl,q⟩:=q1;cases r1;exact wpAny_truthy_bool ⟨H1,I1,q⟩
variable{tA tB':TT}{rest:List Expr}
def HQ(t u:TT):TT:=fun σ H Q=>t σ H fun c H1=>if c=true then u σ H1 Q else Q false H1
def K3(t u:TT):TT:=fun σ H Q=>t σ H fun c H1=>if c=true then Q true H1 else u σ H1 Q
def Gg(t:TT):TT:=fun σ H Q=>t σ H fun c H1=>Q (!c) H1
theorem Oz(ha:PT X a tA):PW X (.BoolOp .And [a] pos) tA:=by
 intro wh pins s σ H Q I h;refine isTrue_and (thn (ha pins s σ H Q I h) fun c s1 e=>?_);cases c with
 | true=>exact isTrue_and_nil e
 | false=>exact e
theorem LN(ha:PT X a tA):PW X (.BoolOp .Or [a] pos) tA:=by
 intro wh pins s σ H Q I h;refine isTrue_or (thn (ha pins s σ H Q I h) fun c s1 e=>?_);cases c with
 | false=>exact isTrue_or_nil e
 | true=>exact e
theorem Mz(ha:PT X a tA)(hb:PW X (.BoolOp .And (b::rest) pos) tB'):PW X (.BoolOp .And (a::b::rest) pos) (HQ tA tB'):=by
 intro wh pins s σ H Q I h;refine isTrue_and (thn (ha pins s σ H _ I h) fun c s1 ⟨H1,I1,q1⟩=>?_);cases c with
 | true=>exact hb wh pins s1 σ H1 Q I1 q1
 | false=>exact⟨H1,I1,q1⟩
theorem bV(ha:PT X a tA)(hb:PW X (.BoolOp .Or (b::rest) pos) tB'):PW X (.BoolOp .Or (a::b::rest) pos) (K3 tA tB'):=by
 intro wh pins s σ H Q I h;refine isTrue_or (thn (ha pins s σ H _ I h) fun c s1 ⟨H1,I1,q1⟩=>?_);cases c with
 | true=>exact⟨H1,I1,q1⟩
 | false=>exact hb wh pins s1 σ H1 Q I1 q1
theorem PX(ha:PT X a tA):PT X (.UnaryOp .Not a pos) (Gg tA):=by
 intro pins s σ H Q I h;exact isTrue_not (ha pins s σ H (fun c H1=>Q (!c) H1) I h)
inductive AB(tb:TE)(σ:St)(Q:VK)(x:V)(H1:Hp):Prop
 |mk(c)(_:x = .bl c)(_:if c=true then tb σ H1 Q else Q (.bl false) H1)
def GO(ta tb:TE):TE:=fun σ H Q=>ta σ H fun x H1=>AB tb σ Q x H1
inductive AR(Q:VK)(x:V)(H1:Hp):Prop
 |mk(c)(_:x = .bl c)(_:Q (.bl (!c)) H1)
def K7(ta:TE):TE:=fun σ H Q=>ta σ H fun x H1=>AR Q x H1
theorem MP {op} (h:PE X a t):PE X (.BoolOp op [a] pos) t:=fun pins s σ H Q I hw=>BoolOp_one (h pins s σ H Q I hw)
theorem PV(ha:PE X a ta)(hb:PE X (.BoolOp .And (b::rest) pos) tb):PE X (.BoolOp .And (a::b::rest) pos) (GO ta tb):=by
 intro pins s σ H Q I h;refine BoolOp_and (thn (ha pins s σ H _ I h) fun v s1 ⟨x,H1,I1,r1,q1⟩=>?_);obtain⟨c,rfl,q1⟩:=q1;cases r1;refine wpAny_truthy_bool ?_;cases c with
 | true=>exact hb pins s1 σ H1 Q I1 q1
 | false=>exact⟨.bl false,H1,I1,rfl,q1⟩
theorem XC(ha:PE X a ta):PE X (.UnaryOp .Not a pos) (K7 ta):=by
 intro pins s σ H Q I h;refine UnaryOp_ (thn (ha pins s σ H _ I h) fun v s1 ⟨x,H1,I1,r1,q1⟩=>?_);obtain⟨c,rfl,q1⟩:=q1;cases r1;exact not_of (wpAny_truthy_bool ⟨.bl (!c),H1,I1,rfl,q1⟩)
def KG(t:TT)(ta tb:TE):TE:=fun σ H Q=>t σ H fun c H1=>if c=true then ta σ H1 Q else tb σ H1 Q
theorem Mp(hc:PT X c tA)(ha:PE X a ta)(hb:PE X b tb):PE X (.IfExp c a b pos) (KG tA ta tb):=by
 intro pins s σ H Q I h;refine wpAny_IfExp (thn (hc pins s σ H _ I h) fun d s1 ⟨H1,I1,q1⟩=>?_);cases d with
 | true=>exact ha pins s1 σ H1 Q I1 q1
 | false=>exact hb pins s1 σ H1 Q I1 q1
end
end L2
namespace L2
open PySem PySem.Spec PyProof.Rows
def ZE(K:uFg)(H:Hp)(a:eF)(xs:List V):Prop :=
 Rd H a (.lst xs)\/
  ∃o its n,K.lookup a=some o/\o.cls = .type "list" /\ o.dict=none/\o.data = .seq its n/\its.size<=sizeLine/\ZH xs its.toList
def ZT(K:uFg)(H:Hp)(a:eF)(xs:List V):Prop :=
 Rd H a (.tup xs)\/
  ∃o its n,K.lookup a=some o/\o.cls = .type "tuple" /\ o.data = .seq its n/\its.size<=sizeLine/\ZH xs its.toList
def LQ:eE->Option V
 | .none=>some .non
 | .bool b=>some (.bl b)
 | .int i _=>some (.int i)
 | .str x _=>some (.str x)
 | .bytes b _=>some (.byt b)
 | .float b _=>some (.flt b)
 | .ref a=>some (.ref a)
 | .type n=>some (.ty n)
 | _=>none
theorem ZG.abs(r:ZG x u):LQ u=some x:=by
 cases x with
 | non=>cases r;rfl
 | bl _=>cases r;rfl
 | int _=>obtain⟨t,rfl⟩:=r;rfl
 | str _=>obtain⟨t,rfl⟩:=r;rfl
 | byt _=>obtain⟨t,rfl⟩:=r;rfl
 | flt _=>obtain⟨t,rfl⟩:=r;rfl
 | ref _=>cases r;rfl
 | ty _=>cases r;rfl
theorem ZG.inj(r:ZG x u)(q:ZG y u):x=y:=Option.some.inj (r.abs.symm.trans q.abs)
theorem ZH.inj:∀{xs ys:List V}{us:dY},ZH xs us->ZH ys us->xs=ys
 | _,_,_,.nil,.nil=>rfl
 | _,_,_,.cons r t,.cons r' t'=>by rw[r.inj r',ZH.inj t t']
section
variable{X:Cx}{pins:List (eF×Obj)}{σ:St}{H:Hp}{s:eB}{a:eF}{xs ys:List V}
theorem ZE.of{K:uFg}(h:H a=some (.lst xs)):ZE K H a xs:=.inl (.inl h)
theorem ZT.of{K:uFg}(h:H a=some (.tup xs)):ZT K H a xs:=.inl (.inl h)
theorem ZD.list(I:ZD X pins σ H s)(h:ZE X.K H a xs):∃its:List eE,ZH xs its/\PlainL s.heap a its.toArray/\xs.length<=sizeLine:=by
 rcases h with h | ⟨o,its,n,hk,hc,hd,hs,hz,r⟩
 ·obtain⟨z,its,n,r,e⟩:=h.ok I.hok;exact⟨its,r,⟨_,n,e,rfl,rfl,rfl⟩,z⟩
 ·refine⟨its.toList,r,⟨o,n,I.kIn a o hk,hc,hd,by simpa using hs⟩,?_⟩;have e:=r.length;simp only[Array.length_toList] at e;lia
theorem ZD.tuple(I:ZD X pins σ H s)(h:ZT X.K H a xs):∃its:List eE,ZH xs its/\IsTup s.heap a its.toArray/\xs.length<=sizeLine:=by
 rcases h with h | ⟨o,its,n,hk,hc,hs,hz,r⟩
 ·obtain⟨z,its,r,p⟩:=h.ok I.hok;exact⟨its,r,p,z⟩
 ·refine⟨its.toList,r,⟨o,I.kIn a o hk,hc,n,by simpa using hs⟩,?_⟩;have e:=r.length;simp only[Array.length_toList] at e;lia
theorem ZD.list_inj(I:ZD X pins σ H s)(h:ZE X.K H a xs)(h':ZE X.K H a ys):xs=ys:=by
 obtain⟨its,r,⟨o,n,e,_,_,d⟩,_⟩:=I.list h;obtain⟨its',r',⟨o',n',e',_,_,d'⟩,_⟩:=I.list h';rw[e] at e';cases e';rw[d] at d';injection d' with d1 _
 have:its=its':=by simpa using congrArg Array.toList d1
 subst this;exact r.inj r'
theorem ZD.tuple_inj(I:ZD X pins σ H s)(h:ZT X.K H a xs)(h':ZT X.K H a ys):xs=ys:=by
 obtain⟨its,r,⟨o,e,_,n,d⟩,_⟩:=I.tuple h;obtain⟨its',r',⟨o',e',_,n',d'⟩,_⟩:=I.tuple h';rw[e] at e';cases e';rw[d] at d';injection d' with d1 _
 have:its=its':=by simpa using congrArg Array.toList d1
 subst this;exact r.inj r'
end
abbrev Cx.wish(X:Cx)(E:dU):Cx:={X with xe:=E }
abbrev Cx.nox(X:Cx):Cx:=X.wish fun _ _=>False
theorem Cx.Ok.wish{X:Cx}(ok:X.Ok)(E:dU):(X.wish E).Ok :=
 ⟨ok.mod,ok.kind,ok.glob,ok.blt,ok.above,ok.inj,ok.has,ok.cab,ok.hd,ok.frames,ok.stk,ok.exf,ok.bs,ok.bsz,ok.noex,ok.exfs,ok.funs,ok.frf⟩
theorem Cx.Ok.unwish{X:Cx}{E:dU}(ok:(X.wish E).Ok):X.Ok :=
 ⟨ok.mod,ok.kind,ok.glob,ok.blt,ok.above,ok.inj,ok.has,ok.cab,ok.hd,ok.frames,ok.stk,ok.exf,ok.bs,ok.bsz,ok.noex,ok.exfs,ok.funs,ok.frf⟩
section
variable{X:Cx}{pins:List (eF×Obj)}{σ:St}{H:Hp}{s:eB}{E:dU}
theorem ZD.wish(I:ZD X pins σ H s)(E:dU):ZD (X.wish E) pins σ H s:=⟨I.ok.wish E,I.os,I.bare,I.base,I.loc,I.cell,I.free,I.freeC,I.pin,I.hok,I.len⟩
theorem ZD.unwish(I:ZD (X.wish E) pins σ H s):ZD X pins σ H s:=⟨I.ok.unwish,I.os,I.bare,I.base,I.loc,I.cell,I.free,I.freeC,I.pin,I.hok,I.len⟩
theorem SP.unwish(h:SP (X.wish E) pins D f s'):SP X pins D f s':=by
 cases f with
 | next=>obtain⟨σ',H',I,q⟩:=h;exact⟨σ',H',I.unwish,q⟩
 | brk=>obtain⟨σ',H',I,q⟩:=h;exact⟨σ',H',I.unwish,q⟩
 | cont=>obtain⟨σ',H',I,q⟩:=h;exact⟨σ',H',I.unwish,q⟩
 | ret u=>obtain⟨v,σ',H',I,r,q⟩:=h;exact⟨v,σ',H',I.unwish,r,q⟩
theorem UW.nox{st:List Stmt}{t:TS}(h:UW X.nox st t):UW X st t:=fun pins s σ H D I hw =>
 wpAny_mono (h pins s σ H D (I.wish _) hw) (fun _ _ q=>q.unwish) fun _ _ z=>False.elim z
end
section
variable{X:Cx}{st:Stmt}{rest:List Stmt}{t u:TS}{te:TE}
def Yu:TS:=fun D σ H=>D.nx σ H
def V9(t u:TS):TS:=fun D σ H=>t {D with nx:=u D } σ H
theorem Ls:UW X [] Yu:=fun _ _ σ H _ I h=>wpAny_execs_nil ⟨σ,H,I,h⟩
theorem L5(h1:PS X st t)(h2:UW X rest u):UW X (st::rest) (V9 t u):=by
 intro pins s σ H D I h;refine wpAny_execs_cons (thn (h1 pins s σ H {D with nx:=u D } I h) fun f s1 q=>?_);cases f with
 | next =>
  obtain⟨σ',H',I',q⟩:=q;exact h2 pins s1 σ' H' D I' q
 | ret v=>exact q
 | brk=>exact q
 | cont=>exact q
theorem Ss(h1:PS X st t):UW X [st] t:=by
 intro pins s σ H D I h;refine wpAny_execs_cons (thn (h1 pins s σ H D I h) fun f s1 q=>?_);cases f with
 | next=>exact wpAny_execs_nil q
 | ret v=>exact q
 | brk=>exact q
 | cont=>exact q
theorem ZD.quiet{pins:List (eF×Obj)}{σ:St}{H:Hp}{s:eB}(I:ZD X pins σ H s):interactive X.env=false:=by simp[interactive,I.ok.kind]
def De(te:TE):TS:=fun D σ H=>te σ H fun _ H1=>D.nx σ H1
theorem NZ(he:PE X e te)(hs:swapsWith e none pos.line X.env=pure false:=by rfl):PS X (.Expr e pos) (De te):=by
 intro pins s σ H D I h;exact wpAny_Expr_any (thn (he pins s σ H _ I h) fun v s1 ⟨x,H1,I1,r1,q1⟩=>⟨σ,H1,I1,q1⟩) I.quiet hs
def Kh(te:TE):TS:=fun D σ H=>te σ H D.rt
theorem Xe(he:PE X e te):PS X (.Return (some e) pos) (Kh te):=by
 intro pins s σ H D I h;exact wpAny_Return_some (thn (he pins s σ H _ I h) fun v s1 ⟨x,H1,I1,r1,q1⟩=>⟨x,σ,H1,I1,r1,q1⟩)
def BI(c:TT)(t u:TS):TS:=fun D σ H=>c σ H fun b H1=>if b=true then t D σ H1 else u D σ H1
theorem Rf(hc:PT X c tc)(ha:UW X a t)(hb:UW X b u):PS X (.If c a b pos) (BI tc t u):=by
 intro pins s σ H D I h;refine wpAny_If (thn (hc pins s σ H _ I h) fun d s1 ⟨H1,I1,q1⟩=>?_);cases d with
 | true=>exact ha pins s1 σ H1 D I1 q1
 | false=>exact hb pins s1 σ H1 D I1 q1
end
abbrev TG:=V->St->Hp->(St->Hp->Prop)->Prop
abbrev Jf:=List V->St->Hp->(St->Hp->Prop)->Prop
def PG(X:Cx)(target:Expr)(t:TG):Prop :=
 ∀(pins:List (eF×Obj))(s:eB)(σ:St)(H:Hp)(v:V)(u:eE)(Q:St->Hp->Prop),ZD X pins σ H s->ZG v u->t v σ H Q ->
  wpAny (model X.prog X.w) X.A (assign target X.env u) (fun _ s'=>∃ σ' H',ZD X pins σ' H' s'/\Q σ' H') X.xe s
def B6(X:Cx)(ts:List Expr)(t:Jf):Prop :=
 ∀(pins:List (eF×Obj))(s:eB)(σ:St)(H:Hp)(vs:List V)(us:dY)(Q:St->Hp->Prop),ZD X pins σ H s->ZH vs us->t vs σ H Q ->
  wpAny (model X.prog X.w) X.A (assignInOrder ((assignEach ts X.env).map (·.2)) us) (fun _ s'=>∃ σ' H',ZD X pins σ' H' s'/\Q σ' H') X.xe s
abbrev Dl:=V->V->V->Hp->(Hp->Prop)->Prop
def Eu(X:Cx)(t:Dl):Prop :=
 ∀(pins:List (eF×Obj))(s:eB)(σ:St)(H:Hp)(o i v:V)(ov iv u:eE)(Q:Hp->Prop),ZD X pins σ H s->ZG o ov->ZG i iv->ZG v u->t o i v H Q ->
  wpAny (model X.prog X.w) X.A (setItem ov iv u) (fun _ s'=>∃H',ZD X pins σ H' s'/\Q H') X.xe s
section
variable{X:Cx}{pos:Pos}
def Wg(i:Nat):TG:=fun v σ H Q=>Q (σ.set i (some v)) H
theorem Ed(hN:X.N.Nodup)(hi:X.N[i]? = some x)(hx:CP X.env.scope x)(hf:X.fn x=true\/X.env.scope.names.lookup x=some .local:=by first | exact .inl rfl | exact .inr rfl | assumption):PG X (.Name x pos) (Wg i):=by
 intro pins s σ H v u Q I r h;exact wpAny_assign_Name (Ec I hN hi hx r (fun s' I'=>⟨_,H,I',h⟩) hf)
def Dv:Jf:=fun vs σ H Q=>vs = []/\Q σ H
inductive VR(t:TG)(u:Jf)(vs:List V)(σ:St)(H:Hp)(Q:St->Hp->Prop):Prop
 |mk(v r)(_:vs=v::r)(_:t v σ H fun σ' H'=>u r σ' H' Q)
theorem Xf:B6 X [] Dv:=by
 intro pins s σ H vs us Q I r h;obtain⟨e,h⟩:=h;subst e;cases r;exact assignInOrder_nil ⟨σ,H,I,h⟩
theorem RJ(h1:PG X e t)(h2:B6 X es u)(hs:(assignEach (e::es) X.env).map (·.2)=assign e X.env::(assignEach es X.env).map (·.2):=by rfl):B6 X (e::es) (VR t u):=by
 intro pins s σ H vs us Q I r h;obtain⟨v,vr,e1,h⟩:=h;subst e1;cases r with
 | cons r rr =>
  rw[hs];refine assignInOrder_cons (thn (h1 pins s σ H _ _ _ I r h) fun _ s1 ⟨σ1,H1,I1,q1⟩=>?_);exact h2 pins s1 σ1 H1 _ _ Q I1 rr q1
inductive Jg(K:uFg)(n:Nat)(t:Jf)(v:V)(σ:St)(H:Hp)(Q:St->Hp->Prop):Prop
 |mk(a xs)(_:v = .ref a)(_:ZT K H a xs)(_:xs.length=n)(_:t xs σ H Q)
theorem HS{es:List Expr}{k:Nat}{t:Jf}{n:Nat}(hc:X.calm=true)(h:B6 X es t)(hn:(assignEach es X.env).length=n:=by rfl)(hst:(assignEach es X.env).findIdx? (·.1)=none:=by rfl):PG X (.Tuple es k pos) (Jg X.K n t):=by
 intro pins s σ H v u Q I r hw;obtain⟨a,xs,e1,hq,hl,hw⟩:=hw;subst e1;cases r;obtain⟨its,rv,ht,hz⟩:=I.tuple hq;refine assign_Tuple_tuple (I.ok.hd hc) ht (by simp[hn,← hl,rv.length]) hst fun h' hx=>?_;have I1:ZD X pins σ H {s with heap:=h' }:=I.kept (t':=s.toks) fun b o e=>hx b o (yG (xQ e)) e;exact h pins _ σ H xs _ Q I1 (by simpa using rv) hw
def Fs(to ti:TE)(t:Dl):TG:=fun v σ H Q=>to σ H fun o H1=>ti σ H1 fun i H2=>t o i v H2 fun H3=>Q σ H3
theorem OA(ho:PE X o to)(hi:PE X i ti)(hs:Eu X t)(ha:∀v,assign (.Subscript o i pos) X.env v=(do
   let ov ← holding [v] (eval o X.env)
   let iv ← holding [v,ov] (eval i X.env)
   standAt pos
   holding [v,ov,iv] (setItem ov iv v)
   release [v,ov,iv] []):=by intro _;rfl):PG X (.Subscript o i pos) (Fs to ti t):=by
 intro pins s σ H v u Q I r h;rw[ha];refine wpAny_bind (wpAny_holding (thn (ho pins s σ H _ I h) fun ov s1 ⟨x,H1,I1,r1,q1⟩=>?_));refine wpAny_bind (wpAny_holding (thn (hi pins s1 σ H1 _ I1 q1) fun iv s2 ⟨y,H2,I2,r2,q2⟩=>?_));refine wpAny_bind (wpAny_standAt (wpAny_bind (wpAny_holding (thn (hs pins s2 σ H2 x y v ov iv u _ I2 r1 r2 r q2) fun _ s3 ⟨H3,I3,q3⟩=>?_))));exact wpAny_release ⟨σ,H3,I3,q3⟩
def U0(te:TE)(g:TG):TS:=fun D σ H=>te σ H fun x H1=>g x σ H1 D.nx
theorem PB{tg e:Expr}{te:TE}{g:TG}(he:PE X e te)(hg:PG X tg g)(hs:swapsWithSole [tg] e pos.line X.env=pure false:=by rfl)(hw:swappedStores [tg] e X.env=pure none:=by rfl)(h1:(assignEach [tg] X.env).map (·.2)= [assign tg X.env]:=by rfl):PS X (.Assign [tg] e pos) (U0 te g):=by
 intro pins s σ H D I h;refine wpAny_Assign_stores (thn (he pins s σ H _ I h) fun v s1 ⟨x,H1,I1,r1,q1⟩=>?_) hs hw;rw[h1];exact thn (hg pins s1 σ H1 x v _ I1 r1 q1) fun _ s2 q=>q
theorem Hk{i:Nat}{x:Str}{e:Expr}{te:TE}{pos':Pos}(hN:X.N.Nodup)(hi:X.N[i]? = some x)(hx:CP X.env.scope x)(he:PE X e te)(hs:swapsWith e (some (.Name x pos')) pos.line X.env=pure false:=by rfl)(hf:X.fn x=true\/X.env.scope.names.lookup x=some .local:=by first | exact .inl rfl | exact .inr rfl | assumption) :
  PS X (.Assign [.Name x pos'] e pos) (U0 te (Wg i)):=by
 intro pins s σ H D I h;refine wpAny_Assign_Name (thn (he pins s σ H _ I h) fun v s1 ⟨y,H1,I1,r1,q1⟩=>?_) hs;exact Ec I1 hN hi hx r1 (fun s2 I2=>⟨_,H1,I2,q1⟩) hf
end
def Gw(c:TT)(tb:TS):TS:=fun D σ H=>∃W:Nat->St->Hp->Prop,(∃m,W m σ H)/\∀m σ H,W m σ H ->
 c σ H fun b H1=>if b=true then ∃N:St->Hp->Prop,(∀ σ' H',N σ' H'->∃m',m' < m/\W m' σ' H')/\tb {D with nx:=N,ct:=N,bk:=D.nx } σ H1 else D.nx σ H1
theorem LW(hp:PassesOwn (model X.prog X.w) X.A X.env X.xe)(hc:PT X c tc)(hb:UW X body tb):PS X (.While c body [] pos) (Gw tc tb):=by
 intro pins s σ H D I h;obtain⟨W,⟨m0,w0⟩,turn⟩:=h;refine wpAny_While (codeAny_whileLoop (fun n s'=>∃ σ' H',ZD X pins σ' H' s'/\W n σ' H') ?_ m0 ⟨σ,H,I,w0⟩);rintro n s1 ⟨σ1,H1,I1,w1⟩;refine wpAny_passesOwn hp (thn (hc pins s1 σ1 H1 _ I1 (turn n σ1 H1 w1)) fun b s2 ⟨H2,I2,q2⟩=>?_);cases b with
 | true =>
  obtain⟨N,hN,q2⟩:=q2;rw[if_pos rfl];refine wpAny_passesOwn hp (thn (hb pins s2 σ1 H2 _ I2 q2) fun f s3 q3=>?_);cases f with
  | next =>
   obtain⟨σ3,H3,I3,n3⟩:=q3;obtain⟨m',hm,w3⟩:=hN σ3 H3 n3;exact⟨m',hm,σ3,H3,I3,w3⟩
  | cont =>
   obtain⟨σ3,H3,I3,n3⟩:=q3;obtain⟨m',hm,w3⟩:=hN σ3 H3 n3;exact⟨m',hm,σ3,H3,I3,w3⟩
  | brk=>exact q3
  | ret v=>exact q3
 | false =>
  rw[if_neg xM];exact wpAny_execs_nil ⟨σ1,H2,I2,q2⟩
structure It where
 go:Nat->Hp->Prop
 yld:Nat->Hp->V->Hp->Prop
 stop:Nat->Hp->Prop
def Vq(X:Cx)(pins:List (eF×Obj))(H:Hp)(b:eF):Prop :=
 H b=none/\b≠X.env.locals/\b∉X.fs/\(b∈X.ex\/X.s₀.heap.objs.size<=b)/\(∀x c,X.env.cells.lookup x=some c->c≠b)/\∀p∈X.pn++pins,p.1≠b
theorem ZD.fpOk{X:Cx}{pins:List (eF×Obj)}{σ:St}{H H':Hp}{s:eB}{b:eF}(I:ZD X pins σ H s)(hb:s.heap.objs.size<=b)(hn:H' b=none):Vq X pins H' b:=by
 refine⟨hn,Nat.ne_of_gt (yH I.lt hb),I.nofs hb,.inr (xX I.sz hb),fun x c e z=>?_,fun p hp z=>?_⟩
 ·obtain⟨v,q⟩:=I.cell x c e;exact absurd (yH q.lt (by rw[z];exact hb)) (zJ _)
 ·exact absurd (yH (xQ (I.pin p hp).1) (by rw[z];exact hb)) (zJ _)
structure VI (P:eG) (w:eI) (K:uFg) (tg:Expr) (J:It) (fp:eA) (it:eF) (tn:Nat->Heap->Prop):Prop where
 mem:it∈fp
 obj:∀i h,tn i h->∀b∈fp,∃o,h.get? b=some o/\∀v,o.data ≠ .cell v
 keep:∀i h h',tn i h->(∀b∈fp,∀o,h.get? b=some o->h'.get? b=some o)->tn i h'
 item:∀(X:Cx),X.prog=P->X.w=w->X.K=K->X.calm=true->∀(i:Nat)(pins:List (eF×Obj))(s:eB)(σ:St)(H:Hp)(E:dU),ZD X pins σ H s->(∀b∈fp,Vq X pins H b)->tn i s.heap->J.go i H ->
  wpAny (model P w) X.A (pyNext (.ref it)) (fun r s1=>∃u,r=some u /\
   wpAny (model P w) X.A (letOwnedTupleGo tg (.ref it) u) (fun _ s2=>∃x H',ZD X pins σ H' s2/\ZG x u/\J.yld i H x H'/\tn (i+1) s2.heap/\∀b∈fp,H' b=none) E s1) E s
 done:∀(X:Cx),X.prog=P->X.w=w->X.K=K->X.calm=true->∀(i:Nat)(pins:List (eF×Obj))(s:eB)(σ:St)(H:Hp)(E:dU),ZD X pins σ H s->(∀b∈fp,Vq X pins H b)->tn i s.heap->J.stop i H ->
  wpAny (model P w) X.A (pyNext (.ref it)) (fun r s1=>r=none/\ZD X pins σ H s1) E s
 self:∀(A:eJ)(i:Nat)(s:eB)(Q:dU)(E:dU),tn i s.heap->Q (.ref it) s->wpAny (model P w) A (pyIter (.ref it)) Q E s
abbrev TI:=St->Hp->(It->Hp->Prop)->Prop
def Ep(X:Cx)(pins:List (eF×Obj))(σ:St)(tg:Expr)(R:It->Hp->Prop)(itv:eE)(s2:eB):Prop :=
 ∃it fp tn J H',itv = .ref it/\ZD X pins σ H' s2/\VI X.prog X.w X.K tg J fp it tn/\tn 0 s2.heap/\(∀b∈fp,Vq X pins H' b)/\R J H'
def PI(X:Cx)(tg iter:Expr)(wi:TI):Prop :=
 ∀(pins:List (eF×Obj))(s:eB)(σ:St)(H:Hp)(R:It->Hp->Prop),ZD X pins σ H s->wi σ H R ->
  wpAny (model X.prog X.w) X.A (eval iter X.env) (fun v s1=>wpAny (model X.prog X.w) X.A (pyIter v) (Ep X pins σ tg R) X.xe s1) X.xe s
theorem Bj(ho:s.heap.get? it=some o)(hc:o.cls = .type n)(hd:o.data = .fields vs)(hn : ["enumerate","zip","dict_itemiterator","dict_reverseitemiterator","odict_iterator","itertools.zip_longest","itertools.pairwise"].contains n=false)(hQ:Q () s):wpAny M A (letOwnedTupleGo tg (.ref it) u) Q E s:=by
  unfold letOwnedTupleGo;cases tg<;>first
    | exact wpAny_pure hQ
    | (cases u<;>first
        | exact wpAny_pure hQ
        | (refine wpAny_bind (wpAny_load ho ?_)
           rw[hc,hd];show wpAny M A (if (["enumerate","zip","dict_itemiterator","dict_reverseitemiterator","odict_iterator","itertools.zip_longest","itertools.pairwise"].contains n && vs[0]? == some (rawInt _))=true then _ else _) Q E s;rw[if_neg (by intro h;rw[hn,zS] at h;cases h)]
           exact wpAny_pure hQ))
def Jx(K:uFg)(a:eF):It :=
 ⟨fun i H=>∃xs x,ZE K H a xs/\xs[i]? = some x,fun i H x H'=>H'=H/\∀xs,ZE K H a xs->xs[i]? = some x,fun i H=>∃xs,ZE K H a xs/\xs.length<=i⟩
def Fg(K:uFg)(a:eF):It :=
 ⟨fun i H=>∃xs x,ZT K H a xs/\xs[i]? = some x,fun i H x H'=>H'=H/\∀xs,ZT K H a xs->xs[i]? = some x,fun i H=>∃xs,ZT K H a xs/\xs.length<=i⟩
def JT(lo:Int)(n:Nat):It:=⟨fun i _=>i < n,fun i H x H'=>H'=H/\x = .int (lo+i),fun i _=>n<=i⟩
theorem SL{P:eG}{w:eI}{K:uFg}{tg:Expr}(a it:eF):VI P w K tg (Jx K a) [it] it (fun i h=>h.IsListIter it a i) where
 mem:=by simp
 obj:=fun i h st b hb=>by
  have e:b=it:=by simpa using hb
  subst e;obtain⟨o,e,c,d⟩:=st;exact⟨o,e,fun v z=>by rw[d] at z;cases z⟩
 keep:=fun i h h' st k=>st.at fun o e=>k it (by simp) o e
 item:=by
  intro X hP hw hK hc i pins s σ H E I hf st hg;subst hP hw hK;obtain⟨xs,x,hq,hx⟩:=hg;obtain⟨its,rv,p,hz⟩:=I.list hq;obtain⟨u,hu,ru⟩:=rv.get hx;obtain⟨f0,f1,f2,f3,f4,f5⟩:=hf it (by simp);refine wpAny_pyNext_list_item st p.isList (x:=u) (by simpa using hu) fun h' st' sb=>?_;have I1:ZD X pins σ H {s with heap:=h' }:=I.turned (t':=s.toks) (fun b o hb e=>(sb.2 b hb).trans e) f0 f1 f3 f4 f5;obtain⟨o,e,c,d⟩:=id st';exact⟨u,rfl,Bj (s:={s with heap:=h' }) e c d (by decide) ⟨x,H,I1,ru,⟨rfl,fun ys hy=>by rw[I.list_inj hy hq];exact hx⟩,st',fun b hb=>(hf b hb).1⟩⟩
 done:=by
  intro X hP hw hK hc i pins s σ H E I hf st hg;subst hP hw hK;obtain⟨xs,hq,hx⟩:=hg;obtain⟨its,rv,p,hz⟩:=I.list hq;obtain⟨f0,f1,f2,f3,f4,f5⟩:=hf it (by simp);have hl:=rv.length;exact wpAny_pyNext_list_end (I.ok.hd hc) st p.isList (by simp;lia) fun h' eb=>⟨rfl,I.turned (t':=s.toks) (fun b o hb e=>eb b o hb e) f0 f1 f3 f4 f5⟩
 self:=fun _ _ _ _ _ st h=>wpAny_pyIter_listiter st h
theorem NM{P:eG}{w:eI}{K:uFg}{tg:Expr}(a it:eF):VI P w K tg (Fg K a) [it] it (fun i h=>h.IsTupleIter it a i) where
 mem:=by simp
 obj:=fun i h st b hb=>by
  have e:b=it:=by simpa using hb
  subst e;obtain⟨o,e,c,d⟩:=st;exact⟨o,e,fun v z=>by rw[d] at z;cases z⟩
 keep:=fun i h h' st k=>st.at fun o e=>k it (by simp) o e
 item:=by
  intro X hP hw hK hc i pins s σ H E I hf st hg;subst hP hw hK;obtain⟨xs,x,hq,hx⟩:=hg;obtain⟨its,rv,p,hz⟩:=I.tuple hq;obtain⟨u,hu,ru⟩:=rv.get hx;obtain⟨f0,f1,f2,f3,f4,f5⟩:=hf it (by simp);refine wpAny_pyNext_tuple_item st (show s.heap.IsTuple a its.toArray from p) (x:=u) (by simpa using hu) fun h' st' sb=>?_;have I1:ZD X pins σ H {s with heap:=h' }:=I.turned (t':=s.toks) (fun b o hb e=>(sb.2 b hb).trans e) f0 f1 f3 f4 f5;obtain⟨o,e,c,d⟩:=id st';exact⟨u,rfl,Bj (s:={s with heap:=h' }) e c d (by decide) ⟨x,H,I1,ru,⟨rfl,fun ys hy=>by rw[I.tuple_inj hy hq];exact hx⟩,st',fun b hb=>(hf b hb).1⟩⟩
 done:=by
  intro X hP hw hK hc i pins s σ H E I hf st hg;subst hP hw hK;obtain⟨xs,hq,hx⟩:=hg;obtain⟨its,rv,p,hz⟩:=I.tuple hq;obtain⟨f0,f1,f2,f3,f4,f5⟩:=hf it (by simp);have hl:=rv.length;exact wpAny_pyNext_tuple_end (I.ok.hd hc) st (show s.heap.IsTuple a its.toArray from p) (by simp;lia) fun h' eb=>⟨rfl,I.turned (t':=s.toks) (fun b o hb e=>eb b o hb e) f0 f1 f3 f4 f5⟩
 self:=fun _ _ _ _ _ st h=>wpAny_pyIter_tupleiter st h
theorem Oo{P:eG}{w:eI}{K:uFg}{tg:Expr}(it:eF)(lo:Int)(n:Nat):VI P w K tg (JT lo n) [it] it (fun i h=>IsRangeIter h it (lo+(i:Nat) * 1) ((n:Int) - (i:Nat)) 1) where
 mem:=by simp
 obj:=fun i h st b hb=>by grind
 keep:=fun i h h' st k=>k it (by simp) _ st
 item:=by
  intro X hP hw hK hc i pins s σ H E I hf st hg;subst hP hw hK;obtain⟨f0,f1,f2,f3,f4,f5⟩:=hf it (by simp);have W:=Walks.range (prog:=X.prog) (w:=X.w) (I.ok.hd hc) it lo 1 n;refine W.item i s _ _ hg st fun v h' tk hv st' kk=>?_;obtain⟨t,rfl⟩:=hv;have I1:ZD X pins σ H {s with heap:=h',toks:=tk }:=I.turned (fun b o hb e=>kk b o (by simpa using hb) e) f0 f1 f3 f4 f5;refine⟨_,rfl,Bj (s:={s with heap:=h',toks:=tk }) (n:="range_iterator") st' rfl rfl (by decide) ⟨.int (lo+i),H,I1,⟨t,?_⟩,⟨rfl,rfl⟩,st',fun b hb=>(hf b hb).1⟩⟩;rw[Int.mul_one]
 done:=by
  intro X hP hw hK hc i pins s σ H E I hf st hg;subst hP hw hK;obtain⟨f0,f1,f2,f3,f4,f5⟩:=hf it (by simp);exact wpAny_pyNext_range_end (I.ok.hd hc) st (by have:n<=i:=hg;lia) fun h' eb=>⟨rfl,I.turned (t':=s.toks) (fun b o hb e=>eb b o hb e) f0 f1 f3 f4 f5⟩
 self:=fun _ _ _ _ _ st h=>wpAny_pyIter_rangeiter st h
end L2
namespace L2
open PySem PySem.Spec PyProof.Rows
section
variable{X:Cx}{tg:Expr}
inductive AL(K:uFg)(R:It->Hp->Prop)(x:V)(H1:Hp):Prop
 |mk(a)(_:x = .ref a)(_:(∃xs,ZE K H1 a xs))(_:R (Jx K a) H1)
def Gx(K:uFg)(tl:TE):TI:=fun σ H R=>tl σ H fun x H1=>AL K R x H1
inductive BG(K:uFg)(R:It->Hp->Prop)(x:V)(H1:Hp):Prop
 |mk(a)(_:x = .ref a)(_:(∃xs,ZT K H1 a xs))(_:R (Fg K a) H1)
def FU(K:uFg)(tl:TE):TI:=fun σ H R=>tl σ H fun x H1=>BG K R x H1
theorem QN(hl:PE X l tl):PI X tg l (Gx X.K tl):=by
 intro pins s σ H R I h;refine thn (hl pins s σ H _ I h) fun v s1 ⟨x,H1,I1,r1,q1⟩=>?_;obtain⟨a,e,⟨xs,hq⟩,q⟩:=q1;subst e;cases r1;obtain⟨its,rv,p,hz⟩:=I1.list hq;refine wpAny_pyIter_list p.isList ?_;refine⟨s1.heap.objs.size,[s1.heap.objs.size],_,_,H1,rfl,I1.kept (t':=s1.toks) fun b o e=>xG _ e,SL a _,⟨_,xW _ rfl,rfl,rfl⟩,fun b hb=>?_,q⟩;have e:b=s1.heap.objs.size:=by simpa using hb
 subst e;exact I1.fpOk (xD _) (I1.hok.fresh (xD _))
theorem NK(hl:PE X l tl):PI X tg l (FU X.K tl):=by
 intro pins s σ H R I h;refine thn (hl pins s σ H _ I h) fun v s1 ⟨x,H1,I1,r1,q1⟩=>?_;obtain⟨a,e,⟨xs,hq⟩,q⟩:=q1;subst e;cases r1;obtain⟨its,rv,p,hz⟩:=I1.tuple hq;refine wpAny_pyIter_tuple (show s1.heap.IsTuple a its.toArray from p) ?_;refine⟨s1.heap.objs.size,[s1.heap.objs.size],_,_,H1,rfl,I1.kept (t':=s1.toks) fun b o e=>xG _ e,NM a _,⟨_,xW _ rfl,rfl,rfl⟩,fun b hb=>?_,q⟩;have e:b=s1.heap.objs.size:=by simpa using hb
 subst e;exact I1.fpOk (xD _) (I1.hok.fresh (xD _))
theorem MH{pins:List (eF×Obj)}{σ:St}{H:Hp}{s:eB}{R:It->Hp->Prop}{E:dU}{lo hi:Int}{t u v:Tok}{tk:Nat}(I:ZD X pins σ H s)(h1 : -(2 ^ 62)<=lo)(h2:lo < 2 ^ 62)(h3 : -(2 ^ 62)<=hi)(h4:hi < 2 ^ 62)(q:R (JT lo (hi - lo).toNat) H):wpAny (model X.prog X.w) X.A (pyIter (.ref s.heap.objs.size)) (Ep X pins σ tg R) E {s with heap:=s.heap.push {cls:=.type "range", data:=.fields #[.int lo t,.int hi u,.int 1 v] },toks:=tk }:=by
 refine wpAny_pyIter_range (IsRange.new ..) (small_one h1 h2 h3 h4) ?_;have I1:ZD X pins σ H {s with heap:=s.heap.push {cls:=.type "range", data:=.fields #[.int lo t,.int hi u,.int 1 v] },toks:=tk }:=I.kept fun b o e=>xG _ e;refine⟨(s.heap.push {cls:=.type "range", data:=.fields #[.int lo t,.int hi u,.int 1 v] }).objs.size,[(s.heap.push {cls:=.type "range", data:=.fields #[.int lo t,.int hi u,.int 1 v] }).objs.size],_,_,H,rfl, I1.kept (t':=tk) fun b o e=>xG _ e,Oo _ lo (hi - lo).toNat,?_,fun b hb=>?_,q⟩
 ·have e1:lo+((0:Nat):Int) * 1=lo:=by simp
  have e2:(((hi - lo).toNat:Nat):Int) - ((0:Nat):Int)=Builtin.Range.rangeSize lo hi 1:=by rw[rangeSize_one];split<;>lia
  show IsRangeIter _ _ (lo+((0:Nat):Int) * 1) ((((hi - lo).toNat:Nat):Int) - ((0:Nat):Int)) 1;rw[e1,e2];exact xW _ rfl
 ·have e:b=(s.heap.push {cls:=.type "range", data:=.fields #[.int lo t,.int hi u,.int 1 v] }).objs.size:=by simpa using hb
  subst e;exact I1.fpOk (xD _) (I1.hok.fresh (xD _))
inductive AI(R:It->Hp->Prop)(vs:List V)(H1:Hp):Prop
 |mk(j)(_:vs = [.int j])(_:-(2 ^ 62)<=j)(_:j < 2 ^ 62)(_:R (JT 0 j.toNat) H1)
def G0(ta:TA):TI:=fun σ H R=>ta σ H fun vs H1=>AI R vs H1
theorem RU(hg:Gl X "range")(hm:X.mg "range" = none)(ha:PA X [a] ta)(hs:starEach [a] X.env = [(false,eval a X.env)]:=by rfl):PI X tg (.Call (.Name "range" p) [a] [] pos) (G0 ta):=by
 intro pins s σ H R I h;refine Call_ (JE I hg hm boot_range (PyProof.Rows.callWith_type1 (thn (ha pos pins s σ H _ I h) fun us s1 ⟨vs,H1,I1,r1,q1⟩=>?_) hs rfl));obtain⟨j,e,q1,q2,q⟩:=q1;subst e;cases r1 with
 | cons r rr =>
  cases rr;obtain⟨t,rfl⟩:=r;exact call_range_1 (MH I1 (by lia) (by lia) q1 q2 (by simpa using q))
def OY(wi:TI)(g:TG)(tb:TS):TS:=fun D σ H=>wi σ H fun J H1=>∃W:Nat->Nat->St->Hp->Prop,(∃m,W 0 m σ H1)/\∀i m σ H,W i m σ H ->
 (J.stop i H/\D.nx σ H)\/(J.go i H/\∃N:St->Hp->Prop,(∀ σ' H',N σ' H'->∃m',m' < m/\W (i+1) m' σ' H')/\∀x H',J.yld i H x H'->g x σ H' fun σ2 H2=>tb {D with nx:=N,ct:=N,bk:=D.nx } σ2 H2)
def AF(fp:eA)(h:Heap):List (eF×Obj):=fp.filterMap fun b=>(h.get? b).map fun o=>(b,o)
theorem B1(hb:b∈fp)(e:h.get? b=some o):(b,o)∈AF fp h:=List.mem_filterMap.mpr ⟨b,hb,by rw[e];rfl⟩
theorem GF(hp:p∈AF fp h):p.1∈fp/\h.get? p.1=some p.2:=by
 obtain⟨b,hb,e⟩:=List.mem_filterMap.mp hp;cases q:h.get? b with
 | none=>rw[q] at e;cases e
 | some o =>
  rw[q] at e;have e':(b,o)=p:=Option.some.inj e;subst e';exact⟨hb,q⟩
theorem ZD.pinned{pins:List (eF×Obj)}{σ:St}{H:Hp}{s:eB}{fp:eA}(I:ZD X pins σ H s)(hf:∀b∈fp,Vq X pins H b)(ho:∀b∈fp,∃o,s.heap.get? b=some o/\∀v,o.data ≠ .cell v):ZD X (pins++AF fp s.heap) σ H s :=
 I.pins_of fun p hp=>(xL.mp hp).elim (fun z=>I.pin p (xF _ z)) fun z=>by
  obtain⟨hb,e⟩:=GF z;obtain⟨f0,f1,f2,_⟩:=hf p.1 hb;obtain⟨o,e',d⟩:=ho p.1 hb;rw[e] at e';cases e';exact⟨e,f0,f1,f2,d⟩
theorem ZD.unpinned{pins pl:List (eF×Obj)}{σ:St}{H:Hp}{s:eB}(I:ZD X (pins++pl) σ H s):ZD X pins σ H s:=I.pins_of fun p hp=>I.pin p (xF _ (yP _ hp))
theorem OK(hp:PassesOwn (model X.prog X.w) X.A X.env X.xe)(hc:X.calm=true)(hi:PI X tg iter wi)(hg:PG X tg g)(hb:UW X body tb)(hs:∀x,foldedSetIterable iter X.env x=pure x:=by intro _;rfl):PS X (.For tg iter body [] pos) (OY wi g tb):=by
 intro pins s σ H D I h;refine wpAny_For (thn (hi pins s σ H _ I h) fun v s1 h1=>thn h1 fun itv s2 h2=>?_) hs;obtain⟨it,fp,tn,J,H2,e,I2,T,st2,f2,W,⟨m0,w0⟩,turn⟩:=h2;subst e;have stat:∀{H':Hp},(∀b∈fp,H' b=none)->∀b∈fp,Vq X pins H' b:=fun hn b hb=>⟨hn b hb,(f2 b hb).2⟩;refine codeAny_forLoop_any (fun n s'=>∃i σ' H',ZD X pins σ' H' s'/\tn i s'.heap/\(∀b∈fp,H' b=none)/\W i n σ' H') ?_ m0 ⟨0,σ,H2,I2,st2,fun b hb=>(f2 b hb).1,w0⟩;rintro n s3 ⟨i,σ3,H3,I3,st3,fr3,w3⟩;rcases turn i n σ3 H3 w3 with⟨stop,qn⟩ | ⟨go,N,hN,step⟩
 ·refine wpAny_passesOwn hp (thn (T.done X rfl rfl rfl hc i pins s3 σ3 H3 X.xe I3 (stat fr3) st3 stop) fun r s4 ⟨hr,I4⟩=>?_);subst hr;exact wpAny_execs_nil ⟨σ3,H3,I4,qn⟩
 ·refine wpAny_passesOwn hp (thn (T.item X rfl rfl rfl hc i pins s3 σ3 H3 X.xe I3 (stat fr3) st3 go) fun r s4 ⟨u,hr,h4⟩=>?_);subst hr;refine wpAny_passesOwn hp (thn h4 fun _ s5 ⟨x,H5,I5,r5,y5,st5,fr5⟩=>?_);have I5':=I5.pinned (stat fr5) (T.obj _ _ st5);refine wpAny_passesOwn hp (thn (hg _ s5 σ3 H5 x u _ I5' r5 (step x H5 y5)) fun _ s6 ⟨σ6,H6,I6,q6⟩=>?_);refine wpAny_passesOwn hp (thn (hb _ s6 σ6 H6 _ I6 q6) fun f s7 q7=>?_);have again:∀{σ7:St}{H7:Hp},ZD X (pins++AF fp s5.heap) σ7 H7 s7->N σ7 H7->∃m,m < n/\∃i σ' H',ZD X pins σ' H' s7/\tn i s7.heap/\(∀b∈fp,H' b=none)/\W i m σ' H':=fun {σ7 H7} I7 n7=>by
   obtain⟨m',hm,w7⟩:=hN σ7 H7 n7;refine⟨m',hm,i+1,σ7,H7,I7.unpinned,T.keep _ _ _ st5 fun b hb o e=>(I7.pin (b,o) (xF _ (xF _ (B1 hb e)))).1,fun b hb=>?_,w7⟩;obtain⟨o,e,d⟩:=T.obj _ _ st5 b hb;exact(I7.pin (b,o) (xF _ (xF _ (B1 hb e)))).2.1
  cases f with
  | next=>obtain⟨σ7,H7,I7,n7⟩:=q7;exact again I7 n7
  | cont=>obtain⟨σ7,H7,I7,n7⟩:=q7;exact again I7 n7
  | brk=>obtain⟨σ7,H7,I7,q7⟩:=q7;exact⟨σ7,H7,I7.unpinned,q7⟩
  | ret v=>obtain⟨x7,σ7,H7,I7,r7,q7⟩:=q7;exact⟨x7,σ7,H7,I7.unpinned,r7,q7⟩
end
theorem QD{K:uFg}{a:eF}{xs:List V}{g:TG}{tb:TS}{D:YI}{σ:St}{H:Hp}(Pv:Nat->St->Hp->Prop)(h0:Pv 0 σ H)(hl:∀i σ H,i<=xs.length->Pv i σ H->ZE K H a xs)(hs:∀i x σ H,xs[i]? = some x->Pv i σ H->g x σ H fun σ2 H2=>tb {D with nx:=Pv (i+1),ct:=Pv (i+1),bk:=D.nx } σ2 H2)(hd:∀ σ H,Pv xs.length σ H->D.nx σ H) :
  ∃W:Nat->Nat->St->Hp->Prop,(∃m,W 0 m σ H)/\∀i m σ H,W i m σ H ->
   ((Jx K a).stop i H/\D.nx σ H)\/((Jx K a).go i H/\∃N:St->Hp->Prop,(∀ σ' H',N σ' H'->∃m',m' < m/\W (i+1) m' σ' H')/\∀x H',(Jx K a).yld i H x H'->g x σ H' fun σ2 H2=>tb {D with nx:=N,ct:=N,bk:=D.nx } σ2 H2):=by
 refine⟨fun i m σ H=>m=xs.length - i/\i<=xs.length/\Pv i σ H,⟨xs.length,by simp,yL _,h0⟩,?_⟩;rintro i m σ H ⟨rfl,hi,p⟩;have q:=hl i σ H hi p
 by_cases hlt:i < xs.length
 ·refine .inr ⟨⟨xs,xs[i],q,by simp[hlt]⟩,Pv (i+1),fun σ' H' p'=>⟨xs.length - (i+1),by lia,rfl,hlt,p'⟩,fun x H' y=>?_⟩;obtain⟨e,y⟩:=y;subst e;exact hs i x σ _ (y xs q) p
 ·have e:i=xs.length:=by lia
  subst e;exact .inl ⟨⟨xs,q,xD _⟩,hd σ H p⟩
theorem PD{lo:Int}{n:Nat}{g:TG}{tb:TS}{D:YI}{σ:St}{H:Hp}(Pv:Nat->St->Hp->Prop)(h0:Pv 0 σ H)(hs:∀i σ H,i < n->Pv i σ H->g (.int (lo+i)) σ H fun σ2 H2=>tb {D with nx:=Pv (i+1),ct:=Pv (i+1),bk:=D.nx } σ2 H2)(hd:∀ σ H,Pv n σ H->D.nx σ H) :
  ∃W:Nat->Nat->St->Hp->Prop,(∃m,W 0 m σ H)/\∀i m σ H,W i m σ H ->
   ((JT lo n).stop i H/\D.nx σ H)\/((JT lo n).go i H/\∃N:St->Hp->Prop,(∀ σ' H',N σ' H'->∃m',m' < m/\W (i+1) m' σ' H')/\∀x H',(JT lo n).yld i H x H'->g x σ H' fun σ2 H2=>tb {D with nx:=N,ct:=N,bk:=D.nx } σ2 H2):=by
 refine⟨fun i m σ H=>m=n - i/\i<=n/\Pv i σ H,⟨n,by simp,yL _,h0⟩,?_⟩;rintro i m σ H ⟨rfl,hi,p⟩
 by_cases hlt:i < n
 ·refine .inr ⟨hlt,Pv (i+1),fun σ' H' p'=>⟨n - (i+1),by lia,rfl,hlt,p'⟩,fun x H' y=>?_⟩;obtain⟨e,y⟩:=y;subst e y;exact hs i σ _ hlt p
 ·have e:i=n:=by lia
  subst e;exact .inl ⟨xD _,hd σ H p⟩
end L2
namespace L2
open PySem PySem.Spec PyProof.Rows
abbrev R2:=V->V->Hp->VK->Prop
def YX(X:Cx)(f:eE->eE->Sem eE)(r:R2):Prop :=
 ∀(pins:List (eF×Obj))(s:eB)(σ:St)(H:Hp)(x y:V)(v u:eE)(Q:VK),ZD X pins σ H s->ZG x v->ZG y u->r x y H Q ->
  wpAny (model X.prog X.w) X.A (f v u) (EP X pins σ Q) X.xe s
def DG(X:Cx)(f:eE->Sem eE)(r:V->Hp->VK->Prop):Prop :=
 ∀(pins:List (eF×Obj))(s:eB)(σ:St)(H:Hp)(x:V)(v:eE)(Q:VK),ZD X pins σ H s->ZG x v->r x H Q ->
  wpAny (model X.prog X.w) X.A (f v) (EP X pins σ Q) X.xe s
def Vg(X:Cx)(f:eE)(r:List V->Hp->VK->Prop):Prop :=
 ∀(pins:List (eF×Obj))(s:eB)(σ:St)(H:Hp)(xs:List V)(us:dY)(Q:VK),ZD X pins σ H s->ZH xs us->r xs H Q ->
  wpAny (model X.prog X.w) X.A (call f us) (EP X pins σ Q) X.xe s
def RA(X:Cx)(r:V->Hp->(Bool->Hp->Prop)->Prop):Prop :=
 ∀(pins:List (eF×Obj))(s:eB)(σ:St)(H:Hp)(x:V)(v:eE)(Q:Bool->Hp->Prop),ZD X pins σ H s->ZG x v->r x H Q ->
  wpAny (model X.prog X.w) X.A (truthy v) (TP X pins σ Q) X.xe s
def Tx(r:R2)(ta tb:TE):TE:=fun σ H Q=>ta σ H fun x H1=>tb σ H1 fun y H2=>r x y H2 Q
def Ib(r:V->Hp->VK->Prop)(ta:TE):TE:=fun σ H Q=>ta σ H fun x H1=>r x H1 Q
inductive rI(C:Int->Int->Prop)(g:Int->Int->V)(x y:V)(H:Hp)(Q:VK):Prop
 |mk(i j)(_:x = .int i)(_:y = .int j)(_:C i j)(_:Q (g i j) H)
inductive UQ(g:Int->Int->V)(x y:V)(H:Hp)(Q:VK):Prop
 |mk(i j)(_:x = .int i)(_:y = .int j)(_:Q (g i j) H)
inductive rU(g:Int->V)(x:V)(H:Hp)(Q:VK):Prop
 |mk(i)(_:x = .int i)(_:Q (g i) H)
theorem DC(ha:PE X a ta)(hb:PE X b tb){pins:List (eF×Obj)}{s:eB}{σ:St}{H:Hp}{R:V->V->Hp->Prop}(I:ZD X pins σ H s)(h:ta σ H fun x H1=>tb σ H1 fun y H2=>R x y H2){Q:dU}{f:eE->eE->Sem eE}(hf:∀v u s2 x y H2,ZD X pins σ H2 s2->ZG x v->ZG y u->R x y H2->wpAny (model X.prog X.w) X.A (f v u) Q X.xe s2) :
  wpAny (model X.prog X.w) X.A (eval a X.env) (fun v s₁=>wpAny (model X.prog X.w) X.A (eval b X.env) (fun u s₂=>wpAny (model X.prog X.w) X.A (f v u) Q X.xe s₂) X.xe s₁) X.xe s:=by
 refine thn (ha pins s σ H _ I h) fun v s1 ⟨x,H1,I1,r1,q1⟩=>?_;refine thn (hb pins s1 σ H1 _ I1 q1) fun u s2 ⟨y,H2,I2,r2,q2⟩=>?_;exact hf v u s2 x y H2 I2 r1 r2 q2
theorem RG(ho:YX X (binaryOp op) r)(ha:PE X a ta)(hb:PE X b tb):PE X (.BinOp a op b pos) (Tx r ta tb):=by
 intro pins s σ H Q I h;exact wpAny_BinOp (DC ha hb I h fun v u s2 x y H2 I2 rx ry q=>ho pins s2 σ H2 x y v u Q I2 rx ry q)
theorem Mq(ho:DG X (unaryOp op) r)(ha:PE X a ta):PE X (.UnaryOp op a pos) (Ib r ta):=by
 intro pins s σ H Q I h;exact UnaryOp_ (thn (ha pins s σ H _ I h) fun v s1 ⟨x,H1,I1,r1,q1⟩=>ho pins s1 σ H1 x v Q I1 r1 q1)
theorem opI{f:eE->eE->Sem eE}{C:Int->Int->Prop}{g:Int->Int->Int}(rule:∀i j t u s Q E,C i j->Q (.int (g i j) s.toks) {s with toks:=s.toks+1 }->wpAny (model X.prog X.w) X.A (f (.int i t) (.int j u)) Q E s) :
  YX X f (rI C fun i j=>.int (g i j)):=by
 intro pins s σ H x y v u Q I rx ry h;obtain⟨i,j,rfl,rfl,hc,q⟩:=h;obtain⟨t,rfl⟩:=rx;obtain⟨t',rfl⟩:=ry;exact rule i j t t' s _ _ hc ⟨.int (g i j),H,I.tok _,⟨_,rfl⟩,q⟩
theorem Ky{f:eE->eE->Sem eE}{g:Int->Int->Int}(rule:∀i j t u s Q E,Q (.int (g i j) s.toks) {s with toks:=s.toks+1 }->wpAny (model X.prog X.w) X.A (f (.int i t) (.int j u)) Q E s) :
  YX X f (UQ fun i j=>.int (g i j)):=by
 intro pins s σ H x y v u Q I rx ry h;obtain⟨i,j,rfl,rfl,q⟩:=h;obtain⟨t,rfl⟩:=rx;obtain⟨t',rfl⟩:=ry;exact rule i j t t' s _ _ ⟨.int (g i j),H,I.tok _,⟨_,rfl⟩,q⟩
theorem CO{f:eE->eE->Sem eE}{g:Int->Int->Bool}(rule:∀i j t u s Q E,Q (.bool (g i j)) s->wpAny (model X.prog X.w) X.A (f (.int i t) (.int j u)) Q E s) :
  YX X f (UQ fun i j=>.bl (g i j)):=by
 intro pins s σ H x y v u Q I rx ry h;obtain⟨i,j,rfl,rfl,q⟩:=h;obtain⟨t,rfl⟩:=rx;obtain⟨t',rfl⟩:=ry;exact rule i j t t' s _ _ ⟨.bl (g i j),H,I,rfl,q⟩
def Dz(i j:Int):Prop:=0 < j/\j < 1073741824
def DX(i j:Int):Prop:=0<=j/\j<=1000000/\i.natAbs < 2 ^ 64
def TR(i j:Int):Prop:=(-(2 ^ 64) < i/\i < 2 ^ 64)\/(-(2 ^ 64) < j/\j < 2 ^ 64)
theorem TR.ok(h:TR i j):IntMulOk i j:=by
 rcases h with⟨h1,h2⟩ | ⟨h1,h2⟩
 ·exact .of_left (intBits_le_64 h1 h2)
 ·exact .of_right (intBits_le_64 h1 h2)
theorem Mw:YX X (binaryOp .Add) (UQ fun i j=>.int (i+j)):=Ky fun _ _ _ _ _ _ _ q=>add_int q
theorem RV:YX X (binaryOp .Sub) (UQ fun i j=>.int (i - j)):=Ky fun _ _ _ _ _ _ _ q=>sub_int q
theorem Q8:YX X (binaryOp .Mult) (rI TR fun i j=>.int (i * j)):=opI fun _ _ _ _ _ _ _ hc q=>mul_int q hc.ok
theorem RY:YX X (binaryOp .FloorDiv) (rI Dz fun i j=>.int (i / j)):=opI fun i j _ _ _ _ _ hc q=>by
 have h1:(0:Int) < j:=hc.1;have h2:j < 1073741824:=hc.2;exact floordiv_int (by lia) (by rw[Int.fdiv_eq_ediv_of_nonneg i (by lia)];exact q) (.inl (PyProof.noPylong_small (by lia)))
theorem RW:YX X (binaryOp .Mod) (rI (fun _ j=>0 < j) fun i j=>.int (i % j)):=opI fun i j _ _ _ _ _ hc q=>by
 have h1:(0:Int) < j:=hc;exact mod_int' (by lia) (by rw[Int.fmod_eq_emod_of_nonneg i (by lia)];exact q)
theorem cS:YX X (binaryOp .Pow) (rI DX fun i j=>.int (i ^ j.toNat)):=opI fun _ _ _ _ _ _ _ hc q=>pow_int_small hc.1 hc.2.1 hc.2.2 q
def KB:V->V->Bool
 | .non,.non=>true | .non,.int _=>true | .int _,.non=>true | .non,.bl _=>true | .bl _,.non=>true | .non,.str _=>true | .str _,.non=>true
 | .int _,.int _=>true | .bl _,.bl _=>true | .str _,.str _=>true | .byt _,.byt _=>true
 | .int _,.str _=>true | .str _,.int _=>true | .bl _,.str _=>true | .str _,.bl _=>true
 | _,_=>false
def BE:R2:=fun x y H Q=>KB x y=true/\Q (.bl (decide (x=y))) H
def KS:R2:=fun x y H Q=>KB x y=true/\Q (.bl (!decide (x=y))) H
theorem FY:decide (V.int i=V.int j)=(i == j):=by
 rw[zH];simp
theorem Ie:decide (V.bl i=V.bl j)=(i == j):=by
 rw[zH];simp
theorem Gd:decide (V.str i=V.str j)=(i == j):=by
 rw[zH];simp
theorem Hs:decide (V.byt i=V.byt j)=(i.toList == j.toList):=by
 rw[zH];cases i;cases j;simp
section
variable{b:Expr}{ta tb tc:TE}
theorem Ys{pins:List (eF×Obj)}{σ:St}{H:Hp}{s:eB}{Q:VK}{k k':Bool}(I:ZD X pins σ H s)(q:Q (.bl k) H)(e:k=k'):EP X pins σ Q (.bool k') s:=by
 subst e;exact⟨.bl k,H,I,rfl,q⟩
theorem QU:YX X (compareOp .Eq) BE:=by
 intro pins s σ H x y v u Q I rx ry h;obtain⟨hs,q⟩:=h;cases x with
 | non =>
  cases rx;cases y with
  | non=>cases ry;exact PySem.EqNone.eq_none_none (Ys I q (by simp))
  | bl j=>cases ry;exact PySem.EqNone.eq_none_bool (Ys I q (by simp))
  | int j=>obtain⟨t',rfl⟩:=ry;exact PySem.EqNone.eq_none_int (Ys I q (by simp))
  | str j=>obtain⟨t',rfl⟩:=ry;exact PySem.EqNone.eq_none_str (Ys I q (by simp))
  | _=>exact absurd (show false=true from hs) xM
 | bl i =>
  cases rx;cases y with
  | non=>cases ry;exact PySem.EqNone.eq_bool_none (Ys I q (by simp))
  | bl j=>cases ry;exact eq_bool (Ys I q Ie)
  | str j=>obtain⟨t',rfl⟩:=ry;exact PySem.EqMixed.eq_bool_str (Ys I q (by simp))
  | _=>exact absurd (show false=true from hs) xM
 | int i =>
  obtain⟨t,rfl⟩:=rx;cases y with
  | non=>cases ry;exact PySem.EqNone.eq_int_none (Ys I q (by simp))
  | int j=>obtain⟨t',rfl⟩:=ry;exact eq_int (Ys I q FY)
  | str j=>obtain⟨t',rfl⟩:=ry;exact PySem.EqMixed.eq_int_str (Ys I q (by simp))
  | _=>exact absurd (show false=true from hs) xM
 | str i =>
  obtain⟨t,rfl⟩:=rx;cases y with
  | non=>cases ry;exact PySem.EqNone.eq_str_none (Ys I q (by simp))
  | bl j=>cases ry;exact PySem.EqMixed.eq_str_bool (Ys I q (by simp))
  | int j=>obtain⟨t',rfl⟩:=ry;exact PySem.EqMixed.eq_str_int (Ys I q (by simp))
  | str j=>obtain⟨t',rfl⟩:=ry;exact eq_str (Ys I q Gd)
  | _=>exact absurd (show false=true from hs) xM
 | byt i =>
  obtain⟨t,rfl⟩:=rx;cases y with
  | byt j=>obtain⟨t',rfl⟩:=ry;exact PySem.W.eq_bytes (Ys I q Hs)
  | _=>exact absurd (show false=true from hs) xM
 | _=>cases y<;>exact absurd (show false=true from hs) xM
theorem MC:YX X (compareOp .NotEq) KS:=by
 intro pins s σ H x y v u Q I rx ry h;obtain⟨hs,q⟩:=h;cases x with
 | non =>
  cases rx;cases y with
  | non=>cases ry;exact PySem.EqNone.ne_none_none (Ys I q (by simp))
  | bl j=>cases ry;exact PySem.EqNone.ne_none_bool (Ys I q (by simp))
  | int j=>obtain⟨t',rfl⟩:=ry;exact PySem.EqNone.ne_none_int (Ys I q (by simp))
  | str j=>obtain⟨t',rfl⟩:=ry;exact PySem.EqNone.ne_none_str (Ys I q (by simp))
  | _=>exact absurd (show false=true from hs) xM
 | bl i =>
  cases rx;cases y with
  | non=>cases ry;exact PySem.EqNone.ne_bool_none (Ys I q (by simp))
  | bl j=>cases ry;exact ne_bool (Ys I q (congrArg not Ie))
  | str j=>obtain⟨t',rfl⟩:=ry;exact PySem.EqMixed.ne_bool_str (Ys I q (by simp))
  | _=>exact absurd (show false=true from hs) xM
 | int i =>
  obtain⟨t,rfl⟩:=rx;cases y with
  | non=>cases ry;exact PySem.EqNone.ne_int_none (Ys I q (by simp))
  | int j=>obtain⟨t',rfl⟩:=ry;exact ne_int (Ys I q (congrArg not FY))
  | str j=>obtain⟨t',rfl⟩:=ry;exact PySem.EqMixed.ne_int_str (Ys I q (by simp))
  | _=>exact absurd (show false=true from hs) xM
 | str i =>
  obtain⟨t,rfl⟩:=rx;cases y with
  | non=>cases ry;exact PySem.EqNone.ne_str_none (Ys I q (by simp))
  | bl j=>cases ry;exact PySem.EqMixed.ne_str_bool (Ys I q (by simp))
  | int j=>obtain⟨t',rfl⟩:=ry;exact PySem.EqMixed.ne_str_int (Ys I q (by simp))
  | str j=>obtain⟨t',rfl⟩:=ry;exact ne_str (Ys I q (congrArg not Gd))
  | _=>exact absurd (show false=true from hs) xM
 | byt i =>
  obtain⟨t,rfl⟩:=rx;cases y with
  | byt j=>obtain⟨t',rfl⟩:=ry;exact PySem.W.ne_bytes (Ys I q (congrArg not Hs))
  | _=>exact absurd (show false=true from hs) xM
 | _=>cases y<;>exact absurd (show false=true from hs) xM
theorem PL:YX X (compareOp .Lt) (UQ fun i j=>.bl (decide (i < j))):=CO fun _ _ _ _ _ _ _ q=>lt_int q
theorem XZ:YX X (compareOp .LtE) (UQ fun i j=>.bl (decide (i<=j))):=CO fun _ _ _ _ _ _ _ q=>le_int q
theorem Mg:YX X (compareOp .Gt) (UQ fun i j=>.bl (decide (j < i))):=CO fun _ _ _ _ _ _ _ q=>gt_int q
theorem Sx:YX X (compareOp .GtE) (UQ fun i j=>.bl (decide (j<=i))):=CO fun _ _ _ _ _ _ _ q=>ge_int q
theorem Qc:YX X (compareOp .Is) (fun x y H Q=>y = .non/\Q (.bl (decide (x = .non))) H):=by
 intro pins s σ H x y v u Q I rx ry h;obtain⟨rfl,q⟩:=h;cases ry;refine is_none_gen (Ys I q ?_);cases x<;>first
  | (cases rx;rfl)
  | (obtain⟨t,rfl⟩:=rx;rfl)
theorem LB:YX X (compareOp .IsNot) (fun x y H Q=>y = .non/\Q (.bl (!decide (x = .non))) H):=by
 intro pins s σ H x y v u Q I rx ry h;obtain⟨rfl,q⟩:=h;cases ry;refine isnot_none_gen (Ys I q ?_);cases x<;>first
  | (cases rx;rfl)
  | (obtain⟨t,rfl⟩:=rx;rfl)
theorem Zu(b:Expr)(h:op ≠ .In:=by decide)(h2:op ≠ .NotIn:=by decide):behindInMarks op b=false:=by
 have e1:(op == CmpOp.In)=false:=by cases op<;>first | rfl | exact absurd rfl h
 have e2:(op == CmpOp.NotIn)=false:=by cases op<;>first | rfl | exact absurd rfl h2
 cases b<;>simp[behindInMarks,e1,e2]
theorem QB(ho:YX X (compareOp op) r)(ha:PE X a ta)(hb:PE X b tb)(hm:behindInMarks op b=false):PE X (.Compare a [op] [b] pos) (Tx r ta tb):=by
 intro pins s σ H Q I h;exact wpAny_Compare1 (DC ha hb I h fun v u s2 x y H2 I2 rx ry q=>ho pins s2 σ H2 x y v u Q I2 rx ry q) hm
def A5(t:TE):TT:=fun σ H Q=>t σ H fun x H'=>∃k,x = .bl k/\Q k H'
theorem Lo(ho:YX X (compareOp op) r)(ha:PE X a ta)(hb:PE X b tb)(hm:behindInMarks op b=false):PT X (.Compare a [op] [b] pos) (A5 (Tx r ta tb)):=by
 intro pins s σ H Q I h;refine wpAny_isTrue_Compare1 (thn (ha pins s σ H _ I h) fun v s1 ⟨x,H1,I1,r1,q1⟩=>thn (hb pins s1 σ H1 _ I1 q1) fun u s2 ⟨y,H2,I2,r2,q2⟩=> thn (ho pins s2 σ H2 x y v u _ I2 r1 r2 q2) fun c s3 ⟨z,H3,I3,r3,k,e,q3⟩=>?_) hm;subst e;cases r3;exact wpAny_truthy_bool ⟨H3,I3,q3⟩
inductive J8(r':R2)(tc:TE)(σ:St)(Q:VK)(y z:V)(H3:Hp):Prop
 |mk(k)(_:z = .bl k)(_:(if k=true then tc σ H3 fun w' H4=>r' y w' H4 Q else Q (.bl false) H3))
def Dr(r r':R2)(ta tb tc:TE):TE:=fun σ H Q=>ta σ H fun x H1=>tb σ H1 fun y H2=>r x y H2 fun z H3=>J8 r' tc σ Q y z H3
theorem Qs(ho:YX X (compareOp op) r)(ho':YX X (compareOp op') r')(ha:PE X a ta)(hb:PE X b tb)(hc:PE X c tc)(hm:lastMarks [op,op'] [b,c]=false:=by with_unfolding_all rfl):PE X (.Compare a [op,op'] [b,c] pos) (Dr r r' ta tb tc):=by
 intro pins s σ H Q I h;refine Compare_chain (thn (ha pins s σ H _ I h) fun v s1 ⟨x,H1,I1,r1,q1⟩=>chain_link (thn (hb pins s1 σ H1 _ I1 q1) fun u s2 ⟨y,H2,I2,r2,q2⟩=> thn (ho pins s2 σ H2 x y v u _ I2 r1 r2 q2) fun d s3 ⟨z,H3,I3,r3,k,e,q3⟩=>?_)) hm;subst e;cases r3;refine wpAny_truthy_bool ?_;cases k with
 | false=>exact ite_ff ⟨.bl false,H3,I3,rfl,q3⟩
 | true=>exact ite_tt (chain_last (thn (hc pins s3 σ H3 _ I3 q3) fun w' s4 ⟨z',H4,I4,r4,q4⟩=>ho' pins s4 σ H4 y z' u w' Q I4 r2 r4 q4))
theorem RN(ho:YX X (compareOp op) r)(ho':YX X (compareOp op') r')(ha:PE X a ta)(hb:PE X b tb)(hc:PE X c tc)(hm:lastMarks [op,op'] [b,c]=false:=by with_unfolding_all rfl):PT X (.Compare a [op,op'] [b,c] pos) (A5 (Dr r r' ta tb tc)):=by
 intro pins s σ H Q I h;refine isTrue_chain (thn (ha pins s σ H _ I h) fun v s1 ⟨x,H1,I1,r1,q1⟩=>test_link (thn (hb pins s1 σ H1 _ I1 q1) fun u s2 ⟨y,H2,I2,r2,q2⟩=> thn (ho pins s2 σ H2 x y v u _ I2 r1 r2 q2) fun d s3 ⟨z,H3,I3,r3,k,e,q3⟩=>?_)) hm;subst e;cases r3;refine wpAny_truthy_bool ?_;cases k with
 | false =>
  obtain⟨k',e',q'⟩:=q3;cases e';exact ite_ff ⟨H3,I3,q'⟩
 | true =>
  refine ite_tt (test_last (thn (hc pins s3 σ H3 _ I3 q3) fun w' s4 ⟨z',H4,I4,r4,q4⟩=>thn (ho' pins s4 σ H4 y z' u w' _ I4 r2 r4 q4) fun d' s5 ⟨z2,H5,I5,r5,k2,e2,q5⟩=>?_));subst e2;cases r5;exact wpAny_truthy_bool ⟨H5,I5,q5⟩
def EJ(K:uFg)(x:V)(H:Hp)(k:Bool):Prop :=
 match x with
 | .non=>k=false
 | .bl b=>k=b
 | .int i=>k=(i != 0)
 | .str y=>y.length<=sizeLine/\k=((y.length:Int) != 0)
 | .byt y=>y.size<=sizeLine/\k=((y.size:Int) != 0)
 | .ref p=>(∃xs,ZE K H p xs/\k = !xs.isEmpty)\/(∃xs,ZT K H p xs/\k = !xs.isEmpty)\/∃kvs,H p=some (.dK kvs)/\k = !kvs.isEmpty
 | _=>False
theorem OJ{κ:Type}{kvs:List (κ×V)}{vs:List (κ×eE)}(r:KV kvs vs):(!vs.isEmpty)= !kvs.isEmpty:=by
 cases r<;>rfl
theorem Ld(r:ZH xs its):(!its.toArray.isEmpty)= !xs.isEmpty:=by
 cases r<;>simp
theorem AN:(sizeLine:Nat) < 2 ^ 63:=by rw[sizeLine_eq];decide
theorem OG:RA X (fun x H Q=>∃k,EJ X.K x H k/\Q k H):=by
 intro pins s σ H x v Q I rx h;obtain⟨k,e,q⟩:=h;have hl:=AN;have hs:sizeLine=16777216:=sizeLine_eq;cases x with
 | non =>
  cases rx;have e':k=false:=e;subst e';exact truthy_none ⟨H,I,q⟩
 | bl b =>
  cases rx;have e':k=b:=e;subst e';exact wpAny_truthy_bool ⟨H,I,q⟩
 | int i =>
  obtain⟨t,rfl⟩:=rx;have e':k=(i != 0):=e;subst e';exact PySem.P.truthy_int ⟨H,I,q⟩
 | str y =>
  obtain⟨t,rfl⟩:=rx;obtain⟨hy,e'⟩:y.length<=sizeLine/\k=((y.length:Int) != 0):=e;subst e';exact PySem.P.truthy_str (by lia) ⟨H,I.tok _,q⟩
 | byt y =>
  obtain⟨t,rfl⟩:=rx;obtain⟨hy,e'⟩:y.size<=sizeLine/\k=((y.size:Int) != 0):=e;subst e';exact PySem.W.truthy_bytes (by lia) ⟨H,I.tok _,q⟩
 | ref p =>
  cases rx;have e':(∃xs,ZE X.K H p xs/\k = !xs.isEmpty)\/(∃xs,ZT X.K H p xs/\k = !xs.isEmpty)\/∃kvs,H p=some (.dK kvs)/\k = !kvs.isEmpty:=e;rcases e' with⟨xs,hx,e'⟩ | ⟨xs,hx,e'⟩ | ⟨kvs,hx,e'⟩
  ·subst e';obtain⟨its,r,pl,hz⟩:=I.list hx;have hlen:=r.length;exact wpAny_truthy_list pl.isList (by simp only[xP];lia) ⟨H,I.tok _,by rw[Ld r];exact q⟩
  ·subst e';obtain⟨its,r,pl,hz⟩:=I.tuple hx;have hlen:=r.length;exact truthy_tuple pl (by simp only[xP];lia) ⟨H,I.tok _,by rw[Ld r];exact q⟩
  ·subst e';obtain⟨hz,hS,vs,r,m⟩:kvs.length<=sizeLine/\(p == sysModules)=false/\∃vs,KV kvs vs/\s.heap.DictOf (Y7 X.prog X.w) p vs:=I.hok p _ hx;have hlen:kvs.length=vs.length:=Paired.length r;exact wpAny_truthy_dict hS m (by lia) ⟨H,I.tok _,by rw[OJ r];exact q⟩
 | _=>exact(show False from e).elim
theorem SU(ha:PE X a ta)(he:∀whole,isTrue a X.env whole=(do let v ← whole;standAt a.pos;holding [v] (truthy v))) :
  PT X a (fun σ H Q=>ta σ H fun x H'=>∃k,EJ X.K x H' k/\Q k H'):=by
 intro pins s σ H Q I h;exact isTrue_plain (thn (ha pins s σ H _ I h) fun v s1 ⟨x,H1,I1,r1,q1⟩=>OG pins s1 σ H1 x v Q I1 r1 q1) (he _)
theorem RM:YX X (binaryOp .Add) (fun x y H Q=>∃i j,x = .str i/\y = .str j/\i.length+j.length<=sizeLine/\Q (.str (i++j)) H):=by
 intro pins s σ H x y v u Q I rx ry h;obtain⟨i,j,rfl,rfl,hz,q⟩:=h;obtain⟨t,rfl⟩:=rx;obtain⟨t',rfl⟩:=ry;exact add_str (fun t' tk=>⟨.str (i++j),H,I.tok _,⟨_,rfl⟩,q⟩) hz
theorem Up(r:ZH [x] us):∃u,us = [u]/\ZG x u:=by
 cases r with
 | cons r1 r2=>cases r2;exact⟨_,rfl,r1⟩
theorem Ck(r:ZH [x,y] us):∃u w',us = [u,w']/\ZG x u/\ZG y w':=by
 cases r with
 | cons r1 r2 =>
  cases r2 with
  | cons r3 r4=>cases r4;exact⟨_,_,rfl,r1,r3⟩
theorem XQ(hc:X.calm=true):Vg X (.builtin "max") (fun xs H Q=>∃i j,xs = [.int i,.int j]/\Q (.int (if j > i then j else i)) H):=by
 intro pins s σ H xs us Q I r h;obtain⟨i,j,rfl,q⟩:=h;obtain⟨u,w',rfl,⟨t,rfl⟩,⟨t',rfl⟩⟩:=Ck r;refine max_two_ints (I.ok.hd hc) fun h' tk k=>⟨_,H,I.kept k,?_,q⟩
 by_cases hj:j > i
 ·rw[if_pos hj,if_pos hj];exact⟨_,rfl⟩
 ·rw[if_neg hj,if_neg hj];exact⟨_,rfl⟩
theorem Nn(hc:X.calm=true):Vg X (.builtin "min") (fun xs H Q=>∃i j,xs = [.int i,.int j]/\Q (.int (if j < i then j else i)) H):=by
 intro pins s σ H xs us Q I r h;obtain⟨i,j,rfl,q⟩:=h;obtain⟨u,w',rfl,⟨t,rfl⟩,⟨t',rfl⟩⟩:=Ck r;refine min_two_ints (I.ok.hd hc) fun h' tk k=>⟨_,H,I.kept k,?_,q⟩
 by_cases hj:j < i
 ·rw[if_pos hj,if_pos hj];exact⟨_,rfl⟩
 ·rw[if_neg hj,if_neg hj];exact⟨_,rfl⟩
end
end L2
namespace L2
open PySem PySem.Spec PyProof.Rows
structure UV (h:Heap) (x dx C:eF) (mA:dW):Prop where
 obj:h.get? x=some (PySem.W.instObj C dx)
 ns:h.Ns1 dx mA
 ne:dx≠x
theorem L8{h:Heap}{dx:eF}{mA:dW}(n:h.Ns1 dx mA):∃od,h.get? dx=some od/\∀name,PySem.W.lookIn name od=some (mA name):=by
 obtain⟨o,es,ep,ho,hd,hk,_,hm⟩:=n;refine⟨o,ho,fun name=>?_⟩;have e:=hm name;unfold nsFind findBy at e;rw[← Array.find?_toList] at e;unfold PySem.W.lookIn;rw[hd];dsimp only;split
 ·rename_i y q;rw[q] at e;exact congrArg some e
 ·rename_i q;rw[q] at e;have a:es.toList.any (·.refKey)=false:=by
   rw[List.any_eq_false];intro y hy;obtain⟨z,t,hkey⟩:=hk y (Array.mem_toList_iff.mp hy);simp[DictEntry.refKey,hkey]
  have a':¬es.toList.any (·.refKey)=true:=by rw[a];exact xM
  rw[if_neg a'];exact congrArg some e
theorem UV.look(I:UV h x dx C mA):∃od,PySem.W.InstAt h x (PySem.W.instObj C dx) C (some od)/\∀name,PySem.W.lookIn name od=some (mA name) :=
 let ⟨od,ho,hl⟩:=L8 I.ns
 ⟨od,⟨I.obj,rfl,rfl,ho⟩,hl⟩
section
variable{prog:eG}{w:eI}{A:eJ}{E:dU}{s:eB}{K:uFg}{x dx C f:eF}{mA:dW}{name:Str}{v:eE}
theorem OV{expr:Bool}{Q:dU}(X:K.In s.heap)(I:UV s.heap x dx C mA)(hg:PySem.W.plainGet K C name=true)(hh:PySem.W.hasDictIn K C=true)(ha:PySem.W.findIn K (.ref C) name=some none)(hv:mA name=some v)(hv':PySem.W.handedIn v=true)(h:Q v {s with toks:=s.toks+1 }) :
  wpAny (model prog w) A (getAttr (.ref x) name expr) Q E s:=by
 obtain⟨od,J,hl⟩:=I.look;exact PySem.W.get_value X J (PySem.W.plainGet_of hg).1 (PySem.W.findObj_own hh ha rfl (by rw[hl,hv])) hv' h
theorem Pd{pl:Sem Bool}{Q:eE×List eE->eB->Prop}(X:K.In s.heap)(I:UV s.heap x dx C mA)(hg:PySem.W.plainGet K C name=true)(hf:PySem.W.findIn K (.ref C) name=some (some (.ref f)))(ht:PySem.W.isFn K (.ref f)=true)(hv:mA name=none)(h:Q (.ref f,[.ref x]) s) :
  wpAny (model prog w) A (getMethod (.ref x) name pl) Q E s:=by
 obtain⟨od,J,hl⟩:=I.look;exact PySem.W.method_fn X J (PySem.W.plainGet_of hg).1 (PySem.W.plainGet_of hg).2 hf (beq_iff_eq.mp ht) (by show (PySem.W.lookIn name od).map (·.isSome)=some false;rw[hl,hv];rfl) h
theorem O8{ns:dX}{Q:Unit->eB->Prop}(X:K.In s.heap)(I:UV s.heap x dx C mA)(hs:PySem.W.findIn K (.ref C) "__setattr__" = some (some (.builtin "object.__setattr__")))(hp:PySem.W.plainOver K C=true)(ht:PySem.W.takerIn K C name=some none)(hh:PySem.W.hasDictIn K C=true)(hw:PySem.Within mA ns)(hsz:ns.length<=sizeLine)(h:∀h',UV h' x dx C (fun y=>if y=name then some v else mA y)->Heap.SameBut dx s.heap h'->Q () {s with heap:=h',toks:=s.toks+2 }) :
  wpAny (model prog w) A (setAttr (.ref x) name v) Q E s:=by
 obtain⟨od,J,hl⟩:=I.look;refine PySem.W.set_plain X J hs (PySem.W.osa_open (s:={s with toks:=s.toks+1 }) (r:=none) X J hp ht fun b=>?_);obtain⟨cd,hc,hd'⟩:=PySem.W.any_some hh;have hx:s.heap.get? x=some ⟨.ref C,some dx,.plain,#[]⟩:=I.obj;refine wpAny_bind (wpAny_pure (wpAny_bind (wpAny_bind (wpAny_loadPart hx (wpAny_bind (PySem.W.Looks.here (s:={s with toks:=s.toks+1 }) (PySem.W.looks_clsIn X hc) ?_))))));rw[hd'];refine wpAny_pure (a:=some dx) (wpAny_bind (wpAny_pure (wpAny_bind ?_)));refine wpAny_nsSet1 (s:={s with toks:=s.toks+1 }) I.ns fun h' hn2 hs2=>?_;obtain⟨oD,esD,epD,hoD,hdD,hcD⟩:=hn2.count (PySem.Within.cons name v hw);refine wpAny_bind (wpAny_lookBehind hoD (by rw[hdD];exact pastItsLine_dict (xX hcD (by rw[yE];lia))) ?_);exact wpAny_pure (h _ ⟨(hs2.2 _ (Ne.symm I.ne)).trans I.obj,hn2,I.ne⟩ hs2)
theorem XD{R:Result->eB->Prop}{vs:dY}{kw:List (Str×eE)}(X:K.In s.heap)(hm:PySem.W.makesIn K C=true)(hi:PySem.W.findIn K (.ref C) "__init__" = some (some (.ref f)))(hf:PySem.W.typeIn K (.ref f)=some (.type "function"))(h:codeAny (model prog w) (A.under (.builtin "type.__call__" ⟨.ref C::vs,kw⟩)) (.call (.ref f) ⟨.ref (s.heap.objs.size+1)::vs,kw⟩) (PySem.W.InitBack (s.heap.objs.size+1) R) {s with heap:=(s.heap.push PySem.W.emptyDict).push (PySem.W.instObj C s.heap.objs.size) }) :
  codeAny (model prog w) A (.call (.ref C) ⟨vs,kw⟩) R s:=by
 obtain⟨hh,g,d,t,os⟩:=s;exact PySem.W.make_core (PySem.W.makes_of X hm) (PySem.W.looks_findIn X hi) (fun self=>PySem.W.bind_fn X self hf) (.inl rfl) h
end
def Zq(f:Str)(v:V):List (Str×V)->List (Str×V)
 | []=>[(f,v)]
 | (g,x)::r=>if g=f then (g,v)::r else (g,x)::Zq f v r
theorem Y1(f g:Str)(v:V):∀fs:List (Str×V),(Zq f v fs).lookup g=if g=f then some v else fs.lookup g
 | []=>by
  show List.lookup g [(f,v)]=_
  by_cases h:g=f
  ·grind
  ·grind
 | (k,x)::r=>by
  have ih:=Y1 f g v r;rw[show Zq f v ((k,x)::r)=(if k=f then (k,v)::r else (k,x)::Zq f v r) from rfl]
  by_cases hk:k=f
  ·grind
  ·grind
theorem ET(f:Str)(v:V):∀fs:List (Str×V),f∈(Zq f v fs).map (·.1)/\∀g,g∈fs.map (·.1)->g∈(Zq f v fs).map (·.1)
 | []=>⟨by simp[Zq],fun g h=>by simp at h⟩
 | (k,x)::r=>by
  obtain⟨i1,i2⟩:=ET f v r;rw[show Zq f v ((k,x)::r)=(if k=f then (k,v)::r else (k,x)::Zq f v r) from rfl]
  by_cases hk:k=f
  ·rw[if_pos hk];subst hk;exact⟨by simp,fun g h=>by simpa using h⟩
  ·grind
theorem AE(f:Str)(v:V):∀fs:List (Str×V),(Zq f v fs).length<=fs.length+1
 | []=>by simp[Zq]
 | (k,x)::r=>by
  have ih:=AE f v r;rw[show Zq f v ((k,x)::r)=(if k=f then (k,v)::r else (k,x)::Zq f v r) from rfl]
  by_cases hk:k=f
  ·rw[if_pos hk,yE,yE];lia
  ·rw[if_neg hk,yE,yE];lia
theorem YO.some_of(r:YO (some v) o):∃u,o=some u/\ZG v u:=by
 cases o with
 | none=>exact(show False from r).elim
 | some u=>exact⟨u,rfl,r⟩
theorem YO.none_of(r:YO none o):o=none:=by
 cases o with
 | none=>rfl
 | some u=>exact(show False from r).elim
theorem OR(r:ZG v u):PySem.W.handedIn u=true:=by
 cases v with
 | non=>cases (show u=Value.none from r);rfl
 | bl b=>cases (show u=Value.bool b from r);rfl
 | int i=>obtain⟨t,e⟩:=(show ∃t,u=Value.int i t from r);cases e;rfl
 | str x=>obtain⟨t,e⟩:=(show ∃t,u=Value.str x t from r);cases e;rfl
 | byt b=>obtain⟨t,e⟩:=(show ∃t,u=Value.bytes b t from r);cases e;rfl
 | flt b=>obtain⟨t,e⟩:=(show ∃t,u=Value.float b t from r);cases e;rfl
 | ref a=>cases (show u=Value.ref a from r);rfl
 | ty n=>cases (show u=Value.type n from r);rfl
theorem Ca(hok:YU P w H h)(e:H a=some (.ins C dx fs)):∃mA,UV h a dx C mA/\(∀f,YO (fs.lookup f) (mA f))/\PySem.Within mA (fs.map (·.1))/\fs.length<=1000/\H dx=some (.own a):=by
 obtain⟨d,z,ne,ob,mA,n,r,q⟩:=(show ZO P w H h a (.ins C dx fs) from hok a _ e);exact⟨mA,⟨ob,n,ne⟩,r,q,z,d⟩
structure UO (K:uFg) (C:eF):Prop where
 pg:PySem.W.plainGet K C Str.empty=true
 hd:PySem.W.hasDictIn K C=true
 po:PySem.W.plainOver K C=true
 sa:PySem.W.findIn K (.ref C) "__setattr__" = some (some (.builtin "object.__setattr__"))
theorem UO.get{K:uFg}{C:eF}(c:UO K C)(f:Str):PySem.W.plainGet K C f=true:=c.pg
def ZV(K:uFg)(C:eF)(f:Str):Prop:=PySem.W.findIn K (.ref C) f=some none
theorem ZV.taker{K:uFg}{C:eF}{f:Str}(n:ZV K C f):PySem.W.takerIn K C f=some none:=by
 unfold PySem.W.takerIn;rw[show PySem.W.findIn K (.ref C) f=some none from n];rfl
structure TC (K:uFg) (C:eF) (m:Str) (f:eF):Prop where
 at_:PySem.W.findIn K (.ref C) m=some (some (.ref f))
 fn:PySem.W.isFn K (.ref f)=true
 kp:PySem.W.keepIn K (.ref f)=true
section
variable{X:Cx}{pins:List (eF×Obj)}{σ:St}{H:Hp}{s:eB}{a C dx:eF}{fs:List (Str×V)}{f:Str}{v:V}{A:eJ}{E:dU}
theorem SS{b:Bool}{Q:dU}(I:ZD X pins σ H s)(e:H a=some (.ins C dx fs))(c:UO X.K C)(n:ZV X.K C f)(l:fs.lookup f=some v)(h:∀u s',ZD X pins σ H s'->ZG v u->Q u s'):wpAny (model X.prog X.w) A (getAttr (.ref a) f b) Q E s:=by
 obtain⟨mA,O,r,_,_,_⟩:=Ca I.hok e;obtain⟨u,hu,ru⟩:=YO.some_of (v:=v) (o:=mA f) (by rw[← l];exact r f);exact OV I.kIn O (c.get f) c.hd n hu (OR ru) (h u _ (I.tok _) ru)
theorem CG{m:Str}{g:eF}{pl:Sem Bool}{Q:eE×List eE->eB->Prop}(I:ZD X pins σ H s)(e:H a=some (.ins C dx fs))(c:UO X.K C)(k:TC X.K C m g)(l:fs.lookup m=none)(h:Q (.ref g,[.ref a]) s):wpAny (model X.prog X.w) A (getMethod (.ref a) m pl) Q E s:=by
 obtain⟨mA,O,r,_,_,_⟩:=Ca I.hok e;have hn:mA m=none:=YO.none_of (by rw[← l];exact r m);exact Pd I.kIn O (c.get m) k.at_ k.fn hn h
theorem PY{y:V}{u:eE}{Q:Unit->eB->Prop}(I:ZD X pins σ H s)(e:H a=some (.ins C dx fs))(c:UO X.K C)(n:ZV X.K C f)(hl:fs.length < 1000)(ry:ZG y u)(h:∀s',ZD X pins σ (upd H a (.ins C dx (Zq f y fs))) s'->Q () s'):wpAny (model X.prog X.w) A (setAttr (.ref a) f u) Q E s:=by
 obtain⟨mA,O,r,wi,_,ho⟩:=Ca I.hok e;have hz:(fs.map (·.1)).length<=sizeLine:=by rw[xA,sizeLine_eq];lia
 refine O8 I.kIn O c.sa c.po n.taker c.hd wi hz fun h' O' sb=>h _ ?_;have hd:∃o,h'.get? dx=some o:=let ⟨o,_,_,e',_⟩:=O'.ns;⟨o,e'⟩
 refine I.write (x:=a) (e:=dx) (by rw[e];exact True.intro) (.inr ho) (fun b q hb z=>(sb.2 b hb).trans z) hd ?_;refine⟨by rw[Ze O.ne];exact ho,?_,O.ne,O'.obj,_,O'.ns,fun g=>?_,fun g hg=>?_⟩
 ·have:=AE f y fs;lia
 ·show YO ((Zq f y fs).lookup g) (if g=f then some u else mA g);rw[Y1]
  by_cases q:g=f
  ·rw[if_pos q,if_pos q];exact ry
  ·rw[if_neg q,if_neg q];exact r g
 ·by_cases q:g=f
  ·rw[q];exact(ET f y fs).1
  ·refine(ET f y fs).2 g (wi g fun z=>hg ?_);show (if g=f then some u else mA g)=none;rw[if_neg q];exact z
theorem ZD.made(I:ZD X pins σ H s):ZD X pins σ (upd (upd H s.heap.objs.size (.own (s.heap.objs.size+1))) (s.heap.objs.size+1) (.ins C s.heap.objs.size []))
  {s with heap:=(s.heap.push PySem.W.emptyDict).push (PySem.W.instObj C s.heap.objs.size) }:=by
 have e1:(s.heap.push PySem.W.emptyDict).get? s.heap.objs.size=some PySem.W.emptyDict:=xW s.heap rfl;have e2:((s.heap.push PySem.W.emptyDict).push (PySem.W.instObj C s.heap.objs.size)).get? (s.heap.objs.size+1)=some (PySem.W.instObj C s.heap.objs.size):=by
  have:=xW (s.heap.push PySem.W.emptyDict) (o:=PySem.W.instObj C s.heap.objs.size) rfl
  rwa [zT] at this
 have e3:(s.heap.push PySem.W.emptyDict).Ns s.heap.objs.size (fun _=>none):=⟨PySem.W.emptyDict,#[],_,e1,rfl,(fun e he=>absurd he (by simp)),fun _=>rfl⟩;have I1:=I.laid (a:=s.heap.objs.size) (o:=.own (s.heap.objs.size+1)) (h':=s.heap.push PySem.W.emptyDict) (t':=s.toks) (fun b u q=>xG _ q) (xD _) ⟨_,e1⟩;refine I1.laid (a:=s.heap.objs.size+1) (o:=.ins C s.heap.objs.size []) (t':=s.toks) (fun b u q=>xG _ q) (Nat.le_of_eq (zT _ _)) ?_;have ne:s.heap.objs.size≠s.heap.objs.size+1:=yG (Nat.lt_succ_self _);refine⟨by rw[Ze ne,Zg],yL _,ne,e2,fun _=>none,(Heap.Ns1.of_empty e3).at fun o q=>xG _ q,fun _=>True.intro,fun y hy=>absurd rfl hy⟩
theorem Pe(hb:attributeBase e f env (eval e env)=eval e env)(h:wpAny (model prog w) A (eval e env) (fun o s₁=>wpAny (model prog w) A (getAttr o f true) Q E s₁) E s):wpAny (model prog w) A (eval (.Attribute e f pos) env) Q E s :=
 Attribute_any_ h (by rw[arm_eval_Attribute,hb])
end
inductive BB(K:uFg)(f:Str)(Q:VK)(x:V)(H1:Hp):Prop
 |mk(a C dx fs v)(_:x = .ref a)(_:H1 a=some (.ins C dx fs))(_:UO K C)(_:ZV K C f)(_:fs.lookup f=some v)(_:Q v H1)
def E2(K:uFg)(ta:TE)(f:Str):TE:=fun σ H Q=>ta σ H fun x H1=>BB K f Q x H1
inductive sFld_(K:uFg)(f:Str)(D:YI)(σ:St)(y x:V)(H2:Hp):Prop
 |mk(a C dx fs)(_:x = .ref a)(_:H2 a=some (.ins C dx fs))(_:UO K C)(_:ZV K C f)(_:fs.length < 1000)(_:D.nx σ (upd H2 a (.ins C dx (Zq f y fs))))
def Gu(K:uFg)(ta tv:TE)(f:Str):TS:=fun D σ H=>tv σ H fun y H1=>ta σ H1 fun x H2=>sFld_ K f D σ y x H2
theorem Ii(he:PE X e ta)(hb:attributeBase e f X.env (eval e X.env)=eval e X.env):PE X (.Attribute e f pos) (E2 X.K ta f):=by
 intro pins s σ H Q I h;refine Pe hb (thn (he pins s σ H _ I h) fun u s1 ⟨x,H1,I1,rx,a,C,dx,fs,v,ex,ea,c,n,l,q⟩=>?_);subst ex;obtain rfl:u=Value.ref a:=rx;exact SS I1 ea c n l fun u' s2 I2 ru=>⟨v,H1,I2,ru,q⟩
theorem NI(ha:PE X o ta)(hv:PE X value tv)(hs:swapsWith value (some (.Attribute o f pos')) pos.line X.env=pure false):PS X (.Assign [.Attribute o f pos'] value pos) (Gu X.K ta tv f):=by
 intro pins s σ H D I h;refine plainObj_wpAny_Assign_Attribute (thn (hv pins s σ H _ I h) fun u s1 ⟨y,H1,I1,ry,q⟩=>thn (ha pins s1 σ H1 _ I1 q) fun ov s2 ⟨x,H2,I2,rx,a,C,dx,fs,ex,ea,c,n,l,q2⟩=>?_) hs;subst ex;obtain rfl:ov=Value.ref a:=rx;exact PY I2 ea c n l ry fun s3 I3=>⟨σ,_,I3,q2⟩
section
variable{X:Cx}{pins:List (eF×Obj)}{σ:St}{H:Hp}{s:eB}{A:eJ}{E:dU}{Q:dU}{c:eE}{b:Bool}
inductive YY (K:uFg) (H:Hp):V->eE->Prop where
 | non:YY K H .non (.type "NoneType")
 | bl (x:Bool):YY K H (.bl x) (.type "bool")
 | int (i:Int):YY K H (.int i) (.type "int")
 | str (x:Str):YY K H (.str x) (.type "str")
 | flt (x:UInt64):YY K H (.flt x) (.type "float")
 | lst {a:eF}{xs:List V}(e:H a=some (.lst xs)):YY K H (.ref a) (.type "list")
 | frz {a:eF}{o:Obj}{xs:List V}(e:H a=some (.frz o (.lst xs))):YY K H (.ref a) (.type "list")
 | tup {a:eF}{xs:List V}(e:H a=some (.tup xs)):YY K H (.ref a) (.type "tuple")
 | dK {a:eF}{kvs:List (ZS×V)}(e:H a=some (.dK kvs)):YY K H (.ref a) (.type "dict")
 | dT {a:eF}{kvs:List (List ZS×V)}(e:H a=some (.dT kvs)):YY K H (.ref a) (.type "dict")
 | ins {a C dx:eF}{fs:List (Str×V)}(e:H a=some (.ins C dx fs)) (cl:UO K C) (ha:PySem.W.findIn K (.ref C) "__class__" = some (some (.builtin "object.__class__")))
   (hn:PySem.W.specialIn K (.builtin "object.__class__") "__get__" = some (some (.builtin "getset_descriptor.__get__"))) (htk:PySem.W.takesIn K (.builtin "object.__class__")=some true)
   (hm:PySem.W.mroIn K C (.type "object")=some true):YY K H (.ref a) (.ref C)
theorem Lh{x:V}{u t:eE}(I:ZD X pins σ H s)(rx:ZG x u)(ty:YY X.K H x t)(e:PySem.W.kitOne X.K t c=some b)(h:∀tk,Q (.bool b) {s with toks:=tk }) :
  wpAny (model X.prog X.w) A (call (.builtin "isinstance") [u,c]) Q E s:=by
 cases ty with
 | non=>cases (show u=Value.none from rx);exact PySem.W.kia_one PySem.W.kitx_none I.kIn True.intro e (fun z=>nomatch z) h
 | bl y=>cases (show u=Value.bool y from rx);exact PySem.W.kia_one PySem.W.kitx_bool I.kIn True.intro e (fun z=>nomatch z) h
 | int i=>obtain⟨t,q⟩:=(show ∃t,u=Value.int i t from rx);cases q;exact PySem.W.kia_one PySem.W.kitx_int I.kIn True.intro e (fun z=>nomatch z) h
 | str y=>obtain⟨t,q⟩:=(show ∃t,u=Value.str y t from rx);cases q;exact PySem.W.kia_one PySem.W.kitx_str I.kIn True.intro e (fun z=>nomatch z) h
 | flt y=>obtain⟨t,q⟩:=(show ∃t,u=Value.float y t from rx);cases q;exact PySem.W.kia_one PySem.W.kitx_float I.kIn True.intro e (fun z=>nomatch z) h
 | @lst a xs ea =>
  cases (show u=Value.ref a from rx);obtain⟨_,_,n,_,h1⟩:=(show ZO X.prog X.w H s.heap a (.lst xs) from I.hok a _ ea);exact PySem.W.kia_one PySem.W.kitx_list I.kIn ⟨_,h1,rfl⟩ e (fun z=>nomatch z) h
 | @frz a ob xs ea =>
  cases (show u=Value.ref a from rx);obtain⟨_,_,_,n,_,h1⟩:=(show ZO X.prog X.w H s.heap a (.frz ob (.lst xs)) from I.hok a _ ea);exact PySem.W.kia_one PySem.W.kitx_list I.kIn ⟨_,h1,rfl⟩ e (fun z=>nomatch z) h
 | @tup a xs ea =>
  cases (show u=Value.ref a from rx);obtain⟨_,_,_,p⟩:=(show ZO X.prog X.w H s.heap a (.tup xs) from I.hok a _ ea);obtain⟨o,h1,h2,_⟩:=p;exact PySem.W.kia_one PySem.W.kitx_tuple I.kIn ⟨o,h1,h2⟩ e (fun z=>nomatch z) h
 | @dK a kvs ea =>
  cases (show u=Value.ref a from rx);obtain⟨_,_,vs,_,p⟩:=(show ZO X.prog X.w H s.heap a (.dK kvs) from I.hok a _ ea);obtain⟨o,es,ep,h1,h2,_⟩:=p;exact PySem.W.kia_one PySem.W.kitx_dict I.kIn ⟨o,h1,h2.1⟩ e (fun z=>nomatch z) h
 | @dT a kvs ea =>
  cases (show u=Value.ref a from rx);obtain⟨_,_,xs,_,o,es,ep,h1,h2,_⟩:=(show ZO X.prog X.w H s.heap a (.dT kvs) from I.hok a _ ea);exact PySem.W.kia_one PySem.W.kitx_dict I.kIn ⟨o,h1,h2.1⟩ e (fun z=>nomatch z) h
 | @ins a C dx fs ea cl ha hn htk hm =>
  cases (show u=Value.ref a from rx);obtain⟨mA,O,_⟩:=Ca I.hok ea;obtain⟨od,J,_⟩:=O.look;exact PySem.W.kia_one (PySem.W.kitx_own (cl.get _) cl.hd ha hn htk hm) I.kIn J e (fun z=>nomatch z) h
end
end L2
namespace L2
open PySem PySem.Spec PyProof.Rows
structure ZL (k:Nat) (A:eJ):Prop where
 hd:A.handled=none
 dp:A.depth+3 * k+5 < recursionLimit
 un:A.units+16 * k+200 < cLine
theorem ZL.mono(r:ZL k A)(h:j<=k):ZL j A:=⟨r.hd,by have:=r.dp;lia,by have:=r.un;lia⟩
theorem ZL.deeper(r:ZL (k+1) A)(env:Env):ZL k (A.deeper env) :=
 ⟨r.hd,by have:=r.dp;show A.depth+1+3 * k+5 < _;lia,by have:=r.un;show A.units+3+16 * k+200 < _;lia⟩
theorem X0{A:eJ}{C:eF}{us:dY}{kw:List (Str×eE)}:(A.under (.builtin "type.__call__" ⟨.ref C::us,kw⟩)).depth=A.depth+1:=by
 first | rfl | simp[Around.under,Code.weight,Code.isCreation,Code.isGuard,Code.isCaller,Code.frames,Code.isFrame,guardIds]
theorem Rx{A:eJ}{C:eF}{us:dY}{kw:List (Str×eE)}:(A.under (.builtin "type.__call__" ⟨.ref C::us,kw⟩)).units=A.units+1:=by
 first | rfl | simp[Around.under,Code.cUnits,Code.frames,Code.isFrame]
theorem ZL.make(r:ZL (k+1) A)(C:eF)(us:dY)(kw:List (Str×eE)):ZL k (A.under (.builtin "type.__call__" ⟨.ref C::us,kw⟩)) :=
 ⟨r.hd,by have:=r.dp;rw[X0];lia,by have:=r.un;rw[Rx];lia⟩
theorem ZL.depth(r:ZL k A):A.depth < recursionLimit:=by have:=r.dp;lia
theorem ZL.units(r:ZL k A):A.units+64 < cLine:=by have:=r.un;lia
def Vl:TA:=fun _ H Q=>Q [] H
def V2(ta:TE)(tr:TA):TA:=fun σ H Q=>ta σ H fun x H1=>tr σ H1 fun xs H2=>Q (x::xs) H2
section
variable{t:TA}
theorem LO:PA X [] Vl:=fun _ _ _ _ H Q I h=>Calls.spliced_nil ⟨[],H,I,.nil,h⟩
theorem PU(ha:PE X e te)(hr:PA X es t)(hs:starEach (e::es) X.env=(false,eval e X.env)::starEach es X.env:=by rfl):PA X (e::es) (V2 te t):=by
 intro pos pins s σ H Q I h;rw[hs];show wpAny _ _ (spliced ((false,eval e X.env)::backTo pos (starEach es X.env))) _ _ s;refine Calls.spliced_cons (thn (ha pins s σ H _ I h) fun u s1 ⟨x,H1,I1,r1,q1⟩=>?_);exact thn (hr pos pins s1 σ H1 _ I1 q1) fun us s2 ⟨xs,H2,I2,r2,q2⟩=>⟨x::xs,H2,I2,.cons r1 r2,q2⟩
def FG(t:TA):TE:=fun σ H Q=>t σ H fun xs H1=>xs.length<=sizeLine/\∀p,H1 p=none->Q (.ref p) (upd H1 p (.tup xs))
def Lg(t:TA):TE:=fun σ H Q=>t σ H fun xs H1=>xs.length<=sizeLine/\∀p,H1 p=none->Q (.ref p) (upd H1 p (.lst xs))
theorem Mm {x1} (h:PA X es t):PE X (.Tuple es x1 pos) (FG t):=by
 intro pins s σ H Q I hq;refine wpAny_Tuple_spliced (thn (h pos pins s σ H _ I hq) fun us s1 ⟨xs,H1,I1,r,z,q⟩=>⟨by rw[← r.length];exact z,?_⟩);have hf:H1 s1.heap.objs.size=none:=I1.hok.fresh (xD _);refine⟨.ref s1.heap.objs.size,upd H1 s1.heap.objs.size (.tup xs),I1.laid (t':=s1.toks) (fun b u e=>xG _ e) (xD _) ?_,rfl,q _ hf⟩;exact⟨z,us,r,⟨_,xW _ rfl,rfl,_,rfl⟩⟩
theorem bY(h:PA X es t):PE X (.List es pos) (Lg t):=by
 intro pins s σ H Q I hq;refine wpAny_List_spliced (thn (h pos pins s σ H _ I hq) fun us s1 ⟨xs,H1,I1,r,z,q⟩=>⟨by rw[← r.length];exact z,?_⟩);have hf:H1 s1.heap.objs.size=none:=I1.hok.fresh (xD _);refine⟨.ref s1.heap.objs.size,upd H1 s1.heap.objs.size (.lst xs),I1.laid (t':=s1.toks) (fun b u e=>xG _ e) (xD _) ?_,rfl,q _ hf⟩;exact⟨z,us,0,r,xW _ rfl⟩
end
abbrev Sp:=List V->Hp->VK->XK->Prop
abbrev UU:=List Env->Hp->eB->XK->eE->eB->Prop
structure UF (P:eG) (w:eI) (K:uFg) (mg:dW) (base:Heap) (A:eJ) (outer:List Env) (s:eB) (H:Hp):Prop where
 frames:A.frames=some outer
 mod:Mod K mg base
 bs:∀b o,base.get? b=some o->s.heap.get? b=some o/\H b=none
 bsz:base.objs.size<=s.heap.objs.size
 funs:s.heap.FunFrames base outer
 frf:∀b∈frs outer,H b=none
 hok:YU P w H s.heap
 bare:AllBare s.gens
def CE(outer:List Env)(P:eG)(w:eI)(H:Hp)(s:eB)(Q:VK)(u:eE)(s':eB):Prop :=
 ∃v H',s'.os=s.os/\AllBare s'.gens/\Un (frs outer) [] H H' s.heap s'.heap/\YU P w H' s'.heap/\ZG v u/\Q v H'
def CR(CX:UU)(outer:List Env)(P:eG)(w:eI)(H:Hp)(s:eB)(Q:VK)(E:XK)(r:Result)(s':eB):Prop :=
 match r with
 | .ok (.ret u)=>CE outer P w H s Q u s'
 | .ok _=>False
 | .error e=>CX outer H s E e s'
structure YF (P:eG) (w:eI) (K:uFg) (mg:dW) (base:Heap) (CX:UU) (k:Nat) (f:eF) (fd:FuncData) (ps:dX) (sp:Sp):Prop where
 len:∀vs H Q E,sp vs H Q E->vs.length=ps.length
 run:∀(A:eJ)(outer:List Env)(s:eB)(H:Hp)(args:Args)(us:dY)(vs:List V)(Q:VK)(E:XK),ZL k A->UF P w K mg base A outer s H->BindsTo s fd args (ps.zip us)->ZH vs us->sp vs H Q E ->
  codeAny (model P w) A (.call (.ref f) args) (CR CX outer P w H s Q E) s
theorem YF.mono{P:eG}{w:eI}{K:uFg}{mg:dW}{base:Heap}{CX:UU}{j k:Nat}{f:eF}{fd:FuncData}{ps:dX}{sp:Sp}(F:YF P w K mg base CX j f fd ps sp)(h:j<=k) :
  YF P w K mg base CX k f fd ps sp:=⟨F.len,fun A outer s H args us vs Q E hr=>F.run A outer s H args us vs Q E (hr.mono h)⟩
theorem YF.imp{P:eG}{w:eI}{K:uFg}{mg:dW}{base:Heap}{CX:UU}{k:Nat}{f:eF}{fd:FuncData}{ps:dX}{sp sp':Sp}(F:YF P w K mg base CX k f fd ps sp)(h:∀vs H Q E,sp' vs H Q E->sp vs H Q E):YF P w K mg base CX k f fd ps sp' :=
 ⟨fun vs H Q E q=>F.len vs H Q E (h _ _ _ _ q),fun A outer s H args us vs Q E hr he hb hv hs=>F.run A outer s H args us vs Q E hr he hb hv (h _ _ _ _ hs)⟩
theorem UF.make{P:eG}{w:eI}{K:uFg}{mg:dW}{base:Heap}{A:eJ}{outer:List Env}{s:eB}{H:Hp}(e:UF P w K mg base A outer s H)(C:eF)(us:dY)(kw:List (Str×eE)) :
  UF P w K mg base (A.under (.builtin "type.__call__" ⟨.ref C::us,kw⟩)) outer s H:=⟨by first | exact e.frames | (simpa [Around.under,Code.envs,Code.isFrame,pushEnvs] using e.frames),e.mod,e.bs,e.bsz,e.funs,e.frf,e.hok,e.bare⟩
section
variable{X:Cx}{pins:List (eF×Obj)}{σ:St}{H:Hp}{s s':eB}
theorem ZD.env0(I:ZD X pins σ H s):UF X.prog X.w X.K X.mg X.base X.A X.stack s H :=
 ⟨I.ok.frames,I.ok.mod,I.bs,xX I.ok.bsz I.sz,I.stack,I.stkFree,I.hok,I.bare⟩
theorem ZD.after{Q:VK}{u:eE}(I:ZD X pins σ H s)(h:CE X.stack X.prog X.w H s Q u s'):EP X pins σ Q u s':=by
 obtain⟨v,H',os,bare,un,hok,r,q⟩:=h;obtain⟨hh,g,d,t,os'⟩:=s';obtain rfl:os'=s.os:=os;exact⟨v,H',I.call (h':=hh) (g':=g) (d':=d) (t':=t) (ch:=[]) un hok bare (fun b z=>absurd z (by simp)),r,q⟩
end
def Eo(sp:Sp)(dvs:List V)(E:XK)(t:TA):TE:=fun σ H Q=>t σ H fun vs H1=>sp (vs++dvs) H1 Q E
inductive AA(C:eF)(m:Str)(sp:Sp)(dvs:List V)(E:XK)(t:TA)(σ:St)(Q:VK)(x:V)(H1:Hp):Prop
 |mk(a dx fs)(_:x = .ref a)(_:H1 a=some (.ins C dx fs))(_:fs.lookup m=none)(_:t σ H1 fun vs H2=>sp (x::(vs++dvs)) H2 Q E)
def Dd(C:eF)(m:Str)(sp:Sp)(dvs:List V)(E:XK)(ta:TE)(t:TA):TE:=fun σ H Q=>ta σ H fun x H1=>AA C m sp dvs E t σ Q x H1
def Gs(C:eF)(sp:Sp)(dvs:List V)(E:XK)(t:TA):TE:=fun σ H Q=>t σ H fun vs H1=>∀x dx,H1 x=none->H1 dx=none->dx≠x ->
 sp (.ref x::(vs++dvs)) (upd (upd H1 dx (.own x)) x (.ins C dx [])) (fun v H2=>v = .non/\Q (.ref x) H2) E
def YM(K:uFg)(fd:FuncData)(ps:dX)(ds:dY):Prop :=
 ∀s us,K.In s.heap->(us++ds).length=ps.length->BindsTo s fd ⟨us,[]⟩ (ps.zip (us++ds))
theorem YM.all{K:uFg}{fd:FuncData}{ps:dX}(h:∀us:List eE,us.length=ps.length->bindArgs fd ⟨us,[]⟩=pure (ps.zip us)):YM K fd ps []:=fun s us _ hl=>by
 rw[yD] at hl ⊢;exact .of_eq (h us hl)
def A4(CX:UU)(X:Cx)(E:XK):Prop:=∀(pins:List (eF×Obj))(σ:St)(H:Hp)(s:eB)(e:eE)(s':eB),ZD X pins σ H s->CX X.stack H s E e s'->X.xe e s'
section
variable{X:Cx}{CX:UU}{k:Nat}{f C:eF}{fd:FuncData}{ps:dX}{sp:Sp}{dvs:List V}{ds:dY}{E:XK}{x m:Str}{p pos apos:Pos}{e o:Expr}{es:List Expr}{ta:TE}{t:TA}
theorem EI{pins:List (eF×Obj)}{σ:St}{H:Hp}{s:eB}{Q:VK}{us:dY}{vs:List V}(F:YF X.prog X.w X.K X.mg X.base CX k f fd ps sp)(hr:ZL k X.A)(hb:YM X.K fd ps ds)(hd:ZH dvs ds)(hx:A4 CX X E)(I:ZD X pins σ H s)(r:ZH vs us)(h:sp (vs++dvs) H Q E):wpAny (model X.prog X.w) X.A (call (.ref f) us) (EP X pins σ Q) X.xe s:=by
 have r2:ZH (vs++dvs) (us++ds):=r.append hd;have hl:(us++ds).length=ps.length:=by rw[← r2.length];exact F.len _ _ _ _ h
 refine wpAny_call (codeAny_mono (F.run X.A X.stack s H ⟨us,[]⟩ (us++ds) (vs++dvs) Q E hr I.env0 (hb s us I.kIn hl) r2 h) fun r s' hq=>?_);cases r with
 | error e=>exact hx pins σ H s e s' I hq
 | ok fl =>
  cases fl with
  | ret u=>exact I.after hq
  | next=>exact False.elim hq
  | brk=>exact False.elim hq
  | cont=>exact False.elim hq
theorem Rr(F:YF X.prog X.w X.K X.mg X.base CX k f fd ps sp)(hr:ZL k X.A)(hg:Gl X x)(hm:X.mg x=some (.ref f))(hk:PySem.W.keepIn X.K (.ref f)=true)(hb:YM X.K fd ps ds)(hd:ZH dvs ds)(hx:A4 CX X E)(ha:PA X (e::es) t)(hdb:(x == ("__debug__" : Str))=false:=by decide)(he:starEach (e::es) X.env=(false,eval e X.env)::starEach es X.env:=by rfl)(hpl:(backTo pos (starEach es X.env)).any (·.1)=false:=by rfl) :
  PE X (.Call (.Name x p) (e::es) [] pos) (Eo sp dvs E t):=by
 intro pins s σ H Q I h;refine wpAny_Call_Name_kw (Bc I hg hm ?_ hdb);refine PySem.W.callWith_K (h₀:=X.base) I.ok.mod.kin hk (thn (ha pos pins s σ H _ I h) fun us s1 ⟨vs,H1,I1,r,q⟩=>⟨I1.kIn,?_⟩) he hpl;exact EI F hr hb hd hx I1 r q
theorem Om{pl:Sem Bool}(he:PE X o ta)(c:UO X.K C)(hm:TC X.K C m f)(F:YF X.prog X.w X.K X.mg X.base CX k f fd ps sp)(hr:ZL k X.A)(hb:YM X.K fd ps ds)(hd:ZH dvs ds)(hx:A4 CX X E)(ha:PA X (e::es) t)(hst:starEach (e::es) X.env=(false,eval e X.env)::starEach es X.env:=by rfl)(hpl:(backTo pos (starEach es X.env)).any (·.1)=false:=by rfl)(ht:eval (.Call (.Attribute o m apos) (e::es) [] pos) X.env=(do
   let ov ← eval o X.env
   standAt apos.atName
   let (f,first) ← holding [ov] (getMethod ov m pl)
   callWith pos f first (backTo pos (starEach (e::es) X.env)) (backToKw pos (keywordEach [] X.env))):=by rfl) :
  PE X (.Call (.Attribute o m apos) (e::es) [] pos) (Dd C m sp dvs E ta t):=by
 intro pins s σ H Q I h;refine PySem.W.methodCall_KW (pl:=pl) (thn (he pins s σ H _ I h) fun u s1 ⟨x,H1,I1,rx,a,dx,fs,ex,ea,l,q⟩=>?_) ht;subst ex;obtain rfl:u=Value.ref a:=rx;refine CG I1 ea c hm l ?_;refine PySem.W.callWith_K (first:=[.ref a]) (h₀:=X.base) I.ok.mod.kin hm.kp (thn (ha pos pins s1 σ H1 _ I1 q) fun us s2 ⟨vs,H2,I2,r,q2⟩=>⟨I2.kIn,?_⟩) hst hpl;exact EI (us:=.ref a::us) (vs:=.ref a::vs) F hr hb hd hx I2 (.cons rfl r) q2
theorem ON(he:PE X o ta)(c:UO X.K C)(hm:TC X.K C m f)(F:YF X.prog X.w X.K X.mg X.base CX k f fd ps sp)(hr:ZL k X.A)(hb:YM X.K fd ps ds)(hd:ZH dvs ds)(hx:A4 CX X E)(ht:eval (.Call (.Attribute o m apos) [] [] pos) X.env=(do
   let ov ← eval o X.env
   standAt apos.atName
   let (f,first) ← holding [ov] (getMethod ov m pl)
   callWith pos f first (backTo pos (starEach [] X.env)) (backToKw pos (keywordEach [] X.env))):=by rfl) :
  PE X (.Call (.Attribute o m apos) [] [] pos) (Dd C m sp dvs E ta Vl):=by
 intro pins s σ H Q I h;refine PySem.W.methodCall_KW (pl:=pl) (thn (he pins s σ H _ I h) fun u s1 ⟨x,H1,I1,rx,a,dx,fs,ex,ea,l,q⟩=>?_) ht;subst ex;obtain rfl:u=Value.ref a:=rx;refine CG I1 ea c hm l ?_;exact PySem.W.callWith_K0 (first:=[.ref a]) I1.kIn hm.kp (EI (us:=[.ref a]) (vs:=[.ref a]) F hr hb hd hx I1 (.cons rfl .nil) q)
structure Mk (K:uFg) (C f:eF):Prop where
 makes:PySem.W.makesIn K C=true
 init:PySem.W.findIn K (.ref C) "__init__" = some (some (.ref f))
 fn:PySem.W.isFn K (.ref f)=true
 kp:PySem.W.keepIn K (.ref C)=true
theorem bR{pins:List (eF×Obj)}{σ:St}{H:Hp}{s:eB}{Q:VK}{us:dY}{vs:List V}(M:Mk X.K C f)(F:YF X.prog X.w X.K X.mg X.base CX k f fd ps sp)(hr:ZL (k+1) X.A)(hb:YM X.K fd ps ds)(hd:ZH dvs ds)(hx:A4 CX X E)(I:ZD X pins σ H s)(r:ZH vs us)(h:∀x dx,H x=none->H dx=none->dx≠x->sp (.ref x::(vs++dvs)) (upd (upd H dx (.own x)) x (.ins C dx [])) (fun v H2=>v = .non/\Q (.ref x) H2) E) :
  wpAny (model X.prog X.w) X.A (call (.ref C) us) (EP X pins σ Q) X.xe s:=by
 have hq:=h (s.heap.objs.size+1) s.heap.objs.size (I.hok.fresh (Nat.le_succ _)) (I.hok.fresh (xD _)) (yG (Nat.lt_succ_self _));have I2:=ZD.made (C:=C) I;have r2:ZH (V.ref (s.heap.objs.size+1)::(vs++dvs)) (Value.ref (s.heap.objs.size+1)::(us++ds)):=.cons rfl (r.append hd);have hl:(Value.ref (s.heap.objs.size+1)::us++ds).length=ps.length:=by
  have e:=r2.length;rw[F.len _ _ _ _ hq] at e;exact e.symm
 refine wpAny_call (XD (f:=f) I.kIn M.makes M.init (beq_iff_eq.mp M.fn) (codeAny_mono (F.run _ X.stack _ _ ⟨Value.ref (s.heap.objs.size+1)::us,[]⟩ (Value.ref (s.heap.objs.size+1)::(us++ds)) _ _ E (hr.make C us []) (I2.env0.make C us []) (hb _ (Value.ref (s.heap.objs.size+1)::us) I2.kIn hl) r2 hq) fun r s' hq'=>?_));cases r with
 | error e=>exact hx pins σ _ _ e s' I2 hq'
 | ok fl =>
  cases fl with
  | ret u =>
   obtain⟨v,H',I3,rv,ev,q3⟩:=I2.after hq';subst ev;exact⟨rv,⟨V.ref (s.heap.objs.size+1),H',I3,rfl,q3⟩⟩
  | next=>exact False.elim hq'
  | brk=>exact False.elim hq'
  | cont=>exact False.elim hq'
theorem OF(M:Mk X.K C f)(F:YF X.prog X.w X.K X.mg X.base CX k f fd ps sp)(hr:ZL (k+1) X.A)(hg:Gl X x)(hm:X.mg x=some (.ref C))(hb:YM X.K fd ps ds)(hd:ZH dvs ds)(hx:A4 CX X E)(hdb:(x == ("__debug__" : Str))=false:=by decide):PE X (.Call (.Name x p) [] [] pos) (Gs C sp dvs E Vl):=by
 intro pins s σ H Q I h;refine wpAny_Call_Name_kw (Bc I hg hm ?_ hdb);exact PySem.W.callWith_K0 I.kIn M.kp (bR (us:=[]) M F hr hb hd hx I .nil h)
end
section
variable{X:Cx}{CX:UU}{k:Nat}{f:eF}{fd:FuncData}{ps ks:dX}{sp:Sp}{E:XK}{x:Str}{p pos:Pos}{e:Expr}{es:List Expr}{kws:List Keyword}{t tk:TA}
variable{g:List eE->List eE->List eE}{gV:List V->List V->List V}
end
structure ZM (N P:dX) (sc:Scope):Prop where
 kind:sc.kind = .function
 co:sc.isCoroutine=false
 gen:sc.isGenerator=false
 nd:N.Nodup
 pre:N.take P.length=P
 par:∀x∈P,sc.names.lookup x=some .local\/sc.names.lookup x=some .cell
 nofree:∀y∈sc.names,y.2 ≠ .free
theorem HJ{kindOf:Str->Option NameKind}{x:Str}:∀{binds:List (Str×eE)}{m:dW},(∀v,(x,v)∉binds)->bindL kindOf binds m x=m x
 | [],_,_=>rfl
 | (n,v)::r,m,h=>by
  unfold bindL;rw[HJ fun w hw=>h w (xN _ hw)];split
  ·have:x≠n:=by rintro rfl;exact h v xY
   simp[this]
  ·rfl
theorem HV{kindOf:Str->Option NameKind}{x:Str}:∀{binds:List (Str×eE)}{m:dW},(∀v,(x,v)∉binds)->bindC kindOf binds m x=m x
 | [],_,_=>rfl
 | (n,v)::r,m,h=>by
  unfold bindC;rw[HV fun w hw=>h w (xN _ hw)];split
  ·rfl
  ·have:x≠n:=by rintro rfl;exact h v xY
   simp[this]
theorem KZ{kindOf:Str->Option NameKind}{x:Str}{v:eE}:∀{P:dX}{vs:dY}{i:Nat}{m:dW},P.Nodup->P[i]? = some x->vs[i]? = some v->kindOf x=some .local ->
  bindL kindOf (P.zip vs) m x=some v
 | [],_,_,_,_,h,_,_=>by simp at h
 | _::_,[],_,_,_,_,h,_=>by simp at h
 | p::P,w::vs,0,m,nd,h1,h2,hk=>by
  simp at h1 h2;subst h1;subst h2;show bindL kindOf ((p,w)::P.zip vs) m p=_;unfold bindL;rw[HJ fun v hv=>(yJ.mp nd).1 (yZ hv).1,if_pos hk];simp
 | p::P,w::vs,i+1,m,nd,h1,h2,hk=>by
  show bindL kindOf ((p,w)::P.zip vs) m x=_;unfold bindL;exact KZ (i:=i) (yJ.mp nd).2 (by simpa using h1) (by simpa using h2) hk
theorem FD{kindOf:Str->Option NameKind}{x:Str}{v:eE}:∀{P:dX}{vs:dY}{i:Nat}{m:dW},P.Nodup->P[i]? = some x->vs[i]? = some v->kindOf x≠some .local ->
  bindC kindOf (P.zip vs) m x=some v
 | [],_,_,_,_,h,_,_=>by simp at h
 | _::_,[],_,_,_,_,h,_=>by simp at h
 | p::P,w::vs,0,m,nd,h1,h2,hk=>by
  simp at h1 h2;subst h1;subst h2;show bindC kindOf ((p,w)::P.zip vs) m p=_;unfold bindC;rw[HV fun v hv=>(yJ.mp nd).1 (yZ hv).1,if_neg hk];simp
 | p::P,w::vs,i+1,m,nd,h1,h2,hk=>by
  show bindC kindOf ((p,w)::P.zip vs) m x=_;unfold bindC;exact FD (i:=i) (yJ.mp nd).2 (by simpa using h1) (by simpa using h2) hk
def start(N:dX)(vs:List V):St:=vs.map some++List.replicate (N.length - vs.length) none
def Y2(CX:UU)(P:eG)(w:eI)(K:uFg)(mg:dW)(base:Heap)(N:dX)(qual:Str)(scope:Scope)(f:eF)(cd:eE)(A:eJ)(outer:List Env)(s:eB)(H:Hp)(E:XK):Cx where
 prog:=P
 w:=w
 K:=K
 mg:=mg
 base:=base
 A:=A.deeper (envOfC qual scope s.heap.objs.size f cd)
 N:=N
 s₀:=s
 H₀:=H
 env:=envOfC qual scope s.heap.objs.size f cd
 outer:=outer
 stack:=envOfC qual scope s.heap.objs.size f cd::outer
 ex:=[]
 calm:=true
 fn:=fun _=>true
 pn:=[]
 xe:=fun e s'=>wpAny (model P w) (A.deeper (envOfC qual scope s.heap.objs.size f cd)) (leaving (envOfC qual scope s.heap.objs.size f cd) e) (fun _ s''=>CX outer H s E e s'') (fun e' s''=>CX outer H s E e' s'') s'
theorem Hn{sc:Scope}{n:Nat}{x:Str}(h:sc.names.lookup x=some .cell):∃c,(cellsFrom n sc.names []).lookup x=some c:=by
 have q:=PySem.W.cellsFrom_some sc.names n [] (.inl h);exact Option.isSome_iff_exists.mp q
theorem Hl{CX:UU}{P:eG}{w:eI}{K:uFg}{mg:dW}{base:Heap}{N ps:dX}{qual:Str}{scope:Scope}{f:eF}{cd:eE}{A:eJ}{outer:List Env}{s s1:eB}{H:Hp}{E:XK}{us:dY}{vs:List V}(S:ZM N ps scope)(hd:A.handled=none)(e0:UF P w K mg base A outer s H)(hl:vs.length=ps.length)(r:ZH vs us)(x:InCallC s s.heap.objs.size (bindL (envOfC qual scope s.heap.objs.size f cd).kindOf (ps.zip us) fun _=>none) (cellsFrom (s.heap.objs.size+1) scope.names []) (bindC (envOfC qual scope s.heap.objs.size f cd).kindOf (ps.zip us) fun _=>none) s1) :
  ZD (Y2 CX P w K mg base N qual scope f cd A outer s H E) [] (start N vs) H s1:=by
 have hpl:ps.length<=N.length:=by have:=congrArg List.length S.pre;rw[xU] at this;lia
 obtain⟨h1,tk,rfl,hk⟩:=x.done;have noA:∀b:eF,b∉(Y2 CX P w K mg base N qual scope f cd A outer s H E).ex:=fun b z=>absurd (show b∈([]:eA) from z) (by simp);refine⟨⟨e0.mod,S.kind,rfl,rfl,xD _,fun y z c h1 h2=>?_,fun y hy=>?_,fun y c _ h=>?_,fun _=>hd,Around.frames_deeper e0.frames,.inr ⟨rfl,rfl⟩,fun b z=>absurd z (noA b),e0.bs,e0.bsz,fun b _ _=>noA b,fun b z=>absurd z (noA b),e0.funs,e0.frf⟩, rfl,e0.bare,Un.kept hk,⟨_,x.toInCall.ns,fun i y v h1 h2 h3=>?_⟩,fun y c h=>⟨_,x.cell y c h⟩,e0.hok.fresh (xD _),fun y c h=>?_,fun p hp=>absurd (show p∈([]:List (eF×Obj)) from hp) (by simp),e0.hok.kept hk,?_⟩
 ·exact name_of_addr x.apart (PySem.mem_of_lookup h1) (PySem.mem_of_lookup h2)
 ·have hy:scope.names.lookup y=some .cell\/scope.names.lookup y=some .free:=hy;rcases hy with hy | hy
  ·exact Hn hy
  ·exact absurd rfl (S.nofree _ (PySem.mem_of_lookup hy))
 ·exact zC (x.above y c (PySem.mem_of_lookup h))
 ·have hi:i < vs.length:=by
   unfold start at h2
   by_cases hi:i < vs.length
   ·exact hi
   ·grind
  have ha:vs[i]? = some v:=by
   unfold start at h2;rw[zQ (by simpa using hi),xI] at h2;cases e:vs[i]? with
   | none=>rw[e] at h2;cases h2
   | some a=>rw[e] at h2;cases h2;rfl
  obtain⟨u,hu,rv⟩:=r.get ha;have hp:ps[i]? = some y:=by
   rw[← S.pre,List.getElem?_take_of_lt (by lia)];exact h1
  have ndP:ps.Nodup:=by rw[← S.pre];exact S.nd.sublist (List.take_sublist _ _)
  refine⟨u,rv,?_⟩;rcases S.par y (xJ hp) with k | k
  ·exact .inl ⟨k,KZ ndP hp hu k⟩
  ·obtain⟨c,e⟩:=Hn (n:=s.heap.objs.size+1) k;refine .inr ⟨.inl k,c,e,?_⟩;have q:=x.cell y c e;rw[FD ndP hp hu (by show scope.names.lookup y≠_;rw[k];decide)] at q;exact q
 ·exact e0.hok.fresh (zC (x.above y c (PySem.mem_of_lookup h)))
 ·unfold start;show _=N.length;rw[xE,xA,List.length_replicate];lia
theorem GG{CX:UU}{P:eG}{w:eI}{K:uFg}{mg:dW}{base:Heap}{k:Nat}{f:eF}{name qual:Str}{params:Arguments}{body:List Stmt}{scope:Scope}{dV kV doc pm cdv ct oc:eE}{an od:Option eF}{osl:Array (Option eE)}{N ps:dX}{sp:Sp}(lk:K.lookup f=some ⟨oc,od,.func (PySem.W.fnOf name qual params body scope dV kV doc pm an cdv ct),osl⟩)(hcd:PySem.W.codeIn K cdv qual=true)(S:ZM N ps scope)(len:∀vs H Q E,sp vs H Q E->vs.length=ps.length)(hbody:∀A outer s H vs Q E,ZL k (A.deeper (envOfC qual scope s.heap.objs.size f cdv))->sp vs H Q E -> ∃t,UW (Y2 CX P w K mg base N qual scope f cdv A outer s H E) body t/\t {nx:=fun _ H'=>Q .non H',rt:=Q } (start N vs) H) :
  YF P w K mg base CX (k+1) f (PySem.W.fnOf name qual params body scope dV kV doc pm an cdv ct) ps sp:=by
 refine⟨len,fun A outer s H args us vs Q E hr e0 hb r hsp=>?_⟩;have hl:=len _ _ _ _ hsp;have KX:K.In s.heap:=e0.mod.kin.keeps fun b o e=>(e0.bs b o e).1;have lim:s.heap.NoLimit:=e0.mod.nolimit.keeps fun b o e=>(e0.bs b o e).1;have hkind:∀y∈ps.zip us,scope.names.lookup y.1=some .local\/(scope.names.lookup y.1=some .cell/\((cellsFrom (s.heap.objs.size+1) scope.names []).lookup y.1).isSome=true):=fun⟨n,v⟩ hy=>by
  rcases S.par n (yZ hy).1 with q | q
  ·exact .inl q
  ·exact .inr ⟨q,PySem.W.cellsFrom_some _ _ _ (.inl q)⟩
 refine codeAny_call_function hr.depth (KX _ _ lk) rfl S.co S.gen rfl (PySem.W.codeRec_of KX hcd) (hb _ _ _ _ ?_);refine wpAny_newFunctionEnv_cells S.kind hkind fun env he s1 x=>?_;subst he;refine⟨lim.keeps x.toInCall.keep,codeAny_func ?_⟩;obtain⟨t,ht,hq⟩:=hbody A outer s H vs Q E (hr.deeper _) hsp;have I:ZD (Y2 CX P w K mg base N qual scope f cdv A outer s H E) [] (start N vs) H s1:=Hl S hr.hd e0 hl r x;refine wpAny_mono (ht [] s1 (start N vs) H _ I hq) (fun fl s' hs=>?_) fun e s' hs=>hs;have fin:∀{σ':St}{H':Hp}{v:V}{u:eE},ZD (Y2 CX P w K mg base N qual scope f cdv A outer s H E) [] σ' H' s'->ZG v u->Q v H'->CE outer P w H s Q u s' :=
  fun {σ' H' v u} J rv q=>⟨v,H',J.os,J.bare,J.base,J.hok,rv,q⟩
 cases fl with
 | ret u =>
  obtain⟨v,σ',H',J,rv,q⟩:=hs;exact fin J rv q
 | next =>
  obtain⟨σ',H',J,q⟩:=hs;exact fin (v:=V.non) (u:=Value.none) J rfl q
 | brk =>
  obtain⟨_,_,_,q⟩:=hs;exact False.elim q
 | cont =>
  obtain⟨_,_,_,q⟩:=hs;exact False.elim q
end L2
namespace L2
open PySem PySem.Spec PyProof.Rows
section
variable{X:Cx}{x:Str}{p pos:Pos}{e:Expr}{es:List Expr}{t:TA}{id:String}{r:List V->Hp->VK->Prop}
def Bn(r:List V->Hp->VK->Prop)(t:TA):TE:=fun σ H Q=>t σ H fun vs H1=>r vs H1 Q
theorem PR(hc:Vg X (.builtin id) r)(hg:Gl X x)(hm:X.mg x=none)(hv:bootBuiltins x=some (.builtin id))(ha:PA X (e::es) t)(hn:x ≠ "__name__" := by decide)(hdb:(x == ("__debug__" : Str))=false:=by decide)(he:starEach (e::es) X.env=(false,eval e X.env)::starEach es X.env:=by rfl)(hpl:(backTo pos (starEach es X.env)).any (·.1)=false:=by rfl):PE X (.Call (.Name x p) (e::es) [] pos) (Bn r t):=by
 intro pins s σ H Q I h;refine wpAny_Call_Name_kw (JE I hg hm hv ?_ hn hdb);exact PyProof.Rows.callWith_builtin1 (thn (ha pos pins s σ H _ I h) fun us s1 ⟨vs,H1,I1,r1,q1⟩=>hc pins s1 σ H1 vs us Q I1 r1 q1) he hpl
theorem Xh(hc:Vg X (.type T) r)(hg:Gl X x)(hm:X.mg x=none)(hv:bootBuiltins x=some (.type T))(ha:PA X (e::es) t)(hn:x ≠ "__name__" := by decide)(hdb:(x == ("__debug__" : Str))=false:=by decide)(he:starEach (e::es) X.env=(false,eval e X.env)::starEach es X.env:=by rfl)(hpl:(backTo pos (starEach es X.env)).any (·.1)=false:=by rfl):PE X (.Call (.Name x p) (e::es) [] pos) (Bn r t):=by
 intro pins s σ H Q I h;refine wpAny_Call_Name_kw (JE I hg hm hv ?_ hn hdb);exact PyProof.Rows.callWith_type1 (thn (ha pos pins s σ H _ I h) fun us s1 ⟨vs,H1,I1,r1,q1⟩=>hc pins s1 σ H1 vs us Q I1 r1 q1) he hpl
end
end L2
namespace HT
open PySem PyProof.Rows
section
open PySem.SeqAt
open PySem.AutoSeq1 (wpAny_loadPart')
open PySem.MeetsSeq PySem.MeetsSeq2 PySem.MeetsSeq3
end
def sIx(n d:Nat):Option Int->Nat
 | none=>d
 | some v=>if v < 0 then (v+(n:Int)).toNat else min v.toNat n
theorem sIx_none(n d:Nat):sIx n d none=d:=rfl
theorem sIx_nat(n d k:Nat):sIx n d (some (k:Int))=min k n:=by
 show (if (k:Int) < 0 then ((k:Int)+(n:Int)).toNat else min (k:Int).toNat n)=min k n;rw[if_neg (by lia),yR]
end HT
namespace L2
open PySem PySem.Spec PyProof.Rows
abbrev TO:=St->Hp->(Option Int->Hp->Prop)->Prop
def PO(X:Cx)(e:Option Expr)(t:TO):Prop :=
 ∀(pins:List (eF×Obj))(s:eB)(σ:St)(H:Hp)(Q:Option Int->Hp->Prop),ZD X pins σ H s->t σ H Q ->
  wpAny (model X.prog X.w) X.A (evalPart e X.env) (fun u s'=>∃o H',ZD X pins σ H' s'/\IsPart u o/\Q o H') X.xe s
def FC:TO:=fun _ H Q=>Q none H
inductive A9(Q:Option Int->Hp->Prop)(x:V)(H1:Hp):Prop
 |mk(i)(_:x = .int i)(_:Q (some i) H1)
def HU(t:TE):TO:=fun σ H Q=>t σ H fun x H1=>A9 Q x H1
section
variable{X:Cx}{te:TE}{lo hi:Option Expr}{tl th:TO}
theorem Pj:PO X none FC:=by
 intro pins s σ H Q I h;rw[evalPart_none];exact wpAny_pure ⟨none,H,I,.none,h⟩
theorem Rl(h:PE X e te):PO X (some e) (HU te):=by
 intro pins s σ H Q I hw;rw[evalPart_some];refine thn (h pins s σ H _ I hw) fun u s1 ⟨x,H1,I1,r1,q1⟩=>?_;obtain⟨i,rfl,q⟩:=q1;obtain⟨t,rfl⟩:=r1;exact⟨some i,H1,I1,.int i t,q⟩
def CI(X:Cx)(r:V->Option Int->Option Int->Hp->VK->Prop):Prop :=
 ∀(pins:List (eF×Obj))(s:eB)(σ:St)(H:Hp)(x:V)(v vl vu:eE)(lo hi:Option Int)(sl:eF)(Q:VK),ZD X pins σ H s->ZG x v->s.heap.IsSliceOf sl vl vu .none->IsPart vl lo->IsPart vu hi->r x lo hi H Q ->
  ∃T id,typeLookup (.type T) "__getitem__" = pure (some (.builtin id))/\s.TypeIs v T/\wpAny (model X.prog X.w) X.A (getItem v (.ref sl)) (EP X pins σ Q) X.xe s
def FR(r:V->Option Int->Option Int->Hp->VK->Prop)(te:TE)(tl th:TO):TE:=fun σ H Q=>te σ H fun x H1=>tl σ H1 fun l H2=>th σ H2 fun u H3=>r x l u H3 Q
theorem MK(hr:CI X r)(he:PE X e te)(hl:PO X lo tl)(hu:PO X hi th):PE X (.Subscript e (.Slice lo hi none p2) pos) (FR r te tl th):=by
 intro pins s σ H Q I h;refine Subscript_ (thn (he pins s σ H _ I h) fun v s1 ⟨x,H1,I1,r1,q1⟩=>?_);refine wpAny_Slice (thn (hl pins s1 σ H1 _ I1 q1) fun vl s2 ⟨l,H2,I2,pl,q2⟩=>thn (hu pins s2 σ H2 _ I2 q2) fun vu s3 ⟨u,H3,I3,pu,q3⟩=>?_);rw[evalPart_none];refine wpAny_pure ?_;have I4:ZD X pins σ H3 {s3 with heap:=s3.heap.push {cls:=.type "slice", data:=.fields #[vl,vu,.none] } }:=I3.kept (t':=s3.toks) fun b ob q=>xG _ q;obtain⟨T,id,hT,ht,hg⟩:=hr pins {s3 with heap:=s3.heap.push {cls:=.type "slice", data:=.fields #[vl,vu,.none] } } σ H3 x v vl vu l u s3.heap.objs.size Q I4 r1 (Heap.IsSliceOf.new ..) pl pu q3;show wpAny (model X.prog X.w) X.A (subscriptTail e (.Slice lo hi none p2) v (.ref s3.heap.objs.size)) (EP X pins σ Q) X.xe {s3 with heap:=s3.heap.push {cls:=.type "slice", data:=.fields #[vl,vu,.none] } };exact tail_any (ops:=[.ref s3.heap.objs.size,v]) ht hT hg (by with_unfolding_all rfl)
def Uk(xs:List V)(lo hi:Option Int):List V:=(xs.drop (HT.sIx xs.length 0 lo)).take (HT.sIx xs.length xs.length hi - HT.sIx xs.length 0 lo)
theorem MJ(xs:List V)(lo hi:Option Int):(Uk xs lo hi).length<=xs.length:=by
 unfold Uk;rw[xU,zU];lia
end
end L2
namespace L2
open PySem PySem.Spec PyProof.Rows
def ixN(n:Nat)(i:Int):Option Nat:=if 0<=i then (if i < n then some i.toNat else none) else if -(n:Int)<=i then some (i+n).toNat else none
def atI{α:Type}(xs:List α)(i:Int):Option α:=(ixN xs.length i).bind fun j=>xs[j]?
theorem Hi(h:ixN n i=some j):seqIndex? i n=some j/\j < n /\ -(n:Int)<=i/\i < n:=by
 unfold ixN at h
 by_cases h0 : 0<=i
 ·rw[if_pos h0] at h
  by_cases h1:i < n
  ·rw[if_pos h1] at h;have e:i.toNat=j:=Option.some.inj h;exact⟨by rw[seqIndex_of h0 h1,e],by lia,by lia,h1⟩
  ·rw[if_neg h1] at h;cases h
 ·rw[if_neg h0] at h
  by_cases h1 : -(n:Int)<=i
  ·rw[if_pos h1] at h;have e:(i+n).toNat=j:=Option.some.inj h;exact⟨by rw[seqIndex_neg (by lia) h1,e],by lia,h1,by lia⟩
  ·rw[if_neg h1] at h;cases h
theorem DT{α:Type}{xs:List α}{v : α}(h:atI xs i=some v):∃j,seqIndex? i xs.length=some j/\xs[j]? = some v/\j < xs.length /\ -(xs.length:Int)<=i/\i < xs.length:=by
 unfold atI at h;cases e:ixN xs.length i with
 | none=>rw[e] at h;cases h
 | some j =>
  rw[e] at h;obtain⟨h1,h2,h3,h4⟩:=Hi e;exact⟨j,h1,h,h2,h3,h4⟩
theorem Y8{α:Type}{xs:List α}{j:Nat}{v : α}(h:xs[j]? = some v):atI xs (j:Int)=some v:=by
 have hj:j < xs.length:=(xH.mp h).1;have e:ixN xs.length (j:Int)=some j:=by
  unfold ixN;rw[if_pos (by lia),if_pos (by lia)];simp
 unfold atI;rw[e];exact h
def Kq(b:Expr):Prop:=∀o i,subscripted b false o i=operate [o,i] (getItem o i)
def B5(X:Cx)(r:R2):Prop :=
 ∀(value slice:Expr)(pins:List (eF×Obj))(s:eB)(σ:St)(H:Hp)(x y:V)(v u:eE)(Q:VK),ZD X pins σ H s->ZG x v->ZG y u->r x y H Q ->
  subscripted slice false v u=operate [v,u] (getItem v u)->wpAny (model X.prog X.w) X.A (subscriptTail value slice v u) (EP X pins σ Q) X.xe s
def BU(X:Cx)(id:String)(r:V->List V->Hp->VK->Prop):Prop :=
 ∀(pins:List (eF×Obj))(s:eB)(σ:St)(H:Hp)(x:V)(xs:List V)(v:eE)(us:dY)(Q:VK),ZD X pins σ H s->ZG x v->ZH xs us->r x xs H Q ->
  wpAny (model X.prog X.w) X.A (call (.builtin id) (v::us)) (EP X pins σ Q) X.xe s
section
variable{X:Cx}{a b:Expr}
theorem Xr(hr:B5 X r)(ha:PE X a ta)(hb:PE X b tb)(hs:Kq b):PE X (.Subscript a b pos) (Tx r ta tb):=by
 intro pins s σ H Q I h;exact Subscript_ (DC ha hb I h fun v u s2 x y H2 I2 rx ry q=>hr a b pins s2 σ H2 x y v u Q I2 rx ry q (hs _ _))
inductive Av(K:uFg)(x y:V)(H:Hp)(Q:VK):Prop
 |mk(p xs i v)(_:x = .ref p)(_:y = .int i)(_:ZE K H p xs)(_:atI xs i=some v)(_:Q v H)
inductive J6(K:uFg)(x y:V)(H:Hp)(Q:VK):Prop
 |mk(p xs i v)(_:x = .ref p)(_:y = .int i)(_:ZT K H p xs)(_:atI xs i=some v)(_:Q v H)
inductive B0(x y:V)(H:Hp)(Q:VK):Prop
 |mk(z i c)(_:x = .str z)(_:y = .int i)(_:z.length<=sizeLine)(_:atI z.cps.toList i=some c)(_:Q (.str ⟨#[c]⟩) H)
theorem GZ:B5 X (Av X.K):=by
 intro value slice pins s σ H x y v u Q I rx ry h hs;obtain⟨p,xs,i,z,rfl,rfl,hq,he,q⟩:=h;cases rx;obtain⟨t,rfl⟩:=ry;obtain⟨its,r,pl,hz⟩:=I.list hq;obtain⟨j,h1,h2,h3,h4,h5⟩:=DT he;obtain⟨w,ew,rw'⟩:=r.get h2;have hl:=r.length;have hn:=AN;have fin:EP X pins σ Q w s:=⟨z,H,I,rw',q⟩
 by_cases h0 : 0<=i
 ·have hj:i.toNat=j:=by
   rw[seqIndex_of h0 h5] at h1;exact Option.some.inj h1
  exact item_listR pl.isList h0 (by lia) (by rw[hj];simpa using ew) fin hs
 ·have hj:(i+(its.toArray.size:Int)).toNat=j:=by
   rw[seqIndex_neg (by lia) h4] at h1;rw[xP,← hl];exact Option.some.inj h1
  exact subscriptTail_builtinR (x:=w) pl.isList.typeIs slot_list_getitem.lookup
   (wpAny_getItem_list_neg (Q:=fun r s'=>r=w/\EP X pins σ Q r s') pl.isList (by lia) (by rw[xP]<;>lia) (by lia) (by rw[hj];simpa using ew) ⟨rfl,fin⟩) hs
theorem IX:B5 X (J6 X.K):=by
 intro value slice pins s σ H x y v u Q I rx ry h hs;obtain⟨p,xs,i,z,rfl,rfl,hq,he,q⟩:=h;cases rx;obtain⟨t,rfl⟩:=ry;obtain⟨its,r,pl,hz⟩:=I.tuple hq;obtain⟨j,h1,h2,h3,h4,h5⟩:=DT he;obtain⟨w,ew,rw'⟩:=r.get h2;have hl:=r.length;have hn:=AN;have fin:EP X pins σ Q w s:=⟨z,H,I,rw',q⟩;exact subscriptTail_builtinR (x:=w) pl.typeIs slot_tuple_getitem.lookup
  (getItem_tuple (j:=j) (Q:=fun r s'=>r=w/\EP X pins σ Q r s') pl (by lia) (by lia) (by rw[xP,← hl];exact h1) (by simpa using ew) ⟨rfl,fin⟩) hs
theorem Qm:B5 X B0:=by
 intro value slice pins s σ H x y v u Q I rx ry h hs;obtain⟨z,i,c,rfl,rfl,hz,he,q⟩:=h;obtain⟨t,rfl⟩:=rx;obtain⟨t',rfl⟩:=ry;obtain⟨j,h1,h2,h3,h4,h5⟩:=DT he;have hl:z.cps.toList.length=z.length:=by simp[Str.length]
 rw[hl] at h1 h4 h5;have hn:=AN
 exact tail_any (typeIs_str s z t) slot_str_getitem.lookup (getItem_str (c:=c) (by
  have e1:decide (i < -(2 ^ 63:Int))=false:=zD (by lia);have e2:decide (i>=2 ^ 63)=false:=zD (by lia)
  rw[e1,e2,Bool.or_false]) (by rw[h1];simpa using h2) ⟨.str ⟨#[c]⟩,H,I.tok _,⟨_,rfl⟩,q⟩) hs
theorem Ov(its:dY)(n j:Nat)(u:eE):Obj.mapSeq (·.setIfInBounds j u) {cls:=.type "list", data:=.seq its.toArray n }={cls:=.type "list", data:=.seq (its.set j u).toArray n }:=by
 simp[Obj.mapSeq]
theorem ZD.lst{pins:List (eF×Obj)}{σ:St}{H:Hp}{s:eB}{p:eF}{xs:List V}(I:ZD X pins σ H s)(h:H p=some (.lst xs)) :
  ∃its n,ZH xs its/\s.heap.get? p=some {cls:=.type "list", data:=.seq its.toArray n }/\xs.length<=sizeLine:=by
 obtain⟨z,its,n,r,e⟩:=I.hok p _ h;exact⟨its,n,r,e,z⟩
theorem ZD.lstUpd{pins:List (eF×Obj)}{σ:St}{H:Hp}{s:eB}{p:eF}{xs ys:List V}{its its':dY}{n n':Nat}{f:Obj->Obj}(I:ZD X pins σ H s)(h:H p=some (.lst xs))(ho:s.heap.get? p=some {cls:=.type "list", data:=.seq its.toArray n })(hf:f {cls:=.type "list", data:=.seq its.toArray n }={cls:=.type "list", data:=.seq its'.toArray n' })(r:ZH ys its')(hz:ys.length<=sizeLine)(t:Nat) :
  ZD X pins σ (upd H p (.lst ys)) {s with heap:=s.heap.update p f,toks:=t }:=by
 have e:(s.heap.update p f).get? p=some {cls:=.type "list", data:=.seq its'.toArray n' }:=by
  rw[Heap.get?_update_self f ho (by rw[hf]<;>rfl),hf]
 refine I.write (x:=p) (e:=p) (by rw[h];trivial) (.inl rfl) (fun b u hb q=>(zY _ _ (Ne.symm hb)).trans q) ⟨_,e⟩ ?_;exact⟨hz,its',n',r,e⟩
inductive JU(o i v:V)(H:Hp)(Q:Hp->Prop):Prop
 |mk(p xs k j)(_:o = .ref p)(_:i = .int k)(_:H p=some (.lst xs))(_:ixN xs.length k=some j)(_:Q (upd H p (.lst (xs.set j v))))
theorem Ra:Eu X JU:=by
 intro pins s σ H o i v ov iv u Q I ro ri rv h;obtain⟨p,xs,k,j,rfl,rfl,hp,hj,q⟩:=h;cases ro;obtain⟨t,rfl⟩:=ri;obtain⟨its,n,r,ho,hz⟩:=I.lst hp;obtain⟨h1,h2,h3,h4⟩:=Hi hj;have hl:=r.length;have hn:=AN;have I':ZD X pins σ (upd H p (.lst (xs.set j v))) {s with heap:=s.heap.update p (Obj.mapSeq (·.setIfInBounds j u)) } :=
  I.lstUpd hp ho (Ov its n j u) (r.set rv j) (by rw[List.length_set];exact hz) s.toks
 by_cases h0 : 0<=k
 ·have hk:k.toNat=j:=by
   rw[seqIndex_of h0 h4] at h1;exact Option.some.inj h1
  exact PySem.W.ki_setAt ho h0 (by lia) (by rw[xP,← hl];exact h4) (by rw[hk];exact⟨_,I',q⟩)
 ·have hk:(k+(its.toArray.size:Int)).toNat=j:=by
   rw[seqIndex_neg (by lia) h3] at h1;rw[xP,← hl];exact Option.some.inj h1
  exact PySem.W.ki_setBack ho (by lia) (by rw[xP,← hl];exact h3) (by lia) (by rw[hk];exact⟨_,I',q⟩)
theorem cK(lo hi:Option Int)(n:Nat):(sliceBounds lo hi none n).1=((HT.sIx n 0 lo:Nat):Int)/\(sliceBounds lo hi none n).2.1=((HT.sIx n n hi:Nat):Int)/\(sliceBounds lo hi none n).2.2=1:=by
 refine⟨?_,?_,rfl⟩
 ·cases lo with
  | none=>simp[sliceBounds,HT.sIx]
  | some i =>
   simp only[sliceBounds,HT.sIx,Option.getD_none,show (1:Int) > 0 by decide,if_true]
   by_cases h:i < 0
   ·simp only[h,if_true]<;>lia
   ·simp only[h,if_false]<;>lia
 ·cases hi with
  | none=>simp[sliceBounds,HT.sIx]
  | some i =>
   simp only[sliceBounds,HT.sIx,Option.getD_none,show (1:Int) > 0 by decide,if_true]
   by_cases h:i < 0
   ·simp only[h,if_true]<;>lia
   ·simp only[h,if_false]<;>lia
theorem Xd(its:dY)(lo hi:Option Int):slicePick its.toArray lo hi none=((its.drop (HT.sIx its.length 0 lo)).take (HT.sIx its.length its.length hi - HT.sIx its.length 0 lo)).toArray:=by
 obtain⟨h1,h2,h3⟩:=cK lo hi its.toArray.size;unfold slicePick;rw[h1,h2,h3];simp only[sliceRange_one,pick_run,xP]<;>rfl
inductive B2(K:uFg)(x:V)(lo hi:Option Int)(H:Hp)(Q:VK):Prop
 |mk(a xs)(_:x = .ref a)(_:ZE K H a xs)(_:∀p,H p=none->Q (.ref p) (upd H p (.lst (Uk xs lo hi))))
theorem Si:CI X (B2 X.K):=by
 intro pins s σ H x v vl vu lo hi sl Q I rx hs pl pu h;obtain⟨a,xs,rfl,hx,q⟩:=h;cases rx;obtain⟨its,r,ht,hz⟩:=I.list hx;have hlen:=r.length;refine⟨"list", _,slot_list_getitem.lookup,ht.isList.typeIs,?_⟩;refine wpAny_getItem_list_slice ht.isList hs pl pu .none (by simp) ?_ (by rw[xP]<;>lia);rw[Xd,← hlen];refine⟨.ref s.heap.objs.size,_,I.laid (t':=s.toks) (o:=.lst (Uk xs lo hi)) (fun b ob q=>xG _ q) (xD _) ?_,rfl,q _ (I.hok.fresh (xD _))⟩;exact⟨xX (MJ xs lo hi) hz,_,0,(r.drop (HT.sIx xs.length 0 lo)).take (HT.sIx xs.length xs.length hi - HT.sIx xs.length 0 lo),xW _ rfl⟩
def JK:V->Bool
 | .non=>true
 | .bl _=>true
 | .int _=>true
 | .str _=>true
 | _=>false
def eqV:V->V->Bool
 | .non,.non=>true
 | .bl a,.bl b=>a == b
 | .bl a,.int b=>(if a then 1 else 0)== b
 | .int a,.bl b=>a == (if b then 1 else 0)
 | .int a,.int b=>a == b
 | .str a,.str b=>a == b
 | _,_=>false
theorem LR(ry:ZG y u)(rx:ZG x v)(fy:JK y=true)(fx:JK x=true):SeqAt.EqAt A s u v (eqV y x):=by
 cases y with
 | non =>
  cases ry;cases x with
  | non=>cases rx;exact SeqAt.EqAt.same _
  | bl b=>cases rx;exact SeqAt.EqAt.none_bool b
  | int b=>obtain⟨t,rfl⟩:=rx;exact SeqAt.EqAt.none_int b t
  | str b=>obtain⟨t,rfl⟩:=rx;exact SeqAt.EqAt.none_str b t
  | _=>exact absurd (show false=true from fx) xM
 | bl a =>
  cases ry;cases x with
  | non=>cases rx;exact SeqAt.EqAt.bool_none a
  | bl b=>cases rx;exact SeqAt.EqAt.bool_bool a b
  | int b=>obtain⟨t,rfl⟩:=rx;exact SeqAt.EqAt.bool_int a b t
  | str b=>obtain⟨t,rfl⟩:=rx;exact SeqAt.EqAt.bool_str a b t
  | _=>exact absurd (show false=true from fx) xM
 | int a =>
  obtain⟨t',rfl⟩:=ry;cases x with
  | non=>cases rx;exact SeqAt.EqAt.int_none a t'
  | bl b=>cases rx;exact SeqAt.EqAt.int_bool a t' b
  | int b=>obtain⟨t,rfl⟩:=rx;exact SeqAt.EqAt.int_int a t' b t
  | str b=>obtain⟨t,rfl⟩:=rx;exact SeqAt.EqAt.int_str a t' b t
  | _=>exact absurd (show false=true from fx) xM
 | str a =>
  obtain⟨t',rfl⟩:=ry;cases x with
  | non=>cases rx;exact SeqAt.EqAt.str_none a t'
  | bl b=>cases rx;exact SeqAt.EqAt.str_bool a t' b
  | int b=>obtain⟨t,rfl⟩:=rx;exact SeqAt.EqAt.str_int a t' b t
  | str b=>obtain⟨t,rfl⟩:=rx;exact SeqAt.EqAt.str_str a t' b t
  | _=>exact absurd (show false=true from fx) xM
 | _=>exact absurd (show false=true from fy) xM
def eqU(x:V)(u:eE):Bool:=match u with
 | .none=>eqV .non x
 | .bool b=>eqV (.bl b) x
 | .int i _=>eqV (.int i) x
 | .str z _=>eqV (.str z) x
 | _=>false
theorem Gy(r:ZG y u)(f:JK y=true):eqU x u=eqV y x:=by
 cases y with
 | non=>cases r;rfl
 | bl b=>cases r;rfl
 | int i=>obtain⟨t,rfl⟩:=r;rfl
 | str z=>obtain⟨t,rfl⟩:=r;rfl
 | _=>exact absurd (show false=true from f) xM
theorem BK:∀{xs:List V}{us:dY},ZH xs us->xs.all JK=true->us.any (eqU x)=xs.any fun y=>eqV y x
 | _,_,.nil,_=>rfl
 | y::xs,u::us,.cons r t,f=>by
  rw[List.all_cons,yW] at f;rw[List.any_cons,List.any_cons,Gy r f.1,BK t f.2]
theorem B4(rx:ZG x v)(fx:JK x=true):∀{xs:List V}{us:dY},ZH xs us->xs.all JK=true->∀u∈us,SeqAt.EqAt A s u v (eqU x u)
 | _,_,.nil,_=>fun u hu=>by cases hu
 | y::xs,u::us,.cons r t,f=>fun u' hu=>by
  rw[List.all_cons,yW] at f;rcases xC.mp hu with rfl | hu
  ·rw[Gy r f.1];exact LR r rx f.1 fx
  ·exact B4 rx fx t f.2 u' hu
def inV(x:V)(xs:List V):Bool:=xs.any fun y=>eqV y x
inductive Dt(K:uFg)(neg:Bool)(x y:V)(H:Hp)(Q:VK):Prop
 |mk(p xs)(_:y = .ref p)(_:(ZE K H p xs\/ZT K H p xs))(_:JK x=true)(_:xs.all JK=true)(_:Q (.bl (if neg then !inV x xs else inV x xs)) H)
theorem Lw:YX X (compareOp .In) (Dt X.K false):=by
 intro pins s σ H x y v u Q I rx ry h;obtain⟨p,xs,rfl,hq,fx,fs,q⟩:=h;cases ry;rcases hq with hq | hq
 ·obtain⟨its,r,pl,hz⟩:=I.list hq;refine SeqAt.in_listAt (eqU x) pl.isList (fun w hw=>B4 rx fx r fs w (by simpa using hw)) ⟨.bl _,H,I,rfl,?_⟩;rw[show its.toArray.any (eqU x)=its.any (eqU x) by simp,BK r fs];exact q
 ·obtain⟨its,r,pl,hz⟩:=I.tuple hq;refine SeqAt.in_tupleAt (eqU x) pl (fun w hw=>B4 rx fx r fs w (by simpa using hw)) ⟨.bl _,H,I,rfl,?_⟩;rw[show its.toArray.any (eqU x)=its.any (eqU x) by simp,BK r fs];exact q
theorem Nk:YX X (compareOp .NotIn) (Dt X.K true):=by
 intro pins s σ H x y v u Q I rx ry h;obtain⟨p,xs,rfl,hq,fx,fs,q⟩:=h;cases ry;rcases hq with hq | hq
 ·obtain⟨its,r,pl,hz⟩:=I.list hq;refine SeqAt.notIn_listAt (eqU x) pl.isList (fun w hw=>B4 rx fx r fs w (by simpa using hw)) ⟨.bl _,H,I,rfl,?_⟩;rw[show its.toArray.any (eqU x)=its.any (eqU x) by simp,BK r fs];exact q
 ·obtain⟨its,r,pl,hz⟩:=I.tuple hq;refine SeqAt.notIn_tupleAt (eqU x) pl (fun w hw=>B4 rx fx r fs w (by simpa using hw)) ⟨.bl _,H,I,rfl,?_⟩;rw[show its.toArray.any (eqU x)=its.any (eqU x) by simp,BK r fs];exact q
theorem PP:Vg X (.builtin "len") (fun xs H Q=>∃p ys,xs = [.ref p]/\(ZE X.K H p ys\/ZT X.K H p ys)/\Q (.int ys.length) H):=by
 intro pins s σ H xs us Q I r h;obtain⟨p,ys,rfl,hq,q⟩:=h;obtain⟨u,rfl,rx⟩:=Up r;cases rx;have hn:=AN;rcases hq with hq | hq
 ·obtain⟨its,r',pl,hz⟩:=I.list hq;have hlen:=r'.length;exact Calls.call_len_list pl.isList (by simp only[xP]<;>lia) ⟨.int ys.length,H,I.tok _,⟨s.toks+1,by rw[xP,hlen]⟩,q⟩
 ·obtain⟨its,r',pl,hz⟩:=I.tuple hq;have hlen:=r'.length;exact len_tuple pl (by simp only[xP]<;>lia) ⟨.int ys.length,H,I.tok _,⟨s.toks+1,by rw[xP,hlen]⟩,q⟩
theorem SK:Vg X (.builtin "len") (fun xs H Q=>∃z,xs = [.str z]/\z.length<=sizeLine/\Q (.int z.length) H):=by
 intro pins s σ H xs us Q I r h;obtain⟨z,rfl,hz,q⟩:=h;obtain⟨u,rfl,t,rfl⟩:=Up r;have hn:=AN;exact len_str (by lia) ⟨.int z.length,H,I.tok _,⟨_,rfl⟩,q⟩
theorem Fl:Vg X (.type "list") (fun xs H Q=>∃p ys,xs = [.ref p]/\(ZE X.K H p ys\/ZT X.K H p ys)/\∀l,H l=none->Q (.ref l) (upd H l (.lst ys))):=by
 intro pins s σ H xs us Q I r h;obtain⟨p,ys,rfl,hq,q⟩:=h;obtain⟨u,rfl,rx⟩:=Up r;cases rx;have fin:∀(its:dY),ZH ys its->ys.length<=sizeLine->∀(h':Heap)(c':Nat),(∀b o',s.heap.get? b=some o'->h'.get? b=some o')->
   h'.get? s.heap.objs.size=some {cls:=.type "list", dict:=none,data:=.seq its.toArray c',slots:=#[] }->EP X pins σ Q (.ref s.heap.objs.size) {s with heap:=h' }:=fun its r' hz h' c' kp e =>
  ⟨.ref s.heap.objs.size,_,I.laid (t':=s.toks) kp (xD _) (show ZO X.prog X.w _ h' _ (.lst ys) from⟨hz,its,c',r',e⟩),rfl,q _ (I.hok.fresh (xD _))⟩
 rcases hq with hq | hq
 ·obtain⟨its,r',pl,hz⟩:=I.list hq;have hlen:=r'.length;obtain⟨o,ho,hc,n,hd⟩:=pl.isList;exact call_list_seq p (.inl rfl) ho hc hd (fun h' c' kp e=>fin its r' hz h' c' kp e) (by simp only[xP]<;>lia)
 ·obtain⟨its,r',pl,hz⟩:=I.tuple hq;have hlen:=r'.length;obtain⟨o,ho,hc,n,hd⟩:=pl;exact call_list_seq p (.inr rfl) ho hc hd (fun h' c' kp e=>fin its r' hz h' c' kp e) (by simp only[xP]<;>lia)
theorem MX:Vg X (.type "tuple") (fun xs H Q=>∃p ys,xs = [.ref p]/\((ZE X.K H p ys/\∀l,H l=none->Q (.ref l) (upd H l (.tup ys)))\/(ZT X.K H p ys/\Q (.ref p) H))):=by
 intro pins s σ H xs us Q I r h;obtain⟨p,ys,rfl,h⟩:=h;obtain⟨u,rfl,rx⟩:=Up r;cases rx;rcases h with⟨hq,q⟩ | ⟨hq,q⟩
 ·obtain⟨its,r',pl,hz⟩:=I.list hq;have hlen:=r'.length;refine call_tuple_list pl.isList (fun h' kp=>?_) (by simp only[xP]<;>lia);have I1:ZD X pins σ H {s with heap:=h' }:=I.kept (t':=s.toks) kp;have I2:ZD X pins σ (upd H h'.objs.size (.tup ys)) {s with heap:=h'.push {cls:=.type "tuple", data:=.seq its.toArray } } :=
   I1.laid (t':=s.toks) (fun b o e=>xG _ e) (xD _) (show ZO X.prog X.w _ _ _ (.tup ys) from⟨hz,its,r',IsTup.new _ _⟩)
  exact⟨.ref h'.objs.size,_,I2,rfl,q _ (I1.hok.fresh (xD _))⟩
 ·obtain⟨its,r',pl,hz⟩:=I.tuple hq;exact call_tuple_same pl ⟨.ref p,H,I,rfl,q⟩
def tyV(K:uFg)(T:String)(x:V)(H:Hp):Prop:=match x with
 | .str _=>T = "str"
 | .int _=>T = "int"
 | .ref p=>(T = "list" /\ ∃xs,ZE K H p xs)\/(T = "tuple" /\ ∃o,K.lookup p=some o/\o.cls = .type "tuple" /\ o.dict=none)\/
   (T = "dict" /\ ((∃kvs,H p=some (.dK kvs))\/∃kvs,H p=some (.dT kvs)))\/(T = "set" /\ ∃S n,H p=some (.set S n))
 | _=>False
theorem KJ{pins:List (eF×Obj)}{σ:St}{H:Hp}{s:eB}{T:String}{x:V}{v:eE}(I:ZD X pins σ H s)(r:ZG x v)(ty:tyV X.K T x H) :
  s.TypeIs v T/\∀a,v = .ref a->∃ob,s.heap.get? a=some ob/\ob.dict=none:=by
 cases x with
 | str z =>
  obtain⟨t,rfl⟩:=r;cases (show T = "str" from ty);exact⟨typeIs_str s z t,fun _ e=>nomatch e⟩
 | int i =>
  obtain⟨t,rfl⟩:=r;cases (show T = "int" from ty);exact⟨typeIs_int s i t,fun _ e=>nomatch e⟩
 | ref p =>
  cases r;rcases ty with⟨rfl,xs,hq⟩ | ⟨rfl,o,hk,hc,hd⟩ | ⟨rfl,hk⟩ | ⟨rfl,S,n,hk⟩
  ·obtain⟨its,_,pl,_⟩:=I.list hq;refine⟨pl.isList.typeIs,fun a e=>?_⟩;cases e;obtain⟨o,n,e,c,hd,_⟩:=pl;exact⟨o,e,hd⟩
  ·refine⟨⟨o,I.kIn p o hk,hc⟩,fun a e=>?_⟩;cases e;exact⟨o,I.kIn _ o hk,hd⟩
  ·have z:∃o,s.heap.get? p=some o/\o.ExactDict:=by
    rcases hk with⟨kvs,hk⟩ | ⟨kvs,hk⟩
    ·obtain⟨_,_,_,_,o,_,_,e,ex,_⟩:=I.hok p _ hk;exact⟨o,e,ex⟩
    ·obtain⟨_,_,_,_,o,_,_,e,ex,_⟩:=I.hok p _ hk;exact⟨o,e,ex⟩
   obtain⟨o,e,ex⟩:=z;refine⟨⟨o,e,ex.1⟩,fun a e2=>?_⟩;cases e2;exact⟨o,e,ex.2.1⟩
  ·obtain⟨o,_,_,_,e,ex,_⟩:=I.hok p _ hk;refine⟨⟨o,e,ex.1⟩,fun a e2=>?_⟩;cases e2;exact⟨o,e,ex.2.1⟩
 | _=>exact False.elim ty
def KC(K:uFg)(T:String)(r:V->List V->Hp->VK->Prop)(to:TE):TE:=fun σ H Q=>to σ H fun x H1=>tyV K T x H1/\r x [] H1 Q
def Dn(K:uFg)(T:String)(r:V->List V->Hp->VK->Prop)(to:TE)(t:TA):TE:=fun σ H Q=>to σ H fun x H1=>tyV K T x H1/\t σ H1 fun xs H2=>r x xs H2 Q
variable{o e:Expr}{es:List Expr}{to:TE}{t:TA}{name:Str}{apos cpos:Pos}{T id:String}{r:V->List V->Hp->VK->Prop}
theorem Mn(pa:PlainAttrs T)(slot:Slot T name id)(hty:typeOf (.builtin id)=pure (.type "method_descriptor"))(hm:BU X id r)(ho:PE X o to)(hbase:attributeBase o name X.env (eval o X.env)=eval o X.env:=by rfl)(hline:(apos.endLine == cpos.line)=true:=by rfl):PE X (.Call (.Attribute o name apos) [] [] cpos) (KC X.K T r to):=by
 intro pins s σ H Q I h;refine wpAny_Call_method0_late hbase hline (thn (ho pins s σ H _ I h) fun v s1 ⟨x,H1,I1,r1,ty,q1⟩=>?_);obtain⟨h1,h2⟩:=KJ I1 r1 ty;exact⟨T,id,pa,slot,hty,h1,h2,Calls.callWith_builtin rfl (PySem.evalArgs_none (hm pins s1 σ H1 x [] v [] Q I1 r1 .nil q1))⟩
theorem Pk(pa:PlainAttrs T)(slot:Slot T name id)(hty:typeOf (.builtin id)=pure (.type "method_descriptor"))(hm:BU X id r)(ho:PE X o to)(ha:PA X (e::es) t)(hbase:attributeBase o name X.env (eval o X.env)=eval o X.env:=by rfl)(hfew:((backTo cpos (starEach (e::es) X.env)).all (fun x=>!x.1) && (backToKw cpos (keywordEach [] X.env)).all (fun x=>x.1.isSome)
   && decide ((e::es).length+([]:List Keyword).length+(if ([]:List Keyword).isEmpty then 0 else 1) < 30))=true:=by rfl)(hline:(apos.endLine == cpos.line)=true:=by rfl)(hs:starEach (e::es) X.env=(false,eval e X.env)::starEach es X.env:=by rfl)(hplain:(backTo cpos (starEach es X.env)).any (·.1)=false:=by rfl) :
  PE X (.Call (.Attribute o name apos) (e::es) [] cpos) (Dn X.K T r to t):=by
 intro pins s σ H Q I h;refine wpAny_Call_method_late hbase hfew hline rfl (thn (ho pins s σ H _ I h) fun v s1 ⟨x,H1,I1,r1,ty,q1⟩=>?_);obtain⟨h1,h2⟩:=KJ I1 r1 ty;refine⟨T,id,pa,slot,hty,h1,h2,?_⟩;have hA:=ha cpos pins s1 σ H1 _ I1 q1;rw[hs] at hA ⊢;refine Calls.callWith_builtin (by show (false || (backTo cpos (starEach es X.env)).any (·.1))=false;rw[hplain]<;>rfl) (Calls.evalArgs_plain ?_);exact thn hA fun us s2 ⟨vs,H2,I2,r2,q2⟩=>hm pins s2 σ H2 x vs v us Q I2 r1 r2 q2
/- xs.append(e),list.index on a module's tuple .. are BU facts of 06m -/
end
end L2
namespace L2
open PySem PySem.Spec PyProof.Rows
def E9(X:Cx)(id:String)(r:V->List V->Hp->VK->Prop):Prop :=
 ∀(pins:List (eF×Obj))(s:eB)(σ:St)(H:Hp)(x:V)(xs:List V)(v:eE)(us:dY)(Q:VK),ZD X pins σ H s->ZG x v->ZH xs us->r x xs H Q ->
  wpAny (model X.prog X.w) X.A (call (.builtin id) (v::us)) (EP X pins σ Q) X.xe s
theorem ZH.one:∀{x:V}{us:dY},ZH [x] us->∃u,us = [u]/\ZG x u
 | _,_,.cons r .nil=>⟨_,rfl,r⟩
theorem ZH.zero:∀{us:dY},ZH [] us->us = []
 | _,.nil=>rfl
theorem ZH.eraseIdx:∀{xs:List V}{us:dY}(i:Nat),ZH xs us->ZH (xs.eraseIdx i) (us.eraseIdx i)
 | _,_,_,.nil=>.nil
 | _,_,0,.cons _ t=>t
 | _,_,i+1,.cons r t=>.cons r (ZH.eraseIdx i t)
theorem ZH.rep(h:ZH xs us):∀k:Nat,ZH (List.replicate k xs).flatten (List.replicate k us).flatten
 | 0=>.nil
 | k+1=>by
  rw[yQ,yQ,zO,zO];exact ZH.append h (ZH.rep h k)
theorem Gn{α:Type}:∀(l:List α)(i:Nat),(l.eraseIdx i).length<=l.length
 | [],_=>xD _
 | _::_,0=>Nat.le_succ _
 | _::r,i+1=>Nat.succ_le_succ (Gn r i)
theorem Ia(its:dY):∀k acc,
  List.foldl (fun x1 x2=>x1++x2) acc.toArray (List.replicate k its.toArray)=(acc++(List.replicate k its).flatten).toArray
 | 0,acc=>by simp
 | k+1,acc=>by
  have e:acc.toArray++its.toArray=(acc++its).toArray:=by simp
  have e2:(acc++its)++(List.replicate k its).flatten=acc++(List.replicate (k+1) its).flatten:=by
   rw[yQ,zO,yV]
  rw[← e2,← Ia its k (acc++its),← e,yQ,List.foldl_cons]
section
variable{X:Cx}{pins:List (eF×Obj)}{σ:St}{H:Hp}{s:eB}{l:eF}{xs ys:List V}
theorem ZD.lset{its its':dY}{n:Nat}{f:Array eE->Array eE}{t':Nat}(I:ZD X pins σ H s)(hH:H l=some (.lst xs))(e:s.heap.get? l=some {cls:=.type "list", data:=.seq its.toArray n })(hf:f its.toArray=its'.toArray)(hv:ZH ys its')(hz:ys.length<=sizeLine) :
  ZD X pins σ (upd H l (.lst ys)) {s with heap:=s.heap.update l (Obj.mapSeq f),toks:=t' }:=by
 have q:=PySem.IsL.update e f;rw[hf] at q;refine I.write (x:=l) (e:=l) (by rw[hH];exact trivial) (.inl rfl) (fun b' u hb hu=>(zY s.heap (Obj.mapSeq f) (Ne.symm hb)).trans hu) ⟨_,q⟩ ?_;exact⟨hz,its',_,hv,q⟩
theorem ZD.lnew{its:dY}{t':Nat}(I:ZD X pins σ H s)(hv:ZH ys its)(hz:ys.length<=sizeLine) :
  ZD X pins σ (upd H s.heap.objs.size (.lst ys)) {s with heap:=s.heap.push {cls:=.type "list", data:=.seq its.toArray },toks:=t' } :=
 I.laid (fun _ _ q=>xG _ q) (xD _) ⟨hz,its,0,hv,xW _ rfl⟩
theorem ZD.fresh(I:ZD X pins σ H s):H s.heap.objs.size=none:=I.hok.fresh (xD _)
theorem ZD.lstM(I:ZD X pins σ H s)(hH:H l=some (.lst xs)):xs.length<=sizeLine/\∃(its:dY)(n:Nat),ZH xs its/\xs.length=its.length/\s.heap.get? l=some {cls:=.type "list", data:=.seq its.toArray n }:=by
 obtain⟨z,its,n,r,e⟩:=I.hok l _ hH;exact⟨z,its,n,r,r.length,e⟩
theorem NQ(h:n<=sizeLine):Builtin.List.listTooLong n=false:=by
 unfold Builtin.List.listTooLong;exact zD (by lia)
end
inductive WX(x:V)(vs:List V)(H:Hp)(Q:VK):Prop
 |mk(l xs y)(_:x = .ref l)(_:vs = [y])(_:H l=some (.lst xs))(_:xs.length < sizeLine)(_:Q .non (upd H l (.lst (xs ++ [y]))))
theorem Qk:E9 X "list.append" WX:=by
 intro pins s σ H x vs v us Q I rx rv h;obtain⟨l,xs,y,rfl,rfl,hH,hz,q⟩:=h;cases rx;obtain⟨u,rfl,ru⟩:=rv.one;obtain⟨z,its,n,r,hl,e⟩:=I.lstM hH;refine call_meets F.slot_list_append ⟨_,e,rfl⟩ F.entry_list_append (F.args_list_append_2 _ _) (PySem.list_append l its.toArray n u (by rw[xP];lia)) ⟨e,?_⟩;refine⟨.non,_,I.lset (its':=its ++ [u]) hH e (by simp) (r.append (.cons ru .nil)) ?_,rfl,q⟩;rw[xE,zG];lia
inductive TZ(x:V)(vs:List V)(H:Hp)(Q:VK):Prop
 |mk(l xs i k y)(_:x = .ref l)(_:vs = [.int i])(_:H l=some (.lst xs))(_:-(2 ^ 63)<=i)(_:i < 2 ^ 63)(_:seqIndex? i xs.length=some k)(_:xs[k]? = some y)(_:Q y (upd H l (.lst (xs.eraseIdx k))))
theorem SX:E9 X "list.pop" TZ:=by
 intro pins s σ H x vs v us Q I rx rv h;obtain⟨l,xs,i,k,y,rfl,rfl,hH,h1,h2,hk,hy,q⟩:=h;cases rx;obtain⟨u,rfl,ru⟩:=rv.one;obtain⟨t,rfl⟩:=ru;obtain⟨z,its,n,r,hl,e⟩:=I.lstM hH;obtain⟨w,hw,rw'⟩:=r.get hy;refine call_meets F.slot_list_pop ⟨_,e,rfl⟩ F.entry_list_pop (F.args_list_pop_2 _ _)
  (MeetsSeq.list_pop_at l its.toArray n i t k w (fitsIndex_both h1 h2) (by rw[xP,← hl];exact hk) (by rw[← wA];exact hw) (by rw[xP];lia)) ⟨e,?_⟩
 refine⟨y,_,I.lset (its':=its.eraseIdx k) hH e ?_ (r.eraseIdx k) ?_,rw',q⟩
 ·grind
 ·have:=Gn xs k;lia
inductive Je(x:V)(vs:List V)(H:Hp)(Q:VK):Prop
 |mk(l xs)(_:x = .ref l)(_:vs = [])(_:H l=some (.lst xs))(_:Q .non (upd H l (.lst [])))
theorem Mh:E9 X "list.clear" Je:=by
 intro pins s σ H x vs v us Q I rx rv h;obtain⟨l,xs,rfl,rfl,hH,q⟩:=h;cases rx;have hus:=rv.zero;subst hus;obtain⟨z,its,n,r,hl,e⟩:=I.lstM hH;refine call_meets F.slot_list_clear ⟨_,e,rfl⟩ F.entry_list_clear (F.args_list_clear_1 _) (AutoSeq1.list_clear_list_0 l its.toArray n (by rw[xP];lia)) ⟨e,?_⟩;exact⟨.non,_,I.lset (its':=[]) (ys:=[]) hH e rfl .nil (yL _),rfl,q⟩
inductive BM(x y:V)(H:Hp)(Q:VK):Prop
 |mk(l b xs zs)(_:x = .ref l)(_:y = .ref b)(_:H l=some (.lst xs))(_:H b=some (.lst zs))(_:xs.length+zs.length<=sizeLine)(_:∀p,H p=none->Q (.ref p) (upd H p (.lst (xs++zs))))
theorem Nd:YX X (binaryOp .Add) BM:=by
 intro pins s σ H x y v u Q I rx ry h;obtain⟨l,b,xs,zs,rfl,rfl,hH,hB,hz,q⟩:=h;cases rx;cases ry;obtain⟨z,its,n,r,hl,e⟩:=I.lstM hH;obtain⟨z2,its2,n2,r2,hl2,e2⟩:=I.lstM hB;refine PySem.P.add_list e e2 ?_ (by rw[xP,xP];lia);have ea:its.toArray++its2.toArray=(its++its2).toArray:=by simp
 rw[ea];exact⟨.ref _,_,I.lnew (t':=s.toks) (r.append r2) (by rw[xE];lia),rfl,q _ I.fresh⟩
inductive BZ(x y:V)(H:Hp)(Q:VK):Prop
 |mk(l k xs)(_:x = .ref l)(_:y = .int k)(_:H l=some (.lst xs))(_:-(2 ^ 63)<=k)(_:k < 2 ^ 63)(_:xs.length * k.toNat<=sizeLine)(_:∀p,H p=none->Q (.ref p) (upd H p (.lst (List.replicate k.toNat xs).flatten)))
theorem RS{α:Type}(xs:List α)(k:Nat):(List.replicate k xs).flatten.length=k * xs.length:=by
 induction k with
 | zero=>simp
 | succ k ih=>rw[yQ,zO,xE,ih,Nat.succ_mul,Nat.add_comm]
theorem Pn:YX X (binaryOp .Mult) BZ:=by
 intro pins s σ H x y v u Q I rx ry h;obtain⟨l,k,xs,rfl,rfl,hH,h1,h2,hz,q⟩:=h;cases rx;obtain⟨t,rfl⟩:=ry;obtain⟨z,its,n,r,hl,e⟩:=I.lstM hH;have hlen:its.toArray.size * k.toNat<=sizeLine:=by rw[xP,← hl];exact hz
 have hcap:¬its.toArray.size * k.toNat > (2 ^ 63 - 1) / 8:=by
  have:(sizeLine:Nat)<=(2 ^ 63 - 1) / 8:=by decide
  lia
 have hfit:¬(!Builtin.List.listFitsIndex k)=true:=by
  rw[fitsIndex_both h1 h2];exact xM
 have hlong:¬Builtin.List.listTooLong (its.toArray.size * k.toNat)=true:=by
  rw[NQ hlen];exact xM
 have hnew:List.foldl (fun x1 x2=>x1++x2) #[] (List.replicate (if its.toArray.isEmpty=true then 0 else k.toNat) its.toArray)=(List.replicate k.toNat its).flatten.toArray:=by
  have f0:∀m:Nat,List.foldl (fun x1 x2=>x1++x2) #[] (List.replicate m its.toArray)=(List.replicate m its).flatten.toArray:=fun m=>by
   have:=Ia its m [];rw[zI] at this;exact this
  rw[f0];cases its with
  | nil=>simp
  | cons a r'=>rw[if_neg (by simp)]
 refine wpAny_binaryOp_repeat_ref (T:="list") (U:="int") (by decide) ⟨_,e,rfl⟩ (fun s'=>typeIs_int s' k t) noFill_list_mul F.fills_int_mul F.slot_int_rmul repeat_list F.slot_int_index.lookup
  (call_meets F.slot_int_rmul (typeIs_int s k t) F.entry_int_rmul (F.args_int_rmul_2 _ _) (int___rmul___int_list k t l its.toArray n) ⟨e,rfl,⟨_,e,rfl⟩,call_meets F.slot_list_mul ⟨_,e,rfl⟩ F.entry_list_mul (F.args_list_mul_2 _ _) (AutoListH.list___mul___list_int_3 l its.toArray n k t hfit hcap hlong) ⟨e,?_⟩⟩)
 rw[hnew];exact⟨.ref _,_,I.lnew (t':=s.toks) (r.rep k.toNat) (by rw[RS,Nat.mul_comm];exact hz),rfl,q _ I.fresh⟩
section
set_option maxRecDepth 100000 in
end
end L2
namespace L2
open PySem PySem.Spec PyProof.Rows
section
variable{κ:Type} [DecidableEq κ]
def Zy(kvs:List (κ×V))(k : κ):Option V:=(kvs.find? fun kv=>decide (kv.1=k)).map (·.2)
def Z5(kvs:List (κ×V))(k : κ)(v:V):List (κ×V) :=
 if (kvs.any fun kv=>decide (kv.1=k))=true then kvs.map (fun kv=>if kv.1=k then (kv.1,v) else kv) else kvs ++ [(k,v)]
theorem Ud{p : κ×V}{r:List (κ×V)}{k : κ}(e:p.1=k):Zy (p::r) k=some p.2:=by simp[Zy,zM,e]
theorem Uq{p : κ×V}{r:List (κ×V)}{k : κ}(e:¬p.1=k):Zy (p::r) k=Zy r k:=by simp[Zy,zM,e]
theorem BF(k : κ):∀kvs:List (κ×V),(kvs.any fun kv=>decide (kv.1=k))=(Zy kvs k).isSome
 | []=>rfl
 | p::r=>by
  rw[List.any_cons]
  by_cases e:p.1=k
  ·simp only[Ud e,yN e,Bool.true_or,Option.isSome_some]
  ·rw[Uq e,zD e,Bool.false_or];exact BF k r
theorem GJ(k j : κ)(y:V):∀kvs:List (κ×V),Zy (kvs.map fun kv=>if kv.1=k then (kv.1,y) else kv) j=(Zy kvs j).map fun x=>if j=k then y else x
 | []=>rfl
 | p::r=>by
  have ih:=GJ k j y r;rw[yI]
  by_cases h:p.1=k
  ·rw[if_pos h]
   by_cases e:p.1=j
   ·rw[Ud (p:=(p.1,y)) e,Ud e,zW,if_pos (e.symm.trans h)]
   ·rw[Uq (p:=(p.1,y)) e,Uq e,ih]
  ·rw[if_neg h]
   by_cases e:p.1=j
   ·rw[Ud (p:=p) e,Ud e,zW,if_neg (fun z=>h (e.trans z))]
   ·rw[Uq (p:=p) e,Uq e,ih]
theorem GP(k j : κ)(y:V):∀kvs:List (κ×V),Zy kvs k=none->Zy (kvs ++ [(k,y)]) j=if j=k then some y else Zy kvs j
 | [],_=>by
  by_cases e:k=j
  ·rw[if_pos e.symm];exact Ud (p:=(k,y)) e
  ·rw[if_neg (fun z=>e z.symm)];exact Uq (p:=(k,y)) e
 | p::r,hn=>by
  rw[yF];have hk:¬p.1=k:=fun z=>by rw[Ud z] at hn;cases hn
  rw[Uq hk] at hn;have ih:=GP k j y r hn
  by_cases e:p.1=j
  ·rw[Ud e,Ud e,if_neg (fun z=>hk (e.trans z))]
  ·rw[Uq e,Uq e,ih]
theorem Ue(kvs:List (κ×V))(k j : κ)(y:V):Zy (Z5 kvs k y) j=if j=k then some y else Zy kvs j:=by
 unfold Z5
 by_cases a:(kvs.any fun kv=>decide (kv.1=k))=true
 ·rw[if_pos a,GJ];rw[BF] at a
  by_cases e:j=k
  ·obtain⟨x,hx⟩:=Option.isSome_iff_exists.mp a;rw[if_pos e,e,hx,zW,if_pos rfl]
  ·rw[if_neg e];cases Zy kvs j with
   | none=>rfl
   | some x=>rw[zW,if_neg e]
 ·rw[if_neg a];refine GP k j y kvs ?_;rw[BF] at a;cases q:Zy kvs k with
  | none=>rfl
  | some x=>rw[q] at a;exact(a rfl).elim
theorem Vz(kvs:List (κ×V))(k : κ)(v:V):(Z5 kvs k v).length<=kvs.length+1:=by
 unfold Z5;split
 ·rw[xA];lia
 ·rw[xE,yE,List.length_nil];lia
theorem Px{kvs:List (κ×V)}{k : κ}(v:V)(h:Zy kvs k=none):Z5 kvs k v=kvs ++ [(k,v)]:=by
 unfold Z5;rw[BF,h];exact if_neg (by decide)
theorem YO.isSome_eq(r:YO o u):o.isSome=u.isSome:=by
 cases o with
 | none=>cases u with
  | none=>rfl
  | some _=>exact(show False from r).elim
 | some _=>cases u with
  | none=>exact(show False from r).elim
  | some _=>rfl
theorem YO.getD(r:YO o u)(rd:ZG d d'):ZG (o.getD d) (u.getD d'):=by
 cases o with
 | none=>cases u with
  | none=>exact rd
  | some _=>exact(show False from r).elim
 | some _=>cases u with
  | none=>exact(show False from r).elim
  | some _=>exact r
theorem KV.val(r:KV kvs vs)(k : κ):YO (Zy kvs k) (valueAt vs k):=by
 unfold KV at r
 induction r with
 | nil=>exact True.intro
 | @cons p q ps qs h t ih =>
  obtain⟨h1,h2⟩:=h
  by_cases e:p.1=k
  ·have e':q.1=k:=h1.symm.trans e;have b:valueAt (q::qs) k=some q.2:=by simp[valueAt,zM,e']
   rw[Ud e,b];exact h2
  ·have e':¬q.1=k:=fun z=>e (h1.trans z);have b:valueAt (q::qs) k=valueAt qs k:=by simp[valueAt,zM,e']
   rw[Uq e,b];exact ih
theorem KV.any(r:KV kvs vs)(k : κ):(kvs.any fun kv=>decide (kv.1=k))=vs.any fun kv=>decide (kv.1=k):=by
 unfold KV at r
 induction r with
 | nil=>rfl
 | cons h t ih=>rw[List.any_cons,List.any_cons,ih,h.1]
theorem KV.repl(r:KV kvs vs)(k : κ)(ry:ZG y u) :
  KV (kvs.map fun kv=>if kv.1=k then (kv.1,y) else kv) (vs.map fun kv=>if kv.1=k then (kv.1,u) else kv):=by
 unfold KV at r ⊢
 induction r with
 | nil=>exact .nil
 | @cons p q ps qs h t ih =>
  rw[yI,yI];refine .cons ?_ ih;obtain⟨h1,h2⟩:=h
  by_cases e:p.1=k
  ·rw[if_pos e,if_pos (h1.symm.trans e)];exact⟨h1,ry⟩
  ·rw[if_neg e,if_neg (fun z=>e (h1.trans z))];exact⟨h1,h2⟩
theorem KV.put(r:KV kvs vs)(k : κ)(ry:ZG y u):KV (Z5 kvs k y) (stored vs k u):=by
 unfold Z5 stored;rw[r.any k]
 by_cases e:(vs.any fun kv=>decide (kv.1=k))=true
 ·rw[if_pos e,if_pos e];exact r.repl k ry
 ·rw[if_neg e,if_neg e];exact Paired.snoc r ⟨rfl,ry⟩
theorem KV.length{kvs:List (κ×V)}{vs:List (κ×eE)}(r:KV kvs vs):kvs.length=vs.length:=Paired.length r
end
theorem A8(r:ZG (kV k) u):(Y7 P w).is k u=true:=by
 cases k with
 | inl i=>obtain⟨t,e⟩:=(show ∃t,u=Value.int i t from r);subst e;exact NJ P w i t
 | inr x=>obtain⟨t,e⟩:=(show ∃t,u=Value.str x t from r);subst e;exact NH P w x t
theorem Ik:∀{ks:List ZS}{us:dY},ZH (ks.map kV) us->ItemsAre (Y7 P w) ks us
 | [],_,r=>by rw[List.map_nil] at r;cases r;exact .nil
 | k::ks,_,r=>by
  rw[yI] at r;cases r with
  | cons h t=>exact .cons (A8 h) (Ik t)
abbrev KT(H:Hp):List (List ZS×V)->List (List ZS×eF×eE)->Prop:=Paired fun p q=>p.1=q.1/\H q.2.1=some (.tup (p.1.map kV))/\ZG p.2 q.2.2
theorem KT.val(r:KT H kvs xs)(k:List ZS):YO (Zy kvs k) ((atKey xs k).map (·.2)):=by
 induction r with
 | nil=>exact True.intro
 | @cons p q ps qs h t ih =>
  obtain⟨h1,_,h2⟩:=h
  by_cases e:p.1=k
  ·have e':q.1=k:=h1.symm.trans e;have b:atKey (q::qs) k=some q.2:=by simp[atKey,zM,e']
   rw[Ud e,b];exact h2
  ·have e':¬q.1=k:=fun z=>e (h1.trans z);have b:atKey (q::qs) k=atKey qs k:=by simp[atKey,zM,e']
   rw[Uq e,b];exact ih
theorem KT.repl(r:KT H kvs xs)(k:List ZS)(ry:ZG y u) :
  KT H (kvs.map fun kv=>if kv.1=k then (kv.1,y) else kv) (xs.map (putAt k u)):=by
 induction r with
 | nil=>exact .nil
 | @cons p q ps qs h t ih =>
  rw[yI,yI];refine .cons ?_ ih;obtain⟨h1,h2,h3⟩:=h;unfold putAt
  by_cases e:p.1=k
  ·rw[if_pos e,if_pos (h1.symm.trans e)];exact⟨h1,h2,ry⟩
  ·rw[if_neg e,if_neg (fun z=>e (h1.trans z))];exact⟨h1,h2,h3⟩
theorem KT.put(r:KT H kvs xs)(k:List ZS)(hb:H b=some (.tup (k.map kV)))(ry:ZG y u) :
  KT H (Z5 kvs k y) (storedH xs k b u):=by
 have e:(kvs.any fun kv=>decide (kv.1=k))=(atKey xs k).isSome:=by
  rw[BF,(r.val k).isSome_eq,Option.isSome_map]
 unfold Z5 storedH;rw[e]
 by_cases q:(atKey xs k).isSome=true
 ·rw[if_pos q,if_pos q];exact r.repl k ry
 ·rw[if_neg q,if_neg q];exact Paired.snoc r ⟨rfl,hb,ry⟩
theorem KT.keeps(r:KT H kvs xs)(ht:∀b ys,H b=some (.tup ys)->H' b=some (.tup ys)):KT H' kvs xs :=
 Paired.mapP r fun _ _ z=>⟨z.1,ht _ _ z.2.1,z.2.2⟩
theorem FQ(ok:YU P w H h)(e:Rd H a u):ZO P w H h a u:=e.ok ok
theorem Ai(ok:YU P w H h)(e:Rd H a (.dK kvs)):kvs.length<=sizeLine/\(a == sysModules)=false/\∃vs,KV kvs vs/\h.DictOf (Y7 P w) a vs :=
 show ZO P w H h a (.dK kvs) from FQ ok e
theorem Hj(ok:YU P w H h)(e:H a=some (.dK kvs)):kvs.length<=sizeLine/\(a == sysModules)=false/\∃vs,KV kvs vs/\h.DictOf (Y7 P w) a vs:=Ai ok (.inl e)
theorem Ap(ok:YU P w H h)(e:H a=some (.tup (ks.map kV))):(tupleKind (Y7 P w)).is h ks a:=by
 obtain⟨_,its,r,o,h1,h2,n,h3⟩:=(show ZO P w H h a (.tup (ks.map kV)) from ok a _ e);exact⟨o,its.toArray,n,h1,h2,h3,by simpa using Ik r⟩
theorem A2(ok:YU P w H h)(e:Rd H a (.dT kvs)):kvs.length<=sizeLine/\(a == sysModules)=false /\
  ∃xs,KT H kvs xs/\h.DictOfH (tupleKind (Y7 P w)) a xs:=by
 obtain⟨z,y,xs,r,o,es,ep,h1,h2,h3,h4,h5⟩:=(show ZO P w H h a (.dT kvs) from FQ ok e);refine⟨z,y,xs,r,o,es,ep,h1,h2,h3,h4,fun x hx=>?_,h5⟩;have all:∀{l:List (List ZS×V)}{m:List (List ZS×eF×eE)},KT H l m->∀x∈m,(tupleKind (Y7 P w)).is h x.1 x.2.1:=by
  intro l m q
  induction q with
  | nil=>intro x hx;exact nomatch hx
  | @cons p q ps qs hq t ih =>
   intro x hx;rcases xC.mp hx with e | hx
   ·subst e;exact Ap ok (by rw[← hq.1];exact hq.2.1)
   ·exact ih x hx
 exact all r x hx
theorem HA(ok:YU P w H h)(e:H a=some (.dT kvs)):kvs.length<=sizeLine/\(a == sysModules)=false /\
  ∃xs,KT H kvs xs/\h.DictOfH (tupleKind (Y7 P w)) a xs:=A2 ok (.inl e)
def ZZ(H:Hp)(a:eF)(y:V)(r:Option V):Prop :=
 (∃kvs k,Rd H a (.dK kvs)/\y=kV k/\r=Zy kvs k)\/∃kvs k b,Rd H a (.dT kvs)/\y = .ref b/\H b=some (.tup (k.map kV))/\r=Zy kvs k
def YZ(H:Hp)(a:eF)(y v:V)(H':Hp):Prop :=
 (∃kvs k,H a=some (.dK kvs)/\y=kV k/\kvs.length < sizeLine/\H'=upd H a (.dK (Z5 kvs k v)))\/
 ∃kvs k b,H a=some (.dT kvs)/\y = .ref b/\H b=some (.tup (k.map kV))/\kvs.length < sizeLine/\H'=upd H a (.dT (Z5 kvs k v))
theorem ZZ.k{H:Hp}{a:eF}{kvs:List (ZS×V)}{k:ZS}(e:H a=some (.dK kvs)):ZZ H a (kV k) (Zy kvs k):=.inl ⟨kvs,k,.inl e,rfl,rfl⟩
theorem ZZ.t{H:Hp}{a b:eF}{kvs:List (List ZS×V)}{k:List ZS}(e:H a=some (.dT kvs))(eb:H b=some (.tup (k.map kV))):ZZ H a (.ref b) (Zy kvs k):=.inr ⟨kvs,k,b,.inl e,rfl,eb,rfl⟩
theorem YZ.k{H:Hp}{a:eF}{kvs:List (ZS×V)}{k:ZS}{v:V}(e:H a=some (.dK kvs))(hl:kvs.length < sizeLine):YZ H a (kV k) v (upd H a (.dK (Z5 kvs k v))):=.inl ⟨kvs,k,e,rfl,hl,rfl⟩
theorem YZ.t{H:Hp}{a b:eF}{kvs:List (List ZS×V)}{k:List ZS}{v:V}(e:H a=some (.dT kvs))(eb:H b=some (.tup (k.map kV)))(hl:kvs.length < sizeLine) :
  YZ H a (.ref b) v (upd H a (.dT (Z5 kvs k v))):=.inr ⟨kvs,k,b,e,rfl,eb,hl,rfl⟩
section
variable{X:Cx}{pins:List (eF×Obj)}{σ:St}{H:Hp}{s:eB}{a:eF}{y v:V}{u r:eE}{o:Option V}{A:eJ}{E:dU}
theorem ZD.big(I:ZD X pins σ H s):sysModules < s.heap.objs.size:=by
 have h:mainGlobals < s.heap.objs.size:=(I.mod.glob.keeps I.bk).lt;exact Nat.lt_trans (by decide) h
theorem cO{Q:dU}(hu:A.units+1 < cLine)(I:ZD X pins σ H s)(g:ZZ H a y (some v))(ry:ZG y u)(h:∀w' s',ZD X pins σ H s'->ZG v w'->Q w' s') :
  wpAny (model X.prog X.w) A (getItem (.ref a) u) Q E s:=by
 rcases g with⟨kvs,k,e,ey,l⟩ | ⟨kvs,k,b,e,ey,eb,l⟩
 ·subst ey;obtain⟨z,hd,vs,rel,dd⟩:=Ai I.hok e;obtain⟨w',hw,rw'⟩:=YO.some_of (v:=v) (o:=valueAt vs k) (by rw[l];exact rel.val k);exact wpAny_getItem_of (A8 ry) dd.mapOf hw (h w' _ (I.tok _) rw')
 ·subst ey;cases (show u=Value.ref b from ry);obtain⟨z,hd,xs,rel,dd⟩:=A2 I.hok e;obtain⟨w',hw,rw'⟩:=YO.some_of (v:=v) (o:=(atKey xs k).map (·.2)) (by rw[l];exact rel.val k);obtain⟨p,hp,hp2⟩:=xR.mp hw;refine wpAny_getItem_heap (tupleKind_room_in1 hu) (Ap I.hok eb) dd hp ?_;rw[hp2];exact h w' _ (I.tok _) rw'
theorem dM{Q:dU}(hu:A.units+1 < cLine)(I:ZD X pins σ H s)(g:ZZ H a y o)(ry:ZG y u)(h:∀s',ZD X pins σ H s'->Q (.bool o.isSome) s') :
  wpAny (model X.prog X.w) A (compareOp .In u (.ref a)) Q E s:=by
 rcases g with⟨kvs,k,e,ey,l⟩ | ⟨kvs,k,b,e,ey,eb,l⟩
 ·subst ey;obtain⟨z,hd,vs,rel,dd⟩:=Ai I.hok e;refine wpAny_in_of (A8 ry) hd dd.mapOf ?_;rw[← (rel.val k).isSome_eq,← l];exact h _ (I.tok _)
 ·subst ey;cases (show u=Value.ref b from ry);obtain⟨z,hd,xs,rel,dd⟩:=A2 I.hok e;refine wpAny_in_heap (tupleKind_room_in1 hu) (Ap I.hok eb) hd dd ?_;have q:=(rel.val k).isSome_eq;rw[Option.isSome_map] at q;rw[← q,← l];exact h _ (I.tok _)
theorem Ru{Q:dU}(hu:A.units+1 < cLine)(I:ZD X pins σ H s)(g:ZZ H a y o)(ry:ZG y u)(h:∀s',ZD X pins σ H s'->Q (.bool (!o.isSome)) s') :
  wpAny (model X.prog X.w) A (compareOp .NotIn u (.ref a)) Q E s:=by
 rcases g with⟨kvs,k,e,ey,l⟩ | ⟨kvs,k,b,e,ey,eb,l⟩
 ·subst ey;obtain⟨z,hd,vs,rel,dd⟩:=Ai I.hok e;refine wpAny_notIn_of (A8 ry) hd dd.mapOf ?_;rw[← (rel.val k).isSome_eq,← l];exact h _ (I.tok _)
 ·subst ey;cases (show u=Value.ref b from ry);obtain⟨z,hd,xs,rel,dd⟩:=A2 I.hok e;refine wpAny_notIn_heap (tupleKind_room_in1 hu) (Ap I.hok eb) hd dd ?_;have q:=(rel.val k).isSome_eq;rw[Option.isSome_map] at q;rw[← q,← l];exact h _ (I.tok _)
theorem Df{h':Heap}{t':Nat}{ob:HO}(I:ZD X pins σ H s)(mu:Bz (H a))(hs:Heap.SameBut a s.heap h')(he:∃q,h'.get? a=some q)(new:ZO X.prog X.w (upd H a ob) h' a ob) :
  ZD X pins σ (upd H a ob) {s with heap:=h',toks:=t' } :=
 I.write (x:=a) (e:=a) mu (.inl rfl) (fun b q hb z=>(hs.2 b hb).trans z) he new
theorem Ku(z:kvs.length<=sizeLine)(hd:(a == sysModules)=false)(rel:KV kvs vs)(dd:h'.DictOf (Y7 P w) a vs) :
  ZO P w H' h' a (.dK kvs):=⟨z,hd,vs,rel,dd⟩
theorem Xs{H':Hp}{Q:Unit->eB->Prop}(hu:A.units+1 < cLine)(I:ZD X pins σ H s)(g:YZ H a y v H')(ry:ZG y u)(rv:ZG v r)(h:∀s',ZD X pins σ H' s'->Q () s') :
  wpAny (model X.prog X.w) A (setItem (.ref a) u r) Q E s:=by
 rcases g with⟨kvs,k,e,ey,l,eH⟩ | ⟨kvs,k,b,e,ey,eb,l,eH⟩
 ·subst ey eH;obtain⟨z,hd,vs,rel,dd⟩:=Hj I.hok e;have hz:vs.length<=sizeLine:=by rw[← rel.length];exact z
  have hl:(Z5 kvs k v).length<=sizeLine:=by have:=Vz kvs k v;lia
  refine wpAny_setItem_pairs (hsz:=hz) (A8 ry) dd fun h' dd' hs=>h _ ?_;have he:∃q,h'.get? a=some q:=let ⟨q,_,_,hq,_⟩:=dd';⟨q,hq⟩
  exact Df I (by rw[e];exact True.intro) hs he (Ku hl hd (rel.put k rv) dd')
 ·subst ey eH;cases (show u=Value.ref b from ry);obtain⟨z,hd,xs,rel,dd⟩:=HA I.hok e;have hz:xs.length<=sizeLine:=by rw[← Paired.length rel];exact z
  have hl:(Z5 kvs k v).length<=sizeLine:=by have:=Vz kvs k v;lia
  refine wpAny_setItem_heap (hsz:=hz) (tupleKind_room_in1 hu) (Ap I.hok eb) dd fun h' dd' hs=>h _ ?_;obtain⟨q,es,ep,hq,h2,h3,h4,_,h5⟩:=dd';refine Df I (by rw[e];exact True.intro) hs ⟨q,hq⟩ ⟨hl,hd,_,(rel.put k eb rv).keeps fun c ys ec=>?_,q,es,ep,hq,h2,h3,h4,h5⟩;rw[Ze (Gj ec e (fun z=>nomatch z))];exact ec
end
section
variable{X:Cx}{pins:List (eF×Obj)}{σ:St}{H:Hp}{s:eB}{a:eF}{kvs:List (ZS×V)}{k:ZS}{u:eE}{A:eJ}{E:dU}
theorem RZ{Q:dU}(I:ZD X pins σ H s)(e:Rd H a (.dK kvs))(h:∀t s',ZD X pins σ H s'->Q (.int kvs.length t) s'):wpAny (model X.prog X.w) A (call (.builtin "len") [.ref a]) Q E s:=by
 obtain⟨z,hd,vs,rel,dd⟩:=Ai I.hok e;refine call_len_dict hd dd (by rw[← rel.length];rw[sizeLine_eq] at z;lia) ?_;rw[← rel.length];exact h _ _ (I.tok _)
end
def En(i:Expr):Prop:=∀ov iv,subscripted i false ov iv=operate [ov,iv] (getItem ov iv)
theorem SM{prog:eG}{w:eI}{A:eJ}{E:dU}{s:eB}{env:Env}{value slice:Expr}{pos:Pos}{T id:String}{Q:dU}(hl:typeLookup (.type T) "__getitem__" = pure (some (.builtin id)))(hs:En slice)(h:wpAny (model prog w) A (eval value env) (fun o s₁=>wpAny (model prog w) A (eval slice env) (fun i s₂=>s₂.TypeIs o T/\wpAny (model prog w) A (getItem o i) Q E s₂) E s₁) E s) :
  wpAny (model prog w) A (eval (.Subscript value slice pos) env) Q E s:=by
 refine Subscript_ (wpAny_mono h (fun o s₁ h₁=>wpAny_mono h₁ (fun i s₂ h₂=>?_) fun _ _ x=>x) fun _ _ x=>x);obtain⟨hT,h₂⟩:=h₂;unfold subscriptTail;refine wpAny_bind ?_;rw[getitemInPython_of_ne hT.not_modules];refine wpAny_bind (wpAny_specialOf hT hl ?_);have fin:wpAny (model prog w) A (subscripted slice false o i) (fun r s₃=>wpAny (model prog w) A (letTemporaryGo value o r >>= fun _=>pure r) Q E s₃) E s₂:=by
  rw[hs o i];exact wpAny_operating (wpAny_mono h₂ (fun r s₃ h₃=>wpAny_bind (wpAny_letTemporaryGo (wpAny_pure h₃))) fun _ _ x=>x)
 first
  | exact wpAny_pure (wpAny_bind fin)
  | exact wpAny_bind (wpAny_pure (wpAny_bind fin))
  | exact wpAny_bind fin
theorem LZ{X:Cx}{pins:List (eF×Obj)}{σ:St}{H:Hp}{s:eB}{a:eF}{y:V}{o:Option V}(I:ZD X pins σ H s)(g:ZZ H a y o):s.TypeIs (.ref a) "dict" := by
 rcases g with⟨kvs,k,e,_,_⟩ | ⟨kvs,k,b,e,_,_,_⟩
 ·obtain⟨_,_,vs,_,dd⟩:=Ai I.hok e;exact dd.typeIs
 ·obtain⟨_,_,xs,_,dd⟩:=A2 I.hok e;exact dd.typeIs
inductive AO(Q:VK)(x y:V)(H2:Hp):Prop
 |mk(a v)(_:x = .ref a)(_:ZZ H2 a y (some v))(_:Q v H2)
def He(td ty:TE):TE:=fun σ H Q=>td σ H fun x H1=>ty σ H1 fun y H2=>AO Q x y H2
inductive sDPut_(D:YI)(σ:St)(v x y:V)(H3:Hp):Prop
 |mk(a H4)(_:x = .ref a)(_:YZ H3 a y v H4)(_:D.nx σ H4)
def FS(td ty tv:TE):TS:=fun D σ H=>tv σ H fun v H1=>td σ H1 fun x H2=>ty σ H2 fun y H3=>sDPut_ D σ v x y H3
theorem PK(hu:X.A.units+1 < cLine)(ho:PE X o td)(hi:PE X i ty)(hs:En i):PE X (.Subscript o i pos) (He td ty):=by
 intro pins s σ H Q I h;refine SM PySem.F.slot_dict_getitem.lookup hs (thn (ho pins s σ H _ I h) fun u s1 ⟨x,H1,I1,rx,q1⟩=>thn (hi pins s1 σ H1 _ I1 q1) fun iv s2 ⟨y,H2,I2,ry,a,v,ex,g,q2⟩=>?_);subst ex;obtain rfl:u=Value.ref a:=rx;exact⟨LZ I2 g,cO hu I2 g ry fun w' s3 I3 rw'=>⟨v,H2,I3,rw',q2⟩⟩
theorem Pm(hu:X.A.units+1 < cLine)(ho:PE X o td)(hi:PE X i ty)(hv:PE X value tv)(hs:swapsWith value (some (.Subscript o i pos')) pos.line X.env=pure false) :
  PS X (.Assign [.Subscript o i pos'] value pos) (FS td ty tv):=by
 intro pins s σ H D I h;refine wpAny_Assign_Subscript (thn (hv pins s σ H _ I h) fun r s1 ⟨v,H1,I1,rv,q1⟩=>thn (ho pins s1 σ H1 _ I1 q1) fun u s2 ⟨x,H2,I2,rx,q2⟩=>thn (hi pins s2 σ H2 _ I2 q2) fun iv s3 ⟨y,H3,I3,ry,a,H4,ex,g,q3⟩=>?_) hs;subst ex;obtain rfl:u=Value.ref a:=rx;exact Xs hu I3 g ry rv fun s4 I4=>⟨σ,H4,I4,q3⟩
theorem Kf(h:Heap)(hb:sysModules < h.objs.size):ZO P w H (h.push {cls:=.type "dict", data:=.dict #[] }) h.objs.size (.dK []) :=
 ⟨yL _,beq_eq_false_iff_ne.mpr (Ne.symm (yG hb)),[],.nil,Heap.DictOf.new h⟩
theorem L9(h:Heap)(hb:sysModules < h.objs.size):ZO P w H (h.push {cls:=.type "dict", data:=.dict #[] }) h.objs.size (.dT []) :=
 ⟨yL _,beq_eq_false_iff_ne.mpr (Ne.symm (yG hb)),[],.nil,_,#[],0,xW _ rfl,⟨rfl,rfl,rfl⟩,rfl,rfl,List.nodup_nil⟩
def GY:TE:=fun _ H Q=>∀p,H p=none->Q (.ref p) (upd H p (.dK []))
def FO:TE:=fun _ H Q=>∀p,H p=none->Q (.ref p) (upd H p (.dT []))
theorem XO:PE X (.Dict [] [] pos) GY:=fun pins s σ H Q I h =>
 wpAny_Dict_empty ⟨.ref s.heap.objs.size,_,I.laid (a:=s.heap.objs.size) (o:=.dK []) (t':=s.toks) (fun _ _ q=>xG _ q) (xD _) (Kf s.heap I.big),rfl,h _ (I.hok.fresh (xD _))⟩
theorem Qj:PE X (.Dict [] [] pos) FO:=fun pins s σ H Q I h =>
 wpAny_Dict_empty ⟨.ref s.heap.objs.size,_,I.laid (a:=s.heap.objs.size) (o:=.dT []) (t':=s.toks) (fun _ _ q=>xG _ q) (xD _) (L9 s.heap I.big),rfl,h _ (I.hok.fresh (xD _))⟩
def EV:List (TE×TE)->St->Hp->(List (V×V)->Hp->Prop)->Prop
 | [],_,H,Q=>Q [] H
 | (tk,tv)::r,σ,H,Q=>tk σ H fun x H1=>tv σ H1 fun y H2=>EV r σ H2 fun ps H3=>Q ((x,y)::ps) H3
abbrev VV:List (V×V)->List (eE×eE)->Prop:=Paired fun p q=>ZG p.1 q.1/\ZG p.2 q.2
def CN(X:Cx)(pos:Pos)(keys:List (Option Expr))(values:List Expr)(trs:List (TE×TE)):Prop :=
 ∀(pins:List (eF×Obj))(s:eB)(σ:St)(H:Hp)(Q:List (V×V)->Hp->Prop),ZD X pins σ H s->EV trs σ H Q ->
  wpAny (model X.prog X.w) X.A (evalPairs (pairTrees keys values X.env pos)) (fun vs s'=>∃ps H',ZD X pins σ H' s'/\VV ps vs/\Q ps H') X.xe s
theorem Xj:CN X pos [] [] []:=fun pins s σ H Q I h=>pairTrees_nil_walk ⟨[],H,I,.nil,h⟩
theorem dJ(hk:PE X k tk)(hv:PE X v tv)(hr:CN X pos ks vs trs) :
  CN X pos (some k::ks) (v::vs) ((tk,tv)::trs):=fun pins s σ H Q I h =>
 pairTrees_cons_walk (thn (hk pins s σ H _ I h) fun u s1 ⟨x,H1,I1,rx,q1⟩=>thn (hv pins s1 σ H1 _ I1 q1) fun w2 s2 ⟨y,H2,I2,ry,q2⟩=> thn (hr pins s2 σ H2 _ I2 q2) fun ws s3 ⟨ps,H3,I3,rel,q3⟩=>⟨(x,y)::ps,H3,I3,.cons ⟨rx,ry⟩ rel,q3⟩)
def Ad(kvs more:List (ZS×V)):List (ZS×V):=more.foldl (fun acc kv=>Z5 acc kv.1 kv.2) kvs
theorem KV.merge:∀{more:List (ZS×V)}{rs:List (ZS×eE)}{kvs:List (ZS×V)}{vs:List (ZS×eE)},KV more rs->KV kvs vs->KV (Ad kvs more) (merged vs rs):=by
 intro more rs kvs vs r;unfold KV at r
 induction r generalizing kvs vs with
 | nil=>intro q;exact q
 | @cons p q ps qs h t ih =>
  intro r0;have e:KV (Z5 kvs p.1 p.2) (stored vs q.1 q.2):=by
   have:=r0.put p.1 h.2;rw[← h.1];exact this
  exact ih e
theorem HL:∀more kvs,(Ad kvs more).length<=kvs.length+more.length
 | [],kvs=>by show kvs.length<=kvs.length+0;lia
 | p::r,kvs=>by
  have h1:=HL r (Z5 kvs p.1 p.2);have h2:=Vz kvs p.1 p.2;show (Ad (Z5 kvs p.1 p.2) r).length<=_;rw[yE];lia
theorem F7:∀{kvs:List (ZS×V)}{ws:List (eE×eE)},VV (kvs.map fun kv=>(kV kv.1,kv.2)) ws->∃rs,Carries (Y7 P w) ws rs/\KV kvs rs
 | [],_,r=>by rw[List.map_nil] at r;cases r;exact⟨[],True.intro,.nil⟩
 | p::kvs,_,r=>by
  rw[yI] at r;cases r with
  | @cons a b as bs h t =>
   obtain⟨rs,c,q⟩:=F7 (P:=P) (w:=w) t;obtain⟨b1,b2⟩:=b;exact⟨(p.1,b2)::rs,⟨A8 h.1,rfl,c⟩,.cons ⟨rfl,h.2⟩ q⟩
def FI(trs:List (TE×TE)):TE:=fun σ H Q=>∀p,H p=none->EV trs σ (upd H p (.dK [])) fun ps H2=>H2 p=some (.dK [])/\∃kvs:List (ZS×V),ps=kvs.map (fun kv=>(kV kv.1,kv.2))/\kvs.length<=15/\Q (.ref p) (upd H2 p (.dK (Ad [] kvs)))
theorem Oh(h:CN X pos keys values trs)(hall:keys.all (·.isSome)=true)(hl:keys.length=values.length)(h0:keys ≠ [])(h15:keys.length<=15):PE X (.Dict keys values pos) (FI trs):=by
 intro pins s σ H Q I q;have hn:=I.hok.fresh (xD s.heap.objs.size);have I1:=I.laid (a:=s.heap.objs.size) (o:=.dK []) (h':=s.heap.push {cls:=.type "dict", data:=.dict #[] }) (t':=s.toks) (fun _ _ q=>xG _ q) (xD _) (Kf s.heap I.big);refine wpAny_Dict_walk (knd:=Y7 X.prog X.w) hall hl h0 h15 (thn (h pins _ σ _ _ I1 (q _ hn)) fun ws s2 ⟨ps,H2,I2,rel,e,kvs,ep,lk,q2⟩=>?_);subst ep;obtain⟨rs,c,rk⟩:=F7 (P:=X.prog) (w:=X.w) rel;obtain⟨z,hd,vs0,r0,dd⟩:=Hj I2.hok e;cases r0;refine⟨rs,c,dd,fun h' dd' hs=>⟨.ref s.heap.objs.size,_,?_,rfl,q2⟩⟩;have hz:(Ad [] kvs).length<=sizeLine:=by
  have h1:=HL kvs [];rw[List.length_nil] at h1;rw[sizeLine_eq];lia
 have he:∃q,h'.get? s.heap.objs.size=some q:=let ⟨q,_,_,hq,_⟩:=dd';⟨q,hq⟩
 exact Df I2 (by rw[e];exact True.intro) hs he (Ku hz hd (rk.merge .nil) dd')
structure M2 (X:Cx) (o:Expr) (m:Str) (apos:Pos) (e f:Expr) (cpos:Pos):Prop where
 base:attributeBase o m X.env (eval o X.env)=eval o X.env
 few:((backTo cpos (starEach [e,f] X.env)).all (fun x=>!x.1) && (backToKw cpos (keywordEach [] X.env)).all (fun x=>x.1.isSome)
  && decide (([e,f]:List Expr).length+([]:List Keyword).length+(if ([]:List Keyword).isEmpty then 0 else 1) < 30))=true
 line:(apos.endLine == cpos.line)=true
 trees:backTo cpos (starEach [e,f] X.env)= [(false,eval e X.env),(false,eval f X.env)]
def Ey(H:Hp)(a:eF):Prop:=(∃kvs,Rd H a (.dK kvs))\/∃kvs,Rd H a (.dT kvs)
theorem IK{X:Cx}{pins:List (eF×Obj)}{σ:St}{H:Hp}{s:eB}{a:eF}(I:ZD X pins σ H s)(d:Ey H a) :
  s.TypeIs (.ref a) "dict" /\ (∀b,Value.ref a = .ref b->∃ob,s.heap.get? b=some ob/\ob.dict=none)/\(a == sysModules)=false:=by
 rcases d with⟨kvs,e⟩ | ⟨kvs,e⟩
 ·obtain⟨_,hd,vs,_,dd⟩:=Ai I.hok e;refine⟨dd.typeIs,fun b q=>?_,hd⟩;cases q;obtain⟨ob,_,_,h1,h2,_⟩:=dd;exact⟨ob,h1,h2.2.1⟩
 ·obtain⟨_,hd,xs,_,dd⟩:=A2 I.hok e;refine⟨dd.typeIs,fun b q=>?_,hd⟩;cases q;obtain⟨ob,_,_,h1,h2,_⟩:=dd;exact⟨ob,h1,h2.2.1⟩
section
variable{X:Cx}{pins:List (eF×Obj)}{σ:St}{H:Hp}{s:eB}{a:eF}{y d:V}{u r:eE}{o:Option V}{A:eJ}{E:dU}
theorem Qx{Q:dU}(hu:A.units+1 < cLine)(I:ZD X pins σ H s)(g:ZZ H a y o)(ry:ZG y u)(rd:ZG d r)(h:∀w' s',ZD X pins σ H s'->ZG (o.getD d) w'->Q w' s') :
  wpAny (model X.prog X.w) A (call (.builtin "dict.get") [.ref a,u,r]) Q E s:=by
 rcases g with⟨kvs,k,e,ey,l⟩ | ⟨kvs,k,b,e,ey,eb,l⟩
 ·subst ey;obtain⟨z,hd,vs,rel,dd⟩:=Ai I.hok e;refine call_meetsIn PySem.F.slot_dict_get dd.typeIs PySem.F.entry_dict_get (PySem.F.args_dict_get_3 _ _ _) (meets_dict_get_default (Y7 X.prog X.w) a (A8 ry) hd r) ⟨_,dd.mapOf,h _ _ (I.tok _) ?_⟩;rw[l];exact(rel.val k).getD rd
 ·subst ey;cases (show u=Value.ref b from ry);obtain⟨z,hd,xs,rel,dd⟩:=A2 I.hok e;refine call_meetsIn PySem.F.slot_dict_get dd.typeIs PySem.F.entry_dict_get (PySem.F.args_dict_get_3 _ _ _) (meetsH_dict_get_default (tupleKind (Y7 X.prog X.w)) a b hd r) ⟨tupleKind_room_in1 hu,k,xs,Ap I.hok eb,dd,h _ _ (I.tok _) ?_⟩;rw[l];exact(rel.val k).getD rd
end
inductive JM(ty tx:TE)(σ:St)(Q:VK)(x:V)(H1:Hp):Prop
 |mk(a)(_:x = .ref a)(_:Ey H1 a)(_:ty σ H1 fun y H2=>tx σ H2 fun z H3=>∃o,ZZ H3 a y o/\Q (o.getD z) H3)
def Ht(td ty tx:TE):TE:=fun σ H Q=>td σ H fun x H1=>JM ty tx σ Q x H1
theorem OB(hu:X.A.units+1 < cLine)(ho:PE X o td)(he:PE X e ty)(hf:PE X f tx)(m:M2 X o "get" apos e f cpos):PE X (.Call (.Attribute o "get" apos) [e,f] [] cpos) (Ht td ty tx):=by
 intro pins s σ H Q I h;refine wpAny_Call_method m.base m.few m.line PySem.F.plainAttrs_dict PySem.F.slot_dict_get PySem.F.type_dict_get (thn (ho pins s σ H _ I h) fun u s1 ⟨x,H1,I1,rx,a,ex,d,q1⟩=>?_);subst ex;obtain rfl:u=Value.ref a:=rx;obtain⟨t1,t2,_⟩:=IK I1 d;refine⟨t1,t2,?_⟩;rw[m.trees];refine Calls.callWith_builtin rfl (Calls.evalArgs_plain (Calls.spliced_cons (thn (he pins s1 σ H1 _ I1 q1) fun iv s2 ⟨y,H2,I2,ry,q2⟩=> Calls.spliced_cons (thn (hf pins s2 σ H2 _ I2 q2) fun fv s3 ⟨z,H3,I3,rz,ov,g,q3⟩=>Calls.spliced_nil ?_))));exact Qx hu I3 g ry rz fun w' s4 I4 rw'=>⟨_,H3,I4,rw',q3⟩
section
variable{X:Cx}{pins:List (eF×Obj)}{σ:St}{H:Hp}{s:eB}{a:eF}{kvs:List (ZS×V)}{A:eJ}{E:dU}
end
section
variable{X:Cx}{pins:List (eF×Obj)}{σ:St}{H:Hp}{s:eB}{a:eF}{y:V}{u:eE}{A:eJ}{E:dU}
end
end L2
namespace Att
open PySem PySem.W PySem.Calls PyProof.Rows
theorem QR:∀ns vs,WellAll P h vs (ns.map WData.int)->IntsAre vs ns:=by
 intro ns
 induction ns with
 | nil =>
  intro vs w;rw[List.map_nil] at w;cases w;exact .nil
 | cons n ns ih =>
  intro vs w;rw[yI] at w;cases w with
  | cons a b =>
   cases a;exact .cons _ _ (ih _ b)
theorem bG{l:OpenLaw}{n:Nat}(hn:l.most=some n){P:Params}{h:Heap}{args:List WData}{vals:dY}(hpre:l.row.toRowW.claim.pre args=true)(hwl:WellAll P h vals args) :
  ∃a vs ns,vals = [Value.ref a]/\args = [WData.list (ns.map WData.int)]/\h.get? a=some {cls:=.type "list", data:=.seq vs.toArray }/\IntsAre vs ns/\ns.length<=n:=by
 have hsh:WShape.hasAll [] args [.list .int]=true:=(pre_splitW hpre).1;have hc:l.pre.holds [] {args:=args }=true:=(pre_splitW hpre).2;obtain⟨d,r,rfl,h1,h2⟩:=hasAllW_cons hsh;obtain rfl:=hasAllW_nil h2;obtain⟨xs,rfl,h3⟩:=hasW_list h1;obtain⟨ns,rfl⟩:=items_int h3;have hlen:ns.length<=n:=by
  unfold OpenLaw.pre at hc;have h4:(WTm.not (.lt (.lit (.int (n:Int))) (.len (.arg 0)))).holds [] {args:=[.list (ns.map .int)] }=true:=by
   have h4:=(holds_andW hc).1;rw[hn] at h4;exact h4
  have h5:=condW_of h4 (w_not (w_lt w_lit (w_len_list (w_arg rfl))));rw[xA] at h5;refine Nat.le_of_not_lt fun q=>?_;have q':(n:Int) < ((ns.length:Nat):Int):=by lia
  first
   | (rw[yN q'] at h5;exact absurd h5 (by decide))
   | (simp at h5;lia)
 cases hwl with
 | cons w1 w2 =>
  cases w2;cases w1 with
  | list ho hall=>exact⟨_,_,ns,rfl,rfl,ho,QR ns _ hall,hlen⟩
theorem bJ(l:OpenLaw)(args:List WData):l.row.toRowW.claim.post args (.bool true) args=true :=
 postW_of (r:=l.row.toRowW) (X:=(true == true))
  (show WShape.has [] (.bool true) .bool=true by first | rfl | decide | simp[WShape.has,WShape.arms,WShape.armsAll])
  (show (WTm.eq .res (.lit (.bool true))).value [] {args:=args,res:=some (.bool true),after:=args }=some (.bool (true == true)) from w_eq_bool (w_res rfl) w_lit) rfl
theorem attach_call{l:OpenLaw}{n:Nat}{q:eG}{loose:dX}{XP:(dW)->Heap->Prop}{YP:eI->Heap->Prop}{d:DefRec}(hn:l.most=some n)(hdf:d.params.defaults = [])(call:∀w s₀ s₁ mg mb fa o pm cd doc a vs ns, Ground q loose [] XP w s₀ mg mb s₁.heap->YP w s₁.heap -> s₁.heap.get? fa=some o->o.data = .func (docDef d.name d.params d.body d.scope pm cd doc)->s₁.heap.CodeRec cd d.name->mg d.name=some (.ref fa)-> s₁.heap.get? a=some {cls:=.type "list", data:=.seq vs.toArray }->IntsAre vs ns->ns.length<=n->s₁.gens = #[]-> codeAny (model l.prog w) callerA (.call (.ref fa) ⟨[.ref a],[]⟩) (fun r s'=>r = .ok (.ret (.bool true))/\OldK s₁.heap s'.heap/\s'.os=s₁.os/\AllBare s'.gens) s₁) :
  WalkO q loose XP YP l.row.toRowW d [] (fun f vs=>PySem.call f vs):=by
 intro w s₀ s₁ mg mb G Y fa o pm cd doc dV kV ho hd hcd hD hmg hg args vals as hpre hlay hrd hwl hlo;obtain rfl:dV = .none:=Dflts.none hD hdf;obtain rfl:kV = .none:=Dflts.noKw hD;obtain⟨a,vs,ns,rfl,rfl,hobj,hints,hlen⟩:=bG hn hpre hwl;refine enter_call (codeAny_mono (call w s₀ s₁ mg mb fa o pm cd doc a vs ns G Y ho (fd_plain hd) hcd hmg hobj hints hlen hg) fun r s' hq=>?_);obtain⟨rfl,h2,h3,h4⟩:=hq;exact⟨.inl ⟨.bool true,.bool true,[],rfl,fun _=>rfl,.bool true,bJ l _,fun _=>⟨List.Pairwise.nil,fun _ hm=>(nomatch hm)⟩⟩,h2,h3,h4⟩
section
variable{prog:eG}{w:eI}{A:eJ}{E:dU}{s:eB}{K:Frag}
end
end Att
namespace L2
open PySem PySem.Spec PyProof.Rows
theorem IC:∀{vs:dY}{ns:List Int},IntsAre vs ns->ZH (ns.map V.int) vs
 | _,_,.nil=>.nil
 | _,_,.cons n t h=>.cons ⟨t,rfl⟩ (IC h)
def EY(H:Hp):Prop:=∀b,H b=none\/∃o xs,H b=some (.frz o (.lst xs))
theorem Lp{P:eG}{w:eI}{K:uFg}{mg mb:dW}{CX:UU}{k:Nat}{fa a:eF}{fd:FuncData}{x:Str}{sp:Sp}{s₁:eB}{vs:dY}{ns:List Int}(KX:K.In s₁.heap)(hns:s₁.heap.Ns mainGlobals mg)(hb:s₁.heap.Ns builtinsNs mb)(hbb:∀x:Str,x ≠ "__name__" -> mb x=bootBuiltins x)(hlim:s₁.heap.NoLimit)(hg:s₁.gens = #[])(ha:s₁.heap.get? a=some {cls:=.type "list", data:=.seq vs.toArray })(hi:IntsAre vs ns)(hl:ns.length<=sizeLine)(hr:ZL k callerA)(F:∀base:Heap,K.In base->base.Ns mainGlobals mg->YF P w K mg base CX k fa fd [x] sp)(hbind:∀s u,BindsTo s fd ⟨[u],[]⟩ [(x,u)])(hsp:∀H:Hp,EY H->ZE K H a (ns.map V.int)->sp [.ref a] H (fun v _=>v = .bl true) fun _ _ _=>False)(hCX:∀H e s',CX [] H s₁ (fun _ _ _=>False) e s'->False) :
  codeAny (model P w) callerA (.call (.ref fa) ⟨[.ref a],[]⟩) (fun r s'=>r = .ok (.ret (.bool true))/\OldK s₁.heap s'.heap/\s'.os=s₁.os/\AllBare s'.gens) s₁:=by
 have rv:=IC hi;have lenV:=hi.length;have core:∀H:Hp,EY H->ZE K H a (ns.map V.int)->YU P w H s₁.heap->(∀b,H b≠none->b=a)->(H a≠none->K.lookup a=none)->
   codeAny (model P w) callerA (.call (.ref fa) ⟨[.ref a],[]⟩) (fun r s'=>r = .ok (.ret (.bool true))/\OldK s₁.heap s'.heap/\s'.os=s₁.os/\AllBare s'.gens) s₁:=by
  intro H hO hS hok hA hK;have base_of:∀{b:eF}{o:Obj},s₁.heap.get? b=some o->H b=none->(Jy s₁.heap H).get? b=some o:=fun e n=>SZ e n;have noA:∀{b:eF}{o:Obj}{es:Array DictEntry}{ep:Nat},s₁.heap.get? b=some o->o.data = .dict es ep->H b=none:=fun {b o es ep} e d=>by grind
  have nsK:∀{b:eF}{m:dW},s₁.heap.Ns b m->(Jy s₁.heap H).Ns b m:=fun {b m} ⟨o,es,ep,e,d,r⟩=>⟨o,es,ep,base_of e (noA e d),d,r⟩
  have hKb:K.In (Jy s₁.heap H):=fun b o e=>base_of (KX b o e) (by
   cases q:H b with
   | none=>rfl
   | some u =>
    have e':b=a:=hA b (by rw[q];simp);subst e'
    rw[hK (by rw[q];simp)] at e;cases e)
  have hM:Mod K mg (Jy s₁.heap H):=⟨hKb,nsK hns,⟨mb,nsK hb,hbb⟩,let ⟨mc,h1,h2⟩:=hlim;⟨mc,nsK h1,h2⟩⟩;have e0:UF P w K mg (Jy s₁.heap H) callerA [] s₁ H:=⟨rfl,hM,fun b o e=>LC e,Nat.le_of_eq (PF _ _),trivial,fun b hb=>absurd (show b∈([]:eA) from hb) (by simp),hok,.of_eq hg⟩;refine codeAny_mono ((F _ hKb (nsK hns)).run callerA [] s₁ H ⟨[.ref a],[]⟩ [.ref a] [.ref a] _ _ hr e0 (hbind s₁ (.ref a)) (.cons rfl .nil) (hsp H hO hS)) fun r s' h=>?_;cases r with
  | error e=>exact(hCX H e s' h).elim
  | ok fl =>
   cases fl with
   | next=>exact False.elim h
   | brk=>exact False.elim h
   | cont=>exact False.elim h
   | ret u =>
    obtain⟨v,H',os,bare,un,hok',r',q⟩:=h;have q':v = .bl true:=q;subst q';obtain rfl:u=Value.bool true:=r';refine⟨rfl,OldK.of_keep fun b o e=>?_,os,bare⟩;cases q:H b with
    | none=>exact un.keep b o e q (by intro z;exact absurd (show b∈([]:eA) from z) (by simp)) (by simp)
    | some u =>
     rcases hO b with z | ⟨ob,xs,z⟩
     ·rw[q] at z;cases z
     ·have z2:=un.frzs b ob _ z;obtain⟨e1,_⟩:=hok b _ z;obtain⟨e2,_⟩:=hok' b _ z2;rw[e] at e1;cases e1;exact e2
 cases hk:K.lookup a with
 | some o =>
  have e:=KX a o hk;rw[ha] at e;cases e;refine core (fun _=>none) (fun _=>.inl rfl) (.inr ⟨_,vs.toArray,_,hk,rfl,rfl,rfl,by rw[xP,lenV];exact hl,by simpa using rv⟩) (fun b u z=>by have z':(none:Option HO)=some u:=z;cases z') (fun b z=>absurd rfl z) fun z=>absurd rfl z
 | none =>
  refine core (fun b=>if b=a then some (.frz {cls:=.type "list", data:=.seq vs.toArray } (.lst (ns.map V.int))) else none) (fun b=>?_) (.inl (.inr ⟨{cls:=.type "list", data:=.seq vs.toArray },if_pos rfl⟩)) (fun b u z=>?_) (fun b z=>?_) fun _=>hk
  ·by_cases hb:b=a
   ·exact .inr ⟨_,_,if_pos hb⟩
   ·exact .inl (if_neg hb)
  ·by_cases hb:b=a
   ·have z':=(if_pos hb).symm.trans z;cases z';subst hb;exact⟨ha,by rw[xA];exact hl,vs,_,rv,ha⟩
   ·have z':=(if_neg hb).symm.trans z;cases z'
  ·by_cases hb:b=a
   ·exact hb
   ·exact absurd (if_neg hb) z
end L2
namespace L2
open PySem PySem.Spec PyProof.Rows
theorem walk_of{l:PySem.W.OpenLaw}{n k:Nat}{q:eG}{loose:dX}{XP:(dW)->Heap->Prop}{YP:eI->Heap->Prop}{d:DefRec}{K:Params->uFg}{CX:eI->UU}{sp:eI->Sp}{x:Str}(hn:l.most=some n)(hn2:n<=sizeLine)(hdf:d.params.defaults = [])(hr:ZL k callerA)(hY:∀ (w:eI) (h:Heap),YP w h->(K w.params).In h)(F:∀ (w:eI) (mg:dW) (fa:eF) (h:Heap),(K w.params).In h->h.Ns mainGlobals mg->mg d.name=some (.ref fa)-> ∃fd:FuncData,(∀ (s:eB) (u:eE),BindsTo s fd ⟨[u],[]⟩ [(x,u)])/\ ∀base:Heap,(K w.params).In base->base.Ns mainGlobals mg->YF l.prog w (K w.params) mg base (CX w) k fa fd [x] (sp w))(hsp:∀ (w:eI) (H:Hp) (a:eF) (ns:List Int),ns.length<=n->EY H->ZE (K w.params) H a (ns.map V.int)->sp w [.ref a] H (fun v _=>v = .bl true) fun _ _ _=>False)(hCX:∀ (w:eI) (H:Hp) (s:eB) (e:eE) (s':eB),CX w [] H s (fun _ _ _=>False) e s'->False) :
  PySem.W.WalkO q loose XP YP l.row.toRowW d [] (fun f vs=>PySem.call f vs):=by
 refine Att.attach_call hn hdf fun w s₀ s₁ mg mb fa o pm cd doc a vs ns G Y ho hd hcd hmg hobj hints hlen hg=>?_;have KX:=hY w _ Y;obtain⟨fd,hb,hF⟩:=F w mg fa _ KX G.T.g hmg;exact Lp KX G.T.g G.T.b G.T.builtins G.T.nolimit hg hobj hints (xX hlen hn2) hr hF hb (fun H hO hS=>hsp w H a ns hlen hO hS) fun H e s'=>hCX w H s₁ e s'
end L2
/- THE LAST THEOREM (shape;LID,My.* are yours):
   My.Adr: a structure of the addresses that your layer names (classes,functions);My.Txt K t: a structure (Prop) of the equations over K;
   My.txt_mk:{K} {implicit addresses ..} (e1:nsIn K mainGlobals "law" = some (some (.ref f))) (e2:K.lookup f=some ⟨oc,od,.func (fnOf "law" "law" params body scope dV kV doc pm an cdv ct),sl⟩) (e3:codeIn K cdv "law" = true) .. : ∃t,My.Txt K t
set_option maxRecDepth 100000 in
set_option maxHeartbeats 0 in
theorem PySem.Challenge.cw_LID_holds : PySem.Challenge.rw_LID.Holds := by
 w_on;o_law;k_head;(case hw=>w_witness2)
 k_fill
 refine L2.walk_of (l:=PySem.Challenge.rw_LID) (n:=63) (k:=40) (x:="script") (CX:=fun w=>..) (sp:=fun _=>My.sp_law) rfl (by decide) rfl ⟨rfl,by decide,by decide⟩ (fun w h Y=>PySem.W.kIn_of Y) ?F ?S ?C
 case F =>
  intro w mg fa h KX G hmg;have T:∃t,My.Txt (L2.KOf KX) t:=by
   dsimp only [L2.KOf]                          -- K must stand as «<heap const> w.params» for k_is;refine' My.txt_mk ?e1 ?e2 ?e3 ..
   (case e1=>PySem.W.k_is)                    -- in the order: a name->its address->its object->its parts
   (case e2=>PySem.W.k_is)
   ..
  obtain⟨t,T⟩:=T;have e0:=hmg.symm.trans (PySem.W.mg_of KX G T.law);cases e0                                       -- fa is the law's own address;exact⟨_,fun s u=>.of_eq rfl,fun base kb nb=>My.law_fn T kb nb⟩     -- if «.of_eq rfl» comes too early: refine' ⟨_,?b,fun base kb nb=>My.law_fn T kb nb⟩;exact fun s u=>.of_eq rfl
 case S=>exact fun w H a ns hl hO hS=>..
 case C=>exact ..
(the tactic k_is has no namespace: write k_is) -/
namespace L2
open PySem PySem.Spec PyProof.Rows
def Yg(s:Stmt)(j:Nat):Stmt:=match s with
 | .ClassDef _ _ _ body _ _ _ _ _ _ _=>body.getD j (.Pass ⟨0,0,0,0⟩)
 | _=>.Pass ⟨0,0,0,0⟩
def Va(s:Stmt):Arguments:=match s with
 | .FunctionDef _ a _ _ _ _ _ _ _ _=>a
 | _=>{posonlyargs:=[],args:=[],vararg:=none,kwonlyargs:=[],kw_defaults:=[],kwarg:=none,defaults:=[] }
def Yq(s:Stmt):List Stmt:=match s with
 | .FunctionDef _ _ b _ _ _ _ _ _ _=>b
 | _=>[]
def Zp(s:Stmt):Scope:=match s with
 | .FunctionDef _ _ _ _ _ _ sc _ _ _=>sc
 | _=>{kind:=.function,names:=[],isGenerator:=false,isCoroutine:=false }
abbrev VA:UU:=fun _ _ _ _ _ _=>False
abbrev E0:XK:=fun _ _ _=>False
theorem CH:A4 VA X E0:=fun _ _ _ _ _ _ _ h=>h.elim
structure Tn (K:uFg) (x qual:Str) (st:Stmt) (f:eF) (fd:FuncData):Prop where
 ex:∃(oc:eE)(od:Option eF)(kV doc pm:eE)(an:Option eF)(cdv ct:eE)(osl:Array (Option eE)),
  fd=PySem.W.fnOf x qual (Va st) (Yq st) (Zp st) .none kV doc pm an cdv ct/\K.lookup f=some ⟨oc,od,.func fd,osl⟩/\PySem.W.codeIn K cdv qual=true
 kp:PySem.W.keepIn K (.ref f)=true
section
variable{P:eG}{w:eI}{K:uFg}{mg:dW}{base:Heap}
theorem Tn.ok{x qual:Str}{st:Stmt}{f:eF}{fd:FuncData}{N ps:dX}{k:Nat}{sp:Sp}(F:Tn K x qual st f fd)(S:ZM N ps (Zp st))(len:∀vs H Q E,sp vs H Q E->vs.length=ps.length)(hbody:∀ (cdv:eE) (A:eJ) (outer:List Env) (s:eB) (H:Hp) (vs:List V) (Q:VK) (E:XK),ZL k (A.deeper (envOfC qual (Zp st) s.heap.objs.size f cdv))->sp vs H Q E -> ∃t,UW (Y2 VA P w K mg base N qual (Zp st) f cdv A outer s H E).nox (Yq st) t/\t {nx:=fun _ H'=>Q .non H',rt:=Q } (start N vs) H):YF P w K mg base VA (k+1) f fd ps sp:=by
 obtain⟨oc,od,kV,doc,pm,an,cdv,ct,osl,rfl,lk,hcd⟩:=F.ex;refine GG lk hcd S len fun A outer s H vs Q E hr hsp=>?_;obtain⟨t,h,q⟩:=hbody cdv A outer s H vs Q E hr hsp;exact⟨t,h.nox,q⟩
theorem Tn.binds{x qual:Str}{st:Stmt}{f:eF}{fd:FuncData}{ps:dX}(F:Tn K x qual st f fd)(h:∀ (kV doc pm:eE) (an:Option eF) (cdv ct:eE) (us:dY),us.length=ps.length->bindArgs (PySem.W.fnOf x qual (Va st) (Yq st) (Zp st) .none kV doc pm an cdv ct) ⟨us,[]⟩=pure (ps.zip us)):YM K fd ps []:=by
 obtain⟨oc,od,kV,doc,pm,an,cdv,ct,osl,rfl,lk,hcd⟩:=F.ex;exact .all (h kV doc pm an cdv ct)
theorem Ff{x qual:Str}{st:Stmt}{f:eF}{oc:eE}{od an:Option eF}{osl:Array (Option eE)}{kV doc pm cdv ct:eE}(l:K.lookup f=some ⟨oc,od,.func (PySem.W.fnOf x qual (Va st) (Yq st) (Zp st) .none kV doc pm an cdv ct),osl⟩)(c:PySem.W.codeIn K cdv qual=true)(k:PySem.W.keepIn K (.ref f)=true):Tn K x qual st f (PySem.W.fnOf x qual (Va st) (Yq st) (Zp st) .none kV doc pm an cdv ct):=⟨⟨oc,od,kV,doc,pm,an,cdv,ct,osl,rfl,l,c⟩,k⟩
end
section
variable{X:Cx}
end
theorem Z1{A B:Prop}(h:B):if false=true then A else B:=by
 rw[if_neg xM];exact h
theorem Z8{A B:Prop}(h:A):if true=true then A else B:=by
 rw[if_pos rfl];exact h
def ZA(H H':Hp):Prop:=∀b o,H b=some o->H' b=some o
theorem ZA.refl(H:Hp):ZA H H:=fun _ _ h=>h
theorem ZA.trans(a:ZA H H1)(b:ZA H1 H2):ZA H H2:=fun c o h=>b c o (a c o h)
theorem ZA.free(e:ZA H H')(h:H' l=Option.none):H l=Option.none:=by
 cases q:H l with
 | none=>rfl
 | some o =>
  rw[e l o q] at h;cases h
end L2
namespace L2
open PySem PySem.Spec PyProof.Rows
theorem Og:Vg X (.builtin "len") (fun xs H Q=>∃a kvs,xs = [V.ref a]/\H a=some (.dK kvs)/\Q (.int kvs.length) H):=by
 intro pins s σ H xs us Q I r h;obtain⟨a,kvs,rfl,ha,q⟩:=h;obtain⟨u,rfl,ru⟩:=Up r;cases ru;exact RZ I (.inl ha) fun t s' I'=>⟨.int kvs.length,H,I',⟨t,rfl⟩,q⟩
section
variable{κ:Type} [DecidableEq κ]
theorem GC:∀{l:List κ}{k : κ},l.Nodup->¬k∈l->(l ++ [k]).Nodup
 | [],k,_,_=>by simp
 | a::r,k,h,hk=>by
  obtain⟨h1,h2⟩:=yJ.mp h;show (a::(r ++ [k])).Nodup;refine yJ.mpr ⟨fun m=>?_,GC h2 fun m=>hk (xC.mpr (Or.inr m))⟩;rcases xL.mp m with q | q
  ·exact h1 q
  ·exact hk (xC.mpr (Or.inl (xT.mp q).symm))
end
end L2
end
namespace L2
open PySem PySem.Spec PyProof.Rows
abbrev ccx(X:Cx)(scope:Scope)(cl:List (Str×eF))(C:eF)(N':dX)(s2:eB)(H2:Hp)(ex:eA)(pn:List (eF×Obj)):Cx where
 prog:=X.prog
 w:=X.w
 K:=X.K
 mg:=X.mg
 base:=X.base
 A:=X.A
 N:=N'
 s₀:=s2
 H₀:=H2
 env:=compEnvC scope cl C X.env
 outer:=X.stack
 stack:=X.stack
 ex:=ex
 fn:=fun _=>false
 calm:=X.calm
 pn:=pn
 xe:=fun _ _=>False
theorem Ee(env:Env):∀(l:List (Str×NameKind))(cs:List (Str×eF)),(∀p∈l,p.2 = .free->∃c,env.cells.lookup p.1=some c)->
  ∃cl,(forIn l cs (fun(x:Str×NameKind) (r:List (Str×eF))=>if (x.2 == NameKind.free)=true then (do let a ← cellOf env x.1;pure (ForInStep.yield ((x.1,a)::r)):Sem (ForInStep (List (Str×eF)))) else pure (ForInStep.yield r)):Sem _)=pure cl /\
   (∀x c,cl.lookup x=some c->env.cells.lookup x=some c\/cs.lookup x=some c)/\(∀x,((x,NameKind.free)∈l\/∃c,cs.lookup x=some c)->∃c,cl.lookup x=some c)
 | [],cs,_=>⟨cs,rfl,fun x c h=>.inr h,fun x h=>h.elim (fun z=>nomatch z) id⟩
 | (n,k)::r,cs,h=>by
  have hr:∀p∈r,p.2 = .free->∃c,env.cells.lookup p.1=some c:=fun p hp=>h p (xN _ hp)
  by_cases hk:k = .free
  ·subst hk;obtain⟨c,hc⟩:=h (n,.free) xY rfl;obtain⟨cl,e,h1,h2⟩:=Ee env r ((n,c)::cs) hr;refine⟨cl,?_,fun x d hx=>?_,fun x hx=>?_⟩
   ·rw[List.forIn_cons];have e2:cellOf env n=pure c:=by unfold cellOf;rw[hc]
    simp only[beq_self_eq_true,if_true,e2,pure_bind];exact e
   ·grind
   ·apply h2;rcases hx with hx | ⟨d,hx⟩
    ·grind
    ·grind
  ·obtain⟨cl,e,h1,h2⟩:=Ee env r cs hr;refine⟨cl,?_,h1,fun x hx=>h2 x ?_⟩
   ·grind
   ·grind
theorem Rp(h:∀p∈scope.names,p.2 = .free->∃c,env.cells.lookup p.1=some c) :
  ∃cl,closureFor scope env=pure cl/\(∀x c,cl.lookup x=some c->env.cells.lookup x=some c)/\(∀x,(x,NameKind.free)∈scope.names->∃c,cl.lookup x=some c):=by
 obtain⟨cl,e,h1,h2⟩:=Ee env scope.names [] h;refine⟨cl,?_,fun x c hx=>(h1 x c hx).elim id (fun z=>nomatch z),fun x hx=>h2 x (.inl hx)⟩;unfold closureFor;have e':=congrArg (fun m:Sem (List (Str×eF))=>m >>= fun r=>pure r) e;simp only[pure_bind] at e';exact e'
theorem IQ{env:Env}{kk:NameKind}(hkk:kk ≠ .free):∀{names:List (Str×NameKind)}{x:Str},names.lookup x=some kk ->
  (names.map fun(n,k)=>if (k == NameKind.free && env.scope.kind == .function && env.kindOf n == some .cell) then (n,NameKind.cell) else (n,k)).lookup x=some kk
 | [],_,h=>by simp at h
 | (n,k)::r,x,h=>by
  have ih:=@IQ env kk hkk r x;show List.lookup x ((if (k == NameKind.free && env.scope.kind == .function && env.kindOf n == some .cell)=true then (n,NameKind.cell) else (n,k))::_)=_;cases hx:x == n with
  | true =>
   simp only[yT,hx] at h;have h:some k=some kk:=h;have h':k=kk:=Option.some.inj h;subst h';have e:(k == NameKind.free)=false:=by simpa using hkk
   rw[e,zS,zS,if_neg xM,yT,hx]
  | false =>
   simp only[yT,hx] at h
   by_cases hc:(k == NameKind.free && env.scope.kind == .function && env.kindOf n == some .cell)=true
   ·rw[if_pos hc];simp only[yT,hx];exact ih h
   ·rw[if_neg hc];simp only[yT,hx];exact ih h
theorem EL{env:Env}:∀{names:List (Str×NameKind)}{x:Str},names.lookup x=some .free ->
  ((names.map fun(n,k)=>if (k == NameKind.free && env.scope.kind == .function && env.kindOf n == some .cell) then (n,NameKind.cell) else (n,k)).lookup x=some .cell)\/
  ((names.map fun(n,k)=>if (k == NameKind.free && env.scope.kind == .function && env.kindOf n == some .cell) then (n,NameKind.cell) else (n,k)).lookup x=some .free)
 | [],_,h=>by simp at h
 | (n,k)::r,x,h=>by
  have ih:=@EL env r x;show (List.lookup x ((if (k == NameKind.free && env.scope.kind == .function && env.kindOf n == some .cell)=true then (n,NameKind.cell) else (n,k))::_)=_)\/(List.lookup x ((if (k == NameKind.free && env.scope.kind == .function && env.kindOf n == some .cell)=true then (n,NameKind.cell) else (n,k))::_)=_);cases hx:x == n with
  | true =>
   simp only[yT,hx] at h;cases h
   by_cases hc:(NameKind.free == NameKind.free && env.scope.kind == .function && env.kindOf n == some .cell)=true
   ·rw[if_pos hc];simp[yT,hx]
   ·rw[if_neg hc];simp[yT,hx]
  | false =>
   simp only[yT,hx] at h
   by_cases hc:(k == NameKind.free && env.scope.kind == .function && env.kindOf n == some .cell)=true
   ·rw[if_pos hc];simp only[yT,hx];exact ih h
   ·rw[if_neg hc];simp only[yT,hx];exact ih h
theorem Ig(hcell:∀y∈scope.names,y.2 ≠ .cell)(h:(relabel scope env).names.lookup x=some .cell\/(relabel scope env).names.lookup x=some .free):(x,NameKind.free)∈scope.names:=by
 have m:∃k',(k'=NameKind.cell\/k'=NameKind.free)/\(x,k')∈(relabel scope env).names:=by
  rcases h with h | h
  ·exact⟨_,.inl rfl,PySem.mem_of_lookup h⟩
  ·exact⟨_,.inr rfl,PySem.mem_of_lookup h⟩
 obtain⟨k',hk,m⟩:=m;obtain⟨⟨n,k⟩,hm,e⟩:=yY.mp m;have e:(if (k == NameKind.free && env.scope.kind == .function && env.kindOf n == some .cell)=true then (n,NameKind.cell) else (n,k))=(x,k'):=e
 by_cases hc:(k == NameKind.free && env.scope.kind == .function && env.kindOf n == some .cell)=true
 ·grind
 ·grind
theorem OZ(I:Nat->eB->Prop)(hEX:∀e s,EX e s->notedBy (model prog w) A env (fun x s'=>R (.error x) s') e s)(turn:∀n s,I n s->wpAny (model prog w) A (pyNext it) (fun r s₁=>match r with
   | none=>R (.ok .next) s₁
   | some v=>wpAny (model prog w) A (letOwnedTupleGo target it v) (fun _ s1=>wpAny (model prog w) A (assign target env v) (fun _ s₂ =>
     wpAny (model prog w) A (forIn ifs true fun c r=>if r=true then do let ok ← isTrue c env (eval c env);pure (ForInStep.yield ok) else pure (ForInStep.yield r)) (fun ok s₃ =>
      if ok=true then wpAny (model prog w) A (eval elt env) (fun x s₄ =>
       wpAny (model prog w) A (call (.builtin "list.append") [acc,x]) (fun _ s₅=>∃m,m < n/\I m s₅) (fun _ _=>False) s₄) EX s₃
      else ∃m,m < n/\I m s₃) (fun _ _=>False) s₂) (fun _ _=>False) s1) (fun _ _=>False) s₁) (fun _ _=>False) s)(n:Nat)(h:I n s) :
  codeAny (model prog w) A (.compLoop (.ListComp elt [⟨target,iter,ifs,0⟩] scope pos) 0 it acc env) R s:=by
 refine codeAny_loop rfl I (fun n s hI=>?_) n h;show wpAny _ A ((compTurn (.ListComp elt [⟨target,iter,ifs,0⟩] scope pos) 0 it acc env).onRaise (fun x=>do noteFrame x env;theTreesLotGoes x)) _ _ s;refine wpAny_noted ?_;rw[compTurn_list];refine wpAny_bind (wpAny_standAt (wpAny_bind (wpAny_mono (turn n s hI) (fun r s₁ h₁=>?_) fun _ _ h'=>h'.elim)));cases r with
 | none=>exact wpAny_pure h₁
 | some v =>
  refine wpAny_bind (wpAny_mono h₁ (fun _ s1 h1=>?_) fun _ _ h'=>h'.elim);refine wpAny_bind (wpAny_mono h1 (fun _ s₂ h₂=>wpAny_bind (wpAny_mono h₂ (fun ok s₃ h₃=>?_) fun _ _ h'=>h'.elim)) fun _ _ h'=>h'.elim);cases ok with
  | false=>exact wpAny_pure ⟨rfl,h₃⟩
  | true =>
   exact wpAny_bind (wpAny_bind (wpAny_mono h₃ (fun x s₄ h₄=>wpAny_bind (wpAny_mono h₄ (fun _ s₅ h₅=>wpAny_pure (wpAny_pure ⟨rfl,h₅⟩)) fun _ _ h'=>h'.elim)) fun e s h'=>hEX e s h'))
abbrev Tz:=St->Hp->(Bool->Hp->Prop)->Prop
def Bf(X:Cx)(ifs:List Expr)(t:Tz):Prop :=
 ∀(pins:List (eF×Obj))(s:eB)(σ:St)(H:Hp)(Q:Bool->Hp->Prop),ZD X pins σ H s->t σ H Q ->
  wpAny (model X.prog X.w) X.A (forIn ifs true fun c r=>if r=true then do let ok ← isTrue c X.env (eval c X.env);pure (ForInStep.yield ok) else pure (ForInStep.yield r)) (TP X pins σ Q) X.xe s
theorem Li:Bf X [] (fun _ H Q=>Q true H):=fun _ _ _ H _ I h=>wpAny_tests_nil ⟨H,I,h⟩
theorem X8(h:PT X c t):Bf X [c] t:=fun pins s σ H Q I hw=>wpAny_tests_one (h pins s σ H Q I hw)
structure WE (X:Cx) (scope:Scope) (fr:List (Str×Nat)):Prop where
 slots:∀p∈fr,X.N[p.2]? = some p.1/\(X.env.kindOf p.1=some .cell\/X.env.kindOf p.1=some .free)
 kind:∀p∈fr,scope.names.lookup p.1=some .free
def inN(locs:dX)(fr:List (Str×Nat)):List Str:=locs++fr.map (·.1)
def inS(locs:dX)(fr:List (Str×Nat))(σ:St):St:=List.replicate locs.length none++fr.map fun p=>(σ[p.2]?).join
def inF(fr:List (Str×Nat))(σ:St):St:=fr.map fun p=>(σ[p.2]?).join
def Vt(n:Nat)(fv:St)(g:TG)(tt:Tz)(te:TE)(x:V)(H:Hp)(Y:V->Hp->Prop)(N:Hp->Prop):Prop :=
 ∀ls:St,ls.length=n->g x (ls++fv) H fun σ2 H2=>(∃l2:St,l2.length=n /\ σ2=l2++fv)/\tt σ2 H2 fun b H3=>if b=true then te σ2 H3 Y else N H3
def Ur(J:It)(n:Nat)(fv:St)(g:TG)(tt:Tz)(te:TE)(Q:VK)(H1:Hp):Prop:=∃W:Nat->Nat->List V->Hp->Prop,(∃m,W 0 m [] H1)/\∀i m ys H,W i m ys H ->
 (J.stop i H/\ys.length<=sizeLine/\∀l,H l=none->Q (.ref l) (upd H l (.lst ys)))\/
 (J.go i H/\ys.length < sizeLine/\∃m',m' < m/\∀x H',J.yld i H x H'->Vt n fv g tt te x H' (fun y H4=>W (i+1) m' (ys ++ [y]) H4) fun H3=>W (i+1) m' ys H3)
def Ci(n:Nat)(fr:List (Str×Nat))(wi:TI)(g:TG)(tt:Tz)(te:TE):TE:=fun σ H Q=>wi σ H fun J H1=>Ur J n (inF fr σ) g tt te Q H1
theorem SR(ok:YU P w H h)(hn:H D=none)(new:ZO P w (upd H D o) h D o):YU P w (upd H D o) h:=fun b u e=>by
 by_cases hb:b=D
 ·subst hb;rw[Zg] at e;cases e;exact new
 ·rw[Ze hb] at e;exact(ok b u e).stay (fun _ _ _ q=>q) (fun c q=>by rw[Ze (Zm q hn)];exact q) fun c xs q=>by rw[Ze (Zm q hn)];exact q
section
variable{X:Cx}{scope:Scope}{locs:dX}{fr:List (Str×Nat)}
theorem Gq{pins:List (eF×Obj)}{σ:St}{H1:Hp}{s2:eB}{it:eF}{fp:eA}{tn:Nat->Heap->Prop}{J:It}{cl:List (Str×eF)}{E:dU}{RR:eE->eF->Result->eB->Prop}{QQ:List V->Hp->Prop}{EE:Hp->eE->eB->Prop}(hc:X.calm=true)(hkind:scope.kind = .function)(hcell:∀y∈scope.names,y.2 ≠ .cell)(hlo:∀x∈locs,scope.names.lookup x=some .local)(F:WE X scope fr)(hnd:(inN locs fr).Nodup)(cl1:∀x c,cl.lookup x=some c->X.env.cells.lookup x=some c)(cl2:∀x,(x,NameKind.free)∈scope.names->∃c,cl.lookup x=some c)(inner:∀ (C:eF) (s0:eB) (H0:Hp) (ex:eA) (pn:List (eF×Obj)),PG (ccx X scope cl C (inN locs fr) s0 H0 ex pn) tg g/\Bf (ccx X scope cl C (inN locs fr) s0 H0 ex pn) ifs tt)(hel:∀ (C:eF) (pE:List (eF×Obj)) (s:eB) (σ':St) (H:Hp) (Y:VK),(∀b∈fp,∃o,(b,o)∈pE)->ZD (ccx X scope cl C (inN locs fr) s2 H1 fp (X.pn++pins)) pE σ' H s->te σ' H Y -> wpAny (model X.prog X.w) X.A (eval elt (compEnvC scope cl C X.env)) (EP (ccx X scope cl C (inN locs fr) s2 H1 fp (X.pn++pins)) pE σ' Y) (fun e s'=>∃pE' σ2 H',ZD (ccx X scope cl C (inN locs fr) s2 H1 fp (X.pn++pins)) pE' σ2 H' s'/\EE H' e s') s)(hER:∀ (D C:eF) (H':Hp) (e:eE) (s':eB) (m:dW),ZD X pins σ H' s'->Vq X pins H' C->s'.heap.Ns C m->EE H' e s'->notedBy (model X.prog X.w) X.A (compEnvC scope cl C X.env) (fun x s''=>RR (.ref D) C (.error x) s'') e s')(I:ZD X pins σ H1 s2)(T:VI X.prog X.w X.K tg J fp it tn)(st0:tn 0 s2.heap)(hf:∀b∈fp,Vq X pins H1 b){W:Nat->Nat->List V->Hp->Prop}(w0:∃m,W 0 m [] H1)(turn:∀i m ys H,W i m ys H -> (J.stop i H/\ys.length<=sizeLine/\QQ ys H)\/ (J.go i H/\ys.length < sizeLine/\∃m',m' < m/\∀x H',J.yld i H x H'->Vt locs.length (inF fr σ) g tt te x H' (fun y H4=>W (i+1) m' (ys ++ [y]) H4) fun H3=>W (i+1) m' ys H3))(hRR:∀ (D C:eF) (ys:List V) (H':Hp) (s':eB) (m:dW),H' D=none->D≠C->ZD X pins σ (upd H' D (.lst ys)) s'->Vq X pins (upd H' D (.lst ys)) C->s'.heap.Ns C m->QQ ys H'->RR (.ref D) C (.ok .next) s') :
  wpAny (model X.prog X.w) X.A (newList []) (fun acc s₃=>wpAny (model X.prog X.w) X.A (newFunctionEnv scope X.env.globals cl [] X.env.qual none .none (some X.env)) (fun cenv s₄ => codeAny (model X.prog X.w) X.A (.compStart (.ListComp elt [⟨tg,iter,ifs,0⟩] scope pos) 0 (.ref it) acc {cenv with scope:=relabel scope X.env }) (RR acc cenv.locals) s₄) E s₃) E s2:=by
 refine wpAny_newObj_type (wpAny_newFunctionEnv hcell (by intro y hy;simp at hy) (fun h₁ hns₁ hsb₁=>?_) hkind);dsimp only at hns₁ hsb₁ ⊢;generalize hH2:s2.heap.push {cls:=.type "list", dict:=none,data:=.seq ([]:dY).toArray }=Hq at hns₁ hsb₁ ⊢;have hC:Hq.objs.size=s2.heap.objs.size+1:=by rw[← hH2,zT]
 generalize hDe:s2.heap.objs.size=D at hC ⊢;generalize hCe:Hq.objs.size=C at hC hns₁ hsb₁ ⊢;have hDC:D≠C:=by lia
 have below:∀b,b < D->b≠C/\b≠D:=fun b hb=>⟨by lia,by lia⟩;have ltD:∀{b:eF}{o:Obj},s2.heap.get? b=some o->b < D:=fun e=>hDe▸xQ e;have old:∀b o,s2.heap.get? b=some o->h₁.get? b=some o:=fun b o e=>hsb₁.extBut b o (below b (ltD e)).1 (xG _ (hH2▸xG _ e));have hacc:h₁.PlainList D #[]:=⟨_,hsb₁.extBut _ _ hDC (xG _ (by subst hDe;exact hH2▸xW _ rfl))⟩
 let X':Cx:=ccx X scope cl C (inN locs fr) s2 H1 fp (X.pn++pins)
 have ltC:s2.heap.objs.size<=C:=by rw[hDe,hC];exact Nat.le_succ _
 have fpC:Vq X pins H1 C:=I.fpOk ltC (I.hok.fresh ltC);have fpD:Vq X pins H1 D:=I.fpOk (Nat.le_of_eq hDe) (I.hok.fresh (Nat.le_of_eq hDe));have stkN:∀b,b≠X.env.locals->b∉X.fs->b∉frs X.stack:=fun b h1 h2 z=>(xC.mp (I.stkSub b z)).elim h1 h2;have ok':X'.Ok:=by
  refine⟨I.ok.mod,hkind,I.ok.glob,I.ok.blt,ltC,fun x y c h1 h2=>I.ok.inj x y c (cl1 x c h1) (cl1 y c h2),fun x hx=>?_,fun x c h=>?_,I.ok.hd,I.ok.frames,.inl rfl,fun b hb=>?_,fun b o e=>I.bs b o e,xX I.ok.bsz I.sz,fun b o e hb=>?_,fun b hb=>?_,I.stack,I.stkFree⟩
  ·obtain⟨c,hcc⟩:=cl2 x (Ig hcell hx);exact⟨c,hcc⟩
  ·cases h
  ·refine⟨fun z=>?_,fun x c e=>(hf b hb).2.2.2.2.1 x c (cl1 x c e)⟩;obtain⟨o,ho,_⟩:=T.obj _ _ st0 b hb;have z':b=C:=z;exact(below b (ltD ho)).1 z'
  ·have hb':=hf b hb;rcases hb'.2.2.2.1 with z | z
   ·exact I.ok.noex b o e z
   ·exact absurd (yH (xQ e) (xX I.ok.bsz z)) (zJ _)
  ·exact stkN b (hf b hb).2.1 (hf b hb).2.2.1
 have I1:ZD X' [] (inS locs fr σ) H1 {s2 with heap:=h₁,toks:=s2.toks+([]:List (Str×eE)).length }:=by
  refine⟨ok',I.os.symm▸rfl,I.bare,Un.kept old,⟨_,hns₁,fun i x v h1 h2 h3=>?_⟩,fun x c e=>?_,I.hok.fresh ltC,fun x c e=>I.freeC x c (cl1 x c e),fun p hp=>?_,I.hok.kept old,?_⟩
  ·-- a slot of the block that has a value is a free name's
   have hge:locs.length<=i:=by
    by_cases hi:i < locs.length
    ·unfold inS at h2;rw[zQ (by simpa using hi),List.getElem?_replicate,if_pos hi] at h2;cases h2
    ·lia
   have h1':(fr.map (·.1))[i - locs.length]? = some x:=by
    have h1:(inN locs fr)[i]? = some x:=h1;unfold inN at h1;rw[List.getElem?_append_right hge] at h1;exact h1
   have h2':(fr.map fun p=>(σ[p.2]?).join)[i - locs.length]? = some (some v):=by
    unfold inS at h2;rw[List.getElem?_append_right (by simpa using hge),List.length_replicate] at h2;exact h2
   rw[xI] at h1' h2';cases e:fr[i - locs.length]? with
   | none=>rw[e] at h1';cases h1'
   | some p =>
    rw[e] at h1' h2';have ex:p.1=x:=Option.some.inj h1';have ev:(σ[p.2]?).join=some v:=Option.some.inj h2';obtain⟨f1,f2⟩:=F.slots p (xJ e);have ev' : σ[p.2]? = some (some v):=by grind
    obtain⟨m0,hn0,hl0⟩:=I.loc;have vis0:Cd X.env.scope p.1:=by
     rcases f2 with z | z
     ·exact .inr (.inl z)
     ·exact .inr (.inr z)
    obtain⟨u,ru,lk⟩:=hl0 p.2 p.1 v f1 ev' vis0;have hxm:x∉locs:=fun z=>by
     have hnd':=hnd;unfold inN at hnd';exact(List.nodup_append.mp hnd').2.2 x z x (yY.mpr ⟨p,xJ e,ex⟩) rfl
    refine⟨u,ru,?_⟩;rcases lk with⟨hk,_⟩ | ⟨hk,c,hcc,hce⟩
    ·rcases f2 with z | z
     ·rw[z] at hk;cases hk
     ·rw[z] at hk;cases hk
    ·-- in the block it is a cell or free name
     have h3:Cd (relabel scope X.env) x:=h3;have hk':(compEnvC scope cl C X.env).kindOf x=some .cell\/(compEnvC scope cl C X.env).kindOf x=some .free:=by
      rcases h3 with z | z | z
      ·exfalso;have q:=EL (env:=X.env) (F.kind p (xJ e));rw[ex] at q;rcases q with q | q
       ·have z':some NameKind.local=some NameKind.cell:=z.symm.trans q;cases z'
       ·have z':some NameKind.local=some NameKind.free:=z.symm.trans q;cases z'
      ·exact .inl z
      ·exact .inr z
     obtain⟨c',hc'⟩:=cl2 x (Ig hcell hk');have:=cl1 x c' hc';rw[← ex,hcc] at this;cases this;refine .inr ⟨hk',c,hc',?_⟩;obtain⟨o,ho,hd⟩:=hce;exact⟨o,old _ _ ho,hd⟩
  ·obtain⟨v,o,ho,hd⟩:=I.cell x c (cl1 x c e);exact⟨v,o,old _ _ ho,hd⟩
  ·have hp':p∈X.pn++pins:=(xL.mp hp).elim id fun z=>nomatch z;obtain⟨e,n,ne,nf,d⟩:=I.pin p hp';exact⟨old _ _ e,n,(below _ (ltD e)).1,stkN _ ne nf,d⟩
  ·show (inS locs fr σ).length=(inN locs fr).length;unfold inS inN;simp
 have fpLt:∀b∈fp,b < D:=fun b hb=>by
  obtain⟨o,ho,_⟩:=T.obj _ _ st0 b hb;exact ltD ho
 obtain⟨m0,w0⟩:=w0
 let oD:List eE->Nat->Obj:=fun its k=>{cls:=.type "list", data:=.seq its.toArray k }
 have stat:∀{H':Hp}{ob:Obj},(∀b∈fp,H' b=none)->∀b∈fp,Vq X' [(D,ob)] H' b:=fun {H' ob} hn b hb=>by
  obtain⟨f0,f1,f2,f3,f4,f5⟩:=hf b hb;refine⟨hn b hb,(below b (fpLt b hb)).1,stkN b f1 f2,.inl hb,fun x c e=>f4 x c (cl1 x c e),fun p hp z=>?_⟩;rcases xL.mp hp with q | q
  ·exact f5 p q z
  ·grind
 have loop:∀s₃:eB,s₃={s2 with heap:=h₁,toks:=s2.toks+([]:List (Str×eE)).length }->
   codeAny (model X.prog X.w) X.A (.compLoop (.ListComp elt [⟨tg,iter,ifs,0⟩] scope pos) 0 (.ref it) (.ref D) (compEnvC scope cl C X.env)) (RR (.ref D) C) s₃:=by
  rintro s₃ rfl;refine OZ (fun n s'=>∃(i:Nat)(ls:St)(H':Hp)(ys:List V)(its:dY)(k:Nat),ls.length=locs.length/\ZD X' [(D,oD its k)] (ls++inF fr σ) H' s'/\tn i s'.heap/\(∀b∈fp,H' b=none)/\ZH ys its/\W i n ys H') (EX:=fun e s'=>∃pE' σ2 H',ZD X' pE' σ2 H' s'/\EE H' e s') ?_ ?_ m0 ?_
  ·rintro e s4 ⟨pE',σ2,H3,I4,q⟩;obtain⟨mC,hnC,_⟩:=I4.loc;have hnC:s4.heap.Ns C mC:=hnC;have nC:H3 C=none:=I4.free;have I5:ZD X pins σ H3 s4:=I.call' (ch:=fp) (show s4.os=s2.os from I4.os) I4.base I4.hok I4.bare fun b hb=>by
    obtain⟨f0,f1,f2,f3,f4,f5⟩:=hf b hb;exact⟨f3,f1,f4,f5⟩
   exact hER D C H3 e s4 mC I5 (I.fpOk ltC nC) hnC q
  ·rintro n s3 ⟨i,ls,H3,ys,its,k,hls,I3,st3,fr3,rv,w3⟩;rcases turn i n ys H3 w3 with⟨stop,hz,q⟩ | ⟨go,hz,m',hm,step⟩
   ·refine thn (T.done X' rfl rfl rfl hc i _ s3 _ H3 (fun _ _=>False) I3 (stat fr3) st3 stop) fun r s4 ⟨hr,I4⟩=>?_;subst hr;obtain⟨pD,nD,_,_,_⟩:=I4.pin (D,oD its k) (xF _ xY);have nD:H3 D=none:=nD;obtain⟨mC,hnC,_⟩:=I4.loc;have hnC:s4.heap.Ns C mC:=hnC;have nC:H3 C=none:=I4.free;have new:ZO X.prog X.w (upd H3 D (.lst ys)) s4.heap D (.lst ys):=⟨hz,its,k,rv,pD⟩;have hok4:YU X.prog X.w (upd H3 D (.lst ys)) s4.heap:=SR I4.hok nD new;have u4:Un (frs X.stack) fp H1 H3 s2.heap s4.heap:=I4.base;have u5:Un (frs X.stack) fp H1 (upd H3 D (.lst ys)) s2.heap s4.heap:=by
     refine⟨u4.keep,u4.slot,fun b o e n hx=>?_,u4.there,fun b xs e=>?_,fun b o u e=>?_,fun b ps e=>?_⟩
     ·rw[Ze (below b (ltD e)).2];exact u4.free b o e n hx
     ·rw[Ze (Zm e fpD.1)];exact u4.tups b xs e
     ·rw[Ze (Zm e fpD.1)];exact u4.frzs b o u e
     ·rw[Ze (Zm e fpD.1)];exact u4.tbls b ps e
    have I5:ZD X pins σ (upd H3 D (.lst ys)) s4:=by
     refine I.call' (ch:=fp) ?_ u5 hok4 I4.bare fun b hb=>?_
     ·have:s4.os=s2.os:=I4.os;exact this
     ·obtain⟨f0,f1,f2,f3,f4,f5⟩:=hf b hb;exact⟨f3,f1,f4,f5⟩
    have fpC':Vq X pins (upd H3 D (.lst ys)) C:=I.fpOk ltC (by rw[Ze hDC.symm];exact nC);exact hRR D C ys H3 s4 mC nD hDC I5 fpC' hnC q
   ·refine thn (T.item X' rfl rfl rfl hc i _ s3 _ H3 (fun _ _=>False) I3 (stat fr3) st3 go) fun r s4 ⟨u,hr,h4⟩=>?_;subst hr;refine thn h4 fun _ s5 ⟨x,H5,I5,r5,y5,st5,fr5⟩=>?_;obtain⟨hg,htt⟩:=inner C s2 H1 fp (X.pn++pins);have I5':=I5.pinned (stat fr5) (T.obj _ _ st5);refine thn (hg _ s5 _ H5 x u _ I5' r5 (step x H5 y5 ls hls)) fun _ s6 ⟨σ6,H6,I6,⟨l6,hl6,e6⟩,q6⟩=>?_;subst e6;refine thn (htt _ s6 _ H6 _ I6 q6) fun ok s7 ⟨H7,I7,q7⟩=>?_;have again:∀{H8:Hp}{s8:eB},ZD X' ([(D,oD its k)]++AF fp s5.heap) (l6++inF fr σ) H8 s8->tn (i+1) s8.heap/\∀b∈fp,H8 b=none:=fun {H8 s8} I8=>by
     refine⟨T.keep _ _ _ st5 fun b hb o e=>(I8.pin (b,o) (xF _ (xF _ (B1 hb e)))).1,fun b hb=>?_⟩;obtain⟨o,e,d⟩:=T.obj _ _ st5 b hb;exact(I8.pin (b,o) (xF _ (xF _ (B1 hb e)))).2.1
    cases ok with
    | false =>
     rw[if_neg xM] at q7 ⊢;obtain⟨a1,a2⟩:=again I7;exact⟨m',hm,i+1,l6,H7,ys,its,k,hl6,I7.unpinned,a1,a2,rv,q7⟩
    | true =>
     rw[if_pos rfl] at q7 ⊢;refine thn (hel C _ s7 _ H7 _ (fun b hb=>let ⟨o,ho,_⟩:=T.obj _ _ st5 b hb;⟨o,xF _ (B1 hb ho)⟩) I7 q7) fun yv s8 ⟨y,H8,I8,r8,q8⟩=>?_;obtain⟨a1,a2⟩:=again I8;obtain⟨pD,nD,_,nfD,_⟩:=I8.pin (D,oD its k) (xF _ (yP _ xY));have nD:H8 D=none:=nD;have hl8:s8.heap.PlainList D its.toArray:=⟨k,pD⟩;have hlen:its.toArray.size<=sizeLine:=by
      rw[xP,← rv.length];lia
     refine wpAny_list_append_plain (hsz:=hlen) hl8 fun h9 hl9 hs9=>?_;obtain⟨k9,e9⟩:=hl9;have I9:ZD X' (AF fp s5.heap) (l6++inF fr σ) H8 s8:=I8.pins_of fun p hp=>I8.pin p (xF _ (xF _ hp));have I10:ZD X' (AF fp s5.heap) (l6++inF fr σ) H8 {s8 with heap:=h9 }:=by
      refine I9.turned (it:=D) (t':=s8.toks) (fun b o hb e=>(hs9.2 b hb).trans e) nD ?_ ?_ ?_ ?_
      ·exact hDC
      ·exact .inr (Nat.le_of_eq hDe)
      ·exact fun x c e=>fpD.2.2.2.2.1 x c (cl1 x c e)
      ·intro p hp z;rcases xL.mp hp with q | q
       ·exact fpD.2.2.2.2.2 p q z
       ·have:=fpLt p.1 (GF q).1;exact(below p.1 this).2 z
     have e9':h9.get? D=some (oD (its ++ [yv]) k9):=by
      rw[e9];simp[oD]
     have I11:ZD X' [(D,oD (its ++ [yv]) k9)] (l6++inF fr σ) H8 {s8 with heap:=h9 }:=I10.pins_of fun p hp=>by grind
     refine⟨m',hm,i+1,l6,H8,ys ++ [y],its ++ [yv],k9,hl6,I11,?_,a2,ZH.append rv (.cons r8 .nil),q8⟩;exact T.keep _ _ _ a1 fun b hb o e=>(hs9.2 b (below b (fpLt b hb)).2).trans e
  ·have e0:List.replicate locs.length none++inF fr σ=inS locs fr σ:=rfl;obtain⟨k0,eD⟩:=hacc;refine⟨0,List.replicate locs.length none,H1,[],[],k0,by simp,?_,T.keep _ _ _ st0 fun b _ o e=>old b o e,fun b hb=>(hf b hb).1,.nil,w0⟩;rw[e0];refine I1.pins_of fun p hp=>?_;have e:p=(D,oD [] k0):=by simpa using hp
   subst e;exact⟨eD,fpD.1,hDC,stkN D fpD.2.1 fpD.2.2.1,fun v z=>by cases z⟩
 exact codeAny_compStart_list (loop _ rfl) (T.self _ 0 _ _ _ (T.keep _ _ _ st0 fun b _ o e=>old b o e) (loop _ rfl))
structure WS (X:Cx) (scope:Scope) (locs:dX) (fr:List (Str×Nat)):Prop where
 kind:scope.kind = .function
 nocell:∀y∈scope.names,y.2 ≠ .cell
 names:∀y∈scope.names,y.2 = .local->scope.names.lookup y.1=some .local
 own:∀x∈locs,scope.names.lookup x=some .local
 free:∀y∈scope.names,y.2 = .free->y.1∈fr.map (·.1)
 nd:(inN locs fr).Nodup
theorem WE.nil:WE X scope []:=⟨(fun _ h=>nomatch h),(fun _ h=>nomatch h)⟩
theorem WE.cons(h1:X.N[j]? = some x)(h2:X.env.kindOf x=some .cell\/X.env.kindOf x=some .free)(h3:scope.names.lookup x=some .free)(t:WE X scope fr):WE X scope ((x,j)::fr) :=
 ⟨fun p hp=>(xC.mp hp).elim (fun e=>by subst e;exact⟨h1,h2⟩) (t.slots p),fun p hp=>(xC.mp hp).elim (fun e=>by subst e;exact h3) (t.kind p)⟩
theorem WS.clos{pins:List (eF×Obj)}{σ:St}{H:Hp}{s:eB}(S:WS X scope locs fr)(F:WE X scope fr)(I:ZD X pins σ H s) :
  ∃cl,closureFor scope X.env=pure cl/\(∀x c,cl.lookup x=some c->X.env.cells.lookup x=some c)/\(∀x,(x,NameKind.free)∈scope.names->∃c,cl.lookup x=some c):=by
 refine Rp fun p hp hk=>?_;obtain⟨q,hq,e⟩:=yY.mp (S.free p hp hk);obtain⟨c,hc⟩:=I.ok.has q.1 (F.slots q hq).2;exact⟨c,e▸hc⟩
theorem Sy(S:WS X scope locs fr)(F:WE X scope fr)(hc:X.calm=true)(hi:PI X tg iter wi)(inner:∀cl C s0 H0 ex pn,PG (ccx X scope cl C (inN locs fr) s0 H0 ex pn) tg g/\Bf (ccx X scope cl C (inN locs fr) s0 H0 ex pn) ifs tt/\PE (ccx X scope cl C (inN locs fr) s0 H0 ex pn) elt te)(hs:∀x,foldedSetIterable iter X.env x=pure x:=by intro _;rfl):PE X (.ListComp elt [⟨tg,iter,ifs,0⟩] scope pos) (Ci locs.length fr wi g tt te):=by
 intro pins s σ H Q I h;obtain⟨cl,hcl,cl1,cl2⟩:=S.clos F I;rw[eval_ListComp];refine wpAny_comprehension_free (use:=none) rfl hs hcl S.kind S.names (thn (hi pins s σ H _ I h) fun v s1 h1=>thn h1 fun itv s2 h2=>?_);obtain⟨it,fp,tn,J,H1,e,I2,T,st2,f2,W,w0,turn⟩:=h2;subst e;refine Gq (QQ:=fun ys H'=>∀l,H' l=none->Q (.ref l) (upd H' l (.lst ys))) (EE:=fun _ _ _=>False) hc S.kind S.nocell S.own F S.nd cl1 cl2 (fun C s0 H0 ex pn=>let ⟨a,b,_⟩:=inner cl C s0 H0 ex pn;⟨a,b⟩) (fun C pE s σ' H Y _ I h=>wpAny_mono ((inner cl C s2 H1 fp (X.pn++pins)).2.2 pE s σ' H Y I h) (fun _ _ q=>q) fun _ _ z=>z.elim) (fun _ _ _ _ _ _ _ _ _ z=>z.elim) I2 T st2 f2 w0 turn fun D C ys H' s' m nD hDC I' fC hn q=>?_;refine⟨m,hn,fun h' hs'=>?_⟩;obtain⟨f0,f1,f2,f3,f4,f5⟩:=fC;exact⟨.ref D,_,I'.turned (it:=C) (t':=s'.toks) (fun b o hb e=>(hs'.2 b hb).trans e) f0 f1 f3 f4 f5,rfl,q D nD⟩
theorem Ma(S:WS X scope locs fr)(F:WE X scope fr)(hc:X.calm=true)(hi:PI X tg iter wi)(inner:∀cl C s0 H0 ex pn,PG (ccx X scope cl C (inN locs fr) s0 H0 ex pn) tg g/\Bf (ccx X scope cl C (inN locs fr) s0 H0 ex pn) ifs tt/\PE (ccx X scope cl C (inN locs fr) s0 H0 ex pn) elt te)(hN:X.N.Nodup)(hi0:X.N[i]? = some x)(hx:X.env.scope.names.lookup x=some .local)(hsw:swapsWith (.ListComp elt [⟨tg,iter,ifs,0⟩] scope pos) (some (.Name x pos')) spos.line X.env=pure true)(hs:∀x,foldedSetIterable iter X.env x=pure x:=by intro _;rfl):PS X (.Assign [.Name x pos'] (.ListComp elt [⟨tg,iter,ifs,0⟩] scope pos) spos) (U0 (Ci locs.length fr wi g tt te) (Wg i)):=by
 intro pins s σ H D0 I h;obtain⟨cl,hcl,cl1,cl2⟩:=S.clos F I;rw[exec_Assign_Name_used _ _ _ _ hsw];refine wpAny_bind (wpAny_standAt (wpAny_bind ?_));show wpAny _ X.A (do let _ ← comprehension (.ListComp elt [⟨tg,iter,ifs,0⟩] scope pos) scope X.env _ (newList []) false (eval iter X.env) (some (assign (.Name x pos') X.env))) _ _ s;refine wpAny_bind (wpAny_mono (wpAny_comprehension_free (use:=some (assign (.Name x pos') X.env)) (Q:=fun _ s'=>SP X pins D0 .next s') rfl hs hcl S.kind S.names (thn (hi pins s σ H _ I h) fun v s1 h1=>thn h1 fun itv s2 h2=>?_)) (fun _ s' hq=>wpAny_pure (wpAny_pure hq)) fun _ _ e=>e);obtain⟨it,fp,tn,J,H1,e,I2,T,st2,f2,W,w0,turn⟩:=h2;subst e;refine Gq (QQ:=fun ys H'=>∀l,H' l=none->Wg i (.ref l) σ (upd H' l (.lst ys)) D0.nx) (EE:=fun _ _ _=>False) hc S.kind S.nocell S.own F S.nd cl1 cl2 (fun C s0 H0 ex pn=>let ⟨a,b,_⟩:=inner cl C s0 H0 ex pn;⟨a,b⟩) (fun C pE s σ' H Y _ I h=>wpAny_mono ((inner cl C s2 H1 fp (X.pn++pins)).2.2 pE s σ' H Y I h) (fun _ _ q=>q) fun _ _ z=>z.elim) (fun _ _ _ _ _ _ _ _ _ z=>z.elim) I2 T st2 f2 w0 turn fun D C ys H' s' m nD hDC I' fC hn q=>?_;obtain⟨f0,f1,f2,f3,f4,f5⟩:=fC;obtain⟨oC,es,ep,hoC,hdC,hrC⟩:=id hn;have I6:ZD X (pins ++ [(C,oC)]) σ (upd H' D (.lst ys)) s':=I'.pins_of fun p hp=>(xL.mp hp).elim (fun z=>I'.pin p (xF _ z)) fun z=>by grind
 refine wpAny_assign_Name (Ec (v:=.ref D) I6 hN hi0 (.inl hx) rfl (fun s'' I''=>?_) (.inr hx));obtain⟨p1,p2,p3,p4,p5⟩:=I''.pin (C,oC) (xF _ (xF _ xY));refine⟨m,⟨oC,es,ep,p1,hdC,hrC⟩,fun h' hs'=>?_⟩;have I7:ZD X pins (σ.set i (some (.ref D))) (upd H' D (.lst ys)) s'':=I''.unpinned;exact⟨_,_,I7.turned (it:=C) (t':=s''.toks) (fun b o hb e=>(hs'.2 b hb).trans e) p2 p3 f3 f4 f5,q D nD⟩
end
section
variable{X:Cx}{scope:Scope}{cl:List (Str×eF)}{C:eF}{N':dX}{s0:eB}{H0:Hp}{ex:eA}{pn:List (eF×Obj)}
theorem pvL(i:Nat){x:Str}{pos:Pos}(hN:N'[i]? = some x:=by rfl)(h:scope.names.lookup x=some .local:=by rfl)(hd:(x == ("__debug__" : Str))=false:=by decide)(hcd:(x == ("__classdict__" : Str))=false:=by decide) :
  PE (ccx X scope cl C N' s0 H0 ex pn) (.Name x pos) (YH i):=Di hN (.inl (lookup_relabel_local h)) hd hcd
theorem pvF(i:Nat){x:Str}{pos:Pos}(hN:N'[i]? = some x:=by rfl)(h:scope.names.lookup x=some .free:=by rfl)(hd:(x == ("__debug__" : Str))=false:=by decide)(hcd:(x == ("__classdict__" : Str))=false:=by decide) :
  PE (ccx X scope cl C N' s0 H0 ex pn) (.Name x pos) (YH i):=Di hN ((EL h).elim (fun z=>.inr (.inl z)) fun z=>.inr (.inr z)) hd hcd
theorem pgL(i:Nat){x:Str}{pos:Pos}(hnd:N'.Nodup)(hN:N'[i]? = some x:=by rfl)(h:scope.names.lookup x=some .local:=by rfl):PG (ccx X scope cl C N' s0 H0 ex pn) (.Name x pos) (Wg i) :=
 Ed (X:=ccx X scope cl C N' s0 H0 ex pn) hnd hN (.inl (lookup_relabel_local h)) (.inr (lookup_relabel_local h))
end
def sgn(x:Str)(i:Nat):V:=.str ⟨#[x.cps.getD i 0]⟩
def Eg(x:Str):It:=⟨fun i _=>i < x.length,fun i H v H'=>H'=H/\v=sgn x i,fun i _=>i=x.length⟩
theorem Hy(hh:A.handled=none)(I:eF)(x:Str)(t:Tok) :
  Walks P w A I [I] [I] x.cps.size (SignAt x) (fun i h=>h.IsStrIter I (strIterType x) x t i):=by
 unfold strIterType;cases ha:x.cps.all (· < 128)
 ·exact Walks.strWide hh I x t
 ·exact Walks.strAscii hh I x t
theorem NO{P:eG}{w:eI}{K:uFg}{tg:Expr}(it:eF)(x:Str)(t:Tok):VI P w K tg (Eg x) [it] it (fun i h=>h.IsStrIter it (strIterType x) x t i) where
 mem:=by simp
 obj:=fun i h st b hb=>by
  have e:b=it:=by simpa using hb
  subst e;obtain⟨o,e,c,d⟩:=st;exact⟨o,e,fun v z=>by rw[d] at z;cases z⟩
 keep:=fun i h h' st k=>let ⟨o,ho,r⟩:=st;⟨o,k it (by simp) o ho,r⟩
 item:=by
  intro X hP hw hK hc i pins s σ H E I hf st hg;subst hP hw hK;obtain⟨f0,f1,f2,f3,f4,f5⟩:=hf it (by simp);refine(Hy (I.ok.hd hc) it x t).item i s _ _ hg st fun v h' tk hv st' kk=>?_;obtain⟨c,u,hcx,rfl⟩:=hv;have I1:ZD X pins σ H {s with heap:=h',toks:=tk }:=I.turned (fun b o hb e=>kk b o (by simpa using hb) e) f0 f1 f3 f4 f5;obtain⟨o,e,cc,d⟩:=id st';have hn : ["enumerate","zip","dict_itemiterator","dict_reverseitemiterator","odict_iterator","itertools.zip_longest","itertools.pairwise"].contains (strIterType x)=false:=by
   unfold strIterType;split<;>decide
  refine⟨_,rfl,Bj (s:={s with heap:=h',toks:=tk }) e cc d hn ⟨sgn x i,H,I1,⟨u,?_⟩,⟨rfl,rfl⟩,st',fun b hb=>(hf b hb).1⟩⟩;rw[Array.getD_eq_getD_getElem?,hcx]
  all_goals rfl
 done:=by
  intro X hP hw hK hc i pins s σ H E I hf st hg;subst hP hw hK;obtain⟨f0,f1,f2,f3,f4,f5⟩:=hf it (by simp);have e:i=x.cps.size:=hg;subst e;exact(Hy (I.ok.hd hc) it x t).done s _ _ st fun h' tk kk=>⟨rfl,I.turned (fun b o hb e=>kk b o (by simpa using hb) e) f0 f1 f3 f4 f5⟩
 self:=fun A i s Q E st h=>by
  have st:s.heap.IsStrIter it (strIterType x) x t i:=st;unfold strIterType at st;split at st
  ·exact wpAny_pyIter_striter_ascii st h
  ·exact wpAny_pyIter_striter_wide st h
inductive BD(R:It->Hp->Prop)(v:V)(H1:Hp):Prop
 |mk(x)(_:v = .str x)(_:R (Eg x) H1)
def Iv(te:TE):TI:=fun σ H R=>te σ H fun v H1=>BD R v H1
theorem NL(hl:PE X l tl):PI X tg l (Iv tl):=by
 intro pins s σ H R I h;refine thn (hl pins s σ H _ I h) fun v s1 ⟨y,H1,I1,r1,q1⟩=>?_;obtain⟨x,e,q⟩:=q1;subst e;obtain⟨t,rfl⟩:=r1;refine wpAny_pyIter_strU ?_;refine⟨s1.heap.objs.size,[s1.heap.objs.size],_,_,H1,rfl,I1.kept (t':=s1.toks) fun b o e=>xG _ e,NO _ x t,⟨_,xW _ rfl,rfl,rfl⟩,fun b hb=>?_,q⟩;have e:b=s1.heap.objs.size:=by simpa using hb
 subst e;exact I1.fpOk (xD _) (I1.hok.fresh (xD _))
theorem PN:YX X (compareOp .LtE) (fun x y H Q=>∃i j,x = .str i/\y = .str j/\Q (.bl (!decide (j.cps.toList < i.cps.toList))) H):=by
 intro pins s σ H x y v u Q I rx ry h;obtain⟨i,j,rfl,rfl,q⟩:=h;obtain⟨t,rfl⟩:=rx;obtain⟨t',rfl⟩:=ry;exact P.le_str ⟨.bl _,H,I,rfl,q⟩
theorem GX(h:IsPart v o):∃l:Option (Int×Tok),v=partValue l/\l.map (·.1)=o:=by
 cases h with
 | none=>exact⟨none,rfl,rfl⟩
 | int i t=>exact⟨some (i,t),rfl,rfl⟩
theorem Lr:CI X (fun x lo hi H Q=>∃z,x = .str z/\z.length<=sizeLine/\Q (.str (Txt.slice z lo hi)) H):=by
 intro pins s σ H x v vl vu lo hi sl Q I rx hs pl pu h;obtain⟨z,rfl,hz,q⟩:=h;obtain⟨t,rfl⟩:=rx;obtain⟨l,rfl,rfl⟩:=GX pl;obtain⟨u,rfl,rfl⟩:=GX pu;refine⟨"str", _,F.slot_str_getitem.lookup,typeIs_str _ _ _,?_⟩;refine wpAny_getItem_str_slice (l:=l) (u:=u) (st:=none) hs rfl (post_val_or_str ⟨xX (Txt.slice_le z _ _) hz,fun t' k=>?_⟩);exact⟨.str _,H,I.tok _,⟨t',rfl⟩,q⟩
theorem MT:∀{us:dY},ZH (ys.map V.str) us->StrsAre us ys:=by
 induction ys with
 | nil=>intro us r;rw[List.map_nil] at r;cases r;exact .nil
 | cons n ns ih =>
  intro us r;rw[yI] at r;cases r with
  | cons r1 r2 =>
   obtain⟨t,e⟩:=r1;subst e;exact .cons n t (ih r2)
section
variable{X:Cx}
theorem MB:BU X "str.join" (fun x xs H Q=>∃sep a ys,x = .str sep/\xs = [.ref a]/\ZE X.K H a (ys.map V.str)/\(ys.map (·.length)).sum+ys.length * sep.length<=16777216/\Q (.str (Txt.join sep ys)) H):=by
 intro pins s σ H x xs v us Q I rx rs h;obtain⟨sep,a,ys,rfl,rfl,ha,hz,q⟩:=h;obtain⟨t,rfl⟩:=rx;obtain⟨u,rfl,ru⟩:=Up rs;cases ru;obtain⟨its,r,p,_⟩:=I.list ha;exact join_list p.isList (MT r) hz fun t' k=>⟨.str _,H,I.tok _,⟨t',rfl⟩,q⟩
theorem OH(hc:X.calm=true):Vg X (.builtin "all") (fun xs H Q=>∃(a:eF)(bs:List Bool),xs = [.ref a]/\ZE X.K H a (bs.map V.bl)/\Q (.bl (bs.all id)) H):=by
 intro pins s σ H xs us Q I r h;obtain⟨a,bs,rfl,ha,q⟩:=h;obtain⟨u,rfl,ru⟩:=Up r;cases ru;obtain⟨its,rv,p,_⟩:=I.list ha;have hlt:a < s.heap.objs.size:=by obtain⟨o,n,e,_⟩:=p;exact xQ e
 refine call_all_walk (wpAny_pyIter_list p.isList ?_);refine⟨s.heap.objs.size,_,_,_,_,_,fun i=>bs.getD i true,rfl,Walks.list (A:=X.A.in1) (I.ok.hd hc) _ a (yG hlt) its.toArray,⟨⟨_,xW _ rfl,rfl,rfl⟩,p.isList.push _⟩,?_,fun h' tk hk=>?_⟩
 ·intro i v s' Q' E' hv hq;have hv:its.toArray[i]? = some v:=hv;have hv':its[i]? = some v:=by simpa using hv
  have hlen:bs.length=its.length:=by have:=rv.length;simpa using this
  have hi:i < its.length:=(xH.mp hv').1;have hb:(bs.map V.bl)[i]? = some (V.bl (bs.getD i true)):=by grind
  obtain⟨u,hu,ru⟩:=rv.get hb;rw[hv'] at hu;cases hu;cases ru;exact wpAny_truthy_bool hq
 ·have hlen:its.toArray.size=bs.length:=by have:=rv.length;simp at this ⊢;lia
  have e:(List.range its.toArray.size).all (fun i=>bs.getD i true)=bs.all id:=by
   rw[hlen,zH,zK,zK];constructor
   ·intro h b hb;obtain⟨i,hi,e⟩:=List.mem_iff_getElem.mp hb;have:=h i (List.mem_range.mpr hi);rw[xZ,xB hi,e] at this;exact this
   ·intro h i hi;have hi:=List.mem_range.mp hi;rw[xZ,xB hi];exact h _ (zE hi)
  refine⟨.bl (bs.all id),H,I.kept (h':=h') (t':=tk) (fun b o eb=>hk b o ?_ (xG _ eb)),by rw[e];rfl,q⟩;intro z;have:b=s.heap.objs.size:=by simpa using z
  exact absurd (xQ eb) (by rw[this];exact zJ _)
theorem Ko:Vg X (.builtin "isinstance") (fun xs H Q=>∃x n t b,xs = [x,.ty n]/\YY X.K H x t/\PySem.W.kitOne X.K t (.type n)=some b/\Q (.bl b) H):=by
 intro pins s σ H xs us Q I r h;obtain⟨x,n,t,b,rfl,ty,e,q⟩:=h;obtain⟨u,w',rfl,ru,rw'⟩:=Ck r;cases rw';exact Lh I ru ty e fun tk=>⟨.bl b,H,I.tok _,rfl,q⟩
theorem Sj(hc:X.calm=true):Vg X (.builtin "sum") (fun xs H Q=>∃(a:eF)(ns:List Int),xs = [.ref a]/\ZE X.K H a (ns.map V.int)/\(∀n∈ns,-1000000000<=n/\n<=1000000000)/\ns.length<=1000000/\Q (.int ns.sum) H):=by
 intro pins s σ H xs us Q I r h;obtain⟨a,ns,rfl,ha,hb,hl,q⟩:=h;obtain⟨u,rfl,ru⟩:=Up r;cases ru;obtain⟨its,rv,p,_⟩:=I.list ha;have hlt:a < s.heap.objs.size:=by obtain⟨o,n,e,_⟩:=p;exact xQ e
 have hlen:ns.length=its.length:=by have:=rv.length;simpa using this
 have hpre:∀k,k<=ns.length->preSum (fun i=>ns.getD i 0) k=(ns.take k).sum:=by
  intro k
  induction k with
  | zero=>intro _;simp[preSum]
  | succ k ih =>
   intro hk;have hk':k < ns.length:=hk;rw[preSum,ih (zC hk'),xV,List.sum_append,xZ,xB hk'];simp
 have bnd:∀l:List Int,(∀n∈l,-1000000000<=n/\n<=1000000000)->-1000000000 * (l.length:Int)<=l.sum/\l.sum<=1000000000 * (l.length:Int):=by
  intro l
  induction l with
  | nil=>intro _;simp
  | cons x l ih =>
   intro h;have h1:=h x xY;have h2:=ih fun n hn=>h n (xN _ hn);rw[List.sum_cons,yE];lia
 refine call_sum_walk (wpAny_pyIter_list p.isList ?_);refine⟨s.heap.objs.size,_,_,_,_,_,fun i=>ns.getD i 0,rfl,Walks.list (A:=X.A.in1) (I.ok.hd hc) _ a (yG hlt) its.toArray,⟨⟨_,xW _ rfl,rfl,rfl⟩,p.isList.push _⟩,?_,?_,?_,fun h' tk t' hk=>?_⟩
 ·intro b hb;show b < (s.heap.push _).objs.size;rw[zT];rcases xC.mp hb with rfl | hb
  ·exact Nat.lt_succ_self _
  ·have:b=a:=by simpa using hb
   subst this;exact Nat.lt_succ_of_lt hlt
 ·intro i v hv;have hv:its.toArray[i]? = some v:=hv;have hv':its[i]? = some v:=by simpa using hv
  have hi:i < its.length:=(xH.mp hv').1;have hb:(ns.map V.int)[i]? = some (V.int (ns.getD i 0)):=by grind
  obtain⟨u,hu,ru⟩:=rv.get hb;rw[hv'] at hu;cases hu;exact ru
 ·intro j hj;have hj:j < its.toArray.size:=hj;rw[xP] at hj;have hj':j < ns.length:=by lia
  refine⟨?_,?_⟩
  ·show InLong (ns.getD j 0);rw[xZ,xB hj'];have:=hb _ (zE hj');show -(2 ^ 63)<=ns[j]/\ns[j] < 2 ^ 63;lia
  ·rw[hpre (j+1) hj'];have:=bnd (ns.take (j+1)) fun n hn=>hb n (List.mem_of_mem_take hn);have hl2:(ns.take (j+1)).length<=1000000:=by rw[xU];lia
   show -(2 ^ 63)<=_/\_ < 2 ^ 63;lia
 ·have e:preSum (fun i=>ns.getD i 0) its.toArray.size=ns.sum:=by
   rw[xP,← hlen,hpre _ (xD _),yC]
  refine⟨.int ns.sum,H,I.kept (h':=h') (t':=tk) (fun b o eb=>hk b o ?_ (xG _ eb)),⟨t',by rw[e]⟩,q⟩;intro z;have:b=s.heap.objs.size:=by simpa using z
  exact absurd (xQ eb) (by rw[this];exact zJ _)
end
section
variable{K:uFg}
end
end L2
namespace L2
open PySem PySem.Spec PyProof.Rows
def YC(K:uFg)(mg:dW)(x:Str)(st:Stmt):Prop:=∃f fd,Tn K x x st f fd/\mg x=some (.ref f)
def Fn(P:eG)(w:eI)(K:uFg)(mg:dW)(base:Heap)(x:Str)(ps:dX)(k:Nat)(sp:Sp):Prop :=
 ∃f fd,mg x=some (.ref f)/\PySem.W.keepIn K (.ref f)=true/\YM K fd ps []/\YF P w K mg base VA k f fd ps sp
theorem Fn.imp{P:eG}{w:eI}{K:uFg}{mg:dW}{base:Heap}{x:Str}{ps:dX}{k:Nat}{sp sp':Sp}(F:Fn P w K mg base x ps k sp)(h:∀vs H Q E,sp' vs H Q E->sp vs H Q E):Fn P w K mg base x ps k sp' :=
 let ⟨f,fd,a,b,c,d⟩:=F;⟨f,fd,a,b,c,d.imp h⟩
section
variable{P:eG}{w:eI}{K:uFg}{mg:dW}{base:Heap}
theorem YC.fn{x:Str}{st:Stmt}{N ps:dX}{k:Nat}{sp:Sp}(h:YC K mg x st)(S:ZM N ps (Zp st))(hb:∀ (kV doc pm:eE) (an:Option eF) (cdv ct:eE) (us:dY),us.length=ps.length->bindArgs (PySem.W.fnOf x x (Va st) (Yq st) (Zp st) .none kV doc pm an cdv ct) ⟨us,[]⟩=pure (ps.zip us))(len:∀vs H Q E,sp vs H Q E->vs.length=ps.length)(hbody:∀ (f:eF) (cdv:eE) (A:eJ) (outer:List Env) (s:eB) (H:Hp) (vs:List V) (Q:VK) (E:XK),ZL k (A.deeper (envOfC x (Zp st) s.heap.objs.size f cdv))->sp vs H Q E -> ∃t,UW (Y2 VA P w K mg base N x (Zp st) f cdv A outer s H E).nox (Yq st) t/\t {nx:=fun _ H'=>Q .non H',rt:=Q } (start N vs) H):Fn P w K mg base x ps (k+1) sp:=by
 obtain⟨f,fd,F,hm⟩:=h;exact⟨f,fd,hm,F.kp,F.binds hb,F.ok S len fun cdv A outer s H vs Q E hr q=>hbody f cdv A outer s H vs Q E hr q⟩
theorem Nw{h:Heap}{x:Str}{st:Stmt}{f:eF}{oc:eE}{od an:Option eF}{osl:Array (Option eE)}{kV doc pm cdv ct:eE}(KX:K.In h)(G:h.Ns mainGlobals mg)(a:PySem.W.nsIn K mainGlobals x=some (some (.ref f)))(l:K.lookup f=some ⟨oc,od,.func (PySem.W.fnOf x x (Va st) (Yq st) (Zp st) .none kV doc pm an cdv ct),osl⟩)(c:PySem.W.codeIn K cdv x=true)(k:PySem.W.keepIn K (.ref f)=true):YC K mg x st:=⟨f,_,Ff l c k,PySem.W.mg_of KX G a⟩
theorem hQ{h:Heap}(x:Str)(st:Stmt)(f c:eF)(pm:eE)(KX:K.In h)(G:h.Ns mainGlobals mg)(e:PySem.W.nsIn K mainGlobals x=some (some (.ref f))/\K.lookup f=some ⟨.type "function", none,.func (PySem.W.fnOf x x (Va st) (Yq st) (Zp st) .none .none .none pm none (.ref c) .none),#[]⟩/\PySem.W.codeIn K (.ref c) x=true/\PySem.W.keepIn K (.ref f)=true):YC K mg x st:=Nw KX G e.1 e.2.1 e.2.2.1 e.2.2.2
end
def JF(sp:Sp)(t:TA):TE:=fun σ H Q=>t σ H fun vs H1=>sp vs H1 Q E0
theorem Mb{k:Nat}{ps:dX}{sp:Sp}{x:Str}{p pos:Pos}{e:Expr}{es:List Expr}{t:TA}(F:Fn X.prog X.w X.K X.mg X.base x ps k sp)(hr:ZL k X.A)(hg:Gl X x)(ha:PA X (e::es) t)(hdb:(x == ("__debug__" : Str))=false:=by decide)(he:starEach (e::es) X.env=(false,eval e X.env)::starEach es X.env:=by rfl)(hpl:(backTo pos (starEach es X.env)).any (·.1)=false:=by rfl) :
  PE X (.Call (.Name x p) (e::es) [] pos) (JF sp t):=by
 obtain⟨f,fd,hm,hk,hb,G⟩:=F;intro pins s σ H Q I h;refine Rr G hr hg hm hk hb .nil CH ha hdb he hpl pins s σ H Q I ?_;have e:Eo sp [] E0 t=JF sp t:=by
  unfold Eo JF;simp only[yD]
 rw[e];exact h
theorem RE:DG X (unaryOp .USub) (rU fun i=>.int (-i)):=by
 intro pins s σ H x v Q I rx h;obtain⟨i,rfl,q⟩:=h;obtain⟨t,rfl⟩:=rx;exact neg_int ⟨.int (-i),H,I.tok _,⟨_,rfl⟩,q⟩
theorem Yk:bootBuiltins "len" = some (.builtin "len"):=by decide +kernel
theorem Cs:bootBuiltins "max" = some (.builtin "max"):=by decide +kernel
theorem IY:bootBuiltins "min" = some (.builtin "min"):=by decide +kernel
theorem Ds:bootBuiltins "sum" = some (.builtin "sum"):=by decide +kernel
theorem Xi:bootBuiltins "all" = some (.builtin "all"):=by decide +kernel
theorem Ua:bootBuiltins "isinstance" = some (.builtin "isinstance"):=by decide +kernel
theorem Vu:bootBuiltins "list" = some (.type "list"):=by decide +kernel
theorem ED:bootBuiltins "bool" = some (.type "bool"):=by decide +kernel
theorem EZ:bootBuiltins "int" = some (.type "int"):=by decide +kernel
theorem HY:bootBuiltins "str" = some (.type "str"):=by decide +kernel
theorem DL:bootBuiltins "tuple" = some (.type "tuple"):=by decide +kernel
def ZF(s:eF)(H H':Hp):Prop:=∀b o,b≠s->H b=some o->H' b=some o
theorem ZF.refl:ZF s H H:=fun _ _ _ e=>e
theorem ZF.trans(a:ZF s H H1)(b:ZF s H1 H2):ZF s H H2:=fun c o n e=>b c o n (a c o n e)
theorem ZF.upd:ZF s H (upd H s o):=fun b _ n e=>by rw[Ze n];exact e
theorem ZF.new(h:H l=none):ZF s H (L2.upd H l o):=fun b _ _ e=>by rw[Ze (Zm e h)];exact e
theorem ZA.new(h:H l=none):ZA H (L2.upd H l o):=fun b _ e=>by rw[Ze (Zm e h)];exact e
theorem ZA.x(h:ZA H H'):ZF s H H':=fun b o _ e=>h b o e
def ZJ(H:Hp)(s la:eF):Prop:=∃(ns:List Int)(i big st cnt:Int),H s=some (.lst [.ref la,.int i,.int big,.int st,.int cnt])/\H la=some (.lst (ns.map V.int))/\0<=i/\la≠s
theorem ZJ.keep(h:ZJ H s la)(k:ZA H H'):ZJ H' s la:=by
 obtain⟨ns,i,big,st,cnt,h1,h2,h3,h4⟩:=h;exact⟨ns,i,big,st,cnt,k _ _ h1,k _ _ h2,h3,h4⟩
theorem ZJ.keepX(h:ZJ H s la)(k:ZF l H H')(n1:l≠s)(n2:l≠la):ZJ H' s la:=by
 obtain⟨ns,i,big,st,cnt,h1,h2,h3,h4⟩:=h;exact⟨ns,i,big,st,cnt,k _ _ n1.symm h1,k _ _ n2.symm h2,h3,h4⟩
theorem ZJ.ne(h:ZJ H s la)(hl:H l=none):l≠s/\l≠la:=by
 obtain⟨ns,i,big,st,cnt,h1,h2,h3,h4⟩:=h;exact⟨(Zm h1 hl).symm,(Zm h2 hl).symm⟩
end L2
namespace L2
open PySem PySem.Spec PyProof.Rows
theorem Z0{c A B:Prop} [Decidable c] (h1:c->A) (h2:¬c->B):if decide c=true then A else B:=by grind
theorem Vp{c A B:Prop} [Decidable c] (h1:¬c->A) (h2:c->B):if (!decide c)=true then A else B:=by grind
theorem IL{b:Bool}{A B:Prop}(h1:b=true->A)(h2:b=false->B):if b=true then A else B:=by grind
theorem SF{ns:List Int}{i:Int}(h0 : 0<=i)(h1:i < (ns.map V.int).length):atI (ns.map V.int) i=some (.int (ns.getD i.toNat 0)):=by
 obtain⟨j,rfl⟩:=yK h0;rw[xA] at h1;refine Y8 ?_;rw[xI,yR,xZ,xB (by lia)];rfl
end L2
namespace L2
open PySem PySem.Spec PyProof.Rows
def Nm(sc:Scope)(x:Str)(k:NameKind):Prop:=sc.names.lookup x=some k/\(x == ("__debug__" : Str))=false/\(x == ("__classdict__" : Str))=false/\x ≠ "__name__"
instance (sc:Scope) (x:Str) (k:NameKind):Decidable (Nm sc x k):=by unfold Nm;exact inferInstance
section
variable{X:Cx}{x:Str}{pos:Pos}
theorem al1{α:Type _}{P:List α->Prop}(k:∀a,P [a]):∀l:List α,l.length=1->P l
 | [a],_=>k a
theorem al2{α:Type _}{P:List α->Prop}(k:∀a b,P [a,b]):∀l:List α,l.length=2->P l
 | [a,b],_=>k a b
theorem al3{α:Type _}{P:List α->Prop}(k:∀a b c,P [a,b,c]):∀l:List α,l.length=3->P l
 | [a,b,c],_=>k a b c
theorem al4{α:Type _}{P:List α->Prop}(k:∀a b c d,P [a,b,c,d]):∀l:List α,l.length=4->P l
 | [a,b,c,d],_=>k a b c d
theorem al5{α:Type _}{P:List α->Prop}(k:∀a b c d e,P [a,b,c,d,e]):∀l:List α,l.length=5->P l
 | [a,b,c,d,e],_=>k a b c d e
theorem al6{α:Type _}{P:List α->Prop}(k:∀a b c d e f,P [a,b,c,d,e,f]):∀l:List α,l.length=6->P l
 | [a,b,c,d,e,f],_=>k a b c d e f
theorem al7{α:Type _}{P:List α->Prop}(k:∀a b c d e f g,P [a,b,c,d,e,f,g]):∀l:List α,l.length=7->P l
 | [a,b,c,d,e,f,g],_=>k a b c d e f g
theorem al8{α:Type _}{P:List α->Prop}(k:∀a b c d e f g h,P [a,b,c,d,e,f,g,h]):∀l:List α,l.length=8->P l
 | [a,b,c,d,e,f,g,h],_=>k a b c d e f g h
def nmB(X:Cx)(x:Str)(k:NameKind):Bool:=decide (Nm X.env.scope x k)
def ndB(X:Cx):Bool:=decide X.N.Nodup
abbrev nB(X:Cx)(x:Str)(k:NameKind):Prop:=nmB X x k=true
abbrev nD(X:Cx):Prop:=ndB X=true
theorem od [Decidable p] (h:decide p=true):p:=of_decide_eq_true h
theorem fsc{N P:dX}{sc:Scope}(a:sc.kind = .function:=by rfl)(h:decide (sc.isCoroutine=false/\sc.isGenerator=false/\N.Nodup/\N.take P.length=P/\(∀x∈P,sc.names.lookup x=some .local\/sc.names.lookup x=some .cell)/\∀y∈sc.names,y.2 ≠ .free)=true:=by kernel_rfl):ZM N P sc :=
 have ⟨b,c,d,e,f,g⟩:=od h;⟨a,b,c,d,e,f,g⟩
theorem pvN(i:Nat)(n:Nm X.env.scope x .local)(hN:X.N[i]? = some x:=by rfl):PE X (.Name x pos) (YH i):=Di hN (.inl n.1) n.2.1 n.2.2.1
theorem pvC(i:Nat)(n:Nm X.env.scope x .cell)(hN:X.N[i]? = some x:=by rfl):PE X (.Name x pos) (YH i):=Di hN (.inr (.inl n.1)) n.2.1 n.2.2.1
theorem ND(n:Nm X.env.scope x .globalImplicit)(hm:X.mg x=some u)(r:ZG v u):PE X (.Name x pos) (tC v):=XR n.1 hm r n.2.1
theorem Lq(n:Nm X.env.scope x .globalImplicit)(hm:X.mg x=none)(hv:bootBuiltins x=some u)(r:ZG v u):PE X (.Name x pos) (tC v):=Np n.1 hm hv r n.2.2.2 n.2.1
theorem SE{k:Nat}{ps:dX}{sp:Sp}{p:Pos}{e:Expr}{es:List Expr}{t:TA}(F:Fn X.prog X.w X.K X.mg X.base x ps k sp)(hr:ZL k X.A)(n:Nm X.env.scope x .globalImplicit)(ha:PA X (e::es) t)(he:starEach (e::es) X.env=(false,eval e X.env)::starEach es X.env:=by rfl)(hpl:(backTo pos (starEach es X.env)).any (·.1)=false:=by rfl) :
  PE X (.Call (.Name x p) (e::es) [] pos) (JF sp t):=Mb F hr n.1 ha n.2.1 he hpl
theorem Oj{p:Pos}{e:Expr}{es:List Expr}{t:TA}{id:String}{r:List V->Hp->VK->Prop}(hc:Vg X (.builtin id) r)(n:Nm X.env.scope x .globalImplicit)(hm:X.mg x=none)(hv:bootBuiltins x=some (.builtin id))(ha:PA X (e::es) t)(he:starEach (e::es) X.env=(false,eval e X.env)::starEach es X.env:=by rfl)(hpl:(backTo pos (starEach es X.env)).any (·.1)=false:=by rfl):PE X (.Call (.Name x p) (e::es) [] pos) (Bn r t):=PR hc n.1 hm hv ha n.2.2.2 n.2.1 he hpl
theorem Mj{p:Pos}{e:Expr}{es:List Expr}{t:TA}{T:String}{r:List V->Hp->VK->Prop}(hc:Vg X (.type T) r)(n:Nm X.env.scope x .globalImplicit)(hm:X.mg x=none)(hv:bootBuiltins x=some (.type T))(ha:PA X (e::es) t)(he:starEach (e::es) X.env=(false,eval e X.env)::starEach es X.env:=by rfl)(hpl:(backTo pos (starEach es X.env)).any (·.1)=false:=by rfl):PE X (.Call (.Name x p) (e::es) [] pos) (Bn r t):=Xh hc n.1 hm hv ha n.2.2.2 n.2.1 he hpl
theorem Mr{i:Nat}{e:Expr}{te:TE}{pos':Pos}(hN:X.N.Nodup)(n:Nm X.env.scope x .local)(he:PE X e te)(hi:X.N[i]? = some x:=by rfl)(hs:swapsWith e (some (.Name x pos')) pos.line X.env=pure false:=by rfl) :
  PS X (.Assign [.Name x pos'] e pos) (U0 te (Wg i)):=Hk hN hi (.inl n.1) he hs (.inr n.1)
theorem LK{i:Nat}{e:Expr}{te:TE}{pos':Pos}(hN:X.N.Nodup)(n:Nm X.env.scope x .cell)(he:PE X e te)(hf:X.fn x=true:=by rfl)(hi:X.N[i]? = some x:=by rfl)(hs:swapsWith e (some (.Name x pos')) pos.line X.env=pure false:=by rfl) :
  PS X (.Assign [.Name x pos'] e pos) (U0 te (Wg i)):=Hk hN hi (.inr n.1) he hs (.inl hf)
theorem Oi(hN:X.N.Nodup)(n:Nm X.env.scope x .local)(hi:X.N[i]? = some x:=by rfl):PG X (.Name x pos) (Wg i):=Ed hN hi (.inl n.1) (.inr n.1)
theorem XS{i:Nat}(hN:X.N.Nodup)(n:Nm X.env.scope x .cell)(hf:X.fn x=true:=by rfl)(hi:X.N[i]? = some x:=by rfl):PG X (.Name x pos) (Wg i):=Ed hN hi (.inr n.1) (.inl hf)
end
section
variable{X:Cx}{scope:Scope}{cl:List (Str×eF)}{C:eF}{N':dX}{s0:eB}{H0:Hp}{ex:eA}{pn:List (eF×Obj)}{x:Str}{pos:Pos}
theorem OO(i:Nat)(n:Nm scope x .local:=by decide +kernel)(hN:N'[i]? = some x:=by rfl):PE (ccx X scope cl C N' s0 H0 ex pn) (.Name x pos) (YH i):=pvL i hN n.1 n.2.1 n.2.2.1
theorem R0(i:Nat)(n:Nm scope x .free:=by decide +kernel)(hN:N'[i]? = some x:=by rfl):PE (ccx X scope cl C N' s0 H0 ex pn) (.Name x pos) (YH i):=pvF i hN n.1 n.2.1 n.2.2.1
theorem Lu(i:Nat)(hnd:N'.Nodup)(n:Nm scope x .local:=by decide +kernel)(hN:N'[i]? = some x:=by rfl):PG (ccx X scope cl C N' s0 H0 ex pn) (.Name x pos) (Wg i):=pgL i hnd hN n.1
theorem Pb(n:Nm scope x .globalImplicit:=by decide +kernel):Nm (ccx X scope cl C N' s0 H0 ex pn).env.scope x .globalImplicit:=⟨IQ (by decide) n.1,n.2⟩
theorem nmC(n:Nm scope x .globalImplicit:=by decide +kernel):nB (ccx X scope cl C N' s0 H0 ex pn) x .globalImplicit:=yN (Pb n)
theorem WE.consN{j:Nat}{fr:List (Str×Nat)}(n:Nm X.env.scope x .cell)(t:WE X scope fr)(m:Nm scope x .free:=by decide +kernel)(h1:X.N[j]? = some x:=by rfl):WE X scope ((x,j)::fr):=.cons h1 (.inl n.1) m.1 t
end
end L2
namespace L2
open PySem PySem.Spec PyProof.Rows
def cs(x:Str):List Nat:=x.cps.toList
theorem Vh(x:Str):(cs x).length=x.length:=by unfold cs;exact Array.length_toList
theorem Cq(x y:Str):cs (x++y)=cs x++cs y:=by unfold cs;rw[PySem.Str.cps_append,Array.toList_append]
theorem Il(l:List Nat):cs ⟨l.toArray⟩=l:=by unfold cs;simp
theorem IE(xs:List Nat)(lo:Nat):∀m,lo+m<=xs.length->((List.range m).map (lo + ·)).filterMap (xs[·]?)=(xs.drop lo).take m:=by
 intro m
 induction m with
 | zero=>intro _;simp
 | succ m ih =>
  intro h;rw[List.range_succ,xO,List.filterMap_append,ih (by lia),xV,List.getElem?_drop];have:lo+m < xs.length:=by lia
  simp[xB this]
theorem EM(x:Str)(h : 0<=i):cs (Txt.slice x none (some i))=(cs x).take i.toNat:=by
 have hl:=Vh x;have e:Builtin.Str.strSliceIndices none (some i) 1 x.length=(List.range (min i.toNat x.length)).map (0 + ·):=by
  unfold Builtin.Str.strSliceIndices sliceRange;simp only[show (1:Int) > 0 by decide,if_true];have e1:(if i < 0 then i+(x.length:Int) else i)=i:=if_neg (by lia);rw[e1];have e2:(if (0:Int) < max 0 (min i (x.length:Int)) then (max 0 (min i (x.length:Int)) - 0+1 - 1) / 1 else 0).toNat=min i.toNat x.length:=by
   split<;>(try simp only[Int.ediv_one])<;>lia
  rw[e2];apply List.map_congr_left;intro k _;lia
 unfold Txt.slice;rw[e];split
 ·rename_i hc;have hc:((List.range (min i.toNat x.length)).map (0 + ·)).length=x.length:=by simpa using hc
  rw[xA,List.length_range] at hc;rw[yU (by lia)]
 ·rw[Il];have:=IE (cs x) 0 (min i.toNat x.length) (by lia);rw[List.drop_zero] at this;have e3:(cs x).take (min i.toNat x.length)=(cs x).take i.toNat:=by
   rw[← hl]
   by_cases h1:i.toNat<=(cs x).length
   ·rw[Nat.min_eq_left h1]
   ·rw[Nat.min_eq_right (by lia),yU (by lia),yU (by lia)]
  rw[← e3,← this];congr 1;funext k;unfold cs;simp
theorem NX(x:Str)(h : 0<=i):cs (Txt.slice x (some i) none)=(cs x).drop i.toNat:=by
 have hl:=Vh x;have e:Builtin.Str.strSliceIndices (some i) none 1 x.length=(List.range (x.length - min i.toNat x.length)).map (min i.toNat x.length + ·):=by
  unfold Builtin.Str.strSliceIndices sliceRange;simp only[show (1:Int) > 0 by decide,if_true];have e1:(if i < 0 then i+(x.length:Int) else i)=i:=if_neg (by lia);rw[e1];have e2:(if max 0 (min i (x.length:Int)) < (x.length:Int) then ((x.length:Int) - max 0 (min i (x.length:Int))+1 - 1) / 1 else 0).toNat=x.length - min i.toNat x.length:=by
   split<;>(try simp only[Int.ediv_one])<;>lia
  rw[e2];apply List.map_congr_left;intro k _;lia
 unfold Txt.slice;rw[e];split
 ·rename_i hc;have hc:((List.range (x.length - min i.toNat x.length)).map (min i.toNat x.length + ·)).length=x.length:=by simpa using hc
  rw[xA,List.length_range] at hc
  by_cases h0:i.toNat=0
  ·rw[h0,List.drop_zero]
  ·have:x.length=0:=by lia
   rw[zL (by lia)];exact List.length_eq_zero_iff.mp (by lia)
 ·rw[Il];have:=IE (cs x) (min i.toNat x.length) (x.length - min i.toNat x.length) (by lia);have e3:((cs x).drop (min i.toNat x.length)).take (x.length - min i.toNat x.length)=(cs x).drop i.toNat:=by
   rw[yU (by rw[zU];lia)]
   by_cases h1:i.toNat<=x.length
   ·rw[Nat.min_eq_left h1]
   ·rw[Nat.min_eq_right (by lia),zL (by lia),zL (by lia)]
  rw[← e3,← this];congr 1;funext k;unfold cs;simp
theorem OE:∀ys:List Str,cs (Txt.join "" ys)=(ys.map cs).flatten:=by
 have go:∀(ys:dX)(a:Array Nat),(ys.foldl (fun acc p=>acc++(("" : Str)).cps++p.cps) a).toList=a.toList++(ys.map cs).flatten:=by
  intro ys
  induction ys with
  | nil=>intro a;simp
  | cons y r ih =>
   intro a;rw[List.foldl_cons,ih];have:(("" : Str)).cps = #[]:=by decide +kernel
   rw[this];simp[cs]
 intro ys;show (cs (Builtin.Str.glued "" ys))=_;unfold Builtin.Str.glued;cases ys with
 | nil=>decide +kernel
 | cons y r =>
  show (List.foldl _ y.cps r).toList=_;rw[go];rfl
def Bq(x:Str):Prop:=∀c∈cs x,97<=c/\c<=122
def letters:Str:="abcdefghijklmnopqrstuvwxyz"
theorem Lm:cs letters=(List.range 26).map (97 + ·):=by decide +kernel
theorem E3(h0 : 0<=d)(h1:d < 26):atI letters.cps.toList d=some (97+d.toNat):=by
 obtain⟨j,rfl⟩:=yK h0;refine Y8 ?_;show (cs letters)[j]? = _;rw[Lm,xI,zV (by lia)];rfl
theorem B3{J:It}{nl:Nat}{fv:St}{g:TG}{tt:Tz}{te:TE}{Q:VK}{H:Hp}{xs:List V}(Pv:Nat->List V->Hp->Prop)(h0:Pv 0 [] H)(hn:xs.length<=1000000)(hgo:∀i H ys,i < xs.length->Pv i ys H->J.go i H)(hy:∀i H x H' ys,i < xs.length->Pv i ys H->J.yld i H x H'->H'=H/\xs[i]? = some x)(hst:∀H ys,Pv xs.length ys H->J.stop xs.length H)(hlen:∀i ys H,Pv i ys H->ys.length<=i)(step:∀i x ys H,xs[i]? = some x->Pv i ys H->Vt nl fv g tt te x H (fun y H'=>Pv (i+1) (ys ++ [y]) H') fun H'=>Pv (i+1) ys H')(hd:∀ys H,Pv xs.length ys H->∀l,H l=none->Q (.ref l) (upd H l (.lst ys))) :
  Ur J nl fv g tt te Q H:=by
 have mono:∀{x:V}{H:Hp}{Y Y':V->Hp->Prop}{N N':Hp->Prop},Vt nl fv g tt te x H Y N->Y=Y'->N=N'->Vt nl fv g tt te x H Y' N':=fun h e1 e2=>by subst e1;subst e2;exact h
 refine⟨fun i m ys H=>m=xs.length - i/\i<=xs.length/\Pv i ys H,⟨xs.length,by simp,yL _,h0⟩,?_⟩;rintro i m ys H ⟨rfl,hi,p⟩;have hl:=hlen i ys H p;have hz:(1000000:Nat) < sizeLine:=by decide
 by_cases hlt:i < xs.length
 ·refine .inr ⟨hgo i H ys hlt p,by lia,xs.length - (i+1),by lia,fun x H' y=>?_⟩;obtain⟨e,ex⟩:=hy i H x H' ys hlt p y;subst e;refine mono (step i x ys _ ex p) ?_ ?_
  ·funext y H4;apply propext;exact⟨fun q=>⟨rfl,hlt,q⟩,fun q=>q.2.2⟩
  ·funext H3;apply propext;exact⟨fun q=>⟨rfl,hlt,q⟩,fun q=>q.2.2⟩
 ·have e:i=xs.length:=by lia
  subst e;exact .inl ⟨hst H ys p,by lia,hd ys H p⟩
def Bu(lo:Int)(n:Nat):List V:=(List.range n).map fun k=>V.int (lo+(k:Nat))
theorem Bl(lo:Int)(n:Nat):(Bu lo n).length=n:=by simp[Bu]
theorem Xy{lo:Int}{n i:Nat}{x:V}(h:(Bu lo n)[i]? = some x):i < n/\x = .int (lo+(i:Nat)):=by
 have hi:i < n:=by have:=(xH.mp h).1;rwa [Bl] at this
 refine⟨hi,?_⟩;unfold Bu at h;rw[xI,zV hi] at h;exact(Option.some.inj h).symm
theorem Po{lo:Int}{n:Nat}{nl:Nat}{fv:St}{g:TG}{tt:Tz}{te:TE}{Q:VK}{H:Hp}(Pv:Nat->List V->Hp->Prop)(h0:Pv 0 [] H)(hn:n<=1000000)(hlen:∀i ys H,Pv i ys H->ys.length<=i)(step:∀i ys H,i < n->Pv i ys H->Vt nl fv g tt te (.int (lo+(i:Nat))) H (fun y H'=>Pv (i+1) (ys ++ [y]) H') fun H'=>Pv (i+1) ys H')(hd:∀ys H,Pv n ys H->∀l,H l=none->Q (.ref l) (upd H l (.lst ys))) :
  Ur (JT lo n) nl fv g tt te Q H:=by
 refine B3 (xs:=Bu lo n) Pv h0 (by rw[Bl];exact hn) ?_ ?_ ?_ hlen ?_ ?_
 ·intro i H ys hi _;rw[Bl] at hi;exact hi
 ·rintro i H x H' ys hi _ ⟨rfl,rfl⟩;rw[Bl] at hi;refine⟨rfl,?_⟩;unfold Bu;rw[xI,zV hi];rfl
 ·intro H ys _;rw[Bl];exact xD _
 ·intro i x ys H hx p;obtain⟨hi,rfl⟩:=Xy hx;exact step i ys H hi p
 ·intro ys H p;rw[Bl] at p;exact hd ys H p
theorem Jm{K:uFg}{a:eF}{xs:List V}{nl:Nat}{fv:St}{g:TG}{tt:Tz}{te:TE}{Q:VK}{H:Hp}(Pv:Nat->List V->Hp->Prop)(h0:Pv 0 [] H)(hn:xs.length<=1000000)(hl:∀i ys H,i<=xs.length->Pv i ys H->ZE K H a xs)(hlen:∀i ys H,Pv i ys H->ys.length<=i)(step:∀i x ys H,xs[i]? = some x->Pv i ys H->Vt nl fv g tt te x H (fun y H'=>Pv (i+1) (ys ++ [y]) H') fun H'=>Pv (i+1) ys H')(hd:∀ys H,Pv xs.length ys H->∀l,H l=none->Q (.ref l) (upd H l (.lst ys))) :
  Ur (Jx K a) nl fv g tt te Q H:=by
 refine B3 (xs:=xs) Pv h0 hn ?_ ?_ ?_ hlen step hd
 ·intro i H ys hi p;exact⟨xs,xs[i],hl i ys H (zC hi) p,by simp[hi]⟩
 ·rintro i H x H' ys hi p ⟨rfl,y⟩;exact⟨rfl,y xs (hl i ys _ (zC hi) p)⟩
 ·intro H ys p;exact⟨xs,hl _ ys H (xD _) p,xD _⟩
theorem Qd(Pv:Nat->List V->Hp->Prop)(h0:Pv 0 [] H)(hn:x.length<=1000000)(hlen:∀i ys H,Pv i ys H->ys.length<=i)(step:∀i ys H,i < x.length->Pv i ys H->Vt nl fv g tt te (sgn x i) H (fun y H'=>Pv (i+1) (ys ++ [y]) H') fun H'=>Pv (i+1) ys H')(hd:∀ys H,Pv x.length ys H->∀l,H l=none->Q (.ref l) (upd H l (.lst ys))) :
  Ur (Eg x) nl fv g tt te Q H:=by
 have ln:((List.range x.length).map fun i=>sgn x i).length=x.length:=by simp
 refine B3 (xs:=(List.range x.length).map fun i=>sgn x i) Pv h0 (by rw[ln];exact hn) ?_ ?_ ?_ hlen ?_ ?_
 ·intro i H ys hi _;rw[ln] at hi;exact hi
 ·rintro i H v H' ys hi _ ⟨rfl,rfl⟩;rw[ln] at hi;refine⟨rfl,?_⟩;rw[xI,zV hi];rfl
 ·intro H ys _;rw[ln];exact rfl
 ·intro i v ys H hx p;have hi:i < x.length:=by have:=(xH.mp hx).1;rwa [ln] at this
  rw[xI,zV hi] at hx;cases hx;exact step i ys H hi p
 ·intro ys H p;rw[ln] at p;exact hd ys H p
theorem Ul{ls:St}(h:ls.length=1):∃a,ls = [a]:=by
 match ls,h with
 | [a],_=>exact⟨a,rfl⟩
theorem Dm{ls:St}(h:ls.length=2):∃a b,ls = [a,b]:=by
 match ls,h with
 | [a,b],_=>exact⟨a,b,rfl⟩
end L2
namespace L2
open PySem PySem.Spec PyProof.Rows
structure QE (X:Cx) (e:Expr) (t:TE):Prop where
 h:PE X e t
structure QT (X:Cx) (e:Expr) (t:TT):Prop where
 h:PT X e t
structure QW (X:Cx) (e:Expr) (t:TT):Prop where
 h:PW X e t
structure QS (X:Cx) (s:Stmt) (t:TS):Prop where
 h:PS X s t
structure WW (X:Cx) (s:List Stmt) (t:TS):Prop where
 h:UW X s t
structure QA (X:Cx) (es:List Expr) (t:TA):Prop where
 h:PA X es t
structure QG (X:Cx) (e:Expr) (t:TG):Prop where
 h:PG X e t
structure AW (X:Cx) (es:List Expr) (t:Jf):Prop where
 h:B6 X es t
structure QI (X:Cx) (tg iter:Expr) (t:TI):Prop where
 h:PI X tg iter t
structure QO (X:Cx) (e:Option Expr) (t:TO):Prop where
 h:PO X e t
structure EC (X:Cx) (es:List Expr) (t:Tz):Prop where
 h:Bf X es t
structure WD (X:Cx) (f:eE->eE->Sem eE) (r:R2):Prop where
 h:YX X f r
structure GT (X:Cx) (f:eE->Sem eE) (r:V->Hp->VK->Prop):Prop where
 h:DG X f r
structure QC (X:Cx) (f:eE) (r:List V->Hp->VK->Prop):Prop where
 h:Vg X f r
theorem QC.imp(h:QC X f r)(i:∀xs H Q,r' xs H Q->r xs H Q):QC X f r':=⟨fun p s σ H x u Q I v k=>h.h p s σ H x u Q I v (i x H Q k)⟩
structure Bk (X:Cx) (r:R2):Prop where
 h:B5 X r
structure EF (X:Cx) (r:V->Option Int->Option Int->Hp->VK->Prop):Prop where
 h:CI X r
structure QM (X:Cx) (id:String) (r:V->List V->Hp->VK->Prop):Prop where
 h:BU X id r
structure BX (X:Cx) (t:Dl):Prop where
 h:Eu X t
section
variable{X:Cx}{a b c:Expr}{ta tb te:TE}{pos p pos':Pos}{st:Stmt}{rest:List Stmt}{t u:TS}{x:Str}{es:List Expr}{e:Expr}
theorem Zn:WW X [] Yu:=⟨Ls⟩
theorem Zc(h1:QS X st t)(h2:WW X rest u):WW X (st::rest) (V9 t u):=⟨L5 h1.h h2.h⟩
theorem Zf(h1:QS X st t):WW X [st] t:=⟨Ss h1.h⟩
theorem Zt(h:QE X e te):QS X (.Return (some e) pos) (Kh te):=⟨Xe h.h⟩
theorem Zo{c:Expr}{a b:List Stmt}{tc:TT}(hc:QT X c tc)(ha:WW X a t)(hb:WW X b u):QS X (.If c a b pos) (BI tc t u):=⟨Rf hc.h ha.h hb.h⟩
theorem Zk(he:QE X e te)(hs:swapsWith e none pos.line X.env=pure false:=by rfl):QS X (.Expr e pos) (De te):=⟨NZ he.h hs⟩
theorem Zz(i:Nat)(he:QE X e te)(hN:nD X:=by kernel_rfl)(n:nB X x .local:=by kernel_rfl)(hi:X.N[i]? = some x:=by rfl)(hs:swapsWith e (some (.Name x pos')) pos.line X.env=pure false:=by rfl) :
  QS X (.Assign [.Name x pos'] e pos) (U0 te (Wg i)):=⟨Mr (od hN) (od n) he.h hi hs⟩
theorem L3{i:Nat}(hN:X.N.Nodup)(n:Nm X.env.scope x .cell)(he:QE X e te)(hf:X.fn x=true:=by rfl)(hi:X.N[i]? = some x:=by rfl)(hs:swapsWith e (some (.Name x pos')) pos.line X.env=pure false:=by rfl) :
  QS X (.Assign [.Name x pos'] e pos) (U0 te (Wg i)):=⟨LK hN n he.h hf hi hs⟩
theorem J0{tg:Expr}{g:TG}(he:QE X e te)(hg:QG X tg g)(hs:swapsWithSole [tg] e pos.line X.env=pure false:=by rfl)(hw:swappedStores [tg] e X.env=pure none:=by rfl)(h1:(assignEach [tg] X.env).map (·.2)= [assign tg X.env]:=by rfl):QS X (.Assign [tg] e pos) (U0 te g):=⟨PB he.h hg.h hs hw h1⟩
def Az(J:It)(g:TG)(tb:TS)(D:YI)(σ:St)(H1:Hp):Prop:=∃W:Nat->Nat->St->Hp->Prop,(∃m,W 0 m σ H1)/\∀i m σ H,W i m σ H ->
 (J.stop i H/\D.nx σ H)\/(J.go i H/\∃N:St->Hp->Prop,(∀ σ' H',N σ' H'->∃m',m' < m/\W (i+1) m' σ' H')/\∀x H',J.yld i H x H'->g x σ H' fun σ2 H2=>tb {D with nx:=N,ct:=N,bk:=D.nx } σ2 H2)
def IF(wi:TI)(g:TG)(tb:TS):TS:=fun D σ H=>wi σ H fun J H1=>Az J g tb D σ H1
theorem Ws(hp:PassesOwn (model X.prog X.w) X.A X.env X.xe)(hc:X.calm=true)(hi:QI X tg iter wi)(hg:QG X tg g)(hb:WW X body t)(hs:∀x,foldedSetIterable iter X.env x=pure x:=by intro _;rfl):QS X (.For tg iter body [] pos) (IF wi g t):=⟨OK hp hc hi.h hg.h hb.h hs⟩
theorem cZ(hp:PassesOwn (model X.prog X.w) X.A X.env X.xe)(hc:QT X c tc)(hb:WW X body t):QS X (.While c body [] pos) (Gw tc t):=⟨LW hp hc.h hb.h⟩
theorem Yt(i:Nat)(hN:nD X:=by kernel_rfl)(n:nB X x .local:=by kernel_rfl)(hi:X.N[i]? = some x:=by rfl):QG X (.Name x pos) (Wg i):=⟨Oi (od hN) (od n) hi⟩
theorem Ro{i:Nat}(hN:X.N.Nodup)(n:Nm X.env.scope x .cell)(hf:X.fn x=true:=by rfl)(hi:X.N[i]? = some x:=by rfl):QG X (.Name x pos) (Wg i):=⟨XS hN n hf hi⟩
theorem Ju:AW X [] Dv:=⟨Xf⟩
theorem Wo{t:TG}{u:Jf}(h1:QG X e t)(h2:AW X es u)(hs:(assignEach (e::es) X.env).map (·.2)=assign e X.env::(assignEach es X.env).map (·.2):=by rfl):AW X (e::es) (VR t u):=⟨RJ h1.h h2.h hs⟩
theorem C7{k:Nat}{t:Jf}{n:Nat}(hc:X.calm=true)(h:AW X es t)(hn:(assignEach es X.env).length=n:=by rfl)(hst:(assignEach es X.env).findIdx? (·.1)=none:=by rfl):QG X (.Tuple es k pos) (Jg X.K n t):=⟨HS hc h.h hn hst⟩
theorem Bs{o i:Expr}{to ti:TE}{t:Dl}(ho:QE X o to)(hi:QE X i ti)(hs:BX X t)(ha:∀v,assign (.Subscript o i pos) X.env v=(do
   let ov ← holding [v] (eval o X.env)
   let iv ← holding [v,ov] (eval i X.env)
   standAt pos
   holding [v,ov,iv] (setItem ov iv v)
   release [v,ov,iv] []):=by intro _;rfl):QG X (.Subscript o i pos) (Fs to ti t):=⟨OA ho.h hi.h hs.h ha⟩
theorem Bm:BX X JU:=⟨Ra⟩
variable{tg:Expr}
theorem Wb(hl:QE X l te):QI X tg l (Gx X.K te):=⟨QN hl.h⟩
theorem Hf(hl:QE X l te):QI X tg l (FU X.K te):=⟨NK hl.h⟩
theorem So(hl:QE X l te):QI X tg l (Iv te):=⟨NL hl.h⟩
theorem Au{a:Expr}{ta:TA}(hm:X.mg "range" = none)(ha:QA X [a] ta)(hg:nB X "range" .globalImplicit:=by kernel_rfl)(hs:starEach [a] X.env = [(false,eval a X.env)]:=by rfl):QI X tg (.Call (.Name "range" p) [a] [] pos) (G0 ta):=⟨RU (od hg).1 hm ha.h hs⟩
theorem Zb:QA X [] Vl:=⟨LO⟩
theorem Za{t:TA}(ha:QE X e te)(hr:QA X es t)(hs:starEach (e::es) X.env=(false,eval e X.env)::starEach es X.env:=by rfl):QA X (e::es) (V2 te t):=⟨PU ha.h hr.h hs⟩
theorem Z9 {x1} {t:TA}(h:QA X es t):QE X (.Tuple es x1 pos) (FG t):=⟨Mm h.h⟩
theorem Yl{t:TA}(h:QA X es t):QE X (.List es pos) (Lg t):=⟨bY h.h⟩
theorem Vk(ha:QT X a tA):QT X (.UnaryOp .Not a pos) (Gg tA):=⟨PX ha.h⟩
theorem QW.pt(h:QW X e tA):QT X e tA:=⟨PW.pt h.h⟩
theorem Us(ha:QT X a tA):QW X (.BoolOp .And [a] pos) tA:=⟨Oz ha.h⟩
theorem EO(ha:QT X a tA):QW X (.BoolOp .Or [a] pos) tA:=⟨LN ha.h⟩
theorem Vv{rest:List Expr}(ha:QT X a tA)(hb:QW X (.BoolOp .And (b::rest) pos) tB'):QW X (.BoolOp .And (a::b::rest) pos) (HQ tA tB'):=⟨Mz ha.h hb.h⟩
theorem Dy{rest:List Expr}(ha:QT X a tA)(hb:QW X (.BoolOp .Or (b::rest) pos) tB'):QW X (.BoolOp .Or (a::b::rest) pos) (K3 tA tB'):=⟨bV ha.h hb.h⟩
theorem Zr(ho:WD X (compareOp op) r)(ha:QE X a ta)(hb:QE X b tb)(hm:behindInMarks op b=false):QT X (.Compare a [op] [b] pos) (A5 (Tx r ta tb)):=⟨Lo ho.h ha.h hb.h hm⟩
theorem Ut(ho:WD X (compareOp op) r)(ha:QE X a ta)(hb:QE X b tb)(hm:behindInMarks op b=false):QE X (.Compare a [op] [b] pos) (Tx r ta tb):=⟨QB ho.h ha.h hb.h hm⟩
theorem Fj(ho:WD X (compareOp op) r)(ho':WD X (compareOp op') r')(ha:QE X a ta)(hb:QE X b tb)(hc:QE X c tc)(hm:lastMarks [op,op'] [b,c]=false:=by with_unfolding_all rfl):QE X (.Compare a [op,op'] [b,c] pos) (Dr r r' ta tb tc):=⟨Qs ho.h ho'.h ha.h hb.h hc.h hm⟩
theorem Al(ho:WD X (compareOp op) r)(ho':WD X (compareOp op') r')(ha:QE X a ta)(hb:QE X b tb)(hc:QE X c tc)(hm:lastMarks [op,op'] [b,c]=false:=by with_unfolding_all rfl):QT X (.Compare a [op,op'] [b,c] pos) (A5 (Dr r r' ta tb tc)):=⟨RN ho.h ho'.h ha.h hb.h hc.h hm⟩
theorem Wt(h:QE X e te)(he:∀whole,isTrue e X.env whole=(do let v ← whole;standAt e.pos;holding [v] (truthy v)):=by intro _;rfl):QT X e (tB te):=⟨Sf h.h he⟩
theorem Zd {i j pos}:QE X (.Constant (.int i) j pos) (tC (.int i)):=⟨Xg⟩
theorem Uf {b j pos}:QE X (.Constant (.bool b) j pos) (tC (.bl b)):=⟨Ou⟩
theorem Y3 {j pos}:QE X (.Constant .none j pos) (tC .non):=⟨On⟩
theorem Z7 {x j pos}:QE X (.Constant (.str x) j pos) (tC (.str x)):=⟨cW⟩
theorem qvN(i:Nat)(n:nB X x .local:=by kernel_rfl)(hN:X.N[i]? = some x:=by rfl):QE X (.Name x pos) (YH i):=⟨pvN i (od n) hN⟩
abbrev Q0{X x p}:=@qvN X x p 0
abbrev Q1{X x p}:=@qvN X x p 1
abbrev Q2{X x p}:=@qvN X x p 2
abbrev Q3{X x p}:=@qvN X x p 3
abbrev Q4{X x p}:=@qvN X x p 4
abbrev Q5{X x p}:=@qvN X x p 5
abbrev Q6{X x p}:=@qvN X x p 6
abbrev Q7{X x p}:=@qvN X x p 7
theorem qvC(i:Nat)(n:Nm X.env.scope x .cell)(hN:X.N[i]? = some x:=by rfl):QE X (.Name x pos) (YH i):=⟨pvC i n hN⟩
theorem Y4{v:V}{u:eE}(hm:X.mg x=some u)(r:ZG v u)(n:nB X x .globalImplicit:=by kernel_rfl):QE X (.Name x pos) (tC v):=⟨ND (od n) hm r⟩
theorem V3{v:V}{u:eE}(hm:X.mg x=none)(hv:bootBuiltins x=some u)(r:ZG v u)(n:nB X x .globalImplicit:=by kernel_rfl):QE X (.Name x pos) (tC v):=⟨Lq (od n) hm hv r⟩
theorem Z2(ho:WD X (binaryOp op) r)(ha:QE X a ta)(hb:QE X b tb):QE X (.BinOp a op b pos) (Tx r ta tb):=⟨RG ho.h ha.h hb.h⟩
theorem J5(ho:GT X (unaryOp op) r)(ha:QE X a ta):QE X (.UnaryOp op a pos) (Ib r ta):=⟨Mq ho.h ha.h⟩
theorem Me(ha:QE X a ta):QE X (.UnaryOp .Not a pos) (K7 ta):=⟨XC ha.h⟩
theorem A3 {op} (h:QE X a ta):QE X (.BoolOp op [a] pos) ta:=⟨MP h.h⟩
theorem AK{rest:List Expr}(ha:QE X a ta)(hb:QE X (.BoolOp .And (b::rest) pos) tb):QE X (.BoolOp .And (a::b::rest) pos) (GO ta tb):=⟨PV ha.h hb.h⟩
theorem ME(hc:QT X c tA)(ha:QE X a ta)(hb:QE X b tb):QE X (.IfExp c a b pos) (KG tA ta tb):=⟨Mp hc.h ha.h hb.h⟩
theorem JC:QO X none FC:=⟨Pj⟩
theorem JH(h:QE X e te):QO X (some e) (HU te):=⟨Rl h.h⟩
theorem JB{lo hi:Option Expr}{tl th:TO}{r:V->Option Int->Option Int->Hp->VK->Prop}(hr:EF X r)(he:QE X e te)(hl:QO X lo tl)(hu:QO X hi th):QE X (.Subscript e (.Slice lo hi none p2) pos) (FR r te tl th):=⟨MK hr.h he.h hl.h hu.h⟩
theorem Zi(hr:Bk X r)(ha:QE X a ta)(hb:QE X b tb)(hs:Kq b):QE X (.Subscript a b pos) (Tx r ta tb):=⟨Xr hr.h ha.h hb.h hs⟩
theorem Zj{k:Nat}{ps:dX}{sp:Sp}{t:TA}(F:Fn X.prog X.w X.K X.mg X.base x ps k sp)(ha:QA X (e::es) t)(hr:ZL k X.A:=by exact ZL.mono (by assumption) (by first | decide | lia))(n:nB X x .globalImplicit:=by kernel_rfl)(he:starEach (e::es) X.env=(false,eval e X.env)::starEach es X.env:=by rfl)(hpl:(backTo pos (starEach es X.env)).any (·.1)=false:=by rfl) :
  QE X (.Call (.Name x p) (e::es) [] pos) (JF sp t):=⟨SE F hr (od n) ha.h he hpl⟩
theorem Z3{t:TA}{id:String}{r:List V->Hp->VK->Prop}(hc:QC X (.builtin id) r)(hm:X.mg x=none)(hv:bootBuiltins x=some (.builtin id))(ha:QA X (e::es) t)(n:nB X x .globalImplicit:=by kernel_rfl)(he:starEach (e::es) X.env=(false,eval e X.env)::starEach es X.env:=by rfl)(hpl:(backTo pos (starEach es X.env)).any (·.1)=false:=by rfl):QE X (.Call (.Name x p) (e::es) [] pos) (Bn r t):=⟨Oj hc.h (od n) hm hv ha.h he hpl⟩
theorem Um{t:TA}{T:String}{r:List V->Hp->VK->Prop}(hc:QC X (.type T) r)(hm:X.mg x=none)(hv:bootBuiltins x=some (.type T))(ha:QA X (e::es) t)(n:nB X x .globalImplicit:=by kernel_rfl)(he:starEach (e::es) X.env=(false,eval e X.env)::starEach es X.env:=by rfl)(hpl:(backTo pos (starEach es X.env)).any (·.1)=false:=by rfl):QE X (.Call (.Name x p) (e::es) [] pos) (Bn r t):=⟨Mj hc.h (od n) hm hv ha.h he hpl⟩
theorem Y0{o:Expr}{to:TE}{t:TA}{name:Str}{apos cpos:Pos}{T id:String}{r:V->List V->Hp->VK->Prop}(pa:PlainAttrs T)(slot:Slot T name id)(hty:typeOf (.builtin id)=pure (.type "method_descriptor"))(hm:QM X id r)(ho:QE X o to)(ha:QA X (e::es) t)(hbase:attributeBase o name X.env (eval o X.env)=eval o X.env:=by rfl)(hfew:((backTo cpos (starEach (e::es) X.env)).all (fun x=>!x.1) && (backToKw cpos (keywordEach [] X.env)).all (fun x=>x.1.isSome)
   && decide ((e::es).length+([]:List Keyword).length+(if ([]:List Keyword).isEmpty then 0 else 1) < 30))=true:=by rfl)(hline:(apos.endLine == cpos.line)=true:=by rfl)(hs:starEach (e::es) X.env=(false,eval e X.env)::starEach es X.env:=by rfl)(hplain:(backTo cpos (starEach es X.env)).any (·.1)=false:=by rfl) :
  QE X (.Call (.Attribute o name apos) (e::es) [] cpos) (Dn X.K T r to t):=⟨Pk pa slot hty hm.h ho.h ha.h hbase hfew hline hs hplain⟩
theorem Wc:WD X (binaryOp .Add) (UQ fun i j=>.int (i+j)):=⟨Mw⟩
theorem Ah:WD X (binaryOp .Sub) (UQ fun i j=>.int (i - j)):=⟨RV⟩
theorem FJ:WD X (binaryOp .Mult) (rI TR fun i j=>.int (i * j)):=⟨Q8⟩
theorem Dq:WD X (binaryOp .FloorDiv) (rI Dz fun i j=>.int (i / j)):=⟨RY⟩
theorem Bi:WD X (binaryOp .Mod) (rI (fun _ j=>0 < j) fun i j=>.int (i % j)):=⟨RW⟩
theorem OI:WD X (binaryOp .Pow) (rI DX fun i j=>.int (i ^ j.toNat)):=⟨cS⟩
theorem Jz:GT X (unaryOp .USub) (rU fun i=>.int (-i)):=⟨RE⟩
def cT(g:Str->Str->V):R2:=fun x y H Q=>∃i j,x = .str i/\y = .str j/\Q (g i j) H
theorem HM:WD X (compareOp .LtE) (cT fun i j=>.bl (!decide (j.cps.toList < i.cps.toList))):=⟨PN⟩
def Nt:R2:=fun x y H Q=>∃i j,x = .str i/\y = .str j/\i.length+j.length<=sizeLine/\Q (.str (i++j)) H
theorem Cj:WD X (binaryOp .Add) Nt:=⟨RM⟩
theorem Jq:WD X (binaryOp .Add) BM:=⟨Nd⟩
theorem LU:WD X (binaryOp .Mult) BZ:=⟨Pn⟩
theorem Ym:WD X (compareOp .Eq) BE:=⟨QU⟩
theorem E6:WD X (compareOp .NotEq) KS:=⟨MC⟩
theorem Uu:WD X (compareOp .Lt) (UQ fun i j=>.bl (decide (i < j))):=⟨PL⟩
theorem Wh:WD X (compareOp .LtE) (UQ fun i j=>.bl (decide (i<=j))):=⟨XZ⟩
theorem Am:WD X (compareOp .Gt) (UQ fun i j=>.bl (decide (j < i))):=⟨Mg⟩
theorem Af:WD X (compareOp .GtE) (UQ fun i j=>.bl (decide (j<=i))):=⟨Sx⟩
def Qo:R2:=fun x y H Q=>y = .non/\Q (.bl (decide (x = .non))) H
def Md:R2:=fun x y H Q=>y = .non/\Q (.bl (!decide (x = .non))) H
theorem FM:WD X (compareOp .Is) Qo:=⟨Qc⟩
theorem JS:WD X (compareOp .IsNot) Md:=⟨LB⟩
theorem FF:WD X (compareOp .In) (Dt X.K false):=⟨Lw⟩
theorem HD:WD X (compareOp .NotIn) (Dt X.K true):=⟨Nk⟩
theorem Yb:Bk X (Av X.K):=⟨GZ⟩
theorem Zv:Bk X (J6 X.K):=⟨IX⟩
theorem DU:Bk X B0:=⟨Qm⟩
theorem BV:EF X (B2 X.K):=⟨Si⟩
def XG:V->Option Int->Option Int->Hp->VK->Prop:=fun x lo hi H Q=>∃z,x = .str z/\z.length<=sizeLine/\Q (.str (Txt.slice z lo hi)) H
theorem CS:EF X XG:=⟨Lr⟩
inductive J9(K:uFg)(xs:List V)(H:Hp)(Q:VK):Prop
 |mk(p ys)(_:xs = [.ref p])(_:(ZE K H p ys\/ZT K H p ys))(_:Q (.int ys.length) H)
theorem Yv:QC X (.builtin "len") (J9 X.K):=.imp ⟨PP⟩ fun _ _ _ ⟨p,y,a,b,k⟩=>⟨p,y,a,b,k⟩
def Qu:List V->Hp->VK->Prop:=fun xs H Q=>∃z,xs = [.str z]/\z.length<=sizeLine/\Q (.int z.length) H
theorem Ek:QC X (.builtin "len") Qu:=⟨SK⟩
def Xz:List V->Hp->VK->Prop:=fun xs H Q=>∃i j,xs = [.int i,.int j]/\Q (.int (if j > i then j else i)) H
def Nj:List V->Hp->VK->Prop:=fun xs H Q=>∃i j,xs = [.int i,.int j]/\Q (.int (if j < i then j else i)) H
theorem DV(hc:X.calm=true):QC X (.builtin "max") Xz:=⟨XQ hc⟩
theorem Rq(hc:X.calm=true):QC X (.builtin "min") Nj:=⟨Nn hc⟩
def dA(K:uFg):List V->Hp->VK->Prop:=fun xs H Q=>∃(a:eF)(bs:List Bool),xs = [.ref a]/\ZE K H a (bs.map V.bl)/\Q (.bl (bs.all id)) H
theorem Ny(hc:X.calm=true):QC X (.builtin "all") (dA X.K):=⟨OH hc⟩
def RL(K:uFg):List V->Hp->VK->Prop:=fun xs H Q=>∃(a:eF)(ns:List Int),xs = [.ref a]/\ZE K H a (ns.map V.int)/\(∀n∈ns,-1000000000<=n/\n<=1000000000)/\ns.length<=1000000/\Q (.int ns.sum) H
theorem CJ(hc:X.calm=true):QC X (.builtin "sum") (RL X.K):=⟨Sj hc⟩
def FZ(K:uFg):List V->Hp->VK->Prop:=fun xs H Q=>∃x n t b,xs = [x,.ty n]/\YY K H x t/\PySem.W.kitOne K t (.type n)=some b/\Q (.bl b) H
theorem Jk:QC X (.builtin "isinstance") (FZ X.K):=⟨Ko⟩
inductive Tv(K:uFg)(xs:List V)(H:Hp)(Q:VK):Prop
 |mk(p ys)(_:xs = [.ref p])(_:(ZE K H p ys\/ZT K H p ys))(_:∀l,H l=none->Q (.ref l) (upd H l (.lst ys)))
theorem Ak:QC X (.type "list") (Tv X.K):=.imp ⟨Fl⟩ fun _ _ _ ⟨p,y,a,b,k⟩=>⟨p,y,a,b,k⟩
def S9(K:uFg):V->List V->Hp->VK->Prop:=fun x xs H Q=>∃sep a ys,x = .str sep/\xs = [.ref a]/\ZE K H a (ys.map V.str)/\(ys.map (·.length)).sum+ys.length * sep.length<=16777216/\Q (.str (Txt.join sep ys)) H
theorem RD:QM X "str.join" (S9 X.K):=⟨MB⟩
theorem Y9:QM X "list.append" WX:=⟨Qk⟩
theorem LH:QM X "list.pop" TZ:=⟨SX⟩
end
theorem Bb{lo:Int}{n:Nat}(m:Nat)(hm:n=m)(Pv:Nat->St->Hp->Prop)(h0:Pv 0 σ H)(hs:∀i σ H,i < m->Pv i σ H->g (.int (lo+i)) σ H fun σ2 H2=>tb {D with nx:=Pv (i+1),ct:=Pv (i+1),bk:=D.nx } σ2 H2)(hd:∀ σ H,Pv m σ H->D.nx σ H):Az (JT lo n) g tb D σ H:=by
 subst hm;exact PD Pv h0 hs hd
theorem V0{K:uFg}{a:eF}(xs:List V)(Pv:Nat->St->Hp->Prop)(h0:Pv 0 σ H)(hl:∀i σ H,i<=xs.length->Pv i σ H->ZE K H a xs)(hs:∀i x σ H,xs[i]? = some x->Pv i σ H->g x σ H fun σ2 H2=>tb {D with nx:=Pv (i+1),ct:=Pv (i+1),bk:=D.nx } σ2 H2)(hd:∀ σ H,Pv xs.length σ H->D.nx σ H):Az (Jx K a) g tb D σ H:=QD Pv h0 hl hs hd
section
variable{X:Cx}{tg elt iter:Expr}{ifs:List Expr}{scope:Scope}{pos:Pos}{locs:dX}{fr:List (Str×Nat)}{g:TG}{tt:Tz}{te:TE}
theorem Uv:EC X [] (fun _ H Q=>Q true H):=⟨Li⟩
theorem AV(h:QT X c t):EC X [c] t:=⟨X8 h.h⟩
structure Hw (X:Cx) (scope:Scope) (N':dX) (tg:Expr) (ifs:List Expr) (elt:Expr) (g:TG) (tt:Tz) (te:TE):Prop where
 h:∀(cl:List (Str×eF))(C:eF)(s0:eB)(H0:Hp)(ex:eA)(pn:List (eF×Obj)),QG (ccx X scope cl C N' s0 H0 ex pn) tg g/\EC (ccx X scope cl C N' s0 H0 ex pn) ifs tt/\QE (ccx X scope cl C N' s0 H0 ex pn) elt te
theorem V1{wi:TI}(S:WS X scope locs fr)(F:WE X scope fr)(hc:X.calm=true)(hi:QI X tg iter wi)(inner:Hw X scope (inN locs fr) tg ifs elt g tt te)(hs:∀x,foldedSetIterable iter X.env x=pure x:=by intro _;rfl):QE X (.ListComp elt [⟨tg,iter,ifs,0⟩] scope pos) (Ci locs.length fr wi g tt te) :=
 ⟨Sy S F hc hi.h (fun cl C s0 H0 ex pn=>let ⟨a,b,c⟩:=inner.h cl C s0 H0 ex pn;⟨a.h,b.h,c.h⟩) hs⟩
theorem EK{wi:TI}{i:Nat}{x:Str}{pos' spos:Pos}(S:WS X scope locs fr)(F:WE X scope fr)(hc:X.calm=true)(hi:QI X tg iter wi)(inner:Hw X scope (inN locs fr) tg ifs elt g tt te)(hN:X.N.Nodup)(n:Nm X.env.scope x .local)(hsw:swapsWith (.ListComp elt [⟨tg,iter,ifs,0⟩] scope pos) (some (.Name x pos')) spos.line X.env=pure true)(hi0:X.N[i]? = some x:=by rfl)(hs:∀x,foldedSetIterable iter X.env x=pure x:=by intro _;rfl):QS X (.Assign [.Name x pos'] (.ListComp elt [⟨tg,iter,ifs,0⟩] scope pos) spos) (U0 (Ci locs.length fr wi g tt te) (Wg i)) :=
 ⟨Ma S F hc hi.h (fun cl C s0 H0 ex pn=>let ⟨a,b,c⟩:=inner.h cl C s0 H0 ex pn;⟨a.h,b.h,c.h⟩) hN hi0 n.1 hsw hs⟩
end
section
variable{X:Cx}{scope:Scope}{cl:List (Str×eF)}{C:eF}{N':dX}{s0:eB}{H0:Hp}{ex:eA}{pn:List (eF×Obj)}{x:Str}{pos:Pos}
theorem Y5(i:Nat)(n:Nm scope x .local:=by decide +kernel)(hN:N'[i]? = some x:=by rfl):QE (ccx X scope cl C N' s0 H0 ex pn) (.Name x pos) (YH i):=⟨OO i n hN⟩
theorem Vr(i:Nat)(n:Nm scope x .free:=by decide +kernel)(hN:N'[i]? = some x:=by rfl):QE (ccx X scope cl C N' s0 H0 ex pn) (.Name x pos) (YH i):=⟨R0 i n hN⟩
theorem Wp(i:Nat)(hnd:N'.Nodup)(n:Nm scope x .local:=by decide +kernel)(hN:N'[i]? = some x:=by rfl):QG (ccx X scope cl C N' s0 H0 ex pn) (.Name x pos) (Wg i):=⟨Lu i hnd n hN⟩
end
section
variable{P:eG}{w:eI}{K:uFg}{mg:dW}{base:Heap}
theorem YC.fnQ{x:Str}{st:Stmt}{N ps:dX}{k:Nat}{sp:Sp}(h:YC K mg x st)(S:ZM N ps (Zp st))(hb:∀ (kV doc pm:eE) (an:Option eF) (cdv ct:eE) (us:dY),us.length=ps.length->bindArgs (PySem.W.fnOf x x (Va st) (Yq st) (Zp st) .none kV doc pm an cdv ct) ⟨us,[]⟩=pure (ps.zip us))(len:∀vs H Q E,sp vs H Q E->vs.length=ps.length)(hbody:∀ (f:eF) (cdv:eE) (A:eJ) (outer:List Env) (s:eB) (H:Hp) (vs:List V) (Q:VK) (E:XK),ZL k (A.deeper (envOfC x (Zp st) s.heap.objs.size f cdv))->sp vs H Q E -> ∃t,WW (Y2 VA P w K mg base N x (Zp st) f cdv A outer s H E).nox (Yq st) t/\t {nx:=fun _ H'=>Q .non H',rt:=Q } (start N vs) H):Fn P w K mg base x ps (k+1) sp :=
 h.fn S hb len fun f cdv A outer s H vs Q E hr q=>let ⟨t,a,b⟩:=hbody f cdv A outer s H vs Q E hr q;⟨t,a.h,b⟩
theorem C6(h:k<=60):ZL k (({}:eJ).deeper e) :=
 ZL.deeper (ZL.mono (k:=61) ⟨rfl,by decide,by decide⟩ (by lia)) e
theorem YC.fq{x:Str}{st:Stmt}{ps:dX}{k:Nat}{sp:Sp}(h:YC K mg x st)(N:dX)(hbody:∀{f:eF}{cdv:eE}{A:eJ}{outer:List Env}{s:eB}(H:Hp) (vs:List V) (Q:VK) (E:XK),ZL k (A.deeper (envOfC x (Zp st) s.heap.objs.size f cdv))->sp vs H Q E->vs.length=ps.length/\∃t,WW (Y2 VA P w K mg base N x (Zp st) f cdv A outer s H E).nox (Yq st) t/\t {nx:=fun _ H'=>Q .non H',rt:=Q } (start N vs) H)(S:ZM N ps (Zp st):=by exact fsc)(hk:k<=60:=by decide)(hb:∀ (kV doc pm:eE) (an:Option eF) (cdv ct:eE) (us:dY),us.length=ps.length->bindArgs (PySem.W.fnOf x x (Va st) (Yq st) (Zp st) .none kV doc pm an cdv ct) ⟨us,[]⟩=pure (ps.zip us):=by exact fun _ _ _ _ _ _=>by first | exact al1 fun _=>rfl | exact al2 fun _ _=>rfl | exact al3 fun _ _ _=>rfl | exact al4 fun _ _ _ _=>rfl | exact al5 fun _ _ _ _ _=>rfl | exact al6 fun _ _ _ _ _ _=>rfl | exact al7 fun _ _ _ _ _ _ _=>rfl | exact al8 fun _ _ _ _ _ _ _ _=>rfl):Fn P w K mg base x ps (k+1) sp :=
 h.fnQ S hb (fun vs H Q E h=>(hbody (f:=0) (cdv:=.none) (A:={}) (outer:=[]) (s:={}) H vs Q E (C6 hk) h).1) fun _ _ _ _ _ H vs Q E hr q=>(hbody H vs Q E hr q).2
end
end L2
namespace L2
open PySem PySem.Spec PyProof.Rows
theorem Uw(R:St->Hp->Prop)(hu:∀ σ' H',R σ' H'->u D σ' H')(ht:∀D':YI,(∀ σ' H',R σ' H'->D'.nx σ' H')->(∀v H',D.rt v H'->D'.rt v H')->(∀ σ' H',D.bk σ' H'->D'.bk σ' H')->(∀ σ' H',D.ct σ' H'->D'.ct σ' H')->t D' σ H):V9 t u D σ H :=
 ht {D with nx:=u D } hu (fun _ _ h=>h) (fun _ _ h=>h) (fun _ _ h=>h)
theorem Gz:(([a]:List Nat) < [b])↔a < b:=by
 constructor
 ·intro h;rcases List.cons_lt_cons_iff.mp h with z | ⟨_,z⟩
  ·exact z
  ·exact absurd z (by simp)
 ·intro h;exact List.cons_lt_cons_iff.mpr (.inl h)
end L2
namespace L2
theorem Yc(h:Q (σ.set i (some v)) H):Wg i v σ H Q:=h
end L2
namespace L2
open PySem PySem.Spec PyProof.Rows
theorem Tn.okQ{P:eG}{w:eI}{K:uFg}{mg:dW}{base:Heap}{x qual:Str}{st:Stmt}{f:eF}{fd:FuncData}{N ps:dX}{k:Nat}{sp:Sp}(F:Tn K x qual st f fd)(S:ZM N ps (Zp st))(len:∀vs H Q E,sp vs H Q E->vs.length=ps.length)(hbody:∀cdv A outer s H vs Q E,ZL k (A.deeper (envOfC qual (Zp st) s.heap.objs.size f cdv))->sp vs H Q E -> ∃t,WW (Y2 VA P w K mg base N qual (Zp st) f cdv A outer s H E).nox (Yq st) t/\t {nx:=fun _ H'=>Q .non H',rt:=Q } (start N vs) H):YF P w K mg base VA (k+1) f fd ps sp :=
 F.ok S len fun cdv A outer s H vs Q E hr q=>let ⟨t,a,b⟩:=hbody cdv A outer s H vs Q E hr q;⟨t,a.h,b⟩
def Do(K:uFg):Sp:=fun vs H Q _=>∃(a:eF)(ns:List Int),vs = [.ref a]/\ZE K H a (ns.map V.int)/\ns.length<=63/\∀H',Q (.bl true) H'
theorem walkLaw{l:PySem.W.OpenLaw}{q:eG}{loose:dX}{XP:(dW)->Heap->Prop}{YP:eI->Heap->Prop}{d:DefRec}{K:Params->uFg}(hn:l.most=some 63)(hdf:d.params.defaults = [])(hY:∀w h,YP w h->(K w.params).In h)(F:∀w mg fa h,(K w.params).In h->h.Ns mainGlobals mg->mg d.name=some (.ref fa)-> ∃fd:FuncData,(∀s u,BindsTo s fd ⟨[u],[]⟩ [("_law_script", u)])/\∀base:Heap,(K w.params).In base->base.Ns mainGlobals mg->YF l.prog w (K w.params) mg base VA 40 fa fd ["_law_script"] (Do (K w.params))) :
  PySem.W.WalkO q loose XP YP l.row.toRowW d [] (fun f vs=>PySem.call f vs) :=
 L2.walk_of (n:=63) (k:=40) (x:="_law_script") (CX:=fun _=>VA) (sp:=fun w=>Do (K w.params)) hn (by decide) hdf ⟨rfl,by decide,by decide⟩ hY F (fun _ _ a ns hl _ hS=>⟨a,ns,rfl,hS,hl,fun _=>rfl⟩) fun _ _ _ _ _ z=>z
end L2
namespace L2
open PySem PySem.Spec PyProof.Rows
section
variable{X:Cx}{scope:Scope}{cl:List (Str×eF)}{C:eF}{N':dX}{s0:eB}{H0:Hp}{ex:eA}{pn:List (eF×Obj)}{pos:Pos}{es:List Expr}{k:Nat}{t:Jf}
theorem BL(n:Nat)(hc:X.calm=true)(h:AW (ccx X scope cl C N' s0 H0 ex pn) es t)(hn:(assignEach es (ccx X scope cl C N' s0 H0 ex pn).env).length=n:=by rfl)(hst:(assignEach es (ccx X scope cl C N' s0 H0 ex pn).env).findIdx? (·.1)=none:=by rfl) :
  QG (ccx X scope cl C N' s0 H0 ex pn) (.Tuple es k pos) (Jg X.K n t):=⟨HS (X:=ccx X scope cl C N' s0 H0 ex pn) hc h.h hn hst⟩
theorem GH:Bk (ccx X scope cl C N' s0 H0 ex pn) (Av X.K):=⟨GZ (X:=ccx X scope cl C N' s0 H0 ex pn)⟩
theorem Co:Bk (ccx X scope cl C N' s0 H0 ex pn) (J6 X.K):=⟨IX (X:=ccx X scope cl C N' s0 H0 ex pn)⟩
theorem bX:QC (ccx X scope cl C N' s0 H0 ex pn) (.type "list") (Tv X.K):=.imp ⟨Fl (X:=ccx X scope cl C N' s0 H0 ex pn)⟩ fun _ _ _ ⟨p,y,a,b,k⟩=>⟨p,y,a,b,k⟩
theorem FV:QC (ccx X scope cl C N' s0 H0 ex pn) (.builtin "isinstance") (FZ X.K):=⟨Ko (X:=ccx X scope cl C N' s0 H0 ex pn)⟩
end
end L2
namespace L2
open PySem PySem.Spec PyProof.Rows
section
variable{P:eG}{w:eI}{A:eJ}{E:dU}{s:eB}
end
section
variable{P:eG}{w:eI}{A:eJ}{E:dU}{s:eB}{z TI TO i1 i2 l1 l2:eF}{S1 S2:Nat->Heap->Prop}{H1 H2:Heap->List eE->Prop}{k:Nat}{xs ys:dY}{x y a b:eE}
end
section
variable{P:eG}{w:eI}{A:eJ}{E:dU}{s:eB}
end
end L2
namespace L2
open PySem PySem.Spec PyProof.Rows
inductive D where
 | non | bl (b:Bool) | int (i:Int) | str (x:Str) | tup (xs:List D) | lst (xs:List D)
mutual
def YA(H:Hp):D->V->Prop
 | .non,v=>v = .non
 | .bl b,v=>v = .bl b
 | .int i,v=>v = .int i
 | .str x,v=>v = .str x
 | .tup ds,v=>∃a vs,v = .ref a/\H a=some (.tup vs)/\ZP H ds vs
 | .lst ds,v=>∃a vs,v = .ref a/\H a=some (.lst vs)/\ZP H ds vs
def ZP(H:Hp):List D->List V->Prop
 | [],vs=>vs = []
 | d::ds,vs=>∃v r,vs=v::r/\YA H d v/\ZP H ds r
end
mutual
theorem YA.mono(k:ZA H H'):∀d v,YA H d v->YA H' d v
 | .non,v,h=>h
 | .bl b,v,h=>h
 | .int i,v,h=>h
 | .str x,v,h=>h
 | .tup ds,v,h=>by
  obtain⟨a,vs,e,h1,h2⟩:=h;exact⟨a,vs,e,k _ _ h1,ZP.mono k ds vs h2⟩
 | .lst ds,v,h=>by
  obtain⟨a,vs,e,h1,h2⟩:=h;exact⟨a,vs,e,k _ _ h1,ZP.mono k ds vs h2⟩
theorem ZP.mono(k:ZA H H'):∀ds vs,ZP H ds vs->ZP H' ds vs
 | [],vs,h=>h
 | d::ds,vs,h=>by
  obtain⟨v,r,e,h1,h2⟩:=h;exact⟨v,r,e,YA.mono k d v h1,ZP.mono k ds r h2⟩
end
theorem ZP.length:∀{ds:List D}{vs:List V},ZP H ds vs->vs.length=ds.length
 | [],vs,h=>by cases h;rfl
 | d::ds,vs,h=>by
  obtain⟨v,r,rfl,h1,h2⟩:=h;rw[yE,yE,ZP.length h2]
theorem ZP.get:∀{ds:List D}{vs:List V}{i:Nat}{v:V},ZP H ds vs->vs[i]? = some v->∃d,ds[i]? = some d/\YA H d v
 | [],vs,i,v,h,e=>by cases h;simp at e
 | d::ds,vs,i,v,h,e=>by
  obtain⟨w,r,rfl,h1,h2⟩:=h;cases i with
  | zero=>simp at e;subst e;exact⟨d,rfl,h1⟩
  | succ i=>simp at e;exact ZP.get (i:=i) h2 e
theorem ZP.snoc(hd:YA H d v):∀{ds:List D}{vs:List V},ZP H ds vs->ZP H (ds ++ [d]) (vs ++ [v])
 | [],vs,h=>by cases h;exact⟨v,[],rfl,hd,rfl⟩
 | e::ds,vs,h=>by
  obtain⟨w,r,rfl,h1,h2⟩:=h;exact⟨w,r ++ [v],rfl,h1,ZP.snoc hd h2⟩
mutual
def Ax:D->D->Bool
 | .non,.non=>true
 | .bl a,.bl b=>a == b
 | .int a,.int b=>a == b
 | .str a,.str b=>a == b
 | .tup a,.tup b=>BA a b
 | .lst a,.lst b=>BA a b
 | _,_=>false
def BA:List D->List D->Bool
 | [],[]=>true
 | a::r,b::s=>Ax a b && BA r s
 | _,_=>false
end
mutual
theorem Oe:∀d:D,Ax d d=true
 | .non=>rfl
 | .bl _=>by simp[Ax]
 | .int _=>by simp[Ax]
 | .str _=>by simp[Ax]
 | .tup ds=>by rw[Ax];exact Fe ds
 | .lst ds=>by rw[Ax];exact Fe ds
theorem Fe:∀ds:List D,BA ds ds=true
 | []=>rfl
 | d::ds=>by rw[BA,Oe d,Fe ds];rfl
end
mutual
def D.deep:D->Nat
 | .tup ds=>DW ds+1
 | .lst ds=>DW ds+1
 | _=>0
def DW:List D->Nat
 | []=>0
 | d::ds=>max d.deep (DW ds)
end
def isI:D->String->Bool
 | .non,_=>false
 | .bl _,c=>c == "bool" || c == "int"
 | .int _,c=>c == "int"
 | .str _,c=>c == "str"
 | .tup _,c=>c == "tuple"
 | .lst _,c=>c == "list"
def Ks:List String:=["bool","int","str","list","tuple"]
theorem isi{K:uFg}{H:Hp}{d:D}{v:V}(r:YA H d v)(c:String)(hc:c∈Ks):∃t,YY K H v t/\PySem.W.kitOne K t (.type c)=some (isI d c):=by
 unfold Ks at hc;simp only[xC,xS,or_false] at hc;cases d with
 | non=>cases r;refine⟨_,.non,?_⟩;rcases hc with rfl | rfl | rfl | rfl | rfl<;>rfl
 | bl b=>cases r;refine⟨_,.bl b,?_⟩;rcases hc with rfl | rfl | rfl | rfl | rfl<;>rfl
 | int i=>cases r;refine⟨_,.int i,?_⟩;rcases hc with rfl | rfl | rfl | rfl | rfl<;>rfl
 | str x=>cases r;refine⟨_,.str x,?_⟩;rcases hc with rfl | rfl | rfl | rfl | rfl<;>rfl
 | tup ds=>obtain⟨a,vs,rfl,h1,h2⟩:=r;refine⟨_,.tup h1,?_⟩;rcases hc with rfl | rfl | rfl | rfl | rfl<;>rfl
 | lst ds=>obtain⟨a,vs,rfl,h1,h2⟩:=r;refine⟨_,.lst h1,?_⟩;rcases hc with rfl | rfl | rfl | rfl | rfl<;>rfl
theorem YA.none_iff(r:YA H d v):decide (v = .non)=(match d with | .non=>true | _=>false):=by
 cases d with
 | non=>cases r;rfl
 | bl b=>cases r;rfl
 | int i=>cases r;rfl
 | str x=>cases r;rfl
 | tup ds=>obtain⟨a,vs,rfl,h1,h2⟩:=r;rfl
 | lst ds=>obtain⟨a,vs,rfl,h1,h2⟩:=r;rfl
end L2
namespace L2
theorem YA.mono'(h:YA H d v)(k:ZA H H'):YA H' d v:=YA.mono k d v h
theorem ZP.mono'(h:ZP H ds vs)(k:ZA H H'):ZP H' ds vs:=ZP.mono k ds vs h
end L2
namespace L2
open PySem PySem.Spec PyProof.Rows
def DI(K:uFg)(l1 l2:eF):It :=
 ⟨fun i H=>∃xs ys,ZE K H l1 xs/\ZE K H l2 ys/\i < xs.length/\i < ys.length,fun i H v H'=>∃p a b,v = .ref p/\H p=none/\H'=upd H p (.tup [a,b])/\∀xs ys,ZE K H l1 xs->ZE K H l2 ys->xs[i]? = some a/\ys[i]? = some b,
  fun i H=>∃xs ys,ZE K H l1 xs/\ZE K H l2 ys/\(xs.length<=i\/ys.length<=i)⟩
theorem ZD.zip{X:Cx}{pins:List (eF×Obj)}{σ:St}{H:Hp}{s:eB}{z TI TO i1 i2:eF}{h':Heap}(I:ZD X pins σ H s)(hf:∀b ∈ [z,TI,TO,i1,i2],Vq X pins H b)(kp:∀c o,c≠z->c≠TO->c≠i1->c≠i2->s.heap.get? c=some o->h'.get? c=some o):ZD X pins σ H {s with heap:=h' }:=by
 have nfp:∀c,c ∈ [z,TO,i1,i2]->c ∈ [z,TI,TO,i1,i2]:=fun c hc=>by grind
 have kp':∀c o,c ∉ [z,TO,i1,i2]->s.heap.get? c=some o->h'.get? c=some o:=fun c o hc=>by grind
 have ntr:∀c u,H c=some u->c ∉ [z,TO,i1,i2]:=fun c u e hc=>by rw[(hf c (nfp c hc)).1] at e;cases e
 refine I.step (g':=s.gens) (d':=s.drawn) (t':=s.toks) (ch:=[z,TO,i1,i2]) (fun c hc=>?_) (fun c o _ _ hc e _=>kp' c o hc e) (fun c o _ _ hc e _=>⟨o.slots,kp' c o hc e⟩) (fun c o hc e n=>n)
  (fun c o hc e=>⟨o,kp' c o hc e⟩) (fun c us e=>e) (fun c o u e=>e) (fun c ps e=>⟨#[],by rw[e];simp⟩) (fun m hm=>hm.at fun o e=>kp' _ o (fun hc=>(hf _ (nfp _ hc)).2.1 rfl) e) (fun c u e=>?_) I.bare
 ·obtain⟨f0,f1,f2,f3,f4,f5⟩:=hf c (nfp c hc);exact⟨f3,f1,f4,f5⟩
 ·exact(I.hok c u e).stay (fun d v hd q=>kp' d v (hd.elim (fun z=>z▸ntr _ u e) (ntr _ _)) q) (fun d q=>q) fun d us q=>q
theorem Oq{P:eG}{w:eI}{K:uFg}{elts:List Expr}{ek:Nat}{epos:Pos}{z TI TO i1 i2 l1 l2:eF}(Z:ZipApart z TI TO i1 i2 l1 l2) :
  VI P w K (.Tuple elts ek epos) (DI K l1 l2) [z,TI,TO,i1,i2] z (fun i h=>IsZip h z TI TO .none/\IsPair h TI (.ref i1) (.ref i2)/\(∃a b,IsPair h TO a b)/\h.IsListIter i1 l1 i/\h.IsListIter i2 l2 i) where
 mem:=by simp
 obj:=fun i h st b hb=>by
  obtain⟨hz,hTI,⟨a,c,hTO⟩,⟨o1,e1,_,d1⟩,o2,e2,_,d2⟩:=st;simp only[xC,xS,or_false] at hb;rcases hb with rfl | rfl | rfl | rfl | rfl
  ·exact⟨_,hz,fun v q=>by cases q⟩
  ·exact⟨_,hTI,fun v q=>by cases q⟩
  ·exact⟨_,hTO,fun v q=>by cases q⟩
  ·exact⟨_,e1,fun v q=>by rw[d1] at q;cases q⟩
  ·exact⟨_,e2,fun v q=>by rw[d2] at q;cases q⟩
 keep:=fun i h h' st k=>by
  obtain⟨hz,hTI,⟨a,c,hTO⟩,s1,s2⟩:=st;exact⟨k z (by simp) _ hz,k TI (by simp) _ hTI,⟨a,c,k TO (by simp) _ hTO⟩,s1.at fun o e=>k i1 (by simp) o e,s2.at fun o e=>k i2 (by simp) o e⟩
 item:=by
  intro X hP hw hK hc i pins s σ H E I hf st hg;subst hP hw hK;obtain⟨hz,hTI,⟨a,b,hTO⟩,s1,s2⟩:=st;obtain⟨xs,ys,q1,q2,hx,hy⟩:=hg;obtain⟨its1,r1,w1,_⟩:=I.list q1;obtain⟨its2,r2,w2,_⟩:=I.list q2;have gx:xs[i]? = some xs[i]:=xB hx;have gy:ys[i]? = some ys[i]:=xB hy;obtain⟨u1,hu1,ru1⟩:=r1.get gx;obtain⟨u2,hu2,ru2⟩:=r2.get gy;refine wpAny_pyNext_zip_item Z hz hTI hTO s1 s2 w1.isList w2.isList (x:=u1) (y:=u2) (by simpa using hu1) (by simpa using hu2) fun h' z1 t1 n1 n2 p1 _ kp=>?_;have hp:H s.heap.objs.size=none:=I.hok.fresh (xD _);have ltp:∀c o,s.heap.get? c=some o->c≠s.heap.objs.size:=fun c o e=>yG (xQ e);obtain⟨o1,e1,_⟩:=id s1;obtain⟨o2,e2,_⟩:=id s2;have nw:∀c ∈ [z,TI,TO,i1,i2],c≠s.heap.objs.size:=fun c hc=>by
   simp only[xC,xS,or_false] at hc;rcases hc with rfl | rfl | rfl | rfl | rfl
   ·exact ltp _ _ hz
   ·exact ltp _ _ hTI
   ·exact ltp _ _ hTO
   ·exact ltp _ _ e1
   ·exact ltp _ _ e2
  have hf':∀c ∈ [z,TI,TO,i1,i2],Vq X pins (upd H s.heap.objs.size (.tup [xs[i],ys[i]])) c:=fun c hc=>by
   obtain⟨f0,f1⟩:=hf c hc;exact⟨by rw[Ze (nw c hc)];exact f0,f1⟩
  have I0:ZD X pins σ (upd H s.heap.objs.size (.tup [xs[i],ys[i]])) {s with heap:=s.heap.push {cls:=.type "tuple", data:=.seq #[u1,u2] } }:=I.laid (t':=s.toks) (fun b u e=>xG _ e) (xD _) ⟨by show 2<=sizeLine;decide,[u1,u2],.cons ru1 (.cons ru2 .nil),⟨_,xW _ rfl,rfl,_,rfl⟩⟩;have I1:=I0.zip (h':=h') hf' fun c o c1 c2 c3 c4 e=>by
   by_cases y:c=s.heap.objs.size
   ·subst y;rw[xW _ rfl] at e;cases e;exact p1
   ·exact kp c o c1 c2 c3 c4 (by rwa [Heap.get?_push_ne _ _ _ y] at e)
  refine⟨_,rfl,wpAny_letOwnedTupleGo_zip (s:={s with heap:=h' }) z1 fun h2 z2 e2=>?_⟩;obtain⟨f0,f1,f2,f3,f4,f5⟩:=hf' z (by simp);have I2:=I1.turned (s:={s with heap:=h' }) (it:=z) (t':=s.toks) (fun c o hc e=>(e2.2 c hc).trans e) f0 f1 f3 f4 f5;refine⟨.ref s.heap.objs.size,_,I2,rfl,⟨s.heap.objs.size,xs[i],ys[i],rfl,hp,rfl,fun xs' ys' q1' q2'=>?_⟩,⟨z2,(e2.2 _ Z.TIz).trans (kp TI _ Z.TIz Z.TITO Z.TIi1 Z.TIi2 hTI),⟨_,_,(e2.2 _ Z.TOz).trans t1⟩,n1.at fun o e=>(e2.2 _ Z.i1z).trans e,n2.at fun o e=>(e2.2 _ Z.i2z).trans e⟩,fun c hc=>(hf' c hc).1⟩;rw[I.list_inj q1' q1,I.list_inj q2' q2];exact⟨gx,gy⟩
 done:=by
  intro X hP hw hK hc i pins s σ H E I hf st hg;subst hP hw hK;obtain⟨hz,hTI,⟨a,b,hTO⟩,s1,s2⟩:=st;obtain⟨xs,ys,q1,q2,hend⟩:=hg;obtain⟨its1,r1,w1,_⟩:=I.list q1;obtain⟨its2,r2,w2,_⟩:=I.list q2;have l1:=r1.length;have l2:=r2.length;exact wpAny_pyNext_zip_end (I.ok.hd hc) Z hz hTI hTO s1 s2 w1.isList w2.isList (hend.imp (fun q=>by simp;lia) (fun q=>by simp;lia)) fun h' kp=>⟨rfl,I.zip hf kp⟩
 self:=fun A i s Q E st h=>wpAny_pyIter_zip st.1 h
theorem MI(h1:l1 < n)(h2:l2 < n):ZipApart (n+4) (n+2) (n+3) n (n+1) l1 l2:=by
 have h1 : @LT.lt Nat _ l1 n:=h1;have h2 : @LT.lt Nat _ l2 n:=h2;have key:∀(a b:Nat),(a < b\/b < a)->¬(@Eq Nat a b):=fun a b h q=>by lia
 constructor<;>exact key _ _ (by lia)
inductive By(K:uFg)(R:It->Hp->Prop)(vs:List V)(H1:Hp):Prop
 |mk(l1 l2 xs ys)(_:vs = [.ref l1,.ref l2])(_:ZE K H1 l1 xs)(_:ZE K H1 l2 ys)(_:R (DI K l1 l2) H1)
def SI(K:uFg)(ta:TA):TI:=fun σ H R=>ta σ H fun vs H1=>By K R vs H1
theorem Nb{X:Cx}{a b:Expr}{ta:TA}{p pos:Pos}{elts:List Expr}{ek:Nat}{epos:Pos}(hm:X.mg "zip" = none)(ha:QA X [a,b] ta)(hg:nB X "zip" .globalImplicit:=by kernel_rfl)(hs:starEach [a,b] X.env = [(false,eval a X.env),(false,eval b X.env)]:=by rfl)(hs2:starEach [b] X.env = [(false,eval b X.env)]:=by rfl) :
  QI X (.Tuple elts ek epos) (.Call (.Name "zip" p) [a,b] [] pos) (SI X.K ta):=⟨by
 intro pins s σ H R I h;refine Call_ (JE I (od hg).1 hm boot_zip (PyProof.Rows.callWith_type1 (thn (ha.h pos pins s σ H _ I h) fun us s1 ⟨vs,H1,I1,r1,q1⟩=>?_) (by rw[hs,hs2]) (by rw[hs2];rfl)));obtain⟨l1,l2,xs,ys,e,h1,h2,q⟩:=q1;subst e;obtain⟨u1,u2,rfl,ru1,ru2⟩:=Ck r1;cases ru1;cases ru2;obtain⟨its1,_,p1,_⟩:=I1.list h1;obtain⟨its2,_,p2,_⟩:=I1.list h2;have b1:l1 < s1.heap.objs.size:=by obtain⟨o,n,e,_⟩:=p1;exact xQ e
 have b2:l2 < s1.heap.objs.size:=by obtain⟨o,n,e,_⟩:=p2;exact xQ e
 refine call_zip_2 p1.isList p2.isList fun h' z0 t1 t0 st1 st2 _ kp=>wpAny_pyIter_zip z0 ⟨s1.heap.objs.size+4,_,_,_,H1,rfl,I1.kept (h':=h') (t':=s1.toks) kp,Oq (MI b1 b2),⟨z0,t1,⟨_,_,t0⟩,st1,st2⟩,fun c hc=>?_,q⟩;have hle:s1.heap.objs.size<=c:=by
  simp only[xC,xS,or_false] at hc;have:(s1.heap.objs.size:Nat)<=(c:Nat):=by rcases hc with rfl | rfl | rfl | rfl | rfl<;>lia
  exact this
 exact I1.fpOk hle (I1.hok.fresh hle)⟩
theorem SV{K:uFg}{l1 l2:eF}{g:TG}{tb:TS}{D:YI}{σ:St}{H:Hp}(xs ys:List V)(hxy:xs.length=ys.length)(Pv:Nat->St->Hp->Prop)(h0:Pv 0 σ H)(hl:∀i σ H,i<=xs.length->Pv i σ H->ZE K H l1 xs/\ZE K H l2 ys)(hs:∀i x y p σ H,xs[i]? = some x->ys[i]? = some y->Pv i σ H->H p=none->g (.ref p) σ (upd H p (.tup [x,y])) fun σ2 H2=>tb {D with nx:=Pv (i+1),ct:=Pv (i+1),bk:=D.nx } σ2 H2)(hd:∀ σ H,Pv xs.length σ H->D.nx σ H):Az (DI K l1 l2) g tb D σ H:=by
 refine⟨fun i m σ H=>m=xs.length - i/\i<=xs.length/\Pv i σ H,⟨xs.length,by simp,yL _,h0⟩,?_⟩;rintro i m σ H ⟨rfl,hi,p⟩;obtain⟨q1,q2⟩:=hl i σ H hi p
 by_cases hlt:i < xs.length
 ·refine .inr ⟨⟨xs,ys,q1,q2,hlt,by lia⟩,Pv (i+1),fun σ' H' p'=>⟨xs.length - (i+1),by lia,rfl,hlt,p'⟩,fun v H' y=>?_⟩;obtain⟨pp,a,b,rfl,hp,rfl,hv⟩:=y;obtain⟨e1,e2⟩:=hv xs ys q1 q2;exact hs i a b pp σ H e1 e2 p hp
 ·have e:i=xs.length:=by lia
  subst e;exact .inl ⟨⟨xs,ys,q1,q2,.inl (xD _)⟩,hd σ H p⟩
def Da(lo:Int)(n:Nat):It:=⟨fun i _=>i < n,fun i H x H'=>H'=H/\x = .int (lo - i),fun i _=>n<=i⟩
theorem Lz{P:eG}{w:eI}{K:uFg}{tg:Expr}(it:eF)(lo:Int)(n:Nat):VI P w K tg (Da lo n) [it] it (fun i h=>IsRangeIter h it (lo+(i:Nat) * (-1)) ((n:Int) - (i:Nat)) (-1)) where
 mem:=by simp
 obj:=fun i h st b hb=>by grind
 keep:=fun i h h' st k=>k it (by simp) _ st
 item:=by
  intro X hP hw hK hc i pins s σ H E I hf st hg;subst hP hw hK;obtain⟨f0,f1,f2,f3,f4,f5⟩:=hf it (by simp);have W:=Walks.range (prog:=X.prog) (w:=X.w) (I.ok.hd hc) it lo (-1) n;refine W.item i s _ _ hg st fun v h' tk hv st' kk=>?_;obtain⟨t,rfl⟩:=hv;have I1:ZD X pins σ H {s with heap:=h',toks:=tk }:=I.turned (fun b o hb e=>kk b o (by simpa using hb) e) f0 f1 f3 f4 f5;refine⟨_,rfl,Bj (s:={s with heap:=h',toks:=tk }) (n:="range_iterator") st' rfl rfl (by decide) ⟨.int (lo - i),H,I1,⟨t,?_⟩,⟨rfl,rfl⟩,st',fun b hb=>(hf b hb).1⟩⟩;have e:lo+(i:Int) * (-1)=lo - i:=by lia
  rw[e]
 done:=by
  intro X hP hw hK hc i pins s σ H E I hf st hg;subst hP hw hK;obtain⟨f0,f1,f2,f3,f4,f5⟩:=hf it (by simp);exact wpAny_pyNext_range_end (I.ok.hd hc) st (by have:n<=i:=hg;lia) fun h' eb=>⟨rfl,I.turned (t':=s.toks) (fun b o hb e=>eb b o hb e) f0 f1 f3 f4 f5⟩
 self:=fun _ _ _ _ _ st h=>wpAny_pyIter_rangeiter st h
section
variable{X:Cx}{tg:Expr}
theorem Sn{pins:List (eF×Obj)}{σ:St}{H:Hp}{s:eB}{R:It->Hp->Prop}{E:dU}{lo hi:Int}{t u v:Tok}{tk:Nat}(I:ZD X pins σ H s)(h1 : -(2 ^ 62)<=lo)(h2:lo < 2 ^ 62)(h3 : -(2 ^ 62)<=hi)(h4:hi < 2 ^ 62)(q:R (Da lo (lo - hi).toNat) H):wpAny (model X.prog X.w) X.A (pyIter (.ref s.heap.objs.size)) (Ep X pins σ tg R) E {s with heap:=s.heap.push {cls:=.type "range", data:=.fields #[.int lo t,.int hi u,.int (-1) v] },toks:=tk }:=by
 refine wpAny_pyIter_range (IsRange.new ..) (PySem.W.small_down h1 h2 h3 h4) ?_;have I1:ZD X pins σ H {s with heap:=s.heap.push {cls:=.type "range", data:=.fields #[.int lo t,.int hi u,.int (-1) v] },toks:=tk }:=I.kept fun b o e=>xG _ e;refine⟨(s.heap.push {cls:=.type "range", data:=.fields #[.int lo t,.int hi u,.int (-1) v] }).objs.size,[(s.heap.push {cls:=.type "range", data:=.fields #[.int lo t,.int hi u,.int (-1) v] }).objs.size],_,_,H,rfl, I1.kept (t':=tk) fun b o e=>xG _ e,Lz _ lo (lo - hi).toNat,?_,fun b hb=>?_,q⟩
 ·have e1:lo+((0:Nat):Int) * (-1)=lo:=by simp
  have e2:(((lo - hi).toNat:Nat):Int) - ((0:Nat):Int)=Builtin.Range.rangeSize lo hi (-1):=by rw[PySem.W.rangeSize_downNat];lia
  show IsRangeIter _ _ (lo+((0:Nat):Int) * (-1)) ((((lo - hi).toNat:Nat):Int) - ((0:Nat):Int)) (-1);rw[e1,e2];exact xW _ rfl
 ·have e:b=(s.heap.push {cls:=.type "range", data:=.fields #[.int lo t,.int hi u,.int (-1) v] }).objs.size:=by simpa using hb
  subst e;exact I1.fpOk (xD _) (I1.hok.fresh (xD _))
inductive Ay(R:It->Hp->Prop)(vs:List V)(H1:Hp):Prop
 |mk(i j)(_:vs = [.int i,.int j,.int (-1)])(_:(-(2 ^ 62)<=i/\i < 2 ^ 62 /\ -(2 ^ 62)<=j/\j < 2 ^ 62))(_:R (Da i (i - j).toNat) H1)
def Fm(ta:TA):TI:=fun σ H R=>ta σ H fun vs H1=>Ay R vs H1
theorem MD{a b c:Expr}{ta:TA}{p pos:Pos}(hg:Gl X "range")(hm:X.mg "range" = none)(ha:PA X [a,b,c] ta)(hs:starEach [a,b,c] X.env=(false,eval a X.env)::starEach [b,c] X.env:=by rfl)(hs2:(backTo pos (starEach [b,c] X.env)).any (·.1)=false:=by rfl) :
  PI X tg (.Call (.Name "range" p) [a,b,c] [] pos) (Fm ta):=by
 intro pins s σ H R I h;refine Call_ (JE I hg hm boot_range (PyProof.Rows.callWith_type1 (thn (ha pos pins s σ H _ I h) fun us s1 ⟨vs,H1,I1,r1,q1⟩=>?_) hs hs2));obtain⟨i,j,e,⟨q1,q2,q3,q4⟩,q⟩:=q1;subst e;cases r1 with
 | cons r rr =>
  cases rr with
  | cons r' rr =>
   cases rr with
   | cons r'' rr =>
    cases rr;obtain⟨t,rfl⟩:=r;obtain⟨t',rfl⟩:=r';obtain⟨t'',rfl⟩:=r'';exact call_range_3 (by decide) (Sn I1 q1 q2 q3 q4 q) (.inl (PyProof.noPylong_small (by decide)))
theorem MZ{a b c:Expr}{ta:TA}{p pos:Pos}(hm:X.mg "range" = none)(ha:QA X [a,b,c] ta)(hg:nB X "range" .globalImplicit:=by kernel_rfl)(hs:starEach [a,b,c] X.env=(false,eval a X.env)::starEach [b,c] X.env:=by rfl)(hs2:(backTo pos (starEach [b,c] X.env)).any (·.1)=false:=by rfl) :
  QI X tg (.Call (.Name "range" p) [a,b,c] [] pos) (Fm ta):=⟨MD (od hg).1 hm ha.h hs hs2⟩
end
section
variable{g:TG}{tb:TS}{D:YI}{σ:St}{H:Hp}
theorem dQ{lo:Int}{n:Nat}(m:Nat)(hm:n=m)(Pv:Nat->St->Hp->Prop)(h0:Pv 0 σ H)(hs:∀i σ H,i < m->Pv i σ H->g (.int (lo - i)) σ H fun σ2 H2=>tb {D with nx:=Pv (i+1),ct:=Pv (i+1),bk:=D.nx } σ2 H2)(hd:∀ σ H,Pv m σ H->D.nx σ H):Az (Da lo n) g tb D σ H:=by
 subst hm;refine⟨fun i k σ H=>k=n - i/\i<=n/\Pv i σ H,⟨n,rfl,yL _,h0⟩,?_⟩;rintro i k σ H ⟨rfl,hi,p⟩
 by_cases e:i < n
 ·refine .inr ⟨e,Pv (i+1),fun σ' H' p'=>⟨n - (i+1),by lia,rfl,by lia,p'⟩,?_⟩;rintro x H' ⟨rfl,rfl⟩;exact hs i σ H' e p
 ·have:i=n:=by lia
  subst this;exact .inl ⟨xD _,hd σ H p⟩
end
section
variable{o:Expr}
inductive Th(y x:V)(H:Hp)(Q:VK):Prop
 |mk(a o)(_:x = .ref a)(_:ZZ H a y o)(_:Q (.bl (!o.isSome)) H)
inductive BO(y x:V)(H:Hp)(Q:VK):Prop
 |mk(a o)(_:x = .ref a)(_:ZZ H a y o)(_:Q (.bl o.isSome) H)
theorem NT(hu:X.A.units+1 < cLine):YX X (compareOp .NotIn) Th:=by
 intro pins s σ H y x iv u Q I ry rx ⟨a,ov,ex,g,q⟩;subst ex;obtain rfl:u=Value.ref a:=rx;exact Ru hu I g ry fun s3 I3=>⟨.bl (!ov.isSome),H,I3,rfl,q⟩
theorem RC(hu:X.A.units+1 < cLine):YX X (compareOp .In) BO:=by
 intro pins s σ H y x iv u Q I ry rx ⟨a,ov,ex,g,q⟩;subst ex;obtain rfl:u=Value.ref a:=rx;exact dM hu I g ry fun s3 I3=>⟨.bl ov.isSome,H,I3,rfl,q⟩
theorem E7(hr:ZL k X.A):WD X (compareOp .NotIn) Th:=⟨NT (by have:=hr.units;lia)⟩
theorem JV(hr:ZL k X.A):WD X (compareOp .In) BO:=⟨RC (by have:=hr.units;lia)⟩
theorem KN:QE X (.Dict [] [] pos) FO:=⟨Qj⟩
theorem JI(hr:ZL k X.A)(ho:QE X o td)(hi:QE X i ty)(hv:QE X value tv)(hs:swapsWith value (some (.Subscript o i pos')) pos.line X.env=pure false:=by rfl) :
  QS X (.Assign [.Subscript o i pos'] value pos) (FS td ty tv):=⟨Pm (by have:=hr.units;lia) ho.h hi.h hv.h hs⟩
end
section
variable{prog:eG}{w:eI}{K:Type} [DecidableEq K] {knd:HeapKind prog w K}{A:eJ}{E:dU}{s:eB}
theorem dO{d a:eF}{xs:List (K×eF×eE)}{k:K}{v:eE}{Q:dU}(hu:knd.room A)(hkey:knd.is s.heap k a)(hm:s.heap.DictOfH knd d xs)(h1:∀p,atKey xs k=some p->Q p.2 {s with toks:=s.toks+knd.draws k })(h2:atKey xs k=none->∀h',h'.DictOfH knd d (storedH xs k a v)->Heap.SameBut d s.heap h'->Q v {s with heap:=h',toks:=s.toks+knd.draws k })(hsz:xs.length<=sizeLine):wpAny (model prog w) A (dictSetDefault d (.ref a) v) Q E s:=by
 obtain⟨o,es,ep,ho,hc,hd,he,his,hn⟩:=hm;unfold dictSetDefault
 try with_reducible refine wpAny_holding ?_
 refine wpAny_bind (knd.pyHash hu hkey ?_);refine wpAny_bind (wpAny_dictFind_heap (s:={s with toks:=s.toks+knd.draws k }) hu hkey ho hd he his hn ?_ ?_)
 ·intro hno;have hnot:k∉xs.map (·.1):=not_mem_keys_of_get hno
  refine wpAny_bind (wpAny_rule (wpAny_bind (wpAny_updateDictKeys (hz:=by have e:=size_of_entries he;lia) (s:={s with toks:=s.toks+knd.draws k }) ho hd (wpAny_pure (h2 (atKey_none_of_get hno) _ ⟨_,_,ep+1,Heap.get?_update_self _ ho (Obj.isFreed_of_dict (Obj.data_mapDictKeys hd _)),
   hc.mapDictKeys _,Obj.data_mapDictKeys hd _,?_,?_,?_⟩ (Heap.SameBut.update ..))))))
  ·rw[storedH_new (atKey_none_of_get hno)];simp[he,entryOfKey]
  ·rw[storedH_new (atKey_none_of_get hno)];intro x hx;rcases xL.mp hx with hx | hx
   ·exact knd.keeps (his x hx) ho hd (Heap.SameBut.update ..)
   ·simp only[xT] at hx;subst hx;exact knd.keeps hkey ho hd (Heap.SameBut.update ..)
  ·rw[storedH_new (atKey_none_of_get hno)];rw[xO,List.nodup_append];refine⟨hn,by simp,?_⟩;intro x hx y hy;simp only[yI,List.map_nil,xT] at hy;subst hy;exact fun e=>hnot (e▸hx)
 ·intro j p hj;refine wpAny_bind (wpAny_dictEntries (s:={s with toks:=s.toks+knd.draws k }) ho hd ?_);rw[entry_at he j,hj];exact wpAny_bind (wpAny_rule (wpAny_pure (h1 _ (atKey_of_get hn hj))))
theorem XB(knd:HeapKind prog w K)(d a:eF)(hd:(d == sysModules)=false)(dflt:eE) :
  MeetsIn prog w (Builtin.«dict.setdefault» ⟨[.ref d,.ref a,dflt],[]⟩) (fun A R s=>knd.room A.in1/\∃k xs,knd.is s.heap k a/\s.heap.DictOfH knd d xs/\xs.length<=sizeLine /\ (∀p,atKey xs k=some p->R (.ok (.ret p.2)) {s with toks:=s.toks+knd.draws k })/\ (atKey xs k=none->∀h',h'.DictOfH knd d (storedH xs k a dflt)->Heap.SameBut d s.heap h'->R (.ok (.ret dflt)) {s with heap:=h',toks:=s.toks+knd.draws k })) :=
 .of_wp fun A R s ⟨hu,k,xs,hkey,hm,hz,h1,h2⟩=>by
  unfold Builtin.«dict.setdefault»;refine wpAny_bind ?_;unfold Builtin.Dict.keyAndDefault;refine wpAny_bind (wpAny_notOrdered_dict hm.typeIs ?_);show wpAny _ _ (pure (d,Value.ref a,some dflt)) _ _ s;refine wpAny_pure ?_;show wpAny _ _ (if (d == sysModules)=true then _ else (dictSetDefault d (.ref a) dflt >>= _)) _ _ s;rw[if_neg (by rw[hd];exact xM)];exact wpAny_bind (dO hu hkey hm (fun p hp=>wpAny_pure ⟨p.2,rfl,h1 p hp⟩) (fun hn h' hm' hs'=>wpAny_pure ⟨dflt,rfl,h2 hn h' hm' hs'⟩) hz)
end
section
variable{X:Cx}{pins:List (eF×Obj)}{σ:St}{H:Hp}{s:eB}{a b:eF}{z:V}{r:eE}{kvs:List (List ZS×V)}{k:List ZS}{A:eJ}{E:dU}
theorem Ob{Q:dU}(hu:A.units+1 < cLine)(I:ZD X pins σ H s)(e:H a=some (.dT kvs))(eb:H b=some (.tup (k.map kV)))(hl:kvs.length < sizeLine)(rz:ZG z r)(h1:∀v,Zy kvs k=some v->∀w' s',ZD X pins σ H s'->ZG v w'->Q w' s')(h2:Zy kvs k=none->∀s',ZD X pins σ (upd H a (.dT (Z5 kvs k z))) s'->Q r s'):wpAny (model X.prog X.w) A (call (.builtin "dict.setdefault") [.ref a,.ref b,r]) Q E s:=by
 obtain⟨zl,hd,xs,rel,dd⟩:=HA I.hok e;have hz:xs.length<=sizeLine:=by rw[← Paired.length rel];exact zl
 have hl':(Z5 kvs k z).length<=sizeLine:=by have:=Vz kvs k z;lia
 refine call_meetsIn PySem.F.slot_dict_setdefault dd.typeIs PySem.F.entry_dict_setdefault (PySem.F.args_dict_setdefault_3 _ _ _) (XB (tupleKind (Y7 X.prog X.w)) a b hd r) ⟨tupleKind_room_in1 hu,k,xs,Ap I.hok eb,dd,hz,fun p hp=>?_,fun hn h' dd' hs=>?_⟩
 ·have q:=rel.val k;rw[hp,zW] at q;cases hv:Zy kvs k with
  | none=>rw[hv] at q;cases q
  | some v=>rw[hv] at q;exact h1 v hv _ _ (I.tok _) q
 ·have q:=rel.val k;rw[hn,Option.map_none] at q;have hv:Zy kvs k=none:=by
   cases hv:Zy kvs k with
   | none=>rfl
   | some v=>rw[hv] at q;exact(show False from q).elim
  refine h2 hv _ ?_;obtain⟨q,es,ep,hq,e2,e3,e4,_,e5⟩:=dd';refine Df I (by rw[e];exact True.intro) hs ⟨q,hq⟩ ⟨hl',hd,_,(rel.put k eb rz).keeps fun c ys ec=>?_,q,es,ep,hq,e2,e3,e4,e5⟩;rw[Ze (Gj ec e (fun z=>nomatch z))];exact ec
end
inductive TN(ty tx:TE)(σ:St)(Q:VK)(x:V)(H1:Hp):Prop
 |mk(a)(_:x = .ref a)(_:Ey H1 a)(_:ty σ H1 fun y H2=>tx σ H2 fun z H3=>∃kvs k b,H3 a=some (.dT kvs)/\y = .ref b/\H3 b=some (.tup (k.map kV))/\kvs.length < sizeLine/\(∀v,Zy kvs k=some v->Q v H3)/\(Zy kvs k=none->Q z (upd H3 a (.dT (Z5 kvs k z)))))
def Fv(td ty tx:TE):TE:=fun σ H Q=>td σ H fun x H1=>TN ty tx σ Q x H1
section
variable{n:Nat}
theorem Oy(hu:X.A.units+1 < cLine)(ho:PE X o td)(he:PE X e ty)(hf:PE X f tx)(m:M2 X o "setdefault" apos e f cpos):PE X (.Call (.Attribute o "setdefault" apos) [e,f] [] cpos) (Fv td ty tx):=by
 intro pins s σ H Q I h;refine wpAny_Call_method m.base m.few m.line PySem.F.plainAttrs_dict PySem.F.slot_dict_setdefault PySem.F.type_dict_setdefault (thn (ho pins s σ H _ I h) fun u s1 ⟨x,H1,I1,rx,a,ex,d,q1⟩=>?_);subst ex;obtain rfl:u=Value.ref a:=rx;obtain⟨t1,t2,_⟩:=IK I1 d;refine⟨t1,t2,?_⟩;rw[m.trees];refine Calls.callWith_builtin rfl (Calls.evalArgs_plain (Calls.spliced_cons (thn (he pins s1 σ H1 _ I1 q1) fun iv s2 ⟨y,H2,I2,ry,q2⟩=> Calls.spliced_cons (thn (hf pins s2 σ H2 _ I2 q2) fun fv s3 ⟨z,H3,I3,rz,kvs,k,b,ea,ey,eb,hl,q3,q4⟩=>Calls.spliced_nil ?_))));subst ey;obtain rfl:iv=Value.ref b:=ry;exact Ob hu I3 ea eb hl rz (fun v hv w' s4 I4 rw'=>⟨_,_,I4,rw',q3 v hv⟩) fun hn s4 I4=>⟨_,_,I4,rz,q4 hn⟩
theorem P0(hr:ZL n X.A)(ho:QE X o td)(he:QE X e ty)(hf:QE X f tx)(m:M2 X o "setdefault" apos e f cpos:=by exact⟨rfl,rfl,rfl,rfl⟩):QE X (.Call (.Attribute o "setdefault" apos) [e,f] [] cpos) (Fv td ty tx):=⟨Oy (by have:=hr.units;lia) ho.h he.h hf.h m⟩
theorem Ke(hr:ZL n X.A)(ho:QE X o td)(he:QE X e ty)(hf:QE X f tx)(m:M2 X o "get" apos e f cpos:=by exact⟨rfl,rfl,rfl,rfl⟩):QE X (.Call (.Attribute o "get" apos) [e,f] [] cpos) (Ht td ty tx):=⟨OB (by have:=hr.units;lia) ho.h he.h hf.h m⟩
end
theorem Jr{X:Cx}{st:Stmt}:QS X st (fun _ _ _=>False):=⟨fun _ _ _ _ _ _ h=>h.elim⟩
def CV(K:uFg)(l:eF):It :=
 ⟨fun i H=>∃xs,ZE K H l xs/\i < xs.length,fun i H v H'=>∃p a,v = .ref p/\H p=none/\H'=upd H p (.tup [.int i,a])/\∀xs,ZE K H l xs->xs[i]? = some a,
  fun i H=>∃xs,ZE K H l xs/\xs.length<=i⟩
theorem Na{P:eG}{w:eI}{K:uFg}{elts:List Expr}{ek:Nat}{epos:Pos}{e it l:eF}(hei:e≠it)(hle:l≠e)(hli:l≠it) :
  VI P w K (.Tuple elts ek epos) (CV K l) [e,it] e (fun i h=>(∃old,IsEnum h e it i old)/\h.IsListIter it l i) where
 mem:=by simp
 obj:=fun i h st b hb=>by
  obtain⟨⟨old,he⟩,⟨o,ho,hc,hd⟩⟩:=st;simp only[xC,xS,or_false] at hb;rcases hb with rfl | rfl
  ·exact⟨_,he,fun v q=>by cases q⟩
  ·exact⟨o,ho,fun v q=>by rw[hd] at q;cases q⟩
 keep:=fun i h h' st k=>by
  obtain⟨⟨old,he⟩,hit⟩:=st;exact⟨⟨old,k e (by simp) _ he⟩,hit.at fun o x=>k it (by simp) o x⟩
 item:=by
  intro X hP hw hK hc i pins s σ H E I hf st hg;subst hP hw hK;obtain⟨⟨old,he⟩,hit⟩:=st;obtain⟨xs,q1,hx⟩:=hg;obtain⟨its,r1,w1,_⟩:=I.list q1;have gx:xs[i]? = some xs[i]:=xB hx;obtain⟨u1,hu1,ru1⟩:=r1.get gx;refine wpAny_pyNext_enum_item he hit w1.isList (by simpa using hu1) hei fun h' ho hit' hT hsz kp=>?_;refine⟨_,rfl,?_⟩;have hp:H s.heap.objs.size=none:=I.hok.fresh (xD _);have ltp:∀c o,s.heap.get? c=some o->c≠s.heap.objs.size:=fun c o e=>yG (xQ e);have kp':∀c o,c ∉ [e,it]->s.heap.get? c=some o->h'.get? c=some o:=fun c o hc e=>kp c o (fun q=>hc (by simp[q])) (fun q=>hc (by simp[q])) e;have ntr:∀c u,H c=some u->c ∉ [e,it]:=fun c u e hc=>by
   have:=(hf c hc).1;rw[this] at e;cases e
  have I1:ZD X pins σ (upd H s.heap.objs.size (.tup [.int i,xs[i]])) {s with heap:=h',toks:=s.toks+1 }:=by
   refine I.step (g':=s.gens) (d':=s.drawn) (t':=s.toks+1) (ch:=[e,it]) (fun c hc=>?_) (fun c o _ _ hc e _=>kp' c o hc e) (fun c o _ _ hc e _=>⟨o.slots,kp' c o hc e⟩) (fun c o hc e n=>by rw[Ze (ltp c o e)];exact n)
    (fun c o hc e=>⟨o,kp' c o hc e⟩) (fun c us e=>by rw[Ze (Zm e hp)];exact e) (fun c o u e=>by rw[Ze (Zm e hp)];exact e) (fun c ps e=>⟨#[],by rw[Ze (Zm e hp),e];simp⟩) (fun m hm=>?_) ?_ I.bare
   ·obtain⟨f0,f1,f2,f3,f4,f5⟩:=hf c hc;exact⟨f3,f1,f4,f5⟩
   ·refine hm.at fun o e=>kp' _ o (fun hc=>?_) e;exact(hf _ hc).2.1 rfl
   ·intro c u e
    by_cases hcp:c=s.heap.objs.size
    ·subst hcp;rw[Zg] at e;cases e;exact⟨by show 2<=sizeLine;decide,[.int i s.toks,u1],.cons ⟨s.toks,rfl⟩ (.cons ru1 .nil),⟨_,hT,rfl,_,rfl⟩⟩
    ·rw[Ze hcp] at e;refine(I.hok c u e).stay (fun d v hd q=>kp' d v ?_ q) (fun d q=>by rw[Ze (Zm q hp)];exact q) fun d us q=>by rw[Ze (Zm q hp)];exact q
     rcases hd with rfl | hd
     ·exact ntr _ u e
     ·exact ntr _ _ hd
  refine wpAny_letOwnedTupleGo_enum (s:={s with heap:=h',toks:=s.toks+1 }) ho fun h2 z2 e2=>?_;obtain⟨f0,f1,f2,f3,f4,f5⟩:=hf e (by simp);have nz:e≠s.heap.objs.size:=ltp e _ he;have I2:ZD X pins σ (upd H s.heap.objs.size (.tup [.int i,xs[i]])) {s with heap:=h2,toks:=s.toks+1 }:=I1.turned (s:={s with heap:=h',toks:=s.toks+1 }) (it:=e) (t':=s.toks+1) (fun c o hc e=>(e2.2 c hc).trans e) (by rw[Ze nz];exact f0) f1 f3 f4 f5;have z2':IsEnum h2 e it ((i+1:Nat):Int) u1:=by grind
  refine⟨.ref s.heap.objs.size,_,I2,rfl,⟨s.heap.objs.size,xs[i],rfl,hp,rfl,fun xs' q1'=>?_⟩,⟨⟨_,z2'⟩,hit'.at fun o x=>(e2.2 it hei.symm).trans x⟩,fun c hc=>?_⟩
  ·rw[I.list_inj q1' q1];exact gx
  ·obtain⟨o,ho⟩:∃o,s.heap.get? c=some o:=by
    simp only[xC,xS,or_false] at hc;rcases hc with rfl | rfl
    ·exact⟨_,he⟩
    ·obtain⟨o,x,_⟩:=hit;exact⟨o,x⟩
   rw[Ze (ltp c o ho)];exact(hf c hc).1
 done:=by
  intro X hP hw hK hc i pins s σ H E I hf st hg;subst hP hw hK;obtain⟨⟨old,he⟩,hit⟩:=st;obtain⟨xs,q1,hend⟩:=hg;obtain⟨its,r1,w1,_⟩:=I.list q1;refine wpAny_pyNext_enum_end (I.ok.hd hc) he hit w1.isList (by have e1:=r1.length;simp;lia) fun h' kp=>⟨rfl,?_⟩;obtain⟨f0,f1,f2,f3,f4,f5⟩:=hf it (by simp);exact I.turned (it:=it) (t':=s.toks) (fun c o hc e=>kp c o hc e) f0 f1 f3 f4 f5
 self:=fun A i s Q E st h=>by
  obtain⟨⟨old,he⟩,_⟩:=st;exact wpAny_pyIter_enum he h
inductive AC(K:uFg)(R:It->Hp->Prop)(vs:List V)(H1:Hp):Prop
 |mk(l xs)(_:vs = [.ref l])(_:ZE K H1 l xs)(_:R (CV K l) H1)
def La(K:uFg)(ta:TA):TI:=fun σ H R=>ta σ H fun vs H1=>AC K R vs H1
theorem QZ:bootBuiltins "enumerate" = some (.type "enumerate"):=by decide +kernel
theorem cD(hg:Gl X "enumerate")(hm:X.mg "enumerate" = none)(ha:PA X [a] ta)(hs:starEach [a] X.env = [(false,eval a X.env)]:=by rfl) :
  PI X (.Tuple elts ek epos) (.Call (.Name "enumerate" p) [a] [] pos) (La X.K ta):=by
 intro pins s σ H R I h;refine Call_ (JE I hg hm QZ (PyProof.Rows.callWith_type1 (thn (ha pos pins s σ H _ I h) fun us s1 ⟨vs,H1,I1,r1,q1⟩=>?_) hs rfl));obtain⟨l,xs,e,h1,q⟩:=q1;subst e;obtain⟨u1,rfl,ru1⟩:=Up r1;cases ru1;obtain⟨its,r1,p1,_⟩:=I1.list h1;have b1:l < s1.heap.objs.size:=by obtain⟨o,n,e,_⟩:=p1;exact xQ e
 refine call_enumerate_list p1.isList fun h' z0 st1 _ kp=>?_;refine wpAny_pyIter_enum z0 ?_;have b1' : @LT.lt Nat _ l s1.heap.objs.size:=b1;have key:∀(a b:Nat),(a < b\/b < a)->¬(@Eq Nat a b):=fun a b h q=>by lia
 refine⟨s1.heap.objs.size+1,_,_,_,H1,rfl,I1.kept (h':=h') (t':=s1.toks) kp,Na (it:=s1.heap.objs.size) (l:=l) (key _ _ (by lia)) (key _ _ (by lia)) (key _ _ (by lia)),⟨⟨_,z0⟩,st1⟩,fun c hc=>?_,q⟩;have hle:s1.heap.objs.size<=c:=by grind
 exact I1.fpOk hle (I1.hok.fresh hle)
theorem KA{X:Cx}{a:Expr}{ta:TA}{p pos:Pos}{elts:List Expr}{ek:Nat}{epos:Pos}(hm:X.mg "enumerate" = none)(ha:QA X [a] ta)(hg:nB X "enumerate" .globalImplicit:=by kernel_rfl)(hs:starEach [a] X.env = [(false,eval a X.env)]:=by rfl) :
  QI X (.Tuple elts ek epos) (.Call (.Name "enumerate" p) [a] [] pos) (La X.K ta):=⟨cD (od hg).1 hm ha.h hs⟩
theorem Oa{K:uFg}{l:eF}{g:TG}{tb:TS}{D:YI}{σ:St}{H:Hp}(xs:List V)(Pv:Nat->St->Hp->Prop)(h0:Pv 0 σ H)(hl:∀i σ H,i<=xs.length->Pv i σ H->ZE K H l xs)(hs:∀i x p σ H,xs[i]? = some x->Pv i σ H->H p=none->g (.ref p) σ (upd H p (.tup [.int i,x])) fun σ2 H2=>tb {D with nx:=Pv (i+1),ct:=Pv (i+1),bk:=D.nx } σ2 H2)(hd:∀ σ H,Pv xs.length σ H->D.nx σ H):Az (CV K l) g tb D σ H:=by
 refine⟨fun i m σ H=>m=xs.length - i/\i<=xs.length/\Pv i σ H,⟨xs.length,by simp,yL _,h0⟩,?_⟩;rintro i m σ H ⟨rfl,hi,p⟩;have q1:=hl i σ H hi p
 by_cases hlt:i < xs.length
 ·refine .inr ⟨⟨xs,q1,hlt⟩,Pv (i+1),fun σ' H' p'=>⟨xs.length - (i+1),by lia,rfl,hlt,p'⟩,fun v H' y=>?_⟩;obtain⟨pp,a,rfl,hp,rfl,hv⟩:=y;exact hs i a pp σ H (hv xs q1) p hp
 ·have e:i=xs.length:=by lia
  subst e;exact .inl ⟨⟨xs,q1,xD _⟩,hd σ H p⟩
structure ZQ (K:uFg) (C:eF) (m qual:Str) (st:Stmt):Prop where
 ex:∃(f:eF)(fd:FuncData),Tn K m qual st f fd/\TC K C m f
structure Mt (P:eG) (w:eI) (K:uFg) (mg:dW) (base:Heap) (C:eF) (m:Str) (ps:dX) (k:Nat) (sp:Sp):Prop where
 ex:∃(f:eF)(fd:FuncData),TC K C m f/\YF P w K mg base VA k f fd ps sp/\YM K fd ps []
section
variable{P:eG}{w:eI}{K:uFg}{mg:dW}{base:Heap}{C:eF}{m qual:Str}{st:Stmt}{N ps:dX}{k:Nat}{sp:Sp}
theorem ZQ.mtQ(h:ZQ K C m qual st)(S:ZM N ps (Zp st))(hb:∀ (kV doc pm:eE) (an:Option eF) (cdv ct:eE) (us:dY),us.length=ps.length->bindArgs (PySem.W.fnOf m qual (Va st) (Yq st) (Zp st) .none kV doc pm an cdv ct) ⟨us,[]⟩=pure (ps.zip us))(len:∀vs H Q E,sp vs H Q E->vs.length=ps.length)(hbody:∀ (f:eF) (cdv:eE) (A:eJ) (outer:List Env) (s:eB) (H:Hp) (vs:List V) (Q:VK) (E:XK),ZL k (A.deeper (envOfC qual (Zp st) s.heap.objs.size f cdv))->sp vs H Q E -> ∃t,WW (Y2 VA P w K mg base N qual (Zp st) f cdv A outer s H E).nox (Yq st) t/\t {nx:=fun _ H'=>Q .non H',rt:=Q } (start N vs) H):Mt P w K mg base C m ps (k+1) sp:=by
 obtain⟨f,fd,F,M⟩:=h.ex;exact⟨f,fd,M,F.okQ S len (hbody f),F.binds hb⟩
theorem ZQ.mq(h:ZQ K C m qual st)(N:dX)(hbody:∀{f:eF}{cdv:eE}{A:eJ}{outer:List Env}{s:eB}(H:Hp) (vs:List V) (Q:VK) (E:XK),ZL k (A.deeper (envOfC qual (Zp st) s.heap.objs.size f cdv))->sp vs H Q E->vs.length=ps.length/\∃t,WW (Y2 VA P w K mg base N qual (Zp st) f cdv A outer s H E).nox (Yq st) t/\t {nx:=fun _ H'=>Q .non H',rt:=Q } (start N vs) H)(S:ZM N ps (Zp st):=by exact fsc)(hk:k<=60:=by decide)(hb:∀ (kV doc pm:eE) (an:Option eF) (cdv ct:eE) (us:dY),us.length=ps.length->bindArgs (PySem.W.fnOf m qual (Va st) (Yq st) (Zp st) .none kV doc pm an cdv ct) ⟨us,[]⟩=pure (ps.zip us):=by exact fun _ _ _ _ _ _=>by first | exact al1 fun _=>rfl | exact al2 fun _ _=>rfl | exact al3 fun _ _ _=>rfl | exact al4 fun _ _ _ _=>rfl | exact al5 fun _ _ _ _ _=>rfl | exact al6 fun _ _ _ _ _ _=>rfl | exact al7 fun _ _ _ _ _ _ _=>rfl | exact al8 fun _ _ _ _ _ _ _ _=>rfl):Mt P w K mg base C m ps (k+1) sp :=
 h.mtQ S hb (fun vs H Q E h=>(hbody (f:=0) (cdv:=.none) (A:={}) (outer:=[]) (s:={}) H vs Q E (C6 hk) h).1) fun _ _ _ _ _ H vs Q E hr q=>(hbody H vs Q E hr q).2
theorem RB{f:eF}{oc:eE}{od an:Option eF}{osl:Array (Option eE)}{kV doc pm cdv ct:eE}(a:PySem.W.findIn K (.ref C) m=some (some (.ref f)))(i:PySem.W.isFn K (.ref f)=true)(l:K.lookup f=some ⟨oc,od,.func (PySem.W.fnOf m qual (Va st) (Yq st) (Zp st) .none kV doc pm an cdv ct),osl⟩)(c:PySem.W.codeIn K cdv qual=true)(kp:PySem.W.keepIn K (.ref f)=true):ZQ K C m qual st:=⟨f,_,Ff l c kp,⟨a,i,kp⟩⟩
theorem hMQ(C:eF)(m qual:Str)(st:Stmt)(f c:eF)(pm:eE)(e:PySem.W.findIn K (.ref C) m=some (some (.ref f))/\PySem.W.isFn K (.ref f)=true/\K.lookup f=some ⟨.type "function", none,.func (PySem.W.fnOf m qual (Va st) (Yq st) (Zp st) .none .none .none pm none (.ref c) .none),#[]⟩/\PySem.W.codeIn K (.ref c) qual=true/\PySem.W.keepIn K (.ref f)=true):ZQ K C m qual st:=RB e.1 e.2.1 e.2.2.1 e.2.2.2.1 e.2.2.2.2
structure Cw (P:eG) (w:eI) (K:uFg) (mg:dW) (base:Heap) (C:eF) (x:Str) (k:Nat) (sp:Sp):Prop where
 ex:∃(f:eF)(fd:FuncData),Mk K C f/\YF P w K mg base VA k f fd ["self"] sp/\YM K fd ["self"] []/\mg x=some (.ref C)
theorem Mt.mks(h:Mt P w K mg base C "__init__" ["self"] k sp)(mk:PySem.W.makesIn K C=true)(kc:PySem.W.keepIn K (.ref C)=true)(g:mg x=some (.ref C)):Cw P w K mg base C x k sp:=by
 obtain⟨f,fd,M,F,B⟩:=h.ex;exact⟨f,fd,⟨mk,M.at_,M.fn,kc⟩,F,B,g⟩
end
section
variable{X:Cx}{C:eF}{m x f:Str}{ps:dX}{k:Nat}{sp:Sp}{o e i:Expr}{es:List Expr}{ta:TE}{t:TA}{apos pos p:Pos}
theorem Yn{pl:Sem Bool}(he:QE X o ta)(c:UO X.K C)(M:Mt X.prog X.w X.K X.mg X.base C m ps k sp)(ha:QA X (e::es) t)(hr:ZL k X.A:=by exact ZL.mono (by assumption) (by first | decide | lia))(hst:starEach (e::es) X.env=(false,eval e X.env)::starEach es X.env:=by rfl)(hpl:(backTo pos (starEach es X.env)).any (·.1)=false:=by rfl)(ht:eval (.Call (.Attribute o m apos) (e::es) [] pos) X.env=(do
   let ov ← eval o X.env
   standAt apos.atName
   let (f,first) ← holding [ov] (getMethod ov m pl)
   callWith pos f first (backTo pos (starEach (e::es) X.env)) (backToKw pos (keywordEach [] X.env))):=by rfl) :
  QE X (.Call (.Attribute o m apos) (e::es) [] pos) (Dd C m sp [] E0 ta t):=by
 obtain⟨f,fd,M,F,B⟩:=M.ex;exact⟨Om he.h c M F hr B .nil CH ha.h hst hpl ht⟩
theorem Et{pl:Sem Bool}(he:QE X o ta)(c:UO X.K C)(M:Mt X.prog X.w X.K X.mg X.base C m ps k sp)(hr:ZL k X.A:=by exact ZL.mono (by assumption) (by first | decide | lia))(ht:eval (.Call (.Attribute o m apos) [] [] pos) X.env=(do
   let ov ← eval o X.env
   standAt apos.atName
   let (f,first) ← holding [ov] (getMethod ov m pl)
   callWith pos f first (backTo pos (starEach [] X.env)) (backToKw pos (keywordEach [] X.env))):=by rfl) :
  QE X (.Call (.Attribute o m apos) [] [] pos) (Dd C m sp [] E0 ta Vl):=by
 obtain⟨f,fd,M,F,B⟩:=M.ex;exact⟨ON he.h c M F hr B .nil CH ht⟩
theorem KM(M:Cw X.prog X.w X.K X.mg X.base C x k sp)(hr:ZL (k+1) X.A:=by exact ZL.mono (by assumption) (by first | decide | lia))(n:nB X x .globalImplicit:=by kernel_rfl):QE X (.Call (.Name x p) [] [] pos) (Gs C sp [] E0 Vl):=by
 obtain⟨f,fd,M,F,B,g⟩:=M.ex;exact⟨OF M F hr (od n).1 g B .nil CH (od n).2.1⟩
theorem Zw(he:QE X e ta)(hb:attributeBase e f X.env (eval e X.env)=eval e X.env:=by rfl):QE X (.Attribute e f pos) (E2 X.K ta f):=⟨Ii he.h hb⟩
theorem Vw(ha:QE X o ta)(hv:QE X value tv)(hs:swapsWith value (some (.Attribute o f pos')) pos.line X.env=pure false:=by rfl):QS X (.Assign [.Attribute o f pos'] value pos) (Gu X.K ta tv f):=⟨NI ha.h hv.h hs⟩
theorem Bg:QE X (.Dict [] [] pos) GY:=⟨XO⟩
theorem Ar(hr:ZL k X.A)(ho:QE X o td)(hi:QE X i ty)(hs:En i):QE X (.Subscript o i pos) (He td ty):=⟨PK (by have:=hr.units;lia) ho.h hi.h hs⟩
theorem Xx(hk:QE X ek tk)(hv:QE X ev tw):QE X (.Dict [some ek] [ev] pos) (FI [(tk,tw)]):=⟨Oh (dJ hk.h hv.h Xj) rfl rfl (by simp) (by show 1<=15;decide)⟩
inductive Bx(xs:List V)(H:Hp)(Q:VK):Prop
 |mk(a kvs)(_:xs = [V.ref a])(_:H a=some (.dK kvs))(_:Q (.int kvs.length) H)
theorem KW:QC X (.builtin "len") Bx:=.imp ⟨Og⟩ fun _ _ _ ⟨p,y,a,b,k⟩=>⟨p,y,a,b,k⟩
end
theorem OM(he:QE (ccx X scope cl C N' s0 H0 ex pn) e ta)(hb:attributeBase e f (ccx X scope cl C N' s0 H0 ex pn).env (eval e (ccx X scope cl C N' s0 H0 ex pn).env)=eval e (ccx X scope cl C N' s0 H0 ex pn).env:=by rfl):QE (ccx X scope cl C N' s0 H0 ex pn) (.Attribute e f pos) (E2 X.K ta f):=⟨Ii (X:=ccx X scope cl C N' s0 H0 ex pn) he.h hb⟩
def stS(r:dX)(x:Str):List Str:=if r.any (· == x) then r else r ++ [x]
def fmS(val:Nat->Str):Nat->List Str
 | 0=>[]
 | i+1=>stS (fmS val i) (val i)
theorem DE(val:Nat->Str):∀i,(fmS val i).length<=i
 | 0=>xD _
 | i+1=>by
  have ih:=DE val i;unfold fmS stS;split
  ·lia
  ·rw[xE,zG];lia
theorem Pq(r:dX)(v k:Str):(stS r v).any (· == k)=(r.any (· == k) || decide (k=v)):=by
 unfold stS
 by_cases h:r.any (· == v)=true
 ·rw[if_pos h]
  by_cases e:k=v
  ·subst e;rw[h];simp
  ·simp[e]
 ·grind
theorem OU(r:dX)(v:Str):(stS r v).length=if r.any (· == v) then r.length else r.length+1:=by
 unfold stS;split<;>simp
section
variable{prog:eG}{w:eI}{A:eJ}{R:Result->eB->Prop}{I:eF}{fp wr:eA}{G:Array GenState->Array GenState->Prop}{n:Nat}{P:Nat->eE->Prop}{St:Nat->eB->Prop}
theorem NF(W:WalksS prog w A.in1 I fp wr G n P St)(S:eF)(hSf:S∉fp)(val:Nat->Str)(hval:∀i v,P i v->∃t,v = .str (val i) t)(hb:n+1 < scanBound) :
  ∀(k i:Nat)(s:eB),n - i=k->i<=n->St i s->s.heap.SetOf (strKind prog w) S (fun k'=>(fmS val i).any (· == k')) (fmS val i).length ->
   (∀s',Moved (S::wr) G s s'->s'.heap.SetOf (strKind prog w) S (fun k'=>(fmS val n).any (· == k')) (fmS val n).length->R (.ok (.ret .none)) s')->
   codeAny (model prog w) A (.builtin "set.update.loop" ⟨[.ref S,.ref I],[]⟩) R s:=by
 have hSw:S∉wr:=fun h=>hSf (W.sub _ h);have hsub:∀b∈wr,b∈S::wr:=fun b hb=>xN _ hb;intro k
 induction k with
 | zero =>
  intro i s hk hi hst hS hR;have hin:i=n:=by lia
  subst hin;refine codeAny_builtin F.entry_set_update_loop ?_;rw[Around.under_plainId F.plain_set_update_loop _];show wpAny _ A.in1 (pyNext (.ref I) >>= _) _ _ s;refine wpAny_bind (W.done s _ _ hst fun s' hm=>?_);show wpAny _ A.in1 (ret Value.none) _ _ s'
  exact wpAny_pure (hR s' (hm.mono hsub) (by
   obtain⟨o,es,ep,t,ho,rest⟩:=hS
   exact⟨o,es,ep,t,hm.heap S _ hSw ho,rest⟩))
 | succ k ih =>
  intro i s hk hi hst hS hR;have hlt:i < n:=by lia
  refine codeAny_builtin F.entry_set_update_loop ?_;rw[Around.under_plainId F.plain_set_update_loop _];show wpAny _ A.in1 (pyNext (.ref I) >>= _) _ _ s;refine wpAny_bind (W.item i s _ _ hlt hst fun v s' hP hst' hm=>?_);obtain⟨t,rfl⟩:=hval i v hP;have hS':s'.heap.SetOf (strKind prog w) S (fun k'=>(fmS val i).any (· == k')) (fmS val i).length:=by
   obtain⟨o,es,ep,tb,ho,rest⟩:=hS;exact⟨o,es,ep,tb,hm.heap S _ hSw ho,rest⟩
  show wpAny _ A.in1 (holding [Value.str (val i) t] (setAdd S (.str (val i) t)) >>= _) _ _ s';refine wpAny_bind (wpAny_holding ?_);unfold setAdd;refine wpAny_holding ?_;refine wpAny_bind ((strKind prog w).pyHash (k:=val i) (strKind_is _ _ _ _) ?_);have hroom:(fmS val i).length+1 < scanBound:=by have:=DE val i;lia
  refine wpAny_setAddHashed_of (knd:=strKind prog w) (s:={s' with toks:=s'.toks+1 }) (strKind_is _ _ _ _) rfl hS' hroom fun h' hsb hS2=>?_;have hSi:h'.SetOf (strKind prog w) S (fun k'=>(fmS val (i+1)).any (· == k')) (fmS val (i+1)).length:=SetOf_congr hS2 (fun k'=>(Pq _ _ _).symm) (OU _ _).symm;refine wpAny_pure ⟨plainId_quiet F.plain_set_update_loop _,ih (i+1) _ (by lia) hlt (W.frame _ s' _ _ hst' (Nat.le_succ _) fun b hb o e=>?_) hSi fun s'' hm'' hS''=>?_⟩
  ·rw[hsb.2 b (fun h:b=S=>hSf (by rw[← h];exact hb))];exact e
  ·refine hR s'' (Moved.trans W.gtrans ((hm.mono hsub).then_heap (Nat.le_succ _) fun b o hb e=>?_) hm'') hS'';rw[hsb.2 b (fun h:b=S=>hb (by rw[h];exact xY))];exact e
end
section
variable{prog:eG}{w:eI}{A:eJ}{E:dU}{s:eB}
theorem Nh{l:eF}{items:Array eE}{val:Nat->Str}{Q:dU}(hh:A.handled=none)(hl:s.heap.IsList l items)(hval:∀ (i:Nat) (v:eE),items[i]? = some v->∃t,v = .str (val i) t)(hb:items.size+1 < scanBound)(h:∀ (h':Heap) (tk:Nat),h'.SetOf (strKind prog w) s.heap.objs.size (fun k'=>(fmS val items.size).any (· == k')) (fmS val items.size).length -> (∀b o,b < s.heap.objs.size->s.heap.get? b=some o->h'.get? b=some o)->Q (.ref s.heap.objs.size) {s with heap:=h',toks:=tk }) :
  wpAny (model prog w) A (call (.type "set") [.ref l]) Q E s:=by
 obtain⟨c,tl,hmro⟩:=F.called_set.mro;have hmade:=F.called_set.made;have hsub:=F.called_set.sub;refine wpAny_call (codeAny_of_tree ?_);show wpAny _ _ (callAny (.type "set") _) _ _ _;refine wpAny_pure ⟨Code.quiet_builtin _ (by decide +kernel),codeAny_builtin F.entry_type_call ?_⟩;rw[Around.under_plain (weight_type_call_type "set" [.ref l] []) rfl];have h1:=F.called_set.notType;have h2:=F.called_set.canCreate;have hct:=F.typeCall_set_1 (.ref l)
 repeat (any_goals (first | assumption | wp_step))
 refine codeAny_mono (code_set_new_1 (.ref l) (E:=E) (Q₁:=fun obj s₁=>∃led:Bool,obj = .ref s.heap.objs.size/\s₁={s with heap:=s.heap.push {cls:=.type "set", dict:=none,data:=.set #[] 0 (.fresh 0 0 led) } }) fun led=>⟨led,rfl,rfl⟩) fun r s₁ hr=>?_;cases r with
 | error e=>exact hr
 | ok fl =>
  cases fl with
  | ret obj =>
   obtain⟨led,rfl,rfl⟩:=hr;have hS:(s.heap.push {cls:=.type "set", dict:=none,data:=.set #[] 0 (.fresh 0 0 led) }).get? s.heap.objs.size=some {cls:=.type "set", dict:=none,data:=.set #[] 0 (.fresh 0 0 led) }:=xW _ rfl;have hT:Shared.TypeIs {s with heap:=s.heap.push {cls:=.type "set", dict:=none,data:=.set #[] 0 (.fresh 0 0 led) } } (.ref s.heap.objs.size) "set" := ⟨_,hS,rfl⟩;have hli:=F.called_set.init.lookup;have hbi:=F.called_set.init.bind (.ref s.heap.objs.size)
   repeat (any_goals (first | assumption | wp_step))
   refine codeAny_mono (codeAny_call_builtin (R:=wants (fun r s₂=>r = .none/\∃h' tk,s₂={s with heap:=h',toks:=tk }/\h'.SetOf (strKind prog w) s.heap.objs.size (fun k'=>(fmS val items.size).any (· == k')) (fmS val items.size).length /\ (∀b o,b < s.heap.objs.size->s.heap.get? b=some o->h'.get? b=some o)) E) F.called_set.init.plain F.entry_set_init (check_set_init_1 hT ?_)) fun r₂ s₂ hr₂=>?_
   ·obtain⟨ol,hol,hcl,nl,hdl⟩:=hl;obtain⟨ocls,odict,odata,oslots⟩:=ol;simp only at hcl hdl;subst hcl;subst hdl;have hol':(s.heap.push {cls:=.type "set", dict:=none,data:=.set #[] 0 (.fresh 0 0 led) }).get? l=some {cls:=.type "list", dict:=odict,data:=.seq items nl,slots:=oslots }:=xG _ hol;have hsls:=F.sub_list_set;have hslf:=F.sub_list_frozenset;have hne:(Value.type "list" == Value.type "dict")=false:=by decide
    have hl1:(s.heap.push {cls:=.type "set", dict:=none,data:=.set #[] 0 (.fresh 0 0 led) }).IsList l items:=⟨_,hol',rfl,nl,rfl⟩;unfold Builtin.«set.__init__» noKeywords Builtin.Frozenset.updateFrom;generalize hPI:pyIter=PI
    wp_walk
    subst hPI;refine wpAny_pyIter_list hl1 ?_;refine wpAny_bind (wpAny_runValue ?_);have hlS:l < s.heap.objs.size:=xQ hol;have hh3:A.in1.in1.in1.handled=none:=by simp[hh]
    have hneI:l≠(s.heap.push {cls:=.type "set", dict:=none,data:=.set #[] 0 (.fresh 0 0 led) }).objs.size:=by
     rw[zT];exact yG (Nat.lt_succ_of_lt hlS)
    have hSf:s.heap.objs.size ∉ [(s.heap.push {cls:=.type "set", dict:=none,data:=.set #[] 0 (.fresh 0 0 led) }).objs.size,l]:=by
     rw[zT];simp only[xC,xT,xS,or_false,not_or];exact⟨yG (Nat.lt_succ_self _),Nat.ne_of_gt hlS⟩
    refine NF ((Walks.list hh3 _ l hneI items).toS) s.heap.objs.size hSf val hval hb (items.size - 0) 0 _ (by lia) (yL _) ⟨⟨_,xW _ rfl,rfl,rfl⟩,(hl1.push _)⟩ ?hS0 ?hR
    case hS0 =>
     have hget:((s.heap.push {cls:=.type "set", dict:=none,data:=.set #[] 0 (.fresh 0 0 led) }).push {cls:=.type "list_iterator", data:=.fields #[.ref l,.int 0 0] }).get? s.heap.objs.size
       = some {cls:=.type "set", dict:=none,data:=.set #[] 0 (.fresh 0 0 led) }:=xG _ hS
     exact SetOf_congr ((setObjOf_fresh (knd:=strKind prog w) led).setOf hget (by unfold scanBound;lia)) (fun _=>rfl) rfl
    case hR =>
     intro s' hm hS';obtain⟨h',g',d',tk',os'⟩:=s';have eg:g'=s.gens:=hm.gens;have ed:d'=s.drawn:=hm.drawn;have eo:os'=s.os:=hm.os;subst eg;subst ed;subst eo;show wpAny _ _ _ _ _ _;refine wpAny_pure ?_;show wpAny _ _ (ret Value.none) _ _ _;refine wpAny_pure ⟨rfl,h',tk',rfl,hS',fun b o hb e=>?_⟩;have hb1:b≠s.heap.objs.size:=yG hb;have hb2:b≠(s.heap.push {cls:=.type "set", dict:=none,data:=.set #[] 0 (.fresh 0 0 led) }).objs.size:=by
      rw[zT];exact yG (Nat.lt_succ_of_lt hb)
     exact hm.heap b o (by simp only[xC,xT,xS,or_false,not_or];exact⟨hb1,hb2⟩) (xG _ (xG _ e))
   ·cases r₂ with
    | error e=>exact hr₂
    | ok fl₂ =>
     cases fl₂ with
     | ret r =>
      obtain⟨rfl,h',tk,rfl,hS',hk'⟩:=hr₂
      repeat (any_goals (first | assumption | wp_step))
      exact h _ _ hS' hk'
     | _=>exact hr₂.elim
  | _=>exact hr.elim
end
def ER(xs:dX):Nat:=(xs.foldl stS []).length
theorem Ij(xs:dX):∀n,n<=xs.length->fmS (fun i=>xs.getD i "") n=(xs.take n).foldl stS []
 | 0,_=>rfl
 | n+1,h=>by
  show stS (fmS _ n) _=_;rw[Ij xs n (by lia),List.take_succ_eq_append_getElem (by lia),zZ];show stS _ (xs.getD n "")=stS _ (xs[n]);rw[xZ,xB (by lia)];rfl
inductive TU(K:uFg)(Q:VK)(vs:List V)(H1:Hp):Prop
 |mk(l) (xs)(_:vs = [.ref l])(_:ZE K H1 l (xs.map V.str))(_:xs.length<=1000)(_:Q (.int (ER xs)) H1)
def Fu(K:uFg)(ta:TA):TE:=fun σ H Q=>ta σ H fun vs H1=>TU K Q vs H1
theorem Rn{a:Expr}{ta:TA}{p q pos pos':Pos}(hc:X.calm=true)(hgl:Nm X.env.scope "len" .globalImplicit)(hml:X.mg "len" = none)(hg:Nm X.env.scope "set" .globalImplicit)(hm:X.mg "set" = none)(ha:PA X [a] ta)(hs:starEach [a] X.env = [(false,eval a X.env)]:=by rfl)(hs2:starEach [.Call (.Name "set" p) [a] [] pos] X.env = [(false,eval (.Call (.Name "set" p) [a] [] pos) X.env)]:=by rfl) :
  PE X (.Call (.Name "len" q) [.Call (.Name "set" p) [a] [] pos] [] pos') (Fu X.K ta):=by
 intro pins s σ H Q I h;refine wpAny_Call_Name_kw (JE I hgl.1 hml (show bootBuiltins "len" = some (.builtin "len") by decide +kernel) ?_ hgl.2.2.2 hgl.2.1);refine PyProof.Rows.callWith_builtin1 ?_ hs2 rfl;rw[hs2];refine Calls.spliced_cons ?_;refine wpAny_Call_Name_kw (JE I hg.1 hm (show bootBuiltins "set" = some (.type "set") by decide +kernel) (PyProof.Rows.callWith_type1 (thn (ha pos pins s σ H _ I h) fun us s1 ⟨vs,H1,I1,r1,l,xs,e,hL,hn,q1⟩=>?_) hs rfl) hg.2.2.2 hg.2.1);subst e;cases r1 with
 | cons r rr =>
  cases rr;obtain rfl:=r;obtain⟨its,r,pl,hz⟩:=I1.list hL;have hlen:its.length=xs.length:=by rw[← r.length,xA]
  obtain⟨o,n,e1,e2,e3,e4⟩:=pl;have hval:∀(i:Nat)(v:eE),its.toArray[i]? = some v->∃t,v = .str (xs.getD i "") t:=fun i v hv=>by
   rw[← wA] at hv;have hi:i < its.length:=by have:=(xH.mp hv).1;simpa using this
   obtain⟨u,eu,t,ru⟩:=r.get (i:=i) (x:=.str (xs.getD i "")) (by rw[xI,xB (by lia),xZ,xB (by lia)];rfl);have hv:its[i]? = some v:=hv;rw[hv] at eu;cases eu;exact⟨t,ru⟩
  have hsz:its.toArray.size=xs.length:=by rw[xP,hlen]
  refine Nh (items:=its.toArray) (val:=fun i=>xs.getD i "") (I1.ok.hd hc) ⟨o,e1,e2,n,e4⟩ hval (by unfold scanBound;lia) fun h' tk hS hk=>?_;rw[hsz] at hS;have I2:ZD X pins σ H1 {s1 with heap:=h',toks:=tk }:=I1.kept fun b u e=>hk b u (xQ e) e;refine Calls.spliced_nil ?_;obtain⟨o2,ho,hso⟩:=hS.objOf;obtain⟨hex,es,ep,t,hd,_,_,hnn,hf⟩:=hso;have hle:=DE (fun i=>xs.getD i "") xs.length;have hlt:(es.size:Int) < 2 ^ 63:=Int.lt_of_le_of_lt (show (es.size:Int)<=1000 by lia) (by decide);refine call_len_set (s:={s1 with heap:=h',toks:=tk }) ho hex hd hf hlt ?_;refine⟨.int es.size,H1,I2.tok _,⟨_,rfl⟩,?_⟩;have e:es.size=ER xs:=by
   rw[hnn,Ij xs xs.length (xD _),yC];rfl
  rw[e];exact q1
theorem QX{a:Expr}{ta:TA}{p q pos pos':Pos}(hc:X.calm=true)(hml:X.mg "len" = none)(hm:X.mg "set" = none)(ha:QA X [a] ta)(hgl:nB X "len" .globalImplicit:=by kernel_rfl)(hg:nB X "set" .globalImplicit:=by kernel_rfl)(hs:starEach [a] X.env = [(false,eval a X.env)]:=by rfl)(hs2:starEach [.Call (.Name "set" p) [a] [] pos] X.env = [(false,eval (.Call (.Name "set" p) [a] [] pos) X.env)]:=by rfl) :
  QE X (.Call (.Name "len" q) [.Call (.Name "set" p) [a] [] pos] [] pos') (Fu X.K ta):=⟨Rn hc (od hgl) hml (od hg) hm ha.h hs hs2⟩
end L2
namespace L2
open PySem PySem.Spec PyProof.Rows
def Gk(h0:Heap)(H:Hp)(h:Heap)(a:eF)(vs:Array eE):Prop:=∃T oT ts v3,vs[1]? = some (.ref T)/\T≠a/\h.get? T=some oT/\oT.data = .fields ts/\ts[3]? = some v3/\H T=none/\h0.get? T=none
def TB(h0:Heap)(H:Hp)(h:Heap)(a C:eF):Prop:=H a=none/\h0.get? a=none/\∃oe vs a0,h.get? a=some oe/\oe.cls = .ref C/\oe.data = .fields vs/\vs[0]? = some a0/\(vs[1]? = some .none\/Gk h0 H h a vs)
def BH(h0:Heap)(H:Hp)(h:Heap)(a C:eF):Prop:=H a=none/\h0.get? a=none/\∃oe vs a0,h.get? a=some oe/\oe.cls = .ref C/\oe.data = .fields vs/\vs[0]? = some a0/\Gk h0 H h a vs
theorem BH.at_(x:BH h0 H h a C):TB h0 H h a C:=let ⟨p,q,oe,vs,a0,h1,h2,h3,h4,h5⟩:=x;⟨p,q,oe,vs,a0,h1,h2,h3,h4,.inr h5⟩
def Tw(P:eG)(w:eI):UU:=fun outer H s E e s'=>∃a C H',e = .ref a/\s'.os=s.os/\AllBare s'.gens/\Un (frs outer) [] H H' s.heap s'.heap/\YU P w H' s'.heap/\TB s.heap H' s'.heap a C/\E (.ref C) none H'
structure Xp (X:Cx) (E:St->XK):Prop where
 h:∀pins σ H s a C,ZD X pins σ H s->TB X.s₀.heap H s.heap a C->E σ (.ref C) none H->X.xe (.ref a) s
theorem ZO.ex(x:ZO P w H h a o):∃u,h.get? a=some u:=by
 cases o with
 | lst xs=>obtain⟨_,_,_,_,e⟩:=x;exact⟨_,e⟩
 | tup xs=>obtain⟨_,_,_,_,e,_⟩:=x;exact⟨_,e⟩
 | dK kvs=>obtain⟨_,_,_,_,o,_,_,e,_⟩:=x;exact⟨_,e⟩
 | dT kvs=>obtain⟨_,_,_,_,o,_,_,e,_⟩:=x;exact⟨_,e⟩
 | set S n=>obtain⟨o,_,_,_,e,_⟩:=x;exact⟨_,e⟩
 | ins C dx fs=>obtain⟨_,_,_,e,_⟩:=x;exact⟨_,e⟩
 | own y=>exact x
 | xd fs=>obtain⟨_,⟨_,_,_,e,_⟩,_⟩:=x;exact⟨_,e⟩
 | rng lo hi=>obtain⟨_,_,_,e⟩:=x;exact⟨_,e⟩
 | frz ob u=>obtain⟨e,_⟩:=x;exact⟨_,e⟩
 | tbl ps=>obtain⟨_,_,_,e,_⟩:=x;exact⟨_,e⟩
 | met f y=>exact⟨_,x⟩
 | ext φ=>obtain⟨_,e,_⟩:=x;exact e
theorem ZD.stepN{g':Array GenState}{t':Nat}{d':Drawn}{ch:eA}(I:ZD X [] σ H s)(hpn:X.pn = [])(hch:∀b∈ch,X.s₀.heap.get? b=none/\b≠X.env.locals/\∀x c,X.env.cells.lookup x=some c->c≠b)(keep:∀b o,b≠X.env.locals->b∉X.fs->b∉ch->s.heap.get? b=some o->H b=none->h'.get? b=some o)(slot:∀b o,b≠X.env.locals->b∈X.fs->b∉ch->s.heap.get? b=some o->H b=none->∃sl,h'.get? b=some {o with slots:=sl })(there:∀b o,b∉ch->s.heap.get? b=some o->∃o',h'.get? b=some o')(ns:∀m,s.heap.Ns X.env.locals m->h'.Ns X.env.locals m)(hok:YU X.prog X.w H h')(hg:AllBare g') :
  ZD X [] σ H {s with heap:=h',gens:=g',drawn:=d',toks:=t' }:=by
 have neL:∀b o,X.s₀.heap.get? b=some o->b≠X.env.locals:=fun b o e=>yG (yH (xQ e) I.ok.above);have neC:∀b o,X.s₀.heap.get? b=some o->b∉ch:=fun b o e hb=>by
  have:=(hch b hb).1;rw[e] at this;cases this
 have cellK:∀x c,X.env.cells.lookup x=some c->∀v,s.heap.IsCell c v->h'.IsCell c v:=fun x c e v ⟨o,ho,hd⟩=>by
  have nch:c∉ch:=fun z=>(hch c z).2.2 x c e rfl
  by_cases hc:c∈X.fs
  ·obtain⟨sl,q⟩:=slot c o (I.cne x c e) hc nch ho (I.freeC x c e);exact⟨_,q,hd⟩
  ·exact⟨o,keep c o (I.cne x c e) hc nch ho (I.freeC x c e),hd⟩
 refine⟨I.ok,I.os,hg,⟨fun b o e n hb hx=>?_,fun b o e n hb hx=>?_,fun b o e n hx=>I.base.free b o e n hx,fun b o e hx=>?_,I.base.tups,I.base.frzs,I.base.tbls⟩,?_,fun x c e=>?_,I.free,I.freeC,fun p hp=>?_,hok,I.len⟩
 ·exact keep b o (neL b o e) hb (neC b o e) (I.base.keep b o e n hb hx) (I.base.free b o e n hx)
 ·obtain⟨sl,e1⟩:=I.base.slot b o e n hb hx;obtain⟨sl',e2⟩:=slot b _ (neL b o e) hb (neC b o e) e1 (I.base.free b o e n hx);exact⟨sl',e2⟩
 ·obtain⟨o',e1⟩:=I.base.there b o e hx;exact there b o' (neC b o e) e1
 ·obtain⟨m,hn,hl⟩:=I.loc;refine⟨m,ns m hn,fun i x v e1 e2 e3=>?_⟩;obtain⟨u,r,l⟩:=hl i x v e1 e2 e3;refine⟨u,r,?_⟩;rcases l with l | ⟨k,c,e,z⟩
  ·exact .inl l
  ·exact .inr ⟨k,c,e,cellK x c e _ z⟩
 ·obtain⟨v,z⟩:=I.cell x c e;exact⟨v,cellK x c e v z⟩
 ·rw[hpn] at hp;cases hp
theorem ZD.noted(I:ZD X [] σ H s)(hpn:X.pn = [])(hh:∀b∈hs,X.s₀.heap.get? b=none/\H b=none/\∃o vs,s.heap.get? b=some o/\o.data = .fields vs)(st:(PySem.W.hideAll s.heap (hs++frs X.stack)).StaysIn h')(up:∀b o,s.heap.get? b=some o->(∀vs,o.data ≠ .fields vs)->∃sl,h'.get? b=some {o with slots:=sl }):ZD X [] σ H {s with heap:=h' }:=by
 obtain⟨m,⟨oL,esL,epL,hoL,hdL,rL⟩,_⟩:=id I.loc;have kp:∀b o,b∉hs->b∉frs X.stack->s.heap.get? b=some o->h'.get? b=some o:=fun b o n1 n2 e=>st b o (PySem.W.hideAll_get _ e fun hm=>(xL.mp hm).elim n1 n2);have fr:∀b,b∈frs X.stack->∃o,s.heap.get? b=some o/\∀vs,o.data ≠ .fields vs:=fun b hb=>(I.stack.mem hb).2;refine I.stepN (g':=s.gens) (d':=s.drawn) (t':=s.toks) (ch:=hs) hpn (fun b hb=>?_) (fun b o hL hf hc e _=>kp b o hc (fun z=>(xC.mp (I.stkSub b z)).elim hL hf) e) (fun b o hL hf _ e _=>?_) (fun b o hc e=>?_) (fun m' hm=>?_) (fun b u e=>?_) I.bare
 ·obtain⟨h1,h2,o,vs,e,d⟩:=hh b hb;refine⟨h1,fun z=>?_,fun x c ec z=>?_⟩
  ·rw[z,hoL] at e;cases e;rw[hdL] at d;cases d
  ·obtain⟨v,oc,ho,hd⟩:=I.cell x c ec;rw[z,e] at ho;cases ho;rw[d] at hd;cases hd
 ·obtain⟨o',e',d⟩:=(I.funs.mem (show b∈X.outer.filterMap (·.frame) from hf)).2;rw[e] at e';cases e';exact up b o e d
 ·grind
 ·obtain⟨o,es,ep,ho,d,r⟩:=hm;obtain⟨sl,q⟩:=up _ o ho fun vs z=>by rw[d] at z;cases z
  exact⟨_,es,ep,q,d,r⟩
 ·have nh:∀c v,H c=some v->c∉hs/\c∉frs X.stack:=fun c v ec=>⟨(fun z=>by rw[(hh c z).2.1] at ec;cases ec),(fun z=>by rw[I.stkFree c z] at ec;cases ec)⟩;refine(I.hok b u e).stay (fun c v hc q=>?_) (fun _ q=>q) fun _ _ q=>q;rcases hc with rfl | hc
  ·exact kp c v (nh c _ e).1 (nh c _ e).2 q
  ·exact kp c v (nh c _ hc).1 (nh c _ hc).2 q
theorem GN(I:ZD X [] σ H s)(hpn:X.pn = [])(hex:X.ex = [])(stk:X.stack=X.env::X.outer)(hf:X.env.frame=some X.env.locals)(x:TB X.s₀.heap H s.heap a C)(k:∀h',ZD X [] σ H {s with heap:=h' }->BH X.s₀.heap H h' a C->(∀b o,s.heap.get? b=some o->(∀vs,o.data ≠ .fields vs)->∃sl,h'.get? b=some {o with slots:=sl })->Q () {s with heap:=h' }) :
  wpAny M X.A (noteFrame (.ref a) X.env) Q E s:=by
 obtain⟨ha,h0a,oe,vs,a0,he,hc,hd,v0,tr⟩:=x;have fin:∀(hs:eA),a∈hs->(∀b∈hs,X.s₀.heap.get? b=none/\H b=none/\∃o vs,s.heap.get? b=some o/\o.data = .fields vs)->
   ∀h1,Heap.NotedW (PySem.W.hideAll s.heap (hs++frs X.stack)) (X.env::X.outer) a (.ref C) a0 (rawInt X.env.locals) s.heap h1->Q () {s with heap:=h1 }:=by
  intro hs has hh h1 N;refine k h1 (I.noted hpn hh N.1 N.2.2.2) ?_ N.2.2.2;obtain⟨oe',vs',T,oT,ts,he',⟨hc',v0'⟩,hd',h1',hnT,hTe,hT,hdT,h3⟩:=N.2.2.1;have no:∀o,s.heap.get? T=some o->T∉hs->T∉frs X.stack->False:=fun o e n1 n2=>by
   have:=PySem.W.hideAll_get (hs++frs X.stack) e fun hm=>(xL.mp hm).elim n1 n2;rw[this] at hnT;cases hnT
  have nfr:T∉frs X.stack:=fun z=>by
   rw[stk] at z;obtain⟨_,o,e,d⟩:=N.2.1.mem (show T∈(X.env::X.outer).filterMap (·.frame) from z);rw[hT] at e;cases e;exact d ts hdT
  refine⟨ha,h0a,oe',vs',a0,he',hc',hd',v0',T,oT,ts,_,h1',hTe,hT,hdT,h3,?_,?_⟩
  ·cases q:H T with
   | none=>rfl
   | some u =>
    obtain⟨o,e⟩:=(I.hok T u q).ex;exact(no o e (fun z=>by rw[(hh T z).2.1] at q;cases q) nfr).elim
  ·cases q:X.s₀.heap.get? T with
   | none=>rfl
   | some o =>
    obtain⟨o',e⟩:=I.base.there T o q (by rw[hex];simp);exact(no o' e (fun z=>by rw[(hh T z).1] at q;cases q) nfr).elim
 have hfr:X.A.frames=some (X.env::X.outer):=by rw[← stk];exact I.ok.frames
 have hl:∀hs:List eF,s.heap.FunFrames (PySem.W.hideAll s.heap (hs++frs X.stack)) (X.env::X.outer):=fun hs=>by
  rw[← stk];exact PySem.W.funFrames_hide I.stack fun env he b hb=>xF _ (List.mem_filterMap.mpr ⟨env,he,hb⟩)
 have hkb:∀hs:List eF,(PySem.W.hideAll s.heap (hs++frs X.stack)).StaysIn s.heap:=fun hs b o q=>PySem.W.of_hideAll _ q;rcases tr with v1 | ⟨T,oT,ts,v3,v1,hTe,hT,hdT,h3,hHT,h0T⟩
 ·have hh:∀b ∈ [a],X.s₀.heap.get? b=none/\H b=none/\∃o vs,s.heap.get? b=some o/\o.data = .fields vs:=fun b hb=>by
   rw[xT] at hb;subst hb;exact⟨h0a,ha,oe,vs,he,hd⟩
  unfold noteFrame;simp only[hf];refine wpAny_bind (wpAny_field he hd v1 ?_);rw[if_neg (by decide)];refine wpAny_entryW (base:=PySem.W.hideAll s.heap ([a]++frs X.stack)) hfr (hl _) hf he (hkb _) (PySem.W.hideAll_none _ (by simp)) hd (zN.mp v1).1 v0 fun h1 N=>?_;rw[hc] at N;exact fin [a] (by simp) hh h1 N
 ·have hh:∀b ∈ [a,T],X.s₀.heap.get? b=none/\H b=none/\∃o vs,s.heap.get? b=some o/\o.data = .fields vs:=fun b hb=>by grind
  unfold noteFrame;simp only[hf];refine wpAny_bind (wpAny_field he hd v1 ?_);rw[if_pos (show (Value.ref T != Value.none)=true from by simp)];refine wpAny_bind (wpAny_field hT hdT h3 ?_)
  by_cases zz:(v3 == rawInt X.env.locals)=true
  ·rw[if_pos zz];exact wpAny_pure (k s.heap I ⟨ha,h0a,oe,vs,a0,he,hc,hd,v0,T,oT,ts,v3,v1,hTe,hT,hdT,h3,hHT,h0T⟩ fun b o e _=>⟨o.slots,e⟩)
  ·rw[if_neg zz];refine wpAny_bind (wpAny_setField hT hdT (zN.mp h3).1 ?_);have oth:∀b,b≠T->(s.heap.update T (Obj.mapFields (·.setIfInBounds 3 Value.none))).get? b=s.heap.get? b:=fun b hb=>zY _ _ (Ne.symm hb);have nr:∀b o,s.heap.get? b=some o->(∀vs,o.data ≠ .fields vs)->b≠T:=fun b o hb hn q=>by
    rw[q,hT] at hb;injection hb with hb;subst hb;exact hn ts hdT
   have hbT:(PySem.W.hideAll s.heap ([a,T]++frs X.stack)).get? T=none:=PySem.W.hideAll_none _ (by simp);refine wpAny_entryW (base:=PySem.W.hideAll s.heap ([a,T]++frs X.stack)) hfr ((hl _).of_keeps fun b o hb hn=>⟨o,(oth b (nr b o hb hn)).trans hb,rfl⟩) hf ((oth a (Ne.symm hTe)).trans he)
    (fun b o hbo=>(oth b fun q=>by rw[q,hbT] at hbo;cases hbo).trans (hkb _ b o hbo)) (PySem.W.hideAll_none _ (by simp)) hd (zN.mp v1).1 v0
    fun h1 ⟨x1,x2,x3,x4⟩=>?_
   rw[hc] at x3;exact fin [a,T] (by simp) hh h1 ⟨x1,x2,x3,fun b o hb hn=>x4 b o ((oth b (nr b o hb hn)).trans hb) hn⟩
theorem DB(I:ZD X [] σ H s)(hpn:X.pn = [])(x:BH X.s₀.heap H s.heap a C)(k:∀h',ZD X [] σ H {s with heap:=h' }->BH X.s₀.heap H h' a C->Q () {s with heap:=h' }):wpAny M A (setFlight (.ref a) fr) Q E s:=by
 obtain⟨ha,h0a,oe,vs,a0,he,hc,hd,v0,T,oT,ts,v3,v1,hTe,hT,hdT,h3,hHT,h0T⟩:=x;have sz3:=(zN.mp h3).1;unfold setFlight;refine wpAny_bind (wpAny_field he hd v1 ?_);rw[if_pos (show (Value.ref T != Value.none)=true from by simp)];refine wpAny_setField hT hdT sz3 ?_;have oth:∀b,b≠T->(s.heap.update T (Obj.mapFields (·.setIfInBounds 3 (fr.elim Value.none fun f=>rawInt f)))).get? b=s.heap.get? b:=fun b hb=>zY _ _ (Ne.symm hb);refine k _ (I.noted (hs:=[T]) hpn (fun b hb=>by rw[xT] at hb;subst hb;exact⟨h0T,hHT,oT,ts,hT,hdT⟩) (fun b o q=>?_) fun b o hb hn=>⟨o.slots,(oth b fun q=>by rw[q,hT] at hb;cases hb;exact hn ts hdT).trans hb⟩)
  ⟨ha,h0a,oe,vs,a0,(oth a (Ne.symm hTe)).trans he,hc,hd,v0,T,_,_,(fr.elim Value.none fun f=>rawInt f),v1,hTe,Heap.get?_update_self _ hT (Obj.isFreed_of_fields (Obj.data_mapFields hdT _)),Obj.data_mapFields hdT _,by simp[sz3],hHT,h0T⟩
 refine(oth b fun z=>?_).trans (PySem.W.of_hideAll _ q);rw[z,PySem.W.hideAll_none _ (by simp)] at q;cases q
theorem Hz(I:ZD X [] σ H s)(hpn:X.pn = [])(hex:X.ex = [])(stk:X.stack=X.env::X.outer)(hf:X.env.frame=some X.env.locals)(x:TB X.s₀.heap H s.heap a C)(k:∀h',ZD X [] σ H {s with heap:=h' }->TB X.s₀.heap H h' a C->Q () {s with heap:=h' }) :
  wpAny M X.A (noteFrame (.ref a) X.env) (fun _ s₂=>wpAny M X.A (setFlight (.ref a) none) Q E s₂) E s :=
 GN I hpn hex stk hf x fun h1 I1 x1 _=>DB (s:={s with heap:=h1 }) I1 hpn x1 fun h2 I2 x2=>k h2 I2 x2.at_
end L2
namespace L2
open PySem PySem.Spec PyProof.Rows
theorem TB.mono(x:TB h0 H h a C)(k:∀b,h0.get? b=none->h1.get? b=none):TB h1 H h a C:=by
 obtain⟨ha,h0a,oe,vs,a0,he,hc,hd,v0,tr⟩:=x;refine⟨ha,k a h0a,oe,vs,a0,he,hc,hd,v0,?_⟩;rcases tr with v1 | ⟨T,oT,ts,v3,v1,hTe,hT,hdT,h3,hHT,h0T⟩
 ·exact .inl v1
 ·exact .inr ⟨T,oT,ts,v3,v1,hTe,hT,hdT,h3,hHT,k T h0T⟩
theorem Yw{P:eG}{w:eI}{K:uFg}{mg:dW}{base:Heap}{N:dX}{qual:Str}{scope:Scope}{f:eF}{cd:eE}{A:eJ}{outer:List Env}{s:eB}{H:Hp}{E:XK} :
  Xp (Y2 (Tw P w) P w K mg base N qual scope f cd A outer s H E) fun _=>E:=⟨fun pins σ H1 s1 a C I x hE=>by
 have I':=I.pins_of (pins':=[]) (fun p hp=>nomatch hp);show wpAny _ _ (noteFrame _ _ >>= fun _=>setFlight _ none) _ _ _;refine wpAny_bind (Hz (X:=Y2 (Tw P w) P w K mg base N qual scope f cd A outer s H E) I' rfl rfl rfl rfl x fun h' J y=>?_)
 exact⟨a,C,H1,rfl,J.os,J.bare,J.base,J.hok,y,hE⟩⟩
section
variable{X:Cx}{E:St->XK}
theorem ZD.newer{pins:List (eF×Obj)}{σ:St}{H:Hp}{s:eB}(I:ZD X pins σ H s)(hex:X.ex = []):∀b,s.heap.get? b=none->X.s₀.heap.get? b=none:=fun b e=>by
 cases q:X.s₀.heap.get? b with
 | none=>rfl
 | some o =>
  obtain⟨o',e'⟩:=I.base.there b o q (by rw[hex];simp);rw[e] at e';cases e'
structure Xq (X:Cx) (E:St->XK):Prop where
 h:(∀ σ c d H,¬E σ c d H)\/(X.ex = []/\Xp X E)
theorem Xq.never:Xq X fun _ _ _ _=>False:=⟨.inl fun _ _ _ _ h=>h⟩
theorem Xq.pass{pins:List (eF×Obj)}{σ:St}{H:Hp}{s s':eB}{e:eE}(hx:Xq X E)(I:ZD X pins σ H s)(h:Tw X.prog X.w X.stack H s (E σ) e s'):X.xe e s':=by
 obtain⟨a,C,H',rfl,os,bare,un,hok,x,hE⟩:=h;rcases hx.h with z | ⟨hex,hx⟩
 ·exact(z _ _ _ _ hE).elim
 obtain⟨hh,g,d,t,os'⟩:=s';obtain rfl:os'=s.os:=os;have J:=I.call (h':=hh) (g':=g) (d':=d) (t':=t) (ch:=[]) un hok bare (fun b z=>absurd z (by simp));exact hx.h pins σ H' _ a C J (x.mono (I.newer hex)) hE
theorem Z4{P:eG}{w:eI}{K:uFg}{mg:dW}{base:Heap}{N:dX}{qual:Str}{scope:Scope}{f:eF}{cd:eE}{A:eJ}{outer:List Env}{s:eB}{H:Hp}{E:XK} :
  Xq (Y2 (Tw P w) P w K mg base N qual scope f cd A outer s H E) fun _=>E:=⟨.inr ⟨rfl,Yw⟩⟩
end
structure Dg (P:eG) (w:eI) (K:uFg) (mg:dW) (base:Heap) (k:Nat) (f:eF) (sp:Sp):Prop where
 run:∀(A:eJ)(outer:List Env)(s:eB)(H:Hp)(us:dY)(vs:List V)(Q:VK)(E:XK),ZL k A->UF P w K mg base A outer s H->ZH vs us->sp vs H Q E->codeAny (model P w) A (.call (.ref f) ⟨us,[]⟩) (CR (Tw P w) outer P w H s Q E) s
theorem YF.runX{P:eG}{w:eI}{K:uFg}{mg:dW}{base:Heap}{k:Nat}{f:eF}{fd:FuncData}{ps:dX}{sp:Sp}(F:YF P w K mg base (Tw P w) k f fd ps sp)(hb:YM K fd ps []):Dg P w K mg base k f sp :=
 ⟨fun A outer s H us vs Q E hr e0 r h=>by
  have KX:K.In s.heap:=e0.mod.kin.keeps fun b o e=>(e0.bs b o e).1;have hl:us.length=ps.length:=by rw[← r.length];exact F.len _ _ _ _ h
  have hb':BindsTo s fd ⟨us,[]⟩ (ps.zip us):=by
   have:=hb s us KX (by rw[yD];exact hl);rw[yD] at this;exact this
  exact F.run A outer s H ⟨us,[]⟩ us vs Q E hr e0 hb' r h⟩
def WA(P:eG)(w:eI)(K:uFg)(mg:dW)(base:Heap)(x:Str)(k:Nat)(sp:Sp):Prop :=
 ∃f,mg x=some (.ref f)/\PySem.W.keepIn K (.ref f)=true/\Dg P w K mg base k f sp
structure ZY (P:eG) (w:eI) (K:uFg) (mg:dW) (base:Heap) (C:eF) (m:Str) (k:Nat) (sp:Sp):Prop where
 ex:∃(f:eF),TC K C m f/\Dg P w K mg base k f sp
section
variable{P:eG}{w:eI}{K:uFg}{mg:dW}{base:Heap}{C:eF}{x:Str}{ps:dX}{k k':Nat}{sp sp':Sp}
def Sp.or(a b:Sp):Sp:=fun vs H Q E=>a vs H Q E\/b vs H Q E
end
def Qh(sp:Sp)(E:St->XK)(t:TA):TE:=fun σ H Q=>t σ H fun vs H1=>sp vs H1 Q (E σ)
inductive Bw(C:eF)(m:Str)(sp:Sp)(E:St->XK)(t:TA)(σ:St)(Q:VK)(x:V)(H1:Hp):Prop
 |mk(a dx fs)(_:x = .ref a)(_:H1 a=some (.ins C dx fs))(_:fs.lookup m=none)(_:t σ H1 fun vs H2=>sp (x::vs) H2 Q (E σ))
def GB(C:eF)(m:Str)(sp:Sp)(E:St->XK)(ta:TE)(t:TA):TE:=fun σ H Q=>ta σ H fun x H1=>Bw C m sp E t σ Q x H1
section
variable{X:Cx}{E:St->XK}{k:Nat}{f C:eF}{sp:Sp}{x m:Str}{p pos apos:Pos}{e o:Expr}{es:List Expr}{ta:TE}{t:TA}
theorem El{pins:List (eF×Obj)}{σ:St}{H:Hp}{s:eB}{Q:VK}{us:dY}{vs:List V}(F:Dg X.prog X.w X.K X.mg X.base k f sp)(hr:ZL k X.A)(hx:Xq X E)(I:ZD X pins σ H s)(r:ZH vs us)(h:sp vs H Q (E σ)):wpAny (model X.prog X.w) X.A (call (.ref f) us) (EP X pins σ Q) X.xe s:=by
 refine wpAny_call (codeAny_mono (F.run X.A X.stack s H us vs Q (E σ) hr I.env0 r h) fun r s' hq=>?_);cases r with
 | error e=>exact hx.pass I hq
 | ok fl =>
  cases fl with
  | ret u=>exact I.after hq
  | next=>exact False.elim hq
  | brk=>exact False.elim hq
  | cont=>exact False.elim hq
theorem Wu(hx:Xq X E)(F:WA X.prog X.w X.K X.mg X.base x k sp)(ha:QA X (e::es) t)(hr:ZL k X.A:=by exact ZL.mono (by assumption) (by first | decide | lia))(n:nB X x .globalImplicit:=by kernel_rfl)(he:starEach (e::es) X.env=(false,eval e X.env)::starEach es X.env:=by rfl)(hpl:(backTo pos (starEach es X.env)).any (·.1)=false:=by rfl) :
  QE X (.Call (.Name x p) (e::es) [] pos) (Qh sp E t):=⟨by
 obtain⟨f,hm,hk,G⟩:=F;intro pins s σ H Q I h;have n:=od n;refine wpAny_Call_Name_kw (Bc I n.1 hm ?_ n.2.1);refine PySem.W.callWith_K (h₀:=X.base) I.ok.mod.kin hk (thn (ha.h pos pins s σ H _ I h) fun us s1 ⟨vs,H1,I1,r,q⟩=>⟨I1.kIn,?_⟩) he hpl
 exact El G hr hx I1 r q⟩
theorem Yo{pl:Sem Bool}(hx:Xq X E)(he:QE X o ta)(c:UO X.K C)(M:ZY X.prog X.w X.K X.mg X.base C m k sp)(ha:QA X (e::es) t)(hr:ZL k X.A:=by exact ZL.mono (by assumption) (by first | decide | lia))(hst:starEach (e::es) X.env=(false,eval e X.env)::starEach es X.env:=by rfl)(hpl:(backTo pos (starEach es X.env)).any (·.1)=false:=by rfl)(ht:eval (.Call (.Attribute o m apos) (e::es) [] pos) X.env=(do
   let ov ← eval o X.env
   standAt apos.atName
   let (f,first) ← holding [ov] (getMethod ov m pl)
   callWith pos f first (backTo pos (starEach (e::es) X.env)) (backToKw pos (keywordEach [] X.env))):=by rfl) :
  QE X (.Call (.Attribute o m apos) (e::es) [] pos) (GB C m sp E ta t):=⟨by
 obtain⟨f,hm,F⟩:=M.ex;intro pins s σ H Q I h;refine PySem.W.methodCall_KW (pl:=pl) (thn (he.h pins s σ H _ I h) fun u s1 ⟨x,H1,I1,rx,a,dx,fs,ex,ea,l,q⟩=>?_) ht;subst ex;obtain rfl:u=Value.ref a:=rx;refine CG I1 ea c hm l ?_;refine PySem.W.callWith_K (first:=[.ref a]) (h₀:=X.base) I.ok.mod.kin hm.kp (thn (ha.h pos pins s1 σ H1 _ I1 q) fun us s2 ⟨vs,H2,I2,r,q2⟩=>⟨I2.kIn,?_⟩) hst hpl
 exact El (us:=.ref a::us) (vs:=.ref a::vs) F hr hx I2 (.cons rfl r) q2⟩
theorem JQ{pl:Sem Bool}(hx:Xq X E)(he:QE X o ta)(c:UO X.K C)(M:ZY X.prog X.w X.K X.mg X.base C m k sp)(hr:ZL k X.A:=by exact ZL.mono (by assumption) (by first | decide | lia))(ht:eval (.Call (.Attribute o m apos) [] [] pos) X.env=(do
   let ov ← eval o X.env
   standAt apos.atName
   let (f,first) ← holding [ov] (getMethod ov m pl)
   callWith pos f first (backTo pos (starEach [] X.env)) (backToKw pos (keywordEach [] X.env))):=by rfl) :
  QE X (.Call (.Attribute o m apos) [] [] pos) (GB C m sp E ta Vl):=⟨by
 obtain⟨f,hm,F⟩:=M.ex;intro pins s σ H Q I h;refine PySem.W.methodCall_KW (pl:=pl) (thn (he.h pins s σ H _ I h) fun u s1 ⟨x,H1,I1,rx,a,dx,fs,ex,ea,l,q⟩=>?_) ht;subst ex;obtain rfl:u=Value.ref a:=rx;refine CG I1 ea c hm l ?_
 exact PySem.W.callWith_K0 (first:=[.ref a]) I1.kIn hm.kp (El (us:=[.ref a]) (vs:=[.ref a]) F hr hx I1 (.cons rfl .nil) q)⟩
end
section
variable{P:eG}{w:eI}{K:uFg}{mg:dW}{base:Heap}
theorem Tn.okX{x qual:Str}{st:Stmt}{f:eF}{fd:FuncData}{N ps:dX}{k:Nat}{sp:Sp}(F:Tn K x qual st f fd)(S:ZM N ps (Zp st))(len:∀vs H Q E,sp vs H Q E->vs.length=ps.length)(hbody:∀ (cdv:eE) (A:eJ) (outer:List Env) (s:eB) (H:Hp) (vs:List V) (Q:VK) (E:XK),ZL k (A.deeper (envOfC qual (Zp st) s.heap.objs.size f cdv))->sp vs H Q E -> ∃t,WW (Y2 (Tw P w) P w K mg base N qual (Zp st) f cdv A outer s H E) (Yq st) t/\t {nx:=fun _ H'=>Q .non H',rt:=Q } (start N vs) H):YF P w K mg base (Tw P w) (k+1) f fd ps sp:=by
 obtain⟨oc,od,kV,doc,pm,an,cdv,ct,osl,rfl,lk,hcd⟩:=F.ex;refine GG lk hcd S len fun A outer s H vs Q E hr hsp=>?_;obtain⟨t,h,q⟩:=hbody cdv A outer s H vs Q E hr hsp;exact⟨t,h.h,q⟩
theorem YC.fnX{x:Str}{st:Stmt}{N ps:dX}{k:Nat}{sp:Sp}(h:YC K mg x st)(S:ZM N ps (Zp st))(hb:∀ (kV doc pm:eE) (an:Option eF) (cdv ct:eE) (us:dY),us.length=ps.length->bindArgs (PySem.W.fnOf x x (Va st) (Yq st) (Zp st) .none kV doc pm an cdv ct) ⟨us,[]⟩=pure (ps.zip us))(len:∀vs H Q E,sp vs H Q E->vs.length=ps.length)(hbody:∀ (f:eF) (cdv:eE) (A:eJ) (outer:List Env) (s:eB) (H:Hp) (vs:List V) (Q:VK) (E:XK),ZL k (A.deeper (envOfC x (Zp st) s.heap.objs.size f cdv))->sp vs H Q E -> ∃t,WW (Y2 (Tw P w) P w K mg base N x (Zp st) f cdv A outer s H E) (Yq st) t/\t {nx:=fun _ H'=>Q .non H',rt:=Q } (start N vs) H):WA P w K mg base x (k+1) sp:=by
 obtain⟨f,fd,F,hm⟩:=h;exact⟨f,hm,F.kp,(F.okX S len (hbody f)).runX (F.binds hb)⟩
theorem YC.fx{x:Str}{st:Stmt}{k:Nat}{sp:Sp}(h:YC K mg x st)(N ps:dX)(hbody:∀{f:eF}{cdv:eE}{A:eJ}{outer:List Env}{s:eB}(H:Hp) (vs:List V) (Q:VK) (E:XK),ZL k (A.deeper (envOfC x (Zp st) s.heap.objs.size f cdv))->sp vs H Q E->vs.length=ps.length/\∃t,WW (Y2 (Tw P w) P w K mg base N x (Zp st) f cdv A outer s H E) (Yq st) t/\t {nx:=fun _ H'=>Q .non H',rt:=Q } (start N vs) H)(S:ZM N ps (Zp st):=by exact fsc)(hk:k<=60:=by decide)(hb:∀ (kV doc pm:eE) (an:Option eF) (cdv ct:eE) (us:dY),us.length=ps.length->bindArgs (PySem.W.fnOf x x (Va st) (Yq st) (Zp st) .none kV doc pm an cdv ct) ⟨us,[]⟩=pure (ps.zip us):=by exact fun _ _ _ _ _ _=>by first | exact al1 fun _=>rfl | exact al2 fun _ _=>rfl | exact al3 fun _ _ _=>rfl | exact al4 fun _ _ _ _=>rfl | exact al5 fun _ _ _ _ _=>rfl | exact al6 fun _ _ _ _ _ _=>rfl | exact al7 fun _ _ _ _ _ _ _=>rfl | exact al8 fun _ _ _ _ _ _ _ _=>rfl):WA P w K mg base x (k+1) sp :=
 h.fnX S hb (fun vs H Q E h=>(hbody (f:=0) (cdv:=.none) (A:={}) (outer:=[]) (s:={}) H vs Q E (C6 hk) h).1) fun _ _ _ _ _ H vs Q E hr q=>(hbody H vs Q E hr q).2
theorem ZQ.mtX{C:eF}{m qual:Str}{st:Stmt}{N ps:dX}{k:Nat}{sp:Sp}(h:ZQ K C m qual st)(S:ZM N ps (Zp st))(hb:∀ (kV doc pm:eE) (an:Option eF) (cdv ct:eE) (us:dY),us.length=ps.length->bindArgs (PySem.W.fnOf m qual (Va st) (Yq st) (Zp st) .none kV doc pm an cdv ct) ⟨us,[]⟩=pure (ps.zip us))(len:∀vs H Q E,sp vs H Q E->vs.length=ps.length)(hbody:∀ (f:eF) (cdv:eE) (A:eJ) (outer:List Env) (s:eB) (H:Hp) (vs:List V) (Q:VK) (E:XK),ZL k (A.deeper (envOfC qual (Zp st) s.heap.objs.size f cdv))->sp vs H Q E -> ∃t,WW (Y2 (Tw P w) P w K mg base N qual (Zp st) f cdv A outer s H E) (Yq st) t/\t {nx:=fun _ H'=>Q .non H',rt:=Q } (start N vs) H):ZY P w K mg base C m (k+1) sp:=by
 obtain⟨f,fd,F,M⟩:=h.ex;exact⟨f,M,(F.okX S len (hbody f)).runX (F.binds hb)⟩
theorem ZQ.mx{C:eF}{m qual:Str}{st:Stmt}{k:Nat}{sp:Sp}(h:ZQ K C m qual st)(N ps:dX)(hbody:∀{f:eF}{cdv:eE}{A:eJ}{outer:List Env}{s:eB}(H:Hp) (vs:List V) (Q:VK) (E:XK),ZL k (A.deeper (envOfC qual (Zp st) s.heap.objs.size f cdv))->sp vs H Q E->vs.length=ps.length/\∃t,WW (Y2 (Tw P w) P w K mg base N qual (Zp st) f cdv A outer s H E) (Yq st) t/\t {nx:=fun _ H'=>Q .non H',rt:=Q } (start N vs) H)(S:ZM N ps (Zp st):=by exact fsc)(hk:k<=60:=by decide)(hb:∀kV doc pm an cdv ct us,us.length=ps.length->bindArgs (PySem.W.fnOf m qual (Va st) (Yq st) (Zp st) .none kV doc pm an cdv ct) ⟨us,[]⟩=pure (ps.zip us):=by exact fun _ _ _ _ _ _=>by first | exact al1 fun _=>rfl | exact al2 fun _ _=>rfl | exact al3 fun _ _ _=>rfl | exact al4 fun _ _ _ _=>rfl | exact al5 fun _ _ _ _ _=>rfl | exact al6 fun _ _ _ _ _ _=>rfl | exact al7 fun _ _ _ _ _ _ _=>rfl | exact al8 fun _ _ _ _ _ _ _ _=>rfl):ZY P w K mg base C m (k+1) sp :=
 h.mtX S hb (fun vs H Q E h=>(hbody (f:=0) (cdv:=.none) (A:={}) (outer:=[]) (s:={}) H vs Q E (C6 hk) h).1) fun _ _ _ _ _ H vs Q E hr q=>(hbody H vs Q E hr q).2
end
end L2
namespace L2
open PySem PySem.Spec PyProof.Rows
def nsX(K:uFg)(N:eF):Bool:=match K.lookup N with
 | some ⟨_,_,.dict es _,_⟩=>(es.toList.all fun e=>match e.key with | .str _ _=>true | _=>false) && (nsFind es "__init__").isNone
 | _=>false
def vE:List eE:=[.type "ValueError", .type "Exception", .type "BaseException", .type "object"]
def DJ:List (Option eE)->Bool
 | [_,_,_,_,some v,_]=>v == .builtin "ValueError.__new__"
 | _=>false
def Kd(K:uFg):List eE->Bool
 | .ref M::r=>r == vE && (match K.lookup M with | some ⟨_,_,.cls cd,_⟩=>nsX K cd.ns | _=>false)
 | _=>false
def Ag(K:uFg)(C:eF):Bool:=match K.lookup C with
 | some ⟨c,_,.cls cd,sl⟩=>(c == .type "type") && (cd.hasDel == false) && nsX K cd.ns && DJ sl.toList && (match cd.mro with | v::r=>(v == .ref C) && Kd K r | _=>false)
 | _=>false
theorem ID{K:uFg}{h:Heap}{N:eF}(X:K.In h)(e:nsX K N=true):∃mN,h.Ns N mN/\mN "__init__" = none:=by
 unfold nsX at e;split at e
 ·rename_i c d es n sl q;rw[yW] at e;refine⟨nsFind es,⟨_,es,n,X _ _ q,rfl,fun en hen=>?_,fun _=>rfl⟩,Option.isNone_iff_eq_none.mp e.2⟩;have z:=zK.mp e.1 en (Array.mem_toList_iff.mpr hen);cases k:en.key with
  | str x t=>exact⟨x,t,rfl⟩
  | _=>rw[k] at z;cases z
 ·cases e
theorem SN:∀{l:List (Option eE)},DJ l=true->∃k0 k1 k2 k3 k5,l = [k0,k1,k2,k3,some (.builtin "ValueError.__new__"),k5]:=by
 intro l e;unfold DJ at e;split at e
 ·exact⟨_,_,_,_,_,by rw[beq_iff_eq.mp e]⟩
 ·exact Bool.noConfusion e
theorem KR{K:uFg}{h:Heap}{C:eF}(X:K.In h)(e:Ag K C=true) :
  ∃nm q N bs bm hdct sn sub ab col dd k0 k1 k2 k3 k5 mN,h.get? C=some (excClassObj nm q C N bs bm hdct sn sub ab col dd k0 k1 k2 k3 k5 "ValueError.__new__")/\h.Ns N mN/\mN "__init__" = none/\OwnTail h vE bm:=by
 unfold Ag at e;split at e
 ·rename_i c d cd sl q;simp only[yW] at e;obtain⟨⟨⟨⟨e1,e2⟩,e3⟩,e4⟩,e5⟩:=e;have e1:=beq_iff_eq.mp e1;subst e1;obtain⟨mN,hn,hi⟩:=ID X e3;obtain⟨nm,bs,mro,N,qn,hdc,sn,sub,ab,col,hdl⟩:=cd;have e2:hdl=false:=beq_iff_eq.mp e2;subst e2;cases mro with
  | nil=>cases e5
  | cons v r =>
   dsimp only at e5;rw[yW] at e5;have e6:=beq_iff_eq.mp e5.1;subst e6;have e7:=e5.2;unfold Kd at e7;split at e7
   ·rename_i M r;rw[yW] at e7;have e8:=beq_iff_eq.mp e7.1;subst e8;have e9:=e7.2;split at e9
    ·rename_i c2 d2 cd2 sl2 q2;obtain⟨mM,hM,hMi⟩:=ID X e9;obtain⟨sl⟩:=sl;obtain⟨k0,k1,k2,k3,k5,rfl⟩:=SN (l:=sl) e4
     ·exact⟨nm,qn,N,bs,.ref M::vE,hdc,sn,sub,ab,col,d,k0,k1,k2,k3,k5,mN,X _ _ q,hn,hi,.own (X _ _ q2) hM hMi .base⟩
    ·cases e9
   ·cases e7
 ·cases e
def Gr(E:St->XK)(C:eF)(te:TE):TS:=fun _ σ H=>te σ H fun _ H1=>E σ (.ref C) none H1
theorem PM(hx:Xp X E)(hcl:X.calm=true)(hex:X.ex = [])(xc:Ag X.K C=true)(n:Nm X.env.scope x .globalImplicit)(hm:X.mg x=some (.ref C))(he:QE X e te)(hs:starEach [e] X.env = [(false,eval e X.env)]:=by rfl):QS X (.Raise (some (.Call (.Name x np) [e] [] cpos)) none pos) (Gr E C te):=⟨by
 intro pins s σ H D I h;obtain⟨nm,q,N,bs,bm,hdct,sn,sub,ab,col,dd,k0,k1,k2,k3,k5,mN,hC,hn,hi,T⟩:=KR I.kIn xc;refine wpAny_Raise_call_subU (C:=C) (N:=N) (nm:=nm) (q:=q) (bs:=bs) (bm:=bm) (bmB:=vE) (hdct:=hdct) (sn:=sn) (sub:=sub) (ab:=ab) (col:=col) (dd:=dd) (k0:=k0) (k1:=k1) (k2:=k2) (k3:=k3) (k5:=k5) (mN:=mN)
  F.excBase_ValueError (by decide) F.excBase_ValueError (T.hasType (by decide)) (I.ok.hd hcl) (by rw[hs];rfl) hi (Bc I n.1 hm ⟨rfl,?_⟩ n.2.1)
 rw[hs];refine Calls.evalArgs_plain (Calls.spliced_cons (thn (he.h pins s σ H _ I h) fun u s1 ⟨v,H1,I1,r1,q1⟩=>Calls.spliced_nil ?_));have K1:∀b o,X.base.get? b=some o->s1.heap.get? b=some o:=I1.bk;obtain⟨nm',q',N',bs',bm',hdct',sn',sub',ab',col',dd',k0',k1',k2',k3',k5',mN',hC',hn',hi',T'⟩:=KR I1.kIn xc;have lk:∃o,X.K.lookup C=some o:=by
  unfold Ag at xc;split at xc
  ·rename_i z;exact⟨_,z⟩
  ·cases xc
 obtain⟨oC,hoC⟩:=lk;have z1:=(I.kIn _ _ hoC).symm.trans hC;have z2:=(I1.kIn _ _ hoC).symm.trans hC';have hC1:s1.heap.get? C=some (excClassObj nm q C N bs bm hdct sn sub ab col dd k0 k1 k2 k3 k5 "ValueError.__new__"):=by rw[hC',← z2,z1]
 have zz:=hC1.symm.trans hC';have eN:N=N':=by grind
 have ebm:bm=bm':=by grind
 subst eN ebm;refine⟨rfl,by show 1<=sizeLine;decide,hC1,?_,T',fun h' a hx'=>?_⟩
 ·-- the namespace is the same object
  have lkN:∃o,X.K.lookup N=some o:=by
   unfold Ag at xc;rw[hoC] at xc;obtain⟨c,d,dt,sl⟩:=oC;cases dt with
   | cls cd =>
    simp only[yW] at xc;have e3:=xc.1.1.2;have eN:cd.ns=N:=by grind
    rw[eN] at e3;unfold nsX at e3;split at e3
    ·rename_i z;exact⟨_,z⟩
    ·cases e3
   | _=>cases xc
  obtain⟨oN,hoN⟩:=lkN;obtain⟨o1,es1,ep1,ho1,r1⟩:=hn;have:=(I.kIn _ _ hoN).symm.trans ho1;cases this;exact⟨_,es1,ep1,I1.kIn _ _ hoN,r1⟩
 ·obtain⟨t,e1,e2,e3⟩:=hx'.there;have I2:ZD X pins σ H1 {s1 with heap:=h' }:=I1.kept (t':=s1.toks) hx'.keeps;have fr:∀b,s1.heap.get? b=none->H1 b=none:=fun b z=>by
   cases q:H1 b with
   | none=>rfl
   | some u=>obtain⟨o,e⟩:=(I1.hok b u q).ex;rw[z] at e;cases e
  refine hx.h pins σ H1 {s1 with heap:=h' } a C I2 ⟨fr a hx'.new,?_,_,_,_,e1,rfl,rfl,rfl,.inl rfl⟩ q1;cases q:X.s₀.heap.get? a with
  | none=>rfl
  | some o =>
   obtain⟨o',e'⟩:=I1.base.there a o q (by rw[hex];simp)
   rw[hx'.new] at e';cases e'⟩
end L2
namespace L2
open PySem PySem.Spec PyProof.Rows
abbrev TJ:=St->Hp->(Hp->Prop)->Prop
def PJ(X:Cx)(es:List Expr)(t:TJ):Prop:=∀(pins:List (eF×Obj))(s:eB)(σ:St)(H:Hp)(Q:Hp->Prop)(acc:Str),ZD X pins σ H s->acc.length+es.length * 1000000<=sizeLine->t σ H Q ->
 Joins (model X.prog X.w) X.A X.xe (evalEach es X.env) acc (fun out s₁=>out.length<=sizeLine/\∃H',ZD X pins σ H' s₁/\Q H') s
structure QJ (X:Cx) (es:List Expr) (t:TJ):Prop where
 h:PJ X es t
def XX(n:Nat)(t:TJ):TJ:=fun σ H Q=>n<=1000000/\t σ H Q
def PQ(te:TE)(t:TJ):TJ:=fun σ H Q=>te σ H fun v H1=>((∃x,v = .str x/\x.length<=1000000)\/(∃i,v = .int i/\i.natAbs.log2 < 1920))/\t σ H1 Q
def Ln(te:TE)(t:TJ):TJ:=fun σ H Q=>te σ H fun v H1=>(∃x,v = .str x/\x.length<=10000/\∀c∈x.cps.toList,c < 16 ^ 8)/\t σ H1 Q
def NA:TJ:=fun _ H Q=>Q H
def NG(t:TJ):TE:=fun σ H Q=>t σ H fun H1=>∀x:Str,Q (.str x) H1
theorem Wd:QJ X [] NA:=⟨fun pins s σ H Q acc I hl h=>⟨by simpa using hl,H,I,h⟩⟩
theorem Aj(a b:Str):(a++b).length=a.length+b.length:=strLen_append a b
theorem Yp(h:QJ X es t)(he:evalEach (.Constant (.str x) j pos::es) X.env=eval (.Constant (.str x) j pos) X.env::evalEach es X.env:=by rfl):QJ X (.Constant (.str x) j pos::es) (XX x.length t):=⟨by
 intro pins s σ H Q acc I hl hq;obtain⟨hx,hq⟩:=hq;rw[yE] at hl;rw[he];refine Calls.Constant_str ⟨x,_,rfl,?_,h.h pins _ σ H Q (acc++x) (I.tok _) ?_ hq⟩
 ·rw[Aj];lia
 ·rw[Aj];lia⟩
theorem Yx(h1:QE X e te)(h:QJ X es t)(he:evalEach (.FormattedValue e (-1) none pos::es) X.env=eval (.FormattedValue e (-1) none pos) X.env::evalEach es X.env:=by rfl):QJ X (.FormattedValue e (-1) none pos::es) (PQ te t):=⟨by
 intro pins s σ H Q acc I hl hq;rw[yE] at hl;rw[he];refine wpAny_FormattedValue_plain (thn (h1.h pins s σ H _ I hq) fun u s1 ⟨v,H1,I1,rv,hv,q⟩=>?_);rcases hv with⟨x,rfl,hx⟩ | ⟨i,rfl,hi⟩
 ·obtain⟨tk,rfl⟩:=rv;refine formatField_str (fun t' tk'=>⟨x,t',rfl,?_,h.h pins _ σ H1 Q (acc++x) (I1.tok _) ?_ q⟩) (by rw[sizeLine_eq];lia)
  ·rw[Aj];lia
  ·rw[Aj];lia
 ·obtain⟨tk,rfl⟩:=rv;have hn:(Str.ofString (toString i)).length<=1921:=by rw[PySem.ofString_length];exact int_text_length_le (by decide) hi
  refine wpAny_formatField_int hi ⟨_,_,rfl,?_,h.h pins _ σ H1 Q _ (I1.tok _) ?_ q⟩
  ·rw[Aj];lia
  ·rw[Aj];lia⟩
theorem cU(h1:QE X e te)(h:QJ X es t)(he:evalEach (.FormattedValue e 114 none pos::es) X.env=eval (.FormattedValue e 114 none pos) X.env::evalEach es X.env:=by rfl):QJ X (.FormattedValue e 114 none pos::es) (Ln te t):=⟨by
 intro pins s σ H Q acc I hl hq;rw[yE] at hl;rw[he];refine wpAny_FormattedValue_repr (thn (h1.h pins s σ H _ I hq) fun u s1 ⟨v,H1,I1,rv,hv,q⟩=>?_);obtain⟨x,rfl,hx,hc⟩:=hv;obtain⟨tk,rfl⟩:=rv;have hn:=StrLaws.reprText_len x hc;have hz:(reprText x).length<=sizeLine:=by rw[sizeLine_eq];lia
 refine wpAny_pyReprObj_gives (x:=reprText x) (typeIs_str _ _ _) F.slot_str_repr F.entry_str_repr (F.args_str_repr_1 _) (gives_str_repr x tk) ?_ rfl hz;refine formatField_str (fun t' tk'=>⟨_,t',rfl,?_,h.h pins _ σ H1 Q _ ((I1.tok _).tok _) ?_ q⟩) hz
 ·rw[Aj];lia
 ·rw[Aj];lia⟩
theorem Lc(hQ:∀o s,Q o s->Q' o s):∀{l:List (Sem eE)}{acc:Str}{s:eB},Joins M A E l acc Q s->Joins M A E l acc Q' s
 | [],_,_,h=>hQ _ _ h
 | _::_,_,_,h=>wpAny_mono h (fun _ _ ⟨y,t,a,b,c⟩=>⟨y,t,a,b,Lc hQ c⟩) fun _ _ z=>z
theorem We(h:QJ X (e1::e2::es) t)(hn:es.length<=8:=by decide):QE X (.JoinedStr (e1::e2::es) pos) (NG t):=⟨by
 intro pins s σ H Q I hq;have hs:(Str.empty).length+(e1::e2::es).length * 1000000<=sizeLine:=by
  have:Str.empty.length=0:=rfl;rw[this,yE,yE,sizeLine_eq];lia
 refine wpAny_JoinedStr ?_;have key:=h.h pins s σ H _ Str.empty I hs hq
 refine Lc (fun out s1 ⟨h1,H1,I1,q⟩=>⟨h1,.str out,H1,I1.tok _,⟨_,rfl⟩,q out⟩) key⟩
end L2
namespace L2
open PySem PySem.Spec PyProof.Rows PySem.W PySem.Calls PySem.Builtin PySem.Builtin.ObjectAttr PySem.Builtin.Getset_descriptor
def DN(K:Frag)(C:eF):Bool:=(clsIn K C).isSome && (findIn K (.ref C) "__getattribute__" == some (some (.builtin "BaseException.__getattribute__"))) && (findIn K (.ref C) "__getattr__" == some none) && (findIn K (.ref C) "__class__" == some (some (.builtin "object.__class__"))) &&
 (mroIn K C (.type "object")== some true) && (mroIn K C (.type "BaseException")== some true)
section
variable{prog:eG}{w:eI}{A:eJ}{E:dU}{h:Heap}{g:Array GenState}{d:Drawn}{t:Nat}{os:OsState}{a C:eF}{o:Obj}{K:Frag}
end
section
variable{K:Frag}{a C:eF}{o:Obj}
end
end L2
namespace L2
open PySem PySem.Spec PyProof.Rows
abbrev Cx.hnd(X:Cx)(a:eF)(o:Obj):Cx:={X with A:=X.A.mark (some (.ref a)),calm:=false,pn:=[(a,o)],xe:=fun _ _=>False }
section
variable{X:Cx}{σ:St}{H:Hp}{s:eB}{a C:eF}{o:Obj}
theorem ZD.hnd(I:ZD X [] σ H s)(ho:s.heap.get? a=some o)(hH:H a=none)(hd:∃vs,o.data = .fields vs):ZD (X.hnd a o) [] σ H s:=by
 obtain⟨vs,hd⟩:=hd;obtain⟨m,⟨oL,esL,epL,hoL,hdL,rL⟩,_⟩:=id I.loc;refine⟨⟨I.ok.mod,I.ok.kind,I.ok.glob,I.ok.blt,I.ok.above,I.ok.inj,I.ok.has,I.ok.cab,fun z=>Bool.noConfusion z,I.ok.frames,I.ok.stk,I.ok.exf,I.ok.bs,I.ok.bsz,I.ok.noex,I.ok.exfs,I.ok.funs,I.ok.frf⟩,I.os,I.bare,I.base,I.loc,I.cell,I.free,I.freeC,fun p hp=>?_,I.hok,I.len⟩;have e:p=(a,o):=by simpa using hp
 subst e;refine⟨ho,hH,fun z=>?_,fun z=>?_,fun v z=>?_⟩
 ·grind
 ·obtain⟨_,o',e',d⟩:=I.funs.mem (show a∈X.outer.filterMap (·.frame) from z);rw[ho] at e';cases e';exact d vs hd
 ·have z:o.data = .cell v:=z;rw[hd] at z;cases z
theorem ZD.unhnd(I:ZD (X.hnd a o) [] σ H s)(ok:X.Ok)(hpn:X.pn = []):ZD X [] σ H s :=
 ⟨ok,I.os,I.bare,I.base,I.loc,I.cell,I.free,I.freeC,(fun p hp=>by rw[hpn] at hp;cases hp),I.hok,I.len⟩
theorem Qw{M:Model}{A:eJ}{E:dU}{Q:Unit->eB->Prop}(I:ZD X [] σ H s)(hpn:X.pn = [])(hex:X.ex = [])(stk:X.stack=X.env::X.outer)(x:TB X.s₀.heap H s.heap a C)(k:∀h',ZD X [] σ H {s with heap:=h' }->TB X.s₀.heap H h' a C->Q () {s with heap:=h' }):wpAny M A (setFlight (.ref a) none) Q E s:=by
 obtain⟨ha,h0a,oe,vs,a0,he,hc,hd,v0,tr⟩:=id x;rcases tr with v1 | tr
 ·unfold setFlight;refine wpAny_bind (wpAny_field he hd v1 ?_);rw[if_neg (by decide)];exact wpAny_pure (k s.heap I x)
 ·exact DB I hpn ⟨ha,h0a,oe,vs,a0,he,hc,hd,v0,tr⟩ fun h' I' x'=>k h' I' x'.at_
end
def J3(K:uFg)(C D:eF):Option Bool:=if ((PySem.W.clsIn K D).isSome && (PySem.W.typeIn K (.ref D)== some (.type "type")) && (PySem.W.subIn K (.ref D) (.type "BaseException")== some true))=true then PySem.W.subIn K (.ref C) (.ref D) else none
theorem Xm{M:Model}{A:eJ}{E:dU}{s:eB}{K:uFg}{a C D:eF}{oe:Obj}{b:Bool}{Q:Bool->eB->Prop}(X:K.In s.heap)(he:s.heap.get? a=some oe)(hc:oe.cls = .ref C)(e:J3 K C D=some b)(q:Q b s):wpAny M A (excMatches (.ref a) (.ref D)) Q E s:=by
 unfold J3 at e;split at e
 ·rename_i z;simp only[yW] at z;obtain⟨⟨z0,z1⟩,z2⟩:=z;have L0:=PySem.W.looks_typeIn (M:=M) X (beq_iff_eq.mp z1);have L1:=PySem.W.looks_subIn (M:=M) X (beq_iff_eq.mp z2);have L2:=PySem.W.looks_subIn (M:=M) X e;have LI:PySem.W.Looks M s.heap (isInstance (.ref D) (.type "tuple")) false:=L0.andThen (PySem.W.Looks.of_pure tc_notTuple);obtain⟨cdD,hcD⟩:=Option.isSome_iff_exists.mp z0;have LT:PySem.W.Looks M s.heap (isType (.ref D)) true:=by
   unfold PySem.W.clsIn at hcD;split at hcD
   ·rename_i c' d' cd' sl' ho;intro A' Q' E' s' k q;unfold isType loadHead;exact wpAny_bind (wpAny_loadPart (k _ _ (X _ _ ho)) (wpAny_pure q))
   ·cases hcD
  have LE:PySem.W.Looks M s.heap (isExcClass (.ref D)) true:=LT.andThen L1;have Lt:PySem.W.Looks M s.heap (typeOf (.ref a)) (.ref C):=hc▸(PySem.W.Looks.ld he).andThen .now;obtain⟨h0,g,d,t,os⟩:=s;unfold excMatches;refine wpAny_bind (LI.at ?_);simp only[zX,if_false];refine wpAny_bind (wpAny_pure ?_);simp only[List.forIn_cons,List.forIn_nil];refine wpAny_bind (wpAny_bind (wpAny_bind (LE.at ?_)));simp only[Bool.not_true,zX,if_false];refine wpAny_pure (wpAny_pure ?_);refine wpAny_bind (Lt.at (wpAny_bind (wpAny_bind (wpAny_bind (L2.at ?_)))));cases b with
  | true=>simp only[if_true];exact wpAny_pure (wpAny_pure (wpAny_pure q))
  | false=>simp only[zX,if_false];exact wpAny_pure (wpAny_pure (wpAny_pure q))
 ·cases e
def PH(X:Cx)(hs:List ExceptHandler)(t:eF->TS):Prop:=∀(a C:eF)(s:eB)(σ:St)(H:Hp)(D:YI),ZD X [] σ H s->TB X.s₀.heap H s.heap a C->t C D σ H->wpAny (model X.prog X.w) X.A (handleBy (.ref a) X.env hs) (SP X [] D) X.xe s
structure QH (X:Cx) (hs:List ExceptHandler) (t:eF->TS):Prop where
 h:PH X hs t
def PZ:eF->TS:=fun _ _ _ _=>False
def Qy(K:uFg)(Dc:eF)(ts:TS)(tr:eF->TS):eF->TS:=fun C D σ H=>∃b,J3 K C Dc=some b/\if b=true then ts D σ H else tr C D σ H
structure Pl (X:Cx):Prop where
 pn:X.pn = []
 ex:X.ex = []
 stk:X.stack=X.env::X.outer
 fr:X.env.frame=some X.env.locals
section
variable{X:Cx}{x n:Str}{np pos:Pos}{b₀:Stmt}{suite:List Stmt}{rest:List ExceptHandler}{Dc:eF}{tr:eF->TS}
theorem Sh:QH X [] PZ:=⟨fun _ _ _ _ _ _ _ _ h=>h.elim⟩
theorem Pt{a:eF}{o:Obj}{D:YI}{f:Flow}{s:eB}(ok:X.Ok)(hpn:X.pn = [])(h:SP (X.hnd a o) [] D f s):SP X [] D f s:=by
 cases f with
 | next=>obtain⟨σ,H,I,q⟩:=h;exact⟨σ,H,I.unhnd ok hpn,q⟩
 | brk=>obtain⟨σ,H,I,q⟩:=h;exact⟨σ,H,I.unhnd ok hpn,q⟩
 | cont=>obtain⟨σ,H,I,q⟩:=h;exact⟨σ,H,I.unhnd ok hpn,q⟩
 | ret u=>obtain⟨v,σ,H,I,r,q⟩:=h;exact⟨v,σ,H,I.unhnd ok hpn,r,q⟩
theorem Nx{ts:TS}(p:Pl X)(hm:X.mg x=some (.ref Dc))(hb:∀a o,WW (X.hnd a o) (b₀::suite) ts)(hr:QH X rest tr)(nm:nB X x .globalImplicit:=by kernel_rfl) :
  QH X (.ExceptHandler (some (.Name x np)) none (b₀::suite) pos::rest) (Qy X.K Dc ts tr):=⟨by
 have nm:=od nm;intro a C s σ H D I xa h;obtain⟨b,eb,h⟩:=h;obtain⟨ha,h0a,oe,vs,a0,he,hc,hd,v0,_⟩:=id xa;have J:=I.hnd he ha ⟨vs,hd⟩;refine wpAny_handleBy_cons (codeAny_handlers_test (Bc (X:=X.hnd a oe) J nm.1 hm ?_ nm.2.1)) (by intro q;cases q);refine Xm J.kIn he hc eb ?_;cases b with
 | false=>exact hr.h a C s σ H D I xa h
 | true =>
  refine codeAny_handlers_suite (Qw I p.pn p.ex p.stk xa fun h' I' xa'=>?_);obtain⟨ha',_,oe',vs',_,he',_,hd',_⟩:=xa'
  refine wpAny_mono ((hb a oe').h [] _ σ H D (I'.hnd he' ha' ⟨vs',hd'⟩) h) (fun f s2 q=>Pt I.ok p.pn q) fun _ _ z=>z.elim⟩
end
end L2
namespace L2
open PySem PySem.Spec PyProof.Rows
def Ql(X:Cx)(st:Stmt)(t:TS):Prop:=∀(s:eB)(σ:St)(H:Hp)(D:YI),ZD X [] σ H s->t D σ H->wpAny (model X.prog X.w) X.A (exec st X.env) (SP X [] D) X.xe s
def OD(X:Cx)(st:List Stmt)(t:TS):Prop:=∀(s:eB)(σ:St)(H:Hp)(D:YI),ZD X [] σ H s->t D σ H->wpAny (model X.prog X.w) X.A (execs st X.env) (SP X [] D) X.xe s
structure Ez (X:Cx) (st:Stmt) (t:TS):Prop where
 h:Ql X st t
structure Jd (X:Cx) (st:List Stmt) (t:TS):Prop where
 h:OD X st t
def NU(tb:(St->XK)->TS)(th:eF->TS):TS:=fun D σ H=>tb (fun σ' c _ H'=>∃C,c = .ref C/\th C D σ' H') D σ H
section
variable{X:Cx}{st:Stmt}{rest:List Stmt}{t u:TS}
theorem QS.q0(h:QS X st t):Ez X st t:=⟨fun s σ H D I q=>h.h [] s σ H D I q⟩
theorem WW.q0(h:WW X rest t):Jd X rest t:=⟨fun s σ H D I q=>h.h [] s σ H D I q⟩
theorem B8(h1:Ez X st t)(h2:Jd X rest u):Jd X (st::rest) (V9 t u):=⟨by
 intro s σ H D I h;rw[execs];refine wpAny_bind (thn (h1.h s σ H _ I h) fun f s1 q=>?_);cases f with
 | next =>
  obtain⟨σ1,H1,I1,q⟩:=q;exact h2.h s1 σ1 H1 D I1 q
 | brk=>exact wpAny_pure q
 | cont=>exact wpAny_pure q
 | ret u=>exact wpAny_pure q⟩
theorem Ly(p:Pl X)(hb:∀E' EH,Xq (X.wish E') EH->WW (X.wish E') body (tb EH))(hh:QH X (h₀::hs) th):Ez X (.Try body (h₀::hs) [] [] pos) (NU tb th):=⟨by
 intro s σ H D I h;refine wpAny_Try_except ?_;have wish:∀{E'} {σ:St}{H:Hp}{s:eB},ZD X [] σ H s->ZD (X.wish E') [] σ H s:=fun I=>⟨⟨I.ok.mod,I.ok.kind,I.ok.glob,I.ok.blt,I.ok.above,I.ok.inj,I.ok.has,I.ok.cab,I.ok.hd,I.ok.frames,I.ok.stk,I.ok.exf,I.ok.bs,I.ok.bsz,I.ok.noex,I.ok.exfs,I.ok.funs,I.ok.frf⟩,I.os,I.bare,I.base,I.loc,I.cell,I.free,I.freeC,I.pin,I.hok,I.len⟩;have unw:∀{E'} {σ:St}{H:Hp}{s:eB}{pins:List (eF×Obj)},ZD (X.wish E') pins σ H s->ZD X pins σ H s:=fun I=>⟨⟨I.ok.mod,I.ok.kind,I.ok.glob,I.ok.blt,I.ok.above,I.ok.inj,I.ok.has,I.ok.cab,I.ok.hd,I.ok.frames,I.ok.stk,I.ok.exf,I.ok.bs,I.ok.bsz,I.ok.noex,I.ok.exfs,I.ok.funs,I.ok.frf⟩,I.os,I.bare,I.base,I.loc,I.cell,I.free,I.freeC,I.pin,I.hok,I.len⟩;have hx:Xq (X.wish fun e s₁=>wpAny (model X.prog X.w) X.A (noteFrame e X.env) (fun _ s₂=>wpAny (model X.prog X.w) X.A (setFlight e none) (fun _ s₃=>wpAny (model X.prog X.w) X.A (handleBy e X.env (h₀::hs)) (SP X [] D) X.xe s₃) X.xe s₂) X.xe s₁)
   fun σ' c _ H'=>∃C,c = .ref C/\th C D σ' H':=⟨.inr ⟨p.ex,⟨fun pins σ1 H1 s1 a C I1 x q=>by
  obtain⟨C',eC,q⟩:=q;cases eC;have I2:=(unw I1).pins_of (pins':=[]) (fun p hp=>nomatch hp)
  exact Hz I2 p.pn p.ex p.stk p.fr x fun h' J y=>hh.h a C _ σ1 H1 D J y q⟩⟩⟩
 refine wpAny_mono ((hb _ _ hx).h [] s σ H D (wish I) h) (fun f s1 q=>?_) fun _ _ z=>z;have q':SP X [] D f s1:=by
  cases f with
  | next=>obtain⟨σ,H,I,q⟩:=q;exact⟨σ,H,unw I,q⟩
  | brk=>obtain⟨σ,H,I,q⟩:=q;exact⟨σ,H,unw I,q⟩
  | cont=>obtain⟨σ,H,I,q⟩:=q;exact⟨σ,H,unw I,q⟩
  | ret u=>obtain⟨v,σ,H,I,r,q⟩:=q;exact⟨v,σ,H,unw I,r,q⟩
 cases f with
 | next=>exact wpAny_pure q'
 | brk=>exact q'
 | cont=>exact q'
 | ret u=>exact q'⟩
end
section
variable{P:eG}{w:eI}{K:uFg}{mg:dW}{base:Heap}
theorem Tn.ok0{x qual:Str}{st:Stmt}{f:eF}{fd:FuncData}{N ps:dX}{k:Nat}{sp:Sp}(F:Tn K x qual st f fd)(S:ZM N ps (Zp st))(len:∀vs H Q E,sp vs H Q E->vs.length=ps.length)(hbody:∀ (cdv:eE) (A:eJ) (outer:List Env) (s:eB) (H:Hp) (vs:List V) (Q:VK) (E:XK),ZL k (A.deeper (envOfC qual (Zp st) s.heap.objs.size f cdv))->sp vs H Q E -> ∃t,Jd (Y2 VA P w K mg base N qual (Zp st) f cdv A outer s H E).nox (Yq st) t/\t {nx:=fun _ H'=>Q .non H',rt:=Q } (start N vs) H):YF P w K mg base VA (k+1) f fd ps sp:=by
 obtain⟨oc,od,kV,doc,pm,an,cdv,ct,osl,rfl,lk,hcd⟩:=F.ex;refine⟨len,fun A outer s H args us vs Q E hr e0 hb r hsp=>?_⟩;have hl:=len _ _ _ _ hsp;have KX:K.In s.heap:=e0.mod.kin.keeps fun b o e=>(e0.bs b o e).1;have lim:s.heap.NoLimit:=e0.mod.nolimit.keeps fun b o e=>(e0.bs b o e).1;have hkind:∀y∈ps.zip us,(Zp st).names.lookup y.1=some .local\/((Zp st).names.lookup y.1=some .cell/\((cellsFrom (s.heap.objs.size+1) (Zp st).names []).lookup y.1).isSome=true):=fun⟨n,v⟩ hy=>by
  rcases S.par n (yZ hy).1 with q | q
  ·exact .inl q
  ·exact .inr ⟨q,PySem.W.cellsFrom_some _ _ _ (.inl q)⟩
 refine codeAny_call_function hr.depth (KX _ _ lk) rfl S.co S.gen rfl (PySem.W.codeRec_of KX hcd) (hb _ _ _ _ ?_);refine wpAny_newFunctionEnv_cells S.kind hkind fun env he s1 x=>?_;subst he;refine⟨lim.keeps x.toInCall.keep,codeAny_func ?_⟩;obtain⟨t,ht,hq⟩:=hbody cdv A outer s H vs Q E (hr.deeper _) hsp;have I0:ZD (Y2 VA P w K mg base N qual (Zp st) f cdv A outer s H E) [] (start N vs) H s1:=Hl S hr.hd e0 hl r x;have I:ZD (Y2 VA P w K mg base N qual (Zp st) f cdv A outer s H E).nox [] (start N vs) H s1:=⟨⟨I0.ok.mod,I0.ok.kind,I0.ok.glob,I0.ok.blt,I0.ok.above,I0.ok.inj,I0.ok.has,I0.ok.cab,I0.ok.hd,I0.ok.frames,I0.ok.stk,I0.ok.exf,I0.ok.bs,I0.ok.bsz,I0.ok.noex,I0.ok.exfs,I0.ok.funs,I0.ok.frf⟩,I0.os,I0.bare,I0.base,I0.loc,I0.cell,I0.free,I0.freeC,I0.pin,I0.hok,I0.len⟩;refine wpAny_mono (ht.h s1 (start N vs) H _ I hq) (fun fl s' hs=>?_) fun e s' hs=>hs.elim;have fin:∀{σ':St}{H':Hp}{v:V}{u:eE},ZD (Y2 VA P w K mg base N qual (Zp st) f cdv A outer s H E).nox [] σ' H' s'->ZG v u->Q v H'->CE outer P w H s Q u s' :=
  fun {σ' H' v u} J rv q=>⟨v,H',J.os,J.bare,J.base,J.hok,rv,q⟩
 cases fl with
 | ret u =>
  obtain⟨v,σ',H',J,rv,q⟩:=hs;exact fin J rv q
 | next =>
  obtain⟨σ',H',J,q⟩:=hs;exact fin (v:=V.non) (u:=Value.none) J rfl q
 | brk=>obtain⟨_,_,_,z⟩:=hs;exact z.elim
 | cont=>obtain⟨_,_,_,z⟩:=hs;exact z.elim
theorem YC.fn0{x:Str}{st:Stmt}{N ps:dX}{k:Nat}{sp:Sp}(h:YC K mg x st)(S:ZM N ps (Zp st))(hb:∀ (kV doc pm:eE) (an:Option eF) (cdv ct:eE) (us:dY),us.length=ps.length->bindArgs (PySem.W.fnOf x x (Va st) (Yq st) (Zp st) .none kV doc pm an cdv ct) ⟨us,[]⟩=pure (ps.zip us))(len:∀vs H Q E,sp vs H Q E->vs.length=ps.length)(hbody:∀ (f:eF) (cdv:eE) (A:eJ) (outer:List Env) (s:eB) (H:Hp) (vs:List V) (Q:VK) (E:XK),ZL k (A.deeper (envOfC x (Zp st) s.heap.objs.size f cdv))->sp vs H Q E -> ∃t,Jd (Y2 VA P w K mg base N x (Zp st) f cdv A outer s H E).nox (Yq st) t/\t {nx:=fun _ H'=>Q .non H',rt:=Q } (start N vs) H):Fn P w K mg base x ps (k+1) sp:=by
 obtain⟨f,fd,F,hm⟩:=h;exact⟨f,fd,hm,F.kp,F.binds hb,F.ok0 S len (hbody f)⟩
end
theorem K4{CX:UU}{P:eG}{w:eI}{K:uFg}{mg:dW}{base:Heap}{N:dX}{qual:Str}{scope:Scope}{f:eF}{cd:eE}{A:eJ}{outer:List Env}{s:eB}{H:Hp}{E:XK} :
  Pl (Y2 CX P w K mg base N qual scope f cd A outer s H E).nox:=⟨rfl,rfl,rfl,rfl⟩
structure Er (K:uFg) (mg:dW) (c:dZ) (errs:dX):Prop where
 g:∀x,x∈errs->mg x=some (.ref (c x))
 x:∀x,x∈errs->Ag K (c x)=true
 k:∀x,x∈errs->DN K (c x)=true
 m:mg "MootError" = some (.ref (c "MootError"))
 e:∀x,x∈errs->J3 K (c x) (c "MootError")=some true
 s:∀x,x∈errs->∀y,y∈errs->J3 K (c x) (c y)=some (decide (x=y))
 i:∀x,x∈errs->∀y,y∈errs->PySem.W.kitOne K (.ref (c x)) (.ref (c y))=some (decide (x=y))
 v:∀x,x∈errs->PySem.W.kitOne K (.ref (c x)) (.type "ValueError")=some true
theorem Wa{X:Cx}{E:St->XK}{x:Str}{np cpos pos:Pos}{e:Expr}{te:TE}{c:dZ}{es:dX}(hx:Xp X E)(er:Er X.K X.mg c es)(he:QE X e te)(hm:decide (x∈es)=true:=by kernel_rfl)(n:nB X x .globalImplicit:=by kernel_rfl)(hcl:X.calm=true:=by rfl)(hex:X.ex = []:=by rfl)(hs:starEach [e] X.env = [(false,eval e X.env)]:=by rfl):QS X (.Raise (some (.Call (.Name x np) [e] [] cpos)) none pos) (Gr E (c x) te):=PM hx hcl hex (er.x x (od hm)) (od n) (er.g x (od hm)) he hs
end L2
namespace L2
open PySem PySem.Spec PyProof.Rows
abbrev lxE(X:Cx)(E:St->XK):eE->eB->Prop:=fun(e:eE) (s':eB)=>∃ σ H a C,e = .ref a/\ZD X [] σ H s'/\TB X.s₀.heap H s'.heap a C/\E σ (.ref C) none H
abbrev Cx.lx(X:Cx)(E:St->XK):Cx:=X.wish (lxE X E)
theorem dB{X:Cx}{st:Stmt}{t:TS}{E:St->XK}(p:Pl X)(hx:Xp X E)(h:Xq (X.lx E) E->Xp (X.lx E) E->PassesOwn (model X.prog X.w) X.A X.env (lxE X E)->QS (X.lx E) st t):QS X st t:=⟨by
 intro pins s σ H D I q;have wish:∀{E'} {σ:St}{H:Hp}{s:eB}{pins:List (eF×Obj)},ZD X pins σ H s->ZD (X.wish E') pins σ H s:=fun I=>⟨⟨I.ok.mod,I.ok.kind,I.ok.glob,I.ok.blt,I.ok.above,I.ok.inj,I.ok.has,I.ok.cab,I.ok.hd,I.ok.frames,I.ok.stk,I.ok.exf,I.ok.bs,I.ok.bsz,I.ok.noex,I.ok.exfs,I.ok.funs,I.ok.frf⟩,I.os,I.bare,I.base,I.loc,I.cell,I.free,I.freeC,I.pin,I.hok,I.len⟩;have unw:∀{E'} {σ:St}{H:Hp}{s:eB}{pins:List (eF×Obj)},ZD (X.wish E') pins σ H s->ZD X pins σ H s:=fun I=>⟨⟨I.ok.mod,I.ok.kind,I.ok.glob,I.ok.blt,I.ok.above,I.ok.inj,I.ok.has,I.ok.cab,I.ok.hd,I.ok.frames,I.ok.stk,I.ok.exf,I.ok.bs,I.ok.bsz,I.ok.noex,I.ok.exfs,I.ok.funs,I.ok.frf⟩,I.os,I.bare,I.base,I.loc,I.cell,I.free,I.freeC,I.pin,I.hok,I.len⟩;have hp:PassesOwn (model X.prog X.w) X.A X.env (lxE X E):=by
  rintro e s' ⟨σ1,H1,a,C,rfl,I1,x1,q1⟩;refine GN I1 p.pn p.ex p.stk p.fr x1 fun h2 I2 x2 _=>?_;obtain⟨ha,h0a,oe,vs,a0,he,hc,hd,v0,T,oT,ts,v3,v1,tr⟩:=id x2;show wpAny _ _ (field (.ref a) 1 >>= _) _ _ _;refine wpAny_bind (wpAny_field he hd v1 ?_);rw[if_neg (show ¬((Value.ref T == Value.none)=true) from by simp)];exact DB (s:={s' with heap:=h2 }) I2 p.pn x2 fun h3 I3 x3=>⟨σ1,H1,a,C,rfl,I3,x3.at_,q1⟩
 have hx':Xp (X.lx E) E:=⟨fun pins σ1 H1 s1 a C I1 x1 q1=>by exact⟨σ1,H1,a,C,rfl,(unw I1).pins_of (fun p hp=>nomatch hp),x1,q1⟩⟩;refine wpAny_mono ((h ⟨.inr ⟨p.ex,hx'⟩⟩ hx' hp).h pins s σ H D (wish I) q) (fun f s1 q=>?_) fun e s1 z=>?_
 ·cases f with
  | next=>obtain⟨σ,H,I,q⟩:=q;exact⟨σ,H,unw I,q⟩
  | brk=>obtain⟨σ,H,I,q⟩:=q;exact⟨σ,H,unw I,q⟩
  | cont=>obtain⟨σ,H,I,q⟩:=q;exact⟨σ,H,unw I,q⟩
  | ret u=>obtain⟨v,σ,H,I,r,q⟩:=q;exact⟨v,σ,H,unw I,r,q⟩
 ·obtain⟨σ1,H1,a,C,rfl,I1,x1,q1⟩:=z
  exact hx.h [] σ1 H1 s1 a C I1 x1 q1⟩
theorem Cp(p:Pl X)(hx:Xp X E)(hc:X.calm=true)(hi:QI (X.lx E) tg iter wi)(hg:QG (X.lx E) tg g)(hb:Xq (X.lx E) E->Xp (X.lx E) E->WW (X.lx E) body t)(hs:∀x,foldedSetIterable iter X.env x=pure x:=by intro _;rfl):QS X (.For tg iter body [] pos) (IF wi g t):=dB p hx fun hq hp po=>Ws (X:=X.lx E) po hc hi hg (hb hq hp) hs
inductive BC(xs:List V)(H:Hp)(Q:VK):Prop
 |mk(b)(_:xs = [.bl b])(_:Q (.int (if b then 1 else 0)) H)
theorem OS:QC X (.type "int") BC:=⟨by
 intro pins s σ H xs us Q I r h;obtain⟨b,rfl,q⟩:=h;cases r with
 | cons r1 r =>
  cases r;obtain rfl:=r1
  exact call_int_bool ⟨.int (if b then 1 else 0),H,I.tok _,⟨_,rfl⟩,q⟩⟩
section
variable{P:eG}{w:eI}{A:eJ}{E:dU}{s:eB}
end
section
variable{X:Cx}{pins:List (eF×Obj)}{σ:St}{H:Hp}{s:eB}
theorem ZD.freeze{d:eF}{o:Obj}{kvs:List (ZS×V)}(I:ZD X pins σ H s)(e:H d=some (.dK kvs))(ho:s.heap.get? d=some o):ZD X pins σ (upd H d (.frz o (.dK kvs))) s:=by
 have h:=I.write (h':=s.heap) (t':=s.toks) (x:=d) (e:=d) (o:=.frz o (.dK kvs)) (by rw[e];exact True.intro) (.inl rfl) (fun _ _ _ q=>q) ⟨o,ho⟩ ⟨ho,?_⟩
 ·exact h
 ·obtain⟨z,y,vs,r,q⟩:=(show ZO X.prog X.w H s.heap d (.dK kvs) from I.hok d _ e);exact⟨z,y,vs,r,q⟩
theorem ZD.nofrz{d:eF}{kvs:List (ZS×V)}(I:ZD X pins σ H s)(e:H d=some (.dK kvs)):∀o u,X.H₀ d≠some (.frz o u):=fun o u z=>by
 have:=I.base.frzs d o u z;rw[e] at this;cases this
theorem ZD.thaw{d:eF}{o:Obj}{kvs:List (ZS×V)}(I:ZD X pins σ H s)(e:H d=some (.frz o (.dK kvs)))(nf:∀o u,X.H₀ d≠some (.frz o u)):ZD X pins σ (upd H d (.dK kvs)) s:=by
 have hne:∀b u,H b=some u->(∀x,u ≠ .frz o x)->b≠d:=fun b u q n z=>by rw[z,e] at q;exact n _ (Option.some.inj q).symm
 have hnn:∀b,H b=none->b≠d:=fun b q z=>by rw[z,e] at q;cases q
 refine⟨I.ok,I.os,I.bare,⟨I.base.keep,I.base.slot,fun b ob q n hx=>?_,I.base.there,fun b xs q=>?_,fun b ob u q=>?_,fun b ps q=>?_⟩,I.loc,I.cell,?_,fun x c q=>?_,fun p hp=>?_,fun b u q=>?_,I.len⟩
 ·have:=I.base.free b ob q n hx;rw[Ze (hnn b this)];exact this
 ·have:=I.base.tups b xs q;rw[Ze (hne b _ this fun _ z=>nomatch z)];exact this
 ·have:=I.base.frzs b ob u q;rw[Ze (fun z=>nf ob u (by rw[← z];exact q))];exact this
 ·obtain⟨m,hm⟩:=I.base.tbls b ps q;exact⟨m,by rw[Ze (hne b _ hm fun _ z=>nomatch z)];exact hm⟩
 ·rw[Ze (hnn _ I.free)];exact I.free
 ·rw[Ze (hnn _ (I.freeC x c q))];exact I.freeC x c q
 ·obtain⟨p1,p2,p3,p4,p5⟩:=I.pin p hp;exact⟨p1,by rw[Ze (hnn _ p2)];exact p2,p3,p4,p5⟩
 ·by_cases hb:b=d
  ·subst hb;rw[Zg] at q;cases q;obtain⟨_,z,y,vs,r,c⟩:=(show ZO X.prog X.w H s.heap b (.frz o (.dK kvs)) from I.hok b _ e);exact⟨z,y,vs,r,c⟩
  ·rw[Ze hb] at q;refine(I.hok b u q).stay (fun _ _ _ z=>z) (fun c z=>?_) fun c xs z=>?_
   ·rw[Ze (hne c _ z fun _ y=>nomatch y)];exact z
   ·rw[Ze (hne c _ z fun _ y=>nomatch y)];exact z
end
section
variable{te:TE}
inductive BQ(te:TE)(σ:St)(H:Hp)(Q:VK):Prop
 |mk(d kvs)(_:H d=some (.dK kvs))(_:∀o,te σ (upd H d (.frz o (.dK kvs))) fun v H'=>H' d=some (.frz o (.dK kvs))/\Q v (upd H' d (.dK kvs)))
theorem XU(h:QE X e te):QE X e (BQ te):=⟨by
 intro pins s σ H Q I q;obtain⟨d,kvs,ed,q⟩:=q;obtain⟨z,y,vs,r,o,es,ep,ho,c⟩:=(show ZO X.prog X.w H s.heap d (.dK kvs) from I.hok d _ ed);have nf:=I.nofrz ed
 exact thn (h.h pins s σ _ _ (I.freeze ed ho) (q o)) fun u s1 ⟨x,H1,I1,r1,e1,q1⟩=>⟨x,_,I1.thaw e1 nf,r1,q1⟩⟩
end
def DH(d:eF)(o:Obj)(kvs:List (ZS×V)):It :=
 ⟨fun i H=>H d=some (.frz o (.dK kvs))/\i < kvs.length,fun i H v H'=>H'=H/\∃p,kvs[i]? = some p/\v=kV p.1,fun i H=>H d=some (.frz o (.dK kvs))/\kvs.length<=i⟩
theorem Gb(h:(Y7 P w).is k v=true):ZG (kV k) v:=by
 cases k with
 | inl i =>
  cases v<;>first
   | exact absurd (show false=true from h) xM
   | skip
  rename_i j t;have e:j=i:=by
   have h:(j == i)=true:=h;exact eq_of_beq h
  exact⟨t,by rw[e]⟩
 | inr x =>
  cases v<;>first
   | exact absurd (show false=true from h) xM
   | skip
  rename_i j t;have e:j=x:=by
   have h:(j == x)=true:=h;exact eq_of_beq h
  exact⟨t,by rw[e]⟩
theorem KV.get{κ:Type}:∀{kvs:List (κ×V)}{vs:List (κ×eE)}{i:Nat}{p : κ×V}{q : κ×eE},KV kvs vs->kvs[i]? = some p->vs[i]? = some q->p.1=q.1/\ZG p.2 q.2:=by
 intro kvs vs i p q r;unfold KV at r
 induction r generalizing i with
 | nil=>intro h;simp at h
 | cons h t ih =>
  intro e1 e2;cases i with
  | zero =>
   have e1:some _=some p:=e1;have e2:some _=some q:=e2;cases e1;cases e2;exact h
  | succ i=>exact ih (i:=i) e1 e2
theorem Pi{P:eG}{w:eI}{K:uFg}{tg:Expr}(it d:eF)(o:Obj)(kvs:List (ZS×V))(vs:List (ZS×eE))(ep:Nat)(hne:d≠it)(rel:KV kvs vs)(hD:∀h:Heap,h.get? d=some o->h.DictAt (Y7 P w) d vs ep) :
  VI P w K tg (DH d o kvs) [it] it (fun i h=>h.IsKeyIter it d i vs.length ep) where
 mem:=by simp
 obj:=fun i h st b hb=>by
  have e:b=it:=by simpa using hb
  subst e;obtain⟨ob,ho,hc,hd⟩:=st;exact⟨ob,ho,fun v q=>by rw[hd] at q;cases q⟩
 keep:=fun i h h' st k=>st.at fun ob q=>k it (by simp) ob q
 item:=by
  intro X hP hw hK hc i pins s σ H E I hf st hg;subst hP hw hK;obtain⟨f0,f1,f2,f3,f4,f5⟩:=hf it (by simp);obtain⟨ed,hi⟩:=hg;obtain⟨hod,_⟩:=(show ZO X.prog X.w H s.heap d (.frz o (.dK kvs)) from I.hok d _ ed);have W:=Walks.dictKeys (prog:=X.prog) (w:=X.w) (A:=X.A) (knd:=Y7 X.prog X.w) (I.ok.hd hc) it d hne vs ep;refine W.item i s _ _ (by rw[← rel.length];exact hi) ⟨st,hD _ hod⟩ fun v h' tk hv st' kk=>?_;obtain⟨k,x,hx,hk⟩:=hv;have I1:ZD X pins σ H {s with heap:=h',toks:=tk }:=I.turned (fun b ob hb e=>kk b ob (by simpa using hb) e) f0 f1 f3 f4 f5;obtain⟨ob,ho,hcl,hdt⟩:=id st'.1;obtain⟨p,hp⟩:∃p,kvs[i]? = some p:=⟨_,xB hi⟩;have hpk:p.1=k:=(KV.get rel hp hx).1;refine⟨_,rfl,Bj (s:={s with heap:=h',toks:=tk }) (n:="dict_keyiterator") ho hcl hdt (by decide) ⟨kV p.1,H,I1,by rw[hpk];exact Gb hk,⟨rfl,p,hp,rfl⟩,st'.1,fun b hb=>(hf b hb).1⟩⟩
 done:=by
  intro X hP hw hK hc i pins s σ H E I hf st hg;subst hP hw hK;obtain⟨f0,f1,f2,f3,f4,f5⟩:=hf it (by simp);obtain⟨ed,hi⟩:=hg;obtain⟨hod,_⟩:=(show ZO X.prog X.w H s.heap d (.frz o (.dK kvs)) from I.hok d _ ed);exact wpAny_pyNext_dict_end (I.ok.hd hc) st (hD _ hod) (List.getElem?_eq_none (by rw[← rel.length];exact hi)) fun h' eb=>⟨rfl,I.turned (t':=s.toks) (fun b ob hb e=>eb b ob hb e) f0 f1 f3 f4 f5⟩
 self:=fun _ _ _ _ _ st h=>wpAny_pyIter_keyiter st h
section
variable{te:TE}
inductive AQ(R:It->Hp->Prop)(x:V)(H1:Hp):Prop
 |mk(d o kvs)(_:x = .ref d)(_:H1 d=some (.frz o (.dK kvs)))(_:R (DH d o kvs) H1)
def Ph(te:TE):TI:=fun σ H R=>te σ H fun x H1=>AQ R x H1
theorem SG(hl:QE X l te):QI X tg l (Ph te):=⟨by
 intro pins s σ H R I h;refine thn (hl.h pins s σ H _ I h) fun u s1 ⟨x,H1,I1,r1,d,o,kvs,ex,ed,q⟩=>?_;subst ex;obtain rfl:u=Value.ref d:=r1;obtain⟨hod,z,hsys,vs,rel,o',es,ep,ho',c⟩:=(show ZO X.prog X.w H1 s1.heap d (.frz o (.dK kvs)) from I1.hok d _ ed);rw[hod] at ho';cases ho';have hD:∀h:Heap,h.get? d=some o->h.DictAt (Y7 X.prog X.w) d vs ep:=fun h e=>⟨o,es,e,c⟩;refine wpAny_pyIter_dict hsys (hD _ hod) ?_;have lt:d < s1.heap.objs.size:=xQ hod;refine⟨s1.heap.objs.size,[s1.heap.objs.size],_,_,H1,rfl,I1.kept (t':=s1.toks) fun b ob e=>xG _ e,Pi s1.heap.objs.size d o kvs vs ep (yG lt) rel hD,⟨_,xW _ rfl,rfl,rfl⟩,fun b hb=>?_,q⟩;have e:b=s1.heap.objs.size:=by simpa using hb
 subst e
 exact I1.fpOk (xD _) (I1.hok.fresh (xD _))⟩
end
theorem Qr(Pv:Nat->List V->Hp->Prop)(h0:Pv 0 [] H)(hn:kvs.length<=1000000)(hl:∀i ys H,i<=kvs.length->Pv i ys H->H d=some (.frz o (.dK kvs)))(hlen:∀i ys H,Pv i ys H->ys.length<=i)(step:∀i p ys H,kvs[i]? = some p->Pv i ys H->Vt nl fv g tt te (kV p.1) H (fun y H'=>Pv (i+1) (ys ++ [y]) H') fun H'=>Pv (i+1) ys H')(hd:∀ys H,Pv kvs.length ys H->∀l,H l=none->Q (.ref l) (upd H l (.lst ys))) :
  Ur (DH d o kvs) nl fv g tt te Q H:=by
 have hml:(kvs.map fun p=>kV p.1).length=kvs.length:=xA ..;refine B3 (xs:=kvs.map fun p=>kV p.1) Pv h0 (by rw[hml];exact hn) ?_ ?_ ?_ hlen ?_ ?_
 ·intro i H ys hi p;rw[hml] at hi;exact⟨hl i ys H (zC hi) p,hi⟩
 ·rintro i H x H' ys hi p ⟨rfl,q,hq,rfl⟩;exact⟨rfl,by rw[xI,hq];rfl⟩
 ·intro H ys p;rw[hml] at p ⊢;exact⟨hl _ ys H (xD _) p,xD _⟩
 ·grind
 ·intro ys H p;rw[hml] at p;exact hd ys H p
inductive An(K:uFg)(xs:List V)(H:Hp)(Q:VK):Prop
 |mk(a) (ns)(_:xs = [.ref a])(_:ZE K H a (ns.map V.int))(_:ns ≠ [])(_:∀m,m∈ns->(∀x∈ns,x<=m)->Q (.int m) H)
theorem XE:∀{us:dY},ZH (ns.map V.int) us->∃xs:List (Int×Tok),xs.map (·.1)=ns/\us=xs.map fun p=>Value.int p.1 p.2:=by
 induction ns with
 | nil=>intro us r;cases r;exact⟨[],rfl,rfl⟩
 | cons n ns ih =>
  intro us r;cases r with
  | cons r1 r2 =>
   obtain⟨t,rfl⟩:=r1;obtain⟨xs,e1,e2⟩:=ih r2;exact⟨(n,t)::xs,by rw[yI,e1],by rw[yI,e2]⟩
theorem QY(hc:X.calm=true):Vg X (.builtin "max") (An X.K):=by
 intro pins s σ H xs us Q I r h;obtain⟨a,ns,rfl,ha,hne,q⟩:=h;obtain⟨u,rfl,ru⟩:=Up r;cases ru;obtain⟨its,rv,p,_⟩:=I.list ha;obtain⟨ps,e1,e2⟩:=XE rv;subst e2;have hl:s.heap.IsList a (intItems ps.toArray):=by
  have:=p.isList;have e:intItems ps.toArray=(ps.map fun p=>Value.int p.1 p.2).toArray:=by unfold intItems;simp
  rw[e];exact this
 have hps : 0 < ps.toArray.size:=by grind
 refine max_intList (I.ok.hd hc) hl hps fun v h' tk hv k=>?_;obtain⟨b1,b2⟩:=argBest_gt (numAt ps.toArray) (ps.toArray.size - 1);generalize argBest (fun i j=>decide (numAt ps.toArray i > numAt ps.toArray j)) (ps.toArray.size - 1)=j at hv b1 b2;obtain⟨t,rfl⟩:=intItems_at hv;have num:∀i:Nat,i < ps.length->ns[i]? = some (numAt ps.toArray i):=fun i hi=>by
  rw[← e1,xI];unfold numAt;rw[List.getElem?_toArray,xB hi];rfl
 have hsz:ps.toArray.size=ps.length:=xP ..;have hnl:ns.length=ps.length:=by rw[← e1,xA]
 refine⟨.int (numAt ps.toArray j),H,I.kept k,⟨t,rfl⟩,q _ (xJ (num j (by lia))) fun x hx=>?_⟩;obtain⟨i,hi⟩:=List.getElem?_of_mem hx;have hil:i < ps.length:=by have:=(xH.mp hi).1;lia
 rw[num i hil] at hi;cases hi;exact b2 i (by lia)
theorem Nl(hc:X.calm=true):QC X (.builtin "max") (An X.K):=⟨QY hc⟩
inductive Jl(xs:List V)(H:Hp)(Q:VK):Prop
 |mk(d) (kvs)(_:xs = [.ref d])(_:H d=some (.dK kvs))(_:∀l,H l=none->Q (.ref l) (upd H l (.lst (kvs.map fun p=>kV p.1))))
theorem MA{P:eG}{w:eI}{kvs:List (ZS×V)}{vs:List (ZS×eE)}(rel:KV kvs vs){us:dY}(hl:us.length=vs.length)(h:∀ (j:Nat) (v:eE),us[j]? = some v->∃k x,vs[j]? = some (k,x)/\(Y7 P w).is k v=true):ZH (kvs.map fun p=>kV p.1) us:=by
 unfold KV at rel
 induction rel generalizing us with
 | nil=>cases us with
  | nil=>exact .nil
  | cons u us=>simp at hl
 | @cons a b as bs r t ih =>
  cases us with
  | nil=>simp at hl
  | cons u us =>
   obtain⟨k,x,e,hk⟩:=h 0 u rfl;have e:some b=some (k,x):=e;cases e;rw[yI];refine .cons ?_ (ih (by simpa using hl) fun j v hj=>h (j+1) v hj);rw[show a.1=k from r.1];exact Gb hk
theorem NV(hc:X.calm=true):Vg X (.type "list") Jl:=by
 intro pins s σ H xs us Q I r h;obtain⟨d,kvs,rfl,ed,q⟩:=h;obtain⟨u,rfl,ru⟩:=Up r;cases ru;obtain⟨z,hsys,vs,rel,o,es,ep,ho,c⟩:=(show ZO X.prog X.w H s.heap d (.dK kvs) from I.hok d _ ed);have hD:s.heap.DictAt (Y7 X.prog X.w) d vs ep:=⟨o,es,ho,c⟩;have hlen:kvs.length=vs.length:=rel.length;refine PySem.W.kdl_call (PySem.W.kdl_dict (knd:=Y7 X.prog X.w) (kvs:=vs) (ep:=ep) hsys) (I.ok.hd hc) hD (by rw[← hlen];exact z) fun h' tk acc c' hk hS hacc=>?_;have hv:ZH (kvs.map fun p=>kV p.1) acc.toList:=MA (P:=X.prog) (w:=X.w) rel (by rw[Array.length_toList];exact hacc.1) fun j v e=>hacc.2 j v (by rw[← wA];exact e);refine⟨.ref s.heap.objs.size,_,I.laid (t':=tk) (o:=.lst (kvs.map fun p=>kV p.1)) hk (xD _) ⟨by rw[xA];exact z,acc.toList,c',hv,by rw[Array.toArray_toList];exact hS⟩,rfl,q _ (I.hok.fresh (xD _))⟩
theorem Rj(hc:X.calm=true):QC X (.type "list") Jl:=⟨NV hc⟩
section
variable{o:Expr}{te:TE}
end
theorem RO(n:Nat)(f:Nat->Option (List V))(Pv:Nat->List V->Hp->Prop)(h0:Pv 0 [] H)(hn:n<=1000000)(hgo:∀i H ys,i < n->Pv i ys H->J.go i H)(hy:∀i H x H' ys,i < n->Pv i ys H->J.yld i H x H'->∃p us,f i=some us/\x = .ref p/\H p=none/\H'=upd H p (.tup us))(hst:∀H ys,Pv n ys H->J.stop n H)(hlen:∀i ys H,Pv i ys H->ys.length<=i)(step:∀i us p ys H,i < n->f i=some us->Pv i ys H->H p=none->Vt nl fv g tt te (.ref p) (upd H p (.tup us)) (fun y H'=>Pv (i+1) (ys ++ [y]) H') fun H'=>Pv (i+1) ys H')(hd:∀ys H,Pv n ys H->∀l,H l=none->Q (.ref l) (upd H l (.lst ys))) :
  Ur J nl fv g tt te Q H:=by
 have mono:∀{x:V}{H:Hp}{Y Y':V->Hp->Prop}{N N':Hp->Prop},Vt nl fv g tt te x H Y N->Y=Y'->N=N'->Vt nl fv g tt te x H Y' N':=fun h e1 e2=>by subst e1;subst e2;exact h
 refine⟨fun i m ys H=>m=n - i/\i<=n/\Pv i ys H,⟨n,by simp,yL _,h0⟩,?_⟩;rintro i m ys H ⟨rfl,hi,p⟩;have hl:=hlen i ys H p;have hz:(1000000:Nat) < sizeLine:=by decide
 by_cases hlt:i < n
 ·refine .inr ⟨hgo i H ys hlt p,by lia,n - (i+1),by lia,fun x H' y=>?_⟩;obtain⟨q,us,hf,rfl,hq,rfl⟩:=hy i H x H' ys hlt p y;refine mono (step i us q ys H hlt hf p hq) ?_ ?_
  ·funext y H4;apply propext;exact⟨fun q=>⟨rfl,hlt,q⟩,fun q=>q.2.2⟩
  ·funext H3;apply propext;exact⟨fun q=>⟨rfl,hlt,q⟩,fun q=>q.2.2⟩
 ·grind
theorem Ot{K:uFg}{l:eF}{nl:Nat}{fv:St}{g:TG}{tt:Tz}{te:TE}{Q:VK}{H:Hp}(xs:List V)(Pv:Nat->List V->Hp->Prop)(h0:Pv 0 [] H)(hn:xs.length<=1000000)(hl:∀i ys H,i<=xs.length->Pv i ys H->ZE K H l xs)(hlen:∀i ys H,Pv i ys H->ys.length<=i)(step:∀i x p ys H,xs[i]? = some x->Pv i ys H->H p=none->Vt nl fv g tt te (.ref p) (upd H p (.tup [.int i,x])) (fun y H'=>Pv (i+1) (ys ++ [y]) H') fun H'=>Pv (i+1) ys H')(hd:∀ys H,Pv xs.length ys H->∀l,H l=none->Q (.ref l) (upd H l (.lst ys))) :
  Ur (CV K l) nl fv g tt te Q H:=by
 refine RO xs.length (fun i=>(xs[i]?).map fun x=>[.int i,x]) Pv h0 hn (fun i H ys hi p=>⟨xs,hl i ys H (zC hi) p,hi⟩) ?_ (fun H ys p=>⟨xs,hl _ ys H (xD _) p,xD _⟩) hlen ?_ hd
 ·rintro i H x H' ys hi p ⟨q,a,rfl,hq,rfl,ha⟩;exact⟨q,_,by rw[ha xs (hl i ys H (zC hi) p)];rfl,rfl,hq,rfl⟩
 ·grind
theorem IR{K:uFg}{a:eF}{xs:List V}{nl:Nat}{fv:St}{g:TG}{tt:Tz}{te:TE}{Q:VK}{H:Hp}(Pv:Nat->List V->Hp->Prop)(h0:Pv 0 [] H)(hn:xs.length<=1000000)(hl:∀i ys H,i<=xs.length->Pv i ys H->ZT K H a xs)(hlen:∀i ys H,Pv i ys H->ys.length<=i)(step:∀i x ys H,xs[i]? = some x->Pv i ys H->Vt nl fv g tt te x H (fun y H'=>Pv (i+1) (ys ++ [y]) H') fun H'=>Pv (i+1) ys H')(hd:∀ys H,Pv xs.length ys H->∀l,H l=none->Q (.ref l) (upd H l (.lst ys))) :
  Ur (Fg K a) nl fv g tt te Q H:=by
 refine B3 (xs:=xs) Pv h0 hn ?_ ?_ ?_ hlen step hd
 ·intro i H ys hi p;exact⟨xs,xs[i],hl i ys H (zC hi) p,by simp[hi]⟩
 ·rintro i H x H' ys hi p ⟨rfl,y⟩;exact⟨rfl,y xs (hl i ys _ (zC hi) p)⟩
 ·intro H ys p;exact⟨xs,hl _ ys H (xD _) p,xD _⟩
section
variable{X:Cx}
inductive AM(K:uFg)(xs:List V)(H:Hp)(Q:VK):Prop
 |mk(p ys)(_:xs = [.ref p])(_:((ZE K H p ys/\∀l,H l=none->Q (.ref l) (upd H l (.tup ys)))\/(ZT K H p ys/\Q (.ref p) H)))
theorem XH:QC X (.type "tuple") (AM X.K):=.imp ⟨MX⟩ fun _ _ _ ⟨p,y,a,b⟩=>⟨p,y,a,b⟩
end
section
variable{X:Cx}{tg iter e:Expr}{es ifs:List Expr}{scope:Scope}{pos cpos np:Pos}{locs:dX}{fr:List (Str×Nat)}{g:TG}{tt:Tz}{t:TA}{x:Str}
end
theorem Du{P:eG}{w:eI}{K:uFg}{mg:dW}{base:Heap}{N:dX}{qual:Str}{scope:Scope}{f:eF}{cd:eE}{A:eJ}{outer:List Env}{s:eB}{H:Hp}{E:XK} :
  Pl (Y2 (Tw P w) P w K mg base N qual scope f cd A outer s H E):=⟨rfl,rfl,rfl,rfl⟩
end L2
namespace L2
open PySem PySem.Spec PyProof.Rows PySem.W
section
variable{s:eB}{r:Nat->Nat}{N:Nat}{p:Array Nat}
end
end L2
namespace L2
end L2
namespace L2
open PySem PySem.Spec PyProof.Rows
end L2
namespace L2
open PySem PySem.Spec PyProof.Rows PySem.W
section
variable{prog:eG}{w:eI}{A:eJ}{s:eB}
end
end L2
namespace L2
open PySem PySem.Spec PyProof.Rows PySem.W
section
variable{s:eB}{r:Nat->Nat}{N:Nat}{p:Array Nat}
end
end L2
namespace L2
open PySem PySem.Spec PyProof.Rows PySem.W
section
variable{P:eG}{w:eI}{K:Frag}{mg:dW}{base:Heap}
end
section
variable{X:Cx}{pins:List (eF×Obj)}{σ:St}{H:Hp}{s:eB}{c P:eF}{nm:Str}{params:Arguments}{body:Expr}{scope:Scope}{lpos:Pos}
end
end L2
namespace L2
open PySem PySem.Spec PyProof.Rows PySem.W
section
variable{X:Cx}{pins:List (eF×Obj)}{σ:St}{H:Hp}{s:eB}
variable{a kS:eF}{keys:Array eE}{b:Bool}{e e1:Nat}{Pf:PySem.Fin->eB->Prop}{E:dU}
end
end L2
namespace L2
open PySem PySem.Spec PyProof.Rows PySem.W
section
variable{X:Cx}{c P:eF}{nm x:Str}{params:Arguments}{body:Expr}{scope:Scope}{lpos p kp kp2 pos:Pos}{e:Expr}{te:TE}{k:Nat}
end
end L2
namespace L2
open PySem PySem.Spec PyProof.Rows PySem.W
/- the library's own look at a code's head (KE.KNestM): a match of its own cost 37,000 objects -/
section
variable{P:eG}{w:eI}{K:uFg}{mg:dW}{base:Heap}
end
section
variable{P:eG}{w:eI}{K:uFg}{mg:dW}{base:Heap}{x nm:Str}{scope:Scope}{f:eF}{cv:eE}{A:eJ}{outer:List Env}{s:eB}{H:Hp}{E:XK}{pos:Pos}
end
end L2
namespace L2
open PySem PySem.Spec PyProof.Rows PySem.W
end L2
namespace L2
open PySem PySem.Spec PyProof.Rows PySem.W
section
variable{ta:TE}
def dD(K:Frag)(ta:TE):TT:=fun σ H Q=>ta σ H fun x H'=>∃k,EJ K x H' k/\Q k H'
theorem Pc(ha:QE X a ta)(he:∀whole,isTrue a X.env whole=(do let v ← whole;standAt a.pos;holding [v] (truthy v))):QT X a (dD X.K ta):=⟨SU ha.h he⟩
end
end L2
namespace L2
open PySem PySem.Spec PyProof.Rows
def erB(K:uFg)(c:dZ)(errs:dX):Bool :=
 decide (PySem.W.nsIn K mainGlobals "MootError" = some (some (.ref (c "MootError")))) && errs.all fun x=>decide (PySem.W.nsIn K mainGlobals x=some (some (.ref (c x)))) && Ag K (c x) && DN K (c x) && decide (J3 K (c x) (c "MootError")=some true) && decide (PySem.W.kitOne K (.ref (c x)) (.type "ValueError")=some true) &&
  errs.all fun y=>decide (J3 K (c x) (c y)=some (decide (x=y))) && decide (PySem.W.kitOne K (.ref (c x)) (.ref (c y))=some (decide (x=y)))
theorem Xv{K:uFg}{h:Heap}{mg:dW}{c:dZ}{errs:dX}(X:K.In h)(G:h.Ns mainGlobals mg)(e:erB K c errs=true):Er K mg c errs:=by
 unfold erB at e;rw[yW,zK] at e;obtain⟨e0,e⟩:=e;have e1:∀x,x∈errs->(((((PySem.W.nsIn K mainGlobals x=some (some (.ref (c x)))/\Ag K (c x)=true)/\DN K (c x)=true)/\J3 K (c x) (c "MootError")=some true)/\PySem.W.kitOne K (.ref (c x)) (.type "ValueError")=some true)/\∀y,y∈errs->J3 K (c x) (c y)=some (decide (x=y))/\PySem.W.kitOne K (.ref (c x)) (.ref (c y))=some (decide (x=y))):=fun x hx=>by grind
 exact⟨fun x hx=>PySem.W.mg_of X G (e1 x hx).1.1.1.1.1,fun x hx=>(e1 x hx).1.1.1.1.2,fun x hx=>(e1 x hx).1.1.1.2,PySem.W.mg_of X G (of_decide_eq_true e0),fun x hx=>(e1 x hx).1.1.2,fun x hx y hy=>((e1 x hx).2 y hy).1,fun x hx y hy=>((e1 x hx).2 y hy).2,fun x hx=>(e1 x hx).1.2⟩
section
variable{X:Cx}{o:Expr}{to:TE}{name:Str}{apos cpos:Pos}{T id:String}{r:V->List V->Hp->VK->Prop}
theorem Ri:QM X "list.clear" Je:=⟨Mh⟩
theorem cY(pa:PlainAttrs T)(slot:Slot T name id)(hty:typeOf (.builtin id)=pure (.type "method_descriptor"))(hm:QM X id r)(ho:QE X o to)(hbase:attributeBase o name X.env (eval o X.env)=eval o X.env:=by rfl)(hline:(apos.endLine == cpos.line)=true:=by rfl):QE X (.Call (.Attribute o name apos) [] [] cpos) (KC X.K T r to):=⟨Mn pa slot hty hm.h ho.h hbase hline⟩
end
theorem FX(hne:l≠it):∀n i s Q,s.heap.IsListIter it l i->s.heap.IsList l items->i+n<=items.size ->
  (∀h',h'.IsListIter it l (i+n)->Heap.SameBut it s.heap h'->Q ((items.toList.drop i).take n) {s with heap:=h' })->wpAny (model prog w) A (draw (.ref it) n) Q E s
 | 0,i,s,Q,hit,_,_,hQ=>by
  show wpAny _ _ (pure []) Q E s;exact wpAny_pure (by simpa using hQ s.heap hit (Heap.SameBut.refl ..))
 | n+1,i,s,Q,hit,ht,hle,hQ=>by
  have hlt:i < items.size:=by lia
  show wpAny _ _ (pyNext (.ref it) >>= _) Q E s;refine wpAny_bind (wpAny_pyNext_list_item hit ht (x:=items[i]) (by simp[hlt]) fun h₁ hit₁ hs₁=>?_);refine wpAny_bind (wpAny_holding (FX hne n (i+1) _ _ hit₁ (ht.extBut hs₁.extBut hne) (by lia) fun h₂ hit₂ hs₂=>wpAny_pure ?_));have hd:items.toList.drop i=items[i]::items.toList.drop (i+1):=by simp[zR,hlt]
  have:=hQ h₂ (by rw[show i+(n+1)=i+1+n by lia];exact hit₂) (hs₁.trans hs₂);rw[hd,List.take_succ_cons] at this;exact this
theorem dF {x1} (hh:A.handled=none) (ht:s.heap.IsList l items) (hn:(assignEach elts env).length=items.size) (hstar:(assignEach elts env).findIdx? (·.1)=none) (h:∀h',Heap.ExtBut s.heap.objs.size s.heap h'->wpAny (model prog w) A (assignInOrder ((assignEach elts env).map (·.2)) items.toList) Q E {s with heap:=h' }) :
  wpAny (model prog w) A (assign (.Tuple elts x1 pos) env (.ref l)) Q E s:=by
 have hlt:l≠s.heap.objs.size:=by obtain⟨o,ho,_⟩:=ht;exact yG (xQ ho)
 rw[assign_Tuple];refine wpAny_bind (wpAny_standAt ?_);unfold unpack;rw[hn,hstar];refine wpAny_bind (wpAny_holding ?_);unfold unpackItems;refine wpAny_bind ?_
 ·unfold notIterableAtAll;refine wpAny_bind (wpAny_specialOf ht.typeIs slot_list_iter.lookup ?_);refine wpAny_pure ?_;simp only[zX,if_false];refine wpAny_bind (wpAny_holding (wpAny_pyIter_list ht ?_));refine wpAny_bind (wpAny_holding (FX hlt items.size 0 _ _ ⟨_,xW _ rfl,rfl,rfl⟩ (ht.push _) (by lia) fun h₁ hit₁ hs₁=>?_));have hall:List.take items.size (List.drop 0 items.toList)=items.toList:=by
   rw[List.drop_zero];exact yU (by simp)
  rw[hall];rw[if_neg (by simp)];have ht₁:h₁.IsList l items:=(ht.push _).extBut hs₁.extBut hlt;refine wpAny_bind (wpAny_holding (wpAny_pyNext_list_end hh hit₁ ht₁ (by simp) fun h₂ he₂=>?_));simp only[Option.isSome_none,zX,if_false];refine wpAny_pure (h h₂ fun b o hb e=>he₂ b o hb (hs₁.extBut b o hb (xG _ e)))
section
variable{X:Cx}{pos:Pos}
inductive Ej(K:uFg)(n:Nat)(t:Jf)(v:V)(σ:St)(H:Hp)(Q:St->Hp->Prop):Prop
 |mk(a xs)(_:v = .ref a)(_:ZE K H a xs)(_:xs.length=n)(_:t xs σ H Q)
theorem bA{es:List Expr}{k:Nat}{t:Jf}{n:Nat}(hc:X.calm=true)(h:AW X es t)(hn:(assignEach es X.env).length=n:=by rfl)(hst:(assignEach es X.env).findIdx? (·.1)=none:=by rfl):QG X (.Tuple es k pos) (Ej X.K n t):=⟨by
 intro pins s σ H v u Q I r hw;obtain⟨a,xs,e1,hq,hl,hw⟩:=hw;subst e1;cases r;obtain⟨its,rv,⟨o,m,ho,hcl,_,hd⟩,hz⟩:=I.list hq;refine dF (I.ok.hd hc) ⟨o,ho,hcl,m,hd⟩ (by simp[hn,← hl,rv.length]) hst fun h' hx=>?_;have I1:ZD X pins σ H {s with heap:=h' }:=I.kept (t':=s.toks) fun b o e=>hx b o (yG (xQ e)) e
 exact h.h pins _ σ H xs _ Q I1 (by simpa using rv) hw⟩
end
inductive BS(xs:List V)(H:Hp)(Q:VK):Prop
 |mk(i j l)(_:xs = [.int i,.int j,.int l])(_:∀m,(m=i\/m=j\/m=l)->m<=i->m<=j->m<=l->Q (.int m) H)
theorem MQ(hc:X.calm=true):QC X (.builtin "min") BS:=⟨by
 intro pins s σ H xs us Q I r h;obtain⟨i,j,l,rfl,q⟩:=h;cases r with
 | cons r1 rr=>cases rr with
  | cons r2 rr=>cases rr with
   | cons r3 rr =>
    cases rr;obtain⟨t1,rfl⟩:=r1;obtain⟨t2,rfl⟩:=r2;obtain⟨t3,rfl⟩:=r3;refine min_three_ints (I.ok.hd hc) fun h' tk k=>?_
    by_cases hj:j < i
    ·rw[if_pos hj]
     by_cases hl:l < j
     ·rw[if_pos hl];exact⟨.int l,H,I.kept k,⟨_,rfl⟩,q l (.inr (.inr rfl)) (by lia) (by lia) (by lia)⟩
     ·rw[if_neg hl];exact⟨.int j,H,I.kept k,⟨_,rfl⟩,q j (.inr (.inl rfl)) (by lia) (by lia) (by lia)⟩
    ·rw[if_neg hj]
     by_cases hl:l < i
     ·rw[if_pos hl];exact⟨.int l,H,I.kept k,⟨_,rfl⟩,q l (.inr (.inr rfl)) (by lia) (by lia) (by lia)⟩
     ·rw[if_neg hl];exact⟨.int i,H,I.kept k,⟨_,rfl⟩,q i (.inl rfl) (by lia) (by lia) (by lia)⟩⟩
end L2
namespace Law
open PySem L2
local macro_rules | `(tactic| walk_at "hp")=>`(tactic| first | exact Zg | assumption | (rw[Ze (by first | assumption | (apply Ne.symm;assumption))];walk_at "hp"))
local macro_rules | `(tactic| walk_at "sq")=>`(tactic| first | assumption | exact ZE.of (by walk_at "hp"))
local macro_rules | `(tactic| walk_at "dc")=>`(tactic| first | decide | assumption | lia)
local macro_rules | `(tactic| walk_at "rd1")=>`(tactic| first | refine Z8 ?_ | refine Z1 ?_ | refine Z0 (fun _=>?_) (fun _=>?_) | refine Vp (fun _=>?_) (fun _=>?_) | refine IL (fun _=>?_) (fun _=>?_) | refine⟨_,rfl,?_⟩ | refine⟨_,_,rfl,rfl,?_⟩ | refine⟨_,_,rfl,rfl,(.inr ⟨by decide,by decide⟩:TR _ _),?_⟩ | refine⟨_,_,rfl,rfl,(⟨by walk_at "dc", by walk_at "dc"⟩:Dz _ _),?_⟩ | refine⟨_,_,rfl,rfl,(⟨by decide,by decide,by decide⟩:DX _ _),?_⟩ | refine⟨_,_,rfl,rfl,(show (0:Int) < _ by walk_at "dc"),?_⟩ | refine⟨_,_,_,_,rfl,rfl,(by walk_at "sq"),(by rfl),?_⟩ | refine⟨_,_,_,_,rfl,rfl,(by walk_at "sq"),SF (by lia) (by lia),?_⟩ | refine⟨_,_,_,_,rfl,rfl,(by walk_at "hp"),(by rfl),?_⟩ | refine⟨_,_,rfl,.inl (by walk_at "sq"),?_⟩ | fail "rd")
local macro_rules | `(tactic| walk_at "rd")=>`(tactic| repeat' walk_at "rd1")
def top(i:Nat):Stmt:=PySem.Challenge.pw_forsworn_k56_folk_of_a_moot.main.body.getD i (.Pass ⟨0,0,0,0⟩)
structure Txt (mg:dW):Prop where
 len:mg "len" = none
 list:mg "list" = none
 range:mg "range" = none
 isinstance:mg "isinstance" = none
 bool:mg "bool" = none
 int:mg "int" = none
 str:mg "str" = none
 tuple:mg "tuple" = none
 zip:mg "zip" = none
 all:mg "all" = none
 max:mg "max" = none
 enumerate:mg "enumerate" = none
 sum:mg "sum" = none
 set:mg "set" = none
 min:mg "min" = none
inductive VU(vs:List V)(H:Hp)(Q:VK)(z3:XK):Prop
 |mk(i)(_:vs = [.int i])(_:Q (.bl true) H)
abbrev Hg:Stmt:=top 61
theorem SO(Zgj:YC K mg "_law_whole" Hg)(T:Txt mg):Fn P w K mg base "_law_whole" ["_law_found"] 1 VU:=by
 refine Zgj.fq ["_law_found"] fun H vs Q E hr h=>?_;obtain⟨i,rfl,k⟩:=h;refine⟨rfl,_,(Zf (Zt (AK (Z3 Jk T.isinstance Ua (Za Q0 (Za (V3 (v:=.ty "int") T.int EZ rfl) Zb))) (A3 (Me (Z3 Jk T.isinstance Ua (Za Q0 (Za (V3 (v:=.ty "bool") T.bool ED rfl) Zb)))))))),?_⟩;obtain⟨t1,ty1,e1⟩:=isi (K:=K) (H:=H) (d:=.int i) rfl "int" (by decide);obtain⟨t2,ty2,e2⟩:=isi (K:=K) (H:=H) (d:=.int i) rfl "bool" (by decide);exact⟨_,rfl,_, "int", t1,_,rfl,ty1,e1,_,rfl,Z8 ⟨_,rfl,_, "bool", t2,_,rfl,ty2,e2,_,rfl,k⟩⟩
def KD:Nat->D->Prop
 | _,.tup _=>False
 | 0,.lst _=>False
 | n+1,.lst ds=>∀d∈ds,KD n d
 | _,_=>True
inductive VZ(n:Nat)(vs:List V)(H:Hp)(Q:VK)(z3:XK):Prop
 |mk(v1 v2) (d)(_:vs = [v1,v2])(_:YA H d v1)(_:YA H d v2)(_:KD n d)(_:∀H',ZA H H'->Q (.bl true) H')
abbrev BP:Stmt:=top 62
theorem SC:ZM ["_law_found","_law_due","_law_one_here","_law_other"] ["_law_found","_law_due"] (Zp BP):=fsc
theorem HF(Zaj:YC K mg "_law_same" BP)(T:Txt mg)(Zdl:Fn P w K mg base "_law_whole" ["_law_found"] 1 VU)(Zcr:Fn P w K mg base "_law_same" ["_law_found","_law_due"] (k+1) (fun vs H Q E=>0 < n/\VZ (n - 1) vs H Q E)):Fn P w K mg base "_law_same" ["_law_found","_law_due"] (k+2) (VZ n):=by
 refine Zaj.fnQ SC (fun _ _ _ _ _ _=>al2 fun _ _=>rfl) (fun vs H Q E h=>?_) (fun f cdv A outer s H vs Q E hr h=>?_)
 ·obtain⟨v1,v2,d,rfl,_⟩:=h;rfl
 ·obtain⟨v1,v2,d,rfl,r1,r2,hf,q⟩:=h;have hk : 1<=k+1:=Nat.le_add_left _ _
  refine⟨_,(Zc (Zo (Zr FM Q1 Y3 (Zu _)) (Zf (Zt (Ut FM Q0 Y3 (Zu _)))) Zn) (Zc (Zo (Wt (Z3 Jk T.isinstance Ua (Za Q1 (Za (V3 (v:=.ty "bool") T.bool ED rfl) Zb)))) (Zf (Zt (AK (Z3 Jk T.isinstance Ua (Za Q0 (Za (V3 (v:=.ty "bool") T.bool ED rfl) Zb))) (A3 (Ut Ym Q0 Q1 (Zu _)))))) Zn) (Zc (Zo (Wt (Z3 Jk T.isinstance Ua (Za Q1 (Za (V3 (v:=.ty "int") T.int EZ rfl) Zb)))) (Zf (Zt (AK (Zj Zdl (Za Q0 Zb)) (A3 (Ut Ym Q0 Q1 (Zu _)))))) Zn) (Zc (Zo (Wt (Z3 Jk T.isinstance Ua (Za Q1 (Za (V3 (v:=.ty "str") T.str HY rfl) Zb)))) (Zf (Zt (AK (Z3 Jk T.isinstance Ua (Za Q0 (Za (V3 (v:=.ty "str") T.str HY rfl) Zb))) (A3 (Ut Ym Q0 Q1 (Zu _)))))) Zn) (Zc (Zo (QW.pt (Dy (Zr E6 (Z3 Jk T.isinstance Ua (Za Q1 (Za (V3 (v:=.ty "list") T.list Vu rfl) Zb))) (Z3 Jk T.isinstance Ua (Za Q0 (Za (V3 (v:=.ty "list") T.list Vu rfl) Zb))) (Zu _)) (EO (Zr E6 (Z3 Jk T.isinstance Ua (Za Q1 (Za (V3 (v:=.ty "tuple") T.tuple DL rfl) Zb))) (Z3 Jk T.isinstance Ua (Za Q0 (Za (V3 (v:=.ty "tuple") T.tuple DL rfl) Zb))) (Zu _))))) (Zf (Zt Uf)) Zn) (Zc (Zo (Zr E6 (Z3 Yv T.len Yk (Za Q0 Zb)) (Z3 Yv T.len Yk (Za Q1 Zb)) (Zu _)) (Zf (Zt Uf)) Zn) (Zc (Ws PassesOwn.never rfl (Nb T.zip (Za Q0 (Za Q1 Zb))) (C7 (by rfl) (Wo (Yt 2) (Wo (Yt 3) Ju)))
 (Zf (Zo (Vk (Wt (Zj Zcr (Za Q2 (Za Q3 Zb))))) (Zf (Zt Uf)) Zn)))
 (Zf (Zt Uf))))))))),?_⟩
  have q0:=q H (ZA.refl _);have dt:∀v:V,decide (v=v)=true:=fun v=>yN rfl;obtain⟨tb2,yb2,eb2⟩:=isi (K:=K) r2 "bool" (by decide);obtain⟨ti2,yi2,ei2⟩:=isi (K:=K) r2 "int" (by decide);obtain⟨ts2,ys2,es2⟩:=isi (K:=K) r2 "str" (by decide);obtain⟨tl2,yl2,el2⟩:=isi (K:=K) r2 "list" (by decide);obtain⟨tt2,yt2,et2⟩:=isi (K:=K) r2 "tuple" (by decide);obtain⟨tb1,yb1,eb1⟩:=isi (K:=K) r1 "bool" (by decide);obtain⟨ts1,ys1,es1⟩:=isi (K:=K) r1 "str" (by decide);obtain⟨tl1,yl1,el1⟩:=isi (K:=K) r1 "list" (by decide);obtain⟨tt1,yt1,et1⟩:=isi (K:=K) r1 "tuple" (by decide);refine⟨_,rfl,rfl,_,rfl,?_⟩;rw[r2.none_iff];cases d with
  | tup _=>cases n<;>exact False.elim hf
  | non =>
   cases r1;exact Z8 ⟨_,rfl,rfl,q0⟩
  | bl b =>
   cases r1;cases r2;refine Z1 ⟨_,rfl,_, "bool", tb2,_,rfl,yb2,eb2,_,rfl,Z8 ⟨_,rfl,_, "bool", tb1,_,rfl,yb1,eb1,_,rfl,Z8 ⟨_,rfl,_,rfl,rfl,?_⟩⟩⟩;rw[dt];exact q0
  | int i =>
   cases r1;cases r2;refine Z1 ⟨_,rfl,_, "bool", tb2,_,rfl,yb2,eb2,_,rfl,Z1 ⟨_,rfl,_, "int", ti2,_,rfl,yi2,ei2,_,rfl,Z8 ⟨_,rfl,i,rfl,_,rfl,Z8 ⟨_,rfl,_,rfl,rfl,?_⟩⟩⟩⟩;rw[dt];exact q0
  | str x =>
   cases r1;cases r2;refine Z1 ⟨_,rfl,_, "bool", tb2,_,rfl,yb2,eb2,_,rfl,Z1 ⟨_,rfl,_, "int", ti2,_,rfl,yi2,ei2,_,rfl,Z1 ⟨_,rfl,_, "str", ts2,_,rfl,ys2,es2,_,rfl,Z8 ⟨_,rfl,_, "str", ts1,_,rfl,ys1,es1,_,rfl,Z8 ⟨_,rfl,_,rfl,rfl,?_⟩⟩⟩⟩⟩;rw[dt];exact q0
  | lst ds =>
   refine Z1 ⟨_,rfl,_, "bool", tb2,_,rfl,yb2,eb2,_,rfl,Z1 ⟨_,rfl,_, "int", ti2,_,rfl,yi2,ei2,_,rfl,Z1 ⟨_,rfl,_, "str", ts2,_,rfl,ys2,es2,_,rfl,Z1 ?_⟩⟩⟩;have ne:∀{b:Bool}{A B:Prop},B->if (!decide (V.bl b=V.bl b))=true then A else B:=fun h=>Vp (fun z=>absurd rfl z) fun _=>h
   refine⟨_,rfl,_, "list", tl2,_,rfl,yl2,el2,_,rfl,_, "list", tl1,_,rfl,yl1,el1,rfl,_,rfl,ne ⟨_,rfl,_, "tuple", tt2,_,rfl,yt2,et2,_,rfl,_, "tuple", tt1,_,rfl,yt1,et1,rfl,_,rfl,ne ?_⟩⟩;obtain⟨a1,vs1,rfl,g1,p1⟩:=r1;obtain⟨a2,vs2,rfl,g2,p2⟩:=r2;have hl:vs1.length=vs2.length:=p1.length.trans p2.length.symm;refine⟨_,rfl,a1,vs1,rfl,.inl (ZE.of g1),_,rfl,a2,vs2,rfl,.inl (ZE.of g2),rfl,_,rfl,Vp (fun z=>absurd (by rw[hl]) z) (fun _=>?_)⟩;refine⟨_,rfl,_,rfl,a1,a2,vs1,vs2,rfl,ZE.of g1,ZE.of g2,?_⟩;refine SV vs1 vs2 hl (fun i σ H'=>ZA H H'/\∃w3 w4,σ = [some (.ref a1),some (.ref a2),w3,w4]) ⟨ZA.refl _,none,none,rfl⟩ (fun i σ H' _ ⟨sm,_⟩=>⟨ZE.of (sm _ _ g1),ZE.of (sm _ _ g2)⟩) ?_ fun σ H' ⟨sm,_⟩=>q H' sm;rintro i x y p σ H' hx hy ⟨sm,w3,w4,rfl⟩ hp;obtain⟨dx,ex,rx⟩:=p1.get hx;obtain⟨dy,ey,ry⟩:=p2.get hy;rw[ex] at ey;cases ey;have sm':=sm.trans (ZA.new (o:=.tup [x,y]) hp);cases n with
   | zero=>exact False.elim hf
   | succ n=>exact⟨p,_,rfl,ZT.of Zg,rfl,x,[y],rfl,y,[],rfl,rfl,_,rfl,_,rfl,Nat.succ_pos _,x,y,dx,rfl,rx.mono' sm',ry.mono' sm',hf dx (xJ ex),fun H2 sm2=>⟨_,rfl,Z1 ⟨sm'.trans sm2,_,_,rfl⟩⟩⟩
theorem MO(Zaj:YC K mg "_law_same" BP):Fn P w K mg base "_law_same" ["_law_found","_law_due"] k (fun _ _ _ _=>False):=by
 obtain⟨f,fd,F,hm⟩:=Zaj;exact⟨f,fd,hm,F.kp,F.binds fun _ _ _ _ _ _ us hl=>match us,hl with | [_,_],_=>rfl,⟨fun _ _ _ _ h=>h.elim,fun _ _ _ _ _ _ _ _ _ _ _ _ _ h=>h.elim⟩⟩
theorem Iw(Zaj:YC K mg "_law_same" BP)(T:Txt mg)(Zdl:Fn P w K mg base "_law_whole" ["_law_found"] 1 VU):∀n:Nat,Fn P w K mg base "_law_same" ["_law_found","_law_due"] (n+2) (VZ n)
 | 0=>HF (k:=0) Zaj T Zdl ((MO Zaj).imp fun _ _ _ _ h=>absurd h.1 (zJ _))
 | n+1=>HF (k:=n+1) Zaj T Zdl ((Iw Zaj T Zdl n).imp fun _ _ _ _ h=>h.2)
section
variable{K:uFg}
inductive JW(K:uFg)(vs:List V)(H:Hp)(Q:VK)(z3:XK):Prop
 |mk(a:eF) (ns:List Int)(_:vs = [.ref a])(_:ZE K H a (ns.map V.int))(_:∀(s la:eF)(H':Hp),H s=none->H la=none->ZJ H' s la->ZA H H'->Q (.ref s) H')
abbrev Ka:Stmt:=top 59
theorem MS(Zgk:YC K mg "_law_src" Ka)(T:Txt mg):Fn P w K mg base "_law_src" ["_law_script"] 1 (JW K):=by
 refine Zgk.fq ["_law_script"] fun H vs Q E hr h=>?_;obtain⟨a,ns,rfl,hS,k⟩:=h;refine⟨rfl,_,(Zf (Zt (Yl (Za (Um Ak T.list Vu (Za (JB BV Q0 JC (JH Zd)) Zb)) (Za Zd (Za Zd (Za Zd (Za Zd Zb)))))))),?_⟩;refine⟨_,rfl,_,rfl,a,_,rfl,hS,fun l hl=>?_⟩;have hc:∃ms:List Int,Uk (ns.map V.int) none (some 63)=ms.map V.int:=by
  unfold Uk;rw[← List.map_drop,← List.map_take];exact⟨_,rfl⟩
 obtain⟨ms,ec⟩:=hc;refine⟨l,_,rfl,.inl (ZE.of Zg),fun l2 hl2=>⟨by show 5<=sizeLine;decide,fun s hs=>?_⟩⟩;have n1:l2≠l:=fun z=>by rw[z,Zg] at hl2;cases hl2
 have s1:ZA H (upd H l (.lst (Uk (ns.map V.int) none (some 63)))):=ZA.new hl;have s2:=s1.trans (ZA.new (o:=.lst (Uk (ns.map V.int) none (some 63))) hl2);have n2:l2≠s:=fun z=>by rw[← z,Zg] at hs;cases hs
 refine k s l2 _ (s2.free hs) (s1.free hl2) ⟨ms,0,0,1,0,Zg,by rw[Ze n2,Zg,ec],by decide,n2⟩ (s2.trans (ZA.new hs))
inductive YE(vs:List V)(H:Hp)(Q:VK)(z3:XK):Prop
 |mk(s la) (b)(_:vs = [.ref s,.int b])(_:ZJ H s la)(_:0 < b)(_:b < 1073741824)(_:∀d H',0<=d->d < b->ZJ H' s la->ZF s H H'->Q (.int d) H')
abbrev Ki:Stmt:=top 60
theorem Rt(Zgl:YC K mg "_law_next" Ki)(T:Txt mg):Fn P w K mg base "_law_next" ["_law_src_here","_law_base"] 1 YE:=by
 refine Zgl.fq ["_law_src_here","_law_base","_law_cell","_law_digit"] fun H vs Q E hr h=>?_;obtain⟨s,la,b,rfl,⟨ns,i,big,st,cnt,hs,hla,hi,hne⟩,hb0,hb1,k⟩:=h;refine⟨rfl,_,(Zc (J0 (Z2 Wc (Zi Yb Q0 Zd (fun _ _=>rfl)) Zd) (Bs Q0 Zd Bm)) (Zc (Zo (Zr Wh (Zi Yb Q0 Zd (fun _ _=>rfl)) Zd (Zu _)) (Zc (Zz 2 Zd) (Zc (Zo (Zr Uu (Zi Yb Q0 Zd (fun _ _=>rfl)) (Z3 Yv T.len Yk (Za (Zi Yb Q0 Zd (fun _ _=>rfl)) Zb)) (Zu _)) (Zc (Zz 2 (Zi Yb (Zi Yb Q0 Zd (fun _ _=>rfl)) (Zi Yb Q0 Zd (fun _ _=>rfl)) (fun _ _=>rfl))) (Zf (J0 (Z2 Wc (Zi Yb Q0 Zd (fun _ _=>rfl)) Zd) (Bs Q0 Zd Bm)))) Zn) (Zc (J0 (Z2 Bi (Z2 Wc (Z2 Wc (Z2 FJ (Zi Yb Q0 Zd (fun _ _=>rfl)) Zd) (Z2 Bi Q2 Zd)) (Zi Yb Q0 Zd (fun _ _=>rfl))) Zd) (Bs Q0 Zd Bm)) (Zf (Zo (Zr Af Q2 (Z2 OI Zd Zd) (Zu _)) (Zf (J0 Q2 (Bs Q0 Zd Bm))) Zn))))) Zn) (Zc (Zo (Zr Am (Zi Yb Q0 Zd (fun _ _=>rfl)) Zd (Zu _)) (Zc (Zz 3 (Z2 Bi (Zi Yb Q0 Zd (fun _ _=>rfl)) Q1)) (Zc (J0 (Z2 Dq (Zi Yb Q0 Zd (fun _ _=>rfl)) Q1) (Bs Q0 Zd Bm)) (Zf (Zt Q3)))) Zn) (Zf (Zt (Z2 Bi (Z2 Dq (Z2 Bi (Z2 FJ (Zi Yb Q0 Zd (fun _ _=>rfl)) Zd) Zd) Zd) Q1)))))),?_⟩;have fin:∀(H1:Hp)(i' big st cnt d:Int),0<=d->d < b->ZF s H H1->H1 s=some (.lst [.ref la,.int i',.int big,.int st,.int cnt])->0<=i'->Q (.int d) H1:=fun H1 i' big st cnt d h0 h1 sx hs1 hi1 =>
  k d H1 h0 h1 ⟨ns,i',big,st,cnt,hs1,sx _ _ hne hla,hi1,hne⟩ sx
 walk_at "rd"
 all_goals refine fin _ _ _ _ _ _ (Int.emod_nonneg _ (by lia)) (Int.emod_lt_of_pos _ hb0) ?_ Zg (by lia)
 all_goals repeat (first | exact ZF.refl | refine ZF.trans ?_ ZF.upd)
end
inductive US(vs:List V)(H:Hp)(Q:VK)(z3:XK):Prop
 |mk(s la) (n)(_:vs = [.ref s,.int n])(_:ZJ H s la)(_:0<=n)(_:n<=100)(_:∀x H',(x.length:Int)=n->Bq x->ZJ H' s la->ZF s H H'->Q (.str x) H')
theorem NC(cl:List Nat):(List.map cs (cl.map fun c=>(⟨#[c]⟩:Str))).flatten=cl:=by
 induction cl with
 | nil=>rfl
 | cons c r ih=>rw[yI,yI,zO,ih];rfl
abbrev BW:Stmt:=top 64
theorem Nv:ZM ["_law_src_here","_law_many","_law_letters"] ["_law_src_here","_law_many"] (Zp BW):=fsc
theorem IU:Nm (Zp BW) "_law_letters" .cell:=by decide +kernel
theorem Qv:Nm (Zp BW) "_law_src_here" .cell:=by decide +kernel
theorem L4(Zgm:YC K mg "_law_word" BW)(T:Txt mg)(Z6:Fn P w K mg base "_law_next" ["_law_src_here","_law_base"] 1 YE):Fn P w K mg base "_law_word" ["_law_src_here","_law_many"] 2 US:=by
 refine Zgm.fq ["_law_src_here","_law_many","_law_letters"] fun H vs Q E hr h=>?_;obtain⟨s,la,n,rfl,hsrc,hn0,hn1,k⟩:=h
 refine⟨rfl,_,(Zc (L3 (i:=2) Nv.nd IU Z7) (Zf (Zt (Y0 F.plainAttrs_str F.slot_str_join F.type_str_join RD Z7 (Za (V1 (locs:=["_law_k"]) (fr:=[("_law_src_here", 0),("_law_letters", 2)]) ⟨rfl,by decide +kernel,by decide +kernel,by decide +kernel,by decide +kernel,by decide +kernel⟩ (.consN Qv (.consN IU .nil)) rfl (Au T.range (Za Q1 Zb)) ⟨fun _ _ _ _ _ _=>by
  have cnd:(inN ["_law_k"] [("_law_src_here", 0),("_law_letters", 2)]).Nodup:=by decide +kernel
  exact⟨(Wp 0 cnd),Uv,(Zi DU (Vr 2) (Zj Z6 (Za (Vr 1) (Za Zd Zb)) (n:=nmC)) (fun _ _=>rfl))⟩⟩) Zb))))),?_⟩
 refine⟨rfl,_,rfl,n,rfl,by lia,by lia,?_⟩;refine Po (n:=n.toNat) (fun i ys H2=>ZJ H2 s la/\ZF s H H2/\∃cl:List Nat,cl.length=i/\ys=cl.map (fun c=>V.str ⟨#[c]⟩)/\∀c∈cl,97<=c/\c<=122) ⟨hsrc,ZF.refl,[],rfl,rfl,(fun _ z=>nomatch z)⟩ (by lia) ?_ ?_ ?_
 ·rintro i ys H2 ⟨_,_,cl,h1,rfl,_⟩;rw[xA];lia
 ·rintro i ys H2 hi ⟨hs2,sx2,cl,h1,rfl,hc⟩ ls hls;obtain⟨a,rfl⟩:=Ul hls;refine⟨⟨[_],rfl,rfl⟩,?_⟩;walk_at "rd";refine⟨s,la,26,rfl,hs2,by decide,by decide,fun d H3 d0 d1 hs3 sx3=>?_⟩;refine⟨letters,d,_,rfl,rfl,by decide,E3 d0 d1,hs3,sx2.trans sx3,cl ++ [97+d.toNat],by rw[xE,h1];rfl,by rw[xO];rfl,fun c hc'=>?_⟩;rcases xL.mp hc' with z | z
  ·exact hc c z
  ·have:c=97+d.toNat:=by simpa using z
   lia
 ·rintro ys H2 ⟨hs2,sx2,cl,h1,rfl,hc⟩ l hl;have e:(cl.map fun c=>V.str ⟨#[c]⟩)=(cl.map fun c=>(⟨#[c]⟩:Str)).map V.str:=by rw[List.map_map];rfl
  have sumlen:∀l:List Nat,((l.map fun c=>(⟨#[c]⟩:Str)).map (·.length)).sum=l.length:=by
   intro l
   induction l with
   | nil=>rfl
   | cons c r ih=>rw[yI,yI,List.sum_cons,ih,yE];show 1+r.length=_;lia
  refine⟨_,l,cl.map fun c=>(⟨#[c]⟩:Str),rfl,rfl,ZE.of (by rw[Zg,e]),?_,?_⟩
  ·rw[sumlen,xA];show cl.length+cl.length * 0<=16777216;lia
  ·have ej:cs (Txt.join "" (cl.map fun c=>(⟨#[c]⟩:Str)))=cl:=by rw[OE,NC]
   refine k _ _ ?_ (fun c hc'=>hc c (by rw[ej] at hc';exact hc')) (hs2.keep (ZA.new hl)) (sx2.trans (ZF.new hl));rw[← Vh,ej,h1];lia
theorem ph{α:Type} [DecidableEq α]:∀(L M:List α),L.Nodup->(∀a∈L,a∈M)->L.length<=M.length
 | [],_,_,_=>yL _
 | a::L,M,nd,h=>by
  obtain⟨n1,n2⟩:=yJ.mp nd;have ha:=h a xY;have:=ph L (M.erase a) n2 fun b hb=>(List.mem_erase_of_ne (fun(e:b=a)=>n1 (by rw[← e];exact hb))).mpr (h b (xN _ hb));rw[List.length_erase_of_mem ha] at this;have hp : 0 < M.length:=List.length_pos_of_mem ha;rw[yE];lia
def Vs(stem:Str)(j:Nat):Str:=stem++⟨#[97+j % 26]⟩++⟨#[97+j / 26]⟩
theorem Dh(stem:Str)(j:Nat):cs (Vs stem j)=cs stem ++ [97+j % 26,97+j / 26]:=by
 unfold Vs;rw[Cq,Cq];simp[cs]
theorem Ry(h:Vs stem i=Vs stem j):i=j:=by
 have e:cs (Vs stem i)=cs (Vs stem j):=by rw[h]
 rw[Dh,Dh] at e;have e2:=List.append_cancel_left e;injection e2 with e3 e4
 injection e4 with e5 _
 lia
theorem FN(stem:Str)(j:Nat):(Vs stem j).length=stem.length+2:=by
 rw[← Vh,Dh,xE,Vh];rfl
theorem Xn(h:Bq stem)(hj:j < 676):Bq (Vs stem j):=by
 intro c hc;rw[Dh] at hc;rcases xL.mp hc with z | z
 ·exact h c z
 ·simp at z;lia
theorem Xk{names:dX}{stem:Str}(h:∀j,j < names.length->Vs stem j∈names):Vs stem names.length∉names:=by
 intro hm;have nd:((List.range (names.length+1)).map (Vs stem)).Nodup:=by
  rw[List.nodup_iff_pairwise_ne,List.pairwise_map];exact List.Pairwise.imp (fun h e=>h (Ry e)) (List.nodup_iff_pairwise_ne.mp List.nodup_range)
 have:=ph _ names nd fun a ha=>by grind
 rw[xA,List.length_range] at this;lia
theorem GV(x:Str)(names:dX):inV (.str x) (names.map V.str)=decide (x∈names):=by
 unfold inV;rw[List.any_map,zH,List.any_eq_true,decide_eq_true_iff];constructor
 ·rintro⟨y,hy,e⟩;have:y=x:=by simpa [eqV] using e
  rw[← this];exact hy
 ·intro h;exact⟨x,h,by simp[eqV]⟩
theorem Hh(names:dX):(names.map V.str).all JK=true:=by
 rw[List.all_map,zK];intro x _;rfl
def Vb(x:Str):Prop:=Bq x/\1<=x.length/\x.length<=12
section
variable{K:uFg}
inductive WG(K:uFg)(vs:List V)(H:Hp)(Q:VK)(z3:XK):Prop
 |mk(a:eF) (names:dX) (x:Str)(_:vs = [.ref a,.str x])(_:ZE K H a (names.map V.str))(_:names.length<=600)(_:Vb x)(_:∀y:Str,Vb y->y∉names->Q (.str y) H)
abbrev Kk:Stmt:=top 63
theorem cR(Zgn:YC K mg "_law_unlike" Kk)(T:Txt mg):Fn P w K mg base "_law_unlike" ["_law_names_here","_law_name"] 1 (WG K):=by
 refine Zgn.fq ["_law_names_here","_law_name","_law_letters","_law_stem","_law_tries"] fun H vs Q E hr h=>?_;obtain⟨a,names,x,rfl,hS,hn,⟨hx1,hx2,hx3⟩,k⟩:=h;refine⟨rfl,_,(Zc (Zz 2 Z7) (Zc (Zz 3 (JB CS Q1 JC (JH Zd))) (Zc (Ws PassesOwn.never rfl (Au T.range (Za (Z2 Wc (Z3 Yv T.len Yk (Za Q0 Zb)) Zd) Zb)) (Yt 4) (Zc (Zo (Zr HD Q1 Q0 rfl) (Zf (Zt Q1)) Zn) (Zf (Zz 1 (Z2 Cj (Z2 Cj Q3 (Zi DU Q2 (Z2 Bi Q4 Zd) (fun _ _=>rfl))) (Zi DU Q2 (Z2 Dq Q4 Zd) (fun _ _=>rfl))))))) (Zf (Zt Q1))))),?_⟩;have hz:(13:Nat)<=sizeLine:=by decide
 refine⟨_,rfl,10,rfl,x,rfl,by lia,?_⟩;have hst:cs (Txt.slice x none (some 10))=(cs x).take 10:=EM x (by decide);have hstl:(Txt.slice x none (some 10)).length<=10:=by rw[← Vh,hst,xU];lia
 have hsto:Bq (Txt.slice x none (some 10)):=fun c hc=>hx1 c (by rw[hst] at hc;exact List.mem_of_mem_take hc);show V9 _ _ _ [some (.ref a),some (.str x),some (.str letters),some (.str (Txt.slice x none (some 10))),none] H;generalize Txt.slice x none (some 10)=stem at hstl hsto;refine⟨_,rfl,a,_,rfl,.inl hS,_,_,rfl,rfl,_,rfl,by lia,by rw[xA];lia,?_⟩;refine Bb (names.length+1) (by rw[xA];lia) (fun i σ H'=>H'=H/\∃(cur:Str)(v:Option V),σ = [some (.ref a),some (.str cur),some (.str letters),some (.str stem),v]/\Vb cur/\(i=0\/cur=Vs stem (i - 1))/\∀j,j+1 < i->Vs stem j∈names)
  ⟨rfl,x,none,rfl,⟨hx1,hx2,hx3⟩,.inl rfl,fun j hj=>by lia⟩ ?_ ?_
 ·rintro i σ H' hi ⟨rfl,cur,v,rfl,hc,hci,hal⟩;refine⟨_,rfl,_,rfl,a,_,rfl,.inl hS,rfl,Hh names,_,rfl,?_⟩;rw[GV];refine Vp (fun hnin=>?_) (fun hin=>?_)
  ·exact⟨_,rfl,k cur hc hnin⟩
  ·have hi':i<=600:=by lia
   refine⟨_,rfl,_,rfl,_,rfl,_,_,rfl,rfl,by show (0:Int) < 26;decide,letters,_,_,rfl,rfl,by decide,E3 (Int.emod_nonneg _ (by decide)) (Int.emod_lt_of_pos _ (by decide)),stem,_,rfl,rfl,?_,?_⟩
   ·show stem.length+1<=sizeLine;lia
   refine⟨_,rfl,_,rfl,_,_,rfl,rfl,⟨by decide,by decide⟩,letters,_,_,rfl,rfl,by decide,E3 (Int.ediv_nonneg (by lia) (by decide)) (by lia),_,_,rfl,rfl,?_,?_⟩
   ·show (stem++_).length+1<=sizeLine;rw[PySem.Str.length_append];show stem.length+1+1<=sizeLine;lia
   have e1:((0:Int)+(i:Nat)) % 26=((i % 26:Nat):Int):=by lia
   have e2:((0:Int)+(i:Nat)) / 26=((i / 26:Nat):Int):=by lia
   refine⟨rfl,Vs stem i,some (.int (0+(i:Nat))),?_,⟨Xn hsto (by lia),by rw[FN];lia,by rw[FN];lia⟩,.inr rfl,fun j hj=>?_⟩
   ·show [some (V.ref a),some (V.str _),some (V.str letters),some (V.str stem),some (V.int _)]=_;unfold Vs;rw[e1,e2];rfl
   ·grind
 ·rintro σ H' ⟨rfl,cur,v,rfl,hc,hci,hal⟩;refine⟨_,rfl,k cur hc ?_⟩;rcases hci with z | z
  ·lia
  ·rw[z];exact Xk fun j hj=>hal j (by lia)
inductive Tj(vs:List V)(H:Hp)(Q:VK)(z3:XK):Prop
 |mk(s la:eF) (n:Int)(_:vs = [.ref s,.int n])(_:ZJ H s la)(_:0<=n)(_:n<=100)(_:∀(l:eF)(names:dX)(H':Hp),(names.length:Int)=n->names.Nodup->(∀x∈names,Vb x)->H l=none->H' l=some (.lst (names.map V.str))->ZJ H' s la->ZF s H H'->Q (.ref l) H')
abbrev KH:Stmt:=top 65
theorem Nu(Zgo:YC K mg "_law_names" KH)(T:Txt mg)(Z6:Fn P w K mg base "_law_next" ["_law_src_here","_law_base"] 1 YE)(Zgp:Fn P w K mg base "_law_word" ["_law_src_here","_law_many"] 2 US)(Z0e:Fn P w K mg base "_law_unlike" ["_law_names_here","_law_name"] 1 (WG K)):Fn P w K mg base "_law_names" ["_law_src_here","_law_many"] 3 Tj:=by
 refine Zgo.fq ["_law_src_here","_law_many","_law_style","_law_stem","_law_at","_law_names_here","_law_k","_law_name"] fun H vs Q E hr h=>?_;obtain⟨s,la,n,rfl,hsrc,hn0,hn1,k⟩:=h;refine⟨rfl,_,(Zc (Zz 2 (Zj Z6 (Za Q0 (Za Zd Zb)))) (Zc (Zz 3 (Zj Zgp (Za Q0 (Za (Z2 Wc Zd (Zj Z6 (Za Q0 (Za Zd Zb)))) Zb)))) (Zc (Zz 4 (Zj Z6 (Za Q0 (Za (Z3 Ek T.len Yk (Za Q3 Zb)) Zb)))) (Zc (Zz 5 (Yl Zb)) (Zc (Ws PassesOwn.never rfl (Au T.range (Za Q1 Zb)) (Yt 6) (Zc (Zz 7 (Z2 Cj (Z2 Cj (JB CS Q3 JC (JH Q4)) (Zj Zgp (Za Q0 (Za Zd Zb)))) (JB CS Q3 (JH (Z2 Wc Q4 Zd)) JC))) (Zc (Zo (Zr Ym Q2 Zd (Zu _)) (Zf (Zz 7 (JB CS Q3 JC (JH (Z2 Wc Zd (Zj Z6 (Za Q0 (Za (Z3 Ek T.len Yk (Za Q3 Zb)) Zb)))))))) Zn) (Zc (Zo (Zr Ym Q2 Zd (Zu _)) (Zf (Zz 7 (Zj Zgp (Za Q0 (Za (Z2 Wc Zd (Zj Z6 (Za Q0 (Za Zd Zb)))) Zb))))) Zn) (Zf (Zk (Y0 F.plainAttrs_list F.slot_list_append F.type_list_append Y9 Q5 (Za (Zj Z0e (Za Q5 (Za Q7 Zb))) Zb)))))))) (Zf (Zt Q5))))))),?_⟩;have hz:(200:Nat)<=sizeLine:=by decide
 refine⟨_,rfl,s,la,3,rfl,hsrc,by decide,by decide,fun style H1 st0 st1 hs1 sx1=>?_⟩;refine⟨_,rfl,_,rfl,s,la,11,rfl,hs1,by decide,by decide,fun d1 H2 d10 d11 hs2 sx2=>?_⟩;refine⟨_,_,rfl,rfl,s,la,_,rfl,hs2,by lia,by lia,fun stem H3 hl3 hlow3 hs3 sx3=>?_⟩;refine⟨_,rfl,_,rfl,stem,rfl,by lia,s,la,_,rfl,hs3,by lia,by lia,fun at_ H4 at0 at1 hs4 sx4=>?_⟩;refine⟨by show 0<=sizeLine;lia,fun l hl4=>?_⟩;have sx:ZF s H H4:=((sx1.trans sx2).trans sx3).trans sx4;obtain⟨nls,nlla⟩:=hs4.ne hl4;have hlH:H l=none:=by
  cases e:H l with
  | none=>rfl
  | some o=>exact absurd (sx l o nls e) (by rw[hl4];simp)
 refine⟨_,rfl,n,rfl,by lia,by lia,?_⟩;show Az _ _ _ _ [some (.ref s),some (.int n),some (.int style),some (.str stem),some (.int at_),some (.ref l),none,none] (upd H4 l (.lst []));have mkn:∀x:Str,Bq x->1<=x.length->x.length<=12->Vb x:=fun x a b c=>⟨a,b,c⟩;refine Bb n.toNat rfl (fun i σ H'=>∃(names:dX)(v1 v2:Option V),σ = [some (.ref s),some (.int n),some (.int style),some (.str stem),some (.int at_),some (.ref l),v1,v2]/\names.length=i/\names.Nodup/\(∀x∈names,Vb x)/\H' l=some (.lst (names.map V.str))/\ZJ H' s la/\ZF s H H')
  ⟨[],none,none,rfl,rfl,List.nodup_nil,(fun _ z=>nomatch z),Zg,hs4.keep (ZA.new hl4),sx.trans (ZF.new hl4)⟩ ?_ ?_
 ·rintro i σ H5 hi ⟨names,v1,v2,rfl,hlen,hnd,hall,hl5,hs5,sx5⟩;have e1:cs (Txt.slice stem none (some at_))=(cs stem).take at_.toNat:=EM stem at0;have e2:cs (Txt.slice stem (some (at_+1)) none)=(cs stem).drop (at_+1).toNat:=NX stem (by lia);have l1:(Txt.slice stem none (some at_)).length<=11:=by rw[← Vh,e1,xU,Vh];lia
  have l2:(Txt.slice stem (some (at_+1)) none).length+(at_+1).toNat=stem.length:=by rw[← Vh,e2,zU,Vh];lia
  have l1':(Txt.slice stem none (some at_)).length=at_.toNat:=by rw[← Vh,e1,xU,Vh];lia
  refine⟨_,rfl,_,rfl,at_,rfl,stem,rfl,by lia,_,rfl,s,la,1,rfl,hs5,by decide,by decide,fun x1 H6 hx1 hlow1 hs6 sx6=>?_⟩;have hl6:H6 l=some (.lst (names.map V.str)):=sx6 l _ nls hl5;refine⟨_,_,rfl,rfl,by lia,?_⟩;refine⟨_,rfl,_,rfl,_,_,rfl,rfl,_,rfl,stem,rfl,by lia,?_⟩;have l3:(Txt.slice stem none (some at_)++x1).length=at_.toNat+1:=by rw[PySem.Str.length_append,l1'];lia
  refine⟨_,_,rfl,rfl,by rw[l3];lia,?_⟩;have hname:Vb (Txt.slice stem none (some at_)++x1++Txt.slice stem (some (at_+1)) none):=by
   refine mkn _ (fun c hc=>?_) ?_ ?_
   ·rw[Cq,Cq,e1,e2] at hc;rcases xL.mp hc with hc | hc
    ·rcases xL.mp hc with hc | hc
     ·exact hlow3 c (List.mem_of_mem_take hc)
     ·exact hlow1 c hc
    ·exact hlow3 c (List.mem_of_mem_drop hc)
   ·rw[PySem.Str.length_append,l3];lia
   ·rw[PySem.Str.length_append,l3];lia
  generalize Txt.slice stem none (some at_)++x1++Txt.slice stem (some (at_+1)) none=nm0 at hname;show V9 _ _ _ [some (.ref s),some (.int n),some (.int style),some (.str stem),some (.int at_),some (.ref l),some (.int (0+(i:Nat))),some (.str nm0)] H6;have app:∀(D:YI),(∀ σ H',(∃(names:dX)(v1 v2:Option V),σ = [some (.ref s),some (.int n),some (.int style),some (.str stem),some (.int at_),some (.ref l),v1,v2]/\names.length=i+1/\names.Nodup/\(∀x∈names,Vb x)/\H' l=some (.lst (names.map V.str))/\ZJ H' s la/\ZF s H H')->D.nx σ H')->
    ∀(x:Str)(H6:Hp),Vb x->H6 l=some (.lst (names.map V.str))->ZJ H6 s la->ZF s H H6 ->
    De (Dn K "list" WX (YH 5) (V2 (JF (WG K) (V2 (YH 5) (V2 (YH 7) Vl))) Vl)) D
     [some (.ref s),some (.int n),some (.int style),some (.str stem),some (.int at_),some (.ref l),some (.int (0+(i:Nat))),some (.str x)] H6:=by
   intro D hD x H6 hx hl6 hs6 sx6;refine⟨_,rfl,.inl ⟨rfl,_,ZE.of hl6⟩,_,rfl,_,rfl,l,names,x,rfl,ZE.of hl6,by lia,hx,fun y hy hny=>?_⟩;refine⟨l,_,_,rfl,rfl,hl6,by rw[xA];lia,hD _ _ ⟨names ++ [y],_,_,rfl,by rw[xE,hlen];rfl,GC hnd hny,fun z hz=>?_,?_,?_,?_⟩⟩
   ·grind
   ·rw[Zg,xO];rfl
   ·exact hs6.keepX ZF.upd nls nlla
   ·intro b o hb e;have:b≠l:=fun z=>by rw[z,hlH] at e;cases e
    rw[Ze this];exact sx6 b o hb e
  have step2:∀(D:YI),(∀ σ H',(∃(names:dX)(v1 v2:Option V),σ = [some (.ref s),some (.int n),some (.int style),some (.str stem),some (.int at_),some (.ref l),v1,v2]/\names.length=i+1/\names.Nodup/\(∀x∈names,Vb x)/\H' l=some (.lst (names.map V.str))/\ZJ H' s la/\ZF s H H')->D.nx σ H')->
    ∀(x:Str)(H6:Hp),Vb x->H6 l=some (.lst (names.map V.str))->ZJ H6 s la->ZF s H H6 ->
    V9 (BI (A5 (Tx BE (YH 2) (tC (.int 2)))) (U0 (JF US (V2 (YH 0) (V2 (Tx (UQ fun i j=>.int (i+j)) (tC (.int 1)) (JF YE (V2 (YH 0) (V2 (tC (.int 12)) Vl)))) Vl))) (Wg 7)) Yu)
     (De (Dn K "list" WX (YH 5) (V2 (JF (WG K) (V2 (YH 5) (V2 (YH 7) Vl))) Vl))) D
     [some (.ref s),some (.int n),some (.int style),some (.str stem),some (.int at_),some (.ref l),some (.int (0+(i:Nat))),some (.str x)] H6:=by
   intro D hD x H6 hx hl6 hs6 sx6;refine⟨_,rfl,rfl,_,rfl,Z0 (fun _=>?_) (fun _=>?_)⟩
   ·refine⟨_,rfl,_,rfl,s,la,12,rfl,hs6,by decide,by decide,fun d H7 d0 d1 hs7 sx7=>?_⟩;refine⟨_,_,rfl,rfl,s,la,_,rfl,hs7,by lia,by lia,fun y H8 hy1 hy2 hs8 sx8=>?_⟩;exact app D hD y H8 ⟨hy2,by lia,by lia⟩ (sx8 l _ nls (sx7 l _ nls hl6)) hs8 ((sx6.trans sx7).trans sx8)
   ·exact app D hD x H6 hx hl6 hs6 sx6
  refine⟨_,rfl,rfl,_,rfl,Z0 (fun _=>?_) (fun _=>?_)⟩
  ·refine⟨_,rfl,_,rfl,_,rfl,stem,rfl,by lia,s,la,_,rfl,hs6,by lia,by lia,fun d H7 d0 d1 hs7 sx7=>?_⟩;refine⟨_,_,rfl,rfl,_,rfl,stem,rfl,by lia,?_⟩;have e3:cs (Txt.slice stem none (some (1+d)))=(cs stem).take (1+d).toNat:=EM stem (by lia);refine step2 _ (fun σ H' h=>h) _ H7 ⟨fun c hc=>hlow3 c (by rw[e3] at hc;exact List.mem_of_mem_take hc),?_,?_⟩ (sx7 l _ nls hl6) hs7 ((sx5.trans sx6).trans sx7)
   ·rw[← Vh,e3,xU,Vh];lia
   ·rw[← Vh,e3,xU,Vh];lia
  ·exact step2 _ (fun σ H' h=>h) nm0 H6 hname hl6 hs6 (sx5.trans sx6)
 ·rintro σ H5 ⟨names,v1,v2,rfl,hlen,hnd,hall,hl5,hs5,sx5⟩;exact⟨_,rfl,k l names H5 (by lia) hnd hall hlH hl5 hs5 sx5⟩
end
def okc(c:Nat):Bool:=decide (97<=c) && decide (c<=122)
def Vx(x:Str):Bool:=(decide (1<=x.length) && decide (x.length<=12)) && (cs x).all okc
theorem Gv(h:Vb x):Vx x=true:=by
 obtain⟨h1,h2,h3⟩:=h;unfold Vx;rw[yN h2,yN h3,Bool.true_and,Bool.true_and,zK];intro c hc;obtain⟨a,b⟩:=h1 c hc;unfold okc;rw[yN a,yN b];rfl
inductive VB(vs:List V)(H:Hp)(Q:VK)(z3:XK):Prop
 |mk(x)(_:vs = [.str x])(_:x.length<=1000)(_:∀H',ZA H H'->Q (.bl (Vx x)) H')
theorem HN(hi:i < x.length):(cs x)[i]? = some (x.cps.getD i 0):=by
 unfold cs;have:i < x.cps.size:=hi;rw[Array.getD_eq_getD_getElem?,Array.getElem?_eq_getElem this,wA,Array.getElem?_eq_getElem this];rfl
theorem leA(c:Nat):(!decide ((⟨#[c]⟩:Str).cps.toList < ("a" : Str).cps.toList))=decide (97<=c):=by
 have e:("a" : Str).cps.toList = [97]:=by decide +kernel
 rw[e];show (!decide (([c]:List Nat) < [97]))=_;rw[zH,Bool.not_eq_true',decide_eq_false_iff_not,decide_eq_true_iff,Gz];lia
theorem leZ(c:Nat):(!decide (("z" : Str).cps.toList < (⟨#[c]⟩:Str).cps.toList))=decide (c<=122):=by
 have e:("z" : Str).cps.toList = [122]:=by decide +kernel
 rw[e];show (!decide (([122]:List Nat) < [c]))=_;rw[zH,Bool.not_eq_true',decide_eq_false_iff_not,decide_eq_true_iff,Gz];lia
theorem HG{α β:Type}{l:List α}{i:Nat}{a : α}(f : α->β)(h:l[i]? = some a):(l.take (i+1)).map f=(l.take i).map f ++ [f a]:=by
 rw[xV,h,xO];rfl
abbrev Iz:Stmt:=top 32
theorem SA(Zgq:YC K mg "is_name" Iz)(T:Txt mg)(hL:∃t,mg "LONGEST_NAME" = some (.int 12 t)):Fn P w K mg base "is_name" ["text"] 1 VB:=by
 obtain⟨tL,c_LONGEST_NAME⟩:=hL;have r_LONGEST_NAME:ZG (.int 12) (.int 12 tL):=⟨tL,rfl⟩;refine Zgq.fq ["text"] fun H vs Q E hr h=>?_;obtain⟨x,rfl,hx,k⟩:=h
 refine⟨rfl,_,(Zf (Zt (AK (Fj Wh Wh Zd (Z3 Ek T.len Yk (Za Q0 Zb)) (Y4 c_LONGEST_NAME r_LONGEST_NAME)) (A3 (Z3 (Ny (by rfl)) T.all Xi (Za (V1 (locs:=["sign"]) (fr:=[]) ⟨rfl,by decide +kernel,by decide +kernel,by decide +kernel,by decide +kernel,by decide +kernel⟩ .nil rfl (So Q0) ⟨fun _ _ _ _ _ _=>by
  have cnd:(inN ["sign"] []).Nodup:=by decide +kernel
  exact⟨(Wp 0 cnd),Uv,(Fj HM HM Z7 (Y5 0) Z7)⟩⟩) Zb)))))),?_⟩
 have hz:(1000:Nat)<=sizeLine:=by decide
 refine⟨_,rfl,x,rfl,by lia,_,_,rfl,rfl,_,rfl,Z0 (fun h1=>?_) (fun h1=>?_)⟩
 ·refine⟨_,_,rfl,rfl,_,rfl,Z0 (fun h2=>?_) (fun h2=>?_)⟩
  ·refine⟨_,rfl,x,rfl,?_⟩;refine Qd (fun i ys H'=>H'=H/\ys=((cs x).take i).map fun c=>V.bl (okc c)) ⟨rfl,rfl⟩ (by lia) ?_ ?_ ?_
   ·rintro i ys H' ⟨_,rfl⟩;rw[xA,xU];lia
   ·rintro i ys H' hi ⟨rfl,rfl⟩ ls hls;obtain⟨a,rfl⟩:=Ul hls;refine⟨⟨[_],rfl,rfl⟩,Z8 ?_⟩;refine⟨_,rfl,_,_,rfl,rfl,_,rfl,?_⟩;rw[leA];refine Z0 (fun h3=>?_) (fun h3=>?_)
    ·refine⟨_,_,rfl,rfl,rfl,?_⟩;dsimp only;rw[leZ,HG _ (HN hi)];unfold okc;rw[yN h3,Bool.true_and]
    ·refine⟨rfl,?_⟩;rw[HG _ (HN hi)];unfold okc;rw[zD h3,zS]
   ·rintro ys H' ⟨rfl,rfl⟩ l hl;refine⟨l,(cs x).map okc,rfl,ZE.of (by rw[Zg,← Vh,yC,List.map_map];rfl),?_⟩;have e:((cs x).map okc).all id=Vx x:=by
     unfold Vx;rw[List.all_map,yN (show 1<=x.length by lia),yN (show x.length<=12 by lia)];rfl
    rw[e];exact k _ (ZA.new hl)
  ·refine(?_:Q (.bl false) H);have e:Vx x=false:=by
    unfold Vx;rw[zD (show ¬x.length<=12 by lia),Bool.and_false,zS]
   rw[← e];exact k H (ZA.refl _)
 ·refine⟨_,rfl,Z1 ?_⟩;have e:Vx x=false:=by
   unfold Vx;rw[zD (show ¬ 1<=x.length by lia),zS,zS]
  rw[← e];exact k H (ZA.refl _)
section
variable{w:eI}{K:uFg}
inductive ZI where
 | come (n:Str) (d w:Int) | rise (n:Str) (d w:Int) | die (n:Str) (d:Int) (h:Str)
def Zl:List ZI->Str->Option Int
 | [],_=>none
 | .come m d _::r,n=>if m=n then some d else Zl r n
 | .rise _ _ _::r,n=>Zl r n
 | .die _ _ _::r,n=>Zl r n
def Zx:List ZI->Str->Option (Int×Str)
 | [],_=>none
 | .die m d h::r,n=>if m=n then some (d,h) else Zx r n
 | .come _ _ _::r,n=>Zx r n
 | .rise _ _ _::r,n=>Zx r n
theorem Bt(a b:List ZI)(n:Str):Zl (a++b) n=(Zl a n).or (Zl b n):=by
 induction a with
 | nil=>rfl
 | cons x r ih =>
  cases x with
  | come m d w =>
   rw[yF,Zl,Zl]
   by_cases e:m=n
   ·rw[if_pos e,if_pos e];rfl
   ·rw[if_neg e,if_neg e,ih]
  | rise m d w=>rw[yF,Zl,Zl,ih]
  | die m d h=>rw[yF,Zl,Zl,ih]
theorem B7(a b:List ZI)(n:Str):Zx (a++b) n=(Zx a n).or (Zx b n):=by
 induction a with
 | nil=>rfl
 | cons x r ih =>
  cases x with
  | come m d w=>rw[yF,Zx,Zx,ih]
  | rise m d w=>rw[yF,Zx,Zx,ih]
  | die m d h =>
   rw[yF,Zx,Zx]
   by_cases e:m=n
   ·rw[if_pos e,if_pos e];rfl
   ·rw[if_neg e,if_neg e,ih]
theorem CF{ds:List ZI}{n:Str}{d w:Int}(h:Zl ds n=none)(x:Str):Zl (ds ++ [.come n d w]) x=if x=n then some d else Zl ds x:=by
 rw[Bt,Zl,Zl]
 by_cases e:x=n
 ·subst e;rw[if_pos rfl,if_pos rfl,h];rfl
 ·rw[if_neg (Ne.symm e),if_neg e];cases Zl ds x<;>rfl
theorem Dp(x:Str):Zl (ds ++ [.die n d h]) x=Zl ds x:=by
 rw[Bt,Zl,Zl];cases Zl ds x<;>rfl
theorem CZ{ds:List ZI}{n:Str}{d w:Int}(x:Str):Zx (ds ++ [.come n d w]) x=Zx ds x:=by
 rw[B7,Zx,Zx];cases Zx ds x<;>rfl
theorem Cn(hn:Zx ds n=none)(x:Str):Zx (ds ++ [.die n d h]) x=if x=n then some (d,h) else Zx ds x:=by
 rw[B7,Zx,Zx]
 by_cases e:x=n
 ·subst e;rw[if_pos rfl,if_pos rfl,hn];rfl
 ·rw[if_neg (Ne.symm e),if_neg e];cases Zx ds x<;>rfl
def Vc(ds:List ZI)(n:Str)(day:Int):Bool:=match Zx ds n with
 | some x=>decide (x.1<=day)
 | none=>false
def V4(dc dw dd dh:eF):List (Str×V):=Zq "heirs" (.ref dh) (Zq "deaths" (.ref dd) (Zq "weights" (.ref dw) (Zq "comings" (.ref dc) [])))
theorem Jt(dc dw dd dh:eF):(V4 dc dw dd dh).lookup ("comings" : Str)=some (.ref dc):=by
 unfold V4;rw[Y1,if_neg (by decide +kernel),Y1,if_neg (by decide +kernel),Y1,if_neg (by decide +kernel),Y1,if_pos rfl]
theorem DD(dc dw dd dh:eF):(V4 dc dw dd dh).lookup ("weights" : Str)=some (.ref dw):=by
 unfold V4;rw[Y1,if_neg (by decide +kernel),Y1,if_neg (by decide +kernel),Y1,if_pos rfl]
theorem A0(dc dw dd dh:eF):(V4 dc dw dd dh).lookup ("deaths" : Str)=some (.ref dd):=by
 unfold V4;rw[Y1,if_neg (by decide +kernel),Y1,if_pos rfl]
theorem FW(dc dw dd dh:eF):(V4 dc dw dd dh).lookup ("heirs" : Str)=some (.ref dh):=by
 unfold V4;rw[Y1,if_pos rfl]
def Cy(m:Str):Prop:=¬m = "heirs" /\ ¬m = "deaths" /\ ¬m = "weights" /\ ¬m = "comings"
instance (m:Str):Decidable (Cy m):=by unfold Cy;exact inferInstance
theorem Ye(dc dw dd dh:eF)(h:Cy m:=by decide +kernel):(V4 dc dw dd dh).lookup m=none:=by
 obtain⟨a,b,c,d⟩:=h;unfold V4;rw[Y1,if_neg a,Y1,if_neg b,Y1,if_neg c,Y1,if_neg d];rfl
structure FL where
 p:eF
 dc:eF
 dw:eF
 dd:eF
 dh:eF
structure ZR (C:eF) (H:Hp) (L:FL) (ds:List ZI):Prop where
 ob:∃dx,H L.p=some (.ins C dx (V4 L.dc L.dw L.dd L.dh))
 c:∃kvs:List (ZS×V),H L.dc=some (.dK kvs)/\kvs.length<=ds.length/\∀n:Str,Zy kvs (.inr n)=(Zl ds n).map V.int
 w:∃kvs:List (ZS×V),H L.dw=some (.dK kvs)/\kvs.length<=ds.length
 d:∃kvs:List (ZS×V),H L.dd=some (.dK kvs)/\kvs.length<=ds.length/\∀n:Str,Zy kvs (.inr n)=(Zx ds n).map fun x=>V.int x.1
 h:∃kvs:List (ZS×V),H L.dh=some (.dK kvs)/\kvs.length<=ds.length/\∀n:Str,Zy kvs (.inr n)=(Zx ds n).map fun x=>V.str x.2
 a1:L.dc≠L.dw
 a2:L.dc≠L.dd
 a3:L.dc≠L.dh
 a4:L.dw≠L.dd
 a5:L.dw≠L.dh
 a6:L.dd≠L.dh
def Fd(H H':Hp):Prop:=∀b o,(∀xs,o ≠ .lst xs)->H b=some o->H' b=some o
theorem ZA.n(h:ZA H H'):Fd H H':=fun b o _ e=>h b o e
theorem ZR.keep(h:ZR C H L ds)(k:Fd H H'):ZR C H' L ds:=by
 obtain⟨⟨dx,ob⟩,⟨k1,c1,c2⟩,⟨k2,w1,w2⟩,⟨k3,d1,d2⟩,⟨k4,h1,h2⟩,a1,a2,a3,a4,a5,a6⟩:=h;exact⟨⟨dx,k _ _ (fun _ z=>nomatch z) ob⟩,⟨k1,k _ _ (fun _ z=>nomatch z) c1,c2⟩,⟨k2,k _ _ (fun _ z=>nomatch z) w1,w2⟩,⟨k3,k _ _ (fun _ z=>nomatch z) d1,d2⟩,⟨k4,k _ _ (fun _ z=>nomatch z) h1,h2⟩,a1,a2,a3,a4,a5,a6⟩
def YT(H H':Hp):Prop:=(∀b xs,H b=some (.lst xs)->H' b=some (.lst xs))/\∀b xs,H b=some (.tup xs)->H' b=some (.tup xs)
theorem YT.updD(h:H l=some (.dK kvs)):YT H (upd H l (.dK kvs')) :=
 ⟨fun b xs e=>by rw[Ze (fun z=>by rw[z,h] at e;cases e)];exact e,fun b xs e=>by rw[Ze (fun z=>by rw[z,h] at e;cases e)];exact e⟩
structure YV (K:uFg) (C:eF):Prop where
 cl:UO K C
 nc:ZV K C "comings"
 nw:ZV K C "weights"
 nd:ZV K C "deaths"
 nh:ZV K C "heirs"
variable{C:eF}
inductive VF(vs:List V)(H:Hp)(Q:VK)(z3:XK):Prop
 |mk(d)(_:vs = [.int d])(_:0<=d)(_:d<=9999)(_:Q .non H)
abbrev EN:Stmt:=top 26
theorem PC(Zcs:YC K mg "check_day" EN)(C0:∃t,mg "LAST_DAY" = some (.int 9999 t)):Fn P w K mg base "check_day" ["day"] 1 VF:=by
 obtain⟨t0,c_LAST_DAY⟩:=C0;have r_LAST_DAY:ZG (.int 9999) (.int 9999 t0):=⟨t0,rfl⟩;refine Zcs.fq ["day"] fun H vs Q E hr h=>?_;obtain⟨d,rfl,h0,h1,k⟩:=h;refine⟨rfl,_,(Zf (Zo (Vk (Al Wh Wh Zd Q0 (Y4 c_LAST_DAY r_LAST_DAY))) (Zf Jr) Zn)),?_⟩;refine⟨_,rfl,_,_,rfl,rfl,_,rfl,Z0 (fun _=>?_) (fun z=>absurd h0 z)⟩;refine⟨_,_,rfl,rfl,_,rfl,Vp (fun z=>absurd h1 z) (fun _=>k)⟩
inductive AG(vs:List V)(H:Hp)(Q:VK)(z3:XK):Prop
 |mk(d)(_:vs = [.int d])(_:1<=d)(_:d<=1000)(_:Q .non H)
abbrev EA:Stmt:=top 27
theorem bT(Zct:YC K mg "check_weight" EA)(C0:∃t,mg "MOST_WEIGHT" = some (.int 1000 t)):Fn P w K mg base "check_weight" ["weight"] 1 AG:=by
 obtain⟨t0,c_MOST_WEIGHT⟩:=C0;have r_MOST_WEIGHT:ZG (.int 1000) (.int 1000 t0):=⟨t0,rfl⟩;refine Zct.fq ["weight"] fun H vs Q E hr h=>?_;obtain⟨d,rfl,h0,h1,k⟩:=h;refine⟨rfl,_,(Zf (Zo (Vk (Al Wh Wh Zd Q0 (Y4 c_MOST_WEIGHT r_MOST_WEIGHT))) (Zf Jr) Zn)),?_⟩;refine⟨_,rfl,_,_,rfl,rfl,_,rfl,Z0 (fun _=>?_) (fun z=>absurd h0 z)⟩;refine⟨_,_,rfl,rfl,_,rfl,Vp (fun z=>absurd h1 z) (fun _=>k)⟩
inductive YW(C:eF)(vs:List V)(H:Hp)(Q:VK)(z3:XK):Prop
 |mk(L) (ds) (n) (d)(_:vs = [.ref L.p,.str n])(_:ZR C H L ds)(_:Zl ds n=some d)(_:Q .non H)
abbrev DK:Stmt:=Yg (top 36) 17
theorem Ox(Zc0:ZQ K C "check_known" "Folk.check_known" DK)(Tc:YV K C):Mt P w K mg base C "check_known" ["self","name"] 1 (YW C):=by
 refine Zc0.mq ["self","name"] fun H vs Q E hr h=>?_;obtain⟨L,ds,n,d,rfl,F,hn,k⟩:=h;refine⟨rfl,_,(Zf (Zo (Zr (E7 hr) Q1 (Zw Q0) rfl) (Zf Jr) Zn)),?_⟩;obtain⟨dx,ob⟩:=F.ob;obtain⟨kvs,c1,c2,c3⟩:=F.c;refine⟨_,rfl,_,rfl,L.p,C,dx,_,_,rfl,ob,Tc.cl,Tc.nc,Jt _ _ _ _,L.dc,_,rfl,ZZ.k (k:=Sum.inr n) c1,_,rfl,?_⟩;rw[c3,hn];exact Z1 k
inductive WV(C:eF)(vs:List V)(H:Hp)(Q:VK)(z3:XK):Prop
 |mk(L) (ds) (n) (d day)(_:vs = [.ref L.p,.str n,.int day])(_:ZR C H L ds)(_:Zl ds n=some d)(_:d<=day)(_:Q .non H)
abbrev DR:Stmt:=Yg (top 36) 18
theorem MF(Zc1:ZQ K C "check_there" "Folk.check_there" DR)(Tc:YV K C):Mt P w K mg base C "check_there" ["self","name","day"] 1 (WV C):=by
 refine Zc1.mq ["self","name","day"] fun H vs Q E hr h=>?_;obtain⟨L,ds,n,d,day,rfl,F,hn,hd,k⟩:=h;refine⟨rfl,_,(Zf (Zo (Zr Uu Q2 (Ar hr (Zw Q0) Q1 (fun _ _=>rfl)) (Zu _)) (Zf Jr) Zn)),?_⟩;obtain⟨dx,ob⟩:=F.ob;obtain⟨kvs,c1,c2,c3⟩:=F.c;have g:=ZZ.k (k:=Sum.inr n) c1;rw[c3,hn] at g;refine⟨_,rfl,_,rfl,L.p,C,dx,_,_,rfl,ob,Tc.cl,Tc.nc,Jt _ _ _ _,_,rfl,L.dc,.int d,rfl,g,?_⟩;exact⟨_,_,rfl,rfl,_,rfl,Z0 (fun z=>absurd z (by lia)) (fun _=>k)⟩
inductive YS(C:eF)(vs:List V)(H:Hp)(Q:VK)(z3:XK):Prop
 |mk(L) (ds) (n) (day)(_:vs = [.ref L.p,.str n,.int day])(_:ZR C H L ds)(_:Q (.bl (Vc ds n day)) H)
abbrev Ft:Stmt:=Yg (top 36) 11
theorem Rc(Zgw:ZQ K C "died_by" "Folk.died_by" Ft)(Tc:YV K C):Mt P w K mg base C "died_by" ["self","name","day"] 1 (YS C):=by
 refine Zgw.mq ["self","name","day"] fun H vs Q E hr h=>?_;obtain⟨L,ds,n,day,rfl,F,k⟩:=h;refine⟨rfl,_,(Zf (Zt (AK (Ut (JV hr) Q1 (Zw Q0) rfl) (A3 (Ut Wh (Ar hr (Zw Q0) Q1 (fun _ _=>rfl)) Q2 (Zu _)))))),?_⟩;obtain⟨dx,ob⟩:=F.ob;obtain⟨kvs,c1,c2,c3⟩:=F.d;have g:=ZZ.k (k:=Sum.inr n) c1;rw[c3] at g;unfold Vc at k;refine⟨_,rfl,_,rfl,L.p,C,dx,_,_,rfl,ob,Tc.cl,Tc.nd,A0 _ _ _ _,L.dd,_,rfl,g,_,rfl,?_⟩;cases e:Zx ds n with
 | none =>
  rw[e] at k;exact Z1 k
 | some x =>
  rw[e] at k g;refine Z8 ?_;exact⟨_,rfl,L.p,C,dx,_,_,rfl,ob,Tc.cl,Tc.nd,A0 _ _ _ _,_,rfl,L.dd,.int x.1,rfl,g,_,rfl,_,_,rfl,rfl,k⟩
end
section
variable{C:eF}
inductive Jj(C:eF)(vs:List V)(H:Hp)(Q:VK)(z3:XK):Prop
 |mk(p dx)(_:vs = [.ref p])(_:H p=some (.ins C dx []))(_:∀L H',L.p=p->ZR C H' L []->(∀b o,H b=some o->b≠p->H' b=some o)->(∀b,b=L.dc\/b=L.dw\/b=L.dd\/b=L.dh->H b=none)->Q .non H')
abbrev Hr:Stmt:=Yg (top 36) 0
theorem dP(Zgx:ZQ K C "__init__" "Folk.__init__" Hr)(Tc:YV K C):Mt P w K mg base C "__init__" ["self"] 1 (Jj C):=by
 refine Zgx.mq ["self"] fun H vs Q E hr h=>?_;obtain⟨p,dx,rfl,hp,k⟩:=h;refine⟨rfl,_,(Zc (Vw Q0 Bg) (Zc (Vw Q0 Bg) (Zc (Vw Q0 Bg) (Zf (Vw Q0 Bg))))),?_⟩;intro dc hdc;have p1:p≠dc:=Zm hp hdc;refine⟨_,rfl,p,C,dx,[],rfl,(by rw[Ze p1];exact hp),Tc.cl,Tc.nc,(by show 0 < 1000;decide),?_⟩;have g1:(upd (upd H dc (.dK [])) p (.ins C dx (Zq "comings" (.ref dc) []))) p=some (.ins C dx (Zq "comings" (.ref dc) [])):=Zg;have c1:(upd (upd H dc (.dK [])) p (.ins C dx (Zq "comings" (.ref dc) []))) dc=some (.dK []):=by rw[Ze p1.symm,Zg]
 have s1:∀b o,H b=some o->b≠p->(upd (upd H dc (.dK [])) p (.ins C dx (Zq "comings" (.ref dc) []))) b=some o:=fun b o e n=>by rw[Ze n,Ze (Zm e hdc)];exact e
 generalize (upd (upd H dc (.dK [])) p (.ins C dx (Zq "comings" (.ref dc) [])))=H1 at g1 c1 s1 ⊢;intro dw hdw;have p2:p≠dw:=Zm g1 hdw;have q1:dc≠dw:=Zm c1 hdw;refine⟨_,rfl,p,C,dx,_,rfl,(by rw[Ze p2];exact g1),Tc.cl,Tc.nw,(by show 1 < 1000;decide),?_⟩;have g2:(upd (upd H1 dw (.dK [])) p (.ins C dx (Zq "weights" (.ref dw) (Zq "comings" (.ref dc) [])))) p=some (.ins C dx (Zq "weights" (.ref dw) (Zq "comings" (.ref dc) []))):=Zg;have c2:(upd (upd H1 dw (.dK [])) p (.ins C dx (Zq "weights" (.ref dw) (Zq "comings" (.ref dc) [])))) dc=some (.dK []):=by rw[Ze p1.symm,Ze q1];exact c1
 have w2:(upd (upd H1 dw (.dK [])) p (.ins C dx (Zq "weights" (.ref dw) (Zq "comings" (.ref dc) [])))) dw=some (.dK []):=by rw[Ze p2.symm,Zg]
 have s2:∀b o,H b=some o->b≠p->(upd (upd H1 dw (.dK [])) p (.ins C dx (Zq "weights" (.ref dw) (Zq "comings" (.ref dc) [])))) b=some o:=fun b o e n=>by rw[Ze n,Ze (Zm (s1 b o e n) hdw)];exact s1 b o e n
 generalize (upd (upd H1 dw (.dK [])) p (.ins C dx (Zq "weights" (.ref dw) (Zq "comings" (.ref dc) []))))=H2 at g2 c2 w2 s2 ⊢;intro dd hdd;have p3:p≠dd:=Zm g2 hdd;have q2:dc≠dd:=Zm c2 hdd;have q3:dw≠dd:=Zm w2 hdd;have z1:(Zq "comings" (V.ref dc) []).length<=0+1:=AE "comings" (V.ref dc) [];have z2:=AE "weights" (V.ref dw) (Zq "comings" (V.ref dc) []);have z3:=AE "deaths" (V.ref dd) (Zq "weights" (V.ref dw) (Zq "comings" (V.ref dc) []));refine⟨_,rfl,p,C,dx,_,rfl,(by rw[Ze p3];exact g2),Tc.cl,Tc.nd,(by lia),?_⟩;have g3:(upd (upd H2 dd (.dK [])) p (.ins C dx (Zq "deaths" (.ref dd) (Zq "weights" (.ref dw) (Zq "comings" (.ref dc) []))))) p=some (.ins C dx (Zq "deaths" (.ref dd) (Zq "weights" (.ref dw) (Zq "comings" (.ref dc) [])))):=Zg;have c3:(upd (upd H2 dd (.dK [])) p (.ins C dx (Zq "deaths" (.ref dd) (Zq "weights" (.ref dw) (Zq "comings" (.ref dc) []))))) dc=some (.dK []):=by rw[Ze p1.symm,Ze q2];exact c2
 have w3:(upd (upd H2 dd (.dK [])) p (.ins C dx (Zq "deaths" (.ref dd) (Zq "weights" (.ref dw) (Zq "comings" (.ref dc) []))))) dw=some (.dK []):=by rw[Ze p2.symm,Ze q3];exact w2
 have d3:(upd (upd H2 dd (.dK [])) p (.ins C dx (Zq "deaths" (.ref dd) (Zq "weights" (.ref dw) (Zq "comings" (.ref dc) []))))) dd=some (.dK []):=by rw[Ze p3.symm,Zg]
 have s3:∀b o,H b=some o->b≠p->(upd (upd H2 dd (.dK [])) p (.ins C dx (Zq "deaths" (.ref dd) (Zq "weights" (.ref dw) (Zq "comings" (.ref dc) []))))) b=some o:=fun b o e n=>by rw[Ze n,Ze (Zm (s2 b o e n) hdd)];exact s2 b o e n
 generalize (upd (upd H2 dd (.dK [])) p (.ins C dx (Zq "deaths" (.ref dd) (Zq "weights" (.ref dw) (Zq "comings" (.ref dc) [])))))=H3 at g3 c3 w3 d3 s3 ⊢;intro dh hdh;have p4:p≠dh:=Zm g3 hdh;have q4:dc≠dh:=Zm c3 hdh;have q5:dw≠dh:=Zm w3 hdh;have q6:dd≠dh:=Zm d3 hdh;refine⟨_,rfl,p,C,dx,_,rfl,(by rw[Ze p4];exact g3),Tc.cl,Tc.nh,(by lia),?_⟩;refine k ⟨p,dc,dw,dd,dh⟩ _ rfl ⟨⟨dx,Zg⟩,⟨[],?_,xD _,fun n=>rfl⟩,⟨[],?_,xD _⟩,⟨[],?_,xD _,fun n=>rfl⟩,⟨[],?_,xD _,fun n=>rfl⟩,q1,q2,q4,q3,q5,q6⟩ (fun b o e n=>?_) fun b hb=>?_
 ·show (upd (upd H3 dh _) p _) dc=_;rw[Ze p1.symm,Ze q4];exact c3
 ·show (upd (upd H3 dh _) p _) dw=_;rw[Ze p2.symm,Ze q5];exact w3
 ·show (upd (upd H3 dh _) p _) dd=_;rw[Ze p3.symm,Ze q6];exact d3
 ·show (upd (upd H3 dh _) p _) dh=_;rw[Ze p4.symm,Zg]
 ·rw[Ze n,Ze (Zm (s3 b o e n) hdh)];exact s3 b o e n
 ·cases eb:H b with
  | none=>rfl
  | some o =>
   rcases hb with z | z | z | z<;>subst z
   ·rw[hdc] at eb;cases eb
   ·have:=s1 _ _ eb p2.symm;rw[hdw] at this;cases this
   ·have:=s2 _ _ eb p3.symm;rw[hdd] at this;cases this
   ·have:=s3 _ _ eb p4.symm;rw[hdh] at this;cases this
inductive VQ(C:eF)(vs:List V)(H:Hp)(Q:VK)(z3:XK):Prop
 |mk(L) (ds) (n) (day wt)(_:vs = [.ref L.p,.str n,.int day,.int wt])(_:ZR C H L ds)(_:(∃kvs,H L.dc=some (.dK kvs)/\kvs.length < 40))(_:Vb n)(_:0<=day)(_:day<=9999)(_:1<=wt)(_:wt<=1000)(_:Zl ds n=none)(_:∀H',ZA H H'->Q .non H')
abbrev E4:Stmt:=Yg (top 36) 14
theorem dR(Zc2:ZQ K C "check_coming" "Folk.check_coming" E4)(T:Txt mg)(Tc:YV K C)(C0:∃t,mg "MOST_FOLK" = some (.int 40 t))(Zgz:Fn P w K mg base "is_name" ["text"] 1 VB)(Yy:Fn P w K mg base "check_day" ["day"] 1 VF)(Zb3:Fn P w K mg base "check_weight" ["weight"] 1 AG) :
  Mt P w K mg base C "check_coming" ["self","name","day","weight"] 2 (VQ C):=by
 obtain⟨t0,c_MOST_FOLK⟩:=C0;have r_MOST_FOLK:ZG (.int 40) (.int 40 t0):=⟨t0,rfl⟩;refine Zc2.mq ["self","name","day","weight"] fun H vs Q E hr h=>?_;obtain⟨L,ds,n,day,wt,rfl,F0,hl,hnm,d0,d1,w0,w1,hc,k⟩:=h;refine⟨rfl,_,(Zc (Zo (Vk (Wt (Zj Zgz (Za Q1 Zb)))) (Zf Jr) Zn) (Zc (Zk (Zj Yy (Za Q2 Zb))) (Zc (Zk (Zj Zb3 (Za Q3 Zb))) (Zc (Zo (Zr (JV hr) Q1 (Zw Q0) rfl) (Zf Jr) Zn) (Zf (Zo (Zr Af (Z3 KW T.len Yk (Za (Zw Q0) Zb)) (Y4 c_MOST_FOLK r_MOST_FOLK) (Zu _)) (Zf Jr) Zn)))))),?_⟩;refine⟨_,rfl,n,rfl,by have:=hnm.2.2;lia,fun H1 s1=>⟨_,rfl,?_⟩⟩;rw[Gv hnm];refine Z1 ?_;have F:=F0.keep (ZA.n s1);obtain⟨dx,ob⟩:=F.ob;obtain⟨kvs,c1,c2,c3⟩:=F.c;obtain⟨kv2,c4,c5⟩:=hl;obtain rfl:kvs=kv2:=by have:=s1 _ _ c4;rw[c1] at this;cases this;rfl
 have g:=ZZ.k (k:=Sum.inr n) c1;rw[c3,hc] at g;refine⟨_,rfl,day,rfl,d0,d1,?_⟩;refine⟨_,rfl,wt,rfl,w0,w1,?_⟩;refine⟨_,rfl,_,rfl,L.p,C,dx,_,_,rfl,ob,Tc.cl,Tc.nc,Jt _ _ _ _,L.dc,_,rfl,g,_,rfl,Z1 ?_⟩;refine⟨_,rfl,L.p,C,dx,_,_,rfl,ob,Tc.cl,Tc.nc,Jt _ _ _ _,L.dc,kvs,rfl,c1,_,_,rfl,rfl,_,rfl,Z0 (fun z=>absurd z (by lia)) (fun _=>?_)⟩;exact k H1 s1
end
section
variable{w:eI}{C:eF}
def Y6(f:Str->Option (List (ZS×V))):ZI->Str->Option (List (ZS×V))
 | .come n d w,m=>if m=n then some [(.inl d,.int w)] else f m
 | .rise n d w,m=>if m=n then (f m).map fun l=>Z5 l (.inl d) (.int w) else f m
 | .die _ _ _,m=>f m
def kw(ds:List ZI):Str->Option (List (ZS×V)):=ds.foldl Y6 fun _=>none
theorem V5(ds:List ZI)(x:ZI):kw (ds ++ [x])=Y6 (kw ds) x:=by
 unfold kw;rw[zZ];rfl
def Wi:List ZI->List Str
 | []=>[]
 | .come n _ _::r=>n::Wi r
 | .rise _ _ _::r=>Wi r
 | .die _ _ _::r=>Wi r
theorem AS(a b:List ZI):Wi (a++b)=Wi a++Wi b:=by
 induction a with
 | nil=>rfl
 | cons x r ih=>cases x<;>simp[Wi,ih]
theorem Cv{ds:List ZI}{n:Str}{d w:Int}(x:Str):Zl (ds ++ [.rise n d w]) x=Zl ds x:=by
 rw[Bt,Zl,Zl];cases Zl ds x<;>rfl
theorem CY{ds:List ZI}{n:Str}{d w:Int}(x:Str):Zx (ds ++ [.rise n d w]) x=Zx ds x:=by
 rw[B7,Zx,Zx];cases Zx ds x<;>rfl
theorem IT{l:List (ZS×V)}{k:ZS}{v:V}{p:ZS×V}(h:p∈Z5 l k v):p=(k,v)\/p∈l:=by
 unfold Z5 at h;split at h
 ·grind
 ·grind
def Ew(l:List (ZS×V)):Prop:=∀p∈l,∃d w,p=(.inl d,.int w)
theorem Fx:∀(ds:List ZI)(f:Str->Option (List (ZS×V))),(∀n l,f n=some l->Ew l)->∀n l,ds.foldl Y6 f n=some l->Ew l
 | [],f,h,n,l,e=>h n l e
 | x::r,f,h,n,l,e=>by
  refine Fx r (Y6 f x) (fun m l' e'=>?_) n l e;cases x with
  | come n' d w' =>
   rw[Y6] at e';split at e'
   ·cases e';intro p hp;exact⟨d,w',xT.mp hp⟩
   ·exact h m l' e'
  | rise n' d w' =>
   rw[Y6] at e';split at e'
   ·cases e2:f m with
    | none=>rw[e2] at e';cases e'
    | some l0 =>
     rw[e2] at e';cases e';intro p hp;rcases IT hp with rfl | hp
     ·exact⟨d,w',rfl⟩
     ·exact h m l0 e2 p hp
   ·exact h m l' e'
  | die n' d h'=>exact h m l' e'
theorem LD(h:kw ds n=some l):Ew l:=Fx ds _ (fun _ _ z=>by cases z) n l h
def JY(kv:Option (List (ZS×V)))(day wt:Int):Prop:=∃l m,kv=some l/\Zy l (.inl m)=some (.int wt)/\m<=day/\∀d v,Zy l (.inl d)=some v->d<=day->d<=m
def Js(kv:Option (List (ZS×V)))(day last found:Int):Prop:=(kv=none/\last = -1/\found=0)\/∃l,kv=some l/\((last = -1/\found=0/\∀d v,Zy l (.inl d)=some v->¬d<=day)\/
 (0<=last/\last<=day/\Zy l (.inl last)=some (.int found)/\∀d v,Zy l (.inl d)=some v->d<=day->d<=last))
theorem CB:Zy [((.inl d:ZS),v)] (.inl j)=if j=d then some v else none:=by
 by_cases e:j=d
 ·subst e;rw[if_pos rfl];exact Ud rfl
 ·rw[if_neg e];simp[Zy,zM,Ne.symm e]
theorem A7{l:List (ZS×V)}{d j:Int}{v:V}:Zy (Z5 l (.inl d) v) (.inl j)=if j=d then some v else Zy l (.inl j):=by
 rw[Ue]
 by_cases e:j=d
 ·rw[if_pos e,if_pos (by rw[e])]
 ·rw[if_neg e,if_neg (fun z=>e (Sum.inl.inj z))]
theorem SJ{f:Str->Option (List (ZS×V))}{n:Str}{d w day last found:Int}(h:Js (f n) day last found)(hf:f n=none)(hd : 0<=d) :
  (last<=d->d<=day->Js (Y6 f (.come n d w) n) day d w)/\(¬(last<=d/\d<=day)->Js (Y6 f (.come n d w) n) day last found):=by
 rw[Y6,if_pos rfl];rcases h with⟨_,h1,h2⟩ | ⟨l,e,_⟩
 ·refine⟨fun _ a=>.inr ⟨_,rfl,.inr ⟨hd,a,by rw[CB,if_pos rfl],fun d' v e _=>?_⟩⟩,fun a=>.inr ⟨_,rfl,.inl ⟨h1,h2,fun d' v e a2=>?_⟩⟩⟩
  ·rw[CB] at e
   by_cases z:d'=d
   ·lia
   ·rw[if_neg z] at e;cases e
  ·rw[CB] at e
   by_cases z:d'=d
   ·exact a ⟨by lia,by lia⟩
   ·rw[if_neg z] at e;cases e
 ·rw[hf] at e;cases e
theorem bK{f:Str->Option (List (ZS×V))}{n:Str}{l0:List (ZS×V)}{d w day last found:Int}(h:Js (f n) day last found)(hf:f n=some l0)(hd : 0<=d) :
  (last<=d->d<=day->Js (Y6 f (.rise n d w) n) day d w)/\(¬(last<=d/\d<=day)->Js (Y6 f (.rise n d w) n) day last found):=by
 rw[Y6,if_pos rfl,hf];rw[hf] at h;rcases h with⟨e,_⟩ | ⟨l,e,h⟩
 ·cases e
 cases e;refine⟨fun a b=>.inr ⟨_,rfl,.inr ⟨hd,b,by rw[A7,if_pos rfl],fun d' v e c=>?_⟩⟩,fun a=>.inr ⟨_,rfl,?_⟩⟩
 ·rw[A7] at e
  by_cases z:d'=d
  ·lia
  ·grind
 ·rcases h with⟨h1,h2,h3⟩ | ⟨h1,h2,h3,h4⟩
  ·refine .inl ⟨h1,h2,fun d' v e c=>?_⟩;rw[A7] at e
   by_cases z:d'=d
   ·exact a ⟨by lia,by lia⟩
   ·rw[if_neg z] at e;exact h3 d' v e c
  ·refine .inr ⟨h1,h2,?_,fun d' v e c=>?_⟩
   ·rw[A7,if_neg (fun z=>a ⟨by lia,by lia⟩)];exact h3
   ·rw[A7] at e
    by_cases z:d'=d
    ·rcases Int.lt_or_le d last with y | y
     ·lia
     ·exact absurd ⟨y,by lia⟩ a
    ·rw[if_neg z] at e;exact h4 d' v e c
theorem OC(h:Js kv day last found)(e:kv=some l)(hv:Zy l (.inl d0)=some v)(hd:d0<=day):JY kv day found:=by
 rcases h with⟨z,_⟩ | ⟨l',e',h⟩
 ·rw[e] at z;cases z
 ·rw[e] at e';cases e';rcases h with⟨_,_,h⟩ | ⟨_,h2,h3,h4⟩
  ·exact absurd hd (h d0 v hv)
  ·exact⟨l,last,e,h3,h2,h4⟩
theorem GU:∀(ds:List ZI)(f:Str->Option (List (ZS×V)))(g:Str->Option Int),(∀m,(f m).isSome=(g m).isSome)->∀m,(ds.foldl Y6 f m).isSome=((g m).or (Zl ds m)).isSome
 | [],f,g,h,m=>by rw[Zl];show (f m).isSome=_;rw[h m];cases g m<;>rfl
 | x::r,f,g,h,m=>by
  have e:Zl (x::r) m=(Zl [x] m).or (Zl r m):=Bt [x] r m;have ih:=GU r (Y6 f x) (fun m=>(g m).or (Zl [x] m)) (fun m=>?_) m
  ·rw[List.foldl_cons,ih,e];cases g m<;>rfl
  ·cases x with
   | come n d w =>
    rw[Y6,Zl,Zl]
    by_cases z:m=n
    ·rw[if_pos z,if_pos z.symm];cases g m<;>rfl
    ·rw[if_neg z,if_neg (Ne.symm z),h m];cases g m<;>rfl
   | rise n d w =>
    rw[Y6,Zl,Zl];have hm:=h m
    by_cases z:m=n
    ·grind
    ·grind
   | die n d w=>rw[Y6,Zl,Zl,h m];cases g m<;>rfl
theorem EW(ds:List ZI)(n:Str):(kw ds n).isSome=(Zl ds n).isSome:=by
 have:=GU ds (fun _=>none) (fun _=>none) (fun _=>rfl) n;exact this
structure WC (H:Hp) (L:FL) (ds:List ZI) (wa:dZ):Prop where
 w:∃kvs:List (ZS×V),H L.dw=some (.dK kvs)/\kvs.length<=ds.length/\∀n l,kw ds n=some l->Zy kvs (.inr n)=some (.ref (wa n))/\H (wa n)=some (.dK l)/\l.length<=ds.length
 ord:∃kvs:List (ZS×V),H L.dc=some (.dK kvs)/\(kvs.map fun p=>kV p.1)=(Wi ds).map V.str
 ap:∀n l,kw ds n=some l->wa n≠L.dc/\wa n≠L.dw/\wa n≠L.dd/\wa n≠L.dh
 inj:∀n m l l',kw ds n=some l->kw ds m=some l'->wa n=wa m->n=m
theorem WC.keep(h:WC H L ds wa)(k:Fd H H'):WC H' L ds wa:=by
 obtain⟨⟨k1,w1,w2,w3⟩,⟨k2,o1,o2⟩,ap,inj⟩:=h;exact⟨⟨k1,k _ _ (fun _ z=>nomatch z) w1,w2,fun n l e=>let ⟨a,b,c⟩:=w3 n l e;⟨a,k _ _ (fun _ z=>nomatch z) b,c⟩⟩,⟨k2,k _ _ (fun _ z=>nomatch z) o1,o2⟩,ap,inj⟩
theorem WC.start(h:ZR C H L []):WC H L [] wa:=by
 obtain⟨k,w1,w2⟩:=h.w;obtain⟨k2,c1,c2,_⟩:=h.c;exact⟨⟨k,w1,w2,(fun n l e=>by cases e)⟩,⟨k2,c1,by rw[List.eq_nil_of_length_eq_zero (Nat.le_zero.mp c2)];rfl⟩,(fun n l e=>by cases e),(fun n m l l' e=>by cases e)⟩
def Pa(H:Hp)(L:FL)(ds:List ZI)(wa:dZ):Prop:=∃kvs:List (ZS×V),H L.dw=some (.dK kvs)/\∀p∈kvs,∃n l,kw ds n=some l/\p=(Sum.inr n,V.ref (wa n))
def own(L:FL)(ds:List ZI)(wa:dZ)(b:eF):Prop:=b=L.p\/b=L.dc\/b=L.dw\/b=L.dd\/b=L.dh\/∃n l,kw ds n=some l/\b=wa n
structure Fk (C:eF) (H:Hp) (L:FL) (ds:List ZI) (wa:dZ):Prop where
 f:ZR C H L ds
 w:WC H L ds wa
 all:Pa H L ds wa
def VE(L:FL)(ds:List ZI)(wa:dZ)(H H':Hp):Prop:=∀b o,H b=some o->¬own L ds wa b->H' b=some o
def BY(L:FL)(ds:List ZI)(wa:dZ)(ds':List ZI)(wa':dZ)(H:Hp):Prop:=∀b,own L ds' wa' b->own L ds wa b\/H b=none
theorem Fk.at(h:Fk C H L ds wa)(k:∀b o,own L ds wa b->H b=some o->H' b=some o):Fk C H' L ds wa:=by
 obtain⟨⟨⟨dx,ob⟩,⟨k1,c1,c2⟩,⟨k2,w1,w2⟩,⟨k3,d1,d2⟩,⟨k4,h1,h2⟩,a1,a2,a3,a4,a5,a6⟩,⟨⟨k5,x1,x2,x3⟩,⟨k6,o1,o2⟩,ap,inj⟩,⟨k7,y1,y2⟩⟩:=h;have kp:=k L.p _ (.inl rfl) ob;have kc:=fun o=>k L.dc o (.inr (.inl rfl));have kw':=fun o=>k L.dw o (.inr (.inr (.inl rfl)));exact⟨⟨⟨dx,kp⟩,⟨k1,kc _ c1,c2⟩,⟨k2,kw' _ w1,w2⟩,⟨k3,k L.dd _ (.inr (.inr (.inr (.inl rfl)))) d1,d2⟩,⟨k4,k L.dh _ (.inr (.inr (.inr (.inr (.inl rfl))))) h1,h2⟩,a1,a2,a3,a4,a5,a6⟩, ⟨⟨k5,kw' _ x1,x2,fun n l e=>let ⟨a,b,c⟩:=x3 n l e;⟨a,k _ _ (.inr (.inr (.inr (.inr (.inr ⟨n,l,e,rfl⟩))))) b,c⟩⟩,⟨k6,kc _ o1,o2⟩,ap,inj⟩,⟨k7,kw' _ y1,y2⟩⟩
theorem Fk.there(h:Fk C H L ds wa)(hb:own L ds wa b):∃o,H b=some o/\(∀xs,o ≠ .lst xs)/\∀xs,o ≠ .tup xs:=by
 obtain⟨⟨⟨dx,ob⟩,⟨k1,c1,c2⟩,⟨k2,w1,w2⟩,⟨k3,d1,d2⟩,⟨k4,h1,h2⟩,_⟩,⟨⟨k5,x1,x2,x3⟩,_⟩,_⟩:=h;rcases hb with rfl | rfl | rfl | rfl | rfl | ⟨n,l,e,rfl⟩
 ·exact⟨_,ob,(fun _ z=>nomatch z),(fun _ z=>nomatch z)⟩
 ·exact⟨_,c1,(fun _ z=>nomatch z),(fun _ z=>nomatch z)⟩
 ·exact⟨_,w1,(fun _ z=>nomatch z),(fun _ z=>nomatch z)⟩
 ·exact⟨_,d1,(fun _ z=>nomatch z),(fun _ z=>nomatch z)⟩
 ·exact⟨_,h1,(fun _ z=>nomatch z),(fun _ z=>nomatch z)⟩
 ·exact⟨_,(x3 n l e).2.1,(fun _ z=>nomatch z),(fun _ z=>nomatch z)⟩
theorem VE.lt(h:Fk C H L ds wa)(k:VE L ds wa H H'):YT H H' :=
 ⟨fun b xs e=>k b _ e fun hb=>by obtain⟨o',e',n1,_⟩:=h.there hb;rw[e] at e';cases e';exact n1 xs rfl,fun b xs e=>k b _ e fun hb=>by obtain⟨o',e',_,n2⟩:=h.there hb;rw[e] at e';cases e';exact n2 xs rfl⟩
theorem Fk.cnt(h:Fk C H L ds wa):∃kvs,H L.dc=some (.dK kvs)/\kvs.length=(Wi ds).length:=by
 obtain⟨kvs,a,b⟩:=h.w.ord;exact⟨kvs,a,by have:=congrArg List.length b;rwa [xA,xA] at this⟩
inductive Ti(C:eF)(vs:List V)(H:Hp)(Q:VK)(z3:XK):Prop
 |mk(L) (ds) (wa) (n) (day wt)(_:vs = [.ref L.p,.str n,.int day,.int wt])(_:Fk C H L ds wa)(_:(Wi ds).length < 40)(_:ds.length<=1000)(_:Vb n)(_:0<=day)(_:day<=9999)(_:1<=wt)(_:wt<=1000)(_:Zl ds n=none)(_:∀wa' H',Fk C H' L (ds ++ [.come n day wt]) wa'->VE L ds wa H H'->BY L ds wa (ds ++ [.come n day wt]) wa' H->Q .non H')
abbrev Kr:Stmt:=Yg (top 36) 1
theorem Ms(Zg1:ZQ K C "come" "Folk.come" Kr)(Tc:YV K C)(M_check_coming:Mt P w K mg base C "check_coming" ["self","name","day","weight"] 2 (VQ C)) :
  Mt P w K mg base C "come" ["self","name","day","weight"] 3 (Ti C):=by
 refine Zg1.mq ["self","name","day","weight"] fun H vs Q E hr h=>?_;obtain⟨L,ds,wa,n,day,wt,rfl,K0,hcm,hl,hnm,d0,d1,w0,w1,hc,k⟩:=h;refine⟨rfl,_,(Zc (Zk (Yn Q0 Tc.cl M_check_coming (Za Q1 (Za Q2 (Za Q3 Zb))))) (Zc (JI hr (Zw Q0) Q1 Q2) (Zf (JI hr (Zw Q0) Q1 (Xx Q2 Q3))))),?_⟩;have F0:=K0.f;have W0:=K0.w;have hz:(5000:Nat)<=sizeLine:=by decide
 obtain⟨dx0,ob0⟩:=F0.ob;refine⟨_,rfl,L.p,dx0,_,rfl,ob0,Ye _ _ _ _ (by decide +kernel),_,rfl,_,rfl,_,rfl,L,ds,n,day,wt,rfl,F0,(let ⟨kvs,a,b⟩:=K0.cnt;⟨kvs,a,by lia⟩),hnm,d0,d1,w0,w1,hc,fun H1 s1=>?_⟩;have F:=F0.keep (ZA.n s1);have W:=W0.keep (ZA.n s1);obtain⟨k9,y8,y9⟩:=K0.all;have y7:=s1 _ _ y8;have hkn:kw ds n=none:=by
  have:=EW ds n;rw[hc] at this;cases e:kw ds n with
  | none=>rfl
  | some l=>rw[e] at this;cases this
 obtain⟨⟨dx,ob⟩,⟨k1,c1,c2,c3⟩,_,⟨k3,e1,e2,e3⟩,⟨k4,h1,h2,h3⟩,a1,a2,a3,a4,a5,a6⟩:=F;obtain⟨⟨k2,w2,w3,w4⟩,⟨k1',o1,o2⟩,wap,winj⟩:=W;rw[c1] at o1;cases o1;have np:L.p≠L.dc:=fun z=>by rw[z,c1] at ob;cases ob
 have np2:L.p≠L.dw:=fun z=>by rw[z,w2] at ob;cases ob
 refine⟨_,rfl,_,rfl,L.p,C,dx,_,_,rfl,ob,Tc.cl,Tc.nc,Jt _ _ _ _,_,rfl,L.dc,_,rfl,YZ.k (k:=Sum.inr n) c1 (by lia),?_⟩;have T1:=YT.updD (kvs':=Z5 k1 (Sum.inr n) (.int day)) c1;have g0:∀b o,b≠L.dc->H1 b=some o->(upd H1 L.dc (.dK (Z5 k1 (Sum.inr n) (.int day)))) b=some o:=fun b o nb e=>by rw[Ze nb];exact e
 have g2:(upd H1 L.dc (.dK (Z5 k1 (Sum.inr n) (.int day)))) L.dc=some (.dK (Z5 k1 (Sum.inr n) (.int day))):=Zg;generalize (upd H1 L.dc (.dK (Z5 k1 (Sum.inr n) (.int day))))=H2 at T1 g0 g2 ⊢;have g1:=g0 _ _ np ob;have g3:=g0 _ _ a1.symm w2;have g4:=g0 _ _ a2.symm e1;have g5:=g0 _ _ a3.symm h1;intro q hq;refine⟨_,rfl,_,rfl,Zg,[(Sum.inl day,.int wt)],rfl,by show 1<=15;decide,?_⟩;have S3:ZA H2 (upd (upd H2 q (.dK [])) q (.dK (Ad [] [(Sum.inl day,.int wt)]))):=fun b o e=>by rw[Ze (Zm e hq),Ze (Zm e hq)];exact e
 have kq:(upd (upd H2 q (.dK [])) q (.dK (Ad [] [(Sum.inl day,.int wt)]))) q=some (.dK [(Sum.inl day,.int wt)]):=Zg;generalize (upd (upd H2 q (.dK [])) q (.dK (Ad [] [(Sum.inl day,.int wt)])))=H3 at S3 kq ⊢;refine⟨_,rfl,L.p,C,dx,_,_,rfl,S3 _ _ g1,Tc.cl,Tc.nw,DD _ _ _ _,_,rfl,L.dw,_,rfl,YZ.k (k:=Sum.inr n) (S3 _ _ g3) (by lia),?_⟩;have T4:=YT.updD (kvs':=Z5 k2 (Sum.inr n) (.ref q)) (S3 _ _ g3);have ll:=Vz k1 (Sum.inr n:ZS) (V.int day);have ll2:=Vz k2 (Sum.inr n:ZS) (V.ref q);have lapp:(ds ++ [ZI.come n day wt]).length=ds.length+1:=by rw[xE];rfl
 have q1:q≠L.dc:=fun z=>by rw[z,g2] at hq;cases hq
 have q2:q≠L.dw:=fun z=>by rw[z,g3] at hq;cases hq
 have q3:q≠L.dd:=fun z=>by rw[z,g4] at hq;cases hq
 have q4:q≠L.dh:=fun z=>by rw[z,g5] at hq;cases hq
 have old:∀m l,kw ds m=some l->H3 (wa m)=some (.dK l)/\wa m≠q:=fun m l e=>by
  have hh:=g0 _ _ (wap m l e).1 (w4 m l e).2.1;exact⟨S3 _ _ hh,Zm hh hq⟩
 have hkw:∀m l,kw (ds ++ [.come n day wt]) m=some l->(m=n/\l = [(Sum.inl day,.int wt)])\/(m≠n/\kw ds m=some l):=fun m l e=>by
  rw[V5,Y6] at e;split at e
  ·rename_i z;cases e;exact .inl ⟨z,rfl⟩
  ·rename_i z;exact .inr ⟨z,e⟩
 refine k (fun m=>if m=n then q else wa m) _ ⟨⟨⟨dx,by rw[Ze np2];exact S3 _ _ g1⟩,⟨_,by rw[Ze a1];exact S3 _ _ g2,by lia,fun x=>?_⟩,⟨_,Zg,by lia⟩,⟨k3,by rw[Ze a4.symm];exact S3 _ _ g4,by lia,fun x=>?_⟩,⟨k4,by rw[Ze a5.symm];exact S3 _ _ g5,by lia,fun x=>?_⟩,a1,a2,a3,a4,a5,a6⟩,
  ⟨⟨_,Zg,by lia,fun m l e=>?_⟩,⟨_,by rw[Ze a1];exact S3 _ _ g2,?_⟩,fun m l e=>?_,fun m m' l l' e e' z=>?_⟩,⟨_,Zg,fun p hp=>?_⟩⟩ (fun b o e hn=>?_) (fun b hb=>?_)
 ·rw[Ue,CF hc]
  by_cases e:x=n
  ·subst e;rw[if_pos rfl,if_pos rfl];rfl
  ·rw[if_neg (fun z=>e (Sum.inr.inj z)),if_neg e];exact c3 x
 ·rw[CZ];exact e3 x
 ·rw[CZ];exact h3 x
 ·(try dsimp only)
  rcases hkw m l e with⟨rfl,rfl⟩ | ⟨hm,e'⟩
  ·rw[if_pos rfl];exact⟨by rw[Ue,if_pos rfl],by rw[Ze q2];exact kq,by rw[lapp];show 1<=_;lia⟩
  ·rw[if_neg hm];obtain⟨y1,y2,y3⟩:=w4 m l e';exact⟨by rw[Ue,if_neg (fun z=>hm (Sum.inr.inj z))];exact y1,by rw[Ze (wap m l e').2.1];exact(old m l e').1,by lia⟩
 ·have hv:Zy k1 (Sum.inr n:ZS)=none:=by rw[c3,hc];rfl
  rw[Px _ hv,xO,AS,xO,o2];rfl
 ·grind
 ·grind
 ·rw[w2] at y7;cases y7;rcases IT hp with rfl | hp
  ·exact⟨n,[(Sum.inl day,.int wt)],by rw[V5,Y6,if_pos rfl],by (try dsimp only);rw[if_pos rfl]⟩
  ·obtain⟨m,l,e,rfl⟩:=y9 p hp;have hm:m≠n:=fun z=>by rw[z,hkn] at e;cases e
   exact⟨m,l,by rw[V5,Y6,if_neg hm];exact e,by (try dsimp only);rw[if_neg hm]⟩
 ·rw[Ze (fun z=>hn (.inr (.inr (.inl z))))];exact S3 _ _ (g0 b o (fun z=>hn (.inr (.inl z))) (s1 _ _ e))
 ·rcases hb with z | z | z | z | z | ⟨m,l,e,z⟩
  ·exact .inl (.inl z)
  ·exact .inl (.inr (.inl z))
  ·exact .inl (.inr (.inr (.inl z)))
  ·exact .inl (.inr (.inr (.inr (.inl z))))
  ·exact .inl (.inr (.inr (.inr (.inr (.inl z)))))
  ·(try dsimp only at z)
   rcases hkw m l e with⟨rfl,rfl⟩ | ⟨hm,y⟩
   ·rw[if_pos rfl] at z;refine .inr ?_;cases eq:H b with
    | none=>rfl
    | some o =>
     have:=g0 _ _ (by rw[z];exact q1) (s1 _ _ eq);rw[z,hq] at this;cases this
   ·rw[if_neg hm] at z;exact .inl (.inr (.inr (.inr (.inr (.inr ⟨m,l,y,z⟩)))))
end
section
variable{C:eF}
inductive UN(C:eF)(vs:List V)(H:Hp)(Q:VK)(z3:XK):Prop
 |mk(L) (ds) (n) (day)(_:vs = [.ref L.p,.str n,.int day])(_:ZR C H L ds)(_:Vc ds n day=false)(_:Q .non H)
abbrev Eh:Stmt:=Yg (top 36) 19
theorem Sw(Zc3:ZQ K C "check_living" "Folk.check_living" Eh)(Tc:YV K C)(M_died_by:Mt P w K mg base C "died_by" ["self","name","day"] 1 (YS C)):Mt P w K mg base C "check_living" ["self","name","day"] 2 (UN C):=by
 refine Zc3.mq ["self","name","day"] fun H vs Q E hr h=>?_;obtain⟨L,ds,n,day,rfl,F,hd,k⟩:=h;refine⟨rfl,_,(Zf (Zo (Wt (Yn Q0 Tc.cl M_died_by (Za Q1 (Za Q2 Zb)))) (Zf Jr) Zn)),?_⟩;obtain⟨dx,ob⟩:=F.ob;refine⟨_,rfl,L.p,dx,_,rfl,ob,Ye _ _ _ _ (by decide +kernel),_,rfl,_,rfl,L,ds,n,day,rfl,F,_,rfl,?_⟩;rw[hd];exact Z1 k
def Ub(l:List (ZS×V))(day:Int):List Int:=l.filterMap fun p=>match p.1 with
 | .inl d=>if d<=day then some d else none
 | .inr _=>none
theorem cN{l:List (ZS×V)}{i:Nat}{d wt day:Int}(h:l[i]? = some (.inl d,.int wt)):Ub (l.take (i+1)) day=Ub (l.take i) day++(if d<=day then [d] else []):=by
 unfold Ub;rw[xV,h,List.filterMap_append];congr 1
 by_cases e:d<=day
 ·simp[e]
 ·simp[e]
theorem upTo_mem:x∈Ub l day↔(∃v,(.inl x,v)∈l)/\x<=day:=by
 unfold Ub;rw[List.mem_filterMap];constructor
 ·grind
 ·grind
theorem cJ{l:List (ZS×V)}{k:ZS}{v:V}(h:Zy l k=some v):(k,v)∈l:=by
 unfold Zy at h;cases e:l.find? fun kv=>decide (kv.1=k) with
 | none=>rw[e] at h;cases h
 | some p =>
  rw[e] at h;cases h;have h1:=List.mem_of_find?_eq_some e;have h2:=List.find?_some e;have h2:p.1=k:=by simpa using h2
  rw[← h2];exact h1
theorem SQ{l:List (ZS×V)}{k:ZS}{v:V}(h:(k,v)∈l):∃u,Zy l k=some u:=by
 unfold Zy;cases e:l.find? fun kv=>decide (kv.1=k) with
 | none =>
  have:=List.find?_eq_none.mp e (k,v) h;exact absurd (yN rfl) this
 | some p=>exact⟨p.2,rfl⟩
inductive VS(C:eF)(vs:List V)(H:Hp)(Q:VK)(z3:XK):Prop
 |mk(L) (ds) (wa) (n) (day d0 wt)(_:vs = [.ref L.p,.str n,.int day])(_:ZR C H L ds)(_:WC H L ds wa)(_:ds.length<=1000)(_:0<=day)(_:day<=9999)(_:Zl ds n=some d0)(_:d0<=day)(_:JY (kw ds n) day wt)(_:∀H',ZA H H'->Q (.int wt) H')
abbrev DZ:Stmt:=Yg (top 36) 6
theorem Eb:Nm (Zp DZ) "day" .cell:=by decide +kernel
theorem N9(Zg4:ZQ K C "weight" "Folk.weight" DZ)(T:Txt mg)(Tc:YV K C)(Yy:Fn P w K mg base "check_day" ["day"] 1 VF)(M_check_known:Mt P w K mg base C "check_known" ["self","name"] 1 (YW C))(M_check_there:Mt P w K mg base C "check_there" ["self","name","day"] 1 (WV C)) :
  Mt P w K mg base C "weight" ["self","name","day"] 2 (VS C):=by
 refine Zg4.mq ["self","name","day","told"] fun H vs Q E hr h=>?_;obtain⟨L,ds,wa,n,day,e0,wt,rfl,F,W,hl,d0,d1,hc,hd,hw,k⟩:=h
 refine⟨rfl,_,(Zc (Zk (Zj Yy (Za (qvC 2 Eb) Zb))) (Zc (Zk (Yn Q0 Tc.cl M_check_known (Za Q1 Zb))) (Zc (Zk (Yn Q0 Tc.cl M_check_there (Za Q1 (Za (qvC 2 Eb) Zb)))) (Zc (Zz 3 (Ar hr (Zw Q0) Q1 (fun _ _=>rfl))) (Zf (Zt (Ar hr Q3 (Z3 (Nl (by rfl)) T.max Cs (Za (XU (V1 (locs:=["since"]) (fr:=[("day", 2)]) ⟨rfl,by decide +kernel,by decide +kernel,by decide +kernel,by decide +kernel,by decide +kernel⟩ (.consN Eb .nil) rfl (SG Q3) ⟨fun _ _ _ _ _ _=>by
  have cnd:(inN ["since"] [("day", 2)]).Nodup:=by decide +kernel
  exact⟨(Wp 0 cnd),(AV (Zr Wh (Y5 0) (Vr 1) (Zu _))),(Y5 0)⟩⟩)) Zb)) (fun _ _=>rfl)))))))),?_⟩
 have hz:(5000:Nat)<=sizeLine:=by decide
 obtain⟨dx,ob⟩:=F.ob;refine⟨_,rfl,day,rfl,d0,d1,?_⟩;refine⟨_,rfl,L.p,dx,_,rfl,ob,Ye _ _ _ _ (by decide +kernel),_,rfl,L,ds,n,e0,rfl,F,hc,?_⟩;refine⟨_,rfl,L.p,dx,_,rfl,ob,Ye _ _ _ _ (by decide +kernel),_,rfl,_,rfl,L,ds,n,e0,day,rfl,F,hc,hd,?_⟩;obtain⟨l,m0,hkl,hm0,hm1,hm2⟩:=hw;obtain⟨k2,w2,w3,w4⟩:=W.w;obtain⟨y1,y2,y3⟩:=w4 n l hkl;have hint:=LD hkl;have g:=ZZ.k (k:=Sum.inr n) w2;rw[y1] at g;refine⟨_,rfl,L.p,C,dx,_,_,rfl,ob,Tc.cl,Tc.nw,DD _ _ _ _,_,rfl,L.dw,.ref (wa n),rfl,g,?_⟩;refine⟨_,rfl,wa n,l,y2,fun o=>?_⟩;refine⟨_,rfl,wa n,o,l,rfl,Zg,?_⟩;refine Qr (fun i ys H'=>H'=upd H (wa n) (.frz o (.dK l))/\ys=(Ub (l.take i) day).map V.int) ⟨rfl,rfl⟩ (by lia) (fun i ys H' _ ⟨e,_⟩=>by rw[e];exact Zg) ?_ ?_ ?_
 ·rintro i ys H' ⟨_,rfl⟩;rw[xA];unfold Ub;refine xX (List.length_filterMap_le _ _) ?_;rw[xU];lia
 ·rintro i p ys H' hp ⟨rfl,rfl⟩ ls hls;obtain⟨w0,rfl⟩:=Ul hls;obtain⟨d,wt',rfl⟩:=hint p (xJ hp);refine⟨⟨[_],rfl,rfl⟩,?_⟩;refine⟨_,rfl,_,rfl,d,day,rfl,rfl,_,rfl,?_⟩;rw[cN hp];refine Z0 (fun e=>?_) (fun e=>?_)
  ·refine⟨_,rfl,rfl,?_⟩;rw[if_pos e,xO];rfl
  ·exact⟨rfl,by rw[if_neg e,yD]⟩
 ·rintro ys H' ⟨rfl,rfl⟩ q hq;rw[yC];have nq:q≠wa n:=fun z=>by rw[z,Zg] at hq;cases hq
  refine⟨by rw[Ze nq.symm];exact Zg,?_⟩;have hqH:H q=none:=by rw[Ze nq] at hq;exact hq
  have S:ZA H (upd (upd (upd H (wa n) (.frz o (.dK l))) q (.lst ((Ub l day).map V.int))) (wa n) (.dK l)):=fun b ob e=>by
   by_cases z:b=wa n
   ·rw[z,Zg];rw[z,y2] at e;exact e
   ·rw[Ze z,Ze (Zm e hqH),Ze z];exact e
  have kq:(upd (upd (upd H (wa n) (.frz o (.dK l))) q (.lst ((Ub l day).map V.int))) (wa n) (.dK l)) q=some (.lst ((Ub l day).map V.int)):=by rw[Ze nq,Zg]
  generalize (upd (upd (upd H (wa n) (.frz o (.dK l))) q (.lst ((Ub l day).map V.int))) (wa n) (.dK l))=H2 at S kq ⊢;have hin:m0∈Ub l day:=upTo_mem.mpr ⟨⟨_,cJ hm0⟩,hm1⟩;refine⟨q,Ub l day,rfl,ZE.of kq,(fun z=>by rw[z] at hin;cases hin),fun m hm hmx=>?_⟩;obtain⟨⟨v,hv⟩,hmd⟩:=upTo_mem.mp hm;obtain⟨u,hu⟩:=SQ hv;have e1:=hm2 m u hu hmd;have e2:=hmx m0 hin;have em:m=m0:=by lia
  subst em;have g2:=ZZ.k (k:=Sum.inl m) (S _ _ y2);rw[hm0] at g2;exact⟨wa n,.int wt,rfl,g2,k H2 S⟩
inductive VL(C:eF)(vs:List V)(H:Hp)(Q:VK)(z3:XK):Prop
 |mk(L) (ds) (n) (day wt d0)(_:vs = [.ref L.p,.str n,.int day,.int wt])(_:ZR C H L ds)(_:0<=day)(_:day<=9999)(_:1<=wt)(_:wt<=1000)(_:Zl ds n=some d0)(_:d0<=day)(_:Vc ds n day=false)(_:Q .non H)
abbrev DO:Stmt:=Yg (top 36) 15
theorem Xl(Zc4:ZQ K C "check_rise" "Folk.check_rise" DO)(Tc:YV K C)(Yy:Fn P w K mg base "check_day" ["day"] 1 VF)(Zb3:Fn P w K mg base "check_weight" ["weight"] 1 AG)(M_check_known:Mt P w K mg base C "check_known" ["self","name"] 1 (YW C))(M_check_there:Mt P w K mg base C "check_there" ["self","name","day"] 1 (WV C))(M_check_living:Mt P w K mg base C "check_living" ["self","name","day"] 2 (UN C)):Mt P w K mg base C "check_rise" ["self","name","day","weight"] 3 (VL C):=by
 refine Zc4.mq ["self","name","day","weight"] fun H vs Q E hr h=>?_;obtain⟨L,ds,n,day,wt,e0,rfl,F,d0,d1,w0,w1,hc,hd,hv,k⟩:=h;refine⟨rfl,_,(Zc (Zk (Zj Yy (Za Q2 Zb))) (Zc (Zk (Zj Zb3 (Za Q3 Zb))) (Zc (Zk (Yn Q0 Tc.cl M_check_known (Za Q1 Zb))) (Zc (Zk (Yn Q0 Tc.cl M_check_there (Za Q1 (Za Q2 Zb)))) (Zf (Zk (Yn Q0 Tc.cl M_check_living (Za Q1 (Za Q2 Zb))))))))),?_⟩;obtain⟨dx,ob⟩:=F.ob;refine⟨_,rfl,day,rfl,d0,d1,?_⟩;refine⟨_,rfl,wt,rfl,w0,w1,?_⟩;refine⟨_,rfl,L.p,dx,_,rfl,ob,Ye _ _ _ _ (by decide +kernel),_,rfl,L,ds,n,e0,rfl,F,hc,?_⟩;refine⟨_,rfl,L.p,dx,_,rfl,ob,Ye _ _ _ _ (by decide +kernel),_,rfl,_,rfl,L,ds,n,e0,day,rfl,F,hc,hd,?_⟩;exact⟨_,rfl,L.p,dx,_,rfl,ob,Ye _ _ _ _ (by decide +kernel),_,rfl,_,rfl,L,ds,n,day,rfl,F,hv,k⟩
inductive TL(C:eF)(vs:List V)(H:Hp)(Q:VK)(z3:XK):Prop
 |mk(L) (ds) (wa) (n) (day wt d0)(_:vs = [.ref L.p,.str n,.int day,.int wt])(_:Fk C H L ds wa)(_:ds.length<=1000)(_:0<=day)(_:day<=9999)(_:1<=wt)(_:wt<=1000)(_:Zl ds n=some d0)(_:d0<=day)(_:Vc ds n day=false)(_:∀H',Fk C H' L (ds ++ [.rise n day wt]) wa->VE L ds wa H H'->BY L ds wa (ds ++ [.rise n day wt]) wa H->Q .non H')
abbrev Ir:Stmt:=Yg (top 36) 2
theorem Pu(Zg6:ZQ K C "rise" "Folk.rise" Ir)(Tc:YV K C)(M_check_rise:Mt P w K mg base C "check_rise" ["self","name","day","weight"] 3 (VL C)):Mt P w K mg base C "rise" ["self","name","day","weight"] 4 (TL C):=by
 refine Zg6.mq ["self","name","day","weight"] fun H vs Q E hr h=>?_;obtain⟨L,ds,wa,n,day,wt,e0,rfl,K0,hl,d0,d1,w0,w1,hc,hd,hv,k⟩:=h;refine⟨rfl,_,(Zc (Zk (Yn Q0 Tc.cl M_check_rise (Za Q1 (Za Q2 (Za Q3 Zb))))) (Zf (JI hr (Ar hr (Zw Q0) Q1 (fun _ _=>rfl)) Q2 Q3))),?_⟩;have F:=K0.f;have W:=K0.w;obtain⟨k9,y8,y9⟩:=K0.all;have hz:(5000:Nat)<=sizeLine:=by decide
 obtain⟨dx0,ob0⟩:=F.ob;refine⟨_,rfl,L.p,dx0,_,rfl,ob0,Ye _ _ _ _ (by decide +kernel),_,rfl,_,rfl,_,rfl,L,ds,n,day,wt,e0,rfl,F,d0,d1,w0,w1,hc,hd,hv,?_⟩;obtain⟨l,hkl⟩:∃l,kw ds n=some l:=by
  have:=EW ds n;rw[hc] at this;cases e:kw ds n with
  | none=>rw[e] at this;cases this
  | some l=>exact⟨l,rfl⟩
 obtain⟨⟨dx,ob⟩,⟨k1,c1,c2,c3⟩,_,⟨k3,e1,e2,e3⟩,⟨k4,h1,h2,h3⟩,a1,a2,a3,a4,a5,a6⟩:=F;obtain⟨⟨k2,w2,w3,w4⟩,⟨k1',o1,o2⟩,wap,winj⟩:=W;rw[c1] at o1;cases o1;obtain⟨y1,y2,y3⟩:=w4 n l hkl;obtain⟨z1,z2,z3,z4⟩:=wap n l hkl;have zp:L.p≠wa n:=fun z=>by rw[z,y2] at ob;cases ob
 have g:=ZZ.k (k:=Sum.inr n) w2;rw[y1] at g;refine⟨_,rfl,_,rfl,L.p,C,dx,_,_,rfl,ob,Tc.cl,Tc.nw,DD _ _ _ _,_,rfl,L.dw,.ref (wa n),rfl,g,_,rfl,wa n,_,rfl,YZ.k (k:=Sum.inl day) y2 (by lia),?_⟩;have T1:=YT.updD (kvs':=Z5 l (Sum.inl day) (.int wt)) y2;have ll:=Vz l (Sum.inl day:ZS) (V.int wt);have lapp:(ds ++ [ZI.rise n day wt]).length=ds.length+1:=by rw[xE];rfl
 have hkw:∀m l',kw (ds ++ [.rise n day wt]) m=some l'->(m=n/\l'=Z5 l (Sum.inl day) (.int wt))\/(m≠n/\kw ds m=some l'):=fun m l' e=>by
  rw[V5,Y6] at e;split at e
  ·rename_i z;subst z;rw[hkl] at e;cases e;exact .inl ⟨rfl,rfl⟩
  ·rename_i z;exact .inr ⟨z,e⟩
 have old:∀m l',kw (ds ++ [.rise n day wt]) m=some l'->∃l'',kw ds m=some l'':=fun m l' e=>by
  rcases hkw m l' e with⟨rfl,_⟩ | ⟨_,y⟩
  ·exact⟨l,hkl⟩
  ·exact⟨l',y⟩
 refine k _ ⟨⟨⟨dx,by rw[Ze zp];exact ob⟩,⟨k1,by rw[Ze z1.symm];exact c1,by lia,fun x=>by rw[Cv];exact c3 x⟩,⟨k2,by rw[Ze z2.symm];exact w2,by lia⟩,⟨k3,by rw[Ze z3.symm];exact e1,by lia,fun x=>by rw[CY];exact e3 x⟩,⟨k4,by rw[Ze z4.symm];exact h1,by lia,fun x=>by rw[CY];exact h3 x⟩,a1,a2,a3,a4,a5,a6⟩,
  ⟨⟨k2,by rw[Ze z2.symm];exact w2,by lia,fun m l' e=>?_⟩,⟨k1,by rw[Ze z1.symm];exact c1,?_⟩,fun m l' e=>?_,fun m m' l1 l2 e e' z=>?_⟩,⟨k9,by rw[Ze z2.symm];exact y8,fun p hp=>?_⟩⟩ (fun b o e hn=>?_) (fun b hb=>?_)
 ·rcases hkw m l' e with⟨rfl,rfl⟩ | ⟨hm,y⟩
  ·exact⟨y1,Zg,by lia⟩
  ·obtain⟨x1,x2,x3⟩:=w4 m l' y;exact⟨x1,by rw[Ze (fun z=>hm (winj m n l' l y hkl z))];exact x2,by lia⟩
 ·rw[AS,o2];show _=((Wi ds)++[]).map V.str;rw[yD]
 ·obtain⟨l'',y⟩:=old m l' e;exact wap m l'' y
 ·grind
 ·obtain⟨m,l',e,rfl⟩:=y9 p hp
  by_cases hm:m=n
  ·subst hm;exact⟨m,Z5 l (Sum.inl day) (.int wt),by rw[V5,Y6,if_pos rfl,hkl];rfl,rfl⟩
  ·exact⟨m,l',by rw[V5,Y6,if_neg hm];exact e,rfl⟩
 ·rw[Ze (fun z=>hn (.inr (.inr (.inr (.inr (.inr ⟨n,l,hkl,z⟩))))))];exact e
 ·rcases hb with z | z | z | z | z | ⟨m,l',e,z⟩
  ·exact .inl (.inl z)
  ·exact .inl (.inr (.inl z))
  ·exact .inl (.inr (.inr (.inl z)))
  ·exact .inl (.inr (.inr (.inr (.inl z))))
  ·exact .inl (.inr (.inr (.inr (.inr (.inl z)))))
  ·obtain⟨l'',y⟩:=old m l' e;exact .inl (.inr (.inr (.inr (.inr (.inr ⟨m,l'',y,z⟩)))))
inductive UI(C:eF)(vs:List V)(H:Hp)(Q:VK)(z3:XK):Prop
 |mk(L) (ds) (n)(_:vs = [.ref L.p,.str n])(_:ZR C H L ds)(_:Zx ds n=none)(_:Q .non H)
abbrev E8:Stmt:=Yg (top 36) 20
theorem bE(Zc5:ZQ K C "check_untold" "Folk.check_untold" E8)(Tc:YV K C):Mt P w K mg base C "check_untold" ["self","name"] 1 (UI C):=by
 refine Zc5.mq ["self","name"] fun H vs Q E hr h=>?_;obtain⟨L,ds,n,rfl,F,c5,k⟩:=h;refine⟨rfl,_,(Zf (Zo (Zr (JV hr) Q1 (Zw Q0) rfl) (Zf Jr) Zn)),?_⟩;obtain⟨dx,ob⟩:=F.ob;obtain⟨kvs,e1,e2,e3⟩:=F.d;have g:=ZZ.k (k:=Sum.inr n) e1;rw[e3,c5] at g;exact⟨_,rfl,_,rfl,L.p,C,dx,_,_,rfl,ob,Tc.cl,Tc.nd,A0 _ _ _ _,L.dd,_,rfl,g,_,rfl,Z1 k⟩
inductive UE(C:eF)(vs:List V)(H:Hp)(Q:VK)(z3:XK):Prop
 |mk(L) (ds) (n hr) (day dn dr)(_:vs = [.ref L.p,.str n,.int day,.str hr])(_:ZR C H L ds)(_:0<=day)(_:day<=9999)(_:Zl ds n=some dn)(_:dn<=day)(_:Zl ds hr=some dr)(_:dr<=day)(_:Zx ds n=none)(_:Zx ds hr=none)(_:hr≠n)(_:Q .non H)
abbrev Ef:Stmt:=Yg (top 36) 16
theorem Qp(Zc6:ZQ K C "check_death" "Folk.check_death" Ef)(Tc:YV K C)(Yy:Fn P w K mg base "check_day" ["day"] 1 VF)(M_check_known:Mt P w K mg base C "check_known" ["self","name"] 1 (YW C))(M_check_there:Mt P w K mg base C "check_there" ["self","name","day"] 1 (WV C))(M_check_untold:Mt P w K mg base C "check_untold" ["self","name"] 1 (UI C)) :
  Mt P w K mg base C "check_death" ["self","name","day","heir"] 2 (UE C):=by
 refine Zc6.mq ["self","name","day","heir"] fun H vs Q E hr h=>?_;obtain⟨L,ds,n,he,day,dn,dr,rfl,F,d0,d1,c1,c2,c3,c4,c5,c6,c7,k⟩:=h;refine⟨rfl,_,(Zc (Zk (Zj Yy (Za Q2 Zb))) (Zc (Zk (Yn Q0 Tc.cl M_check_known (Za Q1 Zb))) (Zc (Zk (Yn Q0 Tc.cl M_check_known (Za Q3 Zb))) (Zc (Zk (Yn Q0 Tc.cl M_check_there (Za Q1 (Za Q2 Zb)))) (Zc (Zk (Yn Q0 Tc.cl M_check_there (Za Q3 (Za Q2 Zb)))) (Zc (Zk (Yn Q0 Tc.cl M_check_untold (Za Q1 Zb))) (Zf (Zo (QW.pt (Dy (Zr Ym Q3 Q1 (Zu _)) (EO (Zr (JV hr) Q3 (Zw Q0) rfl)))) (Zf Jr) Zn)))))))),?_⟩;obtain⟨dx,ob⟩:=F.ob;obtain⟨kvs,e1,e2,e3⟩:=F.d;have g:=ZZ.k (k:=Sum.inr n) e1;rw[e3,c5] at g;have g':=ZZ.k (k:=Sum.inr he) e1;rw[e3,c6] at g';have no:∀{m:Str},Cy m->(V4 L.dc L.dw L.dd L.dh).lookup m=none:=fun h=>Ye _ _ _ _ h;refine⟨_,rfl,day,rfl,d0,d1,?_⟩;refine⟨_,rfl,L.p,dx,_,rfl,ob,no (by decide +kernel),_,rfl,L,ds,n,dn,rfl,F,c1,?_⟩;refine⟨_,rfl,L.p,dx,_,rfl,ob,no (by decide +kernel),_,rfl,L,ds,he,dr,rfl,F,c3,?_⟩;refine⟨_,rfl,L.p,dx,_,rfl,ob,no (by decide +kernel),_,rfl,_,rfl,L,ds,n,dn,day,rfl,F,c1,c2,?_⟩;refine⟨_,rfl,L.p,dx,_,rfl,ob,no (by decide +kernel),_,rfl,_,rfl,L,ds,he,dr,day,rfl,F,c3,c4,?_⟩;refine⟨_,rfl,L.p,dx,_,rfl,ob,no (by decide +kernel),_,rfl,L,ds,n,rfl,F,c5,?_⟩;refine⟨_,rfl,_,rfl,rfl,_,rfl,Z0 (fun z=>absurd (by injection z) c7) (fun _=>?_)⟩;exact⟨_,rfl,_,rfl,L.p,C,dx,_,_,rfl,ob,Tc.cl,Tc.nd,A0 _ _ _ _,L.dd,_,rfl,g',_,rfl,Z1 k⟩
inductive JN(C:eF)(vs:List V)(H:Hp)(Q:VK)(z3:XK):Prop
 |mk(L) (ds) (wa) (n hr) (day dn dr)(_:vs = [.ref L.p,.str n,.int day,.str hr])(_:Fk C H L ds wa)(_:ds.length<=1000)(_:0<=day)(_:day<=9999)(_:Zl ds n=some dn)(_:dn<=day)(_:Zl ds hr=some dr)(_:dr<=day)(_:Zx ds n=none)(_:Zx ds hr=none)(_:hr≠n)(_:∀H',Fk C H' L (ds ++ [.die n day hr]) wa->VE L ds wa H H'->BY L ds wa (ds ++ [.die n day hr]) wa H->Q .non H')
abbrev Kc:Stmt:=Yg (top 36) 3
theorem Xa(Zg9:ZQ K C "die" "Folk.die" Kc)(Tc:YV K C)(M_check_death:Mt P w K mg base C "check_death" ["self","name","day","heir"] 2 (UE C)) :
  Mt P w K mg base C "die" ["self","name","day","heir"] 3 (JN C):=by
 refine Zg9.mq ["self","name","day","heir"] fun H vs Q E hr h=>?_;obtain⟨L,ds,wa,n,he,day,dn,dr,rfl,K0,hl,d0,d1,b1,b2,b3,b4,b5,b6,b7,k⟩:=h;refine⟨rfl,_,(Zc (Zk (Yn Q0 Tc.cl M_check_death (Za Q1 (Za Q2 (Za Q3 Zb))))) (Zc (JI hr (Zw Q0) Q1 Q2) (Zf (JI hr (Zw Q0) Q1 Q3)))),?_⟩;have F:=K0.f;obtain⟨⟨k5,x1,x2,x3⟩,⟨k6,o1,o2⟩,wap,winj⟩:=K0.w;obtain⟨k9,y8,y9⟩:=K0.all;have hkw:kw (ds ++ [.die n day he])=kw ds:=by rw[V5];rfl
 have hz:(5000:Nat)<=sizeLine:=by decide
 obtain⟨dx0,ob0⟩:=F.ob;refine⟨_,rfl,L.p,dx0,_,rfl,ob0,Ye _ _ _ _ (by decide +kernel),_,rfl,_,rfl,_,rfl,L,ds,n,he,day,dn,dr,rfl,F,d0,d1,b1,b2,b3,b4,b5,b6,b7,?_⟩;obtain⟨⟨dx,ob⟩,⟨k1,c1,c2,c3⟩,⟨k2,w2,w3⟩,⟨k3,e1,e2,e3⟩,⟨k4,h1,h2,h3⟩,a1,a2,a3,a4,a5,a6⟩:=F;have np:L.p≠L.dd:=fun z=>by rw[z,e1] at ob;cases ob
 have np2:L.p≠L.dh:=fun z=>by rw[z,h1] at ob;cases ob
 refine⟨_,rfl,_,rfl,L.p,C,dx,_,_,rfl,ob,Tc.cl,Tc.nd,A0 _ _ _ _,_,rfl,L.dd,_,rfl,YZ.k (k:=Sum.inr n) e1 (by lia),?_⟩;have T1:=YT.updD (kvs':=Z5 k3 (Sum.inr n) (.int day)) e1;have g1:(upd H L.dd (.dK (Z5 k3 (Sum.inr n) (.int day)))) L.p=some (.ins C dx (V4 L.dc L.dw L.dd L.dh)):=by rw[Ze np];exact ob
 have g0:∀b o,b≠L.dd->H b=some o->(upd H L.dd (.dK (Z5 k3 (Sum.inr n) (.int day)))) b=some o:=fun b o nb e=>by rw[Ze nb];exact e
 have g2:(upd H L.dd (.dK (Z5 k3 (Sum.inr n) (.int day)))) L.dd=some (.dK (Z5 k3 (Sum.inr n) (.int day))):=Zg;have g3:(upd H L.dd (.dK (Z5 k3 (Sum.inr n) (.int day)))) L.dw=some (.dK k2):=by rw[Ze a4];exact w2
 have g4:(upd H L.dd (.dK (Z5 k3 (Sum.inr n) (.int day)))) L.dc=some (.dK k1):=by rw[Ze a2];exact c1
 have g5:(upd H L.dd (.dK (Z5 k3 (Sum.inr n) (.int day)))) L.dh=some (.dK k4):=by rw[Ze a6.symm];exact h1
 generalize (upd H L.dd (.dK (Z5 k3 (Sum.inr n) (.int day))))=H2 at T1 g0 g1 g2 g3 g4 g5 ⊢;refine⟨_,rfl,_,rfl,L.p,C,dx,_,_,rfl,g1,Tc.cl,Tc.nh,FW _ _ _ _,_,rfl,L.dh,_,rfl,YZ.k (k:=Sum.inr n) g5 (by lia),?_⟩;have T4:=YT.updD (kvs':=Z5 k4 (Sum.inr n) (.str he)) g5;have ll:=Vz k3 (Sum.inr n:ZS) (V.int day);have ll2:=Vz k4 (Sum.inr n:ZS) (V.str he);have lapp:(ds ++ [ZI.die n day he]).length=ds.length+1:=by rw[xE];rfl
 refine k _ ⟨⟨⟨dx,by rw[Ze np2];exact g1⟩,⟨k1,by rw[Ze a3];exact g4,by lia,fun x=>?_⟩,⟨k2,by rw[Ze a5];exact g3,by lia⟩,⟨_,by rw[Ze a6];exact g2,by lia,fun x=>?_⟩,⟨_,Zg,by lia,fun x=>?_⟩,a1,a2,a3,a4,a5,a6⟩,
  ⟨⟨k5,by rw[Ze a5];exact g0 _ _ a4 x1,by lia,fun m l e=>?_⟩,⟨k6,by rw[Ze a3];exact g0 _ _ a2 o1,?_⟩,fun m l e=>wap m l (by rw[← hkw];exact e),fun m m' l l' e e' z=>winj m m' l l' (by rw[← hkw];exact e) (by rw[← hkw];exact e') z⟩,⟨k9,by rw[Ze a5];exact g0 _ _ a4 y8,fun p hp=>?_⟩⟩ (fun b o e hn=>?_) (fun b hb=>?_)
 ·rw[Dp];exact c3 x
 ·rw[Ue,Cn b5]
  by_cases e:x=n
  ·subst e;rw[if_pos rfl,if_pos rfl];rfl
  ·rw[if_neg (fun z=>e (Sum.inr.inj z)),if_neg e];exact e3 x
 ·rw[Ue,Cn b5]
  by_cases e:x=n
  ·subst e;rw[if_pos rfl,if_pos rfl];rfl
  ·rw[if_neg (fun z=>e (Sum.inr.inj z)),if_neg e];exact h3 x
 ·rw[hkw] at e;obtain⟨q1,q2,q3⟩:=x3 m l e;obtain⟨_,_,z3,z4⟩:=wap m l e;exact⟨q1,by rw[Ze z4];exact g0 _ _ z3 q2,by lia⟩
 ·rw[AS,o2];show _=((Wi ds)++[]).map V.str;rw[yD]
 ·obtain⟨m,l,e,q⟩:=y9 p hp;exact⟨m,l,by rw[hkw];exact e,q⟩
 ·rw[Ze (fun z=>hn (.inr (.inr (.inr (.inr (.inl z))))))];exact g0 b o (fun z=>hn (.inr (.inr (.inr (.inl z))))) e
 ·refine .inl ?_;unfold own at hb ⊢;rw[hkw] at hb;exact hb
end
def Ug(H H':Hp):Prop:=∀b xs,H b=some (.tup xs)->H' b=some (.tup xs)
theorem HB(hl:H l=some (.lst xs)):Ug H (upd H l o):=fun b ys e=>by
 rw[Ze (fun z=>by rw[z,hl] at e;cases e)];exact e
abbrev Vd:=List (Str×Int)
def Dj(p:Str×Int):D:=.tup [.str p.1,.int p.2]
def EB(sd:Vd):D:=.lst (sd.map Dj)
def ZN(H:Hp):Vd->List V->Prop
 | [],vs=>vs = []
 | p::r,vs=>∃a vs',vs = .ref a::vs'/\H a=some (.tup [.str p.1,.int p.2])/\ZN H r vs'
theorem ZN.mono(k:Ug H H'):∀{sd:Vd}{vs:List V},ZN H sd vs->ZN H' sd vs
 | [],_,h=>h
 | _::_,_,⟨a,vs',e,h1,h2⟩=>⟨a,vs',e,k _ _ h1,ZN.mono k h2⟩
theorem ZN.rep:∀{sd:Vd}{vs:List V},ZN H sd vs->ZP H (sd.map Dj) vs
 | [],_,h=>h
 | p::_,_,⟨a,vs',e,h1,h2⟩=>⟨.ref a,vs',e,⟨a,_,rfl,h1,⟨.str p.1,_,rfl,rfl,⟨.int p.2,[],rfl,rfl,rfl⟩⟩⟩,ZN.rep h2⟩
theorem ZN.of:∀{sd:Vd}{vs:List V},ZP H (sd.map Dj) vs->ZN H sd vs
 | [],_,h=>h
 | p::_,_,⟨v,vs',e,⟨a,us,e2,h1,⟨x,r1,e3,e4,⟨y,r2,e5,e6,e7⟩⟩⟩,h2⟩=>by
  subst e2 e7 e5 e3;cases e4;cases e6;exact⟨a,vs',e,h1,ZN.of h2⟩
theorem ZN.len(h:ZN H sd vs):vs.length=sd.length:=by
 have:=(ZN.rep h).length;rw[xA] at this;exact this
theorem ZN.get:∀{sd:Vd}{vs:List V}{i:Nat}{v:V},ZN H sd vs->vs[i]? = some v->∃p a,sd[i]? = some p/\v = .ref a/\H a=some (.tup [.str p.1,.int p.2])
 | [],vs,i,v,h,e=>by cases h;simp at e
 | p::sd,vs,i,v,⟨a,vs',e1,h1,h2⟩,e=>by
  subst e1;cases i with
  | zero=>simp at e;subst e;exact⟨p,a,rfl,rfl,h1⟩
  | succ i=>simp at e;exact ZN.get (i:=i) h2 e
theorem ZN.snoc(hp:H a=some (.tup [.str p.1,.int p.2])):∀{sd:Vd}{vs:List V},ZN H sd vs->ZN H (sd ++ [p]) (vs ++ [.ref a])
 | [],vs,h=>by cases h;exact⟨a,[],rfl,hp,rfl⟩
 | q::sd,vs,⟨b,vs',e,h1,h2⟩=>by subst e;exact⟨b,vs' ++ [.ref a],rfl,h1,ZN.snoc hp h2⟩
def wts(sd:Vd):List Int:=sd.map (·.2)
def YQ(sd:Vd):Prop:=(∀p∈sd,1<=p.2/\p.2<=1000)/\sd.length<=60
theorem YQ.bnd(h:YQ sd):∀n∈wts sd,-1000000000<=n/\n<=1000000000:=fun n hn=>by
 obtain⟨p,hp,rfl⟩:=yY.mp hn;have:=h.1 p hp;show -1000000000<=p.2/\p.2<=1000000000;lia
theorem bW{sd:Vd}{i:Nat}{p:Str×Int}(h:sd[i]? = some p):(wts sd)[i]? = some p.2:=by unfold wts;rw[xI,h];rfl
def YJ(H:Hp)(sd:Vd)(v:V):Prop:=∃a vs,v = .ref a/\H a=some (.lst vs)/\ZN H sd vs
theorem ZA.t(h:ZA H H'):Ug H H':=fun b xs e=>h b _ e
theorem YJ.mono(h:YJ H sd v)(k:ZA H H'):YJ H' sd v:=let ⟨a,vs,e,h1,h2⟩:=h;⟨a,vs,e,k _ _ h1,h2.mono fun b xs e=>k b _ e⟩
inductive Td(vs:List V)(H:Hp)(Q:VK)(z3:XK):Prop
 |mk(v) (sd)(_:vs = [v])(_:YJ H sd v)(_:YQ sd)(_:∀H',ZA H H'->Q (.int (wts sd).sum) H')
theorem Xo(ha:H a=some (.lst vs))(hr:ZN H sd vs)(hl:sd.length<=60)(hd:∀l,H l=none->Q (.ref l) (upd H l (.lst ((wts sd).map V.int)))) :
  Ur (Jx K a) 2 fv (Jg K 2 (VR (Wg 0) (VR (Wg 1) Dv))) (fun _ H Q=>Q true H) (YH 1) Q H:=by
 have hlen:=hr.len;refine Jm (xs:=vs) (fun i ys H'=>H'=H/\ys=((wts sd).take i).map V.int) ⟨rfl,rfl⟩ (by lia) (fun i ys H' _ ⟨e,_⟩=>by rw[e];exact ZE.of ha) ?_ ?_ ?_
 ·rintro i ys H' ⟨_,rfl⟩;rw[xA,xU];lia
 ·rintro i x ys H' hx ⟨rfl,rfl⟩ ls hls;obtain⟨u,v,rfl⟩:=Dm hls;obtain⟨p,b,hp,rfl,hb⟩:=hr.get hx;refine⟨b,_,rfl,ZT.of hb,rfl,_,_,rfl,_,_,rfl,rfl,⟨[_,_],rfl,rfl⟩,Z8 ?_⟩;refine⟨_,rfl,rfl,?_⟩;rw[xV,bW hp,xO];rfl
 ·rintro ys H' ⟨rfl,rfl⟩ l hl';have e:(wts sd).take vs.length=wts sd:=yU (by unfold wts;rw[xA];lia);rw[e];exact hd l hl'
abbrev Kn:Stmt:=top 33
theorem Ol(Zhb:YC K mg "total" Kn)(T:Txt mg):Fn P w K mg base "total" ["side"] 1 Td:=by
 refine Zhb.fq ["side"] fun H vs Q E hr h=>?_;obtain⟨v,sd,rfl,⟨a,vs,rfl,ha,hr⟩,hL,k⟩:=h
 refine⟨rfl,_,(Zf (Zt (Z3 (CJ (by rfl)) T.sum Ds (Za (V1 (locs:=["name","weight"]) (fr:=[]) ⟨rfl,by decide +kernel,by decide +kernel,by decide +kernel,by decide +kernel,by decide +kernel⟩ .nil rfl (Wb Q0) ⟨fun _ _ _ _ _ _=>by
  have cnd:(inN ["name","weight"] []).Nodup:=by decide +kernel
  exact⟨(BL 2 (by rfl) (Wo (Wp 0 cnd) (Wo (Wp 1 cnd) Ju))),Uv,(Y5 1)⟩⟩) Zb)))),?_⟩
 refine⟨_,rfl,a,rfl,⟨_,ZE.of ha⟩,?_⟩;refine Xo ha hr hL.2 fun l hl=>?_;exact⟨l,wts sd,rfl,ZE.of Zg,hL.bnd,by unfold wts;rw[xA];have:=hL.2;lia,k _ (ZA.new hl)⟩
structure ZW where
 ones:Vd
 others:Vd
 need:Int
 named:Option (Int×Str)
def Bp:Option (Int×Str)->D
 | none=>.non
 | some (c,n)=>.tup [.int c,.str n]
def Wj(t:ZW):D:=.tup [EB t.ones,EB t.others,.int t.need,Bp t.named]
theorem YJ.of(h:YA H (EB sd) v):YJ H sd v:=by
 obtain⟨a,vs,e,h1,h2⟩:=h;exact⟨a,vs,e,h1,ZN.of h2⟩
theorem Kx(h:YA H (Wj t) v):∃a u1 u2 u4,v = .ref a/\H a=some (.tup [u1,u2,.int t.need,u4])/\YJ H t.ones u1/\YJ H t.others u2/\YA H (Bp t.named) u4:=by
 obtain⟨a,vs,e,h1,⟨u1,r1,rfl,a1,⟨u2,r2,rfl,a2,⟨u3,r3,rfl,a3,⟨u4,r4,rfl,a4,a5⟩⟩⟩⟩⟩:=h;cases a3;cases a5;exact⟨a,u1,u2,u4,e,h1,.of a1,.of a2,a4⟩
theorem ZN.app(hb:ZN H b ws):∀{a:Vd}{vs:List V},ZN H a vs->ZN H (a++b) (vs++ws)
 | [],vs,h=>by cases h;exact hb
 | p::a,vs,⟨c,vs',e,h1,h2⟩=>by subst e;exact⟨c,vs'++ws,rfl,h1,ZN.app hb h2⟩
theorem Le(ha:H a=some (.lst vs))(hr:ZN H sd vs)(hl:sd.length<=1000)(hd:∀l,H l=none->Q (.ref l) (upd H l (.lst ((sd.map (·.1)).map V.str)))) :
  Ur (Jx K a) 2 fv (Jg K 2 (VR (Wg 0) (VR (Wg 1) Dv))) (fun _ H Q=>Q true H) (YH 0) Q H:=by
 have hlen:=hr.len;refine Jm (xs:=vs) (fun i ys H'=>H'=H/\ys=((sd.map (·.1)).take i).map V.str) ⟨rfl,rfl⟩ (by lia) (fun i ys H' _ ⟨e,_⟩=>by rw[e];exact ZE.of ha) ?_ ?_ ?_
 ·rintro i ys H' ⟨_,rfl⟩;rw[xA,xU];lia
 ·rintro i x ys H' hx ⟨rfl,rfl⟩ ls hls;obtain⟨u,v,rfl⟩:=Dm hls;obtain⟨p,b,hp,rfl,hb⟩:=hr.get hx;refine⟨b,_,rfl,ZT.of hb,rfl,_,_,rfl,_,_,rfl,rfl,⟨[_,_],rfl,rfl⟩,Z8 ?_⟩;refine⟨_,rfl,rfl,?_⟩;have e:(sd.map (·.1))[i]? = some p.1:=by rw[xI,hp];rfl
  rw[xV,e,xO];rfl
 ·rintro ys H' ⟨rfl,rfl⟩ l hl';have e:(sd.map (·.1)).take vs.length=sd.map (·.1):=yU (by rw[xA];lia);rw[e];exact hd l hl'
def Uh(t:ZW):Prop:=YQ t.ones/\YQ t.others/\1<=t.need/\t.need<=12000
theorem FB(xs:List V)(c:Nat):Uk xs none (some (c:Int))=xs.take c:=by
 unfold Uk;rw[HT.sIx_none,HT.sIx_nat,List.drop_zero,Nat.sub_zero]
 by_cases h:c<=xs.length
 ·rw[Nat.min_eq_left h]
 ·grind
theorem KP(xs:List V)(c:Nat):Uk xs (some (c:Int)) none=xs.drop c:=by
 unfold Uk;rw[HT.sIx_none,HT.sIx_nat]
 by_cases h:c<=xs.length
 ·rw[Nat.min_eq_left h];exact yU (by rw[zU];lia)
 ·rw[Nat.min_eq_right (by lia),zL (xD _),zL (by lia)];exact List.take_nil
abbrev JD:=List (List ZS×V)
def Yj(c:Int)(n:Str):List ZS:=[.inl c,.inr n]
def brk(kvs:JD)(c:Int)(n:Str):Bool:=(Zy kvs (Yj c n)).isSome
def keep(br:Int->Str->Bool)(c:Int)(sd:Vd):Vd:=sd.filter fun p=>!br c p.1
def DQ(br:Int->Str->Bool)(c:Int)(sd:Vd):Int:=(wts (keep br c sd)).sum
inductive TX(vs:List V)(H:Hp)(Q:VK)(z3:XK):Prop
 |mk(c) (v) (g) (sd) (kvs)(_:vs = [.int c,v,.ref g])(_:YJ H sd v)(_:YQ sd)(_:H g=some (.dT kvs))(_:∀H',ZA H H'->Q (.int (DQ (brk kvs) c sd)) H')
theorem MV{br:Int->Str->Bool}{c:Int}{sd:Vd}{i:Nat}{p:Str×Int}(h:sd[i]? = some p):keep br c (sd.take (i+1))=keep br c (sd.take i)++(if br c p.1 then [] else [p]):=by
 unfold keep;rw[xV,h,zF];cases e:br c p.1<;>simp[e]
abbrev Cu:Stmt:=top 51
theorem bL:Nm (Zp Cu) "case" .cell:=by decide +kernel
theorem Sz:Nm (Zp Cu) "gone" .cell:=by decide +kernel
theorem Rh(Zhd:YC K mg "kept_weight" Cu)(T:Txt mg):Fn P w K mg base "kept_weight" ["case","side","gone"] 1 TX:=by
 refine Zhd.fq ["case","side","gone"] fun H vs Q E hr h=>?_;obtain⟨c,v,g,sd,kvs,rfl,⟨a,vs,rfl,ha,hrs⟩,hL,hg,k⟩:=h
 refine⟨rfl,_,(Zf (Zt (Z3 (CJ (by rfl)) T.sum Ds (Za (V1 (locs:=["name","weight"]) (fr:=[("case", 0),("gone", 2)]) ⟨rfl,by decide +kernel,by decide +kernel,by decide +kernel,by decide +kernel,by decide +kernel⟩ (.consN bL (.consN Sz .nil)) rfl (Wb Q1) ⟨fun _ _ _ _ _ _=>by
  have cnd:(inN ["name","weight"] [("case", 0),("gone", 2)]).Nodup:=by decide +kernel
  exact⟨(BL 2 (by rfl) (Wo (Wp 0 cnd) (Wo (Wp 1 cnd) Ju))),(AV (Zr (E7 hr) (Z9 (Za (Vr 2) (Za (Y5 0) Zb))) (Vr 3) rfl)),(Y5 1)⟩⟩) Zb)))),?_⟩
 have hz:(2000:Nat)<=sizeLine:=by decide
 have hvl:=hrs.len;have hl60:=hL.2;refine⟨_,rfl,a,rfl,⟨_,ZE.of ha⟩,?_⟩;refine Jm (xs:=vs) (fun i ys H'=>ZA H H'/\ys=(wts (keep (brk kvs) c (sd.take i))).map V.int) ⟨fun _ _ e=>e,rfl⟩ (by lia) (fun i ys H' _ ⟨e,_⟩=>ZE.of (e _ _ ha)) ?_ ?_ ?_
 ·rintro i ys H' ⟨_,rfl⟩;unfold wts keep;rw[xA,xA];refine xX (yO _ _) ?_;rw[xU];lia
 ·rintro i x ys H' hx ⟨sm,rfl⟩ ls hls;obtain⟨w1,w2,rfl⟩:=Dm hls;obtain⟨p,b,hp,rfl,hb⟩:=hrs.get hx;refine⟨b,_,rfl,ZT.of (sm _ _ hb),rfl,_,_,rfl,_,_,rfl,rfl,⟨[_,_],rfl,rfl⟩,?_⟩;refine⟨_,rfl,_,rfl,by show 2<=sizeLine;lia,fun q hq=>?_⟩;have S1:=ZA.new (o:=.tup [.int c,.str p.1]) hq;have k1:(upd H' q (.tup [.int c,.str p.1])) q=some (.tup [.int c,.str p.1]):=Zg;generalize (upd H' q (.tup [.int c,.str p.1]))=H1 at S1 k1 ⊢;refine⟨_,rfl,g,_,rfl,ZZ.t (S1 _ _ (sm _ _ hg)) (k:=Yj c p.1) k1,_,rfl,?_⟩;have e:=MV (br:=brk kvs) (c:=c) hp;show if (!brk kvs c p.1)=true then _ else _
  cases hb':brk kvs c p.1 with
  | true =>
   rw[hb',if_pos rfl,yD] at e;refine Z1 ?_;exact⟨sm.trans S1,by rw[e]⟩
  | false =>
   rw[hb',if_neg xM] at e;refine Z8 ?_;refine⟨_,rfl,sm.trans S1,?_⟩;rw[e];unfold wts;rw[xO,xO];rfl
 ·rintro ys H' ⟨sm,rfl⟩ l hl';rw[hvl,yC];refine⟨l,wts (keep (brk kvs) c sd),rfl,ZE.of Zg,fun n hn=>?_,?_,k _ (sm.trans (ZA.new hl'))⟩
  ·obtain⟨p,hp,rfl⟩:=yY.mp hn;exact hL.bnd _ (yY.mpr ⟨p,(List.mem_filter.mp hp).1,rfl⟩)
  ·unfold wts keep;rw[xA];exact xX (yO _ _) (by lia)
def Aw(br:Int->Str->Bool)(c:Int)(t:ZW):Int:=DQ br c t.ones - DQ br c t.others - t.need
def ZU(H:Hp)(ss:List ZW)(l:eF):Prop:=∃us,H l=some (.lst us)/\ZP H (ss.map Wj) us
theorem ZU.mono(h:ZU H ss l)(k:ZA H H'):ZU H' ss l:=let ⟨us,a,b⟩:=h;⟨us,k _ _ a,b.mono' k⟩
theorem ZU.get{H:Hp}{ss:List ZW}{l:eF}{us:List V}{i:Nat}{t:ZW}(b:ZP H (ss.map Wj) us)(ht:ss[i]? = some t) :
  ∃ta u1 u2 u4,us[i]? = some (.ref ta)/\H ta=some (.tup [u1,u2,.int t.need,u4])/\YJ H t.ones u1/\YJ H t.others u2/\YA H (Bp t.named) u4:=by
 have hl:=b.length;rw[xA] at hl;have hi:i < us.length:=by rw[hl];exact(xH.mp ht).1
 have hu:us[i]? = some us[i]:=xB hi;obtain⟨d,hd,hr⟩:=b.get hu;rw[xI,ht] at hd;cases hd;obtain⟨ta,u1,u2,u4,e,h1,h2,h3,h4⟩:=Kx hr;exact⟨ta,u1,u2,u4,by rw[hu,e],h1,h2,h3,h4⟩
inductive UM(vs:List V)(H:Hp)(Q:VK)(z3:XK):Prop
 |mk(l g:eF) (c:Nat) (ss:List ZW) (t:ZW) (kvs:JD)(_:vs = [.ref l,.int c,.ref g])(_:ZU H ss l)(_:ss[c]? = some t)(_:Uh t)(_:H g=some (.dT kvs))(_:∀H',ZA H H'->Q (.int (Aw (brk kvs) c t)) H')
abbrev KF:Stmt:=top 50
theorem RT(Zhe:YC K mg "margin_without" KF)(T:Txt mg)(C0:∃t,mg "ONES" = some (.int 0 t))(C1:∃t,mg "OTHERS" = some (.int 1 t))(C2:∃t,mg "NEED" = some (.int 2 t))(Znu:Fn P w K mg base "kept_weight" ["case","side","gone"] 1 TX):Fn P w K mg base "margin_without" ["suits","case","gone"] 2 UM:=by
 obtain⟨t0,c_ONES⟩:=C0;obtain⟨t1,c_OTHERS⟩:=C1;obtain⟨t2,c_NEED⟩:=C2;have r_ONES:ZG (.int 0) (.int 0 t0):=⟨t0,rfl⟩;have r_OTHERS:ZG (.int 1) (.int 1 t1):=⟨t1,rfl⟩;have r_NEED:ZG (.int 2) (.int 2 t2):=⟨t2,rfl⟩;refine Zhe.fq ["suits","case","gone","suit"] fun H vs Q E hr h=>?_;obtain⟨l,g,c,ss,t,kvs,rfl,⟨us,hl,hrep⟩,ht,⟨L1,L2',_,_⟩,hg,k⟩:=h;refine⟨rfl,_,(Zc (Zz 3 (Zi Yb Q0 Q1 (fun _ _=>rfl))) (Zf (Zt (Z2 Ah (Z2 Ah (Zj Znu (Za Q1 (Za (Zi Zv Q3 (Y4 c_ONES r_ONES) (fun _ _=>rfl)) (Za Q2 Zb)))) (Zj Znu (Za Q1 (Za (Zi Zv Q3 (Y4 c_OTHERS r_OTHERS) (fun _ _=>rfl)) (Za Q2 Zb))))) (Zi Zv Q3 (Y4 c_NEED r_NEED) (fun _ _=>rfl)))))),?_⟩;obtain⟨ta,u1,u2,u4,hu,hta,h1,h2,h4⟩:=ZU.get (l:=l) hrep ht;refine⟨_,rfl,_,rfl,l,us,c,.ref ta,rfl,rfl,ZE.of hl,Y8 hu,?_⟩;refine⟨_,rfl,_,rfl,ta,_,0,u1,rfl,rfl,ZT.of hta,rfl,_,rfl,c,u1,g,t.ones,kvs,rfl,h1,L1,hg,fun H1 s1=>?_⟩;refine⟨_,rfl,_,rfl,ta,_,1,u2,rfl,rfl,ZT.of (s1 _ _ hta),rfl,_,rfl,c,u2,g,t.others,kvs,rfl,h2.mono s1,L2',s1 _ _ hg,fun H2 s2=>?_⟩;refine⟨_,_,rfl,rfl,_,rfl,ta,_,2,_,rfl,rfl,ZT.of (s2 _ _ (s1 _ _ hta)),rfl,_,_,rfl,rfl,k H2 (s1.trans s2)⟩
abbrev Dw:=Int×Str
def Wl(more:List Dw):Nat->List ZW->List Bool×List Dw
 | _,[]=>([],more)
 | i,t::r =>
  (decide (0<=Aw (fun c n=>decide ((c,n)∈(Wl more (i+1) r).2)) i t)::(Wl more (i+1) r).1,
   if decide (0<=Aw (fun c n=>decide ((c,n)∈(Wl more (i+1) r).2)) i t)=true then (Wl more (i+1) r).2++t.named.toList else (Wl more (i+1) r).2)
theorem Fc(more:List Dw):∀ss i,(Wl more i ss).1.length=ss.length
 | [],_=>rfl
 | t::r,i=>by rw[Wl,yE,Fc more r (i+1),yE]
def WU(kvs:JD)(gn:List Dw):Prop:=∀c n,brk kvs c n=decide ((c,n)∈gn)
theorem WU.put(h:WU kvs gn):WU (Z5 kvs (Yj c n) v) (gn ++ [(c,n)]):=by
 intro c' n';unfold brk;rw[Ue]
 by_cases e:Yj c' n'=Yj c n
 ·rw[if_pos e];have e':(c',n')=(c,n):=by
   unfold Yj at e;injection e with e1 e2
   injection e2 with e2 _
   cases e1;cases e2;rfl
  rw[e'];exact(yN (xF _ (xT.mpr rfl))).symm
 ·rw[if_neg e];refine(h c' n').trans ?_;have e':¬(c',n')=(c,n):=fun z=>e (by injection z with z1 z2;rw[z1,z2]);have:((c',n')∈gn ++ [(c,n)])↔((c',n')∈gn):=by rw[xL,xT];exact⟨fun z=>z.elim id (fun z=>absurd z e'),.inl⟩
  rw[decide_eq_decide];exact this.symm
theorem Km(r:List Bool)(b:Bool):∀c:Nat,((List.replicate (c+1) false++r).map V.bl).set c (.bl b)=(List.replicate c false++(b::r)).map V.bl
 | 0=>rfl
 | c+1=>by
  rw[yQ,yF,yI,List.set_cons_succ,Km r b c,yQ,yF,yI]
theorem Fz(r:List Bool)(b:Bool):∀c:Nat,((List.replicate c false++(b::r)).map V.bl)[c]? = some (.bl b)
 | 0=>rfl
 | c+1=>by
  rw[yQ,yF,yI,List.getElem?_cons_succ];exact Fz r b c
theorem cB(h:c < n):ixN n (c:Int)=some c:=by
 unfold ixN;rw[if_pos (by lia),if_pos (by lia),yR]
inductive Te(vs:List V)(H:Hp)(Q:VK)(z3:XK):Prop
 |mk(l m) (ss) (ms) (more)(_:vs = [.ref l,.ref m])(_:ZU H ss l)(_:(∀t∈ss,Uh t))(_:ss.length<=1000)(_:H m=some (.lst ms))(_:ZP H (more.map fun x=>Bp (some x)) ms)(_:more.length<=1000)(_:∀l2 H',H l2=none->H' l2=some (.lst ((Wl more 0 ss).1.map V.bl))->ZA H H'->Q (.ref l2) H')
abbrev HW:Stmt:=top 43
theorem Xb(Zhf:YC K mg "settled_with" HW)(T:Txt mg)(C3:∃t,mg "NAMED" = some (.int 3 t))(Z0z:Fn P w K mg base "margin_without" ["suits","case","gone"] 2 UM):Fn P w K mg base "settled_with" ["suits","more"] 3 Te:=by
 obtain⟨t3,c_NAMED⟩:=C3;have r_NAMED:ZG (.int 3) (.int 3 t3):=⟨t3,rfl⟩;refine Zhf.fq ["suits","more","gone","oath","standing","case"] fun H vs Q E hr h=>?_;obtain⟨l,m,ss,ms,more,rfl,hsu,hok,hlen,hm,hms,hml,k⟩:=h;refine⟨rfl,_,(Zc (Zz 2 KN) (Zc (Ws PassesOwn.never rfl (Wb Q1) (Yt 3) (Zf (JI hr Q2 Q3 Uf))) (Zc (Zz 4 (Z2 LU (Yl (Za Uf Zb)) (Z3 Yv T.len Yk (Za Q0 Zb)))) (Zc (Ws PassesOwn.never rfl (MZ T.range (Za (Z2 Ah (Z3 Yv T.len Yk (Za Q0 Zb)) Zd) (Za (J5 Jz Zd) (Za (J5 Jz Zd) Zb)))) (Yt 5) (Zc (J0 (Ut Af (Zj Z0z (Za Q0 (Za Q5 (Za Q2 Zb)))) Zd (Zu _)) (Bs Q4 Q5 Bm)) (Zf (Zo (QW.pt (Vv (Wt (Zi Yb Q4 Q5 (fun _ _=>rfl))) (Us (Zr JS (Zi Zv (Zi Yb Q0 Q5 (fun _ _=>rfl)) (Y4 c_NAMED r_NAMED) (fun _ _=>rfl)) Y3 (Zu _))))) (Zf (JI hr Q2 (Zi Zv (Zi Yb Q0 Q5 (fun _ _=>rfl)) (Y4 c_NAMED r_NAMED) (fun _ _=>rfl)) Uf)) Zn)))) (Zf (Zt Q4)))))),?_⟩;have hz:(5000:Nat)<=sizeLine:=by decide
 refine fun g hg=>?_;have S0:ZA H (upd H g (.dT [])):=ZA.new hg;have hml':ms.length=more.length:=by have:=hms.length;rw[xA] at this;exact this
 refine⟨_,rfl,m,rfl,⟨_,ZE.of (S0 _ _ hm)⟩,?_⟩;refine V0 ms (fun i σ H'=>∃(kvs:JD)(v3:Option V),σ = [some (.ref l),some (.ref m),some (.ref g),v3,none,none]/\H' g=some (.dT kvs)/\WU kvs (more.take i)/\kvs.length<=i/\ZA H H') ⟨[],none,rfl,Zg,fun c n=>rfl,xD _,S0⟩ (fun i σ H' _ ⟨_,_,_,_,_,_,e⟩=>ZE.of (e _ _ hm)) ?_ ?_
 ·rintro i x σ H' hx ⟨kvs,v3,rfl,hg',hgi,hkl,sm⟩;obtain⟨d,hd,hrd⟩:=hms.get hx;rw[xI] at hd;obtain⟨⟨c,n⟩,ho⟩:∃o,more[i]? = some o:=by cases e:more[i]? with | none=>rw[e] at hd;cases hd | some t=>exact⟨t,rfl⟩
  rw[ho] at hd;cases hd;obtain⟨b,bs,rfl,hb,⟨y1,r1,rfl,e1,⟨y2,r2,rfl,e2,e3⟩⟩⟩:=hrd;cases e1;cases e2;cases e3;have hi:i < ms.length:=(xH.mp hx).1;refine⟨_,rfl,_,rfl,g,_,rfl,YZ.t hg' (k:=Yj c n) (sm _ _ hb) (by lia),?_⟩;refine⟨_,_,rfl,Zg,?_,xX (Vz _ _ _) (by lia),?_⟩
  ·rw[xV,ho];exact hgi.put
  ·intro b' o e;rw[Ze (fun z=>by rw[z,hg] at e;cases e)];exact sm b' o e
 ·rintro σ H1 ⟨kvs,v3,rfl,hg1,hgi,hkl,sm1⟩;rw[hml',yC] at hgi;obtain⟨us,hl1,hrep1⟩:=hsu.mono sm1;have hul:us.length=ss.length:=by have:=hrep1.length;rw[xA] at this;exact this
  refine⟨by show 1<=sizeLine;lia,fun q hq=>?_⟩;have S2:=ZA.new (o:=.lst [.bl false]) hq;have k2:(upd H1 q (.lst [.bl false])) q=some (.lst [.bl false]):=Zg;generalize (upd H1 q (.lst [.bl false]))=H2 at S2 k2 ⊢;refine⟨_,rfl,l,us,rfl,.inl (ZE.of (S2 _ _ hl1)),q,_,_,rfl,rfl,k2,by lia,by lia,?_,fun st hst=>?_⟩
  ·rw[yR,hul];show 1 * ss.length<=sizeLine;lia
  have hstH:H st=none:=(sm1.trans S2).free hst;have hgst:g≠st:=fun z=>by rw[← z,S2 _ _ hg1] at hst;cases hst
  have S3:=ZA.new (o:=.lst (List.replicate (us.length:Int).toNat [V.bl false]).flatten) hst;have k3:(upd H2 st (.lst (List.replicate (us.length:Int).toNat [V.bl false]).flatten)) st=some (.lst ((List.replicate ss.length false).map V.bl)):=by
   rw[Zg,yR,hul];have:∀n:Nat,(List.replicate n [V.bl false]).flatten=(List.replicate n false).map V.bl:=by
    intro n
    induction n with
    | zero=>rfl
    | succ n ih=>rw[yQ,zO,ih,yQ,yI];rfl
   rw[this]
  generalize (upd H2 st (.lst (List.replicate (us.length:Int).toNat [V.bl false]).flatten))=H3 at S3 k3 ⊢;have S13:=S2.trans S3;have sm3:=sm1.trans S13;refine⟨_,rfl,l,us,rfl,.inl (ZE.of (S13 _ _ hl1)),_,_,rfl,rfl,_,rfl,_,rfl,_,_,rfl,⟨by lia,by lia,by decide,by decide⟩,?_⟩
  refine dQ ss.length (by lia) (fun i σ H'=>∃(kvs:JD)(v3 v5:Option V),σ = [some (.ref l),some (.ref m),some (.ref g),v3,some (.ref st),v5]/\
    H' st=some (.lst ((List.replicate (ss.length - i) false++(Wl more (ss.length - i) (ss.drop (ss.length - i))).1).map V.bl))/\H' g=some (.dT kvs)/\WU kvs (Wl more (ss.length - i) (ss.drop (ss.length - i))).2/\kvs.length<=1000+i/\ZA H H')
   ⟨kvs,_,none,rfl,?_,S13 _ _ hg1,?_,by lia,sm3⟩ ?_ ?_
  ·rw[Nat.sub_zero,List.drop_length,Wl,yD];exact k3
  ·rw[Nat.sub_zero,List.drop_length,Wl];exact hgi
  ·rintro i σ H' hi ⟨kvs,v3,v5,rfl,hst',hg',hgi',hkl',sm'⟩;obtain⟨c,hc⟩:∃c,ss.length - i=c+1:=⟨ss.length - i - 1,by lia⟩;have hc2:ss.length - (i+1)=c:=by lia
   have hcl:c < ss.length:=by lia
   have ec:((us.length:Int) - 1 - (i:Nat))=((c:Nat):Int):=by lia
   rw[hc] at hst' hgi';rw[ec,hc2];have ht:ss[c]? = some ss[c]:=xB hcl;have htm:ss[c]∈ss:=zE hcl;have ed:ss.drop c=ss[c]::ss.drop (c+1):=zR hcl;rw[ed];generalize ss[c]=t at ht htm ed ⊢;obtain⟨us',hl',hrep'⟩:=hsu.mono sm';have hg'':brk kvs=fun(a:Int) (n:Str)=>decide ((a,n)∈(Wl more (c+1) (ss.drop (c+1))).2):=funext fun a=>funext fun b=>hgi' a b;have hset:Wl more c (t::ss.drop (c+1))=(decide (0<=Aw (brk kvs) c t)::(Wl more (c+1) (ss.drop (c+1))).1,if decide (0<=Aw (brk kvs) c t)=true then (Wl more (c+1) (ss.drop (c+1))).2++t.named.toList else (Wl more (c+1) (ss.drop (c+1))).2):=by rw[hg'',Wl]
   rw[hset];generalize Wl more (c+1) (ss.drop (c+1))=R at hst' hgi' ⊢;refine⟨_,rfl,_,rfl,_,rfl,l,g,c,ss,t,kvs,rfl,hsu.mono sm',ht,hok t htm,hg',fun H4 s4=>?_⟩;have hst4:=s4 _ _ hst';refine⟨Aw (brk kvs) c t,0,rfl,rfl,_,rfl,_,rfl,st,_,c,c,rfl,rfl,hst4,?_,?_⟩
   ·exact cB (by rw[xA,xE,List.length_replicate];lia)
   dsimp only;generalize decide (0<=Aw (brk kvs) c t)=b;rw[Km];have sm5:ZA H (upd H4 st (.lst ((List.replicate c false++(b::R.1)).map V.bl))):=fun x o e=>by
    rw[Ze (fun z=>by rw[z,hstH] at e;cases e)];exact s4 _ _ (sm' _ _ e)
   have k5:(upd H4 st (.lst ((List.replicate c false++(b::R.1)).map V.bl))) st=some (.lst ((List.replicate c false++(b::R.1)).map V.bl)):=Zg;have hg5:(upd H4 st (.lst ((List.replicate c false++(b::R.1)).map V.bl))) g=some (.dT kvs):=by rw[Ze hgst];exact s4 _ _ hg'
   generalize (upd H4 st (.lst ((List.replicate c false++(b::R.1)).map V.bl)))=H5 at sm5 k5 hg5 ⊢;obtain⟨us5,hl5,hrep5⟩:=hsu.mono sm5;obtain⟨ta,u1,u2,u4,hu,hta,h1,h2,h4⟩:=ZU.get (l:=l) hrep5 ht;refine⟨_,rfl,_,rfl,st,_,c,.bl b,rfl,rfl,ZE.of k5,Y8 (Fz ..),b,rfl,?_⟩;cases b with
   | false =>
    refine Z1 (Z1 ?_);exact⟨kvs,_,_,rfl,k5,hg5,hgi',by lia,sm5⟩
   | true =>
    refine Z8 ?_;refine⟨_,rfl,_,rfl,l,us5,c,.ref ta,rfl,rfl,ZE.of hl5,Y8 hu,ta,_,3,u4,rfl,rfl,ZT.of hta,rfl,rfl,_,rfl,?_⟩;cases hn:t.named with
    | none =>
     rw[hn] at h4;cases h4;refine Z1 ?_;exact⟨kvs,_,_,rfl,k5,hg5,by show WU kvs (R.2 ++ []);rw[yD];exact hgi',by lia,sm5⟩
    | some o =>
     rw[hn] at h4;obtain⟨oc,on⟩:=o;obtain⟨d,bs,rfl,hb,⟨y1,r1,rfl,e1,⟨y2,r2,rfl,e2,e3⟩⟩⟩:=h4;cases e1;cases e2;cases e3;refine Z8 ?_;refine⟨_,rfl,_,rfl,_,rfl,l,us5,c,.ref ta,rfl,rfl,ZE.of hl5,Y8 hu,ta,_,3,.ref d,rfl,rfl,ZT.of hta,rfl,?_⟩;refine⟨g,_,rfl,YZ.t hg5 (k:=Yj oc on) hb (by lia),?_⟩;refine⟨_,_,_,rfl,by rw[Ze hgst.symm];exact k5,Zg,hgi'.put,xX (Vz _ _ _) (by lia),?_⟩;intro b' o e;rw[Ze (fun z=>by rw[z,hg] at e;cases e)];exact sm5 b' o e
  ·rintro σ H' ⟨kvs,v3,v5,rfl,hst',hg',hgi',hkl',sm'⟩;rw[Nat.sub_self] at hst';exact⟨_,rfl,k st H' hstH hst' sm'⟩
inductive UP(vs:List V)(H:Hp)(Q:VK)(z3:XK):Prop
 |mk(l) (ss)(_:vs = [.ref l])(_:ZU H ss l)(_:(∀t∈ss,Uh t))(_:ss.length<=1000)(_:∀l2 H',H l2=none->H' l2=some (.lst ((Wl [] 0 ss).1.map V.bl))->ZA H H'->Q (.ref l2) H')
abbrev Kj:Stmt:=top 42
theorem X9(Zhg:YC K mg "settled" Kj)(T:Txt mg)(Z01:Fn P w K mg base "settled_with" ["suits","more"] 3 Te):Fn P w K mg base "settled" ["suits"] 4 UP:=by
 refine Zhg.fq ["suits"] fun H vs Q E hr h=>?_;obtain⟨l,ss,rfl,hsu,hok,hlen,k⟩:=h;refine⟨rfl,_,(Zf (Zt (Zj Z01 (Za Q0 (Za (Yl Zb) Zb))))),?_⟩;refine⟨_,rfl,by show 0<=sizeLine;lia,fun q hq=>?_⟩;have S:=ZA.new (o:=.lst []) hq;exact⟨l,q,ss,[],[],rfl,hsu.mono S,hok,hlen,Zg,rfl,yL _,fun l2 H' h1 h2 h3=>k l2 H' (S.free h1) h2 (S.trans h3)⟩
def Vi(cs:List Nat):List V:=cs.map fun(c:Nat)=>V.int (c:Int)
def nmd(ss:List ZW)(c:Int)(n:Str)(j:Nat):Bool:=match ss[j]? with
 | some u=>decide (u.named=some (c,n))
 | none=>false
theorem nmd_iff:nmd ss c n j=true↔∃u,ss[j]? = some u/\u.named=some (c,n):=by
 unfold nmd;cases e:ss[j]? with
 | none=>exact⟨(fun z=>nomatch z),(fun⟨u,z,_⟩=>nomatch z)⟩
 | some u=>exact⟨fun z=>⟨u,rfl,of_decide_eq_true z⟩,fun⟨v,z,q⟩=>by cases z;exact yN q⟩
def Wr(ss:List ZW)(c:Int)(n:Str)(cs:List Nat):List Nat:=cs.filter (nmd ss c n)
theorem Cc{ss:List ZW}{c:Int}{n:Str}{cs:List Nat}{i j:Nat}(h:cs[i]? = some j):Wr ss c n (cs.take (i+1))=Wr ss c n (cs.take i)++(if nmd ss c n j then [j] else []):=by
 unfold Wr;rw[xV,h,zF];cases e:nmd ss c n j<;>simp[e]
theorem OW(ss:List ZW)(c:Int)(n:Str)(cs:List Nat):(Wr ss c n cs).length<=cs.length:=yO _ _
def Gi(H:Hp)(g:eF)(ss:List ZW)(cs:List Nat):Prop:=∃kvs:JD,H g=some (.dT kvs)/\kvs.length<=cs.length/\(∀p∈kvs,∃c n,p.1=Yj c n/\Wr ss c n cs ≠ [])/\∀c n,(Zy kvs (Yj c n)=none/\Wr ss c n cs = [])\/∃a,Zy kvs (Yj c n)=some (.ref a)/\H a=some (.lst (Vi (Wr ss c n cs)))
structure BN (H H':Hp) (g:eF) (ss:List ZW) (cs:List Nat) (kvs:JD):Prop where
 at_:H' g=some (.dT kvs)
 len:kvs.length<=cs.length
 keys:∀p∈kvs,∃c n,p.1=Yj c n/\Wr ss c n cs ≠ []
 no:∀c n,Zy kvs (Yj c n)=none->Wr ss c n cs = []
 yes:∀c n v,Zy kvs (Yj c n)=some v->∃a,v = .ref a/\H a=none/\a≠g/\H' a=some (.lst (Vi (Wr ss c n cs)))
 one:∀c n c' n' a,Zy kvs (Yj c n)=some (.ref a)->Zy kvs (Yj c' n')=some (.ref a)->(c,n)=(c',n')
inductive UH(vs:List V)(H:Hp)(Q:VK)(z3:XK):Prop
 |mk(l lc) (ss) (cs)(_:vs = [.ref l,.ref lc])(_:ZU H ss l)(_:cs.length<=1000)(_:(∀j∈cs,j < ss.length))(_:H lc=some (.lst (Vi cs)))(_:∀g H',H g=none->Gi H' g ss cs->(∀kvs c n a,H' g=some (.dT kvs)->Zy kvs (Yj c n)=some (.ref a)->H a=none)->ZA H H'->Q (.ref g) H')
theorem EG(e:Yj c n=Yj c' n'):(c,n)=(c',n'):=by
 unfold Yj at e;injection e with e1 e2
 injection e2 with e2 _
 cases e1;cases e2;rfl
theorem OX{l:JD}{k:List ZS}{v:V}{p:List ZS×V}(h:p∈Z5 l k v):p=(k,v)\/p∈l:=by
 unfold Z5 at h;split at h
 ·grind
 ·grind
abbrev Ih:Stmt:=top 47
theorem cC(Zhh:YC K mg "naming" Ih)(T:Txt mg)(C3:∃t,mg "NAMED" = some (.int 3 t)):Fn P w K mg base "naming" ["suits","cases"] 1 UH:=by
 obtain⟨t3,c_NAMED⟩:=C3;have r_NAMED:ZG (.int 3) (.int 3 t3):=⟨t3,rfl⟩;refine Zhh.fq ["suits","cases","named_by","case","oath"] fun H vs Q E hr h=>?_;obtain⟨l,lc,ss,cs,rfl,hsu,hlen,hcs,hlc,k⟩:=h;refine⟨rfl,_,(Zc (Zz 2 KN) (Zc (Ws PassesOwn.never rfl (Wb Q1) (Yt 3) (Zc (Zz 4 (Zi Zv (Zi Yb Q0 Q3 (fun _ _=>rfl)) (Y4 c_NAMED r_NAMED) (fun _ _=>rfl))) (Zf (Zo (Zr JS Q4 Y3 (Zu _)) (Zf (Zk (Y0 F.plainAttrs_list F.slot_list_append F.type_list_append Y9 (P0 hr Q2 Q4 (Yl Zb)) (Za Q3 Zb)))) Zn)))) (Zf (Zt Q2)))),?_⟩;have hz:(5000:Nat)<=sizeLine:=by decide
 refine fun g hg=>?_;have S0:ZA H (upd H g (.dT [])):=ZA.new hg;refine⟨_,rfl,lc,rfl,⟨_,ZE.of (S0 _ _ hlc)⟩,?_⟩;refine V0 (Vi cs) (fun i σ H'=>∃(kvs:JD)(v3 v4:Option V),σ = [some (.ref l),some (.ref lc),some (.ref g),v3,v4]/\BN H H' g ss (cs.take i) kvs/\ZA H H') ⟨[],none,none,rfl,⟨Zg,xD _,(fun p hp=>nomatch hp),fun c n _=>rfl,(fun c n v e=>nomatch e),(fun c n c' n' a e=>nomatch e)⟩,S0⟩ (fun i σ H' _ ⟨_,_,_,_,_,e⟩=>ZE.of (e _ _ hlc)) ?_ ?_
 ·rintro i x σ H' hx ⟨kvs,v3,v4,rfl,I,sm⟩;have hi:i < cs.length:=by
   have:=(xH.mp hx).1;unfold Vi at this;rw[xA] at this;exact this
  obtain⟨j,hcj,ex⟩:∃j,cs[i]? = some j/\x = .int (j:Int):=by
   unfold Vi at hx;rw[xI] at hx;obtain⟨j,h1,h2⟩:=xR.mp hx;exact⟨j,h1,h2.symm⟩
  subst ex;have tl:(cs.take i).length=i:=by rw[xU];lia
  have tl1:(cs.take (i+1)).length=i+1:=by rw[xU];lia
  have more:∀c n,Wr ss c n (cs.take i)≠ []->Wr ss c n (cs.take (i+1))≠ []:=fun c n h z=>by
   rw[Cc hcj] at z;exact h (List.append_eq_nil_iff.mp z).1
  have hlen':=I.len;rw[tl] at hlen';obtain⟨t,ht⟩:∃t,ss[j]? = some t:=⟨_,xB (hcs j (xJ hcj))⟩;obtain⟨us,hl',hrep⟩:=hsu.mono sm;obtain⟨ta,u1,u2,u4,hu,hta,_,_,h4⟩:=ZU.get (l:=l) hrep ht;refine⟨_,rfl,_,rfl,l,us,j,.ref ta,rfl,rfl,ZE.of hl',Y8 hu,ta,_,3,u4,rfl,rfl,ZT.of hta,rfl,?_⟩;cases hn:t.named with
  | none =>
   rw[hn] at h4;cases h4;refine⟨_,rfl,rfl,_,rfl,Vp (fun z=>absurd rfl z) (fun _=>?_)⟩;have same:∀c n,Wr ss c n (cs.take (i+1))=Wr ss c n (cs.take i):=fun c n=>by
    rw[Cc hcj];have:nmd ss c n j=false:=by
     cases e:nmd ss c n j with
     | false=>rfl
     | true=>obtain⟨u,q1,q2⟩:=nmd_iff.mp e;rw[ht] at q1;cases q1;rw[hn] at q2;cases q2
    rw[this,if_neg xM,yD]
   exact⟨kvs,_,_,rfl,⟨I.at_,by lia,fun p hp=>let ⟨c,n,e,h⟩:=I.keys p hp;⟨c,n,e,more c n h⟩,fun c n e=>by rw[same];exact I.no c n e,fun c n v e=>by rw[same];exact I.yes c n v e,I.one⟩,sm⟩
  | some o =>
   rw[hn] at h4;obtain⟨c0,n0⟩:=o;obtain⟨b,bs,rfl,hb,⟨y1,r1,rfl,e1,⟨y2,r2,rfl,e2,e3⟩⟩⟩:=h4;cases e1;cases e2;cases e3;have mine:Wr ss c0 n0 (cs.take (i+1))=Wr ss c0 n0 (cs.take i)++[j]:=by rw[Cc hcj,nmd_iff.mpr ⟨t,ht,hn⟩,if_pos rfl]
   have same:∀c n,(c,n)≠(c0,n0)->Wr ss c n (cs.take (i+1))=Wr ss c n (cs.take i):=fun c n hne=>by
    rw[Cc hcj];have:nmd ss c n j=false:=by
     cases e:nmd ss c n j with
     | false=>rfl
     | true=>obtain⟨u,q1,q2⟩:=nmd_iff.mp e;rw[ht] at q1;cases q1;rw[hn] at q2;exact absurd (Option.some.inj q2).symm hne
    rw[this,if_neg xM,yD]
   have snocV:Vi (Wr ss c0 n0 (cs.take i))++[V.int j]=Vi (Wr ss c0 n0 (cs.take (i+1))):=by rw[mine];unfold Vi;rw[xO];rfl
   have jl:=OW ss c0 n0 (cs.take i);rw[tl] at jl;refine⟨_,rfl,rfl,_,rfl,Vp (fun _=>?_) (fun z=>nomatch z)⟩;refine⟨_,rfl,g,rfl,.inr ⟨kvs,.inl I.at_⟩,_,rfl,by show 0<=sizeLine;lia,fun q hq=>?_⟩;have Sq:=ZA.new (o:=.lst []) hq;have kq:(upd H' q (.lst [])) q=some (.lst []):=Zg;have gq:q≠g:=fun z=>by rw[z,I.at_] at hq;cases hq
   have hqH:H q=none:=sm.free hq;generalize (upd H' q (.lst []))=H1 at Sq kq ⊢;have smq:=sm.trans Sq;refine⟨kvs,Yj c0 n0,b,Sq _ _ I.at_,rfl,Sq _ _ hb,by lia,fun v hv=>?_,fun hv=>?_⟩
   ·obtain⟨a,rfl,haf,hag,ha⟩:=I.yes c0 n0 v hv;have ha1:=Sq _ _ ha;refine⟨.inl ⟨rfl,_,ZE.of ha1⟩,_,rfl,a,_,_,rfl,rfl,ha1,by unfold Vi;rw[xA];lia,?_⟩;refine⟨kvs,_,_,rfl,⟨?_,by lia,fun p hp=>let ⟨c,n,e,h⟩:=I.keys p hp;⟨c,n,e,more c n h⟩,fun c n e=>?_,fun c n v e=>?_,I.one⟩,?_⟩
    ·rw[Ze hag.symm];exact Sq _ _ I.at_
    ·rw[same c n (fun z=>by cases z;rw[hv] at e;cases e)];exact I.no c n e
    ·obtain⟨a',rfl,h1,h2,h3⟩:=I.yes c n v e;refine⟨a',rfl,h1,h2,?_⟩
     by_cases hk:(c,n)=(c0,n0)
     ·cases hk;rw[hv] at e;cases e;rw[Zg,snocV]
     ·rw[same c n hk,Ze (fun z=>hk (by rw[z] at e;exact I.one c n c0 n0 a e hv))];exact Sq _ _ h3
    ·intro b' o e;rw[Ze (fun z=>by rw[z,haf] at e;cases e)];exact smq b' o e
   ·have hg2:(upd H1 g (.dT (Z5 kvs (Yj c0 n0) (.ref q)))) q=some (.lst []):=by rw[Ze gq];exact kq
    refine⟨.inl ⟨rfl,_,ZE.of hg2⟩,_,rfl,q,_,_,rfl,rfl,hg2,by show 0 < sizeLine;lia,?_⟩;have j0:=I.no c0 n0 hv;refine⟨Z5 kvs (Yj c0 n0) (.ref q),_,_,rfl,⟨?_,xX (Vz _ _ _) (by lia),fun p hp=>?_,fun c n e=>?_,fun c n v e=>?_,fun c n c' n' a e e'=>?_⟩,?_⟩
    ·rw[Ze gq.symm,Zg]
    ·rcases OX hp with rfl | hp
     ·exact⟨c0,n0,rfl,by rw[mine];simp⟩
     ·obtain⟨c,n,e,h⟩:=I.keys p hp;exact⟨c,n,e,more c n h⟩
    ·rw[Ue] at e
     by_cases hk:Yj c n=Yj c0 n0
     ·rw[if_pos hk] at e;cases e
     ·rw[if_neg hk] at e;rw[same c n (fun z=>hk (by cases z;rfl))];exact I.no c n e
    ·rw[Ue] at e
     by_cases hk:Yj c n=Yj c0 n0
     ·rw[if_pos hk] at e;cases e;have hk':=EG hk;cases hk';exact⟨q,rfl,hqH,gq,by rw[Zg,mine,j0];rfl⟩
     ·rw[if_neg hk] at e;obtain⟨a',rfl,h1,h2,h3⟩:=I.yes c n v e;refine⟨a',rfl,h1,h2,?_⟩;have aq:a'≠q:=fun z=>by rw[z,hq] at h3;cases h3
      rw[same c n (fun z=>hk (by cases z;rfl)),Ze aq,Ze h2];exact Sq _ _ h3
    ·rw[Ue] at e e';have no:∀c n,Zy kvs (Yj c n)=some (.ref q)->False:=fun c n z=>by
      obtain⟨a',z1,_,_,h3⟩:=I.yes c n _ z;cases z1;rw[hq] at h3;cases h3
     by_cases hk:Yj c n=Yj c0 n0
     ·by_cases hk':Yj c' n'=Yj c0 n0
      ·exact(EG hk).trans (EG hk').symm
      ·rw[if_pos hk] at e;rw[if_neg hk'] at e';cases e;exact(no _ _ e').elim
     ·rw[if_neg hk] at e
      by_cases hk':Yj c' n'=Yj c0 n0
      ·rw[if_pos hk'] at e';cases e';exact(no _ _ e).elim
      ·rw[if_neg hk'] at e';exact I.one _ _ _ _ _ e e'
    ·intro b' o e;rw[Ze (fun z=>by rw[z,hqH] at e;cases e),Ze (fun z=>by rw[z,hg] at e;cases e)];exact smq b' o e
 ·rintro σ H' ⟨kvs,v3,v4,rfl,I,sm⟩;have el:(Vi cs).length=cs.length:=by unfold Vi;rw[xA]
  rw[el,yC] at I;refine⟨_,rfl,k g H' hg ⟨kvs,I.at_,I.len,I.keys,fun c n=>?_⟩ (fun kvs2 c n a e1 e2=>?_) sm⟩
  ·cases e:Zy kvs (Yj c n) with
   | none=>exact .inl ⟨rfl,I.no c n e⟩
   | some v =>
    obtain⟨a,rfl,_,_,h3⟩:=I.yes c n v e;exact .inr ⟨a,rfl,h3⟩
  ·rw[I.at_] at e1;cases e1;obtain⟨a',z,hz',_,_⟩:=I.yes c n _ e2;cases z;exact hz'
def stT(bs:List Bool)(i:Nat):List Nat:=(List.range i).filter fun j=>bs.getD j false
def stL(bs:List Bool):List Nat:=stT bs bs.length
theorem Nz{bs:List Bool}{i:Nat}{b:Bool}(h:bs[i]? = some b):stT bs (i+1)=stT bs i++(if b then [i] else []):=by
 unfold stT;rw[List.range_succ,zF];cases b<;>simp[h]
theorem Fq(bs:List Bool)(i:Nat):(stT bs i).length<=i:=xX (yO _ _) (by rw[List.length_range];exact xD _)
theorem stL_mem:j∈stL bs↔bs[j]? = some true:=by
 unfold stL stT;rw[List.mem_filter,List.mem_range,xZ];constructor
 ·grind
 ·intro h;exact⟨(xH.mp h).1,by rw[h];rfl⟩
abbrev Jn(ss:List ZW):List Bool:=(Wl [] 0 ss).1
def CK(ss:List ZW)(c:Int)(n:Str):List Nat:=Wr ss c n (stL (Jn ss))
inductive VH(vs:List V)(H:Hp)(Q:VK)(z3:XK):Prop
 |mk(l) (ss)(_:vs = [.ref l])(_:ZU H ss l)(_:(∀t∈ss,Uh t))(_:ss.length<=1000)(_:∀g H',H g=none->Gi H' g ss (stL (Jn ss))->(∀kvs c n a,H' g=some (.dT kvs)->Zy kvs (Yj c n)=some (.ref a)->H a=none)->ZA H H'->Q (.ref g) H')
abbrev Kl:Stmt:=top 46
theorem O5(Zhi:YC K mg "breaking" Kl)(T:Txt mg)(Zhj:Fn P w K mg base "settled" ["suits"] 4 UP)(Z04:Fn P w K mg base "naming" ["suits","cases"] 1 UH) :
  Fn P w K mg base "breaking" ["suits"] 5 VH:=by
 refine Zhi.fq ["suits"] fun H vs Q E hr h=>?_;obtain⟨l,ss,rfl,hsu,hok,hlen,k⟩:=h
 refine⟨rfl,_,(Zf (Zt (Zj Z04 (Za Q0 (Za (V1 (locs:=["case","stands"]) (fr:=[]) ⟨rfl,by decide +kernel,by decide +kernel,by decide +kernel,by decide +kernel,by decide +kernel⟩ .nil rfl (KA T.enumerate (Za (Zj Zhj (Za Q0 Zb)) Zb)) ⟨fun _ _ _ _ _ _=>by
  have cnd:(inN ["case","stands"] []).Nodup:=by decide +kernel
  exact⟨(BL 2 (by rfl) (Wo (Wp 0 cnd) (Wo (Wp 1 cnd) Ju))),(AV (Wt (Y5 1))),(Y5 0)⟩⟩) Zb))))),?_⟩
 refine⟨_,rfl,_,rfl,l,ss,rfl,hsu,hok,hlen,fun tl H1 h1 h2 sm1=>?_⟩;have hbl:(Jn ss).length=ss.length:=Fc [] ss 0;refine⟨tl,_,rfl,ZE.of h2,?_⟩;refine Ot ((Jn ss).map V.bl) (fun i ys H'=>ZA H1 H'/\ys=Vi (stT (Jn ss) i)) ⟨fun _ _ e=>e,rfl⟩ (by rw[xA];lia) (fun i ys H' _ ⟨e,_⟩=>ZE.of (e _ _ h2)) ?_ ?_ ?_
 ·rintro i ys H' ⟨_,rfl⟩;unfold Vi;rw[xA];exact Fq _ _
 ·rintro i x p ys H' hx ⟨sm,rfl⟩ hp ls hls;obtain⟨w1,w2,rfl⟩:=Dm hls;have Sp:=ZA.new (o:=.tup [.int i,x]) hp;have kp:(upd H' p (.tup [.int i,x])) p=some (.tup [.int i,x]):=Zg;generalize (upd H' p (.tup [.int i,x]))=H2 at Sp kp ⊢;obtain⟨b,hb,rfl⟩:∃b,(Jn ss)[i]? = some b/\x = .bl b:=by grind
  refine⟨p,_,rfl,ZT.of kp,rfl,_,_,rfl,_,_,rfl,rfl,⟨[_,_],rfl,rfl⟩,?_⟩;refine⟨_,rfl,b,rfl,?_⟩;have e:=Nz hb;cases b with
  | true =>
   refine Z8 ?_;refine⟨_,rfl,sm.trans Sp,?_⟩;rw[e];unfold Vi;rw[xO];rfl
  | false =>
   refine Z1 ?_;exact⟨sm.trans Sp,by rw[e];simp⟩
 ·rintro ys H' ⟨sm,rfl⟩ lc hlc;rw[xA];have Sc:=ZA.new (o:=.lst (Vi (stL (Jn ss)))) hlc;have S:=(sm1.trans sm).trans Sc;have hl9:=Fq (Jn ss) (Jn ss).length;refine⟨l,lc,ss,stL (Jn ss),rfl,hsu.mono S,by unfold stL;lia,fun j hj=>?_,Zg,fun g H2 hg hnb hfr sm2=>?_⟩
  ·rw[← hbl];exact(xH.mp (stL_mem.mp hj)).1
  ·exact k g H2 (S.free hg) hnb (fun kvs c n a e1 e2=>S.free (hfr kvs c n a e1 e2)) (S.trans sm2)
section
variable{K:uFg}{C CM:eF}
def fz(xs:eA)(H:Hp):Hp:=fun b=>if b∈xs then H b else match H b with
 | some (.tup t)=>some (.tup t)
 | _=>none
theorem AY(h:fz xs H b=some o):H b=some o/\(b∈xs\/∃t,o = .tup t):=by
 unfold fz at h;split at h
 ·rename_i m;exact⟨h,.inl m⟩
 ·split at h
  ·rename_i t e;cases h;exact⟨e,.inr ⟨t,rfl⟩⟩
  ·cases h
theorem V8(m:b∈xs)(h:H b=some o):fz xs H b=some o:=by unfold fz;rw[if_pos m];exact h
theorem Yz(h:H b=some (.tup t)):fz xs H b=some (.tup t):=by
 unfold fz;split
 ·exact h
 ·rw[h]
theorem ES:ZA (fz xs H) H:=fun _ _ e=>(AY e).1
theorem Wv(kt:Ug H H')(kx:∀x∈xs,∀o,H x=some o->H' x=some o)(s:∀x∈xs,x∈xs'):ZA (fz xs H) (fz xs' H'):=fun b o e=>by
 obtain⟨e,m | ⟨t,rfl⟩⟩:=AY e
 ·exact V8 (s b m) (kx b m o e)
 ·exact Yz (kt b t e)
def WB(H:Hp)(xs:eA)(l:eF)(ds:List D):Prop:=∃vs,H l=some (.lst vs)/\ZP (fz xs H) ds vs
theorem WB.mono(h:WB H xs l ds)(k:∀o,H l=some o->H' l=some o)(s:ZA (fz xs H) (fz xs' H')):WB H' xs' l ds :=
 let ⟨vs,a,b⟩:=h;⟨vs,k _ a,b.mono' s⟩
theorem WB.get(h:WB H xs l ds):∃vs,H l=some (.lst vs)/\ZP H ds vs/\vs.length=ds.length :=
 let ⟨vs,a,b⟩:=h;⟨vs,a,b.mono' ES,b.length⟩
structure ML where
 p:eF
 L:FL
 ld:eF
 lb:eF
 lh:eF
 lq:eF
 lt:eF
 ly:eF
 lv:eF
 dp:eF
def Wn(M:ML):List (Str×V):=Zq "penances" (.ref M.dp) (Zq "verdicts" (.ref M.lv) (Zq "trial_days" (.ref M.ly) (Zq "trials" (.ref M.lt) (Zq "debts" (.ref M.lq) (Zq "happenings" (.ref M.lh) (Zq "bringings" (.ref M.lb) (Zq "folk" (.ref M.L.p) (Zq "deeds" (.ref M.ld) []))))))))
local macro_rules | `(tactic| walk_at "mf")=>`(tactic| (unfold Wn;repeat (first | rw[Y1,if_pos (by decide +kernel)] | rw[Y1,if_neg (by decide +kernel)])))
theorem Ux(M:ML):(Wn M).lookup ("deeds" : Str)=some (.ref M.ld):=by walk_at "mf"
theorem Vm(M:ML):(Wn M).lookup ("folk" : Str)=some (.ref M.L.p):=by walk_at "mf"
theorem BJ(M:ML):(Wn M).lookup ("bringings" : Str)=some (.ref M.lb):=by walk_at "mf"
theorem E1(M:ML):(Wn M).lookup ("happenings" : Str)=some (.ref M.lh):=by walk_at "mf"
theorem IG(M:ML):(Wn M).lookup ("debts" : Str)=some (.ref M.lq):=by walk_at "mf"
theorem Ab(M:ML):(Wn M).lookup ("trials" : Str)=some (.ref M.lt):=by walk_at "mf"
theorem GK(M:ML):(Wn M).lookup ("trial_days" : Str)=some (.ref M.ly):=by walk_at "mf"
theorem Sv(M:ML):(Wn M).lookup ("verdicts" : Str)=some (.ref M.lv):=by walk_at "mf"
theorem Kz(M:ML):(Wn M).lookup ("penances" : Str)=some (.ref M.dp):=by walk_at "mf"
def ML.setv(M:ML)(l:eF):ML:={M with lv:=l }
theorem N4(M:ML)(l:eF):Zq "verdicts" (.ref l) (Wn M)=Wn (M.setv l):=by
 obtain⟨p,L,ld,lb,lh,lq,lt,ly,lv,dp⟩:=M;rfl
def DM(m:Str):Prop:=¬m = "penances" /\ ¬m = "verdicts" /\ ¬m = "trial_days" /\ ¬m = "trials" /\ ¬m = "debts" /\ ¬m = "happenings" /\ ¬m = "bringings" /\ ¬m = "folk" /\ ¬m = "deeds"
instance (m:Str):Decidable (DM m):=by unfold DM;exact inferInstance
theorem Yh(M:ML)(h:DM m:=by decide +kernel):(Wn M).lookup m=none:=by
 obtain⟨a1,a2,a3,a4,a5,a6,a7,a8,a9⟩:=h;unfold Wn;rw[Y1,if_neg a1,Y1,if_neg a2,Y1,if_neg a3,Y1,if_neg a4,Y1,if_neg a5,Y1,if_neg a6,Y1,if_neg a7,Y1,if_neg a8,Y1,if_neg a9];rfl
abbrev Qq:=YV
structure ZK (K:uFg) (C:eF):Prop where
 cl:UO K C
 nd:ZV K C "deeds"
 nf:ZV K C "folk"
 nb:ZV K C "bringings"
 nh:ZV K C "happenings"
 nq:ZV K C "debts"
 nt:ZV K C "trials"
 ny:ZV K C "trial_days"
 nv:ZV K C "verdicts"
 np:ZV K C "penances"
structure Mo where
 deeds:List D
 brs:List D
 haps:List (List D)
 debts:List D
 trials:List ZW
 days:List Int
 verd:List Bool
 pen:Str->Option Int
 npen:Nat
def ML.ls(M:ML):List eF:=[M.ld,M.lb,M.lq,M.lt,M.ly,M.lv]
def Mo.at_(m:Mo)(M:ML)(qs:eA):List (eF×List D) :=
 (M.ld,m.deeds)::(M.lb,m.brs)::(M.lq,m.debts)::(M.lt,m.trials.map Wj)::(M.ly,m.days.map D.int)::(M.lv,m.verd.map D.bl)::qs.zip m.haps
structure ZC (C CM:eF) (H:Hp) (M:ML) (ds:List ZI) (wa:dZ) (xs:eA) (m:Mo) (qs:eA):Prop where
 ob:∃dx,H M.p=some (.ins CM dx (Wn M))
 fk:Fk C H M.L ds wa
 ls:∀p∈m.at_ M qs,WB H xs p.1 p.2
 hl:H M.lh=some (.lst (qs.map V.ref))
 hn:qs.length=m.haps.length
 pn:∃kvs:List (ZS×V),H M.dp=some (.dK kvs)/\kvs.length<=m.npen/\∀n:Str,Zy kvs (.inr n)=(m.pen n).map V.int
 nl:(M.lh::(M.ls++qs)).Nodup
 nx:∀x∈xs,x∉M.lh::(M.ls++qs)
 xl:∀x∈xs,∃vs,H x=some (.lst vs)
 np:M.p≠M.L.p
 nd:¬own M.L ds wa M.dp
def mo(M:ML)(ds:List ZI)(wa:dZ)(xs qs:eA)(b:eF):Prop:=b=M.p\/b=M.dp\/b∈M.lh::(M.ls++qs)\/b∈xs\/own M.L ds wa b
variable{M:ML}{qs:eA}{m:Mo}
theorem Dk{p:eF×List D}(h:p∈m.at_ M qs):p.1∈M.ls++qs:=by
 unfold Mo.at_ at h;simp only[xC] at h;rcases h with rfl | rfl | rfl | rfl | rfl | rfl | h
 iterate 6 (refine yP _ ?_;unfold ML.ls;simp only[xC,true_or,or_true])
 exact xF _ (yZ h).1
theorem ZC.keep(h:ZC C CM H M ds wa xs m qs)(k:∀b o,mo M ds wa xs qs b->H b=some o->H' b=some o)(kt:Ug H H'):ZC C CM H' M ds wa xs m qs:=by
 obtain⟨⟨dx,ob⟩,fk,ls,hl,hn,⟨kvs,p1,p2,p3⟩,nl,nx,xl,np,nd⟩:=h;have s:=Wv (xs:=xs) (xs':=xs) kt (fun x hx o e=>k x o (.inr (.inr (.inr (.inl hx)))) e) (fun _ z=>z);exact⟨⟨dx,k _ _ (.inl rfl) ob⟩,fk.at fun b o hb e=>k b o (.inr (.inr (.inr (.inr hb)))) e,fun p hp=>(ls p hp).mono (fun o e=>k _ o (.inr (.inr (.inl (xN _ (Dk hp))))) e) s, k _ _ (.inr (.inr (.inl xY))) hl,hn,⟨kvs,k _ _ (.inr (.inl rfl)) p1,p2,p3⟩,nl,nx,fun x hx=>let ⟨vs,e⟩:=xl x hx;⟨vs,k _ _ (.inr (.inr (.inr (.inl hx)))) e⟩,np,nd⟩
theorem ZC.same(h:ZC C CM H M ds wa xs m qs)(k:ZA H H'):ZC C CM H' M ds wa xs m qs:=h.keep (fun b o _ e=>k b o e) fun _ _ e=>k _ _ e
theorem ZC.x(h:ZC C CM H M ds wa xs m qs)(hs:H s=some (.lst ys))(hn:¬mo M ds wa xs qs s)(k:ZF s H H'):ZC C CM H' M ds wa xs m qs :=
 h.keep (fun b o hb e=>k b o (fun z=>hn (z▸hb)) e) fun b ys e=>k b _ (fun z=>by rw[z,hs] at e;cases e) e
theorem ZC.nown(h:ZC C CM H M ds wa xs m qs)(e:H b=some (.lst ys)):¬own M.L ds wa b:=fun z=>by
 obtain⟨o,e',n1,_⟩:=h.fk.there z;rw[e] at e';cases e';exact n1 ys rfl
theorem ZC.pown(h:ZC C CM H M ds wa xs m qs):¬own M.L ds wa M.p:=fun z=>by
 obtain⟨dx,ob⟩:=h.ob;obtain⟨⟨_,⟨k1,c1,_⟩,⟨k2,w1,_⟩,⟨k3,d1,_⟩,⟨k4,h1,_⟩,_⟩,⟨⟨k5,x1,x2,x3⟩,_⟩,_⟩:=h.fk;rcases z with z | z | z | z | z | ⟨n,l,e,z⟩
 ·exact h.np z
 ·rw[z,c1] at ob;cases ob
 ·rw[z,w1] at ob;cases ob
 ·rw[z,d1] at ob;cases ob
 ·rw[z,h1] at ob;cases ob
 ·rw[z,(x3 n l e).2.1] at ob;cases ob
theorem ZC.folk(h:ZC C CM H M ds wa xs m qs)(F:Fk C H' M.L ds' wa')(t:VE M.L ds wa H H')(f:BY M.L ds wa ds' wa' H):ZC C CM H' M ds' wa' xs m qs:=by
 have T:=VE.lt h.fk t;have pw:=h.pown;obtain⟨⟨dx,ob⟩,fk,ls,hl,hn,⟨kvs,p1,p2,p3⟩,nl,nx,xl,np,nd⟩:=h;have s:=Wv (xs:=xs) (xs':=xs) T.2 (fun x hx o e=>by obtain⟨vs,e'⟩:=xl x hx;rw[e] at e';cases e';exact T.1 _ _ e) (fun _ z=>z)
 exact⟨⟨dx,t _ _ ob pw⟩,F,fun p hp=>by
  obtain⟨vs,a,b⟩:=ls p hp
  exact⟨vs,T.1 _ _ a,b.mono' s⟩,T.1 _ _ hl,hn,⟨kvs,t _ _ p1 nd,p2,p3⟩,nl,nx,fun x hx=>let ⟨vs,e⟩:=xl x hx;⟨vs,T.1 _ _ e⟩,np,fun z=>(f _ z).elim nd fun z=>by rw[p1] at z;cases z⟩
end
section
variable{M:ML}{qs:eA}
theorem CT{l:eF}(h:l∈M.ls++qs):l∈M.lh::(M.ls++qs):=xN _ h
theorem ZC.lst(h:ZC C CM H M ds wa xs m qs)(hl:l∈M.lh::(M.ls++qs)):∃ys,H l=some (.lst ys):=by
 rcases xC.mp hl with rfl | hl
 ·exact⟨_,h.hl⟩
 have:∃p∈m.at_ M qs,p.1=l:=by
  rcases xL.mp hl with z | z
  ·unfold ML.ls at z;simp only[xC,xS,or_false] at z;unfold Mo.at_;rcases z with rfl | rfl | rfl | rfl | rfl | rfl
   ·exact⟨(M.ld,m.deeds),by simp,rfl⟩
   ·exact⟨(M.lb,m.brs),by simp,rfl⟩
   ·exact⟨(M.lq,m.debts),by simp,rfl⟩
   ·exact⟨(M.lt,m.trials.map Wj),by simp,rfl⟩
   ·exact⟨(M.ly,m.days.map D.int),by simp,rfl⟩
   ·exact⟨(M.lv,m.verd.map D.bl),by simp,rfl⟩
  ·obtain⟨i,hi,e⟩:=List.getElem_of_mem z;have hi':i < m.haps.length:=h.hn▸hi;refine⟨(qs[i],m.haps[i]),?_,e⟩;have:(qs[i],m.haps[i])∈qs.zip m.haps:=xJ (i:=i) (by rw[zA];exact⟨xB hi,xB hi'⟩);exact xF [(M.ld,m.deeds),(M.lb,m.brs),(M.lq,m.debts),(M.lt,m.trials.map Wj),(M.ly,m.days.map D.int),(M.lv,m.verd.map D.bl)] this
 obtain⟨p,hp,rfl⟩:=this;obtain⟨vs,e,_⟩:=h.ls p hp;exact⟨vs,e⟩
theorem ZC.there(h:ZC C CM H M ds wa xs m qs)(hb:mo M ds wa xs qs b):∃o,H b=some o:=by
 rcases hb with rfl | rfl | hb | hb | hb
 ·obtain⟨dx,e⟩:=h.ob;exact⟨_,e⟩
 ·obtain⟨kvs,e,_⟩:=h.pn;exact⟨_,e⟩
 ·obtain⟨ys,e⟩:=h.lst hb;exact⟨_,e⟩
 ·obtain⟨ys,e⟩:=h.xl b hb;exact⟨_,e⟩
 ·obtain⟨o,e,_⟩:=h.fk.there hb;exact⟨o,e⟩
theorem ZC.put(h:ZC C CM H M ds wa xs m qs)(hl:l∈M.ls++qs)(e1:m'.haps.length=m.haps.length)(e2:m'.pen=m.pen)(e3:m'.npen=m.npen)(k:∀p∈m'.at_ M qs,(p∈m.at_ M qs/\p.1≠l)\/(p.1=l/\ZP (fz xs H) p.2 zs)):ZC C CM (upd H l (.lst zs)) M ds wa xs m' qs:=by
 obtain⟨ys,e⟩:=h.lst (CT hl);have nw:=h.nown e;have hh:=h;obtain⟨⟨dx,ob⟩,fk,ls,lh,hn,⟨kvs,p1,p2,p3⟩,nl,nx,xl,np,nd⟩:=h;have kt:Ug H (upd H l (.lst zs)):=HB e;have kx:∀x∈xs,x≠l:=fun x hx z=>nx x hx (z▸CT hl);have s:ZA (fz xs H) (fz xs (upd H l (.lst zs))):=Wv kt (fun x hx o e=>by rw[Ze (kx x hx)];exact e) (fun _ z=>z);have nh:M.lh≠l:=fun z=>(yJ.mp nl).1 (z▸hl)
 refine⟨⟨dx,by rw[Ze (fun z=>by rw[z,e] at ob;cases ob)];exact ob⟩,fk.at fun b o hb eb=>by rw[Ze (fun z:b=l=>nw (z▸hb))];exact eb,fun p hp=>?_,by rw[Ze nh];exact lh,by rw[e1];exact hn,
  ⟨kvs,by rw[Ze (fun z=>by rw[z,e] at p1;cases p1)];exact p1,by rw[e3];exact p2,by rw[e2];exact p3⟩,nl,nx,fun x hx=>?_,np,nd⟩
 ·rcases k p hp with⟨a,b⟩ | ⟨a,b⟩
  ·exact(ls p a).mono (fun o e=>by rw[Ze b];exact e) s
  ·exact⟨zs,by rw[a,Zg],b.mono' s⟩
 ·obtain⟨vs,e⟩:=xl x hx;exact⟨vs,by rw[Ze (kx x hx)];exact e⟩
theorem ZC.freeze(h:ZC C CM H M ds wa xs m qs)(e:H a=some (.lst vs))(n:a∉M.lh::(M.ls++qs)):ZC C CM H M ds wa (a::xs) m qs:=by
 obtain⟨ob,fk,ls,lh,hn,pn,nl,nx,xl,np,nd⟩:=h;have s:ZA (fz xs H) (fz (a::xs) H):=Wv (fun _ _ e=>e) (fun _ _ _ e=>e) (fun _ z=>xN _ z);exact⟨ob,fk,fun p hp=>(ls p hp).mono (fun _ e=>e) s,lh,hn,pn,nl,fun x hx=>(xC.mp hx).elim (fun z=>z▸n) (nx x),fun x hx=>(xC.mp hx).elim (fun z=>⟨vs,z▸e⟩) (xl x),np,nd⟩
theorem ZC.pena(h:ZC C CM H M ds wa xs m qs)(e:H M.dp=some (.dK kvs)) :
  ZC C CM (upd H M.dp (.dK (Z5 kvs (.inr n) (.int c)))) M ds wa xs {m with pen:=fun x=>if x=n then some c else m.pen x,npen:=m.npen+1 } qs:=by
 have hh:=h;obtain⟨⟨dx,ob⟩,fk,ls,lh,hn,⟨kvs',p1,p2,p3⟩,nl,nx,xl,np,nd⟩:=h;rw[e] at p1;cases p1;have ll:∀l∈M.lh::(M.ls++qs),l≠M.dp:=fun l hl z=>by obtain⟨ys,e'⟩:=hh.lst hl;rw[z,e] at e';cases e'
 have kt:Ug H (upd H M.dp (.dK (Z5 kvs (.inr n) (.int c)))):=fun b t eb=>by rw[Ze (fun z=>by rw[z,e] at eb;cases eb)];exact eb
 have kx:∀x∈xs,x≠M.dp:=fun x hx z=>by obtain⟨vs,e'⟩:=xl x hx;rw[z,e] at e';cases e'
 have s:ZA (fz xs H) (fz xs (upd H M.dp (.dK (Z5 kvs (.inr n) (.int c))))):=Wv kt (fun x hx o e=>by rw[Ze (kx x hx)];exact e) (fun _ z=>z)
 refine⟨⟨dx,by rw[Ze (fun z=>by rw[z,e] at ob;cases ob)];exact ob⟩,fk.at fun b o hb eb=>by rw[Ze (fun z:b=M.dp=>nd (z▸hb))];exact eb,fun p hp=>(ls p hp).mono (fun o e=>by rw[Ze (ll _ (CT (Dk hp)))];exact e) s,
  by rw[Ze (ll _ xY)];exact lh,hn,⟨_,Zg,xX (Vz _ _ _) (by show kvs.length+1<=m.npen+1;lia),fun x=>?_⟩,nl,nx,fun x hx=>?_,np,nd⟩
 ·rw[Ue];show _=(if x=n then some c else m.pen x).map V.int
  by_cases z:x=n
  ·rw[if_pos (by rw[z]),if_pos z];rfl
  ·rw[if_neg (fun y=>z (by injection y)),if_neg z];exact p3 x
 ·obtain⟨vs,e'⟩:=xl x hx;exact⟨vs,by rw[Ze (kx x hx)];exact e'⟩
theorem ZC.setv(h:ZC C CM H M ds wa xs m qs)(e:H M.p=some (.ins CM dx (Wn M)))(hl:H l=some (.lst (bs.map V.bl)))(n:¬mo M ds wa xs qs l) :
  ZC C CM (upd H M.p (.ins CM dx (Wn (M.setv l)))) (M.setv l) ds wa xs {m with verd:=bs } qs:=by
 have hh:=h;obtain⟨_,fk,ls,lh,hn,⟨kvs,p1,p2,p3⟩,nl,nx,xl,np,nd⟩:=h;have ll:∀l∈M.lh::(M.ls++qs),l≠M.p:=fun l hl z=>by obtain⟨ys,e'⟩:=hh.lst hl;rw[z,e] at e';cases e'
 have nlp:l≠M.p:=fun z=>n (.inl z);have kt:Ug H (upd H M.p (.ins CM dx (Wn (M.setv l)))):=fun b t eb=>by rw[Ze (fun z=>by rw[z,e] at eb;cases eb)];exact eb
 have kx:∀x∈xs,x≠M.p:=fun x hx z=>by obtain⟨vs,e'⟩:=xl x hx;rw[z,e] at e';cases e'
 have s:ZA (fz xs H) (fz xs (upd H M.p (.ins CM dx (Wn (M.setv l))))):=Wv kt (fun x hx o e=>by rw[Ze (kx x hx)];exact e) (fun _ z=>z);have pw:=hh.pown;have rb:∀(H:Hp)(bs:List Bool),ZP H (bs.map D.bl) (bs.map V.bl):=fun H bs=>by
  induction bs with
  | nil=>rfl
  | cons b r ih=>exact⟨_,_,rfl,rfl,ih⟩
 have nm:∀x,x∈M.lh::((M.setv l).ls++qs)->x∈M.lh::(M.ls++qs)\/x=l:=fun x hx=>by
  simp only[ML.ls,ML.setv,xC,xL,xS,or_false] at hx ⊢;rcases hx with z | (z | z | z | z | z | z) | z<;>simp[z]
 have nlm:l∉M.lh::(M.ls++qs):=fun z=>n (.inr (.inr (.inl z)))
 refine⟨⟨dx,Zg⟩,fk.at fun b o hb eb=>by rw[Ze (fun z:b=M.p=>pw (z▸hb))];exact eb,fun p hp=>?_,by show (upd H M.p _) M.lh=_;rw[Ze (ll _ xY)];exact lh,hn,
  ⟨kvs,by show (upd H M.p _) M.dp=_;rw[Ze (fun z=>by rw[z,e] at p1;cases p1)];exact p1,p2,p3⟩,?_,fun x hx z=>(nm x z).elim (nx x hx) (fun z=>n (.inr (.inr (.inr (.inl (z▸hx)))))),fun x hx=>?_,np,nd⟩
 ·by_cases z:p=(l,bs.map D.bl)
  ·subst z;exact⟨_,by show (upd H M.p _) l=_;rw[Ze nlp];exact hl,rb _ bs⟩
  ·have hp':p∈m.at_ M qs:=by
    simp only[Mo.at_,ML.setv,xC] at hp ⊢;rcases hp with y | y | y | y | y | y | y
    ·exact .inl y
    ·exact .inr (.inl y)
    ·exact .inr (.inr (.inl y))
    ·exact .inr (.inr (.inr (.inl y)))
    ·exact .inr (.inr (.inr (.inr (.inl y))))
    ·exact absurd y z
    ·exact .inr (.inr (.inr (.inr (.inr (.inr y)))))
   exact(ls p hp').mono (fun o e=>by rw[Ze (ll _ (CT (Dk hp')))];exact e) s
 ·simp only[ML.ls,ML.setv,yJ,xC,xL,yF,zI,not_or] at nl nlm ⊢;obtain⟨⟨a1,a2,a3,a4,a5,a6,a7⟩,⟨b2,b3,b4,b5,b6,b7⟩,⟨c3,c4,c5,c6,c7⟩,⟨d4,d5,d6,d7⟩,⟨f5,f6,f7⟩,⟨g6,g7⟩,k7,k8⟩:=nl;obtain⟨m0,m1,m2,m3,m4,m5,m6,m7⟩:=nlm;exact⟨⟨a1,a2,a3,a4,a5,Ne.symm m0,a7⟩,⟨b2,b3,b4,b5,Ne.symm m1,b7⟩,⟨c3,c4,c5,Ne.symm m2,c7⟩,⟨d4,d5,Ne.symm m3,d7⟩,⟨f5,Ne.symm m4,f7⟩,⟨Ne.symm m5,g7⟩,m7,k8⟩
 ·obtain⟨vs,e'⟩:=xl x hx;exact⟨vs,by rw[Ze (kx x hx)];exact e'⟩
end
theorem ZC.rep(h:ZC C CM H M ds wa xs m qs)(hp:(l,c)∈m.at_ M qs)(e:H l=some (.lst vs)):ZP (fz xs H) c vs:=by
 obtain⟨vs',e',r⟩:=h.ls _ hp;rw[e] at e';cases e';exact r
theorem ZC.deed(h:ZC C CM H M ds wa xs m qs)(e:H M.ld=some (.lst vs))(hd:YA (fz xs H) d v):ZC C CM (upd H M.ld (.lst (vs ++ [v]))) M ds wa xs {m with deeds:=m.deeds ++ [d] } qs:=by
 have r:=h.rep (l:=M.ld) (c:=m.deeds) (by simp[Mo.at_]) e;have nl:=h.nl;simp only[ML.ls,yJ,xC,xL,yF,zI,not_or] at nl;obtain⟨_,⟨b2,b3,b4,b5,b6,b7⟩,⟨c3,c4,c5,c6,c7⟩,⟨d4,d5,d6,d7⟩,⟨f5,f6,f7⟩,⟨g6,g7⟩,k7,k8⟩:=nl;refine h.put (l:=M.ld) (by simp[ML.ls]) rfl rfl rfl fun p hp=>?_;simp only[Mo.at_,xC] at hp ⊢;rcases hp with rfl | rfl | rfl | rfl | rfl | rfl | hp
 ·exact .inr ⟨rfl,r.snoc hd⟩
 ·exact .inl ⟨by simp,Ne.symm b2⟩
 ·exact .inl ⟨by simp,Ne.symm b3⟩
 ·exact .inl ⟨by simp,Ne.symm b4⟩
 ·exact .inl ⟨by simp,Ne.symm b5⟩
 ·exact .inl ⟨by simp,Ne.symm b6⟩
 ·exact .inl ⟨by simp[hp],fun z=>b7 (z▸(yZ hp).1)⟩
theorem ZC.debt(h:ZC C CM H M ds wa xs m qs)(e:H M.lq=some (.lst vs))(hd:YA (fz xs H) d v):ZC C CM (upd H M.lq (.lst (vs ++ [v]))) M ds wa xs {m with debts:=m.debts ++ [d] } qs:=by
 have r:=h.rep (l:=M.lq) (c:=m.debts) (by simp[Mo.at_]) e;have nl:=h.nl;simp only[ML.ls,yJ,xC,xL,yF,zI,not_or] at nl;obtain⟨_,⟨b2,b3,b4,b5,b6,b7⟩,⟨c3,c4,c5,c6,c7⟩,⟨d4,d5,d6,d7⟩,⟨f5,f6,f7⟩,⟨g6,g7⟩,k7,k8⟩:=nl;refine h.put (l:=M.lq) (by simp[ML.ls]) rfl rfl rfl fun p hp=>?_;simp only[Mo.at_,xC] at hp ⊢;rcases hp with rfl | rfl | rfl | rfl | rfl | rfl | hp
 ·exact .inl ⟨by simp,b3⟩
 ·exact .inl ⟨by simp,c3⟩
 ·exact .inr ⟨rfl,r.snoc hd⟩
 ·exact .inl ⟨by simp,Ne.symm d4⟩
 ·exact .inl ⟨by simp,Ne.symm d5⟩
 ·exact .inl ⟨by simp,Ne.symm d6⟩
 ·exact .inl ⟨by simp[hp],fun z=>d7 (z▸(yZ hp).1)⟩
theorem ZC.trial(h:ZC C CM H M ds wa xs m qs)(e:H M.lt=some (.lst vs))(hd:YA (fz xs H) (Wj d) v):ZC C CM (upd H M.lt (.lst (vs ++ [v]))) M ds wa xs {m with trials:=m.trials ++ [d] } qs:=by
 have r:=h.rep (l:=M.lt) (c:=m.trials.map Wj) (by simp[Mo.at_]) e;have nl:=h.nl;simp only[ML.ls,yJ,xC,xL,yF,zI,not_or] at nl;obtain⟨_,⟨b2,b3,b4,b5,b6,b7⟩,⟨c3,c4,c5,c6,c7⟩,⟨d4,d5,d6,d7⟩,⟨f5,f6,f7⟩,⟨g6,g7⟩,k7,k8⟩:=nl;refine h.put (l:=M.lt) (by simp[ML.ls]) rfl rfl rfl fun p hp=>?_;simp only[Mo.at_,xC] at hp ⊢;rcases hp with rfl | rfl | rfl | rfl | rfl | rfl | hp
 ·exact .inl ⟨by simp,b4⟩
 ·exact .inl ⟨by simp,c4⟩
 ·exact .inl ⟨by simp,d4⟩
 ·exact .inr ⟨rfl,by rw[xO];exact r.snoc hd⟩
 ·exact .inl ⟨by simp,Ne.symm f5⟩
 ·exact .inl ⟨by simp,Ne.symm f6⟩
 ·exact .inl ⟨by simp[hp],fun z=>f7 (z▸(yZ hp).1)⟩
theorem ZC.day(h:ZC C CM H M ds wa xs m qs)(e:H M.ly=some (.lst vs))(hd:YA (fz xs H) (.int d) v):ZC C CM (upd H M.ly (.lst (vs ++ [v]))) M ds wa xs {m with days:=m.days ++ [d] } qs:=by
 have r:=h.rep (l:=M.ly) (c:=m.days.map D.int) (by simp[Mo.at_]) e;have nl:=h.nl;simp only[ML.ls,yJ,xC,xL,yF,zI,not_or] at nl;obtain⟨_,⟨b2,b3,b4,b5,b6,b7⟩,⟨c3,c4,c5,c6,c7⟩,⟨d4,d5,d6,d7⟩,⟨f5,f6,f7⟩,⟨g6,g7⟩,k7,k8⟩:=nl;refine h.put (l:=M.ly) (by simp[ML.ls]) rfl rfl rfl fun p hp=>?_;simp only[Mo.at_,xC] at hp ⊢;rcases hp with rfl | rfl | rfl | rfl | rfl | rfl | hp
 ·exact .inl ⟨by simp,b5⟩
 ·exact .inl ⟨by simp,c5⟩
 ·exact .inl ⟨by simp,d5⟩
 ·exact .inl ⟨by simp,f5⟩
 ·exact .inr ⟨rfl,by rw[xO];exact r.snoc hd⟩
 ·exact .inl ⟨by simp,Ne.symm g6⟩
 ·exact .inl ⟨by simp[hp],fun z=>g7 (z▸(yZ hp).1)⟩
theorem ZC.brg(h:ZC C CM H M ds wa xs m qs)(e:H M.lb=some (.lst vs))(hd:YA (fz xs H) d v):ZC C CM (upd H M.lb (.lst (vs ++ [v]))) M ds wa xs {m with brs:=m.brs ++ [d] } qs:=by
 have r:=h.rep (l:=M.lb) (c:=m.brs) (by simp[Mo.at_]) e;have nl:=h.nl;simp only[ML.ls,yJ,xC,xL,yF,zI,not_or] at nl;obtain⟨_,⟨b2,b3,b4,b5,b6,b7⟩,⟨c3,c4,c5,c6,c7⟩,⟨d4,d5,d6,d7⟩,⟨f5,f6,f7⟩,⟨g6,g7⟩,k7,k8⟩:=nl;refine h.put (l:=M.lb) (by simp[ML.ls]) rfl rfl rfl fun p hp=>?_;simp only[Mo.at_,xC] at hp ⊢;rcases hp with rfl | rfl | rfl | rfl | rfl | rfl | hp
 ·exact .inl ⟨by simp,b2⟩
 ·exact .inr ⟨rfl,r.snoc hd⟩
 ·exact .inl ⟨by simp,Ne.symm c3⟩
 ·exact .inl ⟨by simp,Ne.symm c4⟩
 ·exact .inl ⟨by simp,Ne.symm c5⟩
 ·exact .inl ⟨by simp,Ne.symm c6⟩
 ·exact .inl ⟨by simp[hp],fun z=>c7 (z▸(yZ hp).1)⟩
theorem ZC.hap(h:ZC C CM H M ds wa xs m qs){q:eF}(hq:qs[i]? = some q)(hc:m.haps[i]? = some c)(e:H q=some (.lst vs))(hd:YA (fz xs H) d v) :
  ZC C CM (upd H q (.lst (vs ++ [v]))) M ds wa xs {m with haps:=m.haps.set i (c ++ [d]) } qs:=by
 have mq:q∈qs:=xJ hq;have mz:(q,c)∈qs.zip m.haps:=xJ (i:=i) (by rw[zA];exact⟨hq,hc⟩);have r:=h.rep (l:=q) (c:=c) (by simp[Mo.at_,mz]) e;have nl:=h.nl;simp only[ML.ls,yJ,xC,xL,yF,zI,not_or] at nl;obtain⟨_,⟨b2,b3,b4,b5,b6,b7⟩,⟨c3,c4,c5,c6,c7⟩,⟨d4,d5,d6,d7⟩,⟨f5,f6,f7⟩,⟨g6,g7⟩,k7,k8⟩:=nl;refine h.put (l:=q) (xF _ mq) (List.length_set ..) rfl rfl fun p hp=>?_;simp only[Mo.at_,xC] at hp ⊢;rcases hp with rfl | rfl | rfl | rfl | rfl | rfl | hp
 ·exact .inl ⟨by simp,fun z:M.ld=q=>b7 (z▸mq)⟩
 ·exact .inl ⟨by simp,fun z:M.lb=q=>c7 (z▸mq)⟩
 ·exact .inl ⟨by simp,fun z:M.lq=q=>d7 (z▸mq)⟩
 ·exact .inl ⟨by simp,fun z:M.lt=q=>f7 (z▸mq)⟩
 ·exact .inl ⟨by simp,fun z:M.ly=q=>g7 (z▸mq)⟩
 ·exact .inl ⟨by simp,fun z:M.lv=q=>k7 (z▸mq)⟩
 ·obtain⟨j,hj⟩:=List.getElem?_of_mem hp;rw[zA] at hj;obtain⟨j1,j2⟩:=hj
  by_cases z:i=j
  ·subst z;rw[hq] at j1;injection j1 with j1
   rw[List.getElem?_set_self (by
    rcases Nat.lt_or_ge i m.haps.length with y | y
    ·exact y
    ·rw[List.getElem?_eq_none y] at hc;cases hc)] at j2
   injection j2 with j2
   exact .inr ⟨j1.symm,by rw[← j2];exact r.snoc hd⟩
  ·rw[List.getElem?_set_ne z] at j2;refine .inl ⟨.inr (.inr (.inr (.inr (.inr (.inr (xJ (i:=j) (by rw[zA];exact⟨j1,j2⟩))))))),fun y=>z ?_⟩;have li:i < qs.length:=(xH.mp hq).1;exact(List.getElem?_inj li k8).mp (by rw[hq,j1,y])
theorem ZC.newq(h:ZC C CM H M ds wa xs m qs){q:eF}(hq:H q=some (.lst []))(n:¬mo M ds wa xs qs q) :
  ZC C CM (upd H M.lh (.lst ((qs ++ [q]).map V.ref))) M ds wa xs {m with haps:=m.haps ++ [[]] } (qs ++ [q]):=by
 have hh:=h;have nw:=h.nown h.hl;obtain⟨⟨dx,ob⟩,fk,ls,lh,hn,⟨kvs,p1,p2,p3⟩,nl,nx,xl,np,nd⟩:=h;have kt:Ug H (upd H M.lh (.lst ((qs ++ [q]).map V.ref))):=HB lh;have kx:∀x∈xs,x≠M.lh:=fun x hx z=>nx x hx (z▸xY);have s:ZA (fz xs H) (fz xs (upd H M.lh (.lst ((qs ++ [q]).map V.ref)))):=Wv kt (fun x hx o e=>by rw[Ze (kx x hx)];exact e) (fun _ z=>z);have nh:M.lh∉M.ls++qs:=(yJ.mp nl).1;have nq:q∉M.lh::(M.ls++qs):=fun z=>n (.inr (.inr (.inl z)));have nqh:q≠M.lh:=fun z=>nq (z▸xY)
 refine⟨⟨dx,by rw[Ze (fun z=>by rw[z,lh] at ob;cases ob)];exact ob⟩,fk.at fun b o hb eb=>by rw[Ze (fun z:b=M.lh=>nw (z▸hb))];exact eb,fun p hp=>?_,Zg,by rw[xE,hn];show _=(m.haps ++ [[]]).length;rw[xE];rfl,
  ⟨kvs,by rw[Ze (fun z=>by rw[z,lh] at p1;cases p1)];exact p1,p2,p3⟩,?_,fun x hx z=>?_,fun x hx=>?_,np,nd⟩
 ·by_cases z:p=(q,[])
  ·subst z;exact⟨[],by show (upd H M.lh _) q=_;rw[Ze nqh];exact hq,rfl⟩
  ·have hp':p∈m.at_ M qs:=by
    simp only[Mo.at_,xC] at hp ⊢;rw[List.zip_append hn] at hp;rcases hp with y | y | y | y | y | y | y
    ·exact .inl y
    ·exact .inr (.inl y)
    ·exact .inr (.inr (.inl y))
    ·exact .inr (.inr (.inr (.inl y)))
    ·exact .inr (.inr (.inr (.inr (.inl y))))
    ·exact .inr (.inr (.inr (.inr (.inr (.inl y)))))
    ·rcases xL.mp y with y | y
     ·exact .inr (.inr (.inr (.inr (.inr (.inr y)))))
     ·exact absurd (xT.mp y) z
   exact(ls p hp').mono (fun o e=>by rw[Ze (fun z:p.1=M.lh=>nh (z▸Dk hp'))];exact e) s
 ·grind
 ·rw[← yV,← yF] at z;rcases xL.mp z with z | z
  ·exact nx x hx z
  ·exact n (.inr (.inr (.inr (.inl (xT.mp z▸hx)))))
 ·obtain⟨vs,e'⟩:=xl x hx;exact⟨vs,by rw[Ze (kx x hx)];exact e'⟩
section
variable{C CM:eF}{c:dZ}
abbrev errs:List Str:=["NoName","NoMeasure","Unknown","Taken","NoThing","NoCase","NoOath","NotYet","Dead","NoHeir","TooMany","SwornTwice","Forsworn","TooLight","Broken","NoDeed"]
theorem Wx{d:Int}(h:d.natAbs<=1000000000000000000):d.natAbs.log2 < 1920:=by
 by_cases z:d.natAbs=0
 ·rw[z];decide +kernel
 ·rw[Nat.log2_lt z];exact yS h (by decide +kernel)
def okI(d:Int):Prop:=d.natAbs<=1000000000000000000
def due(E:XK)(c:dZ)(H:Hp)(k:Prop):Option Str->Prop
 | none=>k
 | some x=>E (.ref (c x)) none H
def eM(lo hi d:Int):Option Str:=if lo<=d/\d<=hi then none else some "NoMeasure"
inductive VM(lo hi:Int)(c:dZ)(vs:List V)(H:Hp)(Q:VK)(E:XK):Prop
 |mk(d)(_:vs = [.int d])(_:okI d)(_:due E c H (Q .non H) (eM lo hi d))
theorem O9(Zcs:YC K mg "check_day" EN)(C0:∃t,mg "LAST_DAY" = some (.int 9999 t))(er:Er K mg c errs):WA P w K mg base "check_day" 1 (VM 0 9999 c):=by
 obtain⟨t0,c_LAST_DAY⟩:=C0;have r_LAST_DAY:ZG (.int 9999) (.int 9999 t0):=⟨t0,rfl⟩;refine Zcs.fx ["day"] ["day"] fun H vs Q E hr h=>?_;obtain⟨d,rfl,hs,k⟩:=h;refine⟨rfl,_,(Zf (Zo (Vk (Al Wh Wh Zd Q0 (Y4 c_LAST_DAY r_LAST_DAY))) (Zf (Wa Yw er (We (Yx Q0 (Yp Wd))))) Zn)),?_⟩;unfold eM at k;refine⟨_,rfl,_,_,rfl,rfl,_,rfl,Z0 (fun h0=>?_) (fun z=>?_)⟩
 ·refine⟨_,_,rfl,rfl,_,rfl,Vp (fun z=>?_) (fun h1=>?_)⟩
  ·rw[if_neg (fun y=>z y.2)] at k;exact⟨_,rfl,.inr ⟨d,rfl,Wx hs⟩,by decide +kernel,fun _=>k⟩
  ·rw[if_pos ⟨h0,h1⟩] at k;exact k
 ·rw[if_neg (fun y=>z y.1)] at k;exact⟨false,rfl,Z8 ⟨_,rfl,.inr ⟨d,rfl,Wx hs⟩,by decide +kernel,fun _=>k⟩⟩
theorem Mx(Zct:YC K mg "check_weight" EA)(C0:∃t,mg "MOST_WEIGHT" = some (.int 1000 t))(er:Er K mg c errs):WA P w K mg base "check_weight" 1 (VM 1 1000 c):=by
 obtain⟨t0,c_MOST_WEIGHT⟩:=C0;have r_MOST_WEIGHT:ZG (.int 1000) (.int 1000 t0):=⟨t0,rfl⟩;refine Zct.fx ["weight"] ["weight"] fun H vs Q E hr h=>?_;obtain⟨d,rfl,hs,k⟩:=h;refine⟨rfl,_,(Zf (Zo (Vk (Al Wh Wh Zd Q0 (Y4 c_MOST_WEIGHT r_MOST_WEIGHT))) (Zf (Wa Yw er (We (Yx Q0 (Yp Wd))))) Zn)),?_⟩;unfold eM at k;refine⟨_,rfl,_,_,rfl,rfl,_,rfl,Z0 (fun h0=>?_) (fun z=>?_)⟩
 ·refine⟨_,_,rfl,rfl,_,rfl,Vp (fun z=>?_) (fun h1=>?_)⟩
  ·rw[if_neg (fun y=>z y.2)] at k;exact⟨_,rfl,.inr ⟨d,rfl,Wx hs⟩,by decide +kernel,fun _=>k⟩
  ·rw[if_pos ⟨h0,h1⟩] at k;exact k
 ·rw[if_neg (fun y=>z y.1)] at k;exact⟨false,rfl,Z8 ⟨_,rfl,.inr ⟨d,rfl,Wx hs⟩,by decide +kernel,fun _=>k⟩⟩
abbrev KI:Stmt:=top 28
theorem Xc(Zhl:YC K mg "check_need" KI)(C0:∃t,mg "MOST_NEED" = some (.int 12000 t))(er:Er K mg c errs):WA P w K mg base "check_need" 1 (VM 1 12000 c):=by
 obtain⟨t0,c_MOST_NEED⟩:=C0;have r_MOST_NEED:ZG (.int 12000) (.int 12000 t0):=⟨t0,rfl⟩;refine Zhl.fx ["need"] ["need"] fun H vs Q E hr h=>?_;obtain⟨d,rfl,hs,k⟩:=h;refine⟨rfl,_,(Zf (Zo (Vk (Al Wh Wh Zd Q0 (Y4 c_MOST_NEED r_MOST_NEED))) (Zf (Wa Yw er (We (Yx Q0 (Yp Wd))))) Zn)),?_⟩;unfold eM at k;refine⟨_,rfl,_,_,rfl,rfl,_,rfl,Z0 (fun h0=>?_) (fun z=>?_)⟩
 ·refine⟨_,_,rfl,rfl,_,rfl,Vp (fun z=>?_) (fun h1=>?_)⟩
  ·rw[if_neg (fun y=>z y.2)] at k;exact⟨_,rfl,.inr ⟨d,rfl,Wx hs⟩,by decide +kernel,fun _=>k⟩
  ·rw[if_pos ⟨h0,h1⟩] at k;exact k
 ·rw[if_neg (fun y=>z y.1)] at k;exact⟨false,rfl,Z8 ⟨_,rfl,.inr ⟨d,rfl,Wx hs⟩,by decide +kernel,fun _=>k⟩⟩
abbrev Hv:Stmt:=top 29
theorem QL(Zhm:YC K mg "check_money" Hv)(C0:∃t,mg "MOST_MONEY" = some (.int 1000000 t))(er:Er K mg c errs):WA P w K mg base "check_money" 1 (VM 1 1000000 c):=by
 obtain⟨t0,c_MOST_MONEY⟩:=C0;have r_MOST_MONEY:ZG (.int 1000000) (.int 1000000 t0):=⟨t0,rfl⟩;refine Zhm.fx ["many"] ["many"] fun H vs Q E hr h=>?_;obtain⟨d,rfl,hs,k⟩:=h;refine⟨rfl,_,(Zf (Zo (Vk (Al Wh Wh Zd Q0 (Y4 c_MOST_MONEY r_MOST_MONEY))) (Zf (Wa Yw er (We (Yx Q0 (Yp Wd))))) Zn)),?_⟩;unfold eM at k;refine⟨_,rfl,_,_,rfl,rfl,_,rfl,Z0 (fun h0=>?_) (fun z=>?_)⟩
 ·refine⟨_,_,rfl,rfl,_,rfl,Vp (fun z=>?_) (fun h1=>?_)⟩
  ·rw[if_neg (fun y=>z y.2)] at k;exact⟨_,rfl,.inr ⟨d,rfl,Wx hs⟩,by decide +kernel,fun _=>k⟩
  ·rw[if_pos ⟨h0,h1⟩] at k;exact k
 ·rw[if_neg (fun y=>z y.1)] at k;exact⟨false,rfl,Z8 ⟨_,rfl,.inr ⟨d,rfl,Wx hs⟩,by decide +kernel,fun _=>k⟩⟩
def Ve(ds:List ZI)(n:Str):Option Str:=if Zl ds n=none then some "Unknown" else none
inductive YR(C:eF)(c:dZ)(vs:List V)(H:Hp)(Q:VK)(E:XK):Prop
 |mk(L) (ds) (n)(_:vs = [.ref L.p,.str n])(_:ZR C H L ds)(_:n.length<=100)(_:due E c H (Q .non H) (Ve ds n))
theorem dG(Zc0:ZQ K C "check_known" "Folk.check_known" DK)(Tc:YV K C)(er:Er K mg c errs):ZY P w K mg base C "check_known" 1 (YR C c):=by
 refine Zc0.mx ["self","name"] ["self","name"] fun H vs Q E hr h=>?_;obtain⟨L,ds,n,rfl,F,ho,k⟩:=h;refine⟨rfl,_,(Zf (Zo (Zr (E7 hr) Q1 (Zw Q0) rfl) (Zf (Wa Yw er (We (Yp (Yx Q1 Wd))))) Zn)),?_⟩;obtain⟨dx,ob⟩:=F.ob;obtain⟨kvs,c1,c2,c3⟩:=F.c;refine⟨_,rfl,_,rfl,L.p,C,dx,_,_,rfl,ob,Tc.cl,Tc.nc,Jt _ _ _ _,L.dc,_,rfl,ZZ.k (k:=Sum.inr n) c1,_,rfl,?_⟩;unfold Ve at k;rw[c3];cases hn:Zl ds n with
 | none =>
  rw[if_pos hn] at k;exact Z8 ⟨by decide +kernel,_,rfl,.inl ⟨n,rfl,by lia⟩,fun _=>k⟩
 | some d =>
  rw[if_neg (by rw[hn];intro z;cases z)] at k;exact Z1 k
def Wm(d day:Int):Option Str:=if day < d then some "NotYet" else none
inductive WJ(C:eF)(c:dZ)(vs:List V)(H:Hp)(Q:VK)(E:XK):Prop
 |mk(L) (ds) (n) (d day)(_:vs = [.ref L.p,.str n,.int day])(_:ZR C H L ds)(_:Zl ds n=some d)(_:n.length<=100)(_:okI day)(_:due E c H (Q .non H) (Wm d day))
theorem NY(Zc1:ZQ K C "check_there" "Folk.check_there" DR)(Tc:YV K C)(er:Er K mg c errs):ZY P w K mg base C "check_there" 1 (WJ C c):=by
 refine Zc1.mx ["self","name","day"] ["self","name","day"] fun H vs Q E hr h=>?_;obtain⟨L,ds,n,d,day,rfl,F,hn,ho,hi,k⟩:=h;refine⟨rfl,_,(Zf (Zo (Zr Uu Q2 (Ar hr (Zw Q0) Q1 (fun _ _=>rfl)) (Zu _)) (Zf (Wa Yw er (We (Yx Q1 (Yp (Yx Q2 Wd)))))) Zn)),?_⟩;obtain⟨dx,ob⟩:=F.ob;obtain⟨kvs,c1,c2,c3⟩:=F.c;have g:=ZZ.k (k:=Sum.inr n) c1;rw[c3,hn] at g;refine⟨_,rfl,_,rfl,L.p,C,dx,_,_,rfl,ob,Tc.cl,Tc.nc,Jt _ _ _ _,_,rfl,L.dc,.int d,rfl,g,?_⟩;unfold Wm at k;refine⟨_,_,rfl,rfl,_,rfl,Z0 (fun z=>?_) (fun z=>?_)⟩
 ·rw[if_pos z] at k;exact⟨_,rfl,.inl ⟨n,rfl,by lia⟩,by decide +kernel,_,rfl,.inr ⟨day,rfl,Wx hi⟩,fun _=>k⟩
 ·rw[if_neg z] at k;exact k
def JX(ds:List ZI)(n:Str)(day:Int):Option Str:=if Vc ds n day=true then some "Dead" else none
inductive WR(C:eF)(c:dZ)(vs:List V)(H:Hp)(Q:VK)(E:XK):Prop
 |mk(L) (ds) (n) (day)(_:vs = [.ref L.p,.str n,.int day])(_:ZR C H L ds)(_:n.length<=100)(_:okI day)(_:due E c H (Q .non H) (JX ds n day))
theorem LA(Zc3:ZQ K C "check_living" "Folk.check_living" Eh)(Tc:YV K C)(er:Er K mg c errs)(M_died_by:Mt P w K mg base C "died_by" ["self","name","day"] 1 (YS C)):ZY P w K mg base C "check_living" 2 (WR C c):=by
 refine Zc3.mx ["self","name","day"] ["self","name","day"] fun H vs Q E hr h=>?_;obtain⟨L,ds,n,day,rfl,F,ho,hi,k⟩:=h;refine⟨rfl,_,(Zf (Zo (Wt (Yn Q0 Tc.cl M_died_by (Za Q1 (Za Q2 Zb)))) (Zf (Wa Yw er (We (Yx Q1 (Yp (Yx Q2 Wd)))))) Zn)),?_⟩;obtain⟨dx,ob⟩:=F.ob;refine⟨_,rfl,L.p,dx,_,rfl,ob,Ye _ _ _ _ (by decide +kernel),_,rfl,_,rfl,L,ds,n,day,rfl,F,_,rfl,?_⟩;unfold JX at k;cases hd:Vc ds n day with
 | true =>
  rw[if_pos hd] at k;exact Z8 ⟨_,rfl,.inl ⟨n,rfl,by lia⟩,by decide +kernel,_,rfl,.inr ⟨day,rfl,Wx hi⟩,fun _=>k⟩
 | false =>
  rw[if_neg (by rw[hd];decide)] at k;exact Z1 k
def Jw(ds:List ZI)(n:Str):Option Str:=if Zx ds n=none then none else some "Dead"
inductive WK(C:eF)(c:dZ)(vs:List V)(H:Hp)(Q:VK)(E:XK):Prop
 |mk(L) (ds) (n)(_:vs = [.ref L.p,.str n])(_:ZR C H L ds)(_:n.length<=100)(_:due E c H (Q .non H) (Jw ds n))
theorem XN(Zc5:ZQ K C "check_untold" "Folk.check_untold" E8)(Tc:YV K C)(er:Er K mg c errs):ZY P w K mg base C "check_untold" 1 (WK C c):=by
 refine Zc5.mx ["self","name"] ["self","name"] fun H vs Q E hr h=>?_;obtain⟨L,ds,n,rfl,F,ho,k⟩:=h;refine⟨rfl,_,(Zf (Zo (Zr (JV hr) Q1 (Zw Q0) rfl) (Zf (Wa Yw er (We (Yp (Yx Q1 (Yp Wd)))))) Zn)),?_⟩;obtain⟨dx,ob⟩:=F.ob;obtain⟨kvs,c1,c2,c3⟩:=F.d;refine⟨_,rfl,_,rfl,L.p,C,dx,_,_,rfl,ob,Tc.cl,Tc.nd,A0 _ _ _ _,L.dd,_,rfl,ZZ.k (k:=Sum.inr n) c1,_,rfl,?_⟩;unfold Jw at k;rw[c3];cases hn:Zx ds n with
 | none =>
  rw[if_pos hn] at k;exact Z1 k
 | some x =>
  rw[if_neg (by rw[hn];intro z;cases z)] at k;exact Z8 ⟨by decide +kernel,_,rfl,.inl ⟨n,rfl,by lia⟩,by decide +kernel,fun _=>k⟩
def okN(n:Str):Prop:=n.length<=100/\∀x∈n.cps.toList,x < 16 ^ 8
def Ui(ds:List ZI)(n:Str)(day wt:Int):Option Str:=if Vx n=false then some "NoName" else (eM 0 9999 day).or ((eM 1 1000 wt).or ((if Zl ds n=none then none else some ("Taken" : Str)).or (if (Wi ds).length < 40 then none else some ("TooMany" : Str))))
inductive VP(C:eF)(c:dZ)(vs:List V)(H:Hp)(Q:VK)(E:XK):Prop
 |mk(L) (ds) (wa) (n) (day wt)(_:vs = [.ref L.p,.str n,.int day,.int wt])(_:Fk C H L ds wa)(_:ds.length<=1000)(_:okN n)(_:okI day)(_:okI wt)(_:∀H',ZA H H'->due E c H' (Q .non H') (Ui ds n day wt))
theorem NB(Zc2:ZQ K C "check_coming" "Folk.check_coming" E4)(T:Txt mg)(Tc:YV K C)(C0:∃t,mg "MOST_FOLK" = some (.int 40 t))(er:Er K mg c errs)(Zgz:Fn P w K mg base "is_name" ["text"] 1 VB)(Yy:WA P w K mg base "check_day" 1 (VM 0 9999 c))(Zb3:WA P w K mg base "check_weight" 1 (VM 1 1000 c)):ZY P w K mg base C "check_coming" 2 (VP C c):=by
 obtain⟨t0,c_MOST_FOLK⟩:=C0;have r_MOST_FOLK:ZG (.int 40) (.int 40 t0):=⟨t0,rfl⟩;refine Zc2.mx ["self","name","day","weight"] ["self","name","day","weight"] fun H vs Q E hr h=>?_;obtain⟨L,ds,wa,n,day,wt,rfl,F1,hl,ho,hi,hw,k⟩:=h;have F0:=F1.f;refine⟨rfl,_,(Zc (Zo (Vk (Wt (Zj Zgz (Za Q1 Zb)))) (Zf (Wa Yw er (We (cU Q1 (Yp Wd))))) Zn) (Zc (Zk (Wu Z4 Yy (Za Q2 Zb))) (Zc (Zk (Wu Z4 Zb3 (Za Q3 Zb))) (Zc (Zo (Zr (JV hr) Q1 (Zw Q0) rfl) (Zf (Wa Yw er (We (Yp (Yx Q1 (Yp Wd)))))) Zn) (Zf (Zo (Zr Af (Z3 KW T.len Yk (Za (Zw Q0) Zb)) (Y4 c_MOST_FOLK r_MOST_FOLK) (Zu _)) (Zf (Wa Yw er (We (Yp (Yx (Y4 c_MOST_FOLK r_MOST_FOLK) (Yp Wd)))))) Zn)))))),?_⟩;have hl':=ho.1;refine⟨_,rfl,n,rfl,by lia,fun H1 s1=>⟨_,rfl,?_⟩⟩;replace k:=k H1 s1;unfold Ui at k;cases e:Vx n with
 | false =>
  rw[if_pos e] at k;exact Z8 ⟨_,rfl,⟨n,rfl,by lia,ho.2⟩,by decide +kernel,fun _=>k⟩
 | true =>
  rw[if_neg (by rw[e];decide)] at k;refine Z1 ?_;have F:=F0.keep (ZA.n s1);obtain⟨dx,ob⟩:=F.ob;obtain⟨kvs,c1,c2,c3⟩:=F.c;obtain⟨kv2,c4,c5⟩:=F1.cnt;obtain rfl:kvs=kv2:=by have:=s1 _ _ c4;rw[c1] at this;cases this;rfl
  have g:=ZZ.k (k:=Sum.inr n) c1;rw[c3] at g;refine⟨_,rfl,day,rfl,hi,?_⟩;cases ed:eM 0 9999 day with
  | some x=>rw[ed] at k;exact k
  | none =>
  rw[ed,xK] at k;refine⟨_,rfl,wt,rfl,hw,?_⟩;cases ew:eM 1 1000 wt with
  | some x=>rw[ew] at k;exact k
  | none =>
  rw[ew,xK] at k;refine⟨_,rfl,_,rfl,L.p,C,dx,_,_,rfl,ob,Tc.cl,Tc.nc,Jt _ _ _ _,L.dc,_,rfl,g,_,rfl,?_⟩;cases hc:Zl ds n with
  | some d0 =>
   rw[if_neg (by rw[hc];intro z;cases z)] at k;exact Z8 ⟨by decide +kernel,_,rfl,.inl ⟨n,rfl,by lia⟩,by decide +kernel,fun _=>k⟩
  | none =>
   rw[if_pos hc,xK] at k;refine Z1 ⟨_,rfl,L.p,C,dx,_,_,rfl,ob,Tc.cl,Tc.nc,Jt _ _ _ _,L.dc,kvs,rfl,c1,_,_,rfl,rfl,_,rfl,Z0 (fun z=>?_) (fun z=>?_)⟩
   ·rw[if_neg (by lia)] at k;exact⟨by decide +kernel,.inr ⟨40,rfl,by decide +kernel⟩,by decide +kernel,fun _=>k⟩
   ·rw[if_pos (by lia)] at k;exact k
def JO(ds:List ZI)(n:Str)(day wt:Int):Option Str:=(eM 0 9999 day).or ((eM 1 1000 wt).or ((Ve ds n).or ((Wm ((Zl ds n).getD 0) day).or (JX ds n day))))
inductive TH(C:eF)(c:dZ)(vs:List V)(H:Hp)(Q:VK)(E:XK):Prop
 |mk(L) (ds) (n) (day wt)(_:vs = [.ref L.p,.str n,.int day,.int wt])(_:ZR C H L ds)(_:n.length<=100)(_:okI day)(_:okI wt)(_:due E c H (Q .non H) (JO ds n day wt))
theorem Bo(h:Ve ds n=none):∃d,Zl ds n=some d:=by
 unfold Ve at h;cases e:Zl ds n with
 | none=>rw[if_pos e] at h;cases h
 | some d=>exact⟨d,rfl⟩
theorem cG(Zc4:ZQ K C "check_rise" "Folk.check_rise" DO)(Tc:YV K C)(Yy:WA P w K mg base "check_day" 1 (VM 0 9999 c))(Zb3:WA P w K mg base "check_weight" 1 (VM 1 1000 c))(M_check_known:ZY P w K mg base C "check_known" 1 (YR C c))(M_check_there:ZY P w K mg base C "check_there" 1 (WJ C c))(M_check_living:ZY P w K mg base C "check_living" 2 (WR C c)):ZY P w K mg base C "check_rise" 3 (TH C c):=by
 refine Zc4.mx ["self","name","day","weight"] ["self","name","day","weight"] fun H vs Q E hr h=>?_;obtain⟨L,ds,n,day,wt,rfl,F,ho,hi,hw,k⟩:=h;refine⟨rfl,_,(Zc (Zk (Wu Z4 Yy (Za Q2 Zb))) (Zc (Zk (Wu Z4 Zb3 (Za Q3 Zb))) (Zc (Zk (Yo Z4 Q0 Tc.cl M_check_known (Za Q1 Zb))) (Zc (Zk (Yo Z4 Q0 Tc.cl M_check_there (Za Q1 (Za Q2 Zb)))) (Zf (Zk (Yo Z4 Q0 Tc.cl M_check_living (Za Q1 (Za Q2 Zb))))))))),?_⟩;obtain⟨dx,ob⟩:=F.ob;unfold JO at k;refine⟨_,rfl,day,rfl,hi,?_⟩;cases ed:eM 0 9999 day with
 | some x=>rw[ed] at k;exact k
 | none =>
 rw[ed,xK] at k;refine⟨_,rfl,wt,rfl,hw,?_⟩;cases ew:eM 1 1000 wt with
 | some x=>rw[ew] at k;exact k
 | none =>
 rw[ew,xK] at k;refine⟨_,rfl,L.p,dx,_,rfl,ob,Ye _ _ _ _ (by decide +kernel),_,rfl,L,ds,n,rfl,F,ho,?_⟩;cases ek:Ve ds n with
 | some x=>rw[ek] at k;exact k
 | none =>
 rw[ek,xK] at k;obtain⟨d,hc⟩:=Bo ek;rw[hc,Option.getD_some] at k;refine⟨_,rfl,L.p,dx,_,rfl,ob,Ye _ _ _ _ (by decide +kernel),_,rfl,_,rfl,L,ds,n,d,day,rfl,F,hc,ho,hi,?_⟩;cases et:Wm d day with
 | some x=>rw[et] at k;exact k
 | none =>
 rw[et,xK] at k;exact⟨_,rfl,L.p,dx,_,rfl,ob,Ye _ _ _ _ (by decide +kernel),_,rfl,_,rfl,L,ds,n,day,rfl,F,ho,hi,k⟩
def JZ(ds:List ZI)(n he:Str)(day:Int):Option Str:=(eM 0 9999 day).or ((Ve ds n).or ((Ve ds he).or ((Wm ((Zl ds n).getD 0) day).or ((Wm ((Zl ds he).getD 0) day).or ((Jw ds n).or (if he=n\/Zx ds he≠none then some ("NoHeir" : Str) else none))))))
inductive Ae(C:eF)(c:dZ)(vs:List V)(H:Hp)(Q:VK)(E:XK):Prop
 |mk(L) (ds) (n he) (day)(_:vs = [.ref L.p,.str n,.int day,.str he])(_:ZR C H L ds)(_:n.length<=100)(_:he.length<=100)(_:okI day)(_:due E c H (Q .non H) (JZ ds n he day))
theorem Mv(Zc6:ZQ K C "check_death" "Folk.check_death" Ef)(Tc:YV K C)(er:Er K mg c errs)(Yy:WA P w K mg base "check_day" 1 (VM 0 9999 c))(M_check_known:ZY P w K mg base C "check_known" 1 (YR C c))(M_check_there:ZY P w K mg base C "check_there" 1 (WJ C c))(M_check_untold:ZY P w K mg base C "check_untold" 1 (WK C c)):ZY P w K mg base C "check_death" 2 (Ae C c):=by
 refine Zc6.mx ["self","name","day","heir"] ["self","name","day","heir"] fun H vs Q E hr h=>?_;obtain⟨L,ds,n,he,day,rfl,F,ho,ho',hi,k⟩:=h;refine⟨rfl,_,(Zc (Zk (Wu Z4 Yy (Za Q2 Zb))) (Zc (Zk (Yo Z4 Q0 Tc.cl M_check_known (Za Q1 Zb))) (Zc (Zk (Yo Z4 Q0 Tc.cl M_check_known (Za Q3 Zb))) (Zc (Zk (Yo Z4 Q0 Tc.cl M_check_there (Za Q1 (Za Q2 Zb)))) (Zc (Zk (Yo Z4 Q0 Tc.cl M_check_there (Za Q3 (Za Q2 Zb)))) (Zc (Zk (Yo Z4 Q0 Tc.cl M_check_untold (Za Q1 Zb))) (Zf (Zo (QW.pt (Dy (Zr Ym Q3 Q1 (Zu _)) (EO (Zr (JV hr) Q3 (Zw Q0) rfl)))) (Zf (Wa Yw er (We (Yx Q3 (Yp (Yx Q1 Wd)))))) Zn)))))))),?_⟩;obtain⟨dx,ob⟩:=F.ob;unfold JZ at k;refine⟨_,rfl,day,rfl,hi,?_⟩;cases ed:eM 0 9999 day with
 | some x=>rw[ed] at k;exact k
 | none =>
 rw[ed,xK] at k;refine⟨_,rfl,L.p,dx,_,rfl,ob,Ye _ _ _ _ (by decide +kernel),_,rfl,L,ds,n,rfl,F,ho,?_⟩;cases ek:Ve ds n with
 | some x=>rw[ek] at k;exact k
 | none =>
 rw[ek,xK] at k;obtain⟨d,hc⟩:=Bo ek;refine⟨_,rfl,L.p,dx,_,rfl,ob,Ye _ _ _ _ (by decide +kernel),_,rfl,L,ds,he,rfl,F,ho',?_⟩;cases eh:Ve ds he with
 | some x=>rw[eh] at k;exact k
 | none =>
 rw[eh,xK] at k;obtain⟨d2,hc2⟩:=Bo eh;rw[hc,hc2,Option.getD_some,Option.getD_some] at k;refine⟨_,rfl,L.p,dx,_,rfl,ob,Ye _ _ _ _ (by decide +kernel),_,rfl,_,rfl,L,ds,n,d,day,rfl,F,hc,ho,hi,?_⟩;cases et:Wm d day with
 | some x=>rw[et] at k;exact k
 | none =>
 rw[et,xK] at k;refine⟨_,rfl,L.p,dx,_,rfl,ob,Ye _ _ _ _ (by decide +kernel),_,rfl,_,rfl,L,ds,he,d2,day,rfl,F,hc2,ho',hi,?_⟩;cases et2:Wm d2 day with
 | some x=>rw[et2] at k;exact k
 | none =>
 rw[et2,xK] at k;refine⟨_,rfl,L.p,dx,_,rfl,ob,Ye _ _ _ _ (by decide +kernel),_,rfl,L,ds,n,rfl,F,ho,?_⟩;cases eu:Jw ds n with
 | some x=>rw[eu] at k;exact k
 | none =>
 rw[eu,xK] at k;obtain⟨kvs,c1,c2,c3⟩:=F.d;have g:=ZZ.k (k:=Sum.inr he) c1;rw[c3] at g;refine⟨_,rfl,_,rfl,rfl,_,rfl,Z0 (fun z=>?_) (fun z=>?_)⟩
 ·have z':he=n:=by injection z
  rw[if_pos (.inl z')] at k;exact Z8 ⟨_,rfl,.inl ⟨he,rfl,by lia⟩,by decide +kernel,_,rfl,.inl ⟨n,rfl,by lia⟩,fun _=>k⟩
 ·have z':he≠n:=fun y=>z (by rw[y]);refine⟨_,rfl,_,rfl,L.p,C,dx,_,_,rfl,ob,Tc.cl,Tc.nd,A0 _ _ _ _,L.dd,_,rfl,g,_,rfl,?_⟩;cases hh:Zx ds he with
  | none =>
   rw[if_neg (by rw[hh];exact fun y=>y.elim z' fun w=>w rfl)] at k;exact Z1 k
  | some x =>
   rw[if_pos (.inr (by rw[hh];intro w;cases w))] at k;exact Z8 ⟨_,rfl,.inl ⟨he,rfl,by lia⟩,by decide +kernel,_,rfl,.inl ⟨n,rfl,by lia⟩,fun _=>k⟩
abbrev inB(i:Int)(n:Nat):Prop:=0<=i/\i < n
def JJ(m:Mo)(i:Int):Option Str:=if inB i m.brs.length then none else some "NoThing"
inductive UK(C CM:eF)(c:dZ)(vs:List V)(H:Hp)(Q:VK)(E:XK):Prop
 |mk(M) (ds) (wa) (xs) (m) (qs) (i)(_:vs = [.ref M.p,.int i])(_:ZC C CM H M ds wa xs m qs)(_:okI i)(_:due E c H (Q .non H) (JJ m i))
abbrev Fy:Stmt:=Yg (top 57) 41
theorem cQ(Zhn:ZQ K CM "check_thing" "Moot.check_thing" Fy)(T:Txt mg)(Tm:ZK K CM)(er:Er K mg c errs):ZY P w K mg base CM "check_thing" 1 (UK C CM c):=by
 refine Zhn.mx ["self","thing"] ["self","thing"] fun H vs Q E hr h=>?_;obtain⟨M,ds,wa,xs,m,qs,i,rfl,W,hs,k⟩:=h;refine⟨rfl,_,(Zf (Zo (Vk (Al Wh Uu Zd Q1 (Z3 Yv T.len Yk (Za (Zw Q0) Zb)))) (Zf (Wa Yw er (We (Yp (Yx Q1 Wd))))) Zn)),?_⟩;obtain⟨dx,ob⟩:=W.ob;obtain⟨vs,b1,_,hl⟩:=(W.ls (M.lb,m.brs) (by simp[Mo.at_])).get;dsimp only at b1 hl;unfold JJ at k;rw[← hl] at k;refine⟨_,rfl,_,_,rfl,rfl,_,rfl,Z0 (fun h0=>?_) (fun z=>?_)⟩
 ·refine⟨_,rfl,M.p,CM,dx,_,_,rfl,ob,Tm.cl,Tm.nb,BJ _,M.lb,vs,rfl,.inl (ZE.of b1),_,_,rfl,rfl,_,rfl,Vp (fun z=>?_) (fun h1=>?_)⟩
  ·rw[if_neg (fun y=>z y.2)] at k;exact⟨by decide +kernel,_,rfl,.inr ⟨i,rfl,Wx hs⟩,fun _=>k⟩
  ·rw[if_pos ⟨h0,h1⟩] at k;exact k
 ·rw[if_neg (fun y=>z y.1)] at k;exact⟨false,rfl,Z8 ⟨by decide +kernel,_,rfl,.inr ⟨i,rfl,Wx hs⟩,fun _=>k⟩⟩
inductive Ta(c:dZ)(vs:List V)(H:Hp)(Q:VK)(E:XK):Prop
 |mk(l) (us) (i)(_:vs = [.ref l,.int i])(_:H l=some (.lst us))(_:okI i)(_:due E c H (Q .non H) (if inB i us.length then none else some "NoCase"))
abbrev GQ:Stmt:=top 48
theorem LG(Zho:YC K mg "check_case" GQ)(T:Txt mg)(er:Er K mg c errs):WA P w K mg base "check_case" 1 (Ta c):=by
 refine Zho.fx ["suits","case"] ["suits","case"] fun H vs Q E hr h=>?_;obtain⟨l,us,i,rfl,hl,hs,k⟩:=h;refine⟨rfl,_,(Zf (Zo (Vk (Al Wh Uu Zd Q1 (Z3 Yv T.len Yk (Za Q0 Zb)))) (Zf (Wa Yw er (We (Yp (Yx Q1 Wd))))) Zn)),?_⟩;refine⟨_,rfl,_,_,rfl,rfl,_,rfl,Z0 (fun h0=>?_) (fun z=>?_)⟩
 ·refine⟨_,rfl,l,us,rfl,.inl (ZE.of hl),_,_,rfl,rfl,_,rfl,Vp (fun z=>?_) (fun h1=>?_)⟩
  ·rw[if_neg (fun y=>z y.2)] at k;exact⟨by decide +kernel,_,rfl,.inr ⟨i,rfl,Wx hs⟩,fun _=>k⟩
  ·rw[if_pos ⟨h0,h1⟩] at k;exact k
 ·rw[if_neg (fun y=>z y.1)] at k;exact⟨false,rfl,Z8 ⟨by decide +kernel,_,rfl,.inr ⟨i,rfl,Wx hs⟩,fun _=>k⟩⟩
def Yr(m:Mo):Option Str:=if m.deeds.length < 400 then none else some "TooMany"
inductive YN(C CM:eF)(c:dZ)(vs:List V)(H:Hp)(Q:VK)(E:XK):Prop
 |mk(M) (ds) (wa) (xs) (m) (qs)(_:vs = [.ref M.p])(_:ZC C CM H M ds wa xs m qs)(_:due E c H (Q .non H) (Yr m))
abbrev Ho:Stmt:=Yg (top 57) 43
theorem O7(Zhp:ZQ K CM "check_moments" "Moot.check_moments" Ho)(T:Txt mg)(Tm:ZK K CM)(er:Er K mg c errs)(C0:∃t,mg "MOST_MOMENTS" = some (.int 400 t)):ZY P w K mg base CM "check_moments" 1 (YN C CM c):=by
 obtain⟨t0,c_MOST_MOMENTS⟩:=C0;have r_MOST_MOMENTS:ZG (.int 400) (.int 400 t0):=⟨t0,rfl⟩;refine Zhp.mx ["self"] ["self"] fun H vs Q E hr h=>?_;obtain⟨M,ds,wa,xs,m,qs,rfl,W,k⟩:=h;refine⟨rfl,_,(Zf (Zo (Zr Af (Z3 Yv T.len Yk (Za (Zw Q0) Zb)) (Y4 c_MOST_MOMENTS r_MOST_MOMENTS) (Zu _)) (Zf (Wa Yw er (We (Yp (Yx (Y4 c_MOST_MOMENTS r_MOST_MOMENTS) (Yp Wd)))))) Zn)),?_⟩;obtain⟨dx,ob⟩:=W.ob;obtain⟨vs,d1,_,d2⟩:=(W.ls (M.ld,m.deeds) (by simp[Mo.at_])).get;dsimp only at d1 d2;unfold Yr at k;refine⟨_,rfl,M.p,CM,dx,_,_,rfl,ob,Tm.cl,Tm.nd,Ux _,M.ld,vs,rfl,.inl (ZE.of d1),_,_,rfl,rfl,_,rfl,Z0 (fun z=>?_) (fun z=>?_)⟩
 ·rw[if_neg (by lia)] at k;exact⟨by decide +kernel,.inr ⟨400,rfl,by decide +kernel⟩,by decide +kernel,fun _=>k⟩
 ·rw[if_pos (by lia)] at k;exact k
end
section
variable{P:eG}{w:eI}{K:uFg}{mg:dW}{base:Heap}{c:dZ}
def Vy(ss:List ZW)(i:Int)(n:Str):Option Str:=match ss[i.toNat]? with
 | some t=>if inB i ss.length then (if n∈(t.ones++t.others).map (·.1) then none else some "NoOath") else some "NoCase"
 | none=>some "NoCase"
inductive VW(c:dZ)(vs:List V)(H:Hp)(Q:VK)(E:XK):Prop
 |mk(l:eF) (ss:List ZW) (i:Int) (n:Str)(_:vs = [.ref l,.int i,.str n])(_:ZU H ss l)(_:(∀t∈ss,Uh t))(_:okI i)(_:n.length<=100)(_:∀H',ZA H H'->due E c H' (Q .non H') (Vy ss i n))
abbrev GL:Stmt:=top 49
theorem LV(Zhq:YC K mg "check_oath" GL)(T:Txt mg)(C0:∃t,mg "ONES" = some (.int 0 t))(C1:∃t,mg "OTHERS" = some (.int 1 t))(er:Er K mg c errs)(Z1i:WA P w K mg base "check_case" 1 (Ta c)) :
  WA P w K mg base "check_oath" 2 (VW c):=by
 obtain⟨t0,c_ONES⟩:=C0;obtain⟨t1,c_OTHERS⟩:=C1;have r_ONES:ZG (.int 0) (.int 0 t0):=⟨t0,rfl⟩;have r_OTHERS:ZG (.int 1) (.int 1 t1):=⟨t1,rfl⟩;refine Zhq.fx ["suits","case","name"] ["suits","case","name"] fun H vs Q E hr h=>?_;obtain⟨l,ss,i,n,rfl,hsu,hok,hi,hn,k⟩:=h
 refine⟨rfl,_,(Zc (Zk (Wu Z4 Z1i (Za Q0 (Za Q1 Zb)))) (Zf (Zo (Zr HD Q2 (V1 (locs:=["swearer","weight"]) (fr:=[]) ⟨rfl,by decide +kernel,by decide +kernel,by decide +kernel,by decide +kernel,by decide +kernel⟩ .nil rfl (Wb (Z2 Jq (Zi Zv (Zi Yb Q0 Q1 (fun _ _=>rfl)) (Y4 c_ONES r_ONES) (fun _ _=>rfl)) (Zi Zv (Zi Yb Q0 Q1 (fun _ _=>rfl)) (Y4 c_OTHERS r_OTHERS) (fun _ _=>rfl)))) ⟨fun _ _ _ _ _ _=>by
  have cnd:(inN ["swearer","weight"] []).Nodup:=by decide +kernel
  exact⟨(BL 2 (by rfl) (Wo (Wp 0 cnd) (Wo (Wp 1 cnd) Ju))),Uv,(Y5 0)⟩⟩) rfl) (Zf (Wa Yw er (We (Yx Q2 (Yp (Yx Q1 Wd)))))) Zn))),?_⟩
 have hz:(5000:Nat)<=sizeLine:=by decide
 obtain⟨us,hl,hrep⟩:=id hsu;have hul:us.length=ss.length:=by have:=hrep.length;rw[xA] at this;exact this
 refine⟨_,rfl,_,rfl,l,us,i,rfl,hl,hi,?_⟩
 by_cases hb:inB i ss.length
 ·unfold Vy at k;rw[if_pos (by rw[hul];exact hb)];obtain⟨j,rfl⟩:=yK hb.1;have hj:j < ss.length:=by have:=hb.2;lia
  have ht:ss[j]? = some ss[j]:=xB hj;generalize ss[j]=t at ht;rw[yR,ht] at k;dsimp only at k;rw[if_pos hb] at k;obtain⟨ta,u1,u2,u4,hu,hta,⟨b1,w1,rfl,hb1,hr1⟩,⟨b2,w2,rfl,hb2,hr2⟩,h4⟩:=ZU.get (l:=l) hrep ht;obtain⟨L1,L2',_,_⟩:=hok t (xJ ht);have z1:=hr1.len;have z2:=hr2.len;have y1:=L1.2;have y2:=L2'.2;refine⟨_,rfl,_,rfl,_,rfl,l,us,j,.ref ta,rfl,rfl,ZE.of hl,Y8 hu,ta,_,0,.ref b1,rfl,rfl,ZT.of hta,rfl,?_⟩;refine⟨_,rfl,_,rfl,l,us,j,.ref ta,rfl,rfl,ZE.of hl,Y8 hu,ta,_,1,.ref b2,rfl,rfl,ZT.of hta,rfl,?_⟩;refine⟨b1,b2,w1,w2,rfl,rfl,hb1,hb2,by lia,fun q hq=>?_⟩;have Sc:=ZA.new (o:=.lst (w1++w2)) hq;have kc:(upd H q (.lst (w1++w2))) q=some (.lst (w1++w2)):=Zg;generalize (upd H q (.lst (w1++w2)))=H2 at Sc kc ⊢;have hrs:ZN H2 (t.ones++t.others) (w1++w2):=ZN.mono (ZA.t Sc) (ZN.app hr2 hr1);refine⟨q,rfl,⟨_,ZE.of kc⟩,?_⟩;refine Le kc hrs (by rw[xE];lia) fun l2 hl2=>?_;refine⟨l2,_,rfl,.inl (ZE.of Zg),rfl,Hh _,_,rfl,?_⟩;rw[GV];refine Vp (fun z=>?_) (fun z=>?_)
  ·rw[if_neg z] at k;exact⟨_,rfl,.inl ⟨n,rfl,by lia⟩,by decide +kernel,_,rfl,.inr ⟨_,rfl,Wx hi⟩,fun _=>k _ (Sc.trans (ZA.new hl2))⟩
  ·rw[if_pos z] at k;exact k _ (Sc.trans (ZA.new hl2))
 ·rw[if_neg (by rw[hul];exact hb)];have e:Vy ss i n=some "NoCase" := by
   unfold Vy;cases ss[i.toNat]? with
   | none=>rfl
   | some t=>exact if_neg hb
  have k:=k H (ZA.refl H);rw[e] at k;exact k
inductive VG(vs:List V)(H:Hp)(Q:VK)(z3:XK):Prop
 |mk(l:eF) (ss:List ZW) (i:Nat) (n:Str)(_:vs = [.ref l,.int i,.str n])(_:ZU H ss l)(_:(∀t∈ss,Uh t))(_:ss.length<=1000)(_:n.length<=100)(_:Vy ss i n=none)(_:∀(l2:eF)(H':Hp),H l2=none->H' l2=some (.lst (Vi (CK ss i n)))->ZA H H'->Q (.ref l2) H')
abbrev FT:Stmt:=top 44
theorem Lx(Zhr:YC K mg "breakers" FT)(T:Txt mg)(Zhs:WA P w K mg base "check_oath" 2 (VW c))(Z1k:Fn P w K mg base "breaking" ["suits"] 5 VH) :
  Fn P w K mg base "breakers" ["suits","case","name"] 6 VG:=by
 refine Zhr.fq ["suits","case","name"] fun H vs Q E hr h=>?_;obtain⟨l,ss,i,n,rfl,hsu,hok,hlen,hn,ho,k⟩:=h;refine⟨rfl,_,(Zc (Zk (Wu Xq.never Zhs (Za Q0 (Za Q1 (Za Q2 Zb))))) (Zf (Zt (Ke hr (Zj Z1k (Za Q0 Zb)) (Z9 (Za Q1 (Za Q2 Zb))) (Yl Zb))))),?_⟩;have hi:i < ss.length:=by
  unfold Vy at ho;cases e:ss[(i:Int).toNat]? with
  | none=>rw[e] at ho;cases ho
  | some t=>rw[yR] at e;exact(xH.mp e).1
 refine⟨_,rfl,_,rfl,_,rfl,l,ss,i,n,rfl,hsu,hok,by unfold okI;lia,hn,fun H1 sm1=>?_⟩;rw[ho];refine⟨_,rfl,l,ss,rfl,hsu.mono sm1,hok,hlen,fun g H2 hg ⟨kvs,a1,a2,a3,a4⟩ hfr sm2=>⟨g,rfl,.inr ⟨kvs,.inl a1⟩,?_⟩⟩;refine⟨_,rfl,_,rfl,by show 2<=sizeLine;decide,fun q hq=>?_⟩;have Sq:=ZA.new (o:=.tup [.int i,.str n]) hq;have kq:(upd H2 q (.tup [.int i,.str n])) q=some (.tup [.int i,.str n]):=Zg;generalize (upd H2 q (.tup [.int i,.str n]))=H3 at Sq kq ⊢;refine⟨by show 0<=sizeLine;decide,fun e he=>?_⟩;have Se:=ZA.new (o:=.lst []) he;have ke:(upd H3 e (.lst [])) e=some (.lst []):=Zg;generalize (upd H3 e (.lst []))=H4 at Se ke ⊢;have S24:=Sq.trans Se;have S:=(sm1.trans sm2).trans S24;refine⟨_,ZZ.t (S24 _ _ a1) (k:=Yj i n) (Se _ _ kq),?_⟩;rcases a4 i n with⟨e1,e2⟩ | ⟨a,e1,e2⟩
 ·rw[e1];refine k e H4 (((sm1.trans sm2).trans Sq).free he) ?_ S;unfold CK;rw[e2];exact ke
 ·rw[e1];exact k a H4 (sm1.free (hfr kvs i n a a1 e1)) (S24 _ _ e2) S
end
section
variable{C CM:eF}{c:dZ}
theorem Ce{t u:TS}{D:_}{σ:St}{H:Hp}(Rk:Hp->Prop)(h:(∀H',Rk H'->u D σ H')->V9 t u D σ H)(k:∀H',Rk H'->u D σ H'):V9 t u D σ H:=h k
theorem B9:∀{ps:dX}{i:Nat}{n x:Str},ps[i]? = some n->(∀j < i,∀y,ps[j]? = some y->f y=none)->f n=some x->ps.findSome? f=some x
 | [],i,n,x,h,_,_=>by cases h
 | p::ps,0,n,x,h,_,e=>by cases h;rw[List.findSome?_cons,e]
 | p::ps,i+1,n,x,h,a,e=>by rw[List.findSome?_cons,a 0 (by lia) p rfl];exact B9 (i:=i) h (fun j hj y hy=>a (j+1) (by lia) y hy) e
theorem Cg{f:Str->Option Str}{ps:dX}(a:∀j < ps.length,∀y,ps[j]? = some y->f y=none):ps.findSome? f=none:=by
 rw[List.findSome?_eq_none_iff];intro x hx;obtain⟨j,hj,e⟩:=List.getElem_of_mem hx;exact a j hj x (by rw[xB hj,e])
theorem Ct{f:Str->Option Str}{ps:dX}{i:Nat}{n:Str}(h:ps[i]? = some n)(a:∀j < i,∀y,ps[j]? = some y->f y=none)(e:f n=none):∀j < i+1,∀y,ps[j]? = some y->f y=none:=fun j hj y hy=>by grind
structure VD (m:Mo):Prop where
 ok:∀t∈m.trials,Uh t
 dl:m.days.length=m.trials.length
 br:∀(i:Nat)(e:D),m.brs[i]? = some e->∃(x:Str)(d:Int),e = .tup [.str x,.int d]
 le:m.trials.length<=60
 vl:m.verd.length=m.trials.length
 hb:m.haps.length=m.brs.length
 hl:∀q∈m.haps,q.length<=m.deeds.length
 ql:m.debts.length<=m.deeds.length
def brD(m:Mo)(i:Int):Int:=match m.brs[i.toNat]? with
 | some (.tup [_,.int d])=>d
 | _=>0
def Wy(ds:List ZI)(m:Mo)(day:Int)(ps:dX)(th:Option Int)(oa:Option (Int×Str)):Option Str :=
 (ps.findSome? (Ve ds)).or ((th.bind (JJ m)).or ((oa.bind fun p=>Vy m.trials p.1 p.2).or ((ps.findSome? fun n=>Wm ((Zl ds n).getD 0) day).or ((th.bind fun i=>Wm (brD m i) day).or
  ((oa.bind fun p=>Wm (m.days.getD p.1.toNat 0) day).or (ps.findSome? fun n=>JX ds n day))))))
def thV:Option Int->V
 | none=>.non
 | some i=>.int i
def oaV(H:Hp):Option (Int×Str)->V->Prop
 | none,v=>v = .non
 | some (i,n),v=>okI i/\n.length<=100/\∃a,v = .ref a/\H a=some (.tup [.int i,.str n])
inductive YK(C CM:eF)(c:dZ)(vs:List V)(H:Hp)(Q:VK)(E:XK):Prop
 |mk(M) (ds) (wa) (xs) (m) (qs) (day) (pl) (ps) (th) (oa) (v2)(_:vs = [.ref M.p,.int day,.ref pl,thV th,v2])(_:ZC C CM H M ds wa xs m qs)(_:VD m)(_:H pl=some (.lst (ps.map V.str)))(_:(∀n∈ps,n.length<=100))(_:okI day)(_:(∀i,th=some i->okI i))(_:oaV H oa v2)(_:∀H',ZA H H'->due E c H' (Q .non H') (Wy ds m day ps th oa))
abbrev II:Stmt:=Yg (top 57) 40
theorem Lj(Zht:ZQ K CM "check_named" "Moot.check_named" II)(Tc:YV K C)(Tm:ZK K CM)(er:Er K mg c errs)(M_check_known:ZY P w K mg base C "check_known" 1 (YR C c))(M_check_there:ZY P w K mg base C "check_there" 1 (WJ C c))(M_check_living:ZY P w K mg base C "check_living" 2 (WR C c))(MM_check_thing:ZY P w K mg base CM "check_thing" 1 (UK C CM c))(Zhs:WA P w K mg base "check_oath" 2 (VW c)):ZY P w K mg base CM "check_named" 3 (YK C CM c):=by
 refine Zht.mx ["self","day","people","thing","oath","name"] ["self","day","people","thing","oath"] fun H vs Q E hr h=>?_;obtain⟨M,ds,wa,xs,m,qs,day,pl,ps,th,oa,v2,rfl,W,ok,hpl,hps,hd,hth,hoa,k⟩:=h
 refine⟨rfl,_,(Zc (Cp Du Yw (by rfl) (Wb Q2) (Yt 5)
 (fun hxq hxp=>(Zf (Zk (Yo hxq (Zw Q0) Tc.cl M_check_known (Za Q5 Zb))))))
 (Zc (Zo (Zr JS Q3 Y3 (Zu _)) (Zf (Zk (Yo Z4 Q0 Tm.cl MM_check_thing (Za Q3 Zb)))) Zn)
 (Zc (Zo (Zr JS Q4 Y3 (Zu _)) (Zf (Zk (Wu Z4 Zhs (Za (Zw Q0) (Za (Zi Zv Q4 Zd (fun _ _=>rfl)) (Za (Zi Zv Q4 Zd (fun _ _=>rfl)) Zb)))))) Zn)
 (Zc (Cp Du Yw (by rfl) (Wb Q2) (Yt 5)
 (fun hxq hxp=>(Zf (Zk (Yo hxq (Zw Q0) Tc.cl M_check_there (Za Q5 (Za Q1 Zb)))))))
 (Zc (Zo (QW.pt (Vv (Zr JS Q3 Y3 (Zu _)) (Us (Zr Uu Q1 (Zi Zv (Zi Yb (Zw Q0) Q3 (fun _ _=>rfl)) Zd (fun _ _=>rfl)) (Zu _))))) (Zf (Wa Yw er (We (Yp (Yx Q3 (Yp (Yx Q1 Wd))))))) Zn)
 (Zc (Zo (QW.pt (Vv (Zr JS Q4 Y3 (Zu _)) (Us (Zr Uu Q1 (Zi Yb (Zw Q0) (Zi Zv Q4 Zd (fun _ _=>rfl)) (fun _ _=>rfl)) (Zu _))))) (Zf (Wa Yw er (We (Yp (Yx Q1 Wd))))) Zn)
 (Zf (Cp Du Yw (by rfl) (Wb Q2) (Yt 5)
 (fun hxq hxp=>(Zf (Zk (Yo hxq (Zw Q0) Tc.cl M_check_living (Za Q5 (Za Q1 Zb)))))))))))))),?_⟩
 obtain⟨dm,obm⟩:=W.ob;have F:=W.fk.f;obtain⟨dx,ob⟩:=F.ob;have hget:∀{i:Nat}{v:V},(ps.map V.str)[i]? = some v->∃n,v = .str n/\ps[i]? = some n/\n.length<=100:=fun {i v} hv=>by
  rw[xI] at hv;obtain⟨a,h1,h2⟩:=xR.mp hv;exact⟨a,h2.symm,h1,hps a (xJ h1)⟩
 have hlen:(ps.map V.str).length=ps.length:=xA ..;unfold Wy at k;refine⟨_,rfl,pl,rfl,⟨_,ZE.of hpl⟩,?_⟩;refine V0 (ps.map V.str) (fun i σ H'=>∃v5:Option V,σ = [some (.ref M.p),some (.int day),some (.ref pl),some (thV th),some v2,v5]/\H=H'/\∀j < i,∀y,ps[j]? = some y->Ve ds y=none) ⟨none,rfl,rfl,fun j hj=>absurd hj (by lia)⟩ (fun i σ H' _ ⟨_,_,e,_⟩=>by rw[← e];exact ZE.of hpl) ?_ ?_
 ·rintro i v σ H' hv ⟨v5,rfl,rfl,ha⟩;obtain⟨n,rfl,hn,hl⟩:=hget hv;refine⟨_,rfl,M.p,CM,dm,_,_,rfl,obm,Tm.cl,Tm.nf,Vm _,M.L.p,dx,_,rfl,ob,Ye _ _ _ _ (by decide +kernel),_,rfl,M.L,ds,n,rfl,F,hl,?_⟩;cases e:Ve ds n with
  | none=>exact⟨_,rfl,rfl,Ct hn ha e⟩
  | some x =>
   rw[B9 hn ha e] at k;exact k H (ZA.refl H)
 rintro σ H' ⟨v5,rfl,rfl,ha⟩;rw[hlen] at ha;rw[Cg ha,xK] at k;have hcom:∀i n,ps[i]? = some n->∃d,Zl ds n=some d:=fun i n hi=>by
  have:=ha i (xH.mp hi).1 n hi;unfold Ve at this;cases e:Zl ds n with
  | none=>rw[if_pos e] at this;cases this
  | some d=>exact⟨d,rfl⟩
 try dsimp only
 refine Ce (fun H'=>ZA H H'/\th.bind (JJ m)=none) (fun kk=>?_) (fun H1 ⟨S1,e1⟩=>?_)
 ·cases th with
  | none=>exact⟨_,rfl,rfl,_,rfl,Z1 (kk H ⟨ZA.refl H,rfl⟩)⟩
  | some i =>
   refine⟨_,rfl,rfl,_,rfl,Z8 ⟨_,rfl,M.p,dm,_,rfl,obm,Yh _ (by decide +kernel),_,rfl,M,ds,wa,xs,m,qs,i,rfl,W,hth i rfl,?_⟩⟩;rw[yX] at k;cases e:JJ m i with
   | none=>exact kk H ⟨ZA.refl H,e⟩
   | some x=>rw[e] at k;exact k H (ZA.refl H)
 rw[e1,xK] at k;have W1:=W.same S1
 try dsimp only
 refine Ce (fun H'=>ZA H H'/\(oa.bind fun p=>Vy m.trials p.1 p.2)=none) (fun kk=>?_) (fun H2 ⟨S2,e2⟩=>?_)
 ·cases oa with
  | none =>
   obtain rfl:=hoa;exact⟨_,rfl,rfl,_,rfl,Z1 (kk H1 ⟨S1,rfl⟩)⟩
  | some p =>
   obtain⟨hi,hn,a,rfl,ha⟩:=hoa;obtain⟨ts,t1,t2,_⟩:=(W1.ls (M.lt,m.trials.map Wj) (by simp[Mo.at_])).get;refine⟨_,rfl,rfl,_,rfl,Z8 ⟨_,rfl,M.p,CM,dm,_,_,rfl,S1 _ _ obm,Tm.cl,Tm.nt,Ab _,_,rfl,a,_,0,_,rfl,rfl,ZT.of (S1 _ _ ha),rfl,_,rfl,a,_,1,_,rfl,rfl,ZT.of (S1 _ _ ha),rfl,?_⟩⟩;refine⟨M.lt,m.trials,p.1,p.2,rfl,⟨ts,t1,t2⟩,ok.ok,hi,hn,fun H' S'=>?_⟩;rw[yX] at k;cases e:Vy m.trials p.1 p.2 with
   | none=>exact kk H' ⟨S1.trans S',e⟩
   | some x=>rw[e] at k;exact k H' (S1.trans S')
 rw[e2,xK] at k;have W2:=W.same S2;have F2:=W2.fk.f;refine⟨_,rfl,pl,rfl,⟨_,ZE.of (S2 _ _ hpl)⟩,?_⟩;refine V0 (ps.map V.str) (fun i σ H'=>∃v5:Option V,σ = [some (.ref M.p),some (.int day),some (.ref pl),some (thV th),some v2,v5]/\H2=H'/\∀j < i,∀y,ps[j]? = some y->Wm ((Zl ds y).getD 0) day=none) ⟨v5,rfl,rfl,fun j hj=>absurd hj (by lia)⟩ (fun i σ H' _ ⟨_,_,e,_⟩=>by rw[← e];exact ZE.of (S2 _ _ hpl)) ?_ ?_
 ·rintro i v σ H' hv ⟨v5,rfl,rfl,ha⟩;obtain⟨n,rfl,hn,hl⟩:=hget hv;obtain⟨d,hc⟩:=hcom i n hn;refine⟨_,rfl,M.p,CM,dm,_,_,rfl,S2 _ _ obm,Tm.cl,Tm.nf,Vm _,M.L.p,dx,_,rfl,S2 _ _ ob,Ye _ _ _ _ (by decide +kernel),_,rfl,_,rfl,M.L,ds,n,d,day,rfl,F2,hc,hl,hd,?_⟩;have eq:Wm ((Zl ds n).getD 0) day=Wm d day:=by rw[hc];rfl
  cases e:Wm d day with
  | none=>exact⟨_,rfl,rfl,Ct hn ha (eq.trans e)⟩
  | some x =>
   rw[B9 hn ha (eq.trans e)] at k;exact k H2 S2
 rintro σ H' ⟨v5,rfl,rfl,hb⟩;rw[hlen] at hb;rw[Cg hb,xK] at k
 try dsimp only
 refine Ce (fun H'=>ZA H H'/\(th.bind fun i=>Wm (brD m i) day)=none) (fun kk=>?_) (fun H3 ⟨S3,e3⟩=>?_)
 ·cases th with
  | none=>exact⟨_,rfl,rfl,_,rfl,Z1 (Z1 (kk H2 ⟨S2,rfl⟩))⟩
  | some i =>
   obtain⟨vs,b1,b2,b3⟩:=(W2.ls (M.lb,m.brs) (by simp[Mo.at_])).get;dsimp only at b1 b2 b3;have hin:inB i m.brs.length:=by
    rw[yX] at e1;unfold JJ at e1
    by_cases z:inB i m.brs.length
    ·exact z
    ·rw[if_neg z] at e1;cases e1
   obtain⟨j,rfl⟩:=yK hin.1;have hj:j < vs.length:=by have:=hin.2;lia
   obtain⟨e,he,re⟩:=b2.get (xB hj);obtain⟨x,d,rfl⟩:=ok.br j e he;obtain⟨a,us,ea,ha,⟨_,_,rfl,rfl,⟨_,_,rfl,rfl,rfl⟩⟩⟩:=re;have hbr:brD m (j:Int)=d:=by unfold brD;rw[yR,he]
   rw[yX,hbr] at k;refine⟨_,rfl,rfl,_,rfl,Z8 ⟨_,rfl,_,rfl,M.p,CM,dm,_,_,rfl,S2 _ _ obm,Tm.cl,Tm.nb,BJ _,_,rfl,M.lb,vs,j,_,rfl,rfl,ZE.of b1,Y8 (xB hj),a,_,1,_,ea,rfl,ZT.of ha,rfl,_,_,rfl,rfl,_,rfl,Z0 (fun z=>?_) (fun z=>?_)⟩⟩
   ·have e:Wm d day=some "NotYet" := if_pos z;rw[e] at k;exact⟨by decide +kernel,_,rfl,.inr ⟨_,rfl,Wx (hth _ rfl)⟩,by decide +kernel,_,rfl,.inr ⟨_,rfl,Wx hd⟩,fun _=>k H2 S2⟩
   ·exact kk H2 ⟨S2,by rw[yX,hbr];exact if_neg z⟩
 rw[e3,xK] at k;have W3:=W.same S3
 try dsimp only
 refine Ce (fun H'=>ZA H H'/\(oa.bind fun p=>Wm (m.days.getD p.1.toNat 0) day)=none) (fun kk=>?_) (fun H4 ⟨S4,e4⟩=>?_)
 ·cases oa with
  | none =>
   obtain rfl:=hoa;exact⟨_,rfl,rfl,_,rfl,Z1 (Z1 (kk H3 ⟨S3,rfl⟩))⟩
  | some p =>
   obtain⟨i,n⟩:=p;obtain⟨hi,hn,a,rfl,ha⟩:=hoa;obtain⟨vs,y1,y2,y3⟩:=(W3.ls (M.ly,m.days.map D.int) (by simp[Mo.at_])).get;dsimp only at y1 y2 y3;rw[xA] at y3;have hin:inB i m.trials.length:=by
    rw[yX] at e2;unfold Vy at e2
    by_cases z:inB i m.trials.length
    ·exact z
    ·split at e2
     ·rw[if_neg z] at e2;cases e2
     ·cases e2
   obtain⟨j,rfl⟩:=yK hin.1;have hj:j < vs.length:=by have:=hin.2;have:=ok.dl;lia
   obtain⟨e,he,re⟩:=y2.get (xB hj);rw[xI] at he;obtain⟨d,hd1,rfl⟩:=xR.mp he;have re:vs[j]= .int d:=re;have hdd:m.days.getD (j:Int).toNat 0=d:=by rw[yR,xZ,hd1];rfl
   rw[yX] at k;dsimp only at k;rw[hdd] at k;refine⟨_,rfl,rfl,_,rfl,Z8 ⟨_,rfl,_,rfl,M.p,CM,dm,_,_,rfl,S3 _ _ obm,Tm.cl,Tm.ny,GK _,_,rfl,a,_,0,_,rfl,rfl,ZT.of (S3 _ _ ha),rfl,M.ly,vs,j,.int d,rfl,rfl,ZE.of y1,re▸Y8 (xB hj),_,_,rfl,rfl,_,rfl,Z0 (fun z=>?_) (fun z=>?_)⟩⟩
   ·have e:Wm d day=some "NotYet" := if_pos z;rw[e] at k;exact⟨by decide +kernel,_,rfl,.inr ⟨_,rfl,Wx hd⟩,fun _=>k H3 S3⟩
   ·exact kk H3 ⟨S3,by rw[yX];dsimp only;rw[hdd];exact if_neg z⟩
 rw[e4,xK] at k;have W4:=W.same S4;have F4:=W4.fk.f;refine⟨_,rfl,pl,rfl,⟨_,ZE.of (S4 _ _ hpl)⟩,?_⟩;refine V0 (ps.map V.str) (fun i σ H'=>∃v5:Option V,σ = [some (.ref M.p),some (.int day),some (.ref pl),some (thV th),some v2,v5]/\H4=H'/\∀j < i,∀y,ps[j]? = some y->JX ds y day=none) ⟨v5,rfl,rfl,fun j hj=>absurd hj (by lia)⟩ (fun i σ H' _ ⟨_,_,e,_⟩=>by rw[← e];exact ZE.of (S4 _ _ hpl)) ?_ ?_
 ·rintro i v σ H' hv ⟨v5,rfl,rfl,ha⟩;obtain⟨n,rfl,hn,hl⟩:=hget hv;refine⟨_,rfl,M.p,CM,dm,_,_,rfl,S4 _ _ obm,Tm.cl,Tm.nf,Vm _,M.L.p,dx,_,rfl,S4 _ _ ob,Ye _ _ _ _ (by decide +kernel),_,rfl,_,rfl,M.L,ds,n,day,rfl,F4,hl,hd,?_⟩;cases e:JX ds n day with
  | none=>exact⟨_,rfl,rfl,Ct hn ha e⟩
  | some x =>
   rw[B9 hn ha e] at k;exact k H4 S4
 rintro σ H' ⟨v5,rfl,rfl,hg⟩;rw[hlen] at hg;rw[Cg hg] at k;exact k _ S4
end
section
variable{C CM:eF}
def wOk(ds:List ZI)(day:Int)(f:Str->Int)(n:Str):Prop:=∃d,Zl ds n=some d/\d<=day/\JY (kw ds n) day (f n)
inductive WO(C CM:eF)(vs:List V)(H:Hp)(Q:VK)(z3:XK):Prop
 |mk(M:ML) (ds:List ZI) (wa:dZ) (xs:eA) (m:Mo) (qs:eA) (nl:eF) (ns:dX) (day:Int) (f:Str->Int)(_:vs = [.ref M.p,.ref nl,.int day])(_:ZC C CM H M ds wa xs m qs)(_:ds.length<=1000)(_:H nl=some (.lst (ns.map V.str)))(_:ns.length<=60)(_:0<=day)(_:day<=9999)(_:(∀n∈ns,wOk ds day f n))(_:∀(l:eF)(us:List V)(H':Hp),H l=none->ZA H H'->H' l=some (.lst us)->ZN H' (ns.map fun n=>(n,f n)) us->Q (.ref l) H')
abbrev Cf:Stmt:=Yg (top 57) 38
theorem LM:Nm (Zp Cf) "day" .cell:=by decide +kernel
theorem LY:Nm (Zp Cf) "self" .cell:=by decide +kernel
theorem cV(Zhu:ZQ K CM "weighed" "Moot.weighed" Cf)(Tc:YV K C)(Tm:ZK K CM)(M_weight:Mt P w K mg base C "weight" ["self","name","day"] 2 (VS C)):Mt P w K mg base CM "weighed" ["self","names","day"] 3 (WO C CM):=by
 refine Zhu.mq ["self","names","day"] fun H vs Q E hr h=>?_;obtain⟨M,ds,wa,xs,m,qs,nl,ns,day,f,rfl,W,hds,hnl,hlen,h0,h1,hw,k⟩:=h
 refine⟨rfl,_,(Zf (Zt (V1 (locs:=["name"]) (fr:=[("self", 0),("day", 2)]) ⟨rfl,by decide +kernel,by decide +kernel,by decide +kernel,by decide +kernel,by decide +kernel⟩ (.consN LY (.consN LM .nil)) rfl (Wb Q1) ⟨fun _ _ _ _ _ _=>by
  have cnd:(inN ["name"] [("self", 0),("day", 2)]).Nodup:=by decide +kernel
  exact⟨(Wp 0 cnd),Uv,(Z9 (Za (Y5 0) (Za (Yn (OM (Vr 1)) Tc.cl M_weight (Za (Y5 0) (Za (Vr 2) Zb))) Zb)))⟩⟩))),?_⟩
 have hz:(60:Nat)<=sizeLine:=by decide
 obtain⟨dm,obm⟩:=W.ob;obtain⟨dx,ob⟩:=W.fk.f.ob;refine⟨_,rfl,nl,rfl,⟨_,ZE.of hnl⟩,?_⟩;refine Jm (xs:=ns.map V.str) (fun i ys H'=>ZA H H'/\ZN H' ((ns.take i).map fun n=>(n,f n)) ys) ⟨ZA.refl H,rfl⟩ (by rw[xA];lia) (fun i ys H' _ ⟨e,_⟩=>ZE.of (e _ _ hnl)) ?_ ?_ ?_
 ·rintro i ys H' ⟨_,r⟩;rw[r.len,xA,xU];lia
 ·rintro i x ys H' hx ⟨S,r⟩ ls hls;obtain⟨u,rfl⟩:=Ul hls;rw[xI] at hx;obtain⟨n,hn,rfl⟩:=xR.mp hx;obtain⟨d,hc,hd,hi⟩:=hw n (xJ hn);have W1:=W.same S;refine⟨⟨[_],rfl,rfl⟩,Z8 ?_⟩;refine⟨_,rfl,_,rfl,M.p,CM,dm,_,_,rfl,S _ _ obm,Tm.cl,Tm.nf,Vm _,M.L.p,dx,_,rfl,S _ _ ob,Ye _ _ _ _ (by decide +kernel),_,rfl,_,rfl,M.L,ds,wa,n,day,d,f n,rfl,W1.fk.f,W1.fk.w,hds,h0,h1,hc,hd,hi,fun H2 S2=>?_⟩;refine⟨by show 2<=sizeLine;decide,fun q hq=>⟨(S.trans S2).trans (ZA.new hq),?_⟩⟩;rw[xV,hn,xO];exact ZN.snoc (p:=(n,f n)) Zg (ZN.mono (ZA.t (S2.trans (ZA.new hq))) r)
 ·rintro ys H' ⟨S,r⟩ l hl;rw[xA,yC] at r;exact k l ys _ (S.free hl) (S.trans (ZA.new hl)) Zg (ZN.mono (ZA.t (ZA.new hl)) r)
def Ba(m:Mo)(n:Str)(i:Nat):Bool:=match (m.trials[i]?).bind (·.named) with
 | some p=>decide (p.2=n) && m.verd.getD i false && decide ((m.pen n).getD 0<=(i:Int))
 | none=>false
def AX(m:Mo)(k:Nat)(n:Str):Bool:=(List.range k).any (Ba m n)
def BR(m:Mo)(n:Str):Bool:=AX m m.trials.length n
theorem KU(m:Mo)(k:Nat)(n:Str):AX m (k+1) n=(AX m k n || Ba m n k):=by
 unfold AX;rw[List.range_succ,List.any_append];simp
inductive Tp(C CM:eF)(vs:List V)(H:Hp)(Q:VK)(z3:XK):Prop
 |mk(M) (ds) (wa) (xs) (m) (qs)(_:vs = [.ref M.p])(_:ZC C CM H M ds wa xs m qs)(_:m.verd.length=m.trials.length)(_:m.trials.length<=60)(_:∀g kvs H',H g=none->ZA H H'->H' g=some (.dK kvs)->(∀n:Str,(Zy kvs (.inr n)).isSome=BR m n)->Q (.ref g) H')
abbrev Kg:Stmt:=Yg (top 57) 37
theorem O0(Zhv:ZQ K CM "forsworn_names" "Moot.forsworn_names" Kg)(T:Txt mg)(Tm:ZK K CM)(C3:∃t,mg "NAMED" = some (.int 3 t)):Mt P w K mg base CM "forsworn_names" ["self"] 1 (Tp C CM):=by
 obtain⟨t3,c_NAMED⟩:=C3;have r_NAMED:ZG (.int 3) (.int 3 t3):=⟨t3,rfl⟩;refine Zhv.mq ["self","names","case","suit","oath"] fun H vs Q E hr h=>?_;obtain⟨M,ds,wa,xs,m,qs,rfl,W,hv,hle,k⟩:=h
 refine⟨rfl,_,(Zc (Zz 1 Bg) (Zc (Ws PassesOwn.never rfl (KA T.enumerate (Za (Zw Q0) Zb)) (C7 (by rfl) (Wo (Yt 2) (Wo (Yt 3) Ju)))
 (Zc (Zz 4 (Zi Zv Q3 (Y4 c_NAMED r_NAMED) (fun _ _=>rfl)))
 (Zf (Zo (QW.pt (Vv (Zr JS Q4 Y3 (Zu _)) (Vv (Wt (Zi Yb (Zw Q0) Q2 (fun _ _=>rfl))) (Us (Zr Af Q2 (Ke hr (Zw Q0) (Zi Zv Q4 Zd (fun _ _=>rfl)) Zd) (Zu _)))))) (Zf (JI hr Q1 (Zi Zv Q4 Zd (fun _ _=>rfl)) Uf)) Zn))))
 (Zf (Zt Q1)))),?_⟩
 have hz:(5000:Nat)<=sizeLine:=by decide
 obtain⟨dm,obm⟩:=W.ob;refine fun g hg=>?_;have Sg:=ZA.new (o:=.dK []) hg;have kg:(upd H g (.dK [])) g=some (.dK []):=Zg;generalize (upd H g (.dK []))=H1 at Sg kg ⊢;refine Yc ?_;have W1:=W.same Sg;obtain⟨ts,t1,t2,t3'⟩:=(W1.ls (M.lt,m.trials.map Wj) (by simp[Mo.at_])).get;obtain⟨bs,v1,v2,v3⟩:=(W1.ls (M.lv,m.verd.map D.bl) (by simp[Mo.at_])).get;dsimp only at t1 t2 t3' v1 v2 v3;rw[xA] at t3' v3;obtain⟨pk,p1,p2,p3⟩:=W1.pn;have ngp:∀{o:HO}{b:eF},H b=some o->b≠g:=fun e z=>by rw[z,hg] at e;cases e
 refine⟨_,rfl,M.p,CM,dm,_,_,rfl,Sg _ _ obm,Tm.cl,Tm.nt,Ab _,M.lt,ts,rfl,ZE.of t1,?_⟩;refine Oa ts (fun i σ H'=>∃(v2 v3 v4:Option V)(kvs:List (ZS×V)),σ = [some (.ref M.p),some (.ref g),v2,v3,v4]/\ZA H H'/\H' g=some (.dK kvs)/\(∀b o,b≠g->H1 b=some o->H' b=some o)/\kvs.length<=i/\∀n:Str,(Zy kvs (.inr n)).isSome=AX m i n) ⟨none,none,none,[],rfl,Sg,kg,fun _ _ _ e=>e,yL _,fun _=>rfl⟩
  (fun i σ H' _ ⟨_,_,_,_,_,_,_,k1,_⟩=>ZE.of (k1 _ _ (ngp ((W.ls (M.lt,m.trials.map Wj) (by simp[Mo.at_])).get.choose_spec.1)) t1)) ?_ ?_
 ·rintro i x p σ H' hx ⟨v2',v3',v4',kvs,rfl,S,kk,k1,hk,hf⟩ hp;have Sp:=ZA.new (o:=.tup [.int i,x]) hp;have kp:(upd H' p (.tup [.int i,x])) p=some (.tup [.int i,x]):=Zg;generalize (upd H' p (.tup [.int i,x]))=H2 at Sp kp ⊢;have hi:i < ts.length:=(xH.mp hx).1;obtain⟨t,ht⟩:∃t,m.trials[i]? = some t:=⟨_,xB (by lia)⟩;obtain⟨vb,hvb⟩:∃vb,m.verd[i]? = some vb:=⟨_,xB (by lia)⟩;obtain⟨ta,u1,u2,u4,hu,hta,_,_,h4⟩:=ZU.get (l:=M.lt) t2 ht;rw[hu] at hx;cases hx;have k2:∀b o,b≠g->H1 b=some o->H2 b=some o:=fun b o n e=>Sp _ _ (k1 b o n e);have kt:∀{b us},H1 b=some (.tup us)->H2 b=some (.tup us):=fun {b us} e=>k2 b _ (fun z=>by rw[z,kg] at e;cases e) e;have hvd:m.verd.getD i false=vb:=by rw[xZ,hvb];rfl
  refine⟨p,_,rfl,ZT.of kp,rfl,_,_,rfl,_,_,rfl,rfl,?_⟩;refine⟨_,rfl,ta,_,3,u4,rfl,rfl,ZT.of (kt hta),rfl,?_⟩;have stay:(∀n,Ba m n i=false)->∃(v2 v3 v4:Option V)(kvs:List (ZS×V)),[some (V.ref M.p),some (.ref g),some (.int i),some (.ref ta),some u4]= [some (.ref M.p),some (.ref g),v2,v3,v4]/\ZA H H2/\H2 g=some (.dK kvs)/\(∀b o,b≠g->H1 b=some o->H2 b=some o)/\kvs.length<=i+1/\∀n:Str,(Zy kvs (.inr n)).isSome=AX m (i+1) n:=fun z =>
   ⟨_,_,_,kvs,rfl,S.trans Sp,Sp _ _ kk,k2,by lia,fun n=>by rw[KU,z,Bool.or_false];exact hf n⟩
  cases hn:t.named with
  | none =>
   rw[hn] at h4;cases h4;refine⟨_,rfl,rfl,_,rfl,Z1 (Z1 (stay fun n=>?_))⟩;unfold Ba;rw[ht,yX,hn]
  | some o =>
   rw[hn] at h4;obtain⟨c0,n0⟩:=o;obtain⟨b,bs',rfl,hb,⟨y1,r1,rfl,e1,⟨y2,r2,rfl,e2,e3⟩⟩⟩:=h4;cases e1;cases e2;cases e3;have hfb:∀n,Ba m n i=(decide (n0=n) && vb && decide ((m.pen n).getD 0<=(i:Int))):=fun n=>by unfold Ba;rw[ht,yX,hn,hvd]
   have ibs:i < bs.length:=by rw[v3];exact(xH.mp hvb).1
   obtain⟨e,he,re⟩:=v2.get (xB ibs);rw[xI,hvb] at he;cases he;have re:bs[i]= .bl vb:=re;refine⟨_,rfl,rfl,_,rfl,Z8 ?_⟩;refine⟨_,rfl,M.p,CM,dm,_,_,rfl,k2 _ _ (ngp obm) (Sg _ _ obm),Tm.cl,Tm.nv,Sv _,_,rfl,M.lv,bs,i,.bl vb,rfl,rfl,ZE.of (k2 _ _ (fun z=>by rw[z,kg] at v1;cases v1) v1),re▸Y8 (xB ibs),vb,rfl,?_⟩;cases vb with
   | false=>exact Z1 (Z1 (stay fun n=>by rw[hfb,Bool.and_false];rfl))
   | true =>
    refine Z8 ?_;have ndp:M.dp≠g:=fun z=>by obtain⟨pk',q1,_⟩:=W.pn;rw[z,hg] at q1;cases q1
    have p1':=k2 _ _ ndp p1;have gp:=ZZ.k (k:=Sum.inr n0) p1';rw[p3] at gp;refine⟨_,rfl,_,rfl,M.p,CM,dm,_,_,rfl,k2 _ _ (ngp obm) (Sg _ _ obm),Tm.cl,Tm.np,Kz _,M.dp,rfl,.inl ⟨pk,.inl p1'⟩,_,rfl,b,_,1,_,rfl,rfl,ZT.of (kt hb),rfl,_,gp,?_⟩;have eo:(Option.map V.int (m.pen n0)).getD (.int 0)= .int ((m.pen n0).getD 0):=by cases m.pen n0<;>rfl
    rw[eo];refine⟨_,_,rfl,rfl,_,rfl,Z0 (fun z=>?_) (fun z=>stay fun n=>?_)⟩
    ·refine⟨_,rfl,_,rfl,b,_,1,_,rfl,rfl,ZT.of (kt hb),rfl,g,_,rfl,YZ.k (k:=Sum.inr n0) (Sp _ _ kk) (by lia),?_⟩;refine⟨_,_,_,Z5 kvs (.inr n0) (.bl true),rfl,fun b o e=>?_,Zg,fun b o n e=>by rw[Ze n];exact k2 b o n e,xX (Vz _ _ _) (by lia),fun n=>?_⟩
     ·rw[Ze (ngp e)];exact(S.trans Sp) b o e
     ·rw[Ue,KU,hfb,← hf n]
      by_cases e:n=n0
      ·subst e;rw[if_pos rfl,yN rfl,yN z];simp
      ·grind
    ·grind
 ·rintro σ H' ⟨v2',v3',v4',kvs,rfl,S,kk,k1,hk,hf⟩;rw[t3'] at hf;exact⟨_,rfl,k g kvs H' hg S kk hf⟩
end
section
variable{C CM:eF}{c:dZ}
abbrev Yd(f:Str->Int)(ns:dX):Vd:=ns.map fun n=>(n,f n)
def Uy(m:Mo)(need:Int)(f:Str->Int)(o1 o2:dX):Option Str :=
 if 60<=m.trials.length then some "TooMany" else if 12 < max o1.length o2.length then some "TooMany" else (Yr m).or (if ER (o1++o2) < (o1++o2).length then some ("SwornTwice" : Str) else
  ((o1++o2).findSome? fun n=>if BR m n=true then some ("Forsworn" : Str) else none).or (if (wts (Yd f o1)).sum < need then some ("TooLight" : Str) else none))
inductive WH(C CM:eF)(c:dZ)(vs:List V)(H:Hp)(Q:VK)(E:XK):Prop
 |mk(M) (ds) (wa) (xs) (m) (qs) (day need) (l1 l2) (o1 o2) (f)(_:vs = [.ref M.p,.int day,.int need,.ref l1,.ref l2])(_:ZC C CM H M ds wa xs m qs)(_:VD m)(_:ds.length<=1000)(_:H l1=some (.lst (o1.map V.str)))(_:H l2=some (.lst (o2.map V.str)))(_:o1.length<=60)(_:o2.length<=60)(_:0<=day)(_:day<=9999)(_:okI need)(_:(∀n∈o1++o2,n.length<=100/\wOk ds day f n/\1<=f n/\f n<=1000))(_:∀H',ZA H H'->due E c H' (Q .non H') (Uy m need f o1 o2))
abbrev Ip:Stmt:=Yg (top 57) 42
theorem QV(Zhw:ZQ K CM "check_sides" "Moot.check_sides" Ip)(T:Txt mg)(Tm:ZK K CM)(er:Er K mg c errs)(C0:∃t,mg "MOST_CASES" = some (.int 60 t))(C1:∃t,mg "MOST_SWEARERS" = some (.int 12 t))(MM_check_moments:ZY P w K mg base CM "check_moments" 1 (YN C CM c))(MM_forsworn_names:Mt P w K mg base CM "forsworn_names" ["self"] 1 (Tp C CM))(MM_weighed:Mt P w K mg base CM "weighed" ["self","names","day"] 3 (WO C CM))(Z1l:Fn P w K mg base "total" ["side"] 1 Td):ZY P w K mg base CM "check_sides" 4 (WH C CM c):=by
 obtain⟨t0,c_MOST_CASES⟩:=C0;obtain⟨t1,c_MOST_SWEARERS⟩:=C1;have r_MOST_CASES:ZG (.int 60) (.int 60 t0):=⟨t0,rfl⟩;have r_MOST_SWEARERS:ZG (.int 12) (.int 12 t1):=⟨t1,rfl⟩;refine Zhw.mx ["self","day","need","ones","others","barred","name"] ["self","day","need","ones","others"] fun H vs Q E hr h=>?_;obtain⟨M,ds,wa,xs,m,qs,day,need,l1,l2,o1,o2,f,rfl,W,ok,hds,h1,h2,n1,n2,d0,d1,hi,hw,k⟩:=h
 refine⟨rfl,_,(Zc (Zo (Zr Af (Z3 Yv T.len Yk (Za (Zw Q0) Zb)) (Y4 c_MOST_CASES r_MOST_CASES) (Zu _)) (Zf (Wa Yw er (We (Yp (Yx (Y4 c_MOST_CASES r_MOST_CASES) (Yp Wd)))))) Zn) (Zc (Zo (Zr Am (Z3 (DV (by rfl)) T.max Cs (Za (Z3 Yv T.len Yk (Za Q3 Zb)) (Za (Z3 Yv T.len Yk (Za Q4 Zb)) Zb))) (Y4 c_MOST_SWEARERS r_MOST_SWEARERS) (Zu _)) (Zf (Wa Yw er (We (Yp (Yx (Y4 c_MOST_SWEARERS r_MOST_SWEARERS) (Yp Wd)))))) Zn)
 (Zc (Zk (JQ Z4 Q0 Tm.cl MM_check_moments))
 (Zc (Zo (Zr Uu (QX (by rfl) T.len T.set (Za (Z2 Jq Q3 Q4) Zb)) (Z3 Yv T.len Yk (Za (Z2 Jq Q3 Q4) Zb)) (Zu _)) (Zf (Wa Yw er Z7)) Zn)
 (Zc (Zz 5 (Et Q0 Tm.cl MM_forsworn_names))
 (Zc (Cp Du Yw (by rfl) (Wb (Z2 Jq Q3 Q4)) (Yt 6)
 (fun hxq hxp=>(Zf (Zo (Zr (JV hr) Q6 Q5 rfl) (Zf (Wa hxp er (We (Yx Q6 (Yp Wd))))) Zn))))
 (Zf (Zo (Zr Uu (Zj Z1l (Za (Yn Q0 Tm.cl MM_weighed (Za Q3 (Za Q1 Zb))) Zb)) Q2 (Zu _)) (Zf (Wa Yw er (We (Yp (Yx Q2 Wd))))) Zn)))))))),?_⟩
 have hz:(5000:Nat)<=sizeLine:=by decide
 obtain⟨dm,obm⟩:=W.ob;obtain⟨ts,t1,_,t3⟩:=(W.ls (M.lt,m.trials.map Wj) (by simp[Mo.at_])).get;dsimp only at t1 t3;rw[xA] at t3;unfold Uy at k;have e1:(o1.map V.str).length=o1.length:=xA ..;have e2:(o2.map V.str).length=o2.length:=xA ..;refine⟨_,rfl,M.p,CM,dm,_,_,rfl,obm,Tm.cl,Tm.nt,Ab _,M.lt,ts,rfl,.inl (ZE.of t1),_,_,rfl,rfl,_,rfl,Z0 (fun z=>?_) (fun z=>?_)⟩
 ·rw[if_pos (by lia)] at k;exact⟨by decide +kernel,.inr ⟨60,rfl,by decide +kernel⟩,by decide +kernel,fun _=>k H (ZA.refl H)⟩
 rw[if_neg (by lia)] at k;refine⟨_,rfl,l1,_,rfl,.inl (ZE.of h1),_,rfl,l2,_,rfl,.inl (ZE.of h2),_,_,rfl,?_⟩;have em:(if ((o2.map V.str).length:Int) > (o1.map V.str).length then ((o2.map V.str).length:Int) else (o1.map V.str).length)=((max o1.length o2.length:Nat):Int):=by rw[e1,e2];split<;>lia
 rw[em];refine⟨_,_,rfl,rfl,_,rfl,Z0 (fun z=>?_) (fun z=>?_)⟩
 ·rw[if_pos (by lia)] at k;exact⟨by decide +kernel,.inr ⟨12,rfl,by decide +kernel⟩,by decide +kernel,fun _=>k H (ZA.refl H)⟩
 rw[if_neg (by lia)] at k;refine⟨_,rfl,M.p,dm,_,rfl,obm,Yh _ (by decide +kernel),M,ds,wa,xs,m,qs,rfl,W,?_⟩;cases em:Yr m with
 | some x=>rw[em] at k;exact k H (ZA.refl H)
 | none =>
 rw[em,xK] at k;have ec:o1.map V.str++o2.map V.str=(o1++o2).map V.str:=xO.symm;refine⟨_,rfl,_,rfl,l1,l2,_,_,rfl,rfl,h1,h2,by rw[e1,e2];lia,fun q hq=>?_⟩;rw[ec];have S1:=ZA.new (o:=.lst ((o1++o2).map V.str)) hq;have k1:(upd H q (.lst ((o1++o2).map V.str))) q=some (.lst ((o1++o2).map V.str)):=Zg;generalize (upd H q (.lst ((o1++o2).map V.str)))=H1 at S1 k1 ⊢;refine⟨q,o1++o2,rfl,ZE.of k1,by rw[xE];lia,?_⟩;refine⟨_,rfl,_,rfl,l1,l2,_,_,rfl,rfl,S1 _ _ h1,S1 _ _ h2,by rw[e1,e2];lia,fun q2 hq2=>?_⟩;rw[ec];have S2:=S1.trans (ZA.new (o:=.lst ((o1++o2).map V.str)) hq2);have k2:(upd H1 q2 (.lst ((o1++o2).map V.str))) q2=some (.lst ((o1++o2).map V.str)):=Zg;generalize (upd H1 q2 (.lst ((o1++o2).map V.str)))=H2 at S2 k2 ⊢;refine⟨q2,_,rfl,.inl (ZE.of k2),_,_,rfl,rfl,_,rfl,Z0 (fun z=>?_) (fun z=>?_)⟩
 ·rw[if_pos (by rw[xA] at z;lia)] at k;exact k H2 S2
 rw[if_neg (by rw[xA] at z;lia)] at k;refine⟨_,rfl,M.p,dm,_,rfl,S2 _ _ obm,Yh _ (by decide +kernel),M,ds,wa,xs,m,qs,rfl,W.same S2,ok.vl,ok.le,fun g kvs H3 hg S3' kg hf=>?_⟩;have S3:=S2.trans S3';refine Yc ?_;refine⟨_,rfl,_,rfl,l1,l2,_,_,rfl,rfl,S3 _ _ h1,S3 _ _ h2,by rw[e1,e2];lia,fun q3 hq3=>?_⟩;rw[ec];have S4':=ZA.new (o:=.lst ((o1++o2).map V.str)) hq3;have S4:=S3.trans S4';have kg4:=S4' _ _ kg;have k4:(upd H3 q3 (.lst ((o1++o2).map V.str))) q3=some (.lst ((o1++o2).map V.str)):=Zg;generalize (upd H3 q3 (.lst ((o1++o2).map V.str)))=H4 at S4 k4 kg4 ⊢;refine⟨q3,rfl,⟨_,ZE.of k4⟩,?_⟩;refine V0 ((o1++o2).map V.str) (fun i σ H'=>∃v6:Option V,σ = [some (.ref M.p),some (.int day),some (.int need),some (.ref l1),some (.ref l2),some (.ref g),v6]/\H4=H'/\∀j < i,∀y,(o1++o2)[j]? = some y->(if BR m y=true then some ("Forsworn" : Str) else none)=none) ⟨none,rfl,rfl,fun j hj=>absurd hj (by lia)⟩ (fun i σ H' _ ⟨_,_,e,_⟩=>by rw[← e];exact ZE.of k4) ?_ ?_
 ·rintro i v σ H' hv ⟨v6,rfl,rfl,ha⟩;rw[xI] at hv;obtain⟨n,hn,rfl⟩:=xR.mp hv;refine⟨_,rfl,_,rfl,g,_,rfl,ZZ.k (k:=Sum.inr n) kg4,_,rfl,?_⟩;have hfn:=hf n;cases e:Zy kvs (.inr n) with
  | none =>
   rw[e] at hfn;exact Z1 ⟨_,rfl,rfl,Ct hn ha (if_neg (by rw[← hfn];decide))⟩
  | some v =>
   rw[e] at hfn;rw[B9 (f:=fun n=>if BR m n=true then some ("Forsworn" : Str) else none) hn ha (if_pos hfn.symm)] at k;exact Z8 ⟨_,rfl,.inl ⟨n,rfl,by have:=(hw n (xJ hn)).1;lia⟩,by decide +kernel,fun _=>k H4 S4⟩
 rintro σ H' ⟨v6,rfl,rfl,ha⟩;rw[xA] at ha;rw[Cg (f:=fun n=>if BR m n=true then some ("Forsworn" : Str) else none) ha,xK] at k
 try dsimp only
 refine⟨_,rfl,M.p,dm,_,rfl,S4 _ _ obm,Yh _ (by decide +kernel),_,rfl,_,rfl,M,ds,wa,xs,m,qs,l1,o1,day,f,rfl,W.same S4,hds,S4 _ _ h1,n1,d0,d1,fun n hn=>(hw n (yP _ hn)).2.1,fun l us H5 hl S5' kl rs=>?_⟩;refine⟨.ref l,Yd f o1,rfl,⟨l,us,rfl,kl,rs⟩,⟨fun p hp=>?_,by rw[xA];exact n1⟩,fun H6 S6=>?_⟩
 ·grind
 have S:=(S4.trans S5').trans S6;refine⟨_,rfl,_,_,rfl,rfl,_,rfl,Z0 (fun z=>?_) (fun z=>?_)⟩
 ·rw[if_pos z] at k;exact⟨by decide +kernel,_,rfl,.inr ⟨_,rfl,Wx hi⟩,fun _=>k H6 S⟩
 ·rw[if_neg z] at k;exact k H6 S
end
def JA(M:ML)(ds:List ZI)(wa:dZ)(xs qs:eA)(H H':Hp):Prop:=∀b o,H b=some o->¬mo M ds wa xs qs b->H' b=some o
def WQ(M:ML)(ds:List ZI)(wa:dZ)(xs qs:eA)(M':ML)(ds':List ZI)(wa':dZ)(xs' qs':eA)(H:Hp):Prop:=∀b,mo M' ds' wa' xs' qs' b->mo M ds wa xs qs b\/H b=none
theorem WQ.folk(f:BY M.L ds wa ds' wa' H):WQ M ds wa xs qs M ds' wa' xs qs H:=fun b hb=>by
 rcases hb with z | z | z | z | z
 ·exact .inl (.inl z)
 ·exact .inl (.inr (.inl z))
 ·exact .inl (.inr (.inr (.inl z)))
 ·exact .inl (.inr (.inr (.inr (.inl z))))
 ·exact(f b z).imp (fun z=>.inr (.inr (.inr (.inr z)))) id
theorem Ao:mo M ds wa xs qs M.ld:=.inr (.inr (.inl (by simp[ML.ls])))
section
variable{C CM:eF}
theorem XM(M:ML):(Wn M).length < 1000:=show 9 < 1000 by decide
def Mo.tried(m:Mo)(day:Int)(t:ZW):Mo:={m with trials:=m.trials ++ [t],days:=m.days ++ [day],verd:=(Wl [] 0 (m.trials ++ [t])).1 }
theorem oaV.rep(h:oaV H oa v):YA (fz xs H) (Bp oa) v:=by
 cases oa with
 | none=>exact h
 | some p=>obtain⟨_,_,a,e,ha⟩:=h;exact⟨a,_,e,Yz ha,⟨_,_,rfl,rfl,⟨_,_,rfl,rfl,rfl⟩⟩⟩
theorem oaV.same(h:oaV H oa v)(k:ZA H H'):oaV H' oa v:=by
 cases oa with
 | none=>exact h
 | some p=>obtain⟨a1,a2,a,e,ha⟩:=h;exact⟨a1,a2,a,e,k _ _ ha⟩
theorem ZN.fz(r:ZN H sd us):ZP (fz xs H) (sd.map Dj) us:=(ZN.mono (fun _ _ e=>Yz e) r).rep
inductive To(C CM:eF)(vs:List V)(H:Hp)(Q:VK)(z3:XK):Prop
 |mk(M) (ds) (wa) (xs) (m) (qs) (day need) (l1 l2) (o1 o2) (f) (oa) (v2)(_:vs = [.ref M.p,.int day,.int need,.ref l1,.ref l2,v2])(_:ZC C CM H M ds wa xs m qs)(_:VD m)(_:m.trials.length < 60)(_:ds.length<=1000)(_:H l1=some (.lst (o1.map V.str)))(_:H l2=some (.lst (o2.map V.str)))(_:o1.length<=60)(_:o2.length<=60)(_:0<=day)(_:day<=9999)(_:1<=need)(_:need<=12000)(_:(∀n∈o1++o2,wOk ds day f n/\1<=f n/\f n<=1000))(_:oaV H oa v2)(_:∀lv s1 s2 H',ZC C CM H' (M.setv lv) ds wa (s1::s2::xs) (m.tried day ⟨Yd f o1,Yd f o2,need,oa⟩) qs->JA M ds wa xs qs H H'->WQ M ds wa xs qs (M.setv lv) ds wa (s1::s2::xs) qs H->Q (.int m.trials.length) H')
abbrev IB:Stmt:=Yg (top 57) 39
theorem Xu(Zhx:ZQ K CM "try_case" "Moot.try_case" IB)(T:Txt mg)(Tm:ZK K CM)(MM_weighed:Mt P w K mg base CM "weighed" ["self","names","day"] 3 (WO C CM))(Zhj:Fn P w K mg base "settled" ["suits"] 4 UP):Mt P w K mg base CM "try_case" ["self","day","need","ones","others","oath"] 5 (To C CM):=by
 refine Zhx.mq ["self","day","need","ones","others","oath"] fun H vs Q E hr h=>?_;obtain⟨M,ds,wa,xs,m,qs,day,need,l1,l2,o1,o2,f,oa,v2,rfl,W,ok,hlt,hds,h1,h2,n1,n2,d0,d1,e0,e1,hw,hoa,k⟩:=h;refine⟨rfl,_,(Zc (Zk (Y0 F.plainAttrs_list F.slot_list_append F.type_list_append Y9 (Zw Q0) (Za (Z9 (Za (Yn Q0 Tm.cl MM_weighed (Za Q3 (Za Q1 Zb))) (Za (Yn Q0 Tm.cl MM_weighed (Za Q4 (Za Q1 Zb))) (Za Q2 (Za Q5 Zb))))) Zb))) (Zc (Zk (Y0 F.plainAttrs_list F.slot_list_append F.type_list_append Y9 (Zw Q0) (Za Q1 Zb))) (Zc (Vw Q0 (Zj Zhj (Za (Zw Q0) Zb))) (Zf (Zt (Z2 Ah (Z3 Yv T.len Yk (Za (Zw Q0) Zb)) Zd)))))),?_⟩;have hz:(5000:Nat)<=sizeLine:=by decide
 obtain⟨dm,obm⟩:=W.ob;obtain⟨ts,t1,_,t3⟩:=(W.ls (M.lt,m.trials.map Wj) (by simp[Mo.at_])).get;dsimp only at t1 t3;rw[xA] at t3;refine⟨_,rfl,M.p,CM,dm,_,_,rfl,obm,Tm.cl,Tm.nt,Ab _,.inl ⟨rfl,_,ZE.of t1⟩,?_⟩;refine⟨_,rfl,M.p,dm,_,rfl,obm,Yh _ (by decide +kernel),_,rfl,_,rfl,M,ds,wa,xs,m,qs,l1,o1,day,f,rfl,W,hds,h1,n1,d0,d1,fun n hn=>(hw n (yP _ hn)).1,fun s1 us1 H1 hs1 S1 ks1 rs1=>?_⟩;refine⟨_,rfl,M.p,dm,_,rfl,S1 _ _ obm,Yh _ (by decide +kernel),_,rfl,_,rfl,M,ds,wa,xs,m,qs,l2,o2,day,f,rfl,W.same S1,hds,S1 _ _ h2,n2,d0,d1,fun n hn=>(hw n (xF _ hn)).1,fun s2 us2 H2 hs2 S2 ks2 rs2=>?_⟩;refine⟨_,rfl,_,rfl,by show 4<=sizeLine;lia,fun p hp=>?_⟩;have S3:=ZA.new (o:=.tup [.ref s1,.ref s2,.int need,v2]) hp;have k3:(upd H2 p (.tup [.ref s1,.ref s2,.int need,v2])) p=some (.tup [.ref s1,.ref s2,.int need,v2]):=Zg;generalize (upd H2 p (.tup [.ref s1,.ref s2,.int need,v2]))=H3 at S3 k3 ⊢;have S23:=S2.trans S3;have S:=S1.trans S23;have out:∀{b:eF},H b=none->¬mo M ds wa xs qs b:=fun e z=>by obtain⟨o,e'⟩:=W.there z;rw[e] at e';cases e'
 have hs2':H s2=none:=S1.free hs2;have W3:=((W.same S).freeze (a:=s2) (S3 _ _ ks2) (fun z=>out hs2' (.inr (.inr (.inl z))))).freeze (a:=s1) (S23 _ _ ks1) (fun z=>out hs1 (.inr (.inr (.inl z))));refine⟨M.lt,ts,.ref p,rfl,rfl,S _ _ t1,by lia,?_⟩;have hd:YA (fz (s1::s2::xs) H3) (Wj ⟨Yd f o1,Yd f o2,need,oa⟩) (.ref p) :=
  ⟨p,_,rfl,Yz k3,⟨_,_,rfl,⟨s1,us1,rfl,V8 (by simp) (S23 _ _ ks1),ZN.fz (ZN.mono (ZA.t S23) rs1)⟩,⟨_,_,rfl,⟨s2,us2,rfl,V8 (by simp) (S3 _ _ ks2),ZN.fz (ZN.mono (ZA.t S3) rs2)⟩,⟨_,_,rfl,rfl,⟨_,_,rfl,(hoa.same S).rep,rfl⟩⟩⟩⟩⟩
 have W4:=W3.trial (S _ _ t1) hd;have T4:JA M ds wa xs qs H (upd H3 M.lt (.lst (ts ++ [.ref p]))):=fun b o e nb=>by
  rw[Ze (fun z:b=M.lt=>nb (z ▸ .inr (.inr (.inl (by simp[ML.ls])))))];exact S _ _ e
 generalize (upd H3 M.lt (.lst (ts ++ [.ref p])))=H4 at W4 T4 ⊢;obtain⟨dm4,obm4⟩:=W4.ob;obtain⟨ys,y1,_,y3⟩:=(W4.ls (M.ly,m.days.map D.int) (by simp[Mo.at_])).get;dsimp only at y1 y3;rw[xA] at y3;have hdl:=ok.dl;refine⟨_,rfl,M.p,CM,dm4,_,_,rfl,obm4,Tm.cl,Tm.ny,GK _,.inl ⟨rfl,_,ZE.of y1⟩,_,rfl,M.ly,ys,.int day,rfl,rfl,y1,by lia,?_⟩;have W5:=W4.day (d:=day) y1 rfl;have T5:JA M ds wa xs qs H (upd H4 M.ly (.lst (ys ++ [.int day]))):=fun b o e nb=>by
  rw[Ze (fun z:b=M.ly=>nb (z ▸ .inr (.inr (.inl (by simp[ML.ls])))))];exact T4 b o e nb
 generalize (upd H4 M.ly (.lst (ys ++ [.int day])))=H5 at W5 T5 ⊢;obtain⟨dm5,obm5⟩:=W5.ob;obtain⟨ts5,z1,z2,z3⟩:=(W5.ls (M.lt,(m.trials ++ [(⟨Yd f o1,Yd f o2,need,oa⟩:ZW)]).map Wj) (by simp[Mo.at_])).get;dsimp only at z1 z2 z3;rw[xA,xE,zG] at z3;have hok:∀t∈m.trials ++ [(⟨Yd f o1,Yd f o2,need,oa⟩:ZW)],Uh t:=fun t ht=>by
  rcases xL.mp ht with z | z
  ·exact ok.ok t z
  ·rw[xT.mp z];refine⟨⟨fun q hq=>?_,by show (o1.map _).length<=60;rw[xA];exact n1⟩,⟨fun q hq=>?_,by show (o2.map _).length<=60;rw[xA];exact n2⟩,e0,e1⟩
   ·grind
   ·grind
 refine⟨_,rfl,M.p,CM,dm5,_,_,rfl,obm5,Tm.cl,Tm.nt,Ab _,M.lt,_,rfl,⟨ts5,z1,z2⟩,hok,by rw[xE,zG];lia,fun lv H6 hlv klv S6=>?_⟩;have W6:=W5.same S6;obtain⟨dm6,obm6⟩:=W6.ob;refine⟨_,rfl,M.p,CM,dm6,_,rfl,obm6,Tm.cl,Tm.nv,XM _,?_⟩;rw[N4];have W7:=W6.setv obm6 klv (fun z=>by obtain⟨o,e⟩:=W5.there z;rw[hlv] at e;cases e);have T7:JA M ds wa xs qs H (upd H6 M.p (.ins CM dm6 (Wn (M.setv lv)))):=fun b o e nb=>by
  rw[Ze (fun z:b=M.p=>nb (.inl z))];exact S6 _ _ (T5 b o e nb)
 generalize (upd H6 M.p (.ins CM dm6 (Wn (M.setv lv))))=H7 at W7 T7 ⊢;obtain⟨dm7,obm7⟩:=W7.ob;obtain⟨ts7,q1,_,q3⟩:=(W7.ls ((M.setv lv).lt,(m.trials ++ [(⟨Yd f o1,Yd f o2,need,oa⟩:ZW)]).map Wj) (by simp[Mo.at_])).get;dsimp only at q1 q3;rw[xA,xE,zG] at q3;refine⟨_,rfl,M.p,CM,dm7,_,_,rfl,obm7,Tm.cl,Tm.nt,Ab _,M.lt,ts7,rfl,.inl (ZE.of q1),_,_,rfl,rfl,?_⟩;rw[q3];show Q (.int (((m.trials.length+1:Nat):Int) - 1)) H7;rw[show (((m.trials.length+1:Nat):Int) - 1)=(m.trials.length:Int) by lia];refine k lv s1 s2 H7 W7 T7 fun b hb=>?_;have lvn:H lv=none:=by
  cases e:H lv with
  | none=>rfl
  | some o =>
   by_cases z:mo M ds wa xs qs lv
   ·have z5:mo M ds wa (s1::s2::xs) qs lv:=by
     rcases z with z | z | z | z | z
     ·exact .inl z
     ·exact .inr (.inl z)
     ·exact .inr (.inr (.inl z))
     ·exact .inr (.inr (.inr (.inl (xN _ (xN _ z)))))
     ·exact .inr (.inr (.inr (.inr z)))
    obtain⟨o',e'⟩:=W5.there z5;rw[hlv] at e';cases e'
   ·rw[T5 lv o e z] at hlv;cases hlv
 rcases hb with z | z | z | z | z
 ·exact .inl (.inl z)
 ·exact .inl (.inr (.inl z))
 ·simp only[ML.ls,ML.setv,xC,xL,xS,or_false] at z;have old:b∈M.lh::(M.ls++qs)\/b=lv:=by
   simp only[ML.ls,xC,xL,xS,or_false];rcases z with z | (z | z | z | z | z | z) | z<;>simp[z]
  exact old.elim (fun z=>.inl (.inr (.inr (.inl z)))) (fun z=>.inr (z▸lvn))
 ·rcases xC.mp z with z | z
  ·exact .inr (z▸hs1)
  ·rcases xC.mp z with z | z
   ·exact .inr (z▸hs2')
   ·exact .inl (.inr (.inr (.inr (.inl z))))
 ·exact .inl (.inr (.inr (.inr (.inr z))))
end
section
variable{C CM:eF}{c:dZ}
def YL(O:eF->Prop)(H:Hp)(O':eF->Prop)(H':Hp):Prop:=(∀b o,H b=some o->¬O b->H' b=some o)/\∀b,O' b->O b\/H b=none
theorem YL.trans(a:YL O H O1 H1)(b:YL O1 H1 O2 H2):YL O H O2 H2:=by
 refine⟨fun x o e n=>b.1 x o (a.1 x o e n) fun z=>(a.2 x z).elim n (fun y=>by rw[e] at y;cases y),fun x hx=>?_⟩;rcases b.2 x hx with z | z
 ·exact a.2 x z
 ·by_cases y:O x
  ·exact .inl y
  ·refine .inr ?_;cases e:H x with
   | none=>rfl
   | some o=>rw[a.1 x o e y] at z;cases z
theorem YL.same(s:ZA H H'):YL O H O H':=⟨fun b o e _=>s b o e,fun b hb=>.inl hb⟩
def YD(C CM:eF)(H:Hp)(p:eF)(ds:List ZI)(m:Mo)(O:eF->Prop):Prop:=∃M wa xs qs,M.p=p/\ZC C CM H M ds wa xs m qs/\O=mo M ds wa xs qs
theorem YD.same(h:YD C CM H p ds m O)(k:ZA H H'):YD C CM H' p ds m O:=let ⟨M,wa,xs,qs,e,W,o⟩:=h;⟨M,wa,xs,qs,e,W.same k,o⟩
def Uo(E:XK)(c:dZ)(H:Hp)(k:Prop):Option Str->Prop
 | none=>k
 | some x=>∀H',ZA H H'->E (.ref (c x)) none H'
theorem A1(h:Wy ds m day ps th oa=none):(∀n∈ps,∃d,Zl ds n=some d/\d<=day)/\(∀i,th=some i->JJ m i=none)/\∀i n,oa=some (i,n)->Vy m.trials i n=none:=by
 unfold Wy at h;simp only[yM] at h;obtain⟨h1,h2,h3,h4,_⟩:=h;rw[List.findSome?_eq_none_iff] at h1 h4;refine⟨fun n hn=>?_,fun i e=>by subst e;exact h2,fun i n e=>by subst e;exact h3⟩;have a:=h1 n hn;have b:=h4 n hn;unfold Ve at a;unfold Wm at b;cases e:Zl ds n with
 | none=>rw[if_pos e] at a;cases a
 | some d =>
  refine⟨d,rfl,?_⟩;rw[e,Option.getD_some] at b
  by_cases z:day < d
  ·rw[if_pos z] at b;cases b
  ·lia
theorem Jo(H:Hp):∀o:List Str,ZP H (o.map D.str) (o.map V.str)
 | []=>rfl
 | x::o=>⟨_,_,rfl,rfl,Jo H o⟩
structure AJ (ds:List ZI) (m:Mo) (H:Hp) (l1 l2:eF) (o1 o2:dX) (day need:Int) (f:Str->Int):Prop where
 ok:VD m
 hd:ds.length<=1000
 h1:H l1=some (.lst (o1.map V.str))
 h2:H l2=some (.lst (o2.map V.str))
 n1:o1.length<=60
 n2:o2.length<=60
 di:okI day
 ni:okI need
 hw:∀n∈o1++o2,n.length<=100/\∀d,Zl ds n=some d->d<=day->JY (kw ds n) day (f n)/\1<=f n/\f n<=1000
theorem AJ.all(a:AJ ds m H l1 l2 o1 o2 day need f)(h:∀n∈o1++o2,∃d,Zl ds n=some d/\d<=day):∀n∈o1++o2,n.length<=100/\wOk ds day f n/\1<=f n/\f n<=1000:=fun n hn=>by
 obtain⟨d,e1,e2⟩:=h n hn;obtain⟨x,y,z⟩:=(a.hw n hn).2 d e1 e2;exact⟨(a.hw n hn).1,⟨d,e1,e2,x⟩,y,z⟩
theorem Vj(h:eM lo hi d=none):lo<=d/\d<=hi:=by
 unfold eM at h
 by_cases z:lo<=d/\d<=hi
 ·exact z
 ·rw[if_neg z] at h;cases h
theorem J4(h:Yr m=none):m.deeds.length < 400:=by
 unfold Yr at h
 by_cases z:m.deeds.length < 400
 ·exact z
 ·rw[if_neg z] at h;cases h
theorem J7(h:Uy m need f o1 o2=none):m.trials.length < 60/\m.deeds.length < 400:=by
 unfold Uy at h
 by_cases z : 60<=m.trials.length
 ·rw[if_pos z] at h;cases h
 ·rw[if_neg z] at h
  by_cases y : 12 < max o1.length o2.length
  ·rw[if_pos y] at h;cases h
  ·rw[if_neg y,yM] at h;exact⟨by lia,J4 h.1⟩
theorem SY(h:mo M ds wa (a1::a2::xs) qs b):mo M ds wa xs qs b\/b=a1\/b=a2:=by
 rcases h with z | z | z | z | z
 ·exact .inl (.inl z)
 ·exact .inl (.inr (.inl z))
 ·exact .inl (.inr (.inr (.inl z)))
 ·rcases xC.mp z with z | z
  ·exact .inr (.inl z)
  ·rcases xC.mp z with z | z
   ·exact .inr (.inr z)
   ·exact .inl (.inr (.inr (.inr (.inl z))))
 ·exact .inl (.inr (.inr (.inr (.inr z))))
theorem ZC.deed2(W:ZC C CM H M ds wa xs m qs)(S:ZA H H')(n1:H a1=none)(n2:H a2=none)(k1:H' a1=some (.lst u1))(k2:H' a2=some (.lst u2))(e:H M.ld=some (.lst vs))(hd:YA (fz (a1::a2::xs) H') d v) :
  ZC C CM (upd H' M.ld (.lst (vs ++ [v]))) M ds wa (a1::a2::xs) {m with deeds:=m.deeds ++ [d] } qs/\YL (mo M ds wa xs qs) H (mo M ds wa (a1::a2::xs) qs) (upd H' M.ld (.lst (vs ++ [v]))):=by
 have out:∀{b:eF},H b=none->b∉M.lh::(M.ls++qs):=fun e z=>by obtain⟨ys,e'⟩:=W.lst z;rw[e] at e';cases e'
 refine⟨(((W.same S).freeze k2 (out n2)).freeze k1 (out n1)).deed (S _ _ e) hd,fun b o eb nb=>?_,fun b hb=>?_⟩
 ·rw[Ze (fun z:b=M.ld=>nb (z▸Ao))];exact S _ _ eb
 ·rcases SY hb with z | z | z
  ·exact .inl z
  ·exact .inr (z▸n1)
  ·exact .inr (z▸n2)
def clD(x:Str)(i day need:Int)(o1 o2:dX):D:=.tup [.str "claim", .str x,.int i,.int day,.int need,.lst (o1.map D.str),.lst (o2.map D.str)]
def Mo.won(m:Mo)(x:Str)(i:Nat)(day need:Int)(f:Str->Int)(o1 o2:dX):Mo :=
 {m.tried day ⟨Yd f o1,Yd f o2,need,none⟩ with haps:=m.haps.set i (m.haps.getD i [] ++ [.tup [.int m.trials.length,.tup [.int day,.str "won", .non,.str x]]]),deeds:=m.deeds ++ [clD x i day need o1 o2] }
def CU(ds:List ZI)(m:Mo)(x:Str)(i day need:Int)(f:Str->Int)(o1 o2:dX):Option Str:=(eM 0 9999 day).or ((eM 1 12000 need).or ((Wy ds m day ([x]++o1++o2) (some i) none).or (Uy m need f o1 o2)))
inductive UC(C CM:eF)(c:dZ)(vs:List V)(H:Hp)(Q:VK)(E:XK):Prop
 |mk(p) (ds) (m) (O) (x) (i day need) (l1 l2) (o1 o2) (f)(_:vs = [.ref p,.str x,.int i,.int day,.int need,.ref l1,.ref l2])(_:YD C CM H p ds m O)(_:AJ ds m H l1 l2 o1 o2 day need f)(_:¬O l1)(_:¬O l2)(_:x.length<=100)(_:okI i)(_:Uo E c H (∀O' H',YD C CM H' p ds (m.won x i.toNat day need f o1 o2) O'->YL O H O' H'->Q (.int m.trials.length) H') (CU ds m x i day need f o1 o2))
abbrev Ic:Stmt:=Yg (top 57) 8
theorem Ni(Zhy:ZQ K CM "claim" "Moot.claim" Ic)(T:Txt mg)(Tm:ZK K CM)(Yy:WA P w K mg base "check_day" 1 (VM 0 9999 c))(Zdo:WA P w K mg base "check_need" 1 (VM 1 12000 c))(MM_check_named:ZY P w K mg base CM "check_named" 3 (YK C CM c))(MM_check_sides:ZY P w K mg base CM "check_sides" 4 (WH C CM c))(MM_try_case:Mt P w K mg base CM "try_case" ["self","day","need","ones","others","oath"] 5 (To C CM)):ZY P w K mg base CM "claim" 6 (UC C CM c):=by
 refine Zhy.mx ["self","claimer","thing","day","need","ones","others","case"] ["self","claimer","thing","day","need","ones","others"] fun H vs Q E hr h=>?_;obtain⟨_,ds,m,_,x,i,day,need,l1,l2,o1,o2,f,rfl,⟨M,wa,xs,qs,rfl,W,rfl⟩,a,w1,w2,hx,hi,k⟩:=h;refine⟨rfl,_,(Zc (Zk (Wu Z4 Yy (Za Q3 Zb))) (Zc (Zk (Wu Z4 Zdo (Za Q4 Zb))) (Zc (Zk (Yo Z4 Q0 Tm.cl MM_check_named (Za Q3 (Za (Z2 Jq (Z2 Jq (Yl (Za Q1 Zb)) Q5) Q6) (Za Q2 (Za Y3 Zb)))))) (Zc (Zk (Yo Z4 Q0 Tm.cl MM_check_sides (Za Q3 (Za Q4 (Za Q5 (Za Q6 Zb)))))) (Zc (Zz 7 (Yn Q0 Tm.cl MM_try_case (Za Q3 (Za Q4 (Za Q5 (Za Q6 (Za Y3 Zb))))))) (Zc (Zk (Y0 F.plainAttrs_list F.slot_list_append F.type_list_append Y9 (Zi Yb (Zw Q0) Q2 (fun _ _=>rfl)) (Za (Z9 (Za Q7 (Za (Z9 (Za Q3 (Za Z7 (Za Y3 (Za Q1 Zb))))) Zb))) Zb))) (Zc (Zk (Y0 F.plainAttrs_list F.slot_list_append F.type_list_append Y9 (Zw Q0) (Za (Z9 (Za Z7 (Za Q1 (Za Q2 (Za Q3 (Za Q4 (Za (Um Ak T.list Vu (Za Q5 Zb)) (Za (Um Ak T.list Vu (Za Q6 Zb)) Zb)))))))) Zb))) (Zf (Zt Q7))))))))),?_⟩;have hz:(5000:Nat)<=sizeLine:=by decide
 obtain⟨dm,obm⟩:=W.ob;have ⟨ok,hds,h1,h2,n1,n2,dI,ni,hw⟩:=a;have e1:(o1.map V.str).length=o1.length:=xA ..;have e2:(o2.map V.str).length=o2.length:=xA ..;unfold CU at k;refine⟨_,rfl,day,rfl,dI,?_⟩;cases ed:eM 0 9999 day with
 | some z=>rw[ed] at k;exact k H (ZA.refl H)
 | none =>
 rw[ed,xK] at k;obtain⟨d0,d1⟩:=Vj ed;refine⟨_,rfl,need,rfl,ni,?_⟩;cases en:eM 1 12000 need with
 | some z=>rw[en] at k;exact k H (ZA.refl H)
 | none =>
 rw[en,xK] at k;refine⟨_,rfl,M.p,dm,_,rfl,obm,Yh _ (by decide +kernel),_,rfl,_,rfl,by show 1<=sizeLine;lia,fun q1 hq1=>?_⟩;have S1:=ZA.new (o:=.lst [.str x]) hq1;have k1:(upd H q1 (.lst [.str x])) q1=some (.lst [.str x]):=Zg;generalize (upd H q1 (.lst [.str x]))=H1 at S1 k1 ⊢;refine⟨_,rfl,q1,l1,_,_,rfl,rfl,k1,S1 _ _ h1,by rw[e1];show 1+_<=_;lia,fun q2 hq2=>?_⟩;have S2:=S1.trans (ZA.new (o:=.lst ([.str x]++o1.map V.str)) hq2);have k2:(upd H1 q2 (.lst ([.str x]++o1.map V.str))) q2=some (.lst ([.str x]++o1.map V.str)):=Zg;generalize (upd H1 q2 (.lst ([.str x]++o1.map V.str)))=H2 at S2 k2 ⊢;refine⟨_,rfl,q2,l2,_,_,rfl,rfl,k2,S2 _ _ h2,by rw[xE,e1,e2];show 1+_+_<=_;lia,fun q3 hq3=>?_⟩;have S3:=S2.trans (ZA.new (o:=.lst ([.str x]++o1.map V.str++o2.map V.str)) hq3);have k3:(upd H2 q3 (.lst ([.str x]++o1.map V.str++o2.map V.str))) q3=some (.lst (([x]++o1++o2).map V.str)):=by rw[Zg,xO,xO];rfl
 generalize (upd H2 q3 (.lst ([.str x]++o1.map V.str++o2.map V.str)))=H3 at S3 k3 ⊢;refine⟨_,rfl,M,ds,wa,xs,m,qs,day,q3,[x]++o1++o2,some i,none,.non,rfl,W.same S3,ok,k3,fun n hn=>?_,dI,fun j e=>by cases e;exact hi,rfl,fun H4 S4'=>?_⟩
 ·grind
 have S4:=S3.trans S4';cases ea:Wy ds m day ([x]++o1++o2) (some i) none with
 | some z=>rw[ea] at k;exact k H4 S4
 | none =>
 rw[ea,xK] at k;obtain⟨p1,p2,_⟩:=A1 ea;have hall:=a.all fun n hn=>p1 n (by rw[yV];exact xF _ hn);refine⟨_,rfl,M.p,dm,_,rfl,S4 _ _ obm,Yh _ (by decide +kernel),_,rfl,_,rfl,_,rfl,_,rfl,M,ds,wa,xs,m,qs,day,need,l1,l2,o1,o2,f,rfl,W.same S4,ok,hds,S4 _ _ h1,S4 _ _ h2,n1,n2,d0,d1,ni,hall,fun H5 S5'=>?_⟩;have S5:=S4.trans S5';cases es:Uy m need f o1 o2 with
 | some z=>rw[es] at k;exact k H5 S5
 | none =>
 rw[es] at k;obtain⟨g0,g1⟩:=Vj en;have h4:=(J7 es).2;refine⟨_,rfl,M.p,dm,_,rfl,S5 _ _ obm,Yh _ (by decide +kernel),_,rfl,_,rfl,_,rfl,_,rfl,M,ds,wa,xs,m,qs,day,need,l1,l2,o1,o2,f,none,.non,rfl,W.same S5,ok,(J7 es).1,hds,S5 _ _ h1,S5 _ _ h2,n1,n2,d0,d1,g0,g1,fun n hn=>(hall n hn).2,rfl,fun lv s1 s2 H6 W6 T6 F6=>?_⟩;have R6:YL (mo M ds wa xs qs) H (mo (M.setv lv) ds wa (s1::s2::xs) qs) H6:=(YL.same S5).trans ⟨T6,F6⟩;refine Yc ?_;have hin:inB i m.brs.length:=by
  have:=p2 i rfl;unfold JJ at this
  by_cases z:inB i m.brs.length
  ·exact z
  ·rw[if_neg z] at this;cases this
 obtain⟨j,rfl⟩:=yK hin.1;have hj:j < m.haps.length:=by rw[ok.hb];have:=hin.2;lia
 have hjq:j < qs.length:=by rw[W6.hn];exact hj
 have hq:qs[j]? = some qs[j]:=xB hjq;have hcl:m.haps[j]? = some (m.haps.getD j []):=by rw[xZ,xB hj];rfl
 have hcn:=ok.hl _ (xJ hcl);rw[yR] at k;unfold Mo.won at k;generalize m.haps.getD j []=cl at hcl hcn k;have mz:(qs[j],cl)∈qs.zip m.haps:=xJ (i:=j) (by rw[zA];exact⟨hq,hcl⟩);obtain⟨us,u1,_,hul⟩:=(W6.ls (qs[j],cl) (by simp[Mo.at_,Mo.tried,mz])).get;dsimp only at u1 hul;obtain⟨dm6,obm6⟩:=W6.ob;refine⟨_,rfl,M.p,CM,dm6,_,_,rfl,obm6,Tm.cl,Tm.nh,E1 _,_,rfl,M.lh,_,j,.ref qs[j],rfl,rfl,ZE.of W6.hl,Y8 (by rw[xI,hq];rfl),.inl ⟨rfl,_,ZE.of u1⟩,_,rfl,_,rfl,_,rfl,by show 4<=sizeLine;lia,fun b hb=>?_⟩;have S7:=ZA.new (o:=.tup [.int day,.str "won", .non,.str x]) hb;have k7:(upd H6 b (.tup [.int day,.str "won", .non,.str x])) b=some (.tup [.int day,.str "won", .non,.str x]):=Zg;generalize (upd H6 b (.tup [.int day,.str "won", .non,.str x]))=H7 at S7 k7 ⊢;refine⟨by show 2<=sizeLine;lia,fun a' ha=>?_⟩;have S8:=ZA.new (o:=.tup [.int m.trials.length,.ref b]) ha;have k8:(upd H7 a' (.tup [.int m.trials.length,.ref b])) a'=some (.tup [.int m.trials.length,.ref b]):=Zg;generalize (upd H7 a' (.tup [.int m.trials.length,.ref b]))=H8 at S8 k8 ⊢;have W8:=W6.same (S7.trans S8);have u8:=S8 _ _ (S7 _ _ u1);refine⟨qs[j],us,.ref a',rfl,rfl,u8,by lia,?_⟩;have W9:=W8.hap hq hcl (d:=.tup [.int m.trials.length,.tup [.int day,.str "won", .non,.str x]]) (v:=.ref a') u8 ⟨a',_,rfl,Yz k8,⟨_,_,rfl,rfl,⟨_,_,rfl,⟨b,_,rfl,Yz (S8 _ _ k7),⟨_,_,rfl,rfl,⟨_,_,rfl,rfl,⟨_,_,rfl,rfl,⟨_,_,rfl,rfl,rfl⟩⟩⟩⟩⟩,rfl⟩⟩⟩
 have R9:YL (mo M ds wa xs qs) H (mo (M.setv lv) ds wa (s1::s2::xs) qs) (upd H8 qs[j] (.lst (us ++ [.ref a']))):=(R6.trans (YL.same (S7.trans S8))).trans ⟨fun b o e nb=>by
  rw[Ze (fun z:b=qs[j]=>nb (z ▸ .inr (.inr (.inl (xN _ (xF _ (zE hjq)))))))];exact e,fun _ hb=>.inl hb⟩
 generalize (upd H8 qs[j] (.lst (us ++ [.ref a'])))=H9 at W9 R9 ⊢;obtain⟨dm9,obm9⟩:=W9.ob;obtain⟨vs,f1,_,f2⟩:=(W9.ls (M.ld,m.deeds) (by simp[Mo.at_,Mo.tried,ML.setv])).get;dsimp only at f1 f2;have r1:=R9.1 l1 _ h1 w1;have r2:=R9.1 l2 _ h2 w2;refine⟨_,rfl,M.p,CM,dm9,_,_,rfl,obm9,Tm.cl,Tm.nd,Ux _,.inl ⟨rfl,_,ZE.of f1⟩,_,rfl,_,rfl,_,rfl,_,rfl,_,rfl,l1,_,rfl,.inl (ZE.of r1),fun a1 ha1=>?_⟩;have Sa:=ZA.new (o:=.lst (o1.map V.str)) ha1;have ka:(upd H9 a1 (.lst (o1.map V.str))) a1=some (.lst (o1.map V.str)):=Zg;generalize (upd H9 a1 (.lst (o1.map V.str)))=Ha at Sa ka ⊢;refine⟨_,rfl,l2,_,rfl,.inl (ZE.of (Sa _ _ r2)),fun a2 ha2=>?_⟩;have Sb:=ZA.new (o:=.lst (o2.map V.str)) ha2;have kb:(upd Ha a2 (.lst (o2.map V.str))) a2=some (.lst (o2.map V.str)):=Zg;generalize (upd Ha a2 (.lst (o2.map V.str)))=Hb at Sb kb ⊢;refine⟨by show 7<=sizeLine;lia,fun q hq'=>?_⟩;have Sc:=ZA.new (o:=.tup [.str "claim", .str x,.int j,.int day,.int need,.ref a1,.ref a2]) hq';have kc:(upd Hb q (.tup [.str "claim", .str x,.int j,.int day,.int need,.ref a1,.ref a2])) q=some (.tup [.str "claim", .str x,.int j,.int day,.int need,.ref a1,.ref a2]):=Zg;generalize (upd Hb q (.tup [.str "claim", .str x,.int j,.int day,.int need,.ref a1,.ref a2]))=Hc at Sc kc ⊢;have Sac:=(Sa.trans Sb).trans Sc;refine⟨M.ld,vs,.ref q,rfl,rfl,Sac _ _ f1,by lia,?_⟩;have ka':=Sc _ _ (Sb _ _ ka);have kb':=Sc _ _ kb;obtain⟨W10,R10⟩:=W9.deed2 Sac ha1 (Sa.free ha2) ka' kb' f1 (d:=clD x j day need o1 o2) (v:=.ref q)
  ⟨q,_,rfl,Yz kc,⟨_,_,rfl,rfl,⟨_,_,rfl,rfl,⟨_,_,rfl,rfl,⟨_,_,rfl,rfl,⟨_,_,rfl,rfl,⟨_,_,rfl,⟨a1,_,rfl,V8 (by simp) ka',Jo _ _⟩,⟨_,_,rfl,⟨a2,_,rfl,V8 (by simp) kb',Jo _ _⟩,rfl⟩⟩⟩⟩⟩⟩⟩⟩
 exact⟨_,rfl,k _ _ ⟨M.setv lv,wa,_,qs,rfl,W10,rfl⟩ (R9.trans R10)⟩
def weD(x y:Str)(many day need:Int)(o1 o2:dX):D:=.tup [.str "wergild", .str x,.str y,.int many,.int day,.int need,.lst (o1.map D.str),.lst (o2.map D.str)]
def Mo.owes(m:Mo)(x y:Str)(many day need:Int)(f:Str->Int)(o1 o2:dX):Mo :=
 {m.tried day ⟨Yd f o1,Yd f o2,need,none⟩ with debts:=m.debts ++ [.tup [.int m.trials.length,.tup [.int day,.str y,.str x,.int many]]],deeds:=m.deeds ++ [weD x y many day need o1 o2] }
def C5(ds:List ZI)(m:Mo)(x y:Str)(many day need:Int)(f:Str->Int)(o1 o2:dX):Option Str:=(eM 1 1000000 many).or ((eM 0 9999 day).or ((eM 1 12000 need).or ((Wy ds m day ([x,y]++o1++o2) none none).or (Uy m need f o1 o2))))
inductive TV(C CM:eF)(c:dZ)(vs:List V)(H:Hp)(Q:VK)(E:XK):Prop
 |mk(p) (ds) (m) (O) (x y) (many day need) (l1 l2) (o1 o2) (f)(_:vs = [.ref p,.str x,.str y,.int many,.int day,.int need,.ref l1,.ref l2])(_:YD C CM H p ds m O)(_:AJ ds m H l1 l2 o1 o2 day need f)(_:¬O l1)(_:¬O l2)(_:x.length<=100)(_:y.length<=100)(_:okI many)(_:Uo E c H (∀O' H',YD C CM H' p ds (m.owes x y many day need f o1 o2) O'->YL O H O' H'->Q (.int m.trials.length) H') (C5 ds m x y many day need f o1 o2))
abbrev KO:Stmt:=Yg (top 57) 9
theorem cM(Zhz:ZQ K CM "wergild" "Moot.wergild" KO)(T:Txt mg)(Tm:ZK K CM)(Zh0:WA P w K mg base "check_money" 1 (VM 1 1000000 c))(Yy:WA P w K mg base "check_day" 1 (VM 0 9999 c))(Zdo:WA P w K mg base "check_need" 1 (VM 1 12000 c))(MM_check_named:ZY P w K mg base CM "check_named" 3 (YK C CM c))(MM_check_sides:ZY P w K mg base CM "check_sides" 4 (WH C CM c))(MM_try_case:Mt P w K mg base CM "try_case" ["self","day","need","ones","others","oath"] 5 (To C CM)):ZY P w K mg base CM "wergild" 6 (TV C CM c):=by
 refine Zhz.mx ["self","claimer","answerer","many","day","need","ones","others","case"] ["self","claimer","answerer","many","day","need","ones","others"] fun H vs Q E hr h=>?_;obtain⟨_,ds,m,_,x,y,many,day,need,l1,l2,o1,o2,f,rfl,⟨M,wa,xs,qs,rfl,W,rfl⟩,a,w1,w2,hx,hy,hmi,k⟩:=h;refine⟨rfl,_,(Zc (Zk (Wu Z4 Zh0 (Za Q3 Zb))) (Zc (Zk (Wu Z4 Yy (Za Q4 Zb))) (Zc (Zk (Wu Z4 Zdo (Za Q5 Zb))) (Zc (Zk (Yo Z4 Q0 Tm.cl MM_check_named (Za Q4 (Za (Z2 Jq (Z2 Jq (Yl (Za Q1 (Za Q2 Zb))) Q6) Q7) (Za Y3 (Za Y3 Zb)))))) (Zc (Zk (Yo Z4 Q0 Tm.cl MM_check_sides (Za Q4 (Za Q5 (Za Q6 (Za Q7 Zb)))))) (Zc (Zz 8 (Yn Q0 Tm.cl MM_try_case (Za Q4 (Za Q5 (Za Q6 (Za Q7 (Za Y3 Zb))))))) (Zc (Zk (Y0 F.plainAttrs_list F.slot_list_append F.type_list_append Y9 (Zw Q0) (Za (Z9 (Za (qvN 8) (Za (Z9 (Za Q4 (Za Q2 (Za Q1 (Za Q3 Zb))))) Zb))) Zb))) (Zc (Zk (Y0 F.plainAttrs_list F.slot_list_append F.type_list_append Y9 (Zw Q0) (Za (Z9 (Za Z7 (Za Q1 (Za Q2 (Za Q3 (Za Q4 (Za Q5 (Za (Um Ak T.list Vu (Za Q6 Zb)) (Za (Um Ak T.list Vu (Za Q7 Zb)) Zb))))))))) Zb))) (Zf (Zt (qvN 8))))))))))),?_⟩;have hz:(5000:Nat)<=sizeLine:=by decide
 obtain⟨dm,obm⟩:=W.ob;have ⟨ok,hds,h1,h2,n1,n2,dI,ni,hw⟩:=a;have e1:(o1.map V.str).length=o1.length:=xA ..;have e2:(o2.map V.str).length=o2.length:=xA ..;unfold C5 at k;refine⟨_,rfl,many,rfl,hmi,?_⟩;cases ey:eM 1 1000000 many with
 | some z=>rw[ey] at k;exact k H (ZA.refl H)
 | none =>
 rw[ey,xK] at k;refine⟨_,rfl,day,rfl,dI,?_⟩;cases ed:eM 0 9999 day with
 | some z=>rw[ed] at k;exact k H (ZA.refl H)
 | none =>
 rw[ed,xK] at k;obtain⟨d0,d1⟩:=Vj ed;refine⟨_,rfl,need,rfl,ni,?_⟩;cases en:eM 1 12000 need with
 | some z=>rw[en] at k;exact k H (ZA.refl H)
 | none =>
 rw[en,xK] at k;refine⟨_,rfl,M.p,dm,_,rfl,obm,Yh _ (by decide +kernel),_,rfl,_,rfl,_,rfl,by show 2<=sizeLine;lia,fun q1 hq1=>?_⟩;have S1:=ZA.new (o:=.lst [.str x,.str y]) hq1;have k1:(upd H q1 (.lst [.str x,.str y])) q1=some (.lst [.str x,.str y]):=Zg;generalize (upd H q1 (.lst [.str x,.str y]))=H1 at S1 k1 ⊢;refine⟨_,rfl,q1,l1,_,_,rfl,rfl,k1,S1 _ _ h1,by rw[e1];show 2+_<=_;lia,fun q2 hq2=>?_⟩;have S2:=S1.trans (ZA.new (o:=.lst ([.str x,.str y]++o1.map V.str)) hq2);have k2:(upd H1 q2 (.lst ([.str x,.str y]++o1.map V.str))) q2=some (.lst ([.str x,.str y]++o1.map V.str)):=Zg;generalize (upd H1 q2 (.lst ([.str x,.str y]++o1.map V.str)))=H2 at S2 k2 ⊢;refine⟨_,rfl,q2,l2,_,_,rfl,rfl,k2,S2 _ _ h2,by rw[xE,e1,e2];show 2+_+_<=_;lia,fun q3 hq3=>?_⟩;have S3:=S2.trans (ZA.new (o:=.lst ([.str x,.str y]++o1.map V.str++o2.map V.str)) hq3);have k3:(upd H2 q3 (.lst ([.str x,.str y]++o1.map V.str++o2.map V.str))) q3=some (.lst (([x,y]++o1++o2).map V.str)):=by rw[Zg,xO,xO];rfl
 generalize (upd H2 q3 (.lst ([.str x,.str y]++o1.map V.str++o2.map V.str)))=H3 at S3 k3 ⊢;refine⟨M,ds,wa,xs,m,qs,day,q3,[x,y]++o1++o2,none,none,.non,rfl,W.same S3,ok,k3,fun n hn=>?_,dI,(fun j e=>nomatch e),rfl,fun H4 S4'=>?_⟩
 ·grind
 have S4:=S3.trans S4';cases ea:Wy ds m day ([x,y]++o1++o2) none none with
 | some z=>rw[ea] at k;exact k H4 S4
 | none =>
 rw[ea,xK] at k;obtain⟨p1,_⟩:=A1 ea;have hall:=a.all fun n hn=>p1 n (by rw[yV];exact xF _ hn);refine⟨_,rfl,M.p,dm,_,rfl,S4 _ _ obm,Yh _ (by decide +kernel),_,rfl,_,rfl,_,rfl,_,rfl,M,ds,wa,xs,m,qs,day,need,l1,l2,o1,o2,f,rfl,W.same S4,ok,hds,S4 _ _ h1,S4 _ _ h2,n1,n2,d0,d1,ni,hall,fun H5 S5'=>?_⟩;have S5:=S4.trans S5';cases es:Uy m need f o1 o2 with
 | some z=>rw[es] at k;exact k H5 S5
 | none =>
 rw[es] at k;obtain⟨g0,g1⟩:=Vj en;have h4:=(J7 es).2;refine⟨_,rfl,M.p,dm,_,rfl,S5 _ _ obm,Yh _ (by decide +kernel),_,rfl,_,rfl,_,rfl,_,rfl,M,ds,wa,xs,m,qs,day,need,l1,l2,o1,o2,f,none,.non,rfl,W.same S5,ok,(J7 es).1,hds,S5 _ _ h1,S5 _ _ h2,n1,n2,d0,d1,g0,g1,fun n hn=>(hall n hn).2,rfl,fun lv s1 s2 H6 W6 T6 F6=>?_⟩;have R6:YL (mo M ds wa xs qs) H (mo (M.setv lv) ds wa (s1::s2::xs) qs) H6:=(YL.same S5).trans ⟨T6,F6⟩;refine Yc ?_;unfold Mo.owes at k;obtain⟨us,u1,_,hul⟩:=(W6.ls (M.lq,m.debts) (by simp[Mo.at_,Mo.tried,ML.setv])).get;dsimp only at u1 hul;have hql:=ok.ql;obtain⟨dm6,obm6⟩:=W6.ob;refine⟨_,rfl,M.p,CM,dm6,_,_,rfl,obm6,Tm.cl,Tm.nq,IG _,.inl ⟨rfl,_,ZE.of u1⟩,_,rfl,_,rfl,_,rfl,_,rfl,_,rfl,by show 4<=sizeLine;lia,fun b hb=>?_⟩;have S7:=ZA.new (o:=.tup [.int day,.str y,.str x,.int many]) hb;have k7:(upd H6 b (.tup [.int day,.str y,.str x,.int many])) b=some (.tup [.int day,.str y,.str x,.int many]):=Zg;generalize (upd H6 b (.tup [.int day,.str y,.str x,.int many]))=H7 at S7 k7 ⊢;refine⟨by show 2<=sizeLine;lia,fun a' ha=>?_⟩;have S8:=ZA.new (o:=.tup [.int m.trials.length,.ref b]) ha;have k8:(upd H7 a' (.tup [.int m.trials.length,.ref b])) a'=some (.tup [.int m.trials.length,.ref b]):=Zg;generalize (upd H7 a' (.tup [.int m.trials.length,.ref b]))=H8 at S8 k8 ⊢;have W8:=W6.same (S7.trans S8);have u8:=S8 _ _ (S7 _ _ u1);refine⟨M.lq,us,.ref a',rfl,rfl,u8,by lia,?_⟩;have W9:ZC C CM (upd H8 M.lq (.lst (us ++ [.ref a']))) (M.setv lv) ds wa (s1::s2::xs) _ qs:=W8.debt (d:=.tup [.int m.trials.length,.tup [.int day,.str y,.str x,.int many]]) (v:=.ref a') u8 ⟨a',_,rfl,Yz k8,⟨_,_,rfl,rfl,⟨_,_,rfl,⟨b,_,rfl,Yz (S8 _ _ k7),⟨_,_,rfl,rfl,⟨_,_,rfl,rfl,⟨_,_,rfl,rfl,⟨_,_,rfl,rfl,rfl⟩⟩⟩⟩⟩,rfl⟩⟩⟩
 have R9:YL (mo M ds wa xs qs) H (mo (M.setv lv) ds wa (s1::s2::xs) qs) (upd H8 M.lq (.lst (us ++ [.ref a']))):=(R6.trans (YL.same (S7.trans S8))).trans ⟨fun b o e nb=>by
  rw[Ze (fun z:b=M.lq=>nb (z ▸ .inr (.inr (.inl (by simp[ML.ls,ML.setv])))))];exact e,fun _ hb=>.inl hb⟩
 generalize (upd H8 M.lq (.lst (us ++ [.ref a'])))=H9 at W9 R9 ⊢;obtain⟨dm9,obm9⟩:=W9.ob;obtain⟨vs,f1,_,f2⟩:=(W9.ls (M.ld,m.deeds) (by simp[Mo.at_,Mo.tried,ML.setv])).get;dsimp only at f1 f2;have r1:=R9.1 l1 _ h1 w1;have r2:=R9.1 l2 _ h2 w2;refine⟨_,rfl,M.p,CM,dm9,_,_,rfl,obm9,Tm.cl,Tm.nd,Ux _,.inl ⟨rfl,_,ZE.of f1⟩,_,rfl,_,rfl,_,rfl,_,rfl,_,rfl,_,rfl,l1,_,rfl,.inl (ZE.of r1),fun a1 ha1=>?_⟩;have Sa:=ZA.new (o:=.lst (o1.map V.str)) ha1;have ka:(upd H9 a1 (.lst (o1.map V.str))) a1=some (.lst (o1.map V.str)):=Zg;generalize (upd H9 a1 (.lst (o1.map V.str)))=Ha at Sa ka ⊢;refine⟨_,rfl,l2,_,rfl,.inl (ZE.of (Sa _ _ r2)),fun a2 ha2=>?_⟩;have Sb:=ZA.new (o:=.lst (o2.map V.str)) ha2;have kb:(upd Ha a2 (.lst (o2.map V.str))) a2=some (.lst (o2.map V.str)):=Zg;generalize (upd Ha a2 (.lst (o2.map V.str)))=Hb at Sb kb ⊢;refine⟨by show 8<=sizeLine;lia,fun q hq'=>?_⟩;have Sc:=ZA.new (o:=.tup [.str "wergild", .str x,.str y,.int many,.int day,.int need,.ref a1,.ref a2]) hq';have kc:(upd Hb q (.tup [.str "wergild", .str x,.str y,.int many,.int day,.int need,.ref a1,.ref a2])) q=some (.tup [.str "wergild", .str x,.str y,.int many,.int day,.int need,.ref a1,.ref a2]):=Zg;generalize (upd Hb q (.tup [.str "wergild", .str x,.str y,.int many,.int day,.int need,.ref a1,.ref a2]))=Hc at Sc kc ⊢;have Sac:=(Sa.trans Sb).trans Sc;refine⟨M.ld,vs,.ref q,rfl,rfl,Sac _ _ f1,by lia,?_⟩;have ka':=Sc _ _ (Sb _ _ ka);have kb':=Sc _ _ kb;obtain⟨W10,R10⟩:=W9.deed2 Sac ha1 (Sa.free ha2) ka' kb' f1 (d:=weD x y many day need o1 o2) (v:=.ref q)
  ⟨q,_,rfl,Yz kc,⟨_,_,rfl,rfl,⟨_,_,rfl,rfl,⟨_,_,rfl,rfl,⟨_,_,rfl,rfl,⟨_,_,rfl,rfl,⟨_,_,rfl,rfl,⟨_,_,rfl,⟨a1,_,rfl,V8 (by simp) ka',Jo _ _⟩,⟨_,_,rfl,⟨a2,_,rfl,V8 (by simp) kb',Jo _ _⟩,rfl⟩⟩⟩⟩⟩⟩⟩⟩⟩
 exact⟨_,rfl,k _ _ ⟨M.setv lv,wa,_,qs,rfl,W10,rfl⟩ (R9.trans R10)⟩
theorem Fn.alias(F:Fn P w K mg base y ps k sp)(e:mg x=mg y):Fn P w K mg base x ps k sp:=let ⟨f,fd,a,b⟩:=F;⟨f,fd,e.trans a,b⟩
def acD(i:Int)(n:Str)(day need:Int)(o1 o2:dX):D:=.tup [.str "accuse", .int i,.str n,.int day,.int need,.lst (o1.map D.str),.lst (o2.map D.str)]
def Mo.told(m:Mo)(d:D):Mo:={m with deeds:=m.deeds ++ [d] }
theorem VD.told(k:VD m)(d:D):VD (m.told d):=⟨k.ok,k.dl,k.br,k.le,k.vl,k.hb,fun q hq=>xX (k.hl q hq) (by show _<=(m.deeds ++ [d]).length;rw[xE];lia),xX k.ql (by show _<=(m.deeds ++ [d]).length;rw[xE];lia)⟩
def Mo.acc(m:Mo)(i:Int)(n:Str)(day need:Int)(f:Str->Int)(o1 o2:dX):Mo:=(m.told (acD i n day need o1 o2)).tried day ⟨Yd f o1,Yd f o2,need,some (i,n)⟩
def Cz(ds:List ZI)(m:Mo)(i:Int)(n:Str)(day need:Int)(f:Str->Int)(o1 o2:dX):Option Str:=(eM 0 9999 day).or ((eM 1 12000 need).or ((Wy ds m day (o1++o2) none (some (i,n))).or ((Uy m need f o1 o2).or (if CK m.trials i n = [] then none else some ("Broken" : Str)))))
inductive TQ(C CM:eF)(c:dZ)(vs:List V)(H:Hp)(Q:VK)(E:XK):Prop
 |mk(p) (ds) (m) (O) (i) (n) (day need) (l1 l2) (o1 o2) (f)(_:vs = [.ref p,.int i,.str n,.int day,.int need,.ref l1,.ref l2])(_:YD C CM H p ds m O)(_:AJ ds m H l1 l2 o1 o2 day need f)(_:¬O l1)(_:¬O l2)(_:n.length<=100)(_:okI i)(_:Uo E c H (∀O' H',YD C CM H' p ds (m.acc i n day need f o1 o2) O'->YL O H O' H'->Q (.int m.trials.length) H') (Cz ds m i n day need f o1 o2))
abbrev HX:Stmt:=Yg (top 57) 10
theorem Qi(Zh1:ZQ K CM "accuse" "Moot.accuse" HX)(T:Txt mg)(Tm:ZK K CM)(er:Er K mg c errs)(Yy:WA P w K mg base "check_day" 1 (VM 0 9999 c))(Zdo:WA P w K mg base "check_need" 1 (VM 1 12000 c))(MM_check_named:ZY P w K mg base CM "check_named" 3 (YK C CM c))(MM_check_sides:ZY P w K mg base CM "check_sides" 4 (WH C CM c))(Z1m:Fn P w K mg base "breakers_stands" ["suits","case","name"] 6 VG)(MM_try_case:Mt P w K mg base CM "try_case" ["self","day","need","ones","others","oath"] 5 (To C CM)):ZY P w K mg base CM "accuse" 7 (TQ C CM c):=by
 refine Zh1.mx ["self","case","name","day","need","ones","others"] ["self","case","name","day","need","ones","others"] fun H vs Q E hr h=>?_;obtain⟨_,ds,m,_,i,n,day,need,l1,l2,o1,o2,f,rfl,⟨M,wa,xs,qs,rfl,W,rfl⟩,a,w1,w2,hx,hi,k⟩:=h;refine⟨rfl,_,(Zc (Zk (Wu Z4 Yy (Za Q3 Zb))) (Zc (Zk (Wu Z4 Zdo (Za Q4 Zb))) (Zc (Zk (Yo Z4 Q0 Tm.cl MM_check_named (Za Q3 (Za (Z2 Jq Q5 Q6) (Za Y3 (Za (Z9 (Za Q1 (Za Q2 Zb))) Zb)))))) (Zc (Zk (Yo Z4 Q0 Tm.cl MM_check_sides (Za Q3 (Za Q4 (Za Q5 (Za Q6 Zb)))))) (Zc (Zo (Pc (Zj Z1m (Za (Zw Q0) (Za Q1 (Za Q2 Zb)))) (fun _=>rfl)) (Zf (Wa Yw er (We (Yp (Yx Q2 (Yp (Yx Q1 (Yp Wd)))))))) Zn) (Zc (Zk (Y0 F.plainAttrs_list F.slot_list_append F.type_list_append Y9 (Zw Q0) (Za (Z9 (Za Z7 (Za Q1 (Za Q2 (Za Q3 (Za Q4 (Za (Um Ak T.list Vu (Za Q5 Zb)) (Za (Um Ak T.list Vu (Za Q6 Zb)) Zb)))))))) Zb))) (Zf (Zt (Yn Q0 Tm.cl MM_try_case (Za Q3 (Za Q4 (Za Q5 (Za Q6 (Za (Z9 (Za Q1 (Za Q2 Zb))) Zb)))))))))))))),?_⟩;have hz:(5000:Nat)<=sizeLine:=by decide
 obtain⟨dm,obm⟩:=W.ob;have ⟨ok,hds,h1,h2,n1,n2,dI,ni,hw⟩:=a;have e1:(o1.map V.str).length=o1.length:=xA ..;have e2:(o2.map V.str).length=o2.length:=xA ..;unfold Cz at k;refine⟨_,rfl,day,rfl,dI,?_⟩;cases ed:eM 0 9999 day with
 | some z=>rw[ed] at k;exact k H (ZA.refl H)
 | none =>
 rw[ed,xK] at k;obtain⟨d0,d1⟩:=Vj ed;refine⟨_,rfl,need,rfl,ni,?_⟩;cases en:eM 1 12000 need with
 | some z=>rw[en] at k;exact k H (ZA.refl H)
 | none =>
 rw[en,xK] at k;refine⟨_,rfl,M.p,dm,_,rfl,obm,Yh _ (by decide +kernel),_,rfl,_,rfl,_,rfl,l1,l2,_,_,rfl,rfl,h1,h2,by rw[e1,e2];lia,fun q hq=>?_⟩;have S1:=ZA.new (o:=.lst (o1.map V.str++o2.map V.str)) hq;have k1:(upd H q (.lst (o1.map V.str++o2.map V.str))) q=some (.lst ((o1++o2).map V.str)):=by rw[Zg,xO]
 generalize (upd H q (.lst (o1.map V.str++o2.map V.str)))=H1 at S1 k1 ⊢;refine⟨_,rfl,_,rfl,by show 2<=sizeLine;lia,fun t ht=>?_⟩;have S2':=ZA.new (o:=.tup [.int i,.str n]) ht;have S2:=S1.trans S2';have k2:(upd H1 t (.tup [.int i,.str n])) t=some (.tup [.int i,.str n]):=Zg;have k2q:=S2' _ _ k1;generalize (upd H1 t (.tup [.int i,.str n]))=H2 at S2 k2 k2q ⊢;refine⟨M,ds,wa,xs,m,qs,day,q,o1++o2,none,some (i,n),.ref t,rfl,W.same S2,ok,k2q,fun n hn=>(hw n hn).1,dI,(fun j e=>nomatch e),⟨hi,hx,t,rfl,k2⟩,fun H4 S4'=>?_⟩;have S4:=S2.trans S4';cases ea:Wy ds m day (o1++o2) none (some (i,n)) with
 | some z=>rw[ea] at k;exact k H4 S4
 | none =>
 rw[ea,xK] at k;obtain⟨p1,_,p3⟩:=A1 ea;have ho:=p3 i n rfl;have hall:=a.all p1;refine⟨_,rfl,M.p,dm,_,rfl,S4 _ _ obm,Yh _ (by decide +kernel),_,rfl,_,rfl,_,rfl,_,rfl,M,ds,wa,xs,m,qs,day,need,l1,l2,o1,o2,f,rfl,W.same S4,ok,hds,S4 _ _ h1,S4 _ _ h2,n1,n2,d0,d1,ni,hall,fun H5 S5'=>?_⟩;have S5:=S4.trans S5';cases es:Uy m need f o1 o2 with
 | some z=>rw[es] at k;exact k H5 S5
 | none =>
 rw[es,xK] at k;obtain⟨g0,g1⟩:=Vj en;have h4:=(J7 es).2;have hin:inB i m.trials.length:=by
  unfold Vy at ho
  by_cases z:inB i m.trials.length
  ·exact z
  ·split at ho
   ·rw[if_neg z] at ho;cases ho
   ·cases ho
 obtain⟨j,rfl⟩:=yK hin.1;obtain⟨ts,t1,t2,_⟩:=((W.same S5).ls (M.lt,m.trials.map Wj) (by simp[Mo.at_])).get;have hle:=ok.le;refine⟨_,rfl,M.p,CM,dm,_,_,rfl,S5 _ _ obm,Tm.cl,Tm.nt,Ab _,_,rfl,_,rfl,M.lt,m.trials,j,n,rfl,⟨ts,t1,t2⟩,ok.ok,by lia,hx,ho,fun lb H6 hlb klb S6'=>?_⟩;have S6:=S5.trans S6';refine⟨_,.inl ⟨_,ZE.of klb,rfl⟩,?_⟩;cases eb:CK m.trials j n with
 | cons z r =>
  rw[eb,if_neg (by intro y;cases y)] at k;exact Z8 ⟨by decide +kernel,_,rfl,.inl ⟨n,rfl,by lia⟩,by decide +kernel,_,rfl,.inr ⟨_,rfl,Wx hi⟩,by decide +kernel,fun _=>k H6 S6⟩
 | nil =>
 rw[eb,if_pos rfl] at k;refine Z1 ?_;have W6:=W.same S6;obtain⟨vs,f1,_,f2⟩:=(W6.ls (M.ld,m.deeds) (by simp[Mo.at_])).get;dsimp only at f1 f2;refine⟨_,rfl,M.p,CM,dm,_,_,rfl,S6 _ _ obm,Tm.cl,Tm.nd,Ux _,.inl ⟨rfl,_,ZE.of f1⟩,_,rfl,_,rfl,_,rfl,_,rfl,_,rfl,l1,_,rfl,.inl (ZE.of (S6 _ _ h1)),fun a1 ha1=>?_⟩;have Sa:=ZA.new (o:=.lst (o1.map V.str)) ha1;have ka:(upd H6 a1 (.lst (o1.map V.str))) a1=some (.lst (o1.map V.str)):=Zg;generalize (upd H6 a1 (.lst (o1.map V.str)))=Ha at Sa ka ⊢;refine⟨_,rfl,l2,_,rfl,.inl (ZE.of (Sa _ _ (S6 _ _ h2))),fun a2 ha2=>?_⟩;have Sb:=ZA.new (o:=.lst (o2.map V.str)) ha2;have kb:(upd Ha a2 (.lst (o2.map V.str))) a2=some (.lst (o2.map V.str)):=Zg;generalize (upd Ha a2 (.lst (o2.map V.str)))=Hb at Sb kb ⊢;refine⟨by show 7<=sizeLine;lia,fun q' hq'=>?_⟩;have Sc:=ZA.new (o:=.tup [.str "accuse", .int j,.str n,.int day,.int need,.ref a1,.ref a2]) hq';have kc:(upd Hb q' (.tup [.str "accuse", .int j,.str n,.int day,.int need,.ref a1,.ref a2])) q'=some (.tup [.str "accuse", .int j,.str n,.int day,.int need,.ref a1,.ref a2]):=Zg;generalize (upd Hb q' (.tup [.str "accuse", .int j,.str n,.int day,.int need,.ref a1,.ref a2]))=Hc at Sc kc ⊢;have Sac:=(Sa.trans Sb).trans Sc;refine⟨M.ld,vs,.ref q',rfl,rfl,Sac _ _ f1,by lia,?_⟩;have ka':=Sc _ _ (Sb _ _ ka);have kb':=Sc _ _ kb;obtain⟨W7,R7⟩:=W6.deed2 Sac ha1 (Sa.free ha2) ka' kb' f1 (d:=acD j n day need o1 o2) (v:=.ref q')
  ⟨q',_,rfl,Yz kc,⟨_,_,rfl,rfl,⟨_,_,rfl,rfl,⟨_,_,rfl,rfl,⟨_,_,rfl,rfl,⟨_,_,rfl,rfl,⟨_,_,rfl,⟨a1,_,rfl,V8 (by simp) ka',Jo _ _⟩,⟨_,_,rfl,⟨a2,_,rfl,V8 (by simp) kb',Jo _ _⟩,rfl⟩⟩⟩⟩⟩⟩⟩⟩
 replace R7:=(YL.same S6).trans R7;generalize (upd Hc M.ld (.lst (vs ++ [.ref q'])))=H7 at W7 R7 ⊢;obtain⟨dm7,obm7⟩:=W7.ob;refine⟨_,rfl,M.p,dm7,_,rfl,obm7,Yh _ (by decide +kernel),_,rfl,_,rfl,_,rfl,_,rfl,_,rfl,_,rfl,by show 2<=sizeLine;lia,fun t2 ht2=>?_⟩;have S8:=ZA.new (o:=.tup [.int j,.str n]) ht2;have k8:(upd H7 t2 (.tup [.int j,.str n])) t2=some (.tup [.int j,.str n]):=Zg;generalize (upd H7 t2 (.tup [.int j,.str n]))=H8 at S8 k8 ⊢;have R8:=R7.trans (YL.same S8);refine⟨M,ds,wa,_,m.told (acD j n day need o1 o2),qs,day,need,l1,l2,o1,o2,f,some ((j:Int),n),.ref t2,rfl,W7.same S8,ok.told _,(J7 es).1,hds,R8.1 l1 _ h1 w1,R8.1 l2 _ h2 w2,n1,n2,d0,d1,g0,g1,fun n hn=>(hall n hn).2,⟨hi,hx,t2,rfl,k8⟩,fun lv s1 s2 H9 W9 T9 F9=>?_⟩;exact k _ _ ⟨M.setv lv,wa,_,qs,rfl,W9,rfl⟩ (R8.trans ⟨T9,F9⟩)
def Mo.pena(m:Mo)(n:Str):Mo:={m with pen:=fun x=>if x=n then some (m.trials.length:Int) else m.pen x,npen:=m.npen+1,deeds:=m.deeds ++ [.tup [.str "penance", .str n]] }
inductive Ja(C CM:eF)(c:dZ)(vs:List V)(H:Hp)(Q:VK)(E:XK):Prop
 |mk(p) (ds) (m) (O) (n)(_:vs = [.ref p,.str n])(_:YD C CM H p ds m O)(_:n.length<=100)(_:m.npen<=1000)(_:m.trials.length<=1000)(_:Uo E c H (∀O' H',YD C CM H' p ds (m.pena n) O'->YL O H O' H'->Q .non H') ((Ve ds n).or ((Jw ds n).or (Yr m))))
abbrev Fw:Stmt:=Yg (top 57) 4
theorem cI(Zh2:ZQ K CM "penance" "Moot.penance" Fw)(T:Txt mg)(Tc:YV K C)(Tm:ZK K CM)(M_check_known:ZY P w K mg base C "check_known" 1 (YR C c))(M_check_untold:ZY P w K mg base C "check_untold" 1 (WK C c))(MM_check_moments:ZY P w K mg base CM "check_moments" 1 (YN C CM c)):ZY P w K mg base CM "penance" 2 (Ja C CM c):=by
 refine Zh2.mx ["self","name"] ["self","name"] fun H vs Q E hr h=>?_;obtain⟨_,ds,m,_,n,rfl,⟨M,wa,xs,qs,rfl,W,rfl⟩,ho,hp4,ht4,k⟩:=h;refine⟨rfl,_,(Zc (Zk (Yo Z4 (Zw Q0) Tc.cl M_check_known (Za Q1 Zb))) (Zc (Zk (Yo Z4 (Zw Q0) Tc.cl M_check_untold (Za Q1 Zb))) (Zc (Zk (JQ Z4 Q0 Tm.cl MM_check_moments)) (Zc (JI hr (Zw Q0) Q1 (Z3 Yv T.len Yk (Za (Zw Q0) Zb))) (Zf (Zk (Y0 F.plainAttrs_list F.slot_list_append F.type_list_append Y9 (Zw Q0) (Za (Z9 (Za Z7 (Za Q1 Zb))) Zb)))))))),?_⟩;have hz:(5000:Nat)<=sizeLine:=by decide
 obtain⟨dm,obm⟩:=W.ob;obtain⟨dx,ob⟩:=W.fk.f.ob;refine⟨_,rfl,M.p,CM,dm,_,_,rfl,obm,Tm.cl,Tm.nf,Vm _,M.L.p,dx,_,rfl,ob,Ye _ _ _ _ (by decide +kernel),_,rfl,M.L,ds,n,rfl,W.fk.f,ho,?_⟩;cases ek:Ve ds n with
 | some z=>rw[ek] at k;exact k H (ZA.refl H)
 | none =>
 rw[ek,xK] at k;refine⟨_,rfl,M.p,CM,dm,_,_,rfl,obm,Tm.cl,Tm.nf,Vm _,M.L.p,dx,_,rfl,ob,Ye _ _ _ _ (by decide +kernel),_,rfl,M.L,ds,n,rfl,W.fk.f,ho,?_⟩;cases eu:Jw ds n with
 | some z=>rw[eu] at k;exact k H (ZA.refl H)
 | none =>
 rw[eu,xK] at k;refine⟨_,rfl,M.p,dm,_,rfl,obm,Yh _ (by decide +kernel),M,ds,wa,xs,m,qs,rfl,W,?_⟩;cases em:Yr m with
 | some z=>rw[em] at k;exact k H (ZA.refl H)
 | none =>
 rw[em] at k;have hn4:=J4 em;obtain⟨ts,t1,_,t2⟩:=(W.ls (M.lt,m.trials.map Wj) (by simp[Mo.at_])).get;dsimp only at t1 t2;rw[xA] at t2;obtain⟨kvs,p1,p2,p3⟩:=W.pn;refine⟨_,rfl,M.p,CM,dm,_,_,rfl,obm,Tm.cl,Tm.nt,Ab _,M.lt,ts,rfl,.inl (ZE.of t1),?_⟩;refine⟨_,rfl,M.p,CM,dm,_,_,rfl,obm,Tm.cl,Tm.np,Kz _,_,rfl,M.dp,_,rfl,YZ.k (k:=Sum.inr n) p1 (by lia),?_⟩;rw[t2];have W1:=W.pena (n:=n) (c:=(m.trials.length:Int)) p1;have g0:∀b o,b≠M.dp->H b=some o->(upd H M.dp (.dK (Z5 kvs (.inr n) (.int m.trials.length)))) b=some o:=fun b o nb e=>by rw[Ze nb];exact e
 generalize (upd H M.dp (.dK (Z5 kvs (.inr n) (.int m.trials.length))))=H1 at W1 g0 ⊢;obtain⟨dm2,obm2⟩:=W1.ob;obtain⟨vs,e1,_,e2⟩:=(W1.ls (M.ld,m.deeds) (by simp[Mo.at_])).get;dsimp only at e1 e2;refine⟨_,rfl,M.p,CM,dm2,_,_,rfl,obm2,Tm.cl,Tm.nd,Ux _,.inl ⟨rfl,_,ZE.of e1⟩,_,rfl,by show 2<=sizeLine;lia,fun p hp=>?_⟩;have S3:=ZA.new (o:=.tup [.str "penance", .str n]) hp;have kp:(upd H1 p (.tup [.str "penance", .str n])) p=some (.tup [.str "penance", .str n]):=Zg;generalize (upd H1 p (.tup [.str "penance", .str n]))=H3 at S3 kp ⊢;have W3:=W1.same S3;refine⟨M.ld,vs,.ref p,rfl,rfl,S3 _ _ e1,by lia,?_⟩;refine k _ _ ⟨M,wa,xs,qs,rfl,W3.deed (S3 _ _ e1) ⟨p,_,rfl,Yz kp,⟨_,_,rfl,rfl,⟨_,_,rfl,rfl,rfl⟩⟩⟩,rfl⟩ ⟨fun b o e nb=>?_,fun _ hb=>.inl hb⟩;rw[Ze (fun z:b=M.ld=>nb (z▸Ao))];exact S3 _ _ (g0 b o (fun z=>nb (.inr (.inl z))) e)
theorem RH(h:Vx x=true):Vb x:=by
 unfold Vx at h;simp only[yW,decide_eq_true_eq,zK] at h;exact⟨fun c hc=>by have:=h.2 c hc;unfold okc at this;simpa using this,h.1.1,h.1.2⟩
theorem DS(h:Ui ds n day wt=none):Vb n/\(0<=day/\day<=9999)/\(1<=wt/\wt<=1000)/\Zl ds n=none/\(Wi ds).length < 40:=by
 unfold Ui at h
 by_cases z:Vx n=false
 ·rw[if_pos z] at h;cases h
 ·rw[if_neg z] at h;simp only[yM] at h;refine⟨RH (by simpa using z),Vj h.1,Vj h.2.1,?_⟩;obtain⟨a,b⟩:=h.2.2;refine⟨Classical.byContradiction fun y=>?_,Classical.byContradiction fun y=>?_⟩
  ·rw[if_neg y] at a;cases a
  ·rw[if_neg y] at b;cases b
def coD(n:Str)(day wt:Int):D:=.tup [.str "come", .str n,.int day,.int wt]
inductive Ts(C CM:eF)(c:dZ)(vs:List V)(H:Hp)(Q:VK)(E:XK):Prop
 |mk(p) (ds) (m) (O) (n) (day wt)(_:vs = [.ref p,.str n,.int day,.int wt])(_:YD C CM H p ds m O)(_:ds.length<=1000)(_:okN n)(_:okI day)(_:okI wt)(_:Uo E c H (∀O' H',YD C CM H' p (ds ++ [.come n day wt]) (m.told (coD n day wt)) O'->YL O H O' H'->Q .non H') ((Ui ds n day wt).or (Yr m)))
abbrev HZ:Stmt:=Yg (top 57) 1
theorem Qa(Zh3:ZQ K CM "come" "Moot.come" HZ)(Tc:YV K C)(Tm:ZK K CM)(M_check_coming:ZY P w K mg base C "check_coming" 2 (VP C c))(M_come:Mt P w K mg base C "come" ["self","name","day","weight"] 3 (Ti C))(MM_check_moments:ZY P w K mg base CM "check_moments" 1 (YN C CM c)):ZY P w K mg base CM "come" 4 (Ts C CM c):=by
 refine Zh3.mx ["self","name","day","weight"] ["self","name","day","weight"] fun H vs Q E hr h=>?_;obtain⟨_,ds,m,_,n,day,wt,rfl,⟨M,wa,xs,qs,rfl,W0,rfl⟩,hl,ho,hi,hw,k⟩:=h;refine⟨rfl,_,(Zc (Zk (Yo Z4 (Zw Q0) Tc.cl M_check_coming (Za Q1 (Za Q2 (Za Q3 Zb))))) (Zc (Zk (JQ Z4 Q0 Tm.cl MM_check_moments)) (Zc (Zk (Yn (Zw Q0) Tc.cl M_come (Za Q1 (Za Q2 (Za Q3 Zb))))) (Zf (Zk (Y0 F.plainAttrs_list F.slot_list_append F.type_list_append Y9 (Zw Q0) (Za (Z9 (Za Z7 (Za Q1 (Za Q2 (Za Q3 Zb))))) Zb))))))),?_⟩;have hz:(5000:Nat)<=sizeLine:=by decide
 obtain⟨dm,obm⟩:=W0.ob;obtain⟨dx,ob⟩:=W0.fk.f.ob;refine⟨_,rfl,M.p,CM,dm,_,_,rfl,obm,Tm.cl,Tm.nf,Vm _,M.L.p,dx,_,rfl,ob,Ye _ _ _ _ (by decide +kernel),_,rfl,_,rfl,_,rfl,M.L,ds,wa,n,day,wt,rfl,W0.fk,hl,ho,hi,hw,fun H1 S1=>?_⟩;cases ec:Ui ds n day wt with
 | some z=>rw[ec] at k;exact k H1 S1
 | none =>
 rw[ec,xK] at k;have W1:=W0.same S1;refine⟨_,rfl,M.p,dm,_,rfl,S1 _ _ obm,Yh _ (by decide +kernel),M,ds,wa,xs,m,qs,rfl,W1,?_⟩;cases em:Yr m with
 | some z=>rw[em] at k;exact k H1 S1
 | none =>
 rw[em] at k;have hn4:=J4 em;obtain⟨hnm,⟨d0,d1⟩,⟨w0,w1⟩,hc,hcm⟩:=DS ec;refine⟨_,rfl,M.p,CM,dm,_,_,rfl,S1 _ _ obm,Tm.cl,Tm.nf,Vm _,M.L.p,dx,_,rfl,S1 _ _ ob,Ye _ _ _ _ (by decide +kernel),_,rfl,_,rfl,_,rfl,M.L,ds,wa,n,day,wt,rfl,W1.fk,hcm,hl,hnm,d0,d1,w0,w1,hc,fun wa' H2 F2 T2 R2=>?_⟩;have W2:=W1.folk F2 T2 R2;obtain⟨dm2,obm2⟩:=W2.ob;obtain⟨vs,e1,_,e2⟩:=(W2.ls (M.ld,m.deeds) (by simp[Mo.at_])).get;dsimp only at e1 e2;refine⟨_,rfl,M.p,CM,dm2,_,_,rfl,obm2,Tm.cl,Tm.nd,Ux _,.inl ⟨rfl,_,ZE.of e1⟩,_,rfl,_,rfl,_,rfl,by show 4<=sizeLine;lia,fun p hp=>?_⟩;have S3:=ZA.new (o:=.tup [.str "come", .str n,.int day,.int wt]) hp;have kp:(upd H2 p (.tup [.str "come", .str n,.int day,.int wt])) p=some (.tup [.str "come", .str n,.int day,.int wt]):=Zg;generalize (upd H2 p (.tup [.str "come", .str n,.int day,.int wt]))=H3 at S3 kp ⊢;have W3:=W2.same S3;refine⟨M.ld,vs,.ref p,rfl,rfl,S3 _ _ e1,by lia,?_⟩;refine k _ _ ⟨M,wa',xs,qs,rfl,W3.deed (S3 _ _ e1) ⟨p,_,rfl,Yz kp,⟨_,_,rfl,rfl,⟨_,_,rfl,rfl,⟨_,_,rfl,rfl,⟨_,_,rfl,rfl,rfl⟩⟩⟩⟩⟩,rfl⟩ ⟨fun b o e nb=>?_,fun b hb=>?_⟩
 ·rw[Ze (fun z:b=M.ld=>nb (z▸Ao))];exact S3 _ _ (T2 b o (S1 _ _ e) fun z=>nb (.inr (.inr (.inr (.inr z)))))
 ·exact(WQ.folk (xs:=xs) (qs:=qs) R2 b hb).imp id S1.free
def FH(n:Str)(day:Int):D:=.tup [.str "bring", .str n,.int day]
def Mo.brg(m:Mo)(n:Str)(day:Int):Mo:={m with brs:=m.brs ++ [.tup [.str n,.int day]],haps:=m.haps ++ [[]],deeds:=m.deeds ++ [FH n day] }
def C4(m:Mo):Option Str:=if m.brs.length < 40 then none else some "TooMany"
inductive UD(C CM:eF)(c:dZ)(vs:List V)(H:Hp)(Q:VK)(E:XK):Prop
 |mk(p) (ds) (m) (O) (n) (day)(_:vs = [.ref p,.str n,.int day])(_:YD C CM H p ds m O)(_:VD m)(_:n.length<=100)(_:okI day)(_:Uo E c H (∀O' H',YD C CM H' p ds (m.brg n day) O'->YL O H O' H'->Q (.int m.brs.length) H') ((eM 0 9999 day).or ((Wy ds m day [n] none none).or ((C4 m).or (Yr m)))))
abbrev Kw:Stmt:=Yg (top 57) 5
theorem Rz(Zh4:ZQ K CM "bring" "Moot.bring" Kw)(T:Txt mg)(Tm:ZK K CM)(C0:∃t,mg "MOST_THINGS" = some (.int 40 t))(er:Er K mg c errs)(Yy:WA P w K mg base "check_day" 1 (VM 0 9999 c))(MM_check_named:ZY P w K mg base CM "check_named" 3 (YK C CM c))(MM_check_moments:ZY P w K mg base CM "check_moments" 1 (YN C CM c)):ZY P w K mg base CM "bring" 4 (UD C CM c):=by
 obtain⟨t0,c_MOST_THINGS⟩:=C0;have r_MOST_THINGS:ZG (.int 40) (.int 40 t0):=⟨t0,rfl⟩;refine Zh4.mx ["self","name","day"] ["self","name","day"] fun H vs Q E hr h=>?_;obtain⟨_,ds,m,_,n,day,rfl,⟨M,wa,xs,qs,rfl,W0,rfl⟩,ok,ho,dI,k⟩:=h;refine⟨rfl,_,(Zc (Zk (Wu Z4 Yy (Za Q2 Zb))) (Zc (Zk (Yo Z4 Q0 Tm.cl MM_check_named (Za Q2 (Za (Yl (Za Q1 Zb)) (Za Y3 (Za Y3 Zb)))))) (Zc (Zo (Zr Af (Z3 Yv T.len Yk (Za (Zw Q0) Zb)) (Y4 c_MOST_THINGS r_MOST_THINGS) (Zu _)) (Zf (Wa Yw er (We (Yp (Yx (Y4 c_MOST_THINGS r_MOST_THINGS) (Yp Wd)))))) Zn) (Zc (Zk (JQ Z4 Q0 Tm.cl MM_check_moments)) (Zc (Zk (Y0 F.plainAttrs_list F.slot_list_append F.type_list_append Y9 (Zw Q0) (Za (Z9 (Za Q1 (Za Q2 Zb))) Zb))) (Zc (Zk (Y0 F.plainAttrs_list F.slot_list_append F.type_list_append Y9 (Zw Q0) (Za (Yl Zb) Zb))) (Zc (Zk (Y0 F.plainAttrs_list F.slot_list_append F.type_list_append Y9 (Zw Q0) (Za (Z9 (Za Z7 (Za Q1 (Za Q2 Zb)))) Zb))) (Zf (Zt (Z2 Ah (Z3 Yv T.len Yk (Za (Zw Q0) Zb)) Zd)))))))))),?_⟩;have hz:(5000:Nat)<=sizeLine:=by decide
 have hhb:=ok.hb;refine⟨_,rfl,day,rfl,dI,?_⟩;cases ed:eM 0 9999 day with
 | some z=>rw[ed] at k;exact k H (ZA.refl H)
 | none =>
 rw[ed,xK] at k;obtain⟨dm,obm⟩:=W0.ob;refine⟨_,rfl,M.p,dm,_,rfl,obm,Yh _ (by decide +kernel),_,rfl,_,rfl,by show 1<=sizeLine;lia,fun pl hpl=>?_⟩;have S1:=ZA.new (o:=.lst [.str n]) hpl;have k1:(upd H pl (.lst [.str n])) pl=some (.lst ([n].map V.str)):=Zg;generalize (upd H pl (.lst [.str n]))=H1 at S1 k1 ⊢;have W1:=W0.same S1;refine⟨M,ds,wa,xs,m,qs,day,pl,[n],none,none,.non,rfl,W1,ok,k1,fun m hm=>by rw[xT.mp hm];exact ho,dI,(fun j e=>nomatch e),rfl,fun H1' S1'=>?_⟩;replace S1:=S1.trans S1';replace W1:=W1.same S1';cases en:Wy ds m day [n] none none with
 | some z=>rw[en] at k;exact k H1' S1
 | none =>
 rw[en,xK] at k;have obm1:=S1 _ _ obm;obtain⟨us,e1,_,hul⟩:=(W1.ls (M.lb,m.brs) (by simp[Mo.at_])).get;dsimp only at e1 hul;refine⟨_,rfl,M.p,CM,dm,_,_,rfl,obm1,Tm.cl,Tm.nb,BJ _,M.lb,us,rfl,.inl (ZE.of e1),_,_,rfl,rfl,_,rfl,Z0 (fun z=>?_) (fun z=>?_)⟩
 ·have:C4 m=some "TooMany" := if_neg (by lia);rw[this] at k;exact⟨by decide +kernel,.inr ⟨40,rfl,by decide +kernel⟩,by decide +kernel,fun _=>k H1' S1⟩
 have hl:m.brs.length < 40:=by lia
 have:C4 m=none:=if_pos hl;rw[this,xK] at k;refine⟨_,rfl,M.p,dm,_,rfl,obm1,Yh _ (by decide +kernel),M,ds,wa,xs,m,qs,rfl,W1,?_⟩;cases em:Yr m with
 | some z=>rw[em] at k;exact k H1' S1
 | none =>
 rw[em] at k;have hn4:=J4 em;refine⟨_,rfl,M.p,CM,dm,_,_,rfl,obm1,Tm.cl,Tm.nb,BJ _,.inl ⟨rfl,_,ZE.of e1⟩,_,rfl,_,rfl,by show 2<=sizeLine;lia,fun a ha=>?_⟩;have S2:=ZA.new (o:=.tup [.str n,.int day]) ha;have k2:(upd H1' a (.tup [.str n,.int day])) a=some (.tup [.str n,.int day]):=Zg;generalize (upd H1' a (.tup [.str n,.int day]))=H2 at S2 k2 ⊢;have W2:=W1.same S2;refine⟨M.lb,us,.ref a,rfl,rfl,S2 _ _ e1,by lia,?_⟩;have W3:=W2.brg (S2 _ _ e1) (d:=.tup [.str n,.int day]) (v:=.ref a) ⟨a,_,rfl,Yz k2,⟨_,_,rfl,rfl,⟨_,_,rfl,rfl,rfl⟩⟩⟩;have T3:JA M ds wa xs qs H (upd H2 M.lb (.lst (us ++ [.ref a]))):=fun b o e nb=>by
  rw[Ze (fun z:b=M.lb=>nb (z ▸ .inr (.inr (.inl (by simp[ML.ls])))))];exact S2 _ _ (S1 _ _ e)
 generalize (upd H2 M.lb (.lst (us ++ [.ref a])))=H3 at W3 T3 ⊢;obtain⟨dm2,obm2⟩:=W3.ob;have e3:=W3.hl;refine⟨_,rfl,M.p,CM,dm2,_,_,rfl,obm2,Tm.cl,Tm.nh,E1 _,.inl ⟨rfl,_,ZE.of e3⟩,by show 0<=sizeLine;lia,fun q hq=>?_⟩;have S4:=ZA.new (o:=.lst []) hq;have k4:(upd H3 q (.lst [])) q=some (.lst []):=Zg;have nq:¬mo M ds wa xs qs q:=fun z=>by obtain⟨o,e⟩:=W3.there z;rw[hq] at e;cases e
 have hqf:H q=none:=by
  cases e:H q with
  | none=>rfl
  | some o=>rw[T3 q o e nq] at hq;cases hq
 generalize (upd H3 q (.lst []))=H4 at S4 k4 ⊢;refine⟨M.lh,qs.map V.ref,.ref q,rfl,rfl,S4 _ _ e3,by rw[xA];have:=W0.hn;lia,?_⟩;have W5:=(W3.same S4).newq k4 nq;have T5:JA M ds wa xs qs H (upd H4 M.lh (.lst (qs.map V.ref ++ [.ref q]))):=fun b o e nb=>by
  rw[Ze (fun z:b=M.lh=>nb (z ▸ .inr (.inr (.inl xY))))];exact S4 _ _ (T3 b o e nb)
 have em:(qs ++ [q]).map V.ref=qs.map V.ref ++ [.ref q]:=by rw[xO];rfl
 rw[em] at W5;generalize (upd H4 M.lh (.lst (qs.map V.ref ++ [.ref q])))=H5 at W5 T5 ⊢;obtain⟨dm4,obm4⟩:=W5.ob;obtain⟨vs,f1,_,f2⟩:=(W5.ls (M.ld,m.deeds) (by simp[Mo.at_])).get;dsimp only at f1 f2;refine⟨_,rfl,M.p,CM,dm4,_,_,rfl,obm4,Tm.cl,Tm.nd,Ux _,.inl ⟨rfl,_,ZE.of f1⟩,_,rfl,_,rfl,by show 3<=sizeLine;lia,fun p hp=>?_⟩;have S6:=ZA.new (o:=.tup [.str "bring", .str n,.int day]) hp;have k6:(upd H5 p (.tup [.str "bring", .str n,.int day])) p=some (.tup [.str "bring", .str n,.int day]):=Zg;generalize (upd H5 p (.tup [.str "bring", .str n,.int day]))=H6 at S6 k6 ⊢;have W6:=W5.same S6;refine⟨M.ld,vs,.ref p,rfl,rfl,S6 _ _ f1,by lia,?_⟩;have W7:=W6.deed (v:=.ref p) (S6 _ _ f1) (d:=.tup [.str "bring", .str n,.int day]) ⟨p,_,rfl,Yz k6,⟨_,_,rfl,rfl,⟨_,_,rfl,rfl,⟨_,_,rfl,rfl,rfl⟩⟩⟩⟩;have T7:JA M ds wa xs qs H (upd H6 M.ld (.lst (vs ++ [.ref p]))):=fun b o e nb=>by
  rw[Ze (fun z:b=M.ld=>nb (z▸Ao))];exact S6 _ _ (T5 b o e nb)
 generalize (upd H6 M.ld (.lst (vs ++ [.ref p])))=H7 at W7 T7 ⊢;obtain⟨dm6,obm6⟩:=W7.ob;obtain⟨us6,g1,_,g2⟩:=(W7.ls (M.lb,m.brs ++ [.tup [.str n,.int day]]) (by simp[Mo.at_])).get;dsimp only at g1 g2;rw[xE] at g2;refine⟨_,rfl,M.p,CM,dm6,_,_,rfl,obm6,Tm.cl,Tm.nb,BJ _,M.lb,us6,rfl,.inl (ZE.of g1),_,_,rfl,rfl,?_⟩;have ei:((us6.length:Int) - 1)=(m.brs.length:Int):=by rw[g2];simp
 show Q (.int ((us6.length:Int) - 1)) H7;rw[ei];refine k _ H7 ⟨M,wa,xs,_,rfl,W7,rfl⟩ ⟨T7,fun b hb=>?_⟩;rcases hb with z | z | z | z | z
 ·exact .inl (.inl z)
 ·exact .inl (.inr (.inl z))
 ·rw[← yV,← yF] at z;rcases xL.mp z with z | z
  ·exact .inl (.inr (.inr (.inl z)))
  ·rw[xT.mp z];exact .inr hqf
 ·exact .inl (.inr (.inr (.inr (.inl z))))
 ·exact .inl (.inr (.inr (.inr (.inr z))))
def gvD(i:Int)(x y:Str)(day:Int):D:=.tup [.str "give", .int i,.str x,.str y,.int day]
def Mo.give(m:Mo)(i:Nat)(x y:Str)(day:Int):Mo:={m with haps:=m.haps.set i (m.haps.getD i [] ++ [.tup [.non,.tup [.int day,.str "given", .str x,.str y]]]),deeds:=m.deeds ++ [gvD i x y day] }
inductive Tt(C CM:eF)(c:dZ)(vs:List V)(H:Hp)(Q:VK)(E:XK):Prop
 |mk(p) (ds) (m) (O) (i) (x y) (day)(_:vs = [.ref p,.int i,.str x,.str y,.int day])(_:YD C CM H p ds m O)(_:VD m)(_:x.length<=100)(_:y.length<=100)(_:okI i)(_:okI day)(_:Uo E c H (∀O' H',YD C CM H' p ds (m.give i.toNat x y day) O'->YL O H O' H'->Q .non H') ((eM 0 9999 day).or ((Wy ds m day [x,y] (some i) none).or (Yr m))))
abbrev Gm:Stmt:=Yg (top 57) 6
theorem NS(Zh5:ZQ K CM "give" "Moot.give" Gm)(Tm:ZK K CM)(Yy:WA P w K mg base "check_day" 1 (VM 0 9999 c))(MM_check_named:ZY P w K mg base CM "check_named" 3 (YK C CM c))(MM_check_moments:ZY P w K mg base CM "check_moments" 1 (YN C CM c)):ZY P w K mg base CM "give" 4 (Tt C CM c):=by
 refine Zh5.mx ["self","thing","giver","taker","day"] ["self","thing","giver","taker","day"] fun H vs Q E hr h=>?_;obtain⟨_,ds,m,_,i,x,y,day,rfl,⟨M,wa,xs,qs,rfl,W0,rfl⟩,ok,hx,hy,hi,dI,k⟩:=h;refine⟨rfl,_,(Zc (Zk (Wu Z4 Yy (Za Q4 Zb))) (Zc (Zk (Yo Z4 Q0 Tm.cl MM_check_named (Za Q4 (Za (Yl (Za Q2 (Za Q3 Zb))) (Za Q1 (Za Y3 Zb)))))) (Zc (Zk (JQ Z4 Q0 Tm.cl MM_check_moments)) (Zc (Zk (Y0 F.plainAttrs_list F.slot_list_append F.type_list_append Y9 (Zi Yb (Zw Q0) Q1 (fun _ _=>rfl)) (Za (Z9 (Za Y3 (Za (Z9 (Za Q4 (Za Z7 (Za Q2 (Za Q3 Zb))))) Zb))) Zb))) (Zf (Zk (Y0 F.plainAttrs_list F.slot_list_append F.type_list_append Y9 (Zw Q0) (Za (Z9 (Za Z7 (Za Q1 (Za Q2 (Za Q3 (Za Q4 Zb)))))) Zb)))))))),?_⟩;have hz:(5000:Nat)<=sizeLine:=by decide
 refine⟨_,rfl,day,rfl,dI,?_⟩;cases ed:eM 0 9999 day with
 | some z=>rw[ed] at k;exact k H (ZA.refl H)
 | none =>
 rw[ed,xK] at k;obtain⟨dm,obm⟩:=W0.ob;refine⟨_,rfl,M.p,dm,_,rfl,obm,Yh _ (by decide +kernel),_,rfl,_,rfl,_,rfl,by show 2<=sizeLine;lia,fun pl hpl=>?_⟩;have S1:=ZA.new (o:=.lst [.str x,.str y]) hpl;have k1:(upd H pl (.lst [.str x,.str y])) pl=some (.lst ([x,y].map V.str)):=Zg;generalize (upd H pl (.lst [.str x,.str y]))=H1 at S1 k1 ⊢;refine⟨_,rfl,M,ds,wa,xs,m,qs,day,pl,[x,y],some i,none,.non,rfl,W0.same S1,ok,k1,fun n hn=>?_,dI,(fun j e=>by cases e;exact hi),rfl,fun H1' S1'=>?_⟩
 ·grind
 replace S1:=S1.trans S1';cases en:Wy ds m day [x,y] (some i) none with
 | some z=>rw[en] at k;exact k H1' S1
 | none =>
 rw[en,xK] at k;have W1:=W0.same S1;have obm1:=S1 _ _ obm;refine⟨_,rfl,M.p,dm,_,rfl,obm1,Yh _ (by decide +kernel),M,ds,wa,xs,m,qs,rfl,W1,?_⟩;cases em:Yr m with
 | some z=>rw[em] at k;exact k H1' S1
 | none =>
 rw[em] at k;have hn4:=J4 em;obtain⟨_,p2,_⟩:=A1 en;have hin:inB i m.brs.length:=by
  have:=p2 i rfl;unfold JJ at this
  by_cases z:inB i m.brs.length
  ·exact z
  ·rw[if_neg z] at this;cases this
 obtain⟨i,rfl⟩:=yK hin.1;have hj:i < m.haps.length:=by rw[ok.hb];have:=hin.2;lia
 have hcl:m.haps[i]? = some (m.haps.getD i []):=by rw[xZ,xB hj];rfl
 have hcn:=ok.hl _ (xJ hcl);rw[yR] at k;unfold Mo.give at k;generalize m.haps.getD i []=cl at hcl hcn k;have hi:i < qs.length:=by rw[W1.hn];exact(xH.mp hcl).1
 have hq:qs[i]? = some qs[i]:=xB hi;have mz:(qs[i],cl)∈qs.zip m.haps:=xJ (i:=i) (by rw[zA];exact⟨hq,hcl⟩);obtain⟨us,e1,_,hul⟩:=(W1.ls (qs[i],cl) (by simp[Mo.at_,mz])).get;dsimp only at e1 hul;refine⟨_,rfl,M.p,CM,dm,_,_,rfl,obm1,Tm.cl,Tm.nh,E1 _,_,rfl,M.lh,_,i,.ref qs[i],rfl,rfl,ZE.of W1.hl,Y8 (by rw[xI,hq];rfl),.inl ⟨rfl,_,ZE.of e1⟩,_,rfl,_,rfl,_,rfl,by show 4<=sizeLine;lia,fun b hb=>?_⟩;have S2:=ZA.new (o:=.tup [.int day,.str "given", .str x,.str y]) hb;have k2:(upd H1' b (.tup [.int day,.str "given", .str x,.str y])) b=some (.tup [.int day,.str "given", .str x,.str y]):=Zg;generalize (upd H1' b (.tup [.int day,.str "given", .str x,.str y]))=H2 at S2 k2 ⊢;refine⟨by show 2<=sizeLine;lia,fun a ha=>?_⟩;have S3:=ZA.new (o:=.tup [.non,.ref b]) ha;have k3:(upd H2 a (.tup [.non,.ref b])) a=some (.tup [.non,.ref b]):=Zg;generalize (upd H2 a (.tup [.non,.ref b]))=H3 at S3 k3 ⊢;have W3:=(W1.same S2).same S3;have e3:=S3 _ _ (S2 _ _ e1);refine⟨qs[i],us,.ref a,rfl,rfl,e3,by lia,?_⟩;have W4:=W3.hap hq hcl (d:=.tup [.non,.tup [.int day,.str "given", .str x,.str y]]) (v:=.ref a) e3 ⟨a,_,rfl,Yz k3,⟨_,_,rfl,rfl,⟨_,_,rfl,⟨b,_,rfl,Yz (S3 _ _ k2),⟨_,_,rfl,rfl,⟨_,_,rfl,rfl,⟨_,_,rfl,rfl,⟨_,_,rfl,rfl,rfl⟩⟩⟩⟩⟩,rfl⟩⟩⟩;have T4:JA M ds wa xs qs H (upd H3 qs[i] (.lst (us ++ [.ref a]))):=fun c o e nb=>by
  rw[Ze (fun z:c=qs[i]=>nb (z ▸ .inr (.inr (.inl (xN _ (xF _ (zE hi)))))))];exact S3 _ _ (S2 _ _ (S1 _ _ e))
 generalize (upd H3 qs[i] (.lst (us ++ [.ref a])))=H4 at W4 T4 ⊢;obtain⟨dm4,obm4⟩:=W4.ob;obtain⟨vs,f1,_,f2⟩:=(W4.ls (M.ld,m.deeds) (by simp[Mo.at_])).get;dsimp only at f1 f2;refine⟨_,rfl,M.p,CM,dm4,_,_,rfl,obm4,Tm.cl,Tm.nd,Ux _,.inl ⟨rfl,_,ZE.of f1⟩,_,rfl,_,rfl,_,rfl,_,rfl,by show 5<=sizeLine;lia,fun p hp=>?_⟩;have S5:=ZA.new (o:=.tup [.str "give", .int i,.str x,.str y,.int day]) hp;have kp:(upd H4 p (.tup [.str "give", .int i,.str x,.str y,.int day])) p=some (.tup [.str "give", .int i,.str x,.str y,.int day]):=Zg;generalize (upd H4 p (.tup [.str "give", .int i,.str x,.str y,.int day]))=H5 at S5 kp ⊢;refine⟨M.ld,vs,.ref p,rfl,rfl,S5 _ _ f1,by lia,?_⟩;refine k _ _ ⟨M,wa,xs,qs,rfl,(W4.same S5).deed (S5 _ _ f1) ⟨p,_,rfl,Yz kp,⟨_,_,rfl,rfl,⟨_,_,rfl,rfl,⟨_,_,rfl,rfl,⟨_,_,rfl,rfl,⟨_,_,rfl,rfl,rfl⟩⟩⟩⟩⟩⟩,rfl⟩ ⟨fun c o e nb=>?_,fun _ hb=>.inl hb⟩;rw[Ze (fun z:c=M.ld=>nb (z▸Ao))];exact S5 _ _ (T4 c o e nb)
def pyD(x y:Str)(many day:Int):D:=.tup [.str "pay", .str x,.str y,.int many,.int day]
def Mo.pay(m:Mo)(x y:Str)(many day:Int):Mo:={m with debts:=m.debts ++ [.tup [.non,.tup [.int day,.str y,.str x,.int many]]],deeds:=m.deeds ++ [pyD x y many day] }
inductive TM(C CM:eF)(c:dZ)(vs:List V)(H:Hp)(Q:VK)(E:XK):Prop
 |mk(p) (ds) (m) (O) (x y) (many day)(_:vs = [.ref p,.str x,.str y,.int many,.int day])(_:YD C CM H p ds m O)(_:VD m)(_:x.length<=100)(_:y.length<=100)(_:okI many)(_:okI day)(_:Uo E c H (∀O' H',YD C CM H' p ds (m.pay x y many day) O'->YL O H O' H'->Q .non H') ((eM 1 1000000 many).or ((eM 0 9999 day).or ((Wy ds m day [x,y] none none).or (Yr m)))))
abbrev IH:Stmt:=Yg (top 57) 7
theorem Od(Zh6:ZQ K CM "pay" "Moot.pay" IH)(Tm:ZK K CM)(Zh0:WA P w K mg base "check_money" 1 (VM 1 1000000 c))(Yy:WA P w K mg base "check_day" 1 (VM 0 9999 c))(MM_check_named:ZY P w K mg base CM "check_named" 3 (YK C CM c))(MM_check_moments:ZY P w K mg base CM "check_moments" 1 (YN C CM c)):ZY P w K mg base CM "pay" 4 (TM C CM c):=by
 refine Zh6.mx ["self","payer","taker","many","day"] ["self","payer","taker","many","day"] fun H vs Q E hr h=>?_;obtain⟨_,ds,m,_,x,y,many,day,rfl,⟨M,wa,xs,qs,rfl,W0,rfl⟩,ok,hx,hy,hmi,dI,k⟩:=h;refine⟨rfl,_,(Zc (Zk (Wu Z4 Zh0 (Za Q3 Zb))) (Zc (Zk (Wu Z4 Yy (Za Q4 Zb))) (Zc (Zk (Yo Z4 Q0 Tm.cl MM_check_named (Za Q4 (Za (Yl (Za Q1 (Za Q2 Zb))) (Za Y3 (Za Y3 Zb)))))) (Zc (Zk (JQ Z4 Q0 Tm.cl MM_check_moments)) (Zc (Zk (Y0 F.plainAttrs_list F.slot_list_append F.type_list_append Y9 (Zw Q0) (Za (Z9 (Za Y3 (Za (Z9 (Za Q4 (Za Q2 (Za Q1 (Za Q3 Zb))))) Zb))) Zb))) (Zf (Zk (Y0 F.plainAttrs_list F.slot_list_append F.type_list_append Y9 (Zw Q0) (Za (Z9 (Za Z7 (Za Q1 (Za Q2 (Za Q3 (Za Q4 Zb)))))) Zb))))))))),?_⟩;have hz:(5000:Nat)<=sizeLine:=by decide
 have hql:=ok.ql;refine⟨_,rfl,many,rfl,hmi,?_⟩;cases ey:eM 1 1000000 many with
 | some z=>rw[ey] at k;exact k H (ZA.refl H)
 | none =>
 rw[ey,xK] at k;refine⟨_,rfl,day,rfl,dI,?_⟩;cases ed:eM 0 9999 day with
 | some z=>rw[ed] at k;exact k H (ZA.refl H)
 | none =>
 rw[ed,xK] at k;obtain⟨dm,obm⟩:=W0.ob;refine⟨_,rfl,M.p,dm,_,rfl,obm,Yh _ (by decide +kernel),_,rfl,_,rfl,_,rfl,by show 2<=sizeLine;lia,fun pl hpl=>?_⟩;have S1:=ZA.new (o:=.lst [.str x,.str y]) hpl;have k1:(upd H pl (.lst [.str x,.str y])) pl=some (.lst ([x,y].map V.str)):=Zg;generalize (upd H pl (.lst [.str x,.str y]))=H1 at S1 k1 ⊢;refine⟨M,ds,wa,xs,m,qs,day,pl,[x,y],none,none,.non,rfl,W0.same S1,ok,k1,fun n hn=>?_,dI,(fun j e=>nomatch e),rfl,fun H1' S1'=>?_⟩
 ·grind
 replace S1:=S1.trans S1';cases en:Wy ds m day [x,y] none none with
 | some z=>rw[en] at k;exact k H1' S1
 | none =>
 rw[en,xK] at k;have W1:=W0.same S1;have obm1:=S1 _ _ obm;refine⟨_,rfl,M.p,dm,_,rfl,obm1,Yh _ (by decide +kernel),M,ds,wa,xs,m,qs,rfl,W1,?_⟩;cases em:Yr m with
 | some z=>rw[em] at k;exact k H1' S1
 | none =>
 rw[em] at k;have hn4:=J4 em;obtain⟨us,e1,_,hul⟩:=(W1.ls (M.lq,m.debts) (by simp[Mo.at_])).get;dsimp only at e1 hul;refine⟨_,rfl,M.p,CM,dm,_,_,rfl,obm1,Tm.cl,Tm.nq,IG _,.inl ⟨rfl,_,ZE.of e1⟩,_,rfl,_,rfl,_,rfl,_,rfl,by show 4<=sizeLine;lia,fun b hb=>?_⟩;have S2:=ZA.new (o:=.tup [.int day,.str y,.str x,.int many]) hb;have k2:(upd H1' b (.tup [.int day,.str y,.str x,.int many])) b=some (.tup [.int day,.str y,.str x,.int many]):=Zg;generalize (upd H1' b (.tup [.int day,.str y,.str x,.int many]))=H2 at S2 k2 ⊢;refine⟨by show 2<=sizeLine;lia,fun a ha=>?_⟩;have S3:=ZA.new (o:=.tup [.non,.ref b]) ha;have k3:(upd H2 a (.tup [.non,.ref b])) a=some (.tup [.non,.ref b]):=Zg;generalize (upd H2 a (.tup [.non,.ref b]))=H3 at S3 k3 ⊢;have W3:=(W1.same S2).same S3;have e3:=S3 _ _ (S2 _ _ e1);refine⟨M.lq,us,.ref a,rfl,rfl,e3,by lia,?_⟩;have W4:=W3.debt (d:=.tup [.non,.tup [.int day,.str y,.str x,.int many]]) (v:=.ref a) e3 ⟨a,_,rfl,Yz k3,⟨_,_,rfl,rfl,⟨_,_,rfl,⟨b,_,rfl,Yz (S3 _ _ k2),⟨_,_,rfl,rfl,⟨_,_,rfl,rfl,⟨_,_,rfl,rfl,⟨_,_,rfl,rfl,rfl⟩⟩⟩⟩⟩,rfl⟩⟩⟩;have T4:JA M ds wa xs qs H (upd H3 M.lq (.lst (us ++ [.ref a]))):=fun c o e nb=>by
  rw[Ze (fun z:c=M.lq=>nb (z ▸ .inr (.inr (.inl (by simp[ML.ls])))))];exact S3 _ _ (S2 _ _ (S1 _ _ e))
 generalize (upd H3 M.lq (.lst (us ++ [.ref a])))=H4 at W4 T4 ⊢;obtain⟨dm4,obm4⟩:=W4.ob;obtain⟨vs,f1,_,f2⟩:=(W4.ls (M.ld,m.deeds) (by simp[Mo.at_])).get;dsimp only at f1 f2;refine⟨_,rfl,M.p,CM,dm4,_,_,rfl,obm4,Tm.cl,Tm.nd,Ux _,.inl ⟨rfl,_,ZE.of f1⟩,_,rfl,_,rfl,_,rfl,_,rfl,by show 5<=sizeLine;lia,fun p hp=>?_⟩;have S5:=ZA.new (o:=.tup [.str "pay", .str x,.str y,.int many,.int day]) hp;have kp:(upd H4 p (.tup [.str "pay", .str x,.str y,.int many,.int day])) p=some (.tup [.str "pay", .str x,.str y,.int many,.int day]):=Zg;generalize (upd H4 p (.tup [.str "pay", .str x,.str y,.int many,.int day]))=H5 at S5 kp ⊢;refine⟨M.ld,vs,.ref p,rfl,rfl,S5 _ _ f1,by lia,?_⟩;refine k _ _ ⟨M,wa,xs,qs,rfl,(W4.same S5).deed (S5 _ _ f1) ⟨p,_,rfl,Yz kp,⟨_,_,rfl,rfl,⟨_,_,rfl,rfl,⟨_,_,rfl,rfl,⟨_,_,rfl,rfl,⟨_,_,rfl,rfl,rfl⟩⟩⟩⟩⟩⟩,rfl⟩ ⟨fun c o e nb=>?_,fun _ hb=>.inl hb⟩;rw[Ze (fun z:c=M.ld=>nb (z▸Ao))];exact S5 _ _ (T4 c o e nb)
theorem Fh(h:Wm d day=none):d<=day:=by
 unfold Wm at h
 by_cases z:day < d
 ·rw[if_pos z] at h;cases h
 ·lia
theorem GA(h:JO ds n day wt=none):(0<=day/\day<=9999)/\(1<=wt/\wt<=1000)/\(∃d,Zl ds n=some d/\d<=day)/\Vc ds n day=false:=by
 unfold JO at h;simp only[yM] at h;obtain⟨h1,h2,h3,h4,h5⟩:=h;obtain⟨d,hd⟩:=Bo h3;rw[hd] at h4;refine⟨Vj h1,Vj h2,⟨d,hd,Fh h4⟩,?_⟩;unfold JX at h5;cases z:Vc ds n day with
 | false=>rfl
 | true=>rw[if_pos z] at h5;cases h5
theorem MW(h:JZ ds n he day=none):(0<=day/\day<=9999)/\(∃d,Zl ds n=some d/\d<=day)/\(∃d,Zl ds he=some d/\d<=day)/\Zx ds n=none/\Zx ds he=none/\he≠n:=by
 unfold JZ at h;simp only[yM] at h;obtain⟨h1,h2,h3,h4,h5,h6,h7⟩:=h;obtain⟨d,hd⟩:=Bo h2;obtain⟨e,he'⟩:=Bo h3;rw[hd] at h4;rw[he'] at h5;have h6':Zx ds n=none:=by
  unfold Jw at h6
  by_cases z:Zx ds n=none
  ·exact z
  ·rw[if_neg z] at h6;cases h6
 by_cases z:he=n\/Zx ds he≠none
 ·rw[if_pos z] at h7;cases h7
 ·refine⟨Vj h1,⟨d,hd,Fh h4⟩,⟨e,he',Fh h5⟩,h6',?_,fun y=>z (.inl y)⟩
  by_cases y:Zx ds he=none
  ·exact y
  ·exact absurd (.inr y) z
def riD(n:Str)(day wt:Int):D:=.tup [.str "rise", .str n,.int day,.int wt]
inductive Tg(C CM:eF)(c:dZ)(vs:List V)(H:Hp)(Q:VK)(E:XK):Prop
 |mk(p) (ds) (m) (O) (n) (day wt)(_:vs = [.ref p,.str n,.int day,.int wt])(_:YD C CM H p ds m O)(_:ds.length<=1000)(_:n.length<=100)(_:okI day)(_:okI wt)(_:Uo E c H (∀O' H',YD C CM H' p (ds ++ [.rise n day wt]) (m.told (riD n day wt)) O'->YL O H O' H'->Q .non H') ((JO ds n day wt).or (Yr m)))
abbrev Gh:Stmt:=Yg (top 57) 2
theorem bS(Zh7:ZQ K CM "rise" "Moot.rise" Gh)(Tc:YV K C)(Tm:ZK K CM)(M_check_rise:ZY P w K mg base C "check_rise" 3 (TH C c))(M_rise:Mt P w K mg base C "rise" ["self","name","day","weight"] 4 (TL C))(MM_check_moments:ZY P w K mg base CM "check_moments" 1 (YN C CM c)):ZY P w K mg base CM "rise" 5 (Tg C CM c):=by
 refine Zh7.mx ["self","name","day","weight"] ["self","name","day","weight"] fun H vs Q E hr h=>?_;obtain⟨_,ds,m,_,n,day,wt,rfl,⟨M,wa,xs,qs,rfl,W0,rfl⟩,hl,ho,hi,hw,k⟩:=h;refine⟨rfl,_,(Zc (Zk (Yo Z4 (Zw Q0) Tc.cl M_check_rise (Za Q1 (Za Q2 (Za Q3 Zb))))) (Zc (Zk (JQ Z4 Q0 Tm.cl MM_check_moments)) (Zc (Zk (Yn (Zw Q0) Tc.cl M_rise (Za Q1 (Za Q2 (Za Q3 Zb))))) (Zf (Zk (Y0 F.plainAttrs_list F.slot_list_append F.type_list_append Y9 (Zw Q0) (Za (Z9 (Za Z7 (Za Q1 (Za Q2 (Za Q3 Zb))))) Zb))))))),?_⟩;have hz:(5000:Nat)<=sizeLine:=by decide
 obtain⟨dm,obm⟩:=W0.ob;obtain⟨dx,ob⟩:=W0.fk.f.ob;refine⟨_,rfl,M.p,CM,dm,_,_,rfl,obm,Tm.cl,Tm.nf,Vm _,M.L.p,dx,_,rfl,ob,Ye _ _ _ _ (by decide +kernel),_,rfl,_,rfl,_,rfl,M.L,ds,n,day,wt,rfl,W0.fk.f,ho,hi,hw,?_⟩;cases ec:JO ds n day wt with
 | some z=>rw[ec] at k;exact k H (ZA.refl H)
 | none =>
 rw[ec,xK] at k;refine⟨_,rfl,M.p,dm,_,rfl,obm,Yh _ (by decide +kernel),M,ds,wa,xs,m,qs,rfl,W0,?_⟩;cases em:Yr m with
 | some z=>rw[em] at k;exact k H (ZA.refl H)
 | none =>
 rw[em] at k;have hn4:=J4 em;obtain⟨⟨d0,d1⟩,⟨w0,w1⟩,⟨d,hd,hdd⟩,hv⟩:=GA ec;refine⟨_,rfl,M.p,CM,dm,_,_,rfl,obm,Tm.cl,Tm.nf,Vm _,M.L.p,dx,_,rfl,ob,Ye _ _ _ _ (by decide +kernel),_,rfl,_,rfl,_,rfl,M.L,ds,wa,n,day,wt,d,rfl,W0.fk,hl,d0,d1,w0,w1,hd,hdd,hv,fun H2 F2 T2 R2=>?_⟩;have W2:=W0.folk F2 T2 R2;obtain⟨dm2,obm2⟩:=W2.ob;obtain⟨vs,e1,_,e2⟩:=(W2.ls (M.ld,m.deeds) (by simp[Mo.at_])).get;dsimp only at e1 e2;refine⟨_,rfl,M.p,CM,dm2,_,_,rfl,obm2,Tm.cl,Tm.nd,Ux _,.inl ⟨rfl,_,ZE.of e1⟩,_,rfl,_,rfl,_,rfl,by show 4<=sizeLine;lia,fun p hp=>?_⟩;have S3:=ZA.new (o:=.tup [.str "rise", .str n,.int day,.int wt]) hp;have kp:(upd H2 p (.tup [.str "rise", .str n,.int day,.int wt])) p=some (.tup [.str "rise", .str n,.int day,.int wt]):=Zg;generalize (upd H2 p (.tup [.str "rise", .str n,.int day,.int wt]))=H3 at S3 kp ⊢;have W3:=W2.same S3;refine⟨M.ld,vs,.ref p,rfl,rfl,S3 _ _ e1,by lia,?_⟩;refine k _ _ ⟨M,wa,xs,qs,rfl,W3.deed (S3 _ _ e1) ⟨p,_,rfl,Yz kp,⟨_,_,rfl,rfl,⟨_,_,rfl,rfl,⟨_,_,rfl,rfl,⟨_,_,rfl,rfl,rfl⟩⟩⟩⟩⟩,rfl⟩ ⟨fun b o e nb=>?_,fun b hb=>?_⟩
 ·rw[Ze (fun z:b=M.ld=>nb (z▸Ao))];exact S3 _ _ (T2 b o e fun z=>nb (.inr (.inr (.inr (.inr z)))))
 ·exact WQ.folk (xs:=xs) (qs:=qs) R2 b hb
def diD(n he:Str)(day:Int):D:=.tup [.str "die", .str n,.int day,.str he]
inductive TF(C CM:eF)(c:dZ)(vs:List V)(H:Hp)(Q:VK)(E:XK):Prop
 |mk(p) (ds) (m) (O) (n he) (day)(_:vs = [.ref p,.str n,.int day,.str he])(_:YD C CM H p ds m O)(_:ds.length<=1000)(_:n.length<=100)(_:he.length<=100)(_:okI day)(_:Uo E c H (∀O' H',YD C CM H' p (ds ++ [.die n day he]) (m.told (diD n he day)) O'->YL O H O' H'->Q .non H') ((JZ ds n he day).or (Yr m)))
abbrev Kv:Stmt:=Yg (top 57) 3
theorem cH(Zh8:ZQ K CM "die" "Moot.die" Kv)(Tc:YV K C)(Tm:ZK K CM)(M_check_death:ZY P w K mg base C "check_death" 2 (Ae C c))(M_die:Mt P w K mg base C "die" ["self","name","day","heir"] 3 (JN C))(MM_check_moments:ZY P w K mg base CM "check_moments" 1 (YN C CM c)):ZY P w K mg base CM "die" 4 (TF C CM c):=by
 refine Zh8.mx ["self","name","day","heir"] ["self","name","day","heir"] fun H vs Q E hr h=>?_;obtain⟨_,ds,m,_,n,he,day,rfl,⟨M,wa,xs,qs,rfl,W0,rfl⟩,hl,ho,ho2,hi,k⟩:=h;refine⟨rfl,_,(Zc (Zk (Yo Z4 (Zw Q0) Tc.cl M_check_death (Za Q1 (Za Q2 (Za Q3 Zb))))) (Zc (Zk (JQ Z4 Q0 Tm.cl MM_check_moments)) (Zc (Zk (Yn (Zw Q0) Tc.cl M_die (Za Q1 (Za Q2 (Za Q3 Zb))))) (Zf (Zk (Y0 F.plainAttrs_list F.slot_list_append F.type_list_append Y9 (Zw Q0) (Za (Z9 (Za Z7 (Za Q1 (Za Q2 (Za Q3 Zb))))) Zb))))))),?_⟩;have hz:(5000:Nat)<=sizeLine:=by decide
 obtain⟨dm,obm⟩:=W0.ob;obtain⟨dx,ob⟩:=W0.fk.f.ob;refine⟨_,rfl,M.p,CM,dm,_,_,rfl,obm,Tm.cl,Tm.nf,Vm _,M.L.p,dx,_,rfl,ob,Ye _ _ _ _ (by decide +kernel),_,rfl,_,rfl,_,rfl,M.L,ds,n,he,day,rfl,W0.fk.f,ho,ho2,hi,?_⟩;cases ec:JZ ds n he day with
 | some z=>rw[ec] at k;exact k H (ZA.refl H)
 | none =>
 rw[ec,xK] at k;refine⟨_,rfl,M.p,dm,_,rfl,obm,Yh _ (by decide +kernel),M,ds,wa,xs,m,qs,rfl,W0,?_⟩;cases em:Yr m with
 | some z=>rw[em] at k;exact k H (ZA.refl H)
 | none =>
 rw[em] at k;have hn4:=J4 em;obtain⟨⟨d0,d1⟩,⟨d,hd,hdd⟩,⟨d2,hd2,hdd2⟩,hv,hv2,hne⟩:=MW ec;refine⟨_,rfl,M.p,CM,dm,_,_,rfl,obm,Tm.cl,Tm.nf,Vm _,M.L.p,dx,_,rfl,ob,Ye _ _ _ _ (by decide +kernel),_,rfl,_,rfl,_,rfl,M.L,ds,wa,n,he,day,d,d2,rfl,W0.fk,hl,d0,d1,hd,hdd,hd2,hdd2,hv,hv2,hne,fun H2 F2 T2 R2=>?_⟩;have W2:=W0.folk F2 T2 R2;obtain⟨dm2,obm2⟩:=W2.ob;obtain⟨vs,e1,_,e2⟩:=(W2.ls (M.ld,m.deeds) (by simp[Mo.at_])).get;dsimp only at e1 e2;refine⟨_,rfl,M.p,CM,dm2,_,_,rfl,obm2,Tm.cl,Tm.nd,Ux _,.inl ⟨rfl,_,ZE.of e1⟩,_,rfl,_,rfl,_,rfl,by show 4<=sizeLine;lia,fun p hp=>?_⟩;have S3:=ZA.new (o:=.tup [.str "die", .str n,.int day,.str he]) hp;have kp:(upd H2 p (.tup [.str "die", .str n,.int day,.str he])) p=some (.tup [.str "die", .str n,.int day,.str he]):=Zg;generalize (upd H2 p (.tup [.str "die", .str n,.int day,.str he]))=H3 at S3 kp ⊢;have W3:=W2.same S3;refine⟨M.ld,vs,.ref p,rfl,rfl,S3 _ _ e1,by lia,?_⟩;refine k _ _ ⟨M,wa,xs,qs,rfl,W3.deed (S3 _ _ e1) ⟨p,_,rfl,Yz kp,⟨_,_,rfl,rfl,⟨_,_,rfl,rfl,⟨_,_,rfl,rfl,⟨_,_,rfl,rfl,rfl⟩⟩⟩⟩⟩,rfl⟩ ⟨fun b o e nb=>?_,fun b hb=>?_⟩
 ·rw[Ze (fun z:b=M.ld=>nb (z▸Ao))];exact S3 _ _ (T2 b o e fun z=>nb (.inr (.inr (.inr (.inr z)))))
 ·exact WQ.folk (xs:=xs) (qs:=qs) R2 b hb
theorem Yi(h1 : σ[i]? = some (some (.ref a)))(h2:H a=some (.tup us))(h3:atI us k=some v)(h:tr σ H fun vs H2=>Q (v::vs) H2):V2 (Tx (J6 K) (YH i) (tC (.int k))) tr σ H Q:=⟨_,h1,a,us,k,v,rfl,rfl,ZT.of h2,h3,h⟩
theorem JG{i:Nat}{w v:Str}{t u:TS}{D:YI}{σ:St}{H:Hp}(h1 : σ[i]? = some (some (.str v)))(h2:v≠w)(h:u D σ H):V9 (BI (A5 (Tx BE (YH i) (tC (.str w)))) t Yu) u D σ H:=⟨_,h1,rfl,_,rfl,Z0 (fun z=>absurd (by injection z) h2) (fun _=>h)⟩
theorem Jv{i:Nat}{w:Str}{t u:TS}{D:YI}{σ:St}{H:Hp}(h1 : σ[i]? = some (some (.str w)))(h:t {D with nx:=u D } σ H):V9 (BI (A5 (Tx BE (YH i) (tC (.str w)))) t Yu) u D σ H:=⟨_,h1,rfl,_,rfl,Z0 (fun _=>h) (fun z=>absurd rfl z)⟩
inductive CD where
 | wer (x y:Str) (many:Int) | clm (x:Str) (i:Int) | acc (i:Int) (n:Str)
def cdV(day need:Int)(l1 l2:eF):CD->List V
 | .wer x y many=>[.str "wergild", .str x,.str y,.int many,.int day,.int need,.ref l1,.ref l2]
 | .clm x i=>[.str "claim", .str x,.int i,.int day,.int need,.ref l1,.ref l2]
 | .acc i n=>[.str "accuse", .int i,.str n,.int day,.int need,.ref l1,.ref l2]
def cdOk:CD->Prop
 | .wer x y many=>x.length<=100/\y.length<=100/\okI many
 | .clm x i=>x.length<=100/\okI i
 | .acc i n=>n.length<=100/\okI i
def eCD(ds:List ZI)(m:Mo)(day need:Int)(f:Str->Int)(o1 o2:dX):CD->Option Str
 | .wer x y many=>C5 ds m x y many day need f o1 o2
 | .clm x i=>CU ds m x i day need f o1 o2
 | .acc i n=>Cz ds m i n day need f o1 o2
def Mo.does(m:Mo)(day need:Int)(f:Str->Int)(o1 o2:dX):CD->Mo
 | .wer x y many=>m.owes x y many day need f o1 o2
 | .clm x i=>m.won x i.toNat day need f o1 o2
 | .acc i n=>m.acc i n day need f o1 o2
inductive SD where
 | come (n:Str) (day wt:Int) | rise (n:Str) (day wt:Int) | die (n he:Str) (day:Int) | pen (n:Str) | bring (n:Str) (day:Int) | give (i:Int) (x y:Str) (day:Int) | pay (x y:Str) (many day:Int)
def sdV:SD->List V
 | .come n day wt=>[.str "come", .str n,.int day,.int wt]
 | .rise n day wt=>[.str "rise", .str n,.int day,.int wt]
 | .die n he day=>[.str "die", .str n,.int day,.str he]
 | .pen n=>[.str "penance", .str n]
 | .bring n day=>[.str "bring", .str n,.int day]
 | .give i x y day=>[.str "give", .int i,.str x,.str y,.int day]
 | .pay x y many day=>[.str "pay", .str x,.str y,.int many,.int day]
def sdOk(ds:List ZI)(m:Mo):SD->Prop
 | .come n day wt=>ds.length<=1000/\okN n/\okI day/\okI wt
 | .rise n day wt=>ds.length<=1000/\n.length<=100/\okI day/\okI wt
 | .die n he day=>ds.length<=1000/\n.length<=100/\he.length<=100/\okI day
 | .pen n=>n.length<=100/\m.npen<=1000/\m.trials.length<=1000
 | .bring n day=>VD m/\n.length<=100/\okI day
 | .give i x y day=>VD m/\x.length<=100/\y.length<=100/\okI i/\okI day
 | .pay x y many day=>VD m/\x.length<=100/\y.length<=100/\okI many/\okI day
def eSD(ds:List ZI)(m:Mo):SD->Option Str
 | .come n day wt=>(Ui ds n day wt).or (Yr m)
 | .rise n day wt=>(JO ds n day wt).or (Yr m)
 | .die n he day=>(JZ ds n he day).or (Yr m)
 | .pen n=>(Ve ds n).or ((Jw ds n).or (Yr m))
 | .bring n day=>(eM 0 9999 day).or ((Wy ds m day [n] none none).or ((C4 m).or (Yr m)))
 | .give i x y day=>(eM 0 9999 day).or ((Wy ds m day [x,y] (some i) none).or (Yr m))
 | .pay x y many day=>(eM 1 1000000 many).or ((eM 0 9999 day).or ((Wy ds m day [x,y] none none).or (Yr m)))
def sdF(ds:List ZI):SD->List ZI
 | .come n day wt=>ds ++ [.come n day wt]
 | .rise n day wt=>ds ++ [.rise n day wt]
 | .die n he day=>ds ++ [.die n day he]
 | _=>ds
def Mo.sd(m:Mo):SD->Mo
 | .come n day wt=>m.told (coD n day wt)
 | .rise n day wt=>m.told (riD n day wt)
 | .die n he day=>m.told (diD n he day)
 | .pen n=>m.pena n
 | .bring n day=>m.brg n day
 | .give i x y day=>m.give i.toNat x y day
 | .pay x y many day=>m.pay x y many day
def sdR(m:Mo):SD->V
 | .bring _ _=>.int m.brs.length
 | _=>.non
inductive VX(C CM:eF)(c:dZ)(vs:List V)(H:Hp)(Q:VK)(E:XK):Prop
 |mk(p) (ds) (m) (O) (a) (d)(_:vs = [.ref p,.ref a])(_:YD C CM H p ds m O)(_:H a=some (.tup (sdV d)))(_:sdOk ds m d)(_:Uo E c H (∀O' H',YD C CM H' p (sdF ds d) (m.sd d) O'->YL O H O' H'->Q (sdR m d) H') (eSD ds m d))
inductive VY(C CM:eF)(c:dZ)(vs:List V)(H:Hp)(Q:VK)(E:XK):Prop
 |mk(p) (ds) (m) (O) (a) (d) (day need) (l1 l2) (o1 o2) (f)(_:vs = [.ref p,.ref a])(_:YD C CM H p ds m O)(_:H a=some (.tup (cdV day need l1 l2 d)))(_:AJ ds m H l1 l2 o1 o2 day need f)(_:¬O l1)(_:¬O l2)(_:cdOk d)(_:Uo E c H (∀O' H',YD C CM H' p ds (m.does day need f o1 o2 d) O'->YL O H O' H'->Q (.int m.trials.length) H') (eCD ds m day need f o1 o2 d))
abbrev Ei:Stmt:=top 20
theorem dN:ZM ["moot","deed","word"] ["moot","deed"] (Zp Ei):=fsc
theorem MN(Zia:YC K mg "done" Ei)(Tm:ZK K CM)(er:Er K mg c errs)(MM_come:ZY P w K mg base CM "come" 4 (Ts C CM c))(MM_rise:ZY P w K mg base CM "rise" 5 (Tg C CM c))(MM_die:ZY P w K mg base CM "die" 4 (TF C CM c))(MM_penance:ZY P w K mg base CM "penance" 2 (Ja C CM c))(MM_bring:ZY P w K mg base CM "bring" 4 (UD C CM c))(MM_give:ZY P w K mg base CM "give" 4 (Tt C CM c))(MM_pay:ZY P w K mg base CM "pay" 4 (TM C CM c))(MM_claim:ZY P w K mg base CM "claim" 6 (UC C CM c))(MM_wergild:ZY P w K mg base CM "wergild" 6 (TV C CM c))(MM_accuse:ZY P w K mg base CM "accuse" 7 (TQ C CM c)):WA P w K mg base "done" 8 (Sp.or (VX C CM c) (VY C CM c)):=by
 refine Zia.fnX dN (fun _ _ _ _ _ _=>al2 fun _ _=>rfl) (fun vs H Q E h=>?_) (fun f cdv A outer s H vs Q E hr h=>?_)
 ·rcases h with⟨p,ds,m,O,a,d,rfl,_⟩ | ⟨p,ds,m,O,a,d,day,need,l1,l2,o1,o2,f,rfl,_⟩<;>rfl
 ·refine⟨_,(Zc (Zz 2 (Zi Zv Q1 Zd (fun _ _=>rfl))) (Zc (Zo (Zr Ym Q2 Z7 (Zu _)) (Zf (Zt (Yo Z4 Q0 Tm.cl MM_come (Za (Zi Zv Q1 Zd (fun _ _=>rfl)) (Za (Zi Zv Q1 Zd (fun _ _=>rfl)) (Za (Zi Zv Q1 Zd (fun _ _=>rfl)) Zb)))))) Zn) (Zc (Zo (Zr Ym Q2 Z7 (Zu _)) (Zf (Zt (Yo Z4 Q0 Tm.cl MM_rise (Za (Zi Zv Q1 Zd (fun _ _=>rfl)) (Za (Zi Zv Q1 Zd (fun _ _=>rfl)) (Za (Zi Zv Q1 Zd (fun _ _=>rfl)) Zb)))))) Zn) (Zc (Zo (Zr Ym Q2 Z7 (Zu _)) (Zf (Zt (Yo Z4 Q0 Tm.cl MM_die (Za (Zi Zv Q1 Zd (fun _ _=>rfl)) (Za (Zi Zv Q1 Zd (fun _ _=>rfl)) (Za (Zi Zv Q1 Zd (fun _ _=>rfl)) Zb)))))) Zn) (Zc (Zo (Zr Ym Q2 Z7 (Zu _)) (Zf (Zt (Yo Z4 Q0 Tm.cl MM_penance (Za (Zi Zv Q1 Zd (fun _ _=>rfl)) Zb)))) Zn) (Zc (Zo (Zr Ym Q2 Z7 (Zu _)) (Zf (Zt (Yo Z4 Q0 Tm.cl MM_bring (Za (Zi Zv Q1 Zd (fun _ _=>rfl)) (Za (Zi Zv Q1 Zd (fun _ _=>rfl)) Zb))))) Zn) (Zc (Zo (Zr Ym Q2 Z7 (Zu _)) (Zf (Zt (Yo Z4 Q0 Tm.cl MM_give (Za (Zi Zv Q1 Zd (fun _ _=>rfl)) (Za (Zi Zv Q1 Zd (fun _ _=>rfl)) (Za (Zi Zv Q1 Zd (fun _ _=>rfl)) (Za (Zi Zv Q1 Zd (fun _ _=>rfl)) Zb))))))) Zn) (Zc (Zo (Zr Ym Q2 Z7 (Zu _)) (Zf (Zt (Yo Z4 Q0 Tm.cl MM_pay (Za (Zi Zv Q1 Zd (fun _ _=>rfl)) (Za (Zi Zv Q1 Zd (fun _ _=>rfl)) (Za (Zi Zv Q1 Zd (fun _ _=>rfl)) (Za (Zi Zv Q1 Zd (fun _ _=>rfl)) Zb))))))) Zn) (Zc (Zo (Zr Ym Q2 Z7 (Zu _)) (Zf (Zt (Yo Z4 Q0 Tm.cl MM_claim (Za (Zi Zv Q1 Zd (fun _ _=>rfl)) (Za (Zi Zv Q1 Zd (fun _ _=>rfl)) (Za (Zi Zv Q1 Zd (fun _ _=>rfl)) (Za (Zi Zv Q1 Zd (fun _ _=>rfl)) (Za (Zi Zv Q1 Zd (fun _ _=>rfl)) (Za (Zi Zv Q1 Zd (fun _ _=>rfl)) Zb))))))))) Zn) (Zc (Zo (Zr Ym Q2 Z7 (Zu _)) (Zf (Zt (Yo Z4 Q0 Tm.cl MM_wergild (Za (Zi Zv Q1 Zd (fun _ _=>rfl)) (Za (Zi Zv Q1 Zd (fun _ _=>rfl)) (Za (Zi Zv Q1 Zd (fun _ _=>rfl)) (Za (Zi Zv Q1 Zd (fun _ _=>rfl)) (Za (Zi Zv Q1 Zd (fun _ _=>rfl)) (Za (Zi Zv Q1 Zd (fun _ _=>rfl)) (Za (Zi Zv Q1 Zd (fun _ _=>rfl)) Zb)))))))))) Zn) (Zc (Zo (Zr Ym Q2 Z7 (Zu _)) (Zf (Zt (Yo Z4 Q0 Tm.cl MM_accuse (Za (Zi Zv Q1 Zd (fun _ _=>rfl)) (Za (Zi Zv Q1 Zd (fun _ _=>rfl)) (Za (Zi Zv Q1 Zd (fun _ _=>rfl)) (Za (Zi Zv Q1 Zd (fun _ _=>rfl)) (Za (Zi Zv Q1 Zd (fun _ _=>rfl)) (Za (Zi Zv Q1 Zd (fun _ _=>rfl)) Zb))))))))) Zn) (Zf (Wa Yw er (We (Yx Q2 (Yp Wd)))))))))))))))),?_⟩;rcases h with⟨_,ds,m,_,a,d,rfl,⟨M,wa,xs,qs,rfl,W,rfl⟩,ha,hd,k⟩ | ⟨_,ds,m,_,a,d,day,need,l1,l2,o1,o2,f,rfl,⟨M,wa,xs,qs,rfl,W,rfl⟩,ha,cs,y1,y2,hd,k⟩
  ·obtain⟨dm,obm⟩:=W.ob;have mst:YD C CM H M.p ds m (mo M ds wa xs qs):=⟨M,wa,xs,qs,rfl,W,rfl⟩;cases d with
   | come n day wt =>
    refine⟨_,rfl,a,_,0,_,rfl,rfl,ZT.of ha,rfl,?_⟩;refine Yc ?_;refine Jv rfl ?_;exact⟨_,rfl,M.p,dm,_,rfl,obm,Yh _ (by decide +kernel),Yi rfl ha rfl (Yi rfl ha rfl (Yi rfl ha rfl ⟨M.p,ds,m,_,n,day,wt,rfl,mst,hd.1,hd.2.1,hd.2.2.1,hd.2.2.2,k⟩))⟩
   | rise n day wt =>
    refine⟨_,rfl,a,_,0,_,rfl,rfl,ZT.of ha,rfl,?_⟩;refine Yc ?_
    iterate 1 refine JG rfl (by decide +kernel) ?_
    refine Jv rfl ?_;exact⟨_,rfl,M.p,dm,_,rfl,obm,Yh _ (by decide +kernel),Yi rfl ha rfl (Yi rfl ha rfl (Yi rfl ha rfl ⟨M.p,ds,m,_,n,day,wt,rfl,mst,hd.1,hd.2.1,hd.2.2.1,hd.2.2.2,k⟩))⟩
   | die n he day =>
    refine⟨_,rfl,a,_,0,_,rfl,rfl,ZT.of ha,rfl,?_⟩;refine Yc ?_
    iterate 2 refine JG rfl (by decide +kernel) ?_
    refine Jv rfl ?_;exact⟨_,rfl,M.p,dm,_,rfl,obm,Yh _ (by decide +kernel),Yi rfl ha rfl (Yi rfl ha rfl (Yi rfl ha rfl ⟨M.p,ds,m,_,n,he,day,rfl,mst,hd.1,hd.2.1,hd.2.2.1,hd.2.2.2,k⟩))⟩
   | pen n =>
    refine⟨_,rfl,a,_,0,_,rfl,rfl,ZT.of ha,rfl,?_⟩;refine Yc ?_
    iterate 3 refine JG rfl (by decide +kernel) ?_
    refine Jv rfl ?_;exact⟨_,rfl,M.p,dm,_,rfl,obm,Yh _ (by decide +kernel),Yi rfl ha rfl ⟨M.p,ds,m,_,n,rfl,mst,hd.1,hd.2.1,hd.2.2,k⟩⟩
   | bring n day =>
    refine⟨_,rfl,a,_,0,_,rfl,rfl,ZT.of ha,rfl,?_⟩;refine Yc ?_
    iterate 4 refine JG rfl (by decide +kernel) ?_
    refine Jv rfl ?_;exact⟨_,rfl,M.p,dm,_,rfl,obm,Yh _ (by decide +kernel),Yi rfl ha rfl (Yi rfl ha rfl ⟨M.p,ds,m,_,n,day,rfl,mst,hd.1,hd.2.1,hd.2.2,k⟩)⟩
   | give i x y day =>
    refine⟨_,rfl,a,_,0,_,rfl,rfl,ZT.of ha,rfl,?_⟩;refine Yc ?_
    iterate 5 refine JG rfl (by decide +kernel) ?_
    refine Jv rfl ?_;exact⟨_,rfl,M.p,dm,_,rfl,obm,Yh _ (by decide +kernel),Yi rfl ha rfl (Yi rfl ha rfl (Yi rfl ha rfl (Yi rfl ha rfl ⟨M.p,ds,m,_,i,x,y,day,rfl,mst,hd.1,hd.2.1,hd.2.2.1,hd.2.2.2.1,hd.2.2.2.2,k⟩)))⟩
   | pay x y many day =>
    refine⟨_,rfl,a,_,0,_,rfl,rfl,ZT.of ha,rfl,?_⟩;refine Yc ?_
    iterate 6 refine JG rfl (by decide +kernel) ?_
    refine Jv rfl ?_;exact⟨_,rfl,M.p,dm,_,rfl,obm,Yh _ (by decide +kernel),Yi rfl ha rfl (Yi rfl ha rfl (Yi rfl ha rfl (Yi rfl ha rfl ⟨M.p,ds,m,_,x,y,many,day,rfl,mst,hd.1,hd.2.1,hd.2.2.1,hd.2.2.2.1,hd.2.2.2.2,k⟩)))⟩
  ·obtain⟨dm,obm⟩:=W.ob;have mst:YD C CM H M.p ds m (mo M ds wa xs qs):=⟨M,wa,xs,qs,rfl,W,rfl⟩;cases d with
   | clm x i =>
    refine⟨_,rfl,a,_,0,_,rfl,rfl,ZT.of ha,rfl,?_⟩;refine Yc ?_
    iterate 7 refine JG rfl (by decide +kernel) ?_
    refine Jv rfl ?_;exact⟨_,rfl,M.p,dm,_,rfl,obm,Yh _ (by decide +kernel),Yi rfl ha rfl (Yi rfl ha rfl (Yi rfl ha rfl (Yi rfl ha rfl (Yi rfl ha rfl (Yi rfl ha rfl ⟨M.p,ds,m,_,x,i,day,need,l1,l2,o1,o2,f,rfl,mst,cs,y1,y2,hd.1,hd.2,k⟩)))))⟩
   | wer x y many =>
    refine⟨_,rfl,a,_,0,_,rfl,rfl,ZT.of ha,rfl,?_⟩;refine Yc ?_
    iterate 8 refine JG rfl (by decide +kernel) ?_
    refine Jv rfl ?_;exact⟨_,rfl,M.p,dm,_,rfl,obm,Yh _ (by decide +kernel),Yi rfl ha rfl (Yi rfl ha rfl (Yi rfl ha rfl (Yi rfl ha rfl (Yi rfl ha rfl (Yi rfl ha rfl (Yi rfl ha rfl ⟨M.p,ds,m,_,x,y,many,day,need,l1,l2,o1,o2,f,rfl,mst,cs,y1,y2,hd.1,hd.2.1,hd.2.2,k⟩))))))⟩
   | acc i n =>
    refine⟨_,rfl,a,_,0,_,rfl,rfl,ZT.of ha,rfl,?_⟩;refine Yc ?_
    iterate 9 refine JG rfl (by decide +kernel) ?_
    refine Jv rfl ?_;exact⟨_,rfl,M.p,dm,_,rfl,obm,Yh _ (by decide +kernel),Yi rfl ha rfl (Yi rfl ha rfl (Yi rfl ha rfl (Yi rfl ha rfl (Yi rfl ha rfl (Yi rfl ha rfl ⟨M.p,ds,m,_,i,n,day,need,l1,l2,o1,o2,f,rfl,mst,cs,y1,y2,hd.1,hd.2,k⟩)))))⟩
end
theorem YD.there(h:YD C CM H p ds m O)(hb:O b):∃o,H b=some o:=by
 obtain⟨M,wa,xs,qs,_,W,rfl⟩:=h;exact W.there hb
theorem YD.out(h:YD C CM H p ds m O)(e:H b=none):¬O b:=fun z=>by
 obtain⟨o,e'⟩:=h.there z;rw[e] at e';cases e'
section
variable{C CM:eF}
theorem Vf{t u:TS}{D:YI}{σ:St}{H:Hp}(h:∀D':YI,(∀ σ' H',u D σ' H'->D'.nx σ' H')->t D' σ H):V9 t u D σ H:=h {D with nx:=u D } fun _ _ h=>h
theorem ini(hp:H p=some (.ins CM dx fs))(hl:H l=none):(upd (upd H l y) p (.ins CM dx fs')) p=some (.ins CM dx fs')/\(upd (upd H l y) p (.ins CM dx fs')) l=some y/\(∀b o,H b=some o->b≠p->(upd (upd H l y) p (.ins CM dx fs')) b=some o)/\p≠l:=by
 have n:p≠l:=Zm hp hl;exact⟨Zg,by rw[Ze n.symm,Zg],fun b o e nb=>by rw[Ze nb,Ze (Zm e hl)];exact e,n⟩
theorem Aa{N:Hp->Prop}{H:Hp}{p l dx:eF}{fs:List (Str×V)}{nm:Str}{y:HO}{k:Nat}(hp:H p=some (.ins CM dx fs))(hl:H l=none)(hb:fs.length<=k)(h:∀H1 f1,Zq nm (.ref l) fs=f1->f1.length<=k+1->H1 p=some (.ins CM dx f1)->H1 l=some y->(∀b o,H b=some o->b≠p->H1 b=some o)->N H1):N (upd (upd H l y) p (.ins CM dx (Zq nm (.ref l) fs))) :=
 have i:=ini (fs':=Zq nm (.ref l) fs) (y:=y) hp hl
 h _ _ rfl (xX (AE ..) (by lia)) i.1 i.2.1 i.2.2.1
def mo0:Mo:=⟨[],[],[],[],[],[],[],fun _=>none,0⟩
inductive Tu(C CM:eF)(vs:List V)(H:Hp)(Q:VK)(z3:XK):Prop
 |mk(p dx)(_:vs = [.ref p])(_:H p=some (.ins CM dx []))(_:∀M H',M.p=p->ZC C CM H' M [] (fun _=>0) [] mo0 []->(∀b o,H b=some o->b≠p->H' b=some o)->(∀b,mo M [] (fun _=>0) [] [] b->b=p\/H b=none)->Q .non H')
abbrev Kb:Stmt:=Yg (top 57) 0
theorem bP(Zib:ZQ K CM "__init__" "Moot.__init__" Kb)(Tm:ZK K CM)(M_Folk:Cw P w K mg base C "Folk" 1 (Jj C)):Mt P w K mg base CM "__init__" ["self"] 3 (Tu C CM):=by
 refine Zib.mq ["self"] fun H vs Q E hr h=>?_;obtain⟨p,dx,rfl,hp,k⟩:=h;refine⟨rfl,_,(Zc (Vw Q0 (Yl Zb)) (Zc (Vw Q0 (KM M_Folk)) (Zc (Vw Q0 (Yl Zb)) (Zc (Vw Q0 (Yl Zb)) (Zc (Vw Q0 (Yl Zb)) (Zc (Vw Q0 (Yl Zb)) (Zc (Vw Q0 (Yl Zb)) (Zc (Vw Q0 (Yl Zb)) (Zf (Vw Q0 Bg)))))))))),?_⟩;have hz:(5000:Nat)<=sizeLine:=by decide
 refine Vf fun D1 hn1=>?_;refine⟨by show 0<=sizeLine;lia,fun ld hld=>?_⟩;have pld:p≠ld:=Zm hp hld;refine⟨_,rfl,p,CM,dx,[],rfl,(by rw[Ze pld];exact hp),Tm.cl,Tm.nd,(yS (xD 0) (by decide)),Aa (k:=0) hp hld (xD 0) fun H1 f1 g1 l1 i1p i1l i1k=>hn1 _ _ ?_⟩;refine Vf fun D2 hn2=>?_;intro x dx2 nx ndx nex;have px:p≠x:=Zm i1p nx;have pdx:p≠dx2:=Zm i1p ndx;refine⟨x,dx2,rfl,Zg,fun L H2a eL F2 kp fr=>⟨rfl,?_⟩⟩;subst eL;have sm2:ZA H1 H2a:=fun b o e=>kp b o (by rw[Ze (Zm e nx),Ze (Zm e ndx)];exact e) (Zm e nx);have fr2:∀b,b=L.dc\/b=L.dw\/b=L.dd\/b=L.dh->H1 b=none:=fun b hb=>by
  have:=fr b hb
  by_cases c:b=L.p
  ·rw[c];exact nx
  ·rw[Ze c] at this
   by_cases c2:b=dx2
   ·rw[c2];exact ndx
   ·rw[Ze c2] at this;exact this
 have i2p0:=sm2 _ _ i1p;have K2:Fk C H2a L [] (fun _=>0):=by
  obtain⟨kv,w1,w2⟩:=F2.w;exact⟨F2,WC.start F2,kv,w1,fun p hp=>by rw[List.eq_nil_of_length_eq_zero (Nat.le_zero.mp w2)] at hp;cases hp⟩
 refine⟨_,rfl,p,CM,dx,f1,rfl,i2p0,Tm.cl,Tm.nf,(yS l1 (by decide)),hn2 _ _ ?_⟩;have l2:(Zq "folk" (V.ref L.p) f1).length<=2:=xX (AE ..) (by lia);generalize g2:Zq "folk" (V.ref L.p) f1=f2 at l2 ⊢;have i2p:(upd H2a p (.ins CM dx f2)) p=some (.ins CM dx f2):=Zg;have i2k:∀b o,H2a b=some o->b≠p->(upd H2a p (.ins CM dx f2)) b=some o:=fun b o e nb=>by rw[Ze nb];exact e
 generalize (upd H2a p (.ins CM dx f2))=H2 at i2p i2k ⊢;refine Vf fun D3 hn3=>?_;refine⟨by show 0<=sizeLine;lia,fun lb hlb=>?_⟩;have plb:p≠lb:=Zm i2p hlb;refine⟨_,rfl,p,CM,dx,f2,rfl,(by rw[Ze plb];exact i2p),Tm.cl,Tm.nb,(yS l2 (by decide)),Aa (k:=2) i2p hlb l2 fun H3 f3 g3 l3 i3p i3l i3k=>hn3 _ _ ?_⟩;refine Vf fun D4 hn4=>?_;refine⟨by show 0<=sizeLine;lia,fun lh hlh=>?_⟩;have plh:p≠lh:=Zm i3p hlh;refine⟨_,rfl,p,CM,dx,f3,rfl,(by rw[Ze plh];exact i3p),Tm.cl,Tm.nh,(yS l3 (by decide)),Aa (k:=3) i3p hlh l3 fun H4 f4 g4 l4 i4p i4l i4k=>hn4 _ _ ?_⟩;refine Vf fun D5 hn5=>?_;refine⟨by show 0<=sizeLine;lia,fun lq hlq=>?_⟩;have plq:p≠lq:=Zm i4p hlq;refine⟨_,rfl,p,CM,dx,f4,rfl,(by rw[Ze plq];exact i4p),Tm.cl,Tm.nq,(yS l4 (by decide)),Aa (k:=4) i4p hlq l4 fun H5 f5 g5 l5 i5p i5l i5k=>hn5 _ _ ?_⟩;refine Vf fun D6 hn6=>?_;refine⟨by show 0<=sizeLine;lia,fun lt hlt=>?_⟩;have plt:p≠lt:=Zm i5p hlt;refine⟨_,rfl,p,CM,dx,f5,rfl,(by rw[Ze plt];exact i5p),Tm.cl,Tm.nt,(yS l5 (by decide)),Aa (k:=5) i5p hlt l5 fun H6 f6 g6 l6 i6p i6l i6k=>hn6 _ _ ?_⟩;refine Vf fun D7 hn7=>?_;refine⟨by show 0<=sizeLine;lia,fun ly hly=>?_⟩;have ply:p≠ly:=Zm i6p hly;refine⟨_,rfl,p,CM,dx,f6,rfl,(by rw[Ze ply];exact i6p),Tm.cl,Tm.ny,(yS l6 (by decide)),Aa (k:=6) i6p hly l6 fun H7 f7 g7 l7 i7p i7l i7k=>hn7 _ _ ?_⟩;refine Vf fun D8 hn8=>?_;refine⟨by show 0<=sizeLine;lia,fun lv hlv=>?_⟩;have plv:p≠lv:=Zm i7p hlv;refine⟨_,rfl,p,CM,dx,f7,rfl,(by rw[Ze plv];exact i7p),Tm.cl,Tm.nv,(yS l7 (by decide)),Aa (k:=7) i7p hlv l7 fun H8 f8 g8 l8 i8p i8l i8k=>hn8 _ _ ?_⟩;intro dp hdp;have pdp:p≠dp:=Zm i8p hdp;refine⟨_,rfl,p,CM,dx,f8,rfl,(by rw[Ze pdp];exact i8p),Tm.cl,Tm.np,(yS l8 (by decide)),Aa (k:=8) i8p hdp l8 fun H9 f9 g9 l9 i9p i9l i9k=>?_⟩;have k1:=i1k;have k2:∀b o,H b=some o->b≠p->H2 b=some o:=fun b o e n=>i2k b o (sm2 b o (k1 b o e n)) n;have k3:∀b o,H b=some o->b≠p->H3 b=some o:=fun b o e n=>i3k b o (k2 b o e n) n;have k4:∀b o,H b=some o->b≠p->H4 b=some o:=fun b o e n=>i4k b o (k3 b o e n) n;have k5:∀b o,H b=some o->b≠p->H5 b=some o:=fun b o e n=>i5k b o (k4 b o e n) n;have k6:∀b o,H b=some o->b≠p->H6 b=some o:=fun b o e n=>i6k b o (k5 b o e n) n;have k7:∀b o,H b=some o->b≠p->H7 b=some o:=fun b o e n=>i7k b o (k6 b o e n) n;have k8:∀b o,H b=some o->b≠p->H8 b=some o:=fun b o e n=>i8k b o (k7 b o e n) n;have k9:∀b o,H b=some o->b≠p->H9 b=some o:=fun b o e n=>i9k b o (k8 b o e n) n;have q2:=i2k;have q3:∀b o,H2a b=some o->b≠p->H3 b=some o:=fun b o e n=>i3k b o (q2 b o e n) n;have q4:∀b o,H2a b=some o->b≠p->H4 b=some o:=fun b o e n=>i4k b o (q3 b o e n) n;have q5:∀b o,H2a b=some o->b≠p->H5 b=some o:=fun b o e n=>i5k b o (q4 b o e n) n;have q6:∀b o,H2a b=some o->b≠p->H6 b=some o:=fun b o e n=>i6k b o (q5 b o e n) n;have q7:∀b o,H2a b=some o->b≠p->H7 b=some o:=fun b o e n=>i7k b o (q6 b o e n) n;have q8:∀b o,H2a b=some o->b≠p->H8 b=some o:=fun b o e n=>i8k b o (q7 b o e n) n;have q9:∀b o,H2a b=some o->b≠p->H9 b=some o:=fun b o e n=>i9k b o (q8 b o e n) n;have eld:H9 ld=some (.lst []):=(i9k _ _ (i8k _ _ (i7k _ _ (i6k _ _ (i5k _ _ (i4k _ _ (i3k _ _ (i2k _ _ (sm2 _ _ i1l) pld.symm) pld.symm) pld.symm) pld.symm) pld.symm) pld.symm) pld.symm) pld.symm);have zld:H ld=none:=hld;have elb:H9 lb=some (.lst []):=(i9k _ _ (i8k _ _ (i7k _ _ (i6k _ _ (i5k _ _ (i4k _ _ i3l plb.symm) plb.symm) plb.symm) plb.symm) plb.symm) plb.symm);have zlb:H lb=none:=by
  cases eb:H lb with
  | none=>rfl
  | some o=>have:=k2 _ _ eb plb.symm;rw[hlb] at this;cases this
 have elh:H9 lh=some (.lst []):=(i9k _ _ (i8k _ _ (i7k _ _ (i6k _ _ (i5k _ _ i4l plh.symm) plh.symm) plh.symm) plh.symm) plh.symm);have zlh:H lh=none:=by
  cases eb:H lh with
  | none=>rfl
  | some o=>have:=k3 _ _ eb plh.symm;rw[hlh] at this;cases this
 have elq:H9 lq=some (.lst []):=(i9k _ _ (i8k _ _ (i7k _ _ (i6k _ _ i5l plq.symm) plq.symm) plq.symm) plq.symm);have zlq:H lq=none:=by
  cases eb:H lq with
  | none=>rfl
  | some o=>have:=k4 _ _ eb plq.symm;rw[hlq] at this;cases this
 have elt:H9 lt=some (.lst []):=(i9k _ _ (i8k _ _ (i7k _ _ i6l plt.symm) plt.symm) plt.symm);have zlt:H lt=none:=by
  cases eb:H lt with
  | none=>rfl
  | some o=>have:=k5 _ _ eb plt.symm;rw[hlt] at this;cases this
 have ely:H9 ly=some (.lst []):=(i9k _ _ (i8k _ _ i7l ply.symm) ply.symm);have zly:H ly=none:=by
  cases eb:H ly with
  | none=>rfl
  | some o=>have:=k6 _ _ eb ply.symm;rw[hly] at this;cases this
 have elv:H9 lv=some (.lst []):=(i9k _ _ i8l plv.symm);have zlv:H lv=none:=by
  cases eb:H lv with
  | none=>rfl
  | some o=>have:=k7 _ _ eb plv.symm;rw[hlv] at this;cases this
 have edp:H9 dp=some (.dK []):=i9l;have zdp:H dp=none:=by
  cases eb:H dp with
  | none=>rfl
  | some o=>have:=k8 _ _ eb pdp.symm;rw[hdp] at this;cases this
 have nldlb:ld≠lb:=Zm (i2k _ _ (sm2 _ _ i1l) pld.symm) hlb;have nldlh:ld≠lh:=Zm (i3k _ _ (i2k _ _ (sm2 _ _ i1l) pld.symm) pld.symm) hlh;have nldlq:ld≠lq:=Zm (i4k _ _ (i3k _ _ (i2k _ _ (sm2 _ _ i1l) pld.symm) pld.symm) pld.symm) hlq;have nldlt:ld≠lt:=Zm (i5k _ _ (i4k _ _ (i3k _ _ (i2k _ _ (sm2 _ _ i1l) pld.symm) pld.symm) pld.symm) pld.symm) hlt;have nldly:ld≠ly:=Zm (i6k _ _ (i5k _ _ (i4k _ _ (i3k _ _ (i2k _ _ (sm2 _ _ i1l) pld.symm) pld.symm) pld.symm) pld.symm) pld.symm) hly;have nldlv:ld≠lv:=Zm (i7k _ _ (i6k _ _ (i5k _ _ (i4k _ _ (i3k _ _ (i2k _ _ (sm2 _ _ i1l) pld.symm) pld.symm) pld.symm) pld.symm) pld.symm) pld.symm) hlv;have nlblh:lb≠lh:=Zm i3l hlh;have nlblq:lb≠lq:=Zm (i4k _ _ i3l plb.symm) hlq;have nlblt:lb≠lt:=Zm (i5k _ _ (i4k _ _ i3l plb.symm) plb.symm) hlt;have nlbly:lb≠ly:=Zm (i6k _ _ (i5k _ _ (i4k _ _ i3l plb.symm) plb.symm) plb.symm) hly;have nlblv:lb≠lv:=Zm (i7k _ _ (i6k _ _ (i5k _ _ (i4k _ _ i3l plb.symm) plb.symm) plb.symm) plb.symm) hlv;have nlhlq:lh≠lq:=Zm i4l hlq;have nlhlt:lh≠lt:=Zm (i5k _ _ i4l plh.symm) hlt;have nlhly:lh≠ly:=Zm (i6k _ _ (i5k _ _ i4l plh.symm) plh.symm) hly;have nlhlv:lh≠lv:=Zm (i7k _ _ (i6k _ _ (i5k _ _ i4l plh.symm) plh.symm) plh.symm) hlv;have nlqlt:lq≠lt:=Zm i5l hlt;have nlqly:lq≠ly:=Zm (i6k _ _ i5l plq.symm) hly;have nlqlv:lq≠lv:=Zm (i7k _ _ (i6k _ _ i5l plq.symm) plq.symm) hlv;have nltly:lt≠ly:=Zm i6l hly;have nltlv:lt≠lv:=Zm (i7k _ _ i6l plt.symm) hlv;have nlylv:ly≠lv:=Zm i7l hlv;have pl:¬own L [] (fun _=>0) p:=fun z=>by
  rcases z with z | z | z | z | z | ⟨n,l,e,z⟩
  ·exact px z
  ·have:=fr2 p (.inl z);rw[i1p] at this;cases this
  ·have:=fr2 p (.inr (.inl z));rw[i1p] at this;cases this
  ·have:=fr2 p (.inr (.inr (.inl z)));rw[i1p] at this;cases this
  ·have:=fr2 p (.inr (.inr (.inr z)));rw[i1p] at this;cases this
  ·cases e
 have K9:Fk C H9 L [] (fun _=>0):=K2.at fun b o hb e=>q9 b o e fun z=>pl (z▸hb);have h1n:∀b,H1 b=none->b≠p->H b=none:=fun b hb n=>by
  cases eb:H b with
  | none=>rfl
  | some o=>have:=k1 _ _ eb n;rw[hb] at this;cases this
 have i9p:H9 p=some (.ins CM dx _):=i9p.trans (congrArg (fun f=>some (HO.ins CM dx f)) (g9.symm.trans (congrArg (Zq _ _) (g8.symm.trans (congrArg (Zq _ _) (g7.symm.trans (congrArg (Zq _ _) (g6.symm.trans (congrArg (Zq _ _) (g5.symm.trans (congrArg (Zq _ _) (g4.symm.trans (congrArg (Zq _ _) (g3.symm.trans (congrArg (Zq _ _) (g2.symm.trans (congrArg (Zq _ _) g1.symm)))))))))))))))));have ndp:¬own L [] (fun _=>0) dp:=fun z=>by
  obtain⟨o,e,_⟩:=K2.there z;have:=q8 _ _ e pdp.symm;rw[hdp] at this;cases this
 refine k ⟨p,L,ld,lb,lh,lq,lt,ly,lv,dp⟩ H9 rfl ⟨⟨dx,i9p⟩,K9,fun q hq=>?_,elh,rfl,⟨[],edp,xD _,fun _=>rfl⟩,?_,(fun _ z=>nomatch z),(fun _ z=>nomatch z),px,ndp⟩ k9 (fun b hb=>?_)
 ·simp only[Mo.at_,mo0,xC,List.zip_nil_left,xS,or_false] at hq;rcases hq with rfl | rfl | rfl | rfl | rfl | rfl
  ·exact⟨[],eld,rfl⟩
  ·exact⟨[],elb,rfl⟩
  ·exact⟨[],elq,rfl⟩
  ·exact⟨[],elt,rfl⟩
  ·exact⟨[],ely,rfl⟩
  ·exact⟨[],elv,rfl⟩
 ·simp only[ML.ls,yD,yJ,xC,xS,or_false,not_or,not_false_eq_true,List.nodup_nil,and_true];exact⟨⟨Ne.symm nldlh,Ne.symm nlblh,nlhlq,nlhlt,nlhly,nlhlv⟩,⟨nldlb,nldlq,nldlt,nldly,nldlv⟩,⟨nlblq,nlblt,nlbly,nlblv⟩,⟨nlqlt,nlqly,nlqlv⟩,⟨nltly,nltlv⟩,nlylv⟩
 ·rcases hb with z | z | z | z | z
  ·exact .inl z
  ·rw[z];exact .inr zdp
  ·simp only[ML.ls,yD,xC,xS,or_false] at z;rcases z with rfl | rfl | rfl | rfl | rfl | rfl | rfl<;>exact .inr (by assumption)
  ·cases z
  ·have ne:b≠p:=fun y=>pl (y▸z);refine .inr ?_;rcases z with z | z | z | z | z | ⟨n,l,e,z⟩
   ·exact h1n b (by rw[z];exact nx) ne
   ·exact h1n b (fr2 b (.inl z)) ne
   ·exact h1n b (fr2 b (.inr (.inl z))) ne
   ·exact h1n b (fr2 b (.inr (.inr (.inl z)))) ne
   ·exact h1n b (fr2 b (.inr (.inr (.inr z)))) ne
   ·cases e
end
inductive AD where
 | s (d:SD) | c (d:CD) (day need:Int) (o1 o2:dX) (f:Str->Int)
abbrev Jp:=List ZI×Mo
def AH(s:Jp):AD->Jp
 | .s d=>(sdF s.1 d,s.2.sd d)
 | .c d day need o1 o2 f=>(s.1,s.2.does day need f o1 o2 d)
def Zh(as:List AD):Jp:=as.foldl AH ([],mo0)
def sdD:SD->D
 | .come n day wt=>coD n day wt
 | .rise n day wt=>riD n day wt
 | .die n he day=>diD n he day
 | .pen n=>.tup [.str "penance", .str n]
 | .bring n day=>FH n day
 | .give i x y day=>gvD i.toNat x y day
 | .pay x y many day=>pyD x y many day
def cdD(day need:Int)(o1 o2:dX):CD->D
 | .wer x y many=>weD x y many day need o1 o2
 | .clm x i=>clD x i.toNat day need o1 o2
 | .acc i n=>acD i n day need o1 o2
def adD:AD->D
 | .s d=>sdD d
 | .c d day need o1 o2 _=>cdD day need o1 o2 d
def Hx:SD->Prop
 | .give i _ _ _=>0<=i
 | _=>True
def GW:CD->Prop
 | .clm _ i=>0<=i
 | _=>True
def Iu(s:Jp):AD->Prop
 | .s d=>sdOk s.1 s.2 d/\eSD s.1 s.2 d=none/\Hx d
 | .c d day need o1 o2 f=>cdOk d/\VD s.2/\s.1.length<=1000/\o1.length<=60/\o2.length<=60/\okI day/\okI need/\(∀n∈o1++o2,n.length<=100/\∀d,Zl s.1 n=some d->d<=day->JY (kw s.1 n) day (f n)/\1<=f n/\f n<=1000)/\eCD s.1 s.2 day need f o1 o2 d=none/\GW d
def T8(as:List AD):Prop:=as.length<=400/\∀i a,as[i]? = some a->Iu (Zh (as.take i)) a
theorem RI(s:Jp)(a:AD):(AH s a).2.deeds=s.2.deeds ++ [adD a]:=by
 cases a with
 | s d=>cases d<;>rfl
 | c d day need o1 o2 f=>cases d<;>rfl
theorem GM:∀(as:List AD)(s:Jp),(as.foldl AH s).2.deeds=s.2.deeds++as.map adD
 | [],s=>by simp
 | a::as,s=>by
  rw[List.foldl_cons,GM as,yI,RI,yV];rfl
theorem XF(as:List AD):(Zh as).2.deeds=as.map adD:=by unfold Zh;rw[GM];rfl
theorem Uc(as:List AD)(a:AD):Zh (as ++ [a])=AH (Zh as) a:=by unfold Zh;rw[zZ];rfl
theorem Es(as:List AD):(Zh as).2.deeds.length=as.length:=by rw[XF,xA]
theorem T8.snoc(h:T8 as)(hl:as.length < 400)(g:Iu (Zh as) a):T8 (as ++ [a]):=by
 refine⟨by rw[xE];show as.length+1<=400;lia,fun i p hp=>?_⟩;rcases Nat.lt_or_ge i as.length with z | z
 ·rw[zQ z] at hp;rw[List.take_append_of_le_length (zC z)];exact h.2 i p hp
 ·grind
def scD:D->Bool
 | .str _=>true
 | .int _=>true
 | .non=>true
 | .bl _=>true
 | _=>false
theorem Im(h:scD d=true):isI d "list" = false:=by cases d<;>first | rfl | cases h
theorem NR(h:scD d=true)(a:YA H d u)(b:YA H' d v):v=u:=by
 cases d<;>first | (cases h;done) | (cases a;cases b;rfl)
theorem DP:∀{ds:List D}{us vs:List V},(∀d∈ds,scD d=true)->ZP H ds us->ZP H' ds vs->vs=us
 | [],_,_,_,a,b=>by cases a;cases b;rfl
 | d::ds,_,_,h,⟨_,_,rfl,a,a'⟩,⟨_,_,rfl,b,b'⟩=>by rw[NR (h d xY) a b,DP (fun x hx=>h x (xN _ hx)) a' b']
def sdP:SD->List D
 | .come n day wt=>[.str "come", .str n,.int day,.int wt]
 | .rise n day wt=>[.str "rise", .str n,.int day,.int wt]
 | .die n he day=>[.str "die", .str n,.int day,.str he]
 | .pen n=>[.str "penance", .str n]
 | .bring n day=>[.str "bring", .str n,.int day]
 | .give i x y day=>[.str "give", .int i,.str x,.str y,.int day]
 | .pay x y many day=>[.str "pay", .str x,.str y,.int many,.int day]
theorem Fi(d:SD):∀x∈sdP d,scD x=true:=by cases d<;>simp[sdP,scD]
theorem Bd(H:Hp)(d:SD):ZP H (sdP d) (sdV d):=by cases d<;>simp[sdP,sdV,ZP,YA]
def cdP(day need:Int)(o1 o2:dX):CD->List D
 | .wer x y many=>[.str "wergild", .str x,.str y,.int many,.int day,.int need,.lst (o1.map D.str),.lst (o2.map D.str)]
 | .clm x i=>[.str "claim", .str x,.int i,.int day,.int need,.lst (o1.map D.str),.lst (o2.map D.str)]
 | .acc i n=>[.str "accuse", .int i,.str n,.int day,.int need,.lst (o1.map D.str),.lst (o2.map D.str)]
theorem CA:∀{o:dX}{vs:List V},ZP H (o.map D.str) vs->vs=o.map V.str
 | [],_,h=>h
 | _::_,_,⟨_,_,e,rfl,h⟩=>by rw[e,CA h];rfl
theorem K8(h:ZP H (cdP day need o1 o2 d) vs):∃l1 l2,vs=cdV day need l1 l2 d/\H l1=some (.lst (o1.map V.str))/\H l2=some (.lst (o2.map V.str)):=by
 have inv:∀{o:dX}{v:V},YA H (.lst (o.map D.str)) v->∃l,v = .ref l/\H l=some (.lst (o.map V.str)):=fun h=>by
  obtain⟨l,us,rfl,hl,hu⟩:=h;exact⟨l,rfl,by rw[hl,CA hu]⟩
 cases d with
 | wer x y m =>
  obtain⟨_,_,rfl,rfl,⟨_,_,rfl,rfl,⟨_,_,rfl,rfl,⟨_,_,rfl,rfl,⟨_,_,rfl,rfl,⟨_,_,rfl,rfl,⟨_,_,rfl,r1,⟨_,_,rfl,r2,rfl⟩⟩⟩⟩⟩⟩⟩⟩:=h;obtain⟨l1,rfl,h1⟩:=inv r1;obtain⟨l2,rfl,h2⟩:=inv r2;exact⟨l1,l2,rfl,h1,h2⟩
 | clm x i =>
  obtain⟨_,_,rfl,rfl,⟨_,_,rfl,rfl,⟨_,_,rfl,rfl,⟨_,_,rfl,rfl,⟨_,_,rfl,rfl,⟨_,_,rfl,r1,⟨_,_,rfl,r2,rfl⟩⟩⟩⟩⟩⟩⟩:=h;obtain⟨l1,rfl,h1⟩:=inv r1;obtain⟨l2,rfl,h2⟩:=inv r2;exact⟨l1,l2,rfl,h1,h2⟩
 | acc i n =>
  obtain⟨_,_,rfl,rfl,⟨_,_,rfl,rfl,⟨_,_,rfl,rfl,⟨_,_,rfl,rfl,⟨_,_,rfl,rfl,⟨_,_,rfl,r1,⟨_,_,rfl,r2,rfl⟩⟩⟩⟩⟩⟩⟩:=h;obtain⟨l1,rfl,h1⟩:=inv r1;obtain⟨l2,rfl,h2⟩:=inv r2;exact⟨l1,l2,rfl,h1,h2⟩
section
variable{C CM:eF}
def plD(d:D):Prop:=scD d=true\/∃o:List Str,d = .lst (o.map D.str)/\o.length<=60
inductive Jh(vs:List V)(H:Hp)(Q:VK)(z3:XK):Prop
 |mk(p) (us) (ds)(_:vs = [.ref p])(_:H p=some (.tup us))(_:ZP H ds us)(_:(∀d∈ds,plD d))(_:ds.length<=10)(_:∀q ys H',H q=none->H' q=some (.tup ys)->ZP H' ds ys->(∀l,V.ref l∈ys->H l=none)->ZA H H'->Q (.ref q) H')
abbrev IZ:Stmt:=top 72
theorem dH(Zic:YC K mg "_law_hand" IZ)(T:Txt mg):Fn P w K mg base "_law_hand" ["_law_deed_here"] 1 Jh:=by
 refine Zic.fq ["_law_deed_here"] fun H vs Q E hr h=>?_;obtain⟨p,us,ds,rfl,hp,hr,hs,hl,k⟩:=h
 refine⟨rfl,_,(Zf (Zt (Um XH T.tuple DL (Za (V1 (locs:=["_law_part"]) (fr:=[]) ⟨rfl,by decide +kernel,by decide +kernel,by decide +kernel,by decide +kernel,by decide +kernel⟩ .nil rfl (Hf Q0) ⟨fun _ _ _ _ _ _=>by
  have cnd:(inN ["_law_part"] []).Nodup:=by decide +kernel
  exact⟨(Wp 0 cnd),Uv,(ME (Wt (Z3 FV T.isinstance Ua (Za (Y5 0) (Za (V3 (v:=.ty "list") T.list Vu rfl (n:=nmC)) Zb)) (n:=nmC))) (Um bX T.list Vu (Za (Y5 0) Zb) (n:=nmC)) (Y5 0))⟩⟩) Zb)))),?_⟩
 have hul:us.length=ds.length:=hr.length;have hz:(5000:Nat)<=sizeLine:=by decide
 refine⟨_,rfl,p,rfl,⟨_,ZT.of hp⟩,?_⟩;refine IR (xs:=us) (fun i ys H'=>ZA H H'/\ZP H' (ds.take i) ys/\∀l,V.ref l∈ys->H l=none) ⟨ZA.refl H,rfl,(fun l h=>nomatch h)⟩ (by lia) (fun i ys H' _ ⟨e,_⟩=>ZT.of (e _ _ hp)) (fun i ys H' ⟨_,e,_⟩=>by rw[e.length,xU];lia) ?_ ?_
 ·rintro i v ys H' hv ⟨S,r,fr⟩ ls hls;obtain⟨w0,rfl⟩:=Ul hls;obtain⟨d,hd,re⟩:=hr.get hv;have re:=YA.mono S _ _ re;obtain⟨t1,ty1,e1⟩:=isi (K:=K) re "list" (by decide);have et:ds.take (i+1)=ds.take i ++ [d]:=by rw[xV,hd];rfl
  rw[et];refine⟨⟨[_],rfl,rfl⟩,?_⟩;rcases hs d (xJ hd) with z | ⟨o,rfl,ho⟩
  ·rw[Im z] at e1;refine⟨_,rfl,v, "list", t1,_,rfl,ty1,e1,_,rfl,Z1 ⟨_,rfl,S,r.snoc re,fun l h=>?_⟩⟩;rcases xL.mp h with h | h
   ·exact fr l h
   ·have:=xT.mp h;subst this;cases d<;>first | (cases z;done) | cases re
  ·obtain⟨l0,us0,rfl,h0,h1⟩:=id re;refine⟨_,rfl,.ref l0, "list", t1,_,rfl,ty1,e1,_,rfl,Z8 ⟨_,rfl,l0,_,rfl,.inl (ZE.of h0),fun q hq=>?_⟩⟩;have S2:=ZA.new (o:=.lst us0) hq;refine⟨S.trans S2,ZP.snoc (show YA _ (.lst (o.map D.str)) (.ref q) from⟨q,us0,rfl,Zg,ZP.mono S2 _ _ h1⟩) (ZP.mono S2 _ _ r),fun l h=>?_⟩;rcases xL.mp h with h | h
   ·exact fr l h
   ·cases xT.mp h;exact S.free hq
 ·rintro ys H' ⟨S,r,fr⟩ l hl;rw[hul,yC] at r;have S1:=ZA.new (o:=.lst ys) hl;have k1:(upd H' l (.lst ys)) l=some (.lst ys):=Zg;generalize (upd H' l (.lst ys))=H1 at S1 k1 ⊢;exact⟨l,_,rfl,.inl ⟨ZE.of k1,fun q hq=>k q ys _ ((S.trans S1).free hq) Zg (ZP.mono (S1.trans (ZA.new hq)) _ _ r) fr ((S.trans S1).trans (ZA.new hq))⟩⟩
theorem bN(h1:o1.length<=60)(h2:o2.length<=60)(d:CD):∀x∈cdP day need o1 o2 d,plD x:=by
 have a:plD (.lst (o1.map D.str)):=.inr ⟨o1,rfl,h1⟩;have b:plD (.lst (o2.map D.str)):=.inr ⟨o2,rfl,h2⟩;have c:∀x,plD (.str x):=fun _=>.inl rfl;have e:∀x,plD (.int x):=fun _=>.inl rfl;cases d<;>simp[cdP,a,b,c,e]
theorem KL(h1:H l1=some (.lst (o1.map V.str)))(h2:H l2=some (.lst (o2.map V.str)))(d:CD):ZP H (cdP day need o1 o2 d) (cdV day need l1 l2 d):=by
 have a:YA H (.lst (o1.map D.str)) (.ref l1):=⟨l1,_,rfl,h1,Jo H o1⟩;have b:YA H (.lst (o2.map D.str)) (.ref l2):=⟨l2,_,rfl,h2,Jo H o2⟩;have t:ZP H [.lst (o1.map D.str),.lst (o2.map D.str)] [.ref l1,.ref l2]:=⟨_,_,rfl,a,⟨_,_,rfl,b,rfl⟩⟩;cases d
 ·exact⟨_,_,rfl,rfl,⟨_,_,rfl,rfl,⟨_,_,rfl,rfl,⟨_,_,rfl,rfl,⟨_,_,rfl,rfl,⟨_,_,rfl,rfl,t⟩⟩⟩⟩⟩⟩
 all_goals exact⟨_,_,rfl,rfl,⟨_,_,rfl,rfl,⟨_,_,rfl,rfl,⟨_,_,rfl,rfl,⟨_,_,rfl,rfl,t⟩⟩⟩⟩⟩
theorem YD.x(h:YD C CM H p ds m O)(hs:H s=some (.lst ys))(hn:¬O s)(k:ZF s H H'):YD C CM H' p ds m O:=by
 obtain⟨M,wa,xs,qs,e,W,rfl⟩:=h;exact⟨M,wa,xs,qs,e,W.x hs hn k,rfl⟩
def trd{α:Type _}(e:Option Str)(a b : α) : α:=match e with
 | none=>a
 | some _=>b
def Em(C CM:eF)(Q:V->Hp->Prop)(H:Hp)(p:eF)(O:eF->Prop)(ds':List ZI)(m':Mo)(tv:List V):Prop:=∀O' l H',YD C CM H' p ds' m' O'->YL O H O' H'->¬O' l->H' l=some (.lst tv)->Q (.ref l) H'
inductive WT(C CM:eF)(vs:List V)(H:Hp)(Q:VK)(z3:XK):Prop
 |mk(p) (ds) (m) (O) (a) (d)(_:vs = [.ref p,.ref a])(_:YD C CM H p ds m O)(_:H a=some (.tup (sdV d)))(_:sdOk ds m d)(_:(∀x,eSD ds m d=some x->x∈errs))(_:Em C CM Q H p O (trd (eSD ds m d) (sdF ds d) ds) (trd (eSD ds m d) (m.sd d) m) (trd (eSD ds m d) [sdR m d] []))
inductive WN(C CM:eF)(vs:List V)(H:Hp)(Q:VK)(z3:XK):Prop
 |mk(p) (ds) (m) (O) (a) (d) (day need) (l1 l2) (o1 o2) (f)(_:vs = [.ref p,.ref a])(_:YD C CM H p ds m O)(_:H a=some (.tup (cdV day need l1 l2 d)))(_:AJ ds m H l1 l2 o1 o2 day need f)(_:cdOk d)(_:(∀x,eCD ds m day need f o1 o2 d=some x->x∈errs))(_:Em C CM Q H p O ds (trd (eCD ds m day need f o1 o2 d) (m.does day need f o1 o2 d) m) (trd (eCD ds m day need f o1 o2 d) [.int m.trials.length] []))
abbrev Ea:Stmt:=top 73
theorem Py:ZM ["_law_moot","_law_deed_here","_law_handed","_law_told","_law_part"] ["_law_moot","_law_deed_here"] (Zp Ea):=fsc
theorem Qg(Zie:YC K mg "_law_try" Ea)(T:Txt mg)(er:Er K mg c errs)(Z1s:Fn P w K mg base "_law_hand" ["_law_deed_here"] 1 Jh)(Z1t:WA P w K mg base "done" 8 (Sp.or (VX C CM c) (VY C CM c))):Fn P w K mg base "_law_try" ["_law_moot","_law_deed_here"] 9 (Sp.or (WT C CM) (WN C CM)):=by
 refine Zie.fn0 Py (fun _ _ _ _ _ _=>al2 fun _ _=>rfl) (fun vs H Q E h=>?_) (fun f cdv A outer s H vs Q E hr h=>?_)
 ·rcases h with⟨p,ds,m,O,a,d,rfl,_⟩ | ⟨p,ds,m,O,a,d,day,need,l1,l2,o1,o2,f,rfl,_⟩<;>rfl
 ·refine⟨_,(B8 (QS.q0 (Zz 2 (Zj Z1s (Za Q1 Zb)))) (B8 (QS.q0 (Zz 3 (Yl Zb))) (B8 (Ly K4 (fun _ _ hx=>(Zf (Zz 3 (Yl (Za (Wu hx Z1t (Za Q0 (Za Q2 Zb))) Zb))))) (Nx K4 (er.m) (fun _ _=>(Zf (Zz 3 (Yl Zb)))) Sh)) (B8 (QS.q0 (Ws PassesOwn.never rfl (Wb (V1 (locs:=["_law_part"]) (fr:=[]) ⟨rfl,by decide +kernel,by decide +kernel,by decide +kernel,by decide +kernel,by decide +kernel⟩ .nil rfl (Hf Q2) ⟨fun _ _ _ _ _ _=>by
  have cnd:(inN ["_law_part"] []).Nodup:=by decide +kernel
  exact⟨(Wp 0 cnd),(AV (Wt (Z3 FV T.isinstance Ua (Za (Y5 0) (Za (V3 (v:=.ty "list") T.list Vu rfl (n:=nmC)) Zb)) (n:=nmC)))),(Y5 0)⟩⟩)) (Yt 4)
 (Zf (Zk (cY F.plainAttrs_list F.slot_list_clear F.type_list_clear Ri Q4)))))
 (B8 (QS.q0 (Zt Q3))
 (WW.q0 Zn)))))),?_⟩
  have hz:(5000:Nat)<=sizeLine:=by decide
  obtain⟨p,ds,m,O,a,us,ps,hvs,W,ha,hr0,hpl,hps,hk⟩:∃(p:eF)(ds:List ZI)(m:Mo)(O:eF->Prop)(a:eF)(us:List V)(ps:List D),vs = [.ref p,.ref a]/\YD C CM H p ds m O/\H a=some (.tup us)/\ZP H ps us/\(∀x∈ps,plD x)/\ps.length<=10 /\
    ∀(q:eF)(ys:List V)(H2:Hp),ZA H H2->H2 q=some (.tup ys)->ZP H2 ps ys->(∀l,V.ref l∈ys->H l=none)->
     ∃ds' m' tv,Em C CM Q H p O ds' m' tv/\∀(R:V->Hp->Prop)(E:XK),(∀(v:V)(O':eF->Prop)(H3:Hp),tv = [v]->YD C CM H3 p ds' m' O'->YL O H2 O' H3->R v H3)->(∀x H3,x∈errs->tv = []->ds'=ds->m'=m->ZA H2 H3->E (.ref (c x)) none H3)->(Sp.or (VX C CM c) (VY C CM c)) [.ref p,.ref q] H2 R E:=by
   rcases h with⟨p,ds,m,O,a,d,rfl,W,ha,hd,he,k⟩ | ⟨p,ds,m,O,a,d,day,need,l1,l2,o1,o2,f,rfl,W,ha,cs,hd,he,k⟩
   ·refine⟨p,ds,m,O,a,_,sdP d,rfl,W,ha,Bd H d,fun x hx=>.inl (Fi d x hx),by cases d<;>simp[sdP],fun q ys H2 S kq hy _=>⟨_,_,_,k,fun R E g b=>.inl ⟨p,ds,m,O,q,d,rfl,W.same S,by rw[kq,DP (Fi d) (Bd H d) hy],hd,?_⟩⟩⟩;cases e:eSD ds m d with
    | none=>rw[e] at g;exact fun O' H3 W3 F3=>g _ O' H3 rfl W3 F3
    | some x=>rw[e] at b;exact fun H3 S3=>b x H3 (he x e) rfl rfl rfl S3
   ·refine⟨p,ds,m,O,a,_,cdP day need o1 o2 d,rfl,W,ha,KL cs.h1 cs.h2 d,bN cs.n1 cs.n2 d,by cases d<;>simp[cdP],fun q ys H2 S kq hy fr=>⟨_,_,_,k,fun R E g b=>?_⟩⟩;obtain⟨m1,m2,rfl,h1,h2⟩:=K8 hy;refine .inr ⟨p,ds,m,O,q,d,day,need,m1,m2,o1,o2,f,rfl,W.same S,kq,⟨cs.ok,cs.hd,h1,h2,cs.n1,cs.n2,cs.di,cs.ni,cs.hw⟩,W.out (fr m1 (by cases d<;>simp[cdV])),W.out (fr m2 (by cases d<;>simp[cdV])),hd,?_⟩;cases e:eCD ds m day need f o1 o2 d with
    | none=>rw[e] at g;exact fun O' H3 W3 F3=>g _ O' H3 rfl W3 F3
    | some x=>rw[e] at b;exact fun H3 S3=>b x H3 (he x e) rfl rfl rfl S3
  subst hvs;refine⟨_,rfl,a,us,ps,rfl,ha,hr0,hpl,hps,fun q ys H1 hq kq hy fr S1=>?_⟩;refine Yc ?_;dsimp only [Yu];refine⟨by show 0<=sizeLine;decide,fun l0 hl0=>?_⟩;have S2:=S1.trans (ZA.new (o:=.lst []) hl0);have kq2:=(ZA.new (o:=.lst []) hl0) _ _ kq;have hy2:=ZP.mono (ZA.new (o:=.lst []) hl0) _ _ hy;generalize (upd H1 l0 (.lst []))=H2 at S2 kq2 hy2 ⊢;refine Yc ?_;dsimp only [Yu];obtain⟨ds',m',tv,k,g⟩:=hk q ys H2 S2 kq2 hy2 fr;have ref:∀{l:eF},V.ref l∈ys->∃xs:List Str,H2 l=some (.lst (xs.map V.str)):=fun {l} h=>by
   obtain⟨i,hi⟩:=List.getElem?_of_mem h;obtain⟨d,hd,re⟩:=hy2.get hi;rcases hpl d (xJ hd) with z | ⟨o,rfl,_⟩
   ·cases d<;>first | (cases z;done) | cases re
   ·obtain⟨b,us,e,e1,e2⟩:=re;cases e;exact⟨o,by rw[e1,CA e2]⟩
  refine Uw (fun σ H4=>∃(O':eF->Prop)(l:eF),σ = [some (.ref p),some (.ref a),some (.ref q),some (.ref l),none]/\YD C CM H4 p ds' m' O'/\YL O H2 O' H4/\¬O' l/\H4 l=some (.lst tv)/\∀b,V.ref b∈ys->b≠l) ?_ ?_
  ·rintro σ H4 ⟨O',l,rfl,W4,F4,nl,kl,hne⟩;have at4:∀{b:eF}{o:HO},H b=none->H2 b=some o->H4 b=some o/\¬O' b:=fun e e2=>⟨F4.1 _ _ e2 (W.out e),fun z=>(F4.2 _ z).elim (W.out e) (fun y=>by rw[e2] at y;cases y)⟩;have kq4:=(at4 hq kq2).1;refine⟨_,rfl,q,rfl,⟨_,ZT.of kq4⟩,?_⟩;have hyl:=hy2.length;refine IR (xs:=ys) (fun i zs H'=>H'=H4/\zs.length<=i/\∀z∈zs,∃b,z = .ref b/\z∈ys) ⟨rfl,yL _,(fun z h=>nomatch h)⟩ (by lia) (fun i zs H' _ ⟨e,_⟩=>by rw[e];exact ZT.of kq4) (fun i zs H' ⟨_,e,_⟩=>e) ?_ ?_
   ·rintro i v zs H' hv ⟨rfl,hl,hz'⟩ ls hls;obtain⟨w0,rfl⟩:=Ul hls;obtain⟨d,hd,re⟩:=hy2.get hv;have hm:=xJ hv;refine⟨⟨[_],rfl,rfl⟩,?_⟩;rcases hpl d (xJ hd) with z | ⟨o,rfl,_⟩
    ·have re':YA H' d v:=by cases d<;>first | (cases z;done) | exact re
     obtain⟨t1,ty1,e1⟩:=isi (K:=K) re' "list" (by decide);rw[Im z] at e1;exact⟨_,rfl,v, "list", t1,_,rfl,ty1,e1,_,rfl,Z1 ⟨rfl,by lia,hz'⟩⟩
    ·obtain⟨b,us,rfl,e1,e2⟩:=re;have re':YA H' (.lst (o.map D.str)) (.ref b):=⟨b,us,rfl,(at4 (fr b hm) e1).1,by rw[CA e2];exact Jo _ _⟩;obtain⟨t1,ty1,e1⟩:=isi (K:=K) re' "list" (by decide);refine⟨_,rfl,.ref b, "list", t1,_,rfl,ty1,e1,_,rfl,Z8 ⟨_,rfl,rfl,by rw[xE];show _+1<=_;lia,fun z h=>?_⟩⟩;rcases xL.mp h with h | h
     ·exact hz' z h
     ·cases xT.mp h;exact⟨b,rfl,hm⟩
   ·rintro zs H' ⟨rfl,hl,hz'⟩ l5 hl5;have S5:=ZA.new (o:=.lst zs) hl5;have k5:(upd H' l5 (.lst zs)) l5=some (.lst zs):=Zg;have n5:=W4.out hl5;have W5:=W4.same S5;have F5:=((YL.same S2).trans F4).trans (YL.same S5);have kl5:=S5 _ _ kl;have ne5:∀{b:eF}{o:HO},H' b=some o->b≠l5:=fun e=>Zm e hl5;have in5:∀{b:eF},V.ref b∈ys->¬O' b/\b≠l5/\∃xs,(upd H' l5 (.lst zs)) b=some (.lst xs):=fun {b} h=>by
     obtain⟨xs,e⟩:=ref h;obtain⟨a1,a2⟩:=at4 (fr b h) e;exact⟨a2,ne5 a1,_,S5 _ _ a1⟩
    generalize (upd H' l5 (.lst zs))=H5 at W5 F5 kl5 k5 in5 ⊢;refine⟨l5,rfl,⟨_,ZE.of k5⟩,?_⟩;refine V0 zs (fun i σ H6=>(∃v4:Option V,σ = [some (.ref p),some (.ref a),some (.ref q),some (.ref l),v4])/\YD C CM H6 p ds' m' O'/\YL O H O' H6/\H6 l=some (.lst tv)/\H6 l5=some (.lst zs)/\∀b,V.ref b∈ys->∃xs,H6 b=some (.lst xs)) ⟨⟨none,rfl⟩,W5,F5,kl5,k5,fun b h=>(in5 h).2.2⟩ (fun i σ H6 _ ⟨_,_,_,_,e,_⟩=>ZE.of e) ?_ ?_
    ·rintro i v σ H6 hv ⟨⟨v4,rfl⟩,W6,F6,kl6,k6,in6⟩;obtain⟨b,rfl,hb⟩:=hz' v (xJ hv);obtain⟨xs,e⟩:=in6 b hb;have kx:ZF b H6 (upd H6 b (.lst [])):=ZF.upd;refine⟨_,rfl,.inl ⟨rfl,_,ZE.of e⟩,b,xs,rfl,rfl,e,⟨_,rfl⟩,W6.x e (in5 hb).1 kx,⟨fun b' o e' n'=>kx _ _ (Zm e' (fr b hb)) (F6.1 _ _ e' n'),F6.2⟩,kx _ _ (hne b hb).symm kl6,kx _ _ (in5 hb).2.1.symm k6,fun b' hb'=>?_⟩
     by_cases z:b'=b
     ·rw[z];exact⟨_,Zg⟩
     ·obtain⟨xs',e'⟩:=in6 b' hb';exact⟨xs',kx _ _ z e'⟩
    ·rintro σ H6 ⟨⟨v4,rfl⟩,W6,F6,kl6,k6,in6⟩;exact⟨_,rfl,k O' l H6 W6 F6 nl kl6⟩
  ·intro D' hn _ _ _;refine⟨_,rfl,_,rfl,g _ _ (fun v O' H3 etv W3 F3=>?_) (fun x H3 hx etv ed em S3=>?_)⟩
   ·refine⟨by show 1<=sizeLine;lia,fun l hl=>?_⟩;refine Yc (hn _ _ ⟨O',l,rfl,W3.same (ZA.new hl),F3.trans (YL.same (ZA.new hl)),W3.out hl,by rw[etv];exact Zg,fun b hb=>?_⟩);obtain⟨xs,e⟩:=ref hb;exact Zm (F3.1 _ _ e (W.out (fr b hb))) hl
   ·refine⟨_,rfl,_,er.e x hx,Z8 ⟨by show 0<=sizeLine;lia,fun l hl=>?_⟩⟩;have S4:=S3.trans (ZA.new (o:=.lst []) hl);refine Yc (hn _ _ ⟨O,l,rfl,by rw[ed,em];exact(W.same S2).same S4,YL.same S4,W.out ((S2.trans S3).free hl),by rw[etv];exact Zg,fun b hb=>?_⟩);obtain⟨xs,e⟩:=ref hb;exact Zm (S3 _ _ e) hl
end
section
def adP:AD->List D
 | .s d=>sdP d
 | .c d day need o1 o2 _=>cdP day need o1 o2 d
def adT(a:AD):D:=.tup (adP a)
def isC:AD->Bool
 | .s _=>false
 | .c ..=>true
theorem Br(h:YA (fz fx H) (adT (.s d)) v):∃q,v = .ref q/\H q=some (.tup (sdV d)):=by
 obtain⟨a,us,rfl,ha,hu⟩:=h;exact⟨a,rfl,by rw[(AY ha).1,DP (Fi d) (Bd H d) hu]⟩
theorem EU(h:YA (fz fx H) (adT (.c d day need o1 o2 f)) v):∃q l1 l2,v = .ref q/\H q=some (.tup (cdV day need l1 l2 d))/\fz fx H l1=some (.lst (o1.map V.str))/\fz fx H l2=some (.lst (o2.map V.str)):=by
 obtain⟨a,us,rfl,ha,hu⟩:=h;obtain⟨l1,l2,rfl,h1,h2⟩:=K8 hu;exact⟨a,l1,l2,rfl,(AY ha).1,h1,h2⟩
structure WL where
 wl:eF
 dl:eF
 sl:eF
 tl:eF
structure ZX (s:eF) (H:Hp) (fx:eA) (W:WL) (as bs:List AD) (ss:List ZW):Prop where
 e:H W.wl=some (.lst [.ref W.dl,.ref W.sl,.ref W.tl])
 d:WB H fx W.dl (as.map adT)
 u:WB H fx W.sl (ss.map Wj)
 t:WB H fx W.tl (bs.map adT)
 ne:∀b∈W.wl::W.dl::W.sl::W.tl::fx,b≠s
 nd : [W.wl,W.dl,W.sl,W.tl].Nodup
 nx:∀b∈fx,b ∉ [W.dl,W.sl,W.tl]
variable{s la:eF}{H H':Hp}{fx:eA}{as:List AD}
theorem ZX.keep(h:ZX s H fx W as bs ss)(kt:Ug H H')(kx:∀b∈W.wl::W.dl::W.sl::W.tl::fx,∀o,H b=some o->H' b=some o):ZX s H' fx W as bs ss:=by
 have f:ZA (fz fx H) (fz fx H'):=Wv kt (fun x hx=>kx x (by simp[hx])) fun _ z=>z;exact⟨kx _ (by simp) _ h.e,h.d.mono (kx _ (by simp)) f,h.u.mono (kx _ (by simp)) f,h.t.mono (kx _ (by simp)) f,h.ne,h.nd,h.nx⟩
theorem ZX.same(h:ZX s H fx W as bs ss)(k:ZA H H'):ZX s H' fx W as bs ss:=h.keep (fun _ _ e=>k _ _ e) fun _ _ _ e=>k _ _ e
theorem ZX.x(h:ZX s H fx W as bs ss)(hs:ZJ H s la)(k:ZF s H H'):ZX s H' fx W as bs ss:=by
 obtain⟨_,_,_,_,_,a,_⟩:=hs;exact h.keep (fun b u e=>k _ _ (fun z=>by rw[z,a] at e;cases e) e) fun b hb o e=>k _ _ (h.ne b hb) e
theorem ZX.more(h:ZX s H fx W as bs ss)(h1:∀b∈gx,b≠s)(h2:∀b∈gx,b ∉ [W.dl,W.sl,W.tl]):ZX s H (gx++fx) W as bs ss:=by
 have f:ZA (fz fx H) (fz (gx++fx) H):=Wv (fun _ _ e=>e) (fun _ _ _ e=>e) fun _ z=>xF _ z;refine⟨h.e,h.d.mono (fun _ e=>e) f,h.u.mono (fun _ e=>e) f,h.t.mono (fun _ e=>e) f,fun b hb=>?_,h.nd,fun b hb=>(xL.mp hb).elim (h2 b) (h.nx b)⟩;have hb:b ∈ [W.wl,W.dl,W.sl,W.tl]\/b∈gx\/b∈fx:=by simpa [or_assoc] using hb
 rcases hb with z | z | z
 ·exact h.ne b (yP fx z)
 ·exact h1 b z
 ·exact h.ne b (by simp[z])
theorem ZX.grow(h:ZX s H fx W as bs ss)(hl:l ∈ [W.dl,W.sl,W.tl])(e:H l=some (.lst vs)) :
  ZA (fz fx H) (fz fx (upd H l (.lst (vs ++ [v]))))/\(∀b,b≠l->b∈W.wl::W.dl::W.sl::W.tl::fx->∀o,H b=some o->(upd H l (.lst (vs ++ [v]))) b=some o):=by
 have kx:ZF l H (upd H l (.lst (vs ++ [v]))):=ZF.upd;exact⟨Wv (fun b u y=>kx _ _ (fun z=>by rw[z,e] at y;cases y) y) (fun x hx o y=>kx _ _ (fun z=>h.nx x hx (z▸hl)) y) fun _ z=>z,fun b n _ o y=>kx _ _ n y⟩
theorem WB.snoc(h:WB H fx l c)(e:H l=some (.lst vs))(f:ZA (fz fx H) (fz fx (upd H l (.lst (vs ++ [v])))))(hd:YA (fz fx H) d v):WB (upd H l (.lst (vs ++ [v]))) fx l (c ++ [d]):=by
 obtain⟨us,a,r⟩:=h;rw[e] at a;cases a;exact⟨_,Zg,ZP.snoc (YA.mono f _ _ hd) (r.mono' f)⟩
theorem ZX.wne(h:ZX s H fx W as bs ss):W.wl≠W.dl/\W.wl≠W.sl/\W.wl≠W.tl/\W.dl≠W.sl/\W.dl≠W.tl/\W.sl≠W.tl:=by
 have:=h.nd;simp only[yJ,xC,xS,or_false,not_or] at this;obtain⟨⟨a,b,c⟩,⟨d,e⟩,f,_⟩:=this;exact⟨a,b,c,d,e,f⟩
theorem ZX.addU(h:ZX s H fx W as bs ss){vs:List V}{v:V}{t:ZW}(e:H W.sl=some (.lst vs))(hd:YA (fz fx H) (Wj t) v):ZX s (upd H W.sl (.lst (vs ++ [v]))) fx W as bs (ss ++ [t]):=by
 obtain⟨f,g⟩:=h.grow (l:=W.sl) (v:=v) (by simp) e;obtain⟨n1,n2,n3,n4,n5,n6⟩:=h.wne;exact⟨g _ n2 (by simp) _ h.e,h.d.mono (g _ n4 (by simp)) f,by rw[xO];exact h.u.snoc e f hd,h.t.mono (g _ n6.symm (by simp)) f,h.ne,h.nd,h.nx⟩
theorem ZX.addT(h:ZX s H fx W as bs ss){vs:List V}{v:V}{x:AD}(e:H W.tl=some (.lst vs))(hd:YA (fz fx H) (adT x) v):ZX s (upd H W.tl (.lst (vs ++ [v]))) fx W as (bs ++ [x]) ss:=by
 obtain⟨f,g⟩:=h.grow (l:=W.tl) (v:=v) (by simp) e;obtain⟨n1,n2,n3,n4,n5,n6⟩:=h.wne;exact⟨g _ n3 (by simp) _ h.e,h.d.mono (g _ n5 (by simp)) f,h.u.mono (g _ n6 (by simp)) f,by rw[xO];exact h.t.snoc e f hd,h.ne,h.nd,h.nx⟩
theorem ZX.addD(h:ZX s H fx W as bs ss){vs:List V}{v:V}{x:AD}(e:H W.dl=some (.lst vs))(hd:YA (fz fx H) (adT x) v):ZX s (upd H W.dl (.lst (vs ++ [v]))) fx W (as ++ [x]) bs ss:=by
 obtain⟨f,g⟩:=h.grow (l:=W.dl) (v:=v) (by simp) e;obtain⟨n1,n2,n3,n4,n5,n6⟩:=h.wne;exact⟨g _ n1 (by simp) _ h.e,by rw[xO];exact h.d.snoc e f hd,h.u.mono (g _ n4.symm (by simp)) f,h.t.mono (g _ n5.symm (by simp)) f,h.ne,h.nd,h.nx⟩
inductive UZ(vs:List V)(H:Hp)(Q:VK)(z3:XK):Prop
 |mk(s la nl:eF) (ns:dX)(_:vs = [.ref s,.ref nl])(_:ZJ H s la)(_:H nl=some (.lst (ns.map V.str)))(_:nl≠s)(_:0 < ns.length)(_:ns.length<=1000)(_:∀(n:Str)(H':Hp),n∈ns->ZJ H' s la->ZF s H H'->Q (.str n) H')
abbrev HC:Stmt:=top 77
theorem Rv(Zig:YC K mg "_law_one" HC)(T:Txt mg)(Z6:Fn P w K mg base "_law_next" ["_law_src_here","_law_base"] 1 YE):Fn P w K mg base "_law_one" ["_law_src_here","_law_names_here"] 2 UZ:=by
 refine Zig.fq ["_law_src_here","_law_names_here"] fun H vs Q E hr h=>?_;obtain⟨s,la,nl,ns,rfl,hs,hn,hne,h0,h1,k⟩:=h;refine⟨rfl,_,(Zf (Zt (Zi Yb Q1 (Zj Z6 (Za Q0 (Za (Z3 Yv T.len Yk (Za Q1 Zb)) Zb))) (fun _ _=>rfl)))),?_⟩;refine⟨_,rfl,_,rfl,_,rfl,nl,_,rfl,.inl (ZE.of hn),s,la,_,rfl,hs,by rw[xA];lia,by rw[xA];lia,fun d H1 d0 d1 hs1 sx1=>?_⟩;obtain⟨j,rfl⟩:=yK d0;rw[xA] at d1;have hj:j < ns.length:=by lia
 exact⟨nl,_,_,.str ns[j],rfl,rfl,ZE.of (sx1 _ _ hne hn),Y8 (by rw[xI,xB hj];rfl),k _ H1 (zE hj) hs1 sx1⟩
def wst(n:Str)(day:Int)(p:Int×Int):ZI->Int×Int
 | .come m d wt=>if m=n/\p.1<=d/\d<=day then (d,wt) else p
 | .rise m d wt=>if m=n/\p.1<=d/\d<=day then (d,wt) else p
 | .die _ _ _=>p
def wgp(ds:List ZI)(n:Str)(day:Int):Int×Int:=ds.foldl (wst n day) (-1,0)
def wg(ds:List ZI)(n:Str)(day:Int):Int:=(wgp ds n day).2
theorem Uj(ds:List ZI)(x:ZI)(n:Str)(day:Int):wgp (ds ++ [x]) n day=wst n day (wgp ds n day) x:=by unfold wgp;rw[zZ];rfl
theorem Mi:inV (.str "come") [.str "come", .str "rise"]=true:=by decide +kernel
theorem MU:inV (.str "rise") [.str "come", .str "rise"]=true:=by decide +kernel
theorem E5:∀x∈(["die","penance","bring","give","pay","wergild","claim","accuse"]:dX),inV (.str x) [.str "come", .str "rise"]=false:=by decide +kernel
def Wf:AD->Str
 | .s (.come ..)=> "come"
 | .s (.rise ..)=> "rise"
 | .s (.die ..)=> "die"
 | .s (.pen ..)=> "penance"
 | .s (.bring ..)=> "bring"
 | .s (.give ..)=> "give"
 | .s (.pay ..)=> "pay"
 | .c (.wer ..) .. => "wergild"
 | .c (.clm ..) .. => "claim"
 | .c (.acc ..) .. => "accuse"
theorem AZ(h:YA (fz fx H) (adT x) v):∃q us,v = .ref q/\H q=some (.tup us)/\us[0]? = some (.str (Wf x)):=by
 cases x with
 | s d =>
  obtain⟨q,rfl,hq⟩:=Br h;exact⟨q,_,rfl,hq,by cases d<;>rfl⟩
 | c d day need o1 o2 f =>
  obtain⟨q,l1,l2,rfl,hq,_⟩:=EU h;exact⟨q,_,rfl,hq,by cases d<;>rfl⟩
def fdS(ds:List ZI):AD->List ZI
 | .s d=>sdF ds d
 | .c ..=>ds
theorem JP(as:List AD)(x:AD):(Zh (as ++ [x])).1=fdS (Zh as).1 x:=by
 rw[Uc];cases x<;>rfl
inductive WI(vs:List V)(H:Hp)(Q:VK)(z3:XK):Prop
 |mk(q) (fx) (as) (n) (day)(_:vs = [.ref q,.str n,.int day])(_:WB H fx q (as.map adT))(_:∀H',ZA H H'->Q (.int (wg (Zh as).1 n day)) H')
abbrev GS:Stmt:=top 69
theorem Nf(Zii:YC K mg "_law_weighs" GS)(T:Txt mg):Fn P w K mg base "_law_weighs" ["_law_deeds","_law_name","_law_day"] 1 WI:=by
 refine Zii.fq ["_law_deeds","_law_name","_law_day","_law_last","_law_found","_law_deed_here"] fun H vs Q E hr h=>?_;obtain⟨q,fx,as,n,day,rfl,⟨vs,hq,hrep⟩,k⟩:=h;refine⟨rfl,_,(Zc (Zz 3 (J5 Jz Zd)) (Zc (Zz 4 Zd) (Zc (Ws PassesOwn.never rfl (Wb Q0) (Yt 5) (Zf (Zo (QW.pt (Vv (Zr FF (Zi Zv Q5 Zd (fun _ _=>rfl)) (Yl (Za Z7 (Za Z7 Zb))) rfl) (Vv (Zr Ym (Zi Zv Q5 Zd (fun _ _=>rfl)) Q1 (Zu _)) (Vv (Zr Wh Q3 (Zi Zv Q5 Zd (fun _ _=>rfl)) (Zu _)) (Us (Zr Wh (Zi Zv Q5 Zd (fun _ _=>rfl)) Q2 (Zu _))))))) (Zc (Zz 3 (Zi Zv Q5 Zd (fun _ _=>rfl))) (Zf (Zz 4 (Zi Zv Q5 Zd (fun _ _=>rfl))))) Zn))) (Zf (Zt Q4))))),?_⟩;have hz:(5000:Nat)<=sizeLine:=by decide
 have hvl:=hrep.length;rw[xA] at hvl;refine⟨_,rfl,?_⟩;refine⟨_,rfl,q,rfl,⟨_,ZE.of hq⟩,?_⟩;refine V0 vs (fun i σ H'=>∃v5:Option V,σ = [some (.ref q),some (.str n),some (.int day),some (.int (wgp (Zh (as.take i)).1 n day).1),some (.int (wgp (Zh (as.take i)).1 n day).2),v5]/\ZA H H') ⟨none,rfl,fun _ _ e=>e⟩ (fun i σ H' _ ⟨_,_,e⟩=>ZE.of (e _ _ hq)) ?_ ?_
 ·rintro i v σ H' hv ⟨v5,rfl,sm⟩;obtain⟨x0,hx0,re⟩:=hrep.get hv;rw[xI] at hx0;obtain⟨x,hx,rfl⟩:=xR.mp hx0;have et:as.take (i+1)=as.take i ++ [x]:=by rw[xV,hx];rfl
  rw[et,JP];generalize (Zh (as.take i)).1=ds;obtain⟨a,us,rfl,ha0,hw⟩:=AZ re;have ha:=sm _ _ ha0;refine⟨_,rfl,a,_,0,.str (Wf x),rfl,rfl,ZT.of ha,Y8 hw,by show 2<=sizeLine;lia,fun lq hlq=>?_⟩;have S:=ZA.new (o:=.lst [.str "come", .str "rise"]) hlq;have kl:(upd H' lq (.lst [.str "come", .str "rise"])) lq=some (.lst [.str "come", .str "rise"]):=Zg;generalize (upd H' lq (.lst [.str "come", .str "rise"]))=H1 at S kl ⊢;have sm1:=sm.trans S;have ha1:=S _ _ ha;refine⟨lq,_,rfl,.inl (ZE.of kl),rfl,rfl,_,rfl,?_⟩;show if inV _ _=true then _ else _
  by_cases hin:∃(m:Str)(d wt:Int),x = .s (.come m d wt)\/x = .s (.rise m d wt)
  ·obtain⟨m,d,wt,hx'⟩:=hin;have e1:us = [.str (Wf x),.str m,.int d,.int wt]/\inV (.str (Wf x)) [.str "come", .str "rise"]=true/\wgp (fdS ds x) n day=if m=n/\(wgp ds n day).1<=d/\d<=day then (d,wt) else wgp ds n day:=by
    rcases hx' with rfl | rfl
    ·obtain⟨q',e,hq'⟩:=Br re;cases e;rw[hq'] at ha0;cases ha0;exact⟨rfl,Mi,Uj ds _ n day⟩
    ·obtain⟨q',e,hq'⟩:=Br re;cases e;rw[hq'] at ha0;cases ha0;exact⟨rfl,MU,Uj ds _ n day⟩
   obtain⟨rfl,hin,ew⟩:=e1;rw[hin,ew];refine Z8 ?_;refine⟨_,rfl,a,_,1,.str m,rfl,rfl,ZT.of ha1,rfl,_,rfl,rfl,_,rfl,Z0 (fun z=>?_) (fun z=>Z1 ?_)⟩
   ·have em:m=n:=by injection z
    refine⟨_,rfl,_,rfl,a,_,2,.int d,rfl,rfl,ZT.of ha1,rfl,_,d,rfl,rfl,_,rfl,Z0 (fun z1=>?_) (fun z1=>Z1 ?_)⟩
    ·refine⟨_,rfl,a,_,2,.int d,rfl,rfl,ZT.of ha1,rfl,_,rfl,d,day,rfl,rfl,_,rfl,Z0 (fun z2=>?_) (fun z2=>?_)⟩
     ·rw[if_pos ⟨em,z1,z2⟩];exact⟨_,rfl,a,_,2,.int d,rfl,rfl,ZT.of ha1,rfl,_,rfl,a,_,3,.int wt,rfl,rfl,ZT.of ha1,rfl,_,rfl,sm1⟩
     ·rw[if_neg (fun y=>z2 y.2.2)];exact⟨_,rfl,sm1⟩
    ·rw[if_neg (fun y=>z1 y.2.1)];exact⟨_,rfl,sm1⟩
   ·rw[if_neg (fun y=>z (by rw[y.1]))];exact⟨_,rfl,sm1⟩
  ·have e1:inV (.str (Wf x)) [.str "come", .str "rise"]=false/\wgp (fdS ds x) n day=wgp ds n day:=by
    cases x with
    | s d =>
     cases d with
     | come m d wt=>exact absurd ⟨m,d,wt,.inl rfl⟩ hin
     | rise m d wt=>exact absurd ⟨m,d,wt,.inr rfl⟩ hin
     | die m he d=>exact⟨E5 _ (by simp[Wf]),Uj ds _ n day⟩
     | _=>exact⟨E5 _ (by simp[Wf]),rfl⟩
    | c d dy need o1 o2 f=>exact⟨E5 _ (by cases d<;>simp[Wf]),rfl⟩
   obtain⟨hin,ew⟩:=e1;rw[hin,ew];exact Z1 (Z1 ⟨_,rfl,sm1⟩)
 ·rintro σ H' ⟨v5,rfl,sm⟩;rw[hvl,yC];exact⟨_,rfl,k H' sm⟩
end
theorem cF{left:List V}{j:Nat}(hj:j < left.length):([left[j]]++left.eraseIdx j).Perm left:=by
 rw[List.eraseIdx_eq_take_drop_succ];have e:left.take j++left[j]::left.drop (j+1)=left:=by rw[← zR hj,zB]
 have h:=(List.perm_middle (a:=left[j]) (l₁:=left.take j) (l₂:=left.drop (j+1))).symm;exact h.trans (by rw[e])
inductive Jc(vs:List V)(H:Hp)(Q:VK)(z3:XK):Prop
 |mk(s la a) (ts) (n)(_:vs = [.ref s,.ref a,.int n])(_:ZJ H s la)(_:H a=some (.lst ts))(_:a≠s)(_:0<=n)(_:ts.length<=1000)(_:∀l out H',(∃left,(out++left).Perm ts)->out.length=(min n ts.length).toNat->H l=none->H' l=some (.lst out)->ZJ H' s la->ZF s H H'->Q (.ref l) H')
abbrev HP:Stmt:=top 71
theorem bD(Zij:YC K mg "_law_pick" HP)(T:Txt mg)(Z6:Fn P w K mg base "_law_next" ["_law_src_here","_law_base"] 1 YE) :
  Fn P w K mg base "_law_pick" ["_law_src_here","_law_things","_law_many"] 2 Jc:=by
 refine Zij.fq ["_law_src_here","_law_things","_law_many","_law_left","_law_found","_law_k"] fun H vs Q E hr h=>?_;obtain⟨s,la,a,ts,n,rfl,hsrc,ha,has,hn0,hnl,k⟩:=h
 refine⟨rfl,_,(Zc (Zz 3 (Um Ak T.list Vu (Za Q1 Zb))) (Zc (Zz 4 (Yl Zb)) (Zc (Ws PassesOwn.never rfl (Au T.range (Za (Z3 (Rq (by rfl)) T.min IY (Za Q2 (Za (Z3 Yv T.len Yk (Za Q1 Zb)) Zb))) Zb)) (Yt 5)
 (Zf (Zk (Y0 F.plainAttrs_list F.slot_list_append F.type_list_append Y9 Q4 (Za (Y0 F.plainAttrs_list F.slot_list_pop F.type_list_pop LH Q3 (Za (Zj Z6 (Za Q0 (Za (Z3 Yv T.len Yk (Za Q3 Zb)) Zb))) Zb)) Zb)))))
 (Zf (Zt Q4))))),?_⟩
 have hz:(2000:Nat)<=sizeLine:=by decide
 refine⟨_,rfl,a,_,rfl,.inl (ZE.of ha),fun lf hlf=>?_⟩;refine⟨by show 0<=sizeLine;lia,fun l hl=>?_⟩;have nfl:lf≠l:=fun z=>by rw[← z,Zg] at hl;cases hl
 have sm0:ZA H (upd (upd H lf (.lst ts)) l (.lst [])):=(ZA.new hlf).trans (ZA.new hl);have hlH:H l=none:=(ZA.new hlf).free hl;obtain⟨n1,n2⟩:=hsrc.ne hlf;obtain⟨n3,n4⟩:=hsrc.ne hlH;have ea:(upd (upd H lf (.lst ts)) l (.lst [])) a=some (.lst ts):=sm0 _ _ ha;refine⟨_,rfl,_,rfl,a,_,rfl,.inl (ZE.of ea),n,_,rfl,_,rfl,?_,?_,?_⟩
 ·split<;>lia
 ·split<;>lia
 have em:(if (ts.length:Int) < n then (ts.length:Int) else n)=min n ts.length:=by split<;>lia
 refine Bb (min n ts.length).toNat (by rw[em]) (fun i σ H'=>∃(out left:List V)(v:Option V),σ = [some (.ref s),some (.ref a),some (.int n),some (.ref lf),some (.ref l),v]/\out.length=i/\left.length+i=ts.length/\(∀x∈out,x∈ts)/\(∀x∈left,x∈ts)/\(out++left).Perm ts /\
   H' l=some (.lst out)/\H' lf=some (.lst left)/\ZJ H' s la/\ZF s H H')
  ⟨[],ts,none,rfl,rfl,rfl,(fun _ z=>nomatch z),(fun _ z=>z),.refl _,Zg,by rw[Ze nfl,Zg],hsrc.keep sm0,sm0.x⟩ ?_ ?_
 ·rintro i σ H' hi ⟨out,left,v,rfl,hol,hleft,ho,hle,hpm,hl',hlf',hs',sx'⟩;have hll : 0 < left.length:=by lia
  refine⟨_,rfl,.inl ⟨rfl,_,ZE.of hl'⟩,_,rfl,.inl ⟨rfl,_,ZE.of hlf'⟩,_,rfl,_,rfl,lf,_,rfl,.inl (ZE.of hlf'),s,la,_,rfl,hs',by lia,by lia,fun d H1 d0 d1 hs1 sx1=>?_⟩;obtain⟨j,rfl⟩:=yK d0;have hj:j < left.length:=by lia
  have hlf1:=sx1 lf _ n1 hlf';have hl1:=sx1 l _ n3 hl';refine⟨lf,_,_,j,left[j],rfl,rfl,hlf1,by lia,by lia,seqIndex_of (by lia) (by lia),xB hj,?_⟩;have hs2:ZJ (upd H1 lf (.lst (left.eraseIdx j))) s la:=hs1.keepX ZF.upd n1 n2;have hl2:upd H1 lf (.lst (left.eraseIdx j)) l=some (.lst out):=by rw[Ze nfl.symm];exact hl1
  refine⟨l,out,left[j],rfl,rfl,hl2,by lia,?_⟩;refine⟨out ++ [left[j]],left.eraseIdx j,_,rfl,by rw[xE,hol];rfl,?_,fun x hx=>?_,fun x hx=>?_,?_,Zg,?_,?_,?_⟩
  ·rw[List.length_eraseIdx_of_lt hj];lia
  ·grind
  ·exact hle x (List.mem_of_mem_eraseIdx hx)
  ·refine List.Perm.trans ?_ hpm;rw[yV];exact List.Perm.append_left _ (cF hj)
  ·rw[Ze nfl,Zg]
  ·exact hs2.keepX ZF.upd n3 n4
  ·intro b o hb e;have b1:b≠lf:=fun z=>by rw[z,hlf] at e;cases e
   have b2:b≠l:=fun z=>by rw[z,hlH] at e;cases e
   rw[Ze b2,Ze b1];exact sx1 b o hb (sx' b o hb e)
 ·rintro σ H' ⟨out,left,v,rfl,hol,hleft,ho,hle,hpm,hl',hlf',hs',sx'⟩;exact⟨_,rfl,k l out H' ⟨left,hpm⟩ hol hlH hl' hs' sx'⟩
theorem Hu:∀{l:List Int},(∀x∈l,0<=x/\x<=1000)->0<=l.sum
 | [],_=>Int.le_refl _
 | x::r,h=>by
  have a:=Hu (l:=r) fun y hy=>h y (xN _ hy);have b:=(h x xY).1;rw[List.sum_cons];lia
theorem HH{ns:dX}:∀{out:List V},(∀v∈out,v∈ns.map V.str)->∃os:List Str,out=os.map V.str/\∀n∈os,n∈ns
 | [],_=>⟨[],rfl,fun _ h=>nomatch h⟩
 | v::r,h=>by
  obtain⟨os,e,m⟩:=HH (out:=r) fun v hv=>h v (xN _ hv);obtain⟨n,hn,e'⟩:=yY.mp (h v xY);exact⟨n::os,by rw[← e',e];rfl,fun x hx=>(xC.mp hx).elim (fun z=>z▸hn) (m x)⟩
theorem Rb{ns:dX}(hnd:ns.Nodup){out left:List V}(h:(out++left).Perm (ns.map V.str)):∃os:List Str,out=os.map V.str/\(∀n∈os,n∈ns)/\os.Nodup:=by
 obtain⟨os,rfl,m⟩:=HH (ns:=ns) (out:=out) fun v hv=>h.mem_iff.mp (yP _ hv);have nd:(ns.map V.str).Nodup:=List.Pairwise.map V.str (fun a b n e=>n (by injection e)) hnd;have:=(h.nodup_iff.mpr nd);have:=(List.nodup_append.mp this).1;exact⟨os,rfl,m,List.Pairwise.of_map V.str (fun a b n e=>n (by rw[e])) this⟩
inductive Tr(vs:List V)(H:Hp)(Q:VK)(z3:XK):Prop
 |mk(s la nl:eF) (ns:dX) (W:WL) (fx:eA) (as bs:List AD) (ss:List ZW) (day:Int)(_:vs = [.ref s,.ref W.wl,.ref nl,.int day])(_:ZJ H s la)(_:ZX s H fx W as bs ss)(_:H nl=some (.lst (ns.map V.str)))(_:nl≠s)(_:ns.Nodup)(_:0 < ns.length)(_:ns.length<=1000)(_:(∀n d,0<=wg (Zh as).1 n d/\wg (Zh as).1 n d<=1000))(_:∀(q l1 l2:eF)(o1 o2:dX)(need:Int)(H':Hp),1<=need->need<=12000->(∀n∈o1++o2,n∈ns)->(o1++o2).Nodup->0 < o1.length->(o1++o2).length<=6->H l1=none->H l2=none->H' q=some (.tup [.int need,.ref l1,.ref l2])->H' l1=some (.lst (o1.map V.str))->H' l2=some (.lst (o2.map V.str))->ZJ H' s la->ZF s H H'->Q (.ref q) H')
abbrev C9:Stmt:=top 78
theorem GE:Nm (Zp C9) "_law_day" .cell:=by decide +kernel
theorem Ge:Nm (Zp C9) "_law_world" .cell:=by decide +kernel
theorem LJ(Zik:YC K mg "_law_sides" C9)(T:Txt mg)(Z6:Fn P w K mg base "_law_next" ["_law_src_here","_law_base"] 1 YE)(Z1y:Fn P w K mg base "_law_pick" ["_law_src_here","_law_things","_law_many"] 2 Jc)(Zb6:Fn P w K mg base "_law_weighs" ["_law_deeds","_law_name","_law_day"] 1 WI):Fn P w K mg base "_law_sides" ["_law_src_here","_law_world","_law_names_here","_law_day"] 3 Tr:=by
 refine Zik.fq ["_law_src_here","_law_world","_law_names_here","_law_day","_law_row","_law_cut","_law_ones","_law_others","_law_need"] fun H vs Q E hr h=>?_;obtain⟨s,la,nl,ns,W,fx,as,bs,ss,day,rfl,hs,hW,hn,hne,hnd,h0,h1,hwg,k⟩:=h
 refine⟨rfl,_,(Zc (Zz 4 (Zj Z1y (Za Q0 (Za Q2 (Za (Z2 Wc Zd (Zj Z6 (Za Q0 (Za Zd Zb)))) Zb))))) (Zc (Zz 5 (Z2 Dq (Z2 Wc (Z2 Wc (Z3 Yv T.len Yk (Za Q4 Zb)) Zd) (Zj Z6 (Za Q0 (Za Zd Zb)))) Zd)) (Zc (Zo (Zr Ym (Zj Z6 (Za Q0 (Za Zd Zb))) Zd (Zu _)) (Zf (Zz 5 (Z2 Wc Zd (Zj Z6 (Za Q0 (Za (Z3 Yv T.len Yk (Za Q4 Zb)) Zb)))))) Zn) (Zc (Zz 6 (Z3 (CJ (by rfl)) T.sum Ds (Za (V1 (locs:=["_law_name"]) (fr:=[("_law_world", 1),("_law_day", 3)]) ⟨rfl,by decide +kernel,by decide +kernel,by decide +kernel,by decide +kernel,by decide +kernel⟩ (.consN Ge (.consN GE .nil)) rfl (Wb (JB BV Q4 JC (JH Q5))) ⟨fun _ _ _ _ _ _=>by
  have cnd:(inN ["_law_name"] [("_law_world", 1),("_law_day", 3)]).Nodup:=by decide +kernel
  exact⟨(Wp 0 cnd),Uv,(Zj Zb6 (Za (Zi GH (Vr 1) Zd (fun _ _=>rfl)) (Za (Y5 0) (Za (Vr 2) Zb))) (n:=nmC))⟩⟩) Zb)))
 (Zc (Zz 7 (Z3 (CJ (by rfl)) T.sum Ds (Za (V1 (locs:=["_law_name"]) (fr:=[("_law_world", 1),("_law_day", 3)]) ⟨rfl,by decide +kernel,by decide +kernel,by decide +kernel,by decide +kernel,by decide +kernel⟩ (.consN Ge (.consN GE .nil)) rfl (Wb (JB BV Q4 (JH Q5) JC)) ⟨fun _ _ _ _ _ _=>by
  have cnd:(inN ["_law_name"] [("_law_world", 1),("_law_day", 3)]).Nodup:=by decide +kernel
  exact⟨(Wp 0 cnd),Uv,(Zj Zb6 (Za (Zi GH (Vr 1) Zd (fun _ _=>rfl)) (Za (Y5 0) (Za (Vr 2) Zb))) (n:=nmC))⟩⟩) Zb)))
 (Zc (Zz 8 (Z3 (DV (by rfl)) T.max Cs (Za Zd (Za (Z3 (MQ (by rfl)) T.min IY (Za Q6 (Za Zd (Za (Z2 Wc (Z2 Ah (Z2 Ah Q6 Q7) Zd) (Zj Z6 (Za Q0 (Za Zd Zb)))) Zb)))) Zb))))
 (Zc (Zo (Zr Ym (Zj Z6 (Za Q0 (Za Zd Zb))) Zd (Zu _)) (Zf (Zz 8 Zd)) Zn)
 (Zf (Zt (Z9 (Za (qvN 8) (Za (JB BV Q4 JC (JH Q5)) (Za (JB BV Q4 (JH Q5) JC) Zb))))))))))))),?_⟩
 have hz:(5000:Nat)<=sizeLine:=by decide
 refine⟨_,rfl,_,rfl,_,rfl,s,la,6,rfl,hs,by decide,by decide,fun d1 H1 d10 d11 hs1 sx1=>?_⟩;refine⟨_,_,rfl,rfl,s,la,nl,_,1+d1,rfl,hs1,sx1 _ _ hne hn,hne,by lia,by rw[xA];exact h1,fun rl out H2 ⟨left,hp⟩ hol hrl krl hs2 sx2=>?_⟩;obtain⟨os,rfl,om,ond⟩:=Rb hnd hp;rw[xA] at hol;have hol1 : 0 < os.length/\os.length<=6:=by rw[xA] at hol;lia
 have nrl:rl≠s:=fun z=>by obtain⟨_,_,_,_,_,e,_⟩:=hs1;rw[z,e] at hrl;cases hrl
 have sx02:ZF s H H2:=sx1.trans sx2;refine Yc ?_;dsimp only [Yu];refine⟨_,rfl,rl,_,rfl,.inl (ZE.of krl),_,_,rfl,rfl,_,rfl,s,la,2,rfl,hs2,by decide,by decide,fun d2 H3 d20 d21 hs3 sx3=>?_⟩;refine⟨_,_,rfl,rfl,_,_,rfl,rfl,⟨by lia,by lia⟩,?_⟩;refine Yc ?_;dsimp only [Yu];rw[xA];refine Uw (fun σ H4=>∃ct:Nat,σ = [some (.ref s),some (.ref W.wl),some (.ref nl),some (.int day),some (.ref rl),some (.int ct),none,none,none]/\0 < ct/\ct<=os.length/\ZJ H4 s la/\ZF s H2 H4) ?_ ?_
 ·rintro σ H4 ⟨ct,rfl,hc0,hc1,hs4,sx4⟩;have W4:=hW.x hs (sx02.trans sx4);have kr4:=sx4 _ _ nrl krl;have lc1:((os.take ct).map V.str).length<=6:=by rw[xA,xU];lia
  have lc2:((os.drop ct).map V.str).length<=6:=by rw[xA,zU];lia
  refine⟨_,rfl,_,rfl,_,rfl,rl,_,rfl,ZE.of kr4,fun a1 ha1=>?_⟩;rw[FB,← List.map_take];have T1:=ZA.new (o:=.lst ((os.take ct).map V.str)) ha1;have k1:(upd H4 a1 (.lst ((os.take ct).map V.str))) a1=some (.lst ((os.take ct).map V.str)):=Zg;generalize (upd H4 a1 (.lst ((os.take ct).map V.str)))=G1 at T1 k1 ⊢;refine⟨a1,rfl,⟨_,ZE.of k1⟩,?_⟩;refine Jm (xs:=(os.take ct).map V.str) (fun i ys H'=>ZA G1 H'/\ys=(((os.take ct).take i).map fun n=>wg (Zh as).1 n day).map V.int) ⟨ZA.refl _,rfl⟩ (by lia) (fun i ys H' _ ⟨S,_⟩=>ZE.of (S _ _ k1)) (fun i ys H' ⟨_,e⟩=>by rw[e,xA,xA,xU];lia) ?_ ?_
  ·rintro i x ys H' hx ⟨S,rfl⟩ ls hls;obtain⟨u,rfl⟩:=Ul hls;rw[xI] at hx;obtain⟨n,hn',rfl⟩:=xR.mp hx;have W':=W4.same (T1.trans S);refine⟨⟨[_],rfl,rfl⟩,Z8 ⟨_,rfl,W.wl,_,0,_,rfl,rfl,ZE.of W'.e,rfl,_,rfl,_,rfl,W.dl,fx,as,n,day,rfl,W'.d,fun H'' S'=>⟨S.trans S',?_⟩⟩⟩;rw[xV,hn',xO,xO];rfl
  rintro ys H5 ⟨S5,rfl⟩ b1 hb1;rw[xA,yC];have T2:=ZA.new (o:=.lst (((os.take ct).map fun n=>wg (Zh as).1 n day).map V.int)) hb1;have k2:(upd H5 b1 (.lst (((os.take ct).map fun n=>wg (Zh as).1 n day).map V.int))) b1=some (.lst (((os.take ct).map fun n=>wg (Zh as).1 n day).map V.int)):=Zg;generalize (upd H5 b1 (.lst (((os.take ct).map fun n=>wg (Zh as).1 n day).map V.int)))=G2 at T2 k2 ⊢;have b1k:∀x∈(os.take ct).map fun n=>wg (Zh as).1 n day,0<=x/\x<=1000:=fun x hx=>by obtain⟨n,_,rfl⟩:=yY.mp hx;exact hwg n day
  refine⟨b1,_,rfl,ZE.of k2,fun x hx=>by have:=b1k x hx;lia,by rw[xA,xU];lia,?_⟩;have s1:=Hu b1k;generalize ((os.take ct).map fun n=>wg (Zh as).1 n day).sum=w1 at s1 ⊢;refine Yc ?_;dsimp only [Yu];have S42:=(T1.trans S5).trans T2;have W5:=W4.same S42;refine⟨_,rfl,_,rfl,_,rfl,rl,_,rfl,ZE.of (S42 _ _ kr4),fun a2 ha2=>?_⟩;rw[KP,← List.map_drop];have T3:=ZA.new (o:=.lst ((os.drop ct).map V.str)) ha2;have k3:(upd G2 a2 (.lst ((os.drop ct).map V.str))) a2=some (.lst ((os.drop ct).map V.str)):=Zg;generalize (upd G2 a2 (.lst ((os.drop ct).map V.str)))=G3 at T3 k3 ⊢;refine⟨a2,rfl,⟨_,ZE.of k3⟩,?_⟩;refine Jm (xs:=(os.drop ct).map V.str) (fun i ys H'=>ZA G3 H'/\ys=(((os.drop ct).take i).map fun n=>wg (Zh as).1 n day).map V.int) ⟨ZA.refl _,rfl⟩ (by lia) (fun i ys H' _ ⟨S,_⟩=>ZE.of (S _ _ k3)) (fun i ys H' ⟨_,e⟩=>by rw[e,xA,xA,xU];lia) ?_ ?_
  ·rintro i x ys H' hx ⟨S,rfl⟩ ls hls;obtain⟨u,rfl⟩:=Ul hls;rw[xI] at hx;obtain⟨n,hn',rfl⟩:=xR.mp hx;have W':=W5.same (T3.trans S);refine⟨⟨[_],rfl,rfl⟩,Z8 ⟨_,rfl,W.wl,_,0,_,rfl,rfl,ZE.of W'.e,rfl,_,rfl,_,rfl,W.dl,fx,as,n,day,rfl,W'.d,fun H'' S'=>⟨S.trans S',?_⟩⟩⟩;rw[xV,hn',xO,xO];rfl
  rintro ys H6 ⟨S6,rfl⟩ b2 hb2;rw[xA,yC];have T4:=ZA.new (o:=.lst (((os.drop ct).map fun n=>wg (Zh as).1 n day).map V.int)) hb2;have k4:(upd H6 b2 (.lst (((os.drop ct).map fun n=>wg (Zh as).1 n day).map V.int))) b2=some (.lst (((os.drop ct).map fun n=>wg (Zh as).1 n day).map V.int)):=Zg;generalize (upd H6 b2 (.lst (((os.drop ct).map fun n=>wg (Zh as).1 n day).map V.int)))=G4 at T4 k4 ⊢;refine⟨b2,_,rfl,ZE.of k4,fun x hx=>by obtain⟨n,_,rfl⟩:=yY.mp hx;have:=hwg n day;lia,by rw[xA,zU];lia,?_⟩;generalize ((os.drop ct).map fun n=>wg (Zh as).1 n day).sum=w2;refine Yc ?_;dsimp only [Yu];have S44:=S42.trans ((T3.trans S6).trans T4);have hs7:=hs4.keep S44;have kr7:=S44 _ _ kr4;refine⟨_,rfl,_,rfl,_,rfl,_,_,rfl,rfl,_,_,rfl,rfl,_,rfl,s,la,4,rfl,hs7,by decide,by decide,fun d5 H7 d50 d51 hs8 sx8=>?_⟩;refine⟨_,_,rfl,rfl,_,_,_,rfl,fun m hm m1 m2 m3=>?_⟩;refine⟨_,_,rfl,?_⟩;have mb : 1<=(if m > 1 then m else 1)/\(if m > 1 then m else 1)<=12000:=by split<;>lia
  generalize (if m > 1 then m else 1)=nd at mb ⊢;refine Yc ?_;dsimp only [Yu];have kr8:=sx8 _ _ nrl kr7;have sxe:ZF s H H7:=(((sx02.trans sx4)).trans S44.x).trans sx8;refine Uw (fun σ H8=>∃nd:Int,σ = [some (.ref s),some (.ref W.wl),some (.ref nl),some (.int day),some (.ref rl),some (.int ct),some (.int w1),some (.int w2),some (.int nd)]/\1<=nd/\nd<=12000/\ZJ H8 s la/\ZF s H7 H8) ?_ ?_
  ·rintro σ H8 ⟨nd,rfl,g0,g1,hs9,sx9⟩;have kr9:=sx9 _ _ nrl kr8;have sx:ZF s H H8:=sxe.trans sx9;have free:∀{H':Hp}{b:eF},ZF s H H'->ZJ H' s la->H' b=none->H b=none:=fun {H' b} kx hs' e=>by
    cases eb:H b with
    | none=>rfl
    | some o =>
     by_cases z:b=s
     ·obtain⟨_,_,_,_,_,y,_⟩:=hs';rw[z,y] at e;cases e
     ·rw[kx b o z eb] at e;cases e
   refine⟨_,rfl,_,rfl,_,rfl,_,rfl,rl,_,rfl,ZE.of kr9,fun l1 hl1=>?_⟩;rw[FB,← List.map_take];have U1:=ZA.new (o:=.lst ((os.take ct).map V.str)) hl1;have j1:(upd H8 l1 (.lst ((os.take ct).map V.str))) l1=some (.lst ((os.take ct).map V.str)):=Zg;generalize (upd H8 l1 (.lst ((os.take ct).map V.str)))=J1 at U1 j1 ⊢;refine⟨_,rfl,_,rfl,_,rfl,rl,_,rfl,ZE.of (U1 _ _ kr9),fun l2 hl2=>?_⟩;rw[KP,← List.map_drop];have U2:=ZA.new (o:=.lst ((os.drop ct).map V.str)) hl2;have j2:(upd J1 l2 (.lst ((os.drop ct).map V.str))) l2=some (.lst ((os.drop ct).map V.str)):=Zg;generalize (upd J1 l2 (.lst ((os.drop ct).map V.str)))=J2 at U2 j2 ⊢;refine⟨by show 3<=sizeLine;lia,fun q hq=>?_⟩;have U3:=ZA.new (o:=.tup [.int nd,.ref l1,.ref l2]) hq;have U:=(U1.trans U2).trans U3;refine k q l1 l2 (os.take ct) (os.drop ct) nd _ g0 g1 (by rw[zB];exact om) (by rw[zB];exact ond) (by rw[xU];lia) (by rw[zB];lia) (free sx hs9 hl1) (free (sx.trans U1.x) (hs9.keep U1) hl2) Zg (U3 _ _ (U2 _ _ j1)) (U3 _ _ j2) (hs9.keep U) (sx.trans U.x)
  ·intro D' hn' _ _ _;refine⟨_,rfl,s,la,4,rfl,hs8,by decide,by decide,fun d6 H8 d60 d61 hs9 sx9=>?_⟩;refine⟨rfl,_,rfl,Z0 (fun _=>?_) (fun _=>?_)⟩
   ·exact Yc (hn' _ _ ⟨1,rfl,by decide,by decide,hs9,sx9⟩)
   ·exact hn' _ _ ⟨nd,rfl,mb.1,mb.2,hs9,sx9⟩
 ·intro D' hn' _ _ _;refine⟨_,rfl,s,la,4,rfl,hs3,by decide,by decide,fun d3 H4 d30 d31 hs4 sx4=>?_⟩;have e0:((os.length:Int)+1+d2) / 2=((((os.length:Int)+1+d2) / 2).toNat:Int):=by lia
  refine⟨rfl,_,rfl,Z0 (fun _=>?_) (fun _=>?_)⟩
  ·refine⟨_,rfl,_,rfl,rl,_,rfl,.inl (ZE.of (sx4 _ _ nrl (sx3 _ _ nrl krl))),s,la,_,rfl,hs4,by rw[xA];lia,by rw[xA];lia,fun d4 H5 d40 d41 hs5 sx5=>?_⟩;rw[xA] at d41;refine⟨_,_,rfl,rfl,?_⟩;refine Yc ?_;have e1 : 1+d4=((1+d4).toNat:Int):=by lia
   exact hn' _ _ ⟨(1+d4).toNat,by rw[← e1];rfl,by lia,by lia,hs5,(sx3.trans sx4).trans sx5⟩
  ·rw[e0];exact hn' _ _ ⟨_,rfl,by lia,by lia,hs4,sx3.trans sx4⟩
inductive VO(vs:List V)(H:Hp)(Q:VK)(z3:XK):Prop
 |mk(s la:eF) (W:WL) (fx:eA) (as bs:List AD) (ss:List ZW)(_:vs = [.ref s,.ref W.wl])(_:ZJ H s la)(_:ZX s H fx W as bs ss)(_:0 < ss.length)(_:ss.length<=1000)(_:(∀t∈ss,Uh t/\0 < t.ones.length))(_:∀(q:eF)(i:Nat)(t:ZW)(n:Str)(H':Hp),ss[i]? = some t->n∈(t.ones++t.others).map (·.1)->H' q=some (.tup [.int i,.str n])->ZJ H' s la->ZF s H H'->Q (.ref q) H')
abbrev Cm:Stmt:=top 79
theorem Lk:ZM ["_law_src_here","_law_world","_law_suits","_law_case","_law_swearers"] ["_law_src_here","_law_world"] (Zp Cm):=fsc
theorem bM:Nm (Zp Cm) "_law_swearers" .local:=by decide +kernel
theorem bQ(Zil:YC K mg "_law_accused" Cm)(T:Txt mg)(Z6:Fn P w K mg base "_law_next" ["_law_src_here","_law_base"] 1 YE):Fn P w K mg base "_law_accused" ["_law_src_here","_law_world"] 2 VO:=by
 refine Zil.fq ["_law_src_here","_law_world","_law_suits","_law_case","_law_swearers"] fun H vs Q E hr h=>?_;obtain⟨s,la,W,fx,as,bs,ss,rfl,hs,hW,h0,h1,hok,k⟩:=h
 refine⟨rfl,_,(Zc (Zz 2 (Zi Yb Q1 Zd (fun _ _=>rfl))) (Zc (Zz 3 (Zj Z6 (Za Q0 (Za (Z3 Yv T.len Yk (Za Q2 Zb)) Zb)))) (Zc (Zo (Zr Ym (Zj Z6 (Za Q0 (Za Zd Zb))) Zd (Zu _)) (Zf (Zz 3 (Z2 Ah (Z3 Yv T.len Yk (Za Q2 Zb)) Zd))) Zn) (Zc (EK (locs:=["_law_name","_law_weight"]) (fr:=[]) ⟨rfl,by decide +kernel,by decide +kernel,by decide +kernel,by decide +kernel,by decide +kernel⟩ .nil rfl (Wb (Z2 Jq (Zi Zv (Zi Yb Q2 Q3 (fun _ _=>rfl)) Zd (fun _ _=>rfl)) (Zi Zv (Zi Yb Q2 Q3 (fun _ _=>rfl)) Zd (fun _ _=>rfl)))) ⟨fun _ _ _ _ _ _=>by
  have cnd:(inN ["_law_name","_law_weight"] []).Nodup:=by decide +kernel
  exact⟨(BL 2 (by rfl) (Wo (Wp 0 cnd) (Wo (Wp 1 cnd) Ju))),Uv,(Y5 0)⟩⟩ Lk.nd bM (by rfl) (i:=4))
 (Zf (Zt (Z9 (Za Q3 (Za (Zi Yb Q4 (Zj Z6 (Za Q0 (Za (Z3 Yv T.len Yk (Za Q4 Zb)) Zb))) (fun _ _=>rfl)) Zb))))))))),?_⟩
 have hz:(5000:Nat)<=sizeLine:=by decide
 obtain⟨us,hl,hrep0⟩:=hW.u;have hrep:ZP H (ss.map Wj) us:=hrep0.mono' ES;have hul:us.length=ss.length:=by have:=hrep.length;rw[xA] at this;exact this
 have hne:=hW.ne W.sl (by simp);refine⟨_,rfl,W.wl,_,1,_,rfl,rfl,ZE.of hW.e,rfl,?_⟩;refine Yc ?_;dsimp only [Yu];refine⟨_,rfl,_,rfl,W.sl,us,rfl,.inl (ZE.of hl),s,la,_,rfl,hs,by lia,by lia,fun d1 H1 d10 d11 hs1 sx1=>?_⟩;refine Yc ?_;dsimp only [Yu];refine Uw (fun σ H2=>∃i:Nat,σ = [some (.ref s),some (.ref W.wl),some (.ref W.sl),some (.int i),none]/\i < ss.length/\ZJ H2 s la/\ZF s H H2) ?_ ?_
 ·rintro σ H2 ⟨i,rfl,hi,hs2,sx2⟩;have W2:=hW.x hs sx2;obtain⟨us2,hl2,hrep2⟩:=W2.u;have hrep2:ZP H2 (ss.map Wj) us2:=hrep2.mono' ES;have ht:ss[i]? = some ss[i]:=xB hi;generalize ss[i]=t at ht;obtain⟨v,hv⟩:∃v,us2[i]? = some v:=⟨_,xB (by have:=hrep2.length;rw[xA] at this;lia)⟩;obtain⟨dd,hd,re⟩:=hrep2.get hv;rw[xI,ht] at hd;cases hd;obtain⟨ta,u1,u2,u4,rfl,hta,⟨b1,w1,rfl,hb1,hr1⟩,⟨b2,w2,rfl,hb2,hr2⟩,h4⟩:=Kx re;obtain⟨⟨L1,L2',_,_⟩,hone⟩:=hok t (xJ ht);have z1:=hr1.len;have z2:=hr2.len;have y1:=L1.2;have y2:=L2'.2;refine⟨_,rfl,_,rfl,W.sl,us2,i,.ref ta,rfl,rfl,ZE.of hl2,Y8 hv,ta,_,0,.ref b1,rfl,rfl,ZT.of hta,rfl,?_⟩;refine⟨_,rfl,_,rfl,W.sl,us2,i,.ref ta,rfl,rfl,ZE.of hl2,Y8 hv,ta,_,1,.ref b2,rfl,rfl,ZT.of hta,rfl,?_⟩;refine⟨b1,b2,w1,w2,rfl,rfl,hb1,hb2,by lia,fun q hq=>?_⟩;have Sc:=ZA.new (o:=.lst (w1++w2)) hq;have kc:(upd H2 q (.lst (w1++w2))) q=some (.lst (w1++w2)):=Zg;generalize (upd H2 q (.lst (w1++w2)))=H3 at Sc kc ⊢;have hrs:ZN H3 (t.ones++t.others) (w1++w2):=ZN.mono (ZA.t Sc) (ZN.app hr2 hr1);refine⟨q,rfl,⟨_,ZE.of kc⟩,?_⟩;refine Le kc hrs (by rw[xE];lia) fun l2 hl2'=>?_;have Sd:=ZA.new (o:=.lst (((t.ones++t.others).map (·.1)).map V.str)) hl2';have kd':(upd H3 l2 (.lst (((t.ones++t.others).map (·.1)).map V.str))) l2=some (.lst (((t.ones++t.others).map (·.1)).map V.str)):=Zg;generalize (upd H3 l2 (.lst (((t.ones++t.others).map (·.1)).map V.str)))=H4 at Sd kd' ⊢;refine Yc ?_;dsimp only [Yu];have hs4:=hs2.keep (Sc.trans Sd);have nl2:l2≠s:=(hs2.keep Sc).ne hl2' |>.1
  have hsz : 0 < ((t.ones++t.others).map (·.1)).length/\((t.ones++t.others).map (·.1)).length<=120:=by rw[xA,xE];lia
  refine⟨_,rfl,_,rfl,_,rfl,_,rfl,l2,_,rfl,.inl (ZE.of kd'),s,la,_,rfl,hs4,by rw[xA];lia,by rw[xA];lia,fun d3 H5 d30 d31 hs5 sx5=>?_⟩;rw[xA] at d31;obtain⟨j,rfl⟩:=yK d30;have hj:j < ((t.ones++t.others).map (·.1)).length:=by lia
  refine⟨l2,_,_,.str ((t.ones++t.others).map (·.1))[j],rfl,rfl,ZE.of (sx5 _ _ nl2 kd'),Y8 (by rw[xI,xB hj];rfl),by show 2<=sizeLine;lia,fun q2 hq2=>?_⟩;exact k q2 i t _ _ ht (zE hj) Zg (hs5.keep (ZA.new hq2)) (((sx2.trans (Sc.trans Sd).x).trans sx5).trans (ZA.new hq2).x)
 ·intro D' hn' _ _ _;refine⟨_,rfl,s,la,2,rfl,hs1,by decide,by decide,fun d2 H2 d20 d21 hs2 sx2=>?_⟩;refine⟨rfl,_,rfl,Z0 (fun _=>?_) (fun _=>?_)⟩
  ·refine⟨_,rfl,W.sl,us,rfl,.inl (ZE.of ((sx1.trans sx2) _ _ hne hl)),_,_,rfl,rfl,?_⟩;have e1:((us.length:Int) - 1)=((ss.length - 1:Nat):Int):=by lia
   exact Yc (hn' _ _ ⟨ss.length - 1,by rw[← e1];rfl,by lia,hs2,sx1.trans sx2⟩)
  ·have e1:d1=(d1.toNat:Int):=by lia
   exact hn' _ _ ⟨d1.toNat,by rw[← e1];rfl,by lia,hs2,sx1.trans sx2⟩
theorem SW:∀x∈(["claim","wergild","accuse"]:dX),inV (.str x) [.str "claim", .str "wergild", .str "accuse"]=true:=by decide +kernel
theorem Ng:∀x∈(["come","rise","die","penance","bring","give","pay"]:dX),inV (.str x) [.str "claim", .str "wergild", .str "accuse"]=false:=by decide +kernel
theorem Ll(x:AD):inV (.str (Wf x)) [.str "claim", .str "wergild", .str "accuse"]=isC x:=by
 cases x with
 | s d=>exact Ng _ (by cases d<;>simp[Wf])
 | c d day need o1 o2 f=>exact SW _ (by cases d<;>simp[Wf])
inductive Ac(vs:List V)(H:Hp)(Q:VK)(z3:XK):Prop
 |mk(v) (fx) (x)(_:vs = [v])(_:YA (fz fx H) (adT x) v)(_:∀H',ZA H H'->Q (.bl (isC x)) H')
abbrev FK:Stmt:=top 74
theorem cL(Zim:YC K mg "_law_is_case" FK)(T:Txt mg):Fn P w K mg base "_law_is_case" ["_law_deed_here"] 1 Ac:=by
 refine Zim.fq ["_law_deed_here"] fun H vs Q E hr h=>?_;obtain⟨v,fx,x,rfl,re,k⟩:=h;refine⟨rfl,_,(Zf (Zt (Ut FF (Zi Zv Q0 Zd (fun _ _=>rfl)) (Yl (Za Z7 (Za Z7 (Za Z7 Zb)))) rfl))),?_⟩;have hz:(5000:Nat)<=sizeLine:=by decide
 obtain⟨a,us,rfl,ha,hw⟩:=AZ re;refine⟨_,rfl,a,_,0,.str (Wf x),rfl,rfl,ZT.of ha,Y8 hw,by show 3<=sizeLine;lia,fun lq hlq=>?_⟩;refine⟨lq,_,rfl,.inl (ZE.of Zg),rfl,rfl,?_⟩;rw[Ll];exact k _ (ZA.new hlq)
theorem MR(day need:Int)(l1 l2:eF)(d:CD):atI (cdV day need l1 l2 d) (-1)=some (.ref l2):=by cases d<;>rfl
theorem SB(day need:Int)(l1 l2:eF)(d:CD):atI (cdV day need l1 l2 d) (-2)=some (.ref l1):=by cases d<;>rfl
theorem OP(day need:Int)(l1 l2:eF)(d:CD):atI (cdV day need l1 l2 d) (-3)=some (.int need):=by cases d<;>rfl
theorem Fb(day need:Int)(l1 l2:eF)(d:CD):atI (cdV day need l1 l2 d) (-4)=some (.int day):=by cases d<;>rfl
theorem Xw{v:V}{i:Nat}{u:TS}{D:YI}{σ:St}{H:Hp}(h:u D (σ.set i (some v)) H):V9 (U0 (tC v) (Wg i)) u D σ H:=h
def CC:CD->Option (Int×Str)
 | .acc i n=>some (i,n)
 | _=>none
def kss(as:List AD)(ss:List ZW):AD->List ZW
 | .s _=>ss
 | .c d day need o1 o2 _=>ss ++ [⟨Yd (fun n=>wg (Zh as).1 n day) o1,Yd (fun n=>wg (Zh as).1 n day) o2,need,CC d⟩]
inductive VT(vs:List V)(H:Hp)(Q:VK)(z3:XK):Prop
 |mk(v) (s) (W) (fx) (as bs) (ss) (x)(_:vs = [.ref W.wl,v])(_:ZX s H fx W as bs ss)(_:YA (fz fx H) (adT x) v)(_:as.length<=1000)(_:bs.length<=1000)(_:ss.length<=1000)(_:(∀d day need o1 o2 f,x = .c d day need o1 o2 f->o1.length<=60/\o2.length<=60))(_:(∃o,H s=some o))(_:∀fx' H',ZX s H' fx' W (as ++ [x]) (bs++(if isC x then [x] else [])) (kss as ss x)->(∀b o,b ∉ [W.dl,W.sl,W.tl]->H b=some o->H' b=some o)->(∀b∈fx',b∈fx\/H b=none/\∃vs,H' b=some (.lst vs))->Q .non H')
abbrev Aq:Stmt:=top 75
theorem DF:ZM ["_law_world","_law_deed_here","_law_deeds","_law_suits","_law_trials","_law_ones","_law_others","_law_named"] ["_law_world","_law_deed_here"] (Zp Aq):=fsc
theorem Ji:Nm (Zp Aq) "_law_deed_here" .cell:=by decide +kernel
theorem Cb:Nm (Zp Aq) "_law_deeds" .cell:=by decide +kernel
theorem bU:Nm (Zp Aq) "_law_ones" .local:=by decide +kernel
theorem Ow:Nm (Zp Aq) "_law_others" .local:=by decide +kernel
theorem LS(Zio:YC K mg "_law_keep" Aq)(T:Txt mg)(Z13:Fn P w K mg base "_law_is_case" ["_law_deed_here"] 1 Ac)(Zb6:Fn P w K mg base "_law_weighs" ["_law_deeds","_law_name","_law_day"] 1 WI):Fn P w K mg base "_law_keep" ["_law_world","_law_deed_here"] 2 VT:=by
 refine Zio.fq ["_law_world","_law_deed_here","_law_deeds","_law_suits","_law_trials","_law_ones","_law_others","_law_named"] fun H vs Q E hr h=>?_;obtain⟨v,s,W,fx,as,bs,ss,x,rfl,hW,re,hal,hbl,hsl,hx,⟨os,hos⟩,k⟩:=h
 refine⟨rfl,_,(Zc (J0 Q0 (bA (by rfl) (Wo (Ro (i:=2) DF.nd Cb) (Wo (Yt 3) (Wo (Yt 4) Ju)))))
 (Zc (Zo (Wt (Zj Z13 (Za (qvC 1 Ji) Zb))) (Zc (EK (locs:=["_law_name"]) (fr:=[("_law_deed_here", 1),("_law_deeds", 2)]) ⟨rfl,by decide +kernel,by decide +kernel,by decide +kernel,by decide +kernel,by decide +kernel⟩ (.consN Ji (.consN Cb .nil)) rfl (Wb (Zi Zv (qvC 1 Ji) (J5 Jz Zd) (fun _ _=>rfl))) ⟨fun _ _ _ _ _ _=>by
  have cnd:(inN ["_law_name"] [("_law_deed_here", 1),("_law_deeds", 2)]).Nodup:=by decide +kernel
  exact⟨(Wp 0 cnd),Uv,(Z9 (Za (Y5 0) (Za (Zj Zb6 (Za (Vr 2) (Za (Y5 0) (Za (Zi Co (Vr 1) (J5 Jz Zd) (fun _ _=>rfl)) Zb))) (n:=nmC)) Zb)))⟩⟩ DF.nd bU (by rfl) (i:=5))
 (Zc (EK (locs:=["_law_name"]) (fr:=[("_law_deed_here", 1),("_law_deeds", 2)]) ⟨rfl,by decide +kernel,by decide +kernel,by decide +kernel,by decide +kernel,by decide +kernel⟩ (.consN Ji (.consN Cb .nil)) rfl (Wb (Zi Zv (qvC 1 Ji) (J5 Jz Zd) (fun _ _=>rfl))) ⟨fun _ _ _ _ _ _=>by
  have cnd:(inN ["_law_name"] [("_law_deed_here", 1),("_law_deeds", 2)]).Nodup:=by decide +kernel
  exact⟨(Wp 0 cnd),Uv,(Z9 (Za (Y5 0) (Za (Zj Zb6 (Za (Vr 2) (Za (Y5 0) (Za (Zi Co (Vr 1) (J5 Jz Zd) (fun _ _=>rfl)) Zb))) (n:=nmC)) Zb)))⟩⟩ DF.nd Ow (by rfl) (i:=6))
 (Zc (Zz 7 Y3)
 (Zc (Zo (Zr Ym (Zi Zv (qvC 1 Ji) Zd (fun _ _=>rfl)) Z7 (Zu _)) (Zf (Zz 7 (Z9 (Za (Zi Zv (qvC 1 Ji) Zd (fun _ _=>rfl)) (Za (Zi Zv (qvC 1 Ji) Zd (fun _ _=>rfl)) Zb))))) Zn)
 (Zc (Zk (Y0 F.plainAttrs_list F.slot_list_append F.type_list_append Y9 Q3 (Za (Z9 (Za Q5 (Za Q6 (Za (Zi Zv (qvC 1 Ji) (J5 Jz Zd) (fun _ _=>rfl)) (Za Q7 Zb))))) Zb)))
 (Zf (Zk (Y0 F.plainAttrs_list F.slot_list_append F.type_list_append Y9 Q4 (Za (qvC 1 Ji) Zb))))))))) Zn)
 (Zf (Zk (Y0 F.plainAttrs_list F.slot_list_append F.type_list_append Y9 (qvC 2 Cb) (Za (qvC 1 Ji) Zb)))))),?_⟩
 have hz:(5000:Nat)<=sizeLine:=by decide
 refine⟨_,rfl,W.wl,_,rfl,ZE.of hW.e,rfl,_,_,rfl,_,_,rfl,_,_,rfl,rfl,?_⟩
 try dsimp only [Yu]
 refine Uw (fun σ H1=>∃(v5 v6 v7:Option V)(fx1:eA),σ = [some (.ref W.wl),some v,some (.ref W.dl),some (.ref W.sl),some (.ref W.tl),v5,v6,v7]/\ZX s H1 fx1 W as (bs++(if isC x then [x] else [])) (kss as ss x)/\YA (fz fx1 H1) (adT x) v/\(∀b o,b ∉ [W.dl,W.sl,W.tl]->H b=some o->H1 b=some o)/\∀b∈fx1,b∈fx\/H b=none/\∃vs,H1 b=some (.lst vs)) ?_ ?_
 ·rintro σ H1 ⟨v5,v6,v7,fx1,rfl,W1,re1,f1,g1⟩;obtain⟨us,hd,hr⟩:=id W1.d;have hul:=hr.length;rw[xA] at hul;refine⟨_,rfl,.inl ⟨rfl,_,ZE.of hd⟩,_,rfl,W.dl,us,v,rfl,rfl,hd,by lia,?_⟩;refine k fx1 _ (W1.addD hd re1) (fun b o nb e=>?_) (fun b hb=>?_)
  ·rw[Ze (fun z=>nb (by rw[z];simp))];exact f1 b o nb e
  ·rcases g1 b hb with z | ⟨z,vs',e⟩
   ·exact .inl z
   ·obtain⟨u1,e1,_⟩:=hW.d;exact .inr ⟨z,vs',by rw[Ze (fun y=>by rw[y,e1] at z;cases z)];exact e⟩
 ·intro D' hn' _ _ _;refine⟨_,rfl,v,fx,x,rfl,re,fun H1 S1=>⟨_,rfl,?_⟩⟩;have W1:=hW.same S1;have re1:=YA.mono (Wv (xs':=fx) (fun _ _ e=>S1 _ _ e) (fun x _ o e=>S1 _ _ e) fun _ z=>z) _ _ re;cases x with
  | s d =>
   refine Z1 (hn' _ _ ⟨none,none,none,fx,rfl,?_,re1,fun b o _ e=>S1 _ _ e,fun b hb=>.inl hb⟩);show ZX s H1 fx W as (bs ++ []) ss;rw[yD];exact W1
  | c d day need o1 o2 f =>
   refine Z8 ?_;obtain⟨hl1,hl2⟩:=hx _ _ _ _ _ _ rfl;obtain⟨q,l1,l2,rfl,hq,hf1,hf2⟩:=EU re1;have h1:=(AY hf1).1;have h2:=(AY hf2).1;refine⟨_,rfl,_,rfl,q,_,_,_,rfl,rfl,ZT.of hq,SB _ _ _ _ _,l1,rfl,⟨_,ZE.of h1⟩,?_⟩;refine Jm (xs:=o1.map V.str) (fun i ys H'=>ZA H1 H'/\ZN H' (Yd (fun n=>wg (Zh as).1 n day) (o1.take i)) ys) ⟨ZA.refl _,rfl⟩ (by rw[xA];lia) (fun i ys H' _ ⟨S,_⟩=>ZE.of (S _ _ h1)) (fun i ys H' ⟨_,r⟩=>by rw[r.len,xA,xU];lia) ?_ ?_
   ·rintro i x ys H' hx ⟨S,r⟩ ls hls;obtain⟨u,rfl⟩:=Ul hls;rw[xI] at hx;obtain⟨n,hn'',rfl⟩:=xR.mp hx;refine⟨⟨[_],rfl,rfl⟩,Z8 ⟨_,rfl,_,rfl,_,rfl,_,rfl,_,rfl,q,_,_,_,rfl,rfl,ZT.of (S _ _ hq),Fb _ _ _ _ _,W.dl,fx,as,n,day,rfl,(W1.same S).d,fun H'' S'=>⟨by show 2<=sizeLine;lia,fun p hp=>⟨(S.trans S').trans (ZA.new hp),?_⟩⟩⟩⟩;show ZN _ ((o1.take (i+1)).map fun n=>(n,wg (Zh as).1 n day)) _;rw[xV,hn'',xO];exact ZN.snoc (p:=(n,wg (Zh as).1 n day)) Zg (ZN.mono (ZA.t (S'.trans (ZA.new hp))) r)
   rintro ys1 H2 ⟨S2,r1⟩ a1 ha1;rw[xA,yC] at r1;have T1:=ZA.new (o:=.lst ys1) ha1;have k1:(upd H2 a1 (.lst ys1)) a1=some (.lst ys1):=Zg;generalize (upd H2 a1 (.lst ys1))=H3 at T1 k1 ⊢;have S12:=S2.trans T1;refine Yc ?_;dsimp only [Yu];refine⟨_,rfl,_,rfl,q,_,_,_,rfl,rfl,ZT.of (S12 _ _ hq),MR _ _ _ _ _,l2,rfl,⟨_,ZE.of (S12 _ _ h2)⟩,?_⟩;refine Jm (xs:=o2.map V.str) (fun i ys H'=>ZA H3 H'/\ZN H' (Yd (fun n=>wg (Zh as).1 n day) (o2.take i)) ys) ⟨ZA.refl _,rfl⟩ (by rw[xA];lia) (fun i ys H' _ ⟨S,_⟩=>ZE.of (S _ _ (S12 _ _ h2))) (fun i ys H' ⟨_,r⟩=>by rw[r.len,xA,xU];lia) ?_ ?_
   ·rintro i x ys H' hx ⟨S,r⟩ ls hls;obtain⟨u,rfl⟩:=Ul hls;rw[xI] at hx;obtain⟨n,hn'',rfl⟩:=xR.mp hx;refine⟨⟨[_],rfl,rfl⟩,Z8 ⟨_,rfl,_,rfl,_,rfl,_,rfl,_,rfl,q,_,_,_,rfl,rfl,ZT.of (S _ _ (S12 _ _ hq)),Fb _ _ _ _ _,W.dl,fx,as,n,day,rfl,((W1.same S12).same S).d,fun H'' S'=>⟨by show 2<=sizeLine;lia,fun p hp=>⟨(S.trans S').trans (ZA.new hp),?_⟩⟩⟩⟩;show ZN _ ((o2.take (i+1)).map fun n=>(n,wg (Zh as).1 n day)) _;rw[xV,hn'',xO];exact ZN.snoc (p:=(n,wg (Zh as).1 n day)) Zg (ZN.mono (ZA.t (S'.trans (ZA.new hp))) r)
   rintro ys2 H4 ⟨S4,r2⟩ a2 ha2;rw[xA,yC] at r2;have T2:=ZA.new (o:=.lst ys2) ha2;have k2:(upd H4 a2 (.lst ys2)) a2=some (.lst ys2):=Zg;generalize (upd H4 a2 (.lst ys2))=H5 at T2 k2 ⊢;show Wg 6 (.ref a2) _ _ _;refine Yc ?_;dsimp only;refine Xw ?_;have S15:=S12.trans (S4.trans T2);have S05:=S1.trans S15;have n1:H a1=none:=(S1.trans S2).free ha1;have n2:H a2=none:=(S1.trans (S12.trans S4)).free ha2;refine Uw (fun σ H6=>∃u4:V,σ = [some (.ref W.wl),some (.ref q),some (.ref W.dl),some (.ref W.sl),some (.ref W.tl),some (.ref a1),some (.ref a2),some u4]/\YA (fz [] H6) (Bp (CC d)) u4/\ZA H5 H6) ?_ ?_
   ·rintro σ H6 ⟨u4,rfl,r4,S6⟩;have S16:=S15.trans S6;have S06:=S05.trans S6;have hq6:=S16 _ _ hq
    have out:∀{b:eF},H b=none->b≠s/\b ∉ [W.dl,W.sl,W.tl]:=fun {b} e=>⟨Zm hos e |>.symm,fun z=>by
     obtain⟨u1,e1,_⟩:=hW.d;obtain⟨u2,e2,_⟩:=hW.u;obtain⟨u3,e3,_⟩:=hW.t;simp only[xC,xS,or_false] at z;rcases z with z | z | z
     ·rw[z,e1] at e;cases e
     ·rw[z,e2] at e;cases e
     ·rw[z,e3] at e;cases e⟩
    have W6:=(W1.same S16).more (gx:=[a1,a2]) (fun b hb=>by simp at hb;rcases hb with rfl | rfl;exact(out n1).1;exact(out n2).1) (fun b hb=>by simp at hb;rcases hb with rfl | rfl;exact(out n1).2;exact(out n2).2);obtain⟨us,hu,hur⟩:=id W6.u;have hul:=hur.length;rw[xA] at hul;refine⟨_,rfl,.inl ⟨rfl,_,ZE.of hu⟩,_,rfl,_,rfl,_,rfl,_,rfl,q,_,_,_,rfl,rfl,ZT.of hq6,OP _ _ _ _ _,_,rfl,by show 4<=sizeLine;lia,fun qt hqt=>?_⟩;have T7:=ZA.new (o:=.tup [.ref a1,.ref a2,.int need,u4]) hqt;have k7:(upd H6 qt (.tup [.ref a1,.ref a2,.int need,u4])) qt=some (.tup [.ref a1,.ref a2,.int need,u4]):=Zg;generalize (upd H6 qt (.tup [.ref a1,.ref a2,.int need,u4]))=H7 at T7 k7 ⊢;have W7:=W6.same T7;have hu7:=T7 _ _ hu;refine⟨W.sl,us,.ref qt,rfl,rfl,hu7,by lia,?_⟩;have S37:=(T1.trans (S4.trans T2)).trans (S6.trans T7);have S57:=T2.trans (S6.trans T7);have hsd:YA (fz ([a1,a2]++fx) H7) (Wj ⟨Yd (fun n=>wg (Zh as).1 n day) o1,Yd (fun n=>wg (Zh as).1 n day) o2,need,CC d⟩) (.ref qt) :=
     ⟨qt,_,rfl,Yz k7,⟨_,_,rfl,⟨a1,ys1,rfl,V8 (by simp) ((S4.trans S57) _ _ k1),ZN.fz (ZN.mono (ZA.t S37) r1)⟩,⟨_,_,rfl,⟨a2,ys2,rfl,V8 (by simp) ((S6.trans T7) _ _ k2),ZN.fz (ZN.mono (ZA.t S57) r2)⟩,⟨_,_,rfl,rfl,⟨_,_,rfl,YA.mono (Wv (fun _ _ e=>T7 _ _ e) (fun x hx=>by cases hx) fun x hx=>by cases hx) _ _ r4,rfl⟩⟩⟩⟩⟩
    have W8:=W7.addU hu7 hsd;have re7:YA (fz ([a1,a2]++fx) H7) (adT (.c d day need o1 o2 f)) (.ref q):=YA.mono (Wv (fun _ _ e=>(S16.trans T7) _ _ e) (fun x hx o e=>(S16.trans T7) _ _ e) fun x hx=>xF _ hx) _ _ re1;have re8:=YA.mono (W7.grow (l:=W.sl) (v:=.ref qt) (by simp) hu7).1 _ _ re7;have f8:∀b o,b ∉ [W.dl,W.sl,W.tl]->H b=some o->(upd H7 W.sl (.lst (us ++ [.ref qt]))) b=some o:=fun b o nb e=>by rw[Ze (fun z=>nb (by rw[z];simp))];exact T7 _ _ (S06 _ _ e)
    have f87:∀b o,b ∉ [W.dl,W.sl,W.tl]->H7 b=some o->(upd H7 W.sl (.lst (us ++ [.ref qt]))) b=some o:=fun b o nb e=>by rw[Ze (fun z=>nb (by rw[z];simp))];exact e
    generalize (upd H7 W.sl (.lst (us ++ [.ref qt])))=H8 at W8 re8 f8 f87 ⊢;obtain⟨ts,ht,htr⟩:=id W8.t;have htl:=htr.length;rw[xA] at htl;refine⟨_,rfl,.inl ⟨rfl,_,ZE.of ht⟩,_,rfl,W.tl,ts,.ref q,rfl,rfl,ht,by lia,?_⟩;have f9:∀b o,b ∉ [W.dl,W.sl,W.tl]->H7 b=some o->(upd H8 W.tl (.lst (ts ++ [.ref q]))) b=some o:=fun b o nb e=>by rw[Ze (fun z=>nb (by rw[z];simp))];exact f87 b o nb e
    refine hn' _ _ ⟨_,_,_,[a1,a2]++fx,rfl,W8.addT ht re8,YA.mono (W8.grow (l:=W.tl) (v:=.ref q) (by simp) ht).1 _ _ re8,fun b o nb e=>?_,fun b hb=>?_⟩
    ·rw[Ze (fun z=>nb (by rw[z];simp))];exact f8 b o nb e
    ·simp at hb;rcases hb with rfl | rfl | hb
     ·exact .inr ⟨n1,ys1,f9 _ _ (out n1).2 (S4.trans S57 _ _ k1)⟩
     ·exact .inr ⟨n2,ys2,f9 _ _ (out n2).2 ((S6.trans T7) _ _ k2)⟩
     ·exact .inl hb
   ·intro D2 hn2 _ _ _;have hq5:=S15 _ _ hq;cases d with
    | acc i n =>
     refine⟨_,rfl,q,_,0,_,rfl,rfl,ZT.of hq5,rfl,rfl,_,rfl,Z0 (fun _=>?_) (fun z=>absurd rfl z)⟩;refine⟨_,rfl,q,_,1,_,rfl,rfl,ZT.of hq5,rfl,_,rfl,q,_,2,_,rfl,rfl,ZT.of hq5,rfl,by show 2<=sizeLine;lia,fun p hp=>?_⟩;exact Yc (hn2 _ _ ⟨.ref p,rfl,⟨p,_,rfl,Yz Zg,⟨_,_,rfl,rfl,⟨_,_,rfl,rfl,rfl⟩⟩⟩,ZA.new hp⟩)
    | wer x y many =>
     exact⟨_,rfl,q,_,0,_,rfl,rfl,ZT.of hq5,rfl,rfl,_,rfl,Z0 (fun z=>absurd z (by decide +kernel)) (fun _=>hn2 _ _ ⟨.non,rfl,rfl,ZA.refl _⟩)⟩
    | clm x i =>
     exact⟨_,rfl,q,_,0,_,rfl,rfl,ZT.of hq5,rfl,rfl,_,rfl,Z0 (fun z=>absurd z (by decide +kernel)) (fun _=>hn2 _ _ ⟨.non,rfl,rfl,ZA.refl _⟩)⟩
def Vn:AD->Bool
 | .s (.bring ..)=>true
 | _=>false
theorem Cr(x:AD):(Wf x = "bring")↔Vn x=true:=by
 cases x with
 | s d=>cases d<;>simp[Wf,Vn]<;>decide +kernel
 | c d day need o1 o2 f=>cases d<;>simp[Wf,Vn]<;>decide +kernel
def CL(ns:dX)(nb nc:Nat)(day:Int)(dy:Int):CD->Prop
 | .wer x y many=>x∈ns/\y∈ns/\1<=many/\many<=1000000/\dy=day
 | .clm x i=>x∈ns/\0<=i/\i < nb/\dy=day
 | .acc i n=>n∈ns/\0<=i/\i < nc/\day<=dy/\dy<=9999
structure Ex (ns:dX) (as bs:List AD) (ss:List ZW):Prop where
 al:as.length<=1000
 sl:ss.length<=1000
 bl:bs.length=ss.length
 ok:∀t∈ss,Uh t/\0 < t.ones.length
 nm:∀t∈ss,∀n∈(t.ones++t.others).map (·.1),n∈ns
 dy:∀x∈bs,∃d day need o1 o2 f,x = .c d day need o1 o2 f/\0<=day/\day<=9999
 wg:∀n d,0<=wg (Zh as).1 n d/\wg (Zh as).1 n d<=1000
 nd:ns.Nodup
 n0 : 0 < ns.length
 n1:ns.length<=1000
def CQ(ns:dX)(need:Int)(o1 o2:dX):Prop:=1<=need/\need<=12000/\(∀n∈o1++o2,n∈ns)/\(o1++o2).Nodup/\0 < o1.length/\(o1++o2).length<=6
inductive WZ(vs:List V)(H:Hp)(Q:VK)(z3:XK):Prop
 |mk(s la nl) (ns) (W) (fx) (as bs) (ss) (day)(_:vs = [.ref s,.ref W.wl,.ref nl,.int day])(_:ZJ H s la)(_:ZX s H fx W as bs ss)(_:Ex ns as bs ss)(_:H nl=some (.lst (ns.map V.str)))(_:nl≠s)(_:0<=day)(_:day<=9999)(_:∀q l1 l2 d dy need o1 o2 H',CL ns (as.filter Vn).length ss.length day dy d->CQ ns need o1 o2->H q=none->H l1=none->H l2=none->H' q=some (.tup (cdV dy need l1 l2 d))->H' l1=some (.lst (o1.map V.str))->H' l2=some (.lst (o2.map V.str))->ZJ H' s la->ZF s H H'->Q (.ref q) H')
theorem A6(kx:ZF s H H')(hs':ZJ H' s la)(e:H' b=none):H b=none:=by
 cases eb:H b with
 | none=>rfl
 | some o =>
  by_cases z:b=s
  ·obtain⟨_,_,_,_,_,y,_⟩:=hs';rw[z,y] at e;cases e
  ·rw[kx b o z eb] at e;cases e
abbrev GR:Stmt:=top 80
theorem Pr(Zip:YC K mg "_law_case_deed" GR)(T:Txt mg)(Z6:Fn P w K mg base "_law_next" ["_law_src_here","_law_base"] 1 YE)(Vo:Fn P w K mg base "_law_one" ["_law_src_here","_law_names_here"] 2 UZ)(Z15:Fn P w K mg base "_law_sides" ["_law_src_here","_law_world","_law_names_here","_law_day"] 3 Tr)(Z16:Fn P w K mg base "_law_accused" ["_law_src_here","_law_world"] 2 VO):Fn P w K mg base "_law_case_deed" ["_law_src_here","_law_world","_law_names_here","_law_day"] 4 WZ:=by
 refine Zip.fq ["_law_src_here","_law_world","_law_names_here","_law_day","_law_need","_law_ones","_law_others","_law_kind","_law_case","_law_name","_law_things","_law_many"] fun H vs Q E hr h=>?_;obtain⟨s,la,nl,ns,W,fx,as,bs,ss,day,rfl,hs,hW,ok,hn,hne,y0,y1,k⟩:=h
 refine⟨rfl,_,(Zc (J0 (Zj Z15 (Za Q0 (Za Q1 (Za Q2 (Za Q3 Zb))))) (C7 (by rfl) (Wo (Yt 4) (Wo (Yt 5) (Wo (Yt 6) Ju)))))
 (Zc (Zz 7 (Zj Z6 (Za Q0 (Za Zd Zb))))
 (Zc (Zo (QW.pt (Vv (Zr Am Q7 Zd (Zu _)) (Us (Zr Am (Z3 Yv T.len Yk (Za (Zi Yb Q1 Zd (fun _ _=>rfl)) Zb)) Zd (Zu _))))) (Zc (J0 (Zj Z16 (Za Q0 (Za Q1 Zb))) (C7 (by rfl) (Wo (Yt 8) (Wo (Yt 9) Ju))))
 (Zf (Zt (Z9 (Za Z7 (Za (qvN 8) (Za (qvN 9) (Za (Z3 (DV (by rfl)) T.max Cs (Za Q3 (Za (Zi Zv (Zi Yb (Zi Yb Q1 Zd (fun _ _=>rfl)) (qvN 8) (fun _ _=>rfl)) (J5 Jz Zd) (fun _ _=>rfl)) Zb))) (Za Q4 (Za Q5 (Za Q6 Zb))))))))))) Zn)
 (Zc (Zz 10 (Z3 Yv T.len Yk (Za (V1 (locs:=["_law_deed_here"]) (fr:=[]) ⟨rfl,by decide +kernel,by decide +kernel,by decide +kernel,by decide +kernel,by decide +kernel⟩ .nil rfl (Wb (Zi Yb Q1 Zd (fun _ _=>rfl))) ⟨fun _ _ _ _ _ _=>by
  have cnd:(inN ["_law_deed_here"] []).Nodup:=by decide +kernel
  exact⟨(Wp 0 cnd),(AV (Zr Ym (Zi Co (Y5 0) Zd (fun _ _=>rfl)) Z7 (Zu _))),(Y5 0)⟩⟩) Zb)))
 (Zc (Zo (QW.pt (Vv (Zr Ym Q7 Zd (Zu _)) (Us (Zr Am (qvN 10) Zd (Zu _))))) (Zf (Zt (Z9 (Za Z7 (Za (Zj Vo (Za Q0 (Za Q2 Zb))) (Za (Zj Z6 (Za Q0 (Za (qvN 10) Zb))) (Za Q3 (Za Q4 (Za Q5 (Za Q6 Zb)))))))))) Zn)
 (Zc (Zz 11 (Z2 Wc Zd (Zj Z6 (Za Q0 (Za (Zi Yb (Yl (Za Zd (Za Zd Zb))) (Zj Z6 (Za Q0 (Za Zd Zb))) (fun _ _=>rfl)) Zb)))))
 (Zf (Zt (Z9 (Za Z7 (Za (Zj Vo (Za Q0 (Za Q2 Zb))) (Za (Zj Vo (Za Q0 (Za Q2 Zb))) (Za (qvN 11) (Za Q3 (Za Q4 (Za Q5 (Za Q6 Zb))))))))))))))))),?_⟩
 have hz:(5000:Nat)<=sizeLine:=by decide
 have n0:=ok.n0;have n1:=ok.n1;refine⟨_,rfl,_,rfl,_,rfl,_,rfl,s,la,nl,ns,W,fx,as,bs,ss,day,rfl,hs,hW,hn,hne,ok.nd,ok.n0,ok.n1,ok.wg,fun q l1 l2 o1 o2 need H1 g0 g1 g2 g3 g4 g5 f1 f2 hq h1 h2 hs1 sx1=>?_⟩;have dr:CQ ns need o1 o2:=⟨g0,g1,g2,g3,g4,g5⟩;obtain⟨_,_,_,_,_,hsl,_⟩:=id hs;have ne1:l1≠s:=fun z=>by rw[z,hsl] at f1;cases f1
 have ne2:l2≠s:=fun z=>by rw[z,hsl] at f2;cases f2
 refine⟨q,_,rfl,ZT.of hq,rfl,_,_,rfl,_,_,rfl,_,_,rfl,rfl,?_⟩
 try dsimp only [Yu]
 refine⟨_,rfl,s,la,5,rfl,hs1,by decide,by decide,fun kd H2 kd0 kd1 hs2 sx2=>?_⟩;refine Yc ?_
 try dsimp only [Yu]
 have sx02:ZF s H H2:=sx1.trans sx2;have W2:=hW.x hs sx02;have nl2:=sx02 _ _ hne hn;obtain⟨us,hu,hur⟩:=id W2.u;have hul:=hur.length;rw[xA] at hul;refine Uw (fun σ H'=>σ = [some (.ref s),some (.ref W.wl),some (.ref nl),some (.int day),some (.int need),some (.ref l1),some (.ref l2),some (.int kd),none,none,none,none]/\H'=H2) ?_ ?_
 ·rintro σ H' ⟨rfl,rfl⟩;obtain⟨vs,hv,hvr⟩:=id W2.d;have hvl:=hvr.length;rw[xA] at hvl;have al:=ok.al;refine⟨_,rfl,W.wl,_,0,_,rfl,rfl,ZE.of W2.e,rfl,W.dl,rfl,⟨_,ZE.of hv⟩,?_⟩;refine Jm (xs:=vs) (fun i ys H''=>H''=H'/\ys.length=((as.take i).filter Vn).length) ⟨rfl,rfl⟩ (by lia) (fun i ys H'' _ ⟨e,_⟩=>by rw[e];exact ZE.of hv) (fun i ys H'' ⟨_,e⟩=>by rw[e];exact xX (yO _ _) (by rw[xU];lia)) ?_ ?_
  ·rintro i x ys H'' hx ⟨rfl,e⟩ ls hls;obtain⟨u,rfl⟩:=Ul hls;obtain⟨x0,hx0,re⟩:=hvr.get hx;rw[xI] at hx0;obtain⟨x1,hx1,rfl⟩:=xR.mp hx0;obtain⟨a,us',rfl,ha,hw⟩:=AZ re;have et:as.take (i+1)=as.take i ++ [x1]:=by rw[xV,hx1];rfl
   rw[et,zF];refine⟨⟨[_],rfl,rfl⟩,_,rfl,a,_,0,.str (Wf x1),rfl,rfl,ZT.of ha,Y8 hw,rfl,_,rfl,Z0 (fun z=>⟨_,rfl,rfl,?_⟩) (fun z=>⟨rfl,?_⟩)⟩
   ·have:=(Cr x1).mp (by injection z);rw[xE,xE,e,List.filter_cons_of_pos this];rfl
   ·have:¬Vn x1=true:=fun y=>z (by rw[(Cr x1).mpr y]);rw[xE,e,List.filter_cons_of_neg this];rfl
  rintro ys H'' ⟨rfl,e⟩ lt hlt;rw[hvl,yC] at e;have T1:=ZA.new (o:=.lst ys) hlt;have k1:(upd H'' lt (.lst ys)) lt=some (.lst ys):=Zg;generalize (upd H'' lt (.lst ys))=H3 at T1 k1 ⊢;refine⟨lt,_,rfl,.inl (ZE.of k1),?_⟩;rw[e];refine Yc ?_
  try dsimp only [Yu]
  have hs3:=hs2.keep T1;have sx03:ZF s H H3:=sx02.trans T1.x;have nl3:=T1 _ _ nl2;have h13:=T1 _ _ (sx2 _ _ ne1 h1);have h23:=T1 _ _ (sx2 _ _ ne2 h2);have nbl:(as.filter Vn).length<=1000:=xX (yO _ _) al;refine Uw (fun σ H'=>σ = [some (.ref s),some (.ref W.wl),some (.ref nl),some (.int day),some (.int need),some (.ref l1),some (.ref l2),some (.int kd),none,none,some (.int (as.filter Vn).length),none]/\H'=H3) ?_ ?_
  ·rintro σ H' ⟨rfl,rfl⟩;refine⟨_,rfl,by show 2<=sizeLine;lia,fun la2 hla2=>?_⟩;have T2:=ZA.new (o:=.lst [.int 9,.int 1000000]) hla2;have k2:(upd H' la2 (.lst [.int 9,.int 1000000])) la2=some (.lst [.int 9,.int 1000000]):=Zg;generalize (upd H' la2 (.lst [.int 9,.int 1000000]))=H4 at T2 k2 ⊢;have hs4:=hs3.keep T2;have nla:la2≠s:=(hs3.ne hla2).1;refine⟨_,rfl,s,la,2,rfl,hs4,by decide,by decide,fun z2 H5 z20 z21 hs5 sx5=>?_⟩;obtain⟨b,hb,hb2⟩:∃b:Int,atI [V.int 9,V.int 1000000] z2=some (.int b)/\0 < b/\b<=1000000:=by
    rcases(show z2=0\/z2=1 by lia) with rfl | rfl
    ·exact⟨9,rfl,by decide,by decide⟩
    ·exact⟨1000000,rfl,by decide,by decide⟩
   refine⟨la2,_,_,.int b,rfl,rfl,ZE.of (sx5 _ _ nla k2),hb,s,la,b,rfl,hs5,by lia,by lia,fun m H6 m0 m1 hs6 sx6=>?_⟩;refine⟨_,_,rfl,rfl,?_⟩;refine Yc ?_
   try dsimp only [Yu]
   have sx06:ZF s H H6:=((sx03.trans T2.x).trans sx5).trans sx6;have sx36:ZF s H' H6:=(T2.x.trans sx5).trans sx6;refine⟨_,rfl,_,rfl,s,la,nl,ns,rfl,hs6,sx06 _ _ hne hn,hne,n0,n1,fun x H7 mx hs7 sx7=>?_⟩;refine⟨_,rfl,_,rfl,s,la,nl,ns,rfl,hs7,sx7 _ _ hne (sx06 _ _ hne hn),hne,n0,n1,fun y H8 my hs8 sx8=>?_⟩;refine⟨_,rfl,_,rfl,_,rfl,_,rfl,_,rfl,by show 8<=sizeLine;lia,fun qq hqq=>?_⟩;have sx38:ZF s H' H8:=(sx36.trans sx7).trans sx8;have sx08:ZF s H H8:=sx03.trans sx38;have T3:=ZA.new (o:=.tup (cdV day need l1 l2 (.wer x y (1+m)))) hqq;exact k qq l1 l2 (.wer x y (1+m)) day need o1 o2 _ ⟨mx,my,by lia,by lia,rfl⟩ dr (A6 sx08 hs8 hqq) f1 f2 Zg (T3 _ _ (sx38 _ _ ne1 h13)) (T3 _ _ (sx38 _ _ ne2 h23)) (hs8.keep T3) (sx08.trans T3.x)
  ·intro D' hn' hrt _ _;refine⟨_,rfl,rfl,_,rfl,Z0 (fun z=>?_) (fun z=>Z1 (hn' _ _ ⟨rfl,rfl⟩))⟩;refine⟨_,rfl,_,_,rfl,rfl,_,rfl,Z0 (fun z2=>?_) (fun z2=>hn' _ _ ⟨rfl,rfl⟩)⟩;refine⟨_,rfl,_,rfl,s,la,nl,ns,rfl,hs3,nl3,hne,n0,n1,fun x H4 mx hs4 sx4=>?_⟩;refine⟨_,rfl,_,rfl,s,la,_,rfl,hs4,by lia,by lia,fun j H5 j0 j1 hs5 sx5=>?_⟩;refine⟨_,rfl,_,rfl,_,rfl,_,rfl,by show 7<=sizeLine;lia,fun qq hqq=>hrt _ _ ?_⟩;have sx35:ZF s H3 H5:=sx4.trans sx5;have sx05:ZF s H H5:=sx03.trans sx35;have T3:=ZA.new (o:=.tup (cdV day need l1 l2 (.clm x j))) hqq;exact k qq l1 l2 (.clm x j) day need o1 o2 _ ⟨mx,j0,j1,rfl⟩ dr (A6 sx05 hs5 hqq) f1 f2 Zg (T3 _ _ (sx35 _ _ ne1 h13)) (T3 _ _ (sx35 _ _ ne2 h23)) (hs5.keep T3) (sx05.trans T3.x)
 ·intro D' hn' hrt _ _;refine⟨_,rfl,_,_,rfl,rfl,_,rfl,Z0 (fun z=>?_) (fun z=>Z1 (hn' _ _ ⟨rfl,rfl⟩))⟩;refine⟨_,rfl,W.wl,_,1,_,rfl,rfl,ZE.of W2.e,rfl,W.sl,us,rfl,.inl (ZE.of hu),_,_,rfl,rfl,_,rfl,Z0 (fun z2=>?_) (fun z2=>hn' _ _ ⟨rfl,rfl⟩)⟩;refine⟨_,rfl,_,rfl,s,la,W,fx,as,bs,ss,rfl,hs2,W2,by lia,ok.sl,ok.ok,fun q2 i t n H3 ht hnm hq2 hs3 sx3=>?_⟩;have sx03:ZF s H H3:=sx02.trans sx3;have W3:=hW.x hs sx03;obtain⟨ts,hts,htr⟩:=id W3.t;have hil:=(xH.mp ht).1;have htl:=htr.length;rw[xA,ok.bl] at htl;obtain⟨v,hv⟩:∃v,ts[i]? = some v:=⟨_,xB (by lia)⟩;obtain⟨x0,hx0,re⟩:=htr.get hv;rw[xI] at hx0;obtain⟨x1,hx1,rfl⟩:=xR.mp hx0;obtain⟨d',dy',nd',p1,p2,ff,rfl,e0,e1⟩:=ok.dy x1 (xJ hx1);obtain⟨qc,m1,m2,rfl,hqc,_⟩:=EU re;refine⟨q2,_,rfl,ZT.of hq2,rfl,_,_,rfl,_,_,rfl,rfl,?_⟩
  try dsimp only [Yu]
  refine⟨_,rfl,_,rfl,_,rfl,_,rfl,W.wl,_,2,_,rfl,rfl,ZE.of W3.e,rfl,_,rfl,W.tl,ts,i,.ref qc,rfl,rfl,ZE.of hts,Y8 hv,_,rfl,qc,_,_,_,rfl,rfl,ZT.of hqc,Fb _ _ _ _ _,_,_,rfl,?_⟩;have mb:day<=(if dy' > day then dy' else day)/\(if dy' > day then dy' else day)<=9999:=by split<;>lia
  generalize (if dy' > day then dy' else day)=dy at mb ⊢;refine⟨_,rfl,_,rfl,_,rfl,by show 7<=sizeLine;lia,fun qq hqq=>hrt _ _ ?_⟩;have T3:=ZA.new (o:=.tup (cdV dy need l1 l2 (.acc i n))) hqq;exact k qq l1 l2 (.acc i n) dy need o1 o2 _ ⟨ok.nm t (xJ ht) n hnm,by lia,by lia,mb.1,mb.2⟩ dr (A6 sx03 hs3 hqq) f1 f2 Zg (T3 _ _ ((sx2.trans sx3) _ _ ne1 h1)) (T3 _ _ ((sx2.trans sx3) _ _ ne2 h2)) (hs3.keep T3) (sx03.trans T3.x)
def JR(day:Int):Prop:=5<=day/\day<=24
def DY(ns:dX)(nb:Nat):SD->Prop
 | .come _ _ _=>False
 | .rise n day wt=>n∈ns/\JR day/\1<=wt/\wt<=1000
 | .die n he day=>n∈ns/\he∈ns/\JR day
 | .pen n=>n∈ns
 | .bring n day=>n∈ns/\JR day
 | .give i x y day=>x∈ns/\y∈ns/\0<=i/\i < nb/\JR day
 | .pay x y many day=>x∈ns/\y∈ns/\1<=many/\many<=9/\JR day
inductive UT(vs:List V)(H:Hp)(Q:VK)(z3:XK):Prop
 |mk(s la nl) (ns) (W) (fx) (as bs) (ss)(_:vs = [.ref s,.ref W.wl,.ref nl])(_:ZJ H s la)(_:ZX s H fx W as bs ss)(_:Ex ns as bs ss)(_:H nl=some (.lst (ns.map V.str)))(_:nl≠s)(_:(∀q d H',DY ns (as.filter Vn).length d->H q=none->H' q=some (.tup (sdV d))->ZJ H' s la->ZF s H H'->Q (.ref q) H'))(_:∀q l1 l2 d day dy need o1 o2 H',JR day->CL ns (as.filter Vn).length ss.length day dy d->CQ ns need o1 o2->H q=none->H l1=none->H l2=none->H' q=some (.tup (cdV dy need l1 l2 d))->H' l1=some (.lst (o1.map V.str))->H' l2=some (.lst (o2.map V.str))->ZJ H' s la->ZF s H H'->Q (.ref q) H')
abbrev Kt:Stmt:=top 81
theorem dC(Ziq:YC K mg "_law_deed" Kt)(T:Txt mg)(Z6:Fn P w K mg base "_law_next" ["_law_src_here","_law_base"] 1 YE)(Vo:Fn P w K mg base "_law_one" ["_law_src_here","_law_names_here"] 2 UZ)(Z18:Fn P w K mg base "_law_case_deed" ["_law_src_here","_law_world","_law_names_here","_law_day"] 4 WZ):Fn P w K mg base "_law_deed" ["_law_src_here","_law_world","_law_names_here"] 5 UT:=by
 refine Ziq.fq ["_law_src_here","_law_world","_law_names_here","_law_day","_law_kind","_law_things"] fun H vs Q E hr h=>?_;obtain⟨s,la,nl,ns,W,fx,as,bs,ss,rfl,hs,hW,ok,hn,hne,kS,kC⟩:=h
 refine⟨rfl,_,(Zc (Zz 3 (Z2 Wc Zd (Zj Z6 (Za Q0 (Za Zd Zb))))) (Zc (Zz 4 (Zj Z6 (Za Q0 (Za Zd Zb)))) (Zc (Zo (Zr Uu Q4 Zd (Zu _)) (Zf (Zt (Zj Z18 (Za Q0 (Za Q1 (Za Q2 (Za Q3 Zb))))))) Zn) (Zc (Zz 5 (Z3 Yv T.len Yk (Za (V1 (locs:=["_law_deed_here"]) (fr:=[]) ⟨rfl,by decide +kernel,by decide +kernel,by decide +kernel,by decide +kernel,by decide +kernel⟩ .nil rfl (Wb (Zi Yb Q1 Zd (fun _ _=>rfl))) ⟨fun _ _ _ _ _ _=>by
  have cnd:(inN ["_law_deed_here"] []).Nodup:=by decide +kernel
  exact⟨(Wp 0 cnd),(AV (Zr Ym (Zi Co (Y5 0) Zd (fun _ _=>rfl)) Z7 (Zu _))),(Y5 0)⟩⟩) Zb)))
 (Zc (Zo (QW.pt (Vv (Zr Uu Q4 Zd (Zu _)) (Us (Zr Am Q5 Zd (Zu _))))) (Zf (Zt (Z9 (Za Z7 (Za (Zj Z6 (Za Q0 (Za Q5 Zb))) (Za (Zj Vo (Za Q0 (Za Q2 Zb))) (Za (Zj Vo (Za Q0 (Za Q2 Zb))) (Za Q3 Zb)))))))) Zn)
 (Zc (Zo (Zr Ym Q4 Zd (Zu _)) (Zf (Zt (Z9 (Za Z7 (Za (Zj Vo (Za Q0 (Za Q2 Zb))) (Za (Zj Vo (Za Q0 (Za Q2 Zb))) (Za (Z2 Wc Zd (Zj Z6 (Za Q0 (Za Zd Zb)))) (Za Q3 Zb)))))))) Zn)
 (Zc (Zo (Zr Ym Q4 Zd (Zu _)) (Zf (Zt (Z9 (Za Z7 (Za (Zj Vo (Za Q0 (Za Q2 Zb))) (Za Q3 (Za (Z2 Wc Zd (Zj Z6 (Za Q0 (Za (Zi Yb (Yl (Za Zd (Za Zd Zb))) (Zj Z6 (Za Q0 (Za Zd Zb))) (fun _ _=>rfl)) Zb)))) Zb))))))) Zn)
 (Zc (Zo (Zr Ym Q4 Zd (Zu _)) (Zf (Zt (Z9 (Za Z7 (Za (Zj Vo (Za Q0 (Za Q2 Zb))) (Za Q3 (Za (Zj Vo (Za Q0 (Za Q2 Zb))) Zb))))))) Zn)
 (Zc (Zo (Zr Ym Q4 Zd (Zu _)) (Zf (Zt (Z9 (Za Z7 (Za (Zj Vo (Za Q0 (Za Q2 Zb))) Zb))))) Zn)
 (Zf (Zt (Z9 (Za Z7 (Za (Zj Vo (Za Q0 (Za Q2 Zb))) (Za Q3 Zb))))))))))))))),?_⟩
 have hz:(5000:Nat)<=sizeLine:=by decide
 have n0:=ok.n0;have n1:=ok.n1;refine⟨_,rfl,s,la,20,rfl,hs,by decide,by decide,fun d1 H1 d10 d11 hs1 sx1=>?_⟩;refine⟨_,_,rfl,rfl,?_⟩;refine Yc ?_
 try dsimp only [Yu]
 refine⟨_,rfl,s,la,16,rfl,hs1,by decide,by decide,fun kd H2 kd0 kd1 hs2 sx2=>?_⟩;refine Yc ?_
 try dsimp only [Yu]
 have sx02:ZF s H H2:=sx1.trans sx2;have W2:=hW.x hs sx02;have nl2:=sx02 _ _ hne hn;have hdy:JR (5+d1):=⟨by lia,by lia⟩;refine⟨_,rfl,_,_,rfl,rfl,_,rfl,Z0 (fun z=>?_) (fun z=>?_)⟩
 ·exact⟨_,rfl,_,rfl,_,rfl,_,rfl,s,la,nl,ns,W,fx,as,bs,ss,5+d1,rfl,hs2,W2,ok,nl2,hne,by lia,by lia,fun q l1 l2 d dy need o1 o2 H' c1 c2 f0 f1 f2 e0 e1 e2 hs' sx'=>kC q l1 l2 d _ dy need o1 o2 H' hdy c1 c2 (A6 sx02 hs2 f0) (A6 sx02 hs2 f1) (A6 sx02 hs2 f2) e0 e1 e2 hs' (sx02.trans sx')⟩
 try dsimp only [Yu]
 obtain⟨vs,hv,hvr⟩:=id W2.d;have hvl:=hvr.length;rw[xA] at hvl;have al:=ok.al;refine⟨_,rfl,W.wl,_,0,_,rfl,rfl,ZE.of W2.e,rfl,W.dl,rfl,⟨_,ZE.of hv⟩,?_⟩;refine Jm (xs:=vs) (fun i ys H''=>H''=H2/\ys.length=((as.take i).filter Vn).length) ⟨rfl,rfl⟩ (by lia) (fun i ys H'' _ ⟨e,_⟩=>by rw[e];exact ZE.of hv) (fun i ys H'' ⟨_,e⟩=>by rw[e];exact xX (yO _ _) (by rw[xU];lia)) ?_ ?_
 ·rintro i x ys H'' hx ⟨rfl,e⟩ ls hls;obtain⟨u,rfl⟩:=Ul hls;obtain⟨x0,hx0,re⟩:=hvr.get hx;rw[xI] at hx0;obtain⟨x1,hx1,rfl⟩:=xR.mp hx0;obtain⟨a,us',rfl,ha,hw⟩:=AZ re;have et:as.take (i+1)=as.take i ++ [x1]:=by rw[xV,hx1];rfl
  rw[et,zF];refine⟨⟨[_],rfl,rfl⟩,_,rfl,a,_,0,.str (Wf x1),rfl,rfl,ZT.of ha,Y8 hw,rfl,_,rfl,Z0 (fun z=>⟨_,rfl,rfl,?_⟩) (fun z=>⟨rfl,?_⟩)⟩
  ·have:=(Cr x1).mp (by injection z);rw[xE,xE,e,List.filter_cons_of_pos this];rfl
  ·have:¬Vn x1=true:=fun y=>z (by rw[(Cr x1).mpr y]);rw[xE,e,List.filter_cons_of_neg this];rfl
 rintro ys H'' ⟨rfl,e⟩ lt hlt;rw[hvl,yC] at e;have T1:=ZA.new (o:=.lst ys) hlt;have k1:(upd H'' lt (.lst ys)) lt=some (.lst ys):=Zg;generalize (upd H'' lt (.lst ys))=H3 at T1 k1 ⊢;refine⟨lt,_,rfl,.inl (ZE.of k1),?_⟩;rw[e];refine Yc ?_
 try dsimp only [Yu]
 have hs3:=hs2.keep T1;have sx03:ZF s H H3:=sx02.trans T1.x;have nl3:=T1 _ _ nl2;have nbl:(as.filter Vn).length<=1000:=xX (yO _ _) al;have fin:∀{H':Hp}{q:eF}{us:List V}(d:SD),sdV d=us->DY ns (as.filter Vn).length d->ZJ H' s la->ZF s H3 H'->H' q=none->Q (.ref q) (upd H' q (.tup us)):=fun {H' q us} d e hd hs' sx' hq=>by
  subst e;have T:=ZA.new (o:=.tup (sdV d)) hq;exact kS q d _ hd (A6 (sx03.trans sx') hs' hq) Zg (hs'.keep T) ((sx03.trans sx').trans T.x)
 refine Uw (fun σ H'=>σ = [some (.ref s),some (.ref W.wl),some (.ref nl),some (.int (5+d1)),some (.int kd),some (.int (as.filter Vn).length)]/\H'=H3) ?_ ?_
 ·rintro σ H' ⟨rfl,rfl⟩;refine⟨_,rfl,rfl,_,rfl,Z0 (fun z=>?_) (fun z=>?_)⟩
  ·refine⟨_,rfl,_,rfl,s,la,nl,ns,rfl,hs3,nl3,hne,n0,n1,fun x H4 mx hs4 sx4=>?_⟩;refine⟨_,rfl,_,rfl,s,la,nl,ns,rfl,hs4,sx4 _ _ hne nl3,hne,n0,n1,fun y H5 my hs5 sx5=>?_⟩;refine⟨_,rfl,s,la,9,rfl,hs5,by decide,by decide,fun m H6 m0 m1 hs6 sx6=>?_⟩;exact⟨_,_,rfl,rfl,_,rfl,by show 5<=sizeLine;lia,fun q hq=>fin (.pay x y (1+m) (5+d1)) rfl ⟨mx,my,by lia,by lia,hdy⟩ hs6 ((sx4.trans sx5).trans sx6) hq⟩
  try dsimp only [Yu]
  refine⟨_,rfl,rfl,_,rfl,Z0 (fun z=>?_) (fun z=>?_)⟩
  ·refine⟨_,rfl,_,rfl,s,la,nl,ns,rfl,hs3,nl3,hne,n0,n1,fun x H4 mx hs4 sx4=>?_⟩;refine⟨_,rfl,_,rfl,by show 2<=sizeLine;lia,fun la2 hla2=>?_⟩;have T2:=ZA.new (o:=.lst [.int 9,.int 1000]) hla2;have k2:(upd H4 la2 (.lst [.int 9,.int 1000])) la2=some (.lst [.int 9,.int 1000]):=Zg;generalize (upd H4 la2 (.lst [.int 9,.int 1000]))=H5 at T2 k2 ⊢;have hs5:=hs4.keep T2;have nla:la2≠s:=(hs4.ne hla2).1;refine⟨_,rfl,s,la,2,rfl,hs5,by decide,by decide,fun z2 H6 z20 z21 hs6 sx6=>?_⟩;obtain⟨b,hb,hb2⟩:∃b:Int,atI [V.int 9,V.int 1000] z2=some (.int b)/\0 < b/\b<=1000:=by
    rcases(show z2=0\/z2=1 by lia) with rfl | rfl
    ·exact⟨9,rfl,by decide,by decide⟩
    ·exact⟨1000,rfl,by decide,by decide⟩
   refine⟨la2,_,_,.int b,rfl,rfl,ZE.of (sx6 _ _ nla k2),hb,s,la,b,rfl,hs6,by lia,by lia,fun m H7 m0 m1 hs7 sx7=>?_⟩;exact⟨_,_,rfl,rfl,by show 4<=sizeLine;lia,fun q hq=>fin (.rise x (5+d1) (1+m)) rfl ⟨mx,hdy,by lia,by lia⟩ hs7 (((sx4.trans T2.x).trans sx6).trans sx7) hq⟩
  try dsimp only [Yu]
  refine⟨_,rfl,rfl,_,rfl,Z0 (fun z=>?_) (fun z=>?_)⟩
  ·refine⟨_,rfl,_,rfl,s,la,nl,ns,rfl,hs3,nl3,hne,n0,n1,fun x H4 mx hs4 sx4=>?_⟩;refine⟨_,rfl,_,rfl,_,rfl,s,la,nl,ns,rfl,hs4,sx4 _ _ hne nl3,hne,n0,n1,fun y H5 my hs5 sx5=>?_⟩;exact⟨by show 4<=sizeLine;lia,fun q hq=>fin (.die x y (5+d1)) rfl ⟨mx,my,hdy⟩ hs5 (sx4.trans sx5) hq⟩
  try dsimp only [Yu]
  refine⟨_,rfl,rfl,_,rfl,Z0 (fun z=>?_) (fun z=>?_)⟩
  ·refine⟨_,rfl,_,rfl,s,la,nl,ns,rfl,hs3,nl3,hne,n0,n1,fun x H4 mx hs4 sx4=>?_⟩;exact⟨by show 2<=sizeLine;lia,fun q hq=>fin (.pen x) rfl mx hs4 sx4 hq⟩
  try dsimp only [Yu]
  refine⟨_,rfl,_,rfl,s,la,nl,ns,rfl,hs3,nl3,hne,n0,n1,fun x H4 mx hs4 sx4=>?_⟩;exact⟨_,rfl,by show 3<=sizeLine;lia,fun q hq=>fin (.bring x (5+d1)) rfl ⟨mx,hdy⟩ hs4 sx4 hq⟩
 ·intro D' hn' hrt _ _;refine⟨_,rfl,_,_,rfl,rfl,_,rfl,Z0 (fun z=>?_) (fun z=>Z1 (hn' _ _ ⟨rfl,rfl⟩))⟩;refine⟨_,rfl,_,_,rfl,rfl,_,rfl,Z0 (fun z2=>?_) (fun z2=>hn' _ _ ⟨rfl,rfl⟩)⟩;refine⟨_,rfl,_,rfl,s,la,_,rfl,hs3,by lia,by lia,fun j H4 j0 j1 hs4 sx4=>?_⟩;refine⟨_,rfl,_,rfl,s,la,nl,ns,rfl,hs4,sx4 _ _ hne nl3,hne,n0,n1,fun x H5 mx hs5 sx5=>?_⟩;refine⟨_,rfl,_,rfl,s,la,nl,ns,rfl,hs5,sx5 _ _ hne (sx4 _ _ hne nl3),hne,n0,n1,fun y H6 my hs6 sx6=>?_⟩;exact⟨_,rfl,by show 5<=sizeLine;lia,fun q hq=>hrt _ _ (fin (.give j x y (5+d1)) rfl ⟨mx,my,j0,j1,hdy⟩ hs6 ((sx4.trans sx5).trans sx6) hq)⟩
structure Fo (ds:List ZI):Prop where
 bst:∀n day,Js (kw ds n) day (wgp ds n day).1 (wgp ds n day).2
 bd:∀n day,0<=(wgp ds n day).2/\(wgp ds n day).2<=1000
 pos:∀n day,(wgp ds n day).1 = -1\/1<=(wgp ds n day).2
 key:∀n d,Zl ds n=some d->0<=d/\d<=9999/\∃l v,kw ds n=some l/\Zy l (.inl d)=some v
theorem Fo.nil:Fo []:=⟨fun _ _=>.inl ⟨rfl,rfl,rfl⟩,fun _ _=>⟨Int.le_refl 0,by show (0:Int)<=1000;decide⟩,fun _ _=>.inl rfl,fun n d h=>by cases h⟩
theorem Fo.isW(h:Fo ds)(hc:Zl ds n=some d)(hd:d<=day):JY (kw ds n) day (wg ds n day)/\1<=wg ds n day/\wg ds n day<=1000:=by
 obtain⟨_,_,l,v,e,hv⟩:=h.key n d hc;refine⟨OC (h.bst n day) e hv hd,?_,(h.bd n day).2⟩;rcases h.pos n day with z | z
 ·rcases h.bst n day with⟨y,_⟩ | ⟨l',e',⟨_,_,y⟩ | ⟨y,_⟩⟩
  ·rw[e] at y;cases y
  ·rw[e] at e';cases e';exact absurd hd (y d v hv)
  ·lia
 ·exact z
theorem Fo.come(h:Fo ds)(hc:Zl ds n=none)(d0 : 0<=d)(d1:d<=9999)(w0 : 1<=wt)(w1:wt<=1000):Fo (ds ++ [.come n d wt]):=by
 have hk:kw ds n=none:=by
  have:=EW ds n;rw[hc] at this;cases e:kw ds n with
  | none=>rfl
  | some l=>rw[e] at this;cases this
 refine⟨fun m day=>?_,fun m day=>?_,fun m day=>?_,fun m e he=>?_⟩
 ·rw[Uj,V5];show Js _ _ (if n=m/\_ then _ else _:Int×Int).1 (if n=m/\_ then _ else _:Int×Int).2
  by_cases z:n=m
  ·subst z;obtain⟨y1,y2⟩:=SJ (w:=wt) (h.bst n day) hk d0
   by_cases y:(wgp ds n day).1<=d/\d<=day
   ·rw[if_pos ⟨rfl,y⟩];exact y1 y.1 y.2
   ·rw[if_neg (fun q=>y q.2)];exact y2 y
  ·rw[if_neg (fun q=>z q.1),Y6,if_neg (Ne.symm z)];exact h.bst m day
 ·rw[Uj];show 0<=(if n=m/\_ then _ else _:Int×Int).2/\(if n=m/\_ then _ else _:Int×Int).2<=1000;split
  ·exact⟨by show 0<=wt;lia,w1⟩
  ·exact h.bd m day
 ·rw[Uj];show (if n=m/\_ then _ else _:Int×Int).1 = -1\/1<=(if n=m/\_ then _ else _:Int×Int).2;split
  ·exact .inr w0
  ·exact h.pos m day
 ·rw[CF hc] at he;rw[V5,Y6]
  by_cases z:m=n
  ·rw[if_pos z] at he ⊢;cases he;exact⟨d0,d1,_,_,rfl,by rw[CB,if_pos rfl]⟩
  ·rw[if_neg z] at he ⊢;exact h.key m e he
theorem Fo.rise(h:Fo ds)(hc:Zl ds n=some d2)(d0 : 0<=d)(w0 : 1<=wt)(w1:wt<=1000):Fo (ds ++ [.rise n d wt]):=by
 obtain⟨_,_,l0,v0,hk,hv0⟩:=h.key n d2 hc;refine⟨fun m day=>?_,fun m day=>?_,fun m day=>?_,fun m e he=>?_⟩
 ·rw[Uj,V5];show Js _ _ (if n=m/\_ then _ else _:Int×Int).1 (if n=m/\_ then _ else _:Int×Int).2
  by_cases z:n=m
  ·subst z;obtain⟨y1,y2⟩:=bK (w:=wt) (h.bst n day) hk d0
   by_cases y:(wgp ds n day).1<=d/\d<=day
   ·rw[if_pos ⟨rfl,y⟩];exact y1 y.1 y.2
   ·rw[if_neg (fun q=>y q.2)];exact y2 y
  ·rw[if_neg (fun q=>z q.1),Y6,if_neg (Ne.symm z)];exact h.bst m day
 ·rw[Uj];show 0<=(if n=m/\_ then _ else _:Int×Int).2/\(if n=m/\_ then _ else _:Int×Int).2<=1000;split
  ·exact⟨by show 0<=wt;lia,w1⟩
  ·exact h.bd m day
 ·rw[Uj];show (if n=m/\_ then _ else _:Int×Int).1 = -1\/1<=(if n=m/\_ then _ else _:Int×Int).2;split
  ·exact .inr w0
  ·exact h.pos m day
 ·rw[Cv] at he;obtain⟨x0,x1,l,v,h1,h2⟩:=h.key m e he;refine⟨x0,x1,?_⟩;rw[V5,Y6]
  by_cases z:m=n
  ·rw[if_pos z,h1]
   by_cases y:e=d
   ·exact⟨_,.int wt,rfl,by rw[A7,if_pos y]⟩
   ·exact⟨_,v,rfl,by rw[A7,if_neg y];exact h2⟩
  ·rw[if_neg z];exact⟨l,v,h1,h2⟩
theorem Fo.die(h:Fo ds):Fo (ds ++ [.die n d he]) :=
 ⟨fun m day=>by rw[Uj,V5];exact h.bst m day,fun m day=>by rw[Uj];exact h.bd m day,fun m day=>by rw[Uj];exact h.pos m day,fun m e hm=>by rw[Dp] at hm;rw[V5];exact h.key m e hm⟩
def okE(o:Option Str):Prop:=∀x,o=some x->x∈errs
theorem okE.or(h:okE a)(k:okE b):okE (a.or b):=fun x e=>by
 cases a with
 | none=>exact k x e
 | some y=>exact h x e
theorem okE.non:okE none:=fun x e=>by cases e
theorem okE.yes(h:y∈errs):okE (some y):=fun x e=>by cases e;exact h
theorem okE.ite [Decidable p] (h:okE a) (k:okE b):okE (if p then a else b):=by split<;>assumption
theorem okE.find{l:dX}{f:Str->Option Str}(h:∀n,okE (f n)):okE (l.findSome? f):=fun x e=>by
 obtain⟨n,_,hn⟩:=List.exists_of_findSome?_eq_some e;exact h n x hn
theorem okE.bind{α:Type}{o:Option α}{f : α->Option Str}(h:∀n,okE (f n)):okE (o.bind f):=by
 cases o with
 | none=>exact okE.non
 | some a=>exact h a
theorem okE.known(ds:List ZI)(n:Str):okE (Ve ds n):=.ite (.yes (by decide +kernel)) .non
theorem okE.there(d day:Int):okE (Wm d day):=.ite (.yes (by decide +kernel)) .non
theorem okE.living(ds:List ZI)(n:Str)(day:Int):okE (JX ds n day):=.ite (.yes (by decide +kernel)) .non
theorem okE.untold(ds:List ZI)(n:Str):okE (Jw ds n):=.ite .non (.yes (by decide +kernel))
theorem okE.m(lo hi d:Int):okE (eM lo hi d):=.ite .non (.yes (by decide +kernel))
theorem okE.mom(m:Mo):okE (Yr m):=.ite .non (.yes (by decide +kernel))
theorem okE.oath(ss:List ZW)(i:Int)(n:Str):okE (Vy ss i n):=by
 unfold Vy;split
 ·exact .ite (.ite .non (.yes (by decide +kernel))) (.yes (by decide +kernel))
 ·exact .yes (by decide +kernel)
theorem okE.named(ds:List ZI)(m:Mo)(day:Int)(ps:dX)(th:Option Int)(oa:Option (Int×Str)):okE (Wy ds m day ps th oa) :=
 (okE.find (okE.known ds)).or ((okE.bind fun _=>.ite .non (.yes (by decide +kernel))).or ((okE.bind fun _=>okE.oath _ _ _).or ((okE.find fun _=>okE.there _ _).or ((okE.bind fun _=>okE.there _ _).or ((okE.bind fun _=>okE.there _ _).or (okE.find fun _=>okE.living _ _ _))))))
theorem Os(ds:List ZI)(m:Mo)(d:SD):okE (eSD ds m d):=by
 cases d with
 | come n day wt=>exact okE.or (.ite (.yes (by decide +kernel)) ((okE.m _ _ _).or ((okE.m _ _ _).or (okE.or (.ite .non (.yes (by decide +kernel))) (.ite .non (.yes (by decide +kernel))))))) (okE.mom m)
 | rise n day wt=>exact okE.or ((okE.m _ _ _).or ((okE.m _ _ _).or ((okE.known _ _).or ((okE.there _ _).or (okE.living _ _ _))))) (okE.mom m)
 | die n he day=>exact okE.or ((okE.m _ _ _).or ((okE.known _ _).or ((okE.known _ _).or ((okE.there _ _).or ((okE.there _ _).or ((okE.untold _ _).or (.ite (.yes (by decide +kernel)) .non))))))) (okE.mom m)
 | pen n=>exact(okE.known _ _).or ((okE.untold _ _).or (okE.mom m))
 | bring n day=>exact(okE.m _ _ _).or ((okE.named _ _ _ _ _ _).or (okE.or (.ite .non (.yes (by decide +kernel))) (okE.mom m)))
 | give i x y day=>exact(okE.m _ _ _).or ((okE.named _ _ _ _ _ _).or (okE.mom m))
 | pay x y many day=>exact(okE.m _ _ _).or ((okE.m _ _ _).or ((okE.named _ _ _ _ _ _).or (okE.mom m)))
theorem QP(ds:List ZI)(m:Mo)(day need:Int)(f:Str->Int)(o1 o2:dX)(d:CD):okE (eCD ds m day need f o1 o2 d):=by
 have sd:okE (Uy m need f o1 o2):=.ite (.yes (by decide +kernel)) (.ite (.yes (by decide +kernel)) ((okE.mom m).or (.ite (.yes (by decide +kernel)) (okE.or (okE.find fun _=>.ite (.yes (by decide +kernel)) .non) (.ite (.yes (by decide +kernel)) .non)))));cases d with
 | wer x y many=>exact(okE.m _ _ _).or ((okE.m _ _ _).or ((okE.m _ _ _).or ((okE.named _ _ _ _ _ _).or sd)))
 | clm x i=>exact(okE.m _ _ _).or ((okE.m _ _ _).or ((okE.named _ _ _ _ _ _).or sd))
 | acc i n=>exact(okE.m _ _ _).or ((okE.m _ _ _).or ((okE.named _ _ _ _ _ _).or (sd.or (.ite .non (.yes (by decide +kernel))))))
section
theorem Wq{α:Type _}(l:List α)(x : α):(l ++ [x]).length=l.length+1:=by rw[xE];rfl
theorem RX(h:VD m)(i:Nat):(m.haps.getD i []).length<=m.deeds.length:=by
 rw[xZ];cases e:m.haps[i]? with
 | none=>exact yL _
 | some c=>exact h.hl c (xJ e)
theorem GI(h:VD m):∀q∈m.haps.set i (m.haps.getD i [] ++ [x]),q.length<=m.deeds.length+1:=fun q hq=>by
 rcases List.mem_or_eq_of_mem_set hq with z | z
 ·exact zP (h.hl q z)
 ·rw[z,Wq];exact Nat.succ_le_succ (RX h i)
theorem bB(m:Mo)(d:SD):(m.sd d).deeds.length=m.deeds.length+1:=by cases d<;>exact Wq _ _
theorem VD.sd(h:VD m)(d:SD):VD (m.sd d):=by
 have hq:∀q∈m.haps,q.length<=m.deeds.length+1:=fun q z=>zP (h.hl q z);have ql:=zP h.ql;have dl:=bB m d;cases d with
 | bring n day =>
  refine⟨h.ok,h.dl,fun i e he=>?_,h.le,h.vl,?_,?_,dl▸ql⟩
  ·change (m.brs ++ [_])[i]? = some e at he;rcases Nat.lt_or_ge i m.brs.length with z | z
   ·rw[zQ z] at he;exact h.br i e he
   ·grind
  ·show (m.haps ++ [_]).length=(m.brs ++ [_]).length;rw[Wq,Wq,h.hb]
  ·rw[dl];intro q z;rcases xL.mp z with z | z
   ·exact hq q z
   ·cases xT.mp z;exact yL _
 | give i x y day=>exact⟨h.ok,h.dl,h.br,h.le,h.vl,(List.length_set ..).trans h.hb,dl▸GI h,dl▸ql⟩
 | pay x y many day=>exact⟨h.ok,h.dl,h.br,h.le,h.vl,h.hb,dl▸hq,dl▸(Wq m.debts _).symm▸Nat.succ_le_succ h.ql⟩
 | _=>exact⟨h.ok,h.dl,h.br,h.le,h.vl,h.hb,dl▸hq,dl▸ql⟩
theorem VD.does(h:VD m)(hl:m.trials.length < 60)(h1:YQ (Yd f o1))(h2:YQ (Yd f o2))(g0 : 1<=need)(g1:need<=12000)(d:CD):VD (m.does day need f o1 o2 d):=by
 have hq:∀q∈m.haps,q.length<=m.deeds.length+1:=fun q z=>zP (h.hl q z);have ql:=zP h.ql;have dl:(m.does day need f o1 o2 d).deeds.length=m.deeds.length+1:=by cases d<;>exact Wq _ _
 have key:∀n:Option (Int×Str),(∀t∈m.trials ++ [⟨Yd f o1,Yd f o2,need,n⟩],Uh t)/\(m.days ++ [day]).length=(m.trials ++ [(⟨Yd f o1,Yd f o2,need,n⟩:ZW)]).length/\(m.trials ++ [(⟨Yd f o1,Yd f o2,need,n⟩:ZW)]).length<=60/\(Wl [] 0 (m.trials ++ [⟨Yd f o1,Yd f o2,need,n⟩])).1.length=(m.trials ++ [(⟨Yd f o1,Yd f o2,need,n⟩:ZW)]).length:=fun n =>
  ⟨fun t ht=>(xL.mp ht).elim (h.ok t) (fun z=>by rw[xT.mp z];exact⟨h1,h2,g0,g1⟩),by rw[Wq,Wq,h.dl],by rw[Wq];exact hl,Fc ..⟩
 cases d with
 | wer x y many=>obtain⟨k1,k2,k3,k4⟩:=key none;exact⟨k1,k2,h.br,k3,k4,h.hb,dl▸hq,dl▸(Wq m.debts _).symm▸Nat.succ_le_succ h.ql⟩
 | clm x i=>obtain⟨k1,k2,k3,k4⟩:=key none;exact⟨k1,k2,h.br,k3,k4,(List.length_set ..).trans h.hb,dl▸GI h,dl▸ql⟩
 | acc i n=>obtain⟨k1,k2,k3,k4⟩:=key (some (i,n));exact⟨k1,k2,h.br,k3,k4,h.hb,dl▸hq,dl▸ql⟩
structure Wk (ns:dX) (as:List AD):Prop where
 g:T8 as
 fo:Fo (Zh as).1
 ok:VD (Zh as).2
 ln:(Zh as).1.length<=as.length
 pn:(Zh as).2.npen<=as.length
 su:∀t∈(Zh as).2.trials,(Uh t/\0 < t.ones.length)/\∀n∈(t.ones++t.others).map (·.1),n∈ns
 cl:(as.filter isC).length=(Zh as).2.trials.length
 dy:∀x∈as.filter isC,∃d day need o1 o2 f,x = .c d day need o1 o2 f/\0<=day/\day<=9999
 nn:∀n∈ns,Vb n
 nd:ns.Nodup
 n0 : 0 < ns.length
 n1:ns.length<=1000
variable{ns:dX}{as:List AD}
theorem Wk.nil(nn:∀n∈ns,Vb n)(nd:ns.Nodup)(n0 : 0 < ns.length)(n1:ns.length<=1000):Wk ns [] :=
 ⟨⟨yL _,fun i p h=>by cases h⟩,Fo.nil,⟨fun t h=>(nomatch h),rfl,fun i e h=>(nomatch h),yL _,rfl,rfl,fun q h=>(nomatch h),yL _⟩,yL _,yL _,fun t h=>(nomatch h),rfl,fun x h=>(nomatch h),nn,nd,n0,n1⟩
theorem Wk.wok(h:Wk ns as):Ex ns as (as.filter isC) (Zh as).2.trials:=by
 have:=h.g.1;have:=h.ok.le;exact⟨by lia,by lia,h.cl,fun t ht=>(h.su t ht).1,fun t ht=>(h.su t ht).2,h.dy,fun n d=>h.fo.bd n d,h.nd,h.n0,h.n1⟩
def dOk(ns:dX):SD->Prop
 | .come n day wt=>n∈ns/\okI day/\okI wt
 | .rise n day wt=>n∈ns/\okI day/\okI wt
 | .die n he day=>n∈ns/\he∈ns/\okI day
 | .pen n=>n∈ns
 | .bring n day=>n∈ns/\okI day
 | .give i x y day=>x∈ns/\y∈ns/\okI i/\0<=i/\okI day
 | .pay x y many day=>x∈ns/\y∈ns/\okI many/\okI day
theorem Wz(h : 0<=i)(h':i<=1000000):okI i:=by unfold okI;lia
theorem bI(h:DY ns nb d)(hb:nb<=1000):dOk ns d:=by
 cases d with
 | come n day wt=>exact h.elim
 | rise n day wt=>exact⟨h.1,Wz (by have:=h.2.1.1;lia) (by have:=h.2.1.2;lia),Wz (by have:=h.2.2.1;lia) (by have:=h.2.2.2;lia)⟩
 | die n he day=>exact⟨h.1,h.2.1,Wz (by have:=h.2.2.1;lia) (by have:=h.2.2.2;lia)⟩
 | pen n=>exact h
 | bring n day=>exact⟨h.1,Wz (by have:=h.2.1;lia) (by have:=h.2.2;lia)⟩
 | give i x y day=>exact⟨h.1,h.2.1,Wz h.2.2.1 (by have:=h.2.2.2.1;lia),h.2.2.1,Wz (by have:=h.2.2.2.2.1;lia) (by have:=h.2.2.2.2.2;lia)⟩
 | pay x y many day=>exact⟨h.1,h.2.1,Wz (by have:=h.2.2.1;lia) (by have:=h.2.2.2.1;lia),Wz (by have:=h.2.2.2.2.1;lia) (by have:=h.2.2.2.2.2;lia)⟩
theorem Qt(h:Vb n):okN n:=⟨by have:=h.2.2;lia,fun x hx=>by have:=h.1 x hx;lia⟩
theorem Wk.sdOk(h:Wk ns as)(hd:dOk ns d):sdOk (Zh as).1 (Zh as).2 d:=by
 have hl:∀{n:Str},n∈ns->n.length<=100:=fun hn=>by have:=(h.nn _ hn).2.2;lia
 have:=h.g.1;have:=h.ln;have:=h.pn;have:=h.ok.le;cases d with
 | come n day wt=>exact⟨by lia,Qt (h.nn n hd.1),hd.2.1,hd.2.2⟩
 | rise n day wt=>exact⟨by lia,hl hd.1,hd.2.1,hd.2.2⟩
 | die n he day=>exact⟨by lia,hl hd.1,hl hd.2.1,hd.2.2⟩
 | pen n=>exact⟨hl hd,by lia,by lia⟩
 | bring n day=>exact⟨h.ok,hl hd.1,hd.2⟩
 | give i x y day=>exact⟨h.ok,hl hd.1,hl hd.2.1,hd.2.2.1,hd.2.2.2.2⟩
 | pay x y many day=>exact⟨h.ok,hl hd.1,hl hd.2.1,hd.2.2.1,hd.2.2.2⟩
theorem QK(h:eSD ds m d=none):m.deeds.length < 400:=by
 apply J4;cases d<;>simp only[eSD,yM] at h<;>simp_all
theorem Wk.snoc(h:Wk ns as)(hd:dOk ns d)(e:eSD (Zh as).1 (Zh as).2 d=none):Wk ns (as ++ [.s d]):=by
 have hm:=QK e;rw[Es] at hm;have nn':Hx d:=by
  cases d with
  | give i x y day=>exact hd.2.2.2.1
  | _=>trivial
 have f0:(as ++ [AD.s d]).filter isC=as.filter isC:=by rw[zF];exact yD _
 have ln:=h.ln;have pn:=h.pn;have hr:=Uc as (.s d);have tr:(Zh (as ++ [.s d])).2.trials=(Zh as).2.trials:=by rw[hr];cases d<;>rfl
 refine⟨h.g.snoc hm ⟨h.sdOk hd,e,nn'⟩,?_,by rw[hr];exact h.ok.sd d,?_,?_,by rw[tr];exact h.su,by rw[f0,tr];exact h.cl,by rw[f0];exact h.dy,h.nn,h.nd,h.n0,h.n1⟩
 ·rw[JP];cases d with
  | come n day wt =>
   have e:((Ui (Zh as).1 n day wt).or (Yr (Zh as).2))=none:=e;obtain⟨_,⟨y0,y1⟩,⟨w0,w1⟩,hc,_⟩:=DS (yM.mp e).1;exact h.fo.come hc y0 y1 w0 w1
  | rise n day wt =>
   have e:((JO (Zh as).1 n day wt).or (Yr (Zh as).2))=none:=e;obtain⟨⟨y0,_⟩,⟨w0,w1⟩,⟨d2,hc,_⟩,_⟩:=GA (yM.mp e).1;exact h.fo.rise hc y0 w0 w1
  | die n he day=>exact h.fo.die
  | _=>exact h.fo
 ·rw[JP,Wq];cases d<;>simp only[fdS,sdF,xE,zG]<;>lia
 ·rw[hr,Wq];cases d with
  | pen n=>show (Zh as).2.npen+1<=_;lia
  | _=>show (Zh as).2.npen<=_;lia
theorem Pw(h:eCD ds m day need f o1 o2 d=none):(0<=day/\day<=9999)/\(1<=need/\need<=12000)/\(∀n∈o1++o2,∃dd,Zl ds n=some dd/\dd<=day)/\m.trials.length < 60/\m.deeds.length < 400:=by
 cases d with
 | wer x y many =>
  simp only[eCD,C5,yM] at h;obtain⟨_,h1,h2,h3,h4⟩:=h;exact⟨Vj h1,Vj h2,fun n hn=>(A1 h3).1 n (by rw[yV];exact xF _ hn),J7 h4⟩
 | clm x i =>
  simp only[eCD,CU,yM] at h;obtain⟨h1,h2,h3,h4⟩:=h;exact⟨Vj h1,Vj h2,fun n hn=>(A1 h3).1 n (by rw[yV];exact xF _ hn),J7 h4⟩
 | acc i n =>
  simp only[eCD,Cz,yM] at h;obtain⟨h1,h2,h3,h4,_⟩:=h;exact⟨Vj h1,Vj h2,(A1 h3).1,J7 h4⟩
def cOk(ns:dX):CD->Prop
 | .wer x y many=>x∈ns/\y∈ns/\okI many
 | .clm x i=>x∈ns/\okI i/\0<=i
 | .acc i n=>n∈ns/\okI i
theorem Of(h:CL ns nb nc day dy d)(h1:nb<=1000)(h2:nc<=1000):cOk ns d:=by
 cases d with
 | wer x y many=>exact⟨h.1,h.2.1,Wz (by have:=h.2.2.1;lia) h.2.2.2.1⟩
 | clm x i=>exact⟨h.1,Wz h.2.1 (by have:=h.2.2.1;lia),h.2.1⟩
 | acc i n=>exact⟨h.1,Wz h.2.1 (by have:=h.2.2.1;lia)⟩
theorem MG(h:CL ns nb nc day dy d)(h1:JR day) : 0<=dy/\dy<=9999:=by
 have:=h1.1;have:=h1.2;cases d with
 | wer x y many=>have:=h.2.2.2.2;lia
 | clm x i=>have:=h.2.2.2;lia
 | acc i n=>have:=h.2.2.2;lia
abbrev wf(as:List AD)(day:Int):Str->Int:=fun n=>wg (Zh as).1 n day
theorem Wk.cs(h:Wk ns as){day:Int}{o1 o2:dX}(hn:∀n∈o1++o2,n∈ns):∀n∈o1++o2,n.length<=100/\∀d,Zl (Zh as).1 n=some d->d<=day->JY (kw (Zh as).1 n) day (wf as day n)/\1<=wf as day n/\wf as day n<=1000 :=
 fun n hm=>⟨by have:=(h.nn n (hn n hm)).2.2;lia,fun d hc hd=>h.fo.isW hc hd⟩
theorem Wk.cdOk(h:Wk ns as)(hd:cOk ns d):cdOk d:=by
 have hl:∀{n:Str},n∈ns->n.length<=100:=fun hn=>by have:=(h.nn _ hn).2.2;lia
 cases d with
 | wer x y many=>exact⟨hl hd.1,hl hd.2.1,hd.2.2⟩
 | clm x i=>exact⟨hl hd.1,hd.2.1⟩
 | acc i n=>exact⟨hl hd.1,hd.2⟩
theorem Wk.snocC(h:Wk ns as)(hd:cOk ns d)(hn:∀n∈o1++o2,n∈ns)(h0 : 0 < o1.length)(h1:o1.length<=60)(h2:o2.length<=60)(e:eCD (Zh as).1 (Zh as).2 day need (wf as day) o1 o2 d=none):Wk ns (as ++ [.c d day need o1 o2 (wf as day)]):=by
 obtain⟨⟨y0,y1⟩,⟨g0,g1⟩,hc,h60,hm⟩:=Pw e;rw[Es] at hm;have nn':GW d:=by
  cases d with
  | clm x i=>exact hd.2.2
  | _=>trivial
 have lt:∀{o:dX},(∀n∈o,n∈o1++o2)->o.length<=60->YQ (Yd (wf as day) o):=fun hs hl=>⟨fun p hp=>by
  obtain⟨n,hn',rfl⟩:=yY.mp hp;obtain⟨dd,e1,e2⟩:=hc n (hs n hn')
  exact(h.fo.isW e1 e2).2,by rw[xA];exact hl⟩
 have L1:YQ (Yd (wf as day) o1):=lt (fun n hn'=>yP _ hn') h1;have L2:YQ (Yd (wf as day) o2):=lt (fun n hn'=>xF _ hn') h2;have f0:(as ++ [AD.c d day need o1 o2 (wf as day)]).filter isC=as.filter isC ++ [.c d day need o1 o2 (wf as day)]:=by rw[zF];rfl
 have ln:=h.ln;have pn:=h.pn;have hr:=Uc as (.c d day need o1 o2 (wf as day));have tr:(Zh (as ++ [.c d day need o1 o2 (wf as day)])).2.trials=(Zh as).2.trials ++ [⟨Yd (wf as day) o1,Yd (wf as day) o2,need,CC d⟩]:=by rw[hr];cases d<;>rfl
 refine⟨h.g.snoc hm ⟨h.cdOk hd,h.ok,by have:=h.g.1;lia,h1,h2,Wz y0 (by lia),Wz (by lia) (by lia),h.cs hn,e,nn'⟩,by rw[JP];exact h.fo,by rw[hr];exact h.ok.does h60 L1 L2 g0 g1 d,by rw[JP,Wq];show (Zh as).1.length<=_;lia,?_,fun t ht=>?_,by rw[f0,tr,Wq,Wq,h.cl],fun x hx=>?_,h.nn,h.nd,h.n0,h.n1⟩
 ·rw[hr,Wq];cases d<;>(show (Zh as).2.npen<=_;lia)
 ·rw[tr] at ht;rcases xL.mp ht with z | z
  ·exact h.su t z
  ·rw[xT.mp z];refine⟨⟨⟨L1,L2,g0,g1⟩,by show 0 < (o1.map _).length;rw[xA];exact h0⟩,fun n hn'=>?_⟩;rw[← xO,List.map_map] at hn';obtain⟨y,hy,rfl⟩:=yY.mp hn';exact hn _ hy
 ·rw[f0] at hx;rcases xL.mp hx with z | z
  ·exact h.dy x z
  ·rw[xT.mp z];exact⟨_,_,_,_,_,_,rfl,y0,y1⟩
end
section
variable{w:eI}{C CM:eF}{c:dZ}
theorem ZC.ntup(h:ZC C CM H M ds wa xs m qs)(e:H b=some (.tup t)):¬mo M ds wa xs qs b:=fun hb=>by
 rcases hb with z | z | z | z | z
 ·obtain⟨dx,ob⟩:=h.ob;rw[z,ob] at e;cases e
 ·obtain⟨k,p1,_⟩:=h.pn;rw[z,p1] at e;cases e
 ·obtain⟨ys,y⟩:=h.lst z;rw[e] at y;cases y
 ·obtain⟨ys,y⟩:=h.xl b z;rw[e] at y;cases y
 ·obtain⟨o,e',_,n2⟩:=h.fk.there z;rw[e] at e';cases e';exact n2 t rfl
theorem YD.ntup(h:YD C CM H p ds m O)(e:H b=some (.tup t)):¬O b:=by
 obtain⟨M,wa,xs,qs,_,W,rfl⟩:=h;exact W.ntup e
theorem YD.keep(h:YD C CM H p ds m O)(k:∀b o,O b->H b=some o->H' b=some o)(kt:Ug H H'):YD C CM H' p ds m O:=by
 obtain⟨M,wa,xs,qs,e,W,rfl⟩:=h;exact⟨M,wa,xs,qs,e,W.keep k kt,rfl⟩
structure Ww (C CM p s la nl:eF) (W:WL) (ns:dX) (H:Hp) (fx:eA) (st:Jp) (as:List AD) (O:eF->Prop):Prop where
 w:YD C CM H p st.1 st.2 O
 sr:ZJ H s la
 wd:ZX s H fx W as (as.filter isC) (Zh as).2.trials
 nm:H nl=some (.lst (ns.map V.str))
 o:∀b∈s::la::nl::W.wl::W.dl::W.sl::W.tl::fx,¬O b/\∃v,H b=some (.lst v)
 nn:nl ∉ [s,W.dl,W.sl,W.tl]
 nl:la ∉ [s,W.dl,W.sl,W.tl]
variable{p s la nl:eF}{W:WL}{ns:dX}{H H':Hp}{fx gx:eA}{st st':Jp}{as:List AD}{O O':eF->Prop}
theorem Ww.step(h:Ww C CM p s la nl W ns H fx st as O)(k:YD C CM H' p st'.1 st'.2 O')(f:YL O H O' H'):Ww C CM p s la nl W ns H' fx st' as O':=by
 have no:∀{b:eF}{o:HO},H b=some o->¬O b->¬O' b:=fun e n z=>(f.2 _ z).elim n (fun y=>by rw[e] at y;cases y);obtain⟨ks,i,big,st,cnt,a,b,c,d⟩:=id h.sr;have oo:=h.o;refine⟨k,⟨ks,i,big,st,cnt,f.1 _ _ a (oo s (by simp)).1,f.1 _ _ b (oo la (by simp)).1,c,d⟩,h.wd.keep (fun b u e=>f.1 _ _ e (h.w.ntup e)) (fun b hb o e=>f.1 _ _ e (oo b (xN _ (xN _ (xN _ hb)))).1),f.1 _ _ h.nm (oo nl (by simp)).1,fun x hx=>?_,h.nn,h.nl⟩;obtain⟨n,v,e⟩:=oo x hx;exact⟨no e n,v,f.1 _ _ e n⟩
theorem Ww.x(h:Ww C CM p s la nl W ns H fx st as O)(hs:ZJ H' s la)(k:ZF s H H'):Ww C CM p s la nl W ns H' fx st as O:=by
 obtain⟨_,_,_,_,_,a,_⟩:=id h.sr;have n1:nl≠s:=fun z=>h.nn (by rw[z];simp);refine⟨h.w.x a (h.o s (by simp)).1 k,hs,h.wd.x h.sr k,k _ _ n1 h.nm,fun x hx=>?_,h.nn,h.nl⟩;obtain⟨n,v,e⟩:=h.o x hx
 by_cases z:x=s
 ·obtain⟨_,_,_,_,_,y,_⟩:=hs;rw[z];exact⟨z▸n,_,y⟩
 ·exact⟨n,v,k _ _ z e⟩
theorem Ww.same(h:Ww C CM p s la nl W ns H fx st as O)(k:ZA H H'):Ww C CM p s la nl W ns H' fx st as O:=h.step (h.w.same k) (YL.same k)
theorem Ww.more(h:Ww C CM p s la nl W ns H fx st as O)(hg:∀b∈gx,(¬O b/\∃v,H b=some (.lst v))/\b ∉ [s,W.dl,W.sl,W.tl]):Ww C CM p s la nl W ns H (gx++fx) st as O :=
 ⟨h.w,h.sr,h.wd.more (fun b hb z=>(hg b hb).2 (by rw[z];simp)) (fun b hb z=>(hg b hb).2 (xN _ z)),h.nm,fun b hb=>by
  have hb:b∈gx\/b∈s::la::nl::W.wl::W.dl::W.sl::W.tl::fx:=by
   simp only[xC,xL] at hb ⊢
   grind
  rcases hb with z | z
  ·exact(hg b z).1
  ·exact h.o b z,h.nn,h.nl⟩
theorem Ww.new(h:Ww C CM p s la nl W ns H fx st as O){b:eF}(e:H b=none):b ∉ [s,W.dl,W.sl,W.tl]:=fun z=>by
 have:b∈s::la::nl::W.wl::W.dl::W.sl::W.tl::fx:=by
  simp only[xC,xS,or_false] at z ⊢
  grind
 obtain⟨_,v,y⟩:=h.o b this;rw[e] at y;cases y
theorem Ww.tryS(U:Ww C CM p s la nl W ns H fx (Zh as) as O)(k:Wk ns as){q:eF}{d:SD}(hq:H q=some (.tup (sdV d)))(hd:dOk ns d){Q:V->Hp->Prop}{E:XK}(g:∀ (l:eF) (tv:List V) (H':Hp) (O':eF->Prop),H' l=some (.lst tv)->YL O H O' H'->(tv = []/\eSD (Zh as).1 (Zh as).2 d≠none/\Ww C CM p s la nl W ns H' fx (Zh as) as O')\/(tv = [sdR (Zh as).2 d]/\eSD (Zh as).1 (Zh as).2 d=none/\Ww C CM p s la nl W ns H' fx (Zh (as ++ [.s d])) as O')->Q (.ref l) H') :
  (Sp.or (WT C CM) (WN C CM)) [.ref p,.ref q] H Q E:=by
 refine .inl ⟨p,_,_,O,q,d,rfl,U.w,hq,k.sdOk hd,Os _ _ _,fun O' l H' W' F' _ kl=>?_⟩;cases e:eSD (Zh as).1 (Zh as).2 d with
 | none =>
  rw[e] at W' kl;exact g l _ H' O' kl F' (.inr ⟨rfl,e,by rw[Uc];exact U.step W' F'⟩)
 | some x =>
  rw[e] at W' kl;exact g l _ H' O' kl F' (.inl ⟨rfl,(fun z=>by rw[e] at z;cases z),U.step W' F'⟩)
theorem Ww.tryC(U:Ww C CM p s la nl W ns H fx (Zh as) as O)(k:Wk ns as){q l1 l2:eF}{d:CD}{day need:Int}{o1 o2:dX}(hq:H q=some (.tup (cdV day need l1 l2 d)))(h1:H l1=some (.lst (o1.map V.str)))(h2:H l2=some (.lst (o2.map V.str)))(hd:cOk ns d)(hn:∀n∈o1++o2,n∈ns)(n1:o1.length<=60)(n2:o2.length<=60)(di:okI day)(ni:okI need){Q:V->Hp->Prop}{E:XK}(g:∀ (l:eF) (tv:List V) (H':Hp) (O':eF->Prop),H' l=some (.lst tv)->YL O H O' H'->(tv = []/\eCD (Zh as).1 (Zh as).2 day need (wf as day) o1 o2 d≠none/\Ww C CM p s la nl W ns H' fx (Zh as) as O')\/(tv = [.int (Zh as).2.trials.length]/\eCD (Zh as).1 (Zh as).2 day need (wf as day) o1 o2 d=none/\Ww C CM p s la nl W ns H' fx (Zh (as ++ [.c d day need o1 o2 (wf as day)])) as O')->Q (.ref l) H') :
  (Sp.or (WT C CM) (WN C CM)) [.ref p,.ref q] H Q E:=by
 refine .inr ⟨p,_,_,O,q,d,day,need,l1,l2,o1,o2,wf as day,rfl,U.w,hq,⟨k.ok,by have:=k.ln;have:=k.g.1;lia,h1,h2,n1,n2,di,ni,k.cs hn⟩,k.cdOk hd,QP _ _ _ _ _ _ _ _,fun O' l H' W' F' _ kl=>?_⟩;cases e:eCD (Zh as).1 (Zh as).2 day need (wf as day) o1 o2 d with
 | none =>
  rw[e] at W' kl;exact g l _ H' O' kl F' (.inr ⟨rfl,e,by rw[Uc];exact U.step W' F'⟩)
 | some x =>
  rw[e] at W' kl;exact g l _ H' O' kl F' (.inl ⟨rfl,(fun z=>by rw[e] at z;cases z),U.step W' F'⟩)
theorem Ww.keep{x:AD}{v:V}(U:Ww C CM p s la nl W ns H fx (Zh (as ++ [x])) as O)(k:Wk ns as)(kx:kss as (Zh as).2.trials x=(Zh (as ++ [x])).2.trials)(re:YA (fz fx H) (adT x) v)(hx:∀d day need o1 o2 f,x = .c d day need o1 o2 f->o1.length<=60/\o2.length<=60){Q:V->Hp->Prop}{E:XK}(g:∀ (fx':eA) (H':Hp),Ww C CM p s la nl W ns H' fx' (Zh (as ++ [x])) (as ++ [x]) O->(∀b o,b ∉ [W.dl,W.sl,W.tl]->H b=some o->H' b=some o)->(∀b∈fx',b∈fx\/H b=none)->Q .non H'):VT [.ref W.wl,v] H Q E:=by
 have hal:=k.g.1;have hsl:=k.ok.le;obtain⟨_,_,_,_,_,hs,_⟩:=id U.sr;refine⟨v,s,W,fx,as,as.filter isC,(Zh as).2.trials,x,rfl,U.wd,re,by lia,xX (yO _ _) (by lia),by lia,hx,⟨_,hs⟩,fun fx' H' W' f' n'=>?_⟩;have ef:as.filter isC++(if isC x then [x] else [])=(as ++ [x]).filter isC:=by grind
 rw[ef,kx] at W';have sn:s ∉ [W.dl,W.sl,W.tl]:=fun z=>by
  have:=U.wd.ne;simp only[xC,xS,or_false] at z;rcases z with z | z | z
  ·exact this W.dl (by simp) z.symm
  ·exact this W.sl (by simp) z.symm
  ·exact this W.tl (by simp) z.symm
 have oO:∀b,O b->b ∉ [W.dl,W.sl,W.tl]:=fun b hb z=>(U.o b (by simp only[xC,xS,or_false] at z ⊢;grind)).1 hb
 have kt:Ug H H':=fun b u e=>f' _ _ (fun z=>by
  obtain⟨_,v',y⟩:=U.o b (by simp only[xC,xS,or_false] at z ⊢;grind)
  rw[e] at y;cases y) e
 have ln:la ∉ [W.dl,W.sl,W.tl]:=fun z=>U.nl (xN _ z);obtain⟨ks,i,big,st,cnt,a,b,c',d'⟩:=id U.sr;refine g fx' H' ⟨U.w.keep (fun b o hb e=>f' _ _ (oO b hb) e) kt,⟨ks,i,big,st,cnt,f' _ _ sn a,f' _ _ ln b,c',d'⟩,W',f' _ _ (fun z=>U.nn (xN _ z)) U.nm,fun y hy=>?_,U.nn,U.nl⟩ f' (fun b hb=>(n' b hb).imp id fun z=>z.1);have old:∀y∈s::la::nl::W.wl::W.dl::W.sl::W.tl::fx,¬O y/\∃v,H' y=some (.lst v):=fun y hy=>by
  obtain⟨no,v',e⟩:=U.o y hy;refine⟨no,?_⟩
  by_cases z:y ∈ [W.dl,W.sl,W.tl]
  ·obtain⟨u1,e1,_⟩:=W'.d;obtain⟨u2,e2,_⟩:=W'.u;obtain⟨u3,e3,_⟩:=W'.t;simp only[xC,xS,or_false] at z;rcases z with rfl | rfl | rfl
   ·exact⟨_,e1⟩
   ·exact⟨_,e2⟩
   ·exact⟨_,e3⟩
  ·exact⟨v',f' _ _ z e⟩
 have hy:y∈s::la::nl::W.wl::W.dl::W.sl::W.tl::fx\/y∈fx':=by
  simp only[xC] at hy ⊢
  grind
 rcases hy with z | z
 ·exact old y z
 ·rcases n' y z with z | ⟨e,vs,e'⟩
  ·exact old y (by simp[z])
  ·exact⟨U.w.out e,vs,e'⟩
end
section
variable{C CM:eF}
variable{p s la nl:eF}{W:WL}{ns:dX}{H H':Hp}{fx:eA}{as:List AD}{O O':eF->Prop}
theorem Ww.put(h:Ww C CM p s la nl W ns H fx st as O)(e:H r=some (.lst vs))(n1:¬O r)(n2:r∉s::la::nl::W.wl::W.dl::W.sl::W.tl::fx):Ww C CM p s la nl W ns (upd H r (.lst us)) fx st as O:=by
 have kx:ZF r H (upd H r (.lst us)):=ZF.upd;have ne:∀b∈s::la::nl::W.wl::W.dl::W.sl::W.tl::fx,b≠r:=fun b hb z=>n2 (z▸hb);refine⟨h.w.x e n1 kx,h.sr.keepX kx (ne s (by simp)).symm (ne la (by simp)).symm,h.wd.keep (fun b u y=>kx _ _ (fun z=>by rw[z,e] at y;cases y) y) (fun b hb o y=>kx _ _ (ne b (xN _ (xN _ (xN _ hb)))) y),kx _ _ (ne nl (by simp)) h.nm,fun b hb=>?_,h.nn,h.nl⟩;obtain⟨a,v,y⟩:=h.o b hb;exact⟨a,v,kx _ _ (ne b hb) y⟩
theorem Ww.fresh(h:Ww C CM p s la nl W ns H fx st as O)(e:H r=none):¬O r/\r∉s::la::nl::W.wl::W.dl::W.sl::W.tl::fx:=⟨h.w.out e,fun z=>by
 obtain⟨_,v,y⟩:=h.o r z
 rw[e] at y;cases y⟩
abbrev Uz(ds:List SD):List D:=ds.map fun d=>adT (.s d)
theorem Rw.x(h:WB H [] r (Uz ds))(hs:ZJ H s la)(k:ZF s H H')(n:r≠s):WB H' [] r (Uz ds):=by
 obtain⟨_,_,_,_,_,a,_⟩:=hs;exact h.mono (fun o e=>k _ _ n e) (Wv (fun b u e=>k _ _ (fun z=>by rw[z,a] at e;cases e) e) (fun x hx=>by cases hx) fun _ z=>z)
theorem Rw.same(h:WB H [] r (Uz ds))(k:ZA H H'):WB H' [] r (Uz ds):=h.mono (fun o e=>k _ _ e) (Wv (fun _ _ e=>k _ _ e) (fun x hx=>by cases hx) fun _ z=>z)
theorem Rw.add{r q:eF}(h:WB H [] r (Uz ds))(e:H r=some (.lst us))(hq:H q=some (.tup (sdV d))):WB (upd H r (.lst (us ++ [.ref q]))) [] r (Uz (ds ++ [d])):=by
 have kx:ZF r H (upd H r (.lst (us ++ [.ref q]))):=ZF.upd;have f:ZA (fz [] H) (fz [] (upd H r (.lst (us ++ [.ref q])))):=Wv (fun b u y=>kx _ _ (fun z=>by rw[z,e] at y;cases y) y) (fun x hx=>by cases hx) fun _ z=>z;show WB _ [] r ((ds ++ [d]).map _);rw[xO];exact h.snoc e f ⟨q,_,rfl,Yz hq,Bd _ d⟩
def IS(ns:dX):SD->Prop
 | .come n day wt=>n∈ns/\0<=day/\day<=3/\1<=wt/\wt<=1000
 | .bring n day=>n∈ns/\3<=day/\day<=5
 | _=>False
structure As (ns:dX) (k:Nat) (ds:List ZI):Prop where
 cm:Wi ds=ns.take k
 com:∀n,n∈ns.take k->∃d,Zl ds n=some d/\0<=d/\d<=3
 no:∀n,n∉ns.take k->Zl ds n=none
def cmN:SD->List Str
 | .come n _ _=>[n]
 | _=>[]
theorem LL{ns:dX}{ds:List SD}{i:Nat}{d:SD}(h:ds.flatMap cmN=ns)(hd:ds[i]? = some d):∃B,ns=(ds.take i).flatMap cmN++(cmN d++B):=by
 have hi:=(xH.mp hd).1;have e:ds=ds.take i++d::ds.drop (i+1):=by
  have:=(xH.mp hd).2;rw[← this,← zR hi,zB]
 exact⟨(ds.drop (i+1)).flatMap cmN,by rw[← h];conv=>lhs;rw[e,List.flatMap_append,List.flatMap_cons]⟩
theorem As.come(h:As ns k ds)(hn:ns[k]? = some n)(hd:ns.Nodup)(d0 : 0<=day)(d1:day<=3):n∉ns.take k/\As ns (k+1) (ds ++ [.come n day wt]):=by
 have et:ns.take (k+1)=ns.take k ++ [n]:=by rw[xV,hn];rfl
 have ni:n∉ns.take k:=fun z=>by
  have:=hd.sublist (List.take_sublist (k+1) ns);rw[et] at this;exact(List.nodup_append.mp this).2.2 n z n (by simp) rfl
 have hc:=h.no n ni;refine⟨ni,by rw[AS,h.cm,et];rfl,fun m hm=>?_,fun m hm=>?_⟩
 ·rw[CF hc]
  by_cases z:m=n
  ·rw[if_pos z];exact⟨day,rfl,d0,d1⟩
  ·rw[if_neg z];rw[et] at hm;exact h.com m ((xL.mp hm).elim id fun y=>absurd (xT.mp y) z)
 ·rw[et] at hm;rw[CF hc,if_neg (fun z=>hm (by rw[z];simp))];exact h.no m fun z=>hm (yP _ z)
inductive Tb(C CM:eF)(vs:List V)(H:Hp)(Q:VK)(z3:XK):Prop
 |mk(p s la nl:eF) (W:WL) (ns:dX) (fx:eA) (O:eF->Prop)(_:vs = [.ref s,.ref p,.ref W.wl,.ref nl])(_:Ww C CM p s la nl W ns H fx (Zh []) [] O)(_:Wk ns [])(_:ns.length<=40)(_:∀(fx':eA)(as:List AD)(O':eF->Prop)(H':Hp),Ww C CM p s la nl W ns H' fx' (Zh as) as O'->Wk ns as->As ns ns.length (Zh as).1->as.length<=ns.length+2->Q .non H')
abbrev IJ:Stmt:=top 76
theorem Qf(Zir:YC K mg "_law_start" IJ)(T:Txt mg)(Z6:Fn P w K mg base "_law_next" ["_law_src_here","_law_base"] 1 YE)(Zis:Fn P w K mg base "_law_try" ["_law_moot","_law_deed_here"] 9 (Sp.or (WT C CM) (WN C CM)))(Zit:Fn P w K mg base "_law_keep" ["_law_world","_law_deed_here"] 2 VT):Fn P w K mg base "_law_start" ["_law_src_here","_law_moot","_law_world","_law_names_here"] 10 (Tb C CM):=by
 refine Zir.fq ["_law_src_here","_law_moot","_law_world","_law_names_here","_law_rows","_law_name","_law_k","_law_deed_here"] fun H vs Q E hr h=>?_;obtain⟨p,s,la,nl,W,ns,fx,O,rfl,U,hk,h40,k⟩:=h;refine⟨rfl,_,(Zc (Zz 4 (Yl Zb)) (Zc (Ws PassesOwn.never rfl (Wb Q3) (Yt 5) (Zf (Zk (Y0 F.plainAttrs_list F.slot_list_append F.type_list_append Y9 Q4 (Za (Z9 (Za Z7 (Za Q5 (Za (Zj Z6 (Za Q0 (Za Zd Zb))) (Za (Z2 Wc Zd (Zj Z6 (Za Q0 (Za (Zi Yb (Yl (Za Zd (Za Zd (Za Zd Zb)))) (Zj Z6 (Za Q0 (Za Zd Zb))) (fun _ _=>rfl)) Zb)))) Zb))))) Zb))))) (Zc (Ws PassesOwn.never rfl (Au T.range (Za (Z2 Wc Zd (Zj Z6 (Za Q0 (Za Zd Zb)))) Zb)) (Yt 6) (Zf (Zk (Y0 F.plainAttrs_list F.slot_list_append F.type_list_append Y9 Q4 (Za (Z9 (Za Z7 (Za (Zi Yb Q3 (Zj Z6 (Za Q0 (Za (Z3 Yv T.len Yk (Za Q3 Zb)) Zb))) (fun _ _=>rfl)) (Za (Z2 Wc Zd (Zj Z6 (Za Q0 (Za Zd Zb)))) Zb)))) Zb))))) (Zf (Ws PassesOwn.never rfl (Wb Q4) (Yt 7) (Zf (Zo (Zr Am (Z3 Yv T.len Yk (Za (Zj Zis (Za Q1 (Za Q7 Zb))) Zb)) Zd (Zu _)) (Zf (Zk (Zj Zit (Za Q2 (Za Q7 Zb))))) Zn))))))),?_⟩;have hz:(5000:Nat)<=sizeLine:=by decide
 have n0:=hk.n0;have nls:nl≠s:=fun z=>U.nn (by rw[z];simp);refine⟨by show 0<=sizeLine;decide,fun rl hrl=>?_⟩;obtain⟨nr,nr2⟩:=U.fresh hrl;have U1:=U.same (ZA.new (o:=.lst []) hrl);have k1:WB (upd H rl (.lst [])) [] rl (Uz []):=⟨[],Zg,rfl⟩;generalize (upd H rl (.lst []))=H1 at U1 k1 ⊢;have rs:rl≠s:=fun z=>nr2 (by rw[z];simp);refine Yc ?_
 try dsimp only [Yu]
 refine⟨_,rfl,nl,rfl,⟨_,ZE.of U1.nm⟩,?_⟩;refine V0 (ns.map V.str) (fun i σ H'=>∃(v5:Option V)(ds:List SD),σ = [some (.ref s),some (.ref p),some (.ref W.wl),some (.ref nl),some (.ref rl),v5,none,none]/\Ww C CM p s la nl W ns H' fx (Zh []) [] O/\WB H' [] rl (Uz ds)/\(∀d∈ds,IS ns d)/\ds.flatMap cmN=ns.take i/\ds.length=i) ⟨none,[],rfl,U1,k1,(fun d h=>nomatch h),rfl,rfl⟩ (fun i σ H' _ ⟨_,_,_,U,_⟩=>ZE.of U.nm) ?_ ?_
 ·rintro i v σ H2 hv ⟨v5,ds,rfl,U2,r2,hds,hfm,hdl⟩;rw[xI] at hv;obtain⟨n,hn,rfl⟩:=xR.mp hv;have hnm:=xJ hn;obtain⟨us,hu,hur⟩:=id r2;have hul:=hur.length;rw[xA] at hul;have hil:=(xH.mp hn).1;refine⟨_,rfl,.inl ⟨rfl,_,ZE.of hu⟩,_,rfl,_,rfl,s,la,4,rfl,U2.sr,by decide,by decide,fun d1 H3 d10 d11 hs3 sx3=>?_⟩;have U3:=U2.x hs3 sx3;have r3:=Rw.x r2 U2.sr sx3 rs;refine⟨_,rfl,by show 3<=sizeLine;lia,fun a2 ha2=>?_⟩;have T2:=ZA.new (o:=.lst [.int 9,.int 30,.int 1000]) ha2;have k2:(upd H3 a2 (.lst [.int 9,.int 30,.int 1000])) a2=some (.lst [.int 9,.int 30,.int 1000]):=Zg;have na2:a2≠s:=(hs3.ne ha2).1;generalize (upd H3 a2 (.lst [.int 9,.int 30,.int 1000]))=H4 at T2 k2 ⊢;have U4:=U3.same T2;have r4:=Rw.same r3 T2;refine⟨_,rfl,s,la,3,rfl,U4.sr,by decide,by decide,fun z2 H5 z20 z21 hs5 sx5=>?_⟩;have U5:=U4.x hs5 sx5;have r5:=Rw.x r4 U4.sr sx5 rs;obtain⟨b,hb,hb2⟩:∃b:Int,atI [V.int 9,V.int 30,V.int 1000] z2=some (.int b)/\0 < b/\b<=1000:=by
   rcases(show z2=0\/z2=1\/z2=2 by lia) with rfl | rfl | rfl
   ·exact⟨9,rfl,by decide,by decide⟩
   ·exact⟨30,rfl,by decide,by decide⟩
   ·exact⟨1000,rfl,by decide,by decide⟩
  refine⟨a2,_,_,.int b,rfl,rfl,ZE.of (sx5 _ _ na2 k2),hb,s,la,b,rfl,U5.sr,by lia,by lia,fun m H6 m0 m1 hs6 sx6=>?_⟩;have U6:=U5.x hs6 sx6;have r6:=Rw.x r5 U5.sr sx6 rs;refine⟨_,_,rfl,rfl,by show 4<=sizeLine;lia,fun q hq=>?_⟩;have T7:=ZA.new (o:=.tup [.str "come", .str n,.int d1,.int (1+m)]) hq;have k7:(upd H6 q (.tup [.str "come", .str n,.int d1,.int (1+m)])) q=some (.tup (sdV (.come n d1 (1+m)))):=Zg;generalize (upd H6 q (.tup [.str "come", .str n,.int d1,.int (1+m)]))=H7 at T7 k7 ⊢;have U7:=U6.same T7;have r7:=Rw.same r6 T7;obtain⟨us7,hu7,hur7⟩:=id r7;have hul7:=hur7.length;rw[xA] at hul7;refine⟨rl,us7,.ref q,rfl,rfl,hu7,by lia,?_⟩;refine⟨_,ds ++ [.come n d1 (1+m)],rfl,U7.put hu7 nr nr2,Rw.add r7 hu7 k7,fun d hd=>?_,?_,by rw[Wq,hdl]⟩
  ·rcases xL.mp hd with z | z
   ·exact hds d z
   ·rw[xT.mp z];exact⟨hnm,d10,by lia,by lia,by lia⟩
  ·rw[List.flatMap_append,hfm,xV,hn];rfl
 rintro σ H2 ⟨v5,ds,rfl,U2,r2,hds,hfm,hdl⟩;rw[xA] at hfm hdl;rw[yC] at hfm;refine⟨_,rfl,s,la,2,rfl,U2.sr,by decide,by decide,fun d1 H3 d10 d11 hs3 sx3=>?_⟩;have U3:=U2.x hs3 sx3;have r3:=Rw.x r2 U2.sr sx3 rs;refine⟨_,_,rfl,rfl,_,rfl,by lia,by lia,?_⟩;refine Bb (1+d1).toNat (by lia) (fun i σ H'=>∃(v6:Option V)(ds:List SD),σ = [some (.ref s),some (.ref p),some (.ref W.wl),some (.ref nl),some (.ref rl),v5,v6,none]/\Ww C CM p s la nl W ns H' fx (Zh []) [] O/\WB H' [] rl (Uz ds)/\(∀d∈ds,IS ns d)/\ds.flatMap cmN=ns/\ds.length=ns.length+i) ⟨none,ds,rfl,U3,r3,hds,hfm,by lia⟩ ?_ ?_
 ·rintro i σ H4 hi ⟨v6,ds,rfl,U4,r4,hds,hfm,hdl⟩;obtain⟨us,hu,hur⟩:=id r4;refine⟨_,rfl,.inl ⟨rfl,_,ZE.of hu⟩,_,rfl,_,rfl,_,rfl,nl,_,rfl,.inl (ZE.of U4.nm),s,la,_,rfl,U4.sr,by rw[xA];lia,by rw[xA];lia,fun j H5 j0 j1 hs5 sx5=>?_⟩;rw[xA] at j1;have U5:=U4.x hs5 sx5;have r5:=Rw.x r4 U4.sr sx5 rs;obtain⟨j,rfl⟩:=yK j0;have hj:j < ns.length:=by lia
  refine⟨nl,_,_,.str ns[j],rfl,rfl,ZE.of U5.nm,Y8 (by rw[xI,xB hj];rfl),?_⟩;have hnm:ns[j]∈ns:=zE hj;generalize ns[j]=n at hnm;refine⟨_,rfl,s,la,3,rfl,U5.sr,by decide,by decide,fun z H6 z0 z1 hs6 sx6=>?_⟩;have U6:=U5.x hs6 sx6;have r6:=Rw.x r5 U5.sr sx6 rs;refine⟨_,_,rfl,rfl,by show 3<=sizeLine;lia,fun q hq=>?_⟩;have T7:=ZA.new (o:=.tup [.str "bring", .str n,.int (3+z)]) hq;have k7:(upd H6 q (.tup [.str "bring", .str n,.int (3+z)])) q=some (.tup (sdV (.bring n (3+z)))):=Zg;generalize (upd H6 q (.tup [.str "bring", .str n,.int (3+z)]))=H7 at T7 k7 ⊢;have U7:=U6.same T7;have r7:=Rw.same r6 T7;obtain⟨us7,hu7,hur7⟩:=id r7;have hul7:=hur7.length;rw[xA] at hul7;refine⟨rl,us7,.ref q,rfl,rfl,hu7,by lia,?_⟩;refine⟨_,ds ++ [.bring n (3+z)],rfl,U7.put hu7 nr nr2,Rw.add r7 hu7 k7,fun d hd=>?_,?_,by rw[Wq,hdl];lia⟩
  ·rcases xL.mp hd with y | y
   ·exact hds d y
   ·rw[xT.mp y];exact⟨hnm,by lia,by lia⟩
  ·rw[List.flatMap_append,hfm];exact yD _
 rintro σ H4 ⟨v6,ds,rfl,U4,r4,hds,hfm,hdl⟩;clear U U1 U2 U3 r2 r3;obtain⟨us,hu,hur⟩:=id r4;have hul:=hur.length;rw[xA] at hul;refine⟨_,rfl,rl,rfl,⟨_,ZE.of hu⟩,?_⟩;refine V0 us (fun i σ H'=>∃(v7:Option V)(fx':eA)(as:List AD)(O':eF->Prop),σ = [some (.ref s),some (.ref p),some (.ref W.wl),some (.ref nl),some (.ref rl),v5,v6,v7]/\Ww C CM p s la nl W ns H' fx' (Zh as) as O'/\Wk ns as/\As ns ((ds.take i).flatMap cmN).length (Zh as).1/\as.length<=i/\¬O' rl/\rl∉s::la::nl::W.wl::W.dl::W.sl::W.tl::fx'/\WB H' [] rl (Uz ds)/\H' rl=some (.lst us)) ⟨none,fx,[],O,rfl,U4,hk,⟨rfl,(fun n h=>nomatch h),fun n _=>rfl⟩,xD _,nr,nr2,r4,hu⟩ (fun i σ H' _ ⟨_,_,_,_,_,_,_,_,_,_,_,_,e⟩=>ZE.of e) ?_ ?_
 ·rintro i v σ H5 hv ⟨v7,fx',as,O',rfl,U5,K5,S5,al5,no5,no6,r5,hu5⟩;obtain⟨us5,e5,hr5⟩:=id r5;rw[hu5] at e5;cases e5;obtain⟨d0,hd0,re⟩:=hr5.get hv;rw[xI] at hd0;obtain⟨d,hd,rfl⟩:=xR.mp hd0;have ok:=hds d (xJ hd);obtain⟨q,rfl,hq⟩:=Br re;have dok:dOk ns d:=by
   cases d with
   | come n day wt=>exact⟨ok.1,Wz ok.2.1 (by have:=ok.2.2.1;lia),Wz (by have:=ok.2.2.2.1;lia) (by have:=ok.2.2.2.2;lia)⟩
   | bring n day=>exact⟨ok.1,Wz (by have:=ok.2.1;lia) (by have:=ok.2.2;lia)⟩
   | _=>exact ok.elim
  have et:ds.take (i+1)=ds.take i ++ [d]:=by rw[xV,hd];rfl
  have hil:=(xH.mp hd).1;refine⟨_,rfl,_,rfl,U5.tryS K5 hq dok fun l tv H6 O6 kl F6 hc=>?_⟩;have no7:¬O6 rl:=fun z=>(F6.2 rl z).elim no5 (fun y=>by rw[hu5] at y;cases y);have r6:WB H6 [] rl (Uz ds):=r5.mono (fun o e=>F6.1 _ _ e no5) (Wv (fun b u e=>F6.1 _ _ e (U5.w.ntup e)) (fun x hx=>by cases hx) fun _ z=>z);have hu6:=F6.1 _ _ hu5 no5;obtain⟨B,hB⟩:=LL hfm hd;have ek:∀n,cmN d = [n]->ns[((ds.take i).flatMap cmN).length]? = some n:=fun n e=>by
   rw[hB,e,List.getElem?_append_right (xD _),Nat.sub_self];rfl
  rw[et,List.flatMap_append];have e1 : [d].flatMap cmN=cmN d:=by simp
  rw[e1,xE];have gr:eSD (Zh as).1 (Zh as).2 d=none->As ns (((ds.take i).flatMap cmN).length+(cmN d).length) (Zh (as ++ [.s d])).1:=fun _=>by
   rw[JP];cases d with
   | come n day wt=>exact(S5.come (ek n rfl) K5.nd ok.2.1 ok.2.2.1).2
   | bring n day=>exact S5
   | _=>exact ok.elim
  rcases hc with⟨rfl,hne,U6⟩ | ⟨rfl,he,U6⟩
  ·refine⟨l,_,rfl,.inl (ZE.of kl),_,_,rfl,rfl,_,rfl,Z0 (fun z=>absurd z (by decide)) (fun _=>⟨_,fx',as,O6,rfl,U6,K5,?_,by lia,no7,no6,r6,hu6⟩)⟩;cases d with
   | come n day wt =>
    exfalso;apply hne;have hkn:=ek n rfl;have hkl:=(xH.mp hkn).1;have hcm:(Wi (Zh as).1).length < 40:=by rw[S5.cm,xU];lia
    have hno:=S5.no n (S5.come (wt:=wt) hkn K5.nd ok.2.1 ok.2.2.1).1;have g4:=K5.g.1;have y1:=ok.2.1;have y2:=ok.2.2.1;have y3:=ok.2.2.2.1;have y4:=ok.2.2.2.2
    show ((Ui (Zh as).1 n day wt).or (Yr (Zh as).2))=none;have em:Yr (Zh as).2=none:=if_pos (by rw[Es];lia);have ec:Ui (Zh as).1 n day wt=none:=by
     unfold Ui;rw[if_neg (by rw[Gv (K5.nn n ok.1)];decide),if_pos hno,if_pos hcm,show eM 0 9999 day=none from if_pos ⟨y1,by lia⟩,show eM 1 1000 wt=none from if_pos ⟨y3,y4⟩];rfl
    rw[ec,em];rfl
   | bring n day=>exact S5
   | _=>exact ok.elim
  ·have re6:YA (fz fx' H6) (adT (.s d)) (.ref q):=⟨q,_,rfl,Yz (F6.1 _ _ hq (U5.w.ntup hq)),Bd _ d⟩;refine⟨l,_,rfl,.inl (ZE.of kl),_,_,rfl,rfl,_,rfl,Z0 (fun _=>?_) (fun z=>absurd (show (0:Int) < 1 by decide) z)⟩;refine⟨_,rfl,_,rfl,?_⟩;dsimp only [Vl];refine U6.keep K5 (by rw[Uc];cases d<;>rfl) re6 (fun _ _ _ _ _ _ z=>by cases z) fun fx7 H7 U7 f7 g7=>?_;have nd:rl ∉ [W.dl,W.sl,W.tl]:=fun z=>no6 (by simp only[xC,xS,or_false] at z ⊢;grind);refine⟨_,fx7,as ++ [.s d],O6,rfl,U7,K5.snoc dok he,gr he,by rw[Wq];lia,no7,?_,?_,f7 _ _ nd hu6⟩
   ·intro z;rcases xC.mp (show rl∈s::la::nl::W.wl::W.dl::W.sl::W.tl::fx7 from z) with y | y
    ·exact no6 (by rw[y];simp)
    ·have:rl∈s::la::nl::W.wl::W.dl::W.sl::W.tl::fx'\/rl∈fx7:=by
      simp only[xC] at z ⊢
      grind
     rcases this with y | y
     ·exact no6 y
     ·rcases g7 rl y with y | y
      ·exact no6 (by simp[y])
      ·rw[hu6] at y;cases y
   ·refine r6.mono (fun o e=>f7 _ _ nd e) (Wv (fun b u e=>f7 _ _ (fun z=>?_) e) (fun x hx=>by cases hx) fun _ z=>z);obtain⟨_,v',y⟩:=U6.o b (by simp only[xC,xS,or_false] at z ⊢;grind);rw[e] at y;cases y
 ·grind
end
section
variable{P:eG}{w:eI}{K:uFg}{mg:dW}{base:Heap}{C CM:eF}{c:dZ}
theorem SH(s:Jp)(x:AD):∃r,(AH s x).1=s.1++r:=by
 cases x with
 | s d=>cases d<;>first | exact⟨_,rfl⟩ | exact⟨[],(yD _).symm⟩
 | c d day need o1 o2 f=>exact⟨[],(yD _).symm⟩
theorem IM:∀(bs:List AD)(s:Jp),∃r,(bs.foldl AH s).1=s.1++r
 | [],s=>⟨[],(yD _).symm⟩
 | x::bs,s=>by
  obtain⟨r1,e1⟩:=SH s x;obtain⟨r2,e2⟩:=IM bs (AH s x);exact⟨r1++r2,by rw[List.foldl_cons,e2,e1,yV]⟩
theorem HI(as:List AD)(i:Nat):∃r,(Zh as).1=(Zh (as.take i)).1++r:=by
 obtain⟨r,e⟩:=IM (as.drop i) (Zh (as.take i));refine⟨r,?_⟩;rw[← e];unfold Zh;rw[← zZ,zB]
theorem XA{as:List AD}{i:Nat}{n:Str}{d:Int}(h:Zl (Zh (as.take i)).1 n=some d):Zl (Zh as).1 n=some d:=by
 obtain⟨r,e⟩:=HI as i;rw[e,Bt,h];rfl
theorem Nq{as:List AD}{i:Nat}{n:Str}{d:Int×Str}(h:Zx (Zh (as.take i)).1 n=some d):Zx (Zh as).1 n=some d:=by
 obtain⟨r,e⟩:=HI as i;rw[e,B7,h];rfl
theorem Qn{x:AD}(h:Wf x = "come"):∃n d wt,x = .s (.come n d wt):=by
 cases x with
 | s d=>cases d<;>first | exact⟨_,_,_,rfl⟩ | exact absurd h (by dsimp only [Wf];decide +kernel)
 | c d day need o1 o2 f=>cases d<;>exact absurd h (by dsimp only [Wf];decide +kernel)
theorem RP{x:AD}(h:Wf x = "die"):∃n he d,x = .s (.die n he d):=by
 cases x with
 | s d=>cases d<;>first | exact⟨_,_,_,rfl⟩ | exact absurd h (by dsimp only [Wf];decide +kernel)
 | c d day need o1 o2 f=>cases d<;>exact absurd h (by dsimp only [Wf];decide +kernel)
theorem Qz{ds:List ZI}{x:AD}{n:Str}(h:Zl ds n=none):Zl (fdS ds x) n=match x with
  | .s (.come m d _)=>if m=n then some d else none
  | _=>none:=by
 cases x with
 | s d =>
  cases d with
  | come m d wt=>show Zl (ds ++ [_]) n=_;rw[Bt,h];rfl
  | rise m d wt=>exact(Cv n).trans h
  | die m he d=>exact(Dp n).trans h
  | _=>exact h
 | c d day need o1 o2 f=>exact h
theorem XW{ds:List ZI}{x:AD}{n:Str}(h:Zx ds n=none):Zx (fdS ds x) n=match x with
  | .s (.die m he d)=>if m=n then some (d,he) else none
  | _=>none:=by
 cases x with
 | s d =>
  cases d with
  | come m d wt=>exact(CZ n).trans h
  | rise m d wt=>exact(CY n).trans h
  | die m he d=>show Zx (ds ++ [_]) n=_;rw[B7,h];rfl
  | _=>exact h
 | c d day need o1 o2 f=>exact h
inductive Jb(vs:List V)(H:Hp)(Q:VK)(z3:XK):Prop
 |mk(q:eF) (fx:eA) (as:List AD) (n:Str) (d:Int)(_:vs = [.ref q,.str n])(_:WB H fx q (as.map adT))(_:Zl (Zh as).1 n=some d)(_:Q (.int d) H)
abbrev Hm:Stmt:=top 66
theorem L6(Ziu:YC K mg "_law_came" Hm)(T:Txt mg):Fn P w K mg base "_law_came" ["_law_deeds","_law_name"] 1 Jb:=by
 refine Ziu.fq ["_law_deeds","_law_name","_law_deed_here"] fun H vs Q E hr h=>?_;obtain⟨q,fx,as,n,d,rfl,⟨vs,hq,hrep⟩,hn,k⟩:=h;refine⟨rfl,_,(Zc (Ws PassesOwn.never rfl (Wb Q0) (Yt 2) (Zf (Zo (QW.pt (Vv (Zr Ym (Zi Zv Q2 Zd (fun _ _=>rfl)) Z7 (Zu _)) (Us (Zr Ym (Zi Zv Q2 Zd (fun _ _=>rfl)) Q1 (Zu _))))) (Zf (Zt (Zi Zv Q2 Zd (fun _ _=>rfl)))) Zn))) (Zf (Zt Y3))),?_⟩;have hvl:=hrep.length;rw[xA] at hvl;refine⟨_,rfl,q,rfl,⟨_,ZE.of hq⟩,?_⟩;refine V0 vs (fun i σ H'=>∃v2:Option V,σ = [some (.ref q),some (.str n),v2]/\H'=H/\Zl (Zh (as.take i)).1 n=none) ⟨none,rfl,rfl,rfl⟩ (fun i σ H' _ ⟨_,_,e,_⟩=>by rw[e];exact ZE.of hq) ?_ ?_
 ·rintro i v σ H' hv ⟨v2,rfl,rfl,hno⟩;obtain⟨x0,hx0,re⟩:=hrep.get hv;rw[xI] at hx0;obtain⟨x,hx,rfl⟩:=xR.mp hx0;have et:as.take (i+1)=as.take i ++ [x]:=by rw[xV,hx];rfl
  have cr:=Qz (x:=x) hno;rw[← JP,← et] at cr;obtain⟨a,us,rfl,ha,hw⟩:=AZ re;refine⟨_,rfl,a,_,0,.str (Wf x),rfl,rfl,ZT.of ha,Y8 hw,rfl,_,rfl,Z0 (fun z=>?_) (fun z=>Z1 ?_)⟩
  ·obtain⟨m,dd,wt,rfl⟩:=Qn (by injection z);obtain⟨a',e',ha'⟩:=Br re;cases e';rw[ha'] at ha;cases ha;refine⟨_,rfl,a,_,1,.str m,rfl,rfl,ZT.of ha',rfl,_,rfl,rfl,_,rfl,Z0 (fun z2=>?_) (fun z2=>?_)⟩
   ·have em:m=n:=by injection z2
    have cr:=cr.trans (if_pos em);have:=XA cr;rw[hn] at this;cases this;exact⟨_,rfl,a,_,2,.int d,rfl,rfl,ZT.of ha',rfl,k⟩
   ·refine⟨_,rfl,rfl,cr.trans (if_neg fun y=>z2 (by rw[y]))⟩
  ·refine⟨_,rfl,rfl,cr.trans ?_⟩;split
   ·exact absurd rfl z
   ·rfl
 ·grind
def MM(H:Hp):Option (Int×Str)->V->Prop
 | none,v=>v = .non
 | some (d,he),v=>∃a,v = .ref a/\H a=some (.tup [.int d,.str he])
inductive UA(vs:List V)(H:Hp)(Q:VK)(z3:XK):Prop
 |mk(q:eF) (fx:eA) (as:List AD) (n:Str)(_:vs = [.ref q,.str n])(_:WB H fx q (as.map adT))(_:∀v H',ZA H H'->MM H' (Zx (Zh as).1 n) v->Q v H')
abbrev Ga:Stmt:=top 67
theorem XI(Ziv:YC K mg "_law_death" Ga)(T:Txt mg):Fn P w K mg base "_law_death" ["_law_deeds","_law_name"] 1 UA:=by
 refine Ziv.fq ["_law_deeds","_law_name","_law_deed_here"] fun H vs Q E hr h=>?_;obtain⟨q,fx,as,n,rfl,⟨vs,hq,hrep⟩,k⟩:=h;refine⟨rfl,_,(Zc (Ws PassesOwn.never rfl (Wb Q0) (Yt 2) (Zf (Zo (QW.pt (Vv (Zr Ym (Zi Zv Q2 Zd (fun _ _=>rfl)) Z7 (Zu _)) (Us (Zr Ym (Zi Zv Q2 Zd (fun _ _=>rfl)) Q1 (Zu _))))) (Zf (Zt (Z9 (Za (Zi Zv Q2 Zd (fun _ _=>rfl)) (Za (Zi Zv Q2 Zd (fun _ _=>rfl)) Zb))))) Zn))) (Zf (Zt Y3))),?_⟩;have hz:(5000:Nat)<=sizeLine:=by decide
 have hvl:=hrep.length;rw[xA] at hvl;refine⟨_,rfl,q,rfl,⟨_,ZE.of hq⟩,?_⟩;refine V0 vs (fun i σ H'=>∃v2:Option V,σ = [some (.ref q),some (.str n),v2]/\H'=H/\Zx (Zh (as.take i)).1 n=none) ⟨none,rfl,rfl,rfl⟩ (fun i σ H' _ ⟨_,_,e,_⟩=>by rw[e];exact ZE.of hq) ?_ ?_
 ·rintro i v σ H' hv ⟨v2,rfl,rfl,hno⟩;obtain⟨x0,hx0,re⟩:=hrep.get hv;rw[xI] at hx0;obtain⟨x,hx,rfl⟩:=xR.mp hx0;have et:as.take (i+1)=as.take i ++ [x]:=by rw[xV,hx];rfl
  have cr:=XW (x:=x) hno;rw[← JP,← et] at cr;obtain⟨a,us,rfl,ha,hw⟩:=AZ re;refine⟨_,rfl,a,_,0,.str (Wf x),rfl,rfl,ZT.of ha,Y8 hw,rfl,_,rfl,Z0 (fun z=>?_) (fun z=>Z1 ?_)⟩
  ·obtain⟨m,he,dd,rfl⟩:=RP (by injection z);obtain⟨a',e',ha'⟩:=Br re;cases e';rw[ha'] at ha;cases ha;refine⟨_,rfl,a,_,1,.str m,rfl,rfl,ZT.of ha',rfl,_,rfl,rfl,_,rfl,Z0 (fun z2=>?_) (fun z2=>?_)⟩
   ·have em:m=n:=by injection z2
    have cr:=cr.trans (if_pos em);have:=Nq cr;rw[this] at k;refine⟨_,rfl,a,_,2,.int dd,rfl,rfl,ZT.of ha',rfl,_,rfl,a,_,3,.str he,rfl,rfl,ZT.of ha',rfl,by show 2<=sizeLine;lia,fun p hp=>k _ _ (ZA.new hp) ⟨p,rfl,Zg⟩⟩
   ·refine⟨_,rfl,rfl,cr.trans (if_neg fun y=>z2 (by rw[y]))⟩
  ·refine⟨_,rfl,rfl,cr.trans ?_⟩;split
   ·exact absurd rfl z
   ·rfl
 ·rintro σ H' ⟨v2,rfl,rfl,hno⟩;rw[hvl,yC] at hno;rw[hno] at k;exact k _ _ (ZA.refl _) rfl
inductive WY(vs:List V)(H:Hp)(Q:VK)(z3:XK):Prop
 |mk(q:eF) (fx:eA) (as:List AD) (n:Str) (day:Int)(_:vs = [.ref q,.str n,.int day])(_:WB H fx q (as.map adT))(_:∀H',ZA H H'->Q (.bl (Vc (Zh as).1 n day)) H')
abbrev Gp:Stmt:=top 68
theorem RK(Ziw:YC K mg "_law_is_dead" Gp)(T:Txt mg)(Zix:Fn P w K mg base "_law_death" ["_law_deeds","_law_name"] 1 UA):Fn P w K mg base "_law_is_dead" ["_law_deeds","_law_name","_law_day"] 2 WY:=by
 refine Ziw.fq ["_law_deeds","_law_name","_law_day","_law_death_here"] fun H vs Q E hr h=>?_;obtain⟨q,fx,as,n,day,rfl,hl,k⟩:=h;refine⟨rfl,_,(Zc (Zz 3 (Zj Zix (Za Q0 (Za Q1 Zb)))) (Zf (Zt (AK (Ut JS Q3 Y3 (Zu _)) (A3 (Ut Wh (Zi Zv Q3 Zd (fun _ _=>rfl)) Q2 (Zu _))))))),?_⟩;refine⟨_,rfl,_,rfl,q,fx,as,n,rfl,hl,fun v H1 S1 hv=>?_⟩;refine Yc ?_;have k:=k H1 S1;unfold Vc at k;cases e:Zx (Zh as).1 n with
 | none =>
  rw[e] at hv k;have hv:v = .non:=hv;subst hv;exact⟨_,rfl,rfl,_,rfl,Z1 k⟩
 | some x =>
  obtain⟨d,he⟩:=x;rw[e] at hv k;obtain⟨a,rfl,ha⟩:=hv;refine⟨_,rfl,rfl,_,rfl,Z8 ?_⟩;exact⟨_,rfl,a,_,0,.int d,rfl,rfl,ZT.of ha,rfl,_,rfl,_,_,rfl,rfl,k⟩
end
section
variable{C CM:eF}
inductive YG (ds:List ZI) (day:Int):Nat->Str->Str->Prop where
 | here {n:Str}:Vc ds n day=false->YG ds day 0 n n
 | step {n m:Str}{x:Int×Str}{k:Nat}:Zx ds n=some x->Vc ds n day=true->YG ds day k x.2 m->YG ds day (k+1) n m
theorem dE{ds:List ZI}{r:Str->Nat}(h:∀n x,Zx ds n=some x->r x.2 < r n)(day:Int):∀b n,r n<=b->∃k m,YG ds day k n m/\k<=b:=by
 intro b
 induction b with
 | zero =>
  intro n hn;cases e:Vc ds n day with
  | false=>exact⟨0,n,.here e,yL _⟩
  | true =>
   unfold Vc at e;cases e2:Zx ds n with
   | none=>rw[e2] at e;cases e
   | some x=>have:=h n x e2;lia
 | succ b ih =>
  intro n hn;cases e:Vc ds n day with
  | false=>exact⟨0,n,.here e,yL _⟩
  | true =>
   have e':=e;unfold Vc at e;cases e2:Zx ds n with
   | none=>rw[e2] at e;cases e
   | some x =>
    have:=h n x e2;obtain⟨k,m,a1,a2⟩:=ih x.2 (by lia);exact⟨k+1,m,.step e2 e' a1,by lia⟩
def YB(ds:List ZI)(i:Nat):Prop:=∃r:Str->Nat,(∀n x,Zx ds n=some x->r x.2 < r n)/\(∀n,Zx ds n=none->r n=0)/\∀n,r n<=i
theorem YB.die(R:YB ds i)(hn:Zx ds n=none)(hh:Zx ds h=none)(hne:h≠n):YB (ds ++ [.die n d h]) (i+1):=by
 obtain⟨r,r1,r2,r3⟩:=R;refine⟨fun x=>if x=n then 1 else match Zx ds x with | some _=>r x+1 | none=>0,fun m x hm=>?_,fun m hm=>?_,fun m=>?_⟩
 ·rw[Cn hn] at hm
  by_cases e:m=n
  ·grind
  ·grind
 ·rw[Cn hn] at hm
  by_cases e:m=n
  ·rw[if_pos e] at hm;cases hm
  ·rw[if_neg e] at hm;dsimp only;rw[if_neg e,hm]
 ·grind
inductive TK(C:eF)(vs:List V)(H:Hp)(Q:VK)(z3:XK):Prop
 |mk(L) (ds) (n) (d day)(_:vs = [.ref L.p,.str n,.int day])(_:ZR C H L ds)(_:Zl ds n=some d)(_:0<=day)(_:day<=9999)(_:Q (.bl (Vc ds n day)) H)
abbrev FE:Stmt:=Yg (top 36) 7
theorem Su(Ziy:ZQ K C "dead" "Folk.dead" FE)(Tc:YV K C)(Yy:Fn P w K mg base "check_day" ["day"] 1 VF)(M_check_known:Mt P w K mg base C "check_known" ["self","name"] 1 (YW C))(M_died_by:Mt P w K mg base C "died_by" ["self","name","day"] 1 (YS C)) :
  Mt P w K mg base C "dead" ["self","name","day"] 2 (TK C):=by
 refine Ziy.mq ["self","name","day"] fun H vs Q E hr h=>?_;obtain⟨L,ds,n,d,day,rfl,F,hn,d0,d1,k⟩:=h;refine⟨rfl,_,(Zc (Zk (Zj Yy (Za Q2 Zb))) (Zc (Zk (Yn Q0 Tc.cl M_check_known (Za Q1 Zb))) (Zf (Zt (Yn Q0 Tc.cl M_died_by (Za Q1 (Za Q2 Zb))))))),?_⟩;obtain⟨dx,ob⟩:=F.ob;refine⟨_,rfl,day,rfl,d0,d1,?_⟩;refine⟨_,rfl,L.p,dx,_,rfl,ob,Ye _ _ _ _ (by decide +kernel),_,rfl,L,ds,n,d,rfl,F,hn,?_⟩;exact⟨_,rfl,L.p,dx,_,rfl,ob,Ye _ _ _ _ (by decide +kernel),_,rfl,_,rfl,L,ds,n,day,rfl,F,k⟩
inductive VJ(C:eF)(vs:List V)(H:Hp)(Q:VK)(z3:XK):Prop
 |mk(L) (ds) (n m) (day) (b)(_:vs = [.ref L.p,.str n,.int day])(_:ZR C H L ds)(_:YG ds day b n m)(_:Q (.str m) H)
abbrev KQ:Stmt:=Yg (top 36) 10
theorem XY(Ziz:ZQ K C "stand_in" "Folk.stand_in" KQ)(Tc:YV K C)(M_died_by:Mt P w K mg base C "died_by" ["self","name","day"] 1 (YS C)) :
  Mt P w K mg base C "stand_in" ["self","name","day"] 2 (VJ C):=by
 refine Ziz.mq ["self","name","day"] fun H vs Q E hr h=>?_;obtain⟨L,ds,n,m,day,b,rfl,F,hst,k⟩:=h;refine⟨rfl,_,(Zc (cZ PassesOwn.never (Wt (Yn Q0 Tc.cl M_died_by (Za Q1 (Za Q2 Zb)))) (Zf (Zz 1 (Ar hr (Zw Q0) Q1 (fun _ _=>rfl))))) (Zf (Zt Q1))),?_⟩;obtain⟨dx,ob⟩:=F.ob;obtain⟨kvs,c1,c2,c3⟩:=F.h;refine⟨fun j σ H'=>∃x,σ = [some (.ref L.p),some (.str x),some (.int day)]/\H'=H/\YG ds day j x m,⟨b,n,rfl,rfl,hst⟩,?_⟩;rintro j σ H' ⟨x,rfl,rfl,hx⟩;refine⟨_,rfl,L.p,dx,_,rfl,ob,Ye _ _ _ _ (by decide +kernel),_,rfl,_,rfl,L,ds,x,day,rfl,F,?_⟩;refine⟨_,rfl,?_⟩;cases hx with
 | here e =>
  rw[e];exact Z1 ⟨_,rfl,k⟩
 | step e1 e2 e3 =>
  rename_i y j';rw[e2];have g:=ZZ.k (k:=Sum.inr x) c1;rw[c3,e1] at g;refine Z8 ⟨fun σ' H''=>∃m',m' < j'+1/\∃x,σ' = [some (.ref L.p),some (.str x),some (.int day)]/\H''=H'/\YG ds day m' x m,fun _ _ h=>h,?_⟩;exact⟨_,rfl,L.p,C,dx,_,_,rfl,ob,Tc.cl,Tc.nh,FW _ _ _ _,_,rfl,L.dh,.str y.2,rfl,g,j',by lia,y.2,rfl,rfl,e3⟩
inductive UB(C:eF)(vs:List V)(H:Hp)(Q:VK)(z3:XK):Prop
 |mk(L) (ds) (n m) (d day) (b)(_:vs = [.ref L.p,.str n,.int day])(_:ZR C H L ds)(_:Zl ds n=some d)(_:0<=day)(_:day<=9999)(_:YG ds day b n m)(_:Q (.str m) H)
abbrev Gf:Stmt:=Yg (top 36) 8
theorem bZ(Zi0:ZQ K C "stands_for" "Folk.stands_for" Gf)(Tc:YV K C)(Yy:Fn P w K mg base "check_day" ["day"] 1 VF)(M_check_known:Mt P w K mg base C "check_known" ["self","name"] 1 (YW C))(M_stand_in:Mt P w K mg base C "stand_in" ["self","name","day"] 2 (VJ C)) :
  Mt P w K mg base C "stands_for" ["self","name","day"] 3 (UB C):=by
 refine Zi0.mq ["self","name","day"] fun H vs Q E hr h=>?_;obtain⟨L,ds,n,m,d,day,b,rfl,F,hn,d0,d1,hst,k⟩:=h;refine⟨rfl,_,(Zc (Zk (Zj Yy (Za Q2 Zb))) (Zc (Zk (Yn Q0 Tc.cl M_check_known (Za Q1 Zb))) (Zf (Zt (Yn Q0 Tc.cl M_stand_in (Za Q1 (Za Q2 Zb))))))),?_⟩;obtain⟨dx,ob⟩:=F.ob;refine⟨_,rfl,day,rfl,d0,d1,?_⟩;refine⟨_,rfl,L.p,dx,_,rfl,ob,Ye _ _ _ _ (by decide +kernel),_,rfl,L,ds,n,d,rfl,F,hn,?_⟩;exact⟨_,rfl,L.p,dx,_,rfl,ob,Ye _ _ _ _ (by decide +kernel),_,rfl,_,rfl,L,ds,n,m,day,b,rfl,F,hst,k⟩
inductive UJ(C:eF)(vs:List V)(H:Hp)(Q:VK)(z3:XK):Prop
 |mk(L) (ds) (wa)(_:vs = [.ref L.p])(_:ZR C H L ds)(_:WC H L ds wa)(_:∀l,H l=none->Q (.ref l) (upd H l (.lst ((Wi ds).map V.str))))
abbrev FA:Stmt:=Yg (top 36) 4
theorem OT(Zi1:ZQ K C "names" "Folk.names" FA)(T:Txt mg)(Tc:YV K C):Mt P w K mg base C "names" ["self"] 1 (UJ C):=by
 refine Zi1.mq ["self"] fun H vs Q E hr h=>?_;obtain⟨L,ds,wa,rfl,F,W,k⟩:=h;refine⟨rfl,_,(Zf (Zt (Um (Rj (by rfl)) T.list Vu (Za (Zw Q0) Zb)))),?_⟩;obtain⟨dx,ob⟩:=F.ob;obtain⟨kvs,o1,o2⟩:=W.ord;refine⟨_,rfl,L.p,C,dx,_,_,rfl,ob,Tc.cl,Tc.nc,Jt _ _ _ _,L.dc,kvs,rfl,o1,fun l hl=>?_⟩;rw[o2];exact k l hl
inductive UG(C CM:eF)(vs:List V)(H:Hp)(Q:VK)(z3:XK):Prop
 |mk(M) (ds) (wa) (xs) (m) (qs) (n) (day d0 wt)(_:vs = [.ref M.p,.str n,.int day])(_:ZC C CM H M ds wa xs m qs)(_:ds.length<=1000)(_:0<=day)(_:day<=9999)(_:Zl ds n=some d0)(_:d0<=day)(_:JY (kw ds n) day wt)(_:∀H',ZA H H'->Q (.int wt) H')
abbrev Fp:Stmt:=Yg (top 57) 14
theorem Mc(Zi2:ZQ K CM "weight" "Moot.weight" Fp)(Tc:YV K C)(Tm:ZK K CM)(M_weight:Mt P w K mg base C "weight" ["self","name","day"] 2 (VS C)):Mt P w K mg base CM "weight" ["self","name","day"] 3 (UG C CM):=by
 refine Zi2.mq ["self","name","day"] fun H vs Q E hr h=>?_;obtain⟨M,ds,wa,xs,m,qs,n,day,d0,wt,rfl,W,h1,h2,h3,h4,h5,h6,k⟩:=h;refine⟨rfl,_,(Zf (Zt (Yn (Zw Q0) Tc.cl M_weight (Za Q1 (Za Q2 Zb))))),?_⟩;obtain⟨dm,obm⟩:=W.ob;obtain⟨dx,ob⟩:=W.fk.f.ob;exact⟨_,rfl,M.p,CM,dm,_,_,rfl,obm,Tm.cl,Tm.nf,Vm _,M.L.p,dx,_,rfl,ob,Ye _ _ _ _ (by decide +kernel),_,rfl,_,rfl,M.L,ds,wa,n,day,d0,wt,rfl,W.fk.f,W.fk.w,h1,h2,h3,h4,h5,h6,k⟩
inductive Tf(C CM:eF)(vs:List V)(H:Hp)(Q:VK)(z3:XK):Prop
 |mk(M) (ds) (wa) (xs) (m) (qs) (n) (d day)(_:vs = [.ref M.p,.str n,.int day])(_:ZC C CM H M ds wa xs m qs)(_:Zl ds n=some d)(_:0<=day)(_:day<=9999)(_:Q (.bl (Vc ds n day)) H)
abbrev HE:Stmt:=Yg (top 57) 15
theorem LF(Zi3:ZQ K CM "dead" "Moot.dead" HE)(Tc:YV K C)(Tm:ZK K CM)(M_dead:Mt P w K mg base C "dead" ["self","name","day"] 2 (TK C)):Mt P w K mg base CM "dead" ["self","name","day"] 3 (Tf C CM):=by
 refine Zi3.mq ["self","name","day"] fun H vs Q E hr h=>?_;obtain⟨M,ds,wa,xs,m,qs,n,d,day,rfl,W,h1,h2,h3,k⟩:=h;refine⟨rfl,_,(Zf (Zt (Yn (Zw Q0) Tc.cl M_dead (Za Q1 (Za Q2 Zb))))),?_⟩;obtain⟨dm,obm⟩:=W.ob;obtain⟨dx,ob⟩:=W.fk.f.ob;exact⟨_,rfl,M.p,CM,dm,_,_,rfl,obm,Tm.cl,Tm.nf,Vm _,M.L.p,dx,_,rfl,ob,Ye _ _ _ _ (by decide +kernel),_,rfl,_,rfl,M.L,ds,n,d,day,rfl,W.fk.f,h1,h2,h3,k⟩
inductive VN(C CM:eF)(vs:List V)(H:Hp)(Q:VK)(z3:XK):Prop
 |mk(M) (ds) (wa) (xs) (m) (qs) (n y) (d day) (b)(_:vs = [.ref M.p,.str n,.int day])(_:ZC C CM H M ds wa xs m qs)(_:Zl ds n=some d)(_:0<=day)(_:day<=9999)(_:YG ds day b n y)(_:Q (.str y) H)
abbrev Lb:Stmt:=Yg (top 57) 16
theorem L7(Zi4:ZQ K CM "stands_for" "Moot.stands_for" Lb)(Tc:YV K C)(Tm:ZK K CM)(M_stands_for:Mt P w K mg base C "stands_for" ["self","name","day"] 3 (UB C)):Mt P w K mg base CM "stands_for" ["self","name","day"] 4 (VN C CM):=by
 refine Zi4.mq ["self","name","day"] fun H vs Q E hr h=>?_;obtain⟨M,ds,wa,xs,m,qs,n,y,d,day,b,rfl,W,h1,h2,h3,h4,k⟩:=h;refine⟨rfl,_,(Zf (Zt (Yn (Zw Q0) Tc.cl M_stands_for (Za Q1 (Za Q2 Zb))))),?_⟩;obtain⟨dm,obm⟩:=W.ob;obtain⟨dx,ob⟩:=W.fk.f.ob;exact⟨_,rfl,M.p,CM,dm,_,_,rfl,obm,Tm.cl,Tm.nf,Vm _,M.L.p,dx,_,rfl,ob,Ye _ _ _ _ (by decide +kernel),_,rfl,_,rfl,M.L,ds,n,y,d,day,b,rfl,W.fk.f,h1,h2,h3,h4,k⟩
inductive TY(vs:List V)(H:Hp)(Q:VK)(z3:XK):Prop
 |mk(q) (fx) (as) (n m) (day) (b)(_:vs = [.ref q,.str n,.int day])(_:WB H fx q (as.map adT))(_:YG (Zh as).1 day b n m)(_:b<=40)(_:∀H',ZA H H'->Q (.str m) H')
abbrev IA:Stmt:=top 70
theorem NP(Zi5:YC K mg "_law_heir" IA)(T:Txt mg)(Zix:Fn P w K mg base "_law_death" ["_law_deeds","_law_name"] 1 UA)(Zi6:Fn P w K mg base "_law_is_dead" ["_law_deeds","_law_name","_law_day"] 2 WY) :
  Fn P w K mg base "_law_heir" ["_law_deeds","_law_name","_law_day"] 3 TY:=by
 refine Zi5.fq ["_law_deeds","_law_name","_law_day","_law_k"] fun H vs Q E hr h=>?_;obtain⟨q,fx,as,n,m,day,b,rfl,hq,hst,hb,k⟩:=h;refine⟨rfl,_,(Zc (Ws PassesOwn.never rfl (Au T.range (Za Zd Zb)) (Yt 3) (Zc (Zo (Vk (Wt (Zj Zi6 (Za Q0 (Za Q1 (Za Q2 Zb)))))) (Zf (Zt Q1)) Zn) (Zf (Zz 1 (Zi Zv (Zj Zix (Za Q0 (Za Q1 Zb))) Zd (fun _ _=>rfl)))))) (Zf (Zt Q1))),?_⟩;refine⟨_,rfl,by decide,by decide,?_⟩;refine Bb 41 (by decide) (fun i σ H'=>∃x j v3,σ = [some (.ref q),some (.str x),some (.int day),v3]/\ZA H H'/\YG (Zh as).1 day j x m/\i+j<=40) ⟨n,b,none,rfl,fun _ _ e=>e,hst,by lia⟩ ?_ ?_
 ·rintro i σ H' hi ⟨x,j,v3,rfl,sm,hx,hij⟩;refine⟨_,rfl,_,rfl,_,rfl,q,fx,as,x,day,rfl,hq.mono (sm _) (Wv (fun _ _ e=>sm _ _ e) (fun x _ o e=>sm _ _ e) fun _ z=>z),fun H1 s1=>⟨_,rfl,?_⟩⟩;cases hx with
  | here e =>
   rw[e];exact Z8 ⟨_,rfl,k H1 (sm.trans s1)⟩
  | step e1 e2 e3 =>
   rename_i y j';rw[e2];refine Z1 ?_;have sm1:=sm.trans s1;refine⟨_,rfl,_,rfl,q,fx,as,x,rfl,hq.mono (sm1 _) (Wv (fun _ _ e=>sm1 _ _ e) (fun x _ o e=>sm1 _ _ e) fun _ z=>z),fun v H2 s2 hv=>?_⟩;rw[e1] at hv;obtain⟨p,rfl,hp⟩:=hv;exact⟨p,_,1,.str y.2,rfl,rfl,ZT.of hp,rfl,y.2,j',_,rfl,(sm.trans s1).trans s2,e3,by lia⟩
 ·rintro σ H' ⟨x,j,v3,rfl,sm,hx,hij⟩;lia
theorem YB.stands(R:YB ds i)(hi:i<=40)(n:Str)(day:Int):∃k m,YG ds day k n m/\k<=40:=by
 obtain⟨r,r1,r2,r3⟩:=R;obtain⟨k,m,a,b⟩:=dE r1 day i n (r3 n);exact⟨k,m,a,by lia⟩
inductive UL(C CM:eF)(vs:List V)(H:Hp)(Q:VK)(z3:XK):Prop
 |mk(M) (ds) (wa) (xs) (m) (qs)(_:vs = [.ref M.p])(_:ZC C CM H M ds wa xs m qs)(_:∀l,H l=none->Q (.ref l) (upd H l (.lst ((Wi ds).map V.str))))
abbrev KY:Stmt:=Yg (top 57) 13
theorem OL(Zi7:ZQ K CM "names" "Moot.names" KY)(Tc:YV K C)(Tm:ZK K CM)(M_names:Mt P w K mg base C "names" ["self"] 1 (UJ C)):Mt P w K mg base CM "names" ["self"] 2 (UL C CM):=by
 refine Zi7.mq ["self"] fun H vs Q E hr h=>?_;obtain⟨M,ds,wa,xs,m,qs,rfl,W,k⟩:=h;refine⟨rfl,_,(Zf (Zt (Et (Zw Q0) Tc.cl M_names))),?_⟩;obtain⟨dm,obm⟩:=W.ob;obtain⟨dx,ob⟩:=W.fk.f.ob;exact⟨_,rfl,M.p,CM,dm,_,_,rfl,obm,Tm.cl,Tm.nf,Vm _,M.L.p,dx,_,rfl,ob,Ye _ _ _ _ (by decide +kernel),M.L,ds,wa,rfl,W.fk.f,W.fk.w,k⟩
theorem DA:∀ns:List Str,ZP H (ns.map D.str) (ns.map V.str)
 | []=>rfl
 | _::ns=>⟨_,_,rfl,rfl,DA ns⟩
structure Rg (ns:dX) (as:List AD):Prop where
 k:Wk ns as
 cm:Wi (Zh as).1=ns
 com:∀n∈ns,∃d,Zl (Zh as).1 n=some d/\0<=d/\d<=3
 rk:YB (Zh as).1 as.length
 ln:as.length<=40
inductive Tq(C CM:eF)(vs:List V)(H:Hp)(Q:VK)(z3:XK):Prop
 |mk(p s la nl) (W) (ns) (fx) (as) (O)(_:vs = [.ref s,.ref p,.ref W.dl,.ref nl])(_:Ww C CM p s la nl W ns H fx (Zh as) as O)(_:Rg ns as)(_:∀H',Ww C CM p s la nl W ns H' fx (Zh as) as O->Q (.bl true) H')
abbrev GD:Stmt:=top 82
theorem bO(Zi8:YC K mg "_law_right" GD)(T:Txt mg)(Tm:ZK K CM)(Z6:Fn P w K mg base "_law_next" ["_law_src_here","_law_base"] 1 YE)(Z2l:Fn P w K mg base "_law_came" ["_law_deeds","_law_name"] 1 Jb)(Zb6:Fn P w K mg base "_law_weighs" ["_law_deeds","_law_name","_law_day"] 1 WI)(Zi6:Fn P w K mg base "_law_is_dead" ["_law_deeds","_law_name","_law_day"] 2 WY)(Z2m:Fn P w K mg base "_law_heir" ["_law_deeds","_law_name","_law_day"] 3 TY)(MM_weight:Mt P w K mg base CM "weight" ["self","name","day"] 3 (UG C CM))(MM_dead:Mt P w K mg base CM "dead" ["self","name","day"] 3 (Tf C CM))(MM_stands_for:Mt P w K mg base CM "stands_for" ["self","name","day"] 4 (VN C CM))(MM_names:Mt P w K mg base CM "names" ["self"] 2 (UL C CM))(Zcr:Fn P w K mg base "_law_same" ["_law_found","_law_due"] 6 (VZ 4)) :
  Fn P w K mg base "_law_right" ["_law_src_here","_law_moot","_law_deeds","_law_names_here"] 7 (Tq C CM):=by
 refine Zi8.fq ["_law_src_here","_law_moot","_law_deeds","_law_names_here","_law_day","_law_name"] fun H vs Q E hr h=>?_;obtain⟨p,s,la,nl,W,ns,fx,as,O,rfl,U,R,k⟩:=h;refine⟨rfl,_,(Zc (Ws PassesOwn.never rfl (Wb (Yl (Za (Zj Z6 (Za Q0 (Za Zd Zb))) (Za (Zj Z6 (Za Q0 (Za Zd Zb))) (Za (Z2 Wc Zd (Zj Z6 (Za Q0 (Za Zd Zb)))) (Za Zd (Za Zd Zb))))))) (Yt 4) (Zf (Ws PassesOwn.never rfl (Wb Q3) (Yt 5) (Zc (Zo (Zr Wh (Zj Z2l (Za Q2 (Za Q5 Zb))) Q4 (Zu _)) (Zf (Zo (Vk (Wt (Zj Zcr (Za (Yn Q1 Tm.cl MM_weight (Za Q5 (Za Q4 Zb))) (Za (Zj Zb6 (Za Q2 (Za Q5 (Za Q4 Zb)))) Zb))))) (Zf (Zt Uf)) Zn)) Zn) (Zc (Zo (Vk (Wt (Zj Zcr (Za (Yn Q1 Tm.cl MM_dead (Za Q5 (Za Q4 Zb))) (Za (Zj Zi6 (Za Q2 (Za Q5 (Za Q4 Zb)))) Zb))))) (Zf (Zt Uf)) Zn) (Zf (Zo (Vk (Wt (Zj Zcr (Za (Yn Q1 Tm.cl MM_stands_for (Za Q5 (Za Q4 Zb))) (Za (Zj Z2m (Za Q2 (Za Q5 (Za Q4 Zb)))) Zb))))) (Zf (Zt Uf)) Zn))))))) (Zf (Zt (Zj Zcr (Za (Et Q1 Tm.cl MM_names) (Za Q3 Zb)))))),?_⟩;have hz:(5000:Nat)<=sizeLine:=by decide
 refine⟨_,rfl,s,la,30,rfl,U.sr,by decide,by decide,fun d1 H1 a1 b1 hs1 sx1=>?_⟩;have U1:=U.x hs1 sx1;refine⟨_,rfl,s,la,30,rfl,U1.sr,by decide,by decide,fun d2 H2 a2 b2 hs2 sx2=>?_⟩;have U2:=U1.x hs2 sx2;refine⟨_,rfl,s,la,20,rfl,U2.sr,by decide,by decide,fun d3 H3 a3 b3 hs3 sx3=>?_⟩;have U3:=U2.x hs3 sx3;refine⟨_,_,rfl,rfl,by show 5<=sizeLine;lia,fun l hl=>?_⟩;have Sl:=ZA.new (o:=.lst [.int d1,.int d2,.int (5+d3),.int 0,.int 9999]) hl;have kl:(upd H3 l (.lst [.int d1,.int d2,.int (5+d3),.int 0,.int 9999])) l=some (.lst [.int d1,.int d2,.int (5+d3),.int 0,.int 9999]):=Zg;generalize (upd H3 l (.lst [.int d1,.int d2,.int (5+d3),.int 0,.int 9999]))=H4 at Sl kl ⊢;have U4:=U3.same Sl;clear U U1 U2 U3;refine⟨l,rfl,⟨_,ZE.of kl⟩,?_⟩;refine V0 [.int d1,.int d2,.int (5+d3),.int 0,.int 9999] (fun i σ H'=>∃v4 v5:Option V,σ = [some (.ref s),some (.ref p),some (.ref W.dl),some (.ref nl),v4,v5]/\ZA H4 H') ⟨_,_,rfl,ZA.refl _⟩ (fun i σ H' _ ⟨_,_,_,S⟩=>ZE.of (S _ _ kl)) ?_ ?_
 ·rintro i y σ H' hy ⟨v4,v5,rfl,S⟩;obtain⟨day,rfl,y0,y1⟩:∃day,y = .int day/\0<=day/\day<=9999:=by
   have:=xJ hy;simp only[xC,xS,or_false] at this;rcases this with rfl | rfl | rfl | rfl | rfl
   ·exact⟨_,rfl,by lia,by lia⟩
   ·exact⟨_,rfl,by lia,by lia⟩
   ·exact⟨_,rfl,by lia,by lia⟩
   ·exact⟨_,rfl,by lia,by lia⟩
   ·exact⟨_,rfl,by lia,by lia⟩
  refine⟨_,rfl,nl,rfl,⟨_,ZE.of (U4.same S).nm⟩,?_⟩;refine V0 (ns.map V.str) (fun i σ H'=>∃v5:Option V,σ = [some (.ref s),some (.ref p),some (.ref W.dl),some (.ref nl),some (.int day),v5]/\ZA H4 H') ⟨_,rfl,S⟩ (fun i σ H' _ ⟨_,_,S⟩=>ZE.of (U4.same S).nm) ?_ (fun σ H' ⟨_,e,S⟩=>⟨_,_,e,S⟩);rintro i y σ H' hy ⟨v5,rfl,S⟩;obtain⟨n,hn,rfl⟩:=yY.mp (xJ hy);obtain⟨d,hc,c0,c3⟩:=R.com n hn;have UX:=U4.same S;obtain⟨M,wa,xs,qs,hM,WM,_⟩:=id UX.w;obtain⟨dm,obm⟩:=WM.ob;have ep:∀l:List V,V.ref p::l=V.ref M.p::l:=fun l=>by rw[hM]
  rw[hM] at obm;refine Yc ?_;refine Vf fun D1 hn1=>?_;refine⟨_,rfl,_,rfl,W.dl,fx,as,n,d,rfl,UX.wd.d,hc,_,rfl,_,_,rfl,rfl,?_⟩;refine(fun(j:∀H2,ZA H' H2->D1.nx [some (.ref s),some (.ref p),some (.ref W.dl),some (.ref nl),some (.int day),some (.str n)] H2)=>?_) ?_
  ·refine⟨_,rfl,IL (fun z=>?_) (fun _=>j _ (ZA.refl _))⟩;have z:=of_decide_eq_true z;exact⟨_,rfl,p,dm,_,rfl,obm,Yh _ (by decide +kernel),_,rfl,_,rfl,M,_,wa,xs,_,qs,n,day,d,_,ep _,WM,xX R.k.ln (xX R.ln (by decide)),y0,y1,hc,z,(R.k.fo.isW hc z).1,fun H5 S5=>⟨_,rfl,_,rfl,_,rfl,W.dl,fx,as,n,day,rfl,(UX.same S5).wd.d,fun H6 S6=>⟨_,_,.int _,rfl,rfl,rfl,trivial,fun H7 S7=>⟨_,rfl,Z1 (j _ ((S5.trans S6).trans S7))⟩⟩⟩⟩
  intro H2 S2;refine hn1 _ _ ?_;have UY:=UX.same S2;refine Vf fun D2 hn2=>?_;refine⟨_,rfl,p,dm,_,rfl,S2 _ _ obm,Yh _ (by decide +kernel),_,rfl,_,rfl,M,_,wa,xs,_,qs,n,d,day,ep _,WM.same S2,hc,y0,y1,_,rfl,_,rfl,_,rfl,W.dl,fx,as,n,day,rfl,UY.wd.d,fun H3 S3=>⟨_,_,.bl _,rfl,rfl,rfl,trivial,fun H5 S5=>⟨_,rfl,Z1 (hn2 _ _ ?_)⟩⟩⟩;have S6:=(S2.trans S3).trans S5;obtain⟨b,m,hst,hb⟩:=R.rk.stands R.ln n day;exact⟨_,rfl,p,dm,_,rfl,S6 _ _ obm,Yh _ (by decide +kernel),_,rfl,_,rfl,M,_,wa,xs,_,qs,n,m,d,day,b,ep _,WM.same S6,hc,y0,y1,hst,_,rfl,_,rfl,_,rfl,W.dl,fx,as,n,m,day,b,rfl,(UX.same S6).wd.d,hst,hb,fun H7 S7=>⟨_,_,.str _,rfl,rfl,rfl,trivial,fun H8 S8=>⟨_,rfl,Z1 ⟨_,rfl,(S.trans S6).trans (S7.trans S8)⟩⟩⟩⟩
 rintro σ H5 ⟨v4,v5,rfl,S⟩;have UX:=U4.same S;obtain⟨M,wa,xs,qs,hM,WM,_⟩:=id UX.w;obtain⟨dm,obm⟩:=WM.ob;have ep:∀l:List V,V.ref p::l=V.ref M.p::l:=fun l=>by rw[hM]
 rw[hM] at obm;refine⟨_,rfl,p,dm,_,rfl,obm,Yh _ (by decide +kernel),M,_,wa,xs,_,qs,ep _,WM,fun r hr'=>?_⟩;rw[R.cm];have Sr:=ZA.new (o:=.lst (ns.map V.str)) hr';have kr:(upd H5 r (.lst (ns.map V.str))) r=some (.lst (ns.map V.str)):=Zg;generalize (upd H5 r (.lst (ns.map V.str)))=H6 at Sr kr ⊢;have UR:=UX.same Sr;exact⟨_,rfl,_,_,.lst (ns.map .str),rfl,⟨_,_,rfl,kr,DA _⟩,⟨_,_,rfl,UR.nm,DA _⟩,fun d hd=>by obtain⟨x,_,rfl⟩:=yY.mp hd;trivial,fun H7 S7=>k _ (UR.same S7)⟩
end
theorem YB.more(R:YB ds i)(h:∀n,Zx ds' n=Zx ds n):YB ds' (i+1):=by
 obtain⟨r,r1,r2,r3⟩:=R;exact⟨r,fun n x e=>r1 n x (by rw[← h];exact e),fun n e=>r2 n (by rw[← h];exact e),fun n=>zP (r3 n)⟩
theorem YB.sd(R:YB ds i)(e:eSD ds m d=none):YB (sdF ds d) (i+1):=by
 cases d with
 | come n day wt=>exact R.more fun x=>CZ x
 | rise n day wt=>exact R.more fun x=>CY x
 | die n he day =>
  simp only[eSD,JZ,yM] at e;obtain⟨⟨_,_,_,_,_,h1,h2⟩,_⟩:=e;have h1:Zx ds n=none:=by
   unfold Jw at h1
   by_cases z:Zx ds n=none
   ·exact z
   ·rw[if_neg z] at h1;cases h1
  have h2:¬(he=n\/Zx ds he≠none):=fun z=>by rw[if_pos z] at h2;cases h2
  exact R.die h1 (Classical.byContradiction fun z=>h2 (.inr z)) (fun z=>h2 (.inl z))
 | _=>exact R.more fun _=>rfl
theorem T8.ranked(h:T8 as):YB (Zh as).1 as.length:=by
 have g:∀i,i<=as.length->YB (Zh (as.take i)).1 i:=by
  intro i
  induction i with
  | zero=>exact fun _=>⟨fun _=>0,fun n x e=>(by cases e),fun _ _=>rfl,fun _=>xD _⟩
  | succ i ih =>
   intro hi;obtain⟨x,hx⟩:∃x,as[i]? = some x:=⟨_,xB (by lia)⟩;have R:=ih (by lia);have gr:=h.2 i x hx;rw[show as.take (i+1)=as.take i ++ [x] by rw[xV,hx];rfl,Uc];cases x with
   | s d=>exact R.sd gr.2.1
   | c d day need o1 o2 f=>exact R.more fun _=>rfl
 have:=g as.length (xD _)
 rwa [yC] at this
theorem Rg.of(k:Wk ns as)(t:As ns ns.length (Zh as).1)(h:as.length<=40):Rg ns as :=
 ⟨k,by rw[t.cm,yC],fun n hn=>t.com n (by rw[yC];exact hn),k.g.ranked,h⟩
theorem Rg.snoc(R:Rg ns as)(hd:dOk ns d)(e:eSD (Zh as).1 (Zh as).2 d=none)(hl:as.length < 40):Rg ns (as ++ [.s d]):=by
 have K:=R.k.snoc hd e;have hc:Wi (sdF (Zh as).1 d)=Wi (Zh as).1/\∀n,Zl (sdF (Zh as).1 d) n=Zl (Zh as).1 n:=by
  cases d with
  | come n day wt =>
   have e:((Ui (Zh as).1 n day wt).or (Yr (Zh as).2))=none:=e;obtain⟨_,_,_,hc,_⟩:=DS (yM.mp e).1;obtain⟨x,z,_⟩:=R.com n hd.1;rw[hc] at z;cases z
  | rise n day wt=>exact⟨by show Wi (_++_)=_;rw[AS];exact yD _,fun x=>Cv x⟩
  | die n he day=>exact⟨by show Wi (_++_)=_;rw[AS];exact yD _,fun x=>Dp x⟩
  | _=>exact⟨rfl,fun _=>rfl⟩
 refine⟨K,?_,fun n hn=>?_,K.g.ranked,by rw[Wq];lia⟩
 ·rw[Uc];exact hc.1.trans R.cm
 ·rw[Uc];obtain⟨x,z,y⟩:=R.com n hn;exact⟨x,(hc.2 n).trans z,y⟩
theorem Rg.snocC(R:Rg ns as)(K:Wk ns (as ++ [.c d day need o1 o2 f]))(hl:as.length < 40):Rg ns (as ++ [.c d day need o1 o2 f]):=by
 refine⟨K,?_,fun n hn=>?_,K.g.ranked,by rw[Wq];lia⟩
 ·rw[Uc];exact R.cm
 ·rw[Uc];exact R.com n hn
section
variable{C CM p s la nl:eF}{W:WL}{ns:dX}{H H':Hp}{fx:eA}{as:List AD}{O O':eF->Prop}{q:eF}
def Bh(ns:dX)(O:eF->Prop)(s:eF)(W:WL)(H:Hp)(q:eF):Prop :=
 (∃d,H q=some (.tup (sdV d))/\dOk ns d)\/
 ∃l1 l2 d day need o1 o2,H q=some (.tup (cdV day need l1 l2 d))/\H l1=some (.lst (o1.map V.str))/\H l2=some (.lst (o2.map V.str))/\cOk ns d/\CQ ns need o1 o2/\(0<=day/\day<=9999)/\∀b ∈ [l1,l2],¬O b/\b ∉ [s,W.dl,W.sl,W.tl]
def Qb(ns:dX)(as:List AD)(H:Hp)(fx:eA)(q:eF)(x:AD):Prop :=
 Wk ns (as ++ [x])/\kss as (Zh as).2.trials x=(Zh (as ++ [x])).2.trials/\YA (fz fx H) (adT x) (.ref q)/\∀d day need o1 o2 f,x = .c d day need o1 o2 f->o1.length<=60/\o2.length<=60
theorem Ww.tryD(U:Ww C CM p s la nl W ns H fx (Zh as) as O)(k:Wk ns as)(h:Bh ns O s W H q){Q:V->Hp->Prop}{E:XK}(g:∀ (l:eF) (tv:List V) (H':Hp) (O':eF->Prop),H' l=some (.lst tv)->YL O H O' H'->(tv = []/\Ww C CM p s la nl W ns H' fx (Zh as) as O')\/(∃ (v:V) (x:AD) (fx':eA),tv = [v]/\Ww C CM p s la nl W ns H' fx' (Zh (as ++ [x])) as O'/\Qb ns as H' fx' q x/\(∀b∈fx',b∈fx\/∃u,H b=some (.lst u))/\((∃d,x = .s d/\v=sdR (Zh as).2 d/\dOk ns d/\eSD (Zh as).1 (Zh as).2 d=none)\/∃d day need o1 o2 f,x = .c d day need o1 o2 f/\v = .int (Zh as).2.trials.length))->Q (.ref l) H') :
  (Sp.or (WT C CM) (WN C CM)) [.ref p,.ref q] H Q E:=by
 rcases h with⟨d,hq,hd⟩ | ⟨l1,l2,d,day,need,o1,o2,hq,h1,h2,hd,hS,hy,hl⟩
 ·refine U.tryS k hq hd fun l tv H1 O1 kl F hc=>g l tv H1 O1 kl F (hc.imp (fun z=>⟨z.1,z.2.2⟩) fun⟨e1,e2,U1⟩=>⟨_,.s d,fx,e1,U1,⟨k.snoc hd e2,?_,?_,?_⟩,fun b hb=>.inl hb,.inl ⟨d,rfl,rfl,hd,e2⟩⟩)
  ·rw[Uc];cases d<;>rfl
  ·exact⟨q,_,rfl,Yz (F.1 _ _ hq (U.w.ntup hq)),Bd _ d⟩
  ·exact fun _ _ _ _ _ _ z=>by cases z
 ·obtain⟨s0,s1,s2,s3,s4,s5⟩:=hS;rw[xE] at s5;refine U.tryC k hq h1 h2 hd s2 (by lia) (by lia) (Wz hy.1 (by lia)) (Wz (by lia) (by lia)) fun l tv H1 O1 kl F hc=>g l tv H1 O1 kl F (hc.imp (fun z=>⟨z.1,z.2.2⟩) fun⟨e1,e2,U1⟩=>?_);have n1:=hl l1 (by simp);have n2:=hl l2 (by simp);have k1:=F.1 _ _ h1 n1.1;have k2:=F.1 _ _ h2 n2.1;have no:∀{b:eF}{o:HO},H b=some o->¬O b->¬O1 b:=fun e n z=>(F.2 _ z).elim n (fun y=>by rw[e] at y;cases y);have U2:=U1.more (gx:=[l1,l2]) fun b hb=>by grind
  refine⟨_,.c d day need o1 o2 (wf as day),[l1,l2]++fx,e1,U2,⟨k.snocC hd s2 s4 (by lia) (by lia) e2,?_,?_,?_⟩,fun b hb=>?_,.inr ⟨_,_,_,_,_,_,rfl,rfl⟩⟩
  ·rw[Uc];cases d<;>rfl
  ·exact⟨q,_,rfl,Yz (F.1 _ _ hq (U.w.ntup hq)),KL (V8 (by simp) k1) (V8 (by simp) k2) d⟩
  ·intro d' day' need' o1' o2' f' e;cases e;exact⟨by lia,by lia⟩
  ·grind
theorem Ww.drawn(U:Ww C CM p s la nl W ns H fx (Zh as) as O)(k:Wk ns as){Q:V->Hp->Prop}{E:XK}(g:∀ (q:eF) (H':Hp),Ww C CM p s la nl W ns H' fx (Zh as) as O->Bh ns O s W H' q->Q (.ref q) H'):UT [.ref s,.ref W.wl,.ref nl] H Q E:=by
 have al:=k.wok.al;have sl:=k.wok.sl;have bl:(as.filter Vn).length<=1000:=xX (yO _ _) al;refine⟨s,la,nl,ns,W,fx,as,as.filter isC,(Zh as).2.trials,rfl,U.sr,U.wd,k.wok,U.nm,fun z=>U.nn (by rw[z];simp),fun q d H' hd fq hq hs sx=>g q H' (U.x hs sx) (.inl ⟨d,hq,bI hd bl⟩),fun q l1 l2 d day dy need o1 o2 H' hdy hC hS fq f1 f2 hq h1 h2 hs sx=>g q H' (U.x hs sx) (.inr ⟨l1,l2,d,dy,need,o1,o2,hq,h1,h2,Of hC bl sl,hS,MG hC hdy,fun b hb=>?_⟩)⟩;have fb:H b=none:=by grind
 exact⟨U.w.out fb,U.new fb⟩
theorem Bh.x(h:Bh ns O s W H q)(hs:ZJ H s la)(k:ZF s H H'):Bh ns O s W H' q:=by
 obtain⟨_,_,_,_,_,a,_⟩:=hs;have kt:∀{b t},H b=some (.tup t)->H' b=some (.tup t):=fun {b t} e=>k _ _ (fun z=>by rw[z,a] at e;cases e) e;rcases h with⟨d,hq,hd⟩ | ⟨l1,l2,d,day,need,o1,o2,hq,h1,h2,hd,hS,hy,hl⟩
 ·exact .inl ⟨d,kt hq,hd⟩
 ·exact .inr ⟨l1,l2,d,day,need,o1,o2,kt hq,k _ _ (fun z=>(hl l1 (by simp)).2 (by rw[z];simp)) h1,k _ _ (fun z=>(hl l2 (by simp)).2 (by rw[z];simp)) h2,hd,hS,hy,hl⟩
end
abbrev Be:Stmt:=top 83
theorem RF:ZM ["_law_script","_law_src_here","_law_moot","_law_world","_law_names_here","_law_k","_law_deed_here","_law_word_here","_law_last"] ["_law_script"] (Zp Be):=fsc
theorem LX(F_law:Tn K "law" "law" Be f fd)(T:Txt mg)(Tm:ZK K CM)(Z2o:Fn P w K mg base "_law_src" ["_law_script"] 1 (JW K))(Z6:Fn P w K mg base "_law_next" ["_law_src_here","_law_base"] 1 YE)(Z2p:Fn P w K mg base "_law_names" ["_law_src_here","_law_many"] 3 Tj)(M_Moot:Cw P w K mg base CM "Moot" 3 (Tu C CM))(Vo:Fn P w K mg base "_law_one" ["_law_src_here","_law_names_here"] 2 UZ)(Z2q:Fn P w K mg base "_law_start" ["_law_src_here","_law_moot","_law_world","_law_names_here"] 10 (Tb C CM))(Z2r:Fn P w K mg base "_law_deed" ["_law_src_here","_law_world","_law_names_here"] 5 UT)(Zis:Fn P w K mg base "_law_try" ["_law_moot","_law_deed_here"] 9 (Sp.or (WT C CM) (WN C CM)))(Zit:Fn P w K mg base "_law_keep" ["_law_world","_law_deed_here"] 2 VT)(Zo7:Fn P w K mg base "_law_right" ["_law_src_here","_law_moot","_law_deeds","_law_names_here"] 7 (Tq C CM)):YF P w K mg base VA 11 f fd ["_law_script"] (Do K):=by
 refine F_law.okQ RF (fun vs H Q E h=>?_) (fun cdv A outer s0 H vs Q E hr h=>?_)
 ·obtain⟨a,ns,rfl,_⟩:=h;rfl
 ·obtain⟨a0,ks,rfl,hS,hlen,k⟩:=h;refine⟨_,(Zc (Zz 1 (Zj Z2o (Za Q0 Zb))) (Zc (Zz 2 (KM M_Moot)) (Zc (Zz 3 (Yl (Za (Yl Zb) (Za (Yl Zb) (Za (Yl Zb) Zb))))) (Zc (Zz 4 (Zj Z2p (Za Q1 (Za (Z2 Wc Zd (Zj Z6 (Za Q1 (Za Zd Zb)))) Zb)))) (Zc (Zk (Zj Z2q (Za Q1 (Za Q2 (Za Q3 (Za Q4 Zb)))))) (Zc (Ws PassesOwn.never rfl (Au T.range (Za (Zj Z6 (Za Q1 (Za Zd Zb))) Zb)) (Yt 5) (Zc (Zz 6 (Zj Z2r (Za Q1 (Za Q3 (Za Q4 Zb))))) (Zc (Zo (Zr Ym (Zj Z6 (Za Q1 (Za Zd Zb))) Zd (Zu _)) (Zc (Zz 7 (Zi Yb (Yl (Za Z7 (Za Z7 Zb))) (Zj Z6 (Za Q1 (Za Zd Zb))) (fun _ _=>rfl))) (Zc (Zz 8 (Zi Yb (Yl (Za (Z2 Wc Zd (Zj Z6 (Za Q1 (Za Zd Zb)))) (Za (Zj Vo (Za Q1 (Za Q4 Zb))) Zb))) (Um OS T.int EZ (Za (Ut Ym Q7 Z7 (Zu _)) Zb)) (fun _ _=>rfl))) (Zf (Zz 6 (Z9 (Za Q7 (Za (Zj Vo (Za Q1 (Za Q4 Zb))) (Za (Z2 Wc Zd (Zj Z6 (Za Q1 (Za Zd Zb)))) (Za (qvN 8) Zb))))))))) Zn) (Zc (Zo (Zr Am (Z3 Yv T.len Yk (Za (Zj Zis (Za Q2 (Za Q6 Zb))) Zb)) Zd (Zu _)) (Zf (Zk (Zj Zit (Za Q3 (Za Q6 Zb))))) Zn) (Zf (Zo (QW.pt (Vv (Zr Ym (Zj Z6 (Za Q1 (Za Zd Zb))) Zd (Zu _)) (Us (Vk (Wt (Zj Zo7 (Za Q1 (Za Q2 (Za (Zi Yb Q3 Zd (fun _ _=>rfl)) (Za Q4 Zb)))))))))) (Zf (Zt Uf)) Zn)))))) (Zf (Zt (Zj Zo7 (Za Q1 (Za Q2 (Za (Zi Yb Q3 Zd (fun _ _=>rfl)) (Za Q4 Zb))))))))))))),?_⟩;have hz:(5000:Nat)<=sizeLine:=by decide
  refine Vf fun D1 hn1=>?_;refine⟨_,rfl,a0,ks,rfl,hS,fun s la H1 hs hla hs1 sm1=>hn1 _ _ ?_⟩;refine Vf fun D2 hn2=>?_;intro p dx nx ndx nex;refine⟨p,dx,rfl,Zg,fun M H2 hM W2 kp fr=>⟨rfl,hn2 _ _ ?_⟩⟩;have sm2:ZA H1 H2:=fun b o e=>kp b o (by rw[Ze (Zm e nx),Ze (Zm e ndx)];exact e) (Zm e nx);have no2:∀b o,H1 b=some o->¬mo M [] (fun _=>0) [] [] b:=fun b o e z=>by
   rcases fr b z with y | y
   ·rw[y,nx] at e;cases e
   ·have nb:b≠p:=fun z=>by rw[z,nx] at e;cases e
    rw[Ze nb,Ze (Zm e ndx),e] at y;cases y
  obtain⟨_,_,_,_,_,hq1,hq2,_⟩:=id hs1;have W3:YD C CM H2 p (Zh []).1 (Zh []).2 (mo M [] (fun _=>0) [] []):=⟨M,_,[],[],hM,W2,rfl⟩;have ns1:=no2 _ _ hq1;have ns2:=no2 _ _ hq2;have hs2:=hs1.keep sm2;generalize mo M [] (fun _=>0) [] []=O3 at W3 ns1 ns2;clear W2 kp fr nex no2;refine Vf fun D3 hn3=>?_;refine⟨by show 0<=sizeLine;decide,fun dl hdl=>⟨by show 0<=sizeLine;decide,fun sl hsl=>⟨by show 0<=sizeLine;decide,fun tl htl=>⟨by show 3<=sizeLine;decide,fun wl hwl=>Yc (hn3 _ _ ?_)⟩⟩⟩⟩;have S1:=ZA.new (o:=.lst []) hdl;have k1:(upd H2 dl (.lst [])) dl=some (.lst []):=Zg;generalize (upd H2 dl (.lst []))=Ha at *;have S2:=ZA.new (o:=.lst []) hsl;have k2:(upd Ha sl (.lst [])) sl=some (.lst []):=Zg;generalize (upd Ha sl (.lst []))=Hb at *;have S3:=ZA.new (o:=.lst []) htl;have k3:(upd Hb tl (.lst [])) tl=some (.lst []):=Zg;generalize (upd Hb tl (.lst []))=Hc at *;have S4:=ZA.new (o:=.lst [.ref dl,.ref sl,.ref tl]) hwl;have k4:(upd Hc wl (.lst [.ref dl,.ref sl,.ref tl])) wl=some (.lst [.ref dl,.ref sl,.ref tl]):=Zg;generalize (upd Hc wl (.lst [.ref dl,.ref sl,.ref tl]))=Hd at *;have S34:=S3.trans S4;have S24:=S2.trans S34;have S14:=S1.trans S24;refine Vf fun D4 hn4=>?_;refine⟨_,rfl,_,rfl,s,la,6,rfl,hs2.keep S14,by decide,by decide,fun z H4 z0 z1 hs4 sx4=>⟨_,_,rfl,rfl,s,la,2+z,rfl,hs4,by lia,by lia,fun nl ns H5 hnl hnd hnm fnl knl hs5 sx5=>Yc (hn4 _ _ ?_)⟩⟩;have s2:=sm2 _ _ hq1;have l2:=sm2 _ _ hq2;have up:∀{b:eF}{o:HO},Hd b=some o->b≠s->H5 b=some o:=fun e n=>sx5 _ _ n (sx4 _ _ n e);have d1:dl≠s:=Zm s2 hdl |>.symm
  have d2:sl≠s:=Zm (S1 _ _ s2) hsl |>.symm
  have d3:tl≠s:=Zm ((S1.trans S2) _ _ s2) htl |>.symm
  have d4:wl≠s:=Zm (((S1.trans S2).trans S3) _ _ s2) hwl |>.symm
  have e1:dl≠la:=Zm l2 hdl |>.symm
  have e2:sl≠la:=Zm (S1 _ _ l2) hsl |>.symm
  have e3:tl≠la:=Zm ((S1.trans S2) _ _ l2) htl |>.symm
  have f1:sl≠dl:=Zm k1 hsl |>.symm
  have f2:tl≠dl:=Zm (S2 _ _ k1) htl |>.symm
  have f3:wl≠dl:=Zm ((S2.trans S3) _ _ k1) hwl |>.symm
  have f4:tl≠sl:=Zm k2 htl |>.symm
  have f5:wl≠sl:=Zm (S3 _ _ k2) hwl |>.symm
  have f6:wl≠tl:=Zm k3 hwl |>.symm
  have g1:nl≠dl:=Zm (sx4 _ _ d1 (S24 _ _ k1)) fnl |>.symm
  have g2:nl≠sl:=Zm (sx4 _ _ d2 (S34 _ _ k2)) fnl |>.symm
  have g3:nl≠tl:=Zm (sx4 _ _ d3 (S4 _ _ k3)) fnl |>.symm
  have W4:=W3.same S14;obtain⟨_,_,_,_,_,q4,_⟩:=id (hs2.keep S14);have W5:YD C CM H5 p (Zh []).1 (Zh []).2 O3:=by
   obtain⟨_,_,_,_,_,q5,_⟩:=id hs4;exact YD.x (YD.x W4 q4 ns1 sx4) q5 ns1 sx5
  have U:Ww C CM p s la nl ⟨wl,dl,sl,tl⟩ ns H5 [] (Zh []) [] O3:=by
   have o1:=W3.out hdl;have o2:=(W3.same S1).out hsl;have o3:=(W3.same (S1.trans S2)).out htl;have o4:=(W3.same ((S1.trans S2).trans S3)).out hwl;have o5:=(YD.x W4 q4 ns1 sx4).out fnl;obtain⟨_,_,_,_,_,q5,q6,_,q7⟩:=id hs5;have g0:nl≠s:=fun z=>by obtain⟨_,_,_,_,_,q5,_⟩:=id hs4;rw[z,q5] at fnl;cases fnl
   have u1:=up (S24 _ _ k1) d1;have u2:=up (S34 _ _ k2) d2;have u3:=up (S4 _ _ k3) d3;have u4:=up k4 d4;refine⟨W5,hs5,⟨u4,⟨[],u1,rfl⟩,⟨[],u2,rfl⟩,⟨[],u3,rfl⟩,?_,?_,fun b hb=>nomatch hb⟩,knl,?_,?_,?_⟩
   ·intro b hb;simp only[xC,xS,or_false] at hb;rcases hb with rfl | rfl | rfl | rfl<;>assumption
   ·simp only[yJ,xC,xS,or_false,not_or,not_false_eq_true,List.nodup_nil,and_true];exact⟨⟨f3,f5,f6⟩,⟨f1.symm,f2.symm⟩,f4.symm⟩
   ·intro b hb;simp only[xC,xS,or_false] at hb;rcases hb with rfl | rfl | rfl | rfl | rfl | rfl | rfl
    ·exact⟨ns1,_,q5⟩
    ·exact⟨ns2,_,q6⟩
    ·exact⟨o5,_,knl⟩
    ·exact⟨o4,_,u4⟩
    ·exact⟨o1,_,u1⟩
    ·exact⟨o2,_,u2⟩
    ·exact⟨o3,_,u3⟩
   ·simp only[xC,xS,or_false,not_or];exact⟨g0,g1,g2,g3⟩
   ·simp only[xC,xS,or_false,not_or];exact⟨q7,e1.symm,e2.symm,e3.symm⟩
  have K0:Wk ns []:=Wk.nil hnm hnd (by lia) (by lia);generalize hW:(⟨wl,dl,sl,tl⟩:WL)=W at U;have hw:wl=W.wl:=by rw[← hW]
  have hd':dl=W.dl:=by rw[← hW]
  refine Vf fun D5 hn5=>?_;refine⟨_,rfl,_,rfl,_,rfl,_,rfl,p,s,la,nl,W,ns,[],O3,by rw[← hw],U,K0,by lia,fun fx as O H6 V6 K6 T6 l6=>hn5 _ _ ?_⟩;have R6:=Rg.of K6 T6 (by lia);have nls:nl≠s:=fun z=>U.nn (by rw[z];simp);have nsl:ns.length<=7:=by lia
  clear U K0 T6;refine Vf fun D6 hn6=>?_;refine⟨_,rfl,s,la,19,rfl,V6.sr,by decide,by decide,fun m H7 m0 m1 hs7 sx7=>?_⟩;have V7:=V6.x hs7 sx7;refine⟨_,rfl,by lia,by lia,?_⟩;refine Bb m.toNat (by lia) (fun i σ H'=>∃(v5 v6 v7 v8:Option V)(fx:eA)(as:List AD)(O:eF->Prop),σ = [some (.ref a0),some (.ref s),some (.ref p),some (.ref W.wl),some (.ref nl),v5,v6,v7,v8]/\Ww C CM p s la nl W ns H' fx (Zh as) as O/\Rg ns as/\as.length<=ns.length+2+i) ⟨none,none,none,none,fx,as,O,by rw[← hw];rfl,V7,R6,by lia⟩ ?_ ?_
  ·rintro i σ H' hi ⟨v5,v6,v7,v8,fx,as,O,rfl,U,R,hl⟩;refine Vf fun D7 hn7=>?_;refine⟨_,rfl,_,rfl,_,rfl,?_⟩;dsimp only [Vl];refine U.drawn R.k fun q H1 U1 dr=>hn7 _ _ ?_;refine Uw (fun σ H'=>∃(v7 v8:Option V)(q:eF),σ = [some (.ref a0),some (.ref s),some (.ref p),some (.ref W.wl),some (.ref nl),some (.int (0+i)),some (.ref q),v7,v8]/\Ww C CM p s la nl W ns H' fx (Zh as) as O/\Bh ns O s W H' q) ?_ ?_
   ·rintro σ H2 ⟨v7,v8,q,rfl,U2,dr2⟩;refine Uw (fun σ H'=>∃(v7 v8:Option V)(fx:eA)(as':List AD)(O:eF->Prop),σ = [some (.ref a0),some (.ref s),some (.ref p),some (.ref W.wl),some (.ref nl),some (.int (0+i)),some (.ref q),v7,v8]/\Ww C CM p s la nl W ns H' fx (Zh as') as' O/\Rg ns as'/\as'.length<=as.length+1) ?_ ?_
    ·rintro σ H3 ⟨v7,v8,fx,as',O,rfl,U3,R3,l3⟩;refine⟨_,rfl,s,la,4,rfl,U3.sr,by decide,by decide,fun n4 H4 n40 n41 hs4 sx4=>?_⟩;have U4:=U3.x hs4 sx4;have fin:∀{H':Hp}{σ:St},σ = [some (.ref a0),some (.ref s),some (.ref p),some (.ref W.wl),some (.ref nl),some (.int (0+i)),some (.ref q),v7,v8]->Ww C CM p s la nl W ns H' fx (Zh as') as' O->∃(v5 v6 v7 v8:Option V)(fx:eA)(as:List AD)(O:eF->Prop),σ = [some (.ref a0),some (.ref s),some (.ref p),some (.ref W.wl),some (.ref nl),v5,v6,v7,v8]/\Ww C CM p s la nl W ns H' fx (Zh as) as O/\Rg ns as/\as.length<=ns.length+2+(i+1):=fun e U=>⟨_,_,_,_,fx,as',O,e,U,R3,by lia⟩;refine⟨rfl,_,rfl,Z0 (fun z=>?_) (fun z=>Z1 (fin rfl U4))⟩;exact⟨_,rfl,_,rfl,_,rfl,W.wl,_,0,_,rfl,rfl,ZE.of U4.wd.e,rfl,_,rfl,p,s,la,nl,W,ns,fx,as',O,rfl,U4,R3,fun H8 U8=>⟨_,rfl,Z1 (fin rfl U8)⟩⟩
    ·intro D8 hn8 _ _ _;refine⟨_,rfl,_,rfl,U2.tryD R.k dr2 fun l tv H3 O3 kl F3 hc=>?_⟩;rcases hc with⟨rfl,U3⟩ | ⟨v,x,fx3,rfl,U3,kp,_,hx⟩
     ·exact⟨l,_,rfl,.inl (ZE.of kl),_,_,rfl,rfl,_,rfl,Z0 (fun z=>absurd z (by decide)) (fun _=>hn8 _ _ ⟨_,_,fx,as,O3,rfl,U3,R,by lia⟩)⟩
     ·refine⟨l,_,rfl,.inl (ZE.of kl),_,_,rfl,rfl,_,rfl,Z0 (fun _=>?_) (fun z=>absurd (show (0:Int) < 1 by decide) z)⟩;refine⟨_,rfl,_,rfl,?_⟩;dsimp only [Vl];refine U3.keep R.k kp.2.1 kp.2.2.1 kp.2.2.2 fun fx7 H7 U7 f7 g7=>hn8 _ _ ⟨_,_,fx7,_,O3,rfl,U7,?_,by rw[Wq];lia⟩;rcases hx with⟨d,rfl,_,hd,he⟩ | ⟨d,day,need,o1,o2,f,rfl,_⟩
      ·exact R.snoc hd he (by lia)
      ·exact R.snocC kp.1 (by lia)
   ·intro D8 hn8 _ _ _;refine⟨_,rfl,s,la,2,rfl,U1.sr,by decide,by decide,fun n2 H2 n20 n21 hs2 sx2=>?_⟩;have U2:=U1.x hs2 sx2;have dr2:=dr.x U1.sr sx2;refine⟨rfl,_,rfl,Z0 (fun z=>?_) (fun z=>hn8 _ _ ⟨_,_,q,rfl,U2,dr2⟩)⟩;refine Vf fun D9 hn9=>?_;refine⟨by show 2<=sizeLine;lia,fun l hl=>?_⟩;have T3:=ZA.new (o:=.lst [.str "rise", .str "die"]) hl;have k3:(upd H2 l (.lst [.str "rise", .str "die"])) l=some (.lst [.str "rise", .str "die"]):=Zg;generalize (upd H2 l (.lst [.str "rise", .str "die"]))=H3 at T3 k3 ⊢;have U3:=U2.same T3;have nl3:l≠s:=(U2.sr.ne hl).1;refine⟨_,rfl,s,la,2,rfl,U3.sr,by decide,by decide,fun j H4 j0 j1 hs4 sx4=>?_⟩;have U4:=U3.x hs4 sx4;obtain⟨wd,hwd,hwo⟩:∃wd:Str,atI [V.str "rise", V.str "die"] j=some (.str wd)/\(wd = "rise" \/ wd = "die"):=by
     rcases(show j=0\/j=1 by lia) with rfl | rfl
     ·exact⟨_,rfl,.inl rfl⟩
     ·exact⟨_,rfl,.inr rfl⟩
    refine⟨l,_,_,.str wd,rfl,rfl,ZE.of (sx4 _ _ nl3 k3),hwd,hn9 _ _ ?_⟩;refine Vf fun D10 hn10=>?_;refine⟨_,rfl,s,la,1000,rfl,U4.sr,by decide,by decide,fun x H5 x0 x1 hs5 sx5=>?_⟩;have U5:=U4.x hs5 sx5;refine⟨_,_,rfl,rfl,_,rfl,_,rfl,s,la,nl,ns,rfl,U5.sr,U5.nm,nls,R.k.n0,R.k.n1,fun y H6 my hs6 sx6=>?_⟩;have U6:=U5.x hs6 sx6;refine⟨by show 2<=sizeLine;lia,fun l2 hl2=>?_⟩;have T7:=ZA.new (o:=.lst [.int (1+x),.str y]) hl2;have k7:(upd H6 l2 (.lst [.int (1+x),.str y])) l2=some (.lst [.int (1+x),.str y]):=Zg;generalize (upd H6 l2 (.lst [.int (1+x),.str y]))=H7 at T7 k7 ⊢;have U7:=U6.same T7;have fin:∀{v:V}(d:Str->Int->SD),(∀n day,sdV (d n day)= [.str wd,.str n,.int day,v])->(∀n day,n∈ns->okI day->dOk ns (d n day))->D10.nx [some (.ref a0),some (.ref s),some (.ref p),some (.ref W.wl),some (.ref nl),some (.int (0+i)),some (.ref q),some (.str wd),some v] H7:=fun {v} d hd ho=>by
     refine hn10 _ _ ?_;refine⟨_,rfl,_,rfl,_,rfl,s,la,nl,ns,rfl,U7.sr,U7.nm,nls,R.k.n0,R.k.n1,fun n H8 mn hs8 sx8=>?_⟩;have U8:=U7.x hs8 sx8;refine⟨_,rfl,s,la,25,rfl,U8.sr,by decide,by decide,fun dd H9 d0 d1 hs9 sx9=>?_⟩;have U9:=U8.x hs9 sx9;refine⟨_,_,rfl,rfl,_,rfl,by show 4<=sizeLine;lia,fun q2 hq2=>hn8 _ _ ⟨_,_,q2,rfl,U9.same (ZA.new hq2),.inl ⟨d n (3+dd),?_,ho _ _ mn (Wz (by lia) (by lia))⟩⟩⟩;rw[hd];exact Zg
    rcases hwo with rfl | rfl
    ·exact⟨_,rfl,rfl,_,rfl,l2,_,_,.int (1+x),rfl,rfl,ZE.of k7,rfl,fin (fun n day=>.rise n day (1+x)) (fun _ _=>rfl) fun n day hn hd=>⟨hn,hd,Wz (by lia) (by lia)⟩⟩
    ·exact⟨_,rfl,rfl,_,rfl,l2,_,_,.str y,rfl,rfl,ZE.of k7,rfl,fin (fun n day=>.die n y day) (fun _ _=>rfl) fun n day hn hd=>⟨hn,my,hd⟩⟩
  ·rintro σ H' ⟨v5,v6,v7,v8,fx,as,O,rfl,U,R,hl⟩;refine hn6 _ _ ?_;exact⟨_,rfl,_,rfl,_,rfl,W.wl,_,0,_,rfl,rfl,ZE.of U.wd.e,rfl,_,rfl,p,s,la,nl,W,ns,fx,as,O,rfl,U,R,fun H8 _=>k H8⟩
def cE(x:Str):eF:=(([("MootError", 38),("NoName", 58),("NoMeasure", 77),("Unknown", 96),("Taken", 115),("NoThing", 134),("NoCase", 153),("NoOath", 172),("NotYet", 191),("Dead", 210),("NoHeir", 229),("TooMany", 248),("SwornTwice", 267),("Forsworn", 286),("TooLight", 305),("Broken", 324),("NoDeed", 343)]:List (Str×eF)).lookup x).getD 0
local macro_rules | `(tactic| walk_at "k")=>`(tactic| ((repeat' (refine And.intro ?_ ?_))<;>kernel_rfl))
theorem all_mk{Pz:eG}{w:eI}{h:Heap}{mg:dW}{fa:eF}(X:(KK w.params).In h)(G:h.Ns mainGlobals mg)(hfa:mg "law" = some (.ref fa)) :
  ∃fd:FuncData,(∀(s:eB)(v:eE),BindsTo s fd ⟨[v],[]⟩ [("_law_script", v)])/\∀base:Heap,(KK w.params).In base->base.Ns mainGlobals mg->YF Pz w (KK w.params) mg base VA 40 fa fd ["_law_script"] (Do (KK w.params)):=by
 have e:some (Value.ref fa)=some (.ref 1083):=hfa.symm.trans (PySem.W.mg_of X G (by kernel_rfl));cases e;have Zia:=hQ "done" Ei 352 351 pm0 X G (by walk_at "k");have Zcs:=hQ "check_day" EN 359 358 pm1 X G (by walk_at "k");have Zct:=hQ "check_weight" EA 366 365 pm1 X G (by walk_at "k");have Zhl:=hQ "check_need" KI 373 372 pm1 X G (by walk_at "k");have Zhm:=hQ "check_money" Hv 380 379 pm1 X G (by walk_at "k");have Zgq:=hQ "is_name" Iz 385 384 pm2 X G (by walk_at "k");have Zhb:=hQ "total" Kn 390 389 pm2 X G (by walk_at "k");have Zhg:=hQ "settled" Kj 556 555 pm4 X G (by walk_at "k");have Zhf:=hQ "settled_with" HW 563 562 pm4 X G (by walk_at "k");have Zhr:=hQ "breakers" FT 570 569 pm4 X G (by walk_at "k");have Zhi:=hQ "breaking" Kl 575 574 pm4 X G (by walk_at "k");have Zhh:=hQ "naming" Ih 582 581 pm4 X G (by walk_at "k");have Zho:=hQ "check_case" GQ 589 588 pm4 X G (by walk_at "k");have Zhq:=hQ "check_oath" GL 594 593 pm4 X G (by walk_at "k");have Zhe:=hQ "margin_without" KF 601 600 pm4 X G (by walk_at "k");have Zhd:=hQ "kept_weight" Cu 606 605 pm4 X G (by walk_at "k");have Zgk:=hQ "_law_src" Ka 931 930 pm6 X G (by walk_at "k");have Zgl:=hQ "_law_next" Ki 938 937 pm6 X G (by walk_at "k");have Zgj:=hQ "_law_whole" Hg 945 944 pm6 X G (by walk_at "k");have Zaj:=hQ "_law_same" BP 952 951 pm6 X G (by walk_at "k");have Zgn:=hQ "_law_unlike" Kk 959 958 pm6 X G (by walk_at "k");have Zgm:=hQ "_law_word" BW 964 963 pm6 X G (by walk_at "k");have Zgo:=hQ "_law_names" KH 971 970 pm6 X G (by walk_at "k");have Ziu:=hQ "_law_came" Hm 978 977 pm6 X G (by walk_at "k");have Ziv:=hQ "_law_death" Ga 985 984 pm6 X G (by walk_at "k");have Ziw:=hQ "_law_is_dead" Gp 992 991 pm6 X G (by walk_at "k");have Zii:=hQ "_law_weighs" GS 999 998 pm6 X G (by walk_at "k");have Zi5:=hQ "_law_heir" IA 1006 1005 pm6 X G (by walk_at "k");have Zij:=hQ "_law_pick" HP 1013 1012 pm6 X G (by walk_at "k");have Zic:=hQ "_law_hand" IZ 1018 1017 pm6 X G (by walk_at "k");have Zie:=hQ "_law_try" Ea 1023 1022 pm6 X G (by walk_at "k");have Zim:=hQ "_law_is_case" FK 1030 1029 pm6 X G (by walk_at "k");have Zio:=hQ "_law_keep" Aq 1035 1034 pm6 X G (by walk_at "k");have Zir:=hQ "_law_start" IJ 1042 1041 pm6 X G (by walk_at "k");have Zig:=hQ "_law_one" HC 1049 1048 pm6 X G (by walk_at "k");have Zik:=hQ "_law_sides" C9 1054 1053 pm6 X G (by walk_at "k");have Zil:=hQ "_law_accused" Cm 1059 1058 pm6 X G (by walk_at "k");have Zip:=hQ "_law_case_deed" GR 1064 1063 pm6 X G (by walk_at "k");have Ziq:=hQ "_law_deed" Kt 1069 1068 pm6 X G (by walk_at "k");have Zi8:=hQ "_law_right" GD 1076 1075 pm6 X G (by walk_at "k");have F_law:=Ff (K:=KK w.params) (x:="law") (qual:="law") (st:=Be) (f:=1083) (oc:=.type "function") (od:=none) (an:=none) (osl:=#[]) (kV:=.none) (doc:=.none) (pm:=(.str "law_forsworn_k56_folk_of_a_moot" 1382)) (cdv:=(.ref 1082)) (ct:=.none) (by kernel_rfl) (by kernel_rfl) (by kernel_rfl);have Zgx:=hMQ (K:=KK w.params) 545 "__init__" "Folk.__init__" Hr 404 403 pm3 (by walk_at "k");have Zg1:=hMQ (K:=KK w.params) 545 "come" "Folk.come" Kr 411 410 pm3 (by walk_at "k");have Zg6:=hMQ (K:=KK w.params) 545 "rise" "Folk.rise" Ir 418 417 pm3 (by walk_at "k");have Zg9:=hMQ (K:=KK w.params) 545 "die" "Folk.die" Kc 425 424 pm3 (by walk_at "k");have Zi1:=hMQ (K:=KK w.params) 545 "names" "Folk.names" FA 432 431 pm3 (by walk_at "k");have Zg4:=hMQ (K:=KK w.params) 545 "weight" "Folk.weight" DZ 444 443 pm3 (by walk_at "k");have Ziy:=hMQ (K:=KK w.params) 545 "dead" "Folk.dead" FE 451 450 pm3 (by walk_at "k");have Zi0:=hMQ (K:=KK w.params) 545 "stands_for" "Folk.stands_for" Gf 458 457 pm3 (by walk_at "k");have Ziz:=hMQ (K:=KK w.params) 545 "stand_in" "Folk.stand_in" KQ 472 471 pm3 (by walk_at "k");have Zgw:=hMQ (K:=KK w.params) 545 "died_by" "Folk.died_by" Ft 479 478 pm3 (by walk_at "k");have Zc2:=hMQ (K:=KK w.params) 545 "check_coming" "Folk.check_coming" E4 500 499 pm3 (by walk_at "k");have Zc4:=hMQ (K:=KK w.params) 545 "check_rise" "Folk.check_rise" DO 507 506 pm3 (by walk_at "k");have Zc6:=hMQ (K:=KK w.params) 545 "check_death" "Folk.check_death" Ef 514 513 pm3 (by walk_at "k");have Zc0:=hMQ (K:=KK w.params) 545 "check_known" "Folk.check_known" DK 521 520 pm3 (by walk_at "k");have Zc1:=hMQ (K:=KK w.params) 545 "check_there" "Folk.check_there" DR 528 527 pm3 (by walk_at "k");have Zc3:=hMQ (K:=KK w.params) 545 "check_living" "Folk.check_living" Eh 535 534 pm3 (by walk_at "k");have Zc5:=hMQ (K:=KK w.params) 545 "check_untold" "Folk.check_untold" E8 542 541 pm3 (by walk_at "k");have TcFolk:Qq (KK w.params) 545:=by
  refine⟨⟨?_,?_,?_,?_⟩,?_,?_,?_,?_⟩<;>(show _=_;kernel_rfl)
 have mkFolk:PySem.W.makesIn (KK w.params) 545=true:=by kernel_rfl
 have kcFolk:PySem.W.keepIn (KK w.params) (.ref 545)=true:=by kernel_rfl
 have gCFolk:mg "Folk" = some (.ref 545):=PySem.W.mg_of X G (by kernel_rfl);have Zib:=hMQ (K:=KK w.params) 920 "__init__" "Moot.__init__" Kb 620 619 pm5 (by walk_at "k");have Zh3:=hMQ (K:=KK w.params) 920 "come" "Moot.come" HZ 627 626 pm5 (by walk_at "k");have Zh7:=hMQ (K:=KK w.params) 920 "rise" "Moot.rise" Gh 634 633 pm5 (by walk_at "k");have Zh8:=hMQ (K:=KK w.params) 920 "die" "Moot.die" Kv 641 640 pm5 (by walk_at "k");have Zh2:=hMQ (K:=KK w.params) 920 "penance" "Moot.penance" Fw 648 647 pm5 (by walk_at "k");have Zh4:=hMQ (K:=KK w.params) 920 "bring" "Moot.bring" Kw 655 654 pm5 (by walk_at "k");have Zh5:=hMQ (K:=KK w.params) 920 "give" "Moot.give" Gm 662 661 pm5 (by walk_at "k");have Zh6:=hMQ (K:=KK w.params) 920 "pay" "Moot.pay" IH 669 668 pm5 (by walk_at "k");have Zhy:=hMQ (K:=KK w.params) 920 "claim" "Moot.claim" Ic 676 675 pm5 (by walk_at "k");have Zhz:=hMQ (K:=KK w.params) 920 "wergild" "Moot.wergild" KO 683 682 pm5 (by walk_at "k");have Zh1:=hMQ (K:=KK w.params) 920 "accuse" "Moot.accuse" HX 690 689 pm5 (by walk_at "k");have Zi7:=hMQ (K:=KK w.params) 920 "names" "Moot.names" KY 711 710 pm5 (by walk_at "k");have Zi2:=hMQ (K:=KK w.params) 920 "weight" "Moot.weight" Fp 718 717 pm5 (by walk_at "k");have Zi3:=hMQ (K:=KK w.params) 920 "dead" "Moot.dead" HE 725 724 pm5 (by walk_at "k");have Zi4:=hMQ (K:=KK w.params) 920 "stands_for" "Moot.stands_for" Lb 732 731 pm5 (by walk_at "k");have Zhv:=hMQ (K:=KK w.params) 920 "forsworn_names" "Moot.forsworn_names" Kg 877 876 pm5 (by walk_at "k");have Zhu:=hMQ (K:=KK w.params) 920 "weighed" "Moot.weighed" Cf 882 881 pm5 (by walk_at "k");have Zhx:=hMQ (K:=KK w.params) 920 "try_case" "Moot.try_case" IB 889 888 pm5 (by walk_at "k");have Zht:=hMQ (K:=KK w.params) 920 "check_named" "Moot.check_named" II 896 895 pm5 (by walk_at "k");have Zhn:=hMQ (K:=KK w.params) 920 "check_thing" "Moot.check_thing" Fy 903 902 pm5 (by walk_at "k");have Zhw:=hMQ (K:=KK w.params) 920 "check_sides" "Moot.check_sides" Ip 910 909 pm5 (by walk_at "k");have Zhp:=hMQ (K:=KK w.params) 920 "check_moments" "Moot.check_moments" Ho 917 916 pm5 (by walk_at "k");have TcMoot:ZK (KK w.params) 920:=by
  refine⟨⟨?_,?_,?_,?_⟩,?_,?_,?_,?_,?_,?_,?_,?_,?_⟩<;>(show _=_;kernel_rfl)
 have mkMoot:PySem.W.makesIn (KK w.params) 920=true:=by kernel_rfl
 have kcMoot:PySem.W.keepIn (KK w.params) (.ref 920)=true:=by kernel_rfl
 have gCMoot:mg "Moot" = some (.ref 920):=PySem.W.mg_of X G (by kernel_rfl);have er:Er (KK w.params) mg cE errs:=Xv X G (by kernel_rfl);have al_breakers_stands:mg "breakers_stands" = mg "breakers" := (PySem.W.mg_of X G (by kernel_rfl):mg "breakers_stands" = some (.ref 570)).trans (PySem.W.mg_of X G (by kernel_rfl):mg "breakers" = some (.ref 570)).symm;have c_LAST_DAY:mg "LAST_DAY" = some (.int 9999 602):=PySem.W.mg_of X G (by kernel_rfl);have c_MOST_WEIGHT:mg "MOST_WEIGHT" = some (.int 1000 604):=PySem.W.mg_of X G (by kernel_rfl);have c_MOST_NEED:mg "MOST_NEED" = some (.int 12000 606):=PySem.W.mg_of X G (by kernel_rfl);have c_MOST_MONEY:mg "MOST_MONEY" = some (.int 1000000 608):=PySem.W.mg_of X G (by kernel_rfl);have c_LONGEST_NAME:mg "LONGEST_NAME" = some (.int 12 640):=PySem.W.mg_of X G (by kernel_rfl);have c_MOST_FOLK:mg "MOST_FOLK" = some (.int 40 656):=PySem.W.mg_of X G (by kernel_rfl);have c_ONES:mg "ONES" = some (.int 0 865):=PySem.W.mg_of X G (by kernel_rfl);have c_OTHERS:mg "OTHERS" = some (.int 1 867):=PySem.W.mg_of X G (by kernel_rfl);have c_NEED:mg "NEED" = some (.int 2 869):=PySem.W.mg_of X G (by kernel_rfl);have c_NAMED:mg "NAMED" = some (.int 3 871):=PySem.W.mg_of X G (by kernel_rfl);have c_MOST_THINGS:mg "MOST_THINGS" = some (.int 40 951):=PySem.W.mg_of X G (by kernel_rfl);have c_MOST_CASES:mg "MOST_CASES" = some (.int 60 953):=PySem.W.mg_of X G (by kernel_rfl);have c_MOST_SWEARERS:mg "MOST_SWEARERS" = some (.int 12 955):=PySem.W.mg_of X G (by kernel_rfl);have c_MOST_MOMENTS:mg "MOST_MOMENTS" = some (.int 400 957):=PySem.W.mg_of X G (by kernel_rfl);have T:Txt mg:=⟨PySem.W.mg_none_of X G (by kernel_rfl),PySem.W.mg_none_of X G (by kernel_rfl),PySem.W.mg_none_of X G (by kernel_rfl),PySem.W.mg_none_of X G (by kernel_rfl),PySem.W.mg_none_of X G (by kernel_rfl),PySem.W.mg_none_of X G (by kernel_rfl),PySem.W.mg_none_of X G (by kernel_rfl),PySem.W.mg_none_of X G (by kernel_rfl),PySem.W.mg_none_of X G (by kernel_rfl),PySem.W.mg_none_of X G (by kernel_rfl),PySem.W.mg_none_of X G (by kernel_rfl),PySem.W.mg_none_of X G (by kernel_rfl),PySem.W.mg_none_of X G (by kernel_rfl),PySem.W.mg_none_of X G (by kernel_rfl),PySem.W.mg_none_of X G (by kernel_rfl)⟩
 exact⟨PySem.W.fnOf "law" "law" (Va Be) (Yq Be) (Zp Be) .none .none .none (.str "law_forsworn_k56_folk_of_a_moot" 1382) none (.ref 1082) .none,fun s v=>.of_eq rfl,fun base _ _=>by
  have F1:=MS (P:=Pz) (w:=w) (base:=base) Zgk T;have F2:=Rt (P:=Pz) (w:=w) (base:=base) Zgl T;have F3:=L4 Zgm T F2;have F4:=cR (P:=Pz) (w:=w) (base:=base) Zgn T;have F5:=Nu Zgo T F2 F3 F4;have F8:=Iw Zaj T (SO (P:=Pz) (w:=w) (base:=base) Zgj T) 4;have F9:=SA (P:=Pz) (w:=w) (base:=base) Zgq T ⟨_,c_LONGEST_NAME⟩;have F10:=PC (P:=Pz) (w:=w) (base:=base) Zcs ⟨_,c_LAST_DAY⟩;have F11:=bT (P:=Pz) (w:=w) (base:=base) Zct ⟨_,c_MOST_WEIGHT⟩;have E10:=O9 (P:=Pz) (w:=w) (base:=base) Zcs ⟨_,c_LAST_DAY⟩ er;have E11:=Mx (P:=Pz) (w:=w) (base:=base) Zct ⟨_,c_MOST_WEIGHT⟩ er;have F12:=QL (P:=Pz) (w:=w) (base:=base) Zhm ⟨_,c_MOST_MONEY⟩ er;have F13:=Xc (P:=Pz) (w:=w) (base:=base) Zhl ⟨_,c_MOST_NEED⟩ er;have M1:=Ox (P:=Pz) (w:=w) (mg:=mg) (base:=base) Zc0 TcFolk;have M2:=MF (P:=Pz) (w:=w) (mg:=mg) (base:=base) Zc1 TcFolk;have M3:=Rc (P:=Pz) (w:=w) (mg:=mg) (base:=base) Zgw TcFolk;have M4:=Sw Zc3 TcFolk M3;have M5:=bE (P:=Pz) (w:=w) (mg:=mg) (base:=base) Zc5 TcFolk;have X1:=dG (P:=Pz) (w:=w) (base:=base) Zc0 TcFolk er;have X2:=NY (P:=Pz) (w:=w) (base:=base) Zc1 TcFolk er;have X3:=LA Zc3 TcFolk er M3;have X4:=XN (P:=Pz) (w:=w) (base:=base) Zc5 TcFolk er;have X5:=NB Zc2 T TcFolk ⟨_,c_MOST_FOLK⟩ er F9 E10 E11;have X6:=cG Zc4 TcFolk E10 E11 X1 X2 X3;have X7:=Mv Zc6 TcFolk er E10 X1 X2 X4;have M6:=dR Zc2 T TcFolk ⟨_,c_MOST_FOLK⟩ F9 F10 F11;have M7:=Ms Zg1 TcFolk M6;have M8:=N9 Zg4 T TcFolk F10 M1 M2;have M9:=Pu Zg6 TcFolk (Xl Zc4 TcFolk F10 F11 M1 M2 M4);have M10:=Xa Zg9 TcFolk (Qp Zc6 TcFolk F10 M1 M2 M5);have M0:=(dP (P:=Pz) (w:=w) (mg:=mg) (base:=base) Zgx TcFolk).mks mkFolk kcFolk gCFolk;have G1:=Rh (P:=Pz) (w:=w) (base:=base) Zhd T;have G2:=RT Zhe T ⟨_,c_ONES⟩ ⟨_,c_OTHERS⟩ ⟨_,c_NEED⟩ G1;have G3:=Xb Zhf T ⟨_,c_NAMED⟩ G2;have G4:=X9 Zhg T G3;have G5:=cC (P:=Pz) (w:=w) (base:=base) Zhh T ⟨_,c_NAMED⟩;have G6:=O5 Zhi T G4 G5;have G7:=LG (P:=Pz) (w:=w) (base:=base) Zho T er;have G8:=LV Zhq T ⟨_,c_ONES⟩ ⟨_,c_OTHERS⟩ er G7;have G9:=Lx Zhr T G8 G6;have G10:=Ol (P:=Pz) (w:=w) (base:=base) Zhb T;have N1:=fun C=>O7 (P:=Pz) (w:=w) (base:=base) (C:=C) Zhp T TcMoot er ⟨_,c_MOST_MOMENTS⟩;have N2:=fun C=>cQ (P:=Pz) (w:=w) (base:=base) (C:=C) Zhn T TcMoot er;have N3:=Lj Zht TcFolk TcMoot er X1 X2 X3 (N2 _) G8;have N0:=(bP Zib TcMoot M0).mks mkMoot kcMoot gCMoot;have N5:=cV Zhu TcFolk TcMoot M8;have N6:=fun C=>O0 (P:=Pz) (w:=w) (mg:=mg) (base:=base) (C:=C) Zhv T TcMoot ⟨_,c_NAMED⟩;have N7:=QV Zhw T TcMoot er ⟨_,c_MOST_CASES⟩ ⟨_,c_MOST_SWEARERS⟩ (N1 _) (N6 _) N5 G10;have N8:=Xu Zhx T TcMoot N5 G4;have P1:=Ni Zhy T TcMoot E10 F13 N3 N7 N8;have P2:=cM Zhz T TcMoot F12 E10 F13 N3 N7 N8;have P3:=Qi Zh1 T TcMoot er E10 F13 N3 N7 (Fn.alias G9 al_breakers_stands) N8;have P4:=cI Zh2 T TcFolk TcMoot X1 X4 (N1 _);have P5:=Qa Zh3 TcFolk TcMoot X5 M7 (N1 _);have P6:=Rz Zh4 T TcMoot ⟨_,c_MOST_THINGS⟩ er E10 N3 (N1 _);have P7:=NS Zh5 TcMoot E10 N3 (N1 _);have P8:=Od Zh6 TcMoot F12 E10 N3 (N1 _);have P9:=bS Zh7 TcFolk TcMoot X6 M9 (N1 _);have P10:=cH Zh8 TcFolk TcMoot X7 M10 (N1 _);have P11:=MN Zia TcMoot er P5 P9 P10 P4 P6 P7 P8 P1 P2 P3;have R1:=dH (P:=Pz) (w:=w) (base:=base) Zic T;have R2:=Qg Zie T er R1 P11;have R3:=Rv Zig T F2;have R4:=Nf (P:=Pz) (w:=w) (base:=base) Zii T;have R5:=bD Zij T F2;have R6:=LJ Zik T F2 R5 R4;have R7:=bQ Zil T F2;have R8:=cL (P:=Pz) (w:=w) (base:=base) Zim T;have R9:=LS Zio T R8 R4;have R10:=Pr Zip T F2 R3 R6 R7;have R11:=dC Ziq T F2 R3 R10;have R12:=Qf Zir T F2 R2 R9;have R13:=L6 (P:=Pz) (w:=w) (base:=base) Ziu T;have R14:=XI (P:=Pz) (w:=w) (base:=base) Ziv T;have R15:=RK Ziw T R14;have R16:=NP Zi5 T R14 R15;have M11:=Su Ziy TcFolk F10 M1 M3;have M12:=XY Ziz TcFolk M3;have M13:=bZ Zi0 TcFolk F10 M1 M12;have M14:=OT (P:=Pz) (w:=w) (base:=base) Zi1 T TcFolk;have P12:=Mc Zi2 TcFolk TcMoot M8;have P13:=LF Zi3 TcFolk TcMoot M11;have P14:=L7 Zi4 TcFolk TcMoot M13;have P15:=OL Zi7 TcFolk TcMoot M14;have R17:=bO Zi8 T TcMoot F2 R13 R4 R15 R16 P12 P13 P14 P15 F8
  exact(LX F_law T TcMoot F1 F2 F5 N0 R3 R12 R11 R2 R9 R17).mono (by decide)⟩
end Law
open PySem PySem.W PyProof.Rows
set_option maxRecDepth 100000 in
set_option maxHeartbeats 0 in
theorem PySem.Challenge.cw_forsworn_k56_folk_of_a_moot_holds : PySem.Challenge.rw_forsworn_k56_folk_of_a_moot.Holds := by
 w_on;o_law
 refine holds_open (q:=Law.q) (loose:=["breakers_stands"]) (Xt:=fun s=>xlAt Law.q [] s && recOk (RowW.records PySem.Challenge.rw_forsworn_k56_folk_of_a_moot.row.toRowW) s) (XP:=XL Law.q []) (Yf:=Law.HK.obs) (Ya:=Law.HK.val) (YP:=Law.HK.says) (N:=12240) Law.left Law.HK.of Law.HK.keeps (fun s e=>xl_of s (Bool.and_eq_true_iff.mp e).1) XL.keeps (by rfl) (by rfl) (by rfl) (fun s e=>recFacts_of (Bool.and_eq_true_iff.mp e).2) (by rfl) (by first | assumption | decide +kernel) (by decide +kernel) ⟨rfl,rfl,rfl,rfl,rfl,by decide +kernel⟩ ?hw ?hc
 case hw=>w_witness2
 refine L2.walkLaw (l:=PySem.Challenge.rw_forsworn_k56_folk_of_a_moot) rfl rfl (fun w h Y=>PySem.W.kIn_of (K:=Law.KK) Y) fun w mg fa h KX G hmg=>Law.all_mk KX G hmg
namespace Law
end Law
