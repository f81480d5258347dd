import PyProof.Rows.All
import Wide.All
import OpenK.AllK
import Wide.FinOn
import Lean
import PyProof.EqAt
import PyProof.EqKinds
import PyProof.TupleCall
import KE.KSortTup
import PyProof.NeKinds
import KE.KDictSum
import KE.KLam
import KE.KNestM
import KE.KSortKey
import PyProof.Rows.TupAdd
import KE.KRevIter
import PyProof.Rows.TupDisplay
import KE.KDictOf
import PyProof.ExcArgsOwn
import PyProof.ExcAttrAll.ValueError
import KE.KIsAll
import KE.KIntText
import PyProof.Rows.StrNews
import PyProof.Rows.StrSplitCount
import PyProof.Rows.SetFrom
import PyProof.Conv_int_bool
import PySem.Challenge.RW_forsworn_k30_who_is_forsworn
set_option Elab.async false
set_option linter.all false
set_option maxRecDepth 100000
set_option maxHeartbeats 4000000
theorem aA{p:Prop}[Decidable p](h:decide p=true:=by kernel_rfl):p:=of_decide_eq_true h
abbrev aD:=@PySem.F.plainAttrs_list
abbrev aE:=@PySem.F.slot_list_append
abbrev aF:=@PySem.F.type_list_append
abbrev XM:=PySem.Value->PySem.Shared->Prop
abbrev XN:=PySem.Str->Option PySem.Value
abbrev XO:=List PySem.Str
abbrev XQ:=List PySem.Value
abbrev XR:=PySem.Str->PySem.Addr
abbrev XS:=List PySem.Addr
abbrev XT:=PySem.Shared
abbrev XU:=PySem.Value
abbrev XW:=PySem.Addr
abbrev XX:=PySem.Program
abbrev XY:=PySem.World
abbrev XZ:=PySem.Around
abbrev xA:=@List.length_map
abbrev xB:=@List.getElem?_eq_getElem
abbrev xC:=@List.mem_cons
abbrev xD:=@Nat.le_refl
abbrev xE:=@List.getElem?_map
abbrev xF:=@List.length_append
abbrev xG:=@PySem.Heap.get?_push_of_some
abbrev xH:=@List.getElem?_eq_some_iff
abbrev xI:=@List.mem_append_right
abbrev xJ:=@List.mem_append
abbrev xK:=@Option.none_or
abbrev xL:=@Bool.false_ne_true
abbrev xM:=@List.mem_of_getElem?
abbrev xN:=@List.mem_cons_of_mem
abbrev xO:=@List.map_append
abbrev xP:=@Option.map_eq_some_iff
abbrev xQ:=@List.size_toArray
abbrev xR:=@List.mem_singleton
abbrev xS:=@PySem.Heap.lt_size
abbrev xT:=@List.length_take
abbrev xU:=@List.not_mem_nil
abbrev xV:=@PySem.Heap.get?_push_size
abbrev xW:=@List.take_add_one
abbrev xX:=@List.take_length
abbrev xY:=@List.mem_cons_self
abbrev xZ:=@List.getD_eq_getElem?_getD
abbrev yC:=@Nat.le_trans
abbrev yD:=@List.append_nil
abbrev yE:=@List.length_cons
abbrev yF:=@List.cons_append
abbrev yG:=@List.nodup_cons
abbrev yH:=@Nat.ne_of_lt
abbrev yI:=@Nat.lt_of_lt_of_le
abbrev yJ:=@decide_eq_true
abbrev yK:=@Int.eq_ofNat_of_zero_le
abbrev yL:=@List.map_cons
abbrev yM:=@Option.or_eq_none_iff
abbrev yN:=@Nat.zero_le
abbrev yO:=@List.length_filter_le
abbrev yP:=@Int.toNat_natCast
abbrev yQ:=@List.mem_append_left
abbrev yR:=@Bool.and_eq_true
abbrev yS:=@List.replicate_succ
abbrev yT:=@Nat.lt_of_le_of_lt
abbrev yU:=@List.lookup_cons
abbrev yV:=@List.take_of_length_le
abbrev yW:=@List.append_assoc
abbrev yX:=@Option.bind_some
abbrev yY:=@List.of_mem_zip
abbrev yZ:=@decide_eq_false
abbrev zA:=@Bool.eq_iff_iff
abbrev zB:=@List.getElem?_zip_eq_some
abbrev zC:=@List.take_append_drop
abbrev zD:=@Nat.le_of_lt
abbrev zE:=@List.mem_map
abbrev zF:=@List.getElem_mem
abbrev zG:=@List.filter_append
abbrev zH:=@List.length_singleton
abbrev zI:=@List.drop_eq_getElem_cons
abbrev zJ:=@List.foldl_cons
abbrev zK:=@List.nil_append
abbrev zL:=@List.all_eq_true
abbrev zM:=@List.drop_of_length_le
abbrev zN:=@Bool.false_eq_true
abbrev zO:=@List.find?_cons
abbrev zP:=@List.length_replicate
abbrev zQ:=@Nat.lt_irrefl
abbrev zR:=@Array.getElem?_eq_some_iff
abbrev zS:=@List.flatten_cons
abbrev zT:=@List.foldl_append
abbrev zU:=@Nat.le_succ_of_le
abbrev zV:=@List.getElem?_append_left
abbrev zW:=@Bool.false_and
abbrev zX:=@PySem.Heap.size_push
abbrev zY:=@List.length_drop
abbrev zZ:=@List.getElem?_range
abbrev wA:=@Option.map_some
abbrev wB:=@List.getElem?_drop
abbrev wC:=@decide_eq_true_iff
abbrev wD:=@PySem.Heap.get?_update_other
abbrev wE:=@List.map_nil
abbrev wF:=@List.getElem?_eq_none
abbrev wG:=@List.mem_range
abbrev uFg:=PySem.W.Frag
namespace L2
open PySem PySem.W
def topRunT(tb:String->Option Builtin)(p:XX)(w:XY)(m:Nat)(ann:Option XU):Nat->SharedT->Thread->Option SharedT
 | 0,_,_=>none
 | n+1,s,t=>match through t with
  | true=>some s
  | false=>match stepOk m ann t with
   | false=>none
   | true=>match stepT (denote tb) p w s t with
    | some x=>topRunT tb p w m ann n x.1 x.2
    | none=>none
theorem Ed{tb:String->Option Builtin}{p:XX}{w:XY}{m:Nat}{ann:Option XU}:∀{n:Nat}{s r:SharedT}{t:Thread},topRunT tb p w m ann n s t=some r->topRun tb p w m ann n s.abs t=some r.abs
 | 0,s,r,t,h=>by cases h
 | n+1,s,r,t,h=>by
  unfold topRunT at h;unfold topRun;cases a:through t with
  | true=>rw[a] at h;cases h;rfl
  | false =>
   rw[a] at h;cases b:stepOk m ann t with
   | false=>rw[b] at h;cases h
   | true =>
    rw[b] at h;cases c:stepT (denote tb) p w s t with
    | none=>rw[c] at h;cases h
    | some x=>obtain⟨s2,t2⟩:=x;rw[c] at h;dsimp only at h ⊢;rw[stepT_spec c];exact Ed h
def Ck:List Obj->Nat->BT->BT
 | [],_,t=>t
 | o::r,i,t=>Ck r (i+1) (t.ins i o)
noncomputable def s0T (P:Params) (os:OsState):SharedT:=⟨Ck (boot_heap P).objs.toList 0 .nil,11,(boot_heap P).life,#[],boot_drawn,boot_toks,os⟩
noncomputable def seenT {α:Type}(p q:XX) (loose:XO) (Xt:XT->Bool) (Yf:XT->α) (P:Params) (s:XT) :=
 (staticsOk (importedModules p.main.body) (boot_heap P) s.heap && namesBound p s.heap && gensDone s && laidKept (boot_heap P) s.heap,openSeen q loose (importedModules p.main.body) Xt true s,Yf s)
theorem HN(P:Params)(os:OsState):(s0T P os).abs=⟨boot_heap P,#[],boot_drawn,boot_toks,os⟩:=by kernel_rfl
theorem Il(P:Params):((boot_heap P).isNs mainGlobals && (#[]:Array GenState).size == 0,(boot_heap P).objs.size,(boot_heap P).nsMap mainGlobals "__annotations__")=(true,11,some (.ref 6)):=by kernel_rfl
theorem XI{p q:XX}{loose:XO}{Xt:XT->Bool}{α:Type}{Yf:XT->α}{Ya:XY->α}{N:Nat}(e:opening p=plainProg p.main.scope.names)(hN:Nat.ble 600 N=true)(f:∀s,fenceModules? p s=some s)(run:∀ (w:XY) (os:OsState),(topRunT treeTable p w 11 (some (.ref 6)) N (s0T w.params os) (topStub p)).map (fun s=>seenT p q loose Xt Yf w.params s.abs)=some (true,openGood q loose,Ya w)):LeftO p q loose Xt Yf Ya N:=fun w=>by
 obtain⟨⟨h,gs,d,k,os⟩,e1,e2⟩:=xP.mp (boot_open e hN f w);obtain⟨rfl,rfl,rfl,rfl⟩:h=boot_heap w.params/\gs = #[]/\d=boot_drawn/\k=boot_toks:=by simpa using e2
 obtain⟨s,r1,r2⟩:=xP.mp (run w os);unfold seenT at r2;obtain⟨l1,l2,l3⟩:_/\_/\_:=by simpa only [Prod.mk.injEq] using r2
 have r:=Ed r1;rw[HN] at r;obtain⟨z1,z2,z3⟩:_/\_/\_:=by simpa only [Prod.mk.injEq] using Il w.params
 have t:topFrom treeTable p w N ⟨boot_heap w.params,#[],boot_drawn,boot_toks,os⟩=some s.abs:=by
  unfold topFrom;dsimp only;rw[z1,z2,z3,r];show (match staticsOk (importedModules p.main.body) (boot_heap w.params) s.abs.heap && namesBound p s.abs.heap && gensDone s.abs && laidKept (boot_heap w.params) s.abs.heap with | true=>some s.abs | false=>none)=_;rw[l1]
 unfold openEnds;rw[e1];show (topFrom treeTable p w N _).map _=_;rw[t];exact congrArg some (Prod.ext l2 l3)
def Zt(p:XX)(i:Nat):Stmt:=p.main.body.getD i (.Pass ⟨0,0,0,0⟩)
def hIn(s:Stmt)(j:Nat):Stmt:=match s with
 | .ClassDef _ _ _ b _ _ _ _ _ _ _=>b.getD j (.Pass ⟨0,0,0,0⟩)
 | _=>s
def Kq(s:Stmt):Arguments:=match s with
 | .FunctionDef _ a _ _ _ _ _ _ _ _=>a
 | _=>⟨[],[],none,[],[],none,[]⟩
def GZ(s:Stmt):List Stmt:=match s with
 | .FunctionDef _ _ b _ _ _ _ _ _ _=>b
 | _=>[]
def Fb(s:Stmt):Scope:=match s with
 | .FunctionDef _ _ _ _ _ _ c _ _ _=>c
 | _=>{kind:=.function,names:=[],isGenerator:=false,isCoroutine:=false }
def de(P:Params)(n:Str)(t:Tok)(v:XU):DictEntry:=⟨PyData.keyHash P n,.str n t,v⟩
def kFn(n q:Str)(st:Stmt)(pm:XU)(c:XW):Obj:=⟨.type "function", none,.func (PySem.W.fnOf n q (Kq st) (GZ st) (Fb st) .none .none .none pm none (.ref c) .none),#[]⟩
def kC(n q:Str)(t l a u:Nat)(r s v x y:XU):Obj:=⟨.type "code", none,.fields #[.str n t,.str q (t+1),.str "/claim/cut.py" (t+2),.int l 0,.int a 0,.int 0 0,.int 0 0,.int 3 0,r,.bool true,.int 181 0,s,.none,v,x,y,.int u 0,.int l 0,.str "/claim/cut.py" (u+1)],#[]⟩
def kg(c:Nat)(n q:Str)(t l a u:Nat)(st:Stmt)(pm:XU)(r:uFg):uFg:=(c,kC n q t l a u (.ref (c - 5)) (.ref (c - 4)) (.ref (c - 3)) (.ref (c - 2)) (.ref (c - 1)))::(c+1,kFn n q st pm c)::r
def kg0(c:Nat)(n q:Str)(t l a u:Nat)(st:Stmt)(pm:XU)(r:uFg):uFg:=(c,kC n q t l a u (.ref (c - 3)) (.ref (c - 2)) .none .none (.ref (c - 1)))::(c+1,kFn n q st pm c)::r
def kE(P:Params)(a:Nat)(n:Str)(l t:Nat)(r:uFg):uFg:=(a,⟨.type "dict", none,.dict #[de P "__module__" t (.str "forsworn.errors" 194),de P "__firstlineno__" (t+4) (.int l (t+3)),de P "called" (t+11) (.ref (a - 2)),de P "__static_attributes__" (t+12) (.ref (a - 1)),de P "__doc__" (t+13) .none] 2,#[]⟩)::(a+1,⟨.type "type", none,.cls {name:=n,bases:=[.ref 38],mro:=[.ref (a+1),.ref 38,.type "ValueError", .type "Exception", .type "BaseException", .type "object"],ns:=a,qualname:=n,hasDict:=true,slotNames:=[],subclasses:=[],abstract:=false,collection:=none,hasDel:=false },#[some (.ref (a - 15)),none,some (.str n (t - 7)),some (.str n (t+1)),some (.builtin "ValueError.__new__"),some (.bool true)]⟩)::r
def kpO(x:XW×Obj)(r:uFg):uFg:=x::r
def kf(c:Nat)(n:Str):=kg c n n
def kf0(c:Nat)(n:Str):=kg0 c n n
end L2
namespace PySem.W.Fast
noncomputable def tw14598715356260435866:PySem.Params->PySem.Obj:=PySem.W.boot_o_0
theorem te14598715356260435866:PySem.W.boot_o_0=tw14598715356260435866:=rfl
end PySem.W.Fast
lay_quick L2.topRunT L2.s0T L2.seenT
namespace L2
open PySem PySem.W PyProof.Rows
abbrev p0:Pos:=⟨0,0,0,0⟩
def BF(p:XX):Env:={scope:=p.main.scope,locals:=mainNs,globals:=mainNs,cells:=[],code:=.ref 13,frame:=some 14 }
def cP(p:XX):Code:=.body (behindTheImports p) (BF p)
def Cs(tb:String->Option Builtin)(p:XX)(w:XY)(m:Nat)(ann:Option XU):Nat->SharedT->Thread->Option (SharedT×Thread)
 | 0,s,t=>some (s,t)
 | n+1,s,t=>match through t with
  | true=>none
  | false=>match stepOk m ann t with
   | false=>none
   | true=>match stepT (denote tb) p w s t with
    | some x=>Cs tb p w m ann n x.1 x.2
    | none=>none
theorem FK{tb:String->Option Builtin}{p:XX}{w:XY}{m:Nat}{ann:Option XU}:∀{n:Nat}{s r:SharedT}{t u:Thread},Cs tb p w m ann n s t=some (r,u)->topGo tb p w m ann n s.abs t=some (r.abs,u)
 | 0,s,r,t,u,h=>by cases h;rfl
 | n+1,s,r,t,u,h=>by
  unfold Cs at h;unfold topGo;cases a:through t with
  | true=>rw[a] at h;cases h
  | false =>
   rw[a] at h;cases b:stepOk m ann t with
   | false=>rw[b] at h;cases h
   | true =>
    rw[b] at h;cases c:stepT (denote tb) p w s t with
    | none=>rw[c] at h;cases h
    | some x=>obtain⟨s2,t2⟩:=x;rw[c] at h;dsimp only at h ⊢;rw[stepT_spec c];exact FK h
def preP(p:XX)(w:XY)(s:SharedT):Option (SharedT×Thread):=Cs treeTable p w 11 (some (.ref 6)) 12 s (topStub p)
def stubT(p:XX):Thread:=⟨denote treeTable (cP p),cP p,p0,[topFrame p0]⟩
def blkP(p:XX)(w:XY)(s:SharedT):Option (Flow×SharedT×Code×Pos):=segRunT treeTable p w 11 (some (.ref 6)) 1 1 s (blockOf (behindTheImports p) (BF p) (cP p) p0 [topFrame p0])
def segP(p:XX)(w:XY)(n k j:Nat)(pos:Pos)(s:SharedT):Option (Flow×SharedT×Code×Pos):=segRunT treeTable p w 11 (some (.ref 6)) 1 n s (piecesOf (((behindTheImports p).drop k).take j) (BF p) (cP p) pos [topFrame p0])
def topQ(p:XX)(w:XY)(n k:Nat)(pos:Pos)(s:SharedT):Option SharedT:=topRunT treeTable p w 11 (some (.ref 6)) n s (restOf ((behindTheImports p).drop k) (BF p) (cP p) pos [topFrame p0])
def vI(n:Nat):XU:=.int n 0
def tuO(l:XQ):Obj:=⟨.type "tuple", none,.seq l.toArray 0,#[]⟩
def fdO(c:XU)(l:XQ):Obj:=⟨c,none,.fields l.toArray,#[]⟩
def diO(l:List DictEntry)(n:Nat):Obj:=⟨.type "dict", none,.dict l.toArray n,#[]⟩
def cut(t:Nat):XU:=.str "/claim/cut.py" t
def mdl:XU:=.str "forsworn.errors" 194
def cdO(n q:Str)(b l:Nat)(ar fl:Nat)(fn:Bool)(a:Nat)(r:XQ):Obj:=fdO (.type "code") ([.str n b,.str q (b+1),cut (b+2),vI l,vI ar,vI 0,vI 0,vI fl,.ref a,.bool fn,vI 181,.ref (a+1)]++r ++ [vI (if fn then b+4 else b+3),vI l,cut (if fn then b+5 else b+4)])
def fn0(n q:Str)(st:Stmt):Obj:=⟨.none,none,.func {name:=n,qualname:=q,params:=Kq st,body:=.stmts (GZ st),scope:=Fb st,globals:=0,closure:=[],defaults:=.none,kwdefaults:=.none },#[]⟩
def FA(P:Params)(a b l:Nat)(st:Stmt)(bs:XU)(dc:Nat)(more:List DictEntry)(cl:Obj)(n q:Str)(hd:List Obj)(tl:List Obj):List Obj :=
 let one:=[de P "__module__" (b+7) mdl]
 let two:=[de P "__firstlineno__" (b+11) (.int l (b+10)),de P "called" (b+18) (.ref (a+13)),de P "__static_attributes__" (b+19) (.ref (a+14))]
 hd ++ [tuO [bs],fdO (.type "builtin_function_or_method") [.builtin "type.__prepare__", .type "type"],diO (one ++ [de P "__qualname__" (b+9) (.str n (b+8))]++two) 5,tuO [],fdO .none [vI (l+2),vI 4,.ref (a+12)],
  cdO n n (b+2) l 0 0 false (a+3) [.none,.none,.none,.none],⟨.type "frame", none,.plain,#[some (.ref (a+5)),some (.ref 3),some (.ref (a+2)),none,some mdl,none,some (.ref 0)]⟩,
  tuO [],fdO .none [],tuO [.str "self" (b+15)],tuO [],fn0 "called" q st,cdO "called" q (b+12) (l+2) 1 3 true (a+7) [.none,.ref (a+9),.ref (a+10),.ref (a+11)],
  kFn "called" q st mdl (a+12),tuO [],diO (one++two++more) dc,cl]++tl ++ [fdO (.type "super") [.ref (a+16),.ref (a+16),.ref (a+16)],fdO (.type "builtin_function_or_method") [.builtin "object.__init_subclass__", .ref (a+16)]]
def tyO(a b:Nat)(n:Str)(bs:XQ)(mro:XQ)(sub:XQ):Obj:=⟨.type "type", none,.cls {name:=n,bases:=bs,mro:=.ref (a+16)::mro,ns:=a+15,qualname:=n,hasDict:=true,slotNames:=[],subclasses:=sub,abstract:=false,collection:=none,hasDel:=false },
 #[some (.ref a),none,some (.str n b),some (.str n (b+8)),some (.builtin "ValueError.__new__"),some (.bool true)]⟩
def ID:List XU:=[.type "ValueError", .type "Exception", .type "BaseException", .type "object"]
def MS(P:Params)(p:XX)(j:Nat)(x:Str×Str):List Obj:=let a:=42+19 * j;let b:=221+23 * j;let l:=9+4 * j
 FA P a b l (hIn (Zt p (3+j)) 0) (.ref 38) 2 [de P "__doc__" (b+20) .none] (tyO a b x.1 [.ref 38] (.ref 38::ID) []) x.1 x.2 [] []
def num{α:Type}:Nat->List α->List (Nat × α)
 | _,[]=>[]
 | i,x::r=>(i,x)::num (i+1) r
noncomputable def Ly (p:XX) (P:Params) (ns:List (Str×Str)):List Obj:=let w:=Zt p 0
  [boot_o_0 P,boot_o_1 P,boot_o_2 P,
   diO ([de P "__name__" 165 mdl,de P "__doc__" 166 .none,de P "__package__" 167 .none,de P "__loader__" 168 (.builtin "__main__.__loader__#opaque"),de P "__spec__" 169 .none,de P "__annotations__" 170 (.ref 6),de P "__builtins__" 171 (.ref 4),de P "__file__" 173 (cut 172),de P "__cached__" 174 .none,de P "_wall" 193 (.ref 21),de P "MootError" 220 (.ref 38)]++(num 0 ns).map fun x=>de P x.2.1 (243+23 * x.1) (.ref (58+19 * x.1))) (11+ns.length),
   boot_o_4 P,boot_o_5 P,boot_o_6 P,boot_o_7 P,boot_o_8 P,boot_o_9 P,boot_o_10 P,tuO [],fdO .none ([vI 1,vI 0,.ref 20,vI 5,vI 0,.ref 27]++((num 0 ns).map fun x=>[vI (9+4 * x.1),vI 0,.ref (47+19 * x.1)]).flatten),
   cdO "<module>" "<module>" 182 1 0 0 false 11 [.none,.none,.none,.none],⟨.type "frame", none,.plain,#[some (.ref 13),some (.ref 3),some (.ref 3),none,some (.str "__main__" 164),none,some (.ref 0)]⟩,
   tuO [],fdO .none [],tuO [.str "k" 190],tuO [],fn0 "_wall" "_wall" w,cdO "_wall" "_wall" 187 1 1 3 true 15 [.none,.ref 17,.ref 18,.ref 19],kFn "_wall" "_wall" w (.str "__main__" 164) 20] ++
  FA P 22 196 5 (hIn (Zt p 2) 0) (.type "ValueError") 3 [de P "__weakref__" 217 (.ref 39),de P "__doc__" 218 .none] (tyO 22 196 "MootError" [.type "ValueError"] ID ((num 0 ns).map fun x=>.ref (58+19 * x.1))) "MootError" "MootError.called" [] [fdO (.type "getset_descriptor") [.str "__weakref__" 216,.ref 38,.builtin "ExceptionGroup.__weakref__", .none]] ++
  ((num 0 ns).map fun x=>MS P p x.1 x.2).flatten
noncomputable def errS (p:XX) (ns:List (Str×Str)) (P:Params) (os:OsState):SharedT:=⟨Ck (Ly p P ns) 0 .nil,42+19 * ns.length,(boot_heap P).life,#[],boot_drawn,221+23 * ns.length,os⟩
noncomputable def stubS (P:Params) (os:OsState):SharedT:=⟨Ck ((boot_heap P).objs.toList ++ [tuO [],fdO .none [],cdO "<module>" "<module>" 182 1 0 0 false 11 [.none,.none,.none,.none],⟨.type "frame", none,.plain,#[some (.ref 13),some (.ref 3),some (.ref 3),none,some (.str "__main__" 164),none,some (.ref 0)]⟩]) 0 .nil,15,(boot_heap P).life,#[],boot_drawn,187,os⟩
def VB(p:XX)(w:XY)(os:OsState)(M:Nat)(s:SharedT)(k:Nat)(pos:Pos):Prop:=∀(N:Nat)(r:XT),
 topRun treeTable p w 11 (some (.ref 6)) N s.abs (restOf ((behindTheImports p).drop k) (BF p) (cP p) pos [topFrame p0])=some r->topRun treeTable p w 11 (some (.ref 6)) (M+N) (s0T w.params os).abs (topStub p)=some r
theorem VB.zero{p:XX}{w:XY}{os:OsState}(h:preP p w (s0T w.params os)=some (stubS w.params os,stubT p))(b:blkP p w (stubS w.params os)=some (.next,stubS w.params os,cP p,p0)):VB p w os 13 (stubS w.params os) 0 p0:=fun N r k=>by
 have k':=go_top (FK h) (piece_block (segRun_of b) k)
 rwa [← Nat.add_assoc] at k'
theorem VB.step{p:XX}{w:XY}{os:OsState}{M k:Nat}{s s':SharedT}{pos pos':Pos}(R:VB p w os M s k pos)(n j:Nat)(h:segP p w n k j pos s=some (.next,s',cP p,pos')):VB p w os (M+n) s' (k+j) pos':=fun N r x=>by
 rw[Nat.add_assoc];refine R _ r ?_;rw[← zC j ((behindTheImports p).drop k),List.drop_drop];exact piece_app (segRun_of h) x
section
variable(p q:XX)(loose:XO)(Xt:XT->Bool)
noncomputable def sn0 (P:Params) (s:SharedT):Bool:=staticsOk (importedModules p.main.body) (boot_heap P) s.abs.heap && namesBound p s.abs.heap && gensDone s.abs && laidKept (boot_heap P) s.abs.heap
def sn1(s:SharedT):=(seen ((recsOf q).map (·.name)) (ownsOf q) [] {s.abs with gens:=#[] },s.abs.heap.bltView)
def sn2(s:SharedT):Bool:=s.abs.heap.keysOk (looseW q loose) ((recsOf q).map (·.name)) ((litsOf q).map (·.1)) ((clssOf q (looseW q loose)).map (·.name)) && s.abs.heap.accountedOkI (importedModules p.main.body) && s.abs.heap.isNs mainGlobals && s.abs.heap.isNs builtinsNs && tablesOk q s.abs.heap && Xt s.abs && (if true then s.abs.gens.size == 0 else !leftWithCleanup s.abs.gens)
def sn3(s:SharedT):Bool:=tabsOk q s.abs
def sn4(s:SharedT):=pinSeenD q (drecsOf q) s.abs
def sn9(i:Nat)(s:SharedT):=(((plainsOf q (looseW q loose)).drop i).take 1).map fun c=>s.abs.heap.plainShapeAt c.withCmp
def snA(i:Nat)(s:SharedT):=((plainsOf q (looseW q loose)).drop i).map fun c=>s.abs.heap.plainShapeAt c.withCmp
def sn5(s:SharedT):=plainSeenD q loose s.abs
def sn8(s:SharedT):=wideSeen q s.abs
def sn6(s:SharedT):=clsSeenW q loose s.abs
end
def gd9(q:XX)(loose:XO)(i:Nat):=(((plainsOf q (looseW q loose)).drop i).take 1).map fun c=>some c.withCmp.plainShape
def gdA(q:XX)(loose:XO)(i:Nat):=((plainsOf q (looseW q loose)).drop i).map fun c=>some c.withCmp.plainShape
theorem IB{α β:Type}(f : α->β)(l:List α):l.map f=((l.drop 0).take 1).map f++(((l.drop 1).take 1).map f++(l.drop 2).map f):=by
 rcases l with _ | ⟨a,_ | ⟨b,l⟩⟩<;>rfl
theorem QB{p q:XX}{loose:XO}{Xt:XT->Bool}{α:Type}{Yf:XT->α}{Ya:XY->α}{M N k:Nat}{s:XY->OsState->SharedT}{pos:Pos}(e:opening p=plainProg p.main.scope.names)(hN:Nat.ble 600 (M+N)=true)(f:∀s,fenceModules? p s=some s)(R:∀ (w:XY) (os:OsState),VB p w os M (s w os) k pos)(r0:∀ (w:XY) (os:OsState),(topQ p w N k pos (s w os)).map (sn0 p w.params)=some true)(r1:∀ (w:XY) (os:OsState),(topQ p w N k pos (s w os)).map (sn1 q)=some (expectedOf q,bltViewBooted))(r2:∀ (w:XY) (os:OsState),(topQ p w N k pos (s w os)).map (sn2 p q loose Xt)=some true)(r3:∀ (w:XY) (os:OsState),(topQ p w N k pos (s w os)).map (sn3 q)=some true)(r4:∀ (w:XY) (os:OsState),(topQ p w N k pos (s w os)).map (sn4 q)=some (pinGoodD (drecsOf q)))(r9:∀ (w:XY) (os:OsState),(topQ p w N k pos (s w os)).map (sn9 q loose 0)=some (gd9 q loose 0))(rB:∀ (w:XY) (os:OsState),(topQ p w N k pos (s w os)).map (sn9 q loose 1)=some (gd9 q loose 1))(rA:∀ (w:XY) (os:OsState),(topQ p w N k pos (s w os)).map (snA q loose 2)=some (gdA q loose 2))(r5:∀ (w:XY) (os:OsState),(topQ p w N k pos (s w os)).map (sn5 q loose)=some (plainGoodD q loose))(r8:∀ (w:XY) (os:OsState),(topQ p w N k pos (s w os)).map (sn8 q)=some (wideGood q))(r6:∀ (w:XY) (os:OsState),(topQ p w N k pos (s w os)).map (sn6 q loose)=some (clsGoodW q loose))(r7:∀ (w:XY) (os:OsState),(topQ p w N k pos (s w os)).map (fun s=>Yf s.abs)=some (Ya w)):LeftO p q loose Xt Yf Ya (M+N):=fun w=>by
 obtain⟨⟨h,gs,d,k,os⟩,e1,e2⟩:=xP.mp (boot_open e hN f w);obtain⟨rfl,rfl,rfl,rfl⟩:h=boot_heap w.params/\gs = #[]/\d=boot_drawn/\k=boot_toks:=by simpa using e2
 obtain⟨s,x,y0⟩:=xP.mp (r0 w os);have y1:=r1 w os;have y2:=r2 w os;have y3:=r3 w os;have y4:=r4 w os;have y5:=r5 w os;have y9:=r9 w os;have yA:=rA w os;have yB:=rB w os;have y8:=r8 w os;have y6:=r6 w os;have y7:=r7 w os;rw[x,wA,Option.some_inj] at y1 y2 y3 y4 y5 y6 y7 y8 y9 yA yB;have r:=R w os N _ (Ed x);rw[HN] at r;obtain⟨z1,z2,z3⟩:_/\_/\_:=by simpa only [Prod.mk.injEq] using Il w.params
 have t:topFrom treeTable p w (M+N) ⟨boot_heap w.params,#[],boot_drawn,boot_toks,os⟩=some s.abs:=by
  unfold topFrom;dsimp only;rw[z1,z2,z3,r];show (match staticsOk (importedModules p.main.body) (boot_heap w.params) s.abs.heap && namesBound p s.abs.heap && gensDone s.abs && laidKept (boot_heap w.params) s.abs.heap with | true=>some s.abs | false=>none)=_;unfold sn0 at y0;rw[y0]
 unfold openEnds;rw[e1];show (topFrom treeTable p w (M+N) _).map _=_;rw[t];refine congrArg some (Prod.ext ?_ y7);have a1:=congrArg Prod.fst y1;have b1:=congrArg Prod.snd y1;exact Prod.ext a1 (Prod.ext b1 (Prod.ext y2 (Prod.ext y3 (Prod.ext y4 (Prod.ext ((IB _ _).trans ((congr (congrArg _ y9) (congr (congrArg _ yB) yA)).trans (IB _ _).symm)) (Prod.ext y5 (Prod.ext y8 y6)))))))
end L2
lay_quick L2.preP L2.blkP L2.segP L2.topQ L2.errS L2.stubS L2.stubT L2.sn0 L2.sn1 L2.sn2 L2.sn3 L2.sn4 L2.sn5 L2.sn6 L2.sn8 L2.sn9 L2.snA L2.gd9 L2.gdA
namespace Law
open PySem L2
def pm0:XU:=(.str "forsworn.deeds" 612)
def pm1:XU:=(.str "forsworn.measures" 623)
def pm2:XU:=(.str "forsworn.oaths" 661)
def pm3:XU:=(.str "forsworn.folk" 677)
def pm4:XU:=(.str "forsworn.stands" 890)
def pm5:XU:=(.str "forsworn.moot" 976)
def pm6:XU:=(.str "law_forsworn_k30_who_is_forsworn" 1411)
def Kp(p:XX)(P:Params):uFg :=
 kpO (3,⟨(.type "dict"),none,(.dict #[de P "__name__" 165 (.str "law_forsworn_k30_who_is_forsworn" 1411),de P "__doc__" 166 .none,de P "__package__" 167 .none,de P "__loader__" 168 (.builtin "__main__.__loader__#opaque"),de P "__spec__" 169 .none,de P "__annotations__" 170 (.ref 6),de P "__builtins__" 171 (.ref 4),de P "__file__" 173 (.str "/claim/cut.py" 172),de P "__cached__" 174 .none,de P "_wall" 193 (.ref 21),de P "MootError" 220 (.ref 38),de P "NoName" 243 (.ref 58),de P "NoMeasure" 266 (.ref 77),de P "Unknown" 289 (.ref 96),de P "Taken" 312 (.ref 115),de P "NoThing" 335 (.ref 134),de P "NoCase" 358 (.ref 153),de P "NoOath" 381 (.ref 172),de P "NotYet" 404 (.ref 191),de P "Dead" 427 (.ref 210),de P "NoHeir" 450 (.ref 229),de P "TooMany" 473 (.ref 248),de P "SwornTwice" 496 (.ref 267),de P "Forsworn" 519 (.ref 286),de P "TooLight" 542 (.ref 305),de P "Broken" 565 (.ref 324),de P "NoMoment" 588 (.ref 343),de P "NoDeed" 611 (.ref 362),de P "done" 622 (.ref 371),de P "LAST_DAY" 626 (.int (9999) 625),de P "MOST_WEIGHT" 628 (.int (1000) 627),de P "MOST_NEED" 630 (.int (12000) 629),de P "MOST_MONEY" 632 (.int (1000000) 631),de P "check_day" 639 (.ref 378),de P "check_weight" 646 (.ref 385),de P "check_need" 653 (.ref 392),de P "check_money" 660 (.ref 399),de P "LONGEST_NAME" 664 (.int (12) 663),de P "is_name" 670 (.ref 404),de P "total" 676 (.ref 409),de P "MOST_FOLK" 680 (.int (40) 679),de P "Folk" 889 (.ref 564),de P "ONES" 893 (.int (0) 892),de P "OTHERS" 895 (.int (1) 894),de P "NEED" 897 (.int (2) 896),de P "NAMED" 899 (.int (3) 898),de P "settled" 906 (.ref 575),de P "settled_with" 918 (.ref 582),de P "breakers" 927 (.ref 589),de P "breakers_stands" 928 (.ref 589),de P "breaking" 934 (.ref 594),de P "naming" 945 (.ref 601),de P "check_case" 953 (.ref 608),de P "check_oath" 959 (.ref 613),de P "margin_without" 969 (.ref 620),de P "kept_weight" 975 (.ref 625),de P "MOST_THINGS" 979 (.int (40) 978),de P "MOST_CASES" 981 (.int (60) 980),de P "MOST_SWEARERS" 983 (.int (12) 982),de P "MOST_MOMENTS" 985 (.int (400) 984),de P "Moot" 1410 (.ref 939),de P "_law_src" 1419 (.ref 950),de P "_law_next" 1429 (.ref 957),de P "_law_whole" 1436 (.ref 964),de P "_law_same" 1446 (.ref 971),de P "_law_unlike" 1457 (.ref 978),de P "_law_word" 1463 (.ref 983),de P "_law_names" 1477 (.ref 990),de P "_law_death" 1486 (.ref 997),de P "_law_is_dead" 1496 (.ref 1004),de P "_law_weighs" 1508 (.ref 1011),de P "_law_pick" 1520 (.ref 1018),de P "_law_hand" 1526 (.ref 1023),de P "_law_try" 1532 (.ref 1028),de P "_law_is_case" 1539 (.ref 1035),de P "_law_keep" 1545 (.ref 1040),de P "_law_start" 1559 (.ref 1047),de P "_law_one" 1567 (.ref 1054),de P "_law_sides" 1573 (.ref 1059),de P "_law_accused" 1579 (.ref 1064),de P "_law_case_deed" 1585 (.ref 1069),de P "_law_deed" 1591 (.ref 1074),de P "_law_settled" 1597 (.ref 1079),de P "_law_is_forsworn" 1613 (.ref 1086),de P "_law_kind" 1622 (.ref 1093),de P "_law_stranger_refused" 1631 (.ref 1100),de P "_law_right" 1643 (.ref 1107),de P "law" 1656 (.ref 1114)] 88),#[]⟩)<|
 kpO (37,⟨(.type "dict"),none,(.dict #[de P "__module__" 203 (.str "forsworn.errors" 194),de P "__firstlineno__" 207 (.int (5) 206),de P "called" 214 (.ref 35),de P "__static_attributes__" 215 (.ref 36),de P "__weakref__" 217 (.ref 39),de P "__doc__" 218 .none] 3),#[]⟩)<|
 kpO (38,⟨(.type "type"),none,(.cls {name:="MootError", bases:=[(.type "ValueError")],mro:=[(.ref 38),(.type "ValueError"),(.type "Exception"),(.type "BaseException"),(.type "object")],ns:=37,qualname:="MootError", hasDict:=true,slotNames:=[],subclasses:=[(.ref 58),(.ref 77),(.ref 96),(.ref 115),(.ref 134),(.ref 153),(.ref 172),(.ref 191),(.ref 210),(.ref 229),(.ref 248),(.ref 267),(.ref 286),(.ref 305),(.ref 324),(.ref 343),(.ref 362)],abstract:=false,collection:=none,hasDel:=false }),#[some (.ref 22),none,some (.str "MootError" 196),some (.str "MootError" 204),some (.builtin "ValueError.__new__"),some (.bool true)]⟩)<|
 kE P 57 "NoName" 9 228<|
 kE P 76 "NoMeasure" 13 251<|
 kE P 95 "Unknown" 17 274<|
 kE P 114 "Taken" 21 297<|
 kE P 133 "NoThing" 25 320<|
 kE P 152 "NoCase" 29 343<|
 kE P 171 "NoOath" 33 366<|
 kE P 190 "NotYet" 37 389<|
 kE P 209 "Dead" 41 412<|
 kE P 228 "NoHeir" 45 435<|
 kE P 247 "TooMany" 49 458<|
 kE P 266 "SwornTwice" 53 481<|
 kE P 285 "Forsworn" 57 504<|
 kE P 304 "TooLight" 61 527<|
 kE P 323 "Broken" 65 550<|
 kE P 361 "NoDeed" 73 596<|
 kf 370 "done" 614 78 2 620 (Zt p 21) pm0<|
 kf 377 "check_day" 633 106 1 637 (Zt p 27) pm1<|
 kf 384 "check_weight" 640 109 1 644 (Zt p 28) pm1<|
 kf 391 "check_need" 647 112 1 651 (Zt p 29) pm1<|
 kf 398 "check_money" 654 115 1 658 (Zt p 30) pm1<|
 kf0 403 "is_name" 665 120 1 668 (Zt p 33) pm2<|
 kf0 408 "total" 671 122 1 674 (Zt p 34) pm2<|
 kg 422 "__init__" "Folk.__init__" 693 128 1 697 (hIn (Zt p 37) 0) pm3<|
 kg 429 "come" "Folk.come" 700 134 4 707 (hIn (Zt p 37) 1) pm3<|
 kg 436 "rise" "Folk.rise" 710 139 4 717 (hIn (Zt p 37) 2) pm3<|
 kg 443 "die" "Folk.die" 720 143 4 727 (hIn (Zt p 37) 3) pm3<|
 kg0 462 "weight" "Folk.weight" 745 154 3 748 (hIn (Zt p 37) 6) pm3<|
 kg 497 "died_by" "Folk.died_by" 789 183 3 795 (hIn (Zt p 37) 11) pm3<|
 kg 518 "check_coming" "Folk.check_coming" 814 192 4 821 (hIn (Zt p 37) 14) pm3<|
 kg 525 "check_rise" "Folk.check_rise" 824 202 4 831 (hIn (Zt p 37) 15) pm3<|
 kg 532 "check_death" "Folk.check_death" 834 209 4 841 (hIn (Zt p 37) 16) pm3<|
 kg 539 "check_known" "Folk.check_known" 844 219 2 849 (hIn (Zt p 37) 17) pm3<|
 kg 546 "check_there" "Folk.check_there" 852 223 3 858 (hIn (Zt p 37) 18) pm3<|
 kg 553 "check_living" "Folk.check_living" 861 227 3 867 (hIn (Zt p 37) 19) pm3<|
 kg 560 "check_untold" "Folk.check_untold" 870 231 2 875 (hIn (Zt p 37) 20) pm3<|
 kpO (563,⟨(.type "dict"),none,(.dict #[de P "__module__" 688 (.str "forsworn.folk" 677),de P "__firstlineno__" 692 (.int (126) 691),de P "__init__" 699 (.ref 423),de P "come" 709 (.ref 430),de P "rise" 719 (.ref 437),de P "die" 729 (.ref 444),de P "names" 736 (.ref 451),de P "came" 744 (.ref 458),de P "weight" 750 (.ref 463),de P "dead" 759 (.ref 470),de P "stands_for" 768 (.ref 477),de P "twin" 779 (.ref 484),de P "stand_in" 788 (.ref 491),de P "died_by" 797 (.ref 498),de P "death_day" 805 (.ref 505),de P "heir_of" 813 (.ref 512),de P "check_coming" 823 (.ref 519),de P "check_rise" 833 (.ref 526),de P "check_death" 843 (.ref 533),de P "check_known" 851 (.ref 540),de P "check_there" 860 (.ref 547),de P "check_living" 869 (.ref 554),de P "check_untold" 877 (.ref 561),de P "__static_attributes__" 882 (.ref 562),de P "__dict__" 884 (.ref 565),de P "__weakref__" 886 (.ref 566),de P "__doc__" 887 .none] 4),#[]⟩)<|
 kpO (564,⟨(.type "type"),none,(.cls {name:="Folk", bases:=[(.type "object")],mro:=[(.ref 564),(.type "object")],ns:=563,qualname:="Folk", hasDict:=true,slotNames:=[],subclasses:=[],abstract:=false,collection:=none,hasDel:=false }),#[none,none,some (.str "Folk" 681),some (.str "Folk" 689),some (.builtin "object.__new__"),some (.bool true)]⟩)<|
 kf 574 "settled" 900 239 1 904 (Zt p 43) pm4<|
 kf 581 "settled_with" 907 241 2 916 (Zt p 44) pm4<|
 kf 588 "breakers" 919 251 3 925 (Zt p 45) pm4<|
 kf0 593 "breaking" 929 255 1 932 (Zt p 47) pm4<|
 kf 600 "naming" 935 257 2 943 (Zt p 48) pm4<|
 kf 607 "check_case" 946 264 2 951 (Zt p 49) pm4<|
 kf0 612 "check_oath" 954 267 3 957 (Zt p 50) pm4<|
 kf 619 "margin_without" 960 271 3 967 (Zt p 51) pm4<|
 kf0 624 "kept_weight" 970 274 3 973 (Zt p 52) pm4<|
 kg 638 "__init__" "Moot.__init__" 998 283 1 1002 (hIn (Zt p 58) 0) pm5<|
 kg 645 "come" "Moot.come" 1005 294 4 1012 (hIn (Zt p 58) 1) pm5<|
 kg 652 "rise" "Moot.rise" 1015 300 4 1022 (hIn (Zt p 58) 2) pm5<|
 kg 659 "die" "Moot.die" 1025 306 4 1032 (hIn (Zt p 58) 3) pm5<|
 kg 666 "penance" "Moot.penance" 1035 312 2 1040 (hIn (Zt p 58) 4) pm5<|
 kg 673 "bring" "Moot.bring" 1043 319 3 1049 (hIn (Zt p 58) 5) pm5<|
 kg 680 "give" "Moot.give" 1052 330 5 1060 (hIn (Zt p 58) 6) pm5<|
 kg 687 "pay" "Moot.pay" 1063 337 5 1071 (hIn (Zt p 58) 7) pm5<|
 kg 694 "claim" "Moot.claim" 1074 345 7 1085 (hIn (Zt p 58) 8) pm5<|
 kg 701 "wergild" "Moot.wergild" 1088 355 8 1100 (hIn (Zt p 58) 9) pm5<|
 kg 708 "accuse" "Moot.accuse" 1103 366 7 1113 (hIn (Zt p 58) 10) pm5<|
 kg 832 "forsworn" "Moot.forsworn" 1248 428 2 1253 (hIn (Zt p 58) 28) pm5<|
 kg 874 "twin" "Moot.twin" 1300 447 1 1304 (hIn (Zt p 58) 34) pm5<|
 kg 881 "then" "Moot.then" 1307 450 2 1314 (hIn (Zt p 58) 35) pm5<|
 kg 895 "forsworn_names" "Moot.forsworn_names" 1325 461 1 1333 (hIn (Zt p 58) 37) pm5<|
 kg0 900 "weighed" "Moot.weighed" 1336 469 3 1339 (hIn (Zt p 58) 38) pm5<|
 kg 907 "try_case" "Moot.try_case" 1342 472 6 1351 (hIn (Zt p 58) 39) pm5<|
 kg 914 "check_named" "Moot.check_named" 1354 478 5 1363 (hIn (Zt p 58) 40) pm5<|
 kg 921 "check_thing" "Moot.check_thing" 1366 494 2 1371 (hIn (Zt p 58) 41) pm5<|
 kg 928 "check_sides" "Moot.check_sides" 1374 498 5 1384 (hIn (Zt p 58) 42) pm5<|
 kg 935 "check_moments" "Moot.check_moments" 1387 513 1 1391 (hIn (Zt p 58) 43) pm5<|
 kpO (938,⟨(.type "dict"),none,(.dict #[de P "__module__" 993 (.str "forsworn.moot" 976),de P "__firstlineno__" 997 (.int (281) 996),de P "__init__" 1004 (.ref 639),de P "come" 1014 (.ref 646),de P "rise" 1024 (.ref 653),de P "die" 1034 (.ref 660),de P "penance" 1042 (.ref 667),de P "bring" 1051 (.ref 674),de P "give" 1062 (.ref 681),de P "pay" 1073 (.ref 688),de P "claim" 1087 (.ref 695),de P "wergild" 1102 (.ref 702),de P "accuse" 1115 (.ref 709),de P "now" 1122 (.ref 716),de P "roll" 1129 (.ref 723),de P "names" 1136 (.ref 730),de P "weight" 1145 (.ref 737),de P "dead" 1154 (.ref 744),de P "stands_for" 1163 (.ref 751),de P "things" 1170 (.ref 758),de P "cases" 1177 (.ref 765),de P "suits" 1183 (.ref 770),de P "standing" 1190 (.ref 777),de P "stands" 1198 (.ref 784),de P "margin" 1206 (.ref 791),de P "breakers" 1215 (.ref 798),de P "chain" 1223 (.ref 805),de P "bearing" 1231 (.ref 812),de P "paper" 1239 (.ref 819),de P "fewest" 1247 (.ref 826),de P "forsworn" 1255 (.ref 833),de P "holder" 1264 (.ref 840),de P "road" 1273 (.ref 847),de P "holds" 1282 (.ref 854),de P "owed" 1290 (.ref 861),de P "balance" 1299 (.ref 868),de P "twin" 1306 (.ref 875),de P "then" 1316 (.ref 882),de P "counting" 1324 (.ref 889),de P "forsworn_names" 1335 (.ref 896),de P "weighed" 1341 (.ref 901),de P "try_case" 1353 (.ref 908),de P "check_named" 1365 (.ref 915),de P "check_thing" 1373 (.ref 922),de P "check_sides" 1386 (.ref 929),de P "check_moments" 1393 (.ref 936),de P "__static_attributes__" 1403 (.ref 937),de P "__dict__" 1405 (.ref 940),de P "__weakref__" 1407 (.ref 941),de P "__doc__" 1408 .none] 4),#[]⟩)<|
 kpO (939,⟨(.type "type"),none,(.cls {name:="Moot", bases:=[(.type "object")],mro:=[(.ref 939),(.type "object")],ns:=938,qualname:="Moot", hasDict:=true,slotNames:=[],subclasses:=[],abstract:=false,collection:=none,hasDel:=false }),#[none,none,some (.str "Moot" 986),some (.str "Moot" 994),some (.builtin "object.__new__"),some (.bool true)]⟩)<|
 kf 949 "_law_src" 1413 517 1 1417 (Zt p 60) pm6<|
 kf 956 "_law_next" 1420 519 2 1427 (Zt p 61) pm6<|
 kf 970 "_law_same" 1437 536 2 1444 (Zt p 63) pm6<|
 kf 977 "_law_unlike" 1447 553 2 1455 (Zt p 64) pm6<|
 kf0 982 "_law_word" 1458 561 2 1461 (Zt p 65) pm6<|
 kf 989 "_law_names" 1464 564 2 1475 (Zt p 66) pm6<|
 kf 996 "_law_death" 1478 577 2 1484 (Zt p 67) pm6<|
 kf 1003 "_law_is_dead" 1487 582 3 1494 (Zt p 68) pm6<|
 kf 1010 "_law_weighs" 1497 585 3 1506 (Zt p 69) pm6<|
 kf 1017 "_law_pick" 1509 593 3 1518 (Zt p 70) pm6<|
 kf0 1022 "_law_hand" 1521 599 1 1524 (Zt p 71) pm6<|
 kf0 1027 "_law_try" 1527 601 2 1530 (Zt p 72) pm6<|
 kf 1034 "_law_is_case" 1533 611 1 1537 (Zt p 73) pm6<|
 kf0 1039 "_law_keep" 1540 613 2 1543 (Zt p 74) pm6<|
 kf 1046 "_law_start" 1546 624 4 1557 (Zt p 75) pm6<|
 kf 1053 "_law_one" 1560 633 2 1565 (Zt p 76) pm6<|
 kf0 1058 "_law_sides" 1568 635 4 1571 (Zt p 77) pm6<|
 kf0 1063 "_law_accused" 1574 646 2 1577 (Zt p 78) pm6<|
 kf0 1068 "_law_case_deed" 1580 653 4 1583 (Zt p 79) pm6<|
 kf0 1073 "_law_deed" 1586 664 3 1589 (Zt p 80) pm6<|
 kf0 1078 "_law_settled" 1592 681 1 1595 (Zt p 81) pm6<|
 kf 1085 "_law_is_forsworn" 1598 695 2 1611 (Zt p 82) pm6<|
 kf 1092 "_law_kind" 1614 709 2 1620 (Zt p 83) pm6<|
 kf 1099 "_law_stranger_refused" 1623 718 2 1629 (Zt p 84) pm6<|
 kf 1106 "_law_right" 1632 725 4 1641 (Zt p 85) pm6<|
 kf 1113 "law" 1644 735 1 1654 (Zt p 86) pm6<|[]
def KK(P:Params):uFg:=Kp PySem.Challenge.pw_forsworn_k30_who_is_forsworn P
def askd:List XW:=[3,37,38,57,58,76,77,95,96,114,115,133,134,152,153,171,172,190,191,209,210,228,229,247,248,266,267,285,286,304,305,323,324,361,362,370,371,377,378,384,385,391,392,398,399,403,404,408,409,422,423,429,430,436,437,443,444,462,463,497,498,518,519,525,526,532,533,539,540,546,547,553,554,560,561,563,564,574,575,581,582,588,589,593,594,600,601,607,608,612,613,619,620,624,625,638,639,645,646,652,653,659,660,666,667,673,674,680,681,687,688,694,695,701,702,708,709,832,833,874,875,881,882,895,896,900,901,907,908,914,915,921,922,928,929,935,936,938,939,949,950,956,957,970,971,977,978,982,983,989,990,996,997,1003,1004,1010,1011,1017,1018,1022,1023,1027,1028,1034,1035,1039,1040,1046,1047,1053,1054,1058,1059,1063,1064,1068,1069,1073,1074,1078,1079,1085,1086,1092,1093,1099,1100,1106,1107,1113,1114]
def HK:PySem.W.Hook:=PySem.W.kHook KK askd fun _=>by kernel_rfl
def q:XX:=PySem.W.view PySem.Challenge.pw_forsworn_k30_who_is_forsworn [0,2,3,4,5,6,7,8,9,10,11,12,13,14,15,16,17,18,19,21,23,24,25,26,27,28,29,30,32,33,34,36,37,39,40,41,42,43,44,45,46,47,48,49,50,51,52,54,55,56,57,58,60,61,62,63,64,65,66,67,68,69,70,71,72,73,74,75,76,77,78,79,80,81,82,83,84,85,86]
def ens:List (Str×Str):=[("NoName","NoName.called"),("NoMeasure","NoMeasure.called"),("Unknown","Unknown.called"),("Taken","Taken.called"),("NoThing","NoThing.called"),("NoCase","NoCase.called"),("NoOath","NoOath.called"),("NotYet","NotYet.called"),("Dead","Dead.called"),("NoHeir","NoHeir.called"),("TooMany","TooMany.called"),("SwornTwice","SwornTwice.called"),("Forsworn","Forsworn.called"),("TooLight","TooLight.called"),("Broken","Broken.called"),("NoMoment","NoMoment.called"),("NoDeed","NoDeed.called")]
end Law
namespace PySem.W.Fast
noncomputable def tw1300219129368060580:PySem.Program:=PySem.Challenge.pw_forsworn_k30_who_is_forsworn
theorem te1300219129368060580:PySem.Challenge.pw_forsworn_k30_who_is_forsworn=tw1300219129368060580:=rfl
end PySem.W.Fast
lay_quick PySem.Challenge.rw_forsworn_k30_who_is_forsworn Law.q Law.ens
namespace Law
open PySem L2 PySem.W.Fast
set_option maxRecDepth 1000000
noncomputable abbrev zqP:=(tw2368527892694137696 tw9089547518699958462).prog
theorem Rh(w:XY)(os:PySem.OsState):tw14574945829899846032 zqP w (tw15095419895629540892 w.params os)=some (tw17173385231801463501 w.params os,tw17649063868247884333 zqP):=by
 kernel_rfl
theorem LK(w:XY)(os:PySem.OsState):tw897522592586576512 zqP w (tw17173385231801463501 w.params os)=some (.next,tw17173385231801463501 w.params os,cP zqP,p0):=by
 kernel_rfl
theorem OO(w:XY)(os:PySem.OsState):tw3364177927453363911 zqP w 1713 0 9 p0 (tw17173385231801463501 w.params os)=some (.next,(tw15053072615319938550 zqP (tw2665081048563830263.take 6) w.params os),cP zqP,⟨29,0,32,23⟩):=by
 kernel_rfl
theorem Na(w:XY)(os:PySem.OsState):tw3364177927453363911 zqP w 1459 9 6 ⟨29,0,32,23⟩ (tw15053072615319938550 zqP (tw2665081048563830263.take 6) w.params os)=some (.next,(tw15053072615319938550 zqP (tw2665081048563830263.take 12) w.params os),cP zqP,⟨53,0,56,27⟩):=by
 kernel_rfl
theorem XB(w:XY)(os:PySem.OsState):tw3364177927453363911 zqP w 1216 15 5 ⟨53,0,56,27⟩ (tw15053072615319938550 zqP (tw2665081048563830263.take 12) w.params os)=some (.next,(tw15053072615319938550 zqP (tw2665081048563830263.take 17) w.params os),cP zqP,⟨73,0,76,23⟩):=by
 kernel_rfl
theorem Pm(w:XY)(os:PySem.OsState):Option.map (tw5166864615210023351 zqP w.params) (tw9491608239551792999 zqP w 8216 20 ⟨73,0,76,23⟩ (tw15053072615319938550 zqP (tw2665081048563830263.take 17) w.params os))=some true:=by
 kernel_rfl
theorem Sk(w:XY)(os:PySem.OsState):Option.map (tw9146811602139678113 tw2797900513057943271) (tw9491608239551792999 zqP w 8216 20 ⟨73,0,76,23⟩ (tw15053072615319938550 zqP (tw2665081048563830263.take 17) w.params os))=some (PyProof.Rows.expectedOf tw2797900513057943271,bltViewBooted):=by
 kernel_rfl
theorem Nd(w:XY)(os:PySem.OsState):Option.map (tw4330636226384752446 zqP tw2797900513057943271 ["breakers_stands"] (fun s=>PySem.W.xlAt tw2797900513057943271 [] s && PySem.W.recOk (tw2368527892694137696 tw9089547518699958462).records s)) (tw9491608239551792999 zqP w 8216 20 ⟨73,0,76,23⟩ (tw15053072615319938550 zqP (tw2665081048563830263.take 17) w.params os))=some true:=by
 kernel_rfl
theorem KA(w:XY)(os:PySem.OsState):Option.map (tw290884773970851577 tw2797900513057943271) (tw9491608239551792999 zqP w 8216 20 ⟨73,0,76,23⟩ (tw15053072615319938550 zqP (tw2665081048563830263.take 17) w.params os))=some true:=by
 kernel_rfl
theorem Pj(w:XY)(os:PySem.OsState):Option.map (tw9020109020722589832 tw2797900513057943271) (tw9491608239551792999 zqP w 8216 20 ⟨73,0,76,23⟩ (tw15053072615319938550 zqP (tw2665081048563830263.take 17) w.params os))=some (pinGoodD (PyProof.Rows.drecsOf tw2797900513057943271)):=by
 kernel_rfl
theorem RO(w:XY)(os:PySem.OsState):Option.map (tw1658975667393823239 tw2797900513057943271 ["breakers_stands"] 0) (tw9491608239551792999 zqP w 8216 20 ⟨73,0,76,23⟩ (tw15053072615319938550 zqP (tw2665081048563830263.take 17) w.params os))=some (tw10258256380655884400 tw2797900513057943271 ["breakers_stands"] 0):=by
 kernel_rfl
theorem Sf(w:XY)(os:PySem.OsState):Option.map (tw1658975667393823239 tw2797900513057943271 ["breakers_stands"] 1) (tw9491608239551792999 zqP w 8216 20 ⟨73,0,76,23⟩ (tw15053072615319938550 zqP (tw2665081048563830263.take 17) w.params os))=some (tw10258256380655884400 tw2797900513057943271 ["breakers_stands"] 1):=by
 kernel_rfl
theorem QN(w:XY)(os:PySem.OsState):Option.map (tw1671388014868620310 tw2797900513057943271 ["breakers_stands"] 2) (tw9491608239551792999 zqP w 8216 20 ⟨73,0,76,23⟩ (tw15053072615319938550 zqP (tw2665081048563830263.take 17) w.params os))=some (tw2047387775680494199 tw2797900513057943271 ["breakers_stands"] 2):=by
 kernel_rfl
theorem Xb(w:XY)(os:PySem.OsState):Option.map (tw11153056314078912757 tw2797900513057943271 ["breakers_stands"]) (tw9491608239551792999 zqP w 8216 20 ⟨73,0,76,23⟩ (tw15053072615319938550 zqP (tw2665081048563830263.take 17) w.params os))=some (PyProof.Rows.plainGoodD tw2797900513057943271 ["breakers_stands"]):=by
 kernel_rfl
theorem Lf(w:XY)(os:PySem.OsState):Option.map (tw1743938642414776662 tw2797900513057943271) (tw9491608239551792999 zqP w 8216 20 ⟨73,0,76,23⟩ (tw15053072615319938550 zqP (tw2665081048563830263.take 17) w.params os))=some (PySem.W.wideGood tw2797900513057943271):=by
 kernel_rfl
theorem LP(w:XY)(os:PySem.OsState):Option.map (tw15055011524645977279 tw2797900513057943271 ["breakers_stands"]) (tw9491608239551792999 zqP w 8216 20 ⟨73,0,76,23⟩ (tw15053072615319938550 zqP (tw2665081048563830263.take 17) w.params os))=some (PySem.W.clsGoodW tw2797900513057943271 ["breakers_stands"]):=by
 kernel_rfl
theorem Ss(w:XY)(os:PySem.OsState):Option.map (fun s=>askd.map s.abs.heap.get?) (tw9491608239551792999 zqP w 8216 20 ⟨73,0,76,23⟩ (tw15053072615319938550 zqP (tw2665081048563830263.take 17) w.params os))=some ((Kp tw1300219129368060580 w.params).map fun p=>some p.2):=by
 kernel_rfl
local macro_rules | `(tactic| walk_at "q")=>`(tactic| (intro h;simp only[← te14574945829899846032,← te897522592586576512,← te3364177927453363911,← te9491608239551792999,← te15053072615319938550,← te17173385231801463501,← te17649063868247884333,← te2665081048563830263,← te5166864615210023351,← te9146811602139678113,← te4330636226384752446,← te290884773970851577,← te9020109020722589832,← te11153056314078912757,← te15055011524645977279,← te1743938642414776662,← te1658975667393823239,← te1671388014868620310,← te10258256380655884400,← te2047387775680494199,← te15095419895629540892,← te2797900513057943271,← te2368527892694137696,← te9089547518699958462,← te14364793385576792824,← te1300219129368060580] at h;exact h))
theorem left:PySem.W.LeftO PySem.Challenge.rw_forsworn_k30_who_is_forsworn.row.prog q ["breakers_stands"] (fun s=>PySem.W.xlAt q [] s && PySem.W.recOk (PySem.W.RowW.records PySem.Challenge.rw_forsworn_k30_who_is_forsworn.row.toRowW) s) HK.obs HK.val 12617:=by
 refine QB (M:=4401) (N:=8216) (k:=20) (pos:=⟨73,0,76,23⟩) (s:=fun w os=>errS PySem.Challenge.rw_forsworn_k30_who_is_forsworn.row.prog (ens.take 17) w.params os) (by kernel_rfl) aA (fun s=>by kernel_rfl) (fun w os=>?_)
  (fun w os=>(by have h:=Pm w os;revert h;walk_at "q"))
  (fun w os=>(by have h:=Sk w os;revert h;walk_at "q"))
  (fun w os=>(by have h:=Nd w os;revert h;walk_at "q"))
  (fun w os=>(by have h:=KA w os;revert h;walk_at "q"))
  (fun w os=>(by have h:=Pj w os;revert h;walk_at "q"))
  (fun w os=>(by have h:=RO w os;revert h;walk_at "q"))
  (fun w os=>(by have h:=Sf w os;revert h;walk_at "q"))
  (fun w os=>(by have h:=QN w os;revert h;walk_at "q"))
  (fun w os=>(by have h:=Xb w os;revert h;walk_at "q"))
  (fun w os=>(by have h:=Lf w os;revert h;walk_at "q"))
  (fun w os=>(by have h:=LP w os;revert h;walk_at "q"))
  (fun w os=>(by have h:=Ss w os;revert h;walk_at "q"))
 have R:=VB.zero (p:=PySem.Challenge.rw_forsworn_k30_who_is_forsworn.row.prog) (w:=w) (os:=os) (by have h:=Rh w os;revert h;walk_at "q") (by have h:=LK w os;revert h;walk_at "q");have R:=R.step 1713 9 (by have h:=OO w os;revert h;walk_at "q");have R:=R.step 1459 6 (by have h:=Na w os;revert h;walk_at "q");have R:=R.step 1216 5 (by have h:=XB w os;revert h;walk_at "q");exact R
end Law
section
namespace L2
open PySem PySem.Spec PyProof.Rows
theorem aB{n:Nat}(h:Nat.ble n 5000=true):n<=sizeLine:=Nat.le_trans (Nat.le_of_ble_eq_true h) (by decide)
theorem aC:(5000:Nat)<=sizeLine:=by decide
abbrev ZU:=Sum Int Str
def AR:ZU->XU->Bool
 | .inl k,v=>Value.isInt k v
 | .inr x,v=>Value.isStrOf x v
def PU(w:XY):ZU->Int
 | .inl k=>hashInt k
 | .inr x=>hashStr w x
theorem JA:∀{k:ZU}{v:XU},AR k v=true->(∃i t,k=Sum.inl i/\v=Value.int i t)\/(∃x t,k=Sum.inr x/\v=Value.str x t)
 | .inl i,v,h=>by
  obtain⟨t,e⟩:=Value.isInt_shape (k:=i) (v:=v) h;exact .inl ⟨i,t,rfl,e⟩
 | .inr x,v,h=>by
  obtain⟨t,e⟩:=Value.isStrOf_shape (x:=x) (v:=v) h;exact .inr ⟨x,t,rfl,e⟩
theorem Pn(i:Int)(t:Tok):AR (.inl i) (.int i t)=true:=by simp[AR,Value.isInt]
theorem Nr(x:Str)(t:Tok):AR (.inr x) (.str x t)=true:=by simp[AR,Value.isStrOf]
theorem MJ(a b:Int):decide ((Sum.inl a:ZU)=Sum.inl b)=(a == b):=by grind
theorem Om(a b:Str):decide ((Sum.inr a:ZU)=Sum.inr b)=decide (a=b):=by grind
theorem Pw(a:Int)(b:Str):decide ((Sum.inl a:ZU)=Sum.inr b)=false:=yZ (fun q=>nomatch q)
theorem Ng(a:Str)(b:Int):decide ((Sum.inr a:ZU)=Sum.inl b)=false:=yZ (fun q=>nomatch q)
def Wm(prog:XX)(w:XY):PySem.KeyKind prog w ZU where
 is:=AR
 hash:=PU w
 inj:=fun v a b ha hb=>by
  rcases JA ha with⟨i,t,rfl,rfl⟩ | ⟨x,t,rfl,rfl⟩
  ·rcases JA hb with⟨j,u,rfl,e⟩ | ⟨y,u,rfl,e⟩
   ·injection e with e1 _;rw[e1]
   ·exact nomatch e
  ·rcases JA hb with⟨j,u,rfl,e⟩ | ⟨y,u,rfl,e⟩
   ·exact nomatch e
   ·injection e with e1 _;rw[e1]
 byValue:=fun k v h=>by
  rcases JA h with⟨i,t,rfl,rfl⟩ | ⟨x,t,rfl,rfl⟩<;>rfl
 pyHash:=fun hv h=>by
  rcases JA hv with⟨i,t,rfl,rfl⟩ | ⟨x,t,rfl,rfl⟩
  ·exact wpAny_pyHash_int h
  ·exact wpAny_pyHash_str h
 eqBool:=fun hu hv h=>by
  rcases JA hu with⟨i,t,rfl,rfl⟩ | ⟨x,t,rfl,rfl⟩
  ·rcases JA hv with⟨j,u,rfl,rfl⟩ | ⟨y,u,rfl,rfl⟩
   ·rw[MJ] at h;exact wpAny_eqBool_int h
   ·rw[Pw] at h;exact SeqAt.EqAt.int_str i t y u _ _ _ _ h
  ·rcases JA hv with⟨j,u,rfl,rfl⟩ | ⟨y,u,rfl,rfl⟩
   ·rw[Ng] at h;exact SeqAt.EqAt.str_int x t j u _ _ _ _ h
   ·rw[Om] at h;exact wpAny_eqBool_str h
 «strs»:=fun k x t v h=>by
  rcases JA h with⟨i,u,rfl,e⟩ | ⟨y,u,rfl,e⟩
  ·exact nomatch e
  ·injection e with e1 _
   subst e1
   cases v<;>rfl
theorem L4(prog:XX)(w:XY)(i:Int)(t:Tok):(Wm prog w).is (.inl i) (.int i t)=true:=Pn i t
theorem MD(prog:XX)(w:XY)(x:Str)(t:Tok):(Wm prog w).is (.inr x) (.str x t)=true:=Nr x t
inductive V where
 | non | bl (b:Bool) | int (i:Int) | str (x:Str) | byt (b:Array UInt8) | flt (b:UInt64) | ref (a:XW) | ty (n:String)
 deriving DecidableEq
abbrev aG:=List V
def ZG:V->XU->Prop
 | .non,u=>u=Value.none
 | .bl b,u=>u=Value.bool b
 | .int i,u=>∃t,u=Value.int i t
 | .str x,u=>∃t,u=Value.str x t
 | .byt b,u=>∃t,u=Value.bytes b t
 | .flt b,u=>∃t,u=Value.float b t
 | .ref a,u=>u=Value.ref a
 | .ty n,u=>u=Value.type n
abbrev ZH:List V->List XU->Prop:=Paired ZG
theorem ZH.length(r:ZH xs us):xs.length=us.length:=Paired.length r
theorem ZH.get:∀{xs:aG}{us:XQ}{i:Nat}{x:V},ZH xs us->xs[i]? = some x->∃u,us[i]? = some u/\ZG x u
 | _,_,_,_,.nil,e=>by simp at e
 | _,_,0,_,.cons r _,e=>by simp at e;subst e;exact⟨_,rfl,r⟩
 | _,_,i+1,x,.cons _ t,e=>by
  obtain⟨u,h1,h2⟩:=ZH.get (i:=i) (x:=x) t (by simpa using e);exact⟨u,by simpa using h1,h2⟩
theorem ZH.set(r:ZG x u):∀{xs:aG}{us:XQ}(i:Nat),ZH xs us->ZH (xs.set i x) (us.set i u)
 | _,_,_,.nil=>.nil
 | _,_,0,.cons _ t=>.cons r t
 | _,_,i+1,.cons q t=>.cons q (ZH.set r i t)
theorem ZH.append:∀{xs ys:aG}{us ws:XQ},ZH xs us->ZH ys ws->ZH (xs++ys) (us++ws)
 | _,_,_,_,.nil,s=>s
 | _,_,_,_,.cons r t,s=>.cons r (ZH.append t s)
theorem ZH.take:∀{xs:aG}{us:XQ}(n:Nat),ZH xs us->ZH (xs.take n) (us.take n)
 | _,_,0,_=>.nil
 | _,_,_+1,.nil=>.nil
 | _,_,n+1,.cons r t=>.cons r (ZH.take n t)
theorem ZH.drop:∀{xs:aG}{us:XQ}(n:Nat),ZH xs us->ZH (xs.drop n) (us.drop n)
 | _,_,0,r=>r
 | _,_,_+1,.nil=>.nil
 | _,_,n+1,.cons _ t=>ZH.drop n t
def YN:Option V->Option XU->Prop
 | some v,some u=>ZG v u
 | none,none=>True
 | _,_=>False
def KV{κ:Type}:List (κ×V)->List (κ×XU)->Prop:=Paired fun(p : κ×V) (q : κ×XU)=>p.1=q.1/\ZG p.2 q.2
def kV:ZU->V
 | .inl i=>.int i
 | .inr x=>.str x
inductive HO where
 | lst (xs:aG)
 | tup (xs:aG)
 | dK (kvs:List (ZU×V)) | dT (kvs:List (List ZU×V))
 | set (S:Int->Bool) (n:Nat)
 | ins (C dx:XW) (fs:List (Str×V))
 | own (x:XW)
 | xd (fs:List (Str×V))
 | met (f x:XW)
 | rng (lo hi:Int)
 | frz (o:Obj) (u:HO)
 | tbl (ps:Array XU)
 | ext (φ:Heap->Prop)
abbrev Hp:=XW->Option HO
def upd(H:Hp)(a:XW)(o:HO):Hp:=fun b=>if b=a then some o else H b
theorem Zi:upd H a o a=some o:=by unfold upd;rw[if_pos rfl]
theorem Ze(h:b≠a):upd H a o b=H b:=by unfold upd;rw[if_neg h]
theorem Kj{H:Hp}{a b:XW}{o u:HO}(h:H a=some o)(h':H b=some u)(d:o≠u):a≠b:=by
 intro e;subst e;rw[h] at h';exact d (Option.some.inj h')
theorem Zl{H:Hp}{a b:XW}{o:HO}(h:H a=some o)(h':H b=none):a≠b:=by
 intro e;subst e;rw[h] at h';cases h'
section
variable(P:XX)(w:XY)
def ZO(H:Hp)(h:Heap)(a:XW):HO->Prop
 | .lst xs=>xs.length<=sizeLine/\∃(its:XQ)(n:Nat),ZH xs its/\h.get? a=some {cls:=.type "list", data:=.seq its.toArray n }
 | .tup xs=>xs.length<=sizeLine/\∃its:List XU,ZH xs its/\IsTup h a its.toArray
 | .dK kvs=>kvs.length<=sizeLine/\(a == sysModules)=false/\∃vs,KV kvs vs/\h.DictOf (Wm P w) a vs
 | .dT kvs=>kvs.length<=sizeLine/\(a == sysModules)=false/\∃xs:List (List ZU×XW×XU),
   Paired (fun(p:List ZU×V) (q:List ZU×XW×XU)=>p.1=q.1/\H q.2.1=some (.tup (p.1.map kV))/\ZG p.2 q.2.2) kvs xs /\
   ∃o es ep,h.get? a=some o/\o.ExactDict/\o.data = .dict es ep/\es.toList=xs.map (entryOfKey (tupleKind (Wm P w)))/\(xs.map (·.1)).Nodup
 | .set S n=>h.SetOf (intKind P w) a S n
 | .ins C dx fs=>H dx=some (.own a)/\fs.length<=1000/\dx≠a/\h.get? a=some (PySem.W.instObj C dx)/\
   ∃mA,h.Ns1 dx mA/\(∀f,YN (fs.lookup f) (mA f))/\PySem.Within mA (fs.map (·.1))
 | .own _=>∃o,h.get? a=some o
 | .xd fs=>∃mA,h.Ns1 a mA/\∀f,YN (fs.lookup f) (mA f)
 | .rng lo hi=>∃t u v,h.get? a=some {cls:=.type "range", data:=.fields #[.int lo t,.int hi u,.int 1 v] }
 | .frz o u=>h.get? a=some o/\ZO H h a u
 | .tbl ps=>∃qs nm t,h.get? a=some {cls:=.none,data:=.fields qs }/\TriplesOk qs.toList/\ps[0]? = some (.str nm t)/\∀pos cv,codeAmong pos qs.toList=some cv->∃c,cv = .ref c/\H c=some (.own a)/\h.CodeRec (.ref c) nm
 | .met f x=>h.get? a=some (PySem.W.methodObj (.ref f) (.ref x))
 | .ext φ=>φ h/\(∃o,h.get? a=some o)/\∀h1 h2:Heap,φ h1->(∀o,h1.get? a=some o->h2.get? a=some o)->φ h2
def YQ(H:Hp)(h:Heap):Prop:=∀a o,H a=some o->ZO P w H h a o
end
section
variable{P:XX}{w:XY}{H:Hp}{h h':Heap}{a:XW}{o:HO}
theorem ZO.lt(x:ZO P w H h a o):a < h.objs.size:=by
 cases o with
 | lst xs=>obtain⟨_,_,_,_,e⟩:=x;exact xS e
 | tup xs=>obtain⟨_,_,_,p⟩:=x;exact p.lt
 | dK kvs=>obtain⟨_,_,_,_,o,_,_,e,_⟩:=x;exact xS e
 | dT kvs=>obtain⟨_,_,_,_,o,_,_,e,_⟩:=x;exact xS e
 | set S n=>obtain⟨o,_,_,_,e,_⟩:=x;exact xS e
 | ins C dx fs=>obtain⟨_,_,_,e,_⟩:=x;exact xS e
 | own y=>obtain⟨_,e⟩:=x;exact xS e
 | xd fs=>obtain⟨_,⟨_,_,_,e,_⟩,_⟩:=x;exact xS e
 | rng lo hi=>obtain⟨_,_,_,e⟩:=x;exact xS e
 | frz ob u=>obtain⟨e,_⟩:=x;exact xS e
 | tbl ps=>obtain⟨_,_,_,e,_⟩:=x;exact xS e
 | met f y=>exact xS (show h.get? a=some _ from x)
 | ext φ=>obtain⟨_,⟨_,e⟩,_⟩:=x;exact xS e
theorem Paired.mapP{α β:Type}{F G : α->β->Prop}:∀{l₁:List α}{l₂:List β},Paired F l₁ l₂->(∀a b,F a b->G a b)->Paired G l₁ l₂
 | _,_,.nil,_=>.nil
 | _,_,.cons r t,f=>.cons (f _ _ r) (Paired.mapP t f)
theorem ZO.stay(x:ZO P w H h a o)(k:∀b u,(b=a\/H b=some (.own a))->h.get? b=some u->h'.get? b=some u)(ho:∀b,H b=some (.own a)->H' b=some (.own a))(ht:∀b xs,H b=some (.tup xs)->H' b=some (.tup xs)):ZO P w H' h' a o:=by
 induction o with
 | lst xs=>obtain⟨z,its,n,r,e⟩:=x;exact⟨z,its,n,r,k _ _ (.inl rfl) e⟩
 | tup xs=>obtain⟨z,its,r,ob,e,c⟩:=x;exact⟨z,its,r,ob,k _ _ (.inl rfl) e,c⟩
 | dK kvs=>obtain⟨z,y,vs,r,ob,es,ep,e,c⟩:=x;exact⟨z,y,vs,r,ob,es,ep,k _ _ (.inl rfl) e,c⟩
 | dT kvs =>
  obtain⟨z,y,xs,r,ob,es,ep,e,c⟩:=x;exact⟨z,y,xs,Paired.mapP r fun p q z=>⟨z.1,ht _ _ z.2.1,z.2.2⟩,ob,es,ep,k _ _ (.inl rfl) e,c⟩
 | set S n=>obtain⟨ob,es,ep,t,e,c⟩:=x;exact⟨ob,es,ep,t,k _ _ (.inl rfl) e,c⟩
 | ins C dx fs =>
  obtain⟨d,z,ne,e,mA,⟨od,es,ep,e2,c⟩,r⟩:=x;exact⟨ho _ d,z,ne,k _ _ (.inl rfl) e,mA,⟨od,es,ep,k _ _ (.inr d) e2,c⟩,r⟩
 | own y=>obtain⟨ob,e⟩:=x;exact⟨ob,k _ _ (.inl rfl) e⟩
 | xd fs=>obtain⟨mA,⟨od,es,ep,e,c⟩,r⟩:=x;exact⟨mA,⟨od,es,ep,k _ _ (.inl rfl) e,c⟩,r⟩
 | rng lo hi=>obtain⟨t,u,v,e⟩:=x;exact⟨t,u,v,k _ _ (.inl rfl) e⟩
 | frz ob u ih=>obtain⟨e,q⟩:=x;exact⟨k _ _ (.inl rfl) e,ih q⟩
 | tbl ps =>
  obtain⟨qs,nm,t,e,z1,z2,z3⟩:=x;refine⟨qs,nm,t,k a _ (.inl rfl) e,z1,z2,fun pos cv ec=>?_⟩;obtain⟨c,e1,e2,c2,oc,vs,tt,e3,e4,e5⟩:=z3 pos cv ec;cases e3;exact⟨c,e1,ho _ e2,c,oc,vs,tt,rfl,k _ _ (.inr e2) e4,e5⟩
 | met f y =>
  have e:h.get? a=some (PySem.W.methodObj (.ref f) (.ref y)):=x;show h'.get? a=some (PySem.W.methodObj (.ref f) (.ref y));exact k a _ (.inl rfl) e
 | ext φ=>obtain⟨p,⟨o,e⟩,st⟩:=x;exact⟨st _ _ p fun o q=>k _ _ (.inl rfl) q,⟨o,k _ _ (.inl rfl) e⟩,st⟩
theorem YQ.lt(x:YQ P w H h)(e:H a=some o):a < h.objs.size:=(x a o e).lt
theorem YQ.fresh(x:YQ P w H h)(e:h.objs.size<=a):H a=none:=by
 cases q:H a with
 | none=>rfl
 | some u=>exact absurd (yI (x.lt q) e) (zQ _)
theorem YQ.kept(x:YQ P w H h)(k:∀b u,h.get? b=some u->h'.get? b=some u):YQ P w H h':=fun a o e =>
 (x a o e).stay (fun b u _ q=>k b u q) (fun _ q=>q) fun _ _ q=>q
theorem YQ.laid(x:YQ P w H h)(k:∀b u,h.get? b=some u->h'.get? b=some u)(hp:h.objs.size<=a)(new:ZO P w (upd H a o) h' a o):YQ P w (upd H a o) h':=fun b u e=>by
 have hn:=x.fresh hp
 by_cases hb:b=a
 ·subst hb;rw[Zi] at e;cases e;exact new
 ·rw[Ze hb] at e;exact(x b u e).stay (fun c v _ q=>k c v q) (fun c q=>by rw[Ze (Zl q hn)];exact q) fun c xs q=>by rw[Ze (Zl q hn)];exact q
end
def Rd(H:Hp)(a:XW)(u:HO):Prop:=H a=some u\/∃o,H a=some (.frz o u)
theorem Rd.ok(r:Rd H a u)(x:YQ P w H h):ZO P w H h a u:=by
 rcases r with r | ⟨o,r⟩
 ·exact x a u r
 ·obtain⟨_,q⟩:=x a _ r;exact q
def BE:Option HO->Prop
 | some (.lst _)=>True
 | some (.dK _)=>True
 | some (.dT _)=>True
 | some (.set _ _)=>True
 | some (.ins _ _ _)=>True
 | some (.ext _)=>True
 | _=>False
theorem YQ.write(ok:YQ P w H h)(mu:BE (H x))(he:e=x\/H e=some (.own x))(k:∀b u,b≠e->h.get? b=some u->h'.get? b=some u)(heo:∃u,h'.get? e=some u)(new:ZO P w (upd H x o') h' x o'):YQ P w (upd H x o') h':=fun b u q=>by
 have nown:∀c y,H c=some (.own y)->c≠x:=fun c y r z=>by subst z;rw[r] at mu;exact mu
 have ntup:∀c xs,H c=some (.tup xs)->c≠x:=fun c xs r z=>by subst z;rw[r] at mu;exact mu
 by_cases hb:b=x
 ·subst hb;rw[Zi] at q;cases q;exact new
 ·rw[Ze hb] at q
  by_cases hbe:b=e
  ·have q':H b=some (.own x):=by
    rcases he with z | z
    ·exact absurd (hbe.trans z) hb
    ·rw[hbe];exact z
   rw[q] at q';cases q';obtain⟨v,hv⟩:=heo;exact⟨v,by rw[hbe];exact hv⟩
  ·refine(ok b u q).stay (fun c v hc r=>k c v ?_ r) (fun c r=>by rw[Ze (nown c b r)];exact r) fun c xs r=>by rw[Ze (ntup c xs r)];exact r
   rcases hc with rfl | hc
   ·exact hbe
   ·grind
structure Un (fs ex:XS) (H H':Hp) (h h':Heap):Prop where
 keep:∀b o,h.get? b=some o->H b=none->b∉fs->b∉ex->h'.get? b=some o
 slot:∀b o,h.get? b=some o->H b=none->b∈fs->b∉ex->∃sl,h'.get? b=some {o with slots:=sl }
 free:∀b o,h.get? b=some o->H b=none->b∉ex->H' b=none
 there:∀b o,h.get? b=some o->b∉ex->∃o',h'.get? b=some o'
 tups:∀b xs,H b=some (.tup xs)->H' b=some (.tup xs)
 frzs:∀b o u,H b=some (.frz o u)->H' b=some (.frz o u)
 tbls:∀b ps,H b=some (.tbl ps)->∃more,H' b=some (.tbl (ps++more))
section
variable{fs ex:XS}{H:Hp}{h h':Heap}{a:XW}{o:HO}
theorem Un.any(u:Un fs ex H H1 h h1)(q:h.get? b=some ob)(n:H b=none)(hx:b∉ex):∃sl,h1.get? b=some {ob with slots:=sl }:=by
 by_cases hb:b∈fs
 ·exact u.slot b ob q n hb hx
 ·exact⟨ob.slots,u.keep b ob q n hb hx⟩
theorem Un.kept(k:∀b u,h.get? b=some u->h'.get? b=some u):Un fs ex H H h h' :=
 ⟨fun b ob q _ _ _=>k b ob q,fun b ob q _ _ _=>⟨ob.slots,k b ob q⟩,fun _ _ _ n _=>n,fun b ob q _=>⟨ob,k b ob q⟩,fun _ _ q=>q,fun _ _ _ q=>q,fun _ ps q=>⟨#[],by rw[q];simp⟩⟩
theorem Un.refl:Un fs ex H H h h:=Un.kept fun _ _ q=>q
theorem Un.laid(k:∀b u,h.get? b=some u->h'.get? b=some u)(hp:h.objs.size<=a)(hn:H a=none):Un fs ex H (upd H a o) h h' where
 keep:=fun b u q _ _ _=>k b u q
 slot:=fun b u q _ _ _=>⟨u.slots,k b u q⟩
 free:=fun b u q n _=>by rw[Ze (yH (yI (xS q) hp))];exact n
 there:=fun b u q _=>⟨u,k b u q⟩
 tups:=fun b xs q=>by rw[Ze (Zl q hn)];exact q
 frzs:=fun b u xs q=>by rw[Ze (Zl q hn)];exact q
 tbls:=fun b ps q=>⟨#[],by rw[Ze (Zl q hn),q];simp⟩
theorem Un.write(mu:BE (H x))(he:e=x\/H e=some (.own x))(k:∀b u,b≠e->h.get? b=some u->h'.get? b=some u)(heo:∃u,h'.get? e=some u):Un fs ex H (upd H x o) h h':=by
 have hx:∀b,H b=none->b≠x:=fun b n z=>by subst z;rw[n] at mu;exact mu
 have hb:∀b,H b=none->b≠e:=fun b n z=>by
  subst z;rcases he with r | r
  ·exact hx b n r
  ·rw[n] at r;cases r
 have hm:∀b u,H b=some u->¬BE (some u)->b≠x:=fun b u q nm z=>by subst z;rw[q] at mu;exact nm mu
 refine⟨fun b u q n _ _=>k b u (hb b n) q,fun b u q n _ _=>⟨u.slots,k b u (hb b n) q⟩,fun b u q n _=>by rw[Ze (hx b n)];exact n,fun b u q _=>?_,
  fun b xs q=>by rw[Ze (hm b _ q fun z=>z)];exact q,fun b u xs q=>by rw[Ze (hm b _ q fun z=>z)];exact q,fun b ps q=>⟨#[],by rw[Ze (hm b _ q fun z=>z),q];simp⟩⟩
 by_cases hbe:b=e
 ·subst hbe;exact heo
 ·exact⟨u,k b u hbe q⟩
end
def trk(h:Heap)(H:Hp):List XW:=(List.range h.objs.size).filter fun a=>(H a).isSome
def JI(h:Heap)(H:Hp):Heap:=PySem.W.hideAll h (trk h H)
theorem Qh(h:Heap)(H:Hp):(JI h H).objs.size=h.objs.size:=PySem.W.hideAll_size _ _
theorem Sn(e:h.get? b=some o)(n:H b=none):(JI h H).get? b=some o :=
 PySem.W.hideAll_get _ e fun hm=>by
  have q:(H b).isSome=true:=(List.mem_filter.mp hm).2;rw[n] at q;simp at q
theorem SZ(e:(JI h H).get? b=some o):h.get? b=some o/\H b=none:=by
 have e':h.get? b=some o:=PySem.W.of_hideAll (trk h H) e;refine⟨e',?_⟩;cases q:H b with
 | none=>rfl
 | some x =>
  have hm:b∈trk h H:=List.mem_filter.mpr ⟨wG.mpr (xS e'),by simp[q]⟩;have z:(JI h H).get? b=none:=PySem.W.hideAll_none (trk h H) hm;rw[z] at e;cases e
structure Mod (K:uFg) (mg:XN) (base:Heap):Prop where
 kin:K.In base
 glob:base.Ns mainGlobals mg
 blt:∃mb,base.Ns builtinsNs mb/\∀x:Str,x ≠ "__name__" -> mb x=bootBuiltins x
 nolimit:base.NoLimit
/-- the context: a def's body (or a comprehension's block) running. base: fixed through the whole law;s₀,H₀: the entry;outer: the frames whose slots others may change (a def's callers);stack: all frames that run;
   ex: iterators that were made ahead of the entry and are walked here (a comprehension's);fn: the names whose cells were made at the entry (a def: all;a comprehension's block: its own);calm: not within an except suite;pn: pins that every state bears;xe: what is wanted of an exception that leaves the code -/
structure Cx where
 prog:XX
 w:XY
 K:uFg
 mg:Str->Option XU
 base:Heap
 A:XZ
 N:List Str
 s₀:XT
 H₀:Hp
 env:Env
 outer:List Env
 stack:List Env
 ex:List XW
 fn:Str->Bool
 calm:Bool
 pn:List (XW×Obj)
 xe:XU->XT->Prop
def frs(l:List Env):List XW:=l.filterMap (·.frame)
abbrev Cx.fs(X:Cx):List XW:=frs X.outer
def CT(sc:Scope)(x:Str):Prop:=sc.names.lookup x=some .local\/sc.names.lookup x=some .cell\/sc.names.lookup x=some .free
def CA(sc:Scope)(x:Str):Prop:=sc.names.lookup x=some .local\/sc.names.lookup x=some .cell
def MH(env:Env)(h:Heap)(m:XN)(x:Str)(u:XU):Prop :=
 (env.kindOf x=some .local/\m x=some u)\/((env.kindOf x=some .cell\/env.kindOf x=some .free)/\∃c,env.cells.lookup x=some c/\h.IsCell c (some u))
structure Cx.Ok (X:Cx):Prop where
 mod:Mod X.K X.mg X.base
 kind:X.env.scope.kind = .function
 glob:X.env.globals=mainGlobals
 blt:X.env.builtins=builtinsNs
 above:X.s₀.heap.objs.size<=X.env.locals
 inj:∀x y c,X.env.cells.lookup x=some c->X.env.cells.lookup y=some c->x=y
 has:∀x,(X.env.kindOf x=some .cell\/X.env.kindOf x=some .free)->∃c,X.env.cells.lookup x=some c
 cab:∀x c,X.fn x=true->X.env.cells.lookup x=some c->X.s₀.heap.objs.size<=c
 hd:X.calm=true->X.A.handled=none
 frames:X.A.frames=some X.stack
 stk:X.stack=X.outer\/(X.stack=X.env::X.outer/\X.env.frame=some X.env.locals)
 exf:∀b∈X.ex,b≠X.env.locals/\∀x c,X.env.cells.lookup x=some c->c≠b
 bs:∀b o,X.base.get? b=some o->X.s₀.heap.get? b=some o/\X.H₀ b=none
 bsz:X.base.objs.size<=X.s₀.heap.objs.size
 noex:∀b o,X.base.get? b=some o->b∉X.ex
 exfs:∀b∈X.ex,b∉X.fs
 funs:X.s₀.heap.FunFrames X.base X.outer
 frf:∀b∈X.fs,X.H₀ b=none
structure ZD (X:Cx) (pins:List (XW×Obj)) (σ:List (Option V)) (H:Hp) (s:XT):Prop where
 ok:X.Ok
 os:s.os=X.s₀.os
 bare:AllBare s.gens
 base:Un X.fs X.ex X.H₀ H X.s₀.heap s.heap
 loc:∃m,s.heap.Ns X.env.locals m/\∀(i:Nat)(x:Str)(v:V),X.N[i]? = some x->σ[i]? = some (some v)->CT X.env.scope x->∃u,ZG v u/\MH X.env s.heap m x u
 cell:∀x c,X.env.cells.lookup x=some c->∃v,s.heap.IsCell c v
 free:H X.env.locals=none
 freeC:∀x c,X.env.cells.lookup x=some c->H c=none
 pin:∀p∈X.pn++pins,s.heap.get? p.1=some p.2/\H p.1=none/\p.1≠X.env.locals/\p.1∉X.fs/\∀v,p.2.data ≠ .cell v
 hok:YQ X.prog X.w H s.heap
 len : σ.length=X.N.length
section
variable{X:Cx}
theorem Cx.Ok.nofr(ok:X.Ok){b:XW}{o:Obj}(e:X.base.get? b=some o):b∉X.fs:=fun hb=>by
 have:=(ok.funs.mem hb).1;rw[e] at this;cases this
theorem ZD.bs(I:ZD X pins σ H s):∀b o,X.base.get? b=some o->s.heap.get? b=some o/\H b=none:=fun b o e =>
 ⟨I.base.keep b o (I.ok.bs b o e).1 (I.ok.bs b o e).2 (I.ok.nofr e) (I.ok.noex b o e),I.base.free b o (I.ok.bs b o e).1 (I.ok.bs b o e).2 (I.ok.noex b o e)⟩
theorem ZD.bk(I:ZD X pins σ H s):∀b o,X.base.get? b=some o->s.heap.get? b=some o:=fun b o e=>(I.bs b o e).1
theorem ZD.mod(I:ZD X pins σ H s):Mod X.K X.mg X.base:=I.ok.mod
theorem ZD.kIn(I:ZD X pins σ H s):X.K.In s.heap:=I.ok.mod.kin.keeps I.bk
theorem ZD.lt(I:ZD X pins σ H s):X.env.locals < s.heap.objs.size:=let ⟨_,hn,_⟩:=I.loc;hn.lt
theorem ZD.sz(I:ZD X pins σ H s):X.s₀.heap.objs.size<=s.heap.objs.size:=yC I.ok.above (zD I.lt)
theorem ZD.nofs(I:ZD X pins σ H s){a:XW}(h:s.heap.objs.size<=a):a∉X.fs:=fun hb=>by
 obtain⟨_,o,ho,_⟩:=I.ok.funs.mem hb;exact absurd (yI (xS ho) (yC I.sz h)) (zQ _)
theorem ZD.cne(I:ZD X pins σ H s):∀x c,X.env.cells.lookup x=some c->c≠X.env.locals:=fun x c e z=>by
 obtain⟨v,o,ho,hd⟩:=I.cell x c e;obtain⟨m,⟨o',es,ep,ho',hd',_⟩,_⟩:=I.loc;rw[z,ho'] at ho;cases ho;rw[hd'] at hd;cases hd
theorem ZD.funs(I:ZD X pins σ H s):s.heap.FunFrames X.base X.outer:=by
 have all:∀(l:List Env),(∀b∈frs l,b∈X.fs)->X.s₀.heap.FunFrames X.base l->s.heap.FunFrames X.base l:=by
  intro l
  induction l with
  | nil=>intro _ _;trivial
  | cons env r ih =>
   intro hs hl;obtain⟨hk,⟨L,o,hf,hn,ho,hd⟩,hr⟩:=hl;have hL:L∈X.fs:=hs L (by unfold frs;rw[List.filterMap_cons,hf];exact xY);obtain⟨sl,e⟩:=I.base.slot L o ho (I.ok.frf L hL) hL fun z=>I.ok.exfs L z hL;exact⟨hk,⟨L,_,hf,hn,e,hd⟩,ih (fun b hb=>hs b (by unfold frs;rw[List.filterMap_cons,hf];exact xN _ hb)) hr⟩
 exact all X.outer (fun _ hb=>hb) I.ok.funs
theorem ZD.stack(I:ZD X pins σ H s):s.heap.FunFrames X.base X.stack:=by
 rcases I.ok.stk with e | ⟨e,hf⟩
 ·rw[e];exact I.funs
 ·rw[e];obtain⟨m,hn,_⟩:=I.loc;refine .cons (by rw[I.ok.kind];decide) hf hn ?_ I.funs;exact Heap.get?_none_of_le (yC I.ok.bsz I.ok.above)
theorem ZD.stkSub(I:ZD X pins σ H s):∀b∈frs X.stack,b∈X.env.locals::X.fs:=fun b hb=>by
 rcases I.ok.stk with e | ⟨e,hf⟩
 ·rw[e] at hb;exact xN _ hb
 ·rw[e] at hb;unfold frs at hb;rw[List.filterMap_cons,hf] at hb;exact hb
theorem ZD.stkFree(I:ZD X pins σ H s):∀b∈frs X.stack,H b=none:=fun b hb=>by
 rcases xC.mp (I.stkSub b hb) with e | hb
 ·rw[e];exact I.free
 ·obtain⟨_,o,ho,_⟩:=I.ok.funs.mem hb;exact I.base.free b o ho (I.ok.frf b hb) fun z=>I.ok.exfs b z hb
theorem ZD.step{g':Array GenState}{t':Nat}{d':Drawn}{ch:XS}(I:ZD X pins σ H s)(hch:∀b∈ch,(b∈X.ex\/X.s₀.heap.objs.size<=b)/\b≠X.env.locals/\(∀x c,X.env.cells.lookup x=some c->c≠b)/\∀p∈X.pn++pins,p.1≠b)(keep:∀b o,b≠X.env.locals->b∉X.fs->b∉ch->s.heap.get? b=some o->H b=none->h'.get? b=some o)(slot:∀b o,b≠X.env.locals->b∈X.fs->b∉ch->s.heap.get? b=some o->H b=none->∃sl,h'.get? b=some {o with slots:=sl })(free:∀b o,b∉ch->s.heap.get? b=some o->H b=none->H' b=none)(there:∀b o,b∉ch->s.heap.get? b=some o->∃o',h'.get? b=some o')(tups:∀b xs,H b=some (.tup xs)->H' b=some (.tup xs))(frzs:∀b o u,H b=some (.frz o u)->H' b=some (.frz o u))(tbls:∀b ps,H b=some (.tbl ps)->∃more,H' b=some (.tbl (ps++more)))(ns:∀m,s.heap.Ns X.env.locals m->h'.Ns X.env.locals m)(hok:YQ X.prog X.w H' h')(hg:AllBare g') :
  ZD X pins σ H' {s with heap:=h',gens:=g',drawn:=d',toks:=t' }:=by
 have neL:∀b o,X.s₀.heap.get? b=some o->b≠X.env.locals:=fun b o e=>yH (yI (xS e) I.ok.above);have neC:∀b o,X.s₀.heap.get? b=some o->b∉X.ex->b∉ch:=fun b o e hx hb=>by
  rcases(hch b hb).1 with z | z
  ·exact hx z
  ·exact absurd (yI (xS e) z) (zQ _)
 have cellK:∀x c,X.env.cells.lookup x=some c->∀v,s.heap.IsCell c v->h'.IsCell c v:=fun x c e v ⟨o,ho,hd⟩=>by
  have nch:c∉ch:=fun z=>(hch c z).2.2.1 x c e rfl
  by_cases hc:c∈X.fs
  ·obtain⟨sl,q⟩:=slot c o (I.cne x c e) hc nch ho (I.freeC x c e);exact⟨_,q,hd⟩
  ·exact⟨o,keep c o (I.cne x c e) hc nch ho (I.freeC x c e),hd⟩
 refine⟨I.ok,I.os,hg,⟨fun b o e n hb hx=>?_,fun b o e n hb hx=>?_,fun b o e n hx=>?_,fun b o e hx=>?_,fun b xs e=>tups b xs (I.base.tups b xs e),fun b o xs e=>frzs b o xs (I.base.frzs b o xs e),fun b ps e=>?_⟩,?_,fun x c e=>?_,?_,fun x c e=>?_,fun p hp=>?_,hok,I.len⟩
 ·exact keep b o (neL b o e) hb (neC b o e hx) (I.base.keep b o e n hb hx) (I.base.free b o e n hx)
 ·obtain⟨sl,e1⟩:=I.base.slot b o e n hb hx;obtain⟨sl',e2⟩:=slot b _ (neL b o e) hb (neC b o e hx) e1 (I.base.free b o e n hx);exact⟨sl',e2⟩
 ·obtain⟨o',e1⟩:=I.base.there b o e hx;exact free b o' (neC b o e hx) e1 (I.base.free b o e n hx)
 ·obtain⟨o',e1⟩:=I.base.there b o e hx;exact there b o' (neC b o e hx) e1
 ·obtain⟨m1,e1⟩:=I.base.tbls b ps e;obtain⟨m2,e2⟩:=tbls b _ e1;exact⟨m1++m2,by rw[e2,Array.append_assoc]⟩
 ·obtain⟨m,hn,hl⟩:=I.loc;refine⟨m,ns m hn,fun i x v e1 e2 e3=>?_⟩;obtain⟨u,r,l⟩:=hl i x v e1 e2 e3;refine⟨u,r,?_⟩;rcases l with l | ⟨k,c,e,z⟩
  ·exact .inl l
  ·exact .inr ⟨k,c,e,cellK x c e _ z⟩
 ·obtain⟨v,z⟩:=I.cell x c e;exact⟨v,cellK x c e v z⟩
 ·obtain⟨m,⟨o,_,_,ho,_⟩,_⟩:=I.loc;exact free _ o (fun z=>(hch _ z).2.1 rfl) ho I.free
 ·obtain⟨v,o,ho,hd⟩:=I.cell x c e;exact free c o (fun z=>(hch c z).2.2.1 x c e rfl) ho (I.freeC x c e)
 ·obtain⟨e,n,ne,nf,d⟩:=I.pin p hp;have nch:p.1∉ch:=fun z=>(hch p.1 z).2.2.2 p hp rfl;exact⟨keep p.1 p.2 ne nf nch e n,free p.1 p.2 nch e n,ne,nf,d⟩
theorem ZD.un(I:ZD X pins σ H s)(u:Un X.fs [] H H' s.heap h')(hok:YQ X.prog X.w H' h'):ZD X pins σ H' {s with heap:=h',toks:=t' }:=by
 obtain⟨m,⟨o,es,ep,ho,r⟩,_⟩:=id I.loc;obtain⟨sl,hL⟩:=u.any ho I.free (by simp)
 exact I.step (g':=s.gens) (d':=s.drawn) (ch:=[]) (fun _ z=>nomatch z) (fun b o _ hb _ e n=>u.keep b o e n hb (by simp)) (fun b o _ hb _ e n=>u.slot b o e n hb (by simp)) (fun b o _ e n=>u.free b o e n (by simp)) (fun b o _ e=>u.there b o e (by simp)) u.tups u.frzs u.tbls (fun m' hm=>by
  obtain⟨o',es',ep',ho',r'⟩:=hm;rw[ho] at ho';cases ho'
  exact⟨_,es',ep',hL,r'⟩) hok I.bare
theorem ZD.call(I:ZD X pins σ H s)(u:Un (frs X.stack) ch H H' s.heap h')(hok:YQ X.prog X.w H' h')(hg:AllBare g')(hch:∀b∈ch,(b∈X.ex\/X.s₀.heap.objs.size<=b)/\b≠X.env.locals/\(∀x c,X.env.cells.lookup x=some c->c≠b)/\∀p∈X.pn++pins,p.1≠b) :
  ZD X pins σ H' {s with heap:=h',gens:=g',drawn:=d',toks:=t' }:=by
 obtain⟨m,⟨o,es,ep,ho,r⟩,_⟩:=id I.loc;obtain⟨sl,hL⟩:=u.any ho I.free fun z=>(hch _ z).2.1 rfl
 exact I.step (ch:=ch) hch (fun b o hL hb hc e n=>u.keep b o e n (fun z=>(xC.mp (I.stkSub b z)).elim hL hb) hc) (fun b o _ _ hc e n=>u.any e n hc) (fun b o hc e n=>u.free b o e n hc) (fun b o hc e=>u.there b o e hc) u.tups u.frzs u.tbls (fun m' hm=>by
  obtain⟨o',es',ep',ho',r'⟩:=hm;rw[ho] at ho';cases ho'
  exact⟨_,es',ep',hL,r'⟩) hok hg
theorem ZD.turned(I:ZD X pins σ H s)(k:∀b o,b≠it->s.heap.get? b=some o->h'.get? b=some o)(hn:H it=none)(hL:it≠X.env.locals)(h1:it∈X.ex\/X.s₀.heap.objs.size<=it)(h2:∀x c,X.env.cells.lookup x=some c->c≠it)(h3:∀p∈X.pn++pins,p.1≠it):ZD X pins σ H {s with heap:=h',toks:=t' }:=by
 have nit:∀b u,H b=some u->b≠it:=fun b u e z=>by rw[z,hn] at e;cases e
 refine I.step (g':=s.gens) (d':=s.drawn) (ch:=[it]) (fun b hb=>?_) (fun b o _ _ hc e _=>k b o (fun z=>hc (by simp[z])) e) (fun b o _ _ hc e _=>⟨o.slots,k b o (fun z=>hc (by simp[z])) e⟩) (fun _ _ _ _ n=>n)
  (fun b o hc e=>⟨o,k b o (fun z=>hc (by simp[z])) e⟩) (fun _ _ e=>e) (fun _ _ _ e=>e) (fun b ps e=>⟨#[],by rw[e];simp⟩) (fun m hm=>?_) (fun b u e=>?_) I.bare
 ·have e:b=it:=by simpa using hb
  subst e;exact⟨h1,hL,h2,h3⟩
 ·obtain⟨o,es,ep,ho,r⟩:=hm;exact⟨o,es,ep,k _ o (Ne.symm hL) ho,r⟩
 ·refine(I.hok b u e).stay (fun c v hc q=>k c v ?_ q) (fun _ q=>q) fun _ _ q=>q;rcases hc with z | z
  ·rw[z];exact nit b u e
  ·exact nit c _ z
theorem ZD.tok(I:ZD X pins σ H s)(t:Nat):ZD X pins σ H {s with toks:=t }:=I.un (h':=s.heap) (t':=t) Un.refl I.hok
theorem ZD.kept(I:ZD X pins σ H s)(k:∀b u,s.heap.get? b=some u->h'.get? b=some u):ZD X pins σ H {s with heap:=h',toks:=t' }:=I.un (Un.kept k) (I.hok.kept k)
theorem ZD.laid{a:XW}{o:HO}{t':Nat}(I:ZD X pins σ H s)(k:∀b u,s.heap.get? b=some u->h'.get? b=some u)(hp:s.heap.objs.size<=a)(new:ZO X.prog X.w (upd H a o) h' a o) :
  ZD X pins σ (upd H a o) {s with heap:=h',toks:=t' }:=I.un (Un.laid k hp (I.hok.fresh hp)) (I.hok.laid k hp new)
theorem ZD.write(I:ZD X pins σ H s)(mu:BE (H x))(he:e=x\/H e=some (.own x))(k:∀b u,b≠e->s.heap.get? b=some u->h'.get? b=some u)(heo:∃u,h'.get? e=some u)(new:ZO X.prog X.w (upd H x o) h' x o):ZD X pins σ (upd H x o) {s with heap:=h',toks:=t' }:=I.un (Un.write mu he k heo) (I.hok.write mu he k heo new)
theorem ZD.pins_of(I:ZD X pins σ H s)(h:∀p∈pins',s.heap.get? p.1=some p.2/\H p.1=none/\p.1≠X.env.locals/\p.1∉X.fs/\∀v,p.2.data ≠ .cell v):ZD X pins' σ H s :=
 ⟨I.ok,I.os,I.bare,I.base,I.loc,I.cell,I.free,I.freeC,fun p hp=>(xJ.mp hp).elim (fun z=>I.pin p (yQ _ z)) (h p),I.hok,I.len⟩
theorem Ih{N:XO}(hN:N.Nodup){i j:Nat}{x:Str}(a:N[i]? = some x)(b:N[j]? = some x):i=j:=by
 obtain⟨h1,e1⟩:=xH.mp a;obtain⟨h2,e2⟩:=xH.mp b;exact(List.getElem_inj hN).mp (e1.trans e2.symm)
theorem L8(I:ZD X pins σ H s)(hN:X.N.Nodup)(hi:X.N[i]? = some x)(hx:CA X.env.scope x)(r:ZG v u)(h:∀s',ZD X pins (σ.set i (some v)) H s'->(∃a,Heap.SameBut a s.heap s'.heap/\(a=X.env.locals\/X.env.cells.lookup x=some a))->Q () s')(hf:X.fn x=true\/X.env.scope.names.lookup x=some .local:=by first | exact .inl rfl | exact .inr rfl | assumption):wpAny M A (storeName X.env x u) Q E s:=by
 obtain⟨m,hn,hl⟩:=id I.loc;have hcls:(X.env.scope.kind == .class || (X.env.scope.kind == .module && X.env.locals != X.env.globals))=false:=by rw[I.ok.kind];rfl
 have hiσ:i < σ.length:=by rw[I.len];exact(xH.mp hi).1
 have cne:=I.cne;have tracked:∀{a:XW}{h':Heap},(∃o,s.heap.get? a=some o/\H a=none)->Heap.SameBut a s.heap h'->YQ X.prog X.w H h':=fun {a h'} ha hs b ob e=>by
  obtain⟨_,_,hfree⟩:=ha;refine(I.hok b ob e).stay (fun c w' hc q=>(hs.2 c ?_).trans q) (fun _ q=>q) fun _ _ q=>q;rintro rfl;rcases hc with rfl | hc
  ·rw[hfree] at e;cases e
  ·rw[hfree] at hc;cases hc
 rcases hx with hk | hk
 ·refine wpAny_storeName_local hk hn (fun h' hn' hs=>?_) hcls;obtain⟨oL,_,_,hoL,_⟩:=id hn;refine h _ ⟨I.ok,I.os,I.bare,⟨fun b o e n hb hx=>?_,fun b o e n hb hx=>?_,I.base.free,fun b o e hx=>?_,I.base.tups,I.base.frzs,I.base.tbls⟩,⟨_,hn',fun j y v' e1 e2 e3=>?_⟩,fun y c e=>?_,I.free,I.freeC,fun p hp=>?_,tracked ⟨oL,hoL,I.free⟩ hs,by simpa using I.len⟩ ⟨_,hs,.inl rfl⟩
  ·exact(hs.2 b (yH (yI (xS e) I.ok.above))).trans (I.base.keep b o e n hb hx)
  ·obtain⟨sl,e1⟩:=I.base.slot b o e n hb hx;exact⟨sl,(hs.2 b (yH (yI (xS e) I.ok.above))).trans e1⟩
  ·obtain⟨o',e1⟩:=I.base.there b o e hx;exact⟨o',(hs.2 b (yH (yI (xS e) I.ok.above))).trans e1⟩
  ·by_cases hj:j=i
   ·subst hj;rw[hi] at e1;cases e1;rw[List.getElem?_set_self hiσ] at e2;cases e2;exact⟨u,r,.inl ⟨hk,by simp⟩⟩
   ·rw[List.getElem?_set_ne (Ne.symm hj)] at e2;obtain⟨u',r',q⟩:=hl j y v' e1 e2 e3;refine⟨u',r',?_⟩;rcases q with⟨k,e⟩ | ⟨k,c,e,z⟩
    ·refine .inl ⟨k,?_⟩;have:y≠x:=fun e=>hj (Ih hN e1 (e▸hi));simp[this,e]
    ·exact .inr ⟨k,c,e,z.sameBut hs (cne y c e)⟩
  ·obtain⟨w',z⟩:=I.cell y c e;exact⟨w',z.sameBut hs (cne y c e)⟩
  ·obtain⟨e,n,ne,nf,d⟩:=I.pin p hp;exact⟨(hs.2 p.1 ne).trans e,n,ne,nf,d⟩
 ·have hfn:X.fn x=true:=by
   rcases hf with z | z
   ·exact z
   ·rw[z] at hk;cases hk
  obtain⟨c,hc⟩:=I.ok.has x (.inl hk);obtain⟨w',z⟩:=I.cell x c hc;refine wpAny_storeName_cell I.ok.kind hk hc z (fun h' hc' hs=>?_);obtain⟨oc,hoc,hocd⟩:=id z;refine h {s with heap:=h' } ⟨I.ok,I.os,I.bare,⟨fun b o e n hb hx=>?_,fun b o e n hb hx=>?_,I.base.free,fun b o e hx=>?_,I.base.tups,I.base.frzs,I.base.tbls⟩,⟨m,hn.sameBut hs (Ne.symm (cne x c hc)),fun j y v' e1 e2 e3=>?_⟩,fun y c' e=>?_,I.free,I.freeC,fun p hp=>?_,tracked ⟨oc,hoc,I.freeC x c hc⟩ hs,by simpa using I.len⟩ ⟨c,hs,.inr hc⟩
  ·exact(hs.2 b (yH (yI (xS e) (I.ok.cab x c hfn hc)))).trans (I.base.keep b o e n hb hx)
  ·obtain⟨sl,e1⟩:=I.base.slot b o e n hb hx;exact⟨sl,(hs.2 b (yH (yI (xS e) (I.ok.cab x c hfn hc)))).trans e1⟩
  ·obtain⟨o',e1⟩:=I.base.there b o e hx;exact⟨o',(hs.2 b (yH (yI (xS e) (I.ok.cab x c hfn hc)))).trans e1⟩
  ·by_cases hj:j=i
   ·subst hj;rw[hi] at e1;cases e1;rw[List.getElem?_set_self hiσ] at e2;cases e2;exact⟨u,r,.inr ⟨.inl hk,c,hc,hc'⟩⟩
   ·rw[List.getElem?_set_ne (Ne.symm hj)] at e2;obtain⟨u',r',q⟩:=hl j y v' e1 e2 e3;refine⟨u',r',?_⟩;rcases q with q | ⟨k,c',e,z'⟩
    ·exact .inl q
    ·refine .inr ⟨k,c',e,z'.sameBut hs ?_⟩;rintro rfl;exact hj (Ih hN e1 (I.ok.inj _ _ _ e hc▸hi))
  ·by_cases hcc:c'=c
   ·subst hcc;exact⟨_,hc'⟩
   ·obtain⟨w2,z2⟩:=I.cell y c' e;exact⟨w2,z2.sameBut hs hcc⟩
  ·obtain⟨e,n,ne,nf,d⟩:=I.pin p hp;refine⟨(hs.2 p.1 ?_).trans e,n,ne,nf,d⟩;intro q;rw[q,hoc] at e;have q':oc=p.2:=Option.some.inj e;exact d w' (by rw[← q'];exact hocd)
theorem E6(I:ZD X pins σ H s)(hN:X.N.Nodup)(hi:X.N[i]? = some x)(hx:CA X.env.scope x)(r:ZG v u)(h:∀s',ZD X pins (σ.set i (some v)) H s'->Q () s')(hf:X.fn x=true\/X.env.scope.names.lookup x=some .local:=by first | exact .inl rfl | exact .inr rfl | assumption):wpAny M A (storeName X.env x u) Q E s :=
 L8 I hN hi hx r (fun s' I' _=>h s' I') hf
theorem ZD.call'(I:ZD X pins σ H s)(ho:s'.os=s.os)(u:Un (frs X.stack) ch H H' s.heap s'.heap)(hok:YQ X.prog X.w H' s'.heap)(hg:AllBare s'.gens)(hch:∀b∈ch,(b∈X.ex\/X.s₀.heap.objs.size<=b)/\b≠X.env.locals/\(∀x c,X.env.cells.lookup x=some c->c≠b)/\∀p∈X.pn++pins,p.1≠b):ZD X pins σ H' s':=by
 obtain⟨h',g',d',t',o'⟩:=s';have e:o'=s.os:=ho;subst e;exact I.call (g':=g') (t':=t') (d':=d') u hok hg hch
end
abbrev XK:=XU->Option XW->Hp->Prop
abbrev St:=List (Option V)
abbrev VK:=V->Hp->Prop
abbrev TE:=St->Hp->VK->Prop
abbrev TT:=St->Hp->(Bool->Hp->Prop)->Prop
abbrev TA:=St->Hp->(List V->Hp->Prop)->Prop
structure YE where
 nx:St->Hp->Prop
 rt:VK
 bk:St->Hp->Prop:=fun _ _=>False
 ct:St->Hp->Prop:=fun _ _=>False
abbrev TS:=YE->St->Hp->Prop
def EP(X:Cx)(pins:List (XW×Obj))(σ:St)(Q:VK)(u:XU)(s':XT):Prop:=∃v H',ZD X pins σ H' s'/\ZG v u/\Q v H'
def TP(X:Cx)(pins:List (XW×Obj))(σ:St)(Q:Bool->Hp->Prop)(b:Bool)(s':XT):Prop:=∃H',ZD X pins σ H' s'/\Q b H'
def AP(X:Cx)(pins:List (XW×Obj))(σ:St)(Q:List V->Hp->Prop)(us:XQ)(s':XT):Prop:=∃vs H',ZD X pins σ H' s'/\ZH vs us/\Q vs H'
def SP(X:Cx)(pins:List (XW×Obj))(D:YE)(f:Flow)(s':XT):Prop :=
 match f with
 | .next=>∃ σ' H',ZD X pins σ' H' s'/\D.nx σ' H'
 | .brk=>∃ σ' H',ZD X pins σ' H' s'/\D.bk σ' H'
 | .cont=>∃ σ' H',ZD X pins σ' H' s'/\D.ct σ' H'
 | .ret u=>∃v σ' H',ZD X pins σ' H' s'/\ZG v u/\D.rt v H'
def PE(X:Cx)(e:Expr)(t:TE):Prop :=
 ∀(pins:List (XW×Obj))(s:XT)(σ:St)(H:Hp)(Q:VK),ZD X pins σ H s->t σ H Q->wpAny (model X.prog X.w) X.A (eval e X.env) (EP X pins σ Q) X.xe s
def PT(X:Cx)(e:Expr)(t:TT):Prop :=
 ∀(pins:List (XW×Obj))(s:XT)(σ:St)(H:Hp)(Q:Bool->Hp->Prop),ZD X pins σ H s->t σ H Q->wpAny (model X.prog X.w) X.A (isTrue e X.env (eval e X.env)) (TP X pins σ Q) X.xe s
def PW(X:Cx)(e:Expr)(t:TT):Prop :=
 ∀(whole:Sem XU)(pins:List (XW×Obj))(s:XT)(σ:St)(H:Hp)(Q:Bool->Hp->Prop),ZD X pins σ H s->t σ H Q->wpAny (model X.prog X.w) X.A (isTrue e X.env whole) (TP X pins σ Q) X.xe s
theorem PW.pt(h:PW X e t):PT X e t:=h _
def PA(X:Cx)(es:List Expr)(t:TA):Prop :=
 ∀(pos:Pos)(pins:List (XW×Obj))(s:XT)(σ:St)(H:Hp)(Q:List V->Hp->Prop),ZD X pins σ H s->t σ H Q->wpAny (model X.prog X.w) X.A (spliced (backTo pos (starEach es X.env))) (AP X pins σ Q) X.xe s
def PS(X:Cx)(st:Stmt)(t:TS):Prop :=
 ∀(pins:List (XW×Obj))(s:XT)(σ:St)(H:Hp)(D:YE),ZD X pins σ H s->t D σ H->wpAny (model X.prog X.w) X.A (exec st X.env) (SP X pins D) X.xe s
def A9(X:Cx)(st:List Stmt)(t:TS):Prop :=
 ∀(pins:List (XW×Obj))(s:XT)(σ:St)(H:Hp)(D:YE),ZD X pins σ H s->t D σ H->wpAny (model X.prog X.w) X.A (execs st X.env) (SP X pins D) X.xe s
theorem thn{α:Type}{t:Sem α}{Q Q' : α->XT->Prop}(h:wpAny M A t Q E s)(hQ:∀a s,Q a s->Q' a s):wpAny M A t Q' E s:=wpAny_mono h hQ fun _ _ x=>x
section
variable{X:Cx}
inductive YI(i:Nat)(σ:St)(H:Hp)(Q:VK):Prop
 |mk(v)(_:σ[i]? = some (some v))(_:Q v H)
def tC(v:V):TE:=fun _ H Q=>Q v H
theorem Ct{i:Nat}{x:Str}{pos:Pos}(hN:X.N[i]? = some x)(hv:CT X.env.scope x)(hd:(x == ("__debug__" : Str))=false:=by decide)(hcd:(x == ("__classdict__" : Str))=false:=by decide):PE X (.Name x pos) (YI i):=by
 intro pins s σ H Q I h;obtain⟨v,e,h⟩:=h;obtain⟨m,hn,hl⟩:=I.loc;obtain⟨u,r,l⟩:=hl i x v hN e hv;have fin:EP X pins σ Q u s:=⟨v,H,I,r,h⟩;rcases l with⟨hk,hm⟩ | ⟨hk,c,hc,hcell⟩
 ·exact wpAny_Name (wpAny_loadName_local I.ok.kind hk hn hm fin) hd
 ·rcases hk with hk | hk
  ·exact wpAny_Name (wpAny_loadName_cell I.ok.kind hk hc hcell fin) hd
  ·exact wpAny_Name (wpAny_loadName_free I.ok.kind hk hc hcell fin hcd) hd
def Gl(X:Cx)(x:Str):Prop:=X.env.kindOf x=some .globalImplicit
theorem AO{E:XM}{pins:List (XW×Obj)}{s:XT}{σ:St}{H:Hp}{x:Str}{u:XU}{pos:Pos}{Q:XM}(I:ZD X pins σ H s)(hg:Gl X x)(hm:X.mg x=some u)(h:Q u s)(hd:(x == ("__debug__" : Str))=false:=by decide):wpAny (model X.prog X.w) X.A (eval (.Name x pos) X.env) Q E s :=
 Calls.Name_function_global I.ok.kind hg (Calls.loadGlobal_global (by rw[I.ok.glob];exact I.mod.glob.keeps I.bk) hm h) hd
theorem Uw{E:XM}{pins:List (XW×Obj)}{s:XT}{σ:St}{H:Hp}{x:Str}{u:XU}{pos:Pos}{Q:XM}(I:ZD X pins σ H s)(hg:Gl X x)(hm:X.mg x=none)(hv:bootBuiltins x=some u)(h:Q u s)(hn:x ≠ "__name__" := by decide)(hd:(x == ("__debug__" : Str))=false:=by decide):wpAny (model X.prog X.w) X.A (eval (.Name x pos) X.env) Q E s:=by
 obtain⟨mb,h1,h2⟩:=I.mod.blt;exact Calls.Name_function_global I.ok.kind hg (Calls.loadGlobal_builtin (by rw[I.ok.glob];exact I.mod.glob.keeps I.bk) hm (by rw[I.ok.blt];exact h1.keeps I.bk) ((h2 x hn).trans hv) h) hd
theorem KY(hg:Gl X x)(hm:X.mg x=some u)(r:ZG v u)(hd:(x == ("__debug__" : Str))=false:=by decide):PE X (.Name x pos) (tC v) :=
 fun _ _ _ H _ I h=>AO I hg hm ⟨v,H,I,r,h⟩ hd
theorem Oq{x:Str}{v:V}{u:XU}{pos:Pos}(hg:Gl X x)(hm:X.mg x=none)(hv:bootBuiltins x=some u)(r:ZG v u)(hn:x ≠ "__name__" := by decide)(hd:(x == ("__debug__" : Str))=false:=by decide):PE X (.Name x pos) (tC v) :=
 fun _ _ _ H _ I h=>Uw I hg hm hv ⟨v,H,I,r,h⟩ hn hd
variable{a b:Expr}{ta tb:TE}{pos:Pos}
inductive MK(Q:Bool->Hp->Prop)(x:V)(H1:Hp):Prop
 |mk(c)(_:x = .bl c)(_:Q c H1)
def tB(t:TE):TT:=fun σ H Q=>t σ H fun x H1=>MK Q x H1
variable{tA tB':TT}{rest:List Expr}
def Lg(t u:TT):TT:=fun σ H Q=>t σ H fun c H1=>if c=true then u σ H1 Q else Q false H1
def SQ(t u:TT):TT:=fun σ H Q=>t σ H fun c H1=>if c=true then Q true H1 else u σ H1 Q
def Mw(t:TT):TT:=fun σ H Q=>t σ H fun c H1=>Q (!c) H1
inductive Al(tb:TE)(σ:St)(Q:VK)(x:V)(H1:Hp):Prop
 |mk(c)(_:x = .bl c)(_:if c=true then tb σ H1 Q else Q (.bl false) H1)
def QD(ta tb:TE):TE:=fun σ H Q=>ta σ H fun x H1=>Al tb σ Q x H1
theorem Pa {op} (h:PE X a t):PE X (.BoolOp op [a] pos) t:=fun pins s σ H Q I hw=>BoolOp_one (h pins s σ H Q I hw)
def Nn(t:TT)(ta tb:TE):TE:=fun σ H Q=>t σ H fun c H1=>if c=true then ta σ H1 Q else tb σ H1 Q
end
def ZF(K:uFg)(H:Hp)(a:XW)(xs:aG):Prop :=
 Rd H a (.lst xs)\/
  ∃o its n,K.lookup a=some o/\o.cls = .type "list" /\ o.dict=none/\o.data = .seq its n/\its.size<=sizeLine/\ZH xs its.toList
def ZS(K:uFg)(H:Hp)(a:XW)(xs:aG):Prop :=
 Rd H a (.tup xs)\/
  ∃o its n,K.lookup a=some o/\o.cls = .type "tuple" /\ o.data = .seq its n/\its.size<=sizeLine/\ZH xs its.toList
def KJ:XU->Option V
 | .none=>some .non
 | .bool b=>some (.bl b)
 | .int i _=>some (.int i)
 | .str x _=>some (.str x)
 | .bytes b _=>some (.byt b)
 | .float b _=>some (.flt b)
 | .ref a=>some (.ref a)
 | .type n=>some (.ty n)
 | _=>none
theorem ZG.abs(r:ZG x u):KJ u=some x:=by
 cases x with
 | non=>cases r;rfl
 | bl _=>cases r;rfl
 | int _=>obtain⟨t,rfl⟩:=r;rfl
 | str _=>obtain⟨t,rfl⟩:=r;rfl
 | byt _=>obtain⟨t,rfl⟩:=r;rfl
 | flt _=>obtain⟨t,rfl⟩:=r;rfl
 | ref _=>cases r;rfl
 | ty _=>cases r;rfl
theorem ZG.inj(r:ZG x u)(q:ZG y u):x=y:=Option.some.inj (r.abs.symm.trans q.abs)
theorem ZH.inj:∀{xs ys:aG}{us:XQ},ZH xs us->ZH ys us->xs=ys
 | _,_,_,.nil,.nil=>rfl
 | _,_,_,.cons r t,.cons r' t'=>by rw[r.inj r',ZH.inj t t']
section
variable{X:Cx}{pins:List (XW×Obj)}{σ:St}{H:Hp}{s:XT}{a:XW}{xs ys:aG}
theorem ZF.of{K:uFg}(h:H a=some (.lst xs)):ZF K H a xs:=.inl (.inl h)
theorem ZS.of{K:uFg}(h:H a=some (.tup xs)):ZS K H a xs:=.inl (.inl h)
theorem ZD.list(I:ZD X pins σ H s)(h:ZF X.K H a xs):∃its:List XU,ZH xs its/\PlainL s.heap a its.toArray/\xs.length<=sizeLine:=by
 rcases h with h | ⟨o,its,n,hk,hc,hd,hs,hz,r⟩
 ·obtain⟨z,its,n,r,e⟩:=h.ok I.hok;exact⟨its,r,⟨_,n,e,rfl,rfl,rfl⟩,z⟩
 ·refine⟨its.toList,r,⟨o,n,I.kIn a o hk,hc,hd,by simpa using hs⟩,?_⟩;have e:=r.length;simp only[Array.length_toList] at e;lia
theorem ZD.tuple(I:ZD X pins σ H s)(h:ZS X.K H a xs):∃its:List XU,ZH xs its/\IsTup s.heap a its.toArray/\xs.length<=sizeLine:=by
 rcases h with h | ⟨o,its,n,hk,hc,hs,hz,r⟩
 ·obtain⟨z,its,r,p⟩:=h.ok I.hok;exact⟨its,r,p,z⟩
 ·refine⟨its.toList,r,⟨o,I.kIn a o hk,hc,n,by simpa using hs⟩,?_⟩;have e:=r.length;simp only[Array.length_toList] at e;lia
theorem ZD.list_inj(I:ZD X pins σ H s)(h:ZF X.K H a xs)(h':ZF X.K H a ys):xs=ys:=by
 obtain⟨its,r,⟨o,n,e,_,_,d⟩,_⟩:=I.list h;obtain⟨its',r',⟨o',n',e',_,_,d'⟩,_⟩:=I.list h';rw[e] at e';cases e';rw[d] at d';injection d' with d1 _
 have:its=its':=by simpa using congrArg Array.toList d1
 subst this;exact r.inj r'
theorem ZD.tuple_inj(I:ZD X pins σ H s)(h:ZS X.K H a xs)(h':ZS X.K H a ys):xs=ys:=by
 obtain⟨its,r,⟨o,e,_,n,d⟩,_⟩:=I.tuple h;obtain⟨its',r',⟨o',e',_,n',d'⟩,_⟩:=I.tuple h';rw[e] at e';cases e';rw[d] at d';injection d' with d1 _
 have:its=its':=by simpa using congrArg Array.toList d1
 subst this;exact r.inj r'
end
abbrev Cx.wish(X:Cx)(E:XM):Cx:={X with xe:=E }
abbrev Cx.nox(X:Cx):Cx:=X.wish fun _ _=>False
theorem Cx.Ok.wish{X:Cx}(ok:X.Ok)(E:XM):(X.wish E).Ok :=
 ⟨ok.mod,ok.kind,ok.glob,ok.blt,ok.above,ok.inj,ok.has,ok.cab,ok.hd,ok.frames,ok.stk,ok.exf,ok.bs,ok.bsz,ok.noex,ok.exfs,ok.funs,ok.frf⟩
theorem Cx.Ok.unwish{X:Cx}{E:XM}(ok:(X.wish E).Ok):X.Ok :=
 ⟨ok.mod,ok.kind,ok.glob,ok.blt,ok.above,ok.inj,ok.has,ok.cab,ok.hd,ok.frames,ok.stk,ok.exf,ok.bs,ok.bsz,ok.noex,ok.exfs,ok.funs,ok.frf⟩
section
variable{X:Cx}{pins:List (XW×Obj)}{σ:St}{H:Hp}{s:XT}{E:XM}
theorem ZD.wish(I:ZD X pins σ H s)(E:XM):ZD (X.wish E) pins σ H s:=⟨I.ok.wish E,I.os,I.bare,I.base,I.loc,I.cell,I.free,I.freeC,I.pin,I.hok,I.len⟩
theorem ZD.unwish(I:ZD (X.wish E) pins σ H s):ZD X pins σ H s:=⟨I.ok.unwish,I.os,I.bare,I.base,I.loc,I.cell,I.free,I.freeC,I.pin,I.hok,I.len⟩
theorem SP.unwish(h:SP (X.wish E) pins D f s'):SP X pins D f s':=by
 cases f with
 | next=>obtain⟨σ',H',I,q⟩:=h;exact⟨σ',H',I.unwish,q⟩
 | brk=>obtain⟨σ',H',I,q⟩:=h;exact⟨σ',H',I.unwish,q⟩
 | cont=>obtain⟨σ',H',I,q⟩:=h;exact⟨σ',H',I.unwish,q⟩
 | ret u=>obtain⟨v,σ',H',I,r,q⟩:=h;exact⟨v,σ',H',I.unwish,r,q⟩
theorem A9.nox{st:List Stmt}{t:TS}(h:A9 X.nox st t):A9 X st t:=fun pins s σ H D I hw =>
 wpAny_mono (h pins s σ H D (I.wish _) hw) (fun _ _ q=>q.unwish) fun _ _ z=>False.elim z
end
section
variable{X:Cx}{st:Stmt}{rest:List Stmt}{t u:TS}{te:TE}
def Yy:TS:=fun D σ H=>D.nx σ H
def Ue(t u:TS):TS:=fun D σ H=>t {D with nx:=u D } σ H
theorem ZD.quiet{pins:List (XW×Obj)}{σ:St}{H:Hp}{s:XT}(I:ZD X pins σ H s):interactive X.env=false:=by simp[interactive,I.ok.kind]
def Dz(te:TE):TS:=fun D σ H=>te σ H fun _ H1=>D.nx σ H1
def SB(te:TE):TS:=fun D σ H=>te σ H D.rt
def C6(c:TT)(t u:TS):TS:=fun D σ H=>c σ H fun b H1=>if b=true then t D σ H1 else u D σ H1
end
abbrev TG:=V->St->Hp->(St->Hp->Prop)->Prop
abbrev TR:=List V->St->Hp->(St->Hp->Prop)->Prop
def PG(X:Cx)(target:Expr)(t:TG):Prop :=
 ∀(pins:List (XW×Obj))(s:XT)(σ:St)(H:Hp)(v:V)(u:XU)(Q:St->Hp->Prop),ZD X pins σ H s->ZG v u->t v σ H Q ->
  wpAny (model X.prog X.w) X.A (assign target X.env u) (fun _ s'=>∃ σ' H',ZD X pins σ' H' s'/\Q σ' H') X.xe s
def II(X:Cx)(ts:List Expr)(t:TR):Prop :=
 ∀(pins:List (XW×Obj))(s:XT)(σ:St)(H:Hp)(vs:aG)(us:XQ)(Q:St->Hp->Prop),ZD X pins σ H s->ZH vs us->t vs σ H Q ->
  wpAny (model X.prog X.w) X.A (assignInOrder ((assignEach ts X.env).map (·.2)) us) (fun _ s'=>∃ σ' H',ZD X pins σ' H' s'/\Q σ' H') X.xe s
abbrev C7:=V->V->V->Hp->(Hp->Prop)->Prop
def PX(X:Cx)(t:C7):Prop :=
 ∀(pins:List (XW×Obj))(s:XT)(σ:St)(H:Hp)(o i v:V)(ov iv u:XU)(Q:Hp->Prop),ZD X pins σ H s->ZG o ov->ZG i iv->ZG v u->t o i v H Q ->
  wpAny (model X.prog X.w) X.A (setItem ov iv u) (fun _ s'=>∃H',ZD X pins σ H' s'/\Q H') X.xe s
section
variable{X:Cx}{pos:Pos}
def Wp(i:Nat):TG:=fun v σ H Q=>Q (σ.set i (some v)) H
theorem Eg(hN:X.N.Nodup)(hi:X.N[i]? = some x)(hx:CA X.env.scope x)(hf:X.fn x=true\/X.env.scope.names.lookup x=some .local:=by first | exact .inl rfl | exact .inr rfl | assumption):PG X (.Name x pos) (Wp i):=by
 intro pins s σ H v u Q I r h;exact wpAny_assign_Name (E6 I hN hi hx r (fun s' I'=>⟨_,H,I',h⟩) hf)
def EG:TR:=fun vs σ H Q=>vs = []/\Q σ H
inductive UF(t:TG)(u:TR)(vs:aG)(σ:St)(H:Hp)(Q:St->Hp->Prop):Prop
 |mk(v r)(_:vs=v::r)(_:t v σ H fun σ' H'=>u r σ' H' Q)
inductive TB(K:uFg)(n:Nat)(t:TR)(v:V)(σ:St)(H:Hp)(Q:St->Hp->Prop):Prop
 |mk(a xs)(_:v = .ref a)(_:ZS K H a xs)(_:xs.length=n)(_:t xs σ H Q)
theorem FM{es:List Expr}{k:Nat}{t:TR}{n:Nat}(hc:X.calm=true)(h:II X es t)(hn:(assignEach es X.env).length=n:=by rfl)(hst:(assignEach es X.env).findIdx? (·.1)=none:=by rfl):PG X (.Tuple es k pos) (TB X.K n t):=by
 intro pins s σ H v u Q I r hw;obtain⟨a,xs,e1,hq,hl,hw⟩:=hw;subst e1;cases r;obtain⟨its,rv,ht,hz⟩:=I.tuple hq;refine assign_Tuple_tuple (I.ok.hd hc) ht (by simp[hn,← hl,rv.length]) hst fun h' hx=>?_;have I1:ZD X pins σ H {s with heap:=h' }:=I.kept (t':=s.toks) fun b o e=>hx b o (yH (xS e)) e;exact h pins _ σ H xs _ Q I1 (by simpa using rv) hw
def QV(to ti:TE)(t:C7):TG:=fun v σ H Q=>to σ H fun o H1=>ti σ H1 fun i H2=>t o i v H2 fun H3=>Q σ H3
def Jn(te:TE)(g:TG):TS:=fun D σ H=>te σ H fun x H1=>g x σ H1 D.nx
theorem GY{i:Nat}{x:Str}{e:Expr}{te:TE}{pos':Pos}(hN:X.N.Nodup)(hi:X.N[i]? = some x)(hx:CA X.env.scope x)(he:PE X e te)(hs:swapsWith e (some (.Name x pos')) pos.line X.env=pure false:=by rfl)(hf:X.fn x=true\/X.env.scope.names.lookup x=some .local:=by first | exact .inl rfl | exact .inr rfl | assumption) :
  PS X (.Assign [.Name x pos'] e pos) (Jn te (Wp i)):=by
 intro pins s σ H D I h;refine wpAny_Assign_Name (thn (he pins s σ H _ I h) fun v s1 ⟨y,H1,I1,r1,q1⟩=>?_) hs;exact E6 I1 hN hi hx r1 (fun s2 I2=>⟨_,H1,I2,q1⟩) hf
end
structure It where
 go:Nat->Hp->Prop
 yld:Nat->Hp->V->Hp->Prop
 stop:Nat->Hp->Prop
def Uf(X:Cx)(pins:List (XW×Obj))(H:Hp)(b:XW):Prop :=
 H b=none/\b≠X.env.locals/\b∉X.fs/\(b∈X.ex\/X.s₀.heap.objs.size<=b)/\(∀x c,X.env.cells.lookup x=some c->c≠b)/\∀p∈X.pn++pins,p.1≠b
theorem ZD.fpOk{X:Cx}{pins:List (XW×Obj)}{σ:St}{H H':Hp}{s:XT}{b:XW}(I:ZD X pins σ H s)(hb:s.heap.objs.size<=b)(hn:H' b=none):Uf X pins H' b:=by
 refine⟨hn,Nat.ne_of_gt (yI I.lt hb),I.nofs hb,.inr (yC I.sz hb),fun x c e z=>?_,fun p hp z=>?_⟩
 ·obtain⟨v,q⟩:=I.cell x c e;exact absurd (yI q.lt (by rw[z];exact hb)) (zQ _)
 ·exact absurd (yI (xS (I.pin p hp).1) (by rw[z];exact hb)) (zQ _)
structure VQ (P:XX) (w:XY) (K:uFg) (tg:Expr) (J:It) (fp:XS) (it:XW) (tn:Nat->Heap->Prop):Prop where
 mem:it∈fp
 obj:∀i h,tn i h->∀b∈fp,∃o,h.get? b=some o/\∀v,o.data ≠ .cell v
 keep:∀i h h',tn i h->(∀b∈fp,∀o,h.get? b=some o->h'.get? b=some o)->tn i h'
 item:∀(X:Cx),X.prog=P->X.w=w->X.K=K->X.calm=true->∀(i:Nat)(pins:List (XW×Obj))(s:XT)(σ:St)(H:Hp)(E:XM),ZD X pins σ H s->(∀b∈fp,Uf X pins H b)->tn i s.heap->J.go i H ->
  wpAny (model P w) X.A (pyNext (.ref it)) (fun r s1=>∃u,r=some u /\
   wpAny (model P w) X.A (letOwnedTupleGo tg (.ref it) u) (fun _ s2=>∃x H',ZD X pins σ H' s2/\ZG x u/\J.yld i H x H'/\tn (i+1) s2.heap/\∀b∈fp,H' b=none) E s1) E s
 done:∀(X:Cx),X.prog=P->X.w=w->X.K=K->X.calm=true->∀(i:Nat)(pins:List (XW×Obj))(s:XT)(σ:St)(H:Hp)(E:XM),ZD X pins σ H s->(∀b∈fp,Uf X pins H b)->tn i s.heap->J.stop i H ->
  wpAny (model P w) X.A (pyNext (.ref it)) (fun r s1=>r=none/\ZD X pins σ H s1) E s
 self:∀(A:XZ)(i:Nat)(s:XT)(Q:XM)(E:XM),tn i s.heap->Q (.ref it) s->wpAny (model P w) A (pyIter (.ref it)) Q E s
abbrev TI:=St->Hp->(It->Hp->Prop)->Prop
def Ep(X:Cx)(pins:List (XW×Obj))(σ:St)(tg:Expr)(R:It->Hp->Prop)(itv:XU)(s2:XT):Prop :=
 ∃it fp tn J H',itv = .ref it/\ZD X pins σ H' s2/\VQ X.prog X.w X.K tg J fp it tn/\tn 0 s2.heap/\(∀b∈fp,Uf X pins H' b)/\R J H'
def PI(X:Cx)(tg iter:Expr)(wi:TI):Prop :=
 ∀(pins:List (XW×Obj))(s:XT)(σ:St)(H:Hp)(R:It->Hp->Prop),ZD X pins σ H s->wi σ H R ->
  wpAny (model X.prog X.w) X.A (eval iter X.env) (fun v s1=>wpAny (model X.prog X.w) X.A (pyIter v) (Ep X pins σ tg R) X.xe s1) X.xe s
theorem Bl(ho:s.heap.get? it=some o)(hc:o.cls = .type n)(hd:o.data = .fields vs)(hn : ["enumerate","zip","dict_itemiterator","dict_reverseitemiterator","odict_iterator","itertools.zip_longest","itertools.pairwise"].contains n=false)(hQ:Q () s):wpAny M A (letOwnedTupleGo tg (.ref it) u) Q E s:=by
  unfold letOwnedTupleGo;cases tg<;>first
    | exact wpAny_pure hQ
    | (cases u<;>first
        | exact wpAny_pure hQ
        | (refine wpAny_bind (wpAny_load ho ?_)
           rw[hc,hd];show wpAny M A (if (["enumerate","zip","dict_itemiterator","dict_reverseitemiterator","odict_iterator","itertools.zip_longest","itertools.pairwise"].contains n && vs[0]? == some (rawInt _))=true then _ else _) Q E s;rw[if_neg (by intro h;rw[hn,zW] at h;cases h)]
           exact wpAny_pure hQ))
def Jw(K:uFg)(a:XW):It :=
 ⟨fun i H=>∃xs x,ZF K H a xs/\xs[i]? = some x,fun i H x H'=>H'=H/\∀xs,ZF K H a xs->xs[i]? = some x,fun i H=>∃xs,ZF K H a xs/\xs.length<=i⟩
def EI(K:uFg)(a:XW):It :=
 ⟨fun i H=>∃xs x,ZS K H a xs/\xs[i]? = some x,fun i H x H'=>H'=H/\∀xs,ZS K H a xs->xs[i]? = some x,fun i H=>∃xs,ZS K H a xs/\xs.length<=i⟩
def Jl(lo:Int)(n:Nat):It:=⟨fun i _=>i < n,fun i H x H'=>H'=H/\x = .int (lo+i),fun i _=>n<=i⟩
theorem Xz{P:XX}{w:XY}{K:uFg}{tg:Expr}(a it:XW):VQ P w K tg (Jw K a) [it] it (fun i h=>h.IsListIter it a i) where
 mem:=by simp
 obj:=fun i h st b hb=>by
  have e:b=it:=by simpa using hb
  subst e;obtain⟨o,e,c,d⟩:=st;exact⟨o,e,fun v z=>by rw[d] at z;cases z⟩
 keep:=fun i h h' st k=>st.at fun o e=>k it (by simp) o e
 item:=by
  intro X hP hw hK hc i pins s σ H E I hf st hg;subst hP hw hK;obtain⟨xs,x,hq,hx⟩:=hg;obtain⟨its,rv,p,hz⟩:=I.list hq;obtain⟨u,hu,ru⟩:=rv.get hx;obtain⟨f0,f1,f2,f3,f4,f5⟩:=hf it (by simp);refine wpAny_pyNext_list_item st p.isList (x:=u) (by simpa using hu) fun h' st' sb=>?_;have I1:ZD X pins σ H {s with heap:=h' }:=I.turned (t':=s.toks) (fun b o hb e=>(sb.2 b hb).trans e) f0 f1 f3 f4 f5;obtain⟨o,e,c,d⟩:=id st';exact⟨u,rfl,Bl (s:={s with heap:=h' }) e c d aA ⟨x,H,I1,ru,⟨rfl,fun ys hy=>by rw[I.list_inj hy hq];exact hx⟩,st',fun b hb=>(hf b hb).1⟩⟩
 done:=by
  intro X hP hw hK hc i pins s σ H E I hf st hg;subst hP hw hK;obtain⟨xs,hq,hx⟩:=hg;obtain⟨its,rv,p,hz⟩:=I.list hq;obtain⟨f0,f1,f2,f3,f4,f5⟩:=hf it (by simp);have hl:=rv.length;exact wpAny_pyNext_list_end (I.ok.hd hc) st p.isList (by simp;lia) fun h' eb=>⟨rfl,I.turned (t':=s.toks) (fun b o hb e=>eb b o hb e) f0 f1 f3 f4 f5⟩
 self:=fun _ _ _ _ _ st h=>wpAny_pyIter_listiter st h
theorem Lh{P:XX}{w:XY}{K:uFg}{tg:Expr}(a it:XW):VQ P w K tg (EI K a) [it] it (fun i h=>h.IsTupleIter it a i) where
 mem:=by simp
 obj:=fun i h st b hb=>by
  have e:b=it:=by simpa using hb
  subst e;obtain⟨o,e,c,d⟩:=st;exact⟨o,e,fun v z=>by rw[d] at z;cases z⟩
 keep:=fun i h h' st k=>st.at fun o e=>k it (by simp) o e
 item:=by
  intro X hP hw hK hc i pins s σ H E I hf st hg;subst hP hw hK;obtain⟨xs,x,hq,hx⟩:=hg;obtain⟨its,rv,p,hz⟩:=I.tuple hq;obtain⟨u,hu,ru⟩:=rv.get hx;obtain⟨f0,f1,f2,f3,f4,f5⟩:=hf it (by simp);refine wpAny_pyNext_tuple_item st (show s.heap.IsTuple a its.toArray from p) (x:=u) (by simpa using hu) fun h' st' sb=>?_;have I1:ZD X pins σ H {s with heap:=h' }:=I.turned (t':=s.toks) (fun b o hb e=>(sb.2 b hb).trans e) f0 f1 f3 f4 f5;obtain⟨o,e,c,d⟩:=id st';exact⟨u,rfl,Bl (s:={s with heap:=h' }) e c d aA ⟨x,H,I1,ru,⟨rfl,fun ys hy=>by rw[I.tuple_inj hy hq];exact hx⟩,st',fun b hb=>(hf b hb).1⟩⟩
 done:=by
  intro X hP hw hK hc i pins s σ H E I hf st hg;subst hP hw hK;obtain⟨xs,hq,hx⟩:=hg;obtain⟨its,rv,p,hz⟩:=I.tuple hq;obtain⟨f0,f1,f2,f3,f4,f5⟩:=hf it (by simp);have hl:=rv.length;exact wpAny_pyNext_tuple_end (I.ok.hd hc) st (show s.heap.IsTuple a its.toArray from p) (by simp;lia) fun h' eb=>⟨rfl,I.turned (t':=s.toks) (fun b o hb e=>eb b o hb e) f0 f1 f3 f4 f5⟩
 self:=fun _ _ _ _ _ st h=>wpAny_pyIter_tupleiter st h
theorem X8{P:XX}{w:XY}{K:uFg}{tg:Expr}(it:XW)(lo:Int)(n:Nat):VQ P w K tg (Jl lo n) [it] it (fun i h=>IsRangeIter h it (lo+(i:Nat) * 1) ((n:Int) - (i:Nat)) 1) where
 mem:=by simp
 obj:=fun i h st b hb=>by grind
 keep:=fun i h h' st k=>k it (by simp) _ st
 item:=by
  intro X hP hw hK hc i pins s σ H E I hf st hg;subst hP hw hK;obtain⟨f0,f1,f2,f3,f4,f5⟩:=hf it (by simp);have W:=Walks.range (prog:=X.prog) (w:=X.w) (I.ok.hd hc) it lo 1 n;refine W.item i s _ _ hg st fun v h' tk hv st' kk=>?_;obtain⟨t,rfl⟩:=hv;have I1:ZD X pins σ H {s with heap:=h',toks:=tk }:=I.turned (fun b o hb e=>kk b o (by simpa using hb) e) f0 f1 f3 f4 f5;refine⟨_,rfl,Bl (s:={s with heap:=h',toks:=tk }) (n:="range_iterator") st' rfl rfl aA ⟨.int (lo+i),H,I1,⟨t,?_⟩,⟨rfl,rfl⟩,st',fun b hb=>(hf b hb).1⟩⟩;rw[Int.mul_one]
 done:=by
  intro X hP hw hK hc i pins s σ H E I hf st hg;subst hP hw hK;obtain⟨f0,f1,f2,f3,f4,f5⟩:=hf it (by simp);exact wpAny_pyNext_range_end (I.ok.hd hc) st (by have:n<=i:=hg;lia) fun h' eb=>⟨rfl,I.turned (t':=s.toks) (fun b o hb e=>eb b o hb e) f0 f1 f3 f4 f5⟩
 self:=fun _ _ _ _ _ st h=>wpAny_pyIter_rangeiter st h
section
variable{X:Cx}{tg:Expr}
inductive Ay(K:uFg)(R:It->Hp->Prop)(x:V)(H1:Hp):Prop
 |mk(a)(_:x = .ref a)(_:(∃xs,ZF K H1 a xs))(_:R (Jw K a) H1)
def PB(K:uFg)(tl:TE):TI:=fun σ H R=>tl σ H fun x H1=>Ay K R x H1
inductive B2(K:uFg)(R:It->Hp->Prop)(x:V)(H1:Hp):Prop
 |mk(a)(_:x = .ref a)(_:(∃xs,ZS K H1 a xs))(_:R (EI K a) H1)
def Nt(K:uFg)(tl:TE):TI:=fun σ H R=>tl σ H fun x H1=>B2 K R x H1
theorem Gz{pins:List (XW×Obj)}{σ:St}{H:Hp}{s:XT}{R:It->Hp->Prop}{E:XM}{lo hi:Int}{t u v:Tok}{tk:Nat}(I:ZD X pins σ H s)(h1 : -(2 ^ 62)<=lo)(h2:lo < 2 ^ 62)(h3 : -(2 ^ 62)<=hi)(h4:hi < 2 ^ 62)(q:R (Jl lo (hi - lo).toNat) H):wpAny (model X.prog X.w) X.A (pyIter (.ref s.heap.objs.size)) (Ep X pins σ tg R) E {s with heap:=s.heap.push {cls:=.type "range", data:=.fields #[.int lo t,.int hi u,.int 1 v] },toks:=tk }:=by
 refine wpAny_pyIter_range (IsRange.new ..) (small_one h1 h2 h3 h4) ?_;have I1:ZD X pins σ H {s with heap:=s.heap.push {cls:=.type "range", data:=.fields #[.int lo t,.int hi u,.int 1 v] },toks:=tk }:=I.kept fun b o e=>xG _ e;refine⟨(s.heap.push {cls:=.type "range", data:=.fields #[.int lo t,.int hi u,.int 1 v] }).objs.size,[(s.heap.push {cls:=.type "range", data:=.fields #[.int lo t,.int hi u,.int 1 v] }).objs.size],_,_,H,rfl, I1.kept (t':=tk) fun b o e=>xG _ e,X8 _ lo (hi - lo).toNat,?_,fun b hb=>?_,q⟩
 ·have e1:lo+((0:Nat):Int) * 1=lo:=by simp
  have e2:(((hi - lo).toNat:Nat):Int) - ((0:Nat):Int)=Builtin.Range.rangeSize lo hi 1:=by rw[rangeSize_one];split<;>lia
  show IsRangeIter _ _ (lo+((0:Nat):Int) * 1) ((((hi - lo).toNat:Nat):Int) - ((0:Nat):Int)) 1;rw[e1,e2];exact xV _ rfl
 ·have e:b=(s.heap.push {cls:=.type "range", data:=.fields #[.int lo t,.int hi u,.int 1 v] }).objs.size:=by simpa using hb
  subst e;exact I1.fpOk (xD _) (I1.hok.fresh (xD _))
inductive A8(R:It->Hp->Prop)(vs:aG)(H1:Hp):Prop
 |mk(j)(_:vs = [.int j])(_:-(2 ^ 62)<=j)(_:j < 2 ^ 62)(_:R (Jl 0 j.toNat) H1)
def Sy(ta:TA):TI:=fun σ H R=>ta σ H fun vs H1=>A8 R vs H1
inductive A7(R:It->Hp->Prop)(vs:aG)(H1:Hp):Prop
 |mk(i j)(_:vs = [.int i,.int j])(_:(-(2 ^ 62)<=i/\i < 2 ^ 62 /\ -(2 ^ 62)<=j/\j < 2 ^ 62))(_:R (Jl i (j - i).toNat) H1)
def SX(ta:TA):TI:=fun σ H R=>ta σ H fun vs H1=>A7 R vs H1
def XJ(wi:TI)(g:TG)(tb:TS):TS:=fun D σ H=>wi σ H fun J H1=>∃W:Nat->Nat->St->Hp->Prop,(∃m,W 0 m σ H1)/\∀i m σ H,W i m σ H ->
 (J.stop i H/\D.nx σ H)\/(J.go i H/\∃N:St->Hp->Prop,(∀ σ' H',N σ' H'->∃m',m' < m/\W (i+1) m' σ' H')/\∀x H',J.yld i H x H'->g x σ H' fun σ2 H2=>tb {D with nx:=N,ct:=N,bk:=D.nx } σ2 H2)
def AF(fp:XS)(h:Heap):List (XW×Obj):=fp.filterMap fun b=>(h.get? b).map fun o=>(b,o)
theorem Bz(hb:b∈fp)(e:h.get? b=some o):(b,o)∈AF fp h:=List.mem_filterMap.mpr ⟨b,hb,by rw[e];rfl⟩
theorem Hz(hp:p∈AF fp h):p.1∈fp/\h.get? p.1=some p.2:=by
 obtain⟨b,hb,e⟩:=List.mem_filterMap.mp hp;cases q:h.get? b with
 | none=>rw[q] at e;cases e
 | some o =>
  rw[q] at e;have e':(b,o)=p:=Option.some.inj e;subst e';exact⟨hb,q⟩
theorem ZD.pinned{pins:List (XW×Obj)}{σ:St}{H:Hp}{s:XT}{fp:XS}(I:ZD X pins σ H s)(hf:∀b∈fp,Uf X pins H b)(ho:∀b∈fp,∃o,s.heap.get? b=some o/\∀v,o.data ≠ .cell v):ZD X (pins++AF fp s.heap) σ H s :=
 I.pins_of fun p hp=>(xJ.mp hp).elim (fun z=>I.pin p (xI _ z)) fun z=>by
  obtain⟨hb,e⟩:=Hz z;obtain⟨f0,f1,f2,_⟩:=hf p.1 hb;obtain⟨o,e',d⟩:=ho p.1 hb;rw[e] at e';cases e';exact⟨e,f0,f1,f2,d⟩
theorem ZD.unpinned{pins pl:List (XW×Obj)}{σ:St}{H:Hp}{s:XT}(I:ZD X (pins++pl) σ H s):ZD X pins σ H s:=I.pins_of fun p hp=>I.pin p (xI _ (yQ _ hp))
end
theorem Ra{K:uFg}{a:XW}{xs:aG}{g:TG}{tb:TS}{D:YE}{σ:St}{H:Hp}(Pv:Nat->St->Hp->Prop)(h0:Pv 0 σ H)(hl:∀i σ H,i<=xs.length->Pv i σ H->ZF K H a xs)(hs:∀i x σ H,xs[i]? = some x->Pv i σ H->g x σ H fun σ2 H2=>tb {D with nx:=Pv (i+1),ct:=Pv (i+1),bk:=D.nx } σ2 H2)(hd:∀ σ H,Pv xs.length σ H->D.nx σ H) :
  ∃W:Nat->Nat->St->Hp->Prop,(∃m,W 0 m σ H)/\∀i m σ H,W i m σ H ->
   ((Jw K a).stop i H/\D.nx σ H)\/((Jw K a).go i H/\∃N:St->Hp->Prop,(∀ σ' H',N σ' H'->∃m',m' < m/\W (i+1) m' σ' H')/\∀x H',(Jw K a).yld i H x H'->g x σ H' fun σ2 H2=>tb {D with nx:=N,ct:=N,bk:=D.nx } σ2 H2):=by
 refine⟨fun i m σ H=>m=xs.length - i/\i<=xs.length/\Pv i σ H,⟨xs.length,by simp,yN _,h0⟩,?_⟩;rintro i m σ H ⟨rfl,hi,p⟩;have q:=hl i σ H hi p
 by_cases hlt:i < xs.length
 ·refine .inr ⟨⟨xs,xs[i],q,by simp[hlt]⟩,Pv (i+1),fun σ' H' p'=>⟨xs.length - (i+1),by lia,rfl,hlt,p'⟩,fun x H' y=>?_⟩;obtain⟨e,y⟩:=y;subst e;exact hs i x σ _ (y xs q) p
 ·have e:i=xs.length:=by lia
  subst e;exact .inl ⟨⟨xs,q,xD _⟩,hd σ H p⟩
theorem Ma{lo:Int}{n:Nat}{g:TG}{tb:TS}{D:YE}{σ:St}{H:Hp}(Pv:Nat->St->Hp->Prop)(h0:Pv 0 σ H)(hs:∀i σ H,i < n->Pv i σ H->g (.int (lo+i)) σ H fun σ2 H2=>tb {D with nx:=Pv (i+1),ct:=Pv (i+1),bk:=D.nx } σ2 H2)(hd:∀ σ H,Pv n σ H->D.nx σ H) :
  ∃W:Nat->Nat->St->Hp->Prop,(∃m,W 0 m σ H)/\∀i m σ H,W i m σ H ->
   ((Jl lo n).stop i H/\D.nx σ H)\/((Jl lo n).go i H/\∃N:St->Hp->Prop,(∀ σ' H',N σ' H'->∃m',m' < m/\W (i+1) m' σ' H')/\∀x H',(Jl lo n).yld i H x H'->g x σ H' fun σ2 H2=>tb {D with nx:=N,ct:=N,bk:=D.nx } σ2 H2):=by
 refine⟨fun i m σ H=>m=n - i/\i<=n/\Pv i σ H,⟨n,by simp,yN _,h0⟩,?_⟩;rintro i m σ H ⟨rfl,hi,p⟩
 by_cases hlt:i < n
 ·refine .inr ⟨hlt,Pv (i+1),fun σ' H' p'=>⟨n - (i+1),by lia,rfl,hlt,p'⟩,fun x H' y=>?_⟩;obtain⟨e,y⟩:=y;subst e y;exact hs i σ _ hlt p
 ·have e:i=n:=by lia
  subst e;exact .inl ⟨xD _,hd σ H p⟩
abbrev R2:=V->V->Hp->VK->Prop
def JU(X:Cx)(f:XU->XU->Sem XU)(r:R2):Prop :=
 ∀(pins:List (XW×Obj))(s:XT)(σ:St)(H:Hp)(x y:V)(v u:XU)(Q:VK),ZD X pins σ H s->ZG x v->ZG y u->r x y H Q ->
  wpAny (model X.prog X.w) X.A (f v u) (EP X pins σ Q) X.xe s
def Oo(X:Cx)(f:XU->Sem XU)(r:V->Hp->VK->Prop):Prop :=
 ∀(pins:List (XW×Obj))(s:XT)(σ:St)(H:Hp)(x:V)(v:XU)(Q:VK),ZD X pins σ H s->ZG x v->r x H Q ->
  wpAny (model X.prog X.w) X.A (f v) (EP X pins σ Q) X.xe s
def Jj(X:Cx)(f:XU)(r:List V->Hp->VK->Prop):Prop :=
 ∀(pins:List (XW×Obj))(s:XT)(σ:St)(H:Hp)(xs:aG)(us:XQ)(Q:VK),ZD X pins σ H s->ZH xs us->r xs H Q ->
  wpAny (model X.prog X.w) X.A (call f us) (EP X pins σ Q) X.xe s
def Qi(X:Cx)(r:V->Hp->(Bool->Hp->Prop)->Prop):Prop :=
 ∀(pins:List (XW×Obj))(s:XT)(σ:St)(H:Hp)(x:V)(v:XU)(Q:Bool->Hp->Prop),ZD X pins σ H s->ZG x v->r x H Q ->
  wpAny (model X.prog X.w) X.A (truthy v) (TP X pins σ Q) X.xe s
def JJ(r:R2)(ta tb:TE):TE:=fun σ H Q=>ta σ H fun x H1=>tb σ H1 fun y H2=>r x y H2 Q
def OH(r:V->Hp->VK->Prop)(ta:TE):TE:=fun σ H Q=>ta σ H fun x H1=>r x H1 Q
inductive rI(C:Int->Int->Prop)(g:Int->Int->V)(x y:V)(H:Hp)(Q:VK):Prop
 |mk(i j)(_:x = .int i)(_:y = .int j)(_:C i j)(_:Q (g i j) H)
inductive J5(g:Int->Int->V)(x y:V)(H:Hp)(Q:VK):Prop
 |mk(i j)(_:x = .int i)(_:y = .int j)(_:Q (g i j) H)
inductive rU(g:Int->V)(x:V)(H:Hp)(Q:VK):Prop
 |mk(i)(_:x = .int i)(_:Q (g i) H)
theorem Ds(ha:PE X a ta)(hb:PE X b tb){pins:List (XW×Obj)}{s:XT}{σ:St}{H:Hp}{R:V->V->Hp->Prop}(I:ZD X pins σ H s)(h:ta σ H fun x H1=>tb σ H1 fun y H2=>R x y H2){Q:XM}{f:XU->XU->Sem XU}(hf:∀v u s2 x y H2,ZD X pins σ H2 s2->ZG x v->ZG y u->R x y H2->wpAny (model X.prog X.w) X.A (f v u) Q X.xe s2) :
  wpAny (model X.prog X.w) X.A (eval a X.env) (fun v s₁=>wpAny (model X.prog X.w) X.A (eval b X.env) (fun u s₂=>wpAny (model X.prog X.w) X.A (f v u) Q X.xe s₂) X.xe s₁) X.xe s:=by
 refine thn (ha pins s σ H _ I h) fun v s1 ⟨x,H1,I1,r1,q1⟩=>?_;refine thn (hb pins s1 σ H1 _ I1 q1) fun u s2 ⟨y,H2,I2,r2,q2⟩=>?_;exact hf v u s2 x y H2 I2 r1 r2 q2
theorem opI{f:XU->XU->Sem XU}{C:Int->Int->Prop}{g:Int->Int->Int}(rule:∀i j t u s Q E,C i j->Q (.int (g i j) s.toks) {s with toks:=s.toks+1 }->wpAny (model X.prog X.w) X.A (f (.int i t) (.int j u)) Q E s) :
  JU X f (rI C fun i j=>.int (g i j)):=by
 intro pins s σ H x y v u Q I rx ry h;obtain⟨i,j,rfl,rfl,hc,q⟩:=h;obtain⟨t,rfl⟩:=rx;obtain⟨t',rfl⟩:=ry;exact rule i j t t' s _ _ hc ⟨.int (g i j),H,I.tok _,⟨_,rfl⟩,q⟩
theorem GC{f:XU->XU->Sem XU}{g:Int->Int->Int}(rule:∀i j t u s Q E,Q (.int (g i j) s.toks) {s with toks:=s.toks+1 }->wpAny (model X.prog X.w) X.A (f (.int i t) (.int j u)) Q E s) :
  JU X f (J5 fun i j=>.int (g i j)):=by
 intro pins s σ H x y v u Q I rx ry h;obtain⟨i,j,rfl,rfl,q⟩:=h;obtain⟨t,rfl⟩:=rx;obtain⟨t',rfl⟩:=ry;exact rule i j t t' s _ _ ⟨.int (g i j),H,I.tok _,⟨_,rfl⟩,q⟩
theorem Di{f:XU->XU->Sem XU}{g:Int->Int->Bool}(rule:∀i j t u s Q E,Q (.bool (g i j)) s->wpAny (model X.prog X.w) X.A (f (.int i t) (.int j u)) Q E s) :
  JU X f (J5 fun i j=>.bl (g i j)):=by
 intro pins s σ H x y v u Q I rx ry h;obtain⟨i,j,rfl,rfl,q⟩:=h;obtain⟨t,rfl⟩:=rx;obtain⟨t',rfl⟩:=ry;exact rule i j t t' s _ _ ⟨.bl (g i j),H,I,rfl,q⟩
def Fd(i j:Int):Prop:=0 < j/\j < 1073741824
def Fe(i j:Int):Prop:=0<=j/\j<=1000000/\i.natAbs < 2 ^ 64
def JM(i j:Int):Prop:=(-(2 ^ 64) < i/\i < 2 ^ 64)\/(-(2 ^ 64) < j/\j < 2 ^ 64)
theorem JM.ok(h:JM i j):IntMulOk i j:=by
 rcases h with⟨h1,h2⟩ | ⟨h1,h2⟩
 ·exact .of_left (intBits_le_64 h1 h2)
 ·exact .of_right (intBits_le_64 h1 h2)
def IW:V->V->Bool
 | .non,.non=>true | .non,.int _=>true | .int _,.non=>true | .non,.bl _=>true | .bl _,.non=>true | .non,.str _=>true | .str _,.non=>true
 | .int _,.int _=>true | .bl _,.bl _=>true | .str _,.str _=>true | .byt _,.byt _=>true
 | .int _,.str _=>true | .str _,.int _=>true | .bl _,.str _=>true | .str _,.bl _=>true
 | _,_=>false
def CH:R2:=fun x y H Q=>IW x y=true/\Q (.bl (decide (x=y))) H
def MV:R2:=fun x y H Q=>IW x y=true/\Q (.bl (!decide (x=y))) H
theorem IC:decide (V.int i=V.int j)=(i == j):=by
 rw[zA];simp
theorem Gy:decide (V.bl i=V.bl j)=(i == j):=by
 rw[zA];simp
theorem Hv:decide (V.str i=V.str j)=(i == j):=by
 rw[zA];simp
theorem Gb:decide (V.byt i=V.byt j)=(i.toList == j.toList):=by
 rw[zA];cases i;cases j;simp
section
variable{b:Expr}{ta tb tc:TE}
theorem Yv{pins:List (XW×Obj)}{σ:St}{H:Hp}{s:XT}{Q:VK}{k k':Bool}(I:ZD X pins σ H s)(q:Q (.bl k) H)(e:k=k'):EP X pins σ Q (.bool k') s:=by
 subst e;exact⟨.bl k,H,I,rfl,q⟩
theorem Zu(b:Expr)(h:op ≠ .In:=by decide)(h2:op ≠ .NotIn:=by decide):behindInMarks op b=false:=by
 have e1:(op == CmpOp.In)=false:=by cases op<;>first | rfl | exact absurd rfl h
 have e2:(op == CmpOp.NotIn)=false:=by cases op<;>first | rfl | exact absurd rfl h2
 cases b<;>simp[behindInMarks,e1,e2]
def B3(t:TE):TT:=fun σ H Q=>t σ H fun x H'=>∃k,x = .bl k/\Q k H'
inductive J7(r':R2)(tc:TE)(σ:St)(Q:VK)(y z:V)(H3:Hp):Prop
 |mk(k)(_:z = .bl k)(_:(if k=true then tc σ H3 fun w' H4=>r' y w' H4 Q else Q (.bl false) H3))
def Iv(r r':R2)(ta tb tc:TE):TE:=fun σ H Q=>ta σ H fun x H1=>tb σ H1 fun y H2=>r x y H2 fun z H3=>J7 r' tc σ Q y z H3
def Fl(K:uFg)(x:V)(H:Hp)(k:Bool):Prop :=
 match x with
 | .non=>k=false
 | .bl b=>k=b
 | .int i=>k=(i != 0)
 | .str y=>y.length<=sizeLine/\k=((y.length:Int) != 0)
 | .byt y=>y.size<=sizeLine/\k=((y.size:Int) != 0)
 | .ref p=>(∃xs,ZF K H p xs/\k = !xs.isEmpty)\/(∃xs,ZS K H p xs/\k = !xs.isEmpty)\/∃kvs,H p=some (.dK kvs)/\k = !kvs.isEmpty
 | _=>False
theorem X9{κ:Type}{kvs:List (κ×V)}{vs:List (κ×XU)}(r:KV kvs vs):(!vs.isEmpty)= !kvs.isEmpty:=by
 cases r<;>rfl
theorem Fm(r:ZH xs its):(!its.toArray.isEmpty)= !xs.isEmpty:=by
 cases r<;>simp
theorem Au:(sizeLine:Nat) < 2 ^ 63:=by rw[sizeLine_eq];decide
theorem PF:Qi X (fun x H Q=>∃k,Fl X.K x H k/\Q k H):=by
 intro pins s σ H x v Q I rx h;obtain⟨k,e,q⟩:=h;have hl:=Au;have hs:sizeLine=16777216:=sizeLine_eq;cases x with
 | non =>
  cases rx;have e':k=false:=e;subst e';exact truthy_none ⟨H,I,q⟩
 | bl b =>
  cases rx;have e':k=b:=e;subst e';exact wpAny_truthy_bool ⟨H,I,q⟩
 | int i =>
  obtain⟨t,rfl⟩:=rx;have e':k=(i != 0):=e;subst e';exact PySem.P.truthy_int ⟨H,I,q⟩
 | str y =>
  obtain⟨t,rfl⟩:=rx;obtain⟨hy,e'⟩:y.length<=sizeLine/\k=((y.length:Int) != 0):=e;subst e';exact PySem.P.truthy_str (by lia) ⟨H,I.tok _,q⟩
 | byt y =>
  obtain⟨t,rfl⟩:=rx;obtain⟨hy,e'⟩:y.size<=sizeLine/\k=((y.size:Int) != 0):=e;subst e';exact PySem.W.truthy_bytes (by lia) ⟨H,I.tok _,q⟩
 | ref p =>
  cases rx;have e':(∃xs,ZF X.K H p xs/\k = !xs.isEmpty)\/(∃xs,ZS X.K H p xs/\k = !xs.isEmpty)\/∃kvs,H p=some (.dK kvs)/\k = !kvs.isEmpty:=e;rcases e' with⟨xs,hx,e'⟩ | ⟨xs,hx,e'⟩ | ⟨kvs,hx,e'⟩
  ·subst e';obtain⟨its,r,pl,hz⟩:=I.list hx;have hlen:=r.length;exact wpAny_truthy_list pl.isList (by simp only[xQ];lia) ⟨H,I.tok _,by rw[Fm r];exact q⟩
  ·subst e';obtain⟨its,r,pl,hz⟩:=I.tuple hx;have hlen:=r.length;exact truthy_tuple pl (by simp only[xQ];lia) ⟨H,I.tok _,by rw[Fm r];exact q⟩
  ·subst e';obtain⟨hz,hS,vs,r,m⟩:kvs.length<=sizeLine/\(p == sysModules)=false/\∃vs,KV kvs vs/\s.heap.DictOf (Wm X.prog X.w) p vs:=I.hok p _ hx;have hlen:kvs.length=vs.length:=Paired.length r;exact wpAny_truthy_dict hS m (by lia) ⟨H,I.tok _,by rw[X9 r];exact q⟩
 | _=>exact(show False from e).elim
theorem Ja(r:ZH [x] us):∃u,us = [u]/\ZG x u:=by
 cases r with
 | cons r1 r2=>cases r2;exact⟨_,rfl,r1⟩
theorem EV(r:ZH [x,y] us):∃u w',us = [u,w']/\ZG x u/\ZG y w':=by
 cases r with
 | cons r1 r2 =>
  cases r2 with
  | cons r3 r4=>cases r4;exact⟨_,_,rfl,r1,r3⟩
end
structure UI (h:Heap) (x dx C:XW) (mA:XN):Prop where
 obj:h.get? x=some (PySem.W.instObj C dx)
 ns:h.Ns1 dx mA
 ne:dx≠x
theorem Mc{h:Heap}{dx:XW}{mA:XN}(n:h.Ns1 dx mA):∃od,h.get? dx=some od/\∀name,PySem.W.lookIn name od=some (mA name):=by
 obtain⟨o,es,ep,ho,hd,hk,_,hm⟩:=n;refine⟨o,ho,fun name=>?_⟩;have e:=hm name;unfold nsFind findBy at e;rw[← Array.find?_toList] at e;unfold PySem.W.lookIn;rw[hd];dsimp only;split
 ·rename_i y q;rw[q] at e;exact congrArg some e
 ·rename_i q;rw[q] at e;have a:es.toList.any (·.refKey)=false:=by
   rw[List.any_eq_false];intro y hy;obtain⟨z,t,hkey⟩:=hk y (Array.mem_toList_iff.mp hy);simp[DictEntry.refKey,hkey]
  have a':¬es.toList.any (·.refKey)=true:=by rw[a];exact xL
  rw[if_neg a'];exact congrArg some e
theorem UI.look(I:UI h x dx C mA):∃od,PySem.W.InstAt h x (PySem.W.instObj C dx) C (some od)/\∀name,PySem.W.lookIn name od=some (mA name) :=
 let ⟨od,ho,hl⟩:=Mc I.ns
 ⟨od,⟨I.obj,rfl,rfl,ho⟩,hl⟩
section
variable{prog:XX}{w:XY}{A:XZ}{E:XM}{s:XT}{K:uFg}{x dx C f:XW}{mA:XN}{name:Str}{v:XU}
theorem SS{expr:Bool}{Q:XM}(X:K.In s.heap)(I:UI s.heap x dx C mA)(hg:PySem.W.plainGet K C name=true)(hh:PySem.W.hasDictIn K C=true)(ha:PySem.W.findIn K (.ref C) name=some none)(hv:mA name=some v)(hv':PySem.W.handedIn v=true)(h:Q v {s with toks:=s.toks+1 }) :
  wpAny (model prog w) A (getAttr (.ref x) name expr) Q E s:=by
 obtain⟨od,J,hl⟩:=I.look;exact PySem.W.get_value X J (PySem.W.plainGet_of hg).1 (PySem.W.findObj_own hh ha rfl (by rw[hl,hv])) hv' h
theorem Xh{pl:Sem Bool}{Q:XU×List XU->XT->Prop}(X:K.In s.heap)(I:UI s.heap x dx C mA)(hg:PySem.W.plainGet K C name=true)(hf:PySem.W.findIn K (.ref C) name=some (some (.ref f)))(ht:PySem.W.isFn K (.ref f)=true)(hv:mA name=none)(h:Q (.ref f,[.ref x]) s) :
  wpAny (model prog w) A (getMethod (.ref x) name pl) Q E s:=by
 obtain⟨od,J,hl⟩:=I.look;exact PySem.W.method_fn X J (PySem.W.plainGet_of hg).1 (PySem.W.plainGet_of hg).2 hf (beq_iff_eq.mp ht) (by show (PySem.W.lookIn name od).map (·.isSome)=some false;rw[hl,hv];rfl) h
theorem Re{ns:XO}{Q:Unit->XT->Prop}(X:K.In s.heap)(I:UI s.heap x dx C mA)(hs:PySem.W.findIn K (.ref C) "__setattr__" = some (some (.builtin "object.__setattr__")))(hp:PySem.W.plainOver K C=true)(ht:PySem.W.takerIn K C name=some none)(hh:PySem.W.hasDictIn K C=true)(hw:PySem.Within mA ns)(hsz:ns.length<=sizeLine)(h:∀h',UI h' x dx C (fun y=>if y=name then some v else mA y)->Heap.SameBut dx s.heap h'->Q () {s with heap:=h',toks:=s.toks+2 }) :
  wpAny (model prog w) A (setAttr (.ref x) name v) Q E s:=by
 obtain⟨od,J,hl⟩:=I.look;refine PySem.W.set_plain X J hs (PySem.W.osa_open (s:={s with toks:=s.toks+1 }) (r:=none) X J hp ht fun b=>?_);obtain⟨cd,hc,hd'⟩:=PySem.W.any_some hh;have hx:s.heap.get? x=some ⟨.ref C,some dx,.plain,#[]⟩:=I.obj;refine wpAny_bind (wpAny_pure (wpAny_bind (wpAny_bind (wpAny_loadPart hx (wpAny_bind (PySem.W.Looks.here (s:={s with toks:=s.toks+1 }) (PySem.W.looks_clsIn X hc) ?_))))));rw[hd'];refine wpAny_pure (a:=some dx) (wpAny_bind (wpAny_pure (wpAny_bind ?_)));refine wpAny_nsSet1 (s:={s with toks:=s.toks+1 }) I.ns fun h' hn2 hs2=>?_;obtain⟨oD,esD,epD,hoD,hdD,hcD⟩:=hn2.count (PySem.Within.cons name v hw);refine wpAny_bind (wpAny_lookBehind hoD (by rw[hdD];exact pastItsLine_dict (yC hcD (by rw[yE];lia))) ?_);exact wpAny_pure (h _ ⟨(hs2.2 _ (Ne.symm I.ne)).trans I.obj,hn2,I.ne⟩ hs2)
theorem Rv{R:Result->XT->Prop}{vs:XQ}{kw:List (Str×XU)}(X:K.In s.heap)(hm:PySem.W.makesIn K C=true)(hi:PySem.W.findIn K (.ref C) "__init__" = some (some (.ref f)))(hf:PySem.W.typeIn K (.ref f)=some (.type "function"))(h:codeAny (model prog w) (A.under (.builtin "type.__call__" ⟨.ref C::vs,kw⟩)) (.call (.ref f) ⟨.ref (s.heap.objs.size+1)::vs,kw⟩) (PySem.W.InitBack (s.heap.objs.size+1) R) {s with heap:=(s.heap.push PySem.W.emptyDict).push (PySem.W.instObj C s.heap.objs.size) }) :
  codeAny (model prog w) A (.call (.ref C) ⟨vs,kw⟩) R s:=by
 obtain⟨hh,g,d,t,os⟩:=s;exact PySem.W.make_core (PySem.W.makes_of X hm) (PySem.W.looks_findIn X hi) (fun self=>PySem.W.bind_fn X self hf) (.inl rfl) h
end
def Zr(f:Str)(v:V):List (Str×V)->List (Str×V)
 | []=>[(f,v)]
 | (g,x)::r=>if g=f then (g,v)::r else (g,x)::Zr f v r
theorem Y5(f g:Str)(v:V):∀fs:List (Str×V),(Zr f v fs).lookup g=if g=f then some v else fs.lookup g
 | []=>by
  show List.lookup g [(f,v)]=_
  by_cases h:g=f
  ·grind
  ·grind
 | (k,x)::r=>by
  have ih:=Y5 f g v r;rw[show Zr f v ((k,x)::r)=(if k=f then (k,v)::r else (k,x)::Zr f v r) from rfl]
  by_cases hk:k=f
  ·grind
  ·grind
theorem DI(f:Str)(v:V):∀fs:List (Str×V),f∈(Zr f v fs).map (·.1)/\∀g,g∈fs.map (·.1)->g∈(Zr f v fs).map (·.1)
 | []=>⟨by simp[Zr],fun g h=>by simp at h⟩
 | (k,x)::r=>by
  obtain⟨i1,i2⟩:=DI f v r;rw[show Zr f v ((k,x)::r)=(if k=f then (k,v)::r else (k,x)::Zr f v r) from rfl]
  by_cases hk:k=f
  ·rw[if_pos hk];subst hk;exact⟨by simp,fun g h=>by simpa using h⟩
  ·grind
theorem Ag(f:Str)(v:V):∀fs:List (Str×V),(Zr f v fs).length<=fs.length+1
 | []=>by simp[Zr]
 | (k,x)::r=>by
  have ih:=Ag f v r;rw[show Zr f v ((k,x)::r)=(if k=f then (k,v)::r else (k,x)::Zr f v r) from rfl]
  by_cases hk:k=f
  ·rw[if_pos hk,yE,yE];lia
  ·rw[if_neg hk,yE,yE];lia
theorem YN.some_of(r:YN (some v) o):∃u,o=some u/\ZG v u:=by
 cases o with
 | none=>exact(show False from r).elim
 | some u=>exact⟨u,rfl,r⟩
theorem YN.none_of(r:YN none o):o=none:=by
 cases o with
 | none=>rfl
 | some u=>exact(show False from r).elim
theorem Oj(r:ZG v u):PySem.W.handedIn u=true:=by
 cases v with
 | non=>cases (show u=Value.none from r);rfl
 | bl b=>cases (show u=Value.bool b from r);rfl
 | int i=>obtain⟨t,e⟩:=(show ∃t,u=Value.int i t from r);cases e;rfl
 | str x=>obtain⟨t,e⟩:=(show ∃t,u=Value.str x t from r);cases e;rfl
 | byt b=>obtain⟨t,e⟩:=(show ∃t,u=Value.bytes b t from r);cases e;rfl
 | flt b=>obtain⟨t,e⟩:=(show ∃t,u=Value.float b t from r);cases e;rfl
 | ref a=>cases (show u=Value.ref a from r);rfl
 | ty n=>cases (show u=Value.type n from r);rfl
theorem BR(hok:YQ P w H h)(e:H a=some (.ins C dx fs)):∃mA,UI h a dx C mA/\(∀f,YN (fs.lookup f) (mA f))/\PySem.Within mA (fs.map (·.1))/\fs.length<=1000/\H dx=some (.own a):=by
 obtain⟨d,z,ne,ob,mA,n,r,q⟩:=(show ZO P w H h a (.ins C dx fs) from hok a _ e);exact⟨mA,⟨ob,n,ne⟩,r,q,z,d⟩
structure UH (K:uFg) (C:XW):Prop where
 pg:PySem.W.plainGet K C Str.empty=true
 hd:PySem.W.hasDictIn K C=true
 po:PySem.W.plainOver K C=true
 sa:PySem.W.findIn K (.ref C) "__setattr__" = some (some (.builtin "object.__setattr__"))
theorem UH.get{K:uFg}{C:XW}(c:UH K C)(f:Str):PySem.W.plainGet K C f=true:=c.pg
def ZW(K:uFg)(C:XW)(f:Str):Prop:=PySem.W.findIn K (.ref C) f=some none
theorem ZW.taker{K:uFg}{C:XW}{f:Str}(n:ZW K C f):PySem.W.takerIn K C f=some none:=by
 unfold PySem.W.takerIn;rw[show PySem.W.findIn K (.ref C) f=some none from n];rfl
structure To (K:uFg) (C:XW) (m:Str) (f:XW):Prop where
 at_:PySem.W.findIn K (.ref C) m=some (some (.ref f))
 fn:PySem.W.isFn K (.ref f)=true
 kp:PySem.W.keepIn K (.ref f)=true
section
variable{X:Cx}{pins:List (XW×Obj)}{σ:St}{H:Hp}{s:XT}{a C dx:XW}{fs:List (Str×V)}{f:Str}{v:V}{A:XZ}{E:XM}
theorem LB{b:Bool}{Q:XM}(I:ZD X pins σ H s)(e:H a=some (.ins C dx fs))(c:UH X.K C)(n:ZW X.K C f)(l:fs.lookup f=some v)(h:∀u s',ZD X pins σ H s'->ZG v u->Q u s'):wpAny (model X.prog X.w) A (getAttr (.ref a) f b) Q E s:=by
 obtain⟨mA,O,r,_,_,_⟩:=BR I.hok e;obtain⟨u,hu,ru⟩:=YN.some_of (v:=v) (o:=mA f) (by rw[← l];exact r f);exact SS I.kIn O (c.get f) c.hd n hu (Oj ru) (h u _ (I.tok _) ru)
theorem Cn{m:Str}{g:XW}{pl:Sem Bool}{Q:XU×List XU->XT->Prop}(I:ZD X pins σ H s)(e:H a=some (.ins C dx fs))(c:UH X.K C)(k:To X.K C m g)(l:fs.lookup m=none)(h:Q (.ref g,[.ref a]) s):wpAny (model X.prog X.w) A (getMethod (.ref a) m pl) Q E s:=by
 obtain⟨mA,O,r,_,_,_⟩:=BR I.hok e;have hn:mA m=none:=YN.none_of (by rw[← l];exact r m);exact Xh I.kIn O (c.get m) k.at_ k.fn hn h
theorem Ri{y:V}{u:XU}{Q:Unit->XT->Prop}(I:ZD X pins σ H s)(e:H a=some (.ins C dx fs))(c:UH X.K C)(n:ZW X.K C f)(hl:fs.length < 1000)(ry:ZG y u)(h:∀s',ZD X pins σ (upd H a (.ins C dx (Zr f y fs))) s'->Q () s'):wpAny (model X.prog X.w) A (setAttr (.ref a) f u) Q E s:=by
 obtain⟨mA,O,r,wi,_,ho⟩:=BR I.hok e;have hz:(fs.map (·.1)).length<=sizeLine:=by rw[xA,sizeLine_eq];lia
 refine Re I.kIn O c.sa c.po n.taker c.hd wi hz fun h' O' sb=>h _ ?_;have hd:∃o,h'.get? dx=some o:=let ⟨o,_,_,e',_⟩:=O'.ns;⟨o,e'⟩
 refine I.write (x:=a) (e:=dx) (by rw[e];exact True.intro) (.inr ho) (fun b q hb z=>(sb.2 b hb).trans z) hd ?_;refine⟨by rw[Ze O.ne];exact ho,?_,O.ne,O'.obj,_,O'.ns,fun g=>?_,fun g hg=>?_⟩
 ·have:=Ag f y fs;lia
 ·show YN ((Zr f y fs).lookup g) (if g=f then some u else mA g);rw[Y5]
  by_cases q:g=f
  ·rw[if_pos q,if_pos q];exact ry
  ·rw[if_neg q,if_neg q];exact r g
 ·by_cases q:g=f
  ·rw[q];exact(DI f y fs).1
  ·refine(DI f y fs).2 g (wi g fun z=>hg ?_);show (if g=f then some u else mA g)=none;rw[if_neg q];exact z
theorem ZD.made(I:ZD X pins σ H s):ZD X pins σ (upd (upd H s.heap.objs.size (.own (s.heap.objs.size+1))) (s.heap.objs.size+1) (.ins C s.heap.objs.size []))
  {s with heap:=(s.heap.push PySem.W.emptyDict).push (PySem.W.instObj C s.heap.objs.size) }:=by
 have e1:(s.heap.push PySem.W.emptyDict).get? s.heap.objs.size=some PySem.W.emptyDict:=xV s.heap rfl;have e2:((s.heap.push PySem.W.emptyDict).push (PySem.W.instObj C s.heap.objs.size)).get? (s.heap.objs.size+1)=some (PySem.W.instObj C s.heap.objs.size):=by
  have:=xV (s.heap.push PySem.W.emptyDict) (o:=PySem.W.instObj C s.heap.objs.size) rfl
  rwa [zX] at this
 have e3:(s.heap.push PySem.W.emptyDict).Ns s.heap.objs.size (fun _=>none):=⟨PySem.W.emptyDict,#[],_,e1,rfl,(fun e he=>absurd he (by simp)),fun _=>rfl⟩;have I1:=I.laid (a:=s.heap.objs.size) (o:=.own (s.heap.objs.size+1)) (h':=s.heap.push PySem.W.emptyDict) (t':=s.toks) (fun b u q=>xG _ q) (xD _) ⟨_,e1⟩;refine I1.laid (a:=s.heap.objs.size+1) (o:=.ins C s.heap.objs.size []) (t':=s.toks) (fun b u q=>xG _ q) (Nat.le_of_eq (zX _ _)) ?_;have ne:s.heap.objs.size≠s.heap.objs.size+1:=yH (Nat.lt_succ_self _);refine⟨by rw[Ze ne,Zi],yN _,ne,e2,fun _=>none,(Heap.Ns1.of_empty e3).at fun o q=>xG _ q,fun _=>True.intro,fun y hy=>absurd rfl hy⟩
theorem RX(hb:attributeBase e f env (eval e env)=eval e env)(h:wpAny (model prog w) A (eval e env) (fun o s₁=>wpAny (model prog w) A (getAttr o f true) Q E s₁) E s):wpAny (model prog w) A (eval (.Attribute e f pos) env) Q E s :=
 Attribute_any_ h (by rw[arm_eval_Attribute,hb])
end
inductive BA(K:uFg)(f:Str)(Q:VK)(x:V)(H1:Hp):Prop
 |mk(a C dx fs v)(_:x = .ref a)(_:H1 a=some (.ins C dx fs))(_:UH K C)(_:ZW K C f)(_:fs.lookup f=some v)(_:Q v H1)
def DZ(K:uFg)(ta:TE)(f:Str):TE:=fun σ H Q=>ta σ H fun x H1=>BA K f Q x H1
inductive sFld_(K:uFg)(f:Str)(D:YE)(σ:St)(y x:V)(H2:Hp):Prop
 |mk(a C dx fs)(_:x = .ref a)(_:H2 a=some (.ins C dx fs))(_:UH K C)(_:ZW K C f)(_:fs.length < 1000)(_:D.nx σ (upd H2 a (.ins C dx (Zr f y fs))))
def KM(K:uFg)(ta tv:TE)(f:Str):TS:=fun D σ H=>tv σ H fun y H1=>ta σ H1 fun x H2=>sFld_ K f D σ y x H2
theorem FH(he:PE X e ta)(hb:attributeBase e f X.env (eval e X.env)=eval e X.env):PE X (.Attribute e f pos) (DZ X.K ta f):=by
 intro pins s σ H Q I h;refine RX hb (thn (he pins s σ H _ I h) fun u s1 ⟨x,H1,I1,rx,a,C,dx,fs,v,ex,ea,c,n,l,q⟩=>?_);subst ex;obtain rfl:u=Value.ref a:=rx;exact LB I1 ea c n l fun u' s2 I2 ru=>⟨v,H1,I2,ru,q⟩
section
variable{X:Cx}{pins:List (XW×Obj)}{σ:St}{H:Hp}{s:XT}{A:XZ}{E:XM}{Q:XM}{c:XU}{b:Bool}
inductive YV (K:uFg) (H:Hp):V->XU->Prop where
 | non:YV K H .non (.type "NoneType")
 | bl (x:Bool):YV K H (.bl x) (.type "bool")
 | int (i:Int):YV K H (.int i) (.type "int")
 | str (x:Str):YV K H (.str x) (.type "str")
 | flt (x:UInt64):YV K H (.flt x) (.type "float")
 | lst {a:XW}{xs:aG}(e:H a=some (.lst xs)):YV K H (.ref a) (.type "list")
 | frz {a:XW}{o:Obj}{xs:aG}(e:H a=some (.frz o (.lst xs))):YV K H (.ref a) (.type "list")
 | tup {a:XW}{xs:aG}(e:H a=some (.tup xs)):YV K H (.ref a) (.type "tuple")
 | dK {a:XW}{kvs:List (ZU×V)}(e:H a=some (.dK kvs)):YV K H (.ref a) (.type "dict")
 | dT {a:XW}{kvs:List (List ZU×V)}(e:H a=some (.dT kvs)):YV K H (.ref a) (.type "dict")
 | ins {a C dx:XW}{fs:List (Str×V)}(e:H a=some (.ins C dx fs)) (cl:UH K C) (ha:PySem.W.findIn K (.ref C) "__class__" = some (some (.builtin "object.__class__")))
   (hn:PySem.W.specialIn K (.builtin "object.__class__") "__get__" = some (some (.builtin "getset_descriptor.__get__"))) (htk:PySem.W.takesIn K (.builtin "object.__class__")=some true)
   (hm:PySem.W.mroIn K C (.type "object")=some true):YV K H (.ref a) (.ref C)
theorem SU{x:V}{u t:XU}(I:ZD X pins σ H s)(rx:ZG x u)(ty:YV X.K H x t)(e:PySem.W.kitOne X.K t c=some b)(h:∀tk,Q (.bool b) {s with toks:=tk }) :
  wpAny (model X.prog X.w) A (call (.builtin "isinstance") [u,c]) Q E s:=by
 cases ty with
 | non=>cases (show u=Value.none from rx);exact PySem.W.kia_one PySem.W.kitx_none I.kIn True.intro e (fun z=>nomatch z) h
 | bl y=>cases (show u=Value.bool y from rx);exact PySem.W.kia_one PySem.W.kitx_bool I.kIn True.intro e (fun z=>nomatch z) h
 | int i=>obtain⟨t,q⟩:=(show ∃t,u=Value.int i t from rx);cases q;exact PySem.W.kia_one PySem.W.kitx_int I.kIn True.intro e (fun z=>nomatch z) h
 | str y=>obtain⟨t,q⟩:=(show ∃t,u=Value.str y t from rx);cases q;exact PySem.W.kia_one PySem.W.kitx_str I.kIn True.intro e (fun z=>nomatch z) h
 | flt y=>obtain⟨t,q⟩:=(show ∃t,u=Value.float y t from rx);cases q;exact PySem.W.kia_one PySem.W.kitx_float I.kIn True.intro e (fun z=>nomatch z) h
 | @lst a xs ea =>
  cases (show u=Value.ref a from rx);obtain⟨_,_,n,_,h1⟩:=(show ZO X.prog X.w H s.heap a (.lst xs) from I.hok a _ ea);exact PySem.W.kia_one PySem.W.kitx_list I.kIn ⟨_,h1,rfl⟩ e (fun z=>nomatch z) h
 | @frz a ob xs ea =>
  cases (show u=Value.ref a from rx);obtain⟨_,_,_,n,_,h1⟩:=(show ZO X.prog X.w H s.heap a (.frz ob (.lst xs)) from I.hok a _ ea);exact PySem.W.kia_one PySem.W.kitx_list I.kIn ⟨_,h1,rfl⟩ e (fun z=>nomatch z) h
 | @tup a xs ea =>
  cases (show u=Value.ref a from rx);obtain⟨_,_,_,p⟩:=(show ZO X.prog X.w H s.heap a (.tup xs) from I.hok a _ ea);obtain⟨o,h1,h2,_⟩:=p;exact PySem.W.kia_one PySem.W.kitx_tuple I.kIn ⟨o,h1,h2⟩ e (fun z=>nomatch z) h
 | @dK a kvs ea =>
  cases (show u=Value.ref a from rx);obtain⟨_,_,vs,_,p⟩:=(show ZO X.prog X.w H s.heap a (.dK kvs) from I.hok a _ ea);obtain⟨o,es,ep,h1,h2,_⟩:=p;exact PySem.W.kia_one PySem.W.kitx_dict I.kIn ⟨o,h1,h2.1⟩ e (fun z=>nomatch z) h
 | @dT a kvs ea =>
  cases (show u=Value.ref a from rx);obtain⟨_,_,xs,_,o,es,ep,h1,h2,_⟩:=(show ZO X.prog X.w H s.heap a (.dT kvs) from I.hok a _ ea);exact PySem.W.kia_one PySem.W.kitx_dict I.kIn ⟨o,h1,h2.1⟩ e (fun z=>nomatch z) h
 | @ins a C dx fs ea cl ha hn htk hm =>
  cases (show u=Value.ref a from rx);obtain⟨mA,O,_⟩:=BR I.hok ea;obtain⟨od,J,_⟩:=O.look;exact PySem.W.kia_one (PySem.W.kitx_own (cl.get _) cl.hd ha hn htk hm) I.kIn J e (fun z=>nomatch z) h
end
structure ZM (k:Nat) (A:XZ):Prop where
 hd:A.handled=none
 dp:A.depth+3 * k+5 < recursionLimit
 un:A.units+16 * k+200 < cLine
theorem ZM.mono(r:ZM k A)(h:j<=k):ZM j A:=⟨r.hd,by have:=r.dp;lia,by have:=r.un;lia⟩
theorem ZM.deeper(r:ZM (k+1) A)(env:Env):ZM k (A.deeper env) :=
 ⟨r.hd,by have:=r.dp;show A.depth+1+3 * k+5 < _;lia,by have:=r.un;show A.units+3+16 * k+200 < _;lia⟩
theorem OW{A:XZ}{C:XW}{us:XQ}{kw:List (Str×XU)}:(A.under (.builtin "type.__call__" ⟨.ref C::us,kw⟩)).depth=A.depth+1:=by
 first | rfl | simp[Around.under,Code.weight,Code.isCreation,Code.isGuard,Code.isCaller,Code.frames,Code.isFrame,guardIds]
theorem Md{A:XZ}{C:XW}{us:XQ}{kw:List (Str×XU)}:(A.under (.builtin "type.__call__" ⟨.ref C::us,kw⟩)).units=A.units+1:=by
 first | rfl | simp[Around.under,Code.cUnits,Code.frames,Code.isFrame]
theorem ZM.make(r:ZM (k+1) A)(C:XW)(us:XQ)(kw:List (Str×XU)):ZM k (A.under (.builtin "type.__call__" ⟨.ref C::us,kw⟩)) :=
 ⟨r.hd,by have:=r.dp;rw[OW];lia,by have:=r.un;rw[Md];lia⟩
theorem ZM.depth(r:ZM k A):A.depth < recursionLimit:=by have:=r.dp;lia
theorem ZM.units(r:ZM k A):A.units+64 < cLine:=by have:=r.un;lia
def Vr:TA:=fun _ H Q=>Q [] H
def Ui(ta:TE)(tr:TA):TA:=fun σ H Q=>ta σ H fun x H1=>tr σ H1 fun xs H2=>Q (x::xs) H2
section
variable{t:TA}
def SC(t:TA):TE:=fun σ H Q=>t σ H fun xs H1=>xs.length<=sizeLine/\∀p,H1 p=none->Q (.ref p) (upd H1 p (.tup xs))
def Rt(t:TA):TE:=fun σ H Q=>t σ H fun xs H1=>xs.length<=sizeLine/\∀p,H1 p=none->Q (.ref p) (upd H1 p (.lst xs))
end
abbrev Sp:=List V->Hp->VK->XK->Prop
abbrev UT:=List Env->Hp->XT->XK->XU->XT->Prop
structure UC (P:XX) (w:XY) (K:uFg) (mg:XN) (base:Heap) (A:XZ) (outer:List Env) (s:XT) (H:Hp):Prop where
 frames:A.frames=some outer
 mod:Mod K mg base
 bs:∀b o,base.get? b=some o->s.heap.get? b=some o/\H b=none
 bsz:base.objs.size<=s.heap.objs.size
 funs:s.heap.FunFrames base outer
 frf:∀b∈frs outer,H b=none
 hok:YQ P w H s.heap
 bare:AllBare s.gens
def CE(outer:List Env)(P:XX)(w:XY)(H:Hp)(s:XT)(Q:VK)(u:XU)(s':XT):Prop :=
 ∃v H',s'.os=s.os/\AllBare s'.gens/\Un (frs outer) [] H H' s.heap s'.heap/\YQ P w H' s'.heap/\ZG v u/\Q v H'
def CR(CX:UT)(outer:List Env)(P:XX)(w:XY)(H:Hp)(s:XT)(Q:VK)(E:XK)(r:Result)(s':XT):Prop :=
 match r with
 | .ok (.ret u)=>CE outer P w H s Q u s'
 | .ok _=>False
 | .error e=>CX outer H s E e s'
structure YF (P:XX) (w:XY) (K:uFg) (mg:XN) (base:Heap) (CX:UT) (k:Nat) (f:XW) (fd:FuncData) (ps:XO) (sp:Sp):Prop where
 len:∀vs H Q E,sp vs H Q E->vs.length=ps.length
 run:∀(A:XZ)(outer:List Env)(s:XT)(H:Hp)(args:Args)(us:XQ)(vs:aG)(Q:VK)(E:XK),ZM k A->UC P w K mg base A outer s H->BindsTo s fd args (ps.zip us)->ZH vs us->sp vs H Q E ->
  codeAny (model P w) A (.call (.ref f) args) (CR CX outer P w H s Q E) s
theorem YF.mono{P:XX}{w:XY}{K:uFg}{mg:XN}{base:Heap}{CX:UT}{j k:Nat}{f:XW}{fd:FuncData}{ps:XO}{sp:Sp}(F:YF P w K mg base CX j f fd ps sp)(h:j<=k) :
  YF P w K mg base CX k f fd ps sp:=⟨F.len,fun A outer s H args us vs Q E hr=>F.run A outer s H args us vs Q E (hr.mono h)⟩
theorem UC.make{P:XX}{w:XY}{K:uFg}{mg:XN}{base:Heap}{A:XZ}{outer:List Env}{s:XT}{H:Hp}(e:UC P w K mg base A outer s H)(C:XW)(us:XQ)(kw:List (Str×XU)) :
  UC P w K mg base (A.under (.builtin "type.__call__" ⟨.ref C::us,kw⟩)) outer s H:=⟨by first | exact e.frames | (simpa [Around.under,Code.envs,Code.isFrame,pushEnvs] using e.frames),e.mod,e.bs,e.bsz,e.funs,e.frf,e.hok,e.bare⟩
section
variable{X:Cx}{pins:List (XW×Obj)}{σ:St}{H:Hp}{s s':XT}
theorem ZD.env0(I:ZD X pins σ H s):UC X.prog X.w X.K X.mg X.base X.A X.stack s H :=
 ⟨I.ok.frames,I.ok.mod,I.bs,yC I.ok.bsz I.sz,I.stack,I.stkFree,I.hok,I.bare⟩
theorem ZD.after{Q:VK}{u:XU}(I:ZD X pins σ H s)(h:CE X.stack X.prog X.w H s Q u s'):EP X pins σ Q u s':=by
 obtain⟨v,H',os,bare,un,hok,r,q⟩:=h;obtain⟨hh,g,d,t,os'⟩:=s';obtain rfl:os'=s.os:=os;exact⟨v,H',I.call (h':=hh) (g':=g) (d':=d) (t':=t) (ch:=[]) un hok bare (fun b z=>absurd z (by simp)),r,q⟩
end
def DV(sp:Sp)(dvs:aG)(E:XK)(t:TA):TE:=fun σ H Q=>t σ H fun vs H1=>sp (vs++dvs) H1 Q E
inductive Aq(C:XW)(m:Str)(sp:Sp)(dvs:aG)(E:XK)(t:TA)(σ:St)(Q:VK)(x:V)(H1:Hp):Prop
 |mk(a dx fs)(_:x = .ref a)(_:H1 a=some (.ins C dx fs))(_:fs.lookup m=none)(_:t σ H1 fun vs H2=>sp (x::(vs++dvs)) H2 Q E)
def Cy(C:XW)(m:Str)(sp:Sp)(dvs:aG)(E:XK)(ta:TE)(t:TA):TE:=fun σ H Q=>ta σ H fun x H1=>Aq C m sp dvs E t σ Q x H1
def HL(C:XW)(sp:Sp)(dvs:aG)(E:XK)(t:TA):TE:=fun σ H Q=>t σ H fun vs H1=>∀x dx,H1 x=none->H1 dx=none->dx≠x ->
 sp (.ref x::(vs++dvs)) (upd (upd H1 dx (.own x)) x (.ins C dx [])) (fun v H2=>v = .non/\Q (.ref x) H2) E
def YK(K:uFg)(fd:FuncData)(ps:XO)(ds:XQ):Prop :=
 ∀s us,K.In s.heap->(us++ds).length=ps.length->BindsTo s fd ⟨us,[]⟩ (ps.zip (us++ds))
theorem YK.all{K:uFg}{fd:FuncData}{ps:XO}(h:∀us:List XU,us.length=ps.length->bindArgs fd ⟨us,[]⟩=pure (ps.zip us)):YK K fd ps []:=fun s us _ hl=>by
 rw[yD] at hl ⊢;exact .of_eq (h us hl)
def AA(CX:UT)(X:Cx)(E:XK):Prop:=∀(pins:List (XW×Obj))(σ:St)(H:Hp)(s:XT)(e:XU)(s':XT),ZD X pins σ H s->CX X.stack H s E e s'->X.xe e s'
section
variable{X:Cx}{CX:UT}{k:Nat}{f C:XW}{fd:FuncData}{ps:XO}{sp:Sp}{dvs:aG}{ds:XQ}{E:XK}{x m:Str}{p pos apos:Pos}{e o:Expr}{es:List Expr}{ta:TE}{t:TA}
theorem Du{pins:List (XW×Obj)}{σ:St}{H:Hp}{s:XT}{Q:VK}{us:XQ}{vs:aG}(F:YF X.prog X.w X.K X.mg X.base CX k f fd ps sp)(hr:ZM k X.A)(hb:YK X.K fd ps ds)(hd:ZH dvs ds)(hx:AA CX X E)(I:ZD X pins σ H s)(r:ZH vs us)(h:sp (vs++dvs) H Q E):wpAny (model X.prog X.w) X.A (call (.ref f) us) (EP X pins σ Q) X.xe s:=by
 have r2:ZH (vs++dvs) (us++ds):=r.append hd;have hl:(us++ds).length=ps.length:=by rw[← r2.length];exact F.len _ _ _ _ h
 refine wpAny_call (codeAny_mono (F.run X.A X.stack s H ⟨us,[]⟩ (us++ds) (vs++dvs) Q E hr I.env0 (hb s us I.kIn hl) r2 h) fun r s' hq=>?_);cases r with
 | error e=>exact hx pins σ H s e s' I hq
 | ok fl =>
  cases fl with
  | ret u=>exact I.after hq
  | next=>exact False.elim hq
  | brk=>exact False.elim hq
  | cont=>exact False.elim hq
theorem Rc(F:YF X.prog X.w X.K X.mg X.base CX k f fd ps sp)(hr:ZM k X.A)(hg:Gl X x)(hm:X.mg x=some (.ref f))(hk:PySem.W.keepIn X.K (.ref f)=true)(hb:YK X.K fd ps ds)(hd:ZH dvs ds)(hx:AA CX X E)(ha:PA X (e::es) t)(hdb:(x == ("__debug__" : Str))=false:=by decide)(he:starEach (e::es) X.env=(false,eval e X.env)::starEach es X.env:=by rfl)(hpl:(backTo pos (starEach es X.env)).any (·.1)=false:=by rfl) :
  PE X (.Call (.Name x p) (e::es) [] pos) (DV sp dvs E t):=by
 intro pins s σ H Q I h;refine wpAny_Call_Name_kw (AO I hg hm ?_ hdb);refine PySem.W.callWith_K (h₀:=X.base) I.ok.mod.kin hk (thn (ha pos pins s σ H _ I h) fun us s1 ⟨vs,H1,I1,r,q⟩=>⟨I1.kIn,?_⟩) he hpl;exact Du F hr hb hd hx I1 r q
theorem R0{pl:Sem Bool}(he:PE X o ta)(c:UH X.K C)(hm:To X.K C m f)(F:YF X.prog X.w X.K X.mg X.base CX k f fd ps sp)(hr:ZM k X.A)(hb:YK X.K fd ps ds)(hd:ZH dvs ds)(hx:AA CX X E)(ha:PA X (e::es) t)(hst:starEach (e::es) X.env=(false,eval e X.env)::starEach es X.env:=by rfl)(hpl:(backTo pos (starEach es X.env)).any (·.1)=false:=by rfl)(ht:eval (.Call (.Attribute o m apos) (e::es) [] pos) X.env=(do
   let ov ← eval o X.env
   standAt apos.atName
   let (f,first) ← holding [ov] (getMethod ov m pl)
   callWith pos f first (backTo pos (starEach (e::es) X.env)) (backToKw pos (keywordEach [] X.env))):=by rfl) :
  PE X (.Call (.Attribute o m apos) (e::es) [] pos) (Cy C m sp dvs E ta t):=by
 intro pins s σ H Q I h;refine PySem.W.methodCall_KW (pl:=pl) (thn (he pins s σ H _ I h) fun u s1 ⟨x,H1,I1,rx,a,dx,fs,ex,ea,l,q⟩=>?_) ht;subst ex;obtain rfl:u=Value.ref a:=rx;refine Cn I1 ea c hm l ?_;refine PySem.W.callWith_K (first:=[.ref a]) (h₀:=X.base) I.ok.mod.kin hm.kp (thn (ha pos pins s1 σ H1 _ I1 q) fun us s2 ⟨vs,H2,I2,r,q2⟩=>⟨I2.kIn,?_⟩) hst hpl;exact Du (us:=.ref a::us) (vs:=.ref a::vs) F hr hb hd hx I2 (.cons rfl r) q2
theorem Mq(he:PE X o ta)(c:UH X.K C)(hm:To X.K C m f)(F:YF X.prog X.w X.K X.mg X.base CX k f fd ps sp)(hr:ZM k X.A)(hb:YK X.K fd ps ds)(hd:ZH dvs ds)(hx:AA CX X E)(ht:eval (.Call (.Attribute o m apos) [] [] pos) X.env=(do
   let ov ← eval o X.env
   standAt apos.atName
   let (f,first) ← holding [ov] (getMethod ov m pl)
   callWith pos f first (backTo pos (starEach [] X.env)) (backToKw pos (keywordEach [] X.env))):=by rfl) :
  PE X (.Call (.Attribute o m apos) [] [] pos) (Cy C m sp dvs E ta Vr):=by
 intro pins s σ H Q I h;refine PySem.W.methodCall_KW (pl:=pl) (thn (he pins s σ H _ I h) fun u s1 ⟨x,H1,I1,rx,a,dx,fs,ex,ea,l,q⟩=>?_) ht;subst ex;obtain rfl:u=Value.ref a:=rx;refine Cn I1 ea c hm l ?_;exact PySem.W.callWith_K0 (first:=[.ref a]) I1.kIn hm.kp (Du (us:=[.ref a]) (vs:=[.ref a]) F hr hb hd hx I1 (.cons rfl .nil) q)
structure Mk (K:uFg) (C f:XW):Prop where
 makes:PySem.W.makesIn K C=true
 init:PySem.W.findIn K (.ref C) "__init__" = some (some (.ref f))
 fn:PySem.W.isFn K (.ref f)=true
 kp:PySem.W.keepIn K (.ref C)=true
theorem RL{pins:List (XW×Obj)}{σ:St}{H:Hp}{s:XT}{Q:VK}{us:XQ}{vs:aG}(M:Mk X.K C f)(F:YF X.prog X.w X.K X.mg X.base CX k f fd ps sp)(hr:ZM (k+1) X.A)(hb:YK X.K fd ps ds)(hd:ZH dvs ds)(hx:AA CX X E)(I:ZD X pins σ H s)(r:ZH vs us)(h:∀x dx,H x=none->H dx=none->dx≠x->sp (.ref x::(vs++dvs)) (upd (upd H dx (.own x)) x (.ins C dx [])) (fun v H2=>v = .non/\Q (.ref x) H2) E) :
  wpAny (model X.prog X.w) X.A (call (.ref C) us) (EP X pins σ Q) X.xe s:=by
 have hq:=h (s.heap.objs.size+1) s.heap.objs.size (I.hok.fresh (Nat.le_succ _)) (I.hok.fresh (xD _)) (yH (Nat.lt_succ_self _));have I2:=ZD.made (C:=C) I;have r2:ZH (V.ref (s.heap.objs.size+1)::(vs++dvs)) (Value.ref (s.heap.objs.size+1)::(us++ds)):=.cons rfl (r.append hd);have hl:(Value.ref (s.heap.objs.size+1)::us++ds).length=ps.length:=by
  have e:=r2.length;rw[F.len _ _ _ _ hq] at e;exact e.symm
 refine wpAny_call (Rv (f:=f) I.kIn M.makes M.init (beq_iff_eq.mp M.fn) (codeAny_mono (F.run _ X.stack _ _ ⟨Value.ref (s.heap.objs.size+1)::us,[]⟩ (Value.ref (s.heap.objs.size+1)::(us++ds)) _ _ E (hr.make C us []) (I2.env0.make C us []) (hb _ (Value.ref (s.heap.objs.size+1)::us) I2.kIn hl) r2 hq) fun r s' hq'=>?_));cases r with
 | error e=>exact hx pins σ _ _ e s' I2 hq'
 | ok fl =>
  cases fl with
  | ret u =>
   obtain⟨v,H',I3,rv,ev,q3⟩:=I2.after hq';subst ev;exact⟨rv,⟨V.ref (s.heap.objs.size+1),H',I3,rfl,q3⟩⟩
  | next=>exact False.elim hq'
  | brk=>exact False.elim hq'
  | cont=>exact False.elim hq'
theorem So(M:Mk X.K C f)(F:YF X.prog X.w X.K X.mg X.base CX k f fd ps sp)(hr:ZM (k+1) X.A)(hg:Gl X x)(hm:X.mg x=some (.ref C))(hb:YK X.K fd ps ds)(hd:ZH dvs ds)(hx:AA CX X E)(hdb:(x == ("__debug__" : Str))=false:=by decide):PE X (.Call (.Name x p) [] [] pos) (HL C sp dvs E Vr):=by
 intro pins s σ H Q I h;refine wpAny_Call_Name_kw (AO I hg hm ?_ hdb);exact PySem.W.callWith_K0 I.kIn M.kp (RL (us:=[]) M F hr hb hd hx I .nil h)
end
section
variable{X:Cx}{CX:UT}{k:Nat}{f:XW}{fd:FuncData}{ps ks:XO}{sp:Sp}{E:XK}{x:Str}{p pos:Pos}{e:Expr}{es:List Expr}{kws:List Keyword}{t tk:TA}
variable{g:List XU->List XU->List XU}{gV:List V->List V->List V}
end
structure ZL (N P:XO) (sc:Scope):Prop where
 kind:sc.kind = .function
 co:sc.isCoroutine=false
 gen:sc.isGenerator=false
 nd:N.Nodup
 pre:N.take P.length=P
 par:∀x∈P,sc.names.lookup x=some .local\/sc.names.lookup x=some .cell
 nofree:∀y∈sc.names,y.2 ≠ .free
theorem IQ{kindOf:Str->Option NameKind}{x:Str}:∀{binds:List (Str×XU)}{m:XN},(∀v,(x,v)∉binds)->bindL kindOf binds m x=m x
 | [],_,_=>rfl
 | (n,v)::r,m,h=>by
  unfold bindL;rw[IQ fun w hw=>h w (xN _ hw)];split
  ·have:x≠n:=by rintro rfl;exact h v xY
   simp[this]
  ·rfl
theorem GX{kindOf:Str->Option NameKind}{x:Str}:∀{binds:List (Str×XU)}{m:XN},(∀v,(x,v)∉binds)->bindC kindOf binds m x=m x
 | [],_,_=>rfl
 | (n,v)::r,m,h=>by
  unfold bindC;rw[GX fun w hw=>h w (xN _ hw)];split
  ·rfl
  ·have:x≠n:=by rintro rfl;exact h v xY
   simp[this]
theorem FC{kindOf:Str->Option NameKind}{x:Str}{v:XU}:∀{P:XO}{vs:XQ}{i:Nat}{m:XN},P.Nodup->P[i]? = some x->vs[i]? = some v->kindOf x=some .local ->
  bindL kindOf (P.zip vs) m x=some v
 | [],_,_,_,_,h,_,_=>by simp at h
 | _::_,[],_,_,_,_,h,_=>by simp at h
 | p::P,w::vs,0,m,nd,h1,h2,hk=>by
  simp at h1 h2;subst h1;subst h2;show bindL kindOf ((p,w)::P.zip vs) m p=_;unfold bindL;rw[IQ fun v hv=>(yG.mp nd).1 (yY hv).1,if_pos hk];simp
 | p::P,w::vs,i+1,m,nd,h1,h2,hk=>by
  show bindL kindOf ((p,w)::P.zip vs) m x=_;unfold bindL;exact FC (i:=i) (yG.mp nd).2 (by simpa using h1) (by simpa using h2) hk
theorem GN{kindOf:Str->Option NameKind}{x:Str}{v:XU}:∀{P:XO}{vs:XQ}{i:Nat}{m:XN},P.Nodup->P[i]? = some x->vs[i]? = some v->kindOf x≠some .local ->
  bindC kindOf (P.zip vs) m x=some v
 | [],_,_,_,_,h,_,_=>by simp at h
 | _::_,[],_,_,_,_,h,_=>by simp at h
 | p::P,w::vs,0,m,nd,h1,h2,hk=>by
  simp at h1 h2;subst h1;subst h2;show bindC kindOf ((p,w)::P.zip vs) m p=_;unfold bindC;rw[GX fun v hv=>(yG.mp nd).1 (yY hv).1,if_neg hk];simp
 | p::P,w::vs,i+1,m,nd,h1,h2,hk=>by
  show bindC kindOf ((p,w)::P.zip vs) m x=_;unfold bindC;exact GN (i:=i) (yG.mp nd).2 (by simpa using h1) (by simpa using h2) hk
def start(N:XO)(vs:aG):St:=vs.map some++List.replicate (N.length - vs.length) none
def Y3(CX:UT)(P:XX)(w:XY)(K:uFg)(mg:XN)(base:Heap)(N:XO)(qual:Str)(scope:Scope)(f:XW)(cd:XU)(A:XZ)(outer:List Env)(s:XT)(H:Hp)(E:XK):Cx where
 prog:=P
 w:=w
 K:=K
 mg:=mg
 base:=base
 A:=A.deeper (envOfC qual scope s.heap.objs.size f cd)
 N:=N
 s₀:=s
 H₀:=H
 env:=envOfC qual scope s.heap.objs.size f cd
 outer:=outer
 stack:=envOfC qual scope s.heap.objs.size f cd::outer
 ex:=[]
 calm:=true
 fn:=fun _=>true
 pn:=[]
 xe:=fun e s'=>wpAny (model P w) (A.deeper (envOfC qual scope s.heap.objs.size f cd)) (leaving (envOfC qual scope s.heap.objs.size f cd) e) (fun _ s''=>CX outer H s E e s'') (fun e' s''=>CX outer H s E e' s'') s'
theorem GK{sc:Scope}{n:Nat}{x:Str}(h:sc.names.lookup x=some .cell):∃c,(cellsFrom n sc.names []).lookup x=some c:=by
 have q:=PySem.W.cellsFrom_some sc.names n [] (.inl h);exact Option.isSome_iff_exists.mp q
theorem Kn{CX:UT}{P:XX}{w:XY}{K:uFg}{mg:XN}{base:Heap}{N ps:XO}{qual:Str}{scope:Scope}{f:XW}{cd:XU}{A:XZ}{outer:List Env}{s s1:XT}{H:Hp}{E:XK}{us:XQ}{vs:aG}(S:ZL N ps scope)(hd:A.handled=none)(e0:UC P w K mg base A outer s H)(hl:vs.length=ps.length)(r:ZH vs us)(x:InCallC s s.heap.objs.size (bindL (envOfC qual scope s.heap.objs.size f cd).kindOf (ps.zip us) fun _=>none) (cellsFrom (s.heap.objs.size+1) scope.names []) (bindC (envOfC qual scope s.heap.objs.size f cd).kindOf (ps.zip us) fun _=>none) s1) :
  ZD (Y3 CX P w K mg base N qual scope f cd A outer s H E) [] (start N vs) H s1:=by
 have hpl:ps.length<=N.length:=by have:=congrArg List.length S.pre;rw[xT] at this;lia
 obtain⟨h1,tk,rfl,hk⟩:=x.done;have noA:∀b:XW,b∉(Y3 CX P w K mg base N qual scope f cd A outer s H E).ex:=fun b z=>absurd (show b∈([]:XS) from z) (by simp);refine⟨⟨e0.mod,S.kind,rfl,rfl,xD _,fun y z c h1 h2=>?_,fun y hy=>?_,fun y c _ h=>?_,fun _=>hd,Around.frames_deeper e0.frames,.inr ⟨rfl,rfl⟩,fun b z=>absurd z (noA b),e0.bs,e0.bsz,fun b _ _=>noA b,fun b z=>absurd z (noA b),e0.funs,e0.frf⟩, rfl,e0.bare,Un.kept hk,⟨_,x.toInCall.ns,fun i y v h1 h2 h3=>?_⟩,fun y c h=>⟨_,x.cell y c h⟩,e0.hok.fresh (xD _),fun y c h=>?_,fun p hp=>absurd (show p∈([]:List (XW×Obj)) from hp) (by simp),e0.hok.kept hk,?_⟩
 ·exact name_of_addr x.apart (PySem.mem_of_lookup h1) (PySem.mem_of_lookup h2)
 ·have hy:scope.names.lookup y=some .cell\/scope.names.lookup y=some .free:=hy;rcases hy with hy | hy
  ·exact GK hy
  ·exact absurd rfl (S.nofree _ (PySem.mem_of_lookup hy))
 ·exact zD (x.above y c (PySem.mem_of_lookup h))
 ·have hi:i < vs.length:=by
   unfold start at h2
   by_cases hi:i < vs.length
   ·exact hi
   ·grind
  have ha:vs[i]? = some v:=by
   unfold start at h2;rw[zV (by simpa using hi),xE] at h2;cases e:vs[i]? with
   | none=>rw[e] at h2;cases h2
   | some a=>rw[e] at h2;cases h2;rfl
  obtain⟨u,hu,rv⟩:=r.get ha;have hp:ps[i]? = some y:=by
   rw[← S.pre,List.getElem?_take_of_lt (by lia)];exact h1
  have ndP:ps.Nodup:=by rw[← S.pre];exact S.nd.sublist (List.take_sublist _ _)
  refine⟨u,rv,?_⟩;rcases S.par y (xM hp) with k | k
  ·exact .inl ⟨k,FC ndP hp hu k⟩
  ·obtain⟨c,e⟩:=GK (n:=s.heap.objs.size+1) k;refine .inr ⟨.inl k,c,e,?_⟩;have q:=x.cell y c e;rw[GN ndP hp hu (by show scope.names.lookup y≠_;rw[k];decide)] at q;exact q
 ·exact e0.hok.fresh (zD (x.above y c (PySem.mem_of_lookup h)))
 ·unfold start;show _=N.length;rw[xF,xA,zP];lia
theorem IM{CX:UT}{P:XX}{w:XY}{K:uFg}{mg:XN}{base:Heap}{k:Nat}{f:XW}{name qual:Str}{params:Arguments}{body:List Stmt}{scope:Scope}{dV kV doc pm cdv ct oc:XU}{an od:Option XW}{osl:Array (Option XU)}{N ps:XO}{sp:Sp}(lk:K.lookup f=some ⟨oc,od,.func (PySem.W.fnOf name qual params body scope dV kV doc pm an cdv ct),osl⟩)(hcd:PySem.W.codeIn K cdv qual=true)(S:ZL N ps scope)(len:∀vs H Q E,sp vs H Q E->vs.length=ps.length)(hbody:∀A outer s H vs Q E,ZM k (A.deeper (envOfC qual scope s.heap.objs.size f cdv))->sp vs H Q E -> ∃t,A9 (Y3 CX P w K mg base N qual scope f cdv A outer s H E) body t/\t {nx:=fun _ H'=>Q .non H',rt:=Q } (start N vs) H) :
  YF P w K mg base CX (k+1) f (PySem.W.fnOf name qual params body scope dV kV doc pm an cdv ct) ps sp:=by
 refine⟨len,fun A outer s H args us vs Q E hr e0 hb r hsp=>?_⟩;have hl:=len _ _ _ _ hsp;have KX:K.In s.heap:=e0.mod.kin.keeps fun b o e=>(e0.bs b o e).1;have lim:s.heap.NoLimit:=e0.mod.nolimit.keeps fun b o e=>(e0.bs b o e).1;have hkind:∀y∈ps.zip us,scope.names.lookup y.1=some .local\/(scope.names.lookup y.1=some .cell/\((cellsFrom (s.heap.objs.size+1) scope.names []).lookup y.1).isSome=true):=fun⟨n,v⟩ hy=>by
  rcases S.par n (yY hy).1 with q | q
  ·exact .inl q
  ·exact .inr ⟨q,PySem.W.cellsFrom_some _ _ _ (.inl q)⟩
 refine codeAny_call_function hr.depth (KX _ _ lk) rfl S.co S.gen rfl (PySem.W.codeRec_of KX hcd) (hb _ _ _ _ ?_);refine wpAny_newFunctionEnv_cells S.kind hkind fun env he s1 x=>?_;subst he;refine⟨lim.keeps x.toInCall.keep,codeAny_func ?_⟩;obtain⟨t,ht,hq⟩:=hbody A outer s H vs Q E (hr.deeper _) hsp;have I:ZD (Y3 CX P w K mg base N qual scope f cdv A outer s H E) [] (start N vs) H s1:=Kn S hr.hd e0 hl r x;refine wpAny_mono (ht [] s1 (start N vs) H _ I hq) (fun fl s' hs=>?_) fun e s' hs=>hs;have fin:∀{σ':St}{H':Hp}{v:V}{u:XU},ZD (Y3 CX P w K mg base N qual scope f cdv A outer s H E) [] σ' H' s'->ZG v u->Q v H'->CE outer P w H s Q u s' :=
  fun {σ' H' v u} J rv q=>⟨v,H',J.os,J.bare,J.base,J.hok,rv,q⟩
 cases fl with
 | ret u =>
  obtain⟨v,σ',H',J,rv,q⟩:=hs;exact fin J rv q
 | next =>
  obtain⟨σ',H',J,q⟩:=hs;exact fin (v:=V.non) (u:=Value.none) J rfl q
 | brk =>
  obtain⟨_,_,_,q⟩:=hs;exact False.elim q
 | cont =>
  obtain⟨_,_,_,q⟩:=hs;exact False.elim q
section
variable{X:Cx}{x:Str}{p pos:Pos}{e:Expr}{es:List Expr}{t:TA}{id:String}{r:List V->Hp->VK->Prop}
def Bf(r:List V->Hp->VK->Prop)(t:TA):TE:=fun σ H Q=>t σ H fun vs H1=>r vs H1 Q
theorem KU(hc:Jj X (.builtin id) r)(hg:Gl X x)(hm:X.mg x=none)(hv:bootBuiltins x=some (.builtin id))(ha:PA X (e::es) t)(hn:x ≠ "__name__" := by decide)(hdb:(x == ("__debug__" : Str))=false:=by decide)(he:starEach (e::es) X.env=(false,eval e X.env)::starEach es X.env:=by rfl)(hpl:(backTo pos (starEach es X.env)).any (·.1)=false:=by rfl):PE X (.Call (.Name x p) (e::es) [] pos) (Bf r t):=by
 intro pins s σ H Q I h;refine wpAny_Call_Name_kw (Uw I hg hm hv ?_ hn hdb);exact PyProof.Rows.callWith_builtin1 (thn (ha pos pins s σ H _ I h) fun us s1 ⟨vs,H1,I1,r1,q1⟩=>hc pins s1 σ H1 vs us Q I1 r1 q1) he hpl
theorem Pq(hc:Jj X (.type T) r)(hg:Gl X x)(hm:X.mg x=none)(hv:bootBuiltins x=some (.type T))(ha:PA X (e::es) t)(hn:x ≠ "__name__" := by decide)(hdb:(x == ("__debug__" : Str))=false:=by decide)(he:starEach (e::es) X.env=(false,eval e X.env)::starEach es X.env:=by rfl)(hpl:(backTo pos (starEach es X.env)).any (·.1)=false:=by rfl):PE X (.Call (.Name x p) (e::es) [] pos) (Bf r t):=by
 intro pins s σ H Q I h;refine wpAny_Call_Name_kw (Uw I hg hm hv ?_ hn hdb);exact PyProof.Rows.callWith_type1 (thn (ha pos pins s σ H _ I h) fun us s1 ⟨vs,H1,I1,r1,q1⟩=>hc pins s1 σ H1 vs us Q I1 r1 q1) he hpl
end
end L2
namespace HT
open PySem PyProof.Rows
section
open PySem.SeqAt
open PySem.AutoSeq1 (wpAny_loadPart')
open PySem.MeetsSeq PySem.MeetsSeq2 PySem.MeetsSeq3
end
def sIx(n d:Nat):Option Int->Nat
 | none=>d
 | some v=>if v < 0 then (v+(n:Int)).toNat else min v.toNat n
theorem sIx_none(n d:Nat):sIx n d none=d:=rfl
theorem sIx_nat(n d k:Nat):sIx n d (some (k:Int))=min k n:=by
 show (if (k:Int) < 0 then ((k:Int)+(n:Int)).toNat else min (k:Int).toNat n)=min k n;rw[if_neg (by lia),yP]
end HT
namespace L2
open PySem PySem.Spec PyProof.Rows
abbrev TO:=St->Hp->(Option Int->Hp->Prop)->Prop
def PO(X:Cx)(e:Option Expr)(t:TO):Prop :=
 ∀(pins:List (XW×Obj))(s:XT)(σ:St)(H:Hp)(Q:Option Int->Hp->Prop),ZD X pins σ H s->t σ H Q ->
  wpAny (model X.prog X.w) X.A (evalPart e X.env) (fun u s'=>∃o H',ZD X pins σ H' s'/\IsPart u o/\Q o H') X.xe s
def Mg:TO:=fun _ H Q=>Q none H
inductive AI(Q:Option Int->Hp->Prop)(x:V)(H1:Hp):Prop
 |mk(i)(_:x = .int i)(_:Q (some i) H1)
def MB(t:TE):TO:=fun σ H Q=>t σ H fun x H1=>AI Q x H1
section
variable{X:Cx}{te:TE}{lo hi:Option Expr}{tl th:TO}
def HW(X:Cx)(r:V->Option Int->Option Int->Hp->VK->Prop):Prop :=
 ∀(pins:List (XW×Obj))(s:XT)(σ:St)(H:Hp)(x:V)(v vl vu:XU)(lo hi:Option Int)(sl:XW)(Q:VK),ZD X pins σ H s->ZG x v->s.heap.IsSliceOf sl vl vu .none->IsPart vl lo->IsPart vu hi->r x lo hi H Q ->
  ∃T id,typeLookup (.type T) "__getitem__" = pure (some (.builtin id))/\s.TypeIs v T/\wpAny (model X.prog X.w) X.A (getItem v (.ref sl)) (EP X pins σ Q) X.xe s
def LS(r:V->Option Int->Option Int->Hp->VK->Prop)(te:TE)(tl th:TO):TE:=fun σ H Q=>te σ H fun x H1=>tl σ H1 fun l H2=>th σ H2 fun u H3=>r x l u H3 Q
def Ut(xs:aG)(lo hi:Option Int):List V:=(xs.drop (HT.sIx xs.length 0 lo)).take (HT.sIx xs.length xs.length hi - HT.sIx xs.length 0 lo)
theorem Po(xs:aG)(lo hi:Option Int):(Ut xs lo hi).length<=xs.length:=by
 unfold Ut;rw[xT,zY];lia
end
def ixN(n:Nat)(i:Int):Option Nat:=if 0<=i then (if i < n then some i.toNat else none) else if -(n:Int)<=i then some (i+n).toNat else none
def atI{α:Type}(xs:List α)(i:Int):Option α:=(ixN xs.length i).bind fun j=>xs[j]?
theorem Gk(h:ixN n i=some j):seqIndex? i n=some j/\j < n /\ -(n:Int)<=i/\i < n:=by
 unfold ixN at h
 by_cases h0 : 0<=i
 ·rw[if_pos h0] at h
  by_cases h1:i < n
  ·rw[if_pos h1] at h;have e:i.toNat=j:=Option.some.inj h;exact⟨by rw[seqIndex_of h0 h1,e],by lia,by lia,h1⟩
  ·rw[if_neg h1] at h;cases h
 ·rw[if_neg h0] at h
  by_cases h1 : -(n:Int)<=i
  ·rw[if_pos h1] at h;have e:(i+n).toNat=j:=Option.some.inj h;exact⟨by rw[seqIndex_neg (by lia) h1,e],by lia,h1,by lia⟩
  ·rw[if_neg h1] at h;cases h
theorem DL{α:Type}{xs:List α}{v : α}(h:atI xs i=some v):∃j,seqIndex? i xs.length=some j/\xs[j]? = some v/\j < xs.length /\ -(xs.length:Int)<=i/\i < xs.length:=by
 unfold atI at h;cases e:ixN xs.length i with
 | none=>rw[e] at h;cases h
 | some j =>
  rw[e] at h;obtain⟨h1,h2,h3,h4⟩:=Gk e;exact⟨j,h1,h,h2,h3,h4⟩
theorem Yu{α:Type}{xs:List α}{j:Nat}{v : α}(h:xs[j]? = some v):atI xs (j:Int)=some v:=by
 have hj:j < xs.length:=(xH.mp h).1;have e:ixN xs.length (j:Int)=some j:=by
  unfold ixN;rw[if_pos (by lia),if_pos (by lia)];simp
 unfold atI;rw[e];exact h
def XA(b:Expr):Prop:=∀o i,subscripted b false o i=operate [o,i] (getItem o i)
def C8(X:Cx)(r:R2):Prop :=
 ∀(value slice:Expr)(pins:List (XW×Obj))(s:XT)(σ:St)(H:Hp)(x y:V)(v u:XU)(Q:VK),ZD X pins σ H s->ZG x v->ZG y u->r x y H Q ->
  subscripted slice false v u=operate [v,u] (getItem v u)->wpAny (model X.prog X.w) X.A (subscriptTail value slice v u) (EP X pins σ Q) X.xe s
def GT(X:Cx)(id:String)(r:V->List V->Hp->VK->Prop):Prop :=
 ∀(pins:List (XW×Obj))(s:XT)(σ:St)(H:Hp)(x:V)(xs:aG)(v:XU)(us:XQ)(Q:VK),ZD X pins σ H s->ZG x v->ZH xs us->r x xs H Q ->
  wpAny (model X.prog X.w) X.A (call (.builtin id) (v::us)) (EP X pins σ Q) X.xe s
section
variable{X:Cx}{a b:Expr}
inductive Jz(K:uFg)(x y:V)(H:Hp)(Q:VK):Prop
 |mk(p xs i v)(_:x = .ref p)(_:y = .int i)(_:ZF K H p xs)(_:atI xs i=some v)(_:Q v H)
inductive Jx(K:uFg)(x y:V)(H:Hp)(Q:VK):Prop
 |mk(p xs i v)(_:x = .ref p)(_:y = .int i)(_:ZS K H p xs)(_:atI xs i=some v)(_:Q v H)
inductive Bt(x y:V)(H:Hp)(Q:VK):Prop
 |mk(z i c)(_:x = .str z)(_:y = .int i)(_:z.length<=sizeLine)(_:atI z.cps.toList i=some c)(_:Q (.str ⟨#[c]⟩) H)
theorem FY:C8 X (Jz X.K):=by
 intro value slice pins s σ H x y v u Q I rx ry h hs;obtain⟨p,xs,i,z,rfl,rfl,hq,he,q⟩:=h;cases rx;obtain⟨t,rfl⟩:=ry;obtain⟨its,r,pl,hz⟩:=I.list hq;obtain⟨j,h1,h2,h3,h4,h5⟩:=DL he;obtain⟨w,ew,rw'⟩:=r.get h2;have hl:=r.length;have hn:=Au;have fin:EP X pins σ Q w s:=⟨z,H,I,rw',q⟩
 by_cases h0 : 0<=i
 ·have hj:i.toNat=j:=by
   rw[seqIndex_of h0 h5] at h1;exact Option.some.inj h1
  exact item_listR pl.isList h0 (by lia) (by rw[hj];simpa using ew) fin hs
 ·have hj:(i+(its.toArray.size:Int)).toNat=j:=by
   rw[seqIndex_neg (by lia) h4] at h1;rw[xQ,← hl];exact Option.some.inj h1
  exact subscriptTail_builtinR (x:=w) pl.isList.typeIs slot_list_getitem.lookup
   (wpAny_getItem_list_neg (Q:=fun r s'=>r=w/\EP X pins σ Q r s') pl.isList (by lia) (by rw[xQ]<;>lia) (by lia) (by rw[hj];simpa using ew) ⟨rfl,fin⟩) hs
theorem FJ:C8 X (Jx X.K):=by
 intro value slice pins s σ H x y v u Q I rx ry h hs;obtain⟨p,xs,i,z,rfl,rfl,hq,he,q⟩:=h;cases rx;obtain⟨t,rfl⟩:=ry;obtain⟨its,r,pl,hz⟩:=I.tuple hq;obtain⟨j,h1,h2,h3,h4,h5⟩:=DL he;obtain⟨w,ew,rw'⟩:=r.get h2;have hl:=r.length;have hn:=Au;have fin:EP X pins σ Q w s:=⟨z,H,I,rw',q⟩;exact subscriptTail_builtinR (x:=w) pl.typeIs slot_tuple_getitem.lookup
  (getItem_tuple (j:=j) (Q:=fun r s'=>r=w/\EP X pins σ Q r s') pl (by lia) (by lia) (by rw[xQ,← hl];exact h1) (by simpa using ew) ⟨rfl,fin⟩) hs
theorem Lp:C8 X Bt:=by
 intro value slice pins s σ H x y v u Q I rx ry h hs;obtain⟨z,i,c,rfl,rfl,hz,he,q⟩:=h;obtain⟨t,rfl⟩:=rx;obtain⟨t',rfl⟩:=ry;obtain⟨j,h1,h2,h3,h4,h5⟩:=DL he;have hl:z.cps.toList.length=z.length:=by simp[Str.length]
 rw[hl] at h1 h4 h5;have hn:=Au
 exact tail_any (typeIs_str s z t) slot_str_getitem.lookup (getItem_str (c:=c) (by
  have e1:decide (i < -(2 ^ 63:Int))=false:=yZ (by lia);have e2:decide (i>=2 ^ 63)=false:=yZ (by lia)
  rw[e1,e2,Bool.or_false]) (by rw[h1];simpa using h2) ⟨.str ⟨#[c]⟩,H,I.tok _,⟨_,rfl⟩,q⟩) hs
theorem OY(its:XQ)(n j:Nat)(u:XU):Obj.mapSeq (·.setIfInBounds j u) {cls:=.type "list", data:=.seq its.toArray n }={cls:=.type "list", data:=.seq (its.set j u).toArray n }:=by
 simp[Obj.mapSeq]
theorem ZD.lst{pins:List (XW×Obj)}{σ:St}{H:Hp}{s:XT}{p:XW}{xs:aG}(I:ZD X pins σ H s)(h:H p=some (.lst xs)) :
  ∃its n,ZH xs its/\s.heap.get? p=some {cls:=.type "list", data:=.seq its.toArray n }/\xs.length<=sizeLine:=by
 obtain⟨z,its,n,r,e⟩:=I.hok p _ h;exact⟨its,n,r,e,z⟩
theorem ZD.lstUpd{pins:List (XW×Obj)}{σ:St}{H:Hp}{s:XT}{p:XW}{xs ys:aG}{its its':XQ}{n n':Nat}{f:Obj->Obj}(I:ZD X pins σ H s)(h:H p=some (.lst xs))(ho:s.heap.get? p=some {cls:=.type "list", data:=.seq its.toArray n })(hf:f {cls:=.type "list", data:=.seq its.toArray n }={cls:=.type "list", data:=.seq its'.toArray n' })(r:ZH ys its')(hz:ys.length<=sizeLine)(t:Nat) :
  ZD X pins σ (upd H p (.lst ys)) {s with heap:=s.heap.update p f,toks:=t }:=by
 have e:(s.heap.update p f).get? p=some {cls:=.type "list", data:=.seq its'.toArray n' }:=by
  rw[Heap.get?_update_self f ho (by rw[hf]<;>rfl),hf]
 refine I.write (x:=p) (e:=p) (by rw[h];trivial) (.inl rfl) (fun b u hb q=>(wD _ _ (Ne.symm hb)).trans q) ⟨_,e⟩ ?_;exact⟨hz,its',n',r,e⟩
inductive BL(o i v:V)(H:Hp)(Q:Hp->Prop):Prop
 |mk(p xs k j)(_:o = .ref p)(_:i = .int k)(_:H p=some (.lst xs))(_:ixN xs.length k=some j)(_:Q (upd H p (.lst (xs.set j v))))
theorem KL(lo hi:Option Int)(n:Nat):(sliceBounds lo hi none n).1=((HT.sIx n 0 lo:Nat):Int)/\(sliceBounds lo hi none n).2.1=((HT.sIx n n hi:Nat):Int)/\(sliceBounds lo hi none n).2.2=1:=by
 refine⟨?_,?_,rfl⟩
 ·cases lo with
  | none=>simp[sliceBounds,HT.sIx]
  | some i =>
   simp only[sliceBounds,HT.sIx,Option.getD_none,show (1:Int) > 0 by decide,if_true]
   by_cases h:i < 0
   ·simp only[h,if_true]<;>lia
   ·simp only[h,if_false]<;>lia
 ·cases hi with
  | none=>simp[sliceBounds,HT.sIx]
  | some i =>
   simp only[sliceBounds,HT.sIx,Option.getD_none,show (1:Int) > 0 by decide,if_true]
   by_cases h:i < 0
   ·simp only[h,if_true]<;>lia
   ·simp only[h,if_false]<;>lia
theorem NT(its:XQ)(lo hi:Option Int):slicePick its.toArray lo hi none=((its.drop (HT.sIx its.length 0 lo)).take (HT.sIx its.length its.length hi - HT.sIx its.length 0 lo)).toArray:=by
 obtain⟨h1,h2,h3⟩:=KL lo hi its.toArray.size;unfold slicePick;rw[h1,h2,h3];simp only[sliceRange_one,pick_run,xQ]<;>rfl
inductive Bu(K:uFg)(x:V)(lo hi:Option Int)(H:Hp)(Q:VK):Prop
 |mk(a xs)(_:x = .ref a)(_:ZF K H a xs)(_:∀p,H p=none->Q (.ref p) (upd H p (.lst (Ut xs lo hi))))
theorem SH:HW X (Bu X.K):=by
 intro pins s σ H x v vl vu lo hi sl Q I rx hs pl pu h;obtain⟨a,xs,rfl,hx,q⟩:=h;cases rx;obtain⟨its,r,ht,hz⟩:=I.list hx;have hlen:=r.length;refine⟨"list", _,slot_list_getitem.lookup,ht.isList.typeIs,?_⟩;refine wpAny_getItem_list_slice ht.isList hs pl pu .none (by simp) ?_ (by rw[xQ]<;>lia);rw[NT,← hlen];refine⟨.ref s.heap.objs.size,_,I.laid (t':=s.toks) (o:=.lst (Ut xs lo hi)) (fun b ob q=>xG _ q) (xD _) ?_,rfl,q _ (I.hok.fresh (xD _))⟩;exact⟨yC (Po xs lo hi) hz,_,0,(r.drop (HT.sIx xs.length 0 lo)).take (HT.sIx xs.length xs.length hi - HT.sIx xs.length 0 lo),xV _ rfl⟩
def Ju:V->Bool
 | .non=>true
 | .bl _=>true
 | .int _=>true
 | .str _=>true
 | _=>false
def eqV:V->V->Bool
 | .non,.non=>true
 | .bl a,.bl b=>a == b
 | .bl a,.int b=>(if a then 1 else 0)== b
 | .int a,.bl b=>a == (if b then 1 else 0)
 | .int a,.int b=>a == b
 | .str a,.str b=>a == b
 | _,_=>false
theorem SK(ry:ZG y u)(rx:ZG x v)(fy:Ju y=true)(fx:Ju x=true):SeqAt.EqAt A s u v (eqV y x):=by
 cases y with
 | non =>
  cases ry;cases x with
  | non=>cases rx;exact SeqAt.EqAt.same _
  | bl b=>cases rx;exact SeqAt.EqAt.none_bool b
  | int b=>obtain⟨t,rfl⟩:=rx;exact SeqAt.EqAt.none_int b t
  | str b=>obtain⟨t,rfl⟩:=rx;exact SeqAt.EqAt.none_str b t
  | _=>exact absurd (show false=true from fx) xL
 | bl a =>
  cases ry;cases x with
  | non=>cases rx;exact SeqAt.EqAt.bool_none a
  | bl b=>cases rx;exact SeqAt.EqAt.bool_bool a b
  | int b=>obtain⟨t,rfl⟩:=rx;exact SeqAt.EqAt.bool_int a b t
  | str b=>obtain⟨t,rfl⟩:=rx;exact SeqAt.EqAt.bool_str a b t
  | _=>exact absurd (show false=true from fx) xL
 | int a =>
  obtain⟨t',rfl⟩:=ry;cases x with
  | non=>cases rx;exact SeqAt.EqAt.int_none a t'
  | bl b=>cases rx;exact SeqAt.EqAt.int_bool a t' b
  | int b=>obtain⟨t,rfl⟩:=rx;exact SeqAt.EqAt.int_int a t' b t
  | str b=>obtain⟨t,rfl⟩:=rx;exact SeqAt.EqAt.int_str a t' b t
  | _=>exact absurd (show false=true from fx) xL
 | str a =>
  obtain⟨t',rfl⟩:=ry;cases x with
  | non=>cases rx;exact SeqAt.EqAt.str_none a t'
  | bl b=>cases rx;exact SeqAt.EqAt.str_bool a t' b
  | int b=>obtain⟨t,rfl⟩:=rx;exact SeqAt.EqAt.str_int a t' b t
  | str b=>obtain⟨t,rfl⟩:=rx;exact SeqAt.EqAt.str_str a t' b t
  | _=>exact absurd (show false=true from fx) xL
 | _=>exact absurd (show false=true from fy) xL
def eqU(x:V)(u:XU):Bool:=match u with
 | .none=>eqV .non x
 | .bool b=>eqV (.bl b) x
 | .int i _=>eqV (.int i) x
 | .str z _=>eqV (.str z) x
 | _=>false
theorem HX(r:ZG y u)(f:Ju y=true):eqU x u=eqV y x:=by
 cases y with
 | non=>cases r;rfl
 | bl b=>cases r;rfl
 | int i=>obtain⟨t,rfl⟩:=r;rfl
 | str z=>obtain⟨t,rfl⟩:=r;rfl
 | _=>exact absurd (show false=true from f) xL
theorem Bq:∀{xs:aG}{us:XQ},ZH xs us->xs.all Ju=true->us.any (eqU x)=xs.any fun y=>eqV y x
 | _,_,.nil,_=>rfl
 | y::xs,u::us,.cons r t,f=>by
  rw[List.all_cons,yR] at f;rw[List.any_cons,List.any_cons,HX r f.1,Bq t f.2]
theorem Br(rx:ZG x v)(fx:Ju x=true):∀{xs:aG}{us:XQ},ZH xs us->xs.all Ju=true->∀u∈us,SeqAt.EqAt A s u v (eqU x u)
 | _,_,.nil,_=>fun u hu=>by cases hu
 | y::xs,u::us,.cons r t,f=>fun u' hu=>by
  rw[List.all_cons,yR] at f;rcases xC.mp hu with rfl | hu
  ·rw[HX r f.1];exact SK r rx f.1 fx
  ·exact Br rx fx t f.2 u' hu
def inV(x:V)(xs:aG):Bool:=xs.any fun y=>eqV y x
inductive Cr(K:uFg)(neg:Bool)(x y:V)(H:Hp)(Q:VK):Prop
 |mk(p xs)(_:y = .ref p)(_:(ZF K H p xs\/ZS K H p xs))(_:Ju x=true)(_:xs.all Ju=true)(_:Q (.bl (if neg then !inV x xs else inV x xs)) H)
theorem XC:JU X (compareOp .In) (Cr X.K false):=by
 intro pins s σ H x y v u Q I rx ry h;obtain⟨p,xs,rfl,hq,fx,fs,q⟩:=h;cases ry;rcases hq with hq | hq
 ·obtain⟨its,r,pl,hz⟩:=I.list hq;refine SeqAt.in_listAt (eqU x) pl.isList (fun w hw=>Br rx fx r fs w (by simpa using hw)) ⟨.bl _,H,I,rfl,?_⟩;rw[show its.toArray.any (eqU x)=its.any (eqU x) by simp,Bq r fs];exact q
 ·obtain⟨its,r,pl,hz⟩:=I.tuple hq;refine SeqAt.in_tupleAt (eqU x) pl (fun w hw=>Br rx fx r fs w (by simpa using hw)) ⟨.bl _,H,I,rfl,?_⟩;rw[show its.toArray.any (eqU x)=its.any (eqU x) by simp,Bq r fs];exact q
theorem Mm:JU X (compareOp .NotIn) (Cr X.K true):=by
 intro pins s σ H x y v u Q I rx ry h;obtain⟨p,xs,rfl,hq,fx,fs,q⟩:=h;cases ry;rcases hq with hq | hq
 ·obtain⟨its,r,pl,hz⟩:=I.list hq;refine SeqAt.notIn_listAt (eqU x) pl.isList (fun w hw=>Br rx fx r fs w (by simpa using hw)) ⟨.bl _,H,I,rfl,?_⟩;rw[show its.toArray.any (eqU x)=its.any (eqU x) by simp,Bq r fs];exact q
 ·obtain⟨its,r,pl,hz⟩:=I.tuple hq;refine SeqAt.notIn_tupleAt (eqU x) pl (fun w hw=>Br rx fx r fs w (by simpa using hw)) ⟨.bl _,H,I,rfl,?_⟩;rw[show its.toArray.any (eqU x)=its.any (eqU x) by simp,Bq r fs];exact q
theorem Pk:Jj X (.builtin "len") (fun xs H Q=>∃p ys,xs = [.ref p]/\(ZF X.K H p ys\/ZS X.K H p ys)/\Q (.int ys.length) H):=by
 intro pins s σ H xs us Q I r h;obtain⟨p,ys,rfl,hq,q⟩:=h;obtain⟨u,rfl,rx⟩:=Ja r;cases rx;have hn:=Au;rcases hq with hq | hq
 ·obtain⟨its,r',pl,hz⟩:=I.list hq;have hlen:=r'.length;exact Calls.call_len_list pl.isList (by simp only[xQ]<;>lia) ⟨.int ys.length,H,I.tok _,⟨s.toks+1,by rw[xQ,hlen]⟩,q⟩
 ·obtain⟨its,r',pl,hz⟩:=I.tuple hq;have hlen:=r'.length;exact len_tuple pl (by simp only[xQ]<;>lia) ⟨.int ys.length,H,I.tok _,⟨s.toks+1,by rw[xQ,hlen]⟩,q⟩
theorem Kc:Jj X (.type "list") (fun xs H Q=>∃p ys,xs = [.ref p]/\(ZF X.K H p ys\/ZS X.K H p ys)/\∀l,H l=none->Q (.ref l) (upd H l (.lst ys))):=by
 intro pins s σ H xs us Q I r h;obtain⟨p,ys,rfl,hq,q⟩:=h;obtain⟨u,rfl,rx⟩:=Ja r;cases rx;have fin:∀(its:XQ),ZH ys its->ys.length<=sizeLine->∀(h':Heap)(c':Nat),(∀b o',s.heap.get? b=some o'->h'.get? b=some o')->
   h'.get? s.heap.objs.size=some {cls:=.type "list", dict:=none,data:=.seq its.toArray c',slots:=#[] }->EP X pins σ Q (.ref s.heap.objs.size) {s with heap:=h' }:=fun its r' hz h' c' kp e =>
  ⟨.ref s.heap.objs.size,_,I.laid (t':=s.toks) kp (xD _) (show ZO X.prog X.w _ h' _ (.lst ys) from⟨hz,its,c',r',e⟩),rfl,q _ (I.hok.fresh (xD _))⟩
 rcases hq with hq | hq
 ·obtain⟨its,r',pl,hz⟩:=I.list hq;have hlen:=r'.length;obtain⟨o,ho,hc,n,hd⟩:=pl.isList;exact call_list_seq p (.inl rfl) ho hc hd (fun h' c' kp e=>fin its r' hz h' c' kp e) (by simp only[xQ]<;>lia)
 ·obtain⟨its,r',pl,hz⟩:=I.tuple hq;have hlen:=r'.length;obtain⟨o,ho,hc,n,hd⟩:=pl;exact call_list_seq p (.inr rfl) ho hc hd (fun h' c' kp e=>fin its r' hz h' c' kp e) (by simp only[xQ]<;>lia)
theorem OX:Jj X (.type "tuple") (fun xs H Q=>∃p ys,xs = [.ref p]/\((ZF X.K H p ys/\∀l,H l=none->Q (.ref l) (upd H l (.tup ys)))\/(ZS X.K H p ys/\Q (.ref p) H))):=by
 intro pins s σ H xs us Q I r h;obtain⟨p,ys,rfl,h⟩:=h;obtain⟨u,rfl,rx⟩:=Ja r;cases rx;rcases h with⟨hq,q⟩ | ⟨hq,q⟩
 ·obtain⟨its,r',pl,hz⟩:=I.list hq;have hlen:=r'.length;refine call_tuple_list pl.isList (fun h' kp=>?_) (by simp only[xQ]<;>lia);have I1:ZD X pins σ H {s with heap:=h' }:=I.kept (t':=s.toks) kp;have I2:ZD X pins σ (upd H h'.objs.size (.tup ys)) {s with heap:=h'.push {cls:=.type "tuple", data:=.seq its.toArray } } :=
   I1.laid (t':=s.toks) (fun b o e=>xG _ e) (xD _) (show ZO X.prog X.w _ _ _ (.tup ys) from⟨hz,its,r',IsTup.new _ _⟩)
  exact⟨.ref h'.objs.size,_,I2,rfl,q _ (I1.hok.fresh (xD _))⟩
 ·obtain⟨its,r',pl,hz⟩:=I.tuple hq;exact call_tuple_same pl ⟨.ref p,H,I,rfl,q⟩
def tyV(K:uFg)(T:String)(x:V)(H:Hp):Prop:=match x with
 | .str _=>T = "str"
 | .int _=>T = "int"
 | .ref p=>(T = "list" /\ ∃xs,ZF K H p xs)\/(T = "tuple" /\ ∃o,K.lookup p=some o/\o.cls = .type "tuple" /\ o.dict=none)\/
   (T = "dict" /\ ((∃kvs,H p=some (.dK kvs))\/∃kvs,H p=some (.dT kvs)))\/(T = "set" /\ ∃S n,H p=some (.set S n))
 | _=>False
theorem Ht{pins:List (XW×Obj)}{σ:St}{H:Hp}{s:XT}{T:String}{x:V}{v:XU}(I:ZD X pins σ H s)(r:ZG x v)(ty:tyV X.K T x H) :
  s.TypeIs v T/\∀a,v = .ref a->∃ob,s.heap.get? a=some ob/\ob.dict=none:=by
 cases x with
 | str z =>
  obtain⟨t,rfl⟩:=r;cases (show T = "str" from ty);exact⟨typeIs_str s z t,fun _ e=>nomatch e⟩
 | int i =>
  obtain⟨t,rfl⟩:=r;cases (show T = "int" from ty);exact⟨typeIs_int s i t,fun _ e=>nomatch e⟩
 | ref p =>
  cases r;rcases ty with⟨rfl,xs,hq⟩ | ⟨rfl,o,hk,hc,hd⟩ | ⟨rfl,hk⟩ | ⟨rfl,S,n,hk⟩
  ·obtain⟨its,_,pl,_⟩:=I.list hq;refine⟨pl.isList.typeIs,fun a e=>?_⟩;cases e;obtain⟨o,n,e,c,hd,_⟩:=pl;exact⟨o,e,hd⟩
  ·refine⟨⟨o,I.kIn p o hk,hc⟩,fun a e=>?_⟩;cases e;exact⟨o,I.kIn _ o hk,hd⟩
  ·have z:∃o,s.heap.get? p=some o/\o.ExactDict:=by
    rcases hk with⟨kvs,hk⟩ | ⟨kvs,hk⟩
    ·obtain⟨_,_,_,_,o,_,_,e,ex,_⟩:=I.hok p _ hk;exact⟨o,e,ex⟩
    ·obtain⟨_,_,_,_,o,_,_,e,ex,_⟩:=I.hok p _ hk;exact⟨o,e,ex⟩
   obtain⟨o,e,ex⟩:=z;refine⟨⟨o,e,ex.1⟩,fun a e2=>?_⟩;cases e2;exact⟨o,e,ex.2.1⟩
  ·obtain⟨o,_,_,_,e,ex,_⟩:=I.hok p _ hk;refine⟨⟨o,e,ex.1⟩,fun a e2=>?_⟩;cases e2;exact⟨o,e,ex.2.1⟩
 | _=>exact False.elim ty
def L7(K:uFg)(T:String)(r:V->List V->Hp->VK->Prop)(to:TE):TE:=fun σ H Q=>to σ H fun x H1=>tyV K T x H1/\r x [] H1 Q
def ED(K:uFg)(T:String)(r:V->List V->Hp->VK->Prop)(to:TE)(t:TA):TE:=fun σ H Q=>to σ H fun x H1=>tyV K T x H1/\t σ H1 fun xs H2=>r x xs H2 Q
variable{o e:Expr}{es:List Expr}{to:TE}{t:TA}{name:Str}{apos cpos:Pos}{T id:String}{r:V->List V->Hp->VK->Prop}
/- xs.append(e),list.index on a module's tuple .. are GT facts of 06m -/
end
def XH(X:Cx)(id:String)(r:V->List V->Hp->VK->Prop):Prop :=
 ∀(pins:List (XW×Obj))(s:XT)(σ:St)(H:Hp)(x:V)(xs:aG)(v:XU)(us:XQ)(Q:VK),ZD X pins σ H s->ZG x v->ZH xs us->r x xs H Q ->
  wpAny (model X.prog X.w) X.A (call (.builtin id) (v::us)) (EP X pins σ Q) X.xe s
theorem ZH.one:∀{x:V}{us:XQ},ZH [x] us->∃u,us = [u]/\ZG x u
 | _,_,.cons r .nil=>⟨_,rfl,r⟩
theorem ZH.zero:∀{us:XQ},ZH [] us->us = []
 | _,.nil=>rfl
theorem ZH.eraseIdx:∀{xs:aG}{us:XQ}(i:Nat),ZH xs us->ZH (xs.eraseIdx i) (us.eraseIdx i)
 | _,_,_,.nil=>.nil
 | _,_,0,.cons _ t=>t
 | _,_,i+1,.cons r t=>.cons r (ZH.eraseIdx i t)
theorem ZH.rep(h:ZH xs us):∀k:Nat,ZH (List.replicate k xs).flatten (List.replicate k us).flatten
 | 0=>.nil
 | k+1=>by
  rw[yS,yS,zS,zS];exact ZH.append h (ZH.rep h k)
theorem Gq{α:Type}:∀(l:List α)(i:Nat),(l.eraseIdx i).length<=l.length
 | [],_=>xD _
 | _::_,0=>Nat.le_succ _
 | _::r,i+1=>Nat.succ_le_succ (Gq r i)
theorem HU(its:XQ):∀k acc,
  List.foldl (fun x1 x2=>x1++x2) acc.toArray (List.replicate k its.toArray)=(acc++(List.replicate k its).flatten).toArray
 | 0,acc=>by simp
 | k+1,acc=>by
  have e:acc.toArray++its.toArray=(acc++its).toArray:=by simp
  have e2:(acc++its)++(List.replicate k its).flatten=acc++(List.replicate (k+1) its).flatten:=by
   rw[yS,zS,yW]
  rw[← e2,← HU its k (acc++its),← e,yS,zJ]
section
variable{X:Cx}{pins:List (XW×Obj)}{σ:St}{H:Hp}{s:XT}{l:XW}{xs ys:aG}
theorem ZD.lset{its its':XQ}{n:Nat}{f:Array XU->Array XU}{t':Nat}(I:ZD X pins σ H s)(hH:H l=some (.lst xs))(e:s.heap.get? l=some {cls:=.type "list", data:=.seq its.toArray n })(hf:f its.toArray=its'.toArray)(hv:ZH ys its')(hz:ys.length<=sizeLine) :
  ZD X pins σ (upd H l (.lst ys)) {s with heap:=s.heap.update l (Obj.mapSeq f),toks:=t' }:=by
 have q:=PySem.IsL.update e f;rw[hf] at q;refine I.write (x:=l) (e:=l) (by rw[hH];exact trivial) (.inl rfl) (fun b' u hb hu=>(wD s.heap (Obj.mapSeq f) (Ne.symm hb)).trans hu) ⟨_,q⟩ ?_;exact⟨hz,its',_,hv,q⟩
theorem ZD.lnew{its:XQ}{t':Nat}(I:ZD X pins σ H s)(hv:ZH ys its)(hz:ys.length<=sizeLine) :
  ZD X pins σ (upd H s.heap.objs.size (.lst ys)) {s with heap:=s.heap.push {cls:=.type "list", data:=.seq its.toArray },toks:=t' } :=
 I.laid (fun _ _ q=>xG _ q) (xD _) ⟨hz,its,0,hv,xV _ rfl⟩
theorem ZD.fresh(I:ZD X pins σ H s):H s.heap.objs.size=none:=I.hok.fresh (xD _)
theorem ZD.lstM(I:ZD X pins σ H s)(hH:H l=some (.lst xs)):xs.length<=sizeLine/\∃(its:XQ)(n:Nat),ZH xs its/\xs.length=its.length/\s.heap.get? l=some {cls:=.type "list", data:=.seq its.toArray n }:=by
 obtain⟨z,its,n,r,e⟩:=I.hok l _ hH;exact⟨z,its,n,r,r.length,e⟩
theorem SW(h:n<=sizeLine):Builtin.List.listTooLong n=false:=by
 unfold Builtin.List.listTooLong;exact yZ (by lia)
end
inductive VN(x:V)(vs:aG)(H:Hp)(Q:VK):Prop
 |mk(l xs y)(_:x = .ref l)(_:vs = [y])(_:H l=some (.lst xs))(_:xs.length < sizeLine)(_:Q .non (upd H l (.lst (xs ++ [y]))))
inductive AE(x:V)(vs:aG)(H:Hp)(Q:VK):Prop
 |mk(l xs i k y)(_:x = .ref l)(_:vs = [.int i])(_:H l=some (.lst xs))(_:-(2 ^ 63)<=i)(_:i < 2 ^ 63)(_:seqIndex? i xs.length=some k)(_:xs[k]? = some y)(_:Q y (upd H l (.lst (xs.eraseIdx k))))
inductive A3(x:V)(vs:aG)(H:Hp)(Q:VK):Prop
 |mk(l xs)(_:x = .ref l)(_:vs = [])(_:H l=some (.lst xs))(_:Q .non (upd H l (.lst [])))
inductive ET(x y:V)(H:Hp)(Q:VK):Prop
 |mk(l b xs zs)(_:x = .ref l)(_:y = .ref b)(_:H l=some (.lst xs))(_:H b=some (.lst zs))(_:xs.length+zs.length<=sizeLine)(_:∀p,H p=none->Q (.ref p) (upd H p (.lst (xs++zs))))
inductive Ek(x y:V)(H:Hp)(Q:VK):Prop
 |mk(l k xs)(_:x = .ref l)(_:y = .int k)(_:H l=some (.lst xs))(_:-(2 ^ 63)<=k)(_:k < 2 ^ 63)(_:xs.length * k.toNat<=sizeLine)(_:∀p,H p=none->Q (.ref p) (upd H p (.lst (List.replicate k.toNat xs).flatten)))
theorem Lq{α:Type}(xs:List α)(k:Nat):(List.replicate k xs).flatten.length=k * xs.length:=by
 induction k with
 | zero=>simp
 | succ k ih=>rw[yS,zS,xF,ih,Nat.succ_mul,Nat.add_comm]
section
set_option maxRecDepth 100000 in
end
section
variable{κ:Type} [DecidableEq κ]
def Zz(kvs:List (κ×V))(k : κ):Option V:=(kvs.find? fun kv=>decide (kv.1=k)).map (·.2)
def Z3(kvs:List (κ×V))(k : κ)(v:V):List (κ×V) :=
 if (kvs.any fun kv=>decide (kv.1=k))=true then kvs.map (fun kv=>if kv.1=k then (kv.1,v) else kv) else kvs ++ [(k,v)]
theorem Uj{p : κ×V}{r:List (κ×V)}{k : κ}(e:p.1=k):Zz (p::r) k=some p.2:=by simp[Zz,zO,e]
theorem Ux{p : κ×V}{r:List (κ×V)}{k : κ}(e:¬p.1=k):Zz (p::r) k=Zz r k:=by simp[Zz,zO,e]
theorem By(k : κ):∀kvs:List (κ×V),(kvs.any fun kv=>decide (kv.1=k))=(Zz kvs k).isSome
 | []=>rfl
 | p::r=>by
  rw[List.any_cons]
  by_cases e:p.1=k
  ·simp only[Uj e,yJ e,Bool.true_or,Option.isSome_some]
  ·rw[Ux e,yZ e,Bool.false_or];exact By k r
theorem GS(k j : κ)(y:V):∀kvs:List (κ×V),Zz (kvs.map fun kv=>if kv.1=k then (kv.1,y) else kv) j=(Zz kvs j).map fun x=>if j=k then y else x
 | []=>rfl
 | p::r=>by
  have ih:=GS k j y r;rw[yL]
  by_cases h:p.1=k
  ·rw[if_pos h]
   by_cases e:p.1=j
   ·rw[Uj (p:=(p.1,y)) e,Uj e,wA,if_pos (e.symm.trans h)]
   ·rw[Ux (p:=(p.1,y)) e,Ux e,ih]
  ·rw[if_neg h]
   by_cases e:p.1=j
   ·rw[Uj (p:=p) e,Uj e,wA,if_neg (fun z=>h (e.trans z))]
   ·rw[Ux (p:=p) e,Ux e,ih]
theorem GF(k j : κ)(y:V):∀kvs:List (κ×V),Zz kvs k=none->Zz (kvs ++ [(k,y)]) j=if j=k then some y else Zz kvs j
 | [],_=>by
  by_cases e:k=j
  ·rw[if_pos e.symm];exact Uj (p:=(k,y)) e
  ·rw[if_neg (fun z=>e z.symm)];exact Ux (p:=(k,y)) e
 | p::r,hn=>by
  rw[yF];have hk:¬p.1=k:=fun z=>by rw[Uj z] at hn;cases hn
  rw[Ux hk] at hn;have ih:=GF k j y r hn
  by_cases e:p.1=j
  ·rw[Uj e,Uj e,if_neg (fun z=>hk (e.trans z))]
  ·rw[Ux e,Ux e,ih]
theorem Uk(kvs:List (κ×V))(k j : κ)(y:V):Zz (Z3 kvs k y) j=if j=k then some y else Zz kvs j:=by
 unfold Z3
 by_cases a:(kvs.any fun kv=>decide (kv.1=k))=true
 ·rw[if_pos a,GS];rw[By] at a
  by_cases e:j=k
  ·obtain⟨x,hx⟩:=Option.isSome_iff_exists.mp a;rw[if_pos e,e,hx,wA,if_pos rfl]
  ·rw[if_neg e];cases Zz kvs j with
   | none=>rfl
   | some x=>rw[wA,if_neg e]
 ·rw[if_neg a];refine GF k j y kvs ?_;rw[By] at a;cases q:Zz kvs k with
  | none=>rfl
  | some x=>rw[q] at a;exact(a rfl).elim
theorem Vy(kvs:List (κ×V))(k : κ)(v:V):(Z3 kvs k v).length<=kvs.length+1:=by
 unfold Z3;split
 ·rw[xA];lia
 ·rw[xF,yE,List.length_nil];lia
theorem OA{kvs:List (κ×V)}{k : κ}(v:V)(h:Zz kvs k=none):Z3 kvs k v=kvs ++ [(k,v)]:=by
 unfold Z3;rw[By,h];exact if_neg aA
theorem YN.isSome_eq(r:YN o u):o.isSome=u.isSome:=by
 cases o with
 | none=>cases u with
  | none=>rfl
  | some _=>exact(show False from r).elim
 | some _=>cases u with
  | none=>exact(show False from r).elim
  | some _=>rfl
theorem YN.getD(r:YN o u)(rd:ZG d d'):ZG (o.getD d) (u.getD d'):=by
 cases o with
 | none=>cases u with
  | none=>exact rd
  | some _=>exact(show False from r).elim
 | some _=>cases u with
  | none=>exact(show False from r).elim
  | some _=>exact r
theorem KV.val(r:KV kvs vs)(k : κ):YN (Zz kvs k) (valueAt vs k):=by
 unfold KV at r
 induction r with
 | nil=>exact True.intro
 | @cons p q ps qs h t ih =>
  obtain⟨h1,h2⟩:=h
  by_cases e:p.1=k
  ·have e':q.1=k:=h1.symm.trans e;have b:valueAt (q::qs) k=some q.2:=by simp[valueAt,zO,e']
   rw[Uj e,b];exact h2
  ·have e':¬q.1=k:=fun z=>e (h1.trans z);have b:valueAt (q::qs) k=valueAt qs k:=by simp[valueAt,zO,e']
   rw[Ux e,b];exact ih
theorem KV.any(r:KV kvs vs)(k : κ):(kvs.any fun kv=>decide (kv.1=k))=vs.any fun kv=>decide (kv.1=k):=by
 unfold KV at r
 induction r with
 | nil=>rfl
 | cons h t ih=>rw[List.any_cons,List.any_cons,ih,h.1]
theorem KV.repl(r:KV kvs vs)(k : κ)(ry:ZG y u) :
  KV (kvs.map fun kv=>if kv.1=k then (kv.1,y) else kv) (vs.map fun kv=>if kv.1=k then (kv.1,u) else kv):=by
 unfold KV at r ⊢
 induction r with
 | nil=>exact .nil
 | @cons p q ps qs h t ih =>
  rw[yL,yL];refine .cons ?_ ih;obtain⟨h1,h2⟩:=h
  by_cases e:p.1=k
  ·rw[if_pos e,if_pos (h1.symm.trans e)];exact⟨h1,ry⟩
  ·rw[if_neg e,if_neg (fun z=>e (h1.trans z))];exact⟨h1,h2⟩
theorem KV.put(r:KV kvs vs)(k : κ)(ry:ZG y u):KV (Z3 kvs k y) (stored vs k u):=by
 unfold Z3 stored;rw[r.any k]
 by_cases e:(vs.any fun kv=>decide (kv.1=k))=true
 ·rw[if_pos e,if_pos e];exact r.repl k ry
 ·rw[if_neg e,if_neg e];exact Paired.snoc r ⟨rfl,ry⟩
theorem KV.length{kvs:List (κ×V)}{vs:List (κ×XU)}(r:KV kvs vs):kvs.length=vs.length:=Paired.length r
end
theorem Ai(r:ZG (kV k) u):(Wm P w).is k u=true:=by
 cases k with
 | inl i=>obtain⟨t,e⟩:=(show ∃t,u=Value.int i t from r);subst e;exact L4 P w i t
 | inr x=>obtain⟨t,e⟩:=(show ∃t,u=Value.str x t from r);subst e;exact MD P w x t
theorem IF:∀{ks:List ZU}{us:XQ},ZH (ks.map kV) us->ItemsAre (Wm P w) ks us
 | [],_,r=>by rw[wE] at r;cases r;exact .nil
 | k::ks,_,r=>by
  rw[yL] at r;cases r with
  | cons h t=>exact .cons (Ai h) (IF t)
abbrev KT(H:Hp):List (List ZU×V)->List (List ZU×XW×XU)->Prop:=Paired fun p q=>p.1=q.1/\H q.2.1=some (.tup (p.1.map kV))/\ZG p.2 q.2.2
theorem KT.val(r:KT H kvs xs)(k:List ZU):YN (Zz kvs k) ((atKey xs k).map (·.2)):=by
 induction r with
 | nil=>exact True.intro
 | @cons p q ps qs h t ih =>
  obtain⟨h1,_,h2⟩:=h
  by_cases e:p.1=k
  ·have e':q.1=k:=h1.symm.trans e;have b:atKey (q::qs) k=some q.2:=by simp[atKey,zO,e']
   rw[Uj e,b];exact h2
  ·have e':¬q.1=k:=fun z=>e (h1.trans z);have b:atKey (q::qs) k=atKey qs k:=by simp[atKey,zO,e']
   rw[Ux e,b];exact ih
theorem KT.repl(r:KT H kvs xs)(k:List ZU)(ry:ZG y u) :
  KT H (kvs.map fun kv=>if kv.1=k then (kv.1,y) else kv) (xs.map (putAt k u)):=by
 induction r with
 | nil=>exact .nil
 | @cons p q ps qs h t ih =>
  rw[yL,yL];refine .cons ?_ ih;obtain⟨h1,h2,h3⟩:=h;unfold putAt
  by_cases e:p.1=k
  ·rw[if_pos e,if_pos (h1.symm.trans e)];exact⟨h1,h2,ry⟩
  ·rw[if_neg e,if_neg (fun z=>e (h1.trans z))];exact⟨h1,h2,h3⟩
theorem KT.put(r:KT H kvs xs)(k:List ZU)(hb:H b=some (.tup (k.map kV)))(ry:ZG y u) :
  KT H (Z3 kvs k y) (storedH xs k b u):=by
 have e:(kvs.any fun kv=>decide (kv.1=k))=(atKey xs k).isSome:=by
  rw[By,(r.val k).isSome_eq,Option.isSome_map]
 unfold Z3 storedH;rw[e]
 by_cases q:(atKey xs k).isSome=true
 ·rw[if_pos q,if_pos q];exact r.repl k ry
 ·rw[if_neg q,if_neg q];exact Paired.snoc r ⟨rfl,hb,ry⟩
theorem KT.keeps(r:KT H kvs xs)(ht:∀b ys,H b=some (.tup ys)->H' b=some (.tup ys)):KT H' kvs xs :=
 Paired.mapP r fun _ _ z=>⟨z.1,ht _ _ z.2.1,z.2.2⟩
theorem Ii(ok:YQ P w H h)(e:Rd H a u):ZO P w H h a u:=e.ok ok
theorem JO(ok:YQ P w H h)(e:Rd H a (.dK kvs)):kvs.length<=sizeLine/\(a == sysModules)=false/\∃vs,KV kvs vs/\h.DictOf (Wm P w) a vs :=
 show ZO P w H h a (.dK kvs) from Ii ok e
theorem FV(ok:YQ P w H h)(e:H a=some (.dK kvs)):kvs.length<=sizeLine/\(a == sysModules)=false/\∃vs,KV kvs vs/\h.DictOf (Wm P w) a vs:=JO ok (.inl e)
theorem Aw(ok:YQ P w H h)(e:H a=some (.tup (ks.map kV))):(tupleKind (Wm P w)).is h ks a:=by
 obtain⟨_,its,r,o,h1,h2,n,h3⟩:=(show ZO P w H h a (.tup (ks.map kV)) from ok a _ e);exact⟨o,its.toArray,n,h1,h2,h3,by simpa using IF r⟩
theorem AM(ok:YQ P w H h)(e:Rd H a (.dT kvs)):kvs.length<=sizeLine/\(a == sysModules)=false /\
  ∃xs,KT H kvs xs/\h.DictOfH (tupleKind (Wm P w)) a xs:=by
 obtain⟨z,y,xs,r,o,es,ep,h1,h2,h3,h4,h5⟩:=(show ZO P w H h a (.dT kvs) from Ii ok e);refine⟨z,y,xs,r,o,es,ep,h1,h2,h3,h4,fun x hx=>?_,h5⟩;have all:∀{l:List (List ZU×V)}{m:List (List ZU×XW×XU)},KT H l m->∀x∈m,(tupleKind (Wm P w)).is h x.1 x.2.1:=by
  intro l m q
  induction q with
  | nil=>intro x hx;exact nomatch hx
  | @cons p q ps qs hq t ih =>
   intro x hx;rcases xC.mp hx with e | hx
   ·subst e;exact Aw ok (by rw[← hq.1];exact hq.2.1)
   ·exact ih x hx
 exact all r x hx
theorem IR(ok:YQ P w H h)(e:H a=some (.dT kvs)):kvs.length<=sizeLine/\(a == sysModules)=false /\
  ∃xs,KT H kvs xs/\h.DictOfH (tupleKind (Wm P w)) a xs:=AM ok (.inl e)
def ZZ(H:Hp)(a:XW)(y:V)(r:Option V):Prop :=
 (∃kvs k,Rd H a (.dK kvs)/\y=kV k/\r=Zz kvs k)\/∃kvs k b,Rd H a (.dT kvs)/\y = .ref b/\H b=some (.tup (k.map kV))/\r=Zz kvs k
def YU(H:Hp)(a:XW)(y v:V)(H':Hp):Prop :=
 (∃kvs k,H a=some (.dK kvs)/\y=kV k/\kvs.length < sizeLine/\H'=upd H a (.dK (Z3 kvs k v)))\/
 ∃kvs k b,H a=some (.dT kvs)/\y = .ref b/\H b=some (.tup (k.map kV))/\kvs.length < sizeLine/\H'=upd H a (.dT (Z3 kvs k v))
theorem ZZ.k{H:Hp}{a:XW}{kvs:List (ZU×V)}{k:ZU}(e:H a=some (.dK kvs)):ZZ H a (kV k) (Zz kvs k):=.inl ⟨kvs,k,.inl e,rfl,rfl⟩
theorem ZZ.t{H:Hp}{a b:XW}{kvs:List (List ZU×V)}{k:List ZU}(e:H a=some (.dT kvs))(eb:H b=some (.tup (k.map kV))):ZZ H a (.ref b) (Zz kvs k):=.inr ⟨kvs,k,b,.inl e,rfl,eb,rfl⟩
theorem YU.k{H:Hp}{a:XW}{kvs:List (ZU×V)}{k:ZU}{v:V}(e:H a=some (.dK kvs))(hl:kvs.length < sizeLine):YU H a (kV k) v (upd H a (.dK (Z3 kvs k v))):=.inl ⟨kvs,k,e,rfl,hl,rfl⟩
theorem YU.t{H:Hp}{a b:XW}{kvs:List (List ZU×V)}{k:List ZU}{v:V}(e:H a=some (.dT kvs))(eb:H b=some (.tup (k.map kV)))(hl:kvs.length < sizeLine) :
  YU H a (.ref b) v (upd H a (.dT (Z3 kvs k v))):=.inr ⟨kvs,k,b,e,rfl,eb,hl,rfl⟩
section
variable{X:Cx}{pins:List (XW×Obj)}{σ:St}{H:Hp}{s:XT}{a:XW}{y v:V}{u r:XU}{o:Option V}{A:XZ}{E:XM}
theorem ZD.big(I:ZD X pins σ H s):sysModules < s.heap.objs.size:=by
 have h:mainGlobals < s.heap.objs.size:=(I.mod.glob.keeps I.bk).lt;exact Nat.lt_trans aA h
theorem MG{Q:XM}(hu:A.units+1 < cLine)(I:ZD X pins σ H s)(g:ZZ H a y (some v))(ry:ZG y u)(h:∀w' s',ZD X pins σ H s'->ZG v w'->Q w' s') :
  wpAny (model X.prog X.w) A (getItem (.ref a) u) Q E s:=by
 rcases g with⟨kvs,k,e,ey,l⟩ | ⟨kvs,k,b,e,ey,eb,l⟩
 ·subst ey;obtain⟨z,hd,vs,rel,dd⟩:=JO I.hok e;obtain⟨w',hw,rw'⟩:=YN.some_of (v:=v) (o:=valueAt vs k) (by rw[l];exact rel.val k);exact wpAny_getItem_of (Ai ry) dd.mapOf hw (h w' _ (I.tok _) rw')
 ·subst ey;cases (show u=Value.ref b from ry);obtain⟨z,hd,xs,rel,dd⟩:=AM I.hok e;obtain⟨w',hw,rw'⟩:=YN.some_of (v:=v) (o:=(atKey xs k).map (·.2)) (by rw[l];exact rel.val k);obtain⟨p,hp,hp2⟩:=xP.mp hw;refine wpAny_getItem_heap (tupleKind_room_in1 hu) (Aw I.hok eb) dd hp ?_;rw[hp2];exact h w' _ (I.tok _) rw'
theorem RB{Q:XM}(hu:A.units+1 < cLine)(I:ZD X pins σ H s)(g:ZZ H a y o)(ry:ZG y u)(h:∀s',ZD X pins σ H s'->Q (.bool o.isSome) s') :
  wpAny (model X.prog X.w) A (compareOp .In u (.ref a)) Q E s:=by
 rcases g with⟨kvs,k,e,ey,l⟩ | ⟨kvs,k,b,e,ey,eb,l⟩
 ·subst ey;obtain⟨z,hd,vs,rel,dd⟩:=JO I.hok e;refine wpAny_in_of (Ai ry) hd dd.mapOf ?_;rw[← (rel.val k).isSome_eq,← l];exact h _ (I.tok _)
 ·subst ey;cases (show u=Value.ref b from ry);obtain⟨z,hd,xs,rel,dd⟩:=AM I.hok e;refine wpAny_in_heap (tupleKind_room_in1 hu) (Aw I.hok eb) hd dd ?_;have q:=(rel.val k).isSome_eq;rw[Option.isSome_map] at q;rw[← q,← l];exact h _ (I.tok _)
theorem Ob{Q:XM}(hu:A.units+1 < cLine)(I:ZD X pins σ H s)(g:ZZ H a y o)(ry:ZG y u)(h:∀s',ZD X pins σ H s'->Q (.bool (!o.isSome)) s') :
  wpAny (model X.prog X.w) A (compareOp .NotIn u (.ref a)) Q E s:=by
 rcases g with⟨kvs,k,e,ey,l⟩ | ⟨kvs,k,b,e,ey,eb,l⟩
 ·subst ey;obtain⟨z,hd,vs,rel,dd⟩:=JO I.hok e;refine wpAny_notIn_of (Ai ry) hd dd.mapOf ?_;rw[← (rel.val k).isSome_eq,← l];exact h _ (I.tok _)
 ·subst ey;cases (show u=Value.ref b from ry);obtain⟨z,hd,xs,rel,dd⟩:=AM I.hok e;refine wpAny_notIn_heap (tupleKind_room_in1 hu) (Aw I.hok eb) hd dd ?_;have q:=(rel.val k).isSome_eq;rw[Option.isSome_map] at q;rw[← q,← l];exact h _ (I.tok _)
theorem Co{h':Heap}{t':Nat}{ob:HO}(I:ZD X pins σ H s)(mu:BE (H a))(hs:Heap.SameBut a s.heap h')(he:∃q,h'.get? a=some q)(new:ZO X.prog X.w (upd H a ob) h' a ob) :
  ZD X pins σ (upd H a ob) {s with heap:=h',toks:=t' } :=
 I.write (x:=a) (e:=a) mu (.inl rfl) (fun b q hb z=>(hs.2 b hb).trans z) he new
theorem Gj(z:kvs.length<=sizeLine)(hd:(a == sysModules)=false)(rel:KV kvs vs)(dd:h'.DictOf (Wm P w) a vs) :
  ZO P w H' h' a (.dK kvs):=⟨z,hd,vs,rel,dd⟩
theorem Oh{H':Hp}{Q:Unit->XT->Prop}(hu:A.units+1 < cLine)(I:ZD X pins σ H s)(g:YU H a y v H')(ry:ZG y u)(rv:ZG v r)(h:∀s',ZD X pins σ H' s'->Q () s') :
  wpAny (model X.prog X.w) A (setItem (.ref a) u r) Q E s:=by
 rcases g with⟨kvs,k,e,ey,l,eH⟩ | ⟨kvs,k,b,e,ey,eb,l,eH⟩
 ·subst ey eH;obtain⟨z,hd,vs,rel,dd⟩:=FV I.hok e;have hz:vs.length<=sizeLine:=by rw[← rel.length];exact z
  have hl:(Z3 kvs k v).length<=sizeLine:=by have:=Vy kvs k v;lia
  refine wpAny_setItem_pairs (hsz:=hz) (Ai ry) dd fun h' dd' hs=>h _ ?_;have he:∃q,h'.get? a=some q:=let ⟨q,_,_,hq,_⟩:=dd';⟨q,hq⟩
  exact Co I (by rw[e];exact True.intro) hs he (Gj hl hd (rel.put k rv) dd')
 ·subst ey eH;cases (show u=Value.ref b from ry);obtain⟨z,hd,xs,rel,dd⟩:=IR I.hok e;have hz:xs.length<=sizeLine:=by rw[← Paired.length rel];exact z
  have hl:(Z3 kvs k v).length<=sizeLine:=by have:=Vy kvs k v;lia
  refine wpAny_setItem_heap (hsz:=hz) (tupleKind_room_in1 hu) (Aw I.hok eb) dd fun h' dd' hs=>h _ ?_;obtain⟨q,es,ep,hq,h2,h3,h4,_,h5⟩:=dd';refine Co I (by rw[e];exact True.intro) hs ⟨q,hq⟩ ⟨hl,hd,_,(rel.put k eb rv).keeps fun c ys ec=>?_,q,es,ep,hq,h2,h3,h4,h5⟩;rw[Ze (Kj ec e (fun z=>nomatch z))];exact ec
end
section
variable{X:Cx}{pins:List (XW×Obj)}{σ:St}{H:Hp}{s:XT}{a:XW}{kvs:List (ZU×V)}{k:ZU}{u:XU}{A:XZ}{E:XM}
theorem LC{Q:XM}(I:ZD X pins σ H s)(e:Rd H a (.dK kvs))(h:∀t s',ZD X pins σ H s'->Q (.int kvs.length t) s'):wpAny (model X.prog X.w) A (call (.builtin "len") [.ref a]) Q E s:=by
 obtain⟨z,hd,vs,rel,dd⟩:=JO I.hok e;refine call_len_dict hd dd (by rw[← rel.length];rw[sizeLine_eq] at z;lia) ?_;rw[← rel.length];exact h _ _ (I.tok _)
end
def Dx(i:Expr):Prop:=∀ov iv,subscripted i false ov iv=operate [ov,iv] (getItem ov iv)
theorem MN{prog:XX}{w:XY}{A:XZ}{E:XM}{s:XT}{env:Env}{value slice:Expr}{pos:Pos}{T id:String}{Q:XM}(hl:typeLookup (.type T) "__getitem__" = pure (some (.builtin id)))(hs:Dx slice)(h:wpAny (model prog w) A (eval value env) (fun o s₁=>wpAny (model prog w) A (eval slice env) (fun i s₂=>s₂.TypeIs o T/\wpAny (model prog w) A (getItem o i) Q E s₂) E s₁) E s) :
  wpAny (model prog w) A (eval (.Subscript value slice pos) env) Q E s:=by
 refine Subscript_ (wpAny_mono h (fun o s₁ h₁=>wpAny_mono h₁ (fun i s₂ h₂=>?_) fun _ _ x=>x) fun _ _ x=>x);obtain⟨hT,h₂⟩:=h₂;unfold subscriptTail;refine wpAny_bind ?_;rw[getitemInPython_of_ne hT.not_modules];refine wpAny_bind (wpAny_specialOf hT hl ?_);have fin:wpAny (model prog w) A (subscripted slice false o i) (fun r s₃=>wpAny (model prog w) A (letTemporaryGo value o r >>= fun _=>pure r) Q E s₃) E s₂:=by
  rw[hs o i];exact wpAny_operating (wpAny_mono h₂ (fun r s₃ h₃=>wpAny_bind (wpAny_letTemporaryGo (wpAny_pure h₃))) fun _ _ x=>x)
 first
  | exact wpAny_pure (wpAny_bind fin)
  | exact wpAny_bind (wpAny_pure (wpAny_bind fin))
  | exact wpAny_bind fin
theorem Xj{X:Cx}{pins:List (XW×Obj)}{σ:St}{H:Hp}{s:XT}{a:XW}{y:V}{o:Option V}(I:ZD X pins σ H s)(g:ZZ H a y o):s.TypeIs (.ref a) "dict" := by
 rcases g with⟨kvs,k,e,_,_⟩ | ⟨kvs,k,b,e,_,_,_⟩
 ·obtain⟨_,_,vs,_,dd⟩:=JO I.hok e;exact dd.typeIs
 ·obtain⟨_,_,xs,_,dd⟩:=AM I.hok e;exact dd.typeIs
inductive A6(Q:VK)(x y:V)(H2:Hp):Prop
 |mk(a v)(_:x = .ref a)(_:ZZ H2 a y (some v))(_:Q v H2)
def Gi(td ty:TE):TE:=fun σ H Q=>td σ H fun x H1=>ty σ H1 fun y H2=>A6 Q x y H2
inductive sDPut_(D:YE)(σ:St)(v x y:V)(H3:Hp):Prop
 |mk(a H4)(_:x = .ref a)(_:YU H3 a y v H4)(_:D.nx σ H4)
def EY(td ty tv:TE):TS:=fun D σ H=>tv σ H fun v H1=>td σ H1 fun x H2=>ty σ H2 fun y H3=>sDPut_ D σ v x y H3
theorem Rj(hu:X.A.units+1 < cLine)(ho:PE X o td)(hi:PE X i ty)(hs:Dx i):PE X (.Subscript o i pos) (Gi td ty):=by
 intro pins s σ H Q I h;refine MN PySem.F.slot_dict_getitem.lookup hs (thn (ho pins s σ H _ I h) fun u s1 ⟨x,H1,I1,rx,q1⟩=>thn (hi pins s1 σ H1 _ I1 q1) fun iv s2 ⟨y,H2,I2,ry,a,v,ex,g,q2⟩=>?_);subst ex;obtain rfl:u=Value.ref a:=rx;exact⟨Xj I2 g,MG hu I2 g ry fun w' s3 I3 rw'=>⟨v,H2,I3,rw',q2⟩⟩
theorem Li(hu:X.A.units+1 < cLine)(ho:PE X o td)(hi:PE X i ty)(hv:PE X value tv)(hs:swapsWith value (some (.Subscript o i pos')) pos.line X.env=pure false) :
  PS X (.Assign [.Subscript o i pos'] value pos) (EY td ty tv):=by
 intro pins s σ H D I h;refine wpAny_Assign_Subscript (thn (hv pins s σ H _ I h) fun r s1 ⟨v,H1,I1,rv,q1⟩=>thn (ho pins s1 σ H1 _ I1 q1) fun u s2 ⟨x,H2,I2,rx,q2⟩=>thn (hi pins s2 σ H2 _ I2 q2) fun iv s3 ⟨y,H3,I3,ry,a,H4,ex,g,q3⟩=>?_) hs;subst ex;obtain rfl:u=Value.ref a:=rx;exact Oh hu I3 g ry rv fun s4 I4=>⟨σ,H4,I4,q3⟩
theorem FN(h:Heap)(hb:sysModules < h.objs.size):ZO P w H (h.push {cls:=.type "dict", data:=.dict #[] }) h.objs.size (.dK []) :=
 ⟨yN _,beq_eq_false_iff_ne.mpr (Ne.symm (yH hb)),[],.nil,Heap.DictOf.new h⟩
theorem Qn(h:Heap)(hb:sysModules < h.objs.size):ZO P w H (h.push {cls:=.type "dict", data:=.dict #[] }) h.objs.size (.dT []) :=
 ⟨yN _,beq_eq_false_iff_ne.mpr (Ne.symm (yH hb)),[],.nil,_,#[],0,xV _ rfl,⟨rfl,rfl,rfl⟩,rfl,rfl,List.nodup_nil⟩
def Nx:TE:=fun _ H Q=>∀p,H p=none->Q (.ref p) (upd H p (.dK []))
def Rm:TE:=fun _ H Q=>∀p,H p=none->Q (.ref p) (upd H p (.dT []))
def DA:List (TE×TE)->St->Hp->(List (V×V)->Hp->Prop)->Prop
 | [],_,H,Q=>Q [] H
 | (tk,tv)::r,σ,H,Q=>tk σ H fun x H1=>tv σ H1 fun y H2=>DA r σ H2 fun ps H3=>Q ((x,y)::ps) H3
abbrev VV:List (V×V)->List (XU×XU)->Prop:=Paired fun p q=>ZG p.1 q.1/\ZG p.2 q.2
def CF(X:Cx)(pos:Pos)(keys:List (Option Expr))(values:List Expr)(trs:List (TE×TE)):Prop :=
 ∀(pins:List (XW×Obj))(s:XT)(σ:St)(H:Hp)(Q:List (V×V)->Hp->Prop),ZD X pins σ H s->DA trs σ H Q ->
  wpAny (model X.prog X.w) X.A (evalPairs (pairTrees keys values X.env pos)) (fun vs s'=>∃ps H',ZD X pins σ H' s'/\VV ps vs/\Q ps H') X.xe s
theorem Ln:CF X pos [] [] []:=fun pins s σ H Q I h=>pairTrees_nil_walk ⟨[],H,I,.nil,h⟩
theorem RJ(hk:PE X k tk)(hv:PE X v tv)(hr:CF X pos ks vs trs) :
  CF X pos (some k::ks) (v::vs) ((tk,tv)::trs):=fun pins s σ H Q I h =>
 pairTrees_cons_walk (thn (hk pins s σ H _ I h) fun u s1 ⟨x,H1,I1,rx,q1⟩=>thn (hv pins s1 σ H1 _ I1 q1) fun w2 s2 ⟨y,H2,I2,ry,q2⟩=> thn (hr pins s2 σ H2 _ I2 q2) fun ws s3 ⟨ps,H3,I3,rel,q3⟩=>⟨(x,y)::ps,H3,I3,.cons ⟨rx,ry⟩ rel,q3⟩)
def Aa(kvs more:List (ZU×V)):List (ZU×V):=more.foldl (fun acc kv=>Z3 acc kv.1 kv.2) kvs
theorem KV.merge:∀{more:List (ZU×V)}{rs:List (ZU×XU)}{kvs:List (ZU×V)}{vs:List (ZU×XU)},KV more rs->KV kvs vs->KV (Aa kvs more) (merged vs rs):=by
 intro more rs kvs vs r;unfold KV at r
 induction r generalizing kvs vs with
 | nil=>intro q;exact q
 | @cons p q ps qs h t ih =>
  intro r0;have e:KV (Z3 kvs p.1 p.2) (stored vs q.1 q.2):=by
   have:=r0.put p.1 h.2;rw[← h.1];exact this
  exact ih e
theorem Hi:∀more kvs,(Aa kvs more).length<=kvs.length+more.length
 | [],kvs=>by show kvs.length<=kvs.length+0;lia
 | p::r,kvs=>by
  have h1:=Hi r (Z3 kvs p.1 p.2);have h2:=Vy kvs p.1 p.2;show (Aa (Z3 kvs p.1 p.2) r).length<=_;rw[yE];lia
theorem Iq:∀{kvs:List (ZU×V)}{ws:List (XU×XU)},VV (kvs.map fun kv=>(kV kv.1,kv.2)) ws->∃rs,Carries (Wm P w) ws rs/\KV kvs rs
 | [],_,r=>by rw[wE] at r;cases r;exact⟨[],True.intro,.nil⟩
 | p::kvs,_,r=>by
  rw[yL] at r;cases r with
  | @cons a b as bs h t =>
   obtain⟨rs,c,q⟩:=Iq (P:=P) (w:=w) t;obtain⟨b1,b2⟩:=b;exact⟨(p.1,b2)::rs,⟨Ai h.1,rfl,c⟩,.cons ⟨rfl,h.2⟩ q⟩
def Gp(trs:List (TE×TE)):TE:=fun σ H Q=>∀p,H p=none->DA trs σ (upd H p (.dK [])) fun ps H2=>H2 p=some (.dK [])/\∃kvs:List (ZU×V),ps=kvs.map (fun kv=>(kV kv.1,kv.2))/\kvs.length<=15/\Q (.ref p) (upd H2 p (.dK (Aa [] kvs)))
theorem Rf(h:CF X pos keys values trs)(hall:keys.all (·.isSome)=true)(hl:keys.length=values.length)(h0:keys ≠ [])(h15:keys.length<=15):PE X (.Dict keys values pos) (Gp trs):=by
 intro pins s σ H Q I q;have hn:=I.hok.fresh (xD s.heap.objs.size);have I1:=I.laid (a:=s.heap.objs.size) (o:=.dK []) (h':=s.heap.push {cls:=.type "dict", data:=.dict #[] }) (t':=s.toks) (fun _ _ q=>xG _ q) (xD _) (FN s.heap I.big);refine wpAny_Dict_walk (knd:=Wm X.prog X.w) hall hl h0 h15 (thn (h pins _ σ _ _ I1 (q _ hn)) fun ws s2 ⟨ps,H2,I2,rel,e,kvs,ep,lk,q2⟩=>?_);subst ep;obtain⟨rs,c,rk⟩:=Iq (P:=X.prog) (w:=X.w) rel;obtain⟨z,hd,vs0,r0,dd⟩:=FV I2.hok e;cases r0;refine⟨rs,c,dd,fun h' dd' hs=>⟨.ref s.heap.objs.size,_,?_,rfl,q2⟩⟩;have hz:(Aa [] kvs).length<=sizeLine:=by
  have h1:=Hi kvs [];rw[List.length_nil] at h1;rw[sizeLine_eq];lia
 have he:∃q,h'.get? s.heap.objs.size=some q:=let ⟨q,_,_,hq,_⟩:=dd';⟨q,hq⟩
 exact Co I2 (by rw[e];exact True.intro) hs he (Gj hz hd (rk.merge .nil) dd')
structure M2 (X:Cx) (o:Expr) (m:Str) (apos:Pos) (e f:Expr) (cpos:Pos):Prop where
 base:attributeBase o m X.env (eval o X.env)=eval o X.env
 few:((backTo cpos (starEach [e,f] X.env)).all (fun x=>!x.1) && (backToKw cpos (keywordEach [] X.env)).all (fun x=>x.1.isSome)
  && decide (([e,f]:List Expr).length+([]:List Keyword).length+(if ([]:List Keyword).isEmpty then 0 else 1) < 30))=true
 line:(apos.endLine == cpos.line)=true
 trees:backTo cpos (starEach [e,f] X.env)= [(false,eval e X.env),(false,eval f X.env)]
def EM(H:Hp)(a:XW):Prop:=(∃kvs,Rd H a (.dK kvs))\/∃kvs,Rd H a (.dT kvs)
theorem Gf{X:Cx}{pins:List (XW×Obj)}{σ:St}{H:Hp}{s:XT}{a:XW}(I:ZD X pins σ H s)(d:EM H a) :
  s.TypeIs (.ref a) "dict" /\ (∀b,Value.ref a = .ref b->∃ob,s.heap.get? b=some ob/\ob.dict=none)/\(a == sysModules)=false:=by
 rcases d with⟨kvs,e⟩ | ⟨kvs,e⟩
 ·obtain⟨_,hd,vs,_,dd⟩:=JO I.hok e;refine⟨dd.typeIs,fun b q=>?_,hd⟩;cases q;obtain⟨ob,_,_,h1,h2,_⟩:=dd;exact⟨ob,h1,h2.2.1⟩
 ·obtain⟨_,hd,xs,_,dd⟩:=AM I.hok e;refine⟨dd.typeIs,fun b q=>?_,hd⟩;cases q;obtain⟨ob,_,_,h1,h2,_⟩:=dd;exact⟨ob,h1,h2.2.1⟩
section
variable{X:Cx}{pins:List (XW×Obj)}{σ:St}{H:Hp}{s:XT}{a:XW}{y d:V}{u r:XU}{o:Option V}{A:XZ}{E:XM}
theorem Su{Q:XM}(hu:A.units+1 < cLine)(I:ZD X pins σ H s)(g:ZZ H a y o)(ry:ZG y u)(rd:ZG d r)(h:∀w' s',ZD X pins σ H s'->ZG (o.getD d) w'->Q w' s') :
  wpAny (model X.prog X.w) A (call (.builtin "dict.get") [.ref a,u,r]) Q E s:=by
 rcases g with⟨kvs,k,e,ey,l⟩ | ⟨kvs,k,b,e,ey,eb,l⟩
 ·subst ey;obtain⟨z,hd,vs,rel,dd⟩:=JO I.hok e;refine call_meetsIn PySem.F.slot_dict_get dd.typeIs PySem.F.entry_dict_get (PySem.F.args_dict_get_3 _ _ _) (meets_dict_get_default (Wm X.prog X.w) a (Ai ry) hd r) ⟨_,dd.mapOf,h _ _ (I.tok _) ?_⟩;rw[l];exact(rel.val k).getD rd
 ·subst ey;cases (show u=Value.ref b from ry);obtain⟨z,hd,xs,rel,dd⟩:=AM I.hok e;refine call_meetsIn PySem.F.slot_dict_get dd.typeIs PySem.F.entry_dict_get (PySem.F.args_dict_get_3 _ _ _) (meetsH_dict_get_default (tupleKind (Wm X.prog X.w)) a b hd r) ⟨tupleKind_room_in1 hu,k,xs,Aw I.hok eb,dd,h _ _ (I.tok _) ?_⟩;rw[l];exact(rel.val k).getD rd
end
inductive Jy(ty tx:TE)(σ:St)(Q:VK)(x:V)(H1:Hp):Prop
 |mk(a)(_:x = .ref a)(_:EM H1 a)(_:ty σ H1 fun y H2=>tx σ H2 fun z H3=>∃o,ZZ H3 a y o/\Q (o.getD z) H3)
def Hy(td ty tx:TE):TE:=fun σ H Q=>td σ H fun x H1=>Jy ty tx σ Q x H1
theorem Oi(hu:X.A.units+1 < cLine)(ho:PE X o td)(he:PE X e ty)(hf:PE X f tx)(m:M2 X o "get" apos e f cpos):PE X (.Call (.Attribute o "get" apos) [e,f] [] cpos) (Hy td ty tx):=by
 intro pins s σ H Q I h;refine wpAny_Call_method m.base m.few m.line PySem.F.plainAttrs_dict PySem.F.slot_dict_get PySem.F.type_dict_get (thn (ho pins s σ H _ I h) fun u s1 ⟨x,H1,I1,rx,a,ex,d,q1⟩=>?_);subst ex;obtain rfl:u=Value.ref a:=rx;obtain⟨t1,t2,_⟩:=Gf I1 d;refine⟨t1,t2,?_⟩;rw[m.trees];refine Calls.callWith_builtin rfl (Calls.evalArgs_plain (Calls.spliced_cons (thn (he pins s1 σ H1 _ I1 q1) fun iv s2 ⟨y,H2,I2,ry,q2⟩=> Calls.spliced_cons (thn (hf pins s2 σ H2 _ I2 q2) fun fv s3 ⟨z,H3,I3,rz,ov,g,q3⟩=>Calls.spliced_nil ?_))));exact Su hu I3 g ry rz fun w' s4 I4 rw'=>⟨_,H3,I4,rw',q3⟩
section
variable{X:Cx}{pins:List (XW×Obj)}{σ:St}{H:Hp}{s:XT}{a:XW}{kvs:List (ZU×V)}{A:XZ}{E:XM}
end
section
variable{X:Cx}{pins:List (XW×Obj)}{σ:St}{H:Hp}{s:XT}{a:XW}{y:V}{u:XU}{A:XZ}{E:XM}
end
end L2
namespace Att
open PySem PySem.W PySem.Calls PyProof.Rows
theorem O7:∀ns vs,WellAll P h vs (ns.map WData.int)->IntsAre vs ns:=by
 intro ns
 induction ns with
 | nil =>
  intro vs w;rw[wE] at w;cases w;exact .nil
 | cons n ns ih =>
  intro vs w;rw[yL] at w;cases w with
  | cons a b =>
   cases a;exact .cons _ _ (ih _ b)
theorem NB{l:OpenLaw}{n:Nat}(hn:l.most=some n){P:Params}{h:Heap}{args:List WData}{vals:XQ}(hpre:l.row.toRowW.claim.pre args=true)(hwl:WellAll P h vals args) :
  ∃a vs ns,vals = [Value.ref a]/\args = [WData.list (ns.map WData.int)]/\h.get? a=some {cls:=.type "list", data:=.seq vs.toArray }/\IntsAre vs ns/\ns.length<=n:=by
 have hsh:WShape.hasAll [] args [.list .int]=true:=(pre_splitW hpre).1;have hc:l.pre.holds [] {args:=args }=true:=(pre_splitW hpre).2;obtain⟨d,r,rfl,h1,h2⟩:=hasAllW_cons hsh;obtain rfl:=hasAllW_nil h2;obtain⟨xs,rfl,h3⟩:=hasW_list h1;obtain⟨ns,rfl⟩:=items_int h3;have hlen:ns.length<=n:=by
  unfold OpenLaw.pre at hc;have h4:(WTm.not (.lt (.lit (.int (n:Int))) (.len (.arg 0)))).holds [] {args:=[.list (ns.map .int)] }=true:=by
   have h4:=(holds_andW hc).1;rw[hn] at h4;exact h4
  have h5:=condW_of h4 (w_not (w_lt w_lit (w_len_list (w_arg rfl))));rw[xA] at h5;refine Nat.le_of_not_lt fun q=>?_;have q':(n:Int) < ((ns.length:Nat):Int):=by lia
  first
   | (rw[yJ q'] at h5;exact absurd h5 aA)
   | (simp at h5;lia)
 cases hwl with
 | cons w1 w2 =>
  cases w2;cases w1 with
  | list ho hall=>exact⟨_,_,ns,rfl,rfl,ho,O7 ns _ hall,hlen⟩
theorem Nb(l:OpenLaw)(args:List WData):l.row.toRowW.claim.post args (.bool true) args=true :=
 postW_of (r:=l.row.toRowW) (X:=(true == true))
  (show WShape.has [] (.bool true) .bool=true by first | rfl | decide | simp[WShape.has,WShape.arms,WShape.armsAll])
  (show (WTm.eq .res (.lit (.bool true))).value [] {args:=args,res:=some (.bool true),after:=args }=some (.bool (true == true)) from w_eq_bool (w_res rfl) w_lit) rfl
theorem attach_call{l:OpenLaw}{n:Nat}{q:XX}{loose:XO}{XP:(XN)->Heap->Prop}{YP:XY->Heap->Prop}{d:DefRec}(hn:l.most=some n)(hdf:d.params.defaults = [])(call:∀w s₀ s₁ mg mb fa o pm cd doc a vs ns, Ground q loose [] XP w s₀ mg mb s₁.heap->YP w s₁.heap -> s₁.heap.get? fa=some o->o.data = .func (docDef d.name d.params d.body d.scope pm cd doc)->s₁.heap.CodeRec cd d.name->mg d.name=some (.ref fa)-> s₁.heap.get? a=some {cls:=.type "list", data:=.seq vs.toArray }->IntsAre vs ns->ns.length<=n->s₁.gens = #[]-> codeAny (model l.prog w) callerA (.call (.ref fa) ⟨[.ref a],[]⟩) (fun r s'=>r = .ok (.ret (.bool true))/\OldK s₁.heap s'.heap/\s'.os=s₁.os/\AllBare s'.gens) s₁) :
  WalkO q loose XP YP l.row.toRowW d [] (fun f vs=>PySem.call f vs):=by
 intro w s₀ s₁ mg mb G Y fa o pm cd doc dV kV ho hd hcd hD hmg hg args vals as hpre hlay hrd hwl hlo;obtain rfl:dV = .none:=Dflts.none hD hdf;obtain rfl:kV = .none:=Dflts.noKw hD;obtain⟨a,vs,ns,rfl,rfl,hobj,hints,hlen⟩:=NB hn hpre hwl;refine enter_call (codeAny_mono (call w s₀ s₁ mg mb fa o pm cd doc a vs ns G Y ho (fd_plain hd) hcd hmg hobj hints hlen hg) fun r s' hq=>?_);obtain⟨rfl,h2,h3,h4⟩:=hq;exact⟨.inl ⟨.bool true,.bool true,[],rfl,fun _=>rfl,.bool true,Nb l _,fun _=>⟨List.Pairwise.nil,fun _ hm=>(nomatch hm)⟩⟩,h2,h3,h4⟩
section
variable{prog:XX}{w:XY}{A:XZ}{E:XM}{s:XT}{K:Frag}
end
end Att
namespace L2
open PySem PySem.Spec PyProof.Rows
theorem IA:∀{vs:XQ}{ns:List Int},IntsAre vs ns->ZH (ns.map V.int) vs
 | _,_,.nil=>.nil
 | _,_,.cons n t h=>.cons ⟨t,rfl⟩ (IA h)
def DD(H:Hp):Prop:=∀b,H b=none\/∃o xs,H b=some (.frz o (.lst xs))
theorem Lm{P:XX}{w:XY}{K:uFg}{mg mb:XN}{CX:UT}{k:Nat}{fa a:XW}{fd:FuncData}{x:Str}{sp:Sp}{s₁:XT}{vs:XQ}{ns:List Int}(KX:K.In s₁.heap)(hns:s₁.heap.Ns mainGlobals mg)(hb:s₁.heap.Ns builtinsNs mb)(hbb:∀x:Str,x ≠ "__name__" -> mb x=bootBuiltins x)(hlim:s₁.heap.NoLimit)(hg:s₁.gens = #[])(ha:s₁.heap.get? a=some {cls:=.type "list", data:=.seq vs.toArray })(hi:IntsAre vs ns)(hl:ns.length<=sizeLine)(hr:ZM k callerA)(F:∀base:Heap,K.In base->base.Ns mainGlobals mg->YF P w K mg base CX k fa fd [x] sp)(hbind:∀s u,BindsTo s fd ⟨[u],[]⟩ [(x,u)])(hsp:∀H:Hp,DD H->ZF K H a (ns.map V.int)->sp [.ref a] H (fun v _=>v = .bl true) fun _ _ _=>False)(hCX:∀H e s',CX [] H s₁ (fun _ _ _=>False) e s'->False) :
  codeAny (model P w) callerA (.call (.ref fa) ⟨[.ref a],[]⟩) (fun r s'=>r = .ok (.ret (.bool true))/\OldK s₁.heap s'.heap/\s'.os=s₁.os/\AllBare s'.gens) s₁:=by
 have rv:=IA hi;have lenV:=hi.length;have core:∀H:Hp,DD H->ZF K H a (ns.map V.int)->YQ P w H s₁.heap->(∀b,H b≠none->b=a)->(H a≠none->K.lookup a=none)->
   codeAny (model P w) callerA (.call (.ref fa) ⟨[.ref a],[]⟩) (fun r s'=>r = .ok (.ret (.bool true))/\OldK s₁.heap s'.heap/\s'.os=s₁.os/\AllBare s'.gens) s₁:=by
  intro H hO hS hok hA hK;have base_of:∀{b:XW}{o:Obj},s₁.heap.get? b=some o->H b=none->(JI s₁.heap H).get? b=some o:=fun e n=>Sn e n;have noA:∀{b:XW}{o:Obj}{es:Array DictEntry}{ep:Nat},s₁.heap.get? b=some o->o.data = .dict es ep->H b=none:=fun {b o es ep} e d=>by grind
  have nsK:∀{b:XW}{m:XN},s₁.heap.Ns b m->(JI s₁.heap H).Ns b m:=fun {b m} ⟨o,es,ep,e,d,r⟩=>⟨o,es,ep,base_of e (noA e d),d,r⟩
  have hKb:K.In (JI s₁.heap H):=fun b o e=>base_of (KX b o e) (by
   cases q:H b with
   | none=>rfl
   | some u =>
    have e':b=a:=hA b (by rw[q];simp);subst e'
    rw[hK (by rw[q];simp)] at e;cases e)
  have hM:Mod K mg (JI s₁.heap H):=⟨hKb,nsK hns,⟨mb,nsK hb,hbb⟩,let ⟨mc,h1,h2⟩:=hlim;⟨mc,nsK h1,h2⟩⟩;have e0:UC P w K mg (JI s₁.heap H) callerA [] s₁ H:=⟨rfl,hM,fun b o e=>SZ e,Nat.le_of_eq (Qh _ _),trivial,fun b hb=>absurd (show b∈([]:XS) from hb) (by simp),hok,.of_eq hg⟩;refine codeAny_mono ((F _ hKb (nsK hns)).run callerA [] s₁ H ⟨[.ref a],[]⟩ [.ref a] [.ref a] _ _ hr e0 (hbind s₁ (.ref a)) (.cons rfl .nil) (hsp H hO hS)) fun r s' h=>?_;cases r with
  | error e=>exact(hCX H e s' h).elim
  | ok fl =>
   cases fl with
   | next=>exact False.elim h
   | brk=>exact False.elim h
   | cont=>exact False.elim h
   | ret u =>
    obtain⟨v,H',os,bare,un,hok',r',q⟩:=h;have q':v = .bl true:=q;subst q';obtain rfl:u=Value.bool true:=r';refine⟨rfl,OldK.of_keep fun b o e=>?_,os,bare⟩;cases q:H b with
    | none=>exact un.keep b o e q (by intro z;exact absurd (show b∈([]:XS) from z) (by simp)) (by simp)
    | some u =>
     rcases hO b with z | ⟨ob,xs,z⟩
     ·rw[q] at z;cases z
     ·have z2:=un.frzs b ob _ z;obtain⟨e1,_⟩:=hok b _ z;obtain⟨e2,_⟩:=hok' b _ z2;rw[e] at e1;cases e1;exact e2
 cases hk:K.lookup a with
 | some o =>
  have e:=KX a o hk;rw[ha] at e;cases e;refine core (fun _=>none) (fun _=>.inl rfl) (.inr ⟨_,vs.toArray,_,hk,rfl,rfl,rfl,by rw[xQ,lenV];exact hl,by simpa using rv⟩) (fun b u z=>by have z':(none:Option HO)=some u:=z;cases z') (fun b z=>absurd rfl z) fun z=>absurd rfl z
 | none =>
  refine core (fun b=>if b=a then some (.frz {cls:=.type "list", data:=.seq vs.toArray } (.lst (ns.map V.int))) else none) (fun b=>?_) (.inl (.inr ⟨{cls:=.type "list", data:=.seq vs.toArray },if_pos rfl⟩)) (fun b u z=>?_) (fun b z=>?_) fun _=>hk
  ·by_cases hb:b=a
   ·exact .inr ⟨_,_,if_pos hb⟩
   ·exact .inl (if_neg hb)
  ·by_cases hb:b=a
   ·have z':=(if_pos hb).symm.trans z;cases z';subst hb;exact⟨ha,by rw[xA];exact hl,vs,_,rv,ha⟩
   ·have z':=(if_neg hb).symm.trans z;cases z'
  ·by_cases hb:b=a
   ·exact hb
   ·exact absurd (if_neg hb) z
theorem walk_of{l:PySem.W.OpenLaw}{n k:Nat}{q:XX}{loose:XO}{XP:(XN)->Heap->Prop}{YP:XY->Heap->Prop}{d:DefRec}{K:Params->uFg}{CX:XY->UT}{sp:XY->Sp}{x:Str}(hn:l.most=some n)(hn2:n<=sizeLine)(hdf:d.params.defaults = [])(hr:ZM k callerA)(hY:∀ (w:XY) (h:Heap),YP w h->(K w.params).In h)(F:∀ (w:XY) (mg:XN) (fa:XW) (h:Heap),(K w.params).In h->h.Ns mainGlobals mg->mg d.name=some (.ref fa)-> ∃fd:FuncData,(∀ (s:XT) (u:XU),BindsTo s fd ⟨[u],[]⟩ [(x,u)])/\ ∀base:Heap,(K w.params).In base->base.Ns mainGlobals mg->YF l.prog w (K w.params) mg base (CX w) k fa fd [x] (sp w))(hsp:∀ (w:XY) (H:Hp) (a:XW) (ns:List Int),ns.length<=n->DD H->ZF (K w.params) H a (ns.map V.int)->sp w [.ref a] H (fun v _=>v = .bl true) fun _ _ _=>False)(hCX:∀ (w:XY) (H:Hp) (s:XT) (e:XU) (s':XT),CX w [] H s (fun _ _ _=>False) e s'->False) :
  PySem.W.WalkO q loose XP YP l.row.toRowW d [] (fun f vs=>PySem.call f vs):=by
 refine Att.attach_call hn hdf fun w s₀ s₁ mg mb fa o pm cd doc a vs ns G Y ho hd hcd hmg hobj hints hlen hg=>?_;have KX:=hY w _ Y;obtain⟨fd,hb,hF⟩:=F w mg fa _ KX G.T.g hmg;exact Lm KX G.T.g G.T.b G.T.builtins G.T.nolimit hg hobj hints (yC hlen hn2) hr hF hb (fun H hO hS=>hsp w H a ns hlen hO hS) fun H e s'=>hCX w H s₁ e s'
end L2
/- THE LAST THEOREM (shape;LID,My.* are yours):
   My.Adr: a structure of the addresses that your layer names (classes,functions);My.Txt K t: a structure (Prop) of the equations over K;
   My.txt_mk:{K} {implicit addresses ..} (e1:nsIn K mainGlobals "law" = some (some (.ref f))) (e2:K.lookup f=some ⟨oc,od,.func (fnOf "law" "law" params body scope dV kV doc pm an cdv ct),sl⟩) (e3:codeIn K cdv "law" = true) .. : ∃t,My.Txt K t
set_option maxRecDepth 100000 in
set_option maxHeartbeats 0 in
theorem PySem.Challenge.cw_LID_holds : PySem.Challenge.rw_LID.Holds := by
 w_on;o_law;k_head;(case hw=>w_witness2)
 k_fill
 refine L2.walk_of (l:=PySem.Challenge.rw_LID) (n:=63) (k:=40) (x:="script") (CX:=fun w=>..) (sp:=fun _=>My.sp_law) rfl aA rfl ⟨rfl,aA,aA⟩ (fun w h Y=>PySem.W.kIn_of Y) ?F ?S ?C
 case F =>
  intro w mg fa h KX G hmg;have T:∃t,My.Txt (L2.KOf KX) t:=by
   dsimp only [L2.KOf]                          -- K must stand as «<heap const> w.params» for k_is;refine' My.txt_mk ?e1 ?e2 ?e3 ..
   (case e1=>PySem.W.k_is)                    -- in the order: a name->its address->its object->its parts
   (case e2=>PySem.W.k_is)
   ..
  obtain⟨t,T⟩:=T;have e0:=hmg.symm.trans (PySem.W.mg_of KX G T.law);cases e0                                       -- fa is the law's own address;exact⟨_,fun s u=>.of_eq rfl,fun base kb nb=>My.law_fn T kb nb⟩     -- if «.of_eq rfl» comes too early: refine' ⟨_,?b,fun base kb nb=>My.law_fn T kb nb⟩;exact fun s u=>.of_eq rfl
 case S=>exact fun w H a ns hl hO hS=>..
 case C=>exact ..
(the tactic k_is has no namespace: write k_is) -/
namespace L2
open PySem PySem.Spec PyProof.Rows
def Yr(s:Stmt)(j:Nat):Stmt:=match s with
 | .ClassDef _ _ _ body _ _ _ _ _ _ _=>body.getD j (.Pass ⟨0,0,0,0⟩)
 | _=>.Pass ⟨0,0,0,0⟩
def Wy(s:Stmt):Arguments:=match s with
 | .FunctionDef _ a _ _ _ _ _ _ _ _=>a
 | _=>{posonlyargs:=[],args:=[],vararg:=none,kwonlyargs:=[],kw_defaults:=[],kwarg:=none,defaults:=[] }
def Yn(s:Stmt):List Stmt:=match s with
 | .FunctionDef _ _ b _ _ _ _ _ _ _=>b
 | _=>[]
def Zm(s:Stmt):Scope:=match s with
 | .FunctionDef _ _ _ _ _ _ sc _ _ _=>sc
 | _=>{kind:=.function,names:=[],isGenerator:=false,isCoroutine:=false }
abbrev WU:UT:=fun _ _ _ _ _ _=>False
abbrev E0:XK:=fun _ _ _=>False
theorem CZ:AA WU X E0:=fun _ _ _ _ _ _ _ h=>h.elim
structure UN (K:uFg) (x qual:Str) (st:Stmt) (f:XW) (fd:FuncData):Prop where
 ex:∃(oc:XU)(od:Option XW)(kV doc pm:XU)(an:Option XW)(cdv ct:XU)(osl:Array (Option XU)),
  fd=PySem.W.fnOf x qual (Wy st) (Yn st) (Zm st) .none kV doc pm an cdv ct/\K.lookup f=some ⟨oc,od,.func fd,osl⟩/\PySem.W.codeIn K cdv qual=true
 kp:PySem.W.keepIn K (.ref f)=true
section
variable{P:XX}{w:XY}{K:uFg}{mg:XN}{base:Heap}
theorem UN.ok{x qual:Str}{st:Stmt}{f:XW}{fd:FuncData}{N ps:XO}{k:Nat}{sp:Sp}(F:UN K x qual st f fd)(S:ZL N ps (Zm st))(len:∀vs H Q E,sp vs H Q E->vs.length=ps.length)(hbody:∀ (cdv:XU) (A:XZ) (outer:List Env) (s:XT) (H:Hp) (vs:aG) (Q:VK) (E:XK),ZM k (A.deeper (envOfC qual (Zm st) s.heap.objs.size f cdv))->sp vs H Q E -> ∃t,A9 (Y3 WU P w K mg base N qual (Zm st) f cdv A outer s H E).nox (Yn st) t/\t {nx:=fun _ H'=>Q .non H',rt:=Q } (start N vs) H):YF P w K mg base WU (k+1) f fd ps sp:=by
 obtain⟨oc,od,kV,doc,pm,an,cdv,ct,osl,rfl,lk,hcd⟩:=F.ex;refine IM lk hcd S len fun A outer s H vs Q E hr hsp=>?_;obtain⟨t,h,q⟩:=hbody cdv A outer s H vs Q E hr hsp;exact⟨t,h.nox,q⟩
theorem UN.binds{x qual:Str}{st:Stmt}{f:XW}{fd:FuncData}{ps:XO}(F:UN K x qual st f fd)(h:∀ (kV doc pm:XU) (an:Option XW) (cdv ct:XU) (us:XQ),us.length=ps.length->bindArgs (PySem.W.fnOf x qual (Wy st) (Yn st) (Zm st) .none kV doc pm an cdv ct) ⟨us,[]⟩=pure (ps.zip us)):YK K fd ps []:=by
 obtain⟨oc,od,kV,doc,pm,an,cdv,ct,osl,rfl,lk,hcd⟩:=F.ex;exact .all (h kV doc pm an cdv ct)
theorem DO{x qual:Str}{st:Stmt}{f:XW}{oc:XU}{od an:Option XW}{osl:Array (Option XU)}{kV doc pm cdv ct:XU}(l:K.lookup f=some ⟨oc,od,.func (PySem.W.fnOf x qual (Wy st) (Yn st) (Zm st) .none kV doc pm an cdv ct),osl⟩)(c:PySem.W.codeIn K cdv qual=true)(k:PySem.W.keepIn K (.ref f)=true):UN K x qual st f (PySem.W.fnOf x qual (Wy st) (Yn st) (Zm st) .none kV doc pm an cdv ct):=⟨⟨oc,od,kV,doc,pm,an,cdv,ct,osl,rfl,l,c⟩,k⟩
end
section
variable{X:Cx}
end
theorem Z4{A B:Prop}(h:B):if false=true then A else B:=by
 rw[if_neg xL];exact h
theorem Z7{A B:Prop}(h:A):if true=true then A else B:=by
 rw[if_pos rfl];exact h
def ZA(H H':Hp):Prop:=∀b o,H b=some o->H' b=some o
theorem ZA.refl(H:Hp):ZA H H:=fun _ _ h=>h
theorem ZA.trans(a:ZA H H1)(b:ZA H1 H2):ZA H H2:=fun c o h=>b c o (a c o h)
theorem ZA.free(e:ZA H H')(h:H' l=Option.none):H l=Option.none:=by
 cases q:H l with
 | none=>rfl
 | some o =>
  rw[e l o q] at h;cases h
theorem Xx:Jj X (.builtin "len") (fun xs H Q=>∃a kvs,xs = [V.ref a]/\H a=some (.dK kvs)/\Q (.int kvs.length) H):=by
 intro pins s σ H xs us Q I r h;obtain⟨a,kvs,rfl,ha,q⟩:=h;obtain⟨u,rfl,ru⟩:=Ja r;cases ru;exact LC I (.inl ha) fun t s' I'=>⟨.int kvs.length,H,I',⟨t,rfl⟩,q⟩
section
variable{κ:Type} [DecidableEq κ]
theorem Kb:∀{l:List κ}{k : κ},l.Nodup->¬k∈l->(l ++ [k]).Nodup
 | [],k,_,_=>by simp
 | a::r,k,h,hk=>by
  obtain⟨h1,h2⟩:=yG.mp h;show (a::(r ++ [k])).Nodup;refine yG.mpr ⟨fun m=>?_,Kb h2 fun m=>hk (xC.mpr (Or.inr m))⟩;rcases xJ.mp m with q | q
  ·exact h1 q
  ·exact hk (xC.mpr (Or.inl (xR.mp q).symm))
end
end L2
end
namespace L2
open PySem PySem.Spec PyProof.Rows
abbrev ccx(X:Cx)(scope:Scope)(cl:List (Str×XW))(C:XW)(N':XO)(s2:XT)(H2:Hp)(ex:XS)(pn:List (XW×Obj)):Cx where
 prog:=X.prog
 w:=X.w
 K:=X.K
 mg:=X.mg
 base:=X.base
 A:=X.A
 N:=N'
 s₀:=s2
 H₀:=H2
 env:=compEnvC scope cl C X.env
 outer:=X.stack
 stack:=X.stack
 ex:=ex
 fn:=fun _=>false
 calm:=X.calm
 pn:=pn
 xe:=fun _ _=>False
theorem DB(env:Env):∀(l:List (Str×NameKind))(cs:List (Str×XW)),(∀p∈l,p.2 = .free->∃c,env.cells.lookup p.1=some c)->
  ∃cl,(forIn l cs (fun(x:Str×NameKind) (r:List (Str×XW))=>if (x.2 == NameKind.free)=true then (do let a ← cellOf env x.1;pure (ForInStep.yield ((x.1,a)::r)):Sem (ForInStep (List (Str×XW)))) else pure (ForInStep.yield r)):Sem _)=pure cl /\
   (∀x c,cl.lookup x=some c->env.cells.lookup x=some c\/cs.lookup x=some c)/\(∀x,((x,NameKind.free)∈l\/∃c,cs.lookup x=some c)->∃c,cl.lookup x=some c)
 | [],cs,_=>⟨cs,rfl,fun x c h=>.inr h,fun x h=>h.elim (fun z=>nomatch z) id⟩
 | (n,k)::r,cs,h=>by
  have hr:∀p∈r,p.2 = .free->∃c,env.cells.lookup p.1=some c:=fun p hp=>h p (xN _ hp)
  by_cases hk:k = .free
  ·subst hk;obtain⟨c,hc⟩:=h (n,.free) xY rfl;obtain⟨cl,e,h1,h2⟩:=DB env r ((n,c)::cs) hr;refine⟨cl,?_,fun x d hx=>?_,fun x hx=>?_⟩
   ·rw[List.forIn_cons];have e2:cellOf env n=pure c:=by unfold cellOf;rw[hc]
    simp only[beq_self_eq_true,if_true,e2,pure_bind];exact e
   ·grind
   ·apply h2;rcases hx with hx | ⟨d,hx⟩
    ·grind
    ·grind
  ·obtain⟨cl,e,h1,h2⟩:=DB env r cs hr;refine⟨cl,?_,h1,fun x hx=>h2 x ?_⟩
   ·grind
   ·grind
theorem OC(h:∀p∈scope.names,p.2 = .free->∃c,env.cells.lookup p.1=some c) :
  ∃cl,closureFor scope env=pure cl/\(∀x c,cl.lookup x=some c->env.cells.lookup x=some c)/\(∀x,(x,NameKind.free)∈scope.names->∃c,cl.lookup x=some c):=by
 obtain⟨cl,e,h1,h2⟩:=DB env scope.names [] h;refine⟨cl,?_,fun x c hx=>(h1 x c hx).elim id (fun z=>nomatch z),fun x hx=>h2 x (.inl hx)⟩;unfold closureFor;have e':=congrArg (fun m:Sem (List (Str×XW))=>m >>= fun r=>pure r) e;simp only[pure_bind] at e';exact e'
theorem FU{env:Env}{kk:NameKind}(hkk:kk ≠ .free):∀{names:List (Str×NameKind)}{x:Str},names.lookup x=some kk ->
  (names.map fun(n,k)=>if (k == NameKind.free && env.scope.kind == .function && env.kindOf n == some .cell) then (n,NameKind.cell) else (n,k)).lookup x=some kk
 | [],_,h=>by simp at h
 | (n,k)::r,x,h=>by
  have ih:=@FU env kk hkk r x;show List.lookup x ((if (k == NameKind.free && env.scope.kind == .function && env.kindOf n == some .cell)=true then (n,NameKind.cell) else (n,k))::_)=_;cases hx:x == n with
  | true =>
   simp only[yU,hx] at h;have h:some k=some kk:=h;have h':k=kk:=Option.some.inj h;subst h';have e:(k == NameKind.free)=false:=by simpa using hkk
   rw[e,zW,zW,if_neg xL,yU,hx]
  | false =>
   simp only[yU,hx] at h
   by_cases hc:(k == NameKind.free && env.scope.kind == .function && env.kindOf n == some .cell)=true
   ·rw[if_pos hc];simp only[yU,hx];exact ih h
   ·rw[if_neg hc];simp only[yU,hx];exact ih h
theorem E7{env:Env}:∀{names:List (Str×NameKind)}{x:Str},names.lookup x=some .free ->
  ((names.map fun(n,k)=>if (k == NameKind.free && env.scope.kind == .function && env.kindOf n == some .cell) then (n,NameKind.cell) else (n,k)).lookup x=some .cell)\/
  ((names.map fun(n,k)=>if (k == NameKind.free && env.scope.kind == .function && env.kindOf n == some .cell) then (n,NameKind.cell) else (n,k)).lookup x=some .free)
 | [],_,h=>by simp at h
 | (n,k)::r,x,h=>by
  have ih:=@E7 env r x;show (List.lookup x ((if (k == NameKind.free && env.scope.kind == .function && env.kindOf n == some .cell)=true then (n,NameKind.cell) else (n,k))::_)=_)\/(List.lookup x ((if (k == NameKind.free && env.scope.kind == .function && env.kindOf n == some .cell)=true then (n,NameKind.cell) else (n,k))::_)=_);cases hx:x == n with
  | true =>
   simp only[yU,hx] at h;cases h
   by_cases hc:(NameKind.free == NameKind.free && env.scope.kind == .function && env.kindOf n == some .cell)=true
   ·rw[if_pos hc];simp[yU,hx]
   ·rw[if_neg hc];simp[yU,hx]
  | false =>
   simp only[yU,hx] at h
   by_cases hc:(k == NameKind.free && env.scope.kind == .function && env.kindOf n == some .cell)=true
   ·rw[if_pos hc];simp only[yU,hx];exact ih h
   ·rw[if_neg hc];simp only[yU,hx];exact ih h
theorem Ft(hcell:∀y∈scope.names,y.2 ≠ .cell)(h:(relabel scope env).names.lookup x=some .cell\/(relabel scope env).names.lookup x=some .free):(x,NameKind.free)∈scope.names:=by
 have m:∃k',(k'=NameKind.cell\/k'=NameKind.free)/\(x,k')∈(relabel scope env).names:=by
  rcases h with h | h
  ·exact⟨_,.inl rfl,PySem.mem_of_lookup h⟩
  ·exact⟨_,.inr rfl,PySem.mem_of_lookup h⟩
 obtain⟨k',hk,m⟩:=m;obtain⟨⟨n,k⟩,hm,e⟩:=zE.mp m;have e:(if (k == NameKind.free && env.scope.kind == .function && env.kindOf n == some .cell)=true then (n,NameKind.cell) else (n,k))=(x,k'):=e
 by_cases hc:(k == NameKind.free && env.scope.kind == .function && env.kindOf n == some .cell)=true
 ·grind
 ·grind
theorem SL(I:Nat->XT->Prop)(hEX:∀e s,EX e s->notedBy (model prog w) A env (fun x s'=>R (.error x) s') e s)(turn:∀n s,I n s->wpAny (model prog w) A (pyNext it) (fun r s₁=>match r with
   | none=>R (.ok .next) s₁
   | some v=>wpAny (model prog w) A (letOwnedTupleGo target it v) (fun _ s1=>wpAny (model prog w) A (assign target env v) (fun _ s₂ =>
     wpAny (model prog w) A (forIn ifs true fun c r=>if r=true then do let ok ← isTrue c env (eval c env);pure (ForInStep.yield ok) else pure (ForInStep.yield r)) (fun ok s₃ =>
      if ok=true then wpAny (model prog w) A (eval elt env) (fun x s₄ =>
       wpAny (model prog w) A (call (.builtin "list.append") [acc,x]) (fun _ s₅=>∃m,m < n/\I m s₅) (fun _ _=>False) s₄) EX s₃
      else ∃m,m < n/\I m s₃) (fun _ _=>False) s₂) (fun _ _=>False) s1) (fun _ _=>False) s₁) (fun _ _=>False) s)(n:Nat)(h:I n s) :
  codeAny (model prog w) A (.compLoop (.ListComp elt [⟨target,iter,ifs,0⟩] scope pos) 0 it acc env) R s:=by
 refine codeAny_loop rfl I (fun n s hI=>?_) n h;show wpAny _ A ((compTurn (.ListComp elt [⟨target,iter,ifs,0⟩] scope pos) 0 it acc env).onRaise (fun x=>do noteFrame x env;theTreesLotGoes x)) _ _ s;refine wpAny_noted ?_;rw[compTurn_list];refine wpAny_bind (wpAny_standAt (wpAny_bind (wpAny_mono (turn n s hI) (fun r s₁ h₁=>?_) fun _ _ h'=>h'.elim)));cases r with
 | none=>exact wpAny_pure h₁
 | some v =>
  refine wpAny_bind (wpAny_mono h₁ (fun _ s1 h1=>?_) fun _ _ h'=>h'.elim);refine wpAny_bind (wpAny_mono h1 (fun _ s₂ h₂=>wpAny_bind (wpAny_mono h₂ (fun ok s₃ h₃=>?_) fun _ _ h'=>h'.elim)) fun _ _ h'=>h'.elim);cases ok with
  | false=>exact wpAny_pure ⟨rfl,h₃⟩
  | true =>
   exact wpAny_bind (wpAny_bind (wpAny_mono h₃ (fun x s₄ h₄=>wpAny_bind (wpAny_mono h₄ (fun _ s₅ h₅=>wpAny_pure (wpAny_pure ⟨rfl,h₅⟩)) fun _ _ h'=>h'.elim)) fun e s h'=>hEX e s h'))
abbrev Tj:=St->Hp->(Bool->Hp->Prop)->Prop
def BC(X:Cx)(ifs:List Expr)(t:Tj):Prop :=
 ∀(pins:List (XW×Obj))(s:XT)(σ:St)(H:Hp)(Q:Bool->Hp->Prop),ZD X pins σ H s->t σ H Q ->
  wpAny (model X.prog X.w) X.A (forIn ifs true fun c r=>if r=true then do let ok ← isTrue c X.env (eval c X.env);pure (ForInStep.yield ok) else pure (ForInStep.yield r)) (TP X pins σ Q) X.xe s
theorem NC(h:PT X c t):BC X [c] t:=fun pins s σ H Q I hw=>wpAny_tests_one (h pins s σ H Q I hw)
structure WA (X:Cx) (scope:Scope) (fr:List (Str×Nat)):Prop where
 slots:∀p∈fr,X.N[p.2]? = some p.1/\(X.env.kindOf p.1=some .cell\/X.env.kindOf p.1=some .free)
 kind:∀p∈fr,scope.names.lookup p.1=some .free
def inN(locs:XO)(fr:List (Str×Nat)):List Str:=locs++fr.map (·.1)
def inS(locs:XO)(fr:List (Str×Nat))(σ:St):St:=List.replicate locs.length none++fr.map fun p=>(σ[p.2]?).join
def inF(fr:List (Str×Nat))(σ:St):St:=fr.map fun p=>(σ[p.2]?).join
def Vp(n:Nat)(fv:St)(g:TG)(tt:Tj)(te:TE)(x:V)(H:Hp)(Y:V->Hp->Prop)(N:Hp->Prop):Prop :=
 ∀ls:St,ls.length=n->g x (ls++fv) H fun σ2 H2=>(∃l2:St,l2.length=n /\ σ2=l2++fv)/\tt σ2 H2 fun b H3=>if b=true then te σ2 H3 Y else N H3
def Ul(J:It)(n:Nat)(fv:St)(g:TG)(tt:Tj)(te:TE)(Q:VK)(H1:Hp):Prop:=∃W:Nat->Nat->List V->Hp->Prop,(∃m,W 0 m [] H1)/\∀i m ys H,W i m ys H ->
 (J.stop i H/\ys.length<=sizeLine/\∀l,H l=none->Q (.ref l) (upd H l (.lst ys)))\/
 (J.go i H/\ys.length < sizeLine/\∃m',m' < m/\∀x H',J.yld i H x H'->Vp n fv g tt te x H' (fun y H4=>W (i+1) m' (ys ++ [y]) H4) fun H3=>W (i+1) m' ys H3)
def Dl(n:Nat)(fr:List (Str×Nat))(wi:TI)(g:TG)(tt:Tj)(te:TE):TE:=fun σ H Q=>wi σ H fun J H1=>Ul J n (inF fr σ) g tt te Q H1
theorem OS(ok:YQ P w H h)(hn:H D=none)(new:ZO P w (upd H D o) h D o):YQ P w (upd H D o) h:=fun b u e=>by
 by_cases hb:b=D
 ·subst hb;rw[Zi] at e;cases e;exact new
 ·rw[Ze hb] at e;exact(ok b u e).stay (fun _ _ _ q=>q) (fun c q=>by rw[Ze (Zl q hn)];exact q) fun c xs q=>by rw[Ze (Zl q hn)];exact q
section
variable{X:Cx}{scope:Scope}{locs:XO}{fr:List (Str×Nat)}
theorem EZ{pins:List (XW×Obj)}{σ:St}{H1:Hp}{s2:XT}{it:XW}{fp:XS}{tn:Nat->Heap->Prop}{J:It}{cl:List (Str×XW)}{E:XM}{RR:XU->XW->Result->XT->Prop}{QQ:List V->Hp->Prop}{EE:Hp->XU->XT->Prop}(hc:X.calm=true)(hkind:scope.kind = .function)(hcell:∀y∈scope.names,y.2 ≠ .cell)(hlo:∀x∈locs,scope.names.lookup x=some .local)(F:WA X scope fr)(hnd:(inN locs fr).Nodup)(cl1:∀x c,cl.lookup x=some c->X.env.cells.lookup x=some c)(cl2:∀x,(x,NameKind.free)∈scope.names->∃c,cl.lookup x=some c)(inner:∀ (C:XW) (s0:XT) (H0:Hp) (ex:XS) (pn:List (XW×Obj)),PG (ccx X scope cl C (inN locs fr) s0 H0 ex pn) tg g/\BC (ccx X scope cl C (inN locs fr) s0 H0 ex pn) ifs tt)(hel:∀ (C:XW) (pE:List (XW×Obj)) (s:XT) (σ':St) (H:Hp) (Y:VK),(∀b∈fp,∃o,(b,o)∈pE)->ZD (ccx X scope cl C (inN locs fr) s2 H1 fp (X.pn++pins)) pE σ' H s->te σ' H Y -> wpAny (model X.prog X.w) X.A (eval elt (compEnvC scope cl C X.env)) (EP (ccx X scope cl C (inN locs fr) s2 H1 fp (X.pn++pins)) pE σ' Y) (fun e s'=>∃pE' σ2 H',ZD (ccx X scope cl C (inN locs fr) s2 H1 fp (X.pn++pins)) pE' σ2 H' s'/\EE H' e s') s)(hER:∀ (D C:XW) (H':Hp) (e:XU) (s':XT) (m:XN),ZD X pins σ H' s'->Uf X pins H' C->s'.heap.Ns C m->EE H' e s'->notedBy (model X.prog X.w) X.A (compEnvC scope cl C X.env) (fun x s''=>RR (.ref D) C (.error x) s'') e s')(I:ZD X pins σ H1 s2)(T:VQ X.prog X.w X.K tg J fp it tn)(st0:tn 0 s2.heap)(hf:∀b∈fp,Uf X pins H1 b){W:Nat->Nat->List V->Hp->Prop}(w0:∃m,W 0 m [] H1)(turn:∀i m ys H,W i m ys H -> (J.stop i H/\ys.length<=sizeLine/\QQ ys H)\/ (J.go i H/\ys.length < sizeLine/\∃m',m' < m/\∀x H',J.yld i H x H'->Vp locs.length (inF fr σ) g tt te x H' (fun y H4=>W (i+1) m' (ys ++ [y]) H4) fun H3=>W (i+1) m' ys H3))(hRR:∀ (D C:XW) (ys:aG) (H':Hp) (s':XT) (m:XN),H' D=none->D≠C->ZD X pins σ (upd H' D (.lst ys)) s'->Uf X pins (upd H' D (.lst ys)) C->s'.heap.Ns C m->QQ ys H'->RR (.ref D) C (.ok .next) s') :
  wpAny (model X.prog X.w) X.A (newList []) (fun acc s₃=>wpAny (model X.prog X.w) X.A (newFunctionEnv scope X.env.globals cl [] X.env.qual none .none (some X.env)) (fun cenv s₄ => codeAny (model X.prog X.w) X.A (.compStart (.ListComp elt [⟨tg,iter,ifs,0⟩] scope pos) 0 (.ref it) acc {cenv with scope:=relabel scope X.env }) (RR acc cenv.locals) s₄) E s₃) E s2:=by
 refine wpAny_newObj_type (wpAny_newFunctionEnv hcell (by intro y hy;simp at hy) (fun h₁ hns₁ hsb₁=>?_) hkind);dsimp only at hns₁ hsb₁ ⊢;generalize hH2:s2.heap.push {cls:=.type "list", dict:=none,data:=.seq ([]:XQ).toArray }=Hq at hns₁ hsb₁ ⊢;have hC:Hq.objs.size=s2.heap.objs.size+1:=by rw[← hH2,zX]
 generalize hDe:s2.heap.objs.size=D at hC ⊢;generalize hCe:Hq.objs.size=C at hC hns₁ hsb₁ ⊢;have hDC:D≠C:=by lia
 have below:∀b,b < D->b≠C/\b≠D:=fun b hb=>⟨by lia,by lia⟩;have ltD:∀{b:XW}{o:Obj},s2.heap.get? b=some o->b < D:=fun e=>hDe▸xS e;have old:∀b o,s2.heap.get? b=some o->h₁.get? b=some o:=fun b o e=>hsb₁.extBut b o (below b (ltD e)).1 (xG _ (hH2▸xG _ e));have hacc:h₁.PlainList D #[]:=⟨_,hsb₁.extBut _ _ hDC (xG _ (by subst hDe;exact hH2▸xV _ rfl))⟩
 let X':Cx:=ccx X scope cl C (inN locs fr) s2 H1 fp (X.pn++pins)
 have ltC:s2.heap.objs.size<=C:=by rw[hDe,hC];exact Nat.le_succ _
 have fpC:Uf X pins H1 C:=I.fpOk ltC (I.hok.fresh ltC);have fpD:Uf X pins H1 D:=I.fpOk (Nat.le_of_eq hDe) (I.hok.fresh (Nat.le_of_eq hDe));have stkN:∀b,b≠X.env.locals->b∉X.fs->b∉frs X.stack:=fun b h1 h2 z=>(xC.mp (I.stkSub b z)).elim h1 h2;have ok':X'.Ok:=by
  refine⟨I.ok.mod,hkind,I.ok.glob,I.ok.blt,ltC,fun x y c h1 h2=>I.ok.inj x y c (cl1 x c h1) (cl1 y c h2),fun x hx=>?_,fun x c h=>?_,I.ok.hd,I.ok.frames,.inl rfl,fun b hb=>?_,fun b o e=>I.bs b o e,yC I.ok.bsz I.sz,fun b o e hb=>?_,fun b hb=>?_,I.stack,I.stkFree⟩
  ·obtain⟨c,hcc⟩:=cl2 x (Ft hcell hx);exact⟨c,hcc⟩
  ·cases h
  ·refine⟨fun z=>?_,fun x c e=>(hf b hb).2.2.2.2.1 x c (cl1 x c e)⟩;obtain⟨o,ho,_⟩:=T.obj _ _ st0 b hb;have z':b=C:=z;exact(below b (ltD ho)).1 z'
  ·have hb':=hf b hb;rcases hb'.2.2.2.1 with z | z
   ·exact I.ok.noex b o e z
   ·exact absurd (yI (xS e) (yC I.ok.bsz z)) (zQ _)
  ·exact stkN b (hf b hb).2.1 (hf b hb).2.2.1
 have I1:ZD X' [] (inS locs fr σ) H1 {s2 with heap:=h₁,toks:=s2.toks+([]:List (Str×XU)).length }:=by
  refine⟨ok',I.os.symm▸rfl,I.bare,Un.kept old,⟨_,hns₁,fun i x v h1 h2 h3=>?_⟩,fun x c e=>?_,I.hok.fresh ltC,fun x c e=>I.freeC x c (cl1 x c e),fun p hp=>?_,I.hok.kept old,?_⟩
  ·-- a slot of the block that has a value is a free name's
   have hge:locs.length<=i:=by
    by_cases hi:i < locs.length
    ·unfold inS at h2;rw[zV (by simpa using hi),List.getElem?_replicate,if_pos hi] at h2;cases h2
    ·lia
   have h1':(fr.map (·.1))[i - locs.length]? = some x:=by
    have h1:(inN locs fr)[i]? = some x:=h1;unfold inN at h1;rw[List.getElem?_append_right hge] at h1;exact h1
   have h2':(fr.map fun p=>(σ[p.2]?).join)[i - locs.length]? = some (some v):=by
    unfold inS at h2;rw[List.getElem?_append_right (by simpa using hge),zP] at h2;exact h2
   rw[xE] at h1' h2';cases e:fr[i - locs.length]? with
   | none=>rw[e] at h1';cases h1'
   | some p =>
    rw[e] at h1' h2';have ex:p.1=x:=Option.some.inj h1';have ev:(σ[p.2]?).join=some v:=Option.some.inj h2';obtain⟨f1,f2⟩:=F.slots p (xM e);have ev' : σ[p.2]? = some (some v):=by grind
    obtain⟨m0,hn0,hl0⟩:=I.loc;have vis0:CT X.env.scope p.1:=by
     rcases f2 with z | z
     ·exact .inr (.inl z)
     ·exact .inr (.inr z)
    obtain⟨u,ru,lk⟩:=hl0 p.2 p.1 v f1 ev' vis0;have hxm:x∉locs:=fun z=>by
     have hnd':=hnd;unfold inN at hnd';exact(List.nodup_append.mp hnd').2.2 x z x (zE.mpr ⟨p,xM e,ex⟩) rfl
    refine⟨u,ru,?_⟩;rcases lk with⟨hk,_⟩ | ⟨hk,c,hcc,hce⟩
    ·rcases f2 with z | z
     ·rw[z] at hk;cases hk
     ·rw[z] at hk;cases hk
    ·-- in the block it is a cell or free name
     have h3:CT (relabel scope X.env) x:=h3;have hk':(compEnvC scope cl C X.env).kindOf x=some .cell\/(compEnvC scope cl C X.env).kindOf x=some .free:=by
      rcases h3 with z | z | z
      ·exfalso;have q:=E7 (env:=X.env) (F.kind p (xM e));rw[ex] at q;rcases q with q | q
       ·have z':some NameKind.local=some NameKind.cell:=z.symm.trans q;cases z'
       ·have z':some NameKind.local=some NameKind.free:=z.symm.trans q;cases z'
      ·exact .inl z
      ·exact .inr z
     obtain⟨c',hc'⟩:=cl2 x (Ft hcell hk');have:=cl1 x c' hc';rw[← ex,hcc] at this;cases this;refine .inr ⟨hk',c,hc',?_⟩;obtain⟨o,ho,hd⟩:=hce;exact⟨o,old _ _ ho,hd⟩
  ·obtain⟨v,o,ho,hd⟩:=I.cell x c (cl1 x c e);exact⟨v,o,old _ _ ho,hd⟩
  ·have hp':p∈X.pn++pins:=(xJ.mp hp).elim id fun z=>nomatch z;obtain⟨e,n,ne,nf,d⟩:=I.pin p hp';exact⟨old _ _ e,n,(below _ (ltD e)).1,stkN _ ne nf,d⟩
  ·show (inS locs fr σ).length=(inN locs fr).length;unfold inS inN;simp
 have fpLt:∀b∈fp,b < D:=fun b hb=>by
  obtain⟨o,ho,_⟩:=T.obj _ _ st0 b hb;exact ltD ho
 obtain⟨m0,w0⟩:=w0
 let oD:List XU->Nat->Obj:=fun its k=>{cls:=.type "list", data:=.seq its.toArray k }
 have stat:∀{H':Hp}{ob:Obj},(∀b∈fp,H' b=none)->∀b∈fp,Uf X' [(D,ob)] H' b:=fun {H' ob} hn b hb=>by
  obtain⟨f0,f1,f2,f3,f4,f5⟩:=hf b hb;refine⟨hn b hb,(below b (fpLt b hb)).1,stkN b f1 f2,.inl hb,fun x c e=>f4 x c (cl1 x c e),fun p hp z=>?_⟩;rcases xJ.mp hp with q | q
  ·exact f5 p q z
  ·grind
 have loop:∀s₃:XT,s₃={s2 with heap:=h₁,toks:=s2.toks+([]:List (Str×XU)).length }->
   codeAny (model X.prog X.w) X.A (.compLoop (.ListComp elt [⟨tg,iter,ifs,0⟩] scope pos) 0 (.ref it) (.ref D) (compEnvC scope cl C X.env)) (RR (.ref D) C) s₃:=by
  rintro s₃ rfl;refine SL (fun n s'=>∃(i:Nat)(ls:St)(H':Hp)(ys:aG)(its:XQ)(k:Nat),ls.length=locs.length/\ZD X' [(D,oD its k)] (ls++inF fr σ) H' s'/\tn i s'.heap/\(∀b∈fp,H' b=none)/\ZH ys its/\W i n ys H') (EX:=fun e s'=>∃pE' σ2 H',ZD X' pE' σ2 H' s'/\EE H' e s') ?_ ?_ m0 ?_
  ·rintro e s4 ⟨pE',σ2,H3,I4,q⟩;obtain⟨mC,hnC,_⟩:=I4.loc;have hnC:s4.heap.Ns C mC:=hnC;have nC:H3 C=none:=I4.free;have I5:ZD X pins σ H3 s4:=I.call' (ch:=fp) (show s4.os=s2.os from I4.os) I4.base I4.hok I4.bare fun b hb=>by
    obtain⟨f0,f1,f2,f3,f4,f5⟩:=hf b hb;exact⟨f3,f1,f4,f5⟩
   exact hER D C H3 e s4 mC I5 (I.fpOk ltC nC) hnC q
  ·rintro n s3 ⟨i,ls,H3,ys,its,k,hls,I3,st3,fr3,rv,w3⟩;rcases turn i n ys H3 w3 with⟨stop,hz,q⟩ | ⟨go,hz,m',hm,step⟩
   ·refine thn (T.done X' rfl rfl rfl hc i _ s3 _ H3 (fun _ _=>False) I3 (stat fr3) st3 stop) fun r s4 ⟨hr,I4⟩=>?_;subst hr;obtain⟨pD,nD,_,_,_⟩:=I4.pin (D,oD its k) (xI _ xY);have nD:H3 D=none:=nD;obtain⟨mC,hnC,_⟩:=I4.loc;have hnC:s4.heap.Ns C mC:=hnC;have nC:H3 C=none:=I4.free;have new:ZO X.prog X.w (upd H3 D (.lst ys)) s4.heap D (.lst ys):=⟨hz,its,k,rv,pD⟩;have hok4:YQ X.prog X.w (upd H3 D (.lst ys)) s4.heap:=OS I4.hok nD new;have u4:Un (frs X.stack) fp H1 H3 s2.heap s4.heap:=I4.base;have u5:Un (frs X.stack) fp H1 (upd H3 D (.lst ys)) s2.heap s4.heap:=by
     refine⟨u4.keep,u4.slot,fun b o e n hx=>?_,u4.there,fun b xs e=>?_,fun b o u e=>?_,fun b ps e=>?_⟩
     ·rw[Ze (below b (ltD e)).2];exact u4.free b o e n hx
     ·rw[Ze (Zl e fpD.1)];exact u4.tups b xs e
     ·rw[Ze (Zl e fpD.1)];exact u4.frzs b o u e
     ·rw[Ze (Zl e fpD.1)];exact u4.tbls b ps e
    have I5:ZD X pins σ (upd H3 D (.lst ys)) s4:=by
     refine I.call' (ch:=fp) ?_ u5 hok4 I4.bare fun b hb=>?_
     ·have:s4.os=s2.os:=I4.os;exact this
     ·obtain⟨f0,f1,f2,f3,f4,f5⟩:=hf b hb;exact⟨f3,f1,f4,f5⟩
    have fpC':Uf X pins (upd H3 D (.lst ys)) C:=I.fpOk ltC (by rw[Ze hDC.symm];exact nC);exact hRR D C ys H3 s4 mC nD hDC I5 fpC' hnC q
   ·refine thn (T.item X' rfl rfl rfl hc i _ s3 _ H3 (fun _ _=>False) I3 (stat fr3) st3 go) fun r s4 ⟨u,hr,h4⟩=>?_;subst hr;refine thn h4 fun _ s5 ⟨x,H5,I5,r5,y5,st5,fr5⟩=>?_;obtain⟨hg,htt⟩:=inner C s2 H1 fp (X.pn++pins);have I5':=I5.pinned (stat fr5) (T.obj _ _ st5);refine thn (hg _ s5 _ H5 x u _ I5' r5 (step x H5 y5 ls hls)) fun _ s6 ⟨σ6,H6,I6,⟨l6,hl6,e6⟩,q6⟩=>?_;subst e6;refine thn (htt _ s6 _ H6 _ I6 q6) fun ok s7 ⟨H7,I7,q7⟩=>?_;have again:∀{H8:Hp}{s8:XT},ZD X' ([(D,oD its k)]++AF fp s5.heap) (l6++inF fr σ) H8 s8->tn (i+1) s8.heap/\∀b∈fp,H8 b=none:=fun {H8 s8} I8=>by
     refine⟨T.keep _ _ _ st5 fun b hb o e=>(I8.pin (b,o) (xI _ (xI _ (Bz hb e)))).1,fun b hb=>?_⟩;obtain⟨o,e,d⟩:=T.obj _ _ st5 b hb;exact(I8.pin (b,o) (xI _ (xI _ (Bz hb e)))).2.1
    cases ok with
    | false =>
     rw[if_neg xL] at q7 ⊢;obtain⟨a1,a2⟩:=again I7;exact⟨m',hm,i+1,l6,H7,ys,its,k,hl6,I7.unpinned,a1,a2,rv,q7⟩
    | true =>
     rw[if_pos rfl] at q7 ⊢;refine thn (hel C _ s7 _ H7 _ (fun b hb=>let ⟨o,ho,_⟩:=T.obj _ _ st5 b hb;⟨o,xI _ (Bz hb ho)⟩) I7 q7) fun yv s8 ⟨y,H8,I8,r8,q8⟩=>?_;obtain⟨a1,a2⟩:=again I8;obtain⟨pD,nD,_,nfD,_⟩:=I8.pin (D,oD its k) (xI _ (yQ _ xY));have nD:H8 D=none:=nD;have hl8:s8.heap.PlainList D its.toArray:=⟨k,pD⟩;have hlen:its.toArray.size<=sizeLine:=by
      rw[xQ,← rv.length];lia
     refine wpAny_list_append_plain (hsz:=hlen) hl8 fun h9 hl9 hs9=>?_;obtain⟨k9,e9⟩:=hl9;have I9:ZD X' (AF fp s5.heap) (l6++inF fr σ) H8 s8:=I8.pins_of fun p hp=>I8.pin p (xI _ (xI _ hp));have I10:ZD X' (AF fp s5.heap) (l6++inF fr σ) H8 {s8 with heap:=h9 }:=by
      refine I9.turned (it:=D) (t':=s8.toks) (fun b o hb e=>(hs9.2 b hb).trans e) nD ?_ ?_ ?_ ?_
      ·exact hDC
      ·exact .inr (Nat.le_of_eq hDe)
      ·exact fun x c e=>fpD.2.2.2.2.1 x c (cl1 x c e)
      ·intro p hp z;rcases xJ.mp hp with q | q
       ·exact fpD.2.2.2.2.2 p q z
       ·have:=fpLt p.1 (Hz q).1;exact(below p.1 this).2 z
     have e9':h9.get? D=some (oD (its ++ [yv]) k9):=by
      rw[e9];simp[oD]
     have I11:ZD X' [(D,oD (its ++ [yv]) k9)] (l6++inF fr σ) H8 {s8 with heap:=h9 }:=I10.pins_of fun p hp=>by grind
     refine⟨m',hm,i+1,l6,H8,ys ++ [y],its ++ [yv],k9,hl6,I11,?_,a2,ZH.append rv (.cons r8 .nil),q8⟩;exact T.keep _ _ _ a1 fun b hb o e=>(hs9.2 b (below b (fpLt b hb)).2).trans e
  ·have e0:List.replicate locs.length none++inF fr σ=inS locs fr σ:=rfl;obtain⟨k0,eD⟩:=hacc;refine⟨0,List.replicate locs.length none,H1,[],[],k0,by simp,?_,T.keep _ _ _ st0 fun b _ o e=>old b o e,fun b hb=>(hf b hb).1,.nil,w0⟩;rw[e0];refine I1.pins_of fun p hp=>?_;have e:p=(D,oD [] k0):=by simpa using hp
   subst e;exact⟨eD,fpD.1,hDC,stkN D fpD.2.1 fpD.2.2.1,fun v z=>by cases z⟩
 exact codeAny_compStart_list (loop _ rfl) (T.self _ 0 _ _ _ (T.keep _ _ _ st0 fun b _ o e=>old b o e) (loop _ rfl))
structure WE (X:Cx) (scope:Scope) (locs:XO) (fr:List (Str×Nat)):Prop where
 kind:scope.kind = .function
 nocell:∀y∈scope.names,y.2 ≠ .cell
 names:∀y∈scope.names,y.2 = .local->scope.names.lookup y.1=some .local
 own:∀x∈locs,scope.names.lookup x=some .local
 free:∀y∈scope.names,y.2 = .free->y.1∈fr.map (·.1)
 nd:(inN locs fr).Nodup
theorem WA.nil:WA X scope []:=⟨(fun _ h=>nomatch h),(fun _ h=>nomatch h)⟩
theorem WA.cons(h1:X.N[j]? = some x)(h2:X.env.kindOf x=some .cell\/X.env.kindOf x=some .free)(h3:scope.names.lookup x=some .free)(t:WA X scope fr):WA X scope ((x,j)::fr) :=
 ⟨fun p hp=>(xC.mp hp).elim (fun e=>by subst e;exact⟨h1,h2⟩) (t.slots p),fun p hp=>(xC.mp hp).elim (fun e=>by subst e;exact h3) (t.kind p)⟩
theorem WE.clos{pins:List (XW×Obj)}{σ:St}{H:Hp}{s:XT}(S:WE X scope locs fr)(F:WA X scope fr)(I:ZD X pins σ H s) :
  ∃cl,closureFor scope X.env=pure cl/\(∀x c,cl.lookup x=some c->X.env.cells.lookup x=some c)/\(∀x,(x,NameKind.free)∈scope.names->∃c,cl.lookup x=some c):=by
 refine OC fun p hp hk=>?_;obtain⟨q,hq,e⟩:=zE.mp (S.free p hp hk);obtain⟨c,hc⟩:=I.ok.has q.1 (F.slots q hq).2;exact⟨c,e▸hc⟩
theorem Ph(S:WE X scope locs fr)(F:WA X scope fr)(hc:X.calm=true)(hi:PI X tg iter wi)(inner:∀cl C s0 H0 ex pn,PG (ccx X scope cl C (inN locs fr) s0 H0 ex pn) tg g/\BC (ccx X scope cl C (inN locs fr) s0 H0 ex pn) ifs tt/\PE (ccx X scope cl C (inN locs fr) s0 H0 ex pn) elt te)(hs:∀x,foldedSetIterable iter X.env x=pure x:=by intro _;rfl):PE X (.ListComp elt [⟨tg,iter,ifs,0⟩] scope pos) (Dl locs.length fr wi g tt te):=by
 intro pins s σ H Q I h;obtain⟨cl,hcl,cl1,cl2⟩:=S.clos F I;rw[eval_ListComp];refine wpAny_comprehension_free (use:=none) rfl hs hcl S.kind S.names (thn (hi pins s σ H _ I h) fun v s1 h1=>thn h1 fun itv s2 h2=>?_);obtain⟨it,fp,tn,J,H1,e,I2,T,st2,f2,W,w0,turn⟩:=h2;subst e;refine EZ (QQ:=fun ys H'=>∀l,H' l=none->Q (.ref l) (upd H' l (.lst ys))) (EE:=fun _ _ _=>False) hc S.kind S.nocell S.own F S.nd cl1 cl2 (fun C s0 H0 ex pn=>let ⟨a,b,_⟩:=inner cl C s0 H0 ex pn;⟨a,b⟩) (fun C pE s σ' H Y _ I h=>wpAny_mono ((inner cl C s2 H1 fp (X.pn++pins)).2.2 pE s σ' H Y I h) (fun _ _ q=>q) fun _ _ z=>z.elim) (fun _ _ _ _ _ _ _ _ _ z=>z.elim) I2 T st2 f2 w0 turn fun D C ys H' s' m nD hDC I' fC hn q=>?_;refine⟨m,hn,fun h' hs'=>?_⟩;obtain⟨f0,f1,f2,f3,f4,f5⟩:=fC;exact⟨.ref D,_,I'.turned (it:=C) (t':=s'.toks) (fun b o hb e=>(hs'.2 b hb).trans e) f0 f1 f3 f4 f5,rfl,q D nD⟩
theorem RP(S:WE X scope locs fr)(F:WA X scope fr)(hc:X.calm=true)(hi:PI X tg iter wi)(inner:∀cl C s0 H0 ex pn,PG (ccx X scope cl C (inN locs fr) s0 H0 ex pn) tg g/\BC (ccx X scope cl C (inN locs fr) s0 H0 ex pn) ifs tt/\PE (ccx X scope cl C (inN locs fr) s0 H0 ex pn) elt te)(hN:X.N.Nodup)(hi0:X.N[i]? = some x)(hx:X.env.scope.names.lookup x=some .local)(hsw:swapsWith (.ListComp elt [⟨tg,iter,ifs,0⟩] scope pos) (some (.Name x pos')) spos.line X.env=pure true)(hs:∀x,foldedSetIterable iter X.env x=pure x:=by intro _;rfl):PS X (.Assign [.Name x pos'] (.ListComp elt [⟨tg,iter,ifs,0⟩] scope pos) spos) (Jn (Dl locs.length fr wi g tt te) (Wp i)):=by
 intro pins s σ H D0 I h;obtain⟨cl,hcl,cl1,cl2⟩:=S.clos F I;rw[exec_Assign_Name_used _ _ _ _ hsw];refine wpAny_bind (wpAny_standAt (wpAny_bind ?_));show wpAny _ X.A (do let _ ← comprehension (.ListComp elt [⟨tg,iter,ifs,0⟩] scope pos) scope X.env _ (newList []) false (eval iter X.env) (some (assign (.Name x pos') X.env))) _ _ s;refine wpAny_bind (wpAny_mono (wpAny_comprehension_free (use:=some (assign (.Name x pos') X.env)) (Q:=fun _ s'=>SP X pins D0 .next s') rfl hs hcl S.kind S.names (thn (hi pins s σ H _ I h) fun v s1 h1=>thn h1 fun itv s2 h2=>?_)) (fun _ s' hq=>wpAny_pure (wpAny_pure hq)) fun _ _ e=>e);obtain⟨it,fp,tn,J,H1,e,I2,T,st2,f2,W,w0,turn⟩:=h2;subst e;refine EZ (QQ:=fun ys H'=>∀l,H' l=none->Wp i (.ref l) σ (upd H' l (.lst ys)) D0.nx) (EE:=fun _ _ _=>False) hc S.kind S.nocell S.own F S.nd cl1 cl2 (fun C s0 H0 ex pn=>let ⟨a,b,_⟩:=inner cl C s0 H0 ex pn;⟨a,b⟩) (fun C pE s σ' H Y _ I h=>wpAny_mono ((inner cl C s2 H1 fp (X.pn++pins)).2.2 pE s σ' H Y I h) (fun _ _ q=>q) fun _ _ z=>z.elim) (fun _ _ _ _ _ _ _ _ _ z=>z.elim) I2 T st2 f2 w0 turn fun D C ys H' s' m nD hDC I' fC hn q=>?_;obtain⟨f0,f1,f2,f3,f4,f5⟩:=fC;obtain⟨oC,es,ep,hoC,hdC,hrC⟩:=id hn;have I6:ZD X (pins ++ [(C,oC)]) σ (upd H' D (.lst ys)) s':=I'.pins_of fun p hp=>(xJ.mp hp).elim (fun z=>I'.pin p (xI _ z)) fun z=>by grind
 refine wpAny_assign_Name (E6 (v:=.ref D) I6 hN hi0 (.inl hx) rfl (fun s'' I''=>?_) (.inr hx));obtain⟨p1,p2,p3,p4,p5⟩:=I''.pin (C,oC) (xI _ (xI _ xY));refine⟨m,⟨oC,es,ep,p1,hdC,hrC⟩,fun h' hs'=>?_⟩;have I7:ZD X pins (σ.set i (some (.ref D))) (upd H' D (.lst ys)) s'':=I''.unpinned;exact⟨_,_,I7.turned (it:=C) (t':=s''.toks) (fun b o hb e=>(hs'.2 b hb).trans e) p2 p3 f3 f4 f5,q D nD⟩
end
section
variable{X:Cx}{scope:Scope}{cl:List (Str×XW)}{C:XW}{N':XO}{s0:XT}{H0:Hp}{ex:XS}{pn:List (XW×Obj)}
theorem pvL(i:Nat){x:Str}{pos:Pos}(hN:N'[i]? = some x:=by rfl)(h:scope.names.lookup x=some .local:=by rfl)(hd:(x == ("__debug__" : Str))=false:=by decide)(hcd:(x == ("__classdict__" : Str))=false:=by decide) :
  PE (ccx X scope cl C N' s0 H0 ex pn) (.Name x pos) (YI i):=Ct hN (.inl (lookup_relabel_local h)) hd hcd
theorem pvF(i:Nat){x:Str}{pos:Pos}(hN:N'[i]? = some x:=by rfl)(h:scope.names.lookup x=some .free:=by rfl)(hd:(x == ("__debug__" : Str))=false:=by decide)(hcd:(x == ("__classdict__" : Str))=false:=by decide) :
  PE (ccx X scope cl C N' s0 H0 ex pn) (.Name x pos) (YI i):=Ct hN ((E7 h).elim (fun z=>.inr (.inl z)) fun z=>.inr (.inr z)) hd hcd
theorem pgL(i:Nat){x:Str}{pos:Pos}(hnd:N'.Nodup)(hN:N'[i]? = some x:=by rfl)(h:scope.names.lookup x=some .local:=by rfl):PG (ccx X scope cl C N' s0 H0 ex pn) (.Name x pos) (Wp i) :=
 Eg (X:=ccx X scope cl C N' s0 H0 ex pn) hnd hN (.inl (lookup_relabel_local h)) (.inr (lookup_relabel_local h))
end
def sgn(x:Str)(i:Nat):V:=.str ⟨#[x.cps.getD i 0]⟩
def E9(x:Str):It:=⟨fun i _=>i < x.length,fun i H v H'=>H'=H/\v=sgn x i,fun i _=>i=x.length⟩
theorem Ia(hh:A.handled=none)(I:XW)(x:Str)(t:Tok) :
  Walks P w A I [I] [I] x.cps.size (SignAt x) (fun i h=>h.IsStrIter I (strIterType x) x t i):=by
 unfold strIterType;cases ha:x.cps.all (· < 128)
 ·exact Walks.strWide hh I x t
 ·exact Walks.strAscii hh I x t
theorem LY{P:XX}{w:XY}{K:uFg}{tg:Expr}(it:XW)(x:Str)(t:Tok):VQ P w K tg (E9 x) [it] it (fun i h=>h.IsStrIter it (strIterType x) x t i) where
 mem:=by simp
 obj:=fun i h st b hb=>by
  have e:b=it:=by simpa using hb
  subst e;obtain⟨o,e,c,d⟩:=st;exact⟨o,e,fun v z=>by rw[d] at z;cases z⟩
 keep:=fun i h h' st k=>let ⟨o,ho,r⟩:=st;⟨o,k it (by simp) o ho,r⟩
 item:=by
  intro X hP hw hK hc i pins s σ H E I hf st hg;subst hP hw hK;obtain⟨f0,f1,f2,f3,f4,f5⟩:=hf it (by simp);refine(Ia (I.ok.hd hc) it x t).item i s _ _ hg st fun v h' tk hv st' kk=>?_;obtain⟨c,u,hcx,rfl⟩:=hv;have I1:ZD X pins σ H {s with heap:=h',toks:=tk }:=I.turned (fun b o hb e=>kk b o (by simpa using hb) e) f0 f1 f3 f4 f5;obtain⟨o,e,cc,d⟩:=id st';have hn : ["enumerate","zip","dict_itemiterator","dict_reverseitemiterator","odict_iterator","itertools.zip_longest","itertools.pairwise"].contains (strIterType x)=false:=by
   unfold strIterType;split<;>decide
  refine⟨_,rfl,Bl (s:={s with heap:=h',toks:=tk }) e cc d hn ⟨sgn x i,H,I1,⟨u,?_⟩,⟨rfl,rfl⟩,st',fun b hb=>(hf b hb).1⟩⟩;rw[Array.getD_eq_getD_getElem?,hcx]
  all_goals rfl
 done:=by
  intro X hP hw hK hc i pins s σ H E I hf st hg;subst hP hw hK;obtain⟨f0,f1,f2,f3,f4,f5⟩:=hf it (by simp);have e:i=x.cps.size:=hg;subst e;exact(Ia (I.ok.hd hc) it x t).done s _ _ st fun h' tk kk=>⟨rfl,I.turned (fun b o hb e=>kk b o (by simpa using hb) e) f0 f1 f3 f4 f5⟩
 self:=fun A i s Q E st h=>by
  have st:s.heap.IsStrIter it (strIterType x) x t i:=st;unfold strIterType at st;split at st
  ·exact wpAny_pyIter_striter_ascii st h
  ·exact wpAny_pyIter_striter_wide st h
inductive Bv(R:It->Hp->Prop)(v:V)(H1:Hp):Prop
 |mk(x)(_:v = .str x)(_:R (E9 x) H1)
def SG(te:TE):TI:=fun σ H R=>te σ H fun v H1=>Bv R v H1
theorem Ip(h:IsPart v o):∃l:Option (Int×Tok),v=partValue l/\l.map (·.1)=o:=by
 cases h with
 | none=>exact⟨none,rfl,rfl⟩
 | int i t=>exact⟨some (i,t),rfl,rfl⟩
theorem XF:∀{us:XQ},ZH (ys.map V.str) us->StrsAre us ys:=by
 induction ys with
 | nil=>intro us r;rw[wE] at r;cases r;exact .nil
 | cons n ns ih =>
  intro us r;rw[yL] at r;cases r with
  | cons r1 r2 =>
   obtain⟨t,e⟩:=r1;subst e;exact .cons n t (ih r2)
section
variable{X:Cx}
theorem G0:Jj X (.builtin "isinstance") (fun xs H Q=>∃x n t b,xs = [x,.ty n]/\YV X.K H x t/\PySem.W.kitOne X.K t (.type n)=some b/\Q (.bl b) H):=by
 intro pins s σ H xs us Q I r h;obtain⟨x,n,t,b,rfl,ty,e,q⟩:=h;obtain⟨u,w',rfl,ru,rw'⟩:=EV r;cases rw';exact SU I ru ty e fun tk=>⟨.bl b,H,I.tok _,rfl,q⟩
end
section
variable{K:uFg}
end
def YB(K:uFg)(mg:XN)(x:Str)(st:Stmt):Prop:=∃f fd,UN K x x st f fd/\mg x=some (.ref f)
def Fn(P:XX)(w:XY)(K:uFg)(mg:XN)(base:Heap)(x:Str)(ps:XO)(k:Nat)(sp:Sp):Prop :=
 ∃f fd,mg x=some (.ref f)/\PySem.W.keepIn K (.ref f)=true/\YK K fd ps []/\YF P w K mg base WU k f fd ps sp
section
variable{P:XX}{w:XY}{K:uFg}{mg:XN}{base:Heap}
theorem YB.fn{x:Str}{st:Stmt}{N ps:XO}{k:Nat}{sp:Sp}(h:YB K mg x st)(S:ZL N ps (Zm st))(hb:∀ (kV doc pm:XU) (an:Option XW) (cdv ct:XU) (us:XQ),us.length=ps.length->bindArgs (PySem.W.fnOf x x (Wy st) (Yn st) (Zm st) .none kV doc pm an cdv ct) ⟨us,[]⟩=pure (ps.zip us))(len:∀vs H Q E,sp vs H Q E->vs.length=ps.length)(hbody:∀ (f:XW) (cdv:XU) (A:XZ) (outer:List Env) (s:XT) (H:Hp) (vs:aG) (Q:VK) (E:XK),ZM k (A.deeper (envOfC x (Zm st) s.heap.objs.size f cdv))->sp vs H Q E -> ∃t,A9 (Y3 WU P w K mg base N x (Zm st) f cdv A outer s H E).nox (Yn st) t/\t {nx:=fun _ H'=>Q .non H',rt:=Q } (start N vs) H):Fn P w K mg base x ps (k+1) sp:=by
 obtain⟨f,fd,F,hm⟩:=h;exact⟨f,fd,hm,F.kp,F.binds hb,F.ok S len fun cdv A outer s H vs Q E hr q=>hbody f cdv A outer s H vs Q E hr q⟩
theorem NQ{h:Heap}{x:Str}{st:Stmt}{f:XW}{oc:XU}{od an:Option XW}{osl:Array (Option XU)}{kV doc pm cdv ct:XU}(KX:K.In h)(G:h.Ns mainGlobals mg)(a:PySem.W.nsIn K mainGlobals x=some (some (.ref f)))(l:K.lookup f=some ⟨oc,od,.func (PySem.W.fnOf x x (Wy st) (Yn st) (Zm st) .none kV doc pm an cdv ct),osl⟩)(c:PySem.W.codeIn K cdv x=true)(k:PySem.W.keepIn K (.ref f)=true):YB K mg x st:=⟨f,_,DO l c k,PySem.W.mg_of KX G a⟩
theorem hQ{h:Heap}(x:Str)(st:Stmt)(f c:XW)(pm:XU)(KX:K.In h)(G:h.Ns mainGlobals mg)(e:PySem.W.nsIn K mainGlobals x=some (some (.ref f))/\K.lookup f=some ⟨.type "function", none,.func (PySem.W.fnOf x x (Wy st) (Yn st) (Zm st) .none .none .none pm none (.ref c) .none),#[]⟩/\PySem.W.codeIn K (.ref c) x=true/\PySem.W.keepIn K (.ref f)=true):YB K mg x st:=NQ KX G e.1 e.2.1 e.2.2.1 e.2.2.2
end
def J4(sp:Sp)(t:TA):TE:=fun σ H Q=>t σ H fun vs H1=>sp vs H1 Q E0
theorem Rl{k:Nat}{ps:XO}{sp:Sp}{x:Str}{p pos:Pos}{e:Expr}{es:List Expr}{t:TA}(F:Fn X.prog X.w X.K X.mg X.base x ps k sp)(hr:ZM k X.A)(hg:Gl X x)(ha:PA X (e::es) t)(hdb:(x == ("__debug__" : Str))=false:=by decide)(he:starEach (e::es) X.env=(false,eval e X.env)::starEach es X.env:=by rfl)(hpl:(backTo pos (starEach es X.env)).any (·.1)=false:=by rfl) :
  PE X (.Call (.Name x p) (e::es) [] pos) (J4 sp t):=by
 obtain⟨f,fd,hm,hk,hb,G⟩:=F;intro pins s σ H Q I h;refine Rc G hr hg hm hk hb .nil CZ ha hdb he hpl pins s σ H Q I ?_;have e:DV sp [] E0 t=J4 sp t:=by
  unfold DV J4;simp only[yD]
 rw[e];exact h
theorem Yh:bootBuiltins "len" = some (.builtin "len"):=aA
theorem BS:bootBuiltins "max" = some (.builtin "max"):=aA
theorem IH:bootBuiltins "min" = some (.builtin "min"):=aA
theorem BW:bootBuiltins "sum" = some (.builtin "sum"):=aA
theorem Xu:bootBuiltins "all" = some (.builtin "all"):=aA
theorem CV:bootBuiltins "isinstance" = some (.builtin "isinstance"):=aA
theorem Uy:bootBuiltins "list" = some (.type "list"):=aA
theorem GV:bootBuiltins "bool" = some (.type "bool"):=aA
theorem MT:bootBuiltins "int" = some (.type "int"):=aA
theorem Xi:bootBuiltins "tuple" = some (.type "tuple"):=aA
def ZE(s:XW)(H H':Hp):Prop:=∀b o,b≠s->H b=some o->H' b=some o
theorem ZE.refl:ZE s H H:=fun _ _ _ e=>e
theorem ZE.trans(a:ZE s H H1)(b:ZE s H1 H2):ZE s H H2:=fun c o n e=>b c o n (a c o n e)
theorem ZE.upd:ZE s H (upd H s o):=fun b _ n e=>by rw[Ze n];exact e
theorem ZE.new(h:H l=none):ZE s H (L2.upd H l o):=fun b _ _ e=>by rw[Ze (Zl e h)];exact e
theorem ZA.new(h:H l=none):ZA H (L2.upd H l o):=fun b _ e=>by rw[Ze (Zl e h)];exact e
theorem ZA.x(h:ZA H H'):ZE s H H':=fun b o _ e=>h b o e
def ZJ(H:Hp)(s la:XW):Prop:=∃(ns:List Int)(i big st cnt:Int),H s=some (.lst [.ref la,.int i,.int big,.int st,.int cnt])/\H la=some (.lst (ns.map V.int))/\0<=i/\la≠s
theorem ZJ.keep(h:ZJ H s la)(k:ZA H H'):ZJ H' s la:=by
 obtain⟨ns,i,big,st,cnt,h1,h2,h3,h4⟩:=h;exact⟨ns,i,big,st,cnt,k _ _ h1,k _ _ h2,h3,h4⟩
theorem ZJ.keepX(h:ZJ H s la)(k:ZE l H H')(n1:l≠s)(n2:l≠la):ZJ H' s la:=by
 obtain⟨ns,i,big,st,cnt,h1,h2,h3,h4⟩:=h;exact⟨ns,i,big,st,cnt,k _ _ n1.symm h1,k _ _ n2.symm h2,h3,h4⟩
theorem ZJ.ne(h:ZJ H s la)(hl:H l=none):l≠s/\l≠la:=by
 obtain⟨ns,i,big,st,cnt,h1,h2,h3,h4⟩:=h;exact⟨(Zl h1 hl).symm,(Zl h2 hl).symm⟩
theorem Zy{c A B:Prop} [Decidable c] (h1:c->A) (h2:¬c->B):if decide c=true then A else B:=by grind
theorem Vq{c A B:Prop} [Decidable c] (h1:¬c->A) (h2:c->B):if (!decide c)=true then A else B:=by grind
theorem Gr{b:Bool}{A B:Prop}(h1:b=true->A)(h2:b=false->B):if b=true then A else B:=by grind
theorem MA{ns:List Int}{i:Int}(h0 : 0<=i)(h1:i < (ns.map V.int).length):atI (ns.map V.int) i=some (.int (ns.getD i.toNat 0)):=by
 obtain⟨j,rfl⟩:=yK h0;rw[xA] at h1;refine Yu ?_;rw[xE,yP,xZ,xB (by lia)];rfl
def Nm(sc:Scope)(x:Str)(k:NameKind):Prop:=sc.names.lookup x=some k/\(x == ("__debug__" : Str))=false/\(x == ("__classdict__" : Str))=false/\x ≠ "__name__"
instance (sc:Scope) (x:Str) (k:NameKind):Decidable (Nm sc x k):=by unfold Nm;exact inferInstance
section
variable{X:Cx}{x:Str}{pos:Pos}
theorem al1{α:Type _}{P:List α->Prop}(k:∀a,P [a]):∀l:List α,l.length=1->P l
 | [a],_=>k a
theorem al2{α:Type _}{P:List α->Prop}(k:∀a b,P [a,b]):∀l:List α,l.length=2->P l
 | [a,b],_=>k a b
theorem al3{α:Type _}{P:List α->Prop}(k:∀a b c,P [a,b,c]):∀l:List α,l.length=3->P l
 | [a,b,c],_=>k a b c
theorem al4{α:Type _}{P:List α->Prop}(k:∀a b c d,P [a,b,c,d]):∀l:List α,l.length=4->P l
 | [a,b,c,d],_=>k a b c d
theorem al5{α:Type _}{P:List α->Prop}(k:∀a b c d e,P [a,b,c,d,e]):∀l:List α,l.length=5->P l
 | [a,b,c,d,e],_=>k a b c d e
theorem al6{α:Type _}{P:List α->Prop}(k:∀a b c d e f,P [a,b,c,d,e,f]):∀l:List α,l.length=6->P l
 | [a,b,c,d,e,f],_=>k a b c d e f
theorem al7{α:Type _}{P:List α->Prop}(k:∀a b c d e f g,P [a,b,c,d,e,f,g]):∀l:List α,l.length=7->P l
 | [a,b,c,d,e,f,g],_=>k a b c d e f g
theorem al8{α:Type _}{P:List α->Prop}(k:∀a b c d e f g h,P [a,b,c,d,e,f,g,h]):∀l:List α,l.length=8->P l
 | [a,b,c,d,e,f,g,h],_=>k a b c d e f g h
def nmB(X:Cx)(x:Str)(k:NameKind):Bool:=decide (Nm X.env.scope x k)
def ndB(X:Cx):Bool:=decide X.N.Nodup
abbrev nB(X:Cx)(x:Str)(k:NameKind):Prop:=nmB X x k=true
abbrev nD(X:Cx):Prop:=ndB X=true
theorem od [Decidable p] (h:decide p=true):p:=of_decide_eq_true h
theorem fsc{N P:XO}{sc:Scope}(a:sc.kind = .function:=by rfl)(h:decide (sc.isCoroutine=false/\sc.isGenerator=false/\N.Nodup/\N.take P.length=P/\(∀x∈P,sc.names.lookup x=some .local\/sc.names.lookup x=some .cell)/\∀y∈sc.names,y.2 ≠ .free)=true:=by kernel_rfl):ZL N P sc :=
 have ⟨b,c,d,e,f,g⟩:=od h;⟨a,b,c,d,e,f,g⟩
theorem pvN(i:Nat)(n:Nm X.env.scope x .local)(hN:X.N[i]? = some x:=by rfl):PE X (.Name x pos) (YI i):=Ct hN (.inl n.1) n.2.1 n.2.2.1
theorem PL(n:Nm X.env.scope x .globalImplicit)(hm:X.mg x=some u)(r:ZG v u):PE X (.Name x pos) (tC v):=KY n.1 hm r n.2.1
theorem KH(n:Nm X.env.scope x .globalImplicit)(hm:X.mg x=none)(hv:bootBuiltins x=some u)(r:ZG v u):PE X (.Name x pos) (tC v):=Oq n.1 hm hv r n.2.2.2 n.2.1
theorem Mb{k:Nat}{ps:XO}{sp:Sp}{p:Pos}{e:Expr}{es:List Expr}{t:TA}(F:Fn X.prog X.w X.K X.mg X.base x ps k sp)(hr:ZM k X.A)(n:Nm X.env.scope x .globalImplicit)(ha:PA X (e::es) t)(he:starEach (e::es) X.env=(false,eval e X.env)::starEach es X.env:=by rfl)(hpl:(backTo pos (starEach es X.env)).any (·.1)=false:=by rfl) :
  PE X (.Call (.Name x p) (e::es) [] pos) (J4 sp t):=Rl F hr n.1 ha n.2.1 he hpl
theorem Lv{p:Pos}{e:Expr}{es:List Expr}{t:TA}{id:String}{r:List V->Hp->VK->Prop}(hc:Jj X (.builtin id) r)(n:Nm X.env.scope x .globalImplicit)(hm:X.mg x=none)(hv:bootBuiltins x=some (.builtin id))(ha:PA X (e::es) t)(he:starEach (e::es) X.env=(false,eval e X.env)::starEach es X.env:=by rfl)(hpl:(backTo pos (starEach es X.env)).any (·.1)=false:=by rfl):PE X (.Call (.Name x p) (e::es) [] pos) (Bf r t):=KU hc n.1 hm hv ha n.2.2.2 n.2.1 he hpl
theorem RF{p:Pos}{e:Expr}{es:List Expr}{t:TA}{T:String}{r:List V->Hp->VK->Prop}(hc:Jj X (.type T) r)(n:Nm X.env.scope x .globalImplicit)(hm:X.mg x=none)(hv:bootBuiltins x=some (.type T))(ha:PA X (e::es) t)(he:starEach (e::es) X.env=(false,eval e X.env)::starEach es X.env:=by rfl)(hpl:(backTo pos (starEach es X.env)).any (·.1)=false:=by rfl):PE X (.Call (.Name x p) (e::es) [] pos) (Bf r t):=Pq hc n.1 hm hv ha n.2.2.2 n.2.1 he hpl
theorem LG{i:Nat}{e:Expr}{te:TE}{pos':Pos}(hN:X.N.Nodup)(n:Nm X.env.scope x .local)(he:PE X e te)(hi:X.N[i]? = some x:=by rfl)(hs:swapsWith e (some (.Name x pos')) pos.line X.env=pure false:=by rfl) :
  PS X (.Assign [.Name x pos'] e pos) (Jn te (Wp i)):=GY hN hi (.inl n.1) he hs (.inr n.1)
theorem Pd{i:Nat}{e:Expr}{te:TE}{pos':Pos}(hN:X.N.Nodup)(n:Nm X.env.scope x .cell)(he:PE X e te)(hf:X.fn x=true:=by rfl)(hi:X.N[i]? = some x:=by rfl)(hs:swapsWith e (some (.Name x pos')) pos.line X.env=pure false:=by rfl) :
  PS X (.Assign [.Name x pos'] e pos) (Jn te (Wp i)):=GY hN hi (.inr n.1) he hs (.inl hf)
theorem MM(hN:X.N.Nodup)(n:Nm X.env.scope x .local)(hi:X.N[i]? = some x:=by rfl):PG X (.Name x pos) (Wp i):=Eg hN hi (.inl n.1) (.inr n.1)
end
section
variable{X:Cx}{scope:Scope}{cl:List (Str×XW)}{C:XW}{N':XO}{s0:XT}{H0:Hp}{ex:XS}{pn:List (XW×Obj)}{x:Str}{pos:Pos}
theorem Xm(n:Nm scope x .globalImplicit:=by decide +kernel):Nm (ccx X scope cl C N' s0 H0 ex pn).env.scope x .globalImplicit:=⟨FU aA n.1,n.2⟩
theorem nmC(n:Nm scope x .globalImplicit:=by decide +kernel):nB (ccx X scope cl C N' s0 H0 ex pn) x .globalImplicit:=yJ (Xm n)
theorem WA.consN{j:Nat}{fr:List (Str×Nat)}(n:Nm X.env.scope x .cell)(t:WA X scope fr)(m:Nm scope x .free:=by decide +kernel)(h1:X.N[j]? = some x:=by rfl):WA X scope ((x,j)::fr):=.cons h1 (.inl n.1) m.1 t
end
def cs(x:Str):List Nat:=x.cps.toList
theorem Vg(x:Str):(cs x).length=x.length:=by unfold cs;exact Array.length_toList
theorem Do(x y:Str):cs (x++y)=cs x++cs y:=by unfold cs;rw[PySem.Str.cps_append,Array.toList_append]
theorem FX(l:List Nat):cs ⟨l.toArray⟩=l:=by unfold cs;simp
theorem Fz(xs:List Nat)(lo:Nat):∀m,lo+m<=xs.length->((List.range m).map (lo + ·)).filterMap (xs[·]?)=(xs.drop lo).take m:=by
 intro m
 induction m with
 | zero=>intro _;simp
 | succ m ih =>
  intro h;rw[List.range_succ,xO,List.filterMap_append,ih (by lia),xW,wB];have:lo+m < xs.length:=by lia
  simp[xB this]
theorem EB(x:Str)(h : 0<=i):cs (Txt.slice x none (some i))=(cs x).take i.toNat:=by
 have hl:=Vg x;have e:Builtin.Str.strSliceIndices none (some i) 1 x.length=(List.range (min i.toNat x.length)).map (0 + ·):=by
  unfold Builtin.Str.strSliceIndices sliceRange;simp only[show (1:Int) > 0 by decide,if_true];have e1:(if i < 0 then i+(x.length:Int) else i)=i:=if_neg (by lia);rw[e1];have e2:(if (0:Int) < max 0 (min i (x.length:Int)) then (max 0 (min i (x.length:Int)) - 0+1 - 1) / 1 else 0).toNat=min i.toNat x.length:=by
   split<;>(try simp only[Int.ediv_one])<;>lia
  rw[e2];apply List.map_congr_left;intro k _;lia
 unfold Txt.slice;rw[e];split
 ·rename_i hc;have hc:((List.range (min i.toNat x.length)).map (0 + ·)).length=x.length:=by simpa using hc
  rw[xA,List.length_range] at hc;rw[yV (by lia)]
 ·rw[FX];have:=Fz (cs x) 0 (min i.toNat x.length) (by lia);rw[List.drop_zero] at this;have e3:(cs x).take (min i.toNat x.length)=(cs x).take i.toNat:=by
   rw[← hl]
   by_cases h1:i.toNat<=(cs x).length
   ·rw[Nat.min_eq_left h1]
   ·rw[Nat.min_eq_right (by lia),yV (by lia),yV (by lia)]
  rw[← e3,← this];congr 1;funext k;unfold cs;simp
theorem L6(x:Str)(h : 0<=i):cs (Txt.slice x (some i) none)=(cs x).drop i.toNat:=by
 have hl:=Vg x;have e:Builtin.Str.strSliceIndices (some i) none 1 x.length=(List.range (x.length - min i.toNat x.length)).map (min i.toNat x.length + ·):=by
  unfold Builtin.Str.strSliceIndices sliceRange;simp only[show (1:Int) > 0 by decide,if_true];have e1:(if i < 0 then i+(x.length:Int) else i)=i:=if_neg (by lia);rw[e1];have e2:(if max 0 (min i (x.length:Int)) < (x.length:Int) then ((x.length:Int) - max 0 (min i (x.length:Int))+1 - 1) / 1 else 0).toNat=x.length - min i.toNat x.length:=by
   split<;>(try simp only[Int.ediv_one])<;>lia
  rw[e2];apply List.map_congr_left;intro k _;lia
 unfold Txt.slice;rw[e];split
 ·rename_i hc;have hc:((List.range (x.length - min i.toNat x.length)).map (min i.toNat x.length + ·)).length=x.length:=by simpa using hc
  rw[xA,List.length_range] at hc
  by_cases h0:i.toNat=0
  ·rw[h0,List.drop_zero]
  ·have:x.length=0:=by lia
   rw[zM (by lia)];exact List.length_eq_zero_iff.mp (by lia)
 ·rw[FX];have:=Fz (cs x) (min i.toNat x.length) (x.length - min i.toNat x.length) (by lia);have e3:((cs x).drop (min i.toNat x.length)).take (x.length - min i.toNat x.length)=(cs x).drop i.toNat:=by
   rw[yV (by rw[zY];lia)]
   by_cases h1:i.toNat<=x.length
   ·rw[Nat.min_eq_left h1]
   ·rw[Nat.min_eq_right (by lia),zM (by lia),zM (by lia)]
  rw[← e3,← this];congr 1;funext k;unfold cs;simp
theorem ME:∀ys:List Str,cs (Txt.join "" ys)=(ys.map cs).flatten:=by
 have go:∀(ys:XO)(a:Array Nat),(ys.foldl (fun acc p=>acc++(("" : Str)).cps++p.cps) a).toList=a.toList++(ys.map cs).flatten:=by
  intro ys
  induction ys with
  | nil=>intro a;simp
  | cons y r ih =>
   intro a;rw[zJ,ih];have:(("" : Str)).cps = #[]:=aA
   rw[this];simp[cs]
 intro ys;show (cs (Builtin.Str.glued "" ys))=_;unfold Builtin.Str.glued;cases ys with
 | nil=>decide +kernel
 | cons y r =>
  show (List.foldl _ y.cps r).toList=_;rw[go];rfl
def Bn(x:Str):Prop:=∀c∈cs x,97<=c/\c<=122
def letters:Str:="abcdefghijklmnopqrstuvwxyz"
theorem O8:cs letters=(List.range 26).map (97 + ·):=aA
theorem DQ(h0 : 0<=d)(h1:d < 26):atI letters.cps.toList d=some (97+d.toNat):=by
 obtain⟨j,rfl⟩:=yK h0;refine Yu ?_;show (cs letters)[j]? = _;rw[O8,xE,zZ (by lia)];rfl
theorem B4{J:It}{nl:Nat}{fv:St}{g:TG}{tt:Tj}{te:TE}{Q:VK}{H:Hp}{xs:aG}(Pv:Nat->List V->Hp->Prop)(h0:Pv 0 [] H)(hn:xs.length<=1000000)(hgo:∀i H ys,i < xs.length->Pv i ys H->J.go i H)(hy:∀i H x H' ys,i < xs.length->Pv i ys H->J.yld i H x H'->H'=H/\xs[i]? = some x)(hst:∀H ys,Pv xs.length ys H->J.stop xs.length H)(hlen:∀i ys H,Pv i ys H->ys.length<=i)(step:∀i x ys H,xs[i]? = some x->Pv i ys H->Vp nl fv g tt te x H (fun y H'=>Pv (i+1) (ys ++ [y]) H') fun H'=>Pv (i+1) ys H')(hd:∀ys H,Pv xs.length ys H->∀l,H l=none->Q (.ref l) (upd H l (.lst ys))) :
  Ul J nl fv g tt te Q H:=by
 have mono:∀{x:V}{H:Hp}{Y Y':V->Hp->Prop}{N N':Hp->Prop},Vp nl fv g tt te x H Y N->Y=Y'->N=N'->Vp nl fv g tt te x H Y' N':=fun h e1 e2=>by subst e1;subst e2;exact h
 refine⟨fun i m ys H=>m=xs.length - i/\i<=xs.length/\Pv i ys H,⟨xs.length,by simp,yN _,h0⟩,?_⟩;rintro i m ys H ⟨rfl,hi,p⟩;have hl:=hlen i ys H p;have hz:(1000000:Nat) < sizeLine:=by decide
 by_cases hlt:i < xs.length
 ·refine .inr ⟨hgo i H ys hlt p,by lia,xs.length - (i+1),by lia,fun x H' y=>?_⟩;obtain⟨e,ex⟩:=hy i H x H' ys hlt p y;subst e;refine mono (step i x ys _ ex p) ?_ ?_
  ·funext y H4;apply propext;exact⟨fun q=>⟨rfl,hlt,q⟩,fun q=>q.2.2⟩
  ·funext H3;apply propext;exact⟨fun q=>⟨rfl,hlt,q⟩,fun q=>q.2.2⟩
 ·have e:i=xs.length:=by lia
  subst e;exact .inl ⟨hst H ys p,by lia,hd ys H p⟩
def AZ(lo:Int)(n:Nat):List V:=(List.range n).map fun k=>V.int (lo+(k:Nat))
theorem AW(lo:Int)(n:Nat):(AZ lo n).length=n:=by simp[AZ]
theorem Lc{lo:Int}{n i:Nat}{x:V}(h:(AZ lo n)[i]? = some x):i < n/\x = .int (lo+(i:Nat)):=by
 have hi:i < n:=by have:=(xH.mp h).1;rwa [AW] at this
 refine⟨hi,?_⟩;unfold AZ at h;rw[xE,zZ hi] at h;exact(Option.some.inj h).symm
theorem Ik{lo:Int}{n:Nat}{nl:Nat}{fv:St}{g:TG}{tt:Tj}{te:TE}{Q:VK}{H:Hp}(Pv:Nat->List V->Hp->Prop)(h0:Pv 0 [] H)(hn:n<=1000000)(hlen:∀i ys H,Pv i ys H->ys.length<=i)(step:∀i ys H,i < n->Pv i ys H->Vp nl fv g tt te (.int (lo+(i:Nat))) H (fun y H'=>Pv (i+1) (ys ++ [y]) H') fun H'=>Pv (i+1) ys H')(hd:∀ys H,Pv n ys H->∀l,H l=none->Q (.ref l) (upd H l (.lst ys))) :
  Ul (Jl lo n) nl fv g tt te Q H:=by
 refine B4 (xs:=AZ lo n) Pv h0 (by rw[AW];exact hn) ?_ ?_ ?_ hlen ?_ ?_
 ·intro i H ys hi _;rw[AW] at hi;exact hi
 ·rintro i H x H' ys hi _ ⟨rfl,rfl⟩;rw[AW] at hi;refine⟨rfl,?_⟩;unfold AZ;rw[xE,zZ hi];rfl
 ·intro H ys _;rw[AW];exact xD _
 ·intro i x ys H hx p;obtain⟨hi,rfl⟩:=Lc hx;exact step i ys H hi p
 ·intro ys H p;rw[AW] at p;exact hd ys H p
theorem Je{K:uFg}{a:XW}{xs:aG}{nl:Nat}{fv:St}{g:TG}{tt:Tj}{te:TE}{Q:VK}{H:Hp}(Pv:Nat->List V->Hp->Prop)(h0:Pv 0 [] H)(hn:xs.length<=1000000)(hl:∀i ys H,i<=xs.length->Pv i ys H->ZF K H a xs)(hlen:∀i ys H,Pv i ys H->ys.length<=i)(step:∀i x ys H,xs[i]? = some x->Pv i ys H->Vp nl fv g tt te x H (fun y H'=>Pv (i+1) (ys ++ [y]) H') fun H'=>Pv (i+1) ys H')(hd:∀ys H,Pv xs.length ys H->∀l,H l=none->Q (.ref l) (upd H l (.lst ys))) :
  Ul (Jw K a) nl fv g tt te Q H:=by
 refine B4 (xs:=xs) Pv h0 hn ?_ ?_ ?_ hlen step hd
 ·intro i H ys hi p;exact⟨xs,xs[i],hl i ys H (zD hi) p,by simp[hi]⟩
 ·rintro i H x H' ys hi p ⟨rfl,y⟩;exact⟨rfl,y xs (hl i ys _ (zD hi) p)⟩
 ·intro H ys p;exact⟨xs,hl _ ys H (xD _) p,xD _⟩
theorem Oy(Pv:Nat->List V->Hp->Prop)(h0:Pv 0 [] H)(hn:x.length<=1000000)(hlen:∀i ys H,Pv i ys H->ys.length<=i)(step:∀i ys H,i < x.length->Pv i ys H->Vp nl fv g tt te (sgn x i) H (fun y H'=>Pv (i+1) (ys ++ [y]) H') fun H'=>Pv (i+1) ys H')(hd:∀ys H,Pv x.length ys H->∀l,H l=none->Q (.ref l) (upd H l (.lst ys))) :
  Ul (E9 x) nl fv g tt te Q H:=by
 have ln:((List.range x.length).map fun i=>sgn x i).length=x.length:=by simp
 refine B4 (xs:=(List.range x.length).map fun i=>sgn x i) Pv h0 (by rw[ln];exact hn) ?_ ?_ ?_ hlen ?_ ?_
 ·intro i H ys hi _;rw[ln] at hi;exact hi
 ·rintro i H v H' ys hi _ ⟨rfl,rfl⟩;rw[ln] at hi;refine⟨rfl,?_⟩;rw[xE,zZ hi];rfl
 ·intro H ys _;rw[ln];exact rfl
 ·intro i v ys H hx p;have hi:i < x.length:=by have:=(xH.mp hx).1;rwa [ln] at this
  rw[xE,zZ hi] at hx;cases hx;exact step i ys H hi p
 ·intro ys H p;rw[ln] at p;exact hd ys H p
theorem Uu{ls:St}(h:ls.length=1):∃a,ls = [a]:=by
 match ls,h with
 | [a],_=>exact⟨a,rfl⟩
theorem CG{ls:St}(h:ls.length=2):∃a b,ls = [a,b]:=by
 match ls,h with
 | [a,b],_=>exact⟨a,b,rfl⟩
structure QE (X:Cx) (e:Expr) (t:TE):Prop where
 h:PE X e t
structure QT (X:Cx) (e:Expr) (t:TT):Prop where
 h:PT X e t
structure QW (X:Cx) (e:Expr) (t:TT):Prop where
 h:PW X e t
structure QS (X:Cx) (s:Stmt) (t:TS):Prop where
 h:PS X s t
structure WR (X:Cx) (s:List Stmt) (t:TS):Prop where
 h:A9 X s t
structure QA (X:Cx) (es:List Expr) (t:TA):Prop where
 h:PA X es t
structure QG (X:Cx) (e:Expr) (t:TG):Prop where
 h:PG X e t
structure AY (X:Cx) (es:List Expr) (t:TR):Prop where
 h:II X es t
structure QI (X:Cx) (tg iter:Expr) (t:TI):Prop where
 h:PI X tg iter t
structure QO (X:Cx) (e:Option Expr) (t:TO):Prop where
 h:PO X e t
structure DN (X:Cx) (es:List Expr) (t:Tj):Prop where
 h:BC X es t
structure YW (X:Cx) (f:XU->XU->Sem XU) (r:R2):Prop where
 h:JU X f r
structure Hw (X:Cx) (f:XU->Sem XU) (r:V->Hp->VK->Prop):Prop where
 h:Oo X f r
structure QC (X:Cx) (f:XU) (r:List V->Hp->VK->Prop):Prop where
 h:Jj X f r
theorem QC.imp(h:QC X f r)(i:∀xs H Q,r' xs H Q->r xs H Q):QC X f r':=⟨fun p s σ H x u Q I v k=>h.h p s σ H x u Q I v (i x H Q k)⟩
structure AN (X:Cx) (r:R2):Prop where
 h:C8 X r
structure EU (X:Cx) (r:V->Option Int->Option Int->Hp->VK->Prop):Prop where
 h:HW X r
structure QM (X:Cx) (id:String) (r:V->List V->Hp->VK->Prop):Prop where
 h:GT X id r
structure BM (X:Cx) (t:C7):Prop where
 h:PX X t
section
variable{X:Cx}{a b c:Expr}{ta tb te:TE}{pos p pos':Pos}{st:Stmt}{rest:List Stmt}{t u:TS}{x:Str}{es:List Expr}{e:Expr}
theorem Zo:WR X [] Yy:=⟨fun _ _ σ H _ I h=>wpAny_execs_nil ⟨σ,H,I,h⟩⟩
theorem Zc(h1:QS X st t)(h2:WR X rest u):WR X (st::rest) (Ue t u):=⟨by
 have h1:=h1.h;have h2:=h2.h;intro pins s σ H D I h;refine wpAny_execs_cons (thn (h1 pins s σ H {D with nx:=u D } I h) fun f s1 q=>?_);cases f with
 | next =>
  obtain⟨σ',H',I',q⟩:=q;exact h2 pins s1 σ' H' D I' q
 | ret v=>exact q
 | brk=>exact q
 | cont=>exact q⟩
theorem Zg(h1:QS X st t):WR X [st] t:=⟨by
 have h1:=h1.h;intro pins s σ H D I h;refine wpAny_execs_cons (thn (h1 pins s σ H D I h) fun f s1 q=>?_);cases f with
 | next=>exact wpAny_execs_nil q
 | ret v=>exact q
 | brk=>exact q
 | cont=>exact q⟩
theorem Zw(h:QE X e te):QS X (.Return (some e) pos) (SB te):=⟨by
 have he:=h.h;intro pins s σ H D I h
 exact wpAny_Return_some (thn (he pins s σ H _ I h) fun v s1 ⟨x,H1,I1,r1,q1⟩=>⟨x,σ,H1,I1,r1,q1⟩)⟩
theorem Zp{c:Expr}{a b:List Stmt}{tc:TT}(hc:QT X c tc)(ha:WR X a t)(hb:WR X b u):QS X (.If c a b pos) (C6 tc t u):=⟨by
 have hc:=hc.h;have ha:=ha.h;have hb:=hb.h;intro pins s σ H D I h;refine wpAny_If (thn (hc pins s σ H _ I h) fun d s1 ⟨H1,I1,q1⟩=>?_);cases d with
 | true=>exact ha pins s1 σ H1 D I1 q1
 | false=>exact hb pins s1 σ H1 D I1 q1⟩
theorem Zj(he:QE X e te)(hs:swapsWith e none pos.line X.env=pure false:=by rfl):QS X (.Expr e pos) (Dz te):=⟨by
 have he:=he.h;intro pins s σ H D I h
 exact wpAny_Expr_any (thn (he pins s σ H _ I h) fun v s1 ⟨x,H1,I1,r1,q1⟩=>⟨σ,H1,I1,q1⟩) I.quiet hs⟩
theorem Zv(i:Nat)(he:QE X e te)(hN:nD X:=by kernel_rfl)(n:nB X x .local:=by kernel_rfl)(hi:X.N[i]? = some x:=by rfl)(hs:swapsWith e (some (.Name x pos')) pos.line X.env=pure false:=by rfl) :
  QS X (.Assign [.Name x pos'] e pos) (Jn te (Wp i)):=⟨LG (od hN) (od n) he.h hi hs⟩
theorem Ky{i:Nat}(hN:X.N.Nodup)(n:Nm X.env.scope x .cell)(he:QE X e te)(hf:X.fn x=true:=by rfl)(hi:X.N[i]? = some x:=by rfl)(hs:swapsWith e (some (.Name x pos')) pos.line X.env=pure false:=by rfl) :
  QS X (.Assign [.Name x pos'] e pos) (Jn te (Wp i)):=⟨Pd hN n he.h hf hi hs⟩
theorem Um{tg:Expr}{g:TG}(he:QE X e te)(hg:QG X tg g)(hs:swapsWithSole [tg] e pos.line X.env=pure false:=by rfl)(hw:swappedStores [tg] e X.env=pure none:=by rfl)(h1:(assignEach [tg] X.env).map (·.2)= [assign tg X.env]:=by rfl):QS X (.Assign [tg] e pos) (Jn te g):=⟨by
 have he:=he.h;have hg:=hg.h;intro pins s σ H D I h;refine wpAny_Assign_stores (thn (he pins s σ H _ I h) fun v s1 ⟨x,H1,I1,r1,q1⟩=>?_) hs hw;rw[h1]
 exact thn (hg pins s1 σ H1 x v _ I1 r1 q1) fun _ s2 q=>q⟩
def Bc(J:It)(g:TG)(tb:TS)(D:YE)(σ:St)(H1:Hp):Prop:=∃W:Nat->Nat->St->Hp->Prop,(∃m,W 0 m σ H1)/\∀i m σ H,W i m σ H ->
 (J.stop i H/\D.nx σ H)\/(J.go i H/\∃N:St->Hp->Prop,(∀ σ' H',N σ' H'->∃m',m' < m/\W (i+1) m' σ' H')/\∀x H',J.yld i H x H'->g x σ H' fun σ2 H2=>tb {D with nx:=N,ct:=N,bk:=D.nx } σ2 H2)
def Hm(wi:TI)(g:TG)(tb:TS):TS:=fun D σ H=>wi σ H fun J H1=>Bc J g tb D σ H1
theorem Wq(hp:PassesOwn (model X.prog X.w) X.A X.env X.xe)(hc:X.calm=true)(hi:QI X tg iter wi)(hg:QG X tg g)(hb:WR X body t)(hs:∀x,foldedSetIterable iter X.env x=pure x:=by intro _;rfl):QS X (.For tg iter body [] pos) (Hm wi g t):=⟨by
 have hi:=hi.h;have hg:=hg.h;have hb:=hb.h;intro pins s σ H D I h;refine wpAny_For (thn (hi pins s σ H _ I h) fun v s1 h1=>thn h1 fun itv s2 h2=>?_) hs;obtain⟨it,fp,tn,J,H2,e,I2,T,st2,f2,W,⟨m0,w0⟩,turn⟩:=h2;subst e;have stat:∀{H':Hp},(∀b∈fp,H' b=none)->∀b∈fp,Uf X pins H' b:=fun hn b hb=>⟨hn b hb,(f2 b hb).2⟩;refine codeAny_forLoop_any (fun n s'=>∃i σ' H',ZD X pins σ' H' s'/\tn i s'.heap/\(∀b∈fp,H' b=none)/\W i n σ' H') ?_ m0 ⟨0,σ,H2,I2,st2,fun b hb=>(f2 b hb).1,w0⟩;rintro n s3 ⟨i,σ3,H3,I3,st3,fr3,w3⟩;rcases turn i n σ3 H3 w3 with⟨stop,qn⟩ | ⟨go,N,hN,step⟩
 ·refine wpAny_passesOwn hp (thn (T.done X rfl rfl rfl hc i pins s3 σ3 H3 X.xe I3 (stat fr3) st3 stop) fun r s4 ⟨hr,I4⟩=>?_);subst hr;exact wpAny_execs_nil ⟨σ3,H3,I4,qn⟩
 ·refine wpAny_passesOwn hp (thn (T.item X rfl rfl rfl hc i pins s3 σ3 H3 X.xe I3 (stat fr3) st3 go) fun r s4 ⟨u,hr,h4⟩=>?_);subst hr;refine wpAny_passesOwn hp (thn h4 fun _ s5 ⟨x,H5,I5,r5,y5,st5,fr5⟩=>?_);have I5':=I5.pinned (stat fr5) (T.obj _ _ st5);refine wpAny_passesOwn hp (thn (hg _ s5 σ3 H5 x u _ I5' r5 (step x H5 y5)) fun _ s6 ⟨σ6,H6,I6,q6⟩=>?_);refine wpAny_passesOwn hp (thn (hb _ s6 σ6 H6 _ I6 q6) fun f s7 q7=>?_);have again:∀{σ7:St}{H7:Hp},ZD X (pins++AF fp s5.heap) σ7 H7 s7->N σ7 H7->∃m,m < n/\∃i σ' H',ZD X pins σ' H' s7/\tn i s7.heap/\(∀b∈fp,H' b=none)/\W i m σ' H':=fun {σ7 H7} I7 n7=>by
   obtain⟨m',hm,w7⟩:=hN σ7 H7 n7;refine⟨m',hm,i+1,σ7,H7,I7.unpinned,T.keep _ _ _ st5 fun b hb o e=>(I7.pin (b,o) (xI _ (xI _ (Bz hb e)))).1,fun b hb=>?_,w7⟩;obtain⟨o,e,d⟩:=T.obj _ _ st5 b hb;exact(I7.pin (b,o) (xI _ (xI _ (Bz hb e)))).2.1
  cases f with
  | next=>obtain⟨σ7,H7,I7,n7⟩:=q7;exact again I7 n7
  | cont=>obtain⟨σ7,H7,I7,n7⟩:=q7;exact again I7 n7
  | brk=>obtain⟨σ7,H7,I7,q7⟩:=q7;exact⟨σ7,H7,I7.unpinned,q7⟩
  | ret v=>obtain⟨x7,σ7,H7,I7,r7,q7⟩:=q7;exact⟨x7,σ7,H7,I7.unpinned,r7,q7⟩⟩
theorem Ye(i:Nat)(hN:nD X:=by kernel_rfl)(n:nB X x .local:=by kernel_rfl)(hi:X.N[i]? = some x:=by rfl):QG X (.Name x pos) (Wp i):=⟨MM (od hN) (od n) hi⟩
theorem RU{i:Nat}(hN:X.N.Nodup)(n:Nm X.env.scope x .cell)(hf:X.fn x=true:=by rfl)(hi:X.N[i]? = some x:=by rfl):QG X (.Name x pos) (Wp i):=⟨Eg hN hi (.inr n.1) (.inl hf)⟩
theorem V3:AY X [] EG:=⟨by
 intro pins s σ H vs us Q I r h;obtain⟨e,h⟩:=h;subst e;cases r
 exact assignInOrder_nil ⟨σ,H,I,h⟩⟩
theorem Yx{t:TG}{u:TR}(h1:QG X e t)(h2:AY X es u)(hs:(assignEach (e::es) X.env).map (·.2)=assign e X.env::(assignEach es X.env).map (·.2):=by rfl):AY X (e::es) (UF t u):=⟨by
 have h1:=h1.h;have h2:=h2.h;intro pins s σ H vs us Q I r h;obtain⟨v,vr,e1,h⟩:=h;subst e1;cases r with
 | cons r rr =>
  rw[hs];refine assignInOrder_cons (thn (h1 pins s σ H _ _ _ I r h) fun _ s1 ⟨σ1,H1,I1,q1⟩=>?_)
  exact h2 pins s1 σ1 H1 _ _ Q I1 rr q1⟩
theorem Bj{k:Nat}{t:TR}{n:Nat}(hc:X.calm=true)(h:AY X es t)(hn:(assignEach es X.env).length=n:=by rfl)(hst:(assignEach es X.env).findIdx? (·.1)=none:=by rfl):QG X (.Tuple es k pos) (TB X.K n t):=⟨FM hc h.h hn hst⟩
theorem A1{o i:Expr}{to ti:TE}{t:C7}(ho:QE X o to)(hi:QE X i ti)(hs:BM X t)(ha:∀v,assign (.Subscript o i pos) X.env v=(do
   let ov ← holding [v] (eval o X.env)
   let iv ← holding [v,ov] (eval i X.env)
   standAt pos
   holding [v,ov,iv] (setItem ov iv v)
   release [v,ov,iv] []):=by intro _;rfl):QG X (.Subscript o i pos) (QV to ti t):=⟨by
 have ho:=ho.h;have hi:=hi.h;have hs:=hs.h;intro pins s σ H v u Q I r h;rw[ha];refine wpAny_bind (wpAny_holding (thn (ho pins s σ H _ I h) fun ov s1 ⟨x,H1,I1,r1,q1⟩=>?_));refine wpAny_bind (wpAny_holding (thn (hi pins s1 σ H1 _ I1 q1) fun iv s2 ⟨y,H2,I2,r2,q2⟩=>?_));refine wpAny_bind (wpAny_standAt (wpAny_bind (wpAny_holding (thn (hs pins s2 σ H2 x y v ov iv u _ I2 r1 r2 r q2) fun _ s3 ⟨H3,I3,q3⟩=>?_))))
 exact wpAny_release ⟨σ,H3,I3,q3⟩⟩
theorem AL:BM X BL:=⟨by
 intro pins s σ H o i v ov iv u Q I ro ri rv h;obtain⟨p,xs,k,j,rfl,rfl,hp,hj,q⟩:=h;cases ro;obtain⟨t,rfl⟩:=ri;obtain⟨its,n,r,ho,hz⟩:=I.lst hp;obtain⟨h1,h2,h3,h4⟩:=Gk hj;have hl:=r.length;have hn:=Au;have I':ZD X pins σ (upd H p (.lst (xs.set j v))) {s with heap:=s.heap.update p (Obj.mapSeq (·.setIfInBounds j u)) } :=
  I.lstUpd hp ho (OY its n j u) (r.set rv j) (by rw[List.length_set];exact hz) s.toks
 by_cases h0 : 0<=k
 ·have hk:k.toNat=j:=by
   rw[seqIndex_of h0 h4] at h1;exact Option.some.inj h1
  exact PySem.W.ki_setAt ho h0 (by lia) (by rw[xQ,← hl];exact h4) (by rw[hk];exact⟨_,I',q⟩)
 ·have hk:(k+(its.toArray.size:Int)).toNat=j:=by
   rw[seqIndex_neg (by lia) h3] at h1;rw[xQ,← hl];exact Option.some.inj h1
  exact PySem.W.ki_setBack ho (by lia) (by rw[xQ,← hl];exact h3) (by lia) (by rw[hk];exact⟨_,I',q⟩)⟩
variable{tg:Expr}
theorem Y6(hl:QE X l te):QI X tg l (PB X.K te):=⟨by
 have hl:=hl.h;intro pins s σ H R I h;refine thn (hl pins s σ H _ I h) fun v s1 ⟨x,H1,I1,r1,q1⟩=>?_;obtain⟨a,e,⟨xs,hq⟩,q⟩:=q1;subst e;cases r1;obtain⟨its,rv,p,hz⟩:=I1.list hq;refine wpAny_pyIter_list p.isList ?_;refine⟨s1.heap.objs.size,[s1.heap.objs.size],_,_,H1,rfl,I1.kept (t':=s1.toks) fun b o e=>xG _ e,Xz a _,⟨_,xV _ rfl,rfl,rfl⟩,fun b hb=>?_,q⟩;have e:b=s1.heap.objs.size:=by simpa using hb
 subst e
 exact I1.fpOk (xD _) (I1.hok.fresh (xD _))⟩
theorem Hx(hl:QE X l te):QI X tg l (Nt X.K te):=⟨by
 have hl:=hl.h;intro pins s σ H R I h;refine thn (hl pins s σ H _ I h) fun v s1 ⟨x,H1,I1,r1,q1⟩=>?_;obtain⟨a,e,⟨xs,hq⟩,q⟩:=q1;subst e;cases r1;obtain⟨its,rv,p,hz⟩:=I1.tuple hq;refine wpAny_pyIter_tuple (show s1.heap.IsTuple a its.toArray from p) ?_;refine⟨s1.heap.objs.size,[s1.heap.objs.size],_,_,H1,rfl,I1.kept (t':=s1.toks) fun b o e=>xG _ e,Lh a _,⟨_,xV _ rfl,rfl,rfl⟩,fun b hb=>?_,q⟩;have e:b=s1.heap.objs.size:=by simpa using hb
 subst e
 exact I1.fpOk (xD _) (I1.hok.fresh (xD _))⟩
theorem KQ(hl:QE X l te):QI X tg l (SG te):=⟨by
 have hl:=hl.h;intro pins s σ H R I h;refine thn (hl pins s σ H _ I h) fun v s1 ⟨y,H1,I1,r1,q1⟩=>?_;obtain⟨x,e,q⟩:=q1;subst e;obtain⟨t,rfl⟩:=r1;refine wpAny_pyIter_strU ?_;refine⟨s1.heap.objs.size,[s1.heap.objs.size],_,_,H1,rfl,I1.kept (t':=s1.toks) fun b o e=>xG _ e,LY _ x t,⟨_,xV _ rfl,rfl,rfl⟩,fun b hb=>?_,q⟩;have e:b=s1.heap.objs.size:=by simpa using hb
 subst e
 exact I1.fpOk (xD _) (I1.hok.fresh (xD _))⟩
theorem Bk{a:Expr}{ta:TA}(hm:X.mg "range" = none)(ha:QA X [a] ta)(hg:nB X "range" .globalImplicit:=by kernel_rfl)(hs:starEach [a] X.env = [(false,eval a X.env)]:=by rfl):QI X tg (.Call (.Name "range" p) [a] [] pos) (Sy ta):=⟨by
 have hg:=(od hg).1;have ha:=ha.h;intro pins s σ H R I h;refine Call_ (Uw I hg hm boot_range (PyProof.Rows.callWith_type1 (thn (ha pos pins s σ H _ I h) fun us s1 ⟨vs,H1,I1,r1,q1⟩=>?_) hs rfl));obtain⟨j,e,q1,q2,q⟩:=q1;subst e;cases r1 with
 | cons r rr =>
  cases rr;obtain⟨t,rfl⟩:=r
  exact call_range_1 (Gz I1 (by lia) (by lia) q1 q2 (by simpa using q))⟩
theorem Fs{a b:Expr}{ta:TA}(hm:X.mg "range" = none)(ha:QA X [a,b] ta)(hg:nB X "range" .globalImplicit:=by kernel_rfl)(hs:starEach [a,b] X.env = [(false,eval a X.env),(false,eval b X.env)]:=by rfl)(hs2:starEach [b] X.env = [(false,eval b X.env)]:=by rfl) :
  QI X tg (.Call (.Name "range" p) [a,b] [] pos) (SX ta):=⟨by
 have hg:=(od hg).1;have ha:=ha.h;intro pins s σ H R I h;refine Call_ (Uw I hg hm boot_range (PyProof.Rows.callWith_type1 (thn (ha pos pins s σ H _ I h) fun us s1 ⟨vs,H1,I1,r1,q1⟩=>?_) (by rw[hs,hs2]) (by rw[hs2];rfl)));obtain⟨i,j,e,⟨q1,q2,q3,q4⟩,q⟩:=q1;subst e;cases r1 with
 | cons r rr =>
  cases rr with
  | cons r' rr =>
   cases rr;obtain⟨t,rfl⟩:=r;obtain⟨t',rfl⟩:=r'
   exact call_range_2 (Gz I1 q1 q2 q3 q4 q)⟩
theorem Zb:QA X [] Vr:=⟨fun _ _ _ _ H Q I h=>Calls.spliced_nil ⟨[],H,I,.nil,h⟩⟩
theorem Za{t:TA}(ha:QE X e te)(hr:QA X es t)(hs:starEach (e::es) X.env=(false,eval e X.env)::starEach es X.env:=by rfl):QA X (e::es) (Ui te t):=⟨by
 have ha:=ha.h;have hr:=hr.h;intro pos pins s σ H Q I h;rw[hs];show wpAny _ _ (spliced ((false,eval e X.env)::backTo pos (starEach es X.env))) _ _ s;refine Calls.spliced_cons (thn (ha pins s σ H _ I h) fun u s1 ⟨x,H1,I1,r1,q1⟩=>?_)
 exact thn (hr pos pins s1 σ H1 _ I1 q1) fun us s2 ⟨xs,H2,I2,r2,q2⟩=>⟨x::xs,H2,I2,.cons r1 r2,q2⟩⟩
theorem Z9 {x1} {t:TA}(h:QA X es t):QE X (.Tuple es x1 pos) (SC t):=⟨by
 have h:=h.h;intro pins s σ H Q I hq;refine wpAny_Tuple_spliced (thn (h pos pins s σ H _ I hq) fun us s1 ⟨xs,H1,I1,r,z,q⟩=>⟨by rw[← r.length];exact z,?_⟩);have hf:H1 s1.heap.objs.size=none:=I1.hok.fresh (xD _);refine⟨.ref s1.heap.objs.size,upd H1 s1.heap.objs.size (.tup xs),I1.laid (t':=s1.toks) (fun b u e=>xG _ e) (xD _) ?_,rfl,q _ hf⟩
 exact⟨z,us,r,⟨_,xV _ rfl,rfl,_,rfl⟩⟩⟩
theorem Yl{t:TA}(h:QA X es t):QE X (.List es pos) (Rt t):=⟨by
 have h:=h.h;intro pins s σ H Q I hq;refine wpAny_List_spliced (thn (h pos pins s σ H _ I hq) fun us s1 ⟨xs,H1,I1,r,z,q⟩=>⟨by rw[← r.length];exact z,?_⟩);have hf:H1 s1.heap.objs.size=none:=I1.hok.fresh (xD _);refine⟨.ref s1.heap.objs.size,upd H1 s1.heap.objs.size (.lst xs),I1.laid (t':=s1.toks) (fun b u e=>xG _ e) (xD _) ?_,rfl,q _ hf⟩
 exact⟨z,us,0,r,xV _ rfl⟩⟩
theorem Vt(ha:QT X a tA):QT X (.UnaryOp .Not a pos) (Mw tA):=⟨by
 have ha:=ha.h;intro pins s σ H Q I h
 exact isTrue_not (ha pins s σ H (fun c H1=>Q (!c) H1) I h)⟩
theorem QW.pt(h:QW X e tA):QT X e tA:=⟨PW.pt h.h⟩
theorem Uo(ha:QT X a tA):QW X (.BoolOp .And [a] pos) tA:=⟨by
 have ha:=ha.h;intro wh pins s σ H Q I h;refine isTrue_and (thn (ha pins s σ H Q I h) fun c s1 e=>?_);cases c with
 | true=>exact isTrue_and_nil e
 | false=>exact e⟩
theorem F7(ha:QT X a tA):QW X (.BoolOp .Or [a] pos) tA:=⟨by
 have ha:=ha.h;intro wh pins s σ H Q I h;refine isTrue_or (thn (ha pins s σ H Q I h) fun c s1 e=>?_);cases c with
 | false=>exact isTrue_or_nil e
 | true=>exact e⟩
theorem Vl{rest:List Expr}(ha:QT X a tA)(hb:QW X (.BoolOp .And (b::rest) pos) tB'):QW X (.BoolOp .And (a::b::rest) pos) (Lg tA tB'):=⟨by
 have ha:=ha.h;have hb:=hb.h;intro wh pins s σ H Q I h;refine isTrue_and (thn (ha pins s σ H _ I h) fun c s1 ⟨H1,I1,q1⟩=>?_);cases c with
 | true=>exact hb wh pins s1 σ H1 Q I1 q1
 | false=>exact⟨H1,I1,q1⟩⟩
theorem IX{rest:List Expr}(ha:QT X a tA)(hb:QW X (.BoolOp .Or (b::rest) pos) tB'):QW X (.BoolOp .Or (a::b::rest) pos) (SQ tA tB'):=⟨by
 have ha:=ha.h;have hb:=hb.h;intro wh pins s σ H Q I h;refine isTrue_or (thn (ha pins s σ H _ I h) fun c s1 ⟨H1,I1,q1⟩=>?_);cases c with
 | true=>exact⟨H1,I1,q1⟩
 | false=>exact hb wh pins s1 σ H1 Q I1 q1⟩
theorem Zq(ho:YW X (compareOp op) r)(ha:QE X a ta)(hb:QE X b tb)(hm:behindInMarks op b=false):QT X (.Compare a [op] [b] pos) (B3 (JJ r ta tb)):=⟨by
 have ho:=ho.h;have ha:=ha.h;have hb:=hb.h;intro pins s σ H Q I h
 refine wpAny_isTrue_Compare1 (thn (ha pins s σ H _ I h) fun v s1 ⟨x,H1,I1,r1,q1⟩=>thn (hb pins s1 σ H1 _ I1 q1) fun u s2 ⟨y,H2,I2,r2,q2⟩=>
  thn (ho pins s2 σ H2 x y v u _ I2 r1 r2 q2) fun c s3 ⟨z,H3,I3,r3,k,e,q3⟩=>?_) hm
 subst e;cases r3
 exact wpAny_truthy_bool ⟨H3,I3,q3⟩⟩
theorem Uz(ho:YW X (compareOp op) r)(ha:QE X a ta)(hb:QE X b tb)(hm:behindInMarks op b=false):QE X (.Compare a [op] [b] pos) (JJ r ta tb):=⟨by
 have ho:=ho.h;have ha:=ha.h;have hb:=hb.h;intro pins s σ H Q I h
 exact wpAny_Compare1 (Ds ha hb I h fun v u s2 x y H2 I2 rx ry q=>ho pins s2 σ H2 x y v u Q I2 rx ry q) hm⟩
theorem Kh(ho:YW X (compareOp op) r)(ho':YW X (compareOp op') r')(ha:QE X a ta)(hb:QE X b tb)(hc:QE X c tc)(hm:lastMarks [op,op'] [b,c]=false:=by with_unfolding_all rfl):QE X (.Compare a [op,op'] [b,c] pos) (Iv r r' ta tb tc):=⟨by
 have ho:=ho.h;have ho':=ho'.h;have ha:=ha.h;have hb:=hb.h;have hc:=hc.h;intro pins s σ H Q I h
 refine Compare_chain (thn (ha pins s σ H _ I h) fun v s1 ⟨x,H1,I1,r1,q1⟩=>chain_link (thn (hb pins s1 σ H1 _ I1 q1) fun u s2 ⟨y,H2,I2,r2,q2⟩=>
  thn (ho pins s2 σ H2 x y v u _ I2 r1 r2 q2) fun d s3 ⟨z,H3,I3,r3,k,e,q3⟩=>?_)) hm
 subst e;cases r3;refine wpAny_truthy_bool ?_;cases k with
 | false=>exact ite_ff ⟨.bl false,H3,I3,rfl,q3⟩
 | true=>exact ite_tt (chain_last (thn (hc pins s3 σ H3 _ I3 q3) fun w' s4 ⟨z',H4,I4,r4,q4⟩=>ho' pins s4 σ H4 y z' u w' Q I4 r2 r4 q4))⟩
theorem Js(ho:YW X (compareOp op) r)(ho':YW X (compareOp op') r')(ha:QE X a ta)(hb:QE X b tb)(hc:QE X c tc)(hm:lastMarks [op,op'] [b,c]=false:=by with_unfolding_all rfl):QT X (.Compare a [op,op'] [b,c] pos) (B3 (Iv r r' ta tb tc)):=⟨by
 have ho:=ho.h;have ho':=ho'.h;have ha:=ha.h;have hb:=hb.h;have hc:=hc.h;intro pins s σ H Q I h
 refine isTrue_chain (thn (ha pins s σ H _ I h) fun v s1 ⟨x,H1,I1,r1,q1⟩=>test_link (thn (hb pins s1 σ H1 _ I1 q1) fun u s2 ⟨y,H2,I2,r2,q2⟩=>
  thn (ho pins s2 σ H2 x y v u _ I2 r1 r2 q2) fun d s3 ⟨z,H3,I3,r3,k,e,q3⟩=>?_)) hm
 subst e;cases r3;refine wpAny_truthy_bool ?_;cases k with
 | false =>
  obtain⟨k',e',q'⟩:=q3;cases e';exact ite_ff ⟨H3,I3,q'⟩
 | true =>
  refine ite_tt (test_last (thn (hc pins s3 σ H3 _ I3 q3) fun w' s4 ⟨z',H4,I4,r4,q4⟩=>thn (ho' pins s4 σ H4 y z' u w' _ I4 r2 r4 q4) fun d' s5 ⟨z2,H5,I5,r5,k2,e2,q5⟩=>?_));subst e2;cases r5
  exact wpAny_truthy_bool ⟨H5,I5,q5⟩⟩
theorem Vd(h:QE X e te)(he:∀whole,isTrue e X.env whole=(do let v ← whole;standAt e.pos;holding [v] (truthy v)):=by intro _;rfl):QT X e (tB te):=⟨by
 have h:=h.h;intro pins s σ H Q I hw;refine isTrue_plain (thn (h pins s σ H _ I hw) fun v s1 ⟨x,H1,I1,r1,q1⟩=>?_) (he _);obtain⟨d,rfl,q⟩:=q1;cases r1
 exact wpAny_truthy_bool ⟨H1,I1,q⟩⟩
theorem Zd {i j pos}:QE X (.Constant (.int i) j pos) (tC (.int i)):=⟨fun _ _ _ H _ I h=>wpAny_Constant_int ⟨.int i,H,I.tok _,⟨_,rfl⟩,h⟩⟩
theorem Ji {b j pos}:QE X (.Constant (.bool b) j pos) (tC (.bl b)):=⟨fun _ _ _ H _ I h=>Constant_bool ⟨.bl b,H,I,rfl,h⟩⟩
theorem Y7 {j pos}:QE X (.Constant .none j pos) (tC .non):=⟨fun _ _ _ H _ I h=>Constant_none ⟨.non,H,I,rfl,h⟩⟩
theorem Z2 {x j pos}:QE X (.Constant (.str x) j pos) (tC (.str x)):=⟨fun _ _ _ H _ I h=>Calls.Constant_str ⟨.str x,H,I.tok _,⟨_,rfl⟩,h⟩⟩
theorem qvN(i:Nat)(n:nB X x .local:=by kernel_rfl)(hN:X.N[i]? = some x:=by rfl):QE X (.Name x pos) (YI i):=⟨pvN i (od n) hN⟩
abbrev Q0{X x p}:=@qvN X x p 0
abbrev Q8{X x p}:=@qvN X x p 1
abbrev Q9{X x p}:=@qvN X x p 2
abbrev Qa{X x p}:=@qvN X x p 3
abbrev Qb{X x p}:=@qvN X x p 4
abbrev Qc{X x p}:=@qvN X x p 5
abbrev Qd{X x p}:=@qvN X x p 6
abbrev Qe{X x p}:=@qvN X x p 7
theorem qvC(i:Nat)(n:Nm X.env.scope x .cell)(hN:X.N[i]? = some x:=by rfl):QE X (.Name x pos) (YI i):=⟨Ct hN (.inr (.inl n.1)) n.2.1 n.2.2.1⟩
theorem Y8{v:V}{u:XU}(hm:X.mg x=some u)(r:ZG v u)(n:nB X x .globalImplicit:=by kernel_rfl):QE X (.Name x pos) (tC v):=⟨PL (od n) hm r⟩
theorem Cj{v:V}{u:XU}(hm:X.mg x=none)(hv:bootBuiltins x=some u)(r:ZG v u)(n:nB X x .globalImplicit:=by kernel_rfl):QE X (.Name x pos) (tC v):=⟨KH (od n) hm hv r⟩
theorem Z0(ho:YW X (binaryOp op) r)(ha:QE X a ta)(hb:QE X b tb):QE X (.BinOp a op b pos) (JJ r ta tb):=⟨by
 have ho:=ho.h;have ha:=ha.h;have hb:=hb.h;intro pins s σ H Q I h
 exact wpAny_BinOp (Ds ha hb I h fun v u s2 x y H2 I2 rx ry q=>ho pins s2 σ H2 x y v u Q I2 rx ry q)⟩
theorem J0(ho:Hw X (unaryOp op) r)(ha:QE X a ta):QE X (.UnaryOp op a pos) (OH r ta):=⟨by
 have ho:=ho.h;have ha:=ha.h;intro pins s σ H Q I h
 exact UnaryOp_ (thn (ha pins s σ H _ I h) fun v s1 ⟨x,H1,I1,r1,q1⟩=>ho pins s1 σ H1 x v Q I1 r1 q1)⟩
theorem CC {op} (h:QE X a ta):QE X (.BoolOp op [a] pos) ta:=⟨Pa h.h⟩
theorem Cu{rest:List Expr}(ha:QE X a ta)(hb:QE X (.BoolOp .And (b::rest) pos) tb):QE X (.BoolOp .And (a::b::rest) pos) (QD ta tb):=⟨by
 have ha:=ha.h;have hb:=hb.h;intro pins s σ H Q I h;refine BoolOp_and (thn (ha pins s σ H _ I h) fun v s1 ⟨x,H1,I1,r1,q1⟩=>?_);obtain⟨c,rfl,q1⟩:=q1;cases r1;refine wpAny_truthy_bool ?_;cases c with
 | true=>exact hb pins s1 σ H1 Q I1 q1
 | false=>exact⟨.bl false,H1,I1,rfl,q1⟩⟩
theorem Lj(hc:QT X c tA)(ha:QE X a ta)(hb:QE X b tb):QE X (.IfExp c a b pos) (Nn tA ta tb):=⟨by
 have hc:=hc.h;have ha:=ha.h;have hb:=hb.h;intro pins s σ H Q I h;refine wpAny_IfExp (thn (hc pins s σ H _ I h) fun d s1 ⟨H1,I1,q1⟩=>?_);cases d with
 | true=>exact ha pins s1 σ H1 Q I1 q1
 | false=>exact hb pins s1 σ H1 Q I1 q1⟩
theorem Jb:QO X none Mg:=⟨by
 intro pins s σ H Q I h;rw[evalPart_none]
 exact wpAny_pure ⟨none,H,I,.none,h⟩⟩
theorem Jg(h:QE X e te):QO X (some e) (MB te):=⟨by
 have h:=h.h;intro pins s σ H Q I hw;rw[evalPart_some];refine thn (h pins s σ H _ I hw) fun u s1 ⟨x,H1,I1,r1,q1⟩=>?_;obtain⟨i,rfl,q⟩:=q1;obtain⟨t,rfl⟩:=r1
 exact⟨some i,H1,I1,.int i t,q⟩⟩
theorem Jo{lo hi:Option Expr}{tl th:TO}{r:V->Option Int->Option Int->Hp->VK->Prop}(hr:EU X r)(he:QE X e te)(hl:QO X lo tl)(hu:QO X hi th):QE X (.Subscript e (.Slice lo hi none p2) pos) (LS r te tl th):=⟨by
 have hr:=hr.h;have he:=he.h;have hl:=hl.h;have hu:=hu.h;intro pins s σ H Q I h;refine Subscript_ (thn (he pins s σ H _ I h) fun v s1 ⟨x,H1,I1,r1,q1⟩=>?_);refine wpAny_Slice (thn (hl pins s1 σ H1 _ I1 q1) fun vl s2 ⟨l,H2,I2,pl,q2⟩=>thn (hu pins s2 σ H2 _ I2 q2) fun vu s3 ⟨u,H3,I3,pu,q3⟩=>?_);rw[evalPart_none];refine wpAny_pure ?_;have I4:ZD X pins σ H3 {s3 with heap:=s3.heap.push {cls:=.type "slice", data:=.fields #[vl,vu,.none] } }:=I3.kept (t':=s3.toks) fun b ob q=>xG _ q;obtain⟨T,id,hT,ht,hg⟩:=hr pins {s3 with heap:=s3.heap.push {cls:=.type "slice", data:=.fields #[vl,vu,.none] } } σ H3 x v vl vu l u s3.heap.objs.size Q I4 r1 (Heap.IsSliceOf.new ..) pl pu q3;show wpAny (model X.prog X.w) X.A (subscriptTail e (.Slice lo hi none p2) v (.ref s3.heap.objs.size)) (EP X pins σ Q) X.xe {s3 with heap:=s3.heap.push {cls:=.type "slice", data:=.fields #[vl,vu,.none] } }
 exact tail_any (ops:=[.ref s3.heap.objs.size,v]) ht hT hg (by with_unfolding_all rfl)⟩
theorem Zh(hr:AN X r)(ha:QE X a ta)(hb:QE X b tb)(hs:XA b):QE X (.Subscript a b pos) (JJ r ta tb):=⟨by
 have hr:=hr.h;have ha:=ha.h;have hb:=hb.h;intro pins s σ H Q I h
 exact Subscript_ (Ds ha hb I h fun v u s2 x y H2 I2 rx ry q=>hr a b pins s2 σ H2 x y v u Q I2 rx ry q (hs _ _))⟩
theorem Zk{k:Nat}{ps:XO}{sp:Sp}{t:TA}(F:Fn X.prog X.w X.K X.mg X.base x ps k sp)(ha:QA X (e::es) t)(hr:ZM k X.A:=by exact ZM.mono (by assumption) (by first | decide | lia))(n:nB X x .globalImplicit:=by kernel_rfl)(he:starEach (e::es) X.env=(false,eval e X.env)::starEach es X.env:=by rfl)(hpl:(backTo pos (starEach es X.env)).any (·.1)=false:=by rfl) :
  QE X (.Call (.Name x p) (e::es) [] pos) (J4 sp t):=⟨Mb F hr (od n) ha.h he hpl⟩
theorem Z5{t:TA}{id:String}{r:List V->Hp->VK->Prop}(hc:QC X (.builtin id) r)(hm:X.mg x=none)(hv:bootBuiltins x=some (.builtin id))(ha:QA X (e::es) t)(n:nB X x .globalImplicit:=by kernel_rfl)(he:starEach (e::es) X.env=(false,eval e X.env)::starEach es X.env:=by rfl)(hpl:(backTo pos (starEach es X.env)).any (·.1)=false:=by rfl):QE X (.Call (.Name x p) (e::es) [] pos) (Bf r t):=⟨Lv hc.h (od n) hm hv ha.h he hpl⟩
theorem Tz{t:TA}{T:String}{r:List V->Hp->VK->Prop}(hc:QC X (.type T) r)(hm:X.mg x=none)(hv:bootBuiltins x=some (.type T))(ha:QA X (e::es) t)(n:nB X x .globalImplicit:=by kernel_rfl)(he:starEach (e::es) X.env=(false,eval e X.env)::starEach es X.env:=by rfl)(hpl:(backTo pos (starEach es X.env)).any (·.1)=false:=by rfl):QE X (.Call (.Name x p) (e::es) [] pos) (Bf r t):=⟨RF hc.h (od n) hm hv ha.h he hpl⟩
theorem Y4{o:Expr}{to:TE}{t:TA}{name:Str}{apos cpos:Pos}{T id:String}{r:V->List V->Hp->VK->Prop}(pa:PlainAttrs T)(slot:Slot T name id)(hty:typeOf (.builtin id)=pure (.type "method_descriptor"))(hm:QM X id r)(ho:QE X o to)(ha:QA X (e::es) t)(hbase:attributeBase o name X.env (eval o X.env)=eval o X.env:=by rfl)(hfew:((backTo cpos (starEach (e::es) X.env)).all (fun x=>!x.1) && (backToKw cpos (keywordEach [] X.env)).all (fun x=>x.1.isSome)
   && decide ((e::es).length+([]:List Keyword).length+(if ([]:List Keyword).isEmpty then 0 else 1) < 30))=true:=by rfl)(hline:(apos.endLine == cpos.line)=true:=by rfl)(hs:starEach (e::es) X.env=(false,eval e X.env)::starEach es X.env:=by rfl)(hplain:(backTo cpos (starEach es X.env)).any (·.1)=false:=by rfl) :
  QE X (.Call (.Attribute o name apos) (e::es) [] cpos) (ED X.K T r to t):=⟨by
 have hm:=hm.h;have ho:=ho.h;have ha:=ha.h;intro pins s σ H Q I h;refine wpAny_Call_method_late hbase hfew hline rfl (thn (ho pins s σ H _ I h) fun v s1 ⟨x,H1,I1,r1,ty,q1⟩=>?_);obtain⟨h1,h2⟩:=Ht I1 r1 ty;refine⟨T,id,pa,slot,hty,h1,h2,?_⟩;have hA:=ha cpos pins s1 σ H1 _ I1 q1;rw[hs] at hA ⊢;refine Calls.callWith_builtin (by show (false || (backTo cpos (starEach es X.env)).any (·.1))=false;rw[hplain]<;>rfl) (Calls.evalArgs_plain ?_)
 exact thn hA fun us s2 ⟨vs,H2,I2,r2,q2⟩=>hm pins s2 σ H2 x vs v us Q I2 r1 r2 q2⟩
theorem Wf:YW X (binaryOp .Add) (J5 fun i j=>.int (i+j)):=⟨GC fun _ _ _ _ _ _ _ q=>add_int q⟩
theorem Jc:YW X (binaryOp .Sub) (J5 fun i j=>.int (i - j)):=⟨GC fun _ _ _ _ _ _ _ q=>sub_int q⟩
theorem HZ:YW X (binaryOp .Mult) (rI JM fun i j=>.int (i * j)):=⟨opI fun _ _ _ _ _ _ _ hc q=>mul_int q hc.ok⟩
theorem Cp:YW X (binaryOp .FloorDiv) (rI Fd fun i j=>.int (i / j)):=⟨opI fun i j _ _ _ _ _ hc q=>by
 have h1:(0:Int) < j:=hc.1;have h2:j < 1073741824:=hc.2
 exact floordiv_int (by lia) (by rw[Int.fdiv_eq_ediv_of_nonneg i (by lia)];exact q) (.inl (PyProof.noPylong_small (by lia)))⟩
theorem AS:YW X (binaryOp .Mod) (rI (fun _ j=>0 < j) fun i j=>.int (i % j)):=⟨opI fun i j _ _ _ _ _ hc q=>by
 have h1:(0:Int) < j:=hc
 exact mod_int' (by lia) (by rw[Int.fmod_eq_emod_of_nonneg i (by lia)];exact q)⟩
theorem Le:YW X (binaryOp .Pow) (rI Fe fun i j=>.int (i ^ j.toNat)):=⟨opI fun _ _ _ _ _ _ _ hc q=>pow_int_small hc.1 hc.2.1 hc.2.2 q⟩
theorem Jr:Hw X (unaryOp .USub) (rU fun i=>.int (-i)):=⟨by
 intro pins s σ H x v Q I rx h;obtain⟨i,rfl,q⟩:=h;obtain⟨t,rfl⟩:=rx
 exact neg_int ⟨.int (-i),H,I.tok _,⟨_,rfl⟩,q⟩⟩
def Sv(g:Str->Str->V):R2:=fun x y H Q=>∃i j,x = .str i/\y = .str j/\Q (g i j) H
theorem Ij:YW X (compareOp .LtE) (Sv fun i j=>.bl (!decide (j.cps.toList < i.cps.toList))):=⟨by
 intro pins s σ H x y v u Q I rx ry h;obtain⟨i,j,rfl,rfl,q⟩:=h;obtain⟨t,rfl⟩:=rx;obtain⟨t',rfl⟩:=ry
 exact P.le_str ⟨.bl _,H,I,rfl,q⟩⟩
def SN:R2:=fun x y H Q=>∃i j,x = .str i/\y = .str j/\i.length+j.length<=sizeLine/\Q (.str (i++j)) H
theorem De:YW X (binaryOp .Add) SN:=⟨by
 intro pins s σ H x y v u Q I rx ry h;obtain⟨i,j,rfl,rfl,hz,q⟩:=h;obtain⟨t,rfl⟩:=rx;obtain⟨t',rfl⟩:=ry
 exact add_str (fun t' tk=>⟨.str (i++j),H,I.tok _,⟨_,rfl⟩,q⟩) hz⟩
theorem Jf:YW X (binaryOp .Add) ET:=⟨by
 intro pins s σ H x y v u Q I rx ry h;obtain⟨l,b,xs,zs,rfl,rfl,hH,hB,hz,q⟩:=h;cases rx;cases ry;obtain⟨z,its,n,r,hl,e⟩:=I.lstM hH;obtain⟨z2,its2,n2,r2,hl2,e2⟩:=I.lstM hB;refine PySem.P.add_list e e2 ?_ (by rw[xQ,xQ];lia);have ea:its.toArray++its2.toArray=(its++its2).toArray:=by simp
 rw[ea]
 exact⟨.ref _,_,I.lnew (t':=s.toks) (r.append r2) (by rw[xF];lia),rfl,q _ I.fresh⟩⟩
theorem IK:YW X (binaryOp .Mult) Ek:=⟨by
 intro pins s σ H x y v u Q I rx ry h;obtain⟨l,k,xs,rfl,rfl,hH,h1,h2,hz,q⟩:=h;cases rx;obtain⟨t,rfl⟩:=ry;obtain⟨z,its,n,r,hl,e⟩:=I.lstM hH;have hlen:its.toArray.size * k.toNat<=sizeLine:=by rw[xQ,← hl];exact hz
 have hcap:¬its.toArray.size * k.toNat > (2 ^ 63 - 1) / 8:=by
  have:(sizeLine:Nat)<=(2 ^ 63 - 1) / 8:=by decide
  lia
 have hfit:¬(!Builtin.List.listFitsIndex k)=true:=by
  rw[fitsIndex_both h1 h2];exact xL
 have hlong:¬Builtin.List.listTooLong (its.toArray.size * k.toNat)=true:=by
  rw[SW hlen];exact xL
 have hnew:List.foldl (fun x1 x2=>x1++x2) #[] (List.replicate (if its.toArray.isEmpty=true then 0 else k.toNat) its.toArray)=(List.replicate k.toNat its).flatten.toArray:=by
  have f0:∀m:Nat,List.foldl (fun x1 x2=>x1++x2) #[] (List.replicate m its.toArray)=(List.replicate m its).flatten.toArray:=fun m=>by
   have:=HU its m [];rw[zK] at this;exact this
  rw[f0];cases its with
  | nil=>simp
  | cons a r'=>rw[if_neg (by simp)]
 refine wpAny_binaryOp_repeat_ref (T:="list") (U:="int") aA ⟨_,e,rfl⟩ (fun s'=>typeIs_int s' k t) noFill_list_mul F.fills_int_mul F.slot_int_rmul repeat_list F.slot_int_index.lookup
  (call_meets F.slot_int_rmul (typeIs_int s k t) F.entry_int_rmul (F.args_int_rmul_2 _ _) (int___rmul___int_list k t l its.toArray n)
   ⟨e,rfl,⟨_,e,rfl⟩,call_meets F.slot_list_mul ⟨_,e,rfl⟩ F.entry_list_mul (F.args_list_mul_2 _ _) (AutoListH.list___mul___list_int_3 l its.toArray n k t hfit hcap hlong) ⟨e,?_⟩⟩)
 rw[hnew]
 exact⟨.ref _,_,I.lnew (t':=s.toks) (r.rep k.toNat) (by rw[Lq,Nat.mul_comm];exact hz),rfl,q _ I.fresh⟩⟩
theorem Yo:YW X (compareOp .Eq) CH:=⟨by
 intro pins s σ H x y v u Q I rx ry h;obtain⟨hs,q⟩:=h;cases x with
 | non =>
  cases rx;cases y with
  | non=>cases ry;exact PySem.EqNone.eq_none_none (Yv I q (by simp))
  | bl j=>cases ry;exact PySem.EqNone.eq_none_bool (Yv I q (by simp))
  | int j=>obtain⟨t',rfl⟩:=ry;exact PySem.EqNone.eq_none_int (Yv I q (by simp))
  | str j=>obtain⟨t',rfl⟩:=ry;exact PySem.EqNone.eq_none_str (Yv I q (by simp))
  | _=>exact absurd (show false=true from hs) xL
 | bl i =>
  cases rx;cases y with
  | non=>cases ry;exact PySem.EqNone.eq_bool_none (Yv I q (by simp))
  | bl j=>cases ry;exact eq_bool (Yv I q Gy)
  | str j=>obtain⟨t',rfl⟩:=ry;exact PySem.EqMixed.eq_bool_str (Yv I q (by simp))
  | _=>exact absurd (show false=true from hs) xL
 | int i =>
  obtain⟨t,rfl⟩:=rx;cases y with
  | non=>cases ry;exact PySem.EqNone.eq_int_none (Yv I q (by simp))
  | int j=>obtain⟨t',rfl⟩:=ry;exact eq_int (Yv I q IC)
  | str j=>obtain⟨t',rfl⟩:=ry;exact PySem.EqMixed.eq_int_str (Yv I q (by simp))
  | _=>exact absurd (show false=true from hs) xL
 | str i =>
  obtain⟨t,rfl⟩:=rx;cases y with
  | non=>cases ry;exact PySem.EqNone.eq_str_none (Yv I q (by simp))
  | bl j=>cases ry;exact PySem.EqMixed.eq_str_bool (Yv I q (by simp))
  | int j=>obtain⟨t',rfl⟩:=ry;exact PySem.EqMixed.eq_str_int (Yv I q (by simp))
  | str j=>obtain⟨t',rfl⟩:=ry;exact eq_str (Yv I q Hv)
  | _=>exact absurd (show false=true from hs) xL
 | byt i =>
  obtain⟨t,rfl⟩:=rx;cases y with
  | byt j=>obtain⟨t',rfl⟩:=ry;exact PySem.W.eq_bytes (Yv I q Gb)
  | _=>exact absurd (show false=true from hs) xL
 | _=>cases y<;>exact absurd (show false=true from hs) xL⟩
theorem Lu:YW X (compareOp .NotEq) MV:=⟨by
 intro pins s σ H x y v u Q I rx ry h;obtain⟨hs,q⟩:=h;cases x with
 | non =>
  cases rx;cases y with
  | non=>cases ry;exact PySem.EqNone.ne_none_none (Yv I q (by simp))
  | bl j=>cases ry;exact PySem.EqNone.ne_none_bool (Yv I q (by simp))
  | int j=>obtain⟨t',rfl⟩:=ry;exact PySem.EqNone.ne_none_int (Yv I q (by simp))
  | str j=>obtain⟨t',rfl⟩:=ry;exact PySem.EqNone.ne_none_str (Yv I q (by simp))
  | _=>exact absurd (show false=true from hs) xL
 | bl i =>
  cases rx;cases y with
  | non=>cases ry;exact PySem.EqNone.ne_bool_none (Yv I q (by simp))
  | bl j=>cases ry;exact ne_bool (Yv I q (congrArg not Gy))
  | str j=>obtain⟨t',rfl⟩:=ry;exact PySem.EqMixed.ne_bool_str (Yv I q (by simp))
  | _=>exact absurd (show false=true from hs) xL
 | int i =>
  obtain⟨t,rfl⟩:=rx;cases y with
  | non=>cases ry;exact PySem.EqNone.ne_int_none (Yv I q (by simp))
  | int j=>obtain⟨t',rfl⟩:=ry;exact ne_int (Yv I q (congrArg not IC))
  | str j=>obtain⟨t',rfl⟩:=ry;exact PySem.EqMixed.ne_int_str (Yv I q (by simp))
  | _=>exact absurd (show false=true from hs) xL
 | str i =>
  obtain⟨t,rfl⟩:=rx;cases y with
  | non=>cases ry;exact PySem.EqNone.ne_str_none (Yv I q (by simp))
  | bl j=>cases ry;exact PySem.EqMixed.ne_str_bool (Yv I q (by simp))
  | int j=>obtain⟨t',rfl⟩:=ry;exact PySem.EqMixed.ne_str_int (Yv I q (by simp))
  | str j=>obtain⟨t',rfl⟩:=ry;exact ne_str (Yv I q (congrArg not Hv))
  | _=>exact absurd (show false=true from hs) xL
 | byt i =>
  obtain⟨t,rfl⟩:=rx;cases y with
  | byt j=>obtain⟨t',rfl⟩:=ry;exact PySem.W.ne_bytes (Yv I q (congrArg not Gb))
  | _=>exact absurd (show false=true from hs) xL
 | _=>cases y<;>exact absurd (show false=true from hs) xL⟩
theorem U0:YW X (compareOp .Lt) (J5 fun i j=>.bl (decide (i < j))):=⟨Di fun _ _ _ _ _ _ _ q=>lt_int q⟩
theorem Wj:YW X (compareOp .LtE) (J5 fun i j=>.bl (decide (i<=j))):=⟨Di fun _ _ _ _ _ _ _ q=>le_int q⟩
theorem JT:YW X (compareOp .Gt) (J5 fun i j=>.bl (decide (j < i))):=⟨Di fun _ _ _ _ _ _ _ q=>gt_int q⟩
theorem J8:YW X (compareOp .GtE) (J5 fun i j=>.bl (decide (j<=i))):=⟨Di fun _ _ _ _ _ _ _ q=>ge_int q⟩
def LH:R2:=fun x y H Q=>y = .non/\Q (.bl (decide (x = .non))) H
def KN:R2:=fun x y H Q=>y = .non/\Q (.bl (!decide (x = .non))) H
theorem Ie:YW X (compareOp .Is) LH:=⟨by
 intro pins s σ H x y v u Q I rx ry h;obtain⟨rfl,q⟩:=h;cases ry;refine is_none_gen (Yv I q ?_);cases x<;>first
  | (cases rx;rfl)
  | (obtain⟨t,rfl⟩:=rx;rfl)⟩
theorem J9:YW X (compareOp .IsNot) KN:=⟨by
 intro pins s σ H x y v u Q I rx ry h;obtain⟨rfl,q⟩:=h;cases ry;refine isnot_none_gen (Yv I q ?_);cases x<;>first
  | (cases rx;rfl)
  | (obtain⟨t,rfl⟩:=rx;rfl)⟩
theorem Hn:YW X (compareOp .In) (Cr X.K false):=⟨XC⟩
theorem Kt:YW X (compareOp .NotIn) (Cr X.K true):=⟨Mm⟩
theorem Yb:AN X (Jz X.K):=⟨FY⟩
theorem Zs:AN X (Jx X.K):=⟨FJ⟩
theorem DJ:AN X Bt:=⟨Lp⟩
theorem Bg:EU X (Bu X.K):=⟨SH⟩
def RZ:V->Option Int->Option Int->Hp->VK->Prop:=fun x lo hi H Q=>∃z,x = .str z/\z.length<=sizeLine/\Q (.str (Txt.slice z lo hi)) H
theorem Dn:EU X RZ:=⟨by
 intro pins s σ H x v vl vu lo hi sl Q I rx hs pl pu h;obtain⟨z,rfl,hz,q⟩:=h;obtain⟨t,rfl⟩:=rx;obtain⟨l,rfl,rfl⟩:=Ip pl;obtain⟨u,rfl,rfl⟩:=Ip pu;refine⟨"str", _,F.slot_str_getitem.lookup,typeIs_str _ _ _,?_⟩;refine wpAny_getItem_str_slice (l:=l) (u:=u) (st:=none) hs rfl (post_val_or_str ⟨yC (Txt.slice_le z _ _) hz,fun t' k=>?_⟩)
 exact⟨.str _,H,I.tok _,⟨t',rfl⟩,q⟩⟩
inductive J6(K:uFg)(xs:aG)(H:Hp)(Q:VK):Prop
 |mk(p ys)(_:xs = [.ref p])(_:(ZF K H p ys\/ZS K H p ys))(_:Q (.int ys.length) H)
theorem Yp:QC X (.builtin "len") (J6 X.K):=.imp ⟨Pk⟩ fun _ _ _ ⟨p,y,a,b,k⟩=>⟨p,y,a,b,k⟩
def QZ:List V->Hp->VK->Prop:=fun xs H Q=>∃z,xs = [.str z]/\z.length<=sizeLine/\Q (.int z.length) H
theorem DC:QC X (.builtin "len") QZ:=⟨by
 intro pins s σ H xs us Q I r h;obtain⟨z,rfl,hz,q⟩:=h;obtain⟨u,rfl,t,rfl⟩:=Ja r;have hn:=Au
 exact len_str (by lia) ⟨.int z.length,H,I.tok _,⟨_,rfl⟩,q⟩⟩
def QF:List V->Hp->VK->Prop:=fun xs H Q=>∃i j,xs = [.int i,.int j]/\Q (.int (if j > i then j else i)) H
def MY:List V->Hp->VK->Prop:=fun xs H Q=>∃i j,xs = [.int i,.int j]/\Q (.int (if j < i then j else i)) H
theorem DF(hc:X.calm=true):QC X (.builtin "max") QF:=⟨by
 intro pins s σ H xs us Q I r h;obtain⟨i,j,rfl,q⟩:=h;obtain⟨u,w',rfl,⟨t,rfl⟩,⟨t',rfl⟩⟩:=EV r;refine max_two_ints (I.ok.hd hc) fun h' tk k=>⟨_,H,I.kept k,?_,q⟩
 by_cases hj:j > i
 ·rw[if_pos hj,if_pos hj];exact⟨_,rfl⟩
 ·rw[if_neg hj,if_neg hj];exact⟨_,rfl⟩⟩
theorem Px(hc:X.calm=true):QC X (.builtin "min") MY:=⟨by
 intro pins s σ H xs us Q I r h;obtain⟨i,j,rfl,q⟩:=h;obtain⟨u,w',rfl,⟨t,rfl⟩,⟨t',rfl⟩⟩:=EV r;refine min_two_ints (I.ok.hd hc) fun h' tk k=>⟨_,H,I.kept k,?_,q⟩
 by_cases hj:j < i
 ·rw[if_pos hj,if_pos hj];exact⟨_,rfl⟩
 ·rw[if_neg hj,if_neg hj];exact⟨_,rfl⟩⟩
def LL(K:uFg):List V->Hp->VK->Prop:=fun xs H Q=>∃(a:XW)(bs:List Bool),xs = [.ref a]/\ZF K H a (bs.map V.bl)/\Q (.bl (bs.all id)) H
theorem Qj(hc:X.calm=true):QC X (.builtin "all") (LL X.K):=⟨by
 intro pins s σ H xs us Q I r h;obtain⟨a,bs,rfl,ha,q⟩:=h;obtain⟨u,rfl,ru⟩:=Ja r;cases ru;obtain⟨its,rv,p,_⟩:=I.list ha;have hlt:a < s.heap.objs.size:=by obtain⟨o,n,e,_⟩:=p;exact xS e
 refine call_all_walk (wpAny_pyIter_list p.isList ?_);refine⟨s.heap.objs.size,_,_,_,_,_,fun i=>bs.getD i true,rfl,Walks.list (A:=X.A.in1) (I.ok.hd hc) _ a (yH hlt) its.toArray,⟨⟨_,xV _ rfl,rfl,rfl⟩,p.isList.push _⟩,?_,fun h' tk hk=>?_⟩
 ·intro i v s' Q' E' hv hq;have hv:its.toArray[i]? = some v:=hv;have hv':its[i]? = some v:=by simpa using hv
  have hlen:bs.length=its.length:=by have:=rv.length;simpa using this
  have hi:i < its.length:=(xH.mp hv').1;have hb:(bs.map V.bl)[i]? = some (V.bl (bs.getD i true)):=by grind
  obtain⟨u,hu,ru⟩:=rv.get hb;rw[hv'] at hu;cases hu;cases ru;exact wpAny_truthy_bool hq
 ·have hlen:its.toArray.size=bs.length:=by have:=rv.length;simp at this ⊢;lia
  have e:(List.range its.toArray.size).all (fun i=>bs.getD i true)=bs.all id:=by
   rw[hlen,zA,zL,zL];constructor
   ·intro h b hb;obtain⟨i,hi,e⟩:=List.mem_iff_getElem.mp hb;have:=h i (wG.mpr hi);rw[xZ,xB hi,e] at this;exact this
   ·intro h i hi;have hi:=wG.mp hi;rw[xZ,xB hi];exact h _ (zF hi)
  refine⟨.bl (bs.all id),H,I.kept (h':=h') (t':=tk) (fun b o eb=>hk b o ?_ (xG _ eb)),by rw[e];rfl,q⟩;intro z;have:b=s.heap.objs.size:=by simpa using z
  exact absurd (xS eb) (by rw[this];exact zQ _)⟩
def KG(K:uFg):List V->Hp->VK->Prop:=fun xs H Q=>∃(a:XW)(ns:List Int),xs = [.ref a]/\ZF K H a (ns.map V.int)/\(∀n∈ns,-1000000000<=n/\n<=1000000000)/\ns.length<=1000000/\Q (.int ns.sum) H
theorem CW(hc:X.calm=true):QC X (.builtin "sum") (KG X.K):=⟨by
 intro pins s σ H xs us Q I r h;obtain⟨a,ns,rfl,ha,hb,hl,q⟩:=h;obtain⟨u,rfl,ru⟩:=Ja r;cases ru;obtain⟨its,rv,p,_⟩:=I.list ha;have hlt:a < s.heap.objs.size:=by obtain⟨o,n,e,_⟩:=p;exact xS e
 have hlen:ns.length=its.length:=by have:=rv.length;simpa using this
 have hpre:∀k,k<=ns.length->preSum (fun i=>ns.getD i 0) k=(ns.take k).sum:=by
  intro k
  induction k with
  | zero=>intro _;simp[preSum]
  | succ k ih =>
   intro hk;have hk':k < ns.length:=hk;rw[preSum,ih (zD hk'),xW,List.sum_append,xZ,xB hk'];simp
 have bnd:∀l:List Int,(∀n∈l,-1000000000<=n/\n<=1000000000)->-1000000000 * (l.length:Int)<=l.sum/\l.sum<=1000000000 * (l.length:Int):=by
  intro l
  induction l with
  | nil=>intro _;simp
  | cons x l ih =>
   intro h;have h1:=h x xY;have h2:=ih fun n hn=>h n (xN _ hn);rw[List.sum_cons,yE];lia
 refine call_sum_walk (wpAny_pyIter_list p.isList ?_);refine⟨s.heap.objs.size,_,_,_,_,_,fun i=>ns.getD i 0,rfl,Walks.list (A:=X.A.in1) (I.ok.hd hc) _ a (yH hlt) its.toArray,⟨⟨_,xV _ rfl,rfl,rfl⟩,p.isList.push _⟩,?_,?_,?_,fun h' tk t' hk=>?_⟩
 ·intro b hb;show b < (s.heap.push _).objs.size;rw[zX];rcases xC.mp hb with rfl | hb
  ·exact Nat.lt_succ_self _
  ·have:b=a:=by simpa using hb
   subst this;exact Nat.lt_succ_of_lt hlt
 ·intro i v hv;have hv:its.toArray[i]? = some v:=hv;have hv':its[i]? = some v:=by simpa using hv
  have hi:i < its.length:=(xH.mp hv').1;have hb:(ns.map V.int)[i]? = some (V.int (ns.getD i 0)):=by grind
  obtain⟨u,hu,ru⟩:=rv.get hb;rw[hv'] at hu;cases hu;exact ru
 ·intro j hj;have hj:j < its.toArray.size:=hj;rw[xQ] at hj;have hj':j < ns.length:=by lia
  refine⟨?_,?_⟩
  ·show InLong (ns.getD j 0);rw[xZ,xB hj'];have:=hb _ (zF hj');show -(2 ^ 63)<=ns[j]/\ns[j] < 2 ^ 63;lia
  ·rw[hpre (j+1) hj'];have:=bnd (ns.take (j+1)) fun n hn=>hb n (List.mem_of_mem_take hn);have hl2:(ns.take (j+1)).length<=1000000:=by rw[xT];lia
   show -(2 ^ 63)<=_/\_ < 2 ^ 63;lia
 ·have e:preSum (fun i=>ns.getD i 0) its.toArray.size=ns.sum:=by
   rw[xQ,← hlen,hpre _ (xD _),xX]
  refine⟨.int ns.sum,H,I.kept (h':=h') (t':=tk) (fun b o eb=>hk b o ?_ (xG _ eb)),⟨t',by rw[e]⟩,q⟩;intro z;have:b=s.heap.objs.size:=by simpa using z
  exact absurd (xS eb) (by rw[this];exact zQ _)⟩
def Ic(K:uFg):List V->Hp->VK->Prop:=fun xs H Q=>∃x n t b,xs = [x,.ty n]/\YV K H x t/\PySem.W.kitOne K t (.type n)=some b/\Q (.bl b) H
theorem K4:QC X (.builtin "isinstance") (Ic X.K):=⟨G0⟩
inductive UU(K:uFg)(xs:aG)(H:Hp)(Q:VK):Prop
 |mk(p ys)(_:xs = [.ref p])(_:(ZF K H p ys\/ZS K H p ys))(_:∀l,H l=none->Q (.ref l) (upd H l (.lst ys)))
theorem Ae:QC X (.type "list") (UU X.K):=.imp ⟨Kc⟩ fun _ _ _ ⟨p,y,a,b,k⟩=>⟨p,y,a,b,k⟩
def RE(K:uFg):V->List V->Hp->VK->Prop:=fun x xs H Q=>∃sep a ys,x = .str sep/\xs = [.ref a]/\ZF K H a (ys.map V.str)/\(ys.map (·.length)).sum+ys.length * sep.length<=16777216/\Q (.str (Txt.join sep ys)) H
theorem Qr:QM X "str.join" (RE X.K):=⟨by
 intro pins s σ H x xs v us Q I rx rs h;obtain⟨sep,a,ys,rfl,rfl,ha,hz,q⟩:=h;obtain⟨t,rfl⟩:=rx;obtain⟨u,rfl,ru⟩:=Ja rs;cases ru;obtain⟨its,r,p,_⟩:=I.list ha
 exact join_list p.isList (XF r) hz fun t' k=>⟨.str _,H,I.tok _,⟨t',rfl⟩,q⟩⟩
theorem Wb:QM X "list.append" VN:=⟨by
 intro pins s σ H x vs v us Q I rx rv h;obtain⟨l,xs,y,rfl,rfl,hH,hz,q⟩:=h;cases rx;obtain⟨u,rfl,ru⟩:=rv.one;obtain⟨z,its,n,r,hl,e⟩:=I.lstM hH;refine call_meets aE ⟨_,e,rfl⟩ F.entry_list_append (F.args_list_append_2 _ _) (PySem.list_append l its.toArray n u (by rw[xQ];lia)) ⟨e,?_⟩;refine⟨.non,_,I.lset (its':=its ++ [u]) hH e (by simp) (r.append (.cons ru .nil)) ?_,rfl,q⟩;rw[xF,zH]
 lia⟩
theorem KR:QM X "list.pop" AE:=⟨by
 intro pins s σ H x vs v us Q I rx rv h;obtain⟨l,xs,i,k,y,rfl,rfl,hH,h1,h2,hk,hy,q⟩:=h;cases rx;obtain⟨u,rfl,ru⟩:=rv.one;obtain⟨t,rfl⟩:=ru;obtain⟨z,its,n,r,hl,e⟩:=I.lstM hH;obtain⟨w,hw,rw'⟩:=r.get hy;refine call_meets F.slot_list_pop ⟨_,e,rfl⟩ F.entry_list_pop (F.args_list_pop_2 _ _)
  (MeetsSeq.list_pop_at l its.toArray n i t k w (fitsIndex_both h1 h2) (by rw[xQ,← hl];exact hk) (by rw[← Array.getElem?_toList];exact hw) (by rw[xQ];lia)) ⟨e,?_⟩
 refine⟨y,_,I.lset (its':=its.eraseIdx k) hH e ?_ (r.eraseIdx k) ?_,rw',q⟩
 ·grind
 ·have:=Gq xs k
  lia⟩
end
theorem Bi{lo:Int}{n:Nat}(m:Nat)(hm:n=m)(Pv:Nat->St->Hp->Prop)(h0:Pv 0 σ H)(hs:∀i σ H,i < m->Pv i σ H->g (.int (lo+i)) σ H fun σ2 H2=>tb {D with nx:=Pv (i+1),ct:=Pv (i+1),bk:=D.nx } σ2 H2)(hd:∀ σ H,Pv m σ H->D.nx σ H):Bc (Jl lo n) g tb D σ H:=by
 subst hm;exact Ma Pv h0 hs hd
theorem Vn{K:uFg}{a:XW}(xs:aG)(Pv:Nat->St->Hp->Prop)(h0:Pv 0 σ H)(hl:∀i σ H,i<=xs.length->Pv i σ H->ZF K H a xs)(hs:∀i x σ H,xs[i]? = some x->Pv i σ H->g x σ H fun σ2 H2=>tb {D with nx:=Pv (i+1),ct:=Pv (i+1),bk:=D.nx } σ2 H2)(hd:∀ σ H,Pv xs.length σ H->D.nx σ H):Bc (Jw K a) g tb D σ H:=Ra Pv h0 hl hs hd
section
variable{X:Cx}{tg elt iter:Expr}{ifs:List Expr}{scope:Scope}{pos:Pos}{locs:XO}{fr:List (Str×Nat)}{g:TG}{tt:Tj}{te:TE}
theorem U9:DN X [] (fun _ H Q=>Q true H):=⟨fun _ _ _ H _ I h=>wpAny_tests_nil ⟨H,I,h⟩⟩
theorem Ar(h:QT X c t):DN X [c] t:=⟨NC h.h⟩
structure GR (X:Cx) (scope:Scope) (N':XO) (tg:Expr) (ifs:List Expr) (elt:Expr) (g:TG) (tt:Tj) (te:TE):Prop where
 h:∀(cl:List (Str×XW))(C:XW)(s0:XT)(H0:Hp)(ex:XS)(pn:List (XW×Obj)),QG (ccx X scope cl C N' s0 H0 ex pn) tg g/\DN (ccx X scope cl C N' s0 H0 ex pn) ifs tt/\QE (ccx X scope cl C N' s0 H0 ex pn) elt te
theorem Vz{wi:TI}(S:WE X scope locs fr)(F:WA X scope fr)(hc:X.calm=true)(hi:QI X tg iter wi)(inner:GR X scope (inN locs fr) tg ifs elt g tt te)(hs:∀x,foldedSetIterable iter X.env x=pure x:=by intro _;rfl):QE X (.ListComp elt [⟨tg,iter,ifs,0⟩] scope pos) (Dl locs.length fr wi g tt te) :=
 ⟨Ph S F hc hi.h (fun cl C s0 H0 ex pn=>let ⟨a,b,c⟩:=inner.h cl C s0 H0 ex pn;⟨a.h,b.h,c.h⟩) hs⟩
theorem Ca{wi:TI}{i:Nat}{x:Str}{pos' spos:Pos}(S:WE X scope locs fr)(F:WA X scope fr)(hc:X.calm=true)(hi:QI X tg iter wi)(inner:GR X scope (inN locs fr) tg ifs elt g tt te)(hN:X.N.Nodup)(n:Nm X.env.scope x .local)(hsw:swapsWith (.ListComp elt [⟨tg,iter,ifs,0⟩] scope pos) (some (.Name x pos')) spos.line X.env=pure true)(hi0:X.N[i]? = some x:=by rfl)(hs:∀x,foldedSetIterable iter X.env x=pure x:=by intro _;rfl):QS X (.Assign [.Name x pos'] (.ListComp elt [⟨tg,iter,ifs,0⟩] scope pos) spos) (Jn (Dl locs.length fr wi g tt te) (Wp i)) :=
 ⟨RP S F hc hi.h (fun cl C s0 H0 ex pn=>let ⟨a,b,c⟩:=inner.h cl C s0 H0 ex pn;⟨a.h,b.h,c.h⟩) hN hi0 n.1 hsw hs⟩
end
section
variable{X:Cx}{scope:Scope}{cl:List (Str×XW)}{C:XW}{N':XO}{s0:XT}{H0:Hp}{ex:XS}{pn:List (XW×Obj)}{x:Str}{pos:Pos}
theorem Y1(i:Nat)(n:Nm scope x .local:=by decide +kernel)(hN:N'[i]? = some x:=by rfl):QE (ccx X scope cl C N' s0 H0 ex pn) (.Name x pos) (YI i):=⟨pvL i hN n.1 n.2.1 n.2.2.1⟩
theorem Vh(i:Nat)(n:Nm scope x .free:=by decide +kernel)(hN:N'[i]? = some x:=by rfl):QE (ccx X scope cl C N' s0 H0 ex pn) (.Name x pos) (YI i):=⟨pvF i hN n.1 n.2.1 n.2.2.1⟩
theorem Wn(i:Nat)(hnd:N'.Nodup)(n:Nm scope x .local:=by decide +kernel)(hN:N'[i]? = some x:=by rfl):QG (ccx X scope cl C N' s0 H0 ex pn) (.Name x pos) (Wp i):=⟨pgL i hnd hN n.1⟩
end
section
variable{P:XX}{w:XY}{K:uFg}{mg:XN}{base:Heap}
theorem YB.fnQ{x:Str}{st:Stmt}{N ps:XO}{k:Nat}{sp:Sp}(h:YB K mg x st)(S:ZL N ps (Zm st))(hb:∀ (kV doc pm:XU) (an:Option XW) (cdv ct:XU) (us:XQ),us.length=ps.length->bindArgs (PySem.W.fnOf x x (Wy st) (Yn st) (Zm st) .none kV doc pm an cdv ct) ⟨us,[]⟩=pure (ps.zip us))(len:∀vs H Q E,sp vs H Q E->vs.length=ps.length)(hbody:∀ (f:XW) (cdv:XU) (A:XZ) (outer:List Env) (s:XT) (H:Hp) (vs:aG) (Q:VK) (E:XK),ZM k (A.deeper (envOfC x (Zm st) s.heap.objs.size f cdv))->sp vs H Q E -> ∃t,WR (Y3 WU P w K mg base N x (Zm st) f cdv A outer s H E).nox (Yn st) t/\t {nx:=fun _ H'=>Q .non H',rt:=Q } (start N vs) H):Fn P w K mg base x ps (k+1) sp :=
 h.fn S hb len fun f cdv A outer s H vs Q E hr q=>let ⟨t,a,b⟩:=hbody f cdv A outer s H vs Q E hr q;⟨t,a.h,b⟩
theorem BP(h:k<=60):ZM k (({}:XZ).deeper e) :=
 ZM.deeper (ZM.mono (k:=61) ⟨rfl,aA,aA⟩ (by lia)) e
theorem YB.fq{x:Str}{st:Stmt}{ps:XO}{k:Nat}{sp:Sp}(h:YB K mg x st)(N:XO)(hbody:∀{f:XW}{cdv:XU}{A:XZ}{outer:List Env}{s:XT}(H:Hp) (vs:aG) (Q:VK) (E:XK),ZM k (A.deeper (envOfC x (Zm st) s.heap.objs.size f cdv))->sp vs H Q E->vs.length=ps.length/\∃t,WR (Y3 WU P w K mg base N x (Zm st) f cdv A outer s H E).nox (Yn st) t/\t {nx:=fun _ H'=>Q .non H',rt:=Q } (start N vs) H)(S:ZL N ps (Zm st):=by exact fsc)(hk:k<=60:=by decide)(hb:∀ (kV doc pm:XU) (an:Option XW) (cdv ct:XU) (us:XQ),us.length=ps.length->bindArgs (PySem.W.fnOf x x (Wy st) (Yn st) (Zm st) .none kV doc pm an cdv ct) ⟨us,[]⟩=pure (ps.zip us):=by exact fun _ _ _ _ _ _=>by first | exact al1 fun _=>rfl | exact al2 fun _ _=>rfl | exact al3 fun _ _ _=>rfl | exact al4 fun _ _ _ _=>rfl | exact al5 fun _ _ _ _ _=>rfl | exact al6 fun _ _ _ _ _ _=>rfl | exact al7 fun _ _ _ _ _ _ _=>rfl | exact al8 fun _ _ _ _ _ _ _ _=>rfl):Fn P w K mg base x ps (k+1) sp :=
 h.fnQ S hb (fun vs H Q E h=>(hbody (f:=0) (cdv:=.none) (A:={}) (outer:=[]) (s:={}) H vs Q E (BP hk) h).1) fun _ _ _ _ _ H vs Q E hr q=>(hbody H vs Q E hr q).2
end
theorem V4(R:St->Hp->Prop)(hu:∀ σ' H',R σ' H'->u D σ' H')(ht:∀D':YE,(∀ σ' H',R σ' H'->D'.nx σ' H')->(∀v H',D.rt v H'->D'.rt v H')->(∀ σ' H',D.bk σ' H'->D'.bk σ' H')->(∀ σ' H',D.ct σ' H'->D'.ct σ' H')->t D' σ H):Ue t u D σ H :=
 ht {D with nx:=u D } hu (fun _ _ h=>h) (fun _ _ h=>h) (fun _ _ h=>h)
theorem Fu:(([a]:List Nat) < [b])↔a < b:=by
 constructor
 ·intro h;rcases List.cons_lt_cons_iff.mp h with z | ⟨_,z⟩
  ·exact z
  ·exact absurd z (by simp)
 ·intro h;exact List.cons_lt_cons_iff.mpr (.inl h)
end L2
namespace L2
theorem Z8(h:Q (σ.set i (some v)) H):Wp i v σ H Q:=h
end L2
namespace L2
open PySem PySem.Spec PyProof.Rows
theorem UN.okQ{P:XX}{w:XY}{K:uFg}{mg:XN}{base:Heap}{x qual:Str}{st:Stmt}{f:XW}{fd:FuncData}{N ps:XO}{k:Nat}{sp:Sp}(F:UN K x qual st f fd)(S:ZL N ps (Zm st))(len:∀vs H Q E,sp vs H Q E->vs.length=ps.length)(hbody:∀cdv A outer s H vs Q E,ZM k (A.deeper (envOfC qual (Zm st) s.heap.objs.size f cdv))->sp vs H Q E -> ∃t,WR (Y3 WU P w K mg base N qual (Zm st) f cdv A outer s H E).nox (Yn st) t/\t {nx:=fun _ H'=>Q .non H',rt:=Q } (start N vs) H):YF P w K mg base WU (k+1) f fd ps sp :=
 F.ok S len fun cdv A outer s H vs Q E hr q=>let ⟨t,a,b⟩:=hbody cdv A outer s H vs Q E hr q;⟨t,a.h,b⟩
def Cw(K:uFg):Sp:=fun vs H Q _=>∃(a:XW)(ns:List Int),vs = [.ref a]/\ZF K H a (ns.map V.int)/\ns.length<=63/\∀H',Q (.bl true) H'
theorem walkLaw{l:PySem.W.OpenLaw}{q:XX}{loose:XO}{XP:(XN)->Heap->Prop}{YP:XY->Heap->Prop}{d:DefRec}{K:Params->uFg}(hn:l.most=some 63)(hdf:d.params.defaults = [])(hY:∀w h,YP w h->(K w.params).In h)(F:∀w mg fa h,(K w.params).In h->h.Ns mainGlobals mg->mg d.name=some (.ref fa)-> ∃fd:FuncData,(∀s u,BindsTo s fd ⟨[u],[]⟩ [("_law_script", u)])/\∀base:Heap,(K w.params).In base->base.Ns mainGlobals mg->YF l.prog w (K w.params) mg base WU 40 fa fd ["_law_script"] (Cw (K w.params))) :
  PySem.W.WalkO q loose XP YP l.row.toRowW d [] (fun f vs=>PySem.call f vs) :=
 L2.walk_of (n:=63) (k:=40) (x:="_law_script") (CX:=fun _=>WU) (sp:=fun w=>Cw (K w.params)) hn aA hdf ⟨rfl,aA,aA⟩ hY F (fun _ _ a ns hl _ hS=>⟨a,ns,rfl,hS,hl,fun _=>rfl⟩) fun _ _ _ _ _ z=>z
section
variable{X:Cx}{scope:Scope}{cl:List (Str×XW)}{C:XW}{N':XO}{s0:XT}{H0:Hp}{ex:XS}{pn:List (XW×Obj)}{pos:Pos}{es:List Expr}{k:Nat}{t:TR}
theorem Bp(n:Nat)(hc:X.calm=true)(h:AY (ccx X scope cl C N' s0 H0 ex pn) es t)(hn:(assignEach es (ccx X scope cl C N' s0 H0 ex pn).env).length=n:=by rfl)(hst:(assignEach es (ccx X scope cl C N' s0 H0 ex pn).env).findIdx? (·.1)=none:=by rfl) :
  QG (ccx X scope cl C N' s0 H0 ex pn) (.Tuple es k pos) (TB X.K n t):=⟨FM (X:=ccx X scope cl C N' s0 H0 ex pn) hc h.h hn hst⟩
theorem Cf:AN (ccx X scope cl C N' s0 H0 ex pn) (Jz X.K):=⟨FY (X:=ccx X scope cl C N' s0 H0 ex pn)⟩
theorem BN:AN (ccx X scope cl C N' s0 H0 ex pn) (Jx X.K):=⟨FJ (X:=ccx X scope cl C N' s0 H0 ex pn)⟩
theorem Nw:QC (ccx X scope cl C N' s0 H0 ex pn) (.type "list") (UU X.K):=.imp ⟨Kc (X:=ccx X scope cl C N' s0 H0 ex pn)⟩ fun _ _ _ ⟨p,y,a,b,k⟩=>⟨p,y,a,b,k⟩
theorem Fp:QC (ccx X scope cl C N' s0 H0 ex pn) (.builtin "isinstance") (Ic X.K):=⟨G0 (X:=ccx X scope cl C N' s0 H0 ex pn)⟩
end
section
variable{P:XX}{w:XY}{A:XZ}{E:XM}{s:XT}{z TI TO i1 i2 l1 l2:XW}{S1 S2:Nat->Heap->Prop}{H1 H2:Heap->List XU->Prop}{k:Nat}{xs ys:XQ}{x y a b:XU}
end
section
variable{P:XX}{w:XY}{A:XZ}{E:XM}{s:XT}
end
inductive D where
 | non | bl (b:Bool) | int (i:Int) | str (x:Str) | tup (xs:List D) | lst (xs:List D)
mutual
def YC(H:Hp):D->V->Prop
 | .non,v=>v = .non
 | .bl b,v=>v = .bl b
 | .int i,v=>v = .int i
 | .str x,v=>v = .str x
 | .tup ds,v=>∃a vs,v = .ref a/\H a=some (.tup vs)/\ZP H ds vs
 | .lst ds,v=>∃a vs,v = .ref a/\H a=some (.lst vs)/\ZP H ds vs
def ZP(H:Hp):List D->List V->Prop
 | [],vs=>vs = []
 | d::ds,vs=>∃v r,vs=v::r/\YC H d v/\ZP H ds r
end
mutual
theorem YC.mono(k:ZA H H'):∀d v,YC H d v->YC H' d v
 | .non,v,h=>h
 | .bl b,v,h=>h
 | .int i,v,h=>h
 | .str x,v,h=>h
 | .tup ds,v,h=>by
  obtain⟨a,vs,e,h1,h2⟩:=h;exact⟨a,vs,e,k _ _ h1,ZP.mono k ds vs h2⟩
 | .lst ds,v,h=>by
  obtain⟨a,vs,e,h1,h2⟩:=h;exact⟨a,vs,e,k _ _ h1,ZP.mono k ds vs h2⟩
theorem ZP.mono(k:ZA H H'):∀ds vs,ZP H ds vs->ZP H' ds vs
 | [],vs,h=>h
 | d::ds,vs,h=>by
  obtain⟨v,r,e,h1,h2⟩:=h;exact⟨v,r,e,YC.mono k d v h1,ZP.mono k ds r h2⟩
end
theorem ZP.length:∀{ds:List D}{vs:aG},ZP H ds vs->vs.length=ds.length
 | [],vs,h=>by cases h;rfl
 | d::ds,vs,h=>by
  obtain⟨v,r,rfl,h1,h2⟩:=h;rw[yE,yE,ZP.length h2]
theorem ZP.get:∀{ds:List D}{vs:aG}{i:Nat}{v:V},ZP H ds vs->vs[i]? = some v->∃d,ds[i]? = some d/\YC H d v
 | [],vs,i,v,h,e=>by cases h;simp at e
 | d::ds,vs,i,v,h,e=>by
  obtain⟨w,r,rfl,h1,h2⟩:=h;cases i with
  | zero=>simp at e;subst e;exact⟨d,rfl,h1⟩
  | succ i=>simp at e;exact ZP.get (i:=i) h2 e
theorem ZP.snoc(hd:YC H d v):∀{ds:List D}{vs:aG},ZP H ds vs->ZP H (ds ++ [d]) (vs ++ [v])
 | [],vs,h=>by cases h;exact⟨v,[],rfl,hd,rfl⟩
 | e::ds,vs,h=>by
  obtain⟨w,r,rfl,h1,h2⟩:=h;exact⟨w,r ++ [v],rfl,h1,ZP.snoc hd h2⟩
mutual
def AG:D->D->Bool
 | .non,.non=>true
 | .bl a,.bl b=>a == b
 | .int a,.int b=>a == b
 | .str a,.str b=>a == b
 | .tup a,.tup b=>BJ a b
 | .lst a,.lst b=>BJ a b
 | _,_=>false
def BJ:List D->List D->Bool
 | [],[]=>true
 | a::r,b::s=>AG a b && BJ r s
 | _,_=>false
end
mutual
theorem Xw:∀d:D,AG d d=true
 | .non=>rfl
 | .bl _=>by simp[AG]
 | .int _=>by simp[AG]
 | .str _=>by simp[AG]
 | .tup ds=>by rw[AG];exact EF ds
 | .lst ds=>by rw[AG];exact EF ds
theorem EF:∀ds:List D,BJ ds ds=true
 | []=>rfl
 | d::ds=>by rw[BJ,Xw d,EF ds];rfl
end
mutual
def D.deep:D->Nat
 | .tup ds=>E3 ds+1
 | .lst ds=>E3 ds+1
 | _=>0
def E3:List D->Nat
 | []=>0
 | d::ds=>max d.deep (E3 ds)
end
def isI:D->String->Bool
 | .non,_=>false
 | .bl _,c=>c == "bool" || c == "int"
 | .int _,c=>c == "int"
 | .str _,c=>c == "str"
 | .tup _,c=>c == "tuple"
 | .lst _,c=>c == "list"
def IZ:List String:=["bool","int","str","list","tuple"]
theorem isi{K:uFg}{H:Hp}{d:D}{v:V}(r:YC H d v)(c:String)(hc:c∈IZ):∃t,YV K H v t/\PySem.W.kitOne K t (.type c)=some (isI d c):=by
 unfold IZ at hc;simp only[xC,xU,or_false] at hc;cases d with
 | non=>cases r;refine⟨_,.non,?_⟩;rcases hc with rfl | rfl | rfl | rfl | rfl<;>rfl
 | bl b=>cases r;refine⟨_,.bl b,?_⟩;rcases hc with rfl | rfl | rfl | rfl | rfl<;>rfl
 | int i=>cases r;refine⟨_,.int i,?_⟩;rcases hc with rfl | rfl | rfl | rfl | rfl<;>rfl
 | str x=>cases r;refine⟨_,.str x,?_⟩;rcases hc with rfl | rfl | rfl | rfl | rfl<;>rfl
 | tup ds=>obtain⟨a,vs,rfl,h1,h2⟩:=r;refine⟨_,.tup h1,?_⟩;rcases hc with rfl | rfl | rfl | rfl | rfl<;>rfl
 | lst ds=>obtain⟨a,vs,rfl,h1,h2⟩:=r;refine⟨_,.lst h1,?_⟩;rcases hc with rfl | rfl | rfl | rfl | rfl<;>rfl
end L2
namespace L2
theorem ZP.mono'(h:ZP H ds vs)(k:ZA H H'):ZP H' ds vs:=ZP.mono k ds vs h
end L2
namespace L2
open PySem PySem.Spec PyProof.Rows
def BB(lo:Int)(n:Nat):It:=⟨fun i _=>i < n,fun i H x H'=>H'=H/\x = .int (lo - i),fun i _=>n<=i⟩
theorem Gs{P:XX}{w:XY}{K:uFg}{tg:Expr}(it:XW)(lo:Int)(n:Nat):VQ P w K tg (BB lo n) [it] it (fun i h=>IsRangeIter h it (lo+(i:Nat) * (-1)) ((n:Int) - (i:Nat)) (-1)) where
 mem:=by simp
 obj:=fun i h st b hb=>by grind
 keep:=fun i h h' st k=>k it (by simp) _ st
 item:=by
  intro X hP hw hK hc i pins s σ H E I hf st hg;subst hP hw hK;obtain⟨f0,f1,f2,f3,f4,f5⟩:=hf it (by simp);have W:=Walks.range (prog:=X.prog) (w:=X.w) (I.ok.hd hc) it lo (-1) n;refine W.item i s _ _ hg st fun v h' tk hv st' kk=>?_;obtain⟨t,rfl⟩:=hv;have I1:ZD X pins σ H {s with heap:=h',toks:=tk }:=I.turned (fun b o hb e=>kk b o (by simpa using hb) e) f0 f1 f3 f4 f5;refine⟨_,rfl,Bl (s:={s with heap:=h',toks:=tk }) (n:="range_iterator") st' rfl rfl aA ⟨.int (lo - i),H,I1,⟨t,?_⟩,⟨rfl,rfl⟩,st',fun b hb=>(hf b hb).1⟩⟩;have e:lo+(i:Int) * (-1)=lo - i:=by lia
  rw[e]
 done:=by
  intro X hP hw hK hc i pins s σ H E I hf st hg;subst hP hw hK;obtain⟨f0,f1,f2,f3,f4,f5⟩:=hf it (by simp);exact wpAny_pyNext_range_end (I.ok.hd hc) st (by have:n<=i:=hg;lia) fun h' eb=>⟨rfl,I.turned (t':=s.toks) (fun b o hb e=>eb b o hb e) f0 f1 f3 f4 f5⟩
 self:=fun _ _ _ _ _ st h=>wpAny_pyIter_rangeiter st h
section
variable{X:Cx}{tg:Expr}
theorem RD{pins:List (XW×Obj)}{σ:St}{H:Hp}{s:XT}{R:It->Hp->Prop}{E:XM}{lo hi:Int}{t u v:Tok}{tk:Nat}(I:ZD X pins σ H s)(h1 : -(2 ^ 62)<=lo)(h2:lo < 2 ^ 62)(h3 : -(2 ^ 62)<=hi)(h4:hi < 2 ^ 62)(q:R (BB lo (lo - hi).toNat) H):wpAny (model X.prog X.w) X.A (pyIter (.ref s.heap.objs.size)) (Ep X pins σ tg R) E {s with heap:=s.heap.push {cls:=.type "range", data:=.fields #[.int lo t,.int hi u,.int (-1) v] },toks:=tk }:=by
 refine wpAny_pyIter_range (IsRange.new ..) (PySem.W.small_down h1 h2 h3 h4) ?_;have I1:ZD X pins σ H {s with heap:=s.heap.push {cls:=.type "range", data:=.fields #[.int lo t,.int hi u,.int (-1) v] },toks:=tk }:=I.kept fun b o e=>xG _ e;refine⟨(s.heap.push {cls:=.type "range", data:=.fields #[.int lo t,.int hi u,.int (-1) v] }).objs.size,[(s.heap.push {cls:=.type "range", data:=.fields #[.int lo t,.int hi u,.int (-1) v] }).objs.size],_,_,H,rfl, I1.kept (t':=tk) fun b o e=>xG _ e,Gs _ lo (lo - hi).toNat,?_,fun b hb=>?_,q⟩
 ·have e1:lo+((0:Nat):Int) * (-1)=lo:=by simp
  have e2:(((lo - hi).toNat:Nat):Int) - ((0:Nat):Int)=Builtin.Range.rangeSize lo hi (-1):=by rw[PySem.W.rangeSize_downNat];lia
  show IsRangeIter _ _ (lo+((0:Nat):Int) * (-1)) ((((lo - hi).toNat:Nat):Int) - ((0:Nat):Int)) (-1);rw[e1,e2];exact xV _ rfl
 ·have e:b=(s.heap.push {cls:=.type "range", data:=.fields #[.int lo t,.int hi u,.int (-1) v] }).objs.size:=by simpa using hb
  subst e;exact I1.fpOk (xD _) (I1.hok.fresh (xD _))
inductive Am(R:It->Hp->Prop)(vs:aG)(H1:Hp):Prop
 |mk(i j)(_:vs = [.int i,.int j,.int (-1)])(_:(-(2 ^ 62)<=i/\i < 2 ^ 62 /\ -(2 ^ 62)<=j/\j < 2 ^ 62))(_:R (BB i (i - j).toNat) H1)
def RM(ta:TA):TI:=fun σ H R=>ta σ H fun vs H1=>Am R vs H1
theorem Me{a b c:Expr}{ta:TA}{p pos:Pos}(hm:X.mg "range" = none)(ha:QA X [a,b,c] ta)(hg:nB X "range" .globalImplicit:=by kernel_rfl)(hs:starEach [a,b,c] X.env=(false,eval a X.env)::starEach [b,c] X.env:=by rfl)(hs2:(backTo pos (starEach [b,c] X.env)).any (·.1)=false:=by rfl) :
  QI X tg (.Call (.Name "range" p) [a,b,c] [] pos) (RM ta):=⟨by
 have hg:=(od hg).1;have ha:=ha.h;intro pins s σ H R I h;refine Call_ (Uw I hg hm boot_range (PyProof.Rows.callWith_type1 (thn (ha pos pins s σ H _ I h) fun us s1 ⟨vs,H1,I1,r1,q1⟩=>?_) hs hs2));obtain⟨i,j,e,⟨q1,q2,q3,q4⟩,q⟩:=q1;subst e;cases r1 with
 | cons r rr =>
  cases rr with
  | cons r' rr =>
   cases rr with
   | cons r'' rr =>
    cases rr;obtain⟨t,rfl⟩:=r;obtain⟨t',rfl⟩:=r';obtain⟨t'',rfl⟩:=r''
    exact call_range_3 aA (RD I1 q1 q2 q3 q4 q) (.inl (PyProof.noPylong_small aA))⟩
end
section
variable{g:TG}{tb:TS}{D:YE}{σ:St}{H:Hp}
theorem IL{lo:Int}{n:Nat}(m:Nat)(hm:n=m)(Pv:Nat->St->Hp->Prop)(h0:Pv 0 σ H)(hs:∀i σ H,i < m->Pv i σ H->g (.int (lo - i)) σ H fun σ2 H2=>tb {D with nx:=Pv (i+1),ct:=Pv (i+1),bk:=D.nx } σ2 H2)(hd:∀ σ H,Pv m σ H->D.nx σ H):Bc (BB lo n) g tb D σ H:=by
 subst hm;refine⟨fun i k σ H=>k=n - i/\i<=n/\Pv i σ H,⟨n,rfl,yN _,h0⟩,?_⟩;rintro i k σ H ⟨rfl,hi,p⟩
 by_cases e:i < n
 ·refine .inr ⟨e,Pv (i+1),fun σ' H' p'=>⟨n - (i+1),by lia,rfl,by lia,p'⟩,?_⟩;rintro x H' ⟨rfl,rfl⟩;exact hs i σ H' e p
 ·have:i=n:=by lia
  subst this;exact .inl ⟨xD _,hd σ H p⟩
end
section
variable{o:Expr}
inductive UO(y x:V)(H:Hp)(Q:VK):Prop
 |mk(a o)(_:x = .ref a)(_:ZZ H a y o)(_:Q (.bl (!o.isSome)) H)
inductive BQ(y x:V)(H:Hp)(Q:VK):Prop
 |mk(a o)(_:x = .ref a)(_:ZZ H a y o)(_:Q (.bl o.isSome) H)
theorem NY(hu:X.A.units+1 < cLine):JU X (compareOp .NotIn) UO:=by
 intro pins s σ H y x iv u Q I ry rx ⟨a,ov,ex,g,q⟩;subst ex;obtain rfl:u=Value.ref a:=rx;exact Ob hu I g ry fun s3 I3=>⟨.bl (!ov.isSome),H,I3,rfl,q⟩
theorem Oz(hu:X.A.units+1 < cLine):JU X (compareOp .In) BQ:=by
 intro pins s σ H y x iv u Q I ry rx ⟨a,ov,ex,g,q⟩;subst ex;obtain rfl:u=Value.ref a:=rx;exact RB hu I g ry fun s3 I3=>⟨.bl ov.isSome,H,I3,rfl,q⟩
theorem Ee(hr:ZM k X.A):YW X (compareOp .NotIn) UO:=⟨NY (by have:=hr.units;lia)⟩
theorem JH(hr:ZM k X.A):YW X (compareOp .In) BQ:=⟨Oz (by have:=hr.units;lia)⟩
theorem GB:QE X (.Dict [] [] pos) Rm:=⟨fun pins s σ H Q I h => wpAny_Dict_empty ⟨.ref s.heap.objs.size,_,I.laid (a:=s.heap.objs.size) (o:=.dT []) (t':=s.toks) (fun _ _ q=>xG _ q) (xD _) (Qn s.heap I.big),rfl,h _ (I.hok.fresh (xD _))⟩⟩
theorem Jt(hr:ZM k X.A)(ho:QE X o td)(hi:QE X i ty)(hv:QE X value tv)(hs:swapsWith value (some (.Subscript o i pos')) pos.line X.env=pure false:=by rfl) :
  QS X (.Assign [.Subscript o i pos'] value pos) (EY td ty tv):=⟨Li (by have:=hr.units;lia) ho.h hi.h hv.h hs⟩
end
def Ba(H:Hp)(c:Int)(n:Str):XU->Bool
 | .ref a=>match H a with
  | some (.tup [.int c',.str n'])=>decide ((c',n')=(c,n))
  | _=>false
 | _=>false
theorem Ol{pins:List (XW×Obj)}{σ:St}{H:Hp}{s:XT}{A:XZ}{a b:XW}{c c':Int}{n n':Str}(I:ZD X pins σ H s)(hu:A.units < cLine)(ha:H a=some (.tup [.int c,.str n]))(hb:H b=some (.tup [.int c',.str n'])) :
  SeqAt.EqAt A s (.ref a) (.ref b) (decide ((c,n)=(c',n'))):=by
 by_cases e:a=b
 ·subst e;rw[ha] at hb;injection hb with hb
  injection hb with hb
  injection hb with h1 hb
  injection hb with h2 _
  injection h1 with h1
  injection h2 with h2
  rw[h1,h2,yJ rfl];exact SeqAt.EqAt.same _
 ·obtain⟨xs,rx,px,_⟩:=I.tuple (ZS.of ha);obtain⟨ys,ry,py,_⟩:=I.tuple (ZS.of hb);cases rx with
  | cons r1 rx=>cases rx with
   | cons r2 rx =>
    cases rx;cases ry with
    | cons q1 ry=>cases ry with
     | cons q2 ry =>
      cases ry;obtain⟨t1,rfl⟩:=r1;obtain⟨t2,rfl⟩:=r2;obtain⟨t3,rfl⟩:=q1;obtain⟨t4,rfl⟩:=q2
      have h:=SeqAt.RcAt.tuples (A:=A) (e:=fun j=>if j=0 then c == c' else n == n') (show s.heap.IsTuple a _ from px) (show s.heap.IsTuple b _ from py) hu (fun j h1 h2=>by
       have hj:j < 2:=by simpa using h1
       match j,hj with
       | 0,_=>exact SeqAt.EqAt.int_int _ _ _ _
       | 1,_=>exact SeqAt.EqAt.str_str _ _ _ _)
      have e2:((List.range (min ([Value.int c t1,Value.str n t2]:XQ).toArray.size ([Value.int c' t3,Value.str n' t4]:XQ).toArray.size)).all (fun j=>if j=0 then c == c' else n == n') && ([Value.int c t1,Value.str n t2]:XQ).toArray.size == ([Value.int c' t3,Value.str n' t4]:XQ).toArray.size)=decide ((c,n)=(c',n')):=by
       show ((List.range 2).all (fun j=>if j=0 then c == c' else n == n') && true)=_;rw[Bool.and_true];show ((c == c') && ((n == n') && true))=_;rw[Bool.and_true,zA,yR,wC,Prod.mk.injEq,beq_iff_eq,beq_iff_eq]
      rw[e2] at h;exact SeqAt.EqAt.of_refs e h
section
variable{prog:XX}{w:XY}{K:Type} [DecidableEq K] {knd:HeapKind prog w K}{A:XZ}{E:XM}{s:XT}
theorem ND{d a:XW}{xs:List (K×XW×XU)}{k:K}{v:XU}{Q:XM}(hu:knd.room A)(hkey:knd.is s.heap k a)(hm:s.heap.DictOfH knd d xs)(h1:∀p,atKey xs k=some p->Q p.2 {s with toks:=s.toks+knd.draws k })(h2:atKey xs k=none->∀h',h'.DictOfH knd d (storedH xs k a v)->Heap.SameBut d s.heap h'->Q v {s with heap:=h',toks:=s.toks+knd.draws k })(hsz:xs.length<=sizeLine):wpAny (model prog w) A (dictSetDefault d (.ref a) v) Q E s:=by
 obtain⟨o,es,ep,ho,hc,hd,he,his,hn⟩:=hm;unfold dictSetDefault
 try with_reducible refine wpAny_holding ?_
 refine wpAny_bind (knd.pyHash hu hkey ?_);refine wpAny_bind (wpAny_dictFind_heap (s:={s with toks:=s.toks+knd.draws k }) hu hkey ho hd he his hn ?_ ?_)
 ·intro hno;have hnot:k∉xs.map (·.1):=not_mem_keys_of_get hno
  refine wpAny_bind (wpAny_rule (wpAny_bind (wpAny_updateDictKeys (hz:=by have e:=size_of_entries he;lia) (s:={s with toks:=s.toks+knd.draws k }) ho hd (wpAny_pure (h2 (atKey_none_of_get hno) _ ⟨_,_,ep+1,Heap.get?_update_self _ ho (Obj.isFreed_of_dict (Obj.data_mapDictKeys hd _)),
   hc.mapDictKeys _,Obj.data_mapDictKeys hd _,?_,?_,?_⟩ (Heap.SameBut.update ..))))))
  ·rw[storedH_new (atKey_none_of_get hno)];simp[he,entryOfKey]
  ·rw[storedH_new (atKey_none_of_get hno)];intro x hx;rcases xJ.mp hx with hx | hx
   ·exact knd.keeps (his x hx) ho hd (Heap.SameBut.update ..)
   ·simp only[xR] at hx;subst hx;exact knd.keeps hkey ho hd (Heap.SameBut.update ..)
  ·rw[storedH_new (atKey_none_of_get hno)];rw[xO,List.nodup_append];refine⟨hn,by simp,?_⟩;intro x hx y hy;simp only[yL,wE,xR] at hy;subst hy;exact fun e=>hnot (e▸hx)
 ·intro j p hj;refine wpAny_bind (wpAny_dictEntries (s:={s with toks:=s.toks+knd.draws k }) ho hd ?_);rw[entry_at he j,hj];exact wpAny_bind (wpAny_rule (wpAny_pure (h1 _ (atKey_of_get hn hj))))
theorem SM(knd:HeapKind prog w K)(d a:XW)(hd:(d == sysModules)=false)(dflt:XU) :
  MeetsIn prog w (Builtin.«dict.setdefault» ⟨[.ref d,.ref a,dflt],[]⟩) (fun A R s=>knd.room A.in1/\∃k xs,knd.is s.heap k a/\s.heap.DictOfH knd d xs/\xs.length<=sizeLine /\ (∀p,atKey xs k=some p->R (.ok (.ret p.2)) {s with toks:=s.toks+knd.draws k })/\ (atKey xs k=none->∀h',h'.DictOfH knd d (storedH xs k a dflt)->Heap.SameBut d s.heap h'->R (.ok (.ret dflt)) {s with heap:=h',toks:=s.toks+knd.draws k })) :=
 .of_wp fun A R s ⟨hu,k,xs,hkey,hm,hz,h1,h2⟩=>by
  unfold Builtin.«dict.setdefault»;refine wpAny_bind ?_;unfold Builtin.Dict.keyAndDefault;refine wpAny_bind (wpAny_notOrdered_dict hm.typeIs ?_);show wpAny _ _ (pure (d,Value.ref a,some dflt)) _ _ s;refine wpAny_pure ?_;show wpAny _ _ (if (d == sysModules)=true then _ else (dictSetDefault d (.ref a) dflt >>= _)) _ _ s;rw[if_neg (by rw[hd];exact xL)];exact wpAny_bind (ND hu hkey hm (fun p hp=>wpAny_pure ⟨p.2,rfl,h1 p hp⟩) (fun hn h' hm' hs'=>wpAny_pure ⟨dflt,rfl,h2 hn h' hm' hs'⟩) hz)
end
section
variable{X:Cx}{pins:List (XW×Obj)}{σ:St}{H:Hp}{s:XT}{a b:XW}{z:V}{r:XU}{kvs:List (List ZU×V)}{k:List ZU}{A:XZ}{E:XM}
theorem Rz{Q:XM}(hu:A.units+1 < cLine)(I:ZD X pins σ H s)(e:H a=some (.dT kvs))(eb:H b=some (.tup (k.map kV)))(hl:kvs.length < sizeLine)(rz:ZG z r)(h1:∀v,Zz kvs k=some v->∀w' s',ZD X pins σ H s'->ZG v w'->Q w' s')(h2:Zz kvs k=none->∀s',ZD X pins σ (upd H a (.dT (Z3 kvs k z))) s'->Q r s'):wpAny (model X.prog X.w) A (call (.builtin "dict.setdefault") [.ref a,.ref b,r]) Q E s:=by
 obtain⟨zl,hd,xs,rel,dd⟩:=IR I.hok e;have hz:xs.length<=sizeLine:=by rw[← Paired.length rel];exact zl
 have hl':(Z3 kvs k z).length<=sizeLine:=by have:=Vy kvs k z;lia
 refine call_meetsIn PySem.F.slot_dict_setdefault dd.typeIs PySem.F.entry_dict_setdefault (PySem.F.args_dict_setdefault_3 _ _ _) (SM (tupleKind (Wm X.prog X.w)) a b hd r) ⟨tupleKind_room_in1 hu,k,xs,Aw I.hok eb,dd,hz,fun p hp=>?_,fun hn h' dd' hs=>?_⟩
 ·have q:=rel.val k;rw[hp,wA] at q;cases hv:Zz kvs k with
  | none=>rw[hv] at q;cases q
  | some v=>rw[hv] at q;exact h1 v hv _ _ (I.tok _) q
 ·have q:=rel.val k;rw[hn,Option.map_none] at q;have hv:Zz kvs k=none:=by
   cases hv:Zz kvs k with
   | none=>rfl
   | some v=>rw[hv] at q;exact(show False from q).elim
  refine h2 hv _ ?_;obtain⟨q,es,ep,hq,e2,e3,e4,_,e5⟩:=dd';refine Co I (by rw[e];exact True.intro) hs ⟨q,hq⟩ ⟨hl',hd,_,(rel.put k eb rz).keeps fun c ys ec=>?_,q,es,ep,hq,e2,e3,e4,e5⟩;rw[Ze (Kj ec e (fun z=>nomatch z))];exact ec
end
inductive Tt(ty tx:TE)(σ:St)(Q:VK)(x:V)(H1:Hp):Prop
 |mk(a)(_:x = .ref a)(_:EM H1 a)(_:ty σ H1 fun y H2=>tx σ H2 fun z H3=>∃kvs k b,H3 a=some (.dT kvs)/\y = .ref b/\H3 b=some (.tup (k.map kV))/\kvs.length < sizeLine/\(∀v,Zz kvs k=some v->Q v H3)/\(Zz kvs k=none->Q z (upd H3 a (.dT (Z3 kvs k z)))))
def HR(td ty tx:TE):TE:=fun σ H Q=>td σ H fun x H1=>Tt ty tx σ Q x H1
section
variable{n:Nat}
theorem MO(hu:X.A.units+1 < cLine)(ho:PE X o td)(he:PE X e ty)(hf:PE X f tx)(m:M2 X o "setdefault" apos e f cpos):PE X (.Call (.Attribute o "setdefault" apos) [e,f] [] cpos) (HR td ty tx):=by
 intro pins s σ H Q I h;refine wpAny_Call_method m.base m.few m.line PySem.F.plainAttrs_dict PySem.F.slot_dict_setdefault PySem.F.type_dict_setdefault (thn (ho pins s σ H _ I h) fun u s1 ⟨x,H1,I1,rx,a,ex,d,q1⟩=>?_);subst ex;obtain rfl:u=Value.ref a:=rx;obtain⟨t1,t2,_⟩:=Gf I1 d;refine⟨t1,t2,?_⟩;rw[m.trees];refine Calls.callWith_builtin rfl (Calls.evalArgs_plain (Calls.spliced_cons (thn (he pins s1 σ H1 _ I1 q1) fun iv s2 ⟨y,H2,I2,ry,q2⟩=> Calls.spliced_cons (thn (hf pins s2 σ H2 _ I2 q2) fun fv s3 ⟨z,H3,I3,rz,kvs,k,b,ea,ey,eb,hl,q3,q4⟩=>Calls.spliced_nil ?_))));subst ey;obtain rfl:iv=Value.ref b:=ry;exact Rz hu I3 ea eb hl rz (fun v hv w' s4 I4 rw'=>⟨_,_,I4,rw',q3 v hv⟩) fun hn s4 I4=>⟨_,_,I4,rz,q4 hn⟩
theorem Sl(hr:ZM n X.A)(ho:QE X o td)(he:QE X e ty)(hf:QE X f tx)(m:M2 X o "setdefault" apos e f cpos:=by exact⟨rfl,rfl,rfl,rfl⟩):QE X (.Call (.Attribute o "setdefault" apos) [e,f] [] cpos) (HR td ty tx):=⟨MO (by have:=hr.units;lia) ho.h he.h hf.h m⟩
theorem Hl(hr:ZM n X.A)(ho:QE X o td)(he:QE X e ty)(hf:QE X f tx)(m:M2 X o "get" apos e f cpos:=by exact⟨rfl,rfl,rfl,rfl⟩):QE X (.Call (.Attribute o "get" apos) [e,f] [] cpos) (Hy td ty tx):=⟨Oi (by have:=hr.units;lia) ho.h he.h hf.h m⟩
end
theorem TV{X:Cx}{st:Stmt}:QS X st (fun _ _ _=>False):=⟨fun _ _ _ _ _ _ h=>h.elim⟩
def Cd(K:uFg)(l:XW):It :=
 ⟨fun i H=>∃xs,ZF K H l xs/\i < xs.length,fun i H v H'=>∃p a,v = .ref p/\H p=none/\H'=upd H p (.tup [.int i,a])/\∀xs,ZF K H l xs->xs[i]? = some a,
  fun i H=>∃xs,ZF K H l xs/\xs.length<=i⟩
theorem RK{P:XX}{w:XY}{K:uFg}{elts:List Expr}{ek:Nat}{epos:Pos}{e it l:XW}(hei:e≠it)(hle:l≠e)(hli:l≠it) :
  VQ P w K (.Tuple elts ek epos) (Cd K l) [e,it] e (fun i h=>(∃old,IsEnum h e it i old)/\h.IsListIter it l i) where
 mem:=by simp
 obj:=fun i h st b hb=>by
  obtain⟨⟨old,he⟩,⟨o,ho,hc,hd⟩⟩:=st;simp only[xC,xU,or_false] at hb;rcases hb with rfl | rfl
  ·exact⟨_,he,fun v q=>by cases q⟩
  ·exact⟨o,ho,fun v q=>by rw[hd] at q;cases q⟩
 keep:=fun i h h' st k=>by
  obtain⟨⟨old,he⟩,hit⟩:=st;exact⟨⟨old,k e (by simp) _ he⟩,hit.at fun o x=>k it (by simp) o x⟩
 item:=by
  intro X hP hw hK hc i pins s σ H E I hf st hg;subst hP hw hK;obtain⟨⟨old,he⟩,hit⟩:=st;obtain⟨xs,q1,hx⟩:=hg;obtain⟨its,r1,w1,_⟩:=I.list q1;have gx:xs[i]? = some xs[i]:=xB hx;obtain⟨u1,hu1,ru1⟩:=r1.get gx;refine wpAny_pyNext_enum_item he hit w1.isList (by simpa using hu1) hei fun h' ho hit' hT hsz kp=>?_;refine⟨_,rfl,?_⟩;have hp:H s.heap.objs.size=none:=I.hok.fresh (xD _);have ltp:∀c o,s.heap.get? c=some o->c≠s.heap.objs.size:=fun c o e=>yH (xS e);have kp':∀c o,c ∉ [e,it]->s.heap.get? c=some o->h'.get? c=some o:=fun c o hc e=>kp c o (fun q=>hc (by simp[q])) (fun q=>hc (by simp[q])) e;have ntr:∀c u,H c=some u->c ∉ [e,it]:=fun c u e hc=>by
   have:=(hf c hc).1;rw[this] at e;cases e
  have I1:ZD X pins σ (upd H s.heap.objs.size (.tup [.int i,xs[i]])) {s with heap:=h',toks:=s.toks+1 }:=by
   refine I.step (g':=s.gens) (d':=s.drawn) (t':=s.toks+1) (ch:=[e,it]) (fun c hc=>?_) (fun c o _ _ hc e _=>kp' c o hc e) (fun c o _ _ hc e _=>⟨o.slots,kp' c o hc e⟩) (fun c o hc e n=>by rw[Ze (ltp c o e)];exact n)
    (fun c o hc e=>⟨o,kp' c o hc e⟩) (fun c us e=>by rw[Ze (Zl e hp)];exact e) (fun c o u e=>by rw[Ze (Zl e hp)];exact e) (fun c ps e=>⟨#[],by rw[Ze (Zl e hp),e];simp⟩) (fun m hm=>?_) ?_ I.bare
   ·obtain⟨f0,f1,f2,f3,f4,f5⟩:=hf c hc;exact⟨f3,f1,f4,f5⟩
   ·refine hm.at fun o e=>kp' _ o (fun hc=>?_) e;exact(hf _ hc).2.1 rfl
   ·intro c u e
    by_cases hcp:c=s.heap.objs.size
    ·subst hcp;rw[Zi] at e;cases e;exact⟨aB rfl,[.int i s.toks,u1],.cons ⟨s.toks,rfl⟩ (.cons ru1 .nil),⟨_,hT,rfl,_,rfl⟩⟩
    ·rw[Ze hcp] at e;refine(I.hok c u e).stay (fun d v hd q=>kp' d v ?_ q) (fun d q=>by rw[Ze (Zl q hp)];exact q) fun d us q=>by rw[Ze (Zl q hp)];exact q
     rcases hd with rfl | hd
     ·exact ntr _ u e
     ·exact ntr _ _ hd
  refine wpAny_letOwnedTupleGo_enum (s:={s with heap:=h',toks:=s.toks+1 }) ho fun h2 z2 e2=>?_;obtain⟨f0,f1,f2,f3,f4,f5⟩:=hf e (by simp);have nz:e≠s.heap.objs.size:=ltp e _ he;have I2:ZD X pins σ (upd H s.heap.objs.size (.tup [.int i,xs[i]])) {s with heap:=h2,toks:=s.toks+1 }:=I1.turned (s:={s with heap:=h',toks:=s.toks+1 }) (it:=e) (t':=s.toks+1) (fun c o hc e=>(e2.2 c hc).trans e) (by rw[Ze nz];exact f0) f1 f3 f4 f5;have z2':IsEnum h2 e it ((i+1:Nat):Int) u1:=by grind
  refine⟨.ref s.heap.objs.size,_,I2,rfl,⟨s.heap.objs.size,xs[i],rfl,hp,rfl,fun xs' q1'=>?_⟩,⟨⟨_,z2'⟩,hit'.at fun o x=>(e2.2 it hei.symm).trans x⟩,fun c hc=>?_⟩
  ·rw[I.list_inj q1' q1];exact gx
  ·obtain⟨o,ho⟩:∃o,s.heap.get? c=some o:=by
    simp only[xC,xU,or_false] at hc;rcases hc with rfl | rfl
    ·exact⟨_,he⟩
    ·obtain⟨o,x,_⟩:=hit;exact⟨o,x⟩
   rw[Ze (ltp c o ho)];exact(hf c hc).1
 done:=by
  intro X hP hw hK hc i pins s σ H E I hf st hg;subst hP hw hK;obtain⟨⟨old,he⟩,hit⟩:=st;obtain⟨xs,q1,hend⟩:=hg;obtain⟨its,r1,w1,_⟩:=I.list q1;refine wpAny_pyNext_enum_end (I.ok.hd hc) he hit w1.isList (by have e1:=r1.length;simp;lia) fun h' kp=>⟨rfl,?_⟩;obtain⟨f0,f1,f2,f3,f4,f5⟩:=hf it (by simp);exact I.turned (it:=it) (t':=s.toks) (fun c o hc e=>kp c o hc e) f0 f1 f3 f4 f5
 self:=fun A i s Q E st h=>by
  obtain⟨⟨old,he⟩,_⟩:=st;exact wpAny_pyIter_enum he h
inductive AJ(K:uFg)(R:It->Hp->Prop)(vs:aG)(H1:Hp):Prop
 |mk(l xs)(_:vs = [.ref l])(_:ZF K H1 l xs)(_:R (Cd K l) H1)
def N4(K:uFg)(ta:TA):TI:=fun σ H R=>ta σ H fun vs H1=>AJ K R vs H1
theorem OD:bootBuiltins "enumerate" = some (.type "enumerate"):=aA
theorem Hg{X:Cx}{a:Expr}{ta:TA}{p pos:Pos}{elts:List Expr}{ek:Nat}{epos:Pos}(hm:X.mg "enumerate" = none)(ha:QA X [a] ta)(hg:nB X "enumerate" .globalImplicit:=by kernel_rfl)(hs:starEach [a] X.env = [(false,eval a X.env)]:=by rfl) :
  QI X (.Tuple elts ek epos) (.Call (.Name "enumerate" p) [a] [] pos) (N4 X.K ta):=⟨by
 have hg:=(od hg).1;have ha:=ha.h;intro pins s σ H R I h;refine Call_ (Uw I hg hm OD (PyProof.Rows.callWith_type1 (thn (ha pos pins s σ H _ I h) fun us s1 ⟨vs,H1,I1,r1,q1⟩=>?_) hs rfl));obtain⟨l,xs,e,h1,q⟩:=q1;subst e;obtain⟨u1,rfl,ru1⟩:=Ja r1;cases ru1;obtain⟨its,r1,p1,_⟩:=I1.list h1;have b1:l < s1.heap.objs.size:=by obtain⟨o,n,e,_⟩:=p1;exact xS e
 refine call_enumerate_list p1.isList fun h' z0 st1 _ kp=>?_;refine wpAny_pyIter_enum z0 ?_;have b1' : @LT.lt Nat _ l s1.heap.objs.size:=b1;have key:∀(a b:Nat),(a < b\/b < a)->¬(@Eq Nat a b):=fun a b h q=>by lia
 refine⟨s1.heap.objs.size+1,_,_,_,H1,rfl,I1.kept (h':=h') (t':=s1.toks) kp,RK (it:=s1.heap.objs.size) (l:=l) (key _ _ (by lia)) (key _ _ (by lia)) (key _ _ (by lia)),⟨⟨_,z0⟩,st1⟩,fun c hc=>?_,q⟩;have hle:s1.heap.objs.size<=c:=by grind
 exact I1.fpOk hle (I1.hok.fresh hle)⟩
theorem LN{K:uFg}{l:XW}{g:TG}{tb:TS}{D:YE}{σ:St}{H:Hp}(xs:aG)(Pv:Nat->St->Hp->Prop)(h0:Pv 0 σ H)(hl:∀i σ H,i<=xs.length->Pv i σ H->ZF K H l xs)(hs:∀i x p σ H,xs[i]? = some x->Pv i σ H->H p=none->g (.ref p) σ (upd H p (.tup [.int i,x])) fun σ2 H2=>tb {D with nx:=Pv (i+1),ct:=Pv (i+1),bk:=D.nx } σ2 H2)(hd:∀ σ H,Pv xs.length σ H->D.nx σ H):Bc (Cd K l) g tb D σ H:=by
 refine⟨fun i m σ H=>m=xs.length - i/\i<=xs.length/\Pv i σ H,⟨xs.length,by simp,yN _,h0⟩,?_⟩;rintro i m σ H ⟨rfl,hi,p⟩;have q1:=hl i σ H hi p
 by_cases hlt:i < xs.length
 ·refine .inr ⟨⟨xs,q1,hlt⟩,Pv (i+1),fun σ' H' p'=>⟨xs.length - (i+1),by lia,rfl,hlt,p'⟩,fun v H' y=>?_⟩;obtain⟨pp,a,rfl,hp,rfl,hv⟩:=y;exact hs i a pp σ H (hv xs q1) p hp
 ·have e:i=xs.length:=by lia
  subst e;exact .inl ⟨⟨xs,q1,xD _⟩,hd σ H p⟩
structure ZR (K:uFg) (C:XW) (m qual:Str) (st:Stmt):Prop where
 ex:∃(f:XW)(fd:FuncData),UN K m qual st f fd/\To K C m f
structure Mt (P:XX) (w:XY) (K:uFg) (mg:XN) (base:Heap) (C:XW) (m:Str) (ps:XO) (k:Nat) (sp:Sp):Prop where
 ex:∃(f:XW)(fd:FuncData),To K C m f/\YF P w K mg base WU k f fd ps sp/\YK K fd ps []
section
variable{P:XX}{w:XY}{K:uFg}{mg:XN}{base:Heap}{C:XW}{m qual:Str}{st:Stmt}{N ps:XO}{k:Nat}{sp:Sp}
theorem ZR.mtQ(h:ZR K C m qual st)(S:ZL N ps (Zm st))(hb:∀ (kV doc pm:XU) (an:Option XW) (cdv ct:XU) (us:XQ),us.length=ps.length->bindArgs (PySem.W.fnOf m qual (Wy st) (Yn st) (Zm st) .none kV doc pm an cdv ct) ⟨us,[]⟩=pure (ps.zip us))(len:∀vs H Q E,sp vs H Q E->vs.length=ps.length)(hbody:∀ (f:XW) (cdv:XU) (A:XZ) (outer:List Env) (s:XT) (H:Hp) (vs:aG) (Q:VK) (E:XK),ZM k (A.deeper (envOfC qual (Zm st) s.heap.objs.size f cdv))->sp vs H Q E -> ∃t,WR (Y3 WU P w K mg base N qual (Zm st) f cdv A outer s H E).nox (Yn st) t/\t {nx:=fun _ H'=>Q .non H',rt:=Q } (start N vs) H):Mt P w K mg base C m ps (k+1) sp:=by
 obtain⟨f,fd,F,M⟩:=h.ex;exact⟨f,fd,M,F.okQ S len (hbody f),F.binds hb⟩
theorem ZR.mq(h:ZR K C m qual st)(N:XO)(hbody:∀{f:XW}{cdv:XU}{A:XZ}{outer:List Env}{s:XT}(H:Hp) (vs:aG) (Q:VK) (E:XK),ZM k (A.deeper (envOfC qual (Zm st) s.heap.objs.size f cdv))->sp vs H Q E->vs.length=ps.length/\∃t,WR (Y3 WU P w K mg base N qual (Zm st) f cdv A outer s H E).nox (Yn st) t/\t {nx:=fun _ H'=>Q .non H',rt:=Q } (start N vs) H)(S:ZL N ps (Zm st):=by exact fsc)(hk:k<=60:=by decide)(hb:∀ (kV doc pm:XU) (an:Option XW) (cdv ct:XU) (us:XQ),us.length=ps.length->bindArgs (PySem.W.fnOf m qual (Wy st) (Yn st) (Zm st) .none kV doc pm an cdv ct) ⟨us,[]⟩=pure (ps.zip us):=by exact fun _ _ _ _ _ _=>by first | exact al1 fun _=>rfl | exact al2 fun _ _=>rfl | exact al3 fun _ _ _=>rfl | exact al4 fun _ _ _ _=>rfl | exact al5 fun _ _ _ _ _=>rfl | exact al6 fun _ _ _ _ _ _=>rfl | exact al7 fun _ _ _ _ _ _ _=>rfl | exact al8 fun _ _ _ _ _ _ _ _=>rfl):Mt P w K mg base C m ps (k+1) sp :=
 h.mtQ S hb (fun vs H Q E h=>(hbody (f:=0) (cdv:=.none) (A:={}) (outer:=[]) (s:={}) H vs Q E (BP hk) h).1) fun _ _ _ _ _ H vs Q E hr q=>(hbody H vs Q E hr q).2
theorem Ro{f:XW}{oc:XU}{od an:Option XW}{osl:Array (Option XU)}{kV doc pm cdv ct:XU}(a:PySem.W.findIn K (.ref C) m=some (some (.ref f)))(i:PySem.W.isFn K (.ref f)=true)(l:K.lookup f=some ⟨oc,od,.func (PySem.W.fnOf m qual (Wy st) (Yn st) (Zm st) .none kV doc pm an cdv ct),osl⟩)(c:PySem.W.codeIn K cdv qual=true)(kp:PySem.W.keepIn K (.ref f)=true):ZR K C m qual st:=⟨f,_,DO l c kp,⟨a,i,kp⟩⟩
theorem hMQ(C:XW)(m qual:Str)(st:Stmt)(f c:XW)(pm:XU)(e:PySem.W.findIn K (.ref C) m=some (some (.ref f))/\PySem.W.isFn K (.ref f)=true/\K.lookup f=some ⟨.type "function", none,.func (PySem.W.fnOf m qual (Wy st) (Yn st) (Zm st) .none .none .none pm none (.ref c) .none),#[]⟩/\PySem.W.codeIn K (.ref c) qual=true/\PySem.W.keepIn K (.ref f)=true):ZR K C m qual st:=Ro e.1 e.2.1 e.2.2.1 e.2.2.2.1 e.2.2.2.2
structure BD (P:XX) (w:XY) (K:uFg) (mg:XN) (base:Heap) (C:XW) (x:Str) (k:Nat) (sp:Sp):Prop where
 ex:∃(f:XW)(fd:FuncData),Mk K C f/\YF P w K mg base WU k f fd ["self"] sp/\YK K fd ["self"] []/\mg x=some (.ref C)
theorem Mt.mks(h:Mt P w K mg base C "__init__" ["self"] k sp)(mk:PySem.W.makesIn K C=true)(kc:PySem.W.keepIn K (.ref C)=true)(g:mg x=some (.ref C)):BD P w K mg base C x k sp:=by
 obtain⟨f,fd,M,F,B⟩:=h.ex;exact⟨f,fd,⟨mk,M.at_,M.fn,kc⟩,F,B,g⟩
end
section
variable{X:Cx}{C:XW}{m x f:Str}{ps:XO}{k:Nat}{sp:Sp}{o e i:Expr}{es:List Expr}{ta:TE}{t:TA}{apos pos p:Pos}
theorem Wc{pl:Sem Bool}(he:QE X o ta)(c:UH X.K C)(M:Mt X.prog X.w X.K X.mg X.base C m ps k sp)(ha:QA X (e::es) t)(hr:ZM k X.A:=by exact ZM.mono (by assumption) (by first | decide | lia))(hst:starEach (e::es) X.env=(false,eval e X.env)::starEach es X.env:=by rfl)(hpl:(backTo pos (starEach es X.env)).any (·.1)=false:=by rfl)(ht:eval (.Call (.Attribute o m apos) (e::es) [] pos) X.env=(do
   let ov ← eval o X.env
   standAt apos.atName
   let (f,first) ← holding [ov] (getMethod ov m pl)
   callWith pos f first (backTo pos (starEach (e::es) X.env)) (backToKw pos (keywordEach [] X.env))):=by rfl) :
  QE X (.Call (.Attribute o m apos) (e::es) [] pos) (Cy C m sp [] E0 ta t):=by
 obtain⟨f,fd,M,F,B⟩:=M.ex;exact⟨R0 he.h c M F hr B .nil CZ ha.h hst hpl ht⟩
theorem DS{pl:Sem Bool}(he:QE X o ta)(c:UH X.K C)(M:Mt X.prog X.w X.K X.mg X.base C m ps k sp)(hr:ZM k X.A:=by exact ZM.mono (by assumption) (by first | decide | lia))(ht:eval (.Call (.Attribute o m apos) [] [] pos) X.env=(do
   let ov ← eval o X.env
   standAt apos.atName
   let (f,first) ← holding [ov] (getMethod ov m pl)
   callWith pos f first (backTo pos (starEach [] X.env)) (backToKw pos (keywordEach [] X.env))):=by rfl) :
  QE X (.Call (.Attribute o m apos) [] [] pos) (Cy C m sp [] E0 ta Vr):=by
 obtain⟨f,fd,M,F,B⟩:=M.ex;exact⟨Mq he.h c M F hr B .nil CZ ht⟩
theorem Eh(M:BD X.prog X.w X.K X.mg X.base C x k sp)(hr:ZM (k+1) X.A:=by exact ZM.mono (by assumption) (by first | decide | lia))(n:nB X x .globalImplicit:=by kernel_rfl):QE X (.Call (.Name x p) [] [] pos) (HL C sp [] E0 Vr):=by
 obtain⟨f,fd,M,F,B,g⟩:=M.ex;exact⟨So M F hr (od n).1 g B .nil CZ (od n).2.1⟩
theorem Zx(he:QE X e ta)(hb:attributeBase e f X.env (eval e X.env)=eval e X.env:=by rfl):QE X (.Attribute e f pos) (DZ X.K ta f):=⟨FH he.h hb⟩
theorem Vu(ha:QE X o ta)(hv:QE X value tv)(hs:swapsWith value (some (.Attribute o f pos')) pos.line X.env=pure false:=by rfl):QS X (.Assign [.Attribute o f pos'] value pos) (KM X.K ta tv f):=⟨by
 have ha:=ha.h;have hv:=hv.h;intro pins s σ H D I h;refine plainObj_wpAny_Assign_Attribute (thn (hv pins s σ H _ I h) fun u s1 ⟨y,H1,I1,ry,q⟩=>thn (ha pins s1 σ H1 _ I1 q) fun ov s2 ⟨x,H2,I2,rx,a,C,dx,fs,ex,ea,c,n,l,q2⟩=>?_) hs;subst ex;obtain rfl:ov=Value.ref a:=rx
 exact Ri I2 ea c n l ry fun s3 I3=>⟨σ,_,I3,q2⟩⟩
theorem Bm:QE X (.Dict [] [] pos) Nx:=⟨fun pins s σ H Q I h => wpAny_Dict_empty ⟨.ref s.heap.objs.size,_,I.laid (a:=s.heap.objs.size) (o:=.dK []) (t':=s.toks) (fun _ _ q=>xG _ q) (xD _) (FN s.heap I.big),rfl,h _ (I.hok.fresh (xD _))⟩⟩
theorem Bo(hr:ZM k X.A)(ho:QE X o td)(hi:QE X i ty)(hs:Dx i):QE X (.Subscript o i pos) (Gi td ty):=⟨Rj (by have:=hr.units;lia) ho.h hi.h hs⟩
theorem Rn(hk:QE X ek tk)(hv:QE X ev tw):QE X (.Dict [some ek] [ev] pos) (Gp [(tk,tw)]):=⟨Rf (RJ hk.h hv.h Ln) rfl rfl (by simp) (by show 1<=15;decide)⟩
inductive BH(xs:aG)(H:Hp)(Q:VK):Prop
 |mk(a kvs)(_:xs = [V.ref a])(_:H a=some (.dK kvs))(_:Q (.int kvs.length) H)
theorem GW:QC X (.builtin "len") BH:=.imp ⟨Xx⟩ fun _ _ _ ⟨p,y,a,b,k⟩=>⟨p,y,a,b,k⟩
end
theorem KO(he:QE (ccx X scope cl C N' s0 H0 ex pn) e ta)(hb:attributeBase e f (ccx X scope cl C N' s0 H0 ex pn).env (eval e (ccx X scope cl C N' s0 H0 ex pn).env)=eval e (ccx X scope cl C N' s0 H0 ex pn).env:=by rfl):QE (ccx X scope cl C N' s0 H0 ex pn) (.Attribute e f pos) (DZ X.K ta f):=⟨FH (X:=ccx X scope cl C N' s0 H0 ex pn) he.h hb⟩
def stS(r:XO)(x:Str):List Str:=if r.any (· == x) then r else r ++ [x]
def fmS(val:Nat->Str):Nat->List Str
 | 0=>[]
 | i+1=>stS (fmS val i) (val i)
theorem E8(val:Nat->Str):∀i,(fmS val i).length<=i
 | 0=>xD _
 | i+1=>by
  have ih:=E8 val i;unfold fmS stS;split
  ·lia
  ·rw[xF,zH];lia
theorem NZ(r:XO)(v k:Str):(stS r v).any (· == k)=(r.any (· == k) || decide (k=v)):=by
 unfold stS
 by_cases h:r.any (· == v)=true
 ·rw[if_pos h]
  by_cases e:k=v
  ·subst e;rw[h];simp
  ·simp[e]
 ·grind
theorem Pc(r:XO)(v:Str):(stS r v).length=if r.any (· == v) then r.length else r.length+1:=by
 unfold stS;split<;>simp
section
variable{prog:XX}{w:XY}{A:XZ}{R:Result->XT->Prop}{I:XW}{fp wr:XS}{G:Array GenState->Array GenState->Prop}{n:Nat}{P:Nat->XU->Prop}{St:Nat->XT->Prop}
theorem NK(W:WalksS prog w A.in1 I fp wr G n P St)(S:XW)(hSf:S∉fp)(val:Nat->Str)(hval:∀i v,P i v->∃t,v = .str (val i) t)(hb:n+1 < scanBound) :
  ∀(k i:Nat)(s:XT),n - i=k->i<=n->St i s->s.heap.SetOf (strKind prog w) S (fun k'=>(fmS val i).any (· == k')) (fmS val i).length ->
   (∀s',Moved (S::wr) G s s'->s'.heap.SetOf (strKind prog w) S (fun k'=>(fmS val n).any (· == k')) (fmS val n).length->R (.ok (.ret .none)) s')->
   codeAny (model prog w) A (.builtin "set.update.loop" ⟨[.ref S,.ref I],[]⟩) R s:=by
 have hSw:S∉wr:=fun h=>hSf (W.sub _ h);have hsub:∀b∈wr,b∈S::wr:=fun b hb=>xN _ hb;intro k
 induction k with
 | zero =>
  intro i s hk hi hst hS hR;have hin:i=n:=by lia
  subst hin;refine codeAny_builtin F.entry_set_update_loop ?_;rw[Around.under_plainId F.plain_set_update_loop _];show wpAny _ A.in1 (pyNext (.ref I) >>= _) _ _ s;refine wpAny_bind (W.done s _ _ hst fun s' hm=>?_);show wpAny _ A.in1 (ret Value.none) _ _ s'
  exact wpAny_pure (hR s' (hm.mono hsub) (by
   obtain⟨o,es,ep,t,ho,rest⟩:=hS
   exact⟨o,es,ep,t,hm.heap S _ hSw ho,rest⟩))
 | succ k ih =>
  intro i s hk hi hst hS hR;have hlt:i < n:=by lia
  refine codeAny_builtin F.entry_set_update_loop ?_;rw[Around.under_plainId F.plain_set_update_loop _];show wpAny _ A.in1 (pyNext (.ref I) >>= _) _ _ s;refine wpAny_bind (W.item i s _ _ hlt hst fun v s' hP hst' hm=>?_);obtain⟨t,rfl⟩:=hval i v hP;have hS':s'.heap.SetOf (strKind prog w) S (fun k'=>(fmS val i).any (· == k')) (fmS val i).length:=by
   obtain⟨o,es,ep,tb,ho,rest⟩:=hS;exact⟨o,es,ep,tb,hm.heap S _ hSw ho,rest⟩
  show wpAny _ A.in1 (holding [Value.str (val i) t] (setAdd S (.str (val i) t)) >>= _) _ _ s';refine wpAny_bind (wpAny_holding ?_);unfold setAdd;refine wpAny_holding ?_;refine wpAny_bind ((strKind prog w).pyHash (k:=val i) (strKind_is _ _ _ _) ?_);have hroom:(fmS val i).length+1 < scanBound:=by have:=E8 val i;lia
  refine wpAny_setAddHashed_of (knd:=strKind prog w) (s:={s' with toks:=s'.toks+1 }) (strKind_is _ _ _ _) rfl hS' hroom fun h' hsb hS2=>?_;have hSi:h'.SetOf (strKind prog w) S (fun k'=>(fmS val (i+1)).any (· == k')) (fmS val (i+1)).length:=SetOf_congr hS2 (fun k'=>(NZ _ _ _).symm) (Pc _ _).symm;refine wpAny_pure ⟨plainId_quiet F.plain_set_update_loop _,ih (i+1) _ (by lia) hlt (W.frame _ s' _ _ hst' (Nat.le_succ _) fun b hb o e=>?_) hSi fun s'' hm'' hS''=>?_⟩
  ·rw[hsb.2 b (fun h:b=S=>hSf (by rw[← h];exact hb))];exact e
  ·refine hR s'' (Moved.trans W.gtrans ((hm.mono hsub).then_heap (Nat.le_succ _) fun b o hb e=>?_) hm'') hS'';rw[hsb.2 b (fun h:b=S=>hb (by rw[h];exact xY))];exact e
end
section
variable{prog:XX}{w:XY}{A:XZ}{E:XM}{s:XT}
theorem Pi{l:XW}{items:Array XU}{val:Nat->Str}{Q:XM}(hh:A.handled=none)(hl:s.heap.IsList l items)(hval:∀ (i:Nat) (v:XU),items[i]? = some v->∃t,v = .str (val i) t)(hb:items.size+1 < scanBound)(h:∀ (h':Heap) (tk:Nat),h'.SetOf (strKind prog w) s.heap.objs.size (fun k'=>(fmS val items.size).any (· == k')) (fmS val items.size).length -> (∀b o,b < s.heap.objs.size->s.heap.get? b=some o->h'.get? b=some o)->Q (.ref s.heap.objs.size) {s with heap:=h',toks:=tk }) :
  wpAny (model prog w) A (call (.type "set") [.ref l]) Q E s:=by
 obtain⟨c,tl,hmro⟩:=F.called_set.mro;have hmade:=F.called_set.made;have hsub:=F.called_set.sub;refine wpAny_call (codeAny_of_tree ?_);show wpAny _ _ (callAny (.type "set") _) _ _ _;refine wpAny_pure ⟨Code.quiet_builtin _ aA,codeAny_builtin F.entry_type_call ?_⟩;rw[Around.under_plain (weight_type_call_type "set" [.ref l] []) rfl];have h1:=F.called_set.notType;have h2:=F.called_set.canCreate;have hct:=F.typeCall_set_1 (.ref l)
 repeat (any_goals (first | assumption | wp_step))
 refine codeAny_mono (code_set_new_1 (.ref l) (E:=E) (Q₁:=fun obj s₁=>∃led:Bool,obj = .ref s.heap.objs.size/\s₁={s with heap:=s.heap.push {cls:=.type "set", dict:=none,data:=.set #[] 0 (.fresh 0 0 led) } }) fun led=>⟨led,rfl,rfl⟩) fun r s₁ hr=>?_;cases r with
 | error e=>exact hr
 | ok fl =>
  cases fl with
  | ret obj =>
   obtain⟨led,rfl,rfl⟩:=hr;have hS:(s.heap.push {cls:=.type "set", dict:=none,data:=.set #[] 0 (.fresh 0 0 led) }).get? s.heap.objs.size=some {cls:=.type "set", dict:=none,data:=.set #[] 0 (.fresh 0 0 led) }:=xV _ rfl;have hT:Shared.TypeIs {s with heap:=s.heap.push {cls:=.type "set", dict:=none,data:=.set #[] 0 (.fresh 0 0 led) } } (.ref s.heap.objs.size) "set" := ⟨_,hS,rfl⟩;have hli:=F.called_set.init.lookup;have hbi:=F.called_set.init.bind (.ref s.heap.objs.size)
   repeat (any_goals (first | assumption | wp_step))
   refine codeAny_mono (codeAny_call_builtin (R:=wants (fun r s₂=>r = .none/\∃h' tk,s₂={s with heap:=h',toks:=tk }/\h'.SetOf (strKind prog w) s.heap.objs.size (fun k'=>(fmS val items.size).any (· == k')) (fmS val items.size).length /\ (∀b o,b < s.heap.objs.size->s.heap.get? b=some o->h'.get? b=some o)) E) F.called_set.init.plain F.entry_set_init (check_set_init_1 hT ?_)) fun r₂ s₂ hr₂=>?_
   ·obtain⟨ol,hol,hcl,nl,hdl⟩:=hl;obtain⟨ocls,odict,odata,oslots⟩:=ol;simp only at hcl hdl;subst hcl;subst hdl;have hol':(s.heap.push {cls:=.type "set", dict:=none,data:=.set #[] 0 (.fresh 0 0 led) }).get? l=some {cls:=.type "list", dict:=odict,data:=.seq items nl,slots:=oslots }:=xG _ hol;have hsls:=F.sub_list_set;have hslf:=F.sub_list_frozenset;have hne:(Value.type "list" == Value.type "dict")=false:=by decide
    have hl1:(s.heap.push {cls:=.type "set", dict:=none,data:=.set #[] 0 (.fresh 0 0 led) }).IsList l items:=⟨_,hol',rfl,nl,rfl⟩;unfold Builtin.«set.__init__» noKeywords Builtin.Frozenset.updateFrom;generalize hPI:pyIter=PI
    wp_walk
    subst hPI;refine wpAny_pyIter_list hl1 ?_;refine wpAny_bind (wpAny_runValue ?_);have hlS:l < s.heap.objs.size:=xS hol;have hh3:A.in1.in1.in1.handled=none:=by simp[hh]
    have hneI:l≠(s.heap.push {cls:=.type "set", dict:=none,data:=.set #[] 0 (.fresh 0 0 led) }).objs.size:=by
     rw[zX];exact yH (Nat.lt_succ_of_lt hlS)
    have hSf:s.heap.objs.size ∉ [(s.heap.push {cls:=.type "set", dict:=none,data:=.set #[] 0 (.fresh 0 0 led) }).objs.size,l]:=by
     rw[zX];simp only[xC,xR,xU,or_false,not_or];exact⟨yH (Nat.lt_succ_self _),Nat.ne_of_gt hlS⟩
    refine NK ((Walks.list hh3 _ l hneI items).toS) s.heap.objs.size hSf val hval hb (items.size - 0) 0 _ (by lia) (yN _) ⟨⟨_,xV _ rfl,rfl,rfl⟩,(hl1.push _)⟩ ?hS0 ?hR
    case hS0 =>
     have hget:((s.heap.push {cls:=.type "set", dict:=none,data:=.set #[] 0 (.fresh 0 0 led) }).push {cls:=.type "list_iterator", data:=.fields #[.ref l,.int 0 0] }).get? s.heap.objs.size
       = some {cls:=.type "set", dict:=none,data:=.set #[] 0 (.fresh 0 0 led) }:=xG _ hS
     exact SetOf_congr ((setObjOf_fresh (knd:=strKind prog w) led).setOf hget (by unfold scanBound;lia)) (fun _=>rfl) rfl
    case hR =>
     intro s' hm hS';obtain⟨h',g',d',tk',os'⟩:=s';have eg:g'=s.gens:=hm.gens;have ed:d'=s.drawn:=hm.drawn;have eo:os'=s.os:=hm.os;subst eg;subst ed;subst eo;show wpAny _ _ _ _ _ _;refine wpAny_pure ?_;show wpAny _ _ (ret Value.none) _ _ _;refine wpAny_pure ⟨rfl,h',tk',rfl,hS',fun b o hb e=>?_⟩;have hb1:b≠s.heap.objs.size:=yH hb;have hb2:b≠(s.heap.push {cls:=.type "set", dict:=none,data:=.set #[] 0 (.fresh 0 0 led) }).objs.size:=by
      rw[zX];exact yH (Nat.lt_succ_of_lt hb)
     exact hm.heap b o (by simp only[xC,xR,xU,or_false,not_or];exact⟨hb1,hb2⟩) (xG _ (xG _ e))
   ·cases r₂ with
    | error e=>exact hr₂
    | ok fl₂ =>
     cases fl₂ with
     | ret r =>
      obtain⟨rfl,h',tk,rfl,hS',hk'⟩:=hr₂
      repeat (any_goals (first | assumption | wp_step))
      exact h _ _ hS' hk'
     | _=>exact hr₂.elim
  | _=>exact hr.elim
end
def C4(xs:XO):Nat:=(xs.foldl stS []).length
theorem FB(xs:XO):∀n,n<=xs.length->fmS (fun i=>xs.getD i "") n=(xs.take n).foldl stS []
 | 0,_=>rfl
 | n+1,h=>by
  show stS (fmS _ n) _=_;rw[FB xs n (by lia),List.take_succ_eq_append_getElem (by lia),zT];show stS _ (xs.getD n "")=stS _ (xs[n]);rw[xZ,xB (by lia)];rfl
inductive TL(K:uFg)(Q:VK)(vs:aG)(H1:Hp):Prop
 |mk(l) (xs)(_:vs = [.ref l])(_:ZF K H1 l (xs.map V.str))(_:xs.length<=1000)(_:Q (.int (C4 xs)) H1)
def LF(K:uFg)(ta:TA):TE:=fun σ H Q=>ta σ H fun vs H1=>TL K Q vs H1
theorem QR{a:Expr}{ta:TA}{p q pos pos':Pos}(hc:X.calm=true)(hml:X.mg "len" = none)(hm:X.mg "set" = none)(ha:QA X [a] ta)(hgl:nB X "len" .globalImplicit:=by kernel_rfl)(hg:nB X "set" .globalImplicit:=by kernel_rfl)(hs:starEach [a] X.env = [(false,eval a X.env)]:=by rfl)(hs2:starEach [.Call (.Name "set" p) [a] [] pos] X.env = [(false,eval (.Call (.Name "set" p) [a] [] pos) X.env)]:=by rfl) :
  QE X (.Call (.Name "len" q) [.Call (.Name "set" p) [a] [] pos] [] pos') (LF X.K ta):=⟨by
 have hgl:=(od hgl);have hg:=(od hg);have ha:=ha.h;intro pins s σ H Q I h;refine wpAny_Call_Name_kw (Uw I hgl.1 hml (show bootBuiltins "len" = some (.builtin "len") by decide +kernel) ?_ hgl.2.2.2 hgl.2.1);refine PyProof.Rows.callWith_builtin1 ?_ hs2 rfl;rw[hs2];refine Calls.spliced_cons ?_;refine wpAny_Call_Name_kw (Uw I hg.1 hm (show bootBuiltins "set" = some (.type "set") by decide +kernel) (PyProof.Rows.callWith_type1 (thn (ha pos pins s σ H _ I h) fun us s1 ⟨vs,H1,I1,r1,l,xs,e,hL,hn,q1⟩=>?_) hs rfl) hg.2.2.2 hg.2.1);subst e;cases r1 with
 | cons r rr =>
  cases rr;obtain rfl:=r;obtain⟨its,r,pl,hz⟩:=I1.list hL;have hlen:its.length=xs.length:=by rw[← r.length,xA]
  obtain⟨o,n,e1,e2,e3,e4⟩:=pl;have hval:∀(i:Nat)(v:XU),its.toArray[i]? = some v->∃t,v = .str (xs.getD i "") t:=fun i v hv=>by
   rw[← Array.getElem?_toList] at hv;have hi:i < its.length:=by have:=(xH.mp hv).1;simpa using this
   obtain⟨u,eu,t,ru⟩:=r.get (i:=i) (x:=.str (xs.getD i "")) (by rw[xE,xB (by lia),xZ,xB (by lia)];rfl);have hv:its[i]? = some v:=hv;rw[hv] at eu;cases eu;exact⟨t,ru⟩
  have hsz:its.toArray.size=xs.length:=by rw[xQ,hlen]
  refine Pi (items:=its.toArray) (val:=fun i=>xs.getD i "") (I1.ok.hd hc) ⟨o,e1,e2,n,e4⟩ hval (by unfold scanBound;lia) fun h' tk hS hk=>?_;rw[hsz] at hS;have I2:ZD X pins σ H1 {s1 with heap:=h',toks:=tk }:=I1.kept fun b u e=>hk b u (xS e) e;refine Calls.spliced_nil ?_;obtain⟨o2,ho,hso⟩:=hS.objOf;obtain⟨hex,es,ep,t,hd,_,_,hnn,hf⟩:=hso;have hle:=E8 (fun i=>xs.getD i "") xs.length;have hlt:(es.size:Int) < 2 ^ 63:=Int.lt_of_le_of_lt (show (es.size:Int)<=1000 by lia) aA;refine call_len_set (s:={s1 with heap:=h',toks:=tk }) ho hex hd hf hlt ?_;refine⟨.int es.size,H1,I2.tok _,⟨_,rfl⟩,?_⟩;have e:es.size=C4 xs:=by
   rw[hnn,FB xs xs.length (xD _),xX];rfl
  rw[e]
  exact q1⟩
def Fg(h0:Heap)(H:Hp)(h:Heap)(a:XW)(vs:Array XU):Prop:=∃T oT ts v3,vs[1]? = some (.ref T)/\T≠a/\h.get? T=some oT/\oT.data = .fields ts/\ts[3]? = some v3/\H T=none/\h0.get? T=none
def Ti(h0:Heap)(H:Hp)(h:Heap)(a C:XW):Prop:=H a=none/\h0.get? a=none/\∃oe vs a0,h.get? a=some oe/\oe.cls = .ref C/\oe.data = .fields vs/\vs[0]? = some a0/\(vs[1]? = some .none\/Fg h0 H h a vs)
def BG(h0:Heap)(H:Hp)(h:Heap)(a C:XW):Prop:=H a=none/\h0.get? a=none/\∃oe vs a0,h.get? a=some oe/\oe.cls = .ref C/\oe.data = .fields vs/\vs[0]? = some a0/\Fg h0 H h a vs
theorem BG.at_(x:BG h0 H h a C):Ti h0 H h a C:=let ⟨p,q,oe,vs,a0,h1,h2,h3,h4,h5⟩:=x;⟨p,q,oe,vs,a0,h1,h2,h3,h4,.inr h5⟩
def Tn(P:XX)(w:XY):UT:=fun outer H s E e s'=>∃a C H',e = .ref a/\s'.os=s.os/\AllBare s'.gens/\Un (frs outer) [] H H' s.heap s'.heap/\YQ P w H' s'.heap/\Ti s.heap H' s'.heap a C/\E (.ref C) none H'
structure Xp (X:Cx) (E:St->XK):Prop where
 h:∀pins σ H s a C,ZD X pins σ H s->Ti X.s₀.heap H s.heap a C->E σ (.ref C) none H->X.xe (.ref a) s
theorem ZO.ex(x:ZO P w H h a o):∃u,h.get? a=some u:=by
 cases o with
 | lst xs=>obtain⟨_,_,_,_,e⟩:=x;exact⟨_,e⟩
 | tup xs=>obtain⟨_,_,_,_,e,_⟩:=x;exact⟨_,e⟩
 | dK kvs=>obtain⟨_,_,_,_,o,_,_,e,_⟩:=x;exact⟨_,e⟩
 | dT kvs=>obtain⟨_,_,_,_,o,_,_,e,_⟩:=x;exact⟨_,e⟩
 | set S n=>obtain⟨o,_,_,_,e,_⟩:=x;exact⟨_,e⟩
 | ins C dx fs=>obtain⟨_,_,_,e,_⟩:=x;exact⟨_,e⟩
 | own y=>exact x
 | xd fs=>obtain⟨_,⟨_,_,_,e,_⟩,_⟩:=x;exact⟨_,e⟩
 | rng lo hi=>obtain⟨_,_,_,e⟩:=x;exact⟨_,e⟩
 | frz ob u=>obtain⟨e,_⟩:=x;exact⟨_,e⟩
 | tbl ps=>obtain⟨_,_,_,e,_⟩:=x;exact⟨_,e⟩
 | met f y=>exact⟨_,x⟩
 | ext φ=>obtain⟨_,e,_⟩:=x;exact e
theorem ZD.stepN{g':Array GenState}{t':Nat}{d':Drawn}{ch:XS}(I:ZD X [] σ H s)(hpn:X.pn = [])(hch:∀b∈ch,X.s₀.heap.get? b=none/\b≠X.env.locals/\∀x c,X.env.cells.lookup x=some c->c≠b)(keep:∀b o,b≠X.env.locals->b∉X.fs->b∉ch->s.heap.get? b=some o->H b=none->h'.get? b=some o)(slot:∀b o,b≠X.env.locals->b∈X.fs->b∉ch->s.heap.get? b=some o->H b=none->∃sl,h'.get? b=some {o with slots:=sl })(there:∀b o,b∉ch->s.heap.get? b=some o->∃o',h'.get? b=some o')(ns:∀m,s.heap.Ns X.env.locals m->h'.Ns X.env.locals m)(hok:YQ X.prog X.w H h')(hg:AllBare g') :
  ZD X [] σ H {s with heap:=h',gens:=g',drawn:=d',toks:=t' }:=by
 have neL:∀b o,X.s₀.heap.get? b=some o->b≠X.env.locals:=fun b o e=>yH (yI (xS e) I.ok.above);have neC:∀b o,X.s₀.heap.get? b=some o->b∉ch:=fun b o e hb=>by
  have:=(hch b hb).1;rw[e] at this;cases this
 have cellK:∀x c,X.env.cells.lookup x=some c->∀v,s.heap.IsCell c v->h'.IsCell c v:=fun x c e v ⟨o,ho,hd⟩=>by
  have nch:c∉ch:=fun z=>(hch c z).2.2 x c e rfl
  by_cases hc:c∈X.fs
  ·obtain⟨sl,q⟩:=slot c o (I.cne x c e) hc nch ho (I.freeC x c e);exact⟨_,q,hd⟩
  ·exact⟨o,keep c o (I.cne x c e) hc nch ho (I.freeC x c e),hd⟩
 refine⟨I.ok,I.os,hg,⟨fun b o e n hb hx=>?_,fun b o e n hb hx=>?_,fun b o e n hx=>I.base.free b o e n hx,fun b o e hx=>?_,I.base.tups,I.base.frzs,I.base.tbls⟩,?_,fun x c e=>?_,I.free,I.freeC,fun p hp=>?_,hok,I.len⟩
 ·exact keep b o (neL b o e) hb (neC b o e) (I.base.keep b o e n hb hx) (I.base.free b o e n hx)
 ·obtain⟨sl,e1⟩:=I.base.slot b o e n hb hx;obtain⟨sl',e2⟩:=slot b _ (neL b o e) hb (neC b o e) e1 (I.base.free b o e n hx);exact⟨sl',e2⟩
 ·obtain⟨o',e1⟩:=I.base.there b o e hx;exact there b o' (neC b o e) e1
 ·obtain⟨m,hn,hl⟩:=I.loc;refine⟨m,ns m hn,fun i x v e1 e2 e3=>?_⟩;obtain⟨u,r,l⟩:=hl i x v e1 e2 e3;refine⟨u,r,?_⟩;rcases l with l | ⟨k,c,e,z⟩
  ·exact .inl l
  ·exact .inr ⟨k,c,e,cellK x c e _ z⟩
 ·obtain⟨v,z⟩:=I.cell x c e;exact⟨v,cellK x c e v z⟩
 ·rw[hpn] at hp;cases hp
theorem ZD.noted(I:ZD X [] σ H s)(hpn:X.pn = [])(hh:∀b∈hs,X.s₀.heap.get? b=none/\H b=none/\∃o vs,s.heap.get? b=some o/\o.data = .fields vs)(st:(PySem.W.hideAll s.heap (hs++frs X.stack)).StaysIn h')(up:∀b o,s.heap.get? b=some o->(∀vs,o.data ≠ .fields vs)->∃sl,h'.get? b=some {o with slots:=sl }):ZD X [] σ H {s with heap:=h' }:=by
 obtain⟨m,⟨oL,esL,epL,hoL,hdL,rL⟩,_⟩:=id I.loc;have kp:∀b o,b∉hs->b∉frs X.stack->s.heap.get? b=some o->h'.get? b=some o:=fun b o n1 n2 e=>st b o (PySem.W.hideAll_get _ e fun hm=>(xJ.mp hm).elim n1 n2);have fr:∀b,b∈frs X.stack->∃o,s.heap.get? b=some o/\∀vs,o.data ≠ .fields vs:=fun b hb=>(I.stack.mem hb).2;refine I.stepN (g':=s.gens) (d':=s.drawn) (t':=s.toks) (ch:=hs) hpn (fun b hb=>?_) (fun b o hL hf hc e _=>kp b o hc (fun z=>(xC.mp (I.stkSub b z)).elim hL hf) e) (fun b o hL hf _ e _=>?_) (fun b o hc e=>?_) (fun m' hm=>?_) (fun b u e=>?_) I.bare
 ·obtain⟨h1,h2,o,vs,e,d⟩:=hh b hb;refine⟨h1,fun z=>?_,fun x c ec z=>?_⟩
  ·rw[z,hoL] at e;cases e;rw[hdL] at d;cases d
  ·obtain⟨v,oc,ho,hd⟩:=I.cell x c ec;rw[z,e] at ho;cases ho;rw[d] at hd;cases hd
 ·obtain⟨o',e',d⟩:=(I.funs.mem (show b∈X.outer.filterMap (·.frame) from hf)).2;rw[e] at e';cases e';exact up b o e d
 ·grind
 ·obtain⟨o,es,ep,ho,d,r⟩:=hm;obtain⟨sl,q⟩:=up _ o ho fun vs z=>by rw[d] at z;cases z
  exact⟨_,es,ep,q,d,r⟩
 ·have nh:∀c v,H c=some v->c∉hs/\c∉frs X.stack:=fun c v ec=>⟨(fun z=>by rw[(hh c z).2.1] at ec;cases ec),(fun z=>by rw[I.stkFree c z] at ec;cases ec)⟩;refine(I.hok b u e).stay (fun c v hc q=>?_) (fun _ q=>q) fun _ _ q=>q;rcases hc with rfl | hc
  ·exact kp c v (nh c _ e).1 (nh c _ e).2 q
  ·exact kp c v (nh c _ hc).1 (nh c _ hc).2 q
theorem FP(I:ZD X [] σ H s)(hpn:X.pn = [])(hex:X.ex = [])(stk:X.stack=X.env::X.outer)(hf:X.env.frame=some X.env.locals)(x:Ti X.s₀.heap H s.heap a C)(k:∀h',ZD X [] σ H {s with heap:=h' }->BG X.s₀.heap H h' a C->(∀b o,s.heap.get? b=some o->(∀vs,o.data ≠ .fields vs)->∃sl,h'.get? b=some {o with slots:=sl })->Q () {s with heap:=h' }) :
  wpAny M X.A (noteFrame (.ref a) X.env) Q E s:=by
 obtain⟨ha,h0a,oe,vs,a0,he,hc,hd,v0,tr⟩:=x;have fin:∀(hs:XS),a∈hs->(∀b∈hs,X.s₀.heap.get? b=none/\H b=none/\∃o vs,s.heap.get? b=some o/\o.data = .fields vs)->
   ∀h1,Heap.NotedW (PySem.W.hideAll s.heap (hs++frs X.stack)) (X.env::X.outer) a (.ref C) a0 (rawInt X.env.locals) s.heap h1->Q () {s with heap:=h1 }:=by
  intro hs has hh h1 N;refine k h1 (I.noted hpn hh N.1 N.2.2.2) ?_ N.2.2.2;obtain⟨oe',vs',T,oT,ts,he',⟨hc',v0'⟩,hd',h1',hnT,hTe,hT,hdT,h3⟩:=N.2.2.1;have no:∀o,s.heap.get? T=some o->T∉hs->T∉frs X.stack->False:=fun o e n1 n2=>by
   have:=PySem.W.hideAll_get (hs++frs X.stack) e fun hm=>(xJ.mp hm).elim n1 n2;rw[this] at hnT;cases hnT
  have nfr:T∉frs X.stack:=fun z=>by
   rw[stk] at z;obtain⟨_,o,e,d⟩:=N.2.1.mem (show T∈(X.env::X.outer).filterMap (·.frame) from z);rw[hT] at e;cases e;exact d ts hdT
  refine⟨ha,h0a,oe',vs',a0,he',hc',hd',v0',T,oT,ts,_,h1',hTe,hT,hdT,h3,?_,?_⟩
  ·cases q:H T with
   | none=>rfl
   | some u =>
    obtain⟨o,e⟩:=(I.hok T u q).ex;exact(no o e (fun z=>by rw[(hh T z).2.1] at q;cases q) nfr).elim
  ·cases q:X.s₀.heap.get? T with
   | none=>rfl
   | some o =>
    obtain⟨o',e⟩:=I.base.there T o q (by rw[hex];simp);exact(no o' e (fun z=>by rw[(hh T z).1] at q;cases q) nfr).elim
 have hfr:X.A.frames=some (X.env::X.outer):=by rw[← stk];exact I.ok.frames
 have hl:∀hs:List XW,s.heap.FunFrames (PySem.W.hideAll s.heap (hs++frs X.stack)) (X.env::X.outer):=fun hs=>by
  rw[← stk];exact PySem.W.funFrames_hide I.stack fun env he b hb=>xI _ (List.mem_filterMap.mpr ⟨env,he,hb⟩)
 have hkb:∀hs:List XW,(PySem.W.hideAll s.heap (hs++frs X.stack)).StaysIn s.heap:=fun hs b o q=>PySem.W.of_hideAll _ q;rcases tr with v1 | ⟨T,oT,ts,v3,v1,hTe,hT,hdT,h3,hHT,h0T⟩
 ·have hh:∀b ∈ [a],X.s₀.heap.get? b=none/\H b=none/\∃o vs,s.heap.get? b=some o/\o.data = .fields vs:=fun b hb=>by
   rw[xR] at hb;subst hb;exact⟨h0a,ha,oe,vs,he,hd⟩
  unfold noteFrame;simp only[hf];refine wpAny_bind (wpAny_field he hd v1 ?_);rw[if_neg aA];refine wpAny_entryW (base:=PySem.W.hideAll s.heap ([a]++frs X.stack)) hfr (hl _) hf he (hkb _) (PySem.W.hideAll_none _ (by simp)) hd (zR.mp v1).1 v0 fun h1 N=>?_;rw[hc] at N;exact fin [a] (by simp) hh h1 N
 ·have hh:∀b ∈ [a,T],X.s₀.heap.get? b=none/\H b=none/\∃o vs,s.heap.get? b=some o/\o.data = .fields vs:=fun b hb=>by grind
  unfold noteFrame;simp only[hf];refine wpAny_bind (wpAny_field he hd v1 ?_);rw[if_pos (show (Value.ref T != Value.none)=true from by simp)];refine wpAny_bind (wpAny_field hT hdT h3 ?_)
  by_cases zz:(v3 == rawInt X.env.locals)=true
  ·rw[if_pos zz];exact wpAny_pure (k s.heap I ⟨ha,h0a,oe,vs,a0,he,hc,hd,v0,T,oT,ts,v3,v1,hTe,hT,hdT,h3,hHT,h0T⟩ fun b o e _=>⟨o.slots,e⟩)
  ·rw[if_neg zz];refine wpAny_bind (wpAny_setField hT hdT (zR.mp h3).1 ?_);have oth:∀b,b≠T->(s.heap.update T (Obj.mapFields (·.setIfInBounds 3 Value.none))).get? b=s.heap.get? b:=fun b hb=>wD _ _ (Ne.symm hb);have nr:∀b o,s.heap.get? b=some o->(∀vs,o.data ≠ .fields vs)->b≠T:=fun b o hb hn q=>by
    rw[q,hT] at hb;injection hb with hb;subst hb;exact hn ts hdT
   have hbT:(PySem.W.hideAll s.heap ([a,T]++frs X.stack)).get? T=none:=PySem.W.hideAll_none _ (by simp);refine wpAny_entryW (base:=PySem.W.hideAll s.heap ([a,T]++frs X.stack)) hfr ((hl _).of_keeps fun b o hb hn=>⟨o,(oth b (nr b o hb hn)).trans hb,rfl⟩) hf ((oth a (Ne.symm hTe)).trans he)
    (fun b o hbo=>(oth b fun q=>by rw[q,hbT] at hbo;cases hbo).trans (hkb _ b o hbo)) (PySem.W.hideAll_none _ (by simp)) hd (zR.mp v1).1 v0
    fun h1 ⟨x1,x2,x3,x4⟩=>?_
   rw[hc] at x3;exact fin [a,T] (by simp) hh h1 ⟨x1,x2,x3,fun b o hb hn=>x4 b o ((oth b (nr b o hb hn)).trans hb) hn⟩
theorem En(I:ZD X [] σ H s)(hpn:X.pn = [])(x:BG X.s₀.heap H s.heap a C)(k:∀h',ZD X [] σ H {s with heap:=h' }->BG X.s₀.heap H h' a C->Q () {s with heap:=h' }):wpAny M A (setFlight (.ref a) fr) Q E s:=by
 obtain⟨ha,h0a,oe,vs,a0,he,hc,hd,v0,T,oT,ts,v3,v1,hTe,hT,hdT,h3,hHT,h0T⟩:=x;have sz3:=(zR.mp h3).1;unfold setFlight;refine wpAny_bind (wpAny_field he hd v1 ?_);rw[if_pos (show (Value.ref T != Value.none)=true from by simp)];refine wpAny_setField hT hdT sz3 ?_;have oth:∀b,b≠T->(s.heap.update T (Obj.mapFields (·.setIfInBounds 3 (fr.elim Value.none fun f=>rawInt f)))).get? b=s.heap.get? b:=fun b hb=>wD _ _ (Ne.symm hb);refine k _ (I.noted (hs:=[T]) hpn (fun b hb=>by rw[xR] at hb;subst hb;exact⟨h0T,hHT,oT,ts,hT,hdT⟩) (fun b o q=>?_) fun b o hb hn=>⟨o.slots,(oth b fun q=>by rw[q,hT] at hb;cases hb;exact hn ts hdT).trans hb⟩)
  ⟨ha,h0a,oe,vs,a0,(oth a (Ne.symm hTe)).trans he,hc,hd,v0,T,_,_,(fr.elim Value.none fun f=>rawInt f),v1,hTe,Heap.get?_update_self _ hT (Obj.isFreed_of_fields (Obj.data_mapFields hdT _)),Obj.data_mapFields hdT _,by simp[sz3],hHT,h0T⟩
 refine(oth b fun z=>?_).trans (PySem.W.of_hideAll _ q);rw[z,PySem.W.hideAll_none _ (by simp)] at q;cases q
theorem Ke(I:ZD X [] σ H s)(hpn:X.pn = [])(hex:X.ex = [])(stk:X.stack=X.env::X.outer)(hf:X.env.frame=some X.env.locals)(x:Ti X.s₀.heap H s.heap a C)(k:∀h',ZD X [] σ H {s with heap:=h' }->Ti X.s₀.heap H h' a C->Q () {s with heap:=h' }) :
  wpAny M X.A (noteFrame (.ref a) X.env) (fun _ s₂=>wpAny M X.A (setFlight (.ref a) none) Q E s₂) E s :=
 FP I hpn hex stk hf x fun h1 I1 x1 _=>En (s:={s with heap:=h1 }) I1 hpn x1 fun h2 I2 x2=>k h2 I2 x2.at_
theorem Ti.mono(x:Ti h0 H h a C)(k:∀b,h0.get? b=none->h1.get? b=none):Ti h1 H h a C:=by
 obtain⟨ha,h0a,oe,vs,a0,he,hc,hd,v0,tr⟩:=x;refine⟨ha,k a h0a,oe,vs,a0,he,hc,hd,v0,?_⟩;rcases tr with v1 | ⟨T,oT,ts,v3,v1,hTe,hT,hdT,h3,hHT,h0T⟩
 ·exact .inl v1
 ·exact .inr ⟨T,oT,ts,v3,v1,hTe,hT,hdT,h3,hHT,k T h0T⟩
theorem Yz{P:XX}{w:XY}{K:uFg}{mg:XN}{base:Heap}{N:XO}{qual:Str}{scope:Scope}{f:XW}{cd:XU}{A:XZ}{outer:List Env}{s:XT}{H:Hp}{E:XK} :
  Xp (Y3 (Tn P w) P w K mg base N qual scope f cd A outer s H E) fun _=>E:=⟨fun pins σ H1 s1 a C I x hE=>by
 have I':=I.pins_of (pins':=[]) (fun p hp=>nomatch hp);show wpAny _ _ (noteFrame _ _ >>= fun _=>setFlight _ none) _ _ _;refine wpAny_bind (Ke (X:=Y3 (Tn P w) P w K mg base N qual scope f cd A outer s H E) I' rfl rfl rfl rfl x fun h' J y=>?_)
 exact⟨a,C,H1,rfl,J.os,J.bare,J.base,J.hok,y,hE⟩⟩
section
variable{X:Cx}{E:St->XK}
theorem ZD.newer{pins:List (XW×Obj)}{σ:St}{H:Hp}{s:XT}(I:ZD X pins σ H s)(hex:X.ex = []):∀b,s.heap.get? b=none->X.s₀.heap.get? b=none:=fun b e=>by
 cases q:X.s₀.heap.get? b with
 | none=>rfl
 | some o =>
  obtain⟨o',e'⟩:=I.base.there b o q (by rw[hex];simp);rw[e] at e';cases e'
structure Xq (X:Cx) (E:St->XK):Prop where
 h:(∀ σ c d H,¬E σ c d H)\/(X.ex = []/\Xp X E)
theorem Xq.never:Xq X fun _ _ _ _=>False:=⟨.inl fun _ _ _ _ h=>h⟩
theorem Xq.pass{pins:List (XW×Obj)}{σ:St}{H:Hp}{s s':XT}{e:XU}(hx:Xq X E)(I:ZD X pins σ H s)(h:Tn X.prog X.w X.stack H s (E σ) e s'):X.xe e s':=by
 obtain⟨a,C,H',rfl,os,bare,un,hok,x,hE⟩:=h;rcases hx.h with z | ⟨hex,hx⟩
 ·exact(z _ _ _ _ hE).elim
 obtain⟨hh,g,d,t,os'⟩:=s';obtain rfl:os'=s.os:=os;have J:=I.call (h':=hh) (g':=g) (d':=d) (t':=t) (ch:=[]) un hok bare (fun b z=>absurd z (by simp));exact hx.h pins σ H' _ a C J (x.mono (I.newer hex)) hE
theorem Z1{P:XX}{w:XY}{K:uFg}{mg:XN}{base:Heap}{N:XO}{qual:Str}{scope:Scope}{f:XW}{cd:XU}{A:XZ}{outer:List Env}{s:XT}{H:Hp}{E:XK} :
  Xq (Y3 (Tn P w) P w K mg base N qual scope f cd A outer s H E) fun _=>E:=⟨.inr ⟨rfl,Yz⟩⟩
end
structure C5 (P:XX) (w:XY) (K:uFg) (mg:XN) (base:Heap) (k:Nat) (f:XW) (sp:Sp):Prop where
 run:∀(A:XZ)(outer:List Env)(s:XT)(H:Hp)(us:XQ)(vs:aG)(Q:VK)(E:XK),ZM k A->UC P w K mg base A outer s H->ZH vs us->sp vs H Q E->codeAny (model P w) A (.call (.ref f) ⟨us,[]⟩) (CR (Tn P w) outer P w H s Q E) s
theorem YF.runX{P:XX}{w:XY}{K:uFg}{mg:XN}{base:Heap}{k:Nat}{f:XW}{fd:FuncData}{ps:XO}{sp:Sp}(F:YF P w K mg base (Tn P w) k f fd ps sp)(hb:YK K fd ps []):C5 P w K mg base k f sp :=
 ⟨fun A outer s H us vs Q E hr e0 r h=>by
  have KX:K.In s.heap:=e0.mod.kin.keeps fun b o e=>(e0.bs b o e).1;have hl:us.length=ps.length:=by rw[← r.length];exact F.len _ _ _ _ h
  have hb':BindsTo s fd ⟨us,[]⟩ (ps.zip us):=by
   have:=hb s us KX (by rw[yD];exact hl);rw[yD] at this;exact this
  exact F.run A outer s H ⟨us,[]⟩ us vs Q E hr e0 hb' r h⟩
def YT(P:XX)(w:XY)(K:uFg)(mg:XN)(base:Heap)(x:Str)(k:Nat)(sp:Sp):Prop :=
 ∃f,mg x=some (.ref f)/\PySem.W.keepIn K (.ref f)=true/\C5 P w K mg base k f sp
structure ZY (P:XX) (w:XY) (K:uFg) (mg:XN) (base:Heap) (C:XW) (m:Str) (k:Nat) (sp:Sp):Prop where
 ex:∃(f:XW),To K C m f/\C5 P w K mg base k f sp
section
variable{P:XX}{w:XY}{K:uFg}{mg:XN}{base:Heap}{C:XW}{x:Str}{ps:XO}{k k':Nat}{sp sp':Sp}
def Sp.or(a b:Sp):Sp:=fun vs H Q E=>a vs H Q E\/b vs H Q E
end
def Ql(sp:Sp)(E:St->XK)(t:TA):TE:=fun σ H Q=>t σ H fun vs H1=>sp vs H1 Q (E σ)
inductive BI(C:XW)(m:Str)(sp:Sp)(E:St->XK)(t:TA)(σ:St)(Q:VK)(x:V)(H1:Hp):Prop
 |mk(a dx fs)(_:x = .ref a)(_:H1 a=some (.ins C dx fs))(_:fs.lookup m=none)(_:t σ H1 fun vs H2=>sp (x::vs) H2 Q (E σ))
def Ki(C:XW)(m:Str)(sp:Sp)(E:St->XK)(ta:TE)(t:TA):TE:=fun σ H Q=>ta σ H fun x H1=>BI C m sp E t σ Q x H1
section
variable{X:Cx}{E:St->XK}{k:Nat}{f C:XW}{sp:Sp}{x m:Str}{p pos apos:Pos}{e o:Expr}{es:List Expr}{ta:TE}{t:TA}
theorem DG{pins:List (XW×Obj)}{σ:St}{H:Hp}{s:XT}{Q:VK}{us:XQ}{vs:aG}(F:C5 X.prog X.w X.K X.mg X.base k f sp)(hr:ZM k X.A)(hx:Xq X E)(I:ZD X pins σ H s)(r:ZH vs us)(h:sp vs H Q (E σ)):wpAny (model X.prog X.w) X.A (call (.ref f) us) (EP X pins σ Q) X.xe s:=by
 refine wpAny_call (codeAny_mono (F.run X.A X.stack s H us vs Q (E σ) hr I.env0 r h) fun r s' hq=>?_);cases r with
 | error e=>exact hx.pass I hq
 | ok fl =>
  cases fl with
  | ret u=>exact I.after hq
  | next=>exact False.elim hq
  | brk=>exact False.elim hq
  | cont=>exact False.elim hq
theorem Wr(hx:Xq X E)(F:YT X.prog X.w X.K X.mg X.base x k sp)(ha:QA X (e::es) t)(hr:ZM k X.A:=by exact ZM.mono (by assumption) (by first | decide | lia))(n:nB X x .globalImplicit:=by kernel_rfl)(he:starEach (e::es) X.env=(false,eval e X.env)::starEach es X.env:=by rfl)(hpl:(backTo pos (starEach es X.env)).any (·.1)=false:=by rfl) :
  QE X (.Call (.Name x p) (e::es) [] pos) (Ql sp E t):=⟨by
 obtain⟨f,hm,hk,G⟩:=F;intro pins s σ H Q I h;have n:=od n;refine wpAny_Call_Name_kw (AO I n.1 hm ?_ n.2.1);refine PySem.W.callWith_K (h₀:=X.base) I.ok.mod.kin hk (thn (ha.h pos pins s σ H _ I h) fun us s1 ⟨vs,H1,I1,r,q⟩=>⟨I1.kIn,?_⟩) he hpl
 exact DG G hr hx I1 r q⟩
theorem Yj{pl:Sem Bool}(hx:Xq X E)(he:QE X o ta)(c:UH X.K C)(M:ZY X.prog X.w X.K X.mg X.base C m k sp)(ha:QA X (e::es) t)(hr:ZM k X.A:=by exact ZM.mono (by assumption) (by first | decide | lia))(hst:starEach (e::es) X.env=(false,eval e X.env)::starEach es X.env:=by rfl)(hpl:(backTo pos (starEach es X.env)).any (·.1)=false:=by rfl)(ht:eval (.Call (.Attribute o m apos) (e::es) [] pos) X.env=(do
   let ov ← eval o X.env
   standAt apos.atName
   let (f,first) ← holding [ov] (getMethod ov m pl)
   callWith pos f first (backTo pos (starEach (e::es) X.env)) (backToKw pos (keywordEach [] X.env))):=by rfl) :
  QE X (.Call (.Attribute o m apos) (e::es) [] pos) (Ki C m sp E ta t):=⟨by
 obtain⟨f,hm,F⟩:=M.ex;intro pins s σ H Q I h;refine PySem.W.methodCall_KW (pl:=pl) (thn (he.h pins s σ H _ I h) fun u s1 ⟨x,H1,I1,rx,a,dx,fs,ex,ea,l,q⟩=>?_) ht;subst ex;obtain rfl:u=Value.ref a:=rx;refine Cn I1 ea c hm l ?_;refine PySem.W.callWith_K (first:=[.ref a]) (h₀:=X.base) I.ok.mod.kin hm.kp (thn (ha.h pos pins s1 σ H1 _ I1 q) fun us s2 ⟨vs,H2,I2,r,q2⟩=>⟨I2.kIn,?_⟩) hst hpl
 exact DG (us:=.ref a::us) (vs:=.ref a::vs) F hr hx I2 (.cons rfl r) q2⟩
theorem Ad{pl:Sem Bool}(hx:Xq X E)(he:QE X o ta)(c:UH X.K C)(M:ZY X.prog X.w X.K X.mg X.base C m k sp)(hr:ZM k X.A:=by exact ZM.mono (by assumption) (by first | decide | lia))(ht:eval (.Call (.Attribute o m apos) [] [] pos) X.env=(do
   let ov ← eval o X.env
   standAt apos.atName
   let (f,first) ← holding [ov] (getMethod ov m pl)
   callWith pos f first (backTo pos (starEach [] X.env)) (backToKw pos (keywordEach [] X.env))):=by rfl) :
  QE X (.Call (.Attribute o m apos) [] [] pos) (Ki C m sp E ta Vr):=⟨by
 obtain⟨f,hm,F⟩:=M.ex;intro pins s σ H Q I h;refine PySem.W.methodCall_KW (pl:=pl) (thn (he.h pins s σ H _ I h) fun u s1 ⟨x,H1,I1,rx,a,dx,fs,ex,ea,l,q⟩=>?_) ht;subst ex;obtain rfl:u=Value.ref a:=rx;refine Cn I1 ea c hm l ?_
 exact PySem.W.callWith_K0 (first:=[.ref a]) I1.kIn hm.kp (DG (us:=[.ref a]) (vs:=[.ref a]) F hr hx I1 (.cons rfl .nil) q)⟩
end
section
variable{P:XX}{w:XY}{K:uFg}{mg:XN}{base:Heap}
theorem UN.okX{x qual:Str}{st:Stmt}{f:XW}{fd:FuncData}{N ps:XO}{k:Nat}{sp:Sp}(F:UN K x qual st f fd)(S:ZL N ps (Zm st))(len:∀vs H Q E,sp vs H Q E->vs.length=ps.length)(hbody:∀ (cdv:XU) (A:XZ) (outer:List Env) (s:XT) (H:Hp) (vs:aG) (Q:VK) (E:XK),ZM k (A.deeper (envOfC qual (Zm st) s.heap.objs.size f cdv))->sp vs H Q E -> ∃t,WR (Y3 (Tn P w) P w K mg base N qual (Zm st) f cdv A outer s H E) (Yn st) t/\t {nx:=fun _ H'=>Q .non H',rt:=Q } (start N vs) H):YF P w K mg base (Tn P w) (k+1) f fd ps sp:=by
 obtain⟨oc,od,kV,doc,pm,an,cdv,ct,osl,rfl,lk,hcd⟩:=F.ex;refine IM lk hcd S len fun A outer s H vs Q E hr hsp=>?_;obtain⟨t,h,q⟩:=hbody cdv A outer s H vs Q E hr hsp;exact⟨t,h.h,q⟩
theorem YB.fnX{x:Str}{st:Stmt}{N ps:XO}{k:Nat}{sp:Sp}(h:YB K mg x st)(S:ZL N ps (Zm st))(hb:∀ (kV doc pm:XU) (an:Option XW) (cdv ct:XU) (us:XQ),us.length=ps.length->bindArgs (PySem.W.fnOf x x (Wy st) (Yn st) (Zm st) .none kV doc pm an cdv ct) ⟨us,[]⟩=pure (ps.zip us))(len:∀vs H Q E,sp vs H Q E->vs.length=ps.length)(hbody:∀ (f:XW) (cdv:XU) (A:XZ) (outer:List Env) (s:XT) (H:Hp) (vs:aG) (Q:VK) (E:XK),ZM k (A.deeper (envOfC x (Zm st) s.heap.objs.size f cdv))->sp vs H Q E -> ∃t,WR (Y3 (Tn P w) P w K mg base N x (Zm st) f cdv A outer s H E) (Yn st) t/\t {nx:=fun _ H'=>Q .non H',rt:=Q } (start N vs) H):YT P w K mg base x (k+1) sp:=by
 obtain⟨f,fd,F,hm⟩:=h;exact⟨f,hm,F.kp,(F.okX S len (hbody f)).runX (F.binds hb)⟩
theorem YB.fx{x:Str}{st:Stmt}{k:Nat}{sp:Sp}(h:YB K mg x st)(N ps:XO)(hbody:∀{f:XW}{cdv:XU}{A:XZ}{outer:List Env}{s:XT}(H:Hp) (vs:aG) (Q:VK) (E:XK),ZM k (A.deeper (envOfC x (Zm st) s.heap.objs.size f cdv))->sp vs H Q E->vs.length=ps.length/\∃t,WR (Y3 (Tn P w) P w K mg base N x (Zm st) f cdv A outer s H E) (Yn st) t/\t {nx:=fun _ H'=>Q .non H',rt:=Q } (start N vs) H)(S:ZL N ps (Zm st):=by exact fsc)(hk:k<=60:=by decide)(hb:∀ (kV doc pm:XU) (an:Option XW) (cdv ct:XU) (us:XQ),us.length=ps.length->bindArgs (PySem.W.fnOf x x (Wy st) (Yn st) (Zm st) .none kV doc pm an cdv ct) ⟨us,[]⟩=pure (ps.zip us):=by exact fun _ _ _ _ _ _=>by first | exact al1 fun _=>rfl | exact al2 fun _ _=>rfl | exact al3 fun _ _ _=>rfl | exact al4 fun _ _ _ _=>rfl | exact al5 fun _ _ _ _ _=>rfl | exact al6 fun _ _ _ _ _ _=>rfl | exact al7 fun _ _ _ _ _ _ _=>rfl | exact al8 fun _ _ _ _ _ _ _ _=>rfl):YT P w K mg base x (k+1) sp :=
 h.fnX S hb (fun vs H Q E h=>(hbody (f:=0) (cdv:=.none) (A:={}) (outer:=[]) (s:={}) H vs Q E (BP hk) h).1) fun _ _ _ _ _ H vs Q E hr q=>(hbody H vs Q E hr q).2
theorem ZR.mtX{C:XW}{m qual:Str}{st:Stmt}{N ps:XO}{k:Nat}{sp:Sp}(h:ZR K C m qual st)(S:ZL N ps (Zm st))(hb:∀ (kV doc pm:XU) (an:Option XW) (cdv ct:XU) (us:XQ),us.length=ps.length->bindArgs (PySem.W.fnOf m qual (Wy st) (Yn st) (Zm st) .none kV doc pm an cdv ct) ⟨us,[]⟩=pure (ps.zip us))(len:∀vs H Q E,sp vs H Q E->vs.length=ps.length)(hbody:∀ (f:XW) (cdv:XU) (A:XZ) (outer:List Env) (s:XT) (H:Hp) (vs:aG) (Q:VK) (E:XK),ZM k (A.deeper (envOfC qual (Zm st) s.heap.objs.size f cdv))->sp vs H Q E -> ∃t,WR (Y3 (Tn P w) P w K mg base N qual (Zm st) f cdv A outer s H E) (Yn st) t/\t {nx:=fun _ H'=>Q .non H',rt:=Q } (start N vs) H):ZY P w K mg base C m (k+1) sp:=by
 obtain⟨f,fd,F,M⟩:=h.ex;exact⟨f,M,(F.okX S len (hbody f)).runX (F.binds hb)⟩
theorem ZR.mx{C:XW}{m qual:Str}{st:Stmt}{k:Nat}{sp:Sp}(h:ZR K C m qual st)(N ps:XO)(hbody:∀{f:XW}{cdv:XU}{A:XZ}{outer:List Env}{s:XT}(H:Hp) (vs:aG) (Q:VK) (E:XK),ZM k (A.deeper (envOfC qual (Zm st) s.heap.objs.size f cdv))->sp vs H Q E->vs.length=ps.length/\∃t,WR (Y3 (Tn P w) P w K mg base N qual (Zm st) f cdv A outer s H E) (Yn st) t/\t {nx:=fun _ H'=>Q .non H',rt:=Q } (start N vs) H)(S:ZL N ps (Zm st):=by exact fsc)(hk:k<=60:=by decide)(hb:∀kV doc pm an cdv ct us,us.length=ps.length->bindArgs (PySem.W.fnOf m qual (Wy st) (Yn st) (Zm st) .none kV doc pm an cdv ct) ⟨us,[]⟩=pure (ps.zip us):=by exact fun _ _ _ _ _ _=>by first | exact al1 fun _=>rfl | exact al2 fun _ _=>rfl | exact al3 fun _ _ _=>rfl | exact al4 fun _ _ _ _=>rfl | exact al5 fun _ _ _ _ _=>rfl | exact al6 fun _ _ _ _ _ _=>rfl | exact al7 fun _ _ _ _ _ _ _=>rfl | exact al8 fun _ _ _ _ _ _ _ _=>rfl):ZY P w K mg base C m (k+1) sp :=
 h.mtX S hb (fun vs H Q E h=>(hbody (f:=0) (cdv:=.none) (A:={}) (outer:=[]) (s:={}) H vs Q E (BP hk) h).1) fun _ _ _ _ _ H vs Q E hr q=>(hbody H vs Q E hr q).2
end
def nsX(K:uFg)(N:XW):Bool:=match K.lookup N with
 | some ⟨_,_,.dict es _,_⟩=>(es.toList.all fun e=>match e.key with | .str _ _=>true | _=>false) && (nsFind es "__init__").isNone
 | _=>false
def vE:List XU:=[.type "ValueError", .type "Exception", .type "BaseException", .type "object"]
def Es:List (Option XU)->Bool
 | [_,_,_,_,some v,_]=>v == .builtin "ValueError.__new__"
 | _=>false
def Km(K:uFg):List XU->Bool
 | .ref M::r=>r == vE && (match K.lookup M with | some ⟨_,_,.cls cd,_⟩=>nsX K cd.ns | _=>false)
 | _=>false
def JR(K:uFg)(C:XW):Bool:=match K.lookup C with
 | some ⟨c,_,.cls cd,sl⟩=>(c == .type "type") && (cd.hasDel == false) && nsX K cd.ns && Es sl.toList && (match cd.mro with | v::r=>(v == .ref C) && Km K r | _=>false)
 | _=>false
theorem HD{K:uFg}{h:Heap}{N:XW}(X:K.In h)(e:nsX K N=true):∃mN,h.Ns N mN/\mN "__init__" = none:=by
 unfold nsX at e;split at e
 ·rename_i c d es n sl q;rw[yR] at e;refine⟨nsFind es,⟨_,es,n,X _ _ q,rfl,fun en hen=>?_,fun _=>rfl⟩,Option.isNone_iff_eq_none.mp e.2⟩;have z:=zL.mp e.1 en (Array.mem_toList_iff.mpr hen);cases k:en.key with
  | str x t=>exact⟨x,t,rfl⟩
  | _=>rw[k] at z;cases z
 ·cases e
theorem Qy:∀{l:List (Option XU)},Es l=true->∃k0 k1 k2 k3 k5,l = [k0,k1,k2,k3,some (.builtin "ValueError.__new__"),k5]:=by
 intro l e;unfold Es at e;split at e
 ·exact⟨_,_,_,_,_,by rw[beq_iff_eq.mp e]⟩
 ·exact Bool.noConfusion e
theorem HC{K:uFg}{h:Heap}{C:XW}(X:K.In h)(e:JR K C=true) :
  ∃nm q N bs bm hdct sn sub ab col dd k0 k1 k2 k3 k5 mN,h.get? C=some (excClassObj nm q C N bs bm hdct sn sub ab col dd k0 k1 k2 k3 k5 "ValueError.__new__")/\h.Ns N mN/\mN "__init__" = none/\OwnTail h vE bm:=by
 unfold JR at e;split at e
 ·rename_i c d cd sl q;simp only[yR] at e;obtain⟨⟨⟨⟨e1,e2⟩,e3⟩,e4⟩,e5⟩:=e;have e1:=beq_iff_eq.mp e1;subst e1;obtain⟨mN,hn,hi⟩:=HD X e3;obtain⟨nm,bs,mro,N,qn,hdc,sn,sub,ab,col,hdl⟩:=cd;have e2:hdl=false:=beq_iff_eq.mp e2;subst e2;cases mro with
  | nil=>cases e5
  | cons v r =>
   dsimp only at e5;rw[yR] at e5;have e6:=beq_iff_eq.mp e5.1;subst e6;have e7:=e5.2;unfold Km at e7;split at e7
   ·rename_i M r;rw[yR] at e7;have e8:=beq_iff_eq.mp e7.1;subst e8;have e9:=e7.2;split at e9
    ·rename_i c2 d2 cd2 sl2 q2;obtain⟨mM,hM,hMi⟩:=HD X e9;obtain⟨sl⟩:=sl;obtain⟨k0,k1,k2,k3,k5,rfl⟩:=Qy (l:=sl) e4
     ·exact⟨nm,qn,N,bs,.ref M::vE,hdc,sn,sub,ab,col,d,k0,k1,k2,k3,k5,mN,X _ _ q,hn,hi,.own (X _ _ q2) hM hMi .base⟩
    ·cases e9
   ·cases e7
 ·cases e
def GI(E:St->XK)(C:XW)(te:TE):TS:=fun _ σ H=>te σ H fun _ H1=>E σ (.ref C) none H1
theorem OM(hx:Xp X E)(hcl:X.calm=true)(hex:X.ex = [])(xc:JR X.K C=true)(n:Nm X.env.scope x .globalImplicit)(hm:X.mg x=some (.ref C))(he:QE X e te)(hs:starEach [e] X.env = [(false,eval e X.env)]:=by rfl):QS X (.Raise (some (.Call (.Name x np) [e] [] cpos)) none pos) (GI E C te):=⟨by
 intro pins s σ H D I h;obtain⟨nm,q,N,bs,bm,hdct,sn,sub,ab,col,dd,k0,k1,k2,k3,k5,mN,hC,hn,hi,T⟩:=HC I.kIn xc;refine wpAny_Raise_call_subU (C:=C) (N:=N) (nm:=nm) (q:=q) (bs:=bs) (bm:=bm) (bmB:=vE) (hdct:=hdct) (sn:=sn) (sub:=sub) (ab:=ab) (col:=col) (dd:=dd) (k0:=k0) (k1:=k1) (k2:=k2) (k3:=k3) (k5:=k5) (mN:=mN)
  F.excBase_ValueError aA F.excBase_ValueError (T.hasType aA) (I.ok.hd hcl) (by rw[hs];rfl) hi (AO I n.1 hm ⟨rfl,?_⟩ n.2.1)
 rw[hs];refine Calls.evalArgs_plain (Calls.spliced_cons (thn (he.h pins s σ H _ I h) fun u s1 ⟨v,H1,I1,r1,q1⟩=>Calls.spliced_nil ?_));have K1:∀b o,X.base.get? b=some o->s1.heap.get? b=some o:=I1.bk;obtain⟨nm',q',N',bs',bm',hdct',sn',sub',ab',col',dd',k0',k1',k2',k3',k5',mN',hC',hn',hi',T'⟩:=HC I1.kIn xc;have lk:∃o,X.K.lookup C=some o:=by
  unfold JR at xc;split at xc
  ·rename_i z;exact⟨_,z⟩
  ·cases xc
 obtain⟨oC,hoC⟩:=lk;have z1:=(I.kIn _ _ hoC).symm.trans hC;have z2:=(I1.kIn _ _ hoC).symm.trans hC';have hC1:s1.heap.get? C=some (excClassObj nm q C N bs bm hdct sn sub ab col dd k0 k1 k2 k3 k5 "ValueError.__new__"):=by rw[hC',← z2,z1]
 have zz:=hC1.symm.trans hC';have eN:N=N':=by grind
 have ebm:bm=bm':=by grind
 subst eN ebm;refine⟨rfl,aB rfl,hC1,?_,T',fun h' a hx'=>?_⟩
 ·-- the namespace is the same object
  have lkN:∃o,X.K.lookup N=some o:=by
   unfold JR at xc;rw[hoC] at xc;obtain⟨c,d,dt,sl⟩:=oC;cases dt with
   | cls cd =>
    simp only[yR] at xc;have e3:=xc.1.1.2;have eN:cd.ns=N:=by grind
    rw[eN] at e3;unfold nsX at e3;split at e3
    ·rename_i z;exact⟨_,z⟩
    ·cases e3
   | _=>cases xc
  obtain⟨oN,hoN⟩:=lkN;obtain⟨o1,es1,ep1,ho1,r1⟩:=hn;have:=(I.kIn _ _ hoN).symm.trans ho1;cases this;exact⟨_,es1,ep1,I1.kIn _ _ hoN,r1⟩
 ·obtain⟨t,e1,e2,e3⟩:=hx'.there;have I2:ZD X pins σ H1 {s1 with heap:=h' }:=I1.kept (t':=s1.toks) hx'.keeps;have fr:∀b,s1.heap.get? b=none->H1 b=none:=fun b z=>by
   cases q:H1 b with
   | none=>rfl
   | some u=>obtain⟨o,e⟩:=(I1.hok b u q).ex;rw[z] at e;cases e
  refine hx.h pins σ H1 {s1 with heap:=h' } a C I2 ⟨fr a hx'.new,?_,_,_,_,e1,rfl,rfl,rfl,.inl rfl⟩ q1;cases q:X.s₀.heap.get? a with
  | none=>rfl
  | some o =>
   obtain⟨o',e'⟩:=I1.base.there a o q (by rw[hex];simp)
   rw[hx'.new] at e';cases e'⟩
abbrev TJ:=St->Hp->(Hp->Prop)->Prop
def PJ(X:Cx)(es:List Expr)(t:TJ):Prop:=∀(pins:List (XW×Obj))(s:XT)(σ:St)(H:Hp)(Q:Hp->Prop)(acc:Str),ZD X pins σ H s->acc.length+es.length * 1000000<=sizeLine->t σ H Q ->
 Joins (model X.prog X.w) X.A X.xe (evalEach es X.env) acc (fun out s₁=>out.length<=sizeLine/\∃H',ZD X pins σ H' s₁/\Q H') s
structure QJ (X:Cx) (es:List Expr) (t:TJ):Prop where
 h:PJ X es t
def RW(n:Nat)(t:TJ):TJ:=fun σ H Q=>n<=1000000/\t σ H Q
def Nu(te:TE)(t:TJ):TJ:=fun σ H Q=>te σ H fun v H1=>((∃x,v = .str x/\x.length<=1000000)\/(∃i,v = .int i/\i.natAbs.log2 < 1920))/\t σ H1 Q
def PM(te:TE)(t:TJ):TJ:=fun σ H Q=>te σ H fun v H1=>(∃x,v = .str x/\x.length<=10000/\∀c∈x.cps.toList,c < 16 ^ 8)/\t σ H1 Q
def Ov:TJ:=fun _ H Q=>Q H
def Ls(t:TJ):TE:=fun σ H Q=>t σ H fun H1=>∀x:Str,Q (.str x) H1
theorem Wg:QJ X [] Ov:=⟨fun pins s σ H Q acc I hl h=>⟨by simpa using hl,H,I,h⟩⟩
theorem Af(a b:Str):(a++b).length=a.length+b.length:=strLen_append a b
theorem Yq(h:QJ X es t)(he:evalEach (.Constant (.str x) j pos::es) X.env=eval (.Constant (.str x) j pos) X.env::evalEach es X.env:=by rfl):QJ X (.Constant (.str x) j pos::es) (RW x.length t):=⟨by
 intro pins s σ H Q acc I hl hq;obtain⟨hx,hq⟩:=hq;rw[yE] at hl;rw[he];refine Calls.Constant_str ⟨x,_,rfl,?_,h.h pins _ σ H Q (acc++x) (I.tok _) ?_ hq⟩
 ·rw[Af];lia
 ·rw[Af];lia⟩
theorem Y0(h1:QE X e te)(h:QJ X es t)(he:evalEach (.FormattedValue e (-1) none pos::es) X.env=eval (.FormattedValue e (-1) none pos) X.env::evalEach es X.env:=by rfl):QJ X (.FormattedValue e (-1) none pos::es) (Nu te t):=⟨by
 intro pins s σ H Q acc I hl hq;rw[yE] at hl;rw[he];refine wpAny_FormattedValue_plain (thn (h1.h pins s σ H _ I hq) fun u s1 ⟨v,H1,I1,rv,hv,q⟩=>?_);rcases hv with⟨x,rfl,hx⟩ | ⟨i,rfl,hi⟩
 ·obtain⟨tk,rfl⟩:=rv;refine formatField_str (fun t' tk'=>⟨x,t',rfl,?_,h.h pins _ σ H1 Q (acc++x) (I1.tok _) ?_ q⟩) (by rw[sizeLine_eq];lia)
  ·rw[Af];lia
  ·rw[Af];lia
 ·obtain⟨tk,rfl⟩:=rv;have hn:(Str.ofString (toString i)).length<=1921:=by rw[PySem.ofString_length];exact int_text_length_le aA hi
  refine wpAny_formatField_int hi ⟨_,_,rfl,?_,h.h pins _ σ H1 Q _ (I1.tok _) ?_ q⟩
  ·rw[Af];lia
  ·rw[Af];lia⟩
theorem Qq(h1:QE X e te)(h:QJ X es t)(he:evalEach (.FormattedValue e 114 none pos::es) X.env=eval (.FormattedValue e 114 none pos) X.env::evalEach es X.env:=by rfl):QJ X (.FormattedValue e 114 none pos::es) (PM te t):=⟨by
 intro pins s σ H Q acc I hl hq;rw[yE] at hl;rw[he];refine wpAny_FormattedValue_repr (thn (h1.h pins s σ H _ I hq) fun u s1 ⟨v,H1,I1,rv,hv,q⟩=>?_);obtain⟨x,rfl,hx,hc⟩:=hv;obtain⟨tk,rfl⟩:=rv;have hn:=StrLaws.reprText_len x hc;have hz:(reprText x).length<=sizeLine:=by rw[sizeLine_eq];lia
 refine wpAny_pyReprObj_gives (x:=reprText x) (typeIs_str _ _ _) F.slot_str_repr F.entry_str_repr (F.args_str_repr_1 _) (gives_str_repr x tk) ?_ rfl hz;refine formatField_str (fun t' tk'=>⟨_,t',rfl,?_,h.h pins _ σ H1 Q _ ((I1.tok _).tok _) ?_ q⟩) hz
 ·rw[Af];lia
 ·rw[Af];lia⟩
theorem HB(hQ:∀o s,Q o s->Q' o s):∀{l:List (Sem XU)}{acc:Str}{s:XT},Joins M A E l acc Q s->Joins M A E l acc Q' s
 | [],_,_,h=>hQ _ _ h
 | _::_,_,_,h=>wpAny_mono h (fun _ _ ⟨y,t,a,b,c⟩=>⟨y,t,a,b,HB hQ c⟩) fun _ _ z=>z
theorem Wh(h:QJ X (e1::e2::es) t)(hn:es.length<=8:=by decide):QE X (.JoinedStr (e1::e2::es) pos) (Ls t):=⟨by
 intro pins s σ H Q I hq;have hs:(Str.empty).length+(e1::e2::es).length * 1000000<=sizeLine:=by
  have:Str.empty.length=0:=rfl;rw[this,yE,yE,sizeLine_eq];lia
 refine wpAny_JoinedStr ?_;have key:=h.h pins s σ H _ Str.empty I hs hq
 refine HB (fun out s1 ⟨h1,H1,I1,q⟩=>⟨h1,.str out,H1,I1.tok _,⟨_,rfl⟩,q out⟩) key⟩
end L2
namespace L2
open PySem PySem.Spec PyProof.Rows PySem.W PySem.Calls PySem.Builtin PySem.Builtin.ObjectAttr PySem.Builtin.Getset_descriptor
def EW(K:Frag)(C:XW):Bool:=(clsIn K C).isSome && (findIn K (.ref C) "__getattribute__" == some (some (.builtin "BaseException.__getattribute__"))) && (findIn K (.ref C) "__getattr__" == some none) && (findIn K (.ref C) "__class__" == some (some (.builtin "object.__class__"))) &&
 (mroIn K C (.type "object")== some true) && (mroIn K C (.type "BaseException")== some true)
section
variable{prog:XX}{w:XY}{A:XZ}{E:XM}{h:Heap}{g:Array GenState}{d:Drawn}{t:Nat}{os:OsState}{a C:XW}{o:Obj}{K:Frag}
end
section
variable{K:Frag}{a C:XW}{o:Obj}
end
end L2
namespace L2
open PySem PySem.Spec PyProof.Rows
abbrev Cx.hnd(X:Cx)(a:XW)(o:Obj):Cx:={X with A:=X.A.mark (some (.ref a)),calm:=false,pn:=[(a,o)],xe:=fun _ _=>False }
section
variable{X:Cx}{σ:St}{H:Hp}{s:XT}{a C:XW}{o:Obj}
theorem ZD.hnd(I:ZD X [] σ H s)(ho:s.heap.get? a=some o)(hH:H a=none)(hd:∃vs,o.data = .fields vs):ZD (X.hnd a o) [] σ H s:=by
 obtain⟨vs,hd⟩:=hd;obtain⟨m,⟨oL,esL,epL,hoL,hdL,rL⟩,_⟩:=id I.loc;refine⟨⟨I.ok.mod,I.ok.kind,I.ok.glob,I.ok.blt,I.ok.above,I.ok.inj,I.ok.has,I.ok.cab,fun z=>Bool.noConfusion z,I.ok.frames,I.ok.stk,I.ok.exf,I.ok.bs,I.ok.bsz,I.ok.noex,I.ok.exfs,I.ok.funs,I.ok.frf⟩,I.os,I.bare,I.base,I.loc,I.cell,I.free,I.freeC,fun p hp=>?_,I.hok,I.len⟩;have e:p=(a,o):=by simpa using hp
 subst e;refine⟨ho,hH,fun z=>?_,fun z=>?_,fun v z=>?_⟩
 ·grind
 ·obtain⟨_,o',e',d⟩:=I.funs.mem (show a∈X.outer.filterMap (·.frame) from z);rw[ho] at e';cases e';exact d vs hd
 ·have z:o.data = .cell v:=z;rw[hd] at z;cases z
theorem ZD.unhnd(I:ZD (X.hnd a o) [] σ H s)(ok:X.Ok)(hpn:X.pn = []):ZD X [] σ H s :=
 ⟨ok,I.os,I.bare,I.base,I.loc,I.cell,I.free,I.freeC,(fun p hp=>by rw[hpn] at hp;cases hp),I.hok,I.len⟩
theorem Sj{M:Model}{A:XZ}{E:XM}{Q:Unit->XT->Prop}(I:ZD X [] σ H s)(hpn:X.pn = [])(hex:X.ex = [])(stk:X.stack=X.env::X.outer)(x:Ti X.s₀.heap H s.heap a C)(k:∀h',ZD X [] σ H {s with heap:=h' }->Ti X.s₀.heap H h' a C->Q () {s with heap:=h' }):wpAny M A (setFlight (.ref a) none) Q E s:=by
 obtain⟨ha,h0a,oe,vs,a0,he,hc,hd,v0,tr⟩:=id x;rcases tr with v1 | tr
 ·unfold setFlight;refine wpAny_bind (wpAny_field he hd v1 ?_);rw[if_neg aA];exact wpAny_pure (k s.heap I x)
 ·exact En I hpn ⟨ha,h0a,oe,vs,a0,he,hc,hd,v0,tr⟩ fun h' I' x'=>k h' I' x'.at_
end
def JF(K:uFg)(C D:XW):Option Bool:=if ((PySem.W.clsIn K D).isSome && (PySem.W.typeIn K (.ref D)== some (.type "type")) && (PySem.W.subIn K (.ref D) (.type "BaseException")== some true))=true then PySem.W.subIn K (.ref C) (.ref D) else none
theorem Sx{M:Model}{A:XZ}{E:XM}{s:XT}{K:uFg}{a C D:XW}{oe:Obj}{b:Bool}{Q:Bool->XT->Prop}(X:K.In s.heap)(he:s.heap.get? a=some oe)(hc:oe.cls = .ref C)(e:JF K C D=some b)(q:Q b s):wpAny M A (excMatches (.ref a) (.ref D)) Q E s:=by
 unfold JF at e;split at e
 ·rename_i z;simp only[yR] at z;obtain⟨⟨z0,z1⟩,z2⟩:=z;have L0:=PySem.W.looks_typeIn (M:=M) X (beq_iff_eq.mp z1);have L1:=PySem.W.looks_subIn (M:=M) X (beq_iff_eq.mp z2);have L2:=PySem.W.looks_subIn (M:=M) X e;have LI:PySem.W.Looks M s.heap (isInstance (.ref D) (.type "tuple")) false:=L0.andThen (PySem.W.Looks.of_pure tc_notTuple);obtain⟨cdD,hcD⟩:=Option.isSome_iff_exists.mp z0;have LT:PySem.W.Looks M s.heap (isType (.ref D)) true:=by
   unfold PySem.W.clsIn at hcD;split at hcD
   ·rename_i c' d' cd' sl' ho;intro A' Q' E' s' k q;unfold isType loadHead;exact wpAny_bind (wpAny_loadPart (k _ _ (X _ _ ho)) (wpAny_pure q))
   ·cases hcD
  have LE:PySem.W.Looks M s.heap (isExcClass (.ref D)) true:=LT.andThen L1;have Lt:PySem.W.Looks M s.heap (typeOf (.ref a)) (.ref C):=hc▸(PySem.W.Looks.ld he).andThen .now;obtain⟨h0,g,d,t,os⟩:=s;unfold excMatches;refine wpAny_bind (LI.at ?_);simp only[zN,if_false];refine wpAny_bind (wpAny_pure ?_);simp only[List.forIn_cons,List.forIn_nil];refine wpAny_bind (wpAny_bind (wpAny_bind (LE.at ?_)));simp only[Bool.not_true,zN,if_false];refine wpAny_pure (wpAny_pure ?_);refine wpAny_bind (Lt.at (wpAny_bind (wpAny_bind (wpAny_bind (L2.at ?_)))));cases b with
  | true=>simp only[if_true];exact wpAny_pure (wpAny_pure (wpAny_pure q))
  | false=>simp only[zN,if_false];exact wpAny_pure (wpAny_pure (wpAny_pure q))
 ·cases e
def PH(X:Cx)(hs:List ExceptHandler)(t:XW->TS):Prop:=∀(a C:XW)(s:XT)(σ:St)(H:Hp)(D:YE),ZD X [] σ H s->Ti X.s₀.heap H s.heap a C->t C D σ H->wpAny (model X.prog X.w) X.A (handleBy (.ref a) X.env hs) (SP X [] D) X.xe s
structure QH (X:Cx) (hs:List ExceptHandler) (t:XW->TS):Prop where
 h:PH X hs t
def Rb:XW->TS:=fun _ _ _ _=>False
def PY(K:uFg)(Dc:XW)(ts:TS)(tr:XW->TS):XW->TS:=fun C D σ H=>∃b,JF K C Dc=some b/\if b=true then ts D σ H else tr C D σ H
structure Pl (X:Cx):Prop where
 pn:X.pn = []
 ex:X.ex = []
 stk:X.stack=X.env::X.outer
 fr:X.env.frame=some X.env.locals
section
variable{X:Cx}{x n:Str}{np pos:Pos}{b₀:Stmt}{suite:List Stmt}{rest:List ExceptHandler}{Dc:XW}{tr:XW->TS}
theorem Ez:QH X [] Rb:=⟨fun _ _ _ _ _ _ _ _ h=>h.elim⟩
theorem Oc{a:XW}{o:Obj}{D:YE}{f:Flow}{s:XT}(ok:X.Ok)(hpn:X.pn = [])(h:SP (X.hnd a o) [] D f s):SP X [] D f s:=by
 cases f with
 | next=>obtain⟨σ,H,I,q⟩:=h;exact⟨σ,H,I.unhnd ok hpn,q⟩
 | brk=>obtain⟨σ,H,I,q⟩:=h;exact⟨σ,H,I.unhnd ok hpn,q⟩
 | cont=>obtain⟨σ,H,I,q⟩:=h;exact⟨σ,H,I.unhnd ok hpn,q⟩
 | ret u=>obtain⟨v,σ,H,I,r,q⟩:=h;exact⟨v,σ,H,I.unhnd ok hpn,r,q⟩
theorem CI{ts:TS}(p:Pl X)(hm:X.mg x=some (.ref Dc))(hb:∀a o,WR (X.hnd a o) (b₀::suite) ts)(hr:QH X rest tr)(nm:nB X x .globalImplicit:=by kernel_rfl) :
  QH X (.ExceptHandler (some (.Name x np)) none (b₀::suite) pos::rest) (PY X.K Dc ts tr):=⟨by
 have nm:=od nm;intro a C s σ H D I xa h;obtain⟨b,eb,h⟩:=h;obtain⟨ha,h0a,oe,vs,a0,he,hc,hd,v0,_⟩:=id xa;have J:=I.hnd he ha ⟨vs,hd⟩;refine wpAny_handleBy_cons (codeAny_handlers_test (AO (X:=X.hnd a oe) J nm.1 hm ?_ nm.2.1)) (by intro q;cases q);refine Sx J.kIn he hc eb ?_;cases b with
 | false=>exact hr.h a C s σ H D I xa h
 | true =>
  refine codeAny_handlers_suite (Sj I p.pn p.ex p.stk xa fun h' I' xa'=>?_);obtain⟨ha',_,oe',vs',_,he',_,hd',_⟩:=xa'
  refine wpAny_mono ((hb a oe').h [] _ σ H D (I'.hnd he' ha' ⟨vs',hd'⟩) h) (fun f s2 q=>Oc I.ok p.pn q) fun _ _ z=>z.elim⟩
end
def RY(X:Cx)(st:Stmt)(t:TS):Prop:=∀(s:XT)(σ:St)(H:Hp)(D:YE),ZD X [] σ H s->t D σ H->wpAny (model X.prog X.w) X.A (exec st X.env) (SP X [] D) X.xe s
def Nj(X:Cx)(st:List Stmt)(t:TS):Prop:=∀(s:XT)(σ:St)(H:Hp)(D:YE),ZD X [] σ H s->t D σ H->wpAny (model X.prog X.w) X.A (execs st X.env) (SP X [] D) X.xe s
structure Ea (X:Cx) (st:Stmt) (t:TS):Prop where
 h:RY X st t
structure Tp (X:Cx) (st:List Stmt) (t:TS):Prop where
 h:Nj X st t
def RQ(tb:(St->XK)->TS)(th:XW->TS):TS:=fun D σ H=>tb (fun σ' c _ H'=>∃C,c = .ref C/\th C D σ' H') D σ H
section
variable{X:Cx}{st:Stmt}{rest:List Stmt}{t u:TS}
theorem QS.q0(h:QS X st t):Ea X st t:=⟨fun s σ H D I q=>h.h [] s σ H D I q⟩
theorem WR.q0(h:WR X rest t):Tp X rest t:=⟨fun s σ H D I q=>h.h [] s σ H D I q⟩
theorem TM(h1:Ea X st t)(h2:Tp X rest u):Tp X (st::rest) (Ue t u):=⟨by
 intro s σ H D I h;rw[execs];refine wpAny_bind (thn (h1.h s σ H _ I h) fun f s1 q=>?_);cases f with
 | next =>
  obtain⟨σ1,H1,I1,q⟩:=q;exact h2.h s1 σ1 H1 D I1 q
 | brk=>exact wpAny_pure q
 | cont=>exact wpAny_pure q
 | ret u=>exact wpAny_pure q⟩
theorem EC(p:Pl X)(hb:∀E' EH,Xq (X.wish E') EH->WR (X.wish E') body (tb EH))(hh:QH X (h₀::hs) th):Ea X (.Try body (h₀::hs) [] [] pos) (RQ tb th):=⟨by
 intro s σ H D I h;refine wpAny_Try_except ?_;have wish:∀{E'} {σ:St}{H:Hp}{s:XT},ZD X [] σ H s->ZD (X.wish E') [] σ H s:=fun I=>⟨⟨I.ok.mod,I.ok.kind,I.ok.glob,I.ok.blt,I.ok.above,I.ok.inj,I.ok.has,I.ok.cab,I.ok.hd,I.ok.frames,I.ok.stk,I.ok.exf,I.ok.bs,I.ok.bsz,I.ok.noex,I.ok.exfs,I.ok.funs,I.ok.frf⟩,I.os,I.bare,I.base,I.loc,I.cell,I.free,I.freeC,I.pin,I.hok,I.len⟩;have unw:∀{E'} {σ:St}{H:Hp}{s:XT}{pins:List (XW×Obj)},ZD (X.wish E') pins σ H s->ZD X pins σ H s:=fun I=>⟨⟨I.ok.mod,I.ok.kind,I.ok.glob,I.ok.blt,I.ok.above,I.ok.inj,I.ok.has,I.ok.cab,I.ok.hd,I.ok.frames,I.ok.stk,I.ok.exf,I.ok.bs,I.ok.bsz,I.ok.noex,I.ok.exfs,I.ok.funs,I.ok.frf⟩,I.os,I.bare,I.base,I.loc,I.cell,I.free,I.freeC,I.pin,I.hok,I.len⟩;have hx:Xq (X.wish fun e s₁=>wpAny (model X.prog X.w) X.A (noteFrame e X.env) (fun _ s₂=>wpAny (model X.prog X.w) X.A (setFlight e none) (fun _ s₃=>wpAny (model X.prog X.w) X.A (handleBy e X.env (h₀::hs)) (SP X [] D) X.xe s₃) X.xe s₂) X.xe s₁)
   fun σ' c _ H'=>∃C,c = .ref C/\th C D σ' H':=⟨.inr ⟨p.ex,⟨fun pins σ1 H1 s1 a C I1 x q=>by
  obtain⟨C',eC,q⟩:=q;cases eC;have I2:=(unw I1).pins_of (pins':=[]) (fun p hp=>nomatch hp)
  exact Ke I2 p.pn p.ex p.stk p.fr x fun h' J y=>hh.h a C _ σ1 H1 D J y q⟩⟩⟩
 refine wpAny_mono ((hb _ _ hx).h [] s σ H D (wish I) h) (fun f s1 q=>?_) fun _ _ z=>z;have q':SP X [] D f s1:=by
  cases f with
  | next=>obtain⟨σ,H,I,q⟩:=q;exact⟨σ,H,unw I,q⟩
  | brk=>obtain⟨σ,H,I,q⟩:=q;exact⟨σ,H,unw I,q⟩
  | cont=>obtain⟨σ,H,I,q⟩:=q;exact⟨σ,H,unw I,q⟩
  | ret u=>obtain⟨v,σ,H,I,r,q⟩:=q;exact⟨v,σ,H,unw I,r,q⟩
 cases f with
 | next=>exact wpAny_pure q'
 | brk=>exact q'
 | cont=>exact q'
 | ret u=>exact q'⟩
end
section
variable{P:XX}{w:XY}{K:uFg}{mg:XN}{base:Heap}
theorem UN.ok0{x qual:Str}{st:Stmt}{f:XW}{fd:FuncData}{N ps:XO}{k:Nat}{sp:Sp}(F:UN K x qual st f fd)(S:ZL N ps (Zm st))(len:∀vs H Q E,sp vs H Q E->vs.length=ps.length)(hbody:∀ (cdv:XU) (A:XZ) (outer:List Env) (s:XT) (H:Hp) (vs:aG) (Q:VK) (E:XK),ZM k (A.deeper (envOfC qual (Zm st) s.heap.objs.size f cdv))->sp vs H Q E -> ∃t,Tp (Y3 WU P w K mg base N qual (Zm st) f cdv A outer s H E).nox (Yn st) t/\t {nx:=fun _ H'=>Q .non H',rt:=Q } (start N vs) H):YF P w K mg base WU (k+1) f fd ps sp:=by
 obtain⟨oc,od,kV,doc,pm,an,cdv,ct,osl,rfl,lk,hcd⟩:=F.ex;refine⟨len,fun A outer s H args us vs Q E hr e0 hb r hsp=>?_⟩;have hl:=len _ _ _ _ hsp;have KX:K.In s.heap:=e0.mod.kin.keeps fun b o e=>(e0.bs b o e).1;have lim:s.heap.NoLimit:=e0.mod.nolimit.keeps fun b o e=>(e0.bs b o e).1;have hkind:∀y∈ps.zip us,(Zm st).names.lookup y.1=some .local\/((Zm st).names.lookup y.1=some .cell/\((cellsFrom (s.heap.objs.size+1) (Zm st).names []).lookup y.1).isSome=true):=fun⟨n,v⟩ hy=>by
  rcases S.par n (yY hy).1 with q | q
  ·exact .inl q
  ·exact .inr ⟨q,PySem.W.cellsFrom_some _ _ _ (.inl q)⟩
 refine codeAny_call_function hr.depth (KX _ _ lk) rfl S.co S.gen rfl (PySem.W.codeRec_of KX hcd) (hb _ _ _ _ ?_);refine wpAny_newFunctionEnv_cells S.kind hkind fun env he s1 x=>?_;subst he;refine⟨lim.keeps x.toInCall.keep,codeAny_func ?_⟩;obtain⟨t,ht,hq⟩:=hbody cdv A outer s H vs Q E (hr.deeper _) hsp;have I0:ZD (Y3 WU P w K mg base N qual (Zm st) f cdv A outer s H E) [] (start N vs) H s1:=Kn S hr.hd e0 hl r x;have I:ZD (Y3 WU P w K mg base N qual (Zm st) f cdv A outer s H E).nox [] (start N vs) H s1:=⟨⟨I0.ok.mod,I0.ok.kind,I0.ok.glob,I0.ok.blt,I0.ok.above,I0.ok.inj,I0.ok.has,I0.ok.cab,I0.ok.hd,I0.ok.frames,I0.ok.stk,I0.ok.exf,I0.ok.bs,I0.ok.bsz,I0.ok.noex,I0.ok.exfs,I0.ok.funs,I0.ok.frf⟩,I0.os,I0.bare,I0.base,I0.loc,I0.cell,I0.free,I0.freeC,I0.pin,I0.hok,I0.len⟩;refine wpAny_mono (ht.h s1 (start N vs) H _ I hq) (fun fl s' hs=>?_) fun e s' hs=>hs.elim;have fin:∀{σ':St}{H':Hp}{v:V}{u:XU},ZD (Y3 WU P w K mg base N qual (Zm st) f cdv A outer s H E).nox [] σ' H' s'->ZG v u->Q v H'->CE outer P w H s Q u s' :=
  fun {σ' H' v u} J rv q=>⟨v,H',J.os,J.bare,J.base,J.hok,rv,q⟩
 cases fl with
 | ret u =>
  obtain⟨v,σ',H',J,rv,q⟩:=hs;exact fin J rv q
 | next =>
  obtain⟨σ',H',J,q⟩:=hs;exact fin (v:=V.non) (u:=Value.none) J rfl q
 | brk=>obtain⟨_,_,_,z⟩:=hs;exact z.elim
 | cont=>obtain⟨_,_,_,z⟩:=hs;exact z.elim
theorem YB.fn0{x:Str}{st:Stmt}{N ps:XO}{k:Nat}{sp:Sp}(h:YB K mg x st)(S:ZL N ps (Zm st))(hb:∀ (kV doc pm:XU) (an:Option XW) (cdv ct:XU) (us:XQ),us.length=ps.length->bindArgs (PySem.W.fnOf x x (Wy st) (Yn st) (Zm st) .none kV doc pm an cdv ct) ⟨us,[]⟩=pure (ps.zip us))(len:∀vs H Q E,sp vs H Q E->vs.length=ps.length)(hbody:∀ (f:XW) (cdv:XU) (A:XZ) (outer:List Env) (s:XT) (H:Hp) (vs:aG) (Q:VK) (E:XK),ZM k (A.deeper (envOfC x (Zm st) s.heap.objs.size f cdv))->sp vs H Q E -> ∃t,Tp (Y3 WU P w K mg base N x (Zm st) f cdv A outer s H E).nox (Yn st) t/\t {nx:=fun _ H'=>Q .non H',rt:=Q } (start N vs) H):Fn P w K mg base x ps (k+1) sp:=by
 obtain⟨f,fd,F,hm⟩:=h;exact⟨f,fd,hm,F.kp,F.binds hb,F.ok0 S len (hbody f)⟩
theorem YB.f0{x:Str}{st:Stmt}{ps:XO}{k:Nat}{sp:Sp}(h:YB K mg x st)(N:XO)(hbody:∀{f:XW}{cdv:XU}{A:XZ}{outer:List Env}{s:XT}(H:Hp) (vs:aG) (Q:VK) (E:XK),ZM k (A.deeper (envOfC x (Zm st) s.heap.objs.size f cdv))->sp vs H Q E->vs.length=ps.length/\∃t,Tp (Y3 WU P w K mg base N x (Zm st) f cdv A outer s H E).nox (Yn st) t/\t {nx:=fun _ H'=>Q .non H',rt:=Q } (start N vs) H)(S:ZL N ps (Zm st):=by exact fsc)(hk:k<=60:=by decide)(hb:∀ (kV doc pm:XU) (an:Option XW) (cdv ct:XU) (us:XQ),us.length=ps.length->bindArgs (PySem.W.fnOf x x (Wy st) (Yn st) (Zm st) .none kV doc pm an cdv ct) ⟨us,[]⟩=pure (ps.zip us):=by exact fun _ _ _ _ _ _=>by first | exact al1 fun _=>rfl | exact al2 fun _ _=>rfl | exact al3 fun _ _ _=>rfl | exact al4 fun _ _ _ _=>rfl | exact al5 fun _ _ _ _ _=>rfl | exact al6 fun _ _ _ _ _ _=>rfl | exact al7 fun _ _ _ _ _ _ _=>rfl | exact al8 fun _ _ _ _ _ _ _ _=>rfl):Fn P w K mg base x ps (k+1) sp :=
 h.fn0 S hb (fun vs H Q E h=>(hbody (f:=0) (cdv:=.none) (A:={}) (outer:=[]) (s:={}) H vs Q E (BP hk) h).1) fun _ _ _ _ _ H vs Q E hr q=>(hbody H vs Q E hr q).2
end
theorem A5{CX:UT}{P:XX}{w:XY}{K:uFg}{mg:XN}{base:Heap}{N:XO}{qual:Str}{scope:Scope}{f:XW}{cd:XU}{A:XZ}{outer:List Env}{s:XT}{H:Hp}{E:XK} :
  Pl (Y3 CX P w K mg base N qual scope f cd A outer s H E).nox:=⟨rfl,rfl,rfl,rfl⟩
structure Er (K:uFg) (mg:XN) (c:XR) (errs:XO):Prop where
 g:∀x,x∈errs->mg x=some (.ref (c x))
 x:∀x,x∈errs->JR K (c x)=true
 k:∀x,x∈errs->EW K (c x)=true
 m:mg "MootError" = some (.ref (c "MootError"))
 e:∀x,x∈errs->JF K (c x) (c "MootError")=some true
 s:∀x,x∈errs->∀y,y∈errs->JF K (c x) (c y)=some (decide (x=y))
 i:∀x,x∈errs->∀y,y∈errs->PySem.W.kitOne K (.ref (c x)) (.ref (c y))=some (decide (x=y))
 v:∀x,x∈errs->PySem.W.kitOne K (.ref (c x)) (.type "ValueError")=some true
theorem Wd{X:Cx}{E:St->XK}{x:Str}{np cpos pos:Pos}{e:Expr}{te:TE}{c:XR}{es:XO}(hx:Xp X E)(er:Er X.K X.mg c es)(he:QE X e te)(hm:decide (x∈es)=true:=by kernel_rfl)(n:nB X x .globalImplicit:=by kernel_rfl)(hcl:X.calm=true:=by rfl)(hex:X.ex = []:=by rfl)(hs:starEach [e] X.env = [(false,eval e X.env)]:=by rfl):QS X (.Raise (some (.Call (.Name x np) [e] [] cpos)) none pos) (GI E (c x) te):=OM hx hcl hex (er.x x (od hm)) (od n) (er.g x (od hm)) he hs
abbrev lxE(X:Cx)(E:St->XK):XU->XT->Prop:=fun(e:XU) (s':XT)=>∃ σ H a C,e = .ref a/\ZD X [] σ H s'/\Ti X.s₀.heap H s'.heap a C/\E σ (.ref C) none H
abbrev Cx.lx(X:Cx)(E:St->XK):Cx:=X.wish (lxE X E)
theorem OV{X:Cx}{st:Stmt}{t:TS}{E:St->XK}(p:Pl X)(hx:Xp X E)(h:Xq (X.lx E) E->Xp (X.lx E) E->PassesOwn (model X.prog X.w) X.A X.env (lxE X E)->QS (X.lx E) st t):QS X st t:=⟨by
 intro pins s σ H D I q;have wish:∀{E'} {σ:St}{H:Hp}{s:XT}{pins:List (XW×Obj)},ZD X pins σ H s->ZD (X.wish E') pins σ H s:=fun I=>⟨⟨I.ok.mod,I.ok.kind,I.ok.glob,I.ok.blt,I.ok.above,I.ok.inj,I.ok.has,I.ok.cab,I.ok.hd,I.ok.frames,I.ok.stk,I.ok.exf,I.ok.bs,I.ok.bsz,I.ok.noex,I.ok.exfs,I.ok.funs,I.ok.frf⟩,I.os,I.bare,I.base,I.loc,I.cell,I.free,I.freeC,I.pin,I.hok,I.len⟩;have unw:∀{E'} {σ:St}{H:Hp}{s:XT}{pins:List (XW×Obj)},ZD (X.wish E') pins σ H s->ZD X pins σ H s:=fun I=>⟨⟨I.ok.mod,I.ok.kind,I.ok.glob,I.ok.blt,I.ok.above,I.ok.inj,I.ok.has,I.ok.cab,I.ok.hd,I.ok.frames,I.ok.stk,I.ok.exf,I.ok.bs,I.ok.bsz,I.ok.noex,I.ok.exfs,I.ok.funs,I.ok.frf⟩,I.os,I.bare,I.base,I.loc,I.cell,I.free,I.freeC,I.pin,I.hok,I.len⟩;have hp:PassesOwn (model X.prog X.w) X.A X.env (lxE X E):=by
  rintro e s' ⟨σ1,H1,a,C,rfl,I1,x1,q1⟩;refine FP I1 p.pn p.ex p.stk p.fr x1 fun h2 I2 x2 _=>?_;obtain⟨ha,h0a,oe,vs,a0,he,hc,hd,v0,T,oT,ts,v3,v1,tr⟩:=id x2;show wpAny _ _ (field (.ref a) 1 >>= _) _ _ _;refine wpAny_bind (wpAny_field he hd v1 ?_);rw[if_neg (show ¬((Value.ref T == Value.none)=true) from by simp)];exact En (s:={s' with heap:=h2 }) I2 p.pn x2 fun h3 I3 x3=>⟨σ1,H1,a,C,rfl,I3,x3.at_,q1⟩
 have hx':Xp (X.lx E) E:=⟨fun pins σ1 H1 s1 a C I1 x1 q1=>by exact⟨σ1,H1,a,C,rfl,(unw I1).pins_of (fun p hp=>nomatch hp),x1,q1⟩⟩;refine wpAny_mono ((h ⟨.inr ⟨p.ex,hx'⟩⟩ hx' hp).h pins s σ H D (wish I) q) (fun f s1 q=>?_) fun e s1 z=>?_
 ·cases f with
  | next=>obtain⟨σ,H,I,q⟩:=q;exact⟨σ,H,unw I,q⟩
  | brk=>obtain⟨σ,H,I,q⟩:=q;exact⟨σ,H,unw I,q⟩
  | cont=>obtain⟨σ,H,I,q⟩:=q;exact⟨σ,H,unw I,q⟩
  | ret u=>obtain⟨v,σ,H,I,r,q⟩:=q;exact⟨v,σ,H,unw I,r,q⟩
 ·obtain⟨σ1,H1,a,C,rfl,I1,x1,q1⟩:=z
  exact hx.h [] σ1 H1 s1 a C I1 x1 q1⟩
theorem Dj(p:Pl X)(hx:Xp X E)(hc:X.calm=true)(hi:QI (X.lx E) tg iter wi)(hg:QG (X.lx E) tg g)(hb:Xq (X.lx E) E->Xp (X.lx E) E->WR (X.lx E) body t)(hs:∀x,foldedSetIterable iter X.env x=pure x:=by intro _;rfl):QS X (.For tg iter body [] pos) (Hm wi g t):=OV p hx fun hq hp po=>Wq (X:=X.lx E) po hc hi hg (hb hq hp) hs
inductive B7(xs:aG)(H:Hp)(Q:VK):Prop
 |mk(b)(_:xs = [.bl b])(_:Q (.int (if b then 1 else 0)) H)
theorem KF:QC X (.type "int") B7:=⟨by
 intro pins s σ H xs us Q I r h;obtain⟨b,rfl,q⟩:=h;cases r with
 | cons r1 r =>
  cases r;obtain rfl:=r1
  exact call_int_bool ⟨.int (if b then 1 else 0),H,I.tok _,⟨_,rfl⟩,q⟩⟩
section
variable{P:XX}{w:XY}{A:XZ}{E:XM}{s:XT}
end
section
variable{X:Cx}{pins:List (XW×Obj)}{σ:St}{H:Hp}{s:XT}
theorem ZD.freeze{d:XW}{o:Obj}{kvs:List (ZU×V)}(I:ZD X pins σ H s)(e:H d=some (.dK kvs))(ho:s.heap.get? d=some o):ZD X pins σ (upd H d (.frz o (.dK kvs))) s:=by
 have h:=I.write (h':=s.heap) (t':=s.toks) (x:=d) (e:=d) (o:=.frz o (.dK kvs)) (by rw[e];exact True.intro) (.inl rfl) (fun _ _ _ q=>q) ⟨o,ho⟩ ⟨ho,?_⟩
 ·exact h
 ·obtain⟨z,y,vs,r,q⟩:=(show ZO X.prog X.w H s.heap d (.dK kvs) from I.hok d _ e);exact⟨z,y,vs,r,q⟩
theorem ZD.nofrz{d:XW}{kvs:List (ZU×V)}(I:ZD X pins σ H s)(e:H d=some (.dK kvs)):∀o u,X.H₀ d≠some (.frz o u):=fun o u z=>by
 have:=I.base.frzs d o u z;rw[e] at this;cases this
theorem ZD.thaw{d:XW}{o:Obj}{kvs:List (ZU×V)}(I:ZD X pins σ H s)(e:H d=some (.frz o (.dK kvs)))(nf:∀o u,X.H₀ d≠some (.frz o u)):ZD X pins σ (upd H d (.dK kvs)) s:=by
 have hne:∀b u,H b=some u->(∀x,u ≠ .frz o x)->b≠d:=fun b u q n z=>by rw[z,e] at q;exact n _ (Option.some.inj q).symm
 have hnn:∀b,H b=none->b≠d:=fun b q z=>by rw[z,e] at q;cases q
 refine⟨I.ok,I.os,I.bare,⟨I.base.keep,I.base.slot,fun b ob q n hx=>?_,I.base.there,fun b xs q=>?_,fun b ob u q=>?_,fun b ps q=>?_⟩,I.loc,I.cell,?_,fun x c q=>?_,fun p hp=>?_,fun b u q=>?_,I.len⟩
 ·have:=I.base.free b ob q n hx;rw[Ze (hnn b this)];exact this
 ·have:=I.base.tups b xs q;rw[Ze (hne b _ this fun _ z=>nomatch z)];exact this
 ·have:=I.base.frzs b ob u q;rw[Ze (fun z=>nf ob u (by rw[← z];exact q))];exact this
 ·obtain⟨m,hm⟩:=I.base.tbls b ps q;exact⟨m,by rw[Ze (hne b _ hm fun _ z=>nomatch z)];exact hm⟩
 ·rw[Ze (hnn _ I.free)];exact I.free
 ·rw[Ze (hnn _ (I.freeC x c q))];exact I.freeC x c q
 ·obtain⟨p1,p2,p3,p4,p5⟩:=I.pin p hp;exact⟨p1,by rw[Ze (hnn _ p2)];exact p2,p3,p4,p5⟩
 ·by_cases hb:b=d
  ·subst hb;rw[Zi] at q;cases q;obtain⟨_,z,y,vs,r,c⟩:=(show ZO X.prog X.w H s.heap b (.frz o (.dK kvs)) from I.hok b _ e);exact⟨z,y,vs,r,c⟩
  ·rw[Ze hb] at q;refine(I.hok b u q).stay (fun _ _ _ z=>z) (fun c z=>?_) fun c xs z=>?_
   ·rw[Ze (hne c _ z fun _ y=>nomatch y)];exact z
   ·rw[Ze (hne c _ z fun _ y=>nomatch y)];exact z
end
section
variable{te:TE}
inductive B0(te:TE)(σ:St)(H:Hp)(Q:VK):Prop
 |mk(d kvs)(_:H d=some (.dK kvs))(_:∀o,te σ (upd H d (.frz o (.dK kvs))) fun v H'=>H' d=some (.frz o (.dK kvs))/\Q v (upd H' d (.dK kvs)))
theorem Lk(h:QE X e te):QE X e (B0 te):=⟨by
 intro pins s σ H Q I q;obtain⟨d,kvs,ed,q⟩:=q;obtain⟨z,y,vs,r,o,es,ep,ho,c⟩:=(show ZO X.prog X.w H s.heap d (.dK kvs) from I.hok d _ ed);have nf:=I.nofrz ed
 exact thn (h.h pins s σ _ _ (I.freeze ed ho) (q o)) fun u s1 ⟨x,H1,I1,r1,e1,q1⟩=>⟨x,_,I1.thaw e1 nf,r1,q1⟩⟩
end
def Dy(d:XW)(o:Obj)(kvs:List (ZU×V)):It :=
 ⟨fun i H=>H d=some (.frz o (.dK kvs))/\i < kvs.length,fun i H v H'=>H'=H/\∃p,kvs[i]? = some p/\v=kV p.1,fun i H=>H d=some (.frz o (.dK kvs))/\kvs.length<=i⟩
theorem OI(h:(Wm P w).is k v=true):ZG (kV k) v:=by
 cases k with
 | inl i =>
  cases v<;>first
   | exact absurd (show false=true from h) xL
   | skip
  rename_i j t;have e:j=i:=by
   have h:(j == i)=true:=h;exact eq_of_beq h
  exact⟨t,by rw[e]⟩
 | inr x =>
  cases v<;>first
   | exact absurd (show false=true from h) xL
   | skip
  rename_i j t;have e:j=x:=by
   have h:(j == x)=true:=h;exact eq_of_beq h
  exact⟨t,by rw[e]⟩
theorem KV.get{κ:Type}:∀{kvs:List (κ×V)}{vs:List (κ×XU)}{i:Nat}{p : κ×V}{q : κ×XU},KV kvs vs->kvs[i]? = some p->vs[i]? = some q->p.1=q.1/\ZG p.2 q.2:=by
 intro kvs vs i p q r;unfold KV at r
 induction r generalizing i with
 | nil=>intro h;simp at h
 | cons h t ih =>
  intro e1 e2;cases i with
  | zero =>
   have e1:some _=some p:=e1;have e2:some _=some q:=e2;cases e1;cases e2;exact h
  | succ i=>exact ih (i:=i) e1 e2
theorem QX{P:XX}{w:XY}{K:uFg}{tg:Expr}(it d:XW)(o:Obj)(kvs:List (ZU×V))(vs:List (ZU×XU))(ep:Nat)(hne:d≠it)(rel:KV kvs vs)(hD:∀h:Heap,h.get? d=some o->h.DictAt (Wm P w) d vs ep) :
  VQ P w K tg (Dy d o kvs) [it] it (fun i h=>h.IsKeyIter it d i vs.length ep) where
 mem:=by simp
 obj:=fun i h st b hb=>by
  have e:b=it:=by simpa using hb
  subst e;obtain⟨ob,ho,hc,hd⟩:=st;exact⟨ob,ho,fun v q=>by rw[hd] at q;cases q⟩
 keep:=fun i h h' st k=>st.at fun ob q=>k it (by simp) ob q
 item:=by
  intro X hP hw hK hc i pins s σ H E I hf st hg;subst hP hw hK;obtain⟨f0,f1,f2,f3,f4,f5⟩:=hf it (by simp);obtain⟨ed,hi⟩:=hg;obtain⟨hod,_⟩:=(show ZO X.prog X.w H s.heap d (.frz o (.dK kvs)) from I.hok d _ ed);have W:=Walks.dictKeys (prog:=X.prog) (w:=X.w) (A:=X.A) (knd:=Wm X.prog X.w) (I.ok.hd hc) it d hne vs ep;refine W.item i s _ _ (by rw[← rel.length];exact hi) ⟨st,hD _ hod⟩ fun v h' tk hv st' kk=>?_;obtain⟨k,x,hx,hk⟩:=hv;have I1:ZD X pins σ H {s with heap:=h',toks:=tk }:=I.turned (fun b ob hb e=>kk b ob (by simpa using hb) e) f0 f1 f3 f4 f5;obtain⟨ob,ho,hcl,hdt⟩:=id st'.1;obtain⟨p,hp⟩:∃p,kvs[i]? = some p:=⟨_,xB hi⟩;have hpk:p.1=k:=(KV.get rel hp hx).1;refine⟨_,rfl,Bl (s:={s with heap:=h',toks:=tk }) (n:="dict_keyiterator") ho hcl hdt aA ⟨kV p.1,H,I1,by rw[hpk];exact OI hk,⟨rfl,p,hp,rfl⟩,st'.1,fun b hb=>(hf b hb).1⟩⟩
 done:=by
  intro X hP hw hK hc i pins s σ H E I hf st hg;subst hP hw hK;obtain⟨f0,f1,f2,f3,f4,f5⟩:=hf it (by simp);obtain⟨ed,hi⟩:=hg;obtain⟨hod,_⟩:=(show ZO X.prog X.w H s.heap d (.frz o (.dK kvs)) from I.hok d _ ed);exact wpAny_pyNext_dict_end (I.ok.hd hc) st (hD _ hod) (wF (by rw[← rel.length];exact hi)) fun h' eb=>⟨rfl,I.turned (t':=s.toks) (fun b ob hb e=>eb b ob hb e) f0 f1 f3 f4 f5⟩
 self:=fun _ _ _ _ _ st h=>wpAny_pyIter_keyiter st h
section
variable{te:TE}
inductive AH(R:It->Hp->Prop)(x:V)(H1:Hp):Prop
 |mk(d o kvs)(_:x = .ref d)(_:H1 d=some (.frz o (.dK kvs)))(_:R (Dy d o kvs) H1)
def Xa(te:TE):TI:=fun σ H R=>te σ H fun x H1=>AH R x H1
theorem ON(hl:QE X l te):QI X tg l (Xa te):=⟨by
 intro pins s σ H R I h;refine thn (hl.h pins s σ H _ I h) fun u s1 ⟨x,H1,I1,r1,d,o,kvs,ex,ed,q⟩=>?_;subst ex;obtain rfl:u=Value.ref d:=r1;obtain⟨hod,z,hsys,vs,rel,o',es,ep,ho',c⟩:=(show ZO X.prog X.w H1 s1.heap d (.frz o (.dK kvs)) from I1.hok d _ ed);rw[hod] at ho';cases ho';have hD:∀h:Heap,h.get? d=some o->h.DictAt (Wm X.prog X.w) d vs ep:=fun h e=>⟨o,es,e,c⟩;refine wpAny_pyIter_dict hsys (hD _ hod) ?_;have lt:d < s1.heap.objs.size:=xS hod;refine⟨s1.heap.objs.size,[s1.heap.objs.size],_,_,H1,rfl,I1.kept (t':=s1.toks) fun b ob e=>xG _ e,QX s1.heap.objs.size d o kvs vs ep (yH lt) rel hD,⟨_,xV _ rfl,rfl,rfl⟩,fun b hb=>?_,q⟩;have e:b=s1.heap.objs.size:=by simpa using hb
 subst e
 exact I1.fpOk (xD _) (I1.hok.fresh (xD _))⟩
end
theorem Np(Pv:Nat->List V->Hp->Prop)(h0:Pv 0 [] H)(hn:kvs.length<=1000000)(hl:∀i ys H,i<=kvs.length->Pv i ys H->H d=some (.frz o (.dK kvs)))(hlen:∀i ys H,Pv i ys H->ys.length<=i)(step:∀i p ys H,kvs[i]? = some p->Pv i ys H->Vp nl fv g tt te (kV p.1) H (fun y H'=>Pv (i+1) (ys ++ [y]) H') fun H'=>Pv (i+1) ys H')(hd:∀ys H,Pv kvs.length ys H->∀l,H l=none->Q (.ref l) (upd H l (.lst ys))) :
  Ul (Dy d o kvs) nl fv g tt te Q H:=by
 have hml:(kvs.map fun p=>kV p.1).length=kvs.length:=xA ..;refine B4 (xs:=kvs.map fun p=>kV p.1) Pv h0 (by rw[hml];exact hn) ?_ ?_ ?_ hlen ?_ ?_
 ·intro i H ys hi p;rw[hml] at hi;exact⟨hl i ys H (zD hi) p,hi⟩
 ·rintro i H x H' ys hi p ⟨rfl,q,hq,rfl⟩;exact⟨rfl,by rw[xE,hq];rfl⟩
 ·intro H ys p;rw[hml] at p ⊢;exact⟨hl _ ys H (xD _) p,xD _⟩
 ·grind
 ·intro ys H p;rw[hml] at p;exact hd ys H p
inductive B5(K:uFg)(xs:aG)(H:Hp)(Q:VK):Prop
 |mk(a) (ns)(_:xs = [.ref a])(_:ZF K H a (ns.map V.int))(_:ns ≠ [])(_:∀m,m∈ns->(∀x∈ns,x<=m)->Q (.int m) H)
theorem Qw:∀{us:XQ},ZH (ns.map V.int) us->∃xs:List (Int×Tok),xs.map (·.1)=ns/\us=xs.map fun p=>Value.int p.1 p.2:=by
 induction ns with
 | nil=>intro us r;cases r;exact⟨[],rfl,rfl⟩
 | cons n ns ih =>
  intro us r;cases r with
  | cons r1 r2 =>
   obtain⟨t,rfl⟩:=r1;obtain⟨xs,e1,e2⟩:=ih r2;exact⟨(n,t)::xs,by rw[yL,e1],by rw[yL,e2]⟩
theorem Pb(hc:X.calm=true):QC X (.builtin "max") (B5 X.K):=⟨by
 intro pins s σ H xs us Q I r h;obtain⟨a,ns,rfl,ha,hne,q⟩:=h;obtain⟨u,rfl,ru⟩:=Ja r;cases ru;obtain⟨its,rv,p,_⟩:=I.list ha;obtain⟨ps,e1,e2⟩:=Qw rv;subst e2;have hl:s.heap.IsList a (intItems ps.toArray):=by
  have:=p.isList;have e:intItems ps.toArray=(ps.map fun p=>Value.int p.1 p.2).toArray:=by unfold intItems;simp
  rw[e];exact this
 have hps : 0 < ps.toArray.size:=by grind
 refine max_intList (I.ok.hd hc) hl hps fun v h' tk hv k=>?_;obtain⟨b1,b2⟩:=argBest_gt (numAt ps.toArray) (ps.toArray.size - 1);generalize argBest (fun i j=>decide (numAt ps.toArray i > numAt ps.toArray j)) (ps.toArray.size - 1)=j at hv b1 b2;obtain⟨t,rfl⟩:=intItems_at hv;have num:∀i:Nat,i < ps.length->ns[i]? = some (numAt ps.toArray i):=fun i hi=>by
  rw[← e1,xE];unfold numAt;rw[List.getElem?_toArray,xB hi];rfl
 have hsz:ps.toArray.size=ps.length:=xQ ..;have hnl:ns.length=ps.length:=by rw[← e1,xA]
 refine⟨.int (numAt ps.toArray j),H,I.kept k,⟨t,rfl⟩,q _ (xM (num j (by lia))) fun x hx=>?_⟩;obtain⟨i,hi⟩:=List.getElem?_of_mem hx;have hil:i < ps.length:=by have:=(xH.mp hi).1;lia
 rw[num i hil] at hi;cases hi
 exact b2 i (by lia)⟩
section
variable{o:Expr}{te:TE}
end
theorem Mu(n:Nat)(f:Nat->Option (List V))(Pv:Nat->List V->Hp->Prop)(h0:Pv 0 [] H)(hn:n<=1000000)(hgo:∀i H ys,i < n->Pv i ys H->J.go i H)(hy:∀i H x H' ys,i < n->Pv i ys H->J.yld i H x H'->∃p us,f i=some us/\x = .ref p/\H p=none/\H'=upd H p (.tup us))(hst:∀H ys,Pv n ys H->J.stop n H)(hlen:∀i ys H,Pv i ys H->ys.length<=i)(step:∀i us p ys H,i < n->f i=some us->Pv i ys H->H p=none->Vp nl fv g tt te (.ref p) (upd H p (.tup us)) (fun y H'=>Pv (i+1) (ys ++ [y]) H') fun H'=>Pv (i+1) ys H')(hd:∀ys H,Pv n ys H->∀l,H l=none->Q (.ref l) (upd H l (.lst ys))) :
  Ul J nl fv g tt te Q H:=by
 have mono:∀{x:V}{H:Hp}{Y Y':V->Hp->Prop}{N N':Hp->Prop},Vp nl fv g tt te x H Y N->Y=Y'->N=N'->Vp nl fv g tt te x H Y' N':=fun h e1 e2=>by subst e1;subst e2;exact h
 refine⟨fun i m ys H=>m=n - i/\i<=n/\Pv i ys H,⟨n,by simp,yN _,h0⟩,?_⟩;rintro i m ys H ⟨rfl,hi,p⟩;have hl:=hlen i ys H p;have hz:(1000000:Nat) < sizeLine:=by decide
 by_cases hlt:i < n
 ·refine .inr ⟨hgo i H ys hlt p,by lia,n - (i+1),by lia,fun x H' y=>?_⟩;obtain⟨q,us,hf,rfl,hq,rfl⟩:=hy i H x H' ys hlt p y;refine mono (step i us q ys H hlt hf p hq) ?_ ?_
  ·funext y H4;apply propext;exact⟨fun q=>⟨rfl,hlt,q⟩,fun q=>q.2.2⟩
  ·funext H3;apply propext;exact⟨fun q=>⟨rfl,hlt,q⟩,fun q=>q.2.2⟩
 ·grind
theorem Qo{K:uFg}{l:XW}{nl:Nat}{fv:St}{g:TG}{tt:Tj}{te:TE}{Q:VK}{H:Hp}(xs:aG)(Pv:Nat->List V->Hp->Prop)(h0:Pv 0 [] H)(hn:xs.length<=1000000)(hl:∀i ys H,i<=xs.length->Pv i ys H->ZF K H l xs)(hlen:∀i ys H,Pv i ys H->ys.length<=i)(step:∀i x p ys H,xs[i]? = some x->Pv i ys H->H p=none->Vp nl fv g tt te (.ref p) (upd H p (.tup [.int i,x])) (fun y H'=>Pv (i+1) (ys ++ [y]) H') fun H'=>Pv (i+1) ys H')(hd:∀ys H,Pv xs.length ys H->∀l,H l=none->Q (.ref l) (upd H l (.lst ys))) :
  Ul (Cd K l) nl fv g tt te Q H:=by
 refine Mu xs.length (fun i=>(xs[i]?).map fun x=>[.int i,x]) Pv h0 hn (fun i H ys hi p=>⟨xs,hl i ys H (zD hi) p,hi⟩) ?_ (fun H ys p=>⟨xs,hl _ ys H (xD _) p,xD _⟩) hlen ?_ hd
 ·rintro i H x H' ys hi p ⟨q,a,rfl,hq,rfl,ha⟩;exact⟨q,_,by rw[ha xs (hl i ys H (zD hi) p)];rfl,rfl,hq,rfl⟩
 ·grind
theorem Iz{K:uFg}{a:XW}{xs:aG}{nl:Nat}{fv:St}{g:TG}{tt:Tj}{te:TE}{Q:VK}{H:Hp}(Pv:Nat->List V->Hp->Prop)(h0:Pv 0 [] H)(hn:xs.length<=1000000)(hl:∀i ys H,i<=xs.length->Pv i ys H->ZS K H a xs)(hlen:∀i ys H,Pv i ys H->ys.length<=i)(step:∀i x ys H,xs[i]? = some x->Pv i ys H->Vp nl fv g tt te x H (fun y H'=>Pv (i+1) (ys ++ [y]) H') fun H'=>Pv (i+1) ys H')(hd:∀ys H,Pv xs.length ys H->∀l,H l=none->Q (.ref l) (upd H l (.lst ys))) :
  Ul (EI K a) nl fv g tt te Q H:=by
 refine B4 (xs:=xs) Pv h0 hn ?_ ?_ ?_ hlen step hd
 ·intro i H ys hi p;exact⟨xs,xs[i],hl i ys H (zD hi) p,by simp[hi]⟩
 ·rintro i H x H' ys hi p ⟨rfl,y⟩;exact⟨rfl,y xs (hl i ys _ (zD hi) p)⟩
 ·intro H ys p;exact⟨xs,hl _ ys H (xD _) p,xD _⟩
section
variable{X:Cx}
inductive AK(K:uFg)(xs:aG)(H:Hp)(Q:VK):Prop
 |mk(p ys)(_:xs = [.ref p])(_:((ZF K H p ys/\∀l,H l=none->Q (.ref l) (upd H l (.tup ys)))\/(ZS K H p ys/\Q (.ref p) H)))
theorem LX:QC X (.type "tuple") (AK X.K):=.imp ⟨OX⟩ fun _ _ _ ⟨p,y,a,b⟩=>⟨p,y,a,b⟩
end
section
variable{X:Cx}{tg iter e:Expr}{es ifs:List Expr}{scope:Scope}{pos cpos np:Pos}{locs:XO}{fr:List (Str×Nat)}{g:TG}{tt:Tj}{t:TA}{x:Str}
end
theorem Df{P:XX}{w:XY}{K:uFg}{mg:XN}{base:Heap}{N:XO}{qual:Str}{scope:Scope}{f:XW}{cd:XU}{A:XZ}{outer:List Env}{s:XT}{H:Hp}{E:XK} :
  Pl (Y3 (Tn P w) P w K mg base N qual scope f cd A outer s H E):=⟨rfl,rfl,rfl,rfl⟩
inductive JB(K:uFg)(x y:V)(H:Hp)(Q:VK):Prop
 |mk(b p) (c) (n) (vs)(_:x = .ref b)(_:H b=some (.tup [.int c,.str n]))(_:y = .ref p)(_:ZF K H p vs)(_:∀v∈vs,v = .non\/∃a c' n',v = .ref a/\H a=some (.tup [.int c',.str n']))(_:∀z:Bool,(z=true↔∃a,V.ref a∈vs/\H a=some (.tup [.int c,.str n]))->Q (.bl (!z)) H)
theorem Gw{pins:List (XW×Obj)}{σ:St}{H:Hp}{s:XT}{A:XZ}{b:XW}{c:Int}{n:Str}(I:ZD X pins σ H s)(hu:A.units < cLine)(hb:H b=some (.tup [.int c,.str n])) :
  ∀{vs:aG}{us:XQ},(∀v∈vs,v = .non\/∃a c' n',v = .ref a/\H a=some (.tup [.int c',.str n']))->ZH vs us->(∀u∈us,SeqAt.EqAt A s u (.ref b) (Ba H c n u))/\(us.any (Ba H c n)=true↔∃a,V.ref a∈vs/\H a=some (.tup [.int c,.str n]))
 | [],us,h,r=>by
  cases r;exact⟨(fun u hu=>nomatch hu),(by simp)⟩
 | v::vs,us,h,r=>by
  cases r with
  | cons r1 r2 =>
   rename_i u0 us';obtain⟨g1,g2⟩:=Gw I hu hb (fun x hx=>h x (xN _ hx)) r2;rcases h v xY with rfl | ⟨a,c',n',rfl,h1⟩
   ·cases r1;obtain⟨its,rv,p,hz⟩:=I.tuple (ZS.of hb);refine⟨fun u hm=>?_,?_⟩
    ·rcases xC.mp hm with rfl | hm
     ·exact SeqAt.EqAt.none_tuple (show s.heap.IsTuple b its.toArray from p) hu
     ·exact g1 u hm
    ·rw[List.any_cons];show (false || _)=true↔_;rw[Bool.false_or,g2];exact⟨fun⟨a,m,e⟩=>⟨a,xN _ m,e⟩,fun⟨a,m,e⟩=>⟨a,(xC.mp m).elim (fun z=>nomatch z) id,e⟩⟩
   ·obtain rfl:u0=Value.ref a:=r1;have e:Ba H c n (.ref a)=decide ((c',n')=(c,n)):=by
     show (match H a with | some (.tup [.int c',.str n'])=>decide ((c',n')=(c,n)) | _=>false)=_;rw[h1]
    refine⟨fun u hm=>?_,?_⟩
    ·rcases xC.mp hm with rfl | hm
     ·rw[e];exact Ol I hu h1 hb
     ·exact g1 u hm
    ·grind
theorem IG(hr:ZM k X.A):YW X (compareOp .NotIn) (JB X.K):=⟨by
 intro pins s σ H x y v u Q I rx ry ⟨b,p,c,n,vs,ex,hb,ey,hq,hp,q⟩;have hu:X.A.units+1 < cLine:=by have:=hr.units;lia
 subst ex ey;obtain rfl:v=Value.ref b:=rx;obtain rfl:u=Value.ref p:=ry;obtain⟨its,r,pl,hz⟩:=I.list hq;obtain⟨g1,g2⟩:=Gw (A:=X.A.in1) I (by show X.A.units+1 < cLine;exact hu) hb hp r;refine SeqAt.notIn_listAt (Ba H c n) pl.isList (fun w hw=>g1 w (by simpa using hw)) ⟨.bl _,H,I,rfl,?_⟩;rw[show its.toArray.any (Ba H c n)=its.any (Ba H c n) by simp]
 exact q _ g2⟩
end L2
namespace L2
open PySem PySem.Spec PyProof.Rows PySem.W
section
variable{s:XT}{r:Nat->Nat}{N:Nat}{p:Array Nat}
end
end L2
namespace L2
end L2
namespace L2
open PySem PySem.Spec PyProof.Rows
end L2
namespace L2
open PySem PySem.Spec PyProof.Rows PySem.W
section
variable{prog:XX}{w:XY}{A:XZ}{s:XT}
end
end L2
namespace L2
open PySem PySem.Spec PyProof.Rows PySem.W
end L2
namespace L2
open PySem PySem.Spec PyProof.Rows PySem.W
section
variable{X:Cx}{pins:List (XW×Obj)}{σ:St}{H:Hp}{s:XT}
end
section
variable{te:TE}
end
end L2
namespace L2
open PySem PySem.Spec PyProof.Rows PySem.W
end L2
namespace PySem.F
theorem sub_rgi_reversed:isSubtype (.type "range_iterator") (.type "reversed")=pure false:=by rw[isSubtype_type];kernel_rfl
end PySem.F
namespace L2
open PySem PySem.Spec PyProof.Rows PySem.W
theorem NG:bootBuiltins "reversed" = some (.type "reversed"):=aA
def rgi(a n c:Int):Obj:={cls:=.type "range_iterator", data:=.fields #[rawInt a,rawInt n,rawInt c] }
theorem Rr(hr:IsRange s.heap r a b 1 t u v)(h1 : -(2 ^ 62)<=a)(h2:a < 2 ^ 62)(h3 : -(2 ^ 62)<=b)(h4:b < 2 ^ 62)(h:Q (.ref s.heap.objs.size) {s with heap:=s.heap.push (rgi (a+(Builtin.Range.rangeSize a b 1 - 1) * 1) (Builtin.Range.rangeSize a b 1) (-1)) }):wpAny (model prog w) A (call (.builtin "range.__reversed__") [.ref r]) Q E s:=by
 have hT:s.TypeIs (.ref r) "range" := ⟨_,hr,rfl⟩;refine wpAny_call_entry PySem.F.slot_range_reversed hT PySem.F.entry_range_reversed ?_ (PySem.F.args_range_reversed_1 _);unfold Builtin.«range.__reversed__»;refine wpAny_bind (wpAny_of_eq (a:=Value.ref r) rfl ?_);unfold Builtin.Range.rangeFields;refine wpAny_bind (wpAny_bind (wpAny_field hr rfl (x:=.int a t) rfl (wpAny_bind (wpAny_of_eq (a:=some a) rfl (wpAny_bind (wpAny_field hr rfl (x:=.int b u) rfl (wpAny_bind (wpAny_of_eq (a:=some b) rfl (wpAny_bind (wpAny_field hr rfl (x:=.int 1 v) rfl (wpAny_bind (wpAny_of_eq (a:=some 1) rfl (wpAny_pure ?_)))))))))))));dsimp only;have e:(Builtin.Range.rangeFitsLong a && Builtin.Range.rangeFitsLong b && Builtin.Range.rangeFitsLong 1 && Builtin.Range.rangeFitsLong (-1) && Builtin.Range.rangeFitsLong (a - 1) && Builtin.Range.rangeFitsLong (Builtin.Range.rangeSize a b 1))=true:=by
  rw[rangeSize_one];simp only[Builtin.Range.rangeFitsLong,yR,decide_eq_true_eq];split<;>lia
 rw[e];simp only[Bool.not_true,zN,if_false,if_true];exact wpAny_bind (wpAny_newObj_type (wpAny_pure ⟨_,rfl,h⟩))
theorem LA(hr:IsRange s.heap r a b 1 t u v)(h1 : -(2 ^ 62)<=a)(h2:a < 2 ^ 62)(h3 : -(2 ^ 62)<=b)(h4:b < 2 ^ 62)(h:Q₁ (.ref s.heap.objs.size) {s with heap:=s.heap.push (rgi (a+(Builtin.Range.rangeSize a b 1 - 1) * 1) (Builtin.Range.rangeSize a b 1) (-1)) }) :
  codeAny (model prog w) A (.call (.builtin "reversed.__new__") ⟨[.type "reversed", .ref r],[]⟩) (wants Q₁ E) s:=by
 have hT:s.TypeIs (.ref r) "range" := ⟨_,hr,rfl⟩;refine codeAny_of_tree ?_;show wpAny _ A.in1 (do checkBuiltinCall "reversed.__new__" ⟨[.type "reversed", .ref r],[]⟩;again (.builtin "reversed.__new__" ⟨[.type "reversed", .ref r],[]⟩)) _ _ s;refine wpAny_bind (wpAny_of_eq (PySem.F.newCall_reversed_1 _) (wpAny_pure ⟨plainId_quiet PySem.F.plain_reversed_new _,codeAny_builtin PySem.F.entry_reversed_new ?_⟩));rw[Around.under_plainId PySem.F.plain_reversed_new _];unfold Builtin.«reversed.__new__»;refine wpAny_bind (wpAny_of_eq (newClass_reversed _) ?_)
 try dsimp only
 refine wpAny_bind (wpAny_of_eq (a:=()) (by first | rfl | kernel_rfl) ?_);refine wpAny_bind (wpAny_of_eq (a:=()) (by first | rfl | kernel_rfl) ?_)
 try dsimp only
 refine wpAny_bind (wpAny_specialOf hT PySem.F.slot_range_reversed.lookup ?_)
 try dsimp only
 refine wpAny_bind (wpAny_of_eq (PySem.F.slot_range_reversed.bind _) ?_)
 try dsimp only
 have hb:¬((Value.builtin "range.__reversed__" == Value.none)=true):=xL
 first
 | rw[if_neg hb]
 | (show wpAny _ _ (if (Value.builtin "range.__reversed__" == Value.none)=true then _ else _) _ _ _;rw[if_neg hb])
 refine wpAny_bind (wpAny_rule ?_);refine wpAny_bind (m:=runValue (.call (.builtin "range.__reversed__") ⟨[.ref r],[]⟩)) (show wpAny _ _ (call (.builtin "range.__reversed__") [.ref r]) _ _ _ from Rr hr h1 h2 h3 h4 ?_)
 first
 | exact wpAny_pure h
 | exact wpAny_bind (wpAny_pure (wpAny_pure h))
theorem Qx(hr:IsRange s.heap r a b 1 t u v)(h1 : -(2 ^ 62)<=a)(h2:a < 2 ^ 62)(h3 : -(2 ^ 62)<=b)(h4:b < 2 ^ 62)(h:Q (.ref s.heap.objs.size) {s with heap:=s.heap.push (rgi (a+(Builtin.Range.rangeSize a b 1 - 1) * 1) (Builtin.Range.rangeSize a b 1) (-1)) }):wpAny (model prog w) A (call (.type "reversed") [.ref r]) Q E s:=by
 refine callType_other (U:="range_iterator") (Q₁:=fun obj s₁=>obj = .ref s.heap.objs.size/\s₁={s with heap:=s.heap.push (rgi (a+(Builtin.Range.rangeSize a b 1 - 1) * 1) (Builtin.Range.rangeSize a b 1) (-1)) }) aA PySem.F.create_reversed ⟨_,_,PySem.F.mro_reversed⟩ PySem.F.made_reversed PySem.F.sub_rgi_reversed (PySem.F.typeCall_reversed_1 _) (LA hr h1 h2 h3 h4 ⟨rfl,rfl⟩) ?_;rintro obj s₁ ⟨rfl,rfl⟩;exact⟨⟨_,xV _ rfl,rfl⟩,h⟩
section
variable{X:Cx}{tg:Expr}
end
end L2
namespace L2
open PySem PySem.Spec PyProof.Rows PySem.W
section
variable{X:Cx}{tg:Expr}
inductive JD(R:It->Hp->Prop)(vs:aG)(H1:Hp):Prop
 |mk(n:Nat)(_:vs = [.int n])(_:n < 1000000)(_:R (BB ((n:Int) - 1) n) H1)
def Pt(ta:TA):TI:=fun σ H R=>ta σ H fun vs H1=>JD R vs H1
theorem NF{a:Expr}{ta:TA}{p q pos pos':Pos}(hgr:Gl X "reversed")(hmr:X.mg "reversed" = none)(hg:Gl X "range")(hm:X.mg "range" = none)(ha:QA X [a] ta)(hs:starEach [a] X.env = [(false,eval a X.env)]:=by rfl)(hs2:starEach [.Call (.Name "range" p) [a] [] pos] X.env = [(false,eval (.Call (.Name "range" p) [a] [] pos) X.env)]:=by rfl) :
  QI X tg (.Call (.Name "reversed" q) [.Call (.Name "range" p) [a] [] pos] [] pos') (Pt ta):=⟨by
 have ha:=ha.h;intro pins s σ H R I h;refine Call_ (Uw I hgr hmr NG (PyProof.Rows.callWith_type1 ?_ hs2 rfl));rw[hs2];refine Calls.spliced_cons ?_;refine Call_ (Uw I hg hm boot_range (PyProof.Rows.callWith_type1 (thn (ha pos pins s σ H _ I h) fun us s1 ⟨vs,H1,I1,r1,q1⟩=>?_) hs rfl));obtain⟨n,e,q1,q⟩:=q1;subst e;cases r1 with
 | cons r rr =>
  cases rr;obtain⟨t,rfl⟩:=r;refine call_range_1 (Calls.spliced_nil ?_);have n1:(n:Int) < 1000000:=by lia
  refine Qx (IsRange.new ..) (by lia) (by lia) (by lia) (by lia) ?_;refine wpAny_pyIter_rangeiter (xV _ rfl) ?_;have en:Builtin.Range.rangeSize 0 (n:Int) 1=(n:Int):=by rw[rangeSize_one];split<;>lia
  refine⟨_,[_],_,_,H1,rfl,?_,Gs _ ((n:Int) - 1) n,?_,fun b hb=>?_,q⟩
  ·exact(I1.kept fun b o e=>xG _ e).kept fun b o e=>xG _ e
  ·show IsRangeIter _ _ ((n:Int) - 1+((0:Nat):Int) * (-1)) ((n:Int) - ((0:Nat):Int)) (-1);have e1:(n:Int) - 1+((0:Nat):Int) * (-1)=0+(Builtin.Range.rangeSize 0 (n:Int) 1 - 1) * 1:=by rw[en];lia
   have e2:(n:Int) - ((0:Nat):Int)=Builtin.Range.rangeSize 0 (n:Int) 1:=by rw[en];simp
   rw[e1,e2];exact xV _ rfl
  ·have e:=xR.mp hb;subst e;have I2:ZD X pins σ H1 {s1 with heap:=s1.heap.push {cls:=.type "range", data:=.fields #[.int 0 s1.toks,.int n t,.int 1 (s1.toks+1)] },toks:=s1.toks+1+1 }:=I1.kept fun b o e=>xG _ e
   exact I2.fpOk (xD _) (I2.hok.fresh (xD _))⟩
end
end L2
namespace L2
open PySem PySem.Spec PyProof.Rows PySem.W
section
variable{s:XT}{r:Nat->Nat}{N:Nat}{p:Array Nat}
end
end L2
namespace L2
open PySem PySem.Spec PyProof.Rows PySem.W
section
variable{P:XX}{w:XY}{K:Frag}{mg:XN}{base:Heap}
end
section
variable{X:Cx}{pins:List (XW×Obj)}{σ:St}{H:Hp}{s:XT}{c P:XW}{nm:Str}{params:Arguments}{body:Expr}{scope:Scope}{lpos:Pos}
end
end L2
namespace L2
open PySem PySem.Spec PyProof.Rows PySem.W
section
variable{X:Cx}{pins:List (XW×Obj)}{σ:St}{H:Hp}{s:XT}
variable{a kS:XW}{keys:Array XU}{b:Bool}{e e1:Nat}{Pf:PySem.Fin->XT->Prop}{E:XM}
end
end L2
namespace L2
open PySem PySem.Spec PyProof.Rows PySem.W
section
variable{X:Cx}{c P:XW}{nm x:Str}{params:Arguments}{body:Expr}{scope:Scope}{lpos p kp kp2 pos:Pos}{e:Expr}{te:TE}{k:Nat}
end
end L2
namespace L2
open PySem PySem.Spec PyProof.Rows PySem.W
/- the library's own look at a code's head (KE.KNestM): a match of its own cost 37,000 objects -/
section
variable{P:XX}{w:XY}{K:uFg}{mg:XN}{base:Heap}
end
section
variable{P:XX}{w:XY}{K:uFg}{mg:XN}{base:Heap}{x nm:Str}{scope:Scope}{f:XW}{cv:XU}{A:XZ}{outer:List Env}{s:XT}{H:Hp}{E:XK}{pos:Pos}
end
end L2
namespace L2
open PySem PySem.Spec PyProof.Rows PySem.W
end L2
namespace L2
open PySem PySem.Spec PyProof.Rows PySem.W
section
variable{ta:TE}
def Od(K:Frag)(ta:TE):TT:=fun σ H Q=>ta σ H fun x H'=>∃k,Fl K x H' k/\Q k H'
theorem MW(ha:QE X a ta)(he:∀whole,isTrue a X.env whole=(do let v ← whole;standAt a.pos;holding [v] (truthy v))):QT X a (Od X.K ta):=⟨by
 have ha:=ha.h;intro pins s σ H Q I h
 exact isTrue_plain (thn (ha pins s σ H _ I h) fun v s1 ⟨x,H1,I1,r1,q1⟩=>PF pins s1 σ H1 x v Q I1 r1 q1) (he _)⟩
end
end L2
namespace L2
open PySem PySem.Spec PyProof.Rows
section
variable{X:Cx}{o:Expr}{to:TE}{name:Str}{apos cpos:Pos}{T id:String}{r:V->List V->Hp->VK->Prop}
theorem Xr:QM X "list.clear" A3:=⟨by
 intro pins s σ H x vs v us Q I rx rv h;obtain⟨l,xs,rfl,rfl,hH,q⟩:=h;cases rx;have hus:=rv.zero;subst hus;obtain⟨z,its,n,r,hl,e⟩:=I.lstM hH;refine call_meets F.slot_list_clear ⟨_,e,rfl⟩ F.entry_list_clear (F.args_list_clear_1 _) (AutoSeq1.list_clear_list_0 l its.toArray n (by rw[xQ];lia)) ⟨e,?_⟩
 exact⟨.non,_,I.lset (its':=[]) (ys:=[]) hH e rfl .nil (yN _),rfl,q⟩⟩
theorem PP(pa:PlainAttrs T)(slot:Slot T name id)(hty:typeOf (.builtin id)=pure (.type "method_descriptor"))(hm:QM X id r)(ho:QE X o to)(hbase:attributeBase o name X.env (eval o X.env)=eval o X.env:=by rfl)(hline:(apos.endLine == cpos.line)=true:=by rfl):QE X (.Call (.Attribute o name apos) [] [] cpos) (L7 X.K T r to):=⟨by
 have hm:=hm.h;have ho:=ho.h;intro pins s σ H Q I h;refine wpAny_Call_method0_late hbase hline (thn (ho pins s σ H _ I h) fun v s1 ⟨x,H1,I1,r1,ty,q1⟩=>?_);obtain⟨h1,h2⟩:=Ht I1 r1 ty
 exact⟨T,id,pa,slot,hty,h1,h2,Calls.callWith_builtin rfl (PySem.evalArgs_none (hm pins s1 σ H1 x [] v [] Q I1 r1 .nil q1))⟩⟩
end
theorem Kv(hne:l≠it):∀n i s Q,s.heap.IsListIter it l i->s.heap.IsList l items->i+n<=items.size ->
  (∀h',h'.IsListIter it l (i+n)->Heap.SameBut it s.heap h'->Q ((items.toList.drop i).take n) {s with heap:=h' })->wpAny (model prog w) A (draw (.ref it) n) Q E s
 | 0,i,s,Q,hit,_,_,hQ=>by
  show wpAny _ _ (pure []) Q E s;exact wpAny_pure (by simpa using hQ s.heap hit (Heap.SameBut.refl ..))
 | n+1,i,s,Q,hit,ht,hle,hQ=>by
  have hlt:i < items.size:=by lia
  show wpAny _ _ (pyNext (.ref it) >>= _) Q E s;refine wpAny_bind (wpAny_pyNext_list_item hit ht (x:=items[i]) (by simp[hlt]) fun h₁ hit₁ hs₁=>?_);refine wpAny_bind (wpAny_holding (Kv hne n (i+1) _ _ hit₁ (ht.extBut hs₁.extBut hne) (by lia) fun h₂ hit₂ hs₂=>wpAny_pure ?_));have hd:items.toList.drop i=items[i]::items.toList.drop (i+1):=by simp[zI,hlt]
  have:=hQ h₂ (by rw[show i+(n+1)=i+1+n by lia];exact hit₂) (hs₁.trans hs₂);rw[hd,List.take_succ_cons] at this;exact this
theorem Xg {x1} (hh:A.handled=none) (ht:s.heap.IsList l items) (hn:(assignEach elts env).length=items.size) (hstar:(assignEach elts env).findIdx? (·.1)=none) (h:∀h',Heap.ExtBut s.heap.objs.size s.heap h'->wpAny (model prog w) A (assignInOrder ((assignEach elts env).map (·.2)) items.toList) Q E {s with heap:=h' }) :
  wpAny (model prog w) A (assign (.Tuple elts x1 pos) env (.ref l)) Q E s:=by
 have hlt:l≠s.heap.objs.size:=by obtain⟨o,ho,_⟩:=ht;exact yH (xS ho)
 rw[assign_Tuple];refine wpAny_bind (wpAny_standAt ?_);unfold unpack;rw[hn,hstar];refine wpAny_bind (wpAny_holding ?_);unfold unpackItems;refine wpAny_bind ?_
 ·unfold notIterableAtAll;refine wpAny_bind (wpAny_specialOf ht.typeIs slot_list_iter.lookup ?_);refine wpAny_pure ?_;simp only[zN,if_false];refine wpAny_bind (wpAny_holding (wpAny_pyIter_list ht ?_));refine wpAny_bind (wpAny_holding (Kv hlt items.size 0 _ _ ⟨_,xV _ rfl,rfl,rfl⟩ (ht.push _) (by lia) fun h₁ hit₁ hs₁=>?_));have hall:List.take items.size (List.drop 0 items.toList)=items.toList:=by
   rw[List.drop_zero];exact yV (by simp)
  rw[hall];rw[if_neg (by simp)];have ht₁:h₁.IsList l items:=(ht.push _).extBut hs₁.extBut hlt;refine wpAny_bind (wpAny_holding (wpAny_pyNext_list_end hh hit₁ ht₁ (by simp) fun h₂ he₂=>?_));simp only[Option.isSome_none,zN,if_false];refine wpAny_pure (h h₂ fun b o hb e=>he₂ b o hb (hs₁.extBut b o hb (xG _ e)))
section
variable{X:Cx}{pos:Pos}
inductive Eo(K:uFg)(n:Nat)(t:TR)(v:V)(σ:St)(H:Hp)(Q:St->Hp->Prop):Prop
 |mk(a xs)(_:v = .ref a)(_:ZF K H a xs)(_:xs.length=n)(_:t xs σ H Q)
theorem GJ{es:List Expr}{k:Nat}{t:TR}{n:Nat}(hc:X.calm=true)(h:AY X es t)(hn:(assignEach es X.env).length=n:=by rfl)(hst:(assignEach es X.env).findIdx? (·.1)=none:=by rfl):QG X (.Tuple es k pos) (Eo X.K n t):=⟨by
 intro pins s σ H v u Q I r hw;obtain⟨a,xs,e1,hq,hl,hw⟩:=hw;subst e1;cases r;obtain⟨its,rv,⟨o,m,ho,hcl,_,hd⟩,hz⟩:=I.list hq;refine Xg (I.ok.hd hc) ⟨o,ho,hcl,m,hd⟩ (by simp[hn,← hl,rv.length]) hst fun h' hx=>?_;have I1:ZD X pins σ H {s with heap:=h' }:=I.kept (t':=s.toks) fun b o e=>hx b o (yH (xS e)) e
 exact h.h pins _ σ H xs _ Q I1 (by simpa using rv) hw⟩
end
inductive B6(xs:aG)(H:Hp)(Q:VK):Prop
 |mk(i j l)(_:xs = [.int i,.int j,.int l])(_:∀m,(m=i\/m=j\/m=l)->m<=i->m<=j->m<=l->Q (.int m) H)
theorem NH(hc:X.calm=true):QC X (.builtin "min") B6:=⟨by
 intro pins s σ H xs us Q I r h;obtain⟨i,j,l,rfl,q⟩:=h;cases r with
 | cons r1 rr=>cases rr with
  | cons r2 rr=>cases rr with
   | cons r3 rr =>
    cases rr;obtain⟨t1,rfl⟩:=r1;obtain⟨t2,rfl⟩:=r2;obtain⟨t3,rfl⟩:=r3;refine min_three_ints (I.ok.hd hc) fun h' tk k=>?_
    by_cases hj:j < i
    ·rw[if_pos hj]
     by_cases hl:l < j
     ·rw[if_pos hl];exact⟨.int l,H,I.kept k,⟨_,rfl⟩,q l (.inr (.inr rfl)) (by lia) (by lia) (by lia)⟩
     ·rw[if_neg hl];exact⟨.int j,H,I.kept k,⟨_,rfl⟩,q j (.inr (.inl rfl)) (by lia) (by lia) (by lia)⟩
    ·rw[if_neg hj]
     by_cases hl:l < i
     ·rw[if_pos hl];exact⟨.int l,H,I.kept k,⟨_,rfl⟩,q l (.inr (.inr rfl)) (by lia) (by lia) (by lia)⟩
     ·rw[if_neg hl];exact⟨.int i,H,I.kept k,⟨_,rfl⟩,q i (.inl rfl) (by lia) (by lia) (by lia)⟩⟩
def erB(K:uFg)(c:XR)(errs:XO):Bool :=
 decide (PySem.W.nsIn K mainGlobals "MootError" = some (some (.ref (c "MootError")))) && errs.all fun x=>decide (PySem.W.nsIn K mainGlobals x=some (some (.ref (c x)))) && JR K (c x) && EW K (c x) && decide (JF K (c x) (c "MootError")=some true) && decide (PySem.W.kitOne K (.ref (c x)) (.type "ValueError")=some true) &&
  errs.all fun y=>decide (JF K (c x) (c y)=some (decide (x=y))) && decide (PySem.W.kitOne K (.ref (c x)) (.ref (c y))=some (decide (x=y)))
theorem Xn{K:uFg}{h:Heap}{mg:XN}{c:XR}{errs:XO}(X:K.In h)(G:h.Ns mainGlobals mg)(e:erB K c errs=true):Er K mg c errs:=by
 unfold erB at e;rw[yR,zL] at e;obtain⟨e0,e⟩:=e;have e1:∀x,x∈errs->(((((PySem.W.nsIn K mainGlobals x=some (some (.ref (c x)))/\JR K (c x)=true)/\EW K (c x)=true)/\JF K (c x) (c "MootError")=some true)/\PySem.W.kitOne K (.ref (c x)) (.type "ValueError")=some true)/\∀y,y∈errs->JF K (c x) (c y)=some (decide (x=y))/\PySem.W.kitOne K (.ref (c x)) (.ref (c y))=some (decide (x=y))):=fun x hx=>by grind
 exact⟨fun x hx=>PySem.W.mg_of X G (e1 x hx).1.1.1.1.1,fun x hx=>(e1 x hx).1.1.1.1.2,fun x hx=>(e1 x hx).1.1.1.2,PySem.W.mg_of X G (of_decide_eq_true e0),fun x hx=>(e1 x hx).1.1.2,fun x hx y hy=>((e1 x hx).2 y hy).1,fun x hx y hy=>((e1 x hx).2 y hy).2,fun x hx=>(e1 x hx).1.2⟩
end L2
namespace Law
open PySem L2
local macro_rules | `(tactic| walk_at "hp")=>`(tactic| first | exact Zi | assumption | (rw[Ze (by first | assumption | (apply Ne.symm;assumption))];walk_at "hp"))
local macro_rules | `(tactic| walk_at "sq")=>`(tactic| first | assumption | exact ZF.of (by walk_at "hp"))
local macro_rules | `(tactic| walk_at "dc")=>`(tactic| first | decide | assumption | lia)
local macro_rules | `(tactic| walk_at "rd1")=>`(tactic| first | refine Z7 ?_ | refine Z4 ?_ | refine Zy (fun _=>?_) (fun _=>?_) | refine Vq (fun _=>?_) (fun _=>?_) | refine Gr (fun _=>?_) (fun _=>?_) | refine⟨_,rfl,?_⟩ | refine⟨_,_,rfl,rfl,?_⟩ | refine⟨_,_,rfl,rfl,(.inr ⟨by decide,by decide⟩:JM _ _),?_⟩ | refine⟨_,_,rfl,rfl,(⟨by walk_at "dc", by walk_at "dc"⟩:Fd _ _),?_⟩ | refine⟨_,_,rfl,rfl,(⟨by decide,by decide,by decide⟩:Fe _ _),?_⟩ | refine⟨_,_,rfl,rfl,(show (0:Int) < _ by walk_at "dc"),?_⟩ | refine⟨_,_,_,_,rfl,rfl,(by walk_at "sq"),(by rfl),?_⟩ | refine⟨_,_,_,_,rfl,rfl,(by walk_at "sq"),MA (by lia) (by lia),?_⟩ | refine⟨_,_,_,_,rfl,rfl,(by walk_at "hp"),(by rfl),?_⟩ | refine⟨_,_,rfl,.inl (by walk_at "sq"),?_⟩ | fail "rd")
local macro_rules | `(tactic| walk_at "rd")=>`(tactic| repeat' walk_at "rd1")
def top(i:Nat):Stmt:=PySem.Challenge.pw_forsworn_k30_who_is_forsworn.main.body.getD i (.Pass ⟨0,0,0,0⟩)
structure Txt (mg:XN):Prop where
 len:mg "len" = none
 list:mg "list" = none
 range:mg "range" = none
 isinstance:mg "isinstance" = none
 bool:mg "bool" = none
 int:mg "int" = none
 str:mg "str" = none
 tuple:mg "tuple" = none
 zip:mg "zip" = none
 all:mg "all" = none
 max:mg "max" = none
 enumerate:mg "enumerate" = none
 sum:mg "sum" = none
 set:mg "set" = none
 min:mg "min" = none
 reversed:mg "reversed" = none
theorem SI:WR X sts (fun _ _ _=>False):=⟨fun _ _ _ _ _ _ h=>h.elim⟩
inductive T8(vs:aG)(H:Hp)(Q:VK)(z3:XK):Prop
 |mk(b)(_:vs = [.bl b,.bl b])(_:Q (.bl true) H)
abbrev ER:Stmt:=top 63
theorem L5:ZL ["_law_found","_law_due","_law_one_here","_law_other"] ["_law_found","_law_due"] (Zm ER):=fsc
theorem Ry(Zgo:YB K mg "_law_same" ER)(T:Txt mg):Fn P w K mg base "_law_same" ["_law_found","_law_due"] 1 T8:=by
 refine Zgo.fnQ L5 (fun _ _ _ _ _ _=>al2 fun _ _=>rfl) (fun vs H Q E h=>?_) (fun f cdv A outer s H vs Q E hr h=>?_)
 ·obtain⟨b,rfl,_⟩:=h;rfl
 ·obtain⟨b,rfl,q⟩:=h;refine⟨_,(Zc (Zp (Zq Ie Q8 Y7 (Zu _)) (Zg (Zw (Uz Ie Q0 Y7 (Zu _)))) Zo) (Zc (Zp (Vd (Z5 K4 T.isinstance CV (Za Q8 (Za (Cj (v:=.ty "bool") T.bool GV rfl) Zb)))) (Zg (Zw (Cu (Z5 K4 T.isinstance CV (Za Q0 (Za (Cj (v:=.ty "bool") T.bool GV rfl) Zb))) (CC (Uz Yo Q0 Q8 (Zu _)))))) Zo) SI)),?_⟩;obtain⟨tb,yb,eb⟩:=isi (K:=K) (H:=H) (d:=.bl b) rfl "bool" aA;refine⟨_,rfl,rfl,_,rfl,Z4 ⟨_,rfl,_, "bool", tb,_,rfl,yb,eb,_,rfl,Z7 ⟨_,rfl,_, "bool", tb,_,rfl,yb,eb,_,rfl,Z7 ⟨_,rfl,_,rfl,rfl,?_⟩⟩⟩⟩;rw[yJ rfl];exact q
@[elab_as_elim] theorem nw {a:XW}{o:HO}{H:Hp}{motive:Hp->Prop}(ha:H a=none) (h:∀H',ZA H H'->H' a=some o->motive H'):motive (upd H a o):=h _ (ZA.new ha) Zi
section
variable{K:uFg}
inductive Ac(K:uFg)(vs:aG)(H:Hp)(Q:VK)(z3:XK):Prop
 |mk(a:XW) (ns:List Int)(_:vs = [.ref a])(_:ZF K H a (ns.map V.int))(_:∀(s la:XW)(H':Hp),H s=none->H la=none->ZJ H' s la->ZA H H'->Q (.ref s) H')
abbrev GA:Stmt:=top 60
theorem Ml(Zgp:YB K mg "_law_src" GA)(T:Txt mg):Fn P w K mg base "_law_src" ["_law_script"] 1 (Ac K):=by
 refine Zgp.fq ["_law_script"] fun H vs Q E hr h=>?_;obtain⟨a,ns,rfl,hS,k⟩:=h;refine⟨rfl,_,(Zg (Zw (Yl (Za (Tz Ae T.list Uy (Za (Jo Bg Q0 Jb (Jg Zd)) Zb)) (Za Zd (Za Zd (Za Zd (Za Zd Zb)))))))),?_⟩;refine⟨_,rfl,_,rfl,a,_,rfl,hS,fun l hl=>?_⟩;have hc:∃ms:List Int,Ut (ns.map V.int) none (some 63)=ms.map V.int:=by
  unfold Ut;rw[← List.map_drop,← List.map_take];exact⟨_,rfl⟩
 obtain⟨ms,ec⟩:=hc;refine⟨l,_,rfl,.inl (ZF.of Zi),fun l2 hl2=>⟨aB rfl,fun s hs=>?_⟩⟩;have n1:l2≠l:=fun z=>by rw[z,Zi] at hl2;cases hl2
 have s1:ZA H (upd H l (.lst (Ut (ns.map V.int) none (some 63)))):=ZA.new hl;have s2:=s1.trans (ZA.new (o:=.lst (Ut (ns.map V.int) none (some 63))) hl2);have n2:l2≠s:=fun z=>by rw[← z,Zi] at hs;cases hs
 refine k s l2 _ (s2.free hs) (s1.free hl2) ⟨ms,0,0,1,0,Zi,by rw[Ze n2,Zi,ec],aA,n2⟩ (s2.trans (ZA.new hs))
inductive YD(vs:aG)(H:Hp)(Q:VK)(z3:XK):Prop
 |mk(s la) (b)(_:vs = [.ref s,.int b])(_:ZJ H s la)(_:0 < b)(_:b < 1073741824)(_:∀d H',0<=d->d < b->ZJ H' s la->ZE s H H'->Q (.int d) H')
abbrev Ff:Stmt:=top 61
theorem KI(Zgq:YB K mg "_law_next" Ff)(T:Txt mg):Fn P w K mg base "_law_next" ["_law_src_here","_law_base"] 1 YD:=by
 refine Zgq.fq ["_law_src_here","_law_base","_law_cell","_law_digit"] fun H vs Q E hr h=>?_;obtain⟨s,la,b,rfl,⟨ns,i,big,st,cnt,hs,hla,hi,hne⟩,hb0,hb1,k⟩:=h;refine⟨rfl,_,(Zc (Um (Z0 Wf (Zh Yb Q0 Zd (fun _ _=>rfl)) Zd) (A1 Q0 Zd AL)) (Zc (Zp (Zq Wj (Zh Yb Q0 Zd (fun _ _=>rfl)) Zd (Zu _)) (Zc (Zv 2 Zd) (Zc (Zp (Zq U0 (Zh Yb Q0 Zd (fun _ _=>rfl)) (Z5 Yp T.len Yh (Za (Zh Yb Q0 Zd (fun _ _=>rfl)) Zb)) (Zu _)) (Zc (Zv 2 (Zh Yb (Zh Yb Q0 Zd (fun _ _=>rfl)) (Zh Yb Q0 Zd (fun _ _=>rfl)) (fun _ _=>rfl))) (Zg (Um (Z0 Wf (Zh Yb Q0 Zd (fun _ _=>rfl)) Zd) (A1 Q0 Zd AL)))) Zo) (Zc (Um (Z0 AS (Z0 Wf (Z0 Wf (Z0 HZ (Zh Yb Q0 Zd (fun _ _=>rfl)) Zd) (Z0 AS Q9 Zd)) (Zh Yb Q0 Zd (fun _ _=>rfl))) Zd) (A1 Q0 Zd AL)) (Zg (Zp (Zq J8 Q9 (Z0 Le Zd Zd) (Zu _)) (Zg (Um Q9 (A1 Q0 Zd AL))) Zo))))) Zo) (Zc (Zp (Zq JT (Zh Yb Q0 Zd (fun _ _=>rfl)) Zd (Zu _)) (Zc (Zv 3 (Z0 AS (Zh Yb Q0 Zd (fun _ _=>rfl)) Q8)) (Zc (Um (Z0 Cp (Zh Yb Q0 Zd (fun _ _=>rfl)) Q8) (A1 Q0 Zd AL)) (Zg (Zw Qa)))) Zo) (Zg (Zw (Z0 AS (Z0 Cp (Z0 AS (Z0 HZ (Zh Yb Q0 Zd (fun _ _=>rfl)) Zd) Zd) Zd) Q8)))))),?_⟩;have fin:∀(H1:Hp)(i' big st cnt d:Int),0<=d->d < b->ZE s H H1->H1 s=some (.lst [.ref la,.int i',.int big,.int st,.int cnt])->0<=i'->Q (.int d) H1:=fun H1 i' big st cnt d h0 h1 sx hs1 hi1 =>
  k d H1 h0 h1 ⟨ns,i',big,st,cnt,hs1,sx _ _ hne hla,hi1,hne⟩ sx
 walk_at "rd"
 all_goals refine fin _ _ _ _ _ _ (Int.emod_nonneg _ (by lia)) (Int.emod_lt_of_pos _ hb0) ?_ Zi (by lia)
 all_goals repeat (first | exact ZE.refl | refine ZE.trans ?_ ZE.upd)
end
inductive UL(vs:aG)(H:Hp)(Q:VK)(z3:XK):Prop
 |mk(s la) (n)(_:vs = [.ref s,.int n])(_:ZJ H s la)(_:0<=n)(_:n<=100)(_:∀x H',(x.length:Int)=n->Bn x->ZJ H' s la->ZE s H H'->Q (.str x) H')
theorem Ms(cl:List Nat):(List.map cs (cl.map fun c=>(⟨#[c]⟩:Str))).flatten=cl:=by
 induction cl with
 | nil=>rfl
 | cons c r ih=>rw[yL,yL,zS,ih];rfl
abbrev BK:Stmt:=top 65
theorem LV:ZL ["_law_src_here","_law_many","_law_letters"] ["_law_src_here","_law_many"] (Zm BK):=fsc
theorem Fj:Nm (Zm BK) "_law_letters" .cell:=aA
theorem PN:Nm (Zm BK) "_law_src_here" .cell:=aA
theorem Xy(Zgr:YB K mg "_law_word" BK)(T:Txt mg)(Yd:Fn P w K mg base "_law_next" ["_law_src_here","_law_base"] 1 YD):Fn P w K mg base "_law_word" ["_law_src_here","_law_many"] 2 UL:=by
 refine Zgr.fq ["_law_src_here","_law_many","_law_letters"] fun H vs Q E hr h=>?_;obtain⟨s,la,n,rfl,hsrc,hn0,hn1,k⟩:=h
 refine⟨rfl,_,(Zc (Ky (i:=2) LV.nd Fj Z2) (Zg (Zw (Y4 F.plainAttrs_str F.slot_str_join F.type_str_join Qr Z2 (Za (Vz (locs:=["_law_k"]) (fr:=[("_law_src_here", 0),("_law_letters", 2)]) ⟨rfl,aA,aA,aA,aA,aA⟩ (.consN PN (.consN Fj .nil)) rfl (Bk T.range (Za Q8 Zb)) ⟨fun _ _ _ _ _ _=>by
  have cnd:(inN ["_law_k"] [("_law_src_here", 0),("_law_letters", 2)]).Nodup:=aA
  exact⟨(Wn 0 cnd),U9,(Zh DJ (Vh 2) (Zk Yd (Za (Vh 1) (Za Zd Zb)) (n:=nmC)) (fun _ _=>rfl))⟩⟩) Zb))))),?_⟩
 refine⟨rfl,_,rfl,n,rfl,by lia,by lia,?_⟩;refine Ik (n:=n.toNat) (fun i ys H2=>ZJ H2 s la/\ZE s H H2/\∃cl:List Nat,cl.length=i/\ys=cl.map (fun c=>V.str ⟨#[c]⟩)/\∀c∈cl,97<=c/\c<=122) ⟨hsrc,ZE.refl,[],rfl,rfl,(fun _ z=>nomatch z)⟩ (by lia) ?_ ?_ ?_
 ·rintro i ys H2 ⟨_,_,cl,h1,rfl,_⟩;rw[xA];lia
 ·rintro i ys H2 hi ⟨hs2,sx2,cl,h1,rfl,hc⟩ ls hls;obtain⟨a,rfl⟩:=Uu hls;refine⟨⟨[_],rfl,rfl⟩,?_⟩;walk_at "rd";refine⟨s,la,26,rfl,hs2,aA,aA,fun d H3 d0 d1 hs3 sx3=>?_⟩;refine⟨letters,d,_,rfl,rfl,aA,DQ d0 d1,hs3,sx2.trans sx3,cl ++ [97+d.toNat],by rw[xF,h1];rfl,by rw[xO];rfl,fun c hc'=>?_⟩;rcases xJ.mp hc' with z | z
  ·exact hc c z
  ·have:c=97+d.toNat:=by simpa using z
   lia
 ·rintro ys H2 ⟨hs2,sx2,cl,h1,rfl,hc⟩ l hl;have e:(cl.map fun c=>V.str ⟨#[c]⟩)=(cl.map fun c=>(⟨#[c]⟩:Str)).map V.str:=by rw[List.map_map];rfl
  have sumlen:∀l:List Nat,((l.map fun c=>(⟨#[c]⟩:Str)).map (·.length)).sum=l.length:=by
   intro l
   induction l with
   | nil=>rfl
   | cons c r ih=>rw[yL,yL,List.sum_cons,ih,yE];show 1+r.length=_;lia
  refine⟨_,l,cl.map fun c=>(⟨#[c]⟩:Str),rfl,rfl,ZF.of (by rw[Zi,e]),?_,?_⟩
  ·rw[sumlen,xA];show cl.length+cl.length * 0<=16777216;lia
  ·have ej:cs (Txt.join "" (cl.map fun c=>(⟨#[c]⟩:Str)))=cl:=by rw[ME,Ms]
   refine k _ _ ?_ (fun c hc'=>hc c (by rw[ej] at hc';exact hc')) (hs2.keep (ZA.new hl)) (sx2.trans (ZE.new hl));rw[← Vg,ej,h1];lia
theorem ph{α:Type} [DecidableEq α]:∀(L M:List α),L.Nodup->(∀a∈L,a∈M)->L.length<=M.length
 | [],_,_,_=>yN _
 | a::L,M,nd,h=>by
  obtain⟨n1,n2⟩:=yG.mp nd;have ha:=h a xY;have:=ph L (M.erase a) n2 fun b hb=>(List.mem_erase_of_ne (fun(e:b=a)=>n1 (by rw[← e];exact hb))).mpr (h b (xN _ hb));rw[List.length_erase_of_mem ha] at this;have hp : 0 < M.length:=List.length_pos_of_mem ha;rw[yE];lia
def Vs(stem:Str)(j:Nat):Str:=stem++⟨#[97+j % 26]⟩++⟨#[97+j / 26]⟩
theorem Ce(stem:Str)(j:Nat):cs (Vs stem j)=cs stem ++ [97+j % 26,97+j / 26]:=by
 unfold Vs;rw[Do,Do];simp[cs]
theorem OZ(h:Vs stem i=Vs stem j):i=j:=by
 have e:cs (Vs stem i)=cs (Vs stem j):=by rw[h]
 rw[Ce,Ce] at e;have e2:=List.append_cancel_left e;injection e2 with e3 e4
 injection e4 with e5 _
 lia
theorem Kl(stem:Str)(j:Nat):(Vs stem j).length=stem.length+2:=by
 rw[← Vg,Ce,xF,Vg];rfl
theorem MU(h:Bn stem)(hj:j < 676):Bn (Vs stem j):=by
 intro c hc;rw[Ce] at hc;rcases xJ.mp hc with z | z
 ·exact h c z
 ·simp at z;lia
theorem MF{names:XO}{stem:Str}(h:∀j,j < names.length->Vs stem j∈names):Vs stem names.length∉names:=by
 intro hm;have nd:((List.range (names.length+1)).map (Vs stem)).Nodup:=by
  rw[List.nodup_iff_pairwise_ne,List.pairwise_map];exact List.Pairwise.imp (fun h e=>h (OZ e)) (List.nodup_iff_pairwise_ne.mp List.nodup_range)
 have:=ph _ names nd fun a ha=>by grind
 rw[xA,List.length_range] at this;lia
theorem Hu(x:Str)(names:XO):inV (.str x) (names.map V.str)=decide (x∈names):=by
 unfold inV;rw[List.any_map,zA,List.any_eq_true,wC];constructor
 ·rintro⟨y,hy,e⟩;have:y=x:=by simpa [eqV] using e
  rw[← this];exact hy
 ·intro h;exact⟨x,h,by simp[eqV]⟩
theorem GM(names:XO):(names.map V.str).all Ju=true:=by
 rw[List.all_map,zL];intro x _;rfl
def Wz(x:Str):Prop:=Bn x/\1<=x.length/\x.length<=12
section
variable{K:uFg}
inductive YR(K:uFg)(vs:aG)(H:Hp)(Q:VK)(z3:XK):Prop
 |mk(a:XW) (names:XO) (x:Str)(_:vs = [.ref a,.str x])(_:ZF K H a (names.map V.str))(_:names.length<=600)(_:Wz x)(_:∀y:Str,Wz y->y∉names->Q (.str y) H)
abbrev Gx:Stmt:=top 64
theorem OU(Zgs:YB K mg "_law_unlike" Gx)(T:Txt mg):Fn P w K mg base "_law_unlike" ["_law_names_here","_law_name"] 1 (YR K):=by
 refine Zgs.fq ["_law_names_here","_law_name","_law_letters","_law_stem","_law_tries"] fun H vs Q E hr h=>?_;obtain⟨a,names,x,rfl,hS,hn,⟨hx1,hx2,hx3⟩,k⟩:=h;refine⟨rfl,_,(Zc (Zv 2 Z2) (Zc (Zv 3 (Jo Dn Q8 Jb (Jg Zd))) (Zc (Wq PassesOwn.never rfl (Bk T.range (Za (Z0 Wf (Z5 Yp T.len Yh (Za Q0 Zb)) Zd) Zb)) (Ye 4) (Zc (Zp (Zq Kt Q8 Q0 rfl) (Zg (Zw Q8)) Zo) (Zg (Zv 1 (Z0 De (Z0 De Qa (Zh DJ Q9 (Z0 AS Qb Zd) (fun _ _=>rfl))) (Zh DJ Q9 (Z0 Cp Qb Zd) (fun _ _=>rfl))))))) (Zg (Zw Q8))))),?_⟩;have hz:(13:Nat)<=sizeLine:=by decide
 refine⟨_,rfl,10,rfl,x,rfl,by lia,?_⟩;have hst:cs (Txt.slice x none (some 10))=(cs x).take 10:=EB x aA;have hstl:(Txt.slice x none (some 10)).length<=10:=by rw[← Vg,hst,xT];lia
 have hsto:Bn (Txt.slice x none (some 10)):=fun c hc=>hx1 c (by rw[hst] at hc;exact List.mem_of_mem_take hc);show Ue _ _ _ [some (.ref a),some (.str x),some (.str letters),some (.str (Txt.slice x none (some 10))),none] H;generalize Txt.slice x none (some 10)=stem at hstl hsto;refine⟨_,rfl,a,_,rfl,.inl hS,_,_,rfl,rfl,_,rfl,by lia,by rw[xA];lia,?_⟩;refine Bi (names.length+1) (by rw[xA];lia) (fun i σ H'=>H'=H/\∃(cur:Str)(v:Option V),σ = [some (.ref a),some (.str cur),some (.str letters),some (.str stem),v]/\Wz cur/\(i=0\/cur=Vs stem (i - 1))/\∀j,j+1 < i->Vs stem j∈names)
  ⟨rfl,x,none,rfl,⟨hx1,hx2,hx3⟩,.inl rfl,fun j hj=>by lia⟩ ?_ ?_
 ·rintro i σ H' hi ⟨rfl,cur,v,rfl,hc,hci,hal⟩;refine⟨_,rfl,_,rfl,a,_,rfl,.inl hS,rfl,GM names,_,rfl,?_⟩;rw[Hu];refine Vq (fun hnin=>?_) (fun hin=>?_)
  ·exact⟨_,rfl,k cur hc hnin⟩
  ·have hi':i<=600:=by lia
   refine⟨_,rfl,_,rfl,_,rfl,_,_,rfl,rfl,by show (0:Int) < 26;decide,letters,_,_,rfl,rfl,aA,DQ (Int.emod_nonneg _ aA) (Int.emod_lt_of_pos _ aA),stem,_,rfl,rfl,?_,?_⟩
   ·show stem.length+1<=sizeLine;lia
   refine⟨_,rfl,_,rfl,_,_,rfl,rfl,⟨aA,aA⟩,letters,_,_,rfl,rfl,aA,DQ (Int.ediv_nonneg (by lia) aA) (by lia),_,_,rfl,rfl,?_,?_⟩
   ·show (stem++_).length+1<=sizeLine;rw[PySem.Str.length_append];show stem.length+1+1<=sizeLine;lia
   have e1:((0:Int)+(i:Nat)) % 26=((i % 26:Nat):Int):=by lia
   have e2:((0:Int)+(i:Nat)) / 26=((i / 26:Nat):Int):=by lia
   refine⟨rfl,Vs stem i,some (.int (0+(i:Nat))),?_,⟨MU hsto (by lia),by rw[Kl];lia,by rw[Kl];lia⟩,.inr rfl,fun j hj=>?_⟩
   ·show [some (V.ref a),some (V.str _),some (V.str letters),some (V.str stem),some (V.int _)]=_;unfold Vs;rw[e1,e2];rfl
   ·grind
 ·rintro σ H' ⟨rfl,cur,v,rfl,hc,hci,hal⟩;refine⟨_,rfl,k cur hc ?_⟩;rcases hci with z | z
  ·lia
  ·rw[z];exact MF fun j hj=>hal j (by lia)
inductive UR(vs:aG)(H:Hp)(Q:VK)(z3:XK):Prop
 |mk(s la:XW) (n:Int)(_:vs = [.ref s,.int n])(_:ZJ H s la)(_:0<=n)(_:n<=100)(_:∀(l:XW)(names:XO)(H':Hp),(names.length:Int)=n->names.Nodup->(∀x∈names,Wz x)->H l=none->H' l=some (.lst (names.map V.str))->ZJ H' s la->ZE s H H'->Q (.ref l) H')
abbrev Gn:Stmt:=top 66
theorem OF(Zgt:YB K mg "_law_names" Gn)(T:Txt mg)(Yd:Fn P w K mg base "_law_next" ["_law_src_here","_law_base"] 1 YD)(Zgu:Fn P w K mg base "_law_word" ["_law_src_here","_law_many"] 2 UL)(Zgv:Fn P w K mg base "_law_unlike" ["_law_names_here","_law_name"] 1 (YR K)):Fn P w K mg base "_law_names" ["_law_src_here","_law_many"] 3 UR:=by
 refine Zgt.fq ["_law_src_here","_law_many","_law_style","_law_stem","_law_at","_law_names_here","_law_k","_law_name"] fun H vs Q E hr h=>?_;obtain⟨s,la,n,rfl,hsrc,hn0,hn1,k⟩:=h;refine⟨rfl,_,(Zc (Zv 2 (Zk Yd (Za Q0 (Za Zd Zb)))) (Zc (Zv 3 (Zk Zgu (Za Q0 (Za (Z0 Wf Zd (Zk Yd (Za Q0 (Za Zd Zb)))) Zb)))) (Zc (Zv 4 (Zk Yd (Za Q0 (Za (Z5 DC T.len Yh (Za Qa Zb)) Zb)))) (Zc (Zv 5 (Yl Zb)) (Zc (Wq PassesOwn.never rfl (Bk T.range (Za Q8 Zb)) (Ye 6) (Zc (Zv 7 (Z0 De (Z0 De (Jo Dn Qa Jb (Jg Qb)) (Zk Zgu (Za Q0 (Za Zd Zb)))) (Jo Dn Qa (Jg (Z0 Wf Qb Zd)) Jb))) (Zc (Zp (Zq Yo Q9 Zd (Zu _)) (Zg (Zv 7 (Jo Dn Qa Jb (Jg (Z0 Wf Zd (Zk Yd (Za Q0 (Za (Z5 DC T.len Yh (Za Qa Zb)) Zb)))))))) Zo) (Zc (Zp (Zq Yo Q9 Zd (Zu _)) (Zg (Zv 7 (Zk Zgu (Za Q0 (Za (Z0 Wf Zd (Zk Yd (Za Q0 (Za Zd Zb)))) Zb))))) Zo) (Zg (Zj (Y4 aD aE aF Wb Qc (Za (Zk Zgv (Za Qc (Za Qe Zb))) Zb)))))))) (Zg (Zw Qc))))))),?_⟩;have hz:(200:Nat)<=sizeLine:=by decide
 refine⟨_,rfl,s,la,3,rfl,hsrc,aA,aA,fun style H1 st0 st1 hs1 sx1=>?_⟩;refine⟨_,rfl,_,rfl,s,la,11,rfl,hs1,aA,aA,fun d1 H2 d10 d11 hs2 sx2=>?_⟩;refine⟨_,_,rfl,rfl,s,la,_,rfl,hs2,by lia,by lia,fun stem H3 hl3 hlow3 hs3 sx3=>?_⟩;refine⟨_,rfl,_,rfl,stem,rfl,by lia,s,la,_,rfl,hs3,by lia,by lia,fun at_ H4 at0 at1 hs4 sx4=>?_⟩;refine⟨aB rfl,fun l hl4=>?_⟩;have sx:ZE s H H4:=((sx1.trans sx2).trans sx3).trans sx4;obtain⟨nls,nlla⟩:=hs4.ne hl4;have hlH:H l=none:=by
  cases e:H l with
  | none=>rfl
  | some o=>exact absurd (sx l o nls e) (by rw[hl4];simp)
 refine⟨_,rfl,n,rfl,by lia,by lia,?_⟩;show Bc _ _ _ _ [some (.ref s),some (.int n),some (.int style),some (.str stem),some (.int at_),some (.ref l),none,none] (upd H4 l (.lst []));have mkn:∀x:Str,Bn x->1<=x.length->x.length<=12->Wz x:=fun x a b c=>⟨a,b,c⟩;refine Bi n.toNat rfl (fun i σ H'=>∃(names:XO)(v1 v2:Option V),σ = [some (.ref s),some (.int n),some (.int style),some (.str stem),some (.int at_),some (.ref l),v1,v2]/\names.length=i/\names.Nodup/\(∀x∈names,Wz x)/\H' l=some (.lst (names.map V.str))/\ZJ H' s la/\ZE s H H')
  ⟨[],none,none,rfl,rfl,List.nodup_nil,(fun _ z=>nomatch z),Zi,hs4.keep (ZA.new hl4),sx.trans (ZE.new hl4)⟩ ?_ ?_
 ·rintro i σ H5 hi ⟨names,v1,v2,rfl,hlen,hnd,hall,hl5,hs5,sx5⟩;have e1:cs (Txt.slice stem none (some at_))=(cs stem).take at_.toNat:=EB stem at0;have e2:cs (Txt.slice stem (some (at_+1)) none)=(cs stem).drop (at_+1).toNat:=L6 stem (by lia);have l1:(Txt.slice stem none (some at_)).length<=11:=by rw[← Vg,e1,xT,Vg];lia
  have l2:(Txt.slice stem (some (at_+1)) none).length+(at_+1).toNat=stem.length:=by rw[← Vg,e2,zY,Vg];lia
  have l1':(Txt.slice stem none (some at_)).length=at_.toNat:=by rw[← Vg,e1,xT,Vg];lia
  refine⟨_,rfl,_,rfl,at_,rfl,stem,rfl,by lia,_,rfl,s,la,1,rfl,hs5,aA,aA,fun x1 H6 hx1 hlow1 hs6 sx6=>?_⟩;have hl6:H6 l=some (.lst (names.map V.str)):=sx6 l _ nls hl5;refine⟨_,_,rfl,rfl,by lia,?_⟩;refine⟨_,rfl,_,rfl,_,_,rfl,rfl,_,rfl,stem,rfl,by lia,?_⟩;have l3:(Txt.slice stem none (some at_)++x1).length=at_.toNat+1:=by rw[PySem.Str.length_append,l1'];lia
  refine⟨_,_,rfl,rfl,by rw[l3];lia,?_⟩;have hname:Wz (Txt.slice stem none (some at_)++x1++Txt.slice stem (some (at_+1)) none):=by
   refine mkn _ (fun c hc=>?_) ?_ ?_
   ·rw[Do,Do,e1,e2] at hc;rcases xJ.mp hc with hc | hc
    ·rcases xJ.mp hc with hc | hc
     ·exact hlow3 c (List.mem_of_mem_take hc)
     ·exact hlow1 c hc
    ·exact hlow3 c (List.mem_of_mem_drop hc)
   ·rw[PySem.Str.length_append,l3];lia
   ·rw[PySem.Str.length_append,l3];lia
  generalize Txt.slice stem none (some at_)++x1++Txt.slice stem (some (at_+1)) none=nm0 at hname;show Ue _ _ _ [some (.ref s),some (.int n),some (.int style),some (.str stem),some (.int at_),some (.ref l),some (.int (0+(i:Nat))),some (.str nm0)] H6;have app:∀(D:YE),(∀ σ H',(∃(names:XO)(v1 v2:Option V),σ = [some (.ref s),some (.int n),some (.int style),some (.str stem),some (.int at_),some (.ref l),v1,v2]/\names.length=i+1/\names.Nodup/\(∀x∈names,Wz x)/\H' l=some (.lst (names.map V.str))/\ZJ H' s la/\ZE s H H')->D.nx σ H')->
    ∀(x:Str)(H6:Hp),Wz x->H6 l=some (.lst (names.map V.str))->ZJ H6 s la->ZE s H H6 ->
    Dz (ED K "list" VN (YI 5) (Ui (J4 (YR K) (Ui (YI 5) (Ui (YI 7) Vr))) Vr)) D
     [some (.ref s),some (.int n),some (.int style),some (.str stem),some (.int at_),some (.ref l),some (.int (0+(i:Nat))),some (.str x)] H6:=by
   intro D hD x H6 hx hl6 hs6 sx6;refine⟨_,rfl,.inl ⟨rfl,_,ZF.of hl6⟩,_,rfl,_,rfl,l,names,x,rfl,ZF.of hl6,by lia,hx,fun y hy hny=>?_⟩;refine⟨l,_,_,rfl,rfl,hl6,by rw[xA];lia,hD _ _ ⟨names ++ [y],_,_,rfl,by rw[xF,hlen];rfl,Kb hnd hny,fun z hz=>?_,?_,?_,?_⟩⟩
   ·grind
   ·rw[Zi,xO];rfl
   ·exact hs6.keepX ZE.upd nls nlla
   ·intro b o hb e;have:b≠l:=fun z=>by rw[z,hlH] at e;cases e
    rw[Ze this];exact sx6 b o hb e
  have step2:∀(D:YE),(∀ σ H',(∃(names:XO)(v1 v2:Option V),σ = [some (.ref s),some (.int n),some (.int style),some (.str stem),some (.int at_),some (.ref l),v1,v2]/\names.length=i+1/\names.Nodup/\(∀x∈names,Wz x)/\H' l=some (.lst (names.map V.str))/\ZJ H' s la/\ZE s H H')->D.nx σ H')->
    ∀(x:Str)(H6:Hp),Wz x->H6 l=some (.lst (names.map V.str))->ZJ H6 s la->ZE s H H6 ->
    Ue (C6 (B3 (JJ CH (YI 2) (tC (.int 2)))) (Jn (J4 UL (Ui (YI 0) (Ui (JJ (J5 fun i j=>.int (i+j)) (tC (.int 1)) (J4 YD (Ui (YI 0) (Ui (tC (.int 12)) Vr)))) Vr))) (Wp 7)) Yy)
     (Dz (ED K "list" VN (YI 5) (Ui (J4 (YR K) (Ui (YI 5) (Ui (YI 7) Vr))) Vr))) D
     [some (.ref s),some (.int n),some (.int style),some (.str stem),some (.int at_),some (.ref l),some (.int (0+(i:Nat))),some (.str x)] H6:=by
   intro D hD x H6 hx hl6 hs6 sx6;refine⟨_,rfl,rfl,_,rfl,Zy (fun _=>?_) (fun _=>?_)⟩
   ·refine⟨_,rfl,_,rfl,s,la,12,rfl,hs6,aA,aA,fun d H7 d0 d1 hs7 sx7=>?_⟩;refine⟨_,_,rfl,rfl,s,la,_,rfl,hs7,by lia,by lia,fun y H8 hy1 hy2 hs8 sx8=>?_⟩;exact app D hD y H8 ⟨hy2,by lia,by lia⟩ (sx8 l _ nls (sx7 l _ nls hl6)) hs8 ((sx6.trans sx7).trans sx8)
   ·exact app D hD x H6 hx hl6 hs6 sx6
  refine⟨_,rfl,rfl,_,rfl,Zy (fun _=>?_) (fun _=>?_)⟩
  ·refine⟨_,rfl,_,rfl,_,rfl,stem,rfl,by lia,s,la,_,rfl,hs6,by lia,by lia,fun d H7 d0 d1 hs7 sx7=>?_⟩;refine⟨_,_,rfl,rfl,_,rfl,stem,rfl,by lia,?_⟩;have e3:cs (Txt.slice stem none (some (1+d)))=(cs stem).take (1+d).toNat:=EB stem (by lia);refine step2 _ (fun σ H' h=>h) _ H7 ⟨fun c hc=>hlow3 c (by rw[e3] at hc;exact List.mem_of_mem_take hc),?_,?_⟩ (sx7 l _ nls hl6) hs7 ((sx5.trans sx6).trans sx7)
   ·rw[← Vg,e3,xT,Vg];lia
   ·rw[← Vg,e3,xT,Vg];lia
  ·exact step2 _ (fun σ H' h=>h) nm0 H6 hname hl6 hs6 (sx5.trans sx6)
 ·rintro σ H5 ⟨names,v1,v2,rfl,hlen,hnd,hall,hl5,hs5,sx5⟩;exact⟨_,rfl,k l names H5 (by lia) hnd hall hlH hl5 hs5 sx5⟩
end
def okc(c:Nat):Bool:=decide (97<=c) && decide (c<=122)
def Vv(x:Str):Bool:=(decide (1<=x.length) && decide (x.length<=12)) && (cs x).all okc
theorem HS(h:Wz x):Vv x=true:=by
 obtain⟨h1,h2,h3⟩:=h;unfold Vv;rw[yJ h2,yJ h3,Bool.true_and,Bool.true_and,zL];intro c hc;obtain⟨a,b⟩:=h1 c hc;unfold okc;rw[yJ a,yJ b];rfl
inductive WX(vs:aG)(H:Hp)(Q:VK)(z3:XK):Prop
 |mk(x)(_:vs = [.str x])(_:x.length<=1000)(_:∀H',ZA H H'->Q (.bl (Vv x)) H')
theorem GL(hi:i < x.length):(cs x)[i]? = some (x.cps.getD i 0):=by
 unfold cs;have:i < x.cps.size:=hi;rw[Array.getD_eq_getD_getElem?,Array.getElem?_eq_getElem this,Array.getElem?_toList,Array.getElem?_eq_getElem this];rfl
theorem leA(c:Nat):(!decide ((⟨#[c]⟩:Str).cps.toList < ("a" : Str).cps.toList))=decide (97<=c):=by
 have e:("a" : Str).cps.toList = [97]:=aA
 rw[e];show (!decide (([c]:List Nat) < [97]))=_;rw[zA,Bool.not_eq_true',decide_eq_false_iff_not,wC,Fu];lia
theorem leZ(c:Nat):(!decide (("z" : Str).cps.toList < (⟨#[c]⟩:Str).cps.toList))=decide (c<=122):=by
 have e:("z" : Str).cps.toList = [122]:=aA
 rw[e];show (!decide (([122]:List Nat) < [c]))=_;rw[zA,Bool.not_eq_true',decide_eq_false_iff_not,wC,Fu];lia
theorem Ho{α β:Type}{l:List α}{i:Nat}{a : α}(f : α->β)(h:l[i]? = some a):(l.take (i+1)).map f=(l.take i).map f ++ [f a]:=by
 rw[xW,h,xO];rfl
abbrev IU:Stmt:=top 33
theorem PC(Zgw:YB K mg "is_name" IU)(T:Txt mg)(hL:∃t,mg "LONGEST_NAME" = some (.int 12 t)):Fn P w K mg base "is_name" ["text"] 1 WX:=by
 obtain⟨tL,c_LONGEST_NAME⟩:=hL;have r_LONGEST_NAME:ZG (.int 12) (.int 12 tL):=⟨tL,rfl⟩;refine Zgw.fq ["text"] fun H vs Q E hr h=>?_;obtain⟨x,rfl,hx,k⟩:=h
 refine⟨rfl,_,(Zg (Zw (Cu (Kh Wj Wj Zd (Z5 DC T.len Yh (Za Q0 Zb)) (Y8 c_LONGEST_NAME r_LONGEST_NAME)) (CC (Z5 (Qj (by rfl)) T.all Xu (Za (Vz (locs:=["sign"]) (fr:=[]) ⟨rfl,aA,aA,aA,aA,aA⟩ .nil rfl (KQ Q0) ⟨fun _ _ _ _ _ _=>by
  have cnd:(inN ["sign"] []).Nodup:=aA
  exact⟨(Wn 0 cnd),U9,(Kh Ij Ij Z2 (Y1 0) Z2)⟩⟩) Zb)))))),?_⟩
 have hz:(1000:Nat)<=sizeLine:=by decide
 refine⟨_,rfl,x,rfl,by lia,_,_,rfl,rfl,_,rfl,Zy (fun h1=>?_) (fun h1=>?_)⟩
 ·refine⟨_,_,rfl,rfl,_,rfl,Zy (fun h2=>?_) (fun h2=>?_)⟩
  ·refine⟨_,rfl,x,rfl,?_⟩;refine Oy (fun i ys H'=>H'=H/\ys=((cs x).take i).map fun c=>V.bl (okc c)) ⟨rfl,rfl⟩ (by lia) ?_ ?_ ?_
   ·rintro i ys H' ⟨_,rfl⟩;rw[xA,xT];lia
   ·rintro i ys H' hi ⟨rfl,rfl⟩ ls hls;obtain⟨a,rfl⟩:=Uu hls;refine⟨⟨[_],rfl,rfl⟩,Z7 ?_⟩;refine⟨_,rfl,_,_,rfl,rfl,_,rfl,?_⟩;rw[leA];refine Zy (fun h3=>?_) (fun h3=>?_)
    ·refine⟨_,_,rfl,rfl,rfl,?_⟩;dsimp only;rw[leZ,Ho _ (GL hi)];unfold okc;rw[yJ h3,Bool.true_and]
    ·refine⟨rfl,?_⟩;rw[Ho _ (GL hi)];unfold okc;rw[yZ h3,zW]
   ·rintro ys H' ⟨rfl,rfl⟩ l hl;refine⟨l,(cs x).map okc,rfl,ZF.of (by rw[Zi,← Vg,xX,List.map_map];rfl),?_⟩;have e:((cs x).map okc).all id=Vv x:=by
     unfold Vv;rw[List.all_map,yJ (show 1<=x.length by lia),yJ (show x.length<=12 by lia)];rfl
    rw[e];exact k _ (ZA.new hl)
  ·refine(?_:Q (.bl false) H);have e:Vv x=false:=by
    unfold Vv;rw[yZ (show ¬x.length<=12 by lia),Bool.and_false,zW]
   rw[← e];exact k H (ZA.refl _)
 ·refine⟨_,rfl,Z4 ?_⟩;have e:Vv x=false:=by
   unfold Vv;rw[yZ (show ¬ 1<=x.length by lia),zW,zW]
  rw[← e];exact k H (ZA.refl _)
section
variable{w:XY}{K:uFg}
inductive ZI where
 | come (n:Str) (d w:Int) | rise (n:Str) (d w:Int) | die (n:Str) (d:Int) (h:Str)
def Zn:List ZI->Str->Option Int
 | [],_=>none
 | .come m d _::r,n=>if m=n then some d else Zn r n
 | .rise _ _ _::r,n=>Zn r n
 | .die _ _ _::r,n=>Zn r n
def Z6:List ZI->Str->Option (Int×Str)
 | [],_=>none
 | .die m d h::r,n=>if m=n then some (d,h) else Z6 r n
 | .come _ _ _::r,n=>Z6 r n
 | .rise _ _ _::r,n=>Z6 r n
theorem Dm(a b:List ZI)(n:Str):Zn (a++b) n=(Zn a n).or (Zn b n):=by
 induction a with
 | nil=>rfl
 | cons x r ih =>
  cases x with
  | come m d w =>
   rw[yF,Zn,Zn]
   by_cases e:m=n
   ·rw[if_pos e,if_pos e];rfl
   ·rw[if_neg e,if_neg e,ih]
  | rise m d w=>rw[yF,Zn,Zn,ih]
  | die m d h=>rw[yF,Zn,Zn,ih]
theorem BO(a b:List ZI)(n:Str):Z6 (a++b) n=(Z6 a n).or (Z6 b n):=by
 induction a with
 | nil=>rfl
 | cons x r ih =>
  cases x with
  | come m d w=>rw[yF,Z6,Z6,ih]
  | rise m d w=>rw[yF,Z6,Z6,ih]
  | die m d h =>
   rw[yF,Z6,Z6]
   by_cases e:m=n
   ·rw[if_pos e,if_pos e];rfl
   ·rw[if_neg e,if_neg e,ih]
theorem Cz{ds:List ZI}{n:Str}{d w:Int}(h:Zn ds n=none)(x:Str):Zn (ds ++ [.come n d w]) x=if x=n then some d else Zn ds x:=by
 rw[Dm,Zn,Zn]
 by_cases e:x=n
 ·subst e;rw[if_pos rfl,if_pos rfl,h];rfl
 ·rw[if_neg (Ne.symm e),if_neg e];cases Zn ds x<;>rfl
theorem Dr(x:Str):Zn (ds ++ [.die n d h]) x=Zn ds x:=by
 rw[Dm,Zn,Zn];cases Zn ds x<;>rfl
theorem E4{ds:List ZI}{n:Str}{d w:Int}(x:Str):Z6 (ds ++ [.come n d w]) x=Z6 ds x:=by
 rw[BO,Z6,Z6];cases Z6 ds x<;>rfl
theorem FI(hn:Z6 ds n=none)(x:Str):Z6 (ds ++ [.die n d h]) x=if x=n then some (d,h) else Z6 ds x:=by
 rw[BO,Z6,Z6]
 by_cases e:x=n
 ·subst e;rw[if_pos rfl,if_pos rfl,hn];rfl
 ·rw[if_neg (Ne.symm e),if_neg e];cases Z6 ds x<;>rfl
def V5(ds:List ZI)(n:Str)(day:Int):Bool:=match Z6 ds n with
 | some x=>decide (x.1<=day)
 | none=>false
def V8(dc dw dd dh:XW):List (Str×V):=Zr "heirs" (.ref dh) (Zr "deaths" (.ref dd) (Zr "weights" (.ref dw) (Zr "comings" (.ref dc) [])))
theorem Jv(dc dw dd dh:XW):(V8 dc dw dd dh).lookup ("comings" : Str)=some (.ref dc):=by
 unfold V8;rw[Y5,if_neg aA,Y5,if_neg aA,Y5,if_neg aA,Y5,if_pos rfl]
theorem Dq(dc dw dd dh:XW):(V8 dc dw dd dh).lookup ("weights" : Str)=some (.ref dw):=by
 unfold V8;rw[Y5,if_neg aA,Y5,if_neg aA,Y5,if_pos rfl]
theorem Av(dc dw dd dh:XW):(V8 dc dw dd dh).lookup ("deaths" : Str)=some (.ref dd):=by
 unfold V8;rw[Y5,if_neg aA,Y5,if_pos rfl]
theorem Ll(dc dw dd dh:XW):(V8 dc dw dd dh).lookup ("heirs" : Str)=some (.ref dh):=by
 unfold V8;rw[Y5,if_pos rfl]
def Da(m:Str):Prop:=¬m = "heirs" /\ ¬m = "deaths" /\ ¬m = "weights" /\ ¬m = "comings"
instance (m:Str):Decidable (Da m):=by unfold Da;exact inferInstance
theorem Yw(dc dw dd dh:XW)(h:Da m:=by decide +kernel):(V8 dc dw dd dh).lookup m=none:=by
 obtain⟨a,b,c,d⟩:=h;unfold V8;rw[Y5,if_neg a,Y5,if_neg b,Y5,if_neg c,Y5,if_neg d];rfl
structure FL where
 p:XW
 dc:XW
 dw:XW
 dd:XW
 dh:XW
structure ZV (C:XW) (H:Hp) (L:FL) (ds:List ZI):Prop where
 ob:∃dx,H L.p=some (.ins C dx (V8 L.dc L.dw L.dd L.dh))
 c:∃kvs:List (ZU×V),H L.dc=some (.dK kvs)/\kvs.length<=ds.length/\∀n:Str,Zz kvs (.inr n)=(Zn ds n).map V.int
 w:∃kvs:List (ZU×V),H L.dw=some (.dK kvs)/\kvs.length<=ds.length
 d:∃kvs:List (ZU×V),H L.dd=some (.dK kvs)/\kvs.length<=ds.length/\∀n:Str,Zz kvs (.inr n)=(Z6 ds n).map fun x=>V.int x.1
 h:∃kvs:List (ZU×V),H L.dh=some (.dK kvs)/\kvs.length<=ds.length/\∀n:Str,Zz kvs (.inr n)=(Z6 ds n).map fun x=>V.str x.2
 a1:L.dc≠L.dw
 a2:L.dc≠L.dd
 a3:L.dc≠L.dh
 a4:L.dw≠L.dd
 a5:L.dw≠L.dh
 a6:L.dd≠L.dh
def Ei(H H':Hp):Prop:=∀b o,(∀xs,o ≠ .lst xs)->H b=some o->H' b=some o
theorem ZA.n(h:ZA H H'):Ei H H':=fun b o _ e=>h b o e
theorem ZV.keep(h:ZV C H L ds)(k:Ei H H'):ZV C H' L ds:=by
 obtain⟨⟨dx,ob⟩,⟨k1,c1,c2⟩,⟨k2,w1,w2⟩,⟨k3,d1,d2⟩,⟨k4,h1,h2⟩,a1,a2,a3,a4,a5,a6⟩:=h;exact⟨⟨dx,k _ _ (fun _ z=>nomatch z) ob⟩,⟨k1,k _ _ (fun _ z=>nomatch z) c1,c2⟩,⟨k2,k _ _ (fun _ z=>nomatch z) w1,w2⟩,⟨k3,k _ _ (fun _ z=>nomatch z) d1,d2⟩,⟨k4,k _ _ (fun _ z=>nomatch z) h1,h2⟩,a1,a2,a3,a4,a5,a6⟩
def YS(H H':Hp):Prop:=(∀b xs,H b=some (.lst xs)->H' b=some (.lst xs))/\∀b xs,H b=some (.tup xs)->H' b=some (.tup xs)
theorem YS.updD(h:H l=some (.dK kvs)):YS H (upd H l (.dK kvs')) :=
 ⟨fun b xs e=>by rw[Ze (fun z=>by rw[z,h] at e;cases e)];exact e,fun b xs e=>by rw[Ze (fun z=>by rw[z,h] at e;cases e)];exact e⟩
structure WC (K:uFg) (C:XW):Prop where
 cl:UH K C
 nc:ZW K C "comings"
 nw:ZW K C "weights"
 nd:ZW K C "deaths"
 nh:ZW K C "heirs"
variable{C:XW}
inductive VW(vs:aG)(H:Hp)(Q:VK)(z3:XK):Prop
 |mk(d)(_:vs = [.int d])(_:0<=d)(_:d<=9999)(_:Q .non H)
abbrev Ey:Stmt:=top 27
theorem Sr(Zcu:YB K mg "check_day" Ey)(C0:∃t,mg "LAST_DAY" = some (.int 9999 t)):Fn P w K mg base "check_day" ["day"] 1 VW:=by
 obtain⟨t0,c_LAST_DAY⟩:=C0;have r_LAST_DAY:ZG (.int 9999) (.int 9999 t0):=⟨t0,rfl⟩;refine Zcu.fq ["day"] fun H vs Q E hr h=>?_;obtain⟨d,rfl,h0,h1,k⟩:=h;refine⟨rfl,_,(Zg (Zp (Vt (Js Wj Wj Zd Q0 (Y8 c_LAST_DAY r_LAST_DAY))) (Zg TV) Zo)),?_⟩;refine⟨_,rfl,_,_,rfl,rfl,_,rfl,Zy (fun _=>?_) (fun z=>absurd h0 z)⟩;refine⟨_,_,rfl,rfl,_,rfl,Vq (fun z=>absurd h1 z) (fun _=>k)⟩
inductive AB(vs:aG)(H:Hp)(Q:VK)(z3:XK):Prop
 |mk(d)(_:vs = [.int d])(_:1<=d)(_:d<=1000)(_:Q .non H)
abbrev DP:Stmt:=top 28
theorem Ot(Zcv:YB K mg "check_weight" DP)(C0:∃t,mg "MOST_WEIGHT" = some (.int 1000 t)):Fn P w K mg base "check_weight" ["weight"] 1 AB:=by
 obtain⟨t0,c_MOST_WEIGHT⟩:=C0;have r_MOST_WEIGHT:ZG (.int 1000) (.int 1000 t0):=⟨t0,rfl⟩;refine Zcv.fq ["weight"] fun H vs Q E hr h=>?_;obtain⟨d,rfl,h0,h1,k⟩:=h;refine⟨rfl,_,(Zg (Zp (Vt (Js Wj Wj Zd Q0 (Y8 c_MOST_WEIGHT r_MOST_WEIGHT))) (Zg TV) Zo)),?_⟩;refine⟨_,rfl,_,_,rfl,rfl,_,rfl,Zy (fun _=>?_) (fun z=>absurd h0 z)⟩;refine⟨_,_,rfl,rfl,_,rfl,Vq (fun z=>absurd h1 z) (fun _=>k)⟩
inductive WT(C:XW)(vs:aG)(H:Hp)(Q:VK)(z3:XK):Prop
 |mk(L) (ds) (n) (d)(_:vs = [.ref L.p,.str n])(_:ZV C H L ds)(_:Zn ds n=some d)(_:Q .non H)
abbrev Ec:Stmt:=Yr (top 37) 17
theorem Rq(Zc1:ZR K C "check_known" "Folk.check_known" Ec)(Tc:WC K C):Mt P w K mg base C "check_known" ["self","name"] 1 (WT C):=by
 refine Zc1.mq ["self","name"] fun H vs Q E hr h=>?_;obtain⟨L,ds,n,d,rfl,F,hn,k⟩:=h;refine⟨rfl,_,(Zg (Zp (Zq (Ee hr) Q8 (Zx Q0) rfl) (Zg TV) Zo)),?_⟩;obtain⟨dx,ob⟩:=F.ob;obtain⟨kvs,c1,c2,c3⟩:=F.c;refine⟨_,rfl,_,rfl,L.p,C,dx,_,_,rfl,ob,Tc.cl,Tc.nc,Jv _ _ _ _,L.dc,_,rfl,ZZ.k (k:=Sum.inr n) c1,_,rfl,?_⟩;rw[c3,hn];exact Z4 k
inductive WV(C:XW)(vs:aG)(H:Hp)(Q:VK)(z3:XK):Prop
 |mk(L) (ds) (n) (d day)(_:vs = [.ref L.p,.str n,.int day])(_:ZV C H L ds)(_:Zn ds n=some d)(_:d<=day)(_:Q .non H)
abbrev EL:Stmt:=Yr (top 37) 18
theorem XD(Zc2:ZR K C "check_there" "Folk.check_there" EL)(Tc:WC K C):Mt P w K mg base C "check_there" ["self","name","day"] 1 (WV C):=by
 refine Zc2.mq ["self","name","day"] fun H vs Q E hr h=>?_;obtain⟨L,ds,n,d,day,rfl,F,hn,hd,k⟩:=h;refine⟨rfl,_,(Zg (Zp (Zq U0 Q9 (Bo hr (Zx Q0) Q8 (fun _ _=>rfl)) (Zu _)) (Zg TV) Zo)),?_⟩;obtain⟨dx,ob⟩:=F.ob;obtain⟨kvs,c1,c2,c3⟩:=F.c;have g:=ZZ.k (k:=Sum.inr n) c1;rw[c3,hn] at g;refine⟨_,rfl,_,rfl,L.p,C,dx,_,_,rfl,ob,Tc.cl,Tc.nc,Jv _ _ _ _,_,rfl,L.dc,.int d,rfl,g,?_⟩;exact⟨_,_,rfl,rfl,_,rfl,Zy (fun z=>absurd z (by lia)) (fun _=>k)⟩
inductive WW(C:XW)(vs:aG)(H:Hp)(Q:VK)(z3:XK):Prop
 |mk(L) (ds) (n) (day)(_:vs = [.ref L.p,.str n,.int day])(_:ZV C H L ds)(_:Q (.bl (V5 ds n day)) H)
abbrev IT:Stmt:=Yr (top 37) 11
theorem RT(Zg2:ZR K C "died_by" "Folk.died_by" IT)(Tc:WC K C):Mt P w K mg base C "died_by" ["self","name","day"] 1 (WW C):=by
 refine Zg2.mq ["self","name","day"] fun H vs Q E hr h=>?_;obtain⟨L,ds,n,day,rfl,F,k⟩:=h;refine⟨rfl,_,(Zg (Zw (Cu (Uz (JH hr) Q8 (Zx Q0) rfl) (CC (Uz Wj (Bo hr (Zx Q0) Q8 (fun _ _=>rfl)) Q9 (Zu _)))))),?_⟩;obtain⟨dx,ob⟩:=F.ob;obtain⟨kvs,c1,c2,c3⟩:=F.d;have g:=ZZ.k (k:=Sum.inr n) c1;rw[c3] at g;unfold V5 at k;refine⟨_,rfl,_,rfl,L.p,C,dx,_,_,rfl,ob,Tc.cl,Tc.nd,Av _ _ _ _,L.dd,_,rfl,g,_,rfl,?_⟩;cases e:Z6 ds n with
 | none =>
  rw[e] at k;exact Z4 k
 | some x =>
  rw[e] at k g;refine Z7 ?_;exact⟨_,rfl,L.p,C,dx,_,_,rfl,ob,Tc.cl,Tc.nd,Av _ _ _ _,_,rfl,L.dd,.int x.1,rfl,g,_,rfl,_,_,rfl,rfl,k⟩
end
section
variable{C:XW}
inductive Tu(C:XW)(vs:aG)(H:Hp)(Q:VK)(z3:XK):Prop
 |mk(p dx)(_:vs = [.ref p])(_:H p=some (.ins C dx []))(_:∀L H',L.p=p->ZV C H' L []->(∀b o,H b=some o->b≠p->H' b=some o)->(∀b,b=L.dc\/b=L.dw\/b=L.dd\/b=L.dh->H b=none)->Q .non H')
abbrev FQ:Stmt:=Yr (top 37) 0
theorem LM(Zg3:ZR K C "__init__" "Folk.__init__" FQ)(Tc:WC K C):Mt P w K mg base C "__init__" ["self"] 1 (Tu C):=by
 refine Zg3.mq ["self"] fun H vs Q E hr h=>?_;obtain⟨p,dx,rfl,hp,k⟩:=h;refine⟨rfl,_,(Zc (Vu Q0 Bm) (Zc (Vu Q0 Bm) (Zc (Vu Q0 Bm) (Zg (Vu Q0 Bm))))),?_⟩;intro dc hdc;have p1:p≠dc:=Zl hp hdc;refine⟨_,rfl,p,C,dx,[],rfl,(by rw[Ze p1];exact hp),Tc.cl,Tc.nc,(by show 0 < 1000;decide),?_⟩;have g1:(upd (upd H dc (.dK [])) p (.ins C dx (Zr "comings" (.ref dc) []))) p=some (.ins C dx (Zr "comings" (.ref dc) [])):=Zi;have c1:(upd (upd H dc (.dK [])) p (.ins C dx (Zr "comings" (.ref dc) []))) dc=some (.dK []):=by rw[Ze p1.symm,Zi]
 have s1:∀b o,H b=some o->b≠p->(upd (upd H dc (.dK [])) p (.ins C dx (Zr "comings" (.ref dc) []))) b=some o:=fun b o e n=>by rw[Ze n,Ze (Zl e hdc)];exact e
 generalize (upd (upd H dc (.dK [])) p (.ins C dx (Zr "comings" (.ref dc) [])))=H1 at g1 c1 s1 ⊢;intro dw hdw;have p2:p≠dw:=Zl g1 hdw;have q1:dc≠dw:=Zl c1 hdw;refine⟨_,rfl,p,C,dx,_,rfl,(by rw[Ze p2];exact g1),Tc.cl,Tc.nw,(by show 1 < 1000;decide),?_⟩;have g2:(upd (upd H1 dw (.dK [])) p (.ins C dx (Zr "weights" (.ref dw) (Zr "comings" (.ref dc) [])))) p=some (.ins C dx (Zr "weights" (.ref dw) (Zr "comings" (.ref dc) []))):=Zi;have c2:(upd (upd H1 dw (.dK [])) p (.ins C dx (Zr "weights" (.ref dw) (Zr "comings" (.ref dc) [])))) dc=some (.dK []):=by rw[Ze p1.symm,Ze q1];exact c1
 have w2:(upd (upd H1 dw (.dK [])) p (.ins C dx (Zr "weights" (.ref dw) (Zr "comings" (.ref dc) [])))) dw=some (.dK []):=by rw[Ze p2.symm,Zi]
 have s2:∀b o,H b=some o->b≠p->(upd (upd H1 dw (.dK [])) p (.ins C dx (Zr "weights" (.ref dw) (Zr "comings" (.ref dc) [])))) b=some o:=fun b o e n=>by rw[Ze n,Ze (Zl (s1 b o e n) hdw)];exact s1 b o e n
 generalize (upd (upd H1 dw (.dK [])) p (.ins C dx (Zr "weights" (.ref dw) (Zr "comings" (.ref dc) []))))=H2 at g2 c2 w2 s2 ⊢;intro dd hdd;have p3:p≠dd:=Zl g2 hdd;have q2:dc≠dd:=Zl c2 hdd;have q3:dw≠dd:=Zl w2 hdd;have z1:(Zr "comings" (V.ref dc) []).length<=0+1:=Ag "comings" (V.ref dc) [];have z2:=Ag "weights" (V.ref dw) (Zr "comings" (V.ref dc) []);have z3:=Ag "deaths" (V.ref dd) (Zr "weights" (V.ref dw) (Zr "comings" (V.ref dc) []));refine⟨_,rfl,p,C,dx,_,rfl,(by rw[Ze p3];exact g2),Tc.cl,Tc.nd,(by lia),?_⟩;have g3:(upd (upd H2 dd (.dK [])) p (.ins C dx (Zr "deaths" (.ref dd) (Zr "weights" (.ref dw) (Zr "comings" (.ref dc) []))))) p=some (.ins C dx (Zr "deaths" (.ref dd) (Zr "weights" (.ref dw) (Zr "comings" (.ref dc) [])))):=Zi;have c3:(upd (upd H2 dd (.dK [])) p (.ins C dx (Zr "deaths" (.ref dd) (Zr "weights" (.ref dw) (Zr "comings" (.ref dc) []))))) dc=some (.dK []):=by rw[Ze p1.symm,Ze q2];exact c2
 have w3:(upd (upd H2 dd (.dK [])) p (.ins C dx (Zr "deaths" (.ref dd) (Zr "weights" (.ref dw) (Zr "comings" (.ref dc) []))))) dw=some (.dK []):=by rw[Ze p2.symm,Ze q3];exact w2
 have d3:(upd (upd H2 dd (.dK [])) p (.ins C dx (Zr "deaths" (.ref dd) (Zr "weights" (.ref dw) (Zr "comings" (.ref dc) []))))) dd=some (.dK []):=by rw[Ze p3.symm,Zi]
 have s3:∀b o,H b=some o->b≠p->(upd (upd H2 dd (.dK [])) p (.ins C dx (Zr "deaths" (.ref dd) (Zr "weights" (.ref dw) (Zr "comings" (.ref dc) []))))) b=some o:=fun b o e n=>by rw[Ze n,Ze (Zl (s2 b o e n) hdd)];exact s2 b o e n
 generalize (upd (upd H2 dd (.dK [])) p (.ins C dx (Zr "deaths" (.ref dd) (Zr "weights" (.ref dw) (Zr "comings" (.ref dc) [])))))=H3 at g3 c3 w3 d3 s3 ⊢;intro dh hdh;have p4:p≠dh:=Zl g3 hdh;have q4:dc≠dh:=Zl c3 hdh;have q5:dw≠dh:=Zl w3 hdh;have q6:dd≠dh:=Zl d3 hdh;refine⟨_,rfl,p,C,dx,_,rfl,(by rw[Ze p4];exact g3),Tc.cl,Tc.nh,(by lia),?_⟩;refine k ⟨p,dc,dw,dd,dh⟩ _ rfl ⟨⟨dx,Zi⟩,⟨[],?_,xD _,fun n=>rfl⟩,⟨[],?_,xD _⟩,⟨[],?_,xD _,fun n=>rfl⟩,⟨[],?_,xD _,fun n=>rfl⟩,q1,q2,q4,q3,q5,q6⟩ (fun b o e n=>?_) fun b hb=>?_
 ·show (upd (upd H3 dh _) p _) dc=_;rw[Ze p1.symm,Ze q4];exact c3
 ·show (upd (upd H3 dh _) p _) dw=_;rw[Ze p2.symm,Ze q5];exact w3
 ·show (upd (upd H3 dh _) p _) dd=_;rw[Ze p3.symm,Ze q6];exact d3
 ·show (upd (upd H3 dh _) p _) dh=_;rw[Ze p4.symm,Zi]
 ·rw[Ze n,Ze (Zl (s3 b o e n) hdh)];exact s3 b o e n
 ·cases eb:H b with
  | none=>rfl
  | some o =>
   rcases hb with z | z | z | z<;>subst z
   ·rw[hdc] at eb;cases eb
   ·have:=s1 _ _ eb p2.symm;rw[hdw] at this;cases this
   ·have:=s2 _ _ eb p3.symm;rw[hdd] at this;cases this
   ·have:=s3 _ _ eb p4.symm;rw[hdh] at this;cases this
inductive VI(C:XW)(vs:aG)(H:Hp)(Q:VK)(z3:XK):Prop
 |mk(L) (ds) (n) (day wt)(_:vs = [.ref L.p,.str n,.int day,.int wt])(_:ZV C H L ds)(_:(∃kvs,H L.dc=some (.dK kvs)/\kvs.length < 40))(_:Wz n)(_:0<=day)(_:day<=9999)(_:1<=wt)(_:wt<=1000)(_:Zn ds n=none)(_:∀H',ZA H H'->Q .non H')
abbrev DR:Stmt:=Yr (top 37) 14
theorem SV(Zc3:ZR K C "check_coming" "Folk.check_coming" DR)(T:Txt mg)(Tc:WC K C)(C0:∃t,mg "MOST_FOLK" = some (.int 40 t))(Zg5:Fn P w K mg base "is_name" ["text"] 1 WX)(Wi:Fn P w K mg base "check_day" ["day"] 1 VW)(Zca:Fn P w K mg base "check_weight" ["weight"] 1 AB) :
  Mt P w K mg base C "check_coming" ["self","name","day","weight"] 2 (VI C):=by
 obtain⟨t0,c_MOST_FOLK⟩:=C0;have r_MOST_FOLK:ZG (.int 40) (.int 40 t0):=⟨t0,rfl⟩;refine Zc3.mq ["self","name","day","weight"] fun H vs Q E hr h=>?_;obtain⟨L,ds,n,day,wt,rfl,F0,hl,hnm,d0,d1,w0,w1,hc,k⟩:=h;refine⟨rfl,_,(Zc (Zp (Vt (Vd (Zk Zg5 (Za Q8 Zb)))) (Zg TV) Zo) (Zc (Zj (Zk Wi (Za Q9 Zb))) (Zc (Zj (Zk Zca (Za Qa Zb))) (Zc (Zp (Zq (JH hr) Q8 (Zx Q0) rfl) (Zg TV) Zo) (Zg (Zp (Zq J8 (Z5 GW T.len Yh (Za (Zx Q0) Zb)) (Y8 c_MOST_FOLK r_MOST_FOLK) (Zu _)) (Zg TV) Zo)))))),?_⟩;refine⟨_,rfl,n,rfl,by have:=hnm.2.2;lia,fun H1 s1=>⟨_,rfl,?_⟩⟩;rw[HS hnm];refine Z4 ?_;have F:=F0.keep (ZA.n s1);obtain⟨dx,ob⟩:=F.ob;obtain⟨kvs,c1,c2,c3⟩:=F.c;obtain⟨kv2,c4,c5⟩:=hl;obtain rfl:kvs=kv2:=by have:=s1 _ _ c4;rw[c1] at this;cases this;rfl
 have g:=ZZ.k (k:=Sum.inr n) c1;rw[c3,hc] at g;refine⟨_,rfl,day,rfl,d0,d1,?_⟩;refine⟨_,rfl,wt,rfl,w0,w1,?_⟩;refine⟨_,rfl,_,rfl,L.p,C,dx,_,_,rfl,ob,Tc.cl,Tc.nc,Jv _ _ _ _,L.dc,_,rfl,g,_,rfl,Z4 ?_⟩;refine⟨_,rfl,L.p,C,dx,_,_,rfl,ob,Tc.cl,Tc.nc,Jv _ _ _ _,L.dc,kvs,rfl,c1,_,_,rfl,rfl,_,rfl,Zy (fun z=>absurd z (by lia)) (fun _=>?_)⟩;exact k H1 s1
end
section
variable{w:XY}{C:XW}
def Y9(f:Str->Option (List (ZU×V))):ZI->Str->Option (List (ZU×V))
 | .come n d w,m=>if m=n then some [(.inl d,.int w)] else f m
 | .rise n d w,m=>if m=n then (f m).map fun l=>Z3 l (.inl d) (.int w) else f m
 | .die _ _ _,m=>f m
def kw(ds:List ZI):Str->Option (List (ZU×V)):=ds.foldl Y9 fun _=>none
theorem V9(ds:List ZI)(x:ZI):kw (ds ++ [x])=Y9 (kw ds) x:=by
 unfold kw;rw[zT];rfl
def Vm:List ZI->List Str
 | []=>[]
 | .come n _ _::r=>n::Vm r
 | .rise _ _ _::r=>Vm r
 | .die _ _ _::r=>Vm r
theorem Cv(a b:List ZI):Vm (a++b)=Vm a++Vm b:=by
 induction a with
 | nil=>rfl
 | cons x r ih=>cases x<;>simp[Vm,ih]
theorem DM{ds:List ZI}{n:Str}{d w:Int}(x:Str):Zn (ds ++ [.rise n d w]) x=Zn ds x:=by
 rw[Dm,Zn,Zn];cases Zn ds x<;>rfl
theorem Em{ds:List ZI}{n:Str}{d w:Int}(x:Str):Z6 (ds ++ [.rise n d w]) x=Z6 ds x:=by
 rw[BO,Z6,Z6];cases Z6 ds x<;>rfl
theorem FF{l:List (ZU×V)}{k:ZU}{v:V}{p:ZU×V}(h:p∈Z3 l k v):p=(k,v)\/p∈l:=by
 unfold Z3 at h;split at h
 ·grind
 ·grind
def DH(l:List (ZU×V)):Prop:=∀p∈l,∃d w,p=(.inl d,.int w)
theorem Kx:∀(ds:List ZI)(f:Str->Option (List (ZU×V))),(∀n l,f n=some l->DH l)->∀n l,ds.foldl Y9 f n=some l->DH l
 | [],f,h,n,l,e=>h n l e
 | x::r,f,h,n,l,e=>by
  refine Kx r (Y9 f x) (fun m l' e'=>?_) n l e;cases x with
  | come n' d w' =>
   rw[Y9] at e';split at e'
   ·cases e';intro p hp;exact⟨d,w',xR.mp hp⟩
   ·exact h m l' e'
  | rise n' d w' =>
   rw[Y9] at e';split at e'
   ·cases e2:f m with
    | none=>rw[e2] at e';cases e'
    | some l0 =>
     rw[e2] at e';cases e';intro p hp;rcases FF hp with rfl | hp
     ·exact⟨d,w',rfl⟩
     ·exact h m l0 e2 p hp
   ·exact h m l' e'
  | die n' d h'=>exact h m l' e'
theorem Sh(h:kw ds n=some l):DH l:=Kx ds _ (fun _ _ z=>by cases z) n l h
def A4(kv:Option (List (ZU×V)))(day wt:Int):Prop:=∃l m,kv=some l/\Zz l (.inl m)=some (.int wt)/\m<=day/\∀d v,Zz l (.inl d)=some v->d<=day->d<=m
def TY(kv:Option (List (ZU×V)))(day last found:Int):Prop:=(kv=none/\last = -1/\found=0)\/∃l,kv=some l/\((last = -1/\found=0/\∀d v,Zz l (.inl d)=some v->¬d<=day)\/
 (0<=last/\last<=day/\Zz l (.inl last)=some (.int found)/\∀d v,Zz l (.inl d)=some v->d<=day->d<=last))
theorem Dd:Zz [((.inl d:ZU),v)] (.inl j)=if j=d then some v else none:=by
 by_cases e:j=d
 ·subst e;rw[if_pos rfl];exact Uj rfl
 ·rw[if_neg e];simp[Zz,zO,Ne.symm e]
theorem Ak{l:List (ZU×V)}{d j:Int}{v:V}:Zz (Z3 l (.inl d) v) (.inl j)=if j=d then some v else Zz l (.inl j):=by
 rw[Uk]
 by_cases e:j=d
 ·rw[if_pos e,if_pos (by rw[e])]
 ·rw[if_neg e,if_neg (fun z=>e (Sum.inl.inj z))]
theorem Lr{f:Str->Option (List (ZU×V))}{n:Str}{d w day last found:Int}(h:TY (f n) day last found)(hf:f n=none)(hd : 0<=d) :
  (last<=d->d<=day->TY (Y9 f (.come n d w) n) day d w)/\(¬(last<=d/\d<=day)->TY (Y9 f (.come n d w) n) day last found):=by
 rw[Y9,if_pos rfl];rcases h with⟨_,h1,h2⟩ | ⟨l,e,_⟩
 ·refine⟨fun _ a=>.inr ⟨_,rfl,.inr ⟨hd,a,by rw[Dd,if_pos rfl],fun d' v e _=>?_⟩⟩,fun a=>.inr ⟨_,rfl,.inl ⟨h1,h2,fun d' v e a2=>?_⟩⟩⟩
  ·rw[Dd] at e
   by_cases z:d'=d
   ·lia
   ·rw[if_neg z] at e;cases e
  ·rw[Dd] at e
   by_cases z:d'=d
   ·exact a ⟨by lia,by lia⟩
   ·rw[if_neg z] at e;cases e
 ·rw[hf] at e;cases e
theorem LU{f:Str->Option (List (ZU×V))}{n:Str}{l0:List (ZU×V)}{d w day last found:Int}(h:TY (f n) day last found)(hf:f n=some l0)(hd : 0<=d) :
  (last<=d->d<=day->TY (Y9 f (.rise n d w) n) day d w)/\(¬(last<=d/\d<=day)->TY (Y9 f (.rise n d w) n) day last found):=by
 rw[Y9,if_pos rfl,hf];rw[hf] at h;rcases h with⟨e,_⟩ | ⟨l,e,h⟩
 ·cases e
 cases e;refine⟨fun a b=>.inr ⟨_,rfl,.inr ⟨hd,b,by rw[Ak,if_pos rfl],fun d' v e c=>?_⟩⟩,fun a=>.inr ⟨_,rfl,?_⟩⟩
 ·rw[Ak] at e
  by_cases z:d'=d
  ·lia
  ·grind
 ·rcases h with⟨h1,h2,h3⟩ | ⟨h1,h2,h3,h4⟩
  ·refine .inl ⟨h1,h2,fun d' v e c=>?_⟩;rw[Ak] at e
   by_cases z:d'=d
   ·exact a ⟨by lia,by lia⟩
   ·rw[if_neg z] at e;exact h3 d' v e c
  ·refine .inr ⟨h1,h2,?_,fun d' v e c=>?_⟩
   ·rw[Ak,if_neg (fun z=>a ⟨by lia,by lia⟩)];exact h3
   ·rw[Ak] at e
    by_cases z:d'=d
    ·rcases Int.lt_or_le d last with y | y
     ·lia
     ·exact absurd ⟨y,by lia⟩ a
    ·rw[if_neg z] at e;exact h4 d' v e c
theorem RI(h:TY kv day last found)(e:kv=some l)(hv:Zz l (.inl d0)=some v)(hd:d0<=day):A4 kv day found:=by
 rcases h with⟨z,_⟩ | ⟨l',e',h⟩
 ·rw[e] at z;cases z
 ·rw[e] at e';cases e';rcases h with⟨_,_,h⟩ | ⟨_,h2,h3,h4⟩
  ·exact absurd hd (h d0 v hv)
  ·exact⟨l,last,e,h3,h2,h4⟩
theorem HP:∀(ds:List ZI)(f:Str->Option (List (ZU×V)))(g:Str->Option Int),(∀m,(f m).isSome=(g m).isSome)->∀m,(ds.foldl Y9 f m).isSome=((g m).or (Zn ds m)).isSome
 | [],f,g,h,m=>by rw[Zn];show (f m).isSome=_;rw[h m];cases g m<;>rfl
 | x::r,f,g,h,m=>by
  have e:Zn (x::r) m=(Zn [x] m).or (Zn r m):=Dm [x] r m;have ih:=HP r (Y9 f x) (fun m=>(g m).or (Zn [x] m)) (fun m=>?_) m
  ·rw[zJ,ih,e];cases g m<;>rfl
  ·cases x with
   | come n d w =>
    rw[Y9,Zn,Zn]
    by_cases z:m=n
    ·rw[if_pos z,if_pos z.symm];cases g m<;>rfl
    ·rw[if_neg z,if_neg (Ne.symm z),h m];cases g m<;>rfl
   | rise n d w =>
    rw[Y9,Zn,Zn];have hm:=h m
    by_cases z:m=n
    ·grind
    ·grind
   | die n d w=>rw[Y9,Zn,Zn,h m];cases g m<;>rfl
theorem DY(ds:List ZI)(n:Str):(kw ds n).isSome=(Zn ds n).isSome:=by
 have:=HP ds (fun _=>none) (fun _=>none) (fun _=>rfl) n;exact this
structure WQ (H:Hp) (L:FL) (ds:List ZI) (wa:XR):Prop where
 w:∃kvs:List (ZU×V),H L.dw=some (.dK kvs)/\kvs.length<=ds.length/\∀n l,kw ds n=some l->Zz kvs (.inr n)=some (.ref (wa n))/\H (wa n)=some (.dK l)/\l.length<=ds.length
 ord:∃kvs:List (ZU×V),H L.dc=some (.dK kvs)/\(kvs.map fun p=>kV p.1)=(Vm ds).map V.str
 ap:∀n l,kw ds n=some l->wa n≠L.dc/\wa n≠L.dw/\wa n≠L.dd/\wa n≠L.dh
 inj:∀n m l l',kw ds n=some l->kw ds m=some l'->wa n=wa m->n=m
theorem WQ.keep(h:WQ H L ds wa)(k:Ei H H'):WQ H' L ds wa:=by
 obtain⟨⟨k1,w1,w2,w3⟩,⟨k2,o1,o2⟩,ap,inj⟩:=h;exact⟨⟨k1,k _ _ (fun _ z=>nomatch z) w1,w2,fun n l e=>let ⟨a,b,c⟩:=w3 n l e;⟨a,k _ _ (fun _ z=>nomatch z) b,c⟩⟩,⟨k2,k _ _ (fun _ z=>nomatch z) o1,o2⟩,ap,inj⟩
theorem WQ.start(h:ZV C H L []):WQ H L [] wa:=by
 obtain⟨k,w1,w2⟩:=h.w;obtain⟨k2,c1,c2,_⟩:=h.c;exact⟨⟨k,w1,w2,(fun n l e=>by cases e)⟩,⟨k2,c1,by rw[List.eq_nil_of_length_eq_zero (Nat.le_zero.mp c2)];rfl⟩,(fun n l e=>by cases e),(fun n m l l' e=>by cases e)⟩
def P0(H:Hp)(L:FL)(ds:List ZI)(wa:XR):Prop:=∃kvs:List (ZU×V),H L.dw=some (.dK kvs)/\∀p∈kvs,∃n l,kw ds n=some l/\p=(Sum.inr n,V.ref (wa n))
def own(L:FL)(ds:List ZI)(wa:XR)(b:XW):Prop:=b=L.p\/b=L.dc\/b=L.dw\/b=L.dd\/b=L.dh\/∃n l,kw ds n=some l/\b=wa n
structure Fk (C:XW) (H:Hp) (L:FL) (ds:List ZI) (wa:XR):Prop where
 f:ZV C H L ds
 w:WQ H L ds wa
 all:P0 H L ds wa
def WZ(L:FL)(ds:List ZI)(wa:XR)(H H':Hp):Prop:=∀b o,H b=some o->¬own L ds wa b->H' b=some o
def B1(L:FL)(ds:List ZI)(wa:XR)(ds':List ZI)(wa':XR)(H:Hp):Prop:=∀b,own L ds' wa' b->own L ds wa b\/H b=none
theorem Fk.at(h:Fk C H L ds wa)(k:∀b o,own L ds wa b->H b=some o->H' b=some o):Fk C H' L ds wa:=by
 obtain⟨⟨⟨dx,ob⟩,⟨k1,c1,c2⟩,⟨k2,w1,w2⟩,⟨k3,d1,d2⟩,⟨k4,h1,h2⟩,a1,a2,a3,a4,a5,a6⟩,⟨⟨k5,x1,x2,x3⟩,⟨k6,o1,o2⟩,ap,inj⟩,⟨k7,y1,y2⟩⟩:=h;have kp:=k L.p _ (.inl rfl) ob;have kc:=fun o=>k L.dc o (.inr (.inl rfl));have kw':=fun o=>k L.dw o (.inr (.inr (.inl rfl)));exact⟨⟨⟨dx,kp⟩,⟨k1,kc _ c1,c2⟩,⟨k2,kw' _ w1,w2⟩,⟨k3,k L.dd _ (.inr (.inr (.inr (.inl rfl)))) d1,d2⟩,⟨k4,k L.dh _ (.inr (.inr (.inr (.inr (.inl rfl))))) h1,h2⟩,a1,a2,a3,a4,a5,a6⟩, ⟨⟨k5,kw' _ x1,x2,fun n l e=>let ⟨a,b,c⟩:=x3 n l e;⟨a,k _ _ (.inr (.inr (.inr (.inr (.inr ⟨n,l,e,rfl⟩))))) b,c⟩⟩,⟨k6,kc _ o1,o2⟩,ap,inj⟩,⟨k7,kw' _ y1,y2⟩⟩
theorem Fk.there(h:Fk C H L ds wa)(hb:own L ds wa b):∃o,H b=some o/\(∀xs,o ≠ .lst xs)/\∀xs,o ≠ .tup xs:=by
 obtain⟨⟨⟨dx,ob⟩,⟨k1,c1,c2⟩,⟨k2,w1,w2⟩,⟨k3,d1,d2⟩,⟨k4,h1,h2⟩,_⟩,⟨⟨k5,x1,x2,x3⟩,_⟩,_⟩:=h;rcases hb with rfl | rfl | rfl | rfl | rfl | ⟨n,l,e,rfl⟩
 ·exact⟨_,ob,(fun _ z=>nomatch z),(fun _ z=>nomatch z)⟩
 ·exact⟨_,c1,(fun _ z=>nomatch z),(fun _ z=>nomatch z)⟩
 ·exact⟨_,w1,(fun _ z=>nomatch z),(fun _ z=>nomatch z)⟩
 ·exact⟨_,d1,(fun _ z=>nomatch z),(fun _ z=>nomatch z)⟩
 ·exact⟨_,h1,(fun _ z=>nomatch z),(fun _ z=>nomatch z)⟩
 ·exact⟨_,(x3 n l e).2.1,(fun _ z=>nomatch z),(fun _ z=>nomatch z)⟩
theorem WZ.lt(h:Fk C H L ds wa)(k:WZ L ds wa H H'):YS H H' :=
 ⟨fun b xs e=>k b _ e fun hb=>by obtain⟨o',e',n1,_⟩:=h.there hb;rw[e] at e';cases e';exact n1 xs rfl,fun b xs e=>k b _ e fun hb=>by obtain⟨o',e',_,n2⟩:=h.there hb;rw[e] at e';cases e';exact n2 xs rfl⟩
theorem Fk.cnt(h:Fk C H L ds wa):∃kvs,H L.dc=some (.dK kvs)/\kvs.length=(Vm ds).length:=by
 obtain⟨kvs,a,b⟩:=h.w.ord;exact⟨kvs,a,by have:=congrArg List.length b;rwa [xA,xA] at this⟩
inductive UX(C:XW)(vs:aG)(H:Hp)(Q:VK)(z3:XK):Prop
 |mk(L) (ds) (wa) (n) (day wt)(_:vs = [.ref L.p,.str n,.int day,.int wt])(_:Fk C H L ds wa)(_:(Vm ds).length < 40)(_:ds.length<=1000)(_:Wz n)(_:0<=day)(_:day<=9999)(_:1<=wt)(_:wt<=1000)(_:Zn ds n=none)(_:∀wa' H',Fk C H' L (ds ++ [.come n day wt]) wa'->WZ L ds wa H H'->B1 L ds wa (ds ++ [.come n day wt]) wa' H->Q .non H')
abbrev HQ:Stmt:=Yr (top 37) 1
theorem Qk(Zg7:ZR K C "come" "Folk.come" HQ)(Tc:WC K C)(M_check_coming:Mt P w K mg base C "check_coming" ["self","name","day","weight"] 2 (VI C)) :
  Mt P w K mg base C "come" ["self","name","day","weight"] 3 (UX C):=by
 refine Zg7.mq ["self","name","day","weight"] fun H vs Q E hr h=>?_;obtain⟨L,ds,wa,n,day,wt,rfl,K0,hcm,hl,hnm,d0,d1,w0,w1,hc,k⟩:=h;refine⟨rfl,_,(Zc (Zj (Wc Q0 Tc.cl M_check_coming (Za Q8 (Za Q9 (Za Qa Zb))))) (Zc (Jt hr (Zx Q0) Q8 Q9) (Zg (Jt hr (Zx Q0) Q8 (Rn Q9 Qa))))),?_⟩;have F0:=K0.f;have W0:=K0.w;have hz:=aC
 obtain⟨dx0,ob0⟩:=F0.ob;refine⟨_,rfl,L.p,dx0,_,rfl,ob0,Yw _ _ _ _ aA,_,rfl,_,rfl,_,rfl,L,ds,n,day,wt,rfl,F0,(let ⟨kvs,a,b⟩:=K0.cnt;⟨kvs,a,by lia⟩),hnm,d0,d1,w0,w1,hc,fun H1 s1=>?_⟩;have F:=F0.keep (ZA.n s1);have W:=W0.keep (ZA.n s1);obtain⟨k9,y8,y9⟩:=K0.all;have y7:=s1 _ _ y8;have hkn:kw ds n=none:=by
  have:=DY ds n;rw[hc] at this;cases e:kw ds n with
  | none=>rfl
  | some l=>rw[e] at this;cases this
 obtain⟨⟨dx,ob⟩,⟨k1,c1,c2,c3⟩,_,⟨k3,e1,e2,e3⟩,⟨k4,h1,h2,h3⟩,a1,a2,a3,a4,a5,a6⟩:=F;obtain⟨⟨k2,w2,w3,w4⟩,⟨k1',o1,o2⟩,wap,winj⟩:=W;rw[c1] at o1;cases o1;have np:L.p≠L.dc:=fun z=>by rw[z,c1] at ob;cases ob
 have np2:L.p≠L.dw:=fun z=>by rw[z,w2] at ob;cases ob
 refine⟨_,rfl,_,rfl,L.p,C,dx,_,_,rfl,ob,Tc.cl,Tc.nc,Jv _ _ _ _,_,rfl,L.dc,_,rfl,YU.k (k:=Sum.inr n) c1 (by lia),?_⟩;have T1:=YS.updD (kvs':=Z3 k1 (Sum.inr n) (.int day)) c1;have g0:∀b o,b≠L.dc->H1 b=some o->(upd H1 L.dc (.dK (Z3 k1 (Sum.inr n) (.int day)))) b=some o:=fun b o nb e=>by rw[Ze nb];exact e
 have g2:(upd H1 L.dc (.dK (Z3 k1 (Sum.inr n) (.int day)))) L.dc=some (.dK (Z3 k1 (Sum.inr n) (.int day))):=Zi;generalize (upd H1 L.dc (.dK (Z3 k1 (Sum.inr n) (.int day))))=H2 at T1 g0 g2 ⊢;have g1:=g0 _ _ np ob;have g3:=g0 _ _ a1.symm w2;have g4:=g0 _ _ a2.symm e1;have g5:=g0 _ _ a3.symm h1;intro q hq;refine⟨_,rfl,_,rfl,Zi,[(Sum.inl day,.int wt)],rfl,by show 1<=15;decide,?_⟩;have S3:ZA H2 (upd (upd H2 q (.dK [])) q (.dK (Aa [] [(Sum.inl day,.int wt)]))):=fun b o e=>by rw[Ze (Zl e hq),Ze (Zl e hq)];exact e
 have kq:(upd (upd H2 q (.dK [])) q (.dK (Aa [] [(Sum.inl day,.int wt)]))) q=some (.dK [(Sum.inl day,.int wt)]):=Zi;generalize (upd (upd H2 q (.dK [])) q (.dK (Aa [] [(Sum.inl day,.int wt)])))=H3 at S3 kq ⊢;refine⟨_,rfl,L.p,C,dx,_,_,rfl,S3 _ _ g1,Tc.cl,Tc.nw,Dq _ _ _ _,_,rfl,L.dw,_,rfl,YU.k (k:=Sum.inr n) (S3 _ _ g3) (by lia),?_⟩;have T4:=YS.updD (kvs':=Z3 k2 (Sum.inr n) (.ref q)) (S3 _ _ g3);have ll:=Vy k1 (Sum.inr n:ZU) (V.int day);have ll2:=Vy k2 (Sum.inr n:ZU) (V.ref q);have lapp:(ds ++ [ZI.come n day wt]).length=ds.length+1:=by rw[xF];rfl
 have q1:q≠L.dc:=fun z=>by rw[z,g2] at hq;cases hq
 have q2:q≠L.dw:=fun z=>by rw[z,g3] at hq;cases hq
 have q3:q≠L.dd:=fun z=>by rw[z,g4] at hq;cases hq
 have q4:q≠L.dh:=fun z=>by rw[z,g5] at hq;cases hq
 have old:∀m l,kw ds m=some l->H3 (wa m)=some (.dK l)/\wa m≠q:=fun m l e=>by
  have hh:=g0 _ _ (wap m l e).1 (w4 m l e).2.1;exact⟨S3 _ _ hh,Zl hh hq⟩
 have hkw:∀m l,kw (ds ++ [.come n day wt]) m=some l->(m=n/\l = [(Sum.inl day,.int wt)])\/(m≠n/\kw ds m=some l):=fun m l e=>by
  rw[V9,Y9] at e;split at e
  ·rename_i z;cases e;exact .inl ⟨z,rfl⟩
  ·rename_i z;exact .inr ⟨z,e⟩
 refine k (fun m=>if m=n then q else wa m) _ ⟨⟨⟨dx,by rw[Ze np2];exact S3 _ _ g1⟩,⟨_,by rw[Ze a1];exact S3 _ _ g2,by lia,fun x=>?_⟩,⟨_,Zi,by lia⟩,⟨k3,by rw[Ze a4.symm];exact S3 _ _ g4,by lia,fun x=>?_⟩,⟨k4,by rw[Ze a5.symm];exact S3 _ _ g5,by lia,fun x=>?_⟩,a1,a2,a3,a4,a5,a6⟩,
  ⟨⟨_,Zi,by lia,fun m l e=>?_⟩,⟨_,by rw[Ze a1];exact S3 _ _ g2,?_⟩,fun m l e=>?_,fun m m' l l' e e' z=>?_⟩,⟨_,Zi,fun p hp=>?_⟩⟩ (fun b o e hn=>?_) (fun b hb=>?_)
 ·rw[Uk,Cz hc]
  by_cases e:x=n
  ·subst e;rw[if_pos rfl,if_pos rfl];rfl
  ·rw[if_neg (fun z=>e (Sum.inr.inj z)),if_neg e];exact c3 x
 ·rw[E4];exact e3 x
 ·rw[E4];exact h3 x
 ·(try dsimp only)
  rcases hkw m l e with⟨rfl,rfl⟩ | ⟨hm,e'⟩
  ·rw[if_pos rfl];exact⟨by rw[Uk,if_pos rfl],by rw[Ze q2];exact kq,by rw[lapp];show 1<=_;lia⟩
  ·rw[if_neg hm];obtain⟨y1,y2,y3⟩:=w4 m l e';exact⟨by rw[Uk,if_neg (fun z=>hm (Sum.inr.inj z))];exact y1,by rw[Ze (wap m l e').2.1];exact(old m l e').1,by lia⟩
 ·have hv:Zz k1 (Sum.inr n:ZU)=none:=by rw[c3,hc];rfl
  rw[OA _ hv,xO,Cv,xO,o2];rfl
 ·grind
 ·grind
 ·rw[w2] at y7;cases y7;rcases FF hp with rfl | hp
  ·exact⟨n,[(Sum.inl day,.int wt)],by rw[V9,Y9,if_pos rfl],by (try dsimp only);rw[if_pos rfl]⟩
  ·obtain⟨m,l,e,rfl⟩:=y9 p hp;have hm:m≠n:=fun z=>by rw[z,hkn] at e;cases e
   exact⟨m,l,by rw[V9,Y9,if_neg hm];exact e,by (try dsimp only);rw[if_neg hm]⟩
 ·rw[Ze (fun z=>hn (.inr (.inr (.inl z))))];exact S3 _ _ (g0 b o (fun z=>hn (.inr (.inl z))) (s1 _ _ e))
 ·rcases hb with z | z | z | z | z | ⟨m,l,e,z⟩
  ·exact .inl (.inl z)
  ·exact .inl (.inr (.inl z))
  ·exact .inl (.inr (.inr (.inl z)))
  ·exact .inl (.inr (.inr (.inr (.inl z))))
  ·exact .inl (.inr (.inr (.inr (.inr (.inl z)))))
  ·(try dsimp only at z)
   rcases hkw m l e with⟨rfl,rfl⟩ | ⟨hm,y⟩
   ·rw[if_pos rfl] at z;refine .inr ?_;cases eq:H b with
    | none=>rfl
    | some o =>
     have:=g0 _ _ (by rw[z];exact q1) (s1 _ _ eq);rw[z,hq] at this;cases this
   ·rw[if_neg hm] at z;exact .inl (.inr (.inr (.inr (.inr (.inr ⟨m,l,y,z⟩)))))
end
section
variable{C:XW}
inductive VZ(C:XW)(vs:aG)(H:Hp)(Q:VK)(z3:XK):Prop
 |mk(L) (ds) (n) (day)(_:vs = [.ref L.p,.str n,.int day])(_:ZV C H L ds)(_:V5 ds n day=false)(_:Q .non H)
abbrev DU:Stmt:=Yr (top 37) 19
theorem Nz(Zc4:ZR K C "check_living" "Folk.check_living" DU)(Tc:WC K C)(M_died_by:Mt P w K mg base C "died_by" ["self","name","day"] 1 (WW C)):Mt P w K mg base C "check_living" ["self","name","day"] 2 (VZ C):=by
 refine Zc4.mq ["self","name","day"] fun H vs Q E hr h=>?_;obtain⟨L,ds,n,day,rfl,F,hd,k⟩:=h;refine⟨rfl,_,(Zg (Zp (Vd (Wc Q0 Tc.cl M_died_by (Za Q8 (Za Q9 Zb)))) (Zg TV) Zo)),?_⟩;obtain⟨dx,ob⟩:=F.ob;refine⟨_,rfl,L.p,dx,_,rfl,ob,Yw _ _ _ _ aA,_,rfl,_,rfl,L,ds,n,day,rfl,F,_,rfl,?_⟩;rw[hd];exact Z4 k
def Ug(l:List (ZU×V))(day:Int):List Int:=l.filterMap fun p=>match p.1 with
 | .inl d=>if d<=day then some d else none
 | .inr _=>none
theorem Ru{l:List (ZU×V)}{i:Nat}{d wt day:Int}(h:l[i]? = some (.inl d,.int wt)):Ug (l.take (i+1)) day=Ug (l.take i) day++(if d<=day then [d] else []):=by
 unfold Ug;rw[xW,h,List.filterMap_append];congr 1
 by_cases e:d<=day
 ·simp[e]
 ·simp[e]
theorem upTo_mem:x∈Ug l day↔(∃v,(.inl x,v)∈l)/\x<=day:=by
 unfold Ug;rw[List.mem_filterMap];constructor
 ·grind
 ·grind
theorem Nl{l:List (ZU×V)}{k:ZU}{v:V}(h:Zz l k=some v):(k,v)∈l:=by
 unfold Zz at h;cases e:l.find? fun kv=>decide (kv.1=k) with
 | none=>rw[e] at h;cases h
 | some p =>
  rw[e] at h;cases h;have h1:=List.mem_of_find?_eq_some e;have h2:=List.find?_some e;have h2:p.1=k:=by simpa using h2
  rw[← h2];exact h1
theorem Qv{l:List (ZU×V)}{k:ZU}{v:V}(h:(k,v)∈l):∃u,Zz l k=some u:=by
 unfold Zz;cases e:l.find? fun kv=>decide (kv.1=k) with
 | none =>
  have:=List.find?_eq_none.mp e (k,v) h;exact absurd (yJ rfl) this
 | some p=>exact⟨p.2,rfl⟩
inductive UM(C:XW)(vs:aG)(H:Hp)(Q:VK)(z3:XK):Prop
 |mk(L) (ds) (wa) (n) (day d0 wt)(_:vs = [.ref L.p,.str n,.int day])(_:ZV C H L ds)(_:WQ H L ds wa)(_:ds.length<=1000)(_:0<=day)(_:day<=9999)(_:Zn ds n=some d0)(_:d0<=day)(_:A4 (kw ds n) day wt)(_:∀H',ZA H H'->Q (.int wt) H')
abbrev E2:Stmt:=Yr (top 37) 6
theorem EK:Nm (Zm E2) "day" .cell:=aA
theorem OQ(Zha:ZR K C "weight" "Folk.weight" E2)(T:Txt mg)(Tc:WC K C)(Wi:Fn P w K mg base "check_day" ["day"] 1 VW)(M_check_known:Mt P w K mg base C "check_known" ["self","name"] 1 (WT C))(M_check_there:Mt P w K mg base C "check_there" ["self","name","day"] 1 (WV C)) :
  Mt P w K mg base C "weight" ["self","name","day"] 2 (UM C):=by
 refine Zha.mq ["self","name","day","told"] fun H vs Q E hr h=>?_;obtain⟨L,ds,wa,n,day,e0,wt,rfl,F,W,hl,d0,d1,hc,hd,hw,k⟩:=h
 refine⟨rfl,_,(Zc (Zj (Zk Wi (Za (qvC 2 EK) Zb))) (Zc (Zj (Wc Q0 Tc.cl M_check_known (Za Q8 Zb))) (Zc (Zj (Wc Q0 Tc.cl M_check_there (Za Q8 (Za (qvC 2 EK) Zb)))) (Zc (Zv 3 (Bo hr (Zx Q0) Q8 (fun _ _=>rfl))) (Zg (Zw (Bo hr Qa (Z5 (Pb (by rfl)) T.max BS (Za (Lk (Vz (locs:=["since"]) (fr:=[("day", 2)]) ⟨rfl,aA,aA,aA,aA,aA⟩ (.consN EK .nil) rfl (ON Qa) ⟨fun _ _ _ _ _ _=>by
  have cnd:(inN ["since"] [("day", 2)]).Nodup:=aA
  exact⟨(Wn 0 cnd),(Ar (Zq Wj (Y1 0) (Vh 1) (Zu _))),(Y1 0)⟩⟩)) Zb)) (fun _ _=>rfl)))))))),?_⟩
 have hz:=aC
 obtain⟨dx,ob⟩:=F.ob;refine⟨_,rfl,day,rfl,d0,d1,?_⟩;refine⟨_,rfl,L.p,dx,_,rfl,ob,Yw _ _ _ _ aA,_,rfl,L,ds,n,e0,rfl,F,hc,?_⟩;refine⟨_,rfl,L.p,dx,_,rfl,ob,Yw _ _ _ _ aA,_,rfl,_,rfl,L,ds,n,e0,day,rfl,F,hc,hd,?_⟩;obtain⟨l,m0,hkl,hm0,hm1,hm2⟩:=hw;obtain⟨k2,w2,w3,w4⟩:=W.w;obtain⟨y1,y2,y3⟩:=w4 n l hkl;have hint:=Sh hkl;have g:=ZZ.k (k:=Sum.inr n) w2;rw[y1] at g;refine⟨_,rfl,L.p,C,dx,_,_,rfl,ob,Tc.cl,Tc.nw,Dq _ _ _ _,_,rfl,L.dw,.ref (wa n),rfl,g,?_⟩;refine⟨_,rfl,wa n,l,y2,fun o=>?_⟩;refine⟨_,rfl,wa n,o,l,rfl,Zi,?_⟩;refine Np (fun i ys H'=>H'=upd H (wa n) (.frz o (.dK l))/\ys=(Ug (l.take i) day).map V.int) ⟨rfl,rfl⟩ (by lia) (fun i ys H' _ ⟨e,_⟩=>by rw[e];exact Zi) ?_ ?_ ?_
 ·rintro i ys H' ⟨_,rfl⟩;rw[xA];unfold Ug;refine yC (List.length_filterMap_le _ _) ?_;rw[xT];lia
 ·rintro i p ys H' hp ⟨rfl,rfl⟩ ls hls;obtain⟨w0,rfl⟩:=Uu hls;obtain⟨d,wt',rfl⟩:=hint p (xM hp);refine⟨⟨[_],rfl,rfl⟩,?_⟩;refine⟨_,rfl,_,rfl,d,day,rfl,rfl,_,rfl,?_⟩;rw[Ru hp];refine Zy (fun e=>?_) (fun e=>?_)
  ·refine⟨_,rfl,rfl,?_⟩;rw[if_pos e,xO];rfl
  ·exact⟨rfl,by rw[if_neg e,yD]⟩
 ·rintro ys H' ⟨rfl,rfl⟩ q hq;rw[xX];have nq:q≠wa n:=fun z=>by rw[z,Zi] at hq;cases hq
  refine⟨by rw[Ze nq.symm];exact Zi,?_⟩;have hqH:H q=none:=by rw[Ze nq] at hq;exact hq
  have S:ZA H (upd (upd (upd H (wa n) (.frz o (.dK l))) q (.lst ((Ug l day).map V.int))) (wa n) (.dK l)):=fun b ob e=>by
   by_cases z:b=wa n
   ·rw[z,Zi];rw[z,y2] at e;exact e
   ·rw[Ze z,Ze (Zl e hqH),Ze z];exact e
  have kq:(upd (upd (upd H (wa n) (.frz o (.dK l))) q (.lst ((Ug l day).map V.int))) (wa n) (.dK l)) q=some (.lst ((Ug l day).map V.int)):=by rw[Ze nq,Zi]
  generalize (upd (upd (upd H (wa n) (.frz o (.dK l))) q (.lst ((Ug l day).map V.int))) (wa n) (.dK l))=H2 at S kq ⊢;have hin:m0∈Ug l day:=upTo_mem.mpr ⟨⟨_,Nl hm0⟩,hm1⟩;refine⟨q,Ug l day,rfl,ZF.of kq,(fun z=>by rw[z] at hin;cases hin),fun m hm hmx=>?_⟩;obtain⟨⟨v,hv⟩,hmd⟩:=upTo_mem.mp hm;obtain⟨u,hu⟩:=Qv hv;have e1:=hm2 m u hu hmd;have e2:=hmx m0 hin;have em:m=m0:=by lia
  subst em;have g2:=ZZ.k (k:=Sum.inl m) (S _ _ y2);rw[hm0] at g2;exact⟨wa n,.int wt,rfl,g2,k H2 S⟩
inductive VJ(C:XW)(vs:aG)(H:Hp)(Q:VK)(z3:XK):Prop
 |mk(L) (ds) (n) (day wt d0)(_:vs = [.ref L.p,.str n,.int day,.int wt])(_:ZV C H L ds)(_:0<=day)(_:day<=9999)(_:1<=wt)(_:wt<=1000)(_:Zn ds n=some d0)(_:d0<=day)(_:V5 ds n day=false)(_:Q .non H)
abbrev Dt:Stmt:=Yr (top 37) 15
theorem PD(Zc5:ZR K C "check_rise" "Folk.check_rise" Dt)(Tc:WC K C)(Wi:Fn P w K mg base "check_day" ["day"] 1 VW)(Zca:Fn P w K mg base "check_weight" ["weight"] 1 AB)(M_check_known:Mt P w K mg base C "check_known" ["self","name"] 1 (WT C))(M_check_there:Mt P w K mg base C "check_there" ["self","name","day"] 1 (WV C))(M_check_living:Mt P w K mg base C "check_living" ["self","name","day"] 2 (VZ C)):Mt P w K mg base C "check_rise" ["self","name","day","weight"] 3 (VJ C):=by
 refine Zc5.mq ["self","name","day","weight"] fun H vs Q E hr h=>?_;obtain⟨L,ds,n,day,wt,e0,rfl,F,d0,d1,w0,w1,hc,hd,hv,k⟩:=h;refine⟨rfl,_,(Zc (Zj (Zk Wi (Za Q9 Zb))) (Zc (Zj (Zk Zca (Za Qa Zb))) (Zc (Zj (Wc Q0 Tc.cl M_check_known (Za Q8 Zb))) (Zc (Zj (Wc Q0 Tc.cl M_check_there (Za Q8 (Za Q9 Zb)))) (Zg (Zj (Wc Q0 Tc.cl M_check_living (Za Q8 (Za Q9 Zb))))))))),?_⟩;obtain⟨dx,ob⟩:=F.ob;refine⟨_,rfl,day,rfl,d0,d1,?_⟩;refine⟨_,rfl,wt,rfl,w0,w1,?_⟩;refine⟨_,rfl,L.p,dx,_,rfl,ob,Yw _ _ _ _ aA,_,rfl,L,ds,n,e0,rfl,F,hc,?_⟩;refine⟨_,rfl,L.p,dx,_,rfl,ob,Yw _ _ _ _ aA,_,rfl,_,rfl,L,ds,n,e0,day,rfl,F,hc,hd,?_⟩;exact⟨_,rfl,L.p,dx,_,rfl,ob,Yw _ _ _ _ aA,_,rfl,_,rfl,L,ds,n,day,rfl,F,hv,k⟩
inductive Tq(C:XW)(vs:aG)(H:Hp)(Q:VK)(z3:XK):Prop
 |mk(L) (ds) (wa) (n) (day wt d0)(_:vs = [.ref L.p,.str n,.int day,.int wt])(_:Fk C H L ds wa)(_:ds.length<=1000)(_:0<=day)(_:day<=9999)(_:1<=wt)(_:wt<=1000)(_:Zn ds n=some d0)(_:d0<=day)(_:V5 ds n day=false)(_:∀H',Fk C H' L (ds ++ [.rise n day wt]) wa->WZ L ds wa H H'->B1 L ds wa (ds ++ [.rise n day wt]) wa H->Q .non H')
abbrev Fw:Stmt:=Yr (top 37) 2
theorem PQ(Zhc:ZR K C "rise" "Folk.rise" Fw)(Tc:WC K C)(M_check_rise:Mt P w K mg base C "check_rise" ["self","name","day","weight"] 3 (VJ C)):Mt P w K mg base C "rise" ["self","name","day","weight"] 4 (Tq C):=by
 refine Zhc.mq ["self","name","day","weight"] fun H vs Q E hr h=>?_;obtain⟨L,ds,wa,n,day,wt,e0,rfl,K0,hl,d0,d1,w0,w1,hc,hd,hv,k⟩:=h;refine⟨rfl,_,(Zc (Zj (Wc Q0 Tc.cl M_check_rise (Za Q8 (Za Q9 (Za Qa Zb))))) (Zg (Jt hr (Bo hr (Zx Q0) Q8 (fun _ _=>rfl)) Q9 Qa))),?_⟩;have F:=K0.f;have W:=K0.w;obtain⟨k9,y8,y9⟩:=K0.all;have hz:=aC
 obtain⟨dx0,ob0⟩:=F.ob;refine⟨_,rfl,L.p,dx0,_,rfl,ob0,Yw _ _ _ _ aA,_,rfl,_,rfl,_,rfl,L,ds,n,day,wt,e0,rfl,F,d0,d1,w0,w1,hc,hd,hv,?_⟩;obtain⟨l,hkl⟩:∃l,kw ds n=some l:=by
  have:=DY ds n;rw[hc] at this;cases e:kw ds n with
  | none=>rw[e] at this;cases this
  | some l=>exact⟨l,rfl⟩
 obtain⟨⟨dx,ob⟩,⟨k1,c1,c2,c3⟩,_,⟨k3,e1,e2,e3⟩,⟨k4,h1,h2,h3⟩,a1,a2,a3,a4,a5,a6⟩:=F;obtain⟨⟨k2,w2,w3,w4⟩,⟨k1',o1,o2⟩,wap,winj⟩:=W;rw[c1] at o1;cases o1;obtain⟨y1,y2,y3⟩:=w4 n l hkl;obtain⟨z1,z2,z3,z4⟩:=wap n l hkl;have zp:L.p≠wa n:=fun z=>by rw[z,y2] at ob;cases ob
 have g:=ZZ.k (k:=Sum.inr n) w2;rw[y1] at g;refine⟨_,rfl,_,rfl,L.p,C,dx,_,_,rfl,ob,Tc.cl,Tc.nw,Dq _ _ _ _,_,rfl,L.dw,.ref (wa n),rfl,g,_,rfl,wa n,_,rfl,YU.k (k:=Sum.inl day) y2 (by lia),?_⟩;have T1:=YS.updD (kvs':=Z3 l (Sum.inl day) (.int wt)) y2;have ll:=Vy l (Sum.inl day:ZU) (V.int wt);have lapp:(ds ++ [ZI.rise n day wt]).length=ds.length+1:=by rw[xF];rfl
 have hkw:∀m l',kw (ds ++ [.rise n day wt]) m=some l'->(m=n/\l'=Z3 l (Sum.inl day) (.int wt))\/(m≠n/\kw ds m=some l'):=fun m l' e=>by
  rw[V9,Y9] at e;split at e
  ·rename_i z;subst z;rw[hkl] at e;cases e;exact .inl ⟨rfl,rfl⟩
  ·rename_i z;exact .inr ⟨z,e⟩
 have old:∀m l',kw (ds ++ [.rise n day wt]) m=some l'->∃l'',kw ds m=some l'':=fun m l' e=>by
  rcases hkw m l' e with⟨rfl,_⟩ | ⟨_,y⟩
  ·exact⟨l,hkl⟩
  ·exact⟨l',y⟩
 refine k _ ⟨⟨⟨dx,by rw[Ze zp];exact ob⟩,⟨k1,by rw[Ze z1.symm];exact c1,by lia,fun x=>by rw[DM];exact c3 x⟩,⟨k2,by rw[Ze z2.symm];exact w2,by lia⟩,⟨k3,by rw[Ze z3.symm];exact e1,by lia,fun x=>by rw[Em];exact e3 x⟩,⟨k4,by rw[Ze z4.symm];exact h1,by lia,fun x=>by rw[Em];exact h3 x⟩,a1,a2,a3,a4,a5,a6⟩,
  ⟨⟨k2,by rw[Ze z2.symm];exact w2,by lia,fun m l' e=>?_⟩,⟨k1,by rw[Ze z1.symm];exact c1,?_⟩,fun m l' e=>?_,fun m m' l1 l2 e e' z=>?_⟩,⟨k9,by rw[Ze z2.symm];exact y8,fun p hp=>?_⟩⟩ (fun b o e hn=>?_) (fun b hb=>?_)
 ·rcases hkw m l' e with⟨rfl,rfl⟩ | ⟨hm,y⟩
  ·exact⟨y1,Zi,by lia⟩
  ·obtain⟨x1,x2,x3⟩:=w4 m l' y;exact⟨x1,by rw[Ze (fun z=>hm (winj m n l' l y hkl z))];exact x2,by lia⟩
 ·rw[Cv,o2];show _=((Vm ds)++[]).map V.str;rw[yD]
 ·obtain⟨l'',y⟩:=old m l' e;exact wap m l'' y
 ·grind
 ·obtain⟨m,l',e,rfl⟩:=y9 p hp
  by_cases hm:m=n
  ·subst hm;exact⟨m,Z3 l (Sum.inl day) (.int wt),by rw[V9,Y9,if_pos rfl,hkl];rfl,rfl⟩
  ·exact⟨m,l',by rw[V9,Y9,if_neg hm];exact e,rfl⟩
 ·rw[Ze (fun z=>hn (.inr (.inr (.inr (.inr (.inr ⟨n,l,hkl,z⟩))))))];exact e
 ·rcases hb with z | z | z | z | z | ⟨m,l',e,z⟩
  ·exact .inl (.inl z)
  ·exact .inl (.inr (.inl z))
  ·exact .inl (.inr (.inr (.inl z)))
  ·exact .inl (.inr (.inr (.inr (.inl z))))
  ·exact .inl (.inr (.inr (.inr (.inr (.inl z)))))
  ·obtain⟨l'',y⟩:=old m l' e;exact .inl (.inr (.inr (.inr (.inr (.inr ⟨m,l'',y,z⟩)))))
inductive VU(C:XW)(vs:aG)(H:Hp)(Q:VK)(z3:XK):Prop
 |mk(L) (ds) (n)(_:vs = [.ref L.p,.str n])(_:ZV C H L ds)(_:Z6 ds n=none)(_:Q .non H)
abbrev DE:Stmt:=Yr (top 37) 20
theorem Lb(Zc6:ZR K C "check_untold" "Folk.check_untold" DE)(Tc:WC K C):Mt P w K mg base C "check_untold" ["self","name"] 1 (VU C):=by
 refine Zc6.mq ["self","name"] fun H vs Q E hr h=>?_;obtain⟨L,ds,n,rfl,F,c5,k⟩:=h;refine⟨rfl,_,(Zg (Zp (Zq (JH hr) Q8 (Zx Q0) rfl) (Zg TV) Zo)),?_⟩;obtain⟨dx,ob⟩:=F.ob;obtain⟨kvs,e1,e2,e3⟩:=F.d;have g:=ZZ.k (k:=Sum.inr n) e1;rw[e3,c5] at g;exact⟨_,rfl,_,rfl,L.p,C,dx,_,_,rfl,ob,Tc.cl,Tc.nd,Av _ _ _ _,L.dd,_,rfl,g,_,rfl,Z4 k⟩
inductive VX(C:XW)(vs:aG)(H:Hp)(Q:VK)(z3:XK):Prop
 |mk(L) (ds) (n hr) (day dn dr)(_:vs = [.ref L.p,.str n,.int day,.str hr])(_:ZV C H L ds)(_:0<=day)(_:day<=9999)(_:Zn ds n=some dn)(_:dn<=day)(_:Zn ds hr=some dr)(_:dr<=day)(_:Z6 ds n=none)(_:Z6 ds hr=none)(_:hr≠n)(_:Q .non H)
abbrev Ew:Stmt:=Yr (top 37) 16
theorem NR(Zc7:ZR K C "check_death" "Folk.check_death" Ew)(Tc:WC K C)(Wi:Fn P w K mg base "check_day" ["day"] 1 VW)(M_check_known:Mt P w K mg base C "check_known" ["self","name"] 1 (WT C))(M_check_there:Mt P w K mg base C "check_there" ["self","name","day"] 1 (WV C))(M_check_untold:Mt P w K mg base C "check_untold" ["self","name"] 1 (VU C)) :
  Mt P w K mg base C "check_death" ["self","name","day","heir"] 2 (VX C):=by
 refine Zc7.mq ["self","name","day","heir"] fun H vs Q E hr h=>?_;obtain⟨L,ds,n,he,day,dn,dr,rfl,F,d0,d1,c1,c2,c3,c4,c5,c6,c7,k⟩:=h;refine⟨rfl,_,(Zc (Zj (Zk Wi (Za Q9 Zb))) (Zc (Zj (Wc Q0 Tc.cl M_check_known (Za Q8 Zb))) (Zc (Zj (Wc Q0 Tc.cl M_check_known (Za Qa Zb))) (Zc (Zj (Wc Q0 Tc.cl M_check_there (Za Q8 (Za Q9 Zb)))) (Zc (Zj (Wc Q0 Tc.cl M_check_there (Za Qa (Za Q9 Zb)))) (Zc (Zj (Wc Q0 Tc.cl M_check_untold (Za Q8 Zb))) (Zg (Zp (QW.pt (IX (Zq Yo Qa Q8 (Zu _)) (F7 (Zq (JH hr) Qa (Zx Q0) rfl)))) (Zg TV) Zo)))))))),?_⟩;obtain⟨dx,ob⟩:=F.ob;obtain⟨kvs,e1,e2,e3⟩:=F.d;have g:=ZZ.k (k:=Sum.inr n) e1;rw[e3,c5] at g;have g':=ZZ.k (k:=Sum.inr he) e1;rw[e3,c6] at g';have no:∀{m:Str},Da m->(V8 L.dc L.dw L.dd L.dh).lookup m=none:=fun h=>Yw _ _ _ _ h;refine⟨_,rfl,day,rfl,d0,d1,?_⟩;refine⟨_,rfl,L.p,dx,_,rfl,ob,no aA,_,rfl,L,ds,n,dn,rfl,F,c1,?_⟩;refine⟨_,rfl,L.p,dx,_,rfl,ob,no aA,_,rfl,L,ds,he,dr,rfl,F,c3,?_⟩;refine⟨_,rfl,L.p,dx,_,rfl,ob,no aA,_,rfl,_,rfl,L,ds,n,dn,day,rfl,F,c1,c2,?_⟩;refine⟨_,rfl,L.p,dx,_,rfl,ob,no aA,_,rfl,_,rfl,L,ds,he,dr,day,rfl,F,c3,c4,?_⟩;refine⟨_,rfl,L.p,dx,_,rfl,ob,no aA,_,rfl,L,ds,n,rfl,F,c5,?_⟩;refine⟨_,rfl,_,rfl,rfl,_,rfl,Zy (fun z=>absurd (by injection z) c7) (fun _=>?_)⟩;exact⟨_,rfl,_,rfl,L.p,C,dx,_,_,rfl,ob,Tc.cl,Tc.nd,Av _ _ _ _,L.dd,_,rfl,g',_,rfl,Z4 k⟩
inductive JY(C:XW)(vs:aG)(H:Hp)(Q:VK)(z3:XK):Prop
 |mk(L) (ds) (wa) (n hr) (day dn dr)(_:vs = [.ref L.p,.str n,.int day,.str hr])(_:Fk C H L ds wa)(_:ds.length<=1000)(_:0<=day)(_:day<=9999)(_:Zn ds n=some dn)(_:dn<=day)(_:Zn ds hr=some dr)(_:dr<=day)(_:Z6 ds n=none)(_:Z6 ds hr=none)(_:hr≠n)(_:∀H',Fk C H' L (ds ++ [.die n day hr]) wa->WZ L ds wa H H'->B1 L ds wa (ds ++ [.die n day hr]) wa H->Q .non H')
abbrev Gg:Stmt:=Yr (top 37) 3
theorem SO(Zhf:ZR K C "die" "Folk.die" Gg)(Tc:WC K C)(M_check_death:Mt P w K mg base C "check_death" ["self","name","day","heir"] 2 (VX C)) :
  Mt P w K mg base C "die" ["self","name","day","heir"] 3 (JY C):=by
 refine Zhf.mq ["self","name","day","heir"] fun H vs Q E hr h=>?_;obtain⟨L,ds,wa,n,he,day,dn,dr,rfl,K0,hl,d0,d1,b1,b2,b3,b4,b5,b6,b7,k⟩:=h;refine⟨rfl,_,(Zc (Zj (Wc Q0 Tc.cl M_check_death (Za Q8 (Za Q9 (Za Qa Zb))))) (Zc (Jt hr (Zx Q0) Q8 Q9) (Zg (Jt hr (Zx Q0) Q8 Qa)))),?_⟩;have F:=K0.f;obtain⟨⟨k5,x1,x2,x3⟩,⟨k6,o1,o2⟩,wap,winj⟩:=K0.w;obtain⟨k9,y8,y9⟩:=K0.all;have hkw:kw (ds ++ [.die n day he])=kw ds:=by rw[V9];rfl
 have hz:=aC
 obtain⟨dx0,ob0⟩:=F.ob;refine⟨_,rfl,L.p,dx0,_,rfl,ob0,Yw _ _ _ _ aA,_,rfl,_,rfl,_,rfl,L,ds,n,he,day,dn,dr,rfl,F,d0,d1,b1,b2,b3,b4,b5,b6,b7,?_⟩;obtain⟨⟨dx,ob⟩,⟨k1,c1,c2,c3⟩,⟨k2,w2,w3⟩,⟨k3,e1,e2,e3⟩,⟨k4,h1,h2,h3⟩,a1,a2,a3,a4,a5,a6⟩:=F;have np:L.p≠L.dd:=fun z=>by rw[z,e1] at ob;cases ob
 have np2:L.p≠L.dh:=fun z=>by rw[z,h1] at ob;cases ob
 refine⟨_,rfl,_,rfl,L.p,C,dx,_,_,rfl,ob,Tc.cl,Tc.nd,Av _ _ _ _,_,rfl,L.dd,_,rfl,YU.k (k:=Sum.inr n) e1 (by lia),?_⟩;have T1:=YS.updD (kvs':=Z3 k3 (Sum.inr n) (.int day)) e1;have g1:(upd H L.dd (.dK (Z3 k3 (Sum.inr n) (.int day)))) L.p=some (.ins C dx (V8 L.dc L.dw L.dd L.dh)):=by rw[Ze np];exact ob
 have g0:∀b o,b≠L.dd->H b=some o->(upd H L.dd (.dK (Z3 k3 (Sum.inr n) (.int day)))) b=some o:=fun b o nb e=>by rw[Ze nb];exact e
 have g2:(upd H L.dd (.dK (Z3 k3 (Sum.inr n) (.int day)))) L.dd=some (.dK (Z3 k3 (Sum.inr n) (.int day))):=Zi;have g3:(upd H L.dd (.dK (Z3 k3 (Sum.inr n) (.int day)))) L.dw=some (.dK k2):=by rw[Ze a4];exact w2
 have g4:(upd H L.dd (.dK (Z3 k3 (Sum.inr n) (.int day)))) L.dc=some (.dK k1):=by rw[Ze a2];exact c1
 have g5:(upd H L.dd (.dK (Z3 k3 (Sum.inr n) (.int day)))) L.dh=some (.dK k4):=by rw[Ze a6.symm];exact h1
 generalize (upd H L.dd (.dK (Z3 k3 (Sum.inr n) (.int day))))=H2 at T1 g0 g1 g2 g3 g4 g5 ⊢;refine⟨_,rfl,_,rfl,L.p,C,dx,_,_,rfl,g1,Tc.cl,Tc.nh,Ll _ _ _ _,_,rfl,L.dh,_,rfl,YU.k (k:=Sum.inr n) g5 (by lia),?_⟩;have T4:=YS.updD (kvs':=Z3 k4 (Sum.inr n) (.str he)) g5;have ll:=Vy k3 (Sum.inr n:ZU) (V.int day);have ll2:=Vy k4 (Sum.inr n:ZU) (V.str he);have lapp:(ds ++ [ZI.die n day he]).length=ds.length+1:=by rw[xF];rfl
 refine k _ ⟨⟨⟨dx,by rw[Ze np2];exact g1⟩,⟨k1,by rw[Ze a3];exact g4,by lia,fun x=>?_⟩,⟨k2,by rw[Ze a5];exact g3,by lia⟩,⟨_,by rw[Ze a6];exact g2,by lia,fun x=>?_⟩,⟨_,Zi,by lia,fun x=>?_⟩,a1,a2,a3,a4,a5,a6⟩,
  ⟨⟨k5,by rw[Ze a5];exact g0 _ _ a4 x1,by lia,fun m l e=>?_⟩,⟨k6,by rw[Ze a3];exact g0 _ _ a2 o1,?_⟩,fun m l e=>wap m l (by rw[← hkw];exact e),fun m m' l l' e e' z=>winj m m' l l' (by rw[← hkw];exact e) (by rw[← hkw];exact e') z⟩,⟨k9,by rw[Ze a5];exact g0 _ _ a4 y8,fun p hp=>?_⟩⟩ (fun b o e hn=>?_) (fun b hb=>?_)
 ·rw[Dr];exact c3 x
 ·rw[Uk,FI b5]
  by_cases e:x=n
  ·subst e;rw[if_pos rfl,if_pos rfl];rfl
  ·rw[if_neg (fun z=>e (Sum.inr.inj z)),if_neg e];exact e3 x
 ·rw[Uk,FI b5]
  by_cases e:x=n
  ·subst e;rw[if_pos rfl,if_pos rfl];rfl
  ·rw[if_neg (fun z=>e (Sum.inr.inj z)),if_neg e];exact h3 x
 ·rw[hkw] at e;obtain⟨q1,q2,q3⟩:=x3 m l e;obtain⟨_,_,z3,z4⟩:=wap m l e;exact⟨q1,by rw[Ze z4];exact g0 _ _ z3 q2,by lia⟩
 ·rw[Cv,o2];show _=((Vm ds)++[]).map V.str;rw[yD]
 ·obtain⟨m,l,e,q⟩:=y9 p hp;exact⟨m,l,by rw[hkw];exact e,q⟩
 ·rw[Ze (fun z=>hn (.inr (.inr (.inr (.inr (.inl z))))))];exact g0 b o (fun z=>hn (.inr (.inr (.inr (.inl z))))) e
 ·refine .inl ?_;unfold own at hb ⊢;rw[hkw] at hb;exact hb
end
def Up(H H':Hp):Prop:=∀b xs,H b=some (.tup xs)->H' b=some (.tup xs)
theorem Hj(hl:H l=some (.lst xs)):Up H (upd H l o):=fun b ys e=>by
 rw[Ze (fun z=>by rw[z,hl] at e;cases e)];exact e
abbrev Va:=List (Str×Int)
def CP(p:Str×Int):D:=.tup [.str p.1,.int p.2]
def DK(sd:Va):D:=.lst (sd.map CP)
def ZN(H:Hp):Va->List V->Prop
 | [],vs=>vs = []
 | p::r,vs=>∃a vs',vs = .ref a::vs'/\H a=some (.tup [.str p.1,.int p.2])/\ZN H r vs'
theorem ZN.mono(k:Up H H'):∀{sd:Va}{vs:aG},ZN H sd vs->ZN H' sd vs
 | [],_,h=>h
 | _::_,_,⟨a,vs',e,h1,h2⟩=>⟨a,vs',e,k _ _ h1,ZN.mono k h2⟩
theorem ZN.rep:∀{sd:Va}{vs:aG},ZN H sd vs->ZP H (sd.map CP) vs
 | [],_,h=>h
 | p::_,_,⟨a,vs',e,h1,h2⟩=>⟨.ref a,vs',e,⟨a,_,rfl,h1,⟨.str p.1,_,rfl,rfl,⟨.int p.2,[],rfl,rfl,rfl⟩⟩⟩,ZN.rep h2⟩
theorem ZN.of:∀{sd:Va}{vs:aG},ZP H (sd.map CP) vs->ZN H sd vs
 | [],_,h=>h
 | p::_,_,⟨v,vs',e,⟨a,us,e2,h1,⟨x,r1,e3,e4,⟨y,r2,e5,e6,e7⟩⟩⟩,h2⟩=>by
  subst e2 e7 e5 e3;cases e4;cases e6;exact⟨a,vs',e,h1,ZN.of h2⟩
theorem ZN.len(h:ZN H sd vs):vs.length=sd.length:=by
 have:=(ZN.rep h).length;rw[xA] at this;exact this
theorem ZN.get:∀{sd:Va}{vs:aG}{i:Nat}{v:V},ZN H sd vs->vs[i]? = some v->∃p a,sd[i]? = some p/\v = .ref a/\H a=some (.tup [.str p.1,.int p.2])
 | [],vs,i,v,h,e=>by cases h;simp at e
 | p::sd,vs,i,v,⟨a,vs',e1,h1,h2⟩,e=>by
  subst e1;cases i with
  | zero=>simp at e;subst e;exact⟨p,a,rfl,rfl,h1⟩
  | succ i=>simp at e;exact ZN.get (i:=i) h2 e
theorem ZN.snoc(hp:H a=some (.tup [.str p.1,.int p.2])):∀{sd:Va}{vs:aG},ZN H sd vs->ZN H (sd ++ [p]) (vs ++ [.ref a])
 | [],vs,h=>by cases h;exact⟨a,[],rfl,hp,rfl⟩
 | q::sd,vs,⟨b,vs',e,h1,h2⟩=>by subst e;exact⟨b,vs' ++ [.ref a],rfl,h1,ZN.snoc hp h2⟩
def wts(sd:Va):List Int:=sd.map (·.2)
def YO(sd:Va):Prop:=(∀p∈sd,1<=p.2/\p.2<=1000)/\sd.length<=60
theorem YO.bnd(h:YO sd):∀n∈wts sd,-1000000000<=n/\n<=1000000000:=fun n hn=>by
 obtain⟨p,hp,rfl⟩:=zE.mp hn;have:=h.1 p hp;show -1000000000<=p.2/\p.2<=1000000000;lia
theorem RC{sd:Va}{i:Nat}{p:Str×Int}(h:sd[i]? = some p):(wts sd)[i]? = some p.2:=by unfold wts;rw[xE,h];rfl
def YH(H:Hp)(sd:Va)(v:V):Prop:=∃a vs,v = .ref a/\H a=some (.lst vs)/\ZN H sd vs
theorem ZA.t(h:ZA H H'):Up H H':=fun b xs e=>h b _ e
theorem YH.mono(h:YH H sd v)(k:ZA H H'):YH H' sd v:=let ⟨a,vs,e,h1,h2⟩:=h;⟨a,vs,e,k _ _ h1,h2.mono fun b xs e=>k b _ e⟩
inductive UZ(vs:aG)(H:Hp)(Q:VK)(z3:XK):Prop
 |mk(v) (sd)(_:vs = [v])(_:YH H sd v)(_:YO sd)(_:∀H',ZA H H'->Q (.int (wts sd).sum) H')
theorem OK(ha:H a=some (.lst vs))(hr:ZN H sd vs)(hl:sd.length<=60)(hd:∀l,H l=none->Q (.ref l) (upd H l (.lst ((wts sd).map V.int)))) :
  Ul (Jw K a) 2 fv (TB K 2 (UF (Wp 0) (UF (Wp 1) EG))) (fun _ H Q=>Q true H) (YI 1) Q H:=by
 have hlen:=hr.len;refine Je (xs:=vs) (fun i ys H'=>H'=H/\ys=((wts sd).take i).map V.int) ⟨rfl,rfl⟩ (by lia) (fun i ys H' _ ⟨e,_⟩=>by rw[e];exact ZF.of ha) ?_ ?_ ?_
 ·rintro i ys H' ⟨_,rfl⟩;rw[xA,xT];lia
 ·rintro i x ys H' hx ⟨rfl,rfl⟩ ls hls;obtain⟨u,v,rfl⟩:=CG hls;obtain⟨p,b,hp,rfl,hb⟩:=hr.get hx;refine⟨b,_,rfl,ZS.of hb,rfl,_,_,rfl,_,_,rfl,rfl,⟨[_,_],rfl,rfl⟩,Z7 ?_⟩;refine⟨_,rfl,rfl,?_⟩;rw[xW,RC hp,xO];rfl
 ·rintro ys H' ⟨rfl,rfl⟩ l hl';have e:(wts sd).take vs.length=wts sd:=yV (by unfold wts;rw[xA];lia);rw[e];exact hd l hl'
abbrev HJ:Stmt:=top 34
theorem Ow(Zhh:YB K mg "total" HJ)(T:Txt mg):Fn P w K mg base "total" ["side"] 1 UZ:=by
 refine Zhh.fq ["side"] fun H vs Q E hr h=>?_;obtain⟨v,sd,rfl,⟨a,vs,rfl,ha,hr⟩,hL,k⟩:=h
 refine⟨rfl,_,(Zg (Zw (Z5 (CW (by rfl)) T.sum BW (Za (Vz (locs:=["name","weight"]) (fr:=[]) ⟨rfl,aA,aA,aA,aA,aA⟩ .nil rfl (Y6 Q0) ⟨fun _ _ _ _ _ _=>by
  have cnd:(inN ["name","weight"] []).Nodup:=aA
  exact⟨(Bp 2 (by rfl) (Yx (Wn 0 cnd) (Yx (Wn 1 cnd) V3))),U9,(Y1 1)⟩⟩) Zb)))),?_⟩
 refine⟨_,rfl,a,rfl,⟨_,ZF.of ha⟩,?_⟩;refine OK ha hr hL.2 fun l hl=>?_;exact⟨l,wts sd,rfl,ZF.of Zi,hL.bnd,by unfold wts;rw[xA];have:=hL.2;lia,k _ (ZA.new hl)⟩
structure ZT where
 ones:Va
 others:Va
 need:Int
 named:Option (Int×Str)
def Ao:Option (Int×Str)->D
 | none=>.non
 | some (c,n)=>.tup [.int c,.str n]
def Wo(t:ZT):D:=.tup [DK t.ones,DK t.others,.int t.need,Ao t.named]
theorem YH.of(h:YC H (DK sd) v):YH H sd v:=by
 obtain⟨a,vs,e,h1,h2⟩:=h;exact⟨a,vs,e,h1,ZN.of h2⟩
theorem Fv(h:YC H (Wo t) v):∃a u1 u2 u4,v = .ref a/\H a=some (.tup [u1,u2,.int t.need,u4])/\YH H t.ones u1/\YH H t.others u2/\YC H (Ao t.named) u4:=by
 obtain⟨a,vs,e,h1,⟨u1,r1,rfl,a1,⟨u2,r2,rfl,a2,⟨u3,r3,rfl,a3,⟨u4,r4,rfl,a4,a5⟩⟩⟩⟩⟩:=h;cases a3;cases a5;exact⟨a,u1,u2,u4,e,h1,.of a1,.of a2,a4⟩
theorem ZN.app(hb:ZN H b ws):∀{a:Va}{vs:aG},ZN H a vs->ZN H (a++b) (vs++ws)
 | [],vs,h=>by cases h;exact hb
 | p::a,vs,⟨c,vs',e,h1,h2⟩=>by subst e;exact⟨c,vs'++ws,rfl,h1,ZN.app hb h2⟩
theorem K7(ha:H a=some (.lst vs))(hr:ZN H sd vs)(hl:sd.length<=1000)(hd:∀l,H l=none->Q (.ref l) (upd H l (.lst ((sd.map (·.1)).map V.str)))) :
  Ul (Jw K a) 2 fv (TB K 2 (UF (Wp 0) (UF (Wp 1) EG))) (fun _ H Q=>Q true H) (YI 0) Q H:=by
 have hlen:=hr.len;refine Je (xs:=vs) (fun i ys H'=>H'=H/\ys=((sd.map (·.1)).take i).map V.str) ⟨rfl,rfl⟩ (by lia) (fun i ys H' _ ⟨e,_⟩=>by rw[e];exact ZF.of ha) ?_ ?_ ?_
 ·rintro i ys H' ⟨_,rfl⟩;rw[xA,xT];lia
 ·rintro i x ys H' hx ⟨rfl,rfl⟩ ls hls;obtain⟨u,v,rfl⟩:=CG hls;obtain⟨p,b,hp,rfl,hb⟩:=hr.get hx;refine⟨b,_,rfl,ZS.of hb,rfl,_,_,rfl,_,_,rfl,rfl,⟨[_,_],rfl,rfl⟩,Z7 ?_⟩;refine⟨_,rfl,rfl,?_⟩;have e:(sd.map (·.1))[i]? = some p.1:=by rw[xE,hp];rfl
  rw[xW,e,xO];rfl
 ·rintro ys H' ⟨rfl,rfl⟩ l hl';have e:(sd.map (·.1)).take vs.length=sd.map (·.1):=yV (by rw[xA];lia);rw[e];exact hd l hl'
def Uq(t:ZT):Prop:=YO t.ones/\YO t.others/\1<=t.need/\t.need<=12000
theorem Et(xs:aG)(c:Nat):Ut xs none (some (c:Int))=xs.take c:=by
 unfold Ut;rw[HT.sIx_none,HT.sIx_nat,List.drop_zero,Nat.sub_zero]
 by_cases h:c<=xs.length
 ·rw[Nat.min_eq_left h]
 ·grind
theorem GE(xs:aG)(c:Nat):Ut xs (some (c:Int)) none=xs.drop c:=by
 unfold Ut;rw[HT.sIx_none,HT.sIx_nat]
 by_cases h:c<=xs.length
 ·rw[Nat.min_eq_left h];exact yV (by rw[zY];lia)
 ·rw[Nat.min_eq_right (by lia),zM (xD _),zM (by lia)];exact List.take_nil
abbrev JE:=List (List ZU×V)
def Ym(c:Int)(n:Str):List ZU:=[.inl c,.inr n]
def brk(kvs:JE)(c:Int)(n:Str):Bool:=(Zz kvs (Ym c n)).isSome
def keep(br:Int->Str->Bool)(c:Int)(sd:Va):Va:=sd.filter fun p=>!br c p.1
def Ua(br:Int->Str->Bool)(c:Int)(sd:Va):Int:=(wts (keep br c sd)).sum
inductive TQ(vs:aG)(H:Hp)(Q:VK)(z3:XK):Prop
 |mk(c) (v) (g) (sd) (kvs)(_:vs = [.int c,v,.ref g])(_:YH H sd v)(_:YO sd)(_:H g=some (.dT kvs))(_:∀H',ZA H H'->Q (.int (Ua (brk kvs) c sd)) H')
theorem FW{br:Int->Str->Bool}{c:Int}{sd:Va}{i:Nat}{p:Str×Int}(h:sd[i]? = some p):keep br c (sd.take (i+1))=keep br c (sd.take i)++(if br c p.1 then [] else [p]):=by
 unfold keep;rw[xW,h,zG];cases e:br c p.1<;>simp[e]
abbrev CN:Stmt:=top 52
theorem X0:Nm (Zm CN) "case" .cell:=aA
theorem RN:Nm (Zm CN) "gone" .cell:=aA
theorem SF(Zhi:YB K mg "kept_weight" CN)(T:Txt mg):Fn P w K mg base "kept_weight" ["case","side","gone"] 1 TQ:=by
 refine Zhi.fq ["case","side","gone"] fun H vs Q E hr h=>?_;obtain⟨c,v,g,sd,kvs,rfl,⟨a,vs,rfl,ha,hrs⟩,hL,hg,k⟩:=h
 refine⟨rfl,_,(Zg (Zw (Z5 (CW (by rfl)) T.sum BW (Za (Vz (locs:=["name","weight"]) (fr:=[("case", 0),("gone", 2)]) ⟨rfl,aA,aA,aA,aA,aA⟩ (.consN X0 (.consN RN .nil)) rfl (Y6 Q8) ⟨fun _ _ _ _ _ _=>by
  have cnd:(inN ["name","weight"] [("case", 0),("gone", 2)]).Nodup:=aA
  exact⟨(Bp 2 (by rfl) (Yx (Wn 0 cnd) (Yx (Wn 1 cnd) V3))),(Ar (Zq (Ee hr) (Z9 (Za (Vh 2) (Za (Y1 0) Zb))) (Vh 3) rfl)),(Y1 1)⟩⟩) Zb)))),?_⟩
 have hz:(2000:Nat)<=sizeLine:=by decide
 have hvl:=hrs.len;have hl60:=hL.2;refine⟨_,rfl,a,rfl,⟨_,ZF.of ha⟩,?_⟩;refine Je (xs:=vs) (fun i ys H'=>ZA H H'/\ys=(wts (keep (brk kvs) c (sd.take i))).map V.int) ⟨fun _ _ e=>e,rfl⟩ (by lia) (fun i ys H' _ ⟨e,_⟩=>ZF.of (e _ _ ha)) ?_ ?_ ?_
 ·rintro i ys H' ⟨_,rfl⟩;unfold wts keep;rw[xA,xA];refine yC (yO _ _) ?_;rw[xT];lia
 ·rintro i x ys H' hx ⟨sm,rfl⟩ ls hls;obtain⟨w1,w2,rfl⟩:=CG hls;obtain⟨p,b,hp,rfl,hb⟩:=hrs.get hx;refine⟨b,_,rfl,ZS.of (sm _ _ hb),rfl,_,_,rfl,_,_,rfl,rfl,⟨[_,_],rfl,rfl⟩,?_⟩;refine⟨_,rfl,_,rfl,aB rfl,fun q hq=>?_⟩;refine nw (o:=.tup [.int c,.str p.1]) hq fun H1 S1 k1=>?_;refine⟨_,rfl,g,_,rfl,ZZ.t (S1 _ _ (sm _ _ hg)) (k:=Ym c p.1) k1,_,rfl,?_⟩;have e:=FW (br:=brk kvs) (c:=c) hp;show if (!brk kvs c p.1)=true then _ else _
  cases hb':brk kvs c p.1 with
  | true =>
   rw[hb',if_pos rfl,yD] at e;refine Z4 ?_;exact⟨sm.trans S1,by rw[e]⟩
  | false =>
   rw[hb',if_neg xL] at e;refine Z7 ?_;refine⟨_,rfl,sm.trans S1,?_⟩;rw[e];unfold wts;rw[xO,xO];rfl
 ·rintro ys H' ⟨sm,rfl⟩ l hl';rw[hvl,xX];refine⟨l,wts (keep (brk kvs) c sd),rfl,ZF.of Zi,fun n hn=>?_,?_,k _ (sm.trans (ZA.new hl'))⟩
  ·obtain⟨p,hp,rfl⟩:=zE.mp hn;exact hL.bnd _ (zE.mpr ⟨p,(List.mem_filter.mp hp).1,rfl⟩)
  ·unfold wts keep;rw[xA];exact yC (yO _ _) (by lia)
def Uv(br:Int->Str->Bool)(c:Int)(t:ZT):Int:=Ua br c t.ones - Ua br c t.others - t.need
def ZQ(H:Hp)(ss:List ZT)(l:XW):Prop:=∃us,H l=some (.lst us)/\ZP H (ss.map Wo) us
theorem ZQ.mono(h:ZQ H ss l)(k:ZA H H'):ZQ H' ss l:=let ⟨us,a,b⟩:=h;⟨us,k _ _ a,b.mono' k⟩
theorem ZQ.get{H:Hp}{ss:List ZT}{l:XW}{us:aG}{i:Nat}{t:ZT}(b:ZP H (ss.map Wo) us)(ht:ss[i]? = some t) :
  ∃ta u1 u2 u4,us[i]? = some (.ref ta)/\H ta=some (.tup [u1,u2,.int t.need,u4])/\YH H t.ones u1/\YH H t.others u2/\YC H (Ao t.named) u4:=by
 have hl:=b.length;rw[xA] at hl;have hi:i < us.length:=by rw[hl];exact(xH.mp ht).1
 have hu:us[i]? = some us[i]:=xB hi;obtain⟨d,hd,hr⟩:=b.get hu;rw[xE,ht] at hd;cases hd;obtain⟨ta,u1,u2,u4,e,h1,h2,h3,h4⟩:=Fv hr;exact⟨ta,u1,u2,u4,by rw[hu,e],h1,h2,h3,h4⟩
inductive UD(vs:aG)(H:Hp)(Q:VK)(z3:XK):Prop
 |mk(l g:XW) (c:Nat) (ss:List ZT) (t:ZT) (kvs:JE)(_:vs = [.ref l,.int c,.ref g])(_:ZQ H ss l)(_:ss[c]? = some t)(_:Uq t)(_:H g=some (.dT kvs))(_:∀H',ZA H H'->Q (.int (Uv (brk kvs) c t)) H')
abbrev FO:Stmt:=top 51
theorem OG(Zhj:YB K mg "margin_without" FO)(T:Txt mg)(C0:∃t,mg "ONES" = some (.int 0 t))(C1:∃t,mg "OTHERS" = some (.int 1 t))(C2:∃t,mg "NEED" = some (.int 2 t))(Zno:Fn P w K mg base "kept_weight" ["case","side","gone"] 1 TQ):Fn P w K mg base "margin_without" ["suits","case","gone"] 2 UD:=by
 obtain⟨t0,c_ONES⟩:=C0;obtain⟨t1,c_OTHERS⟩:=C1;obtain⟨t2,c_NEED⟩:=C2;have r_ONES:ZG (.int 0) (.int 0 t0):=⟨t0,rfl⟩;have r_OTHERS:ZG (.int 1) (.int 1 t1):=⟨t1,rfl⟩;have r_NEED:ZG (.int 2) (.int 2 t2):=⟨t2,rfl⟩;refine Zhj.fq ["suits","case","gone","suit"] fun H vs Q E hr h=>?_;obtain⟨l,g,c,ss,t,kvs,rfl,⟨us,hl,hrep⟩,ht,⟨L1,L2',_,_⟩,hg,k⟩:=h;refine⟨rfl,_,(Zc (Zv 3 (Zh Yb Q0 Q8 (fun _ _=>rfl))) (Zg (Zw (Z0 Jc (Z0 Jc (Zk Zno (Za Q8 (Za (Zh Zs Qa (Y8 c_ONES r_ONES) (fun _ _=>rfl)) (Za Q9 Zb)))) (Zk Zno (Za Q8 (Za (Zh Zs Qa (Y8 c_OTHERS r_OTHERS) (fun _ _=>rfl)) (Za Q9 Zb))))) (Zh Zs Qa (Y8 c_NEED r_NEED) (fun _ _=>rfl)))))),?_⟩;obtain⟨ta,u1,u2,u4,hu,hta,h1,h2,h4⟩:=ZQ.get (l:=l) hrep ht;refine⟨_,rfl,_,rfl,l,us,c,.ref ta,rfl,rfl,ZF.of hl,Yu hu,?_⟩;refine⟨_,rfl,_,rfl,ta,_,0,u1,rfl,rfl,ZS.of hta,rfl,_,rfl,c,u1,g,t.ones,kvs,rfl,h1,L1,hg,fun H1 s1=>?_⟩;refine⟨_,rfl,_,rfl,ta,_,1,u2,rfl,rfl,ZS.of (s1 _ _ hta),rfl,_,rfl,c,u2,g,t.others,kvs,rfl,h2.mono s1,L2',s1 _ _ hg,fun H2 s2=>?_⟩;refine⟨_,_,rfl,rfl,_,rfl,ta,_,2,_,rfl,rfl,ZS.of (s2 _ _ (s1 _ _ hta)),rfl,_,_,rfl,rfl,k H2 (s1.trans s2)⟩
abbrev A0:=Int×Str
def Yc(more:List A0):Nat->List ZT->List Bool×List A0
 | _,[]=>([],more)
 | i,t::r =>
  (decide (0<=Uv (fun c n=>decide ((c,n)∈(Yc more (i+1) r).2)) i t)::(Yc more (i+1) r).1,
   if decide (0<=Uv (fun c n=>decide ((c,n)∈(Yc more (i+1) r).2)) i t)=true then (Yc more (i+1) r).2++t.named.toList else (Yc more (i+1) r).2)
theorem Cg(more:List A0):∀ss i,(Yc more i ss).1.length=ss.length
 | [],_=>rfl
 | t::r,i=>by rw[Yc,yE,Cg more r (i+1),yE]
def WI(kvs:JE)(gn:List A0):Prop:=∀c n,brk kvs c n=decide ((c,n)∈gn)
theorem WI.put(h:WI kvs gn):WI (Z3 kvs (Ym c n) v) (gn ++ [(c,n)]):=by
 intro c' n';unfold brk;rw[Uk]
 by_cases e:Ym c' n'=Ym c n
 ·rw[if_pos e];have e':(c',n')=(c,n):=by
   unfold Ym at e;injection e with e1 e2
   injection e2 with e2 _
   cases e1;cases e2;rfl
  rw[e'];exact(yJ (xI _ (xR.mpr rfl))).symm
 ·rw[if_neg e];refine(h c' n').trans ?_;have e':¬(c',n')=(c,n):=fun z=>e (by injection z with z1 z2;rw[z1,z2]);have:((c',n')∈gn ++ [(c,n)])↔((c',n')∈gn):=by rw[xJ,xR];exact⟨fun z=>z.elim id (fun z=>absurd z e'),.inl⟩
  rw[decide_eq_decide];exact this.symm
theorem HG(r:List Bool)(b:Bool):∀c:Nat,((List.replicate (c+1) false++r).map V.bl).set c (.bl b)=(List.replicate c false++(b::r)).map V.bl
 | 0=>rfl
 | c+1=>by
  rw[yS,yF,yL,List.set_cons_succ,HG r b c,yS,yF,yL]
theorem Hh(r:List Bool)(b:Bool):∀c:Nat,((List.replicate c false++(b::r)).map V.bl)[c]? = some (.bl b)
 | 0=>rfl
 | c+1=>by
  rw[yS,yF,yL,List.getElem?_cons_succ];exact Hh r b c
theorem Rg(h:c < n):ixN n (c:Int)=some c:=by
 unfold ixN;rw[if_pos (by lia),if_pos (by lia),yP]
inductive UP(vs:aG)(H:Hp)(Q:VK)(z3:XK):Prop
 |mk(l m) (ss) (ms) (more)(_:vs = [.ref l,.ref m])(_:ZQ H ss l)(_:(∀t∈ss,Uq t))(_:ss.length<=1000)(_:H m=some (.lst ms))(_:ZP H (more.map fun x=>Ao (some x)) ms)(_:more.length<=1000)(_:∀l2 H',H l2=none->H' l2=some (.lst ((Yc more 0 ss).1.map V.bl))->ZA H H'->Q (.ref l2) H')
abbrev Ig:Stmt:=top 44
theorem OB(Zhk:YB K mg "settled_with" Ig)(T:Txt mg)(C3:∃t,mg "NAMED" = some (.int 3 t))(Zyg:Fn P w K mg base "margin_without" ["suits","case","gone"] 2 UD):Fn P w K mg base "settled_with" ["suits","more"] 3 UP:=by
 obtain⟨t3,c_NAMED⟩:=C3;have r_NAMED:ZG (.int 3) (.int 3 t3):=⟨t3,rfl⟩;refine Zhk.fq ["suits","more","gone","oath","standing","case"] fun H vs Q E hr h=>?_;obtain⟨l,m,ss,ms,more,rfl,hsu,hok,hlen,hm,hms,hml,k⟩:=h;refine⟨rfl,_,(Zc (Zv 2 GB) (Zc (Wq PassesOwn.never rfl (Y6 Q8) (Ye 3) (Zg (Jt hr Q9 Qa Ji))) (Zc (Zv 4 (Z0 IK (Yl (Za Ji Zb)) (Z5 Yp T.len Yh (Za Q0 Zb)))) (Zc (Wq PassesOwn.never rfl (Me T.range (Za (Z0 Jc (Z5 Yp T.len Yh (Za Q0 Zb)) Zd) (Za (J0 Jr Zd) (Za (J0 Jr Zd) Zb)))) (Ye 5) (Zc (Um (Uz J8 (Zk Zyg (Za Q0 (Za Qc (Za Q9 Zb)))) Zd (Zu _)) (A1 Qb Qc AL)) (Zg (Zp (QW.pt (Vl (Vd (Zh Yb Qb Qc (fun _ _=>rfl))) (Uo (Zq J9 (Zh Zs (Zh Yb Q0 Qc (fun _ _=>rfl)) (Y8 c_NAMED r_NAMED) (fun _ _=>rfl)) Y7 (Zu _))))) (Zg (Jt hr Q9 (Zh Zs (Zh Yb Q0 Qc (fun _ _=>rfl)) (Y8 c_NAMED r_NAMED) (fun _ _=>rfl)) Ji)) Zo)))) (Zg (Zw Qb)))))),?_⟩;have hz:=aC
 refine fun g hg=>?_;have S0:ZA H (upd H g (.dT [])):=ZA.new hg;have hml':ms.length=more.length:=by have:=hms.length;rw[xA] at this;exact this
 refine⟨_,rfl,m,rfl,⟨_,ZF.of (S0 _ _ hm)⟩,?_⟩;refine Vn ms (fun i σ H'=>∃(kvs:JE)(v3:Option V),σ = [some (.ref l),some (.ref m),some (.ref g),v3,none,none]/\H' g=some (.dT kvs)/\WI kvs (more.take i)/\kvs.length<=i/\ZA H H') ⟨[],none,rfl,Zi,fun c n=>rfl,xD _,S0⟩ (fun i σ H' _ ⟨_,_,_,_,_,_,e⟩=>ZF.of (e _ _ hm)) ?_ ?_
 ·rintro i x σ H' hx ⟨kvs,v3,rfl,hg',hgi,hkl,sm⟩;obtain⟨d,hd,hrd⟩:=hms.get hx;rw[xE] at hd;obtain⟨⟨c,n⟩,ho⟩:∃o,more[i]? = some o:=by cases e:more[i]? with | none=>rw[e] at hd;cases hd | some t=>exact⟨t,rfl⟩
  rw[ho] at hd;cases hd;obtain⟨b,bs,rfl,hb,⟨y1,r1,rfl,e1,⟨y2,r2,rfl,e2,e3⟩⟩⟩:=hrd;cases e1;cases e2;cases e3;have hi:i < ms.length:=(xH.mp hx).1;refine⟨_,rfl,_,rfl,g,_,rfl,YU.t hg' (k:=Ym c n) (sm _ _ hb) (by lia),?_⟩;refine⟨_,_,rfl,Zi,?_,yC (Vy _ _ _) (by lia),?_⟩
  ·rw[xW,ho];exact hgi.put
  ·intro b' o e;rw[Ze (fun z=>by rw[z,hg] at e;cases e)];exact sm b' o e
 ·rintro σ H1 ⟨kvs,v3,rfl,hg1,hgi,hkl,sm1⟩;rw[hml',xX] at hgi;obtain⟨us,hl1,hrep1⟩:=hsu.mono sm1;have hul:us.length=ss.length:=by have:=hrep1.length;rw[xA] at this;exact this
  refine⟨aB rfl,fun q hq=>?_⟩;refine nw (o:=.lst [.bl false]) hq fun H2 S2 k2=>?_;refine⟨_,rfl,l,us,rfl,.inl (ZF.of (S2 _ _ hl1)),q,_,_,rfl,rfl,k2,by lia,by lia,?_,fun st hst=>?_⟩
  ·rw[yP,hul];show 1 * ss.length<=sizeLine;lia
  have hstH:H st=none:=(sm1.trans S2).free hst;have hgst:g≠st:=fun z=>by rw[← z,S2 _ _ hg1] at hst;cases hst
  have S3:=ZA.new (o:=.lst (List.replicate (us.length:Int).toNat [V.bl false]).flatten) hst;have k3:(upd H2 st (.lst (List.replicate (us.length:Int).toNat [V.bl false]).flatten)) st=some (.lst ((List.replicate ss.length false).map V.bl)):=by
   rw[Zi,yP,hul];have:∀n:Nat,(List.replicate n [V.bl false]).flatten=(List.replicate n false).map V.bl:=by
    intro n
    induction n with
    | zero=>rfl
    | succ n ih=>rw[yS,zS,ih,yS,yL];rfl
   rw[this]
  generalize (upd H2 st (.lst (List.replicate (us.length:Int).toNat [V.bl false]).flatten))=H3 at S3 k3 ⊢;have S13:=S2.trans S3;have sm3:=sm1.trans S13;refine⟨_,rfl,l,us,rfl,.inl (ZF.of (S13 _ _ hl1)),_,_,rfl,rfl,_,rfl,_,rfl,_,_,rfl,⟨by lia,by lia,aA,aA⟩,?_⟩
  refine IL ss.length (by lia) (fun i σ H'=>∃(kvs:JE)(v3 v5:Option V),σ = [some (.ref l),some (.ref m),some (.ref g),v3,some (.ref st),v5]/\
    H' st=some (.lst ((List.replicate (ss.length - i) false++(Yc more (ss.length - i) (ss.drop (ss.length - i))).1).map V.bl))/\H' g=some (.dT kvs)/\WI kvs (Yc more (ss.length - i) (ss.drop (ss.length - i))).2/\kvs.length<=1000+i/\ZA H H')
   ⟨kvs,_,none,rfl,?_,S13 _ _ hg1,?_,by lia,sm3⟩ ?_ ?_
  ·rw[Nat.sub_zero,List.drop_length,Yc,yD];exact k3
  ·rw[Nat.sub_zero,List.drop_length,Yc];exact hgi
  ·rintro i σ H' hi ⟨kvs,v3,v5,rfl,hst',hg',hgi',hkl',sm'⟩;obtain⟨c,hc⟩:∃c,ss.length - i=c+1:=⟨ss.length - i - 1,by lia⟩;have hc2:ss.length - (i+1)=c:=by lia
   have hcl:c < ss.length:=by lia
   have ec:((us.length:Int) - 1 - (i:Nat))=((c:Nat):Int):=by lia
   rw[hc] at hst' hgi';rw[ec,hc2];have ht:ss[c]? = some ss[c]:=xB hcl;have htm:ss[c]∈ss:=zF hcl;have ed:ss.drop c=ss[c]::ss.drop (c+1):=zI hcl;rw[ed];generalize ss[c]=t at ht htm ed ⊢;obtain⟨us',hl',hrep'⟩:=hsu.mono sm';have hg'':brk kvs=fun(a:Int) (n:Str)=>decide ((a,n)∈(Yc more (c+1) (ss.drop (c+1))).2):=funext fun a=>funext fun b=>hgi' a b;have hset:Yc more c (t::ss.drop (c+1))=(decide (0<=Uv (brk kvs) c t)::(Yc more (c+1) (ss.drop (c+1))).1,if decide (0<=Uv (brk kvs) c t)=true then (Yc more (c+1) (ss.drop (c+1))).2++t.named.toList else (Yc more (c+1) (ss.drop (c+1))).2):=by rw[hg'',Yc]
   rw[hset];generalize Yc more (c+1) (ss.drop (c+1))=R at hst' hgi' ⊢;refine⟨_,rfl,_,rfl,_,rfl,l,g,c,ss,t,kvs,rfl,hsu.mono sm',ht,hok t htm,hg',fun H4 s4=>?_⟩;have hst4:=s4 _ _ hst';refine⟨Uv (brk kvs) c t,0,rfl,rfl,_,rfl,_,rfl,st,_,c,c,rfl,rfl,hst4,?_,?_⟩
   ·exact Rg (by rw[xA,xF,zP];lia)
   dsimp only;generalize decide (0<=Uv (brk kvs) c t)=b;rw[HG];have sm5:ZA H (upd H4 st (.lst ((List.replicate c false++(b::R.1)).map V.bl))):=fun x o e=>by
    rw[Ze (fun z=>by rw[z,hstH] at e;cases e)];exact s4 _ _ (sm' _ _ e)
   have k5:(upd H4 st (.lst ((List.replicate c false++(b::R.1)).map V.bl))) st=some (.lst ((List.replicate c false++(b::R.1)).map V.bl)):=Zi;have hg5:(upd H4 st (.lst ((List.replicate c false++(b::R.1)).map V.bl))) g=some (.dT kvs):=by rw[Ze hgst];exact s4 _ _ hg'
   generalize (upd H4 st (.lst ((List.replicate c false++(b::R.1)).map V.bl)))=H5 at sm5 k5 hg5 ⊢;obtain⟨us5,hl5,hrep5⟩:=hsu.mono sm5;obtain⟨ta,u1,u2,u4,hu,hta,h1,h2,h4⟩:=ZQ.get (l:=l) hrep5 ht;refine⟨_,rfl,_,rfl,st,_,c,.bl b,rfl,rfl,ZF.of k5,Yu (Hh ..),b,rfl,?_⟩;cases b with
   | false =>
    refine Z4 (Z4 ?_);exact⟨kvs,_,_,rfl,k5,hg5,hgi',by lia,sm5⟩
   | true =>
    refine Z7 ?_;refine⟨_,rfl,_,rfl,l,us5,c,.ref ta,rfl,rfl,ZF.of hl5,Yu hu,ta,_,3,u4,rfl,rfl,ZS.of hta,rfl,rfl,_,rfl,?_⟩;cases hn:t.named with
    | none =>
     rw[hn] at h4;cases h4;refine Z4 ?_;exact⟨kvs,_,_,rfl,k5,hg5,by show WI kvs (R.2 ++ []);rw[yD];exact hgi',by lia,sm5⟩
    | some o =>
     rw[hn] at h4;obtain⟨oc,on⟩:=o;obtain⟨d,bs,rfl,hb,⟨y1,r1,rfl,e1,⟨y2,r2,rfl,e2,e3⟩⟩⟩:=h4;cases e1;cases e2;cases e3;refine Z7 ?_;refine⟨_,rfl,_,rfl,_,rfl,l,us5,c,.ref ta,rfl,rfl,ZF.of hl5,Yu hu,ta,_,3,.ref d,rfl,rfl,ZS.of hta,rfl,?_⟩;refine⟨g,_,rfl,YU.t hg5 (k:=Ym oc on) hb (by lia),?_⟩;refine⟨_,_,_,rfl,by rw[Ze hgst.symm];exact k5,Zi,hgi'.put,yC (Vy _ _ _) (by lia),?_⟩;intro b' o e;rw[Ze (fun z=>by rw[z,hg] at e;cases e)];exact sm5 b' o e
  ·rintro σ H' ⟨kvs,v3,v5,rfl,hst',hg',hgi',hkl',sm'⟩;rw[Nat.sub_self] at hst';exact⟨_,rfl,k st H' hstH hst' sm'⟩
inductive UJ(vs:aG)(H:Hp)(Q:VK)(z3:XK):Prop
 |mk(l) (ss)(_:vs = [.ref l])(_:ZQ H ss l)(_:(∀t∈ss,Uq t))(_:ss.length<=1000)(_:∀l2 H',H l2=none->H' l2=some (.lst ((Yc [] 0 ss).1.map V.bl))->ZA H H'->Q (.ref l2) H')
abbrev Kr:Stmt:=top 43
theorem KB(Zhl:YB K mg "settled" Kr)(T:Txt mg)(Zyi:Fn P w K mg base "settled_with" ["suits","more"] 3 UP):Fn P w K mg base "settled" ["suits"] 4 UJ:=by
 refine Zhl.fq ["suits"] fun H vs Q E hr h=>?_;obtain⟨l,ss,rfl,hsu,hok,hlen,k⟩:=h;refine⟨rfl,_,(Zg (Zw (Zk Zyi (Za Q0 (Za (Yl Zb) Zb))))),?_⟩;refine⟨_,rfl,aB rfl,fun q hq=>?_⟩;have S:=ZA.new (o:=.lst []) hq;exact⟨l,q,ss,[],[],rfl,hsu.mono S,hok,hlen,Zi,rfl,yN _,fun l2 H' h1 h2 h3=>k l2 H' (S.free h1) h2 (S.trans h3)⟩
def Fx(bs:List Bool)(ss:List ZT)(c:Nat)(n:Str):Prop:=∃j t,c < j/\ss[j]? = some t/\bs[j]? = some true/\t.named=some ((c:Int),n)
def Ve(cs:List Nat):List V:=cs.map fun(c:Nat)=>V.int (c:Int)
def nmd(ss:List ZT)(c:Int)(n:Str)(j:Nat):Bool:=match ss[j]? with
 | some u=>decide (u.named=some (c,n))
 | none=>false
theorem nmd_iff:nmd ss c n j=true↔∃u,ss[j]? = some u/\u.named=some (c,n):=by
 unfold nmd;cases e:ss[j]? with
 | none=>exact⟨(fun z=>nomatch z),(fun⟨u,z,_⟩=>nomatch z)⟩
 | some u=>exact⟨fun z=>⟨u,rfl,of_decide_eq_true z⟩,fun⟨v,z,q⟩=>by cases z;exact yJ q⟩
def Wu(ss:List ZT)(c:Int)(n:Str)(cs:List Nat):List Nat:=cs.filter (nmd ss c n)
theorem CY{ss:List ZT}{c:Int}{n:Str}{cs:List Nat}{i j:Nat}(h:cs[i]? = some j):Wu ss c n (cs.take (i+1))=Wu ss c n (cs.take i)++(if nmd ss c n j then [j] else []):=by
 unfold Wu;rw[xW,h,zG];cases e:nmd ss c n j<;>simp[e]
theorem NM(ss:List ZT)(c:Int)(n:Str)(cs:List Nat):(Wu ss c n cs).length<=cs.length:=yO _ _
def HE(H:Hp)(g:XW)(ss:List ZT)(cs:List Nat):Prop:=∃kvs:JE,H g=some (.dT kvs)/\kvs.length<=cs.length/\(∀p∈kvs,∃c n,p.1=Ym c n/\Wu ss c n cs ≠ [])/\∀c n,(Zz kvs (Ym c n)=none/\Wu ss c n cs = [])\/∃a,Zz kvs (Ym c n)=some (.ref a)/\H a=some (.lst (Ve (Wu ss c n cs)))
structure B9 (H H':Hp) (g:XW) (ss:List ZT) (cs:List Nat) (kvs:JE):Prop where
 at_:H' g=some (.dT kvs)
 len:kvs.length<=cs.length
 keys:∀p∈kvs,∃c n,p.1=Ym c n/\Wu ss c n cs ≠ []
 no:∀c n,Zz kvs (Ym c n)=none->Wu ss c n cs = []
 yes:∀c n v,Zz kvs (Ym c n)=some v->∃a,v = .ref a/\H a=none/\a≠g/\H' a=some (.lst (Ve (Wu ss c n cs)))
 one:∀c n c' n' a,Zz kvs (Ym c n)=some (.ref a)->Zz kvs (Ym c' n')=some (.ref a)->(c,n)=(c',n')
inductive VT(vs:aG)(H:Hp)(Q:VK)(z3:XK):Prop
 |mk(l lc) (ss) (cs)(_:vs = [.ref l,.ref lc])(_:ZQ H ss l)(_:cs.length<=1000)(_:(∀j∈cs,j < ss.length))(_:H lc=some (.lst (Ve cs)))(_:∀g H',H g=none->HE H' g ss cs->(∀kvs c n a,H' g=some (.dT kvs)->Zz kvs (Ym c n)=some (.ref a)->H a=none)->ZA H H'->Q (.ref g) H')
theorem Dv(e:Ym c n=Ym c' n'):(c,n)=(c',n'):=by
 unfold Ym at e;injection e with e1 e2
 injection e2 with e2 _
 cases e1;cases e2;rfl
theorem Rp{l:JE}{k:List ZU}{v:V}{p:List ZU×V}(h:p∈Z3 l k v):p=(k,v)\/p∈l:=by
 unfold Z3 at h;split at h
 ·grind
 ·grind
abbrev GG:Stmt:=top 48
theorem MZ(Zhm:YB K mg "naming" GG)(T:Txt mg)(C3:∃t,mg "NAMED" = some (.int 3 t)):Fn P w K mg base "naming" ["suits","cases"] 1 VT:=by
 obtain⟨t3,c_NAMED⟩:=C3;have r_NAMED:ZG (.int 3) (.int 3 t3):=⟨t3,rfl⟩;refine Zhm.fq ["suits","cases","named_by","case","oath"] fun H vs Q E hr h=>?_;obtain⟨l,lc,ss,cs,rfl,hsu,hlen,hcs,hlc,k⟩:=h;refine⟨rfl,_,(Zc (Zv 2 GB) (Zc (Wq PassesOwn.never rfl (Y6 Q8) (Ye 3) (Zc (Zv 4 (Zh Zs (Zh Yb Q0 Qa (fun _ _=>rfl)) (Y8 c_NAMED r_NAMED) (fun _ _=>rfl))) (Zg (Zp (Zq J9 Qb Y7 (Zu _)) (Zg (Zj (Y4 aD aE aF Wb (Sl hr Q9 Qb (Yl Zb)) (Za Qa Zb)))) Zo)))) (Zg (Zw Q9)))),?_⟩;have hz:=aC
 refine fun g hg=>?_;have S0:ZA H (upd H g (.dT [])):=ZA.new hg;refine⟨_,rfl,lc,rfl,⟨_,ZF.of (S0 _ _ hlc)⟩,?_⟩;refine Vn (Ve cs) (fun i σ H'=>∃(kvs:JE)(v3 v4:Option V),σ = [some (.ref l),some (.ref lc),some (.ref g),v3,v4]/\B9 H H' g ss (cs.take i) kvs/\ZA H H') ⟨[],none,none,rfl,⟨Zi,xD _,(fun p hp=>nomatch hp),fun c n _=>rfl,(fun c n v e=>nomatch e),(fun c n c' n' a e=>nomatch e)⟩,S0⟩ (fun i σ H' _ ⟨_,_,_,_,_,e⟩=>ZF.of (e _ _ hlc)) ?_ ?_
 ·rintro i x σ H' hx ⟨kvs,v3,v4,rfl,I,sm⟩;have hi:i < cs.length:=by
   have:=(xH.mp hx).1;unfold Ve at this;rw[xA] at this;exact this
  obtain⟨j,hcj,ex⟩:∃j,cs[i]? = some j/\x = .int (j:Int):=by
   unfold Ve at hx;rw[xE] at hx;obtain⟨j,h1,h2⟩:=xP.mp hx;exact⟨j,h1,h2.symm⟩
  subst ex;have tl:(cs.take i).length=i:=by rw[xT];lia
  have tl1:(cs.take (i+1)).length=i+1:=by rw[xT];lia
  have more:∀c n,Wu ss c n (cs.take i)≠ []->Wu ss c n (cs.take (i+1))≠ []:=fun c n h z=>by
   rw[CY hcj] at z;exact h (List.append_eq_nil_iff.mp z).1
  have hlen':=I.len;rw[tl] at hlen';obtain⟨t,ht⟩:∃t,ss[j]? = some t:=⟨_,xB (hcs j (xM hcj))⟩;obtain⟨us,hl',hrep⟩:=hsu.mono sm;obtain⟨ta,u1,u2,u4,hu,hta,_,_,h4⟩:=ZQ.get (l:=l) hrep ht;refine⟨_,rfl,_,rfl,l,us,j,.ref ta,rfl,rfl,ZF.of hl',Yu hu,ta,_,3,u4,rfl,rfl,ZS.of hta,rfl,?_⟩;cases hn:t.named with
  | none =>
   rw[hn] at h4;cases h4;refine⟨_,rfl,rfl,_,rfl,Vq (fun z=>absurd rfl z) (fun _=>?_)⟩;have same:∀c n,Wu ss c n (cs.take (i+1))=Wu ss c n (cs.take i):=fun c n=>by
    rw[CY hcj];have:nmd ss c n j=false:=by
     cases e:nmd ss c n j with
     | false=>rfl
     | true=>obtain⟨u,q1,q2⟩:=nmd_iff.mp e;rw[ht] at q1;cases q1;rw[hn] at q2;cases q2
    rw[this,if_neg xL,yD]
   exact⟨kvs,_,_,rfl,⟨I.at_,by lia,fun p hp=>let ⟨c,n,e,h⟩:=I.keys p hp;⟨c,n,e,more c n h⟩,fun c n e=>by rw[same];exact I.no c n e,fun c n v e=>by rw[same];exact I.yes c n v e,I.one⟩,sm⟩
  | some o =>
   rw[hn] at h4;obtain⟨c0,n0⟩:=o;obtain⟨b,bs,rfl,hb,⟨y1,r1,rfl,e1,⟨y2,r2,rfl,e2,e3⟩⟩⟩:=h4;cases e1;cases e2;cases e3;have mine:Wu ss c0 n0 (cs.take (i+1))=Wu ss c0 n0 (cs.take i)++[j]:=by rw[CY hcj,nmd_iff.mpr ⟨t,ht,hn⟩,if_pos rfl]
   have same:∀c n,(c,n)≠(c0,n0)->Wu ss c n (cs.take (i+1))=Wu ss c n (cs.take i):=fun c n hne=>by
    rw[CY hcj];have:nmd ss c n j=false:=by
     cases e:nmd ss c n j with
     | false=>rfl
     | true=>obtain⟨u,q1,q2⟩:=nmd_iff.mp e;rw[ht] at q1;cases q1;rw[hn] at q2;exact absurd (Option.some.inj q2).symm hne
    rw[this,if_neg xL,yD]
   have snocV:Ve (Wu ss c0 n0 (cs.take i))++[V.int j]=Ve (Wu ss c0 n0 (cs.take (i+1))):=by rw[mine];unfold Ve;rw[xO];rfl
   have jl:=NM ss c0 n0 (cs.take i);rw[tl] at jl;refine⟨_,rfl,rfl,_,rfl,Vq (fun _=>?_) (fun z=>nomatch z)⟩;refine⟨_,rfl,g,rfl,.inr ⟨kvs,.inl I.at_⟩,_,rfl,aB rfl,fun q hq=>?_⟩;have Sq:=ZA.new (o:=.lst []) hq;have kq:(upd H' q (.lst [])) q=some (.lst []):=Zi;have gq:q≠g:=fun z=>by rw[z,I.at_] at hq;cases hq
   have hqH:H q=none:=sm.free hq;generalize (upd H' q (.lst []))=H1 at Sq kq ⊢;have smq:=sm.trans Sq;refine⟨kvs,Ym c0 n0,b,Sq _ _ I.at_,rfl,Sq _ _ hb,by lia,fun v hv=>?_,fun hv=>?_⟩
   ·obtain⟨a,rfl,haf,hag,ha⟩:=I.yes c0 n0 v hv;have ha1:=Sq _ _ ha;refine⟨.inl ⟨rfl,_,ZF.of ha1⟩,_,rfl,a,_,_,rfl,rfl,ha1,by unfold Ve;rw[xA];lia,?_⟩;refine⟨kvs,_,_,rfl,⟨?_,by lia,fun p hp=>let ⟨c,n,e,h⟩:=I.keys p hp;⟨c,n,e,more c n h⟩,fun c n e=>?_,fun c n v e=>?_,I.one⟩,?_⟩
    ·rw[Ze hag.symm];exact Sq _ _ I.at_
    ·rw[same c n (fun z=>by cases z;rw[hv] at e;cases e)];exact I.no c n e
    ·obtain⟨a',rfl,h1,h2,h3⟩:=I.yes c n v e;refine⟨a',rfl,h1,h2,?_⟩
     by_cases hk:(c,n)=(c0,n0)
     ·cases hk;rw[hv] at e;cases e;rw[Zi,snocV]
     ·rw[same c n hk,Ze (fun z=>hk (by rw[z] at e;exact I.one c n c0 n0 a e hv))];exact Sq _ _ h3
    ·intro b' o e;rw[Ze (fun z=>by rw[z,haf] at e;cases e)];exact smq b' o e
   ·have hg2:(upd H1 g (.dT (Z3 kvs (Ym c0 n0) (.ref q)))) q=some (.lst []):=by rw[Ze gq];exact kq
    refine⟨.inl ⟨rfl,_,ZF.of hg2⟩,_,rfl,q,_,_,rfl,rfl,hg2,by show 0 < sizeLine;lia,?_⟩;have j0:=I.no c0 n0 hv;refine⟨Z3 kvs (Ym c0 n0) (.ref q),_,_,rfl,⟨?_,yC (Vy _ _ _) (by lia),fun p hp=>?_,fun c n e=>?_,fun c n v e=>?_,fun c n c' n' a e e'=>?_⟩,?_⟩
    ·rw[Ze gq.symm,Zi]
    ·rcases Rp hp with rfl | hp
     ·exact⟨c0,n0,rfl,by rw[mine];simp⟩
     ·obtain⟨c,n,e,h⟩:=I.keys p hp;exact⟨c,n,e,more c n h⟩
    ·rw[Uk] at e
     by_cases hk:Ym c n=Ym c0 n0
     ·rw[if_pos hk] at e;cases e
     ·rw[if_neg hk] at e;rw[same c n (fun z=>hk (by cases z;rfl))];exact I.no c n e
    ·rw[Uk] at e
     by_cases hk:Ym c n=Ym c0 n0
     ·rw[if_pos hk] at e;cases e;have hk':=Dv hk;cases hk';exact⟨q,rfl,hqH,gq,by rw[Zi,mine,j0];rfl⟩
     ·rw[if_neg hk] at e;obtain⟨a',rfl,h1,h2,h3⟩:=I.yes c n v e;refine⟨a',rfl,h1,h2,?_⟩;have aq:a'≠q:=fun z=>by rw[z,hq] at h3;cases h3
      rw[same c n (fun z=>hk (by cases z;rfl)),Ze aq,Ze h2];exact Sq _ _ h3
    ·rw[Uk] at e e';have no:∀c n,Zz kvs (Ym c n)=some (.ref q)->False:=fun c n z=>by
      obtain⟨a',z1,_,_,h3⟩:=I.yes c n _ z;cases z1;rw[hq] at h3;cases h3
     by_cases hk:Ym c n=Ym c0 n0
     ·by_cases hk':Ym c' n'=Ym c0 n0
      ·exact(Dv hk).trans (Dv hk').symm
      ·rw[if_pos hk] at e;rw[if_neg hk'] at e';cases e;exact(no _ _ e').elim
     ·rw[if_neg hk] at e
      by_cases hk':Ym c' n'=Ym c0 n0
      ·rw[if_pos hk'] at e';cases e';exact(no _ _ e).elim
      ·rw[if_neg hk'] at e';exact I.one _ _ _ _ _ e e'
    ·intro b' o e;rw[Ze (fun z=>by rw[z,hqH] at e;cases e),Ze (fun z=>by rw[z,hg] at e;cases e)];exact smq b' o e
 ·rintro σ H' ⟨kvs,v3,v4,rfl,I,sm⟩;have el:(Ve cs).length=cs.length:=by unfold Ve;rw[xA]
  rw[el,xX] at I;refine⟨_,rfl,k g H' hg ⟨kvs,I.at_,I.len,I.keys,fun c n=>?_⟩ (fun kvs2 c n a e1 e2=>?_) sm⟩
  ·cases e:Zz kvs (Ym c n) with
   | none=>exact .inl ⟨rfl,I.no c n e⟩
   | some v =>
    obtain⟨a,rfl,_,_,h3⟩:=I.yes c n v e;exact .inr ⟨a,rfl,h3⟩
  ·rw[I.at_] at e1;cases e1;obtain⟨a',z,hz',_,_⟩:=I.yes c n _ e2;cases z;exact hz'
def stT(bs:List Bool)(i:Nat):List Nat:=(List.range i).filter fun j=>bs.getD j false
def stL(bs:List Bool):List Nat:=stT bs bs.length
theorem NU{bs:List Bool}{i:Nat}{b:Bool}(h:bs[i]? = some b):stT bs (i+1)=stT bs i++(if b then [i] else []):=by
 unfold stT;rw[List.range_succ,zG];cases b<;>simp[h]
theorem Gh(bs:List Bool)(i:Nat):(stT bs i).length<=i:=yC (yO _ _) (by rw[List.length_range];exact xD _)
theorem stL_mem:j∈stL bs↔bs[j]? = some true:=by
 unfold stL stT;rw[List.mem_filter,wG,xZ];constructor
 ·grind
 ·intro h;exact⟨(xH.mp h).1,by rw[h];rfl⟩
abbrev Jm(ss:List ZT):List Bool:=(Yc [] 0 ss).1
def Cc(ss:List ZT)(c:Int)(n:Str):List Nat:=Wu ss c n (stL (Jm ss))
inductive VE(vs:aG)(H:Hp)(Q:VK)(z3:XK):Prop
 |mk(l) (ss)(_:vs = [.ref l])(_:ZQ H ss l)(_:(∀t∈ss,Uq t))(_:ss.length<=1000)(_:∀g H',H g=none->HE H' g ss (stL (Jm ss))->(∀kvs c n a,H' g=some (.dT kvs)->Zz kvs (Ym c n)=some (.ref a)->H a=none)->ZA H H'->Q (.ref g) H')
abbrev Fh:Stmt:=top 47
theorem Qs(Zhn:YB K mg "breaking" Fh)(T:Txt mg)(Zho:Fn P w K mg base "settled" ["suits"] 4 UJ)(Zyl:Fn P w K mg base "naming" ["suits","cases"] 1 VT) :
  Fn P w K mg base "breaking" ["suits"] 5 VE:=by
 refine Zhn.fq ["suits"] fun H vs Q E hr h=>?_;obtain⟨l,ss,rfl,hsu,hok,hlen,k⟩:=h
 refine⟨rfl,_,(Zg (Zw (Zk Zyl (Za Q0 (Za (Vz (locs:=["case","stands"]) (fr:=[]) ⟨rfl,aA,aA,aA,aA,aA⟩ .nil rfl (Hg T.enumerate (Za (Zk Zho (Za Q0 Zb)) Zb)) ⟨fun _ _ _ _ _ _=>by
  have cnd:(inN ["case","stands"] []).Nodup:=aA
  exact⟨(Bp 2 (by rfl) (Yx (Wn 0 cnd) (Yx (Wn 1 cnd) V3))),(Ar (Vd (Y1 1))),(Y1 0)⟩⟩) Zb))))),?_⟩
 refine⟨_,rfl,_,rfl,l,ss,rfl,hsu,hok,hlen,fun tl H1 h1 h2 sm1=>?_⟩;have hbl:(Jm ss).length=ss.length:=Cg [] ss 0;refine⟨tl,_,rfl,ZF.of h2,?_⟩;refine Qo ((Jm ss).map V.bl) (fun i ys H'=>ZA H1 H'/\ys=Ve (stT (Jm ss) i)) ⟨fun _ _ e=>e,rfl⟩ (by rw[xA];lia) (fun i ys H' _ ⟨e,_⟩=>ZF.of (e _ _ h2)) ?_ ?_ ?_
 ·rintro i ys H' ⟨_,rfl⟩;unfold Ve;rw[xA];exact Gh _ _
 ·rintro i x p ys H' hx ⟨sm,rfl⟩ hp ls hls;obtain⟨w1,w2,rfl⟩:=CG hls;refine nw (o:=.tup [.int i,x]) hp fun H2 Sp kp=>?_;obtain⟨b,hb,rfl⟩:∃b,(Jm ss)[i]? = some b/\x = .bl b:=by grind
  refine⟨p,_,rfl,ZS.of kp,rfl,_,_,rfl,_,_,rfl,rfl,⟨[_,_],rfl,rfl⟩,?_⟩;refine⟨_,rfl,b,rfl,?_⟩;have e:=NU hb;cases b with
  | true =>
   refine Z7 ?_;refine⟨_,rfl,sm.trans Sp,?_⟩;rw[e];unfold Ve;rw[xO];rfl
  | false =>
   refine Z4 ?_;exact⟨sm.trans Sp,by rw[e];simp⟩
 ·rintro ys H' ⟨sm,rfl⟩ lc hlc;rw[xA];have Sc:=ZA.new (o:=.lst (Ve (stL (Jm ss)))) hlc;have S:=(sm1.trans sm).trans Sc;have hl9:=Gh (Jm ss) (Jm ss).length;refine⟨l,lc,ss,stL (Jm ss),rfl,hsu.mono S,by unfold stL;lia,fun j hj=>?_,Zi,fun g H2 hg hnb hfr sm2=>?_⟩
  ·rw[← hbl];exact(xH.mp (stL_mem.mp hj)).1
  ·exact k g H2 (S.free hg) hnb (fun kvs c n a e1 e2=>S.free (hfr kvs c n a e1 e2)) (S.trans sm2)
section
variable{K:uFg}{C CM:XW}
def fz(xs:XS)(H:Hp):Hp:=fun b=>if b∈xs then H b else match H b with
 | some (.tup t)=>some (.tup t)
 | _=>none
theorem Bd(h:fz xs H b=some o):H b=some o/\(b∈xs\/∃t,o = .tup t):=by
 unfold fz at h;split at h
 ·rename_i m;exact⟨h,.inl m⟩
 ·split at h
  ·rename_i t e;cases h;exact⟨e,.inr ⟨t,rfl⟩⟩
  ·cases h
theorem Ub(m:b∈xs)(h:H b=some o):fz xs H b=some o:=by unfold fz;rw[if_pos m];exact h
theorem Y2(h:H b=some (.tup t)):fz xs H b=some (.tup t):=by
 unfold fz;split
 ·exact h
 ·rw[h]
theorem Dp:ZA (fz xs H) H:=fun _ _ e=>(Bd e).1
theorem Vc(kt:Up H H')(kx:∀x∈xs,∀o,H x=some o->H' x=some o)(s:∀x∈xs,x∈xs'):ZA (fz xs H) (fz xs' H'):=fun b o e=>by
 obtain⟨e,m | ⟨t,rfl⟩⟩:=Bd e
 ·exact Ub (s b m) (kx b m o e)
 ·exact Y2 (kt b t e)
def WG(H:Hp)(xs:XS)(l:XW)(ds:List D):Prop:=∃vs,H l=some (.lst vs)/\ZP (fz xs H) ds vs
theorem WG.mono(h:WG H xs l ds)(k:∀o,H l=some o->H' l=some o)(s:ZA (fz xs H) (fz xs' H')):WG H' xs' l ds :=
 let ⟨vs,a,b⟩:=h;⟨vs,k _ a,b.mono' s⟩
theorem WG.get(h:WG H xs l ds):∃vs,H l=some (.lst vs)/\ZP H ds vs/\vs.length=ds.length :=
 let ⟨vs,a,b⟩:=h;⟨vs,a,b.mono' Dp,b.length⟩
structure ML where
 p:XW
 L:FL
 ld:XW
 lb:XW
 lh:XW
 lq:XW
 lt:XW
 ly:XW
 lv:XW
 dp:XW
def Ws(M:ML):List (Str×V):=Zr "penances" (.ref M.dp) (Zr "verdicts" (.ref M.lv) (Zr "trial_days" (.ref M.ly) (Zr "trials" (.ref M.lt) (Zr "debts" (.ref M.lq) (Zr "happenings" (.ref M.lh) (Zr "bringings" (.ref M.lb) (Zr "folk" (.ref M.L.p) (Zr "deeds" (.ref M.ld) []))))))))
local macro_rules | `(tactic| walk_at "mf")=>`(tactic| (unfold Ws;repeat (first | rw[Y5,if_pos (by decide +kernel)] | rw[Y5,if_neg (by decide +kernel)])))
theorem V0(M:ML):(Ws M).lookup ("deeds" : Str)=some (.ref M.ld):=by walk_at "mf"
theorem Uc(M:ML):(Ws M).lookup ("folk" : Str)=some (.ref M.L.p):=by walk_at "mf"
theorem Bs(M:ML):(Ws M).lookup ("bringings" : Str)=some (.ref M.lb):=by walk_at "mf"
theorem EO(M:ML):(Ws M).lookup ("happenings" : Str)=some (.ref M.lh):=by walk_at "mf"
theorem GP(M:ML):(Ws M).lookup ("debts" : Str)=some (.ref M.lq):=by walk_at "mf"
theorem JX(M:ML):(Ws M).lookup ("trials" : Str)=some (.ref M.lt):=by walk_at "mf"
theorem FE(M:ML):(Ws M).lookup ("trial_days" : Str)=some (.ref M.ly):=by walk_at "mf"
theorem Nk(M:ML):(Ws M).lookup ("verdicts" : Str)=some (.ref M.lv):=by walk_at "mf"
theorem Kf(M:ML):(Ws M).lookup ("penances" : Str)=some (.ref M.dp):=by walk_at "mf"
def ML.setv(M:ML)(l:XW):ML:={M with lv:=l }
theorem LO(M:ML)(l:XW):Zr "verdicts" (.ref l) (Ws M)=Ws (M.setv l):=by
 obtain⟨p,L,ld,lb,lh,lq,lt,ly,lv,dp⟩:=M;rfl
def Ex(m:Str):Prop:=¬m = "penances" /\ ¬m = "verdicts" /\ ¬m = "trial_days" /\ ¬m = "trials" /\ ¬m = "debts" /\ ¬m = "happenings" /\ ¬m = "bringings" /\ ¬m = "folk" /\ ¬m = "deeds"
instance (m:Str):Decidable (Ex m):=by unfold Ex;exact inferInstance
theorem Yi(M:ML)(h:Ex m:=by decide +kernel):(Ws M).lookup m=none:=by
 obtain⟨a1,a2,a3,a4,a5,a6,a7,a8,a9⟩:=h;unfold Ws;rw[Y5,if_neg a1,Y5,if_neg a2,Y5,if_neg a3,Y5,if_neg a4,Y5,if_neg a5,Y5,if_neg a6,Y5,if_neg a7,Y5,if_neg a8,Y5,if_neg a9];rfl
abbrev SR:=WC
structure ZK (K:uFg) (C:XW):Prop where
 cl:UH K C
 nd:ZW K C "deeds"
 nf:ZW K C "folk"
 nb:ZW K C "bringings"
 nh:ZW K C "happenings"
 nq:ZW K C "debts"
 nt:ZW K C "trials"
 ny:ZW K C "trial_days"
 nv:ZW K C "verdicts"
 np:ZW K C "penances"
structure Mo where
 deeds:List D
 brs:List D
 haps:List (List D)
 debts:List D
 trials:List ZT
 days:List Int
 verd:List Bool
 pen:Str->Option Int
 npen:Nat
def ML.ls(M:ML):List XW:=[M.ld,M.lb,M.lq,M.lt,M.ly,M.lv]
def Mo.at_(m:Mo)(M:ML)(qs:XS):List (XW×List D) :=
 (M.ld,m.deeds)::(M.lb,m.brs)::(M.lq,m.debts)::(M.lt,m.trials.map Wo)::(M.ly,m.days.map D.int)::(M.lv,m.verd.map D.bl)::qs.zip m.haps
structure ZC (C CM:XW) (H:Hp) (M:ML) (ds:List ZI) (wa:XR) (xs:XS) (m:Mo) (qs:XS):Prop where
 ob:∃dx,H M.p=some (.ins CM dx (Ws M))
 fk:Fk C H M.L ds wa
 ls:∀p∈m.at_ M qs,WG H xs p.1 p.2
 hl:H M.lh=some (.lst (qs.map V.ref))
 hn:qs.length=m.haps.length
 pn:∃kvs:List (ZU×V),H M.dp=some (.dK kvs)/\kvs.length<=m.npen/\∀n:Str,Zz kvs (.inr n)=(m.pen n).map V.int
 nl:(M.lh::(M.ls++qs)).Nodup
 nx:∀x∈xs,x∉M.lh::(M.ls++qs)
 xl:∀x∈xs,∃vs,H x=some (.lst vs)
 np:M.p≠M.L.p
 nd:¬own M.L ds wa M.dp
def mo(M:ML)(ds:List ZI)(wa:XR)(xs qs:XS)(b:XW):Prop:=b=M.p\/b=M.dp\/b∈M.lh::(M.ls++qs)\/b∈xs\/own M.L ds wa b
variable{M:ML}{qs:XS}{m:Mo}
theorem Cb{p:XW×List D}(h:p∈m.at_ M qs):p.1∈M.ls++qs:=by
 unfold Mo.at_ at h;simp only[xC] at h;rcases h with rfl | rfl | rfl | rfl | rfl | rfl | h
 iterate 6 (refine yQ _ ?_;unfold ML.ls;simp only[xC,true_or,or_true])
 exact xI _ (yY h).1
theorem ZC.keep(h:ZC C CM H M ds wa xs m qs)(k:∀b o,mo M ds wa xs qs b->H b=some o->H' b=some o)(kt:Up H H'):ZC C CM H' M ds wa xs m qs:=by
 obtain⟨⟨dx,ob⟩,fk,ls,hl,hn,⟨kvs,p1,p2,p3⟩,nl,nx,xl,np,nd⟩:=h;have s:=Vc (xs:=xs) (xs':=xs) kt (fun x hx o e=>k x o (.inr (.inr (.inr (.inl hx)))) e) (fun _ z=>z);exact⟨⟨dx,k _ _ (.inl rfl) ob⟩,fk.at fun b o hb e=>k b o (.inr (.inr (.inr (.inr hb)))) e,fun p hp=>(ls p hp).mono (fun o e=>k _ o (.inr (.inr (.inl (xN _ (Cb hp))))) e) s, k _ _ (.inr (.inr (.inl xY))) hl,hn,⟨kvs,k _ _ (.inr (.inl rfl)) p1,p2,p3⟩,nl,nx,fun x hx=>let ⟨vs,e⟩:=xl x hx;⟨vs,k _ _ (.inr (.inr (.inr (.inl hx)))) e⟩,np,nd⟩
theorem ZC.same(h:ZC C CM H M ds wa xs m qs)(k:ZA H H'):ZC C CM H' M ds wa xs m qs:=h.keep (fun b o _ e=>k b o e) fun _ _ e=>k _ _ e
theorem ZC.x(h:ZC C CM H M ds wa xs m qs)(hs:H s=some (.lst ys))(hn:¬mo M ds wa xs qs s)(k:ZE s H H'):ZC C CM H' M ds wa xs m qs :=
 h.keep (fun b o hb e=>k b o (fun z=>hn (z▸hb)) e) fun b ys e=>k b _ (fun z=>by rw[z,hs] at e;cases e) e
theorem ZC.nown(h:ZC C CM H M ds wa xs m qs)(e:H b=some (.lst ys)):¬own M.L ds wa b:=fun z=>by
 obtain⟨o,e',n1,_⟩:=h.fk.there z;rw[e] at e';cases e';exact n1 ys rfl
theorem ZC.pown(h:ZC C CM H M ds wa xs m qs):¬own M.L ds wa M.p:=fun z=>by
 obtain⟨dx,ob⟩:=h.ob;obtain⟨⟨_,⟨k1,c1,_⟩,⟨k2,w1,_⟩,⟨k3,d1,_⟩,⟨k4,h1,_⟩,_⟩,⟨⟨k5,x1,x2,x3⟩,_⟩,_⟩:=h.fk;rcases z with z | z | z | z | z | ⟨n,l,e,z⟩
 ·exact h.np z
 ·rw[z,c1] at ob;cases ob
 ·rw[z,w1] at ob;cases ob
 ·rw[z,d1] at ob;cases ob
 ·rw[z,h1] at ob;cases ob
 ·rw[z,(x3 n l e).2.1] at ob;cases ob
theorem ZC.folk(h:ZC C CM H M ds wa xs m qs)(F:Fk C H' M.L ds' wa')(t:WZ M.L ds wa H H')(f:B1 M.L ds wa ds' wa' H):ZC C CM H' M ds' wa' xs m qs:=by
 have T:=WZ.lt h.fk t;have pw:=h.pown;obtain⟨⟨dx,ob⟩,fk,ls,hl,hn,⟨kvs,p1,p2,p3⟩,nl,nx,xl,np,nd⟩:=h;have s:=Vc (xs:=xs) (xs':=xs) T.2 (fun x hx o e=>by obtain⟨vs,e'⟩:=xl x hx;rw[e] at e';cases e';exact T.1 _ _ e) (fun _ z=>z)
 exact⟨⟨dx,t _ _ ob pw⟩,F,fun p hp=>by
  obtain⟨vs,a,b⟩:=ls p hp
  exact⟨vs,T.1 _ _ a,b.mono' s⟩,T.1 _ _ hl,hn,⟨kvs,t _ _ p1 nd,p2,p3⟩,nl,nx,fun x hx=>let ⟨vs,e⟩:=xl x hx;⟨vs,T.1 _ _ e⟩,np,fun z=>(f _ z).elim nd fun z=>by rw[p1] at z;cases z⟩
end
section
variable{M:ML}{qs:XS}
theorem Cq{l:XW}(h:l∈M.ls++qs):l∈M.lh::(M.ls++qs):=xN _ h
theorem ZC.lst(h:ZC C CM H M ds wa xs m qs)(hl:l∈M.lh::(M.ls++qs)):∃ys,H l=some (.lst ys):=by
 rcases xC.mp hl with rfl | hl
 ·exact⟨_,h.hl⟩
 have:∃p∈m.at_ M qs,p.1=l:=by
  rcases xJ.mp hl with z | z
  ·unfold ML.ls at z;simp only[xC,xU,or_false] at z;unfold Mo.at_;rcases z with rfl | rfl | rfl | rfl | rfl | rfl
   ·exact⟨(M.ld,m.deeds),by simp,rfl⟩
   ·exact⟨(M.lb,m.brs),by simp,rfl⟩
   ·exact⟨(M.lq,m.debts),by simp,rfl⟩
   ·exact⟨(M.lt,m.trials.map Wo),by simp,rfl⟩
   ·exact⟨(M.ly,m.days.map D.int),by simp,rfl⟩
   ·exact⟨(M.lv,m.verd.map D.bl),by simp,rfl⟩
  ·obtain⟨i,hi,e⟩:=List.getElem_of_mem z;have hi':i < m.haps.length:=h.hn▸hi;refine⟨(qs[i],m.haps[i]),?_,e⟩;have:(qs[i],m.haps[i])∈qs.zip m.haps:=xM (i:=i) (by rw[zB];exact⟨xB hi,xB hi'⟩);exact xI [(M.ld,m.deeds),(M.lb,m.brs),(M.lq,m.debts),(M.lt,m.trials.map Wo),(M.ly,m.days.map D.int),(M.lv,m.verd.map D.bl)] this
 obtain⟨p,hp,rfl⟩:=this;obtain⟨vs,e,_⟩:=h.ls p hp;exact⟨vs,e⟩
theorem ZC.there(h:ZC C CM H M ds wa xs m qs)(hb:mo M ds wa xs qs b):∃o,H b=some o:=by
 rcases hb with rfl | rfl | hb | hb | hb
 ·obtain⟨dx,e⟩:=h.ob;exact⟨_,e⟩
 ·obtain⟨kvs,e,_⟩:=h.pn;exact⟨_,e⟩
 ·obtain⟨ys,e⟩:=h.lst hb;exact⟨_,e⟩
 ·obtain⟨ys,e⟩:=h.xl b hb;exact⟨_,e⟩
 ·obtain⟨o,e,_⟩:=h.fk.there hb;exact⟨o,e⟩
theorem ZC.put(h:ZC C CM H M ds wa xs m qs)(hl:l∈M.ls++qs)(e1:m'.haps.length=m.haps.length)(e2:m'.pen=m.pen)(e3:m'.npen=m.npen)(k:∀p∈m'.at_ M qs,(p∈m.at_ M qs/\p.1≠l)\/(p.1=l/\ZP (fz xs H) p.2 zs)):ZC C CM (upd H l (.lst zs)) M ds wa xs m' qs:=by
 obtain⟨ys,e⟩:=h.lst (Cq hl);have nw:=h.nown e;have hh:=h;obtain⟨⟨dx,ob⟩,fk,ls,lh,hn,⟨kvs,p1,p2,p3⟩,nl,nx,xl,np,nd⟩:=h;have kt:Up H (upd H l (.lst zs)):=Hj e;have kx:∀x∈xs,x≠l:=fun x hx z=>nx x hx (z▸Cq hl);have s:ZA (fz xs H) (fz xs (upd H l (.lst zs))):=Vc kt (fun x hx o e=>by rw[Ze (kx x hx)];exact e) (fun _ z=>z);have nh:M.lh≠l:=fun z=>(yG.mp nl).1 (z▸hl)
 refine⟨⟨dx,by rw[Ze (fun z=>by rw[z,e] at ob;cases ob)];exact ob⟩,fk.at fun b o hb eb=>by rw[Ze (fun z:b=l=>nw (z▸hb))];exact eb,fun p hp=>?_,by rw[Ze nh];exact lh,by rw[e1];exact hn,
  ⟨kvs,by rw[Ze (fun z=>by rw[z,e] at p1;cases p1)];exact p1,by rw[e3];exact p2,by rw[e2];exact p3⟩,nl,nx,fun x hx=>?_,np,nd⟩
 ·rcases k p hp with⟨a,b⟩ | ⟨a,b⟩
  ·exact(ls p a).mono (fun o e=>by rw[Ze b];exact e) s
  ·exact⟨zs,by rw[a,Zi],b.mono' s⟩
 ·obtain⟨vs,e⟩:=xl x hx;exact⟨vs,by rw[Ze (kx x hx)];exact e⟩
theorem ZC.freeze(h:ZC C CM H M ds wa xs m qs)(e:H a=some (.lst vs))(n:a∉M.lh::(M.ls++qs)):ZC C CM H M ds wa (a::xs) m qs:=by
 obtain⟨ob,fk,ls,lh,hn,pn,nl,nx,xl,np,nd⟩:=h;have s:ZA (fz xs H) (fz (a::xs) H):=Vc (fun _ _ e=>e) (fun _ _ _ e=>e) (fun _ z=>xN _ z);exact⟨ob,fk,fun p hp=>(ls p hp).mono (fun _ e=>e) s,lh,hn,pn,nl,fun x hx=>(xC.mp hx).elim (fun z=>z▸n) (nx x),fun x hx=>(xC.mp hx).elim (fun z=>⟨vs,z▸e⟩) (xl x),np,nd⟩
theorem ZC.pena(h:ZC C CM H M ds wa xs m qs)(e:H M.dp=some (.dK kvs)) :
  ZC C CM (upd H M.dp (.dK (Z3 kvs (.inr n) (.int c)))) M ds wa xs {m with pen:=fun x=>if x=n then some c else m.pen x,npen:=m.npen+1 } qs:=by
 have hh:=h;obtain⟨⟨dx,ob⟩,fk,ls,lh,hn,⟨kvs',p1,p2,p3⟩,nl,nx,xl,np,nd⟩:=h;rw[e] at p1;cases p1;have ll:∀l∈M.lh::(M.ls++qs),l≠M.dp:=fun l hl z=>by obtain⟨ys,e'⟩:=hh.lst hl;rw[z,e] at e';cases e'
 have kt:Up H (upd H M.dp (.dK (Z3 kvs (.inr n) (.int c)))):=fun b t eb=>by rw[Ze (fun z=>by rw[z,e] at eb;cases eb)];exact eb
 have kx:∀x∈xs,x≠M.dp:=fun x hx z=>by obtain⟨vs,e'⟩:=xl x hx;rw[z,e] at e';cases e'
 have s:ZA (fz xs H) (fz xs (upd H M.dp (.dK (Z3 kvs (.inr n) (.int c))))):=Vc kt (fun x hx o e=>by rw[Ze (kx x hx)];exact e) (fun _ z=>z)
 refine⟨⟨dx,by rw[Ze (fun z=>by rw[z,e] at ob;cases ob)];exact ob⟩,fk.at fun b o hb eb=>by rw[Ze (fun z:b=M.dp=>nd (z▸hb))];exact eb,fun p hp=>(ls p hp).mono (fun o e=>by rw[Ze (ll _ (Cq (Cb hp)))];exact e) s,
  by rw[Ze (ll _ xY)];exact lh,hn,⟨_,Zi,yC (Vy _ _ _) (by show kvs.length+1<=m.npen+1;lia),fun x=>?_⟩,nl,nx,fun x hx=>?_,np,nd⟩
 ·rw[Uk];show _=(if x=n then some c else m.pen x).map V.int
  by_cases z:x=n
  ·rw[if_pos (by rw[z]),if_pos z];rfl
  ·rw[if_neg (fun y=>z (by injection y)),if_neg z];exact p3 x
 ·obtain⟨vs,e'⟩:=xl x hx;exact⟨vs,by rw[Ze (kx x hx)];exact e'⟩
theorem ZC.setv(h:ZC C CM H M ds wa xs m qs)(e:H M.p=some (.ins CM dx (Ws M)))(hl:H l=some (.lst (bs.map V.bl)))(n:¬mo M ds wa xs qs l) :
  ZC C CM (upd H M.p (.ins CM dx (Ws (M.setv l)))) (M.setv l) ds wa xs {m with verd:=bs } qs:=by
 have hh:=h;obtain⟨_,fk,ls,lh,hn,⟨kvs,p1,p2,p3⟩,nl,nx,xl,np,nd⟩:=h;have ll:∀l∈M.lh::(M.ls++qs),l≠M.p:=fun l hl z=>by obtain⟨ys,e'⟩:=hh.lst hl;rw[z,e] at e';cases e'
 have nlp:l≠M.p:=fun z=>n (.inl z);have kt:Up H (upd H M.p (.ins CM dx (Ws (M.setv l)))):=fun b t eb=>by rw[Ze (fun z=>by rw[z,e] at eb;cases eb)];exact eb
 have kx:∀x∈xs,x≠M.p:=fun x hx z=>by obtain⟨vs,e'⟩:=xl x hx;rw[z,e] at e';cases e'
 have s:ZA (fz xs H) (fz xs (upd H M.p (.ins CM dx (Ws (M.setv l))))):=Vc kt (fun x hx o e=>by rw[Ze (kx x hx)];exact e) (fun _ z=>z);have pw:=hh.pown;have rb:∀(H:Hp)(bs:List Bool),ZP H (bs.map D.bl) (bs.map V.bl):=fun H bs=>by
  induction bs with
  | nil=>rfl
  | cons b r ih=>exact⟨_,_,rfl,rfl,ih⟩
 have nm:∀x,x∈M.lh::((M.setv l).ls++qs)->x∈M.lh::(M.ls++qs)\/x=l:=fun x hx=>by
  simp only[ML.ls,ML.setv,xC,xJ,xU,or_false] at hx ⊢;rcases hx with z | (z | z | z | z | z | z) | z<;>simp[z]
 have nlm:l∉M.lh::(M.ls++qs):=fun z=>n (.inr (.inr (.inl z)))
 refine⟨⟨dx,Zi⟩,fk.at fun b o hb eb=>by rw[Ze (fun z:b=M.p=>pw (z▸hb))];exact eb,fun p hp=>?_,by show (upd H M.p _) M.lh=_;rw[Ze (ll _ xY)];exact lh,hn,
  ⟨kvs,by show (upd H M.p _) M.dp=_;rw[Ze (fun z=>by rw[z,e] at p1;cases p1)];exact p1,p2,p3⟩,?_,fun x hx z=>(nm x z).elim (nx x hx) (fun z=>n (.inr (.inr (.inr (.inl (z▸hx)))))),fun x hx=>?_,np,nd⟩
 ·by_cases z:p=(l,bs.map D.bl)
  ·subst z;exact⟨_,by show (upd H M.p _) l=_;rw[Ze nlp];exact hl,rb _ bs⟩
  ·have hp':p∈m.at_ M qs:=by
    simp only[Mo.at_,ML.setv,xC] at hp ⊢;rcases hp with y | y | y | y | y | y | y
    ·exact .inl y
    ·exact .inr (.inl y)
    ·exact .inr (.inr (.inl y))
    ·exact .inr (.inr (.inr (.inl y)))
    ·exact .inr (.inr (.inr (.inr (.inl y))))
    ·exact absurd y z
    ·exact .inr (.inr (.inr (.inr (.inr (.inr y)))))
   exact(ls p hp').mono (fun o e=>by rw[Ze (ll _ (Cq (Cb hp')))];exact e) s
 ·simp only[ML.ls,ML.setv,yG,xC,xJ,yF,zK,not_or] at nl nlm ⊢;obtain⟨⟨a1,a2,a3,a4,a5,a6,a7⟩,⟨b2,b3,b4,b5,b6,b7⟩,⟨c3,c4,c5,c6,c7⟩,⟨d4,d5,d6,d7⟩,⟨f5,f6,f7⟩,⟨g6,g7⟩,k7,k8⟩:=nl;obtain⟨m0,m1,m2,m3,m4,m5,m6,m7⟩:=nlm;exact⟨⟨a1,a2,a3,a4,a5,Ne.symm m0,a7⟩,⟨b2,b3,b4,b5,Ne.symm m1,b7⟩,⟨c3,c4,c5,Ne.symm m2,c7⟩,⟨d4,d5,Ne.symm m3,d7⟩,⟨f5,Ne.symm m4,f7⟩,⟨Ne.symm m5,g7⟩,m7,k8⟩
 ·obtain⟨vs,e'⟩:=xl x hx;exact⟨vs,by rw[Ze (kx x hx)];exact e'⟩
end
theorem ZC.rep(h:ZC C CM H M ds wa xs m qs)(hp:(l,c)∈m.at_ M qs)(e:H l=some (.lst vs)):ZP (fz xs H) c vs:=by
 obtain⟨vs',e',r⟩:=h.ls _ hp;rw[e] at e';cases e';exact r
theorem ZC.deed(h:ZC C CM H M ds wa xs m qs)(e:H M.ld=some (.lst vs))(hd:YC (fz xs H) d v):ZC C CM (upd H M.ld (.lst (vs ++ [v]))) M ds wa xs {m with deeds:=m.deeds ++ [d] } qs:=by
 have r:=h.rep (l:=M.ld) (c:=m.deeds) (by simp[Mo.at_]) e;have nl:=h.nl;simp only[ML.ls,yG,xC,xJ,yF,zK,not_or] at nl;obtain⟨_,⟨b2,b3,b4,b5,b6,b7⟩,⟨c3,c4,c5,c6,c7⟩,⟨d4,d5,d6,d7⟩,⟨f5,f6,f7⟩,⟨g6,g7⟩,k7,k8⟩:=nl;refine h.put (l:=M.ld) (by simp[ML.ls]) rfl rfl rfl fun p hp=>?_;simp only[Mo.at_,xC] at hp ⊢;rcases hp with rfl | rfl | rfl | rfl | rfl | rfl | hp
 ·exact .inr ⟨rfl,r.snoc hd⟩
 ·exact .inl ⟨by simp,Ne.symm b2⟩
 ·exact .inl ⟨by simp,Ne.symm b3⟩
 ·exact .inl ⟨by simp,Ne.symm b4⟩
 ·exact .inl ⟨by simp,Ne.symm b5⟩
 ·exact .inl ⟨by simp,Ne.symm b6⟩
 ·exact .inl ⟨by simp[hp],fun z=>b7 (z▸(yY hp).1)⟩
theorem ZC.debt(h:ZC C CM H M ds wa xs m qs)(e:H M.lq=some (.lst vs))(hd:YC (fz xs H) d v):ZC C CM (upd H M.lq (.lst (vs ++ [v]))) M ds wa xs {m with debts:=m.debts ++ [d] } qs:=by
 have r:=h.rep (l:=M.lq) (c:=m.debts) (by simp[Mo.at_]) e;have nl:=h.nl;simp only[ML.ls,yG,xC,xJ,yF,zK,not_or] at nl;obtain⟨_,⟨b2,b3,b4,b5,b6,b7⟩,⟨c3,c4,c5,c6,c7⟩,⟨d4,d5,d6,d7⟩,⟨f5,f6,f7⟩,⟨g6,g7⟩,k7,k8⟩:=nl;refine h.put (l:=M.lq) (by simp[ML.ls]) rfl rfl rfl fun p hp=>?_;simp only[Mo.at_,xC] at hp ⊢;rcases hp with rfl | rfl | rfl | rfl | rfl | rfl | hp
 ·exact .inl ⟨by simp,b3⟩
 ·exact .inl ⟨by simp,c3⟩
 ·exact .inr ⟨rfl,r.snoc hd⟩
 ·exact .inl ⟨by simp,Ne.symm d4⟩
 ·exact .inl ⟨by simp,Ne.symm d5⟩
 ·exact .inl ⟨by simp,Ne.symm d6⟩
 ·exact .inl ⟨by simp[hp],fun z=>d7 (z▸(yY hp).1)⟩
theorem ZC.trial(h:ZC C CM H M ds wa xs m qs)(e:H M.lt=some (.lst vs))(hd:YC (fz xs H) (Wo d) v):ZC C CM (upd H M.lt (.lst (vs ++ [v]))) M ds wa xs {m with trials:=m.trials ++ [d] } qs:=by
 have r:=h.rep (l:=M.lt) (c:=m.trials.map Wo) (by simp[Mo.at_]) e;have nl:=h.nl;simp only[ML.ls,yG,xC,xJ,yF,zK,not_or] at nl;obtain⟨_,⟨b2,b3,b4,b5,b6,b7⟩,⟨c3,c4,c5,c6,c7⟩,⟨d4,d5,d6,d7⟩,⟨f5,f6,f7⟩,⟨g6,g7⟩,k7,k8⟩:=nl;refine h.put (l:=M.lt) (by simp[ML.ls]) rfl rfl rfl fun p hp=>?_;simp only[Mo.at_,xC] at hp ⊢;rcases hp with rfl | rfl | rfl | rfl | rfl | rfl | hp
 ·exact .inl ⟨by simp,b4⟩
 ·exact .inl ⟨by simp,c4⟩
 ·exact .inl ⟨by simp,d4⟩
 ·exact .inr ⟨rfl,by rw[xO];exact r.snoc hd⟩
 ·exact .inl ⟨by simp,Ne.symm f5⟩
 ·exact .inl ⟨by simp,Ne.symm f6⟩
 ·exact .inl ⟨by simp[hp],fun z=>f7 (z▸(yY hp).1)⟩
theorem ZC.day(h:ZC C CM H M ds wa xs m qs)(e:H M.ly=some (.lst vs))(hd:YC (fz xs H) (.int d) v):ZC C CM (upd H M.ly (.lst (vs ++ [v]))) M ds wa xs {m with days:=m.days ++ [d] } qs:=by
 have r:=h.rep (l:=M.ly) (c:=m.days.map D.int) (by simp[Mo.at_]) e;have nl:=h.nl;simp only[ML.ls,yG,xC,xJ,yF,zK,not_or] at nl;obtain⟨_,⟨b2,b3,b4,b5,b6,b7⟩,⟨c3,c4,c5,c6,c7⟩,⟨d4,d5,d6,d7⟩,⟨f5,f6,f7⟩,⟨g6,g7⟩,k7,k8⟩:=nl;refine h.put (l:=M.ly) (by simp[ML.ls]) rfl rfl rfl fun p hp=>?_;simp only[Mo.at_,xC] at hp ⊢;rcases hp with rfl | rfl | rfl | rfl | rfl | rfl | hp
 ·exact .inl ⟨by simp,b5⟩
 ·exact .inl ⟨by simp,c5⟩
 ·exact .inl ⟨by simp,d5⟩
 ·exact .inl ⟨by simp,f5⟩
 ·exact .inr ⟨rfl,by rw[xO];exact r.snoc hd⟩
 ·exact .inl ⟨by simp,Ne.symm g6⟩
 ·exact .inl ⟨by simp[hp],fun z=>g7 (z▸(yY hp).1)⟩
theorem ZC.brg(h:ZC C CM H M ds wa xs m qs)(e:H M.lb=some (.lst vs))(hd:YC (fz xs H) d v):ZC C CM (upd H M.lb (.lst (vs ++ [v]))) M ds wa xs {m with brs:=m.brs ++ [d] } qs:=by
 have r:=h.rep (l:=M.lb) (c:=m.brs) (by simp[Mo.at_]) e;have nl:=h.nl;simp only[ML.ls,yG,xC,xJ,yF,zK,not_or] at nl;obtain⟨_,⟨b2,b3,b4,b5,b6,b7⟩,⟨c3,c4,c5,c6,c7⟩,⟨d4,d5,d6,d7⟩,⟨f5,f6,f7⟩,⟨g6,g7⟩,k7,k8⟩:=nl;refine h.put (l:=M.lb) (by simp[ML.ls]) rfl rfl rfl fun p hp=>?_;simp only[Mo.at_,xC] at hp ⊢;rcases hp with rfl | rfl | rfl | rfl | rfl | rfl | hp
 ·exact .inl ⟨by simp,b2⟩
 ·exact .inr ⟨rfl,r.snoc hd⟩
 ·exact .inl ⟨by simp,Ne.symm c3⟩
 ·exact .inl ⟨by simp,Ne.symm c4⟩
 ·exact .inl ⟨by simp,Ne.symm c5⟩
 ·exact .inl ⟨by simp,Ne.symm c6⟩
 ·exact .inl ⟨by simp[hp],fun z=>c7 (z▸(yY hp).1)⟩
theorem ZC.hap(h:ZC C CM H M ds wa xs m qs){q:XW}(hq:qs[i]? = some q)(hc:m.haps[i]? = some c)(e:H q=some (.lst vs))(hd:YC (fz xs H) d v) :
  ZC C CM (upd H q (.lst (vs ++ [v]))) M ds wa xs {m with haps:=m.haps.set i (c ++ [d]) } qs:=by
 have mq:q∈qs:=xM hq;have mz:(q,c)∈qs.zip m.haps:=xM (i:=i) (by rw[zB];exact⟨hq,hc⟩);have r:=h.rep (l:=q) (c:=c) (by simp[Mo.at_,mz]) e;have nl:=h.nl;simp only[ML.ls,yG,xC,xJ,yF,zK,not_or] at nl;obtain⟨_,⟨b2,b3,b4,b5,b6,b7⟩,⟨c3,c4,c5,c6,c7⟩,⟨d4,d5,d6,d7⟩,⟨f5,f6,f7⟩,⟨g6,g7⟩,k7,k8⟩:=nl;refine h.put (l:=q) (xI _ mq) (List.length_set ..) rfl rfl fun p hp=>?_;simp only[Mo.at_,xC] at hp ⊢;rcases hp with rfl | rfl | rfl | rfl | rfl | rfl | hp
 ·exact .inl ⟨by simp,fun z:M.ld=q=>b7 (z▸mq)⟩
 ·exact .inl ⟨by simp,fun z:M.lb=q=>c7 (z▸mq)⟩
 ·exact .inl ⟨by simp,fun z:M.lq=q=>d7 (z▸mq)⟩
 ·exact .inl ⟨by simp,fun z:M.lt=q=>f7 (z▸mq)⟩
 ·exact .inl ⟨by simp,fun z:M.ly=q=>g7 (z▸mq)⟩
 ·exact .inl ⟨by simp,fun z:M.lv=q=>k7 (z▸mq)⟩
 ·obtain⟨j,hj⟩:=List.getElem?_of_mem hp;rw[zB] at hj;obtain⟨j1,j2⟩:=hj
  by_cases z:i=j
  ·subst z;rw[hq] at j1;injection j1 with j1
   rw[List.getElem?_set_self (by
    rcases Nat.lt_or_ge i m.haps.length with y | y
    ·exact y
    ·rw[wF y] at hc;cases hc)] at j2
   injection j2 with j2
   exact .inr ⟨j1.symm,by rw[← j2];exact r.snoc hd⟩
  ·rw[List.getElem?_set_ne z] at j2;refine .inl ⟨.inr (.inr (.inr (.inr (.inr (.inr (xM (i:=j) (by rw[zB];exact⟨j1,j2⟩))))))),fun y=>z ?_⟩;have li:i < qs.length:=(xH.mp hq).1;exact(List.getElem?_inj li k8).mp (by rw[hq,j1,y])
theorem ZC.newq(h:ZC C CM H M ds wa xs m qs){q:XW}(hq:H q=some (.lst []))(n:¬mo M ds wa xs qs q) :
  ZC C CM (upd H M.lh (.lst ((qs ++ [q]).map V.ref))) M ds wa xs {m with haps:=m.haps ++ [[]] } (qs ++ [q]):=by
 have hh:=h;have nw:=h.nown h.hl;obtain⟨⟨dx,ob⟩,fk,ls,lh,hn,⟨kvs,p1,p2,p3⟩,nl,nx,xl,np,nd⟩:=h;have kt:Up H (upd H M.lh (.lst ((qs ++ [q]).map V.ref))):=Hj lh;have kx:∀x∈xs,x≠M.lh:=fun x hx z=>nx x hx (z▸xY);have s:ZA (fz xs H) (fz xs (upd H M.lh (.lst ((qs ++ [q]).map V.ref)))):=Vc kt (fun x hx o e=>by rw[Ze (kx x hx)];exact e) (fun _ z=>z);have nh:M.lh∉M.ls++qs:=(yG.mp nl).1;have nq:q∉M.lh::(M.ls++qs):=fun z=>n (.inr (.inr (.inl z)));have nqh:q≠M.lh:=fun z=>nq (z▸xY)
 refine⟨⟨dx,by rw[Ze (fun z=>by rw[z,lh] at ob;cases ob)];exact ob⟩,fk.at fun b o hb eb=>by rw[Ze (fun z:b=M.lh=>nw (z▸hb))];exact eb,fun p hp=>?_,Zi,by rw[xF,hn];show _=(m.haps ++ [[]]).length;rw[xF];rfl,
  ⟨kvs,by rw[Ze (fun z=>by rw[z,lh] at p1;cases p1)];exact p1,p2,p3⟩,?_,fun x hx z=>?_,fun x hx=>?_,np,nd⟩
 ·by_cases z:p=(q,[])
  ·subst z;exact⟨[],by show (upd H M.lh _) q=_;rw[Ze nqh];exact hq,rfl⟩
  ·have hp':p∈m.at_ M qs:=by
    simp only[Mo.at_,xC] at hp ⊢;rw[List.zip_append hn] at hp;rcases hp with y | y | y | y | y | y | y
    ·exact .inl y
    ·exact .inr (.inl y)
    ·exact .inr (.inr (.inl y))
    ·exact .inr (.inr (.inr (.inl y)))
    ·exact .inr (.inr (.inr (.inr (.inl y))))
    ·exact .inr (.inr (.inr (.inr (.inr (.inl y)))))
    ·rcases xJ.mp y with y | y
     ·exact .inr (.inr (.inr (.inr (.inr (.inr y)))))
     ·exact absurd (xR.mp y) z
   exact(ls p hp').mono (fun o e=>by rw[Ze (fun z:p.1=M.lh=>nh (z▸Cb hp'))];exact e) s
 ·grind
 ·rw[← yW,← yF] at z;rcases xJ.mp z with z | z
  ·exact nx x hx z
  ·exact n (.inr (.inr (.inr (.inl (xR.mp z▸hx)))))
 ·obtain⟨vs,e'⟩:=xl x hx;exact⟨vs,by rw[Ze (kx x hx)];exact e'⟩
section
variable{C CM:XW}{c:XR}
abbrev errs:List Str:=["NoName","NoMeasure","Unknown","Taken","NoThing","NoCase","NoOath","NotYet","Dead","NoHeir","TooMany","SwornTwice","Forsworn","TooLight","Broken","NoDeed"]
theorem Vb{d:Int}(h:d.natAbs<=1000000000000000000):d.natAbs.log2 < 1920:=by
 by_cases z:d.natAbs=0
 ·rw[z];decide +kernel
 ·rw[Nat.log2_lt z];exact yT h aA
def okI(d:Int):Prop:=d.natAbs<=1000000000000000000
def due(E:XK)(c:XR)(H:Hp)(k:Prop):Option Str->Prop
 | none=>k
 | some x=>E (.ref (c x)) none H
def eM(lo hi d:Int):Option Str:=if lo<=d/\d<=hi then none else some "NoMeasure"
inductive VF(lo hi:Int)(c:XR)(vs:aG)(H:Hp)(Q:VK)(E:XK):Prop
 |mk(d)(_:vs = [.int d])(_:okI d)(_:due E c H (Q .non H) (eM lo hi d))
theorem Xl(Zcu:YB K mg "check_day" Ey)(C0:∃t,mg "LAST_DAY" = some (.int 9999 t))(er:Er K mg c errs):YT P w K mg base "check_day" 1 (VF 0 9999 c):=by
 obtain⟨t0,c_LAST_DAY⟩:=C0;have r_LAST_DAY:ZG (.int 9999) (.int 9999 t0):=⟨t0,rfl⟩;refine Zcu.fx ["day"] ["day"] fun H vs Q E hr h=>?_;obtain⟨d,rfl,hs,k⟩:=h;refine⟨rfl,_,(Zg (Zp (Vt (Js Wj Wj Zd Q0 (Y8 c_LAST_DAY r_LAST_DAY))) (Zg (Wd Yz er (Wh (Y0 Q0 (Yq Wg))))) Zo)),?_⟩;unfold eM at k;refine⟨_,rfl,_,_,rfl,rfl,_,rfl,Zy (fun h0=>?_) (fun z=>?_)⟩
 ·refine⟨_,_,rfl,rfl,_,rfl,Vq (fun z=>?_) (fun h1=>?_)⟩
  ·rw[if_neg (fun y=>z y.2)] at k;exact⟨_,rfl,.inr ⟨d,rfl,Vb hs⟩,aA,fun _=>k⟩
  ·rw[if_pos ⟨h0,h1⟩] at k;exact k
 ·rw[if_neg (fun y=>z y.1)] at k;exact⟨false,rfl,Z7 ⟨_,rfl,.inr ⟨d,rfl,Vb hs⟩,aA,fun _=>k⟩⟩
theorem Xe(Zcv:YB K mg "check_weight" DP)(C0:∃t,mg "MOST_WEIGHT" = some (.int 1000 t))(er:Er K mg c errs):YT P w K mg base "check_weight" 1 (VF 1 1000 c):=by
 obtain⟨t0,c_MOST_WEIGHT⟩:=C0;have r_MOST_WEIGHT:ZG (.int 1000) (.int 1000 t0):=⟨t0,rfl⟩;refine Zcv.fx ["weight"] ["weight"] fun H vs Q E hr h=>?_;obtain⟨d,rfl,hs,k⟩:=h;refine⟨rfl,_,(Zg (Zp (Vt (Js Wj Wj Zd Q0 (Y8 c_MOST_WEIGHT r_MOST_WEIGHT))) (Zg (Wd Yz er (Wh (Y0 Q0 (Yq Wg))))) Zo)),?_⟩;unfold eM at k;refine⟨_,rfl,_,_,rfl,rfl,_,rfl,Zy (fun h0=>?_) (fun z=>?_)⟩
 ·refine⟨_,_,rfl,rfl,_,rfl,Vq (fun z=>?_) (fun h1=>?_)⟩
  ·rw[if_neg (fun y=>z y.2)] at k;exact⟨_,rfl,.inr ⟨d,rfl,Vb hs⟩,aA,fun _=>k⟩
  ·rw[if_pos ⟨h0,h1⟩] at k;exact k
 ·rw[if_neg (fun y=>z y.1)] at k;exact⟨false,rfl,Z7 ⟨_,rfl,.inr ⟨d,rfl,Vb hs⟩,aA,fun _=>k⟩⟩
abbrev Kw:Stmt:=top 29
theorem Nq(Zhp:YB K mg "check_need" Kw)(C0:∃t,mg "MOST_NEED" = some (.int 12000 t))(er:Er K mg c errs):YT P w K mg base "check_need" 1 (VF 1 12000 c):=by
 obtain⟨t0,c_MOST_NEED⟩:=C0;have r_MOST_NEED:ZG (.int 12000) (.int 12000 t0):=⟨t0,rfl⟩;refine Zhp.fx ["need"] ["need"] fun H vs Q E hr h=>?_;obtain⟨d,rfl,hs,k⟩:=h;refine⟨rfl,_,(Zg (Zp (Vt (Js Wj Wj Zd Q0 (Y8 c_MOST_NEED r_MOST_NEED))) (Zg (Wd Yz er (Wh (Y0 Q0 (Yq Wg))))) Zo)),?_⟩;unfold eM at k;refine⟨_,rfl,_,_,rfl,rfl,_,rfl,Zy (fun h0=>?_) (fun z=>?_)⟩
 ·refine⟨_,_,rfl,rfl,_,rfl,Vq (fun z=>?_) (fun h1=>?_)⟩
  ·rw[if_neg (fun y=>z y.2)] at k;exact⟨_,rfl,.inr ⟨d,rfl,Vb hs⟩,aA,fun _=>k⟩
  ·rw[if_pos ⟨h0,h1⟩] at k;exact k
 ·rw[if_neg (fun y=>z y.1)] at k;exact⟨false,rfl,Z7 ⟨_,rfl,.inr ⟨d,rfl,Vb hs⟩,aA,fun _=>k⟩⟩
abbrev HV:Stmt:=top 30
theorem Mp(Zhq:YB K mg "check_money" HV)(C0:∃t,mg "MOST_MONEY" = some (.int 1000000 t))(er:Er K mg c errs):YT P w K mg base "check_money" 1 (VF 1 1000000 c):=by
 obtain⟨t0,c_MOST_MONEY⟩:=C0;have r_MOST_MONEY:ZG (.int 1000000) (.int 1000000 t0):=⟨t0,rfl⟩;refine Zhq.fx ["many"] ["many"] fun H vs Q E hr h=>?_;obtain⟨d,rfl,hs,k⟩:=h;refine⟨rfl,_,(Zg (Zp (Vt (Js Wj Wj Zd Q0 (Y8 c_MOST_MONEY r_MOST_MONEY))) (Zg (Wd Yz er (Wh (Y0 Q0 (Yq Wg))))) Zo)),?_⟩;unfold eM at k;refine⟨_,rfl,_,_,rfl,rfl,_,rfl,Zy (fun h0=>?_) (fun z=>?_)⟩
 ·refine⟨_,_,rfl,rfl,_,rfl,Vq (fun z=>?_) (fun h1=>?_)⟩
  ·rw[if_neg (fun y=>z y.2)] at k;exact⟨_,rfl,.inr ⟨d,rfl,Vb hs⟩,aA,fun _=>k⟩
  ·rw[if_pos ⟨h0,h1⟩] at k;exact k
 ·rw[if_neg (fun y=>z y.1)] at k;exact⟨false,rfl,Z7 ⟨_,rfl,.inr ⟨d,rfl,Vb hs⟩,aA,fun _=>k⟩⟩
def We(ds:List ZI)(n:Str):Option Str:=if Zn ds n=none then some "Unknown" else none
inductive YL(C:XW)(c:XR)(vs:aG)(H:Hp)(Q:VK)(E:XK):Prop
 |mk(L) (ds) (n)(_:vs = [.ref L.p,.str n])(_:ZV C H L ds)(_:n.length<=100)(_:due E c H (Q .non H) (We ds n))
theorem Mj(Zc1:ZR K C "check_known" "Folk.check_known" Ec)(Tc:WC K C)(er:Er K mg c errs):ZY P w K mg base C "check_known" 1 (YL C c):=by
 refine Zc1.mx ["self","name"] ["self","name"] fun H vs Q E hr h=>?_;obtain⟨L,ds,n,rfl,F,ho,k⟩:=h;refine⟨rfl,_,(Zg (Zp (Zq (Ee hr) Q8 (Zx Q0) rfl) (Zg (Wd Yz er (Wh (Yq (Y0 Q8 Wg))))) Zo)),?_⟩;obtain⟨dx,ob⟩:=F.ob;obtain⟨kvs,c1,c2,c3⟩:=F.c;refine⟨_,rfl,_,rfl,L.p,C,dx,_,_,rfl,ob,Tc.cl,Tc.nc,Jv _ _ _ _,L.dc,_,rfl,ZZ.k (k:=Sum.inr n) c1,_,rfl,?_⟩;unfold We at k;rw[c3];cases hn:Zn ds n with
 | none =>
  rw[if_pos hn] at k;exact Z7 ⟨aA,_,rfl,.inl ⟨n,rfl,by lia⟩,fun _=>k⟩
 | some d =>
  rw[if_neg (by rw[hn];intro z;cases z)] at k;exact Z4 k
def Wl(d day:Int):Option Str:=if day < d then some "NotYet" else none
inductive YZ(C:XW)(c:XR)(vs:aG)(H:Hp)(Q:VK)(E:XK):Prop
 |mk(L) (ds) (n) (d day)(_:vs = [.ref L.p,.str n,.int day])(_:ZV C H L ds)(_:Zn ds n=some d)(_:n.length<=100)(_:okI day)(_:due E c H (Q .non H) (Wl d day))
theorem Pp(Zc2:ZR K C "check_there" "Folk.check_there" EL)(Tc:WC K C)(er:Er K mg c errs):ZY P w K mg base C "check_there" 1 (YZ C c):=by
 refine Zc2.mx ["self","name","day"] ["self","name","day"] fun H vs Q E hr h=>?_;obtain⟨L,ds,n,d,day,rfl,F,hn,ho,hi,k⟩:=h;refine⟨rfl,_,(Zg (Zp (Zq U0 Q9 (Bo hr (Zx Q0) Q8 (fun _ _=>rfl)) (Zu _)) (Zg (Wd Yz er (Wh (Y0 Q8 (Yq (Y0 Q9 Wg)))))) Zo)),?_⟩;obtain⟨dx,ob⟩:=F.ob;obtain⟨kvs,c1,c2,c3⟩:=F.c;have g:=ZZ.k (k:=Sum.inr n) c1;rw[c3,hn] at g;refine⟨_,rfl,_,rfl,L.p,C,dx,_,_,rfl,ob,Tc.cl,Tc.nc,Jv _ _ _ _,_,rfl,L.dc,.int d,rfl,g,?_⟩;unfold Wl at k;refine⟨_,_,rfl,rfl,_,rfl,Zy (fun z=>?_) (fun z=>?_)⟩
 ·rw[if_pos z] at k;exact⟨_,rfl,.inl ⟨n,rfl,by lia⟩,aA,_,rfl,.inr ⟨day,rfl,Vb hi⟩,fun _=>k⟩
 ·rw[if_neg z] at k;exact k
def TZ(ds:List ZI)(n:Str)(day:Int):Option Str:=if V5 ds n day=true then some "Dead" else none
inductive WK(C:XW)(c:XR)(vs:aG)(H:Hp)(Q:VK)(E:XK):Prop
 |mk(L) (ds) (n) (day)(_:vs = [.ref L.p,.str n,.int day])(_:ZV C H L ds)(_:n.length<=100)(_:okI day)(_:due E c H (Q .non H) (TZ ds n day))
theorem Qz(Zc4:ZR K C "check_living" "Folk.check_living" DU)(Tc:WC K C)(er:Er K mg c errs)(M_died_by:Mt P w K mg base C "died_by" ["self","name","day"] 1 (WW C)):ZY P w K mg base C "check_living" 2 (WK C c):=by
 refine Zc4.mx ["self","name","day"] ["self","name","day"] fun H vs Q E hr h=>?_;obtain⟨L,ds,n,day,rfl,F,ho,hi,k⟩:=h;refine⟨rfl,_,(Zg (Zp (Vd (Wc Q0 Tc.cl M_died_by (Za Q8 (Za Q9 Zb)))) (Zg (Wd Yz er (Wh (Y0 Q8 (Yq (Y0 Q9 Wg)))))) Zo)),?_⟩;obtain⟨dx,ob⟩:=F.ob;refine⟨_,rfl,L.p,dx,_,rfl,ob,Yw _ _ _ _ aA,_,rfl,_,rfl,L,ds,n,day,rfl,F,_,rfl,?_⟩;unfold TZ at k;cases hd:V5 ds n day with
 | true =>
  rw[if_pos hd] at k;exact Z7 ⟨_,rfl,.inl ⟨n,rfl,by lia⟩,aA,_,rfl,.inr ⟨day,rfl,Vb hi⟩,fun _=>k⟩
 | false =>
  rw[if_neg (by rw[hd];decide)] at k;exact Z4 k
def JC(ds:List ZI)(n:Str):Option Str:=if Z6 ds n=none then none else some "Dead"
inductive WD(C:XW)(c:XR)(vs:aG)(H:Hp)(Q:VK)(E:XK):Prop
 |mk(L) (ds) (n)(_:vs = [.ref L.p,.str n])(_:ZV C H L ds)(_:n.length<=100)(_:due E c H (Q .non H) (JC ds n))
theorem O0(Zc6:ZR K C "check_untold" "Folk.check_untold" DE)(Tc:WC K C)(er:Er K mg c errs):ZY P w K mg base C "check_untold" 1 (WD C c):=by
 refine Zc6.mx ["self","name"] ["self","name"] fun H vs Q E hr h=>?_;obtain⟨L,ds,n,rfl,F,ho,k⟩:=h;refine⟨rfl,_,(Zg (Zp (Zq (JH hr) Q8 (Zx Q0) rfl) (Zg (Wd Yz er (Wh (Yq (Y0 Q8 (Yq Wg)))))) Zo)),?_⟩;obtain⟨dx,ob⟩:=F.ob;obtain⟨kvs,c1,c2,c3⟩:=F.d;refine⟨_,rfl,_,rfl,L.p,C,dx,_,_,rfl,ob,Tc.cl,Tc.nd,Av _ _ _ _,L.dd,_,rfl,ZZ.k (k:=Sum.inr n) c1,_,rfl,?_⟩;unfold JC at k;rw[c3];cases hn:Z6 ds n with
 | none =>
  rw[if_pos hn] at k;exact Z4 k
 | some x =>
  rw[if_neg (by rw[hn];intro z;cases z)] at k;exact Z7 ⟨aA,_,rfl,.inl ⟨n,rfl,by lia⟩,aA,fun _=>k⟩
def okN(n:Str):Prop:=n.length<=100/\∀x∈n.cps.toList,x < 16 ^ 8
def Ur(ds:List ZI)(n:Str)(day wt:Int):Option Str:=if Vv n=false then some "NoName" else (eM 0 9999 day).or ((eM 1 1000 wt).or ((if Zn ds n=none then none else some ("Taken" : Str)).or (if (Vm ds).length < 40 then none else some ("TooMany" : Str))))
inductive VG(C:XW)(c:XR)(vs:aG)(H:Hp)(Q:VK)(E:XK):Prop
 |mk(L) (ds) (wa) (n) (day wt)(_:vs = [.ref L.p,.str n,.int day,.int wt])(_:Fk C H L ds wa)(_:ds.length<=1000)(_:okN n)(_:okI day)(_:okI wt)(_:∀H',ZA H H'->due E c H' (Q .non H') (Ur ds n day wt))
theorem Mf(Zc3:ZR K C "check_coming" "Folk.check_coming" DR)(T:Txt mg)(Tc:WC K C)(C0:∃t,mg "MOST_FOLK" = some (.int 40 t))(er:Er K mg c errs)(Zg5:Fn P w K mg base "is_name" ["text"] 1 WX)(Wi:YT P w K mg base "check_day" 1 (VF 0 9999 c))(Zca:YT P w K mg base "check_weight" 1 (VF 1 1000 c)):ZY P w K mg base C "check_coming" 2 (VG C c):=by
 obtain⟨t0,c_MOST_FOLK⟩:=C0;have r_MOST_FOLK:ZG (.int 40) (.int 40 t0):=⟨t0,rfl⟩;refine Zc3.mx ["self","name","day","weight"] ["self","name","day","weight"] fun H vs Q E hr h=>?_;obtain⟨L,ds,wa,n,day,wt,rfl,F1,hl,ho,hi,hw,k⟩:=h;have F0:=F1.f;refine⟨rfl,_,(Zc (Zp (Vt (Vd (Zk Zg5 (Za Q8 Zb)))) (Zg (Wd Yz er (Wh (Qq Q8 (Yq Wg))))) Zo) (Zc (Zj (Wr Z1 Wi (Za Q9 Zb))) (Zc (Zj (Wr Z1 Zca (Za Qa Zb))) (Zc (Zp (Zq (JH hr) Q8 (Zx Q0) rfl) (Zg (Wd Yz er (Wh (Yq (Y0 Q8 (Yq Wg)))))) Zo) (Zg (Zp (Zq J8 (Z5 GW T.len Yh (Za (Zx Q0) Zb)) (Y8 c_MOST_FOLK r_MOST_FOLK) (Zu _)) (Zg (Wd Yz er (Wh (Yq (Y0 (Y8 c_MOST_FOLK r_MOST_FOLK) (Yq Wg)))))) Zo)))))),?_⟩;have hl':=ho.1;refine⟨_,rfl,n,rfl,by lia,fun H1 s1=>⟨_,rfl,?_⟩⟩;replace k:=k H1 s1;unfold Ur at k;cases e:Vv n with
 | false =>
  rw[if_pos e] at k;exact Z7 ⟨_,rfl,⟨n,rfl,by lia,ho.2⟩,aA,fun _=>k⟩
 | true =>
  rw[if_neg (by rw[e];decide)] at k;refine Z4 ?_;have F:=F0.keep (ZA.n s1);obtain⟨dx,ob⟩:=F.ob;obtain⟨kvs,c1,c2,c3⟩:=F.c;obtain⟨kv2,c4,c5⟩:=F1.cnt;obtain rfl:kvs=kv2:=by have:=s1 _ _ c4;rw[c1] at this;cases this;rfl
  have g:=ZZ.k (k:=Sum.inr n) c1;rw[c3] at g;refine⟨_,rfl,day,rfl,hi,?_⟩;cases ed:eM 0 9999 day with
  | some x=>rw[ed] at k;exact k
  | none =>
  rw[ed,xK] at k;refine⟨_,rfl,wt,rfl,hw,?_⟩;cases ew:eM 1 1000 wt with
  | some x=>rw[ew] at k;exact k
  | none =>
  rw[ew,xK] at k;refine⟨_,rfl,_,rfl,L.p,C,dx,_,_,rfl,ob,Tc.cl,Tc.nc,Jv _ _ _ _,L.dc,_,rfl,g,_,rfl,?_⟩;cases hc:Zn ds n with
  | some d0 =>
   rw[if_neg (by rw[hc];intro z;cases z)] at k;exact Z7 ⟨aA,_,rfl,.inl ⟨n,rfl,by lia⟩,aA,fun _=>k⟩
  | none =>
   rw[if_pos hc,xK] at k;refine Z4 ⟨_,rfl,L.p,C,dx,_,_,rfl,ob,Tc.cl,Tc.nc,Jv _ _ _ _,L.dc,kvs,rfl,c1,_,_,rfl,rfl,_,rfl,Zy (fun z=>?_) (fun z=>?_)⟩
   ·rw[if_neg (by lia)] at k;exact⟨aA,.inr ⟨40,rfl,aA⟩,aA,fun _=>k⟩
   ·rw[if_pos (by lia)] at k;exact k
def JV(ds:List ZI)(n:Str)(day wt:Int):Option Str:=(eM 0 9999 day).or ((eM 1 1000 wt).or ((We ds n).or ((Wl ((Zn ds n).getD 0) day).or (TZ ds n day))))
inductive TF(C:XW)(c:XR)(vs:aG)(H:Hp)(Q:VK)(E:XK):Prop
 |mk(L) (ds) (n) (day wt)(_:vs = [.ref L.p,.str n,.int day,.int wt])(_:ZV C H L ds)(_:n.length<=100)(_:okI day)(_:okI wt)(_:due E c H (Q .non H) (JV ds n day wt))
theorem Bb(h:We ds n=none):∃d,Zn ds n=some d:=by
 unfold We at h;cases e:Zn ds n with
 | none=>rw[if_pos e] at h;cases h
 | some d=>exact⟨d,rfl⟩
theorem PR(Zc5:ZR K C "check_rise" "Folk.check_rise" Dt)(Tc:WC K C)(Wi:YT P w K mg base "check_day" 1 (VF 0 9999 c))(Zca:YT P w K mg base "check_weight" 1 (VF 1 1000 c))(M_check_known:ZY P w K mg base C "check_known" 1 (YL C c))(M_check_there:ZY P w K mg base C "check_there" 1 (YZ C c))(M_check_living:ZY P w K mg base C "check_living" 2 (WK C c)):ZY P w K mg base C "check_rise" 3 (TF C c):=by
 refine Zc5.mx ["self","name","day","weight"] ["self","name","day","weight"] fun H vs Q E hr h=>?_;obtain⟨L,ds,n,day,wt,rfl,F,ho,hi,hw,k⟩:=h;refine⟨rfl,_,(Zc (Zj (Wr Z1 Wi (Za Q9 Zb))) (Zc (Zj (Wr Z1 Zca (Za Qa Zb))) (Zc (Zj (Yj Z1 Q0 Tc.cl M_check_known (Za Q8 Zb))) (Zc (Zj (Yj Z1 Q0 Tc.cl M_check_there (Za Q8 (Za Q9 Zb)))) (Zg (Zj (Yj Z1 Q0 Tc.cl M_check_living (Za Q8 (Za Q9 Zb))))))))),?_⟩;obtain⟨dx,ob⟩:=F.ob;unfold JV at k;refine⟨_,rfl,day,rfl,hi,?_⟩;cases ed:eM 0 9999 day with
 | some x=>rw[ed] at k;exact k
 | none =>
 rw[ed,xK] at k;refine⟨_,rfl,wt,rfl,hw,?_⟩;cases ew:eM 1 1000 wt with
 | some x=>rw[ew] at k;exact k
 | none =>
 rw[ew,xK] at k;refine⟨_,rfl,L.p,dx,_,rfl,ob,Yw _ _ _ _ aA,_,rfl,L,ds,n,rfl,F,ho,?_⟩;cases ek:We ds n with
 | some x=>rw[ek] at k;exact k
 | none =>
 rw[ek,xK] at k;obtain⟨d,hc⟩:=Bb ek;rw[hc,Option.getD_some] at k;refine⟨_,rfl,L.p,dx,_,rfl,ob,Yw _ _ _ _ aA,_,rfl,_,rfl,L,ds,n,d,day,rfl,F,hc,ho,hi,?_⟩;cases et:Wl d day with
 | some x=>rw[et] at k;exact k
 | none =>
 rw[et,xK] at k;exact⟨_,rfl,L.p,dx,_,rfl,ob,Yw _ _ _ _ aA,_,rfl,_,rfl,L,ds,n,day,rfl,F,ho,hi,k⟩
def AC(ds:List ZI)(n he:Str)(day:Int):Option Str:=(eM 0 9999 day).or ((We ds n).or ((We ds he).or ((Wl ((Zn ds n).getD 0) day).or ((Wl ((Zn ds he).getD 0) day).or ((JC ds n).or (if he=n\/Z6 ds he≠none then some ("NoHeir" : Str) else none))))))
inductive JW(C:XW)(c:XR)(vs:aG)(H:Hp)(Q:VK)(E:XK):Prop
 |mk(L) (ds) (n he) (day)(_:vs = [.ref L.p,.str n,.int day,.str he])(_:ZV C H L ds)(_:n.length<=100)(_:he.length<=100)(_:okI day)(_:due E c H (Q .non H) (AC ds n he day))
theorem Lz(Zc7:ZR K C "check_death" "Folk.check_death" Ew)(Tc:WC K C)(er:Er K mg c errs)(Wi:YT P w K mg base "check_day" 1 (VF 0 9999 c))(M_check_known:ZY P w K mg base C "check_known" 1 (YL C c))(M_check_there:ZY P w K mg base C "check_there" 1 (YZ C c))(M_check_untold:ZY P w K mg base C "check_untold" 1 (WD C c)):ZY P w K mg base C "check_death" 2 (JW C c):=by
 refine Zc7.mx ["self","name","day","heir"] ["self","name","day","heir"] fun H vs Q E hr h=>?_;obtain⟨L,ds,n,he,day,rfl,F,ho,ho',hi,k⟩:=h;refine⟨rfl,_,(Zc (Zj (Wr Z1 Wi (Za Q9 Zb))) (Zc (Zj (Yj Z1 Q0 Tc.cl M_check_known (Za Q8 Zb))) (Zc (Zj (Yj Z1 Q0 Tc.cl M_check_known (Za Qa Zb))) (Zc (Zj (Yj Z1 Q0 Tc.cl M_check_there (Za Q8 (Za Q9 Zb)))) (Zc (Zj (Yj Z1 Q0 Tc.cl M_check_there (Za Qa (Za Q9 Zb)))) (Zc (Zj (Yj Z1 Q0 Tc.cl M_check_untold (Za Q8 Zb))) (Zg (Zp (QW.pt (IX (Zq Yo Qa Q8 (Zu _)) (F7 (Zq (JH hr) Qa (Zx Q0) rfl)))) (Zg (Wd Yz er (Wh (Y0 Qa (Yq (Y0 Q8 Wg)))))) Zo)))))))),?_⟩;obtain⟨dx,ob⟩:=F.ob;unfold AC at k;refine⟨_,rfl,day,rfl,hi,?_⟩;cases ed:eM 0 9999 day with
 | some x=>rw[ed] at k;exact k
 | none =>
 rw[ed,xK] at k;refine⟨_,rfl,L.p,dx,_,rfl,ob,Yw _ _ _ _ aA,_,rfl,L,ds,n,rfl,F,ho,?_⟩;cases ek:We ds n with
 | some x=>rw[ek] at k;exact k
 | none =>
 rw[ek,xK] at k;obtain⟨d,hc⟩:=Bb ek;refine⟨_,rfl,L.p,dx,_,rfl,ob,Yw _ _ _ _ aA,_,rfl,L,ds,he,rfl,F,ho',?_⟩;cases eh:We ds he with
 | some x=>rw[eh] at k;exact k
 | none =>
 rw[eh,xK] at k;obtain⟨d2,hc2⟩:=Bb eh;rw[hc,hc2,Option.getD_some,Option.getD_some] at k;refine⟨_,rfl,L.p,dx,_,rfl,ob,Yw _ _ _ _ aA,_,rfl,_,rfl,L,ds,n,d,day,rfl,F,hc,ho,hi,?_⟩;cases et:Wl d day with
 | some x=>rw[et] at k;exact k
 | none =>
 rw[et,xK] at k;refine⟨_,rfl,L.p,dx,_,rfl,ob,Yw _ _ _ _ aA,_,rfl,_,rfl,L,ds,he,d2,day,rfl,F,hc2,ho',hi,?_⟩;cases et2:Wl d2 day with
 | some x=>rw[et2] at k;exact k
 | none =>
 rw[et2,xK] at k;refine⟨_,rfl,L.p,dx,_,rfl,ob,Yw _ _ _ _ aA,_,rfl,L,ds,n,rfl,F,ho,?_⟩;cases eu:JC ds n with
 | some x=>rw[eu] at k;exact k
 | none =>
 rw[eu,xK] at k;obtain⟨kvs,c1,c2,c3⟩:=F.d;have g:=ZZ.k (k:=Sum.inr he) c1;rw[c3] at g;refine⟨_,rfl,_,rfl,rfl,_,rfl,Zy (fun z=>?_) (fun z=>?_)⟩
 ·have z':he=n:=by injection z
  rw[if_pos (.inl z')] at k;exact Z7 ⟨_,rfl,.inl ⟨he,rfl,by lia⟩,aA,_,rfl,.inl ⟨n,rfl,by lia⟩,fun _=>k⟩
 ·have z':he≠n:=fun y=>z (by rw[y]);refine⟨_,rfl,_,rfl,L.p,C,dx,_,_,rfl,ob,Tc.cl,Tc.nd,Av _ _ _ _,L.dd,_,rfl,g,_,rfl,?_⟩;cases hh:Z6 ds he with
  | none =>
   rw[if_neg (by rw[hh];exact fun y=>y.elim z' fun w=>w rfl)] at k;exact Z4 k
  | some x =>
   rw[if_pos (.inr (by rw[hh];intro w;cases w))] at k;exact Z7 ⟨_,rfl,.inl ⟨he,rfl,by lia⟩,aA,_,rfl,.inl ⟨n,rfl,by lia⟩,fun _=>k⟩
abbrev inB(i:Int)(n:Nat):Prop:=0<=i/\i < n
def JG(m:Mo)(i:Int):Option Str:=if inB i m.brs.length then none else some "NoThing"
inductive UA(C CM:XW)(c:XR)(vs:aG)(H:Hp)(Q:VK)(E:XK):Prop
 |mk(M) (ds) (wa) (xs) (m) (qs) (i)(_:vs = [.ref M.p,.int i])(_:ZC C CM H M ds wa xs m qs)(_:okI i)(_:due E c H (Q .non H) (JG m i))
abbrev FD:Stmt:=Yr (top 58) 41
theorem Lw(Zhr:ZR K CM "check_thing" "Moot.check_thing" FD)(T:Txt mg)(Tm:ZK K CM)(er:Er K mg c errs):ZY P w K mg base CM "check_thing" 1 (UA C CM c):=by
 refine Zhr.mx ["self","thing"] ["self","thing"] fun H vs Q E hr h=>?_;obtain⟨M,ds,wa,xs,m,qs,i,rfl,W,hs,k⟩:=h;refine⟨rfl,_,(Zg (Zp (Vt (Js Wj U0 Zd Q8 (Z5 Yp T.len Yh (Za (Zx Q0) Zb)))) (Zg (Wd Yz er (Wh (Yq (Y0 Q8 Wg))))) Zo)),?_⟩;obtain⟨dx,ob⟩:=W.ob;obtain⟨vs,b1,_,hl⟩:=(W.ls (M.lb,m.brs) (by simp[Mo.at_])).get;dsimp only at b1 hl;unfold JG at k;rw[← hl] at k;refine⟨_,rfl,_,_,rfl,rfl,_,rfl,Zy (fun h0=>?_) (fun z=>?_)⟩
 ·refine⟨_,rfl,M.p,CM,dx,_,_,rfl,ob,Tm.cl,Tm.nb,Bs _,M.lb,vs,rfl,.inl (ZF.of b1),_,_,rfl,rfl,_,rfl,Vq (fun z=>?_) (fun h1=>?_)⟩
  ·rw[if_neg (fun y=>z y.2)] at k;exact⟨aA,_,rfl,.inr ⟨i,rfl,Vb hs⟩,fun _=>k⟩
  ·rw[if_pos ⟨h0,h1⟩] at k;exact k
 ·rw[if_neg (fun y=>z y.1)] at k;exact⟨false,rfl,Z7 ⟨aA,_,rfl,.inr ⟨i,rfl,Vb hs⟩,fun _=>k⟩⟩
inductive UV(c:XR)(vs:aG)(H:Hp)(Q:VK)(E:XK):Prop
 |mk(l) (us) (i)(_:vs = [.ref l,.int i])(_:H l=some (.lst us))(_:okI i)(_:due E c H (Q .non H) (if inB i us.length then none else some "NoCase"))
abbrev Ks:Stmt:=top 49
theorem Si(Zhs:YB K mg "check_case" Ks)(T:Txt mg)(er:Er K mg c errs):YT P w K mg base "check_case" 1 (UV c):=by
 refine Zhs.fx ["suits","case"] ["suits","case"] fun H vs Q E hr h=>?_;obtain⟨l,us,i,rfl,hl,hs,k⟩:=h;refine⟨rfl,_,(Zg (Zp (Vt (Js Wj U0 Zd Q8 (Z5 Yp T.len Yh (Za Q0 Zb)))) (Zg (Wd Yz er (Wh (Yq (Y0 Q8 Wg))))) Zo)),?_⟩;refine⟨_,rfl,_,_,rfl,rfl,_,rfl,Zy (fun h0=>?_) (fun z=>?_)⟩
 ·refine⟨_,rfl,l,us,rfl,.inl (ZF.of hl),_,_,rfl,rfl,_,rfl,Vq (fun z=>?_) (fun h1=>?_)⟩
  ·rw[if_neg (fun y=>z y.2)] at k;exact⟨aA,_,rfl,.inr ⟨i,rfl,Vb hs⟩,fun _=>k⟩
  ·rw[if_pos ⟨h0,h1⟩] at k;exact k
 ·rw[if_neg (fun y=>z y.1)] at k;exact⟨false,rfl,Z7 ⟨aA,_,rfl,.inr ⟨i,rfl,Vb hs⟩,fun _=>k⟩⟩
def Ys(m:Mo):Option Str:=if m.deeds.length < 400 then none else some "TooMany"
inductive YM(C CM:XW)(c:XR)(vs:aG)(H:Hp)(Q:VK)(E:XK):Prop
 |mk(M) (ds) (wa) (xs) (m) (qs)(_:vs = [.ref M.p])(_:ZC C CM H M ds wa xs m qs)(_:due E c H (Q .non H) (Ys m))
abbrev FT:Stmt:=Yr (top 58) 43
theorem NJ(Zht:ZR K CM "check_moments" "Moot.check_moments" FT)(T:Txt mg)(Tm:ZK K CM)(er:Er K mg c errs)(C0:∃t,mg "MOST_MOMENTS" = some (.int 400 t)):ZY P w K mg base CM "check_moments" 1 (YM C CM c):=by
 obtain⟨t0,c_MOST_MOMENTS⟩:=C0;have r_MOST_MOMENTS:ZG (.int 400) (.int 400 t0):=⟨t0,rfl⟩;refine Zht.mx ["self"] ["self"] fun H vs Q E hr h=>?_;obtain⟨M,ds,wa,xs,m,qs,rfl,W,k⟩:=h;refine⟨rfl,_,(Zg (Zp (Zq J8 (Z5 Yp T.len Yh (Za (Zx Q0) Zb)) (Y8 c_MOST_MOMENTS r_MOST_MOMENTS) (Zu _)) (Zg (Wd Yz er (Wh (Yq (Y0 (Y8 c_MOST_MOMENTS r_MOST_MOMENTS) (Yq Wg)))))) Zo)),?_⟩;obtain⟨dx,ob⟩:=W.ob;obtain⟨vs,d1,_,d2⟩:=(W.ls (M.ld,m.deeds) (by simp[Mo.at_])).get;dsimp only at d1 d2;unfold Ys at k;refine⟨_,rfl,M.p,CM,dx,_,_,rfl,ob,Tm.cl,Tm.nd,V0 _,M.ld,vs,rfl,.inl (ZF.of d1),_,_,rfl,rfl,_,rfl,Zy (fun z=>?_) (fun z=>?_)⟩
 ·rw[if_neg (by lia)] at k;exact⟨aA,.inr ⟨400,rfl,aA⟩,aA,fun _=>k⟩
 ·rw[if_pos (by lia)] at k;exact k
end
section
variable{P:XX}{w:XY}{K:uFg}{mg:XN}{base:Heap}{c:XR}
def Vw(ss:List ZT)(i:Int)(n:Str):Option Str:=match ss[i.toNat]? with
 | some t=>if inB i ss.length then (if n∈(t.ones++t.others).map (·.1) then none else some "NoOath") else some "NoCase"
 | none=>some "NoCase"
inductive VR(c:XR)(vs:aG)(H:Hp)(Q:VK)(E:XK):Prop
 |mk(l:XW) (ss:List ZT) (i:Int) (n:Str)(_:vs = [.ref l,.int i,.str n])(_:ZQ H ss l)(_:(∀t∈ss,Uq t))(_:okI i)(_:n.length<=100)(_:∀H',ZA H H'->due E c H' (Q .non H') (Vw ss i n))
abbrev FG:Stmt:=top 50
theorem NP(Zhu:YB K mg "check_oath" FG)(T:Txt mg)(C0:∃t,mg "ONES" = some (.int 0 t))(C1:∃t,mg "OTHERS" = some (.int 1 t))(er:Er K mg c errs)(Zyz:YT P w K mg base "check_case" 1 (UV c)) :
  YT P w K mg base "check_oath" 2 (VR c):=by
 obtain⟨t0,c_ONES⟩:=C0;obtain⟨t1,c_OTHERS⟩:=C1;have r_ONES:ZG (.int 0) (.int 0 t0):=⟨t0,rfl⟩;have r_OTHERS:ZG (.int 1) (.int 1 t1):=⟨t1,rfl⟩;refine Zhu.fx ["suits","case","name"] ["suits","case","name"] fun H vs Q E hr h=>?_;obtain⟨l,ss,i,n,rfl,hsu,hok,hi,hn,k⟩:=h
 refine⟨rfl,_,(Zc (Zj (Wr Z1 Zyz (Za Q0 (Za Q8 Zb)))) (Zg (Zp (Zq Kt Q9 (Vz (locs:=["swearer","weight"]) (fr:=[]) ⟨rfl,aA,aA,aA,aA,aA⟩ .nil rfl (Y6 (Z0 Jf (Zh Zs (Zh Yb Q0 Q8 (fun _ _=>rfl)) (Y8 c_ONES r_ONES) (fun _ _=>rfl)) (Zh Zs (Zh Yb Q0 Q8 (fun _ _=>rfl)) (Y8 c_OTHERS r_OTHERS) (fun _ _=>rfl)))) ⟨fun _ _ _ _ _ _=>by
  have cnd:(inN ["swearer","weight"] []).Nodup:=aA
  exact⟨(Bp 2 (by rfl) (Yx (Wn 0 cnd) (Yx (Wn 1 cnd) V3))),U9,(Y1 0)⟩⟩) rfl) (Zg (Wd Yz er (Wh (Y0 Q9 (Yq (Y0 Q8 Wg)))))) Zo))),?_⟩
 have hz:=aC
 obtain⟨us,hl,hrep⟩:=id hsu;have hul:us.length=ss.length:=by have:=hrep.length;rw[xA] at this;exact this
 refine⟨_,rfl,_,rfl,l,us,i,rfl,hl,hi,?_⟩
 by_cases hb:inB i ss.length
 ·unfold Vw at k;rw[if_pos (by rw[hul];exact hb)];obtain⟨j,rfl⟩:=yK hb.1;have hj:j < ss.length:=by have:=hb.2;lia
  have ht:ss[j]? = some ss[j]:=xB hj;generalize ss[j]=t at ht;rw[yP,ht] at k;dsimp only at k;rw[if_pos hb] at k;obtain⟨ta,u1,u2,u4,hu,hta,⟨b1,w1,rfl,hb1,hr1⟩,⟨b2,w2,rfl,hb2,hr2⟩,h4⟩:=ZQ.get (l:=l) hrep ht;obtain⟨L1,L2',_,_⟩:=hok t (xM ht);have z1:=hr1.len;have z2:=hr2.len;have y1:=L1.2;have y2:=L2'.2;refine⟨_,rfl,_,rfl,_,rfl,l,us,j,.ref ta,rfl,rfl,ZF.of hl,Yu hu,ta,_,0,.ref b1,rfl,rfl,ZS.of hta,rfl,?_⟩;refine⟨_,rfl,_,rfl,l,us,j,.ref ta,rfl,rfl,ZF.of hl,Yu hu,ta,_,1,.ref b2,rfl,rfl,ZS.of hta,rfl,?_⟩;refine⟨b1,b2,w1,w2,rfl,rfl,hb1,hb2,by lia,fun q hq=>?_⟩;refine nw (o:=.lst (w1++w2)) hq fun H2 Sc kc=>?_;have hrs:ZN H2 (t.ones++t.others) (w1++w2):=ZN.mono (ZA.t Sc) (ZN.app hr2 hr1);refine⟨q,rfl,⟨_,ZF.of kc⟩,?_⟩;refine K7 kc hrs (by rw[xF];lia) fun l2 hl2=>?_;refine⟨l2,_,rfl,.inl (ZF.of Zi),rfl,GM _,_,rfl,?_⟩;rw[Hu];refine Vq (fun z=>?_) (fun z=>?_)
  ·rw[if_neg z] at k;exact⟨_,rfl,.inl ⟨n,rfl,by lia⟩,aA,_,rfl,.inr ⟨_,rfl,Vb hi⟩,fun _=>k _ (Sc.trans (ZA.new hl2))⟩
  ·rw[if_pos z] at k;exact k _ (Sc.trans (ZA.new hl2))
 ·rw[if_neg (by rw[hul];exact hb)];have e:Vw ss i n=some "NoCase" := by
   unfold Vw;cases ss[i.toNat]? with
   | none=>rfl
   | some t=>exact if_neg hb
  have k:=k H (ZA.refl H);rw[e] at k;exact k
inductive WY(vs:aG)(H:Hp)(Q:VK)(z3:XK):Prop
 |mk(l:XW) (ss:List ZT) (i:Nat) (n:Str)(_:vs = [.ref l,.int i,.str n])(_:ZQ H ss l)(_:(∀t∈ss,Uq t))(_:ss.length<=1000)(_:n.length<=100)(_:Vw ss i n=none)(_:∀(l2:XW)(H':Hp),H l2=none->H' l2=some (.lst (Ve (Cc ss i n)))->ZA H H'->Q (.ref l2) H')
abbrev HF:Stmt:=top 45
theorem QU(Zhv:YB K mg "breakers" HF)(T:Txt mg)(Zhw:YT P w K mg base "check_oath" 2 (VR c))(Zy1:Fn P w K mg base "breaking" ["suits"] 5 VE) :
  Fn P w K mg base "breakers" ["suits","case","name"] 6 WY:=by
 refine Zhv.fq ["suits","case","name"] fun H vs Q E hr h=>?_;obtain⟨l,ss,i,n,rfl,hsu,hok,hlen,hn,ho,k⟩:=h;refine⟨rfl,_,(Zc (Zj (Wr Xq.never Zhw (Za Q0 (Za Q8 (Za Q9 Zb))))) (Zg (Zw (Hl hr (Zk Zy1 (Za Q0 Zb)) (Z9 (Za Q8 (Za Q9 Zb))) (Yl Zb))))),?_⟩;have hi:i < ss.length:=by
  unfold Vw at ho;cases e:ss[(i:Int).toNat]? with
  | none=>rw[e] at ho;cases ho
  | some t=>rw[yP] at e;exact(xH.mp e).1
 refine⟨_,rfl,_,rfl,_,rfl,l,ss,i,n,rfl,hsu,hok,by unfold okI;lia,hn,fun H1 sm1=>?_⟩;rw[ho];refine⟨_,rfl,l,ss,rfl,hsu.mono sm1,hok,hlen,fun g H2 hg ⟨kvs,a1,a2,a3,a4⟩ hfr sm2=>⟨g,rfl,.inr ⟨kvs,.inl a1⟩,?_⟩⟩;refine⟨_,rfl,_,rfl,aB rfl,fun q hq=>?_⟩;refine nw (o:=.tup [.int i,.str n]) hq fun H3 Sq kq=>?_;refine⟨aB rfl,fun e he=>?_⟩;refine nw (o:=.lst []) he fun H4 Se ke=>?_;have S24:=Sq.trans Se;have S:=(sm1.trans sm2).trans S24;refine⟨_,ZZ.t (S24 _ _ a1) (k:=Ym i n) (Se _ _ kq),?_⟩;rcases a4 i n with⟨e1,e2⟩ | ⟨a,e1,e2⟩
 ·rw[e1];refine k e H4 (((sm1.trans sm2).trans Sq).free he) ?_ S;unfold Cc;rw[e2];exact ke
 ·rw[e1];exact k a H4 (sm1.free (hfr kvs i n a a1 e1)) (S24 _ _ e2) S
end
section
variable{C CM:XW}{c:XR}
theorem Dk{t u:TS}{D:_}{σ:St}{H:Hp}(Rk:Hp->Prop)(h:(∀H',Rk H'->u D σ H')->Ue t u D σ H)(k:∀H',Rk H'->u D σ H'):Ue t u D σ H:=h k
theorem Bw:∀{ps:XO}{i:Nat}{n x:Str},ps[i]? = some n->(∀j < i,∀y,ps[j]? = some y->f y=none)->f n=some x->ps.findSome? f=some x
 | [],i,n,x,h,_,_=>by cases h
 | p::ps,0,n,x,h,_,e=>by cases h;rw[List.findSome?_cons,e]
 | p::ps,i+1,n,x,h,a,e=>by rw[List.findSome?_cons,a 0 (by lia) p rfl];exact Bw (i:=i) h (fun j hj y hy=>a (j+1) (by lia) y hy) e
theorem BU{f:Str->Option Str}{ps:XO}(a:∀j < ps.length,∀y,ps[j]? = some y->f y=none):ps.findSome? f=none:=by
 rw[List.findSome?_eq_none_iff];intro x hx;obtain⟨j,hj,e⟩:=List.getElem_of_mem hx;exact a j hj x (by rw[xB hj,e])
theorem Dh{f:Str->Option Str}{ps:XO}{i:Nat}{n:Str}(h:ps[i]? = some n)(a:∀j < i,∀y,ps[j]? = some y->f y=none)(e:f n=none):∀j < i+1,∀y,ps[j]? = some y->f y=none:=fun j hj y hy=>by grind
structure WS (m:Mo):Prop where
 ok:∀t∈m.trials,Uq t
 dl:m.days.length=m.trials.length
 br:∀(i:Nat)(e:D),m.brs[i]? = some e->∃(x:Str)(d:Int),e = .tup [.str x,.int d]
 le:m.trials.length<=60
 vl:m.verd.length=m.trials.length
 hb:m.haps.length=m.brs.length
 hl:∀q∈m.haps,q.length<=m.deeds.length
 ql:m.debts.length<=m.deeds.length
def brD(m:Mo)(i:Int):Int:=match m.brs[i.toNat]? with
 | some (.tup [_,.int d])=>d
 | _=>0
def Wt(ds:List ZI)(m:Mo)(day:Int)(ps:XO)(th:Option Int)(oa:Option (Int×Str)):Option Str :=
 (ps.findSome? (We ds)).or ((th.bind (JG m)).or ((oa.bind fun p=>Vw m.trials p.1 p.2).or ((ps.findSome? fun n=>Wl ((Zn ds n).getD 0) day).or ((th.bind fun i=>Wl (brD m i) day).or
  ((oa.bind fun p=>Wl (m.days.getD p.1.toNat 0) day).or (ps.findSome? fun n=>TZ ds n day))))))
def thV:Option Int->V
 | none=>.non
 | some i=>.int i
def oaV(H:Hp):Option (Int×Str)->V->Prop
 | none,v=>v = .non
 | some (i,n),v=>okI i/\n.length<=100/\∃a,v = .ref a/\H a=some (.tup [.int i,.str n])
inductive YG(C CM:XW)(c:XR)(vs:aG)(H:Hp)(Q:VK)(E:XK):Prop
 |mk(M) (ds) (wa) (xs) (m) (qs) (day) (pl) (ps) (th) (oa) (v2)(_:vs = [.ref M.p,.int day,.ref pl,thV th,v2])(_:ZC C CM H M ds wa xs m qs)(_:WS m)(_:H pl=some (.lst (ps.map V.str)))(_:(∀n∈ps,n.length<=100))(_:okI day)(_:(∀i,th=some i->okI i))(_:oaV H oa v2)(_:∀H',ZA H H'->due E c H' (Q .non H') (Wt ds m day ps th oa))
abbrev GD:Stmt:=Yr (top 58) 40
theorem Nh(Zhx:ZR K CM "check_named" "Moot.check_named" GD)(Tc:WC K C)(Tm:ZK K CM)(er:Er K mg c errs)(M_check_known:ZY P w K mg base C "check_known" 1 (YL C c))(M_check_there:ZY P w K mg base C "check_there" 1 (YZ C c))(M_check_living:ZY P w K mg base C "check_living" 2 (WK C c))(MM_check_thing:ZY P w K mg base CM "check_thing" 1 (UA C CM c))(Zhw:YT P w K mg base "check_oath" 2 (VR c)):ZY P w K mg base CM "check_named" 3 (YG C CM c):=by
 refine Zhx.mx ["self","day","people","thing","oath","name"] ["self","day","people","thing","oath"] fun H vs Q E hr h=>?_;obtain⟨M,ds,wa,xs,m,qs,day,pl,ps,th,oa,v2,rfl,W,ok,hpl,hps,hd,hth,hoa,k⟩:=h
 refine⟨rfl,_,(Zc (Dj Df Yz (by rfl) (Y6 Q9) (Ye 5)
 (fun hxq hxp=>(Zg (Zj (Yj hxq (Zx Q0) Tc.cl M_check_known (Za Qc Zb))))))
 (Zc (Zp (Zq J9 Qa Y7 (Zu _)) (Zg (Zj (Yj Z1 Q0 Tm.cl MM_check_thing (Za Qa Zb)))) Zo)
 (Zc (Zp (Zq J9 Qb Y7 (Zu _)) (Zg (Zj (Wr Z1 Zhw (Za (Zx Q0) (Za (Zh Zs Qb Zd (fun _ _=>rfl)) (Za (Zh Zs Qb Zd (fun _ _=>rfl)) Zb)))))) Zo)
 (Zc (Dj Df Yz (by rfl) (Y6 Q9) (Ye 5)
 (fun hxq hxp=>(Zg (Zj (Yj hxq (Zx Q0) Tc.cl M_check_there (Za Qc (Za Q8 Zb)))))))
 (Zc (Zp (QW.pt (Vl (Zq J9 Qa Y7 (Zu _)) (Uo (Zq U0 Q8 (Zh Zs (Zh Yb (Zx Q0) Qa (fun _ _=>rfl)) Zd (fun _ _=>rfl)) (Zu _))))) (Zg (Wd Yz er (Wh (Yq (Y0 Qa (Yq (Y0 Q8 Wg))))))) Zo)
 (Zc (Zp (QW.pt (Vl (Zq J9 Qb Y7 (Zu _)) (Uo (Zq U0 Q8 (Zh Yb (Zx Q0) (Zh Zs Qb Zd (fun _ _=>rfl)) (fun _ _=>rfl)) (Zu _))))) (Zg (Wd Yz er (Wh (Yq (Y0 Q8 Wg))))) Zo)
 (Zg (Dj Df Yz (by rfl) (Y6 Q9) (Ye 5)
 (fun hxq hxp=>(Zg (Zj (Yj hxq (Zx Q0) Tc.cl M_check_living (Za Qc (Za Q8 Zb)))))))))))))),?_⟩
 obtain⟨dm,obm⟩:=W.ob;have F:=W.fk.f;obtain⟨dx,ob⟩:=F.ob;have hget:∀{i:Nat}{v:V},(ps.map V.str)[i]? = some v->∃n,v = .str n/\ps[i]? = some n/\n.length<=100:=fun {i v} hv=>by
  rw[xE] at hv;obtain⟨a,h1,h2⟩:=xP.mp hv;exact⟨a,h2.symm,h1,hps a (xM h1)⟩
 have hlen:(ps.map V.str).length=ps.length:=xA ..;unfold Wt at k;refine⟨_,rfl,pl,rfl,⟨_,ZF.of hpl⟩,?_⟩;refine Vn (ps.map V.str) (fun i σ H'=>∃v5:Option V,σ = [some (.ref M.p),some (.int day),some (.ref pl),some (thV th),some v2,v5]/\H=H'/\∀j < i,∀y,ps[j]? = some y->We ds y=none) ⟨none,rfl,rfl,fun j hj=>absurd hj (by lia)⟩ (fun i σ H' _ ⟨_,_,e,_⟩=>by rw[← e];exact ZF.of hpl) ?_ ?_
 ·rintro i v σ H' hv ⟨v5,rfl,rfl,ha⟩;obtain⟨n,rfl,hn,hl⟩:=hget hv;refine⟨_,rfl,M.p,CM,dm,_,_,rfl,obm,Tm.cl,Tm.nf,Uc _,M.L.p,dx,_,rfl,ob,Yw _ _ _ _ aA,_,rfl,M.L,ds,n,rfl,F,hl,?_⟩;cases e:We ds n with
  | none=>exact⟨_,rfl,rfl,Dh hn ha e⟩
  | some x =>
   rw[Bw hn ha e] at k;exact k H (ZA.refl H)
 rintro σ H' ⟨v5,rfl,rfl,ha⟩;rw[hlen] at ha;rw[BU ha,xK] at k;have hcom:∀i n,ps[i]? = some n->∃d,Zn ds n=some d:=fun i n hi=>by
  have:=ha i (xH.mp hi).1 n hi;unfold We at this;cases e:Zn ds n with
  | none=>rw[if_pos e] at this;cases this
  | some d=>exact⟨d,rfl⟩
 try dsimp only
 refine Dk (fun H'=>ZA H H'/\th.bind (JG m)=none) (fun kk=>?_) (fun H1 ⟨S1,e1⟩=>?_)
 ·cases th with
  | none=>exact⟨_,rfl,rfl,_,rfl,Z4 (kk H ⟨ZA.refl H,rfl⟩)⟩
  | some i =>
   refine⟨_,rfl,rfl,_,rfl,Z7 ⟨_,rfl,M.p,dm,_,rfl,obm,Yi _ aA,_,rfl,M,ds,wa,xs,m,qs,i,rfl,W,hth i rfl,?_⟩⟩;rw[yX] at k;cases e:JG m i with
   | none=>exact kk H ⟨ZA.refl H,e⟩
   | some x=>rw[e] at k;exact k H (ZA.refl H)
 rw[e1,xK] at k;have W1:=W.same S1
 try dsimp only
 refine Dk (fun H'=>ZA H H'/\(oa.bind fun p=>Vw m.trials p.1 p.2)=none) (fun kk=>?_) (fun H2 ⟨S2,e2⟩=>?_)
 ·cases oa with
  | none =>
   obtain rfl:=hoa;exact⟨_,rfl,rfl,_,rfl,Z4 (kk H1 ⟨S1,rfl⟩)⟩
  | some p =>
   obtain⟨hi,hn,a,rfl,ha⟩:=hoa;obtain⟨ts,t1,t2,_⟩:=(W1.ls (M.lt,m.trials.map Wo) (by simp[Mo.at_])).get;refine⟨_,rfl,rfl,_,rfl,Z7 ⟨_,rfl,M.p,CM,dm,_,_,rfl,S1 _ _ obm,Tm.cl,Tm.nt,JX _,_,rfl,a,_,0,_,rfl,rfl,ZS.of (S1 _ _ ha),rfl,_,rfl,a,_,1,_,rfl,rfl,ZS.of (S1 _ _ ha),rfl,?_⟩⟩;refine⟨M.lt,m.trials,p.1,p.2,rfl,⟨ts,t1,t2⟩,ok.ok,hi,hn,fun H' S'=>?_⟩;rw[yX] at k;cases e:Vw m.trials p.1 p.2 with
   | none=>exact kk H' ⟨S1.trans S',e⟩
   | some x=>rw[e] at k;exact k H' (S1.trans S')
 rw[e2,xK] at k;have W2:=W.same S2;have F2:=W2.fk.f;refine⟨_,rfl,pl,rfl,⟨_,ZF.of (S2 _ _ hpl)⟩,?_⟩;refine Vn (ps.map V.str) (fun i σ H'=>∃v5:Option V,σ = [some (.ref M.p),some (.int day),some (.ref pl),some (thV th),some v2,v5]/\H2=H'/\∀j < i,∀y,ps[j]? = some y->Wl ((Zn ds y).getD 0) day=none) ⟨v5,rfl,rfl,fun j hj=>absurd hj (by lia)⟩ (fun i σ H' _ ⟨_,_,e,_⟩=>by rw[← e];exact ZF.of (S2 _ _ hpl)) ?_ ?_
 ·rintro i v σ H' hv ⟨v5,rfl,rfl,ha⟩;obtain⟨n,rfl,hn,hl⟩:=hget hv;obtain⟨d,hc⟩:=hcom i n hn;refine⟨_,rfl,M.p,CM,dm,_,_,rfl,S2 _ _ obm,Tm.cl,Tm.nf,Uc _,M.L.p,dx,_,rfl,S2 _ _ ob,Yw _ _ _ _ aA,_,rfl,_,rfl,M.L,ds,n,d,day,rfl,F2,hc,hl,hd,?_⟩;have eq:Wl ((Zn ds n).getD 0) day=Wl d day:=by rw[hc];rfl
  cases e:Wl d day with
  | none=>exact⟨_,rfl,rfl,Dh hn ha (eq.trans e)⟩
  | some x =>
   rw[Bw hn ha (eq.trans e)] at k;exact k H2 S2
 rintro σ H' ⟨v5,rfl,rfl,hb⟩;rw[hlen] at hb;rw[BU hb,xK] at k
 try dsimp only
 refine Dk (fun H'=>ZA H H'/\(th.bind fun i=>Wl (brD m i) day)=none) (fun kk=>?_) (fun H3 ⟨S3,e3⟩=>?_)
 ·cases th with
  | none=>exact⟨_,rfl,rfl,_,rfl,Z4 (Z4 (kk H2 ⟨S2,rfl⟩))⟩
  | some i =>
   obtain⟨vs,b1,b2,b3⟩:=(W2.ls (M.lb,m.brs) (by simp[Mo.at_])).get;dsimp only at b1 b2 b3;have hin:inB i m.brs.length:=by
    rw[yX] at e1;unfold JG at e1
    by_cases z:inB i m.brs.length
    ·exact z
    ·rw[if_neg z] at e1;cases e1
   obtain⟨j,rfl⟩:=yK hin.1;have hj:j < vs.length:=by have:=hin.2;lia
   obtain⟨e,he,re⟩:=b2.get (xB hj);obtain⟨x,d,rfl⟩:=ok.br j e he;obtain⟨a,us,ea,ha,⟨_,_,rfl,rfl,⟨_,_,rfl,rfl,rfl⟩⟩⟩:=re;have hbr:brD m (j:Int)=d:=by unfold brD;rw[yP,he]
   rw[yX,hbr] at k;refine⟨_,rfl,rfl,_,rfl,Z7 ⟨_,rfl,_,rfl,M.p,CM,dm,_,_,rfl,S2 _ _ obm,Tm.cl,Tm.nb,Bs _,_,rfl,M.lb,vs,j,_,rfl,rfl,ZF.of b1,Yu (xB hj),a,_,1,_,ea,rfl,ZS.of ha,rfl,_,_,rfl,rfl,_,rfl,Zy (fun z=>?_) (fun z=>?_)⟩⟩
   ·have e:Wl d day=some "NotYet" := if_pos z;rw[e] at k;exact⟨aA,_,rfl,.inr ⟨_,rfl,Vb (hth _ rfl)⟩,aA,_,rfl,.inr ⟨_,rfl,Vb hd⟩,fun _=>k H2 S2⟩
   ·exact kk H2 ⟨S2,by rw[yX,hbr];exact if_neg z⟩
 rw[e3,xK] at k;have W3:=W.same S3
 try dsimp only
 refine Dk (fun H'=>ZA H H'/\(oa.bind fun p=>Wl (m.days.getD p.1.toNat 0) day)=none) (fun kk=>?_) (fun H4 ⟨S4,e4⟩=>?_)
 ·cases oa with
  | none =>
   obtain rfl:=hoa;exact⟨_,rfl,rfl,_,rfl,Z4 (Z4 (kk H3 ⟨S3,rfl⟩))⟩
  | some p =>
   obtain⟨i,n⟩:=p;obtain⟨hi,hn,a,rfl,ha⟩:=hoa;obtain⟨vs,y1,y2,y3⟩:=(W3.ls (M.ly,m.days.map D.int) (by simp[Mo.at_])).get;dsimp only at y1 y2 y3;rw[xA] at y3;have hin:inB i m.trials.length:=by
    rw[yX] at e2;unfold Vw at e2
    by_cases z:inB i m.trials.length
    ·exact z
    ·split at e2
     ·rw[if_neg z] at e2;cases e2
     ·cases e2
   obtain⟨j,rfl⟩:=yK hin.1;have hj:j < vs.length:=by have:=hin.2;have:=ok.dl;lia
   obtain⟨e,he,re⟩:=y2.get (xB hj);rw[xE] at he;obtain⟨d,hd1,rfl⟩:=xP.mp he;have re:vs[j]= .int d:=re;have hdd:m.days.getD (j:Int).toNat 0=d:=by rw[yP,xZ,hd1];rfl
   rw[yX] at k;dsimp only at k;rw[hdd] at k;refine⟨_,rfl,rfl,_,rfl,Z7 ⟨_,rfl,_,rfl,M.p,CM,dm,_,_,rfl,S3 _ _ obm,Tm.cl,Tm.ny,FE _,_,rfl,a,_,0,_,rfl,rfl,ZS.of (S3 _ _ ha),rfl,M.ly,vs,j,.int d,rfl,rfl,ZF.of y1,re▸Yu (xB hj),_,_,rfl,rfl,_,rfl,Zy (fun z=>?_) (fun z=>?_)⟩⟩
   ·have e:Wl d day=some "NotYet" := if_pos z;rw[e] at k;exact⟨aA,_,rfl,.inr ⟨_,rfl,Vb hd⟩,fun _=>k H3 S3⟩
   ·exact kk H3 ⟨S3,by rw[yX];dsimp only;rw[hdd];exact if_neg z⟩
 rw[e4,xK] at k;have W4:=W.same S4;have F4:=W4.fk.f;refine⟨_,rfl,pl,rfl,⟨_,ZF.of (S4 _ _ hpl)⟩,?_⟩;refine Vn (ps.map V.str) (fun i σ H'=>∃v5:Option V,σ = [some (.ref M.p),some (.int day),some (.ref pl),some (thV th),some v2,v5]/\H4=H'/\∀j < i,∀y,ps[j]? = some y->TZ ds y day=none) ⟨v5,rfl,rfl,fun j hj=>absurd hj (by lia)⟩ (fun i σ H' _ ⟨_,_,e,_⟩=>by rw[← e];exact ZF.of (S4 _ _ hpl)) ?_ ?_
 ·rintro i v σ H' hv ⟨v5,rfl,rfl,ha⟩;obtain⟨n,rfl,hn,hl⟩:=hget hv;refine⟨_,rfl,M.p,CM,dm,_,_,rfl,S4 _ _ obm,Tm.cl,Tm.nf,Uc _,M.L.p,dx,_,rfl,S4 _ _ ob,Yw _ _ _ _ aA,_,rfl,_,rfl,M.L,ds,n,day,rfl,F4,hl,hd,?_⟩;cases e:TZ ds n day with
  | none=>exact⟨_,rfl,rfl,Dh hn ha e⟩
  | some x =>
   rw[Bw hn ha e] at k;exact k H4 S4
 rintro σ H' ⟨v5,rfl,rfl,hg⟩;rw[hlen] at hg;rw[BU hg] at k;exact k _ S4
end
section
variable{C CM:XW}
def wOk(ds:List ZI)(day:Int)(f:Str->Int)(n:Str):Prop:=∃d,Zn ds n=some d/\d<=day/\A4 (kw ds n) day (f n)
inductive WH(C CM:XW)(vs:aG)(H:Hp)(Q:VK)(z3:XK):Prop
 |mk(M:ML) (ds:List ZI) (wa:XR) (xs:XS) (m:Mo) (qs:XS) (nl:XW) (ns:XO) (day:Int) (f:Str->Int)(_:vs = [.ref M.p,.ref nl,.int day])(_:ZC C CM H M ds wa xs m qs)(_:ds.length<=1000)(_:H nl=some (.lst (ns.map V.str)))(_:ns.length<=60)(_:0<=day)(_:day<=9999)(_:(∀n∈ns,wOk ds day f n))(_:∀(l:XW)(us:aG)(H':Hp),H l=none->ZA H H'->H' l=some (.lst us)->ZN H' (ns.map fun n=>(n,f n)) us->Q (.ref l) H')
abbrev BZ:Stmt:=Yr (top 58) 38
theorem Os:Nm (Zm BZ) "day" .cell:=aA
theorem KW:Nm (Zm BZ) "self" .cell:=aA
theorem QY(Zhy:ZR K CM "weighed" "Moot.weighed" BZ)(Tc:WC K C)(Tm:ZK K CM)(M_weight:Mt P w K mg base C "weight" ["self","name","day"] 2 (UM C)):Mt P w K mg base CM "weighed" ["self","names","day"] 3 (WH C CM):=by
 refine Zhy.mq ["self","names","day"] fun H vs Q E hr h=>?_;obtain⟨M,ds,wa,xs,m,qs,nl,ns,day,f,rfl,W,hds,hnl,hlen,h0,h1,hw,k⟩:=h
 refine⟨rfl,_,(Zg (Zw (Vz (locs:=["name"]) (fr:=[("self", 0),("day", 2)]) ⟨rfl,aA,aA,aA,aA,aA⟩ (.consN KW (.consN Os .nil)) rfl (Y6 Q8) ⟨fun _ _ _ _ _ _=>by
  have cnd:(inN ["name"] [("self", 0),("day", 2)]).Nodup:=aA
  exact⟨(Wn 0 cnd),U9,(Z9 (Za (Y1 0) (Za (Wc (KO (Vh 1)) Tc.cl M_weight (Za (Y1 0) (Za (Vh 2) Zb))) Zb)))⟩⟩))),?_⟩
 have hz:(60:Nat)<=sizeLine:=by decide
 obtain⟨dm,obm⟩:=W.ob;obtain⟨dx,ob⟩:=W.fk.f.ob;refine⟨_,rfl,nl,rfl,⟨_,ZF.of hnl⟩,?_⟩;refine Je (xs:=ns.map V.str) (fun i ys H'=>ZA H H'/\ZN H' ((ns.take i).map fun n=>(n,f n)) ys) ⟨ZA.refl H,rfl⟩ (by rw[xA];lia) (fun i ys H' _ ⟨e,_⟩=>ZF.of (e _ _ hnl)) ?_ ?_ ?_
 ·rintro i ys H' ⟨_,r⟩;rw[r.len,xA,xT];lia
 ·rintro i x ys H' hx ⟨S,r⟩ ls hls;obtain⟨u,rfl⟩:=Uu hls;rw[xE] at hx;obtain⟨n,hn,rfl⟩:=xP.mp hx;obtain⟨d,hc,hd,hi⟩:=hw n (xM hn);have W1:=W.same S;refine⟨⟨[_],rfl,rfl⟩,Z7 ?_⟩;refine⟨_,rfl,_,rfl,M.p,CM,dm,_,_,rfl,S _ _ obm,Tm.cl,Tm.nf,Uc _,M.L.p,dx,_,rfl,S _ _ ob,Yw _ _ _ _ aA,_,rfl,_,rfl,M.L,ds,wa,n,day,d,f n,rfl,W1.fk.f,W1.fk.w,hds,h0,h1,hc,hd,hi,fun H2 S2=>?_⟩;refine⟨aB rfl,fun q hq=>⟨(S.trans S2).trans (ZA.new hq),?_⟩⟩;rw[xW,hn,xO];exact ZN.snoc (p:=(n,f n)) Zi (ZN.mono (ZA.t (S2.trans (ZA.new hq))) r)
 ·rintro ys H' ⟨S,r⟩ l hl;rw[xA,xX] at r;exact k l ys _ (S.free hl) (S.trans (ZA.new hl)) Zi (ZN.mono (ZA.t (ZA.new hl)) r)
def V1(m:Mo)(n:Str)(i:Nat):Bool:=match (m.trials[i]?).bind (·.named) with
 | some p=>decide (p.2=n) && m.verd.getD i false && decide ((m.pen n).getD 0<=(i:Int))
 | none=>false
def A2(m:Mo)(k:Nat)(n:Str):Bool:=(List.range k).any (V1 m n)
def Vi(m:Mo)(n:Str):Bool:=A2 m m.trials.length n
theorem Gd(m:Mo)(k:Nat)(n:Str):A2 m (k+1) n=(A2 m k n || V1 m n k):=by
 unfold A2;rw[List.range_succ,List.any_append];simp
inductive VO(C CM:XW)(vs:aG)(H:Hp)(Q:VK)(z3:XK):Prop
 |mk(M) (ds) (wa) (xs) (m) (qs)(_:vs = [.ref M.p])(_:ZC C CM H M ds wa xs m qs)(_:m.verd.length=m.trials.length)(_:m.trials.length<=60)(_:∀g kvs H',H g=none->ZA H H'->H' g=some (.dK kvs)->(∀n:Str,(Zz kvs (.inr n)).isSome=Vi m n)->Q (.ref g) H')
abbrev GH:Stmt:=Yr (top 58) 37
theorem OT(Zhz:ZR K CM "forsworn_names" "Moot.forsworn_names" GH)(T:Txt mg)(Tm:ZK K CM)(C3:∃t,mg "NAMED" = some (.int 3 t)):Mt P w K mg base CM "forsworn_names" ["self"] 1 (VO C CM):=by
 obtain⟨t3,c_NAMED⟩:=C3;have r_NAMED:ZG (.int 3) (.int 3 t3):=⟨t3,rfl⟩;refine Zhz.mq ["self","names","case","suit","oath"] fun H vs Q E hr h=>?_;obtain⟨M,ds,wa,xs,m,qs,rfl,W,hv,hle,k⟩:=h
 refine⟨rfl,_,(Zc (Zv 1 Bm) (Zc (Wq PassesOwn.never rfl (Hg T.enumerate (Za (Zx Q0) Zb)) (Bj (by rfl) (Yx (Ye 2) (Yx (Ye 3) V3)))
 (Zc (Zv 4 (Zh Zs Qa (Y8 c_NAMED r_NAMED) (fun _ _=>rfl)))
 (Zg (Zp (QW.pt (Vl (Zq J9 Qb Y7 (Zu _)) (Vl (Vd (Zh Yb (Zx Q0) Q9 (fun _ _=>rfl))) (Uo (Zq J8 Q9 (Hl hr (Zx Q0) (Zh Zs Qb Zd (fun _ _=>rfl)) Zd) (Zu _)))))) (Zg (Jt hr Q8 (Zh Zs Qb Zd (fun _ _=>rfl)) Ji)) Zo))))
 (Zg (Zw Q8)))),?_⟩
 have hz:=aC
 obtain⟨dm,obm⟩:=W.ob;refine fun g hg=>?_;refine nw (o:=.dK []) hg fun H1 Sg kg=>?_;refine Z8 ?_;have W1:=W.same Sg;obtain⟨ts,t1,t2,t3'⟩:=(W1.ls (M.lt,m.trials.map Wo) (by simp[Mo.at_])).get;obtain⟨bs,v1,v2,v3⟩:=(W1.ls (M.lv,m.verd.map D.bl) (by simp[Mo.at_])).get;dsimp only at t1 t2 t3' v1 v2 v3;rw[xA] at t3' v3;obtain⟨pk,p1,p2,p3⟩:=W1.pn;have ngp:∀{o:HO}{b:XW},H b=some o->b≠g:=fun e z=>by rw[z,hg] at e;cases e
 refine⟨_,rfl,M.p,CM,dm,_,_,rfl,Sg _ _ obm,Tm.cl,Tm.nt,JX _,M.lt,ts,rfl,ZF.of t1,?_⟩;refine LN ts (fun i σ H'=>∃(v2 v3 v4:Option V)(kvs:List (ZU×V)),σ = [some (.ref M.p),some (.ref g),v2,v3,v4]/\ZA H H'/\H' g=some (.dK kvs)/\(∀b o,b≠g->H1 b=some o->H' b=some o)/\kvs.length<=i/\∀n:Str,(Zz kvs (.inr n)).isSome=A2 m i n) ⟨none,none,none,[],rfl,Sg,kg,fun _ _ _ e=>e,yN _,fun _=>rfl⟩
  (fun i σ H' _ ⟨_,_,_,_,_,_,_,k1,_⟩=>ZF.of (k1 _ _ (ngp ((W.ls (M.lt,m.trials.map Wo) (by simp[Mo.at_])).get.choose_spec.1)) t1)) ?_ ?_
 ·rintro i x p σ H' hx ⟨v2',v3',v4',kvs,rfl,S,kk,k1,hk,hf⟩ hp;refine nw (o:=.tup [.int i,x]) hp fun H2 Sp kp=>?_;have hi:i < ts.length:=(xH.mp hx).1;obtain⟨t,ht⟩:∃t,m.trials[i]? = some t:=⟨_,xB (by lia)⟩;obtain⟨vb,hvb⟩:∃vb,m.verd[i]? = some vb:=⟨_,xB (by lia)⟩;obtain⟨ta,u1,u2,u4,hu,hta,_,_,h4⟩:=ZQ.get (l:=M.lt) t2 ht;rw[hu] at hx;cases hx;have k2:∀b o,b≠g->H1 b=some o->H2 b=some o:=fun b o n e=>Sp _ _ (k1 b o n e);have kt:∀{b us},H1 b=some (.tup us)->H2 b=some (.tup us):=fun {b us} e=>k2 b _ (fun z=>by rw[z,kg] at e;cases e) e;have hvd:m.verd.getD i false=vb:=by rw[xZ,hvb];rfl
  refine⟨p,_,rfl,ZS.of kp,rfl,_,_,rfl,_,_,rfl,rfl,?_⟩;refine⟨_,rfl,ta,_,3,u4,rfl,rfl,ZS.of (kt hta),rfl,?_⟩;have stay:(∀n,V1 m n i=false)->∃(v2 v3 v4:Option V)(kvs:List (ZU×V)),[some (V.ref M.p),some (.ref g),some (.int i),some (.ref ta),some u4]= [some (.ref M.p),some (.ref g),v2,v3,v4]/\ZA H H2/\H2 g=some (.dK kvs)/\(∀b o,b≠g->H1 b=some o->H2 b=some o)/\kvs.length<=i+1/\∀n:Str,(Zz kvs (.inr n)).isSome=A2 m (i+1) n:=fun z =>
   ⟨_,_,_,kvs,rfl,S.trans Sp,Sp _ _ kk,k2,by lia,fun n=>by rw[Gd,z,Bool.or_false];exact hf n⟩
  cases hn:t.named with
  | none =>
   rw[hn] at h4;cases h4;refine⟨_,rfl,rfl,_,rfl,Z4 (Z4 (stay fun n=>?_))⟩;unfold V1;rw[ht,yX,hn]
  | some o =>
   rw[hn] at h4;obtain⟨c0,n0⟩:=o;obtain⟨b,bs',rfl,hb,⟨y1,r1,rfl,e1,⟨y2,r2,rfl,e2,e3⟩⟩⟩:=h4;cases e1;cases e2;cases e3;have hfb:∀n,V1 m n i=(decide (n0=n) && vb && decide ((m.pen n).getD 0<=(i:Int))):=fun n=>by unfold V1;rw[ht,yX,hn,hvd]
   have ibs:i < bs.length:=by rw[v3];exact(xH.mp hvb).1
   obtain⟨e,he,re⟩:=v2.get (xB ibs);rw[xE,hvb] at he;cases he;have re:bs[i]= .bl vb:=re;refine⟨_,rfl,rfl,_,rfl,Z7 ?_⟩;refine⟨_,rfl,M.p,CM,dm,_,_,rfl,k2 _ _ (ngp obm) (Sg _ _ obm),Tm.cl,Tm.nv,Nk _,_,rfl,M.lv,bs,i,.bl vb,rfl,rfl,ZF.of (k2 _ _ (fun z=>by rw[z,kg] at v1;cases v1) v1),re▸Yu (xB ibs),vb,rfl,?_⟩;cases vb with
   | false=>exact Z4 (Z4 (stay fun n=>by rw[hfb,Bool.and_false];rfl))
   | true =>
    refine Z7 ?_;have ndp:M.dp≠g:=fun z=>by obtain⟨pk',q1,_⟩:=W.pn;rw[z,hg] at q1;cases q1
    have p1':=k2 _ _ ndp p1;have gp:=ZZ.k (k:=Sum.inr n0) p1';rw[p3] at gp;refine⟨_,rfl,_,rfl,M.p,CM,dm,_,_,rfl,k2 _ _ (ngp obm) (Sg _ _ obm),Tm.cl,Tm.np,Kf _,M.dp,rfl,.inl ⟨pk,.inl p1'⟩,_,rfl,b,_,1,_,rfl,rfl,ZS.of (kt hb),rfl,_,gp,?_⟩;have eo:(Option.map V.int (m.pen n0)).getD (.int 0)= .int ((m.pen n0).getD 0):=by cases m.pen n0<;>rfl
    rw[eo];refine⟨_,_,rfl,rfl,_,rfl,Zy (fun z=>?_) (fun z=>stay fun n=>?_)⟩
    ·refine⟨_,rfl,_,rfl,b,_,1,_,rfl,rfl,ZS.of (kt hb),rfl,g,_,rfl,YU.k (k:=Sum.inr n0) (Sp _ _ kk) (by lia),?_⟩;refine⟨_,_,_,Z3 kvs (.inr n0) (.bl true),rfl,fun b o e=>?_,Zi,fun b o n e=>by rw[Ze n];exact k2 b o n e,yC (Vy _ _ _) (by lia),fun n=>?_⟩
     ·rw[Ze (ngp e)];exact(S.trans Sp) b o e
     ·rw[Uk,Gd,hfb,← hf n]
      by_cases e:n=n0
      ·subst e;rw[if_pos rfl,yJ rfl,yJ z];simp
      ·grind
    ·grind
 ·rintro σ H' ⟨v2',v3',v4',kvs,rfl,S,kk,k1,hk,hf⟩;rw[t3'] at hf;exact⟨_,rfl,k g kvs H' hg S kk hf⟩
end
section
variable{C CM:XW}{c:XR}
abbrev Yg(f:Str->Int)(ns:XO):Va:=ns.map fun n=>(n,f n)
def Ud(m:Mo)(need:Int)(f:Str->Int)(o1 o2:XO):Option Str :=
 if 60<=m.trials.length then some "TooMany" else if 12 < max o1.length o2.length then some "TooMany" else (Ys m).or (if C4 (o1++o2) < (o1++o2).length then some ("SwornTwice" : Str) else
  ((o1++o2).findSome? fun n=>if Vi m n=true then some ("Forsworn" : Str) else none).or (if (wts (Yg f o1)).sum < need then some ("TooLight" : Str) else none))
inductive WB(C CM:XW)(c:XR)(vs:aG)(H:Hp)(Q:VK)(E:XK):Prop
 |mk(M) (ds) (wa) (xs) (m) (qs) (day need) (l1 l2) (o1 o2) (f)(_:vs = [.ref M.p,.int day,.int need,.ref l1,.ref l2])(_:ZC C CM H M ds wa xs m qs)(_:WS m)(_:ds.length<=1000)(_:H l1=some (.lst (o1.map V.str)))(_:H l2=some (.lst (o2.map V.str)))(_:o1.length<=60)(_:o2.length<=60)(_:0<=day)(_:day<=9999)(_:okI need)(_:(∀n∈o1++o2,n.length<=100/\wOk ds day f n/\1<=f n/\f n<=1000))(_:∀H',ZA H H'->due E c H' (Q .non H') (Ud m need f o1 o2))
abbrev Gc:Stmt:=Yr (top 58) 42
theorem Xk(Zh0:ZR K CM "check_sides" "Moot.check_sides" Gc)(T:Txt mg)(Tm:ZK K CM)(er:Er K mg c errs)(C0:∃t,mg "MOST_CASES" = some (.int 60 t))(C1:∃t,mg "MOST_SWEARERS" = some (.int 12 t))(MM_check_moments:ZY P w K mg base CM "check_moments" 1 (YM C CM c))(MM_forsworn_names:Mt P w K mg base CM "forsworn_names" ["self"] 1 (VO C CM))(MM_weighed:Mt P w K mg base CM "weighed" ["self","names","day"] 3 (WH C CM))(Zy2:Fn P w K mg base "total" ["side"] 1 UZ):ZY P w K mg base CM "check_sides" 4 (WB C CM c):=by
 obtain⟨t0,c_MOST_CASES⟩:=C0;obtain⟨t1,c_MOST_SWEARERS⟩:=C1;have r_MOST_CASES:ZG (.int 60) (.int 60 t0):=⟨t0,rfl⟩;have r_MOST_SWEARERS:ZG (.int 12) (.int 12 t1):=⟨t1,rfl⟩;refine Zh0.mx ["self","day","need","ones","others","barred","name"] ["self","day","need","ones","others"] fun H vs Q E hr h=>?_;obtain⟨M,ds,wa,xs,m,qs,day,need,l1,l2,o1,o2,f,rfl,W,ok,hds,h1,h2,n1,n2,d0,d1,hi,hw,k⟩:=h
 refine⟨rfl,_,(Zc (Zp (Zq J8 (Z5 Yp T.len Yh (Za (Zx Q0) Zb)) (Y8 c_MOST_CASES r_MOST_CASES) (Zu _)) (Zg (Wd Yz er (Wh (Yq (Y0 (Y8 c_MOST_CASES r_MOST_CASES) (Yq Wg)))))) Zo) (Zc (Zp (Zq JT (Z5 (DF (by rfl)) T.max BS (Za (Z5 Yp T.len Yh (Za Qa Zb)) (Za (Z5 Yp T.len Yh (Za Qb Zb)) Zb))) (Y8 c_MOST_SWEARERS r_MOST_SWEARERS) (Zu _)) (Zg (Wd Yz er (Wh (Yq (Y0 (Y8 c_MOST_SWEARERS r_MOST_SWEARERS) (Yq Wg)))))) Zo)
 (Zc (Zj (Ad Z1 Q0 Tm.cl MM_check_moments))
 (Zc (Zp (Zq U0 (QR (by rfl) T.len T.set (Za (Z0 Jf Qa Qb) Zb)) (Z5 Yp T.len Yh (Za (Z0 Jf Qa Qb) Zb)) (Zu _)) (Zg (Wd Yz er Z2)) Zo)
 (Zc (Zv 5 (DS Q0 Tm.cl MM_forsworn_names))
 (Zc (Dj Df Yz (by rfl) (Y6 (Z0 Jf Qa Qb)) (Ye 6)
 (fun hxq hxp=>(Zg (Zp (Zq (JH hr) Qd Qc rfl) (Zg (Wd hxp er (Wh (Y0 Qd (Yq Wg))))) Zo))))
 (Zg (Zp (Zq U0 (Zk Zy2 (Za (Wc Q0 Tm.cl MM_weighed (Za Qa (Za Q8 Zb))) Zb)) Q9 (Zu _)) (Zg (Wd Yz er (Wh (Yq (Y0 Q9 Wg))))) Zo)))))))),?_⟩
 have hz:=aC
 obtain⟨dm,obm⟩:=W.ob;obtain⟨ts,t1,_,t3⟩:=(W.ls (M.lt,m.trials.map Wo) (by simp[Mo.at_])).get;dsimp only at t1 t3;rw[xA] at t3;unfold Ud at k;have e1:(o1.map V.str).length=o1.length:=xA ..;have e2:(o2.map V.str).length=o2.length:=xA ..;refine⟨_,rfl,M.p,CM,dm,_,_,rfl,obm,Tm.cl,Tm.nt,JX _,M.lt,ts,rfl,.inl (ZF.of t1),_,_,rfl,rfl,_,rfl,Zy (fun z=>?_) (fun z=>?_)⟩
 ·rw[if_pos (by lia)] at k;exact⟨aA,.inr ⟨60,rfl,aA⟩,aA,fun _=>k H (ZA.refl H)⟩
 rw[if_neg (by lia)] at k;refine⟨_,rfl,l1,_,rfl,.inl (ZF.of h1),_,rfl,l2,_,rfl,.inl (ZF.of h2),_,_,rfl,?_⟩;have em:(if ((o2.map V.str).length:Int) > (o1.map V.str).length then ((o2.map V.str).length:Int) else (o1.map V.str).length)=((max o1.length o2.length:Nat):Int):=by rw[e1,e2];split<;>lia
 rw[em];refine⟨_,_,rfl,rfl,_,rfl,Zy (fun z=>?_) (fun z=>?_)⟩
 ·rw[if_pos (by lia)] at k;exact⟨aA,.inr ⟨12,rfl,aA⟩,aA,fun _=>k H (ZA.refl H)⟩
 rw[if_neg (by lia)] at k;refine⟨_,rfl,M.p,dm,_,rfl,obm,Yi _ aA,M,ds,wa,xs,m,qs,rfl,W,?_⟩;cases em:Ys m with
 | some x=>rw[em] at k;exact k H (ZA.refl H)
 | none =>
 rw[em,xK] at k;have ec:o1.map V.str++o2.map V.str=(o1++o2).map V.str:=xO.symm;refine⟨_,rfl,_,rfl,l1,l2,_,_,rfl,rfl,h1,h2,by rw[e1,e2];lia,fun q hq=>?_⟩;rw[ec];refine nw (o:=.lst ((o1++o2).map V.str)) hq fun H1 S1 k1=>?_;refine⟨q,o1++o2,rfl,ZF.of k1,by rw[xF];lia,?_⟩;refine⟨_,rfl,_,rfl,l1,l2,_,_,rfl,rfl,S1 _ _ h1,S1 _ _ h2,by rw[e1,e2];lia,fun q2 hq2=>?_⟩;rw[ec];have S2:=S1.trans (ZA.new (o:=.lst ((o1++o2).map V.str)) hq2);have k2:(upd H1 q2 (.lst ((o1++o2).map V.str))) q2=some (.lst ((o1++o2).map V.str)):=Zi;generalize (upd H1 q2 (.lst ((o1++o2).map V.str)))=H2 at S2 k2 ⊢;refine⟨q2,_,rfl,.inl (ZF.of k2),_,_,rfl,rfl,_,rfl,Zy (fun z=>?_) (fun z=>?_)⟩
 ·rw[if_pos (by rw[xA] at z;lia)] at k;exact k H2 S2
 rw[if_neg (by rw[xA] at z;lia)] at k;refine⟨_,rfl,M.p,dm,_,rfl,S2 _ _ obm,Yi _ aA,M,ds,wa,xs,m,qs,rfl,W.same S2,ok.vl,ok.le,fun g kvs H3 hg S3' kg hf=>?_⟩;have S3:=S2.trans S3';refine Z8 ?_;refine⟨_,rfl,_,rfl,l1,l2,_,_,rfl,rfl,S3 _ _ h1,S3 _ _ h2,by rw[e1,e2];lia,fun q3 hq3=>?_⟩;rw[ec];have S4':=ZA.new (o:=.lst ((o1++o2).map V.str)) hq3;have S4:=S3.trans S4';have kg4:=S4' _ _ kg;have k4:(upd H3 q3 (.lst ((o1++o2).map V.str))) q3=some (.lst ((o1++o2).map V.str)):=Zi;generalize (upd H3 q3 (.lst ((o1++o2).map V.str)))=H4 at S4 k4 kg4 ⊢;refine⟨q3,rfl,⟨_,ZF.of k4⟩,?_⟩;refine Vn ((o1++o2).map V.str) (fun i σ H'=>∃v6:Option V,σ = [some (.ref M.p),some (.int day),some (.int need),some (.ref l1),some (.ref l2),some (.ref g),v6]/\H4=H'/\∀j < i,∀y,(o1++o2)[j]? = some y->(if Vi m y=true then some ("Forsworn" : Str) else none)=none) ⟨none,rfl,rfl,fun j hj=>absurd hj (by lia)⟩ (fun i σ H' _ ⟨_,_,e,_⟩=>by rw[← e];exact ZF.of k4) ?_ ?_
 ·rintro i v σ H' hv ⟨v6,rfl,rfl,ha⟩;rw[xE] at hv;obtain⟨n,hn,rfl⟩:=xP.mp hv;refine⟨_,rfl,_,rfl,g,_,rfl,ZZ.k (k:=Sum.inr n) kg4,_,rfl,?_⟩;have hfn:=hf n;cases e:Zz kvs (.inr n) with
  | none =>
   rw[e] at hfn;exact Z4 ⟨_,rfl,rfl,Dh hn ha (if_neg (by rw[← hfn];decide))⟩
  | some v =>
   rw[e] at hfn;rw[Bw (f:=fun n=>if Vi m n=true then some ("Forsworn" : Str) else none) hn ha (if_pos hfn.symm)] at k;exact Z7 ⟨_,rfl,.inl ⟨n,rfl,by have:=(hw n (xM hn)).1;lia⟩,aA,fun _=>k H4 S4⟩
 rintro σ H' ⟨v6,rfl,rfl,ha⟩;rw[xA] at ha;rw[BU (f:=fun n=>if Vi m n=true then some ("Forsworn" : Str) else none) ha,xK] at k
 try dsimp only
 refine⟨_,rfl,M.p,dm,_,rfl,S4 _ _ obm,Yi _ aA,_,rfl,_,rfl,M,ds,wa,xs,m,qs,l1,o1,day,f,rfl,W.same S4,hds,S4 _ _ h1,n1,d0,d1,fun n hn=>(hw n (yQ _ hn)).2.1,fun l us H5 hl S5' kl rs=>?_⟩;refine⟨.ref l,Yg f o1,rfl,⟨l,us,rfl,kl,rs⟩,⟨fun p hp=>?_,by rw[xA];exact n1⟩,fun H6 S6=>?_⟩
 ·grind
 have S:=(S4.trans S5').trans S6;refine⟨_,rfl,_,_,rfl,rfl,_,rfl,Zy (fun z=>?_) (fun z=>?_)⟩
 ·rw[if_pos z] at k;exact⟨aA,_,rfl,.inr ⟨_,rfl,Vb hi⟩,fun _=>k H6 S⟩
 ·rw[if_neg z] at k;exact k H6 S
end
def J3(M:ML)(ds:List ZI)(wa:XR)(xs qs:XS)(H H':Hp):Prop:=∀b o,H b=some o->¬mo M ds wa xs qs b->H' b=some o
def WN(M:ML)(ds:List ZI)(wa:XR)(xs qs:XS)(M':ML)(ds':List ZI)(wa':XR)(xs' qs':XS)(H:Hp):Prop:=∀b,mo M' ds' wa' xs' qs' b->mo M ds wa xs qs b\/H b=none
theorem WN.folk(f:B1 M.L ds wa ds' wa' H):WN M ds wa xs qs M ds' wa' xs qs H:=fun b hb=>by
 rcases hb with z | z | z | z | z
 ·exact .inl (.inl z)
 ·exact .inl (.inr (.inl z))
 ·exact .inl (.inr (.inr (.inl z)))
 ·exact .inl (.inr (.inr (.inr (.inl z))))
 ·exact(f b z).imp (fun z=>.inr (.inr (.inr (.inr z)))) id
theorem JP:mo M ds wa xs qs M.ld:=.inr (.inr (.inl (by simp[ML.ls])))
section
variable{C CM:XW}
theorem NI(M:ML):(Ws M).length < 1000:=show 9 < 1000 by decide
def Mo.tried(m:Mo)(day:Int)(t:ZT):Mo:={m with trials:=m.trials ++ [t],days:=m.days ++ [day],verd:=(Yc [] 0 (m.trials ++ [t])).1 }
theorem oaV.rep(h:oaV H oa v):YC (fz xs H) (Ao oa) v:=by
 cases oa with
 | none=>exact h
 | some p=>obtain⟨_,_,a,e,ha⟩:=h;exact⟨a,_,e,Y2 ha,⟨_,_,rfl,rfl,⟨_,_,rfl,rfl,rfl⟩⟩⟩
theorem oaV.same(h:oaV H oa v)(k:ZA H H'):oaV H' oa v:=by
 cases oa with
 | none=>exact h
 | some p=>obtain⟨a1,a2,a,e,ha⟩:=h;exact⟨a1,a2,a,e,k _ _ ha⟩
theorem ZN.fz(r:ZN H sd us):ZP (fz xs H) (sd.map CP) us:=(ZN.mono (fun _ _ e=>Y2 e) r).rep
inductive UQ(C CM:XW)(vs:aG)(H:Hp)(Q:VK)(z3:XK):Prop
 |mk(M) (ds) (wa) (xs) (m) (qs) (day need) (l1 l2) (o1 o2) (f) (oa) (v2)(_:vs = [.ref M.p,.int day,.int need,.ref l1,.ref l2,v2])(_:ZC C CM H M ds wa xs m qs)(_:WS m)(_:m.trials.length < 60)(_:ds.length<=1000)(_:H l1=some (.lst (o1.map V.str)))(_:H l2=some (.lst (o2.map V.str)))(_:o1.length<=60)(_:o2.length<=60)(_:0<=day)(_:day<=9999)(_:1<=need)(_:need<=12000)(_:(∀n∈o1++o2,wOk ds day f n/\1<=f n/\f n<=1000))(_:oaV H oa v2)(_:∀lv s1 s2 H',ZC C CM H' (M.setv lv) ds wa (s1::s2::xs) (m.tried day ⟨Yg f o1,Yg f o2,need,oa⟩) qs->J3 M ds wa xs qs H H'->WN M ds wa xs qs (M.setv lv) ds wa (s1::s2::xs) qs H->Q (.int m.trials.length) H')
abbrev Fi:Stmt:=Yr (top 58) 39
theorem La(Zh1:ZR K CM "try_case" "Moot.try_case" Fi)(T:Txt mg)(Tm:ZK K CM)(MM_weighed:Mt P w K mg base CM "weighed" ["self","names","day"] 3 (WH C CM))(Zho:Fn P w K mg base "settled" ["suits"] 4 UJ):Mt P w K mg base CM "try_case" ["self","day","need","ones","others","oath"] 5 (UQ C CM):=by
 refine Zh1.mq ["self","day","need","ones","others","oath"] fun H vs Q E hr h=>?_;obtain⟨M,ds,wa,xs,m,qs,day,need,l1,l2,o1,o2,f,oa,v2,rfl,W,ok,hlt,hds,h1,h2,n1,n2,d0,d1,e0,e1,hw,hoa,k⟩:=h;refine⟨rfl,_,(Zc (Zj (Y4 aD aE aF Wb (Zx Q0) (Za (Z9 (Za (Wc Q0 Tm.cl MM_weighed (Za Qa (Za Q8 Zb))) (Za (Wc Q0 Tm.cl MM_weighed (Za Qb (Za Q8 Zb))) (Za Q9 (Za Qc Zb))))) Zb))) (Zc (Zj (Y4 aD aE aF Wb (Zx Q0) (Za Q8 Zb))) (Zc (Vu Q0 (Zk Zho (Za (Zx Q0) Zb))) (Zg (Zw (Z0 Jc (Z5 Yp T.len Yh (Za (Zx Q0) Zb)) Zd)))))),?_⟩;have hz:=aC
 obtain⟨dm,obm⟩:=W.ob;obtain⟨ts,t1,_,t3⟩:=(W.ls (M.lt,m.trials.map Wo) (by simp[Mo.at_])).get;dsimp only at t1 t3;rw[xA] at t3;refine⟨_,rfl,M.p,CM,dm,_,_,rfl,obm,Tm.cl,Tm.nt,JX _,.inl ⟨rfl,_,ZF.of t1⟩,?_⟩;refine⟨_,rfl,M.p,dm,_,rfl,obm,Yi _ aA,_,rfl,_,rfl,M,ds,wa,xs,m,qs,l1,o1,day,f,rfl,W,hds,h1,n1,d0,d1,fun n hn=>(hw n (yQ _ hn)).1,fun s1 us1 H1 hs1 S1 ks1 rs1=>?_⟩;refine⟨_,rfl,M.p,dm,_,rfl,S1 _ _ obm,Yi _ aA,_,rfl,_,rfl,M,ds,wa,xs,m,qs,l2,o2,day,f,rfl,W.same S1,hds,S1 _ _ h2,n2,d0,d1,fun n hn=>(hw n (xI _ hn)).1,fun s2 us2 H2 hs2 S2 ks2 rs2=>?_⟩;refine⟨_,rfl,_,rfl,aB rfl,fun p hp=>?_⟩;refine nw (o:=.tup [.ref s1,.ref s2,.int need,v2]) hp fun H3 S3 k3=>?_;have S23:=S2.trans S3;have S:=S1.trans S23;have out:∀{b:XW},H b=none->¬mo M ds wa xs qs b:=fun e z=>by obtain⟨o,e'⟩:=W.there z;rw[e] at e';cases e'
 have hs2':H s2=none:=S1.free hs2;have W3:=((W.same S).freeze (a:=s2) (S3 _ _ ks2) (fun z=>out hs2' (.inr (.inr (.inl z))))).freeze (a:=s1) (S23 _ _ ks1) (fun z=>out hs1 (.inr (.inr (.inl z))));refine⟨M.lt,ts,.ref p,rfl,rfl,S _ _ t1,by lia,?_⟩;have hd:YC (fz (s1::s2::xs) H3) (Wo ⟨Yg f o1,Yg f o2,need,oa⟩) (.ref p) :=
  ⟨p,_,rfl,Y2 k3,⟨_,_,rfl,⟨s1,us1,rfl,Ub (by simp) (S23 _ _ ks1),ZN.fz (ZN.mono (ZA.t S23) rs1)⟩,⟨_,_,rfl,⟨s2,us2,rfl,Ub (by simp) (S3 _ _ ks2),ZN.fz (ZN.mono (ZA.t S3) rs2)⟩,⟨_,_,rfl,rfl,⟨_,_,rfl,(hoa.same S).rep,rfl⟩⟩⟩⟩⟩
 have W4:=W3.trial (S _ _ t1) hd;have T4:J3 M ds wa xs qs H (upd H3 M.lt (.lst (ts ++ [.ref p]))):=fun b o e nb=>by
  rw[Ze (fun z:b=M.lt=>nb (z ▸ .inr (.inr (.inl (by simp[ML.ls])))))];exact S _ _ e
 generalize (upd H3 M.lt (.lst (ts ++ [.ref p])))=H4 at W4 T4 ⊢;obtain⟨dm4,obm4⟩:=W4.ob;obtain⟨ys,y1,_,y3⟩:=(W4.ls (M.ly,m.days.map D.int) (by simp[Mo.at_])).get;dsimp only at y1 y3;rw[xA] at y3;have hdl:=ok.dl;refine⟨_,rfl,M.p,CM,dm4,_,_,rfl,obm4,Tm.cl,Tm.ny,FE _,.inl ⟨rfl,_,ZF.of y1⟩,_,rfl,M.ly,ys,.int day,rfl,rfl,y1,by lia,?_⟩;have W5:=W4.day (d:=day) y1 rfl;have T5:J3 M ds wa xs qs H (upd H4 M.ly (.lst (ys ++ [.int day]))):=fun b o e nb=>by
  rw[Ze (fun z:b=M.ly=>nb (z ▸ .inr (.inr (.inl (by simp[ML.ls])))))];exact T4 b o e nb
 generalize (upd H4 M.ly (.lst (ys ++ [.int day])))=H5 at W5 T5 ⊢;obtain⟨dm5,obm5⟩:=W5.ob;obtain⟨ts5,z1,z2,z3⟩:=(W5.ls (M.lt,(m.trials ++ [(⟨Yg f o1,Yg f o2,need,oa⟩:ZT)]).map Wo) (by simp[Mo.at_])).get;dsimp only at z1 z2 z3;rw[xA,xF,zH] at z3;have hok:∀t∈m.trials ++ [(⟨Yg f o1,Yg f o2,need,oa⟩:ZT)],Uq t:=fun t ht=>by
  rcases xJ.mp ht with z | z
  ·exact ok.ok t z
  ·rw[xR.mp z];refine⟨⟨fun q hq=>?_,by show (o1.map _).length<=60;rw[xA];exact n1⟩,⟨fun q hq=>?_,by show (o2.map _).length<=60;rw[xA];exact n2⟩,e0,e1⟩
   ·grind
   ·grind
 refine⟨_,rfl,M.p,CM,dm5,_,_,rfl,obm5,Tm.cl,Tm.nt,JX _,M.lt,_,rfl,⟨ts5,z1,z2⟩,hok,by rw[xF,zH];lia,fun lv H6 hlv klv S6=>?_⟩;have W6:=W5.same S6;obtain⟨dm6,obm6⟩:=W6.ob;refine⟨_,rfl,M.p,CM,dm6,_,rfl,obm6,Tm.cl,Tm.nv,NI _,?_⟩;rw[LO];have W7:=W6.setv obm6 klv (fun z=>by obtain⟨o,e⟩:=W5.there z;rw[hlv] at e;cases e);have T7:J3 M ds wa xs qs H (upd H6 M.p (.ins CM dm6 (Ws (M.setv lv)))):=fun b o e nb=>by
  rw[Ze (fun z:b=M.p=>nb (.inl z))];exact S6 _ _ (T5 b o e nb)
 generalize (upd H6 M.p (.ins CM dm6 (Ws (M.setv lv))))=H7 at W7 T7 ⊢;obtain⟨dm7,obm7⟩:=W7.ob;obtain⟨ts7,q1,_,q3⟩:=(W7.ls ((M.setv lv).lt,(m.trials ++ [(⟨Yg f o1,Yg f o2,need,oa⟩:ZT)]).map Wo) (by simp[Mo.at_])).get;dsimp only at q1 q3;rw[xA,xF,zH] at q3;refine⟨_,rfl,M.p,CM,dm7,_,_,rfl,obm7,Tm.cl,Tm.nt,JX _,M.lt,ts7,rfl,.inl (ZF.of q1),_,_,rfl,rfl,?_⟩;rw[q3];show Q (.int (((m.trials.length+1:Nat):Int) - 1)) H7;rw[show (((m.trials.length+1:Nat):Int) - 1)=(m.trials.length:Int) by lia];refine k lv s1 s2 H7 W7 T7 fun b hb=>?_;have lvn:H lv=none:=by
  cases e:H lv with
  | none=>rfl
  | some o =>
   by_cases z:mo M ds wa xs qs lv
   ·have z5:mo M ds wa (s1::s2::xs) qs lv:=by
     rcases z with z | z | z | z | z
     ·exact .inl z
     ·exact .inr (.inl z)
     ·exact .inr (.inr (.inl z))
     ·exact .inr (.inr (.inr (.inl (xN _ (xN _ z)))))
     ·exact .inr (.inr (.inr (.inr z)))
    obtain⟨o',e'⟩:=W5.there z5;rw[hlv] at e';cases e'
   ·rw[T5 lv o e z] at hlv;cases hlv
 rcases hb with z | z | z | z | z
 ·exact .inl (.inl z)
 ·exact .inl (.inr (.inl z))
 ·simp only[ML.ls,ML.setv,xC,xJ,xU,or_false] at z;have old:b∈M.lh::(M.ls++qs)\/b=lv:=by
   simp only[ML.ls,xC,xJ,xU,or_false];rcases z with z | (z | z | z | z | z | z) | z<;>simp[z]
  exact old.elim (fun z=>.inl (.inr (.inr (.inl z)))) (fun z=>.inr (z▸lvn))
 ·rcases xC.mp z with z | z
  ·exact .inr (z▸hs1)
  ·rcases xC.mp z with z | z
   ·exact .inr (z▸hs2')
   ·exact .inl (.inr (.inr (.inr (.inl z))))
 ·exact .inl (.inr (.inr (.inr (.inr z))))
end
section
variable{C CM:XW}{c:XR}
def YJ(O:XW->Prop)(H:Hp)(O':XW->Prop)(H':Hp):Prop:=(∀b o,H b=some o->¬O b->H' b=some o)/\∀b,O' b->O b\/H b=none
theorem YJ.trans(a:YJ O H O1 H1)(b:YJ O1 H1 O2 H2):YJ O H O2 H2:=by
 refine⟨fun x o e n=>b.1 x o (a.1 x o e n) fun z=>(a.2 x z).elim n (fun y=>by rw[e] at y;cases y),fun x hx=>?_⟩;rcases b.2 x hx with z | z
 ·exact a.2 x z
 ·by_cases y:O x
  ·exact .inl y
  ·refine .inr ?_;cases e:H x with
   | none=>rfl
   | some o=>rw[a.1 x o e y] at z;cases z
theorem YJ.same(s:ZA H H'):YJ O H O H':=⟨fun b o e _=>s b o e,fun b hb=>.inl hb⟩
def YA(C CM:XW)(H:Hp)(p:XW)(ds:List ZI)(m:Mo)(O:XW->Prop):Prop:=∃M wa xs qs,M.p=p/\ZC C CM H M ds wa xs m qs/\O=mo M ds wa xs qs
theorem YA.same(h:YA C CM H p ds m O)(k:ZA H H'):YA C CM H' p ds m O:=let ⟨M,wa,xs,qs,e,W,o⟩:=h;⟨M,wa,xs,qs,e,W.same k,o⟩
def Uh(E:XK)(c:XR)(H:Hp)(k:Prop):Option Str->Prop
 | none=>k
 | some x=>∀H',ZA H H'->E (.ref (c x)) none H'
theorem As(h:Wt ds m day ps th oa=none):(∀n∈ps,∃d,Zn ds n=some d/\d<=day)/\(∀i,th=some i->JG m i=none)/\∀i n,oa=some (i,n)->Vw m.trials i n=none:=by
 unfold Wt at h;simp only[yM] at h;obtain⟨h1,h2,h3,h4,_⟩:=h;rw[List.findSome?_eq_none_iff] at h1 h4;refine⟨fun n hn=>?_,fun i e=>by subst e;exact h2,fun i n e=>by subst e;exact h3⟩;have a:=h1 n hn;have b:=h4 n hn;unfold We at a;unfold Wl at b;cases e:Zn ds n with
 | none=>rw[if_pos e] at a;cases a
 | some d =>
  refine⟨d,rfl,?_⟩;rw[e,Option.getD_some] at b
  by_cases z:day < d
  ·rw[if_pos z] at b;cases b
  ·lia
theorem Jd(H:Hp):∀o:List Str,ZP H (o.map D.str) (o.map V.str)
 | []=>rfl
 | x::o=>⟨_,_,rfl,rfl,Jd H o⟩
structure Ab (ds:List ZI) (m:Mo) (H:Hp) (l1 l2:XW) (o1 o2:XO) (day need:Int) (f:Str->Int):Prop where
 ok:WS m
 hd:ds.length<=1000
 h1:H l1=some (.lst (o1.map V.str))
 h2:H l2=some (.lst (o2.map V.str))
 n1:o1.length<=60
 n2:o2.length<=60
 di:okI day
 ni:okI need
 hw:∀n∈o1++o2,n.length<=100/\∀d,Zn ds n=some d->d<=day->A4 (kw ds n) day (f n)/\1<=f n/\f n<=1000
theorem Ab.all(a:Ab ds m H l1 l2 o1 o2 day need f)(h:∀n∈o1++o2,∃d,Zn ds n=some d/\d<=day):∀n∈o1++o2,n.length<=100/\wOk ds day f n/\1<=f n/\f n<=1000:=fun n hn=>by
 obtain⟨d,e1,e2⟩:=h n hn;obtain⟨x,y,z⟩:=(a.hw n hn).2 d e1 e2;exact⟨(a.hw n hn).1,⟨d,e1,e2,x⟩,y,z⟩
theorem Vf(h:eM lo hi d=none):lo<=d/\d<=hi:=by
 unfold eM at h
 by_cases z:lo<=d/\d<=hi
 ·exact z
 ·rw[if_neg z] at h;cases h
theorem JL(h:Ys m=none):m.deeds.length < 400:=by
 unfold Ys at h
 by_cases z:m.deeds.length < 400
 ·exact z
 ·rw[if_neg z] at h;cases h
theorem Jq(h:Ud m need f o1 o2=none):m.trials.length < 60/\m.deeds.length < 400:=by
 unfold Ud at h
 by_cases z : 60<=m.trials.length
 ·rw[if_pos z] at h;cases h
 ·rw[if_neg z] at h
  by_cases y : 12 < max o1.length o2.length
  ·rw[if_pos y] at h;cases h
  ·rw[if_neg y,yM] at h;exact⟨by lia,JL h.1⟩
theorem Xf(h:mo M ds wa (a1::a2::xs) qs b):mo M ds wa xs qs b\/b=a1\/b=a2:=by
 rcases h with z | z | z | z | z
 ·exact .inl (.inl z)
 ·exact .inl (.inr (.inl z))
 ·exact .inl (.inr (.inr (.inl z)))
 ·rcases xC.mp z with z | z
  ·exact .inr (.inl z)
  ·rcases xC.mp z with z | z
   ·exact .inr (.inr z)
   ·exact .inl (.inr (.inr (.inr (.inl z))))
 ·exact .inl (.inr (.inr (.inr (.inr z))))
theorem ZC.deed2(W:ZC C CM H M ds wa xs m qs)(S:ZA H H')(n1:H a1=none)(n2:H a2=none)(k1:H' a1=some (.lst u1))(k2:H' a2=some (.lst u2))(e:H M.ld=some (.lst vs))(hd:YC (fz (a1::a2::xs) H') d v) :
  ZC C CM (upd H' M.ld (.lst (vs ++ [v]))) M ds wa (a1::a2::xs) {m with deeds:=m.deeds ++ [d] } qs/\YJ (mo M ds wa xs qs) H (mo M ds wa (a1::a2::xs) qs) (upd H' M.ld (.lst (vs ++ [v]))):=by
 have out:∀{b:XW},H b=none->b∉M.lh::(M.ls++qs):=fun e z=>by obtain⟨ys,e'⟩:=W.lst z;rw[e] at e';cases e'
 refine⟨(((W.same S).freeze k2 (out n2)).freeze k1 (out n1)).deed (S _ _ e) hd,fun b o eb nb=>?_,fun b hb=>?_⟩
 ·rw[Ze (fun z:b=M.ld=>nb (z▸JP))];exact S _ _ eb
 ·rcases Xf hb with z | z | z
  ·exact .inl z
  ·exact .inr (z▸n1)
  ·exact .inr (z▸n2)
def clD(x:Str)(i day need:Int)(o1 o2:XO):D:=.tup [.str "claim", .str x,.int i,.int day,.int need,.lst (o1.map D.str),.lst (o2.map D.str)]
def Mo.won(m:Mo)(x:Str)(i:Nat)(day need:Int)(f:Str->Int)(o1 o2:XO):Mo :=
 {m.tried day ⟨Yg f o1,Yg f o2,need,none⟩ with haps:=m.haps.set i (m.haps.getD i [] ++ [.tup [.int m.trials.length,.tup [.int day,.str "won", .non,.str x]]]),deeds:=m.deeds ++ [clD x i day need o1 o2] }
def BX(ds:List ZI)(m:Mo)(x:Str)(i day need:Int)(f:Str->Int)(o1 o2:XO):Option Str:=(eM 0 9999 day).or ((eM 1 12000 need).or ((Wt ds m day ([x]++o1++o2) (some i) none).or (Ud m need f o1 o2)))
inductive UB(C CM:XW)(c:XR)(vs:aG)(H:Hp)(Q:VK)(E:XK):Prop
 |mk(p) (ds) (m) (O) (x) (i day need) (l1 l2) (o1 o2) (f)(_:vs = [.ref p,.str x,.int i,.int day,.int need,.ref l1,.ref l2])(_:YA C CM H p ds m O)(_:Ab ds m H l1 l2 o1 o2 day need f)(_:¬O l1)(_:¬O l2)(_:x.length<=100)(_:okI i)(_:Uh E c H (∀O' H',YA C CM H' p ds (m.won x i.toNat day need f o1 o2) O'->YJ O H O' H'->Q (.int m.trials.length) H') (BX ds m x i day need f o1 o2))
abbrev Gv:Stmt:=Yr (top 58) 8
theorem LZ(Zh2:ZR K CM "claim" "Moot.claim" Gv)(T:Txt mg)(Tm:ZK K CM)(Wi:YT P w K mg base "check_day" 1 (VF 0 9999 c))(Zdo:YT P w K mg base "check_need" 1 (VF 1 12000 c))(MM_check_named:ZY P w K mg base CM "check_named" 3 (YG C CM c))(MM_check_sides:ZY P w K mg base CM "check_sides" 4 (WB C CM c))(MM_try_case:Mt P w K mg base CM "try_case" ["self","day","need","ones","others","oath"] 5 (UQ C CM)):ZY P w K mg base CM "claim" 6 (UB C CM c):=by
 refine Zh2.mx ["self","claimer","thing","day","need","ones","others","case"] ["self","claimer","thing","day","need","ones","others"] fun H vs Q E hr h=>?_;obtain⟨_,ds,m,_,x,i,day,need,l1,l2,o1,o2,f,rfl,⟨M,wa,xs,qs,rfl,W,rfl⟩,a,w1,w2,hx,hi,k⟩:=h;refine⟨rfl,_,(Zc (Zj (Wr Z1 Wi (Za Qa Zb))) (Zc (Zj (Wr Z1 Zdo (Za Qb Zb))) (Zc (Zj (Yj Z1 Q0 Tm.cl MM_check_named (Za Qa (Za (Z0 Jf (Z0 Jf (Yl (Za Q8 Zb)) Qc) Qd) (Za Q9 (Za Y7 Zb)))))) (Zc (Zj (Yj Z1 Q0 Tm.cl MM_check_sides (Za Qa (Za Qb (Za Qc (Za Qd Zb)))))) (Zc (Zv 7 (Wc Q0 Tm.cl MM_try_case (Za Qa (Za Qb (Za Qc (Za Qd (Za Y7 Zb))))))) (Zc (Zj (Y4 aD aE aF Wb (Zh Yb (Zx Q0) Q9 (fun _ _=>rfl)) (Za (Z9 (Za Qe (Za (Z9 (Za Qa (Za Z2 (Za Y7 (Za Q8 Zb))))) Zb))) Zb))) (Zc (Zj (Y4 aD aE aF Wb (Zx Q0) (Za (Z9 (Za Z2 (Za Q8 (Za Q9 (Za Qa (Za Qb (Za (Tz Ae T.list Uy (Za Qc Zb)) (Za (Tz Ae T.list Uy (Za Qd Zb)) Zb)))))))) Zb))) (Zg (Zw Qe))))))))),?_⟩;have hz:=aC
 obtain⟨dm,obm⟩:=W.ob;have ⟨ok,hds,h1,h2,n1,n2,dI,ni,hw⟩:=a;have e1:(o1.map V.str).length=o1.length:=xA ..;have e2:(o2.map V.str).length=o2.length:=xA ..;unfold BX at k;refine⟨_,rfl,day,rfl,dI,?_⟩;cases ed:eM 0 9999 day with
 | some z=>rw[ed] at k;exact k H (ZA.refl H)
 | none =>
 rw[ed,xK] at k;obtain⟨d0,d1⟩:=Vf ed;refine⟨_,rfl,need,rfl,ni,?_⟩;cases en:eM 1 12000 need with
 | some z=>rw[en] at k;exact k H (ZA.refl H)
 | none =>
 rw[en,xK] at k;refine⟨_,rfl,M.p,dm,_,rfl,obm,Yi _ aA,_,rfl,_,rfl,aB rfl,fun q1 hq1=>?_⟩;refine nw (o:=.lst [.str x]) hq1 fun H1 S1 k1=>?_;refine⟨_,rfl,q1,l1,_,_,rfl,rfl,k1,S1 _ _ h1,by rw[e1];show 1+_<=_;lia,fun q2 hq2=>?_⟩;have S2:=S1.trans (ZA.new (o:=.lst ([.str x]++o1.map V.str)) hq2);have k2:(upd H1 q2 (.lst ([.str x]++o1.map V.str))) q2=some (.lst ([.str x]++o1.map V.str)):=Zi;generalize (upd H1 q2 (.lst ([.str x]++o1.map V.str)))=H2 at S2 k2 ⊢;refine⟨_,rfl,q2,l2,_,_,rfl,rfl,k2,S2 _ _ h2,by rw[xF,e1,e2];show 1+_+_<=_;lia,fun q3 hq3=>?_⟩;have S3:=S2.trans (ZA.new (o:=.lst ([.str x]++o1.map V.str++o2.map V.str)) hq3);have k3:(upd H2 q3 (.lst ([.str x]++o1.map V.str++o2.map V.str))) q3=some (.lst (([x]++o1++o2).map V.str)):=by rw[Zi,xO,xO];rfl
 generalize (upd H2 q3 (.lst ([.str x]++o1.map V.str++o2.map V.str)))=H3 at S3 k3 ⊢;refine⟨_,rfl,M,ds,wa,xs,m,qs,day,q3,[x]++o1++o2,some i,none,.non,rfl,W.same S3,ok,k3,fun n hn=>?_,dI,fun j e=>by cases e;exact hi,rfl,fun H4 S4'=>?_⟩
 ·grind
 have S4:=S3.trans S4';cases ea:Wt ds m day ([x]++o1++o2) (some i) none with
 | some z=>rw[ea] at k;exact k H4 S4
 | none =>
 rw[ea,xK] at k;obtain⟨p1,p2,_⟩:=As ea;have hall:=a.all fun n hn=>p1 n (by rw[yW];exact xI _ hn);refine⟨_,rfl,M.p,dm,_,rfl,S4 _ _ obm,Yi _ aA,_,rfl,_,rfl,_,rfl,_,rfl,M,ds,wa,xs,m,qs,day,need,l1,l2,o1,o2,f,rfl,W.same S4,ok,hds,S4 _ _ h1,S4 _ _ h2,n1,n2,d0,d1,ni,hall,fun H5 S5'=>?_⟩;have S5:=S4.trans S5';cases es:Ud m need f o1 o2 with
 | some z=>rw[es] at k;exact k H5 S5
 | none =>
 rw[es] at k;obtain⟨g0,g1⟩:=Vf en;have h4:=(Jq es).2;refine⟨_,rfl,M.p,dm,_,rfl,S5 _ _ obm,Yi _ aA,_,rfl,_,rfl,_,rfl,_,rfl,M,ds,wa,xs,m,qs,day,need,l1,l2,o1,o2,f,none,.non,rfl,W.same S5,ok,(Jq es).1,hds,S5 _ _ h1,S5 _ _ h2,n1,n2,d0,d1,g0,g1,fun n hn=>(hall n hn).2,rfl,fun lv s1 s2 H6 W6 T6 F6=>?_⟩;have R6:YJ (mo M ds wa xs qs) H (mo (M.setv lv) ds wa (s1::s2::xs) qs) H6:=(YJ.same S5).trans ⟨T6,F6⟩;refine Z8 ?_;have hin:inB i m.brs.length:=by
  have:=p2 i rfl;unfold JG at this
  by_cases z:inB i m.brs.length
  ·exact z
  ·rw[if_neg z] at this;cases this
 obtain⟨j,rfl⟩:=yK hin.1;have hj:j < m.haps.length:=by rw[ok.hb];have:=hin.2;lia
 have hjq:j < qs.length:=by rw[W6.hn];exact hj
 have hq:qs[j]? = some qs[j]:=xB hjq;have hcl:m.haps[j]? = some (m.haps.getD j []):=by rw[xZ,xB hj];rfl
 have hcn:=ok.hl _ (xM hcl);rw[yP] at k;unfold Mo.won at k;generalize m.haps.getD j []=cl at hcl hcn k;have mz:(qs[j],cl)∈qs.zip m.haps:=xM (i:=j) (by rw[zB];exact⟨hq,hcl⟩);obtain⟨us,u1,_,hul⟩:=(W6.ls (qs[j],cl) (by simp[Mo.at_,Mo.tried,mz])).get;dsimp only at u1 hul;obtain⟨dm6,obm6⟩:=W6.ob;refine⟨_,rfl,M.p,CM,dm6,_,_,rfl,obm6,Tm.cl,Tm.nh,EO _,_,rfl,M.lh,_,j,.ref qs[j],rfl,rfl,ZF.of W6.hl,Yu (by rw[xE,hq];rfl),.inl ⟨rfl,_,ZF.of u1⟩,_,rfl,_,rfl,_,rfl,aB rfl,fun b hb=>?_⟩;refine nw (o:=.tup [.int day,.str "won", .non,.str x]) hb fun H7 S7 k7=>?_;refine⟨aB rfl,fun a' ha=>?_⟩;refine nw (o:=.tup [.int m.trials.length,.ref b]) ha fun H8 S8 k8=>?_;have W8:=W6.same (S7.trans S8);have u8:=S8 _ _ (S7 _ _ u1);refine⟨qs[j],us,.ref a',rfl,rfl,u8,by lia,?_⟩;have W9:=W8.hap hq hcl (d:=.tup [.int m.trials.length,.tup [.int day,.str "won", .non,.str x]]) (v:=.ref a') u8 ⟨a',_,rfl,Y2 k8,⟨_,_,rfl,rfl,⟨_,_,rfl,⟨b,_,rfl,Y2 (S8 _ _ k7),⟨_,_,rfl,rfl,⟨_,_,rfl,rfl,⟨_,_,rfl,rfl,⟨_,_,rfl,rfl,rfl⟩⟩⟩⟩⟩,rfl⟩⟩⟩
 have R9:YJ (mo M ds wa xs qs) H (mo (M.setv lv) ds wa (s1::s2::xs) qs) (upd H8 qs[j] (.lst (us ++ [.ref a']))):=(R6.trans (YJ.same (S7.trans S8))).trans ⟨fun b o e nb=>by
  rw[Ze (fun z:b=qs[j]=>nb (z ▸ .inr (.inr (.inl (xN _ (xI _ (zF hjq)))))))];exact e,fun _ hb=>.inl hb⟩
 generalize (upd H8 qs[j] (.lst (us ++ [.ref a'])))=H9 at W9 R9 ⊢;obtain⟨dm9,obm9⟩:=W9.ob;obtain⟨vs,f1,_,f2⟩:=(W9.ls (M.ld,m.deeds) (by simp[Mo.at_,Mo.tried,ML.setv])).get;dsimp only at f1 f2;have r1:=R9.1 l1 _ h1 w1;have r2:=R9.1 l2 _ h2 w2;refine⟨_,rfl,M.p,CM,dm9,_,_,rfl,obm9,Tm.cl,Tm.nd,V0 _,.inl ⟨rfl,_,ZF.of f1⟩,_,rfl,_,rfl,_,rfl,_,rfl,_,rfl,l1,_,rfl,.inl (ZF.of r1),fun a1 ha1=>?_⟩;refine nw (o:=.lst (o1.map V.str)) ha1 fun Ha Sa ka=>?_;refine⟨_,rfl,l2,_,rfl,.inl (ZF.of (Sa _ _ r2)),fun a2 ha2=>?_⟩;refine nw (o:=.lst (o2.map V.str)) ha2 fun Hb Sb kb=>?_;refine⟨aB rfl,fun q hq'=>?_⟩;refine nw (o:=.tup [.str "claim", .str x,.int j,.int day,.int need,.ref a1,.ref a2]) hq' fun Hc Sc kc=>?_;have Sac:=(Sa.trans Sb).trans Sc;refine⟨M.ld,vs,.ref q,rfl,rfl,Sac _ _ f1,by lia,?_⟩;have ka':=Sc _ _ (Sb _ _ ka);have kb':=Sc _ _ kb;obtain⟨W10,R10⟩:=W9.deed2 Sac ha1 (Sa.free ha2) ka' kb' f1 (d:=clD x j day need o1 o2) (v:=.ref q)
  ⟨q,_,rfl,Y2 kc,⟨_,_,rfl,rfl,⟨_,_,rfl,rfl,⟨_,_,rfl,rfl,⟨_,_,rfl,rfl,⟨_,_,rfl,rfl,⟨_,_,rfl,⟨a1,_,rfl,Ub (by simp) ka',Jd _ _⟩,⟨_,_,rfl,⟨a2,_,rfl,Ub (by simp) kb',Jd _ _⟩,rfl⟩⟩⟩⟩⟩⟩⟩⟩
 exact⟨_,rfl,k _ _ ⟨M.setv lv,wa,_,qs,rfl,W10,rfl⟩ (R9.trans R10)⟩
def weD(x y:Str)(many day need:Int)(o1 o2:XO):D:=.tup [.str "wergild", .str x,.str y,.int many,.int day,.int need,.lst (o1.map D.str),.lst (o2.map D.str)]
def Mo.owes(m:Mo)(x y:Str)(many day need:Int)(f:Str->Int)(o1 o2:XO):Mo :=
 {m.tried day ⟨Yg f o1,Yg f o2,need,none⟩ with debts:=m.debts ++ [.tup [.int m.trials.length,.tup [.int day,.str y,.str x,.int many]]],deeds:=m.deeds ++ [weD x y many day need o1 o2] }
def AV(ds:List ZI)(m:Mo)(x y:Str)(many day need:Int)(f:Str->Int)(o1 o2:XO):Option Str:=(eM 1 1000000 many).or ((eM 0 9999 day).or ((eM 1 12000 need).or ((Wt ds m day ([x,y]++o1++o2) none none).or (Ud m need f o1 o2))))
inductive TX(C CM:XW)(c:XR)(vs:aG)(H:Hp)(Q:VK)(E:XK):Prop
 |mk(p) (ds) (m) (O) (x y) (many day need) (l1 l2) (o1 o2) (f)(_:vs = [.ref p,.str x,.str y,.int many,.int day,.int need,.ref l1,.ref l2])(_:YA C CM H p ds m O)(_:Ab ds m H l1 l2 o1 o2 day need f)(_:¬O l1)(_:¬O l2)(_:x.length<=100)(_:y.length<=100)(_:okI many)(_:Uh E c H (∀O' H',YA C CM H' p ds (m.owes x y many day need f o1 o2) O'->YJ O H O' H'->Q (.int m.trials.length) H') (AV ds m x y many day need f o1 o2))
abbrev Ga:Stmt:=Yr (top 58) 9
theorem Xd(Zh3:ZR K CM "wergild" "Moot.wergild" Ga)(T:Txt mg)(Tm:ZK K CM)(Zh4:YT P w K mg base "check_money" 1 (VF 1 1000000 c))(Wi:YT P w K mg base "check_day" 1 (VF 0 9999 c))(Zdo:YT P w K mg base "check_need" 1 (VF 1 12000 c))(MM_check_named:ZY P w K mg base CM "check_named" 3 (YG C CM c))(MM_check_sides:ZY P w K mg base CM "check_sides" 4 (WB C CM c))(MM_try_case:Mt P w K mg base CM "try_case" ["self","day","need","ones","others","oath"] 5 (UQ C CM)):ZY P w K mg base CM "wergild" 6 (TX C CM c):=by
 refine Zh3.mx ["self","claimer","answerer","many","day","need","ones","others","case"] ["self","claimer","answerer","many","day","need","ones","others"] fun H vs Q E hr h=>?_;obtain⟨_,ds,m,_,x,y,many,day,need,l1,l2,o1,o2,f,rfl,⟨M,wa,xs,qs,rfl,W,rfl⟩,a,w1,w2,hx,hy,hmi,k⟩:=h;refine⟨rfl,_,(Zc (Zj (Wr Z1 Zh4 (Za Qa Zb))) (Zc (Zj (Wr Z1 Wi (Za Qb Zb))) (Zc (Zj (Wr Z1 Zdo (Za Qc Zb))) (Zc (Zj (Yj Z1 Q0 Tm.cl MM_check_named (Za Qb (Za (Z0 Jf (Z0 Jf (Yl (Za Q8 (Za Q9 Zb))) Qd) Qe) (Za Y7 (Za Y7 Zb)))))) (Zc (Zj (Yj Z1 Q0 Tm.cl MM_check_sides (Za Qb (Za Qc (Za Qd (Za Qe Zb)))))) (Zc (Zv 8 (Wc Q0 Tm.cl MM_try_case (Za Qb (Za Qc (Za Qd (Za Qe (Za Y7 Zb))))))) (Zc (Zj (Y4 aD aE aF Wb (Zx Q0) (Za (Z9 (Za (qvN 8) (Za (Z9 (Za Qb (Za Q9 (Za Q8 (Za Qa Zb))))) Zb))) Zb))) (Zc (Zj (Y4 aD aE aF Wb (Zx Q0) (Za (Z9 (Za Z2 (Za Q8 (Za Q9 (Za Qa (Za Qb (Za Qc (Za (Tz Ae T.list Uy (Za Qd Zb)) (Za (Tz Ae T.list Uy (Za Qe Zb)) Zb))))))))) Zb))) (Zg (Zw (qvN 8))))))))))),?_⟩;have hz:=aC
 obtain⟨dm,obm⟩:=W.ob;have ⟨ok,hds,h1,h2,n1,n2,dI,ni,hw⟩:=a;have e1:(o1.map V.str).length=o1.length:=xA ..;have e2:(o2.map V.str).length=o2.length:=xA ..;unfold AV at k;refine⟨_,rfl,many,rfl,hmi,?_⟩;cases ey:eM 1 1000000 many with
 | some z=>rw[ey] at k;exact k H (ZA.refl H)
 | none =>
 rw[ey,xK] at k;refine⟨_,rfl,day,rfl,dI,?_⟩;cases ed:eM 0 9999 day with
 | some z=>rw[ed] at k;exact k H (ZA.refl H)
 | none =>
 rw[ed,xK] at k;obtain⟨d0,d1⟩:=Vf ed;refine⟨_,rfl,need,rfl,ni,?_⟩;cases en:eM 1 12000 need with
 | some z=>rw[en] at k;exact k H (ZA.refl H)
 | none =>
 rw[en,xK] at k;refine⟨_,rfl,M.p,dm,_,rfl,obm,Yi _ aA,_,rfl,_,rfl,_,rfl,aB rfl,fun q1 hq1=>?_⟩;refine nw (o:=.lst [.str x,.str y]) hq1 fun H1 S1 k1=>?_;refine⟨_,rfl,q1,l1,_,_,rfl,rfl,k1,S1 _ _ h1,by rw[e1];show 2+_<=_;lia,fun q2 hq2=>?_⟩;have S2:=S1.trans (ZA.new (o:=.lst ([.str x,.str y]++o1.map V.str)) hq2);have k2:(upd H1 q2 (.lst ([.str x,.str y]++o1.map V.str))) q2=some (.lst ([.str x,.str y]++o1.map V.str)):=Zi;generalize (upd H1 q2 (.lst ([.str x,.str y]++o1.map V.str)))=H2 at S2 k2 ⊢;refine⟨_,rfl,q2,l2,_,_,rfl,rfl,k2,S2 _ _ h2,by rw[xF,e1,e2];show 2+_+_<=_;lia,fun q3 hq3=>?_⟩;have S3:=S2.trans (ZA.new (o:=.lst ([.str x,.str y]++o1.map V.str++o2.map V.str)) hq3);have k3:(upd H2 q3 (.lst ([.str x,.str y]++o1.map V.str++o2.map V.str))) q3=some (.lst (([x,y]++o1++o2).map V.str)):=by rw[Zi,xO,xO];rfl
 generalize (upd H2 q3 (.lst ([.str x,.str y]++o1.map V.str++o2.map V.str)))=H3 at S3 k3 ⊢;refine⟨M,ds,wa,xs,m,qs,day,q3,[x,y]++o1++o2,none,none,.non,rfl,W.same S3,ok,k3,fun n hn=>?_,dI,(fun j e=>nomatch e),rfl,fun H4 S4'=>?_⟩
 ·grind
 have S4:=S3.trans S4';cases ea:Wt ds m day ([x,y]++o1++o2) none none with
 | some z=>rw[ea] at k;exact k H4 S4
 | none =>
 rw[ea,xK] at k;obtain⟨p1,_⟩:=As ea;have hall:=a.all fun n hn=>p1 n (by rw[yW];exact xI _ hn);refine⟨_,rfl,M.p,dm,_,rfl,S4 _ _ obm,Yi _ aA,_,rfl,_,rfl,_,rfl,_,rfl,M,ds,wa,xs,m,qs,day,need,l1,l2,o1,o2,f,rfl,W.same S4,ok,hds,S4 _ _ h1,S4 _ _ h2,n1,n2,d0,d1,ni,hall,fun H5 S5'=>?_⟩;have S5:=S4.trans S5';cases es:Ud m need f o1 o2 with
 | some z=>rw[es] at k;exact k H5 S5
 | none =>
 rw[es] at k;obtain⟨g0,g1⟩:=Vf en;have h4:=(Jq es).2;refine⟨_,rfl,M.p,dm,_,rfl,S5 _ _ obm,Yi _ aA,_,rfl,_,rfl,_,rfl,_,rfl,M,ds,wa,xs,m,qs,day,need,l1,l2,o1,o2,f,none,.non,rfl,W.same S5,ok,(Jq es).1,hds,S5 _ _ h1,S5 _ _ h2,n1,n2,d0,d1,g0,g1,fun n hn=>(hall n hn).2,rfl,fun lv s1 s2 H6 W6 T6 F6=>?_⟩;have R6:YJ (mo M ds wa xs qs) H (mo (M.setv lv) ds wa (s1::s2::xs) qs) H6:=(YJ.same S5).trans ⟨T6,F6⟩;refine Z8 ?_;unfold Mo.owes at k;obtain⟨us,u1,_,hul⟩:=(W6.ls (M.lq,m.debts) (by simp[Mo.at_,Mo.tried,ML.setv])).get;dsimp only at u1 hul;have hql:=ok.ql;obtain⟨dm6,obm6⟩:=W6.ob;refine⟨_,rfl,M.p,CM,dm6,_,_,rfl,obm6,Tm.cl,Tm.nq,GP _,.inl ⟨rfl,_,ZF.of u1⟩,_,rfl,_,rfl,_,rfl,_,rfl,_,rfl,aB rfl,fun b hb=>?_⟩;refine nw (o:=.tup [.int day,.str y,.str x,.int many]) hb fun H7 S7 k7=>?_;refine⟨aB rfl,fun a' ha=>?_⟩;refine nw (o:=.tup [.int m.trials.length,.ref b]) ha fun H8 S8 k8=>?_;have W8:=W6.same (S7.trans S8);have u8:=S8 _ _ (S7 _ _ u1);refine⟨M.lq,us,.ref a',rfl,rfl,u8,by lia,?_⟩;have W9:ZC C CM (upd H8 M.lq (.lst (us ++ [.ref a']))) (M.setv lv) ds wa (s1::s2::xs) _ qs:=W8.debt (d:=.tup [.int m.trials.length,.tup [.int day,.str y,.str x,.int many]]) (v:=.ref a') u8 ⟨a',_,rfl,Y2 k8,⟨_,_,rfl,rfl,⟨_,_,rfl,⟨b,_,rfl,Y2 (S8 _ _ k7),⟨_,_,rfl,rfl,⟨_,_,rfl,rfl,⟨_,_,rfl,rfl,⟨_,_,rfl,rfl,rfl⟩⟩⟩⟩⟩,rfl⟩⟩⟩
 have R9:YJ (mo M ds wa xs qs) H (mo (M.setv lv) ds wa (s1::s2::xs) qs) (upd H8 M.lq (.lst (us ++ [.ref a']))):=(R6.trans (YJ.same (S7.trans S8))).trans ⟨fun b o e nb=>by
  rw[Ze (fun z:b=M.lq=>nb (z ▸ .inr (.inr (.inl (by simp[ML.ls,ML.setv])))))];exact e,fun _ hb=>.inl hb⟩
 generalize (upd H8 M.lq (.lst (us ++ [.ref a'])))=H9 at W9 R9 ⊢;obtain⟨dm9,obm9⟩:=W9.ob;obtain⟨vs,f1,_,f2⟩:=(W9.ls (M.ld,m.deeds) (by simp[Mo.at_,Mo.tried,ML.setv])).get;dsimp only at f1 f2;have r1:=R9.1 l1 _ h1 w1;have r2:=R9.1 l2 _ h2 w2;refine⟨_,rfl,M.p,CM,dm9,_,_,rfl,obm9,Tm.cl,Tm.nd,V0 _,.inl ⟨rfl,_,ZF.of f1⟩,_,rfl,_,rfl,_,rfl,_,rfl,_,rfl,_,rfl,l1,_,rfl,.inl (ZF.of r1),fun a1 ha1=>?_⟩;refine nw (o:=.lst (o1.map V.str)) ha1 fun Ha Sa ka=>?_;refine⟨_,rfl,l2,_,rfl,.inl (ZF.of (Sa _ _ r2)),fun a2 ha2=>?_⟩;refine nw (o:=.lst (o2.map V.str)) ha2 fun Hb Sb kb=>?_;refine⟨aB rfl,fun q hq'=>?_⟩;refine nw (o:=.tup [.str "wergild", .str x,.str y,.int many,.int day,.int need,.ref a1,.ref a2]) hq' fun Hc Sc kc=>?_;have Sac:=(Sa.trans Sb).trans Sc;refine⟨M.ld,vs,.ref q,rfl,rfl,Sac _ _ f1,by lia,?_⟩;have ka':=Sc _ _ (Sb _ _ ka);have kb':=Sc _ _ kb;obtain⟨W10,R10⟩:=W9.deed2 Sac ha1 (Sa.free ha2) ka' kb' f1 (d:=weD x y many day need o1 o2) (v:=.ref q)
  ⟨q,_,rfl,Y2 kc,⟨_,_,rfl,rfl,⟨_,_,rfl,rfl,⟨_,_,rfl,rfl,⟨_,_,rfl,rfl,⟨_,_,rfl,rfl,⟨_,_,rfl,rfl,⟨_,_,rfl,⟨a1,_,rfl,Ub (by simp) ka',Jd _ _⟩,⟨_,_,rfl,⟨a2,_,rfl,Ub (by simp) kb',Jd _ _⟩,rfl⟩⟩⟩⟩⟩⟩⟩⟩⟩
 exact⟨_,rfl,k _ _ ⟨M.setv lv,wa,_,qs,rfl,W10,rfl⟩ (R9.trans R10)⟩
theorem Fn.alias(F:Fn P w K mg base y ps k sp)(e:mg x=mg y):Fn P w K mg base x ps k sp:=let ⟨f,fd,a,b⟩:=F;⟨f,fd,e.trans a,b⟩
def acD(i:Int)(n:Str)(day need:Int)(o1 o2:XO):D:=.tup [.str "accuse", .int i,.str n,.int day,.int need,.lst (o1.map D.str),.lst (o2.map D.str)]
def Mo.told(m:Mo)(d:D):Mo:={m with deeds:=m.deeds ++ [d] }
theorem WS.told(k:WS m)(d:D):WS (m.told d):=⟨k.ok,k.dl,k.br,k.le,k.vl,k.hb,fun q hq=>yC (k.hl q hq) (by show _<=(m.deeds ++ [d]).length;rw[xF];lia),yC k.ql (by show _<=(m.deeds ++ [d]).length;rw[xF];lia)⟩
def Mo.acc(m:Mo)(i:Int)(n:Str)(day need:Int)(f:Str->Int)(o1 o2:XO):Mo:=(m.told (acD i n day need o1 o2)).tried day ⟨Yg f o1,Yg f o2,need,some (i,n)⟩
def CQ(ds:List ZI)(m:Mo)(i:Int)(n:Str)(day need:Int)(f:Str->Int)(o1 o2:XO):Option Str:=(eM 0 9999 day).or ((eM 1 12000 need).or ((Wt ds m day (o1++o2) none (some (i,n))).or ((Ud m need f o1 o2).or (if Cc m.trials i n = [] then none else some ("Broken" : Str)))))
inductive Tw(C CM:XW)(c:XR)(vs:aG)(H:Hp)(Q:VK)(E:XK):Prop
 |mk(p) (ds) (m) (O) (i) (n) (day need) (l1 l2) (o1 o2) (f)(_:vs = [.ref p,.int i,.str n,.int day,.int need,.ref l1,.ref l2])(_:YA C CM H p ds m O)(_:Ab ds m H l1 l2 o1 o2 day need f)(_:¬O l1)(_:¬O l2)(_:n.length<=100)(_:okI i)(_:Uh E c H (∀O' H',YA C CM H' p ds (m.acc i n day need f o1 o2) O'->YJ O H O' H'->Q (.int m.trials.length) H') (CQ ds m i n day need f o1 o2))
abbrev Ge:Stmt:=Yr (top 58) 10
theorem QK(Zh5:ZR K CM "accuse" "Moot.accuse" Ge)(T:Txt mg)(Tm:ZK K CM)(er:Er K mg c errs)(Wi:YT P w K mg base "check_day" 1 (VF 0 9999 c))(Zdo:YT P w K mg base "check_need" 1 (VF 1 12000 c))(MM_check_named:ZY P w K mg base CM "check_named" 3 (YG C CM c))(MM_check_sides:ZY P w K mg base CM "check_sides" 4 (WB C CM c))(Zy3:Fn P w K mg base "breakers_stands" ["suits","case","name"] 6 WY)(MM_try_case:Mt P w K mg base CM "try_case" ["self","day","need","ones","others","oath"] 5 (UQ C CM)):ZY P w K mg base CM "accuse" 7 (Tw C CM c):=by
 refine Zh5.mx ["self","case","name","day","need","ones","others"] ["self","case","name","day","need","ones","others"] fun H vs Q E hr h=>?_;obtain⟨_,ds,m,_,i,n,day,need,l1,l2,o1,o2,f,rfl,⟨M,wa,xs,qs,rfl,W,rfl⟩,a,w1,w2,hx,hi,k⟩:=h;refine⟨rfl,_,(Zc (Zj (Wr Z1 Wi (Za Qa Zb))) (Zc (Zj (Wr Z1 Zdo (Za Qb Zb))) (Zc (Zj (Yj Z1 Q0 Tm.cl MM_check_named (Za Qa (Za (Z0 Jf Qc Qd) (Za Y7 (Za (Z9 (Za Q8 (Za Q9 Zb))) Zb)))))) (Zc (Zj (Yj Z1 Q0 Tm.cl MM_check_sides (Za Qa (Za Qb (Za Qc (Za Qd Zb)))))) (Zc (Zp (MW (Zk Zy3 (Za (Zx Q0) (Za Q8 (Za Q9 Zb)))) (fun _=>rfl)) (Zg (Wd Yz er (Wh (Yq (Y0 Q9 (Yq (Y0 Q8 (Yq Wg)))))))) Zo) (Zc (Zj (Y4 aD aE aF Wb (Zx Q0) (Za (Z9 (Za Z2 (Za Q8 (Za Q9 (Za Qa (Za Qb (Za (Tz Ae T.list Uy (Za Qc Zb)) (Za (Tz Ae T.list Uy (Za Qd Zb)) Zb)))))))) Zb))) (Zg (Zw (Wc Q0 Tm.cl MM_try_case (Za Qa (Za Qb (Za Qc (Za Qd (Za (Z9 (Za Q8 (Za Q9 Zb))) Zb)))))))))))))),?_⟩;have hz:=aC
 obtain⟨dm,obm⟩:=W.ob;have ⟨ok,hds,h1,h2,n1,n2,dI,ni,hw⟩:=a;have e1:(o1.map V.str).length=o1.length:=xA ..;have e2:(o2.map V.str).length=o2.length:=xA ..;unfold CQ at k;refine⟨_,rfl,day,rfl,dI,?_⟩;cases ed:eM 0 9999 day with
 | some z=>rw[ed] at k;exact k H (ZA.refl H)
 | none =>
 rw[ed,xK] at k;obtain⟨d0,d1⟩:=Vf ed;refine⟨_,rfl,need,rfl,ni,?_⟩;cases en:eM 1 12000 need with
 | some z=>rw[en] at k;exact k H (ZA.refl H)
 | none =>
 rw[en,xK] at k;refine⟨_,rfl,M.p,dm,_,rfl,obm,Yi _ aA,_,rfl,_,rfl,_,rfl,l1,l2,_,_,rfl,rfl,h1,h2,by rw[e1,e2];lia,fun q hq=>?_⟩;have S1:=ZA.new (o:=.lst (o1.map V.str++o2.map V.str)) hq;have k1:(upd H q (.lst (o1.map V.str++o2.map V.str))) q=some (.lst ((o1++o2).map V.str)):=by rw[Zi,xO]
 generalize (upd H q (.lst (o1.map V.str++o2.map V.str)))=H1 at S1 k1 ⊢;refine⟨_,rfl,_,rfl,aB rfl,fun t ht=>?_⟩;have S2':=ZA.new (o:=.tup [.int i,.str n]) ht;have S2:=S1.trans S2';have k2:(upd H1 t (.tup [.int i,.str n])) t=some (.tup [.int i,.str n]):=Zi;have k2q:=S2' _ _ k1;generalize (upd H1 t (.tup [.int i,.str n]))=H2 at S2 k2 k2q ⊢;refine⟨M,ds,wa,xs,m,qs,day,q,o1++o2,none,some (i,n),.ref t,rfl,W.same S2,ok,k2q,fun n hn=>(hw n hn).1,dI,(fun j e=>nomatch e),⟨hi,hx,t,rfl,k2⟩,fun H4 S4'=>?_⟩;have S4:=S2.trans S4';cases ea:Wt ds m day (o1++o2) none (some (i,n)) with
 | some z=>rw[ea] at k;exact k H4 S4
 | none =>
 rw[ea,xK] at k;obtain⟨p1,_,p3⟩:=As ea;have ho:=p3 i n rfl;have hall:=a.all p1;refine⟨_,rfl,M.p,dm,_,rfl,S4 _ _ obm,Yi _ aA,_,rfl,_,rfl,_,rfl,_,rfl,M,ds,wa,xs,m,qs,day,need,l1,l2,o1,o2,f,rfl,W.same S4,ok,hds,S4 _ _ h1,S4 _ _ h2,n1,n2,d0,d1,ni,hall,fun H5 S5'=>?_⟩;have S5:=S4.trans S5';cases es:Ud m need f o1 o2 with
 | some z=>rw[es] at k;exact k H5 S5
 | none =>
 rw[es,xK] at k;obtain⟨g0,g1⟩:=Vf en;have h4:=(Jq es).2;have hin:inB i m.trials.length:=by
  unfold Vw at ho
  by_cases z:inB i m.trials.length
  ·exact z
  ·split at ho
   ·rw[if_neg z] at ho;cases ho
   ·cases ho
 obtain⟨j,rfl⟩:=yK hin.1;obtain⟨ts,t1,t2,_⟩:=((W.same S5).ls (M.lt,m.trials.map Wo) (by simp[Mo.at_])).get;have hle:=ok.le;refine⟨_,rfl,M.p,CM,dm,_,_,rfl,S5 _ _ obm,Tm.cl,Tm.nt,JX _,_,rfl,_,rfl,M.lt,m.trials,j,n,rfl,⟨ts,t1,t2⟩,ok.ok,by lia,hx,ho,fun lb H6 hlb klb S6'=>?_⟩;have S6:=S5.trans S6';refine⟨_,.inl ⟨_,ZF.of klb,rfl⟩,?_⟩;cases eb:Cc m.trials j n with
 | cons z r =>
  rw[eb,if_neg (by intro y;cases y)] at k;exact Z7 ⟨aA,_,rfl,.inl ⟨n,rfl,by lia⟩,aA,_,rfl,.inr ⟨_,rfl,Vb hi⟩,aA,fun _=>k H6 S6⟩
 | nil =>
 rw[eb,if_pos rfl] at k;refine Z4 ?_;have W6:=W.same S6;obtain⟨vs,f1,_,f2⟩:=(W6.ls (M.ld,m.deeds) (by simp[Mo.at_])).get;dsimp only at f1 f2;refine⟨_,rfl,M.p,CM,dm,_,_,rfl,S6 _ _ obm,Tm.cl,Tm.nd,V0 _,.inl ⟨rfl,_,ZF.of f1⟩,_,rfl,_,rfl,_,rfl,_,rfl,_,rfl,l1,_,rfl,.inl (ZF.of (S6 _ _ h1)),fun a1 ha1=>?_⟩;refine nw (o:=.lst (o1.map V.str)) ha1 fun Ha Sa ka=>?_;refine⟨_,rfl,l2,_,rfl,.inl (ZF.of (Sa _ _ (S6 _ _ h2))),fun a2 ha2=>?_⟩;refine nw (o:=.lst (o2.map V.str)) ha2 fun Hb Sb kb=>?_;refine⟨aB rfl,fun q' hq'=>?_⟩;refine nw (o:=.tup [.str "accuse", .int j,.str n,.int day,.int need,.ref a1,.ref a2]) hq' fun Hc Sc kc=>?_;have Sac:=(Sa.trans Sb).trans Sc;refine⟨M.ld,vs,.ref q',rfl,rfl,Sac _ _ f1,by lia,?_⟩;have ka':=Sc _ _ (Sb _ _ ka);have kb':=Sc _ _ kb;obtain⟨W7,R7⟩:=W6.deed2 Sac ha1 (Sa.free ha2) ka' kb' f1 (d:=acD j n day need o1 o2) (v:=.ref q')
  ⟨q',_,rfl,Y2 kc,⟨_,_,rfl,rfl,⟨_,_,rfl,rfl,⟨_,_,rfl,rfl,⟨_,_,rfl,rfl,⟨_,_,rfl,rfl,⟨_,_,rfl,⟨a1,_,rfl,Ub (by simp) ka',Jd _ _⟩,⟨_,_,rfl,⟨a2,_,rfl,Ub (by simp) kb',Jd _ _⟩,rfl⟩⟩⟩⟩⟩⟩⟩⟩
 replace R7:=(YJ.same S6).trans R7;generalize (upd Hc M.ld (.lst (vs ++ [.ref q'])))=H7 at W7 R7 ⊢;obtain⟨dm7,obm7⟩:=W7.ob;refine⟨_,rfl,M.p,dm7,_,rfl,obm7,Yi _ aA,_,rfl,_,rfl,_,rfl,_,rfl,_,rfl,_,rfl,aB rfl,fun t2 ht2=>?_⟩;refine nw (o:=.tup [.int j,.str n]) ht2 fun H8 S8 k8=>?_;have R8:=R7.trans (YJ.same S8);refine⟨M,ds,wa,_,m.told (acD j n day need o1 o2),qs,day,need,l1,l2,o1,o2,f,some ((j:Int),n),.ref t2,rfl,W7.same S8,ok.told _,(Jq es).1,hds,R8.1 l1 _ h1 w1,R8.1 l2 _ h2 w2,n1,n2,d0,d1,g0,g1,fun n hn=>(hall n hn).2,⟨hi,hx,t2,rfl,k8⟩,fun lv s1 s2 H9 W9 T9 F9=>?_⟩;exact k _ _ ⟨M.setv lv,wa,_,qs,rfl,W9,rfl⟩ (R8.trans ⟨T9,F9⟩)
def Mo.pena(m:Mo)(n:Str):Mo:={m with pen:=fun x=>if x=n then some (m.trials.length:Int) else m.pen x,npen:=m.npen+1,deeds:=m.deeds ++ [.tup [.str "penance", .str n]] }
inductive TC(C CM:XW)(c:XR)(vs:aG)(H:Hp)(Q:VK)(E:XK):Prop
 |mk(p) (ds) (m) (O) (n)(_:vs = [.ref p,.str n])(_:YA C CM H p ds m O)(_:n.length<=100)(_:m.npen<=1000)(_:m.trials.length<=1000)(_:Uh E c H (∀O' H',YA C CM H' p ds (m.pena n) O'->YJ O H O' H'->Q .non H') ((We ds n).or ((JC ds n).or (Ys m))))
abbrev IP:Stmt:=Yr (top 58) 4
theorem Sm(Zh6:ZR K CM "penance" "Moot.penance" IP)(T:Txt mg)(Tc:WC K C)(Tm:ZK K CM)(M_check_known:ZY P w K mg base C "check_known" 1 (YL C c))(M_check_untold:ZY P w K mg base C "check_untold" 1 (WD C c))(MM_check_moments:ZY P w K mg base CM "check_moments" 1 (YM C CM c)):ZY P w K mg base CM "penance" 2 (TC C CM c):=by
 refine Zh6.mx ["self","name"] ["self","name"] fun H vs Q E hr h=>?_;obtain⟨_,ds,m,_,n,rfl,⟨M,wa,xs,qs,rfl,W,rfl⟩,ho,hp4,ht4,k⟩:=h;refine⟨rfl,_,(Zc (Zj (Yj Z1 (Zx Q0) Tc.cl M_check_known (Za Q8 Zb))) (Zc (Zj (Yj Z1 (Zx Q0) Tc.cl M_check_untold (Za Q8 Zb))) (Zc (Zj (Ad Z1 Q0 Tm.cl MM_check_moments)) (Zc (Jt hr (Zx Q0) Q8 (Z5 Yp T.len Yh (Za (Zx Q0) Zb))) (Zg (Zj (Y4 aD aE aF Wb (Zx Q0) (Za (Z9 (Za Z2 (Za Q8 Zb))) Zb)))))))),?_⟩;have hz:=aC
 obtain⟨dm,obm⟩:=W.ob;obtain⟨dx,ob⟩:=W.fk.f.ob;refine⟨_,rfl,M.p,CM,dm,_,_,rfl,obm,Tm.cl,Tm.nf,Uc _,M.L.p,dx,_,rfl,ob,Yw _ _ _ _ aA,_,rfl,M.L,ds,n,rfl,W.fk.f,ho,?_⟩;cases ek:We ds n with
 | some z=>rw[ek] at k;exact k H (ZA.refl H)
 | none =>
 rw[ek,xK] at k;refine⟨_,rfl,M.p,CM,dm,_,_,rfl,obm,Tm.cl,Tm.nf,Uc _,M.L.p,dx,_,rfl,ob,Yw _ _ _ _ aA,_,rfl,M.L,ds,n,rfl,W.fk.f,ho,?_⟩;cases eu:JC ds n with
 | some z=>rw[eu] at k;exact k H (ZA.refl H)
 | none =>
 rw[eu,xK] at k;refine⟨_,rfl,M.p,dm,_,rfl,obm,Yi _ aA,M,ds,wa,xs,m,qs,rfl,W,?_⟩;cases em:Ys m with
 | some z=>rw[em] at k;exact k H (ZA.refl H)
 | none =>
 rw[em] at k;have hn4:=JL em;obtain⟨ts,t1,_,t2⟩:=(W.ls (M.lt,m.trials.map Wo) (by simp[Mo.at_])).get;dsimp only at t1 t2;rw[xA] at t2;obtain⟨kvs,p1,p2,p3⟩:=W.pn;refine⟨_,rfl,M.p,CM,dm,_,_,rfl,obm,Tm.cl,Tm.nt,JX _,M.lt,ts,rfl,.inl (ZF.of t1),?_⟩;refine⟨_,rfl,M.p,CM,dm,_,_,rfl,obm,Tm.cl,Tm.np,Kf _,_,rfl,M.dp,_,rfl,YU.k (k:=Sum.inr n) p1 (by lia),?_⟩;rw[t2];have W1:=W.pena (n:=n) (c:=(m.trials.length:Int)) p1;have g0:∀b o,b≠M.dp->H b=some o->(upd H M.dp (.dK (Z3 kvs (.inr n) (.int m.trials.length)))) b=some o:=fun b o nb e=>by rw[Ze nb];exact e
 generalize (upd H M.dp (.dK (Z3 kvs (.inr n) (.int m.trials.length))))=H1 at W1 g0 ⊢;obtain⟨dm2,obm2⟩:=W1.ob;obtain⟨vs,e1,_,e2⟩:=(W1.ls (M.ld,m.deeds) (by simp[Mo.at_])).get;dsimp only at e1 e2;refine⟨_,rfl,M.p,CM,dm2,_,_,rfl,obm2,Tm.cl,Tm.nd,V0 _,.inl ⟨rfl,_,ZF.of e1⟩,_,rfl,aB rfl,fun p hp=>?_⟩;refine nw (o:=.tup [.str "penance", .str n]) hp fun H3 S3 kp=>?_;have W3:=W1.same S3;refine⟨M.ld,vs,.ref p,rfl,rfl,S3 _ _ e1,by lia,?_⟩;refine k _ _ ⟨M,wa,xs,qs,rfl,W3.deed (S3 _ _ e1) ⟨p,_,rfl,Y2 kp,⟨_,_,rfl,rfl,⟨_,_,rfl,rfl,rfl⟩⟩⟩,rfl⟩ ⟨fun b o e nb=>?_,fun _ hb=>.inl hb⟩;rw[Ze (fun z:b=M.ld=>nb (z▸JP))];exact S3 _ _ (g0 b o (fun z=>nb (.inr (.inl z))) e)
theorem RV(h:Vv x=true):Wz x:=by
 unfold Vv at h;simp only[yR,decide_eq_true_eq,zL] at h;exact⟨fun c hc=>by have:=h.2 c hc;unfold okc at this;simpa using this,h.1.1,h.1.2⟩
theorem EJ(h:Ur ds n day wt=none):Wz n/\(0<=day/\day<=9999)/\(1<=wt/\wt<=1000)/\Zn ds n=none/\(Vm ds).length < 40:=by
 unfold Ur at h
 by_cases z:Vv n=false
 ·rw[if_pos z] at h;cases h
 ·rw[if_neg z] at h;simp only[yM] at h;refine⟨RV (by simpa using z),Vf h.1,Vf h.2.1,?_⟩;obtain⟨a,b⟩:=h.2.2;refine⟨Classical.byContradiction fun y=>?_,Classical.byContradiction fun y=>?_⟩
  ·rw[if_neg y] at a;cases a
  ·rw[if_neg y] at b;cases b
def coD(n:Str)(day wt:Int):D:=.tup [.str "come", .str n,.int day,.int wt]
inductive UW(C CM:XW)(c:XR)(vs:aG)(H:Hp)(Q:VK)(E:XK):Prop
 |mk(p) (ds) (m) (O) (n) (day wt)(_:vs = [.ref p,.str n,.int day,.int wt])(_:YA C CM H p ds m O)(_:ds.length<=1000)(_:okN n)(_:okI day)(_:okI wt)(_:Uh E c H (∀O' H',YA C CM H' p (ds ++ [.come n day wt]) (m.told (coD n day wt)) O'->YJ O H O' H'->Q .non H') ((Ur ds n day wt).or (Ys m)))
abbrev IV:Stmt:=Yr (top 58) 1
theorem Qf(Zh7:ZR K CM "come" "Moot.come" IV)(Tc:WC K C)(Tm:ZK K CM)(M_check_coming:ZY P w K mg base C "check_coming" 2 (VG C c))(M_come:Mt P w K mg base C "come" ["self","name","day","weight"] 3 (UX C))(MM_check_moments:ZY P w K mg base CM "check_moments" 1 (YM C CM c)):ZY P w K mg base CM "come" 4 (UW C CM c):=by
 refine Zh7.mx ["self","name","day","weight"] ["self","name","day","weight"] fun H vs Q E hr h=>?_;obtain⟨_,ds,m,_,n,day,wt,rfl,⟨M,wa,xs,qs,rfl,W0,rfl⟩,hl,ho,hi,hw,k⟩:=h;refine⟨rfl,_,(Zc (Zj (Yj Z1 (Zx Q0) Tc.cl M_check_coming (Za Q8 (Za Q9 (Za Qa Zb))))) (Zc (Zj (Ad Z1 Q0 Tm.cl MM_check_moments)) (Zc (Zj (Wc (Zx Q0) Tc.cl M_come (Za Q8 (Za Q9 (Za Qa Zb))))) (Zg (Zj (Y4 aD aE aF Wb (Zx Q0) (Za (Z9 (Za Z2 (Za Q8 (Za Q9 (Za Qa Zb))))) Zb))))))),?_⟩;have hz:=aC
 obtain⟨dm,obm⟩:=W0.ob;obtain⟨dx,ob⟩:=W0.fk.f.ob;refine⟨_,rfl,M.p,CM,dm,_,_,rfl,obm,Tm.cl,Tm.nf,Uc _,M.L.p,dx,_,rfl,ob,Yw _ _ _ _ aA,_,rfl,_,rfl,_,rfl,M.L,ds,wa,n,day,wt,rfl,W0.fk,hl,ho,hi,hw,fun H1 S1=>?_⟩;cases ec:Ur ds n day wt with
 | some z=>rw[ec] at k;exact k H1 S1
 | none =>
 rw[ec,xK] at k;have W1:=W0.same S1;refine⟨_,rfl,M.p,dm,_,rfl,S1 _ _ obm,Yi _ aA,M,ds,wa,xs,m,qs,rfl,W1,?_⟩;cases em:Ys m with
 | some z=>rw[em] at k;exact k H1 S1
 | none =>
 rw[em] at k;have hn4:=JL em;obtain⟨hnm,⟨d0,d1⟩,⟨w0,w1⟩,hc,hcm⟩:=EJ ec;refine⟨_,rfl,M.p,CM,dm,_,_,rfl,S1 _ _ obm,Tm.cl,Tm.nf,Uc _,M.L.p,dx,_,rfl,S1 _ _ ob,Yw _ _ _ _ aA,_,rfl,_,rfl,_,rfl,M.L,ds,wa,n,day,wt,rfl,W1.fk,hcm,hl,hnm,d0,d1,w0,w1,hc,fun wa' H2 F2 T2 R2=>?_⟩;have W2:=W1.folk F2 T2 R2;obtain⟨dm2,obm2⟩:=W2.ob;obtain⟨vs,e1,_,e2⟩:=(W2.ls (M.ld,m.deeds) (by simp[Mo.at_])).get;dsimp only at e1 e2;refine⟨_,rfl,M.p,CM,dm2,_,_,rfl,obm2,Tm.cl,Tm.nd,V0 _,.inl ⟨rfl,_,ZF.of e1⟩,_,rfl,_,rfl,_,rfl,aB rfl,fun p hp=>?_⟩;refine nw (o:=.tup [.str "come", .str n,.int day,.int wt]) hp fun H3 S3 kp=>?_;have W3:=W2.same S3;refine⟨M.ld,vs,.ref p,rfl,rfl,S3 _ _ e1,by lia,?_⟩;refine k _ _ ⟨M,wa',xs,qs,rfl,W3.deed (S3 _ _ e1) ⟨p,_,rfl,Y2 kp,⟨_,_,rfl,rfl,⟨_,_,rfl,rfl,⟨_,_,rfl,rfl,⟨_,_,rfl,rfl,rfl⟩⟩⟩⟩⟩,rfl⟩ ⟨fun b o e nb=>?_,fun b hb=>?_⟩
 ·rw[Ze (fun z:b=M.ld=>nb (z▸JP))];exact S3 _ _ (T2 b o (S1 _ _ e) fun z=>nb (.inr (.inr (.inr (.inr z)))))
 ·exact(WN.folk (xs:=xs) (qs:=qs) R2 b hb).imp id S1.free
def Iu(n:Str)(day:Int):D:=.tup [.str "bring", .str n,.int day]
def Mo.brg(m:Mo)(n:Str)(day:Int):Mo:={m with brs:=m.brs ++ [.tup [.str n,.int day]],haps:=m.haps ++ [[]],deeds:=m.deeds ++ [Iu n day] }
def BY(m:Mo):Option Str:=if m.brs.length < 40 then none else some "TooMany"
inductive UG(C CM:XW)(c:XR)(vs:aG)(H:Hp)(Q:VK)(E:XK):Prop
 |mk(p) (ds) (m) (O) (n) (day)(_:vs = [.ref p,.str n,.int day])(_:YA C CM H p ds m O)(_:WS m)(_:n.length<=100)(_:okI day)(_:Uh E c H (∀O' H',YA C CM H' p ds (m.brg n day) O'->YJ O H O' H'->Q (.int m.brs.length) H') ((eM 0 9999 day).or ((Wt ds m day [n] none none).or ((BY m).or (Ys m)))))
abbrev Gm:Stmt:=Yr (top 58) 5
theorem Qu(Zh8:ZR K CM "bring" "Moot.bring" Gm)(T:Txt mg)(Tm:ZK K CM)(C0:∃t,mg "MOST_THINGS" = some (.int 40 t))(er:Er K mg c errs)(Wi:YT P w K mg base "check_day" 1 (VF 0 9999 c))(MM_check_named:ZY P w K mg base CM "check_named" 3 (YG C CM c))(MM_check_moments:ZY P w K mg base CM "check_moments" 1 (YM C CM c)):ZY P w K mg base CM "bring" 4 (UG C CM c):=by
 obtain⟨t0,c_MOST_THINGS⟩:=C0;have r_MOST_THINGS:ZG (.int 40) (.int 40 t0):=⟨t0,rfl⟩;refine Zh8.mx ["self","name","day"] ["self","name","day"] fun H vs Q E hr h=>?_;obtain⟨_,ds,m,_,n,day,rfl,⟨M,wa,xs,qs,rfl,W0,rfl⟩,ok,ho,dI,k⟩:=h;refine⟨rfl,_,(Zc (Zj (Wr Z1 Wi (Za Q9 Zb))) (Zc (Zj (Yj Z1 Q0 Tm.cl MM_check_named (Za Q9 (Za (Yl (Za Q8 Zb)) (Za Y7 (Za Y7 Zb)))))) (Zc (Zp (Zq J8 (Z5 Yp T.len Yh (Za (Zx Q0) Zb)) (Y8 c_MOST_THINGS r_MOST_THINGS) (Zu _)) (Zg (Wd Yz er (Wh (Yq (Y0 (Y8 c_MOST_THINGS r_MOST_THINGS) (Yq Wg)))))) Zo) (Zc (Zj (Ad Z1 Q0 Tm.cl MM_check_moments)) (Zc (Zj (Y4 aD aE aF Wb (Zx Q0) (Za (Z9 (Za Q8 (Za Q9 Zb))) Zb))) (Zc (Zj (Y4 aD aE aF Wb (Zx Q0) (Za (Yl Zb) Zb))) (Zc (Zj (Y4 aD aE aF Wb (Zx Q0) (Za (Z9 (Za Z2 (Za Q8 (Za Q9 Zb)))) Zb))) (Zg (Zw (Z0 Jc (Z5 Yp T.len Yh (Za (Zx Q0) Zb)) Zd)))))))))),?_⟩;have hz:=aC
 have hhb:=ok.hb;refine⟨_,rfl,day,rfl,dI,?_⟩;cases ed:eM 0 9999 day with
 | some z=>rw[ed] at k;exact k H (ZA.refl H)
 | none =>
 rw[ed,xK] at k;obtain⟨dm,obm⟩:=W0.ob;refine⟨_,rfl,M.p,dm,_,rfl,obm,Yi _ aA,_,rfl,_,rfl,aB rfl,fun pl hpl=>?_⟩;refine nw (o:=.lst [.str n]) hpl fun H1 S1 k1=>?_;have W1:=W0.same S1;refine⟨M,ds,wa,xs,m,qs,day,pl,[n],none,none,.non,rfl,W1,ok,k1,fun m hm=>by rw[xR.mp hm];exact ho,dI,(fun j e=>nomatch e),rfl,fun H1' S1'=>?_⟩;replace S1:=S1.trans S1';replace W1:=W1.same S1';cases en:Wt ds m day [n] none none with
 | some z=>rw[en] at k;exact k H1' S1
 | none =>
 rw[en,xK] at k;have obm1:=S1 _ _ obm;obtain⟨us,e1,_,hul⟩:=(W1.ls (M.lb,m.brs) (by simp[Mo.at_])).get;dsimp only at e1 hul;refine⟨_,rfl,M.p,CM,dm,_,_,rfl,obm1,Tm.cl,Tm.nb,Bs _,M.lb,us,rfl,.inl (ZF.of e1),_,_,rfl,rfl,_,rfl,Zy (fun z=>?_) (fun z=>?_)⟩
 ·have:BY m=some "TooMany" := if_neg (by lia);rw[this] at k;exact⟨aA,.inr ⟨40,rfl,aA⟩,aA,fun _=>k H1' S1⟩
 have hl:m.brs.length < 40:=by lia
 have:BY m=none:=if_pos hl;rw[this,xK] at k;refine⟨_,rfl,M.p,dm,_,rfl,obm1,Yi _ aA,M,ds,wa,xs,m,qs,rfl,W1,?_⟩;cases em:Ys m with
 | some z=>rw[em] at k;exact k H1' S1
 | none =>
 rw[em] at k;have hn4:=JL em;refine⟨_,rfl,M.p,CM,dm,_,_,rfl,obm1,Tm.cl,Tm.nb,Bs _,.inl ⟨rfl,_,ZF.of e1⟩,_,rfl,_,rfl,aB rfl,fun a ha=>?_⟩;refine nw (o:=.tup [.str n,.int day]) ha fun H2 S2 k2=>?_;have W2:=W1.same S2;refine⟨M.lb,us,.ref a,rfl,rfl,S2 _ _ e1,by lia,?_⟩;have W3:=W2.brg (S2 _ _ e1) (d:=.tup [.str n,.int day]) (v:=.ref a) ⟨a,_,rfl,Y2 k2,⟨_,_,rfl,rfl,⟨_,_,rfl,rfl,rfl⟩⟩⟩;have T3:J3 M ds wa xs qs H (upd H2 M.lb (.lst (us ++ [.ref a]))):=fun b o e nb=>by
  rw[Ze (fun z:b=M.lb=>nb (z ▸ .inr (.inr (.inl (by simp[ML.ls])))))];exact S2 _ _ (S1 _ _ e)
 generalize (upd H2 M.lb (.lst (us ++ [.ref a])))=H3 at W3 T3 ⊢;obtain⟨dm2,obm2⟩:=W3.ob;have e3:=W3.hl;refine⟨_,rfl,M.p,CM,dm2,_,_,rfl,obm2,Tm.cl,Tm.nh,EO _,.inl ⟨rfl,_,ZF.of e3⟩,aB rfl,fun q hq=>?_⟩;have S4:=ZA.new (o:=.lst []) hq;have k4:(upd H3 q (.lst [])) q=some (.lst []):=Zi;have nq:¬mo M ds wa xs qs q:=fun z=>by obtain⟨o,e⟩:=W3.there z;rw[hq] at e;cases e
 have hqf:H q=none:=by
  cases e:H q with
  | none=>rfl
  | some o=>rw[T3 q o e nq] at hq;cases hq
 generalize (upd H3 q (.lst []))=H4 at S4 k4 ⊢;refine⟨M.lh,qs.map V.ref,.ref q,rfl,rfl,S4 _ _ e3,by rw[xA];have:=W0.hn;lia,?_⟩;have W5:=(W3.same S4).newq k4 nq;have T5:J3 M ds wa xs qs H (upd H4 M.lh (.lst (qs.map V.ref ++ [.ref q]))):=fun b o e nb=>by
  rw[Ze (fun z:b=M.lh=>nb (z ▸ .inr (.inr (.inl xY))))];exact S4 _ _ (T3 b o e nb)
 have em:(qs ++ [q]).map V.ref=qs.map V.ref ++ [.ref q]:=by rw[xO];rfl
 rw[em] at W5;generalize (upd H4 M.lh (.lst (qs.map V.ref ++ [.ref q])))=H5 at W5 T5 ⊢;obtain⟨dm4,obm4⟩:=W5.ob;obtain⟨vs,f1,_,f2⟩:=(W5.ls (M.ld,m.deeds) (by simp[Mo.at_])).get;dsimp only at f1 f2;refine⟨_,rfl,M.p,CM,dm4,_,_,rfl,obm4,Tm.cl,Tm.nd,V0 _,.inl ⟨rfl,_,ZF.of f1⟩,_,rfl,_,rfl,aB rfl,fun p hp=>?_⟩;refine nw (o:=.tup [.str "bring", .str n,.int day]) hp fun H6 S6 k6=>?_;have W6:=W5.same S6;refine⟨M.ld,vs,.ref p,rfl,rfl,S6 _ _ f1,by lia,?_⟩;have W7:=W6.deed (v:=.ref p) (S6 _ _ f1) (d:=.tup [.str "bring", .str n,.int day]) ⟨p,_,rfl,Y2 k6,⟨_,_,rfl,rfl,⟨_,_,rfl,rfl,⟨_,_,rfl,rfl,rfl⟩⟩⟩⟩;have T7:J3 M ds wa xs qs H (upd H6 M.ld (.lst (vs ++ [.ref p]))):=fun b o e nb=>by
  rw[Ze (fun z:b=M.ld=>nb (z▸JP))];exact S6 _ _ (T5 b o e nb)
 generalize (upd H6 M.ld (.lst (vs ++ [.ref p])))=H7 at W7 T7 ⊢;obtain⟨dm6,obm6⟩:=W7.ob;obtain⟨us6,g1,_,g2⟩:=(W7.ls (M.lb,m.brs ++ [.tup [.str n,.int day]]) (by simp[Mo.at_])).get;dsimp only at g1 g2;rw[xF] at g2;refine⟨_,rfl,M.p,CM,dm6,_,_,rfl,obm6,Tm.cl,Tm.nb,Bs _,M.lb,us6,rfl,.inl (ZF.of g1),_,_,rfl,rfl,?_⟩;have ei:((us6.length:Int) - 1)=(m.brs.length:Int):=by rw[g2];simp
 show Q (.int ((us6.length:Int) - 1)) H7;rw[ei];refine k _ H7 ⟨M,wa,xs,_,rfl,W7,rfl⟩ ⟨T7,fun b hb=>?_⟩;rcases hb with z | z | z | z | z
 ·exact .inl (.inl z)
 ·exact .inl (.inr (.inl z))
 ·rw[← yW,← yF] at z;rcases xJ.mp z with z | z
  ·exact .inl (.inr (.inr (.inl z)))
  ·rw[xR.mp z];exact .inr hqf
 ·exact .inl (.inr (.inr (.inr (.inl z))))
 ·exact .inl (.inr (.inr (.inr (.inr z))))
def gvD(i:Int)(x y:Str)(day:Int):D:=.tup [.str "give", .int i,.str x,.str y,.int day]
def Mo.give(m:Mo)(i:Nat)(x y:Str)(day:Int):Mo:={m with haps:=m.haps.set i (m.haps.getD i [] ++ [.tup [.non,.tup [.int day,.str "given", .str x,.str y]]]),deeds:=m.deeds ++ [gvD i x y day] }
inductive Tb(C CM:XW)(c:XR)(vs:aG)(H:Hp)(Q:VK)(E:XK):Prop
 |mk(p) (ds) (m) (O) (i) (x y) (day)(_:vs = [.ref p,.int i,.str x,.str y,.int day])(_:YA C CM H p ds m O)(_:WS m)(_:x.length<=100)(_:y.length<=100)(_:okI i)(_:okI day)(_:Uh E c H (∀O' H',YA C CM H' p ds (m.give i.toNat x y day) O'->YJ O H O' H'->Q .non H') ((eM 0 9999 day).or ((Wt ds m day [x,y] (some i) none).or (Ys m))))
abbrev Fc:Stmt:=Yr (top 58) 6
theorem LW(Zh9:ZR K CM "give" "Moot.give" Fc)(Tm:ZK K CM)(Wi:YT P w K mg base "check_day" 1 (VF 0 9999 c))(MM_check_named:ZY P w K mg base CM "check_named" 3 (YG C CM c))(MM_check_moments:ZY P w K mg base CM "check_moments" 1 (YM C CM c)):ZY P w K mg base CM "give" 4 (Tb C CM c):=by
 refine Zh9.mx ["self","thing","giver","taker","day"] ["self","thing","giver","taker","day"] fun H vs Q E hr h=>?_;obtain⟨_,ds,m,_,i,x,y,day,rfl,⟨M,wa,xs,qs,rfl,W0,rfl⟩,ok,hx,hy,hi,dI,k⟩:=h;refine⟨rfl,_,(Zc (Zj (Wr Z1 Wi (Za Qb Zb))) (Zc (Zj (Yj Z1 Q0 Tm.cl MM_check_named (Za Qb (Za (Yl (Za Q9 (Za Qa Zb))) (Za Q8 (Za Y7 Zb)))))) (Zc (Zj (Ad Z1 Q0 Tm.cl MM_check_moments)) (Zc (Zj (Y4 aD aE aF Wb (Zh Yb (Zx Q0) Q8 (fun _ _=>rfl)) (Za (Z9 (Za Y7 (Za (Z9 (Za Qb (Za Z2 (Za Q9 (Za Qa Zb))))) Zb))) Zb))) (Zg (Zj (Y4 aD aE aF Wb (Zx Q0) (Za (Z9 (Za Z2 (Za Q8 (Za Q9 (Za Qa (Za Qb Zb)))))) Zb)))))))),?_⟩;have hz:=aC
 refine⟨_,rfl,day,rfl,dI,?_⟩;cases ed:eM 0 9999 day with
 | some z=>rw[ed] at k;exact k H (ZA.refl H)
 | none =>
 rw[ed,xK] at k;obtain⟨dm,obm⟩:=W0.ob;refine⟨_,rfl,M.p,dm,_,rfl,obm,Yi _ aA,_,rfl,_,rfl,_,rfl,aB rfl,fun pl hpl=>?_⟩;refine nw (o:=.lst [.str x,.str y]) hpl fun H1 S1 k1=>?_;refine⟨_,rfl,M,ds,wa,xs,m,qs,day,pl,[x,y],some i,none,.non,rfl,W0.same S1,ok,k1,fun n hn=>?_,dI,(fun j e=>by cases e;exact hi),rfl,fun H1' S1'=>?_⟩
 ·grind
 replace S1:=S1.trans S1';cases en:Wt ds m day [x,y] (some i) none with
 | some z=>rw[en] at k;exact k H1' S1
 | none =>
 rw[en,xK] at k;have W1:=W0.same S1;have obm1:=S1 _ _ obm;refine⟨_,rfl,M.p,dm,_,rfl,obm1,Yi _ aA,M,ds,wa,xs,m,qs,rfl,W1,?_⟩;cases em:Ys m with
 | some z=>rw[em] at k;exact k H1' S1
 | none =>
 rw[em] at k;have hn4:=JL em;obtain⟨_,p2,_⟩:=As en;have hin:inB i m.brs.length:=by
  have:=p2 i rfl;unfold JG at this
  by_cases z:inB i m.brs.length
  ·exact z
  ·rw[if_neg z] at this;cases this
 obtain⟨i,rfl⟩:=yK hin.1;have hj:i < m.haps.length:=by rw[ok.hb];have:=hin.2;lia
 have hcl:m.haps[i]? = some (m.haps.getD i []):=by rw[xZ,xB hj];rfl
 have hcn:=ok.hl _ (xM hcl);rw[yP] at k;unfold Mo.give at k;generalize m.haps.getD i []=cl at hcl hcn k;have hi:i < qs.length:=by rw[W1.hn];exact(xH.mp hcl).1
 have hq:qs[i]? = some qs[i]:=xB hi;have mz:(qs[i],cl)∈qs.zip m.haps:=xM (i:=i) (by rw[zB];exact⟨hq,hcl⟩);obtain⟨us,e1,_,hul⟩:=(W1.ls (qs[i],cl) (by simp[Mo.at_,mz])).get;dsimp only at e1 hul;refine⟨_,rfl,M.p,CM,dm,_,_,rfl,obm1,Tm.cl,Tm.nh,EO _,_,rfl,M.lh,_,i,.ref qs[i],rfl,rfl,ZF.of W1.hl,Yu (by rw[xE,hq];rfl),.inl ⟨rfl,_,ZF.of e1⟩,_,rfl,_,rfl,_,rfl,aB rfl,fun b hb=>?_⟩;refine nw (o:=.tup [.int day,.str "given", .str x,.str y]) hb fun H2 S2 k2=>?_;refine⟨aB rfl,fun a ha=>?_⟩;refine nw (o:=.tup [.non,.ref b]) ha fun H3 S3 k3=>?_;have W3:=(W1.same S2).same S3;have e3:=S3 _ _ (S2 _ _ e1);refine⟨qs[i],us,.ref a,rfl,rfl,e3,by lia,?_⟩;have W4:=W3.hap hq hcl (d:=.tup [.non,.tup [.int day,.str "given", .str x,.str y]]) (v:=.ref a) e3 ⟨a,_,rfl,Y2 k3,⟨_,_,rfl,rfl,⟨_,_,rfl,⟨b,_,rfl,Y2 (S3 _ _ k2),⟨_,_,rfl,rfl,⟨_,_,rfl,rfl,⟨_,_,rfl,rfl,⟨_,_,rfl,rfl,rfl⟩⟩⟩⟩⟩,rfl⟩⟩⟩;have T4:J3 M ds wa xs qs H (upd H3 qs[i] (.lst (us ++ [.ref a]))):=fun c o e nb=>by
  rw[Ze (fun z:c=qs[i]=>nb (z ▸ .inr (.inr (.inl (xN _ (xI _ (zF hi)))))))];exact S3 _ _ (S2 _ _ (S1 _ _ e))
 generalize (upd H3 qs[i] (.lst (us ++ [.ref a])))=H4 at W4 T4 ⊢;obtain⟨dm4,obm4⟩:=W4.ob;obtain⟨vs,f1,_,f2⟩:=(W4.ls (M.ld,m.deeds) (by simp[Mo.at_])).get;dsimp only at f1 f2;refine⟨_,rfl,M.p,CM,dm4,_,_,rfl,obm4,Tm.cl,Tm.nd,V0 _,.inl ⟨rfl,_,ZF.of f1⟩,_,rfl,_,rfl,_,rfl,_,rfl,aB rfl,fun p hp=>?_⟩;refine nw (o:=.tup [.str "give", .int i,.str x,.str y,.int day]) hp fun H5 S5 kp=>?_;refine⟨M.ld,vs,.ref p,rfl,rfl,S5 _ _ f1,by lia,?_⟩;refine k _ _ ⟨M,wa,xs,qs,rfl,(W4.same S5).deed (S5 _ _ f1) ⟨p,_,rfl,Y2 kp,⟨_,_,rfl,rfl,⟨_,_,rfl,rfl,⟨_,_,rfl,rfl,⟨_,_,rfl,rfl,⟨_,_,rfl,rfl,rfl⟩⟩⟩⟩⟩⟩,rfl⟩ ⟨fun c o e nb=>?_,fun _ hb=>.inl hb⟩;rw[Ze (fun z:c=M.ld=>nb (z▸JP))];exact S5 _ _ (T4 c o e nb)
def pyD(x y:Str)(many day:Int):D:=.tup [.str "pay", .str x,.str y,.int many,.int day]
def Mo.pay(m:Mo)(x y:Str)(many day:Int):Mo:={m with debts:=m.debts ++ [.tup [.non,.tup [.int day,.str y,.str x,.int many]]],deeds:=m.deeds ++ [pyD x y many day] }
inductive TH(C CM:XW)(c:XR)(vs:aG)(H:Hp)(Q:VK)(E:XK):Prop
 |mk(p) (ds) (m) (O) (x y) (many day)(_:vs = [.ref p,.str x,.str y,.int many,.int day])(_:YA C CM H p ds m O)(_:WS m)(_:x.length<=100)(_:y.length<=100)(_:okI many)(_:okI day)(_:Uh E c H (∀O' H',YA C CM H' p ds (m.pay x y many day) O'->YJ O H O' H'->Q .non H') ((eM 1 1000000 many).or ((eM 0 9999 day).or ((Wt ds m day [x,y] none none).or (Ys m)))))
abbrev K8:Stmt:=Yr (top 58) 7
theorem Mh(Zia:ZR K CM "pay" "Moot.pay" K8)(Tm:ZK K CM)(Zh4:YT P w K mg base "check_money" 1 (VF 1 1000000 c))(Wi:YT P w K mg base "check_day" 1 (VF 0 9999 c))(MM_check_named:ZY P w K mg base CM "check_named" 3 (YG C CM c))(MM_check_moments:ZY P w K mg base CM "check_moments" 1 (YM C CM c)):ZY P w K mg base CM "pay" 4 (TH C CM c):=by
 refine Zia.mx ["self","payer","taker","many","day"] ["self","payer","taker","many","day"] fun H vs Q E hr h=>?_;obtain⟨_,ds,m,_,x,y,many,day,rfl,⟨M,wa,xs,qs,rfl,W0,rfl⟩,ok,hx,hy,hmi,dI,k⟩:=h;refine⟨rfl,_,(Zc (Zj (Wr Z1 Zh4 (Za Qa Zb))) (Zc (Zj (Wr Z1 Wi (Za Qb Zb))) (Zc (Zj (Yj Z1 Q0 Tm.cl MM_check_named (Za Qb (Za (Yl (Za Q8 (Za Q9 Zb))) (Za Y7 (Za Y7 Zb)))))) (Zc (Zj (Ad Z1 Q0 Tm.cl MM_check_moments)) (Zc (Zj (Y4 aD aE aF Wb (Zx Q0) (Za (Z9 (Za Y7 (Za (Z9 (Za Qb (Za Q9 (Za Q8 (Za Qa Zb))))) Zb))) Zb))) (Zg (Zj (Y4 aD aE aF Wb (Zx Q0) (Za (Z9 (Za Z2 (Za Q8 (Za Q9 (Za Qa (Za Qb Zb)))))) Zb))))))))),?_⟩;have hz:=aC
 have hql:=ok.ql;refine⟨_,rfl,many,rfl,hmi,?_⟩;cases ey:eM 1 1000000 many with
 | some z=>rw[ey] at k;exact k H (ZA.refl H)
 | none =>
 rw[ey,xK] at k;refine⟨_,rfl,day,rfl,dI,?_⟩;cases ed:eM 0 9999 day with
 | some z=>rw[ed] at k;exact k H (ZA.refl H)
 | none =>
 rw[ed,xK] at k;obtain⟨dm,obm⟩:=W0.ob;refine⟨_,rfl,M.p,dm,_,rfl,obm,Yi _ aA,_,rfl,_,rfl,_,rfl,aB rfl,fun pl hpl=>?_⟩;refine nw (o:=.lst [.str x,.str y]) hpl fun H1 S1 k1=>?_;refine⟨M,ds,wa,xs,m,qs,day,pl,[x,y],none,none,.non,rfl,W0.same S1,ok,k1,fun n hn=>?_,dI,(fun j e=>nomatch e),rfl,fun H1' S1'=>?_⟩
 ·grind
 replace S1:=S1.trans S1';cases en:Wt ds m day [x,y] none none with
 | some z=>rw[en] at k;exact k H1' S1
 | none =>
 rw[en,xK] at k;have W1:=W0.same S1;have obm1:=S1 _ _ obm;refine⟨_,rfl,M.p,dm,_,rfl,obm1,Yi _ aA,M,ds,wa,xs,m,qs,rfl,W1,?_⟩;cases em:Ys m with
 | some z=>rw[em] at k;exact k H1' S1
 | none =>
 rw[em] at k;have hn4:=JL em;obtain⟨us,e1,_,hul⟩:=(W1.ls (M.lq,m.debts) (by simp[Mo.at_])).get;dsimp only at e1 hul;refine⟨_,rfl,M.p,CM,dm,_,_,rfl,obm1,Tm.cl,Tm.nq,GP _,.inl ⟨rfl,_,ZF.of e1⟩,_,rfl,_,rfl,_,rfl,_,rfl,aB rfl,fun b hb=>?_⟩;refine nw (o:=.tup [.int day,.str y,.str x,.int many]) hb fun H2 S2 k2=>?_;refine⟨aB rfl,fun a ha=>?_⟩;refine nw (o:=.tup [.non,.ref b]) ha fun H3 S3 k3=>?_;have W3:=(W1.same S2).same S3;have e3:=S3 _ _ (S2 _ _ e1);refine⟨M.lq,us,.ref a,rfl,rfl,e3,by lia,?_⟩;have W4:=W3.debt (d:=.tup [.non,.tup [.int day,.str y,.str x,.int many]]) (v:=.ref a) e3 ⟨a,_,rfl,Y2 k3,⟨_,_,rfl,rfl,⟨_,_,rfl,⟨b,_,rfl,Y2 (S3 _ _ k2),⟨_,_,rfl,rfl,⟨_,_,rfl,rfl,⟨_,_,rfl,rfl,⟨_,_,rfl,rfl,rfl⟩⟩⟩⟩⟩,rfl⟩⟩⟩;have T4:J3 M ds wa xs qs H (upd H3 M.lq (.lst (us ++ [.ref a]))):=fun c o e nb=>by
  rw[Ze (fun z:c=M.lq=>nb (z ▸ .inr (.inr (.inl (by simp[ML.ls])))))];exact S3 _ _ (S2 _ _ (S1 _ _ e))
 generalize (upd H3 M.lq (.lst (us ++ [.ref a])))=H4 at W4 T4 ⊢;obtain⟨dm4,obm4⟩:=W4.ob;obtain⟨vs,f1,_,f2⟩:=(W4.ls (M.ld,m.deeds) (by simp[Mo.at_])).get;dsimp only at f1 f2;refine⟨_,rfl,M.p,CM,dm4,_,_,rfl,obm4,Tm.cl,Tm.nd,V0 _,.inl ⟨rfl,_,ZF.of f1⟩,_,rfl,_,rfl,_,rfl,_,rfl,aB rfl,fun p hp=>?_⟩;refine nw (o:=.tup [.str "pay", .str x,.str y,.int many,.int day]) hp fun H5 S5 kp=>?_;refine⟨M.ld,vs,.ref p,rfl,rfl,S5 _ _ f1,by lia,?_⟩;refine k _ _ ⟨M,wa,xs,qs,rfl,(W4.same S5).deed (S5 _ _ f1) ⟨p,_,rfl,Y2 kp,⟨_,_,rfl,rfl,⟨_,_,rfl,rfl,⟨_,_,rfl,rfl,⟨_,_,rfl,rfl,⟨_,_,rfl,rfl,rfl⟩⟩⟩⟩⟩⟩,rfl⟩ ⟨fun c o e nb=>?_,fun _ hb=>.inl hb⟩;rw[Ze (fun z:c=M.ld=>nb (z▸JP))];exact S5 _ _ (T4 c o e nb)
theorem E5(h:Wl d day=none):d<=day:=by
 unfold Wl at h
 by_cases z:day < d
 ·rw[if_pos z] at h;cases h
 ·lia
theorem FZ(h:JV ds n day wt=none):(0<=day/\day<=9999)/\(1<=wt/\wt<=1000)/\(∃d,Zn ds n=some d/\d<=day)/\V5 ds n day=false:=by
 unfold JV at h;simp only[yM] at h;obtain⟨h1,h2,h3,h4,h5⟩:=h;obtain⟨d,hd⟩:=Bb h3;rw[hd] at h4;refine⟨Vf h1,Vf h2,⟨d,hd,E5 h4⟩,?_⟩;unfold TZ at h5;cases z:V5 ds n day with
 | false=>rfl
 | true=>rw[if_pos z] at h5;cases h5
theorem OL(h:AC ds n he day=none):(0<=day/\day<=9999)/\(∃d,Zn ds n=some d/\d<=day)/\(∃d,Zn ds he=some d/\d<=day)/\Z6 ds n=none/\Z6 ds he=none/\he≠n:=by
 unfold AC at h;simp only[yM] at h;obtain⟨h1,h2,h3,h4,h5,h6,h7⟩:=h;obtain⟨d,hd⟩:=Bb h2;obtain⟨e,he'⟩:=Bb h3;rw[hd] at h4;rw[he'] at h5;have h6':Z6 ds n=none:=by
  unfold JC at h6
  by_cases z:Z6 ds n=none
  ·exact z
  ·rw[if_neg z] at h6;cases h6
 by_cases z:he=n\/Z6 ds he≠none
 ·rw[if_pos z] at h7;cases h7
 ·refine⟨Vf h1,⟨d,hd,E5 h4⟩,⟨e,he',E5 h5⟩,h6',?_,fun y=>z (.inl y)⟩
  by_cases y:Z6 ds he=none
  ·exact y
  ·exact absurd (.inr y) z
def riD(n:Str)(day wt:Int):D:=.tup [.str "rise", .str n,.int day,.int wt]
inductive Tg(C CM:XW)(c:XR)(vs:aG)(H:Hp)(Q:VK)(E:XK):Prop
 |mk(p) (ds) (m) (O) (n) (day wt)(_:vs = [.ref p,.str n,.int day,.int wt])(_:YA C CM H p ds m O)(_:ds.length<=1000)(_:n.length<=100)(_:okI day)(_:okI wt)(_:Uh E c H (∀O' H',YA C CM H' p (ds ++ [.rise n day wt]) (m.told (riD n day wt)) O'->YJ O H O' H'->Q .non H') ((JV ds n day wt).or (Ys m)))
abbrev Fq:Stmt:=Yr (top 58) 2
theorem Qt(Zib:ZR K CM "rise" "Moot.rise" Fq)(Tc:WC K C)(Tm:ZK K CM)(M_check_rise:ZY P w K mg base C "check_rise" 3 (TF C c))(M_rise:Mt P w K mg base C "rise" ["self","name","day","weight"] 4 (Tq C))(MM_check_moments:ZY P w K mg base CM "check_moments" 1 (YM C CM c)):ZY P w K mg base CM "rise" 5 (Tg C CM c):=by
 refine Zib.mx ["self","name","day","weight"] ["self","name","day","weight"] fun H vs Q E hr h=>?_;obtain⟨_,ds,m,_,n,day,wt,rfl,⟨M,wa,xs,qs,rfl,W0,rfl⟩,hl,ho,hi,hw,k⟩:=h;refine⟨rfl,_,(Zc (Zj (Yj Z1 (Zx Q0) Tc.cl M_check_rise (Za Q8 (Za Q9 (Za Qa Zb))))) (Zc (Zj (Ad Z1 Q0 Tm.cl MM_check_moments)) (Zc (Zj (Wc (Zx Q0) Tc.cl M_rise (Za Q8 (Za Q9 (Za Qa Zb))))) (Zg (Zj (Y4 aD aE aF Wb (Zx Q0) (Za (Z9 (Za Z2 (Za Q8 (Za Q9 (Za Qa Zb))))) Zb))))))),?_⟩;have hz:=aC
 obtain⟨dm,obm⟩:=W0.ob;obtain⟨dx,ob⟩:=W0.fk.f.ob;refine⟨_,rfl,M.p,CM,dm,_,_,rfl,obm,Tm.cl,Tm.nf,Uc _,M.L.p,dx,_,rfl,ob,Yw _ _ _ _ aA,_,rfl,_,rfl,_,rfl,M.L,ds,n,day,wt,rfl,W0.fk.f,ho,hi,hw,?_⟩;cases ec:JV ds n day wt with
 | some z=>rw[ec] at k;exact k H (ZA.refl H)
 | none =>
 rw[ec,xK] at k;refine⟨_,rfl,M.p,dm,_,rfl,obm,Yi _ aA,M,ds,wa,xs,m,qs,rfl,W0,?_⟩;cases em:Ys m with
 | some z=>rw[em] at k;exact k H (ZA.refl H)
 | none =>
 rw[em] at k;have hn4:=JL em;obtain⟨⟨d0,d1⟩,⟨w0,w1⟩,⟨d,hd,hdd⟩,hv⟩:=FZ ec;refine⟨_,rfl,M.p,CM,dm,_,_,rfl,obm,Tm.cl,Tm.nf,Uc _,M.L.p,dx,_,rfl,ob,Yw _ _ _ _ aA,_,rfl,_,rfl,_,rfl,M.L,ds,wa,n,day,wt,d,rfl,W0.fk,hl,d0,d1,w0,w1,hd,hdd,hv,fun H2 F2 T2 R2=>?_⟩;have W2:=W0.folk F2 T2 R2;obtain⟨dm2,obm2⟩:=W2.ob;obtain⟨vs,e1,_,e2⟩:=(W2.ls (M.ld,m.deeds) (by simp[Mo.at_])).get;dsimp only at e1 e2;refine⟨_,rfl,M.p,CM,dm2,_,_,rfl,obm2,Tm.cl,Tm.nd,V0 _,.inl ⟨rfl,_,ZF.of e1⟩,_,rfl,_,rfl,_,rfl,aB rfl,fun p hp=>?_⟩;refine nw (o:=.tup [.str "rise", .str n,.int day,.int wt]) hp fun H3 S3 kp=>?_;have W3:=W2.same S3;refine⟨M.ld,vs,.ref p,rfl,rfl,S3 _ _ e1,by lia,?_⟩;refine k _ _ ⟨M,wa,xs,qs,rfl,W3.deed (S3 _ _ e1) ⟨p,_,rfl,Y2 kp,⟨_,_,rfl,rfl,⟨_,_,rfl,rfl,⟨_,_,rfl,rfl,⟨_,_,rfl,rfl,rfl⟩⟩⟩⟩⟩,rfl⟩ ⟨fun b o e nb=>?_,fun b hb=>?_⟩
 ·rw[Ze (fun z:b=M.ld=>nb (z▸JP))];exact S3 _ _ (T2 b o e fun z=>nb (.inr (.inr (.inr (.inr z)))))
 ·exact WN.folk (xs:=xs) (qs:=qs) R2 b hb
def diD(n he:Str)(day:Int):D:=.tup [.str "die", .str n,.int day,.str he]
inductive TN(C CM:XW)(c:XR)(vs:aG)(H:Hp)(Q:VK)(E:XK):Prop
 |mk(p) (ds) (m) (O) (n he) (day)(_:vs = [.ref p,.str n,.int day,.str he])(_:YA C CM H p ds m O)(_:ds.length<=1000)(_:n.length<=100)(_:he.length<=100)(_:okI day)(_:Uh E c H (∀O' H',YA C CM H' p (ds ++ [.die n day he]) (m.told (diD n he day)) O'->YJ O H O' H'->Q .non H') ((AC ds n he day).or (Ys m)))
abbrev Gu:Stmt:=Yr (top 58) 3
theorem O9(Zic:ZR K CM "die" "Moot.die" Gu)(Tc:WC K C)(Tm:ZK K CM)(M_check_death:ZY P w K mg base C "check_death" 2 (JW C c))(M_die:Mt P w K mg base C "die" ["self","name","day","heir"] 3 (JY C))(MM_check_moments:ZY P w K mg base CM "check_moments" 1 (YM C CM c)):ZY P w K mg base CM "die" 4 (TN C CM c):=by
 refine Zic.mx ["self","name","day","heir"] ["self","name","day","heir"] fun H vs Q E hr h=>?_;obtain⟨_,ds,m,_,n,he,day,rfl,⟨M,wa,xs,qs,rfl,W0,rfl⟩,hl,ho,ho2,hi,k⟩:=h;refine⟨rfl,_,(Zc (Zj (Yj Z1 (Zx Q0) Tc.cl M_check_death (Za Q8 (Za Q9 (Za Qa Zb))))) (Zc (Zj (Ad Z1 Q0 Tm.cl MM_check_moments)) (Zc (Zj (Wc (Zx Q0) Tc.cl M_die (Za Q8 (Za Q9 (Za Qa Zb))))) (Zg (Zj (Y4 aD aE aF Wb (Zx Q0) (Za (Z9 (Za Z2 (Za Q8 (Za Q9 (Za Qa Zb))))) Zb))))))),?_⟩;have hz:=aC
 obtain⟨dm,obm⟩:=W0.ob;obtain⟨dx,ob⟩:=W0.fk.f.ob;refine⟨_,rfl,M.p,CM,dm,_,_,rfl,obm,Tm.cl,Tm.nf,Uc _,M.L.p,dx,_,rfl,ob,Yw _ _ _ _ aA,_,rfl,_,rfl,_,rfl,M.L,ds,n,he,day,rfl,W0.fk.f,ho,ho2,hi,?_⟩;cases ec:AC ds n he day with
 | some z=>rw[ec] at k;exact k H (ZA.refl H)
 | none =>
 rw[ec,xK] at k;refine⟨_,rfl,M.p,dm,_,rfl,obm,Yi _ aA,M,ds,wa,xs,m,qs,rfl,W0,?_⟩;cases em:Ys m with
 | some z=>rw[em] at k;exact k H (ZA.refl H)
 | none =>
 rw[em] at k;have hn4:=JL em;obtain⟨⟨d0,d1⟩,⟨d,hd,hdd⟩,⟨d2,hd2,hdd2⟩,hv,hv2,hne⟩:=OL ec;refine⟨_,rfl,M.p,CM,dm,_,_,rfl,obm,Tm.cl,Tm.nf,Uc _,M.L.p,dx,_,rfl,ob,Yw _ _ _ _ aA,_,rfl,_,rfl,_,rfl,M.L,ds,wa,n,he,day,d,d2,rfl,W0.fk,hl,d0,d1,hd,hdd,hd2,hdd2,hv,hv2,hne,fun H2 F2 T2 R2=>?_⟩;have W2:=W0.folk F2 T2 R2;obtain⟨dm2,obm2⟩:=W2.ob;obtain⟨vs,e1,_,e2⟩:=(W2.ls (M.ld,m.deeds) (by simp[Mo.at_])).get;dsimp only at e1 e2;refine⟨_,rfl,M.p,CM,dm2,_,_,rfl,obm2,Tm.cl,Tm.nd,V0 _,.inl ⟨rfl,_,ZF.of e1⟩,_,rfl,_,rfl,_,rfl,aB rfl,fun p hp=>?_⟩;refine nw (o:=.tup [.str "die", .str n,.int day,.str he]) hp fun H3 S3 kp=>?_;have W3:=W2.same S3;refine⟨M.ld,vs,.ref p,rfl,rfl,S3 _ _ e1,by lia,?_⟩;refine k _ _ ⟨M,wa,xs,qs,rfl,W3.deed (S3 _ _ e1) ⟨p,_,rfl,Y2 kp,⟨_,_,rfl,rfl,⟨_,_,rfl,rfl,⟨_,_,rfl,rfl,⟨_,_,rfl,rfl,rfl⟩⟩⟩⟩⟩,rfl⟩ ⟨fun b o e nb=>?_,fun b hb=>?_⟩
 ·rw[Ze (fun z:b=M.ld=>nb (z▸JP))];exact S3 _ _ (T2 b o e fun z=>nb (.inr (.inr (.inr (.inr z)))))
 ·exact WN.folk (xs:=xs) (qs:=qs) R2 b hb
theorem Yk(h1 : σ[i]? = some (some (.ref a)))(h2:H a=some (.tup us))(h3:atI us k=some v)(h:tr σ H fun vs H2=>Q (v::vs) H2):Ui (JJ (Jx K) (YI i) (tC (.int k))) tr σ H Q:=⟨_,h1,a,us,k,v,rfl,rfl,ZS.of h2,h3,h⟩
theorem JK{i:Nat}{w v:Str}{t u:TS}{D:YE}{σ:St}{H:Hp}(h1 : σ[i]? = some (some (.str v)))(h2:v≠w)(h:u D σ H):Ue (C6 (B3 (JJ CH (YI i) (tC (.str w)))) t Yy) u D σ H:=⟨_,h1,rfl,_,rfl,Zy (fun z=>absurd (by injection z) h2) (fun _=>h)⟩
theorem Jk{i:Nat}{w:Str}{t u:TS}{D:YE}{σ:St}{H:Hp}(h1 : σ[i]? = some (some (.str w)))(h:t {D with nx:=u D } σ H):Ue (C6 (B3 (JJ CH (YI i) (tC (.str w)))) t Yy) u D σ H:=⟨_,h1,rfl,_,rfl,Zy (fun _=>h) (fun z=>absurd rfl z)⟩
inductive CD where
 | wer (x y:Str) (many:Int) | clm (x:Str) (i:Int) | acc (i:Int) (n:Str)
def cdV(day need:Int)(l1 l2:XW):CD->List V
 | .wer x y many=>[.str "wergild", .str x,.str y,.int many,.int day,.int need,.ref l1,.ref l2]
 | .clm x i=>[.str "claim", .str x,.int i,.int day,.int need,.ref l1,.ref l2]
 | .acc i n=>[.str "accuse", .int i,.str n,.int day,.int need,.ref l1,.ref l2]
def cdOk:CD->Prop
 | .wer x y many=>x.length<=100/\y.length<=100/\okI many
 | .clm x i=>x.length<=100/\okI i
 | .acc i n=>n.length<=100/\okI i
def eCD(ds:List ZI)(m:Mo)(day need:Int)(f:Str->Int)(o1 o2:XO):CD->Option Str
 | .wer x y many=>AV ds m x y many day need f o1 o2
 | .clm x i=>BX ds m x i day need f o1 o2
 | .acc i n=>CQ ds m i n day need f o1 o2
def Mo.does(m:Mo)(day need:Int)(f:Str->Int)(o1 o2:XO):CD->Mo
 | .wer x y many=>m.owes x y many day need f o1 o2
 | .clm x i=>m.won x i.toNat day need f o1 o2
 | .acc i n=>m.acc i n day need f o1 o2
inductive SD where
 | come (n:Str) (day wt:Int) | rise (n:Str) (day wt:Int) | die (n he:Str) (day:Int) | pen (n:Str) | bring (n:Str) (day:Int) | give (i:Int) (x y:Str) (day:Int) | pay (x y:Str) (many day:Int)
def sdV:SD->List V
 | .come n day wt=>[.str "come", .str n,.int day,.int wt]
 | .rise n day wt=>[.str "rise", .str n,.int day,.int wt]
 | .die n he day=>[.str "die", .str n,.int day,.str he]
 | .pen n=>[.str "penance", .str n]
 | .bring n day=>[.str "bring", .str n,.int day]
 | .give i x y day=>[.str "give", .int i,.str x,.str y,.int day]
 | .pay x y many day=>[.str "pay", .str x,.str y,.int many,.int day]
def sdOk(ds:List ZI)(m:Mo):SD->Prop
 | .come n day wt=>ds.length<=1000/\okN n/\okI day/\okI wt
 | .rise n day wt=>ds.length<=1000/\n.length<=100/\okI day/\okI wt
 | .die n he day=>ds.length<=1000/\n.length<=100/\he.length<=100/\okI day
 | .pen n=>n.length<=100/\m.npen<=1000/\m.trials.length<=1000
 | .bring n day=>WS m/\n.length<=100/\okI day
 | .give i x y day=>WS m/\x.length<=100/\y.length<=100/\okI i/\okI day
 | .pay x y many day=>WS m/\x.length<=100/\y.length<=100/\okI many/\okI day
def eSD(ds:List ZI)(m:Mo):SD->Option Str
 | .come n day wt=>(Ur ds n day wt).or (Ys m)
 | .rise n day wt=>(JV ds n day wt).or (Ys m)
 | .die n he day=>(AC ds n he day).or (Ys m)
 | .pen n=>(We ds n).or ((JC ds n).or (Ys m))
 | .bring n day=>(eM 0 9999 day).or ((Wt ds m day [n] none none).or ((BY m).or (Ys m)))
 | .give i x y day=>(eM 0 9999 day).or ((Wt ds m day [x,y] (some i) none).or (Ys m))
 | .pay x y many day=>(eM 1 1000000 many).or ((eM 0 9999 day).or ((Wt ds m day [x,y] none none).or (Ys m)))
def sdF(ds:List ZI):SD->List ZI
 | .come n day wt=>ds ++ [.come n day wt]
 | .rise n day wt=>ds ++ [.rise n day wt]
 | .die n he day=>ds ++ [.die n day he]
 | _=>ds
def Mo.sd(m:Mo):SD->Mo
 | .come n day wt=>m.told (coD n day wt)
 | .rise n day wt=>m.told (riD n day wt)
 | .die n he day=>m.told (diD n he day)
 | .pen n=>m.pena n
 | .bring n day=>m.brg n day
 | .give i x y day=>m.give i.toNat x y day
 | .pay x y many day=>m.pay x y many day
def sdR(m:Mo):SD->V
 | .bring _ _=>.int m.brs.length
 | _=>.non
inductive YY(C CM:XW)(c:XR)(vs:aG)(H:Hp)(Q:VK)(E:XK):Prop
 |mk(p) (ds) (m) (O) (a) (d)(_:vs = [.ref p,.ref a])(_:YA C CM H p ds m O)(_:H a=some (.tup (sdV d)))(_:sdOk ds m d)(_:Uh E c H (∀O' H',YA C CM H' p (sdF ds d) (m.sd d) O'->YJ O H O' H'->Q (sdR m d) H') (eSD ds m d))
inductive YX(C CM:XW)(c:XR)(vs:aG)(H:Hp)(Q:VK)(E:XK):Prop
 |mk(p) (ds) (m) (O) (a) (d) (day need) (l1 l2) (o1 o2) (f)(_:vs = [.ref p,.ref a])(_:YA C CM H p ds m O)(_:H a=some (.tup (cdV day need l1 l2 d)))(_:Ab ds m H l1 l2 o1 o2 day need f)(_:¬O l1)(_:¬O l2)(_:cdOk d)(_:Uh E c H (∀O' H',YA C CM H' p ds (m.does day need f o1 o2 d) O'->YJ O H O' H'->Q (.int m.trials.length) H') (eCD ds m day need f o1 o2 d))
abbrev Eb:Stmt:=top 21
theorem Mr:ZL ["moot","deed","word"] ["moot","deed"] (Zm Eb):=fsc
theorem Nc(Zie:YB K mg "done" Eb)(Tm:ZK K CM)(er:Er K mg c errs)(MM_come:ZY P w K mg base CM "come" 4 (UW C CM c))(MM_rise:ZY P w K mg base CM "rise" 5 (Tg C CM c))(MM_die:ZY P w K mg base CM "die" 4 (TN C CM c))(MM_penance:ZY P w K mg base CM "penance" 2 (TC C CM c))(MM_bring:ZY P w K mg base CM "bring" 4 (UG C CM c))(MM_give:ZY P w K mg base CM "give" 4 (Tb C CM c))(MM_pay:ZY P w K mg base CM "pay" 4 (TH C CM c))(MM_claim:ZY P w K mg base CM "claim" 6 (UB C CM c))(MM_wergild:ZY P w K mg base CM "wergild" 6 (TX C CM c))(MM_accuse:ZY P w K mg base CM "accuse" 7 (Tw C CM c)):YT P w K mg base "done" 8 (Sp.or (YY C CM c) (YX C CM c)):=by
 refine Zie.fnX Mr (fun _ _ _ _ _ _=>al2 fun _ _=>rfl) (fun vs H Q E h=>?_) (fun f cdv A outer s H vs Q E hr h=>?_)
 ·rcases h with⟨p,ds,m,O,a,d,rfl,_⟩ | ⟨p,ds,m,O,a,d,day,need,l1,l2,o1,o2,f,rfl,_⟩<;>rfl
 ·refine⟨_,(Zc (Zv 2 (Zh Zs Q8 Zd (fun _ _=>rfl))) (Zc (Zp (Zq Yo Q9 Z2 (Zu _)) (Zg (Zw (Yj Z1 Q0 Tm.cl MM_come (Za (Zh Zs Q8 Zd (fun _ _=>rfl)) (Za (Zh Zs Q8 Zd (fun _ _=>rfl)) (Za (Zh Zs Q8 Zd (fun _ _=>rfl)) Zb)))))) Zo) (Zc (Zp (Zq Yo Q9 Z2 (Zu _)) (Zg (Zw (Yj Z1 Q0 Tm.cl MM_rise (Za (Zh Zs Q8 Zd (fun _ _=>rfl)) (Za (Zh Zs Q8 Zd (fun _ _=>rfl)) (Za (Zh Zs Q8 Zd (fun _ _=>rfl)) Zb)))))) Zo) (Zc (Zp (Zq Yo Q9 Z2 (Zu _)) (Zg (Zw (Yj Z1 Q0 Tm.cl MM_die (Za (Zh Zs Q8 Zd (fun _ _=>rfl)) (Za (Zh Zs Q8 Zd (fun _ _=>rfl)) (Za (Zh Zs Q8 Zd (fun _ _=>rfl)) Zb)))))) Zo) (Zc (Zp (Zq Yo Q9 Z2 (Zu _)) (Zg (Zw (Yj Z1 Q0 Tm.cl MM_penance (Za (Zh Zs Q8 Zd (fun _ _=>rfl)) Zb)))) Zo) (Zc (Zp (Zq Yo Q9 Z2 (Zu _)) (Zg (Zw (Yj Z1 Q0 Tm.cl MM_bring (Za (Zh Zs Q8 Zd (fun _ _=>rfl)) (Za (Zh Zs Q8 Zd (fun _ _=>rfl)) Zb))))) Zo) (Zc (Zp (Zq Yo Q9 Z2 (Zu _)) (Zg (Zw (Yj Z1 Q0 Tm.cl MM_give (Za (Zh Zs Q8 Zd (fun _ _=>rfl)) (Za (Zh Zs Q8 Zd (fun _ _=>rfl)) (Za (Zh Zs Q8 Zd (fun _ _=>rfl)) (Za (Zh Zs Q8 Zd (fun _ _=>rfl)) Zb))))))) Zo) (Zc (Zp (Zq Yo Q9 Z2 (Zu _)) (Zg (Zw (Yj Z1 Q0 Tm.cl MM_pay (Za (Zh Zs Q8 Zd (fun _ _=>rfl)) (Za (Zh Zs Q8 Zd (fun _ _=>rfl)) (Za (Zh Zs Q8 Zd (fun _ _=>rfl)) (Za (Zh Zs Q8 Zd (fun _ _=>rfl)) Zb))))))) Zo) (Zc (Zp (Zq Yo Q9 Z2 (Zu _)) (Zg (Zw (Yj Z1 Q0 Tm.cl MM_claim (Za (Zh Zs Q8 Zd (fun _ _=>rfl)) (Za (Zh Zs Q8 Zd (fun _ _=>rfl)) (Za (Zh Zs Q8 Zd (fun _ _=>rfl)) (Za (Zh Zs Q8 Zd (fun _ _=>rfl)) (Za (Zh Zs Q8 Zd (fun _ _=>rfl)) (Za (Zh Zs Q8 Zd (fun _ _=>rfl)) Zb))))))))) Zo) (Zc (Zp (Zq Yo Q9 Z2 (Zu _)) (Zg (Zw (Yj Z1 Q0 Tm.cl MM_wergild (Za (Zh Zs Q8 Zd (fun _ _=>rfl)) (Za (Zh Zs Q8 Zd (fun _ _=>rfl)) (Za (Zh Zs Q8 Zd (fun _ _=>rfl)) (Za (Zh Zs Q8 Zd (fun _ _=>rfl)) (Za (Zh Zs Q8 Zd (fun _ _=>rfl)) (Za (Zh Zs Q8 Zd (fun _ _=>rfl)) (Za (Zh Zs Q8 Zd (fun _ _=>rfl)) Zb)))))))))) Zo) (Zc (Zp (Zq Yo Q9 Z2 (Zu _)) (Zg (Zw (Yj Z1 Q0 Tm.cl MM_accuse (Za (Zh Zs Q8 Zd (fun _ _=>rfl)) (Za (Zh Zs Q8 Zd (fun _ _=>rfl)) (Za (Zh Zs Q8 Zd (fun _ _=>rfl)) (Za (Zh Zs Q8 Zd (fun _ _=>rfl)) (Za (Zh Zs Q8 Zd (fun _ _=>rfl)) (Za (Zh Zs Q8 Zd (fun _ _=>rfl)) Zb))))))))) Zo) (Zg (Wd Yz er (Wh (Y0 Q9 (Yq Wg)))))))))))))))),?_⟩;rcases h with⟨_,ds,m,_,a,d,rfl,⟨M,wa,xs,qs,rfl,W,rfl⟩,ha,hd,k⟩ | ⟨_,ds,m,_,a,d,day,need,l1,l2,o1,o2,f,rfl,⟨M,wa,xs,qs,rfl,W,rfl⟩,ha,cs,y1,y2,hd,k⟩
  ·obtain⟨dm,obm⟩:=W.ob;have mst:YA C CM H M.p ds m (mo M ds wa xs qs):=⟨M,wa,xs,qs,rfl,W,rfl⟩;cases d with
   | come n day wt =>
    refine⟨_,rfl,a,_,0,_,rfl,rfl,ZS.of ha,rfl,?_⟩;refine Z8 ?_;refine Jk rfl ?_;exact⟨_,rfl,M.p,dm,_,rfl,obm,Yi _ aA,Yk rfl ha rfl (Yk rfl ha rfl (Yk rfl ha rfl ⟨M.p,ds,m,_,n,day,wt,rfl,mst,hd.1,hd.2.1,hd.2.2.1,hd.2.2.2,k⟩))⟩
   | rise n day wt =>
    refine⟨_,rfl,a,_,0,_,rfl,rfl,ZS.of ha,rfl,?_⟩;refine Z8 ?_
    iterate 1 refine JK rfl aA ?_
    refine Jk rfl ?_;exact⟨_,rfl,M.p,dm,_,rfl,obm,Yi _ aA,Yk rfl ha rfl (Yk rfl ha rfl (Yk rfl ha rfl ⟨M.p,ds,m,_,n,day,wt,rfl,mst,hd.1,hd.2.1,hd.2.2.1,hd.2.2.2,k⟩))⟩
   | die n he day =>
    refine⟨_,rfl,a,_,0,_,rfl,rfl,ZS.of ha,rfl,?_⟩;refine Z8 ?_
    iterate 2 refine JK rfl aA ?_
    refine Jk rfl ?_;exact⟨_,rfl,M.p,dm,_,rfl,obm,Yi _ aA,Yk rfl ha rfl (Yk rfl ha rfl (Yk rfl ha rfl ⟨M.p,ds,m,_,n,he,day,rfl,mst,hd.1,hd.2.1,hd.2.2.1,hd.2.2.2,k⟩))⟩
   | pen n =>
    refine⟨_,rfl,a,_,0,_,rfl,rfl,ZS.of ha,rfl,?_⟩;refine Z8 ?_
    iterate 3 refine JK rfl aA ?_
    refine Jk rfl ?_;exact⟨_,rfl,M.p,dm,_,rfl,obm,Yi _ aA,Yk rfl ha rfl ⟨M.p,ds,m,_,n,rfl,mst,hd.1,hd.2.1,hd.2.2,k⟩⟩
   | bring n day =>
    refine⟨_,rfl,a,_,0,_,rfl,rfl,ZS.of ha,rfl,?_⟩;refine Z8 ?_
    iterate 4 refine JK rfl aA ?_
    refine Jk rfl ?_;exact⟨_,rfl,M.p,dm,_,rfl,obm,Yi _ aA,Yk rfl ha rfl (Yk rfl ha rfl ⟨M.p,ds,m,_,n,day,rfl,mst,hd.1,hd.2.1,hd.2.2,k⟩)⟩
   | give i x y day =>
    refine⟨_,rfl,a,_,0,_,rfl,rfl,ZS.of ha,rfl,?_⟩;refine Z8 ?_
    iterate 5 refine JK rfl aA ?_
    refine Jk rfl ?_;exact⟨_,rfl,M.p,dm,_,rfl,obm,Yi _ aA,Yk rfl ha rfl (Yk rfl ha rfl (Yk rfl ha rfl (Yk rfl ha rfl ⟨M.p,ds,m,_,i,x,y,day,rfl,mst,hd.1,hd.2.1,hd.2.2.1,hd.2.2.2.1,hd.2.2.2.2,k⟩)))⟩
   | pay x y many day =>
    refine⟨_,rfl,a,_,0,_,rfl,rfl,ZS.of ha,rfl,?_⟩;refine Z8 ?_
    iterate 6 refine JK rfl aA ?_
    refine Jk rfl ?_;exact⟨_,rfl,M.p,dm,_,rfl,obm,Yi _ aA,Yk rfl ha rfl (Yk rfl ha rfl (Yk rfl ha rfl (Yk rfl ha rfl ⟨M.p,ds,m,_,x,y,many,day,rfl,mst,hd.1,hd.2.1,hd.2.2.1,hd.2.2.2.1,hd.2.2.2.2,k⟩)))⟩
  ·obtain⟨dm,obm⟩:=W.ob;have mst:YA C CM H M.p ds m (mo M ds wa xs qs):=⟨M,wa,xs,qs,rfl,W,rfl⟩;cases d with
   | clm x i =>
    refine⟨_,rfl,a,_,0,_,rfl,rfl,ZS.of ha,rfl,?_⟩;refine Z8 ?_
    iterate 7 refine JK rfl aA ?_
    refine Jk rfl ?_;exact⟨_,rfl,M.p,dm,_,rfl,obm,Yi _ aA,Yk rfl ha rfl (Yk rfl ha rfl (Yk rfl ha rfl (Yk rfl ha rfl (Yk rfl ha rfl (Yk rfl ha rfl ⟨M.p,ds,m,_,x,i,day,need,l1,l2,o1,o2,f,rfl,mst,cs,y1,y2,hd.1,hd.2,k⟩)))))⟩
   | wer x y many =>
    refine⟨_,rfl,a,_,0,_,rfl,rfl,ZS.of ha,rfl,?_⟩;refine Z8 ?_
    iterate 8 refine JK rfl aA ?_
    refine Jk rfl ?_;exact⟨_,rfl,M.p,dm,_,rfl,obm,Yi _ aA,Yk rfl ha rfl (Yk rfl ha rfl (Yk rfl ha rfl (Yk rfl ha rfl (Yk rfl ha rfl (Yk rfl ha rfl (Yk rfl ha rfl ⟨M.p,ds,m,_,x,y,many,day,need,l1,l2,o1,o2,f,rfl,mst,cs,y1,y2,hd.1,hd.2.1,hd.2.2,k⟩))))))⟩
   | acc i n =>
    refine⟨_,rfl,a,_,0,_,rfl,rfl,ZS.of ha,rfl,?_⟩;refine Z8 ?_
    iterate 9 refine JK rfl aA ?_
    refine Jk rfl ?_;exact⟨_,rfl,M.p,dm,_,rfl,obm,Yi _ aA,Yk rfl ha rfl (Yk rfl ha rfl (Yk rfl ha rfl (Yk rfl ha rfl (Yk rfl ha rfl (Yk rfl ha rfl ⟨M.p,ds,m,_,i,n,day,need,l1,l2,o1,o2,f,rfl,mst,cs,y1,y2,hd.1,hd.2,k⟩)))))⟩
end
theorem YA.there(h:YA C CM H p ds m O)(hb:O b):∃o,H b=some o:=by
 obtain⟨M,wa,xs,qs,_,W,rfl⟩:=h;exact W.there hb
theorem YA.out(h:YA C CM H p ds m O)(e:H b=none):¬O b:=fun z=>by
 obtain⟨o,e'⟩:=h.there z;rw[e] at e';cases e'
section
variable{C CM:XW}
theorem Yt{t u:TS}{D:YE}{σ:St}{H:Hp}(h:∀D':YE,(∀ σ' H',u D σ' H'->D'.nx σ' H')->t D' σ H):Ue t u D σ H:=h {D with nx:=u D } fun _ _ h=>h
theorem ini(hp:H p=some (.ins CM dx fs))(hl:H l=none):(upd (upd H l y) p (.ins CM dx fs')) p=some (.ins CM dx fs')/\(upd (upd H l y) p (.ins CM dx fs')) l=some y/\(∀b o,H b=some o->b≠p->(upd (upd H l y) p (.ins CM dx fs')) b=some o)/\p≠l:=by
 have n:p≠l:=Zl hp hl;exact⟨Zi,by rw[Ze n.symm,Zi],fun b o e nb=>by rw[Ze nb,Ze (Zl e hl)];exact e,n⟩
theorem JS{N:Hp->Prop}{H:Hp}{p l dx:XW}{fs:List (Str×V)}{nm:Str}{y:HO}{k:Nat}(hp:H p=some (.ins CM dx fs))(hl:H l=none)(hb:fs.length<=k)(h:∀H1 f1,Zr nm (.ref l) fs=f1->f1.length<=k+1->H1 p=some (.ins CM dx f1)->H1 l=some y->(∀b o,H b=some o->b≠p->H1 b=some o)->N H1):N (upd (upd H l y) p (.ins CM dx (Zr nm (.ref l) fs))) :=
 have i:=ini (fs':=Zr nm (.ref l) fs) (y:=y) hp hl
 h _ _ rfl (yC (Ag ..) (by lia)) i.1 i.2.1 i.2.2.1
def mo0:Mo:=⟨[],[],[],[],[],[],[],fun _=>none,0⟩
inductive VM(C CM:XW)(vs:aG)(H:Hp)(Q:VK)(z3:XK):Prop
 |mk(p dx)(_:vs = [.ref p])(_:H p=some (.ins CM dx []))(_:∀M H',M.p=p->ZC C CM H' M [] (fun _=>0) [] mo0 []->(∀b o,H b=some o->b≠p->H' b=some o)->(∀b,mo M [] (fun _=>0) [] [] b->b=p\/H b=none)->Q .non H')
abbrev Ku:Stmt:=Yr (top 58) 0
theorem MI(Zif:ZR K CM "__init__" "Moot.__init__" Ku)(Tm:ZK K CM)(M_Folk:BD P w K mg base C "Folk" 1 (Tu C)):Mt P w K mg base CM "__init__" ["self"] 3 (VM C CM):=by
 refine Zif.mq ["self"] fun H vs Q E hr h=>?_;obtain⟨p,dx,rfl,hp,k⟩:=h;refine⟨rfl,_,(Zc (Vu Q0 (Yl Zb)) (Zc (Vu Q0 (Eh M_Folk)) (Zc (Vu Q0 (Yl Zb)) (Zc (Vu Q0 (Yl Zb)) (Zc (Vu Q0 (Yl Zb)) (Zc (Vu Q0 (Yl Zb)) (Zc (Vu Q0 (Yl Zb)) (Zc (Vu Q0 (Yl Zb)) (Zg (Vu Q0 Bm)))))))))),?_⟩;have hz:=aC
 refine Yt fun D1 hn1=>?_;refine⟨aB rfl,fun ld hld=>?_⟩;have pld:p≠ld:=Zl hp hld;refine⟨_,rfl,p,CM,dx,[],rfl,(by rw[Ze pld];exact hp),Tm.cl,Tm.nd,(yT (xD 0) aA),JS (k:=0) hp hld (xD 0) fun H1 f1 g1 l1 i1p i1l i1k=>hn1 _ _ ?_⟩;refine Yt fun D2 hn2=>?_;intro x dx2 nx ndx nex;have px:p≠x:=Zl i1p nx;have pdx:p≠dx2:=Zl i1p ndx;refine⟨x,dx2,rfl,Zi,fun L H2a eL F2 kp fr=>⟨rfl,?_⟩⟩;subst eL;have sm2:ZA H1 H2a:=fun b o e=>kp b o (by rw[Ze (Zl e nx),Ze (Zl e ndx)];exact e) (Zl e nx);have fr2:∀b,b=L.dc\/b=L.dw\/b=L.dd\/b=L.dh->H1 b=none:=fun b hb=>by
  have:=fr b hb
  by_cases c:b=L.p
  ·rw[c];exact nx
  ·rw[Ze c] at this
   by_cases c2:b=dx2
   ·rw[c2];exact ndx
   ·rw[Ze c2] at this;exact this
 have i2p0:=sm2 _ _ i1p;have K2:Fk C H2a L [] (fun _=>0):=by
  obtain⟨kv,w1,w2⟩:=F2.w;exact⟨F2,WQ.start F2,kv,w1,fun p hp=>by rw[List.eq_nil_of_length_eq_zero (Nat.le_zero.mp w2)] at hp;cases hp⟩
 refine⟨_,rfl,p,CM,dx,f1,rfl,i2p0,Tm.cl,Tm.nf,(yT l1 aA),hn2 _ _ ?_⟩;have l2:(Zr "folk" (V.ref L.p) f1).length<=2:=yC (Ag ..) (by lia);generalize g2:Zr "folk" (V.ref L.p) f1=f2 at l2 ⊢;have i2p:(upd H2a p (.ins CM dx f2)) p=some (.ins CM dx f2):=Zi;have i2k:∀b o,H2a b=some o->b≠p->(upd H2a p (.ins CM dx f2)) b=some o:=fun b o e nb=>by rw[Ze nb];exact e
 generalize (upd H2a p (.ins CM dx f2))=H2 at i2p i2k ⊢;refine Yt fun D3 hn3=>?_;refine⟨aB rfl,fun lb hlb=>?_⟩;have plb:p≠lb:=Zl i2p hlb;refine⟨_,rfl,p,CM,dx,f2,rfl,(by rw[Ze plb];exact i2p),Tm.cl,Tm.nb,(yT l2 aA),JS (k:=2) i2p hlb l2 fun H3 f3 g3 l3 i3p i3l i3k=>hn3 _ _ ?_⟩;refine Yt fun D4 hn4=>?_;refine⟨aB rfl,fun lh hlh=>?_⟩;have plh:p≠lh:=Zl i3p hlh;refine⟨_,rfl,p,CM,dx,f3,rfl,(by rw[Ze plh];exact i3p),Tm.cl,Tm.nh,(yT l3 aA),JS (k:=3) i3p hlh l3 fun H4 f4 g4 l4 i4p i4l i4k=>hn4 _ _ ?_⟩;refine Yt fun D5 hn5=>?_;refine⟨aB rfl,fun lq hlq=>?_⟩;have plq:p≠lq:=Zl i4p hlq;refine⟨_,rfl,p,CM,dx,f4,rfl,(by rw[Ze plq];exact i4p),Tm.cl,Tm.nq,(yT l4 aA),JS (k:=4) i4p hlq l4 fun H5 f5 g5 l5 i5p i5l i5k=>hn5 _ _ ?_⟩;refine Yt fun D6 hn6=>?_;refine⟨aB rfl,fun lt hlt=>?_⟩;have plt:p≠lt:=Zl i5p hlt;refine⟨_,rfl,p,CM,dx,f5,rfl,(by rw[Ze plt];exact i5p),Tm.cl,Tm.nt,(yT l5 aA),JS (k:=5) i5p hlt l5 fun H6 f6 g6 l6 i6p i6l i6k=>hn6 _ _ ?_⟩;refine Yt fun D7 hn7=>?_;refine⟨aB rfl,fun ly hly=>?_⟩;have ply:p≠ly:=Zl i6p hly;refine⟨_,rfl,p,CM,dx,f6,rfl,(by rw[Ze ply];exact i6p),Tm.cl,Tm.ny,(yT l6 aA),JS (k:=6) i6p hly l6 fun H7 f7 g7 l7 i7p i7l i7k=>hn7 _ _ ?_⟩;refine Yt fun D8 hn8=>?_;refine⟨aB rfl,fun lv hlv=>?_⟩;have plv:p≠lv:=Zl i7p hlv;refine⟨_,rfl,p,CM,dx,f7,rfl,(by rw[Ze plv];exact i7p),Tm.cl,Tm.nv,(yT l7 aA),JS (k:=7) i7p hlv l7 fun H8 f8 g8 l8 i8p i8l i8k=>hn8 _ _ ?_⟩;intro dp hdp;have pdp:p≠dp:=Zl i8p hdp;refine⟨_,rfl,p,CM,dx,f8,rfl,(by rw[Ze pdp];exact i8p),Tm.cl,Tm.np,(yT l8 aA),JS (k:=8) i8p hdp l8 fun H9 f9 g9 l9 i9p i9l i9k=>?_⟩;have k1:=i1k;have k2:∀b o,H b=some o->b≠p->H2 b=some o:=fun b o e n=>i2k b o (sm2 b o (k1 b o e n)) n;have k3:∀b o,H b=some o->b≠p->H3 b=some o:=fun b o e n=>i3k b o (k2 b o e n) n;have k4:∀b o,H b=some o->b≠p->H4 b=some o:=fun b o e n=>i4k b o (k3 b o e n) n;have k5:∀b o,H b=some o->b≠p->H5 b=some o:=fun b o e n=>i5k b o (k4 b o e n) n;have k6:∀b o,H b=some o->b≠p->H6 b=some o:=fun b o e n=>i6k b o (k5 b o e n) n;have k7:∀b o,H b=some o->b≠p->H7 b=some o:=fun b o e n=>i7k b o (k6 b o e n) n;have k8:∀b o,H b=some o->b≠p->H8 b=some o:=fun b o e n=>i8k b o (k7 b o e n) n;have k9:∀b o,H b=some o->b≠p->H9 b=some o:=fun b o e n=>i9k b o (k8 b o e n) n;have q2:=i2k;have q3:∀b o,H2a b=some o->b≠p->H3 b=some o:=fun b o e n=>i3k b o (q2 b o e n) n;have q4:∀b o,H2a b=some o->b≠p->H4 b=some o:=fun b o e n=>i4k b o (q3 b o e n) n;have q5:∀b o,H2a b=some o->b≠p->H5 b=some o:=fun b o e n=>i5k b o (q4 b o e n) n;have q6:∀b o,H2a b=some o->b≠p->H6 b=some o:=fun b o e n=>i6k b o (q5 b o e n) n;have q7:∀b o,H2a b=some o->b≠p->H7 b=some o:=fun b o e n=>i7k b o (q6 b o e n) n;have q8:∀b o,H2a b=some o->b≠p->H8 b=some o:=fun b o e n=>i8k b o (q7 b o e n) n;have q9:∀b o,H2a b=some o->b≠p->H9 b=some o:=fun b o e n=>i9k b o (q8 b o e n) n;have eld:H9 ld=some (.lst []):=(i9k _ _ (i8k _ _ (i7k _ _ (i6k _ _ (i5k _ _ (i4k _ _ (i3k _ _ (i2k _ _ (sm2 _ _ i1l) pld.symm) pld.symm) pld.symm) pld.symm) pld.symm) pld.symm) pld.symm) pld.symm);have zld:H ld=none:=hld;have elb:H9 lb=some (.lst []):=(i9k _ _ (i8k _ _ (i7k _ _ (i6k _ _ (i5k _ _ (i4k _ _ i3l plb.symm) plb.symm) plb.symm) plb.symm) plb.symm) plb.symm);have zlb:H lb=none:=by
  cases eb:H lb with
  | none=>rfl
  | some o=>have:=k2 _ _ eb plb.symm;rw[hlb] at this;cases this
 have elh:H9 lh=some (.lst []):=(i9k _ _ (i8k _ _ (i7k _ _ (i6k _ _ (i5k _ _ i4l plh.symm) plh.symm) plh.symm) plh.symm) plh.symm);have zlh:H lh=none:=by
  cases eb:H lh with
  | none=>rfl
  | some o=>have:=k3 _ _ eb plh.symm;rw[hlh] at this;cases this
 have elq:H9 lq=some (.lst []):=(i9k _ _ (i8k _ _ (i7k _ _ (i6k _ _ i5l plq.symm) plq.symm) plq.symm) plq.symm);have zlq:H lq=none:=by
  cases eb:H lq with
  | none=>rfl
  | some o=>have:=k4 _ _ eb plq.symm;rw[hlq] at this;cases this
 have elt:H9 lt=some (.lst []):=(i9k _ _ (i8k _ _ (i7k _ _ i6l plt.symm) plt.symm) plt.symm);have zlt:H lt=none:=by
  cases eb:H lt with
  | none=>rfl
  | some o=>have:=k5 _ _ eb plt.symm;rw[hlt] at this;cases this
 have ely:H9 ly=some (.lst []):=(i9k _ _ (i8k _ _ i7l ply.symm) ply.symm);have zly:H ly=none:=by
  cases eb:H ly with
  | none=>rfl
  | some o=>have:=k6 _ _ eb ply.symm;rw[hly] at this;cases this
 have elv:H9 lv=some (.lst []):=(i9k _ _ i8l plv.symm);have zlv:H lv=none:=by
  cases eb:H lv with
  | none=>rfl
  | some o=>have:=k7 _ _ eb plv.symm;rw[hlv] at this;cases this
 have edp:H9 dp=some (.dK []):=i9l;have zdp:H dp=none:=by
  cases eb:H dp with
  | none=>rfl
  | some o=>have:=k8 _ _ eb pdp.symm;rw[hdp] at this;cases this
 have nldlb:ld≠lb:=Zl (i2k _ _ (sm2 _ _ i1l) pld.symm) hlb;have nldlh:ld≠lh:=Zl (i3k _ _ (i2k _ _ (sm2 _ _ i1l) pld.symm) pld.symm) hlh;have nldlq:ld≠lq:=Zl (i4k _ _ (i3k _ _ (i2k _ _ (sm2 _ _ i1l) pld.symm) pld.symm) pld.symm) hlq;have nldlt:ld≠lt:=Zl (i5k _ _ (i4k _ _ (i3k _ _ (i2k _ _ (sm2 _ _ i1l) pld.symm) pld.symm) pld.symm) pld.symm) hlt;have nldly:ld≠ly:=Zl (i6k _ _ (i5k _ _ (i4k _ _ (i3k _ _ (i2k _ _ (sm2 _ _ i1l) pld.symm) pld.symm) pld.symm) pld.symm) pld.symm) hly;have nldlv:ld≠lv:=Zl (i7k _ _ (i6k _ _ (i5k _ _ (i4k _ _ (i3k _ _ (i2k _ _ (sm2 _ _ i1l) pld.symm) pld.symm) pld.symm) pld.symm) pld.symm) pld.symm) hlv;have nlblh:lb≠lh:=Zl i3l hlh;have nlblq:lb≠lq:=Zl (i4k _ _ i3l plb.symm) hlq;have nlblt:lb≠lt:=Zl (i5k _ _ (i4k _ _ i3l plb.symm) plb.symm) hlt;have nlbly:lb≠ly:=Zl (i6k _ _ (i5k _ _ (i4k _ _ i3l plb.symm) plb.symm) plb.symm) hly;have nlblv:lb≠lv:=Zl (i7k _ _ (i6k _ _ (i5k _ _ (i4k _ _ i3l plb.symm) plb.symm) plb.symm) plb.symm) hlv;have nlhlq:lh≠lq:=Zl i4l hlq;have nlhlt:lh≠lt:=Zl (i5k _ _ i4l plh.symm) hlt;have nlhly:lh≠ly:=Zl (i6k _ _ (i5k _ _ i4l plh.symm) plh.symm) hly;have nlhlv:lh≠lv:=Zl (i7k _ _ (i6k _ _ (i5k _ _ i4l plh.symm) plh.symm) plh.symm) hlv;have nlqlt:lq≠lt:=Zl i5l hlt;have nlqly:lq≠ly:=Zl (i6k _ _ i5l plq.symm) hly;have nlqlv:lq≠lv:=Zl (i7k _ _ (i6k _ _ i5l plq.symm) plq.symm) hlv;have nltly:lt≠ly:=Zl i6l hly;have nltlv:lt≠lv:=Zl (i7k _ _ i6l plt.symm) hlv;have nlylv:ly≠lv:=Zl i7l hlv;have pl:¬own L [] (fun _=>0) p:=fun z=>by
  rcases z with z | z | z | z | z | ⟨n,l,e,z⟩
  ·exact px z
  ·have:=fr2 p (.inl z);rw[i1p] at this;cases this
  ·have:=fr2 p (.inr (.inl z));rw[i1p] at this;cases this
  ·have:=fr2 p (.inr (.inr (.inl z)));rw[i1p] at this;cases this
  ·have:=fr2 p (.inr (.inr (.inr z)));rw[i1p] at this;cases this
  ·cases e
 have K9:Fk C H9 L [] (fun _=>0):=K2.at fun b o hb e=>q9 b o e fun z=>pl (z▸hb);have h1n:∀b,H1 b=none->b≠p->H b=none:=fun b hb n=>by
  cases eb:H b with
  | none=>rfl
  | some o=>have:=k1 _ _ eb n;rw[hb] at this;cases this
 have i9p:H9 p=some (.ins CM dx _):=i9p.trans (congrArg (fun f=>some (HO.ins CM dx f)) (g9.symm.trans (congrArg (Zr _ _) (g8.symm.trans (congrArg (Zr _ _) (g7.symm.trans (congrArg (Zr _ _) (g6.symm.trans (congrArg (Zr _ _) (g5.symm.trans (congrArg (Zr _ _) (g4.symm.trans (congrArg (Zr _ _) (g3.symm.trans (congrArg (Zr _ _) (g2.symm.trans (congrArg (Zr _ _) g1.symm)))))))))))))))));have ndp:¬own L [] (fun _=>0) dp:=fun z=>by
  obtain⟨o,e,_⟩:=K2.there z;have:=q8 _ _ e pdp.symm;rw[hdp] at this;cases this
 refine k ⟨p,L,ld,lb,lh,lq,lt,ly,lv,dp⟩ H9 rfl ⟨⟨dx,i9p⟩,K9,fun q hq=>?_,elh,rfl,⟨[],edp,xD _,fun _=>rfl⟩,?_,(fun _ z=>nomatch z),(fun _ z=>nomatch z),px,ndp⟩ k9 (fun b hb=>?_)
 ·simp only[Mo.at_,mo0,xC,List.zip_nil_left,xU,or_false] at hq;rcases hq with rfl | rfl | rfl | rfl | rfl | rfl
  ·exact⟨[],eld,rfl⟩
  ·exact⟨[],elb,rfl⟩
  ·exact⟨[],elq,rfl⟩
  ·exact⟨[],elt,rfl⟩
  ·exact⟨[],ely,rfl⟩
  ·exact⟨[],elv,rfl⟩
 ·simp only[ML.ls,yD,yG,xC,xU,or_false,not_or,not_false_eq_true,List.nodup_nil,and_true];exact⟨⟨Ne.symm nldlh,Ne.symm nlblh,nlhlq,nlhlt,nlhly,nlhlv⟩,⟨nldlb,nldlq,nldlt,nldly,nldlv⟩,⟨nlblq,nlblt,nlbly,nlblv⟩,⟨nlqlt,nlqly,nlqlv⟩,⟨nltly,nltlv⟩,nlylv⟩
 ·rcases hb with z | z | z | z | z
  ·exact .inl z
  ·rw[z];exact .inr zdp
  ·simp only[ML.ls,yD,xC,xU,or_false] at z;rcases z with rfl | rfl | rfl | rfl | rfl | rfl | rfl<;>exact .inr (by assumption)
  ·cases z
  ·have ne:b≠p:=fun y=>pl (y▸z);refine .inr ?_;rcases z with z | z | z | z | z | ⟨n,l,e,z⟩
   ·exact h1n b (by rw[z];exact nx) ne
   ·exact h1n b (fr2 b (.inl z)) ne
   ·exact h1n b (fr2 b (.inr (.inl z))) ne
   ·exact h1n b (fr2 b (.inr (.inr (.inl z)))) ne
   ·exact h1n b (fr2 b (.inr (.inr (.inr z)))) ne
   ·cases e
end
inductive AD where
 | s (d:SD) | c (d:CD) (day need:Int) (o1 o2:XO) (f:Str->Int)
abbrev V2:=List ZI×Mo
def Vx(s:V2):AD->V2
 | .s d=>(sdF s.1 d,s.2.sd d)
 | .c d day need o1 o2 f=>(s.1,s.2.does day need f o1 o2 d)
def Zf(as:List AD):V2:=as.foldl Vx ([],mo0)
def sdD:SD->D
 | .come n day wt=>coD n day wt
 | .rise n day wt=>riD n day wt
 | .die n he day=>diD n he day
 | .pen n=>.tup [.str "penance", .str n]
 | .bring n day=>Iu n day
 | .give i x y day=>gvD i.toNat x y day
 | .pay x y many day=>pyD x y many day
def cdD(day need:Int)(o1 o2:XO):CD->D
 | .wer x y many=>weD x y many day need o1 o2
 | .clm x i=>clD x i.toNat day need o1 o2
 | .acc i n=>acD i n day need o1 o2
def adD:AD->D
 | .s d=>sdD d
 | .c d day need o1 o2 _=>cdD day need o1 o2 d
def E1:SD->Prop
 | .give i _ _ _=>0<=i
 | _=>True
def ES:CD->Prop
 | .clm _ i=>0<=i
 | _=>True
def IJ(s:V2):AD->Prop
 | .s d=>sdOk s.1 s.2 d/\eSD s.1 s.2 d=none/\E1 d
 | .c d day need o1 o2 f=>cdOk d/\WS s.2/\s.1.length<=1000/\o1.length<=60/\o2.length<=60/\okI day/\okI need/\(∀n∈o1++o2,n.length<=100/\∀d,Zn s.1 n=some d->d<=day->A4 (kw s.1 n) day (f n)/\1<=f n/\f n<=1000)/\eCD s.1 s.2 day need f o1 o2 d=none/\ES d
def Th(as:List AD):Prop:=as.length<=400/\∀i a,as[i]? = some a->IJ (Zf (as.take i)) a
theorem On(s:V2)(a:AD):(Vx s a).2.deeds=s.2.deeds ++ [adD a]:=by
 cases a with
 | s d=>cases d<;>rfl
 | c d day need o1 o2 f=>cases d<;>rfl
theorem Ir:∀(as:List AD)(s:V2),(as.foldl Vx s).2.deeds=s.2.deeds++as.map adD
 | [],s=>by simp
 | a::as,s=>by
  rw[zJ,Ir as,yL,On,yW];rfl
theorem GQ(as:List AD):(Zf as).2.deeds=as.map adD:=by unfold Zf;rw[Ir];rfl
theorem Jh(as:List AD)(a:AD):Zf (as ++ [a])=Vx (Zf as) a:=by unfold Zf;rw[zT];rfl
theorem AQ(as:List AD):(Zf as).2.deeds.length=as.length:=by rw[GQ,xA]
theorem Th.snoc(h:Th as)(hl:as.length < 400)(g:IJ (Zf as) a):Th (as ++ [a]):=by
 refine⟨by rw[xF];show as.length+1<=400;lia,fun i p hp=>?_⟩;rcases Nat.lt_or_ge i as.length with z | z
 ·rw[zV z] at hp;rw[List.take_append_of_le_length (zD z)];exact h.2 i p hp
 ·grind
def scD:D->Bool
 | .str _=>true
 | .int _=>true
 | .non=>true
 | .bl _=>true
 | _=>false
theorem K3(h:scD d=true):isI d "list" = false:=by cases d<;>first | rfl | cases h
theorem OJ(h:scD d=true)(a:YC H d u)(b:YC H' d v):v=u:=by
 cases d<;>first | (cases h;done) | (cases a;cases b;rfl)
theorem CB:∀{ds:List D}{us vs:aG},(∀d∈ds,scD d=true)->ZP H ds us->ZP H' ds vs->vs=us
 | [],_,_,_,a,b=>by cases a;cases b;rfl
 | d::ds,_,_,h,⟨_,_,rfl,a,a'⟩,⟨_,_,rfl,b,b'⟩=>by rw[OJ (h d xY) a b,CB (fun x hx=>h x (xN _ hx)) a' b']
def sdP:SD->List D
 | .come n day wt=>[.str "come", .str n,.int day,.int wt]
 | .rise n day wt=>[.str "rise", .str n,.int day,.int wt]
 | .die n he day=>[.str "die", .str n,.int day,.str he]
 | .pen n=>[.str "penance", .str n]
 | .bring n day=>[.str "bring", .str n,.int day]
 | .give i x y day=>[.str "give", .int i,.str x,.str y,.int day]
 | .pay x y many day=>[.str "pay", .str x,.str y,.int many,.int day]
theorem BV(d:SD):∀x∈sdP d,scD x=true:=by cases d<;>simp[sdP,scD]
theorem Aj(H:Hp)(d:SD):ZP H (sdP d) (sdV d):=by cases d<;>simp[sdP,sdV,ZP,YC]
def cdP(day need:Int)(o1 o2:XO):CD->List D
 | .wer x y many=>[.str "wergild", .str x,.str y,.int many,.int day,.int need,.lst (o1.map D.str),.lst (o2.map D.str)]
 | .clm x i=>[.str "claim", .str x,.int i,.int day,.int need,.lst (o1.map D.str),.lst (o2.map D.str)]
 | .acc i n=>[.str "accuse", .int i,.str n,.int day,.int need,.lst (o1.map D.str),.lst (o2.map D.str)]
theorem Ci:∀{o:XO}{vs:aG},ZP H (o.map D.str) vs->vs=o.map V.str
 | [],_,h=>h
 | _::_,_,⟨_,_,e,rfl,h⟩=>by rw[e,Ci h];rfl
theorem DX(h:ZP H (cdP day need o1 o2 d) vs):∃l1 l2,vs=cdV day need l1 l2 d/\H l1=some (.lst (o1.map V.str))/\H l2=some (.lst (o2.map V.str)):=by
 have inv:∀{o:XO}{v:V},YC H (.lst (o.map D.str)) v->∃l,v = .ref l/\H l=some (.lst (o.map V.str)):=fun h=>by
  obtain⟨l,us,rfl,hl,hu⟩:=h;exact⟨l,rfl,by rw[hl,Ci hu]⟩
 cases d with
 | wer x y m =>
  obtain⟨_,_,rfl,rfl,⟨_,_,rfl,rfl,⟨_,_,rfl,rfl,⟨_,_,rfl,rfl,⟨_,_,rfl,rfl,⟨_,_,rfl,rfl,⟨_,_,rfl,r1,⟨_,_,rfl,r2,rfl⟩⟩⟩⟩⟩⟩⟩⟩:=h;obtain⟨l1,rfl,h1⟩:=inv r1;obtain⟨l2,rfl,h2⟩:=inv r2;exact⟨l1,l2,rfl,h1,h2⟩
 | clm x i =>
  obtain⟨_,_,rfl,rfl,⟨_,_,rfl,rfl,⟨_,_,rfl,rfl,⟨_,_,rfl,rfl,⟨_,_,rfl,rfl,⟨_,_,rfl,r1,⟨_,_,rfl,r2,rfl⟩⟩⟩⟩⟩⟩⟩:=h;obtain⟨l1,rfl,h1⟩:=inv r1;obtain⟨l2,rfl,h2⟩:=inv r2;exact⟨l1,l2,rfl,h1,h2⟩
 | acc i n =>
  obtain⟨_,_,rfl,rfl,⟨_,_,rfl,rfl,⟨_,_,rfl,rfl,⟨_,_,rfl,rfl,⟨_,_,rfl,rfl,⟨_,_,rfl,r1,⟨_,_,rfl,r2,rfl⟩⟩⟩⟩⟩⟩⟩:=h;obtain⟨l1,rfl,h1⟩:=inv r1;obtain⟨l2,rfl,h2⟩:=inv r2;exact⟨l1,l2,rfl,h1,h2⟩
theorem Og(h:YC H (sdD d) v)(z:E1 d):∃a,v = .ref a/\H a=some (.tup (sdV d)):=by
 have e:sdD d = .tup (sdP d):=by
  cases d with
  | give i x y day=>show D.tup [_,.int (i.toNat:Nat),_,_,_]=_;rw[Int.toNat_of_nonneg z];rfl
  | _=>rfl
 rw[e] at h;obtain⟨a,us,rfl,ha,hu⟩:=h;exact⟨a,rfl,by rw[ha,CB (BV d) (Aj H d) hu]⟩
theorem Nf(h:YC H (cdD day need o1 o2 d) v)(z:ES d):∃a l1 l2,v = .ref a/\H a=some (.tup (cdV day need l1 l2 d))/\H l1=some (.lst (o1.map V.str))/\H l2=some (.lst (o2.map V.str)):=by
 have e:cdD day need o1 o2 d = .tup (cdP day need o1 o2 d):=by
  cases d with
  | clm x i=>show D.tup [_,_,.int (i.toNat:Nat),_,_,_,_]=_;rw[Int.toNat_of_nonneg z];rfl
  | _=>rfl
 rw[e] at h;obtain⟨a,us,rfl,ha,hu⟩:=h;obtain⟨l1,l2,rfl,h1,h2⟩:=DX hu;exact⟨a,l1,l2,rfl,ha,h1,h2⟩
section
variable{C CM:XW}
def plD(d:D):Prop:=scD d=true\/∃o:List Str,d = .lst (o.map D.str)/\o.length<=60
inductive Tv(vs:aG)(H:Hp)(Q:VK)(z3:XK):Prop
 |mk(p) (us) (ds)(_:vs = [.ref p])(_:H p=some (.tup us))(_:ZP H ds us)(_:(∀d∈ds,plD d))(_:ds.length<=10)(_:∀q ys H',H q=none->H' q=some (.tup ys)->ZP H' ds ys->(∀l,V.ref l∈ys->H l=none)->ZA H H'->Q (.ref q) H')
abbrev HA:Stmt:=top 71
theorem Xv(Zig:YB K mg "_law_hand" HA)(T:Txt mg):Fn P w K mg base "_law_hand" ["_law_deed_here"] 1 Tv:=by
 refine Zig.fq ["_law_deed_here"] fun H vs Q E hr h=>?_;obtain⟨p,us,ds,rfl,hp,hr,hs,hl,k⟩:=h
 refine⟨rfl,_,(Zg (Zw (Tz LX T.tuple Xi (Za (Vz (locs:=["_law_part"]) (fr:=[]) ⟨rfl,aA,aA,aA,aA,aA⟩ .nil rfl (Hx Q0) ⟨fun _ _ _ _ _ _=>by
  have cnd:(inN ["_law_part"] []).Nodup:=aA
  exact⟨(Wn 0 cnd),U9,(Lj (Vd (Z5 Fp T.isinstance CV (Za (Y1 0) (Za (Cj (v:=.ty "list") T.list Uy rfl (n:=nmC)) Zb)) (n:=nmC))) (Tz Nw T.list Uy (Za (Y1 0) Zb) (n:=nmC)) (Y1 0))⟩⟩) Zb)))),?_⟩
 have hul:us.length=ds.length:=hr.length;have hz:=aC
 refine⟨_,rfl,p,rfl,⟨_,ZS.of hp⟩,?_⟩;refine Iz (xs:=us) (fun i ys H'=>ZA H H'/\ZP H' (ds.take i) ys/\∀l,V.ref l∈ys->H l=none) ⟨ZA.refl H,rfl,(fun l h=>nomatch h)⟩ (by lia) (fun i ys H' _ ⟨e,_⟩=>ZS.of (e _ _ hp)) (fun i ys H' ⟨_,e,_⟩=>by rw[e.length,xT];lia) ?_ ?_
 ·rintro i v ys H' hv ⟨S,r,fr⟩ ls hls;obtain⟨w0,rfl⟩:=Uu hls;obtain⟨d,hd,re⟩:=hr.get hv;have re:=YC.mono S _ _ re;obtain⟨t1,ty1,e1⟩:=isi (K:=K) re "list" aA;have et:ds.take (i+1)=ds.take i ++ [d]:=by rw[xW,hd];rfl
  rw[et];refine⟨⟨[_],rfl,rfl⟩,?_⟩;rcases hs d (xM hd) with z | ⟨o,rfl,ho⟩
  ·rw[K3 z] at e1;refine⟨_,rfl,v, "list", t1,_,rfl,ty1,e1,_,rfl,Z4 ⟨_,rfl,S,r.snoc re,fun l h=>?_⟩⟩;rcases xJ.mp h with h | h
   ·exact fr l h
   ·have:=xR.mp h;subst this;cases d<;>first | (cases z;done) | cases re
  ·obtain⟨l0,us0,rfl,h0,h1⟩:=id re;refine⟨_,rfl,.ref l0, "list", t1,_,rfl,ty1,e1,_,rfl,Z7 ⟨_,rfl,l0,_,rfl,.inl (ZF.of h0),fun q hq=>?_⟩⟩;have S2:=ZA.new (o:=.lst us0) hq;refine⟨S.trans S2,ZP.snoc (show YC _ (.lst (o.map D.str)) (.ref q) from⟨q,us0,rfl,Zi,ZP.mono S2 _ _ h1⟩) (ZP.mono S2 _ _ r),fun l h=>?_⟩;rcases xJ.mp h with h | h
   ·exact fr l h
   ·cases xR.mp h;exact S.free hq
 ·rintro ys H' ⟨S,r,fr⟩ l hl;rw[hul,xX] at r;refine nw (o:=.lst ys) hl fun H1 S1 k1=>?_;exact⟨l,_,rfl,.inl ⟨ZF.of k1,fun q hq=>k q ys _ ((S.trans S1).free hq) Zi (ZP.mono (S1.trans (ZA.new hq)) _ _ r) fr ((S.trans S1).trans (ZA.new hq))⟩⟩
theorem Qp(h1:o1.length<=60)(h2:o2.length<=60)(d:CD):∀x∈cdP day need o1 o2 d,plD x:=by
 have a:plD (.lst (o1.map D.str)):=.inr ⟨o1,rfl,h1⟩;have b:plD (.lst (o2.map D.str)):=.inr ⟨o2,rfl,h2⟩;have c:∀x,plD (.str x):=fun _=>.inl rfl;have e:∀x,plD (.int x):=fun _=>.inl rfl;cases d<;>simp[cdP,a,b,c,e]
theorem FS(h1:H l1=some (.lst (o1.map V.str)))(h2:H l2=some (.lst (o2.map V.str)))(d:CD):ZP H (cdP day need o1 o2 d) (cdV day need l1 l2 d):=by
 have a:YC H (.lst (o1.map D.str)) (.ref l1):=⟨l1,_,rfl,h1,Jd H o1⟩;have b:YC H (.lst (o2.map D.str)) (.ref l2):=⟨l2,_,rfl,h2,Jd H o2⟩;have t:ZP H [.lst (o1.map D.str),.lst (o2.map D.str)] [.ref l1,.ref l2]:=⟨_,_,rfl,a,⟨_,_,rfl,b,rfl⟩⟩;cases d
 ·exact⟨_,_,rfl,rfl,⟨_,_,rfl,rfl,⟨_,_,rfl,rfl,⟨_,_,rfl,rfl,⟨_,_,rfl,rfl,⟨_,_,rfl,rfl,t⟩⟩⟩⟩⟩⟩
 all_goals exact⟨_,_,rfl,rfl,⟨_,_,rfl,rfl,⟨_,_,rfl,rfl,⟨_,_,rfl,rfl,⟨_,_,rfl,rfl,t⟩⟩⟩⟩⟩
theorem YA.x(h:YA C CM H p ds m O)(hs:H s=some (.lst ys))(hn:¬O s)(k:ZE s H H'):YA C CM H' p ds m O:=by
 obtain⟨M,wa,xs,qs,e,W,rfl⟩:=h;exact⟨M,wa,xs,qs,e,W.x hs hn k,rfl⟩
def trd{α:Type _}(e:Option Str)(a b : α) : α:=match e with
 | none=>a
 | some _=>b
def EN(C CM:XW)(Q:V->Hp->Prop)(H:Hp)(p:XW)(O:XW->Prop)(ds':List ZI)(m':Mo)(tv:aG):Prop:=∀O' l H',YA C CM H' p ds' m' O'->YJ O H O' H'->¬O' l->H' l=some (.lst tv)->Q (.ref l) H'
inductive WJ(C CM:XW)(vs:aG)(H:Hp)(Q:VK)(z3:XK):Prop
 |mk(p) (ds) (m) (O) (a) (d)(_:vs = [.ref p,.ref a])(_:YA C CM H p ds m O)(_:H a=some (.tup (sdV d)))(_:sdOk ds m d)(_:(∀x,eSD ds m d=some x->x∈errs))(_:EN C CM Q H p O (trd (eSD ds m d) (sdF ds d) ds) (trd (eSD ds m d) (m.sd d) m) (trd (eSD ds m d) [sdR m d] []))
inductive WO(C CM:XW)(vs:aG)(H:Hp)(Q:VK)(z3:XK):Prop
 |mk(p) (ds) (m) (O) (a) (d) (day need) (l1 l2) (o1 o2) (f)(_:vs = [.ref p,.ref a])(_:YA C CM H p ds m O)(_:H a=some (.tup (cdV day need l1 l2 d)))(_:Ab ds m H l1 l2 o1 o2 day need f)(_:cdOk d)(_:(∀x,eCD ds m day need f o1 o2 d=some x->x∈errs))(_:EN C CM Q H p O ds (trd (eCD ds m day need f o1 o2 d) (m.does day need f o1 o2 d) m) (trd (eCD ds m day need f o1 o2 d) [.int m.trials.length] []))
abbrev Ej:Stmt:=top 72
theorem PZ:ZL ["_law_moot","_law_deed_here","_law_handed","_law_told","_law_part"] ["_law_moot","_law_deed_here"] (Zm Ej):=fsc
theorem Qg(Zii:YB K mg "_law_try" Ej)(T:Txt mg)(er:Er K mg c errs)(Zy9:Fn P w K mg base "_law_hand" ["_law_deed_here"] 1 Tv)(Zdp:YT P w K mg base "done" 8 (Sp.or (YY C CM c) (YX C CM c))):Fn P w K mg base "_law_try" ["_law_moot","_law_deed_here"] 9 (Sp.or (WJ C CM) (WO C CM)):=by
 refine Zii.fn0 PZ (fun _ _ _ _ _ _=>al2 fun _ _=>rfl) (fun vs H Q E h=>?_) (fun f cdv A outer s H vs Q E hr h=>?_)
 ·rcases h with⟨p,ds,m,O,a,d,rfl,_⟩ | ⟨p,ds,m,O,a,d,day,need,l1,l2,o1,o2,f,rfl,_⟩<;>rfl
 ·refine⟨_,(TM (QS.q0 (Zv 2 (Zk Zy9 (Za Q8 Zb)))) (TM (QS.q0 (Zv 3 (Yl Zb))) (TM (EC A5 (fun _ _ hx=>(Zg (Zv 3 (Yl (Za (Wr hx Zdp (Za Q0 (Za Q9 Zb))) Zb))))) (CI A5 (er.m) (fun _ _=>(Zg (Zv 3 (Yl Zb)))) Ez)) (TM (QS.q0 (Wq PassesOwn.never rfl (Y6 (Vz (locs:=["_law_part"]) (fr:=[]) ⟨rfl,aA,aA,aA,aA,aA⟩ .nil rfl (Hx Q9) ⟨fun _ _ _ _ _ _=>by
  have cnd:(inN ["_law_part"] []).Nodup:=aA
  exact⟨(Wn 0 cnd),(Ar (Vd (Z5 Fp T.isinstance CV (Za (Y1 0) (Za (Cj (v:=.ty "list") T.list Uy rfl (n:=nmC)) Zb)) (n:=nmC)))),(Y1 0)⟩⟩)) (Ye 4)
 (Zg (Zj (PP aD F.slot_list_clear F.type_list_clear Xr Qb)))))
 (TM (QS.q0 (Zw Qa))
 (WR.q0 Zo)))))),?_⟩
  have hz:=aC
  obtain⟨p,ds,m,O,a,us,ps,hvs,W,ha,hr0,hpl,hps,hk⟩:∃(p:XW)(ds:List ZI)(m:Mo)(O:XW->Prop)(a:XW)(us:aG)(ps:List D),vs = [.ref p,.ref a]/\YA C CM H p ds m O/\H a=some (.tup us)/\ZP H ps us/\(∀x∈ps,plD x)/\ps.length<=10 /\
    ∀(q:XW)(ys:aG)(H2:Hp),ZA H H2->H2 q=some (.tup ys)->ZP H2 ps ys->(∀l,V.ref l∈ys->H l=none)->
     ∃ds' m' tv,EN C CM Q H p O ds' m' tv/\∀(R:V->Hp->Prop)(E:XK),(∀(v:V)(O':XW->Prop)(H3:Hp),tv = [v]->YA C CM H3 p ds' m' O'->YJ O H2 O' H3->R v H3)->(∀x H3,x∈errs->tv = []->ds'=ds->m'=m->ZA H2 H3->E (.ref (c x)) none H3)->(Sp.or (YY C CM c) (YX C CM c)) [.ref p,.ref q] H2 R E:=by
   rcases h with⟨p,ds,m,O,a,d,rfl,W,ha,hd,he,k⟩ | ⟨p,ds,m,O,a,d,day,need,l1,l2,o1,o2,f,rfl,W,ha,cs,hd,he,k⟩
   ·refine⟨p,ds,m,O,a,_,sdP d,rfl,W,ha,Aj H d,fun x hx=>.inl (BV d x hx),by cases d<;>simp[sdP],fun q ys H2 S kq hy _=>⟨_,_,_,k,fun R E g b=>.inl ⟨p,ds,m,O,q,d,rfl,W.same S,by rw[kq,CB (BV d) (Aj H d) hy],hd,?_⟩⟩⟩;cases e:eSD ds m d with
    | none=>rw[e] at g;exact fun O' H3 W3 F3=>g _ O' H3 rfl W3 F3
    | some x=>rw[e] at b;exact fun H3 S3=>b x H3 (he x e) rfl rfl rfl S3
   ·refine⟨p,ds,m,O,a,_,cdP day need o1 o2 d,rfl,W,ha,FS cs.h1 cs.h2 d,Qp cs.n1 cs.n2 d,by cases d<;>simp[cdP],fun q ys H2 S kq hy fr=>⟨_,_,_,k,fun R E g b=>?_⟩⟩;obtain⟨m1,m2,rfl,h1,h2⟩:=DX hy;refine .inr ⟨p,ds,m,O,q,d,day,need,m1,m2,o1,o2,f,rfl,W.same S,kq,⟨cs.ok,cs.hd,h1,h2,cs.n1,cs.n2,cs.di,cs.ni,cs.hw⟩,W.out (fr m1 (by cases d<;>simp[cdV])),W.out (fr m2 (by cases d<;>simp[cdV])),hd,?_⟩;cases e:eCD ds m day need f o1 o2 d with
    | none=>rw[e] at g;exact fun O' H3 W3 F3=>g _ O' H3 rfl W3 F3
    | some x=>rw[e] at b;exact fun H3 S3=>b x H3 (he x e) rfl rfl rfl S3
  subst hvs;refine⟨_,rfl,a,us,ps,rfl,ha,hr0,hpl,hps,fun q ys H1 hq kq hy fr S1=>?_⟩;refine Z8 ?_;dsimp only [Yy];refine⟨aB rfl,fun l0 hl0=>?_⟩;have S2:=S1.trans (ZA.new (o:=.lst []) hl0);have kq2:=(ZA.new (o:=.lst []) hl0) _ _ kq;have hy2:=ZP.mono (ZA.new (o:=.lst []) hl0) _ _ hy;generalize (upd H1 l0 (.lst []))=H2 at S2 kq2 hy2 ⊢;refine Z8 ?_;dsimp only [Yy];obtain⟨ds',m',tv,k,g⟩:=hk q ys H2 S2 kq2 hy2 fr;have ref:∀{l:XW},V.ref l∈ys->∃xs:List Str,H2 l=some (.lst (xs.map V.str)):=fun {l} h=>by
   obtain⟨i,hi⟩:=List.getElem?_of_mem h;obtain⟨d,hd,re⟩:=hy2.get hi;rcases hpl d (xM hd) with z | ⟨o,rfl,_⟩
   ·cases d<;>first | (cases z;done) | cases re
   ·obtain⟨b,us,e,e1,e2⟩:=re;cases e;exact⟨o,by rw[e1,Ci e2]⟩
  refine V4 (fun σ H4=>∃(O':XW->Prop)(l:XW),σ = [some (.ref p),some (.ref a),some (.ref q),some (.ref l),none]/\YA C CM H4 p ds' m' O'/\YJ O H2 O' H4/\¬O' l/\H4 l=some (.lst tv)/\∀b,V.ref b∈ys->b≠l) ?_ ?_
  ·rintro σ H4 ⟨O',l,rfl,W4,F4,nl,kl,hne⟩;have at4:∀{b:XW}{o:HO},H b=none->H2 b=some o->H4 b=some o/\¬O' b:=fun e e2=>⟨F4.1 _ _ e2 (W.out e),fun z=>(F4.2 _ z).elim (W.out e) (fun y=>by rw[e2] at y;cases y)⟩;have kq4:=(at4 hq kq2).1;refine⟨_,rfl,q,rfl,⟨_,ZS.of kq4⟩,?_⟩;have hyl:=hy2.length;refine Iz (xs:=ys) (fun i zs H'=>H'=H4/\zs.length<=i/\∀z∈zs,∃b,z = .ref b/\z∈ys) ⟨rfl,yN _,(fun z h=>nomatch h)⟩ (by lia) (fun i zs H' _ ⟨e,_⟩=>by rw[e];exact ZS.of kq4) (fun i zs H' ⟨_,e,_⟩=>e) ?_ ?_
   ·rintro i v zs H' hv ⟨rfl,hl,hz'⟩ ls hls;obtain⟨w0,rfl⟩:=Uu hls;obtain⟨d,hd,re⟩:=hy2.get hv;have hm:=xM hv;refine⟨⟨[_],rfl,rfl⟩,?_⟩;rcases hpl d (xM hd) with z | ⟨o,rfl,_⟩
    ·have re':YC H' d v:=by cases d<;>first | (cases z;done) | exact re
     obtain⟨t1,ty1,e1⟩:=isi (K:=K) re' "list" aA;rw[K3 z] at e1;exact⟨_,rfl,v, "list", t1,_,rfl,ty1,e1,_,rfl,Z4 ⟨rfl,by lia,hz'⟩⟩
    ·obtain⟨b,us,rfl,e1,e2⟩:=re;have re':YC H' (.lst (o.map D.str)) (.ref b):=⟨b,us,rfl,(at4 (fr b hm) e1).1,by rw[Ci e2];exact Jd _ _⟩;obtain⟨t1,ty1,e1⟩:=isi (K:=K) re' "list" aA;refine⟨_,rfl,.ref b, "list", t1,_,rfl,ty1,e1,_,rfl,Z7 ⟨_,rfl,rfl,by rw[xF];show _+1<=_;lia,fun z h=>?_⟩⟩;rcases xJ.mp h with h | h
     ·exact hz' z h
     ·cases xR.mp h;exact⟨b,rfl,hm⟩
   ·rintro zs H' ⟨rfl,hl,hz'⟩ l5 hl5;have S5:=ZA.new (o:=.lst zs) hl5;have k5:(upd H' l5 (.lst zs)) l5=some (.lst zs):=Zi;have n5:=W4.out hl5;have W5:=W4.same S5;have F5:=((YJ.same S2).trans F4).trans (YJ.same S5);have kl5:=S5 _ _ kl;have ne5:∀{b:XW}{o:HO},H' b=some o->b≠l5:=fun e=>Zl e hl5;have in5:∀{b:XW},V.ref b∈ys->¬O' b/\b≠l5/\∃xs,(upd H' l5 (.lst zs)) b=some (.lst xs):=fun {b} h=>by
     obtain⟨xs,e⟩:=ref h;obtain⟨a1,a2⟩:=at4 (fr b h) e;exact⟨a2,ne5 a1,_,S5 _ _ a1⟩
    generalize (upd H' l5 (.lst zs))=H5 at W5 F5 kl5 k5 in5 ⊢;refine⟨l5,rfl,⟨_,ZF.of k5⟩,?_⟩;refine Vn zs (fun i σ H6=>(∃v4:Option V,σ = [some (.ref p),some (.ref a),some (.ref q),some (.ref l),v4])/\YA C CM H6 p ds' m' O'/\YJ O H O' H6/\H6 l=some (.lst tv)/\H6 l5=some (.lst zs)/\∀b,V.ref b∈ys->∃xs,H6 b=some (.lst xs)) ⟨⟨none,rfl⟩,W5,F5,kl5,k5,fun b h=>(in5 h).2.2⟩ (fun i σ H6 _ ⟨_,_,_,_,e,_⟩=>ZF.of e) ?_ ?_
    ·rintro i v σ H6 hv ⟨⟨v4,rfl⟩,W6,F6,kl6,k6,in6⟩;obtain⟨b,rfl,hb⟩:=hz' v (xM hv);obtain⟨xs,e⟩:=in6 b hb;have kx:ZE b H6 (upd H6 b (.lst [])):=ZE.upd;refine⟨_,rfl,.inl ⟨rfl,_,ZF.of e⟩,b,xs,rfl,rfl,e,⟨_,rfl⟩,W6.x e (in5 hb).1 kx,⟨fun b' o e' n'=>kx _ _ (Zl e' (fr b hb)) (F6.1 _ _ e' n'),F6.2⟩,kx _ _ (hne b hb).symm kl6,kx _ _ (in5 hb).2.1.symm k6,fun b' hb'=>?_⟩
     by_cases z:b'=b
     ·rw[z];exact⟨_,Zi⟩
     ·obtain⟨xs',e'⟩:=in6 b' hb';exact⟨xs',kx _ _ z e'⟩
    ·rintro σ H6 ⟨⟨v4,rfl⟩,W6,F6,kl6,k6,in6⟩;exact⟨_,rfl,k O' l H6 W6 F6 nl kl6⟩
  ·intro D' hn _ _ _;refine⟨_,rfl,_,rfl,g _ _ (fun v O' H3 etv W3 F3=>?_) (fun x H3 hx etv ed em S3=>?_)⟩
   ·refine⟨aB rfl,fun l hl=>?_⟩;refine Z8 (hn _ _ ⟨O',l,rfl,W3.same (ZA.new hl),F3.trans (YJ.same (ZA.new hl)),W3.out hl,by rw[etv];exact Zi,fun b hb=>?_⟩);obtain⟨xs,e⟩:=ref hb;exact Zl (F3.1 _ _ e (W.out (fr b hb))) hl
   ·refine⟨_,rfl,_,er.e x hx,Z7 ⟨aB rfl,fun l hl=>?_⟩⟩;have S4:=S3.trans (ZA.new (o:=.lst []) hl);refine Z8 (hn _ _ ⟨O,l,rfl,by rw[ed,em];exact(W.same S2).same S4,YJ.same S4,W.out ((S2.trans S3).free hl),by rw[etv];exact Zi,fun b hb=>?_⟩);obtain⟨xs,e⟩:=ref hb;exact Zl (S3 _ _ e) hl
end
section
def adP:AD->List D
 | .s d=>sdP d
 | .c d day need o1 o2 _=>cdP day need o1 o2 d
def adT(a:AD):D:=.tup (adP a)
def isC:AD->Bool
 | .s _=>false
 | .c ..=>true
theorem Be(h:YC (fz fx H) (adT (.s d)) v):∃q,v = .ref q/\H q=some (.tup (sdV d)):=by
 obtain⟨a,us,rfl,ha,hu⟩:=h;exact⟨a,rfl,by rw[(Bd ha).1,CB (BV d) (Aj H d) hu]⟩
theorem DT(h:YC (fz fx H) (adT (.c d day need o1 o2 f)) v):∃q l1 l2,v = .ref q/\H q=some (.tup (cdV day need l1 l2 d))/\fz fx H l1=some (.lst (o1.map V.str))/\fz fx H l2=some (.lst (o2.map V.str)):=by
 obtain⟨a,us,rfl,ha,hu⟩:=h;obtain⟨l1,l2,rfl,h1,h2⟩:=DX hu;exact⟨a,l1,l2,rfl,(Bd ha).1,h1,h2⟩
structure WL where
 wl:XW
 dl:XW
 sl:XW
 tl:XW
structure ZX (s:XW) (H:Hp) (fx:XS) (W:WL) (as bs:List AD) (ss:List ZT):Prop where
 e:H W.wl=some (.lst [.ref W.dl,.ref W.sl,.ref W.tl])
 d:WG H fx W.dl (as.map adT)
 u:WG H fx W.sl (ss.map Wo)
 t:WG H fx W.tl (bs.map adT)
 ne:∀b∈W.wl::W.dl::W.sl::W.tl::fx,b≠s
 nd : [W.wl,W.dl,W.sl,W.tl].Nodup
 nx:∀b∈fx,b ∉ [W.dl,W.sl,W.tl]
variable{s la:XW}{H H':Hp}{fx:XS}{as:List AD}
theorem ZX.keep(h:ZX s H fx W as bs ss)(kt:Up H H')(kx:∀b∈W.wl::W.dl::W.sl::W.tl::fx,∀o,H b=some o->H' b=some o):ZX s H' fx W as bs ss:=by
 have f:ZA (fz fx H) (fz fx H'):=Vc kt (fun x hx=>kx x (by simp[hx])) fun _ z=>z;exact⟨kx _ (by simp) _ h.e,h.d.mono (kx _ (by simp)) f,h.u.mono (kx _ (by simp)) f,h.t.mono (kx _ (by simp)) f,h.ne,h.nd,h.nx⟩
theorem ZX.same(h:ZX s H fx W as bs ss)(k:ZA H H'):ZX s H' fx W as bs ss:=h.keep (fun _ _ e=>k _ _ e) fun _ _ _ e=>k _ _ e
theorem ZX.x(h:ZX s H fx W as bs ss)(hs:ZJ H s la)(k:ZE s H H'):ZX s H' fx W as bs ss:=by
 obtain⟨_,_,_,_,_,a,_⟩:=hs;exact h.keep (fun b u e=>k _ _ (fun z=>by rw[z,a] at e;cases e) e) fun b hb o e=>k _ _ (h.ne b hb) e
theorem ZX.more(h:ZX s H fx W as bs ss)(h1:∀b∈gx,b≠s)(h2:∀b∈gx,b ∉ [W.dl,W.sl,W.tl]):ZX s H (gx++fx) W as bs ss:=by
 have f:ZA (fz fx H) (fz (gx++fx) H):=Vc (fun _ _ e=>e) (fun _ _ _ e=>e) fun _ z=>xI _ z;refine⟨h.e,h.d.mono (fun _ e=>e) f,h.u.mono (fun _ e=>e) f,h.t.mono (fun _ e=>e) f,fun b hb=>?_,h.nd,fun b hb=>(xJ.mp hb).elim (h2 b) (h.nx b)⟩;have hb:b ∈ [W.wl,W.dl,W.sl,W.tl]\/b∈gx\/b∈fx:=by simpa [or_assoc] using hb
 rcases hb with z | z | z
 ·exact h.ne b (yQ fx z)
 ·exact h1 b z
 ·exact h.ne b (by simp[z])
theorem ZX.grow(h:ZX s H fx W as bs ss)(hl:l ∈ [W.dl,W.sl,W.tl])(e:H l=some (.lst vs)) :
  ZA (fz fx H) (fz fx (upd H l (.lst (vs ++ [v]))))/\(∀b,b≠l->b∈W.wl::W.dl::W.sl::W.tl::fx->∀o,H b=some o->(upd H l (.lst (vs ++ [v]))) b=some o):=by
 have kx:ZE l H (upd H l (.lst (vs ++ [v]))):=ZE.upd;exact⟨Vc (fun b u y=>kx _ _ (fun z=>by rw[z,e] at y;cases y) y) (fun x hx o y=>kx _ _ (fun z=>h.nx x hx (z▸hl)) y) fun _ z=>z,fun b n _ o y=>kx _ _ n y⟩
theorem WG.snoc(h:WG H fx l c)(e:H l=some (.lst vs))(f:ZA (fz fx H) (fz fx (upd H l (.lst (vs ++ [v])))))(hd:YC (fz fx H) d v):WG (upd H l (.lst (vs ++ [v]))) fx l (c ++ [d]):=by
 obtain⟨us,a,r⟩:=h;rw[e] at a;cases a;exact⟨_,Zi,ZP.snoc (YC.mono f _ _ hd) (r.mono' f)⟩
theorem ZX.wne(h:ZX s H fx W as bs ss):W.wl≠W.dl/\W.wl≠W.sl/\W.wl≠W.tl/\W.dl≠W.sl/\W.dl≠W.tl/\W.sl≠W.tl:=by
 have:=h.nd;simp only[yG,xC,xU,or_false,not_or] at this;obtain⟨⟨a,b,c⟩,⟨d,e⟩,f,_⟩:=this;exact⟨a,b,c,d,e,f⟩
theorem ZX.addU(h:ZX s H fx W as bs ss){vs:aG}{v:V}{t:ZT}(e:H W.sl=some (.lst vs))(hd:YC (fz fx H) (Wo t) v):ZX s (upd H W.sl (.lst (vs ++ [v]))) fx W as bs (ss ++ [t]):=by
 obtain⟨f,g⟩:=h.grow (l:=W.sl) (v:=v) (by simp) e;obtain⟨n1,n2,n3,n4,n5,n6⟩:=h.wne;exact⟨g _ n2 (by simp) _ h.e,h.d.mono (g _ n4 (by simp)) f,by rw[xO];exact h.u.snoc e f hd,h.t.mono (g _ n6.symm (by simp)) f,h.ne,h.nd,h.nx⟩
theorem ZX.addT(h:ZX s H fx W as bs ss){vs:aG}{v:V}{x:AD}(e:H W.tl=some (.lst vs))(hd:YC (fz fx H) (adT x) v):ZX s (upd H W.tl (.lst (vs ++ [v]))) fx W as (bs ++ [x]) ss:=by
 obtain⟨f,g⟩:=h.grow (l:=W.tl) (v:=v) (by simp) e;obtain⟨n1,n2,n3,n4,n5,n6⟩:=h.wne;exact⟨g _ n3 (by simp) _ h.e,h.d.mono (g _ n5 (by simp)) f,h.u.mono (g _ n6 (by simp)) f,by rw[xO];exact h.t.snoc e f hd,h.ne,h.nd,h.nx⟩
theorem ZX.addD(h:ZX s H fx W as bs ss){vs:aG}{v:V}{x:AD}(e:H W.dl=some (.lst vs))(hd:YC (fz fx H) (adT x) v):ZX s (upd H W.dl (.lst (vs ++ [v]))) fx W (as ++ [x]) bs ss:=by
 obtain⟨f,g⟩:=h.grow (l:=W.dl) (v:=v) (by simp) e;obtain⟨n1,n2,n3,n4,n5,n6⟩:=h.wne;exact⟨g _ n1 (by simp) _ h.e,by rw[xO];exact h.d.snoc e f hd,h.u.mono (g _ n4.symm (by simp)) f,h.t.mono (g _ n5.symm (by simp)) f,h.ne,h.nd,h.nx⟩
inductive VY(vs:aG)(H:Hp)(Q:VK)(z3:XK):Prop
 |mk(s la nl:XW) (ns:XO)(_:vs = [.ref s,.ref nl])(_:ZJ H s la)(_:H nl=some (.lst (ns.map V.str)))(_:nl≠s)(_:0 < ns.length)(_:ns.length<=1000)(_:∀(n:Str)(H':Hp),n∈ns->ZJ H' s la->ZE s H H'->Q (.str n) H')
abbrev IY:Stmt:=top 76
theorem Mn(Zik:YB K mg "_law_one" IY)(T:Txt mg)(Yd:Fn P w K mg base "_law_next" ["_law_src_here","_law_base"] 1 YD):Fn P w K mg base "_law_one" ["_law_src_here","_law_names_here"] 2 VY:=by
 refine Zik.fq ["_law_src_here","_law_names_here"] fun H vs Q E hr h=>?_;obtain⟨s,la,nl,ns,rfl,hs,hn,hne,h0,h1,k⟩:=h;refine⟨rfl,_,(Zg (Zw (Zh Yb Q8 (Zk Yd (Za Q0 (Za (Z5 Yp T.len Yh (Za Q8 Zb)) Zb))) (fun _ _=>rfl)))),?_⟩;refine⟨_,rfl,_,rfl,_,rfl,nl,_,rfl,.inl (ZF.of hn),s,la,_,rfl,hs,by rw[xA];lia,by rw[xA];lia,fun d H1 d0 d1 hs1 sx1=>?_⟩;obtain⟨j,rfl⟩:=yK d0;rw[xA] at d1;have hj:j < ns.length:=by lia
 exact⟨nl,_,_,.str ns[j],rfl,rfl,ZF.of (sx1 _ _ hne hn),Yu (by rw[xE,xB hj];rfl),k _ H1 (zF hj) hs1 sx1⟩
def wst(n:Str)(day:Int)(p:Int×Int):ZI->Int×Int
 | .come m d wt=>if m=n/\p.1<=d/\d<=day then (d,wt) else p
 | .rise m d wt=>if m=n/\p.1<=d/\d<=day then (d,wt) else p
 | .die _ _ _=>p
def wgp(ds:List ZI)(n:Str)(day:Int):Int×Int:=ds.foldl (wst n day) (-1,0)
def wg(ds:List ZI)(n:Str)(day:Int):Int:=(wgp ds n day).2
theorem Us(ds:List ZI)(x:ZI)(n:Str)(day:Int):wgp (ds ++ [x]) n day=wst n day (wgp ds n day) x:=by unfold wgp;rw[zT];rfl
theorem LJ:inV (.str "come") [.str "come", .str "rise"]=true:=aA
theorem KD:inV (.str "rise") [.str "come", .str "rise"]=true:=aA
theorem DW:∀x∈(["die","penance","bring","give","pay","wergild","claim","accuse"]:XO),inV (.str x) [.str "come", .str "rise"]=false:=aA
def Wa:AD->Str
 | .s (.come ..)=> "come"
 | .s (.rise ..)=> "rise"
 | .s (.die ..)=> "die"
 | .s (.pen ..)=> "penance"
 | .s (.bring ..)=> "bring"
 | .s (.give ..)=> "give"
 | .s (.pay ..)=> "pay"
 | .c (.wer ..) .. => "wergild"
 | .c (.clm ..) .. => "claim"
 | .c (.acc ..) .. => "accuse"
theorem Bh(h:YC (fz fx H) (adT x) v):∃q us,v = .ref q/\H q=some (.tup us)/\us[0]? = some (.str (Wa x)):=by
 cases x with
 | s d =>
  obtain⟨q,rfl,hq⟩:=Be h;exact⟨q,_,rfl,hq,by cases d<;>rfl⟩
 | c d day need o1 o2 f =>
  obtain⟨q,l1,l2,rfl,hq,_⟩:=DT h;exact⟨q,_,rfl,hq,by cases d<;>rfl⟩
def fdS(ds:List ZI):AD->List ZI
 | .s d=>sdF ds d
 | .c ..=>ds
theorem An(as:List AD)(x:AD):(Zf (as ++ [x])).1=fdS (Zf as).1 x:=by
 rw[Jh];cases x<;>rfl
inductive VC(vs:aG)(H:Hp)(Q:VK)(z3:XK):Prop
 |mk(q) (fx) (as) (n) (day)(_:vs = [.ref q,.str n,.int day])(_:WG H fx q (as.map adT))(_:∀H',ZA H H'->Q (.int (wg (Zf as).1 n day)) H')
abbrev Iw:Stmt:=top 69
theorem Mi(Zim:YB K mg "_law_weighs" Iw)(T:Txt mg):Fn P w K mg base "_law_weighs" ["_law_deeds","_law_name","_law_day"] 1 VC:=by
 refine Zim.fq ["_law_deeds","_law_name","_law_day","_law_last","_law_found","_law_deed_here"] fun H vs Q E hr h=>?_;obtain⟨q,fx,as,n,day,rfl,⟨vs,hq,hrep⟩,k⟩:=h;refine⟨rfl,_,(Zc (Zv 3 (J0 Jr Zd)) (Zc (Zv 4 Zd) (Zc (Wq PassesOwn.never rfl (Y6 Q0) (Ye 5) (Zg (Zp (QW.pt (Vl (Zq Hn (Zh Zs Qc Zd (fun _ _=>rfl)) (Yl (Za Z2 (Za Z2 Zb))) rfl) (Vl (Zq Yo (Zh Zs Qc Zd (fun _ _=>rfl)) Q8 (Zu _)) (Vl (Zq Wj Qa (Zh Zs Qc Zd (fun _ _=>rfl)) (Zu _)) (Uo (Zq Wj (Zh Zs Qc Zd (fun _ _=>rfl)) Q9 (Zu _))))))) (Zc (Zv 3 (Zh Zs Qc Zd (fun _ _=>rfl))) (Zg (Zv 4 (Zh Zs Qc Zd (fun _ _=>rfl))))) Zo))) (Zg (Zw Qb))))),?_⟩;have hz:=aC
 have hvl:=hrep.length;rw[xA] at hvl;refine⟨_,rfl,?_⟩;refine⟨_,rfl,q,rfl,⟨_,ZF.of hq⟩,?_⟩;refine Vn vs (fun i σ H'=>∃v5:Option V,σ = [some (.ref q),some (.str n),some (.int day),some (.int (wgp (Zf (as.take i)).1 n day).1),some (.int (wgp (Zf (as.take i)).1 n day).2),v5]/\ZA H H') ⟨none,rfl,fun _ _ e=>e⟩ (fun i σ H' _ ⟨_,_,e⟩=>ZF.of (e _ _ hq)) ?_ ?_
 ·rintro i v σ H' hv ⟨v5,rfl,sm⟩;obtain⟨x0,hx0,re⟩:=hrep.get hv;rw[xE] at hx0;obtain⟨x,hx,rfl⟩:=xP.mp hx0;have et:as.take (i+1)=as.take i ++ [x]:=by rw[xW,hx];rfl
  rw[et,An];generalize (Zf (as.take i)).1=ds;obtain⟨a,us,rfl,ha0,hw⟩:=Bh re;have ha:=sm _ _ ha0;refine⟨_,rfl,a,_,0,.str (Wa x),rfl,rfl,ZS.of ha,Yu hw,aB rfl,fun lq hlq=>?_⟩;refine nw (o:=.lst [.str "come", .str "rise"]) hlq fun H1 S kl=>?_;have sm1:=sm.trans S;have ha1:=S _ _ ha;refine⟨lq,_,rfl,.inl (ZF.of kl),rfl,rfl,_,rfl,?_⟩;show if inV _ _=true then _ else _
  by_cases hin:∃(m:Str)(d wt:Int),x = .s (.come m d wt)\/x = .s (.rise m d wt)
  ·obtain⟨m,d,wt,hx'⟩:=hin;have e1:us = [.str (Wa x),.str m,.int d,.int wt]/\inV (.str (Wa x)) [.str "come", .str "rise"]=true/\wgp (fdS ds x) n day=if m=n/\(wgp ds n day).1<=d/\d<=day then (d,wt) else wgp ds n day:=by
    rcases hx' with rfl | rfl
    ·obtain⟨q',e,hq'⟩:=Be re;cases e;rw[hq'] at ha0;cases ha0;exact⟨rfl,LJ,Us ds _ n day⟩
    ·obtain⟨q',e,hq'⟩:=Be re;cases e;rw[hq'] at ha0;cases ha0;exact⟨rfl,KD,Us ds _ n day⟩
   obtain⟨rfl,hin,ew⟩:=e1;rw[hin,ew];refine Z7 ?_;refine⟨_,rfl,a,_,1,.str m,rfl,rfl,ZS.of ha1,rfl,_,rfl,rfl,_,rfl,Zy (fun z=>?_) (fun z=>Z4 ?_)⟩
   ·have em:m=n:=by injection z
    refine⟨_,rfl,_,rfl,a,_,2,.int d,rfl,rfl,ZS.of ha1,rfl,_,d,rfl,rfl,_,rfl,Zy (fun z1=>?_) (fun z1=>Z4 ?_)⟩
    ·refine⟨_,rfl,a,_,2,.int d,rfl,rfl,ZS.of ha1,rfl,_,rfl,d,day,rfl,rfl,_,rfl,Zy (fun z2=>?_) (fun z2=>?_)⟩
     ·rw[if_pos ⟨em,z1,z2⟩];exact⟨_,rfl,a,_,2,.int d,rfl,rfl,ZS.of ha1,rfl,_,rfl,a,_,3,.int wt,rfl,rfl,ZS.of ha1,rfl,_,rfl,sm1⟩
     ·rw[if_neg (fun y=>z2 y.2.2)];exact⟨_,rfl,sm1⟩
    ·rw[if_neg (fun y=>z1 y.2.1)];exact⟨_,rfl,sm1⟩
   ·rw[if_neg (fun y=>z (by rw[y.1]))];exact⟨_,rfl,sm1⟩
  ·have e1:inV (.str (Wa x)) [.str "come", .str "rise"]=false/\wgp (fdS ds x) n day=wgp ds n day:=by
    cases x with
    | s d =>
     cases d with
     | come m d wt=>exact absurd ⟨m,d,wt,.inl rfl⟩ hin
     | rise m d wt=>exact absurd ⟨m,d,wt,.inr rfl⟩ hin
     | die m he d=>exact⟨DW _ (by simp[Wa]),Us ds _ n day⟩
     | _=>exact⟨DW _ (by simp[Wa]),rfl⟩
    | c d dy need o1 o2 f=>exact⟨DW _ (by cases d<;>simp[Wa]),rfl⟩
   obtain⟨hin,ew⟩:=e1;rw[hin,ew];exact Z4 (Z4 ⟨_,rfl,sm1⟩)
 ·rintro σ H' ⟨v5,rfl,sm⟩;rw[hvl,xX];exact⟨_,rfl,k H' sm⟩
end
theorem NN{left:aG}{j:Nat}(hj:j < left.length):([left[j]]++left.eraseIdx j).Perm left:=by
 rw[List.eraseIdx_eq_take_drop_succ];have e:left.take j++left[j]::left.drop (j+1)=left:=by rw[← zI hj,zC]
 have h:=(List.perm_middle (a:=left[j]) (l₁:=left.take j) (l₂:=left.drop (j+1))).symm;exact h.trans (by rw[e])
inductive TK(vs:aG)(H:Hp)(Q:VK)(z3:XK):Prop
 |mk(s la a) (ts) (n)(_:vs = [.ref s,.ref a,.int n])(_:ZJ H s la)(_:H a=some (.lst ts))(_:a≠s)(_:0<=n)(_:ts.length<=1000)(_:∀l out H',(∃left,(out++left).Perm ts)->out.length=(min n ts.length).toNat->H l=none->H' l=some (.lst out)->ZJ H' s la->ZE s H H'->Q (.ref l) H')
abbrev He:Stmt:=top 70
theorem Qm(Zin:YB K mg "_law_pick" He)(T:Txt mg)(Yd:Fn P w K mg base "_law_next" ["_law_src_here","_law_base"] 1 YD) :
  Fn P w K mg base "_law_pick" ["_law_src_here","_law_things","_law_many"] 2 TK:=by
 refine Zin.fq ["_law_src_here","_law_things","_law_many","_law_left","_law_found","_law_k"] fun H vs Q E hr h=>?_;obtain⟨s,la,a,ts,n,rfl,hsrc,ha,has,hn0,hnl,k⟩:=h
 refine⟨rfl,_,(Zc (Zv 3 (Tz Ae T.list Uy (Za Q8 Zb))) (Zc (Zv 4 (Yl Zb)) (Zc (Wq PassesOwn.never rfl (Bk T.range (Za (Z5 (Px (by rfl)) T.min IH (Za Q9 (Za (Z5 Yp T.len Yh (Za Q8 Zb)) Zb))) Zb)) (Ye 5)
 (Zg (Zj (Y4 aD aE aF Wb Qb (Za (Y4 aD F.slot_list_pop F.type_list_pop KR Qa (Za (Zk Yd (Za Q0 (Za (Z5 Yp T.len Yh (Za Qa Zb)) Zb))) Zb)) Zb)))))
 (Zg (Zw Qb))))),?_⟩
 have hz:(2000:Nat)<=sizeLine:=by decide
 refine⟨_,rfl,a,_,rfl,.inl (ZF.of ha),fun lf hlf=>?_⟩;refine⟨aB rfl,fun l hl=>?_⟩;have nfl:lf≠l:=fun z=>by rw[← z,Zi] at hl;cases hl
 have sm0:ZA H (upd (upd H lf (.lst ts)) l (.lst [])):=(ZA.new hlf).trans (ZA.new hl);have hlH:H l=none:=(ZA.new hlf).free hl;obtain⟨n1,n2⟩:=hsrc.ne hlf;obtain⟨n3,n4⟩:=hsrc.ne hlH;have ea:(upd (upd H lf (.lst ts)) l (.lst [])) a=some (.lst ts):=sm0 _ _ ha;refine⟨_,rfl,_,rfl,a,_,rfl,.inl (ZF.of ea),n,_,rfl,_,rfl,?_,?_,?_⟩
 ·split<;>lia
 ·split<;>lia
 have em:(if (ts.length:Int) < n then (ts.length:Int) else n)=min n ts.length:=by split<;>lia
 refine Bi (min n ts.length).toNat (by rw[em]) (fun i σ H'=>∃(out left:aG)(v:Option V),σ = [some (.ref s),some (.ref a),some (.int n),some (.ref lf),some (.ref l),v]/\out.length=i/\left.length+i=ts.length/\(∀x∈out,x∈ts)/\(∀x∈left,x∈ts)/\(out++left).Perm ts /\
   H' l=some (.lst out)/\H' lf=some (.lst left)/\ZJ H' s la/\ZE s H H')
  ⟨[],ts,none,rfl,rfl,rfl,(fun _ z=>nomatch z),(fun _ z=>z),.refl _,Zi,by rw[Ze nfl,Zi],hsrc.keep sm0,sm0.x⟩ ?_ ?_
 ·rintro i σ H' hi ⟨out,left,v,rfl,hol,hleft,ho,hle,hpm,hl',hlf',hs',sx'⟩;have hll : 0 < left.length:=by lia
  refine⟨_,rfl,.inl ⟨rfl,_,ZF.of hl'⟩,_,rfl,.inl ⟨rfl,_,ZF.of hlf'⟩,_,rfl,_,rfl,lf,_,rfl,.inl (ZF.of hlf'),s,la,_,rfl,hs',by lia,by lia,fun d H1 d0 d1 hs1 sx1=>?_⟩;obtain⟨j,rfl⟩:=yK d0;have hj:j < left.length:=by lia
  have hlf1:=sx1 lf _ n1 hlf';have hl1:=sx1 l _ n3 hl';refine⟨lf,_,_,j,left[j],rfl,rfl,hlf1,by lia,by lia,seqIndex_of (by lia) (by lia),xB hj,?_⟩;have hs2:ZJ (upd H1 lf (.lst (left.eraseIdx j))) s la:=hs1.keepX ZE.upd n1 n2;have hl2:upd H1 lf (.lst (left.eraseIdx j)) l=some (.lst out):=by rw[Ze nfl.symm];exact hl1
  refine⟨l,out,left[j],rfl,rfl,hl2,by lia,?_⟩;refine⟨out ++ [left[j]],left.eraseIdx j,_,rfl,by rw[xF,hol];rfl,?_,fun x hx=>?_,fun x hx=>?_,?_,Zi,?_,?_,?_⟩
  ·rw[List.length_eraseIdx_of_lt hj];lia
  ·grind
  ·exact hle x (List.mem_of_mem_eraseIdx hx)
  ·refine List.Perm.trans ?_ hpm;rw[yW];exact List.Perm.append_left _ (NN hj)
  ·rw[Ze nfl,Zi]
  ·exact hs2.keepX ZE.upd n3 n4
  ·intro b o hb e;have b1:b≠lf:=fun z=>by rw[z,hlf] at e;cases e
   have b2:b≠l:=fun z=>by rw[z,hlH] at e;cases e
   rw[Ze b2,Ze b1];exact sx1 b o hb (sx' b o hb e)
 ·rintro σ H' ⟨out,left,v,rfl,hol,hleft,ho,hle,hpm,hl',hlf',hs',sx'⟩;exact⟨_,rfl,k l out H' ⟨left,hpm⟩ hol hlH hl' hs' sx'⟩
theorem Kk:∀{l:List Int},(∀x∈l,0<=x/\x<=1000)->0<=l.sum
 | [],_=>Int.le_refl _
 | x::r,h=>by
  have a:=Kk (l:=r) fun y hy=>h y (xN _ hy);have b:=(h x xY).1;rw[List.sum_cons];lia
theorem Iy{ns:XO}:∀{out:aG},(∀v∈out,v∈ns.map V.str)->∃os:List Str,out=os.map V.str/\∀n∈os,n∈ns
 | [],_=>⟨[],rfl,fun _ h=>nomatch h⟩
 | v::r,h=>by
  obtain⟨os,e,m⟩:=Iy (out:=r) fun v hv=>h v (xN _ hv);obtain⟨n,hn,e'⟩:=zE.mp (h v xY);exact⟨n::os,by rw[← e',e];rfl,fun x hx=>(xC.mp hx).elim (fun z=>z▸hn) (m x)⟩
theorem Lx{ns:XO}(hnd:ns.Nodup){out left:aG}(h:(out++left).Perm (ns.map V.str)):∃os:List Str,out=os.map V.str/\(∀n∈os,n∈ns)/\os.Nodup:=by
 obtain⟨os,rfl,m⟩:=Iy (ns:=ns) (out:=out) fun v hv=>h.mem_iff.mp (yQ _ hv);have nd:(ns.map V.str).Nodup:=List.Pairwise.map V.str (fun a b n e=>n (by injection e)) hnd;have:=(h.nodup_iff.mpr nd);have:=(List.nodup_append.mp this).1;exact⟨os,rfl,m,List.Pairwise.of_map V.str (fun a b n e=>n (by rw[e])) this⟩
inductive Te(vs:aG)(H:Hp)(Q:VK)(z3:XK):Prop
 |mk(s la nl:XW) (ns:XO) (W:WL) (fx:XS) (as bs:List AD) (ss:List ZT) (day:Int)(_:vs = [.ref s,.ref W.wl,.ref nl,.int day])(_:ZJ H s la)(_:ZX s H fx W as bs ss)(_:H nl=some (.lst (ns.map V.str)))(_:nl≠s)(_:ns.Nodup)(_:0 < ns.length)(_:ns.length<=1000)(_:(∀n d,0<=wg (Zf as).1 n d/\wg (Zf as).1 n d<=1000))(_:∀(q l1 l2:XW)(o1 o2:XO)(need:Int)(H':Hp),1<=need->need<=12000->(∀n∈o1++o2,n∈ns)->(o1++o2).Nodup->0 < o1.length->(o1++o2).length<=6->H l1=none->H l2=none->H' q=some (.tup [.int need,.ref l1,.ref l2])->H' l1=some (.lst (o1.map V.str))->H' l2=some (.lst (o2.map V.str))->ZJ H' s la->ZE s H H'->Q (.ref q) H')
abbrev CK:Stmt:=top 77
theorem Ib:Nm (Zm CK) "_law_day" .cell:=aA
theorem HY:Nm (Zm CK) "_law_world" .cell:=aA
theorem Ou(Zio:YB K mg "_law_sides" CK)(T:Txt mg)(Yd:Fn P w K mg base "_law_next" ["_law_src_here","_law_base"] 1 YD)(Zze:Fn P w K mg base "_law_pick" ["_law_src_here","_law_things","_law_many"] 2 TK)(Zdq:Fn P w K mg base "_law_weighs" ["_law_deeds","_law_name","_law_day"] 1 VC):Fn P w K mg base "_law_sides" ["_law_src_here","_law_world","_law_names_here","_law_day"] 3 Te:=by
 refine Zio.fq ["_law_src_here","_law_world","_law_names_here","_law_day","_law_row","_law_cut","_law_ones","_law_others","_law_need"] fun H vs Q E hr h=>?_;obtain⟨s,la,nl,ns,W,fx,as,bs,ss,day,rfl,hs,hW,hn,hne,hnd,h0,h1,hwg,k⟩:=h
 refine⟨rfl,_,(Zc (Zv 4 (Zk Zze (Za Q0 (Za Q9 (Za (Z0 Wf Zd (Zk Yd (Za Q0 (Za Zd Zb)))) Zb))))) (Zc (Zv 5 (Z0 Cp (Z0 Wf (Z0 Wf (Z5 Yp T.len Yh (Za Qb Zb)) Zd) (Zk Yd (Za Q0 (Za Zd Zb)))) Zd)) (Zc (Zp (Zq Yo (Zk Yd (Za Q0 (Za Zd Zb))) Zd (Zu _)) (Zg (Zv 5 (Z0 Wf Zd (Zk Yd (Za Q0 (Za (Z5 Yp T.len Yh (Za Qb Zb)) Zb)))))) Zo) (Zc (Zv 6 (Z5 (CW (by rfl)) T.sum BW (Za (Vz (locs:=["_law_name"]) (fr:=[("_law_world", 1),("_law_day", 3)]) ⟨rfl,aA,aA,aA,aA,aA⟩ (.consN HY (.consN Ib .nil)) rfl (Y6 (Jo Bg Qb Jb (Jg Qc))) ⟨fun _ _ _ _ _ _=>by
  have cnd:(inN ["_law_name"] [("_law_world", 1),("_law_day", 3)]).Nodup:=aA
  exact⟨(Wn 0 cnd),U9,(Zk Zdq (Za (Zh Cf (Vh 1) Zd (fun _ _=>rfl)) (Za (Y1 0) (Za (Vh 2) Zb))) (n:=nmC))⟩⟩) Zb)))
 (Zc (Zv 7 (Z5 (CW (by rfl)) T.sum BW (Za (Vz (locs:=["_law_name"]) (fr:=[("_law_world", 1),("_law_day", 3)]) ⟨rfl,aA,aA,aA,aA,aA⟩ (.consN HY (.consN Ib .nil)) rfl (Y6 (Jo Bg Qb (Jg Qc) Jb)) ⟨fun _ _ _ _ _ _=>by
  have cnd:(inN ["_law_name"] [("_law_world", 1),("_law_day", 3)]).Nodup:=aA
  exact⟨(Wn 0 cnd),U9,(Zk Zdq (Za (Zh Cf (Vh 1) Zd (fun _ _=>rfl)) (Za (Y1 0) (Za (Vh 2) Zb))) (n:=nmC))⟩⟩) Zb)))
 (Zc (Zv 8 (Z5 (DF (by rfl)) T.max BS (Za Zd (Za (Z5 (NH (by rfl)) T.min IH (Za Qd (Za Zd (Za (Z0 Wf (Z0 Jc (Z0 Jc Qd Qe) Zd) (Zk Yd (Za Q0 (Za Zd Zb)))) Zb)))) Zb))))
 (Zc (Zp (Zq Yo (Zk Yd (Za Q0 (Za Zd Zb))) Zd (Zu _)) (Zg (Zv 8 Zd)) Zo)
 (Zg (Zw (Z9 (Za (qvN 8) (Za (Jo Bg Qb Jb (Jg Qc)) (Za (Jo Bg Qb (Jg Qc) Jb) Zb))))))))))))),?_⟩
 have hz:=aC
 refine⟨_,rfl,_,rfl,_,rfl,s,la,6,rfl,hs,aA,aA,fun d1 H1 d10 d11 hs1 sx1=>?_⟩;refine⟨_,_,rfl,rfl,s,la,nl,_,1+d1,rfl,hs1,sx1 _ _ hne hn,hne,by lia,by rw[xA];exact h1,fun rl out H2 ⟨left,hp⟩ hol hrl krl hs2 sx2=>?_⟩;obtain⟨os,rfl,om,ond⟩:=Lx hnd hp;rw[xA] at hol;have hol1 : 0 < os.length/\os.length<=6:=by rw[xA] at hol;lia
 have nrl:rl≠s:=fun z=>by obtain⟨_,_,_,_,_,e,_⟩:=hs1;rw[z,e] at hrl;cases hrl
 have sx02:ZE s H H2:=sx1.trans sx2;refine Z8 ?_;dsimp only [Yy];refine⟨_,rfl,rl,_,rfl,.inl (ZF.of krl),_,_,rfl,rfl,_,rfl,s,la,2,rfl,hs2,aA,aA,fun d2 H3 d20 d21 hs3 sx3=>?_⟩;refine⟨_,_,rfl,rfl,_,_,rfl,rfl,⟨by lia,by lia⟩,?_⟩;refine Z8 ?_;dsimp only [Yy];rw[xA];refine V4 (fun σ H4=>∃ct:Nat,σ = [some (.ref s),some (.ref W.wl),some (.ref nl),some (.int day),some (.ref rl),some (.int ct),none,none,none]/\0 < ct/\ct<=os.length/\ZJ H4 s la/\ZE s H2 H4) ?_ ?_
 ·rintro σ H4 ⟨ct,rfl,hc0,hc1,hs4,sx4⟩;have W4:=hW.x hs (sx02.trans sx4);have kr4:=sx4 _ _ nrl krl;have lc1:((os.take ct).map V.str).length<=6:=by rw[xA,xT];lia
  have lc2:((os.drop ct).map V.str).length<=6:=by rw[xA,zY];lia
  refine⟨_,rfl,_,rfl,_,rfl,rl,_,rfl,ZF.of kr4,fun a1 ha1=>?_⟩;rw[Et,← List.map_take];refine nw (o:=.lst ((os.take ct).map V.str)) ha1 fun G1 T1 k1=>?_;refine⟨a1,rfl,⟨_,ZF.of k1⟩,?_⟩;refine Je (xs:=(os.take ct).map V.str) (fun i ys H'=>ZA G1 H'/\ys=(((os.take ct).take i).map fun n=>wg (Zf as).1 n day).map V.int) ⟨ZA.refl _,rfl⟩ (by lia) (fun i ys H' _ ⟨S,_⟩=>ZF.of (S _ _ k1)) (fun i ys H' ⟨_,e⟩=>by rw[e,xA,xA,xT];lia) ?_ ?_
  ·rintro i x ys H' hx ⟨S,rfl⟩ ls hls;obtain⟨u,rfl⟩:=Uu hls;rw[xE] at hx;obtain⟨n,hn',rfl⟩:=xP.mp hx;have W':=W4.same (T1.trans S);refine⟨⟨[_],rfl,rfl⟩,Z7 ⟨_,rfl,W.wl,_,0,_,rfl,rfl,ZF.of W'.e,rfl,_,rfl,_,rfl,W.dl,fx,as,n,day,rfl,W'.d,fun H'' S'=>⟨S.trans S',?_⟩⟩⟩;rw[xW,hn',xO,xO];rfl
  rintro ys H5 ⟨S5,rfl⟩ b1 hb1;rw[xA,xX];refine nw (o:=.lst (((os.take ct).map fun n=>wg (Zf as).1 n day).map V.int)) hb1 fun G2 T2 k2=>?_;have b1k:∀x∈(os.take ct).map fun n=>wg (Zf as).1 n day,0<=x/\x<=1000:=fun x hx=>by obtain⟨n,_,rfl⟩:=zE.mp hx;exact hwg n day
  refine⟨b1,_,rfl,ZF.of k2,fun x hx=>by have:=b1k x hx;lia,by rw[xA,xT];lia,?_⟩;have s1:=Kk b1k;generalize ((os.take ct).map fun n=>wg (Zf as).1 n day).sum=w1 at s1 ⊢;refine Z8 ?_;dsimp only [Yy];have S42:=(T1.trans S5).trans T2;have W5:=W4.same S42;refine⟨_,rfl,_,rfl,_,rfl,rl,_,rfl,ZF.of (S42 _ _ kr4),fun a2 ha2=>?_⟩;rw[GE,← List.map_drop];refine nw (o:=.lst ((os.drop ct).map V.str)) ha2 fun G3 T3 k3=>?_;refine⟨a2,rfl,⟨_,ZF.of k3⟩,?_⟩;refine Je (xs:=(os.drop ct).map V.str) (fun i ys H'=>ZA G3 H'/\ys=(((os.drop ct).take i).map fun n=>wg (Zf as).1 n day).map V.int) ⟨ZA.refl _,rfl⟩ (by lia) (fun i ys H' _ ⟨S,_⟩=>ZF.of (S _ _ k3)) (fun i ys H' ⟨_,e⟩=>by rw[e,xA,xA,xT];lia) ?_ ?_
  ·rintro i x ys H' hx ⟨S,rfl⟩ ls hls;obtain⟨u,rfl⟩:=Uu hls;rw[xE] at hx;obtain⟨n,hn',rfl⟩:=xP.mp hx;have W':=W5.same (T3.trans S);refine⟨⟨[_],rfl,rfl⟩,Z7 ⟨_,rfl,W.wl,_,0,_,rfl,rfl,ZF.of W'.e,rfl,_,rfl,_,rfl,W.dl,fx,as,n,day,rfl,W'.d,fun H'' S'=>⟨S.trans S',?_⟩⟩⟩;rw[xW,hn',xO,xO];rfl
  rintro ys H6 ⟨S6,rfl⟩ b2 hb2;rw[xA,xX];refine nw (o:=.lst (((os.drop ct).map fun n=>wg (Zf as).1 n day).map V.int)) hb2 fun G4 T4 k4=>?_;refine⟨b2,_,rfl,ZF.of k4,fun x hx=>by obtain⟨n,_,rfl⟩:=zE.mp hx;have:=hwg n day;lia,by rw[xA,zY];lia,?_⟩;generalize ((os.drop ct).map fun n=>wg (Zf as).1 n day).sum=w2;refine Z8 ?_;dsimp only [Yy];have S44:=S42.trans ((T3.trans S6).trans T4);have hs7:=hs4.keep S44;have kr7:=S44 _ _ kr4;refine⟨_,rfl,_,rfl,_,rfl,_,_,rfl,rfl,_,_,rfl,rfl,_,rfl,s,la,4,rfl,hs7,aA,aA,fun d5 H7 d50 d51 hs8 sx8=>?_⟩;refine⟨_,_,rfl,rfl,_,_,_,rfl,fun m hm m1 m2 m3=>?_⟩;refine⟨_,_,rfl,?_⟩;have mb : 1<=(if m > 1 then m else 1)/\(if m > 1 then m else 1)<=12000:=by split<;>lia
  generalize (if m > 1 then m else 1)=nd at mb ⊢;refine Z8 ?_;dsimp only [Yy];have kr8:=sx8 _ _ nrl kr7;have sxe:ZE s H H7:=(((sx02.trans sx4)).trans S44.x).trans sx8;refine V4 (fun σ H8=>∃nd:Int,σ = [some (.ref s),some (.ref W.wl),some (.ref nl),some (.int day),some (.ref rl),some (.int ct),some (.int w1),some (.int w2),some (.int nd)]/\1<=nd/\nd<=12000/\ZJ H8 s la/\ZE s H7 H8) ?_ ?_
  ·rintro σ H8 ⟨nd,rfl,g0,g1,hs9,sx9⟩;have kr9:=sx9 _ _ nrl kr8;have sx:ZE s H H8:=sxe.trans sx9;have free:∀{H':Hp}{b:XW},ZE s H H'->ZJ H' s la->H' b=none->H b=none:=fun {H' b} kx hs' e=>by
    cases eb:H b with
    | none=>rfl
    | some o =>
     by_cases z:b=s
     ·obtain⟨_,_,_,_,_,y,_⟩:=hs';rw[z,y] at e;cases e
     ·rw[kx b o z eb] at e;cases e
   refine⟨_,rfl,_,rfl,_,rfl,_,rfl,rl,_,rfl,ZF.of kr9,fun l1 hl1=>?_⟩;rw[Et,← List.map_take];refine nw (o:=.lst ((os.take ct).map V.str)) hl1 fun J1 U1 j1=>?_;refine⟨_,rfl,_,rfl,_,rfl,rl,_,rfl,ZF.of (U1 _ _ kr9),fun l2 hl2=>?_⟩;rw[GE,← List.map_drop];refine nw (o:=.lst ((os.drop ct).map V.str)) hl2 fun J2 U2 j2=>?_;refine⟨aB rfl,fun q hq=>?_⟩;have U3:=ZA.new (o:=.tup [.int nd,.ref l1,.ref l2]) hq;have U:=(U1.trans U2).trans U3;refine k q l1 l2 (os.take ct) (os.drop ct) nd _ g0 g1 (by rw[zC];exact om) (by rw[zC];exact ond) (by rw[xT];lia) (by rw[zC];lia) (free sx hs9 hl1) (free (sx.trans U1.x) (hs9.keep U1) hl2) Zi (U3 _ _ (U2 _ _ j1)) (U3 _ _ j2) (hs9.keep U) (sx.trans U.x)
  ·intro D' hn' _ _ _;refine⟨_,rfl,s,la,4,rfl,hs8,aA,aA,fun d6 H8 d60 d61 hs9 sx9=>?_⟩;refine⟨rfl,_,rfl,Zy (fun _=>?_) (fun _=>?_)⟩
   ·exact Z8 (hn' _ _ ⟨1,rfl,aA,aA,hs9,sx9⟩)
   ·exact hn' _ _ ⟨nd,rfl,mb.1,mb.2,hs9,sx9⟩
 ·intro D' hn' _ _ _;refine⟨_,rfl,s,la,4,rfl,hs3,aA,aA,fun d3 H4 d30 d31 hs4 sx4=>?_⟩;have e0:((os.length:Int)+1+d2) / 2=((((os.length:Int)+1+d2) / 2).toNat:Int):=by lia
  refine⟨rfl,_,rfl,Zy (fun _=>?_) (fun _=>?_)⟩
  ·refine⟨_,rfl,_,rfl,rl,_,rfl,.inl (ZF.of (sx4 _ _ nrl (sx3 _ _ nrl krl))),s,la,_,rfl,hs4,by rw[xA];lia,by rw[xA];lia,fun d4 H5 d40 d41 hs5 sx5=>?_⟩;rw[xA] at d41;refine⟨_,_,rfl,rfl,?_⟩;refine Z8 ?_;have e1 : 1+d4=((1+d4).toNat:Int):=by lia
   exact hn' _ _ ⟨(1+d4).toNat,by rw[← e1];rfl,by lia,by lia,hs5,(sx3.trans sx4).trans sx5⟩
  ·rw[e0];exact hn' _ _ ⟨_,rfl,by lia,by lia,hs4,sx3.trans sx4⟩
inductive VH(vs:aG)(H:Hp)(Q:VK)(z3:XK):Prop
 |mk(s la:XW) (W:WL) (fx:XS) (as bs:List AD) (ss:List ZT)(_:vs = [.ref s,.ref W.wl])(_:ZJ H s la)(_:ZX s H fx W as bs ss)(_:0 < ss.length)(_:ss.length<=1000)(_:(∀t∈ss,Uq t/\0 < t.ones.length))(_:∀(q:XW)(i:Nat)(t:ZT)(n:Str)(H':Hp),ss[i]? = some t->n∈(t.ones++t.others).map (·.1)->H' q=some (.tup [.int i,.str n])->ZJ H' s la->ZE s H H'->Q (.ref q) H')
abbrev CO:Stmt:=top 78
theorem Sw:ZL ["_law_src_here","_law_world","_law_suits","_law_case","_law_swearers"] ["_law_src_here","_law_world"] (Zm CO):=fsc
theorem OP:Nm (Zm CO) "_law_swearers" .local:=aA
theorem MR(Zip:YB K mg "_law_accused" CO)(T:Txt mg)(Yd:Fn P w K mg base "_law_next" ["_law_src_here","_law_base"] 1 YD):Fn P w K mg base "_law_accused" ["_law_src_here","_law_world"] 2 VH:=by
 refine Zip.fq ["_law_src_here","_law_world","_law_suits","_law_case","_law_swearers"] fun H vs Q E hr h=>?_;obtain⟨s,la,W,fx,as,bs,ss,rfl,hs,hW,h0,h1,hok,k⟩:=h
 refine⟨rfl,_,(Zc (Zv 2 (Zh Yb Q8 Zd (fun _ _=>rfl))) (Zc (Zv 3 (Zk Yd (Za Q0 (Za (Z5 Yp T.len Yh (Za Q9 Zb)) Zb)))) (Zc (Zp (Zq Yo (Zk Yd (Za Q0 (Za Zd Zb))) Zd (Zu _)) (Zg (Zv 3 (Z0 Jc (Z5 Yp T.len Yh (Za Q9 Zb)) Zd))) Zo) (Zc (Ca (locs:=["_law_name","_law_weight"]) (fr:=[]) ⟨rfl,aA,aA,aA,aA,aA⟩ .nil rfl (Y6 (Z0 Jf (Zh Zs (Zh Yb Q9 Qa (fun _ _=>rfl)) Zd (fun _ _=>rfl)) (Zh Zs (Zh Yb Q9 Qa (fun _ _=>rfl)) Zd (fun _ _=>rfl)))) ⟨fun _ _ _ _ _ _=>by
  have cnd:(inN ["_law_name","_law_weight"] []).Nodup:=aA
  exact⟨(Bp 2 (by rfl) (Yx (Wn 0 cnd) (Yx (Wn 1 cnd) V3))),U9,(Y1 0)⟩⟩ Sw.nd OP (by rfl) (i:=4))
 (Zg (Zw (Z9 (Za Qa (Za (Zh Yb Qb (Zk Yd (Za Q0 (Za (Z5 Yp T.len Yh (Za Qb Zb)) Zb))) (fun _ _=>rfl)) Zb))))))))),?_⟩
 have hz:=aC
 obtain⟨us,hl,hrep0⟩:=hW.u;have hrep:ZP H (ss.map Wo) us:=hrep0.mono' Dp;have hul:us.length=ss.length:=by have:=hrep.length;rw[xA] at this;exact this
 have hne:=hW.ne W.sl (by simp);refine⟨_,rfl,W.wl,_,1,_,rfl,rfl,ZF.of hW.e,rfl,?_⟩;refine Z8 ?_;dsimp only [Yy];refine⟨_,rfl,_,rfl,W.sl,us,rfl,.inl (ZF.of hl),s,la,_,rfl,hs,by lia,by lia,fun d1 H1 d10 d11 hs1 sx1=>?_⟩;refine Z8 ?_;dsimp only [Yy];refine V4 (fun σ H2=>∃i:Nat,σ = [some (.ref s),some (.ref W.wl),some (.ref W.sl),some (.int i),none]/\i < ss.length/\ZJ H2 s la/\ZE s H H2) ?_ ?_
 ·rintro σ H2 ⟨i,rfl,hi,hs2,sx2⟩;have W2:=hW.x hs sx2;obtain⟨us2,hl2,hrep2⟩:=W2.u;have hrep2:ZP H2 (ss.map Wo) us2:=hrep2.mono' Dp;have ht:ss[i]? = some ss[i]:=xB hi;generalize ss[i]=t at ht;obtain⟨v,hv⟩:∃v,us2[i]? = some v:=⟨_,xB (by have:=hrep2.length;rw[xA] at this;lia)⟩;obtain⟨dd,hd,re⟩:=hrep2.get hv;rw[xE,ht] at hd;cases hd;obtain⟨ta,u1,u2,u4,rfl,hta,⟨b1,w1,rfl,hb1,hr1⟩,⟨b2,w2,rfl,hb2,hr2⟩,h4⟩:=Fv re;obtain⟨⟨L1,L2',_,_⟩,hone⟩:=hok t (xM ht);have z1:=hr1.len;have z2:=hr2.len;have y1:=L1.2;have y2:=L2'.2;refine⟨_,rfl,_,rfl,W.sl,us2,i,.ref ta,rfl,rfl,ZF.of hl2,Yu hv,ta,_,0,.ref b1,rfl,rfl,ZS.of hta,rfl,?_⟩;refine⟨_,rfl,_,rfl,W.sl,us2,i,.ref ta,rfl,rfl,ZF.of hl2,Yu hv,ta,_,1,.ref b2,rfl,rfl,ZS.of hta,rfl,?_⟩;refine⟨b1,b2,w1,w2,rfl,rfl,hb1,hb2,by lia,fun q hq=>?_⟩;have Sc:=ZA.new (o:=.lst (w1++w2)) hq;have kc:(upd H2 q (.lst (w1++w2))) q=some (.lst (w1++w2)):=Zi;generalize (upd H2 q (.lst (w1++w2)))=H3 at Sc kc ⊢;have hrs:ZN H3 (t.ones++t.others) (w1++w2):=ZN.mono (ZA.t Sc) (ZN.app hr2 hr1);refine⟨q,rfl,⟨_,ZF.of kc⟩,?_⟩;refine K7 kc hrs (by rw[xF];lia) fun l2 hl2'=>?_;have Sd:=ZA.new (o:=.lst (((t.ones++t.others).map (·.1)).map V.str)) hl2';have kd':(upd H3 l2 (.lst (((t.ones++t.others).map (·.1)).map V.str))) l2=some (.lst (((t.ones++t.others).map (·.1)).map V.str)):=Zi;generalize (upd H3 l2 (.lst (((t.ones++t.others).map (·.1)).map V.str)))=H4 at Sd kd' ⊢;refine Z8 ?_;dsimp only [Yy];have hs4:=hs2.keep (Sc.trans Sd);have nl2:l2≠s:=(hs2.keep Sc).ne hl2' |>.1
  have hsz : 0 < ((t.ones++t.others).map (·.1)).length/\((t.ones++t.others).map (·.1)).length<=120:=by rw[xA,xF];lia
  refine⟨_,rfl,_,rfl,_,rfl,_,rfl,l2,_,rfl,.inl (ZF.of kd'),s,la,_,rfl,hs4,by rw[xA];lia,by rw[xA];lia,fun d3 H5 d30 d31 hs5 sx5=>?_⟩;rw[xA] at d31;obtain⟨j,rfl⟩:=yK d30;have hj:j < ((t.ones++t.others).map (·.1)).length:=by lia
  refine⟨l2,_,_,.str ((t.ones++t.others).map (·.1))[j],rfl,rfl,ZF.of (sx5 _ _ nl2 kd'),Yu (by rw[xE,xB hj];rfl),aB rfl,fun q2 hq2=>?_⟩;exact k q2 i t _ _ ht (zF hj) Zi (hs5.keep (ZA.new hq2)) (((sx2.trans (Sc.trans Sd).x).trans sx5).trans (ZA.new hq2).x)
 ·intro D' hn' _ _ _;refine⟨_,rfl,s,la,2,rfl,hs1,aA,aA,fun d2 H2 d20 d21 hs2 sx2=>?_⟩;refine⟨rfl,_,rfl,Zy (fun _=>?_) (fun _=>?_)⟩
  ·refine⟨_,rfl,W.sl,us,rfl,.inl (ZF.of ((sx1.trans sx2) _ _ hne hl)),_,_,rfl,rfl,?_⟩;have e1:((us.length:Int) - 1)=((ss.length - 1:Nat):Int):=by lia
   exact Z8 (hn' _ _ ⟨ss.length - 1,by rw[← e1];rfl,by lia,hs2,sx1.trans sx2⟩)
  ·have e1:d1=(d1.toNat:Int):=by lia
   exact hn' _ _ ⟨d1.toNat,by rw[← e1];rfl,by lia,hs2,sx1.trans sx2⟩
theorem MX:∀x∈(["claim","wergild","accuse"]:XO),inV (.str x) [.str "claim", .str "wergild", .str "accuse"]=true:=aA
theorem MP:∀x∈(["come","rise","die","penance","bring","give","pay"]:XO),inV (.str x) [.str "claim", .str "wergild", .str "accuse"]=false:=aA
theorem LR(x:AD):inV (.str (Wa x)) [.str "claim", .str "wergild", .str "accuse"]=isC x:=by
 cases x with
 | s d=>exact MP _ (by cases d<;>simp[Wa])
 | c d day need o1 o2 f=>exact MX _ (by cases d<;>simp[Wa])
inductive TU(vs:aG)(H:Hp)(Q:VK)(z3:XK):Prop
 |mk(v) (fx) (x)(_:vs = [v])(_:YC (fz fx H) (adT x) v)(_:∀H',ZA H H'->Q (.bl (isC x)) H')
abbrev Fy:Stmt:=top 73
theorem NA(Ziq:YB K mg "_law_is_case" Fy)(T:Txt mg):Fn P w K mg base "_law_is_case" ["_law_deed_here"] 1 TU:=by
 refine Ziq.fq ["_law_deed_here"] fun H vs Q E hr h=>?_;obtain⟨v,fx,x,rfl,re,k⟩:=h;refine⟨rfl,_,(Zg (Zw (Uz Hn (Zh Zs Q0 Zd (fun _ _=>rfl)) (Yl (Za Z2 (Za Z2 (Za Z2 Zb)))) rfl))),?_⟩;have hz:=aC
 obtain⟨a,us,rfl,ha,hw⟩:=Bh re;refine⟨_,rfl,a,_,0,.str (Wa x),rfl,rfl,ZS.of ha,Yu hw,aB rfl,fun lq hlq=>?_⟩;refine⟨lq,_,rfl,.inl (ZF.of Zi),rfl,rfl,?_⟩;rw[LR];exact k _ (ZA.new hlq)
theorem N9(day need:Int)(l1 l2:XW)(d:CD):atI (cdV day need l1 l2 d) (-1)=some (.ref l2):=by cases d<;>rfl
theorem Xo(day need:Int)(l1 l2:XW)(d:CD):atI (cdV day need l1 l2 d) (-2)=some (.ref l1):=by cases d<;>rfl
theorem LQ(day need:Int)(l1 l2:XW)(d:CD):atI (cdV day need l1 l2 d) (-3)=some (.int need):=by cases d<;>rfl
theorem Dw(day need:Int)(l1 l2:XW)(d:CD):atI (cdV day need l1 l2 d) (-4)=some (.int day):=by cases d<;>rfl
theorem Ny{v:V}{i:Nat}{u:TS}{D:YE}{σ:St}{H:Hp}(h:u D (σ.set i (some v)) H):Ue (Jn (tC v) (Wp i)) u D σ H:=h
def C9:CD->Option (Int×Str)
 | .acc i n=>some (i,n)
 | _=>none
def kss(as:List AD)(ss:List ZT):AD->List ZT
 | .s _=>ss
 | .c d day need o1 o2 _=>ss ++ [⟨Yg (fun n=>wg (Zf as).1 n day) o1,Yg (fun n=>wg (Zf as).1 n day) o2,need,C9 d⟩]
inductive VP(vs:aG)(H:Hp)(Q:VK)(z3:XK):Prop
 |mk(v) (s) (W) (fx) (as bs) (ss) (x)(_:vs = [.ref W.wl,v])(_:ZX s H fx W as bs ss)(_:YC (fz fx H) (adT x) v)(_:as.length<=1000)(_:bs.length<=1000)(_:ss.length<=1000)(_:(∀d day need o1 o2 f,x = .c d day need o1 o2 f->o1.length<=60/\o2.length<=60))(_:(∃o,H s=some o))(_:∀fx' H',ZX s H' fx' W (as ++ [x]) (bs++(if isC x then [x] else [])) (kss as ss x)->(∀b o,b ∉ [W.dl,W.sl,W.tl]->H b=some o->H' b=some o)->(∀b∈fx',b∈fx\/H b=none/\∃vs,H' b=some (.lst vs))->Q .non H')
abbrev Ax:Stmt:=top 74
theorem EA:ZL ["_law_world","_law_deed_here","_law_deeds","_law_suits","_law_trials","_law_ones","_law_others","_law_named"] ["_law_world","_law_deed_here"] (Zm Ax):=fsc
theorem Tr:Nm (Zm Ax) "_law_deed_here" .cell:=aA
theorem CS:Nm (Zm Ax) "_law_deeds" .cell:=aA
theorem Ox:Nm (Zm Ax) "_law_ones" .local:=aA
theorem O4:Nm (Zm Ax) "_law_others" .local:=aA
theorem O5(Zis:YB K mg "_law_keep" Ax)(T:Txt mg)(Zit:Fn P w K mg base "_law_is_case" ["_law_deed_here"] 1 TU)(Zdq:Fn P w K mg base "_law_weighs" ["_law_deeds","_law_name","_law_day"] 1 VC):Fn P w K mg base "_law_keep" ["_law_world","_law_deed_here"] 2 VP:=by
 refine Zis.fq ["_law_world","_law_deed_here","_law_deeds","_law_suits","_law_trials","_law_ones","_law_others","_law_named"] fun H vs Q E hr h=>?_;obtain⟨v,s,W,fx,as,bs,ss,x,rfl,hW,re,hal,hbl,hsl,hx,⟨os,hos⟩,k⟩:=h
 refine⟨rfl,_,(Zc (Um Q0 (GJ (by rfl) (Yx (RU (i:=2) EA.nd CS) (Yx (Ye 3) (Yx (Ye 4) V3)))))
 (Zc (Zp (Vd (Zk Zit (Za (qvC 1 Tr) Zb))) (Zc (Ca (locs:=["_law_name"]) (fr:=[("_law_deed_here", 1),("_law_deeds", 2)]) ⟨rfl,aA,aA,aA,aA,aA⟩ (.consN Tr (.consN CS .nil)) rfl (Y6 (Zh Zs (qvC 1 Tr) (J0 Jr Zd) (fun _ _=>rfl))) ⟨fun _ _ _ _ _ _=>by
  have cnd:(inN ["_law_name"] [("_law_deed_here", 1),("_law_deeds", 2)]).Nodup:=aA
  exact⟨(Wn 0 cnd),U9,(Z9 (Za (Y1 0) (Za (Zk Zdq (Za (Vh 2) (Za (Y1 0) (Za (Zh BN (Vh 1) (J0 Jr Zd) (fun _ _=>rfl)) Zb))) (n:=nmC)) Zb)))⟩⟩ EA.nd Ox (by rfl) (i:=5))
 (Zc (Ca (locs:=["_law_name"]) (fr:=[("_law_deed_here", 1),("_law_deeds", 2)]) ⟨rfl,aA,aA,aA,aA,aA⟩ (.consN Tr (.consN CS .nil)) rfl (Y6 (Zh Zs (qvC 1 Tr) (J0 Jr Zd) (fun _ _=>rfl))) ⟨fun _ _ _ _ _ _=>by
  have cnd:(inN ["_law_name"] [("_law_deed_here", 1),("_law_deeds", 2)]).Nodup:=aA
  exact⟨(Wn 0 cnd),U9,(Z9 (Za (Y1 0) (Za (Zk Zdq (Za (Vh 2) (Za (Y1 0) (Za (Zh BN (Vh 1) (J0 Jr Zd) (fun _ _=>rfl)) Zb))) (n:=nmC)) Zb)))⟩⟩ EA.nd O4 (by rfl) (i:=6))
 (Zc (Zv 7 Y7)
 (Zc (Zp (Zq Yo (Zh Zs (qvC 1 Tr) Zd (fun _ _=>rfl)) Z2 (Zu _)) (Zg (Zv 7 (Z9 (Za (Zh Zs (qvC 1 Tr) Zd (fun _ _=>rfl)) (Za (Zh Zs (qvC 1 Tr) Zd (fun _ _=>rfl)) Zb))))) Zo)
 (Zc (Zj (Y4 aD aE aF Wb Qa (Za (Z9 (Za Qc (Za Qd (Za (Zh Zs (qvC 1 Tr) (J0 Jr Zd) (fun _ _=>rfl)) (Za Qe Zb))))) Zb)))
 (Zg (Zj (Y4 aD aE aF Wb Qb (Za (qvC 1 Tr) Zb))))))))) Zo)
 (Zg (Zj (Y4 aD aE aF Wb (qvC 2 CS) (Za (qvC 1 Tr) Zb)))))),?_⟩
 have hz:=aC
 refine⟨_,rfl,W.wl,_,rfl,ZF.of hW.e,rfl,_,_,rfl,_,_,rfl,_,_,rfl,rfl,?_⟩
 try dsimp only [Yy]
 refine V4 (fun σ H1=>∃(v5 v6 v7:Option V)(fx1:XS),σ = [some (.ref W.wl),some v,some (.ref W.dl),some (.ref W.sl),some (.ref W.tl),v5,v6,v7]/\ZX s H1 fx1 W as (bs++(if isC x then [x] else [])) (kss as ss x)/\YC (fz fx1 H1) (adT x) v/\(∀b o,b ∉ [W.dl,W.sl,W.tl]->H b=some o->H1 b=some o)/\∀b∈fx1,b∈fx\/H b=none/\∃vs,H1 b=some (.lst vs)) ?_ ?_
 ·rintro σ H1 ⟨v5,v6,v7,fx1,rfl,W1,re1,f1,g1⟩;obtain⟨us,hd,hr⟩:=id W1.d;have hul:=hr.length;rw[xA] at hul;refine⟨_,rfl,.inl ⟨rfl,_,ZF.of hd⟩,_,rfl,W.dl,us,v,rfl,rfl,hd,by lia,?_⟩;refine k fx1 _ (W1.addD hd re1) (fun b o nb e=>?_) (fun b hb=>?_)
  ·rw[Ze (fun z=>nb (by rw[z];simp))];exact f1 b o nb e
  ·rcases g1 b hb with z | ⟨z,vs',e⟩
   ·exact .inl z
   ·obtain⟨u1,e1,_⟩:=hW.d;exact .inr ⟨z,vs',by rw[Ze (fun y=>by rw[y,e1] at z;cases z)];exact e⟩
 ·intro D' hn' _ _ _;refine⟨_,rfl,v,fx,x,rfl,re,fun H1 S1=>⟨_,rfl,?_⟩⟩;have W1:=hW.same S1;have re1:=YC.mono (Vc (xs':=fx) (fun _ _ e=>S1 _ _ e) (fun x _ o e=>S1 _ _ e) fun _ z=>z) _ _ re;cases x with
  | s d =>
   refine Z4 (hn' _ _ ⟨none,none,none,fx,rfl,?_,re1,fun b o _ e=>S1 _ _ e,fun b hb=>.inl hb⟩);show ZX s H1 fx W as (bs ++ []) ss;rw[yD];exact W1
  | c d day need o1 o2 f =>
   refine Z7 ?_;obtain⟨hl1,hl2⟩:=hx _ _ _ _ _ _ rfl;obtain⟨q,l1,l2,rfl,hq,hf1,hf2⟩:=DT re1;have h1:=(Bd hf1).1;have h2:=(Bd hf2).1;refine⟨_,rfl,_,rfl,q,_,_,_,rfl,rfl,ZS.of hq,Xo _ _ _ _ _,l1,rfl,⟨_,ZF.of h1⟩,?_⟩;refine Je (xs:=o1.map V.str) (fun i ys H'=>ZA H1 H'/\ZN H' (Yg (fun n=>wg (Zf as).1 n day) (o1.take i)) ys) ⟨ZA.refl _,rfl⟩ (by rw[xA];lia) (fun i ys H' _ ⟨S,_⟩=>ZF.of (S _ _ h1)) (fun i ys H' ⟨_,r⟩=>by rw[r.len,xA,xT];lia) ?_ ?_
   ·rintro i x ys H' hx ⟨S,r⟩ ls hls;obtain⟨u,rfl⟩:=Uu hls;rw[xE] at hx;obtain⟨n,hn'',rfl⟩:=xP.mp hx;refine⟨⟨[_],rfl,rfl⟩,Z7 ⟨_,rfl,_,rfl,_,rfl,_,rfl,_,rfl,q,_,_,_,rfl,rfl,ZS.of (S _ _ hq),Dw _ _ _ _ _,W.dl,fx,as,n,day,rfl,(W1.same S).d,fun H'' S'=>⟨aB rfl,fun p hp=>⟨(S.trans S').trans (ZA.new hp),?_⟩⟩⟩⟩;show ZN _ ((o1.take (i+1)).map fun n=>(n,wg (Zf as).1 n day)) _;rw[xW,hn'',xO];exact ZN.snoc (p:=(n,wg (Zf as).1 n day)) Zi (ZN.mono (ZA.t (S'.trans (ZA.new hp))) r)
   rintro ys1 H2 ⟨S2,r1⟩ a1 ha1;rw[xA,xX] at r1;refine nw (o:=.lst ys1) ha1 fun H3 T1 k1=>?_;have S12:=S2.trans T1;refine Z8 ?_;dsimp only [Yy];refine⟨_,rfl,_,rfl,q,_,_,_,rfl,rfl,ZS.of (S12 _ _ hq),N9 _ _ _ _ _,l2,rfl,⟨_,ZF.of (S12 _ _ h2)⟩,?_⟩;refine Je (xs:=o2.map V.str) (fun i ys H'=>ZA H3 H'/\ZN H' (Yg (fun n=>wg (Zf as).1 n day) (o2.take i)) ys) ⟨ZA.refl _,rfl⟩ (by rw[xA];lia) (fun i ys H' _ ⟨S,_⟩=>ZF.of (S _ _ (S12 _ _ h2))) (fun i ys H' ⟨_,r⟩=>by rw[r.len,xA,xT];lia) ?_ ?_
   ·rintro i x ys H' hx ⟨S,r⟩ ls hls;obtain⟨u,rfl⟩:=Uu hls;rw[xE] at hx;obtain⟨n,hn'',rfl⟩:=xP.mp hx;refine⟨⟨[_],rfl,rfl⟩,Z7 ⟨_,rfl,_,rfl,_,rfl,_,rfl,_,rfl,q,_,_,_,rfl,rfl,ZS.of (S _ _ (S12 _ _ hq)),Dw _ _ _ _ _,W.dl,fx,as,n,day,rfl,((W1.same S12).same S).d,fun H'' S'=>⟨aB rfl,fun p hp=>⟨(S.trans S').trans (ZA.new hp),?_⟩⟩⟩⟩;show ZN _ ((o2.take (i+1)).map fun n=>(n,wg (Zf as).1 n day)) _;rw[xW,hn'',xO];exact ZN.snoc (p:=(n,wg (Zf as).1 n day)) Zi (ZN.mono (ZA.t (S'.trans (ZA.new hp))) r)
   rintro ys2 H4 ⟨S4,r2⟩ a2 ha2;rw[xA,xX] at r2;refine nw (o:=.lst ys2) ha2 fun H5 T2 k2=>?_;show Wp 6 (.ref a2) _ _ _;refine Z8 ?_;dsimp only;refine Ny ?_;have S15:=S12.trans (S4.trans T2);have S05:=S1.trans S15;have n1:H a1=none:=(S1.trans S2).free ha1;have n2:H a2=none:=(S1.trans (S12.trans S4)).free ha2;refine V4 (fun σ H6=>∃u4:V,σ = [some (.ref W.wl),some (.ref q),some (.ref W.dl),some (.ref W.sl),some (.ref W.tl),some (.ref a1),some (.ref a2),some u4]/\YC (fz [] H6) (Ao (C9 d)) u4/\ZA H5 H6) ?_ ?_
   ·rintro σ H6 ⟨u4,rfl,r4,S6⟩;have S16:=S15.trans S6;have S06:=S05.trans S6;have hq6:=S16 _ _ hq
    have out:∀{b:XW},H b=none->b≠s/\b ∉ [W.dl,W.sl,W.tl]:=fun {b} e=>⟨Zl hos e |>.symm,fun z=>by
     obtain⟨u1,e1,_⟩:=hW.d;obtain⟨u2,e2,_⟩:=hW.u;obtain⟨u3,e3,_⟩:=hW.t;simp only[xC,xU,or_false] at z;rcases z with z | z | z
     ·rw[z,e1] at e;cases e
     ·rw[z,e2] at e;cases e
     ·rw[z,e3] at e;cases e⟩
    have W6:=(W1.same S16).more (gx:=[a1,a2]) (fun b hb=>by simp at hb;rcases hb with rfl | rfl;exact(out n1).1;exact(out n2).1) (fun b hb=>by simp at hb;rcases hb with rfl | rfl;exact(out n1).2;exact(out n2).2);obtain⟨us,hu,hur⟩:=id W6.u;have hul:=hur.length;rw[xA] at hul;refine⟨_,rfl,.inl ⟨rfl,_,ZF.of hu⟩,_,rfl,_,rfl,_,rfl,_,rfl,q,_,_,_,rfl,rfl,ZS.of hq6,LQ _ _ _ _ _,_,rfl,aB rfl,fun qt hqt=>?_⟩;refine nw (o:=.tup [.ref a1,.ref a2,.int need,u4]) hqt fun H7 T7 k7=>?_;have W7:=W6.same T7;have hu7:=T7 _ _ hu;refine⟨W.sl,us,.ref qt,rfl,rfl,hu7,by lia,?_⟩;have S37:=(T1.trans (S4.trans T2)).trans (S6.trans T7);have S57:=T2.trans (S6.trans T7);have hsd:YC (fz ([a1,a2]++fx) H7) (Wo ⟨Yg (fun n=>wg (Zf as).1 n day) o1,Yg (fun n=>wg (Zf as).1 n day) o2,need,C9 d⟩) (.ref qt) :=
     ⟨qt,_,rfl,Y2 k7,⟨_,_,rfl,⟨a1,ys1,rfl,Ub (by simp) ((S4.trans S57) _ _ k1),ZN.fz (ZN.mono (ZA.t S37) r1)⟩,⟨_,_,rfl,⟨a2,ys2,rfl,Ub (by simp) ((S6.trans T7) _ _ k2),ZN.fz (ZN.mono (ZA.t S57) r2)⟩,⟨_,_,rfl,rfl,⟨_,_,rfl,YC.mono (Vc (fun _ _ e=>T7 _ _ e) (fun x hx=>by cases hx) fun x hx=>by cases hx) _ _ r4,rfl⟩⟩⟩⟩⟩
    have W8:=W7.addU hu7 hsd;have re7:YC (fz ([a1,a2]++fx) H7) (adT (.c d day need o1 o2 f)) (.ref q):=YC.mono (Vc (fun _ _ e=>(S16.trans T7) _ _ e) (fun x hx o e=>(S16.trans T7) _ _ e) fun x hx=>xI _ hx) _ _ re1;have re8:=YC.mono (W7.grow (l:=W.sl) (v:=.ref qt) (by simp) hu7).1 _ _ re7;have f8:∀b o,b ∉ [W.dl,W.sl,W.tl]->H b=some o->(upd H7 W.sl (.lst (us ++ [.ref qt]))) b=some o:=fun b o nb e=>by rw[Ze (fun z=>nb (by rw[z];simp))];exact T7 _ _ (S06 _ _ e)
    have f87:∀b o,b ∉ [W.dl,W.sl,W.tl]->H7 b=some o->(upd H7 W.sl (.lst (us ++ [.ref qt]))) b=some o:=fun b o nb e=>by rw[Ze (fun z=>nb (by rw[z];simp))];exact e
    generalize (upd H7 W.sl (.lst (us ++ [.ref qt])))=H8 at W8 re8 f8 f87 ⊢;obtain⟨ts,ht,htr⟩:=id W8.t;have htl:=htr.length;rw[xA] at htl;refine⟨_,rfl,.inl ⟨rfl,_,ZF.of ht⟩,_,rfl,W.tl,ts,.ref q,rfl,rfl,ht,by lia,?_⟩;have f9:∀b o,b ∉ [W.dl,W.sl,W.tl]->H7 b=some o->(upd H8 W.tl (.lst (ts ++ [.ref q]))) b=some o:=fun b o nb e=>by rw[Ze (fun z=>nb (by rw[z];simp))];exact f87 b o nb e
    refine hn' _ _ ⟨_,_,_,[a1,a2]++fx,rfl,W8.addT ht re8,YC.mono (W8.grow (l:=W.tl) (v:=.ref q) (by simp) ht).1 _ _ re8,fun b o nb e=>?_,fun b hb=>?_⟩
    ·rw[Ze (fun z=>nb (by rw[z];simp))];exact f8 b o nb e
    ·simp at hb;rcases hb with rfl | rfl | hb
     ·exact .inr ⟨n1,ys1,f9 _ _ (out n1).2 (S4.trans S57 _ _ k1)⟩
     ·exact .inr ⟨n2,ys2,f9 _ _ (out n2).2 ((S6.trans T7) _ _ k2)⟩
     ·exact .inl hb
   ·intro D2 hn2 _ _ _;have hq5:=S15 _ _ hq;cases d with
    | acc i n =>
     refine⟨_,rfl,q,_,0,_,rfl,rfl,ZS.of hq5,rfl,rfl,_,rfl,Zy (fun _=>?_) (fun z=>absurd rfl z)⟩;refine⟨_,rfl,q,_,1,_,rfl,rfl,ZS.of hq5,rfl,_,rfl,q,_,2,_,rfl,rfl,ZS.of hq5,rfl,aB rfl,fun p hp=>?_⟩;exact Z8 (hn2 _ _ ⟨.ref p,rfl,⟨p,_,rfl,Y2 Zi,⟨_,_,rfl,rfl,⟨_,_,rfl,rfl,rfl⟩⟩⟩,ZA.new hp⟩)
    | wer x y many =>
     exact⟨_,rfl,q,_,0,_,rfl,rfl,ZS.of hq5,rfl,rfl,_,rfl,Zy (fun z=>absurd z aA) (fun _=>hn2 _ _ ⟨.non,rfl,rfl,ZA.refl _⟩)⟩
    | clm x i =>
     exact⟨_,rfl,q,_,0,_,rfl,rfl,ZS.of hq5,rfl,rfl,_,rfl,Zy (fun z=>absurd z aA) (fun _=>hn2 _ _ ⟨.non,rfl,rfl,ZA.refl _⟩)⟩
def Vo:AD->Bool
 | .s (.bring ..)=>true
 | _=>false
theorem Dg(x:AD):(Wa x = "bring")↔Vo x=true:=by
 cases x with
 | s d=>cases d<;>simp[Wa,Vo]<;>decide +kernel
 | c d day need o1 o2 f=>cases d<;>simp[Wa,Vo]<;>decide +kernel
def CL(ns:XO)(nb nc:Nat)(day:Int)(dy:Int):CD->Prop
 | .wer x y many=>x∈ns/\y∈ns/\1<=many/\many<=1000000/\dy=day
 | .clm x i=>x∈ns/\0<=i/\i < nb/\dy=day
 | .acc i n=>n∈ns/\0<=i/\i < nc/\day<=dy/\dy<=9999
structure Eu (ns:XO) (as bs:List AD) (ss:List ZT):Prop where
 al:as.length<=1000
 sl:ss.length<=1000
 bl:bs.length=ss.length
 ok:∀t∈ss,Uq t/\0 < t.ones.length
 nm:∀t∈ss,∀n∈(t.ones++t.others).map (·.1),n∈ns
 dy:∀x∈bs,∃d day need o1 o2 f,x = .c d day need o1 o2 f/\0<=day/\day<=9999
 wg:∀n d,0<=wg (Zf as).1 n d/\wg (Zf as).1 n d<=1000
 nd:ns.Nodup
 n0 : 0 < ns.length
 n1:ns.length<=1000
def CU(ns:XO)(need:Int)(o1 o2:XO):Prop:=1<=need/\need<=12000/\(∀n∈o1++o2,n∈ns)/\(o1++o2).Nodup/\0 < o1.length/\(o1++o2).length<=6
inductive VD(vs:aG)(H:Hp)(Q:VK)(z3:XK):Prop
 |mk(s la nl) (ns) (W) (fx) (as bs) (ss) (day)(_:vs = [.ref s,.ref W.wl,.ref nl,.int day])(_:ZJ H s la)(_:ZX s H fx W as bs ss)(_:Eu ns as bs ss)(_:H nl=some (.lst (ns.map V.str)))(_:nl≠s)(_:0<=day)(_:day<=9999)(_:∀q l1 l2 d dy need o1 o2 H',CL ns (as.filter Vo).length ss.length day dy d->CU ns need o1 o2->H q=none->H l1=none->H l2=none->H' q=some (.tup (cdV dy need l1 l2 d))->H' l1=some (.lst (o1.map V.str))->H' l2=some (.lst (o2.map V.str))->ZJ H' s la->ZE s H H'->Q (.ref q) H')
theorem Az(kx:ZE s H H')(hs':ZJ H' s la)(e:H' b=none):H b=none:=by
 cases eb:H b with
 | none=>rfl
 | some o =>
  by_cases z:b=s
  ·obtain⟨_,_,_,_,_,y,_⟩:=hs';rw[z,y] at e;cases e
  ·rw[kx b o z eb] at e;cases e
abbrev Io:Stmt:=top 79
theorem Mz(Ziu:YB K mg "_law_case_deed" Io)(T:Txt mg)(Yd:Fn P w K mg base "_law_next" ["_law_src_here","_law_base"] 1 YD)(Vj:Fn P w K mg base "_law_one" ["_law_src_here","_law_names_here"] 2 VY)(Zzk:Fn P w K mg base "_law_sides" ["_law_src_here","_law_world","_law_names_here","_law_day"] 3 Te)(Zzl:Fn P w K mg base "_law_accused" ["_law_src_here","_law_world"] 2 VH):Fn P w K mg base "_law_case_deed" ["_law_src_here","_law_world","_law_names_here","_law_day"] 4 VD:=by
 refine Ziu.fq ["_law_src_here","_law_world","_law_names_here","_law_day","_law_need","_law_ones","_law_others","_law_kind_here","_law_case","_law_name","_law_things","_law_many"] fun H vs Q E hr h=>?_;obtain⟨s,la,nl,ns,W,fx,as,bs,ss,day,rfl,hs,hW,ok,hn,hne,y0,y1,k⟩:=h
 refine⟨rfl,_,(Zc (Um (Zk Zzk (Za Q0 (Za Q8 (Za Q9 (Za Qa Zb))))) (Bj (by rfl) (Yx (Ye 4) (Yx (Ye 5) (Yx (Ye 6) V3)))))
 (Zc (Zv 7 (Zk Yd (Za Q0 (Za Zd Zb))))
 (Zc (Zp (QW.pt (Vl (Zq JT Qe Zd (Zu _)) (Uo (Zq JT (Z5 Yp T.len Yh (Za (Zh Yb Q8 Zd (fun _ _=>rfl)) Zb)) Zd (Zu _))))) (Zc (Um (Zk Zzl (Za Q0 (Za Q8 Zb))) (Bj (by rfl) (Yx (Ye 8) (Yx (Ye 9) V3))))
 (Zg (Zw (Z9 (Za Z2 (Za (qvN 8) (Za (qvN 9) (Za (Z5 (DF (by rfl)) T.max BS (Za Qa (Za (Zh Zs (Zh Yb (Zh Yb Q8 Zd (fun _ _=>rfl)) (qvN 8) (fun _ _=>rfl)) (J0 Jr Zd) (fun _ _=>rfl)) Zb))) (Za Qb (Za Qc (Za Qd Zb))))))))))) Zo)
 (Zc (Zv 10 (Z5 Yp T.len Yh (Za (Vz (locs:=["_law_deed_here"]) (fr:=[]) ⟨rfl,aA,aA,aA,aA,aA⟩ .nil rfl (Y6 (Zh Yb Q8 Zd (fun _ _=>rfl))) ⟨fun _ _ _ _ _ _=>by
  have cnd:(inN ["_law_deed_here"] []).Nodup:=aA
  exact⟨(Wn 0 cnd),(Ar (Zq Yo (Zh BN (Y1 0) Zd (fun _ _=>rfl)) Z2 (Zu _))),(Y1 0)⟩⟩) Zb)))
 (Zc (Zp (QW.pt (Vl (Zq Yo Qe Zd (Zu _)) (Uo (Zq JT (qvN 10) Zd (Zu _))))) (Zg (Zw (Z9 (Za Z2 (Za (Zk Vj (Za Q0 (Za Q9 Zb))) (Za (Zk Yd (Za Q0 (Za (qvN 10) Zb))) (Za Qa (Za Qb (Za Qc (Za Qd Zb)))))))))) Zo)
 (Zc (Zv 11 (Z0 Wf Zd (Zk Yd (Za Q0 (Za (Zh Yb (Yl (Za Zd (Za Zd Zb))) (Zk Yd (Za Q0 (Za Zd Zb))) (fun _ _=>rfl)) Zb)))))
 (Zg (Zw (Z9 (Za Z2 (Za (Zk Vj (Za Q0 (Za Q9 Zb))) (Za (Zk Vj (Za Q0 (Za Q9 Zb))) (Za (qvN 11) (Za Qa (Za Qb (Za Qc (Za Qd Zb))))))))))))))))),?_⟩
 have hz:=aC
 have n0:=ok.n0;have n1:=ok.n1;refine⟨_,rfl,_,rfl,_,rfl,_,rfl,s,la,nl,ns,W,fx,as,bs,ss,day,rfl,hs,hW,hn,hne,ok.nd,ok.n0,ok.n1,ok.wg,fun q l1 l2 o1 o2 need H1 g0 g1 g2 g3 g4 g5 f1 f2 hq h1 h2 hs1 sx1=>?_⟩;have dr:CU ns need o1 o2:=⟨g0,g1,g2,g3,g4,g5⟩;obtain⟨_,_,_,_,_,hsl,_⟩:=id hs;have ne1:l1≠s:=fun z=>by rw[z,hsl] at f1;cases f1
 have ne2:l2≠s:=fun z=>by rw[z,hsl] at f2;cases f2
 refine⟨q,_,rfl,ZS.of hq,rfl,_,_,rfl,_,_,rfl,_,_,rfl,rfl,?_⟩
 try dsimp only [Yy]
 refine⟨_,rfl,s,la,5,rfl,hs1,aA,aA,fun kd H2 kd0 kd1 hs2 sx2=>?_⟩;refine Z8 ?_
 try dsimp only [Yy]
 have sx02:ZE s H H2:=sx1.trans sx2;have W2:=hW.x hs sx02;have nl2:=sx02 _ _ hne hn;obtain⟨us,hu,hur⟩:=id W2.u;have hul:=hur.length;rw[xA] at hul;refine V4 (fun σ H'=>σ = [some (.ref s),some (.ref W.wl),some (.ref nl),some (.int day),some (.int need),some (.ref l1),some (.ref l2),some (.int kd),none,none,none,none]/\H'=H2) ?_ ?_
 ·rintro σ H' ⟨rfl,rfl⟩;obtain⟨vs,hv,hvr⟩:=id W2.d;have hvl:=hvr.length;rw[xA] at hvl;have al:=ok.al;refine⟨_,rfl,W.wl,_,0,_,rfl,rfl,ZF.of W2.e,rfl,W.dl,rfl,⟨_,ZF.of hv⟩,?_⟩;refine Je (xs:=vs) (fun i ys H''=>H''=H'/\ys.length=((as.take i).filter Vo).length) ⟨rfl,rfl⟩ (by lia) (fun i ys H'' _ ⟨e,_⟩=>by rw[e];exact ZF.of hv) (fun i ys H'' ⟨_,e⟩=>by rw[e];exact yC (yO _ _) (by rw[xT];lia)) ?_ ?_
  ·rintro i x ys H'' hx ⟨rfl,e⟩ ls hls;obtain⟨u,rfl⟩:=Uu hls;obtain⟨x0,hx0,re⟩:=hvr.get hx;rw[xE] at hx0;obtain⟨x1,hx1,rfl⟩:=xP.mp hx0;obtain⟨a,us',rfl,ha,hw⟩:=Bh re;have et:as.take (i+1)=as.take i ++ [x1]:=by rw[xW,hx1];rfl
   rw[et,zG];refine⟨⟨[_],rfl,rfl⟩,_,rfl,a,_,0,.str (Wa x1),rfl,rfl,ZS.of ha,Yu hw,rfl,_,rfl,Zy (fun z=>⟨_,rfl,rfl,?_⟩) (fun z=>⟨rfl,?_⟩)⟩
   ·have:=(Dg x1).mp (by injection z);rw[xF,xF,e,List.filter_cons_of_pos this];rfl
   ·have:¬Vo x1=true:=fun y=>z (by rw[(Dg x1).mpr y]);rw[xF,e,List.filter_cons_of_neg this];rfl
  rintro ys H'' ⟨rfl,e⟩ lt hlt;rw[hvl,xX] at e;refine nw (o:=.lst ys) hlt fun H3 T1 k1=>?_;refine⟨lt,_,rfl,.inl (ZF.of k1),?_⟩;rw[e];refine Z8 ?_
  try dsimp only [Yy]
  have hs3:=hs2.keep T1;have sx03:ZE s H H3:=sx02.trans T1.x;have nl3:=T1 _ _ nl2;have h13:=T1 _ _ (sx2 _ _ ne1 h1);have h23:=T1 _ _ (sx2 _ _ ne2 h2);have nbl:(as.filter Vo).length<=1000:=yC (yO _ _) al;refine V4 (fun σ H'=>σ = [some (.ref s),some (.ref W.wl),some (.ref nl),some (.int day),some (.int need),some (.ref l1),some (.ref l2),some (.int kd),none,none,some (.int (as.filter Vo).length),none]/\H'=H3) ?_ ?_
  ·rintro σ H' ⟨rfl,rfl⟩;refine⟨_,rfl,aB rfl,fun la2 hla2=>?_⟩;refine nw (o:=.lst [.int 9,.int 1000000]) hla2 fun H4 T2 k2=>?_;have hs4:=hs3.keep T2;have nla:la2≠s:=(hs3.ne hla2).1;refine⟨_,rfl,s,la,2,rfl,hs4,aA,aA,fun z2 H5 z20 z21 hs5 sx5=>?_⟩;obtain⟨b,hb,hb2⟩:∃b:Int,atI [V.int 9,V.int 1000000] z2=some (.int b)/\0 < b/\b<=1000000:=by
    rcases(show z2=0\/z2=1 by lia) with rfl | rfl
    ·exact⟨9,rfl,aA,aA⟩
    ·exact⟨1000000,rfl,aA,aA⟩
   refine⟨la2,_,_,.int b,rfl,rfl,ZF.of (sx5 _ _ nla k2),hb,s,la,b,rfl,hs5,by lia,by lia,fun m H6 m0 m1 hs6 sx6=>?_⟩;refine⟨_,_,rfl,rfl,?_⟩;refine Z8 ?_
   try dsimp only [Yy]
   have sx06:ZE s H H6:=((sx03.trans T2.x).trans sx5).trans sx6;have sx36:ZE s H' H6:=(T2.x.trans sx5).trans sx6;refine⟨_,rfl,_,rfl,s,la,nl,ns,rfl,hs6,sx06 _ _ hne hn,hne,n0,n1,fun x H7 mx hs7 sx7=>?_⟩;refine⟨_,rfl,_,rfl,s,la,nl,ns,rfl,hs7,sx7 _ _ hne (sx06 _ _ hne hn),hne,n0,n1,fun y H8 my hs8 sx8=>?_⟩;refine⟨_,rfl,_,rfl,_,rfl,_,rfl,_,rfl,aB rfl,fun qq hqq=>?_⟩;have sx38:ZE s H' H8:=(sx36.trans sx7).trans sx8;have sx08:ZE s H H8:=sx03.trans sx38;have T3:=ZA.new (o:=.tup (cdV day need l1 l2 (.wer x y (1+m)))) hqq;exact k qq l1 l2 (.wer x y (1+m)) day need o1 o2 _ ⟨mx,my,by lia,by lia,rfl⟩ dr (Az sx08 hs8 hqq) f1 f2 Zi (T3 _ _ (sx38 _ _ ne1 h13)) (T3 _ _ (sx38 _ _ ne2 h23)) (hs8.keep T3) (sx08.trans T3.x)
  ·intro D' hn' hrt _ _;refine⟨_,rfl,rfl,_,rfl,Zy (fun z=>?_) (fun z=>Z4 (hn' _ _ ⟨rfl,rfl⟩))⟩;refine⟨_,rfl,_,_,rfl,rfl,_,rfl,Zy (fun z2=>?_) (fun z2=>hn' _ _ ⟨rfl,rfl⟩)⟩;refine⟨_,rfl,_,rfl,s,la,nl,ns,rfl,hs3,nl3,hne,n0,n1,fun x H4 mx hs4 sx4=>?_⟩;refine⟨_,rfl,_,rfl,s,la,_,rfl,hs4,by lia,by lia,fun j H5 j0 j1 hs5 sx5=>?_⟩;refine⟨_,rfl,_,rfl,_,rfl,_,rfl,aB rfl,fun qq hqq=>hrt _ _ ?_⟩;have sx35:ZE s H3 H5:=sx4.trans sx5;have sx05:ZE s H H5:=sx03.trans sx35;have T3:=ZA.new (o:=.tup (cdV day need l1 l2 (.clm x j))) hqq;exact k qq l1 l2 (.clm x j) day need o1 o2 _ ⟨mx,j0,j1,rfl⟩ dr (Az sx05 hs5 hqq) f1 f2 Zi (T3 _ _ (sx35 _ _ ne1 h13)) (T3 _ _ (sx35 _ _ ne2 h23)) (hs5.keep T3) (sx05.trans T3.x)
 ·intro D' hn' hrt _ _;refine⟨_,rfl,_,_,rfl,rfl,_,rfl,Zy (fun z=>?_) (fun z=>Z4 (hn' _ _ ⟨rfl,rfl⟩))⟩;refine⟨_,rfl,W.wl,_,1,_,rfl,rfl,ZF.of W2.e,rfl,W.sl,us,rfl,.inl (ZF.of hu),_,_,rfl,rfl,_,rfl,Zy (fun z2=>?_) (fun z2=>hn' _ _ ⟨rfl,rfl⟩)⟩;refine⟨_,rfl,_,rfl,s,la,W,fx,as,bs,ss,rfl,hs2,W2,by lia,ok.sl,ok.ok,fun q2 i t n H3 ht hnm hq2 hs3 sx3=>?_⟩;have sx03:ZE s H H3:=sx02.trans sx3;have W3:=hW.x hs sx03;obtain⟨ts,hts,htr⟩:=id W3.t;have hil:=(xH.mp ht).1;have htl:=htr.length;rw[xA,ok.bl] at htl;obtain⟨v,hv⟩:∃v,ts[i]? = some v:=⟨_,xB (by lia)⟩;obtain⟨x0,hx0,re⟩:=htr.get hv;rw[xE] at hx0;obtain⟨x1,hx1,rfl⟩:=xP.mp hx0;obtain⟨d',dy',nd',p1,p2,ff,rfl,e0,e1⟩:=ok.dy x1 (xM hx1);obtain⟨qc,m1,m2,rfl,hqc,_⟩:=DT re;refine⟨q2,_,rfl,ZS.of hq2,rfl,_,_,rfl,_,_,rfl,rfl,?_⟩
  try dsimp only [Yy]
  refine⟨_,rfl,_,rfl,_,rfl,_,rfl,W.wl,_,2,_,rfl,rfl,ZF.of W3.e,rfl,_,rfl,W.tl,ts,i,.ref qc,rfl,rfl,ZF.of hts,Yu hv,_,rfl,qc,_,_,_,rfl,rfl,ZS.of hqc,Dw _ _ _ _ _,_,_,rfl,?_⟩;have mb:day<=(if dy' > day then dy' else day)/\(if dy' > day then dy' else day)<=9999:=by split<;>lia
  generalize (if dy' > day then dy' else day)=dy at mb ⊢;refine⟨_,rfl,_,rfl,_,rfl,aB rfl,fun qq hqq=>hrt _ _ ?_⟩;have T3:=ZA.new (o:=.tup (cdV dy need l1 l2 (.acc i n))) hqq;exact k qq l1 l2 (.acc i n) dy need o1 o2 _ ⟨ok.nm t (xM ht) n hnm,by lia,by lia,mb.1,mb.2⟩ dr (Az sx03 hs3 hqq) f1 f2 Zi (T3 _ _ ((sx2.trans sx3) _ _ ne1 h1)) (T3 _ _ ((sx2.trans sx3) _ _ ne2 h2)) (hs3.keep T3) (sx03.trans T3.x)
def JN(day:Int):Prop:=5<=day/\day<=24
def Ef(ns:XO)(nb:Nat):SD->Prop
 | .come _ _ _=>False
 | .rise n day wt=>n∈ns/\JN day/\1<=wt/\wt<=1000
 | .die n he day=>n∈ns/\he∈ns/\JN day
 | .pen n=>n∈ns
 | .bring n day=>n∈ns/\JN day
 | .give i x y day=>x∈ns/\y∈ns/\0<=i/\i < nb/\JN day
 | .pay x y many day=>x∈ns/\y∈ns/\1<=many/\many<=9/\JN day
inductive UK(vs:aG)(H:Hp)(Q:VK)(z3:XK):Prop
 |mk(s la nl) (ns) (W) (fx) (as bs) (ss)(_:vs = [.ref s,.ref W.wl,.ref nl])(_:ZJ H s la)(_:ZX s H fx W as bs ss)(_:Eu ns as bs ss)(_:H nl=some (.lst (ns.map V.str)))(_:nl≠s)(_:(∀q d H',Ef ns (as.filter Vo).length d->H q=none->H' q=some (.tup (sdV d))->ZJ H' s la->ZE s H H'->Q (.ref q) H'))(_:∀q l1 l2 d day dy need o1 o2 H',JN day->CL ns (as.filter Vo).length ss.length day dy d->CU ns need o1 o2->H q=none->H l1=none->H l2=none->H' q=some (.tup (cdV dy need l1 l2 d))->H' l1=some (.lst (o1.map V.str))->H' l2=some (.lst (o2.map V.str))->ZJ H' s la->ZE s H H'->Q (.ref q) H')
abbrev Hs:Stmt:=top 80
theorem MQ(Ziv:YB K mg "_law_deed" Hs)(T:Txt mg)(Yd:Fn P w K mg base "_law_next" ["_law_src_here","_law_base"] 1 YD)(Vj:Fn P w K mg base "_law_one" ["_law_src_here","_law_names_here"] 2 VY)(Zzn:Fn P w K mg base "_law_case_deed" ["_law_src_here","_law_world","_law_names_here","_law_day"] 4 VD):Fn P w K mg base "_law_deed" ["_law_src_here","_law_world","_law_names_here"] 5 UK:=by
 refine Ziv.fq ["_law_src_here","_law_world","_law_names_here","_law_day","_law_kind_here","_law_things"] fun H vs Q E hr h=>?_;obtain⟨s,la,nl,ns,W,fx,as,bs,ss,rfl,hs,hW,ok,hn,hne,kS,kC⟩:=h
 refine⟨rfl,_,(Zc (Zv 3 (Z0 Wf Zd (Zk Yd (Za Q0 (Za Zd Zb))))) (Zc (Zv 4 (Zk Yd (Za Q0 (Za Zd Zb)))) (Zc (Zp (Zq U0 Qb Zd (Zu _)) (Zg (Zw (Zk Zzn (Za Q0 (Za Q8 (Za Q9 (Za Qa Zb))))))) Zo) (Zc (Zv 5 (Z5 Yp T.len Yh (Za (Vz (locs:=["_law_deed_here"]) (fr:=[]) ⟨rfl,aA,aA,aA,aA,aA⟩ .nil rfl (Y6 (Zh Yb Q8 Zd (fun _ _=>rfl))) ⟨fun _ _ _ _ _ _=>by
  have cnd:(inN ["_law_deed_here"] []).Nodup:=aA
  exact⟨(Wn 0 cnd),(Ar (Zq Yo (Zh BN (Y1 0) Zd (fun _ _=>rfl)) Z2 (Zu _))),(Y1 0)⟩⟩) Zb)))
 (Zc (Zp (QW.pt (Vl (Zq U0 Qb Zd (Zu _)) (Uo (Zq JT Qc Zd (Zu _))))) (Zg (Zw (Z9 (Za Z2 (Za (Zk Yd (Za Q0 (Za Qc Zb))) (Za (Zk Vj (Za Q0 (Za Q9 Zb))) (Za (Zk Vj (Za Q0 (Za Q9 Zb))) (Za Qa Zb)))))))) Zo)
 (Zc (Zp (Zq Yo Qb Zd (Zu _)) (Zg (Zw (Z9 (Za Z2 (Za (Zk Vj (Za Q0 (Za Q9 Zb))) (Za (Zk Vj (Za Q0 (Za Q9 Zb))) (Za (Z0 Wf Zd (Zk Yd (Za Q0 (Za Zd Zb)))) (Za Qa Zb)))))))) Zo)
 (Zc (Zp (Zq Yo Qb Zd (Zu _)) (Zg (Zw (Z9 (Za Z2 (Za (Zk Vj (Za Q0 (Za Q9 Zb))) (Za Qa (Za (Z0 Wf Zd (Zk Yd (Za Q0 (Za (Zh Yb (Yl (Za Zd (Za Zd Zb))) (Zk Yd (Za Q0 (Za Zd Zb))) (fun _ _=>rfl)) Zb)))) Zb))))))) Zo)
 (Zc (Zp (Zq Yo Qb Zd (Zu _)) (Zg (Zw (Z9 (Za Z2 (Za (Zk Vj (Za Q0 (Za Q9 Zb))) (Za Qa (Za (Zk Vj (Za Q0 (Za Q9 Zb))) Zb))))))) Zo)
 (Zc (Zp (Zq Yo Qb Zd (Zu _)) (Zg (Zw (Z9 (Za Z2 (Za (Zk Vj (Za Q0 (Za Q9 Zb))) Zb))))) Zo)
 (Zg (Zw (Z9 (Za Z2 (Za (Zk Vj (Za Q0 (Za Q9 Zb))) (Za Qa Zb))))))))))))))),?_⟩
 have hz:=aC
 have n0:=ok.n0;have n1:=ok.n1;refine⟨_,rfl,s,la,20,rfl,hs,aA,aA,fun d1 H1 d10 d11 hs1 sx1=>?_⟩;refine⟨_,_,rfl,rfl,?_⟩;refine Z8 ?_
 try dsimp only [Yy]
 refine⟨_,rfl,s,la,16,rfl,hs1,aA,aA,fun kd H2 kd0 kd1 hs2 sx2=>?_⟩;refine Z8 ?_
 try dsimp only [Yy]
 have sx02:ZE s H H2:=sx1.trans sx2;have W2:=hW.x hs sx02;have nl2:=sx02 _ _ hne hn;have hdy:JN (5+d1):=⟨by lia,by lia⟩;refine⟨_,rfl,_,_,rfl,rfl,_,rfl,Zy (fun z=>?_) (fun z=>?_)⟩
 ·exact⟨_,rfl,_,rfl,_,rfl,_,rfl,s,la,nl,ns,W,fx,as,bs,ss,5+d1,rfl,hs2,W2,ok,nl2,hne,by lia,by lia,fun q l1 l2 d dy need o1 o2 H' c1 c2 f0 f1 f2 e0 e1 e2 hs' sx'=>kC q l1 l2 d _ dy need o1 o2 H' hdy c1 c2 (Az sx02 hs2 f0) (Az sx02 hs2 f1) (Az sx02 hs2 f2) e0 e1 e2 hs' (sx02.trans sx')⟩
 try dsimp only [Yy]
 obtain⟨vs,hv,hvr⟩:=id W2.d;have hvl:=hvr.length;rw[xA] at hvl;have al:=ok.al;refine⟨_,rfl,W.wl,_,0,_,rfl,rfl,ZF.of W2.e,rfl,W.dl,rfl,⟨_,ZF.of hv⟩,?_⟩;refine Je (xs:=vs) (fun i ys H''=>H''=H2/\ys.length=((as.take i).filter Vo).length) ⟨rfl,rfl⟩ (by lia) (fun i ys H'' _ ⟨e,_⟩=>by rw[e];exact ZF.of hv) (fun i ys H'' ⟨_,e⟩=>by rw[e];exact yC (yO _ _) (by rw[xT];lia)) ?_ ?_
 ·rintro i x ys H'' hx ⟨rfl,e⟩ ls hls;obtain⟨u,rfl⟩:=Uu hls;obtain⟨x0,hx0,re⟩:=hvr.get hx;rw[xE] at hx0;obtain⟨x1,hx1,rfl⟩:=xP.mp hx0;obtain⟨a,us',rfl,ha,hw⟩:=Bh re;have et:as.take (i+1)=as.take i ++ [x1]:=by rw[xW,hx1];rfl
  rw[et,zG];refine⟨⟨[_],rfl,rfl⟩,_,rfl,a,_,0,.str (Wa x1),rfl,rfl,ZS.of ha,Yu hw,rfl,_,rfl,Zy (fun z=>⟨_,rfl,rfl,?_⟩) (fun z=>⟨rfl,?_⟩)⟩
  ·have:=(Dg x1).mp (by injection z);rw[xF,xF,e,List.filter_cons_of_pos this];rfl
  ·have:¬Vo x1=true:=fun y=>z (by rw[(Dg x1).mpr y]);rw[xF,e,List.filter_cons_of_neg this];rfl
 rintro ys H'' ⟨rfl,e⟩ lt hlt;rw[hvl,xX] at e;refine nw (o:=.lst ys) hlt fun H3 T1 k1=>?_;refine⟨lt,_,rfl,.inl (ZF.of k1),?_⟩;rw[e];refine Z8 ?_
 try dsimp only [Yy]
 have hs3:=hs2.keep T1;have sx03:ZE s H H3:=sx02.trans T1.x;have nl3:=T1 _ _ nl2;have nbl:(as.filter Vo).length<=1000:=yC (yO _ _) al;have fin:∀{H':Hp}{q:XW}{us:aG}(d:SD),sdV d=us->Ef ns (as.filter Vo).length d->ZJ H' s la->ZE s H3 H'->H' q=none->Q (.ref q) (upd H' q (.tup us)):=fun {H' q us} d e hd hs' sx' hq=>by
  subst e;have T:=ZA.new (o:=.tup (sdV d)) hq;exact kS q d _ hd (Az (sx03.trans sx') hs' hq) Zi (hs'.keep T) ((sx03.trans sx').trans T.x)
 refine V4 (fun σ H'=>σ = [some (.ref s),some (.ref W.wl),some (.ref nl),some (.int (5+d1)),some (.int kd),some (.int (as.filter Vo).length)]/\H'=H3) ?_ ?_
 ·rintro σ H' ⟨rfl,rfl⟩;refine⟨_,rfl,rfl,_,rfl,Zy (fun z=>?_) (fun z=>?_)⟩
  ·refine⟨_,rfl,_,rfl,s,la,nl,ns,rfl,hs3,nl3,hne,n0,n1,fun x H4 mx hs4 sx4=>?_⟩;refine⟨_,rfl,_,rfl,s,la,nl,ns,rfl,hs4,sx4 _ _ hne nl3,hne,n0,n1,fun y H5 my hs5 sx5=>?_⟩;refine⟨_,rfl,s,la,9,rfl,hs5,aA,aA,fun m H6 m0 m1 hs6 sx6=>?_⟩;exact⟨_,_,rfl,rfl,_,rfl,aB rfl,fun q hq=>fin (.pay x y (1+m) (5+d1)) rfl ⟨mx,my,by lia,by lia,hdy⟩ hs6 ((sx4.trans sx5).trans sx6) hq⟩
  try dsimp only [Yy]
  refine⟨_,rfl,rfl,_,rfl,Zy (fun z=>?_) (fun z=>?_)⟩
  ·refine⟨_,rfl,_,rfl,s,la,nl,ns,rfl,hs3,nl3,hne,n0,n1,fun x H4 mx hs4 sx4=>?_⟩;refine⟨_,rfl,_,rfl,aB rfl,fun la2 hla2=>?_⟩;refine nw (o:=.lst [.int 9,.int 1000]) hla2 fun H5 T2 k2=>?_;have hs5:=hs4.keep T2;have nla:la2≠s:=(hs4.ne hla2).1;refine⟨_,rfl,s,la,2,rfl,hs5,aA,aA,fun z2 H6 z20 z21 hs6 sx6=>?_⟩;obtain⟨b,hb,hb2⟩:∃b:Int,atI [V.int 9,V.int 1000] z2=some (.int b)/\0 < b/\b<=1000:=by
    rcases(show z2=0\/z2=1 by lia) with rfl | rfl
    ·exact⟨9,rfl,aA,aA⟩
    ·exact⟨1000,rfl,aA,aA⟩
   refine⟨la2,_,_,.int b,rfl,rfl,ZF.of (sx6 _ _ nla k2),hb,s,la,b,rfl,hs6,by lia,by lia,fun m H7 m0 m1 hs7 sx7=>?_⟩;exact⟨_,_,rfl,rfl,aB rfl,fun q hq=>fin (.rise x (5+d1) (1+m)) rfl ⟨mx,hdy,by lia,by lia⟩ hs7 (((sx4.trans T2.x).trans sx6).trans sx7) hq⟩
  try dsimp only [Yy]
  refine⟨_,rfl,rfl,_,rfl,Zy (fun z=>?_) (fun z=>?_)⟩
  ·refine⟨_,rfl,_,rfl,s,la,nl,ns,rfl,hs3,nl3,hne,n0,n1,fun x H4 mx hs4 sx4=>?_⟩;refine⟨_,rfl,_,rfl,_,rfl,s,la,nl,ns,rfl,hs4,sx4 _ _ hne nl3,hne,n0,n1,fun y H5 my hs5 sx5=>?_⟩;exact⟨aB rfl,fun q hq=>fin (.die x y (5+d1)) rfl ⟨mx,my,hdy⟩ hs5 (sx4.trans sx5) hq⟩
  try dsimp only [Yy]
  refine⟨_,rfl,rfl,_,rfl,Zy (fun z=>?_) (fun z=>?_)⟩
  ·refine⟨_,rfl,_,rfl,s,la,nl,ns,rfl,hs3,nl3,hne,n0,n1,fun x H4 mx hs4 sx4=>?_⟩;exact⟨aB rfl,fun q hq=>fin (.pen x) rfl mx hs4 sx4 hq⟩
  try dsimp only [Yy]
  refine⟨_,rfl,_,rfl,s,la,nl,ns,rfl,hs3,nl3,hne,n0,n1,fun x H4 mx hs4 sx4=>?_⟩;exact⟨_,rfl,aB rfl,fun q hq=>fin (.bring x (5+d1)) rfl ⟨mx,hdy⟩ hs4 sx4 hq⟩
 ·intro D' hn' hrt _ _;refine⟨_,rfl,_,_,rfl,rfl,_,rfl,Zy (fun z=>?_) (fun z=>Z4 (hn' _ _ ⟨rfl,rfl⟩))⟩;refine⟨_,rfl,_,_,rfl,rfl,_,rfl,Zy (fun z2=>?_) (fun z2=>hn' _ _ ⟨rfl,rfl⟩)⟩;refine⟨_,rfl,_,rfl,s,la,_,rfl,hs3,by lia,by lia,fun j H4 j0 j1 hs4 sx4=>?_⟩;refine⟨_,rfl,_,rfl,s,la,nl,ns,rfl,hs4,sx4 _ _ hne nl3,hne,n0,n1,fun x H5 mx hs5 sx5=>?_⟩;refine⟨_,rfl,_,rfl,s,la,nl,ns,rfl,hs5,sx5 _ _ hne (sx4 _ _ hne nl3),hne,n0,n1,fun y H6 my hs6 sx6=>?_⟩;exact⟨_,rfl,aB rfl,fun q hq=>hrt _ _ (fin (.give j x y (5+d1)) rfl ⟨mx,my,j0,j1,hdy⟩ hs6 ((sx4.trans sx5).trans sx6) hq)⟩
structure Fo (ds:List ZI):Prop where
 bst:∀n day,TY (kw ds n) day (wgp ds n day).1 (wgp ds n day).2
 bd:∀n day,0<=(wgp ds n day).2/\(wgp ds n day).2<=1000
 pos:∀n day,(wgp ds n day).1 = -1\/1<=(wgp ds n day).2
 key:∀n d,Zn ds n=some d->0<=d/\d<=9999/\∃l v,kw ds n=some l/\Zz l (.inl d)=some v
theorem Fo.nil:Fo []:=⟨fun _ _=>.inl ⟨rfl,rfl,rfl⟩,fun _ _=>⟨Int.le_refl 0,by show (0:Int)<=1000;decide⟩,fun _ _=>.inl rfl,fun n d h=>by cases h⟩
theorem Fo.isW(h:Fo ds)(hc:Zn ds n=some d)(hd:d<=day):A4 (kw ds n) day (wg ds n day)/\1<=wg ds n day/\wg ds n day<=1000:=by
 obtain⟨_,_,l,v,e,hv⟩:=h.key n d hc;refine⟨RI (h.bst n day) e hv hd,?_,(h.bd n day).2⟩;rcases h.pos n day with z | z
 ·rcases h.bst n day with⟨y,_⟩ | ⟨l',e',⟨_,_,y⟩ | ⟨y,_⟩⟩
  ·rw[e] at y;cases y
  ·rw[e] at e';cases e';exact absurd hd (y d v hv)
  ·lia
 ·exact z
theorem Fo.come(h:Fo ds)(hc:Zn ds n=none)(d0 : 0<=d)(d1:d<=9999)(w0 : 1<=wt)(w1:wt<=1000):Fo (ds ++ [.come n d wt]):=by
 have hk:kw ds n=none:=by
  have:=DY ds n;rw[hc] at this;cases e:kw ds n with
  | none=>rfl
  | some l=>rw[e] at this;cases this
 refine⟨fun m day=>?_,fun m day=>?_,fun m day=>?_,fun m e he=>?_⟩
 ·rw[Us,V9];show TY _ _ (if n=m/\_ then _ else _:Int×Int).1 (if n=m/\_ then _ else _:Int×Int).2
  by_cases z:n=m
  ·subst z;obtain⟨y1,y2⟩:=Lr (w:=wt) (h.bst n day) hk d0
   by_cases y:(wgp ds n day).1<=d/\d<=day
   ·rw[if_pos ⟨rfl,y⟩];exact y1 y.1 y.2
   ·rw[if_neg (fun q=>y q.2)];exact y2 y
  ·rw[if_neg (fun q=>z q.1),Y9,if_neg (Ne.symm z)];exact h.bst m day
 ·rw[Us];show 0<=(if n=m/\_ then _ else _:Int×Int).2/\(if n=m/\_ then _ else _:Int×Int).2<=1000;split
  ·exact⟨by show 0<=wt;lia,w1⟩
  ·exact h.bd m day
 ·rw[Us];show (if n=m/\_ then _ else _:Int×Int).1 = -1\/1<=(if n=m/\_ then _ else _:Int×Int).2;split
  ·exact .inr w0
  ·exact h.pos m day
 ·rw[Cz hc] at he;rw[V9,Y9]
  by_cases z:m=n
  ·rw[if_pos z] at he ⊢;cases he;exact⟨d0,d1,_,_,rfl,by rw[Dd,if_pos rfl]⟩
  ·rw[if_neg z] at he ⊢;exact h.key m e he
theorem Fo.rise(h:Fo ds)(hc:Zn ds n=some d2)(d0 : 0<=d)(w0 : 1<=wt)(w1:wt<=1000):Fo (ds ++ [.rise n d wt]):=by
 obtain⟨_,_,l0,v0,hk,hv0⟩:=h.key n d2 hc;refine⟨fun m day=>?_,fun m day=>?_,fun m day=>?_,fun m e he=>?_⟩
 ·rw[Us,V9];show TY _ _ (if n=m/\_ then _ else _:Int×Int).1 (if n=m/\_ then _ else _:Int×Int).2
  by_cases z:n=m
  ·subst z;obtain⟨y1,y2⟩:=LU (w:=wt) (h.bst n day) hk d0
   by_cases y:(wgp ds n day).1<=d/\d<=day
   ·rw[if_pos ⟨rfl,y⟩];exact y1 y.1 y.2
   ·rw[if_neg (fun q=>y q.2)];exact y2 y
  ·rw[if_neg (fun q=>z q.1),Y9,if_neg (Ne.symm z)];exact h.bst m day
 ·rw[Us];show 0<=(if n=m/\_ then _ else _:Int×Int).2/\(if n=m/\_ then _ else _:Int×Int).2<=1000;split
  ·exact⟨by show 0<=wt;lia,w1⟩
  ·exact h.bd m day
 ·rw[Us];show (if n=m/\_ then _ else _:Int×Int).1 = -1\/1<=(if n=m/\_ then _ else _:Int×Int).2;split
  ·exact .inr w0
  ·exact h.pos m day
 ·rw[DM] at he;obtain⟨x0,x1,l,v,h1,h2⟩:=h.key m e he;refine⟨x0,x1,?_⟩;rw[V9,Y9]
  by_cases z:m=n
  ·rw[if_pos z,h1]
   by_cases y:e=d
   ·exact⟨_,.int wt,rfl,by rw[Ak,if_pos y]⟩
   ·exact⟨_,v,rfl,by rw[Ak,if_neg y];exact h2⟩
  ·rw[if_neg z];exact⟨l,v,h1,h2⟩
theorem Fo.die(h:Fo ds):Fo (ds ++ [.die n d he]) :=
 ⟨fun m day=>by rw[Us,V9];exact h.bst m day,fun m day=>by rw[Us];exact h.bd m day,fun m day=>by rw[Us];exact h.pos m day,fun m e hm=>by rw[Dr] at hm;rw[V9];exact h.key m e hm⟩
def okE(o:Option Str):Prop:=∀x,o=some x->x∈errs
theorem okE.or(h:okE a)(k:okE b):okE (a.or b):=fun x e=>by
 cases a with
 | none=>exact k x e
 | some y=>exact h x e
theorem okE.non:okE none:=fun x e=>by cases e
theorem okE.yes(h:y∈errs):okE (some y):=fun x e=>by cases e;exact h
theorem okE.ite [Decidable p] (h:okE a) (k:okE b):okE (if p then a else b):=by split<;>assumption
theorem okE.find{l:XO}{f:Str->Option Str}(h:∀n,okE (f n)):okE (l.findSome? f):=fun x e=>by
 obtain⟨n,_,hn⟩:=List.exists_of_findSome?_eq_some e;exact h n x hn
theorem okE.bind{α:Type}{o:Option α}{f : α->Option Str}(h:∀n,okE (f n)):okE (o.bind f):=by
 cases o with
 | none=>exact okE.non
 | some a=>exact h a
theorem okE.known(ds:List ZI)(n:Str):okE (We ds n):=.ite (.yes aA) .non
theorem okE.there(d day:Int):okE (Wl d day):=.ite (.yes aA) .non
theorem okE.living(ds:List ZI)(n:Str)(day:Int):okE (TZ ds n day):=.ite (.yes aA) .non
theorem okE.untold(ds:List ZI)(n:Str):okE (JC ds n):=.ite .non (.yes aA)
theorem okE.m(lo hi d:Int):okE (eM lo hi d):=.ite .non (.yes aA)
theorem okE.mom(m:Mo):okE (Ys m):=.ite .non (.yes aA)
theorem okE.oath(ss:List ZT)(i:Int)(n:Str):okE (Vw ss i n):=by
 unfold Vw;split
 ·exact .ite (.ite .non (.yes aA)) (.yes aA)
 ·exact .yes aA
theorem okE.named(ds:List ZI)(m:Mo)(day:Int)(ps:XO)(th:Option Int)(oa:Option (Int×Str)):okE (Wt ds m day ps th oa) :=
 (okE.find (okE.known ds)).or ((okE.bind fun _=>.ite .non (.yes aA)).or ((okE.bind fun _=>okE.oath _ _ _).or ((okE.find fun _=>okE.there _ _).or ((okE.bind fun _=>okE.there _ _).or ((okE.bind fun _=>okE.there _ _).or (okE.find fun _=>okE.living _ _ _))))))
theorem Xc(ds:List ZI)(m:Mo)(d:SD):okE (eSD ds m d):=by
 cases d with
 | come n day wt=>exact okE.or (.ite (.yes aA) ((okE.m _ _ _).or ((okE.m _ _ _).or (okE.or (.ite .non (.yes aA)) (.ite .non (.yes aA)))))) (okE.mom m)
 | rise n day wt=>exact okE.or ((okE.m _ _ _).or ((okE.m _ _ _).or ((okE.known _ _).or ((okE.there _ _).or (okE.living _ _ _))))) (okE.mom m)
 | die n he day=>exact okE.or ((okE.m _ _ _).or ((okE.known _ _).or ((okE.known _ _).or ((okE.there _ _).or ((okE.there _ _).or ((okE.untold _ _).or (.ite (.yes aA) .non))))))) (okE.mom m)
 | pen n=>exact(okE.known _ _).or ((okE.untold _ _).or (okE.mom m))
 | bring n day=>exact(okE.m _ _ _).or ((okE.named _ _ _ _ _ _).or (okE.or (.ite .non (.yes aA)) (okE.mom m)))
 | give i x y day=>exact(okE.m _ _ _).or ((okE.named _ _ _ _ _ _).or (okE.mom m))
 | pay x y many day=>exact(okE.m _ _ _).or ((okE.m _ _ _).or ((okE.named _ _ _ _ _ _).or (okE.mom m)))
theorem Kz(ds:List ZI)(m:Mo)(day need:Int)(f:Str->Int)(o1 o2:XO)(d:CD):okE (eCD ds m day need f o1 o2 d):=by
 have sd:okE (Ud m need f o1 o2):=.ite (.yes aA) (.ite (.yes aA) ((okE.mom m).or (.ite (.yes aA) (okE.or (okE.find fun _=>.ite (.yes aA) .non) (.ite (.yes aA) .non)))));cases d with
 | wer x y many=>exact(okE.m _ _ _).or ((okE.m _ _ _).or ((okE.m _ _ _).or ((okE.named _ _ _ _ _ _).or sd)))
 | clm x i=>exact(okE.m _ _ _).or ((okE.m _ _ _).or ((okE.named _ _ _ _ _ _).or sd))
 | acc i n=>exact(okE.m _ _ _).or ((okE.m _ _ _).or ((okE.named _ _ _ _ _ _).or (sd.or (.ite .non (.yes aA)))))
section
theorem Wv{α:Type _}(l:List α)(x : α):(l ++ [x]).length=l.length+1:=by rw[xF];rfl
theorem OE(h:WS m)(i:Nat):(m.haps.getD i []).length<=m.deeds.length:=by
 rw[xZ];cases e:m.haps[i]? with
 | none=>exact yN _
 | some c=>exact h.hl c (xM e)
theorem HM(h:WS m):∀q∈m.haps.set i (m.haps.getD i [] ++ [x]),q.length<=m.deeds.length+1:=fun q hq=>by
 rcases List.mem_or_eq_of_mem_set hq with z | z
 ·exact zU (h.hl q z)
 ·rw[z,Wv];exact Nat.succ_le_succ (OE h i)
theorem NS(m:Mo)(d:SD):(m.sd d).deeds.length=m.deeds.length+1:=by cases d<;>exact Wv _ _
theorem WS.sd(h:WS m)(d:SD):WS (m.sd d):=by
 have hq:∀q∈m.haps,q.length<=m.deeds.length+1:=fun q z=>zU (h.hl q z);have ql:=zU h.ql;have dl:=NS m d;cases d with
 | bring n day =>
  refine⟨h.ok,h.dl,fun i e he=>?_,h.le,h.vl,?_,?_,dl▸ql⟩
  ·change (m.brs ++ [_])[i]? = some e at he;rcases Nat.lt_or_ge i m.brs.length with z | z
   ·rw[zV z] at he;exact h.br i e he
   ·grind
  ·show (m.haps ++ [_]).length=(m.brs ++ [_]).length;rw[Wv,Wv,h.hb]
  ·rw[dl];intro q z;rcases xJ.mp z with z | z
   ·exact hq q z
   ·cases xR.mp z;exact yN _
 | give i x y day=>exact⟨h.ok,h.dl,h.br,h.le,h.vl,(List.length_set ..).trans h.hb,dl▸HM h,dl▸ql⟩
 | pay x y many day=>exact⟨h.ok,h.dl,h.br,h.le,h.vl,h.hb,dl▸hq,dl▸(Wv m.debts _).symm▸Nat.succ_le_succ h.ql⟩
 | _=>exact⟨h.ok,h.dl,h.br,h.le,h.vl,h.hb,dl▸hq,dl▸ql⟩
theorem WS.does(h:WS m)(hl:m.trials.length < 60)(h1:YO (Yg f o1))(h2:YO (Yg f o2))(g0 : 1<=need)(g1:need<=12000)(d:CD):WS (m.does day need f o1 o2 d):=by
 have hq:∀q∈m.haps,q.length<=m.deeds.length+1:=fun q z=>zU (h.hl q z);have ql:=zU h.ql;have dl:(m.does day need f o1 o2 d).deeds.length=m.deeds.length+1:=by cases d<;>exact Wv _ _
 have key:∀n:Option (Int×Str),(∀t∈m.trials ++ [⟨Yg f o1,Yg f o2,need,n⟩],Uq t)/\(m.days ++ [day]).length=(m.trials ++ [(⟨Yg f o1,Yg f o2,need,n⟩:ZT)]).length/\(m.trials ++ [(⟨Yg f o1,Yg f o2,need,n⟩:ZT)]).length<=60/\(Yc [] 0 (m.trials ++ [⟨Yg f o1,Yg f o2,need,n⟩])).1.length=(m.trials ++ [(⟨Yg f o1,Yg f o2,need,n⟩:ZT)]).length:=fun n =>
  ⟨fun t ht=>(xJ.mp ht).elim (h.ok t) (fun z=>by rw[xR.mp z];exact⟨h1,h2,g0,g1⟩),by rw[Wv,Wv,h.dl],by rw[Wv];exact hl,Cg ..⟩
 cases d with
 | wer x y many=>obtain⟨k1,k2,k3,k4⟩:=key none;exact⟨k1,k2,h.br,k3,k4,h.hb,dl▸hq,dl▸(Wv m.debts _).symm▸Nat.succ_le_succ h.ql⟩
 | clm x i=>obtain⟨k1,k2,k3,k4⟩:=key none;exact⟨k1,k2,h.br,k3,k4,(List.length_set ..).trans h.hb,dl▸HM h,dl▸ql⟩
 | acc i n=>obtain⟨k1,k2,k3,k4⟩:=key (some (i,n));exact⟨k1,k2,h.br,k3,k4,h.hb,dl▸hq,dl▸ql⟩
structure Wk (ns:XO) (as:List AD):Prop where
 g:Th as
 fo:Fo (Zf as).1
 ok:WS (Zf as).2
 ln:(Zf as).1.length<=as.length
 pn:(Zf as).2.npen<=as.length
 su:∀t∈(Zf as).2.trials,(Uq t/\0 < t.ones.length)/\∀n∈(t.ones++t.others).map (·.1),n∈ns
 cl:(as.filter isC).length=(Zf as).2.trials.length
 dy:∀x∈as.filter isC,∃d day need o1 o2 f,x = .c d day need o1 o2 f/\0<=day/\day<=9999
 nn:∀n∈ns,Wz n
 nd:ns.Nodup
 n0 : 0 < ns.length
 n1:ns.length<=1000
variable{ns:XO}{as:List AD}
theorem Wk.nil(nn:∀n∈ns,Wz n)(nd:ns.Nodup)(n0 : 0 < ns.length)(n1:ns.length<=1000):Wk ns [] :=
 ⟨⟨yN _,fun i p h=>by cases h⟩,Fo.nil,⟨fun t h=>(nomatch h),rfl,fun i e h=>(nomatch h),yN _,rfl,rfl,fun q h=>(nomatch h),yN _⟩,yN _,yN _,fun t h=>(nomatch h),rfl,fun x h=>(nomatch h),nn,nd,n0,n1⟩
theorem Wk.wok(h:Wk ns as):Eu ns as (as.filter isC) (Zf as).2.trials:=by
 have:=h.g.1;have:=h.ok.le;exact⟨by lia,by lia,h.cl,fun t ht=>(h.su t ht).1,fun t ht=>(h.su t ht).2,h.dy,fun n d=>h.fo.bd n d,h.nd,h.n0,h.n1⟩
def dOk(ns:XO):SD->Prop
 | .come n day wt=>n∈ns/\okI day/\okI wt
 | .rise n day wt=>n∈ns/\okI day/\okI wt
 | .die n he day=>n∈ns/\he∈ns/\okI day
 | .pen n=>n∈ns
 | .bring n day=>n∈ns/\okI day
 | .give i x y day=>x∈ns/\y∈ns/\okI i/\0<=i/\okI day
 | .pay x y many day=>x∈ns/\y∈ns/\okI many/\okI day
theorem Wx(h : 0<=i)(h':i<=1000000):okI i:=by unfold okI;lia
theorem Mv(h:Ef ns nb d)(hb:nb<=1000):dOk ns d:=by
 cases d with
 | come n day wt=>exact h.elim
 | rise n day wt=>exact⟨h.1,Wx (by have:=h.2.1.1;lia) (by have:=h.2.1.2;lia),Wx (by have:=h.2.2.1;lia) (by have:=h.2.2.2;lia)⟩
 | die n he day=>exact⟨h.1,h.2.1,Wx (by have:=h.2.2.1;lia) (by have:=h.2.2.2;lia)⟩
 | pen n=>exact h
 | bring n day=>exact⟨h.1,Wx (by have:=h.2.1;lia) (by have:=h.2.2;lia)⟩
 | give i x y day=>exact⟨h.1,h.2.1,Wx h.2.2.1 (by have:=h.2.2.2.1;lia),h.2.2.1,Wx (by have:=h.2.2.2.2.1;lia) (by have:=h.2.2.2.2.2;lia)⟩
 | pay x y many day=>exact⟨h.1,h.2.1,Wx (by have:=h.2.2.1;lia) (by have:=h.2.2.2.1;lia),Wx (by have:=h.2.2.2.2.1;lia) (by have:=h.2.2.2.2.2;lia)⟩
theorem XE(h:Wz n):okN n:=⟨by have:=h.2.2;lia,fun x hx=>by have:=h.1 x hx;lia⟩
theorem Wk.sdOk(h:Wk ns as)(hd:dOk ns d):sdOk (Zf as).1 (Zf as).2 d:=by
 have hl:∀{n:Str},n∈ns->n.length<=100:=fun hn=>by have:=(h.nn _ hn).2.2;lia
 have:=h.g.1;have:=h.ln;have:=h.pn;have:=h.ok.le;cases d with
 | come n day wt=>exact⟨by lia,XE (h.nn n hd.1),hd.2.1,hd.2.2⟩
 | rise n day wt=>exact⟨by lia,hl hd.1,hd.2.1,hd.2.2⟩
 | die n he day=>exact⟨by lia,hl hd.1,hl hd.2.1,hd.2.2⟩
 | pen n=>exact⟨hl hd,by lia,by lia⟩
 | bring n day=>exact⟨h.ok,hl hd.1,hd.2⟩
 | give i x y day=>exact⟨h.ok,hl hd.1,hl hd.2.1,hd.2.2.1,hd.2.2.2.2⟩
 | pay x y many day=>exact⟨h.ok,hl hd.1,hl hd.2.1,hd.2.2.1,hd.2.2.2⟩
theorem Pr(h:eSD ds m d=none):m.deeds.length < 400:=by
 apply JL;cases d<;>simp only[eSD,yM] at h<;>simp_all
theorem Wk.snoc(h:Wk ns as)(hd:dOk ns d)(e:eSD (Zf as).1 (Zf as).2 d=none):Wk ns (as ++ [.s d]):=by
 have hm:=Pr e;rw[AQ] at hm;have nn':E1 d:=by
  cases d with
  | give i x y day=>exact hd.2.2.2.1
  | _=>trivial
 have f0:(as ++ [AD.s d]).filter isC=as.filter isC:=by rw[zG];exact yD _
 have ln:=h.ln;have pn:=h.pn;have hr:=Jh as (.s d);have tr:(Zf (as ++ [.s d])).2.trials=(Zf as).2.trials:=by rw[hr];cases d<;>rfl
 refine⟨h.g.snoc hm ⟨h.sdOk hd,e,nn'⟩,?_,by rw[hr];exact h.ok.sd d,?_,?_,by rw[tr];exact h.su,by rw[f0,tr];exact h.cl,by rw[f0];exact h.dy,h.nn,h.nd,h.n0,h.n1⟩
 ·rw[An];cases d with
  | come n day wt =>
   have e:((Ur (Zf as).1 n day wt).or (Ys (Zf as).2))=none:=e;obtain⟨_,⟨y0,y1⟩,⟨w0,w1⟩,hc,_⟩:=EJ (yM.mp e).1;exact h.fo.come hc y0 y1 w0 w1
  | rise n day wt =>
   have e:((JV (Zf as).1 n day wt).or (Ys (Zf as).2))=none:=e;obtain⟨⟨y0,_⟩,⟨w0,w1⟩,⟨d2,hc,_⟩,_⟩:=FZ (yM.mp e).1;exact h.fo.rise hc y0 w0 w1
  | die n he day=>exact h.fo.die
  | _=>exact h.fo
 ·rw[An,Wv];cases d<;>simp only[fdS,sdF,xF,zH]<;>lia
 ·rw[hr,Wv];cases d with
  | pen n=>show (Zf as).2.npen+1<=_;lia
  | _=>show (Zf as).2.npen<=_;lia
theorem L9(h:eCD ds m day need f o1 o2 d=none):(0<=day/\day<=9999)/\(1<=need/\need<=12000)/\(∀n∈o1++o2,∃dd,Zn ds n=some dd/\dd<=day)/\m.trials.length < 60/\m.deeds.length < 400:=by
 cases d with
 | wer x y many =>
  simp only[eCD,AV,yM] at h;obtain⟨_,h1,h2,h3,h4⟩:=h;exact⟨Vf h1,Vf h2,fun n hn=>(As h3).1 n (by rw[yW];exact xI _ hn),Jq h4⟩
 | clm x i =>
  simp only[eCD,BX,yM] at h;obtain⟨h1,h2,h3,h4⟩:=h;exact⟨Vf h1,Vf h2,fun n hn=>(As h3).1 n (by rw[yW];exact xI _ hn),Jq h4⟩
 | acc i n =>
  simp only[eCD,CQ,yM] at h;obtain⟨h1,h2,h3,h4,_⟩:=h;exact⟨Vf h1,Vf h2,(As h3).1,Jq h4⟩
def cOk(ns:XO):CD->Prop
 | .wer x y many=>x∈ns/\y∈ns/\okI many
 | .clm x i=>x∈ns/\okI i/\0<=i
 | .acc i n=>n∈ns/\okI i
theorem Sz(h:CL ns nb nc day dy d)(h1:nb<=1000)(h2:nc<=1000):cOk ns d:=by
 cases d with
 | wer x y many=>exact⟨h.1,h.2.1,Wx (by have:=h.2.2.1;lia) h.2.2.2.1⟩
 | clm x i=>exact⟨h.1,Wx h.2.1 (by have:=h.2.2.1;lia),h.2.1⟩
 | acc i n=>exact⟨h.1,Wx h.2.1 (by have:=h.2.2.1;lia)⟩
theorem Pu(h:CL ns nb nc day dy d)(h1:JN day) : 0<=dy/\dy<=9999:=by
 have:=h1.1;have:=h1.2;cases d with
 | wer x y many=>have:=h.2.2.2.2;lia
 | clm x i=>have:=h.2.2.2;lia
 | acc i n=>have:=h.2.2.2;lia
abbrev wf(as:List AD)(day:Int):Str->Int:=fun n=>wg (Zf as).1 n day
theorem Wk.cs(h:Wk ns as){day:Int}{o1 o2:XO}(hn:∀n∈o1++o2,n∈ns):∀n∈o1++o2,n.length<=100/\∀d,Zn (Zf as).1 n=some d->d<=day->A4 (kw (Zf as).1 n) day (wf as day n)/\1<=wf as day n/\wf as day n<=1000 :=
 fun n hm=>⟨by have:=(h.nn n (hn n hm)).2.2;lia,fun d hc hd=>h.fo.isW hc hd⟩
theorem Wk.cdOk(h:Wk ns as)(hd:cOk ns d):cdOk d:=by
 have hl:∀{n:Str},n∈ns->n.length<=100:=fun hn=>by have:=(h.nn _ hn).2.2;lia
 cases d with
 | wer x y many=>exact⟨hl hd.1,hl hd.2.1,hd.2.2⟩
 | clm x i=>exact⟨hl hd.1,hd.2.1⟩
 | acc i n=>exact⟨hl hd.1,hd.2⟩
theorem Wk.snocC(h:Wk ns as)(hd:cOk ns d)(hn:∀n∈o1++o2,n∈ns)(h0 : 0 < o1.length)(h1:o1.length<=60)(h2:o2.length<=60)(e:eCD (Zf as).1 (Zf as).2 day need (wf as day) o1 o2 d=none):Wk ns (as ++ [.c d day need o1 o2 (wf as day)]):=by
 obtain⟨⟨y0,y1⟩,⟨g0,g1⟩,hc,h60,hm⟩:=L9 e;rw[AQ] at hm;have nn':ES d:=by
  cases d with
  | clm x i=>exact hd.2.2
  | _=>trivial
 have lt:∀{o:XO},(∀n∈o,n∈o1++o2)->o.length<=60->YO (Yg (wf as day) o):=fun hs hl=>⟨fun p hp=>by
  obtain⟨n,hn',rfl⟩:=zE.mp hp;obtain⟨dd,e1,e2⟩:=hc n (hs n hn')
  exact(h.fo.isW e1 e2).2,by rw[xA];exact hl⟩
 have L1:YO (Yg (wf as day) o1):=lt (fun n hn'=>yQ _ hn') h1;have L2:YO (Yg (wf as day) o2):=lt (fun n hn'=>xI _ hn') h2;have f0:(as ++ [AD.c d day need o1 o2 (wf as day)]).filter isC=as.filter isC ++ [.c d day need o1 o2 (wf as day)]:=by rw[zG];rfl
 have ln:=h.ln;have pn:=h.pn;have hr:=Jh as (.c d day need o1 o2 (wf as day));have tr:(Zf (as ++ [.c d day need o1 o2 (wf as day)])).2.trials=(Zf as).2.trials ++ [⟨Yg (wf as day) o1,Yg (wf as day) o2,need,C9 d⟩]:=by rw[hr];cases d<;>rfl
 refine⟨h.g.snoc hm ⟨h.cdOk hd,h.ok,by have:=h.g.1;lia,h1,h2,Wx y0 (by lia),Wx (by lia) (by lia),h.cs hn,e,nn'⟩,by rw[An];exact h.fo,by rw[hr];exact h.ok.does h60 L1 L2 g0 g1 d,by rw[An,Wv];show (Zf as).1.length<=_;lia,?_,fun t ht=>?_,by rw[f0,tr,Wv,Wv,h.cl],fun x hx=>?_,h.nn,h.nd,h.n0,h.n1⟩
 ·rw[hr,Wv];cases d<;>(show (Zf as).2.npen<=_;lia)
 ·rw[tr] at ht;rcases xJ.mp ht with z | z
  ·exact h.su t z
  ·rw[xR.mp z];refine⟨⟨⟨L1,L2,g0,g1⟩,by show 0 < (o1.map _).length;rw[xA];exact h0⟩,fun n hn'=>?_⟩;rw[← xO,List.map_map] at hn';obtain⟨y,hy,rfl⟩:=zE.mp hn';exact hn _ hy
 ·rw[f0] at hx;rcases xJ.mp hx with z | z
  ·exact h.dy x z
  ·rw[xR.mp z];exact⟨_,_,_,_,_,_,rfl,y0,y1⟩
end
section
variable{w:XY}{C CM:XW}{c:XR}
theorem ZC.ntup(h:ZC C CM H M ds wa xs m qs)(e:H b=some (.tup t)):¬mo M ds wa xs qs b:=fun hb=>by
 rcases hb with z | z | z | z | z
 ·obtain⟨dx,ob⟩:=h.ob;rw[z,ob] at e;cases e
 ·obtain⟨k,p1,_⟩:=h.pn;rw[z,p1] at e;cases e
 ·obtain⟨ys,y⟩:=h.lst z;rw[e] at y;cases y
 ·obtain⟨ys,y⟩:=h.xl b z;rw[e] at y;cases y
 ·obtain⟨o,e',_,n2⟩:=h.fk.there z;rw[e] at e';cases e';exact n2 t rfl
theorem YA.ntup(h:YA C CM H p ds m O)(e:H b=some (.tup t)):¬O b:=by
 obtain⟨M,wa,xs,qs,_,W,rfl⟩:=h;exact W.ntup e
theorem YA.keep(h:YA C CM H p ds m O)(k:∀b o,O b->H b=some o->H' b=some o)(kt:Up H H'):YA C CM H' p ds m O:=by
 obtain⟨M,wa,xs,qs,e,W,rfl⟩:=h;exact⟨M,wa,xs,qs,e,W.keep k kt,rfl⟩
structure Ww (C CM p s la nl:XW) (W:WL) (ns:XO) (H:Hp) (fx:XS) (st:V2) (as:List AD) (O:XW->Prop):Prop where
 w:YA C CM H p st.1 st.2 O
 sr:ZJ H s la
 wd:ZX s H fx W as (as.filter isC) (Zf as).2.trials
 nm:H nl=some (.lst (ns.map V.str))
 o:∀b∈s::la::nl::W.wl::W.dl::W.sl::W.tl::fx,¬O b/\∃v,H b=some (.lst v)
 nn:nl ∉ [s,W.dl,W.sl,W.tl]
 nl:la ∉ [s,W.dl,W.sl,W.tl]
variable{p s la nl:XW}{W:WL}{ns:XO}{H H':Hp}{fx gx:XS}{st st':V2}{as:List AD}{O O':XW->Prop}
theorem Ww.step(h:Ww C CM p s la nl W ns H fx st as O)(k:YA C CM H' p st'.1 st'.2 O')(f:YJ O H O' H'):Ww C CM p s la nl W ns H' fx st' as O':=by
 have no:∀{b:XW}{o:HO},H b=some o->¬O b->¬O' b:=fun e n z=>(f.2 _ z).elim n (fun y=>by rw[e] at y;cases y);obtain⟨ks,i,big,st,cnt,a,b,c,d⟩:=id h.sr;have oo:=h.o;refine⟨k,⟨ks,i,big,st,cnt,f.1 _ _ a (oo s (by simp)).1,f.1 _ _ b (oo la (by simp)).1,c,d⟩,h.wd.keep (fun b u e=>f.1 _ _ e (h.w.ntup e)) (fun b hb o e=>f.1 _ _ e (oo b (xN _ (xN _ (xN _ hb)))).1),f.1 _ _ h.nm (oo nl (by simp)).1,fun x hx=>?_,h.nn,h.nl⟩;obtain⟨n,v,e⟩:=oo x hx;exact⟨no e n,v,f.1 _ _ e n⟩
theorem Ww.x(h:Ww C CM p s la nl W ns H fx st as O)(hs:ZJ H' s la)(k:ZE s H H'):Ww C CM p s la nl W ns H' fx st as O:=by
 obtain⟨_,_,_,_,_,a,_⟩:=id h.sr;have n1:nl≠s:=fun z=>h.nn (by rw[z];simp);refine⟨h.w.x a (h.o s (by simp)).1 k,hs,h.wd.x h.sr k,k _ _ n1 h.nm,fun x hx=>?_,h.nn,h.nl⟩;obtain⟨n,v,e⟩:=h.o x hx
 by_cases z:x=s
 ·obtain⟨_,_,_,_,_,y,_⟩:=hs;rw[z];exact⟨z▸n,_,y⟩
 ·exact⟨n,v,k _ _ z e⟩
theorem Ww.same(h:Ww C CM p s la nl W ns H fx st as O)(k:ZA H H'):Ww C CM p s la nl W ns H' fx st as O:=h.step (h.w.same k) (YJ.same k)
theorem Ww.more(h:Ww C CM p s la nl W ns H fx st as O)(hg:∀b∈gx,(¬O b/\∃v,H b=some (.lst v))/\b ∉ [s,W.dl,W.sl,W.tl]):Ww C CM p s la nl W ns H (gx++fx) st as O :=
 ⟨h.w,h.sr,h.wd.more (fun b hb z=>(hg b hb).2 (by rw[z];simp)) (fun b hb z=>(hg b hb).2 (xN _ z)),h.nm,fun b hb=>by
  have hb:b∈gx\/b∈s::la::nl::W.wl::W.dl::W.sl::W.tl::fx:=by
   simp only[xC,xJ] at hb ⊢
   grind
  rcases hb with z | z
  ·exact(hg b z).1
  ·exact h.o b z,h.nn,h.nl⟩
theorem Ww.new(h:Ww C CM p s la nl W ns H fx st as O){b:XW}(e:H b=none):b ∉ [s,W.dl,W.sl,W.tl]:=fun z=>by
 have:b∈s::la::nl::W.wl::W.dl::W.sl::W.tl::fx:=by
  simp only[xC,xU,or_false] at z ⊢
  grind
 obtain⟨_,v,y⟩:=h.o b this;rw[e] at y;cases y
theorem Ww.tryS(U:Ww C CM p s la nl W ns H fx (Zf as) as O)(k:Wk ns as){q:XW}{d:SD}(hq:H q=some (.tup (sdV d)))(hd:dOk ns d){Q:V->Hp->Prop}{E:XK}(g:∀ (l:XW) (tv:aG) (H':Hp) (O':XW->Prop),H' l=some (.lst tv)->YJ O H O' H'->(tv = []/\eSD (Zf as).1 (Zf as).2 d≠none/\Ww C CM p s la nl W ns H' fx (Zf as) as O')\/(tv = [sdR (Zf as).2 d]/\eSD (Zf as).1 (Zf as).2 d=none/\Ww C CM p s la nl W ns H' fx (Zf (as ++ [.s d])) as O')->Q (.ref l) H') :
  (Sp.or (WJ C CM) (WO C CM)) [.ref p,.ref q] H Q E:=by
 refine .inl ⟨p,_,_,O,q,d,rfl,U.w,hq,k.sdOk hd,Xc _ _ _,fun O' l H' W' F' _ kl=>?_⟩;cases e:eSD (Zf as).1 (Zf as).2 d with
 | none =>
  rw[e] at W' kl;exact g l _ H' O' kl F' (.inr ⟨rfl,e,by rw[Jh];exact U.step W' F'⟩)
 | some x =>
  rw[e] at W' kl;exact g l _ H' O' kl F' (.inl ⟨rfl,(fun z=>by rw[e] at z;cases z),U.step W' F'⟩)
theorem Ww.tryC(U:Ww C CM p s la nl W ns H fx (Zf as) as O)(k:Wk ns as){q l1 l2:XW}{d:CD}{day need:Int}{o1 o2:XO}(hq:H q=some (.tup (cdV day need l1 l2 d)))(h1:H l1=some (.lst (o1.map V.str)))(h2:H l2=some (.lst (o2.map V.str)))(hd:cOk ns d)(hn:∀n∈o1++o2,n∈ns)(n1:o1.length<=60)(n2:o2.length<=60)(di:okI day)(ni:okI need){Q:V->Hp->Prop}{E:XK}(g:∀ (l:XW) (tv:aG) (H':Hp) (O':XW->Prop),H' l=some (.lst tv)->YJ O H O' H'->(tv = []/\eCD (Zf as).1 (Zf as).2 day need (wf as day) o1 o2 d≠none/\Ww C CM p s la nl W ns H' fx (Zf as) as O')\/(tv = [.int (Zf as).2.trials.length]/\eCD (Zf as).1 (Zf as).2 day need (wf as day) o1 o2 d=none/\Ww C CM p s la nl W ns H' fx (Zf (as ++ [.c d day need o1 o2 (wf as day)])) as O')->Q (.ref l) H') :
  (Sp.or (WJ C CM) (WO C CM)) [.ref p,.ref q] H Q E:=by
 refine .inr ⟨p,_,_,O,q,d,day,need,l1,l2,o1,o2,wf as day,rfl,U.w,hq,⟨k.ok,by have:=k.ln;have:=k.g.1;lia,h1,h2,n1,n2,di,ni,k.cs hn⟩,k.cdOk hd,Kz _ _ _ _ _ _ _ _,fun O' l H' W' F' _ kl=>?_⟩;cases e:eCD (Zf as).1 (Zf as).2 day need (wf as day) o1 o2 d with
 | none =>
  rw[e] at W' kl;exact g l _ H' O' kl F' (.inr ⟨rfl,e,by rw[Jh];exact U.step W' F'⟩)
 | some x =>
  rw[e] at W' kl;exact g l _ H' O' kl F' (.inl ⟨rfl,(fun z=>by rw[e] at z;cases z),U.step W' F'⟩)
theorem Ww.keep{x:AD}{v:V}(U:Ww C CM p s la nl W ns H fx (Zf (as ++ [x])) as O)(k:Wk ns as)(kx:kss as (Zf as).2.trials x=(Zf (as ++ [x])).2.trials)(re:YC (fz fx H) (adT x) v)(hx:∀d day need o1 o2 f,x = .c d day need o1 o2 f->o1.length<=60/\o2.length<=60){Q:V->Hp->Prop}{E:XK}(g:∀ (fx':XS) (H':Hp),Ww C CM p s la nl W ns H' fx' (Zf (as ++ [x])) (as ++ [x]) O->(∀b o,b ∉ [W.dl,W.sl,W.tl]->H b=some o->H' b=some o)->(∀b∈fx',b∈fx\/H b=none)->Q .non H'):VP [.ref W.wl,v] H Q E:=by
 have hal:=k.g.1;have hsl:=k.ok.le;obtain⟨_,_,_,_,_,hs,_⟩:=id U.sr;refine⟨v,s,W,fx,as,as.filter isC,(Zf as).2.trials,x,rfl,U.wd,re,by lia,yC (yO _ _) (by lia),by lia,hx,⟨_,hs⟩,fun fx' H' W' f' n'=>?_⟩;have ef:as.filter isC++(if isC x then [x] else [])=(as ++ [x]).filter isC:=by grind
 rw[ef,kx] at W';have sn:s ∉ [W.dl,W.sl,W.tl]:=fun z=>by
  have:=U.wd.ne;simp only[xC,xU,or_false] at z;rcases z with z | z | z
  ·exact this W.dl (by simp) z.symm
  ·exact this W.sl (by simp) z.symm
  ·exact this W.tl (by simp) z.symm
 have oO:∀b,O b->b ∉ [W.dl,W.sl,W.tl]:=fun b hb z=>(U.o b (by simp only[xC,xU,or_false] at z ⊢;grind)).1 hb
 have kt:Up H H':=fun b u e=>f' _ _ (fun z=>by
  obtain⟨_,v',y⟩:=U.o b (by simp only[xC,xU,or_false] at z ⊢;grind)
  rw[e] at y;cases y) e
 have ln:la ∉ [W.dl,W.sl,W.tl]:=fun z=>U.nl (xN _ z);obtain⟨ks,i,big,st,cnt,a,b,c',d'⟩:=id U.sr;refine g fx' H' ⟨U.w.keep (fun b o hb e=>f' _ _ (oO b hb) e) kt,⟨ks,i,big,st,cnt,f' _ _ sn a,f' _ _ ln b,c',d'⟩,W',f' _ _ (fun z=>U.nn (xN _ z)) U.nm,fun y hy=>?_,U.nn,U.nl⟩ f' (fun b hb=>(n' b hb).imp id fun z=>z.1);have old:∀y∈s::la::nl::W.wl::W.dl::W.sl::W.tl::fx,¬O y/\∃v,H' y=some (.lst v):=fun y hy=>by
  obtain⟨no,v',e⟩:=U.o y hy;refine⟨no,?_⟩
  by_cases z:y ∈ [W.dl,W.sl,W.tl]
  ·obtain⟨u1,e1,_⟩:=W'.d;obtain⟨u2,e2,_⟩:=W'.u;obtain⟨u3,e3,_⟩:=W'.t;simp only[xC,xU,or_false] at z;rcases z with rfl | rfl | rfl
   ·exact⟨_,e1⟩
   ·exact⟨_,e2⟩
   ·exact⟨_,e3⟩
  ·exact⟨v',f' _ _ z e⟩
 have hy:y∈s::la::nl::W.wl::W.dl::W.sl::W.tl::fx\/y∈fx':=by
  simp only[xC] at hy ⊢
  grind
 rcases hy with z | z
 ·exact old y z
 ·rcases n' y z with z | ⟨e,vs,e'⟩
  ·exact old y (by simp[z])
  ·exact⟨U.w.out e,vs,e'⟩
end
section
variable{C CM:XW}
variable{p s la nl:XW}{W:WL}{ns:XO}{H H':Hp}{fx:XS}{as:List AD}{O O':XW->Prop}
theorem Ww.put(h:Ww C CM p s la nl W ns H fx st as O)(e:H r=some (.lst vs))(n1:¬O r)(n2:r∉s::la::nl::W.wl::W.dl::W.sl::W.tl::fx):Ww C CM p s la nl W ns (upd H r (.lst us)) fx st as O:=by
 have kx:ZE r H (upd H r (.lst us)):=ZE.upd;have ne:∀b∈s::la::nl::W.wl::W.dl::W.sl::W.tl::fx,b≠r:=fun b hb z=>n2 (z▸hb);refine⟨h.w.x e n1 kx,h.sr.keepX kx (ne s (by simp)).symm (ne la (by simp)).symm,h.wd.keep (fun b u y=>kx _ _ (fun z=>by rw[z,e] at y;cases y) y) (fun b hb o y=>kx _ _ (ne b (xN _ (xN _ (xN _ hb)))) y),kx _ _ (ne nl (by simp)) h.nm,fun b hb=>?_,h.nn,h.nl⟩;obtain⟨a,v,y⟩:=h.o b hb;exact⟨a,v,kx _ _ (ne b hb) y⟩
theorem Ww.fresh(h:Ww C CM p s la nl W ns H fx st as O)(e:H r=none):¬O r/\r∉s::la::nl::W.wl::W.dl::W.sl::W.tl::fx:=⟨h.w.out e,fun z=>by
 obtain⟨_,v,y⟩:=h.o r z
 rw[e] at y;cases y⟩
abbrev Ts(ds:List SD):List D:=ds.map fun d=>adT (.s d)
theorem Rw.x(h:WG H [] r (Ts ds))(hs:ZJ H s la)(k:ZE s H H')(n:r≠s):WG H' [] r (Ts ds):=by
 obtain⟨_,_,_,_,_,a,_⟩:=hs;exact h.mono (fun o e=>k _ _ n e) (Vc (fun b u e=>k _ _ (fun z=>by rw[z,a] at e;cases e) e) (fun x hx=>by cases hx) fun _ z=>z)
theorem Rw.same(h:WG H [] r (Ts ds))(k:ZA H H'):WG H' [] r (Ts ds):=h.mono (fun o e=>k _ _ e) (Vc (fun _ _ e=>k _ _ e) (fun x hx=>by cases hx) fun _ z=>z)
theorem Rw.add{r q:XW}(h:WG H [] r (Ts ds))(e:H r=some (.lst us))(hq:H q=some (.tup (sdV d))):WG (upd H r (.lst (us ++ [.ref q]))) [] r (Ts (ds ++ [d])):=by
 have kx:ZE r H (upd H r (.lst (us ++ [.ref q]))):=ZE.upd;have f:ZA (fz [] H) (fz [] (upd H r (.lst (us ++ [.ref q])))):=Vc (fun b u y=>kx _ _ (fun z=>by rw[z,e] at y;cases y) y) (fun x hx=>by cases hx) fun _ z=>z;show WG _ [] r ((ds ++ [d]).map _);rw[xO];exact h.snoc e f ⟨q,_,rfl,Y2 hq,Aj _ d⟩
def Ka(ns:XO):SD->Prop
 | .come n day wt=>n∈ns/\0<=day/\day<=3/\1<=wt/\wt<=1000
 | .bring n day=>n∈ns/\3<=day/\day<=5
 | _=>False
structure Ah (ns:XO) (k:Nat) (ds:List ZI):Prop where
 cm:Vm ds=ns.take k
 com:∀n,n∈ns.take k->∃d,Zn ds n=some d/\0<=d/\d<=3
 no:∀n,n∉ns.take k->Zn ds n=none
def cmN:SD->List Str
 | .come n _ _=>[n]
 | _=>[]
theorem PK{ns:XO}{ds:List SD}{i:Nat}{d:SD}(h:ds.flatMap cmN=ns)(hd:ds[i]? = some d):∃B,ns=(ds.take i).flatMap cmN++(cmN d++B):=by
 have hi:=(xH.mp hd).1;have e:ds=ds.take i++d::ds.drop (i+1):=by
  have:=(xH.mp hd).2;rw[← this,← zI hi,zC]
 exact⟨(ds.drop (i+1)).flatMap cmN,by rw[← h];conv=>lhs;rw[e,List.flatMap_append,List.flatMap_cons]⟩
theorem Ah.come(h:Ah ns k ds)(hn:ns[k]? = some n)(hd:ns.Nodup)(d0 : 0<=day)(d1:day<=3):n∉ns.take k/\Ah ns (k+1) (ds ++ [.come n day wt]):=by
 have et:ns.take (k+1)=ns.take k ++ [n]:=by rw[xW,hn];rfl
 have ni:n∉ns.take k:=fun z=>by
  have:=hd.sublist (List.take_sublist (k+1) ns);rw[et] at this;exact(List.nodup_append.mp this).2.2 n z n (by simp) rfl
 have hc:=h.no n ni;refine⟨ni,by rw[Cv,h.cm,et];rfl,fun m hm=>?_,fun m hm=>?_⟩
 ·rw[Cz hc]
  by_cases z:m=n
  ·rw[if_pos z];exact⟨day,rfl,d0,d1⟩
  ·rw[if_neg z];rw[et] at hm;exact h.com m ((xJ.mp hm).elim id fun y=>absurd (xR.mp y) z)
 ·rw[et] at hm;rw[Cz hc,if_neg (fun z=>hm (by rw[z];simp))];exact h.no m fun z=>hm (yQ _ z)
inductive Ta(C CM:XW)(vs:aG)(H:Hp)(Q:VK)(z3:XK):Prop
 |mk(p s la nl:XW) (W:WL) (ns:XO) (fx:XS) (O:XW->Prop)(_:vs = [.ref s,.ref p,.ref W.wl,.ref nl])(_:Ww C CM p s la nl W ns H fx (Zf []) [] O)(_:Wk ns [])(_:ns.length<=40)(_:∀(fx':XS)(as:List AD)(O':XW->Prop)(H':Hp),Ww C CM p s la nl W ns H' fx' (Zf as) as O'->Wk ns as->Ah ns ns.length (Zf as).1->as.length<=ns.length+2->Q .non H')
abbrev Kg:Stmt:=top 75
theorem KS(Ziw:YB K mg "_law_start" Kg)(T:Txt mg)(Yd:Fn P w K mg base "_law_next" ["_law_src_here","_law_base"] 1 YD)(Zix:Fn P w K mg base "_law_try" ["_law_moot","_law_deed_here"] 9 (Sp.or (WJ C CM) (WO C CM)))(Ziy:Fn P w K mg base "_law_keep" ["_law_world","_law_deed_here"] 2 VP):Fn P w K mg base "_law_start" ["_law_src_here","_law_moot","_law_world","_law_names_here"] 10 (Ta C CM):=by
 refine Ziw.fq ["_law_src_here","_law_moot","_law_world","_law_names_here","_law_rows","_law_name","_law_k","_law_deed_here"] fun H vs Q E hr h=>?_;obtain⟨p,s,la,nl,W,ns,fx,O,rfl,U,hk,h40,k⟩:=h;refine⟨rfl,_,(Zc (Zv 4 (Yl Zb)) (Zc (Wq PassesOwn.never rfl (Y6 Qa) (Ye 5) (Zg (Zj (Y4 aD aE aF Wb Qb (Za (Z9 (Za Z2 (Za Qc (Za (Zk Yd (Za Q0 (Za Zd Zb))) (Za (Z0 Wf Zd (Zk Yd (Za Q0 (Za (Zh Yb (Yl (Za Zd (Za Zd (Za Zd Zb)))) (Zk Yd (Za Q0 (Za Zd Zb))) (fun _ _=>rfl)) Zb)))) Zb))))) Zb))))) (Zc (Wq PassesOwn.never rfl (Bk T.range (Za (Z0 Wf Zd (Zk Yd (Za Q0 (Za Zd Zb)))) Zb)) (Ye 6) (Zg (Zj (Y4 aD aE aF Wb Qb (Za (Z9 (Za Z2 (Za (Zh Yb Qa (Zk Yd (Za Q0 (Za (Z5 Yp T.len Yh (Za Qa Zb)) Zb))) (fun _ _=>rfl)) (Za (Z0 Wf Zd (Zk Yd (Za Q0 (Za Zd Zb)))) Zb)))) Zb))))) (Zg (Wq PassesOwn.never rfl (Y6 Qb) (Ye 7) (Zg (Zp (Zq JT (Z5 Yp T.len Yh (Za (Zk Zix (Za Q8 (Za Qe Zb))) Zb)) Zd (Zu _)) (Zg (Zj (Zk Ziy (Za Q9 (Za Qe Zb))))) Zo))))))),?_⟩;have hz:=aC
 have n0:=hk.n0;have nls:nl≠s:=fun z=>U.nn (by rw[z];simp);refine⟨aB rfl,fun rl hrl=>?_⟩;obtain⟨nr,nr2⟩:=U.fresh hrl;have U1:=U.same (ZA.new (o:=.lst []) hrl);have k1:WG (upd H rl (.lst [])) [] rl (Ts []):=⟨[],Zi,rfl⟩;generalize (upd H rl (.lst []))=H1 at U1 k1 ⊢;have rs:rl≠s:=fun z=>nr2 (by rw[z];simp);refine Z8 ?_
 try dsimp only [Yy]
 refine⟨_,rfl,nl,rfl,⟨_,ZF.of U1.nm⟩,?_⟩;refine Vn (ns.map V.str) (fun i σ H'=>∃(v5:Option V)(ds:List SD),σ = [some (.ref s),some (.ref p),some (.ref W.wl),some (.ref nl),some (.ref rl),v5,none,none]/\Ww C CM p s la nl W ns H' fx (Zf []) [] O/\WG H' [] rl (Ts ds)/\(∀d∈ds,Ka ns d)/\ds.flatMap cmN=ns.take i/\ds.length=i) ⟨none,[],rfl,U1,k1,(fun d h=>nomatch h),rfl,rfl⟩ (fun i σ H' _ ⟨_,_,_,U,_⟩=>ZF.of U.nm) ?_ ?_
 ·rintro i v σ H2 hv ⟨v5,ds,rfl,U2,r2,hds,hfm,hdl⟩;rw[xE] at hv;obtain⟨n,hn,rfl⟩:=xP.mp hv;have hnm:=xM hn;obtain⟨us,hu,hur⟩:=id r2;have hul:=hur.length;rw[xA] at hul;have hil:=(xH.mp hn).1;refine⟨_,rfl,.inl ⟨rfl,_,ZF.of hu⟩,_,rfl,_,rfl,s,la,4,rfl,U2.sr,aA,aA,fun d1 H3 d10 d11 hs3 sx3=>?_⟩;have U3:=U2.x hs3 sx3;have r3:=Rw.x r2 U2.sr sx3 rs;refine⟨_,rfl,aB rfl,fun a2 ha2=>?_⟩;have T2:=ZA.new (o:=.lst [.int 9,.int 30,.int 1000]) ha2;have k2:(upd H3 a2 (.lst [.int 9,.int 30,.int 1000])) a2=some (.lst [.int 9,.int 30,.int 1000]):=Zi;have na2:a2≠s:=(hs3.ne ha2).1;generalize (upd H3 a2 (.lst [.int 9,.int 30,.int 1000]))=H4 at T2 k2 ⊢;have U4:=U3.same T2;have r4:=Rw.same r3 T2;refine⟨_,rfl,s,la,3,rfl,U4.sr,aA,aA,fun z2 H5 z20 z21 hs5 sx5=>?_⟩;have U5:=U4.x hs5 sx5;have r5:=Rw.x r4 U4.sr sx5 rs;obtain⟨b,hb,hb2⟩:∃b:Int,atI [V.int 9,V.int 30,V.int 1000] z2=some (.int b)/\0 < b/\b<=1000:=by
   rcases(show z2=0\/z2=1\/z2=2 by lia) with rfl | rfl | rfl
   ·exact⟨9,rfl,aA,aA⟩
   ·exact⟨30,rfl,aA,aA⟩
   ·exact⟨1000,rfl,aA,aA⟩
  refine⟨a2,_,_,.int b,rfl,rfl,ZF.of (sx5 _ _ na2 k2),hb,s,la,b,rfl,U5.sr,by lia,by lia,fun m H6 m0 m1 hs6 sx6=>?_⟩;have U6:=U5.x hs6 sx6;have r6:=Rw.x r5 U5.sr sx6 rs;refine⟨_,_,rfl,rfl,aB rfl,fun q hq=>?_⟩;have T7:=ZA.new (o:=.tup [.str "come", .str n,.int d1,.int (1+m)]) hq;have k7:(upd H6 q (.tup [.str "come", .str n,.int d1,.int (1+m)])) q=some (.tup (sdV (.come n d1 (1+m)))):=Zi;generalize (upd H6 q (.tup [.str "come", .str n,.int d1,.int (1+m)]))=H7 at T7 k7 ⊢;have U7:=U6.same T7;have r7:=Rw.same r6 T7;obtain⟨us7,hu7,hur7⟩:=id r7;have hul7:=hur7.length;rw[xA] at hul7;refine⟨rl,us7,.ref q,rfl,rfl,hu7,by lia,?_⟩;refine⟨_,ds ++ [.come n d1 (1+m)],rfl,U7.put hu7 nr nr2,Rw.add r7 hu7 k7,fun d hd=>?_,?_,by rw[Wv,hdl]⟩
  ·rcases xJ.mp hd with z | z
   ·exact hds d z
   ·rw[xR.mp z];exact⟨hnm,d10,by lia,by lia,by lia⟩
  ·rw[List.flatMap_append,hfm,xW,hn];rfl
 rintro σ H2 ⟨v5,ds,rfl,U2,r2,hds,hfm,hdl⟩;rw[xA] at hfm hdl;rw[xX] at hfm;refine⟨_,rfl,s,la,2,rfl,U2.sr,aA,aA,fun d1 H3 d10 d11 hs3 sx3=>?_⟩;have U3:=U2.x hs3 sx3;have r3:=Rw.x r2 U2.sr sx3 rs;refine⟨_,_,rfl,rfl,_,rfl,by lia,by lia,?_⟩;refine Bi (1+d1).toNat (by lia) (fun i σ H'=>∃(v6:Option V)(ds:List SD),σ = [some (.ref s),some (.ref p),some (.ref W.wl),some (.ref nl),some (.ref rl),v5,v6,none]/\Ww C CM p s la nl W ns H' fx (Zf []) [] O/\WG H' [] rl (Ts ds)/\(∀d∈ds,Ka ns d)/\ds.flatMap cmN=ns/\ds.length=ns.length+i) ⟨none,ds,rfl,U3,r3,hds,hfm,by lia⟩ ?_ ?_
 ·rintro i σ H4 hi ⟨v6,ds,rfl,U4,r4,hds,hfm,hdl⟩;obtain⟨us,hu,hur⟩:=id r4;refine⟨_,rfl,.inl ⟨rfl,_,ZF.of hu⟩,_,rfl,_,rfl,_,rfl,nl,_,rfl,.inl (ZF.of U4.nm),s,la,_,rfl,U4.sr,by rw[xA];lia,by rw[xA];lia,fun j H5 j0 j1 hs5 sx5=>?_⟩;rw[xA] at j1;have U5:=U4.x hs5 sx5;have r5:=Rw.x r4 U4.sr sx5 rs;obtain⟨j,rfl⟩:=yK j0;have hj:j < ns.length:=by lia
  refine⟨nl,_,_,.str ns[j],rfl,rfl,ZF.of U5.nm,Yu (by rw[xE,xB hj];rfl),?_⟩;have hnm:ns[j]∈ns:=zF hj;generalize ns[j]=n at hnm;refine⟨_,rfl,s,la,3,rfl,U5.sr,aA,aA,fun z H6 z0 z1 hs6 sx6=>?_⟩;have U6:=U5.x hs6 sx6;have r6:=Rw.x r5 U5.sr sx6 rs;refine⟨_,_,rfl,rfl,aB rfl,fun q hq=>?_⟩;have T7:=ZA.new (o:=.tup [.str "bring", .str n,.int (3+z)]) hq;have k7:(upd H6 q (.tup [.str "bring", .str n,.int (3+z)])) q=some (.tup (sdV (.bring n (3+z)))):=Zi;generalize (upd H6 q (.tup [.str "bring", .str n,.int (3+z)]))=H7 at T7 k7 ⊢;have U7:=U6.same T7;have r7:=Rw.same r6 T7;obtain⟨us7,hu7,hur7⟩:=id r7;have hul7:=hur7.length;rw[xA] at hul7;refine⟨rl,us7,.ref q,rfl,rfl,hu7,by lia,?_⟩;refine⟨_,ds ++ [.bring n (3+z)],rfl,U7.put hu7 nr nr2,Rw.add r7 hu7 k7,fun d hd=>?_,?_,by rw[Wv,hdl];lia⟩
  ·rcases xJ.mp hd with y | y
   ·exact hds d y
   ·rw[xR.mp y];exact⟨hnm,by lia,by lia⟩
  ·rw[List.flatMap_append,hfm];exact yD _
 rintro σ H4 ⟨v6,ds,rfl,U4,r4,hds,hfm,hdl⟩;clear U U1 U2 U3 r2 r3;obtain⟨us,hu,hur⟩:=id r4;have hul:=hur.length;rw[xA] at hul;refine⟨_,rfl,rl,rfl,⟨_,ZF.of hu⟩,?_⟩;refine Vn us (fun i σ H'=>∃(v7:Option V)(fx':XS)(as:List AD)(O':XW->Prop),σ = [some (.ref s),some (.ref p),some (.ref W.wl),some (.ref nl),some (.ref rl),v5,v6,v7]/\Ww C CM p s la nl W ns H' fx' (Zf as) as O'/\Wk ns as/\Ah ns ((ds.take i).flatMap cmN).length (Zf as).1/\as.length<=i/\¬O' rl/\rl∉s::la::nl::W.wl::W.dl::W.sl::W.tl::fx'/\WG H' [] rl (Ts ds)/\H' rl=some (.lst us)) ⟨none,fx,[],O,rfl,U4,hk,⟨rfl,(fun n h=>nomatch h),fun n _=>rfl⟩,xD _,nr,nr2,r4,hu⟩ (fun i σ H' _ ⟨_,_,_,_,_,_,_,_,_,_,_,_,e⟩=>ZF.of e) ?_ ?_
 ·rintro i v σ H5 hv ⟨v7,fx',as,O',rfl,U5,K5,S5,al5,no5,no6,r5,hu5⟩;obtain⟨us5,e5,hr5⟩:=id r5;rw[hu5] at e5;cases e5;obtain⟨d0,hd0,re⟩:=hr5.get hv;rw[xE] at hd0;obtain⟨d,hd,rfl⟩:=xP.mp hd0;have ok:=hds d (xM hd);obtain⟨q,rfl,hq⟩:=Be re;have dok:dOk ns d:=by
   cases d with
   | come n day wt=>exact⟨ok.1,Wx ok.2.1 (by have:=ok.2.2.1;lia),Wx (by have:=ok.2.2.2.1;lia) (by have:=ok.2.2.2.2;lia)⟩
   | bring n day=>exact⟨ok.1,Wx (by have:=ok.2.1;lia) (by have:=ok.2.2;lia)⟩
   | _=>exact ok.elim
  have et:ds.take (i+1)=ds.take i ++ [d]:=by rw[xW,hd];rfl
  have hil:=(xH.mp hd).1;refine⟨_,rfl,_,rfl,U5.tryS K5 hq dok fun l tv H6 O6 kl F6 hc=>?_⟩;have no7:¬O6 rl:=fun z=>(F6.2 rl z).elim no5 (fun y=>by rw[hu5] at y;cases y);have r6:WG H6 [] rl (Ts ds):=r5.mono (fun o e=>F6.1 _ _ e no5) (Vc (fun b u e=>F6.1 _ _ e (U5.w.ntup e)) (fun x hx=>by cases hx) fun _ z=>z);have hu6:=F6.1 _ _ hu5 no5;obtain⟨B,hB⟩:=PK hfm hd;have ek:∀n,cmN d = [n]->ns[((ds.take i).flatMap cmN).length]? = some n:=fun n e=>by
   rw[hB,e,List.getElem?_append_right (xD _),Nat.sub_self];rfl
  rw[et,List.flatMap_append];have e1 : [d].flatMap cmN=cmN d:=by simp
  rw[e1,xF];have gr:eSD (Zf as).1 (Zf as).2 d=none->Ah ns (((ds.take i).flatMap cmN).length+(cmN d).length) (Zf (as ++ [.s d])).1:=fun _=>by
   rw[An];cases d with
   | come n day wt=>exact(S5.come (ek n rfl) K5.nd ok.2.1 ok.2.2.1).2
   | bring n day=>exact S5
   | _=>exact ok.elim
  rcases hc with⟨rfl,hne,U6⟩ | ⟨rfl,he,U6⟩
  ·refine⟨l,_,rfl,.inl (ZF.of kl),_,_,rfl,rfl,_,rfl,Zy (fun z=>absurd z aA) (fun _=>⟨_,fx',as,O6,rfl,U6,K5,?_,by lia,no7,no6,r6,hu6⟩)⟩;cases d with
   | come n day wt =>
    exfalso;apply hne;have hkn:=ek n rfl;have hkl:=(xH.mp hkn).1;have hcm:(Vm (Zf as).1).length < 40:=by rw[S5.cm,xT];lia
    have hno:=S5.no n (S5.come (wt:=wt) hkn K5.nd ok.2.1 ok.2.2.1).1;have g4:=K5.g.1;have y1:=ok.2.1;have y2:=ok.2.2.1;have y3:=ok.2.2.2.1;have y4:=ok.2.2.2.2
    show ((Ur (Zf as).1 n day wt).or (Ys (Zf as).2))=none;have em:Ys (Zf as).2=none:=if_pos (by rw[AQ];lia);have ec:Ur (Zf as).1 n day wt=none:=by
     unfold Ur;rw[if_neg (by rw[HS (K5.nn n ok.1)];decide),if_pos hno,if_pos hcm,show eM 0 9999 day=none from if_pos ⟨y1,by lia⟩,show eM 1 1000 wt=none from if_pos ⟨y3,y4⟩];rfl
    rw[ec,em];rfl
   | bring n day=>exact S5
   | _=>exact ok.elim
  ·have re6:YC (fz fx' H6) (adT (.s d)) (.ref q):=⟨q,_,rfl,Y2 (F6.1 _ _ hq (U5.w.ntup hq)),Aj _ d⟩;refine⟨l,_,rfl,.inl (ZF.of kl),_,_,rfl,rfl,_,rfl,Zy (fun _=>?_) (fun z=>absurd (show (0:Int) < 1 by decide) z)⟩;refine⟨_,rfl,_,rfl,?_⟩;dsimp only [Vr];refine U6.keep K5 (by rw[Jh];cases d<;>rfl) re6 (fun _ _ _ _ _ _ z=>by cases z) fun fx7 H7 U7 f7 g7=>?_;have nd:rl ∉ [W.dl,W.sl,W.tl]:=fun z=>no6 (by simp only[xC,xU,or_false] at z ⊢;grind);refine⟨_,fx7,as ++ [.s d],O6,rfl,U7,K5.snoc dok he,gr he,by rw[Wv];lia,no7,?_,?_,f7 _ _ nd hu6⟩
   ·intro z;rcases xC.mp (show rl∈s::la::nl::W.wl::W.dl::W.sl::W.tl::fx7 from z) with y | y
    ·exact no6 (by rw[y];simp)
    ·have:rl∈s::la::nl::W.wl::W.dl::W.sl::W.tl::fx'\/rl∈fx7:=by
      simp only[xC] at z ⊢
      grind
     rcases this with y | y
     ·exact no6 y
     ·rcases g7 rl y with y | y
      ·exact no6 (by simp[y])
      ·rw[hu6] at y;cases y
   ·refine r6.mono (fun o e=>f7 _ _ nd e) (Vc (fun b u e=>f7 _ _ (fun z=>?_) e) (fun x hx=>by cases hx) fun _ z=>z);obtain⟨_,v',y⟩:=U6.o b (by simp only[xC,xU,or_false] at z ⊢;grind);rw[e] at y;cases y
 ·grind
end
section
variable{C CM:XW}{c:XR}
inductive VS(C CM:XW)(c:XR)(vs:aG)(H:Hp)(Q:VK)(E:XK):Prop
 |mk(p) (ds) (m) (O) (n)(_:vs = [.ref p,.str n])(_:YA C CM H p ds m O)(_:WS m)(_:n.length<=100)(_:Uh E c H (∀H',ZA H H'->Q (.bl (Vi m n)) H') (We ds n))
abbrev Im:Stmt:=Yr (top 58) 28
theorem SJ(Ziz:ZR K CM "forsworn" "Moot.forsworn" Im)(Tc:WC K C)(Tm:ZK K CM)(M_check_known:ZY P w K mg base C "check_known" 1 (YL C c))(MM_forsworn_names:Mt P w K mg base CM "forsworn_names" ["self"] 1 (VO C CM)):ZY P w K mg base CM "forsworn" 2 (VS C CM c):=by
 refine Ziz.mx ["self","name"] ["self","name"] fun H vs Q E hr h=>?_;obtain⟨_,ds,m,_,n,rfl,⟨M,wa,xs,qs,rfl,W,rfl⟩,ok,hn,k⟩:=h;refine⟨rfl,_,(Zc (Zj (Yj Z1 (Zx Q0) Tc.cl M_check_known (Za Q8 Zb))) (Zg (Zw (Uz (JH hr) Q8 (DS Q0 Tm.cl MM_forsworn_names) rfl)))),?_⟩;obtain⟨dm,obm⟩:=W.ob;obtain⟨dx,ob⟩:=W.fk.f.ob;refine⟨_,rfl,M.p,CM,dm,_,_,rfl,obm,Tm.cl,Tm.nf,Uc _,M.L.p,dx,_,rfl,ob,Yw _ _ _ _ aA,_,rfl,M.L,ds,n,rfl,W.fk.f,hn,?_⟩;cases e:We ds n with
 | some z=>rw[e] at k;exact k H (ZA.refl H)
 | none =>
  rw[e] at k;exact⟨_,rfl,_,rfl,M.p,dm,_,rfl,obm,Yi _ aA,M,ds,wa,xs,m,qs,rfl,W,ok.vl,ok.le,fun g kvs H1 fg S1 kg hg=>⟨g,_,rfl,ZZ.k (k:=Sum.inr n) kg,by rw[hg];exact k H1 S1⟩⟩
def B8:Option Str->Str
 | none => ""
 | some x=>if x = "Forsworn" then "Forsworn" else "other"
inductive Tf(C CM:XW)(vs:aG)(H:Hp)(Q:VK)(z3:XK):Prop
 |mk(p) (ds) (m) (O) (q) (x y) (many day need) (l1 l2) (o1 o2) (f)(_:vs = [.ref p,.ref q])(_:YA C CM H p ds m O)(_:H q=some (.tup (cdV day need l1 l2 (.wer x y many))))(_:Ab ds m H l1 l2 o1 o2 day need f)(_:¬O l1)(_:¬O l2)(_:cdOk (.wer x y many))(_:(∀z,eCD ds m day need f o1 o2 (.wer x y many)=some z->z∈errs))(_:∀H',(∀b o,H b=some o->¬O b->H' b=some o)->Q (.str (B8 (eCD ds m day need f o1 o2 (.wer x y many)))) H')
abbrev Kd:Stmt:=top 83
theorem NV(Zi0:YB K mg "_law_kind" Kd)(er:Er K mg c errs)(Zdp:YT P w K mg base "done" 8 (Sp.or (YY C CM c) (YX C CM c))):Fn P w K mg base "_law_kind" ["_law_moot","_law_deed_here"] 9 (Tf C CM):=by
 refine Zi0.f0 ["_law_moot","_law_deed_here","_law_kind_here"] fun H vs Q E hr h=>?_;obtain⟨p,ds,m,O,q,x,y,many,day,need,l1,l2,o1,o2,f,rfl,W,hq,cs,n1,n2,ok,he,k⟩:=h
 refine⟨rfl,_,(TM (QS.q0 (Zv 2 Z2)) (TM (EC A5 (fun _ _ hx=>(Zg (Zj (Wr hx Zdp (Za Q0 (Za Q8 Zb)))))) (CI A5 (er.g "Forsworn" aA) (fun _ _=>(Zg (Zv 2 Z2))) (CI A5 (er.m) (fun _ _=>(Zg (Zv 2 Z2))) Ez)))
 (TM (QS.q0 (Zw Q9))
 (WR.q0 Zo)))),?_⟩
 refine Yt fun D1 hn1=>hn1 _ _ ?_;refine Yt fun D2 hn2=>?_;refine⟨_,rfl,_,rfl,.inr ⟨p,ds,m,O,q,.wer x y many,day,need,l1,l2,o1,o2,f,rfl,W,hq,cs,n1,n2,ok,?_⟩⟩;cases e:eCD ds m day need f o1 o2 (.wer x y many) with
 | none =>
  rw[e] at k;exact fun O' H' W' F'=>hn2 _ _ ⟨_,rfl,k H' fun b o h n=>F'.1 b o h n⟩
 | some z =>
  rw[e] at k;have hm:=he z e;have kz:∀H',ZA H H'->Q (.str (B8 (some z))) H':=fun H' S'=>k H' fun b o h _=>S' _ _ h;intro H' S';refine⟨_,rfl,_,er.s _ hm _ aA,?_⟩
  by_cases y:z = "Forsworn"
  ·rw[yJ y];refine Z7 (hn2 _ _ ⟨_,rfl,?_⟩);have:=kz H' S'
   rwa [show B8 (some z)= "Forsworn" from if_pos y] at this
  ·rw[yZ y];refine Z4 ⟨true,er.e _ hm,Z7 (hn2 _ _ ⟨_,rfl,?_⟩)⟩;have:=kz H' S'
   rwa [show B8 (some z)= "other" from if_neg y] at this
theorem Xs{X:Cx}{E':XM}:AN (X.wish E') (Jz X.K):=Yb (X:=X.wish E')
inductive VA(C CM:XW)(vs:aG)(H:Hp)(Q:VK)(z3:XK):Prop
 |mk(p nl:XW) (ds:List ZI) (m:Mo) (O:XW->Prop) (ns:XO)(_:vs = [.ref p,.ref nl])(_:YA C CM H p ds m O)(_:WS m)(_:H nl=some (.lst (ns.map V.str)))(_:0 < ns.length)(_:ns.length<=100)(_:ns.Nodup)(_:(∀n∈ns,Wz n))(_:(∀n,n∉ns->Zn ds n=none))(_:∀H',ZA H H'->Q (.bl true) H')
abbrev IS:Stmt:=top 84
theorem Ld(Zi1:YB K mg "_law_stranger_refused" IS)(Tm:ZK K CM)(er:Er K mg c errs)(Zgv:Fn P w K mg base "_law_unlike" ["_law_names_here","_law_name"] 1 (YR K))(MM_forsworn:ZY P w K mg base CM "forsworn" 2 (VS C CM c)):Fn P w K mg base "_law_stranger_refused" ["_law_moot","_law_names_here"] 4 (VA C CM):=by
 refine Zi1.f0 ["_law_moot","_law_names_here","_law_kind_here"] fun H vs Q E hr h=>?_;obtain⟨p,nl,ds,m,O,ns,rfl,W,ok,hn,n0,n1,nd,nn,no,k⟩:=h
 refine⟨rfl,_,(TM (QS.q0 (Zv 2 Z2)) (TM (EC A5 (fun _ _ hx=>(Zg (Zj (Yj hx Q0 Tm.cl MM_forsworn (Za (Zk Zgv (Za Q8 (Za (Zh Xs Q8 Zd (fun _ _=>rfl)) Zb))) Zb))))) (CI A5 (er.g "Unknown" aA) (fun _ _=>(Zg (Zv 2 Z2))) Ez))
 (TM (QS.q0 (Zw (Uz Yo Q9 Z2 (Zu _))))
 (WR.q0 Zo)))),?_⟩
 obtain⟨x,r,rfl⟩:∃x r,ns=x::r:=by cases ns with | nil=>cases n0 | cons x r=>exact⟨x,r,rfl⟩
 obtain⟨M,wa,xs,qs,hM,WM,_⟩:=id W;obtain⟨dm,obm⟩:=WM.ob;rw[hM] at obm;refine Yt fun D1 hn1=>hn1 _ _ ?_;refine Yt fun D2 hn2=>?_;refine⟨_,rfl,p,dm,_,rfl,obm,Yi _ aA,_,rfl,_,rfl,nl,_,0,.str x,rfl,rfl,ZF.of hn,Yu (j:=0) (by rfl),?_⟩;refine⟨nl,x::r,x,rfl,ZF.of hn,by lia,nn x xY,fun y hy ny=>?_⟩;refine⟨p,ds,m,O,y,rfl,W,ok,by have:=hy.2.2;lia,?_⟩;rw[show We ds y=some ("Unknown" : Str) from if_pos (no y ny)];intro H' S';have hm:("Unknown" : Str)∈errs:=aA
 refine⟨_,rfl,_,er.s _ hm _ hm,?_⟩;rw[yJ rfl];exact Z7 (hn2 _ _ ⟨_,rfl,rfl,k H' S'⟩)
end
section
variable{P:XX}{w:XY}{K:uFg}{mg:XN}{base:Heap}{C CM:XW}{c:XR}
theorem Pe(s:V2)(x:AD):∃r,(Vx s x).1=s.1++r:=by
 cases x with
 | s d=>cases d<;>first | exact⟨_,rfl⟩ | exact⟨[],(yD _).symm⟩
 | c d day need o1 o2 f=>exact⟨[],(yD _).symm⟩
theorem Hk:∀(bs:List AD)(s:V2),∃r,(bs.foldl Vx s).1=s.1++r
 | [],s=>⟨[],(yD _).symm⟩
 | x::bs,s=>by
  obtain⟨r1,e1⟩:=Pe s x;obtain⟨r2,e2⟩:=Hk bs (Vx s x);exact⟨r1++r2,by rw[zJ,e2,e1,yW]⟩
theorem NW(as:List AD)(i:Nat):∃r,(Zf as).1=(Zf (as.take i)).1++r:=by
 obtain⟨r,e⟩:=Hk (as.drop i) (Zf (as.take i));refine⟨r,?_⟩;rw[← e];unfold Zf;rw[← zT,zC]
theorem LD{as:List AD}{i:Nat}{n:Str}{d:Int×Str}(h:Z6 (Zf (as.take i)).1 n=some d):Z6 (Zf as).1 n=some d:=by
 obtain⟨r,e⟩:=NW as i;rw[e,BO,h];rfl
theorem RG{x:AD}(h:Wa x = "die"):∃n he d,x = .s (.die n he d):=by
 cases x with
 | s d=>cases d<;>first | exact⟨_,_,_,rfl⟩ | exact absurd h (by dsimp only [Wa];decide +kernel)
 | c d day need o1 o2 f=>cases d<;>exact absurd h (by dsimp only [Wa];decide +kernel)
theorem RS{ds:List ZI}{x:AD}{n:Str}(h:Z6 ds n=none):Z6 (fdS ds x) n=match x with
  | .s (.die m he d)=>if m=n then some (d,he) else none
  | _=>none:=by
 cases x with
 | s d =>
  cases d with
  | come m d wt=>exact(E4 n).trans h
  | rise m d wt=>exact(Em n).trans h
  | die m he d=>show Z6 (ds ++ [_]) n=_;rw[BO,h];rfl
  | _=>exact h
 | c d day need o1 o2 f=>exact h
def PV(H:Hp):Option (Int×Str)->V->Prop
 | none,v=>v = .non
 | some (d,he),v=>∃a,v = .ref a/\H a=some (.tup [.int d,.str he])
inductive Td(vs:aG)(H:Hp)(Q:VK)(z3:XK):Prop
 |mk(q:XW) (fx:XS) (as:List AD) (n:Str)(_:vs = [.ref q,.str n])(_:WG H fx q (as.map adT))(_:∀v H',ZA H H'->PV H' (Z6 (Zf as).1 n) v->Q v H')
abbrev Hr:Stmt:=top 67
theorem KC(Zi2:YB K mg "_law_death" Hr)(T:Txt mg):Fn P w K mg base "_law_death" ["_law_deeds","_law_name"] 1 Td:=by
 refine Zi2.fq ["_law_deeds","_law_name","_law_deed_here"] fun H vs Q E hr h=>?_;obtain⟨q,fx,as,n,rfl,⟨vs,hq,hrep⟩,k⟩:=h;refine⟨rfl,_,(Zc (Wq PassesOwn.never rfl (Y6 Q0) (Ye 2) (Zg (Zp (QW.pt (Vl (Zq Yo (Zh Zs Q9 Zd (fun _ _=>rfl)) Z2 (Zu _)) (Uo (Zq Yo (Zh Zs Q9 Zd (fun _ _=>rfl)) Q8 (Zu _))))) (Zg (Zw (Z9 (Za (Zh Zs Q9 Zd (fun _ _=>rfl)) (Za (Zh Zs Q9 Zd (fun _ _=>rfl)) Zb))))) Zo))) (Zg (Zw Y7))),?_⟩;have hz:=aC
 have hvl:=hrep.length;rw[xA] at hvl;refine⟨_,rfl,q,rfl,⟨_,ZF.of hq⟩,?_⟩;refine Vn vs (fun i σ H'=>∃v2:Option V,σ = [some (.ref q),some (.str n),v2]/\H'=H/\Z6 (Zf (as.take i)).1 n=none) ⟨none,rfl,rfl,rfl⟩ (fun i σ H' _ ⟨_,_,e,_⟩=>by rw[e];exact ZF.of hq) ?_ ?_
 ·rintro i v σ H' hv ⟨v2,rfl,rfl,hno⟩;obtain⟨x0,hx0,re⟩:=hrep.get hv;rw[xE] at hx0;obtain⟨x,hx,rfl⟩:=xP.mp hx0;have et:as.take (i+1)=as.take i ++ [x]:=by rw[xW,hx];rfl
  have cr:=RS (x:=x) hno;rw[← An,← et] at cr;obtain⟨a,us,rfl,ha,hw⟩:=Bh re;refine⟨_,rfl,a,_,0,.str (Wa x),rfl,rfl,ZS.of ha,Yu hw,rfl,_,rfl,Zy (fun z=>?_) (fun z=>Z4 ?_)⟩
  ·obtain⟨m,he,dd,rfl⟩:=RG (by injection z);obtain⟨a',e',ha'⟩:=Be re;cases e';rw[ha'] at ha;cases ha;refine⟨_,rfl,a,_,1,.str m,rfl,rfl,ZS.of ha',rfl,_,rfl,rfl,_,rfl,Zy (fun z2=>?_) (fun z2=>?_)⟩
   ·have em:m=n:=by injection z2
    have cr:=cr.trans (if_pos em);have:=LD cr;rw[this] at k;refine⟨_,rfl,a,_,2,.int dd,rfl,rfl,ZS.of ha',rfl,_,rfl,a,_,3,.str he,rfl,rfl,ZS.of ha',rfl,aB rfl,fun p hp=>k _ _ (ZA.new hp) ⟨p,rfl,Zi⟩⟩
   ·refine⟨_,rfl,rfl,cr.trans (if_neg fun y=>z2 (by rw[y]))⟩
  ·refine⟨_,rfl,rfl,cr.trans ?_⟩;split
   ·exact absurd rfl z
   ·rfl
 ·rintro σ H' ⟨v2,rfl,rfl,hno⟩;rw[hvl,xX] at hno;rw[hno] at k;exact k _ _ (ZA.refl _) rfl
inductive UE(vs:aG)(H:Hp)(Q:VK)(z3:XK):Prop
 |mk(q:XW) (fx:XS) (as:List AD) (n:Str) (day:Int)(_:vs = [.ref q,.str n,.int day])(_:WG H fx q (as.map adT))(_:∀H',ZA H H'->Q (.bl (V5 (Zf as).1 n day)) H')
abbrev Ko:Stmt:=top 68
theorem RH(Zi3:YB K mg "_law_is_dead" Ko)(T:Txt mg)(Zzv:Fn P w K mg base "_law_death" ["_law_deeds","_law_name"] 1 Td):Fn P w K mg base "_law_is_dead" ["_law_deeds","_law_name","_law_day"] 2 UE:=by
 refine Zi3.fq ["_law_deeds","_law_name","_law_day","_law_death_here"] fun H vs Q E hr h=>?_;obtain⟨q,fx,as,n,day,rfl,hl,k⟩:=h;refine⟨rfl,_,(Zc (Zv 3 (Zk Zzv (Za Q0 (Za Q8 Zb)))) (Zg (Zw (Cu (Uz J9 Qa Y7 (Zu _)) (CC (Uz Wj (Zh Zs Qa Zd (fun _ _=>rfl)) Q9 (Zu _))))))),?_⟩;refine⟨_,rfl,_,rfl,q,fx,as,n,rfl,hl,fun v H1 S1 hv=>?_⟩;refine Z8 ?_;have k:=k H1 S1;unfold V5 at k;cases e:Z6 (Zf as).1 n with
 | none =>
  rw[e] at hv k;have hv:v = .non:=hv;subst hv;exact⟨_,rfl,rfl,_,rfl,Z4 k⟩
 | some x =>
  obtain⟨d,he⟩:=x;rw[e] at hv k;obtain⟨a,rfl,ha⟩:=hv;refine⟨_,rfl,rfl,_,rfl,Z7 ?_⟩;exact⟨_,rfl,a,_,0,.int d,rfl,rfl,ZS.of ha,rfl,_,rfl,_,_,rfl,rfl,k⟩
def Ap(n:Str)(s:Nat×Nat):AD->Nat×Nat
 | .c ..=>(s.1+1,s.2)
 | .s (.pen y)=>if y=n then (s.1,s.1) else s
 | _=>s
def Vk(as:List AD)(n:Str):Nat×Nat:=as.foldl (Ap n) (0,0)
theorem Pg(s:V2)(a:AD):(Vx s a).2.trials.length=s.2.trials.length+(if isC a=true then 1 else 0):=by
 cases a with
 | s d=>cases d<;>rfl
 | c d day need o1 o2 f=>cases d<;>exact Wv _ _
theorem Lo(s:V2)(a:AD)(n:Str):(Vx s a).2.pen n=match a with
  | .s (.pen y)=>if n=y then some s.2.trials.length else s.2.pen n
  | _=>s.2.pen n:=by
 cases a with
 | s d=>cases d<;>first | rfl | (unfold Vx;rfl)
 | c d day need o1 o2 f=>cases d<;>rfl
theorem NO(as:List AD)(n:Str):(Zf as).2.trials.length=(Vk as n).1/\(((Zf as).2.pen n).getD 0:Int)=(Vk as n).2:=by
 suffices h:∀(as:List AD)(s:V2)(u:Nat×Nat),s.2.trials.length=u.1->((s.2.pen n).getD 0:Int)=u.2->(as.foldl Vx s).2.trials.length=(as.foldl (Ap n) u).1/\(((as.foldl Vx s).2.pen n).getD 0:Int)=(as.foldl (Ap n) u).2 from h as _ (0,0) rfl rfl
 intro as
 induction as with
 | nil=>exact fun s u h1 h2=>⟨h1,h2⟩
 | cons a as ih =>
  intro s u h1 h2;rw[zJ,zJ];refine ih _ _ ?_ ?_
  ·rw[Pg,h1];cases a with
   | s d =>
    cases d
    case pen y=>show u.1+0=(if y=n then (u.1,u.1) else u).1;split<;>rfl
    all_goals rfl
   | c d day need o1 o2 f=>rfl
  ·rw[Lo];cases a with
   | s d =>
    cases d
    case pen y =>
     show ((if n=y then some (s.2.trials.length:Int) else s.2.pen n).getD 0:Int)=((if y=n then (u.1,u.1) else u).2:Nat)
     by_cases z:y=n
     ·rw[if_pos z,if_pos z.symm,h1];rfl
     ·rw[if_neg z,if_neg (fun e=>z e.symm)];exact h2
    all_goals exact h2
   | c d day need o1 o2 f=>exact h2
theorem MC(as:List AD):(Zf as).2.verd=(Yc [] 0 (Zf as).2.trials).1:=by
 suffices h:∀(as:List AD)(s:V2),s.2.verd=(Yc [] 0 s.2.trials).1->(as.foldl Vx s).2.verd=(Yc [] 0 (as.foldl Vx s).2.trials).1 from h as _ rfl
 intro as
 induction as with
 | nil=>exact fun s h=>h
 | cons a as ih =>
  intro s h;rw[zJ];refine ih _ ?_;cases a with
  | s d=>cases d<;>exact h
  | c d day need o1 o2 f=>cases d<;>rfl
theorem OR{x:AD}(h:Wa x = "penance"):∃y,x = .s (.pen y):=by
 cases x with
 | s d=>cases d<;>first | exact⟨_,rfl⟩ | (exact absurd h (by simp only[Wa];decide +kernel))
 | c d day need o1 o2 f=>cases d<;>exact absurd h (by simp only[Wa];decide +kernel)
theorem Oe{n:Str}{u:Nat×Nat}{x:AD}(h:¬Wa x = "penance"):Ap n u x=(u.1+(if isC x=true then 1 else 0),u.2):=by
 cases x with
 | s d=>cases d<;>first | rfl | exact absurd rfl h
 | c d day need o1 o2 f=>rfl
theorem NX(as:List AD)(n:Str):(Vk as n).2<=(Vk as n).1:=by
 suffices h:∀(as:List AD)(u:Nat×Nat),u.2<=u.1->(as.foldl (Ap n) u).2<=(as.foldl (Ap n) u).1 from h as _ (xD _)
 intro as
 induction as with
 | nil=>exact fun u h=>h
 | cons a as ih =>
  intro u h;refine ih _ ?_;cases a with
  | s d =>
   cases d
   case pen y=>show (if y=n then (u.1,u.1) else u).2<=(if y=n then (u.1,u.1) else u).1;split;exact xD _;exact h
   all_goals exact h
  | c d day need o1 o2 f=>exact zU h
theorem Rx{m:Mo}{n:Str}{j:Nat}(h:(j:Int) < (m.pen n).getD 0):V1 m n j=false:=by
 unfold V1;split
 ·grind
 ·rfl
theorem fors_iff{m:Mo}{n:Str}:Vi m n=true↔∃i,i < m.trials.length/\V1 m n i=true:=by
 unfold Vi A2;rw[List.any_eq_true];constructor
 ·rintro⟨i,h,e⟩;exact⟨i,wG.mp h,e⟩
 ·rintro⟨i,h,e⟩;exact⟨i,wG.mpr h,e⟩
theorem QL{t u:TS}{D:YE}{σ:St}{H:Hp}(h:∀D':YE,(∀ σ' H',u D σ' H'->D'.nx σ' H')->(∀v H',D.rt v H'->D'.rt v H')->t D' σ H):Ue t u D σ H:=h {D with nx:=u D } (fun _ _ h=>h) fun _ _ h=>h
inductive VL(vs:aG)(H:Hp)(Q:VK)(z3:XK):Prop
 |mk(l:XW) (ss:List ZT)(_:vs = [.ref l])(_:ZQ H ss l)(_:ss.length<=1000)(_:∀(l2:XW)(H':Hp),H' l2=some (.lst ((Yc [] 0 ss).1.map V.bl))->ZA H H'->Q (.ref l2) H')
inductive JZ(vs:aG)(H:Hp)(Q:VK)(z3:XK):Prop
 |mk(s:XW) (W:WL) (fx:XS) (as bs:List AD) (n:Str)(_:vs = [.ref W.wl,.str n])(_:ZX s H fx W as bs (Zf as).2.trials)(_:WS (Zf as).2)(_:as.length<=1000)(_:∀H',ZA H H'->Q (.bl (Vi (Zf as).2 n)) H')
abbrev HI:Stmt:=top 82
theorem XG(Zi4:YB K mg "_law_is_forsworn" HI)(T:Txt mg)(Zit:Fn P w K mg base "_law_is_case" ["_law_deed_here"] 1 TU)(Zzx:Fn P w K mg base "_law_settled" ["_law_suits"] 3 VL):Fn P w K mg base "_law_is_forsworn" ["_law_world","_law_name"] 4 JZ:=by
 refine Zi4.fq ["_law_world","_law_name","_law_deeds","_law_suits","_law_trials","_law_start_here","_law_count","_law_deed_here","_law_told","_law_case"] fun H vs Q E hr h=>?_;obtain⟨s,W,fx,as,bs,n,rfl,hW,ok,al,k⟩:=h
 refine⟨rfl,_,(Zc (Um Q0 (GJ (by rfl) (Yx (Ye 2) (Yx (Ye 3) (Yx (Ye 4) V3)))))
 (Zc (Zv 5 Zd)
 (Zc (Zv 6 Zd)
 (Zc (Wq PassesOwn.never rfl (Y6 Q9) (Ye 7)
 (Zc (Zp (Vd (Zk Zit (Za Qe Zb))) (Zg (Zv 6 (Z0 Wf Qd Zd))) Zo)
 (Zg (Zp (QW.pt (Vl (Zq Yo (Zh Zs Qe Zd (fun _ _=>rfl)) Z2 (Zu _)) (Uo (Zq Yo (Zh Zs Qe Zd (fun _ _=>rfl)) Q8 (Zu _))))) (Zg (Zv 5 Qd)) Zo))))
 (Zc (Zv 8 (Zk Zzx (Za Qa Zb)))
 (Zc (Wq PassesOwn.never rfl (Fs T.range (Za Qc (Za (Z5 Yp T.len Yh (Za Qa Zb)) Zb))) (Ye 9)
 (Zg (Zp (QW.pt (Vl (Vd (Zh Yb (qvN 8) (qvN 9) (fun _ _=>rfl))) (Vl (Zq J9 (Zh Zs (Zh Yb Qa (qvN 9) (fun _ _=>rfl)) Zd (fun _ _=>rfl)) Y7 (Zu _)) (Uo (Zq Yo (Zh Zs (Zh Zs (Zh Yb Qa (qvN 9) (fun _ _=>rfl)) Zd (fun _ _=>rfl)) Zd (fun _ _=>rfl)) Q8 (Zu _)))))) (Zg (Zw Ji)) Zo)))
 (Zg (Zw Ji)))))))),?_⟩
 obtain⟨vs,hv,hvr⟩:=id hW.d;have hvl:=hvr.length;rw[xA] at hvl;refine Yt fun D1 hn1=>?_;refine⟨_,rfl,W.wl,_,rfl,ZF.of hW.e,rfl,_,_,rfl,_,_,rfl,_,_,rfl,rfl,hn1 _ _ ?_⟩;refine Yt fun D2 hn2=>Z8 (hn2 _ _ ?_);refine Yt fun D3 hn3=>Z8 (hn3 _ _ ?_);refine Yt fun D4 hn4=>?_;refine⟨_,rfl,W.dl,rfl,⟨_,ZF.of hv⟩,?_⟩;refine Vn vs (fun i σ H'=>∃v7:Option V,σ = [some (.ref W.wl),some (.str n),some (.ref W.dl),some (.ref W.sl),some (.ref W.tl),some (.int (Vk (as.take i) n).2),some (.int (Vk (as.take i) n).1),v7,none,none]/\ZA H H') ⟨none,rfl,ZA.refl _⟩ (fun i σ H' _ ⟨_,_,S⟩=>ZF.of (S _ _ hv)) ?_ ?_
 ·rintro i y σ H' hy ⟨v7,rfl,S⟩;have hvr':ZP (fz fx H') (as.map adT) vs:=by
   obtain⟨vs',e,r⟩:=(hW.same S).d;rw[S _ _ hv] at e;cases e;exact r
  obtain⟨x0,hx0,re⟩:=hvr'.get hy;rw[xE] at hx0;obtain⟨x1,hx1,rfl⟩:=xP.mp hx0;have et:Vk (as.take (i+1)) n=Ap n (Vk (as.take i) n) x1:=by
   unfold Vk;rw[xW,hx1];exact zT ..
  rw[et];generalize Vk (as.take i) n=u;refine Z8 ?_;refine V4 (fun σ H'=>σ = [some (.ref W.wl),some (.str n),some (.ref W.dl),some (.ref W.sl),some (.ref W.tl),some (.int u.2),some (.int ((u.1+(if isC x1=true then 1 else 0):Nat):Int)),some y,none,none]/\ZA H H') ?_ ?_
  ·rintro σ H2 ⟨rfl,S2⟩;have re2:YC (fz fx H2) (adT x1) y:=by
    obtain⟨vs',e,r⟩:=(hW.same S2).d;rw[S2 _ _ hv] at e;cases e;obtain⟨z0,hz0,rz⟩:=r.get hy;rw[xE,hx1] at hz0;cases hz0;exact rz
   by_cases wp:Wa x1 = "penance"
   ·obtain⟨yy,rfl⟩:=OR wp;obtain⟨q,rfl,hq⟩:=Be re2;refine⟨_,rfl,q,_,0,.str "penance", rfl,rfl,ZS.of hq,rfl,rfl,_,rfl,Zy (fun _=>?_) (fun z=>absurd rfl z)⟩;refine⟨_,rfl,q,_,1,.str yy,rfl,rfl,ZS.of hq,rfl,_,rfl,rfl,_,rfl,Zy (fun z=>?_) (fun z=>?_)⟩
    ·have z:yy=n:=by injection z
     refine⟨_,rfl,⟨some (.ref q),?_,S2⟩⟩;subst z;show _ = [_,_,_,_,_,some (V.int ((if yy=yy then (u.1,u.1) else u).2:Nat)),some (V.int ((if yy=yy then (u.1,u.1) else u).1:Nat)),_,_,_];rw[if_pos rfl];rfl
    ·have z:¬yy=n:=fun e=>z (by rw[e]);refine⟨some (.ref q),?_,S2⟩;show _ = [_,_,_,_,_,some (V.int ((if yy=n then (u.1,u.1) else u).2:Nat)),some (V.int ((if yy=n then (u.1,u.1) else u).1:Nat)),_,_,_];rw[if_neg z];rfl
   ·obtain⟨q,us',rfl,hq,hw⟩:=Bh re2;refine⟨_,rfl,q,_,0,.str (Wa x1),rfl,rfl,ZS.of hq,Yu hw,rfl,_,rfl,Zy (fun z=>absurd (by injection z) wp) (fun _=>?_)⟩;exact Z4 ⟨_,by rw[Oe wp],S2⟩
  ·intro D5 hn5 _ _ _;refine⟨_,rfl,y,fx,x1,rfl,re,fun H2 S2=>⟨_,rfl,Gr (fun z=>?_) (fun z=>?_)⟩⟩
   ·exact⟨_,rfl,_,_,rfl,rfl,hn5 _ _ ⟨by rw[if_pos z];rfl,S.trans S2⟩⟩
   ·exact hn5 _ _ ⟨by rw[if_neg (by rw[z];exact xL)];rfl,S.trans S2⟩
 rintro σ H1 ⟨v7,rfl,S1⟩;rw[hvl,xX];refine hn4 _ _ ?_;obtain⟨e1,e2⟩:=NO as n;obtain⟨us,hu,hur⟩:=id hW.u;have hul:=hur.length;rw[xA] at hul;have tl:=ok.le;have su:ZQ H (Zf as).2.trials W.sl:=⟨us,hu,hur.mono' Dp⟩;refine Yt fun D6 hn6=>?_;refine⟨_,rfl,W.sl,_,rfl,su.mono S1,by lia,fun l2 H2 k2 S2=>Z8 (hn6 _ _ ?_)⟩;rw[← MC] at k2;have S02:=S1.trans S2;refine QL fun D7 hn7 hr7=>?_;have p2:=NX as n;refine⟨_,rfl,_,rfl,W.sl,us,rfl,.inl (ZF.of (S02 _ _ hu)),_,_,rfl,⟨by lia,by lia,by lia,by lia⟩,?_⟩;refine Bi (us.length - (Vk as n).2) (by lia) (fun i σ H'=>∃v9:Option V,σ = [some (.ref W.wl),some (.str n),some (.ref W.dl),some (.ref W.sl),some (.ref W.tl),some (.int (Vk as n).2),some (.int (Vk as n).1),v7,some (.ref l2),v9]/\ZA H H'/\H' l2=some (.lst ((Zf as).2.verd.map V.bl))/\∀j,j < (Vk as n).2+i->V1 (Zf as).2 n j=false) ⟨none,rfl,S02,k2,fun j hj=>Rx (by rw[e2];lia)⟩ ?_ ?_
 ·rintro i σ H' hi ⟨v9,rfl,S,k3,no⟩;have vl:=ok.vl;obtain⟨j,hj⟩:∃j,j=(Vk as n).2+i:=⟨_,rfl⟩;have ej:(((Vk as n).2:Int)+(i:Nat))=((j:Nat):Int):=by lia
  rw[ej];have next:V1 (Zf as).2 n j=false->∀x,x < (Vk as n).2+(i+1)->V1 (Zf as).2 n x=false:=fun e x hx=>if h:x=j then by rw[h];exact e else no x (by lia)
  obtain⟨t,ht⟩:∃t,(Zf as).2.trials[j]? = some t:=⟨_,xB (by lia)⟩;obtain⟨b,hb⟩:∃b,(Zf as).2.verd[j]? = some b:=⟨_,xB (by lia)⟩;have eF:V1 (Zf as).2 n j=match t.named with | some p=>decide (p.2=n) && b && true | none=>false:=by
   unfold V1;rw[ht,yJ (show ((Zf as).2.pen n).getD 0<=(j:Int) by rw[e2];lia),xZ,hb];rfl
  obtain⟨us',hl',hrep'⟩:=su.mono S;obtain⟨ta,u1,u2,u4,hu4,hta,_,_,h4⟩:=ZQ.get (l:=W.sl) hrep' ht;refine⟨_,rfl,_,rfl,l2,_,j,.bl b,rfl,rfl,ZF.of k3,Yu (by rw[xE,hb];rfl),b,rfl,?_⟩;cases b with
  | false=>exact Z4 ⟨_,rfl,S,k3,next (by rw[eF];cases t.named<;>simp)⟩
  | true =>
   refine Z7 ?_;refine⟨_,rfl,_,rfl,W.sl,us',j,.ref ta,rfl,rfl,ZF.of hl',Yu hu4,ta,_,3,u4,rfl,rfl,ZS.of hta,rfl,?_⟩;cases hn:t.named with
   | none =>
    rw[hn] at h4 eF;cases h4;exact⟨rfl,_,rfl,Z4 ⟨_,rfl,S,k3,next eF⟩⟩
   | some o =>
    rw[hn] at h4 eF;obtain⟨oc,on⟩:=o;obtain⟨d,bs',rfl,hd,⟨y1,r1,rfl,f1,⟨y2,r2,rfl,f2,f3⟩⟩⟩:=h4;cases f1;cases f2;cases f3;refine⟨rfl,_,rfl,Z7 ?_⟩;refine⟨_,rfl,_,rfl,W.sl,us',j,.ref ta,rfl,rfl,ZF.of hl',Yu hu4,ta,_,3,.ref d,rfl,rfl,ZS.of hta,rfl,d,_,1,.str on,rfl,rfl,ZS.of hd,rfl,_,rfl,rfl,_,rfl,Zy (fun z=>?_) (fun z=>?_)⟩
    ·have z:on=n:=by injection z
     have e:Vi (Zf as).2 n=true:=fors_iff.mpr ⟨j,by lia,by rw[eF];simp[z]⟩;have:=k H' S;rw[e] at this;exact hr7 _ _ this
    ·exact⟨_,rfl,S,k3,next (by rw[eF];simp;exact fun y=>z (by rw[y]))⟩
 ·rintro σ H' ⟨v9,rfl,S,k3,no⟩;refine hn7 _ _ ?_;have e:Vi (Zf as).2 n=false:=by
   cases e:Vi (Zf as).2 n with
   | false=>rfl
   | true =>
    obtain⟨i,hi,hb⟩:=fors_iff.mp e;rw[no i (by lia)] at hb;cases hb
  have:=k H' S
  rwa [e] at this
end
theorem El(more:List A0):∀k ss i,(Yc more i ss).1.drop k=(Yc more (i+k) (ss.drop k)).1
 | 0,ss,i=>rfl
 | k+1,[],i=>by rw[List.drop_nil,Yc,Yc,List.drop_nil]
 | k+1,t::r,i=>by
  rw[Yc,List.drop_succ_cons,List.drop_succ_cons,El more k r (i+1)];have:i+1+k=i+(k+1):=by lia
  rw[this]
theorem IE(more:List A0)(x:A0):∀(r:List ZT)(i:Nat),x∈(Yc more i r).2↔x∈more\/∃(j:Nat)(t:ZT),r[j]? = some t/\(Yc more i r).1[j]? = some true/\t.named=some x
 | [],i=>by rw[Yc];exact⟨.inl,fun h=>h.elim id fun⟨j,t,e,_⟩=>by simp at e⟩
 | t::r,i=>by
  have ih:=IE more x r (i+1);rw[Yc];generalize decide (0<=Uv (fun c n=>decide ((c,n)∈(Yc more (i+1) r).2)) i t)=b;dsimp only;have tail:(∃(j:Nat)(u:ZT),(t::r)[j]? = some u/\(b::(Yc more (i+1) r).1)[j]? = some true/\u.named=some x)↔(b=true/\t.named=some x)\/∃(j:Nat)(u:ZT),r[j]? = some u/\(Yc more (i+1) r).1[j]? = some true/\u.named=some x:=by
   constructor
   ·grind
   ·rintro(⟨rfl,e⟩ | ⟨j,u,e1,e2,e3⟩)
    ·exact⟨0,t,rfl,rfl,e⟩
    ·exact⟨j+1,u,e1,e2,e3⟩
  rw[tail];cases b with
  | false =>
   rw[if_neg xL,ih];exact⟨fun h=>h.imp id .inr,fun h=>h.imp id fun z=>z.elim (fun q=>nomatch q.1) id⟩
  | true =>
   rw[if_pos rfl,xJ,ih,Option.mem_toList];constructor
   ·grind
   ·grind
theorem QP{ss:List ZT}{c:Nat}{t:ZT}(ht:ss[c]? = some t):∃br:Int->Str->Bool,(∀n,br c n=true↔Fx (Yc [] 0 ss).1 ss c n)/\(Yc [] 0 ss).1[c]? = some (decide (0<=Uv br c t)):=by
 have hc:=(xH.mp ht).1;have ed:ss.drop c=t::ss.drop (c+1):=by
  have:=zI hc;rw[this];have e:=xB hc;rw[ht] at e;rw[Option.some.inj e]
 refine⟨fun a n=>decide ((a,n)∈(Yc [] (c+1) (ss.drop (c+1))).2),fun n=>?_,?_⟩
 ·rw[wC,IE];have e1:=El [] (c+1) ss 0;rw[Nat.zero_add] at e1;rw[← e1];constructor
  ·rintro(h | ⟨j,u,a1,a2,a3⟩)
   ·cases h
   ·rw[wB] at a1 a2;exact⟨c+1+j,u,by lia,a1,a2,a3⟩
  ·rintro⟨j,u,a0,a1,a2,a3⟩;refine .inr ⟨j - (c+1),u,?_,?_,a3⟩
   ·rw[wB,show c+1+(j - (c+1))=j by lia];exact a1
   ·rw[wB,show c+1+(j - (c+1))=j by lia];exact a2
 ·have e0:=El [] c ss 0;rw[Nat.zero_add,ed,Yc] at e0;have:(Yc [] 0 ss).1[c]? = ((Yc [] 0 ss).1.drop c)[0]?:=by rw[wB,Nat.add_zero]
  rw[this,e0];rfl
theorem Hf{br:Int->Str->Bool}{c:Int}{sd:Va}{i:Nat}{p:Str×Int}(h:sd[i]? = some p):Ua br c (sd.take (i+1))=Ua br c (sd.take i)+(if br c p.1 then 0 else p.2):=by
 unfold Ua wts;rw[FW h,xO,List.sum_append];cases br c p.1<;>simp
theorem SA(m:Nat)(hm:n=m)(Pv:Nat->List V->Hp->Prop)(h0:Pv 0 [] H)(hn:m<=1000000)(hlen:∀i ys H,Pv i ys H->ys.length<=i)(step:∀i ys H,i < m->Pv i ys H->Vp nl fv g tt te (.int (lo+i)) H (fun y H'=>Pv (i+1) (ys ++ [y]) H') fun H'=>Pv (i+1) ys H')(hd:∀ys H,Pv m ys H->∀l,H l=none->Q (.ref l) (upd H l (.lst ys))):Ul (Jl lo n) nl fv g tt te Q H:=by
 subst hm;exact Ik Pv h0 hn hlen step hd
theorem RA{ls:List (Option V)}(h:ls.length=1):∃w,ls = [w]:=by
 match ls,h with
 | [w],_=>exact⟨w,rfl⟩
def Jp(H:Hp)(bs:List Bool)(ss:List ZT)(c k:Nat)(vs:aG):Prop :=
 (∀v∈vs,v = .non\/∃a c' n',v = .ref a/\H a=some (.tup [.int c',.str n']))/\∀n:Str,(∃a,V.ref a∈vs/\H a=some (.tup [.int c,.str n]))↔∃j t,c < j/\j < k/\ss[j]? = some t/\bs[j]? = some true/\t.named=some ((c:Int),n)
theorem Jp.mono(h:Jp H bs ss c k vs)(S:ZA H H'):Jp H' bs ss c k vs:=by
 refine⟨fun v hv=>(h.1 v hv).imp id fun⟨a,c',n',e,x⟩=>⟨a,c',n',e,S _ _ x⟩,fun n=>?_⟩;rw[← h.2 n];constructor
 ·rintro⟨a,m,e⟩;rcases h.1 _ m with z | ⟨a2,c',n',z,x⟩
  ·cases z
  ·cases z;rw[S _ _ x] at e;exact⟨a,m,by rw[x];exact e⟩
 ·rintro⟨a,m,e⟩;exact⟨a,m,S _ _ e⟩
theorem Jp.skip(h:Jp H bs ss c k vs)(hb:bs[k]? = some false):Jp H bs ss c (k+1) vs:=by
 refine⟨h.1,fun n=>?_⟩;rw[h.2 n];constructor
 ·rintro⟨j,t,a,b,r⟩;exact⟨j,t,a,by lia,r⟩
 ·grind
theorem Jp.add(h:Jp H bs ss c k vs)(hk:c < k)(ht:ss[k]? = some t)(hb:bs[k]? = some true)(hu:YC H (Ao t.named) u):Jp H bs ss c (k+1) (vs ++ [u]):=by
 have hu':(u = .non/\t.named=none)\/∃a oc on,u = .ref a/\H a=some (.tup [.int oc,.str on])/\t.named=some (oc,on):=by
  cases hn:t.named with
  | none=>rw[hn] at hu;cases hu;exact .inl ⟨rfl,rfl⟩
  | some o =>
   rw[hn] at hu;obtain⟨oc,on⟩:=o;obtain⟨d,bs',rfl,hd,⟨y1,r1,rfl,f1,⟨y2,r2,rfl,f2,f3⟩⟩⟩:=hu;cases f1;cases f2;cases f3;exact .inr ⟨d,oc,on,rfl,hd,rfl⟩
 refine⟨fun v hv=>?_,fun n=>?_⟩
 ·rcases xJ.mp hv with z | z
  ·exact h.1 v z
  ·grind
 ·constructor
  ·rintro⟨a,m,e⟩;rcases xJ.mp m with z | z
   ·obtain⟨j,t',a1,a2,r⟩:=(h.2 n).mp ⟨a,z,e⟩;exact⟨j,t',a1,by lia,r⟩
   ·grind
  ·rintro⟨j,t',a1,a2,e1,e2,e3⟩
   by_cases z:j=k
   ·grind
   ·obtain⟨a,m,e⟩:=(h.2 n).mpr ⟨j,t',a1,by lia,e1,e2,e3⟩;exact⟨a,yQ _ m,e⟩
abbrev JQ:Stmt:=top 81
theorem HH:ZL ["_law_suits","_law_told","_law_case","_law_ones","_law_others","_law_need","_law_named","_law_lost","_law_found","_law_name","_law_weight"] ["_law_suits"] (Zm JQ):=fsc
theorem NL:Nm (Zm JQ) "_law_lost" .local:=aA
theorem Bx:Nm (Zm JQ) "_law_suits" .cell:=aA
theorem CJ:Nm (Zm JQ) "_law_told" .cell:=aA
theorem Of:Nm (Zm JQ) "range" .globalImplicit:=aA
theorem KP:Nm (Zm JQ) "reversed" .globalImplicit:=aA
theorem KZ(Zi5:YB K mg "_law_settled" JQ)(T:Txt mg):Fn P w K mg base "_law_settled" ["_law_suits"] 3 VL:=by
 refine Zi5.fq ["_law_suits","_law_told","_law_case","_law_ones","_law_others","_law_need","_law_named","_law_lost","_law_found","_law_name","_law_weight"] fun H vs Q E hr h=>?_;obtain⟨l,ss,rfl,hsu,hsl,q⟩:=h
 refine⟨rfl,_,(Zc (Ky (i:=1) HH.nd CJ (Z0 IK (Yl (Za Ji Zb)) (Z5 Yp T.len Yh (Za (qvC 0 Bx) Zb)))) (Zc (Wq PassesOwn.never rfl (NF KP.1 T.reversed Of.1 T.range (Za (Z5 Yp T.len Yh (Za (qvC 0 Bx) Zb)) Zb)) (Ye 2) (Zc (Um (Zh Yb (qvC 0 Bx) Q9 (fun _ _=>rfl)) (Bj (by rfl) (Yx (Ye 3) (Yx (Ye 4) (Yx (Ye 5) (Yx (Ye 6) V3))))))
 (Zc (Ca (locs:=["_law_later"]) (fr:=[("_law_suits", 0),("_law_told", 1)]) ⟨rfl,aA,aA,aA,aA,aA⟩ (.consN Bx (.consN CJ .nil)) rfl (Fs T.range (Za (Z0 Wf Q9 Zd) (Za (Z5 Yp T.len Yh (Za (qvC 0 Bx) Zb)) Zb))) ⟨fun _ _ _ _ _ _=>by
  have cnd:(inN ["_law_later"] [("_law_suits", 0),("_law_told", 1)]).Nodup:=aA
  exact⟨(Wn 0 cnd),(Ar (Vd (Zh Cf (Vh 2) (Y1 0) (fun _ _=>rfl)))),(Zh BN (Zh Cf (Vh 1) (Y1 0) (fun _ _=>rfl)) Zd (fun _ _=>rfl))⟩⟩ HH.nd NL (by rfl) (i:=7))
 (Zc (Zv 8 (Z0 Jc Zd Qc))
 (Zc (Wq PassesOwn.never rfl (Y6 Qa) (Bj (by rfl) (Yx (Ye 9) (Yx (Ye 10) V3)))
 (Zg (Zp (Zq (IG hr) (Z9 (Za Q9 (Za (qvN 9) Zb))) Qe rfl) (Zg (Zv 8 (Z0 Wf (qvN 8) (qvN 10)))) Zo)))
 (Zc (Wq PassesOwn.never rfl (Y6 Qb) (Bj (by rfl) (Yx (Ye 9) (Yx (Ye 10) V3)))
 (Zg (Zp (Zq (IG hr) (Z9 (Za Q9 (Za (qvN 9) Zb))) Qe rfl) (Zg (Zv 8 (Z0 Jc (qvN 8) (qvN 10)))) Zo)))
 (Zg (Um (Uz J8 (qvN 8) Zd (Zu _)) (A1 (qvC 1 CJ) Q9 AL)))))))))
 (Zg (Zw (qvC 1 CJ))))),?_⟩
 have hz:(2000000:Nat)<=sizeLine:=by decide
 obtain⟨us,hl,hrep⟩:=id hsu;have hul:us.length=ss.length:=by rw[hrep.length,xA]
 refine Yt fun D1 hn1=>?_;refine⟨aB rfl,fun l0 hl0=>?_⟩;have S0:=ZA.new (o:=.lst [.bl false]) hl0;refine⟨_,rfl,l,us,rfl,.inl (ZF.of (S0 _ _ hl)),l0,_,_,rfl,rfl,Zi,by lia,by lia,?_,fun tl htl=>?_⟩
 ·show 1 * _<=_;lia
 have S1:=ZA.new (o:=.lst (List.replicate (us.length:Int).toNat [V.bl false]).flatten) htl;have e1:(upd (upd H l0 (.lst [.bl false])) tl (.lst (List.replicate (us.length:Int).toNat [V.bl false]).flatten)) tl=some (.lst ((List.replicate ss.length false).map V.bl)):=by
  rw[Zi,hul,yP,List.flatten_replicate_singleton,List.map_replicate]
 have S01:=S0.trans S1;have ff:H tl=none:=S0.free htl;generalize (upd (upd H l0 (.lst [.bl false])) tl (.lst (List.replicate (us.length:Int).toNat [V.bl false]).flatten))=H1 at e1 S01 ⊢;refine Z8 (hn1 _ _ ?_);have kpx:∀{H':Hp},ZE tl H1 H'->ZA H H':=fun {H'} sx b o e=>sx b o (Zl e ff) (S01 _ _ e);refine Yt fun D2 hn2=>?_;refine⟨_,rfl,l,us,rfl,.inl (ZF.of (S01 _ _ hl)),ss.length,by rw[hul],by lia,?_⟩;refine IL ss.length rfl (fun i σ H'=>∃(v2 v3 v4 v5 v6 v7 v8 v9 v10:Option V)(bs:List Bool),σ = [some (.ref l),some (.ref tl),v2,v3,v4,v5,v6,v7,v8,v9,v10]/\H' tl=some (.lst (bs.map V.bl))/\bs.length=ss.length/\(∀j,ss.length - i<=j->bs[j]? = (Yc [] 0 ss).1[j]?)/\ZE tl H1 H')
  ⟨none,none,none,none,none,none,none,none,none,List.replicate ss.length false,rfl,e1,zP,(fun j hj=>by rw[wF (by rw[zP];lia),wF (by rw[Cg];lia)]),ZE.refl⟩ ?_ ?_
 ·rintro i σ H' hi ⟨v2,v3,v4,v5,v6,v7,v8,v9,v10,bs,rfl,htl',hbl,hbs,sx⟩;obtain⟨c,hcc⟩:∃c,c=ss.length - 1 - i:=⟨_,rfl⟩;have ec:(ss.length:Int) - 1 - (i:Nat)=((c:Nat):Int):=by lia
  rw[ec];have hc:c < ss.length:=by lia
  obtain⟨t,ht⟩:∃t,ss[c]? = some t:=⟨_,xB hc⟩;obtain⟨br,hb1,hb2⟩:=QP ht;have hsu':=hsu.mono (kpx sx);obtain⟨us',hl',hrep'⟩:=id hsu';have hul':us'.length=ss.length:=by rw[hrep'.length,xA]
  obtain⟨ta,u1,u2,u4,hu,hta,⟨b1,w1,rfl,hw1,hr1⟩,⟨b2,w2,rfl,hw2,hr2⟩,h4⟩:=ZQ.get (l:=l) hrep' ht;refine Z8 ?_;refine Yt fun D3 hn3=>?_;refine⟨_,rfl,_,rfl,l,us',c,.ref ta,rfl,rfl,ZF.of hl',Yu hu,ta,_,rfl,ZS.of hta,rfl,_,_,rfl,_,_,rfl,_,_,rfl,_,_,rfl,rfl,hn3 _ _ ?_⟩;refine Yt fun D4 hn4=>?_;refine⟨_,rfl,_,_,rfl,rfl,_,rfl,l,us',rfl,.inl (ZF.of hl'),_,_,rfl,⟨by lia,by lia,by lia,by lia⟩,?_⟩;refine SA (ss.length - (c+1)) (by lia) (fun k ys H2=>ZA H' H2/\Jp H2 bs ss c (c+1+k) ys/\ys.length<=k) ⟨ZA.refl _,⟨(fun v hv=>nomatch hv),fun n=>⟨(fun⟨a,m,_⟩=>nomatch m),fun⟨j,t,x,y,_⟩=>by lia⟩⟩,xD _⟩ (by lia) (fun k ys H2 h=>h.2.2) ?_ ?_
  ·rintro k ys H2 hk ⟨sm,L,yl⟩ ls hls;obtain⟨w0,rfl⟩:=RA hls;have ek:((c:Int)+1+(k:Nat))=((c+1+k:Nat):Int):=by lia
   rw[ek];obtain⟨t2,ht2⟩:∃t,ss[c+1+k]? = some t:=⟨_,xB (by lia)⟩;obtain⟨b,hb⟩:∃b,bs[c+1+k]? = some b:=⟨_,xB (by lia)⟩;obtain⟨us2,hl2,hrep2⟩:=hsu'.mono sm;obtain⟨ta2,_,_,u42,hu2,hta2,_,_,h42⟩:=ZQ.get (l:=l) hrep2 ht2;refine⟨⟨[_],rfl,rfl⟩,?_⟩;refine⟨_,rfl,_,rfl,tl,_,(c+1+k:Nat),.bl b,rfl,rfl,ZF.of (sm _ _ htl'),Yu (by rw[xE,hb];rfl),b,rfl,?_⟩;cases b with
   | false=>exact Z4 ⟨sm,L.skip hb,by lia⟩
   | true=>exact Z7 ⟨_,rfl,_,rfl,l,us2,(c+1+k:Nat),.ref ta2,rfl,rfl,ZF.of hl2,Yu hu2,ta2,_,3,u42,rfl,rfl,ZS.of hta2,rfl,sm,L.add (by lia) ht2 hb h42,by rw[xF];show _+1<=_;lia⟩
  rintro ys H2 ⟨sm,L,yl⟩ lo hlo;refine nw (o:=.lst ys) hlo fun H3 S3 k3=>?_;have L3:=L.mono S3;rw[show c+1+(ss.length - (c+1))=ss.length by lia] at L3;have sm3:=sm.trans S3;have key:∀{H4:Hp}(S:ZA H3 H4) (z:Bool) (n:Str),(z=true↔∃a,V.ref a∈ys/\H4 a=some (.tup [.int c,.str n]))->z=br c n:=fun {H4} S z n h=>by
   have e:z=true↔br c n=true:=by
    rw[h,(L3.mono S).2 n,hb1];unfold Fx;constructor
    ·grind
    ·grind
   exact zA.mpr e
  refine Z8 (hn4 _ _ ?_);refine Yt fun D5 hn5=>?_;refine⟨_,rfl,_,_,rfl,rfl,hn5 _ _ ?_⟩;refine Yt fun D6 hn6=>?_;refine⟨_,rfl,b1,rfl,⟨_,ZF.of (sm3 _ _ hw1)⟩,?_⟩;refine Vn w1 (fun i σ H'=>∃v9 v10,σ = [some (.ref l),some (.ref tl),some (.int c),some (.ref b1),some (.ref b2),some (.int t.need),some u4,some (.ref lo),some (.int (0 - t.need+Ua br c (t.ones.take i))),v9,v10]/\ZA H3 H') ⟨v9,v10,by unfold Ua wts keep;rw[List.take_zero,List.filter_nil,wE,List.sum_nil,Int.add_zero];rfl,ZA.refl _⟩ (fun i σ H' _ ⟨_,_,_,e⟩=>ZF.of (e _ _ (sm3 _ _ hw1))) ?_ ?_
  ·rintro i x σ H4 hx ⟨v9,v10,rfl,S4⟩;obtain⟨p,b,hp,rfl,hb⟩:=hr1.get hx;refine⟨b,_,rfl,ZS.of (S4 _ _ (sm3 _ _ hb)),rfl,_,_,rfl,_,_,rfl,rfl,?_⟩;refine⟨_,rfl,_,rfl,aB rfl,fun q hq=>?_⟩;refine nw (o:=.tup [.int c,.str p.1]) hq fun H5 S5 k5=>?_;have S45:=S4.trans S5;refine⟨_,rfl,q,lo,c,p.1,ys,rfl,k5,rfl,ZF.of (S45 _ _ k3),(L3.mono S45).1,fun z hz=>?_⟩;have e:=key S45 z p.1 hz;have es:=Hf (br:=br) (c:=c) hp;rw[← e] at es;refine⟨_,rfl,?_⟩;cases z with
   | true=>exact Z4 ⟨_,_,by rw[es,if_pos rfl,Int.add_zero];rfl,S45⟩
   | false=>exact Z7 ⟨_,rfl,_,rfl,_,_,rfl,rfl,_,_,by rw[es,if_neg xL,← Int.add_assoc];rfl,S45⟩
  rintro σ H4 ⟨v9,v10,rfl,S4⟩;rw[hr1.len,xX];refine hn6 _ _ ?_;refine Yt fun D7 hn7=>?_;refine⟨_,rfl,b2,rfl,⟨_,ZF.of (S4 _ _ (sm3 _ _ hw2))⟩,?_⟩;refine Vn w2 (fun i σ H'=>∃v9 v10,σ = [some (.ref l),some (.ref tl),some (.int c),some (.ref b1),some (.ref b2),some (.int t.need),some u4,some (.ref lo),some (.int (0 - t.need+Ua br c t.ones - Ua br c (t.others.take i))),v9,v10]/\ZA H3 H') ⟨v9,v10,by unfold Ua wts keep;rw[List.take_zero,List.filter_nil,wE,List.sum_nil,Int.sub_zero],S4⟩ (fun i σ H' _ ⟨_,_,_,e⟩=>ZF.of (e _ _ (sm3 _ _ hw2))) ?_ ?_
  ·rintro i x σ H4 hx ⟨v9,v10,rfl,S4⟩;obtain⟨p,b,hp,rfl,hb⟩:=hr2.get hx;refine⟨b,_,rfl,ZS.of (S4 _ _ (sm3 _ _ hb)),rfl,_,_,rfl,_,_,rfl,rfl,?_⟩;refine⟨_,rfl,_,rfl,aB rfl,fun q hq=>?_⟩;refine nw (o:=.tup [.int c,.str p.1]) hq fun H5 S5 k5=>?_;have S45:=S4.trans S5;refine⟨_,rfl,q,lo,c,p.1,ys,rfl,k5,rfl,ZF.of (S45 _ _ k3),(L3.mono S45).1,fun z hz=>?_⟩;have e:=key S45 z p.1 hz;have es:=Hf (br:=br) (c:=c) hp;rw[← e] at es;refine⟨_,rfl,?_⟩;cases z with
   | true=>exact Z4 ⟨_,_,by rw[es,if_pos rfl,Int.add_zero];rfl,S45⟩
   | false=>exact Z7 ⟨_,rfl,_,rfl,_,_,rfl,rfl,_,_,by rw[es,if_neg xL,← Int.sub_sub];rfl,S45⟩
  rintro σ H5 ⟨v9,v10,rfl,S5⟩;rw[hr2.len,xX,show 0 - t.need+Ua br c t.ones - Ua br c t.others=Uv br c t by unfold Uv;lia];refine hn7 _ _ ?_;have S':=sm3.trans S5;refine⟨_,rfl,_,_,rfl,rfl,_,rfl,_,rfl,tl,_,_,c,rfl,rfl,S' _ _ htl',?_,?_⟩
  ·unfold ixN;rw[xA,hbl,if_pos (by lia),if_pos (by lia),yP]
  ·refine⟨_,_,_,_,_,_,_,_,_,bs.set c (decide (0<=Uv br c t)),rfl,?_,by rw[List.length_set];exact hbl,fun j hj=>?_,(sx.trans S'.x).trans ZE.upd⟩
   ·rw[Zi,List.map_set]
   ·grind
 ·rintro σ H' ⟨v2,v3,v4,v5,v6,v7,v8,v9,v10,bs,rfl,htl',hbl,hbs,sx⟩;have eb:bs=(Yc [] 0 ss).1:=List.ext_getElem? fun j=>hbs j (by lia);rw[eb] at htl';exact hn2 _ _ ⟨_,rfl,q tl H' htl' (kpx sx)⟩
section
variable{C CM:XW}
inductive Tx(C CM:XW)(vs:aG)(H:Hp)(Q:VK)(z3:XK):Prop
 |mk(p:XW) (as:List AD) (O:XW->Prop) (n:Nat)(_:vs = [.ref p,.int n])(_:YA C CM H p (Zf as).1 (Zf as).2 O)(_:Th as)(_:n<=as.length)(_:∀(p2:XW)(O2:XW->Prop)(H':Hp),YA C CM H' p2 (Zf (as.take n)).1 (Zf (as.take n)).2 O2->(∀b,O2 b->H b=none)->ZA H H'->Q (.ref p2) H')
abbrev FR:Stmt:=Yr (top 58) 35
theorem SY(Zi6:ZR K CM "then" "Moot.then" FR)(T:Txt mg)(Tm:ZK K CM)(M_Moot:BD P w K mg base CM "Moot" 3 (VM C CM))(Zdp:YT P w K mg base "done" 8 (Sp.or (YY C CM c) (YX C CM c))):Mt P w K mg base CM "then" ["self","moment"] 9 (Tx C CM):=by
 refine Zi6.mq ["self","moment","other","deed"] fun H vs Q E hr h=>?_;obtain⟨_,as,_,n,rfl,⟨M,wa,xs,qs,rfl,W,rfl⟩,hg,hn,k⟩:=h;refine⟨rfl,_,(Zc (Zp (Vt (Js Wj Wj Zd Q8 (Z5 Yp T.len Yh (Za (Zx Q0) Zb)))) (Zg TV) Zo) (Zc (Zv 2 (Eh M_Moot)) (Zc (Wq PassesOwn.never rfl (Y6 (Jo Bg (Zx Q0) Jb (Jg Q8))) (Ye 3) (Zg (Zj (Wr Xq.never Zdp (Za Q9 (Za Qa Zb)))))) (Zg (Zw Q9))))),?_⟩;have hz:=aC
 obtain⟨dm,obm⟩:=W.ob;obtain⟨vs,d1,d2,d3⟩:=(W.ls (M.ld,(Zf as).2.deeds) (by simp[Mo.at_])).get;dsimp only at d1 d2 d3;rw[AQ] at d3;rw[GQ] at d2;have h400:=hg.1;refine⟨_,rfl,_,_,rfl,rfl,_,rfl,Zy (fun _=>?_) (fun z=>absurd (by lia) z)⟩;refine⟨_,rfl,M.p,CM,dm,_,_,rfl,obm,Tm.cl,Tm.nd,V0 _,M.ld,vs,rfl,.inl (ZF.of d1),_,_,rfl,rfl,_,rfl,Vq (fun z=>absurd (show (n:Int)<=vs.length by lia) z) (fun _=>?_)⟩;intro x dx2 nx ndx nex;refine⟨x,dx2,rfl,Zi,fun M2 H2 eM W2 kp fr=>⟨rfl,?_⟩⟩;subst eM;have S2:ZA H H2:=fun b o e=>kp b o (by rw[Ze (Zl e nx),Ze (Zl e ndx)];exact e) (Zl e nx);have fr2:∀b,mo M2 [] (fun _=>0) [] [] b->H b=none:=fun b hb=>by
  rcases fr b hb with z | z
  ·rw[z];exact nx
  ·by_cases c1:b=M2.p
   ·rw[c1];exact nx
   ·rw[Ze c1] at z
    by_cases c2:b=dx2
    ·rw[c2];exact ndx
    ·rw[Ze c2] at z;exact z
 refine Z8 ?_;refine⟨_,rfl,M.p,CM,dm,_,_,rfl,S2 _ _ obm,Tm.cl,Tm.nd,V0 _,_,rfl,_,rfl,M.ld,vs,rfl,ZF.of (S2 _ _ d1),fun l hl=>?_⟩;rw[Et vs n];have nl:¬mo M2 [] (fun _=>0) [] [] l:=fun z=>by obtain⟨o,e⟩:=W2.there z;rw[hl] at e;cases e
 refine nw (o:=.lst (vs.take n)) hl fun H3 S3 k3=>?_;refine⟨l,rfl,⟨_,ZF.of k3⟩,?_⟩;have S03:=S2.trans S3;have out:∀{b:XW}{o:HO},H b=some o->¬mo M2 [] (fun _=>0) [] [] b:=fun e z=>by have:=fr2 _ z;rw[e] at this;cases this
 refine Vn (vs.take n) (fun i σ H'=>∃(v3:Option V)(O2:XW->Prop),σ = [some (.ref M.p),some (.int n),some (.ref M2.p),v3]/\YA C CM H' M2.p (Zf (as.take i)).1 (Zf (as.take i)).2 O2/\YJ (mo M2 [] (fun _=>0) [] []) H3 O2 H')
  ⟨none,_,rfl,⟨M2,_,_,_,rfl,W2.same S3,rfl⟩,YJ.same (ZA.refl _)⟩ (fun i σ H' _ ⟨_,_,_,_,f⟩=>ZF.of (f.1 _ _ k3 nl)) ?_ ?_
 ·rintro i v σ H' hv ⟨v3,O2,rfl,W',f'⟩;have hi:i < n:=by have:=(xH.mp hv).1;rw[xT] at this;lia
  rw[List.getElem?_take_of_lt hi] at hv;obtain⟨d,hd,re⟩:=d2.get hv;rw[xE] at hd;obtain⟨p,hp,rfl⟩:=xP.mp hd;have et:as.take (i+1)=as.take i ++ [p]:=by rw[xW,hp];rfl
  have g:=hg.2 i p hp;rw[et,Jh];have far:∀{b:XW}{o:HO},H b=some o->¬O2 b:=fun {b o} e z=>by
   rcases f'.2 b z with y | y
   ·exact out e y
   ·rw[S03 _ _ e] at y;cases y
  cases p with
  | s d =>
   obtain⟨g1,g2,g3⟩:=g;obtain⟨a,rfl,ha⟩:=Og re g3;refine⟨_,rfl,_,rfl,.inl ⟨M2.p,_,_,O2,a,d,rfl,W',f'.1 _ _ (S03 _ _ ha) (out ha),g1,?_⟩⟩;rw[g2];exact fun O3 H4 W4 f4=>⟨_,O3,rfl,W4,f'.trans f4⟩
  | c d day need o1 o2 f =>
   obtain⟨g1,g2,g3,g4,g5,g6,g7,g8,g9,g10⟩:=g;obtain⟨a,l1,l2,rfl,ha,h1,h2⟩:=Nf re g10;refine⟨_,rfl,_,rfl,.inr ⟨M2.p,_,_,O2,a,d,day,need,l1,l2,o1,o2,f,rfl,W',f'.1 _ _ (S03 _ _ ha) (out ha),⟨g2,g3,f'.1 _ _ (S03 _ _ h1) (out h1),f'.1 _ _ (S03 _ _ h2) (out h2),g4,g5,g6,g7,g8⟩,far h1,far h2,g1,?_⟩⟩;rw[g9];exact fun O3 H4 W4 f4=>⟨_,O3,rfl,W4,f'.trans f4⟩
 ·rintro σ H' ⟨v3,O2,rfl,W',f'⟩;rw[xT,Nat.min_eq_left (by lia)] at W';refine⟨_,rfl,k M2.p O2 H' W' (fun b hb=>?_) (fun b o e=>f'.1 b o (S03 _ _ e) (out e))⟩;rcases f'.2 b hb with z | z
  ·exact fr2 b z
  ·exact S03.free z
end
section
variable{C CM:XW}
inductive UY(C CM:XW)(vs:aG)(H:Hp)(Q:VK)(z3:XK):Prop
 |mk(p) (as) (O)(_:vs = [.ref p])(_:YA C CM H p (Zf as).1 (Zf as).2 O)(_:Th as)(_:∀p2 O2 H',YA C CM H' p2 (Zf as).1 (Zf as).2 O2->(∀b,O2 b->H b=none)->ZA H H'->Q (.ref p2) H')
abbrev GO:Stmt:=Yr (top 58) 34
theorem Nv(Zi7:ZR K CM "twin" "Moot.twin" GO)(T:Txt mg)(Tm:ZK K CM)(MM_then:Mt P w K mg base CM "then" ["self","moment"] 9 (Tx C CM)):Mt P w K mg base CM "twin" ["self"] 10 (UY C CM):=by
 refine Zi7.mq ["self"] fun H vs Q E hr h=>?_;obtain⟨p,as,O,rfl,W,hg,k⟩:=h;refine⟨rfl,_,(Zg (Zw (Wc Q0 Tm.cl MM_then (Za (Z5 Yp T.len Yh (Za (Zx Q0) Zb)) Zb)))),?_⟩;obtain⟨M,wa,xs,qs,rfl,W',_⟩:=id W;obtain⟨dm,obm⟩:=W'.ob;obtain⟨vs,d1,d2,d3⟩:=(W'.ls (M.ld,(Zf as).2.deeds) (by simp[Mo.at_])).get;dsimp only at d1 d3;rw[AQ] at d3;refine⟨_,rfl,M.p,dm,_,rfl,obm,Yi _ aA,_,rfl,M.p,CM,dm,_,_,rfl,obm,Tm.cl,Tm.nd,V0 _,M.ld,vs,rfl,.inl (ZF.of d1),M.p,as,O,as.length,by rw[d3];rfl,W,hg,xD _,fun p2 O2 H' W2 f S=>?_⟩;rw[xX] at W2;exact k p2 O2 H' W2 f S
def Cm(ns:XO)(ds:List ZI):Prop:=(∀n∈ns,∃d,Zn ds n=some d)/\∀n,n∉ns->Zn ds n=none
theorem Cm.of(t:Ah ns ns.length ds):Cm ns ds :=
 ⟨fun n hn=>let ⟨d,e,_⟩:=t.com n (by rw[xX];exact hn);⟨d,e⟩,fun n hn=>t.no n (by rw[xX];exact hn)⟩
theorem Cm.snoc(h:Cm ns (Zf as).1)(hx:∀d,x = .s d->dOk ns d/\eSD (Zf as).1 (Zf as).2 d=none):Cm ns (Zf (as ++ [x])).1:=by
 have hc:∀n,Zn (Zf (as ++ [x])).1 n=Zn (Zf as).1 n:=by
  rw[Jh];cases x with
  | c d day need o1 o2 f=>exact fun _=>rfl
  | s d =>
   obtain⟨hd,e⟩:=hx d rfl;cases d with
   | come n day wt =>
    have e:((Ur (Zf as).1 n day wt).or (Ys (Zf as).2))=none:=e;obtain⟨_,_,_,hc,_⟩:=EJ (yM.mp e).1;obtain⟨x,z⟩:=h.1 n hd.1;rw[hc] at z;cases z
   | rise n day wt=>exact fun x=>DM x
   | die n he day=>exact fun x=>Dr x
   | _=>exact fun _=>rfl
 exact⟨fun n hn=>by rw[hc];exact h.1 n hn,fun n hn=>by rw[hc];exact h.2 n hn⟩
theorem Py(k:Wk ns as)(hc:Zn (Zf as).1 n=some d)(hd:V5 (Zf as).1 n 9999=false)(hl:as.length < 60):eCD (Zf as).1 (Zf as).2 9999 1 (wf as 9999) [n] [] (.wer n n 1)=if Vi (Zf as).2 n=true then some ("Forsworn" : Str) else none:=by
 obtain⟨d0,d1,_⟩:=k.fo.key n d hc;obtain⟨_,w1,_⟩:=k.fo.isW hc d1;have tl:(Zf as).2.trials.length < 60:=by
  have:=yO isC as;have:=k.cl;lia
 have dl:(Zf as).2.deeds.length < 400:=by rw[AQ];lia
 show AV _ _ _ _ _ _ _ _ _ _=_;have e1:We (Zf as).1 n=none:=by unfold We;rw[hc];rfl
 have e2:Wl ((Zn (Zf as).1 n).getD 0) 9999=none:=by rw[hc];exact if_neg (by show ¬(9999:Int) < d;lia)
 have e3:TZ (Zf as).1 n 9999=none:=by unfold TZ;rw[hd];rfl
 have e4:Ys (Zf as).2=none:=if_pos dl;have e5:Wt (Zf as).1 (Zf as).2 9999 ([n,n] ++ [n] ++ []) none none=none:=by
  unfold Wt;have f:∀(g:Str->Option Str),g n=none->([n,n] ++ [n] ++ []:XO).findSome? g=none:=fun g h=>by simp[h]
  rw[f _ e1,f _ e2,f _ e3];rfl
 unfold AV;rw[e5];show Ud _ _ _ _ _=_;unfold Ud;rw[if_neg (by lia),if_neg (by show ¬ 12 < max 1 0;decide),e4,xK];have n1:C4 ([n] ++ [])=1:=by rfl
 rw[n1,if_neg (by show ¬ 1 < 1;decide)];have w2:¬(wts (Yg (wf as 9999) [n])).sum < 1:=by
  show ¬(wf as 9999 n+0:Int) < 1;have:wf as 9999 n=wg (Zf as).1 n 9999:=rfl;lia
 rw[if_neg w2,Option.or_none];cases e:Vi (Zf as).2 n<;>simp[e]
inductive US(C CM:XW)(vs:aG)(H:Hp)(Q:VK)(z3:XK):Prop
 |mk(p s la nl) (W) (ns) (fx) (as) (O)(_:vs = [.ref s,.ref p,.ref W.wl,.ref nl])(_:Ww C CM p s la nl W ns H fx (Zf as) as O)(_:Wk ns as)(_:Cm ns (Zf as).1)(_:ns.length<=40)(_:as.length < 60)(_:∀H',Ww C CM p s la nl W ns H' fx (Zf as) as O->Q (.bl true) H')
abbrev GU:Stmt:=top 85
theorem Mx(Zi8:YB K mg "_law_right" GU)(T:Txt mg)(Tm:ZK K CM)(Zz1:Fn P w K mg base "_law_same" ["_law_found","_law_due"] 1 T8)(MM_forsworn:ZY P w K mg base CM "forsworn" 2 (VS C CM c))(Zoy:Fn P w K mg base "_law_is_forsworn" ["_law_world","_law_name"] 4 JZ)(Vj:Fn P w K mg base "_law_one" ["_law_src_here","_law_names_here"] 2 VY)(Zz2:Fn P w K mg base "_law_is_dead" ["_law_deeds","_law_name","_law_day"] 2 UE)(MM_twin:Mt P w K mg base CM "twin" ["self"] 10 (UY C CM))(Zz3:Fn P w K mg base "_law_kind" ["_law_moot","_law_deed_here"] 9 (Tf C CM))(Zz4:Fn P w K mg base "_law_stranger_refused" ["_law_moot","_law_names_here"] 4 (VA C CM)) :
  Fn P w K mg base "_law_right" ["_law_src_here","_law_moot","_law_world","_law_names_here"] 11 (US C CM):=by
 refine Zi8.fq ["_law_src_here","_law_moot","_law_world","_law_names_here","_law_name","_law_wanted"] fun H vs Q E hr h=>?_;obtain⟨p,s,la,nl,W,ns,fx,as,O,rfl,U,R,cm,nl40,al,k⟩:=h;refine⟨rfl,_,(Zc (Wq PassesOwn.never rfl (Y6 Qa) (Ye 4) (Zg (Zp (Vt (Vd (Zk Zz1 (Za (Yj Xq.never Q8 Tm.cl MM_forsworn (Za Qb Zb)) (Za (Zk Zoy (Za Q9 (Za Qb Zb))) Zb))))) (Zg (Zw Ji)) Zo))) (Zc (Zv 4 (Zk Vj (Za Q0 (Za Qa Zb)))) (Zc (Zp (Vt (Vd (Zk Zz2 (Za (Zh Yb Q9 Zd (fun _ _=>rfl)) (Za Qb (Za Zd Zb)))))) (Zc (Zv 5 (Zh Yb (Yl (Za Z2 (Za Z2 Zb))) (Tz KF T.int MT (Za (Zk Zoy (Za Q9 (Za Qb Zb))) Zb)) (fun _ _=>rfl))) (Zg (Zp (Zq Lu (Zk Zz3 (Za (DS Q8 Tm.cl MM_twin) (Za (Z9 (Za Z2 (Za Qb (Za Qb (Za Zd (Za Zd (Za Zd (Za (Yl (Za Qb Zb)) (Za (Yl Zb) Zb))))))))) Zb))) Qc (Zu _)) (Zg (Zw Ji)) Zo))) Zo) (Zg (Zw (Zk Zz4 (Za Q8 (Za Qa Zb)))))))),?_⟩;have hz:=aC
 have nls:nl≠s:=fun z=>U.nn (by rw[z];simp);have ln:∀n∈ns,n.length<=100:=fun n hn=>by have:=(R.nn n hn).2.2;lia
 have kn:∀n∈ns,We (Zf as).1 n=none:=fun n hn=>by
  obtain⟨d,e⟩:=cm.1 n hn;unfold We;rw[e];rfl
 refine Yt fun D1 hn1=>?_;refine⟨_,rfl,nl,rfl,⟨_,ZF.of U.nm⟩,?_⟩;refine Vn (ns.map V.str) (fun i σ H'=>∃v4 v5:Option V,σ = [some (.ref s),some (.ref p),some (.ref W.wl),some (.ref nl),v4,v5]/\ZA H H') ⟨none,none,rfl,ZA.refl _⟩ (fun i σ H' _ ⟨_,_,_,S⟩=>ZF.of (S _ _ U.nm)) ?_ ?_
 ·rintro i x σ H1 hx ⟨v4,v5,rfl,S1⟩;rw[xE] at hx;obtain⟨n,hn,rfl⟩:=xP.mp hx;have mn:=xM hn;have U1:=U.same S1;obtain⟨M,wa,xs,qs,hM,WM,_⟩:=id U1.w;obtain⟨dm,obm⟩:=WM.ob;rw[hM] at obm;refine Z8 ?_;refine⟨_,rfl,p,dm,_,rfl,obm,Yi _ aA,_,rfl,p,(Zf as).1,(Zf as).2,O,n,rfl,U1.w,R.ok,ln n mn,?_⟩;rw[kn n mn];intro H2 S2;refine⟨_,rfl,_,rfl,s,W,fx,as,as.filter isC,n,rfl,(U1.same S2).wd,R.ok,by lia,fun H3 S3=>?_⟩;exact⟨Vi (Zf as).2 n,rfl,_,rfl,Z4 ⟨_,_,rfl,S1.trans (S2.trans S3)⟩⟩
 rintro σ H1 ⟨v4,v5,rfl,S1⟩;refine hn1 _ _ ?_;have U1:=U.same S1;refine Yt fun D2 hn2=>?_;refine⟨_,rfl,_,rfl,s,la,nl,ns,rfl,U1.sr,U1.nm,nls,R.n0,R.n1,fun n H2 mn hs2 sx2=>hn2 _ _ ?_⟩;have U2:=U1.x hs2 sx2;refine V4 (fun σ H'=>∃v5:Option V,σ = [some (.ref s),some (.ref p),some (.ref W.wl),some (.ref nl),some (.str n),v5]/\Ww C CM p s la nl W ns H' fx (Zf as) as O) ?_ ?_
 ·rintro σ H3 ⟨v5,rfl,U3⟩;exact⟨_,rfl,_,rfl,p,nl,(Zf as).1,(Zf as).2,O,ns,rfl,U3.w,R.ok,U3.nm,R.n0,by lia,R.nd,R.nn,cm.2,fun H4 S4=>k H4 (U3.same S4)⟩
 ·intro D3 hn3 _ _ _;refine⟨_,rfl,W.wl,_,0,.ref W.dl,rfl,rfl,ZF.of U2.wd.e,rfl,_,rfl,W.dl,fx,as,n,9999,rfl,U2.wd.d,fun H3 S3=>⟨_,rfl,?_⟩⟩;have U3:=U2.same S3;cases e:V5 (Zf as).1 n 9999 with
  | true=>exact Z4 (hn3 _ _ ⟨_,rfl,U3⟩)
  | false =>
   refine Z7 ?_;obtain⟨d,hc⟩:=cm.1 n mn;have wd:=Py R hc e al;refine Yt fun D4 hn4=>?_;refine⟨aB rfl,fun l hl=>?_⟩;refine nw (o:=.lst [.str "", .str "Forsworn"]) hl fun H4 S4 k4=>?_;have U4:=U3.same S4;refine⟨_,rfl,_,rfl,s,W,fx,as,as.filter isC,n,rfl,U4.wd,R.ok,by lia,fun H5 S5=>?_⟩;have U5:=U4.same S5;refine⟨_,rfl,?_⟩;refine⟨l,_,_,.str (B8 (if Vi (Zf as).2 n=true then some ("Forsworn" : Str) else none)),rfl,rfl,ZF.of (S5 _ _ k4),by cases Vi (Zf as).2 n<;>rfl,hn4 _ _ ?_⟩;obtain⟨M,wa,xs,qs,hM,WM,_⟩:=id U5.w;obtain⟨dm,obm⟩:=WM.ob;rw[hM] at obm;refine⟨_,rfl,p,dm,_,rfl,obm,Yi _ aA,p,as,O,rfl,U5.w,R.g,fun p2 O2 H6 W6 f6 S6=>?_⟩;refine⟨_,rfl,_,rfl,_,rfl,aB rfl,fun l1 h1=>?_⟩;have g1:=W6.out h1;refine nw (o:=.lst [.str n]) h1 fun H7 S7 k7=>?_;refine⟨aB rfl,fun l2 h2=>?_⟩;have g2:=(W6.same S7).out h2;refine nw (o:=.lst []) h2 fun H8 S8 k8=>?_;refine⟨aB rfl,fun q hq=>?_⟩;refine nw (o:=.tup [.str "wergild", .str n,.str n,.int 1,.int 9999,.int 1,.ref l1,.ref l2]) hq fun H9 S9 k9=>?_;have S89:=S8.trans S9;have S69:=S7.trans S89;refine⟨p2,(Zf as).1,(Zf as).2,O2,q,n,n,1,9999,1,l1,l2,[n],[],wf as 9999,rfl,W6.same S69,k9,⟨R.ok,by have:=R.ln;lia,S89 _ _ k7,S9 _ _ k8,by show 1<=60;decide,by show 0<=60;decide,Wx aA aA,Wx aA aA,R.cs fun x hx=>by rw[yD] at hx;rw[xR.mp hx];exact mn⟩,g1,g2,⟨ln n mn,ln n mn,Wx aA aA⟩,Kz _ _ _ _ _ _ _ _,fun H10 f10=>?_⟩;rw[wd];refine⟨_,rfl,rfl,_,rfl,Vq (fun z=>absurd rfl z) (fun _=>hn3 _ _ ⟨_,rfl,?_⟩)⟩;refine U5.same fun b o e=>f10 b o (S69 _ _ (S6 _ _ e)) fun z=>?_;rw[f6 b z] at e;cases e
end
section
variable{C CM p s la nl:XW}{W:WL}{ns:XO}{H H':Hp}{fx:XS}{as:List AD}{O O':XW->Prop}{q:XW}
def AU(ns:XO)(O:XW->Prop)(s:XW)(W:WL)(H:Hp)(q:XW):Prop :=
 (∃d,H q=some (.tup (sdV d))/\dOk ns d)\/
 ∃l1 l2 d day need o1 o2,H q=some (.tup (cdV day need l1 l2 d))/\H l1=some (.lst (o1.map V.str))/\H l2=some (.lst (o2.map V.str))/\cOk ns d/\CU ns need o1 o2/\(0<=day/\day<=9999)/\∀b ∈ [l1,l2],¬O b/\b ∉ [s,W.dl,W.sl,W.tl]
def Oa(ns:XO)(as:List AD)(H:Hp)(fx:XS)(q:XW)(x:AD):Prop :=
 Wk ns (as ++ [x])/\kss as (Zf as).2.trials x=(Zf (as ++ [x])).2.trials/\YC (fz fx H) (adT x) (.ref q)/\∀d day need o1 o2 f,x = .c d day need o1 o2 f->o1.length<=60/\o2.length<=60
theorem Ww.tryD(U:Ww C CM p s la nl W ns H fx (Zf as) as O)(k:Wk ns as)(h:AU ns O s W H q){Q:V->Hp->Prop}{E:XK}(g:∀ (l:XW) (tv:aG) (H':Hp) (O':XW->Prop),H' l=some (.lst tv)->YJ O H O' H'->(tv = []/\Ww C CM p s la nl W ns H' fx (Zf as) as O')\/(∃ (v:V) (x:AD) (fx':XS),tv = [v]/\Ww C CM p s la nl W ns H' fx' (Zf (as ++ [x])) as O'/\Oa ns as H' fx' q x/\(∀b∈fx',b∈fx\/∃u,H b=some (.lst u))/\((∃d,x = .s d/\v=sdR (Zf as).2 d/\dOk ns d/\eSD (Zf as).1 (Zf as).2 d=none)\/∃d day need o1 o2 f,x = .c d day need o1 o2 f/\v = .int (Zf as).2.trials.length))->Q (.ref l) H') :
  (Sp.or (WJ C CM) (WO C CM)) [.ref p,.ref q] H Q E:=by
 rcases h with⟨d,hq,hd⟩ | ⟨l1,l2,d,day,need,o1,o2,hq,h1,h2,hd,hS,hy,hl⟩
 ·refine U.tryS k hq hd fun l tv H1 O1 kl F hc=>g l tv H1 O1 kl F (hc.imp (fun z=>⟨z.1,z.2.2⟩) fun⟨e1,e2,U1⟩=>⟨_,.s d,fx,e1,U1,⟨k.snoc hd e2,?_,?_,?_⟩,fun b hb=>.inl hb,.inl ⟨d,rfl,rfl,hd,e2⟩⟩)
  ·rw[Jh];cases d<;>rfl
  ·exact⟨q,_,rfl,Y2 (F.1 _ _ hq (U.w.ntup hq)),Aj _ d⟩
  ·exact fun _ _ _ _ _ _ z=>by cases z
 ·obtain⟨s0,s1,s2,s3,s4,s5⟩:=hS;rw[xF] at s5;refine U.tryC k hq h1 h2 hd s2 (by lia) (by lia) (Wx hy.1 (by lia)) (Wx (by lia) (by lia)) fun l tv H1 O1 kl F hc=>g l tv H1 O1 kl F (hc.imp (fun z=>⟨z.1,z.2.2⟩) fun⟨e1,e2,U1⟩=>?_);have n1:=hl l1 (by simp);have n2:=hl l2 (by simp);have k1:=F.1 _ _ h1 n1.1;have k2:=F.1 _ _ h2 n2.1;have no:∀{b:XW}{o:HO},H b=some o->¬O b->¬O1 b:=fun e n z=>(F.2 _ z).elim n (fun y=>by rw[e] at y;cases y);have U2:=U1.more (gx:=[l1,l2]) fun b hb=>by grind
  refine⟨_,.c d day need o1 o2 (wf as day),[l1,l2]++fx,e1,U2,⟨k.snocC hd s2 s4 (by lia) (by lia) e2,?_,?_,?_⟩,fun b hb=>?_,.inr ⟨_,_,_,_,_,_,rfl,rfl⟩⟩
  ·rw[Jh];cases d<;>rfl
  ·exact⟨q,_,rfl,Y2 (F.1 _ _ hq (U.w.ntup hq)),FS (Ub (by simp) k1) (Ub (by simp) k2) d⟩
  ·intro d' day' need' o1' o2' f' e;cases e;exact⟨by lia,by lia⟩
  ·grind
theorem Ww.drawn(U:Ww C CM p s la nl W ns H fx (Zf as) as O)(k:Wk ns as){Q:V->Hp->Prop}{E:XK}(g:∀ (q:XW) (H':Hp),Ww C CM p s la nl W ns H' fx (Zf as) as O->AU ns O s W H' q->Q (.ref q) H'):UK [.ref s,.ref W.wl,.ref nl] H Q E:=by
 have al:=k.wok.al;have sl:=k.wok.sl;have bl:(as.filter Vo).length<=1000:=yC (yO _ _) al;refine⟨s,la,nl,ns,W,fx,as,as.filter isC,(Zf as).2.trials,rfl,U.sr,U.wd,k.wok,U.nm,fun z=>U.nn (by rw[z];simp),fun q d H' hd fq hq hs sx=>g q H' (U.x hs sx) (.inl ⟨d,hq,Mv hd bl⟩),fun q l1 l2 d day dy need o1 o2 H' hdy hC hS fq f1 f2 hq h1 h2 hs sx=>g q H' (U.x hs sx) (.inr ⟨l1,l2,d,dy,need,o1,o2,hq,h1,h2,Sz hC bl sl,hS,Pu hC hdy,fun b hb=>?_⟩)⟩;have fb:H b=none:=by grind
 exact⟨U.w.out fb,U.new fb⟩
theorem AU.x(h:AU ns O s W H q)(hs:ZJ H s la)(k:ZE s H H'):AU ns O s W H' q:=by
 obtain⟨_,_,_,_,_,a,_⟩:=hs;have kt:∀{b t},H b=some (.tup t)->H' b=some (.tup t):=fun {b t} e=>k _ _ (fun z=>by rw[z,a] at e;cases e) e;rcases h with⟨d,hq,hd⟩ | ⟨l1,l2,d,day,need,o1,o2,hq,h1,h2,hd,hS,hy,hl⟩
 ·exact .inl ⟨d,kt hq,hd⟩
 ·exact .inr ⟨l1,l2,d,day,need,o1,o2,kt hq,k _ _ (fun z=>(hl l1 (by simp)).2 (by rw[z];simp)) h1,k _ _ (fun z=>(hl l2 (by simp)).2 (by rw[z];simp)) h2,hd,hS,hy,hl⟩
end
abbrev AX:Stmt:=top 86
theorem SE:ZL ["_law_script","_law_src_here","_law_moot","_law_world","_law_names_here","_law_k","_law_deed_here"] ["_law_script"] (Zm AX):=fsc
theorem Ni(F_law:UN K "law" "law" AX f fd)(T:Txt mg)(Tm:ZK K CM)(Zz6:Fn P w K mg base "_law_src" ["_law_script"] 1 (Ac K))(Yd:Fn P w K mg base "_law_next" ["_law_src_here","_law_base"] 1 YD)(Zz7:Fn P w K mg base "_law_names" ["_law_src_here","_law_many"] 3 UR)(M_Moot:BD P w K mg base CM "Moot" 3 (VM C CM))(Zz8:Fn P w K mg base "_law_start" ["_law_src_here","_law_moot","_law_world","_law_names_here"] 10 (Ta C CM))(Zz9:Fn P w K mg base "_law_deed" ["_law_src_here","_law_world","_law_names_here"] 5 UK)(Zix:Fn P w K mg base "_law_try" ["_law_moot","_law_deed_here"] 9 (Sp.or (WJ C CM) (WO C CM)))(Ziy:Fn P w K mg base "_law_keep" ["_law_world","_law_deed_here"] 2 VP)(Vj:Fn P w K mg base "_law_one" ["_law_src_here","_law_names_here"] 2 VY)(Zoz:Fn P w K mg base "_law_right" ["_law_src_here","_law_moot","_law_world","_law_names_here"] 11 (US C CM)):YF P w K mg base WU 12 f fd ["_law_script"] (Cw K):=by
 refine F_law.okQ SE (fun vs H Q E h=>?_) (fun cdv A outer s0 H vs Q E hr h=>?_)
 ·obtain⟨a,ns,rfl,_⟩:=h;rfl
 ·obtain⟨a0,ks,rfl,hS,hlen,k⟩:=h;refine⟨_,(Zc (Zv 1 (Zk Zz6 (Za Q0 Zb))) (Zc (Zv 2 (Eh M_Moot)) (Zc (Zv 3 (Yl (Za (Yl Zb) (Za (Yl Zb) (Za (Yl Zb) Zb))))) (Zc (Zv 4 (Zk Zz7 (Za Q8 (Za (Z0 Wf Zd (Zk Yd (Za Q8 (Za Zd Zb)))) Zb)))) (Zc (Zj (Zk Zz8 (Za Q8 (Za Q9 (Za Qa (Za Qb Zb)))))) (Zc (Wq PassesOwn.never rfl (Bk T.range (Za (Zk Yd (Za Q8 (Za Zd Zb))) Zb)) (Ye 5) (Zc (Zv 6 (Zk Zz9 (Za Q8 (Za Qa (Za Qb Zb))))) (Zc (Zp (Zq Yo (Zk Yd (Za Q8 (Za Zd Zb))) Zd (Zu _)) (Zg (Zv 6 (Z9 (Za Z2 (Za (Zk Vj (Za Q8 (Za Qb Zb))) Zb))))) Zo) (Zc (Zp (Zq JT (Z5 Yp T.len Yh (Za (Zk Zix (Za Q9 (Za Qd Zb))) Zb)) Zd (Zu _)) (Zg (Zj (Zk Ziy (Za Qa (Za Qd Zb))))) Zo) (Zg (Zp (QW.pt (Vl (Zq Yo (Zk Yd (Za Q8 (Za Zd Zb))) Zd (Zu _)) (Uo (Vt (Vd (Zk Zoz (Za Q8 (Za Q9 (Za Qa (Za Qb Zb)))))))))) (Zg (Zw Ji)) Zo)))))) (Zg (Zw (Zk Zoz (Za Q8 (Za Q9 (Za Qa (Za Qb Zb))))))))))))),?_⟩;have hz:=aC
  refine Yt fun D1 hn1=>?_;refine⟨_,rfl,a0,ks,rfl,hS,fun s la H1 hs hla hs1 sm1=>hn1 _ _ ?_⟩;refine Yt fun D2 hn2=>?_;intro p dx nx ndx nex;refine⟨p,dx,rfl,Zi,fun M H2 hM W2 kp fr=>⟨rfl,hn2 _ _ ?_⟩⟩;have sm2:ZA H1 H2:=fun b o e=>kp b o (by rw[Ze (Zl e nx),Ze (Zl e ndx)];exact e) (Zl e nx);have no2:∀b o,H1 b=some o->¬mo M [] (fun _=>0) [] [] b:=fun b o e z=>by
   rcases fr b z with y | y
   ·rw[y,nx] at e;cases e
   ·have nb:b≠p:=fun z=>by rw[z,nx] at e;cases e
    rw[Ze nb,Ze (Zl e ndx),e] at y;cases y
  obtain⟨_,_,_,_,_,hq1,hq2,_⟩:=id hs1;have W3:YA C CM H2 p (Zf []).1 (Zf []).2 (mo M [] (fun _=>0) [] []):=⟨M,_,[],[],hM,W2,rfl⟩;have ns1:=no2 _ _ hq1;have ns2:=no2 _ _ hq2;have hs2:=hs1.keep sm2;generalize mo M [] (fun _=>0) [] []=O3 at W3 ns1 ns2;clear W2 kp fr nex no2;refine Yt fun D3 hn3=>?_;refine⟨aB rfl,fun dl hdl=>⟨aB rfl,fun sl hsl=>⟨aB rfl,fun tl htl=>⟨aB rfl,fun wl hwl=>Z8 (hn3 _ _ ?_)⟩⟩⟩⟩;have S1:=ZA.new (o:=.lst []) hdl;have k1:(upd H2 dl (.lst [])) dl=some (.lst []):=Zi;generalize (upd H2 dl (.lst []))=Ha at *;have S2:=ZA.new (o:=.lst []) hsl;have k2:(upd Ha sl (.lst [])) sl=some (.lst []):=Zi;generalize (upd Ha sl (.lst []))=Hb at *;have S3:=ZA.new (o:=.lst []) htl;have k3:(upd Hb tl (.lst [])) tl=some (.lst []):=Zi;generalize (upd Hb tl (.lst []))=Hc at *;have S4:=ZA.new (o:=.lst [.ref dl,.ref sl,.ref tl]) hwl;have k4:(upd Hc wl (.lst [.ref dl,.ref sl,.ref tl])) wl=some (.lst [.ref dl,.ref sl,.ref tl]):=Zi;generalize (upd Hc wl (.lst [.ref dl,.ref sl,.ref tl]))=Hd at *;have S34:=S3.trans S4;have S24:=S2.trans S34;have S14:=S1.trans S24;have s2:=sm2 _ _ hq1;have l2:=sm2 _ _ hq2;have d1:dl≠s:=Zl s2 hdl |>.symm
  have d2:sl≠s:=Zl (S1 _ _ s2) hsl |>.symm
  have d3:tl≠s:=Zl ((S1.trans S2) _ _ s2) htl |>.symm
  have d4:wl≠s:=Zl (((S1.trans S2).trans S3) _ _ s2) hwl |>.symm
  have e1:dl≠la:=Zl l2 hdl |>.symm
  have e2:sl≠la:=Zl (S1 _ _ l2) hsl |>.symm
  have e3:tl≠la:=Zl ((S1.trans S2) _ _ l2) htl |>.symm
  have f1:sl≠dl:=Zl k1 hsl |>.symm
  have f2:tl≠dl:=Zl (S2 _ _ k1) htl |>.symm
  have f3:wl≠dl:=Zl ((S2.trans S3) _ _ k1) hwl |>.symm
  have f4:tl≠sl:=Zl k2 htl |>.symm
  have f5:wl≠sl:=Zl (S3 _ _ k2) hwl |>.symm
  have f6:wl≠tl:=Zl k3 hwl |>.symm
  have wd0:ZX s Hd [] ⟨wl,dl,sl,tl⟩ [] [] []:=by
   refine⟨k4,⟨[],S24 _ _ k1,rfl⟩,⟨[],S34 _ _ k2,rfl⟩,⟨[],S4 _ _ k3,rfl⟩,?_,?_,fun b hb=>nomatch hb⟩
   ·intro b hb;simp only[xC,xU,or_false] at hb;rcases hb with rfl | rfl | rfl | rfl<;>assumption
   ·simp only[yG,xC,xU,or_false,not_or,not_false_eq_true,List.nodup_nil,and_true];exact⟨⟨f3,f5,f6⟩,⟨f1.symm,f2.symm⟩,f4.symm⟩
  refine Yt fun D4 hn4=>?_;refine⟨_,rfl,_,rfl,s,la,7,rfl,hs2.keep S14,aA,aA,fun z H4 z0 z1 hs4 sx4=>⟨_,_,rfl,rfl,s,la,2+z,rfl,hs4,by lia,by lia,fun nl ns H5 hnl hnd hnm fnl knl hs5 sx5=>Z8 (hn4 _ _ ?_)⟩⟩;have up:∀{b:XW}{o:HO},Hd b=some o->b≠s->H5 b=some o:=fun e n=>sx5 _ _ n (sx4 _ _ n e);have g1:nl≠dl:=Zl (sx4 _ _ d1 (S24 _ _ k1)) fnl |>.symm
  have g2:nl≠sl:=Zl (sx4 _ _ d2 (S34 _ _ k2)) fnl |>.symm
  have g3:nl≠tl:=Zl (sx4 _ _ d3 (S4 _ _ k3)) fnl |>.symm
  have W4:=W3.same S14;obtain⟨_,_,_,_,_,q4,_⟩:=id (hs2.keep S14);have W5:YA C CM H5 p (Zf []).1 (Zf []).2 O3:=by
   obtain⟨_,_,_,_,_,q5,_⟩:=id hs4;exact YA.x (YA.x W4 q4 ns1 sx4) q5 ns1 sx5
  have U:Ww C CM p s la nl ⟨wl,dl,sl,tl⟩ ns H5 [] (Zf []) [] O3:=by
   have o1:=W3.out hdl;have o2:=(W3.same S1).out hsl;have o3:=(W3.same (S1.trans S2)).out htl;have o4:=(W3.same ((S1.trans S2).trans S3)).out hwl;have o5:=(YA.x W4 q4 ns1 sx4).out fnl;obtain⟨_,_,_,_,_,q5,q6,_,q7⟩:=id hs5;have g0:nl≠s:=fun z=>by obtain⟨_,_,_,_,_,q5,_⟩:=id hs4;rw[z,q5] at fnl;cases fnl
   have u1:=up (S24 _ _ k1) d1;have u2:=up (S34 _ _ k2) d2;have u3:=up (S4 _ _ k3) d3;have u4:=up k4 d4;refine⟨W5,hs5,⟨u4,⟨[],u1,rfl⟩,⟨[],u2,rfl⟩,⟨[],u3,rfl⟩,?_,?_,fun b hb=>nomatch hb⟩,knl,?_,?_,?_⟩
   ·intro b hb;simp only[xC,xU,or_false] at hb;rcases hb with rfl | rfl | rfl | rfl<;>assumption
   ·simp only[yG,xC,xU,or_false,not_or,not_false_eq_true,List.nodup_nil,and_true];exact⟨⟨f3,f5,f6⟩,⟨f1.symm,f2.symm⟩,f4.symm⟩
   ·intro b hb;simp only[xC,xU,or_false] at hb;rcases hb with rfl | rfl | rfl | rfl | rfl | rfl | rfl
    ·exact⟨ns1,_,q5⟩
    ·exact⟨ns2,_,q6⟩
    ·exact⟨o5,_,knl⟩
    ·exact⟨o4,_,u4⟩
    ·exact⟨o1,_,u1⟩
    ·exact⟨o2,_,u2⟩
    ·exact⟨o3,_,u3⟩
   ·simp only[xC,xU,or_false,not_or];exact⟨g0,g1,g2,g3⟩
   ·simp only[xC,xU,or_false,not_or];exact⟨q7,e1.symm,e2.symm,e3.symm⟩
  have K0:Wk ns []:=Wk.nil hnm hnd (by lia) (by lia);generalize hW:(⟨wl,dl,sl,tl⟩:WL)=W at U;have hw:wl=W.wl:=by rw[← hW]
  refine Yt fun D5 hn5=>?_;refine⟨_,rfl,_,rfl,_,rfl,_,rfl,p,s,la,nl,W,ns,[],O3,by rw[← hw],U,K0,by lia,fun fx as O H6 V6 K6 T6 l6=>hn5 _ _ ?_⟩;have nls:nl≠s:=fun z=>U.nn (by rw[z];simp);have nsl:ns.length<=8:=by lia
  have cm6:=Cm.of T6;clear U K0 T6;refine Yt fun D6 hn6=>?_;refine⟨_,rfl,s,la,21,rfl,V6.sr,aA,aA,fun m H7 m0 m1 hs7 sx7=>?_⟩;have V7:=V6.x hs7 sx7;refine⟨_,rfl,by lia,by lia,?_⟩;refine Bi m.toNat (by lia) (fun i σ H'=>∃(v5 v6:Option V)(fx:XS)(as:List AD)(O:XW->Prop),σ = [some (.ref a0),some (.ref s),some (.ref p),some (.ref W.wl),some (.ref nl),v5,v6]/\Ww C CM p s la nl W ns H' fx (Zf as) as O/\Wk ns as/\Cm ns (Zf as).1/\as.length<=ns.length+2+i) ⟨none,none,fx,as,O,by rw[← hw];rfl,V7,K6,cm6,by lia⟩ ?_ ?_
  ·rintro i σ H' hi ⟨v5,v6,fx,as,O,rfl,U,R,cm,hl⟩;refine Yt fun D7 hn7=>?_;refine⟨_,rfl,_,rfl,_,rfl,?_⟩;dsimp only [Vr];refine U.drawn R fun q H1 U1 dr=>hn7 _ _ ?_;refine V4 (fun σ H'=>∃q,σ = [some (.ref a0),some (.ref s),some (.ref p),some (.ref W.wl),some (.ref nl),some (.int (0+i)),some (.ref q)]/\Ww C CM p s la nl W ns H' fx (Zf as) as O/\AU ns O s W H' q) ?_ ?_
   ·rintro σ H2 ⟨q,rfl,U2,dr2⟩;refine V4 (fun σ H'=>∃(fx:XS)(as':List AD)(O:XW->Prop),σ = [some (.ref a0),some (.ref s),some (.ref p),some (.ref W.wl),some (.ref nl),some (.int (0+i)),some (.ref q)]/\Ww C CM p s la nl W ns H' fx (Zf as') as' O/\Wk ns as'/\Cm ns (Zf as').1/\as'.length<=as.length+1) ?_ ?_
    ·rintro σ H4 ⟨fx,as',O,rfl,U4,R4,cm4,l4⟩;refine⟨_,rfl,s,la,5,rfl,U4.sr,aA,aA,fun n4 H5 n40 n41 hs5 sx5=>?_⟩;have U5:=U4.x hs5 sx5;refine⟨rfl,_,rfl,Zy (fun z=>?_) (fun z=>Z4 ⟨_,_,fx,as',O,rfl,U5,R4,cm4,by lia⟩)⟩;exact⟨_,rfl,_,rfl,_,rfl,_,rfl,p,s,la,nl,W,ns,fx,as',O,rfl,U5,R4,cm4,by lia,by lia,fun H8 U8=>⟨_,rfl,Z4 ⟨_,_,fx,as',O,rfl,U8,R4,cm4,by lia⟩⟩⟩
    ·intro D9 hn9 _ _ _;refine⟨_,rfl,_,rfl,U2.tryD R dr2 fun l tv H3 O3 kl F3 hc=>?_⟩;rcases hc with⟨rfl,U3⟩ | ⟨v,x,fx3,rfl,U3,kp,_,hx⟩
     ·exact⟨l,_,rfl,.inl (ZF.of kl),_,_,rfl,rfl,_,rfl,Zy (fun z=>absurd z aA) (fun _=>hn9 _ _ ⟨fx,as,O3,rfl,U3,R,cm,by lia⟩)⟩
     ·refine⟨l,_,rfl,.inl (ZF.of kl),_,_,rfl,rfl,_,rfl,Zy (fun _=>?_) (fun z=>absurd (show (0:Int) < 1 by decide) z)⟩;refine⟨_,rfl,_,rfl,?_⟩;dsimp only [Vr];refine U3.keep R kp.2.1 kp.2.2.1 kp.2.2.2 fun fx7 H7 U7 f7 g7=>hn9 _ _ ⟨fx7,_,O3,rfl,U7,kp.1,cm.snoc fun d e=>?_,by rw[Wv];lia⟩;rcases hx with⟨d,rfl,_,hd,he⟩ | ⟨d,day,need,o1,o2,f,rfl,_⟩
      ·cases e;exact⟨hd,he⟩
      ·cases e
   ·intro D8 hn8 _ _ _;refine⟨_,rfl,s,la,6,rfl,U1.sr,aA,aA,fun n2 H2 n20 n21 hs2 sx2=>?_⟩;have U2:=U1.x hs2 sx2;have dr2:=dr.x U1.sr sx2;refine⟨rfl,_,rfl,Zy (fun z=>?_) (fun z=>hn8 _ _ ⟨q,rfl,U2,dr2⟩)⟩;refine⟨_,rfl,_,rfl,s,la,nl,ns,rfl,U2.sr,U2.nm,nls,R.n0,R.n1,fun y H3 my hs3 sx3=>?_⟩;have U3:=U2.x hs3 sx3;exact⟨aB rfl,fun q2 hq2=>hn8 _ _ ⟨q2,rfl,U3.same (ZA.new hq2),.inl ⟨.pen y,Zi,my⟩⟩⟩
  ·rintro σ H' ⟨v5,v6,fx,as,O,rfl,U,R,cm,hl⟩;refine hn6 _ _ ?_;exact⟨_,rfl,_,rfl,_,rfl,_,rfl,p,s,la,nl,W,ns,fx,as,O,rfl,U,R,cm,by lia,by lia,fun H8 _=>k H8⟩
def cE(x:Str):XW:=(([("MootError", 38),("NoName", 58),("NoMeasure", 77),("Unknown", 96),("Taken", 115),("NoThing", 134),("NoCase", 153),("NoOath", 172),("NotYet", 191),("Dead", 210),("NoHeir", 229),("TooMany", 248),("SwornTwice", 267),("Forsworn", 286),("TooLight", 305),("Broken", 324),("NoDeed", 362)]:List (Str×XW)).lookup x).getD 0
local macro_rules | `(tactic| walk_at "k")=>`(tactic| ((repeat' (refine And.intro ?_ ?_))<;>kernel_rfl))
theorem all_mk{Pz:XX}{w:XY}{h:Heap}{mg:XN}{fa:XW}(X:(KK w.params).In h)(G:h.Ns mainGlobals mg)(hfa:mg "law" = some (.ref fa)) :
  ∃fd:FuncData,(∀(s:XT)(v:XU),BindsTo s fd ⟨[v],[]⟩ [("_law_script", v)])/\∀base:Heap,(KK w.params).In base->base.Ns mainGlobals mg->YF Pz w (KK w.params) mg base WU 40 fa fd ["_law_script"] (Cw (KK w.params)):=by
 have e:some (Value.ref fa)=some (.ref 1114):=hfa.symm.trans (PySem.W.mg_of X G (by kernel_rfl));cases e;have Zie:=hQ "done" Eb 371 370 pm0 X G (by walk_at "k");have Zcu:=hQ "check_day" Ey 378 377 pm1 X G (by walk_at "k");have Zcv:=hQ "check_weight" DP 385 384 pm1 X G (by walk_at "k");have Zhp:=hQ "check_need" Kw 392 391 pm1 X G (by walk_at "k");have Zhq:=hQ "check_money" HV 399 398 pm1 X G (by walk_at "k");have Zgw:=hQ "is_name" IU 404 403 pm2 X G (by walk_at "k");have Zhh:=hQ "total" HJ 409 408 pm2 X G (by walk_at "k");have Zhl:=hQ "settled" Kr 575 574 pm4 X G (by walk_at "k");have Zhk:=hQ "settled_with" Ig 582 581 pm4 X G (by walk_at "k");have Zhv:=hQ "breakers" HF 589 588 pm4 X G (by walk_at "k");have Zhn:=hQ "breaking" Fh 594 593 pm4 X G (by walk_at "k");have Zhm:=hQ "naming" GG 601 600 pm4 X G (by walk_at "k");have Zhs:=hQ "check_case" Ks 608 607 pm4 X G (by walk_at "k");have Zhu:=hQ "check_oath" FG 613 612 pm4 X G (by walk_at "k");have Zhj:=hQ "margin_without" FO 620 619 pm4 X G (by walk_at "k");have Zhi:=hQ "kept_weight" CN 625 624 pm4 X G (by walk_at "k");have Zgp:=hQ "_law_src" GA 950 949 pm6 X G (by walk_at "k");have Zgq:=hQ "_law_next" Ff 957 956 pm6 X G (by walk_at "k");have Zgo:=hQ "_law_same" ER 971 970 pm6 X G (by walk_at "k");have Zgs:=hQ "_law_unlike" Gx 978 977 pm6 X G (by walk_at "k");have Zgr:=hQ "_law_word" BK 983 982 pm6 X G (by walk_at "k");have Zgt:=hQ "_law_names" Gn 990 989 pm6 X G (by walk_at "k");have Zi2:=hQ "_law_death" Hr 997 996 pm6 X G (by walk_at "k");have Zi3:=hQ "_law_is_dead" Ko 1004 1003 pm6 X G (by walk_at "k");have Zim:=hQ "_law_weighs" Iw 1011 1010 pm6 X G (by walk_at "k");have Zin:=hQ "_law_pick" He 1018 1017 pm6 X G (by walk_at "k");have Zig:=hQ "_law_hand" HA 1023 1022 pm6 X G (by walk_at "k");have Zii:=hQ "_law_try" Ej 1028 1027 pm6 X G (by walk_at "k");have Ziq:=hQ "_law_is_case" Fy 1035 1034 pm6 X G (by walk_at "k");have Zis:=hQ "_law_keep" Ax 1040 1039 pm6 X G (by walk_at "k");have Ziw:=hQ "_law_start" Kg 1047 1046 pm6 X G (by walk_at "k");have Zik:=hQ "_law_one" IY 1054 1053 pm6 X G (by walk_at "k");have Zio:=hQ "_law_sides" CK 1059 1058 pm6 X G (by walk_at "k");have Zip:=hQ "_law_accused" CO 1064 1063 pm6 X G (by walk_at "k");have Ziu:=hQ "_law_case_deed" Io 1069 1068 pm6 X G (by walk_at "k");have Ziv:=hQ "_law_deed" Hs 1074 1073 pm6 X G (by walk_at "k");have Zi5:=hQ "_law_settled" JQ 1079 1078 pm6 X G (by walk_at "k");have Zi4:=hQ "_law_is_forsworn" HI 1086 1085 pm6 X G (by walk_at "k");have Zi0:=hQ "_law_kind" Kd 1093 1092 pm6 X G (by walk_at "k");have Zi1:=hQ "_law_stranger_refused" IS 1100 1099 pm6 X G (by walk_at "k");have Zi8:=hQ "_law_right" GU 1107 1106 pm6 X G (by walk_at "k");have F_law:=DO (K:=KK w.params) (x:="law") (qual:="law") (st:=AX) (f:=1114) (oc:=.type "function") (od:=none) (an:=none) (osl:=#[]) (kV:=.none) (doc:=.none) (pm:=(.str "law_forsworn_k30_who_is_forsworn" 1411)) (cdv:=(.ref 1113)) (ct:=.none) (by kernel_rfl) (by kernel_rfl) (by kernel_rfl);have Zg3:=hMQ (K:=KK w.params) 564 "__init__" "Folk.__init__" FQ 423 422 pm3 (by walk_at "k");have Zg7:=hMQ (K:=KK w.params) 564 "come" "Folk.come" HQ 430 429 pm3 (by walk_at "k");have Zhc:=hMQ (K:=KK w.params) 564 "rise" "Folk.rise" Fw 437 436 pm3 (by walk_at "k");have Zhf:=hMQ (K:=KK w.params) 564 "die" "Folk.die" Gg 444 443 pm3 (by walk_at "k");have Zha:=hMQ (K:=KK w.params) 564 "weight" "Folk.weight" E2 463 462 pm3 (by walk_at "k");have Zg2:=hMQ (K:=KK w.params) 564 "died_by" "Folk.died_by" IT 498 497 pm3 (by walk_at "k");have Zc3:=hMQ (K:=KK w.params) 564 "check_coming" "Folk.check_coming" DR 519 518 pm3 (by walk_at "k");have Zc5:=hMQ (K:=KK w.params) 564 "check_rise" "Folk.check_rise" Dt 526 525 pm3 (by walk_at "k");have Zc7:=hMQ (K:=KK w.params) 564 "check_death" "Folk.check_death" Ew 533 532 pm3 (by walk_at "k");have Zc1:=hMQ (K:=KK w.params) 564 "check_known" "Folk.check_known" Ec 540 539 pm3 (by walk_at "k");have Zc2:=hMQ (K:=KK w.params) 564 "check_there" "Folk.check_there" EL 547 546 pm3 (by walk_at "k");have Zc4:=hMQ (K:=KK w.params) 564 "check_living" "Folk.check_living" DU 554 553 pm3 (by walk_at "k");have Zc6:=hMQ (K:=KK w.params) 564 "check_untold" "Folk.check_untold" DE 561 560 pm3 (by walk_at "k");have TcFolk:SR (KK w.params) 564:=by
  refine⟨⟨?_,?_,?_,?_⟩,?_,?_,?_,?_⟩<;>(show _=_;kernel_rfl)
 have mkFolk:PySem.W.makesIn (KK w.params) 564=true:=by kernel_rfl
 have kcFolk:PySem.W.keepIn (KK w.params) (.ref 564)=true:=by kernel_rfl
 have gCFolk:mg "Folk" = some (.ref 564):=PySem.W.mg_of X G (by kernel_rfl);have Zif:=hMQ (K:=KK w.params) 939 "__init__" "Moot.__init__" Ku 639 638 pm5 (by walk_at "k");have Zh7:=hMQ (K:=KK w.params) 939 "come" "Moot.come" IV 646 645 pm5 (by walk_at "k");have Zib:=hMQ (K:=KK w.params) 939 "rise" "Moot.rise" Fq 653 652 pm5 (by walk_at "k");have Zic:=hMQ (K:=KK w.params) 939 "die" "Moot.die" Gu 660 659 pm5 (by walk_at "k");have Zh6:=hMQ (K:=KK w.params) 939 "penance" "Moot.penance" IP 667 666 pm5 (by walk_at "k");have Zh8:=hMQ (K:=KK w.params) 939 "bring" "Moot.bring" Gm 674 673 pm5 (by walk_at "k");have Zh9:=hMQ (K:=KK w.params) 939 "give" "Moot.give" Fc 681 680 pm5 (by walk_at "k");have Zia:=hMQ (K:=KK w.params) 939 "pay" "Moot.pay" K8 688 687 pm5 (by walk_at "k");have Zh2:=hMQ (K:=KK w.params) 939 "claim" "Moot.claim" Gv 695 694 pm5 (by walk_at "k");have Zh3:=hMQ (K:=KK w.params) 939 "wergild" "Moot.wergild" Ga 702 701 pm5 (by walk_at "k");have Zh5:=hMQ (K:=KK w.params) 939 "accuse" "Moot.accuse" Ge 709 708 pm5 (by walk_at "k");have Ziz:=hMQ (K:=KK w.params) 939 "forsworn" "Moot.forsworn" Im 833 832 pm5 (by walk_at "k");have Zi7:=hMQ (K:=KK w.params) 939 "twin" "Moot.twin" GO 875 874 pm5 (by walk_at "k");have Zi6:=hMQ (K:=KK w.params) 939 "then" "Moot.then" FR 882 881 pm5 (by walk_at "k");have Zhz:=hMQ (K:=KK w.params) 939 "forsworn_names" "Moot.forsworn_names" GH 896 895 pm5 (by walk_at "k");have Zhy:=hMQ (K:=KK w.params) 939 "weighed" "Moot.weighed" BZ 901 900 pm5 (by walk_at "k");have Zh1:=hMQ (K:=KK w.params) 939 "try_case" "Moot.try_case" Fi 908 907 pm5 (by walk_at "k");have Zhx:=hMQ (K:=KK w.params) 939 "check_named" "Moot.check_named" GD 915 914 pm5 (by walk_at "k");have Zhr:=hMQ (K:=KK w.params) 939 "check_thing" "Moot.check_thing" FD 922 921 pm5 (by walk_at "k");have Zh0:=hMQ (K:=KK w.params) 939 "check_sides" "Moot.check_sides" Gc 929 928 pm5 (by walk_at "k");have Zht:=hMQ (K:=KK w.params) 939 "check_moments" "Moot.check_moments" FT 936 935 pm5 (by walk_at "k");have TcMoot:ZK (KK w.params) 939:=by
  refine⟨⟨?_,?_,?_,?_⟩,?_,?_,?_,?_,?_,?_,?_,?_,?_⟩<;>(show _=_;kernel_rfl)
 have mkMoot:PySem.W.makesIn (KK w.params) 939=true:=by kernel_rfl
 have kcMoot:PySem.W.keepIn (KK w.params) (.ref 939)=true:=by kernel_rfl
 have gCMoot:mg "Moot" = some (.ref 939):=PySem.W.mg_of X G (by kernel_rfl);have er:Er (KK w.params) mg cE errs:=Xn X G (by kernel_rfl);have al_breakers_stands:mg "breakers_stands" = mg "breakers" := (PySem.W.mg_of X G (by kernel_rfl):mg "breakers_stands" = some (.ref 589)).trans (PySem.W.mg_of X G (by kernel_rfl):mg "breakers" = some (.ref 589)).symm;have c_LAST_DAY:mg "LAST_DAY" = some (.int 9999 625):=PySem.W.mg_of X G (by kernel_rfl);have c_MOST_WEIGHT:mg "MOST_WEIGHT" = some (.int 1000 627):=PySem.W.mg_of X G (by kernel_rfl);have c_MOST_NEED:mg "MOST_NEED" = some (.int 12000 629):=PySem.W.mg_of X G (by kernel_rfl);have c_MOST_MONEY:mg "MOST_MONEY" = some (.int 1000000 631):=PySem.W.mg_of X G (by kernel_rfl);have c_LONGEST_NAME:mg "LONGEST_NAME" = some (.int 12 663):=PySem.W.mg_of X G (by kernel_rfl);have c_MOST_FOLK:mg "MOST_FOLK" = some (.int 40 679):=PySem.W.mg_of X G (by kernel_rfl);have c_ONES:mg "ONES" = some (.int 0 892):=PySem.W.mg_of X G (by kernel_rfl);have c_OTHERS:mg "OTHERS" = some (.int 1 894):=PySem.W.mg_of X G (by kernel_rfl);have c_NEED:mg "NEED" = some (.int 2 896):=PySem.W.mg_of X G (by kernel_rfl);have c_NAMED:mg "NAMED" = some (.int 3 898):=PySem.W.mg_of X G (by kernel_rfl);have c_MOST_THINGS:mg "MOST_THINGS" = some (.int 40 978):=PySem.W.mg_of X G (by kernel_rfl);have c_MOST_CASES:mg "MOST_CASES" = some (.int 60 980):=PySem.W.mg_of X G (by kernel_rfl);have c_MOST_SWEARERS:mg "MOST_SWEARERS" = some (.int 12 982):=PySem.W.mg_of X G (by kernel_rfl);have c_MOST_MOMENTS:mg "MOST_MOMENTS" = some (.int 400 984):=PySem.W.mg_of X G (by kernel_rfl);have T:Txt mg:=⟨PySem.W.mg_none_of X G (by kernel_rfl),PySem.W.mg_none_of X G (by kernel_rfl),PySem.W.mg_none_of X G (by kernel_rfl),PySem.W.mg_none_of X G (by kernel_rfl),PySem.W.mg_none_of X G (by kernel_rfl),PySem.W.mg_none_of X G (by kernel_rfl),PySem.W.mg_none_of X G (by kernel_rfl),PySem.W.mg_none_of X G (by kernel_rfl),PySem.W.mg_none_of X G (by kernel_rfl),PySem.W.mg_none_of X G (by kernel_rfl),PySem.W.mg_none_of X G (by kernel_rfl),PySem.W.mg_none_of X G (by kernel_rfl),PySem.W.mg_none_of X G (by kernel_rfl),PySem.W.mg_none_of X G (by kernel_rfl),PySem.W.mg_none_of X G (by kernel_rfl),PySem.W.mg_none_of X G (by kernel_rfl)⟩
 exact⟨PySem.W.fnOf "law" "law" (Wy AX) (Yn AX) (Zm AX) .none .none .none (.str "law_forsworn_k30_who_is_forsworn" 1411) none (.ref 1113) .none,fun s v=>.of_eq rfl,fun base _ _=>by
  have F1:=Ml (P:=Pz) (w:=w) (base:=base) Zgp T;have F2:=KI (P:=Pz) (w:=w) (base:=base) Zgq T;have F3:=Xy Zgr T F2;have F4:=OU (P:=Pz) (w:=w) (base:=base) Zgs T;have F5:=OF Zgt T F2 F3 F4;have F8:=Ry (P:=Pz) (w:=w) (base:=base) Zgo T;have F9:=PC (P:=Pz) (w:=w) (base:=base) Zgw T ⟨_,c_LONGEST_NAME⟩;have F10:=Sr (P:=Pz) (w:=w) (base:=base) Zcu ⟨_,c_LAST_DAY⟩;have F11:=Ot (P:=Pz) (w:=w) (base:=base) Zcv ⟨_,c_MOST_WEIGHT⟩;have E10:=Xl (P:=Pz) (w:=w) (base:=base) Zcu ⟨_,c_LAST_DAY⟩ er;have E11:=Xe (P:=Pz) (w:=w) (base:=base) Zcv ⟨_,c_MOST_WEIGHT⟩ er;have F12:=Mp (P:=Pz) (w:=w) (base:=base) Zhq ⟨_,c_MOST_MONEY⟩ er;have F13:=Nq (P:=Pz) (w:=w) (base:=base) Zhp ⟨_,c_MOST_NEED⟩ er;have M1:=Rq (P:=Pz) (w:=w) (mg:=mg) (base:=base) Zc1 TcFolk;have M2:=XD (P:=Pz) (w:=w) (mg:=mg) (base:=base) Zc2 TcFolk;have M3:=RT (P:=Pz) (w:=w) (mg:=mg) (base:=base) Zg2 TcFolk;have M4:=Nz Zc4 TcFolk M3;have M5:=Lb (P:=Pz) (w:=w) (mg:=mg) (base:=base) Zc6 TcFolk;have X1:=Mj (P:=Pz) (w:=w) (base:=base) Zc1 TcFolk er;have X2:=Pp (P:=Pz) (w:=w) (base:=base) Zc2 TcFolk er;have X3:=Qz Zc4 TcFolk er M3;have X4:=O0 (P:=Pz) (w:=w) (base:=base) Zc6 TcFolk er;have X5:=Mf Zc3 T TcFolk ⟨_,c_MOST_FOLK⟩ er F9 E10 E11;have X6:=PR Zc5 TcFolk E10 E11 X1 X2 X3;have X7:=Lz Zc7 TcFolk er E10 X1 X2 X4;have M6:=SV Zc3 T TcFolk ⟨_,c_MOST_FOLK⟩ F9 F10 F11;have M7:=Qk Zg7 TcFolk M6;have M8:=OQ Zha T TcFolk F10 M1 M2;have M9:=PQ Zhc TcFolk (PD Zc5 TcFolk F10 F11 M1 M2 M4);have M10:=SO Zhf TcFolk (NR Zc7 TcFolk F10 M1 M2 M5);have M0:=(LM (P:=Pz) (w:=w) (mg:=mg) (base:=base) Zg3 TcFolk).mks mkFolk kcFolk gCFolk;have G1:=SF (P:=Pz) (w:=w) (base:=base) Zhi T;have G2:=OG Zhj T ⟨_,c_ONES⟩ ⟨_,c_OTHERS⟩ ⟨_,c_NEED⟩ G1;have G3:=OB Zhk T ⟨_,c_NAMED⟩ G2;have G4:=KB Zhl T G3;have G5:=MZ (P:=Pz) (w:=w) (base:=base) Zhm T ⟨_,c_NAMED⟩;have G6:=Qs Zhn T G4 G5;have G7:=Si (P:=Pz) (w:=w) (base:=base) Zhs T er;have G8:=NP Zhu T ⟨_,c_ONES⟩ ⟨_,c_OTHERS⟩ er G7;have G9:=QU Zhv T G8 G6;have G10:=Ow (P:=Pz) (w:=w) (base:=base) Zhh T;have N1:=fun C=>NJ (P:=Pz) (w:=w) (base:=base) (C:=C) Zht T TcMoot er ⟨_,c_MOST_MOMENTS⟩;have N2:=fun C=>Lw (P:=Pz) (w:=w) (base:=base) (C:=C) Zhr T TcMoot er;have N3:=Nh Zhx TcFolk TcMoot er X1 X2 X3 (N2 _) G8;have N0:=(MI Zif TcMoot M0).mks mkMoot kcMoot gCMoot;have N5:=QY Zhy TcFolk TcMoot M8;have N6:=fun C=>OT (P:=Pz) (w:=w) (mg:=mg) (base:=base) (C:=C) Zhz T TcMoot ⟨_,c_NAMED⟩;have N7:=Xk Zh0 T TcMoot er ⟨_,c_MOST_CASES⟩ ⟨_,c_MOST_SWEARERS⟩ (N1 _) (N6 _) N5 G10;have N8:=La Zh1 T TcMoot N5 G4;have P1:=LZ Zh2 T TcMoot E10 F13 N3 N7 N8;have P2:=Xd Zh3 T TcMoot F12 E10 F13 N3 N7 N8;have P3:=QK Zh5 T TcMoot er E10 F13 N3 N7 (Fn.alias G9 al_breakers_stands) N8;have P4:=Sm Zh6 T TcFolk TcMoot X1 X4 (N1 _);have P5:=Qf Zh7 TcFolk TcMoot X5 M7 (N1 _);have P6:=Qu Zh8 T TcMoot ⟨_,c_MOST_THINGS⟩ er E10 N3 (N1 _);have P7:=LW Zh9 TcMoot E10 N3 (N1 _);have P8:=Mh Zia TcMoot F12 E10 N3 (N1 _);have P9:=Qt Zib TcFolk TcMoot X6 M9 (N1 _);have P10:=O9 Zic TcFolk TcMoot X7 M10 (N1 _);have P11:=Nc Zie TcMoot er P5 P9 P10 P4 P6 P7 P8 P1 P2 P3;have R1:=Xv (P:=Pz) (w:=w) (base:=base) Zig T;have R2:=Qg Zii T er R1 P11;have R3:=Mn Zik T F2;have R4:=Mi (P:=Pz) (w:=w) (base:=base) Zim T;have R5:=Qm Zin T F2;have R6:=Ou Zio T F2 R5 R4;have R7:=MR Zip T F2;have R8:=NA (P:=Pz) (w:=w) (base:=base) Ziq T;have R9:=O5 Zis T R8 R4;have R10:=Mz Ziu T F2 R3 R6 R7;have R11:=MQ Ziv T F2 R3 R10;have R12:=KS Ziw T F2 R2 R9;have Q1:=SJ Ziz TcFolk TcMoot X1 (N6 _);have Q2:=NV Zi0 er P11;have Q3:=Ld Zi1 TcMoot er F4 Q1;have Q4:=XG Zi4 T R8 (KZ (P:=Pz) (w:=w) (base:=base) Zi5 T);have Q5:=RH Zi3 T (KC (P:=Pz) (w:=w) (base:=base) Zi2 T);have Q6:=Nv Zi7 T TcMoot (SY Zi6 T TcMoot N0 P11);have Q7:=Mx Zi8 T TcMoot F8 Q1 Q4 R3 Q5 Q6 Q2 Q3
  exact(Ni F_law T TcMoot F1 F2 F5 N0 R12 R11 R2 R9 R3 Q7).mono aA⟩
end Law
open PySem PySem.W PyProof.Rows
set_option maxRecDepth 100000 in
set_option maxHeartbeats 0 in
theorem PySem.Challenge.cw_forsworn_k30_who_is_forsworn_holds : PySem.Challenge.rw_forsworn_k30_who_is_forsworn.Holds := by
 w_on;o_law
 refine holds_open (q:=Law.q) (loose:=["breakers_stands"]) (Xt:=fun s=>xlAt Law.q [] s && recOk (RowW.records PySem.Challenge.rw_forsworn_k30_who_is_forsworn.row.toRowW) s) (XP:=XL Law.q []) (Yf:=Law.HK.obs) (Ya:=Law.HK.val) (YP:=Law.HK.says) (N:=12617) Law.left Law.HK.of Law.HK.keeps (fun s e=>xl_of s (Bool.and_eq_true_iff.mp e).1) XL.keeps (by rfl) (by rfl) (by rfl) (fun s e=>recFacts_of (Bool.and_eq_true_iff.mp e).2) (by rfl) (by first | assumption | decide +kernel) (by decide +kernel) ⟨rfl,rfl,rfl,rfl,rfl,by decide +kernel⟩ ?hw ?hc
 case hw=>w_witness2
 refine L2.walkLaw (l:=PySem.Challenge.rw_forsworn_k30_who_is_forsworn) rfl rfl (fun w h Y=>PySem.W.kIn_of (K:=Law.KK) Y) fun w mg fa h KX G hmg=>Law.all_mk KX G hmg
namespace Law
end Law
