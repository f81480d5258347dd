import PyProof.Rows.All
import Wide.All
import OpenK.AllK
import Wide.FinOn
import Lean
import PyProof.EqAt
import PyProof.EqKinds
import PyProof.TupleCall
import KE.KSortTup
import PyProof.NeKinds
import KE.KLam
import KE.KNestM
import KE.KSortKey
import PyProof.ExcArgsOwn
import PyProof.ExcAttrAll.ValueError
import KE.KIsAll
import KE.KIntText
import PyProof.Rows.StrNews
import PyProof.Rows.StrSplitCount
import PyProof.ToksMono
import PyProof.StrCalls6
import PyProof.Rows.SetFrom
import PyProof.Conv_int_bool
import PyProof.Draws
import PySem.Challenge.RW_forsworn_k57_desk_lines_of_no_form
set_option Elab.async false
set_option linter.all false
set_option maxRecDepth 100000
set_option maxHeartbeats 4000000
theorem aA{p:Prop}[Decidable p](h:decide p=true:=by kernel_rfl):p:=of_decide_eq_true h
abbrev aD:=@PySem.F.plainAttrs_list
abbrev aE:=@PySem.F.slot_list_append
abbrev aF:=@PySem.F.type_list_append
abbrev eQ:=PySem.Value->PySem.Shared->Prop
abbrev eR:=PySem.Str->Option PySem.Value
abbrev eS:=List PySem.Str
abbrev eU:=List PySem.Value
abbrev eV:=PySem.Str->PySem.Addr
abbrev eW:=List PySem.Addr
abbrev eX:=PySem.Shared
abbrev eY:=PySem.Value
abbrev eZ:=PySem.Addr
abbrev fA:=PySem.Program
abbrev fB:=PySem.World
abbrev fD:=PySem.Around
abbrev xA:=@List.length_map
abbrev xB:=@PySem.Heap.get?_push_of_some
abbrev xC:=@List.mem_cons
abbrev xD:=@List.length_append
abbrev xE:=@List.getElem?_eq_getElem
abbrev xF:=@List.length_cons
abbrev xG:=@List.mem_cons_of_mem
abbrev xH:=@Nat.le_refl
abbrev xI:=@List.mem_append
abbrev xJ:=@List.mem_append_right
abbrev xK:=@List.getElem?_map
abbrev xL:=@PySem.Heap.get?_push_size
abbrev xM:=@List.map_append
abbrev xN:=@List.mem_of_getElem?
abbrev xO:=@List.mem_singleton
abbrev xP:=@PySem.Heap.lt_size
abbrev xQ:=@List.mem_cons_self
abbrev xR:=@Bool.false_ne_true
abbrev xS:=@Option.map_eq_some_iff
abbrev xT:=@List.not_mem_nil
abbrev xU:=@List.length_take
abbrev xV:=@List.size_toArray
abbrev xW:=@List.map_cons
abbrev xX:=@List.cons_append
abbrev xY:=@List.getElem?_eq_some_iff
abbrev xZ:=@decide_eq_true
abbrev yC:=@decide_eq_false
abbrev yD:=@List.take_add_one
abbrev yE:=@Bool.false_and
abbrev yF:=@Int.eq_ofNat_of_zero_le
abbrev yG:=@Nat.lt_of_lt_of_le
abbrev yH:=@List.append_assoc
abbrev yI:=@List.take_length
abbrev yJ:=@Nat.ne_of_lt
abbrev yK:=@Nat.le_trans
abbrev yL:=@List.length_singleton
abbrev yM:=@List.append_nil
abbrev yN:=@PySem.Heap.size_push
abbrev yO:=@Nat.zero_le
abbrev yP:=@List.take_of_length_le
abbrev yQ:=@List.mem_append_left
abbrev yR:=@List.getD_eq_getElem?_getD
abbrev yS:=@List.mem_map
abbrev yT:=@List.nodup_cons
abbrev yU:=@Nat.lt_of_le_of_lt
abbrev yV:=@Bool.and_eq_true
abbrev yW:=@List.all_eq_true
abbrev yX:=@Nat.le_of_lt
abbrev yY:=@List.getElem_mem
abbrev yZ:=@List.replicate_succ
abbrev zA:=@Int.toNat_natCast
abbrev zB:=@Bool.and_false
abbrev zC:=@List.length_drop
abbrev zD:=@List.lookup_cons
abbrev zE:=@Option.bind_some
abbrev zF:=@Bool.eq_iff_iff
abbrev zG:=@List.of_mem_zip
abbrev zH:=@decide_eq_true_iff
abbrev zI:=@List.find?_cons
abbrev zJ:=@PySem.Heap.get?_update_other
abbrev zK:=@Option.map_eq_none_iff
abbrev zL:=@Option.none_or
abbrev zM:=@List.getElem?_append_left
abbrev zN:=@List.getElem?_zip_eq_some
abbrev zO:=@List.mem_of_mem_take
abbrev zP:=@List.flatten_cons
abbrev zQ:=@Nat.lt_irrefl
abbrev zR:=@List.any_cons
abbrev zS:=@List.find?_eq_none
abbrev zT:=@List.nil_append
abbrev zU:=@List.take_append_drop
abbrev zV:=@List.getElem?_eq_none
abbrev zW:=@List.getElem?_append_right
abbrev zX:=@Array.getElem?_eq_some_iff
abbrev zY:=@Bool.not_eq_true'
abbrev zZ:=@Nat.le_of_eq
abbrev wA:=@Option.isSome_iff_exists
abbrev wB:=@List.getElem?_range
abbrev wC:=@Nat.min_eq_left
abbrev wD:=@PySem.Heap.get?_update_self
abbrev wE:=@Array.getElem?_toList
abbrev wF:=@Nat.lt_succ_self
abbrev uFg:=PySem.W.Frag
namespace L2
open PySem PySem.W
def topRunT(tb:String->Option Builtin)(p:fA)(w:fB)(m:Nat)(ann:Option eY):Nat->SharedT->Thread->Option SharedT
 | 0,_,_=>none
 | n+1,s,t=>match through t with
  | true=>some s
  | false=>match stepOk m ann t with
   | false=>none
   | true=>match stepT (denote tb) p w s t with
    | some x=>topRunT tb p w m ann n x.1 x.2
    | none=>none
theorem ET{tb:String->Option Builtin}{p:fA}{w:fB}{m:Nat}{ann:Option eY}:∀{n:Nat}{s r:SharedT}{t:Thread},topRunT tb p w m ann n s t=some r->topRun tb p w m ann n s.abs t=some r.abs
 | 0,s,r,t,h=>by cases h
 | n+1,s,r,t,h=>by
  unfold topRunT at h;unfold topRun;cases a:through t with
  | true=>rw[a] at h;cases h;rfl
  | false =>
   rw[a] at h;cases b:stepOk m ann t with
   | false=>rw[b] at h;cases h
   | true =>
    rw[b] at h;cases c:stepT (denote tb) p w s t with
    | none=>rw[c] at h;cases h
    | some x=>obtain⟨s2,t2⟩:=x;rw[c] at h;dsimp only at h ⊢;rw[stepT_spec c];exact ET h
def CJ:List Obj->Nat->BT->BT
 | [],_,t=>t
 | o::r,i,t=>CJ r (i+1) (t.ins i o)
noncomputable def s0T (P:Params) (os:OsState):SharedT:=⟨CJ (boot_heap P).objs.toList 0 .nil,11,(boot_heap P).life,#[],boot_drawn,boot_toks,os⟩
noncomputable def seenT {α:Type}(p q:fA) (loose:eS) (Xt:eX->Bool) (Yf:eX->α) (P:Params) (s:eX) :=
 (staticsOk (importedModules p.main.body) (boot_heap P) s.heap && namesBound p s.heap && gensDone s && laidKept (boot_heap P) s.heap,openSeen q loose (importedModules p.main.body) Xt true s,Yf s)
theorem LF(P:Params)(os:OsState):(s0T P os).abs=⟨boot_heap P,#[],boot_drawn,boot_toks,os⟩:=by kernel_rfl
theorem K7(P:Params):((boot_heap P).isNs mainGlobals && (#[]:Array GenState).size == 0,(boot_heap P).objs.size,(boot_heap P).nsMap mainGlobals "__annotations__")=(true,11,some (.ref 6)):=by kernel_rfl
theorem eP{p q:fA}{loose:eS}{Xt:eX->Bool}{α:Type}{Yf:eX->α}{Ya:fB->α}{N:Nat}(e:opening p=plainProg p.main.scope.names)(hN:Nat.ble 600 N=true)(f:∀s,fenceModules? p s=some s)(run:∀ (w:fB) (os:OsState),(topRunT treeTable p w 11 (some (.ref 6)) N (s0T w.params os) (topStub p)).map (fun s=>seenT p q loose Xt Yf w.params s.abs)=some (true,openGood q loose,Ya w)):LeftO p q loose Xt Yf Ya N:=fun w=>by
 obtain⟨⟨h,gs,d,k,os⟩,e1,e2⟩:=xS.mp (boot_open e hN f w);obtain⟨rfl,rfl,rfl,rfl⟩:h=boot_heap w.params/\gs = #[]/\d=boot_drawn/\k=boot_toks:=by simpa using e2
 obtain⟨s,r1,r2⟩:=xS.mp (run w os);unfold seenT at r2;obtain⟨l1,l2,l3⟩:_/\_/\_:=by simpa only [Prod.mk.injEq] using r2
 have r:=ET r1;rw[LF] at r;obtain⟨z1,z2,z3⟩:_/\_/\_:=by simpa only [Prod.mk.injEq] using K7 w.params
 have t:topFrom treeTable p w N ⟨boot_heap w.params,#[],boot_drawn,boot_toks,os⟩=some s.abs:=by
  unfold topFrom;dsimp only;rw[z1,z2,z3,r];show (match staticsOk (importedModules p.main.body) (boot_heap w.params) s.abs.heap && namesBound p s.abs.heap && gensDone s.abs && laidKept (boot_heap w.params) s.abs.heap with | true=>some s.abs | false=>none)=_;rw[l1]
 unfold openEnds;rw[e1];show (topFrom treeTable p w N _).map _=_;rw[t];exact congrArg some (Prod.ext l2 l3)
def Zt(p:fA)(i:Nat):Stmt:=p.main.body.getD i (.Pass ⟨0,0,0,0⟩)
def hIn(s:Stmt)(j:Nat):Stmt:=match s with
 | .ClassDef _ _ _ b _ _ _ _ _ _ _=>b.getD j (.Pass ⟨0,0,0,0⟩)
 | _=>s
def GX(s:Stmt):Arguments:=match s with
 | .FunctionDef _ a _ _ _ _ _ _ _ _=>a
 | _=>⟨[],[],none,[],[],none,[]⟩
def Ka(s:Stmt):List Stmt:=match s with
 | .FunctionDef _ _ b _ _ _ _ _ _ _=>b
 | _=>[]
def KI(s:Stmt):Scope:=match s with
 | .FunctionDef _ _ _ _ _ _ c _ _ _=>c
 | _=>{kind:=.function,names:=[],isGenerator:=false,isCoroutine:=false }
def de(P:Params)(n:Str)(t:Tok)(v:eY):DictEntry:=⟨PyData.keyHash P n,.str n t,v⟩
def kFn(n q:Str)(st:Stmt)(pm:eY)(c:eZ):Obj:=⟨.type "function", none,.func (PySem.W.fnOf n q (GX st) (Ka st) (KI st) .none .none .none pm none (.ref c) .none),#[]⟩
def kC(n q:Str)(t l a u:Nat)(r s v x y:eY):Obj:=⟨.type "code", none,.fields #[.str n t,.str q (t+1),.str "/claim/cut.py" (t+2),.int l 0,.int a 0,.int 0 0,.int 0 0,.int 3 0,r,.bool true,.int 181 0,s,.none,v,x,y,.int u 0,.int l 0,.str "/claim/cut.py" (u+1)],#[]⟩
def kg(c:Nat)(n q:Str)(t l a u:Nat)(st:Stmt)(pm:eY)(r:uFg):uFg:=(c,kC n q t l a u (.ref (c - 5)) (.ref (c - 4)) (.ref (c - 3)) (.ref (c - 2)) (.ref (c - 1)))::(c+1,kFn n q st pm c)::r
def kg0(c:Nat)(n q:Str)(t l a u:Nat)(st:Stmt)(pm:eY)(r:uFg):uFg:=(c,kC n q t l a u (.ref (c - 3)) (.ref (c - 2)) .none .none (.ref (c - 1)))::(c+1,kFn n q st pm c)::r
def kE(P:Params)(a:Nat)(n:Str)(l t:Nat)(r:uFg):uFg:=(a,⟨.type "dict", none,.dict #[de P "__module__" t (.str "forsworn.errors" 194),de P "__firstlineno__" (t+4) (.int l (t+3)),de P "called" (t+11) (.ref (a - 2)),de P "__static_attributes__" (t+12) (.ref (a - 1)),de P "__doc__" (t+13) .none] 2,#[]⟩)::(a+1,⟨.type "type", none,.cls {name:=n,bases:=[.ref 38],mro:=[.ref (a+1),.ref 38,.type "ValueError", .type "Exception", .type "BaseException", .type "object"],ns:=a,qualname:=n,hasDict:=true,slotNames:=[],subclasses:=[],abstract:=false,collection:=none,hasDel:=false },#[some (.ref (a - 15)),none,some (.str n (t - 7)),some (.str n (t+1)),some (.builtin "ValueError.__new__"),some (.bool true)]⟩)::r
def kpO(x:eZ×Obj)(r:uFg):uFg:=x::r
def kf(c:Nat)(n:Str):=kg c n n
def kf0(c:Nat)(n:Str):=kg0 c n n
end L2
namespace PySem.W.Fast
noncomputable def tw14598715356260435866:PySem.Params->PySem.Obj:=PySem.W.boot_o_0
theorem te14598715356260435866:PySem.W.boot_o_0=tw14598715356260435866:=rfl
end PySem.W.Fast
lay_quick L2.topRunT L2.s0T L2.seenT
namespace L2
open PySem PySem.W PyProof.Rows
abbrev p0:Pos:=⟨0,0,0,0⟩
def BL(p:fA):Env:={scope:=p.main.scope,locals:=mainNs,globals:=mainNs,cells:=[],code:=.ref 13,frame:=some 14 }
def cP(p:fA):Code:=.body (behindTheImports p) (BL p)
def Cq(tb:String->Option Builtin)(p:fA)(w:fB)(m:Nat)(ann:Option eY):Nat->SharedT->Thread->Option (SharedT×Thread)
 | 0,s,t=>some (s,t)
 | n+1,s,t=>match through t with
  | true=>none
  | false=>match stepOk m ann t with
   | false=>none
   | true=>match stepT (denote tb) p w s t with
    | some x=>Cq tb p w m ann n x.1 x.2
    | none=>none
theorem Ie{tb:String->Option Builtin}{p:fA}{w:fB}{m:Nat}{ann:Option eY}:∀{n:Nat}{s r:SharedT}{t u:Thread},Cq tb p w m ann n s t=some (r,u)->topGo tb p w m ann n s.abs t=some (r.abs,u)
 | 0,s,r,t,u,h=>by cases h;rfl
 | n+1,s,r,t,u,h=>by
  unfold Cq at h;unfold topGo;cases a:through t with
  | true=>rw[a] at h;cases h
  | false =>
   rw[a] at h;cases b:stepOk m ann t with
   | false=>rw[b] at h;cases h
   | true =>
    rw[b] at h;cases c:stepT (denote tb) p w s t with
    | none=>rw[c] at h;cases h
    | some x=>obtain⟨s2,t2⟩:=x;rw[c] at h;dsimp only at h ⊢;rw[stepT_spec c];exact Ie h
def preP(p:fA)(w:fB)(s:SharedT):Option (SharedT×Thread):=Cq treeTable p w 11 (some (.ref 6)) 12 s (topStub p)
def stubT(p:fA):Thread:=⟨denote treeTable (cP p),cP p,p0,[topFrame p0]⟩
def blkP(p:fA)(w:fB)(s:SharedT):Option (Flow×SharedT×Code×Pos):=segRunT treeTable p w 11 (some (.ref 6)) 1 1 s (blockOf (behindTheImports p) (BL p) (cP p) p0 [topFrame p0])
def segP(p:fA)(w:fB)(n k j:Nat)(pos:Pos)(s:SharedT):Option (Flow×SharedT×Code×Pos):=segRunT treeTable p w 11 (some (.ref 6)) 1 n s (piecesOf (((behindTheImports p).drop k).take j) (BL p) (cP p) pos [topFrame p0])
def topQ(p:fA)(w:fB)(n k:Nat)(pos:Pos)(s:SharedT):Option SharedT:=topRunT treeTable p w 11 (some (.ref 6)) n s (restOf ((behindTheImports p).drop k) (BL p) (cP p) pos [topFrame p0])
def vI(n:Nat):eY:=.int n 0
def tuO(l:eU):Obj:=⟨.type "tuple", none,.seq l.toArray 0,#[]⟩
def fdO(c:eY)(l:eU):Obj:=⟨c,none,.fields l.toArray,#[]⟩
def diO(l:List DictEntry)(n:Nat):Obj:=⟨.type "dict", none,.dict l.toArray n,#[]⟩
def cut(t:Nat):eY:=.str "/claim/cut.py" t
def mdl:eY:=.str "forsworn.errors" 194
def cdO(n q:Str)(b l:Nat)(ar fl:Nat)(fn:Bool)(a:Nat)(r:eU):Obj:=fdO (.type "code") ([.str n b,.str q (b+1),cut (b+2),vI l,vI ar,vI 0,vI 0,vI fl,.ref a,.bool fn,vI 181,.ref (a+1)]++r ++ [vI (if fn then b+4 else b+3),vI l,cut (if fn then b+5 else b+4)])
def fn0(n q:Str)(st:Stmt):Obj:=⟨.none,none,.func {name:=n,qualname:=q,params:=GX st,body:=.stmts (Ka st),scope:=KI st,globals:=0,closure:=[],defaults:=.none,kwdefaults:=.none },#[]⟩
def Il(P:Params)(a b l:Nat)(st:Stmt)(bs:eY)(dc:Nat)(more:List DictEntry)(cl:Obj)(n q:Str)(hd:List Obj)(tl:List Obj):List Obj :=
 let one:=[de P "__module__" (b+7) mdl]
 let two:=[de P "__firstlineno__" (b+11) (.int l (b+10)),de P "called" (b+18) (.ref (a+13)),de P "__static_attributes__" (b+19) (.ref (a+14))]
 hd ++ [tuO [bs],fdO (.type "builtin_function_or_method") [.builtin "type.__prepare__", .type "type"],diO (one ++ [de P "__qualname__" (b+9) (.str n (b+8))]++two) 5,tuO [],fdO .none [vI (l+2),vI 4,.ref (a+12)],
  cdO n n (b+2) l 0 0 false (a+3) [.none,.none,.none,.none],⟨.type "frame", none,.plain,#[some (.ref (a+5)),some (.ref 3),some (.ref (a+2)),none,some mdl,none,some (.ref 0)]⟩,
  tuO [],fdO .none [],tuO [.str "self" (b+15)],tuO [],fn0 "called" q st,cdO "called" q (b+12) (l+2) 1 3 true (a+7) [.none,.ref (a+9),.ref (a+10),.ref (a+11)],
  kFn "called" q st mdl (a+12),tuO [],diO (one++two++more) dc,cl]++tl ++ [fdO (.type "super") [.ref (a+16),.ref (a+16),.ref (a+16)],fdO (.type "builtin_function_or_method") [.builtin "object.__init_subclass__", .ref (a+16)]]
def tyO(a b:Nat)(n:Str)(bs:eU)(mro:eU)(sub:eU):Obj:=⟨.type "type", none,.cls {name:=n,bases:=bs,mro:=.ref (a+16)::mro,ns:=a+15,qualname:=n,hasDict:=true,slotNames:=[],subclasses:=sub,abstract:=false,collection:=none,hasDel:=false },
 #[some (.ref a),none,some (.str n b),some (.str n (b+8)),some (.builtin "ValueError.__new__"),some (.bool true)]⟩
def Iq:List eY:=[.type "ValueError", .type "Exception", .type "BaseException", .type "object"]
def RQ(P:Params)(p:fA)(j:Nat)(x:Str×Str):List Obj:=let a:=42+19 * j;let b:=221+23 * j;let l:=9+4 * j
 Il P a b l (hIn (Zt p (3+j)) 0) (.ref 38) 2 [de P "__doc__" (b+20) .none] (tyO a b x.1 [.ref 38] (.ref 38::Iq) []) x.1 x.2 [] []
def num{α:Type}:Nat->List α->List (Nat × α)
 | _,[]=>[]
 | i,x::r=>(i,x)::num (i+1) r
noncomputable def NC (p:fA) (P:Params) (ns:List (Str×Str)):List Obj:=let w:=Zt p 0
  [boot_o_0 P,boot_o_1 P,boot_o_2 P,
   diO ([de P "__name__" 165 mdl,de P "__doc__" 166 .none,de P "__package__" 167 .none,de P "__loader__" 168 (.builtin "__main__.__loader__#opaque"),de P "__spec__" 169 .none,de P "__annotations__" 170 (.ref 6),de P "__builtins__" 171 (.ref 4),de P "__file__" 173 (cut 172),de P "__cached__" 174 .none,de P "_wall" 193 (.ref 21),de P "MootError" 220 (.ref 38)]++(num 0 ns).map fun x=>de P x.2.1 (243+23 * x.1) (.ref (58+19 * x.1))) (11+ns.length),
   boot_o_4 P,boot_o_5 P,boot_o_6 P,boot_o_7 P,boot_o_8 P,boot_o_9 P,boot_o_10 P,tuO [],fdO .none ([vI 1,vI 0,.ref 20,vI 5,vI 0,.ref 27]++((num 0 ns).map fun x=>[vI (9+4 * x.1),vI 0,.ref (47+19 * x.1)]).flatten),
   cdO "<module>" "<module>" 182 1 0 0 false 11 [.none,.none,.none,.none],⟨.type "frame", none,.plain,#[some (.ref 13),some (.ref 3),some (.ref 3),none,some (.str "__main__" 164),none,some (.ref 0)]⟩,
   tuO [],fdO .none [],tuO [.str "k" 190],tuO [],fn0 "_wall" "_wall" w,cdO "_wall" "_wall" 187 1 1 3 true 15 [.none,.ref 17,.ref 18,.ref 19],kFn "_wall" "_wall" w (.str "__main__" 164) 20] ++
  Il P 22 196 5 (hIn (Zt p 2) 0) (.type "ValueError") 3 [de P "__weakref__" 217 (.ref 39),de P "__doc__" 218 .none] (tyO 22 196 "MootError" [.type "ValueError"] Iq ((num 0 ns).map fun x=>.ref (58+19 * x.1))) "MootError" "MootError.called" [] [fdO (.type "getset_descriptor") [.str "__weakref__" 216,.ref 38,.builtin "ExceptionGroup.__weakref__", .none]] ++
  ((num 0 ns).map fun x=>RQ P p x.1 x.2).flatten
noncomputable def errS (p:fA) (ns:List (Str×Str)) (P:Params) (os:OsState):SharedT:=⟨CJ (NC p P ns) 0 .nil,42+19 * ns.length,(boot_heap P).life,#[],boot_drawn,221+23 * ns.length,os⟩
noncomputable def stubS (P:Params) (os:OsState):SharedT:=⟨CJ ((boot_heap P).objs.toList ++ [tuO [],fdO .none [],cdO "<module>" "<module>" 182 1 0 0 false 11 [.none,.none,.none,.none],⟨.type "frame", none,.plain,#[some (.ref 13),some (.ref 3),some (.ref 3),none,some (.str "__main__" 164),none,some (.ref 0)]⟩]) 0 .nil,15,(boot_heap P).life,#[],boot_drawn,187,os⟩
def WG(p:fA)(w:fB)(os:OsState)(M:Nat)(s:SharedT)(k:Nat)(pos:Pos):Prop:=∀(N:Nat)(r:eX),
 topRun treeTable p w 11 (some (.ref 6)) N s.abs (restOf ((behindTheImports p).drop k) (BL p) (cP p) pos [topFrame p0])=some r->topRun treeTable p w 11 (some (.ref 6)) (M+N) (s0T w.params os).abs (topStub p)=some r
theorem WG.zero{p:fA}{w:fB}{os:OsState}(h:preP p w (s0T w.params os)=some (stubS w.params os,stubT p))(b:blkP p w (stubS w.params os)=some (.next,stubS w.params os,cP p,p0)):WG p w os 13 (stubS w.params os) 0 p0:=fun N r k=>by
 have k':=go_top (Ie h) (piece_block (segRun_of b) k)
 rwa [← Nat.add_assoc] at k'
theorem WG.step{p:fA}{w:fB}{os:OsState}{M k:Nat}{s s':SharedT}{pos pos':Pos}(R:WG p w os M s k pos)(n j:Nat)(h:segP p w n k j pos s=some (.next,s',cP p,pos')):WG p w os (M+n) s' (k+j) pos':=fun N r x=>by
 rw[Nat.add_assoc];refine R _ r ?_;rw[← zU j ((behindTheImports p).drop k),List.drop_drop];exact piece_app (segRun_of h) x
section
variable(p q:fA)(loose:eS)(Xt:eX->Bool)
noncomputable def sn0 (P:Params) (s:SharedT):Bool:=staticsOk (importedModules p.main.body) (boot_heap P) s.abs.heap && namesBound p s.abs.heap && gensDone s.abs && laidKept (boot_heap P) s.abs.heap
def sn1(s:SharedT):=(seen ((recsOf q).map (·.name)) (ownsOf q) [] {s.abs with gens:=#[] },s.abs.heap.bltView)
def sn2(s:SharedT):Bool:=s.abs.heap.keysOk (looseW q loose) ((recsOf q).map (·.name)) ((litsOf q).map (·.1)) ((clssOf q (looseW q loose)).map (·.name)) && s.abs.heap.accountedOkI (importedModules p.main.body) && s.abs.heap.isNs mainGlobals && s.abs.heap.isNs builtinsNs && tablesOk q s.abs.heap && Xt s.abs && (if true then s.abs.gens.size == 0 else !leftWithCleanup s.abs.gens)
def sn3(s:SharedT):Bool:=tabsOk q s.abs
def sn4(s:SharedT):=pinSeenD q (drecsOf q) s.abs
def sn9(i:Nat)(s:SharedT):=(((plainsOf q (looseW q loose)).drop i).take 1).map fun c=>s.abs.heap.plainShapeAt c.withCmp
def snA(i:Nat)(s:SharedT):=((plainsOf q (looseW q loose)).drop i).map fun c=>s.abs.heap.plainShapeAt c.withCmp
def sn5(s:SharedT):=plainSeenD q loose s.abs
def sn8(s:SharedT):=wideSeen q s.abs
def sn6(s:SharedT):=clsSeenW q loose s.abs
end
def gd9(q:fA)(loose:eS)(i:Nat):=(((plainsOf q (looseW q loose)).drop i).take 1).map fun c=>some c.withCmp.plainShape
def gdA(q:fA)(loose:eS)(i:Nat):=((plainsOf q (looseW q loose)).drop i).map fun c=>some c.withCmp.plainShape
theorem IC{α β:Type}(f : α->β)(l:List α):l.map f=((l.drop 0).take 1).map f++(((l.drop 1).take 1).map f++(l.drop 2).map f):=by
 rcases l with _ | ⟨a,_ | ⟨b,l⟩⟩<;>rfl
theorem Si{p q:fA}{loose:eS}{Xt:eX->Bool}{α:Type}{Yf:eX->α}{Ya:fB->α}{M N k:Nat}{s:fB->OsState->SharedT}{pos:Pos}(e:opening p=plainProg p.main.scope.names)(hN:Nat.ble 600 (M+N)=true)(f:∀s,fenceModules? p s=some s)(R:∀ (w:fB) (os:OsState),WG p w os M (s w os) k pos)(r0:∀ (w:fB) (os:OsState),(topQ p w N k pos (s w os)).map (sn0 p w.params)=some true)(r1:∀ (w:fB) (os:OsState),(topQ p w N k pos (s w os)).map (sn1 q)=some (expectedOf q,bltViewBooted))(r2:∀ (w:fB) (os:OsState),(topQ p w N k pos (s w os)).map (sn2 p q loose Xt)=some true)(r3:∀ (w:fB) (os:OsState),(topQ p w N k pos (s w os)).map (sn3 q)=some true)(r4:∀ (w:fB) (os:OsState),(topQ p w N k pos (s w os)).map (sn4 q)=some (pinGoodD (drecsOf q)))(r9:∀ (w:fB) (os:OsState),(topQ p w N k pos (s w os)).map (sn9 q loose 0)=some (gd9 q loose 0))(rB:∀ (w:fB) (os:OsState),(topQ p w N k pos (s w os)).map (sn9 q loose 1)=some (gd9 q loose 1))(rA:∀ (w:fB) (os:OsState),(topQ p w N k pos (s w os)).map (snA q loose 2)=some (gdA q loose 2))(r5:∀ (w:fB) (os:OsState),(topQ p w N k pos (s w os)).map (sn5 q loose)=some (plainGoodD q loose))(r8:∀ (w:fB) (os:OsState),(topQ p w N k pos (s w os)).map (sn8 q)=some (wideGood q))(r6:∀ (w:fB) (os:OsState),(topQ p w N k pos (s w os)).map (sn6 q loose)=some (clsGoodW q loose))(r7:∀ (w:fB) (os:OsState),(topQ p w N k pos (s w os)).map (fun s=>Yf s.abs)=some (Ya w)):LeftO p q loose Xt Yf Ya (M+N):=fun w=>by
 obtain⟨⟨h,gs,d,k,os⟩,e1,e2⟩:=xS.mp (boot_open e hN f w);obtain⟨rfl,rfl,rfl,rfl⟩:h=boot_heap w.params/\gs = #[]/\d=boot_drawn/\k=boot_toks:=by simpa using e2
 obtain⟨s,x,y0⟩:=xS.mp (r0 w os);have y1:=r1 w os;have y2:=r2 w os;have y3:=r3 w os;have y4:=r4 w os;have y5:=r5 w os;have y9:=r9 w os;have yA:=rA w os;have yB:=rB w os;have y8:=r8 w os;have y6:=r6 w os;have y7:=r7 w os;rw[x,Option.map_some,Option.some_inj] at y1 y2 y3 y4 y5 y6 y7 y8 y9 yA yB;have r:=R w os N _ (ET x);rw[LF] at r;obtain⟨z1,z2,z3⟩:_/\_/\_:=by simpa only [Prod.mk.injEq] using K7 w.params
 have t:topFrom treeTable p w (M+N) ⟨boot_heap w.params,#[],boot_drawn,boot_toks,os⟩=some s.abs:=by
  unfold topFrom;dsimp only;rw[z1,z2,z3,r];show (match staticsOk (importedModules p.main.body) (boot_heap w.params) s.abs.heap && namesBound p s.abs.heap && gensDone s.abs && laidKept (boot_heap w.params) s.abs.heap with | true=>some s.abs | false=>none)=_;unfold sn0 at y0;rw[y0]
 unfold openEnds;rw[e1];show (topFrom treeTable p w (M+N) _).map _=_;rw[t];refine congrArg some (Prod.ext ?_ y7);have a1:=congrArg Prod.fst y1;have b1:=congrArg Prod.snd y1;exact Prod.ext a1 (Prod.ext b1 (Prod.ext y2 (Prod.ext y3 (Prod.ext y4 (Prod.ext ((IC _ _).trans ((congr (congrArg _ y9) (congr (congrArg _ yB) yA)).trans (IC _ _).symm)) (Prod.ext y5 (Prod.ext y8 y6)))))))
end L2
lay_quick L2.preP L2.blkP L2.segP L2.topQ L2.errS L2.stubS L2.stubT L2.sn0 L2.sn1 L2.sn2 L2.sn3 L2.sn4 L2.sn5 L2.sn6 L2.sn8 L2.sn9 L2.snA L2.gd9 L2.gdA
namespace Law
open PySem L2
def pm0:eY:=(.str "forsworn.errors" 194)
def pm1:eY:=(.str "forsworn.deeds" 658)
def pm2:eY:=(.str "forsworn.measures" 716)
def pm3:eY:=(.str "forsworn.oaths" 754)
def pm4:eY:=(.str "forsworn.folk" 770)
def pm5:eY:=(.str "forsworn.stands" 1034)
def pm6:eY:=(.str "forsworn.moot" 1120)
def pm7:eY:=(.str "forsworn.notes" 1552)
def pm8:eY:=(.str "forsworn.past" 1657)
def pm9:eY:=(.str "forsworn.desk" 1719)
def Z6:eY:=(.str "law_forsworn_k57_desk_lines_of_no_form" 1798)
def Kp(p:fA)(P:Params):uFg :=
 kpO (3,⟨(.type "dict"),none,(.dict #[de P "__name__" 165 (.str "law_forsworn_k57_desk_lines_of_no_form" 1798),de P "__doc__" 166 .none,de P "__package__" 167 .none,de P "__loader__" 168 (.builtin "__main__.__loader__#opaque"),de P "__spec__" 169 .none,de P "__annotations__" 170 (.ref 6),de P "__builtins__" 171 (.ref 4),de P "__file__" 173 (.str "/claim/cut.py" 172),de P "__cached__" 174 .none,de P "_wall" 193 (.ref 21),de P "MootError" 220 (.ref 38),de P "NoName" 243 (.ref 58),de P "NoMeasure" 266 (.ref 77),de P "Unknown" 289 (.ref 96),de P "Taken" 312 (.ref 115),de P "NoThing" 335 (.ref 134),de P "NoCase" 358 (.ref 153),de P "NoOath" 381 (.ref 172),de P "NotYet" 404 (.ref 191),de P "Dead" 427 (.ref 210),de P "NoHeir" 450 (.ref 229),de P "TooMany" 473 (.ref 248),de P "SwornTwice" 496 (.ref 267),de P "Forsworn" 519 (.ref 286),de P "TooLight" 542 (.ref 305),de P "Broken" 565 (.ref 324),de P "NoMoment" 588 (.ref 343),de P "NothingBack" 611 (.ref 362),de P "NothingForth" 634 (.ref 381),de P "NoDeed" 657 (.ref 400),de P "done" 668 (.ref 409),de P "copied" 674 (.ref 414),de P "owed" 682 (.ref 419),de P "balance" 696 (.ref 426),de P "balance_dues" 697 (.ref 426),de P "set_against" 707 (.ref 433),de P "triple" 715 (.ref 440),de P "LAST_DAY" 719 (.int (9999) 718),de P "MOST_WEIGHT" 721 (.int (1000) 720),de P "MOST_NEED" 723 (.int (12000) 722),de P "MOST_MONEY" 725 (.int (1000000) 724),de P "check_day" 732 (.ref 447),de P "check_weight" 739 (.ref 454),de P "check_need" 746 (.ref 461),de P "check_money" 753 (.ref 468),de P "LONGEST_NAME" 757 (.int (12) 756),de P "is_name" 763 (.ref 473),de P "total" 769 (.ref 478),de P "MOST_FOLK" 773 (.int (40) 772),de P "Folk" 978 (.ref 633),de P "DAY" 982 (.int (0) 981),de P "WORD" 984 (.int (1) 983),de P "GIVER" 986 (.int (2) 985),de P "TAKER" 988 (.int (3) 987),de P "road" 994 (.ref 642),de P "holder" 1005 (.ref 649),de P "holder_goods" 1006 (.ref 649),de P "by_day" 1013 (.ref 656),de P "leave_on" 1024 (.ref 663),de P "pass_on" 1033 (.ref 670),de P "ONES" 1037 (.int (0) 1036),de P "OTHERS" 1039 (.int (1) 1038),de P "NEED" 1041 (.int (2) 1040),de P "NAMED" 1043 (.int (3) 1042),de P "settled" 1050 (.ref 677),de P "settled_with" 1062 (.ref 684),de P "breakers" 1071 (.ref 691),de P "breakers_stands" 1072 (.ref 691),de P "breaking" 1078 (.ref 696),de P "naming" 1089 (.ref 703),de P "check_case" 1097 (.ref 710),de P "check_oath" 1103 (.ref 715),de P "margin_without" 1113 (.ref 722),de P "kept_weight" 1119 (.ref 727),de P "MOST_THINGS" 1123 (.int (40) 1122),de P "MOST_CASES" 1125 (.int (60) 1124),de P "MOST_SWEARERS" 1127 (.int (12) 1126),de P "MOST_MOMENTS" 1129 (.int (400) 1128),de P "Moot" 1551 (.ref 1037),de P "MOST_FIGURES" 1555 (.int (9) 1554),de P "PLAIN" 1590 (.ref 1042),de P "SWORN" 1610 (.ref 1050),de P "read_deed" 1622 (.ref 1060),de P "place_of" 1630 (.ref 1067),de P "read_names" 1636 (.ref 1072),de P "read_values" 1642 (.ref 1077),de P "read_value" 1650 (.ref 1084),de P "is_number" 1656 (.ref 1089),de P "Past" 1718 (.ref 1134),de P "ASKED" 1741 (.ref 1139),de P "Desk" 1797 (.ref 1184),de P "_law_src" 1806 (.ref 1195),de P "_law_next" 1816 (.ref 1202),de P "_law_whole" 1823 (.ref 1209),de P "_law_same" 1833 (.ref 1216),de P "_law_unlike" 1844 (.ref 1223),de P "_law_word" 1850 (.ref 1228),de P "_law_names" 1864 (.ref 1235),de P "_law_number" 1872 (.ref 1242),de P "_law_row" 1878 (.ref 1247),de P "_law_form" 1887 (.ref 1254),de P "_law_any_deed" 1899 (.ref 1261),de P "_law_shown" 1910 (.ref 1268),de P "_law_read_number" 1918 (.ref 1275),de P "_law_read_name" 1926 (.ref 1282),de P "_law_read_part" 1934 (.ref 1289),de P "_law_read_sides" 1940 (.ref 1294),de P "_law_read" 1946 (.ref 1299),de P "_law_spoilt" 1960 (.ref 1306),de P "_law_desk_form" 1968 (.ref 1313),de P "_law_is_line" 1974 (.ref 1318),de P "_law_line" 1985 (.ref 1325),de P "law" 2000 (.ref 1332)] 113),#[]⟩)<|
 kpO (37,⟨(.type "dict"),none,(.dict #[de P "__module__" 203 (.str "forsworn.errors" 194),de P "__firstlineno__" 207 (.int (5) 206),de P "called" 214 (.ref 35),de P "__static_attributes__" 215 (.ref 36),de P "__weakref__" 217 (.ref 39),de P "__doc__" 218 .none] 3),#[]⟩)<|
 kpO (38,⟨(.type "type"),none,(.cls {name:="MootError", bases:=[(.type "ValueError")],mro:=[(.ref 38),(.type "ValueError"),(.type "Exception"),(.type "BaseException"),(.type "object")],ns:=37,qualname:="MootError", hasDict:=true,slotNames:=[],subclasses:=[(.ref 58),(.ref 77),(.ref 96),(.ref 115),(.ref 134),(.ref 153),(.ref 172),(.ref 191),(.ref 210),(.ref 229),(.ref 248),(.ref 267),(.ref 286),(.ref 305),(.ref 324),(.ref 343),(.ref 362),(.ref 381),(.ref 400)],abstract:=false,collection:=none,hasDel:=false }),#[some (.ref 22),none,some (.str "MootError" 196),some (.str "MootError" 204),some (.builtin "ValueError.__new__"),some (.bool true)]⟩)<|
 kE P 76 "NoMeasure" 13 251<|
 kE P 95 "Unknown" 17 274<|
 kE P 133 "NoThing" 25 320<|
 kE P 152 "NoCase" 29 343<|
 kE P 171 "NoOath" 33 366<|
 kE P 190 "NotYet" 37 389<|
 kE P 209 "Dead" 41 412<|
 kE P 247 "TooMany" 49 458<|
 kE P 266 "SwornTwice" 53 481<|
 kE P 285 "Forsworn" 57 504<|
 kE P 304 "TooLight" 61 527<|
 kE P 323 "Broken" 65 550<|
 kg 396 "called" "NoDeed.called" 647 83 1 651 (hIn (Zt p 21) 0) pm0<|
 kE P 399 "NoDeed" 81 642<|
 kf 408 "done" 660 86 2 666 (Zt p 23) pm1<|
 kf0 413 "copied" 669 109 1 672 (Zt p 24) pm1<|
 kf 446 "check_day" 726 141 1 730 (Zt p 36) pm2<|
 kf 453 "check_weight" 733 144 1 737 (Zt p 37) pm2<|
 kf 460 "check_need" 740 147 1 744 (Zt p 38) pm2<|
 kf0 472 "is_name" 758 155 1 761 (Zt p 42) pm3<|
 kf0 477 "total" 764 157 1 767 (Zt p 43) pm3<|
 kg 491 "__init__" "Folk.__init__" 786 163 1 790 (hIn (Zt p 46) 0) pm4<|
 kg 498 "come" "Folk.come" 793 169 4 800 (hIn (Zt p 46) 1) pm4<|
 kg0 531 "weight" "Folk.weight" 838 189 3 841 (hIn (Zt p 46) 6) pm4<|
 kg 566 "died_by" "Folk.died_by" 878 212 3 884 (hIn (Zt p 46) 11) pm4<|
 kg 587 "check_coming" "Folk.check_coming" 903 221 4 910 (hIn (Zt p 46) 14) pm4<|
 kg 608 "check_known" "Folk.check_known" 933 248 2 938 (hIn (Zt p 46) 17) pm4<|
 kg 615 "check_there" "Folk.check_there" 941 252 3 947 (hIn (Zt p 46) 18) pm4<|
 kg 622 "check_living" "Folk.check_living" 950 256 3 956 (hIn (Zt p 46) 19) pm4<|
 kpO (632,⟨(.type "dict"),none,(.dict #[de P "__module__" 781 (.str "forsworn.folk" 770),de P "__firstlineno__" 785 (.int (161) 784),de P "__init__" 792 (.ref 492),de P "come" 802 (.ref 499),de P "rise" 812 (.ref 506),de P "die" 822 (.ref 513),de P "names" 829 (.ref 520),de P "came" 837 (.ref 527),de P "weight" 843 (.ref 532),de P "dead" 852 (.ref 539),de P "stands_for" 861 (.ref 546),de P "twin" 868 (.ref 553),de P "stand_in" 877 (.ref 560),de P "died_by" 886 (.ref 567),de P "death_day" 894 (.ref 574),de P "heir_of" 902 (.ref 581),de P "check_coming" 912 (.ref 588),de P "check_rise" 922 (.ref 595),de P "check_death" 932 (.ref 602),de P "check_known" 940 (.ref 609),de P "check_there" 949 (.ref 616),de P "check_living" 958 (.ref 623),de P "check_untold" 966 (.ref 630),de P "__static_attributes__" 971 (.ref 631),de P "__dict__" 973 (.ref 634),de P "__weakref__" 975 (.ref 635),de P "__doc__" 976 .none] 4),#[]⟩)<|
 kpO (633,⟨(.type "type"),none,(.cls {name:="Folk", bases:=[(.type "object")],mro:=[(.ref 633),(.type "object")],ns:=632,qualname:="Folk", hasDict:=true,slotNames:=[],subclasses:=[],abstract:=false,collection:=none,hasDel:=false }),#[none,none,some (.str "Folk" 774),some (.str "Folk" 782),some (.builtin "object.__new__"),some (.bool true)]⟩)<|
 kf 676 "settled" 1044 298 1 1048 (Zt p 63) pm5<|
 kf 683 "settled_with" 1051 300 2 1060 (Zt p 64) pm5<|
 kf 709 "check_case" 1090 323 2 1095 (Zt p 69) pm5<|
 kf0 714 "check_oath" 1098 326 3 1101 (Zt p 70) pm5<|
 kf 721 "margin_without" 1104 330 3 1111 (Zt p 71) pm5<|
 kf0 726 "kept_weight" 1114 333 3 1117 (Zt p 72) pm5<|
 kg 740 "__init__" "Moot.__init__" 1142 342 1 1146 (hIn (Zt p 78) 0) pm6<|
 kg 747 "come" "Moot.come" 1149 353 4 1156 (hIn (Zt p 78) 1) pm6<|
 kg 775 "bring" "Moot.bring" 1187 378 3 1193 (hIn (Zt p 78) 5) pm6<|
 kg 796 "claim" "Moot.claim" 1218 404 7 1229 (hIn (Zt p 78) 8) pm6<|
 kg0 822 "roll" "Moot.roll" 1267 438 1 1270 (hIn (Zt p 78) 12) pm6<|
 kg 993 "forsworn_names" "Moot.forsworn_names" 1466 524 1 1474 (hIn (Zt p 78) 37) pm6<|
 kg0 998 "weighed" "Moot.weighed" 1477 532 3 1480 (hIn (Zt p 78) 38) pm6<|
 kg 1005 "try_case" "Moot.try_case" 1483 535 6 1492 (hIn (Zt p 78) 39) pm6<|
 kg 1012 "check_named" "Moot.check_named" 1495 541 5 1504 (hIn (Zt p 78) 40) pm6<|
 kg 1019 "check_thing" "Moot.check_thing" 1507 557 2 1512 (hIn (Zt p 78) 41) pm6<|
 kg 1026 "check_sides" "Moot.check_sides" 1515 561 5 1525 (hIn (Zt p 78) 42) pm6<|
 kg 1033 "check_moments" "Moot.check_moments" 1528 576 1 1532 (hIn (Zt p 78) 43) pm6<|
 kpO (1036,⟨(.type "dict"),none,(.dict #[de P "__module__" 1137 (.str "forsworn.moot" 1120),de P "__firstlineno__" 1141 (.int (340) 1140),de P "__init__" 1148 (.ref 741),de P "come" 1158 (.ref 748),de P "rise" 1168 (.ref 755),de P "die" 1178 (.ref 762),de P "penance" 1186 (.ref 769),de P "bring" 1195 (.ref 776),de P "give" 1206 (.ref 783),de P "pay" 1217 (.ref 790),de P "claim" 1231 (.ref 797),de P "wergild" 1246 (.ref 804),de P "accuse" 1259 (.ref 811),de P "now" 1266 (.ref 818),de P "roll" 1272 (.ref 823),de P "names" 1279 (.ref 830),de P "weight" 1288 (.ref 837),de P "dead" 1297 (.ref 844),de P "stands_for" 1306 (.ref 851),de P "things" 1313 (.ref 858),de P "cases" 1320 (.ref 865),de P "suits" 1326 (.ref 870),de P "standing" 1333 (.ref 877),de P "stands" 1341 (.ref 884),de P "margin" 1349 (.ref 891),de P "breakers" 1358 (.ref 898),de P "chain" 1366 (.ref 905),de P "bearing" 1374 (.ref 912),de P "paper" 1382 (.ref 919),de P "fewest" 1390 (.ref 926),de P "forsworn" 1398 (.ref 933),de P "holder" 1407 (.ref 940),de P "road" 1416 (.ref 947),de P "holds" 1425 (.ref 954),de P "owed" 1433 (.ref 961),de P "balance" 1442 (.ref 968),de P "twin" 1449 (.ref 975),de P "then" 1459 (.ref 982),de P "counting" 1465 (.ref 987),de P "forsworn_names" 1476 (.ref 994),de P "weighed" 1482 (.ref 999),de P "try_case" 1494 (.ref 1006),de P "check_named" 1506 (.ref 1013),de P "check_thing" 1514 (.ref 1020),de P "check_sides" 1527 (.ref 1027),de P "check_moments" 1534 (.ref 1034),de P "__static_attributes__" 1544 (.ref 1035),de P "__dict__" 1546 (.ref 1038),de P "__weakref__" 1548 (.ref 1039),de P "__doc__" 1549 .none] 4),#[]⟩)<|
 kpO (1037,⟨(.type "type"),none,(.cls {name:="Moot", bases:=[(.type "object")],mro:=[(.ref 1037),(.type "object")],ns:=1036,qualname:="Moot", hasDict:=true,slotNames:=[],subclasses:=[],abstract:=false,collection:=none,hasDel:=false }),#[none,none,some (.str "Moot" 1130),some (.str "Moot" 1138),some (.builtin "object.__new__"),some (.bool true)]⟩)<|
 kpO (1042,⟨(.type "dict"),none,(.dict #[de P "come" 1556 (.ref 1043),de P "rise" 1560 (.ref 1044),de P "die" 1564 (.ref 1045),de P "penance" 1568 (.ref 1046),de P "bring" 1570 (.ref 1047),de P "give" 1573 (.ref 1048),de P "pay" 1578 (.ref 1049)] 7),#[]⟩)<|
 kpO (1043,⟨(.type "tuple"),none,(.seq #[(.str "name" 1557),(.str "number" 1558),(.str "number" 1559)] 0),#[]⟩)<|
 kpO (1044,⟨(.type "tuple"),none,(.seq #[(.str "name" 1561),(.str "number" 1562),(.str "number" 1563)] 0),#[]⟩)<|
 kpO (1045,⟨(.type "tuple"),none,(.seq #[(.str "name" 1565),(.str "number" 1566),(.str "name" 1567)] 0),#[]⟩)<|
 kpO (1046,⟨(.type "tuple"),none,(.seq #[(.str "name" 1569)] 0),#[]⟩)<|
 kpO (1047,⟨(.type "tuple"),none,(.seq #[(.str "name" 1571),(.str "number" 1572)] 0),#[]⟩)<|
 kpO (1048,⟨(.type "tuple"),none,(.seq #[(.str "number" 1574),(.str "name" 1575),(.str "name" 1576),(.str "number" 1577)] 0),#[]⟩)<|
 kpO (1049,⟨(.type "tuple"),none,(.seq #[(.str "name" 1579),(.str "name" 1580),(.str "number" 1581),(.str "number" 1582)] 0),#[]⟩)<|
 kpO (1050,⟨(.type "dict"),none,(.dict #[de P "claim" 1591 (.ref 1051),de P "wergild" 1596 (.ref 1052),de P "accuse" 1602 (.ref 1053)] 3),#[]⟩)<|
 kpO (1051,⟨(.type "tuple"),none,(.seq #[(.str "name" 1592),(.str "number" 1593),(.str "number" 1594),(.str "number" 1595)] 0),#[]⟩)<|
 kpO (1052,⟨(.type "tuple"),none,(.seq #[(.str "name" 1597),(.str "name" 1598),(.str "number" 1599),(.str "number" 1600),(.str "number" 1601)] 0),#[]⟩)<|
 kpO (1053,⟨(.type "tuple"),none,(.seq #[(.str "number" 1603),(.str "name" 1604),(.str "number" 1605),(.str "number" 1606)] 0),#[]⟩)<|
 kf 1059 "read_deed" 1611 583 1 1620 (Zt p 83) pm7<|
 kf 1066 "place_of" 1623 594 2 1628 (Zt p 84) pm7<|
 kf0 1071 "read_names" 1631 598 1 1634 (Zt p 85) pm7<|
 kf0 1076 "read_values" 1637 600 2 1640 (Zt p 86) pm7<|
 kf 1083 "read_value" 1643 604 2 1648 (Zt p 87) pm7<|
 kf0 1088 "is_number" 1651 610 1 1654 (Zt p 88) pm7<|
 kg 1102 "__init__" "Past.__init__" 1671 617 1 1675 (hIn (Zt p 90) 0) pm8<|
 kg 1109 "does" "Past.does" 1678 621 2 1684 (hIn (Zt p 90) 1) pm8<|
 kg 1130 "waiting" "Past.waiting" 1702 639 1 1706 (hIn (Zt p 90) 4) pm8<|
 kpO (1133,⟨(.type "dict"),none,(.dict #[de P "__module__" 1666 (.str "forsworn.past" 1657),de P "__firstlineno__" 1670 (.int (615) 1669),de P "__init__" 1677 (.ref 1103),de P "does" 1686 (.ref 1110),de P "undo" 1694 (.ref 1117),de P "redo" 1701 (.ref 1124),de P "waiting" 1708 (.ref 1131),de P "__static_attributes__" 1711 (.ref 1132),de P "__dict__" 1713 (.ref 1135),de P "__weakref__" 1715 (.ref 1136),de P "__doc__" 1716 .none] 4),#[]⟩)<|
 kpO (1134,⟨(.type "type"),none,(.cls {name:="Past", bases:=[(.type "object")],mro:=[(.ref 1134),(.type "object")],ns:=1133,qualname:="Past", hasDict:=true,slotNames:=[],subclasses:=[],abstract:=false,collection:=none,hasDel:=false }),#[none,none,some (.str "Past" 1659),some (.str "Past" 1667),some (.builtin "object.__new__"),some (.bool true)]⟩)<|
 kpO (1139,⟨(.type "dict"),none,(.dict #[de P "undo" 1721 (.ref 1140),de P "redo" 1722 (.ref 1141),de P "moment" 1723 (.ref 1142),de P "stands" 1724 (.ref 1143),de P "who" 1726 (.ref 1144),de P "forsworn" 1729 (.ref 1145),de P "balance" 1731 (.ref 1146)] 7),#[]⟩)<|
 kpO (1140,⟨(.type "tuple"),none,(.seq #[] 0),#[]⟩)<|
 kpO (1141,⟨(.type "tuple"),none,(.seq #[] 0),#[]⟩)<|
 kpO (1142,⟨(.type "tuple"),none,(.seq #[] 0),#[]⟩)<|
 kpO (1143,⟨(.type "tuple"),none,(.seq #[(.str "number" 1725)] 0),#[]⟩)<|
 kpO (1144,⟨(.type "tuple"),none,(.seq #[(.str "number" 1727),(.str "number" 1728)] 0),#[]⟩)<|
 kpO (1145,⟨(.type "tuple"),none,(.seq #[(.str "name" 1730)] 0),#[]⟩)<|
 kpO (1146,⟨(.type "tuple"),none,(.seq #[(.str "name" 1732),(.str "number" 1733)] 0),#[]⟩)<|
 kg 1159 "__init__" "Desk.__init__" 1754 645 1 1758 (hIn (Zt p 93) 0) pm9<|
 kg 1166 "say" "Desk.say" 1761 648 2 1768 (hIn (Zt p 93) 1) pm9<|
 kg 1173 "carry_out" "Desk.carry_out" 1771 655 2 1777 (hIn (Zt p 93) 2) pm9<|
 kg 1180 "reply" "Desk.reply" 1780 661 3 1786 (hIn (Zt p 93) 3) pm9<|
 kpO (1183,⟨(.type "dict"),none,(.dict #[de P "__module__" 1749 (.str "forsworn.desk" 1719),de P "__firstlineno__" 1753 (.int (643) 1752),de P "__init__" 1760 (.ref 1160),de P "say" 1770 (.ref 1167),de P "carry_out" 1779 (.ref 1174),de P "reply" 1788 (.ref 1181),de P "__static_attributes__" 1790 (.ref 1182),de P "__dict__" 1792 (.ref 1185),de P "__weakref__" 1794 (.ref 1186),de P "__doc__" 1795 .none] 4),#[]⟩)<|
 kpO (1184,⟨(.type "type"),none,(.cls {name:="Desk", bases:=[(.type "object")],mro:=[(.ref 1184),(.type "object")],ns:=1183,qualname:="Desk", hasDict:=true,slotNames:=[],subclasses:=[],abstract:=false,collection:=none,hasDel:=false }),#[none,none,some (.str "Desk" 1742),some (.str "Desk" 1750),some (.builtin "object.__new__"),some (.bool true)]⟩)<|
 kf 1194 "_law_src" 1800 676 1 1804 (Zt p 95) Z6<|
 kf 1201 "_law_next" 1807 678 2 1814 (Zt p 96) Z6<|
 kf 1208 "_law_whole" 1817 693 1 1821 (Zt p 97) Z6<|
 kf 1215 "_law_same" 1824 695 2 1831 (Zt p 98) Z6<|
 kf 1222 "_law_unlike" 1834 712 2 1842 (Zt p 99) Z6<|
 kf0 1227 "_law_word" 1845 720 2 1848 (Zt p 100) Z6<|
 kf 1234 "_law_names" 1851 723 2 1862 (Zt p 101) Z6<|
 kf 1241 "_law_number" 1865 736 1 1870 (Zt p 102) Z6<|
 kf0 1246 "_law_row" 1873 743 2 1876 (Zt p 103) Z6<|
 kf 1253 "_law_form" 1879 745 1 1885 (Zt p 104) Z6<|
 kf 1260 "_law_any_deed" 1888 749 2 1897 (Zt p 105) Z6<|
 kf 1267 "_law_shown" 1900 761 1 1908 (Zt p 106) Z6<|
 kf 1274 "_law_read_number" 1911 773 1 1916 (Zt p 107) Z6<|
 kf 1281 "_law_read_name" 1919 780 1 1924 (Zt p 108) Z6<|
 kf 1288 "_law_read_part" 1927 787 2 1932 (Zt p 109) Z6<|
 kf0 1293 "_law_read_sides" 1935 791 1 1938 (Zt p 110) Z6<|
 kf0 1298 "_law_read" 1941 800 1 1944 (Zt p 111) Z6<|
 kf 1305 "_law_spoilt" 1947 818 2 1958 (Zt p 112) Z6<|
 kf 1312 "_law_desk_form" 1961 840 1 1966 (Zt p 113) Z6<|
 kf0 1317 "_law_is_line" 1969 843 1 1972 (Zt p 114) Z6<|
 kf 1324 "_law_line" 1975 851 2 1983 (Zt p 115) Z6<|
 kf 1331 "law" 1986 864 1 1998 (Zt p 116) Z6<|[]
def KK(P:Params):uFg:=Kp PySem.Challenge.pw_forsworn_k57_desk_lines_of_no_form P
def askd:List eZ:=[3,37,38,76,77,95,96,133,134,152,153,171,172,190,191,209,210,247,248,266,267,285,286,304,305,323,324,396,397,399,400,408,409,413,414,446,447,453,454,460,461,472,473,477,478,491,492,498,499,531,532,566,567,587,588,608,609,615,616,622,623,632,633,676,677,683,684,709,710,714,715,721,722,726,727,740,741,747,748,775,776,796,797,822,823,993,994,998,999,1005,1006,1012,1013,1019,1020,1026,1027,1033,1034,1036,1037,1042,1043,1044,1045,1046,1047,1048,1049,1050,1051,1052,1053,1059,1060,1066,1067,1071,1072,1076,1077,1083,1084,1088,1089,1102,1103,1109,1110,1130,1131,1133,1134,1139,1140,1141,1142,1143,1144,1145,1146,1159,1160,1166,1167,1173,1174,1180,1181,1183,1184,1194,1195,1201,1202,1208,1209,1215,1216,1222,1223,1227,1228,1234,1235,1241,1242,1246,1247,1253,1254,1260,1261,1267,1268,1274,1275,1281,1282,1288,1289,1293,1294,1298,1299,1305,1306,1312,1313,1317,1318,1324,1325,1331,1332]
def HK:PySem.W.Hook:=PySem.W.kHook KK askd fun _=>by kernel_rfl
def q:fA:=PySem.W.view PySem.Challenge.pw_forsworn_k57_desk_lines_of_no_form [0,2,3,4,5,6,7,8,9,10,11,12,13,14,15,16,17,18,19,20,21,23,24,26,27,28,29,30,32,33,34,35,36,37,38,39,41,42,43,45,46,48,49,50,51,52,53,54,55,56,57,59,60,61,62,63,64,65,66,67,68,69,70,71,72,74,75,76,77,78,80,81,82,83,84,85,86,87,88,90,92,93,95,96,97,98,99,100,101,102,103,104,105,106,107,108,109,110,111,112,113,114,115,116]
def ens:List (Str×Str):=[("NoName","NoName.called"),("NoMeasure","NoMeasure.called"),("Unknown","Unknown.called"),("Taken","Taken.called"),("NoThing","NoThing.called"),("NoCase","NoCase.called"),("NoOath","NoOath.called"),("NotYet","NotYet.called"),("Dead","Dead.called"),("NoHeir","NoHeir.called"),("TooMany","TooMany.called"),("SwornTwice","SwornTwice.called"),("Forsworn","Forsworn.called"),("TooLight","TooLight.called"),("Broken","Broken.called"),("NoMoment","NoMoment.called"),("NothingBack","NothingBack.called"),("NothingForth","NothingForth.called"),("NoDeed","NoDeed.called")]
end Law
namespace PySem.W.Fast
noncomputable def tw16971192258110179841:PySem.Program:=PySem.Challenge.pw_forsworn_k57_desk_lines_of_no_form
theorem te16971192258110179841:PySem.Challenge.pw_forsworn_k57_desk_lines_of_no_form=tw16971192258110179841:=rfl
end PySem.W.Fast
lay_quick PySem.Challenge.rw_forsworn_k57_desk_lines_of_no_form Law.q Law.ens
namespace Law
open PySem L2 PySem.W.Fast
set_option maxRecDepth 1000000
noncomputable abbrev zqP:=(tw2368527892694137696 tw12571221187316890671).prog
def FO(b:Bool):Prop:=∀(w:fB)(os:PySem.OsState),tw14574945829899846032 zqP (w.withFollow "special-get-raises" b) (tw15095419895629540892 (w.withFollow "special-get-raises" b).params os)=some (tw17173385231801463501 (w.withFollow "special-get-raises" b).params os,tw17649063868247884333 zqP)
theorem bU:FO false:=by
 intro w os;kernel_rfl
theorem NZ:FO true:=by
 intro w os;kernel_rfl
theorem Oa:∀b,FO b
 | false=>bU
 | true=>NZ
def EN(b:Bool):Prop:=∀(w:fB)(os:PySem.OsState),tw897522592586576512 zqP (w.withFollow "special-get-raises" b) (tw17173385231801463501 (w.withFollow "special-get-raises" b).params os)=some (.next,tw17173385231801463501 (w.withFollow "special-get-raises" b).params os,cP zqP,p0)
theorem Np:EN false:=by
 intro w os;kernel_rfl
theorem Rz:EN true:=by
 intro w os;kernel_rfl
theorem dY:∀b,EN b
 | false=>Np
 | true=>Rz
def DJ(b:Bool):Prop:=∀(w:fB)(os:PySem.OsState),tw3364177927453363911 zqP (w.withFollow "special-get-raises" b) 1956 0 10 p0 (tw17173385231801463501 (w.withFollow "special-get-raises" b).params os)=some (.next,(tw15053072615319938550 zqP (tw2665081048563830263.take 7) (w.withFollow "special-get-raises" b).params os),cP zqP,⟨33,0,36,23⟩)
theorem RZ:DJ false:=by
 intro w os;kernel_rfl
theorem LZ:DJ true:=by
 intro w os;kernel_rfl
theorem LL:∀b,DJ b
 | false=>RZ
 | true=>LZ
def Fg(b:Bool):Prop:=∀(w:fB)(os:PySem.OsState),tw3364177927453363911 zqP (w.withFollow "special-get-raises" b) 1702 10 7 ⟨33,0,36,23⟩ (tw15053072615319938550 zqP (tw2665081048563830263.take 7) (w.withFollow "special-get-raises" b).params os)=some (.next,(tw15053072615319938550 zqP (tw2665081048563830263.take 14) (w.withFollow "special-get-raises" b).params os),cP zqP,⟨61,0,64,25⟩)
theorem RL:Fg false:=by
 intro w os;kernel_rfl
theorem So:Fg true:=by
 intro w os;kernel_rfl
theorem cM:∀b,Fg b
 | false=>RL
 | true=>So
def DG(b:Bool):Prop:=∀(w:fB)(os:PySem.OsState),tw3364177927453363911 zqP (w.withFollow "special-get-raises" b) 1216 17 5 ⟨61,0,64,25⟩ (tw15053072615319938550 zqP (tw2665081048563830263.take 14) (w.withFollow "special-get-raises" b).params os)=some (.next,(tw15053072615319938550 zqP (tw2665081048563830263.take 19) (w.withFollow "special-get-raises" b).params os),cP zqP,⟨81,0,84,23⟩)
theorem OC:DG false:=by
 intro w os;kernel_rfl
theorem cJ:DG true:=by
 intro w os;kernel_rfl
theorem Qt:∀b,DG b
 | false=>OC
 | true=>cJ
def DY(b:Bool):Prop:=∀(w:fB)(os:PySem.OsState),Option.map (tw5166864615210023351 zqP (w.withFollow "special-get-raises" b).params) (tw9491608239551792999 zqP (w.withFollow "special-get-raises" b) 11094 22 ⟨81,0,84,23⟩ (tw15053072615319938550 zqP (tw2665081048563830263.take 19) (w.withFollow "special-get-raises" b).params os))=some true
theorem bP:DY false:=by
 intro w os;kernel_rfl
theorem R4:DY true:=by
 intro w os;kernel_rfl
theorem Xo:∀b,DY b
 | false=>bP
 | true=>R4
def Fz(b:Bool):Prop:=∀(w:fB)(os:PySem.OsState),Option.map (tw9146811602139678113 tw2797900513057943271) (tw9491608239551792999 zqP (w.withFollow "special-get-raises" b) 11094 22 ⟨81,0,84,23⟩ (tw15053072615319938550 zqP (tw2665081048563830263.take 19) (w.withFollow "special-get-raises" b).params os))=some (PyProof.Rows.expectedOf tw2797900513057943271,bltViewBooted)
theorem Pk:Fz false:=by
 intro w os;kernel_rfl
theorem Xz:Fz true:=by
 intro w os;kernel_rfl
theorem cZ:∀b,Fz b
 | false=>Pk
 | true=>Xz
def EK(b:Bool):Prop:=∀(w:fB)(os:PySem.OsState),Option.map (tw4330636226384752446 zqP tw2797900513057943271 ["balance_dues","holder_goods","breakers_stands","PLAIN","SWORN","ASKED"] (fun s=>PySem.W.xlAt tw2797900513057943271 [] s && PySem.W.recOk (tw2368527892694137696 tw12571221187316890671).records s)) (tw9491608239551792999 zqP (w.withFollow "special-get-raises" b) 11094 22 ⟨81,0,84,23⟩ (tw15053072615319938550 zqP (tw2665081048563830263.take 19) (w.withFollow "special-get-raises" b).params os))=some true
theorem cO:EK false:=by
 intro w os;kernel_rfl
theorem Pc:EK true:=by
 intro w os;kernel_rfl
theorem RX:∀b,EK b
 | false=>cO
 | true=>Pc
def EJ(b:Bool):Prop:=∀(w:fB)(os:PySem.OsState),Option.map (tw290884773970851577 tw2797900513057943271) (tw9491608239551792999 zqP (w.withFollow "special-get-raises" b) 11094 22 ⟨81,0,84,23⟩ (tw15053072615319938550 zqP (tw2665081048563830263.take 19) (w.withFollow "special-get-raises" b).params os))=some true
theorem Ov:EJ false:=by
 intro w os;kernel_rfl
theorem SB:EJ true:=by
 intro w os;kernel_rfl
theorem SA:∀b,EJ b
 | false=>Ov
 | true=>SB
def DI(b:Bool):Prop:=∀(w:fB)(os:PySem.OsState),Option.map (tw9020109020722589832 tw2797900513057943271) (tw9491608239551792999 zqP (w.withFollow "special-get-raises" b) 11094 22 ⟨81,0,84,23⟩ (tw15053072615319938550 zqP (tw2665081048563830263.take 19) (w.withFollow "special-get-raises" b).params os))=some (pinGoodD (PyProof.Rows.drecsOf tw2797900513057943271))
theorem RU:DI false:=by
 intro w os;kernel_rfl
theorem NW:DI true:=by
 intro w os;kernel_rfl
theorem OY:∀b,DI b
 | false=>RU
 | true=>NW
def Fi(b:Bool):Prop:=∀(w:fB)(os:PySem.OsState),Option.map (tw1658975667393823239 tw2797900513057943271 ["balance_dues","holder_goods","breakers_stands","PLAIN","SWORN","ASKED"] 0) (tw9491608239551792999 zqP (w.withFollow "special-get-raises" b) 11094 22 ⟨81,0,84,23⟩ (tw15053072615319938550 zqP (tw2665081048563830263.take 19) (w.withFollow "special-get-raises" b).params os))=some (tw10258256380655884400 tw2797900513057943271 ["balance_dues","holder_goods","breakers_stands","PLAIN","SWORN","ASKED"] 0)
theorem Ro:Fi false:=by
 intro w os;kernel_rfl
theorem MR:Fi true:=by
 intro w os;kernel_rfl
theorem bV:∀b,Fi b
 | false=>Ro
 | true=>MR
def Ec(b:Bool):Prop:=∀(w:fB)(os:PySem.OsState),Option.map (tw1658975667393823239 tw2797900513057943271 ["balance_dues","holder_goods","breakers_stands","PLAIN","SWORN","ASKED"] 1) (tw9491608239551792999 zqP (w.withFollow "special-get-raises" b) 11094 22 ⟨81,0,84,23⟩ (tw15053072615319938550 zqP (tw2665081048563830263.take 19) (w.withFollow "special-get-raises" b).params os))=some (tw10258256380655884400 tw2797900513057943271 ["balance_dues","holder_goods","breakers_stands","PLAIN","SWORN","ASKED"] 1)
theorem PR:Ec false:=by
 intro w os;kernel_rfl
theorem PN:Ec true:=by
 intro w os;kernel_rfl
theorem Qd:∀b,Ec b
 | false=>PR
 | true=>PN
def FS(b:Bool):Prop:=∀(w:fB)(os:PySem.OsState),Option.map (tw1671388014868620310 tw2797900513057943271 ["balance_dues","holder_goods","breakers_stands","PLAIN","SWORN","ASKED"] 2) (tw9491608239551792999 zqP (w.withFollow "special-get-raises" b) 11094 22 ⟨81,0,84,23⟩ (tw15053072615319938550 zqP (tw2665081048563830263.take 19) (w.withFollow "special-get-raises" b).params os))=some (tw2047387775680494199 tw2797900513057943271 ["balance_dues","holder_goods","breakers_stands","PLAIN","SWORN","ASKED"] 2)
theorem Om:FS false:=by
 intro w os;kernel_rfl
theorem Mv:FS true:=by
 intro w os;kernel_rfl
theorem O5:∀b,FS b
 | false=>Om
 | true=>Mv
def E6(b:Bool):Prop:=∀(w:fB)(os:PySem.OsState),Option.map (tw11153056314078912757 tw2797900513057943271 ["balance_dues","holder_goods","breakers_stands","PLAIN","SWORN","ASKED"]) (tw9491608239551792999 zqP (w.withFollow "special-get-raises" b) 11094 22 ⟨81,0,84,23⟩ (tw15053072615319938550 zqP (tw2665081048563830263.take 19) (w.withFollow "special-get-raises" b).params os))=some (PyProof.Rows.plainGoodD tw2797900513057943271 ["balance_dues","holder_goods","breakers_stands","PLAIN","SWORN","ASKED"])
theorem eA:E6 false:=by
 intro w os;kernel_rfl
theorem cH:E6 true:=by
 intro w os;kernel_rfl
theorem Nq:∀b,E6 b
 | false=>eA
 | true=>cH
def Ej(b:Bool):Prop:=∀(w:fB)(os:PySem.OsState),Option.map (tw1743938642414776662 tw2797900513057943271) (tw9491608239551792999 zqP (w.withFollow "special-get-raises" b) 11094 22 ⟨81,0,84,23⟩ (tw15053072615319938550 zqP (tw2665081048563830263.take 19) (w.withFollow "special-get-raises" b).params os))=some (PySem.W.wideGood tw2797900513057943271)
theorem XB:Ej false:=by
 intro w os;kernel_rfl
theorem Od:Ej true:=by
 intro w os;kernel_rfl
theorem O4:∀b,Ej b
 | false=>XB
 | true=>Od
def Eb(b:Bool):Prop:=∀(w:fB)(os:PySem.OsState),Option.map (tw15055011524645977279 tw2797900513057943271 ["balance_dues","holder_goods","breakers_stands","PLAIN","SWORN","ASKED"]) (tw9491608239551792999 zqP (w.withFollow "special-get-raises" b) 11094 22 ⟨81,0,84,23⟩ (tw15053072615319938550 zqP (tw2665081048563830263.take 19) (w.withFollow "special-get-raises" b).params os))=some (PySem.W.clsGoodW tw2797900513057943271 ["balance_dues","holder_goods","breakers_stands","PLAIN","SWORN","ASKED"])
theorem SQ:Eb false:=by
 intro w os;kernel_rfl
theorem Pm:Eb true:=by
 intro w os;kernel_rfl
theorem Qu:∀b,Eb b
 | false=>SQ
 | true=>Pm
def EG(b:Bool):Prop:=∀(w:fB)(os:PySem.OsState),Option.map (fun s=>askd.map s.abs.heap.get?) (tw9491608239551792999 zqP (w.withFollow "special-get-raises" b) 11094 22 ⟨81,0,84,23⟩ (tw15053072615319938550 zqP (tw2665081048563830263.take 19) (w.withFollow "special-get-raises" b).params os))=some ((Kp tw16971192258110179841 (w.withFollow "special-get-raises" b).params).map fun p=>some p.2)
theorem QZ:EG false:=by
 intro w os;kernel_rfl
theorem Mq:EG true:=by
 intro w os;kernel_rfl
theorem QY:∀b,EG b
 | false=>QZ
 | true=>Mq
local macro_rules | `(tactic| walk_at "q")=>`(tactic| (intro h;rw[World.withFollow_self] at h;simp only[← te14574945829899846032,← te897522592586576512,← te3364177927453363911,← te9491608239551792999,← te15053072615319938550,← te17173385231801463501,← te17649063868247884333,← te2665081048563830263,← te5166864615210023351,← te9146811602139678113,← te4330636226384752446,← te290884773970851577,← te9020109020722589832,← te11153056314078912757,← te15055011524645977279,← te1743938642414776662,← te1658975667393823239,← te1671388014868620310,← te10258256380655884400,← te2047387775680494199,← te15095419895629540892,← te2797900513057943271,← te2368527892694137696,← te12571221187316890671,← te14364793385576792824,← te16971192258110179841] at h;exact h))
theorem left:PySem.W.LeftO PySem.Challenge.rw_forsworn_k57_desk_lines_of_no_form.row.prog q ["balance_dues","holder_goods","breakers_stands","PLAIN","SWORN","ASKED"] (fun s=>PySem.W.xlAt q [] s && PySem.W.recOk (PySem.W.RowW.records PySem.Challenge.rw_forsworn_k57_desk_lines_of_no_form.row.toRowW) s) HK.obs HK.val 15981:=by
 refine Si (M:=4887) (N:=11094) (k:=22) (pos:=⟨81,0,84,23⟩) (s:=fun w os=>errS PySem.Challenge.rw_forsworn_k57_desk_lines_of_no_form.row.prog (ens.take 19) w.params os) (by kernel_rfl) aA (fun s=>by kernel_rfl) (fun w os=>?_)
  (fun w os=>(by have h:=Xo (w.params.followText "special-get-raises") w os;revert h;walk_at "q"))
  (fun w os=>(by have h:=cZ (w.params.followText "special-get-raises") w os;revert h;walk_at "q"))
  (fun w os=>(by have h:=RX (w.params.followText "special-get-raises") w os;revert h;walk_at "q"))
  (fun w os=>(by have h:=SA (w.params.followText "special-get-raises") w os;revert h;walk_at "q"))
  (fun w os=>(by have h:=OY (w.params.followText "special-get-raises") w os;revert h;walk_at "q"))
  (fun w os=>(by have h:=bV (w.params.followText "special-get-raises") w os;revert h;walk_at "q"))
  (fun w os=>(by have h:=Qd (w.params.followText "special-get-raises") w os;revert h;walk_at "q"))
  (fun w os=>(by have h:=O5 (w.params.followText "special-get-raises") w os;revert h;walk_at "q"))
  (fun w os=>(by have h:=Nq (w.params.followText "special-get-raises") w os;revert h;walk_at "q"))
  (fun w os=>(by have h:=O4 (w.params.followText "special-get-raises") w os;revert h;walk_at "q"))
  (fun w os=>(by have h:=Qu (w.params.followText "special-get-raises") w os;revert h;walk_at "q"))
  (fun w os=>(by have h:=QY (w.params.followText "special-get-raises") w os;revert h;walk_at "q"))
 have R:=WG.zero (p:=PySem.Challenge.rw_forsworn_k57_desk_lines_of_no_form.row.prog) (w:=w) (os:=os) (by have h:=Oa (w.params.followText "special-get-raises") w os;revert h;walk_at "q") (by have h:=dY (w.params.followText "special-get-raises") w os;revert h;walk_at "q");have R:=R.step 1956 10 (by have h:=LL (w.params.followText "special-get-raises") w os;revert h;walk_at "q");have R:=R.step 1702 7 (by have h:=cM (w.params.followText "special-get-raises") w os;revert h;walk_at "q");have R:=R.step 1216 5 (by have h:=Qt (w.params.followText "special-get-raises") w os;revert h;walk_at "q");exact R
end Law
section
namespace L2
open PySem PySem.Spec PyProof.Rows
theorem aB{n:Nat}(h:Nat.ble n 5000=true):n<=sizeLine:=Nat.le_trans (Nat.le_of_ble_eq_true h) (by decide)
theorem aC:(5000:Nat)<=sizeLine:=by decide
abbrev ZQ:=Sum Int Str
def AO:ZQ->eY->Bool
 | .inl k,v=>Value.isInt k v
 | .inr x,v=>Value.isStrOf x v
def Nt(w:fB):ZQ->Int
 | .inl k=>hashInt k
 | .inr x=>hashStr w x
theorem TL:∀{k:ZQ}{v:eY},AO k v=true->(∃i t,k=Sum.inl i/\v=Value.int i t)\/(∃x t,k=Sum.inr x/\v=Value.str x t)
 | .inl i,v,h=>by
  obtain⟨t,e⟩:=Value.isInt_shape (k:=i) (v:=v) h;exact .inl ⟨i,t,rfl,e⟩
 | .inr x,v,h=>by
  obtain⟨t,e⟩:=Value.isStrOf_shape (x:=x) (v:=v) h;exact .inr ⟨x,t,rfl,e⟩
theorem LM(i:Int)(t:Tok):AO (.inl i) (.int i t)=true:=by simp[AO,Value.isInt]
theorem Ek(x:Str)(t:Tok):AO (.inr x) (.str x t)=true:=by simp[AO,Value.isStrOf]
theorem QN(a b:Int):decide ((Sum.inl a:ZQ)=Sum.inl b)=(a == b):=by grind
theorem Ku(a b:Str):decide ((Sum.inr a:ZQ)=Sum.inr b)=decide (a=b):=by grind
theorem LJ(a:Int)(b:Str):decide ((Sum.inl a:ZQ)=Sum.inr b)=false:=yC (fun q=>nomatch q)
theorem Rl(a:Str)(b:Int):decide ((Sum.inr a:ZQ)=Sum.inl b)=false:=yC (fun q=>nomatch q)
def Y1(prog:fA)(w:fB):PySem.KeyKind prog w ZQ where
 is:=AO
 hash:=Nt w
 inj:=fun v a b ha hb=>by
  rcases TL ha with⟨i,t,rfl,rfl⟩ | ⟨x,t,rfl,rfl⟩
  ·rcases TL hb with⟨j,u,rfl,e⟩ | ⟨y,u,rfl,e⟩
   ·injection e with e1 _;rw[e1]
   ·exact nomatch e
  ·rcases TL hb with⟨j,u,rfl,e⟩ | ⟨y,u,rfl,e⟩
   ·exact nomatch e
   ·injection e with e1 _;rw[e1]
 byValue:=fun k v h=>by
  rcases TL h with⟨i,t,rfl,rfl⟩ | ⟨x,t,rfl,rfl⟩<;>rfl
 pyHash:=fun hv h=>by
  rcases TL hv with⟨i,t,rfl,rfl⟩ | ⟨x,t,rfl,rfl⟩
  ·exact wpAny_pyHash_int h
  ·exact wpAny_pyHash_str h
 eqBool:=fun hu hv h=>by
  rcases TL hu with⟨i,t,rfl,rfl⟩ | ⟨x,t,rfl,rfl⟩
  ·rcases TL hv with⟨j,u,rfl,rfl⟩ | ⟨y,u,rfl,rfl⟩
   ·rw[QN] at h;exact wpAny_eqBool_int h
   ·rw[LJ] at h;exact SeqAt.EqAt.int_str i t y u _ _ _ _ h
  ·rcases TL hv with⟨j,u,rfl,rfl⟩ | ⟨y,u,rfl,rfl⟩
   ·rw[Rl] at h;exact SeqAt.EqAt.str_int x t j u _ _ _ _ h
   ·rw[Ku] at h;exact wpAny_eqBool_str h
 «strs»:=fun k x t v h=>by
  rcases TL h with⟨i,u,rfl,e⟩ | ⟨y,u,rfl,e⟩
  ·exact nomatch e
  ·injection e with e1 _
   subst e1
   cases v<;>rfl
theorem Nu(prog:fA)(w:fB)(i:Int)(t:Tok):(Y1 prog w).is (.inl i) (.int i t)=true:=LM i t
theorem P5(prog:fA)(w:fB)(x:Str)(t:Tok):(Y1 prog w).is (.inr x) (.str x t)=true:=Ek x t
inductive V where
 | non | bl (b:Bool) | int (i:Int) | str (x:Str) | byt (b:Array UInt8) | flt (b:UInt64) | ref (a:eZ) | ty (n:String)
 deriving DecidableEq
abbrev aG:=List V
def ZG:V->eY->Prop
 | .non,u=>u=Value.none
 | .bl b,u=>u=Value.bool b
 | .int i,u=>∃t,u=Value.int i t
 | .str x,u=>∃t,u=Value.str x t
 | .byt b,u=>∃t,u=Value.bytes b t
 | .flt b,u=>∃t,u=Value.float b t
 | .ref a,u=>u=Value.ref a
 | .ty n,u=>u=Value.type n
abbrev ZH:List V->List eY->Prop:=Paired ZG
theorem ZH.length(r:ZH xs us):xs.length=us.length:=Paired.length r
theorem ZH.get:∀{xs:aG}{us:eU}{i:Nat}{x:V},ZH xs us->xs[i]? = some x->∃u,us[i]? = some u/\ZG x u
 | _,_,_,_,.nil,e=>by simp at e
 | _,_,0,_,.cons r _,e=>by simp at e;subst e;exact⟨_,rfl,r⟩
 | _,_,i+1,x,.cons _ t,e=>by
  obtain⟨u,h1,h2⟩:=ZH.get (i:=i) (x:=x) t (by simpa using e);exact⟨u,by simpa using h1,h2⟩
theorem ZH.set(r:ZG x u):∀{xs:aG}{us:eU}(i:Nat),ZH xs us->ZH (xs.set i x) (us.set i u)
 | _,_,_,.nil=>.nil
 | _,_,0,.cons _ t=>.cons r t
 | _,_,i+1,.cons q t=>.cons q (ZH.set r i t)
theorem ZH.append:∀{xs ys:aG}{us ws:eU},ZH xs us->ZH ys ws->ZH (xs++ys) (us++ws)
 | _,_,_,_,.nil,s=>s
 | _,_,_,_,.cons r t,s=>.cons r (ZH.append t s)
theorem ZH.take:∀{xs:aG}{us:eU}(n:Nat),ZH xs us->ZH (xs.take n) (us.take n)
 | _,_,0,_=>.nil
 | _,_,_+1,.nil=>.nil
 | _,_,n+1,.cons r t=>.cons r (ZH.take n t)
theorem ZH.drop:∀{xs:aG}{us:eU}(n:Nat),ZH xs us->ZH (xs.drop n) (us.drop n)
 | _,_,0,r=>r
 | _,_,_+1,.nil=>.nil
 | _,_,n+1,.cons _ t=>ZH.drop n t
def YF:Option V->Option eY->Prop
 | some v,some u=>ZG v u
 | none,none=>True
 | _,_=>False
def KV{κ:Type}:List (κ×V)->List (κ×eY)->Prop:=Paired fun(p : κ×V) (q : κ×eY)=>p.1=q.1/\ZG p.2 q.2
def kV:ZQ->V
 | .inl i=>.int i
 | .inr x=>.str x
inductive HO where
 | lst (xs:aG)
 | tup (xs:aG)
 | dK (kvs:List (ZQ×V)) | dT (kvs:List (List ZQ×V))
 | set (S:Int->Bool) (n:Nat)
 | ins (C dx:eZ) (fs:List (Str×V))
 | own (x:eZ)
 | xd (fs:List (Str×V))
 | met (f x:eZ)
 | rng (lo hi:Int)
 | frz (o:Obj) (u:HO)
 | tbl (ps:Array eY)
 | ext (φ:Heap->Prop)
abbrev Hp:=eZ->Option HO
def upd(H:Hp)(a:eZ)(o:HO):Hp:=fun b=>if b=a then some o else H b
theorem Zg:upd H a o a=some o:=by unfold upd;rw[if_pos rfl]
theorem Zc(h:b≠a):upd H a o b=H b:=by unfold upd;rw[if_neg h]
theorem Rx{H:Hp}{a b:eZ}{o u:HO}(h:H a=some o)(h':H b=some u)(d:o≠u):a≠b:=by
 intro e;subst e;rw[h] at h';exact d (Option.some.inj h')
theorem Zi{H:Hp}{a b:eZ}{o:HO}(h:H a=some o)(h':H b=none):a≠b:=by
 intro e;subst e;rw[h] at h';cases h'
section
variable(P:fA)(w:fB)
def ZM(H:Hp)(h:Heap)(a:eZ):HO->Prop
 | .lst xs=>xs.length<=sizeLine/\∃(its:eU)(n:Nat),ZH xs its/\h.get? a=some {cls:=.type "list", data:=.seq its.toArray n }
 | .tup xs=>xs.length<=sizeLine/\∃its:List eY,ZH xs its/\IsTup h a its.toArray
 | .dK kvs=>kvs.length<=sizeLine/\(a == sysModules)=false/\∃vs,KV kvs vs/\h.DictOf (Y1 P w) a vs
 | .dT kvs=>kvs.length<=sizeLine/\(a == sysModules)=false/\∃xs:List (List ZQ×eZ×eY),
   Paired (fun(p:List ZQ×V) (q:List ZQ×eZ×eY)=>p.1=q.1/\H q.2.1=some (.tup (p.1.map kV))/\ZG p.2 q.2.2) kvs xs /\
   ∃o es ep,h.get? a=some o/\o.ExactDict/\o.data = .dict es ep/\es.toList=xs.map (entryOfKey (tupleKind (Y1 P w)))/\(xs.map (·.1)).Nodup
 | .set S n=>h.SetOf (intKind P w) a S n
 | .ins C dx fs=>H dx=some (.own a)/\fs.length<=1000/\dx≠a/\h.get? a=some (PySem.W.instObj C dx)/\
   ∃mA,h.Ns1 dx mA/\(∀f,YF (fs.lookup f) (mA f))/\PySem.Within mA (fs.map (·.1))
 | .own _=>∃o,h.get? a=some o
 | .xd fs=>∃mA,h.Ns1 a mA/\∀f,YF (fs.lookup f) (mA f)
 | .rng lo hi=>∃t u v,h.get? a=some {cls:=.type "range", data:=.fields #[.int lo t,.int hi u,.int 1 v] }
 | .frz o u=>h.get? a=some o/\ZM H h a u
 | .tbl ps=>∃qs nm t,h.get? a=some {cls:=.none,data:=.fields qs }/\TriplesOk qs.toList/\ps[0]? = some (.str nm t)/\∀pos cv,codeAmong pos qs.toList=some cv->∃c,cv = .ref c/\H c=some (.own a)/\h.CodeRec (.ref c) nm
 | .met f x=>h.get? a=some (PySem.W.methodObj (.ref f) (.ref x))
 | .ext φ=>φ h/\(∃o,h.get? a=some o)/\∀h1 h2:Heap,φ h1->(∀o,h1.get? a=some o->h2.get? a=some o)->φ h2
def YG(H:Hp)(h:Heap):Prop:=∀a o,H a=some o->ZM P w H h a o
end
section
variable{P:fA}{w:fB}{H:Hp}{h h':Heap}{a:eZ}{o:HO}
theorem ZM.lt(x:ZM P w H h a o):a < h.objs.size:=by
 cases o with
 | lst xs=>obtain⟨_,_,_,_,e⟩:=x;exact xP e
 | tup xs=>obtain⟨_,_,_,p⟩:=x;exact p.lt
 | dK kvs=>obtain⟨_,_,_,_,o,_,_,e,_⟩:=x;exact xP e
 | dT kvs=>obtain⟨_,_,_,_,o,_,_,e,_⟩:=x;exact xP e
 | set S n=>obtain⟨o,_,_,_,e,_⟩:=x;exact xP e
 | ins C dx fs=>obtain⟨_,_,_,e,_⟩:=x;exact xP e
 | own y=>obtain⟨_,e⟩:=x;exact xP e
 | xd fs=>obtain⟨_,⟨_,_,_,e,_⟩,_⟩:=x;exact xP e
 | rng lo hi=>obtain⟨_,_,_,e⟩:=x;exact xP e
 | frz ob u=>obtain⟨e,_⟩:=x;exact xP e
 | tbl ps=>obtain⟨_,_,_,e,_⟩:=x;exact xP e
 | met f y=>exact xP (show h.get? a=some _ from x)
 | ext φ=>obtain⟨_,⟨_,e⟩,_⟩:=x;exact xP e
theorem Paired.mapP{α β:Type}{F G : α->β->Prop}:∀{l₁:List α}{l₂:List β},Paired F l₁ l₂->(∀a b,F a b->G a b)->Paired G l₁ l₂
 | _,_,.nil,_=>.nil
 | _,_,.cons r t,f=>.cons (f _ _ r) (Paired.mapP t f)
theorem ZM.stay(x:ZM P w H h a o)(k:∀b u,(b=a\/H b=some (.own a))->h.get? b=some u->h'.get? b=some u)(ho:∀b,H b=some (.own a)->H' b=some (.own a))(ht:∀b xs,H b=some (.tup xs)->H' b=some (.tup xs)):ZM P w H' h' a o:=by
 induction o with
 | lst xs=>obtain⟨z,its,n,r,e⟩:=x;exact⟨z,its,n,r,k _ _ (.inl rfl) e⟩
 | tup xs=>obtain⟨z,its,r,ob,e,c⟩:=x;exact⟨z,its,r,ob,k _ _ (.inl rfl) e,c⟩
 | dK kvs=>obtain⟨z,y,vs,r,ob,es,ep,e,c⟩:=x;exact⟨z,y,vs,r,ob,es,ep,k _ _ (.inl rfl) e,c⟩
 | dT kvs =>
  obtain⟨z,y,xs,r,ob,es,ep,e,c⟩:=x;exact⟨z,y,xs,Paired.mapP r fun p q z=>⟨z.1,ht _ _ z.2.1,z.2.2⟩,ob,es,ep,k _ _ (.inl rfl) e,c⟩
 | set S n=>obtain⟨ob,es,ep,t,e,c⟩:=x;exact⟨ob,es,ep,t,k _ _ (.inl rfl) e,c⟩
 | ins C dx fs =>
  obtain⟨d,z,ne,e,mA,⟨od,es,ep,e2,c⟩,r⟩:=x;exact⟨ho _ d,z,ne,k _ _ (.inl rfl) e,mA,⟨od,es,ep,k _ _ (.inr d) e2,c⟩,r⟩
 | own y=>obtain⟨ob,e⟩:=x;exact⟨ob,k _ _ (.inl rfl) e⟩
 | xd fs=>obtain⟨mA,⟨od,es,ep,e,c⟩,r⟩:=x;exact⟨mA,⟨od,es,ep,k _ _ (.inl rfl) e,c⟩,r⟩
 | rng lo hi=>obtain⟨t,u,v,e⟩:=x;exact⟨t,u,v,k _ _ (.inl rfl) e⟩
 | frz ob u ih=>obtain⟨e,q⟩:=x;exact⟨k _ _ (.inl rfl) e,ih q⟩
 | tbl ps =>
  obtain⟨qs,nm,t,e,z1,z2,z3⟩:=x;refine⟨qs,nm,t,k a _ (.inl rfl) e,z1,z2,fun pos cv ec=>?_⟩;obtain⟨c,e1,e2,c2,oc,vs,tt,e3,e4,e5⟩:=z3 pos cv ec;cases e3;exact⟨c,e1,ho _ e2,c,oc,vs,tt,rfl,k _ _ (.inr e2) e4,e5⟩
 | met f y =>
  have e:h.get? a=some (PySem.W.methodObj (.ref f) (.ref y)):=x;show h'.get? a=some (PySem.W.methodObj (.ref f) (.ref y));exact k a _ (.inl rfl) e
 | ext φ=>obtain⟨p,⟨o,e⟩,st⟩:=x;exact⟨st _ _ p fun o q=>k _ _ (.inl rfl) q,⟨o,k _ _ (.inl rfl) e⟩,st⟩
theorem YG.lt(x:YG P w H h)(e:H a=some o):a < h.objs.size:=(x a o e).lt
theorem YG.fresh(x:YG P w H h)(e:h.objs.size<=a):H a=none:=by
 cases q:H a with
 | none=>rfl
 | some u=>exact absurd (yG (x.lt q) e) (zQ _)
theorem YG.kept(x:YG P w H h)(k:∀b u,h.get? b=some u->h'.get? b=some u):YG P w H h':=fun a o e =>
 (x a o e).stay (fun b u _ q=>k b u q) (fun _ q=>q) fun _ _ q=>q
theorem YG.laid(x:YG P w H h)(k:∀b u,h.get? b=some u->h'.get? b=some u)(hp:h.objs.size<=a)(new:ZM P w (upd H a o) h' a o):YG P w (upd H a o) h':=fun b u e=>by
 have hn:=x.fresh hp
 by_cases hb:b=a
 ·subst hb;rw[Zg] at e;cases e;exact new
 ·rw[Zc hb] at e;exact(x b u e).stay (fun c v _ q=>k c v q) (fun c q=>by rw[Zc (Zi q hn)];exact q) fun c xs q=>by rw[Zc (Zi q hn)];exact q
end
def Rd(H:Hp)(a:eZ)(u:HO):Prop:=H a=some u\/∃o,H a=some (.frz o u)
theorem Rd.ok(r:Rd H a u)(x:YG P w H h):ZM P w H h a u:=by
 rcases r with r | ⟨o,r⟩
 ·exact x a u r
 ·obtain⟨_,q⟩:=x a _ r;exact q
def BM:Option HO->Prop
 | some (.lst _)=>True
 | some (.dK _)=>True
 | some (.dT _)=>True
 | some (.set _ _)=>True
 | some (.ins _ _ _)=>True
 | some (.ext _)=>True
 | _=>False
theorem YG.write(ok:YG P w H h)(mu:BM (H x))(he:e=x\/H e=some (.own x))(k:∀b u,b≠e->h.get? b=some u->h'.get? b=some u)(heo:∃u,h'.get? e=some u)(new:ZM P w (upd H x o') h' x o'):YG P w (upd H x o') h':=fun b u q=>by
 have nown:∀c y,H c=some (.own y)->c≠x:=fun c y r z=>by subst z;rw[r] at mu;exact mu
 have ntup:∀c xs,H c=some (.tup xs)->c≠x:=fun c xs r z=>by subst z;rw[r] at mu;exact mu
 by_cases hb:b=x
 ·subst hb;rw[Zg] at q;cases q;exact new
 ·rw[Zc hb] at q
  by_cases hbe:b=e
  ·have q':H b=some (.own x):=by
    rcases he with z | z
    ·exact absurd (hbe.trans z) hb
    ·rw[hbe];exact z
   rw[q] at q';cases q';obtain⟨v,hv⟩:=heo;exact⟨v,by rw[hbe];exact hv⟩
  ·refine(ok b u q).stay (fun c v hc r=>k c v ?_ r) (fun c r=>by rw[Zc (nown c b r)];exact r) fun c xs r=>by rw[Zc (ntup c xs r)];exact r
   rcases hc with rfl | hc
   ·exact hbe
   ·grind
structure Un (fs ex:eW) (H H':Hp) (h h':Heap):Prop where
 keep:∀b o,h.get? b=some o->H b=none->b∉fs->b∉ex->h'.get? b=some o
 slot:∀b o,h.get? b=some o->H b=none->b∈fs->b∉ex->∃sl,h'.get? b=some {o with slots:=sl }
 free:∀b o,h.get? b=some o->H b=none->b∉ex->H' b=none
 there:∀b o,h.get? b=some o->b∉ex->∃o',h'.get? b=some o'
 tups:∀b xs,H b=some (.tup xs)->H' b=some (.tup xs)
 frzs:∀b o u,H b=some (.frz o u)->H' b=some (.frz o u)
 tbls:∀b ps,H b=some (.tbl ps)->∃more,H' b=some (.tbl (ps++more))
section
variable{fs ex:eW}{H:Hp}{h h':Heap}{a:eZ}{o:HO}
theorem Un.any(u:Un fs ex H H1 h h1)(q:h.get? b=some ob)(n:H b=none)(hx:b∉ex):∃sl,h1.get? b=some {ob with slots:=sl }:=by
 by_cases hb:b∈fs
 ·exact u.slot b ob q n hb hx
 ·exact⟨ob.slots,u.keep b ob q n hb hx⟩
theorem Un.kept(k:∀b u,h.get? b=some u->h'.get? b=some u):Un fs ex H H h h' :=
 ⟨fun b ob q _ _ _=>k b ob q,fun b ob q _ _ _=>⟨ob.slots,k b ob q⟩,fun _ _ _ n _=>n,fun b ob q _=>⟨ob,k b ob q⟩,fun _ _ q=>q,fun _ _ _ q=>q,fun _ ps q=>⟨#[],by rw[q];simp⟩⟩
theorem Un.refl:Un fs ex H H h h:=Un.kept fun _ _ q=>q
theorem Un.laid(k:∀b u,h.get? b=some u->h'.get? b=some u)(hp:h.objs.size<=a)(hn:H a=none):Un fs ex H (upd H a o) h h' where
 keep:=fun b u q _ _ _=>k b u q
 slot:=fun b u q _ _ _=>⟨u.slots,k b u q⟩
 free:=fun b u q n _=>by rw[Zc (yJ (yG (xP q) hp))];exact n
 there:=fun b u q _=>⟨u,k b u q⟩
 tups:=fun b xs q=>by rw[Zc (Zi q hn)];exact q
 frzs:=fun b u xs q=>by rw[Zc (Zi q hn)];exact q
 tbls:=fun b ps q=>⟨#[],by rw[Zc (Zi q hn),q];simp⟩
theorem Un.write(mu:BM (H x))(he:e=x\/H e=some (.own x))(k:∀b u,b≠e->h.get? b=some u->h'.get? b=some u)(heo:∃u,h'.get? e=some u):Un fs ex H (upd H x o) h h':=by
 have hx:∀b,H b=none->b≠x:=fun b n z=>by subst z;rw[n] at mu;exact mu
 have hb:∀b,H b=none->b≠e:=fun b n z=>by
  subst z;rcases he with r | r
  ·exact hx b n r
  ·rw[n] at r;cases r
 have hm:∀b u,H b=some u->¬BM (some u)->b≠x:=fun b u q nm z=>by subst z;rw[q] at mu;exact nm mu
 refine⟨fun b u q n _ _=>k b u (hb b n) q,fun b u q n _ _=>⟨u.slots,k b u (hb b n) q⟩,fun b u q n _=>by rw[Zc (hx b n)];exact n,fun b u q _=>?_,
  fun b xs q=>by rw[Zc (hm b _ q fun z=>z)];exact q,fun b u xs q=>by rw[Zc (hm b _ q fun z=>z)];exact q,fun b ps q=>⟨#[],by rw[Zc (hm b _ q fun z=>z),q];simp⟩⟩
 by_cases hbe:b=e
 ·subst hbe;exact heo
 ·exact⟨u,k b u hbe q⟩
end
def trk(h:Heap)(H:Hp):List eZ:=(List.range h.objs.size).filter fun a=>(H a).isSome
def Jj(h:Heap)(H:Hp):Heap:=PySem.W.hideAll h (trk h H)
theorem eB(h:Heap)(H:Hp):(Jj h H).objs.size=h.objs.size:=PySem.W.hideAll_size _ _
theorem Xa(e:h.get? b=some o)(n:H b=none):(Jj h H).get? b=some o :=
 PySem.W.hideAll_get _ e fun hm=>by
  have q:(H b).isSome=true:=(List.mem_filter.mp hm).2;rw[n] at q;simp at q
theorem Mj(e:(Jj h H).get? b=some o):h.get? b=some o/\H b=none:=by
 have e':h.get? b=some o:=PySem.W.of_hideAll (trk h H) e;refine⟨e',?_⟩;cases q:H b with
 | none=>rfl
 | some x =>
  have hm:b∈trk h H:=List.mem_filter.mpr ⟨List.mem_range.mpr (xP e'),by simp[q]⟩;have z:(Jj h H).get? b=none:=PySem.W.hideAll_none (trk h H) hm;rw[z] at e;cases e
structure Mod (K:uFg) (mg:eR) (base:Heap):Prop where
 kin:K.In base
 glob:base.Ns mainGlobals mg
 blt:∃mb,base.Ns builtinsNs mb/\∀x:Str,x ≠ "__name__" -> mb x=bootBuiltins x
 nolimit:base.NoLimit
/-- the context: a def's body (or a comprehension's block) running. base: fixed through the whole law;s₀,H₀: the entry;outer: the frames whose slots others may change (a def's callers);stack: all frames that run;
   ex: iterators that were made ahead of the entry and are walked here (a comprehension's);fn: the names whose cells were made at the entry (a def: all;a comprehension's block: its own);calm: not within an except suite;pn: pins that every state bears;xe: what is wanted of an exception that leaves the code -/
structure Cx where
 prog:fA
 w:fB
 K:uFg
 mg:Str->Option eY
 base:Heap
 A:fD
 N:List Str
 s₀:eX
 H₀:Hp
 env:Env
 outer:List Env
 stack:List Env
 ex:List eZ
 fn:Str->Bool
 calm:Bool
 pn:List (eZ×Obj)
 xe:eY->eX->Prop
def frs(l:List Env):List eZ:=l.filterMap (·.frame)
abbrev Cx.fs(X:Cx):List eZ:=frs X.outer
def CA(sc:Scope)(x:Str):Prop:=sc.names.lookup x=some .local\/sc.names.lookup x=some .cell\/sc.names.lookup x=some .free
def CW(sc:Scope)(x:Str):Prop:=sc.names.lookup x=some .local\/sc.names.lookup x=some .cell
def OD(env:Env)(h:Heap)(m:eR)(x:Str)(u:eY):Prop :=
 (env.kindOf x=some .local/\m x=some u)\/((env.kindOf x=some .cell\/env.kindOf x=some .free)/\∃c,env.cells.lookup x=some c/\h.IsCell c (some u))
structure Cx.Ok (X:Cx):Prop where
 mod:Mod X.K X.mg X.base
 kind:X.env.scope.kind = .function
 glob:X.env.globals=mainGlobals
 blt:X.env.builtins=builtinsNs
 above:X.s₀.heap.objs.size<=X.env.locals
 inj:∀x y c,X.env.cells.lookup x=some c->X.env.cells.lookup y=some c->x=y
 has:∀x,(X.env.kindOf x=some .cell\/X.env.kindOf x=some .free)->∃c,X.env.cells.lookup x=some c
 cab:∀x c,X.fn x=true->X.env.cells.lookup x=some c->X.s₀.heap.objs.size<=c
 hd:X.calm=true->X.A.handled=none
 frames:X.A.frames=some X.stack
 stk:X.stack=X.outer\/(X.stack=X.env::X.outer/\X.env.frame=some X.env.locals)
 exf:∀b∈X.ex,b≠X.env.locals/\∀x c,X.env.cells.lookup x=some c->c≠b
 bs:∀b o,X.base.get? b=some o->X.s₀.heap.get? b=some o/\X.H₀ b=none
 bsz:X.base.objs.size<=X.s₀.heap.objs.size
 noex:∀b o,X.base.get? b=some o->b∉X.ex
 exfs:∀b∈X.ex,b∉X.fs
 funs:X.s₀.heap.FunFrames X.base X.outer
 frf:∀b∈X.fs,X.H₀ b=none
structure ZD (X:Cx) (pins:List (eZ×Obj)) (σ:List (Option V)) (H:Hp) (s:eX):Prop where
 ok:X.Ok
 os:s.os=X.s₀.os
 bare:AllBare s.gens
 base:Un X.fs X.ex X.H₀ H X.s₀.heap s.heap
 loc:∃m,s.heap.Ns X.env.locals m/\∀(i:Nat)(x:Str)(v:V),X.N[i]? = some x->σ[i]? = some (some v)->CA X.env.scope x->∃u,ZG v u/\OD X.env s.heap m x u
 cell:∀x c,X.env.cells.lookup x=some c->∃v,s.heap.IsCell c v
 free:H X.env.locals=none
 freeC:∀x c,X.env.cells.lookup x=some c->H c=none
 pin:∀p∈X.pn++pins,s.heap.get? p.1=some p.2/\H p.1=none/\p.1≠X.env.locals/\p.1∉X.fs/\∀v,p.2.data ≠ .cell v
 hok:YG X.prog X.w H s.heap
 len : σ.length=X.N.length
section
variable{X:Cx}
theorem Cx.Ok.nofr(ok:X.Ok){b:eZ}{o:Obj}(e:X.base.get? b=some o):b∉X.fs:=fun hb=>by
 have:=(ok.funs.mem hb).1;rw[e] at this;cases this
theorem ZD.bs(I:ZD X pins σ H s):∀b o,X.base.get? b=some o->s.heap.get? b=some o/\H b=none:=fun b o e =>
 ⟨I.base.keep b o (I.ok.bs b o e).1 (I.ok.bs b o e).2 (I.ok.nofr e) (I.ok.noex b o e),I.base.free b o (I.ok.bs b o e).1 (I.ok.bs b o e).2 (I.ok.noex b o e)⟩
theorem ZD.bk(I:ZD X pins σ H s):∀b o,X.base.get? b=some o->s.heap.get? b=some o:=fun b o e=>(I.bs b o e).1
theorem ZD.mod(I:ZD X pins σ H s):Mod X.K X.mg X.base:=I.ok.mod
theorem ZD.kIn(I:ZD X pins σ H s):X.K.In s.heap:=I.ok.mod.kin.keeps I.bk
theorem ZD.lt(I:ZD X pins σ H s):X.env.locals < s.heap.objs.size:=let ⟨_,hn,_⟩:=I.loc;hn.lt
theorem ZD.sz(I:ZD X pins σ H s):X.s₀.heap.objs.size<=s.heap.objs.size:=yK I.ok.above (yX I.lt)
theorem ZD.nofs(I:ZD X pins σ H s){a:eZ}(h:s.heap.objs.size<=a):a∉X.fs:=fun hb=>by
 obtain⟨_,o,ho,_⟩:=I.ok.funs.mem hb;exact absurd (yG (xP ho) (yK I.sz h)) (zQ _)
theorem ZD.cne(I:ZD X pins σ H s):∀x c,X.env.cells.lookup x=some c->c≠X.env.locals:=fun x c e z=>by
 obtain⟨v,o,ho,hd⟩:=I.cell x c e;obtain⟨m,⟨o',es,ep,ho',hd',_⟩,_⟩:=I.loc;rw[z,ho'] at ho;cases ho;rw[hd'] at hd;cases hd
theorem ZD.funs(I:ZD X pins σ H s):s.heap.FunFrames X.base X.outer:=by
 have all:∀(l:List Env),(∀b∈frs l,b∈X.fs)->X.s₀.heap.FunFrames X.base l->s.heap.FunFrames X.base l:=by
  intro l
  induction l with
  | nil=>intro _ _;trivial
  | cons env r ih =>
   intro hs hl;obtain⟨hk,⟨L,o,hf,hn,ho,hd⟩,hr⟩:=hl;have hL:L∈X.fs:=hs L (by unfold frs;rw[List.filterMap_cons,hf];exact xQ);obtain⟨sl,e⟩:=I.base.slot L o ho (I.ok.frf L hL) hL fun z=>I.ok.exfs L z hL;exact⟨hk,⟨L,_,hf,hn,e,hd⟩,ih (fun b hb=>hs b (by unfold frs;rw[List.filterMap_cons,hf];exact xG _ hb)) hr⟩
 exact all X.outer (fun _ hb=>hb) I.ok.funs
theorem ZD.stack(I:ZD X pins σ H s):s.heap.FunFrames X.base X.stack:=by
 rcases I.ok.stk with e | ⟨e,hf⟩
 ·rw[e];exact I.funs
 ·rw[e];obtain⟨m,hn,_⟩:=I.loc;refine .cons (by rw[I.ok.kind];decide) hf hn ?_ I.funs;exact Heap.get?_none_of_le (yK I.ok.bsz I.ok.above)
theorem ZD.stkSub(I:ZD X pins σ H s):∀b∈frs X.stack,b∈X.env.locals::X.fs:=fun b hb=>by
 rcases I.ok.stk with e | ⟨e,hf⟩
 ·rw[e] at hb;exact xG _ hb
 ·rw[e] at hb;unfold frs at hb;rw[List.filterMap_cons,hf] at hb;exact hb
theorem ZD.stkFree(I:ZD X pins σ H s):∀b∈frs X.stack,H b=none:=fun b hb=>by
 rcases xC.mp (I.stkSub b hb) with e | hb
 ·rw[e];exact I.free
 ·obtain⟨_,o,ho,_⟩:=I.ok.funs.mem hb;exact I.base.free b o ho (I.ok.frf b hb) fun z=>I.ok.exfs b z hb
theorem ZD.step{g':Array GenState}{t':Nat}{d':Drawn}{ch:eW}(I:ZD X pins σ H s)(hch:∀b∈ch,(b∈X.ex\/X.s₀.heap.objs.size<=b)/\b≠X.env.locals/\(∀x c,X.env.cells.lookup x=some c->c≠b)/\∀p∈X.pn++pins,p.1≠b)(keep:∀b o,b≠X.env.locals->b∉X.fs->b∉ch->s.heap.get? b=some o->H b=none->h'.get? b=some o)(slot:∀b o,b≠X.env.locals->b∈X.fs->b∉ch->s.heap.get? b=some o->H b=none->∃sl,h'.get? b=some {o with slots:=sl })(free:∀b o,b∉ch->s.heap.get? b=some o->H b=none->H' b=none)(there:∀b o,b∉ch->s.heap.get? b=some o->∃o',h'.get? b=some o')(tups:∀b xs,H b=some (.tup xs)->H' b=some (.tup xs))(frzs:∀b o u,H b=some (.frz o u)->H' b=some (.frz o u))(tbls:∀b ps,H b=some (.tbl ps)->∃more,H' b=some (.tbl (ps++more)))(ns:∀m,s.heap.Ns X.env.locals m->h'.Ns X.env.locals m)(hok:YG X.prog X.w H' h')(hg:AllBare g') :
  ZD X pins σ H' {s with heap:=h',gens:=g',drawn:=d',toks:=t' }:=by
 have neL:∀b o,X.s₀.heap.get? b=some o->b≠X.env.locals:=fun b o e=>yJ (yG (xP e) I.ok.above);have neC:∀b o,X.s₀.heap.get? b=some o->b∉X.ex->b∉ch:=fun b o e hx hb=>by
  rcases(hch b hb).1 with z | z
  ·exact hx z
  ·exact absurd (yG (xP e) z) (zQ _)
 have cellK:∀x c,X.env.cells.lookup x=some c->∀v,s.heap.IsCell c v->h'.IsCell c v:=fun x c e v ⟨o,ho,hd⟩=>by
  have nch:c∉ch:=fun z=>(hch c z).2.2.1 x c e rfl
  by_cases hc:c∈X.fs
  ·obtain⟨sl,q⟩:=slot c o (I.cne x c e) hc nch ho (I.freeC x c e);exact⟨_,q,hd⟩
  ·exact⟨o,keep c o (I.cne x c e) hc nch ho (I.freeC x c e),hd⟩
 refine⟨I.ok,I.os,hg,⟨fun b o e n hb hx=>?_,fun b o e n hb hx=>?_,fun b o e n hx=>?_,fun b o e hx=>?_,fun b xs e=>tups b xs (I.base.tups b xs e),fun b o xs e=>frzs b o xs (I.base.frzs b o xs e),fun b ps e=>?_⟩,?_,fun x c e=>?_,?_,fun x c e=>?_,fun p hp=>?_,hok,I.len⟩
 ·exact keep b o (neL b o e) hb (neC b o e hx) (I.base.keep b o e n hb hx) (I.base.free b o e n hx)
 ·obtain⟨sl,e1⟩:=I.base.slot b o e n hb hx;obtain⟨sl',e2⟩:=slot b _ (neL b o e) hb (neC b o e hx) e1 (I.base.free b o e n hx);exact⟨sl',e2⟩
 ·obtain⟨o',e1⟩:=I.base.there b o e hx;exact free b o' (neC b o e hx) e1 (I.base.free b o e n hx)
 ·obtain⟨o',e1⟩:=I.base.there b o e hx;exact there b o' (neC b o e hx) e1
 ·obtain⟨m1,e1⟩:=I.base.tbls b ps e;obtain⟨m2,e2⟩:=tbls b _ e1;exact⟨m1++m2,by rw[e2,Array.append_assoc]⟩
 ·obtain⟨m,hn,hl⟩:=I.loc;refine⟨m,ns m hn,fun i x v e1 e2 e3=>?_⟩;obtain⟨u,r,l⟩:=hl i x v e1 e2 e3;refine⟨u,r,?_⟩;rcases l with l | ⟨k,c,e,z⟩
  ·exact .inl l
  ·exact .inr ⟨k,c,e,cellK x c e _ z⟩
 ·obtain⟨v,z⟩:=I.cell x c e;exact⟨v,cellK x c e v z⟩
 ·obtain⟨m,⟨o,_,_,ho,_⟩,_⟩:=I.loc;exact free _ o (fun z=>(hch _ z).2.1 rfl) ho I.free
 ·obtain⟨v,o,ho,hd⟩:=I.cell x c e;exact free c o (fun z=>(hch c z).2.2.1 x c e rfl) ho (I.freeC x c e)
 ·obtain⟨e,n,ne,nf,d⟩:=I.pin p hp;have nch:p.1∉ch:=fun z=>(hch p.1 z).2.2.2 p hp rfl;exact⟨keep p.1 p.2 ne nf nch e n,free p.1 p.2 nch e n,ne,nf,d⟩
theorem ZD.un(I:ZD X pins σ H s)(u:Un X.fs [] H H' s.heap h')(hok:YG X.prog X.w H' h'):ZD X pins σ H' {s with heap:=h',toks:=t' }:=by
 obtain⟨m,⟨o,es,ep,ho,r⟩,_⟩:=id I.loc;obtain⟨sl,hL⟩:=u.any ho I.free (by simp)
 exact I.step (g':=s.gens) (d':=s.drawn) (ch:=[]) (fun _ z=>nomatch z) (fun b o _ hb _ e n=>u.keep b o e n hb (by simp)) (fun b o _ hb _ e n=>u.slot b o e n hb (by simp)) (fun b o _ e n=>u.free b o e n (by simp)) (fun b o _ e=>u.there b o e (by simp)) u.tups u.frzs u.tbls (fun m' hm=>by
  obtain⟨o',es',ep',ho',r'⟩:=hm;rw[ho] at ho';cases ho'
  exact⟨_,es',ep',hL,r'⟩) hok I.bare
theorem ZD.call(I:ZD X pins σ H s)(u:Un (frs X.stack) ch H H' s.heap h')(hok:YG X.prog X.w H' h')(hg:AllBare g')(hch:∀b∈ch,(b∈X.ex\/X.s₀.heap.objs.size<=b)/\b≠X.env.locals/\(∀x c,X.env.cells.lookup x=some c->c≠b)/\∀p∈X.pn++pins,p.1≠b) :
  ZD X pins σ H' {s with heap:=h',gens:=g',drawn:=d',toks:=t' }:=by
 obtain⟨m,⟨o,es,ep,ho,r⟩,_⟩:=id I.loc;obtain⟨sl,hL⟩:=u.any ho I.free fun z=>(hch _ z).2.1 rfl
 exact I.step (ch:=ch) hch (fun b o hL hb hc e n=>u.keep b o e n (fun z=>(xC.mp (I.stkSub b z)).elim hL hb) hc) (fun b o _ _ hc e n=>u.any e n hc) (fun b o hc e n=>u.free b o e n hc) (fun b o hc e=>u.there b o e hc) u.tups u.frzs u.tbls (fun m' hm=>by
  obtain⟨o',es',ep',ho',r'⟩:=hm;rw[ho] at ho';cases ho'
  exact⟨_,es',ep',hL,r'⟩) hok hg
theorem ZD.turned(I:ZD X pins σ H s)(k:∀b o,b≠it->s.heap.get? b=some o->h'.get? b=some o)(hn:H it=none)(hL:it≠X.env.locals)(h1:it∈X.ex\/X.s₀.heap.objs.size<=it)(h2:∀x c,X.env.cells.lookup x=some c->c≠it)(h3:∀p∈X.pn++pins,p.1≠it):ZD X pins σ H {s with heap:=h',toks:=t' }:=by
 have nit:∀b u,H b=some u->b≠it:=fun b u e z=>by rw[z,hn] at e;cases e
 refine I.step (g':=s.gens) (d':=s.drawn) (ch:=[it]) (fun b hb=>?_) (fun b o _ _ hc e _=>k b o (fun z=>hc (by simp[z])) e) (fun b o _ _ hc e _=>⟨o.slots,k b o (fun z=>hc (by simp[z])) e⟩) (fun _ _ _ _ n=>n)
  (fun b o hc e=>⟨o,k b o (fun z=>hc (by simp[z])) e⟩) (fun _ _ e=>e) (fun _ _ _ e=>e) (fun b ps e=>⟨#[],by rw[e];simp⟩) (fun m hm=>?_) (fun b u e=>?_) I.bare
 ·have e:b=it:=by simpa using hb
  subst e;exact⟨h1,hL,h2,h3⟩
 ·obtain⟨o,es,ep,ho,r⟩:=hm;exact⟨o,es,ep,k _ o (Ne.symm hL) ho,r⟩
 ·refine(I.hok b u e).stay (fun c v hc q=>k c v ?_ q) (fun _ q=>q) fun _ _ q=>q;rcases hc with z | z
  ·rw[z];exact nit b u e
  ·exact nit c _ z
theorem ZD.tok(I:ZD X pins σ H s)(t:Nat):ZD X pins σ H {s with toks:=t }:=I.un (h':=s.heap) (t':=t) Un.refl I.hok
theorem ZD.kept(I:ZD X pins σ H s)(k:∀b u,s.heap.get? b=some u->h'.get? b=some u):ZD X pins σ H {s with heap:=h',toks:=t' }:=I.un (Un.kept k) (I.hok.kept k)
theorem ZD.laid{a:eZ}{o:HO}{t':Nat}(I:ZD X pins σ H s)(k:∀b u,s.heap.get? b=some u->h'.get? b=some u)(hp:s.heap.objs.size<=a)(new:ZM X.prog X.w (upd H a o) h' a o) :
  ZD X pins σ (upd H a o) {s with heap:=h',toks:=t' }:=I.un (Un.laid k hp (I.hok.fresh hp)) (I.hok.laid k hp new)
theorem ZD.write(I:ZD X pins σ H s)(mu:BM (H x))(he:e=x\/H e=some (.own x))(k:∀b u,b≠e->s.heap.get? b=some u->h'.get? b=some u)(heo:∃u,h'.get? e=some u)(new:ZM X.prog X.w (upd H x o) h' x o):ZD X pins σ (upd H x o) {s with heap:=h',toks:=t' }:=I.un (Un.write mu he k heo) (I.hok.write mu he k heo new)
theorem ZD.pins_of(I:ZD X pins σ H s)(h:∀p∈pins',s.heap.get? p.1=some p.2/\H p.1=none/\p.1≠X.env.locals/\p.1∉X.fs/\∀v,p.2.data ≠ .cell v):ZD X pins' σ H s :=
 ⟨I.ok,I.os,I.bare,I.base,I.loc,I.cell,I.free,I.freeC,fun p hp=>(xI.mp hp).elim (fun z=>I.pin p (yQ _ z)) (h p),I.hok,I.len⟩
theorem EB{N:eS}(hN:N.Nodup){i j:Nat}{x:Str}(a:N[i]? = some x)(b:N[j]? = some x):i=j:=by
 obtain⟨h1,e1⟩:=xY.mp a;obtain⟨h2,e2⟩:=xY.mp b;exact(List.getElem_inj hN).mp (e1.trans e2.symm)
theorem RH(I:ZD X pins σ H s)(hN:X.N.Nodup)(hi:X.N[i]? = some x)(hx:CW X.env.scope x)(r:ZG v u)(h:∀s',ZD X pins (σ.set i (some v)) H s'->(∃a,Heap.SameBut a s.heap s'.heap/\(a=X.env.locals\/X.env.cells.lookup x=some a))->Q () s')(hf:X.fn x=true\/X.env.scope.names.lookup x=some .local:=by first | exact .inl rfl | exact .inr rfl | assumption):wpAny M A (storeName X.env x u) Q E s:=by
 obtain⟨m,hn,hl⟩:=id I.loc;have hcls:(X.env.scope.kind == .class || (X.env.scope.kind == .module && X.env.locals != X.env.globals))=false:=by rw[I.ok.kind];rfl
 have hiσ:i < σ.length:=by rw[I.len];exact(xY.mp hi).1
 have cne:=I.cne;have tracked:∀{a:eZ}{h':Heap},(∃o,s.heap.get? a=some o/\H a=none)->Heap.SameBut a s.heap h'->YG X.prog X.w H h':=fun {a h'} ha hs b ob e=>by
  obtain⟨_,_,hfree⟩:=ha;refine(I.hok b ob e).stay (fun c w' hc q=>(hs.2 c ?_).trans q) (fun _ q=>q) fun _ _ q=>q;rintro rfl;rcases hc with rfl | hc
  ·rw[hfree] at e;cases e
  ·rw[hfree] at hc;cases hc
 rcases hx with hk | hk
 ·refine wpAny_storeName_local hk hn (fun h' hn' hs=>?_) hcls;obtain⟨oL,_,_,hoL,_⟩:=id hn;refine h _ ⟨I.ok,I.os,I.bare,⟨fun b o e n hb hx=>?_,fun b o e n hb hx=>?_,I.base.free,fun b o e hx=>?_,I.base.tups,I.base.frzs,I.base.tbls⟩,⟨_,hn',fun j y v' e1 e2 e3=>?_⟩,fun y c e=>?_,I.free,I.freeC,fun p hp=>?_,tracked ⟨oL,hoL,I.free⟩ hs,by simpa using I.len⟩ ⟨_,hs,.inl rfl⟩
  ·exact(hs.2 b (yJ (yG (xP e) I.ok.above))).trans (I.base.keep b o e n hb hx)
  ·obtain⟨sl,e1⟩:=I.base.slot b o e n hb hx;exact⟨sl,(hs.2 b (yJ (yG (xP e) I.ok.above))).trans e1⟩
  ·obtain⟨o',e1⟩:=I.base.there b o e hx;exact⟨o',(hs.2 b (yJ (yG (xP e) I.ok.above))).trans e1⟩
  ·by_cases hj:j=i
   ·subst hj;rw[hi] at e1;cases e1;rw[List.getElem?_set_self hiσ] at e2;cases e2;exact⟨u,r,.inl ⟨hk,by simp⟩⟩
   ·rw[List.getElem?_set_ne (Ne.symm hj)] at e2;obtain⟨u',r',q⟩:=hl j y v' e1 e2 e3;refine⟨u',r',?_⟩;rcases q with⟨k,e⟩ | ⟨k,c,e,z⟩
    ·refine .inl ⟨k,?_⟩;have:y≠x:=fun e=>hj (EB hN e1 (e▸hi));simp[this,e]
    ·exact .inr ⟨k,c,e,z.sameBut hs (cne y c e)⟩
  ·obtain⟨w',z⟩:=I.cell y c e;exact⟨w',z.sameBut hs (cne y c e)⟩
  ·obtain⟨e,n,ne,nf,d⟩:=I.pin p hp;exact⟨(hs.2 p.1 ne).trans e,n,ne,nf,d⟩
 ·have hfn:X.fn x=true:=by
   rcases hf with z | z
   ·exact z
   ·rw[z] at hk;cases hk
  obtain⟨c,hc⟩:=I.ok.has x (.inl hk);obtain⟨w',z⟩:=I.cell x c hc;refine wpAny_storeName_cell I.ok.kind hk hc z (fun h' hc' hs=>?_);obtain⟨oc,hoc,hocd⟩:=id z;refine h {s with heap:=h' } ⟨I.ok,I.os,I.bare,⟨fun b o e n hb hx=>?_,fun b o e n hb hx=>?_,I.base.free,fun b o e hx=>?_,I.base.tups,I.base.frzs,I.base.tbls⟩,⟨m,hn.sameBut hs (Ne.symm (cne x c hc)),fun j y v' e1 e2 e3=>?_⟩,fun y c' e=>?_,I.free,I.freeC,fun p hp=>?_,tracked ⟨oc,hoc,I.freeC x c hc⟩ hs,by simpa using I.len⟩ ⟨c,hs,.inr hc⟩
  ·exact(hs.2 b (yJ (yG (xP e) (I.ok.cab x c hfn hc)))).trans (I.base.keep b o e n hb hx)
  ·obtain⟨sl,e1⟩:=I.base.slot b o e n hb hx;exact⟨sl,(hs.2 b (yJ (yG (xP e) (I.ok.cab x c hfn hc)))).trans e1⟩
  ·obtain⟨o',e1⟩:=I.base.there b o e hx;exact⟨o',(hs.2 b (yJ (yG (xP e) (I.ok.cab x c hfn hc)))).trans e1⟩
  ·by_cases hj:j=i
   ·subst hj;rw[hi] at e1;cases e1;rw[List.getElem?_set_self hiσ] at e2;cases e2;exact⟨u,r,.inr ⟨.inl hk,c,hc,hc'⟩⟩
   ·rw[List.getElem?_set_ne (Ne.symm hj)] at e2;obtain⟨u',r',q⟩:=hl j y v' e1 e2 e3;refine⟨u',r',?_⟩;rcases q with q | ⟨k,c',e,z'⟩
    ·exact .inl q
    ·refine .inr ⟨k,c',e,z'.sameBut hs ?_⟩;rintro rfl;exact hj (EB hN e1 (I.ok.inj _ _ _ e hc▸hi))
  ·by_cases hcc:c'=c
   ·subst hcc;exact⟨_,hc'⟩
   ·obtain⟨w2,z2⟩:=I.cell y c' e;exact⟨w2,z2.sameBut hs hcc⟩
  ·obtain⟨e,n,ne,nf,d⟩:=I.pin p hp;refine⟨(hs.2 p.1 ?_).trans e,n,ne,nf,d⟩;intro q;rw[q,hoc] at e;have q':oc=p.2:=Option.some.inj e;exact d w' (by rw[← q'];exact hocd)
theorem AQ(I:ZD X pins σ H s)(hN:X.N.Nodup)(hi:X.N[i]? = some x)(hx:CW X.env.scope x)(r:ZG v u)(h:∀s',ZD X pins (σ.set i (some v)) H s'->Q () s')(hf:X.fn x=true\/X.env.scope.names.lookup x=some .local:=by first | exact .inl rfl | exact .inr rfl | assumption):wpAny M A (storeName X.env x u) Q E s :=
 RH I hN hi hx r (fun s' I' _=>h s' I') hf
theorem ZD.call'(I:ZD X pins σ H s)(ho:s'.os=s.os)(u:Un (frs X.stack) ch H H' s.heap s'.heap)(hok:YG X.prog X.w H' s'.heap)(hg:AllBare s'.gens)(hch:∀b∈ch,(b∈X.ex\/X.s₀.heap.objs.size<=b)/\b≠X.env.locals/\(∀x c,X.env.cells.lookup x=some c->c≠b)/\∀p∈X.pn++pins,p.1≠b):ZD X pins σ H' s':=by
 obtain⟨h',g',d',t',o'⟩:=s';have e:o'=s.os:=ho;subst e;exact I.call (g':=g') (t':=t') (d':=d') u hok hg hch
end
abbrev XK:=eY->Option eZ->Hp->Prop
abbrev St:=List (Option V)
abbrev VK:=V->Hp->Prop
abbrev TE:=St->Hp->VK->Prop
abbrev TT:=St->Hp->(Bool->Hp->Prop)->Prop
abbrev TA:=St->Hp->(List V->Hp->Prop)->Prop
structure ZW where
 nx:St->Hp->Prop
 rt:VK
 bk:St->Hp->Prop:=fun _ _=>False
 ct:St->Hp->Prop:=fun _ _=>False
abbrev TS:=ZW->St->Hp->Prop
def EP(X:Cx)(pins:List (eZ×Obj))(σ:St)(Q:VK)(u:eY)(s':eX):Prop:=∃v H',ZD X pins σ H' s'/\ZG v u/\Q v H'
def TP(X:Cx)(pins:List (eZ×Obj))(σ:St)(Q:Bool->Hp->Prop)(b:Bool)(s':eX):Prop:=∃H',ZD X pins σ H' s'/\Q b H'
def AP(X:Cx)(pins:List (eZ×Obj))(σ:St)(Q:List V->Hp->Prop)(us:eU)(s':eX):Prop:=∃vs H',ZD X pins σ H' s'/\ZH vs us/\Q vs H'
def SP(X:Cx)(pins:List (eZ×Obj))(D:ZW)(f:Flow)(s':eX):Prop :=
 match f with
 | .next=>∃ σ' H',ZD X pins σ' H' s'/\D.nx σ' H'
 | .brk=>∃ σ' H',ZD X pins σ' H' s'/\D.bk σ' H'
 | .cont=>∃ σ' H',ZD X pins σ' H' s'/\D.ct σ' H'
 | .ret u=>∃v σ' H',ZD X pins σ' H' s'/\ZG v u/\D.rt v H'
def PE(X:Cx)(e:Expr)(t:TE):Prop :=
 ∀(pins:List (eZ×Obj))(s:eX)(σ:St)(H:Hp)(Q:VK),ZD X pins σ H s->t σ H Q->wpAny (model X.prog X.w) X.A (eval e X.env) (EP X pins σ Q) X.xe s
def PT(X:Cx)(e:Expr)(t:TT):Prop :=
 ∀(pins:List (eZ×Obj))(s:eX)(σ:St)(H:Hp)(Q:Bool->Hp->Prop),ZD X pins σ H s->t σ H Q->wpAny (model X.prog X.w) X.A (isTrue e X.env (eval e X.env)) (TP X pins σ Q) X.xe s
def PW(X:Cx)(e:Expr)(t:TT):Prop :=
 ∀(whole:Sem eY)(pins:List (eZ×Obj))(s:eX)(σ:St)(H:Hp)(Q:Bool->Hp->Prop),ZD X pins σ H s->t σ H Q->wpAny (model X.prog X.w) X.A (isTrue e X.env whole) (TP X pins σ Q) X.xe s
theorem PW.pt(h:PW X e t):PT X e t:=h _
def PA(X:Cx)(es:List Expr)(t:TA):Prop :=
 ∀(pos:Pos)(pins:List (eZ×Obj))(s:eX)(σ:St)(H:Hp)(Q:List V->Hp->Prop),ZD X pins σ H s->t σ H Q->wpAny (model X.prog X.w) X.A (spliced (backTo pos (starEach es X.env))) (AP X pins σ Q) X.xe s
def PS(X:Cx)(st:Stmt)(t:TS):Prop :=
 ∀(pins:List (eZ×Obj))(s:eX)(σ:St)(H:Hp)(D:ZW),ZD X pins σ H s->t D σ H->wpAny (model X.prog X.w) X.A (exec st X.env) (SP X pins D) X.xe s
def Ae(X:Cx)(st:List Stmt)(t:TS):Prop :=
 ∀(pins:List (eZ×Obj))(s:eX)(σ:St)(H:Hp)(D:ZW),ZD X pins σ H s->t D σ H->wpAny (model X.prog X.w) X.A (execs st X.env) (SP X pins D) X.xe s
theorem thn{α:Type}{t:Sem α}{Q Q' : α->eX->Prop}(h:wpAny M A t Q E s)(hQ:∀a s,Q a s->Q' a s):wpAny M A t Q' E s:=wpAny_mono h hQ fun _ _ x=>x
section
variable{X:Cx}
inductive YC(i:Nat)(σ:St)(H:Hp)(Q:VK):Prop
 |mk(v)(_:σ[i]? = some (some v))(_:Q v H)
def tC(v:V):TE:=fun _ H Q=>Q v H
theorem C9{i:Nat}{x:Str}{pos:Pos}(hN:X.N[i]? = some x)(hv:CA X.env.scope x)(hd:(x == ("__debug__" : Str))=false:=by decide)(hcd:(x == ("__classdict__" : Str))=false:=by decide):PE X (.Name x pos) (YC i):=by
 intro pins s σ H Q I h;obtain⟨v,e,h⟩:=h;obtain⟨m,hn,hl⟩:=I.loc;obtain⟨u,r,l⟩:=hl i x v hN e hv;have fin:EP X pins σ Q u s:=⟨v,H,I,r,h⟩;rcases l with⟨hk,hm⟩ | ⟨hk,c,hc,hcell⟩
 ·exact wpAny_Name (wpAny_loadName_local I.ok.kind hk hn hm fin) hd
 ·rcases hk with hk | hk
  ·exact wpAny_Name (wpAny_loadName_cell I.ok.kind hk hc hcell fin) hd
  ·exact wpAny_Name (wpAny_loadName_free I.ok.kind hk hc hcell fin hcd) hd
def Gl(X:Cx)(x:Str):Prop:=X.env.kindOf x=some .globalImplicit
theorem Am{E:eQ}{pins:List (eZ×Obj)}{s:eX}{σ:St}{H:Hp}{x:Str}{u:eY}{pos:Pos}{Q:eQ}(I:ZD X pins σ H s)(hg:Gl X x)(hm:X.mg x=some u)(h:Q u s)(hd:(x == ("__debug__" : Str))=false:=by decide):wpAny (model X.prog X.w) X.A (eval (.Name x pos) X.env) Q E s :=
 Calls.Name_function_global I.ok.kind hg (Calls.loadGlobal_global (by rw[I.ok.glob];exact I.mod.glob.keeps I.bk) hm h) hd
theorem Ui{E:eQ}{pins:List (eZ×Obj)}{s:eX}{σ:St}{H:Hp}{x:Str}{u:eY}{pos:Pos}{Q:eQ}(I:ZD X pins σ H s)(hg:Gl X x)(hm:X.mg x=none)(hv:bootBuiltins x=some u)(h:Q u s)(hn:x ≠ "__name__" := by decide)(hd:(x == ("__debug__" : Str))=false:=by decide):wpAny (model X.prog X.w) X.A (eval (.Name x pos) X.env) Q E s:=by
 obtain⟨mb,h1,h2⟩:=I.mod.blt;exact Calls.Name_function_global I.ok.kind hg (Calls.loadGlobal_builtin (by rw[I.ok.glob];exact I.mod.glob.keeps I.bk) hm (by rw[I.ok.blt];exact h1.keeps I.bk) ((h2 x hn).trans hv) h) hd
theorem M9(hg:Gl X x)(hm:X.mg x=some u)(r:ZG v u)(hd:(x == ("__debug__" : Str))=false:=by decide):PE X (.Name x pos) (tC v) :=
 fun _ _ _ H _ I h=>Am I hg hm ⟨v,H,I,r,h⟩ hd
theorem PY{x:Str}{v:V}{u:eY}{pos:Pos}(hg:Gl X x)(hm:X.mg x=none)(hv:bootBuiltins x=some u)(r:ZG v u)(hn:x ≠ "__name__" := by decide)(hd:(x == ("__debug__" : Str))=false:=by decide):PE X (.Name x pos) (tC v) :=
 fun _ _ _ H _ I h=>Ui I hg hm hv ⟨v,H,I,r,h⟩ hn hd
variable{a b:Expr}{ta tb:TE}{pos:Pos}
inductive cF(Q:Bool->Hp->Prop)(x:V)(H1:Hp):Prop
 |mk(c)(_:x = .bl c)(_:Q c H1)
def tB(t:TE):TT:=fun σ H Q=>t σ H fun x H1=>cF Q x H1
variable{tA tB':TT}{rest:List Expr}
def Nv(t u:TT):TT:=fun σ H Q=>t σ H fun c H1=>if c=true then u σ H1 Q else Q false H1
def Xr(t u:TT):TT:=fun σ H Q=>t σ H fun c H1=>if c=true then Q true H1 else u σ H1 Q
def Ru(t:TT):TT:=fun σ H Q=>t σ H fun c H1=>Q (!c) H1
inductive JF(tb:TE)(σ:St)(Q:VK)(x:V)(H1:Hp):Prop
 |mk(c)(_:x = .bl c)(_:if c=true then tb σ H1 Q else Q (.bl false) H1)
def PV(ta tb:TE):TE:=fun σ H Q=>ta σ H fun x H1=>JF tb σ Q x H1
inductive Bk(tb:TE)(σ:St)(Q:VK)(x:V)(H1:Hp):Prop
 |mk(c)(_:x = .bl c)(_:if c=true then Q (.bl true) H1 else tb σ H1 Q)
def Qi(ta tb:TE):TE:=fun σ H Q=>ta σ H fun x H1=>Bk tb σ Q x H1
inductive JO(Q:VK)(x:V)(H1:Hp):Prop
 |mk(c)(_:x = .bl c)(_:Q (.bl (!c)) H1)
def M5(ta:TE):TE:=fun σ H Q=>ta σ H fun x H1=>JO Q x H1
theorem Qr {op} (h:PE X a t):PE X (.BoolOp op [a] pos) t:=fun pins s σ H Q I hw=>BoolOp_one (h pins s σ H Q I hw)
def NR(t:TT)(ta tb:TE):TE:=fun σ H Q=>t σ H fun c H1=>if c=true then ta σ H1 Q else tb σ H1 Q
end
def ZF(K:uFg)(H:Hp)(a:eZ)(xs:aG):Prop :=
 Rd H a (.lst xs)\/
  ∃o its n,K.lookup a=some o/\o.cls = .type "list" /\ o.dict=none/\o.data = .seq its n/\its.size<=sizeLine/\ZH xs its.toList
def ZT(K:uFg)(H:Hp)(a:eZ)(xs:aG):Prop :=
 Rd H a (.tup xs)\/
  ∃o its n,K.lookup a=some o/\o.cls = .type "tuple" /\ o.data = .seq its n/\its.size<=sizeLine/\ZH xs its.toList
def bE:eY->Option V
 | .none=>some .non
 | .bool b=>some (.bl b)
 | .int i _=>some (.int i)
 | .str x _=>some (.str x)
 | .bytes b _=>some (.byt b)
 | .float b _=>some (.flt b)
 | .ref a=>some (.ref a)
 | .type n=>some (.ty n)
 | _=>none
theorem ZG.abs(r:ZG x u):bE u=some x:=by
 cases x with
 | non=>cases r;rfl
 | bl _=>cases r;rfl
 | int _=>obtain⟨t,rfl⟩:=r;rfl
 | str _=>obtain⟨t,rfl⟩:=r;rfl
 | byt _=>obtain⟨t,rfl⟩:=r;rfl
 | flt _=>obtain⟨t,rfl⟩:=r;rfl
 | ref _=>cases r;rfl
 | ty _=>cases r;rfl
theorem ZG.inj(r:ZG x u)(q:ZG y u):x=y:=Option.some.inj (r.abs.symm.trans q.abs)
theorem ZH.inj:∀{xs ys:aG}{us:eU},ZH xs us->ZH ys us->xs=ys
 | _,_,_,.nil,.nil=>rfl
 | _,_,_,.cons r t,.cons r' t'=>by rw[r.inj r',ZH.inj t t']
section
variable{X:Cx}{pins:List (eZ×Obj)}{σ:St}{H:Hp}{s:eX}{a:eZ}{xs ys:aG}
theorem ZF.of{K:uFg}(h:H a=some (.lst xs)):ZF K H a xs:=.inl (.inl h)
theorem ZT.of{K:uFg}(h:H a=some (.tup xs)):ZT K H a xs:=.inl (.inl h)
theorem ZD.list(I:ZD X pins σ H s)(h:ZF X.K H a xs):∃its:List eY,ZH xs its/\PlainL s.heap a its.toArray/\xs.length<=sizeLine:=by
 rcases h with h | ⟨o,its,n,hk,hc,hd,hs,hz,r⟩
 ·obtain⟨z,its,n,r,e⟩:=h.ok I.hok;exact⟨its,r,⟨_,n,e,rfl,rfl,rfl⟩,z⟩
 ·refine⟨its.toList,r,⟨o,n,I.kIn a o hk,hc,hd,by simpa using hs⟩,?_⟩;have e:=r.length;simp only[Array.length_toList] at e;lia
theorem ZD.tuple(I:ZD X pins σ H s)(h:ZT X.K H a xs):∃its:List eY,ZH xs its/\IsTup s.heap a its.toArray/\xs.length<=sizeLine:=by
 rcases h with h | ⟨o,its,n,hk,hc,hs,hz,r⟩
 ·obtain⟨z,its,r,p⟩:=h.ok I.hok;exact⟨its,r,p,z⟩
 ·refine⟨its.toList,r,⟨o,I.kIn a o hk,hc,n,by simpa using hs⟩,?_⟩;have e:=r.length;simp only[Array.length_toList] at e;lia
theorem ZD.list_inj(I:ZD X pins σ H s)(h:ZF X.K H a xs)(h':ZF X.K H a ys):xs=ys:=by
 obtain⟨its,r,⟨o,n,e,_,_,d⟩,_⟩:=I.list h;obtain⟨its',r',⟨o',n',e',_,_,d'⟩,_⟩:=I.list h';rw[e] at e';cases e';rw[d] at d';injection d' with d1 _
 have:its=its':=by simpa using congrArg Array.toList d1
 subst this;exact r.inj r'
theorem ZD.tuple_inj(I:ZD X pins σ H s)(h:ZT X.K H a xs)(h':ZT X.K H a ys):xs=ys:=by
 obtain⟨its,r,⟨o,e,_,n,d⟩,_⟩:=I.tuple h;obtain⟨its',r',⟨o',e',_,n',d'⟩,_⟩:=I.tuple h';rw[e] at e';cases e';rw[d] at d';injection d' with d1 _
 have:its=its':=by simpa using congrArg Array.toList d1
 subst this;exact r.inj r'
end
abbrev Cx.wish(X:Cx)(E:eQ):Cx:={X with xe:=E }
abbrev Cx.nox(X:Cx):Cx:=X.wish fun _ _=>False
theorem Cx.Ok.wish{X:Cx}(ok:X.Ok)(E:eQ):(X.wish E).Ok :=
 ⟨ok.mod,ok.kind,ok.glob,ok.blt,ok.above,ok.inj,ok.has,ok.cab,ok.hd,ok.frames,ok.stk,ok.exf,ok.bs,ok.bsz,ok.noex,ok.exfs,ok.funs,ok.frf⟩
theorem Cx.Ok.unwish{X:Cx}{E:eQ}(ok:(X.wish E).Ok):X.Ok :=
 ⟨ok.mod,ok.kind,ok.glob,ok.blt,ok.above,ok.inj,ok.has,ok.cab,ok.hd,ok.frames,ok.stk,ok.exf,ok.bs,ok.bsz,ok.noex,ok.exfs,ok.funs,ok.frf⟩
section
variable{X:Cx}{pins:List (eZ×Obj)}{σ:St}{H:Hp}{s:eX}{E:eQ}
theorem ZD.wish(I:ZD X pins σ H s)(E:eQ):ZD (X.wish E) pins σ H s:=⟨I.ok.wish E,I.os,I.bare,I.base,I.loc,I.cell,I.free,I.freeC,I.pin,I.hok,I.len⟩
theorem ZD.unwish(I:ZD (X.wish E) pins σ H s):ZD X pins σ H s:=⟨I.ok.unwish,I.os,I.bare,I.base,I.loc,I.cell,I.free,I.freeC,I.pin,I.hok,I.len⟩
theorem SP.unwish(h:SP (X.wish E) pins D f s'):SP X pins D f s':=by
 cases f with
 | next=>obtain⟨σ',H',I,q⟩:=h;exact⟨σ',H',I.unwish,q⟩
 | brk=>obtain⟨σ',H',I,q⟩:=h;exact⟨σ',H',I.unwish,q⟩
 | cont=>obtain⟨σ',H',I,q⟩:=h;exact⟨σ',H',I.unwish,q⟩
 | ret u=>obtain⟨v,σ',H',I,r,q⟩:=h;exact⟨v,σ',H',I.unwish,r,q⟩
theorem Ae.nox{st:List Stmt}{t:TS}(h:Ae X.nox st t):Ae X st t:=fun pins s σ H D I hw =>
 wpAny_mono (h pins s σ H D (I.wish _) hw) (fun _ _ q=>q.unwish) fun _ _ z=>False.elim z
end
section
variable{X:Cx}{st:Stmt}{rest:List Stmt}{t u:TS}{te:TE}
def Zw:TS:=fun D σ H=>D.nx σ H
def Vq(t u:TS):TS:=fun D σ H=>t {D with nx:=u D } σ H
theorem ZD.quiet{pins:List (eZ×Obj)}{σ:St}{H:Hp}{s:eX}(I:ZD X pins σ H s):interactive X.env=false:=by simp[interactive,I.ok.kind]
def DF(te:TE):TS:=fun D σ H=>te σ H fun _ H1=>D.nx σ H1
def Pq(te:TE):TS:=fun D σ H=>te σ H D.rt
def Ct(c:TT)(t u:TS):TS:=fun D σ H=>c σ H fun b H1=>if b=true then t D σ H1 else u D σ H1
end
abbrev TG:=V->St->Hp->(St->Hp->Prop)->Prop
abbrev Jh:=List V->St->Hp->(St->Hp->Prop)->Prop
def PG(X:Cx)(target:Expr)(t:TG):Prop :=
 ∀(pins:List (eZ×Obj))(s:eX)(σ:St)(H:Hp)(v:V)(u:eY)(Q:St->Hp->Prop),ZD X pins σ H s->ZG v u->t v σ H Q ->
  wpAny (model X.prog X.w) X.A (assign target X.env u) (fun _ s'=>∃ σ' H',ZD X pins σ' H' s'/\Q σ' H') X.xe s
def GC(X:Cx)(ts:List Expr)(t:Jh):Prop :=
 ∀(pins:List (eZ×Obj))(s:eX)(σ:St)(H:Hp)(vs:aG)(us:eU)(Q:St->Hp->Prop),ZD X pins σ H s->ZH vs us->t vs σ H Q ->
  wpAny (model X.prog X.w) X.A (assignInOrder ((assignEach ts X.env).map (·.2)) us) (fun _ s'=>∃ σ' H',ZD X pins σ' H' s'/\Q σ' H') X.xe s
abbrev C8:=V->V->V->Hp->(Hp->Prop)->Prop
def X8(X:Cx)(t:C8):Prop :=
 ∀(pins:List (eZ×Obj))(s:eX)(σ:St)(H:Hp)(o i v:V)(ov iv u:eY)(Q:Hp->Prop),ZD X pins σ H s->ZG o ov->ZG i iv->ZG v u->t o i v H Q ->
  wpAny (model X.prog X.w) X.A (setItem ov iv u) (fun _ s'=>∃H',ZD X pins σ H' s'/\Q H') X.xe s
section
variable{X:Cx}{pos:Pos}
def Y2(i:Nat):TG:=fun v σ H Q=>Q (σ.set i (some v)) H
theorem GL(hN:X.N.Nodup)(hi:X.N[i]? = some x)(hx:CW X.env.scope x)(hf:X.fn x=true\/X.env.scope.names.lookup x=some .local:=by first | exact .inl rfl | exact .inr rfl | assumption):PG X (.Name x pos) (Y2 i):=by
 intro pins s σ H v u Q I r h;exact wpAny_assign_Name (AQ I hN hi hx r (fun s' I'=>⟨_,H,I',h⟩) hf)
def Eu:Jh:=fun vs σ H Q=>vs = []/\Q σ H
inductive VF(t:TG)(u:Jh)(vs:aG)(σ:St)(H:Hp)(Q:St->Hp->Prop):Prop
 |mk(v r)(_:vs=v::r)(_:t v σ H fun σ' H'=>u r σ' H' Q)
inductive Tf(K:uFg)(n:Nat)(t:Jh)(v:V)(σ:St)(H:Hp)(Q:St->Hp->Prop):Prop
 |mk(a xs)(_:v = .ref a)(_:ZT K H a xs)(_:xs.length=n)(_:t xs σ H Q)
theorem L9{es:List Expr}{k:Nat}{t:Jh}{n:Nat}(hc:X.calm=true)(h:GC X es t)(hn:(assignEach es X.env).length=n:=by rfl)(hst:(assignEach es X.env).findIdx? (·.1)=none:=by rfl):PG X (.Tuple es k pos) (Tf X.K n t):=by
 intro pins s σ H v u Q I r hw;obtain⟨a,xs,e1,hq,hl,hw⟩:=hw;subst e1;cases r;obtain⟨its,rv,ht,hz⟩:=I.tuple hq;refine assign_Tuple_tuple (I.ok.hd hc) ht (by simp[hn,← hl,rv.length]) hst fun h' hx=>?_;have I1:ZD X pins σ H {s with heap:=h' }:=I.kept (t':=s.toks) fun b o e=>hx b o (yJ (xP e)) e;exact h pins _ σ H xs _ Q I1 (by simpa using rv) hw
def Ri(to ti:TE)(t:C8):TG:=fun v σ H Q=>to σ H fun o H1=>ti σ H1 fun i H2=>t o i v H2 fun H3=>Q σ H3
def Us(te:TE)(g:TG):TS:=fun D σ H=>te σ H fun x H1=>g x σ H1 D.nx
theorem Ia{i:Nat}{x:Str}{e:Expr}{te:TE}{pos':Pos}(hN:X.N.Nodup)(hi:X.N[i]? = some x)(hx:CW X.env.scope x)(he:PE X e te)(hs:swapsWith e (some (.Name x pos')) pos.line X.env=pure false:=by rfl)(hf:X.fn x=true\/X.env.scope.names.lookup x=some .local:=by first | exact .inl rfl | exact .inr rfl | assumption) :
  PS X (.Assign [.Name x pos'] e pos) (Us te (Y2 i)):=by
 intro pins s σ H D I h;refine wpAny_Assign_Name (thn (he pins s σ H _ I h) fun v s1 ⟨y,H1,I1,r1,q1⟩=>?_) hs;exact AQ I1 hN hi hx r1 (fun s2 I2=>⟨_,H1,I2,q1⟩) hf
end
structure It where
 go:Nat->Hp->Prop
 yld:Nat->Hp->V->Hp->Prop
 stop:Nat->Hp->Prop
def Vv(X:Cx)(pins:List (eZ×Obj))(H:Hp)(b:eZ):Prop :=
 H b=none/\b≠X.env.locals/\b∉X.fs/\(b∈X.ex\/X.s₀.heap.objs.size<=b)/\(∀x c,X.env.cells.lookup x=some c->c≠b)/\∀p∈X.pn++pins,p.1≠b
theorem ZD.fpOk{X:Cx}{pins:List (eZ×Obj)}{σ:St}{H H':Hp}{s:eX}{b:eZ}(I:ZD X pins σ H s)(hb:s.heap.objs.size<=b)(hn:H' b=none):Vv X pins H' b:=by
 refine⟨hn,Nat.ne_of_gt (yG I.lt hb),I.nofs hb,.inr (yK I.sz hb),fun x c e z=>?_,fun p hp z=>?_⟩
 ·obtain⟨v,q⟩:=I.cell x c e;exact absurd (yG q.lt (by rw[z];exact hb)) (zQ _)
 ·exact absurd (yG (xP (I.pin p hp).1) (by rw[z];exact hb)) (zQ _)
structure WI (P:fA) (w:fB) (K:uFg) (tg:Expr) (J:It) (fp:eW) (it:eZ) (tn:Nat->Heap->Prop):Prop where
 mem:it∈fp
 obj:∀i h,tn i h->∀b∈fp,∃o,h.get? b=some o/\∀v,o.data ≠ .cell v
 keep:∀i h h',tn i h->(∀b∈fp,∀o,h.get? b=some o->h'.get? b=some o)->tn i h'
 item:∀(X:Cx),X.prog=P->X.w=w->X.K=K->X.calm=true->∀(i:Nat)(pins:List (eZ×Obj))(s:eX)(σ:St)(H:Hp)(E:eQ),ZD X pins σ H s->(∀b∈fp,Vv X pins H b)->tn i s.heap->J.go i H ->
  wpAny (model P w) X.A (pyNext (.ref it)) (fun r s1=>∃u,r=some u /\
   wpAny (model P w) X.A (letOwnedTupleGo tg (.ref it) u) (fun _ s2=>∃x H',ZD X pins σ H' s2/\ZG x u/\J.yld i H x H'/\tn (i+1) s2.heap/\∀b∈fp,H' b=none) E s1) E s
 done:∀(X:Cx),X.prog=P->X.w=w->X.K=K->X.calm=true->∀(i:Nat)(pins:List (eZ×Obj))(s:eX)(σ:St)(H:Hp)(E:eQ),ZD X pins σ H s->(∀b∈fp,Vv X pins H b)->tn i s.heap->J.stop i H ->
  wpAny (model P w) X.A (pyNext (.ref it)) (fun r s1=>r=none/\ZD X pins σ H s1) E s
 self:∀(A:fD)(i:Nat)(s:eX)(Q:eQ)(E:eQ),tn i s.heap->Q (.ref it) s->wpAny (model P w) A (pyIter (.ref it)) Q E s
abbrev TI:=St->Hp->(It->Hp->Prop)->Prop
def DA(X:Cx)(pins:List (eZ×Obj))(σ:St)(tg:Expr)(R:It->Hp->Prop)(itv:eY)(s2:eX):Prop :=
 ∃it fp tn J H',itv = .ref it/\ZD X pins σ H' s2/\WI X.prog X.w X.K tg J fp it tn/\tn 0 s2.heap/\(∀b∈fp,Vv X pins H' b)/\R J H'
def PI(X:Cx)(tg iter:Expr)(wi:TI):Prop :=
 ∀(pins:List (eZ×Obj))(s:eX)(σ:St)(H:Hp)(R:It->Hp->Prop),ZD X pins σ H s->wi σ H R ->
  wpAny (model X.prog X.w) X.A (eval iter X.env) (fun v s1=>wpAny (model X.prog X.w) X.A (pyIter v) (DA X pins σ tg R) X.xe s1) X.xe s
theorem AE(ho:s.heap.get? it=some o)(hc:o.cls = .type n)(hd:o.data = .fields vs)(hn : ["enumerate","zip","dict_itemiterator","dict_reverseitemiterator","odict_iterator","itertools.zip_longest","itertools.pairwise"].contains n=false)(hQ:Q () s):wpAny M A (letOwnedTupleGo tg (.ref it) u) Q E s:=by
  unfold letOwnedTupleGo;cases tg<;>first
    | exact wpAny_pure hQ
    | (cases u<;>first
        | exact wpAny_pure hQ
        | (refine wpAny_bind (wpAny_load ho ?_)
           rw[hc,hd];show wpAny M A (if (["enumerate","zip","dict_itemiterator","dict_reverseitemiterator","odict_iterator","itertools.zip_longest","itertools.pairwise"].contains n && vs[0]? == some (rawInt _))=true then _ else _) Q E s;rw[if_neg (by intro h;rw[hn,yE] at h;cases h)]
           exact wpAny_pure hQ))
def TR(K:uFg)(a:eZ):It :=
 ⟨fun i H=>∃xs x,ZF K H a xs/\xs[i]? = some x,fun i H x H'=>H'=H/\∀xs,ZF K H a xs->xs[i]? = some x,fun i H=>∃xs,ZF K H a xs/\xs.length<=i⟩
def An(K:uFg)(a:eZ):It :=
 ⟨fun i H=>∃xs x,ZT K H a xs/\xs[i]? = some x,fun i H x H'=>H'=H/\∀xs,ZT K H a xs->xs[i]? = some x,fun i H=>∃xs,ZT K H a xs/\xs.length<=i⟩
def Jw(lo:Int)(n:Nat):It:=⟨fun i _=>i < n,fun i H x H'=>H'=H/\x = .int (lo+i),fun i _=>n<=i⟩
theorem NQ{P:fA}{w:fB}{K:uFg}{tg:Expr}(a it:eZ):WI P w K tg (TR K a) [it] it (fun i h=>h.IsListIter it a i) where
 mem:=by simp
 obj:=fun i h st b hb=>by
  have e:b=it:=by simpa using hb
  subst e;obtain⟨o,e,c,d⟩:=st;exact⟨o,e,fun v z=>by rw[d] at z;cases z⟩
 keep:=fun i h h' st k=>st.at fun o e=>k it (by simp) o e
 item:=by
  intro X hP hw hK hc i pins s σ H E I hf st hg;subst hP hw hK;obtain⟨xs,x,hq,hx⟩:=hg;obtain⟨its,rv,p,hz⟩:=I.list hq;obtain⟨u,hu,ru⟩:=rv.get hx;obtain⟨f0,f1,f2,f3,f4,f5⟩:=hf it (by simp);refine wpAny_pyNext_list_item st p.isList (x:=u) (by simpa using hu) fun h' st' sb=>?_;have I1:ZD X pins σ H {s with heap:=h' }:=I.turned (t':=s.toks) (fun b o hb e=>(sb.2 b hb).trans e) f0 f1 f3 f4 f5;obtain⟨o,e,c,d⟩:=id st';exact⟨u,rfl,AE (s:={s with heap:=h' }) e c d aA ⟨x,H,I1,ru,⟨rfl,fun ys hy=>by rw[I.list_inj hy hq];exact hx⟩,st',fun b hb=>(hf b hb).1⟩⟩
 done:=by
  intro X hP hw hK hc i pins s σ H E I hf st hg;subst hP hw hK;obtain⟨xs,hq,hx⟩:=hg;obtain⟨its,rv,p,hz⟩:=I.list hq;obtain⟨f0,f1,f2,f3,f4,f5⟩:=hf it (by simp);have hl:=rv.length;exact wpAny_pyNext_list_end (I.ok.hd hc) st p.isList (by simp;lia) fun h' eb=>⟨rfl,I.turned (t':=s.toks) (fun b o hb e=>eb b o hb e) f0 f1 f3 f4 f5⟩
 self:=fun _ _ _ _ _ st h=>wpAny_pyIter_listiter st h
theorem QX{P:fA}{w:fB}{K:uFg}{tg:Expr}(a it:eZ):WI P w K tg (An K a) [it] it (fun i h=>h.IsTupleIter it a i) where
 mem:=by simp
 obj:=fun i h st b hb=>by
  have e:b=it:=by simpa using hb
  subst e;obtain⟨o,e,c,d⟩:=st;exact⟨o,e,fun v z=>by rw[d] at z;cases z⟩
 keep:=fun i h h' st k=>st.at fun o e=>k it (by simp) o e
 item:=by
  intro X hP hw hK hc i pins s σ H E I hf st hg;subst hP hw hK;obtain⟨xs,x,hq,hx⟩:=hg;obtain⟨its,rv,p,hz⟩:=I.tuple hq;obtain⟨u,hu,ru⟩:=rv.get hx;obtain⟨f0,f1,f2,f3,f4,f5⟩:=hf it (by simp);refine wpAny_pyNext_tuple_item st (show s.heap.IsTuple a its.toArray from p) (x:=u) (by simpa using hu) fun h' st' sb=>?_;have I1:ZD X pins σ H {s with heap:=h' }:=I.turned (t':=s.toks) (fun b o hb e=>(sb.2 b hb).trans e) f0 f1 f3 f4 f5;obtain⟨o,e,c,d⟩:=id st';exact⟨u,rfl,AE (s:={s with heap:=h' }) e c d aA ⟨x,H,I1,ru,⟨rfl,fun ys hy=>by rw[I.tuple_inj hy hq];exact hx⟩,st',fun b hb=>(hf b hb).1⟩⟩
 done:=by
  intro X hP hw hK hc i pins s σ H E I hf st hg;subst hP hw hK;obtain⟨xs,hq,hx⟩:=hg;obtain⟨its,rv,p,hz⟩:=I.tuple hq;obtain⟨f0,f1,f2,f3,f4,f5⟩:=hf it (by simp);have hl:=rv.length;exact wpAny_pyNext_tuple_end (I.ok.hd hc) st (show s.heap.IsTuple a its.toArray from p) (by simp;lia) fun h' eb=>⟨rfl,I.turned (t':=s.toks) (fun b o hb e=>eb b o hb e) f0 f1 f3 f4 f5⟩
 self:=fun _ _ _ _ _ st h=>wpAny_pyIter_tupleiter st h
theorem Na{P:fA}{w:fB}{K:uFg}{tg:Expr}(it:eZ)(lo:Int)(n:Nat):WI P w K tg (Jw lo n) [it] it (fun i h=>IsRangeIter h it (lo+(i:Nat) * 1) ((n:Int) - (i:Nat)) 1) where
 mem:=by simp
 obj:=fun i h st b hb=>by grind
 keep:=fun i h h' st k=>k it (by simp) _ st
 item:=by
  intro X hP hw hK hc i pins s σ H E I hf st hg;subst hP hw hK;obtain⟨f0,f1,f2,f3,f4,f5⟩:=hf it (by simp);have W:=Walks.range (prog:=X.prog) (w:=X.w) (I.ok.hd hc) it lo 1 n;refine W.item i s _ _ hg st fun v h' tk hv st' kk=>?_;obtain⟨t,rfl⟩:=hv;have I1:ZD X pins σ H {s with heap:=h',toks:=tk }:=I.turned (fun b o hb e=>kk b o (by simpa using hb) e) f0 f1 f3 f4 f5;refine⟨_,rfl,AE (s:={s with heap:=h',toks:=tk }) (n:="range_iterator") st' rfl rfl aA ⟨.int (lo+i),H,I1,⟨t,?_⟩,⟨rfl,rfl⟩,st',fun b hb=>(hf b hb).1⟩⟩;rw[Int.mul_one]
 done:=by
  intro X hP hw hK hc i pins s σ H E I hf st hg;subst hP hw hK;obtain⟨f0,f1,f2,f3,f4,f5⟩:=hf it (by simp);exact wpAny_pyNext_range_end (I.ok.hd hc) st (by have:n<=i:=hg;lia) fun h' eb=>⟨rfl,I.turned (t':=s.toks) (fun b o hb e=>eb b o hb e) f0 f1 f3 f4 f5⟩
 self:=fun _ _ _ _ _ st h=>wpAny_pyIter_rangeiter st h
section
variable{X:Cx}{tg:Expr}
inductive JZ(K:uFg)(R:It->Hp->Prop)(x:V)(H1:Hp):Prop
 |mk(a)(_:x = .ref a)(_:(∃xs,ZF K H1 a xs))(_:R (TR K a) H1)
def XX(K:uFg)(tl:TE):TI:=fun σ H R=>tl σ H fun x H1=>JZ K R x H1
inductive B7(K:uFg)(R:It->Hp->Prop)(x:V)(H1:Hp):Prop
 |mk(a)(_:x = .ref a)(_:(∃xs,ZT K H1 a xs))(_:R (An K a) H1)
def M4(K:uFg)(tl:TE):TI:=fun σ H R=>tl σ H fun x H1=>B7 K R x H1
theorem NI{pins:List (eZ×Obj)}{σ:St}{H:Hp}{s:eX}{R:It->Hp->Prop}{E:eQ}{lo hi:Int}{t u v:Tok}{tk:Nat}(I:ZD X pins σ H s)(h1 : -(2 ^ 62)<=lo)(h2:lo < 2 ^ 62)(h3 : -(2 ^ 62)<=hi)(h4:hi < 2 ^ 62)(q:R (Jw lo (hi - lo).toNat) H):wpAny (model X.prog X.w) X.A (pyIter (.ref s.heap.objs.size)) (DA X pins σ tg R) E {s with heap:=s.heap.push {cls:=.type "range", data:=.fields #[.int lo t,.int hi u,.int 1 v] },toks:=tk }:=by
 refine wpAny_pyIter_range (IsRange.new ..) (small_one h1 h2 h3 h4) ?_;have I1:ZD X pins σ H {s with heap:=s.heap.push {cls:=.type "range", data:=.fields #[.int lo t,.int hi u,.int 1 v] },toks:=tk }:=I.kept fun b o e=>xB _ e;refine⟨(s.heap.push {cls:=.type "range", data:=.fields #[.int lo t,.int hi u,.int 1 v] }).objs.size,[(s.heap.push {cls:=.type "range", data:=.fields #[.int lo t,.int hi u,.int 1 v] }).objs.size],_,_,H,rfl, I1.kept (t':=tk) fun b o e=>xB _ e,Na _ lo (hi - lo).toNat,?_,fun b hb=>?_,q⟩
 ·have e1:lo+((0:Nat):Int) * 1=lo:=by simp
  have e2:(((hi - lo).toNat:Nat):Int) - ((0:Nat):Int)=Builtin.Range.rangeSize lo hi 1:=by rw[rangeSize_one];split<;>lia
  show IsRangeIter _ _ (lo+((0:Nat):Int) * 1) ((((hi - lo).toNat:Nat):Int) - ((0:Nat):Int)) 1;rw[e1,e2];exact xL _ rfl
 ·have e:b=(s.heap.push {cls:=.type "range", data:=.fields #[.int lo t,.int hi u,.int 1 v] }).objs.size:=by simpa using hb
  subst e;exact I1.fpOk (xH _) (I1.hok.fresh (xH _))
inductive JY(R:It->Hp->Prop)(vs:aG)(H1:Hp):Prop
 |mk(j)(_:vs = [.int j])(_:-(2 ^ 62)<=j)(_:j < 2 ^ 62)(_:R (Jw 0 j.toNat) H1)
def Ms(ta:TA):TI:=fun σ H R=>ta σ H fun vs H1=>JY R vs H1
def eK(wi:TI)(g:TG)(tb:TS):TS:=fun D σ H=>wi σ H fun J H1=>∃W:Nat->Nat->St->Hp->Prop,(∃m,W 0 m σ H1)/\∀i m σ H,W i m σ H ->
 (J.stop i H/\D.nx σ H)\/(J.go i H/\∃N:St->Hp->Prop,(∀ σ' H',N σ' H'->∃m',m' < m/\W (i+1) m' σ' H')/\∀x H',J.yld i H x H'->g x σ H' fun σ2 H2=>tb {D with nx:=N,ct:=N,bk:=D.nx } σ2 H2)
def JJ(fp:eW)(h:Heap):List (eZ×Obj):=fp.filterMap fun b=>(h.get? b).map fun o=>(b,o)
theorem BE(hb:b∈fp)(e:h.get? b=some o):(b,o)∈JJ fp h:=List.mem_filterMap.mpr ⟨b,hb,by rw[e];rfl⟩
theorem Gx(hp:p∈JJ fp h):p.1∈fp/\h.get? p.1=some p.2:=by
 obtain⟨b,hb,e⟩:=List.mem_filterMap.mp hp;cases q:h.get? b with
 | none=>rw[q] at e;cases e
 | some o =>
  rw[q] at e;have e':(b,o)=p:=Option.some.inj e;subst e';exact⟨hb,q⟩
theorem ZD.pinned{pins:List (eZ×Obj)}{σ:St}{H:Hp}{s:eX}{fp:eW}(I:ZD X pins σ H s)(hf:∀b∈fp,Vv X pins H b)(ho:∀b∈fp,∃o,s.heap.get? b=some o/\∀v,o.data ≠ .cell v):ZD X (pins++JJ fp s.heap) σ H s :=
 I.pins_of fun p hp=>(xI.mp hp).elim (fun z=>I.pin p (xJ _ z)) fun z=>by
  obtain⟨hb,e⟩:=Gx z;obtain⟨f0,f1,f2,_⟩:=hf p.1 hb;obtain⟨o,e',d⟩:=ho p.1 hb;rw[e] at e';cases e';exact⟨e,f0,f1,f2,d⟩
theorem ZD.unpinned{pins pl:List (eZ×Obj)}{σ:St}{H:Hp}{s:eX}(I:ZD X (pins++pl) σ H s):ZD X pins σ H s:=I.pins_of fun p hp=>I.pin p (xJ _ (yQ _ hp))
end
theorem RK{K:uFg}{a:eZ}{xs:aG}{g:TG}{tb:TS}{D:ZW}{σ:St}{H:Hp}(Pv:Nat->St->Hp->Prop)(h0:Pv 0 σ H)(hl:∀i σ H,i<=xs.length->Pv i σ H->ZF K H a xs)(hs:∀i x σ H,xs[i]? = some x->Pv i σ H->g x σ H fun σ2 H2=>tb {D with nx:=Pv (i+1),ct:=Pv (i+1),bk:=D.nx } σ2 H2)(hd:∀ σ H,Pv xs.length σ H->D.nx σ H) :
  ∃W:Nat->Nat->St->Hp->Prop,(∃m,W 0 m σ H)/\∀i m σ H,W i m σ H ->
   ((TR K a).stop i H/\D.nx σ H)\/((TR K a).go i H/\∃N:St->Hp->Prop,(∀ σ' H',N σ' H'->∃m',m' < m/\W (i+1) m' σ' H')/\∀x H',(TR K a).yld i H x H'->g x σ H' fun σ2 H2=>tb {D with nx:=N,ct:=N,bk:=D.nx } σ2 H2):=by
 refine⟨fun i m σ H=>m=xs.length - i/\i<=xs.length/\Pv i σ H,⟨xs.length,by simp,yO _,h0⟩,?_⟩;rintro i m σ H ⟨rfl,hi,p⟩;have q:=hl i σ H hi p
 by_cases hlt:i < xs.length
 ·refine .inr ⟨⟨xs,xs[i],q,by simp[hlt]⟩,Pv (i+1),fun σ' H' p'=>⟨xs.length - (i+1),by lia,rfl,hlt,p'⟩,fun x H' y=>?_⟩;obtain⟨e,y⟩:=y;subst e;exact hs i x σ _ (y xs q) p
 ·have e:i=xs.length:=by lia
  subst e;exact .inl ⟨⟨xs,q,xH _⟩,hd σ H p⟩
theorem cT{K:uFg}{a:eZ}{xs:aG}{g:TG}{tb:TS}{D:ZW}{σ:St}{H:Hp}(Pv:Nat->St->Hp->Prop)(h0:Pv 0 σ H)(hl:∀i σ H,i<=xs.length->Pv i σ H->ZT K H a xs)(hs:∀i x σ H,xs[i]? = some x->Pv i σ H->g x σ H fun σ2 H2=>tb {D with nx:=Pv (i+1),ct:=Pv (i+1),bk:=D.nx } σ2 H2)(hd:∀ σ H,Pv xs.length σ H->D.nx σ H) :
  ∃W:Nat->Nat->St->Hp->Prop,(∃m,W 0 m σ H)/\∀i m σ H,W i m σ H ->
   ((An K a).stop i H/\D.nx σ H)\/((An K a).go i H/\∃N:St->Hp->Prop,(∀ σ' H',N σ' H'->∃m',m' < m/\W (i+1) m' σ' H')/\∀x H',(An K a).yld i H x H'->g x σ H' fun σ2 H2=>tb {D with nx:=N,ct:=N,bk:=D.nx } σ2 H2):=by
 refine⟨fun i m σ H=>m=xs.length - i/\i<=xs.length/\Pv i σ H,⟨xs.length,by simp,yO _,h0⟩,?_⟩;rintro i m σ H ⟨rfl,hi,p⟩;have q:=hl i σ H hi p
 by_cases hlt:i < xs.length
 ·refine .inr ⟨⟨xs,xs[i],q,by simp[hlt]⟩,Pv (i+1),fun σ' H' p'=>⟨xs.length - (i+1),by lia,rfl,hlt,p'⟩,fun x H' y=>?_⟩;obtain⟨e,y⟩:=y;subst e;exact hs i x σ _ (y xs q) p
 ·have e:i=xs.length:=by lia
  subst e;exact .inl ⟨⟨xs,q,xH _⟩,hd σ H p⟩
theorem Xm{lo:Int}{n:Nat}{g:TG}{tb:TS}{D:ZW}{σ:St}{H:Hp}(Pv:Nat->St->Hp->Prop)(h0:Pv 0 σ H)(hs:∀i σ H,i < n->Pv i σ H->g (.int (lo+i)) σ H fun σ2 H2=>tb {D with nx:=Pv (i+1),ct:=Pv (i+1),bk:=D.nx } σ2 H2)(hd:∀ σ H,Pv n σ H->D.nx σ H) :
  ∃W:Nat->Nat->St->Hp->Prop,(∃m,W 0 m σ H)/\∀i m σ H,W i m σ H ->
   ((Jw lo n).stop i H/\D.nx σ H)\/((Jw lo n).go i H/\∃N:St->Hp->Prop,(∀ σ' H',N σ' H'->∃m',m' < m/\W (i+1) m' σ' H')/\∀x H',(Jw lo n).yld i H x H'->g x σ H' fun σ2 H2=>tb {D with nx:=N,ct:=N,bk:=D.nx } σ2 H2):=by
 refine⟨fun i m σ H=>m=n - i/\i<=n/\Pv i σ H,⟨n,by simp,yO _,h0⟩,?_⟩;rintro i m σ H ⟨rfl,hi,p⟩
 by_cases hlt:i < n
 ·refine .inr ⟨hlt,Pv (i+1),fun σ' H' p'=>⟨n - (i+1),by lia,rfl,hlt,p'⟩,fun x H' y=>?_⟩;obtain⟨e,y⟩:=y;subst e y;exact hs i σ _ hlt p
 ·have e:i=n:=by lia
  subst e;exact .inl ⟨xH _,hd σ H p⟩
abbrev R2:=V->V->Hp->VK->Prop
def Je(X:Cx)(f:eY->eY->Sem eY)(r:R2):Prop :=
 ∀(pins:List (eZ×Obj))(s:eX)(σ:St)(H:Hp)(x y:V)(v u:eY)(Q:VK),ZD X pins σ H s->ZG x v->ZG y u->r x y H Q ->
  wpAny (model X.prog X.w) X.A (f v u) (EP X pins σ Q) X.xe s
def Oh(X:Cx)(f:eY->Sem eY)(r:V->Hp->VK->Prop):Prop :=
 ∀(pins:List (eZ×Obj))(s:eX)(σ:St)(H:Hp)(x:V)(v:eY)(Q:VK),ZD X pins σ H s->ZG x v->r x H Q ->
  wpAny (model X.prog X.w) X.A (f v) (EP X pins σ Q) X.xe s
def U0(X:Cx)(f:eY)(r:List V->Hp->VK->Prop):Prop :=
 ∀(pins:List (eZ×Obj))(s:eX)(σ:St)(H:Hp)(xs:aG)(us:eU)(Q:VK),ZD X pins σ H s->ZH xs us->r xs H Q ->
  wpAny (model X.prog X.w) X.A (call f us) (EP X pins σ Q) X.xe s
def Jd(r:R2)(ta tb:TE):TE:=fun σ H Q=>ta σ H fun x H1=>tb σ H1 fun y H2=>r x y H2 Q
def R7(r:V->Hp->VK->Prop)(ta:TE):TE:=fun σ H Q=>ta σ H fun x H1=>r x H1 Q
inductive rI(C:Int->Int->Prop)(g:Int->Int->V)(x y:V)(H:Hp)(Q:VK):Prop
 |mk(i j)(_:x = .int i)(_:y = .int j)(_:C i j)(_:Q (g i j) H)
inductive Jf(g:Int->Int->V)(x y:V)(H:Hp)(Q:VK):Prop
 |mk(i j)(_:x = .int i)(_:y = .int j)(_:Q (g i j) H)
inductive rU(g:Int->V)(x:V)(H:Hp)(Q:VK):Prop
 |mk(i)(_:x = .int i)(_:Q (g i) H)
theorem DN(ha:PE X a ta)(hb:PE X b tb){pins:List (eZ×Obj)}{s:eX}{σ:St}{H:Hp}{R:V->V->Hp->Prop}(I:ZD X pins σ H s)(h:ta σ H fun x H1=>tb σ H1 fun y H2=>R x y H2){Q:eQ}{f:eY->eY->Sem eY}(hf:∀v u s2 x y H2,ZD X pins σ H2 s2->ZG x v->ZG y u->R x y H2->wpAny (model X.prog X.w) X.A (f v u) Q X.xe s2) :
  wpAny (model X.prog X.w) X.A (eval a X.env) (fun v s₁=>wpAny (model X.prog X.w) X.A (eval b X.env) (fun u s₂=>wpAny (model X.prog X.w) X.A (f v u) Q X.xe s₂) X.xe s₁) X.xe s:=by
 refine thn (ha pins s σ H _ I h) fun v s1 ⟨x,H1,I1,r1,q1⟩=>?_;refine thn (hb pins s1 σ H1 _ I1 q1) fun u s2 ⟨y,H2,I2,r2,q2⟩=>?_;exact hf v u s2 x y H2 I2 r1 r2 q2
theorem opI{f:eY->eY->Sem eY}{C:Int->Int->Prop}{g:Int->Int->Int}(rule:∀i j t u s Q E,C i j->Q (.int (g i j) s.toks) {s with toks:=s.toks+1 }->wpAny (model X.prog X.w) X.A (f (.int i t) (.int j u)) Q E s) :
  Je X f (rI C fun i j=>.int (g i j)):=by
 intro pins s σ H x y v u Q I rx ry h;obtain⟨i,j,rfl,rfl,hc,q⟩:=h;obtain⟨t,rfl⟩:=rx;obtain⟨t',rfl⟩:=ry;exact rule i j t t' s _ _ hc ⟨.int (g i j),H,I.tok _,⟨_,rfl⟩,q⟩
theorem Kr{f:eY->eY->Sem eY}{g:Int->Int->Int}(rule:∀i j t u s Q E,Q (.int (g i j) s.toks) {s with toks:=s.toks+1 }->wpAny (model X.prog X.w) X.A (f (.int i t) (.int j u)) Q E s) :
  Je X f (Jf fun i j=>.int (g i j)):=by
 intro pins s σ H x y v u Q I rx ry h;obtain⟨i,j,rfl,rfl,q⟩:=h;obtain⟨t,rfl⟩:=rx;obtain⟨t',rfl⟩:=ry;exact rule i j t t' s _ _ ⟨.int (g i j),H,I.tok _,⟨_,rfl⟩,q⟩
theorem CK{f:eY->eY->Sem eY}{g:Int->Int->Bool}(rule:∀i j t u s Q E,Q (.bool (g i j)) s->wpAny (model X.prog X.w) X.A (f (.int i t) (.int j u)) Q E s) :
  Je X f (Jf fun i j=>.bl (g i j)):=by
 intro pins s σ H x y v u Q I rx ry h;obtain⟨i,j,rfl,rfl,q⟩:=h;obtain⟨t,rfl⟩:=rx;obtain⟨t',rfl⟩:=ry;exact rule i j t t' s _ _ ⟨.bl (g i j),H,I,rfl,q⟩
def Gd(i j:Int):Prop:=0 < j/\j < 1073741824
def IT(i j:Int):Prop:=0<=j/\j<=1000000/\i.natAbs < 2 ^ 64
def TQ(i j:Int):Prop:=(-(2 ^ 64) < i/\i < 2 ^ 64)\/(-(2 ^ 64) < j/\j < 2 ^ 64)
theorem TQ.ok(h:TQ i j):IntMulOk i j:=by
 rcases h with⟨h1,h2⟩ | ⟨h1,h2⟩
 ·exact .of_left (intBits_le_64 h1 h2)
 ·exact .of_right (intBits_le_64 h1 h2)
def Kz:V->V->Bool
 | .non,.non=>true | .non,.int _=>true | .int _,.non=>true | .non,.bl _=>true | .bl _,.non=>true | .non,.str _=>true | .str _,.non=>true
 | .int _,.int _=>true | .bl _,.bl _=>true | .str _,.str _=>true | .byt _,.byt _=>true
 | .int _,.str _=>true | .str _,.int _=>true | .bl _,.str _=>true | .str _,.bl _=>true
 | _,_=>false
def Dj:R2:=fun x y H Q=>Kz x y=true/\Q (.bl (decide (x=y))) H
def Pp:R2:=fun x y H Q=>Kz x y=true/\Q (.bl (!decide (x=y))) H
theorem LA:decide (V.int i=V.int j)=(i == j):=by
 rw[zF];simp
theorem Lj:decide (V.bl i=V.bl j)=(i == j):=by
 rw[zF];simp
theorem Hd:decide (V.str i=V.str j)=(i == j):=by
 rw[zF];simp
theorem FZ:decide (V.byt i=V.byt j)=(i.toList == j.toList):=by
 rw[zF];cases i;cases j;simp
section
variable{b:Expr}{ta tb tc:TE}
theorem Yk{pins:List (eZ×Obj)}{σ:St}{H:Hp}{s:eX}{Q:VK}{k k':Bool}(I:ZD X pins σ H s)(q:Q (.bl k) H)(e:k=k'):EP X pins σ Q (.bool k') s:=by
 subst e;exact⟨.bl k,H,I,rfl,q⟩
theorem Zp(b:Expr)(h:op ≠ .In:=by decide)(h2:op ≠ .NotIn:=by decide):behindInMarks op b=false:=by
 have e1:(op == CmpOp.In)=false:=by cases op<;>first | rfl | exact absurd rfl h
 have e2:(op == CmpOp.NotIn)=false:=by cases op<;>first | rfl | exact absurd rfl h2
 cases b<;>simp[behindInMarks,e1,e2]
def By(t:TE):TT:=fun σ H Q=>t σ H fun x H'=>∃k,x = .bl k/\Q k H'
inductive Jc(r':R2)(tc:TE)(σ:St)(Q:VK)(y z:V)(H3:Hp):Prop
 |mk(k)(_:z = .bl k)(_:(if k=true then tc σ H3 fun w' H4=>r' y w' H4 Q else Q (.bl false) H3))
def GE(r r':R2)(ta tb tc:TE):TE:=fun σ H Q=>ta σ H fun x H1=>tb σ H1 fun y H2=>r x y H2 fun z H3=>Jc r' tc σ Q y z H3
theorem Ba:(sizeLine:Nat) < 2 ^ 63:=by rw[sizeLine_eq];decide
theorem Vg(r:ZH [x] us):∃u,us = [u]/\ZG x u:=by
 cases r with
 | cons r1 r2=>cases r2;exact⟨_,rfl,r1⟩
theorem BW(r:ZH [x,y] us):∃u w',us = [u,w']/\ZG x u/\ZG y w':=by
 cases r with
 | cons r1 r2 =>
  cases r2 with
  | cons r3 r4=>cases r4;exact⟨_,_,rfl,r1,r3⟩
end
structure VW (h:Heap) (x dx C:eZ) (mA:eR):Prop where
 obj:h.get? x=some (PySem.W.instObj C dx)
 ns:h.Ns1 dx mA
 ne:dx≠x
theorem SJ{h:Heap}{dx:eZ}{mA:eR}(n:h.Ns1 dx mA):∃od,h.get? dx=some od/\∀name,PySem.W.lookIn name od=some (mA name):=by
 obtain⟨o,es,ep,ho,hd,hk,_,hm⟩:=n;refine⟨o,ho,fun name=>?_⟩;have e:=hm name;unfold nsFind findBy at e;rw[← Array.find?_toList] at e;unfold PySem.W.lookIn;rw[hd];dsimp only;split
 ·rename_i y q;rw[q] at e;exact congrArg some e
 ·rename_i q;rw[q] at e;have a:es.toList.any (·.refKey)=false:=by
   rw[List.any_eq_false];intro y hy;obtain⟨z,t,hkey⟩:=hk y (Array.mem_toList_iff.mp hy);simp[DictEntry.refKey,hkey]
  have a':¬es.toList.any (·.refKey)=true:=by rw[a];exact xR
  rw[if_neg a'];exact congrArg some e
theorem VW.look(I:VW h x dx C mA):∃od,PySem.W.InstAt h x (PySem.W.instObj C dx) C (some od)/\∀name,PySem.W.lookIn name od=some (mA name) :=
 let ⟨od,ho,hl⟩:=SJ I.ns
 ⟨od,⟨I.obj,rfl,rfl,ho⟩,hl⟩
section
variable{prog:fA}{w:fB}{A:fD}{E:eQ}{s:eX}{K:uFg}{x dx C f:eZ}{mA:eR}{name:Str}{v:eY}
theorem Pe{expr:Bool}{Q:eQ}(X:K.In s.heap)(I:VW s.heap x dx C mA)(hg:PySem.W.plainGet K C name=true)(hh:PySem.W.hasDictIn K C=true)(ha:PySem.W.findIn K (.ref C) name=some none)(hv:mA name=some v)(hv':PySem.W.handedIn v=true)(h:Q v {s with toks:=s.toks+1 }) :
  wpAny (model prog w) A (getAttr (.ref x) name expr) Q E s:=by
 obtain⟨od,J,hl⟩:=I.look;exact PySem.W.get_value X J (PySem.W.plainGet_of hg).1 (PySem.W.findObj_own hh ha rfl (by rw[hl,hv])) hv' h
theorem NF{pl:Sem Bool}{Q:eY×List eY->eX->Prop}(X:K.In s.heap)(I:VW s.heap x dx C mA)(hg:PySem.W.plainGet K C name=true)(hf:PySem.W.findIn K (.ref C) name=some (some (.ref f)))(ht:PySem.W.isFn K (.ref f)=true)(hv:mA name=none)(h:Q (.ref f,[.ref x]) s) :
  wpAny (model prog w) A (getMethod (.ref x) name pl) Q E s:=by
 obtain⟨od,J,hl⟩:=I.look;exact PySem.W.method_fn X J (PySem.W.plainGet_of hg).1 (PySem.W.plainGet_of hg).2 hf (beq_iff_eq.mp ht) (by show (PySem.W.lookIn name od).map (·.isSome)=some false;rw[hl,hv];rfl) h
theorem Oz{ns:eS}{Q:Unit->eX->Prop}(X:K.In s.heap)(I:VW s.heap x dx C mA)(hs:PySem.W.findIn K (.ref C) "__setattr__" = some (some (.builtin "object.__setattr__")))(hp:PySem.W.plainOver K C=true)(ht:PySem.W.takerIn K C name=some none)(hh:PySem.W.hasDictIn K C=true)(hw:PySem.Within mA ns)(hsz:ns.length<=sizeLine)(h:∀h',VW h' x dx C (fun y=>if y=name then some v else mA y)->Heap.SameBut dx s.heap h'->Q () {s with heap:=h',toks:=s.toks+2 }) :
  wpAny (model prog w) A (setAttr (.ref x) name v) Q E s:=by
 obtain⟨od,J,hl⟩:=I.look;refine PySem.W.set_plain X J hs (PySem.W.osa_open (s:={s with toks:=s.toks+1 }) (r:=none) X J hp ht fun b=>?_);obtain⟨cd,hc,hd'⟩:=PySem.W.any_some hh;have hx:s.heap.get? x=some ⟨.ref C,some dx,.plain,#[]⟩:=I.obj;refine wpAny_bind (wpAny_pure (wpAny_bind (wpAny_bind (wpAny_loadPart hx (wpAny_bind (PySem.W.Looks.here (s:={s with toks:=s.toks+1 }) (PySem.W.looks_clsIn X hc) ?_))))));rw[hd'];refine wpAny_pure (a:=some dx) (wpAny_bind (wpAny_pure (wpAny_bind ?_)));refine wpAny_nsSet1 (s:={s with toks:=s.toks+1 }) I.ns fun h' hn2 hs2=>?_;obtain⟨oD,esD,epD,hoD,hdD,hcD⟩:=hn2.count (PySem.Within.cons name v hw);refine wpAny_bind (wpAny_lookBehind hoD (by rw[hdD];exact pastItsLine_dict (yK hcD (by rw[xF];lia))) ?_);exact wpAny_pure (h _ ⟨(hs2.2 _ (Ne.symm I.ne)).trans I.obj,hn2,I.ne⟩ hs2)
theorem P9{R:Result->eX->Prop}{vs:eU}{kw:List (Str×eY)}(X:K.In s.heap)(hm:PySem.W.makesIn K C=true)(hi:PySem.W.findIn K (.ref C) "__init__" = some (some (.ref f)))(hf:PySem.W.typeIn K (.ref f)=some (.type "function"))(h:codeAny (model prog w) (A.under (.builtin "type.__call__" ⟨.ref C::vs,kw⟩)) (.call (.ref f) ⟨.ref (s.heap.objs.size+1)::vs,kw⟩) (PySem.W.InitBack (s.heap.objs.size+1) R) {s with heap:=(s.heap.push PySem.W.emptyDict).push (PySem.W.instObj C s.heap.objs.size) }) :
  codeAny (model prog w) A (.call (.ref C) ⟨vs,kw⟩) R s:=by
 obtain⟨hh,g,d,t,os⟩:=s;exact PySem.W.make_core (PySem.W.makes_of X hm) (PySem.W.looks_findIn X hi) (fun self=>PySem.W.bind_fn X self hf) (.inl rfl) h
end
def Zk(f:Str)(v:V):List (Str×V)->List (Str×V)
 | []=>[(f,v)]
 | (g,x)::r=>if g=f then (g,v)::r else (g,x)::Zk f v r
theorem Yg(f g:Str)(v:V):∀fs:List (Str×V),(Zk f v fs).lookup g=if g=f then some v else fs.lookup g
 | []=>by
  show List.lookup g [(f,v)]=_
  by_cases h:g=f
  ·grind
  ·grind
 | (k,x)::r=>by
  have ih:=Yg f g v r;rw[show Zk f v ((k,x)::r)=(if k=f then (k,v)::r else (k,x)::Zk f v r) from rfl]
  by_cases hk:k=f
  ·grind
  ·grind
theorem DR(f:Str)(v:V):∀fs:List (Str×V),f∈(Zk f v fs).map (·.1)/\∀g,g∈fs.map (·.1)->g∈(Zk f v fs).map (·.1)
 | []=>⟨by simp[Zk],fun g h=>by simp at h⟩
 | (k,x)::r=>by
  obtain⟨i1,i2⟩:=DR f v r;rw[show Zk f v ((k,x)::r)=(if k=f then (k,v)::r else (k,x)::Zk f v r) from rfl]
  by_cases hk:k=f
  ·rw[if_pos hk];subst hk;exact⟨by simp,fun g h=>by simpa using h⟩
  ·grind
theorem JV(f:Str)(v:V):∀fs:List (Str×V),(Zk f v fs).length<=fs.length+1
 | []=>by simp[Zk]
 | (k,x)::r=>by
  have ih:=JV f v r;rw[show Zk f v ((k,x)::r)=(if k=f then (k,v)::r else (k,x)::Zk f v r) from rfl]
  by_cases hk:k=f
  ·rw[if_pos hk,xF,xF];lia
  ·rw[if_neg hk,xF,xF];lia
theorem YF.some_of(r:YF (some v) o):∃u,o=some u/\ZG v u:=by
 cases o with
 | none=>exact(show False from r).elim
 | some u=>exact⟨u,rfl,r⟩
theorem YF.none_of(r:YF none o):o=none:=by
 cases o with
 | none=>rfl
 | some u=>exact(show False from r).elim
theorem RG(r:ZG v u):PySem.W.handedIn u=true:=by
 cases v with
 | non=>cases (show u=Value.none from r);rfl
 | bl b=>cases (show u=Value.bool b from r);rfl
 | int i=>obtain⟨t,e⟩:=(show ∃t,u=Value.int i t from r);cases e;rfl
 | str x=>obtain⟨t,e⟩:=(show ∃t,u=Value.str x t from r);cases e;rfl
 | byt b=>obtain⟨t,e⟩:=(show ∃t,u=Value.bytes b t from r);cases e;rfl
 | flt b=>obtain⟨t,e⟩:=(show ∃t,u=Value.float b t from r);cases e;rfl
 | ref a=>cases (show u=Value.ref a from r);rfl
 | ty n=>cases (show u=Value.type n from r);rfl
theorem Df(hok:YG P w H h)(e:H a=some (.ins C dx fs)):∃mA,VW h a dx C mA/\(∀f,YF (fs.lookup f) (mA f))/\PySem.Within mA (fs.map (·.1))/\fs.length<=1000/\H dx=some (.own a):=by
 obtain⟨d,z,ne,ob,mA,n,r,q⟩:=(show ZM P w H h a (.ins C dx fs) from hok a _ e);exact⟨mA,⟨ob,n,ne⟩,r,q,z,d⟩
structure VN (K:uFg) (C:eZ):Prop where
 pg:PySem.W.plainGet K C Str.empty=true
 hd:PySem.W.hasDictIn K C=true
 po:PySem.W.plainOver K C=true
 sa:PySem.W.findIn K (.ref C) "__setattr__" = some (some (.builtin "object.__setattr__"))
theorem VN.get{K:uFg}{C:eZ}(c:VN K C)(f:Str):PySem.W.plainGet K C f=true:=c.pg
def ZR(K:uFg)(C:eZ)(f:Str):Prop:=PySem.W.findIn K (.ref C) f=some none
theorem ZR.taker{K:uFg}{C:eZ}{f:Str}(n:ZR K C f):PySem.W.takerIn K C f=some none:=by
 unfold PySem.W.takerIn;rw[show PySem.W.findIn K (.ref C) f=some none from n];rfl
structure VI (K:uFg) (C:eZ) (m:Str) (f:eZ):Prop where
 at_:PySem.W.findIn K (.ref C) m=some (some (.ref f))
 fn:PySem.W.isFn K (.ref f)=true
 kp:PySem.W.keepIn K (.ref f)=true
section
variable{X:Cx}{pins:List (eZ×Obj)}{σ:St}{H:Hp}{s:eX}{a C dx:eZ}{fs:List (Str×V)}{f:Str}{v:V}{A:fD}{E:eQ}
theorem dW{b:Bool}{Q:eQ}(I:ZD X pins σ H s)(e:H a=some (.ins C dx fs))(c:VN X.K C)(n:ZR X.K C f)(l:fs.lookup f=some v)(h:∀u s',ZD X pins σ H s'->ZG v u->Q u s'):wpAny (model X.prog X.w) A (getAttr (.ref a) f b) Q E s:=by
 obtain⟨mA,O,r,_,_,_⟩:=Df I.hok e;obtain⟨u,hu,ru⟩:=YF.some_of (v:=v) (o:=mA f) (by rw[← l];exact r f);exact Pe I.kIn O (c.get f) c.hd n hu (RG ru) (h u _ (I.tok _) ru)
theorem EI{m:Str}{g:eZ}{pl:Sem Bool}{Q:eY×List eY->eX->Prop}(I:ZD X pins σ H s)(e:H a=some (.ins C dx fs))(c:VN X.K C)(k:VI X.K C m g)(l:fs.lookup m=none)(h:Q (.ref g,[.ref a]) s):wpAny (model X.prog X.w) A (getMethod (.ref a) m pl) Q E s:=by
 obtain⟨mA,O,r,_,_,_⟩:=Df I.hok e;have hn:mA m=none:=YF.none_of (by rw[← l];exact r m);exact NF I.kIn O (c.get m) k.at_ k.fn hn h
theorem XJ{y:V}{u:eY}{Q:Unit->eX->Prop}(I:ZD X pins σ H s)(e:H a=some (.ins C dx fs))(c:VN X.K C)(n:ZR X.K C f)(hl:fs.length < 1000)(ry:ZG y u)(h:∀s',ZD X pins σ (upd H a (.ins C dx (Zk f y fs))) s'->Q () s'):wpAny (model X.prog X.w) A (setAttr (.ref a) f u) Q E s:=by
 obtain⟨mA,O,r,wi,_,ho⟩:=Df I.hok e;have hz:(fs.map (·.1)).length<=sizeLine:=by rw[xA,sizeLine_eq];lia
 refine Oz I.kIn O c.sa c.po n.taker c.hd wi hz fun h' O' sb=>h _ ?_;have hd:∃o,h'.get? dx=some o:=let ⟨o,_,_,e',_⟩:=O'.ns;⟨o,e'⟩
 refine I.write (x:=a) (e:=dx) (by rw[e];exact True.intro) (.inr ho) (fun b q hb z=>(sb.2 b hb).trans z) hd ?_;refine⟨by rw[Zc O.ne];exact ho,?_,O.ne,O'.obj,_,O'.ns,fun g=>?_,fun g hg=>?_⟩
 ·have:=JV f y fs;lia
 ·show YF ((Zk f y fs).lookup g) (if g=f then some u else mA g);rw[Yg]
  by_cases q:g=f
  ·rw[if_pos q,if_pos q];exact ry
  ·rw[if_neg q,if_neg q];exact r g
 ·by_cases q:g=f
  ·rw[q];exact(DR f y fs).1
  ·refine(DR f y fs).2 g (wi g fun z=>hg ?_);show (if g=f then some u else mA g)=none;rw[if_neg q];exact z
theorem ZD.made(I:ZD X pins σ H s):ZD X pins σ (upd (upd H s.heap.objs.size (.own (s.heap.objs.size+1))) (s.heap.objs.size+1) (.ins C s.heap.objs.size []))
  {s with heap:=(s.heap.push PySem.W.emptyDict).push (PySem.W.instObj C s.heap.objs.size) }:=by
 have e1:(s.heap.push PySem.W.emptyDict).get? s.heap.objs.size=some PySem.W.emptyDict:=xL s.heap rfl;have e2:((s.heap.push PySem.W.emptyDict).push (PySem.W.instObj C s.heap.objs.size)).get? (s.heap.objs.size+1)=some (PySem.W.instObj C s.heap.objs.size):=by
  have:=xL (s.heap.push PySem.W.emptyDict) (o:=PySem.W.instObj C s.heap.objs.size) rfl
  rwa [yN] at this
 have e3:(s.heap.push PySem.W.emptyDict).Ns s.heap.objs.size (fun _=>none):=⟨PySem.W.emptyDict,#[],_,e1,rfl,(fun e he=>absurd he (by simp)),fun _=>rfl⟩;have I1:=I.laid (a:=s.heap.objs.size) (o:=.own (s.heap.objs.size+1)) (h':=s.heap.push PySem.W.emptyDict) (t':=s.toks) (fun b u q=>xB _ q) (xH _) ⟨_,e1⟩;refine I1.laid (a:=s.heap.objs.size+1) (o:=.ins C s.heap.objs.size []) (t':=s.toks) (fun b u q=>xB _ q) (zZ (yN _ _)) ?_;have ne:s.heap.objs.size≠s.heap.objs.size+1:=yJ (wF _);refine⟨by rw[Zc ne,Zg],yO _,ne,e2,fun _=>none,(Heap.Ns1.of_empty e3).at fun o q=>xB _ q,fun _=>True.intro,fun y hy=>absurd rfl hy⟩
theorem QB(hb:attributeBase e f env (eval e env)=eval e env)(h:wpAny (model prog w) A (eval e env) (fun o s₁=>wpAny (model prog w) A (getAttr o f true) Q E s₁) E s):wpAny (model prog w) A (eval (.Attribute e f pos) env) Q E s :=
 Attribute_any_ h (by rw[arm_eval_Attribute,hb])
end
inductive Cm(K:uFg)(f:Str)(Q:VK)(x:V)(H1:Hp):Prop
 |mk(a C dx fs v)(_:x = .ref a)(_:H1 a=some (.ins C dx fs))(_:VN K C)(_:ZR K C f)(_:fs.lookup f=some v)(_:Q v H1)
def DM(K:uFg)(ta:TE)(f:Str):TE:=fun σ H Q=>ta σ H fun x H1=>Cm K f Q x H1
inductive sFld_(K:uFg)(f:Str)(D:ZW)(σ:St)(y x:V)(H2:Hp):Prop
 |mk(a C dx fs)(_:x = .ref a)(_:H2 a=some (.ins C dx fs))(_:VN K C)(_:ZR K C f)(_:fs.length < 1000)(_:D.nx σ (upd H2 a (.ins C dx (Zk f y fs))))
def Qj(K:uFg)(ta tv:TE)(f:Str):TS:=fun D σ H=>tv σ H fun y H1=>ta σ H1 fun x H2=>sFld_ K f D σ y x H2
theorem KG(he:PE X e ta)(hb:attributeBase e f X.env (eval e X.env)=eval e X.env):PE X (.Attribute e f pos) (DM X.K ta f):=by
 intro pins s σ H Q I h;refine QB hb (thn (he pins s σ H _ I h) fun u s1 ⟨x,H1,I1,rx,a,C,dx,fs,v,ex,ea,c,n,l,q⟩=>?_);subst ex;obtain rfl:u=Value.ref a:=rx;exact dW I1 ea c n l fun u' s2 I2 ru=>⟨v,H1,I2,ru,q⟩
section
variable{X:Cx}{pins:List (eZ×Obj)}{σ:St}{H:Hp}{s:eX}{A:fD}{E:eQ}{Q:eQ}{c:eY}{b:Bool}
inductive YO (K:uFg) (H:Hp):V->eY->Prop where
 | non:YO K H .non (.type "NoneType")
 | bl (x:Bool):YO K H (.bl x) (.type "bool")
 | int (i:Int):YO K H (.int i) (.type "int")
 | str (x:Str):YO K H (.str x) (.type "str")
 | flt (x:UInt64):YO K H (.flt x) (.type "float")
 | lst {a:eZ}{xs:aG}(e:H a=some (.lst xs)):YO K H (.ref a) (.type "list")
 | frz {a:eZ}{o:Obj}{xs:aG}(e:H a=some (.frz o (.lst xs))):YO K H (.ref a) (.type "list")
 | tup {a:eZ}{xs:aG}(e:H a=some (.tup xs)):YO K H (.ref a) (.type "tuple")
 | dK {a:eZ}{kvs:List (ZQ×V)}(e:H a=some (.dK kvs)):YO K H (.ref a) (.type "dict")
 | dT {a:eZ}{kvs:List (List ZQ×V)}(e:H a=some (.dT kvs)):YO K H (.ref a) (.type "dict")
 | ins {a C dx:eZ}{fs:List (Str×V)}(e:H a=some (.ins C dx fs)) (cl:VN K C) (ha:PySem.W.findIn K (.ref C) "__class__" = some (some (.builtin "object.__class__")))
   (hn:PySem.W.specialIn K (.builtin "object.__class__") "__get__" = some (some (.builtin "getset_descriptor.__get__"))) (htk:PySem.W.takesIn K (.builtin "object.__class__")=some true)
   (hm:PySem.W.mroIn K C (.type "object")=some true):YO K H (.ref a) (.ref C)
theorem OM{x:V}{u t:eY}(I:ZD X pins σ H s)(rx:ZG x u)(ty:YO X.K H x t)(e:PySem.W.kitOne X.K t c=some b)(h:∀tk,Q (.bool b) {s with toks:=tk }) :
  wpAny (model X.prog X.w) A (call (.builtin "isinstance") [u,c]) Q E s:=by
 cases ty with
 | non=>cases (show u=Value.none from rx);exact PySem.W.kia_one PySem.W.kitx_none I.kIn True.intro e (fun z=>nomatch z) h
 | bl y=>cases (show u=Value.bool y from rx);exact PySem.W.kia_one PySem.W.kitx_bool I.kIn True.intro e (fun z=>nomatch z) h
 | int i=>obtain⟨t,q⟩:=(show ∃t,u=Value.int i t from rx);cases q;exact PySem.W.kia_one PySem.W.kitx_int I.kIn True.intro e (fun z=>nomatch z) h
 | str y=>obtain⟨t,q⟩:=(show ∃t,u=Value.str y t from rx);cases q;exact PySem.W.kia_one PySem.W.kitx_str I.kIn True.intro e (fun z=>nomatch z) h
 | flt y=>obtain⟨t,q⟩:=(show ∃t,u=Value.float y t from rx);cases q;exact PySem.W.kia_one PySem.W.kitx_float I.kIn True.intro e (fun z=>nomatch z) h
 | @lst a xs ea =>
  cases (show u=Value.ref a from rx);obtain⟨_,_,n,_,h1⟩:=(show ZM X.prog X.w H s.heap a (.lst xs) from I.hok a _ ea);exact PySem.W.kia_one PySem.W.kitx_list I.kIn ⟨_,h1,rfl⟩ e (fun z=>nomatch z) h
 | @frz a ob xs ea =>
  cases (show u=Value.ref a from rx);obtain⟨_,_,_,n,_,h1⟩:=(show ZM X.prog X.w H s.heap a (.frz ob (.lst xs)) from I.hok a _ ea);exact PySem.W.kia_one PySem.W.kitx_list I.kIn ⟨_,h1,rfl⟩ e (fun z=>nomatch z) h
 | @tup a xs ea =>
  cases (show u=Value.ref a from rx);obtain⟨_,_,_,p⟩:=(show ZM X.prog X.w H s.heap a (.tup xs) from I.hok a _ ea);obtain⟨o,h1,h2,_⟩:=p;exact PySem.W.kia_one PySem.W.kitx_tuple I.kIn ⟨o,h1,h2⟩ e (fun z=>nomatch z) h
 | @dK a kvs ea =>
  cases (show u=Value.ref a from rx);obtain⟨_,_,vs,_,p⟩:=(show ZM X.prog X.w H s.heap a (.dK kvs) from I.hok a _ ea);obtain⟨o,es,ep,h1,h2,_⟩:=p;exact PySem.W.kia_one PySem.W.kitx_dict I.kIn ⟨o,h1,h2.1⟩ e (fun z=>nomatch z) h
 | @dT a kvs ea =>
  cases (show u=Value.ref a from rx);obtain⟨_,_,xs,_,o,es,ep,h1,h2,_⟩:=(show ZM X.prog X.w H s.heap a (.dT kvs) from I.hok a _ ea);exact PySem.W.kia_one PySem.W.kitx_dict I.kIn ⟨o,h1,h2.1⟩ e (fun z=>nomatch z) h
 | @ins a C dx fs ea cl ha hn htk hm =>
  cases (show u=Value.ref a from rx);obtain⟨mA,O,_⟩:=Df I.hok ea;obtain⟨od,J,_⟩:=O.look;exact PySem.W.kia_one (PySem.W.kitx_own (cl.get _) cl.hd ha hn htk hm) I.kIn J e (fun z=>nomatch z) h
end
structure ZJ (k:Nat) (A:fD):Prop where
 hd:A.handled=none
 dp:A.depth+3 * k+5 < recursionLimit
 un:A.units+16 * k+200 < cLine
theorem ZJ.mono(r:ZJ k A)(h:j<=k):ZJ j A:=⟨r.hd,by have:=r.dp;lia,by have:=r.un;lia⟩
theorem ZJ.deeper(r:ZJ (k+1) A)(env:Env):ZJ k (A.deeper env) :=
 ⟨r.hd,by have:=r.dp;show A.depth+1+3 * k+5 < _;lia,by have:=r.un;show A.units+3+16 * k+200 < _;lia⟩
theorem SI{A:fD}{C:eZ}{us:eU}{kw:List (Str×eY)}:(A.under (.builtin "type.__call__" ⟨.ref C::us,kw⟩)).depth=A.depth+1:=by
 first | rfl | simp[Around.under,Code.weight,Code.isCreation,Code.isGuard,Code.isCaller,Code.frames,Code.isFrame,guardIds]
theorem QL{A:fD}{C:eZ}{us:eU}{kw:List (Str×eY)}:(A.under (.builtin "type.__call__" ⟨.ref C::us,kw⟩)).units=A.units+1:=by
 first | rfl | simp[Around.under,Code.cUnits,Code.frames,Code.isFrame]
theorem ZJ.make(r:ZJ (k+1) A)(C:eZ)(us:eU)(kw:List (Str×eY)):ZJ k (A.under (.builtin "type.__call__" ⟨.ref C::us,kw⟩)) :=
 ⟨r.hd,by have:=r.dp;rw[SI];lia,by have:=r.un;rw[QL];lia⟩
theorem ZJ.depth(r:ZJ k A):A.depth < recursionLimit:=by have:=r.dp;lia
theorem ZJ.units(r:ZJ k A):A.units+64 < cLine:=by have:=r.un;lia
def Ud:TA:=fun _ H Q=>Q [] H
def Vs(ta:TE)(tr:TA):TA:=fun σ H Q=>ta σ H fun x H1=>tr σ H1 fun xs H2=>Q (x::xs) H2
section
variable{t:TA}
def QU(t:TA):TE:=fun σ H Q=>t σ H fun xs H1=>xs.length<=sizeLine/\∀p,H1 p=none->Q (.ref p) (upd H1 p (.tup xs))
def MO(t:TA):TE:=fun σ H Q=>t σ H fun xs H1=>xs.length<=sizeLine/\∀p,H1 p=none->Q (.ref p) (upd H1 p (.lst xs))
end
abbrev Sp:=List V->Hp->VK->XK->Prop
abbrev VX:=List Env->Hp->eX->XK->eY->eX->Prop
structure WQ (P:fA) (w:fB) (K:uFg) (mg:eR) (base:Heap) (A:fD) (outer:List Env) (s:eX) (H:Hp):Prop where
 frames:A.frames=some outer
 mod:Mod K mg base
 bs:∀b o,base.get? b=some o->s.heap.get? b=some o/\H b=none
 bsz:base.objs.size<=s.heap.objs.size
 funs:s.heap.FunFrames base outer
 frf:∀b∈frs outer,H b=none
 hok:YG P w H s.heap
 bare:AllBare s.gens
def CE(outer:List Env)(P:fA)(w:fB)(H:Hp)(s:eX)(Q:VK)(u:eY)(s':eX):Prop :=
 ∃v H',s'.os=s.os/\AllBare s'.gens/\Un (frs outer) [] H H' s.heap s'.heap/\YG P w H' s'.heap/\ZG v u/\Q v H'
def CR(CX:VX)(outer:List Env)(P:fA)(w:fB)(H:Hp)(s:eX)(Q:VK)(E:XK)(r:Result)(s':eX):Prop :=
 match r with
 | .ok (.ret u)=>CE outer P w H s Q u s'
 | .ok _=>False
 | .error e=>CX outer H s E e s'
structure ZZ (P:fA) (w:fB) (K:uFg) (mg:eR) (base:Heap) (CX:VX) (k:Nat) (f:eZ) (fd:FuncData) (ps:eS) (sp:Sp):Prop where
 len:∀vs H Q E,sp vs H Q E->vs.length=ps.length
 run:∀(A:fD)(outer:List Env)(s:eX)(H:Hp)(args:Args)(us:eU)(vs:aG)(Q:VK)(E:XK),ZJ k A->WQ P w K mg base A outer s H->BindsTo s fd args (ps.zip us)->ZH vs us->sp vs H Q E ->
  codeAny (model P w) A (.call (.ref f) args) (CR CX outer P w H s Q E) s
theorem ZZ.mono{P:fA}{w:fB}{K:uFg}{mg:eR}{base:Heap}{CX:VX}{j k:Nat}{f:eZ}{fd:FuncData}{ps:eS}{sp:Sp}(F:ZZ P w K mg base CX j f fd ps sp)(h:j<=k) :
  ZZ P w K mg base CX k f fd ps sp:=⟨F.len,fun A outer s H args us vs Q E hr=>F.run A outer s H args us vs Q E (hr.mono h)⟩
theorem ZZ.imp{P:fA}{w:fB}{K:uFg}{mg:eR}{base:Heap}{CX:VX}{k:Nat}{f:eZ}{fd:FuncData}{ps:eS}{sp sp':Sp}(F:ZZ P w K mg base CX k f fd ps sp)(h:∀vs H Q E,sp' vs H Q E->sp vs H Q E):ZZ P w K mg base CX k f fd ps sp' :=
 ⟨fun vs H Q E q=>F.len vs H Q E (h _ _ _ _ q),fun A outer s H args us vs Q E hr he hb hv hs=>F.run A outer s H args us vs Q E hr he hb hv (h _ _ _ _ hs)⟩
theorem WQ.make{P:fA}{w:fB}{K:uFg}{mg:eR}{base:Heap}{A:fD}{outer:List Env}{s:eX}{H:Hp}(e:WQ P w K mg base A outer s H)(C:eZ)(us:eU)(kw:List (Str×eY)) :
  WQ P w K mg base (A.under (.builtin "type.__call__" ⟨.ref C::us,kw⟩)) outer s H:=⟨by first | exact e.frames | (simpa [Around.under,Code.envs,Code.isFrame,pushEnvs] using e.frames),e.mod,e.bs,e.bsz,e.funs,e.frf,e.hok,e.bare⟩
section
variable{X:Cx}{pins:List (eZ×Obj)}{σ:St}{H:Hp}{s s':eX}
theorem ZD.env0(I:ZD X pins σ H s):WQ X.prog X.w X.K X.mg X.base X.A X.stack s H :=
 ⟨I.ok.frames,I.ok.mod,I.bs,yK I.ok.bsz I.sz,I.stack,I.stkFree,I.hok,I.bare⟩
theorem ZD.after{Q:VK}{u:eY}(I:ZD X pins σ H s)(h:CE X.stack X.prog X.w H s Q u s'):EP X pins σ Q u s':=by
 obtain⟨v,H',os,bare,un,hok,r,q⟩:=h;obtain⟨hh,g,d,t,os'⟩:=s';obtain rfl:os'=s.os:=os;exact⟨v,H',I.call (h':=hh) (g':=g) (d':=d) (t':=t) (ch:=[]) un hok bare (fun b z=>absurd z (by simp)),r,q⟩
end
def Fm(sp:Sp)(dvs:aG)(E:XK)(t:TA):TE:=fun σ H Q=>t σ H fun vs H1=>sp (vs++dvs) H1 Q E
inductive Au(C:eZ)(m:Str)(sp:Sp)(dvs:aG)(E:XK)(t:TA)(σ:St)(Q:VK)(x:V)(H1:Hp):Prop
 |mk(a dx fs)(_:x = .ref a)(_:H1 a=some (.ins C dx fs))(_:fs.lookup m=none)(_:t σ H1 fun vs H2=>sp (x::(vs++dvs)) H2 Q E)
def De(C:eZ)(m:Str)(sp:Sp)(dvs:aG)(E:XK)(ta:TE)(t:TA):TE:=fun σ H Q=>ta σ H fun x H1=>Au C m sp dvs E t σ Q x H1
def HE(C:eZ)(sp:Sp)(dvs:aG)(E:XK)(t:TA):TE:=fun σ H Q=>t σ H fun vs H1=>∀x dx,H1 x=none->H1 dx=none->dx≠x ->
 sp (.ref x::(vs++dvs)) (upd (upd H1 dx (.own x)) x (.ins C dx [])) (fun v H2=>v = .non/\Q (.ref x) H2) E
def YE(K:uFg)(fd:FuncData)(ps:eS)(ds:eU):Prop :=
 ∀s us,K.In s.heap->(us++ds).length=ps.length->BindsTo s fd ⟨us,[]⟩ (ps.zip (us++ds))
theorem YE.all{K:uFg}{fd:FuncData}{ps:eS}(h:∀us:List eY,us.length=ps.length->bindArgs fd ⟨us,[]⟩=pure (ps.zip us)):YE K fd ps []:=fun s us _ hl=>by
 rw[yM] at hl ⊢;exact .of_eq (h us hl)
def JH(CX:VX)(X:Cx)(E:XK):Prop:=∀(pins:List (eZ×Obj))(σ:St)(H:Hp)(s:eX)(e:eY)(s':eX),ZD X pins σ H s->CX X.stack H s E e s'->X.xe e s'
section
variable{X:Cx}{CX:VX}{k:Nat}{f C:eZ}{fd:FuncData}{ps:eS}{sp:Sp}{dvs:aG}{ds:eU}{E:XK}{x m:Str}{p pos apos:Pos}{e o:Expr}{es:List Expr}{ta:TE}{t:TA}
theorem FK{pins:List (eZ×Obj)}{σ:St}{H:Hp}{s:eX}{Q:VK}{us:eU}{vs:aG}(F:ZZ X.prog X.w X.K X.mg X.base CX k f fd ps sp)(hr:ZJ k X.A)(hb:YE X.K fd ps ds)(hd:ZH dvs ds)(hx:JH CX X E)(I:ZD X pins σ H s)(r:ZH vs us)(h:sp (vs++dvs) H Q E):wpAny (model X.prog X.w) X.A (call (.ref f) us) (EP X pins σ Q) X.xe s:=by
 have r2:ZH (vs++dvs) (us++ds):=r.append hd;have hl:(us++ds).length=ps.length:=by rw[← r2.length];exact F.len _ _ _ _ h
 refine wpAny_call (codeAny_mono (F.run X.A X.stack s H ⟨us,[]⟩ (us++ds) (vs++dvs) Q E hr I.env0 (hb s us I.kIn hl) r2 h) fun r s' hq=>?_);cases r with
 | error e=>exact hx pins σ H s e s' I hq
 | ok fl =>
  cases fl with
  | ret u=>exact I.after hq
  | next=>exact False.elim hq
  | brk=>exact False.elim hq
  | cont=>exact False.elim hq
theorem Re(F:ZZ X.prog X.w X.K X.mg X.base CX k f fd ps sp)(hr:ZJ k X.A)(hg:Gl X x)(hm:X.mg x=some (.ref f))(hk:PySem.W.keepIn X.K (.ref f)=true)(hb:YE X.K fd ps ds)(hd:ZH dvs ds)(hx:JH CX X E)(ha:PA X (e::es) t)(hdb:(x == ("__debug__" : Str))=false:=by decide)(he:starEach (e::es) X.env=(false,eval e X.env)::starEach es X.env:=by rfl)(hpl:(backTo pos (starEach es X.env)).any (·.1)=false:=by rfl) :
  PE X (.Call (.Name x p) (e::es) [] pos) (Fm sp dvs E t):=by
 intro pins s σ H Q I h;refine wpAny_Call_Name_kw (Am I hg hm ?_ hdb);refine PySem.W.callWith_K (h₀:=X.base) I.ok.mod.kin hk (thn (ha pos pins s σ H _ I h) fun us s1 ⟨vs,H1,I1,r,q⟩=>⟨I1.kIn,?_⟩) he hpl;exact FK F hr hb hd hx I1 r q
theorem QP{pl:Sem Bool}(he:PE X o ta)(c:VN X.K C)(hm:VI X.K C m f)(F:ZZ X.prog X.w X.K X.mg X.base CX k f fd ps sp)(hr:ZJ k X.A)(hb:YE X.K fd ps ds)(hd:ZH dvs ds)(hx:JH CX X E)(ha:PA X (e::es) t)(hst:starEach (e::es) X.env=(false,eval e X.env)::starEach es X.env:=by rfl)(hpl:(backTo pos (starEach es X.env)).any (·.1)=false:=by rfl)(ht:eval (.Call (.Attribute o m apos) (e::es) [] pos) X.env=(do
   let ov ← eval o X.env
   standAt apos.atName
   let (f,first) ← holding [ov] (getMethod ov m pl)
   callWith pos f first (backTo pos (starEach (e::es) X.env)) (backToKw pos (keywordEach [] X.env))):=by rfl) :
  PE X (.Call (.Attribute o m apos) (e::es) [] pos) (De C m sp dvs E ta t):=by
 intro pins s σ H Q I h;refine PySem.W.methodCall_KW (pl:=pl) (thn (he pins s σ H _ I h) fun u s1 ⟨x,H1,I1,rx,a,dx,fs,ex,ea,l,q⟩=>?_) ht;subst ex;obtain rfl:u=Value.ref a:=rx;refine EI I1 ea c hm l ?_;refine PySem.W.callWith_K (first:=[.ref a]) (h₀:=X.base) I.ok.mod.kin hm.kp (thn (ha pos pins s1 σ H1 _ I1 q) fun us s2 ⟨vs,H2,I2,r,q2⟩=>⟨I2.kIn,?_⟩) hst hpl;exact FK (us:=.ref a::us) (vs:=.ref a::vs) F hr hb hd hx I2 (.cons rfl r) q2
theorem SS(he:PE X o ta)(c:VN X.K C)(hm:VI X.K C m f)(F:ZZ X.prog X.w X.K X.mg X.base CX k f fd ps sp)(hr:ZJ k X.A)(hb:YE X.K fd ps ds)(hd:ZH dvs ds)(hx:JH CX X E)(ht:eval (.Call (.Attribute o m apos) [] [] pos) X.env=(do
   let ov ← eval o X.env
   standAt apos.atName
   let (f,first) ← holding [ov] (getMethod ov m pl)
   callWith pos f first (backTo pos (starEach [] X.env)) (backToKw pos (keywordEach [] X.env))):=by rfl) :
  PE X (.Call (.Attribute o m apos) [] [] pos) (De C m sp dvs E ta Ud):=by
 intro pins s σ H Q I h;refine PySem.W.methodCall_KW (pl:=pl) (thn (he pins s σ H _ I h) fun u s1 ⟨x,H1,I1,rx,a,dx,fs,ex,ea,l,q⟩=>?_) ht;subst ex;obtain rfl:u=Value.ref a:=rx;refine EI I1 ea c hm l ?_;exact PySem.W.callWith_K0 (first:=[.ref a]) I1.kIn hm.kp (FK (us:=[.ref a]) (vs:=[.ref a]) F hr hb hd hx I1 (.cons rfl .nil) q)
structure Mk (K:uFg) (C f:eZ):Prop where
 makes:PySem.W.makesIn K C=true
 init:PySem.W.findIn K (.ref C) "__init__" = some (some (.ref f))
 fn:PySem.W.isFn K (.ref f)=true
 kp:PySem.W.keepIn K (.ref C)=true
theorem RA{pins:List (eZ×Obj)}{σ:St}{H:Hp}{s:eX}{Q:VK}{us:eU}{vs:aG}(M:Mk X.K C f)(F:ZZ X.prog X.w X.K X.mg X.base CX k f fd ps sp)(hr:ZJ (k+1) X.A)(hb:YE X.K fd ps ds)(hd:ZH dvs ds)(hx:JH CX X E)(I:ZD X pins σ H s)(r:ZH vs us)(h:∀x dx,H x=none->H dx=none->dx≠x->sp (.ref x::(vs++dvs)) (upd (upd H dx (.own x)) x (.ins C dx [])) (fun v H2=>v = .non/\Q (.ref x) H2) E) :
  wpAny (model X.prog X.w) X.A (call (.ref C) us) (EP X pins σ Q) X.xe s:=by
 have hq:=h (s.heap.objs.size+1) s.heap.objs.size (I.hok.fresh (Nat.le_succ _)) (I.hok.fresh (xH _)) (yJ (wF _));have I2:=ZD.made (C:=C) I;have r2:ZH (V.ref (s.heap.objs.size+1)::(vs++dvs)) (Value.ref (s.heap.objs.size+1)::(us++ds)):=.cons rfl (r.append hd);have hl:(Value.ref (s.heap.objs.size+1)::us++ds).length=ps.length:=by
  have e:=r2.length;rw[F.len _ _ _ _ hq] at e;exact e.symm
 refine wpAny_call (P9 (f:=f) I.kIn M.makes M.init (beq_iff_eq.mp M.fn) (codeAny_mono (F.run _ X.stack _ _ ⟨Value.ref (s.heap.objs.size+1)::us,[]⟩ (Value.ref (s.heap.objs.size+1)::(us++ds)) _ _ E (hr.make C us []) (I2.env0.make C us []) (hb _ (Value.ref (s.heap.objs.size+1)::us) I2.kIn hl) r2 hq) fun r s' hq'=>?_));cases r with
 | error e=>exact hx pins σ _ _ e s' I2 hq'
 | ok fl =>
  cases fl with
  | ret u =>
   obtain⟨v,H',I3,rv,ev,q3⟩:=I2.after hq';subst ev;exact⟨rv,⟨V.ref (s.heap.objs.size+1),H',I3,rfl,q3⟩⟩
  | next=>exact False.elim hq'
  | brk=>exact False.elim hq'
  | cont=>exact False.elim hq'
theorem PQ(M:Mk X.K C f)(F:ZZ X.prog X.w X.K X.mg X.base CX k f fd ps sp)(hr:ZJ (k+1) X.A)(hg:Gl X x)(hm:X.mg x=some (.ref C))(hb:YE X.K fd ps ds)(hd:ZH dvs ds)(hx:JH CX X E)(hdb:(x == ("__debug__" : Str))=false:=by decide):PE X (.Call (.Name x p) [] [] pos) (HE C sp dvs E Ud):=by
 intro pins s σ H Q I h;refine wpAny_Call_Name_kw (Am I hg hm ?_ hdb);exact PySem.W.callWith_K0 I.kIn M.kp (RA (us:=[]) M F hr hb hd hx I .nil h)
end
section
variable{X:Cx}{CX:VX}{k:Nat}{f:eZ}{fd:FuncData}{ps ks:eS}{sp:Sp}{E:XK}{x:Str}{p pos:Pos}{e:Expr}{es:List Expr}{kws:List Keyword}{t tk:TA}
variable{g:List eY->List eY->List eY}{gV:List V->List V->List V}
end
structure ZL (N P:eS) (sc:Scope):Prop where
 kind:sc.kind = .function
 co:sc.isCoroutine=false
 gen:sc.isGenerator=false
 nd:N.Nodup
 pre:N.take P.length=P
 par:∀x∈P,sc.names.lookup x=some .local\/sc.names.lookup x=some .cell
 nofree:∀y∈sc.names,y.2 ≠ .free
theorem Gm{kindOf:Str->Option NameKind}{x:Str}:∀{binds:List (Str×eY)}{m:eR},(∀v,(x,v)∉binds)->bindL kindOf binds m x=m x
 | [],_,_=>rfl
 | (n,v)::r,m,h=>by
  unfold bindL;rw[Gm fun w hw=>h w (xG _ hw)];split
  ·have:x≠n:=by rintro rfl;exact h v xQ
   simp[this]
  ·rfl
theorem Hw{kindOf:Str->Option NameKind}{x:Str}:∀{binds:List (Str×eY)}{m:eR},(∀v,(x,v)∉binds)->bindC kindOf binds m x=m x
 | [],_,_=>rfl
 | (n,v)::r,m,h=>by
  unfold bindC;rw[Hw fun w hw=>h w (xG _ hw)];split
  ·rfl
  ·have:x≠n:=by rintro rfl;exact h v xQ
   simp[this]
theorem KH{kindOf:Str->Option NameKind}{x:Str}{v:eY}:∀{P:eS}{vs:eU}{i:Nat}{m:eR},P.Nodup->P[i]? = some x->vs[i]? = some v->kindOf x=some .local ->
  bindL kindOf (P.zip vs) m x=some v
 | [],_,_,_,_,h,_,_=>by simp at h
 | _::_,[],_,_,_,_,h,_=>by simp at h
 | p::P,w::vs,0,m,nd,h1,h2,hk=>by
  simp at h1 h2;subst h1;subst h2;show bindL kindOf ((p,w)::P.zip vs) m p=_;unfold bindL;rw[Gm fun v hv=>(yT.mp nd).1 (zG hv).1,if_pos hk];simp
 | p::P,w::vs,i+1,m,nd,h1,h2,hk=>by
  show bindL kindOf ((p,w)::P.zip vs) m x=_;unfold bindL;exact KH (i:=i) (yT.mp nd).2 (by simpa using h1) (by simpa using h2) hk
theorem L8{kindOf:Str->Option NameKind}{x:Str}{v:eY}:∀{P:eS}{vs:eU}{i:Nat}{m:eR},P.Nodup->P[i]? = some x->vs[i]? = some v->kindOf x≠some .local ->
  bindC kindOf (P.zip vs) m x=some v
 | [],_,_,_,_,h,_,_=>by simp at h
 | _::_,[],_,_,_,_,h,_=>by simp at h
 | p::P,w::vs,0,m,nd,h1,h2,hk=>by
  simp at h1 h2;subst h1;subst h2;show bindC kindOf ((p,w)::P.zip vs) m p=_;unfold bindC;rw[Hw fun v hv=>(yT.mp nd).1 (zG hv).1,if_neg hk];simp
 | p::P,w::vs,i+1,m,nd,h1,h2,hk=>by
  show bindC kindOf ((p,w)::P.zip vs) m x=_;unfold bindC;exact L8 (i:=i) (yT.mp nd).2 (by simpa using h1) (by simpa using h2) hk
def start(N:eS)(vs:aG):St:=vs.map some++List.replicate (N.length - vs.length) none
def Yp(CX:VX)(P:fA)(w:fB)(K:uFg)(mg:eR)(base:Heap)(N:eS)(qual:Str)(scope:Scope)(f:eZ)(cd:eY)(A:fD)(outer:List Env)(s:eX)(H:Hp)(E:XK):Cx where
 prog:=P
 w:=w
 K:=K
 mg:=mg
 base:=base
 A:=A.deeper (envOfC qual scope s.heap.objs.size f cd)
 N:=N
 s₀:=s
 H₀:=H
 env:=envOfC qual scope s.heap.objs.size f cd
 outer:=outer
 stack:=envOfC qual scope s.heap.objs.size f cd::outer
 ex:=[]
 calm:=true
 fn:=fun _=>true
 pn:=[]
 xe:=fun e s'=>wpAny (model P w) (A.deeper (envOfC qual scope s.heap.objs.size f cd)) (leaving (envOfC qual scope s.heap.objs.size f cd) e) (fun _ s''=>CX outer H s E e s'') (fun e' s''=>CX outer H s E e' s'') s'
theorem IZ{sc:Scope}{n:Nat}{x:Str}(h:sc.names.lookup x=some .cell):∃c,(cellsFrom n sc.names []).lookup x=some c:=by
 have q:=PySem.W.cellsFrom_some sc.names n [] (.inl h);exact wA.mp q
theorem Ez{CX:VX}{P:fA}{w:fB}{K:uFg}{mg:eR}{base:Heap}{N ps:eS}{qual:Str}{scope:Scope}{f:eZ}{cd:eY}{A:fD}{outer:List Env}{s s1:eX}{H:Hp}{E:XK}{us:eU}{vs:aG}(S:ZL N ps scope)(hd:A.handled=none)(e0:WQ P w K mg base A outer s H)(hl:vs.length=ps.length)(r:ZH vs us)(x:InCallC s s.heap.objs.size (bindL (envOfC qual scope s.heap.objs.size f cd).kindOf (ps.zip us) fun _=>none) (cellsFrom (s.heap.objs.size+1) scope.names []) (bindC (envOfC qual scope s.heap.objs.size f cd).kindOf (ps.zip us) fun _=>none) s1) :
  ZD (Yp CX P w K mg base N qual scope f cd A outer s H E) [] (start N vs) H s1:=by
 have hpl:ps.length<=N.length:=by have:=congrArg List.length S.pre;rw[xU] at this;lia
 obtain⟨h1,tk,rfl,hk⟩:=x.done;have noA:∀b:eZ,b∉(Yp CX P w K mg base N qual scope f cd A outer s H E).ex:=fun b z=>absurd (show b∈([]:eW) from z) (by simp);refine⟨⟨e0.mod,S.kind,rfl,rfl,xH _,fun y z c h1 h2=>?_,fun y hy=>?_,fun y c _ h=>?_,fun _=>hd,Around.frames_deeper e0.frames,.inr ⟨rfl,rfl⟩,fun b z=>absurd z (noA b),e0.bs,e0.bsz,fun b _ _=>noA b,fun b z=>absurd z (noA b),e0.funs,e0.frf⟩, rfl,e0.bare,Un.kept hk,⟨_,x.toInCall.ns,fun i y v h1 h2 h3=>?_⟩,fun y c h=>⟨_,x.cell y c h⟩,e0.hok.fresh (xH _),fun y c h=>?_,fun p hp=>absurd (show p∈([]:List (eZ×Obj)) from hp) (by simp),e0.hok.kept hk,?_⟩
 ·exact name_of_addr x.apart (PySem.mem_of_lookup h1) (PySem.mem_of_lookup h2)
 ·have hy:scope.names.lookup y=some .cell\/scope.names.lookup y=some .free:=hy;rcases hy with hy | hy
  ·exact IZ hy
  ·exact absurd rfl (S.nofree _ (PySem.mem_of_lookup hy))
 ·exact yX (x.above y c (PySem.mem_of_lookup h))
 ·have hi:i < vs.length:=by
   unfold start at h2
   by_cases hi:i < vs.length
   ·exact hi
   ·grind
  have ha:vs[i]? = some v:=by
   unfold start at h2;rw[zM (by simpa using hi),xK] at h2;cases e:vs[i]? with
   | none=>rw[e] at h2;cases h2
   | some a=>rw[e] at h2;cases h2;rfl
  obtain⟨u,hu,rv⟩:=r.get ha;have hp:ps[i]? = some y:=by
   rw[← S.pre,List.getElem?_take_of_lt (by lia)];exact h1
  have ndP:ps.Nodup:=by rw[← S.pre];exact S.nd.sublist (List.take_sublist _ _)
  refine⟨u,rv,?_⟩;rcases S.par y (xN hp) with k | k
  ·exact .inl ⟨k,KH ndP hp hu k⟩
  ·obtain⟨c,e⟩:=IZ (n:=s.heap.objs.size+1) k;refine .inr ⟨.inl k,c,e,?_⟩;have q:=x.cell y c e;rw[L8 ndP hp hu (by show scope.names.lookup y≠_;rw[k];decide)] at q;exact q
 ·exact e0.hok.fresh (yX (x.above y c (PySem.mem_of_lookup h)))
 ·unfold start;show _=N.length;rw[xD,xA,List.length_replicate];lia
theorem IU{CX:VX}{P:fA}{w:fB}{K:uFg}{mg:eR}{base:Heap}{k:Nat}{f:eZ}{name qual:Str}{params:Arguments}{body:List Stmt}{scope:Scope}{dV kV doc pm cdv ct oc:eY}{an od:Option eZ}{osl:Array (Option eY)}{N ps:eS}{sp:Sp}(lk:K.lookup f=some ⟨oc,od,.func (PySem.W.fnOf name qual params body scope dV kV doc pm an cdv ct),osl⟩)(hcd:PySem.W.codeIn K cdv qual=true)(S:ZL N ps scope)(len:∀vs H Q E,sp vs H Q E->vs.length=ps.length)(hbody:∀A outer s H vs Q E,ZJ k (A.deeper (envOfC qual scope s.heap.objs.size f cdv))->sp vs H Q E -> ∃t,Ae (Yp CX P w K mg base N qual scope f cdv A outer s H E) body t/\t {nx:=fun _ H'=>Q .non H',rt:=Q } (start N vs) H) :
  ZZ P w K mg base CX (k+1) f (PySem.W.fnOf name qual params body scope dV kV doc pm an cdv ct) ps sp:=by
 refine⟨len,fun A outer s H args us vs Q E hr e0 hb r hsp=>?_⟩;have hl:=len _ _ _ _ hsp;have KX:K.In s.heap:=e0.mod.kin.keeps fun b o e=>(e0.bs b o e).1;have lim:s.heap.NoLimit:=e0.mod.nolimit.keeps fun b o e=>(e0.bs b o e).1;have hkind:∀y∈ps.zip us,scope.names.lookup y.1=some .local\/(scope.names.lookup y.1=some .cell/\((cellsFrom (s.heap.objs.size+1) scope.names []).lookup y.1).isSome=true):=fun⟨n,v⟩ hy=>by
  rcases S.par n (zG hy).1 with q | q
  ·exact .inl q
  ·exact .inr ⟨q,PySem.W.cellsFrom_some _ _ _ (.inl q)⟩
 refine codeAny_call_function hr.depth (KX _ _ lk) rfl S.co S.gen rfl (PySem.W.codeRec_of KX hcd) (hb _ _ _ _ ?_);refine wpAny_newFunctionEnv_cells S.kind hkind fun env he s1 x=>?_;subst he;refine⟨lim.keeps x.toInCall.keep,codeAny_func ?_⟩;obtain⟨t,ht,hq⟩:=hbody A outer s H vs Q E (hr.deeper _) hsp;have I:ZD (Yp CX P w K mg base N qual scope f cdv A outer s H E) [] (start N vs) H s1:=Ez S hr.hd e0 hl r x;refine wpAny_mono (ht [] s1 (start N vs) H _ I hq) (fun fl s' hs=>?_) fun e s' hs=>hs;have fin:∀{σ':St}{H':Hp}{v:V}{u:eY},ZD (Yp CX P w K mg base N qual scope f cdv A outer s H E) [] σ' H' s'->ZG v u->Q v H'->CE outer P w H s Q u s' :=
  fun {σ' H' v u} J rv q=>⟨v,H',J.os,J.bare,J.base,J.hok,rv,q⟩
 cases fl with
 | ret u =>
  obtain⟨v,σ',H',J,rv,q⟩:=hs;exact fin J rv q
 | next =>
  obtain⟨σ',H',J,q⟩:=hs;exact fin (v:=V.non) (u:=Value.none) J rfl q
 | brk =>
  obtain⟨_,_,_,q⟩:=hs;exact False.elim q
 | cont =>
  obtain⟨_,_,_,q⟩:=hs;exact False.elim q
section
variable{X:Cx}{x:Str}{p pos:Pos}{e:Expr}{es:List Expr}{t:TA}{id:String}{r:List V->Hp->VK->Prop}
def Ay(r:List V->Hp->VK->Prop)(t:TA):TE:=fun σ H Q=>t σ H fun vs H1=>r vs H1 Q
theorem LR(hc:U0 X (.builtin id) r)(hg:Gl X x)(hm:X.mg x=none)(hv:bootBuiltins x=some (.builtin id))(ha:PA X (e::es) t)(hn:x ≠ "__name__" := by decide)(hdb:(x == ("__debug__" : Str))=false:=by decide)(he:starEach (e::es) X.env=(false,eval e X.env)::starEach es X.env:=by rfl)(hpl:(backTo pos (starEach es X.env)).any (·.1)=false:=by rfl):PE X (.Call (.Name x p) (e::es) [] pos) (Ay r t):=by
 intro pins s σ H Q I h;refine wpAny_Call_Name_kw (Ui I hg hm hv ?_ hn hdb);exact PyProof.Rows.callWith_builtin1 (thn (ha pos pins s σ H _ I h) fun us s1 ⟨vs,H1,I1,r1,q1⟩=>hc pins s1 σ H1 vs us Q I1 r1 q1) he hpl
theorem X9(hc:U0 X (.type T) r)(hg:Gl X x)(hm:X.mg x=none)(hv:bootBuiltins x=some (.type T))(ha:PA X (e::es) t)(hn:x ≠ "__name__" := by decide)(hdb:(x == ("__debug__" : Str))=false:=by decide)(he:starEach (e::es) X.env=(false,eval e X.env)::starEach es X.env:=by rfl)(hpl:(backTo pos (starEach es X.env)).any (·.1)=false:=by rfl):PE X (.Call (.Name x p) (e::es) [] pos) (Ay r t):=by
 intro pins s σ H Q I h;refine wpAny_Call_Name_kw (Ui I hg hm hv ?_ hn hdb);exact PyProof.Rows.callWith_type1 (thn (ha pos pins s σ H _ I h) fun us s1 ⟨vs,H1,I1,r1,q1⟩=>hc pins s1 σ H1 vs us Q I1 r1 q1) he hpl
end
end L2
namespace HT
open PySem PyProof.Rows
section
open PySem.SeqAt
open PySem.AutoSeq1 (wpAny_loadPart')
open PySem.MeetsSeq PySem.MeetsSeq2 PySem.MeetsSeq3
end
def sIx(n d:Nat):Option Int->Nat
 | none=>d
 | some v=>if v < 0 then (v+(n:Int)).toNat else min v.toNat n
theorem sIx_none(n d:Nat):sIx n d none=d:=rfl
theorem sIx_nat(n d k:Nat):sIx n d (some (k:Int))=min k n:=by
 show (if (k:Int) < 0 then ((k:Int)+(n:Int)).toNat else min (k:Int).toNat n)=min k n;rw[if_neg (by lia),zA]
theorem Pr(n d:Nat)(hd:d<=n)(o:Option Int):sIx n d o<=n:=by
 cases o with
 | none=>exact hd
 | some v =>
  show (if v < 0 then (v+(n:Int)).toNat else min v.toNat n)<=n
  by_cases hv:v < 0
  ·rw[if_pos hv];lia
  ·rw[if_neg hv];exact Nat.min_le_right _ _
theorem Hk(v:Int)(n d:Nat):(if v < 0 then max (v+(n:Int)) 0 else min v (n:Int))=((sIx n d (some v):Nat):Int):=by
 show (if v < 0 then max (v+(n:Int)) 0 else min v (n:Int))=(((if v < 0 then (v+(n:Int)).toNat else min v.toNat n):Nat):Int)
 by_cases hv:v < 0
 ·simp only[if_pos hv];lia
 ·simp only[if_neg hv];lia
theorem PF(lo hi:Option Int)(n:Nat):Builtin.Slice.sliceAdjust lo hi 1 (n:Int)=(((sIx n 0 lo:Nat):Int),((sIx n n hi:Nat):Int)):=by
 have h1:¬((1:Int) < 0):=by lia
 unfold Builtin.Slice.sliceAdjust;simp only[h1,if_false];refine Prod.ext ?_ ?_
 ·cases lo with
  | none=>rfl
  | some v=>exact Hk v n 0
 ·cases hi with
  | none=>rfl
  | some v=>exact Hk v n n
theorem On(i j:Nat):Builtin.Slice.slicePlaces (i:Int) (j:Int) 1=j - i:=by
 unfold Builtin.Slice.slicePlaces;have h1:(1:Int) > 0:=by lia
 simp only[h1,if_true,Int.ediv_one];split<;>lia
theorem Gb(p:IsPart v o)(h:Q o s):wpAny (model prog w) A (Builtin.Slice.slicePartIndex v) Q E s:=by
 cases p with
 | none=>exact slicePart_none h
 | int i t=>exact slicePart_int h
theorem X5{sl:eZ}{vl vu:eY}{lo hi:Option Int}{n:Nat}{Q:Int×Int×Nat->eX->Prop}(hs:s.heap.IsSliceOf sl vl vu .none)(pl:IsPart vl lo)(pu:IsPart vu hi)(h:Q (((sIx n 0 lo:Nat):Int),1,sIx n n hi - sIx n 0 lo) s):wpAny (model prog w) A (Builtin.Slice.sliceApplied (.ref sl) (pure (n:Int))) Q E s:=by
 obtain⟨os,hos,hcs,hds⟩:=id hs;unfold Builtin.Slice.sliceApplied Builtin.Slice.sliceFields;refine wpAny_bind (wpAny_bind (wpAny_field hos hds (x:=vl) rfl (wpAny_bind (wpAny_field hos hds (x:=vu) rfl (wpAny_bind (wpAny_field hos hds (x:=.none) rfl (wpAny_pure ?_)))))));refine wpAny_bind (slicePart_none ?_);show wpAny _ _ (if ((1:Int)== 0)=true then _ else _) _ _ s;rw[if_neg aA];refine wpAny_bind (Gb pl (wpAny_bind (Gb pu (wpAny_bind (wpAny_pure ?_)))));show wpAny _ _ (match Builtin.Slice.sliceAdjust lo hi 1 (n:Int) with | (lo,hi)=>pure (lo,(1:Int),Builtin.Slice.slicePlaces lo hi 1)) _ _ s;rw[PF lo hi n];show wpAny _ _ (pure (((sIx n 0 lo:Nat):Int),(1:Int),Builtin.Slice.slicePlaces ((sIx n 0 lo:Nat):Int) ((sIx n n hi:Nat):Int) 1)) _ _ s;rw[On];exact wpAny_pure h
theorem P3(xs:Array eY)(i k:Nat):((List.range k).filterMap fun(m:Nat)=>xs[((i:Int)+(m:Int) * 1).toNat]?).toArray=((xs.toList.drop i).take k).toArray:=by
 have e:(fun(m:Nat)=>xs[((i:Int)+(m:Int) * 1).toNat]?)=fun m=>xs[i+m]?:=by grind
 rw[e];have:=pick_run xs i k;rw[List.filterMap_map] at this;have e2:((fun x=>xs[x]?)∘fun x=>i+x)=fun m=>xs[i+m]?:=rfl;rw[e2] at this;rw[this]
theorem getItem_tuple_cut{t sl:eZ}{items:Array eY}{vl vu:eY}{lo hi:Option Int}{Q:eQ}(ht:IsTup s.heap t items)(hs:s.heap.IsSliceOf sl vl vu .none)(pl:IsPart vl lo)(pu:IsPart vu hi)(hw:¬(sIx items.size 0 lo=0/\sIx items.size items.size hi=items.size))(h:Q (.ref s.heap.objs.size) {s with heap:=s.heap.push {cls:=.type "tuple", data:=.seq ((items.toList.drop (sIx items.size 0 lo)).take (sIx items.size items.size hi - sIx items.size 0 lo)).toArray } })(hsz:items.size<=sizeLine):wpAny (model prog w) A (getItem (.ref t) (.ref sl)) Q E s:=by
 have htake:sizeOk (.seq ((items.toList.drop (sIx items.size 0 lo)).take (sIx items.size items.size hi - sIx items.size 0 lo)).toArray):=by
  show ((items.toList.drop (sIx items.size 0 lo)).take (sIx items.size items.size hi - sIx items.size 0 lo)).toArray.size<=sizeLine;rw[xV,xU,zC,Array.length_toList];lia
 have hj:sIx items.size items.size hi<=items.size:=Pr _ _ (xH _) hi;obtain⟨os,hos,hcs,hds⟩:=id hs;have hTs:s.TypeIs (.ref sl) "slice" := ⟨os,hos,hcs⟩;unfold getItem
 try with_reducible refine wpAny_holding ?_
 first | refine wpAny_bind (wpAny_pure ?_) | skip
 refine wpAny_bind (wpAny_sequenceKey ht.typeIs aA ?_);refine wpAny_bind (wpAny_callSpecial?_slot (name:=Str.ofString "__getitem__") ht.typeIs PyProof.Rows.slot_tuple_getitem (wpAny_call_entry PyProof.Rows.slot_tuple_getitem ht.typeIs entry_tuple_getitem ?_ (args_tuple_getitem _ _)));show wpAny _ _ (Builtin.Tuple.tupleItemsOf (.ref t) >>= _) _ _ s;refine wpAny_bind (tupleItemsOf_ ht ?_);refine wpAny_bind (wpAny_typeOf hTs ?_);rw[if_pos aA];refine wpAny_bind (X5 hs pl pu ?_);have hno:¬((((sIx items.size 0 lo:Nat):Int)== 0 && (1:Int)== 1 && (sIx items.size items.size hi - sIx items.size 0 lo)== items.size)=true):=by grind
 show wpAny _ _ (if (((sIx items.size 0 lo:Nat):Int)== 0 && (1:Int)== 1 && (sIx items.size items.size hi - sIx items.size 0 lo)== items.size)=true then _ else _) _ _ s;rw[if_neg hno,P3]
 first
  | exact wpAny_bind (m:=Builtin.Tuple.tupleExact _) (wpAny_newObj_type (wpAny_pure ⟨_,rfl,wpAny_pure h⟩) htake)
  | exact wpAny_bind (m:=Builtin.Tuple.tupleExact _) (wpAny_newObj_type (wpAny_bind (wpAny_pure (wpAny_pure ⟨_,rfl,wpAny_pure h⟩))) htake)
  | exact wpAny_bind (wpAny_bind (m:=Builtin.Tuple.tupleExact _) (wpAny_newObj_type (wpAny_pure (wpAny_pure ⟨_,rfl,wpAny_pure h⟩)) htake))
  | exact wpAny_bind (wpAny_bind (m:=Builtin.Tuple.tupleExact _) (wpAny_newObj_type (wpAny_pure ⟨_,rfl,wpAny_pure h⟩) htake))
end HT
namespace L2
open PySem PySem.Spec PyProof.Rows
abbrev TO:=St->Hp->(Option Int->Hp->Prop)->Prop
def PO(X:Cx)(e:Option Expr)(t:TO):Prop :=
 ∀(pins:List (eZ×Obj))(s:eX)(σ:St)(H:Hp)(Q:Option Int->Hp->Prop),ZD X pins σ H s->t σ H Q ->
  wpAny (model X.prog X.w) X.A (evalPart e X.env) (fun u s'=>∃o H',ZD X pins σ H' s'/\IsPart u o/\Q o H') X.xe s
def RY:TO:=fun _ H Q=>Q none H
inductive Al(Q:Option Int->Hp->Prop)(x:V)(H1:Hp):Prop
 |mk(i)(_:x = .int i)(_:Q (some i) H1)
def XC(t:TE):TO:=fun σ H Q=>t σ H fun x H1=>Al Q x H1
section
variable{X:Cx}{te:TE}{lo hi:Option Expr}{tl th:TO}
def Gh(X:Cx)(r:V->Option Int->Option Int->Hp->VK->Prop):Prop :=
 ∀(pins:List (eZ×Obj))(s:eX)(σ:St)(H:Hp)(x:V)(v vl vu:eY)(lo hi:Option Int)(sl:eZ)(Q:VK),ZD X pins σ H s->ZG x v->s.heap.IsSliceOf sl vl vu .none->IsPart vl lo->IsPart vu hi->r x lo hi H Q ->
  ∃T id,typeLookup (.type T) "__getitem__" = pure (some (.builtin id))/\s.TypeIs v T/\wpAny (model X.prog X.w) X.A (getItem v (.ref sl)) (EP X pins σ Q) X.xe s
def eE(r:V->Option Int->Option Int->Hp->VK->Prop)(te:TE)(tl th:TO):TE:=fun σ H Q=>te σ H fun x H1=>tl σ H1 fun l H2=>th σ H2 fun u H3=>r x l u H3 Q
def Yl(xs:aG)(lo hi:Option Int):List V:=(xs.drop (HT.sIx xs.length 0 lo)).take (HT.sIx xs.length xs.length hi - HT.sIx xs.length 0 lo)
theorem KA(xs:aG)(lo hi:Option Int):(Yl xs lo hi).length<=xs.length:=by
 unfold Yl;rw[xU,zC];lia
inductive El(K:uFg)(x:V)(lo hi:Option Int)(H:Hp)(Q:VK):Prop
 |mk(a xs)(_:x = .ref a)(_:ZT K H a xs)(_:¬(HT.sIx xs.length 0 lo=0/\HT.sIx xs.length xs.length hi=xs.length))(_:∀p,H p=none->Q (.ref p) (upd H p (.tup (Yl xs lo hi))))
end
def ixN(n:Nat)(i:Int):Option Nat:=if 0<=i then (if i < n then some i.toNat else none) else if -(n:Int)<=i then some (i+n).toNat else none
def atI{α:Type}(xs:List α)(i:Int):Option α:=(ixN xs.length i).bind fun j=>xs[j]?
theorem Gj(h:ixN n i=some j):seqIndex? i n=some j/\j < n /\ -(n:Int)<=i/\i < n:=by
 unfold ixN at h
 by_cases h0 : 0<=i
 ·rw[if_pos h0] at h
  by_cases h1:i < n
  ·rw[if_pos h1] at h;have e:i.toNat=j:=Option.some.inj h;exact⟨by rw[seqIndex_of h0 h1,e],by lia,by lia,h1⟩
  ·rw[if_neg h1] at h;cases h
 ·rw[if_neg h0] at h
  by_cases h1 : -(n:Int)<=i
  ·rw[if_pos h1] at h;have e:(i+n).toNat=j:=Option.some.inj h;exact⟨by rw[seqIndex_neg (by lia) h1,e],by lia,h1,by lia⟩
  ·rw[if_neg h1] at h;cases h
theorem Et{α:Type}{xs:List α}{v : α}(h:atI xs i=some v):∃j,seqIndex? i xs.length=some j/\xs[j]? = some v/\j < xs.length /\ -(xs.length:Int)<=i/\i < xs.length:=by
 unfold atI at h;cases e:ixN xs.length i with
 | none=>rw[e] at h;cases h
 | some j =>
  rw[e] at h;obtain⟨h1,h2,h3,h4⟩:=Gj e;exact⟨j,h1,h,h2,h3,h4⟩
theorem Yb{α:Type}{xs:List α}{j:Nat}{v : α}(h:xs[j]? = some v):atI xs (j:Int)=some v:=by
 have hj:j < xs.length:=(xY.mp h).1;have e:ixN xs.length (j:Int)=some j:=by
  unfold ixN;rw[if_pos (by lia),if_pos (by lia)];simp
 unfold atI;rw[e];exact h
def bZ(b:Expr):Prop:=∀o i,subscripted b false o i=operate [o,i] (getItem o i)
def Dv(X:Cx)(r:R2):Prop :=
 ∀(value slice:Expr)(pins:List (eZ×Obj))(s:eX)(σ:St)(H:Hp)(x y:V)(v u:eY)(Q:VK),ZD X pins σ H s->ZG x v->ZG y u->r x y H Q ->
  subscripted slice false v u=operate [v,u] (getItem v u)->wpAny (model X.prog X.w) X.A (subscriptTail value slice v u) (EP X pins σ Q) X.xe s
def IE(X:Cx)(id:String)(r:V->List V->Hp->VK->Prop):Prop :=
 ∀(pins:List (eZ×Obj))(s:eX)(σ:St)(H:Hp)(x:V)(xs:aG)(v:eY)(us:eU)(Q:VK),ZD X pins σ H s->ZG x v->ZH xs us->r x xs H Q ->
  wpAny (model X.prog X.w) X.A (call (.builtin id) (v::us)) (EP X pins σ Q) X.xe s
section
variable{X:Cx}{a b:Expr}
inductive JN(K:uFg)(x y:V)(H:Hp)(Q:VK):Prop
 |mk(p xs i v)(_:x = .ref p)(_:y = .int i)(_:ZF K H p xs)(_:atI xs i=some v)(_:Q v H)
inductive JG(K:uFg)(x y:V)(H:Hp)(Q:VK):Prop
 |mk(p xs i v)(_:x = .ref p)(_:y = .int i)(_:ZT K H p xs)(_:atI xs i=some v)(_:Q v H)
inductive BU(x y:V)(H:Hp)(Q:VK):Prop
 |mk(z i c)(_:x = .str z)(_:y = .int i)(_:z.length<=sizeLine)(_:atI z.cps.toList i=some c)(_:Q (.str ⟨#[c]⟩) H)
theorem IK:Dv X (JN X.K):=by
 intro value slice pins s σ H x y v u Q I rx ry h hs;obtain⟨p,xs,i,z,rfl,rfl,hq,he,q⟩:=h;cases rx;obtain⟨t,rfl⟩:=ry;obtain⟨its,r,pl,hz⟩:=I.list hq;obtain⟨j,h1,h2,h3,h4,h5⟩:=Et he;obtain⟨w,ew,rw'⟩:=r.get h2;have hl:=r.length;have hn:=Ba;have fin:EP X pins σ Q w s:=⟨z,H,I,rw',q⟩
 by_cases h0 : 0<=i
 ·have hj:i.toNat=j:=by
   rw[seqIndex_of h0 h5] at h1;exact Option.some.inj h1
  exact item_listR pl.isList h0 (by lia) (by rw[hj];simpa using ew) fin hs
 ·have hj:(i+(its.toArray.size:Int)).toNat=j:=by
   rw[seqIndex_neg (by lia) h4] at h1;rw[xV,← hl];exact Option.some.inj h1
  exact subscriptTail_builtinR (x:=w) pl.isList.typeIs slot_list_getitem.lookup
   (wpAny_getItem_list_neg (Q:=fun r s'=>r=w/\EP X pins σ Q r s') pl.isList (by lia) (by rw[xV]<;>lia) (by lia) (by rw[hj];simpa using ew) ⟨rfl,fin⟩) hs
theorem Oq:Dv X (JG X.K):=by
 intro value slice pins s σ H x y v u Q I rx ry h hs;obtain⟨p,xs,i,z,rfl,rfl,hq,he,q⟩:=h;cases rx;obtain⟨t,rfl⟩:=ry;obtain⟨its,r,pl,hz⟩:=I.tuple hq;obtain⟨j,h1,h2,h3,h4,h5⟩:=Et he;obtain⟨w,ew,rw'⟩:=r.get h2;have hl:=r.length;have hn:=Ba;have fin:EP X pins σ Q w s:=⟨z,H,I,rw',q⟩;exact subscriptTail_builtinR (x:=w) pl.typeIs slot_tuple_getitem.lookup
  (getItem_tuple (j:=j) (Q:=fun r s'=>r=w/\EP X pins σ Q r s') pl (by lia) (by lia) (by rw[xV,← hl];exact h1) (by simpa using ew) ⟨rfl,fin⟩) hs
theorem MI:Dv X BU:=by
 intro value slice pins s σ H x y v u Q I rx ry h hs;obtain⟨z,i,c,rfl,rfl,hz,he,q⟩:=h;obtain⟨t,rfl⟩:=rx;obtain⟨t',rfl⟩:=ry;obtain⟨j,h1,h2,h3,h4,h5⟩:=Et he;have hl:z.cps.toList.length=z.length:=by simp[Str.length]
 rw[hl] at h1 h4 h5;have hn:=Ba
 exact tail_any (typeIs_str s z t) slot_str_getitem.lookup (getItem_str (c:=c) (by
  have e1:decide (i < -(2 ^ 63:Int))=false:=yC (by lia);have e2:decide (i>=2 ^ 63)=false:=yC (by lia)
  rw[e1,e2,Bool.or_false]) (by rw[h1];simpa using h2) ⟨.str ⟨#[c]⟩,H,I.tok _,⟨_,rfl⟩,q⟩) hs
theorem Nj(its:eU)(n j:Nat)(u:eY):Obj.mapSeq (·.setIfInBounds j u) {cls:=.type "list", data:=.seq its.toArray n }={cls:=.type "list", data:=.seq (its.set j u).toArray n }:=by
 simp[Obj.mapSeq]
theorem ZD.lst{pins:List (eZ×Obj)}{σ:St}{H:Hp}{s:eX}{p:eZ}{xs:aG}(I:ZD X pins σ H s)(h:H p=some (.lst xs)) :
  ∃its n,ZH xs its/\s.heap.get? p=some {cls:=.type "list", data:=.seq its.toArray n }/\xs.length<=sizeLine:=by
 obtain⟨z,its,n,r,e⟩:=I.hok p _ h;exact⟨its,n,r,e,z⟩
theorem ZD.lstUpd{pins:List (eZ×Obj)}{σ:St}{H:Hp}{s:eX}{p:eZ}{xs ys:aG}{its its':eU}{n n':Nat}{f:Obj->Obj}(I:ZD X pins σ H s)(h:H p=some (.lst xs))(ho:s.heap.get? p=some {cls:=.type "list", data:=.seq its.toArray n })(hf:f {cls:=.type "list", data:=.seq its.toArray n }={cls:=.type "list", data:=.seq its'.toArray n' })(r:ZH ys its')(hz:ys.length<=sizeLine)(t:Nat) :
  ZD X pins σ (upd H p (.lst ys)) {s with heap:=s.heap.update p f,toks:=t }:=by
 have e:(s.heap.update p f).get? p=some {cls:=.type "list", data:=.seq its'.toArray n' }:=by
  rw[wD f ho (by rw[hf]<;>rfl),hf]
 refine I.write (x:=p) (e:=p) (by rw[h];trivial) (.inl rfl) (fun b u hb q=>(zJ _ _ (Ne.symm hb)).trans q) ⟨_,e⟩ ?_;exact⟨hz,its',n',r,e⟩
inductive Bn(o i v:V)(H:Hp)(Q:Hp->Prop):Prop
 |mk(p xs k j)(_:o = .ref p)(_:i = .int k)(_:H p=some (.lst xs))(_:ixN xs.length k=some j)(_:Q (upd H p (.lst (xs.set j v))))
theorem Nb(lo hi:Option Int)(n:Nat):(sliceBounds lo hi none n).1=((HT.sIx n 0 lo:Nat):Int)/\(sliceBounds lo hi none n).2.1=((HT.sIx n n hi:Nat):Int)/\(sliceBounds lo hi none n).2.2=1:=by
 refine⟨?_,?_,rfl⟩
 ·cases lo with
  | none=>simp[sliceBounds,HT.sIx]
  | some i =>
   simp only[sliceBounds,HT.sIx,Option.getD_none,show (1:Int) > 0 by decide,if_true]
   by_cases h:i < 0
   ·simp only[h,if_true]<;>lia
   ·simp only[h,if_false]<;>lia
 ·cases hi with
  | none=>simp[sliceBounds,HT.sIx]
  | some i =>
   simp only[sliceBounds,HT.sIx,Option.getD_none,show (1:Int) > 0 by decide,if_true]
   by_cases h:i < 0
   ·simp only[h,if_true]<;>lia
   ·simp only[h,if_false]<;>lia
theorem Qg(its:eU)(lo hi:Option Int):slicePick its.toArray lo hi none=((its.drop (HT.sIx its.length 0 lo)).take (HT.sIx its.length its.length hi - HT.sIx its.length 0 lo)).toArray:=by
 obtain⟨h1,h2,h3⟩:=Nb lo hi its.toArray.size;unfold slicePick;rw[h1,h2,h3];simp only[sliceRange_one,pick_run,xV]<;>rfl
inductive BI(K:uFg)(x:V)(lo hi:Option Int)(H:Hp)(Q:VK):Prop
 |mk(a xs)(_:x = .ref a)(_:ZF K H a xs)(_:∀p,H p=none->Q (.ref p) (upd H p (.lst (Yl xs lo hi))))
theorem MM:Gh X (BI X.K):=by
 intro pins s σ H x v vl vu lo hi sl Q I rx hs pl pu h;obtain⟨a,xs,rfl,hx,q⟩:=h;cases rx;obtain⟨its,r,ht,hz⟩:=I.list hx;have hlen:=r.length;refine⟨"list", _,slot_list_getitem.lookup,ht.isList.typeIs,?_⟩;refine wpAny_getItem_list_slice ht.isList hs pl pu .none (by simp) ?_ (by rw[xV]<;>lia);rw[Qg,← hlen];refine⟨.ref s.heap.objs.size,_,I.laid (t':=s.toks) (o:=.lst (Yl xs lo hi)) (fun b ob q=>xB _ q) (xH _) ?_,rfl,q _ (I.hok.fresh (xH _))⟩;exact⟨yK (KA xs lo hi) hz,_,0,(r.drop (HT.sIx xs.length 0 lo)).take (HT.sIx xs.length xs.length hi - HT.sIx xs.length 0 lo),xL _ rfl⟩
def TN:V->Bool
 | .non=>true
 | .bl _=>true
 | .int _=>true
 | .str _=>true
 | _=>false
def eqV:V->V->Bool
 | .non,.non=>true
 | .bl a,.bl b=>a == b
 | .bl a,.int b=>(if a then 1 else 0)== b
 | .int a,.bl b=>a == (if b then 1 else 0)
 | .int a,.int b=>a == b
 | .str a,.str b=>a == b
 | _,_=>false
theorem Fc(ry:ZG y u)(rx:ZG x v)(fy:TN y=true)(fx:TN x=true):SeqAt.EqAt A s u v (eqV y x):=by
 cases y with
 | non =>
  cases ry;cases x with
  | non=>cases rx;exact SeqAt.EqAt.same _
  | bl b=>cases rx;exact SeqAt.EqAt.none_bool b
  | int b=>obtain⟨t,rfl⟩:=rx;exact SeqAt.EqAt.none_int b t
  | str b=>obtain⟨t,rfl⟩:=rx;exact SeqAt.EqAt.none_str b t
  | _=>exact absurd (show false=true from fx) xR
 | bl a =>
  cases ry;cases x with
  | non=>cases rx;exact SeqAt.EqAt.bool_none a
  | bl b=>cases rx;exact SeqAt.EqAt.bool_bool a b
  | int b=>obtain⟨t,rfl⟩:=rx;exact SeqAt.EqAt.bool_int a b t
  | str b=>obtain⟨t,rfl⟩:=rx;exact SeqAt.EqAt.bool_str a b t
  | _=>exact absurd (show false=true from fx) xR
 | int a =>
  obtain⟨t',rfl⟩:=ry;cases x with
  | non=>cases rx;exact SeqAt.EqAt.int_none a t'
  | bl b=>cases rx;exact SeqAt.EqAt.int_bool a t' b
  | int b=>obtain⟨t,rfl⟩:=rx;exact SeqAt.EqAt.int_int a t' b t
  | str b=>obtain⟨t,rfl⟩:=rx;exact SeqAt.EqAt.int_str a t' b t
  | _=>exact absurd (show false=true from fx) xR
 | str a =>
  obtain⟨t',rfl⟩:=ry;cases x with
  | non=>cases rx;exact SeqAt.EqAt.str_none a t'
  | bl b=>cases rx;exact SeqAt.EqAt.str_bool a t' b
  | int b=>obtain⟨t,rfl⟩:=rx;exact SeqAt.EqAt.str_int a t' b t
  | str b=>obtain⟨t,rfl⟩:=rx;exact SeqAt.EqAt.str_str a t' b t
  | _=>exact absurd (show false=true from fx) xR
 | _=>exact absurd (show false=true from fy) xR
def eqU(x:V)(u:eY):Bool:=match u with
 | .none=>eqV .non x
 | .bool b=>eqV (.bl b) x
 | .int i _=>eqV (.int i) x
 | .str z _=>eqV (.str z) x
 | _=>false
theorem Ik(r:ZG y u)(f:TN y=true):eqU x u=eqV y x:=by
 cases y with
 | non=>cases r;rfl
 | bl b=>cases r;rfl
 | int i=>obtain⟨t,rfl⟩:=r;rfl
 | str z=>obtain⟨t,rfl⟩:=r;rfl
 | _=>exact absurd (show false=true from f) xR
theorem EF:∀{xs:aG}{us:eU},ZH xs us->xs.all TN=true->us.any (eqU x)=xs.any fun y=>eqV y x
 | _,_,.nil,_=>rfl
 | y::xs,u::us,.cons r t,f=>by
  rw[List.all_cons,yV] at f;rw[zR,zR,Ik r f.1,EF t f.2]
theorem Fj(rx:ZG x v)(fx:TN x=true):∀{xs:aG}{us:eU},ZH xs us->xs.all TN=true->∀u∈us,SeqAt.EqAt A s u v (eqU x u)
 | _,_,.nil,_=>fun u hu=>by cases hu
 | y::xs,u::us,.cons r t,f=>fun u' hu=>by
  rw[List.all_cons,yV] at f;rcases xC.mp hu with rfl | hu
  ·rw[Ik r f.1];exact Fc r rx f.1 fx
  ·exact Fj rx fx t f.2 u' hu
def inV(x:V)(xs:aG):Bool:=xs.any fun y=>eqV y x
inductive IQ(K:uFg)(neg:Bool)(x y:V)(H:Hp)(Q:VK):Prop
 |mk(p xs)(_:y = .ref p)(_:(ZF K H p xs\/ZT K H p xs))(_:TN x=true)(_:xs.all TN=true)(_:Q (.bl (if neg then !inV x xs else inV x xs)) H)
theorem Nn:Je X (compareOp .NotIn) (IQ X.K true):=by
 intro pins s σ H x y v u Q I rx ry h;obtain⟨p,xs,rfl,hq,fx,fs,q⟩:=h;cases ry;rcases hq with hq | hq
 ·obtain⟨its,r,pl,hz⟩:=I.list hq;refine SeqAt.notIn_listAt (eqU x) pl.isList (fun w hw=>Fj rx fx r fs w (by simpa using hw)) ⟨.bl _,H,I,rfl,?_⟩;rw[show its.toArray.any (eqU x)=its.any (eqU x) by simp,EF r fs];exact q
 ·obtain⟨its,r,pl,hz⟩:=I.tuple hq;refine SeqAt.notIn_tupleAt (eqU x) pl (fun w hw=>Fj rx fx r fs w (by simpa using hw)) ⟨.bl _,H,I,rfl,?_⟩;rw[show its.toArray.any (eqU x)=its.any (eqU x) by simp,EF r fs];exact q
theorem Ih:U0 X (.builtin "len") (fun xs H Q=>∃p ys,xs = [.ref p]/\(ZF X.K H p ys\/ZT X.K H p ys)/\Q (.int ys.length) H):=by
 intro pins s σ H xs us Q I r h;obtain⟨p,ys,rfl,hq,q⟩:=h;obtain⟨u,rfl,rx⟩:=Vg r;cases rx;have hn:=Ba;rcases hq with hq | hq
 ·obtain⟨its,r',pl,hz⟩:=I.list hq;have hlen:=r'.length;exact Calls.call_len_list pl.isList (by simp only[xV]<;>lia) ⟨.int ys.length,H,I.tok _,⟨s.toks+1,by rw[xV,hlen]⟩,q⟩
 ·obtain⟨its,r',pl,hz⟩:=I.tuple hq;have hlen:=r'.length;exact len_tuple pl (by simp only[xV]<;>lia) ⟨.int ys.length,H,I.tok _,⟨s.toks+1,by rw[xV,hlen]⟩,q⟩
theorem Lq:U0 X (.type "list") (fun xs H Q=>∃p ys,xs = [.ref p]/\(ZF X.K H p ys\/ZT X.K H p ys)/\∀l,H l=none->Q (.ref l) (upd H l (.lst ys))):=by
 intro pins s σ H xs us Q I r h;obtain⟨p,ys,rfl,hq,q⟩:=h;obtain⟨u,rfl,rx⟩:=Vg r;cases rx;have fin:∀(its:eU),ZH ys its->ys.length<=sizeLine->∀(h':Heap)(c':Nat),(∀b o',s.heap.get? b=some o'->h'.get? b=some o')->
   h'.get? s.heap.objs.size=some {cls:=.type "list", dict:=none,data:=.seq its.toArray c',slots:=#[] }->EP X pins σ Q (.ref s.heap.objs.size) {s with heap:=h' }:=fun its r' hz h' c' kp e =>
  ⟨.ref s.heap.objs.size,_,I.laid (t':=s.toks) kp (xH _) (show ZM X.prog X.w _ h' _ (.lst ys) from⟨hz,its,c',r',e⟩),rfl,q _ (I.hok.fresh (xH _))⟩
 rcases hq with hq | hq
 ·obtain⟨its,r',pl,hz⟩:=I.list hq;have hlen:=r'.length;obtain⟨o,ho,hc,n,hd⟩:=pl.isList;exact call_list_seq p (.inl rfl) ho hc hd (fun h' c' kp e=>fin its r' hz h' c' kp e) (by simp only[xV]<;>lia)
 ·obtain⟨its,r',pl,hz⟩:=I.tuple hq;have hlen:=r'.length;obtain⟨o,ho,hc,n,hd⟩:=pl;exact call_list_seq p (.inr rfl) ho hc hd (fun h' c' kp e=>fin its r' hz h' c' kp e) (by simp only[xV]<;>lia)
theorem R1:U0 X (.type "tuple") (fun xs H Q=>∃p ys,xs = [.ref p]/\((ZF X.K H p ys/\∀l,H l=none->Q (.ref l) (upd H l (.tup ys)))\/(ZT X.K H p ys/\Q (.ref p) H))):=by
 intro pins s σ H xs us Q I r h;obtain⟨p,ys,rfl,h⟩:=h;obtain⟨u,rfl,rx⟩:=Vg r;cases rx;rcases h with⟨hq,q⟩ | ⟨hq,q⟩
 ·obtain⟨its,r',pl,hz⟩:=I.list hq;have hlen:=r'.length;refine call_tuple_list pl.isList (fun h' kp=>?_) (by simp only[xV]<;>lia);have I1:ZD X pins σ H {s with heap:=h' }:=I.kept (t':=s.toks) kp;have I2:ZD X pins σ (upd H h'.objs.size (.tup ys)) {s with heap:=h'.push {cls:=.type "tuple", data:=.seq its.toArray } } :=
   I1.laid (t':=s.toks) (fun b o e=>xB _ e) (xH _) (show ZM X.prog X.w _ _ _ (.tup ys) from⟨hz,its,r',IsTup.new _ _⟩)
  exact⟨.ref h'.objs.size,_,I2,rfl,q _ (I1.hok.fresh (xH _))⟩
 ·obtain⟨its,r',pl,hz⟩:=I.tuple hq;exact call_tuple_same pl ⟨.ref p,H,I,rfl,q⟩
def tyV(K:uFg)(T:String)(x:V)(H:Hp):Prop:=match x with
 | .str _=>T = "str"
 | .int _=>T = "int"
 | .ref p=>(T = "list" /\ ∃xs,ZF K H p xs)\/(T = "tuple" /\ ∃o,K.lookup p=some o/\o.cls = .type "tuple" /\ o.dict=none)\/
   (T = "dict" /\ ((∃kvs,H p=some (.dK kvs))\/∃kvs,H p=some (.dT kvs)))\/(T = "set" /\ ∃S n,H p=some (.set S n))
 | _=>False
theorem FN{pins:List (eZ×Obj)}{σ:St}{H:Hp}{s:eX}{T:String}{x:V}{v:eY}(I:ZD X pins σ H s)(r:ZG x v)(ty:tyV X.K T x H) :
  s.TypeIs v T/\∀a,v = .ref a->∃ob,s.heap.get? a=some ob/\ob.dict=none:=by
 cases x with
 | str z =>
  obtain⟨t,rfl⟩:=r;cases (show T = "str" from ty);exact⟨typeIs_str s z t,fun _ e=>nomatch e⟩
 | int i =>
  obtain⟨t,rfl⟩:=r;cases (show T = "int" from ty);exact⟨typeIs_int s i t,fun _ e=>nomatch e⟩
 | ref p =>
  cases r;rcases ty with⟨rfl,xs,hq⟩ | ⟨rfl,o,hk,hc,hd⟩ | ⟨rfl,hk⟩ | ⟨rfl,S,n,hk⟩
  ·obtain⟨its,_,pl,_⟩:=I.list hq;refine⟨pl.isList.typeIs,fun a e=>?_⟩;cases e;obtain⟨o,n,e,c,hd,_⟩:=pl;exact⟨o,e,hd⟩
  ·refine⟨⟨o,I.kIn p o hk,hc⟩,fun a e=>?_⟩;cases e;exact⟨o,I.kIn _ o hk,hd⟩
  ·have z:∃o,s.heap.get? p=some o/\o.ExactDict:=by
    rcases hk with⟨kvs,hk⟩ | ⟨kvs,hk⟩
    ·obtain⟨_,_,_,_,o,_,_,e,ex,_⟩:=I.hok p _ hk;exact⟨o,e,ex⟩
    ·obtain⟨_,_,_,_,o,_,_,e,ex,_⟩:=I.hok p _ hk;exact⟨o,e,ex⟩
   obtain⟨o,e,ex⟩:=z;refine⟨⟨o,e,ex.1⟩,fun a e2=>?_⟩;cases e2;exact⟨o,e,ex.2.1⟩
  ·obtain⟨o,_,_,_,e,ex,_⟩:=I.hok p _ hk;refine⟨⟨o,e,ex.1⟩,fun a e2=>?_⟩;cases e2;exact⟨o,e,ex.2.1⟩
 | _=>exact False.elim ty
def DD(K:uFg)(T:String)(r:V->List V->Hp->VK->Prop)(to:TE)(t:TA):TE:=fun σ H Q=>to σ H fun x H1=>tyV K T x H1/\t σ H1 fun xs H2=>r x xs H2 Q
variable{o e:Expr}{es:List Expr}{to:TE}{t:TA}{name:Str}{apos cpos:Pos}{T id:String}{r:V->List V->Hp->VK->Prop}
/- xs.append(e),list.index on a module's tuple .. are IE facts of 06m -/
end
def eJ(X:Cx)(id:String)(r:V->List V->Hp->VK->Prop):Prop :=
 ∀(pins:List (eZ×Obj))(s:eX)(σ:St)(H:Hp)(x:V)(xs:aG)(v:eY)(us:eU)(Q:VK),ZD X pins σ H s->ZG x v->ZH xs us->r x xs H Q ->
  wpAny (model X.prog X.w) X.A (call (.builtin id) (v::us)) (EP X pins σ Q) X.xe s
theorem ZH.one:∀{x:V}{us:eU},ZH [x] us->∃u,us = [u]/\ZG x u
 | _,_,.cons r .nil=>⟨_,rfl,r⟩
theorem ZH.rep(h:ZH xs us):∀k:Nat,ZH (List.replicate k xs).flatten (List.replicate k us).flatten
 | 0=>.nil
 | k+1=>by
  rw[yZ,yZ,zP,zP];exact ZH.append h (ZH.rep h k)
theorem HW(its:eU):∀k acc,
  List.foldl (fun x1 x2=>x1++x2) acc.toArray (List.replicate k its.toArray)=(acc++(List.replicate k its).flatten).toArray
 | 0,acc=>by simp
 | k+1,acc=>by
  have e:acc.toArray++its.toArray=(acc++its).toArray:=by simp
  have e2:(acc++its)++(List.replicate k its).flatten=acc++(List.replicate (k+1) its).flatten:=by
   rw[yZ,zP,yH]
  rw[← e2,← HW its k (acc++its),← e,yZ,List.foldl_cons]
section
variable{X:Cx}{pins:List (eZ×Obj)}{σ:St}{H:Hp}{s:eX}{l:eZ}{xs ys:aG}
theorem ZD.lset{its its':eU}{n:Nat}{f:Array eY->Array eY}{t':Nat}(I:ZD X pins σ H s)(hH:H l=some (.lst xs))(e:s.heap.get? l=some {cls:=.type "list", data:=.seq its.toArray n })(hf:f its.toArray=its'.toArray)(hv:ZH ys its')(hz:ys.length<=sizeLine) :
  ZD X pins σ (upd H l (.lst ys)) {s with heap:=s.heap.update l (Obj.mapSeq f),toks:=t' }:=by
 have q:=PySem.IsL.update e f;rw[hf] at q;refine I.write (x:=l) (e:=l) (by rw[hH];exact trivial) (.inl rfl) (fun b' u hb hu=>(zJ s.heap (Obj.mapSeq f) (Ne.symm hb)).trans hu) ⟨_,q⟩ ?_;exact⟨hz,its',_,hv,q⟩
theorem ZD.lnew{its:eU}{t':Nat}(I:ZD X pins σ H s)(hv:ZH ys its)(hz:ys.length<=sizeLine) :
  ZD X pins σ (upd H s.heap.objs.size (.lst ys)) {s with heap:=s.heap.push {cls:=.type "list", data:=.seq its.toArray },toks:=t' } :=
 I.laid (fun _ _ q=>xB _ q) (xH _) ⟨hz,its,0,hv,xL _ rfl⟩
theorem ZD.fresh(I:ZD X pins σ H s):H s.heap.objs.size=none:=I.hok.fresh (xH _)
theorem ZD.lstM(I:ZD X pins σ H s)(hH:H l=some (.lst xs)):xs.length<=sizeLine/\∃(its:eU)(n:Nat),ZH xs its/\xs.length=its.length/\s.heap.get? l=some {cls:=.type "list", data:=.seq its.toArray n }:=by
 obtain⟨z,its,n,r,e⟩:=I.hok l _ hH;exact⟨z,its,n,r,r.length,e⟩
theorem cN(h:n<=sizeLine):Builtin.List.listTooLong n=false:=by
 unfold Builtin.List.listTooLong;exact yC (by lia)
end
inductive WR(x:V)(vs:aG)(H:Hp)(Q:VK):Prop
 |mk(l xs y)(_:x = .ref l)(_:vs = [y])(_:H l=some (.lst xs))(_:xs.length < sizeLine)(_:Q .non (upd H l (.lst (xs ++ [y]))))
inductive FT(x y:V)(H:Hp)(Q:VK):Prop
 |mk(l b xs zs)(_:x = .ref l)(_:y = .ref b)(_:H l=some (.lst xs))(_:H b=some (.lst zs))(_:xs.length+zs.length<=sizeLine)(_:∀p,H p=none->Q (.ref p) (upd H p (.lst (xs++zs))))
inductive FP(x y:V)(H:Hp)(Q:VK):Prop
 |mk(l k xs)(_:x = .ref l)(_:y = .int k)(_:H l=some (.lst xs))(_:-(2 ^ 63)<=k)(_:k < 2 ^ 63)(_:xs.length * k.toNat<=sizeLine)(_:∀p,H p=none->Q (.ref p) (upd H p (.lst (List.replicate k.toNat xs).flatten)))
theorem MK{α:Type}(xs:List α)(k:Nat):(List.replicate k xs).flatten.length=k * xs.length:=by
 induction k with
 | zero=>simp
 | succ k ih=>rw[yZ,zP,xD,ih,Nat.succ_mul,Nat.add_comm]
section
set_option maxRecDepth 100000 in
end
section
variable{κ:Type} [DecidableEq κ]
def Z1(kvs:List (κ×V))(k : κ):Option V:=(kvs.find? fun kv=>decide (kv.1=k)).map (·.2)
def Yo(kvs:List (κ×V))(k : κ)(v:V):List (κ×V) :=
 if (kvs.any fun kv=>decide (kv.1=k))=true then kvs.map (fun kv=>if kv.1=k then (kv.1,v) else kv) else kvs ++ [(k,v)]
theorem Ut{p : κ×V}{r:List (κ×V)}{k : κ}(e:p.1=k):Z1 (p::r) k=some p.2:=by simp[Z1,zI,e]
theorem Uu{p : κ×V}{r:List (κ×V)}{k : κ}(e:¬p.1=k):Z1 (p::r) k=Z1 r k:=by simp[Z1,zI,e]
theorem Ce(k : κ):∀kvs:List (κ×V),(kvs.any fun kv=>decide (kv.1=k))=(Z1 kvs k).isSome
 | []=>rfl
 | p::r=>by
  rw[zR]
  by_cases e:p.1=k
  ·simp only[Ut e,xZ e,Bool.true_or,Option.isSome_some]
  ·rw[Uu e,yC e,Bool.false_or];exact Ce k r
theorem Lg(k j : κ)(y:V):∀kvs:List (κ×V),Z1 (kvs.map fun kv=>if kv.1=k then (kv.1,y) else kv) j=(Z1 kvs j).map fun x=>if j=k then y else x
 | []=>rfl
 | p::r=>by
  have ih:=Lg k j y r;rw[xW]
  by_cases h:p.1=k
  ·rw[if_pos h]
   by_cases e:p.1=j
   ·rw[Ut (p:=(p.1,y)) e,Ut e,Option.map_some,if_pos (e.symm.trans h)]
   ·rw[Uu (p:=(p.1,y)) e,Uu e,ih]
  ·rw[if_neg h]
   by_cases e:p.1=j
   ·rw[Ut (p:=p) e,Ut e,Option.map_some,if_neg (fun z=>h (e.trans z))]
   ·rw[Uu (p:=p) e,Uu e,ih]
theorem Ho(k j : κ)(y:V):∀kvs:List (κ×V),Z1 kvs k=none->Z1 (kvs ++ [(k,y)]) j=if j=k then some y else Z1 kvs j
 | [],_=>by
  by_cases e:k=j
  ·rw[if_pos e.symm];exact Ut (p:=(k,y)) e
  ·rw[if_neg (fun z=>e z.symm)];exact Uu (p:=(k,y)) e
 | p::r,hn=>by
  rw[xX];have hk:¬p.1=k:=fun z=>by rw[Ut z] at hn;cases hn
  rw[Uu hk] at hn;have ih:=Ho k j y r hn
  by_cases e:p.1=j
  ·rw[Ut e,Ut e,if_neg (fun z=>hk (e.trans z))]
  ·rw[Uu e,Uu e,ih]
theorem Aa(kvs:List (κ×V))(k j : κ)(y:V):Z1 (Yo kvs k y) j=if j=k then some y else Z1 kvs j:=by
 unfold Yo
 by_cases a:(kvs.any fun kv=>decide (kv.1=k))=true
 ·rw[if_pos a,Lg];rw[Ce] at a
  by_cases e:j=k
  ·obtain⟨x,hx⟩:=wA.mp a;rw[if_pos e,e,hx,Option.map_some,if_pos rfl]
  ·rw[if_neg e];cases Z1 kvs j with
   | none=>rfl
   | some x=>rw[Option.map_some,if_neg e]
 ·rw[if_neg a];refine Ho k j y kvs ?_;rw[Ce] at a;cases q:Z1 kvs k with
  | none=>rfl
  | some x=>rw[q] at a;exact(a rfl).elim
theorem J5(kvs:List (κ×V))(k : κ)(v:V):(Yo kvs k v).length<=kvs.length+1:=by
 unfold Yo;split
 ·rw[xA];lia
 ·rw[xD,xF,List.length_nil];lia
theorem PX{kvs:List (κ×V)}{k : κ}(v:V)(h:Z1 kvs k=none):Yo kvs k v=kvs ++ [(k,v)]:=by
 unfold Yo;rw[Ce,h];exact if_neg aA
theorem YF.isSome_eq(r:YF o u):o.isSome=u.isSome:=by
 cases o with
 | none=>cases u with
  | none=>rfl
  | some _=>exact(show False from r).elim
 | some _=>cases u with
  | none=>exact(show False from r).elim
  | some _=>rfl
theorem YF.getD(r:YF o u)(rd:ZG d d'):ZG (o.getD d) (u.getD d'):=by
 cases o with
 | none=>cases u with
  | none=>exact rd
  | some _=>exact(show False from r).elim
 | some _=>cases u with
  | none=>exact(show False from r).elim
  | some _=>exact r
theorem KV.val(r:KV kvs vs)(k : κ):YF (Z1 kvs k) (valueAt vs k):=by
 unfold KV at r
 induction r with
 | nil=>exact True.intro
 | @cons p q ps qs h t ih =>
  obtain⟨h1,h2⟩:=h
  by_cases e:p.1=k
  ·have e':q.1=k:=h1.symm.trans e;have b:valueAt (q::qs) k=some q.2:=by simp[valueAt,zI,e']
   rw[Ut e,b];exact h2
  ·have e':¬q.1=k:=fun z=>e (h1.trans z);have b:valueAt (q::qs) k=valueAt qs k:=by simp[valueAt,zI,e']
   rw[Uu e,b];exact ih
theorem KV.any(r:KV kvs vs)(k : κ):(kvs.any fun kv=>decide (kv.1=k))=vs.any fun kv=>decide (kv.1=k):=by
 unfold KV at r
 induction r with
 | nil=>rfl
 | cons h t ih=>rw[zR,zR,ih,h.1]
theorem KV.repl(r:KV kvs vs)(k : κ)(ry:ZG y u) :
  KV (kvs.map fun kv=>if kv.1=k then (kv.1,y) else kv) (vs.map fun kv=>if kv.1=k then (kv.1,u) else kv):=by
 unfold KV at r ⊢
 induction r with
 | nil=>exact .nil
 | @cons p q ps qs h t ih =>
  rw[xW,xW];refine .cons ?_ ih;obtain⟨h1,h2⟩:=h
  by_cases e:p.1=k
  ·rw[if_pos e,if_pos (h1.symm.trans e)];exact⟨h1,ry⟩
  ·rw[if_neg e,if_neg (fun z=>e (h1.trans z))];exact⟨h1,h2⟩
theorem KV.put(r:KV kvs vs)(k : κ)(ry:ZG y u):KV (Yo kvs k y) (stored vs k u):=by
 unfold Yo stored;rw[r.any k]
 by_cases e:(vs.any fun kv=>decide (kv.1=k))=true
 ·rw[if_pos e,if_pos e];exact r.repl k ry
 ·rw[if_neg e,if_neg e];exact Paired.snoc r ⟨rfl,ry⟩
theorem KV.length{kvs:List (κ×V)}{vs:List (κ×eY)}(r:KV kvs vs):kvs.length=vs.length:=Paired.length r
end
theorem Ja(r:ZG (kV k) u):(Y1 P w).is k u=true:=by
 cases k with
 | inl i=>obtain⟨t,e⟩:=(show ∃t,u=Value.int i t from r);subst e;exact Nu P w i t
 | inr x=>obtain⟨t,e⟩:=(show ∃t,u=Value.str x t from r);subst e;exact P5 P w x t
theorem Gs:∀{ks:List ZQ}{us:eU},ZH (ks.map kV) us->ItemsAre (Y1 P w) ks us
 | [],_,r=>by rw[List.map_nil] at r;cases r;exact .nil
 | k::ks,_,r=>by
  rw[xW] at r;cases r with
  | cons h t=>exact .cons (Ja h) (Gs t)
abbrev KT(H:Hp):List (List ZQ×V)->List (List ZQ×eZ×eY)->Prop:=Paired fun p q=>p.1=q.1/\H q.2.1=some (.tup (p.1.map kV))/\ZG p.2 q.2.2
theorem KT.val(r:KT H kvs xs)(k:List ZQ):YF (Z1 kvs k) ((atKey xs k).map (·.2)):=by
 induction r with
 | nil=>exact True.intro
 | @cons p q ps qs h t ih =>
  obtain⟨h1,_,h2⟩:=h
  by_cases e:p.1=k
  ·have e':q.1=k:=h1.symm.trans e;have b:atKey (q::qs) k=some q.2:=by simp[atKey,zI,e']
   rw[Ut e,b];exact h2
  ·have e':¬q.1=k:=fun z=>e (h1.trans z);have b:atKey (q::qs) k=atKey qs k:=by simp[atKey,zI,e']
   rw[Uu e,b];exact ih
theorem KT.repl(r:KT H kvs xs)(k:List ZQ)(ry:ZG y u) :
  KT H (kvs.map fun kv=>if kv.1=k then (kv.1,y) else kv) (xs.map (putAt k u)):=by
 induction r with
 | nil=>exact .nil
 | @cons p q ps qs h t ih =>
  rw[xW,xW];refine .cons ?_ ih;obtain⟨h1,h2,h3⟩:=h;unfold putAt
  by_cases e:p.1=k
  ·rw[if_pos e,if_pos (h1.symm.trans e)];exact⟨h1,h2,ry⟩
  ·rw[if_neg e,if_neg (fun z=>e (h1.trans z))];exact⟨h1,h2,h3⟩
theorem KT.put(r:KT H kvs xs)(k:List ZQ)(hb:H b=some (.tup (k.map kV)))(ry:ZG y u) :
  KT H (Yo kvs k y) (storedH xs k b u):=by
 have e:(kvs.any fun kv=>decide (kv.1=k))=(atKey xs k).isSome:=by
  rw[Ce,(r.val k).isSome_eq,Option.isSome_map]
 unfold Yo storedH;rw[e]
 by_cases q:(atKey xs k).isSome=true
 ·rw[if_pos q,if_pos q];exact r.repl k ry
 ·rw[if_neg q,if_neg q];exact Paired.snoc r ⟨rfl,hb,ry⟩
theorem KT.keeps(r:KT H kvs xs)(ht:∀b ys,H b=some (.tup ys)->H' b=some (.tup ys)):KT H' kvs xs :=
 Paired.mapP r fun _ _ z=>⟨z.1,ht _ _ z.2.1,z.2.2⟩
theorem Hx(ok:YG P w H h)(e:Rd H a u):ZM P w H h a u:=e.ok ok
theorem Jo(ok:YG P w H h)(e:Rd H a (.dK kvs)):kvs.length<=sizeLine/\(a == sysModules)=false/\∃vs,KV kvs vs/\h.DictOf (Y1 P w) a vs :=
 show ZM P w H h a (.dK kvs) from Hx ok e
theorem Hg(ok:YG P w H h)(e:H a=some (.dK kvs)):kvs.length<=sizeLine/\(a == sysModules)=false/\∃vs,KV kvs vs/\h.DictOf (Y1 P w) a vs:=Jo ok (.inl e)
theorem AF(ok:YG P w H h)(e:H a=some (.tup (ks.map kV))):(tupleKind (Y1 P w)).is h ks a:=by
 obtain⟨_,its,r,o,h1,h2,n,h3⟩:=(show ZM P w H h a (.tup (ks.map kV)) from ok a _ e);exact⟨o,its.toArray,n,h1,h2,h3,by simpa using Gs r⟩
theorem JE(ok:YG P w H h)(e:Rd H a (.dT kvs)):kvs.length<=sizeLine/\(a == sysModules)=false /\
  ∃xs,KT H kvs xs/\h.DictOfH (tupleKind (Y1 P w)) a xs:=by
 obtain⟨z,y,xs,r,o,es,ep,h1,h2,h3,h4,h5⟩:=(show ZM P w H h a (.dT kvs) from Hx ok e);refine⟨z,y,xs,r,o,es,ep,h1,h2,h3,h4,fun x hx=>?_,h5⟩;have all:∀{l:List (List ZQ×V)}{m:List (List ZQ×eZ×eY)},KT H l m->∀x∈m,(tupleKind (Y1 P w)).is h x.1 x.2.1:=by
  intro l m q
  induction q with
  | nil=>intro x hx;exact nomatch hx
  | @cons p q ps qs hq t ih =>
   intro x hx;rcases xC.mp hx with e | hx
   ·subst e;exact AF ok (by rw[← hq.1];exact hq.2.1)
   ·exact ih x hx
 exact all r x hx
theorem bC(ok:YG P w H h)(e:H a=some (.dT kvs)):kvs.length<=sizeLine/\(a == sysModules)=false /\
  ∃xs,KT H kvs xs/\h.DictOfH (tupleKind (Y1 P w)) a xs:=JE ok (.inl e)
def ZY(H:Hp)(a:eZ)(y:V)(r:Option V):Prop :=
 (∃kvs k,Rd H a (.dK kvs)/\y=kV k/\r=Z1 kvs k)\/∃kvs k b,Rd H a (.dT kvs)/\y = .ref b/\H b=some (.tup (k.map kV))/\r=Z1 kvs k
def WH(H:Hp)(a:eZ)(y v:V)(H':Hp):Prop :=
 (∃kvs k,H a=some (.dK kvs)/\y=kV k/\kvs.length < sizeLine/\H'=upd H a (.dK (Yo kvs k v)))\/
 ∃kvs k b,H a=some (.dT kvs)/\y = .ref b/\H b=some (.tup (k.map kV))/\kvs.length < sizeLine/\H'=upd H a (.dT (Yo kvs k v))
theorem ZY.k{H:Hp}{a:eZ}{kvs:List (ZQ×V)}{k:ZQ}(e:H a=some (.dK kvs)):ZY H a (kV k) (Z1 kvs k):=.inl ⟨kvs,k,.inl e,rfl,rfl⟩
theorem ZY.t{H:Hp}{a b:eZ}{kvs:List (List ZQ×V)}{k:List ZQ}(e:H a=some (.dT kvs))(eb:H b=some (.tup (k.map kV))):ZY H a (.ref b) (Z1 kvs k):=.inr ⟨kvs,k,b,.inl e,rfl,eb,rfl⟩
theorem WH.k{H:Hp}{a:eZ}{kvs:List (ZQ×V)}{k:ZQ}{v:V}(e:H a=some (.dK kvs))(hl:kvs.length < sizeLine):WH H a (kV k) v (upd H a (.dK (Yo kvs k v))):=.inl ⟨kvs,k,e,rfl,hl,rfl⟩
theorem WH.t{H:Hp}{a b:eZ}{kvs:List (List ZQ×V)}{k:List ZQ}{v:V}(e:H a=some (.dT kvs))(eb:H b=some (.tup (k.map kV)))(hl:kvs.length < sizeLine) :
  WH H a (.ref b) v (upd H a (.dT (Yo kvs k v))):=.inr ⟨kvs,k,b,e,rfl,eb,hl,rfl⟩
section
variable{X:Cx}{pins:List (eZ×Obj)}{σ:St}{H:Hp}{s:eX}{a:eZ}{y v:V}{u r:eY}{o:Option V}{A:fD}{E:eQ}
theorem ZD.big(I:ZD X pins σ H s):sysModules < s.heap.objs.size:=by
 have h:mainGlobals < s.heap.objs.size:=(I.mod.glob.keeps I.bk).lt;exact Nat.lt_trans aA h
theorem MA{Q:eQ}(hu:A.units+1 < cLine)(I:ZD X pins σ H s)(g:ZY H a y (some v))(ry:ZG y u)(h:∀w' s',ZD X pins σ H s'->ZG v w'->Q w' s') :
  wpAny (model X.prog X.w) A (getItem (.ref a) u) Q E s:=by
 rcases g with⟨kvs,k,e,ey,l⟩ | ⟨kvs,k,b,e,ey,eb,l⟩
 ·subst ey;obtain⟨z,hd,vs,rel,dd⟩:=Jo I.hok e;obtain⟨w',hw,rw'⟩:=YF.some_of (v:=v) (o:=valueAt vs k) (by rw[l];exact rel.val k);exact wpAny_getItem_of (Ja ry) dd.mapOf hw (h w' _ (I.tok _) rw')
 ·subst ey;cases (show u=Value.ref b from ry);obtain⟨z,hd,xs,rel,dd⟩:=JE I.hok e;obtain⟨w',hw,rw'⟩:=YF.some_of (v:=v) (o:=(atKey xs k).map (·.2)) (by rw[l];exact rel.val k);obtain⟨p,hp,hp2⟩:=xS.mp hw;refine wpAny_getItem_heap (tupleKind_room_in1 hu) (AF I.hok eb) dd hp ?_;rw[hp2];exact h w' _ (I.tok _) rw'
theorem P2{Q:eQ}(hu:A.units+1 < cLine)(I:ZD X pins σ H s)(g:ZY H a y o)(ry:ZG y u)(h:∀s',ZD X pins σ H s'->Q (.bool o.isSome) s') :
  wpAny (model X.prog X.w) A (compareOp .In u (.ref a)) Q E s:=by
 rcases g with⟨kvs,k,e,ey,l⟩ | ⟨kvs,k,b,e,ey,eb,l⟩
 ·subst ey;obtain⟨z,hd,vs,rel,dd⟩:=Jo I.hok e;refine wpAny_in_of (Ja ry) hd dd.mapOf ?_;rw[← (rel.val k).isSome_eq,← l];exact h _ (I.tok _)
 ·subst ey;cases (show u=Value.ref b from ry);obtain⟨z,hd,xs,rel,dd⟩:=JE I.hok e;refine wpAny_in_heap (tupleKind_room_in1 hu) (AF I.hok eb) hd dd ?_;have q:=(rel.val k).isSome_eq;rw[Option.isSome_map] at q;rw[← q,← l];exact h _ (I.tok _)
theorem PP{Q:eQ}(hu:A.units+1 < cLine)(I:ZD X pins σ H s)(g:ZY H a y o)(ry:ZG y u)(h:∀s',ZD X pins σ H s'->Q (.bool (!o.isSome)) s') :
  wpAny (model X.prog X.w) A (compareOp .NotIn u (.ref a)) Q E s:=by
 rcases g with⟨kvs,k,e,ey,l⟩ | ⟨kvs,k,b,e,ey,eb,l⟩
 ·subst ey;obtain⟨z,hd,vs,rel,dd⟩:=Jo I.hok e;refine wpAny_notIn_of (Ja ry) hd dd.mapOf ?_;rw[← (rel.val k).isSome_eq,← l];exact h _ (I.tok _)
 ·subst ey;cases (show u=Value.ref b from ry);obtain⟨z,hd,xs,rel,dd⟩:=JE I.hok e;refine wpAny_notIn_heap (tupleKind_room_in1 hu) (AF I.hok eb) hd dd ?_;have q:=(rel.val k).isSome_eq;rw[Option.isSome_map] at q;rw[← q,← l];exact h _ (I.tok _)
theorem ED{h':Heap}{t':Nat}{ob:HO}(I:ZD X pins σ H s)(mu:BM (H a))(hs:Heap.SameBut a s.heap h')(he:∃q,h'.get? a=some q)(new:ZM X.prog X.w (upd H a ob) h' a ob) :
  ZD X pins σ (upd H a ob) {s with heap:=h',toks:=t' } :=
 I.write (x:=a) (e:=a) mu (.inl rfl) (fun b q hb z=>(hs.2 b hb).trans z) he new
theorem Ig(z:kvs.length<=sizeLine)(hd:(a == sysModules)=false)(rel:KV kvs vs)(dd:h'.DictOf (Y1 P w) a vs) :
  ZM P w H' h' a (.dK kvs):=⟨z,hd,vs,rel,dd⟩
theorem Mg{H':Hp}{Q:Unit->eX->Prop}(hu:A.units+1 < cLine)(I:ZD X pins σ H s)(g:WH H a y v H')(ry:ZG y u)(rv:ZG v r)(h:∀s',ZD X pins σ H' s'->Q () s') :
  wpAny (model X.prog X.w) A (setItem (.ref a) u r) Q E s:=by
 rcases g with⟨kvs,k,e,ey,l,eH⟩ | ⟨kvs,k,b,e,ey,eb,l,eH⟩
 ·subst ey eH;obtain⟨z,hd,vs,rel,dd⟩:=Hg I.hok e;have hz:vs.length<=sizeLine:=by rw[← rel.length];exact z
  have hl:(Yo kvs k v).length<=sizeLine:=by have:=J5 kvs k v;lia
  refine wpAny_setItem_pairs (hsz:=hz) (Ja ry) dd fun h' dd' hs=>h _ ?_;have he:∃q,h'.get? a=some q:=let ⟨q,_,_,hq,_⟩:=dd';⟨q,hq⟩
  exact ED I (by rw[e];exact True.intro) hs he (Ig hl hd (rel.put k rv) dd')
 ·subst ey eH;cases (show u=Value.ref b from ry);obtain⟨z,hd,xs,rel,dd⟩:=bC I.hok e;have hz:xs.length<=sizeLine:=by rw[← Paired.length rel];exact z
  have hl:(Yo kvs k v).length<=sizeLine:=by have:=J5 kvs k v;lia
  refine wpAny_setItem_heap (hsz:=hz) (tupleKind_room_in1 hu) (AF I.hok eb) dd fun h' dd' hs=>h _ ?_;obtain⟨q,es,ep,hq,h2,h3,h4,_,h5⟩:=dd';refine ED I (by rw[e];exact True.intro) hs ⟨q,hq⟩ ⟨hl,hd,_,(rel.put k eb rv).keeps fun c ys ec=>?_,q,es,ep,hq,h2,h3,h4,h5⟩;rw[Zc (Rx ec e (fun z=>nomatch z))];exact ec
end
section
variable{X:Cx}{pins:List (eZ×Obj)}{σ:St}{H:Hp}{s:eX}{a:eZ}{kvs:List (ZQ×V)}{k:ZQ}{u:eY}{A:fD}{E:eQ}
theorem Xk{Q:eQ}(I:ZD X pins σ H s)(e:Rd H a (.dK kvs))(h:∀t s',ZD X pins σ H s'->Q (.int kvs.length t) s'):wpAny (model X.prog X.w) A (call (.builtin "len") [.ref a]) Q E s:=by
 obtain⟨z,hd,vs,rel,dd⟩:=Jo I.hok e;refine call_len_dict hd dd (by rw[← rel.length];rw[sizeLine_eq] at z;lia) ?_;rw[← rel.length];exact h _ _ (I.tok _)
end
def Ew(i:Expr):Prop:=∀ov iv,subscripted i false ov iv=operate [ov,iv] (getItem ov iv)
theorem RP{prog:fA}{w:fB}{A:fD}{E:eQ}{s:eX}{env:Env}{value slice:Expr}{pos:Pos}{T id:String}{Q:eQ}(hl:typeLookup (.type T) "__getitem__" = pure (some (.builtin id)))(hs:Ew slice)(h:wpAny (model prog w) A (eval value env) (fun o s₁=>wpAny (model prog w) A (eval slice env) (fun i s₂=>s₂.TypeIs o T/\wpAny (model prog w) A (getItem o i) Q E s₂) E s₁) E s) :
  wpAny (model prog w) A (eval (.Subscript value slice pos) env) Q E s:=by
 refine Subscript_ (wpAny_mono h (fun o s₁ h₁=>wpAny_mono h₁ (fun i s₂ h₂=>?_) fun _ _ x=>x) fun _ _ x=>x);obtain⟨hT,h₂⟩:=h₂;unfold subscriptTail;refine wpAny_bind ?_;rw[getitemInPython_of_ne hT.not_modules];refine wpAny_bind (wpAny_specialOf hT hl ?_);have fin:wpAny (model prog w) A (subscripted slice false o i) (fun r s₃=>wpAny (model prog w) A (letTemporaryGo value o r >>= fun _=>pure r) Q E s₃) E s₂:=by
  rw[hs o i];exact wpAny_operating (wpAny_mono h₂ (fun r s₃ h₃=>wpAny_bind (wpAny_letTemporaryGo (wpAny_pure h₃))) fun _ _ x=>x)
 first
  | exact wpAny_pure (wpAny_bind fin)
  | exact wpAny_bind (wpAny_pure (wpAny_bind fin))
  | exact wpAny_bind fin
theorem bK{X:Cx}{pins:List (eZ×Obj)}{σ:St}{H:Hp}{s:eX}{a:eZ}{y:V}{o:Option V}(I:ZD X pins σ H s)(g:ZY H a y o):s.TypeIs (.ref a) "dict" := by
 rcases g with⟨kvs,k,e,_,_⟩ | ⟨kvs,k,b,e,_,_,_⟩
 ·obtain⟨_,_,vs,_,dd⟩:=Jo I.hok e;exact dd.typeIs
 ·obtain⟨_,_,xs,_,dd⟩:=JE I.hok e;exact dd.typeIs
inductive Ac(Q:VK)(x y:V)(H2:Hp):Prop
 |mk(a v)(_:x = .ref a)(_:ZY H2 a y (some v))(_:Q v H2)
def Hj(td ty:TE):TE:=fun σ H Q=>td σ H fun x H1=>ty σ H1 fun y H2=>Ac Q x y H2
inductive sDPut_(D:ZW)(σ:St)(v x y:V)(H3:Hp):Prop
 |mk(a H4)(_:x = .ref a)(_:WH H3 a y v H4)(_:D.nx σ H4)
def HG(td ty tv:TE):TS:=fun D σ H=>tv σ H fun v H1=>td σ H1 fun x H2=>ty σ H2 fun y H3=>sDPut_ D σ v x y H3
theorem R3(hu:X.A.units+1 < cLine)(ho:PE X o td)(hi:PE X i ty)(hs:Ew i):PE X (.Subscript o i pos) (Hj td ty):=by
 intro pins s σ H Q I h;refine RP PySem.F.slot_dict_getitem.lookup hs (thn (ho pins s σ H _ I h) fun u s1 ⟨x,H1,I1,rx,q1⟩=>thn (hi pins s1 σ H1 _ I1 q1) fun iv s2 ⟨y,H2,I2,ry,a,v,ex,g,q2⟩=>?_);subst ex;obtain rfl:u=Value.ref a:=rx;exact⟨bK I2 g,MA hu I2 g ry fun w' s3 I3 rw'=>⟨v,H2,I3,rw',q2⟩⟩
theorem Xh(hu:X.A.units+1 < cLine)(ho:PE X o td)(hi:PE X i ty)(hv:PE X value tv)(hs:swapsWith value (some (.Subscript o i pos')) pos.line X.env=pure false) :
  PS X (.Assign [.Subscript o i pos'] value pos) (HG td ty tv):=by
 intro pins s σ H D I h;refine wpAny_Assign_Subscript (thn (hv pins s σ H _ I h) fun r s1 ⟨v,H1,I1,rv,q1⟩=>thn (ho pins s1 σ H1 _ I1 q1) fun u s2 ⟨x,H2,I2,rx,q2⟩=>thn (hi pins s2 σ H2 _ I2 q2) fun iv s3 ⟨y,H3,I3,ry,a,H4,ex,g,q3⟩=>?_) hs;subst ex;obtain rfl:u=Value.ref a:=rx;exact Mg hu I3 g ry rv fun s4 I4=>⟨σ,H4,I4,q3⟩
theorem KP(h:Heap)(hb:sysModules < h.objs.size):ZM P w H (h.push {cls:=.type "dict", data:=.dict #[] }) h.objs.size (.dK []) :=
 ⟨yO _,beq_eq_false_iff_ne.mpr (Ne.symm (yJ hb)),[],.nil,Heap.DictOf.new h⟩
theorem LX(h:Heap)(hb:sysModules < h.objs.size):ZM P w H (h.push {cls:=.type "dict", data:=.dict #[] }) h.objs.size (.dT []) :=
 ⟨yO _,beq_eq_false_iff_ne.mpr (Ne.symm (yJ hb)),[],.nil,_,#[],0,xL _ rfl,⟨rfl,rfl,rfl⟩,rfl,rfl,List.nodup_nil⟩
def cR:TE:=fun _ H Q=>∀p,H p=none->Q (.ref p) (upd H p (.dK []))
def QF:TE:=fun _ H Q=>∀p,H p=none->Q (.ref p) (upd H p (.dT []))
def Fu:List (TE×TE)->St->Hp->(List (V×V)->Hp->Prop)->Prop
 | [],_,H,Q=>Q [] H
 | (tk,tv)::r,σ,H,Q=>tk σ H fun x H1=>tv σ H1 fun y H2=>Fu r σ H2 fun ps H3=>Q ((x,y)::ps) H3
abbrev VV:List (V×V)->List (eY×eY)->Prop:=Paired fun p q=>ZG p.1 q.1/\ZG p.2 q.2
def BP(X:Cx)(pos:Pos)(keys:List (Option Expr))(values:List Expr)(trs:List (TE×TE)):Prop :=
 ∀(pins:List (eZ×Obj))(s:eX)(σ:St)(H:Hp)(Q:List (V×V)->Hp->Prop),ZD X pins σ H s->Fu trs σ H Q ->
  wpAny (model X.prog X.w) X.A (evalPairs (pairTrees keys values X.env pos)) (fun vs s'=>∃ps H',ZD X pins σ H' s'/\VV ps vs/\Q ps H') X.xe s
theorem HU:BP X pos [] [] []:=fun pins s σ H Q I h=>pairTrees_nil_walk ⟨[],H,I,.nil,h⟩
theorem HH(hk:PE X k tk)(hv:PE X v tv)(hr:BP X pos ks vs trs) :
  BP X pos (some k::ks) (v::vs) ((tk,tv)::trs):=fun pins s σ H Q I h =>
 pairTrees_cons_walk (thn (hk pins s σ H _ I h) fun u s1 ⟨x,H1,I1,rx,q1⟩=>thn (hv pins s1 σ H1 _ I1 q1) fun w2 s2 ⟨y,H2,I2,ry,q2⟩=> thn (hr pins s2 σ H2 _ I2 q2) fun ws s3 ⟨ps,H3,I3,rel,q3⟩=>⟨(x,y)::ps,H3,I3,.cons ⟨rx,ry⟩ rel,q3⟩)
def Yu(kvs more:List (ZQ×V)):List (ZQ×V):=more.foldl (fun acc kv=>Yo acc kv.1 kv.2) kvs
theorem KV.merge:∀{more:List (ZQ×V)}{rs:List (ZQ×eY)}{kvs:List (ZQ×V)}{vs:List (ZQ×eY)},KV more rs->KV kvs vs->KV (Yu kvs more) (merged vs rs):=by
 intro more rs kvs vs r;unfold KV at r
 induction r generalizing kvs vs with
 | nil=>intro q;exact q
 | @cons p q ps qs h t ih =>
  intro r0;have e:KV (Yo kvs p.1 p.2) (stored vs q.1 q.2):=by
   have:=r0.put p.1 h.2;rw[← h.1];exact this
  exact ih e
theorem Ht:∀more kvs,(Yu kvs more).length<=kvs.length+more.length
 | [],kvs=>by show kvs.length<=kvs.length+0;lia
 | p::r,kvs=>by
  have h1:=Ht r (Yo kvs p.1 p.2);have h2:=J5 kvs p.1 p.2;show (Yu (Yo kvs p.1 p.2) r).length<=_;rw[xF];lia
theorem Kh:∀{kvs:List (ZQ×V)}{ws:List (eY×eY)},VV (kvs.map fun kv=>(kV kv.1,kv.2)) ws->∃rs,Carries (Y1 P w) ws rs/\KV kvs rs
 | [],_,r=>by rw[List.map_nil] at r;cases r;exact⟨[],True.intro,.nil⟩
 | p::kvs,_,r=>by
  rw[xW] at r;cases r with
  | @cons a b as bs h t =>
   obtain⟨rs,c,q⟩:=Kh (P:=P) (w:=w) t;obtain⟨b1,b2⟩:=b;exact⟨(p.1,b2)::rs,⟨Ja h.1,rfl,c⟩,.cons ⟨rfl,h.2⟩ q⟩
def ER(trs:List (TE×TE)):TE:=fun σ H Q=>∀p,H p=none->Fu trs σ (upd H p (.dK [])) fun ps H2=>H2 p=some (.dK [])/\∃kvs:List (ZQ×V),ps=kvs.map (fun kv=>(kV kv.1,kv.2))/\kvs.length<=15/\Q (.ref p) (upd H2 p (.dK (Yu [] kvs)))
theorem HS(h:BP X pos keys values trs)(hall:keys.all (·.isSome)=true)(hl:keys.length=values.length)(h0:keys ≠ [])(h15:keys.length<=15):PE X (.Dict keys values pos) (ER trs):=by
 intro pins s σ H Q I q;have hn:=I.hok.fresh (xH s.heap.objs.size);have I1:=I.laid (a:=s.heap.objs.size) (o:=.dK []) (h':=s.heap.push {cls:=.type "dict", data:=.dict #[] }) (t':=s.toks) (fun _ _ q=>xB _ q) (xH _) (KP s.heap I.big);refine wpAny_Dict_walk (knd:=Y1 X.prog X.w) hall hl h0 h15 (thn (h pins _ σ _ _ I1 (q _ hn)) fun ws s2 ⟨ps,H2,I2,rel,e,kvs,ep,lk,q2⟩=>?_);subst ep;obtain⟨rs,c,rk⟩:=Kh (P:=X.prog) (w:=X.w) rel;obtain⟨z,hd,vs0,r0,dd⟩:=Hg I2.hok e;cases r0;refine⟨rs,c,dd,fun h' dd' hs=>⟨.ref s.heap.objs.size,_,?_,rfl,q2⟩⟩;have hz:(Yu [] kvs).length<=sizeLine:=by
  have h1:=Ht kvs [];rw[List.length_nil] at h1;rw[sizeLine_eq];lia
 have he:∃q,h'.get? s.heap.objs.size=some q:=let ⟨q,_,_,hq,_⟩:=dd';⟨q,hq⟩
 exact ED I2 (by rw[e];exact True.intro) hs he (Ig hz hd (rk.merge .nil) dd')
structure M2 (X:Cx) (o:Expr) (m:Str) (apos:Pos) (e f:Expr) (cpos:Pos):Prop where
 base:attributeBase o m X.env (eval o X.env)=eval o X.env
 few:((backTo cpos (starEach [e,f] X.env)).all (fun x=>!x.1) && (backToKw cpos (keywordEach [] X.env)).all (fun x=>x.1.isSome)
  && decide (([e,f]:List Expr).length+([]:List Keyword).length+(if ([]:List Keyword).isEmpty then 0 else 1) < 30))=true
 line:(apos.endLine == cpos.line)=true
 trees:backTo cpos (starEach [e,f] X.env)= [(false,eval e X.env),(false,eval f X.env)]
def KC(H:Hp)(a:eZ):Prop:=(∃kvs,Rd H a (.dK kvs))\/∃kvs,Rd H a (.dT kvs)
theorem bA{X:Cx}{pins:List (eZ×Obj)}{σ:St}{H:Hp}{s:eX}{a:eZ}(I:ZD X pins σ H s)(d:KC H a) :
  s.TypeIs (.ref a) "dict" /\ (∀b,Value.ref a = .ref b->∃ob,s.heap.get? b=some ob/\ob.dict=none)/\(a == sysModules)=false:=by
 rcases d with⟨kvs,e⟩ | ⟨kvs,e⟩
 ·obtain⟨_,hd,vs,_,dd⟩:=Jo I.hok e;refine⟨dd.typeIs,fun b q=>?_,hd⟩;cases q;obtain⟨ob,_,_,h1,h2,_⟩:=dd;exact⟨ob,h1,h2.2.1⟩
 ·obtain⟨_,hd,xs,_,dd⟩:=JE I.hok e;refine⟨dd.typeIs,fun b q=>?_,hd⟩;cases q;obtain⟨ob,_,_,h1,h2,_⟩:=dd;exact⟨ob,h1,h2.2.1⟩
section
variable{X:Cx}{pins:List (eZ×Obj)}{σ:St}{H:Hp}{s:eX}{a:eZ}{y d:V}{u r:eY}{o:Option V}{A:fD}{E:eQ}
theorem NG{Q:eQ}(hu:A.units+1 < cLine)(I:ZD X pins σ H s)(g:ZY H a y o)(ry:ZG y u)(rd:ZG d r)(h:∀w' s',ZD X pins σ H s'->ZG (o.getD d) w'->Q w' s') :
  wpAny (model X.prog X.w) A (call (.builtin "dict.get") [.ref a,u,r]) Q E s:=by
 rcases g with⟨kvs,k,e,ey,l⟩ | ⟨kvs,k,b,e,ey,eb,l⟩
 ·subst ey;obtain⟨z,hd,vs,rel,dd⟩:=Jo I.hok e;refine call_meetsIn PySem.F.slot_dict_get dd.typeIs PySem.F.entry_dict_get (PySem.F.args_dict_get_3 _ _ _) (meets_dict_get_default (Y1 X.prog X.w) a (Ja ry) hd r) ⟨_,dd.mapOf,h _ _ (I.tok _) ?_⟩;rw[l];exact(rel.val k).getD rd
 ·subst ey;cases (show u=Value.ref b from ry);obtain⟨z,hd,xs,rel,dd⟩:=JE I.hok e;refine call_meetsIn PySem.F.slot_dict_get dd.typeIs PySem.F.entry_dict_get (PySem.F.args_dict_get_3 _ _ _) (meetsH_dict_get_default (tupleKind (Y1 X.prog X.w)) a b hd r) ⟨tupleKind_room_in1 hu,k,xs,AF I.hok eb,dd,h _ _ (I.tok _) ?_⟩;rw[l];exact(rel.val k).getD rd
end
inductive Jb(ty tx:TE)(σ:St)(Q:VK)(x:V)(H1:Hp):Prop
 |mk(a)(_:x = .ref a)(_:KC H1 a)(_:ty σ H1 fun y H2=>tx σ H2 fun z H3=>∃o,ZY H3 a y o/\Q (o.getD z) H3)
def GQ(td ty tx:TE):TE:=fun σ H Q=>td σ H fun x H1=>Jb ty tx σ Q x H1
theorem cL(hu:X.A.units+1 < cLine)(ho:PE X o td)(he:PE X e ty)(hf:PE X f tx)(m:M2 X o "get" apos e f cpos):PE X (.Call (.Attribute o "get" apos) [e,f] [] cpos) (GQ td ty tx):=by
 intro pins s σ H Q I h;refine wpAny_Call_method m.base m.few m.line PySem.F.plainAttrs_dict PySem.F.slot_dict_get PySem.F.type_dict_get (thn (ho pins s σ H _ I h) fun u s1 ⟨x,H1,I1,rx,a,ex,d,q1⟩=>?_);subst ex;obtain rfl:u=Value.ref a:=rx;obtain⟨t1,t2,_⟩:=bA I1 d;refine⟨t1,t2,?_⟩;rw[m.trees];refine Calls.callWith_builtin rfl (Calls.evalArgs_plain (Calls.spliced_cons (thn (he pins s1 σ H1 _ I1 q1) fun iv s2 ⟨y,H2,I2,ry,q2⟩=> Calls.spliced_cons (thn (hf pins s2 σ H2 _ I2 q2) fun fv s3 ⟨z,H3,I3,rz,ov,g,q3⟩=>Calls.spliced_nil ?_))));exact NG hu I3 g ry rz fun w' s4 I4 rw'=>⟨_,H3,I4,rw',q3⟩
section
variable{X:Cx}{pins:List (eZ×Obj)}{σ:St}{H:Hp}{s:eX}{a:eZ}{kvs:List (ZQ×V)}{A:fD}{E:eQ}
end
section
variable{X:Cx}{pins:List (eZ×Obj)}{σ:St}{H:Hp}{s:eX}{a:eZ}{y:V}{u:eY}{A:fD}{E:eQ}
end
end L2
namespace Att
open PySem PySem.W PySem.Calls PyProof.Rows
theorem SW:∀ns vs,WellAll P h vs (ns.map WData.int)->IntsAre vs ns:=by
 intro ns
 induction ns with
 | nil =>
  intro vs w;rw[List.map_nil] at w;cases w;exact .nil
 | cons n ns ih =>
  intro vs w;rw[xW] at w;cases w with
  | cons a b =>
   cases a;exact .cons _ _ (ih _ b)
theorem RW{l:OpenLaw}{n:Nat}(hn:l.most=some n){P:Params}{h:Heap}{args:List WData}{vals:eU}(hpre:l.row.toRowW.claim.pre args=true)(hwl:WellAll P h vals args) :
  ∃a vs ns,vals = [Value.ref a]/\args = [WData.list (ns.map WData.int)]/\h.get? a=some {cls:=.type "list", data:=.seq vs.toArray }/\IntsAre vs ns/\ns.length<=n:=by
 have hsh:WShape.hasAll [] args [.list .int]=true:=(pre_splitW hpre).1;have hc:l.pre.holds [] {args:=args }=true:=(pre_splitW hpre).2;obtain⟨d,r,rfl,h1,h2⟩:=hasAllW_cons hsh;obtain rfl:=hasAllW_nil h2;obtain⟨xs,rfl,h3⟩:=hasW_list h1;obtain⟨ns,rfl⟩:=items_int h3;have hlen:ns.length<=n:=by
  unfold OpenLaw.pre at hc;have h4:(WTm.not (.lt (.lit (.int (n:Int))) (.len (.arg 0)))).holds [] {args:=[.list (ns.map .int)] }=true:=by
   have h4:=(holds_andW hc).1;rw[hn] at h4;exact h4
  have h5:=condW_of h4 (w_not (w_lt w_lit (w_len_list (w_arg rfl))));rw[xA] at h5;refine Nat.le_of_not_lt fun q=>?_;have q':(n:Int) < ((ns.length:Nat):Int):=by lia
  first
   | (rw[xZ q'] at h5;exact absurd h5 aA)
   | (simp at h5;lia)
 cases hwl with
 | cons w1 w2 =>
  cases w2;cases w1 with
  | list ho hall=>exact⟨_,_,ns,rfl,rfl,ho,SW ns _ hall,hlen⟩
theorem dD(l:OpenLaw)(args:List WData):l.row.toRowW.claim.post args (.bool true) args=true :=
 postW_of (r:=l.row.toRowW) (X:=(true == true))
  (show WShape.has [] (.bool true) .bool=true by first | rfl | decide | simp[WShape.has,WShape.arms,WShape.armsAll])
  (show (WTm.eq .res (.lit (.bool true))).value [] {args:=args,res:=some (.bool true),after:=args }=some (.bool (true == true)) from w_eq_bool (w_res rfl) w_lit) rfl
theorem attach_call{l:OpenLaw}{n:Nat}{q:fA}{loose:eS}{XP:(eR)->Heap->Prop}{YP:fB->Heap->Prop}{d:DefRec}(hn:l.most=some n)(hdf:d.params.defaults = [])(call:∀w s₀ s₁ mg mb fa o pm cd doc a vs ns, Ground q loose [] XP w s₀ mg mb s₁.heap->YP w s₁.heap -> s₁.heap.get? fa=some o->o.data = .func (docDef d.name d.params d.body d.scope pm cd doc)->s₁.heap.CodeRec cd d.name->mg d.name=some (.ref fa)-> s₁.heap.get? a=some {cls:=.type "list", data:=.seq vs.toArray }->IntsAre vs ns->ns.length<=n->s₁.gens = #[]-> codeAny (model l.prog w) callerA (.call (.ref fa) ⟨[.ref a],[]⟩) (fun r s'=>r = .ok (.ret (.bool true))/\OldK s₁.heap s'.heap/\s'.os=s₁.os/\AllBare s'.gens) s₁) :
  WalkO q loose XP YP l.row.toRowW d [] (fun f vs=>PySem.call f vs):=by
 intro w s₀ s₁ mg mb G Y fa o pm cd doc dV kV ho hd hcd hD hmg hg args vals as hpre hlay hrd hwl hlo;obtain rfl:dV = .none:=Dflts.none hD hdf;obtain rfl:kV = .none:=Dflts.noKw hD;obtain⟨a,vs,ns,rfl,rfl,hobj,hints,hlen⟩:=RW hn hpre hwl;refine enter_call (codeAny_mono (call w s₀ s₁ mg mb fa o pm cd doc a vs ns G Y ho (fd_plain hd) hcd hmg hobj hints hlen hg) fun r s' hq=>?_);obtain⟨rfl,h2,h3,h4⟩:=hq;exact⟨.inl ⟨.bool true,.bool true,[],rfl,fun _=>rfl,.bool true,dD l _,fun _=>⟨List.Pairwise.nil,fun _ hm=>(nomatch hm)⟩⟩,h2,h3,h4⟩
section
variable{prog:fA}{w:fB}{A:fD}{E:eQ}{s:eX}{K:Frag}
end
end Att
namespace L2
open PySem PySem.Spec PyProof.Rows
theorem Lx:∀{vs:eU}{ns:List Int},IntsAre vs ns->ZH (ns.map V.int) vs
 | _,_,.nil=>.nil
 | _,_,.cons n t h=>.cons ⟨t,rfl⟩ (Lx h)
def FW(H:Hp):Prop:=∀b,H b=none\/∃o xs,H b=some (.frz o (.lst xs))
theorem Xn{P:fA}{w:fB}{K:uFg}{mg mb:eR}{CX:VX}{k:Nat}{fa a:eZ}{fd:FuncData}{x:Str}{sp:Sp}{s₁:eX}{vs:eU}{ns:List Int}(KX:K.In s₁.heap)(hns:s₁.heap.Ns mainGlobals mg)(hb:s₁.heap.Ns builtinsNs mb)(hbb:∀x:Str,x ≠ "__name__" -> mb x=bootBuiltins x)(hlim:s₁.heap.NoLimit)(hg:s₁.gens = #[])(ha:s₁.heap.get? a=some {cls:=.type "list", data:=.seq vs.toArray })(hi:IntsAre vs ns)(hl:ns.length<=sizeLine)(hr:ZJ k callerA)(F:∀base:Heap,K.In base->base.Ns mainGlobals mg->ZZ P w K mg base CX k fa fd [x] sp)(hbind:∀s u,BindsTo s fd ⟨[u],[]⟩ [(x,u)])(hsp:∀H:Hp,FW H->ZF K H a (ns.map V.int)->sp [.ref a] H (fun v _=>v = .bl true) fun _ _ _=>False)(hCX:∀H e s',CX [] H s₁ (fun _ _ _=>False) e s'->False) :
  codeAny (model P w) callerA (.call (.ref fa) ⟨[.ref a],[]⟩) (fun r s'=>r = .ok (.ret (.bool true))/\OldK s₁.heap s'.heap/\s'.os=s₁.os/\AllBare s'.gens) s₁:=by
 have rv:=Lx hi;have lenV:=hi.length;have core:∀H:Hp,FW H->ZF K H a (ns.map V.int)->YG P w H s₁.heap->(∀b,H b≠none->b=a)->(H a≠none->K.lookup a=none)->
   codeAny (model P w) callerA (.call (.ref fa) ⟨[.ref a],[]⟩) (fun r s'=>r = .ok (.ret (.bool true))/\OldK s₁.heap s'.heap/\s'.os=s₁.os/\AllBare s'.gens) s₁:=by
  intro H hO hS hok hA hK;have base_of:∀{b:eZ}{o:Obj},s₁.heap.get? b=some o->H b=none->(Jj s₁.heap H).get? b=some o:=fun e n=>Xa e n;have noA:∀{b:eZ}{o:Obj}{es:Array DictEntry}{ep:Nat},s₁.heap.get? b=some o->o.data = .dict es ep->H b=none:=fun {b o es ep} e d=>by grind
  have nsK:∀{b:eZ}{m:eR},s₁.heap.Ns b m->(Jj s₁.heap H).Ns b m:=fun {b m} ⟨o,es,ep,e,d,r⟩=>⟨o,es,ep,base_of e (noA e d),d,r⟩
  have hKb:K.In (Jj s₁.heap H):=fun b o e=>base_of (KX b o e) (by
   cases q:H b with
   | none=>rfl
   | some u =>
    have e':b=a:=hA b (by rw[q];simp);subst e'
    rw[hK (by rw[q];simp)] at e;cases e)
  have hM:Mod K mg (Jj s₁.heap H):=⟨hKb,nsK hns,⟨mb,nsK hb,hbb⟩,let ⟨mc,h1,h2⟩:=hlim;⟨mc,nsK h1,h2⟩⟩;have e0:WQ P w K mg (Jj s₁.heap H) callerA [] s₁ H:=⟨rfl,hM,fun b o e=>Mj e,zZ (eB _ _),trivial,fun b hb=>absurd (show b∈([]:eW) from hb) (by simp),hok,.of_eq hg⟩;refine codeAny_mono ((F _ hKb (nsK hns)).run callerA [] s₁ H ⟨[.ref a],[]⟩ [.ref a] [.ref a] _ _ hr e0 (hbind s₁ (.ref a)) (.cons rfl .nil) (hsp H hO hS)) fun r s' h=>?_;cases r with
  | error e=>exact(hCX H e s' h).elim
  | ok fl =>
   cases fl with
   | next=>exact False.elim h
   | brk=>exact False.elim h
   | cont=>exact False.elim h
   | ret u =>
    obtain⟨v,H',os,bare,un,hok',r',q⟩:=h;have q':v = .bl true:=q;subst q';obtain rfl:u=Value.bool true:=r';refine⟨rfl,OldK.of_keep fun b o e=>?_,os,bare⟩;cases q:H b with
    | none=>exact un.keep b o e q (by intro z;exact absurd (show b∈([]:eW) from z) (by simp)) (by simp)
    | some u =>
     rcases hO b with z | ⟨ob,xs,z⟩
     ·rw[q] at z;cases z
     ·have z2:=un.frzs b ob _ z;obtain⟨e1,_⟩:=hok b _ z;obtain⟨e2,_⟩:=hok' b _ z2;rw[e] at e1;cases e1;exact e2
 cases hk:K.lookup a with
 | some o =>
  have e:=KX a o hk;rw[ha] at e;cases e;refine core (fun _=>none) (fun _=>.inl rfl) (.inr ⟨_,vs.toArray,_,hk,rfl,rfl,rfl,by rw[xV,lenV];exact hl,by simpa using rv⟩) (fun b u z=>by have z':(none:Option HO)=some u:=z;cases z') (fun b z=>absurd rfl z) fun z=>absurd rfl z
 | none =>
  refine core (fun b=>if b=a then some (.frz {cls:=.type "list", data:=.seq vs.toArray } (.lst (ns.map V.int))) else none) (fun b=>?_) (.inl (.inr ⟨{cls:=.type "list", data:=.seq vs.toArray },if_pos rfl⟩)) (fun b u z=>?_) (fun b z=>?_) fun _=>hk
  ·by_cases hb:b=a
   ·exact .inr ⟨_,_,if_pos hb⟩
   ·exact .inl (if_neg hb)
  ·by_cases hb:b=a
   ·have z':=(if_pos hb).symm.trans z;cases z';subst hb;exact⟨ha,by rw[xA];exact hl,vs,_,rv,ha⟩
   ·have z':=(if_neg hb).symm.trans z;cases z'
  ·by_cases hb:b=a
   ·exact hb
   ·exact absurd (if_neg hb) z
theorem walk_of{l:PySem.W.OpenLaw}{n k:Nat}{q:fA}{loose:eS}{XP:(eR)->Heap->Prop}{YP:fB->Heap->Prop}{d:DefRec}{K:Params->uFg}{CX:fB->VX}{sp:fB->Sp}{x:Str}(hn:l.most=some n)(hn2:n<=sizeLine)(hdf:d.params.defaults = [])(hr:ZJ k callerA)(hY:∀ (w:fB) (h:Heap),YP w h->(K w.params).In h)(F:∀ (w:fB) (mg:eR) (fa:eZ) (h:Heap),(K w.params).In h->h.Ns mainGlobals mg->mg d.name=some (.ref fa)-> ∃fd:FuncData,(∀ (s:eX) (u:eY),BindsTo s fd ⟨[u],[]⟩ [(x,u)])/\ ∀base:Heap,(K w.params).In base->base.Ns mainGlobals mg->ZZ l.prog w (K w.params) mg base (CX w) k fa fd [x] (sp w))(hsp:∀ (w:fB) (H:Hp) (a:eZ) (ns:List Int),ns.length<=n->FW H->ZF (K w.params) H a (ns.map V.int)->sp w [.ref a] H (fun v _=>v = .bl true) fun _ _ _=>False)(hCX:∀ (w:fB) (H:Hp) (s:eX) (e:eY) (s':eX),CX w [] H s (fun _ _ _=>False) e s'->False) :
  PySem.W.WalkO q loose XP YP l.row.toRowW d [] (fun f vs=>PySem.call f vs):=by
 refine Att.attach_call hn hdf fun w s₀ s₁ mg mb fa o pm cd doc a vs ns G Y ho hd hcd hmg hobj hints hlen hg=>?_;have KX:=hY w _ Y;obtain⟨fd,hb,hF⟩:=F w mg fa _ KX G.T.g hmg;exact Xn KX G.T.g G.T.b G.T.builtins G.T.nolimit hg hobj hints (yK hlen hn2) hr hF hb (fun H hO hS=>hsp w H a ns hlen hO hS) fun H e s'=>hCX w H s₁ e s'
end L2
/- THE LAST THEOREM (shape;LID,My.* are yours):
   My.Adr: a structure of the addresses that your layer names (classes,functions);My.Txt K t: a structure (Prop) of the equations over K;
   My.txt_mk:{K} {implicit addresses ..} (e1:nsIn K mainGlobals "law" = some (some (.ref f))) (e2:K.lookup f=some ⟨oc,od,.func (fnOf "law" "law" params body scope dV kV doc pm an cdv ct),sl⟩) (e3:codeIn K cdv "law" = true) .. : ∃t,My.Txt K t
set_option maxRecDepth 100000 in
set_option maxHeartbeats 0 in
theorem PySem.Challenge.cw_LID_holds : PySem.Challenge.rw_LID.Holds := by
 w_on;o_law;k_head;(case hw=>w_witness2)
 k_fill
 refine L2.walk_of (l:=PySem.Challenge.rw_LID) (n:=63) (k:=40) (x:="script") (CX:=fun w=>..) (sp:=fun _=>My.sp_law) rfl aA rfl ⟨rfl,aA,aA⟩ (fun w h Y=>PySem.W.kIn_of Y) ?F ?S ?C
 case F =>
  intro w mg fa h KX G hmg;have T:∃t,My.Txt (L2.KOf KX) t:=by
   dsimp only [L2.KOf]                          -- K must stand as «<heap const> w.params» for k_is;refine' My.txt_mk ?e1 ?e2 ?e3 ..
   (case e1=>PySem.W.k_is)                    -- in the order: a name->its address->its object->its parts
   (case e2=>PySem.W.k_is)
   ..
  obtain⟨t,T⟩:=T;have e0:=hmg.symm.trans (PySem.W.mg_of KX G T.law);cases e0                                       -- fa is the law's own address;exact⟨_,fun s u=>.of_eq rfl,fun base kb nb=>My.law_fn T kb nb⟩     -- if «.of_eq rfl» comes too early: refine' ⟨_,?b,fun base kb nb=>My.law_fn T kb nb⟩;exact fun s u=>.of_eq rfl
 case S=>exact fun w H a ns hl hO hS=>..
 case C=>exact ..
(the tactic k_is has no namespace: write k_is) -/
namespace L2
open PySem PySem.Spec PyProof.Rows
def Yr(s:Stmt)(j:Nat):Stmt:=match s with
 | .ClassDef _ _ _ body _ _ _ _ _ _ _=>body.getD j (.Pass ⟨0,0,0,0⟩)
 | _=>.Pass ⟨0,0,0,0⟩
def Wa(s:Stmt):Arguments:=match s with
 | .FunctionDef _ a _ _ _ _ _ _ _ _=>a
 | _=>{posonlyargs:=[],args:=[],vararg:=none,kwonlyargs:=[],kw_defaults:=[],kwarg:=none,defaults:=[] }
def Yd(s:Stmt):List Stmt:=match s with
 | .FunctionDef _ _ b _ _ _ _ _ _ _=>b
 | _=>[]
def Zj(s:Stmt):Scope:=match s with
 | .FunctionDef _ _ _ _ _ _ sc _ _ _=>sc
 | _=>{kind:=.function,names:=[],isGenerator:=false,isCoroutine:=false }
abbrev YY:VX:=fun _ _ _ _ _ _=>False
abbrev E0:XK:=fun _ _ _=>False
theorem Dm:JH YY X E0:=fun _ _ _ _ _ _ _ h=>h.elim
structure UN (K:uFg) (x qual:Str) (st:Stmt) (f:eZ) (fd:FuncData):Prop where
 ex:∃(oc:eY)(od:Option eZ)(kV doc pm:eY)(an:Option eZ)(cdv ct:eY)(osl:Array (Option eY)),
  fd=PySem.W.fnOf x qual (Wa st) (Yd st) (Zj st) .none kV doc pm an cdv ct/\K.lookup f=some ⟨oc,od,.func fd,osl⟩/\PySem.W.codeIn K cdv qual=true
 kp:PySem.W.keepIn K (.ref f)=true
section
variable{P:fA}{w:fB}{K:uFg}{mg:eR}{base:Heap}
theorem UN.ok{x qual:Str}{st:Stmt}{f:eZ}{fd:FuncData}{N ps:eS}{k:Nat}{sp:Sp}(F:UN K x qual st f fd)(S:ZL N ps (Zj st))(len:∀vs H Q E,sp vs H Q E->vs.length=ps.length)(hbody:∀ (cdv:eY) (A:fD) (outer:List Env) (s:eX) (H:Hp) (vs:aG) (Q:VK) (E:XK),ZJ k (A.deeper (envOfC qual (Zj st) s.heap.objs.size f cdv))->sp vs H Q E -> ∃t,Ae (Yp YY P w K mg base N qual (Zj st) f cdv A outer s H E).nox (Yd st) t/\t {nx:=fun _ H'=>Q .non H',rt:=Q } (start N vs) H):ZZ P w K mg base YY (k+1) f fd ps sp:=by
 obtain⟨oc,od,kV,doc,pm,an,cdv,ct,osl,rfl,lk,hcd⟩:=F.ex;refine IU lk hcd S len fun A outer s H vs Q E hr hsp=>?_;obtain⟨t,h,q⟩:=hbody cdv A outer s H vs Q E hr hsp;exact⟨t,h.nox,q⟩
theorem UN.binds{x qual:Str}{st:Stmt}{f:eZ}{fd:FuncData}{ps:eS}(F:UN K x qual st f fd)(h:∀ (kV doc pm:eY) (an:Option eZ) (cdv ct:eY) (us:eU),us.length=ps.length->bindArgs (PySem.W.fnOf x qual (Wa st) (Yd st) (Zj st) .none kV doc pm an cdv ct) ⟨us,[]⟩=pure (ps.zip us)):YE K fd ps []:=by
 obtain⟨oc,od,kV,doc,pm,an,cdv,ct,osl,rfl,lk,hcd⟩:=F.ex;exact .all (h kV doc pm an cdv ct)
theorem Fl{x qual:Str}{st:Stmt}{f:eZ}{oc:eY}{od an:Option eZ}{osl:Array (Option eY)}{kV doc pm cdv ct:eY}(l:K.lookup f=some ⟨oc,od,.func (PySem.W.fnOf x qual (Wa st) (Yd st) (Zj st) .none kV doc pm an cdv ct),osl⟩)(c:PySem.W.codeIn K cdv qual=true)(k:PySem.W.keepIn K (.ref f)=true):UN K x qual st f (PySem.W.fnOf x qual (Wa st) (Yd st) (Zj st) .none kV doc pm an cdv ct):=⟨⟨oc,od,kV,doc,pm,an,cdv,ct,osl,rfl,l,c⟩,k⟩
end
section
variable{X:Cx}
end
theorem Zy{A B:Prop}(h:B):if false=true then A else B:=by
 rw[if_neg xR];exact h
theorem Z2{A B:Prop}(h:A):if true=true then A else B:=by
 rw[if_pos rfl];exact h
def ZC(H H':Hp):Prop:=∀b o,H b=some o->H' b=some o
theorem ZC.refl(H:Hp):ZC H H:=fun _ _ h=>h
theorem ZC.trans(a:ZC H H1)(b:ZC H1 H2):ZC H H2:=fun c o h=>b c o (a c o h)
theorem ZC.free(e:ZC H H')(h:H' l=Option.none):H l=Option.none:=by
 cases q:H l with
 | none=>rfl
 | some o =>
  rw[e l o q] at h;cases h
theorem Ny:U0 X (.builtin "len") (fun xs H Q=>∃a kvs,xs = [V.ref a]/\H a=some (.dK kvs)/\Q (.int kvs.length) H):=by
 intro pins s σ H xs us Q I r h;obtain⟨a,kvs,rfl,ha,q⟩:=h;obtain⟨u,rfl,ru⟩:=Vg r;cases ru;exact Xk I (.inl ha) fun t s' I'=>⟨.int kvs.length,H,I',⟨t,rfl⟩,q⟩
section
variable{κ:Type} [DecidableEq κ]
theorem GI:∀{l:List κ}{k : κ},l.Nodup->¬k∈l->(l ++ [k]).Nodup
 | [],k,_,_=>by simp
 | a::r,k,h,hk=>by
  obtain⟨h1,h2⟩:=yT.mp h;show (a::(r ++ [k])).Nodup;refine yT.mpr ⟨fun m=>?_,GI h2 fun m=>hk (xC.mpr (Or.inr m))⟩;rcases xI.mp m with q | q
  ·exact h1 q
  ·exact hk (xC.mpr (Or.inl (xO.mp q).symm))
end
end L2
end
namespace L2
open PySem PySem.Spec PyProof.Rows
abbrev ccx(X:Cx)(scope:Scope)(cl:List (Str×eZ))(C:eZ)(N':eS)(s2:eX)(H2:Hp)(ex:eW)(pn:List (eZ×Obj)):Cx where
 prog:=X.prog
 w:=X.w
 K:=X.K
 mg:=X.mg
 base:=X.base
 A:=X.A
 N:=N'
 s₀:=s2
 H₀:=H2
 env:=compEnvC scope cl C X.env
 outer:=X.stack
 stack:=X.stack
 ex:=ex
 fn:=fun _=>false
 calm:=X.calm
 pn:=pn
 xe:=fun _ _=>False
theorem FC(env:Env):∀(l:List (Str×NameKind))(cs:List (Str×eZ)),(∀p∈l,p.2 = .free->∃c,env.cells.lookup p.1=some c)->
  ∃cl,(forIn l cs (fun(x:Str×NameKind) (r:List (Str×eZ))=>if (x.2 == NameKind.free)=true then (do let a ← cellOf env x.1;pure (ForInStep.yield ((x.1,a)::r)):Sem (ForInStep (List (Str×eZ)))) else pure (ForInStep.yield r)):Sem _)=pure cl /\
   (∀x c,cl.lookup x=some c->env.cells.lookup x=some c\/cs.lookup x=some c)/\(∀x,((x,NameKind.free)∈l\/∃c,cs.lookup x=some c)->∃c,cl.lookup x=some c)
 | [],cs,_=>⟨cs,rfl,fun x c h=>.inr h,fun x h=>h.elim (fun z=>nomatch z) id⟩
 | (n,k)::r,cs,h=>by
  have hr:∀p∈r,p.2 = .free->∃c,env.cells.lookup p.1=some c:=fun p hp=>h p (xG _ hp)
  by_cases hk:k = .free
  ·subst hk;obtain⟨c,hc⟩:=h (n,.free) xQ rfl;obtain⟨cl,e,h1,h2⟩:=FC env r ((n,c)::cs) hr;refine⟨cl,?_,fun x d hx=>?_,fun x hx=>?_⟩
   ·rw[List.forIn_cons];have e2:cellOf env n=pure c:=by unfold cellOf;rw[hc]
    simp only[beq_self_eq_true,if_true,e2,pure_bind];exact e
   ·grind
   ·apply h2;rcases hx with hx | ⟨d,hx⟩
    ·grind
    ·grind
  ·obtain⟨cl,e,h1,h2⟩:=FC env r cs hr;refine⟨cl,?_,h1,fun x hx=>h2 x ?_⟩
   ·grind
   ·grind
theorem Qs(h:∀p∈scope.names,p.2 = .free->∃c,env.cells.lookup p.1=some c) :
  ∃cl,closureFor scope env=pure cl/\(∀x c,cl.lookup x=some c->env.cells.lookup x=some c)/\(∀x,(x,NameKind.free)∈scope.names->∃c,cl.lookup x=some c):=by
 obtain⟨cl,e,h1,h2⟩:=FC env scope.names [] h;refine⟨cl,?_,fun x c hx=>(h1 x c hx).elim id (fun z=>nomatch z),fun x hx=>h2 x (.inl hx)⟩;unfold closureFor;have e':=congrArg (fun m:Sem (List (Str×eZ))=>m >>= fun r=>pure r) e;simp only[pure_bind] at e';exact e'
theorem HQ{env:Env}{kk:NameKind}(hkk:kk ≠ .free):∀{names:List (Str×NameKind)}{x:Str},names.lookup x=some kk ->
  (names.map fun(n,k)=>if (k == NameKind.free && env.scope.kind == .function && env.kindOf n == some .cell) then (n,NameKind.cell) else (n,k)).lookup x=some kk
 | [],_,h=>by simp at h
 | (n,k)::r,x,h=>by
  have ih:=@HQ env kk hkk r x;show List.lookup x ((if (k == NameKind.free && env.scope.kind == .function && env.kindOf n == some .cell)=true then (n,NameKind.cell) else (n,k))::_)=_;cases hx:x == n with
  | true =>
   simp only[zD,hx] at h;have h:some k=some kk:=h;have h':k=kk:=Option.some.inj h;subst h';have e:(k == NameKind.free)=false:=by simpa using hkk
   rw[e,yE,yE,if_neg xR,zD,hx]
  | false =>
   simp only[zD,hx] at h
   by_cases hc:(k == NameKind.free && env.scope.kind == .function && env.kindOf n == some .cell)=true
   ·rw[if_pos hc];simp only[zD,hx];exact ih h
   ·rw[if_neg hc];simp only[zD,hx];exact ih h
theorem E4{env:Env}:∀{names:List (Str×NameKind)}{x:Str},names.lookup x=some .free ->
  ((names.map fun(n,k)=>if (k == NameKind.free && env.scope.kind == .function && env.kindOf n == some .cell) then (n,NameKind.cell) else (n,k)).lookup x=some .cell)\/
  ((names.map fun(n,k)=>if (k == NameKind.free && env.scope.kind == .function && env.kindOf n == some .cell) then (n,NameKind.cell) else (n,k)).lookup x=some .free)
 | [],_,h=>by simp at h
 | (n,k)::r,x,h=>by
  have ih:=@E4 env r x;show (List.lookup x ((if (k == NameKind.free && env.scope.kind == .function && env.kindOf n == some .cell)=true then (n,NameKind.cell) else (n,k))::_)=_)\/(List.lookup x ((if (k == NameKind.free && env.scope.kind == .function && env.kindOf n == some .cell)=true then (n,NameKind.cell) else (n,k))::_)=_);cases hx:x == n with
  | true =>
   simp only[zD,hx] at h;cases h
   by_cases hc:(NameKind.free == NameKind.free && env.scope.kind == .function && env.kindOf n == some .cell)=true
   ·rw[if_pos hc];simp[zD,hx]
   ·rw[if_neg hc];simp[zD,hx]
  | false =>
   simp only[zD,hx] at h
   by_cases hc:(k == NameKind.free && env.scope.kind == .function && env.kindOf n == some .cell)=true
   ·rw[if_pos hc];simp only[zD,hx];exact ih h
   ·rw[if_neg hc];simp only[zD,hx];exact ih h
theorem Kk(hcell:∀y∈scope.names,y.2 ≠ .cell)(h:(relabel scope env).names.lookup x=some .cell\/(relabel scope env).names.lookup x=some .free):(x,NameKind.free)∈scope.names:=by
 have m:∃k',(k'=NameKind.cell\/k'=NameKind.free)/\(x,k')∈(relabel scope env).names:=by
  rcases h with h | h
  ·exact⟨_,.inl rfl,PySem.mem_of_lookup h⟩
  ·exact⟨_,.inr rfl,PySem.mem_of_lookup h⟩
 obtain⟨k',hk,m⟩:=m;obtain⟨⟨n,k⟩,hm,e⟩:=yS.mp m;have e:(if (k == NameKind.free && env.scope.kind == .function && env.kindOf n == some .cell)=true then (n,NameKind.cell) else (n,k))=(x,k'):=e
 by_cases hc:(k == NameKind.free && env.scope.kind == .function && env.kindOf n == some .cell)=true
 ·grind
 ·grind
theorem SL(I:Nat->eX->Prop)(hEX:∀e s,EX e s->notedBy (model prog w) A env (fun x s'=>R (.error x) s') e s)(turn:∀n s,I n s->wpAny (model prog w) A (pyNext it) (fun r s₁=>match r with
   | none=>R (.ok .next) s₁
   | some v=>wpAny (model prog w) A (letOwnedTupleGo target it v) (fun _ s1=>wpAny (model prog w) A (assign target env v) (fun _ s₂ =>
     wpAny (model prog w) A (forIn ifs true fun c r=>if r=true then do let ok ← isTrue c env (eval c env);pure (ForInStep.yield ok) else pure (ForInStep.yield r)) (fun ok s₃ =>
      if ok=true then wpAny (model prog w) A (eval elt env) (fun x s₄ =>
       wpAny (model prog w) A (call (.builtin "list.append") [acc,x]) (fun _ s₅=>∃m,m < n/\I m s₅) (fun _ _=>False) s₄) EX s₃
      else ∃m,m < n/\I m s₃) (fun _ _=>False) s₂) (fun _ _=>False) s1) (fun _ _=>False) s₁) (fun _ _=>False) s)(n:Nat)(h:I n s) :
  codeAny (model prog w) A (.compLoop (.ListComp elt [⟨target,iter,ifs,0⟩] scope pos) 0 it acc env) R s:=by
 refine codeAny_loop rfl I (fun n s hI=>?_) n h;show wpAny _ A ((compTurn (.ListComp elt [⟨target,iter,ifs,0⟩] scope pos) 0 it acc env).onRaise (fun x=>do noteFrame x env;theTreesLotGoes x)) _ _ s;refine wpAny_noted ?_;rw[compTurn_list];refine wpAny_bind (wpAny_standAt (wpAny_bind (wpAny_mono (turn n s hI) (fun r s₁ h₁=>?_) fun _ _ h'=>h'.elim)));cases r with
 | none=>exact wpAny_pure h₁
 | some v =>
  refine wpAny_bind (wpAny_mono h₁ (fun _ s1 h1=>?_) fun _ _ h'=>h'.elim);refine wpAny_bind (wpAny_mono h1 (fun _ s₂ h₂=>wpAny_bind (wpAny_mono h₂ (fun ok s₃ h₃=>?_) fun _ _ h'=>h'.elim)) fun _ _ h'=>h'.elim);cases ok with
  | false=>exact wpAny_pure ⟨rfl,h₃⟩
  | true =>
   exact wpAny_bind (wpAny_bind (wpAny_mono h₃ (fun x s₄ h₄=>wpAny_bind (wpAny_mono h₄ (fun _ s₅ h₅=>wpAny_pure (wpAny_pure ⟨rfl,h₅⟩)) fun _ _ h'=>h'.elim)) fun e s h'=>hEX e s h'))
abbrev VR:=St->Hp->(Bool->Hp->Prop)->Prop
def BV(X:Cx)(ifs:List Expr)(t:VR):Prop :=
 ∀(pins:List (eZ×Obj))(s:eX)(σ:St)(H:Hp)(Q:Bool->Hp->Prop),ZD X pins σ H s->t σ H Q ->
  wpAny (model X.prog X.w) X.A (forIn ifs true fun c r=>if r=true then do let ok ← isTrue c X.env (eval c X.env);pure (ForInStep.yield ok) else pure (ForInStep.yield r)) (TP X pins σ Q) X.xe s
theorem Sm(h:PT X c t):BV X [c] t:=fun pins s σ H Q I hw=>wpAny_tests_one (h pins s σ H Q I hw)
structure YL (X:Cx) (scope:Scope) (fr:List (Str×Nat)):Prop where
 slots:∀p∈fr,X.N[p.2]? = some p.1/\(X.env.kindOf p.1=some .cell\/X.env.kindOf p.1=some .free)
 kind:∀p∈fr,scope.names.lookup p.1=some .free
def inN(locs:eS)(fr:List (Str×Nat)):List Str:=locs++fr.map (·.1)
def inS(locs:eS)(fr:List (Str×Nat))(σ:St):St:=List.replicate locs.length none++fr.map fun p=>(σ[p.2]?).join
def inF(fr:List (Str×Nat))(σ:St):St:=fr.map fun p=>(σ[p.2]?).join
def Vh(n:Nat)(fv:St)(g:TG)(tt:VR)(te:TE)(x:V)(H:Hp)(Y:V->Hp->Prop)(N:Hp->Prop):Prop :=
 ∀ls:St,ls.length=n->g x (ls++fv) H fun σ2 H2=>(∃l2:St,l2.length=n /\ σ2=l2++fv)/\tt σ2 H2 fun b H3=>if b=true then te σ2 H3 Y else N H3
def Vt(J:It)(n:Nat)(fv:St)(g:TG)(tt:VR)(te:TE)(Q:VK)(H1:Hp):Prop:=∃W:Nat->Nat->List V->Hp->Prop,(∃m,W 0 m [] H1)/\∀i m ys H,W i m ys H ->
 (J.stop i H/\ys.length<=sizeLine/\∀l,H l=none->Q (.ref l) (upd H l (.lst ys)))\/
 (J.go i H/\ys.length < sizeLine/\∃m',m' < m/\∀x H',J.yld i H x H'->Vh n fv g tt te x H' (fun y H4=>W (i+1) m' (ys ++ [y]) H4) fun H3=>W (i+1) m' ys H3)
def Dg(n:Nat)(fr:List (Str×Nat))(wi:TI)(g:TG)(tt:VR)(te:TE):TE:=fun σ H Q=>wi σ H fun J H1=>Vt J n (inF fr σ) g tt te Q H1
theorem Oo(ok:YG P w H h)(hn:H D=none)(new:ZM P w (upd H D o) h D o):YG P w (upd H D o) h:=fun b u e=>by
 by_cases hb:b=D
 ·subst hb;rw[Zg] at e;cases e;exact new
 ·rw[Zc hb] at e;exact(ok b u e).stay (fun _ _ _ q=>q) (fun c q=>by rw[Zc (Zi q hn)];exact q) fun c xs q=>by rw[Zc (Zi q hn)];exact q
section
variable{X:Cx}{scope:Scope}{locs:eS}{fr:List (Str×Nat)}
theorem Fy{pins:List (eZ×Obj)}{σ:St}{H1:Hp}{s2:eX}{it:eZ}{fp:eW}{tn:Nat->Heap->Prop}{J:It}{cl:List (Str×eZ)}{E:eQ}{RR:eY->eZ->Result->eX->Prop}{QQ:List V->Hp->Prop}{EE:Hp->eY->eX->Prop}(hc:X.calm=true)(hkind:scope.kind = .function)(hcell:∀y∈scope.names,y.2 ≠ .cell)(hlo:∀x∈locs,scope.names.lookup x=some .local)(F:YL X scope fr)(hnd:(inN locs fr).Nodup)(cl1:∀x c,cl.lookup x=some c->X.env.cells.lookup x=some c)(cl2:∀x,(x,NameKind.free)∈scope.names->∃c,cl.lookup x=some c)(inner:∀ (C:eZ) (s0:eX) (H0:Hp) (ex:eW) (pn:List (eZ×Obj)),PG (ccx X scope cl C (inN locs fr) s0 H0 ex pn) tg g/\BV (ccx X scope cl C (inN locs fr) s0 H0 ex pn) ifs tt)(hel:∀ (C:eZ) (pE:List (eZ×Obj)) (s:eX) (σ':St) (H:Hp) (Y:VK),(∀b∈fp,∃o,(b,o)∈pE)->ZD (ccx X scope cl C (inN locs fr) s2 H1 fp (X.pn++pins)) pE σ' H s->te σ' H Y -> wpAny (model X.prog X.w) X.A (eval elt (compEnvC scope cl C X.env)) (EP (ccx X scope cl C (inN locs fr) s2 H1 fp (X.pn++pins)) pE σ' Y) (fun e s'=>∃pE' σ2 H',ZD (ccx X scope cl C (inN locs fr) s2 H1 fp (X.pn++pins)) pE' σ2 H' s'/\EE H' e s') s)(hER:∀ (D C:eZ) (H':Hp) (e:eY) (s':eX) (m:eR),ZD X pins σ H' s'->Vv X pins H' C->s'.heap.Ns C m->EE H' e s'->notedBy (model X.prog X.w) X.A (compEnvC scope cl C X.env) (fun x s''=>RR (.ref D) C (.error x) s'') e s')(I:ZD X pins σ H1 s2)(T:WI X.prog X.w X.K tg J fp it tn)(st0:tn 0 s2.heap)(hf:∀b∈fp,Vv X pins H1 b){W:Nat->Nat->List V->Hp->Prop}(w0:∃m,W 0 m [] H1)(turn:∀i m ys H,W i m ys H -> (J.stop i H/\ys.length<=sizeLine/\QQ ys H)\/ (J.go i H/\ys.length < sizeLine/\∃m',m' < m/\∀x H',J.yld i H x H'->Vh locs.length (inF fr σ) g tt te x H' (fun y H4=>W (i+1) m' (ys ++ [y]) H4) fun H3=>W (i+1) m' ys H3))(hRR:∀ (D C:eZ) (ys:aG) (H':Hp) (s':eX) (m:eR),H' D=none->D≠C->ZD X pins σ (upd H' D (.lst ys)) s'->Vv X pins (upd H' D (.lst ys)) C->s'.heap.Ns C m->QQ ys H'->RR (.ref D) C (.ok .next) s') :
  wpAny (model X.prog X.w) X.A (newList []) (fun acc s₃=>wpAny (model X.prog X.w) X.A (newFunctionEnv scope X.env.globals cl [] X.env.qual none .none (some X.env)) (fun cenv s₄ => codeAny (model X.prog X.w) X.A (.compStart (.ListComp elt [⟨tg,iter,ifs,0⟩] scope pos) 0 (.ref it) acc {cenv with scope:=relabel scope X.env }) (RR acc cenv.locals) s₄) E s₃) E s2:=by
 refine wpAny_newObj_type (wpAny_newFunctionEnv hcell (by intro y hy;simp at hy) (fun h₁ hns₁ hsb₁=>?_) hkind);dsimp only at hns₁ hsb₁ ⊢;generalize hH2:s2.heap.push {cls:=.type "list", dict:=none,data:=.seq ([]:eU).toArray }=Hq at hns₁ hsb₁ ⊢;have hC:Hq.objs.size=s2.heap.objs.size+1:=by rw[← hH2,yN]
 generalize hDe:s2.heap.objs.size=D at hC ⊢;generalize hCe:Hq.objs.size=C at hC hns₁ hsb₁ ⊢;have hDC:D≠C:=by lia
 have below:∀b,b < D->b≠C/\b≠D:=fun b hb=>⟨by lia,by lia⟩;have ltD:∀{b:eZ}{o:Obj},s2.heap.get? b=some o->b < D:=fun e=>hDe▸xP e;have old:∀b o,s2.heap.get? b=some o->h₁.get? b=some o:=fun b o e=>hsb₁.extBut b o (below b (ltD e)).1 (xB _ (hH2▸xB _ e));have hacc:h₁.PlainList D #[]:=⟨_,hsb₁.extBut _ _ hDC (xB _ (by subst hDe;exact hH2▸xL _ rfl))⟩
 let X':Cx:=ccx X scope cl C (inN locs fr) s2 H1 fp (X.pn++pins)
 have ltC:s2.heap.objs.size<=C:=by rw[hDe,hC];exact Nat.le_succ _
 have fpC:Vv X pins H1 C:=I.fpOk ltC (I.hok.fresh ltC);have fpD:Vv X pins H1 D:=I.fpOk (zZ hDe) (I.hok.fresh (zZ hDe));have stkN:∀b,b≠X.env.locals->b∉X.fs->b∉frs X.stack:=fun b h1 h2 z=>(xC.mp (I.stkSub b z)).elim h1 h2;have ok':X'.Ok:=by
  refine⟨I.ok.mod,hkind,I.ok.glob,I.ok.blt,ltC,fun x y c h1 h2=>I.ok.inj x y c (cl1 x c h1) (cl1 y c h2),fun x hx=>?_,fun x c h=>?_,I.ok.hd,I.ok.frames,.inl rfl,fun b hb=>?_,fun b o e=>I.bs b o e,yK I.ok.bsz I.sz,fun b o e hb=>?_,fun b hb=>?_,I.stack,I.stkFree⟩
  ·obtain⟨c,hcc⟩:=cl2 x (Kk hcell hx);exact⟨c,hcc⟩
  ·cases h
  ·refine⟨fun z=>?_,fun x c e=>(hf b hb).2.2.2.2.1 x c (cl1 x c e)⟩;obtain⟨o,ho,_⟩:=T.obj _ _ st0 b hb;have z':b=C:=z;exact(below b (ltD ho)).1 z'
  ·have hb':=hf b hb;rcases hb'.2.2.2.1 with z | z
   ·exact I.ok.noex b o e z
   ·exact absurd (yG (xP e) (yK I.ok.bsz z)) (zQ _)
  ·exact stkN b (hf b hb).2.1 (hf b hb).2.2.1
 have I1:ZD X' [] (inS locs fr σ) H1 {s2 with heap:=h₁,toks:=s2.toks+([]:List (Str×eY)).length }:=by
  refine⟨ok',I.os.symm▸rfl,I.bare,Un.kept old,⟨_,hns₁,fun i x v h1 h2 h3=>?_⟩,fun x c e=>?_,I.hok.fresh ltC,fun x c e=>I.freeC x c (cl1 x c e),fun p hp=>?_,I.hok.kept old,?_⟩
  ·-- a slot of the block that has a value is a free name's
   have hge:locs.length<=i:=by
    by_cases hi:i < locs.length
    ·unfold inS at h2;rw[zM (by simpa using hi),List.getElem?_replicate,if_pos hi] at h2;cases h2
    ·lia
   have h1':(fr.map (·.1))[i - locs.length]? = some x:=by
    have h1:(inN locs fr)[i]? = some x:=h1;unfold inN at h1;rw[zW hge] at h1;exact h1
   have h2':(fr.map fun p=>(σ[p.2]?).join)[i - locs.length]? = some (some v):=by
    unfold inS at h2;rw[zW (by simpa using hge),List.length_replicate] at h2;exact h2
   rw[xK] at h1' h2';cases e:fr[i - locs.length]? with
   | none=>rw[e] at h1';cases h1'
   | some p =>
    rw[e] at h1' h2';have ex:p.1=x:=Option.some.inj h1';have ev:(σ[p.2]?).join=some v:=Option.some.inj h2';obtain⟨f1,f2⟩:=F.slots p (xN e);have ev' : σ[p.2]? = some (some v):=by grind
    obtain⟨m0,hn0,hl0⟩:=I.loc;have vis0:CA X.env.scope p.1:=by
     rcases f2 with z | z
     ·exact .inr (.inl z)
     ·exact .inr (.inr z)
    obtain⟨u,ru,lk⟩:=hl0 p.2 p.1 v f1 ev' vis0;have hxm:x∉locs:=fun z=>by
     have hnd':=hnd;unfold inN at hnd';exact(List.nodup_append.mp hnd').2.2 x z x (yS.mpr ⟨p,xN e,ex⟩) rfl
    refine⟨u,ru,?_⟩;rcases lk with⟨hk,_⟩ | ⟨hk,c,hcc,hce⟩
    ·rcases f2 with z | z
     ·rw[z] at hk;cases hk
     ·rw[z] at hk;cases hk
    ·-- in the block it is a cell or free name
     have h3:CA (relabel scope X.env) x:=h3;have hk':(compEnvC scope cl C X.env).kindOf x=some .cell\/(compEnvC scope cl C X.env).kindOf x=some .free:=by
      rcases h3 with z | z | z
      ·exfalso;have q:=E4 (env:=X.env) (F.kind p (xN e));rw[ex] at q;rcases q with q | q
       ·have z':some NameKind.local=some NameKind.cell:=z.symm.trans q;cases z'
       ·have z':some NameKind.local=some NameKind.free:=z.symm.trans q;cases z'
      ·exact .inl z
      ·exact .inr z
     obtain⟨c',hc'⟩:=cl2 x (Kk hcell hk');have:=cl1 x c' hc';rw[← ex,hcc] at this;cases this;refine .inr ⟨hk',c,hc',?_⟩;obtain⟨o,ho,hd⟩:=hce;exact⟨o,old _ _ ho,hd⟩
  ·obtain⟨v,o,ho,hd⟩:=I.cell x c (cl1 x c e);exact⟨v,o,old _ _ ho,hd⟩
  ·have hp':p∈X.pn++pins:=(xI.mp hp).elim id fun z=>nomatch z;obtain⟨e,n,ne,nf,d⟩:=I.pin p hp';exact⟨old _ _ e,n,(below _ (ltD e)).1,stkN _ ne nf,d⟩
  ·show (inS locs fr σ).length=(inN locs fr).length;unfold inS inN;simp
 have fpLt:∀b∈fp,b < D:=fun b hb=>by
  obtain⟨o,ho,_⟩:=T.obj _ _ st0 b hb;exact ltD ho
 obtain⟨m0,w0⟩:=w0
 let oD:List eY->Nat->Obj:=fun its k=>{cls:=.type "list", data:=.seq its.toArray k }
 have stat:∀{H':Hp}{ob:Obj},(∀b∈fp,H' b=none)->∀b∈fp,Vv X' [(D,ob)] H' b:=fun {H' ob} hn b hb=>by
  obtain⟨f0,f1,f2,f3,f4,f5⟩:=hf b hb;refine⟨hn b hb,(below b (fpLt b hb)).1,stkN b f1 f2,.inl hb,fun x c e=>f4 x c (cl1 x c e),fun p hp z=>?_⟩;rcases xI.mp hp with q | q
  ·exact f5 p q z
  ·grind
 have loop:∀s₃:eX,s₃={s2 with heap:=h₁,toks:=s2.toks+([]:List (Str×eY)).length }->
   codeAny (model X.prog X.w) X.A (.compLoop (.ListComp elt [⟨tg,iter,ifs,0⟩] scope pos) 0 (.ref it) (.ref D) (compEnvC scope cl C X.env)) (RR (.ref D) C) s₃:=by
  rintro s₃ rfl;refine SL (fun n s'=>∃(i:Nat)(ls:St)(H':Hp)(ys:aG)(its:eU)(k:Nat),ls.length=locs.length/\ZD X' [(D,oD its k)] (ls++inF fr σ) H' s'/\tn i s'.heap/\(∀b∈fp,H' b=none)/\ZH ys its/\W i n ys H') (EX:=fun e s'=>∃pE' σ2 H',ZD X' pE' σ2 H' s'/\EE H' e s') ?_ ?_ m0 ?_
  ·rintro e s4 ⟨pE',σ2,H3,I4,q⟩;obtain⟨mC,hnC,_⟩:=I4.loc;have hnC:s4.heap.Ns C mC:=hnC;have nC:H3 C=none:=I4.free;have I5:ZD X pins σ H3 s4:=I.call' (ch:=fp) (show s4.os=s2.os from I4.os) I4.base I4.hok I4.bare fun b hb=>by
    obtain⟨f0,f1,f2,f3,f4,f5⟩:=hf b hb;exact⟨f3,f1,f4,f5⟩
   exact hER D C H3 e s4 mC I5 (I.fpOk ltC nC) hnC q
  ·rintro n s3 ⟨i,ls,H3,ys,its,k,hls,I3,st3,fr3,rv,w3⟩;rcases turn i n ys H3 w3 with⟨stop,hz,q⟩ | ⟨go,hz,m',hm,step⟩
   ·refine thn (T.done X' rfl rfl rfl hc i _ s3 _ H3 (fun _ _=>False) I3 (stat fr3) st3 stop) fun r s4 ⟨hr,I4⟩=>?_;subst hr;obtain⟨pD,nD,_,_,_⟩:=I4.pin (D,oD its k) (xJ _ xQ);have nD:H3 D=none:=nD;obtain⟨mC,hnC,_⟩:=I4.loc;have hnC:s4.heap.Ns C mC:=hnC;have nC:H3 C=none:=I4.free;have new:ZM X.prog X.w (upd H3 D (.lst ys)) s4.heap D (.lst ys):=⟨hz,its,k,rv,pD⟩;have hok4:YG X.prog X.w (upd H3 D (.lst ys)) s4.heap:=Oo I4.hok nD new;have u4:Un (frs X.stack) fp H1 H3 s2.heap s4.heap:=I4.base;have u5:Un (frs X.stack) fp H1 (upd H3 D (.lst ys)) s2.heap s4.heap:=by
     refine⟨u4.keep,u4.slot,fun b o e n hx=>?_,u4.there,fun b xs e=>?_,fun b o u e=>?_,fun b ps e=>?_⟩
     ·rw[Zc (below b (ltD e)).2];exact u4.free b o e n hx
     ·rw[Zc (Zi e fpD.1)];exact u4.tups b xs e
     ·rw[Zc (Zi e fpD.1)];exact u4.frzs b o u e
     ·rw[Zc (Zi e fpD.1)];exact u4.tbls b ps e
    have I5:ZD X pins σ (upd H3 D (.lst ys)) s4:=by
     refine I.call' (ch:=fp) ?_ u5 hok4 I4.bare fun b hb=>?_
     ·have:s4.os=s2.os:=I4.os;exact this
     ·obtain⟨f0,f1,f2,f3,f4,f5⟩:=hf b hb;exact⟨f3,f1,f4,f5⟩
    have fpC':Vv X pins (upd H3 D (.lst ys)) C:=I.fpOk ltC (by rw[Zc hDC.symm];exact nC);exact hRR D C ys H3 s4 mC nD hDC I5 fpC' hnC q
   ·refine thn (T.item X' rfl rfl rfl hc i _ s3 _ H3 (fun _ _=>False) I3 (stat fr3) st3 go) fun r s4 ⟨u,hr,h4⟩=>?_;subst hr;refine thn h4 fun _ s5 ⟨x,H5,I5,r5,y5,st5,fr5⟩=>?_;obtain⟨hg,htt⟩:=inner C s2 H1 fp (X.pn++pins);have I5':=I5.pinned (stat fr5) (T.obj _ _ st5);refine thn (hg _ s5 _ H5 x u _ I5' r5 (step x H5 y5 ls hls)) fun _ s6 ⟨σ6,H6,I6,⟨l6,hl6,e6⟩,q6⟩=>?_;subst e6;refine thn (htt _ s6 _ H6 _ I6 q6) fun ok s7 ⟨H7,I7,q7⟩=>?_;have again:∀{H8:Hp}{s8:eX},ZD X' ([(D,oD its k)]++JJ fp s5.heap) (l6++inF fr σ) H8 s8->tn (i+1) s8.heap/\∀b∈fp,H8 b=none:=fun {H8 s8} I8=>by
     refine⟨T.keep _ _ _ st5 fun b hb o e=>(I8.pin (b,o) (xJ _ (xJ _ (BE hb e)))).1,fun b hb=>?_⟩;obtain⟨o,e,d⟩:=T.obj _ _ st5 b hb;exact(I8.pin (b,o) (xJ _ (xJ _ (BE hb e)))).2.1
    cases ok with
    | false =>
     rw[if_neg xR] at q7 ⊢;obtain⟨a1,a2⟩:=again I7;exact⟨m',hm,i+1,l6,H7,ys,its,k,hl6,I7.unpinned,a1,a2,rv,q7⟩
    | true =>
     rw[if_pos rfl] at q7 ⊢;refine thn (hel C _ s7 _ H7 _ (fun b hb=>let ⟨o,ho,_⟩:=T.obj _ _ st5 b hb;⟨o,xJ _ (BE hb ho)⟩) I7 q7) fun yv s8 ⟨y,H8,I8,r8,q8⟩=>?_;obtain⟨a1,a2⟩:=again I8;obtain⟨pD,nD,_,nfD,_⟩:=I8.pin (D,oD its k) (xJ _ (yQ _ xQ));have nD:H8 D=none:=nD;have hl8:s8.heap.PlainList D its.toArray:=⟨k,pD⟩;have hlen:its.toArray.size<=sizeLine:=by
      rw[xV,← rv.length];lia
     refine wpAny_list_append_plain (hsz:=hlen) hl8 fun h9 hl9 hs9=>?_;obtain⟨k9,e9⟩:=hl9;have I9:ZD X' (JJ fp s5.heap) (l6++inF fr σ) H8 s8:=I8.pins_of fun p hp=>I8.pin p (xJ _ (xJ _ hp));have I10:ZD X' (JJ fp s5.heap) (l6++inF fr σ) H8 {s8 with heap:=h9 }:=by
      refine I9.turned (it:=D) (t':=s8.toks) (fun b o hb e=>(hs9.2 b hb).trans e) nD ?_ ?_ ?_ ?_
      ·exact hDC
      ·exact .inr (zZ hDe)
      ·exact fun x c e=>fpD.2.2.2.2.1 x c (cl1 x c e)
      ·intro p hp z;rcases xI.mp hp with q | q
       ·exact fpD.2.2.2.2.2 p q z
       ·have:=fpLt p.1 (Gx q).1;exact(below p.1 this).2 z
     have e9':h9.get? D=some (oD (its ++ [yv]) k9):=by
      rw[e9];simp[oD]
     have I11:ZD X' [(D,oD (its ++ [yv]) k9)] (l6++inF fr σ) H8 {s8 with heap:=h9 }:=I10.pins_of fun p hp=>by grind
     refine⟨m',hm,i+1,l6,H8,ys ++ [y],its ++ [yv],k9,hl6,I11,?_,a2,ZH.append rv (.cons r8 .nil),q8⟩;exact T.keep _ _ _ a1 fun b hb o e=>(hs9.2 b (below b (fpLt b hb)).2).trans e
  ·have e0:List.replicate locs.length none++inF fr σ=inS locs fr σ:=rfl;obtain⟨k0,eD⟩:=hacc;refine⟨0,List.replicate locs.length none,H1,[],[],k0,by simp,?_,T.keep _ _ _ st0 fun b _ o e=>old b o e,fun b hb=>(hf b hb).1,.nil,w0⟩;rw[e0];refine I1.pins_of fun p hp=>?_;have e:p=(D,oD [] k0):=by simpa using hp
   subst e;exact⟨eD,fpD.1,hDC,stkN D fpD.2.1 fpD.2.2.1,fun v z=>by cases z⟩
 exact codeAny_compStart_list (loop _ rfl) (T.self _ 0 _ _ _ (T.keep _ _ _ st0 fun b _ o e=>old b o e) (loop _ rfl))
structure YM (X:Cx) (scope:Scope) (locs:eS) (fr:List (Str×Nat)):Prop where
 kind:scope.kind = .function
 nocell:∀y∈scope.names,y.2 ≠ .cell
 names:∀y∈scope.names,y.2 = .local->scope.names.lookup y.1=some .local
 own:∀x∈locs,scope.names.lookup x=some .local
 free:∀y∈scope.names,y.2 = .free->y.1∈fr.map (·.1)
 nd:(inN locs fr).Nodup
theorem YL.nil:YL X scope []:=⟨(fun _ h=>nomatch h),(fun _ h=>nomatch h)⟩
theorem YL.cons(h1:X.N[j]? = some x)(h2:X.env.kindOf x=some .cell\/X.env.kindOf x=some .free)(h3:scope.names.lookup x=some .free)(t:YL X scope fr):YL X scope ((x,j)::fr) :=
 ⟨fun p hp=>(xC.mp hp).elim (fun e=>by subst e;exact⟨h1,h2⟩) (t.slots p),fun p hp=>(xC.mp hp).elim (fun e=>by subst e;exact h3) (t.kind p)⟩
theorem YM.clos{pins:List (eZ×Obj)}{σ:St}{H:Hp}{s:eX}(S:YM X scope locs fr)(F:YL X scope fr)(I:ZD X pins σ H s) :
  ∃cl,closureFor scope X.env=pure cl/\(∀x c,cl.lookup x=some c->X.env.cells.lookup x=some c)/\(∀x,(x,NameKind.free)∈scope.names->∃c,cl.lookup x=some c):=by
 refine Qs fun p hp hk=>?_;obtain⟨q,hq,e⟩:=yS.mp (S.free p hp hk);obtain⟨c,hc⟩:=I.ok.has q.1 (F.slots q hq).2;exact⟨c,e▸hc⟩
theorem OT(S:YM X scope locs fr)(F:YL X scope fr)(hc:X.calm=true)(hi:PI X tg iter wi)(inner:∀cl C s0 H0 ex pn,PG (ccx X scope cl C (inN locs fr) s0 H0 ex pn) tg g/\BV (ccx X scope cl C (inN locs fr) s0 H0 ex pn) ifs tt/\PE (ccx X scope cl C (inN locs fr) s0 H0 ex pn) elt te)(hs:∀x,foldedSetIterable iter X.env x=pure x:=by intro _;rfl):PE X (.ListComp elt [⟨tg,iter,ifs,0⟩] scope pos) (Dg locs.length fr wi g tt te):=by
 intro pins s σ H Q I h;obtain⟨cl,hcl,cl1,cl2⟩:=S.clos F I;rw[eval_ListComp];refine wpAny_comprehension_free (use:=none) rfl hs hcl S.kind S.names (thn (hi pins s σ H _ I h) fun v s1 h1=>thn h1 fun itv s2 h2=>?_);obtain⟨it,fp,tn,J,H1,e,I2,T,st2,f2,W,w0,turn⟩:=h2;subst e;refine Fy (QQ:=fun ys H'=>∀l,H' l=none->Q (.ref l) (upd H' l (.lst ys))) (EE:=fun _ _ _=>False) hc S.kind S.nocell S.own F S.nd cl1 cl2 (fun C s0 H0 ex pn=>let ⟨a,b,_⟩:=inner cl C s0 H0 ex pn;⟨a,b⟩) (fun C pE s σ' H Y _ I h=>wpAny_mono ((inner cl C s2 H1 fp (X.pn++pins)).2.2 pE s σ' H Y I h) (fun _ _ q=>q) fun _ _ z=>z.elim) (fun _ _ _ _ _ _ _ _ _ z=>z.elim) I2 T st2 f2 w0 turn fun D C ys H' s' m nD hDC I' fC hn q=>?_;refine⟨m,hn,fun h' hs'=>?_⟩;obtain⟨f0,f1,f2,f3,f4,f5⟩:=fC;exact⟨.ref D,_,I'.turned (it:=C) (t':=s'.toks) (fun b o hb e=>(hs'.2 b hb).trans e) f0 f1 f3 f4 f5,rfl,q D nD⟩
theorem MV(S:YM X scope locs fr)(F:YL X scope fr)(hc:X.calm=true)(hi:PI X tg iter wi)(inner:∀cl C s0 H0 ex pn,PG (ccx X scope cl C (inN locs fr) s0 H0 ex pn) tg g/\BV (ccx X scope cl C (inN locs fr) s0 H0 ex pn) ifs tt/\PE (ccx X scope cl C (inN locs fr) s0 H0 ex pn) elt te)(hN:X.N.Nodup)(hi0:X.N[i]? = some x)(hx:X.env.scope.names.lookup x=some .local)(hsw:swapsWith (.ListComp elt [⟨tg,iter,ifs,0⟩] scope pos) (some (.Name x pos')) spos.line X.env=pure true)(hs:∀x,foldedSetIterable iter X.env x=pure x:=by intro _;rfl):PS X (.Assign [.Name x pos'] (.ListComp elt [⟨tg,iter,ifs,0⟩] scope pos) spos) (Us (Dg locs.length fr wi g tt te) (Y2 i)):=by
 intro pins s σ H D0 I h;obtain⟨cl,hcl,cl1,cl2⟩:=S.clos F I;rw[exec_Assign_Name_used _ _ _ _ hsw];refine wpAny_bind (wpAny_standAt (wpAny_bind ?_));show wpAny _ X.A (do let _ ← comprehension (.ListComp elt [⟨tg,iter,ifs,0⟩] scope pos) scope X.env _ (newList []) false (eval iter X.env) (some (assign (.Name x pos') X.env))) _ _ s;refine wpAny_bind (wpAny_mono (wpAny_comprehension_free (use:=some (assign (.Name x pos') X.env)) (Q:=fun _ s'=>SP X pins D0 .next s') rfl hs hcl S.kind S.names (thn (hi pins s σ H _ I h) fun v s1 h1=>thn h1 fun itv s2 h2=>?_)) (fun _ s' hq=>wpAny_pure (wpAny_pure hq)) fun _ _ e=>e);obtain⟨it,fp,tn,J,H1,e,I2,T,st2,f2,W,w0,turn⟩:=h2;subst e;refine Fy (QQ:=fun ys H'=>∀l,H' l=none->Y2 i (.ref l) σ (upd H' l (.lst ys)) D0.nx) (EE:=fun _ _ _=>False) hc S.kind S.nocell S.own F S.nd cl1 cl2 (fun C s0 H0 ex pn=>let ⟨a,b,_⟩:=inner cl C s0 H0 ex pn;⟨a,b⟩) (fun C pE s σ' H Y _ I h=>wpAny_mono ((inner cl C s2 H1 fp (X.pn++pins)).2.2 pE s σ' H Y I h) (fun _ _ q=>q) fun _ _ z=>z.elim) (fun _ _ _ _ _ _ _ _ _ z=>z.elim) I2 T st2 f2 w0 turn fun D C ys H' s' m nD hDC I' fC hn q=>?_;obtain⟨f0,f1,f2,f3,f4,f5⟩:=fC;obtain⟨oC,es,ep,hoC,hdC,hrC⟩:=id hn;have I6:ZD X (pins ++ [(C,oC)]) σ (upd H' D (.lst ys)) s':=I'.pins_of fun p hp=>(xI.mp hp).elim (fun z=>I'.pin p (xJ _ z)) fun z=>by grind
 refine wpAny_assign_Name (AQ (v:=.ref D) I6 hN hi0 (.inl hx) rfl (fun s'' I''=>?_) (.inr hx));obtain⟨p1,p2,p3,p4,p5⟩:=I''.pin (C,oC) (xJ _ (xJ _ xQ));refine⟨m,⟨oC,es,ep,p1,hdC,hrC⟩,fun h' hs'=>?_⟩;have I7:ZD X pins (σ.set i (some (.ref D))) (upd H' D (.lst ys)) s'':=I''.unpinned;exact⟨_,_,I7.turned (it:=C) (t':=s''.toks) (fun b o hb e=>(hs'.2 b hb).trans e) p2 p3 f3 f4 f5,q D nD⟩
end
section
variable{X:Cx}{scope:Scope}{cl:List (Str×eZ)}{C:eZ}{N':eS}{s0:eX}{H0:Hp}{ex:eW}{pn:List (eZ×Obj)}
theorem pvL(i:Nat){x:Str}{pos:Pos}(hN:N'[i]? = some x:=by rfl)(h:scope.names.lookup x=some .local:=by rfl)(hd:(x == ("__debug__" : Str))=false:=by decide)(hcd:(x == ("__classdict__" : Str))=false:=by decide) :
  PE (ccx X scope cl C N' s0 H0 ex pn) (.Name x pos) (YC i):=C9 hN (.inl (lookup_relabel_local h)) hd hcd
theorem pvF(i:Nat){x:Str}{pos:Pos}(hN:N'[i]? = some x:=by rfl)(h:scope.names.lookup x=some .free:=by rfl)(hd:(x == ("__debug__" : Str))=false:=by decide)(hcd:(x == ("__classdict__" : Str))=false:=by decide) :
  PE (ccx X scope cl C N' s0 H0 ex pn) (.Name x pos) (YC i):=C9 hN ((E4 h).elim (fun z=>.inr (.inl z)) fun z=>.inr (.inr z)) hd hcd
theorem pgL(i:Nat){x:Str}{pos:Pos}(hnd:N'.Nodup)(hN:N'[i]? = some x:=by rfl)(h:scope.names.lookup x=some .local:=by rfl):PG (ccx X scope cl C N' s0 H0 ex pn) (.Name x pos) (Y2 i) :=
 GL (X:=ccx X scope cl C N' s0 H0 ex pn) hnd hN (.inl (lookup_relabel_local h)) (.inr (lookup_relabel_local h))
end
def sgn(x:Str)(i:Nat):V:=.str ⟨#[x.cps.getD i 0]⟩
def JS(x:Str):It:=⟨fun i _=>i < x.length,fun i H v H'=>H'=H/\v=sgn x i,fun i _=>i=x.length⟩
theorem IX(hh:A.handled=none)(I:eZ)(x:Str)(t:Tok) :
  Walks P w A I [I] [I] x.cps.size (SignAt x) (fun i h=>h.IsStrIter I (strIterType x) x t i):=by
 unfold strIterType;cases ha:x.cps.all (· < 128)
 ·exact Walks.strWide hh I x t
 ·exact Walks.strAscii hh I x t
theorem Nc{P:fA}{w:fB}{K:uFg}{tg:Expr}(it:eZ)(x:Str)(t:Tok):WI P w K tg (JS x) [it] it (fun i h=>h.IsStrIter it (strIterType x) x t i) where
 mem:=by simp
 obj:=fun i h st b hb=>by
  have e:b=it:=by simpa using hb
  subst e;obtain⟨o,e,c,d⟩:=st;exact⟨o,e,fun v z=>by rw[d] at z;cases z⟩
 keep:=fun i h h' st k=>let ⟨o,ho,r⟩:=st;⟨o,k it (by simp) o ho,r⟩
 item:=by
  intro X hP hw hK hc i pins s σ H E I hf st hg;subst hP hw hK;obtain⟨f0,f1,f2,f3,f4,f5⟩:=hf it (by simp);refine(IX (I.ok.hd hc) it x t).item i s _ _ hg st fun v h' tk hv st' kk=>?_;obtain⟨c,u,hcx,rfl⟩:=hv;have I1:ZD X pins σ H {s with heap:=h',toks:=tk }:=I.turned (fun b o hb e=>kk b o (by simpa using hb) e) f0 f1 f3 f4 f5;obtain⟨o,e,cc,d⟩:=id st';have hn : ["enumerate","zip","dict_itemiterator","dict_reverseitemiterator","odict_iterator","itertools.zip_longest","itertools.pairwise"].contains (strIterType x)=false:=by
   unfold strIterType;split<;>decide
  refine⟨_,rfl,AE (s:={s with heap:=h',toks:=tk }) e cc d hn ⟨sgn x i,H,I1,⟨u,?_⟩,⟨rfl,rfl⟩,st',fun b hb=>(hf b hb).1⟩⟩;rw[Array.getD_eq_getD_getElem?,hcx]
  all_goals rfl
 done:=by
  intro X hP hw hK hc i pins s σ H E I hf st hg;subst hP hw hK;obtain⟨f0,f1,f2,f3,f4,f5⟩:=hf it (by simp);have e:i=x.cps.size:=hg;subst e;exact(IX (I.ok.hd hc) it x t).done s _ _ st fun h' tk kk=>⟨rfl,I.turned (fun b o hb e=>kk b o (by simpa using hb) e) f0 f1 f3 f4 f5⟩
 self:=fun A i s Q E st h=>by
  have st:s.heap.IsStrIter it (strIterType x) x t i:=st;unfold strIterType at st;split at st
  ·exact wpAny_pyIter_striter_ascii st h
  ·exact wpAny_pyIter_striter_wide st h
inductive Bw(R:It->Hp->Prop)(v:V)(H1:Hp):Prop
 |mk(x)(_:v = .str x)(_:R (JS x) H1)
def RD(te:TE):TI:=fun σ H R=>te σ H fun v H1=>Bw R v H1
theorem Iy(h:IsPart v o):∃l:Option (Int×Tok),v=partValue l/\l.map (·.1)=o:=by
 cases h with
 | none=>exact⟨none,rfl,rfl⟩
 | int i t=>exact⟨some (i,t),rfl,rfl⟩
theorem Ma:∀{us:eU},ZH (ys.map V.str) us->StrsAre us ys:=by
 induction ys with
 | nil=>intro us r;rw[List.map_nil] at r;cases r;exact .nil
 | cons n ns ih =>
  intro us r;rw[xW] at r;cases r with
  | cons r1 r2 =>
   obtain⟨t,e⟩:=r1;subst e;exact .cons n t (ih r2)
section
variable{X:Cx}
theorem Kc:U0 X (.builtin "isinstance") (fun xs H Q=>∃x n t b,xs = [x,.ty n]/\YO X.K H x t/\PySem.W.kitOne X.K t (.type n)=some b/\Q (.bl b) H):=by
 intro pins s σ H xs us Q I r h;obtain⟨x,n,t,b,rfl,ty,e,q⟩:=h;obtain⟨u,w',rfl,ru,rw'⟩:=BW r;cases rw';exact OM I ru ty e fun tk=>⟨.bl b,H,I.tok _,rfl,q⟩
end
section
variable{K:uFg}
end
def YA(K:uFg)(mg:eR)(x:Str)(st:Stmt):Prop:=∃f fd,UN K x x st f fd/\mg x=some (.ref f)
def Fn(P:fA)(w:fB)(K:uFg)(mg:eR)(base:Heap)(x:Str)(ps:eS)(k:Nat)(sp:Sp):Prop :=
 ∃f fd,mg x=some (.ref f)/\PySem.W.keepIn K (.ref f)=true/\YE K fd ps []/\ZZ P w K mg base YY k f fd ps sp
theorem Fn.imp{P:fA}{w:fB}{K:uFg}{mg:eR}{base:Heap}{x:Str}{ps:eS}{k:Nat}{sp sp':Sp}(F:Fn P w K mg base x ps k sp)(h:∀vs H Q E,sp' vs H Q E->sp vs H Q E):Fn P w K mg base x ps k sp' :=
 let ⟨f,fd,a,b,c,d⟩:=F;⟨f,fd,a,b,c,d.imp h⟩
section
variable{P:fA}{w:fB}{K:uFg}{mg:eR}{base:Heap}
theorem YA.fn{x:Str}{st:Stmt}{N ps:eS}{k:Nat}{sp:Sp}(h:YA K mg x st)(S:ZL N ps (Zj st))(hb:∀ (kV doc pm:eY) (an:Option eZ) (cdv ct:eY) (us:eU),us.length=ps.length->bindArgs (PySem.W.fnOf x x (Wa st) (Yd st) (Zj st) .none kV doc pm an cdv ct) ⟨us,[]⟩=pure (ps.zip us))(len:∀vs H Q E,sp vs H Q E->vs.length=ps.length)(hbody:∀ (f:eZ) (cdv:eY) (A:fD) (outer:List Env) (s:eX) (H:Hp) (vs:aG) (Q:VK) (E:XK),ZJ k (A.deeper (envOfC x (Zj st) s.heap.objs.size f cdv))->sp vs H Q E -> ∃t,Ae (Yp YY P w K mg base N x (Zj st) f cdv A outer s H E).nox (Yd st) t/\t {nx:=fun _ H'=>Q .non H',rt:=Q } (start N vs) H):Fn P w K mg base x ps (k+1) sp:=by
 obtain⟨f,fd,F,hm⟩:=h;exact⟨f,fd,hm,F.kp,F.binds hb,F.ok S len fun cdv A outer s H vs Q E hr q=>hbody f cdv A outer s H vs Q E hr q⟩
theorem XW{h:Heap}{x:Str}{st:Stmt}{f:eZ}{oc:eY}{od an:Option eZ}{osl:Array (Option eY)}{kV doc pm cdv ct:eY}(KX:K.In h)(G:h.Ns mainGlobals mg)(a:PySem.W.nsIn K mainGlobals x=some (some (.ref f)))(l:K.lookup f=some ⟨oc,od,.func (PySem.W.fnOf x x (Wa st) (Yd st) (Zj st) .none kV doc pm an cdv ct),osl⟩)(c:PySem.W.codeIn K cdv x=true)(k:PySem.W.keepIn K (.ref f)=true):YA K mg x st:=⟨f,_,Fl l c k,PySem.W.mg_of KX G a⟩
theorem hQ{h:Heap}(x:Str)(st:Stmt)(f c:eZ)(pm:eY)(KX:K.In h)(G:h.Ns mainGlobals mg)(e:PySem.W.nsIn K mainGlobals x=some (some (.ref f))/\K.lookup f=some ⟨.type "function", none,.func (PySem.W.fnOf x x (Wa st) (Yd st) (Zj st) .none .none .none pm none (.ref c) .none),#[]⟩/\PySem.W.codeIn K (.ref c) x=true/\PySem.W.keepIn K (.ref f)=true):YA K mg x st:=XW KX G e.1 e.2.1 e.2.2.1 e.2.2.2
end
def Jl(sp:Sp)(t:TA):TE:=fun σ H Q=>t σ H fun vs H1=>sp vs H1 Q E0
theorem Mb{k:Nat}{ps:eS}{sp:Sp}{x:Str}{p pos:Pos}{e:Expr}{es:List Expr}{t:TA}(F:Fn X.prog X.w X.K X.mg X.base x ps k sp)(hr:ZJ k X.A)(hg:Gl X x)(ha:PA X (e::es) t)(hdb:(x == ("__debug__" : Str))=false:=by decide)(he:starEach (e::es) X.env=(false,eval e X.env)::starEach es X.env:=by rfl)(hpl:(backTo pos (starEach es X.env)).any (·.1)=false:=by rfl) :
  PE X (.Call (.Name x p) (e::es) [] pos) (Jl sp t):=by
 obtain⟨f,fd,hm,hk,hb,G⟩:=F;intro pins s σ H Q I h;refine Re G hr hg hm hk hb .nil Dm ha hdb he hpl pins s σ H Q I ?_;have e:Fm sp [] E0 t=Jl sp t:=by
  unfold Fm Jl;simp only[yM]
 rw[e];exact h
theorem Z8:bootBuiltins "len" = some (.builtin "len"):=aA
theorem Kq:bootBuiltins "max" = some (.builtin "max"):=aA
theorem Hf:bootBuiltins "sum" = some (.builtin "sum"):=aA
theorem HV:bootBuiltins "all" = some (.builtin "all"):=aA
theorem Vw:bootBuiltins "isinstance" = some (.builtin "isinstance"):=aA
theorem Jq:bootBuiltins "list" = some (.type "list"):=aA
theorem Ff:bootBuiltins "bool" = some (.type "bool"):=aA
theorem CH:bootBuiltins "int" = some (.type "int"):=aA
theorem Dq:bootBuiltins "str" = some (.type "str"):=aA
theorem JD:bootBuiltins "tuple" = some (.type "tuple"):=aA
def ZI(s:eZ)(H H':Hp):Prop:=∀b o,b≠s->H b=some o->H' b=some o
theorem ZI.refl:ZI s H H:=fun _ _ _ e=>e
theorem ZI.trans(a:ZI s H H1)(b:ZI s H1 H2):ZI s H H2:=fun c o n e=>b c o n (a c o n e)
theorem ZI.upd:ZI s H (upd H s o):=fun b _ n e=>by rw[Zc n];exact e
theorem ZI.new(h:H l=none):ZI s H (L2.upd H l o):=fun b _ _ e=>by rw[Zc (Zi e h)];exact e
theorem ZC.new(h:H l=none):ZC H (L2.upd H l o):=fun b _ e=>by rw[Zc (Zi e h)];exact e
theorem ZC.x(h:ZC H H'):ZI s H H':=fun b o _ e=>h b o e
def ZK(H:Hp)(s la:eZ):Prop:=∃(ns:List Int)(i big st cnt:Int),H s=some (.lst [.ref la,.int i,.int big,.int st,.int cnt])/\H la=some (.lst (ns.map V.int))/\0<=i/\la≠s
theorem ZK.keep(h:ZK H s la)(k:ZC H H'):ZK H' s la:=by
 obtain⟨ns,i,big,st,cnt,h1,h2,h3,h4⟩:=h;exact⟨ns,i,big,st,cnt,k _ _ h1,k _ _ h2,h3,h4⟩
theorem ZK.keepX(h:ZK H s la)(k:ZI l H H')(n1:l≠s)(n2:l≠la):ZK H' s la:=by
 obtain⟨ns,i,big,st,cnt,h1,h2,h3,h4⟩:=h;exact⟨ns,i,big,st,cnt,k _ _ n1.symm h1,k _ _ n2.symm h2,h3,h4⟩
theorem ZK.ne(h:ZK H s la)(hl:H l=none):l≠s/\l≠la:=by
 obtain⟨ns,i,big,st,cnt,h1,h2,h3,h4⟩:=h;exact⟨(Zi h1 hl).symm,(Zi h2 hl).symm⟩
theorem Zu{c A B:Prop} [Decidable c] (h1:c->A) (h2:¬c->B):if decide c=true then A else B:=by grind
theorem Wd{c A B:Prop} [Decidable c] (h1:¬c->A) (h2:c->B):if (!decide c)=true then A else B:=by grind
theorem FQ{b:Bool}{A B:Prop}(h1:b=true->A)(h2:b=false->B):if b=true then A else B:=by grind
theorem A8{b:Bool}{A B:Prop}(h1:b=false->A)(h2:b=true->B):if (!b)=true then A else B:=by
 cases b
 ·exact h1 rfl
 ·exact h2 rfl
theorem dR{ns:List Int}{i:Int}(h0 : 0<=i)(h1:i < (ns.map V.int).length):atI (ns.map V.int) i=some (.int (ns.getD i.toNat 0)):=by
 obtain⟨j,rfl⟩:=yF h0;rw[xA] at h1;refine Yb ?_;rw[xK,zA,yR,xE (by lia)];rfl
def Nm(sc:Scope)(x:Str)(k:NameKind):Prop:=sc.names.lookup x=some k/\(x == ("__debug__" : Str))=false/\(x == ("__classdict__" : Str))=false/\x ≠ "__name__"
instance (sc:Scope) (x:Str) (k:NameKind):Decidable (Nm sc x k):=by unfold Nm;exact inferInstance
section
variable{X:Cx}{x:Str}{pos:Pos}
theorem al1{α:Type _}{P:List α->Prop}(k:∀a,P [a]):∀l:List α,l.length=1->P l
 | [a],_=>k a
theorem al2{α:Type _}{P:List α->Prop}(k:∀a b,P [a,b]):∀l:List α,l.length=2->P l
 | [a,b],_=>k a b
theorem al3{α:Type _}{P:List α->Prop}(k:∀a b c,P [a,b,c]):∀l:List α,l.length=3->P l
 | [a,b,c],_=>k a b c
theorem al4{α:Type _}{P:List α->Prop}(k:∀a b c d,P [a,b,c,d]):∀l:List α,l.length=4->P l
 | [a,b,c,d],_=>k a b c d
theorem al5{α:Type _}{P:List α->Prop}(k:∀a b c d e,P [a,b,c,d,e]):∀l:List α,l.length=5->P l
 | [a,b,c,d,e],_=>k a b c d e
theorem al6{α:Type _}{P:List α->Prop}(k:∀a b c d e f,P [a,b,c,d,e,f]):∀l:List α,l.length=6->P l
 | [a,b,c,d,e,f],_=>k a b c d e f
theorem al7{α:Type _}{P:List α->Prop}(k:∀a b c d e f g,P [a,b,c,d,e,f,g]):∀l:List α,l.length=7->P l
 | [a,b,c,d,e,f,g],_=>k a b c d e f g
def nmB(X:Cx)(x:Str)(k:NameKind):Bool:=decide (Nm X.env.scope x k)
def ndB(X:Cx):Bool:=decide X.N.Nodup
abbrev nB(X:Cx)(x:Str)(k:NameKind):Prop:=nmB X x k=true
abbrev nD(X:Cx):Prop:=ndB X=true
theorem od [Decidable p] (h:decide p=true):p:=of_decide_eq_true h
theorem fsc{N P:eS}{sc:Scope}(a:sc.kind = .function:=by rfl)(h:decide (sc.isCoroutine=false/\sc.isGenerator=false/\N.Nodup/\N.take P.length=P/\(∀x∈P,sc.names.lookup x=some .local\/sc.names.lookup x=some .cell)/\∀y∈sc.names,y.2 ≠ .free)=true:=by kernel_rfl):ZL N P sc :=
 have ⟨b,c,d,e,f,g⟩:=od h;⟨a,b,c,d,e,f,g⟩
theorem pvN(i:Nat)(n:Nm X.env.scope x .local)(hN:X.N[i]? = some x:=by rfl):PE X (.Name x pos) (YC i):=C9 hN (.inl n.1) n.2.1 n.2.2.1
theorem XT(n:Nm X.env.scope x .globalImplicit)(hm:X.mg x=some u)(r:ZG v u):PE X (.Name x pos) (tC v):=M9 n.1 hm r n.2.1
theorem Mc(n:Nm X.env.scope x .globalImplicit)(hm:X.mg x=none)(hv:bootBuiltins x=some u)(r:ZG v u):PE X (.Name x pos) (tC v):=PY n.1 hm hv r n.2.2.2 n.2.1
theorem Pi{k:Nat}{ps:eS}{sp:Sp}{p:Pos}{e:Expr}{es:List Expr}{t:TA}(F:Fn X.prog X.w X.K X.mg X.base x ps k sp)(hr:ZJ k X.A)(n:Nm X.env.scope x .globalImplicit)(ha:PA X (e::es) t)(he:starEach (e::es) X.env=(false,eval e X.env)::starEach es X.env:=by rfl)(hpl:(backTo pos (starEach es X.env)).any (·.1)=false:=by rfl) :
  PE X (.Call (.Name x p) (e::es) [] pos) (Jl sp t):=Mb F hr n.1 ha n.2.1 he hpl
theorem Rt{p:Pos}{e:Expr}{es:List Expr}{t:TA}{id:String}{r:List V->Hp->VK->Prop}(hc:U0 X (.builtin id) r)(n:Nm X.env.scope x .globalImplicit)(hm:X.mg x=none)(hv:bootBuiltins x=some (.builtin id))(ha:PA X (e::es) t)(he:starEach (e::es) X.env=(false,eval e X.env)::starEach es X.env:=by rfl)(hpl:(backTo pos (starEach es X.env)).any (·.1)=false:=by rfl):PE X (.Call (.Name x p) (e::es) [] pos) (Ay r t):=LR hc n.1 hm hv ha n.2.2.2 n.2.1 he hpl
theorem cU{p:Pos}{e:Expr}{es:List Expr}{t:TA}{T:String}{r:List V->Hp->VK->Prop}(hc:U0 X (.type T) r)(n:Nm X.env.scope x .globalImplicit)(hm:X.mg x=none)(hv:bootBuiltins x=some (.type T))(ha:PA X (e::es) t)(he:starEach (e::es) X.env=(false,eval e X.env)::starEach es X.env:=by rfl)(hpl:(backTo pos (starEach es X.env)).any (·.1)=false:=by rfl):PE X (.Call (.Name x p) (e::es) [] pos) (Ay r t):=X9 hc n.1 hm hv ha n.2.2.2 n.2.1 he hpl
theorem SM{i:Nat}{e:Expr}{te:TE}{pos':Pos}(hN:X.N.Nodup)(n:Nm X.env.scope x .local)(he:PE X e te)(hi:X.N[i]? = some x:=by rfl)(hs:swapsWith e (some (.Name x pos')) pos.line X.env=pure false:=by rfl) :
  PS X (.Assign [.Name x pos'] e pos) (Us te (Y2 i)):=Ia hN hi (.inl n.1) he hs (.inr n.1)
theorem Me{i:Nat}{e:Expr}{te:TE}{pos':Pos}(hN:X.N.Nodup)(n:Nm X.env.scope x .cell)(he:PE X e te)(hf:X.fn x=true:=by rfl)(hi:X.N[i]? = some x:=by rfl)(hs:swapsWith e (some (.Name x pos')) pos.line X.env=pure false:=by rfl) :
  PS X (.Assign [.Name x pos'] e pos) (Us te (Y2 i)):=Ia hN hi (.inr n.1) he hs (.inl hf)
theorem R8(hN:X.N.Nodup)(n:Nm X.env.scope x .local)(hi:X.N[i]? = some x:=by rfl):PG X (.Name x pos) (Y2 i):=GL hN hi (.inl n.1) (.inr n.1)
end
section
variable{X:Cx}{scope:Scope}{cl:List (Str×eZ)}{C:eZ}{N':eS}{s0:eX}{H0:Hp}{ex:eW}{pn:List (eZ×Obj)}{x:Str}{pos:Pos}
theorem DT(n:Nm scope x .globalImplicit:=by decide +kernel):Nm (ccx X scope cl C N' s0 H0 ex pn).env.scope x .globalImplicit:=⟨HQ aA n.1,n.2⟩
theorem nmC(n:Nm scope x .globalImplicit:=by decide +kernel):nB (ccx X scope cl C N' s0 H0 ex pn) x .globalImplicit:=xZ (DT n)
theorem YL.consN{j:Nat}{fr:List (Str×Nat)}(n:Nm X.env.scope x .cell)(t:YL X scope fr)(m:Nm scope x .free:=by decide +kernel)(h1:X.N[j]? = some x:=by rfl):YL X scope ((x,j)::fr):=.cons h1 (.inl n.1) m.1 t
end
def cs(x:Str):List Nat:=x.cps.toList
theorem JA(h:cs x=cs y):x=y:=by
 obtain⟨⟨a⟩⟩:=x;obtain⟨⟨b⟩⟩:=y;have:a=b:=h;rw[this]
theorem Z7(x:Str):(cs x).length=x.length:=by unfold cs;exact Array.length_toList
theorem Vk(x y:Str):cs (x++y)=cs x++cs y:=by unfold cs;rw[PySem.Str.cps_append,Array.toList_append]
theorem Kx(l:List Nat):cs ⟨l.toArray⟩=l:=by unfold cs;simp
theorem Iw(xs:List Nat)(lo:Nat):∀m,lo+m<=xs.length->((List.range m).map (lo + ·)).filterMap (xs[·]?)=(xs.drop lo).take m:=by
 intro m
 induction m with
 | zero=>intro _;simp
 | succ m ih =>
  intro h;rw[List.range_succ,xM,List.filterMap_append,ih (by lia),yD,List.getElem?_drop];have:lo+m < xs.length:=by lia
  simp[xE this]
theorem CL(x:Str)(h : 0<=i):cs (Txt.slice x none (some i))=(cs x).take i.toNat:=by
 have hl:=Z7 x;have e:Builtin.Str.strSliceIndices none (some i) 1 x.length=(List.range (min i.toNat x.length)).map (0 + ·):=by
  unfold Builtin.Str.strSliceIndices sliceRange;simp only[show (1:Int) > 0 by decide,if_true];have e1:(if i < 0 then i+(x.length:Int) else i)=i:=if_neg (by lia);rw[e1];have e2:(if (0:Int) < max 0 (min i (x.length:Int)) then (max 0 (min i (x.length:Int)) - 0+1 - 1) / 1 else 0).toNat=min i.toNat x.length:=by
   split<;>(try simp only[Int.ediv_one])<;>lia
  rw[e2];apply List.map_congr_left;intro k _;lia
 unfold Txt.slice;rw[e];split
 ·rename_i hc;have hc:((List.range (min i.toNat x.length)).map (0 + ·)).length=x.length:=by simpa using hc
  rw[xA,List.length_range] at hc;rw[yP (by lia)]
 ·rw[Kx];have:=Iw (cs x) 0 (min i.toNat x.length) (by lia);rw[List.drop_zero] at this;have e3:(cs x).take (min i.toNat x.length)=(cs x).take i.toNat:=by
   rw[← hl]
   by_cases h1:i.toNat<=(cs x).length
   ·rw[wC h1]
   ·rw[Nat.min_eq_right (by lia),yP (by lia),yP (by lia)]
  rw[← e3,← this];congr 1;funext k;unfold cs;simp
theorem L3(x:Str)(h : 0<=i):cs (Txt.slice x (some i) none)=(cs x).drop i.toNat:=by
 have hl:=Z7 x;have e:Builtin.Str.strSliceIndices (some i) none 1 x.length=(List.range (x.length - min i.toNat x.length)).map (min i.toNat x.length + ·):=by
  unfold Builtin.Str.strSliceIndices sliceRange;simp only[show (1:Int) > 0 by decide,if_true];have e1:(if i < 0 then i+(x.length:Int) else i)=i:=if_neg (by lia);rw[e1];have e2:(if max 0 (min i (x.length:Int)) < (x.length:Int) then ((x.length:Int) - max 0 (min i (x.length:Int))+1 - 1) / 1 else 0).toNat=x.length - min i.toNat x.length:=by
   split<;>(try simp only[Int.ediv_one])<;>lia
  rw[e2];apply List.map_congr_left;intro k _;lia
 unfold Txt.slice;rw[e];split
 ·rename_i hc;have hc:((List.range (x.length - min i.toNat x.length)).map (min i.toNat x.length + ·)).length=x.length:=by simpa using hc
  rw[xA,List.length_range] at hc
  by_cases h0:i.toNat=0
  ·rw[h0,List.drop_zero]
  ·have:x.length=0:=by lia
   rw[List.drop_of_length_le (by lia)];exact List.length_eq_zero_iff.mp (by lia)
 ·rw[Kx];have:=Iw (cs x) (min i.toNat x.length) (x.length - min i.toNat x.length) (by lia);have e3:((cs x).drop (min i.toNat x.length)).take (x.length - min i.toNat x.length)=(cs x).drop i.toNat:=by
   rw[yP (by rw[zC];lia)]
   by_cases h1:i.toNat<=x.length
   ·rw[wC h1]
   ·rw[Nat.min_eq_right (by lia),List.drop_of_length_le (by lia),List.drop_of_length_le (by lia)]
  rw[← e3,← this];congr 1;funext k;unfold cs;simp
theorem SX:∀ys:List Str,cs (Txt.join "" ys)=(ys.map cs).flatten:=by
 have go:∀(ys:eS)(a:Array Nat),(ys.foldl (fun acc p=>acc++(("" : Str)).cps++p.cps) a).toList=a.toList++(ys.map cs).flatten:=by
  intro ys
  induction ys with
  | nil=>intro a;simp
  | cons y r ih =>
   intro a;rw[List.foldl_cons,ih];have:(("" : Str)).cps = #[]:=aA
   rw[this];simp[cs]
 intro ys;show (cs (Builtin.Str.glued "" ys))=_;unfold Builtin.Str.glued;cases ys with
 | nil=>decide +kernel
 | cons y r =>
  show (List.foldl _ y.cps r).toList=_;rw[go];rfl
def AN(x:Str):Prop:=∀c∈cs x,97<=c/\c<=122
def letters:Str:="abcdefghijklmnopqrstuvwxyz"
theorem LH:cs letters=(List.range 26).map (97 + ·):=aA
theorem FX(h0 : 0<=d)(h1:d < 26):atI letters.cps.toList d=some (97+d.toNat):=by
 obtain⟨j,rfl⟩:=yF h0;refine Yb ?_;show (cs letters)[j]? = _;rw[LH,xK,wB (by lia)];rfl
theorem Bt{J:It}{nl:Nat}{fv:St}{g:TG}{tt:VR}{te:TE}{Q:VK}{H:Hp}{xs:aG}(Pv:Nat->List V->Hp->Prop)(h0:Pv 0 [] H)(hn:xs.length<=1000000)(hgo:∀i H ys,i < xs.length->Pv i ys H->J.go i H)(hy:∀i H x H' ys,i < xs.length->Pv i ys H->J.yld i H x H'->H'=H/\xs[i]? = some x)(hst:∀H ys,Pv xs.length ys H->J.stop xs.length H)(hlen:∀i ys H,Pv i ys H->ys.length<=i)(step:∀i x ys H,xs[i]? = some x->Pv i ys H->Vh nl fv g tt te x H (fun y H'=>Pv (i+1) (ys ++ [y]) H') fun H'=>Pv (i+1) ys H')(hd:∀ys H,Pv xs.length ys H->∀l,H l=none->Q (.ref l) (upd H l (.lst ys))) :
  Vt J nl fv g tt te Q H:=by
 have mono:∀{x:V}{H:Hp}{Y Y':V->Hp->Prop}{N N':Hp->Prop},Vh nl fv g tt te x H Y N->Y=Y'->N=N'->Vh nl fv g tt te x H Y' N':=fun h e1 e2=>by subst e1;subst e2;exact h
 refine⟨fun i m ys H=>m=xs.length - i/\i<=xs.length/\Pv i ys H,⟨xs.length,by simp,yO _,h0⟩,?_⟩;rintro i m ys H ⟨rfl,hi,p⟩;have hl:=hlen i ys H p;have hz:(1000000:Nat) < sizeLine:=by decide
 by_cases hlt:i < xs.length
 ·refine .inr ⟨hgo i H ys hlt p,by lia,xs.length - (i+1),by lia,fun x H' y=>?_⟩;obtain⟨e,ex⟩:=hy i H x H' ys hlt p y;subst e;refine mono (step i x ys _ ex p) ?_ ?_
  ·funext y H4;apply propext;exact⟨fun q=>⟨rfl,hlt,q⟩,fun q=>q.2.2⟩
  ·funext H3;apply propext;exact⟨fun q=>⟨rfl,hlt,q⟩,fun q=>q.2.2⟩
 ·have e:i=xs.length:=by lia
  subst e;exact .inl ⟨hst H ys p,by lia,hd ys H p⟩
def Bg(lo:Int)(n:Nat):List V:=(List.range n).map fun k=>V.int (lo+(k:Nat))
theorem A5(lo:Int)(n:Nat):(Bg lo n).length=n:=by simp[Bg]
theorem XM{lo:Int}{n i:Nat}{x:V}(h:(Bg lo n)[i]? = some x):i < n/\x = .int (lo+(i:Nat)):=by
 have hi:i < n:=by have:=(xY.mp h).1;rwa [A5] at this
 refine⟨hi,?_⟩;unfold Bg at h;rw[xK,wB hi] at h;exact(Option.some.inj h).symm
theorem Hm{lo:Int}{n:Nat}{nl:Nat}{fv:St}{g:TG}{tt:VR}{te:TE}{Q:VK}{H:Hp}(Pv:Nat->List V->Hp->Prop)(h0:Pv 0 [] H)(hn:n<=1000000)(hlen:∀i ys H,Pv i ys H->ys.length<=i)(step:∀i ys H,i < n->Pv i ys H->Vh nl fv g tt te (.int (lo+(i:Nat))) H (fun y H'=>Pv (i+1) (ys ++ [y]) H') fun H'=>Pv (i+1) ys H')(hd:∀ys H,Pv n ys H->∀l,H l=none->Q (.ref l) (upd H l (.lst ys))) :
  Vt (Jw lo n) nl fv g tt te Q H:=by
 refine Bt (xs:=Bg lo n) Pv h0 (by rw[A5];exact hn) ?_ ?_ ?_ hlen ?_ ?_
 ·intro i H ys hi _;rw[A5] at hi;exact hi
 ·rintro i H x H' ys hi _ ⟨rfl,rfl⟩;rw[A5] at hi;refine⟨rfl,?_⟩;unfold Bg;rw[xK,wB hi];rfl
 ·intro H ys _;rw[A5];exact xH _
 ·intro i x ys H hx p;obtain⟨hi,rfl⟩:=XM hx;exact step i ys H hi p
 ·intro ys H p;rw[A5] at p;exact hd ys H p
theorem J9{K:uFg}{a:eZ}{xs:aG}{nl:Nat}{fv:St}{g:TG}{tt:VR}{te:TE}{Q:VK}{H:Hp}(Pv:Nat->List V->Hp->Prop)(h0:Pv 0 [] H)(hn:xs.length<=1000000)(hl:∀i ys H,i<=xs.length->Pv i ys H->ZF K H a xs)(hlen:∀i ys H,Pv i ys H->ys.length<=i)(step:∀i x ys H,xs[i]? = some x->Pv i ys H->Vh nl fv g tt te x H (fun y H'=>Pv (i+1) (ys ++ [y]) H') fun H'=>Pv (i+1) ys H')(hd:∀ys H,Pv xs.length ys H->∀l,H l=none->Q (.ref l) (upd H l (.lst ys))) :
  Vt (TR K a) nl fv g tt te Q H:=by
 refine Bt (xs:=xs) Pv h0 hn ?_ ?_ ?_ hlen step hd
 ·intro i H ys hi p;exact⟨xs,xs[i],hl i ys H (yX hi) p,by simp[hi]⟩
 ·rintro i H x H' ys hi p ⟨rfl,y⟩;exact⟨rfl,y xs (hl i ys _ (yX hi) p)⟩
 ·intro H ys p;exact⟨xs,hl _ ys H (xH _) p,xH _⟩
theorem GD(Pv:Nat->List V->Hp->Prop)(h0:Pv 0 [] H)(hn:x.length<=1000000)(hlen:∀i ys H,Pv i ys H->ys.length<=i)(step:∀i ys H,i < x.length->Pv i ys H->Vh nl fv g tt te (sgn x i) H (fun y H'=>Pv (i+1) (ys ++ [y]) H') fun H'=>Pv (i+1) ys H')(hd:∀ys H,Pv x.length ys H->∀l,H l=none->Q (.ref l) (upd H l (.lst ys))) :
  Vt (JS x) nl fv g tt te Q H:=by
 have ln:((List.range x.length).map fun i=>sgn x i).length=x.length:=by simp
 refine Bt (xs:=(List.range x.length).map fun i=>sgn x i) Pv h0 (by rw[ln];exact hn) ?_ ?_ ?_ hlen ?_ ?_
 ·intro i H ys hi _;rw[ln] at hi;exact hi
 ·rintro i H v H' ys hi _ ⟨rfl,rfl⟩;rw[ln] at hi;refine⟨rfl,?_⟩;rw[xK,wB hi];rfl
 ·intro H ys _;rw[ln];exact rfl
 ·intro i v ys H hx p;have hi:i < x.length:=by have:=(xY.mp hx).1;rwa [ln] at this
  rw[xK,wB hi] at hx;cases hx;exact step i ys H hi p
 ·intro ys H p;rw[ln] at p;exact hd ys H p
theorem Sn{x:Str}{g:TG}{tb:TS}{D:ZW}{σ:St}{H:Hp}(Pv:Nat->St->Hp->Prop)(h0:Pv 0 σ H)(hs:∀i σ H,i < x.length->Pv i σ H->g (sgn x i) σ H fun σ2 H2=>tb {D with nx:=Pv (i+1),ct:=Pv (i+1),bk:=D.nx } σ2 H2)(hd:∀ σ H,Pv x.length σ H->D.nx σ H) :
  ∃W:Nat->Nat->St->Hp->Prop,(∃m,W 0 m σ H)/\∀i m σ H,W i m σ H ->
   ((JS x).stop i H/\D.nx σ H)\/((JS x).go i H/\∃N:St->Hp->Prop,(∀ σ' H',N σ' H'->∃m',m' < m/\W (i+1) m' σ' H')/\∀v H',(JS x).yld i H v H'->g v σ H' fun σ2 H2=>tb {D with nx:=N,ct:=N,bk:=D.nx } σ2 H2):=by
 refine⟨fun i m σ H=>m=x.length - i/\i<=x.length/\Pv i σ H,⟨x.length,by simp,yO _,h0⟩,?_⟩;rintro i m σ H ⟨rfl,hi,p⟩
 by_cases hlt:i < x.length
 ·refine .inr ⟨hlt,Pv (i+1),fun σ' H' p'=>⟨x.length - (i+1),by lia,rfl,hlt,p'⟩,fun v H' y=>?_⟩;obtain⟨e,y⟩:=y;subst e y;exact hs i σ _ hlt p
 ·have e:i=x.length:=by lia
  subst e;exact .inl ⟨rfl,hd σ H p⟩
theorem Uv{ls:St}(h:ls.length=1):∃a,ls = [a]:=by
 match ls,h with
 | [a],_=>exact⟨a,rfl⟩
theorem Bf{ls:St}(h:ls.length=2):∃a b,ls = [a,b]:=by
 match ls,h with
 | [a,b],_=>exact⟨a,b,rfl⟩
structure QE (X:Cx) (e:Expr) (t:TE):Prop where
 h:PE X e t
structure QT (X:Cx) (e:Expr) (t:TT):Prop where
 h:PT X e t
structure QW (X:Cx) (e:Expr) (t:TT):Prop where
 h:PW X e t
structure QS (X:Cx) (s:Stmt) (t:TS):Prop where
 h:PS X s t
structure YS (X:Cx) (s:List Stmt) (t:TS):Prop where
 h:Ae X s t
structure QA (X:Cx) (es:List Expr) (t:TA):Prop where
 h:PA X es t
structure QG (X:Cx) (e:Expr) (t:TG):Prop where
 h:PG X e t
structure Bi (X:Cx) (es:List Expr) (t:Jh):Prop where
 h:GC X es t
structure QI (X:Cx) (tg iter:Expr) (t:TI):Prop where
 h:PI X tg iter t
structure QO (X:Cx) (e:Option Expr) (t:TO):Prop where
 h:PO X e t
structure CN (X:Cx) (es:List Expr) (t:VR):Prop where
 h:BV X es t
structure YK (X:Cx) (f:eY->eY->Sem eY) (r:R2):Prop where
 h:Je X f r
structure GU (X:Cx) (f:eY->Sem eY) (r:V->Hp->VK->Prop):Prop where
 h:Oh X f r
structure QC (X:Cx) (f:eY) (r:List V->Hp->VK->Prop):Prop where
 h:U0 X f r
theorem QC.imp(h:QC X f r)(i:∀xs H Q,r' xs H Q->r xs H Q):QC X f r':=⟨fun p s σ H x u Q I v k=>h.h p s σ H x u Q I v (i x H Q k)⟩
structure Be (X:Cx) (r:R2):Prop where
 h:Dv X r
structure CS (X:Cx) (r:V->Option Int->Option Int->Hp->VK->Prop):Prop where
 h:Gh X r
structure QM (X:Cx) (id:String) (r:V->List V->Hp->VK->Prop):Prop where
 h:IE X id r
structure Cn (X:Cx) (t:C8):Prop where
 h:X8 X t
section
variable{X:Cx}{a b c:Expr}{ta tb te:TE}{pos p pos':Pos}{st:Stmt}{rest:List Stmt}{t u:TS}{x:Str}{es:List Expr}{e:Expr}
theorem Zo:YS X [] Zw:=⟨fun _ _ σ H _ I h=>wpAny_execs_nil ⟨σ,H,I,h⟩⟩
theorem Ze(h1:QS X st t)(h2:YS X rest u):YS X (st::rest) (Vq t u):=⟨by
 have h1:=h1.h;have h2:=h2.h;intro pins s σ H D I h;refine wpAny_execs_cons (thn (h1 pins s σ H {D with nx:=u D } I h) fun f s1 q=>?_);cases f with
 | next =>
  obtain⟨σ',H',I',q⟩:=q;exact h2 pins s1 σ' H' D I' q
 | ret v=>exact q
 | brk=>exact q
 | cont=>exact q⟩
theorem Zd(h1:QS X st t):YS X [st] t:=⟨by
 have h1:=h1.h;intro pins s σ H D I h;refine wpAny_execs_cons (thn (h1 pins s σ H D I h) fun f s1 q=>?_);cases f with
 | next=>exact wpAny_execs_nil q
 | ret v=>exact q
 | brk=>exact q
 | cont=>exact q⟩
theorem Zn(h:QE X e te):QS X (.Return (some e) pos) (Pq te):=⟨by
 have he:=h.h;intro pins s σ H D I h
 exact wpAny_Return_some (thn (he pins s σ H _ I h) fun v s1 ⟨x,H1,I1,r1,q1⟩=>⟨x,σ,H1,I1,r1,q1⟩)⟩
theorem Zm{c:Expr}{a b:List Stmt}{tc:TT}(hc:QT X c tc)(ha:YS X a t)(hb:YS X b u):QS X (.If c a b pos) (Ct tc t u):=⟨by
 have hc:=hc.h;have ha:=ha.h;have hb:=hb.h;intro pins s σ H D I h;refine wpAny_If (thn (hc pins s σ H _ I h) fun d s1 ⟨H1,I1,q1⟩=>?_);cases d with
 | true=>exact ha pins s1 σ H1 D I1 q1
 | false=>exact hb pins s1 σ H1 D I1 q1⟩
theorem Ye(he:QE X e te)(hs:swapsWith e none pos.line X.env=pure false:=by rfl):QS X (.Expr e pos) (DF te):=⟨by
 have he:=he.h;intro pins s σ H D I h
 exact wpAny_Expr_any (thn (he pins s σ H _ I h) fun v s1 ⟨x,H1,I1,r1,q1⟩=>⟨σ,H1,I1,q1⟩) I.quiet hs⟩
theorem Zv(i:Nat)(he:QE X e te)(hN:nD X:=by kernel_rfl)(n:nB X x .local:=by kernel_rfl)(hi:X.N[i]? = some x:=by rfl)(hs:swapsWith e (some (.Name x pos')) pos.line X.env=pure false:=by rfl) :
  QS X (.Assign [.Name x pos'] e pos) (Us te (Y2 i)):=⟨SM (od hN) (od n) he.h hi hs⟩
theorem OL{i:Nat}(hN:X.N.Nodup)(n:Nm X.env.scope x .cell)(he:QE X e te)(hf:X.fn x=true:=by rfl)(hi:X.N[i]? = some x:=by rfl)(hs:swapsWith e (some (.Name x pos')) pos.line X.env=pure false:=by rfl) :
  QS X (.Assign [.Name x pos'] e pos) (Us te (Y2 i)):=⟨Me hN n he.h hf hi hs⟩
theorem AR{tg:Expr}{g:TG}(he:QE X e te)(hg:QG X tg g)(hs:swapsWithSole [tg] e pos.line X.env=pure false:=by rfl)(hw:swappedStores [tg] e X.env=pure none:=by rfl)(h1:(assignEach [tg] X.env).map (·.2)= [assign tg X.env]:=by rfl):QS X (.Assign [tg] e pos) (Us te g):=⟨by
 have he:=he.h;have hg:=hg.h;intro pins s σ H D I h;refine wpAny_Assign_stores (thn (he pins s σ H _ I h) fun v s1 ⟨x,H1,I1,r1,q1⟩=>?_) hs hw;rw[h1]
 exact thn (hg pins s1 σ H1 x v _ I1 r1 q1) fun _ s2 q=>q⟩
def TZ(J:It)(g:TG)(tb:TS)(D:ZW)(σ:St)(H1:Hp):Prop:=∃W:Nat->Nat->St->Hp->Prop,(∃m,W 0 m σ H1)/\∀i m σ H,W i m σ H ->
 (J.stop i H/\D.nx σ H)\/(J.go i H/\∃N:St->Hp->Prop,(∀ σ' H',N σ' H'->∃m',m' < m/\W (i+1) m' σ' H')/\∀x H',J.yld i H x H'->g x σ H' fun σ2 H2=>tb {D with nx:=N,ct:=N,bk:=D.nx } σ2 H2)
def Kn(wi:TI)(g:TG)(tb:TS):TS:=fun D σ H=>wi σ H fun J H1=>TZ J g tb D σ H1
theorem Wz(hp:PassesOwn (model X.prog X.w) X.A X.env X.xe)(hc:X.calm=true)(hi:QI X tg iter wi)(hg:QG X tg g)(hb:YS X body t)(hs:∀x,foldedSetIterable iter X.env x=pure x:=by intro _;rfl):QS X (.For tg iter body [] pos) (Kn wi g t):=⟨by
 have hi:=hi.h;have hg:=hg.h;have hb:=hb.h;intro pins s σ H D I h;refine wpAny_For (thn (hi pins s σ H _ I h) fun v s1 h1=>thn h1 fun itv s2 h2=>?_) hs;obtain⟨it,fp,tn,J,H2,e,I2,T,st2,f2,W,⟨m0,w0⟩,turn⟩:=h2;subst e;have stat:∀{H':Hp},(∀b∈fp,H' b=none)->∀b∈fp,Vv X pins H' b:=fun hn b hb=>⟨hn b hb,(f2 b hb).2⟩;refine codeAny_forLoop_any (fun n s'=>∃i σ' H',ZD X pins σ' H' s'/\tn i s'.heap/\(∀b∈fp,H' b=none)/\W i n σ' H') ?_ m0 ⟨0,σ,H2,I2,st2,fun b hb=>(f2 b hb).1,w0⟩;rintro n s3 ⟨i,σ3,H3,I3,st3,fr3,w3⟩;rcases turn i n σ3 H3 w3 with⟨stop,qn⟩ | ⟨go,N,hN,step⟩
 ·refine wpAny_passesOwn hp (thn (T.done X rfl rfl rfl hc i pins s3 σ3 H3 X.xe I3 (stat fr3) st3 stop) fun r s4 ⟨hr,I4⟩=>?_);subst hr;exact wpAny_execs_nil ⟨σ3,H3,I4,qn⟩
 ·refine wpAny_passesOwn hp (thn (T.item X rfl rfl rfl hc i pins s3 σ3 H3 X.xe I3 (stat fr3) st3 go) fun r s4 ⟨u,hr,h4⟩=>?_);subst hr;refine wpAny_passesOwn hp (thn h4 fun _ s5 ⟨x,H5,I5,r5,y5,st5,fr5⟩=>?_);have I5':=I5.pinned (stat fr5) (T.obj _ _ st5);refine wpAny_passesOwn hp (thn (hg _ s5 σ3 H5 x u _ I5' r5 (step x H5 y5)) fun _ s6 ⟨σ6,H6,I6,q6⟩=>?_);refine wpAny_passesOwn hp (thn (hb _ s6 σ6 H6 _ I6 q6) fun f s7 q7=>?_);have again:∀{σ7:St}{H7:Hp},ZD X (pins++JJ fp s5.heap) σ7 H7 s7->N σ7 H7->∃m,m < n/\∃i σ' H',ZD X pins σ' H' s7/\tn i s7.heap/\(∀b∈fp,H' b=none)/\W i m σ' H':=fun {σ7 H7} I7 n7=>by
   obtain⟨m',hm,w7⟩:=hN σ7 H7 n7;refine⟨m',hm,i+1,σ7,H7,I7.unpinned,T.keep _ _ _ st5 fun b hb o e=>(I7.pin (b,o) (xJ _ (xJ _ (BE hb e)))).1,fun b hb=>?_,w7⟩;obtain⟨o,e,d⟩:=T.obj _ _ st5 b hb;exact(I7.pin (b,o) (xJ _ (xJ _ (BE hb e)))).2.1
  cases f with
  | next=>obtain⟨σ7,H7,I7,n7⟩:=q7;exact again I7 n7
  | cont=>obtain⟨σ7,H7,I7,n7⟩:=q7;exact again I7 n7
  | brk=>obtain⟨σ7,H7,I7,q7⟩:=q7;exact⟨σ7,H7,I7.unpinned,q7⟩
  | ret v=>obtain⟨x7,σ7,H7,I7,r7,q7⟩:=q7;exact⟨x7,σ7,H7,I7.unpinned,r7,q7⟩⟩
theorem Y7(i:Nat)(hN:nD X:=by kernel_rfl)(n:nB X x .local:=by kernel_rfl)(hi:X.N[i]? = some x:=by rfl):QG X (.Name x pos) (Y2 i):=⟨R8 (od hN) (od n) hi⟩
theorem Jv:Bi X [] Eu:=⟨by
 intro pins s σ H vs us Q I r h;obtain⟨e,h⟩:=h;subst e;cases r
 exact assignInOrder_nil ⟨σ,H,I,h⟩⟩
theorem Va{t:TG}{u:Jh}(h1:QG X e t)(h2:Bi X es u)(hs:(assignEach (e::es) X.env).map (·.2)=assign e X.env::(assignEach es X.env).map (·.2):=by rfl):Bi X (e::es) (VF t u):=⟨by
 have h1:=h1.h;have h2:=h2.h;intro pins s σ H vs us Q I r h;obtain⟨v,vr,e1,h⟩:=h;subst e1;cases r with
 | cons r rr =>
  rw[hs];refine assignInOrder_cons (thn (h1 pins s σ H _ _ _ I r h) fun _ s1 ⟨σ1,H1,I1,q1⟩=>?_)
  exact h2 pins s1 σ1 H1 _ _ Q I1 rr q1⟩
theorem L4{k:Nat}{t:Jh}{n:Nat}(hc:X.calm=true)(h:Bi X es t)(hn:(assignEach es X.env).length=n:=by rfl)(hst:(assignEach es X.env).findIdx? (·.1)=none:=by rfl):QG X (.Tuple es k pos) (Tf X.K n t):=⟨L9 hc h.h hn hst⟩
theorem AB{o i:Expr}{to ti:TE}{t:C8}(ho:QE X o to)(hi:QE X i ti)(hs:Cn X t)(ha:∀v,assign (.Subscript o i pos) X.env v=(do
   let ov ← holding [v] (eval o X.env)
   let iv ← holding [v,ov] (eval i X.env)
   standAt pos
   holding [v,ov,iv] (setItem ov iv v)
   release [v,ov,iv] []):=by intro _;rfl):QG X (.Subscript o i pos) (Ri to ti t):=⟨by
 have ho:=ho.h;have hi:=hi.h;have hs:=hs.h;intro pins s σ H v u Q I r h;rw[ha];refine wpAny_bind (wpAny_holding (thn (ho pins s σ H _ I h) fun ov s1 ⟨x,H1,I1,r1,q1⟩=>?_));refine wpAny_bind (wpAny_holding (thn (hi pins s1 σ H1 _ I1 q1) fun iv s2 ⟨y,H2,I2,r2,q2⟩=>?_));refine wpAny_bind (wpAny_standAt (wpAny_bind (wpAny_holding (thn (hs pins s2 σ H2 x y v ov iv u _ I2 r1 r2 r q2) fun _ s3 ⟨H3,I3,q3⟩=>?_))))
 exact wpAny_release ⟨σ,H3,I3,q3⟩⟩
theorem AI:Cn X Bn:=⟨by
 intro pins s σ H o i v ov iv u Q I ro ri rv h;obtain⟨p,xs,k,j,rfl,rfl,hp,hj,q⟩:=h;cases ro;obtain⟨t,rfl⟩:=ri;obtain⟨its,n,r,ho,hz⟩:=I.lst hp;obtain⟨h1,h2,h3,h4⟩:=Gj hj;have hl:=r.length;have hn:=Ba;have I':ZD X pins σ (upd H p (.lst (xs.set j v))) {s with heap:=s.heap.update p (Obj.mapSeq (·.setIfInBounds j u)) } :=
  I.lstUpd hp ho (Nj its n j u) (r.set rv j) (by rw[List.length_set];exact hz) s.toks
 by_cases h0 : 0<=k
 ·have hk:k.toNat=j:=by
   rw[seqIndex_of h0 h4] at h1;exact Option.some.inj h1
  exact PySem.W.ki_setAt ho h0 (by lia) (by rw[xV,← hl];exact h4) (by rw[hk];exact⟨_,I',q⟩)
 ·have hk:(k+(its.toArray.size:Int)).toNat=j:=by
   rw[seqIndex_neg (by lia) h3] at h1;rw[xV,← hl];exact Option.some.inj h1
  exact PySem.W.ki_setBack ho (by lia) (by rw[xV,← hl];exact h3) (by lia) (by rw[hk];exact⟨_,I',q⟩)⟩
variable{tg:Expr}
theorem Vl(hl:QE X l te):QI X tg l (XX X.K te):=⟨by
 have hl:=hl.h;intro pins s σ H R I h;refine thn (hl pins s σ H _ I h) fun v s1 ⟨x,H1,I1,r1,q1⟩=>?_;obtain⟨a,e,⟨xs,hq⟩,q⟩:=q1;subst e;cases r1;obtain⟨its,rv,p,hz⟩:=I1.list hq;refine wpAny_pyIter_list p.isList ?_;refine⟨s1.heap.objs.size,[s1.heap.objs.size],_,_,H1,rfl,I1.kept (t':=s1.toks) fun b o e=>xB _ e,NQ a _,⟨_,xL _ rfl,rfl,rfl⟩,fun b hb=>?_,q⟩;have e:b=s1.heap.objs.size:=by simpa using hb
 subst e
 exact I1.fpOk (xH _) (I1.hok.fresh (xH _))⟩
theorem Hv(hl:QE X l te):QI X tg l (M4 X.K te):=⟨by
 have hl:=hl.h;intro pins s σ H R I h;refine thn (hl pins s σ H _ I h) fun v s1 ⟨x,H1,I1,r1,q1⟩=>?_;obtain⟨a,e,⟨xs,hq⟩,q⟩:=q1;subst e;cases r1;obtain⟨its,rv,p,hz⟩:=I1.tuple hq;refine wpAny_pyIter_tuple (show s1.heap.IsTuple a its.toArray from p) ?_;refine⟨s1.heap.objs.size,[s1.heap.objs.size],_,_,H1,rfl,I1.kept (t':=s1.toks) fun b o e=>xB _ e,QX a _,⟨_,xL _ rfl,rfl,rfl⟩,fun b hb=>?_,q⟩;have e:b=s1.heap.objs.size:=by simpa using hb
 subst e
 exact I1.fpOk (xH _) (I1.hok.fresh (xH _))⟩
theorem AC(hl:QE X l te):QI X tg l (RD te):=⟨by
 have hl:=hl.h;intro pins s σ H R I h;refine thn (hl pins s σ H _ I h) fun v s1 ⟨y,H1,I1,r1,q1⟩=>?_;obtain⟨x,e,q⟩:=q1;subst e;obtain⟨t,rfl⟩:=r1;refine wpAny_pyIter_strU ?_;refine⟨s1.heap.objs.size,[s1.heap.objs.size],_,_,H1,rfl,I1.kept (t':=s1.toks) fun b o e=>xB _ e,Nc _ x t,⟨_,xL _ rfl,rfl,rfl⟩,fun b hb=>?_,q⟩;have e:b=s1.heap.objs.size:=by simpa using hb
 subst e
 exact I1.fpOk (xH _) (I1.hok.fresh (xH _))⟩
theorem AU{a:Expr}{ta:TA}(hm:X.mg "range" = none)(ha:QA X [a] ta)(hg:nB X "range" .globalImplicit:=by kernel_rfl)(hs:starEach [a] X.env = [(false,eval a X.env)]:=by rfl):QI X tg (.Call (.Name "range" p) [a] [] pos) (Ms ta):=⟨by
 have hg:=(od hg).1;have ha:=ha.h;intro pins s σ H R I h;refine Call_ (Ui I hg hm boot_range (PyProof.Rows.callWith_type1 (thn (ha pos pins s σ H _ I h) fun us s1 ⟨vs,H1,I1,r1,q1⟩=>?_) hs rfl));obtain⟨j,e,q1,q2,q⟩:=q1;subst e;cases r1 with
 | cons r rr =>
  cases rr;obtain⟨t,rfl⟩:=r
  exact call_range_1 (NI I1 (by lia) (by lia) q1 q2 (by simpa using q))⟩
theorem Zb:QA X [] Ud:=⟨fun _ _ _ _ H Q I h=>Calls.spliced_nil ⟨[],H,I,.nil,h⟩⟩
theorem Za{t:TA}(ha:QE X e te)(hr:QA X es t)(hs:starEach (e::es) X.env=(false,eval e X.env)::starEach es X.env:=by rfl):QA X (e::es) (Vs te t):=⟨by
 have ha:=ha.h;have hr:=hr.h;intro pos pins s σ H Q I h;rw[hs];show wpAny _ _ (spliced ((false,eval e X.env)::backTo pos (starEach es X.env))) _ _ s;refine Calls.spliced_cons (thn (ha pins s σ H _ I h) fun u s1 ⟨x,H1,I1,r1,q1⟩=>?_)
 exact thn (hr pos pins s1 σ H1 _ I1 q1) fun us s2 ⟨xs,H2,I2,r2,q2⟩=>⟨x::xs,H2,I2,.cons r1 r2,q2⟩⟩
theorem Vb {x1} {t:TA}(h:QA X es t):QE X (.Tuple es x1 pos) (QU t):=⟨by
 have h:=h.h;intro pins s σ H Q I hq;refine wpAny_Tuple_spliced (thn (h pos pins s σ H _ I hq) fun us s1 ⟨xs,H1,I1,r,z,q⟩=>⟨by rw[← r.length];exact z,?_⟩);have hf:H1 s1.heap.objs.size=none:=I1.hok.fresh (xH _);refine⟨.ref s1.heap.objs.size,upd H1 s1.heap.objs.size (.tup xs),I1.laid (t':=s1.toks) (fun b u e=>xB _ e) (xH _) ?_,rfl,q _ hf⟩
 exact⟨z,us,r,⟨_,xL _ rfl,rfl,_,rfl⟩⟩⟩
theorem Yh{t:TA}(h:QA X es t):QE X (.List es pos) (MO t):=⟨by
 have h:=h.h;intro pins s σ H Q I hq;refine wpAny_List_spliced (thn (h pos pins s σ H _ I hq) fun us s1 ⟨xs,H1,I1,r,z,q⟩=>⟨by rw[← r.length];exact z,?_⟩);have hf:H1 s1.heap.objs.size=none:=I1.hok.fresh (xH _);refine⟨.ref s1.heap.objs.size,upd H1 s1.heap.objs.size (.lst xs),I1.laid (t':=s1.toks) (fun b u e=>xB _ e) (xH _) ?_,rfl,q _ hf⟩
 exact⟨z,us,0,r,xL _ rfl⟩⟩
theorem Vr(ha:QT X a tA):QT X (.UnaryOp .Not a pos) (Ru tA):=⟨by
 have ha:=ha.h;intro pins s σ H Q I h
 exact isTrue_not (ha pins s σ H (fun c H1=>Q (!c) H1) I h)⟩
theorem QW.pt(h:QW X e tA):QT X e tA:=⟨PW.pt h.h⟩
theorem U5(ha:QT X a tA):QW X (.BoolOp .And [a] pos) tA:=⟨by
 have ha:=ha.h;intro wh pins s σ H Q I h;refine isTrue_and (thn (ha pins s σ H Q I h) fun c s1 e=>?_);cases c with
 | true=>exact isTrue_and_nil e
 | false=>exact e⟩
theorem JK(ha:QT X a tA):QW X (.BoolOp .Or [a] pos) tA:=⟨by
 have ha:=ha.h;intro wh pins s σ H Q I h;refine isTrue_or (thn (ha pins s σ H Q I h) fun c s1 e=>?_);cases c with
 | false=>exact isTrue_or_nil e
 | true=>exact e⟩
theorem Uj{rest:List Expr}(ha:QT X a tA)(hb:QW X (.BoolOp .And (b::rest) pos) tB'):QW X (.BoolOp .And (a::b::rest) pos) (Nv tA tB'):=⟨by
 have ha:=ha.h;have hb:=hb.h;intro wh pins s σ H Q I h;refine isTrue_and (thn (ha pins s σ H _ I h) fun c s1 ⟨H1,I1,q1⟩=>?_);cases c with
 | true=>exact hb wh pins s1 σ H1 Q I1 q1
 | false=>exact⟨H1,I1,q1⟩⟩
theorem TX{rest:List Expr}(ha:QT X a tA)(hb:QW X (.BoolOp .Or (b::rest) pos) tB'):QW X (.BoolOp .Or (a::b::rest) pos) (Xr tA tB'):=⟨by
 have ha:=ha.h;have hb:=hb.h;intro wh pins s σ H Q I h;refine isTrue_or (thn (ha pins s σ H _ I h) fun c s1 ⟨H1,I1,q1⟩=>?_);cases c with
 | true=>exact⟨H1,I1,q1⟩
 | false=>exact hb wh pins s1 σ H1 Q I1 q1⟩
theorem Zl(ho:YK X (compareOp op) r)(ha:QE X a ta)(hb:QE X b tb)(hm:behindInMarks op b=false):QT X (.Compare a [op] [b] pos) (By (Jd r ta tb)):=⟨by
 have ho:=ho.h;have ha:=ha.h;have hb:=hb.h;intro pins s σ H Q I h
 refine wpAny_isTrue_Compare1 (thn (ha pins s σ H _ I h) fun v s1 ⟨x,H1,I1,r1,q1⟩=>thn (hb pins s1 σ H1 _ I1 q1) fun u s2 ⟨y,H2,I2,r2,q2⟩=>
  thn (ho pins s2 σ H2 x y v u _ I2 r1 r2 q2) fun c s3 ⟨z,H3,I3,r3,k,e,q3⟩=>?_) hm
 subst e;cases r3
 exact wpAny_truthy_bool ⟨H3,I3,q3⟩⟩
theorem Uk(ho:YK X (compareOp op) r)(ha:QE X a ta)(hb:QE X b tb)(hm:behindInMarks op b=false):QE X (.Compare a [op] [b] pos) (Jd r ta tb):=⟨by
 have ho:=ho.h;have ha:=ha.h;have hb:=hb.h;intro pins s σ H Q I h
 exact wpAny_Compare1 (DN ha hb I h fun v u s2 x y H2 I2 rx ry q=>ho pins s2 σ H2 x y v u Q I2 rx ry q) hm⟩
theorem FV(ho:YK X (compareOp op) r)(ho':YK X (compareOp op') r')(ha:QE X a ta)(hb:QE X b tb)(hc:QE X c tc)(hm:lastMarks [op,op'] [b,c]=false:=by with_unfolding_all rfl):QE X (.Compare a [op,op'] [b,c] pos) (GE r r' ta tb tc):=⟨by
 have ho:=ho.h;have ho':=ho'.h;have ha:=ha.h;have hb:=hb.h;have hc:=hc.h;intro pins s σ H Q I h
 refine Compare_chain (thn (ha pins s σ H _ I h) fun v s1 ⟨x,H1,I1,r1,q1⟩=>chain_link (thn (hb pins s1 σ H1 _ I1 q1) fun u s2 ⟨y,H2,I2,r2,q2⟩=>
  thn (ho pins s2 σ H2 x y v u _ I2 r1 r2 q2) fun d s3 ⟨z,H3,I3,r3,k,e,q3⟩=>?_)) hm
 subst e;cases r3;refine wpAny_truthy_bool ?_;cases k with
 | false=>exact ite_ff ⟨.bl false,H3,I3,rfl,q3⟩
 | true=>exact ite_tt (chain_last (thn (hc pins s3 σ H3 _ I3 q3) fun w' s4 ⟨z',H4,I4,r4,q4⟩=>ho' pins s4 σ H4 y z' u w' Q I4 r2 r4 q4))⟩
theorem Bb(ho:YK X (compareOp op) r)(ho':YK X (compareOp op') r')(ha:QE X a ta)(hb:QE X b tb)(hc:QE X c tc)(hm:lastMarks [op,op'] [b,c]=false:=by with_unfolding_all rfl):QT X (.Compare a [op,op'] [b,c] pos) (By (GE r r' ta tb tc)):=⟨by
 have ho:=ho.h;have ho':=ho'.h;have ha:=ha.h;have hb:=hb.h;have hc:=hc.h;intro pins s σ H Q I h
 refine isTrue_chain (thn (ha pins s σ H _ I h) fun v s1 ⟨x,H1,I1,r1,q1⟩=>test_link (thn (hb pins s1 σ H1 _ I1 q1) fun u s2 ⟨y,H2,I2,r2,q2⟩=>
  thn (ho pins s2 σ H2 x y v u _ I2 r1 r2 q2) fun d s3 ⟨z,H3,I3,r3,k,e,q3⟩=>?_)) hm
 subst e;cases r3;refine wpAny_truthy_bool ?_;cases k with
 | false =>
  obtain⟨k',e',q'⟩:=q3;cases e';exact ite_ff ⟨H3,I3,q'⟩
 | true =>
  refine ite_tt (test_last (thn (hc pins s3 σ H3 _ I3 q3) fun w' s4 ⟨z',H4,I4,r4,q4⟩=>thn (ho' pins s4 σ H4 y z' u w' _ I4 r2 r4 q4) fun d' s5 ⟨z2,H5,I5,r5,k2,e2,q5⟩=>?_));subst e2;cases r5
  exact wpAny_truthy_bool ⟨H5,I5,q5⟩⟩
theorem Vc(h:QE X e te)(he:∀whole,isTrue e X.env whole=(do let v ← whole;standAt e.pos;holding [v] (truthy v)):=by intro _;rfl):QT X e (tB te):=⟨by
 have h:=h.h;intro pins s σ H Q I hw;refine isTrue_plain (thn (h pins s σ H _ I hw) fun v s1 ⟨x,H1,I1,r1,q1⟩=>?_) (he _);obtain⟨d,rfl,q⟩:=q1;cases r1
 exact wpAny_truthy_bool ⟨H1,I1,q⟩⟩
theorem Zf {i j pos}:QE X (.Constant (.int i) j pos) (tC (.int i)):=⟨fun _ _ _ H _ I h=>wpAny_Constant_int ⟨.int i,H,I.tok _,⟨_,rfl⟩,h⟩⟩
theorem Wq {b j pos}:QE X (.Constant (.bool b) j pos) (tC (.bl b)):=⟨fun _ _ _ H _ I h=>Constant_bool ⟨.bl b,H,I,rfl,h⟩⟩
theorem Yi {j pos}:QE X (.Constant .none j pos) (tC .non):=⟨fun _ _ _ H _ I h=>Constant_none ⟨.non,H,I,rfl,h⟩⟩
theorem Zh {x j pos}:QE X (.Constant (.str x) j pos) (tC (.str x)):=⟨fun _ _ _ H _ I h=>Calls.Constant_str ⟨.str x,H,I.tok _,⟨_,rfl⟩,h⟩⟩
theorem qvN(i:Nat)(n:nB X x .local:=by kernel_rfl)(hN:X.N[i]? = some x:=by rfl):QE X (.Name x pos) (YC i):=⟨pvN i (od n) hN⟩
abbrev Q0{X x p}:=@qvN X x p 0
abbrev Q6{X x p}:=@qvN X x p 1
abbrev Q7{X x p}:=@qvN X x p 2
abbrev Q8{X x p}:=@qvN X x p 3
abbrev Q9{X x p}:=@qvN X x p 4
abbrev Qa{X x p}:=@qvN X x p 5
abbrev Qb{X x p}:=@qvN X x p 6
abbrev Qc{X x p}:=@qvN X x p 7
theorem qvC(i:Nat)(n:Nm X.env.scope x .cell)(hN:X.N[i]? = some x:=by rfl):QE X (.Name x pos) (YC i):=⟨C9 hN (.inr (.inl n.1)) n.2.1 n.2.2.1⟩
theorem Yv{v:V}{u:eY}(hm:X.mg x=some u)(r:ZG v u)(n:nB X x .globalImplicit:=by kernel_rfl):QE X (.Name x pos) (tC v):=⟨XT (od n) hm r⟩
theorem Vx{v:V}{u:eY}(hm:X.mg x=none)(hv:bootBuiltins x=some u)(r:ZG v u)(n:nB X x .globalImplicit:=by kernel_rfl):QE X (.Name x pos) (tC v):=⟨Mc (od n) hm hv r⟩
theorem Zr(ho:YK X (binaryOp op) r)(ha:QE X a ta)(hb:QE X b tb):QE X (.BinOp a op b pos) (Jd r ta tb):=⟨by
 have ho:=ho.h;have ha:=ha.h;have hb:=hb.h;intro pins s σ H Q I h
 exact wpAny_BinOp (DN ha hb I h fun v u s2 x y H2 I2 rx ry q=>ho pins s2 σ H2 x y v u Q I2 rx ry q)⟩
theorem GY(ho:GU X (unaryOp op) r)(ha:QE X a ta):QE X (.UnaryOp op a pos) (R7 r ta):=⟨by
 have ho:=ho.h;have ha:=ha.h;intro pins s σ H Q I h
 exact UnaryOp_ (thn (ha pins s σ H _ I h) fun v s1 ⟨x,H1,I1,r1,q1⟩=>ho pins s1 σ H1 x v Q I1 r1 q1)⟩
theorem Pj(ha:QE X a ta):QE X (.UnaryOp .Not a pos) (M5 ta):=⟨by
 have ha:=ha.h;intro pins s σ H Q I h;refine UnaryOp_ (thn (ha pins s σ H _ I h) fun v s1 ⟨x,H1,I1,r1,q1⟩=>?_);obtain⟨c,rfl,q1⟩:=q1;cases r1
 exact not_of (wpAny_truthy_bool ⟨.bl (!c),H1,I1,rfl,q1⟩)⟩
theorem JI {op} (h:QE X a ta):QE X (.BoolOp op [a] pos) ta:=⟨Qr h.h⟩
theorem Az{rest:List Expr}(ha:QE X a ta)(hb:QE X (.BoolOp .And (b::rest) pos) tb):QE X (.BoolOp .And (a::b::rest) pos) (PV ta tb):=⟨by
 have ha:=ha.h;have hb:=hb.h;intro pins s σ H Q I h;refine BoolOp_and (thn (ha pins s σ H _ I h) fun v s1 ⟨x,H1,I1,r1,q1⟩=>?_);obtain⟨c,rfl,q1⟩:=q1;cases r1;refine wpAny_truthy_bool ?_;cases c with
 | true=>exact hb pins s1 σ H1 Q I1 q1
 | false=>exact⟨.bl false,H1,I1,rfl,q1⟩⟩
theorem XO{rest:List Expr}(ha:QE X a ta)(hb:QE X (.BoolOp .Or (b::rest) pos) tb):QE X (.BoolOp .Or (a::b::rest) pos) (Qi ta tb):=⟨by
 have ha:=ha.h;have hb:=hb.h;intro pins s σ H Q I h;refine BoolOp_or (thn (ha pins s σ H _ I h) fun v s1 ⟨x,H1,I1,r1,q1⟩=>?_);obtain⟨c,rfl,q1⟩:=q1;cases r1;refine wpAny_truthy_bool ?_;cases c with
 | false=>exact hb pins s1 σ H1 Q I1 q1
 | true=>exact⟨.bl true,H1,I1,rfl,q1⟩⟩
theorem MN(hc:QT X c tA)(ha:QE X a ta)(hb:QE X b tb):QE X (.IfExp c a b pos) (NR tA ta tb):=⟨by
 have hc:=hc.h;have ha:=ha.h;have hb:=hb.h;intro pins s σ H Q I h;refine wpAny_IfExp (thn (hc pins s σ H _ I h) fun d s1 ⟨H1,I1,q1⟩=>?_);cases d with
 | true=>exact ha pins s1 σ H1 Q I1 q1
 | false=>exact hb pins s1 σ H1 Q I1 q1⟩
theorem Yw:QO X none RY:=⟨by
 intro pins s σ H Q I h;rw[evalPart_none]
 exact wpAny_pure ⟨none,H,I,.none,h⟩⟩
theorem Ym(h:QE X e te):QO X (some e) (XC te):=⟨by
 have h:=h.h;intro pins s σ H Q I hw;rw[evalPart_some];refine thn (h pins s σ H _ I hw) fun u s1 ⟨x,H1,I1,r1,q1⟩=>?_;obtain⟨i,rfl,q⟩:=q1;obtain⟨t,rfl⟩:=r1
 exact⟨some i,H1,I1,.int i t,q⟩⟩
theorem Yq{lo hi:Option Expr}{tl th:TO}{r:V->Option Int->Option Int->Hp->VK->Prop}(hr:CS X r)(he:QE X e te)(hl:QO X lo tl)(hu:QO X hi th):QE X (.Subscript e (.Slice lo hi none p2) pos) (eE r te tl th):=⟨by
 have hr:=hr.h;have he:=he.h;have hl:=hl.h;have hu:=hu.h;intro pins s σ H Q I h;refine Subscript_ (thn (he pins s σ H _ I h) fun v s1 ⟨x,H1,I1,r1,q1⟩=>?_);refine wpAny_Slice (thn (hl pins s1 σ H1 _ I1 q1) fun vl s2 ⟨l,H2,I2,pl,q2⟩=>thn (hu pins s2 σ H2 _ I2 q2) fun vu s3 ⟨u,H3,I3,pu,q3⟩=>?_);rw[evalPart_none];refine wpAny_pure ?_;have I4:ZD X pins σ H3 {s3 with heap:=s3.heap.push {cls:=.type "slice", data:=.fields #[vl,vu,.none] } }:=I3.kept (t':=s3.toks) fun b ob q=>xB _ q;obtain⟨T,id,hT,ht,hg⟩:=hr pins {s3 with heap:=s3.heap.push {cls:=.type "slice", data:=.fields #[vl,vu,.none] } } σ H3 x v vl vu l u s3.heap.objs.size Q I4 r1 (Heap.IsSliceOf.new ..) pl pu q3;show wpAny (model X.prog X.w) X.A (subscriptTail e (.Slice lo hi none p2) v (.ref s3.heap.objs.size)) (EP X pins σ Q) X.xe {s3 with heap:=s3.heap.push {cls:=.type "slice", data:=.fields #[vl,vu,.none] } }
 exact tail_any (ops:=[.ref s3.heap.objs.size,v]) ht hT hg (by with_unfolding_all rfl)⟩
theorem Zq(hr:Be X r)(ha:QE X a ta)(hb:QE X b tb)(hs:bZ b):QE X (.Subscript a b pos) (Jd r ta tb):=⟨by
 have hr:=hr.h;have ha:=ha.h;have hb:=hb.h;intro pins s σ H Q I h
 exact Subscript_ (DN ha hb I h fun v u s2 x y H2 I2 rx ry q=>hr a b pins s2 σ H2 x y v u Q I2 rx ry q (hs _ _))⟩
theorem Zs{k:Nat}{ps:eS}{sp:Sp}{t:TA}(F:Fn X.prog X.w X.K X.mg X.base x ps k sp)(ha:QA X (e::es) t)(hr:ZJ k X.A:=by exact ZJ.mono (by assumption) (by first | decide | lia))(n:nB X x .globalImplicit:=by kernel_rfl)(he:starEach (e::es) X.env=(false,eval e X.env)::starEach es X.env:=by rfl)(hpl:(backTo pos (starEach es X.env)).any (·.1)=false:=by rfl) :
  QE X (.Call (.Name x p) (e::es) [] pos) (Jl sp t):=⟨Pi F hr (od n) ha.h he hpl⟩
theorem Zx{t:TA}{id:String}{r:List V->Hp->VK->Prop}(hc:QC X (.builtin id) r)(hm:X.mg x=none)(hv:bootBuiltins x=some (.builtin id))(ha:QA X (e::es) t)(n:nB X x .globalImplicit:=by kernel_rfl)(he:starEach (e::es) X.env=(false,eval e X.env)::starEach es X.env:=by rfl)(hpl:(backTo pos (starEach es X.env)).any (·.1)=false:=by rfl):QE X (.Call (.Name x p) (e::es) [] pos) (Ay r t):=⟨Rt hc.h (od n) hm hv ha.h he hpl⟩
theorem Vy{t:TA}{T:String}{r:List V->Hp->VK->Prop}(hc:QC X (.type T) r)(hm:X.mg x=none)(hv:bootBuiltins x=some (.type T))(ha:QA X (e::es) t)(n:nB X x .globalImplicit:=by kernel_rfl)(he:starEach (e::es) X.env=(false,eval e X.env)::starEach es X.env:=by rfl)(hpl:(backTo pos (starEach es X.env)).any (·.1)=false:=by rfl):QE X (.Call (.Name x p) (e::es) [] pos) (Ay r t):=⟨cU hc.h (od n) hm hv ha.h he hpl⟩
theorem Y6{o:Expr}{to:TE}{t:TA}{name:Str}{apos cpos:Pos}{T id:String}{r:V->List V->Hp->VK->Prop}(pa:PlainAttrs T)(slot:Slot T name id)(hty:typeOf (.builtin id)=pure (.type "method_descriptor"))(hm:QM X id r)(ho:QE X o to)(ha:QA X (e::es) t)(hbase:attributeBase o name X.env (eval o X.env)=eval o X.env:=by rfl)(hfew:((backTo cpos (starEach (e::es) X.env)).all (fun x=>!x.1) && (backToKw cpos (keywordEach [] X.env)).all (fun x=>x.1.isSome)
   && decide ((e::es).length+([]:List Keyword).length+(if ([]:List Keyword).isEmpty then 0 else 1) < 30))=true:=by rfl)(hline:(apos.endLine == cpos.line)=true:=by rfl)(hs:starEach (e::es) X.env=(false,eval e X.env)::starEach es X.env:=by rfl)(hplain:(backTo cpos (starEach es X.env)).any (·.1)=false:=by rfl) :
  QE X (.Call (.Attribute o name apos) (e::es) [] cpos) (DD X.K T r to t):=⟨by
 have hm:=hm.h;have ho:=ho.h;have ha:=ha.h;intro pins s σ H Q I h;refine wpAny_Call_method_late hbase hfew hline rfl (thn (ho pins s σ H _ I h) fun v s1 ⟨x,H1,I1,r1,ty,q1⟩=>?_);obtain⟨h1,h2⟩:=FN I1 r1 ty;refine⟨T,id,pa,slot,hty,h1,h2,?_⟩;have hA:=ha cpos pins s1 σ H1 _ I1 q1;rw[hs] at hA ⊢;refine Calls.callWith_builtin (by show (false || (backTo cpos (starEach es X.env)).any (·.1))=false;rw[hplain]<;>rfl) (Calls.evalArgs_plain ?_)
 exact thn hA fun us s2 ⟨vs,H2,I2,r2,q2⟩=>hm pins s2 σ H2 x vs v us Q I2 r1 r2 q2⟩
theorem Wb:YK X (binaryOp .Add) (Jf fun i j=>.int (i+j)):=⟨Kr fun _ _ _ _ _ _ _ q=>add_int q⟩
theorem BJ:YK X (binaryOp .Sub) (Jf fun i j=>.int (i - j)):=⟨Kr fun _ _ _ _ _ _ _ q=>sub_int q⟩
theorem Lh:YK X (binaryOp .Mult) (rI TQ fun i j=>.int (i * j)):=⟨opI fun _ _ _ _ _ _ _ hc q=>mul_int q hc.ok⟩
theorem Fh:YK X (binaryOp .FloorDiv) (rI Gd fun i j=>.int (i / j)):=⟨opI fun i j _ _ _ _ _ hc q=>by
 have h1:(0:Int) < j:=hc.1;have h2:j < 1073741824:=hc.2
 exact floordiv_int (by lia) (by rw[Int.fdiv_eq_ediv_of_nonneg i (by lia)];exact q) (.inl (PyProof.noPylong_small (by lia)))⟩
theorem AL:YK X (binaryOp .Mod) (rI (fun _ j=>0 < j) fun i j=>.int (i % j)):=⟨opI fun i j _ _ _ _ _ hc q=>by
 have h1:(0:Int) < j:=hc
 exact mod_int' (by lia) (by rw[Int.fmod_eq_emod_of_nonneg i (by lia)];exact q)⟩
theorem cI:YK X (binaryOp .Pow) (rI IT fun i j=>.int (i ^ j.toNat)):=⟨opI fun _ _ _ _ _ _ _ hc q=>pow_int_small hc.1 hc.2.1 hc.2.2 q⟩
theorem HD:GU X (unaryOp .USub) (rU fun i=>.int (-i)):=⟨by
 intro pins s σ H x v Q I rx h;obtain⟨i,rfl,q⟩:=h;obtain⟨t,rfl⟩:=rx
 exact neg_int ⟨.int (-i),H,I.tok _,⟨_,rfl⟩,q⟩⟩
def Pu(g:Str->Str->V):R2:=fun x y H Q=>∃i j,x = .str i/\y = .str j/\Q (g i j) H
theorem J3:YK X (compareOp .LtE) (Pu fun i j=>.bl (!decide (j.cps.toList < i.cps.toList))):=⟨by
 intro pins s σ H x y v u Q I rx ry h;obtain⟨i,j,rfl,rfl,q⟩:=h;obtain⟨t,rfl⟩:=rx;obtain⟨t',rfl⟩:=ry
 exact P.le_str ⟨.bl _,H,I,rfl,q⟩⟩
def Ng:R2:=fun x y H Q=>∃i j,x = .str i/\y = .str j/\i.length+j.length<=sizeLine/\Q (.str (i++j)) H
theorem We:YK X (binaryOp .Add) Ng:=⟨by
 intro pins s σ H x y v u Q I rx ry h;obtain⟨i,j,rfl,rfl,hz,q⟩:=h;obtain⟨t,rfl⟩:=rx;obtain⟨t',rfl⟩:=ry
 exact add_str (fun t' tk=>⟨.str (i++j),H,I.tok _,⟨_,rfl⟩,q⟩) hz⟩
theorem Wr:YK X (binaryOp .Add) FT:=⟨by
 intro pins s σ H x y v u Q I rx ry h;obtain⟨l,b,xs,zs,rfl,rfl,hH,hB,hz,q⟩:=h;cases rx;cases ry;obtain⟨z,its,n,r,hl,e⟩:=I.lstM hH;obtain⟨z2,its2,n2,r2,hl2,e2⟩:=I.lstM hB;refine PySem.P.add_list e e2 ?_ (by rw[xV,xV];lia);have ea:its.toArray++its2.toArray=(its++its2).toArray:=by simp
 rw[ea]
 exact⟨.ref _,_,I.lnew (t':=s.toks) (r.append r2) (by rw[xD];lia),rfl,q _ I.fresh⟩⟩
theorem Qo:YK X (binaryOp .Mult) FP:=⟨by
 intro pins s σ H x y v u Q I rx ry h;obtain⟨l,k,xs,rfl,rfl,hH,h1,h2,hz,q⟩:=h;cases rx;obtain⟨t,rfl⟩:=ry;obtain⟨z,its,n,r,hl,e⟩:=I.lstM hH;have hlen:its.toArray.size * k.toNat<=sizeLine:=by rw[xV,← hl];exact hz
 have hcap:¬its.toArray.size * k.toNat > (2 ^ 63 - 1) / 8:=by
  have:(sizeLine:Nat)<=(2 ^ 63 - 1) / 8:=by decide
  lia
 have hfit:¬(!Builtin.List.listFitsIndex k)=true:=by
  rw[fitsIndex_both h1 h2];exact xR
 have hlong:¬Builtin.List.listTooLong (its.toArray.size * k.toNat)=true:=by
  rw[cN hlen];exact xR
 have hnew:List.foldl (fun x1 x2=>x1++x2) #[] (List.replicate (if its.toArray.isEmpty=true then 0 else k.toNat) its.toArray)=(List.replicate k.toNat its).flatten.toArray:=by
  have f0:∀m:Nat,List.foldl (fun x1 x2=>x1++x2) #[] (List.replicate m its.toArray)=(List.replicate m its).flatten.toArray:=fun m=>by
   have:=HW its m [];rw[zT] at this;exact this
  rw[f0];cases its with
  | nil=>simp
  | cons a r'=>rw[if_neg (by simp)]
 refine wpAny_binaryOp_repeat_ref (T:="list") (U:="int") aA ⟨_,e,rfl⟩ (fun s'=>typeIs_int s' k t) noFill_list_mul F.fills_int_mul F.slot_int_rmul repeat_list F.slot_int_index.lookup
  (call_meets F.slot_int_rmul (typeIs_int s k t) F.entry_int_rmul (F.args_int_rmul_2 _ _) (int___rmul___int_list k t l its.toArray n)
   ⟨e,rfl,⟨_,e,rfl⟩,call_meets F.slot_list_mul ⟨_,e,rfl⟩ F.entry_list_mul (F.args_list_mul_2 _ _) (AutoListH.list___mul___list_int_3 l its.toArray n k t hfit hcap hlong) ⟨e,?_⟩⟩)
 rw[hnew]
 exact⟨.ref _,_,I.lnew (t':=s.toks) (r.rep k.toNat) (by rw[MK,Nat.mul_comm];exact hz),rfl,q _ I.fresh⟩⟩
theorem Yc:YK X (compareOp .Eq) Dj:=⟨by
 intro pins s σ H x y v u Q I rx ry h;obtain⟨hs,q⟩:=h;cases x with
 | non =>
  cases rx;cases y with
  | non=>cases ry;exact PySem.EqNone.eq_none_none (Yk I q (by simp))
  | bl j=>cases ry;exact PySem.EqNone.eq_none_bool (Yk I q (by simp))
  | int j=>obtain⟨t',rfl⟩:=ry;exact PySem.EqNone.eq_none_int (Yk I q (by simp))
  | str j=>obtain⟨t',rfl⟩:=ry;exact PySem.EqNone.eq_none_str (Yk I q (by simp))
  | _=>exact absurd (show false=true from hs) xR
 | bl i =>
  cases rx;cases y with
  | non=>cases ry;exact PySem.EqNone.eq_bool_none (Yk I q (by simp))
  | bl j=>cases ry;exact eq_bool (Yk I q Lj)
  | str j=>obtain⟨t',rfl⟩:=ry;exact PySem.EqMixed.eq_bool_str (Yk I q (by simp))
  | _=>exact absurd (show false=true from hs) xR
 | int i =>
  obtain⟨t,rfl⟩:=rx;cases y with
  | non=>cases ry;exact PySem.EqNone.eq_int_none (Yk I q (by simp))
  | int j=>obtain⟨t',rfl⟩:=ry;exact eq_int (Yk I q LA)
  | str j=>obtain⟨t',rfl⟩:=ry;exact PySem.EqMixed.eq_int_str (Yk I q (by simp))
  | _=>exact absurd (show false=true from hs) xR
 | str i =>
  obtain⟨t,rfl⟩:=rx;cases y with
  | non=>cases ry;exact PySem.EqNone.eq_str_none (Yk I q (by simp))
  | bl j=>cases ry;exact PySem.EqMixed.eq_str_bool (Yk I q (by simp))
  | int j=>obtain⟨t',rfl⟩:=ry;exact PySem.EqMixed.eq_str_int (Yk I q (by simp))
  | str j=>obtain⟨t',rfl⟩:=ry;exact eq_str (Yk I q Hd)
  | _=>exact absurd (show false=true from hs) xR
 | byt i =>
  obtain⟨t,rfl⟩:=rx;cases y with
  | byt j=>obtain⟨t',rfl⟩:=ry;exact PySem.W.eq_bytes (Yk I q FZ)
  | _=>exact absurd (show false=true from hs) xR
 | _=>cases y<;>exact absurd (show false=true from hs) xR⟩
theorem TH:YK X (compareOp .NotEq) Pp:=⟨by
 intro pins s σ H x y v u Q I rx ry h;obtain⟨hs,q⟩:=h;cases x with
 | non =>
  cases rx;cases y with
  | non=>cases ry;exact PySem.EqNone.ne_none_none (Yk I q (by simp))
  | bl j=>cases ry;exact PySem.EqNone.ne_none_bool (Yk I q (by simp))
  | int j=>obtain⟨t',rfl⟩:=ry;exact PySem.EqNone.ne_none_int (Yk I q (by simp))
  | str j=>obtain⟨t',rfl⟩:=ry;exact PySem.EqNone.ne_none_str (Yk I q (by simp))
  | _=>exact absurd (show false=true from hs) xR
 | bl i =>
  cases rx;cases y with
  | non=>cases ry;exact PySem.EqNone.ne_bool_none (Yk I q (by simp))
  | bl j=>cases ry;exact ne_bool (Yk I q (congrArg not Lj))
  | str j=>obtain⟨t',rfl⟩:=ry;exact PySem.EqMixed.ne_bool_str (Yk I q (by simp))
  | _=>exact absurd (show false=true from hs) xR
 | int i =>
  obtain⟨t,rfl⟩:=rx;cases y with
  | non=>cases ry;exact PySem.EqNone.ne_int_none (Yk I q (by simp))
  | int j=>obtain⟨t',rfl⟩:=ry;exact ne_int (Yk I q (congrArg not LA))
  | str j=>obtain⟨t',rfl⟩:=ry;exact PySem.EqMixed.ne_int_str (Yk I q (by simp))
  | _=>exact absurd (show false=true from hs) xR
 | str i =>
  obtain⟨t,rfl⟩:=rx;cases y with
  | non=>cases ry;exact PySem.EqNone.ne_str_none (Yk I q (by simp))
  | bl j=>cases ry;exact PySem.EqMixed.ne_str_bool (Yk I q (by simp))
  | int j=>obtain⟨t',rfl⟩:=ry;exact PySem.EqMixed.ne_str_int (Yk I q (by simp))
  | str j=>obtain⟨t',rfl⟩:=ry;exact ne_str (Yk I q (congrArg not Hd))
  | _=>exact absurd (show false=true from hs) xR
 | byt i =>
  obtain⟨t,rfl⟩:=rx;cases y with
  | byt j=>obtain⟨t',rfl⟩:=ry;exact PySem.W.ne_bytes (Yk I q (congrArg not FZ))
  | _=>exact absurd (show false=true from hs) xR
 | _=>cases y<;>exact absurd (show false=true from hs) xR⟩
theorem Ua:YK X (compareOp .Lt) (Jf fun i j=>.bl (decide (i < j))):=⟨CK fun _ _ _ _ _ _ _ q=>lt_int q⟩
theorem Vm:YK X (compareOp .LtE) (Jf fun i j=>.bl (decide (i<=j))):=⟨CK fun _ _ _ _ _ _ _ q=>le_int q⟩
theorem BB:YK X (compareOp .Gt) (Jf fun i j=>.bl (decide (j < i))):=⟨CK fun _ _ _ _ _ _ _ q=>gt_int q⟩
theorem As:YK X (compareOp .GtE) (Jf fun i j=>.bl (decide (j<=i))):=⟨CK fun _ _ _ _ _ _ _ q=>ge_int q⟩
def Pn:R2:=fun x y H Q=>y = .non/\Q (.bl (decide (x = .non))) H
def NL:R2:=fun x y H Q=>y = .non/\Q (.bl (!decide (x = .non))) H
theorem BN:YK X (compareOp .Is) Pn:=⟨by
 intro pins s σ H x y v u Q I rx ry h;obtain⟨rfl,q⟩:=h;cases ry;refine is_none_gen (Yk I q ?_);cases x<;>first
  | (cases rx;rfl)
  | (obtain⟨t,rfl⟩:=rx;rfl)⟩
theorem Ad:YK X (compareOp .IsNot) NL:=⟨by
 intro pins s σ H x y v u Q I rx ry h;obtain⟨rfl,q⟩:=h;cases ry;refine isnot_none_gen (Yk I q ?_);cases x<;>first
  | (cases rx;rfl)
  | (obtain⟨t,rfl⟩:=rx;rfl)⟩
theorem Dp:YK X (compareOp .NotIn) (IQ X.K true):=⟨Nn⟩
theorem Z3:Be X (JN X.K):=⟨IK⟩
theorem Ys:Be X (JG X.K):=⟨Oq⟩
theorem JL:Be X BU:=⟨MI⟩
theorem Ws:CS X (BI X.K):=⟨MM⟩
theorem Ol:CS X (El X.K):=⟨by
 intro pins s σ H x v vl vu lo hi sl Q I rx hs pl pu h;obtain⟨a,xs,rfl,hx,hw,q⟩:=h;cases rx;obtain⟨its,r,ht,hz⟩:=I.tuple hx;have hlen:its.toArray.size=xs.length:=by rw[xV];exact r.length.symm
 refine⟨"tuple", _,PyProof.Rows.slot_tuple_getitem.lookup,ht.typeIs,?_⟩;refine HT.getItem_tuple_cut ht hs pl pu (by rw[hlen];exact hw) ?_ (by rw[hlen];exact hz);rw[hlen];refine⟨.ref s.heap.objs.size,_,I.laid (t':=s.toks) (o:=.tup (Yl xs lo hi)) (fun b ob q=>xB _ q) (xH _) ?_,rfl,q _ (I.hok.fresh (xH _))⟩
 exact⟨yK (KA xs lo hi) hz,_,(r.drop (HT.sIx xs.length 0 lo)).take (HT.sIx xs.length xs.length hi - HT.sIx xs.length 0 lo),IsTup.new _ _⟩⟩
def P6:V->Option Int->Option Int->Hp->VK->Prop:=fun x lo hi H Q=>∃z,x = .str z/\z.length<=sizeLine/\Q (.str (Txt.slice z lo hi)) H
theorem Ul:CS X P6:=⟨by
 intro pins s σ H x v vl vu lo hi sl Q I rx hs pl pu h;obtain⟨z,rfl,hz,q⟩:=h;obtain⟨t,rfl⟩:=rx;obtain⟨l,rfl,rfl⟩:=Iy pl;obtain⟨u,rfl,rfl⟩:=Iy pu;refine⟨"str", _,F.slot_str_getitem.lookup,typeIs_str _ _ _,?_⟩;refine wpAny_getItem_str_slice (l:=l) (u:=u) (st:=none) hs rfl (post_val_or_str ⟨yK (Txt.slice_le z _ _) hz,fun t' k=>?_⟩)
 exact⟨.str _,H,I.tok _,⟨t',rfl⟩,q⟩⟩
inductive UG(K:uFg)(xs:aG)(H:Hp)(Q:VK):Prop
 |mk(p ys)(_:xs = [.ref p])(_:(ZF K H p ys\/ZT K H p ys))(_:Q (.int ys.length) H)
theorem Yx:QC X (.builtin "len") (UG X.K):=.imp ⟨Ih⟩ fun _ _ _ ⟨p,y,a,b,k⟩=>⟨p,y,a,b,k⟩
def Xj:List V->Hp->VK->Prop:=fun xs H Q=>∃z,xs = [.str z]/\z.length<=sizeLine/\Q (.int z.length) H
theorem Ue:QC X (.builtin "len") Xj:=⟨by
 intro pins s σ H xs us Q I r h;obtain⟨z,rfl,hz,q⟩:=h;obtain⟨u,rfl,t,rfl⟩:=Vg r;have hn:=Ba
 exact len_str (by lia) ⟨.int z.length,H,I.tok _,⟨_,rfl⟩,q⟩⟩
def bS:List V->Hp->VK->Prop:=fun xs H Q=>∃i j,xs = [.int i,.int j]/\Q (.int (if j > i then j else i)) H
theorem Pb(hc:X.calm=true):QC X (.builtin "max") bS:=⟨by
 intro pins s σ H xs us Q I r h;obtain⟨i,j,rfl,q⟩:=h;obtain⟨u,w',rfl,⟨t,rfl⟩,⟨t',rfl⟩⟩:=BW r;refine max_two_ints (I.ok.hd hc) fun h' tk k=>⟨_,H,I.kept k,?_,q⟩
 by_cases hj:j > i
 ·rw[if_pos hj,if_pos hj];exact⟨_,rfl⟩
 ·rw[if_neg hj,if_neg hj];exact⟨_,rfl⟩⟩
def cB(K:uFg):List V->Hp->VK->Prop:=fun xs H Q=>∃(a:eZ)(bs:List Bool),xs = [.ref a]/\ZF K H a (bs.map V.bl)/\Q (.bl (bs.all id)) H
theorem Ga(hc:X.calm=true):QC X (.builtin "all") (cB X.K):=⟨by
 intro pins s σ H xs us Q I r h;obtain⟨a,bs,rfl,ha,q⟩:=h;obtain⟨u,rfl,ru⟩:=Vg r;cases ru;obtain⟨its,rv,p,_⟩:=I.list ha;have hlt:a < s.heap.objs.size:=by obtain⟨o,n,e,_⟩:=p;exact xP e
 refine call_all_walk (wpAny_pyIter_list p.isList ?_);refine⟨s.heap.objs.size,_,_,_,_,_,fun i=>bs.getD i true,rfl,Walks.list (A:=X.A.in1) (I.ok.hd hc) _ a (yJ hlt) its.toArray,⟨⟨_,xL _ rfl,rfl,rfl⟩,p.isList.push _⟩,?_,fun h' tk hk=>?_⟩
 ·intro i v s' Q' E' hv hq;have hv:its.toArray[i]? = some v:=hv;have hv':its[i]? = some v:=by simpa using hv
  have hlen:bs.length=its.length:=by have:=rv.length;simpa using this
  have hi:i < its.length:=(xY.mp hv').1;have hb:(bs.map V.bl)[i]? = some (V.bl (bs.getD i true)):=by grind
  obtain⟨u,hu,ru⟩:=rv.get hb;rw[hv'] at hu;cases hu;cases ru;exact wpAny_truthy_bool hq
 ·have hlen:its.toArray.size=bs.length:=by have:=rv.length;simp at this ⊢;lia
  have e:(List.range its.toArray.size).all (fun i=>bs.getD i true)=bs.all id:=by
   rw[hlen,zF,yW,yW];constructor
   ·intro h b hb;obtain⟨i,hi,e⟩:=List.mem_iff_getElem.mp hb;have:=h i (List.mem_range.mpr hi);rw[yR,xE hi,e] at this;exact this
   ·intro h i hi;have hi:=List.mem_range.mp hi;rw[yR,xE hi];exact h _ (yY hi)
  refine⟨.bl (bs.all id),H,I.kept (h':=h') (t':=tk) (fun b o eb=>hk b o ?_ (xB _ eb)),by rw[e];rfl,q⟩;intro z;have:b=s.heap.objs.size:=by simpa using z
  exact absurd (xP eb) (by rw[this];exact zQ _)⟩
def OH(K:uFg):List V->Hp->VK->Prop:=fun xs H Q=>∃(a:eZ)(ns:List Int),xs = [.ref a]/\ZF K H a (ns.map V.int)/\(∀n∈ns,-1000000000<=n/\n<=1000000000)/\ns.length<=1000000/\Q (.int ns.sum) H
theorem Gn(hc:X.calm=true):QC X (.builtin "sum") (OH X.K):=⟨by
 intro pins s σ H xs us Q I r h;obtain⟨a,ns,rfl,ha,hb,hl,q⟩:=h;obtain⟨u,rfl,ru⟩:=Vg r;cases ru;obtain⟨its,rv,p,_⟩:=I.list ha;have hlt:a < s.heap.objs.size:=by obtain⟨o,n,e,_⟩:=p;exact xP e
 have hlen:ns.length=its.length:=by have:=rv.length;simpa using this
 have hpre:∀k,k<=ns.length->preSum (fun i=>ns.getD i 0) k=(ns.take k).sum:=by
  intro k
  induction k with
  | zero=>intro _;simp[preSum]
  | succ k ih =>
   intro hk;have hk':k < ns.length:=hk;rw[preSum,ih (yX hk'),yD,List.sum_append,yR,xE hk'];simp
 have bnd:∀l:List Int,(∀n∈l,-1000000000<=n/\n<=1000000000)->-1000000000 * (l.length:Int)<=l.sum/\l.sum<=1000000000 * (l.length:Int):=by
  intro l
  induction l with
  | nil=>intro _;simp
  | cons x l ih =>
   intro h;have h1:=h x xQ;have h2:=ih fun n hn=>h n (xG _ hn);rw[List.sum_cons,xF];lia
 refine call_sum_walk (wpAny_pyIter_list p.isList ?_);refine⟨s.heap.objs.size,_,_,_,_,_,fun i=>ns.getD i 0,rfl,Walks.list (A:=X.A.in1) (I.ok.hd hc) _ a (yJ hlt) its.toArray,⟨⟨_,xL _ rfl,rfl,rfl⟩,p.isList.push _⟩,?_,?_,?_,fun h' tk t' hk=>?_⟩
 ·intro b hb;show b < (s.heap.push _).objs.size;rw[yN];rcases xC.mp hb with rfl | hb
  ·exact wF _
  ·have:b=a:=by simpa using hb
   subst this;exact Nat.lt_succ_of_lt hlt
 ·intro i v hv;have hv:its.toArray[i]? = some v:=hv;have hv':its[i]? = some v:=by simpa using hv
  have hi:i < its.length:=(xY.mp hv').1;have hb:(ns.map V.int)[i]? = some (V.int (ns.getD i 0)):=by grind
  obtain⟨u,hu,ru⟩:=rv.get hb;rw[hv'] at hu;cases hu;exact ru
 ·intro j hj;have hj:j < its.toArray.size:=hj;rw[xV] at hj;have hj':j < ns.length:=by lia
  refine⟨?_,?_⟩
  ·show InLong (ns.getD j 0);rw[yR,xE hj'];have:=hb _ (yY hj');show -(2 ^ 63)<=ns[j]/\ns[j] < 2 ^ 63;lia
  ·rw[hpre (j+1) hj'];have:=bnd (ns.take (j+1)) fun n hn=>hb n (zO hn);have hl2:(ns.take (j+1)).length<=1000000:=by rw[xU];lia
   show -(2 ^ 63)<=_/\_ < 2 ^ 63;lia
 ·have e:preSum (fun i=>ns.getD i 0) its.toArray.size=ns.sum:=by
   rw[xV,← hlen,hpre _ (xH _),yI]
  refine⟨.int ns.sum,H,I.kept (h':=h') (t':=tk) (fun b o eb=>hk b o ?_ (xB _ eb)),⟨t',by rw[e]⟩,q⟩;intro z;have:b=s.heap.objs.size:=by simpa using z
  exact absurd (xP eb) (by rw[this];exact zQ _)⟩
def GT(K:uFg):List V->Hp->VK->Prop:=fun xs H Q=>∃x n t b,xs = [x,.ty n]/\YO K H x t/\PySem.W.kitOne K t (.type n)=some b/\Q (.bl b) H
theorem Uf:QC X (.builtin "isinstance") (GT X.K):=⟨Kc⟩
inductive UO(K:uFg)(xs:aG)(H:Hp)(Q:VK):Prop
 |mk(p ys)(_:xs = [.ref p])(_:(ZF K H p ys\/ZT K H p ys))(_:∀l,H l=none->Q (.ref l) (upd H l (.lst ys)))
theorem DS:QC X (.type "list") (UO X.K):=.imp ⟨Lq⟩ fun _ _ _ ⟨p,y,a,b,k⟩=>⟨p,y,a,b,k⟩
def IH(K:uFg):V->List V->Hp->VK->Prop:=fun x xs H Q=>∃sep a ys,x = .str sep/\xs = [.ref a]/\ZF K H a (ys.map V.str)/\(ys.map (·.length)).sum+ys.length * sep.length<=16777216/\Q (.str (Txt.join sep ys)) H
theorem CC:QM X "str.join" (IH X.K):=⟨by
 intro pins s σ H x xs v us Q I rx rs h;obtain⟨sep,a,ys,rfl,rfl,ha,hz,q⟩:=h;obtain⟨t,rfl⟩:=rx;obtain⟨u,rfl,ru⟩:=Vg rs;cases ru;obtain⟨its,r,p,_⟩:=I.list ha
 exact join_list p.isList (Ma r) hz fun t' k=>⟨.str _,H,I.tok _,⟨t',rfl⟩,q⟩⟩
theorem Ug:QM X "list.append" WR:=⟨by
 intro pins s σ H x vs v us Q I rx rv h;obtain⟨l,xs,y,rfl,rfl,hH,hz,q⟩:=h;cases rx;obtain⟨u,rfl,ru⟩:=rv.one;obtain⟨z,its,n,r,hl,e⟩:=I.lstM hH;refine call_meets aE ⟨_,e,rfl⟩ F.entry_list_append (F.args_list_append_2 _ _) (PySem.list_append l its.toArray n u (by rw[xV];lia)) ⟨e,?_⟩;refine⟨.non,_,I.lset (its':=its ++ [u]) hH e (by simp) (r.append (.cons ru .nil)) ?_,rfl,q⟩;rw[xD,yL]
 lia⟩
end
theorem Du{lo:Int}{n:Nat}(m:Nat)(hm:n=m)(Pv:Nat->St->Hp->Prop)(h0:Pv 0 σ H)(hs:∀i σ H,i < m->Pv i σ H->g (.int (lo+i)) σ H fun σ2 H2=>tb {D with nx:=Pv (i+1),ct:=Pv (i+1),bk:=D.nx } σ2 H2)(hd:∀ σ H,Pv m σ H->D.nx σ H):TZ (Jw lo n) g tb D σ H:=by
 subst hm;exact Xm Pv h0 hs hd
theorem Af{K:uFg}{a:eZ}(xs:aG)(Pv:Nat->St->Hp->Prop)(h0:Pv 0 σ H)(hl:∀i σ H,i<=xs.length->Pv i σ H->ZF K H a xs)(hs:∀i x σ H,xs[i]? = some x->Pv i σ H->g x σ H fun σ2 H2=>tb {D with nx:=Pv (i+1),ct:=Pv (i+1),bk:=D.nx } σ2 H2)(hd:∀ σ H,Pv xs.length σ H->D.nx σ H):TZ (TR K a) g tb D σ H:=RK Pv h0 hl hs hd
theorem Xw{K:uFg}{a:eZ}(xs:aG)(Pv:Nat->St->Hp->Prop)(h0:Pv 0 σ H)(hl:∀i σ H,i<=xs.length->Pv i σ H->ZT K H a xs)(hs:∀i x σ H,xs[i]? = some x->Pv i σ H->g x σ H fun σ2 H2=>tb {D with nx:=Pv (i+1),ct:=Pv (i+1),bk:=D.nx } σ2 H2)(hd:∀ σ H,Pv xs.length σ H->D.nx σ H):TZ (An K a) g tb D σ H:=cT Pv h0 hl hs hd
theorem CY(Pv:Nat->St->Hp->Prop)(h0:Pv 0 σ H)(hs:∀i σ H,i < x.length->Pv i σ H->g (sgn x i) σ H fun σ2 H2=>tb {D with nx:=Pv (i+1),ct:=Pv (i+1),bk:=D.nx } σ2 H2)(hd:∀ σ H,Pv x.length σ H->D.nx σ H):TZ (JS x) g tb D σ H:=Sn Pv h0 hs hd
section
variable{X:Cx}{tg elt iter:Expr}{ifs:List Expr}{scope:Scope}{pos:Pos}{locs:eS}{fr:List (Str×Nat)}{g:TG}{tt:VR}{te:TE}
theorem Vn:CN X [] (fun _ H Q=>Q true H):=⟨fun _ _ _ H _ I h=>wpAny_tests_nil ⟨H,I,h⟩⟩
theorem Im(h:QT X c t):CN X [c] t:=⟨Sm h.h⟩
structure KO (X:Cx) (scope:Scope) (N':eS) (tg:Expr) (ifs:List Expr) (elt:Expr) (g:TG) (tt:VR) (te:TE):Prop where
 h:∀(cl:List (Str×eZ))(C:eZ)(s0:eX)(H0:Hp)(ex:eW)(pn:List (eZ×Obj)),QG (ccx X scope cl C N' s0 H0 ex pn) tg g/\CN (ccx X scope cl C N' s0 H0 ex pn) ifs tt/\QE (ccx X scope cl C N' s0 H0 ex pn) elt te
theorem Uh{wi:TI}(S:YM X scope locs fr)(F:YL X scope fr)(hc:X.calm=true)(hi:QI X tg iter wi)(inner:KO X scope (inN locs fr) tg ifs elt g tt te)(hs:∀x,foldedSetIterable iter X.env x=pure x:=by intro _;rfl):QE X (.ListComp elt [⟨tg,iter,ifs,0⟩] scope pos) (Dg locs.length fr wi g tt te) :=
 ⟨OT S F hc hi.h (fun cl C s0 H0 ex pn=>let ⟨a,b,c⟩:=inner.h cl C s0 H0 ex pn;⟨a.h,b.h,c.h⟩) hs⟩
theorem Ed{wi:TI}{i:Nat}{x:Str}{pos' spos:Pos}(S:YM X scope locs fr)(F:YL X scope fr)(hc:X.calm=true)(hi:QI X tg iter wi)(inner:KO X scope (inN locs fr) tg ifs elt g tt te)(hN:X.N.Nodup)(n:Nm X.env.scope x .local)(hsw:swapsWith (.ListComp elt [⟨tg,iter,ifs,0⟩] scope pos) (some (.Name x pos')) spos.line X.env=pure true)(hi0:X.N[i]? = some x:=by rfl)(hs:∀x,foldedSetIterable iter X.env x=pure x:=by intro _;rfl):QS X (.Assign [.Name x pos'] (.ListComp elt [⟨tg,iter,ifs,0⟩] scope pos) spos) (Us (Dg locs.length fr wi g tt te) (Y2 i)) :=
 ⟨MV S F hc hi.h (fun cl C s0 H0 ex pn=>let ⟨a,b,c⟩:=inner.h cl C s0 H0 ex pn;⟨a.h,b.h,c.h⟩) hN hi0 n.1 hsw hs⟩
end
section
variable{X:Cx}{scope:Scope}{cl:List (Str×eZ)}{C:eZ}{N':eS}{s0:eX}{H0:Hp}{ex:eW}{pn:List (eZ×Obj)}{x:Str}{pos:Pos}
theorem Y3(i:Nat)(n:Nm scope x .local:=by decide +kernel)(hN:N'[i]? = some x:=by rfl):QE (ccx X scope cl C N' s0 H0 ex pn) (.Name x pos) (YC i):=⟨pvL i hN n.1 n.2.1 n.2.2.1⟩
theorem T8(i:Nat)(n:Nm scope x .free:=by decide +kernel)(hN:N'[i]? = some x:=by rfl):QE (ccx X scope cl C N' s0 H0 ex pn) (.Name x pos) (YC i):=⟨pvF i hN n.1 n.2.1 n.2.2.1⟩
theorem Y4(i:Nat)(hnd:N'.Nodup)(n:Nm scope x .local:=by decide +kernel)(hN:N'[i]? = some x:=by rfl):QG (ccx X scope cl C N' s0 H0 ex pn) (.Name x pos) (Y2 i):=⟨pgL i hnd hN n.1⟩
end
section
variable{P:fA}{w:fB}{K:uFg}{mg:eR}{base:Heap}
theorem YA.fnQ{x:Str}{st:Stmt}{N ps:eS}{k:Nat}{sp:Sp}(h:YA K mg x st)(S:ZL N ps (Zj st))(hb:∀ (kV doc pm:eY) (an:Option eZ) (cdv ct:eY) (us:eU),us.length=ps.length->bindArgs (PySem.W.fnOf x x (Wa st) (Yd st) (Zj st) .none kV doc pm an cdv ct) ⟨us,[]⟩=pure (ps.zip us))(len:∀vs H Q E,sp vs H Q E->vs.length=ps.length)(hbody:∀ (f:eZ) (cdv:eY) (A:fD) (outer:List Env) (s:eX) (H:Hp) (vs:aG) (Q:VK) (E:XK),ZJ k (A.deeper (envOfC x (Zj st) s.heap.objs.size f cdv))->sp vs H Q E -> ∃t,YS (Yp YY P w K mg base N x (Zj st) f cdv A outer s H E).nox (Yd st) t/\t {nx:=fun _ H'=>Q .non H',rt:=Q } (start N vs) H):Fn P w K mg base x ps (k+1) sp :=
 h.fn S hb len fun f cdv A outer s H vs Q E hr q=>let ⟨t,a,b⟩:=hbody f cdv A outer s H vs Q E hr q;⟨t,a.h,b⟩
theorem Cr(h:k<=60):ZJ k (({}:fD).deeper e) :=
 ZJ.deeper (ZJ.mono (k:=61) ⟨rfl,aA,aA⟩ (by lia)) e
theorem YA.fq{x:Str}{st:Stmt}{ps:eS}{k:Nat}{sp:Sp}(h:YA K mg x st)(N:eS)(hbody:∀{f:eZ}{cdv:eY}{A:fD}{outer:List Env}{s:eX}(H:Hp) (vs:aG) (Q:VK) (E:XK),ZJ k (A.deeper (envOfC x (Zj st) s.heap.objs.size f cdv))->sp vs H Q E->vs.length=ps.length/\∃t,YS (Yp YY P w K mg base N x (Zj st) f cdv A outer s H E).nox (Yd st) t/\t {nx:=fun _ H'=>Q .non H',rt:=Q } (start N vs) H)(S:ZL N ps (Zj st):=by exact fsc)(hk:k<=60:=by decide)(hb:∀ (kV doc pm:eY) (an:Option eZ) (cdv ct:eY) (us:eU),us.length=ps.length->bindArgs (PySem.W.fnOf x x (Wa st) (Yd st) (Zj st) .none kV doc pm an cdv ct) ⟨us,[]⟩=pure (ps.zip us):=by exact fun _ _ _ _ _ _=>by first | exact al1 fun _=>rfl | exact al2 fun _ _=>rfl | exact al3 fun _ _ _=>rfl | exact al4 fun _ _ _ _=>rfl | exact al5 fun _ _ _ _ _=>rfl | exact al6 fun _ _ _ _ _ _=>rfl | exact al7 fun _ _ _ _ _ _ _=>rfl | exact al8 fun _ _ _ _ _ _ _ _=>rfl):Fn P w K mg base x ps (k+1) sp :=
 h.fnQ S hb (fun vs H Q E h=>(hbody (f:=0) (cdv:=.none) (A:={}) (outer:=[]) (s:={}) H vs Q E (Cr hk) h).1) fun _ _ _ _ _ H vs Q E hr q=>(hbody H vs Q E hr q).2
end
theorem Ck(R:St->Hp->Prop)(hu:∀ σ' H',R σ' H'->u D σ' H')(ht:∀D':ZW,(∀ σ' H',R σ' H'->D'.nx σ' H')->(∀v H',D.rt v H'->D'.rt v H')->(∀ σ' H',D.bk σ' H'->D'.bk σ' H')->(∀ σ' H',D.ct σ' H'->D'.ct σ' H')->t D' σ H):Vq t u D σ H :=
 ht {D with nx:=u D } hu (fun _ _ h=>h) (fun _ _ h=>h) (fun _ _ h=>h)
theorem Do:(([a]:List Nat) < [b])↔a < b:=by
 constructor
 ·intro h;rcases List.cons_lt_cons_iff.mp h with z | ⟨_,z⟩
  ·exact z
  ·exact absurd z (by simp)
 ·intro h;exact List.cons_lt_cons_iff.mpr (.inl h)
end L2
namespace L2
theorem Z4(h:Q (σ.set i (some v)) H):Y2 i v σ H Q:=h
end L2
namespace L2
open PySem PySem.Spec PyProof.Rows
theorem UN.okQ{P:fA}{w:fB}{K:uFg}{mg:eR}{base:Heap}{x qual:Str}{st:Stmt}{f:eZ}{fd:FuncData}{N ps:eS}{k:Nat}{sp:Sp}(F:UN K x qual st f fd)(S:ZL N ps (Zj st))(len:∀vs H Q E,sp vs H Q E->vs.length=ps.length)(hbody:∀cdv A outer s H vs Q E,ZJ k (A.deeper (envOfC qual (Zj st) s.heap.objs.size f cdv))->sp vs H Q E -> ∃t,YS (Yp YY P w K mg base N qual (Zj st) f cdv A outer s H E).nox (Yd st) t/\t {nx:=fun _ H'=>Q .non H',rt:=Q } (start N vs) H):ZZ P w K mg base YY (k+1) f fd ps sp :=
 F.ok S len fun cdv A outer s H vs Q E hr q=>let ⟨t,a,b⟩:=hbody cdv A outer s H vs Q E hr q;⟨t,a.h,b⟩
def Dy(K:uFg):Sp:=fun vs H Q _=>∃(a:eZ)(ns:List Int),vs = [.ref a]/\ZF K H a (ns.map V.int)/\ns.length<=63/\∀H',Q (.bl true) H'
theorem walkLaw{l:PySem.W.OpenLaw}{q:fA}{loose:eS}{XP:(eR)->Heap->Prop}{YP:fB->Heap->Prop}{d:DefRec}{K:Params->uFg}(hn:l.most=some 63)(hdf:d.params.defaults = [])(hY:∀w h,YP w h->(K w.params).In h)(F:∀w mg fa h,(K w.params).In h->h.Ns mainGlobals mg->mg d.name=some (.ref fa)-> ∃fd:FuncData,(∀s u,BindsTo s fd ⟨[u],[]⟩ [("_law_script", u)])/\∀base:Heap,(K w.params).In base->base.Ns mainGlobals mg->ZZ l.prog w (K w.params) mg base YY 40 fa fd ["_law_script"] (Dy (K w.params))) :
  PySem.W.WalkO q loose XP YP l.row.toRowW d [] (fun f vs=>PySem.call f vs) :=
 L2.walk_of (n:=63) (k:=40) (x:="_law_script") (CX:=fun _=>YY) (sp:=fun w=>Dy (K w.params)) hn aA hdf ⟨rfl,aA,aA⟩ hY F (fun _ _ a ns hl _ hS=>⟨a,ns,rfl,hS,hl,fun _=>rfl⟩) fun _ _ _ _ _ z=>z
section
variable{X:Cx}{scope:Scope}{cl:List (Str×eZ)}{C:eZ}{N':eS}{s0:eX}{H0:Hp}{ex:eW}{pn:List (eZ×Obj)}{pos:Pos}{es:List Expr}{k:Nat}{t:Jh}
theorem A6(n:Nat)(hc:X.calm=true)(h:Bi (ccx X scope cl C N' s0 H0 ex pn) es t)(hn:(assignEach es (ccx X scope cl C N' s0 H0 ex pn).env).length=n:=by rfl)(hst:(assignEach es (ccx X scope cl C N' s0 H0 ex pn).env).findIdx? (·.1)=none:=by rfl) :
  QG (ccx X scope cl C N' s0 H0 ex pn) (.Tuple es k pos) (Tf X.K n t):=⟨L9 (X:=ccx X scope cl C N' s0 H0 ex pn) hc h.h hn hst⟩
theorem XY:Be (ccx X scope cl C N' s0 H0 ex pn) (JN X.K):=⟨IK (X:=ccx X scope cl C N' s0 H0 ex pn)⟩
theorem MT:QC (ccx X scope cl C N' s0 H0 ex pn) (.builtin "len") (UG X.K):=.imp ⟨Ih (X:=ccx X scope cl C N' s0 H0 ex pn)⟩ fun _ _ _ ⟨p,y,a,b,k⟩=>⟨p,y,a,b,k⟩
theorem Sr:QC (ccx X scope cl C N' s0 H0 ex pn) (.type "list") (UO X.K):=.imp ⟨Lq (X:=ccx X scope cl C N' s0 H0 ex pn)⟩ fun _ _ _ ⟨p,y,a,b,k⟩=>⟨p,y,a,b,k⟩
theorem QV:QC (ccx X scope cl C N' s0 H0 ex pn) (.builtin "isinstance") (GT X.K):=⟨Kc (X:=ccx X scope cl C N' s0 H0 ex pn)⟩
end
def BY(a b:eY):Prop:=a=b\/∃c t u,a = .str c t/\b = .str c u
theorem BY.rel(h:BY a b)(r:ZG y a):ZG y b:=by
 rcases h with rfl | ⟨c,t,u,rfl,rfl⟩
 ·exact r
 ·cases y with
  | str z=>obtain⟨k,e⟩:=r;cases e;exact⟨u,rfl⟩
  | non=>cases r
  | bl _=>cases r
  | int _=>obtain⟨_,e⟩:=r;cases e
  | byt _=>obtain⟨_,e⟩:=r;cases e
  | flt _=>obtain⟨_,e⟩:=r;cases e
  | _=>cases r
structure Tj (P:fA) (w:fB) (it l:eZ) (St:Nat->Heap->Prop) (Hs:Heap->List eY->Prop):Prop where
 obj:∀k h,St k h->∃o,h.get? it=some o/\∀v,o.data ≠ .cell v
 keep:∀k h h',St k h->(∀o,h.get? it=some o->h'.get? it=some o)->St k h'
 src:∀h h' its,Hs h its->(∀o,h.get? l=some o->h'.get? l=some o)->Hs h' its
 item:∀(A:fD)(k:Nat)(s:eX)(its:eU)(x:eY)(Q:eQ)(E:eQ),St k s.heap->Hs s.heap its->its[k]? = some x ->
  (∀x' h' tk,BY x x'->St (k+1) h'->Heap.SameBut it s.heap h'->Q x' {s with heap:=h',toks:=tk })->wpAny (model P w) A (Builtin.SmallTypes.nextOf (.ref it)) Q E s
 done:∀(A:fD)(k:Nat)(s:eX)(its:eU)(Q:eQ)(E:eQ),A.handled=none->St k s.heap->Hs s.heap its->its[k]? = none ->
  (∀h' e,Heap.ExtBut it s.heap h'->(∃o,h'.get? e=some o/\o.cls = .type "StopIteration")->E (.ref e) {s with heap:=h' })->wpAny (model P w) A (Builtin.SmallTypes.nextOf (.ref it)) Q E s
theorem Dh(it l:eZ):Tj P w it l (fun k h=>h.IsListIter it l k) (fun h its=>h.IsList l its.toArray) where
 obj:=fun k h st=>by
  obtain⟨o,e,c,d⟩:=st;exact⟨o,e,fun v z=>by rw[d] at z;cases z⟩
 keep:=fun k h h' st kk=>st.at kk
 src:=fun h h' its hl kk=>hl.at kk
 item:=fun A k s its x Q E st hl hx hQ=>wpAny_nextOf_list_item st hl (by simpa using hx) fun h'=>hQ x h' s.toks (.inl rfl)
 done:=fun A k s its Q E hh st hl hx hE=>wpAny_nextOf_list_end hh st hl (by simpa using hx) hE
theorem Sf{it t:eZ}{k:Nat}{its:eU}{x:eY}{Q:eQ}(st:s.heap.IsTupleIter it t k)(ht:s.heap.IsTuple t its.toArray)(hx:its[k]? = some x)(hQ:∀h',h'.IsTupleIter it t (k+1)->Heap.SameBut it s.heap h'->Q x {s with heap:=h' }):wpAny (model P w) A (Builtin.SmallTypes.nextOf (.ref it)) Q E s:=by
 obtain⟨o,ho,hc,hd⟩:=id st;obtain⟨ot,hot,_,nt,hdt⟩:=id ht;unfold Builtin.SmallTypes.nextOf;refine wpAny_bind (wpAny_callSpecial?_slot (name:=Str.ofString "__next__") st.typeIs F.slot_tuple_iterator_next (wpAny_call_entry F.slot_tuple_iterator_next st.typeIs F.entry_tuple_iterator_next ?_ (F.args_tuple_iterator_next_1 _)));show wpAny _ _ (field (.ref it) 0 >>= _) _ _ s;refine wpAny_bind (wpAny_field ho hd (x:=.ref t) rfl ?_);show wpAny _ _ (if (Value.ref t == Value.none)=true then _ else _) _ _ s;rw[if_neg (show ¬((Value.ref t == Value.none)=true) from xR)];show wpAny _ _ (field (.ref it) 1 >>= _) _ _ s;refine wpAny_bind (wpAny_field ho hd (x:=.int k 0) rfl ?_);show wpAny _ _ (seqItems? (.ref t) >>= _) _ _ s;refine wpAny_bind (wpAny_seqItems hot hdt ?_);have hx':its.toArray[k]? = some x:=by simpa using hx
 simp only[zA,hx'];refine wpAny_bind (wpAny_setField ho hd (by simp) ?_);refine wpAny_pure ⟨_,rfl,wpAny_pure (hQ _ ?_ (Heap.SameBut.update ..))⟩;refine⟨_,wD _ ho ?_,?_,?_⟩
 ·obtain⟨c,d,dt,sl⟩:=o;subst hd;rfl
 ·obtain⟨c,d,dt,sl⟩:=o;subst hd;exact hc
 ·obtain⟨c,d,dt,sl⟩:=o;subst hd;rfl
theorem R5{it t:eZ}{k:Nat}{its:eU}{Q:eQ}(hh:A.handled=none)(st:s.heap.IsTupleIter it t k)(ht:s.heap.IsTuple t its.toArray)(hx:its[k]? = none)(hE:∀h' e,Heap.ExtBut it s.heap h'->(∃o,h'.get? e=some o/\o.cls = .type "StopIteration")->E (.ref e) {s with heap:=h' }):wpAny (model P w) A (Builtin.SmallTypes.nextOf (.ref it)) Q E s:=by
 obtain⟨o,ho,hc,hd⟩:=id st;obtain⟨ot,hot,_,nt,hdt⟩:=id ht;unfold Builtin.SmallTypes.nextOf;refine wpAny_bind (wpAny_callSpecial?_slot (name:=Str.ofString "__next__") st.typeIs F.slot_tuple_iterator_next (wpAny_call_entry F.slot_tuple_iterator_next st.typeIs F.entry_tuple_iterator_next ?_ (F.args_tuple_iterator_next_1 _)));show wpAny _ _ (field (.ref it) 0 >>= _) _ _ s;refine wpAny_bind (wpAny_field ho hd (x:=.ref t) rfl ?_);show wpAny _ _ (if (Value.ref t == Value.none)=true then _ else _) _ _ s;rw[if_neg (show ¬((Value.ref t == Value.none)=true) from xR)];show wpAny _ _ (field (.ref it) 1 >>= _) _ _ s;refine wpAny_bind (wpAny_field ho hd (x:=.int k 0) rfl ?_);show wpAny _ _ (seqItems? (.ref t) >>= _) _ _ s;refine wpAny_bind (wpAny_seqItems hot hdt ?_);have hx':its.toArray[k]? = none:=by simpa using hx
 simp only[zA,hx'];refine wpAny_bind (wpAny_rule (wpAny_bind (wpAny_setField ho hd (by simp) ?_)));show wpAny _ _ (newExc (.type "StopIteration") [] >>= _) _ _ _;refine wpAny_bind ?_;simp only[newExc,newTuple];refine wpAny_bind (wpAny_newObj_type ?_ (by size_fits));refine wpAny_bind (m:=firstArgMember _ _) (wpAny_of_eq (a:=Value.none) (by first | rfl | (simp only[firstArgMember];rfl)) ?_);refine wpAny_newObj_type ?_ (by size_fits);simp only[raiseNew];refine wpAny_bind (wpAny_handled ?_)
 first | rw[show A.in1.handled=none from hh] | rw[hh]
 refine wpAny_bind (wpAny_pure (wpAny_throw ?_));exact hE _ _ (((Heap.SameBut.update ..).extBut.push _).push _) ⟨_,xL _ rfl,rfl⟩
theorem FB(it l:eZ):Tj P w it l (fun k h=>h.IsTupleIter it l k) (fun h its=>h.IsTuple l its.toArray) where
 obj:=fun k h st=>by
  obtain⟨o,e,c,d⟩:=st;exact⟨o,e,fun v z=>by rw[d] at z;cases z⟩
 keep:=fun k h h' st kk=>st.at kk
 src:=fun h h' its hl kk=>let ⟨o,e,r⟩:=hl;⟨o,kk o e,r⟩
 item:=fun A k s its x Q E st hl hx hQ=>Sf st hl hx fun h'=>hQ x h' s.toks (.inl rfl)
 done:=fun A k s its Q E hh st hl hx hE=>R5 hh st hl hx hE
structure ZA (z TI TO i1 i2 l1 l2:eZ):Prop where
 a1:TI≠z
 a2:TO≠z
 a3:i1≠z
 a4:i2≠z
 a5:TI≠TO
 a6:TI≠i1
 a7:TI≠i2
 a8:TO≠i1
 a9:TO≠i2
 a10:i1≠i2
 b1:l1≠z
 b2:l1≠TO
 b3:l1≠i1
 b4:l1≠i2
 b5:l2≠z
 b6:l2≠TO
 b7:l2≠i1
 b8:l2≠i2
section
variable{P:fA}{w:fB}{A:fD}{E:eQ}{s:eX}{z TI TO i1 i2 l1 l2:eZ}{S1 S2:Nat->Heap->Prop}{H1 H2:Heap->List eY->Prop}{k:Nat}{xs ys:eU}{x y a b:eY}
theorem Su{Q:eQ}(Z:ZA z TI TO i1 i2 l1 l2)(D1:Tj P w i1 l1 S1 H1)(D2:Tj P w i2 l2 S2 H2)(hz:IsZip s.heap z TI TO .none)(hTI:IsPair s.heap TI (.ref i1) (.ref i2))(hTO:IsPair s.heap TO a b)(st1:S1 k s.heap)(st2:S2 k s.heap)(h1:H1 s.heap xs)(h2:H2 s.heap ys)(hx:xs[k]? = some x)(hy:ys[k]? = some y)(hQ:∀x' y' h' tk,BY x x'->BY y y'->IsZip h' z TI TO (rawInt s.heap.objs.size)->IsPair h' TO x' y'->S1 (k+1) h'->S2 (k+1) h'->IsPair h' s.heap.objs.size x' y' -> (∀c o,c≠z->c≠TO->c≠i1->c≠i2->s.heap.get? c=some o->h'.get? c=some o)->Q (.ref s.heap.objs.size) {s with heap:=h',toks:=tk }) :
  wpAny (model P w) A (Builtin.«zip.__next__» ⟨[.ref z],[]⟩) (fun fin s'=>∃v,fin = .done (.ret v)/\Q v s') E s:=by
 show wpAny _ _ (field (.ref z) 2 >>= _) _ _ _;refine wpAny_bind (wpAny_field hz rfl (x:=.bool false) rfl ?_);show wpAny _ _ (field (.ref z) 3 >>= _) _ _ _;refine wpAny_bind (wpAny_field hz rfl (x:=.ref TI) rfl (wpAny_bind (wpAny_seqItems hTI rfl ?_)));show wpAny _ _ (Builtin.SmallTypes.ownedTupleIsFree (.ref z) >>= _) _ _ _;refine wpAny_bind ?_;unfold Builtin.SmallTypes.ownedTupleIsFree;refine wpAny_bind (wpAny_field hz rfl (x:=.none) rfl (wpAny_pure ?_));simp only[if_true];refine wpAny_bind (wpAny_rule (wpAny_bind (wpAny_field hz rfl (x:=.ref TO) rfl (wpAny_bind (wpAny_setField_rec hz (by simp) fun g1 z1 e1=>?_)))));replace z1:IsZip g1 z TI TO .ellipsis:=z1;refine wpAny_bind ?_;simp only[List.zipIdx_cons,List.zipIdx_nil,List.forIn_cons,List.forIn_nil];refine wpAny_bind (wpAny_bind (wpAny_onRaise ?_));show wpAny _ _ (Builtin.SmallTypes.nextOf (.ref i1) >>= _) _ _ _;refine wpAny_bind (D1.item _ k _ xs x _ _ (D1.keep _ _ _ st1 fun o e=>e1.extBut _ _ Z.a3 e) (D1.src _ _ _ h1 fun o e=>e1.extBut _ _ Z.b1 e) hx fun x' g2 tk2 lx s12 e2=>wpAny_pure ?_);have t2:IsPair g2 TO a b:=e2.extBut _ _ Z.a8 (e1.extBut _ _ Z.a2 hTO);refine wpAny_bind (wpAny_seqItems t2 rfl (wpAny_bind (wpAny_updateSeq_pair t2 fun g3 t3 e3=>?_)));replace t3:IsPair g3 TO x' b:=t3;refine wpAny_bind (wpAny_letGo (wpAny_pure (wpAny_bind (wpAny_bind (wpAny_onRaise ?_)))));show wpAny _ _ (Builtin.SmallTypes.nextOf (.ref i2) >>= _) _ _ _;have up3:∀c o,c≠z->c≠TO->c≠i1->s.heap.get? c=some o->g3.get? c=some o:=fun c o c1 c2 c3 e=>e3.extBut _ _ c2 (e2.extBut _ _ c3 (e1.extBut _ _ c1 e));refine wpAny_bind (D2.item _ k _ ys y _ _ (D2.keep _ _ _ st2 fun o e=>up3 _ _ Z.a4 Z.a9.symm Z.a10.symm e) (D2.src _ _ _ h2 fun o e=>up3 _ _ Z.b5 Z.b6 Z.b7 e) hy fun y' g4 tk4 ly s24 e4=>wpAny_pure ?_);have t4:IsPair g4 TO x' b:=e4.extBut _ _ Z.a9 t3;refine wpAny_bind (wpAny_seqItems t4 rfl (wpAny_bind (wpAny_updateSeq_pair t4 fun g5 t5 e5=>?_)));replace t5:IsPair g5 TO x' y':=t5;refine wpAny_bind (wpAny_letGo (wpAny_pure (wpAny_pure (wpAny_bind (wpAny_seqItems t5 rfl (wpAny_bind (wpAny_newTuple ?_)))))));have size5:g5.objs.size=s.heap.objs.size:=by rw[e5.1,e4.1,e3.1,e2.1,e1.1]
 have z5:IsZip g5 z TI TO .ellipsis:=e5.extBut _ _ Z.a2.symm (e4.extBut _ _ Z.a4.symm (e3.extBut _ _ Z.a2.symm (e2.extBut _ _ Z.a3.symm z1)));have up5:∀c o,c≠z->c≠TO->c≠i1->c≠i2->s.heap.get? c=some o->g5.get? c=some o:=fun c o c1 c2 c3 c4 e=>e5.extBut _ _ c2 (e4.extBut _ _ c4 (up3 c o c1 c2 c3 e));have s15:S1 (k+1) g5:=D1.keep _ _ _ s12 fun o e=>e5.extBut _ _ Z.a8.symm (e4.extBut _ _ Z.a10 (e3.extBut _ _ Z.a8.symm e));have s25:S2 (k+1) g5:=D2.keep _ _ _ s24 fun o e=>e5.extBut _ _ Z.a9.symm e;have zlt:z < g5.objs.size:=xP z5;show wpAny _ _ (Builtin.SmallTypes.ownedTupleHandOut (.ref z) (.ref g5.objs.size) >>= _) _ _ _;refine wpAny_bind ?_;unfold Builtin.SmallTypes.ownedTupleHandOut;have z6:IsZip (g5.push {cls:=.type "tuple", data:=.seq #[x',y'] }) z TI TO .ellipsis:=xB _ z5;refine wpAny_bind (wpAny_setField_rec z6 (by simp) fun g7 z7 e7=>?_);replace z7:IsZip g7 z TI TO (rawInt g5.objs.size):=z7;refine wpAny_setField_rec z7 (by simp) fun g8 z8 e8=>?_;replace z8:IsZip g8 z TI TO (rawInt g5.objs.size):=z8;have up8:∀c o,c≠z->g5.get? c=some o->g8.get? c=some o:=fun c o c1 e=>e8.extBut _ _ c1 (e7.extBut _ _ c1 (xB _ e));have p8:IsPair g8 g5.objs.size x' y':=e8.extBut _ _ (Nat.ne_of_gt zlt) (e7.extBut _ _ (Nat.ne_of_gt zlt) (xL _ rfl));rw[size5] at z8 p8;refine wpAny_pure ⟨_,rfl,?_⟩;show Q (.ref g5.objs.size) _;rw[size5];exact hQ x' y' g8 _ lx ly z8 (up8 _ _ Z.a2 t5) (D1.keep _ _ _ s15 fun o e=>up8 _ _ Z.a3 e) (D2.keep _ _ _ s25 fun o e=>up8 _ _ Z.a4 e) p8 fun c o c1 c2 c3 c4 e=>up8 c o c1 (up5 c o c1 c2 c3 c4 e)
theorem LV{Q:PySem.Fin->eX->Prop}(hh:A.handled=none)(Z:ZA z TI TO i1 i2 l1 l2)(D1:Tj P w i1 l1 S1 H1)(D2:Tj P w i2 l2 S2 H2)(hz:IsZip s.heap z TI TO .none)(hTI:IsPair s.heap TI (.ref i1) (.ref i2))(hTO:IsPair s.heap TO a b)(st1:S1 k s.heap)(st2:S2 k s.heap)(h1:H1 s.heap xs)(h2:H2 s.heap ys)(hend:xs[k]? = none\/ys[k]? = none)(hE:∀h' e tk,(∀c o,c≠z->c≠TO->c≠i1->c≠i2->s.heap.get? c=some o->h'.get? c=some o)->(∃o,h'.get? e=some o/\o.cls = .type "StopIteration")->E (.ref e) {s with heap:=h',toks:=tk }) :
  wpAny (model P w) A (Builtin.«zip.__next__» ⟨[.ref z],[]⟩) Q E s:=by
 show wpAny _ _ (field (.ref z) 2 >>= _) _ _ _;refine wpAny_bind (wpAny_field hz rfl (x:=.bool false) rfl ?_);show wpAny _ _ (field (.ref z) 3 >>= _) _ _ _;refine wpAny_bind (wpAny_field hz rfl (x:=.ref TI) rfl (wpAny_bind (wpAny_seqItems hTI rfl ?_)));show wpAny _ _ (Builtin.SmallTypes.ownedTupleIsFree (.ref z) >>= _) _ _ _;refine wpAny_bind ?_;unfold Builtin.SmallTypes.ownedTupleIsFree;refine wpAny_bind (wpAny_field hz rfl (x:=.none) rfl (wpAny_pure ?_));simp only[if_true];refine wpAny_bind (wpAny_rule (wpAny_bind (wpAny_field hz rfl (x:=.ref TO) rfl (wpAny_bind (wpAny_setField_rec hz (by simp) fun g1 z1 e1=>?_)))));replace z1:IsZip g1 z TI TO .ellipsis:=z1;refine wpAny_bind ?_;simp only[List.zipIdx_cons,List.zipIdx_nil,List.forIn_cons,List.forIn_nil];refine wpAny_bind (wpAny_bind (wpAny_onRaise ?_));show wpAny _ _ (Builtin.SmallTypes.nextOf (.ref i1) >>= _) _ _ _;have st1':=D1.keep _ _ _ st1 fun o e=>e1.extBut _ _ Z.a3 e;have h1':=D1.src _ _ _ h1 fun o e=>e1.extBut _ _ Z.b1 e;cases hx:xs[k]? with
 | none =>
  refine wpAny_bind (D1.done _ k _ xs _ _ hh st1' h1' hx fun g2 e e2 ⟨oe,hoe,hce⟩=>?_);have z2:IsZip g2 z TI TO .ellipsis:=e2 _ _ Z.a3.symm z1;have ne:e≠z:=fun q=>by subst q;rw[z2] at hoe;cases hoe;simp at hce
  exact wpAny_setField_rec z2 (by simp) fun g3 _ e3=>hE g3 e s.toks (fun c o c1 _ c3 _ q=>e3.extBut _ _ c1 (e2 _ _ c3 (e1.extBut _ _ c1 q))) ⟨oe,e3.extBut _ _ ne hoe,hce⟩
 | some x =>
  have hy:ys[k]? = none:=hend.elim (fun q=>by rw[hx] at q;cases q) id;refine wpAny_bind (D1.item _ k _ xs x _ _ st1' h1' hx fun x' g2 tk2 lx s12 e2=>wpAny_pure ?_);have t2:IsPair g2 TO a b:=e2.extBut _ _ Z.a8 (e1.extBut _ _ Z.a2 hTO);refine wpAny_bind (wpAny_seqItems t2 rfl (wpAny_bind (wpAny_updateSeq_pair t2 fun g3 t3 e3=>?_)));refine wpAny_bind (wpAny_letGo (wpAny_pure (wpAny_bind (wpAny_bind (wpAny_onRaise ?_)))));show wpAny _ _ (Builtin.SmallTypes.nextOf (.ref i2) >>= _) _ _ _;have up3:∀c o,c≠z->c≠TO->c≠i1->s.heap.get? c=some o->g3.get? c=some o:=fun c o c1 c2 c3 e=>e3.extBut _ _ c2 (e2.extBut _ _ c3 (e1.extBut _ _ c1 e));refine wpAny_bind (D2.done _ k _ ys _ _ hh (D2.keep _ _ _ st2 fun o e=>up3 _ _ Z.a4 Z.a9.symm Z.a10.symm e) (D2.src _ _ _ h2 fun o e=>up3 _ _ Z.b5 Z.b6 Z.b7 e) hy fun g4 e e4 ⟨oe,hoe,hce⟩=>?_);have z4:IsZip g4 z TI TO .ellipsis:=e4 _ _ Z.a4.symm (e3.extBut _ _ Z.a2.symm (e2.extBut _ _ Z.a3.symm z1));have ne:e≠z:=fun q=>by subst q;rw[z4] at hoe;cases hoe;simp at hce
  exact wpAny_setField_rec z4 (by simp) fun g5 _ e5=>hE g5 e _ (fun c o c1 c2 c3 c4 q=>e5.extBut _ _ c1 (e4 _ _ c4 (up3 c o c1 c2 c3 q))) ⟨oe,e5.extBut _ _ ne hoe,hce⟩
end
structure AY (sq:uFg->Hp->eZ->List V->Prop) (Hs:eZ->Heap->List eY->Prop):Prop where
 get:∀{X:Cx}{pins:List (eZ×Obj)}{σ:St}{H:Hp}{s:eX}{l:eZ}{xs:aG},ZD X pins σ H s->sq X.K H l xs->∃its,ZH xs its/\Hs l s.heap its
 inj:∀{X:Cx}{pins:List (eZ×Obj)}{σ:St}{H:Hp}{s:eX}{l:eZ}{xs ys:aG},ZD X pins σ H s->sq X.K H l xs->sq X.K H l ys->xs=ys
theorem Rf:AY ZF (fun l h its=>h.IsList l its.toArray):=⟨fun I h=>let ⟨its,r,p,_⟩:=I.list h;⟨its,r,p.isList⟩,fun I h h'=>I.list_inj h h'⟩
theorem MQ:AY ZT (fun l h its=>h.IsTuple l its.toArray):=⟨fun I h=>let ⟨its,r,p,_⟩:=I.tuple h;⟨its,r,p⟩,fun I h h'=>I.tuple_inj h h'⟩
def TB(sq:uFg->Hp->eZ->List V->Prop)(K:uFg)(l1 l2:eZ):It :=
 ⟨fun i H=>∃xs ys,sq K H l1 xs/\sq K H l2 ys/\i < xs.length/\i < ys.length,fun i H v H'=>∃p a b,v = .ref p/\H p=none/\H'=upd H p (.tup [a,b])/\∀xs ys,sq K H l1 xs->sq K H l2 ys->xs[i]? = some a/\ys[i]? = some b,
  fun i H=>∃xs ys,sq K H l1 xs/\sq K H l2 ys/\(xs.length<=i\/ys.length<=i)⟩
theorem E5{P:fA}{w:fB}{K:uFg}{elts:List Expr}{ek:Nat}{epos:Pos}{sq:uFg->Hp->eZ->List V->Prop}{Hs:eZ->Heap->List eY->Prop}{z TI TO i1 i2 l1 l2:eZ}{S1 S2:Nat->Heap->Prop}(SK:AY sq Hs)(Z:ZA z TI TO i1 i2 l1 l2)(D1:Tj P w i1 l1 S1 (Hs l1))(D2:Tj P w i2 l2 S2 (Hs l2)) :
  WI P w K (.Tuple elts ek epos) (TB sq K l1 l2) [z,TI,TO,i1,i2] z (fun i h=>IsZip h z TI TO .none/\IsPair h TI (.ref i1) (.ref i2)/\(∃a b,IsPair h TO a b)/\S1 i h/\S2 i h) where
 mem:=by simp
 obj:=fun i h st b hb=>by
  obtain⟨hz,hTI,⟨a,c,hTO⟩,s1,s2⟩:=st;simp only[xC,xT,or_false] at hb;rcases hb with rfl | rfl | rfl | rfl | rfl
  ·exact⟨_,hz,fun v q=>by cases q⟩
  ·exact⟨_,hTI,fun v q=>by cases q⟩
  ·exact⟨_,hTO,fun v q=>by cases q⟩
  ·exact D1.obj _ _ s1
  ·exact D2.obj _ _ s2
 keep:=fun i h h' st k=>by
  obtain⟨hz,hTI,⟨a,c,hTO⟩,s1,s2⟩:=st;exact⟨k z (by simp) _ hz,k TI (by simp) _ hTI,⟨a,c,k TO (by simp) _ hTO⟩,D1.keep _ _ _ s1 fun o e=>k i1 (by simp) o e,D2.keep _ _ _ s2 fun o e=>k i2 (by simp) o e⟩
 item:=by
  intro X hP hw hK hc i pins s σ H E I hf st hg;subst hP hw hK;obtain⟨hz,hTI,⟨a,b,hTO⟩,s1,s2⟩:=st;obtain⟨xs,ys,q1,q2,hx,hy⟩:=hg;obtain⟨its1,r1,w1⟩:=SK.get I q1;obtain⟨its2,r2,w2⟩:=SK.get I q2;have gx:xs[i]? = some xs[i]:=xE hx;have gy:ys[i]? = some ys[i]:=xE hy;obtain⟨u1,hu1,ru1⟩:=r1.get gx;obtain⟨u2,hu2,ru2⟩:=r2.get gy;have hT:s.TypeIs (.ref z) "zip" := ⟨_,hz,rfl⟩;unfold pyNext;refine wpAny_bind (wpAny_attempt (wpAny_callSpecial?_slot (name:=Str.ofString "__next__") hT F.slot_zip_next (wpAny_call_entry F.slot_zip_next hT F.entry_zip_next (Su Z D1 D2 hz hTI hTO s1 s2 w1 w2 hu1 hu2 fun u1' u2' h' tk l1' l2' z1 t1 n1 n2 p1 kp=>wpAny_pure ?_) (F.args_zip_next_1 _))));refine⟨_,rfl,?_⟩;have nfp:∀c,c ∈ [z,TO,i1,i2]->c ∈ [z,TI,TO,i1,i2]:=fun c hc=>by grind
  have kp':∀c o,c ∉ [z,TO,i1,i2]->s.heap.get? c=some o->h'.get? c=some o:=fun c o hc e=>kp c o (fun q=>hc (by simp[q])) (fun q=>hc (by simp[q])) (fun q=>hc (by simp[q])) (fun q=>hc (by simp[q])) e;have hp:H s.heap.objs.size=none:=I.hok.fresh (xH _);have ltp:∀c o,s.heap.get? c=some o->c≠s.heap.objs.size:=fun c o e=>yJ (xP e);have ntr:∀c u,H c=some u->c ∉ [z,TO,i1,i2]:=fun c u e hc=>by
   have:=(hf c (nfp c hc)).1;rw[this] at e;cases e
  have there4:∀c,c ∈ [z,TO,i1,i2]->∃o',h'.get? c=some o':=fun c hc=>by
   simp only[xC,xT,or_false] at hc;rcases hc with rfl | rfl | rfl | rfl
   ·exact⟨_,z1⟩
   ·exact⟨_,t1⟩
   ·obtain⟨o,e,_⟩:=D1.obj _ _ n1;exact⟨o,e⟩
   ·obtain⟨o,e,_⟩:=D2.obj _ _ n2;exact⟨o,e⟩
  have I1:ZD X pins σ (upd H s.heap.objs.size (.tup [xs[i],ys[i]])) {s with heap:=h',toks:=tk }:=by
   refine I.step (g':=s.gens) (d':=s.drawn) (t':=tk) (ch:=[z,TO,i1,i2]) (fun c hc=>?_) (fun c o _ _ hc e _=>kp' c o hc e) (fun c o _ _ hc e _=>⟨o.slots,kp' c o hc e⟩) (fun c o hc e n=>by rw[Zc (ltp c o e)];exact n)
    (fun c o hc e=>⟨o,kp' c o hc e⟩) (fun c us e=>by rw[Zc (Zi e hp)];exact e) (fun c o u e=>by rw[Zc (Zi e hp)];exact e) (fun c ps e=>⟨#[],by rw[Zc (Zi e hp),e];simp⟩) (fun m hm=>?_) ?_ I.bare
   ·obtain⟨f0,f1,f2,f3,f4,f5⟩:=hf c (nfp c hc);exact⟨f3,f1,f4,f5⟩
   ·refine hm.at fun o e=>kp' _ o (fun hc=>?_) e;exact(hf _ (nfp _ hc)).2.1 rfl
   ·intro c u e
    by_cases hcp:c=s.heap.objs.size
    ·subst hcp;rw[Zg] at e;cases e;exact⟨aB rfl,[u1',u2'],.cons (l1'.rel ru1) (.cons (l2'.rel ru2) .nil),⟨_,p1,rfl,_,rfl⟩⟩
    ·rw[Zc hcp] at e;refine(I.hok c u e).stay (fun d v hd q=>kp' d v ?_ q) (fun d q=>by rw[Zc (Zi q hp)];exact q) fun d us q=>by rw[Zc (Zi q hp)];exact q
     rcases hd with rfl | hd
     ·exact ntr _ u e
     ·exact ntr _ _ hd
  refine wpAny_letOwnedTupleGo_zip (s:={s with heap:=h',toks:=tk }) z1 fun h2 z2 e2=>?_;obtain⟨f0,f1,f2,f3,f4,f5⟩:=hf z (by simp);have nz:z≠s.heap.objs.size:=ltp z _ hz;have I2:ZD X pins σ (upd H s.heap.objs.size (.tup [xs[i],ys[i]])) {s with heap:=h2,toks:=tk }:=I1.turned (s:={s with heap:=h',toks:=tk }) (it:=z) (t':=tk) (fun c o hc e=>(e2.2 c hc).trans e) (by rw[Zc nz];exact f0) f1 f3 f4 f5;refine⟨.ref s.heap.objs.size,_,I2,rfl,⟨s.heap.objs.size,xs[i],ys[i],rfl,hp,rfl,fun xs' ys' q1' q2'=>?_⟩,⟨z2,(e2.2 _ Z.a1).trans (kp' TI _ (fun hc=>?_) hTI),⟨_,_,(e2.2 _ Z.a2).trans t1⟩,D1.keep _ _ _ n1 fun o e=>(e2.2 _ Z.a3).trans e,D2.keep _ _ _ n2 fun o e=>(e2.2 _ Z.a4).trans e⟩,fun c hc=>?_⟩
  ·rw[SK.inj I q1' q1,SK.inj I q2' q2];exact⟨gx,gy⟩
  ·simp only[xC,xT,or_false] at hc;rcases hc with q | q | q | q
   ·exact Z.a1 q
   ·exact Z.a5 q
   ·exact Z.a6 q
   ·exact Z.a7 q
  ·obtain⟨o,ho⟩:∃o,s.heap.get? c=some o:=by
    simp only[xC,xT,or_false] at hc;rcases hc with rfl | rfl | rfl | rfl | rfl
    ·exact⟨_,hz⟩
    ·exact⟨_,hTI⟩
    ·exact⟨_,hTO⟩
    ·obtain⟨o,e,_⟩:=D1.obj _ _ s1;exact⟨o,e⟩
    ·obtain⟨o,e,_⟩:=D2.obj _ _ s2;exact⟨o,e⟩
   rw[Zc (ltp c o ho)];exact(hf c hc).1
 done:=by
  intro X hP hw hK hc i pins s σ H E I hf st hg;subst hP hw hK;obtain⟨hz,hTI,⟨a,b,hTO⟩,s1,s2⟩:=st;obtain⟨xs,ys,q1,q2,hend⟩:=hg;obtain⟨its1,r1,w1⟩:=SK.get I q1;obtain⟨its2,r2,w2⟩:=SK.get I q2;have hT:s.TypeIs (.ref z) "zip" := ⟨_,hz,rfl⟩;have hend':its1[i]? = none\/its2[i]? = none:=by
   have e1:=r1.length;have e2:=r2.length;rcases hend with q | q
   ·exact .inl (zV (by lia))
   ·exact .inr (zV (by lia))
  unfold pyNext;refine wpAny_bind (wpAny_attempt (wpAny_callSpecial?_slot (name:=Str.ofString "__next__") hT F.slot_zip_next (wpAny_call_entry F.slot_zip_next hT F.entry_zip_next (LV (I.ok.hd hc) Z D1 D2 hz hTI hTO s1 s2 w1 w2 hend' fun h' e tk kp ⟨o,ho,hcl⟩=>?_) (F.args_zip_next_1 _))));refine wpAny_bind (wpAny_isInstance (T:="StopIteration") (b:=true) ⟨o,ho,hcl⟩ isSubtype_stop (wpAny_pure ⟨rfl,?_⟩));have nfp:∀c,c ∈ [z,TO,i1,i2]->c ∈ [z,TI,TO,i1,i2]:=fun c hc=>by grind
  have kp':∀c o,c ∉ [z,TO,i1,i2]->s.heap.get? c=some o->h'.get? c=some o:=fun c o hc e=>kp c o (fun q=>hc (by simp[q])) (fun q=>hc (by simp[q])) (fun q=>hc (by simp[q])) (fun q=>hc (by simp[q])) e;have ntr:∀c u,H c=some u->c ∉ [z,TO,i1,i2]:=fun c u e hc=>by
   have:=(hf c (nfp c hc)).1;rw[this] at e;cases e
  refine I.step (g':=s.gens) (d':=s.drawn) (t':=tk) (ch:=[z,TO,i1,i2]) (fun c hc=>?_) (fun c o _ _ hc e _=>kp' c o hc e) (fun c o _ _ hc e _=>⟨o.slots,kp' c o hc e⟩) (fun c o hc e n=>n)
   (fun c o hc e=>⟨o,kp' c o hc e⟩) (fun c us e=>e) (fun c o u e=>e) (fun c ps e=>⟨#[],by rw[e];simp⟩) (fun m hm=>?_) ?_ I.bare
  ·obtain⟨f0,f1,f2,f3,f4,f5⟩:=hf c (nfp c hc);exact⟨f3,f1,f4,f5⟩
  ·refine hm.at fun o e=>kp' _ o (fun hc=>?_) e;exact(hf _ (nfp _ hc)).2.1 rfl
  ·intro c u e;refine(I.hok c u e).stay (fun d v hd q=>kp' d v ?_ q) (fun d q=>q) fun d us q=>q;rcases hd with rfl | hd
   ·exact ntr _ u e
   ·exact ntr _ _ hd
 self:=fun A i s Q E st h=>wpAny_pyIter_zip st.1 h
abbrev tzA(h:Heap)(t1:eZ):Heap:=h.push {cls:=.type "tuple_iterator", data:=.fields #[.ref t1,.int 0 0] }
abbrev tzB(h:Heap)(t1 t2:eZ):Heap:=(tzA h t1).push {cls:=.type "tuple_iterator", data:=.fields #[.ref t2,.int 0 0] }
abbrev tzC(h:Heap)(t1 t2:eZ):Heap:=(tzB h t1 t2).push {cls:=.type "tuple", data:=.seq #[.ref h.objs.size,.ref (tzA h t1).objs.size] }
abbrev tzD(h:Heap)(t1 t2:eZ):Heap:=(tzC h t1 t2).push {cls:=.type "tuple", data:=.seq #[.none,.none] }
abbrev tzE(h:Heap)(t1 t2:eZ):Heap:=(tzD h t1 t2).push {cls:=.type "zip", data:=.fields #[.none,.bool false,.bool false,.ref (tzB h t1 t2).objs.size,.ref (tzC h t1 t2).objs.size] }
theorem Mx(l1 l2:eZ)(xs ys:Array eY):Meets (Builtin.«zip.__new__» ⟨[.type "zip", .ref l1,.ref l2],[]⟩) (fun _ R s=>s.heap.IsTuple l1 xs/\s.heap.IsTuple l2 ys/\R (.ok (.ret (.ref (tzD s.heap l1 l2).objs.size))) {s with heap:=tzE s.heap l1 l2 }) :=
 .of_wp fun prog w A R s h=>by
  obtain⟨hp,g,d,tk,os⟩:=s;obtain⟨hl1,hl2,h⟩:=h;have hsub:=sub_zip;have hL1:Heap.IsTuple (Shared.heap ⟨hp,g,d,tk,os⟩) l1 xs:=hl1;have hL2:Heap.IsTuple (Shared.heap ⟨tzA hp l1,g,d,tk,os⟩) l2 ys:=let ⟨o,e,r⟩:=hl2;⟨o,xB _ e,r⟩
  wp_walk using wpAny_pyIter_tuple hL1,wpAny_pyIter_tuple hL2
  exact⟨_,rfl,h⟩
section
variable{P:fA}{w:fB}{A:fD}{E:eQ}{s:eX}
theorem dC{l1 l2:eZ}{xs ys:Array eY}{Q:eQ}(hl1:s.heap.IsTuple l1 xs)(hl2:s.heap.IsTuple l2 ys)(h:∀h',IsZip h' (s.heap.objs.size+4) (s.heap.objs.size+2) (s.heap.objs.size+3) .none->IsPair h' (s.heap.objs.size+2) (.ref s.heap.objs.size) (.ref (s.heap.objs.size+1))-> IsPair h' (s.heap.objs.size+3) .none .none->h'.IsTupleIter s.heap.objs.size l1 0->h'.IsTupleIter (s.heap.objs.size+1) l2 0 -> (∀c o,s.heap.get? c=some o->h'.get? c=some o)->Q (.ref (s.heap.objs.size+4)) {s with heap:=h' }):wpAny (model P w) A (call (.type "zip") [.ref l1,.ref l2]) Q E s:=by
 refine callType_new F.called_zip aA (F.typeCall_zip_2 _ _) (F.newCall_zip_2 _ _) (fun obj=>F.args_object_init_3 obj _ _) F.entry_zip_new (Mx l1 l2 xs ys) ⟨hl1,hl2,?_⟩;have n1:(tzA s.heap l1).objs.size=s.heap.objs.size+1:=yN ..;have n2:(tzB s.heap l1 l2).objs.size=s.heap.objs.size+2:=by rw[yN,n1]
 have n3:(tzC s.heap l1 l2).objs.size=s.heap.objs.size+3:=by rw[yN,n2]
 have n4:(tzD s.heap l1 l2).objs.size=s.heap.objs.size+4:=by rw[yN,n3]
 have q5:(tzE s.heap l1 l2).get? (tzD s.heap l1 l2).objs.size=some _:=xL _ rfl;have q4:(tzE s.heap l1 l2).get? (tzC s.heap l1 l2).objs.size=some _:=xB _ (xL _ rfl);have q3:(tzE s.heap l1 l2).get? (tzB s.heap l1 l2).objs.size=some _:=xB _ (xB _ (xL _ rfl));have q2:(tzE s.heap l1 l2).get? (tzA s.heap l1).objs.size=some _:=xB _ (xB _ (xB _ (xL _ rfl)));have q1:(tzE s.heap l1 l2).get? s.heap.objs.size=some _:=xB _ (xB _ (xB _ (xB _ (xL _ rfl))));show _/\_;rw[n2,n3,n4] at q5;rw[n1,n2] at q3;rw[n3] at q4;rw[n1] at q2;rw[n4];exact⟨⟨_,q5,rfl⟩,h _ q5 q3 q4 ⟨_,q1,rfl,rfl⟩ ⟨_,q2,rfl,rfl⟩ fun c o x=>xB _ (xB _ (xB _ (xB _ (xB _ x))))⟩
end
theorem GK(h1:l1 < n)(h2:l2 < n):ZA (n+4) (n+2) (n+3) n (n+1) l1 l2:=by
 have h1 : @LT.lt Nat _ l1 n:=h1;have h2 : @LT.lt Nat _ l2 n:=h2;have key:∀(a b:Nat),(a < b\/b < a)->¬(@Eq Nat a b):=fun a b h q=>by lia
 exact⟨key _ _ (by lia),key _ _ (by lia),key _ _ (by lia),key _ _ (by lia),key _ _ (by lia),key _ _ (by lia),key _ _ (by lia),key _ _ (by lia),key _ _ (by lia),key _ _ (by lia),
  key _ _ (by lia),key _ _ (by lia),key _ _ (by lia),key _ _ (by lia),key _ _ (by lia),key _ _ (by lia),key _ _ (by lia),key _ _ (by lia)⟩
inductive BR(K:uFg)(R:It->Hp->Prop)(vs:aG)(H1:Hp):Prop
 |mk(l1 l2)(_:vs = [.ref l1,.ref l2])(_:((∃xs ys,ZF K H1 l1 xs/\ZF K H1 l2 ys/\R (TB ZF K l1 l2) H1)\/(∃xs ys,ZT K H1 l1 xs/\ZT K H1 l2 ys/\R (TB ZT K l1 l2) H1)))
def Rg(K:uFg)(ta:TA):TI:=fun σ H R=>ta σ H fun vs H1=>BR K R vs H1
theorem bR{X:Cx}{a b:Expr}{ta:TA}{p pos:Pos}{elts:List Expr}{ek:Nat}{epos:Pos}(hm:X.mg "zip" = none)(ha:QA X [a,b] ta)(hg:nB X "zip" .globalImplicit:=by kernel_rfl)(hs:starEach [a,b] X.env = [(false,eval a X.env),(false,eval b X.env)]:=by rfl)(hs2:starEach [b] X.env = [(false,eval b X.env)]:=by rfl) :
  QI X (.Tuple elts ek epos) (.Call (.Name "zip" p) [a,b] [] pos) (Rg X.K ta):=⟨by
 have hg:=(od hg).1;have ha:=ha.h;intro pins s σ H R I h;refine Call_ (Ui I hg hm boot_zip (PyProof.Rows.callWith_type1 (thn (ha pos pins s σ H _ I h) fun us s1 ⟨vs,H1,I1,r1,q1⟩=>?_) (by rw[hs,hs2]) (by rw[hs2];rfl)));obtain⟨l1,l2,e,q1⟩:=q1;subst e;obtain⟨u1,u2,rfl,ru1,ru2⟩:=BW r1;cases ru1;cases ru2;have fin:∀{sq:uFg->Hp->eZ->List V->Prop}{Hs:eZ->Heap->List eY->Prop}{S1 S2:Nat->Heap->Prop}{h':Heap},AY sq Hs->l1 < s1.heap.objs.size->l2 < s1.heap.objs.size->Tj X.prog X.w s1.heap.objs.size l1 S1 (Hs l1)->Tj X.prog X.w (s1.heap.objs.size+1) l2 S2 (Hs l2)->
   IsZip h' (s1.heap.objs.size+4) (s1.heap.objs.size+2) (s1.heap.objs.size+3) .none->IsPair h' (s1.heap.objs.size+2) (.ref s1.heap.objs.size) (.ref (s1.heap.objs.size+1))->IsPair h' (s1.heap.objs.size+3) .none .none->S1 0 h'->S2 0 h'->(∀c o,s1.heap.get? c=some o->h'.get? c=some o)->R (TB sq X.K l1 l2) H1 ->
   wpAny (model X.prog X.w) X.A (pyIter (.ref (s1.heap.objs.size+4))) (DA X pins σ (.Tuple elts ek epos) R) X.xe {s1 with heap:=h' }:=by
  intro sq Hs S1 S2 h' SK b1 b2 D1 D2 z0 t1 t0 st1 st2 kp q;refine wpAny_pyIter_zip z0 ?_;refine⟨s1.heap.objs.size+4,_,_,_,H1,rfl,I1.kept (h':=h') (t':=s1.toks) kp,E5 SK (GK b1 b2) D1 D2,⟨z0,t1,⟨_,_,t0⟩,st1,st2⟩,fun c hc=>?_,q⟩;have hle:s1.heap.objs.size<=c:=by
   simp only[xC,xT,or_false] at hc;have:(s1.heap.objs.size:Nat)<=(c:Nat):=by rcases hc with rfl | rfl | rfl | rfl | rfl<;>lia
   exact this
  exact I1.fpOk hle (I1.hok.fresh hle)
 rcases q1 with⟨xs,ys,h1,h2,q⟩ | ⟨xs,ys,h1,h2,q⟩
 ·obtain⟨its1,r1,p1,_⟩:=I1.list h1;obtain⟨its2,r2,p2,_⟩:=I1.list h2;have b1:l1 < s1.heap.objs.size:=by obtain⟨o,n,e,_⟩:=p1;exact xP e
  have b2:l2 < s1.heap.objs.size:=by obtain⟨o,n,e,_⟩:=p2;exact xP e
  exact call_zip_2 p1.isList p2.isList fun h' z0 t1 t0 st1 st2 _ kp=>fin Rf b1 b2 (Dh _ _) (Dh _ _) z0 t1 t0 st1 st2 kp q
 ·obtain⟨its1,r1,p1,_⟩:=I1.tuple h1;obtain⟨its2,r2,p2,_⟩:=I1.tuple h2;have b1:l1 < s1.heap.objs.size:=by obtain⟨o,e,_⟩:=p1;exact xP e
  have b2:l2 < s1.heap.objs.size:=by obtain⟨o,e,_⟩:=p2;exact xP e
  exact dC p1 p2 fun h' z0 t1 t0 st1 st2 kp=>fin MQ b1 b2 (FB _ _) (FB _ _) z0 t1 t0 st1 st2 kp q⟩
theorem Kl{sq:uFg->Hp->eZ->List V->Prop}{K:uFg}{l1 l2:eZ}{g:TG}{tb:TS}{D:ZW}{σ:St}{H:Hp}(xs ys:aG)(hxy:xs.length=ys.length)(Pv:Nat->St->Hp->Prop)(h0:Pv 0 σ H)(hl:∀i σ H,i<=xs.length->Pv i σ H->sq K H l1 xs/\sq K H l2 ys)(hs:∀i x y p σ H,xs[i]? = some x->ys[i]? = some y->Pv i σ H->H p=none->g (.ref p) σ (upd H p (.tup [x,y])) fun σ2 H2=>tb {D with nx:=Pv (i+1),ct:=Pv (i+1),bk:=D.nx } σ2 H2)(hd:∀ σ H,Pv xs.length σ H->D.nx σ H):TZ (TB sq K l1 l2) g tb D σ H:=by
 refine⟨fun i m σ H=>m=xs.length - i/\i<=xs.length/\Pv i σ H,⟨xs.length,by simp,yO _,h0⟩,?_⟩;rintro i m σ H ⟨rfl,hi,p⟩;obtain⟨q1,q2⟩:=hl i σ H hi p
 by_cases hlt:i < xs.length
 ·refine .inr ⟨⟨xs,ys,q1,q2,hlt,by lia⟩,Pv (i+1),fun σ' H' p'=>⟨xs.length - (i+1),by lia,rfl,hlt,p'⟩,fun v H' y=>?_⟩;obtain⟨pp,a,b,rfl,hp,rfl,hv⟩:=y;obtain⟨e1,e2⟩:=hv xs ys q1 q2;exact hs i a b pp σ H e1 e2 p hp
 ·have e:i=xs.length:=by lia
  subst e;exact .inl ⟨⟨xs,ys,q1,q2,.inl (xH _)⟩,hd σ H p⟩
inductive D where
 | non | bl (b:Bool) | int (i:Int) | str (x:Str) | tup (xs:List D) | lst (xs:List D)
mutual
def YH(H:Hp):D->V->Prop
 | .non,v=>v = .non
 | .bl b,v=>v = .bl b
 | .int i,v=>v = .int i
 | .str x,v=>v = .str x
 | .tup ds,v=>∃a vs,v = .ref a/\H a=some (.tup vs)/\ZN H ds vs
 | .lst ds,v=>∃a vs,v = .ref a/\H a=some (.lst vs)/\ZN H ds vs
def ZN(H:Hp):List D->List V->Prop
 | [],vs=>vs = []
 | d::ds,vs=>∃v r,vs=v::r/\YH H d v/\ZN H ds r
end
mutual
theorem YH.mono(k:ZC H H'):∀d v,YH H d v->YH H' d v
 | .non,v,h=>h
 | .bl b,v,h=>h
 | .int i,v,h=>h
 | .str x,v,h=>h
 | .tup ds,v,h=>by
  obtain⟨a,vs,e,h1,h2⟩:=h;exact⟨a,vs,e,k _ _ h1,ZN.mono k ds vs h2⟩
 | .lst ds,v,h=>by
  obtain⟨a,vs,e,h1,h2⟩:=h;exact⟨a,vs,e,k _ _ h1,ZN.mono k ds vs h2⟩
theorem ZN.mono(k:ZC H H'):∀ds vs,ZN H ds vs->ZN H' ds vs
 | [],vs,h=>h
 | d::ds,vs,h=>by
  obtain⟨v,r,e,h1,h2⟩:=h;exact⟨v,r,e,YH.mono k d v h1,ZN.mono k ds r h2⟩
end
theorem ZN.length:∀{ds:List D}{vs:aG},ZN H ds vs->vs.length=ds.length
 | [],vs,h=>by cases h;rfl
 | d::ds,vs,h=>by
  obtain⟨v,r,rfl,h1,h2⟩:=h;rw[xF,xF,ZN.length h2]
theorem ZN.get:∀{ds:List D}{vs:aG}{i:Nat}{v:V},ZN H ds vs->vs[i]? = some v->∃d,ds[i]? = some d/\YH H d v
 | [],vs,i,v,h,e=>by cases h;simp at e
 | d::ds,vs,i,v,h,e=>by
  obtain⟨w,r,rfl,h1,h2⟩:=h;cases i with
  | zero=>simp at e;subst e;exact⟨d,rfl,h1⟩
  | succ i=>simp at e;exact ZN.get (i:=i) h2 e
theorem ZN.snoc(hd:YH H d v):∀{ds:List D}{vs:aG},ZN H ds vs->ZN H (ds ++ [d]) (vs ++ [v])
 | [],vs,h=>by cases h;exact⟨v,[],rfl,hd,rfl⟩
 | e::ds,vs,h=>by
  obtain⟨w,r,rfl,h1,h2⟩:=h;exact⟨w,r ++ [v],rfl,h1,ZN.snoc hd h2⟩
mutual
def JX:D->D->Bool
 | .non,.non=>true
 | .bl a,.bl b=>a == b
 | .int a,.int b=>a == b
 | .str a,.str b=>a == b
 | .tup a,.tup b=>BK a b
 | .lst a,.lst b=>BK a b
 | _,_=>false
def BK:List D->List D->Bool
 | [],[]=>true
 | a::r,b::s=>JX a b && BK r s
 | _,_=>false
end
mutual
theorem Of:∀d:D,JX d d=true
 | .non=>rfl
 | .bl _=>by simp[JX]
 | .int _=>by simp[JX]
 | .str _=>by simp[JX]
 | .tup ds=>by rw[JX];exact FM ds
 | .lst ds=>by rw[JX];exact FM ds
theorem FM:∀ds:List D,BK ds ds=true
 | []=>rfl
 | d::ds=>by rw[BK,Of d,FM ds];rfl
end
mutual
def D.deep:D->Nat
 | .tup ds=>Jp ds+1
 | .lst ds=>Jp ds+1
 | _=>0
def Jp:List D->Nat
 | []=>0
 | d::ds=>max d.deep (Jp ds)
end
theorem EY:∀{ds:List D}{i:Nat}{d:D},ds[i]? = some d->d.deep<=Jp ds
 | [],i,d,h=>by simp at h
 | e::ds,0,d,h=>by simp at h;subst h;rw[Jp];lia
 | e::ds,i+1,d,h=>by
  simp at h;have:=EY h;rw[Jp];lia
def isI:D->String->Bool
 | .non,_=>false
 | .bl _,c=>c == "bool" || c == "int"
 | .int _,c=>c == "int"
 | .str _,c=>c == "str"
 | .tup _,c=>c == "tuple"
 | .lst _,c=>c == "list"
def GP:List String:=["bool","int","str","list","tuple"]
theorem isi{K:uFg}{H:Hp}{d:D}{v:V}(r:YH H d v)(c:String)(hc:c∈GP):∃t,YO K H v t/\PySem.W.kitOne K t (.type c)=some (isI d c):=by
 unfold GP at hc;simp only[xC,xT,or_false] at hc;cases d with
 | non=>cases r;refine⟨_,.non,?_⟩;rcases hc with rfl | rfl | rfl | rfl | rfl<;>rfl
 | bl b=>cases r;refine⟨_,.bl b,?_⟩;rcases hc with rfl | rfl | rfl | rfl | rfl<;>rfl
 | int i=>cases r;refine⟨_,.int i,?_⟩;rcases hc with rfl | rfl | rfl | rfl | rfl<;>rfl
 | str x=>cases r;refine⟨_,.str x,?_⟩;rcases hc with rfl | rfl | rfl | rfl | rfl<;>rfl
 | tup ds=>obtain⟨a,vs,rfl,h1,h2⟩:=r;refine⟨_,.tup h1,?_⟩;rcases hc with rfl | rfl | rfl | rfl | rfl<;>rfl
 | lst ds=>obtain⟨a,vs,rfl,h1,h2⟩:=r;refine⟨_,.lst h1,?_⟩;rcases hc with rfl | rfl | rfl | rfl | rfl<;>rfl
theorem YH.none_iff(r:YH H d v):decide (v = .non)=(match d with | .non=>true | _=>false):=by
 cases d with
 | non=>cases r;rfl
 | bl b=>cases r;rfl
 | int i=>cases r;rfl
 | str x=>cases r;rfl
 | tup ds=>obtain⟨a,vs,rfl,h1,h2⟩:=r;rfl
 | lst ds=>obtain⟨a,vs,rfl,h1,h2⟩:=r;rfl
end L2
namespace L2
theorem YH.mono'(h:YH H d v)(k:ZC H H'):YH H' d v:=YH.mono k d v h
theorem ZN.mono'(h:ZN H ds vs)(k:ZC H H'):ZN H' ds vs:=ZN.mono k ds vs h
end L2
namespace L2
open PySem PySem.Spec PyProof.Rows
def CI(lo:Int)(n:Nat):It:=⟨fun i _=>i < n,fun i H x H'=>H'=H/\x = .int (lo - i),fun i _=>n<=i⟩
theorem OQ{P:fA}{w:fB}{K:uFg}{tg:Expr}(it:eZ)(lo:Int)(n:Nat):WI P w K tg (CI lo n) [it] it (fun i h=>IsRangeIter h it (lo+(i:Nat) * (-1)) ((n:Int) - (i:Nat)) (-1)) where
 mem:=by simp
 obj:=fun i h st b hb=>by grind
 keep:=fun i h h' st k=>k it (by simp) _ st
 item:=by
  intro X hP hw hK hc i pins s σ H E I hf st hg;subst hP hw hK;obtain⟨f0,f1,f2,f3,f4,f5⟩:=hf it (by simp);have W:=Walks.range (prog:=X.prog) (w:=X.w) (I.ok.hd hc) it lo (-1) n;refine W.item i s _ _ hg st fun v h' tk hv st' kk=>?_;obtain⟨t,rfl⟩:=hv;have I1:ZD X pins σ H {s with heap:=h',toks:=tk }:=I.turned (fun b o hb e=>kk b o (by simpa using hb) e) f0 f1 f3 f4 f5;refine⟨_,rfl,AE (s:={s with heap:=h',toks:=tk }) (n:="range_iterator") st' rfl rfl aA ⟨.int (lo - i),H,I1,⟨t,?_⟩,⟨rfl,rfl⟩,st',fun b hb=>(hf b hb).1⟩⟩;have e:lo+(i:Int) * (-1)=lo - i:=by lia
  rw[e]
 done:=by
  intro X hP hw hK hc i pins s σ H E I hf st hg;subst hP hw hK;obtain⟨f0,f1,f2,f3,f4,f5⟩:=hf it (by simp);exact wpAny_pyNext_range_end (I.ok.hd hc) st (by have:n<=i:=hg;lia) fun h' eb=>⟨rfl,I.turned (t':=s.toks) (fun b o hb e=>eb b o hb e) f0 f1 f3 f4 f5⟩
 self:=fun _ _ _ _ _ st h=>wpAny_pyIter_rangeiter st h
section
variable{X:Cx}{tg:Expr}
theorem Xv{pins:List (eZ×Obj)}{σ:St}{H:Hp}{s:eX}{R:It->Hp->Prop}{E:eQ}{lo hi:Int}{t u v:Tok}{tk:Nat}(I:ZD X pins σ H s)(h1 : -(2 ^ 62)<=lo)(h2:lo < 2 ^ 62)(h3 : -(2 ^ 62)<=hi)(h4:hi < 2 ^ 62)(q:R (CI lo (lo - hi).toNat) H):wpAny (model X.prog X.w) X.A (pyIter (.ref s.heap.objs.size)) (DA X pins σ tg R) E {s with heap:=s.heap.push {cls:=.type "range", data:=.fields #[.int lo t,.int hi u,.int (-1) v] },toks:=tk }:=by
 refine wpAny_pyIter_range (IsRange.new ..) (PySem.W.small_down h1 h2 h3 h4) ?_;have I1:ZD X pins σ H {s with heap:=s.heap.push {cls:=.type "range", data:=.fields #[.int lo t,.int hi u,.int (-1) v] },toks:=tk }:=I.kept fun b o e=>xB _ e;refine⟨(s.heap.push {cls:=.type "range", data:=.fields #[.int lo t,.int hi u,.int (-1) v] }).objs.size,[(s.heap.push {cls:=.type "range", data:=.fields #[.int lo t,.int hi u,.int (-1) v] }).objs.size],_,_,H,rfl, I1.kept (t':=tk) fun b o e=>xB _ e,OQ _ lo (lo - hi).toNat,?_,fun b hb=>?_,q⟩
 ·have e1:lo+((0:Nat):Int) * (-1)=lo:=by simp
  have e2:(((lo - hi).toNat:Nat):Int) - ((0:Nat):Int)=Builtin.Range.rangeSize lo hi (-1):=by rw[PySem.W.rangeSize_downNat];lia
  show IsRangeIter _ _ (lo+((0:Nat):Int) * (-1)) ((((lo - hi).toNat:Nat):Int) - ((0:Nat):Int)) (-1);rw[e1,e2];exact xL _ rfl
 ·have e:b=(s.heap.push {cls:=.type "range", data:=.fields #[.int lo t,.int hi u,.int (-1) v] }).objs.size:=by simpa using hb
  subst e;exact I1.fpOk (xH _) (I1.hok.fresh (xH _))
inductive Av(R:It->Hp->Prop)(vs:aG)(H1:Hp):Prop
 |mk(i j)(_:vs = [.int i,.int j,.int (-1)])(_:(-(2 ^ 62)<=i/\i < 2 ^ 62 /\ -(2 ^ 62)<=j/\j < 2 ^ 62))(_:R (CI i (i - j).toNat) H1)
def dF(ta:TA):TI:=fun σ H R=>ta σ H fun vs H1=>Av R vs H1
theorem X4{a b c:Expr}{ta:TA}{p pos:Pos}(hm:X.mg "range" = none)(ha:QA X [a,b,c] ta)(hg:nB X "range" .globalImplicit:=by kernel_rfl)(hs:starEach [a,b,c] X.env=(false,eval a X.env)::starEach [b,c] X.env:=by rfl)(hs2:(backTo pos (starEach [b,c] X.env)).any (·.1)=false:=by rfl) :
  QI X tg (.Call (.Name "range" p) [a,b,c] [] pos) (dF ta):=⟨by
 have hg:=(od hg).1;have ha:=ha.h;intro pins s σ H R I h;refine Call_ (Ui I hg hm boot_range (PyProof.Rows.callWith_type1 (thn (ha pos pins s σ H _ I h) fun us s1 ⟨vs,H1,I1,r1,q1⟩=>?_) hs hs2));obtain⟨i,j,e,⟨q1,q2,q3,q4⟩,q⟩:=q1;subst e;cases r1 with
 | cons r rr =>
  cases rr with
  | cons r' rr =>
   cases rr with
   | cons r'' rr =>
    cases rr;obtain⟨t,rfl⟩:=r;obtain⟨t',rfl⟩:=r';obtain⟨t'',rfl⟩:=r''
    exact call_range_3 aA (Xv I1 q1 q2 q3 q4 q) (.inl (PyProof.noPylong_small aA))⟩
end
section
variable{g:TG}{tb:TS}{D:ZW}{σ:St}{H:Hp}
theorem bT{lo:Int}{n:Nat}(m:Nat)(hm:n=m)(Pv:Nat->St->Hp->Prop)(h0:Pv 0 σ H)(hs:∀i σ H,i < m->Pv i σ H->g (.int (lo - i)) σ H fun σ2 H2=>tb {D with nx:=Pv (i+1),ct:=Pv (i+1),bk:=D.nx } σ2 H2)(hd:∀ σ H,Pv m σ H->D.nx σ H):TZ (CI lo n) g tb D σ H:=by
 subst hm;refine⟨fun i k σ H=>k=n - i/\i<=n/\Pv i σ H,⟨n,rfl,yO _,h0⟩,?_⟩;rintro i k σ H ⟨rfl,hi,p⟩
 by_cases e:i < n
 ·refine .inr ⟨e,Pv (i+1),fun σ' H' p'=>⟨n - (i+1),by lia,rfl,by lia,p'⟩,?_⟩;rintro x H' ⟨rfl,rfl⟩;exact hs i σ H' e p
 ·have:i=n:=by lia
  subst this;exact .inl ⟨xH _,hd σ H p⟩
end
section
variable{o:Expr}
inductive UM(y x:V)(H:Hp)(Q:VK):Prop
 |mk(a o)(_:x = .ref a)(_:ZY H a y o)(_:Q (.bl (!o.isSome)) H)
inductive B4(y x:V)(H:Hp)(Q:VK):Prop
 |mk(a o)(_:x = .ref a)(_:ZY H a y o)(_:Q (.bl o.isSome) H)
theorem MF(hu:X.A.units+1 < cLine):Je X (compareOp .NotIn) UM:=by
 intro pins s σ H y x iv u Q I ry rx ⟨a,ov,ex,g,q⟩;subst ex;obtain rfl:u=Value.ref a:=rx;exact PP hu I g ry fun s3 I3=>⟨.bl (!ov.isSome),H,I3,rfl,q⟩
theorem Qn(hu:X.A.units+1 < cLine):Je X (compareOp .In) B4:=by
 intro pins s σ H y x iv u Q I ry rx ⟨a,ov,ex,g,q⟩;subst ex;obtain rfl:u=Value.ref a:=rx;exact P2 hu I g ry fun s3 I3=>⟨.bl ov.isSome,H,I3,rfl,q⟩
theorem EO(hr:ZJ k X.A):YK X (compareOp .NotIn) UM:=⟨MF (by have:=hr.units;lia)⟩
theorem EW(hr:ZJ k X.A):YK X (compareOp .In) B4:=⟨Qn (by have:=hr.units;lia)⟩
theorem NJ:QE X (.Dict [] [] pos) QF:=⟨fun pins s σ H Q I h => wpAny_Dict_empty ⟨.ref s.heap.objs.size,_,I.laid (a:=s.heap.objs.size) (o:=.dT []) (t':=s.toks) (fun _ _ q=>xB _ q) (xH _) (LX s.heap I.big),rfl,h _ (I.hok.fresh (xH _))⟩⟩
theorem Bp(hr:ZJ k X.A)(ho:QE X o td)(hi:QE X i ty)(hv:QE X value tv)(hs:swapsWith value (some (.Subscript o i pos')) pos.line X.env=pure false:=by rfl) :
  QS X (.Assign [.Subscript o i pos'] value pos) (HG td ty tv):=⟨Xh (by have:=hr.units;lia) ho.h hi.h hv.h hs⟩
end
section
variable{prog:fA}{w:fB}{K:Type} [DecidableEq K] {knd:HeapKind prog w K}{A:fD}{E:eQ}{s:eX}
end
section
variable{X:Cx}{pins:List (eZ×Obj)}{σ:St}{H:Hp}{s:eX}{a b:eZ}{z:V}{r:eY}{kvs:List (List ZQ×V)}{k:List ZQ}{A:fD}{E:eQ}
end
section
variable{n:Nat}
theorem CU(hr:ZJ n X.A)(ho:QE X o td)(he:QE X e ty)(hf:QE X f tx)(m:M2 X o "get" apos e f cpos:=by exact⟨rfl,rfl,rfl,rfl⟩):QE X (.Call (.Attribute o "get" apos) [e,f] [] cpos) (GQ td ty tx):=⟨cL (by have:=hr.units;lia) ho.h he.h hf.h m⟩
end
theorem Vd{X:Cx}{st:Stmt}:QS X st (fun _ _ _=>False):=⟨fun _ _ _ _ _ _ h=>h.elim⟩
def Ei(K:uFg)(l:eZ):It :=
 ⟨fun i H=>∃xs,ZF K H l xs/\i < xs.length,fun i H v H'=>∃p a,v = .ref p/\H p=none/\H'=upd H p (.tup [.int i,a])/\∀xs,ZF K H l xs->xs[i]? = some a,
  fun i H=>∃xs,ZF K H l xs/\xs.length<=i⟩
theorem Sd{P:fA}{w:fB}{K:uFg}{elts:List Expr}{ek:Nat}{epos:Pos}{e it l:eZ}(hei:e≠it)(hle:l≠e)(hli:l≠it) :
  WI P w K (.Tuple elts ek epos) (Ei K l) [e,it] e (fun i h=>(∃old,IsEnum h e it i old)/\h.IsListIter it l i) where
 mem:=by simp
 obj:=fun i h st b hb=>by
  obtain⟨⟨old,he⟩,⟨o,ho,hc,hd⟩⟩:=st;simp only[xC,xT,or_false] at hb;rcases hb with rfl | rfl
  ·exact⟨_,he,fun v q=>by cases q⟩
  ·exact⟨o,ho,fun v q=>by rw[hd] at q;cases q⟩
 keep:=fun i h h' st k=>by
  obtain⟨⟨old,he⟩,hit⟩:=st;exact⟨⟨old,k e (by simp) _ he⟩,hit.at fun o x=>k it (by simp) o x⟩
 item:=by
  intro X hP hw hK hc i pins s σ H E I hf st hg;subst hP hw hK;obtain⟨⟨old,he⟩,hit⟩:=st;obtain⟨xs,q1,hx⟩:=hg;obtain⟨its,r1,w1,_⟩:=I.list q1;have gx:xs[i]? = some xs[i]:=xE hx;obtain⟨u1,hu1,ru1⟩:=r1.get gx;refine wpAny_pyNext_enum_item he hit w1.isList (by simpa using hu1) hei fun h' ho hit' hT hsz kp=>?_;refine⟨_,rfl,?_⟩;have hp:H s.heap.objs.size=none:=I.hok.fresh (xH _);have ltp:∀c o,s.heap.get? c=some o->c≠s.heap.objs.size:=fun c o e=>yJ (xP e);have kp':∀c o,c ∉ [e,it]->s.heap.get? c=some o->h'.get? c=some o:=fun c o hc e=>kp c o (fun q=>hc (by simp[q])) (fun q=>hc (by simp[q])) e;have ntr:∀c u,H c=some u->c ∉ [e,it]:=fun c u e hc=>by
   have:=(hf c hc).1;rw[this] at e;cases e
  have I1:ZD X pins σ (upd H s.heap.objs.size (.tup [.int i,xs[i]])) {s with heap:=h',toks:=s.toks+1 }:=by
   refine I.step (g':=s.gens) (d':=s.drawn) (t':=s.toks+1) (ch:=[e,it]) (fun c hc=>?_) (fun c o _ _ hc e _=>kp' c o hc e) (fun c o _ _ hc e _=>⟨o.slots,kp' c o hc e⟩) (fun c o hc e n=>by rw[Zc (ltp c o e)];exact n)
    (fun c o hc e=>⟨o,kp' c o hc e⟩) (fun c us e=>by rw[Zc (Zi e hp)];exact e) (fun c o u e=>by rw[Zc (Zi e hp)];exact e) (fun c ps e=>⟨#[],by rw[Zc (Zi e hp),e];simp⟩) (fun m hm=>?_) ?_ I.bare
   ·obtain⟨f0,f1,f2,f3,f4,f5⟩:=hf c hc;exact⟨f3,f1,f4,f5⟩
   ·refine hm.at fun o e=>kp' _ o (fun hc=>?_) e;exact(hf _ hc).2.1 rfl
   ·intro c u e
    by_cases hcp:c=s.heap.objs.size
    ·subst hcp;rw[Zg] at e;cases e;exact⟨aB rfl,[.int i s.toks,u1],.cons ⟨s.toks,rfl⟩ (.cons ru1 .nil),⟨_,hT,rfl,_,rfl⟩⟩
    ·rw[Zc hcp] at e;refine(I.hok c u e).stay (fun d v hd q=>kp' d v ?_ q) (fun d q=>by rw[Zc (Zi q hp)];exact q) fun d us q=>by rw[Zc (Zi q hp)];exact q
     rcases hd with rfl | hd
     ·exact ntr _ u e
     ·exact ntr _ _ hd
  refine wpAny_letOwnedTupleGo_enum (s:={s with heap:=h',toks:=s.toks+1 }) ho fun h2 z2 e2=>?_;obtain⟨f0,f1,f2,f3,f4,f5⟩:=hf e (by simp);have nz:e≠s.heap.objs.size:=ltp e _ he;have I2:ZD X pins σ (upd H s.heap.objs.size (.tup [.int i,xs[i]])) {s with heap:=h2,toks:=s.toks+1 }:=I1.turned (s:={s with heap:=h',toks:=s.toks+1 }) (it:=e) (t':=s.toks+1) (fun c o hc e=>(e2.2 c hc).trans e) (by rw[Zc nz];exact f0) f1 f3 f4 f5;have z2':IsEnum h2 e it ((i+1:Nat):Int) u1:=by grind
  refine⟨.ref s.heap.objs.size,_,I2,rfl,⟨s.heap.objs.size,xs[i],rfl,hp,rfl,fun xs' q1'=>?_⟩,⟨⟨_,z2'⟩,hit'.at fun o x=>(e2.2 it hei.symm).trans x⟩,fun c hc=>?_⟩
  ·rw[I.list_inj q1' q1];exact gx
  ·obtain⟨o,ho⟩:∃o,s.heap.get? c=some o:=by
    simp only[xC,xT,or_false] at hc;rcases hc with rfl | rfl
    ·exact⟨_,he⟩
    ·obtain⟨o,x,_⟩:=hit;exact⟨o,x⟩
   rw[Zc (ltp c o ho)];exact(hf c hc).1
 done:=by
  intro X hP hw hK hc i pins s σ H E I hf st hg;subst hP hw hK;obtain⟨⟨old,he⟩,hit⟩:=st;obtain⟨xs,q1,hend⟩:=hg;obtain⟨its,r1,w1,_⟩:=I.list q1;refine wpAny_pyNext_enum_end (I.ok.hd hc) he hit w1.isList (by have e1:=r1.length;simp;lia) fun h' kp=>⟨rfl,?_⟩;obtain⟨f0,f1,f2,f3,f4,f5⟩:=hf it (by simp);exact I.turned (it:=it) (t':=s.toks) (fun c o hc e=>kp c o hc e) f0 f1 f3 f4 f5
 self:=fun A i s Q E st h=>by
  obtain⟨⟨old,he⟩,_⟩:=st;exact wpAny_pyIter_enum he h
inductive Ar(K:uFg)(R:It->Hp->Prop)(vs:aG)(H1:Hp):Prop
 |mk(l xs)(_:vs = [.ref l])(_:ZF K H1 l xs)(_:R (Ei K l) H1)
def RN(K:uFg)(ta:TA):TI:=fun σ H R=>ta σ H fun vs H1=>Ar K R vs H1
theorem Xb:bootBuiltins "enumerate" = some (.type "enumerate"):=aA
theorem Qv{X:Cx}{a:Expr}{ta:TA}{p pos:Pos}{elts:List Expr}{ek:Nat}{epos:Pos}(hm:X.mg "enumerate" = none)(ha:QA X [a] ta)(hg:nB X "enumerate" .globalImplicit:=by kernel_rfl)(hs:starEach [a] X.env = [(false,eval a X.env)]:=by rfl) :
  QI X (.Tuple elts ek epos) (.Call (.Name "enumerate" p) [a] [] pos) (RN X.K ta):=⟨by
 have hg:=(od hg).1;have ha:=ha.h;intro pins s σ H R I h;refine Call_ (Ui I hg hm Xb (PyProof.Rows.callWith_type1 (thn (ha pos pins s σ H _ I h) fun us s1 ⟨vs,H1,I1,r1,q1⟩=>?_) hs rfl));obtain⟨l,xs,e,h1,q⟩:=q1;subst e;obtain⟨u1,rfl,ru1⟩:=Vg r1;cases ru1;obtain⟨its,r1,p1,_⟩:=I1.list h1;have b1:l < s1.heap.objs.size:=by obtain⟨o,n,e,_⟩:=p1;exact xP e
 refine call_enumerate_list p1.isList fun h' z0 st1 _ kp=>?_;refine wpAny_pyIter_enum z0 ?_;have b1' : @LT.lt Nat _ l s1.heap.objs.size:=b1;have key:∀(a b:Nat),(a < b\/b < a)->¬(@Eq Nat a b):=fun a b h q=>by lia
 refine⟨s1.heap.objs.size+1,_,_,_,H1,rfl,I1.kept (h':=h') (t':=s1.toks) kp,Sd (it:=s1.heap.objs.size) (l:=l) (key _ _ (by lia)) (key _ _ (by lia)) (key _ _ (by lia)),⟨⟨_,z0⟩,st1⟩,fun c hc=>?_,q⟩;have hle:s1.heap.objs.size<=c:=by grind
 exact I1.fpOk hle (I1.hok.fresh hle)⟩
theorem P4{K:uFg}{l:eZ}{g:TG}{tb:TS}{D:ZW}{σ:St}{H:Hp}(xs:aG)(Pv:Nat->St->Hp->Prop)(h0:Pv 0 σ H)(hl:∀i σ H,i<=xs.length->Pv i σ H->ZF K H l xs)(hs:∀i x p σ H,xs[i]? = some x->Pv i σ H->H p=none->g (.ref p) σ (upd H p (.tup [.int i,x])) fun σ2 H2=>tb {D with nx:=Pv (i+1),ct:=Pv (i+1),bk:=D.nx } σ2 H2)(hd:∀ σ H,Pv xs.length σ H->D.nx σ H):TZ (Ei K l) g tb D σ H:=by
 refine⟨fun i m σ H=>m=xs.length - i/\i<=xs.length/\Pv i σ H,⟨xs.length,by simp,yO _,h0⟩,?_⟩;rintro i m σ H ⟨rfl,hi,p⟩;have q1:=hl i σ H hi p
 by_cases hlt:i < xs.length
 ·refine .inr ⟨⟨xs,q1,hlt⟩,Pv (i+1),fun σ' H' p'=>⟨xs.length - (i+1),by lia,rfl,hlt,p'⟩,fun v H' y=>?_⟩;obtain⟨pp,a,rfl,hp,rfl,hv⟩:=y;exact hs i a pp σ H (hv xs q1) p hp
 ·have e:i=xs.length:=by lia
  subst e;exact .inl ⟨⟨xs,q1,xH _⟩,hd σ H p⟩
structure ZS (K:uFg) (C:eZ) (m qual:Str) (st:Stmt):Prop where
 ex:∃(f:eZ)(fd:FuncData),UN K m qual st f fd/\VI K C m f
structure Mt (P:fA) (w:fB) (K:uFg) (mg:eR) (base:Heap) (C:eZ) (m:Str) (ps:eS) (k:Nat) (sp:Sp):Prop where
 ex:∃(f:eZ)(fd:FuncData),VI K C m f/\ZZ P w K mg base YY k f fd ps sp/\YE K fd ps []
section
variable{P:fA}{w:fB}{K:uFg}{mg:eR}{base:Heap}{C:eZ}{m qual:Str}{st:Stmt}{N ps:eS}{k:Nat}{sp:Sp}
theorem ZS.mtQ(h:ZS K C m qual st)(S:ZL N ps (Zj st))(hb:∀ (kV doc pm:eY) (an:Option eZ) (cdv ct:eY) (us:eU),us.length=ps.length->bindArgs (PySem.W.fnOf m qual (Wa st) (Yd st) (Zj st) .none kV doc pm an cdv ct) ⟨us,[]⟩=pure (ps.zip us))(len:∀vs H Q E,sp vs H Q E->vs.length=ps.length)(hbody:∀ (f:eZ) (cdv:eY) (A:fD) (outer:List Env) (s:eX) (H:Hp) (vs:aG) (Q:VK) (E:XK),ZJ k (A.deeper (envOfC qual (Zj st) s.heap.objs.size f cdv))->sp vs H Q E -> ∃t,YS (Yp YY P w K mg base N qual (Zj st) f cdv A outer s H E).nox (Yd st) t/\t {nx:=fun _ H'=>Q .non H',rt:=Q } (start N vs) H):Mt P w K mg base C m ps (k+1) sp:=by
 obtain⟨f,fd,F,M⟩:=h.ex;exact⟨f,fd,M,F.okQ S len (hbody f),F.binds hb⟩
theorem ZS.mq(h:ZS K C m qual st)(N:eS)(hbody:∀{f:eZ}{cdv:eY}{A:fD}{outer:List Env}{s:eX}(H:Hp) (vs:aG) (Q:VK) (E:XK),ZJ k (A.deeper (envOfC qual (Zj st) s.heap.objs.size f cdv))->sp vs H Q E->vs.length=ps.length/\∃t,YS (Yp YY P w K mg base N qual (Zj st) f cdv A outer s H E).nox (Yd st) t/\t {nx:=fun _ H'=>Q .non H',rt:=Q } (start N vs) H)(S:ZL N ps (Zj st):=by exact fsc)(hk:k<=60:=by decide)(hb:∀ (kV doc pm:eY) (an:Option eZ) (cdv ct:eY) (us:eU),us.length=ps.length->bindArgs (PySem.W.fnOf m qual (Wa st) (Yd st) (Zj st) .none kV doc pm an cdv ct) ⟨us,[]⟩=pure (ps.zip us):=by exact fun _ _ _ _ _ _=>by first | exact al1 fun _=>rfl | exact al2 fun _ _=>rfl | exact al3 fun _ _ _=>rfl | exact al4 fun _ _ _ _=>rfl | exact al5 fun _ _ _ _ _=>rfl | exact al6 fun _ _ _ _ _ _=>rfl | exact al7 fun _ _ _ _ _ _ _=>rfl | exact al8 fun _ _ _ _ _ _ _ _=>rfl):Mt P w K mg base C m ps (k+1) sp :=
 h.mtQ S hb (fun vs H Q E h=>(hbody (f:=0) (cdv:=.none) (A:={}) (outer:=[]) (s:={}) H vs Q E (Cr hk) h).1) fun _ _ _ _ _ H vs Q E hr q=>(hbody H vs Q E hr q).2
theorem Ou{f:eZ}{oc:eY}{od an:Option eZ}{osl:Array (Option eY)}{kV doc pm cdv ct:eY}(a:PySem.W.findIn K (.ref C) m=some (some (.ref f)))(i:PySem.W.isFn K (.ref f)=true)(l:K.lookup f=some ⟨oc,od,.func (PySem.W.fnOf m qual (Wa st) (Yd st) (Zj st) .none kV doc pm an cdv ct),osl⟩)(c:PySem.W.codeIn K cdv qual=true)(kp:PySem.W.keepIn K (.ref f)=true):ZS K C m qual st:=⟨f,_,Fl l c kp,⟨a,i,kp⟩⟩
theorem hMQ(C:eZ)(m qual:Str)(st:Stmt)(f c:eZ)(pm:eY)(e:PySem.W.findIn K (.ref C) m=some (some (.ref f))/\PySem.W.isFn K (.ref f)=true/\K.lookup f=some ⟨.type "function", none,.func (PySem.W.fnOf m qual (Wa st) (Yd st) (Zj st) .none .none .none pm none (.ref c) .none),#[]⟩/\PySem.W.codeIn K (.ref c) qual=true/\PySem.W.keepIn K (.ref f)=true):ZS K C m qual st:=Ou e.1 e.2.1 e.2.2.1 e.2.2.2.1 e.2.2.2.2
structure AG (P:fA) (w:fB) (K:uFg) (mg:eR) (base:Heap) (C:eZ) (x:Str) (k:Nat) (sp:Sp):Prop where
 ex:∃(f:eZ)(fd:FuncData),Mk K C f/\ZZ P w K mg base YY k f fd ["self"] sp/\YE K fd ["self"] []/\mg x=some (.ref C)
theorem Mt.mks(h:Mt P w K mg base C "__init__" ["self"] k sp)(mk:PySem.W.makesIn K C=true)(kc:PySem.W.keepIn K (.ref C)=true)(g:mg x=some (.ref C)):AG P w K mg base C x k sp:=by
 obtain⟨f,fd,M,F,B⟩:=h.ex;exact⟨f,fd,⟨mk,M.at_,M.fn,kc⟩,F,B,g⟩
end
section
variable{X:Cx}{C:eZ}{m x f:Str}{ps:eS}{k:Nat}{sp:Sp}{o e i:Expr}{es:List Expr}{ta:TE}{t:TA}{apos pos p:Pos}
theorem Vi{pl:Sem Bool}(he:QE X o ta)(c:VN X.K C)(M:Mt X.prog X.w X.K X.mg X.base C m ps k sp)(ha:QA X (e::es) t)(hr:ZJ k X.A:=by exact ZJ.mono (by assumption) (by first | decide | lia))(hst:starEach (e::es) X.env=(false,eval e X.env)::starEach es X.env:=by rfl)(hpl:(backTo pos (starEach es X.env)).any (·.1)=false:=by rfl)(ht:eval (.Call (.Attribute o m apos) (e::es) [] pos) X.env=(do
   let ov ← eval o X.env
   standAt apos.atName
   let (f,first) ← holding [ov] (getMethod ov m pl)
   callWith pos f first (backTo pos (starEach (e::es) X.env)) (backToKw pos (keywordEach [] X.env))):=by rfl) :
  QE X (.Call (.Attribute o m apos) (e::es) [] pos) (De C m sp [] E0 ta t):=by
 obtain⟨f,fd,M,F,B⟩:=M.ex;exact⟨QP he.h c M F hr B .nil Dm ha.h hst hpl ht⟩
theorem AJ{pl:Sem Bool}(he:QE X o ta)(c:VN X.K C)(M:Mt X.prog X.w X.K X.mg X.base C m ps k sp)(hr:ZJ k X.A:=by exact ZJ.mono (by assumption) (by first | decide | lia))(ht:eval (.Call (.Attribute o m apos) [] [] pos) X.env=(do
   let ov ← eval o X.env
   standAt apos.atName
   let (f,first) ← holding [ov] (getMethod ov m pl)
   callWith pos f first (backTo pos (starEach [] X.env)) (backToKw pos (keywordEach [] X.env))):=by rfl) :
  QE X (.Call (.Attribute o m apos) [] [] pos) (De C m sp [] E0 ta Ud):=by
 obtain⟨f,fd,M,F,B⟩:=M.ex;exact⟨SS he.h c M F hr B .nil Dm ht⟩
theorem C6(M:AG X.prog X.w X.K X.mg X.base C x k sp)(hr:ZJ (k+1) X.A:=by exact ZJ.mono (by assumption) (by first | decide | lia))(n:nB X x .globalImplicit:=by kernel_rfl):QE X (.Call (.Name x p) [] [] pos) (HE C sp [] E0 Ud):=by
 obtain⟨f,fd,M,F,B,g⟩:=M.ex;exact⟨PQ M F hr (od n).1 g B .nil Dm (od n).2.1⟩
theorem Z5(he:QE X e ta)(hb:attributeBase e f X.env (eval e X.env)=eval e X.env:=by rfl):QE X (.Attribute e f pos) (DM X.K ta f):=⟨KG he.h hb⟩
theorem Wj(ha:QE X o ta)(hv:QE X value tv)(hs:swapsWith value (some (.Attribute o f pos')) pos.line X.env=pure false:=by rfl):QS X (.Assign [.Attribute o f pos'] value pos) (Qj X.K ta tv f):=⟨by
 have ha:=ha.h;have hv:=hv.h;intro pins s σ H D I h;refine plainObj_wpAny_Assign_Attribute (thn (hv pins s σ H _ I h) fun u s1 ⟨y,H1,I1,ry,q⟩=>thn (ha pins s1 σ H1 _ I1 q) fun ov s2 ⟨x,H2,I2,rx,a,C,dx,fs,ex,ea,c,n,l,q2⟩=>?_) hs;subst ex;obtain rfl:ov=Value.ref a:=rx
 exact XJ I2 ea c n l ry fun s3 I3=>⟨σ,_,I3,q2⟩⟩
theorem AZ:QE X (.Dict [] [] pos) cR:=⟨fun pins s σ H Q I h => wpAny_Dict_empty ⟨.ref s.heap.objs.size,_,I.laid (a:=s.heap.objs.size) (o:=.dK []) (t':=s.toks) (fun _ _ q=>xB _ q) (xH _) (KP s.heap I.big),rfl,h _ (I.hok.fresh (xH _))⟩⟩
theorem BA(hr:ZJ k X.A)(ho:QE X o td)(hi:QE X i ty)(hs:Ew i):QE X (.Subscript o i pos) (Hj td ty):=⟨R3 (by have:=hr.units;lia) ho.h hi.h hs⟩
theorem Sh(hk:QE X ek tk)(hv:QE X ev tw):QE X (.Dict [some ek] [ev] pos) (ER [(tk,tw)]):=⟨HS (HH hk.h hv.h HU) rfl rfl (by simp) (by show 1<=15;decide)⟩
inductive BX(xs:aG)(H:Hp)(Q:VK):Prop
 |mk(a kvs)(_:xs = [V.ref a])(_:H a=some (.dK kvs))(_:Q (.int kvs.length) H)
theorem MH:QC X (.builtin "len") BX:=.imp ⟨Ny⟩ fun _ _ _ ⟨p,y,a,b,k⟩=>⟨p,y,a,b,k⟩
end
theorem Sk(he:QE (ccx X scope cl C N' s0 H0 ex pn) e ta)(hb:attributeBase e f (ccx X scope cl C N' s0 H0 ex pn).env (eval e (ccx X scope cl C N' s0 H0 ex pn).env)=eval e (ccx X scope cl C N' s0 H0 ex pn).env:=by rfl):QE (ccx X scope cl C N' s0 H0 ex pn) (.Attribute e f pos) (DM X.K ta f):=⟨KG (X:=ccx X scope cl C N' s0 H0 ex pn) he.h hb⟩
def stS(r:eS)(x:Str):List Str:=if r.any (· == x) then r else r ++ [x]
def fmS(val:Nat->Str):Nat->List Str
 | 0=>[]
 | i+1=>stS (fmS val i) (val i)
theorem Eo(val:Nat->Str):∀i,(fmS val i).length<=i
 | 0=>xH _
 | i+1=>by
  have ih:=Eo val i;unfold fmS stS;split
  ·lia
  ·rw[xD,yL];lia
theorem SH(r:eS)(v k:Str):(stS r v).any (· == k)=(r.any (· == k) || decide (k=v)):=by
 unfold stS
 by_cases h:r.any (· == v)=true
 ·rw[if_pos h]
  by_cases e:k=v
  ·subst e;rw[h];simp
  ·simp[e]
 ·grind
theorem NS(r:eS)(v:Str):(stS r v).length=if r.any (· == v) then r.length else r.length+1:=by
 unfold stS;split<;>simp
section
variable{prog:fA}{w:fB}{A:fD}{R:Result->eX->Prop}{I:eZ}{fp wr:eW}{G:Array GenState->Array GenState->Prop}{n:Nat}{P:Nat->eY->Prop}{St:Nat->eX->Prop}
theorem LO(W:WalksS prog w A.in1 I fp wr G n P St)(S:eZ)(hSf:S∉fp)(val:Nat->Str)(hval:∀i v,P i v->∃t,v = .str (val i) t)(hb:n+1 < scanBound) :
  ∀(k i:Nat)(s:eX),n - i=k->i<=n->St i s->s.heap.SetOf (strKind prog w) S (fun k'=>(fmS val i).any (· == k')) (fmS val i).length ->
   (∀s',Moved (S::wr) G s s'->s'.heap.SetOf (strKind prog w) S (fun k'=>(fmS val n).any (· == k')) (fmS val n).length->R (.ok (.ret .none)) s')->
   codeAny (model prog w) A (.builtin "set.update.loop" ⟨[.ref S,.ref I],[]⟩) R s:=by
 have hSw:S∉wr:=fun h=>hSf (W.sub _ h);have hsub:∀b∈wr,b∈S::wr:=fun b hb=>xG _ hb;intro k
 induction k with
 | zero =>
  intro i s hk hi hst hS hR;have hin:i=n:=by lia
  subst hin;refine codeAny_builtin F.entry_set_update_loop ?_;rw[Around.under_plainId F.plain_set_update_loop _];show wpAny _ A.in1 (pyNext (.ref I) >>= _) _ _ s;refine wpAny_bind (W.done s _ _ hst fun s' hm=>?_);show wpAny _ A.in1 (ret Value.none) _ _ s'
  exact wpAny_pure (hR s' (hm.mono hsub) (by
   obtain⟨o,es,ep,t,ho,rest⟩:=hS
   exact⟨o,es,ep,t,hm.heap S _ hSw ho,rest⟩))
 | succ k ih =>
  intro i s hk hi hst hS hR;have hlt:i < n:=by lia
  refine codeAny_builtin F.entry_set_update_loop ?_;rw[Around.under_plainId F.plain_set_update_loop _];show wpAny _ A.in1 (pyNext (.ref I) >>= _) _ _ s;refine wpAny_bind (W.item i s _ _ hlt hst fun v s' hP hst' hm=>?_);obtain⟨t,rfl⟩:=hval i v hP;have hS':s'.heap.SetOf (strKind prog w) S (fun k'=>(fmS val i).any (· == k')) (fmS val i).length:=by
   obtain⟨o,es,ep,tb,ho,rest⟩:=hS;exact⟨o,es,ep,tb,hm.heap S _ hSw ho,rest⟩
  show wpAny _ A.in1 (holding [Value.str (val i) t] (setAdd S (.str (val i) t)) >>= _) _ _ s';refine wpAny_bind (wpAny_holding ?_);unfold setAdd;refine wpAny_holding ?_;refine wpAny_bind ((strKind prog w).pyHash (k:=val i) (strKind_is _ _ _ _) ?_);have hroom:(fmS val i).length+1 < scanBound:=by have:=Eo val i;lia
  refine wpAny_setAddHashed_of (knd:=strKind prog w) (s:={s' with toks:=s'.toks+1 }) (strKind_is _ _ _ _) rfl hS' hroom fun h' hsb hS2=>?_;have hSi:h'.SetOf (strKind prog w) S (fun k'=>(fmS val (i+1)).any (· == k')) (fmS val (i+1)).length:=SetOf_congr hS2 (fun k'=>(SH _ _ _).symm) (NS _ _).symm;refine wpAny_pure ⟨plainId_quiet F.plain_set_update_loop _,ih (i+1) _ (by lia) hlt (W.frame _ s' _ _ hst' (Nat.le_succ _) fun b hb o e=>?_) hSi fun s'' hm'' hS''=>?_⟩
  ·rw[hsb.2 b (fun h:b=S=>hSf (by rw[← h];exact hb))];exact e
  ·refine hR s'' (Moved.trans W.gtrans ((hm.mono hsub).then_heap (Nat.le_succ _) fun b o hb e=>?_) hm'') hS'';rw[hsb.2 b (fun h:b=S=>hb (by rw[h];exact xQ))];exact e
end
section
variable{prog:fA}{w:fB}{A:fD}{E:eQ}{s:eX}
theorem Rr{l:eZ}{items:Array eY}{val:Nat->Str}{Q:eQ}(hh:A.handled=none)(hl:s.heap.IsList l items)(hval:∀ (i:Nat) (v:eY),items[i]? = some v->∃t,v = .str (val i) t)(hb:items.size+1 < scanBound)(h:∀ (h':Heap) (tk:Nat),h'.SetOf (strKind prog w) s.heap.objs.size (fun k'=>(fmS val items.size).any (· == k')) (fmS val items.size).length -> (∀b o,b < s.heap.objs.size->s.heap.get? b=some o->h'.get? b=some o)->Q (.ref s.heap.objs.size) {s with heap:=h',toks:=tk }) :
  wpAny (model prog w) A (call (.type "set") [.ref l]) Q E s:=by
 obtain⟨c,tl,hmro⟩:=F.called_set.mro;have hmade:=F.called_set.made;have hsub:=F.called_set.sub;refine wpAny_call (codeAny_of_tree ?_);show wpAny _ _ (callAny (.type "set") _) _ _ _;refine wpAny_pure ⟨Code.quiet_builtin _ aA,codeAny_builtin F.entry_type_call ?_⟩;rw[Around.under_plain (weight_type_call_type "set" [.ref l] []) rfl];have h1:=F.called_set.notType;have h2:=F.called_set.canCreate;have hct:=F.typeCall_set_1 (.ref l)
 repeat (any_goals (first | assumption | wp_step))
 refine codeAny_mono (code_set_new_1 (.ref l) (E:=E) (Q₁:=fun obj s₁=>∃led:Bool,obj = .ref s.heap.objs.size/\s₁={s with heap:=s.heap.push {cls:=.type "set", dict:=none,data:=.set #[] 0 (.fresh 0 0 led) } }) fun led=>⟨led,rfl,rfl⟩) fun r s₁ hr=>?_;cases r with
 | error e=>exact hr
 | ok fl =>
  cases fl with
  | ret obj =>
   obtain⟨led,rfl,rfl⟩:=hr;have hS:(s.heap.push {cls:=.type "set", dict:=none,data:=.set #[] 0 (.fresh 0 0 led) }).get? s.heap.objs.size=some {cls:=.type "set", dict:=none,data:=.set #[] 0 (.fresh 0 0 led) }:=xL _ rfl;have hT:Shared.TypeIs {s with heap:=s.heap.push {cls:=.type "set", dict:=none,data:=.set #[] 0 (.fresh 0 0 led) } } (.ref s.heap.objs.size) "set" := ⟨_,hS,rfl⟩;have hli:=F.called_set.init.lookup;have hbi:=F.called_set.init.bind (.ref s.heap.objs.size)
   repeat (any_goals (first | assumption | wp_step))
   refine codeAny_mono (codeAny_call_builtin (R:=wants (fun r s₂=>r = .none/\∃h' tk,s₂={s with heap:=h',toks:=tk }/\h'.SetOf (strKind prog w) s.heap.objs.size (fun k'=>(fmS val items.size).any (· == k')) (fmS val items.size).length /\ (∀b o,b < s.heap.objs.size->s.heap.get? b=some o->h'.get? b=some o)) E) F.called_set.init.plain F.entry_set_init (check_set_init_1 hT ?_)) fun r₂ s₂ hr₂=>?_
   ·obtain⟨ol,hol,hcl,nl,hdl⟩:=hl;obtain⟨ocls,odict,odata,oslots⟩:=ol;simp only at hcl hdl;subst hcl;subst hdl;have hol':(s.heap.push {cls:=.type "set", dict:=none,data:=.set #[] 0 (.fresh 0 0 led) }).get? l=some {cls:=.type "list", dict:=odict,data:=.seq items nl,slots:=oslots }:=xB _ hol;have hsls:=F.sub_list_set;have hslf:=F.sub_list_frozenset;have hne:(Value.type "list" == Value.type "dict")=false:=by decide
    have hl1:(s.heap.push {cls:=.type "set", dict:=none,data:=.set #[] 0 (.fresh 0 0 led) }).IsList l items:=⟨_,hol',rfl,nl,rfl⟩;unfold Builtin.«set.__init__» noKeywords Builtin.Frozenset.updateFrom;generalize hPI:pyIter=PI
    wp_walk
    subst hPI;refine wpAny_pyIter_list hl1 ?_;refine wpAny_bind (wpAny_runValue ?_);have hlS:l < s.heap.objs.size:=xP hol;have hh3:A.in1.in1.in1.handled=none:=by simp[hh]
    have hneI:l≠(s.heap.push {cls:=.type "set", dict:=none,data:=.set #[] 0 (.fresh 0 0 led) }).objs.size:=by
     rw[yN];exact yJ (Nat.lt_succ_of_lt hlS)
    have hSf:s.heap.objs.size ∉ [(s.heap.push {cls:=.type "set", dict:=none,data:=.set #[] 0 (.fresh 0 0 led) }).objs.size,l]:=by
     rw[yN];simp only[xC,xO,xT,or_false,not_or];exact⟨yJ (wF _),Nat.ne_of_gt hlS⟩
    refine LO ((Walks.list hh3 _ l hneI items).toS) s.heap.objs.size hSf val hval hb (items.size - 0) 0 _ (by lia) (yO _) ⟨⟨_,xL _ rfl,rfl,rfl⟩,(hl1.push _)⟩ ?hS0 ?hR
    case hS0 =>
     have hget:((s.heap.push {cls:=.type "set", dict:=none,data:=.set #[] 0 (.fresh 0 0 led) }).push {cls:=.type "list_iterator", data:=.fields #[.ref l,.int 0 0] }).get? s.heap.objs.size
       = some {cls:=.type "set", dict:=none,data:=.set #[] 0 (.fresh 0 0 led) }:=xB _ hS
     exact SetOf_congr ((setObjOf_fresh (knd:=strKind prog w) led).setOf hget (by unfold scanBound;lia)) (fun _=>rfl) rfl
    case hR =>
     intro s' hm hS';obtain⟨h',g',d',tk',os'⟩:=s';have eg:g'=s.gens:=hm.gens;have ed:d'=s.drawn:=hm.drawn;have eo:os'=s.os:=hm.os;subst eg;subst ed;subst eo;show wpAny _ _ _ _ _ _;refine wpAny_pure ?_;show wpAny _ _ (ret Value.none) _ _ _;refine wpAny_pure ⟨rfl,h',tk',rfl,hS',fun b o hb e=>?_⟩;have hb1:b≠s.heap.objs.size:=yJ hb;have hb2:b≠(s.heap.push {cls:=.type "set", dict:=none,data:=.set #[] 0 (.fresh 0 0 led) }).objs.size:=by
      rw[yN];exact yJ (Nat.lt_succ_of_lt hb)
     exact hm.heap b o (by simp only[xC,xO,xT,or_false,not_or];exact⟨hb1,hb2⟩) (xB _ (xB _ e))
   ·cases r₂ with
    | error e=>exact hr₂
    | ok fl₂ =>
     cases fl₂ with
     | ret r =>
      obtain⟨rfl,h',tk,rfl,hS',hk'⟩:=hr₂
      repeat (any_goals (first | assumption | wp_step))
      exact h _ _ hS' hk'
     | _=>exact hr₂.elim
  | _=>exact hr.elim
end
def CZ(xs:eS):Nat:=(xs.foldl stS []).length
theorem G5(xs:eS):∀n,n<=xs.length->fmS (fun i=>xs.getD i "") n=(xs.take n).foldl stS []
 | 0,_=>rfl
 | n+1,h=>by
  show stS (fmS _ n) _=_;rw[G5 xs n (by lia),List.take_succ_eq_append_getElem (by lia),List.foldl_append];show stS _ (xs.getD n "")=stS _ (xs[n]);rw[yR,xE (by lia)];rfl
inductive Ti(K:uFg)(Q:VK)(vs:aG)(H1:Hp):Prop
 |mk(l) (xs)(_:vs = [.ref l])(_:ZF K H1 l (xs.map V.str))(_:xs.length<=1000)(_:Q (.int (CZ xs)) H1)
def Oi(K:uFg)(ta:TA):TE:=fun σ H Q=>ta σ H fun vs H1=>Ti K Q vs H1
theorem MC{a:Expr}{ta:TA}{p q pos pos':Pos}(hc:X.calm=true)(hml:X.mg "len" = none)(hm:X.mg "set" = none)(ha:QA X [a] ta)(hgl:nB X "len" .globalImplicit:=by kernel_rfl)(hg:nB X "set" .globalImplicit:=by kernel_rfl)(hs:starEach [a] X.env = [(false,eval a X.env)]:=by rfl)(hs2:starEach [.Call (.Name "set" p) [a] [] pos] X.env = [(false,eval (.Call (.Name "set" p) [a] [] pos) X.env)]:=by rfl) :
  QE X (.Call (.Name "len" q) [.Call (.Name "set" p) [a] [] pos] [] pos') (Oi X.K ta):=⟨by
 have hgl:=(od hgl);have hg:=(od hg);have ha:=ha.h;intro pins s σ H Q I h;refine wpAny_Call_Name_kw (Ui I hgl.1 hml (show bootBuiltins "len" = some (.builtin "len") by decide +kernel) ?_ hgl.2.2.2 hgl.2.1);refine PyProof.Rows.callWith_builtin1 ?_ hs2 rfl;rw[hs2];refine Calls.spliced_cons ?_;refine wpAny_Call_Name_kw (Ui I hg.1 hm (show bootBuiltins "set" = some (.type "set") by decide +kernel) (PyProof.Rows.callWith_type1 (thn (ha pos pins s σ H _ I h) fun us s1 ⟨vs,H1,I1,r1,l,xs,e,hL,hn,q1⟩=>?_) hs rfl) hg.2.2.2 hg.2.1);subst e;cases r1 with
 | cons r rr =>
  cases rr;obtain rfl:=r;obtain⟨its,r,pl,hz⟩:=I1.list hL;have hlen:its.length=xs.length:=by rw[← r.length,xA]
  obtain⟨o,n,e1,e2,e3,e4⟩:=pl;have hval:∀(i:Nat)(v:eY),its.toArray[i]? = some v->∃t,v = .str (xs.getD i "") t:=fun i v hv=>by
   rw[← wE] at hv;have hi:i < its.length:=by have:=(xY.mp hv).1;simpa using this
   obtain⟨u,eu,t,ru⟩:=r.get (i:=i) (x:=.str (xs.getD i "")) (by rw[xK,xE (by lia),yR,xE (by lia)];rfl);have hv:its[i]? = some v:=hv;rw[hv] at eu;cases eu;exact⟨t,ru⟩
  have hsz:its.toArray.size=xs.length:=by rw[xV,hlen]
  refine Rr (items:=its.toArray) (val:=fun i=>xs.getD i "") (I1.ok.hd hc) ⟨o,e1,e2,n,e4⟩ hval (by unfold scanBound;lia) fun h' tk hS hk=>?_;rw[hsz] at hS;have I2:ZD X pins σ H1 {s1 with heap:=h',toks:=tk }:=I1.kept fun b u e=>hk b u (xP e) e;refine Calls.spliced_nil ?_;obtain⟨o2,ho,hso⟩:=hS.objOf;obtain⟨hex,es,ep,t,hd,_,_,hnn,hf⟩:=hso;have hle:=Eo (fun i=>xs.getD i "") xs.length;have hlt:(es.size:Int) < 2 ^ 63:=Int.lt_of_le_of_lt (show (es.size:Int)<=1000 by lia) aA;refine call_len_set (s:={s1 with heap:=h',toks:=tk }) ho hex hd hf hlt ?_;refine⟨.int es.size,H1,I2.tok _,⟨_,rfl⟩,?_⟩;have e:es.size=CZ xs:=by
   rw[hnn,G5 xs xs.length (xH _),yI];rfl
  rw[e]
  exact q1⟩
def Hu(h0:Heap)(H:Hp)(h:Heap)(a:eZ)(vs:Array eY):Prop:=∃T oT ts v3,vs[1]? = some (.ref T)/\T≠a/\h.get? T=some oT/\oT.data = .fields ts/\ts[3]? = some v3/\H T=none/\h0.get? T=none
theorem GM{M:Model}{A:fD}{E:eQ}{s:eX}{base:Heap}{env:Env}{outer:List Env}{L e:eZ}{oe:Obj}{vs:Array eY}{hd0 a0:eY}{hn:Bool}{Q:Unit->eX->Prop}(fr:A.frames=some (env::outer))(fl:s.heap.FunFrames base (env::outer))(f1:env.frame=some L)(ge:s.heap.get? e=some oe)(kb:base.StaysIn s.heap)(ne:base.get? e=none)(de:oe.data = .fields vs)(sz : 1 < vs.size)(v0:vs[0]? = some a0)(k:∀h',Heap.NotedW base (env::outer) e oe.cls a0 (rawInt L) s.heap h'->(∃o',h'.get? e=some o'/\o'.dict=oe.dict)->Q () {s with heap:=h' }) :
  wpAny M A (do let a ← frameOf env;let pl ← entryPlaceOf L hn;let b ← EntryCells.newEntry hd0 a .none (rawInt L) .none pl;setField (.ref e) 1 b) Q E s:=by
 have nf:e∉(env::outer).filterMap (·.frame):=fun z=>by obtain⟨_,o,g,n⟩:=fl.mem z;rw[ge] at g;cases g;exact n vs de
 refine wpAny_bind (wpAny_frameOf_fun fr fl f1 fun h1 s1=>wpAny_bind (wpAny_entryPlaceOf fun pl pk=>?_));unfold EntryCells.newEntry newFields;refine wpAny_bind (wpAny_newObj_type ?_ (pk.sizeOk5 _ _ _ _ _));have g1:h1.get? e=some oe:=(s1.2.1 e nf).trans ge;have k1:base.StaysIn h1:=fun b o z=>(s1.2.1 b fun y=>by rw[(fl.mem y).1] at z;cases z).trans (kb b o z);generalize eT:({cls:=.type "traceback", dict:=none,data:=.fields ([hd0,.ref L,.none,rawInt L,.none]++(if pl.isEmpty then List.replicate 6 Value.none else pl)).toArray }:Obj)=tb;have nT:h1.objs.size≠e:=Nat.ne_of_gt (xP g1);have g2:=xB (h:=h1) tb g1;have d3:=Obj.data_mapFields de (·.setIfInBounds 1 (Value.ref h1.objs.size));have g3:=wD (Obj.mapFields (·.setIfInBounds 1 (Value.ref h1.objs.size))) g2 (Obj.isFreed_of_fields d3);have tT:((h1.push tb).update e (Obj.mapFields (·.setIfInBounds 1 (Value.ref h1.objs.size)))).get? h1.objs.size=some tb:=(zJ _ _ (Ne.symm nT)).trans (xL h1 (by rw[← eT];rfl));have up:∀b o,b≠e->h1.get? b=some o->((h1.push tb).update e (Obj.mapFields (·.setIfInBounds 1 (Value.ref h1.objs.size)))).get? b=some o:=fun b o n z=>(zJ _ _ (Ne.symm n)).trans (xB _ z);have ot:∀b o,s.heap.get? b=some o->(∀vs,o.data ≠ .fields vs)->b≠e:=fun b o z n q=>by rw[q,ge] at z;cases z;exact n vs de
 refine wpAny_setField g2 de sz (k _ ⟨fun b o z=>up b o (fun q=>by rw[q,ne] at z;cases z) (k1 b o z),fl.of_keeps fun b o z n=>?_,⟨_,_,_,_,_,g3,⟨Obj.cls_mapFields _ _,?_⟩,d3,by simp[sz],k1.fresh,nT,tT,by rw[← eT],?_⟩,fun b o z n=>?_⟩ ⟨_,g3,?_⟩)
 ·obtain⟨sl,y⟩:=s1.2.2 b o z;exact⟨_,up b _ (ot b o z n) y,rfl⟩
 ·rw[Array.getElem?_setIfInBounds_ne aA];exact v0
 ·first | (simp;done) | (rcases pk with rfl | ⟨_,_,_,_,_,_,_,rfl⟩<;>simp)
 ·obtain⟨sl,y⟩:=s1.2.2 b o z;exact⟨sl,up b _ (ot b o z n) y⟩
 ·unfold Obj.mapFields;split<;>rfl
def Ca(oe:Obj)(C:eZ):Prop:=oe.cls = .ref C/\oe.dict=none
def UA(h0:Heap)(H:Hp)(h:Heap)(a C:eZ):Prop:=H a=none/\h0.get? a=none/\∃oe vs a0,h.get? a=some oe/\Ca oe C/\oe.data = .fields vs/\vs[0]? = some a0/\(vs[1]? = some .none\/Hu h0 H h a vs)
def J6(h0:Heap)(H:Hp)(h:Heap)(a C:eZ):Prop:=H a=none/\h0.get? a=none/\∃oe vs a0,h.get? a=some oe/\Ca oe C/\oe.data = .fields vs/\vs[0]? = some a0/\Hu h0 H h a vs
theorem J6.at_(x:J6 h0 H h a C):UA h0 H h a C:=let ⟨p,q,oe,vs,a0,h1,h2,h3,h4,h5⟩:=x;⟨p,q,oe,vs,a0,h1,h2,h3,h4,.inr h5⟩
def UZ(P:fA)(w:fB):VX:=fun outer H s E e s'=>∃a C H',e = .ref a/\s'.os=s.os/\AllBare s'.gens/\Un (frs outer) [] H H' s.heap s'.heap/\YG P w H' s'.heap/\UA s.heap H' s'.heap a C/\E (.ref C) none H'
structure Xp (X:Cx) (E:St->XK):Prop where
 h:∀pins σ H s a C,ZD X pins σ H s->UA X.s₀.heap H s.heap a C->E σ (.ref C) none H->X.xe (.ref a) s
theorem ZM.ex(x:ZM P w H h a o):∃u,h.get? a=some u:=by
 cases o with
 | lst xs=>obtain⟨_,_,_,_,e⟩:=x;exact⟨_,e⟩
 | tup xs=>obtain⟨_,_,_,_,e,_⟩:=x;exact⟨_,e⟩
 | dK kvs=>obtain⟨_,_,_,_,o,_,_,e,_⟩:=x;exact⟨_,e⟩
 | dT kvs=>obtain⟨_,_,_,_,o,_,_,e,_⟩:=x;exact⟨_,e⟩
 | set S n=>obtain⟨o,_,_,_,e,_⟩:=x;exact⟨_,e⟩
 | ins C dx fs=>obtain⟨_,_,_,e,_⟩:=x;exact⟨_,e⟩
 | own y=>exact x
 | xd fs=>obtain⟨_,⟨_,_,_,e,_⟩,_⟩:=x;exact⟨_,e⟩
 | rng lo hi=>obtain⟨_,_,_,e⟩:=x;exact⟨_,e⟩
 | frz ob u=>obtain⟨e,_⟩:=x;exact⟨_,e⟩
 | tbl ps=>obtain⟨_,_,_,e,_⟩:=x;exact⟨_,e⟩
 | met f y=>exact⟨_,x⟩
 | ext φ=>obtain⟨_,e,_⟩:=x;exact e
theorem ZD.stepN{g':Array GenState}{t':Nat}{d':Drawn}{ch:eW}(I:ZD X [] σ H s)(hpn:X.pn = [])(hch:∀b∈ch,X.s₀.heap.get? b=none/\b≠X.env.locals/\∀x c,X.env.cells.lookup x=some c->c≠b)(keep:∀b o,b≠X.env.locals->b∉X.fs->b∉ch->s.heap.get? b=some o->H b=none->h'.get? b=some o)(slot:∀b o,b≠X.env.locals->b∈X.fs->b∉ch->s.heap.get? b=some o->H b=none->∃sl,h'.get? b=some {o with slots:=sl })(there:∀b o,b∉ch->s.heap.get? b=some o->∃o',h'.get? b=some o')(ns:∀m,s.heap.Ns X.env.locals m->h'.Ns X.env.locals m)(hok:YG X.prog X.w H h')(hg:AllBare g') :
  ZD X [] σ H {s with heap:=h',gens:=g',drawn:=d',toks:=t' }:=by
 have neL:∀b o,X.s₀.heap.get? b=some o->b≠X.env.locals:=fun b o e=>yJ (yG (xP e) I.ok.above);have neC:∀b o,X.s₀.heap.get? b=some o->b∉ch:=fun b o e hb=>by
  have:=(hch b hb).1;rw[e] at this;cases this
 have cellK:∀x c,X.env.cells.lookup x=some c->∀v,s.heap.IsCell c v->h'.IsCell c v:=fun x c e v ⟨o,ho,hd⟩=>by
  have nch:c∉ch:=fun z=>(hch c z).2.2 x c e rfl
  by_cases hc:c∈X.fs
  ·obtain⟨sl,q⟩:=slot c o (I.cne x c e) hc nch ho (I.freeC x c e);exact⟨_,q,hd⟩
  ·exact⟨o,keep c o (I.cne x c e) hc nch ho (I.freeC x c e),hd⟩
 refine⟨I.ok,I.os,hg,⟨fun b o e n hb hx=>?_,fun b o e n hb hx=>?_,fun b o e n hx=>I.base.free b o e n hx,fun b o e hx=>?_,I.base.tups,I.base.frzs,I.base.tbls⟩,?_,fun x c e=>?_,I.free,I.freeC,fun p hp=>?_,hok,I.len⟩
 ·exact keep b o (neL b o e) hb (neC b o e) (I.base.keep b o e n hb hx) (I.base.free b o e n hx)
 ·obtain⟨sl,e1⟩:=I.base.slot b o e n hb hx;obtain⟨sl',e2⟩:=slot b _ (neL b o e) hb (neC b o e) e1 (I.base.free b o e n hx);exact⟨sl',e2⟩
 ·obtain⟨o',e1⟩:=I.base.there b o e hx;exact there b o' (neC b o e) e1
 ·obtain⟨m,hn,hl⟩:=I.loc;refine⟨m,ns m hn,fun i x v e1 e2 e3=>?_⟩;obtain⟨u,r,l⟩:=hl i x v e1 e2 e3;refine⟨u,r,?_⟩;rcases l with l | ⟨k,c,e,z⟩
  ·exact .inl l
  ·exact .inr ⟨k,c,e,cellK x c e _ z⟩
 ·obtain⟨v,z⟩:=I.cell x c e;exact⟨v,cellK x c e v z⟩
 ·rw[hpn] at hp;cases hp
theorem ZD.noted(I:ZD X [] σ H s)(hpn:X.pn = [])(hh:∀b∈hs,X.s₀.heap.get? b=none/\H b=none/\∃o vs,s.heap.get? b=some o/\o.data = .fields vs)(st:(PySem.W.hideAll s.heap (hs++frs X.stack)).StaysIn h')(up:∀b o,s.heap.get? b=some o->(∀vs,o.data ≠ .fields vs)->∃sl,h'.get? b=some {o with slots:=sl }):ZD X [] σ H {s with heap:=h' }:=by
 obtain⟨m,⟨oL,esL,epL,hoL,hdL,rL⟩,_⟩:=id I.loc;have kp:∀b o,b∉hs->b∉frs X.stack->s.heap.get? b=some o->h'.get? b=some o:=fun b o n1 n2 e=>st b o (PySem.W.hideAll_get _ e fun hm=>(xI.mp hm).elim n1 n2);have fr:∀b,b∈frs X.stack->∃o,s.heap.get? b=some o/\∀vs,o.data ≠ .fields vs:=fun b hb=>(I.stack.mem hb).2;refine I.stepN (g':=s.gens) (d':=s.drawn) (t':=s.toks) (ch:=hs) hpn (fun b hb=>?_) (fun b o hL hf hc e _=>kp b o hc (fun z=>(xC.mp (I.stkSub b z)).elim hL hf) e) (fun b o hL hf _ e _=>?_) (fun b o hc e=>?_) (fun m' hm=>?_) (fun b u e=>?_) I.bare
 ·obtain⟨h1,h2,o,vs,e,d⟩:=hh b hb;refine⟨h1,fun z=>?_,fun x c ec z=>?_⟩
  ·rw[z,hoL] at e;cases e;rw[hdL] at d;cases d
  ·obtain⟨v,oc,ho,hd⟩:=I.cell x c ec;rw[z,e] at ho;cases ho;rw[d] at hd;cases hd
 ·obtain⟨o',e',d⟩:=(I.funs.mem (show b∈X.outer.filterMap (·.frame) from hf)).2;rw[e] at e';cases e';exact up b o e d
 ·grind
 ·obtain⟨o,es,ep,ho,d,r⟩:=hm;obtain⟨sl,q⟩:=up _ o ho fun vs z=>by rw[d] at z;cases z
  exact⟨_,es,ep,q,d,r⟩
 ·have nh:∀c v,H c=some v->c∉hs/\c∉frs X.stack:=fun c v ec=>⟨(fun z=>by rw[(hh c z).2.1] at ec;cases ec),(fun z=>by rw[I.stkFree c z] at ec;cases ec)⟩;refine(I.hok b u e).stay (fun c v hc q=>?_) (fun _ q=>q) fun _ _ q=>q;rcases hc with rfl | hc
  ·exact kp c v (nh c _ e).1 (nh c _ e).2 q
  ·exact kp c v (nh c _ hc).1 (nh c _ hc).2 q
theorem EL(I:ZD X [] σ H s)(hpn:X.pn = [])(hex:X.ex = [])(stk:X.stack=X.env::X.outer)(hf:X.env.frame=some X.env.locals)(x:UA X.s₀.heap H s.heap a C)(k:∀h',ZD X [] σ H {s with heap:=h' }->J6 X.s₀.heap H h' a C->(∀b o,s.heap.get? b=some o->(∀vs,o.data ≠ .fields vs)->∃sl,h'.get? b=some {o with slots:=sl })->Q () {s with heap:=h' }) :
  wpAny M X.A (noteFrame (.ref a) X.env) Q E s:=by
 obtain⟨ha,h0a,oe,vs,a0,he,hc,hd,v0,tr⟩:=x;have fin:∀(hs:eW),a∈hs->(∀b∈hs,X.s₀.heap.get? b=none/\H b=none/\∃o vs,s.heap.get? b=some o/\o.data = .fields vs)->
   ∀h1,Heap.NotedW (PySem.W.hideAll s.heap (hs++frs X.stack)) (X.env::X.outer) a (.ref C) a0 (rawInt X.env.locals) s.heap h1->(∃o',h1.get? a=some o'/\o'.dict=oe.dict)->Q () {s with heap:=h1 }:=by
  intro hs has hh h1 N ⟨o2,g2,d2⟩;refine k h1 (I.noted hpn hh N.1 N.2.2.2) ?_ N.2.2.2;obtain⟨oe',vs',T,oT,ts,he',⟨hc',v0'⟩,hd',h1',hnT,hTe,hT,hdT,h3⟩:=N.2.2.1;have no:∀o,s.heap.get? T=some o->T∉hs->T∉frs X.stack->False:=fun o e n1 n2=>by
   have:=PySem.W.hideAll_get (hs++frs X.stack) e fun hm=>(xI.mp hm).elim n1 n2;rw[this] at hnT;cases hnT
  have nfr:T∉frs X.stack:=fun z=>by
   rw[stk] at z;obtain⟨_,o,e,d⟩:=N.2.1.mem (show T∈(X.env::X.outer).filterMap (·.frame) from z);rw[hT] at e;cases e;exact d ts hdT
  rw[he'] at g2;cases g2;refine⟨ha,h0a,_,vs',a0,he',⟨hc',d2.trans hc.2⟩,hd',v0',T,oT,ts,_,h1',hTe,hT,hdT,h3,?_,?_⟩
  ·cases q:H T with
   | none=>rfl
   | some u =>
    obtain⟨o,e⟩:=(I.hok T u q).ex;exact(no o e (fun z=>by rw[(hh T z).2.1] at q;cases q) nfr).elim
  ·cases q:X.s₀.heap.get? T with
   | none=>rfl
   | some o =>
    obtain⟨o',e⟩:=I.base.there T o q (by rw[hex];simp);exact(no o' e (fun z=>by rw[(hh T z).1] at q;cases q) nfr).elim
 have hfr:X.A.frames=some (X.env::X.outer):=by rw[← stk];exact I.ok.frames
 have hl:∀hs:List eZ,s.heap.FunFrames (PySem.W.hideAll s.heap (hs++frs X.stack)) (X.env::X.outer):=fun hs=>by
  rw[← stk];exact PySem.W.funFrames_hide I.stack fun env he b hb=>xJ _ (List.mem_filterMap.mpr ⟨env,he,hb⟩)
 have hkb:∀hs:List eZ,(PySem.W.hideAll s.heap (hs++frs X.stack)).StaysIn s.heap:=fun hs b o q=>PySem.W.of_hideAll _ q;rcases tr with v1 | ⟨T,oT,ts,v3,v1,hTe,hT,hdT,h3,hHT,h0T⟩
 ·have hh:∀b ∈ [a],X.s₀.heap.get? b=none/\H b=none/\∃o vs,s.heap.get? b=some o/\o.data = .fields vs:=fun b hb=>by
   rw[xO] at hb;subst hb;exact⟨h0a,ha,oe,vs,he,hd⟩
  unfold noteFrame;simp only[hf];refine wpAny_bind (wpAny_field he hd v1 ?_);rw[if_neg aA];refine GM (base:=PySem.W.hideAll s.heap ([a]++frs X.stack)) hfr (hl _) hf he (hkb _) (PySem.W.hideAll_none _ (by simp)) hd (zX.mp v1).1 v0 fun h1 N d2=>?_;rw[hc.1] at N;exact fin [a] (by simp) hh h1 N d2
 ·have hh:∀b ∈ [a,T],X.s₀.heap.get? b=none/\H b=none/\∃o vs,s.heap.get? b=some o/\o.data = .fields vs:=fun b hb=>by grind
  unfold noteFrame;simp only[hf];refine wpAny_bind (wpAny_field he hd v1 ?_);rw[if_pos (show (Value.ref T != Value.none)=true from by simp)];refine wpAny_bind (wpAny_field hT hdT h3 ?_)
  by_cases zz:(v3 == rawInt X.env.locals)=true
  ·rw[if_pos zz];exact wpAny_pure (k s.heap I ⟨ha,h0a,oe,vs,a0,he,hc,hd,v0,T,oT,ts,v3,v1,hTe,hT,hdT,h3,hHT,h0T⟩ fun b o e _=>⟨o.slots,e⟩)
  ·rw[if_neg zz];refine wpAny_bind (wpAny_setField hT hdT (zX.mp h3).1 ?_);have oth:∀b,b≠T->(s.heap.update T (Obj.mapFields (·.setIfInBounds 3 Value.none))).get? b=s.heap.get? b:=fun b hb=>zJ _ _ (Ne.symm hb);have nr:∀b o,s.heap.get? b=some o->(∀vs,o.data ≠ .fields vs)->b≠T:=fun b o hb hn q=>by
    rw[q,hT] at hb;injection hb with hb;subst hb;exact hn ts hdT
   have hbT:(PySem.W.hideAll s.heap ([a,T]++frs X.stack)).get? T=none:=PySem.W.hideAll_none _ (by simp);refine GM (base:=PySem.W.hideAll s.heap ([a,T]++frs X.stack)) hfr ((hl _).of_keeps fun b o hb hn=>⟨o,(oth b (nr b o hb hn)).trans hb,rfl⟩) hf ((oth a (Ne.symm hTe)).trans he)
    (fun b o hbo=>(oth b fun q=>by rw[q,hbT] at hbo;cases hbo).trans (hkb _ b o hbo)) (PySem.W.hideAll_none _ (by simp)) hd (zX.mp v1).1 v0
    fun h1 ⟨x1,x2,x3,x4⟩ d2=>?_
   rw[hc.1] at x3;exact fin [a,T] (by simp) hh h1 ⟨x1,x2,x3,fun b o hb hn=>x4 b o ((oth b (nr b o hb hn)).trans hb) hn⟩ d2
theorem Dt(I:ZD X [] σ H s)(hpn:X.pn = [])(x:J6 X.s₀.heap H s.heap a C)(k:∀h',ZD X [] σ H {s with heap:=h' }->J6 X.s₀.heap H h' a C->Q () {s with heap:=h' }):wpAny M A (setFlight (.ref a) fr) Q E s:=by
 obtain⟨ha,h0a,oe,vs,a0,he,hc,hd,v0,T,oT,ts,v3,v1,hTe,hT,hdT,h3,hHT,h0T⟩:=x;have sz3:=(zX.mp h3).1;unfold setFlight;refine wpAny_bind (wpAny_field he hd v1 ?_);rw[if_pos (show (Value.ref T != Value.none)=true from by simp)];refine wpAny_setField hT hdT sz3 ?_;have oth:∀b,b≠T->(s.heap.update T (Obj.mapFields (·.setIfInBounds 3 (fr.elim Value.none fun f=>rawInt f)))).get? b=s.heap.get? b:=fun b hb=>zJ _ _ (Ne.symm hb);refine k _ (I.noted (hs:=[T]) hpn (fun b hb=>by rw[xO] at hb;subst hb;exact⟨h0T,hHT,oT,ts,hT,hdT⟩) (fun b o q=>?_) fun b o hb hn=>⟨o.slots,(oth b fun q=>by rw[q,hT] at hb;cases hb;exact hn ts hdT).trans hb⟩)
  ⟨ha,h0a,oe,vs,a0,(oth a (Ne.symm hTe)).trans he,hc,hd,v0,T,_,_,(fr.elim Value.none fun f=>rawInt f),v1,hTe,wD _ hT (Obj.isFreed_of_fields (Obj.data_mapFields hdT _)),Obj.data_mapFields hdT _,by simp[sz3],hHT,h0T⟩
 refine(oth b fun z=>?_).trans (PySem.W.of_hideAll _ q);rw[z,PySem.W.hideAll_none _ (by simp)] at q;cases q
theorem KD(I:ZD X [] σ H s)(hpn:X.pn = [])(hex:X.ex = [])(stk:X.stack=X.env::X.outer)(hf:X.env.frame=some X.env.locals)(x:UA X.s₀.heap H s.heap a C)(k:∀h',ZD X [] σ H {s with heap:=h' }->UA X.s₀.heap H h' a C->Q () {s with heap:=h' }) :
  wpAny M X.A (noteFrame (.ref a) X.env) (fun _ s₂=>wpAny M X.A (setFlight (.ref a) none) Q E s₂) E s :=
 EL I hpn hex stk hf x fun h1 I1 x1 _=>Dt (s:={s with heap:=h1 }) I1 hpn x1 fun h2 I2 x2=>k h2 I2 x2.at_
theorem UA.mono(x:UA h0 H h a C)(k:∀b,h0.get? b=none->h1.get? b=none):UA h1 H h a C:=by
 obtain⟨ha,h0a,oe,vs,a0,he,hc,hd,v0,tr⟩:=x;refine⟨ha,k a h0a,oe,vs,a0,he,hc,hd,v0,?_⟩;rcases tr with v1 | ⟨T,oT,ts,v3,v1,hTe,hT,hdT,h3,hHT,h0T⟩
 ·exact .inl v1
 ·exact .inr ⟨T,oT,ts,v3,v1,hTe,hT,hdT,h3,hHT,k T h0T⟩
theorem Yy{P:fA}{w:fB}{K:uFg}{mg:eR}{base:Heap}{N:eS}{qual:Str}{scope:Scope}{f:eZ}{cd:eY}{A:fD}{outer:List Env}{s:eX}{H:Hp}{E:XK} :
  Xp (Yp (UZ P w) P w K mg base N qual scope f cd A outer s H E) fun _=>E:=⟨fun pins σ H1 s1 a C I x hE=>by
 have I':=I.pins_of (pins':=[]) (fun p hp=>nomatch hp);show wpAny _ _ (noteFrame _ _ >>= fun _=>setFlight _ none) _ _ _;refine wpAny_bind (KD (X:=Yp (UZ P w) P w K mg base N qual scope f cd A outer s H E) I' rfl rfl rfl rfl x fun h' J y=>?_)
 exact⟨a,C,H1,rfl,J.os,J.bare,J.base,J.hok,y,hE⟩⟩
section
variable{X:Cx}{E:St->XK}
theorem ZD.newer{pins:List (eZ×Obj)}{σ:St}{H:Hp}{s:eX}(I:ZD X pins σ H s)(hex:X.ex = []):∀b,s.heap.get? b=none->X.s₀.heap.get? b=none:=fun b e=>by
 cases q:X.s₀.heap.get? b with
 | none=>rfl
 | some o =>
  obtain⟨o',e'⟩:=I.base.there b o q (by rw[hex];simp);rw[e] at e';cases e'
structure Xq (X:Cx) (E:St->XK):Prop where
 h:(∀ σ c d H,¬E σ c d H)\/(X.ex = []/\Xp X E)
theorem Xq.never:Xq X fun _ _ _ _=>False:=⟨.inl fun _ _ _ _ h=>h⟩
theorem Xq.pass{pins:List (eZ×Obj)}{σ:St}{H:Hp}{s s':eX}{e:eY}(hx:Xq X E)(I:ZD X pins σ H s)(h:UZ X.prog X.w X.stack H s (E σ) e s'):X.xe e s':=by
 obtain⟨a,C,H',rfl,os,bare,un,hok,x,hE⟩:=h;rcases hx.h with z | ⟨hex,hx⟩
 ·exact(z _ _ _ _ hE).elim
 obtain⟨hh,g,d,t,os'⟩:=s';obtain rfl:os'=s.os:=os;have J:=I.call (h':=hh) (g':=g) (d':=d) (t':=t) (ch:=[]) un hok bare (fun b z=>absurd z (by simp));exact hx.h pins σ H' _ a C J (x.mono (I.newer hex)) hE
theorem Wk{P:fA}{w:fB}{K:uFg}{mg:eR}{base:Heap}{N:eS}{qual:Str}{scope:Scope}{f:eZ}{cd:eY}{A:fD}{outer:List Env}{s:eX}{H:Hp}{E:XK} :
  Xq (Yp (UZ P w) P w K mg base N qual scope f cd A outer s H E) fun _=>E:=⟨.inr ⟨rfl,Yy⟩⟩
end
structure Cz (P:fA) (w:fB) (K:uFg) (mg:eR) (base:Heap) (k:Nat) (f:eZ) (sp:Sp):Prop where
 run:∀(A:fD)(outer:List Env)(s:eX)(H:Hp)(us:eU)(vs:aG)(Q:VK)(E:XK),ZJ k A->WQ P w K mg base A outer s H->ZH vs us->sp vs H Q E->codeAny (model P w) A (.call (.ref f) ⟨us,[]⟩) (CR (UZ P w) outer P w H s Q E) s
theorem ZZ.runX{P:fA}{w:fB}{K:uFg}{mg:eR}{base:Heap}{k:Nat}{f:eZ}{fd:FuncData}{ps:eS}{sp:Sp}(F:ZZ P w K mg base (UZ P w) k f fd ps sp)(hb:YE K fd ps []):Cz P w K mg base k f sp :=
 ⟨fun A outer s H us vs Q E hr e0 r h=>by
  have KX:K.In s.heap:=e0.mod.kin.keeps fun b o e=>(e0.bs b o e).1;have hl:us.length=ps.length:=by rw[← r.length];exact F.len _ _ _ _ h
  have hb':BindsTo s fd ⟨us,[]⟩ (ps.zip us):=by
   have:=hb s us KX (by rw[yM];exact hl);rw[yM] at this;exact this
  exact F.run A outer s H ⟨us,[]⟩ us vs Q E hr e0 hb' r h⟩
def YZ(P:fA)(w:fB)(K:uFg)(mg:eR)(base:Heap)(x:Str)(k:Nat)(sp:Sp):Prop :=
 ∃f,mg x=some (.ref f)/\PySem.W.keepIn K (.ref f)=true/\Cz P w K mg base k f sp
structure WA (P:fA) (w:fB) (K:uFg) (mg:eR) (base:Heap) (C:eZ) (m:Str) (k:Nat) (sp:Sp):Prop where
 ex:∃(f:eZ),VI K C m f/\Cz P w K mg base k f sp
section
variable{P:fA}{w:fB}{K:uFg}{mg:eR}{base:Heap}{C:eZ}{x:Str}{ps:eS}{k k':Nat}{sp sp':Sp}
end
def OI(sp:Sp)(E:St->XK)(t:TA):TE:=fun σ H Q=>t σ H fun vs H1=>sp vs H1 Q (E σ)
inductive Bs(C:eZ)(m:Str)(sp:Sp)(E:St->XK)(t:TA)(σ:St)(Q:VK)(x:V)(H1:Hp):Prop
 |mk(a dx fs)(_:x = .ref a)(_:H1 a=some (.ins C dx fs))(_:fs.lookup m=none)(_:t σ H1 fun vs H2=>sp (x::vs) H2 Q (E σ))
def QK(C:eZ)(m:Str)(sp:Sp)(E:St->XK)(ta:TE)(t:TA):TE:=fun σ H Q=>ta σ H fun x H1=>Bs C m sp E t σ Q x H1
section
variable{X:Cx}{E:St->XK}{k:Nat}{f C:eZ}{sp:Sp}{x m:Str}{p pos apos:Pos}{e o:Expr}{es:List Expr}{ta:TE}{t:TA}
theorem Ir{pins:List (eZ×Obj)}{σ:St}{H:Hp}{s:eX}{Q:VK}{us:eU}{vs:aG}(F:Cz X.prog X.w X.K X.mg X.base k f sp)(hr:ZJ k X.A)(hx:Xq X E)(I:ZD X pins σ H s)(r:ZH vs us)(h:sp vs H Q (E σ)):wpAny (model X.prog X.w) X.A (call (.ref f) us) (EP X pins σ Q) X.xe s:=by
 refine wpAny_call (codeAny_mono (F.run X.A X.stack s H us vs Q (E σ) hr I.env0 r h) fun r s' hq=>?_);cases r with
 | error e=>exact hx.pass I hq
 | ok fl =>
  cases fl with
  | ret u=>exact I.after hq
  | next=>exact False.elim hq
  | brk=>exact False.elim hq
  | cont=>exact False.elim hq
theorem Ub(hx:Xq X E)(F:YZ X.prog X.w X.K X.mg X.base x k sp)(ha:QA X (e::es) t)(hr:ZJ k X.A:=by exact ZJ.mono (by assumption) (by first | decide | lia))(n:nB X x .globalImplicit:=by kernel_rfl)(he:starEach (e::es) X.env=(false,eval e X.env)::starEach es X.env:=by rfl)(hpl:(backTo pos (starEach es X.env)).any (·.1)=false:=by rfl) :
  QE X (.Call (.Name x p) (e::es) [] pos) (OI sp E t):=⟨by
 obtain⟨f,hm,hk,G⟩:=F;intro pins s σ H Q I h;have n:=od n;refine wpAny_Call_Name_kw (Am I n.1 hm ?_ n.2.1);refine PySem.W.callWith_K (h₀:=X.base) I.ok.mod.kin hk (thn (ha.h pos pins s σ H _ I h) fun us s1 ⟨vs,H1,I1,r,q⟩=>⟨I1.kIn,?_⟩) he hpl
 exact Ir G hr hx I1 r q⟩
theorem Um{pl:Sem Bool}(hx:Xq X E)(he:QE X o ta)(c:VN X.K C)(M:WA X.prog X.w X.K X.mg X.base C m k sp)(ha:QA X (e::es) t)(hr:ZJ k X.A:=by exact ZJ.mono (by assumption) (by first | decide | lia))(hst:starEach (e::es) X.env=(false,eval e X.env)::starEach es X.env:=by rfl)(hpl:(backTo pos (starEach es X.env)).any (·.1)=false:=by rfl)(ht:eval (.Call (.Attribute o m apos) (e::es) [] pos) X.env=(do
   let ov ← eval o X.env
   standAt apos.atName
   let (f,first) ← holding [ov] (getMethod ov m pl)
   callWith pos f first (backTo pos (starEach (e::es) X.env)) (backToKw pos (keywordEach [] X.env))):=by rfl) :
  QE X (.Call (.Attribute o m apos) (e::es) [] pos) (QK C m sp E ta t):=⟨by
 obtain⟨f,hm,F⟩:=M.ex;intro pins s σ H Q I h;refine PySem.W.methodCall_KW (pl:=pl) (thn (he.h pins s σ H _ I h) fun u s1 ⟨x,H1,I1,rx,a,dx,fs,ex,ea,l,q⟩=>?_) ht;subst ex;obtain rfl:u=Value.ref a:=rx;refine EI I1 ea c hm l ?_;refine PySem.W.callWith_K (first:=[.ref a]) (h₀:=X.base) I.ok.mod.kin hm.kp (thn (ha.h pos pins s1 σ H1 _ I1 q) fun us s2 ⟨vs,H2,I2,r,q2⟩=>⟨I2.kIn,?_⟩) hst hpl
 exact Ir (us:=.ref a::us) (vs:=.ref a::vs) F hr hx I2 (.cons rfl r) q2⟩
end
section
variable{P:fA}{w:fB}{K:uFg}{mg:eR}{base:Heap}
theorem UN.okX{x qual:Str}{st:Stmt}{f:eZ}{fd:FuncData}{N ps:eS}{k:Nat}{sp:Sp}(F:UN K x qual st f fd)(S:ZL N ps (Zj st))(len:∀vs H Q E,sp vs H Q E->vs.length=ps.length)(hbody:∀ (cdv:eY) (A:fD) (outer:List Env) (s:eX) (H:Hp) (vs:aG) (Q:VK) (E:XK),ZJ k (A.deeper (envOfC qual (Zj st) s.heap.objs.size f cdv))->sp vs H Q E -> ∃t,YS (Yp (UZ P w) P w K mg base N qual (Zj st) f cdv A outer s H E) (Yd st) t/\t {nx:=fun _ H'=>Q .non H',rt:=Q } (start N vs) H):ZZ P w K mg base (UZ P w) (k+1) f fd ps sp:=by
 obtain⟨oc,od,kV,doc,pm,an,cdv,ct,osl,rfl,lk,hcd⟩:=F.ex;refine IU lk hcd S len fun A outer s H vs Q E hr hsp=>?_;obtain⟨t,h,q⟩:=hbody cdv A outer s H vs Q E hr hsp;exact⟨t,h.h,q⟩
theorem YA.fnX{x:Str}{st:Stmt}{N ps:eS}{k:Nat}{sp:Sp}(h:YA K mg x st)(S:ZL N ps (Zj st))(hb:∀ (kV doc pm:eY) (an:Option eZ) (cdv ct:eY) (us:eU),us.length=ps.length->bindArgs (PySem.W.fnOf x x (Wa st) (Yd st) (Zj st) .none kV doc pm an cdv ct) ⟨us,[]⟩=pure (ps.zip us))(len:∀vs H Q E,sp vs H Q E->vs.length=ps.length)(hbody:∀ (f:eZ) (cdv:eY) (A:fD) (outer:List Env) (s:eX) (H:Hp) (vs:aG) (Q:VK) (E:XK),ZJ k (A.deeper (envOfC x (Zj st) s.heap.objs.size f cdv))->sp vs H Q E -> ∃t,YS (Yp (UZ P w) P w K mg base N x (Zj st) f cdv A outer s H E) (Yd st) t/\t {nx:=fun _ H'=>Q .non H',rt:=Q } (start N vs) H):YZ P w K mg base x (k+1) sp:=by
 obtain⟨f,fd,F,hm⟩:=h;exact⟨f,hm,F.kp,(F.okX S len (hbody f)).runX (F.binds hb)⟩
theorem YA.fx{x:Str}{st:Stmt}{k:Nat}{sp:Sp}(h:YA K mg x st)(N ps:eS)(hbody:∀{f:eZ}{cdv:eY}{A:fD}{outer:List Env}{s:eX}(H:Hp) (vs:aG) (Q:VK) (E:XK),ZJ k (A.deeper (envOfC x (Zj st) s.heap.objs.size f cdv))->sp vs H Q E->vs.length=ps.length/\∃t,YS (Yp (UZ P w) P w K mg base N x (Zj st) f cdv A outer s H E) (Yd st) t/\t {nx:=fun _ H'=>Q .non H',rt:=Q } (start N vs) H)(S:ZL N ps (Zj st):=by exact fsc)(hk:k<=60:=by decide)(hb:∀ (kV doc pm:eY) (an:Option eZ) (cdv ct:eY) (us:eU),us.length=ps.length->bindArgs (PySem.W.fnOf x x (Wa st) (Yd st) (Zj st) .none kV doc pm an cdv ct) ⟨us,[]⟩=pure (ps.zip us):=by exact fun _ _ _ _ _ _=>by first | exact al1 fun _=>rfl | exact al2 fun _ _=>rfl | exact al3 fun _ _ _=>rfl | exact al4 fun _ _ _ _=>rfl | exact al5 fun _ _ _ _ _=>rfl | exact al6 fun _ _ _ _ _ _=>rfl | exact al7 fun _ _ _ _ _ _ _=>rfl | exact al8 fun _ _ _ _ _ _ _ _=>rfl):YZ P w K mg base x (k+1) sp :=
 h.fnX S hb (fun vs H Q E h=>(hbody (f:=0) (cdv:=.none) (A:={}) (outer:=[]) (s:={}) H vs Q E (Cr hk) h).1) fun _ _ _ _ _ H vs Q E hr q=>(hbody H vs Q E hr q).2
theorem ZS.mtX{C:eZ}{m qual:Str}{st:Stmt}{N ps:eS}{k:Nat}{sp:Sp}(h:ZS K C m qual st)(S:ZL N ps (Zj st))(hb:∀ (kV doc pm:eY) (an:Option eZ) (cdv ct:eY) (us:eU),us.length=ps.length->bindArgs (PySem.W.fnOf m qual (Wa st) (Yd st) (Zj st) .none kV doc pm an cdv ct) ⟨us,[]⟩=pure (ps.zip us))(len:∀vs H Q E,sp vs H Q E->vs.length=ps.length)(hbody:∀ (f:eZ) (cdv:eY) (A:fD) (outer:List Env) (s:eX) (H:Hp) (vs:aG) (Q:VK) (E:XK),ZJ k (A.deeper (envOfC qual (Zj st) s.heap.objs.size f cdv))->sp vs H Q E -> ∃t,YS (Yp (UZ P w) P w K mg base N qual (Zj st) f cdv A outer s H E) (Yd st) t/\t {nx:=fun _ H'=>Q .non H',rt:=Q } (start N vs) H):WA P w K mg base C m (k+1) sp:=by
 obtain⟨f,fd,F,M⟩:=h.ex;exact⟨f,M,(F.okX S len (hbody f)).runX (F.binds hb)⟩
theorem ZS.mx{C:eZ}{m qual:Str}{st:Stmt}{k:Nat}{sp:Sp}(h:ZS K C m qual st)(N ps:eS)(hbody:∀{f:eZ}{cdv:eY}{A:fD}{outer:List Env}{s:eX}(H:Hp) (vs:aG) (Q:VK) (E:XK),ZJ k (A.deeper (envOfC qual (Zj st) s.heap.objs.size f cdv))->sp vs H Q E->vs.length=ps.length/\∃t,YS (Yp (UZ P w) P w K mg base N qual (Zj st) f cdv A outer s H E) (Yd st) t/\t {nx:=fun _ H'=>Q .non H',rt:=Q } (start N vs) H)(S:ZL N ps (Zj st):=by exact fsc)(hk:k<=60:=by decide)(hb:∀kV doc pm an cdv ct us,us.length=ps.length->bindArgs (PySem.W.fnOf m qual (Wa st) (Yd st) (Zj st) .none kV doc pm an cdv ct) ⟨us,[]⟩=pure (ps.zip us):=by exact fun _ _ _ _ _ _=>by first | exact al1 fun _=>rfl | exact al2 fun _ _=>rfl | exact al3 fun _ _ _=>rfl | exact al4 fun _ _ _ _=>rfl | exact al5 fun _ _ _ _ _=>rfl | exact al6 fun _ _ _ _ _ _=>rfl | exact al7 fun _ _ _ _ _ _ _=>rfl | exact al8 fun _ _ _ _ _ _ _ _=>rfl):WA P w K mg base C m (k+1) sp :=
 h.mtX S hb (fun vs H Q E h=>(hbody (f:=0) (cdv:=.none) (A:={}) (outer:=[]) (s:={}) H vs Q E (Cr hk) h).1) fun _ _ _ _ _ H vs Q E hr q=>(hbody H vs Q E hr q).2
end
def nsX(K:uFg)(N:eZ):Bool:=match K.lookup N with
 | some ⟨_,_,.dict es _,_⟩=>(es.toList.all fun e=>match e.key with | .str _ _=>true | _=>false) && (nsFind es "__init__").isNone
 | _=>false
def vE:List eY:=[.type "ValueError", .type "Exception", .type "BaseException", .type "object"]
def DK:List (Option eY)->Bool
 | [_,_,_,_,some v,_]=>v == .builtin "ValueError.__new__"
 | _=>false
def GG(K:uFg):List eY->Bool
 | .ref M::r=>r == vE && (match K.lookup M with | some ⟨_,_,.cls cd,_⟩=>nsX K cd.ns | _=>false)
 | _=>false
def J8(K:uFg)(C:eZ):Bool:=match K.lookup C with
 | some ⟨c,_,.cls cd,sl⟩=>(c == .type "type") && (cd.hasDel == false) && nsX K cd.ns && DK sl.toList && (match cd.mro with | v::r=>(v == .ref C) && GG K r | _=>false)
 | _=>false
theorem Kv{K:uFg}{h:Heap}{N:eZ}(X:K.In h)(e:nsX K N=true):∃mN,h.Ns N mN/\mN "__init__" = none:=by
 unfold nsX at e;split at e
 ·rename_i c d es n sl q;rw[yV] at e;refine⟨nsFind es,⟨_,es,n,X _ _ q,rfl,fun en hen=>?_,fun _=>rfl⟩,Option.isNone_iff_eq_none.mp e.2⟩;have z:=yW.mp e.1 en (Array.mem_toList_iff.mpr hen);cases k:en.key with
  | str x t=>exact⟨x,t,rfl⟩
  | _=>rw[k] at z;cases z
 ·cases e
theorem OF:∀{l:List (Option eY)},DK l=true->∃k0 k1 k2 k3 k5,l = [k0,k1,k2,k3,some (.builtin "ValueError.__new__"),k5]:=by
 intro l e;unfold DK at e;split at e
 ·exact⟨_,_,_,_,_,by rw[beq_iff_eq.mp e]⟩
 ·exact Bool.noConfusion e
theorem Gp{K:uFg}{h:Heap}{C:eZ}(X:K.In h)(e:J8 K C=true) :
  ∃nm q N bs bm hdct sn sub ab col dd k0 k1 k2 k3 k5 mN,h.get? C=some (excClassObj nm q C N bs bm hdct sn sub ab col dd k0 k1 k2 k3 k5 "ValueError.__new__")/\h.Ns N mN/\mN "__init__" = none/\OwnTail h vE bm:=by
 unfold J8 at e;split at e
 ·rename_i c d cd sl q;simp only[yV] at e;obtain⟨⟨⟨⟨e1,e2⟩,e3⟩,e4⟩,e5⟩:=e;have e1:=beq_iff_eq.mp e1;subst e1;obtain⟨mN,hn,hi⟩:=Kv X e3;obtain⟨nm,bs,mro,N,qn,hdc,sn,sub,ab,col,hdl⟩:=cd;have e2:hdl=false:=beq_iff_eq.mp e2;subst e2;cases mro with
  | nil=>cases e5
  | cons v r =>
   dsimp only at e5;rw[yV] at e5;have e6:=beq_iff_eq.mp e5.1;subst e6;have e7:=e5.2;unfold GG at e7;split at e7
   ·rename_i M r;rw[yV] at e7;have e8:=beq_iff_eq.mp e7.1;subst e8;have e9:=e7.2;split at e9
    ·rename_i c2 d2 cd2 sl2 q2;obtain⟨mM,hM,hMi⟩:=Kv X e9;obtain⟨sl⟩:=sl;obtain⟨k0,k1,k2,k3,k5,rfl⟩:=OF (l:=sl) e4
     ·exact⟨nm,qn,N,bs,.ref M::vE,hdc,sn,sub,ab,col,d,k0,k1,k2,k3,k5,mN,X _ _ q,hn,hi,.own (X _ _ q2) hM hMi .base⟩
    ·cases e9
   ·cases e7
 ·cases e
def Kb(E:St->XK)(C:eZ)(te:TE):TS:=fun _ σ H=>te σ H fun _ H1=>E σ (.ref C) none H1
theorem XR(hx:Xp X E)(hcl:X.calm=true)(hex:X.ex = [])(xc:J8 X.K C=true)(n:Nm X.env.scope x .globalImplicit)(hm:X.mg x=some (.ref C))(he:QE X e te)(hs:starEach [e] X.env = [(false,eval e X.env)]:=by rfl):QS X (.Raise (some (.Call (.Name x np) [e] [] cpos)) none pos) (Kb E C te):=⟨by
 intro pins s σ H D I h;obtain⟨nm,q,N,bs,bm,hdct,sn,sub,ab,col,dd,k0,k1,k2,k3,k5,mN,hC,hn,hi,T⟩:=Gp I.kIn xc;refine wpAny_Raise_call_subU (C:=C) (N:=N) (nm:=nm) (q:=q) (bs:=bs) (bm:=bm) (bmB:=vE) (hdct:=hdct) (sn:=sn) (sub:=sub) (ab:=ab) (col:=col) (dd:=dd) (k0:=k0) (k1:=k1) (k2:=k2) (k3:=k3) (k5:=k5) (mN:=mN)
  F.excBase_ValueError aA F.excBase_ValueError (T.hasType aA) (I.ok.hd hcl) (by rw[hs];rfl) hi (Am I n.1 hm ⟨rfl,?_⟩ n.2.1)
 rw[hs];refine Calls.evalArgs_plain (Calls.spliced_cons (thn (he.h pins s σ H _ I h) fun u s1 ⟨v,H1,I1,r1,q1⟩=>Calls.spliced_nil ?_));have K1:∀b o,X.base.get? b=some o->s1.heap.get? b=some o:=I1.bk;obtain⟨nm',q',N',bs',bm',hdct',sn',sub',ab',col',dd',k0',k1',k2',k3',k5',mN',hC',hn',hi',T'⟩:=Gp I1.kIn xc;have lk:∃o,X.K.lookup C=some o:=by
  unfold J8 at xc;split at xc
  ·rename_i z;exact⟨_,z⟩
  ·cases xc
 obtain⟨oC,hoC⟩:=lk;have z1:=(I.kIn _ _ hoC).symm.trans hC;have z2:=(I1.kIn _ _ hoC).symm.trans hC';have hC1:s1.heap.get? C=some (excClassObj nm q C N bs bm hdct sn sub ab col dd k0 k1 k2 k3 k5 "ValueError.__new__"):=by rw[hC',← z2,z1]
 have zz:=hC1.symm.trans hC';have eN:N=N':=by grind
 have ebm:bm=bm':=by grind
 subst eN ebm;refine⟨rfl,aB rfl,hC1,?_,T',fun h' a hx'=>?_⟩
 ·-- the namespace is the same object
  have lkN:∃o,X.K.lookup N=some o:=by
   unfold J8 at xc;rw[hoC] at xc;obtain⟨c,d,dt,sl⟩:=oC;cases dt with
   | cls cd =>
    simp only[yV] at xc;have e3:=xc.1.1.2;have eN:cd.ns=N:=by grind
    rw[eN] at e3;unfold nsX at e3;split at e3
    ·rename_i z;exact⟨_,z⟩
    ·cases e3
   | _=>cases xc
  obtain⟨oN,hoN⟩:=lkN;obtain⟨o1,es1,ep1,ho1,r1⟩:=hn;have:=(I.kIn _ _ hoN).symm.trans ho1;cases this;exact⟨_,es1,ep1,I1.kIn _ _ hoN,r1⟩
 ·obtain⟨t,e1,e2,e3⟩:=hx'.there;have I2:ZD X pins σ H1 {s1 with heap:=h' }:=I1.kept (t':=s1.toks) hx'.keeps;have fr:∀b,s1.heap.get? b=none->H1 b=none:=fun b z=>by
   cases q:H1 b with
   | none=>rfl
   | some u=>obtain⟨o,e⟩:=(I1.hok b u q).ex;rw[z] at e;cases e
  refine hx.h pins σ H1 {s1 with heap:=h' } a C I2 ⟨fr a hx'.new,?_,_,_,_,e1,⟨rfl,rfl⟩,rfl,rfl,.inl rfl⟩ q1;cases q:X.s₀.heap.get? a with
  | none=>rfl
  | some o =>
   obtain⟨o',e'⟩:=I1.base.there a o q (by rw[hex];simp)
   rw[hx'.new] at e';cases e'⟩
abbrev TJ:=St->Hp->(Hp->Prop)->Prop
def PJ(X:Cx)(es:List Expr)(t:TJ):Prop:=∀(pins:List (eZ×Obj))(s:eX)(σ:St)(H:Hp)(Q:Hp->Prop)(acc:Str),ZD X pins σ H s->acc.length+es.length * 1000000<=sizeLine->t σ H Q ->
 Joins (model X.prog X.w) X.A X.xe (evalEach es X.env) acc (fun out s₁=>out.length<=sizeLine/\∃H',ZD X pins σ H' s₁/\Q H') s
structure QJ (X:Cx) (es:List Expr) (t:TJ):Prop where
 h:PJ X es t
def RV(n:Nat)(t:TJ):TJ:=fun σ H Q=>n<=1000000/\t σ H Q
def OW(te:TE)(t:TJ):TJ:=fun σ H Q=>te σ H fun v H1=>((∃x,v = .str x/\x.length<=1000000)\/(∃i,v = .int i/\i.natAbs.log2 < 1920))/\t σ H1 Q
def Qk(te:TE)(t:TJ):TJ:=fun σ H Q=>te σ H fun v H1=>(∃x,v = .str x/\x.length<=10000/\∀c∈x.cps.toList,c < 16 ^ 8)/\t σ H1 Q
def Nl:TJ:=fun _ H Q=>Q H
def Mf(t:TJ):TE:=fun σ H Q=>t σ H fun H1=>∀x:Str,Q (.str x) H1
theorem Wt:QJ X [] Nl:=⟨fun pins s σ H Q acc I hl h=>⟨by simpa using hl,H,I,h⟩⟩
theorem Ju(a b:Str):(a++b).length=a.length+b.length:=strLen_append a b
theorem Y8(h:QJ X es t)(he:evalEach (.Constant (.str x) j pos::es) X.env=eval (.Constant (.str x) j pos) X.env::evalEach es X.env:=by rfl):QJ X (.Constant (.str x) j pos::es) (RV x.length t):=⟨by
 intro pins s σ H Q acc I hl hq;obtain⟨hx,hq⟩:=hq;rw[xF] at hl;rw[he];refine Calls.Constant_str ⟨x,_,rfl,?_,h.h pins _ σ H Q (acc++x) (I.tok _) ?_ hq⟩
 ·rw[Ju];lia
 ·rw[Ju];lia⟩
theorem Wc(h1:QE X e te)(h:QJ X es t)(he:evalEach (.FormattedValue e (-1) none pos::es) X.env=eval (.FormattedValue e (-1) none pos) X.env::evalEach es X.env:=by rfl):QJ X (.FormattedValue e (-1) none pos::es) (OW te t):=⟨by
 intro pins s σ H Q acc I hl hq;rw[xF] at hl;rw[he];refine wpAny_FormattedValue_plain (thn (h1.h pins s σ H _ I hq) fun u s1 ⟨v,H1,I1,rv,hv,q⟩=>?_);rcases hv with⟨x,rfl,hx⟩ | ⟨i,rfl,hi⟩
 ·obtain⟨tk,rfl⟩:=rv;refine formatField_str (fun t' tk'=>⟨x,t',rfl,?_,h.h pins _ σ H1 Q (acc++x) (I1.tok _) ?_ q⟩) (by rw[sizeLine_eq];lia)
  ·rw[Ju];lia
  ·rw[Ju];lia
 ·obtain⟨tk,rfl⟩:=rv;have hn:(Str.ofString (toString i)).length<=1921:=by rw[PySem.ofString_length];exact int_text_length_le aA hi
  refine wpAny_formatField_int hi ⟨_,_,rfl,?_,h.h pins _ σ H1 Q _ (I1.tok _) ?_ q⟩
  ·rw[Ju];lia
  ·rw[Ju];lia⟩
theorem G9(h1:QE X e te)(h:QJ X es t)(he:evalEach (.FormattedValue e 114 none pos::es) X.env=eval (.FormattedValue e 114 none pos) X.env::evalEach es X.env:=by rfl):QJ X (.FormattedValue e 114 none pos::es) (Qk te t):=⟨by
 intro pins s σ H Q acc I hl hq;rw[xF] at hl;rw[he];refine wpAny_FormattedValue_repr (thn (h1.h pins s σ H _ I hq) fun u s1 ⟨v,H1,I1,rv,hv,q⟩=>?_);obtain⟨x,rfl,hx,hc⟩:=hv;obtain⟨tk,rfl⟩:=rv;have hn:=StrLaws.reprText_len x hc;have hz:(reprText x).length<=sizeLine:=by rw[sizeLine_eq];lia
 refine wpAny_pyReprObj_gives (x:=reprText x) (typeIs_str _ _ _) F.slot_str_repr F.entry_str_repr (F.args_str_repr_1 _) (gives_str_repr x tk) ?_ rfl hz;refine formatField_str (fun t' tk'=>⟨_,t',rfl,?_,h.h pins _ σ H1 Q _ ((I1.tok _).tok _) ?_ q⟩) hz
 ·rw[Ju];lia
 ·rw[Ju];lia⟩
theorem Ll(hQ:∀o s,Q o s->Q' o s):∀{l:List (Sem eY)}{acc:Str}{s:eX},Joins M A E l acc Q s->Joins M A E l acc Q' s
 | [],_,_,h=>hQ _ _ h
 | _::_,_,_,h=>wpAny_mono h (fun _ _ ⟨y,t,a,b,c⟩=>⟨y,t,a,b,Ll hQ c⟩) fun _ _ z=>z
theorem Wu(h:QJ X (e1::e2::es) t)(hn:es.length<=8:=by decide):QE X (.JoinedStr (e1::e2::es) pos) (Mf t):=⟨by
 intro pins s σ H Q I hq;have hs:(Str.empty).length+(e1::e2::es).length * 1000000<=sizeLine:=by
  have:Str.empty.length=0:=rfl;rw[this,xF,xF,sizeLine_eq];lia
 refine wpAny_JoinedStr ?_;have key:=h.h pins s σ H _ Str.empty I hs hq
 refine Ll (fun out s1 ⟨h1,H1,I1,q⟩=>⟨h1,.str out,H1,I1.tok _,⟨_,rfl⟩,q out⟩) key⟩
end L2
namespace L2
open PySem PySem.Spec PyProof.Rows PySem.W PySem.Calls PySem.Builtin PySem.Builtin.ObjectAttr PySem.Builtin.Getset_descriptor
def Ak(K:Frag)(C:eZ):Bool:=(clsIn K C).isSome && (findIn K (.ref C) "__getattribute__" == some (some (.builtin "BaseException.__getattribute__"))) && (findIn K (.ref C) "__getattr__" == some none) && (findIn K (.ref C) "__class__" == some (some (.builtin "object.__class__"))) &&
 (mroIn K C (.type "object")== some true) && (mroIn K C (.type "BaseException")== some true)
section
variable{prog:fA}{w:fB}{A:fD}{E:eQ}{h:Heap}{g:Array GenState}{d:Drawn}{t:Nat}{os:OsState}{a C:eZ}{o:Obj}{K:Frag}
end
section
variable{K:Frag}{a C:eZ}{o:Obj}
end
end L2
namespace L2
open PySem PySem.Spec PyProof.Rows
abbrev Cx.hnd(X:Cx)(a:eZ)(o:Obj):Cx:={X with A:=X.A.mark (some (.ref a)),calm:=false,pn:=[(a,o)],xe:=fun _ _=>False }
section
variable{X:Cx}{σ:St}{H:Hp}{s:eX}{a C:eZ}{o:Obj}
theorem ZD.hnd(I:ZD X [] σ H s)(ho:s.heap.get? a=some o)(hH:H a=none)(hd:∃vs,o.data = .fields vs):ZD (X.hnd a o) [] σ H s:=by
 obtain⟨vs,hd⟩:=hd;obtain⟨m,⟨oL,esL,epL,hoL,hdL,rL⟩,_⟩:=id I.loc;refine⟨⟨I.ok.mod,I.ok.kind,I.ok.glob,I.ok.blt,I.ok.above,I.ok.inj,I.ok.has,I.ok.cab,fun z=>Bool.noConfusion z,I.ok.frames,I.ok.stk,I.ok.exf,I.ok.bs,I.ok.bsz,I.ok.noex,I.ok.exfs,I.ok.funs,I.ok.frf⟩,I.os,I.bare,I.base,I.loc,I.cell,I.free,I.freeC,fun p hp=>?_,I.hok,I.len⟩;have e:p=(a,o):=by simpa using hp
 subst e;refine⟨ho,hH,fun z=>?_,fun z=>?_,fun v z=>?_⟩
 ·grind
 ·obtain⟨_,o',e',d⟩:=I.funs.mem (show a∈X.outer.filterMap (·.frame) from z);rw[ho] at e';cases e';exact d vs hd
 ·have z:o.data = .cell v:=z;rw[hd] at z;cases z
theorem ZD.unhnd(I:ZD (X.hnd a o) [] σ H s)(ok:X.Ok)(hpn:X.pn = []):ZD X [] σ H s :=
 ⟨ok,I.os,I.bare,I.base,I.loc,I.cell,I.free,I.freeC,(fun p hp=>by rw[hpn] at hp;cases hp),I.hok,I.len⟩
theorem cY{M:Model}{A:fD}{E:eQ}{Q:Unit->eX->Prop}(I:ZD X [] σ H s)(hpn:X.pn = [])(hex:X.ex = [])(stk:X.stack=X.env::X.outer)(x:UA X.s₀.heap H s.heap a C)(k:∀h',ZD X [] σ H {s with heap:=h' }->UA X.s₀.heap H h' a C->Q () {s with heap:=h' }):wpAny M A (setFlight (.ref a) none) Q E s:=by
 obtain⟨ha,h0a,oe,vs,a0,he,hc,hd,v0,tr⟩:=id x;rcases tr with v1 | tr
 ·unfold setFlight;refine wpAny_bind (wpAny_field he hd v1 ?_);rw[if_neg aA];exact wpAny_pure (k s.heap I x)
 ·exact Dt I hpn ⟨ha,h0a,oe,vs,a0,he,hc,hd,v0,tr⟩ fun h' I' x'=>k h' I' x'.at_
end
def TF(K:uFg)(C D:eZ):Option Bool:=if ((PySem.W.clsIn K D).isSome && (PySem.W.typeIn K (.ref D)== some (.type "type")) && (PySem.W.subIn K (.ref D) (.type "BaseException")== some true))=true then PySem.W.subIn K (.ref C) (.ref D) else none
theorem MD{M:Model}{A:fD}{E:eQ}{s:eX}{K:uFg}{a C D:eZ}{oe:Obj}{b:Bool}{Q:Bool->eX->Prop}(X:K.In s.heap)(he:s.heap.get? a=some oe)(hc:oe.cls = .ref C)(e:TF K C D=some b)(q:Q b s):wpAny M A (excMatches (.ref a) (.ref D)) Q E s:=by
 unfold TF at e;split at e
 ·rename_i z;simp only[yV] at z;obtain⟨⟨z0,z1⟩,z2⟩:=z;have L0:=PySem.W.looks_typeIn (M:=M) X (beq_iff_eq.mp z1);have L1:=PySem.W.looks_subIn (M:=M) X (beq_iff_eq.mp z2);have L2:=PySem.W.looks_subIn (M:=M) X e;have LI:PySem.W.Looks M s.heap (isInstance (.ref D) (.type "tuple")) false:=L0.andThen (PySem.W.Looks.of_pure tc_notTuple);obtain⟨cdD,hcD⟩:=wA.mp z0;have LT:PySem.W.Looks M s.heap (isType (.ref D)) true:=by
   unfold PySem.W.clsIn at hcD;split at hcD
   ·rename_i c' d' cd' sl' ho;intro A' Q' E' s' k q;unfold isType loadHead;exact wpAny_bind (wpAny_loadPart (k _ _ (X _ _ ho)) (wpAny_pure q))
   ·cases hcD
  have LE:PySem.W.Looks M s.heap (isExcClass (.ref D)) true:=LT.andThen L1;have Lt:PySem.W.Looks M s.heap (typeOf (.ref a)) (.ref C):=hc▸(PySem.W.Looks.ld he).andThen .now;obtain⟨h0,g,d,t,os⟩:=s;unfold excMatches;refine wpAny_bind (LI.at ?_);simp only[Bool.false_eq_true,if_false];refine wpAny_bind (wpAny_pure ?_);simp only[List.forIn_cons,List.forIn_nil];refine wpAny_bind (wpAny_bind (wpAny_bind (LE.at ?_)));simp only[Bool.not_true,Bool.false_eq_true,if_false];refine wpAny_pure (wpAny_pure ?_);refine wpAny_bind (Lt.at (wpAny_bind (wpAny_bind (wpAny_bind (L2.at ?_)))));cases b with
  | true=>simp only[if_true];exact wpAny_pure (wpAny_pure (wpAny_pure q))
  | false=>simp only[Bool.false_eq_true,if_false];exact wpAny_pure (wpAny_pure (wpAny_pure q))
 ·cases e
def PH(X:Cx)(hs:List ExceptHandler)(t:eZ->TS):Prop:=∀(a C:eZ)(s:eX)(σ:St)(H:Hp)(D:ZW),ZD X [] σ H s->UA X.s₀.heap H s.heap a C->t C D σ H->wpAny (model X.prog X.w) X.A (handleBy (.ref a) X.env hs) (SP X [] D) X.xe s
structure QH (X:Cx) (hs:List ExceptHandler) (t:eZ->TS):Prop where
 h:PH X hs t
def Nw:eZ->TS:=fun _ _ _ _=>False
def ZW.off(D:ZW)(i:Nat):ZW:={nx:=fun σ H=>D.nx (σ.set i none) H,rt:=D.rt,bk:=fun σ H=>D.bk (σ.set i none) H,ct:=fun σ H=>D.ct (σ.set i none) H }
def LK(K:uFg)(Dc:eZ)(i:Nat)(ts:eZ->eZ->TS)(tr:eZ->TS):eZ->TS:=fun C D σ H=>∃b,TF K C Dc=some b/\if b=true then ∀a,ts a C (D.off i) (σ.set i (some (.ref a))) H else tr C D σ H
structure Pl (X:Cx):Prop where
 pn:X.pn = []
 ex:X.ex = []
 stk:X.stack=X.env::X.outer
 fr:X.env.frame=some X.env.locals
section
variable{X:Cx}{x n:Str}{np pos:Pos}{b₀:Stmt}{suite:List Stmt}{rest:List ExceptHandler}{Dc:eZ}{tr:eZ->TS}
theorem dG:QH X [] Nw:=⟨fun _ _ _ _ _ _ _ _ h=>h.elim⟩
theorem Po{a:eZ}{o:Obj}{D:ZW}{f:Flow}{s:eX}(ok:X.Ok)(hpn:X.pn = [])(h:SP (X.hnd a o) [] D f s):SP X [] D f s:=by
 cases f with
 | next=>obtain⟨σ,H,I,q⟩:=h;exact⟨σ,H,I.unhnd ok hpn,q⟩
 | brk=>obtain⟨σ,H,I,q⟩:=h;exact⟨σ,H,I.unhnd ok hpn,q⟩
 | cont=>obtain⟨σ,H,I,q⟩:=h;exact⟨σ,H,I.unhnd ok hpn,q⟩
 | ret u=>obtain⟨v,σ,H,I,r,q⟩:=h;exact⟨v,σ,H,I.unhnd ok hpn,r,q⟩
theorem ZD.unset{i:Nat}{σ:St}{H:Hp}{s:eX}{h':Heap}{tk:Nat}{m:eR}{v:Option eY}(I:ZD X [] σ H s)(hpn:X.pn = [])(hN:X.N.Nodup)(hi:X.N[i]? = some n)(hn:s.heap.Ns X.env.locals m)(hn':h'.Ns X.env.locals (fun y=>if y=n then v else m y))(hs:Heap.SameBut X.env.locals s.heap h'):ZD X [] (σ.set i none) H {s with heap:=h',toks:=tk }:=by
 obtain⟨m0,hn0,hl⟩:=id I.loc;have em:∀y,m0 y=m y:=by
  obtain⟨o1,e1,p1,g1,d1,_,f1⟩:=hn0;obtain⟨o2,e2,p2,g2,d2,_,f2⟩:=hn;rw[g1] at g2;cases g2;rw[d1] at d2;cases d2;intro y;rw[← f1,← f2]
 have cne:=I.cne;have tracked:YG X.prog X.w H h':=fun b ob e=>by
  refine(I.hok b ob e).stay (fun c w' hc q=>(hs.2 c ?_).trans q) (fun _ q=>q) fun _ _ q=>q;rintro rfl;rcases hc with rfl | hc
  ·rw[I.free] at e;cases e
  ·rw[I.free] at hc;cases hc
 have neL:∀b o,X.s₀.heap.get? b=some o->b≠X.env.locals:=fun b o e=>yJ (yG (xP e) I.ok.above);refine⟨I.ok,I.os,I.bare,⟨fun b o e nn hb hx=>(hs.2 b (neL b o e)).trans (I.base.keep b o e nn hb hx),fun b o e nn hb hx=>?_,I.base.free,fun b o e hx=>?_,I.base.tups,I.base.frzs,I.base.tbls⟩,⟨_,hn',fun j y v' e1 e2 e3=>?_⟩,fun y c e=>?_,I.free,I.freeC,(fun q hq=>by rw[hpn] at hq;cases hq),tracked,by rw[List.length_set];exact I.len⟩
 ·obtain⟨sl,e1⟩:=I.base.slot b o e nn hb hx;exact⟨sl,(hs.2 b (neL b o e)).trans e1⟩
 ·obtain⟨o',e1⟩:=I.base.there b o e hx;exact⟨o',(hs.2 b (neL b o e)).trans e1⟩
 ·by_cases hj:j=i
  ·grind
  ·rw[List.getElem?_set_ne (Ne.symm hj)] at e2;obtain⟨u',r',q⟩:=hl j y v' e1 e2 e3;refine⟨u',r',?_⟩;rcases q with⟨k,e⟩ | ⟨k,c,e,z⟩
   ·refine .inl ⟨k,?_⟩;have ne:y≠n:=fun e=>hj (EB hN e1 (e▸hi));show (if y=n then v else m y)=some u';rw[if_neg ne,← em];exact e
   ·exact .inr ⟨k,c,e,z.sameBut hs (cne y c e)⟩
 ·obtain⟨w',z⟩:=I.cell y c e;exact⟨w',z.sameBut hs (cne y c e)⟩
theorem Sv(i:Nat){ts:eZ->eZ->TS}(p:Pl X)(hm:X.mg x=some (.ref Dc))(hb:∀a C o,Ca o C->YS (X.hnd a o) (b₀::suite) (ts a C))(hr:QH X rest tr)(nm:nB X x .globalImplicit:=by kernel_rfl)(hN:nD X:=by kernel_rfl)(ne:nB X n .local:=by kernel_rfl)(hi:X.N[i]? = some n:=by rfl):QH X (.ExceptHandler (some (.Name x np)) (some n) (b₀::suite) pos::rest) (LK X.K Dc i ts tr):=⟨by
 have nm:=od nm;have hN:=od hN;have ne:=od ne;intro a C s σ H D I xa h;obtain⟨b,eb,h⟩:=h;obtain⟨ha,h0a,oe,vs,a0,he,hc,hd,v0,_⟩:=id xa;have J:=I.hnd he ha ⟨vs,hd⟩;refine wpAny_handleBy_cons (codeAny_handlers_test (Am (X:=X.hnd a oe) J nm.1 hm ?_ nm.2.1)) (by intro q;cases q);refine MD J.kIn he hc.1 eb ?_;cases b with
 | false=>exact hr.h a C s σ H D I xa h
 | true =>
  refine codeAny_handlers_suite_as (cY I p.pn p.ex p.stk xa fun h' I' xa'=>?_);obtain⟨ha',_,oe',vs',_,he',hc',hd',_⟩:=xa';refine AQ (X:=X.hnd a oe') (I'.hnd he' ha' ⟨vs',hd'⟩) hN hi (.inl ne.1) (v:=.ref a) rfl (fun s1 I1=>?_) (.inr ne.1);refine wpAny_mono ((hb a C oe' hc').h [] _ _ H (D.off i) I1 (h a)) (fun f s2 q=>?_) fun _ _ z=>z.elim;have q:=Po I.ok p.pn q;have hp:(X.env.scope.kind == .class || (X.env.scope.kind == .module && X.env.locals != X.env.globals))=false:=by rw[I.ok.kind];rfl
  cases f with
  | next =>
   obtain⟨σ2,H2,I2,q⟩:=q;obtain⟨m,hn,_⟩:=id I2.loc;exact wpAny_nameGoes_keeps ne.1 hn hp fun h3 v hn3 hs3=>⟨_,H2,I2.unset p.pn hN hi hn hn3 hs3,q⟩
  | brk =>
   obtain⟨σ2,H2,I2,q⟩:=q;obtain⟨m,hn,_⟩:=id I2.loc;exact wpAny_nameGoes_keeps ne.1 hn hp fun h3 v hn3 hs3=>⟨_,H2,I2.unset p.pn hN hi hn hn3 hs3,q⟩
  | cont =>
   obtain⟨σ2,H2,I2,q⟩:=q;obtain⟨m,hn,_⟩:=id I2.loc;exact wpAny_nameGoes_keeps ne.1 hn hp fun h3 v hn3 hs3=>⟨_,H2,I2.unset p.pn hN hi hn hn3 hs3,q⟩
  | ret u =>
   obtain⟨v,σ2,H2,I2,r,q⟩:=q;obtain⟨m,hn,_⟩:=id I2.loc
   exact wpAny_nameGoes_keeps ne.1 hn hp fun h3 v' hn3 hs3=>⟨v,_,H2,I2.unset p.pn hN hi hn hn3 hs3,r,q⟩⟩
end
def eF(X:Cx)(st:Stmt)(t:TS):Prop:=∀(s:eX)(σ:St)(H:Hp)(D:ZW),ZD X [] σ H s->t D σ H->wpAny (model X.prog X.w) X.A (exec st X.env) (SP X [] D) X.xe s
def Qp(X:Cx)(st:List Stmt)(t:TS):Prop:=∀(s:eX)(σ:St)(H:Hp)(D:ZW),ZD X [] σ H s->t D σ H->wpAny (model X.prog X.w) X.A (execs st X.env) (SP X [] D) X.xe s
structure FI (X:Cx) (st:Stmt) (t:TS):Prop where
 h:eF X st t
structure Tw (X:Cx) (st:List Stmt) (t:TS):Prop where
 h:Qp X st t
def Rq(tb:(St->XK)->TS)(th:eZ->TS):TS:=fun D σ H=>tb (fun σ' c _ H'=>∃C,c = .ref C/\th C D σ' H') D σ H
section
variable{X:Cx}{st:Stmt}{rest:List Stmt}{t u:TS}
theorem QS.q0(h:QS X st t):FI X st t:=⟨fun s σ H D I q=>h.h [] s σ H D I q⟩
theorem YS.q0(h:YS X rest t):Tw X rest t:=⟨fun s σ H D I q=>h.h [] s σ H D I q⟩
theorem HR(h1:FI X st t)(h2:Tw X rest u):Tw X (st::rest) (Vq t u):=⟨by
 intro s σ H D I h;rw[execs];refine wpAny_bind (thn (h1.h s σ H _ I h) fun f s1 q=>?_);cases f with
 | next =>
  obtain⟨σ1,H1,I1,q⟩:=q;exact h2.h s1 σ1 H1 D I1 q
 | brk=>exact wpAny_pure q
 | cont=>exact wpAny_pure q
 | ret u=>exact wpAny_pure q⟩
theorem ON(p:Pl X)(hb:∀E' EH,Xq (X.wish E') EH->YS (X.wish E') body (tb EH))(hh:QH X (h₀::hs) th):FI X (.Try body (h₀::hs) [] [] pos) (Rq tb th):=⟨by
 intro s σ H D I h;refine wpAny_Try_except ?_;have wish:∀{E'} {σ:St}{H:Hp}{s:eX},ZD X [] σ H s->ZD (X.wish E') [] σ H s:=fun I=>⟨⟨I.ok.mod,I.ok.kind,I.ok.glob,I.ok.blt,I.ok.above,I.ok.inj,I.ok.has,I.ok.cab,I.ok.hd,I.ok.frames,I.ok.stk,I.ok.exf,I.ok.bs,I.ok.bsz,I.ok.noex,I.ok.exfs,I.ok.funs,I.ok.frf⟩,I.os,I.bare,I.base,I.loc,I.cell,I.free,I.freeC,I.pin,I.hok,I.len⟩;have unw:∀{E'} {σ:St}{H:Hp}{s:eX}{pins:List (eZ×Obj)},ZD (X.wish E') pins σ H s->ZD X pins σ H s:=fun I=>⟨⟨I.ok.mod,I.ok.kind,I.ok.glob,I.ok.blt,I.ok.above,I.ok.inj,I.ok.has,I.ok.cab,I.ok.hd,I.ok.frames,I.ok.stk,I.ok.exf,I.ok.bs,I.ok.bsz,I.ok.noex,I.ok.exfs,I.ok.funs,I.ok.frf⟩,I.os,I.bare,I.base,I.loc,I.cell,I.free,I.freeC,I.pin,I.hok,I.len⟩;have hx:Xq (X.wish fun e s₁=>wpAny (model X.prog X.w) X.A (noteFrame e X.env) (fun _ s₂=>wpAny (model X.prog X.w) X.A (setFlight e none) (fun _ s₃=>wpAny (model X.prog X.w) X.A (handleBy e X.env (h₀::hs)) (SP X [] D) X.xe s₃) X.xe s₂) X.xe s₁)
   fun σ' c _ H'=>∃C,c = .ref C/\th C D σ' H':=⟨.inr ⟨p.ex,⟨fun pins σ1 H1 s1 a C I1 x q=>by
  obtain⟨C',eC,q⟩:=q;cases eC;have I2:=(unw I1).pins_of (pins':=[]) (fun p hp=>nomatch hp)
  exact KD I2 p.pn p.ex p.stk p.fr x fun h' J y=>hh.h a C _ σ1 H1 D J y q⟩⟩⟩
 refine wpAny_mono ((hb _ _ hx).h [] s σ H D (wish I) h) (fun f s1 q=>?_) fun _ _ z=>z;have q':SP X [] D f s1:=by
  cases f with
  | next=>obtain⟨σ,H,I,q⟩:=q;exact⟨σ,H,unw I,q⟩
  | brk=>obtain⟨σ,H,I,q⟩:=q;exact⟨σ,H,unw I,q⟩
  | cont=>obtain⟨σ,H,I,q⟩:=q;exact⟨σ,H,unw I,q⟩
  | ret u=>obtain⟨v,σ,H,I,r,q⟩:=q;exact⟨v,σ,H,unw I,r,q⟩
 cases f with
 | next=>exact wpAny_pure q'
 | brk=>exact q'
 | cont=>exact q'
 | ret u=>exact q'⟩
end
section
variable{P:fA}{w:fB}{K:uFg}{mg:eR}{base:Heap}
theorem UN.ok0{x qual:Str}{st:Stmt}{f:eZ}{fd:FuncData}{N ps:eS}{k:Nat}{sp:Sp}(F:UN K x qual st f fd)(S:ZL N ps (Zj st))(len:∀vs H Q E,sp vs H Q E->vs.length=ps.length)(hbody:∀ (cdv:eY) (A:fD) (outer:List Env) (s:eX) (H:Hp) (vs:aG) (Q:VK) (E:XK),ZJ k (A.deeper (envOfC qual (Zj st) s.heap.objs.size f cdv))->sp vs H Q E -> ∃t,Tw (Yp YY P w K mg base N qual (Zj st) f cdv A outer s H E).nox (Yd st) t/\t {nx:=fun _ H'=>Q .non H',rt:=Q } (start N vs) H):ZZ P w K mg base YY (k+1) f fd ps sp:=by
 obtain⟨oc,od,kV,doc,pm,an,cdv,ct,osl,rfl,lk,hcd⟩:=F.ex;refine⟨len,fun A outer s H args us vs Q E hr e0 hb r hsp=>?_⟩;have hl:=len _ _ _ _ hsp;have KX:K.In s.heap:=e0.mod.kin.keeps fun b o e=>(e0.bs b o e).1;have lim:s.heap.NoLimit:=e0.mod.nolimit.keeps fun b o e=>(e0.bs b o e).1;have hkind:∀y∈ps.zip us,(Zj st).names.lookup y.1=some .local\/((Zj st).names.lookup y.1=some .cell/\((cellsFrom (s.heap.objs.size+1) (Zj st).names []).lookup y.1).isSome=true):=fun⟨n,v⟩ hy=>by
  rcases S.par n (zG hy).1 with q | q
  ·exact .inl q
  ·exact .inr ⟨q,PySem.W.cellsFrom_some _ _ _ (.inl q)⟩
 refine codeAny_call_function hr.depth (KX _ _ lk) rfl S.co S.gen rfl (PySem.W.codeRec_of KX hcd) (hb _ _ _ _ ?_);refine wpAny_newFunctionEnv_cells S.kind hkind fun env he s1 x=>?_;subst he;refine⟨lim.keeps x.toInCall.keep,codeAny_func ?_⟩;obtain⟨t,ht,hq⟩:=hbody cdv A outer s H vs Q E (hr.deeper _) hsp;have I0:ZD (Yp YY P w K mg base N qual (Zj st) f cdv A outer s H E) [] (start N vs) H s1:=Ez S hr.hd e0 hl r x;have I:ZD (Yp YY P w K mg base N qual (Zj st) f cdv A outer s H E).nox [] (start N vs) H s1:=⟨⟨I0.ok.mod,I0.ok.kind,I0.ok.glob,I0.ok.blt,I0.ok.above,I0.ok.inj,I0.ok.has,I0.ok.cab,I0.ok.hd,I0.ok.frames,I0.ok.stk,I0.ok.exf,I0.ok.bs,I0.ok.bsz,I0.ok.noex,I0.ok.exfs,I0.ok.funs,I0.ok.frf⟩,I0.os,I0.bare,I0.base,I0.loc,I0.cell,I0.free,I0.freeC,I0.pin,I0.hok,I0.len⟩;refine wpAny_mono (ht.h s1 (start N vs) H _ I hq) (fun fl s' hs=>?_) fun e s' hs=>hs.elim;have fin:∀{σ':St}{H':Hp}{v:V}{u:eY},ZD (Yp YY P w K mg base N qual (Zj st) f cdv A outer s H E).nox [] σ' H' s'->ZG v u->Q v H'->CE outer P w H s Q u s' :=
  fun {σ' H' v u} J rv q=>⟨v,H',J.os,J.bare,J.base,J.hok,rv,q⟩
 cases fl with
 | ret u =>
  obtain⟨v,σ',H',J,rv,q⟩:=hs;exact fin J rv q
 | next =>
  obtain⟨σ',H',J,q⟩:=hs;exact fin (v:=V.non) (u:=Value.none) J rfl q
 | brk=>obtain⟨_,_,_,z⟩:=hs;exact z.elim
 | cont=>obtain⟨_,_,_,z⟩:=hs;exact z.elim
end
theorem GF{CX:VX}{P:fA}{w:fB}{K:uFg}{mg:eR}{base:Heap}{N:eS}{qual:Str}{scope:Scope}{f:eZ}{cd:eY}{A:fD}{outer:List Env}{s:eX}{H:Hp}{E:XK} :
  Pl (Yp CX P w K mg base N qual scope f cd A outer s H E).nox:=⟨rfl,rfl,rfl,rfl⟩
structure Er (K:uFg) (mg:eR) (c:eV) (errs:eS):Prop where
 g:∀x,x∈errs->mg x=some (.ref (c x))
 x:∀x,x∈errs->J8 K (c x)=true
 k:∀x,x∈errs->Ak K (c x)=true
 m:mg "MootError" = some (.ref (c "MootError"))
 e:∀x,x∈errs->TF K (c x) (c "MootError")=some true
 s:∀x,x∈errs->∀y,y∈errs->TF K (c x) (c y)=some (decide (x=y))
 i:∀x,x∈errs->∀y,y∈errs->PySem.W.kitOne K (.ref (c x)) (.ref (c y))=some (decide (x=y))
 v:∀x,x∈errs->PySem.W.kitOne K (.ref (c x)) (.type "ValueError")=some true
theorem Wf{X:Cx}{E:St->XK}{x:Str}{np cpos pos:Pos}{e:Expr}{te:TE}{c:eV}{es:eS}(hx:Xp X E)(er:Er X.K X.mg c es)(he:QE X e te)(hm:decide (x∈es)=true:=by kernel_rfl)(n:nB X x .globalImplicit:=by kernel_rfl)(hcl:X.calm=true:=by rfl)(hex:X.ex = []:=by rfl)(hs:starEach [e] X.env = [(false,eval e X.env)]:=by rfl):QS X (.Raise (some (.Call (.Name x np) [e] [] cpos)) none pos) (Kb E (c x) te):=XR hx hcl hex (er.x x (od hm)) (od n) (er.g x (od hm)) he hs
abbrev lxE(X:Cx)(E:St->XK):eY->eX->Prop:=fun(e:eY) (s':eX)=>∃ σ H a C,e = .ref a/\ZD X [] σ H s'/\UA X.s₀.heap H s'.heap a C/\E σ (.ref C) none H
abbrev Cx.lx(X:Cx)(E:St->XK):Cx:=X.wish (lxE X E)
theorem P8{X:Cx}{st:Stmt}{t:TS}{E:St->XK}(p:Pl X)(hx:Xp X E)(h:Xq (X.lx E) E->Xp (X.lx E) E->PassesOwn (model X.prog X.w) X.A X.env (lxE X E)->QS (X.lx E) st t):QS X st t:=⟨by
 intro pins s σ H D I q;have wish:∀{E'} {σ:St}{H:Hp}{s:eX}{pins:List (eZ×Obj)},ZD X pins σ H s->ZD (X.wish E') pins σ H s:=fun I=>⟨⟨I.ok.mod,I.ok.kind,I.ok.glob,I.ok.blt,I.ok.above,I.ok.inj,I.ok.has,I.ok.cab,I.ok.hd,I.ok.frames,I.ok.stk,I.ok.exf,I.ok.bs,I.ok.bsz,I.ok.noex,I.ok.exfs,I.ok.funs,I.ok.frf⟩,I.os,I.bare,I.base,I.loc,I.cell,I.free,I.freeC,I.pin,I.hok,I.len⟩;have unw:∀{E'} {σ:St}{H:Hp}{s:eX}{pins:List (eZ×Obj)},ZD (X.wish E') pins σ H s->ZD X pins σ H s:=fun I=>⟨⟨I.ok.mod,I.ok.kind,I.ok.glob,I.ok.blt,I.ok.above,I.ok.inj,I.ok.has,I.ok.cab,I.ok.hd,I.ok.frames,I.ok.stk,I.ok.exf,I.ok.bs,I.ok.bsz,I.ok.noex,I.ok.exfs,I.ok.funs,I.ok.frf⟩,I.os,I.bare,I.base,I.loc,I.cell,I.free,I.freeC,I.pin,I.hok,I.len⟩;have hp:PassesOwn (model X.prog X.w) X.A X.env (lxE X E):=by
  rintro e s' ⟨σ1,H1,a,C,rfl,I1,x1,q1⟩;refine EL I1 p.pn p.ex p.stk p.fr x1 fun h2 I2 x2 _=>?_;obtain⟨ha,h0a,oe,vs,a0,he,hc,hd,v0,T,oT,ts,v3,v1,tr⟩:=id x2;show wpAny _ _ (field (.ref a) 1 >>= _) _ _ _;refine wpAny_bind (wpAny_field he hd v1 ?_);rw[if_neg (show ¬((Value.ref T == Value.none)=true) from by simp)];exact Dt (s:={s' with heap:=h2 }) I2 p.pn x2 fun h3 I3 x3=>⟨σ1,H1,a,C,rfl,I3,x3.at_,q1⟩
 have hx':Xp (X.lx E) E:=⟨fun pins σ1 H1 s1 a C I1 x1 q1=>by exact⟨σ1,H1,a,C,rfl,(unw I1).pins_of (fun p hp=>nomatch hp),x1,q1⟩⟩;refine wpAny_mono ((h ⟨.inr ⟨p.ex,hx'⟩⟩ hx' hp).h pins s σ H D (wish I) q) (fun f s1 q=>?_) fun e s1 z=>?_
 ·cases f with
  | next=>obtain⟨σ,H,I,q⟩:=q;exact⟨σ,H,unw I,q⟩
  | brk=>obtain⟨σ,H,I,q⟩:=q;exact⟨σ,H,unw I,q⟩
  | cont=>obtain⟨σ,H,I,q⟩:=q;exact⟨σ,H,unw I,q⟩
  | ret u=>obtain⟨v,σ,H,I,r,q⟩:=q;exact⟨v,σ,H,unw I,r,q⟩
 ·obtain⟨σ1,H1,a,C,rfl,I1,x1,q1⟩:=z
  exact hx.h [] σ1 H1 s1 a C I1 x1 q1⟩
theorem CO(p:Pl X)(hx:Xp X E)(hc:X.calm=true)(hi:QI (X.lx E) tg iter wi)(hg:QG (X.lx E) tg g)(hb:Xq (X.lx E) E->Xp (X.lx E) E->YS (X.lx E) body t)(hs:∀x,foldedSetIterable iter X.env x=pure x:=by intro _;rfl):QS X (.For tg iter body [] pos) (Kn wi g t):=P8 p hx fun hq hp po=>Wz (X:=X.lx E) po hc hi hg (hb hq hp) hs
def RM:List V->Hp->VK->Prop:=fun xs H Q=>(∃x,xs = [.str x]/\Q (.str x) H)\/∃i:Int,xs = [.int i]/\i.natAbs.log2 < 1920/\Q (.str (Str.ofString (toString i))) H
theorem L6:QC X (.type "str") RM:=⟨by
 intro pins s σ H xs us Q I r h;rcases h with⟨x,rfl,q⟩ | ⟨i,rfl,hi,q⟩
 ·obtain⟨u,rfl,t,rfl⟩:=Vg r;exact P.str_of_str ⟨.str x,H,I,⟨t,rfl⟩,q⟩
 ·obtain⟨u,rfl,t,rfl⟩:=Vg r
  exact P.str_of_int hi ⟨.str _,H,I.tok _,⟨_,rfl⟩,q⟩⟩
inductive BZ(xs:aG)(H:Hp)(Q:VK):Prop
 |mk(x n)(_:xs = [.str x])(_:PySem.intText? x=some n)(_:x.length<=640)(_:Q (.int n) H)
theorem Ld:QC X (.type "int") BZ:=⟨by
 intro pins s σ H xs us Q I r ⟨x,n,e,hn,hl,q⟩;subst e;obtain⟨u,rfl,t,rfl⟩:=Vg r
 exact PySem.W.KIN.call_text hn hl ⟨.int n,H,I.tok _,⟨_,rfl⟩,q⟩⟩
inductive Ap(x:V)(xs:aG)(H:Hp)(Q:VK):Prop
 |mk(a b)(_:x = .str a)(_:xs = [.str b])(_:b.length≠0)(_:a.length+2<=sizeLine)(_:∀l,H l=none->Q (.ref l) (upd H l (.lst ((Txt.split a b).map V.str))))
theorem Lv:∀l:List (Str×Tok),ZH ((l.map (·.1)).map V.str) (strValues l)
 | []=>.nil
 | (x,t)::l=>.cons ⟨t,rfl⟩ (Lv l)
theorem Bo:QM X "str.split" Ap:=⟨by
 intro pins s σ H x xs v us Q I rx rs ⟨a,b,ex,exs,hb,hz,q⟩;subst ex exs;obtain⟨t,rfl⟩:=rx;obtain⟨u,rfl,tu,rfl⟩:=Vg rs;have hn:(PySem.Builtin.Str.partsBetween a (PySem.Builtin.Str.occurrences a b 0 a.length (a.length+1)) b.length).length<=sizeLine:=by
  have e1:=StrLaws.occ_length_le a b 0 a.length (a.length+1);rw[PySem.length_partsBetween];lia
 have hy:(b.length == 0)=false:=by simpa using hb
 have put:∀(l:List (Str×Tok))(k:Nat),l.map (·.1)=Txt.split a b->l.length<=sizeLine->EP X pins σ Q (.ref s.heap.objs.size) {s with toks:=k,heap:=s.heap.push {cls:=.type "list", data:=.seq (strValues l).toArray } }:=fun l k e hl =>
  ⟨.ref s.heap.objs.size,_,I.laid (t':=k) (fun b o e=>xB _ e) (xH _) (show ZM X.prog X.w _ _ _ (.lst ((Txt.split a b).map V.str)) from⟨by rw[xA,← e,xA];exact hl,strValues l,0,by rw[← e];exact Lv l,xL _ rfl⟩),rfl,q _ (I.hok.fresh (xH _))⟩
 cases h1:(decide (a.length < b.length) || decide (PySem.Builtin.Str.strKind a < PySem.Builtin.Str.strKind b))
 ·cases hf:(PySem.Builtin.Str.occurrences a b 0 a.length (a.length+1)).isEmpty
  ·refine call_meets F.slot_str_split (typeIs_str _ _ _) F.entry_str_split (F.args_str_split_2 _ _) (meets_str_split_sep a b t tu h1 hy hf (by lia) hn) ?_;show wants _ _ _ {s with toks:=_,heap:=s.heap.push {cls:=.type "list", data:=.seq (strsFrom s.toks (PySem.Builtin.Str.partsBetween a (PySem.Builtin.Str.occurrences a b 0 a.length (a.length+1)) b.length)).toArray } };rw[strsFrom_eq];have e:(numbered s.toks (PySem.Builtin.Str.partsBetween a (PySem.Builtin.Str.occurrences a b 0 a.length (a.length+1)) b.length)).map (·.1)=Txt.split a b:=(numbered_texts s.toks (PySem.Builtin.Str.partsBetween a (PySem.Builtin.Str.occurrences a b 0 a.length (a.length+1)) b.length)).trans ((if_neg (ne_true_of_eq_false h1)).trans (if_neg (ne_true_of_eq_false hf))).symm;refine put (numbered s.toks _) _ e ?_;have:=congrArg List.length (numbered_texts s.toks (PySem.Builtin.Str.partsBetween a (PySem.Builtin.Str.occurrences a b 0 a.length (a.length+1)) b.length));rw[xA] at this;rw[this];exact hn
  ·exact call_meets F.slot_str_split (typeIs_str _ _ _) F.entry_str_split (F.args_str_split_2 _ _) (meets_str_split_not_found a b t tu h1 hy hf) (put [(a,t)] s.toks ((if_neg (ne_true_of_eq_false h1)).trans (if_pos hf)).symm (aB rfl))
 ·exact call_meets F.slot_str_split (typeIs_str _ _ _) F.entry_str_split (F.args_str_split_2 _ _) (meets_str_split_cannot_occur a b t tu h1) (put [(a,t)] s.toks (if_pos h1).symm (aB rfl))⟩
inductive B0(K:uFg)(v:V)(vs:aG)(H:Hp)(Q:VK):Prop
 |mk(l:eZ) (xs:eS) (x:Str) (j:Nat)(_:v = .ref l)(_:vs = [.str x])(_:ZF K H l (xs.map V.str))(_:xs[j]? = some x)(_:(∀m,m < j->xs[m]? ≠ some x))(_:Q (.int j) H)
def eqS(x:Str):eY->Bool
 | .str y _=>y == x
 | _=>false
theorem IF:∀{xs:eS}{us:eU},ZH (xs.map V.str) us->us.length=xs.length/\∀(j:Nat)(y:Str),xs[j]? = some y->∃t,us[j]? = some (Value.str y t)
 | [],_,.nil=>⟨rfl,fun j y h=>by simp at h⟩
 | x::xs,_,.cons r rr=>by
  obtain⟨h1,h2⟩:=IF rr;obtain⟨t,rfl⟩:=r;refine⟨by rw[xF,xF,h1],fun j y h=>?_⟩;cases j with
  | zero=>simp at h;subst h;exact⟨t,rfl⟩
  | succ j=>simp at h;simpa using h2 j y h
theorem IW:QM X "list.index" (B0 X.K):=⟨by
 intro pins s σ H v vs u us Q I rx rv ⟨l,xs,x,j,e1,e2,hL,hj,hno,q⟩;subst e1 e2;obtain rfl:u=Value.ref l:=rx;obtain⟨u,rfl,t,rfl⟩:=Vg rv;obtain⟨its,r,pl,hz⟩:=I.list hL;obtain⟨hl,hat⟩:=IF r;obtain⟨o,m,e1,e2,e3,e4⟩:=pl;obtain⟨oc,od,odt,osl⟩:=o;have e2':oc = .type "list" := e2;have e4':odt = .seq its.toArray m:=by first | exact e4 | exact e3
 subst e2' e4';have hjl:j < xs.length:=(xY.mp hj).1;have at_:∀(i:Nat)(hi:i < its.toArray.size),∃y t',xs[i]? = some y/\its.toArray[i]= .str y t':=fun i hi=>by grind
 have hjs:j < its.toArray.size:=by simpa [hl] using hjl
 refine call_meets F.slot_list_index ⟨_,e1,rfl⟩ F.entry_list_index (F.args_list_index_2 _ _) (SeqAt.list_indexAt l its.toArray m od osl (.str x t) (eqS x) j hjs ?_ ?_ ?_) ⟨e1,fun y hy=>?_,⟨.int j,H,I.tok _,⟨_,rfl⟩,q⟩⟩
 ·have:xs.length<=sizeLine:=by rw[xA] at hz;exact hz
  have h2:sizeLine < 2 ^ 62:=by decide
  lia
 ·obtain⟨y,t',h1,h2⟩:=at_ j hjs;rw[hj] at h1;cases h1;rw[h2];exact beq_self_eq_true x
 ·intro i hi hlt;obtain⟨y,t',h1,h2⟩:=at_ i hi;rw[h2];have:y≠x:=fun z=>hno i hlt (by rw[h1,z]);exact beq_eq_false_iff_ne.mpr this
 ·obtain⟨i,hi,rfl⟩:=Array.getElem_of_mem hy;obtain⟨y,t',h1,h2⟩:=at_ i hi;rw[h2]
  exact SeqAt.EqAt.str_str y t' x t⟩
def Bc(K:uFg)(P:Params)(d:eZ)(kvs:List (Str×Tok×eZ)):Prop:=(∃n,K.lookup d=some ⟨.type "dict", none,.dict (kvs.map fun x=>de P x.1 x.2.1 (.ref x.2.2)).toArray n,#[]⟩)/\(kvs.map (·.1)).Nodup/\(d == sysModules)=false
def kdK(kvs:List (Str×Tok×eZ)):List (ZQ×eY):=kvs.map fun x=>(Sum.inr x.1,Value.ref x.2.2)
theorem KS{K:uFg}{Pg:fA}{w:fB}{h:Heap}{d:eZ}{kvs:List (Str×Tok×eZ)}(X:K.In h)(D:Bc K w.params d kvs):h.DictOf (Y1 Pg w) d (kdK kvs):=by
 obtain⟨⟨n,e⟩,nd,_⟩:=D;refine⟨_,_,n,X _ _ e,⟨rfl,rfl,rfl⟩,rfl,fun x hx=>?_,?_,?_⟩
 ·obtain⟨y,_,rfl⟩:=yS.mp (Array.mem_toList_iff.mpr hx);exact⟨Sum.inr y.1,Ek y.1 y.2.1,rfl⟩
 ·have:∀l:List (Str×Tok×eZ),PySem.Pairs (Y1 Pg w) (l.map fun x=>de w.params x.1 x.2.1 (.ref x.2.2)) (kdK l):=by
   intro l
   induction l with
   | nil=>exact .nil
   | cons y l ih=>exact .cons (Ek y.1 y.2.1) rfl ih
  exact this kvs
 ·unfold kdK;rw[List.map_map];have e2:((fun x:ZQ×eY=>x.1)∘fun x:Str×Tok×eZ=>((Sum.inr x.1:ZQ),Value.ref x.2.2))=fun x=>Sum.inr x.1:=rfl;rw[e2];rw[List.nodup_iff_pairwise_ne] at nd ⊢;rw[List.pairwise_map] at nd ⊢;exact nd.imp fun h z=>h (Sum.inr.inj z)
def Yz(kvs:List (Str×Tok×eZ))(n:Str):Option eZ:=(kvs.find? fun x=>decide (x.1=n)).map (·.2.2)
theorem FG(n:Str):∀kvs:List (Str×Tok×eZ),valueAt (kdK kvs) (Sum.inr n)=(Yz kvs n).map Value.ref
 | []=>rfl
 | x::l=>by
  have ih:=FG n l;unfold valueAt kdK Yz at *;rw[xW,zI,zI];dsimp only;rw[Ku];cases decide (x.1=n) with
  | true=>rfl
  | false=>exact ih
inductive Ci(K:uFg)(P:Params)(x y:V)(H:Hp)(Q:VK):Prop
 |mk(n) (d) (kvs)(_:x = .str n)(_:y = .ref d)(_:Bc K P d kvs)(_:Q (.bl (Yz kvs n).isSome) H)
theorem Ea:YK X (compareOp .In) (Ci X.K X.w.params):=⟨by
 intro pins s σ H x y v u Q I rx ry ⟨n,d,kvs,ex,ey,D,q⟩;subst ex ey;obtain rfl:u=Value.ref d:=ry;refine wpAny_in_of (Ja (P:=X.prog) (w:=X.w) (k:=Sum.inr n) rx) D.2.2 (KS I.kIn D).mapOf ?_;rw[FG,Option.isSome_map]
 exact⟨.bl _,H,I.tok _,rfl,q⟩⟩
inductive Bj(K:uFg)(P:Params)(x y:V)(H:Hp)(Q:VK):Prop
 |mk(n) (d t) (kvs)(_:x = .ref d)(_:y = .str n)(_:Bc K P d kvs)(_:Yz kvs n=some t)(_:Q (.ref t) H)
theorem ES:Be X (Bj X.K X.w.params):=⟨by
 intro value slice pins s σ H x y v u Q I rx ry ⟨n,d,t,kvs,ex,ey,D,ht,q⟩ hs;subst ex ey;obtain rfl:v=Value.ref d:=rx;have hw:valueAt (kdK kvs) (Sum.inr n)=some (Value.ref t):=by rw[FG,ht];rfl
 obtain⟨⟨m,e⟩,_,_⟩:=id D;have he:=I.kIn _ _ e
 exact subscriptTail_builtinR (x:=.ref t) ⟨_,he,rfl⟩ slot_dict_getitem.lookup (wpAny_getItem_of (Ja (P:=X.prog) (w:=X.w) (k:=Sum.inr n) ry) (KS I.kIn D).mapOf hw ⟨rfl,.ref t,H,I.tok _,rfl,q⟩) hs⟩
def jn:List (List Nat)->List Nat
 | []=>[]
 | [a]=>a
 | a::b::r=>a++32::jn (b::r)
theorem Ij(h : 32∉a):(jn (a::r)).takeWhile (fun c=>c != 32)=a:=by
 have all:∀(l x:List Nat),32∉l->(l++32::x).takeWhile (fun c=>c != 32)=l:=by
  intro l x
  induction l with
  | nil=>intro _;rfl
  | cons c l ih =>
   intro h;rw[xC,not_or] at h;rw[xX,List.takeWhile_cons,if_pos (by simpa using fun z:c=32=>h.1 z.symm),ih h.2]
 have one:∀l:List Nat,32∉l->l.takeWhile (fun c=>c != 32)=l:=by
  intro l
  induction l with
  | nil=>intro _;rfl
  | cons c l ih =>
   intro h;rw[xC,not_or] at h;rw[List.takeWhile_cons,if_pos (by simpa using fun z:c=32=>h.1 z.symm),ih h.2]
 cases r with
 | nil=>exact one a h
 | cons b r=>exact all a _ h
theorem IR:∀{as bs:List (List Nat)},as ≠ []->bs ≠ []->(∀a∈as,32∉a)->(∀b∈bs,32∉b)->jn as=jn bs->as=bs
 | [],_,h,_,_,_,_=>absurd rfl h
 | _,[],_,h,_,_,_=>absurd rfl h
 | a::as,b::bs,_,_,h1,h2,e=>by
  have e1:a=b:=by
   have:=congrArg (fun l=>l.takeWhile fun c=>c != 32) e;simpa only [Ij (h1 a xQ),Ij (h2 b xQ)] using this
  subst e1;cases as with
  | nil=>cases bs with
   | nil=>rfl
   | cons b' bs =>
    have e':a=a++32::jn (b'::bs):=e;have:=congrArg List.length e';rw[xD,xF] at this;lia
  | cons a' as=>cases bs with
   | nil =>
    have e':a++32::jn (a'::as)=a:=e;have:=congrArg List.length e';rw[xD,xF] at this;lia
   | cons b' bs =>
    have e':a++32::jn (a'::as)=a++32::jn (b'::bs):=e;have e2:=List.append_cancel_left e';have e3:jn (a'::as)=jn (b'::bs):=by injection e2
    have:=IR (as:=a'::as) (bs:=b'::bs) (by simp) (by simp) (fun x hx=>h1 x (xG _ hx)) (fun x hx=>h2 x (xG _ hx)) e3;rw[this]
theorem MP:(" " : Str)=⟨#[32]⟩:=aA
theorem TK:∀ws:List Str,cs (Str.join " " ws)=jn (ws.map cs)
 | []=>aA
 | [w]=>rfl
 | w::v::r=>by
  show cs (w ++ " " ++ Str.join " " (v::r))=cs w++32::jn ((v::r).map cs);rw[Vk,Vk,TK (v::r),yH];have:cs (" " : Str)= [32]:=aA
  rw[this];rfl
theorem eI(hne:ws ≠ [])(hf:∀w∈ws,32∉cs w):Txt.split (Txt.join " " ws) " " = ws:=by
 have h1:=StrLaws.join_split (Txt.join " " ws) " ";have h2:=StrLaws.split_free (Txt.join " " ws) 32;rw[← MP] at h2;have h3 : 1<=(Txt.split (Txt.join " " ws) " ").length:=split_pos _ _;generalize Txt.split (Txt.join " " ws) " " = vs at h1 h2 h3;have h4:Txt.join " " ws=Str.join " " ws:=StrLaws.glued_eq_join " " ws;rw[h4] at h1;have h5:=congrArg cs h1;rw[TK,TK] at h5;have h6:=IR (by intro z;have:=List.map_eq_nil_iff.mp z;rw[this] at h3;simp at h3) (by intro z;exact hne (List.map_eq_nil_iff.mp z)) (fun a ha=>by obtain⟨w,hw,rfl⟩:=yS.mp ha;exact h2 w hw) (fun a ha=>by obtain⟨w,hw,rfl⟩:=yS.mp ha;exact hf w hw) h5;have inj:∀{as bs:eS},as.map cs=bs.map cs->as=bs:=by
  intro as
  induction as with
  | nil=>intro bs h;cases bs with
   | nil=>rfl
   | cons b bs=>cases h
  | cons a as ih=>intro bs h;cases bs with
   | nil=>cases h
   | cons b bs =>
    rw[xW,xW] at h;injection h with e1 e2
    rw[JA e1,ih e2]
 exact inj h6
abbrev lzA(h:Heap)(t1:eZ):Heap:=h.push {cls:=.type "list_iterator", data:=.fields #[.ref t1,.int 0 0] }
abbrev lzB(h:Heap)(t1 t2:eZ):Heap:=(lzA h t1).push {cls:=.type "tuple_iterator", data:=.fields #[.ref t2,.int 0 0] }
abbrev lzC(h:Heap)(t1 t2:eZ):Heap:=(lzB h t1 t2).push {cls:=.type "tuple", data:=.seq #[.ref h.objs.size,.ref (lzA h t1).objs.size] }
abbrev lzD(h:Heap)(t1 t2:eZ):Heap:=(lzC h t1 t2).push {cls:=.type "tuple", data:=.seq #[.none,.none] }
abbrev lzE(h:Heap)(t1 t2:eZ):Heap:=(lzD h t1 t2).push {cls:=.type "zip", data:=.fields #[.none,.bool false,.bool false,.ref (lzB h t1 t2).objs.size,.ref (lzC h t1 t2).objs.size] }
theorem MY(l1 l2:eZ)(xs ys:Array eY):Meets (Builtin.«zip.__new__» ⟨[.type "zip", .ref l1,.ref l2],[]⟩) (fun _ R s=>s.heap.IsList l1 xs/\s.heap.IsTuple l2 ys/\R (.ok (.ret (.ref (lzD s.heap l1 l2).objs.size))) {s with heap:=lzE s.heap l1 l2 }) :=
 .of_wp fun prog w A R s h=>by
  obtain⟨hp,g,d,tk,os⟩:=s;obtain⟨hl1,hl2,h⟩:=h;have hsub:=sub_zip;have hL1:Heap.IsList (Shared.heap ⟨hp,g,d,tk,os⟩) l1 xs:=hl1;have hL2:Heap.IsTuple (Shared.heap ⟨lzA hp l1,g,d,tk,os⟩) l2 ys:=let ⟨o,e,r⟩:=hl2;⟨o,xB _ e,r⟩
  wp_walk using wpAny_pyIter_list hL1,wpAny_pyIter_tuple hL2
  exact⟨_,rfl,h⟩
section
variable{P:fA}{w:fB}{A:fD}{E:eQ}{s:eX}
theorem PL{l1 l2:eZ}{xs ys:Array eY}{Q:eQ}(hl1:s.heap.IsList l1 xs)(hl2:s.heap.IsTuple l2 ys)(h:∀h',IsZip h' (s.heap.objs.size+4) (s.heap.objs.size+2) (s.heap.objs.size+3) .none->IsPair h' (s.heap.objs.size+2) (.ref s.heap.objs.size) (.ref (s.heap.objs.size+1))-> IsPair h' (s.heap.objs.size+3) .none .none->h'.IsListIter s.heap.objs.size l1 0->h'.IsTupleIter (s.heap.objs.size+1) l2 0 -> (∀c o,s.heap.get? c=some o->h'.get? c=some o)->Q (.ref (s.heap.objs.size+4)) {s with heap:=h' }):wpAny (model P w) A (call (.type "zip") [.ref l1,.ref l2]) Q E s:=by
 refine callType_new F.called_zip aA (F.typeCall_zip_2 _ _) (F.newCall_zip_2 _ _) (fun obj=>F.args_object_init_3 obj _ _) F.entry_zip_new (MY l1 l2 xs ys) ⟨hl1,hl2,?_⟩;have n1:(lzA s.heap l1).objs.size=s.heap.objs.size+1:=yN ..;have n2:(lzB s.heap l1 l2).objs.size=s.heap.objs.size+2:=by rw[yN,n1]
 have n3:(lzC s.heap l1 l2).objs.size=s.heap.objs.size+3:=by rw[yN,n2]
 have n4:(lzD s.heap l1 l2).objs.size=s.heap.objs.size+4:=by rw[yN,n3]
 have q5:(lzE s.heap l1 l2).get? (lzD s.heap l1 l2).objs.size=some _:=xL _ rfl;have q4:(lzE s.heap l1 l2).get? (lzC s.heap l1 l2).objs.size=some _:=xB _ (xL _ rfl);have q3:(lzE s.heap l1 l2).get? (lzB s.heap l1 l2).objs.size=some _:=xB _ (xB _ (xL _ rfl));have q2:(lzE s.heap l1 l2).get? (lzA s.heap l1).objs.size=some _:=xB _ (xB _ (xB _ (xL _ rfl)));have q1:(lzE s.heap l1 l2).get? s.heap.objs.size=some _:=xB _ (xB _ (xB _ (xB _ (xL _ rfl))));show _/\_;rw[n2,n3,n4] at q5;rw[n1,n2] at q3;rw[n3] at q4;rw[n1] at q2;rw[n4];exact⟨⟨_,q5,rfl⟩,h _ q5 q3 q4 ⟨_,q1,rfl,rfl⟩ ⟨_,q2,rfl,rfl⟩ fun c o x=>xB _ (xB _ (xB _ (xB _ (xB _ x))))⟩
end
def Cb(l1:eZ):uFg->Hp->eZ->List V->Prop:=fun K H a xs=>(a=l1/\ZF K H a xs)\/(a≠l1/\ZT K H a xs)
def B1(l1:eZ):eZ->Heap->List eY->Prop:=fun a h its=>if a=l1 then h.IsList a its.toArray else h.IsTuple a its.toArray
theorem cC(l1:eZ):AY (Cb l1) (B1 l1):=by
 refine⟨fun {X pins σ H s l xs} I h=>?_,fun {X pins σ H s l xs ys} I h h'=>?_⟩
 ·rcases h with⟨rfl,h⟩ | ⟨n,h⟩
  ·obtain⟨its,r,p,_⟩:=I.list h;exact⟨its,r,by unfold B1;rw[if_pos rfl];exact p.isList⟩
  ·obtain⟨its,r,p,_⟩:=I.tuple h;exact⟨its,r,by unfold B1;rw[if_neg n];exact p⟩
 ·rcases h with⟨e,h⟩ | ⟨n,h⟩
  ·rcases h' with⟨_,h'⟩ | ⟨n,_⟩
   ·exact I.list_inj h h'
   ·exact absurd e n
  ·rcases h' with⟨e,_⟩ | ⟨_,h'⟩
   ·exact absurd e n
   ·exact I.tuple_inj h h'
inductive Aq(K:uFg)(R:It->Hp->Prop)(vs:aG)(H1:Hp):Prop
 |mk(l1 l2 xs ys)(_:vs = [.ref l1,.ref l2])(_:ZF K H1 l1 xs)(_:ZT K H1 l2 ys)(_:(l2≠l1->R (TB (Cb l1) K l1 l2) H1))
def NO(K:uFg)(ta:TA):TI:=fun σ H R=>ta σ H fun vs H1=>Aq K R vs H1
theorem Sj{X:Cx}{a b:Expr}{ta:TA}{p pos:Pos}{elts:List Expr}{ek:Nat}{epos:Pos}(hm:X.mg "zip" = none)(ha:QA X [a,b] ta)(hg:nB X "zip" .globalImplicit:=by kernel_rfl)(hs:starEach [a,b] X.env = [(false,eval a X.env),(false,eval b X.env)]:=by rfl)(hs2:starEach [b] X.env = [(false,eval b X.env)]:=by rfl) :
  QI X (.Tuple elts ek epos) (.Call (.Name "zip" p) [a,b] [] pos) (NO X.K ta):=⟨by
 have hg:=(od hg).1;have ha:=ha.h;intro pins s σ H R I h;refine Call_ (Ui I hg hm boot_zip (PyProof.Rows.callWith_type1 (thn (ha pos pins s σ H _ I h) fun us s1 ⟨vs,H1,I1,r1,q1⟩=>?_) (by rw[hs,hs2]) (by rw[hs2];rfl)));obtain⟨l1,l2,xs,ys,e,h1,h2,q⟩:=q1;subst e;obtain⟨u1,u2,rfl,ru1,ru2⟩:=BW r1;cases ru1;cases ru2;obtain⟨its1,r1,p1,_⟩:=I1.list h1;obtain⟨its2,r2,p2,_⟩:=I1.tuple h2;have b1:l1 < s1.heap.objs.size:=by obtain⟨o,n,e,_⟩:=p1;exact xP e
 have b2:l2 < s1.heap.objs.size:=by obtain⟨o,e,_⟩:=p2;exact xP e
 have n21:l2≠l1:=fun z=>by
  subst z;obtain⟨o,e,c,_⟩:=p1.isList;obtain⟨o',e',c',_⟩:=p2;rw[e] at e';cases e';rw[c] at c';exact absurd c' aA
 have q:=q n21;have e1:B1 l1 l1=fun h its=>h.IsList l1 its.toArray:=funext fun h=>funext fun its=>if_pos rfl;have e2:B1 l1 l2=fun h its=>h.IsTuple l2 its.toArray:=funext fun h=>funext fun its=>if_neg n21;refine PL p1.isList p2 fun h' z0 t1 t0 st1 st2 kp=>?_;refine wpAny_pyIter_zip z0 ?_;refine⟨s1.heap.objs.size+4,_,_,_,H1,rfl,I1.kept (h':=h') (t':=s1.toks) kp,E5 (cC l1) (GK b1 b2) (by rw[e1];exact Dh _ _) (by rw[e2];exact FB _ _),⟨z0,t1,⟨_,_,t0⟩,st1,st2⟩,fun c hc=>?_,q⟩;have hle:s1.heap.objs.size<=c:=by
  simp only[xC,xT,or_false] at hc;have:(s1.heap.objs.size:Nat)<=(c:Nat):=by rcases hc with rfl | rfl | rfl | rfl | rfl<;>lia
  exact this
 exact I1.fpOk hle (I1.hok.fresh hle)⟩
section
variable{X:Cx}{pins:List (eZ×Obj)}{σ:St}{H:Hp}{s:eX}
theorem ZD.freeze{d:eZ}{o:Obj}{kvs:List (ZQ×V)}(I:ZD X pins σ H s)(e:H d=some (.dK kvs))(ho:s.heap.get? d=some o):ZD X pins σ (upd H d (.frz o (.dK kvs))) s:=by
 have h:=I.write (h':=s.heap) (t':=s.toks) (x:=d) (e:=d) (o:=.frz o (.dK kvs)) (by rw[e];exact True.intro) (.inl rfl) (fun _ _ _ q=>q) ⟨o,ho⟩ ⟨ho,?_⟩
 ·exact h
 ·obtain⟨z,y,vs,r,q⟩:=(show ZM X.prog X.w H s.heap d (.dK kvs) from I.hok d _ e);exact⟨z,y,vs,r,q⟩
theorem ZD.nofrz{d:eZ}{kvs:List (ZQ×V)}(I:ZD X pins σ H s)(e:H d=some (.dK kvs)):∀o u,X.H₀ d≠some (.frz o u):=fun o u z=>by
 have:=I.base.frzs d o u z;rw[e] at this;cases this
theorem ZD.thaw{d:eZ}{o:Obj}{kvs:List (ZQ×V)}(I:ZD X pins σ H s)(e:H d=some (.frz o (.dK kvs)))(nf:∀o u,X.H₀ d≠some (.frz o u)):ZD X pins σ (upd H d (.dK kvs)) s:=by
 have hne:∀b u,H b=some u->(∀x,u ≠ .frz o x)->b≠d:=fun b u q n z=>by rw[z,e] at q;exact n _ (Option.some.inj q).symm
 have hnn:∀b,H b=none->b≠d:=fun b q z=>by rw[z,e] at q;cases q
 refine⟨I.ok,I.os,I.bare,⟨I.base.keep,I.base.slot,fun b ob q n hx=>?_,I.base.there,fun b xs q=>?_,fun b ob u q=>?_,fun b ps q=>?_⟩,I.loc,I.cell,?_,fun x c q=>?_,fun p hp=>?_,fun b u q=>?_,I.len⟩
 ·have:=I.base.free b ob q n hx;rw[Zc (hnn b this)];exact this
 ·have:=I.base.tups b xs q;rw[Zc (hne b _ this fun _ z=>nomatch z)];exact this
 ·have:=I.base.frzs b ob u q;rw[Zc (fun z=>nf ob u (by rw[← z];exact q))];exact this
 ·obtain⟨m,hm⟩:=I.base.tbls b ps q;exact⟨m,by rw[Zc (hne b _ hm fun _ z=>nomatch z)];exact hm⟩
 ·rw[Zc (hnn _ I.free)];exact I.free
 ·rw[Zc (hnn _ (I.freeC x c q))];exact I.freeC x c q
 ·obtain⟨p1,p2,p3,p4,p5⟩:=I.pin p hp;exact⟨p1,by rw[Zc (hnn _ p2)];exact p2,p3,p4,p5⟩
 ·by_cases hb:b=d
  ·subst hb;rw[Zg] at q;cases q;obtain⟨_,z,y,vs,r,c⟩:=(show ZM X.prog X.w H s.heap b (.frz o (.dK kvs)) from I.hok b _ e);exact⟨z,y,vs,r,c⟩
  ·rw[Zc hb] at q;refine(I.hok b u q).stay (fun _ _ _ z=>z) (fun c z=>?_) fun c xs z=>?_
   ·rw[Zc (hne c _ z fun _ y=>nomatch y)];exact z
   ·rw[Zc (hne c _ z fun _ y=>nomatch y)];exact z
end
section
variable{te:TE}
inductive Cp(te:TE)(σ:St)(H:Hp)(Q:VK):Prop
 |mk(d kvs)(_:H d=some (.dK kvs))(_:∀o,te σ (upd H d (.frz o (.dK kvs))) fun v H'=>H' d=some (.frz o (.dK kvs))/\Q v (upd H' d (.dK kvs)))
theorem LG(h:QE X e te):QE X e (Cp te):=⟨by
 intro pins s σ H Q I q;obtain⟨d,kvs,ed,q⟩:=q;obtain⟨z,y,vs,r,o,es,ep,ho,c⟩:=(show ZM X.prog X.w H s.heap d (.dK kvs) from I.hok d _ ed);have nf:=I.nofrz ed
 exact thn (h.h pins s σ _ _ (I.freeze ed ho) (q o)) fun u s1 ⟨x,H1,I1,r1,e1,q1⟩=>⟨x,_,I1.thaw e1 nf,r1,q1⟩⟩
end
def FR(d:eZ)(o:Obj)(kvs:List (ZQ×V)):It :=
 ⟨fun i H=>H d=some (.frz o (.dK kvs))/\i < kvs.length,fun i H v H'=>H'=H/\∃p,kvs[i]? = some p/\v=kV p.1,fun i H=>H d=some (.frz o (.dK kvs))/\kvs.length<=i⟩
theorem RO(h:(Y1 P w).is k v=true):ZG (kV k) v:=by
 cases k with
 | inl i =>
  cases v<;>first
   | exact absurd (show false=true from h) xR
   | skip
  rename_i j t;have e:j=i:=by
   have h:(j == i)=true:=h;exact eq_of_beq h
  exact⟨t,by rw[e]⟩
 | inr x =>
  cases v<;>first
   | exact absurd (show false=true from h) xR
   | skip
  rename_i j t;have e:j=x:=by
   have h:(j == x)=true:=h;exact eq_of_beq h
  exact⟨t,by rw[e]⟩
theorem KV.get{κ:Type}:∀{kvs:List (κ×V)}{vs:List (κ×eY)}{i:Nat}{p : κ×V}{q : κ×eY},KV kvs vs->kvs[i]? = some p->vs[i]? = some q->p.1=q.1/\ZG p.2 q.2:=by
 intro kvs vs i p q r;unfold KV at r
 induction r generalizing i with
 | nil=>intro h;simp at h
 | cons h t ih =>
  intro e1 e2;cases i with
  | zero =>
   have e1:some _=some p:=e1;have e2:some _=some q:=e2;cases e1;cases e2;exact h
  | succ i=>exact ih (i:=i) e1 e2
theorem RE{P:fA}{w:fB}{K:uFg}{tg:Expr}(it d:eZ)(o:Obj)(kvs:List (ZQ×V))(vs:List (ZQ×eY))(ep:Nat)(hne:d≠it)(rel:KV kvs vs)(hD:∀h:Heap,h.get? d=some o->h.DictAt (Y1 P w) d vs ep) :
  WI P w K tg (FR d o kvs) [it] it (fun i h=>h.IsKeyIter it d i vs.length ep) where
 mem:=by simp
 obj:=fun i h st b hb=>by
  have e:b=it:=by simpa using hb
  subst e;obtain⟨ob,ho,hc,hd⟩:=st;exact⟨ob,ho,fun v q=>by rw[hd] at q;cases q⟩
 keep:=fun i h h' st k=>st.at fun ob q=>k it (by simp) ob q
 item:=by
  intro X hP hw hK hc i pins s σ H E I hf st hg;subst hP hw hK;obtain⟨f0,f1,f2,f3,f4,f5⟩:=hf it (by simp);obtain⟨ed,hi⟩:=hg;obtain⟨hod,_⟩:=(show ZM X.prog X.w H s.heap d (.frz o (.dK kvs)) from I.hok d _ ed);have W:=Walks.dictKeys (prog:=X.prog) (w:=X.w) (A:=X.A) (knd:=Y1 X.prog X.w) (I.ok.hd hc) it d hne vs ep;refine W.item i s _ _ (by rw[← rel.length];exact hi) ⟨st,hD _ hod⟩ fun v h' tk hv st' kk=>?_;obtain⟨k,x,hx,hk⟩:=hv;have I1:ZD X pins σ H {s with heap:=h',toks:=tk }:=I.turned (fun b ob hb e=>kk b ob (by simpa using hb) e) f0 f1 f3 f4 f5;obtain⟨ob,ho,hcl,hdt⟩:=id st'.1;obtain⟨p,hp⟩:∃p,kvs[i]? = some p:=⟨_,xE hi⟩;have hpk:p.1=k:=(KV.get rel hp hx).1;refine⟨_,rfl,AE (s:={s with heap:=h',toks:=tk }) (n:="dict_keyiterator") ho hcl hdt aA ⟨kV p.1,H,I1,by rw[hpk];exact RO hk,⟨rfl,p,hp,rfl⟩,st'.1,fun b hb=>(hf b hb).1⟩⟩
 done:=by
  intro X hP hw hK hc i pins s σ H E I hf st hg;subst hP hw hK;obtain⟨f0,f1,f2,f3,f4,f5⟩:=hf it (by simp);obtain⟨ed,hi⟩:=hg;obtain⟨hod,_⟩:=(show ZM X.prog X.w H s.heap d (.frz o (.dK kvs)) from I.hok d _ ed);exact wpAny_pyNext_dict_end (I.ok.hd hc) st (hD _ hod) (zV (by rw[← rel.length];exact hi)) fun h' eb=>⟨rfl,I.turned (t':=s.toks) (fun b ob hb e=>eb b ob hb e) f0 f1 f3 f4 f5⟩
 self:=fun _ _ _ _ _ st h=>wpAny_pyIter_keyiter st h
section
variable{te:TE}
inductive Ah(R:It->Hp->Prop)(x:V)(H1:Hp):Prop
 |mk(d o kvs)(_:x = .ref d)(_:H1 d=some (.frz o (.dK kvs)))(_:R (FR d o kvs) H1)
def PB(te:TE):TI:=fun σ H R=>te σ H fun x H1=>Ah R x H1
theorem bQ(hl:QE X l te):QI X tg l (PB te):=⟨by
 intro pins s σ H R I h;refine thn (hl.h pins s σ H _ I h) fun u s1 ⟨x,H1,I1,r1,d,o,kvs,ex,ed,q⟩=>?_;subst ex;obtain rfl:u=Value.ref d:=r1;obtain⟨hod,z,hsys,vs,rel,o',es,ep,ho',c⟩:=(show ZM X.prog X.w H1 s1.heap d (.frz o (.dK kvs)) from I1.hok d _ ed);rw[hod] at ho';cases ho';have hD:∀h:Heap,h.get? d=some o->h.DictAt (Y1 X.prog X.w) d vs ep:=fun h e=>⟨o,es,e,c⟩;refine wpAny_pyIter_dict hsys (hD _ hod) ?_;have lt:d < s1.heap.objs.size:=xP hod;refine⟨s1.heap.objs.size,[s1.heap.objs.size],_,_,H1,rfl,I1.kept (t':=s1.toks) fun b ob e=>xB _ e,RE s1.heap.objs.size d o kvs vs ep (yJ lt) rel hD,⟨_,xL _ rfl,rfl,rfl⟩,fun b hb=>?_,q⟩;have e:b=s1.heap.objs.size:=by simpa using hb
 subst e
 exact I1.fpOk (xH _) (I1.hok.fresh (xH _))⟩
end
theorem LP(Pv:Nat->List V->Hp->Prop)(h0:Pv 0 [] H)(hn:kvs.length<=1000000)(hl:∀i ys H,i<=kvs.length->Pv i ys H->H d=some (.frz o (.dK kvs)))(hlen:∀i ys H,Pv i ys H->ys.length<=i)(step:∀i p ys H,kvs[i]? = some p->Pv i ys H->Vh nl fv g tt te (kV p.1) H (fun y H'=>Pv (i+1) (ys ++ [y]) H') fun H'=>Pv (i+1) ys H')(hd:∀ys H,Pv kvs.length ys H->∀l,H l=none->Q (.ref l) (upd H l (.lst ys))) :
  Vt (FR d o kvs) nl fv g tt te Q H:=by
 have hml:(kvs.map fun p=>kV p.1).length=kvs.length:=xA ..;refine Bt (xs:=kvs.map fun p=>kV p.1) Pv h0 (by rw[hml];exact hn) ?_ ?_ ?_ hlen ?_ ?_
 ·intro i H ys hi p;rw[hml] at hi;exact⟨hl i ys H (yX hi) p,hi⟩
 ·rintro i H x H' ys hi p ⟨rfl,q,hq,rfl⟩;exact⟨rfl,by rw[xK,hq];rfl⟩
 ·intro H ys p;rw[hml] at p ⊢;exact⟨hl _ ys H (xH _) p,xH _⟩
 ·grind
 ·intro ys H p;rw[hml] at p;exact hd ys H p
inductive Bq(K:uFg)(xs:aG)(H:Hp)(Q:VK):Prop
 |mk(a) (ns)(_:xs = [.ref a])(_:ZF K H a (ns.map V.int))(_:ns ≠ [])(_:∀m,m∈ns->(∀x∈ns,x<=m)->Q (.int m) H)
theorem SF:∀{us:eU},ZH (ns.map V.int) us->∃xs:List (Int×Tok),xs.map (·.1)=ns/\us=xs.map fun p=>Value.int p.1 p.2:=by
 induction ns with
 | nil=>intro us r;cases r;exact⟨[],rfl,rfl⟩
 | cons n ns ih =>
  intro us r;cases r with
  | cons r1 r2 =>
   obtain⟨t,rfl⟩:=r1;obtain⟨xs,e1,e2⟩:=ih r2;exact⟨(n,t)::xs,by rw[xW,e1],by rw[xW,e2]⟩
theorem Se(hc:X.calm=true):QC X (.builtin "max") (Bq X.K):=⟨by
 intro pins s σ H xs us Q I r h;obtain⟨a,ns,rfl,ha,hne,q⟩:=h;obtain⟨u,rfl,ru⟩:=Vg r;cases ru;obtain⟨its,rv,p,_⟩:=I.list ha;obtain⟨ps,e1,e2⟩:=SF rv;subst e2;have hl:s.heap.IsList a (intItems ps.toArray):=by
  have:=p.isList;have e:intItems ps.toArray=(ps.map fun p=>Value.int p.1 p.2).toArray:=by unfold intItems;simp
  rw[e];exact this
 have hps : 0 < ps.toArray.size:=by grind
 refine max_intList (I.ok.hd hc) hl hps fun v h' tk hv k=>?_;obtain⟨b1,b2⟩:=argBest_gt (numAt ps.toArray) (ps.toArray.size - 1);generalize argBest (fun i j=>decide (numAt ps.toArray i > numAt ps.toArray j)) (ps.toArray.size - 1)=j at hv b1 b2;obtain⟨t,rfl⟩:=intItems_at hv;have num:∀i:Nat,i < ps.length->ns[i]? = some (numAt ps.toArray i):=fun i hi=>by
  rw[← e1,xK];unfold numAt;rw[List.getElem?_toArray,xE hi];rfl
 have hsz:ps.toArray.size=ps.length:=xV ..;have hnl:ns.length=ps.length:=by rw[← e1,xA]
 refine⟨.int (numAt ps.toArray j),H,I.kept k,⟨t,rfl⟩,q _ (xN (num j (by lia))) fun x hx=>?_⟩;obtain⟨i,hi⟩:=List.getElem?_of_mem hx;have hil:i < ps.length:=by have:=(xY.mp hi).1;lia
 rw[num i hil] at hi;cases hi
 exact b2 i (by lia)⟩
section
variable{o:Expr}{te:TE}
end
theorem KJ(n:Nat)(f:Nat->Option (List V))(Pv:Nat->List V->Hp->Prop)(h0:Pv 0 [] H)(hn:n<=1000000)(hgo:∀i H ys,i < n->Pv i ys H->J.go i H)(hy:∀i H x H' ys,i < n->Pv i ys H->J.yld i H x H'->∃p us,f i=some us/\x = .ref p/\H p=none/\H'=upd H p (.tup us))(hst:∀H ys,Pv n ys H->J.stop n H)(hlen:∀i ys H,Pv i ys H->ys.length<=i)(step:∀i us p ys H,i < n->f i=some us->Pv i ys H->H p=none->Vh nl fv g tt te (.ref p) (upd H p (.tup us)) (fun y H'=>Pv (i+1) (ys ++ [y]) H') fun H'=>Pv (i+1) ys H')(hd:∀ys H,Pv n ys H->∀l,H l=none->Q (.ref l) (upd H l (.lst ys))) :
  Vt J nl fv g tt te Q H:=by
 have mono:∀{x:V}{H:Hp}{Y Y':V->Hp->Prop}{N N':Hp->Prop},Vh nl fv g tt te x H Y N->Y=Y'->N=N'->Vh nl fv g tt te x H Y' N':=fun h e1 e2=>by subst e1;subst e2;exact h
 refine⟨fun i m ys H=>m=n - i/\i<=n/\Pv i ys H,⟨n,by simp,yO _,h0⟩,?_⟩;rintro i m ys H ⟨rfl,hi,p⟩;have hl:=hlen i ys H p;have hz:(1000000:Nat) < sizeLine:=by decide
 by_cases hlt:i < n
 ·refine .inr ⟨hgo i H ys hlt p,by lia,n - (i+1),by lia,fun x H' y=>?_⟩;obtain⟨q,us,hf,rfl,hq,rfl⟩:=hy i H x H' ys hlt p y;refine mono (step i us q ys H hlt hf p hq) ?_ ?_
  ·funext y H4;apply propext;exact⟨fun q=>⟨rfl,hlt,q⟩,fun q=>q.2.2⟩
  ·funext H3;apply propext;exact⟨fun q=>⟨rfl,hlt,q⟩,fun q=>q.2.2⟩
 ·grind
theorem Py{K:uFg}{a:eZ}{xs:aG}{nl:Nat}{fv:St}{g:TG}{tt:VR}{te:TE}{Q:VK}{H:Hp}(Pv:Nat->List V->Hp->Prop)(h0:Pv 0 [] H)(hn:xs.length<=1000000)(hl:∀i ys H,i<=xs.length->Pv i ys H->ZT K H a xs)(hlen:∀i ys H,Pv i ys H->ys.length<=i)(step:∀i x ys H,xs[i]? = some x->Pv i ys H->Vh nl fv g tt te x H (fun y H'=>Pv (i+1) (ys ++ [y]) H') fun H'=>Pv (i+1) ys H')(hd:∀ys H,Pv xs.length ys H->∀l,H l=none->Q (.ref l) (upd H l (.lst ys))) :
  Vt (An K a) nl fv g tt te Q H:=by
 refine Bt (xs:=xs) Pv h0 hn ?_ ?_ ?_ hlen step hd
 ·intro i H ys hi p;exact⟨xs,xs[i],hl i ys H (yX hi) p,by simp[hi]⟩
 ·rintro i H x H' ys hi p ⟨rfl,y⟩;exact⟨rfl,y xs (hl i ys _ (yX hi) p)⟩
 ·intro H ys p;exact⟨xs,hl _ ys H (xH _) p,xH _⟩
theorem XD{K:uFg}{l1 l2:eZ}{nl:Nat}{fv:St}{g:TG}{tt:VR}{te:TE}{Q:VK}{H:Hp}(xs zs:aG)(hxz:xs.length=zs.length)(n21:l2≠l1)(Pv:Nat->List V->Hp->Prop)(h0:Pv 0 [] H)(hn:xs.length<=1000000)(hl:∀i ys H,i<=xs.length->Pv i ys H->ZF K H l1 xs/\ZT K H l2 zs)(hlen:∀i ys H,Pv i ys H->ys.length<=i)(step:∀i x z p ys H,xs[i]? = some x->zs[i]? = some z->Pv i ys H->H p=none->Vh nl fv g tt te (.ref p) (upd H p (.tup [x,z])) (fun y H'=>Pv (i+1) (ys ++ [y]) H') fun H'=>Pv (i+1) ys H')(hd:∀ys H,Pv xs.length ys H->∀l,H l=none->Q (.ref l) (upd H l (.lst ys))) :
  Vt (TB (Cb l1) K l1 l2) nl fv g tt te Q H:=by
 have m:∀{i ys H},i<=xs.length->Pv i ys H->Cb l1 K H l1 xs/\Cb l1 K H l2 zs:=fun hi p=>let ⟨a,b⟩:=hl _ _ _ hi p;⟨.inl ⟨rfl,a⟩,.inr ⟨n21,b⟩⟩
 refine KJ xs.length (fun i=>(xs[i]?).bind fun x=>(zs[i]?).map fun z=>[x,z]) Pv h0 hn (fun i H ys hi p=>⟨xs,zs,(m (yX hi) p).1,(m (yX hi) p).2,hi,by lia⟩) ?_ (fun H ys p=>⟨xs,zs,(m (xH _) p).1,(m (xH _) p).2,.inl (xH _)⟩) hlen ?_ hd
 ·rintro i H x H' ys hi p ⟨q,a,b,rfl,hq,rfl,ha⟩;obtain⟨e1,e2⟩:=ha xs zs (m (yX hi) p).1 (m (yX hi) p).2;exact⟨q,[a,b],by rw[e1,e2];rfl,rfl,hq,rfl⟩
 ·grind
section
variable{X:Cx}
inductive Ao(K:uFg)(xs:aG)(H:Hp)(Q:VK):Prop
 |mk(p ys)(_:xs = [.ref p])(_:((ZF K H p ys/\∀l,H l=none->Q (.ref l) (upd H l (.tup ys)))\/(ZT K H p ys/\Q (.ref p) H)))
theorem B3:QC X (.type "tuple") (Ao X.K):=.imp ⟨R1⟩ fun _ _ _ ⟨p,y,a,b⟩=>⟨p,y,a,b⟩
structure CV (X:Cx) (pos:Pos) (keys:List (Option Expr)) (values:List Expr) (trs:List (TE×TE)):Prop where
 h:BP X pos keys values trs
theorem Ex:CV X pos [] [] []:=⟨HU⟩
theorem Wv(hk:QE X k tk)(hv:QE X v tv)(hr:CV X pos ks vs trs):CV X pos (some k::ks) (v::vs) ((tk,tv)::trs):=⟨HH hk.h hv.h hr.h⟩
theorem FU(h:CV X pos keys values trs)(hall:keys.all (·.isSome)=true:=by rfl)(hl:keys.length=values.length:=by rfl)(h0:keys ≠ []:=by simp)(h15:keys.length<=15:=by decide):QE X (.Dict keys values pos) (ER trs):=⟨HS h.h hall hl h0 h15⟩
end
def OX(n:Nat)(fr:List (Str×Nat))(wi:TI)(g:TG)(tt:VR)(t:TA)(sp:Sp)(E:St->XK):TE:=fun σ H Q=>wi σ H fun J H1=>Vt J n (inF fr σ) g tt (fun σ' H' Y=>t σ' H' fun vs H2=>sp vs H2 Y (E σ)) Q H1
structure EU (X:Cx) (scope:Scope) (N':eS) (tg:Expr) (ifs:List Expr) (x:Str) (e:Expr) (es:List Expr) (pos:Pos) (g:TG) (tt:VR) (t:TA):Prop where
 h:∀(cl:List (Str×eZ))(C:eZ)(s0:eX)(H0:Hp)(ex:eW)(pn:List (eZ×Obj)),QG (ccx X scope cl C N' s0 H0 ex pn) tg g/\CN (ccx X scope cl C N' s0 H0 ex pn) ifs tt/\QA (ccx X scope cl C N' s0 H0 ex pn) (e::es) t/\Nm (ccx X scope cl C N' s0 H0 ex pn).env.scope x .globalImplicit /\
  starEach (e::es) (ccx X scope cl C N' s0 H0 ex pn).env=(false,eval e (ccx X scope cl C N' s0 H0 ex pn).env)::starEach es (ccx X scope cl C N' s0 H0 ex pn).env/\(backTo pos (starEach es (ccx X scope cl C N' s0 H0 ex pn).env)).any (·.1)=false
section
variable{X:Cx}{tg iter e:Expr}{es ifs:List Expr}{scope:Scope}{pos cpos np:Pos}{locs:eS}{fr:List (Str×Nat)}{g:TG}{tt:VR}{t:TA}{x:Str}
theorem Mi{Q:eQ}{E:eQ}{σ:St}{H:Hp}{s:eX}{a C:eZ}{wt:String}{env:Env}(I:ZD X [] σ H s)(hpn:X.pn = [])(hx:J6 X.s₀.heap H s.heap a C)(k:∀h',ZD X [] σ H {s with heap:=h' }->J6 X.s₀.heap H h' a C->E (.ref a) {s with heap:=h' }):wpAny (model X.prog X.w) X.A (PySem.passOn wt (.ref a) env:Sem eY) Q E s:=by
 obtain⟨ha,h0a,oe,vs,a0,he,hc,hd,v0,T,oT,ts,v3,v1,tr⟩:=id hx;unfold PySem.passOn;refine wpAny_bind (wpAny_field he hd v1 ?_);rw[if_neg (show ¬((Value.ref T == Value.none)=true) from by simp)];refine wpAny_bind (Dt I hpn hx fun h' I' x'=>?_);exact wpAny_throw (k h' I' x')
theorem Gr{wi:TI}{E:St->XK}{k:Nat}{sp:Sp}(p:Pl X)(hx:Xp X E)(Fx:YZ X.prog X.w X.K X.mg X.base x k sp)(hr:ZJ k X.A)(S:YM X scope locs fr)(F:YL X scope fr)(hc:X.calm=true)(hi:QI X tg iter wi)(inner:EU X scope (inN locs fr) tg ifs x e es cpos g tt t)(hs:∀x,foldedSetIterable iter X.env x=pure x:=by intro _;rfl) :
  QE X (.ListComp (.Call (.Name x np) (e::es) [] cpos) [⟨tg,iter,ifs,0⟩] scope pos) (OX locs.length fr wi g tt t sp E):=⟨by
 intro pins s σ H Q I h;obtain⟨cl,hcl,cl1,cl2⟩:=S.clos F I;rw[eval_ListComp];refine wpAny_comprehension_free (use:=none) rfl hs hcl S.kind S.names (thn (hi.h pins s σ H _ I h) fun v s1 h1=>thn h1 fun itv s2 h2=>?_);obtain⟨it,fp,tn,J,H1,e0,I2,T,st2,f2,W,w0,turn⟩:=h2;subst e0;refine Fy (EE:=fun H' e s'=>∃a Cc,e = .ref a/\UA X.s₀.heap H' s'.heap a Cc/\E σ (.ref Cc) none H') (QQ:=fun ys H'=>∀l,H' l=none->Q (.ref l) (upd H' l (.lst ys))) hc S.kind S.nocell S.own F S.nd cl1 cl2
  (fun C s0 H0 ex pn=>⟨(inner.h cl C s0 H0 ex pn).1.h,(inner.h cl C s0 H0 ex pn).2.1.h⟩) (fun C pE s3 σ' H3 Y hfp I3 h3=>?_) (fun D C H' e' s' m I' fC hn q=>?_) I2 T st2 f2 w0 turn fun D C ys H' s' m nD hDC I' fC hn q=>?_
 ·obtain⟨f,hm,hk,G⟩:=Fx;obtain⟨_,_,qa,nn,he,hpl⟩:=inner.h cl C s2 H1 fp (X.pn++pins);refine wpAny_Call_Name_kw (Am I3 nn.1 hm ?_ nn.2.1);refine PySem.W.callWith_K (h₀:=X.base) I3.ok.mod.kin hk (wpAny_mono (qa.h cpos pE s3 σ' H3 _ I3 h3) (fun us s4 ⟨vs,H4,I4,r,q⟩=>⟨I4.kIn,?_⟩) fun _ _ z=>z.elim) he hpl;refine wpAny_call (codeAny_mono (G.run X.A X.stack s4 H4 us vs Y (E σ) hr I4.env0 r q) fun r s5 hq=>?_);cases r with
  | error ee =>
   obtain⟨a,Cc,H',rfl,os,bare,un,hok,xa,hE⟩:=hq;refine⟨pE,σ',H',I4.call' (ch:=[]) os un hok bare (fun b z=>absurd z (by simp)),a,Cc,rfl,xa.mono fun b e=>?_,hE⟩;cases q0:X.s₀.heap.get? b with
   | none=>rfl
   | some o =>
    obtain⟨o2,e2⟩:=I2.base.there b o q0 (by rw[p.ex];simp);have:∃o4,s4.heap.get? b=some o4:=by
     by_cases hb:b∈fp
     ·obtain⟨o4,h4⟩:=hfp b hb;exact⟨o4,(I4.pin (b,o4) (xJ _ h4)).1⟩
     ·exact I4.base.there b o2 e2 hb
    obtain⟨o4,e4⟩:=this;rw[e] at e4;cases e4
  | ok fl =>
   cases fl with
   | ret u=>exact I4.after hq
   | next=>exact False.elim hq
   | brk=>exact False.elim hq
   | cont=>exact False.elim hq
 ·obtain⟨a,Cc,rfl,xa,hE⟩:=q;obtain⟨f0,f1,f2,f3,f4,f5⟩:=fC;have J0:=I'.pins_of (pins':=[]) (fun p hp=>nomatch hp);show wpAny _ _ (noteFrame (.ref a) X.env) _ _ _;refine EL J0 p.pn p.ex p.stk p.fr xa fun h1 I1 x1 up=>?_;obtain⟨oC,esC,epC,hoC,hdC,rC⟩:=hn;obtain⟨slC,q1⟩:=up C oC hoC (fun vs z=>by rw[hdC] at z;cases z);refine⟨m,⟨_,esC,epC,q1,hdC,rC⟩,fun h2 hs2 cenv _=>?_⟩
  have I2:ZD X [] σ H' {s' with heap:=h2 }:=ZD.turned (s:={s' with heap:=h1 }) (it:=C) (h':=h2) (t':=s'.toks) I1 (fun b o hb e=>(hs2.2 b hb).trans e) f0 f1 f3 f4 (fun p' hp=>f5 p' (by
   rcases xI.mp hp with z | z
   ·exact yQ _ z
   ·cases z))
  have x2:J6 X.s₀.heap H' h2 a Cc:=by
   obtain⟨ha,h0a,oe,vs,a0,he,hc,hd,v0,T,oT,ts,v3,v1,hTe,hT,hdT,h3,hHT,h0T⟩:=x1;have na:a≠C:=fun z=>by rw[z] at he;have:=q1.symm.trans he;cases this;rw[hdC] at hd;cases hd
   have nT:T≠C:=fun z=>by rw[z] at hT;have:=q1.symm.trans hT;cases this;rw[hdC] at hdT;cases hdT
   exact⟨ha,h0a,oe,vs,a0,(hs2.2 a na).trans he,hc,hd,v0,T,oT,ts,v3,v1,hTe,(hs2.2 T nT).trans hT,hdT,h3,hHT,h0T⟩
  exact Mi I2 p.pn x2 fun h3 I3 x3=>hx.h [] σ H' _ a Cc I3 x3.at_ hE
 ·refine⟨m,hn,fun h' hs'=>?_⟩;obtain⟨f0,f1,f2,f3,f4,f5⟩:=fC
  exact⟨.ref D,_,I'.turned (it:=C) (t':=s'.toks) (fun b o hb e=>(hs'.2 b hb).trans e) f0 f1 f3 f4 f5,rfl,q D nD⟩⟩
end
theorem AM{P:fA}{w:fB}{K:uFg}{mg:eR}{base:Heap}{N:eS}{qual:Str}{scope:Scope}{f:eZ}{cd:eY}{A:fD}{outer:List Env}{s:eX}{H:Hp}{E:XK} :
  Pl (Yp (UZ P w) P w K mg base N qual scope f cd A outer s H E):=⟨rfl,rfl,rfl,rfl⟩
structure Em (X:Cx) (st:Stmt) (t:TS):Prop where
 h:∀(pins:List (eZ×Obj))(s:eX)(σ:St)(H:Hp)(D:ZW),1<=s.toks->ZD X pins σ H s->t D σ H->wpAny (model X.prog X.w) X.A (exec st X.env) (SP X pins D) X.xe s
structure Ji (X:Cx) (st:List Stmt) (t:TS):Prop where
 h:∀(pins:List (eZ×Obj))(s:eX)(σ:St)(H:Hp)(D:ZW),1<=s.toks->ZD X pins σ H s->t D σ H->wpAny (model X.prog X.w) X.A (execs st X.env) (SP X pins D) X.xe s
structure Lc (X:Cx) (st:Stmt) (t:TS):Prop where
 h:∀(pins:List (eZ×Obj))(s:eX)(σ:St)(H:Hp)(D:ZW),ZD X pins σ H s->t D σ H->wpAny (model X.prog X.w) X.A (exec st X.env) (fun f s'=>1<=s'.toks/\SP X pins D f s') X.xe s
def Ot(K:uFg)(y z:Str)(to:TE):TE:=fun σ H Q=>to σ H fun v H1=>tyV K "str" v H1/\∃x,v = .str x/\x.length<=100000/\Q (.str (Txt.replace x y z)) H1
section
variable{X:Cx}{st:Stmt}{rest:List Stmt}{t u:TS}{o:Expr}{to:TE}{x y z name:Str}{apos cpos p1 p2 pos pos':Pos}{j1 j2:Nat}{T id:String}{r:V->List V->Hp->VK->Prop}
theorem QS.tk(h:QS X st t):Em X st t:=⟨fun pins s σ H D _ I q=>h.h pins s σ H D I q⟩
theorem YS.tk(h:YS X rest t):Ji X rest t:=⟨fun pins s σ H D _ I q=>h.h pins s σ H D I q⟩
theorem Jn(h1:Em X st t)(h2:Ji X rest u):Ji X (st::rest) (Vq t u):=⟨by
 intro pins s σ H D ht I h;refine wpAny_execs_cons (wpAny_mono (wpAny_toks_of ht (h1.h pins s σ H {D with nx:=u D } ht I h)) (fun f s1 ⟨ht1,q⟩=>?_) fun _ _ z=>z.2);cases f with
 | next =>
  obtain⟨σ',H',I',q⟩:=q;exact h2.h pins s1 σ' H' D ht1 I' q
 | ret v=>exact q
 | brk=>exact q
 | cont=>exact q⟩
theorem NN(h1:Lc X st t)(h2:Ji X rest u):YS X (st::rest) (Vq t u):=⟨by
 intro pins s σ H D I h;refine wpAny_execs_cons (thn (h1.h pins s σ H {D with nx:=u D } I h) fun f s1 ⟨ht1,q⟩=>?_);cases f with
 | next =>
  obtain⟨σ',H',I',q⟩:=q;exact h2.h pins s1 σ' H' D ht1 I' q
 | ret v=>exact q
 | brk=>exact q
 | cont=>exact q⟩
theorem Sy{i:Nat}(hN:X.N.Nodup)(n:Nm X.env.scope x .local)(pa:PlainAttrs T)(slot:Slot T name id)(hty:typeOf (.builtin id)=pure (.type "method_descriptor"))(hm:QM X id r)(ho:QE X o to)(hi:X.N[i]? = some x:=by rfl)(hsw:swapsWith (.Call (.Attribute o name apos) [.Constant (.str y) j1 p1] [] cpos) (some (.Name x pos')) pos.line X.env=pure false:=by rfl)(hbase:attributeBase o name X.env (eval o X.env)=eval o X.env:=by rfl)(hfew:((backTo cpos (starEach [.Constant (.str y) j1 p1] X.env)).all (fun x=>!x.1) && (backToKw cpos (keywordEach [] X.env)).all (fun x=>x.1.isSome)
   && decide ([Expr.Constant (.str y) j1 p1].length+([]:List Keyword).length+(if ([]:List Keyword).isEmpty then 0 else 1) < 30))=true:=by rfl)(hline:(apos.endLine == cpos.line)=true:=by rfl)(hs:starEach [.Constant (.str y) j1 p1] X.env = [(false,eval (.Constant (.str y) j1 p1) X.env)]:=by rfl) :
  Lc X (.Assign [.Name x pos'] (.Call (.Attribute o name apos) [.Constant (.str y) j1 p1] [] cpos) pos) (Us (DD X.K T r to (Vs (tC (.str y)) Ud)) (Y2 i)):=⟨by
 intro pins s σ H D I h;have P1:wpAny (model X.prog X.w) X.A (eval (.Call (.Attribute o name apos) [.Constant (.str y) j1 p1] [] cpos) X.env) (fun u s'=>1<=s'.toks/\EP X pins σ (fun v H'=>Y2 i v σ H' D.nx) u s') X.xe s:=by
  refine wpAny_Call_method_late hbase hfew hline rfl (thn (ho.h pins s σ H _ I h) fun v s1 ⟨x',H1,I1,r1,ty,q1⟩=>?_);obtain⟨h1,h2⟩:=FN I1 r1 ty;refine⟨T,id,pa,slot,hty,h1,h2,?_⟩;rw[hs];refine Calls.callWith_builtin rfl (Calls.evalArgs_plain ?_);refine Calls.spliced_cons (Calls.Constant_str (k:=j1) (pos:=p1) (Calls.spliced_nil ?_));exact wpAny_mono (wpAny_toks_of (n:=1) (Nat.le_add_left 1 s1.toks) (hm.h pins {s1 with toks:=s1.toks+1 } σ H1 x' [.str y] v [.str y s1.toks] _ (I1.tok _) r1 (.cons ⟨_,rfl⟩ .nil) q1)) (fun _ _ z=>z) fun _ _ z=>z.2
 refine wpAny_Assign_Name (thn P1 fun v s1 ⟨ht,y',H1,I1,r1,q1⟩=>?_) hsw
 exact wpAny_mono (wpAny_toks_of ht (AQ (E:=X.xe) (Q:=fun _ s2=>SP X pins D .next s2) I1 hN hi (.inl n.1) r1 (fun s2 I2=>⟨_,H1,I2,q1⟩) (.inr n.1))) (fun _ _ z=>z) fun _ _ z=>z.2⟩
theorem X0{i:Nat}(hN:X.N.Nodup)(n:Nm X.env.scope x .local)(ho:QE X o to)(hyz:(y == z)=false)(hz:z.length=0)(hi:X.N[i]? = some x:=by rfl)(hsw:swapsWith (.Call (.Attribute o "replace" apos) [.Constant (.str y) j1 p1,.Constant (.str z) j2 p2] [] cpos) (some (.Name x pos')) pos.line X.env=pure false:=by rfl)(hbase:attributeBase o "replace" X.env (eval o X.env)=eval o X.env:=by rfl)(hfew:((backTo cpos (starEach [.Constant (.str y) j1 p1,.Constant (.str z) j2 p2] X.env)).all (fun x=>!x.1) && (backToKw cpos (keywordEach [] X.env)).all (fun x=>x.1.isSome)
   && decide ([Expr.Constant (.str y) j1 p1,.Constant (.str z) j2 p2].length+([]:List Keyword).length+(if ([]:List Keyword).isEmpty then 0 else 1) < 30))=true:=by rfl)(hline:(apos.endLine == cpos.line)=true:=by rfl)(hs:starEach [.Constant (.str y) j1 p1,.Constant (.str z) j2 p2] X.env = [(false,eval (.Constant (.str y) j1 p1) X.env),(false,eval (.Constant (.str z) j2 p2) X.env)]:=by rfl) :
  Em X (.Assign [.Name x pos'] (.Call (.Attribute o "replace" apos) [.Constant (.str y) j1 p1,.Constant (.str z) j2 p2] [] cpos) pos) (Us (Ot X.K y z to) (Y2 i)):=⟨by
 intro pins s σ H D ht I h;refine wpAny_Assign_Name (thn (Q:=EP X pins σ fun v H'=>Y2 i v σ H' D.nx) ?_ fun v s1 ⟨y',H1,I1,r1,q1⟩=>AQ I1 hN hi (.inl n.1) r1 (fun s2 I2=>⟨_,H1,I2,q1⟩) (.inr n.1)) hsw;refine wpAny_Call_method_late hbase hfew hline rfl (wpAny_mono (wpAny_toks_of ht (ho.h pins s σ H _ I h)) (fun v s1 ⟨ht1,x',H1,I1,r1,ty,x0,e0,hl,q1⟩=>?_) fun _ _ q=>q.2);obtain⟨h1,h2⟩:=FN I1 r1 ty;refine⟨"str","str.replace", F.plainAttrs_str,F.slot_str_replace,F.type_str_replace,h1,h2,?_⟩;subst e0;obtain⟨t0,rfl⟩:=r1;rw[hs];refine Calls.callWith_builtin rfl (Calls.evalArgs_plain ?_);refine Calls.spliced_cons (Calls.Constant_str (k:=j1) (pos:=p1) (Calls.spliced_cons (Calls.Constant_str (k:=j2) (pos:=p2) (Calls.spliced_nil ?_))));refine SC.replace (Nat.ne_of_gt ht1) (Nat.succ_ne_zero _) (yJ (wF _)) hyz (by rw[hz,Nat.mul_zero];lia) fun t' k=>?_
 exact⟨.str _,H1,(I1.tok _).tok _,⟨t',rfl⟩,q1⟩⟩
end
def sgU(x:Str):List eY:=(cs x).map fun c=>.str ⟨#[c]⟩ 0
def sgV(x:Str):List V:=(cs x).map fun c=>.str ⟨#[c]⟩
theorem Xc(x:Str):ZH (sgV x) (sgU x):=by
 unfold sgV sgU;generalize cs x=l
 induction l with
 | nil=>exact .nil
 | cons c l ih=>exact .cons ⟨0,rfl⟩ ih
theorem Ql{x:Str}{k:Nat}{v:eY}(h:(sgU x)[k]? = some v):∃c,x.cps[k]? = some c/\v = .str ⟨#[c]⟩ 0:=by
 unfold sgU at h;rw[xK] at h;obtain⟨c,h1,h2⟩:=xS.mp h;exact⟨c,by rw[← h1];exact(wE ..).symm,h2.symm⟩
theorem Rp{x:Str}{k:Nat}(h:(sgU x)[k]? = none):x.cps[k]? = none:=by
 unfold sgU at h;rw[xK,zK] at h;rw[← wE];exact h
theorem bM(it l:eZ)(x:Str)(t:Tok):Tj P w it l (fun k h=>h.IsStrIter it (strIterType x) x t k) (fun _ its=>its=sgU x) where
 obj:=fun k h st=>by
  obtain⟨o,e,c,d⟩:=st;exact⟨o,e,fun v z=>by rw[d] at z;cases z⟩
 keep:=fun k h h' st kk=>let ⟨o,ho,r⟩:=st;⟨o,kk o ho,r⟩
 src:=fun h h' its hl kk=>hl
 item:=fun A k s its v Q E st hl hx hQ=>by
  subst hl;obtain⟨c,hc,rfl⟩:=Ql hx;unfold strIterType at st hQ;cases ha:x.cps.all (· < 128)
  ·rw[ha] at st hQ;exact wpAny_nextOf_wide_item st hc fun h' st' sb=>hQ _ h' _ (.inr ⟨_,_,_,rfl,rfl⟩) st' sb
  ·rw[ha] at st hQ;exact wpAny_nextOf_ascii_item st hc fun h' st' sb=>hQ _ h' _ (.inr ⟨_,_,_,rfl,rfl⟩) st' sb
 done:=fun A k s its Q E hh st hl hx hE=>by
  subst hl;have hc:=Rp hx;unfold strIterType at st;cases ha:x.cps.all (· < 128)
  ·rw[ha] at st;exact wpAny_nextOf_wide_end hh st hc hE
  ·rw[ha] at st;exact wpAny_nextOf_ascii_end hh st hc hE
abbrev szA(h:Heap)(x:Str)(t:Tok):Heap:=h.push {cls:=.type (strIterType x),data:=.fields #[.str x t,.int 0 0] }
abbrev szB(h:Heap)(x:Str)(t:Tok)(t2:eZ):Heap:=(szA h x t).push {cls:=.type "list_iterator", data:=.fields #[.ref t2,.int 0 0] }
abbrev szC(h:Heap)(x:Str)(t:Tok)(t2:eZ):Heap:=(szB h x t t2).push {cls:=.type "tuple", data:=.seq #[.ref h.objs.size,.ref (szA h x t).objs.size] }
abbrev szD(h:Heap)(x:Str)(t:Tok)(t2:eZ):Heap:=(szC h x t t2).push {cls:=.type "tuple", data:=.seq #[.none,.none] }
abbrev szE(h:Heap)(x:Str)(t:Tok)(t2:eZ):Heap:=(szD h x t t2).push {cls:=.type "zip", data:=.fields #[.none,.bool false,.bool false,.ref (szB h x t t2).objs.size,.ref (szC h x t t2).objs.size] }
theorem PK(x:Str)(t:Tok)(l2:eZ)(ys:Array eY):Meets (Builtin.«zip.__new__» ⟨[.type "zip", .str x t,.ref l2],[]⟩) (fun _ R s=>s.heap.IsList l2 ys/\R (.ok (.ret (.ref (szD s.heap x t l2).objs.size))) {s with heap:=szE s.heap x t l2 }) :=
 .of_wp fun prog w A R s h=>by
  obtain⟨hp,g,d,tk,os⟩:=s;obtain⟨hl2,h⟩:=h;have hsub:=sub_zip;have hL2:Heap.IsList (Shared.heap ⟨szA hp x t,g,d,tk,os⟩) l2 ys:=hl2.at fun o e=>xB _ e
  wp_walk using wpAny_pyIter_strU,wpAny_pyIter_list hL2
  exact⟨_,rfl,h⟩
section
variable{P:fA}{w:fB}{A:fD}{E:eQ}{s:eX}
theorem PZ{x:Str}{t:Tok}{l2:eZ}{ys:Array eY}{Q:eQ}(hl2:s.heap.IsList l2 ys)(h:∀h',IsZip h' (s.heap.objs.size+4) (s.heap.objs.size+2) (s.heap.objs.size+3) .none->IsPair h' (s.heap.objs.size+2) (.ref s.heap.objs.size) (.ref (s.heap.objs.size+1))-> IsPair h' (s.heap.objs.size+3) .none .none->h'.IsStrIter s.heap.objs.size (strIterType x) x t 0->h'.IsListIter (s.heap.objs.size+1) l2 0 -> (∀c o,s.heap.get? c=some o->h'.get? c=some o)->Q (.ref (s.heap.objs.size+4)) {s with heap:=h' }):wpAny (model P w) A (call (.type "zip") [.str x t,.ref l2]) Q E s:=by
 refine callType_new F.called_zip aA (F.typeCall_zip_2 _ _) (F.newCall_zip_2 _ _) (fun obj=>F.args_object_init_3 obj _ _) F.entry_zip_new (PK x t l2 ys) ⟨hl2,?_⟩;have n1:(szA s.heap x t).objs.size=s.heap.objs.size+1:=yN ..;have n2:(szB s.heap x t l2).objs.size=s.heap.objs.size+2:=by rw[yN,n1]
 have n3:(szC s.heap x t l2).objs.size=s.heap.objs.size+3:=by rw[yN,n2]
 have n4:(szD s.heap x t l2).objs.size=s.heap.objs.size+4:=by rw[yN,n3]
 have q5:(szE s.heap x t l2).get? (szD s.heap x t l2).objs.size=some _:=xL _ rfl;have q4:(szE s.heap x t l2).get? (szC s.heap x t l2).objs.size=some _:=xB _ (xL _ rfl);have q3:(szE s.heap x t l2).get? (szB s.heap x t l2).objs.size=some _:=xB _ (xB _ (xL _ rfl));have q2:(szE s.heap x t l2).get? (szA s.heap x t).objs.size=some _:=xB _ (xB _ (xB _ (xL _ rfl)));have q1:(szE s.heap x t l2).get? s.heap.objs.size=some _:=xB _ (xB _ (xB _ (xB _ (xL _ rfl))));show _/\_;rw[n2,n3,n4] at q5;rw[n1,n2] at q3;rw[n3] at q4;rw[n1] at q2;rw[n4];exact⟨⟨_,q5,rfl⟩,h _ q5 q3 q4 ⟨_,q1,rfl,rfl⟩ ⟨_,q2,rfl,rfl⟩ fun c o x=>xB _ (xB _ (xB _ (xB _ (xB _ x))))⟩
end
def Bu(a:eZ)(x:Str):uFg->Hp->eZ->List V->Prop:=fun K H b xs=>(b=a/\xs=sgV x)\/(b≠a/\ZF K H b xs)
def Cg(a:eZ)(x:Str):eZ->Heap->List eY->Prop:=fun b h its=>if b=a then its=sgU x else h.IsList b its.toArray
theorem Xs(a:eZ)(x:Str):AY (Bu a x) (Cg a x):=by
 refine⟨fun {X pins σ H s l xs} I h=>?_,fun {X pins σ H s l xs ys} I h h'=>?_⟩
 ·rcases h with⟨rfl,rfl⟩ | ⟨n,h⟩
  ·exact⟨sgU x,Xc x,by unfold Cg;rw[if_pos rfl]⟩
  ·obtain⟨its,r,p,_⟩:=I.list h;exact⟨its,r,by unfold Cg;rw[if_neg n];exact p.isList⟩
 ·rcases h with⟨e,rfl⟩ | ⟨n,h⟩
  ·rcases h' with⟨_,rfl⟩ | ⟨n,_⟩
   ·rfl
   ·exact absurd e n
  ·rcases h' with⟨e,_⟩ | ⟨_,h'⟩
   ·exact absurd e n
   ·exact I.list_inj h h'
inductive JB(K:uFg)(R:It->Hp->Prop)(vs:aG)(H1:Hp):Prop
 |mk(x l2 ys)(_:vs = [.str x,.ref l2])(_:ZF K H1 l2 ys)(_:∀a,l2≠a->R (TB (Bu a x) K a l2) H1)
def cD(K:uFg)(ta:TA):TI:=fun σ H R=>ta σ H fun vs H1=>JB K R vs H1
theorem HJ{X:Cx}{a b:Expr}{ta:TA}{p pos:Pos}{elts:List Expr}{ek:Nat}{epos:Pos}(hg:Gl X "zip")(hm:X.mg "zip" = none)(ha:QA X [a,b] ta)(hs:starEach [a,b] X.env = [(false,eval a X.env),(false,eval b X.env)]:=by rfl)(hs2:starEach [b] X.env = [(false,eval b X.env)]:=by rfl) :
  QI X (.Tuple elts ek epos) (.Call (.Name "zip" p) [a,b] [] pos) (cD X.K ta):=⟨by
 intro pins s σ H R I h;refine Call_ (Ui I hg hm boot_zip (PyProof.Rows.callWith_type1 (thn (ha.h pos pins s σ H _ I h) fun us s1 ⟨vs,H1,I1,r1,q1⟩=>?_) (by rw[hs,hs2]) (by rw[hs2];rfl)));obtain⟨x,l2,ys,e,h2,q⟩:=q1;subst e;obtain⟨u1,u2,rfl,ru1,ru2⟩:=BW r1;obtain⟨t,rfl⟩:=ru1;cases ru2;obtain⟨its2,r2,p2,_⟩:=I1.list h2;have b2:l2 < s1.heap.objs.size:=by obtain⟨o,n,e,_⟩:=p2;exact xP e
 have b2' : @LT.lt Nat _ l2 s1.heap.objs.size:=b2;have key:∀(a b:Nat),(a < b\/b < a)->¬(@Eq Nat a b):=fun a b h q=>by lia
 have n2:l2≠s1.heap.objs.size+2:=key _ _ (by lia);have q:=q _ n2;have e1:Cg (s1.heap.objs.size+2) x (s1.heap.objs.size+2)=fun _ its=>its=sgU x:=funext fun h=>funext fun its=>if_pos rfl;have e2:Cg (s1.heap.objs.size+2) x l2=fun h its=>h.IsList l2 its.toArray:=funext fun h=>funext fun its=>if_neg n2;refine PZ p2.isList fun h' z0 t1 t0 st1 st2 kp=>?_;refine wpAny_pyIter_zip z0 ?_;have Z:ZA (s1.heap.objs.size+4) (s1.heap.objs.size+2) (s1.heap.objs.size+3) s1.heap.objs.size (s1.heap.objs.size+1) (s1.heap.objs.size+2) l2 :=
  ⟨key _ _ (by lia),key _ _ (by lia),key _ _ (by lia),key _ _ (by lia),key _ _ (by lia),key _ _ (by lia),key _ _ (by lia),key _ _ (by lia),key _ _ (by lia),key _ _ (by lia),
  key _ _ (by lia),key _ _ (by lia),key _ _ (by lia),key _ _ (by lia),key _ _ (by lia),key _ _ (by lia),key _ _ (by lia),key _ _ (by lia)⟩
 refine⟨s1.heap.objs.size+4,_,_,_,H1,rfl,I1.kept (h':=h') (t':=s1.toks) kp,E5 (Xs _ x) Z (by rw[e1];exact bM _ _ x t) (by rw[e2];exact Dh _ _),⟨z0,t1,⟨_,_,t0⟩,st1,st2⟩,fun c hc=>?_,q⟩;have hle:s1.heap.objs.size<=c:=by
  simp only[xC,xT,or_false] at hc;have:(s1.heap.objs.size:Nat)<=(c:Nat):=by rcases hc with rfl | rfl | rfl | rfl | rfl<;>lia
  exact this
 exact I1.fpOk hle (I1.hok.fresh hle)⟩
theorem Gu{K:uFg}{a l2:eZ}{x:Str}{nl:Nat}{fv:St}{g:TG}{tt:VR}{te:TE}{Q:VK}{H:Hp}(zs:aG)(hxz:x.length<=zs.length)(n21:l2≠a)(Pv:Nat->List V->Hp->Prop)(h0:Pv 0 [] H)(hn:x.length<=1000000)(hl:∀i ys H,i<=x.length->Pv i ys H->ZF K H l2 zs)(hlen:∀i ys H,Pv i ys H->ys.length<=i)(step:∀i c z p ys H,(cs x)[i]? = some c->zs[i]? = some z->Pv i ys H->H p=none->Vh nl fv g tt te (.ref p) (upd H p (.tup [.str ⟨#[c]⟩,z])) (fun y H'=>Pv (i+1) (ys ++ [y]) H') fun H'=>Pv (i+1) ys H')(hd:∀ys H,Pv x.length ys H->∀l,H l=none->Q (.ref l) (upd H l (.lst ys))) :
  Vt (TB (Bu a x) K a l2) nl fv g tt te Q H:=by
 have el:(sgV x).length=x.length:=by unfold sgV;rw[xA];exact Z7 x
 have m:∀{i ys H},i<=x.length->Pv i ys H->Bu a x K H a (sgV x)/\Bu a x K H l2 zs:=fun hi p=>⟨.inl ⟨rfl,rfl⟩,.inr ⟨n21,hl _ _ _ hi p⟩⟩;refine KJ x.length (fun i=>((sgV x)[i]?).bind fun x=>(zs[i]?).map fun z=>[x,z]) Pv h0 hn (fun i H ys hi p=>⟨sgV x,zs,(m (yX hi) p).1,(m (yX hi) p).2,by lia,by lia⟩) ?_ (fun H ys p=>⟨sgV x,zs,(m (xH _) p).1,(m (xH _) p).2,.inl (zZ el)⟩) hlen ?_ hd
 ·rintro i H x' H' ys hi p ⟨q,a',b,rfl,hq,rfl,ha⟩;obtain⟨e1,e2⟩:=ha (sgV x) zs (m (yX hi) p).1 (m (yX hi) p).2;exact⟨q,[a',b],by rw[e1,e2];rfl,rfl,hq,rfl⟩
 ·intro i us p ys H hi hf hp hq;obtain⟨x',hx,h2⟩:=Option.bind_eq_some_iff.mp hf;obtain⟨z,hz,rfl⟩:=xS.mp h2;unfold sgV at hx;rw[xK] at hx;obtain⟨c,hc,rfl⟩:=xS.mp hx;exact step i c z p ys H hc hz hp hq
def TY:V->Bool
 | .non=>true
 | _=>false
def Ag:eY->Bool
 | .none=>true
 | _=>false
def Tx(H:Hp)(v:V):Prop:=v = .non\/(∃x,v = .str x)\/(∃i,v = .int i)\/∃l ys,v = .ref l/\H l=some (.lst ys)
def Hh(K:uFg):R2:=fun x y H Q=>x = .non/\∃p xs,y = .ref p/\ZF K H p xs/\(∀v∈xs,Tx H v)/\Q (.bl (xs.any TY)) H
theorem KF(r:ZH xs its)(h:∀v∈xs,Tx H v):its.any Ag=xs.any TY:=by
 induction r with
 | nil=>rfl
 | @cons x u xs us r1 rr ih =>
  rw[zR,zR,ih fun v hv=>h v (xG _ hv)];congr 1;rcases h x xQ with rfl | ⟨z,rfl⟩ | ⟨i,rfl⟩ | ⟨l,ys,rfl,_⟩
  ·cases r1;rfl
  ·obtain⟨_,rfl⟩:=r1;rfl
  ·obtain⟨_,rfl⟩:=r1;rfl
  ·cases r1;rfl
theorem KZ{pins:List (eZ×Obj)}{s:eX}{σ:St}{H:Hp}{xs:aG}{its:eU}(hu:X.A.in1.units < cLine)(I:ZD X pins σ H s)(r:ZH xs its)(hv:∀v∈xs,Tx H v):∀w∈its,SeqAt.EqAt X.A.in1 s w .none (Ag w):=by
  have go:∀{xs:aG}{its:eU},ZH xs its->(∀v∈xs,Tx H v)->∀w∈its,SeqAt.EqAt X.A.in1 s w .none (Ag w):=by
   intro xs its r
   induction r with
   | nil=>intro _ w hw;cases hw
   | @cons x u xs us r1 rr ih =>
    intro h w hw;rcases xC.mp hw with rfl | hw
    ·rcases h x xQ with rfl | ⟨z,rfl⟩ | ⟨i,rfl⟩ | ⟨l,ys,rfl,hl⟩
     ·cases r1;exact SeqAt.EqAt.same _
     ·have:=Fc (A:=X.A.in1) (s:=s) (x:=.non) (v:=.none) r1 rfl rfl rfl;obtain⟨_,rfl⟩:=r1;exact this
     ·have:=Fc (A:=X.A.in1) (s:=s) (x:=.non) (v:=.none) r1 rfl rfl rfl;obtain⟨_,rfl⟩:=r1;exact this
     ·cases r1;obtain⟨its2,_,pl2,_⟩:=I.list (ZF.of hl);exact SeqAt.EqAt.list_none pl2.isList hu
    ·exact ih (fun v hv=>h v (xG _ hv)) w hw
  exact go r hv
theorem Xy(hu:X.A.in1.units < cLine):Je X (compareOp .In) (Hh X.K):=by
 intro pins s σ H x y v u Q I rx ry ⟨ex,p,xs,ey,hq,hv,q⟩;subst ex ey;cases rx;obtain rfl:u=Value.ref p:=ry;obtain⟨its,r,pl,hz⟩:=I.list hq;refine SeqAt.in_listAt Ag pl.isList (fun w hw=>KZ hu I r hv w (by simpa using hw)) ⟨.bl _,H,I,rfl,?_⟩;have e2:its.toArray.any Ag=xs.any TY:=by rw[← KF r hv];simp
 rw[e2];exact q
def Gw(K:uFg):R2:=fun x y H Q=>x = .non/\∃p xs,y = .ref p/\ZF K H p xs/\(∀v∈xs,Tx H v)/\Q (.bl (!xs.any TY)) H
theorem SG(hu:X.A.in1.units < cLine):Je X (compareOp .NotIn) (Gw X.K):=by
 intro pins s σ H x y v u Q I rx ry ⟨ex,p,xs,ey,hq,hv,q⟩;subst ex ey;cases rx;obtain rfl:u=Value.ref p:=ry;obtain⟨its,r,pl,hz⟩:=I.list hq;refine SeqAt.notIn_listAt Ag pl.isList (fun w hw=>KZ hu I r hv w (by simpa using hw)) ⟨.bl _,H,I,rfl,?_⟩;have e2:its.toArray.any Ag=xs.any TY:=by rw[← KF r hv];simp
 rw[e2];exact q
theorem RF(hr:ZJ k X.A):YK X (compareOp .NotIn) (Gw X.K):=⟨SG (by have:=hr.un;show X.A.units+1 < _;lia)⟩
theorem En(hr:ZJ k X.A):YK X (compareOp .In) (Hh X.K):=⟨Xy (by have:=hr.un;show X.A.units+1 < _;lia)⟩
structure TM (P:fA) (w:fB) (K:uFg) (mg:eR) (base:Heap) (C:eZ) (m x:Str):Prop where
 kc:Ak K C=true
 run:∃f,VI K C m f/\∀(A:fD)(e:Option eY)(outer:List Env)(s:eX)(H:Hp)(a:eZ)(Q:VK),ZJ 1 A->WQ P w K mg base A outer s H->Q (.str x) H ->
  codeAny (model P w) (A.mark e) (.call (.ref f) ⟨[.ref a],[]⟩) (CR YY outer P w H s Q E0) s
theorem ZS.says{P:fA}{w:fB}{K:uFg}{mg:eR}{base:Heap}{C:eZ}{m qual x:Str}{st:Stmt}(h:ZS K C m qual st)(kc:Ak K C=true)(hb:∀X:Cx,∃t,YS X (Yd st) t/\∀D σ H,D.rt (.str x) H->t D σ H)(S:ZL ["self"] ["self"] (Zj st):=by exact fsc)(hg:∀kV doc pm an cdv ct us,us.length=1->bindArgs (PySem.W.fnOf m qual (Wa st) (Yd st) (Zj st) .none kV doc pm an cdv ct) ⟨us,[]⟩=pure ((["self"]:eS).zip us):=by exact fun _ _ _ _ _ _=>by exact al1 fun _=>rfl):TM P w K mg base C m x:=by
 obtain⟨f,fd,F,M⟩:=h.ex;refine⟨kc,f,M,fun A e outer s H a Q hr e0 q=>?_⟩;have B:=F.binds (ps:=["self"]) hg;obtain⟨oc,od,kV,doc,pm,an,cdv,ct,osl,rfl,lk,hcd⟩:=F.ex;have KX:K.In s.heap:=e0.mod.kin.keeps fun b o e=>(e0.bs b o e).1;have lim:s.heap.NoLimit:=e0.mod.nolimit.keeps fun b o e=>(e0.bs b o e).1;have hkind:∀y∈(["self"]:eS).zip [Value.ref a],(Zj st).names.lookup y.1=some .local\/((Zj st).names.lookup y.1=some .cell/\((cellsFrom (s.heap.objs.size+1) (Zj st).names []).lookup y.1).isSome=true):=fun⟨n,v⟩ hy=>by
  rcases S.par n (zG hy).1 with q | q
  ·exact .inl q
  ·exact .inr ⟨q,PySem.W.cellsFrom_some _ _ _ (.inl q)⟩
 refine codeAny_call_function (show (A.mark e).depth < recursionLimit from hr.depth) (KX _ _ lk) rfl S.co S.gen rfl (PySem.W.codeRec_of KX hcd) (B s [.ref a] KX rfl _ _ _ _ ?_);refine wpAny_newFunctionEnv_cells S.kind hkind fun env he s1 x=>?_;subst he;refine⟨lim.keeps x.toInCall.keep,codeAny_func ?_⟩;have I0:ZD (Yp YY P w K mg base ["self"] qual (Zj st) f cdv A outer s H E0) [] (start ["self"] [.ref a]) H s1:=Ez S hr.hd e0 rfl (.cons rfl .nil) x
 let X:Cx:={Yp YY P w K mg base ["self"] qual (Zj st) f cdv A outer s H E0 with A:=(A.mark e).deeper (envOfC qual (Zj st) s.heap.objs.size f cdv),calm:=false,xe:=fun _ _=>False }
 have I:ZD X [] (start ["self"] [.ref a]) H s1:=⟨⟨I0.ok.mod,I0.ok.kind,I0.ok.glob,I0.ok.blt,I0.ok.above,I0.ok.inj,I0.ok.has,I0.ok.cab,fun z=>Bool.noConfusion z,I0.ok.frames,I0.ok.stk,I0.ok.exf,I0.ok.bs,I0.ok.bsz,I0.ok.noex,I0.ok.exfs,I0.ok.funs,I0.ok.frf⟩,I0.os,I0.bare,I0.base,I0.loc,I0.cell,I0.free,I0.freeC,I0.pin,I0.hok,I0.len⟩;obtain⟨t,ht,hq⟩:=hb X;refine wpAny_mono (ht.h [] s1 (start ["self"] [.ref a]) H {nx:=fun _ _=>False,rt:=Q } I (hq _ _ _ q)) (fun fl s' hs=>?_) fun e s' hs=>hs.elim;cases fl with
 | ret u =>
  obtain⟨v,σ',H',J,rv,q⟩:=hs;exact⟨v,H',J.os,J.bare,J.base,J.hok,rv,q⟩
 | next=>obtain⟨_,_,_,z⟩:=hs;exact z.elim
 | brk=>obtain⟨_,_,_,z⟩:=hs;exact z.elim
 | cont=>obtain⟨_,_,_,z⟩:=hs;exact z.elim
theorem PD{X:Cx}{A:fD}{E:eQ}{s:eX}{a C g:eZ}{o:Obj}{m:Str}{pl:Sem Bool}{Q:eY×List eY->eX->Prop}{K:uFg}(KX:K.In s.heap)(ho:s.heap.get? a=some o)(hc:Ca o C)(kc:Ak K C=true)(k:VI K C m g)(h:Q (.ref g,[.ref a]) s):wpAny (model X.prog X.w) A (getMethod (.ref a) m pl) Q E s:=by
 unfold Ak at kc;simp only[yV] at kc;obtain⟨⟨⟨⟨⟨_,k1⟩,k2⟩,_⟩,_⟩,_⟩:=kc;have ty:PySem.W.Looks (model X.prog X.w) s.heap (typeOf (.ref a)) (.ref C):=hc.1▸(PySem.W.Looks.ld ho).andThen .now;have cn:Manifest.canonical "BaseException.__getattribute__" = "object.__getattribute__" := aA
 unfold getMethod specialOf;refine wpAny_bind (wpAny_bind (ty.here ((PySem.W.looks_findIn KX (beq_iff_eq.mp k1)).here ?_)));dsimp only;rw[cn,if_neg aA];refine wpAny_bind (wpAny_bind (ty.here ((PySem.W.looks_findIn KX (beq_iff_eq.mp k2)).here ?_)));refine wpAny_bind (wpAny_bind (ty.here ((PySem.W.looks_findIn KX k.at_).here (wpAny_bind ((PySem.W.looks_typeIn KX (beq_iff_eq.mp k.fn)).here ?_)))));rw[if_neg aA];refine wpAny_bind (wpAny_loadPart ho ?_);rw[hc.2];exact wpAny_bind (wpAny_rule (wpAny_pure h))
inductive JQ(P:fA)(w:fB)(K:uFg)(mg:eR)(base:Heap)(a C:eZ)(m:Str)(Q:VK)(v:V)(H:Hp):Prop
 |mk(x)(_:v = .ref a)(_:TM P w K mg base C m x)(_:Q (.str x) H)
def XE(P:fA)(w:fB)(K:uFg)(mg:eR)(base:Heap)(a C:eZ)(m:Str)(te:TE):TE:=fun σ H Q=>te σ H fun v H1=>JQ P w K mg base a C m Q v H1
theorem Mp{X:Cx}{a C:eZ}{o:Obj}{e:Expr}{m:Str}{te:TE}{apos pos:Pos}{pl:Sem Bool}(hc:Ca o C)(he:QE (X.hnd a o) e te)(hr:ZJ 1 X.A:=by exact ZJ.mono (by assumption) (by first | decide | lia))(ht:eval (.Call (.Attribute e m apos) [] [] pos) (X.hnd a o).env=(do
   let ov ← eval e (X.hnd a o).env
   standAt apos.atName
   let (f,first) ← holding [ov] (getMethod ov m pl)
   callWith pos f first (backTo pos (starEach [] (X.hnd a o).env)) (backToKw pos (keywordEach [] (X.hnd a o).env))):=by rfl) :
  QE (X.hnd a o) (.Call (.Attribute e m apos) [] [] pos) (XE X.prog X.w X.K X.mg X.base a C m te):=⟨by
 intro pins s σ H Q I h;refine PySem.W.methodCall_KW (pl:=pl) (thn (he.h pins s σ H _ I h) fun u s1 ⟨v,H1,I1,rv,x,e0,sy,q⟩=>?_) ht;subst e0;obtain rfl:u=Value.ref a:=rv;have hp:=I1.pin (a,o) (yQ _ (by simp));obtain⟨f,M,R⟩:=sy.run;refine PD (X:=X) (K:=X.K) I1.kIn hp.1 hc sy.kc M ?_;refine PySem.W.callWith_K0 (first:=[.ref a]) I1.kIn M.kp (wpAny_call (codeAny_mono (R X.A (some (.ref a)) X.stack s1 H1 a Q hr ?_ q) fun r s' hq=>?_))
 ·have:=I1.env0;exact⟨this.frames,this.mod,this.bs,this.bsz,this.funs,this.frf,this.hok,this.bare⟩
 cases r with
 | error e=>exact hq.elim
 | ok fl =>
  cases fl with
  | ret u=>exact I1.after hq
  | next=>exact False.elim hq
  | brk=>exact False.elim hq
  | cont=>exact False.elim hq⟩
section
variable{P:fA}{w:fB}{K:uFg}{mg:eR}{base:Heap}{C:eZ}{m qual:Str}{st:Stmt}{N ps:eS}{k:Nat}{sp:Sp}
theorem ZS.mt0(h:ZS K C m qual st)(S:ZL N ps (Zj st))(hb:∀ (kV doc pm:eY) (an:Option eZ) (cdv ct:eY) (us:eU),us.length=ps.length->bindArgs (PySem.W.fnOf m qual (Wa st) (Yd st) (Zj st) .none kV doc pm an cdv ct) ⟨us,[]⟩=pure (ps.zip us))(len:∀vs H Q E,sp vs H Q E->vs.length=ps.length)(hbody:∀ (f:eZ) (cdv:eY) (A:fD) (outer:List Env) (s:eX) (H:Hp) (vs:aG) (Q:VK) (E:XK),ZJ k (A.deeper (envOfC qual (Zj st) s.heap.objs.size f cdv))->sp vs H Q E -> ∃t,Tw (Yp YY P w K mg base N qual (Zj st) f cdv A outer s H E).nox (Yd st) t/\t {nx:=fun _ H'=>Q .non H',rt:=Q } (start N vs) H):Mt P w K mg base C m ps (k+1) sp:=by
 obtain⟨f,fd,F,M⟩:=h.ex;exact⟨f,fd,M,F.ok0 S len (hbody f),F.binds hb⟩
theorem ZS.nev(h:ZS K C m qual st):WA P w K mg base C m k (fun _ _ _ _=>False):=by
 obtain⟨f,fd,F,M⟩:=h.ex;exact⟨f,M,⟨fun _ _ _ _ _ _ _ _ _ _ _ h=>h.elim⟩⟩
end
section
variable{X:Cx}{pos:Pos}
end
end L2
namespace L2
open PySem PySem.Spec PyProof.Rows PySem.W
section
variable{s:eX}{r:Nat->Nat}{N:Nat}{p:Array Nat}
end
end L2
namespace L2
end L2
namespace L2
open PySem PySem.Spec PyProof.Rows
end L2
namespace L2
open PySem PySem.Spec PyProof.Rows PySem.W
section
variable{prog:fA}{w:fB}{A:fD}{s:eX}
end
end L2
namespace L2
open PySem PySem.Spec PyProof.Rows PySem.W
section
variable{s:eX}{r:Nat->Nat}{N:Nat}{p:Array Nat}
end
end L2
namespace L2
open PySem PySem.Spec PyProof.Rows PySem.W
section
variable{P:fA}{w:fB}{K:Frag}{mg:eR}{base:Heap}
end
section
variable{X:Cx}{pins:List (eZ×Obj)}{σ:St}{H:Hp}{s:eX}{c P:eZ}{nm:Str}{params:Arguments}{body:Expr}{scope:Scope}{lpos:Pos}
end
end L2
namespace L2
open PySem PySem.Spec PyProof.Rows PySem.W
section
variable{X:Cx}{pins:List (eZ×Obj)}{σ:St}{H:Hp}{s:eX}
variable{a kS:eZ}{keys:Array eY}{b:Bool}{e e1:Nat}{Pf:PySem.Fin->eX->Prop}{E:eQ}
end
end L2
namespace L2
open PySem PySem.Spec PyProof.Rows PySem.W
section
variable{X:Cx}{c P:eZ}{nm x:Str}{params:Arguments}{body:Expr}{scope:Scope}{lpos p kp kp2 pos:Pos}{e:Expr}{te:TE}{k:Nat}
end
end L2
namespace L2
open PySem PySem.Spec PyProof.Rows PySem.W
/- the library's own look at a code's head (KE.KNestM): a match of its own cost 37,000 objects -/
section
variable{P:fA}{w:fB}{K:uFg}{mg:eR}{base:Heap}
end
section
variable{P:fA}{w:fB}{K:uFg}{mg:eR}{base:Heap}{x nm:Str}{scope:Scope}{f:eZ}{cv:eY}{A:fD}{outer:List Env}{s:eX}{H:Hp}{E:XK}{pos:Pos}
end
end L2
namespace L2
open PySem PySem.Spec PyProof.Rows PySem.W
end L2
namespace L2
open PySem PySem.Spec PyProof.Rows PySem.W
section
variable{ta:TE}
end
end L2
namespace L2
open PySem PySem.Spec PyProof.Rows
inductive Cd(x y:V)(H:Hp)(Q:VK):Prop
 |mk(i j)(_:x = .bl i)(_:y = .bl j)(_:Q (.bl (!(i == j))) H)
theorem PM:YK X (compareOp .IsNot) Cd:=⟨by
 intro pins s σ H x y v u Q I rx ry h;obtain⟨i,j,rfl,rfl,q⟩:=h;cases rx;cases ry
 exact isnot_bool ⟨.bl _,H,I,rfl,q⟩⟩
def erB(K:uFg)(c:eV)(errs:eS):Bool :=
 decide (PySem.W.nsIn K mainGlobals "MootError" = some (some (.ref (c "MootError")))) && errs.all fun x=>decide (PySem.W.nsIn K mainGlobals x=some (some (.ref (c x)))) && J8 K (c x) && Ak K (c x) && decide (TF K (c x) (c "MootError")=some true) && decide (PySem.W.kitOne K (.ref (c x)) (.type "ValueError")=some true) &&
  errs.all fun y=>decide (TF K (c x) (c y)=some (decide (x=y))) && decide (PySem.W.kitOne K (.ref (c x)) (.ref (c y))=some (decide (x=y)))
theorem bN{K:uFg}{h:Heap}{mg:eR}{c:eV}{errs:eS}(X:K.In h)(G:h.Ns mainGlobals mg)(e:erB K c errs=true):Er K mg c errs:=by
 unfold erB at e;rw[yV,yW] at e;obtain⟨e0,e⟩:=e;have e1:∀x,x∈errs->(((((PySem.W.nsIn K mainGlobals x=some (some (.ref (c x)))/\J8 K (c x)=true)/\Ak K (c x)=true)/\TF K (c x) (c "MootError")=some true)/\PySem.W.kitOne K (.ref (c x)) (.type "ValueError")=some true)/\∀y,y∈errs->TF K (c x) (c y)=some (decide (x=y))/\PySem.W.kitOne K (.ref (c x)) (.ref (c y))=some (decide (x=y))):=fun x hx=>by grind
 exact⟨fun x hx=>PySem.W.mg_of X G (e1 x hx).1.1.1.1.1,fun x hx=>(e1 x hx).1.1.1.1.2,fun x hx=>(e1 x hx).1.1.1.2,PySem.W.mg_of X G (of_decide_eq_true e0),fun x hx=>(e1 x hx).1.1.2,fun x hx y hy=>((e1 x hx).2 y hy).1,fun x hx y hy=>((e1 x hx).2 y hy).2,fun x hx=>(e1 x hx).1.2⟩
end L2
namespace Law
open PySem L2
local macro_rules | `(tactic| walk_at "hp")=>`(tactic| first | exact Zg | assumption | (rw[Zc (by first | assumption | (apply Ne.symm;assumption))];walk_at "hp"))
local macro_rules | `(tactic| walk_at "sq")=>`(tactic| first | assumption | exact ZF.of (by walk_at "hp"))
local macro_rules | `(tactic| walk_at "dc")=>`(tactic| first | decide | assumption | lia)
local macro_rules | `(tactic| walk_at "rd1")=>`(tactic| first | refine Z2 ?_ | refine Zy ?_ | refine Zu (fun _=>?_) (fun _=>?_) | refine Wd (fun _=>?_) (fun _=>?_) | refine FQ (fun _=>?_) (fun _=>?_) | refine⟨_,rfl,?_⟩ | refine⟨_,_,rfl,rfl,?_⟩ | refine⟨_,_,rfl,rfl,(.inr ⟨by decide,by decide⟩:TQ _ _),?_⟩ | refine⟨_,_,rfl,rfl,(⟨by walk_at "dc", by walk_at "dc"⟩:Gd _ _),?_⟩ | refine⟨_,_,rfl,rfl,(⟨by decide,by decide,by decide⟩:IT _ _),?_⟩ | refine⟨_,_,rfl,rfl,(show (0:Int) < _ by walk_at "dc"),?_⟩ | refine⟨_,_,_,_,rfl,rfl,(by walk_at "sq"),(by rfl),?_⟩ | refine⟨_,_,_,_,rfl,rfl,(by walk_at "sq"),dR (by lia) (by lia),?_⟩ | refine⟨_,_,_,_,rfl,rfl,(by walk_at "hp"),(by rfl),?_⟩ | refine⟨_,_,rfl,.inl (by walk_at "sq"),?_⟩ | fail "rd")
local macro_rules | `(tactic| walk_at "rd")=>`(tactic| repeat' walk_at "rd1")
def top(i:Nat):Stmt:=PySem.Challenge.pw_forsworn_k57_desk_lines_of_no_form.main.body.getD i (.Pass ⟨0,0,0,0⟩)
structure Txt (mg:eR):Prop where
 len:mg "len" = none
 list:mg "list" = none
 range:mg "range" = none
 isinstance:mg "isinstance" = none
 bool:mg "bool" = none
 int:mg "int" = none
 str:mg "str" = none
 tuple:mg "tuple" = none
 zip:mg "zip" = none
 all:mg "all" = none
 max:mg "max" = none
 enumerate:mg "enumerate" = none
 sum:mg "sum" = none
 set:mg "set" = none
 min:mg "min" = none
inductive WW(vs:aG)(H:Hp)(Q:VK)(z3:XK):Prop
 |mk(i)(_:vs = [.int i])(_:Q (.bl true) H)
abbrev GA:Stmt:=top 97
theorem Qy(Zhp:YA K mg "_law_whole" GA)(T:Txt mg):Fn P w K mg base "_law_whole" ["_law_found"] 1 WW:=by
 refine Zhp.fq ["_law_found"] fun H vs Q E hr h=>?_;obtain⟨i,rfl,k⟩:=h;refine⟨rfl,_,(Zd (Zn (Az (Zx Uf T.isinstance Vw (Za Q0 (Za (Vx (v:=.ty "int") T.int CH rfl) Zb))) (JI (Pj (Zx Uf T.isinstance Vw (Za Q0 (Za (Vx (v:=.ty "bool") T.bool Ff rfl) Zb)))))))),?_⟩;obtain⟨t1,ty1,e1⟩:=isi (K:=K) (H:=H) (d:=.int i) rfl "int" aA;obtain⟨t2,ty2,e2⟩:=isi (K:=K) (H:=H) (d:=.int i) rfl "bool" aA;exact⟨_,rfl,_, "int", t1,_,rfl,ty1,e1,_,rfl,Z2 ⟨_,rfl,_, "bool", t2,_,rfl,ty2,e2,_,rfl,k⟩⟩
inductive WN(n:Nat)(vs:aG)(H:Hp)(Q:VK)(z3:XK):Prop
 |mk(v1 v2) (d)(_:vs = [v1,v2])(_:YH H d v1)(_:YH H d v2)(_:d.deep<=n)(_:∀H',ZC H H'->Q (.bl true) H')
abbrev Cj:Stmt:=top 98
theorem OO:ZL ["_law_found","_law_due","_law_one","_law_other"] ["_law_found","_law_due"] (Zj Cj):=fsc
theorem GH(Zae:YA K mg "_law_same" Cj)(T:Txt mg)(Zdq:Fn P w K mg base "_law_whole" ["_law_found"] 1 WW)(Zdr:Fn P w K mg base "_law_same" ["_law_found","_law_due"] (k+1) (fun vs H Q E=>0 < n/\WN (n - 1) vs H Q E)):Fn P w K mg base "_law_same" ["_law_found","_law_due"] (k+2) (WN n):=by
 refine Zae.fnQ OO (fun _ _ _ _ _ _=>al2 fun _ _=>rfl) (fun vs H Q E h=>?_) (fun f cdv A outer s H vs Q E hr h=>?_)
 ·obtain⟨v1,v2,d,rfl,_⟩:=h;rfl
 ·obtain⟨v1,v2,d,rfl,r1,r2,hf,q⟩:=h;have hk : 1<=k+1:=Nat.le_add_left _ _
  refine⟨_,(Ze (Zm (Zl BN Q6 Yi (Zp _)) (Zd (Zn (Uk BN Q0 Yi (Zp _)))) Zo) (Ze (Zm (Vc (Zx Uf T.isinstance Vw (Za Q6 (Za (Vx (v:=.ty "bool") T.bool Ff rfl) Zb)))) (Zd (Zn (Az (Zx Uf T.isinstance Vw (Za Q0 (Za (Vx (v:=.ty "bool") T.bool Ff rfl) Zb))) (JI (Uk Yc Q0 Q6 (Zp _)))))) Zo) (Ze (Zm (Vc (Zx Uf T.isinstance Vw (Za Q6 (Za (Vx (v:=.ty "int") T.int CH rfl) Zb)))) (Zd (Zn (Az (Zs Zdq (Za Q0 Zb)) (JI (Uk Yc Q0 Q6 (Zp _)))))) Zo) (Ze (Zm (Vc (Zx Uf T.isinstance Vw (Za Q6 (Za (Vx (v:=.ty "str") T.str Dq rfl) Zb)))) (Zd (Zn (Az (Zx Uf T.isinstance Vw (Za Q0 (Za (Vx (v:=.ty "str") T.str Dq rfl) Zb))) (JI (Uk Yc Q0 Q6 (Zp _)))))) Zo) (Ze (Zm (QW.pt (TX (Zl TH (Zx Uf T.isinstance Vw (Za Q6 (Za (Vx (v:=.ty "list") T.list Jq rfl) Zb))) (Zx Uf T.isinstance Vw (Za Q0 (Za (Vx (v:=.ty "list") T.list Jq rfl) Zb))) (Zp _)) (JK (Zl TH (Zx Uf T.isinstance Vw (Za Q6 (Za (Vx (v:=.ty "tuple") T.tuple JD rfl) Zb))) (Zx Uf T.isinstance Vw (Za Q0 (Za (Vx (v:=.ty "tuple") T.tuple JD rfl) Zb))) (Zp _))))) (Zd (Zn Wq)) Zo) (Ze (Zm (Zl TH (Zx Yx T.len Z8 (Za Q0 Zb)) (Zx Yx T.len Z8 (Za Q6 Zb)) (Zp _)) (Zd (Zn Wq)) Zo) (Ze (Wz PassesOwn.never rfl (bR T.zip (Za Q0 (Za Q6 Zb))) (L4 (by rfl) (Va (Y7 2) (Va (Y7 3) Jv)))
 (Zd (Zm (Vr (Vc (Zs Zdr (Za Q7 (Za Q8 Zb))))) (Zd (Zn Wq)) Zo)))
 (Zd (Zn Wq))))))))),?_⟩
  have q0:=q H (ZC.refl _);have ne:∀{b:Bool}{A B:Prop},B->if (!decide (V.bl b=V.bl b))=true then A else B:=fun h=>Wd (fun z=>absurd rfl z) fun _=>h
  have dt:∀v:V,decide (v=v)=true:=fun v=>xZ rfl;obtain⟨tb2,yb2,eb2⟩:=isi (K:=K) r2 "bool" aA;obtain⟨ti2,yi2,ei2⟩:=isi (K:=K) r2 "int" aA;obtain⟨ts2,ys2,es2⟩:=isi (K:=K) r2 "str" aA;obtain⟨tl2,yl2,el2⟩:=isi (K:=K) r2 "list" aA;obtain⟨tt2,yt2,et2⟩:=isi (K:=K) r2 "tuple" aA;obtain⟨tb1,yb1,eb1⟩:=isi (K:=K) r1 "bool" aA;obtain⟨ts1,ys1,es1⟩:=isi (K:=K) r1 "str" aA;obtain⟨tl1,yl1,el1⟩:=isi (K:=K) r1 "list" aA;obtain⟨tt1,yt1,et1⟩:=isi (K:=K) r1 "tuple" aA;refine⟨_,rfl,rfl,_,rfl,?_⟩;rw[r2.none_iff];cases d with
  | non =>
   cases r1;exact Z2 ⟨_,rfl,rfl,q0⟩
  | bl b =>
   cases r1;cases r2;refine Zy ⟨_,rfl,_, "bool", tb2,_,rfl,yb2,eb2,_,rfl,Z2 ⟨_,rfl,_, "bool", tb1,_,rfl,yb1,eb1,_,rfl,Z2 ⟨_,rfl,_,rfl,rfl,?_⟩⟩⟩;rw[dt];exact q0
  | int i =>
   cases r1;cases r2;refine Zy ⟨_,rfl,_, "bool", tb2,_,rfl,yb2,eb2,_,rfl,Zy ⟨_,rfl,_, "int", ti2,_,rfl,yi2,ei2,_,rfl,Z2 ⟨_,rfl,i,rfl,_,rfl,Z2 ⟨_,rfl,_,rfl,rfl,?_⟩⟩⟩⟩;rw[dt];exact q0
  | str x =>
   cases r1;cases r2;refine Zy ⟨_,rfl,_, "bool", tb2,_,rfl,yb2,eb2,_,rfl,Zy ⟨_,rfl,_, "int", ti2,_,rfl,yi2,ei2,_,rfl,Zy ⟨_,rfl,_, "str", ts2,_,rfl,ys2,es2,_,rfl,Z2 ⟨_,rfl,_, "str", ts1,_,rfl,ys1,es1,_,rfl,Z2 ⟨_,rfl,_,rfl,rfl,?_⟩⟩⟩⟩⟩;rw[dt];exact q0
  | lst ds =>
   refine Zy ⟨_,rfl,_, "bool", tb2,_,rfl,yb2,eb2,_,rfl,Zy ⟨_,rfl,_, "int", ti2,_,rfl,yi2,ei2,_,rfl,Zy ⟨_,rfl,_, "str", ts2,_,rfl,ys2,es2,_,rfl,Zy ⟨_,rfl,_, "list", tl2,_,rfl,yl2,el2,_,rfl,_, "list", tl1,_,rfl,yl1,el1,rfl,_,rfl,ne ⟨_,rfl,_, "tuple", tt2,_,rfl,yt2,et2,_,rfl,_, "tuple", tt1,_,rfl,yt1,et1,rfl,_,rfl,ne ?_⟩⟩⟩⟩⟩;obtain⟨a1,vs1,rfl,g1,p1⟩:=r1;obtain⟨a2,vs2,rfl,g2,p2⟩:=r2;have hl:vs1.length=vs2.length:=p1.length.trans p2.length.symm;refine⟨_,rfl,a1,vs1,rfl,.inl (ZF.of g1),_,rfl,a2,vs2,rfl,.inl (ZF.of g2),rfl,_,rfl,Wd (fun z=>absurd (by rw[hl]) z) (fun _=>⟨_,rfl,_,rfl,a1,a2,rfl,.inl ⟨vs1,vs2,ZF.of g1,ZF.of g2,?_⟩⟩)⟩;refine Kl vs1 vs2 hl (fun i σ H'=>ZC H H'/\∃w3 w4,σ = [some (.ref a1),some (.ref a2),w3,w4]) ⟨ZC.refl _,none,none,rfl⟩ (fun i σ H' _ ⟨sm,_⟩=>⟨ZF.of (sm _ _ g1),ZF.of (sm _ _ g2)⟩) ?_ fun σ H' ⟨sm,_⟩=>q H' sm;rintro i x y p σ H' hx hy ⟨sm,w3,w4,rfl⟩ hp;obtain⟨dx,ex,rx⟩:=p1.get hx;obtain⟨dy,ey,ry⟩:=p2.get hy;rw[ex] at ey;cases ey;have sm':=sm.trans (ZC.new (o:=.tup [x,y]) hp);have dd:=EY ex;have hn':Jp ds+1<=n:=hf;exact⟨p,_,rfl,ZT.of Zg,rfl,x,[y],rfl,y,[],rfl,rfl,_,rfl,_,rfl,by lia,x,y,dx,rfl,rx.mono' sm',ry.mono' sm',by lia,fun H2 sm2=>⟨_,rfl,Zy ⟨sm'.trans sm2,_,_,rfl⟩⟩⟩
  | tup ds =>
   refine Zy ⟨_,rfl,_, "bool", tb2,_,rfl,yb2,eb2,_,rfl,Zy ⟨_,rfl,_, "int", ti2,_,rfl,yi2,ei2,_,rfl,Zy ⟨_,rfl,_, "str", ts2,_,rfl,ys2,es2,_,rfl,Zy ⟨_,rfl,_, "list", tl2,_,rfl,yl2,el2,_,rfl,_, "list", tl1,_,rfl,yl1,el1,rfl,_,rfl,ne ⟨_,rfl,_, "tuple", tt2,_,rfl,yt2,et2,_,rfl,_, "tuple", tt1,_,rfl,yt1,et1,rfl,_,rfl,ne ?_⟩⟩⟩⟩⟩;obtain⟨a1,vs1,rfl,g1,p1⟩:=r1;obtain⟨a2,vs2,rfl,g2,p2⟩:=r2;have hl:vs1.length=vs2.length:=p1.length.trans p2.length.symm;refine⟨_,rfl,a1,vs1,rfl,.inr (ZT.of g1),_,rfl,a2,vs2,rfl,.inr (ZT.of g2),rfl,_,rfl,Wd (fun z=>absurd (by rw[hl]) z) (fun _=>⟨_,rfl,_,rfl,a1,a2,rfl,.inr ⟨vs1,vs2,ZT.of g1,ZT.of g2,?_⟩⟩)⟩;refine Kl vs1 vs2 hl (fun i σ H'=>ZC H H'/\∃w3 w4,σ = [some (.ref a1),some (.ref a2),w3,w4]) ⟨ZC.refl _,none,none,rfl⟩ (fun i σ H' _ ⟨sm,_⟩=>⟨ZT.of (sm _ _ g1),ZT.of (sm _ _ g2)⟩) ?_ fun σ H' ⟨sm,_⟩=>q H' sm;rintro i x y p σ H' hx hy ⟨sm,w3,w4,rfl⟩ hp;obtain⟨dx,ex,rx⟩:=p1.get hx;obtain⟨dy,ey,ry⟩:=p2.get hy;rw[ex] at ey;cases ey;have sm':=sm.trans (ZC.new (o:=.tup [x,y]) hp);have dd:=EY ex;have hn':Jp ds+1<=n:=hf;exact⟨p,_,rfl,ZT.of Zg,rfl,x,[y],rfl,y,[],rfl,rfl,_,rfl,_,rfl,by lia,x,y,dx,rfl,rx.mono' sm',ry.mono' sm',by lia,fun H2 sm2=>⟨_,rfl,Zy ⟨sm'.trans sm2,_,_,rfl⟩⟩⟩
theorem O7(Zae:YA K mg "_law_same" Cj):Fn P w K mg base "_law_same" ["_law_found","_law_due"] k (fun _ _ _ _=>False):=by
 obtain⟨f,fd,F,hm⟩:=Zae;exact⟨f,fd,hm,F.kp,F.binds fun _ _ _ _ _ _ us hl=>match us,hl with | [_,_],_=>rfl,⟨fun _ _ _ _ h=>h.elim,fun _ _ _ _ _ _ _ _ _ _ _ _ _ h=>h.elim⟩⟩
theorem GJ(Zae:YA K mg "_law_same" Cj)(T:Txt mg)(Zdq:Fn P w K mg base "_law_whole" ["_law_found"] 1 WW):∀n:Nat,Fn P w K mg base "_law_same" ["_law_found","_law_due"] (n+2) (WN n)
 | 0=>GH (k:=0) Zae T Zdq ((O7 Zae).imp fun _ _ _ _ h=>absurd h.1 (zQ _))
 | n+1=>GH (k:=n+1) Zae T Zdq ((GJ Zae T Zdq n).imp fun _ _ _ _ h=>h.2)
@[elab_as_elim] theorem nw {a:eZ}{o:HO}{H:Hp}{motive:Hp->Prop}(ha:H a=none) (h:∀H',ZC H H'->H' a=some o->motive H'):motive (upd H a o):=h _ (ZC.new ha) Zg
section
variable{K:uFg}
inductive J4(K:uFg)(vs:aG)(H:Hp)(Q:VK)(z3:XK):Prop
 |mk(a:eZ) (ns:List Int)(_:vs = [.ref a])(_:ZF K H a (ns.map V.int))(_:∀(s la:eZ)(H':Hp),H s=none->H la=none->ZK H' s la->ZC H H'->Q (.ref s) H')
abbrev L5:Stmt:=top 95
theorem bL(Zhq:YA K mg "_law_src" L5)(T:Txt mg):Fn P w K mg base "_law_src" ["_law_script"] 1 (J4 K):=by
 refine Zhq.fq ["_law_script"] fun H vs Q E hr h=>?_;obtain⟨a,ns,rfl,hS,k⟩:=h;refine⟨rfl,_,(Zd (Zn (Yh (Za (Vy DS T.list Jq (Za (Yq Ws Q0 Yw (Ym Zf)) Zb)) (Za Zf (Za Zf (Za Zf (Za Zf Zb)))))))),?_⟩;refine⟨_,rfl,_,rfl,a,_,rfl,hS,fun l hl=>?_⟩;have hc:∃ms:List Int,Yl (ns.map V.int) none (some 63)=ms.map V.int:=by
  unfold Yl;rw[← List.map_drop,← List.map_take];exact⟨_,rfl⟩
 obtain⟨ms,ec⟩:=hc;refine⟨l,_,rfl,.inl (ZF.of Zg),fun l2 hl2=>⟨aB rfl,fun s hs=>?_⟩⟩;have n1:l2≠l:=fun z=>by rw[z,Zg] at hl2;cases hl2
 have s1:ZC H (upd H l (.lst (Yl (ns.map V.int) none (some 63)))):=ZC.new hl;have s2:=s1.trans (ZC.new (o:=.lst (Yl (ns.map V.int) none (some 63))) hl2);have n2:l2≠s:=fun z=>by rw[← z,Zg] at hs;cases hs
 refine k s l2 _ (s2.free hs) (s1.free hl2) ⟨ms,0,0,1,0,Zg,by rw[Zc n2,Zg,ec],aA,n2⟩ (s2.trans (ZC.new hs))
inductive YD(vs:aG)(H:Hp)(Q:VK)(z3:XK):Prop
 |mk(s la) (b)(_:vs = [.ref s,.int b])(_:ZK H s la)(_:0 < b)(_:b < 1073741824)(_:∀d H',0<=d->d < b->ZK H' s la->ZI s H H'->Q (.int d) H')
abbrev Gg:Stmt:=top 96
theorem Rm(Zhr:YA K mg "_law_next" Gg)(T:Txt mg):Fn P w K mg base "_law_next" ["_law_src_here","_law_base"] 1 YD:=by
 refine Zhr.fq ["_law_src_here","_law_base","_law_cell","_law_digit"] fun H vs Q E hr h=>?_;obtain⟨s,la,b,rfl,⟨ns,i,big,st,cnt,hs,hla,hi,hne⟩,hb0,hb1,k⟩:=h;refine⟨rfl,_,(Ze (AR (Zr Wb (Zq Z3 Q0 Zf (fun _ _=>rfl)) Zf) (AB Q0 Zf AI)) (Ze (Zm (Zl Vm (Zq Z3 Q0 Zf (fun _ _=>rfl)) Zf (Zp _)) (Ze (Zv 2 Zf) (Ze (Zm (Zl Ua (Zq Z3 Q0 Zf (fun _ _=>rfl)) (Zx Yx T.len Z8 (Za (Zq Z3 Q0 Zf (fun _ _=>rfl)) Zb)) (Zp _)) (Ze (Zv 2 (Zq Z3 (Zq Z3 Q0 Zf (fun _ _=>rfl)) (Zq Z3 Q0 Zf (fun _ _=>rfl)) (fun _ _=>rfl))) (Zd (AR (Zr Wb (Zq Z3 Q0 Zf (fun _ _=>rfl)) Zf) (AB Q0 Zf AI)))) Zo) (Ze (AR (Zr AL (Zr Wb (Zr Wb (Zr Lh (Zq Z3 Q0 Zf (fun _ _=>rfl)) Zf) (Zr AL Q7 Zf)) (Zq Z3 Q0 Zf (fun _ _=>rfl))) Zf) (AB Q0 Zf AI)) (Zd (Zm (Zl As Q7 (Zr cI Zf Zf) (Zp _)) (Zd (AR Q7 (AB Q0 Zf AI))) Zo))))) Zo) (Ze (Zm (Zl BB (Zq Z3 Q0 Zf (fun _ _=>rfl)) Zf (Zp _)) (Ze (Zv 3 (Zr AL (Zq Z3 Q0 Zf (fun _ _=>rfl)) Q6)) (Ze (AR (Zr Fh (Zq Z3 Q0 Zf (fun _ _=>rfl)) Q6) (AB Q0 Zf AI)) (Zd (Zn Q8)))) Zo) (Zd (Zn (Zr AL (Zr Fh (Zr AL (Zr Lh (Zq Z3 Q0 Zf (fun _ _=>rfl)) Zf) Zf) Zf) Q6)))))),?_⟩;have fin:∀(H1:Hp)(i' big st cnt d:Int),0<=d->d < b->ZI s H H1->H1 s=some (.lst [.ref la,.int i',.int big,.int st,.int cnt])->0<=i'->Q (.int d) H1:=fun H1 i' big st cnt d h0 h1 sx hs1 hi1 =>
  k d H1 h0 h1 ⟨ns,i',big,st,cnt,hs1,sx _ _ hne hla,hi1,hne⟩ sx
 walk_at "rd"
 all_goals refine fin _ _ _ _ _ _ (Int.emod_nonneg _ (by lia)) (Int.emod_lt_of_pos _ hb0) ?_ Zg (by lia)
 all_goals repeat (first | exact ZI.refl | refine ZI.trans ?_ ZI.upd)
end
inductive VS(vs:aG)(H:Hp)(Q:VK)(z3:XK):Prop
 |mk(s la) (n)(_:vs = [.ref s,.int n])(_:ZK H s la)(_:0<=n)(_:n<=100)(_:∀x H',(x.length:Int)=n->AN x->ZK H' s la->ZI s H H'->Q (.str x) H')
theorem NH(cl:List Nat):(List.map cs (cl.map fun c=>(⟨#[c]⟩:Str))).flatten=cl:=by
 induction cl with
 | nil=>rfl
 | cons c r ih=>rw[xW,xW,zP,ih];rfl
abbrev Br:Stmt:=top 100
theorem X7:ZL ["_law_src_here","_law_many","_law_letters"] ["_law_src_here","_law_many"] (Zj Br):=fsc
theorem HC:Nm (Zj Br) "_law_letters" .cell:=aA
theorem Os:Nm (Zj Br) "_law_src_here" .cell:=aA
theorem SO(Zhs:YA K mg "_law_word" Br)(T:Txt mg)(Yj:Fn P w K mg base "_law_next" ["_law_src_here","_law_base"] 1 YD):Fn P w K mg base "_law_word" ["_law_src_here","_law_many"] 2 VS:=by
 refine Zhs.fq ["_law_src_here","_law_many","_law_letters"] fun H vs Q E hr h=>?_;obtain⟨s,la,n,rfl,hsrc,hn0,hn1,k⟩:=h
 refine⟨rfl,_,(Ze (OL (i:=2) X7.nd HC Zh) (Zd (Zn (Y6 F.plainAttrs_str F.slot_str_join F.type_str_join CC Zh (Za (Uh (locs:=["_law_k"]) (fr:=[("_law_src_here", 0),("_law_letters", 2)]) ⟨rfl,aA,aA,aA,aA,aA⟩ (.consN Os (.consN HC .nil)) rfl (AU T.range (Za Q6 Zb)) ⟨fun _ _ _ _ _ _=>by
  have cnd:(inN ["_law_k"] [("_law_src_here", 0),("_law_letters", 2)]).Nodup:=aA
  exact⟨(Y4 0 cnd),Vn,(Zq JL (T8 2) (Zs Yj (Za (T8 1) (Za Zf Zb)) (n:=nmC)) (fun _ _=>rfl))⟩⟩) Zb))))),?_⟩
 refine⟨rfl,_,rfl,n,rfl,by lia,by lia,?_⟩;refine Hm (n:=n.toNat) (fun i ys H2=>ZK H2 s la/\ZI s H H2/\∃cl:List Nat,cl.length=i/\ys=cl.map (fun c=>V.str ⟨#[c]⟩)/\∀c∈cl,97<=c/\c<=122) ⟨hsrc,ZI.refl,[],rfl,rfl,(fun _ z=>nomatch z)⟩ (by lia) ?_ ?_ ?_
 ·rintro i ys H2 ⟨_,_,cl,h1,rfl,_⟩;rw[xA];lia
 ·rintro i ys H2 hi ⟨hs2,sx2,cl,h1,rfl,hc⟩ ls hls;obtain⟨a,rfl⟩:=Uv hls;refine⟨⟨[_],rfl,rfl⟩,?_⟩;walk_at "rd";refine⟨s,la,26,rfl,hs2,aA,aA,fun d H3 d0 d1 hs3 sx3=>?_⟩;refine⟨letters,d,_,rfl,rfl,aA,FX d0 d1,hs3,sx2.trans sx3,cl ++ [97+d.toNat],by rw[xD,h1];rfl,by rw[xM];rfl,fun c hc'=>?_⟩;rcases xI.mp hc' with z | z
  ·exact hc c z
  ·have:c=97+d.toNat:=by simpa using z
   lia
 ·rintro ys H2 ⟨hs2,sx2,cl,h1,rfl,hc⟩ l hl;have e:(cl.map fun c=>V.str ⟨#[c]⟩)=(cl.map fun c=>(⟨#[c]⟩:Str)).map V.str:=by rw[List.map_map];rfl
  have sumlen:∀l:List Nat,((l.map fun c=>(⟨#[c]⟩:Str)).map (·.length)).sum=l.length:=by
   intro l
   induction l with
   | nil=>rfl
   | cons c r ih=>rw[xW,xW,List.sum_cons,ih,xF];show 1+r.length=_;lia
  refine⟨_,l,cl.map fun c=>(⟨#[c]⟩:Str),rfl,rfl,ZF.of (by rw[Zg,e]),?_,?_⟩
  ·rw[sumlen,xA];show cl.length+cl.length * 0<=16777216;lia
  ·have ej:cs (Txt.join "" (cl.map fun c=>(⟨#[c]⟩:Str)))=cl:=by rw[SX,NH]
   refine k _ _ ?_ (fun c hc'=>hc c (by rw[ej] at hc';exact hc')) (hs2.keep (ZC.new hl)) (sx2.trans (ZI.new hl));rw[← Z7,ej,h1];lia
theorem ph{α:Type} [DecidableEq α]:∀(L M:List α),L.Nodup->(∀a∈L,a∈M)->L.length<=M.length
 | [],_,_,_=>yO _
 | a::L,M,nd,h=>by
  obtain⟨n1,n2⟩:=yT.mp nd;have ha:=h a xQ;have:=ph L (M.erase a) n2 fun b hb=>(List.mem_erase_of_ne (fun(e:b=a)=>n1 (by rw[← e];exact hb))).mpr (h b (xG _ hb));rw[List.length_erase_of_mem ha] at this;have hp : 0 < M.length:=List.length_pos_of_mem ha;rw[xF];lia
def Vo(stem:Str)(j:Nat):Str:=stem++⟨#[97+j % 26]⟩++⟨#[97+j / 26]⟩
theorem Di(stem:Str)(j:Nat):cs (Vo stem j)=cs stem ++ [97+j % 26,97+j / 26]:=by
 unfold Vo;rw[Vk,Vk];simp[cs]
theorem Mz(h:Vo stem i=Vo stem j):i=j:=by
 have e:cs (Vo stem i)=cs (Vo stem j):=by rw[h]
 rw[Di,Di] at e;have e2:=List.append_cancel_left e;injection e2 with e3 e4
 injection e4 with e5 _
 lia
theorem Ib(stem:Str)(j:Nat):(Vo stem j).length=stem.length+2:=by
 rw[← Z7,Di,xD,Z7];rfl
theorem Pa(h:AN stem)(hj:j < 676):AN (Vo stem j):=by
 intro c hc;rw[Di] at hc;rcases xI.mp hc with z | z
 ·exact h c z
 ·simp at z;lia
theorem OK{names:eS}{stem:Str}(h:∀j,j < names.length->Vo stem j∈names):Vo stem names.length∉names:=by
 intro hm;have nd:((List.range (names.length+1)).map (Vo stem)).Nodup:=by
  rw[List.nodup_iff_pairwise_ne,List.pairwise_map];exact List.Pairwise.imp (fun h e=>h (Mz e)) (List.nodup_iff_pairwise_ne.mp List.nodup_range)
 have:=ph _ names nd fun a ha=>by grind
 rw[xA,List.length_range] at this;lia
theorem C7(x:Str)(names:eS):inV (.str x) (names.map V.str)=decide (x∈names):=by
 unfold inV;rw[List.any_map,zF,List.any_eq_true,zH];constructor
 ·rintro⟨y,hy,e⟩;have:y=x:=by simpa [eqV] using e
  rw[← this];exact hy
 ·intro h;exact⟨x,h,by simp[eqV]⟩
theorem Dr(names:eS):(names.map V.str).all TN=true:=by
 rw[List.all_map,yW];intro x _;rfl
def Z0(x:Str):Prop:=AN x/\1<=x.length/\x.length<=12
section
variable{K:uFg}
inductive YR(K:uFg)(vs:aG)(H:Hp)(Q:VK)(z3:XK):Prop
 |mk(a:eZ) (names:eS) (x:Str)(_:vs = [.ref a,.str x])(_:ZF K H a (names.map V.str))(_:names.length<=600)(_:Z0 x)(_:∀y:Str,Z0 y->y∉names->Q (.str y) H)
abbrev Gi:Stmt:=top 99
theorem dM(Zht:YA K mg "_law_unlike" Gi)(T:Txt mg):Fn P w K mg base "_law_unlike" ["_law_names_here","_law_name"] 1 (YR K):=by
 refine Zht.fq ["_law_names_here","_law_name","_law_letters","_law_stem","_law_tries"] fun H vs Q E hr h=>?_;obtain⟨a,names,x,rfl,hS,hn,⟨hx1,hx2,hx3⟩,k⟩:=h;refine⟨rfl,_,(Ze (Zv 2 Zh) (Ze (Zv 3 (Yq Ul Q6 Yw (Ym Zf))) (Ze (Wz PassesOwn.never rfl (AU T.range (Za (Zr Wb (Zx Yx T.len Z8 (Za Q0 Zb)) Zf) Zb)) (Y7 4) (Ze (Zm (Zl Dp Q6 Q0 rfl) (Zd (Zn Q6)) Zo) (Zd (Zv 1 (Zr We (Zr We Q8 (Zq JL Q7 (Zr AL Q9 Zf) (fun _ _=>rfl))) (Zq JL Q7 (Zr Fh Q9 Zf) (fun _ _=>rfl))))))) (Zd (Zn Q6))))),?_⟩;have hz:(13:Nat)<=sizeLine:=by decide
 refine⟨_,rfl,10,rfl,x,rfl,by lia,?_⟩;have hst:cs (Txt.slice x none (some 10))=(cs x).take 10:=CL x aA;have hstl:(Txt.slice x none (some 10)).length<=10:=by rw[← Z7,hst,xU];lia
 have hsto:AN (Txt.slice x none (some 10)):=fun c hc=>hx1 c (by rw[hst] at hc;exact zO hc);show Vq _ _ _ [some (.ref a),some (.str x),some (.str letters),some (.str (Txt.slice x none (some 10))),none] H;generalize Txt.slice x none (some 10)=stem at hstl hsto;refine⟨_,rfl,a,_,rfl,.inl hS,_,_,rfl,rfl,_,rfl,by lia,by rw[xA];lia,?_⟩;refine Du (names.length+1) (by rw[xA];lia) (fun i σ H'=>H'=H/\∃(cur:Str)(v:Option V),σ = [some (.ref a),some (.str cur),some (.str letters),some (.str stem),v]/\Z0 cur/\(i=0\/cur=Vo stem (i - 1))/\∀j,j+1 < i->Vo stem j∈names)
  ⟨rfl,x,none,rfl,⟨hx1,hx2,hx3⟩,.inl rfl,fun j hj=>by lia⟩ ?_ ?_
 ·rintro i σ H' hi ⟨rfl,cur,v,rfl,hc,hci,hal⟩;refine⟨_,rfl,_,rfl,a,_,rfl,.inl hS,rfl,Dr names,_,rfl,?_⟩;rw[C7];refine Wd (fun hnin=>?_) (fun hin=>?_)
  ·exact⟨_,rfl,k cur hc hnin⟩
  ·have hi':i<=600:=by lia
   refine⟨_,rfl,_,rfl,_,rfl,_,_,rfl,rfl,by show (0:Int) < 26;decide,letters,_,_,rfl,rfl,aA,FX (Int.emod_nonneg _ aA) (Int.emod_lt_of_pos _ aA),stem,_,rfl,rfl,?_,?_⟩
   ·show stem.length+1<=sizeLine;lia
   refine⟨_,rfl,_,rfl,_,_,rfl,rfl,⟨aA,aA⟩,letters,_,_,rfl,rfl,aA,FX (Int.ediv_nonneg (by lia) aA) (by lia),_,_,rfl,rfl,?_,?_⟩
   ·show (stem++_).length+1<=sizeLine;rw[PySem.Str.length_append];show stem.length+1+1<=sizeLine;lia
   have e1:((0:Int)+(i:Nat)) % 26=((i % 26:Nat):Int):=by lia
   have e2:((0:Int)+(i:Nat)) / 26=((i / 26:Nat):Int):=by lia
   refine⟨rfl,Vo stem i,some (.int (0+(i:Nat))),?_,⟨Pa hsto (by lia),by rw[Ib];lia,by rw[Ib];lia⟩,.inr rfl,fun j hj=>?_⟩
   ·show [some (V.ref a),some (V.str _),some (V.str letters),some (V.str stem),some (V.int _)]=_;unfold Vo;rw[e1,e2];rfl
   ·grind
 ·rintro σ H' ⟨rfl,cur,v,rfl,hc,hci,hal⟩;refine⟨_,rfl,k cur hc ?_⟩;rcases hci with z | z
  ·lia
  ·rw[z];exact OK fun j hj=>hal j (by lia)
inductive UD(vs:aG)(H:Hp)(Q:VK)(z3:XK):Prop
 |mk(s la:eZ) (n:Int)(_:vs = [.ref s,.int n])(_:ZK H s la)(_:0<=n)(_:n<=100)(_:∀(l:eZ)(names:eS)(H':Hp),(names.length:Int)=n->names.Nodup->(∀x∈names,Z0 x)->H l=none->H' l=some (.lst (names.map V.str))->ZK H' s la->ZI s H H'->Q (.ref l) H')
abbrev Ii:Stmt:=top 101
theorem OS(Zhu:YA K mg "_law_names" Ii)(T:Txt mg)(Yj:Fn P w K mg base "_law_next" ["_law_src_here","_law_base"] 1 YD)(Zhv:Fn P w K mg base "_law_word" ["_law_src_here","_law_many"] 2 VS)(Z0g:Fn P w K mg base "_law_unlike" ["_law_names_here","_law_name"] 1 (YR K)):Fn P w K mg base "_law_names" ["_law_src_here","_law_many"] 3 UD:=by
 refine Zhu.fq ["_law_src_here","_law_many","_law_style","_law_stem","_law_at","_law_names_here","_law_k","_law_name"] fun H vs Q E hr h=>?_;obtain⟨s,la,n,rfl,hsrc,hn0,hn1,k⟩:=h;refine⟨rfl,_,(Ze (Zv 2 (Zs Yj (Za Q0 (Za Zf Zb)))) (Ze (Zv 3 (Zs Zhv (Za Q0 (Za (Zr Wb Zf (Zs Yj (Za Q0 (Za Zf Zb)))) Zb)))) (Ze (Zv 4 (Zs Yj (Za Q0 (Za (Zx Ue T.len Z8 (Za Q8 Zb)) Zb)))) (Ze (Zv 5 (Yh Zb)) (Ze (Wz PassesOwn.never rfl (AU T.range (Za Q6 Zb)) (Y7 6) (Ze (Zv 7 (Zr We (Zr We (Yq Ul Q8 Yw (Ym Q9)) (Zs Zhv (Za Q0 (Za Zf Zb)))) (Yq Ul Q8 (Ym (Zr Wb Q9 Zf)) Yw))) (Ze (Zm (Zl Yc Q7 Zf (Zp _)) (Zd (Zv 7 (Yq Ul Q8 Yw (Ym (Zr Wb Zf (Zs Yj (Za Q0 (Za (Zx Ue T.len Z8 (Za Q8 Zb)) Zb)))))))) Zo) (Ze (Zm (Zl Yc Q7 Zf (Zp _)) (Zd (Zv 7 (Zs Zhv (Za Q0 (Za (Zr Wb Zf (Zs Yj (Za Q0 (Za Zf Zb)))) Zb))))) Zo) (Zd (Ye (Y6 aD aE aF Ug Qa (Za (Zs Z0g (Za Qa (Za Qc Zb))) Zb)))))))) (Zd (Zn Qa))))))),?_⟩;have hz:(200:Nat)<=sizeLine:=by decide
 refine⟨_,rfl,s,la,3,rfl,hsrc,aA,aA,fun style H1 st0 st1 hs1 sx1=>?_⟩;refine⟨_,rfl,_,rfl,s,la,11,rfl,hs1,aA,aA,fun d1 H2 d10 d11 hs2 sx2=>?_⟩;refine⟨_,_,rfl,rfl,s,la,_,rfl,hs2,by lia,by lia,fun stem H3 hl3 hlow3 hs3 sx3=>?_⟩;refine⟨_,rfl,_,rfl,stem,rfl,by lia,s,la,_,rfl,hs3,by lia,by lia,fun at_ H4 at0 at1 hs4 sx4=>?_⟩;refine⟨aB rfl,fun l hl4=>?_⟩;have sx:ZI s H H4:=((sx1.trans sx2).trans sx3).trans sx4;obtain⟨nls,nlla⟩:=hs4.ne hl4;have hlH:H l=none:=by
  cases e:H l with
  | none=>rfl
  | some o=>exact absurd (sx l o nls e) (by rw[hl4];simp)
 refine⟨_,rfl,n,rfl,by lia,by lia,?_⟩;show TZ _ _ _ _ [some (.ref s),some (.int n),some (.int style),some (.str stem),some (.int at_),some (.ref l),none,none] (upd H4 l (.lst []));have mkn:∀x:Str,AN x->1<=x.length->x.length<=12->Z0 x:=fun x a b c=>⟨a,b,c⟩;refine Du n.toNat rfl (fun i σ H'=>∃(names:eS)(v1 v2:Option V),σ = [some (.ref s),some (.int n),some (.int style),some (.str stem),some (.int at_),some (.ref l),v1,v2]/\names.length=i/\names.Nodup/\(∀x∈names,Z0 x)/\H' l=some (.lst (names.map V.str))/\ZK H' s la/\ZI s H H')
  ⟨[],none,none,rfl,rfl,List.nodup_nil,(fun _ z=>nomatch z),Zg,hs4.keep (ZC.new hl4),sx.trans (ZI.new hl4)⟩ ?_ ?_
 ·rintro i σ H5 hi ⟨names,v1,v2,rfl,hlen,hnd,hall,hl5,hs5,sx5⟩;have e1:cs (Txt.slice stem none (some at_))=(cs stem).take at_.toNat:=CL stem at0;have e2:cs (Txt.slice stem (some (at_+1)) none)=(cs stem).drop (at_+1).toNat:=L3 stem (by lia);have l1:(Txt.slice stem none (some at_)).length<=11:=by rw[← Z7,e1,xU,Z7];lia
  have l2:(Txt.slice stem (some (at_+1)) none).length+(at_+1).toNat=stem.length:=by rw[← Z7,e2,zC,Z7];lia
  have l1':(Txt.slice stem none (some at_)).length=at_.toNat:=by rw[← Z7,e1,xU,Z7];lia
  refine⟨_,rfl,_,rfl,at_,rfl,stem,rfl,by lia,_,rfl,s,la,1,rfl,hs5,aA,aA,fun x1 H6 hx1 hlow1 hs6 sx6=>?_⟩;have hl6:H6 l=some (.lst (names.map V.str)):=sx6 l _ nls hl5;refine⟨_,_,rfl,rfl,by lia,?_⟩;refine⟨_,rfl,_,rfl,_,_,rfl,rfl,_,rfl,stem,rfl,by lia,?_⟩;have l3:(Txt.slice stem none (some at_)++x1).length=at_.toNat+1:=by rw[PySem.Str.length_append,l1'];lia
  refine⟨_,_,rfl,rfl,by rw[l3];lia,?_⟩;have hname:Z0 (Txt.slice stem none (some at_)++x1++Txt.slice stem (some (at_+1)) none):=by
   refine mkn _ (fun c hc=>?_) ?_ ?_
   ·rw[Vk,Vk,e1,e2] at hc;rcases xI.mp hc with hc | hc
    ·rcases xI.mp hc with hc | hc
     ·exact hlow3 c (zO hc)
     ·exact hlow1 c hc
    ·exact hlow3 c (List.mem_of_mem_drop hc)
   ·rw[PySem.Str.length_append,l3];lia
   ·rw[PySem.Str.length_append,l3];lia
  generalize Txt.slice stem none (some at_)++x1++Txt.slice stem (some (at_+1)) none=nm0 at hname;show Vq _ _ _ [some (.ref s),some (.int n),some (.int style),some (.str stem),some (.int at_),some (.ref l),some (.int (0+(i:Nat))),some (.str nm0)] H6;have app:∀(D:ZW),(∀ σ H',(∃(names:eS)(v1 v2:Option V),σ = [some (.ref s),some (.int n),some (.int style),some (.str stem),some (.int at_),some (.ref l),v1,v2]/\names.length=i+1/\names.Nodup/\(∀x∈names,Z0 x)/\H' l=some (.lst (names.map V.str))/\ZK H' s la/\ZI s H H')->D.nx σ H')->
    ∀(x:Str)(H6:Hp),Z0 x->H6 l=some (.lst (names.map V.str))->ZK H6 s la->ZI s H H6 ->
    DF (DD K "list" WR (YC 5) (Vs (Jl (YR K) (Vs (YC 5) (Vs (YC 7) Ud))) Ud)) D
     [some (.ref s),some (.int n),some (.int style),some (.str stem),some (.int at_),some (.ref l),some (.int (0+(i:Nat))),some (.str x)] H6:=by
   intro D hD x H6 hx hl6 hs6 sx6;refine⟨_,rfl,.inl ⟨rfl,_,ZF.of hl6⟩,_,rfl,_,rfl,l,names,x,rfl,ZF.of hl6,by lia,hx,fun y hy hny=>?_⟩;refine⟨l,_,_,rfl,rfl,hl6,by rw[xA];lia,hD _ _ ⟨names ++ [y],_,_,rfl,by rw[xD,hlen];rfl,GI hnd hny,fun z hz=>?_,?_,?_,?_⟩⟩
   ·grind
   ·rw[Zg,xM];rfl
   ·exact hs6.keepX ZI.upd nls nlla
   ·intro b o hb e;have:b≠l:=fun z=>by rw[z,hlH] at e;cases e
    rw[Zc this];exact sx6 b o hb e
  have step2:∀(D:ZW),(∀ σ H',(∃(names:eS)(v1 v2:Option V),σ = [some (.ref s),some (.int n),some (.int style),some (.str stem),some (.int at_),some (.ref l),v1,v2]/\names.length=i+1/\names.Nodup/\(∀x∈names,Z0 x)/\H' l=some (.lst (names.map V.str))/\ZK H' s la/\ZI s H H')->D.nx σ H')->
    ∀(x:Str)(H6:Hp),Z0 x->H6 l=some (.lst (names.map V.str))->ZK H6 s la->ZI s H H6 ->
    Vq (Ct (By (Jd Dj (YC 2) (tC (.int 2)))) (Us (Jl VS (Vs (YC 0) (Vs (Jd (Jf fun i j=>.int (i+j)) (tC (.int 1)) (Jl YD (Vs (YC 0) (Vs (tC (.int 12)) Ud)))) Ud))) (Y2 7)) Zw)
     (DF (DD K "list" WR (YC 5) (Vs (Jl (YR K) (Vs (YC 5) (Vs (YC 7) Ud))) Ud))) D
     [some (.ref s),some (.int n),some (.int style),some (.str stem),some (.int at_),some (.ref l),some (.int (0+(i:Nat))),some (.str x)] H6:=by
   intro D hD x H6 hx hl6 hs6 sx6;refine⟨_,rfl,rfl,_,rfl,Zu (fun _=>?_) (fun _=>?_)⟩
   ·refine⟨_,rfl,_,rfl,s,la,12,rfl,hs6,aA,aA,fun d H7 d0 d1 hs7 sx7=>?_⟩;refine⟨_,_,rfl,rfl,s,la,_,rfl,hs7,by lia,by lia,fun y H8 hy1 hy2 hs8 sx8=>?_⟩;exact app D hD y H8 ⟨hy2,by lia,by lia⟩ (sx8 l _ nls (sx7 l _ nls hl6)) hs8 ((sx6.trans sx7).trans sx8)
   ·exact app D hD x H6 hx hl6 hs6 sx6
  refine⟨_,rfl,rfl,_,rfl,Zu (fun _=>?_) (fun _=>?_)⟩
  ·refine⟨_,rfl,_,rfl,_,rfl,stem,rfl,by lia,s,la,_,rfl,hs6,by lia,by lia,fun d H7 d0 d1 hs7 sx7=>?_⟩;refine⟨_,_,rfl,rfl,_,rfl,stem,rfl,by lia,?_⟩;have e3:cs (Txt.slice stem none (some (1+d)))=(cs stem).take (1+d).toNat:=CL stem (by lia);refine step2 _ (fun σ H' h=>h) _ H7 ⟨fun c hc=>hlow3 c (by rw[e3] at hc;exact zO hc),?_,?_⟩ (sx7 l _ nls hl6) hs7 ((sx5.trans sx6).trans sx7)
   ·rw[← Z7,e3,xU,Z7];lia
   ·rw[← Z7,e3,xU,Z7];lia
  ·exact step2 _ (fun σ H' h=>h) nm0 H6 hname hl6 hs6 (sx5.trans sx6)
 ·rintro σ H5 ⟨names,v1,v2,rfl,hlen,hnd,hall,hl5,hs5,sx5⟩;exact⟨_,rfl,k l names H5 (by lia) hnd hall hlH hl5 hs5 sx5⟩
end
def okc(c:Nat):Bool:=decide (97<=c) && decide (c<=122)
def Yt(x:Str):Bool:=(decide (1<=x.length) && decide (x.length<=12)) && (cs x).all okc
theorem Da(h:Z0 x):Yt x=true:=by
 obtain⟨h1,h2,h3⟩:=h;unfold Yt;rw[xZ h2,xZ h3,Bool.true_and,Bool.true_and,yW];intro c hc;obtain⟨a,b⟩:=h1 c hc;unfold okc;rw[xZ a,xZ b];rfl
inductive WE(vs:aG)(H:Hp)(Q:VK)(z3:XK):Prop
 |mk(x)(_:vs = [.str x])(_:x.length<=100000)(_:∀H',ZC H H'->Q (.bl (Yt x)) H')
theorem Uc(hi:i < x.length):(cs x)[i]? = some (x.cps.getD i 0):=by
 unfold cs;have:i < x.cps.size:=hi;rw[Array.getD_eq_getD_getElem?,Array.getElem?_eq_getElem this,wE,Array.getElem?_eq_getElem this];rfl
theorem leA(c:Nat):(!decide ((⟨#[c]⟩:Str).cps.toList < ("a" : Str).cps.toList))=decide (97<=c):=by
 have e:("a" : Str).cps.toList = [97]:=aA
 rw[e];show (!decide (([c]:List Nat) < [97]))=_;rw[zF,zY,decide_eq_false_iff_not,zH,Do];lia
theorem leZ(c:Nat):(!decide (("z" : Str).cps.toList < (⟨#[c]⟩:Str).cps.toList))=decide (c<=122):=by
 have e:("z" : Str).cps.toList = [122]:=aA
 rw[e];show (!decide (([122]:List Nat) < [c]))=_;rw[zF,zY,decide_eq_false_iff_not,zH,Do];lia
theorem CB{α β:Type}{l:List α}{i:Nat}{a : α}(f : α->β)(h:l[i]? = some a):(l.take (i+1)).map f=(l.take i).map f ++ [f a]:=by
 rw[yD,h,xM];rfl
abbrev Iv:Stmt:=top 42
theorem NA(Zhw:YA K mg "is_name" Iv)(T:Txt mg)(hL:∃t,mg "LONGEST_NAME" = some (.int 12 t)):Fn P w K mg base "is_name" ["text"] 1 WE:=by
 obtain⟨tL,c_LONGEST_NAME⟩:=hL;have r_LONGEST_NAME:ZG (.int 12) (.int 12 tL):=⟨tL,rfl⟩;refine Zhw.fq ["text"] fun H vs Q E hr h=>?_;obtain⟨x,rfl,hx,k⟩:=h
 refine⟨rfl,_,(Zd (Zn (Az (FV Vm Vm Zf (Zx Ue T.len Z8 (Za Q0 Zb)) (Yv c_LONGEST_NAME r_LONGEST_NAME)) (JI (Zx (Ga (by rfl)) T.all HV (Za (Uh (locs:=["sign"]) (fr:=[]) ⟨rfl,aA,aA,aA,aA,aA⟩ .nil rfl (AC Q0) ⟨fun _ _ _ _ _ _=>by
  have cnd:(inN ["sign"] []).Nodup:=aA
  exact⟨(Y4 0 cnd),Vn,(FV J3 J3 Zh (Y3 0) Zh)⟩⟩) Zb)))))),?_⟩
 have hz:(100000:Nat)<=sizeLine:=by decide
 refine⟨_,rfl,x,rfl,by lia,_,_,rfl,rfl,_,rfl,Zu (fun h1=>?_) (fun h1=>?_)⟩
 ·refine⟨_,_,rfl,rfl,_,rfl,Zu (fun h2=>?_) (fun h2=>?_)⟩
  ·refine⟨_,rfl,x,rfl,?_⟩;refine GD (fun i ys H'=>H'=H/\ys=((cs x).take i).map fun c=>V.bl (okc c)) ⟨rfl,rfl⟩ (by lia) ?_ ?_ ?_
   ·rintro i ys H' ⟨_,rfl⟩;rw[xA,xU];lia
   ·rintro i ys H' hi ⟨rfl,rfl⟩ ls hls;obtain⟨a,rfl⟩:=Uv hls;refine⟨⟨[_],rfl,rfl⟩,Z2 ?_⟩;refine⟨_,rfl,_,_,rfl,rfl,_,rfl,?_⟩;rw[leA];refine Zu (fun h3=>?_) (fun h3=>?_)
    ·refine⟨_,_,rfl,rfl,rfl,?_⟩;dsimp only;rw[leZ,CB _ (Uc hi)];unfold okc;rw[xZ h3,Bool.true_and]
    ·refine⟨rfl,?_⟩;rw[CB _ (Uc hi)];unfold okc;rw[yC h3,yE]
   ·rintro ys H' ⟨rfl,rfl⟩ l hl;refine⟨l,(cs x).map okc,rfl,ZF.of (by rw[Zg,← Z7,yI,List.map_map];rfl),?_⟩;have e:((cs x).map okc).all id=Yt x:=by
     unfold Yt;rw[List.all_map,xZ (show 1<=x.length by lia),xZ (show x.length<=12 by lia)];rfl
    rw[e];exact k _ (ZC.new hl)
  ·refine(?_:Q (.bl false) H);have e:Yt x=false:=by
    unfold Yt;rw[yC (show ¬x.length<=12 by lia),zB,yE]
   rw[← e];exact k H (ZC.refl _)
 ·refine⟨_,rfl,Zy ?_⟩;have e:Yt x=false:=by
   unfold Yt;rw[yC (show ¬ 1<=x.length by lia),yE,yE]
  rw[← e];exact k H (ZC.refl _)
theorem Lf(h:Yt x=true):Z0 x:=by
 unfold Yt at h;simp only[yV,zH,yW,okc] at h;exact⟨h.2,h.1.1,h.1.2⟩
section
variable{w:fB}{K:uFg}
inductive ZO where
 | come (n:Str) (d w:Int) | rise (n:Str) (d w:Int) | die (n:Str) (d:Int) (h:Str)
def Zz:List ZO->Str->Option Int
 | [],_=>none
 | .come m d _::r,n=>if m=n then some d else Zz r n
 | .rise _ _ _::r,n=>Zz r n
 | .die _ _ _::r,n=>Zz r n
def Y5:List ZO->Str->Option (Int×Str)
 | [],_=>none
 | .die m d h::r,n=>if m=n then some (d,h) else Y5 r n
 | .come _ _ _::r,n=>Y5 r n
 | .rise _ _ _::r,n=>Y5 r n
theorem FY(a b:List ZO)(n:Str):Zz (a++b) n=(Zz a n).or (Zz b n):=by
 induction a with
 | nil=>rfl
 | cons x r ih =>
  cases x with
  | come m d w =>
   rw[xX,Zz,Zz]
   by_cases e:m=n
   ·rw[if_pos e,if_pos e];rfl
   ·rw[if_neg e,if_neg e,ih]
  | rise m d w=>rw[xX,Zz,Zz,ih]
  | die m d h=>rw[xX,Zz,Zz,ih]
theorem XA(a b:List ZO)(n:Str):Y5 (a++b) n=(Y5 a n).or (Y5 b n):=by
 induction a with
 | nil=>rfl
 | cons x r ih =>
  cases x with
  | come m d w=>rw[xX,Y5,Y5,ih]
  | rise m d w=>rw[xX,Y5,Y5,ih]
  | die m d h =>
   rw[xX,Y5,Y5]
   by_cases e:m=n
   ·rw[if_pos e,if_pos e];rfl
   ·rw[if_neg e,if_neg e,ih]
theorem Oe{ds:List ZO}{n:Str}{d w:Int}(h:Zz ds n=none)(x:Str):Zz (ds ++ [.come n d w]) x=if x=n then some d else Zz ds x:=by
 rw[FY,Zz,Zz]
 by_cases e:x=n
 ·subst e;rw[if_pos rfl,if_pos rfl,h];rfl
 ·rw[if_neg (Ne.symm e),if_neg e];cases Zz ds x<;>rfl
theorem Ls{ds:List ZO}{n:Str}{d w:Int}(x:Str):Y5 (ds ++ [.come n d w]) x=Y5 ds x:=by
 rw[XA,Y5,Y5];cases Y5 ds x<;>rfl
def AW(ds:List ZO)(n:Str)(day:Int):Bool:=match Y5 ds n with
 | some x=>decide (x.1<=day)
 | none=>false
def Jm(dc dw dd dh:eZ):List (Str×V):=Zk "heirs" (.ref dh) (Zk "deaths" (.ref dd) (Zk "weights" (.ref dw) (Zk "comings" (.ref dc) [])))
theorem Ai(dc dw dd dh:eZ):(Jm dc dw dd dh).lookup ("comings" : Str)=some (.ref dc):=by
 unfold Jm;rw[Yg,if_neg aA,Yg,if_neg aA,Yg,if_neg aA,Yg,if_pos rfl]
theorem Hl(dc dw dd dh:eZ):(Jm dc dw dd dh).lookup ("weights" : Str)=some (.ref dw):=by
 unfold Jm;rw[Yg,if_neg aA,Yg,if_neg aA,Yg,if_pos rfl]
theorem HP(dc dw dd dh:eZ):(Jm dc dw dd dh).lookup ("deaths" : Str)=some (.ref dd):=by
 unfold Jm;rw[Yg,if_neg aA,Yg,if_pos rfl]
def DH(m:Str):Prop:=¬m = "heirs" /\ ¬m = "deaths" /\ ¬m = "weights" /\ ¬m = "comings"
instance (m:Str):Decidable (DH m):=by unfold DH;exact inferInstance
theorem U9(dc dw dd dh:eZ)(h:DH m:=by decide +kernel):(Jm dc dw dd dh).lookup m=none:=by
 obtain⟨a,b,c,d⟩:=h;unfold Jm;rw[Yg,if_neg a,Yg,if_neg b,Yg,if_neg c,Yg,if_neg d];rfl
structure FL where
 p:eZ
 dc:eZ
 dw:eZ
 dd:eZ
 dh:eZ
structure ZX (C:eZ) (H:Hp) (L:FL) (ds:List ZO):Prop where
 ob:∃dx,H L.p=some (.ins C dx (Jm L.dc L.dw L.dd L.dh))
 c:∃kvs:List (ZQ×V),H L.dc=some (.dK kvs)/\kvs.length<=ds.length/\∀n:Str,Z1 kvs (.inr n)=(Zz ds n).map V.int
 w:∃kvs:List (ZQ×V),H L.dw=some (.dK kvs)/\kvs.length<=ds.length
 d:∃kvs:List (ZQ×V),H L.dd=some (.dK kvs)/\kvs.length<=ds.length/\∀n:Str,Z1 kvs (.inr n)=(Y5 ds n).map fun x=>V.int x.1
 h:∃kvs:List (ZQ×V),H L.dh=some (.dK kvs)/\kvs.length<=ds.length/\∀n:Str,Z1 kvs (.inr n)=(Y5 ds n).map fun x=>V.str x.2
 a1:L.dc≠L.dw
 a2:L.dc≠L.dd
 a3:L.dc≠L.dh
 a4:L.dw≠L.dd
 a5:L.dw≠L.dh
 a6:L.dd≠L.dh
def Fe(H H':Hp):Prop:=∀b o,(∀xs,o ≠ .lst xs)->H b=some o->H' b=some o
theorem ZC.n(h:ZC H H'):Fe H H':=fun b o _ e=>h b o e
theorem ZX.keep(h:ZX C H L ds)(k:Fe H H'):ZX C H' L ds:=by
 obtain⟨⟨dx,ob⟩,⟨k1,c1,c2⟩,⟨k2,w1,w2⟩,⟨k3,d1,d2⟩,⟨k4,h1,h2⟩,a1,a2,a3,a4,a5,a6⟩:=h;exact⟨⟨dx,k _ _ (fun _ z=>nomatch z) ob⟩,⟨k1,k _ _ (fun _ z=>nomatch z) c1,c2⟩,⟨k2,k _ _ (fun _ z=>nomatch z) w1,w2⟩,⟨k3,k _ _ (fun _ z=>nomatch z) d1,d2⟩,⟨k4,k _ _ (fun _ z=>nomatch z) h1,h2⟩,a1,a2,a3,a4,a5,a6⟩
def WB(H H':Hp):Prop:=(∀b xs,H b=some (.lst xs)->H' b=some (.lst xs))/\∀b xs,H b=some (.tup xs)->H' b=some (.tup xs)
theorem WB.updD(h:H l=some (.dK kvs)):WB H (upd H l (.dK kvs')) :=
 ⟨fun b xs e=>by rw[Zc (fun z=>by rw[z,h] at e;cases e)];exact e,fun b xs e=>by rw[Zc (fun z=>by rw[z,h] at e;cases e)];exact e⟩
structure UY (K:uFg) (C:eZ):Prop where
 cl:VN K C
 nc:ZR K C "comings"
 nw:ZR K C "weights"
 nd:ZR K C "deaths"
 nh:ZR K C "heirs"
variable{C:eZ}
inductive VB(vs:aG)(H:Hp)(Q:VK)(z3:XK):Prop
 |mk(d)(_:vs = [.int d])(_:0<=d)(_:d<=9999)(_:Q .non H)
abbrev K5:Stmt:=top 36
theorem Ni(Zhy:YA K mg "check_day" K5)(C0:∃t,mg "LAST_DAY" = some (.int 9999 t)):Fn P w K mg base "check_day" ["day"] 1 VB:=by
 obtain⟨t0,c_LAST_DAY⟩:=C0;have r_LAST_DAY:ZG (.int 9999) (.int 9999 t0):=⟨t0,rfl⟩;refine Zhy.fq ["day"] fun H vs Q E hr h=>?_;obtain⟨d,rfl,h0,h1,k⟩:=h;refine⟨rfl,_,(Zd (Zm (Vr (Bb Vm Vm Zf Q0 (Yv c_LAST_DAY r_LAST_DAY))) (Zd Vd) Zo)),?_⟩;refine⟨_,rfl,_,_,rfl,rfl,_,rfl,Zu (fun _=>?_) (fun z=>absurd h0 z)⟩;refine⟨_,_,rfl,rfl,_,rfl,Wd (fun z=>absurd h1 z) (fun _=>k)⟩
inductive B8(vs:aG)(H:Hp)(Q:VK)(z3:XK):Prop
 |mk(d)(_:vs = [.int d])(_:1<=d)(_:d<=1000)(_:Q .non H)
abbrev Gy:Stmt:=top 37
theorem XG(Zhz:YA K mg "check_weight" Gy)(C0:∃t,mg "MOST_WEIGHT" = some (.int 1000 t)):Fn P w K mg base "check_weight" ["weight"] 1 B8:=by
 obtain⟨t0,c_MOST_WEIGHT⟩:=C0;have r_MOST_WEIGHT:ZG (.int 1000) (.int 1000 t0):=⟨t0,rfl⟩;refine Zhz.fq ["weight"] fun H vs Q E hr h=>?_;obtain⟨d,rfl,h0,h1,k⟩:=h;refine⟨rfl,_,(Zd (Zm (Vr (Bb Vm Vm Zf Q0 (Yv c_MOST_WEIGHT r_MOST_WEIGHT))) (Zd Vd) Zo)),?_⟩;refine⟨_,rfl,_,_,rfl,rfl,_,rfl,Zu (fun _=>?_) (fun z=>absurd h0 z)⟩;refine⟨_,_,rfl,rfl,_,rfl,Wd (fun z=>absurd h1 z) (fun _=>k)⟩
inductive UI(C:eZ)(vs:aG)(H:Hp)(Q:VK)(z3:XK):Prop
 |mk(L) (ds) (n) (d)(_:vs = [.ref L.p,.str n])(_:ZX C H L ds)(_:Zz ds n=some d)(_:Q .non H)
abbrev EV:Stmt:=Yr (top 46) 17
theorem OB(Zcv:ZS K C "check_known" "Folk.check_known" EV)(Tc:UY K C):Mt P w K mg base C "check_known" ["self","name"] 1 (UI C):=by
 refine Zcv.mq ["self","name"] fun H vs Q E hr h=>?_;obtain⟨L,ds,n,d,rfl,F,hn,k⟩:=h;refine⟨rfl,_,(Zd (Zm (Zl (EO hr) Q6 (Z5 Q0) rfl) (Zd Vd) Zo)),?_⟩;obtain⟨dx,ob⟩:=F.ob;obtain⟨kvs,c1,c2,c3⟩:=F.c;refine⟨_,rfl,_,rfl,L.p,C,dx,_,_,rfl,ob,Tc.cl,Tc.nc,Ai _ _ _ _,L.dc,_,rfl,ZY.k (k:=Sum.inr n) c1,_,rfl,?_⟩;rw[c3,hn];exact Zy k
inductive UE(C:eZ)(vs:aG)(H:Hp)(Q:VK)(z3:XK):Prop
 |mk(L) (ds) (n) (d day)(_:vs = [.ref L.p,.str n,.int day])(_:ZX C H L ds)(_:Zz ds n=some d)(_:d<=day)(_:Q .non H)
abbrev Eg:Stmt:=Yr (top 46) 18
theorem SU(Zcw:ZS K C "check_there" "Folk.check_there" Eg)(Tc:UY K C):Mt P w K mg base C "check_there" ["self","name","day"] 1 (UE C):=by
 refine Zcw.mq ["self","name","day"] fun H vs Q E hr h=>?_;obtain⟨L,ds,n,d,day,rfl,F,hn,hd,k⟩:=h;refine⟨rfl,_,(Zd (Zm (Zl Ua Q7 (BA hr (Z5 Q0) Q6 (fun _ _=>rfl)) (Zp _)) (Zd Vd) Zo)),?_⟩;obtain⟨dx,ob⟩:=F.ob;obtain⟨kvs,c1,c2,c3⟩:=F.c;have g:=ZY.k (k:=Sum.inr n) c1;rw[c3,hn] at g;refine⟨_,rfl,_,rfl,L.p,C,dx,_,_,rfl,ob,Tc.cl,Tc.nc,Ai _ _ _ _,_,rfl,L.dc,.int d,rfl,g,?_⟩;exact⟨_,_,rfl,rfl,_,rfl,Zu (fun z=>absurd z (by lia)) (fun _=>k)⟩
inductive VJ(C:eZ)(vs:aG)(H:Hp)(Q:VK)(z3:XK):Prop
 |mk(L) (ds) (n) (day)(_:vs = [.ref L.p,.str n,.int day])(_:ZX C H L ds)(_:Q (.bl (AW ds n day)) H)
abbrev Li:Stmt:=Yr (top 46) 11
theorem Mh(Zh2:ZS K C "died_by" "Folk.died_by" Li)(Tc:UY K C):Mt P w K mg base C "died_by" ["self","name","day"] 1 (VJ C):=by
 refine Zh2.mq ["self","name","day"] fun H vs Q E hr h=>?_;obtain⟨L,ds,n,day,rfl,F,k⟩:=h;refine⟨rfl,_,(Zd (Zn (Az (Uk (EW hr) Q6 (Z5 Q0) rfl) (JI (Uk Vm (BA hr (Z5 Q0) Q6 (fun _ _=>rfl)) Q7 (Zp _)))))),?_⟩;obtain⟨dx,ob⟩:=F.ob;obtain⟨kvs,c1,c2,c3⟩:=F.d;have g:=ZY.k (k:=Sum.inr n) c1;rw[c3] at g;unfold AW at k;refine⟨_,rfl,_,rfl,L.p,C,dx,_,_,rfl,ob,Tc.cl,Tc.nd,HP _ _ _ _,L.dd,_,rfl,g,_,rfl,?_⟩;cases e:Y5 ds n with
 | none =>
  rw[e] at k;exact Zy k
 | some x =>
  rw[e] at k g;refine Z2 ?_;exact⟨_,rfl,L.p,C,dx,_,_,rfl,ob,Tc.cl,Tc.nd,HP _ _ _ _,_,rfl,L.dd,.int x.1,rfl,g,_,rfl,_,_,rfl,rfl,k⟩
end
section
variable{C:eZ}
inductive Th(C:eZ)(vs:aG)(H:Hp)(Q:VK)(z3:XK):Prop
 |mk(p dx)(_:vs = [.ref p])(_:H p=some (.ins C dx []))(_:∀L H',L.p=p->ZX C H' L []->(∀b o,H b=some o->b≠p->H' b=some o)->(∀b,b=L.dc\/b=L.dw\/b=L.dd\/b=L.dh->H b=none)->Q .non H')
abbrev GW:Stmt:=Yr (top 46) 0
theorem Md(Zh3:ZS K C "__init__" "Folk.__init__" GW)(Tc:UY K C):Mt P w K mg base C "__init__" ["self"] 1 (Th C):=by
 refine Zh3.mq ["self"] fun H vs Q E hr h=>?_;obtain⟨p,dx,rfl,hp,k⟩:=h;refine⟨rfl,_,(Ze (Wj Q0 AZ) (Ze (Wj Q0 AZ) (Ze (Wj Q0 AZ) (Zd (Wj Q0 AZ))))),?_⟩;intro dc hdc;have p1:p≠dc:=Zi hp hdc;refine⟨_,rfl,p,C,dx,[],rfl,(by rw[Zc p1];exact hp),Tc.cl,Tc.nc,(by show 0 < 1000;decide),?_⟩;have g1:(upd (upd H dc (.dK [])) p (.ins C dx (Zk "comings" (.ref dc) []))) p=some (.ins C dx (Zk "comings" (.ref dc) [])):=Zg;have c1:(upd (upd H dc (.dK [])) p (.ins C dx (Zk "comings" (.ref dc) []))) dc=some (.dK []):=by rw[Zc p1.symm,Zg]
 have s1:∀b o,H b=some o->b≠p->(upd (upd H dc (.dK [])) p (.ins C dx (Zk "comings" (.ref dc) []))) b=some o:=fun b o e n=>by rw[Zc n,Zc (Zi e hdc)];exact e
 generalize (upd (upd H dc (.dK [])) p (.ins C dx (Zk "comings" (.ref dc) [])))=H1 at g1 c1 s1 ⊢;intro dw hdw;have p2:p≠dw:=Zi g1 hdw;have q1:dc≠dw:=Zi c1 hdw;refine⟨_,rfl,p,C,dx,_,rfl,(by rw[Zc p2];exact g1),Tc.cl,Tc.nw,(by show 1 < 1000;decide),?_⟩;have g2:(upd (upd H1 dw (.dK [])) p (.ins C dx (Zk "weights" (.ref dw) (Zk "comings" (.ref dc) [])))) p=some (.ins C dx (Zk "weights" (.ref dw) (Zk "comings" (.ref dc) []))):=Zg;have c2:(upd (upd H1 dw (.dK [])) p (.ins C dx (Zk "weights" (.ref dw) (Zk "comings" (.ref dc) [])))) dc=some (.dK []):=by rw[Zc p1.symm,Zc q1];exact c1
 have w2:(upd (upd H1 dw (.dK [])) p (.ins C dx (Zk "weights" (.ref dw) (Zk "comings" (.ref dc) [])))) dw=some (.dK []):=by rw[Zc p2.symm,Zg]
 have s2:∀b o,H b=some o->b≠p->(upd (upd H1 dw (.dK [])) p (.ins C dx (Zk "weights" (.ref dw) (Zk "comings" (.ref dc) [])))) b=some o:=fun b o e n=>by rw[Zc n,Zc (Zi (s1 b o e n) hdw)];exact s1 b o e n
 generalize (upd (upd H1 dw (.dK [])) p (.ins C dx (Zk "weights" (.ref dw) (Zk "comings" (.ref dc) []))))=H2 at g2 c2 w2 s2 ⊢;intro dd hdd;have p3:p≠dd:=Zi g2 hdd;have q2:dc≠dd:=Zi c2 hdd;have q3:dw≠dd:=Zi w2 hdd;have z1:(Zk "comings" (V.ref dc) []).length<=0+1:=JV "comings" (V.ref dc) [];have z2:=JV "weights" (V.ref dw) (Zk "comings" (V.ref dc) []);have z3:=JV "deaths" (V.ref dd) (Zk "weights" (V.ref dw) (Zk "comings" (V.ref dc) []));refine⟨_,rfl,p,C,dx,_,rfl,(by rw[Zc p3];exact g2),Tc.cl,Tc.nd,(by lia),?_⟩;have g3:(upd (upd H2 dd (.dK [])) p (.ins C dx (Zk "deaths" (.ref dd) (Zk "weights" (.ref dw) (Zk "comings" (.ref dc) []))))) p=some (.ins C dx (Zk "deaths" (.ref dd) (Zk "weights" (.ref dw) (Zk "comings" (.ref dc) [])))):=Zg;have c3:(upd (upd H2 dd (.dK [])) p (.ins C dx (Zk "deaths" (.ref dd) (Zk "weights" (.ref dw) (Zk "comings" (.ref dc) []))))) dc=some (.dK []):=by rw[Zc p1.symm,Zc q2];exact c2
 have w3:(upd (upd H2 dd (.dK [])) p (.ins C dx (Zk "deaths" (.ref dd) (Zk "weights" (.ref dw) (Zk "comings" (.ref dc) []))))) dw=some (.dK []):=by rw[Zc p2.symm,Zc q3];exact w2
 have d3:(upd (upd H2 dd (.dK [])) p (.ins C dx (Zk "deaths" (.ref dd) (Zk "weights" (.ref dw) (Zk "comings" (.ref dc) []))))) dd=some (.dK []):=by rw[Zc p3.symm,Zg]
 have s3:∀b o,H b=some o->b≠p->(upd (upd H2 dd (.dK [])) p (.ins C dx (Zk "deaths" (.ref dd) (Zk "weights" (.ref dw) (Zk "comings" (.ref dc) []))))) b=some o:=fun b o e n=>by rw[Zc n,Zc (Zi (s2 b o e n) hdd)];exact s2 b o e n
 generalize (upd (upd H2 dd (.dK [])) p (.ins C dx (Zk "deaths" (.ref dd) (Zk "weights" (.ref dw) (Zk "comings" (.ref dc) [])))))=H3 at g3 c3 w3 d3 s3 ⊢;intro dh hdh;have p4:p≠dh:=Zi g3 hdh;have q4:dc≠dh:=Zi c3 hdh;have q5:dw≠dh:=Zi w3 hdh;have q6:dd≠dh:=Zi d3 hdh;refine⟨_,rfl,p,C,dx,_,rfl,(by rw[Zc p4];exact g3),Tc.cl,Tc.nh,(by lia),?_⟩;refine k ⟨p,dc,dw,dd,dh⟩ _ rfl ⟨⟨dx,Zg⟩,⟨[],?_,xH _,fun n=>rfl⟩,⟨[],?_,xH _⟩,⟨[],?_,xH _,fun n=>rfl⟩,⟨[],?_,xH _,fun n=>rfl⟩,q1,q2,q4,q3,q5,q6⟩ (fun b o e n=>?_) fun b hb=>?_
 ·show (upd (upd H3 dh _) p _) dc=_;rw[Zc p1.symm,Zc q4];exact c3
 ·show (upd (upd H3 dh _) p _) dw=_;rw[Zc p2.symm,Zc q5];exact w3
 ·show (upd (upd H3 dh _) p _) dd=_;rw[Zc p3.symm,Zc q6];exact d3
 ·show (upd (upd H3 dh _) p _) dh=_;rw[Zc p4.symm,Zg]
 ·rw[Zc n,Zc (Zi (s3 b o e n) hdh)];exact s3 b o e n
 ·cases eb:H b with
  | none=>rfl
  | some o =>
   rcases hb with z | z | z | z<;>subst z
   ·rw[hdc] at eb;cases eb
   ·have:=s1 _ _ eb p2.symm;rw[hdw] at this;cases this
   ·have:=s2 _ _ eb p3.symm;rw[hdd] at this;cases this
   ·have:=s3 _ _ eb p4.symm;rw[hdh] at this;cases this
inductive YW(C:eZ)(vs:aG)(H:Hp)(Q:VK)(z3:XK):Prop
 |mk(L) (ds) (n) (day wt)(_:vs = [.ref L.p,.str n,.int day,.int wt])(_:ZX C H L ds)(_:ds.length < 40)(_:Z0 n)(_:0<=day)(_:day<=9999)(_:1<=wt)(_:wt<=1000)(_:Zz ds n=none)(_:∀H',ZC H H'->Q .non H')
abbrev Gf:Stmt:=Yr (top 46) 14
theorem ME(Zh4:ZS K C "check_coming" "Folk.check_coming" Gf)(T:Txt mg)(Tc:UY K C)(C0:∃t,mg "MOST_FOLK" = some (.int 40 t))(Zh5:Fn P w K mg base "is_name" ["text"] 1 WE)(Zbo:Fn P w K mg base "check_day" ["day"] 1 VB)(Z0p:Fn P w K mg base "check_weight" ["weight"] 1 B8) :
  Mt P w K mg base C "check_coming" ["self","name","day","weight"] 2 (YW C):=by
 obtain⟨t0,c_MOST_FOLK⟩:=C0;have r_MOST_FOLK:ZG (.int 40) (.int 40 t0):=⟨t0,rfl⟩;refine Zh4.mq ["self","name","day","weight"] fun H vs Q E hr h=>?_;obtain⟨L,ds,n,day,wt,rfl,F0,hl,hnm,d0,d1,w0,w1,hc,k⟩:=h;refine⟨rfl,_,(Ze (Zm (Vr (Vc (Zs Zh5 (Za Q6 Zb)))) (Zd Vd) Zo) (Ze (Ye (Zs Zbo (Za Q7 Zb))) (Ze (Ye (Zs Z0p (Za Q8 Zb))) (Ze (Zm (Zl (EW hr) Q6 (Z5 Q0) rfl) (Zd Vd) Zo) (Zd (Zm (Zl As (Zx MH T.len Z8 (Za (Z5 Q0) Zb)) (Yv c_MOST_FOLK r_MOST_FOLK) (Zp _)) (Zd Vd) Zo)))))),?_⟩;refine⟨_,rfl,n,rfl,by have:=hnm.2.2;lia,fun H1 s1=>⟨_,rfl,?_⟩⟩;rw[Da hnm];refine Zy ?_;have F:=F0.keep (ZC.n s1);obtain⟨dx,ob⟩:=F.ob;obtain⟨kvs,c1,c2,c3⟩:=F.c;have g:=ZY.k (k:=Sum.inr n) c1;rw[c3,hc] at g;refine⟨_,rfl,day,rfl,d0,d1,?_⟩;refine⟨_,rfl,wt,rfl,w0,w1,?_⟩;refine⟨_,rfl,_,rfl,L.p,C,dx,_,_,rfl,ob,Tc.cl,Tc.nc,Ai _ _ _ _,L.dc,_,rfl,g,_,rfl,Zy ?_⟩;refine⟨_,rfl,L.p,C,dx,_,_,rfl,ob,Tc.cl,Tc.nc,Ai _ _ _ _,L.dc,kvs,rfl,c1,_,_,rfl,rfl,_,rfl,Zu (fun z=>absurd z (by lia)) (fun _=>?_)⟩;exact k H1 s1
end
section
variable{w:fB}{C:eZ}
def Vj(f:Str->Option (List (ZQ×V))):ZO->Str->Option (List (ZQ×V))
 | .come n d w,m=>if m=n then some [(.inl d,.int w)] else f m
 | .rise n d w,m=>if m=n then (f m).map fun l=>Yo l (.inl d) (.int w) else f m
 | .die _ _ _,m=>f m
def kw(ds:List ZO):Str->Option (List (ZQ×V)):=ds.foldl Vj fun _=>none
theorem Fp(ds:List ZO)(x:ZO):kw (ds ++ [x])=Vj (kw ds) x:=by
 unfold kw;rw[List.foldl_append];rfl
def Jx:List ZO->List Str
 | []=>[]
 | .come n _ _::r=>n::Jx r
 | .rise _ _ _::r=>Jx r
 | .die _ _ _::r=>Jx r
theorem LS(a b:List ZO):Jx (a++b)=Jx a++Jx b:=by
 induction a with
 | nil=>rfl
 | cons x r ih=>cases x<;>simp[Jx,ih]
theorem Hn{l:List (ZQ×V)}{k:ZQ}{v:V}{p:ZQ×V}(h:p∈Yo l k v):p=(k,v)\/p∈l:=by
 unfold Yo at h;split at h
 ·grind
 ·grind
def Es(l:List (ZQ×V)):Prop:=∀p∈l,∃d w,p=(.inl d,.int w)
theorem Ke:∀(ds:List ZO)(f:Str->Option (List (ZQ×V))),(∀n l,f n=some l->Es l)->∀n l,ds.foldl Vj f n=some l->Es l
 | [],f,h,n,l,e=>h n l e
 | x::r,f,h,n,l,e=>by
  refine Ke r (Vj f x) (fun m l' e'=>?_) n l e;cases x with
  | come n' d w' =>
   rw[Vj] at e';split at e'
   ·cases e';intro p hp;exact⟨d,w',xO.mp hp⟩
   ·exact h m l' e'
  | rise n' d w' =>
   rw[Vj] at e';split at e'
   ·cases e2:f m with
    | none=>rw[e2] at e';cases e'
    | some l0 =>
     rw[e2] at e';cases e';intro p hp;rcases Hn hp with rfl | hp
     ·exact⟨d,w',rfl⟩
     ·exact h m l0 e2 p hp
   ·exact h m l' e'
  | die n' d h'=>exact h m l' e'
theorem OZ(h:kw ds n=some l):Es l:=Ke ds _ (fun _ _ z=>by cases z) n l h
def Dw(kv:Option (List (ZQ×V)))(day wt:Int):Prop:=∃l m,kv=some l/\Z1 l (.inl m)=some (.int wt)/\m<=day/\∀d v,Z1 l (.inl d)=some v->d<=day->d<=m
theorem IB:∀(ds:List ZO)(f:Str->Option (List (ZQ×V)))(g:Str->Option Int),(∀m,(f m).isSome=(g m).isSome)->∀m,(ds.foldl Vj f m).isSome=((g m).or (Zz ds m)).isSome
 | [],f,g,h,m=>by rw[Zz];show (f m).isSome=_;rw[h m];cases g m<;>rfl
 | x::r,f,g,h,m=>by
  have e:Zz (x::r) m=(Zz [x] m).or (Zz r m):=FY [x] r m;have ih:=IB r (Vj f x) (fun m=>(g m).or (Zz [x] m)) (fun m=>?_) m
  ·rw[List.foldl_cons,ih,e];cases g m<;>rfl
  ·cases x with
   | come n d w =>
    rw[Vj,Zz,Zz]
    by_cases z:m=n
    ·rw[if_pos z,if_pos z.symm];cases g m<;>rfl
    ·rw[if_neg z,if_neg (Ne.symm z),h m];cases g m<;>rfl
   | rise n d w =>
    rw[Vj,Zz,Zz];have hm:=h m
    by_cases z:m=n
    ·grind
    ·grind
   | die n d w=>rw[Vj,Zz,Zz,h m];cases g m<;>rfl
theorem dO(ds:List ZO)(n:Str):(kw ds n).isSome=(Zz ds n).isSome:=by
 have:=IB ds (fun _=>none) (fun _=>none) (fun _=>rfl) n;exact this
structure YX (H:Hp) (L:FL) (ds:List ZO) (wa:eV):Prop where
 w:∃kvs:List (ZQ×V),H L.dw=some (.dK kvs)/\kvs.length<=ds.length/\∀n l,kw ds n=some l->Z1 kvs (.inr n)=some (.ref (wa n))/\H (wa n)=some (.dK l)/\l.length<=ds.length
 ord:∃kvs:List (ZQ×V),H L.dc=some (.dK kvs)/\(kvs.map fun p=>kV p.1)=(Jx ds).map V.str
 ap:∀n l,kw ds n=some l->wa n≠L.dc/\wa n≠L.dw/\wa n≠L.dd/\wa n≠L.dh
 inj:∀n m l l',kw ds n=some l->kw ds m=some l'->wa n=wa m->n=m
theorem YX.keep(h:YX H L ds wa)(k:Fe H H'):YX H' L ds wa:=by
 obtain⟨⟨k1,w1,w2,w3⟩,⟨k2,o1,o2⟩,ap,inj⟩:=h;exact⟨⟨k1,k _ _ (fun _ z=>nomatch z) w1,w2,fun n l e=>let ⟨a,b,c⟩:=w3 n l e;⟨a,k _ _ (fun _ z=>nomatch z) b,c⟩⟩,⟨k2,k _ _ (fun _ z=>nomatch z) o1,o2⟩,ap,inj⟩
theorem YX.start(h:ZX C H L []):YX H L [] wa:=by
 obtain⟨k,w1,w2⟩:=h.w;obtain⟨k2,c1,c2,_⟩:=h.c;exact⟨⟨k,w1,w2,(fun n l e=>by cases e)⟩,⟨k2,c1,by rw[List.eq_nil_of_length_eq_zero (Nat.le_zero.mp c2)];rfl⟩,(fun n l e=>by cases e),(fun n m l l' e=>by cases e)⟩
def bJ(H:Hp)(L:FL)(ds:List ZO)(wa:eV):Prop:=∃kvs:List (ZQ×V),H L.dw=some (.dK kvs)/\∀p∈kvs,∃n l,kw ds n=some l/\p=(Sum.inr n,V.ref (wa n))
def own(L:FL)(ds:List ZO)(wa:eV)(b:eZ):Prop:=b=L.p\/b=L.dc\/b=L.dw\/b=L.dd\/b=L.dh\/∃n l,kw ds n=some l/\b=wa n
structure Fk (C:eZ) (H:Hp) (L:FL) (ds:List ZO) (wa:eV):Prop where
 f:ZX C H L ds
 w:YX H L ds wa
 all:bJ H L ds wa
def VQ(L:FL)(ds:List ZO)(wa:eV)(H H':Hp):Prop:=∀b o,H b=some o->¬own L ds wa b->H' b=some o
def Fd(L:FL)(ds:List ZO)(wa:eV)(ds':List ZO)(wa':eV)(H:Hp):Prop:=∀b,own L ds' wa' b->own L ds wa b\/H b=none
theorem Fk.at(h:Fk C H L ds wa)(k:∀b o,own L ds wa b->H b=some o->H' b=some o):Fk C H' L ds wa:=by
 obtain⟨⟨⟨dx,ob⟩,⟨k1,c1,c2⟩,⟨k2,w1,w2⟩,⟨k3,d1,d2⟩,⟨k4,h1,h2⟩,a1,a2,a3,a4,a5,a6⟩,⟨⟨k5,x1,x2,x3⟩,⟨k6,o1,o2⟩,ap,inj⟩,⟨k7,y1,y2⟩⟩:=h;have kp:=k L.p _ (.inl rfl) ob;have kc:=fun o=>k L.dc o (.inr (.inl rfl));have kw':=fun o=>k L.dw o (.inr (.inr (.inl rfl)));exact⟨⟨⟨dx,kp⟩,⟨k1,kc _ c1,c2⟩,⟨k2,kw' _ w1,w2⟩,⟨k3,k L.dd _ (.inr (.inr (.inr (.inl rfl)))) d1,d2⟩,⟨k4,k L.dh _ (.inr (.inr (.inr (.inr (.inl rfl))))) h1,h2⟩,a1,a2,a3,a4,a5,a6⟩, ⟨⟨k5,kw' _ x1,x2,fun n l e=>let ⟨a,b,c⟩:=x3 n l e;⟨a,k _ _ (.inr (.inr (.inr (.inr (.inr ⟨n,l,e,rfl⟩))))) b,c⟩⟩,⟨k6,kc _ o1,o2⟩,ap,inj⟩,⟨k7,kw' _ y1,y2⟩⟩
theorem Fk.there(h:Fk C H L ds wa)(hb:own L ds wa b):∃o,H b=some o/\(∀xs,o ≠ .lst xs)/\∀xs,o ≠ .tup xs:=by
 obtain⟨⟨⟨dx,ob⟩,⟨k1,c1,c2⟩,⟨k2,w1,w2⟩,⟨k3,d1,d2⟩,⟨k4,h1,h2⟩,_⟩,⟨⟨k5,x1,x2,x3⟩,_⟩,_⟩:=h;rcases hb with rfl | rfl | rfl | rfl | rfl | ⟨n,l,e,rfl⟩
 ·exact⟨_,ob,(fun _ z=>nomatch z),(fun _ z=>nomatch z)⟩
 ·exact⟨_,c1,(fun _ z=>nomatch z),(fun _ z=>nomatch z)⟩
 ·exact⟨_,w1,(fun _ z=>nomatch z),(fun _ z=>nomatch z)⟩
 ·exact⟨_,d1,(fun _ z=>nomatch z),(fun _ z=>nomatch z)⟩
 ·exact⟨_,h1,(fun _ z=>nomatch z),(fun _ z=>nomatch z)⟩
 ·exact⟨_,(x3 n l e).2.1,(fun _ z=>nomatch z),(fun _ z=>nomatch z)⟩
theorem VQ.lt(h:Fk C H L ds wa)(k:VQ L ds wa H H'):WB H H' :=
 ⟨fun b xs e=>k b _ e fun hb=>by obtain⟨o',e',n1,_⟩:=h.there hb;rw[e] at e';cases e';exact n1 xs rfl,fun b xs e=>k b _ e fun hb=>by obtain⟨o',e',_,n2⟩:=h.there hb;rw[e] at e';cases e';exact n2 xs rfl⟩
inductive UF(C:eZ)(vs:aG)(H:Hp)(Q:VK)(z3:XK):Prop
 |mk(L) (ds) (wa) (n) (day wt)(_:vs = [.ref L.p,.str n,.int day,.int wt])(_:Fk C H L ds wa)(_:ds.length < 40)(_:Z0 n)(_:0<=day)(_:day<=9999)(_:1<=wt)(_:wt<=1000)(_:Zz ds n=none)(_:∀wa' H',Fk C H' L (ds ++ [.come n day wt]) wa'->VQ L ds wa H H'->Fd L ds wa (ds ++ [.come n day wt]) wa' H->Q .non H')
abbrev KR:Stmt:=Yr (top 46) 1
theorem bO(Zh8:ZS K C "come" "Folk.come" KR)(Tc:UY K C)(M_check_coming:Mt P w K mg base C "check_coming" ["self","name","day","weight"] 2 (YW C)) :
  Mt P w K mg base C "come" ["self","name","day","weight"] 3 (UF C):=by
 refine Zh8.mq ["self","name","day","weight"] fun H vs Q E hr h=>?_;obtain⟨L,ds,wa,n,day,wt,rfl,K0,hl,hnm,d0,d1,w0,w1,hc,k⟩:=h;refine⟨rfl,_,(Ze (Ye (Vi Q0 Tc.cl M_check_coming (Za Q6 (Za Q7 (Za Q8 Zb))))) (Ze (Bp hr (Z5 Q0) Q6 Q7) (Zd (Bp hr (Z5 Q0) Q6 (Sh Q7 Q8))))),?_⟩;have F0:=K0.f;have W0:=K0.w;have hz:=aC
 obtain⟨dx0,ob0⟩:=F0.ob;refine⟨_,rfl,L.p,dx0,_,rfl,ob0,U9 _ _ _ _ aA,_,rfl,_,rfl,_,rfl,L,ds,n,day,wt,rfl,F0,hl,hnm,d0,d1,w0,w1,hc,fun H1 s1=>?_⟩;have F:=F0.keep (ZC.n s1);have W:=W0.keep (ZC.n s1);obtain⟨k9,y8,y9⟩:=K0.all;have y7:=s1 _ _ y8;have hkn:kw ds n=none:=by
  have:=dO ds n;rw[hc] at this;cases e:kw ds n with
  | none=>rfl
  | some l=>rw[e] at this;cases this
 obtain⟨⟨dx,ob⟩,⟨k1,c1,c2,c3⟩,_,⟨k3,e1,e2,e3⟩,⟨k4,h1,h2,h3⟩,a1,a2,a3,a4,a5,a6⟩:=F;obtain⟨⟨k2,w2,w3,w4⟩,⟨k1',o1,o2⟩,wap,winj⟩:=W;rw[c1] at o1;cases o1;have np:L.p≠L.dc:=fun z=>by rw[z,c1] at ob;cases ob
 have np2:L.p≠L.dw:=fun z=>by rw[z,w2] at ob;cases ob
 refine⟨_,rfl,_,rfl,L.p,C,dx,_,_,rfl,ob,Tc.cl,Tc.nc,Ai _ _ _ _,_,rfl,L.dc,_,rfl,WH.k (k:=Sum.inr n) c1 (by lia),?_⟩;have T1:=WB.updD (kvs':=Yo k1 (Sum.inr n) (.int day)) c1;have g0:∀b o,b≠L.dc->H1 b=some o->(upd H1 L.dc (.dK (Yo k1 (Sum.inr n) (.int day)))) b=some o:=fun b o nb e=>by rw[Zc nb];exact e
 have g2:(upd H1 L.dc (.dK (Yo k1 (Sum.inr n) (.int day)))) L.dc=some (.dK (Yo k1 (Sum.inr n) (.int day))):=Zg;generalize (upd H1 L.dc (.dK (Yo k1 (Sum.inr n) (.int day))))=H2 at T1 g0 g2 ⊢;have g1:=g0 _ _ np ob;have g3:=g0 _ _ a1.symm w2;have g4:=g0 _ _ a2.symm e1;have g5:=g0 _ _ a3.symm h1;intro q hq;refine⟨_,rfl,_,rfl,Zg,[(Sum.inl day,.int wt)],rfl,by show 1<=15;decide,?_⟩;have S3:ZC H2 (upd (upd H2 q (.dK [])) q (.dK (Yu [] [(Sum.inl day,.int wt)]))):=fun b o e=>by rw[Zc (Zi e hq),Zc (Zi e hq)];exact e
 have kq:(upd (upd H2 q (.dK [])) q (.dK (Yu [] [(Sum.inl day,.int wt)]))) q=some (.dK [(Sum.inl day,.int wt)]):=Zg;generalize (upd (upd H2 q (.dK [])) q (.dK (Yu [] [(Sum.inl day,.int wt)])))=H3 at S3 kq ⊢;refine⟨_,rfl,L.p,C,dx,_,_,rfl,S3 _ _ g1,Tc.cl,Tc.nw,Hl _ _ _ _,_,rfl,L.dw,_,rfl,WH.k (k:=Sum.inr n) (S3 _ _ g3) (by lia),?_⟩;have T4:=WB.updD (kvs':=Yo k2 (Sum.inr n) (.ref q)) (S3 _ _ g3);have ll:=J5 k1 (Sum.inr n:ZQ) (V.int day);have ll2:=J5 k2 (Sum.inr n:ZQ) (V.ref q);have lapp:(ds ++ [ZO.come n day wt]).length=ds.length+1:=by rw[xD];rfl
 have q1:q≠L.dc:=fun z=>by rw[z,g2] at hq;cases hq
 have q2:q≠L.dw:=fun z=>by rw[z,g3] at hq;cases hq
 have q3:q≠L.dd:=fun z=>by rw[z,g4] at hq;cases hq
 have q4:q≠L.dh:=fun z=>by rw[z,g5] at hq;cases hq
 have old:∀m l,kw ds m=some l->H3 (wa m)=some (.dK l)/\wa m≠q:=fun m l e=>by
  have hh:=g0 _ _ (wap m l e).1 (w4 m l e).2.1;exact⟨S3 _ _ hh,Zi hh hq⟩
 have hkw:∀m l,kw (ds ++ [.come n day wt]) m=some l->(m=n/\l = [(Sum.inl day,.int wt)])\/(m≠n/\kw ds m=some l):=fun m l e=>by
  rw[Fp,Vj] at e;split at e
  ·rename_i z;cases e;exact .inl ⟨z,rfl⟩
  ·rename_i z;exact .inr ⟨z,e⟩
 refine k (fun m=>if m=n then q else wa m) _ ⟨⟨⟨dx,by rw[Zc np2];exact S3 _ _ g1⟩,⟨_,by rw[Zc a1];exact S3 _ _ g2,by lia,fun x=>?_⟩,⟨_,Zg,by lia⟩,⟨k3,by rw[Zc a4.symm];exact S3 _ _ g4,by lia,fun x=>?_⟩,⟨k4,by rw[Zc a5.symm];exact S3 _ _ g5,by lia,fun x=>?_⟩,a1,a2,a3,a4,a5,a6⟩,
  ⟨⟨_,Zg,by lia,fun m l e=>?_⟩,⟨_,by rw[Zc a1];exact S3 _ _ g2,?_⟩,fun m l e=>?_,fun m m' l l' e e' z=>?_⟩,⟨_,Zg,fun p hp=>?_⟩⟩ (fun b o e hn=>?_) (fun b hb=>?_)
 ·rw[Aa,Oe hc]
  by_cases e:x=n
  ·subst e;rw[if_pos rfl,if_pos rfl];rfl
  ·rw[if_neg (fun z=>e (Sum.inr.inj z)),if_neg e];exact c3 x
 ·rw[Ls];exact e3 x
 ·rw[Ls];exact h3 x
 ·(try dsimp only)
  rcases hkw m l e with⟨rfl,rfl⟩ | ⟨hm,e'⟩
  ·rw[if_pos rfl];exact⟨by rw[Aa,if_pos rfl],by rw[Zc q2];exact kq,by rw[lapp];show 1<=_;lia⟩
  ·rw[if_neg hm];obtain⟨y1,y2,y3⟩:=w4 m l e';exact⟨by rw[Aa,if_neg (fun z=>hm (Sum.inr.inj z))];exact y1,by rw[Zc (wap m l e').2.1];exact(old m l e').1,by lia⟩
 ·have hv:Z1 k1 (Sum.inr n:ZQ)=none:=by rw[c3,hc];rfl
  rw[PX _ hv,xM,LS,xM,o2];rfl
 ·grind
 ·grind
 ·rw[w2] at y7;cases y7;rcases Hn hp with rfl | hp
  ·exact⟨n,[(Sum.inl day,.int wt)],by rw[Fp,Vj,if_pos rfl],by (try dsimp only);rw[if_pos rfl]⟩
  ·obtain⟨m,l,e,rfl⟩:=y9 p hp;have hm:m≠n:=fun z=>by rw[z,hkn] at e;cases e
   exact⟨m,l,by rw[Fp,Vj,if_neg hm];exact e,by (try dsimp only);rw[if_neg hm]⟩
 ·rw[Zc (fun z=>hn (.inr (.inr (.inl z))))];exact S3 _ _ (g0 b o (fun z=>hn (.inr (.inl z))) (s1 _ _ e))
 ·rcases hb with z | z | z | z | z | ⟨m,l,e,z⟩
  ·exact .inl (.inl z)
  ·exact .inl (.inr (.inl z))
  ·exact .inl (.inr (.inr (.inl z)))
  ·exact .inl (.inr (.inr (.inr (.inl z))))
  ·exact .inl (.inr (.inr (.inr (.inr (.inl z)))))
  ·(try dsimp only at z)
   rcases hkw m l e with⟨rfl,rfl⟩ | ⟨hm,y⟩
   ·rw[if_pos rfl] at z;refine .inr ?_;cases eq:H b with
    | none=>rfl
    | some o =>
     have:=g0 _ _ (by rw[z];exact q1) (s1 _ _ eq);rw[z,hq] at this;cases this
   ·rw[if_neg hm] at z;exact .inl (.inr (.inr (.inr (.inr (.inr ⟨m,l,y,z⟩)))))
end
section
variable{C:eZ}
abbrev GO:Stmt:=Yr (top 46) 19
def Vz(l:List (ZQ×V))(day:Int):List Int:=l.filterMap fun p=>match p.1 with
 | .inl d=>if d<=day then some d else none
 | .inr _=>none
theorem OJ{l:List (ZQ×V)}{i:Nat}{d wt day:Int}(h:l[i]? = some (.inl d,.int wt)):Vz (l.take (i+1)) day=Vz (l.take i) day++(if d<=day then [d] else []):=by
 unfold Vz;rw[yD,h,List.filterMap_append];congr 1
 by_cases e:d<=day
 ·simp[e]
 ·simp[e]
theorem upTo_mem:x∈Vz l day↔(∃v,(.inl x,v)∈l)/\x<=day:=by
 unfold Vz;rw[List.mem_filterMap];constructor
 ·grind
 ·grind
theorem Mw{l:List (ZQ×V)}{k:ZQ}{v:V}(h:Z1 l k=some v):(k,v)∈l:=by
 unfold Z1 at h;cases e:l.find? fun kv=>decide (kv.1=k) with
 | none=>rw[e] at h;cases h
 | some p =>
  rw[e] at h;cases h;have h1:=List.mem_of_find?_eq_some e;have h2:=List.find?_some e;have h2:p.1=k:=by simpa using h2
  rw[← h2];exact h1
theorem NY{l:List (ZQ×V)}{k:ZQ}{v:V}(h:(k,v)∈l):∃u,Z1 l k=some u:=by
 unfold Z1;cases e:l.find? fun kv=>decide (kv.1=k) with
 | none =>
  have:=zS.mp e (k,v) h;exact absurd (xZ rfl) this
 | some p=>exact⟨p.2,rfl⟩
inductive UJ(C:eZ)(vs:aG)(H:Hp)(Q:VK)(z3:XK):Prop
 |mk(L) (ds) (wa) (n) (day d0 wt)(_:vs = [.ref L.p,.str n,.int day])(_:ZX C H L ds)(_:YX H L ds wa)(_:ds.length<=1000)(_:0<=day)(_:day<=9999)(_:Zz ds n=some d0)(_:d0<=day)(_:Dw (kw ds n) day wt)(_:∀H',ZC H H'->Q (.int wt) H')
abbrev DQ:Stmt:=Yr (top 46) 6
theorem FD:Nm (Zj DQ) "day" .cell:=aA
theorem bX(Zia:ZS K C "weight" "Folk.weight" DQ)(T:Txt mg)(Tc:UY K C)(Zbo:Fn P w K mg base "check_day" ["day"] 1 VB)(M_check_known:Mt P w K mg base C "check_known" ["self","name"] 1 (UI C))(M_check_there:Mt P w K mg base C "check_there" ["self","name","day"] 1 (UE C)) :
  Mt P w K mg base C "weight" ["self","name","day"] 2 (UJ C):=by
 refine Zia.mq ["self","name","day","told"] fun H vs Q E hr h=>?_;obtain⟨L,ds,wa,n,day,e0,wt,rfl,F,W,hl,d0,d1,hc,hd,hw,k⟩:=h
 refine⟨rfl,_,(Ze (Ye (Zs Zbo (Za (qvC 2 FD) Zb))) (Ze (Ye (Vi Q0 Tc.cl M_check_known (Za Q6 Zb))) (Ze (Ye (Vi Q0 Tc.cl M_check_there (Za Q6 (Za (qvC 2 FD) Zb)))) (Ze (Zv 3 (BA hr (Z5 Q0) Q6 (fun _ _=>rfl))) (Zd (Zn (BA hr Q8 (Zx (Se (by rfl)) T.max Kq (Za (LG (Uh (locs:=["since"]) (fr:=[("day", 2)]) ⟨rfl,aA,aA,aA,aA,aA⟩ (.consN FD .nil) rfl (bQ Q8) ⟨fun _ _ _ _ _ _=>by
  have cnd:(inN ["since"] [("day", 2)]).Nodup:=aA
  exact⟨(Y4 0 cnd),(Im (Zl Vm (Y3 0) (T8 1) (Zp _))),(Y3 0)⟩⟩)) Zb)) (fun _ _=>rfl)))))))),?_⟩
 have hz:=aC
 obtain⟨dx,ob⟩:=F.ob;refine⟨_,rfl,day,rfl,d0,d1,?_⟩;refine⟨_,rfl,L.p,dx,_,rfl,ob,U9 _ _ _ _ aA,_,rfl,L,ds,n,e0,rfl,F,hc,?_⟩;refine⟨_,rfl,L.p,dx,_,rfl,ob,U9 _ _ _ _ aA,_,rfl,_,rfl,L,ds,n,e0,day,rfl,F,hc,hd,?_⟩;obtain⟨l,m0,hkl,hm0,hm1,hm2⟩:=hw;obtain⟨k2,w2,w3,w4⟩:=W.w;obtain⟨y1,y2,y3⟩:=w4 n l hkl;have hint:=OZ hkl;have g:=ZY.k (k:=Sum.inr n) w2;rw[y1] at g;refine⟨_,rfl,L.p,C,dx,_,_,rfl,ob,Tc.cl,Tc.nw,Hl _ _ _ _,_,rfl,L.dw,.ref (wa n),rfl,g,?_⟩;refine⟨_,rfl,wa n,l,y2,fun o=>?_⟩;refine⟨_,rfl,wa n,o,l,rfl,Zg,?_⟩;refine LP (fun i ys H'=>H'=upd H (wa n) (.frz o (.dK l))/\ys=(Vz (l.take i) day).map V.int) ⟨rfl,rfl⟩ (by lia) (fun i ys H' _ ⟨e,_⟩=>by rw[e];exact Zg) ?_ ?_ ?_
 ·rintro i ys H' ⟨_,rfl⟩;rw[xA];unfold Vz;refine yK (List.length_filterMap_le _ _) ?_;rw[xU];lia
 ·rintro i p ys H' hp ⟨rfl,rfl⟩ ls hls;obtain⟨w0,rfl⟩:=Uv hls;obtain⟨d,wt',rfl⟩:=hint p (xN hp);refine⟨⟨[_],rfl,rfl⟩,?_⟩;refine⟨_,rfl,_,rfl,d,day,rfl,rfl,_,rfl,?_⟩;rw[OJ hp];refine Zu (fun e=>?_) (fun e=>?_)
  ·refine⟨_,rfl,rfl,?_⟩;rw[if_pos e,xM];rfl
  ·exact⟨rfl,by rw[if_neg e,yM]⟩
 ·rintro ys H' ⟨rfl,rfl⟩ q hq;rw[yI];have nq:q≠wa n:=fun z=>by rw[z,Zg] at hq;cases hq
  refine⟨by rw[Zc nq.symm];exact Zg,?_⟩;have hqH:H q=none:=by rw[Zc nq] at hq;exact hq
  have S:ZC H (upd (upd (upd H (wa n) (.frz o (.dK l))) q (.lst ((Vz l day).map V.int))) (wa n) (.dK l)):=fun b ob e=>by
   by_cases z:b=wa n
   ·rw[z,Zg];rw[z,y2] at e;exact e
   ·rw[Zc z,Zc (Zi e hqH),Zc z];exact e
  have kq:(upd (upd (upd H (wa n) (.frz o (.dK l))) q (.lst ((Vz l day).map V.int))) (wa n) (.dK l)) q=some (.lst ((Vz l day).map V.int)):=by rw[Zc nq,Zg]
  generalize (upd (upd (upd H (wa n) (.frz o (.dK l))) q (.lst ((Vz l day).map V.int))) (wa n) (.dK l))=H2 at S kq ⊢;have hin:m0∈Vz l day:=upTo_mem.mpr ⟨⟨_,Mw hm0⟩,hm1⟩;refine⟨q,Vz l day,rfl,ZF.of kq,(fun z=>by rw[z] at hin;cases hin),fun m hm hmx=>?_⟩;obtain⟨⟨v,hv⟩,hmd⟩:=upTo_mem.mp hm;obtain⟨u,hu⟩:=NY hv;have e1:=hm2 m u hu hmd;have e2:=hmx m0 hin;have em:m=m0:=by lia
  subst em;have g2:=ZY.k (k:=Sum.inl m) (S _ _ y2);rw[hm0] at g2;exact⟨wa n,.int wt,rfl,g2,k H2 S⟩
end
def Uo(H H':Hp):Prop:=∀b xs,H b=some (.tup xs)->H' b=some (.tup xs)
theorem KM(hl:H l=some (.lst xs)):Uo H (upd H l o):=fun b ys e=>by
 rw[Zc (fun z=>by rw[z,hl] at e;cases e)];exact e
abbrev Wg:=List (Str×Int)
def C5(p:Str×Int):D:=.tup [.str p.1,.int p.2]
def FH(sd:Wg):D:=.lst (sd.map C5)
def ZP(H:Hp):Wg->List V->Prop
 | [],vs=>vs = []
 | p::r,vs=>∃a vs',vs = .ref a::vs'/\H a=some (.tup [.str p.1,.int p.2])/\ZP H r vs'
theorem ZP.mono(k:Uo H H'):∀{sd:Wg}{vs:aG},ZP H sd vs->ZP H' sd vs
 | [],_,h=>h
 | _::_,_,⟨a,vs',e,h1,h2⟩=>⟨a,vs',e,k _ _ h1,ZP.mono k h2⟩
theorem ZP.rep:∀{sd:Wg}{vs:aG},ZP H sd vs->ZN H (sd.map C5) vs
 | [],_,h=>h
 | p::_,_,⟨a,vs',e,h1,h2⟩=>⟨.ref a,vs',e,⟨a,_,rfl,h1,⟨.str p.1,_,rfl,rfl,⟨.int p.2,[],rfl,rfl,rfl⟩⟩⟩,ZP.rep h2⟩
theorem ZP.of:∀{sd:Wg}{vs:aG},ZN H (sd.map C5) vs->ZP H sd vs
 | [],_,h=>h
 | p::_,_,⟨v,vs',e,⟨a,us,e2,h1,⟨x,r1,e3,e4,⟨y,r2,e5,e6,e7⟩⟩⟩,h2⟩=>by
  subst e2 e7 e5 e3;cases e4;cases e6;exact⟨a,vs',e,h1,ZP.of h2⟩
theorem ZP.len(h:ZP H sd vs):vs.length=sd.length:=by
 have:=(ZP.rep h).length;rw[xA] at this;exact this
theorem ZP.get:∀{sd:Wg}{vs:aG}{i:Nat}{v:V},ZP H sd vs->vs[i]? = some v->∃p a,sd[i]? = some p/\v = .ref a/\H a=some (.tup [.str p.1,.int p.2])
 | [],vs,i,v,h,e=>by cases h;simp at e
 | p::sd,vs,i,v,⟨a,vs',e1,h1,h2⟩,e=>by
  subst e1;cases i with
  | zero=>simp at e;subst e;exact⟨p,a,rfl,rfl,h1⟩
  | succ i=>simp at e;exact ZP.get (i:=i) h2 e
theorem ZP.snoc(hp:H a=some (.tup [.str p.1,.int p.2])):∀{sd:Wg}{vs:aG},ZP H sd vs->ZP H (sd ++ [p]) (vs ++ [.ref a])
 | [],vs,h=>by cases h;exact⟨a,[],rfl,hp,rfl⟩
 | q::sd,vs,⟨b,vs',e,h1,h2⟩=>by subst e;exact⟨b,vs' ++ [.ref a],rfl,h1,ZP.snoc hp h2⟩
def wts(sd:Wg):List Int:=sd.map (·.2)
def WJ(sd:Wg):Prop:=(∀p∈sd,1<=p.2/\p.2<=1000)/\sd.length<=60
theorem WJ.bnd(h:WJ sd):∀n∈wts sd,-1000000000<=n/\n<=1000000000:=fun n hn=>by
 obtain⟨p,hp,rfl⟩:=yS.mp hn;have:=h.1 p hp;show -1000000000<=p.2/\p.2<=1000000000;lia
theorem Ra{sd:Wg}{i:Nat}{p:Str×Int}(h:sd[i]? = some p):(wts sd)[i]? = some p.2:=by unfold wts;rw[xK,h];rfl
def YB(H:Hp)(sd:Wg)(v:V):Prop:=∃a vs,v = .ref a/\H a=some (.lst vs)/\ZP H sd vs
theorem ZC.t(h:ZC H H'):Uo H H':=fun b xs e=>h b _ e
theorem YB.mono(h:YB H sd v)(k:ZC H H'):YB H' sd v:=let ⟨a,vs,e,h1,h2⟩:=h;⟨a,vs,e,k _ _ h1,h2.mono fun b xs e=>k b _ e⟩
inductive UW(vs:aG)(H:Hp)(Q:VK)(z3:XK):Prop
 |mk(v) (sd)(_:vs = [v])(_:YB H sd v)(_:WJ sd)(_:∀H',ZC H H'->Q (.int (wts sd).sum) H')
theorem NM(ha:H a=some (.lst vs))(hr:ZP H sd vs)(hl:sd.length<=60)(hd:∀l,H l=none->Q (.ref l) (upd H l (.lst ((wts sd).map V.int)))) :
  Vt (TR K a) 2 fv (Tf K 2 (VF (Y2 0) (VF (Y2 1) Eu))) (fun _ H Q=>Q true H) (YC 1) Q H:=by
 have hlen:=hr.len;refine J9 (xs:=vs) (fun i ys H'=>H'=H/\ys=((wts sd).take i).map V.int) ⟨rfl,rfl⟩ (by lia) (fun i ys H' _ ⟨e,_⟩=>by rw[e];exact ZF.of ha) ?_ ?_ ?_
 ·rintro i ys H' ⟨_,rfl⟩;rw[xA,xU];lia
 ·rintro i x ys H' hx ⟨rfl,rfl⟩ ls hls;obtain⟨u,v,rfl⟩:=Bf hls;obtain⟨p,b,hp,rfl,hb⟩:=hr.get hx;refine⟨b,_,rfl,ZT.of hb,rfl,_,_,rfl,_,_,rfl,rfl,⟨[_,_],rfl,rfl⟩,Z2 ?_⟩;refine⟨_,rfl,rfl,?_⟩;rw[yD,Ra hp,xM];rfl
 ·rintro ys H' ⟨rfl,rfl⟩ l hl';have e:(wts sd).take vs.length=wts sd:=yP (by unfold wts;rw[xA];lia);rw[e];exact hd l hl'
abbrev IA:Stmt:=top 43
theorem Ry(Zic:YA K mg "total" IA)(T:Txt mg):Fn P w K mg base "total" ["side"] 1 UW:=by
 refine Zic.fq ["side"] fun H vs Q E hr h=>?_;obtain⟨v,sd,rfl,⟨a,vs,rfl,ha,hr⟩,hL,k⟩:=h
 refine⟨rfl,_,(Zd (Zn (Zx (Gn (by rfl)) T.sum Hf (Za (Uh (locs:=["name","weight"]) (fr:=[]) ⟨rfl,aA,aA,aA,aA,aA⟩ .nil rfl (Vl Q0) ⟨fun _ _ _ _ _ _=>by
  have cnd:(inN ["name","weight"] []).Nodup:=aA
  exact⟨(A6 2 (by rfl) (Va (Y4 0 cnd) (Va (Y4 1 cnd) Jv))),Vn,(Y3 1)⟩⟩) Zb)))),?_⟩
 refine⟨_,rfl,a,rfl,⟨_,ZF.of ha⟩,?_⟩;refine NM ha hr hL.2 fun l hl=>?_;exact⟨l,wts sd,rfl,ZF.of Zg,hL.bnd,by unfold wts;rw[xA];have:=hL.2;lia,k _ (ZC.new hl)⟩
structure YN where
 ones:Wg
 others:Wg
 need:Int
 named:Option (Int×Str)
def B6:Option (Int×Str)->D
 | none=>.non
 | some (c,n)=>.tup [.int c,.str n]
def Wx(t:YN):D:=.tup [FH t.ones,FH t.others,.int t.need,B6 t.named]
theorem YB.of(h:YH H (FH sd) v):YB H sd v:=by
 obtain⟨a,vs,e,h1,h2⟩:=h;exact⟨a,vs,e,h1,ZP.of h2⟩
theorem ND(h:YH H (Wx t) v):∃a u1 u2 u4,v = .ref a/\H a=some (.tup [u1,u2,.int t.need,u4])/\YB H t.ones u1/\YB H t.others u2/\YH H (B6 t.named) u4:=by
 obtain⟨a,vs,e,h1,⟨u1,r1,rfl,a1,⟨u2,r2,rfl,a2,⟨u3,r3,rfl,a3,⟨u4,r4,rfl,a4,a5⟩⟩⟩⟩⟩:=h;cases a3;cases a5;exact⟨a,u1,u2,u4,e,h1,.of a1,.of a2,a4⟩
theorem ZP.app(hb:ZP H b ws):∀{a:Wg}{vs:aG},ZP H a vs->ZP H (a++b) (vs++ws)
 | [],vs,h=>by cases h;exact hb
 | p::a,vs,⟨c,vs',e,h1,h2⟩=>by subst e;exact⟨c,vs'++ws,rfl,h1,ZP.app hb h2⟩
theorem MG(ha:H a=some (.lst vs))(hr:ZP H sd vs)(hl:sd.length<=1000)(hd:∀l,H l=none->Q (.ref l) (upd H l (.lst ((sd.map (·.1)).map V.str)))) :
  Vt (TR K a) 2 fv (Tf K 2 (VF (Y2 0) (VF (Y2 1) Eu))) (fun _ H Q=>Q true H) (YC 0) Q H:=by
 have hlen:=hr.len;refine J9 (xs:=vs) (fun i ys H'=>H'=H/\ys=((sd.map (·.1)).take i).map V.str) ⟨rfl,rfl⟩ (by lia) (fun i ys H' _ ⟨e,_⟩=>by rw[e];exact ZF.of ha) ?_ ?_ ?_
 ·rintro i ys H' ⟨_,rfl⟩;rw[xA,xU];lia
 ·rintro i x ys H' hx ⟨rfl,rfl⟩ ls hls;obtain⟨u,v,rfl⟩:=Bf hls;obtain⟨p,b,hp,rfl,hb⟩:=hr.get hx;refine⟨b,_,rfl,ZT.of hb,rfl,_,_,rfl,_,_,rfl,rfl,⟨[_,_],rfl,rfl⟩,Z2 ?_⟩;refine⟨_,rfl,rfl,?_⟩;have e:(sd.map (·.1))[i]? = some p.1:=by rw[xK,hp];rfl
  rw[yD,e,xM];rfl
 ·rintro ys H' ⟨rfl,rfl⟩ l hl';have e:(sd.map (·.1)).take vs.length=sd.map (·.1):=yP (by rw[xA];lia);rw[e];exact hd l hl'
def AK(t:YN):Prop:=WJ t.ones/\WJ t.others/\1<=t.need/\t.need<=12000
abbrev B5:=List (List ZQ×V)
def J2(c:Int)(n:Str):List ZQ:=[.inl c,.inr n]
def brk(kvs:B5)(c:Int)(n:Str):Bool:=(Z1 kvs (J2 c n)).isSome
def keep(br:Int->Str->Bool)(c:Int)(sd:Wg):Wg:=sd.filter fun p=>!br c p.1
def EZ(br:Int->Str->Bool)(c:Int)(sd:Wg):Int:=(wts (keep br c sd)).sum
inductive To(vs:aG)(H:Hp)(Q:VK)(z3:XK):Prop
 |mk(c) (v) (g) (sd) (kvs)(_:vs = [.int c,v,.ref g])(_:YB H sd v)(_:WJ sd)(_:H g=some (.dT kvs))(_:∀H',ZC H H'->Q (.int (EZ (brk kvs) c sd)) H')
theorem dN{br:Int->Str->Bool}{c:Int}{sd:Wg}{i:Nat}{p:Str×Int}(h:sd[i]? = some p):keep br c (sd.take (i+1))=keep br c (sd.take i)++(if br c p.1 then [] else [p]):=by
 unfold keep;rw[yD,h,List.filter_append];cases e:br c p.1<;>simp[e]
abbrev CF:Stmt:=top 72
theorem PC:Nm (Zj CF) "case" .cell:=aA
theorem Qz:Nm (Zj CF) "gone" .cell:=aA
theorem Sl(Zie:YA K mg "kept_weight" CF)(T:Txt mg):Fn P w K mg base "kept_weight" ["case","side","gone"] 1 To:=by
 refine Zie.fq ["case","side","gone"] fun H vs Q E hr h=>?_;obtain⟨c,v,g,sd,kvs,rfl,⟨a,vs,rfl,ha,hrs⟩,hL,hg,k⟩:=h
 refine⟨rfl,_,(Zd (Zn (Zx (Gn (by rfl)) T.sum Hf (Za (Uh (locs:=["name","weight"]) (fr:=[("case", 0),("gone", 2)]) ⟨rfl,aA,aA,aA,aA,aA⟩ (.consN PC (.consN Qz .nil)) rfl (Vl Q6) ⟨fun _ _ _ _ _ _=>by
  have cnd:(inN ["name","weight"] [("case", 0),("gone", 2)]).Nodup:=aA
  exact⟨(A6 2 (by rfl) (Va (Y4 0 cnd) (Va (Y4 1 cnd) Jv))),(Im (Zl (EO hr) (Vb (Za (T8 2) (Za (Y3 0) Zb))) (T8 3) rfl)),(Y3 1)⟩⟩) Zb)))),?_⟩
 have hz:(2000:Nat)<=sizeLine:=by decide
 have hvl:=hrs.len;have hl60:=hL.2;refine⟨_,rfl,a,rfl,⟨_,ZF.of ha⟩,?_⟩;refine J9 (xs:=vs) (fun i ys H'=>ZC H H'/\ys=(wts (keep (brk kvs) c (sd.take i))).map V.int) ⟨fun _ _ e=>e,rfl⟩ (by lia) (fun i ys H' _ ⟨e,_⟩=>ZF.of (e _ _ ha)) ?_ ?_ ?_
 ·rintro i ys H' ⟨_,rfl⟩;unfold wts keep;rw[xA,xA];refine yK (List.length_filter_le _ _) ?_;rw[xU];lia
 ·rintro i x ys H' hx ⟨sm,rfl⟩ ls hls;obtain⟨w1,w2,rfl⟩:=Bf hls;obtain⟨p,b,hp,rfl,hb⟩:=hrs.get hx;refine⟨b,_,rfl,ZT.of (sm _ _ hb),rfl,_,_,rfl,_,_,rfl,rfl,⟨[_,_],rfl,rfl⟩,?_⟩;refine⟨_,rfl,_,rfl,aB rfl,fun q hq=>?_⟩;refine nw (o:=.tup [.int c,.str p.1]) hq fun H1 S1 k1=>?_;refine⟨_,rfl,g,_,rfl,ZY.t (S1 _ _ (sm _ _ hg)) (k:=J2 c p.1) k1,_,rfl,?_⟩;have e:=dN (br:=brk kvs) (c:=c) hp;show if (!brk kvs c p.1)=true then _ else _
  cases hb':brk kvs c p.1 with
  | true =>
   rw[hb',if_pos rfl,yM] at e;refine Zy ?_;exact⟨sm.trans S1,by rw[e]⟩
  | false =>
   rw[hb',if_neg xR] at e;refine Z2 ?_;refine⟨_,rfl,sm.trans S1,?_⟩;rw[e];unfold wts;rw[xM,xM];rfl
 ·rintro ys H' ⟨sm,rfl⟩ l hl';rw[hvl,yI];refine⟨l,wts (keep (brk kvs) c sd),rfl,ZF.of Zg,fun n hn=>?_,?_,k _ (sm.trans (ZC.new hl'))⟩
  ·obtain⟨p,hp,rfl⟩:=yS.mp hn;exact hL.bnd _ (yS.mpr ⟨p,(List.mem_filter.mp hp).1,rfl⟩)
  ·unfold wts keep;rw[xA];exact yK (List.length_filter_le _ _) (by lia)
def JW(br:Int->Str->Bool)(c:Int)(t:YN):Int:=EZ br c t.ones - EZ br c t.others - t.need
def ZV(H:Hp)(ss:List YN)(l:eZ):Prop:=∃us,H l=some (.lst us)/\ZN H (ss.map Wx) us
theorem ZV.mono(h:ZV H ss l)(k:ZC H H'):ZV H' ss l:=let ⟨us,a,b⟩:=h;⟨us,k _ _ a,b.mono' k⟩
theorem ZV.get{H:Hp}{ss:List YN}{l:eZ}{us:aG}{i:Nat}{t:YN}(b:ZN H (ss.map Wx) us)(ht:ss[i]? = some t) :
  ∃ta u1 u2 u4,us[i]? = some (.ref ta)/\H ta=some (.tup [u1,u2,.int t.need,u4])/\YB H t.ones u1/\YB H t.others u2/\YH H (B6 t.named) u4:=by
 have hl:=b.length;rw[xA] at hl;have hi:i < us.length:=by rw[hl];exact(xY.mp ht).1
 have hu:us[i]? = some us[i]:=xE hi;obtain⟨d,hd,hr⟩:=b.get hu;rw[xK,ht] at hd;cases hd;obtain⟨ta,u1,u2,u4,e,h1,h2,h3,h4⟩:=ND hr;exact⟨ta,u1,u2,u4,by rw[hu,e],h1,h2,h3,h4⟩
inductive VA(vs:aG)(H:Hp)(Q:VK)(z3:XK):Prop
 |mk(l g:eZ) (c:Nat) (ss:List YN) (t:YN) (kvs:B5)(_:vs = [.ref l,.int c,.ref g])(_:ZV H ss l)(_:ss[c]? = some t)(_:AK t)(_:H g=some (.dT kvs))(_:∀H',ZC H H'->Q (.int (JW (brk kvs) c t)) H')
abbrev Gv:Stmt:=top 71
theorem RI(Zif:YA K mg "margin_without" Gv)(T:Txt mg)(C0:∃t,mg "ONES" = some (.int 0 t))(C1:∃t,mg "OTHERS" = some (.int 1 t))(C2:∃t,mg "NEED" = some (.int 2 t))(Zow:Fn P w K mg base "kept_weight" ["case","side","gone"] 1 To):Fn P w K mg base "margin_without" ["suits","case","gone"] 2 VA:=by
 obtain⟨t0,c_ONES⟩:=C0;obtain⟨t1,c_OTHERS⟩:=C1;obtain⟨t2,c_NEED⟩:=C2;have r_ONES:ZG (.int 0) (.int 0 t0):=⟨t0,rfl⟩;have r_OTHERS:ZG (.int 1) (.int 1 t1):=⟨t1,rfl⟩;have r_NEED:ZG (.int 2) (.int 2 t2):=⟨t2,rfl⟩;refine Zif.fq ["suits","case","gone","suit"] fun H vs Q E hr h=>?_;obtain⟨l,g,c,ss,t,kvs,rfl,⟨us,hl,hrep⟩,ht,⟨L1,L2',_,_⟩,hg,k⟩:=h;refine⟨rfl,_,(Ze (Zv 3 (Zq Z3 Q0 Q6 (fun _ _=>rfl))) (Zd (Zn (Zr BJ (Zr BJ (Zs Zow (Za Q6 (Za (Zq Ys Q8 (Yv c_ONES r_ONES) (fun _ _=>rfl)) (Za Q7 Zb)))) (Zs Zow (Za Q6 (Za (Zq Ys Q8 (Yv c_OTHERS r_OTHERS) (fun _ _=>rfl)) (Za Q7 Zb))))) (Zq Ys Q8 (Yv c_NEED r_NEED) (fun _ _=>rfl)))))),?_⟩;obtain⟨ta,u1,u2,u4,hu,hta,h1,h2,h4⟩:=ZV.get (l:=l) hrep ht;refine⟨_,rfl,_,rfl,l,us,c,.ref ta,rfl,rfl,ZF.of hl,Yb hu,?_⟩;refine⟨_,rfl,_,rfl,ta,_,0,u1,rfl,rfl,ZT.of hta,rfl,_,rfl,c,u1,g,t.ones,kvs,rfl,h1,L1,hg,fun H1 s1=>?_⟩;refine⟨_,rfl,_,rfl,ta,_,1,u2,rfl,rfl,ZT.of (s1 _ _ hta),rfl,_,rfl,c,u2,g,t.others,kvs,rfl,h2.mono s1,L2',s1 _ _ hg,fun H2 s2=>?_⟩;refine⟨_,_,rfl,rfl,_,rfl,ta,_,2,_,rfl,rfl,ZT.of (s2 _ _ (s1 _ _ hta)),rfl,_,_,rfl,rfl,k H2 (s1.trans s2)⟩
abbrev E9:=Int×Str
def Wh(more:List E9):Nat->List YN->List Bool×List E9
 | _,[]=>([],more)
 | i,t::r =>
  (decide (0<=JW (fun c n=>decide ((c,n)∈(Wh more (i+1) r).2)) i t)::(Wh more (i+1) r).1,
   if decide (0<=JW (fun c n=>decide ((c,n)∈(Wh more (i+1) r).2)) i t)=true then (Wh more (i+1) r).2++t.named.toList else (Wh more (i+1) r).2)
def YT(kvs:B5)(gn:List E9):Prop:=∀c n,brk kvs c n=decide ((c,n)∈gn)
theorem YT.put(h:YT kvs gn):YT (Yo kvs (J2 c n) v) (gn ++ [(c,n)]):=by
 intro c' n';unfold brk;rw[Aa]
 by_cases e:J2 c' n'=J2 c n
 ·rw[if_pos e];have e':(c',n')=(c,n):=by
   unfold J2 at e;injection e with e1 e2
   injection e2 with e2 _
   cases e1;cases e2;rfl
  rw[e'];exact(xZ (xJ _ (xO.mpr rfl))).symm
 ·rw[if_neg e];refine(h c' n').trans ?_;have e':¬(c',n')=(c,n):=fun z=>e (by injection z with z1 z2;rw[z1,z2]);have:((c',n')∈gn ++ [(c,n)])↔((c',n')∈gn):=by rw[xI,xO];exact⟨fun z=>z.elim id (fun z=>absurd z e'),.inl⟩
  rw[decide_eq_decide];exact this.symm
theorem Iz(r:List Bool)(b:Bool):∀c:Nat,((List.replicate (c+1) false++r).map V.bl).set c (.bl b)=(List.replicate c false++(b::r)).map V.bl
 | 0=>rfl
 | c+1=>by
  rw[yZ,xX,xW,List.set_cons_succ,Iz r b c,yZ,xX,xW]
theorem ID(r:List Bool)(b:Bool):∀c:Nat,((List.replicate c false++(b::r)).map V.bl)[c]? = some (.bl b)
 | 0=>rfl
 | c+1=>by
  rw[yZ,xX,xW,List.getElem?_cons_succ];exact ID r b c
theorem dJ(h:c < n):ixN n (c:Int)=some c:=by
 unfold ixN;rw[if_pos (by lia),if_pos (by lia),zA]
inductive UT(vs:aG)(H:Hp)(Q:VK)(z3:XK):Prop
 |mk(l m) (ss) (ms) (more)(_:vs = [.ref l,.ref m])(_:ZV H ss l)(_:(∀t∈ss,AK t))(_:ss.length<=1000)(_:H m=some (.lst ms))(_:ZN H (more.map fun x=>B6 (some x)) ms)(_:more.length<=1000)(_:∀l2 H',H l2=none->H' l2=some (.lst ((Wh more 0 ss).1.map V.bl))->ZC H H'->Q (.ref l2) H')
abbrev Kg:Stmt:=top 64
theorem Qe(Zig:YA K mg "settled_with" Kg)(T:Txt mg)(C3:∃t,mg "NAMED" = some (.int 3 t))(Z0w:Fn P w K mg base "margin_without" ["suits","case","gone"] 2 VA):Fn P w K mg base "settled_with" ["suits","more"] 3 UT:=by
 obtain⟨t3,c_NAMED⟩:=C3;have r_NAMED:ZG (.int 3) (.int 3 t3):=⟨t3,rfl⟩;refine Zig.fq ["suits","more","gone","oath","standing","case"] fun H vs Q E hr h=>?_;obtain⟨l,m,ss,ms,more,rfl,hsu,hok,hlen,hm,hms,hml,k⟩:=h;refine⟨rfl,_,(Ze (Zv 2 NJ) (Ze (Wz PassesOwn.never rfl (Vl Q6) (Y7 3) (Zd (Bp hr Q7 Q8 Wq))) (Ze (Zv 4 (Zr Qo (Yh (Za Wq Zb)) (Zx Yx T.len Z8 (Za Q0 Zb)))) (Ze (Wz PassesOwn.never rfl (X4 T.range (Za (Zr BJ (Zx Yx T.len Z8 (Za Q0 Zb)) Zf) (Za (GY HD Zf) (Za (GY HD Zf) Zb)))) (Y7 5) (Ze (AR (Uk As (Zs Z0w (Za Q0 (Za Qa (Za Q7 Zb)))) Zf (Zp _)) (AB Q9 Qa AI)) (Zd (Zm (QW.pt (Uj (Vc (Zq Z3 Q9 Qa (fun _ _=>rfl))) (U5 (Zl Ad (Zq Ys (Zq Z3 Q0 Qa (fun _ _=>rfl)) (Yv c_NAMED r_NAMED) (fun _ _=>rfl)) Yi (Zp _))))) (Zd (Bp hr Q7 (Zq Ys (Zq Z3 Q0 Qa (fun _ _=>rfl)) (Yv c_NAMED r_NAMED) (fun _ _=>rfl)) Wq)) Zo)))) (Zd (Zn Q9)))))),?_⟩;have hz:=aC
 refine fun g hg=>?_;have S0:ZC H (upd H g (.dT [])):=ZC.new hg;have hml':ms.length=more.length:=by have:=hms.length;rw[xA] at this;exact this
 refine⟨_,rfl,m,rfl,⟨_,ZF.of (S0 _ _ hm)⟩,?_⟩;refine Af ms (fun i σ H'=>∃(kvs:B5)(v3:Option V),σ = [some (.ref l),some (.ref m),some (.ref g),v3,none,none]/\H' g=some (.dT kvs)/\YT kvs (more.take i)/\kvs.length<=i/\ZC H H') ⟨[],none,rfl,Zg,fun c n=>rfl,xH _,S0⟩ (fun i σ H' _ ⟨_,_,_,_,_,_,e⟩=>ZF.of (e _ _ hm)) ?_ ?_
 ·rintro i x σ H' hx ⟨kvs,v3,rfl,hg',hgi,hkl,sm⟩;obtain⟨d,hd,hrd⟩:=hms.get hx;rw[xK] at hd;obtain⟨⟨c,n⟩,ho⟩:∃o,more[i]? = some o:=by cases e:more[i]? with | none=>rw[e] at hd;cases hd | some t=>exact⟨t,rfl⟩
  rw[ho] at hd;cases hd;obtain⟨b,bs,rfl,hb,⟨y1,r1,rfl,e1,⟨y2,r2,rfl,e2,e3⟩⟩⟩:=hrd;cases e1;cases e2;cases e3;have hi:i < ms.length:=(xY.mp hx).1;refine⟨_,rfl,_,rfl,g,_,rfl,WH.t hg' (k:=J2 c n) (sm _ _ hb) (by lia),?_⟩;refine⟨_,_,rfl,Zg,?_,yK (J5 _ _ _) (by lia),?_⟩
  ·rw[yD,ho];exact hgi.put
  ·intro b' o e;rw[Zc (fun z=>by rw[z,hg] at e;cases e)];exact sm b' o e
 ·rintro σ H1 ⟨kvs,v3,rfl,hg1,hgi,hkl,sm1⟩;rw[hml',yI] at hgi;obtain⟨us,hl1,hrep1⟩:=hsu.mono sm1;have hul:us.length=ss.length:=by have:=hrep1.length;rw[xA] at this;exact this
  refine⟨aB rfl,fun q hq=>?_⟩;refine nw (o:=.lst [.bl false]) hq fun H2 S2 k2=>?_;refine⟨_,rfl,l,us,rfl,.inl (ZF.of (S2 _ _ hl1)),q,_,_,rfl,rfl,k2,by lia,by lia,?_,fun st hst=>?_⟩
  ·rw[zA,hul];show 1 * ss.length<=sizeLine;lia
  have hstH:H st=none:=(sm1.trans S2).free hst;have hgst:g≠st:=fun z=>by rw[← z,S2 _ _ hg1] at hst;cases hst
  have S3:=ZC.new (o:=.lst (List.replicate (us.length:Int).toNat [V.bl false]).flatten) hst;have k3:(upd H2 st (.lst (List.replicate (us.length:Int).toNat [V.bl false]).flatten)) st=some (.lst ((List.replicate ss.length false).map V.bl)):=by
   rw[Zg,zA,hul];have:∀n:Nat,(List.replicate n [V.bl false]).flatten=(List.replicate n false).map V.bl:=by
    intro n
    induction n with
    | zero=>rfl
    | succ n ih=>rw[yZ,zP,ih,yZ,xW];rfl
   rw[this]
  generalize (upd H2 st (.lst (List.replicate (us.length:Int).toNat [V.bl false]).flatten))=H3 at S3 k3 ⊢;have S13:=S2.trans S3;have sm3:=sm1.trans S13;refine⟨_,rfl,l,us,rfl,.inl (ZF.of (S13 _ _ hl1)),_,_,rfl,rfl,_,rfl,_,rfl,_,_,rfl,⟨by lia,by lia,aA,aA⟩,?_⟩
  refine bT ss.length (by lia) (fun i σ H'=>∃(kvs:B5)(v3 v5:Option V),σ = [some (.ref l),some (.ref m),some (.ref g),v3,some (.ref st),v5]/\
    H' st=some (.lst ((List.replicate (ss.length - i) false++(Wh more (ss.length - i) (ss.drop (ss.length - i))).1).map V.bl))/\H' g=some (.dT kvs)/\YT kvs (Wh more (ss.length - i) (ss.drop (ss.length - i))).2/\kvs.length<=1000+i/\ZC H H')
   ⟨kvs,_,none,rfl,?_,S13 _ _ hg1,?_,by lia,sm3⟩ ?_ ?_
  ·rw[Nat.sub_zero,List.drop_length,Wh,yM];exact k3
  ·rw[Nat.sub_zero,List.drop_length,Wh];exact hgi
  ·rintro i σ H' hi ⟨kvs,v3,v5,rfl,hst',hg',hgi',hkl',sm'⟩;obtain⟨c,hc⟩:∃c,ss.length - i=c+1:=⟨ss.length - i - 1,by lia⟩;have hc2:ss.length - (i+1)=c:=by lia
   have hcl:c < ss.length:=by lia
   have ec:((us.length:Int) - 1 - (i:Nat))=((c:Nat):Int):=by lia
   rw[hc] at hst' hgi';rw[ec,hc2];have ht:ss[c]? = some ss[c]:=xE hcl;have htm:ss[c]∈ss:=yY hcl;have ed:ss.drop c=ss[c]::ss.drop (c+1):=List.drop_eq_getElem_cons hcl;rw[ed];generalize ss[c]=t at ht htm ed ⊢;obtain⟨us',hl',hrep'⟩:=hsu.mono sm';have hg'':brk kvs=fun(a:Int) (n:Str)=>decide ((a,n)∈(Wh more (c+1) (ss.drop (c+1))).2):=funext fun a=>funext fun b=>hgi' a b;have hset:Wh more c (t::ss.drop (c+1))=(decide (0<=JW (brk kvs) c t)::(Wh more (c+1) (ss.drop (c+1))).1,if decide (0<=JW (brk kvs) c t)=true then (Wh more (c+1) (ss.drop (c+1))).2++t.named.toList else (Wh more (c+1) (ss.drop (c+1))).2):=by rw[hg'',Wh]
   rw[hset];generalize Wh more (c+1) (ss.drop (c+1))=R at hst' hgi' ⊢;refine⟨_,rfl,_,rfl,_,rfl,l,g,c,ss,t,kvs,rfl,hsu.mono sm',ht,hok t htm,hg',fun H4 s4=>?_⟩;have hst4:=s4 _ _ hst';refine⟨JW (brk kvs) c t,0,rfl,rfl,_,rfl,_,rfl,st,_,c,c,rfl,rfl,hst4,?_,?_⟩
   ·exact dJ (by rw[xA,xD,List.length_replicate];lia)
   dsimp only;generalize decide (0<=JW (brk kvs) c t)=b;rw[Iz];have sm5:ZC H (upd H4 st (.lst ((List.replicate c false++(b::R.1)).map V.bl))):=fun x o e=>by
    rw[Zc (fun z=>by rw[z,hstH] at e;cases e)];exact s4 _ _ (sm' _ _ e)
   have k5:(upd H4 st (.lst ((List.replicate c false++(b::R.1)).map V.bl))) st=some (.lst ((List.replicate c false++(b::R.1)).map V.bl)):=Zg;have hg5:(upd H4 st (.lst ((List.replicate c false++(b::R.1)).map V.bl))) g=some (.dT kvs):=by rw[Zc hgst];exact s4 _ _ hg'
   generalize (upd H4 st (.lst ((List.replicate c false++(b::R.1)).map V.bl)))=H5 at sm5 k5 hg5 ⊢;obtain⟨us5,hl5,hrep5⟩:=hsu.mono sm5;obtain⟨ta,u1,u2,u4,hu,hta,h1,h2,h4⟩:=ZV.get (l:=l) hrep5 ht;refine⟨_,rfl,_,rfl,st,_,c,.bl b,rfl,rfl,ZF.of k5,Yb (ID ..),b,rfl,?_⟩;cases b with
   | false =>
    refine Zy (Zy ?_);exact⟨kvs,_,_,rfl,k5,hg5,hgi',by lia,sm5⟩
   | true =>
    refine Z2 ?_;refine⟨_,rfl,_,rfl,l,us5,c,.ref ta,rfl,rfl,ZF.of hl5,Yb hu,ta,_,3,u4,rfl,rfl,ZT.of hta,rfl,rfl,_,rfl,?_⟩;cases hn:t.named with
    | none =>
     rw[hn] at h4;cases h4;refine Zy ?_;exact⟨kvs,_,_,rfl,k5,hg5,by show YT kvs (R.2 ++ []);rw[yM];exact hgi',by lia,sm5⟩
    | some o =>
     rw[hn] at h4;obtain⟨oc,on⟩:=o;obtain⟨d,bs,rfl,hb,⟨y1,r1,rfl,e1,⟨y2,r2,rfl,e2,e3⟩⟩⟩:=h4;cases e1;cases e2;cases e3;refine Z2 ?_;refine⟨_,rfl,_,rfl,_,rfl,l,us5,c,.ref ta,rfl,rfl,ZF.of hl5,Yb hu,ta,_,3,.ref d,rfl,rfl,ZT.of hta,rfl,?_⟩;refine⟨g,_,rfl,WH.t hg5 (k:=J2 oc on) hb (by lia),?_⟩;refine⟨_,_,_,rfl,by rw[Zc hgst.symm];exact k5,Zg,hgi'.put,yK (J5 _ _ _) (by lia),?_⟩;intro b' o e;rw[Zc (fun z=>by rw[z,hg] at e;cases e)];exact sm5 b' o e
  ·rintro σ H' ⟨kvs,v3,v5,rfl,hst',hg',hgi',hkl',sm'⟩;rw[Nat.sub_self] at hst';exact⟨_,rfl,k st H' hstH hst' sm'⟩
inductive Tq(vs:aG)(H:Hp)(Q:VK)(z3:XK):Prop
 |mk(l) (ss)(_:vs = [.ref l])(_:ZV H ss l)(_:(∀t∈ss,AK t))(_:ss.length<=1000)(_:∀l2 H',H l2=none->H' l2=some (.lst ((Wh [] 0 ss).1.map V.bl))->ZC H H'->Q (.ref l2) H')
abbrev Kd:Stmt:=top 63
theorem LQ(Zih:YA K mg "settled" Kd)(T:Txt mg)(Z0y:Fn P w K mg base "settled_with" ["suits","more"] 3 UT):Fn P w K mg base "settled" ["suits"] 4 Tq:=by
 refine Zih.fq ["suits"] fun H vs Q E hr h=>?_;obtain⟨l,ss,rfl,hsu,hok,hlen,k⟩:=h;refine⟨rfl,_,(Zd (Zn (Zs Z0y (Za Q0 (Za (Yh Zb) Zb))))),?_⟩;refine⟨_,rfl,aB rfl,fun q hq=>?_⟩;have S:=ZC.new (o:=.lst []) hq;exact⟨l,q,ss,[],[],rfl,hsu.mono S,hok,hlen,Zg,rfl,yO _,fun l2 H' h1 h2 h3=>k l2 H' (S.free h1) h2 (S.trans h3)⟩
section
variable{K:uFg}{C CM:eZ}
def fz(xs:eW)(H:Hp):Hp:=fun b=>if b∈xs then H b else match H b with
 | some (.tup t)=>some (.tup t)
 | _=>none
theorem Kf(h:fz xs H b=some o):H b=some o/\(b∈xs\/∃t,o = .tup t):=by
 unfold fz at h;split at h
 ·rename_i m;exact⟨h,.inl m⟩
 ·split at h
  ·rename_i t e;cases h;exact⟨e,.inr ⟨t,rfl⟩⟩
  ·cases h
theorem Cf(m:b∈xs)(h:H b=some o):fz xs H b=some o:=by unfold fz;rw[if_pos m];exact h
theorem Tz(h:H b=some (.tup t)):fz xs H b=some (.tup t):=by
 unfold fz;split
 ·exact h
 ·rw[h]
theorem dH:ZC (fz xs H) H:=fun _ _ e=>(Kf e).1
theorem AD(kt:Uo H H')(kx:∀x∈xs,∀o,H x=some o->H' x=some o)(s:∀x∈xs,x∈xs'):ZC (fz xs H) (fz xs' H'):=fun b o e=>by
 obtain⟨e,m | ⟨t,rfl⟩⟩:=Kf e
 ·exact Cf (s b m) (kx b m o e)
 ·exact Tz (kt b t e)
def Bd(H:Hp)(xs:eW)(l:eZ)(ds:List D):Prop:=∃vs,H l=some (.lst vs)/\ZN (fz xs H) ds vs
theorem Bd.mono(h:Bd H xs l ds)(k:∀o,H l=some o->H' l=some o)(s:ZC (fz xs H) (fz xs' H')):Bd H' xs' l ds :=
 let ⟨vs,a,b⟩:=h;⟨vs,k _ a,b.mono' s⟩
theorem Bd.get(h:Bd H xs l ds):∃vs,H l=some (.lst vs)/\ZN H ds vs/\vs.length=ds.length :=
 let ⟨vs,a,b⟩:=h;⟨vs,a,b.mono' dH,b.length⟩
structure ML where
 p:eZ
 L:FL
 ld:eZ
 lb:eZ
 lh:eZ
 lq:eZ
 lt:eZ
 ly:eZ
 lv:eZ
 dp:eZ
def Y9(M:ML):List (Str×V):=Zk "penances" (.ref M.dp) (Zk "verdicts" (.ref M.lv) (Zk "trial_days" (.ref M.ly) (Zk "trials" (.ref M.lt) (Zk "debts" (.ref M.lq) (Zk "happenings" (.ref M.lh) (Zk "bringings" (.ref M.lb) (Zk "folk" (.ref M.L.p) (Zk "deeds" (.ref M.ld) []))))))))
local macro_rules | `(tactic| walk_at "mf")=>`(tactic| (unfold Y9;repeat (first | rw[Yg,if_pos (by decide +kernel)] | rw[Yg,if_neg (by decide +kernel)])))
theorem BS(M:ML):(Y9 M).lookup ("deeds" : Str)=some (.ref M.ld):=by walk_at "mf"
theorem A0(M:ML):(Y9 M).lookup ("folk" : Str)=some (.ref M.L.p):=by walk_at "mf"
theorem BC(M:ML):(Y9 M).lookup ("bringings" : Str)=some (.ref M.lb):=by walk_at "mf"
theorem Lk(M:ML):(Y9 M).lookup ("happenings" : Str)=some (.ref M.lh):=by walk_at "mf"
theorem AH(M:ML):(Y9 M).lookup ("trials" : Str)=some (.ref M.lt):=by walk_at "mf"
theorem K3(M:ML):(Y9 M).lookup ("trial_days" : Str)=some (.ref M.ly):=by walk_at "mf"
theorem MS(M:ML):(Y9 M).lookup ("verdicts" : Str)=some (.ref M.lv):=by walk_at "mf"
theorem Nf(M:ML):(Y9 M).lookup ("penances" : Str)=some (.ref M.dp):=by walk_at "mf"
def ML.setv(M:ML)(l:eZ):ML:={M with lv:=l }
theorem dB(M:ML)(l:eZ):Zk "verdicts" (.ref l) (Y9 M)=Y9 (M.setv l):=by
 obtain⟨p,L,ld,lb,lh,lq,lt,ly,lv,dp⟩:=M;rfl
def DL(m:Str):Prop:=¬m = "penances" /\ ¬m = "verdicts" /\ ¬m = "trial_days" /\ ¬m = "trials" /\ ¬m = "debts" /\ ¬m = "happenings" /\ ¬m = "bringings" /\ ¬m = "folk" /\ ¬m = "deeds"
instance (m:Str):Decidable (DL m):=by unfold DL;exact inferInstance
theorem Wy(M:ML)(h:DL m:=by decide +kernel):(Y9 M).lookup m=none:=by
 obtain⟨a1,a2,a3,a4,a5,a6,a7,a8,a9⟩:=h;unfold Y9;rw[Yg,if_neg a1,Yg,if_neg a2,Yg,if_neg a3,Yg,if_neg a4,Yg,if_neg a5,Yg,if_neg a6,Yg,if_neg a7,Yg,if_neg a8,Yg,if_neg a9];rfl
abbrev Rb:=UY
structure ZU (K:uFg) (C:eZ):Prop where
 cl:VN K C
 nd:ZR K C "deeds"
 nf:ZR K C "folk"
 nb:ZR K C "bringings"
 nh:ZR K C "happenings"
 nq:ZR K C "debts"
 nt:ZR K C "trials"
 ny:ZR K C "trial_days"
 nv:ZR K C "verdicts"
 np:ZR K C "penances"
structure Mo where
 deeds:List D
 brs:List D
 haps:List (List D)
 debts:List D
 trials:List YN
 days:List Int
 verd:List Bool
 pen:Str->Option Int
 npen:Nat
def ML.ls(M:ML):List eZ:=[M.ld,M.lb,M.lq,M.lt,M.ly,M.lv]
def Mo.at_(m:Mo)(M:ML)(qs:eW):List (eZ×List D) :=
 (M.ld,m.deeds)::(M.lb,m.brs)::(M.lq,m.debts)::(M.lt,m.trials.map Wx)::(M.ly,m.days.map D.int)::(M.lv,m.verd.map D.bl)::qs.zip m.haps
structure ZE (C CM:eZ) (H:Hp) (M:ML) (ds:List ZO) (wa:eV) (xs:eW) (m:Mo) (qs:eW):Prop where
 ob:∃dx,H M.p=some (.ins CM dx (Y9 M))
 fk:Fk C H M.L ds wa
 ls:∀p∈m.at_ M qs,Bd H xs p.1 p.2
 hl:H M.lh=some (.lst (qs.map V.ref))
 hn:qs.length=m.haps.length
 pn:∃kvs:List (ZQ×V),H M.dp=some (.dK kvs)/\kvs.length<=m.npen/\∀n:Str,Z1 kvs (.inr n)=(m.pen n).map V.int
 nl:(M.lh::(M.ls++qs)).Nodup
 nx:∀x∈xs,x∉M.lh::(M.ls++qs)
 xl:∀x∈xs,∃vs,H x=some (.lst vs)
 np:M.p≠M.L.p
 nd:¬own M.L ds wa M.dp
def mo(M:ML)(ds:List ZO)(wa:eV)(xs qs:eW)(b:eZ):Prop:=b=M.p\/b=M.dp\/b∈M.lh::(M.ls++qs)\/b∈xs\/own M.L ds wa b
variable{M:ML}{qs:eW}{m:Mo}
theorem DP{p:eZ×List D}(h:p∈m.at_ M qs):p.1∈M.ls++qs:=by
 unfold Mo.at_ at h;simp only[xC] at h;rcases h with rfl | rfl | rfl | rfl | rfl | rfl | h
 iterate 6 (refine yQ _ ?_;unfold ML.ls;simp only[xC,true_or,or_true])
 exact xJ _ (zG h).1
theorem ZE.keep(h:ZE C CM H M ds wa xs m qs)(k:∀b o,mo M ds wa xs qs b->H b=some o->H' b=some o)(kt:Uo H H'):ZE C CM H' M ds wa xs m qs:=by
 obtain⟨⟨dx,ob⟩,fk,ls,hl,hn,⟨kvs,p1,p2,p3⟩,nl,nx,xl,np,nd⟩:=h;have s:=AD (xs:=xs) (xs':=xs) kt (fun x hx o e=>k x o (.inr (.inr (.inr (.inl hx)))) e) (fun _ z=>z);exact⟨⟨dx,k _ _ (.inl rfl) ob⟩,fk.at fun b o hb e=>k b o (.inr (.inr (.inr (.inr hb)))) e,fun p hp=>(ls p hp).mono (fun o e=>k _ o (.inr (.inr (.inl (xG _ (DP hp))))) e) s, k _ _ (.inr (.inr (.inl xQ))) hl,hn,⟨kvs,k _ _ (.inr (.inl rfl)) p1,p2,p3⟩,nl,nx,fun x hx=>let ⟨vs,e⟩:=xl x hx;⟨vs,k _ _ (.inr (.inr (.inr (.inl hx)))) e⟩,np,nd⟩
theorem ZE.same(h:ZE C CM H M ds wa xs m qs)(k:ZC H H'):ZE C CM H' M ds wa xs m qs:=h.keep (fun b o _ e=>k b o e) fun _ _ e=>k _ _ e
theorem ZE.nown(h:ZE C CM H M ds wa xs m qs)(e:H b=some (.lst ys)):¬own M.L ds wa b:=fun z=>by
 obtain⟨o,e',n1,_⟩:=h.fk.there z;rw[e] at e';cases e';exact n1 ys rfl
theorem ZE.pown(h:ZE C CM H M ds wa xs m qs):¬own M.L ds wa M.p:=fun z=>by
 obtain⟨dx,ob⟩:=h.ob;obtain⟨⟨_,⟨k1,c1,_⟩,⟨k2,w1,_⟩,⟨k3,d1,_⟩,⟨k4,h1,_⟩,_⟩,⟨⟨k5,x1,x2,x3⟩,_⟩,_⟩:=h.fk;rcases z with z | z | z | z | z | ⟨n,l,e,z⟩
 ·exact h.np z
 ·rw[z,c1] at ob;cases ob
 ·rw[z,w1] at ob;cases ob
 ·rw[z,d1] at ob;cases ob
 ·rw[z,h1] at ob;cases ob
 ·rw[z,(x3 n l e).2.1] at ob;cases ob
theorem ZE.folk(h:ZE C CM H M ds wa xs m qs)(F:Fk C H' M.L ds' wa')(t:VQ M.L ds wa H H')(f:Fd M.L ds wa ds' wa' H):ZE C CM H' M ds' wa' xs m qs:=by
 have T:=VQ.lt h.fk t;have pw:=h.pown;obtain⟨⟨dx,ob⟩,fk,ls,hl,hn,⟨kvs,p1,p2,p3⟩,nl,nx,xl,np,nd⟩:=h;have s:=AD (xs:=xs) (xs':=xs) T.2 (fun x hx o e=>by obtain⟨vs,e'⟩:=xl x hx;rw[e] at e';cases e';exact T.1 _ _ e) (fun _ z=>z)
 exact⟨⟨dx,t _ _ ob pw⟩,F,fun p hp=>by
  obtain⟨vs,a,b⟩:=ls p hp
  exact⟨vs,T.1 _ _ a,b.mono' s⟩,T.1 _ _ hl,hn,⟨kvs,t _ _ p1 nd,p2,p3⟩,nl,nx,fun x hx=>let ⟨vs,e⟩:=xl x hx;⟨vs,T.1 _ _ e⟩,np,fun z=>(f _ z).elim nd fun z=>by rw[p1] at z;cases z⟩
end
section
variable{M:ML}{qs:eW}
theorem DO{l:eZ}(h:l∈M.ls++qs):l∈M.lh::(M.ls++qs):=xG _ h
theorem ZE.lst(h:ZE C CM H M ds wa xs m qs)(hl:l∈M.lh::(M.ls++qs)):∃ys,H l=some (.lst ys):=by
 rcases xC.mp hl with rfl | hl
 ·exact⟨_,h.hl⟩
 have:∃p∈m.at_ M qs,p.1=l:=by
  rcases xI.mp hl with z | z
  ·unfold ML.ls at z;simp only[xC,xT,or_false] at z;unfold Mo.at_;rcases z with rfl | rfl | rfl | rfl | rfl | rfl
   ·exact⟨(M.ld,m.deeds),by simp,rfl⟩
   ·exact⟨(M.lb,m.brs),by simp,rfl⟩
   ·exact⟨(M.lq,m.debts),by simp,rfl⟩
   ·exact⟨(M.lt,m.trials.map Wx),by simp,rfl⟩
   ·exact⟨(M.ly,m.days.map D.int),by simp,rfl⟩
   ·exact⟨(M.lv,m.verd.map D.bl),by simp,rfl⟩
  ·obtain⟨i,hi,e⟩:=List.getElem_of_mem z;have hi':i < m.haps.length:=h.hn▸hi;refine⟨(qs[i],m.haps[i]),?_,e⟩;have:(qs[i],m.haps[i])∈qs.zip m.haps:=xN (i:=i) (by rw[zN];exact⟨xE hi,xE hi'⟩);exact xJ [(M.ld,m.deeds),(M.lb,m.brs),(M.lq,m.debts),(M.lt,m.trials.map Wx),(M.ly,m.days.map D.int),(M.lv,m.verd.map D.bl)] this
 obtain⟨p,hp,rfl⟩:=this;obtain⟨vs,e,_⟩:=h.ls p hp;exact⟨vs,e⟩
theorem ZE.there(h:ZE C CM H M ds wa xs m qs)(hb:mo M ds wa xs qs b):∃o,H b=some o:=by
 rcases hb with rfl | rfl | hb | hb | hb
 ·obtain⟨dx,e⟩:=h.ob;exact⟨_,e⟩
 ·obtain⟨kvs,e,_⟩:=h.pn;exact⟨_,e⟩
 ·obtain⟨ys,e⟩:=h.lst hb;exact⟨_,e⟩
 ·obtain⟨ys,e⟩:=h.xl b hb;exact⟨_,e⟩
 ·obtain⟨o,e,_⟩:=h.fk.there hb;exact⟨o,e⟩
theorem ZE.put(h:ZE C CM H M ds wa xs m qs)(hl:l∈M.ls++qs)(e1:m'.haps.length=m.haps.length)(e2:m'.pen=m.pen)(e3:m'.npen=m.npen)(k:∀p∈m'.at_ M qs,(p∈m.at_ M qs/\p.1≠l)\/(p.1=l/\ZN (fz xs H) p.2 zs)):ZE C CM (upd H l (.lst zs)) M ds wa xs m' qs:=by
 obtain⟨ys,e⟩:=h.lst (DO hl);have nw:=h.nown e;have hh:=h;obtain⟨⟨dx,ob⟩,fk,ls,lh,hn,⟨kvs,p1,p2,p3⟩,nl,nx,xl,np,nd⟩:=h;have kt:Uo H (upd H l (.lst zs)):=KM e;have kx:∀x∈xs,x≠l:=fun x hx z=>nx x hx (z▸DO hl);have s:ZC (fz xs H) (fz xs (upd H l (.lst zs))):=AD kt (fun x hx o e=>by rw[Zc (kx x hx)];exact e) (fun _ z=>z);have nh:M.lh≠l:=fun z=>(yT.mp nl).1 (z▸hl)
 refine⟨⟨dx,by rw[Zc (fun z=>by rw[z,e] at ob;cases ob)];exact ob⟩,fk.at fun b o hb eb=>by rw[Zc (fun z:b=l=>nw (z▸hb))];exact eb,fun p hp=>?_,by rw[Zc nh];exact lh,by rw[e1];exact hn,
  ⟨kvs,by rw[Zc (fun z=>by rw[z,e] at p1;cases p1)];exact p1,by rw[e3];exact p2,by rw[e2];exact p3⟩,nl,nx,fun x hx=>?_,np,nd⟩
 ·rcases k p hp with⟨a,b⟩ | ⟨a,b⟩
  ·exact(ls p a).mono (fun o e=>by rw[Zc b];exact e) s
  ·exact⟨zs,by rw[a,Zg],b.mono' s⟩
 ·obtain⟨vs,e⟩:=xl x hx;exact⟨vs,by rw[Zc (kx x hx)];exact e⟩
theorem ZE.freeze(h:ZE C CM H M ds wa xs m qs)(e:H a=some (.lst vs))(n:a∉M.lh::(M.ls++qs)):ZE C CM H M ds wa (a::xs) m qs:=by
 obtain⟨ob,fk,ls,lh,hn,pn,nl,nx,xl,np,nd⟩:=h;have s:ZC (fz xs H) (fz (a::xs) H):=AD (fun _ _ e=>e) (fun _ _ _ e=>e) (fun _ z=>xG _ z);exact⟨ob,fk,fun p hp=>(ls p hp).mono (fun _ e=>e) s,lh,hn,pn,nl,fun x hx=>(xC.mp hx).elim (fun z=>z▸n) (nx x),fun x hx=>(xC.mp hx).elim (fun z=>⟨vs,z▸e⟩) (xl x),np,nd⟩
theorem ZE.setv(h:ZE C CM H M ds wa xs m qs)(e:H M.p=some (.ins CM dx (Y9 M)))(hl:H l=some (.lst (bs.map V.bl)))(n:¬mo M ds wa xs qs l) :
  ZE C CM (upd H M.p (.ins CM dx (Y9 (M.setv l)))) (M.setv l) ds wa xs {m with verd:=bs } qs:=by
 have hh:=h;obtain⟨_,fk,ls,lh,hn,⟨kvs,p1,p2,p3⟩,nl,nx,xl,np,nd⟩:=h;have ll:∀l∈M.lh::(M.ls++qs),l≠M.p:=fun l hl z=>by obtain⟨ys,e'⟩:=hh.lst hl;rw[z,e] at e';cases e'
 have nlp:l≠M.p:=fun z=>n (.inl z);have kt:Uo H (upd H M.p (.ins CM dx (Y9 (M.setv l)))):=fun b t eb=>by rw[Zc (fun z=>by rw[z,e] at eb;cases eb)];exact eb
 have kx:∀x∈xs,x≠M.p:=fun x hx z=>by obtain⟨vs,e'⟩:=xl x hx;rw[z,e] at e';cases e'
 have s:ZC (fz xs H) (fz xs (upd H M.p (.ins CM dx (Y9 (M.setv l))))):=AD kt (fun x hx o e=>by rw[Zc (kx x hx)];exact e) (fun _ z=>z);have pw:=hh.pown;have rb:∀(H:Hp)(bs:List Bool),ZN H (bs.map D.bl) (bs.map V.bl):=fun H bs=>by
  induction bs with
  | nil=>rfl
  | cons b r ih=>exact⟨_,_,rfl,rfl,ih⟩
 have nm:∀x,x∈M.lh::((M.setv l).ls++qs)->x∈M.lh::(M.ls++qs)\/x=l:=fun x hx=>by
  simp only[ML.ls,ML.setv,xC,xI,xT,or_false] at hx ⊢;rcases hx with z | (z | z | z | z | z | z) | z<;>simp[z]
 have nlm:l∉M.lh::(M.ls++qs):=fun z=>n (.inr (.inr (.inl z)))
 refine⟨⟨dx,Zg⟩,fk.at fun b o hb eb=>by rw[Zc (fun z:b=M.p=>pw (z▸hb))];exact eb,fun p hp=>?_,by show (upd H M.p _) M.lh=_;rw[Zc (ll _ xQ)];exact lh,hn,
  ⟨kvs,by show (upd H M.p _) M.dp=_;rw[Zc (fun z=>by rw[z,e] at p1;cases p1)];exact p1,p2,p3⟩,?_,fun x hx z=>(nm x z).elim (nx x hx) (fun z=>n (.inr (.inr (.inr (.inl (z▸hx)))))),fun x hx=>?_,np,nd⟩
 ·by_cases z:p=(l,bs.map D.bl)
  ·subst z;exact⟨_,by show (upd H M.p _) l=_;rw[Zc nlp];exact hl,rb _ bs⟩
  ·have hp':p∈m.at_ M qs:=by
    simp only[Mo.at_,ML.setv,xC] at hp ⊢;rcases hp with y | y | y | y | y | y | y
    ·exact .inl y
    ·exact .inr (.inl y)
    ·exact .inr (.inr (.inl y))
    ·exact .inr (.inr (.inr (.inl y)))
    ·exact .inr (.inr (.inr (.inr (.inl y))))
    ·exact absurd y z
    ·exact .inr (.inr (.inr (.inr (.inr (.inr y)))))
   exact(ls p hp').mono (fun o e=>by rw[Zc (ll _ (DO (DP hp')))];exact e) s
 ·simp only[ML.ls,ML.setv,yT,xC,xI,xX,zT,not_or] at nl nlm ⊢;obtain⟨⟨a1,a2,a3,a4,a5,a6,a7⟩,⟨b2,b3,b4,b5,b6,b7⟩,⟨c3,c4,c5,c6,c7⟩,⟨d4,d5,d6,d7⟩,⟨f5,f6,f7⟩,⟨g6,g7⟩,k7,k8⟩:=nl;obtain⟨m0,m1,m2,m3,m4,m5,m6,m7⟩:=nlm;exact⟨⟨a1,a2,a3,a4,a5,Ne.symm m0,a7⟩,⟨b2,b3,b4,b5,Ne.symm m1,b7⟩,⟨c3,c4,c5,Ne.symm m2,c7⟩,⟨d4,d5,Ne.symm m3,d7⟩,⟨f5,Ne.symm m4,f7⟩,⟨Ne.symm m5,g7⟩,m7,k8⟩
 ·obtain⟨vs,e'⟩:=xl x hx;exact⟨vs,by rw[Zc (kx x hx)];exact e'⟩
end
theorem ZE.rep(h:ZE C CM H M ds wa xs m qs)(hp:(l,c)∈m.at_ M qs)(e:H l=some (.lst vs)):ZN (fz xs H) c vs:=by
 obtain⟨vs',e',r⟩:=h.ls _ hp;rw[e] at e';cases e';exact r
theorem ZE.deed(h:ZE C CM H M ds wa xs m qs)(e:H M.ld=some (.lst vs))(hd:YH (fz xs H) d v):ZE C CM (upd H M.ld (.lst (vs ++ [v]))) M ds wa xs {m with deeds:=m.deeds ++ [d] } qs:=by
 have r:=h.rep (l:=M.ld) (c:=m.deeds) (by simp[Mo.at_]) e;have nl:=h.nl;simp only[ML.ls,yT,xC,xI,xX,zT,not_or] at nl;obtain⟨_,⟨b2,b3,b4,b5,b6,b7⟩,⟨c3,c4,c5,c6,c7⟩,⟨d4,d5,d6,d7⟩,⟨f5,f6,f7⟩,⟨g6,g7⟩,k7,k8⟩:=nl;refine h.put (l:=M.ld) (by simp[ML.ls]) rfl rfl rfl fun p hp=>?_;simp only[Mo.at_,xC] at hp ⊢;rcases hp with rfl | rfl | rfl | rfl | rfl | rfl | hp
 ·exact .inr ⟨rfl,r.snoc hd⟩
 ·exact .inl ⟨by simp,Ne.symm b2⟩
 ·exact .inl ⟨by simp,Ne.symm b3⟩
 ·exact .inl ⟨by simp,Ne.symm b4⟩
 ·exact .inl ⟨by simp,Ne.symm b5⟩
 ·exact .inl ⟨by simp,Ne.symm b6⟩
 ·exact .inl ⟨by simp[hp],fun z=>b7 (z▸(zG hp).1)⟩
theorem ZE.trial(h:ZE C CM H M ds wa xs m qs)(e:H M.lt=some (.lst vs))(hd:YH (fz xs H) (Wx d) v):ZE C CM (upd H M.lt (.lst (vs ++ [v]))) M ds wa xs {m with trials:=m.trials ++ [d] } qs:=by
 have r:=h.rep (l:=M.lt) (c:=m.trials.map Wx) (by simp[Mo.at_]) e;have nl:=h.nl;simp only[ML.ls,yT,xC,xI,xX,zT,not_or] at nl;obtain⟨_,⟨b2,b3,b4,b5,b6,b7⟩,⟨c3,c4,c5,c6,c7⟩,⟨d4,d5,d6,d7⟩,⟨f5,f6,f7⟩,⟨g6,g7⟩,k7,k8⟩:=nl;refine h.put (l:=M.lt) (by simp[ML.ls]) rfl rfl rfl fun p hp=>?_;simp only[Mo.at_,xC] at hp ⊢;rcases hp with rfl | rfl | rfl | rfl | rfl | rfl | hp
 ·exact .inl ⟨by simp,b4⟩
 ·exact .inl ⟨by simp,c4⟩
 ·exact .inl ⟨by simp,d4⟩
 ·exact .inr ⟨rfl,by rw[xM];exact r.snoc hd⟩
 ·exact .inl ⟨by simp,Ne.symm f5⟩
 ·exact .inl ⟨by simp,Ne.symm f6⟩
 ·exact .inl ⟨by simp[hp],fun z=>f7 (z▸(zG hp).1)⟩
theorem ZE.day(h:ZE C CM H M ds wa xs m qs)(e:H M.ly=some (.lst vs))(hd:YH (fz xs H) (.int d) v):ZE C CM (upd H M.ly (.lst (vs ++ [v]))) M ds wa xs {m with days:=m.days ++ [d] } qs:=by
 have r:=h.rep (l:=M.ly) (c:=m.days.map D.int) (by simp[Mo.at_]) e;have nl:=h.nl;simp only[ML.ls,yT,xC,xI,xX,zT,not_or] at nl;obtain⟨_,⟨b2,b3,b4,b5,b6,b7⟩,⟨c3,c4,c5,c6,c7⟩,⟨d4,d5,d6,d7⟩,⟨f5,f6,f7⟩,⟨g6,g7⟩,k7,k8⟩:=nl;refine h.put (l:=M.ly) (by simp[ML.ls]) rfl rfl rfl fun p hp=>?_;simp only[Mo.at_,xC] at hp ⊢;rcases hp with rfl | rfl | rfl | rfl | rfl | rfl | hp
 ·exact .inl ⟨by simp,b5⟩
 ·exact .inl ⟨by simp,c5⟩
 ·exact .inl ⟨by simp,d5⟩
 ·exact .inl ⟨by simp,f5⟩
 ·exact .inr ⟨rfl,by rw[xM];exact r.snoc hd⟩
 ·exact .inl ⟨by simp,Ne.symm g6⟩
 ·exact .inl ⟨by simp[hp],fun z=>g7 (z▸(zG hp).1)⟩
theorem ZE.brg(h:ZE C CM H M ds wa xs m qs)(e:H M.lb=some (.lst vs))(hd:YH (fz xs H) d v):ZE C CM (upd H M.lb (.lst (vs ++ [v]))) M ds wa xs {m with brs:=m.brs ++ [d] } qs:=by
 have r:=h.rep (l:=M.lb) (c:=m.brs) (by simp[Mo.at_]) e;have nl:=h.nl;simp only[ML.ls,yT,xC,xI,xX,zT,not_or] at nl;obtain⟨_,⟨b2,b3,b4,b5,b6,b7⟩,⟨c3,c4,c5,c6,c7⟩,⟨d4,d5,d6,d7⟩,⟨f5,f6,f7⟩,⟨g6,g7⟩,k7,k8⟩:=nl;refine h.put (l:=M.lb) (by simp[ML.ls]) rfl rfl rfl fun p hp=>?_;simp only[Mo.at_,xC] at hp ⊢;rcases hp with rfl | rfl | rfl | rfl | rfl | rfl | hp
 ·exact .inl ⟨by simp,b2⟩
 ·exact .inr ⟨rfl,r.snoc hd⟩
 ·exact .inl ⟨by simp,Ne.symm c3⟩
 ·exact .inl ⟨by simp,Ne.symm c4⟩
 ·exact .inl ⟨by simp,Ne.symm c5⟩
 ·exact .inl ⟨by simp,Ne.symm c6⟩
 ·exact .inl ⟨by simp[hp],fun z=>c7 (z▸(zG hp).1)⟩
theorem ZE.hap(h:ZE C CM H M ds wa xs m qs){q:eZ}(hq:qs[i]? = some q)(hc:m.haps[i]? = some c)(e:H q=some (.lst vs))(hd:YH (fz xs H) d v) :
  ZE C CM (upd H q (.lst (vs ++ [v]))) M ds wa xs {m with haps:=m.haps.set i (c ++ [d]) } qs:=by
 have mq:q∈qs:=xN hq;have mz:(q,c)∈qs.zip m.haps:=xN (i:=i) (by rw[zN];exact⟨hq,hc⟩);have r:=h.rep (l:=q) (c:=c) (by simp[Mo.at_,mz]) e;have nl:=h.nl;simp only[ML.ls,yT,xC,xI,xX,zT,not_or] at nl;obtain⟨_,⟨b2,b3,b4,b5,b6,b7⟩,⟨c3,c4,c5,c6,c7⟩,⟨d4,d5,d6,d7⟩,⟨f5,f6,f7⟩,⟨g6,g7⟩,k7,k8⟩:=nl;refine h.put (l:=q) (xJ _ mq) (List.length_set ..) rfl rfl fun p hp=>?_;simp only[Mo.at_,xC] at hp ⊢;rcases hp with rfl | rfl | rfl | rfl | rfl | rfl | hp
 ·exact .inl ⟨by simp,fun z:M.ld=q=>b7 (z▸mq)⟩
 ·exact .inl ⟨by simp,fun z:M.lb=q=>c7 (z▸mq)⟩
 ·exact .inl ⟨by simp,fun z:M.lq=q=>d7 (z▸mq)⟩
 ·exact .inl ⟨by simp,fun z:M.lt=q=>f7 (z▸mq)⟩
 ·exact .inl ⟨by simp,fun z:M.ly=q=>g7 (z▸mq)⟩
 ·exact .inl ⟨by simp,fun z:M.lv=q=>k7 (z▸mq)⟩
 ·obtain⟨j,hj⟩:=List.getElem?_of_mem hp;rw[zN] at hj;obtain⟨j1,j2⟩:=hj
  by_cases z:i=j
  ·subst z;rw[hq] at j1;injection j1 with j1
   rw[List.getElem?_set_self (by
    rcases Nat.lt_or_ge i m.haps.length with y | y
    ·exact y
    ·rw[zV y] at hc;cases hc)] at j2
   injection j2 with j2
   exact .inr ⟨j1.symm,by rw[← j2];exact r.snoc hd⟩
  ·rw[List.getElem?_set_ne z] at j2;refine .inl ⟨.inr (.inr (.inr (.inr (.inr (.inr (xN (i:=j) (by rw[zN];exact⟨j1,j2⟩))))))),fun y=>z ?_⟩;have li:i < qs.length:=(xY.mp hq).1;exact(List.getElem?_inj li k8).mp (by rw[hq,j1,y])
theorem ZE.newq(h:ZE C CM H M ds wa xs m qs){q:eZ}(hq:H q=some (.lst []))(n:¬mo M ds wa xs qs q) :
  ZE C CM (upd H M.lh (.lst ((qs ++ [q]).map V.ref))) M ds wa xs {m with haps:=m.haps ++ [[]] } (qs ++ [q]):=by
 have hh:=h;have nw:=h.nown h.hl;obtain⟨⟨dx,ob⟩,fk,ls,lh,hn,⟨kvs,p1,p2,p3⟩,nl,nx,xl,np,nd⟩:=h;have kt:Uo H (upd H M.lh (.lst ((qs ++ [q]).map V.ref))):=KM lh;have kx:∀x∈xs,x≠M.lh:=fun x hx z=>nx x hx (z▸xQ);have s:ZC (fz xs H) (fz xs (upd H M.lh (.lst ((qs ++ [q]).map V.ref)))):=AD kt (fun x hx o e=>by rw[Zc (kx x hx)];exact e) (fun _ z=>z);have nh:M.lh∉M.ls++qs:=(yT.mp nl).1;have nq:q∉M.lh::(M.ls++qs):=fun z=>n (.inr (.inr (.inl z)));have nqh:q≠M.lh:=fun z=>nq (z▸xQ)
 refine⟨⟨dx,by rw[Zc (fun z=>by rw[z,lh] at ob;cases ob)];exact ob⟩,fk.at fun b o hb eb=>by rw[Zc (fun z:b=M.lh=>nw (z▸hb))];exact eb,fun p hp=>?_,Zg,by rw[xD,hn];show _=(m.haps ++ [[]]).length;rw[xD];rfl,
  ⟨kvs,by rw[Zc (fun z=>by rw[z,lh] at p1;cases p1)];exact p1,p2,p3⟩,?_,fun x hx z=>?_,fun x hx=>?_,np,nd⟩
 ·by_cases z:p=(q,[])
  ·subst z;exact⟨[],by show (upd H M.lh _) q=_;rw[Zc nqh];exact hq,rfl⟩
  ·have hp':p∈m.at_ M qs:=by
    simp only[Mo.at_,xC] at hp ⊢;rw[List.zip_append hn] at hp;rcases hp with y | y | y | y | y | y | y
    ·exact .inl y
    ·exact .inr (.inl y)
    ·exact .inr (.inr (.inl y))
    ·exact .inr (.inr (.inr (.inl y)))
    ·exact .inr (.inr (.inr (.inr (.inl y))))
    ·exact .inr (.inr (.inr (.inr (.inr (.inl y)))))
    ·rcases xI.mp y with y | y
     ·exact .inr (.inr (.inr (.inr (.inr (.inr y)))))
     ·exact absurd (xO.mp y) z
   exact(ls p hp').mono (fun o e=>by rw[Zc (fun z:p.1=M.lh=>nh (z▸DP hp'))];exact e) s
 ·grind
 ·rw[← yH,← xX] at z;rcases xI.mp z with z | z
  ·exact nx x hx z
  ·exact n (.inr (.inr (.inr (.inl (xO.mp z▸hx)))))
 ·obtain⟨vs,e'⟩:=xl x hx;exact⟨vs,by rw[Zc (kx x hx)];exact e'⟩
section
variable{C CM:eZ}{c:eV}
abbrev errs:List Str:=["NoMeasure","Unknown","NoThing","NoCase","NoOath","NotYet","Dead","TooMany","SwornTwice","Forsworn","TooLight","Broken","NoDeed"]
theorem V0{d:Int}(h:d.natAbs<=1000000000000000000):d.natAbs.log2 < 1920:=by
 by_cases z:d.natAbs=0
 ·rw[z];decide +kernel
 ·rw[Nat.log2_lt z];exact yU h aA
def okI(d:Int):Prop:=d.natAbs<=1000000000000000000
def due(E:XK)(c:eV)(H:Hp)(k:Prop):Option Str->Prop
 | none=>k
 | some x=>E (.ref (c x)) none H
def JT(d:Int):Option Str:=if 1<=d/\d<=12000 then none else some "NoMeasure"
inductive UP(c:eV)(vs:aG)(H:Hp)(Q:VK)(E:XK):Prop
 |mk(d)(_:vs = [.int d])(_:okI d)(_:due E c H (Q .non H) (JT d))
abbrev Gc:Stmt:=top 38
theorem RC(Zii:YA K mg "check_need" Gc)(C0:∃t,mg "MOST_NEED" = some (.int 12000 t))(er:Er K mg c errs):YZ P w K mg base "check_need" 1 (UP c):=by
 obtain⟨t0,c_MOST_NEED⟩:=C0;have r_MOST_NEED:ZG (.int 12000) (.int 12000 t0):=⟨t0,rfl⟩;refine Zii.fx ["need"] ["need"] fun H vs Q E hr h=>?_;obtain⟨d,rfl,hs,k⟩:=h;refine⟨rfl,_,(Zd (Zm (Vr (Bb Vm Vm Zf Q0 (Yv c_MOST_NEED r_MOST_NEED))) (Zd (Wf Yy er (Wu (Wc Q0 (Y8 Wt))))) Zo)),?_⟩;unfold JT at k;refine⟨_,rfl,_,_,rfl,rfl,_,rfl,Zu (fun h0=>?_) (fun z=>?_)⟩
 ·refine⟨_,_,rfl,rfl,_,rfl,Wd (fun z=>?_) (fun h1=>?_)⟩
  ·rw[if_neg (fun y=>z y.2)] at k;exact⟨_,rfl,.inr ⟨d,rfl,V0 hs⟩,aA,fun _=>k⟩
  ·rw[if_pos ⟨h0,h1⟩] at k;exact k
 ·rw[if_neg (fun y=>z y.1)] at k;exact⟨false,rfl,Z2 ⟨_,rfl,.inr ⟨d,rfl,V0 hs⟩,aA,fun _=>k⟩⟩
def TC(ds:List ZO)(n:Str):Option Str:=if Zz ds n=none then some "Unknown" else none
inductive VD(C:eZ)(c:eV)(vs:aG)(H:Hp)(Q:VK)(E:XK):Prop
 |mk(L) (ds) (n)(_:vs = [.ref L.p,.str n])(_:ZX C H L ds)(_:n.length<=100)(_:due E c H (Q .non H) (TC ds n))
theorem Xe(Zcv:ZS K C "check_known" "Folk.check_known" EV)(Tc:UY K C)(er:Er K mg c errs):WA P w K mg base C "check_known" 1 (VD C c):=by
 refine Zcv.mx ["self","name"] ["self","name"] fun H vs Q E hr h=>?_;obtain⟨L,ds,n,rfl,F,ho,k⟩:=h;refine⟨rfl,_,(Zd (Zm (Zl (EO hr) Q6 (Z5 Q0) rfl) (Zd (Wf Yy er (Wu (Y8 (Wc Q6 Wt))))) Zo)),?_⟩;obtain⟨dx,ob⟩:=F.ob;obtain⟨kvs,c1,c2,c3⟩:=F.c;refine⟨_,rfl,_,rfl,L.p,C,dx,_,_,rfl,ob,Tc.cl,Tc.nc,Ai _ _ _ _,L.dc,_,rfl,ZY.k (k:=Sum.inr n) c1,_,rfl,?_⟩;unfold TC at k;rw[c3];cases hn:Zz ds n with
 | none =>
  rw[if_pos hn] at k;exact Z2 ⟨aA,_,rfl,.inl ⟨n,rfl,by lia⟩,fun _=>k⟩
 | some d =>
  rw[if_neg (by rw[hn];intro z;cases z)] at k;exact Zy k
def Ve(d day:Int):Option Str:=if day < d then some "NotYet" else none
inductive VG(C:eZ)(c:eV)(vs:aG)(H:Hp)(Q:VK)(E:XK):Prop
 |mk(L) (ds) (n) (d day)(_:vs = [.ref L.p,.str n,.int day])(_:ZX C H L ds)(_:Zz ds n=some d)(_:n.length<=100)(_:okI day)(_:due E c H (Q .non H) (Ve d day))
theorem RS(Zcw:ZS K C "check_there" "Folk.check_there" Eg)(Tc:UY K C)(er:Er K mg c errs):WA P w K mg base C "check_there" 1 (VG C c):=by
 refine Zcw.mx ["self","name","day"] ["self","name","day"] fun H vs Q E hr h=>?_;obtain⟨L,ds,n,d,day,rfl,F,hn,ho,hi,k⟩:=h;refine⟨rfl,_,(Zd (Zm (Zl Ua Q7 (BA hr (Z5 Q0) Q6 (fun _ _=>rfl)) (Zp _)) (Zd (Wf Yy er (Wu (Wc Q6 (Y8 (Wc Q7 Wt)))))) Zo)),?_⟩;obtain⟨dx,ob⟩:=F.ob;obtain⟨kvs,c1,c2,c3⟩:=F.c;have g:=ZY.k (k:=Sum.inr n) c1;rw[c3,hn] at g;refine⟨_,rfl,_,rfl,L.p,C,dx,_,_,rfl,ob,Tc.cl,Tc.nc,Ai _ _ _ _,_,rfl,L.dc,.int d,rfl,g,?_⟩;unfold Ve at k;refine⟨_,_,rfl,rfl,_,rfl,Zu (fun z=>?_) (fun z=>?_)⟩
 ·rw[if_pos z] at k;exact⟨_,rfl,.inl ⟨n,rfl,by lia⟩,aA,_,rfl,.inr ⟨day,rfl,V0 hi⟩,fun _=>k⟩
 ·rw[if_neg z] at k;exact k
def Aj(ds:List ZO)(n:Str)(day:Int):Option Str:=if AW ds n day=true then some "Dead" else none
inductive WK(C:eZ)(c:eV)(vs:aG)(H:Hp)(Q:VK)(E:XK):Prop
 |mk(L) (ds) (n) (day)(_:vs = [.ref L.p,.str n,.int day])(_:ZX C H L ds)(_:n.length<=100)(_:okI day)(_:due E c H (Q .non H) (Aj ds n day))
theorem MB(Zij:ZS K C "check_living" "Folk.check_living" GO)(Tc:UY K C)(er:Er K mg c errs)(M_died_by:Mt P w K mg base C "died_by" ["self","name","day"] 1 (VJ C)):WA P w K mg base C "check_living" 2 (WK C c):=by
 refine Zij.mx ["self","name","day"] ["self","name","day"] fun H vs Q E hr h=>?_;obtain⟨L,ds,n,day,rfl,F,ho,hi,k⟩:=h;refine⟨rfl,_,(Zd (Zm (Vc (Vi Q0 Tc.cl M_died_by (Za Q6 (Za Q7 Zb)))) (Zd (Wf Yy er (Wu (Wc Q6 (Y8 (Wc Q7 Wt)))))) Zo)),?_⟩;obtain⟨dx,ob⟩:=F.ob;refine⟨_,rfl,L.p,dx,_,rfl,ob,U9 _ _ _ _ aA,_,rfl,_,rfl,L,ds,n,day,rfl,F,_,rfl,?_⟩;unfold Aj at k;cases hd:AW ds n day with
 | true =>
  rw[if_pos hd] at k;exact Z2 ⟨_,rfl,.inl ⟨n,rfl,by lia⟩,aA,_,rfl,.inr ⟨day,rfl,V0 hi⟩,fun _=>k⟩
 | false =>
  rw[if_neg (by rw[hd];decide)] at k;exact Zy k
abbrev inB(i:Int)(n:Nat):Prop:=0<=i/\i < n
def TU(m:Mo)(i:Int):Option Str:=if inB i m.brs.length then none else some "NoThing"
inductive VL(C CM:eZ)(c:eV)(vs:aG)(H:Hp)(Q:VK)(E:XK):Prop
 |mk(M) (ds) (wa) (xs) (m) (qs) (i)(_:vs = [.ref M.p,.int i])(_:ZE C CM H M ds wa xs m qs)(_:okI i)(_:due E c H (Q .non H) (TU m i))
abbrev Ki:Stmt:=Yr (top 78) 41
theorem cV(Zik:ZS K CM "check_thing" "Moot.check_thing" Ki)(T:Txt mg)(Tm:ZU K CM)(er:Er K mg c errs):WA P w K mg base CM "check_thing" 1 (VL C CM c):=by
 refine Zik.mx ["self","thing"] ["self","thing"] fun H vs Q E hr h=>?_;obtain⟨M,ds,wa,xs,m,qs,i,rfl,W,hs,k⟩:=h;refine⟨rfl,_,(Zd (Zm (Vr (Bb Vm Ua Zf Q6 (Zx Yx T.len Z8 (Za (Z5 Q0) Zb)))) (Zd (Wf Yy er (Wu (Y8 (Wc Q6 Wt))))) Zo)),?_⟩;obtain⟨dx,ob⟩:=W.ob;obtain⟨vs,b1,_,hl⟩:=(W.ls (M.lb,m.brs) (by simp[Mo.at_])).get;dsimp only at b1 hl;unfold TU at k;rw[← hl] at k;refine⟨_,rfl,_,_,rfl,rfl,_,rfl,Zu (fun h0=>?_) (fun z=>?_)⟩
 ·refine⟨_,rfl,M.p,CM,dx,_,_,rfl,ob,Tm.cl,Tm.nb,BC _,M.lb,vs,rfl,.inl (ZF.of b1),_,_,rfl,rfl,_,rfl,Wd (fun z=>?_) (fun h1=>?_)⟩
  ·rw[if_neg (fun y=>z y.2)] at k;exact⟨aA,_,rfl,.inr ⟨i,rfl,V0 hs⟩,fun _=>k⟩
  ·rw[if_pos ⟨h0,h1⟩] at k;exact k
 ·rw[if_neg (fun y=>z y.1)] at k;exact⟨false,rfl,Z2 ⟨aA,_,rfl,.inr ⟨i,rfl,V0 hs⟩,fun _=>k⟩⟩
inductive UU(c:eV)(vs:aG)(H:Hp)(Q:VK)(E:XK):Prop
 |mk(l) (us) (i)(_:vs = [.ref l,.int i])(_:H l=some (.lst us))(_:okI i)(_:due E c H (Q .non H) (if inB i us.length then none else some "NoCase"))
abbrev Ks:Stmt:=top 69
theorem Ob(Zil:YA K mg "check_case" Ks)(T:Txt mg)(er:Er K mg c errs):YZ P w K mg base "check_case" 1 (UU c):=by
 refine Zil.fx ["suits","case"] ["suits","case"] fun H vs Q E hr h=>?_;obtain⟨l,us,i,rfl,hl,hs,k⟩:=h;refine⟨rfl,_,(Zd (Zm (Vr (Bb Vm Ua Zf Q6 (Zx Yx T.len Z8 (Za Q0 Zb)))) (Zd (Wf Yy er (Wu (Y8 (Wc Q6 Wt))))) Zo)),?_⟩;refine⟨_,rfl,_,_,rfl,rfl,_,rfl,Zu (fun h0=>?_) (fun z=>?_)⟩
 ·refine⟨_,rfl,l,us,rfl,.inl (ZF.of hl),_,_,rfl,rfl,_,rfl,Wd (fun z=>?_) (fun h1=>?_)⟩
  ·rw[if_neg (fun y=>z y.2)] at k;exact⟨aA,_,rfl,.inr ⟨i,rfl,V0 hs⟩,fun _=>k⟩
  ·rw[if_pos ⟨h0,h1⟩] at k;exact k
 ·rw[if_neg (fun y=>z y.1)] at k;exact⟨false,rfl,Z2 ⟨aA,_,rfl,.inr ⟨i,rfl,V0 hs⟩,fun _=>k⟩⟩
inductive YI(C CM:eZ)(vs:aG)(H:Hp)(Q:VK)(z3:XK):Prop
 |mk(M) (ds) (wa) (xs) (m) (qs)(_:vs = [.ref M.p])(_:ZE C CM H M ds wa xs m qs)(_:m.deeds.length < 400)(_:Q .non H)
abbrev Ky:Stmt:=Yr (top 78) 43
theorem NP(Zim:ZS K CM "check_moments" "Moot.check_moments" Ky)(T:Txt mg)(Tm:ZU K CM)(C0:∃t,mg "MOST_MOMENTS" = some (.int 400 t)):Mt P w K mg base CM "check_moments" ["self"] 1 (YI C CM):=by
 obtain⟨t0,c_MOST_MOMENTS⟩:=C0;have r_MOST_MOMENTS:ZG (.int 400) (.int 400 t0):=⟨t0,rfl⟩;refine Zim.mq ["self"] fun H vs Q E hr h=>?_;obtain⟨M,ds,wa,xs,m,qs,rfl,W,hn,k⟩:=h;refine⟨rfl,_,(Zd (Zm (Zl As (Zx Yx T.len Z8 (Za (Z5 Q0) Zb)) (Yv c_MOST_MOMENTS r_MOST_MOMENTS) (Zp _)) (Zd Vd) Zo)),?_⟩;obtain⟨dx,ob⟩:=W.ob;obtain⟨vs,d1,_,d2⟩:=(W.ls (M.ld,m.deeds) (by simp[Mo.at_])).get;dsimp only at d1 d2;refine⟨_,rfl,M.p,CM,dx,_,_,rfl,ob,Tm.cl,Tm.nd,BS _,M.ld,vs,rfl,.inl (ZF.of d1),_,_,rfl,rfl,_,rfl,Zu (fun z=>absurd z (by lia)) (fun _=>k)⟩
end
section
variable{c:eV}
def TV(ss:List YN)(i:Int)(n:Str):Option Str:=match ss[i.toNat]? with
 | some t=>if inB i ss.length then (if n∈(t.ones++t.others).map (·.1) then none else some "NoOath") else some "NoCase"
 | none=>some "NoCase"
inductive UR(c:eV)(vs:aG)(H:Hp)(Q:VK)(E:XK):Prop
 |mk(l) (ss) (i) (n)(_:vs = [.ref l,.int i,.str n])(_:ZV H ss l)(_:(∀t∈ss,AK t))(_:okI i)(_:n.length<=100)(_:∀H',ZC H H'->due E c H' (Q .non H') (TV ss i n))
abbrev Lw:Stmt:=top 70
theorem R0(Zin:YA K mg "check_oath" Lw)(T:Txt mg)(C0:∃t,mg "ONES" = some (.int 0 t))(C1:∃t,mg "OTHERS" = some (.int 1 t))(er:Er K mg c errs)(Z06:YZ P w K mg base "check_case" 1 (UU c)) :
  YZ P w K mg base "check_oath" 2 (UR c):=by
 obtain⟨t0,c_ONES⟩:=C0;obtain⟨t1,c_OTHERS⟩:=C1;have r_ONES:ZG (.int 0) (.int 0 t0):=⟨t0,rfl⟩;have r_OTHERS:ZG (.int 1) (.int 1 t1):=⟨t1,rfl⟩;refine Zin.fx ["suits","case","name"] ["suits","case","name"] fun H vs Q E hr h=>?_;obtain⟨l,ss,i,n,rfl,hsu,hok,hi,hn,k⟩:=h
 refine⟨rfl,_,(Ze (Ye (Ub Wk Z06 (Za Q0 (Za Q6 Zb)))) (Zd (Zm (Zl Dp Q7 (Uh (locs:=["swearer","weight"]) (fr:=[]) ⟨rfl,aA,aA,aA,aA,aA⟩ .nil rfl (Vl (Zr Wr (Zq Ys (Zq Z3 Q0 Q6 (fun _ _=>rfl)) (Yv c_ONES r_ONES) (fun _ _=>rfl)) (Zq Ys (Zq Z3 Q0 Q6 (fun _ _=>rfl)) (Yv c_OTHERS r_OTHERS) (fun _ _=>rfl)))) ⟨fun _ _ _ _ _ _=>by
  have cnd:(inN ["swearer","weight"] []).Nodup:=aA
  exact⟨(A6 2 (by rfl) (Va (Y4 0 cnd) (Va (Y4 1 cnd) Jv))),Vn,(Y3 0)⟩⟩) rfl) (Zd (Wf Yy er (Wu (Wc Q7 (Y8 (Wc Q6 Wt)))))) Zo))),?_⟩
 have hz:=aC
 obtain⟨us,hl,hrep⟩:=id hsu;have hul:us.length=ss.length:=by have:=hrep.length;rw[xA] at this;exact this
 refine⟨_,rfl,_,rfl,l,us,i,rfl,hl,hi,?_⟩
 by_cases hb:inB i ss.length
 ·unfold TV at k;rw[if_pos (by rw[hul];exact hb)];obtain⟨j,rfl⟩:=yF hb.1;have hj:j < ss.length:=by have:=hb.2;lia
  have ht:ss[j]? = some ss[j]:=xE hj;generalize ss[j]=t at ht;rw[zA,ht] at k;dsimp only at k;rw[if_pos hb] at k;obtain⟨ta,u1,u2,u4,hu,hta,⟨b1,w1,rfl,hb1,hr1⟩,⟨b2,w2,rfl,hb2,hr2⟩,h4⟩:=ZV.get (l:=l) hrep ht;obtain⟨L1,L2',_,_⟩:=hok t (xN ht);have z1:=hr1.len;have z2:=hr2.len;have y1:=L1.2;have y2:=L2'.2;refine⟨_,rfl,_,rfl,_,rfl,l,us,j,.ref ta,rfl,rfl,ZF.of hl,Yb hu,ta,_,0,.ref b1,rfl,rfl,ZT.of hta,rfl,?_⟩;refine⟨_,rfl,_,rfl,l,us,j,.ref ta,rfl,rfl,ZF.of hl,Yb hu,ta,_,1,.ref b2,rfl,rfl,ZT.of hta,rfl,?_⟩;refine⟨b1,b2,w1,w2,rfl,rfl,hb1,hb2,by lia,fun q hq=>?_⟩;refine nw (o:=.lst (w1++w2)) hq fun H2 Sc kc=>?_;have hrs:ZP H2 (t.ones++t.others) (w1++w2):=ZP.mono (ZC.t Sc) (ZP.app hr2 hr1);refine⟨q,rfl,⟨_,ZF.of kc⟩,?_⟩;refine MG kc hrs (by rw[xD];lia) fun l2 hl2=>?_;refine⟨l2,_,rfl,.inl (ZF.of Zg),rfl,Dr _,_,rfl,?_⟩;rw[C7];refine Wd (fun z=>?_) (fun z=>?_)
  ·rw[if_neg z] at k;exact⟨_,rfl,.inl ⟨n,rfl,by lia⟩,aA,_,rfl,.inr ⟨_,rfl,V0 hi⟩,fun _=>k _ (Sc.trans (ZC.new hl2))⟩
  ·rw[if_pos z] at k;exact k _ (Sc.trans (ZC.new hl2))
 ·rw[if_neg (by rw[hul];exact hb)];have e:TV ss i n=some "NoCase" := by
   unfold TV;cases ss[i.toNat]? with
   | none=>rfl
   | some t=>exact if_neg hb
  have k:=k H (ZC.refl H);rw[e] at k;exact k
end
section
variable{C CM:eZ}{c:eV}
theorem DE{t u:TS}{D:_}{σ:St}{H:Hp}(Rk:Hp->Prop)(h:(∀H',Rk H'->u D σ H')->Vq t u D σ H)(k:∀H',Rk H'->u D σ H'):Vq t u D σ H:=h k
theorem BO:∀{ps:eS}{i:Nat}{n x:Str},ps[i]? = some n->(∀j < i,∀y,ps[j]? = some y->f y=none)->f n=some x->ps.findSome? f=some x
 | [],i,n,x,h,_,_=>by cases h
 | p::ps,0,n,x,h,_,e=>by cases h;rw[List.findSome?_cons,e]
 | p::ps,i+1,n,x,h,a,e=>by rw[List.findSome?_cons,a 0 (by lia) p rfl];exact BO (i:=i) h (fun j hj y hy=>a (j+1) (by lia) y hy) e
theorem C4{f:Str->Option Str}{ps:eS}(a:∀j < ps.length,∀y,ps[j]? = some y->f y=none):ps.findSome? f=none:=by
 rw[List.findSome?_eq_none_iff];intro x hx;obtain⟨j,hj,e⟩:=List.getElem_of_mem hx;exact a j hj x (by rw[xE hj,e])
theorem Ds{f:Str->Option Str}{ps:eS}{i:Nat}{n:Str}(h:ps[i]? = some n)(a:∀j < i,∀y,ps[j]? = some y->f y=none)(e:f n=none):∀j < i+1,∀y,ps[j]? = some y->f y=none:=fun j hj y hy=>by grind
structure J7 (m:Mo):Prop where
 ok:∀t∈m.trials,AK t
 dl:m.days.length=m.trials.length
 br:∀(i:Nat)(e:D),m.brs[i]? = some e->∃(x:Str)(d:Int),e = .tup [.str x,.int d]
 le:m.trials.length<=60
 vl:m.verd.length=m.trials.length
 hb:m.haps.length=m.brs.length
 hl:∀q∈m.haps,q.length<=m.deeds.length
 ql:m.debts.length<=m.deeds.length
def brD(m:Mo)(i:Int):Int:=match m.brs[i.toNat]? with
 | some (.tup [_,.int d])=>d
 | _=>0
def Up(ds:List ZO)(m:Mo)(day:Int)(ps:eS)(th:Option Int)(oa:Option (Int×Str)):Option Str :=
 (ps.findSome? (TC ds)).or ((th.bind (TU m)).or ((oa.bind fun p=>TV m.trials p.1 p.2).or ((ps.findSome? fun n=>Ve ((Zz ds n).getD 0) day).or ((th.bind fun i=>Ve (brD m i) day).or
  ((oa.bind fun p=>Ve (m.days.getD p.1.toNat 0) day).or (ps.findSome? fun n=>Aj ds n day))))))
def thV:Option Int->V
 | none=>.non
 | some i=>.int i
def oaV(H:Hp):Option (Int×Str)->V->Prop
 | none,v=>v = .non
 | some (i,n),v=>okI i/\n.length<=100/\∃a,v = .ref a/\H a=some (.tup [.int i,.str n])
inductive WC(C CM:eZ)(c:eV)(vs:aG)(H:Hp)(Q:VK)(E:XK):Prop
 |mk(M) (ds) (wa) (xs) (m) (qs) (day) (pl) (ps) (th) (oa) (v2)(_:vs = [.ref M.p,.int day,.ref pl,thV th,v2])(_:ZE C CM H M ds wa xs m qs)(_:J7 m)(_:H pl=some (.lst (ps.map V.str)))(_:(∀n∈ps,n.length<=100))(_:okI day)(_:(∀i,th=some i->okI i))(_:oaV H oa v2)(_:∀H',ZC H H'->due E c H' (Q .non H') (Up ds m day ps th oa))
abbrev Ln:Stmt:=Yr (top 78) 40
theorem bI(Zio:ZS K CM "check_named" "Moot.check_named" Ln)(Tc:UY K C)(Tm:ZU K CM)(er:Er K mg c errs)(M_check_known:WA P w K mg base C "check_known" 1 (VD C c))(M_check_there:WA P w K mg base C "check_there" 1 (VG C c))(M_check_living:WA P w K mg base C "check_living" 2 (WK C c))(MM_check_thing:WA P w K mg base CM "check_thing" 1 (VL C CM c))(Z07:YZ P w K mg base "check_oath" 2 (UR c)):WA P w K mg base CM "check_named" 3 (WC C CM c):=by
 refine Zio.mx ["self","day","people","thing","oath","name"] ["self","day","people","thing","oath"] fun H vs Q E hr h=>?_;obtain⟨M,ds,wa,xs,m,qs,day,pl,ps,th,oa,v2,rfl,W,ok,hpl,hps,hd,hth,hoa,k⟩:=h
 refine⟨rfl,_,(Ze (CO AM Yy (by rfl) (Vl Q7) (Y7 5)
 (fun hxq hxp=>(Zd (Ye (Um hxq (Z5 Q0) Tc.cl M_check_known (Za Qa Zb))))))
 (Ze (Zm (Zl Ad Q8 Yi (Zp _)) (Zd (Ye (Um Wk Q0 Tm.cl MM_check_thing (Za Q8 Zb)))) Zo)
 (Ze (Zm (Zl Ad Q9 Yi (Zp _)) (Zd (Ye (Ub Wk Z07 (Za (Z5 Q0) (Za (Zq Ys Q9 Zf (fun _ _=>rfl)) (Za (Zq Ys Q9 Zf (fun _ _=>rfl)) Zb)))))) Zo)
 (Ze (CO AM Yy (by rfl) (Vl Q7) (Y7 5)
 (fun hxq hxp=>(Zd (Ye (Um hxq (Z5 Q0) Tc.cl M_check_there (Za Qa (Za Q6 Zb)))))))
 (Ze (Zm (QW.pt (Uj (Zl Ad Q8 Yi (Zp _)) (U5 (Zl Ua Q6 (Zq Ys (Zq Z3 (Z5 Q0) Q8 (fun _ _=>rfl)) Zf (fun _ _=>rfl)) (Zp _))))) (Zd (Wf Yy er (Wu (Y8 (Wc Q8 (Y8 (Wc Q6 Wt))))))) Zo)
 (Ze (Zm (QW.pt (Uj (Zl Ad Q9 Yi (Zp _)) (U5 (Zl Ua Q6 (Zq Z3 (Z5 Q0) (Zq Ys Q9 Zf (fun _ _=>rfl)) (fun _ _=>rfl)) (Zp _))))) (Zd (Wf Yy er (Wu (Y8 (Wc Q6 Wt))))) Zo)
 (Zd (CO AM Yy (by rfl) (Vl Q7) (Y7 5)
 (fun hxq hxp=>(Zd (Ye (Um hxq (Z5 Q0) Tc.cl M_check_living (Za Qa (Za Q6 Zb)))))))))))))),?_⟩
 obtain⟨dm,obm⟩:=W.ob;have F:=W.fk.f;obtain⟨dx,ob⟩:=F.ob;have hget:∀{i:Nat}{v:V},(ps.map V.str)[i]? = some v->∃n,v = .str n/\ps[i]? = some n/\n.length<=100:=fun {i v} hv=>by
  rw[xK] at hv;obtain⟨a,h1,h2⟩:=xS.mp hv;exact⟨a,h2.symm,h1,hps a (xN h1)⟩
 have hlen:(ps.map V.str).length=ps.length:=xA ..;unfold Up at k;refine⟨_,rfl,pl,rfl,⟨_,ZF.of hpl⟩,?_⟩;refine Af (ps.map V.str) (fun i σ H'=>∃v5:Option V,σ = [some (.ref M.p),some (.int day),some (.ref pl),some (thV th),some v2,v5]/\H=H'/\∀j < i,∀y,ps[j]? = some y->TC ds y=none) ⟨none,rfl,rfl,fun j hj=>absurd hj (by lia)⟩ (fun i σ H' _ ⟨_,_,e,_⟩=>by rw[← e];exact ZF.of hpl) ?_ ?_
 ·rintro i v σ H' hv ⟨v5,rfl,rfl,ha⟩;obtain⟨n,rfl,hn,hl⟩:=hget hv;refine⟨_,rfl,M.p,CM,dm,_,_,rfl,obm,Tm.cl,Tm.nf,A0 _,M.L.p,dx,_,rfl,ob,U9 _ _ _ _ aA,_,rfl,M.L,ds,n,rfl,F,hl,?_⟩;cases e:TC ds n with
  | none=>exact⟨_,rfl,rfl,Ds hn ha e⟩
  | some x =>
   rw[BO hn ha e] at k;exact k H (ZC.refl H)
 rintro σ H' ⟨v5,rfl,rfl,ha⟩;rw[hlen] at ha;rw[C4 ha,zL] at k;have hcom:∀i n,ps[i]? = some n->∃d,Zz ds n=some d:=fun i n hi=>by
  have:=ha i (xY.mp hi).1 n hi;unfold TC at this;cases e:Zz ds n with
  | none=>rw[if_pos e] at this;cases this
  | some d=>exact⟨d,rfl⟩
 try dsimp only
 refine DE (fun H'=>ZC H H'/\th.bind (TU m)=none) (fun kk=>?_) (fun H1 ⟨S1,e1⟩=>?_)
 ·cases th with
  | none=>exact⟨_,rfl,rfl,_,rfl,Zy (kk H ⟨ZC.refl H,rfl⟩)⟩
  | some i =>
   refine⟨_,rfl,rfl,_,rfl,Z2 ⟨_,rfl,M.p,dm,_,rfl,obm,Wy _ aA,_,rfl,M,ds,wa,xs,m,qs,i,rfl,W,hth i rfl,?_⟩⟩;rw[zE] at k;cases e:TU m i with
   | none=>exact kk H ⟨ZC.refl H,e⟩
   | some x=>rw[e] at k;exact k H (ZC.refl H)
 rw[e1,zL] at k;have W1:=W.same S1
 try dsimp only
 refine DE (fun H'=>ZC H H'/\(oa.bind fun p=>TV m.trials p.1 p.2)=none) (fun kk=>?_) (fun H2 ⟨S2,e2⟩=>?_)
 ·cases oa with
  | none =>
   obtain rfl:=hoa;exact⟨_,rfl,rfl,_,rfl,Zy (kk H1 ⟨S1,rfl⟩)⟩
  | some p =>
   obtain⟨hi,hn,a,rfl,ha⟩:=hoa;obtain⟨ts,t1,t2,_⟩:=(W1.ls (M.lt,m.trials.map Wx) (by simp[Mo.at_])).get;refine⟨_,rfl,rfl,_,rfl,Z2 ⟨_,rfl,M.p,CM,dm,_,_,rfl,S1 _ _ obm,Tm.cl,Tm.nt,AH _,_,rfl,a,_,0,_,rfl,rfl,ZT.of (S1 _ _ ha),rfl,_,rfl,a,_,1,_,rfl,rfl,ZT.of (S1 _ _ ha),rfl,?_⟩⟩;refine⟨M.lt,m.trials,p.1,p.2,rfl,⟨ts,t1,t2⟩,ok.ok,hi,hn,fun H' S'=>?_⟩;rw[zE] at k;cases e:TV m.trials p.1 p.2 with
   | none=>exact kk H' ⟨S1.trans S',e⟩
   | some x=>rw[e] at k;exact k H' (S1.trans S')
 rw[e2,zL] at k;have W2:=W.same S2;have F2:=W2.fk.f;refine⟨_,rfl,pl,rfl,⟨_,ZF.of (S2 _ _ hpl)⟩,?_⟩;refine Af (ps.map V.str) (fun i σ H'=>∃v5:Option V,σ = [some (.ref M.p),some (.int day),some (.ref pl),some (thV th),some v2,v5]/\H2=H'/\∀j < i,∀y,ps[j]? = some y->Ve ((Zz ds y).getD 0) day=none) ⟨v5,rfl,rfl,fun j hj=>absurd hj (by lia)⟩ (fun i σ H' _ ⟨_,_,e,_⟩=>by rw[← e];exact ZF.of (S2 _ _ hpl)) ?_ ?_
 ·rintro i v σ H' hv ⟨v5,rfl,rfl,ha⟩;obtain⟨n,rfl,hn,hl⟩:=hget hv;obtain⟨d,hc⟩:=hcom i n hn;refine⟨_,rfl,M.p,CM,dm,_,_,rfl,S2 _ _ obm,Tm.cl,Tm.nf,A0 _,M.L.p,dx,_,rfl,S2 _ _ ob,U9 _ _ _ _ aA,_,rfl,_,rfl,M.L,ds,n,d,day,rfl,F2,hc,hl,hd,?_⟩;have eq:Ve ((Zz ds n).getD 0) day=Ve d day:=by rw[hc];rfl
  cases e:Ve d day with
  | none=>exact⟨_,rfl,rfl,Ds hn ha (eq.trans e)⟩
  | some x =>
   rw[BO hn ha (eq.trans e)] at k;exact k H2 S2
 rintro σ H' ⟨v5,rfl,rfl,hb⟩;rw[hlen] at hb;rw[C4 hb,zL] at k
 try dsimp only
 refine DE (fun H'=>ZC H H'/\(th.bind fun i=>Ve (brD m i) day)=none) (fun kk=>?_) (fun H3 ⟨S3,e3⟩=>?_)
 ·cases th with
  | none=>exact⟨_,rfl,rfl,_,rfl,Zy (Zy (kk H2 ⟨S2,rfl⟩))⟩
  | some i =>
   obtain⟨vs,b1,b2,b3⟩:=(W2.ls (M.lb,m.brs) (by simp[Mo.at_])).get;dsimp only at b1 b2 b3;have hin:inB i m.brs.length:=by
    rw[zE] at e1;unfold TU at e1
    by_cases z:inB i m.brs.length
    ·exact z
    ·rw[if_neg z] at e1;cases e1
   obtain⟨j,rfl⟩:=yF hin.1;have hj:j < vs.length:=by have:=hin.2;lia
   obtain⟨e,he,re⟩:=b2.get (xE hj);obtain⟨x,d,rfl⟩:=ok.br j e he;obtain⟨a,us,ea,ha,⟨_,_,rfl,rfl,⟨_,_,rfl,rfl,rfl⟩⟩⟩:=re;have hbr:brD m (j:Int)=d:=by unfold brD;rw[zA,he]
   rw[zE,hbr] at k;refine⟨_,rfl,rfl,_,rfl,Z2 ⟨_,rfl,_,rfl,M.p,CM,dm,_,_,rfl,S2 _ _ obm,Tm.cl,Tm.nb,BC _,_,rfl,M.lb,vs,j,_,rfl,rfl,ZF.of b1,Yb (xE hj),a,_,1,_,ea,rfl,ZT.of ha,rfl,_,_,rfl,rfl,_,rfl,Zu (fun z=>?_) (fun z=>?_)⟩⟩
   ·have e:Ve d day=some "NotYet" := if_pos z;rw[e] at k;exact⟨aA,_,rfl,.inr ⟨_,rfl,V0 (hth _ rfl)⟩,aA,_,rfl,.inr ⟨_,rfl,V0 hd⟩,fun _=>k H2 S2⟩
   ·exact kk H2 ⟨S2,by rw[zE,hbr];exact if_neg z⟩
 rw[e3,zL] at k;have W3:=W.same S3
 try dsimp only
 refine DE (fun H'=>ZC H H'/\(oa.bind fun p=>Ve (m.days.getD p.1.toNat 0) day)=none) (fun kk=>?_) (fun H4 ⟨S4,e4⟩=>?_)
 ·cases oa with
  | none =>
   obtain rfl:=hoa;exact⟨_,rfl,rfl,_,rfl,Zy (Zy (kk H3 ⟨S3,rfl⟩))⟩
  | some p =>
   obtain⟨i,n⟩:=p;obtain⟨hi,hn,a,rfl,ha⟩:=hoa;obtain⟨vs,y1,y2,y3⟩:=(W3.ls (M.ly,m.days.map D.int) (by simp[Mo.at_])).get;dsimp only at y1 y2 y3;rw[xA] at y3;have hin:inB i m.trials.length:=by
    rw[zE] at e2;unfold TV at e2
    by_cases z:inB i m.trials.length
    ·exact z
    ·split at e2
     ·rw[if_neg z] at e2;cases e2
     ·cases e2
   obtain⟨j,rfl⟩:=yF hin.1;have hj:j < vs.length:=by have:=hin.2;have:=ok.dl;lia
   obtain⟨e,he,re⟩:=y2.get (xE hj);rw[xK] at he;obtain⟨d,hd1,rfl⟩:=xS.mp he;have re:vs[j]= .int d:=re;have hdd:m.days.getD (j:Int).toNat 0=d:=by rw[zA,yR,hd1];rfl
   rw[zE] at k;dsimp only at k;rw[hdd] at k;refine⟨_,rfl,rfl,_,rfl,Z2 ⟨_,rfl,_,rfl,M.p,CM,dm,_,_,rfl,S3 _ _ obm,Tm.cl,Tm.ny,K3 _,_,rfl,a,_,0,_,rfl,rfl,ZT.of (S3 _ _ ha),rfl,M.ly,vs,j,.int d,rfl,rfl,ZF.of y1,re▸Yb (xE hj),_,_,rfl,rfl,_,rfl,Zu (fun z=>?_) (fun z=>?_)⟩⟩
   ·have e:Ve d day=some "NotYet" := if_pos z;rw[e] at k;exact⟨aA,_,rfl,.inr ⟨_,rfl,V0 hd⟩,fun _=>k H3 S3⟩
   ·exact kk H3 ⟨S3,by rw[zE];dsimp only;rw[hdd];exact if_neg z⟩
 rw[e4,zL] at k;have W4:=W.same S4;have F4:=W4.fk.f;refine⟨_,rfl,pl,rfl,⟨_,ZF.of (S4 _ _ hpl)⟩,?_⟩;refine Af (ps.map V.str) (fun i σ H'=>∃v5:Option V,σ = [some (.ref M.p),some (.int day),some (.ref pl),some (thV th),some v2,v5]/\H4=H'/\∀j < i,∀y,ps[j]? = some y->Aj ds y day=none) ⟨v5,rfl,rfl,fun j hj=>absurd hj (by lia)⟩ (fun i σ H' _ ⟨_,_,e,_⟩=>by rw[← e];exact ZF.of (S4 _ _ hpl)) ?_ ?_
 ·rintro i v σ H' hv ⟨v5,rfl,rfl,ha⟩;obtain⟨n,rfl,hn,hl⟩:=hget hv;refine⟨_,rfl,M.p,CM,dm,_,_,rfl,S4 _ _ obm,Tm.cl,Tm.nf,A0 _,M.L.p,dx,_,rfl,S4 _ _ ob,U9 _ _ _ _ aA,_,rfl,_,rfl,M.L,ds,n,day,rfl,F4,hl,hd,?_⟩;cases e:Aj ds n day with
  | none=>exact⟨_,rfl,rfl,Ds hn ha e⟩
  | some x =>
   rw[BO hn ha e] at k;exact k H4 S4
 rintro σ H' ⟨v5,rfl,rfl,hg⟩;rw[hlen] at hg;rw[C4 hg] at k;exact k _ S4
end
section
variable{C CM:eZ}
def wOk(ds:List ZO)(day:Int)(f:Str->Int)(n:Str):Prop:=∃d,Zz ds n=some d/\d<=day/\Dw (kw ds n) day (f n)
inductive YV(C CM:eZ)(vs:aG)(H:Hp)(Q:VK)(z3:XK):Prop
 |mk(M:ML) (ds:List ZO) (wa:eV) (xs:eW) (m:Mo) (qs:eW) (nl:eZ) (ns:eS) (day:Int) (f:Str->Int)(_:vs = [.ref M.p,.ref nl,.int day])(_:ZE C CM H M ds wa xs m qs)(_:ds.length<=1000)(_:H nl=some (.lst (ns.map V.str)))(_:ns.length<=60)(_:0<=day)(_:day<=9999)(_:(∀n∈ns,wOk ds day f n))(_:∀(l:eZ)(us:aG)(H':Hp),H l=none->ZC H H'->H' l=some (.lst us)->ZP H' (ns.map fun n=>(n,f n)) us->Q (.ref l) H')
abbrev Cs:Stmt:=Yr (top 78) 38
theorem Ml:Nm (Zj Cs) "day" .cell:=aA
theorem bG:Nm (Zj Cs) "self" .cell:=aA
theorem Px(Zip:ZS K CM "weighed" "Moot.weighed" Cs)(Tc:UY K C)(Tm:ZU K CM)(M_weight:Mt P w K mg base C "weight" ["self","name","day"] 2 (UJ C)):Mt P w K mg base CM "weighed" ["self","names","day"] 3 (YV C CM):=by
 refine Zip.mq ["self","names","day"] fun H vs Q E hr h=>?_;obtain⟨M,ds,wa,xs,m,qs,nl,ns,day,f,rfl,W,hds,hnl,hlen,h0,h1,hw,k⟩:=h
 refine⟨rfl,_,(Zd (Zn (Uh (locs:=["name"]) (fr:=[("self", 0),("day", 2)]) ⟨rfl,aA,aA,aA,aA,aA⟩ (.consN bG (.consN Ml .nil)) rfl (Vl Q6) ⟨fun _ _ _ _ _ _=>by
  have cnd:(inN ["name"] [("self", 0),("day", 2)]).Nodup:=aA
  exact⟨(Y4 0 cnd),Vn,(Vb (Za (Y3 0) (Za (Vi (Sk (T8 1)) Tc.cl M_weight (Za (Y3 0) (Za (T8 2) Zb))) Zb)))⟩⟩))),?_⟩
 have hz:(60:Nat)<=sizeLine:=by decide
 obtain⟨dm,obm⟩:=W.ob;obtain⟨dx,ob⟩:=W.fk.f.ob;refine⟨_,rfl,nl,rfl,⟨_,ZF.of hnl⟩,?_⟩;refine J9 (xs:=ns.map V.str) (fun i ys H'=>ZC H H'/\ZP H' ((ns.take i).map fun n=>(n,f n)) ys) ⟨ZC.refl H,rfl⟩ (by rw[xA];lia) (fun i ys H' _ ⟨e,_⟩=>ZF.of (e _ _ hnl)) ?_ ?_ ?_
 ·rintro i ys H' ⟨_,r⟩;rw[r.len,xA,xU];lia
 ·rintro i x ys H' hx ⟨S,r⟩ ls hls;obtain⟨u,rfl⟩:=Uv hls;rw[xK] at hx;obtain⟨n,hn,rfl⟩:=xS.mp hx;obtain⟨d,hc,hd,hi⟩:=hw n (xN hn);have W1:=W.same S;refine⟨⟨[_],rfl,rfl⟩,Z2 ?_⟩;refine⟨_,rfl,_,rfl,M.p,CM,dm,_,_,rfl,S _ _ obm,Tm.cl,Tm.nf,A0 _,M.L.p,dx,_,rfl,S _ _ ob,U9 _ _ _ _ aA,_,rfl,_,rfl,M.L,ds,wa,n,day,d,f n,rfl,W1.fk.f,W1.fk.w,hds,h0,h1,hc,hd,hi,fun H2 S2=>?_⟩;refine⟨aB rfl,fun q hq=>⟨(S.trans S2).trans (ZC.new hq),?_⟩⟩;rw[yD,hn,xM];exact ZP.snoc (p:=(n,f n)) Zg (ZP.mono (ZC.t (S2.trans (ZC.new hq))) r)
 ·rintro ys H' ⟨S,r⟩ l hl;rw[xA,yI] at r;exact k l ys _ (S.free hl) (S.trans (ZC.new hl)) Zg (ZP.mono (ZC.t (ZC.new hl)) r)
def A7(m:Mo)(n:Str)(i:Nat):Bool:=match (m.trials[i]?).bind (·.named) with
 | some p=>decide (p.2=n) && m.verd.getD i false && decide ((m.pen n).getD 0<=(i:Int))
 | none=>false
def AS(m:Mo)(k:Nat)(n:Str):Bool:=(List.range k).any (A7 m n)
def AV(m:Mo)(n:Str):Bool:=AS m m.trials.length n
theorem KW(m:Mo)(k:Nat)(n:Str):AS m (k+1) n=(AS m k n || A7 m n k):=by
 unfold AS;rw[List.range_succ,List.any_append];simp
inductive UH(C CM:eZ)(vs:aG)(H:Hp)(Q:VK)(z3:XK):Prop
 |mk(M) (ds) (wa) (xs) (m) (qs)(_:vs = [.ref M.p])(_:ZE C CM H M ds wa xs m qs)(_:m.verd.length=m.trials.length)(_:m.trials.length<=60)(_:∀g kvs H',H g=none->ZC H H'->H' g=some (.dK kvs)->(∀n:Str,(Z1 kvs (.inr n)).isSome=AV m n)->Q (.ref g) H')
abbrev IV:Stmt:=Yr (top 78) 37
theorem OR(Ziq:ZS K CM "forsworn_names" "Moot.forsworn_names" IV)(T:Txt mg)(Tm:ZU K CM)(C3:∃t,mg "NAMED" = some (.int 3 t)):Mt P w K mg base CM "forsworn_names" ["self"] 1 (UH C CM):=by
 obtain⟨t3,c_NAMED⟩:=C3;have r_NAMED:ZG (.int 3) (.int 3 t3):=⟨t3,rfl⟩;refine Ziq.mq ["self","names","case","suit","oath"] fun H vs Q E hr h=>?_;obtain⟨M,ds,wa,xs,m,qs,rfl,W,hv,hle,k⟩:=h
 refine⟨rfl,_,(Ze (Zv 1 AZ) (Ze (Wz PassesOwn.never rfl (Qv T.enumerate (Za (Z5 Q0) Zb)) (L4 (by rfl) (Va (Y7 2) (Va (Y7 3) Jv)))
 (Ze (Zv 4 (Zq Ys Q8 (Yv c_NAMED r_NAMED) (fun _ _=>rfl)))
 (Zd (Zm (QW.pt (Uj (Zl Ad Q9 Yi (Zp _)) (Uj (Vc (Zq Z3 (Z5 Q0) Q7 (fun _ _=>rfl))) (U5 (Zl As Q7 (CU hr (Z5 Q0) (Zq Ys Q9 Zf (fun _ _=>rfl)) Zf) (Zp _)))))) (Zd (Bp hr Q6 (Zq Ys Q9 Zf (fun _ _=>rfl)) Wq)) Zo))))
 (Zd (Zn Q6)))),?_⟩
 have hz:=aC
 obtain⟨dm,obm⟩:=W.ob;refine fun g hg=>?_;refine nw (o:=.dK []) hg fun H1 Sg kg=>?_;refine Z4 ?_;have W1:=W.same Sg;obtain⟨ts,t1,t2,t3'⟩:=(W1.ls (M.lt,m.trials.map Wx) (by simp[Mo.at_])).get;obtain⟨bs,v1,v2,v3⟩:=(W1.ls (M.lv,m.verd.map D.bl) (by simp[Mo.at_])).get;dsimp only at t1 t2 t3' v1 v2 v3;rw[xA] at t3' v3;obtain⟨pk,p1,p2,p3⟩:=W1.pn;have ngp:∀{o:HO}{b:eZ},H b=some o->b≠g:=fun e z=>by rw[z,hg] at e;cases e
 refine⟨_,rfl,M.p,CM,dm,_,_,rfl,Sg _ _ obm,Tm.cl,Tm.nt,AH _,M.lt,ts,rfl,ZF.of t1,?_⟩;refine P4 ts (fun i σ H'=>∃(v2 v3 v4:Option V)(kvs:List (ZQ×V)),σ = [some (.ref M.p),some (.ref g),v2,v3,v4]/\ZC H H'/\H' g=some (.dK kvs)/\(∀b o,b≠g->H1 b=some o->H' b=some o)/\kvs.length<=i/\∀n:Str,(Z1 kvs (.inr n)).isSome=AS m i n) ⟨none,none,none,[],rfl,Sg,kg,fun _ _ _ e=>e,yO _,fun _=>rfl⟩
  (fun i σ H' _ ⟨_,_,_,_,_,_,_,k1,_⟩=>ZF.of (k1 _ _ (ngp ((W.ls (M.lt,m.trials.map Wx) (by simp[Mo.at_])).get.choose_spec.1)) t1)) ?_ ?_
 ·rintro i x p σ H' hx ⟨v2',v3',v4',kvs,rfl,S,kk,k1,hk,hf⟩ hp;refine nw (o:=.tup [.int i,x]) hp fun H2 Sp kp=>?_;have hi:i < ts.length:=(xY.mp hx).1;obtain⟨t,ht⟩:∃t,m.trials[i]? = some t:=⟨_,xE (by lia)⟩;obtain⟨vb,hvb⟩:∃vb,m.verd[i]? = some vb:=⟨_,xE (by lia)⟩;obtain⟨ta,u1,u2,u4,hu,hta,_,_,h4⟩:=ZV.get (l:=M.lt) t2 ht;rw[hu] at hx;cases hx;have k2:∀b o,b≠g->H1 b=some o->H2 b=some o:=fun b o n e=>Sp _ _ (k1 b o n e);have kt:∀{b us},H1 b=some (.tup us)->H2 b=some (.tup us):=fun {b us} e=>k2 b _ (fun z=>by rw[z,kg] at e;cases e) e;have hvd:m.verd.getD i false=vb:=by rw[yR,hvb];rfl
  refine⟨p,_,rfl,ZT.of kp,rfl,_,_,rfl,_,_,rfl,rfl,?_⟩;refine⟨_,rfl,ta,_,3,u4,rfl,rfl,ZT.of (kt hta),rfl,?_⟩;have stay:(∀n,A7 m n i=false)->∃(v2 v3 v4:Option V)(kvs:List (ZQ×V)),[some (V.ref M.p),some (.ref g),some (.int i),some (.ref ta),some u4]= [some (.ref M.p),some (.ref g),v2,v3,v4]/\ZC H H2/\H2 g=some (.dK kvs)/\(∀b o,b≠g->H1 b=some o->H2 b=some o)/\kvs.length<=i+1/\∀n:Str,(Z1 kvs (.inr n)).isSome=AS m (i+1) n:=fun z =>
   ⟨_,_,_,kvs,rfl,S.trans Sp,Sp _ _ kk,k2,by lia,fun n=>by rw[KW,z,Bool.or_false];exact hf n⟩
  cases hn:t.named with
  | none =>
   rw[hn] at h4;cases h4;refine⟨_,rfl,rfl,_,rfl,Zy (Zy (stay fun n=>?_))⟩;unfold A7;rw[ht,zE,hn]
  | some o =>
   rw[hn] at h4;obtain⟨c0,n0⟩:=o;obtain⟨b,bs',rfl,hb,⟨y1,r1,rfl,e1,⟨y2,r2,rfl,e2,e3⟩⟩⟩:=h4;cases e1;cases e2;cases e3;have hfb:∀n,A7 m n i=(decide (n0=n) && vb && decide ((m.pen n).getD 0<=(i:Int))):=fun n=>by unfold A7;rw[ht,zE,hn,hvd]
   have ibs:i < bs.length:=by rw[v3];exact(xY.mp hvb).1
   obtain⟨e,he,re⟩:=v2.get (xE ibs);rw[xK,hvb] at he;cases he;have re:bs[i]= .bl vb:=re;refine⟨_,rfl,rfl,_,rfl,Z2 ?_⟩;refine⟨_,rfl,M.p,CM,dm,_,_,rfl,k2 _ _ (ngp obm) (Sg _ _ obm),Tm.cl,Tm.nv,MS _,_,rfl,M.lv,bs,i,.bl vb,rfl,rfl,ZF.of (k2 _ _ (fun z=>by rw[z,kg] at v1;cases v1) v1),re▸Yb (xE ibs),vb,rfl,?_⟩;cases vb with
   | false=>exact Zy (Zy (stay fun n=>by rw[hfb,zB];rfl))
   | true =>
    refine Z2 ?_;have ndp:M.dp≠g:=fun z=>by obtain⟨pk',q1,_⟩:=W.pn;rw[z,hg] at q1;cases q1
    have p1':=k2 _ _ ndp p1;have gp:=ZY.k (k:=Sum.inr n0) p1';rw[p3] at gp;refine⟨_,rfl,_,rfl,M.p,CM,dm,_,_,rfl,k2 _ _ (ngp obm) (Sg _ _ obm),Tm.cl,Tm.np,Nf _,M.dp,rfl,.inl ⟨pk,.inl p1'⟩,_,rfl,b,_,1,_,rfl,rfl,ZT.of (kt hb),rfl,_,gp,?_⟩;have eo:(Option.map V.int (m.pen n0)).getD (.int 0)= .int ((m.pen n0).getD 0):=by cases m.pen n0<;>rfl
    rw[eo];refine⟨_,_,rfl,rfl,_,rfl,Zu (fun z=>?_) (fun z=>stay fun n=>?_)⟩
    ·refine⟨_,rfl,_,rfl,b,_,1,_,rfl,rfl,ZT.of (kt hb),rfl,g,_,rfl,WH.k (k:=Sum.inr n0) (Sp _ _ kk) (by lia),?_⟩;refine⟨_,_,_,Yo kvs (.inr n0) (.bl true),rfl,fun b o e=>?_,Zg,fun b o n e=>by rw[Zc n];exact k2 b o n e,yK (J5 _ _ _) (by lia),fun n=>?_⟩
     ·rw[Zc (ngp e)];exact(S.trans Sp) b o e
     ·rw[Aa,KW,hfb,← hf n]
      by_cases e:n=n0
      ·subst e;rw[if_pos rfl,xZ rfl,xZ z];simp
      ·grind
    ·grind
 ·rintro σ H' ⟨v2',v3',v4',kvs,rfl,S,kk,k1,hk,hf⟩;rw[t3'] at hf;exact⟨_,rfl,k g kvs H' hg S kk hf⟩
end
section
variable{C CM:eZ}{c:eV}
abbrev Vp(f:Str->Int)(ns:eS):Wg:=ns.map fun n=>(n,f n)
def Aw(m:Mo)(need:Int)(f:Str->Int)(o1 o2:eS):Option Str :=
 if 60<=m.trials.length then some "TooMany" else if 12 < max o1.length o2.length then some "TooMany" else if CZ (o1++o2) < (o1++o2).length then some "SwornTwice" else
  ((o1++o2).findSome? fun n=>if AV m n=true then some ("Forsworn" : Str) else none).or (if (wts (Vp f o1)).sum < need then some ("TooLight" : Str) else none)
inductive VO(C CM:eZ)(c:eV)(vs:aG)(H:Hp)(Q:VK)(E:XK):Prop
 |mk(M) (ds) (wa) (xs) (m) (qs) (day need) (l1 l2) (o1 o2) (f)(_:vs = [.ref M.p,.int day,.int need,.ref l1,.ref l2])(_:ZE C CM H M ds wa xs m qs)(_:J7 m)(_:m.deeds.length < 400)(_:ds.length<=1000)(_:H l1=some (.lst (o1.map V.str)))(_:H l2=some (.lst (o2.map V.str)))(_:o1.length<=60)(_:o2.length<=60)(_:0<=day)(_:day<=9999)(_:okI need)(_:(∀n∈o1++o2,n.length<=100/\wOk ds day f n/\1<=f n/\f n<=1000))(_:∀H',ZC H H'->due E c H' (Q .non H') (Aw m need f o1 o2))
abbrev Io:Stmt:=Yr (top 78) 42
theorem XQ(Zir:ZS K CM "check_sides" "Moot.check_sides" Io)(T:Txt mg)(Tm:ZU K CM)(er:Er K mg c errs)(C0:∃t,mg "MOST_CASES" = some (.int 60 t))(C1:∃t,mg "MOST_SWEARERS" = some (.int 12 t))(MM_check_moments:Mt P w K mg base CM "check_moments" ["self"] 1 (YI C CM))(MM_forsworn_names:Mt P w K mg base CM "forsworn_names" ["self"] 1 (UH C CM))(MM_weighed:Mt P w K mg base CM "weighed" ["self","names","day"] 3 (YV C CM))(Z08:Fn P w K mg base "total" ["side"] 1 UW):WA P w K mg base CM "check_sides" 4 (VO C CM c):=by
 obtain⟨t0,c_MOST_CASES⟩:=C0;obtain⟨t1,c_MOST_SWEARERS⟩:=C1;have r_MOST_CASES:ZG (.int 60) (.int 60 t0):=⟨t0,rfl⟩;have r_MOST_SWEARERS:ZG (.int 12) (.int 12 t1):=⟨t1,rfl⟩;refine Zir.mx ["self","day","need","ones","others","barred","name"] ["self","day","need","ones","others"] fun H vs Q E hr h=>?_;obtain⟨M,ds,wa,xs,m,qs,day,need,l1,l2,o1,o2,f,rfl,W,ok,h4,hds,h1,h2,n1,n2,d0,d1,hi,hw,k⟩:=h
 refine⟨rfl,_,(Ze (Zm (Zl As (Zx Yx T.len Z8 (Za (Z5 Q0) Zb)) (Yv c_MOST_CASES r_MOST_CASES) (Zp _)) (Zd (Wf Yy er (Wu (Y8 (Wc (Yv c_MOST_CASES r_MOST_CASES) (Y8 Wt)))))) Zo) (Ze (Zm (Zl BB (Zx (Pb (by rfl)) T.max Kq (Za (Zx Yx T.len Z8 (Za Q8 Zb)) (Za (Zx Yx T.len Z8 (Za Q9 Zb)) Zb))) (Yv c_MOST_SWEARERS r_MOST_SWEARERS) (Zp _)) (Zd (Wf Yy er (Wu (Y8 (Wc (Yv c_MOST_SWEARERS r_MOST_SWEARERS) (Y8 Wt)))))) Zo)
 (Ze (Ye (AJ Q0 Tm.cl MM_check_moments))
 (Ze (Zm (Zl Ua (MC (by rfl) T.len T.set (Za (Zr Wr Q8 Q9) Zb)) (Zx Yx T.len Z8 (Za (Zr Wr Q8 Q9) Zb)) (Zp _)) (Zd (Wf Yy er Zh)) Zo)
 (Ze (Zv 5 (AJ Q0 Tm.cl MM_forsworn_names))
 (Ze (CO AM Yy (by rfl) (Vl (Zr Wr Q8 Q9)) (Y7 6)
 (fun hxq hxp=>(Zd (Zm (Zl (EW hr) Qb Qa rfl) (Zd (Wf hxp er (Wu (Wc Qb (Y8 Wt))))) Zo))))
 (Zd (Zm (Zl Ua (Zs Z08 (Za (Vi Q0 Tm.cl MM_weighed (Za Q8 (Za Q6 Zb))) Zb)) Q7 (Zp _)) (Zd (Wf Yy er (Wu (Y8 (Wc Q7 Wt))))) Zo)))))))),?_⟩
 have hz:=aC
 obtain⟨dm,obm⟩:=W.ob;obtain⟨ts,t1,_,t3⟩:=(W.ls (M.lt,m.trials.map Wx) (by simp[Mo.at_])).get;dsimp only at t1 t3;rw[xA] at t3;unfold Aw at k;have e1:(o1.map V.str).length=o1.length:=xA ..;have e2:(o2.map V.str).length=o2.length:=xA ..;refine⟨_,rfl,M.p,CM,dm,_,_,rfl,obm,Tm.cl,Tm.nt,AH _,M.lt,ts,rfl,.inl (ZF.of t1),_,_,rfl,rfl,_,rfl,Zu (fun z=>?_) (fun z=>?_)⟩
 ·rw[if_pos (by lia)] at k;exact⟨aA,.inr ⟨60,rfl,aA⟩,aA,fun _=>k H (ZC.refl H)⟩
 rw[if_neg (by lia)] at k;dsimp only [Zw];refine⟨_,rfl,l1,_,rfl,.inl (ZF.of h1),_,rfl,l2,_,rfl,.inl (ZF.of h2),_,_,rfl,?_⟩;have em:(if ((o2.map V.str).length:Int) > (o1.map V.str).length then ((o2.map V.str).length:Int) else (o1.map V.str).length)=((max o1.length o2.length:Nat):Int):=by rw[e1,e2];split<;>lia
 rw[em];refine⟨_,_,rfl,rfl,_,rfl,Zu (fun z=>?_) (fun z=>?_)⟩
 ·rw[if_pos (by lia)] at k;exact⟨aA,.inr ⟨12,rfl,aA⟩,aA,fun _=>k H (ZC.refl H)⟩
 rw[if_neg (by lia)] at k;dsimp only [Zw];refine⟨_,rfl,M.p,dm,_,rfl,obm,Wy _ aA,M,ds,wa,xs,m,qs,rfl,W,h4,?_⟩;have ec:o1.map V.str++o2.map V.str=(o1++o2).map V.str:=xM.symm;refine⟨_,rfl,_,rfl,l1,l2,_,_,rfl,rfl,h1,h2,by rw[e1,e2];lia,fun q hq=>?_⟩;rw[ec];refine nw (o:=.lst ((o1++o2).map V.str)) hq fun H1 S1 k1=>?_;refine⟨q,o1++o2,rfl,ZF.of k1,by rw[xD];lia,?_⟩;refine⟨_,rfl,_,rfl,l1,l2,_,_,rfl,rfl,S1 _ _ h1,S1 _ _ h2,by rw[e1,e2];lia,fun q2 hq2=>?_⟩;rw[ec];have S2:=S1.trans (ZC.new (o:=.lst ((o1++o2).map V.str)) hq2);have k2:(upd H1 q2 (.lst ((o1++o2).map V.str))) q2=some (.lst ((o1++o2).map V.str)):=Zg;generalize (upd H1 q2 (.lst ((o1++o2).map V.str)))=H2 at S2 k2 ⊢;refine⟨q2,_,rfl,.inl (ZF.of k2),_,_,rfl,rfl,_,rfl,Zu (fun z=>?_) (fun z=>?_)⟩
 ·rw[if_pos (by rw[xA] at z;lia)] at k;exact k H2 S2
 rw[if_neg (by rw[xA] at z;lia)] at k;dsimp only [Zw];refine⟨_,rfl,M.p,dm,_,rfl,S2 _ _ obm,Wy _ aA,M,ds,wa,xs,m,qs,rfl,W.same S2,ok.vl,ok.le,fun g kvs H3 hg S3' kg hf=>?_⟩;have S3:=S2.trans S3';refine Z4 ?_;dsimp only [Zw];refine⟨_,rfl,_,rfl,l1,l2,_,_,rfl,rfl,S3 _ _ h1,S3 _ _ h2,by rw[e1,e2];lia,fun q3 hq3=>?_⟩;rw[ec];have S4':=ZC.new (o:=.lst ((o1++o2).map V.str)) hq3;have S4:=S3.trans S4';have kg4:=S4' _ _ kg;have k4:(upd H3 q3 (.lst ((o1++o2).map V.str))) q3=some (.lst ((o1++o2).map V.str)):=Zg;generalize (upd H3 q3 (.lst ((o1++o2).map V.str)))=H4 at S4 k4 kg4 ⊢;refine⟨q3,rfl,⟨_,ZF.of k4⟩,?_⟩;refine Af ((o1++o2).map V.str) (fun i σ H'=>∃v6:Option V,σ = [some (.ref M.p),some (.int day),some (.int need),some (.ref l1),some (.ref l2),some (.ref g),v6]/\H4=H'/\∀j < i,∀y,(o1++o2)[j]? = some y->(if AV m y=true then some ("Forsworn" : Str) else none)=none) ⟨none,rfl,rfl,fun j hj=>absurd hj (by lia)⟩ (fun i σ H' _ ⟨_,_,e,_⟩=>by rw[← e];exact ZF.of k4) ?_ ?_
 ·rintro i v σ H' hv ⟨v6,rfl,rfl,ha⟩;rw[xK] at hv;obtain⟨n,hn,rfl⟩:=xS.mp hv;refine⟨_,rfl,_,rfl,g,_,rfl,ZY.k (k:=Sum.inr n) kg4,_,rfl,?_⟩;have hfn:=hf n;cases e:Z1 kvs (.inr n) with
  | none =>
   rw[e] at hfn;exact Zy ⟨_,rfl,rfl,Ds hn ha (if_neg (by rw[← hfn];decide))⟩
  | some v =>
   rw[e] at hfn;rw[BO (f:=fun n=>if AV m n=true then some ("Forsworn" : Str) else none) hn ha (if_pos hfn.symm)] at k;exact Z2 ⟨_,rfl,.inl ⟨n,rfl,by have:=(hw n (xN hn)).1;lia⟩,aA,fun _=>k H4 S4⟩
 rintro σ H' ⟨v6,rfl,rfl,ha⟩;rw[xA] at ha;rw[C4 (f:=fun n=>if AV m n=true then some ("Forsworn" : Str) else none) ha,zL] at k
 try dsimp only
 refine⟨_,rfl,M.p,dm,_,rfl,S4 _ _ obm,Wy _ aA,_,rfl,_,rfl,M,ds,wa,xs,m,qs,l1,o1,day,f,rfl,W.same S4,hds,S4 _ _ h1,n1,d0,d1,fun n hn=>(hw n (yQ _ hn)).2.1,fun l us H5 hl S5' kl rs=>?_⟩;refine⟨.ref l,Vp f o1,rfl,⟨l,us,rfl,kl,rs⟩,⟨fun p hp=>?_,by rw[xA];exact n1⟩,fun H6 S6=>?_⟩
 ·grind
 have S:=(S4.trans S5').trans S6;refine⟨_,rfl,_,_,rfl,rfl,_,rfl,Zu (fun z=>?_) (fun z=>?_)⟩
 ·rw[if_pos z] at k;exact⟨aA,_,rfl,.inr ⟨_,rfl,V0 hi⟩,fun _=>k H6 S⟩
 ·rw[if_neg z] at k;exact k H6 S
end
section
variable{C CM:eZ}
def Jk(M:ML)(ds:List ZO)(wa:eV)(xs qs:eW)(H H':Hp):Prop:=∀b o,H b=some o->¬mo M ds wa xs qs b->H' b=some o
def YU(M:ML)(ds:List ZO)(wa:eV)(xs qs:eW)(M':ML)(ds':List ZO)(wa':eV)(xs' qs':eW)(H:Hp):Prop:=∀b,mo M' ds' wa' xs' qs' b->mo M ds wa xs qs b\/H b=none
theorem YU.folk(f:Fd M.L ds wa ds' wa' H):YU M ds wa xs qs M ds' wa' xs qs H:=fun b hb=>by
 rcases hb with z | z | z | z | z
 ·exact .inl (.inl z)
 ·exact .inl (.inr (.inl z))
 ·exact .inl (.inr (.inr (.inl z)))
 ·exact .inl (.inr (.inr (.inr (.inl z))))
 ·exact(f b z).imp (fun z=>.inr (.inr (.inr (.inr z)))) id
theorem Fs:mo M ds wa xs qs M.ld:=.inr (.inr (.inl (by simp[ML.ls])))
inductive UQ(C CM:eZ)(vs:aG)(H:Hp)(Q:VK)(z3:XK):Prop
 |mk(M) (ds) (wa) (xs) (m) (qs) (n) (day wt)(_:vs = [.ref M.p,.str n,.int day,.int wt])(_:ZE C CM H M ds wa xs m qs)(_:m.deeds.length < 400)(_:ds.length < 40)(_:Z0 n)(_:0<=day)(_:day<=9999)(_:1<=wt)(_:wt<=1000)(_:Zz ds n=none)(_:∀wa' H',ZE C CM H' M (ds ++ [.come n day wt]) wa' xs {m with deeds:=m.deeds ++ [.tup [.str "come", .str n,.int day,.int wt]] } qs->Jk M ds wa xs qs H H'->YU M ds wa xs qs M (ds ++ [.come n day wt]) wa' xs qs H->Q .non H')
abbrev Lu:Stmt:=Yr (top 78) 1
theorem OG(Zit:ZS K CM "come" "Moot.come" Lu)(Tc:UY K C)(Tm:ZU K CM)(M_check_coming:Mt P w K mg base C "check_coming" ["self","name","day","weight"] 2 (YW C))(M_come:Mt P w K mg base C "come" ["self","name","day","weight"] 3 (UF C))(MM_check_moments:Mt P w K mg base CM "check_moments" ["self"] 1 (YI C CM)):Mt P w K mg base CM "come" ["self","name","day","weight"] 4 (UQ C CM):=by
 refine Zit.mq ["self","name","day","weight"] fun H vs Q E hr h=>?_;obtain⟨M,ds,wa,xs,m,qs,n,day,wt,rfl,W0,hn4,hl,hnm,d0,d1,w0,w1,hc,k⟩:=h;refine⟨rfl,_,(Ze (Ye (Vi (Z5 Q0) Tc.cl M_check_coming (Za Q6 (Za Q7 (Za Q8 Zb))))) (Ze (Ye (AJ Q0 Tm.cl MM_check_moments)) (Ze (Ye (Vi (Z5 Q0) Tc.cl M_come (Za Q6 (Za Q7 (Za Q8 Zb))))) (Zd (Ye (Y6 aD aE aF Ug (Z5 Q0) (Za (Vb (Za Zh (Za Q6 (Za Q7 (Za Q8 Zb))))) Zb))))))),?_⟩;have hz:=aC
 obtain⟨dm,obm⟩:=W0.ob;obtain⟨dx,ob⟩:=W0.fk.f.ob;refine⟨_,rfl,M.p,CM,dm,_,_,rfl,obm,Tm.cl,Tm.nf,A0 _,M.L.p,dx,_,rfl,ob,U9 _ _ _ _ aA,_,rfl,_,rfl,_,rfl,M.L,ds,n,day,wt,rfl,W0.fk.f,hl,hnm,d0,d1,w0,w1,hc,fun H1 S1=>?_⟩;have W1:=W0.same S1;refine⟨_,rfl,M.p,dm,_,rfl,S1 _ _ obm,Wy _ aA,M,ds,wa,xs,m,qs,rfl,W1,hn4,?_⟩;refine⟨_,rfl,M.p,CM,dm,_,_,rfl,S1 _ _ obm,Tm.cl,Tm.nf,A0 _,M.L.p,dx,_,rfl,S1 _ _ ob,U9 _ _ _ _ aA,_,rfl,_,rfl,_,rfl,M.L,ds,wa,n,day,wt,rfl,W1.fk,hl,hnm,d0,d1,w0,w1,hc,fun wa' H2 F2 T2 R2=>?_⟩;have W2:=W1.folk F2 T2 R2;obtain⟨dm2,obm2⟩:=W2.ob;obtain⟨vs,e1,_,e2⟩:=(W2.ls (M.ld,m.deeds) (by simp[Mo.at_])).get;dsimp only at e1 e2;refine⟨_,rfl,M.p,CM,dm2,_,_,rfl,obm2,Tm.cl,Tm.nd,BS _,.inl ⟨rfl,_,ZF.of e1⟩,_,rfl,_,rfl,_,rfl,aB rfl,fun p hp=>?_⟩;refine nw (o:=.tup [.str "come", .str n,.int day,.int wt]) hp fun H3 S3 kp=>?_;have W3:=W2.same S3;refine⟨M.ld,vs,.ref p,rfl,rfl,S3 _ _ e1,by lia,?_⟩;refine k wa' _ (W3.deed (S3 _ _ e1) ⟨p,_,rfl,Tz kp,⟨_,_,rfl,rfl,⟨_,_,rfl,rfl,⟨_,_,rfl,rfl,⟨_,_,rfl,rfl,rfl⟩⟩⟩⟩⟩) (fun b o e nb=>?_) (fun b hb=>?_)
 ·rw[Zc (fun z:b=M.ld=>nb (z▸Fs))];exact S3 _ _ (T2 b o (S1 _ _ e) fun z=>nb (.inr (.inr (.inr (.inr z)))))
 ·exact(YU.folk (xs:=xs) (qs:=qs) R2 b hb).imp id S1.free
theorem cG(M:ML):(Y9 M).length < 1000:=show 9 < 1000 by decide
def Mo.tried(m:Mo)(day:Int)(t:YN):Mo:={m with trials:=m.trials ++ [t],days:=m.days ++ [day],verd:=(Wh [] 0 (m.trials ++ [t])).1 }
theorem oaV.rep(h:oaV H oa v):YH (fz xs H) (B6 oa) v:=by
 cases oa with
 | none=>exact h
 | some p=>obtain⟨_,_,a,e,ha⟩:=h;exact⟨a,_,e,Tz ha,⟨_,_,rfl,rfl,⟨_,_,rfl,rfl,rfl⟩⟩⟩
theorem oaV.same(h:oaV H oa v)(k:ZC H H'):oaV H' oa v:=by
 cases oa with
 | none=>exact h
 | some p=>obtain⟨a1,a2,a,e,ha⟩:=h;exact⟨a1,a2,a,e,k _ _ ha⟩
theorem ZP.fz(r:ZP H sd us):ZN (fz xs H) (sd.map C5) us:=(ZP.mono (fun _ _ e=>Tz e) r).rep
inductive Js(C CM:eZ)(vs:aG)(H:Hp)(Q:VK)(z3:XK):Prop
 |mk(M) (ds) (wa) (xs) (m) (qs) (day need) (l1 l2) (o1 o2) (f) (oa) (v2)(_:vs = [.ref M.p,.int day,.int need,.ref l1,.ref l2,v2])(_:ZE C CM H M ds wa xs m qs)(_:J7 m)(_:m.trials.length < 60)(_:ds.length<=1000)(_:H l1=some (.lst (o1.map V.str)))(_:H l2=some (.lst (o2.map V.str)))(_:o1.length<=60)(_:o2.length<=60)(_:0<=day)(_:day<=9999)(_:1<=need)(_:need<=12000)(_:(∀n∈o1++o2,wOk ds day f n/\1<=f n/\f n<=1000))(_:oaV H oa v2)(_:∀lv s1 s2 H',ZE C CM H' (M.setv lv) ds wa (s1::s2::xs) (m.tried day ⟨Vp f o1,Vp f o2,need,oa⟩) qs->Jk M ds wa xs qs H H'->YU M ds wa xs qs (M.setv lv) ds wa (s1::s2::xs) qs H->Q (.int m.trials.length) H')
abbrev IY:Stmt:=Yr (top 78) 39
theorem Ss(Ziu:ZS K CM "try_case" "Moot.try_case" IY)(T:Txt mg)(Tm:ZU K CM)(MM_weighed:Mt P w K mg base CM "weighed" ["self","names","day"] 3 (YV C CM))(Z09:Fn P w K mg base "settled" ["suits"] 4 Tq):Mt P w K mg base CM "try_case" ["self","day","need","ones","others","oath"] 5 (Js C CM):=by
 refine Ziu.mq ["self","day","need","ones","others","oath"] fun H vs Q E hr h=>?_;obtain⟨M,ds,wa,xs,m,qs,day,need,l1,l2,o1,o2,f,oa,v2,rfl,W,ok,hlt,hds,h1,h2,n1,n2,d0,d1,e0,e1,hw,hoa,k⟩:=h;refine⟨rfl,_,(Ze (Ye (Y6 aD aE aF Ug (Z5 Q0) (Za (Vb (Za (Vi Q0 Tm.cl MM_weighed (Za Q8 (Za Q6 Zb))) (Za (Vi Q0 Tm.cl MM_weighed (Za Q9 (Za Q6 Zb))) (Za Q7 (Za Qa Zb))))) Zb))) (Ze (Ye (Y6 aD aE aF Ug (Z5 Q0) (Za Q6 Zb))) (Ze (Wj Q0 (Zs Z09 (Za (Z5 Q0) Zb))) (Zd (Zn (Zr BJ (Zx Yx T.len Z8 (Za (Z5 Q0) Zb)) Zf)))))),?_⟩;have hz:=aC
 obtain⟨dm,obm⟩:=W.ob;obtain⟨ts,t1,_,t3⟩:=(W.ls (M.lt,m.trials.map Wx) (by simp[Mo.at_])).get;dsimp only at t1 t3;rw[xA] at t3;refine⟨_,rfl,M.p,CM,dm,_,_,rfl,obm,Tm.cl,Tm.nt,AH _,.inl ⟨rfl,_,ZF.of t1⟩,?_⟩;refine⟨_,rfl,M.p,dm,_,rfl,obm,Wy _ aA,_,rfl,_,rfl,M,ds,wa,xs,m,qs,l1,o1,day,f,rfl,W,hds,h1,n1,d0,d1,fun n hn=>(hw n (yQ _ hn)).1,fun s1 us1 H1 hs1 S1 ks1 rs1=>?_⟩;refine⟨_,rfl,M.p,dm,_,rfl,S1 _ _ obm,Wy _ aA,_,rfl,_,rfl,M,ds,wa,xs,m,qs,l2,o2,day,f,rfl,W.same S1,hds,S1 _ _ h2,n2,d0,d1,fun n hn=>(hw n (xJ _ hn)).1,fun s2 us2 H2 hs2 S2 ks2 rs2=>?_⟩;refine⟨_,rfl,_,rfl,aB rfl,fun p hp=>?_⟩;refine nw (o:=.tup [.ref s1,.ref s2,.int need,v2]) hp fun H3 S3 k3=>?_;have S23:=S2.trans S3;have S:=S1.trans S23;have out:∀{b:eZ},H b=none->¬mo M ds wa xs qs b:=fun e z=>by obtain⟨o,e'⟩:=W.there z;rw[e] at e';cases e'
 have hs2':H s2=none:=S1.free hs2;have W3:=((W.same S).freeze (a:=s2) (S3 _ _ ks2) (fun z=>out hs2' (.inr (.inr (.inl z))))).freeze (a:=s1) (S23 _ _ ks1) (fun z=>out hs1 (.inr (.inr (.inl z))));refine⟨M.lt,ts,.ref p,rfl,rfl,S _ _ t1,by lia,?_⟩;have hd:YH (fz (s1::s2::xs) H3) (Wx ⟨Vp f o1,Vp f o2,need,oa⟩) (.ref p) :=
  ⟨p,_,rfl,Tz k3,⟨_,_,rfl,⟨s1,us1,rfl,Cf (by simp) (S23 _ _ ks1),ZP.fz (ZP.mono (ZC.t S23) rs1)⟩,⟨_,_,rfl,⟨s2,us2,rfl,Cf (by simp) (S3 _ _ ks2),ZP.fz (ZP.mono (ZC.t S3) rs2)⟩,⟨_,_,rfl,rfl,⟨_,_,rfl,(hoa.same S).rep,rfl⟩⟩⟩⟩⟩
 have W4:=W3.trial (S _ _ t1) hd;have T4:Jk M ds wa xs qs H (upd H3 M.lt (.lst (ts ++ [.ref p]))):=fun b o e nb=>by
  rw[Zc (fun z:b=M.lt=>nb (z ▸ .inr (.inr (.inl (by simp[ML.ls])))))];exact S _ _ e
 generalize (upd H3 M.lt (.lst (ts ++ [.ref p])))=H4 at W4 T4 ⊢;obtain⟨dm4,obm4⟩:=W4.ob;obtain⟨ys,y1,_,y3⟩:=(W4.ls (M.ly,m.days.map D.int) (by simp[Mo.at_])).get;dsimp only at y1 y3;rw[xA] at y3;have hdl:=ok.dl;refine⟨_,rfl,M.p,CM,dm4,_,_,rfl,obm4,Tm.cl,Tm.ny,K3 _,.inl ⟨rfl,_,ZF.of y1⟩,_,rfl,M.ly,ys,.int day,rfl,rfl,y1,by lia,?_⟩;have W5:=W4.day (d:=day) y1 rfl;have T5:Jk M ds wa xs qs H (upd H4 M.ly (.lst (ys ++ [.int day]))):=fun b o e nb=>by
  rw[Zc (fun z:b=M.ly=>nb (z ▸ .inr (.inr (.inl (by simp[ML.ls])))))];exact T4 b o e nb
 generalize (upd H4 M.ly (.lst (ys ++ [.int day])))=H5 at W5 T5 ⊢;obtain⟨dm5,obm5⟩:=W5.ob;obtain⟨ts5,z1,z2,z3⟩:=(W5.ls (M.lt,(m.trials ++ [(⟨Vp f o1,Vp f o2,need,oa⟩:YN)]).map Wx) (by simp[Mo.at_])).get;dsimp only at z1 z2 z3;rw[xA,xD,yL] at z3;have hok:∀t∈m.trials ++ [(⟨Vp f o1,Vp f o2,need,oa⟩:YN)],AK t:=fun t ht=>by
  rcases xI.mp ht with z | z
  ·exact ok.ok t z
  ·rw[xO.mp z];refine⟨⟨fun q hq=>?_,by show (o1.map _).length<=60;rw[xA];exact n1⟩,⟨fun q hq=>?_,by show (o2.map _).length<=60;rw[xA];exact n2⟩,e0,e1⟩
   ·grind
   ·grind
 refine⟨_,rfl,M.p,CM,dm5,_,_,rfl,obm5,Tm.cl,Tm.nt,AH _,M.lt,_,rfl,⟨ts5,z1,z2⟩,hok,by rw[xD,yL];lia,fun lv H6 hlv klv S6=>?_⟩;have W6:=W5.same S6;obtain⟨dm6,obm6⟩:=W6.ob;refine⟨_,rfl,M.p,CM,dm6,_,rfl,obm6,Tm.cl,Tm.nv,cG _,?_⟩;rw[dB];have W7:=W6.setv obm6 klv (fun z=>by obtain⟨o,e⟩:=W5.there z;rw[hlv] at e;cases e);have T7:Jk M ds wa xs qs H (upd H6 M.p (.ins CM dm6 (Y9 (M.setv lv)))):=fun b o e nb=>by
  rw[Zc (fun z:b=M.p=>nb (.inl z))];exact S6 _ _ (T5 b o e nb)
 generalize (upd H6 M.p (.ins CM dm6 (Y9 (M.setv lv))))=H7 at W7 T7 ⊢;obtain⟨dm7,obm7⟩:=W7.ob;obtain⟨ts7,q1,_,q3⟩:=(W7.ls ((M.setv lv).lt,(m.trials ++ [(⟨Vp f o1,Vp f o2,need,oa⟩:YN)]).map Wx) (by simp[Mo.at_])).get;dsimp only at q1 q3;rw[xA,xD,yL] at q3;refine⟨_,rfl,M.p,CM,dm7,_,_,rfl,obm7,Tm.cl,Tm.nt,AH _,M.lt,ts7,rfl,.inl (ZF.of q1),_,_,rfl,rfl,?_⟩;rw[q3];show Q (.int (((m.trials.length+1:Nat):Int) - 1)) H7;rw[show (((m.trials.length+1:Nat):Int) - 1)=(m.trials.length:Int) by lia];refine k lv s1 s2 H7 W7 T7 fun b hb=>?_;have lvn:H lv=none:=by
  cases e:H lv with
  | none=>rfl
  | some o =>
   by_cases z:mo M ds wa xs qs lv
   ·have z5:mo M ds wa (s1::s2::xs) qs lv:=by
     rcases z with z | z | z | z | z
     ·exact .inl z
     ·exact .inr (.inl z)
     ·exact .inr (.inr (.inl z))
     ·exact .inr (.inr (.inr (.inl (xG _ (xG _ z)))))
     ·exact .inr (.inr (.inr (.inr z)))
    obtain⟨o',e'⟩:=W5.there z5;rw[hlv] at e';cases e'
   ·rw[T5 lv o e z] at hlv;cases hlv
 rcases hb with z | z | z | z | z
 ·exact .inl (.inl z)
 ·exact .inl (.inr (.inl z))
 ·simp only[ML.ls,ML.setv,xC,xI,xT,or_false] at z;have old:b∈M.lh::(M.ls++qs)\/b=lv:=by
   simp only[ML.ls,xC,xI,xT,or_false];rcases z with z | (z | z | z | z | z | z) | z<;>simp[z]
  exact old.elim (fun z=>.inl (.inr (.inr (.inl z)))) (fun z=>.inr (z▸lvn))
 ·rcases xC.mp z with z | z
  ·exact .inr (z▸hs1)
  ·rcases xC.mp z with z | z
   ·exact .inr (z▸hs2')
   ·exact .inl (.inr (.inr (.inr (.inl z))))
 ·exact .inl (.inr (.inr (.inr (.inr z))))
end
section
variable{C CM:eZ}{c:eV}
def WL(O:eZ->Prop)(H:Hp)(O':eZ->Prop)(H':Hp):Prop:=(∀b o,H b=some o->¬O b->H' b=some o)/\∀b,O' b->O b\/H b=none
theorem WL.trans(a:WL O H O1 H1)(b:WL O1 H1 O2 H2):WL O H O2 H2:=by
 refine⟨fun x o e n=>b.1 x o (a.1 x o e n) fun z=>(a.2 x z).elim n (fun y=>by rw[e] at y;cases y),fun x hx=>?_⟩;rcases b.2 x hx with z | z
 ·exact a.2 x z
 ·by_cases y:O x
  ·exact .inl y
  ·refine .inr ?_;cases e:H x with
   | none=>rfl
   | some o=>rw[a.1 x o e y] at z;cases z
theorem WL.same(s:ZC H H'):WL O H O H':=⟨fun b o e _=>s b o e,fun b hb=>.inl hb⟩
def Tn(C CM:eZ)(H:Hp)(p:eZ)(ds:List ZO)(m:Mo)(O:eZ->Prop):Prop:=∃M wa xs qs,M.p=p/\ZE C CM H M ds wa xs m qs/\O=mo M ds wa xs qs
def QR(E:XK)(c:eV)(H:Hp)(k:Prop):Option Str->Prop
 | none=>k
 | some x=>∀H',ZC H H'->E (.ref (c x)) none H'
theorem Qm(h:Up ds m day ps th oa=none):(∀n∈ps,∃d,Zz ds n=some d/\d<=day)/\(∀i,th=some i->TU m i=none)/\∀i n,oa=some (i,n)->TV m.trials i n=none:=by
 unfold Up at h;simp only[Option.or_eq_none_iff] at h;obtain⟨h1,h2,h3,h4,_⟩:=h;rw[List.findSome?_eq_none_iff] at h1 h4;refine⟨fun n hn=>?_,fun i e=>by subst e;exact h2,fun i n e=>by subst e;exact h3⟩;have a:=h1 n hn;have b:=h4 n hn;unfold TC at a;unfold Ve at b;cases e:Zz ds n with
 | none=>rw[if_pos e] at a;cases a
 | some d =>
  refine⟨d,rfl,?_⟩;rw[e,Option.getD_some] at b
  by_cases z:day < d
  ·rw[if_pos z] at b;cases b
  ·lia
theorem Fq(H:Hp):∀o:List Str,ZN H (o.map D.str) (o.map V.str)
 | []=>rfl
 | x::o=>⟨_,_,rfl,rfl,Fq H o⟩
structure Dx (ds:List ZO) (m:Mo) (H:Hp) (l1 l2:eZ) (o1 o2:eS) (day need:Int) (f:Str->Int):Prop where
 ok:J7 m
 h4:m.deeds.length < 400
 hd:ds.length<=1000
 h1:H l1=some (.lst (o1.map V.str))
 h2:H l2=some (.lst (o2.map V.str))
 n1:o1.length<=60
 n2:o2.length<=60
 d0 : 0<=day
 d1:day<=9999
 ni:okI need
 hw:∀n∈o1++o2,n.length<=100/\∀d,Zz ds n=some d->d<=day->Dw (kw ds n) day (f n)/\1<=f n/\f n<=1000
theorem Dx.all(a:Dx ds m H l1 l2 o1 o2 day need f)(h:∀n∈o1++o2,∃d,Zz ds n=some d/\d<=day):∀n∈o1++o2,n.length<=100/\wOk ds day f n/\1<=f n/\f n<=1000:=fun n hn=>by
 obtain⟨d,e1,e2⟩:=h n hn;obtain⟨x,y,z⟩:=(a.hw n hn).2 d e1 e2;exact⟨(a.hw n hn).1,⟨d,e1,e2,x⟩,y,z⟩
theorem Oc(h:JT d=none) : 1<=d/\d<=12000:=by
 unfold JT at h
 by_cases z : 1<=d/\d<=12000
 ·exact z
 ·rw[if_neg z] at h;cases h
theorem XU(h:Aw m need f o1 o2=none):m.trials.length < 60:=by
 unfold Aw at h
 by_cases z : 60<=m.trials.length
 ·rw[if_pos z] at h;cases h
 ·lia
theorem cK(h:mo M ds wa (a1::a2::xs) qs b):mo M ds wa xs qs b\/b=a1\/b=a2:=by
 rcases h with z | z | z | z | z
 ·exact .inl (.inl z)
 ·exact .inl (.inr (.inl z))
 ·exact .inl (.inr (.inr (.inl z)))
 ·rcases xC.mp z with z | z
  ·exact .inr (.inl z)
  ·rcases xC.mp z with z | z
   ·exact .inr (.inr z)
   ·exact .inl (.inr (.inr (.inr (.inl z))))
 ·exact .inl (.inr (.inr (.inr (.inr z))))
theorem ZE.deed2(W:ZE C CM H M ds wa xs m qs)(S:ZC H H')(n1:H a1=none)(n2:H a2=none)(k1:H' a1=some (.lst u1))(k2:H' a2=some (.lst u2))(e:H M.ld=some (.lst vs))(hd:YH (fz (a1::a2::xs) H') d v) :
  ZE C CM (upd H' M.ld (.lst (vs ++ [v]))) M ds wa (a1::a2::xs) {m with deeds:=m.deeds ++ [d] } qs/\WL (mo M ds wa xs qs) H (mo M ds wa (a1::a2::xs) qs) (upd H' M.ld (.lst (vs ++ [v]))):=by
 have out:∀{b:eZ},H b=none->b∉M.lh::(M.ls++qs):=fun e z=>by obtain⟨ys,e'⟩:=W.lst z;rw[e] at e';cases e'
 refine⟨(((W.same S).freeze k2 (out n2)).freeze k1 (out n1)).deed (S _ _ e) hd,fun b o eb nb=>?_,fun b hb=>?_⟩
 ·rw[Zc (fun z:b=M.ld=>nb (z▸Fs))];exact S _ _ eb
 ·rcases cK hb with z | z | z
  ·exact .inl z
  ·exact .inr (z▸n1)
  ·exact .inr (z▸n2)
def clD(x:Str)(i day need:Int)(o1 o2:eS):D:=.tup [.str "claim", .str x,.int i,.int day,.int need,.lst (o1.map D.str),.lst (o2.map D.str)]
def Mo.won(m:Mo)(x:Str)(i:Nat)(day need:Int)(f:Str->Int)(o1 o2:eS):Mo :=
 {m.tried day ⟨Vp f o1,Vp f o2,need,none⟩ with haps:=m.haps.set i (m.haps.getD i [] ++ [.tup [.int m.trials.length,.tup [.int day,.str "won", .non,.str x]]]),deeds:=m.deeds ++ [clD x i day need o1 o2] }
def Bl(ds:List ZO)(m:Mo)(x:Str)(i day need:Int)(f:Str->Int)(o1 o2:eS):Option Str:=(JT need).or ((Up ds m day ([x]++o1++o2) (some i) none).or (Aw m need f o1 o2))
inductive VM(C CM:eZ)(c:eV)(vs:aG)(H:Hp)(Q:VK)(E:XK):Prop
 |mk(p) (ds) (m) (O) (x) (i day need) (l1 l2) (o1 o2) (f)(_:vs = [.ref p,.str x,.int i,.int day,.int need,.ref l1,.ref l2])(_:Tn C CM H p ds m O)(_:Dx ds m H l1 l2 o1 o2 day need f)(_:¬O l1)(_:¬O l2)(_:x.length<=100)(_:okI i)(_:QR E c H (∀O' H',Tn C CM H' p ds (m.won x i.toNat day need f o1 o2) O'->WL O H O' H'->Q (.int m.trials.length) H') (Bl ds m x i day need f o1 o2))
abbrev Gz:Stmt:=Yr (top 78) 8
theorem XS(Ziv:ZS K CM "claim" "Moot.claim" Gz)(T:Txt mg)(Tm:ZU K CM)(Zbo:Fn P w K mg base "check_day" ["day"] 1 VB)(Z1a:YZ P w K mg base "check_need" 1 (UP c))(MM_check_named:WA P w K mg base CM "check_named" 3 (WC C CM c))(MM_check_sides:WA P w K mg base CM "check_sides" 4 (VO C CM c))(MM_try_case:Mt P w K mg base CM "try_case" ["self","day","need","ones","others","oath"] 5 (Js C CM)):WA P w K mg base CM "claim" 6 (VM C CM c):=by
 refine Ziv.mx ["self","claimer","thing","day","need","ones","others","case"] ["self","claimer","thing","day","need","ones","others"] fun H vs Q E hr h=>?_;obtain⟨_,ds,m,_,x,i,day,need,l1,l2,o1,o2,f,rfl,⟨M,wa,xs,qs,rfl,W,rfl⟩,a,w1,w2,hx,hi,k⟩:=h;refine⟨rfl,_,(Ze (Ye (Zs Zbo (Za Q8 Zb))) (Ze (Ye (Ub Wk Z1a (Za Q9 Zb))) (Ze (Ye (Um Wk Q0 Tm.cl MM_check_named (Za Q8 (Za (Zr Wr (Zr Wr (Yh (Za Q6 Zb)) Qa) Qb) (Za Q7 (Za Yi Zb)))))) (Ze (Ye (Um Wk Q0 Tm.cl MM_check_sides (Za Q8 (Za Q9 (Za Qa (Za Qb Zb)))))) (Ze (Zv 7 (Vi Q0 Tm.cl MM_try_case (Za Q8 (Za Q9 (Za Qa (Za Qb (Za Yi Zb))))))) (Ze (Ye (Y6 aD aE aF Ug (Zq Z3 (Z5 Q0) Q7 (fun _ _=>rfl)) (Za (Vb (Za Qc (Za (Vb (Za Q8 (Za Zh (Za Yi (Za Q6 Zb))))) Zb))) Zb))) (Ze (Ye (Y6 aD aE aF Ug (Z5 Q0) (Za (Vb (Za Zh (Za Q6 (Za Q7 (Za Q8 (Za Q9 (Za (Vy DS T.list Jq (Za Qa Zb)) (Za (Vy DS T.list Jq (Za Qb Zb)) Zb)))))))) Zb))) (Zd (Zn Qc))))))))),?_⟩;have hz:=aC
 obtain⟨dm,obm⟩:=W.ob;have ⟨ok,h4,hds,h1,h2,n1,n2,d0,d1,ni,hw⟩:=a;have e1:(o1.map V.str).length=o1.length:=xA ..;have e2:(o2.map V.str).length=o2.length:=xA ..;have dI:okI day:=by unfold okI;lia
 unfold Bl at k;refine⟨_,rfl,day,rfl,d0,d1,_,rfl,need,rfl,ni,?_⟩;cases en:JT need with
 | some z=>rw[en] at k;exact k H (ZC.refl H)
 | none =>
 rw[en,zL] at k;refine⟨_,rfl,M.p,dm,_,rfl,obm,Wy _ aA,_,rfl,_,rfl,aB rfl,fun q1 hq1=>?_⟩;refine nw (o:=.lst [.str x]) hq1 fun H1 S1 k1=>?_;refine⟨_,rfl,q1,l1,_,_,rfl,rfl,k1,S1 _ _ h1,by rw[e1];show 1+_<=_;lia,fun q2 hq2=>?_⟩;have S2:=S1.trans (ZC.new (o:=.lst ([.str x]++o1.map V.str)) hq2);have k2:(upd H1 q2 (.lst ([.str x]++o1.map V.str))) q2=some (.lst ([.str x]++o1.map V.str)):=Zg;generalize (upd H1 q2 (.lst ([.str x]++o1.map V.str)))=H2 at S2 k2 ⊢;refine⟨_,rfl,q2,l2,_,_,rfl,rfl,k2,S2 _ _ h2,by rw[xD,e1,e2];show 1+_+_<=_;lia,fun q3 hq3=>?_⟩;have S3:=S2.trans (ZC.new (o:=.lst ([.str x]++o1.map V.str++o2.map V.str)) hq3);have k3:(upd H2 q3 (.lst ([.str x]++o1.map V.str++o2.map V.str))) q3=some (.lst (([x]++o1++o2).map V.str)):=by rw[Zg,xM,xM];rfl
 generalize (upd H2 q3 (.lst ([.str x]++o1.map V.str++o2.map V.str)))=H3 at S3 k3 ⊢;refine⟨_,rfl,M,ds,wa,xs,m,qs,day,q3,[x]++o1++o2,some i,none,.non,rfl,W.same S3,ok,k3,fun n hn=>?_,dI,fun j e=>by cases e;exact hi,rfl,fun H4 S4'=>?_⟩
 ·grind
 have S4:=S3.trans S4';cases ea:Up ds m day ([x]++o1++o2) (some i) none with
 | some z=>rw[ea] at k;exact k H4 S4
 | none =>
 rw[ea,zL] at k;obtain⟨p1,p2,_⟩:=Qm ea;have hall:=a.all fun n hn=>p1 n (by rw[yH];exact xJ _ hn);refine⟨_,rfl,M.p,dm,_,rfl,S4 _ _ obm,Wy _ aA,_,rfl,_,rfl,_,rfl,_,rfl,M,ds,wa,xs,m,qs,day,need,l1,l2,o1,o2,f,rfl,W.same S4,ok,h4,hds,S4 _ _ h1,S4 _ _ h2,n1,n2,d0,d1,ni,hall,fun H5 S5'=>?_⟩;have S5:=S4.trans S5';cases es:Aw m need f o1 o2 with
 | some z=>rw[es] at k;exact k H5 S5
 | none =>
 rw[es] at k;obtain⟨g0,g1⟩:=Oc en;refine⟨_,rfl,M.p,dm,_,rfl,S5 _ _ obm,Wy _ aA,_,rfl,_,rfl,_,rfl,_,rfl,M,ds,wa,xs,m,qs,day,need,l1,l2,o1,o2,f,none,.non,rfl,W.same S5,ok,XU es,hds,S5 _ _ h1,S5 _ _ h2,n1,n2,d0,d1,g0,g1,fun n hn=>(hall n hn).2,rfl,fun lv s1 s2 H6 W6 T6 F6=>?_⟩;have R6:WL (mo M ds wa xs qs) H (mo (M.setv lv) ds wa (s1::s2::xs) qs) H6:=(WL.same S5).trans ⟨T6,F6⟩;refine Z4 ?_;dsimp only [Zw];have hin:inB i m.brs.length:=by
  have:=p2 i rfl;unfold TU at this
  by_cases z:inB i m.brs.length
  ·exact z
  ·rw[if_neg z] at this;cases this
 obtain⟨j,rfl⟩:=yF hin.1;have hj:j < m.haps.length:=by rw[ok.hb];have:=hin.2;lia
 have hjq:j < qs.length:=by rw[W6.hn];exact hj
 have hq:qs[j]? = some qs[j]:=xE hjq;have hcl:m.haps[j]? = some (m.haps.getD j []):=by rw[yR,xE hj];rfl
 have hcn:=ok.hl _ (xN hcl);rw[zA] at k;unfold Mo.won at k;generalize m.haps.getD j []=cl at hcl hcn k;have mz:(qs[j],cl)∈qs.zip m.haps:=xN (i:=j) (by rw[zN];exact⟨hq,hcl⟩);obtain⟨us,u1,_,hul⟩:=(W6.ls (qs[j],cl) (by simp[Mo.at_,Mo.tried,mz])).get;dsimp only at u1 hul;obtain⟨dm6,obm6⟩:=W6.ob;refine⟨_,rfl,M.p,CM,dm6,_,_,rfl,obm6,Tm.cl,Tm.nh,Lk _,_,rfl,M.lh,_,j,.ref qs[j],rfl,rfl,ZF.of W6.hl,Yb (by rw[xK,hq];rfl),.inl ⟨rfl,_,ZF.of u1⟩,_,rfl,_,rfl,_,rfl,aB rfl,fun b hb=>?_⟩;refine nw (o:=.tup [.int day,.str "won", .non,.str x]) hb fun H7 S7 k7=>?_;refine⟨aB rfl,fun a' ha=>?_⟩;refine nw (o:=.tup [.int m.trials.length,.ref b]) ha fun H8 S8 k8=>?_;have W8:=W6.same (S7.trans S8);have u8:=S8 _ _ (S7 _ _ u1);refine⟨qs[j],us,.ref a',rfl,rfl,u8,by lia,?_⟩;have W9:=W8.hap hq hcl (d:=.tup [.int m.trials.length,.tup [.int day,.str "won", .non,.str x]]) (v:=.ref a') u8 ⟨a',_,rfl,Tz k8,⟨_,_,rfl,rfl,⟨_,_,rfl,⟨b,_,rfl,Tz (S8 _ _ k7),⟨_,_,rfl,rfl,⟨_,_,rfl,rfl,⟨_,_,rfl,rfl,⟨_,_,rfl,rfl,rfl⟩⟩⟩⟩⟩,rfl⟩⟩⟩
 have R9:WL (mo M ds wa xs qs) H (mo (M.setv lv) ds wa (s1::s2::xs) qs) (upd H8 qs[j] (.lst (us ++ [.ref a']))):=(R6.trans (WL.same (S7.trans S8))).trans ⟨fun b o e nb=>by
  rw[Zc (fun z:b=qs[j]=>nb (z ▸ .inr (.inr (.inl (xG _ (xJ _ (yY hjq)))))))];exact e,fun _ hb=>.inl hb⟩
 generalize (upd H8 qs[j] (.lst (us ++ [.ref a'])))=H9 at W9 R9 ⊢;obtain⟨dm9,obm9⟩:=W9.ob;obtain⟨vs,f1,_,f2⟩:=(W9.ls (M.ld,m.deeds) (by simp[Mo.at_,Mo.tried,ML.setv])).get;dsimp only at f1 f2;have r1:=R9.1 l1 _ h1 w1;have r2:=R9.1 l2 _ h2 w2;refine⟨_,rfl,M.p,CM,dm9,_,_,rfl,obm9,Tm.cl,Tm.nd,BS _,.inl ⟨rfl,_,ZF.of f1⟩,_,rfl,_,rfl,_,rfl,_,rfl,_,rfl,l1,_,rfl,.inl (ZF.of r1),fun a1 ha1=>?_⟩;refine nw (o:=.lst (o1.map V.str)) ha1 fun Ha Sa ka=>?_;refine⟨_,rfl,l2,_,rfl,.inl (ZF.of (Sa _ _ r2)),fun a2 ha2=>?_⟩;refine nw (o:=.lst (o2.map V.str)) ha2 fun Hb Sb kb=>?_;refine⟨aB rfl,fun q hq'=>?_⟩;refine nw (o:=.tup [.str "claim", .str x,.int j,.int day,.int need,.ref a1,.ref a2]) hq' fun Hc Sc kc=>?_;have Sac:=(Sa.trans Sb).trans Sc;refine⟨M.ld,vs,.ref q,rfl,rfl,Sac _ _ f1,by lia,?_⟩;have ka':=Sc _ _ (Sb _ _ ka);have kb':=Sc _ _ kb;obtain⟨W10,R10⟩:=W9.deed2 Sac ha1 (Sa.free ha2) ka' kb' f1 (d:=clD x j day need o1 o2) (v:=.ref q)
  ⟨q,_,rfl,Tz kc,⟨_,_,rfl,rfl,⟨_,_,rfl,rfl,⟨_,_,rfl,rfl,⟨_,_,rfl,rfl,⟨_,_,rfl,rfl,⟨_,_,rfl,⟨a1,_,rfl,Cf (by simp) ka',Fq _ _⟩,⟨_,_,rfl,⟨a2,_,rfl,Cf (by simp) kb',Fq _ _⟩,rfl⟩⟩⟩⟩⟩⟩⟩⟩
 exact⟨_,rfl,k _ _ ⟨M.setv lv,wa,_,qs,rfl,W10,rfl⟩ (R9.trans R10)⟩
end
section
variable{C CM:eZ}
inductive WZ(C CM:eZ)(vs:aG)(H:Hp)(Q:VK)(z3:XK):Prop
 |mk(M) (ds) (wa) (xs) (m) (qs) (n) (day)(_:vs = [.ref M.p,.str n,.int day])(_:ZE C CM H M ds wa xs m qs)(_:m.deeds.length < 400)(_:m.brs.length < 40)(_:m.haps.length<=1000)(_:0<=day)(_:day<=9999)(_:J7 m)(_:n.length<=100)(_:Up ds m day [n] none none=none)(_:∀q H',ZE C CM H' M ds wa xs {m with brs:=m.brs ++ [.tup [.str n,.int day]],haps:=m.haps ++ [[]],deeds:=m.deeds ++ [.tup [.str "bring", .str n,.int day]] } (qs ++ [q])->Jk M ds wa xs qs H H'->YU M ds wa xs qs M ds wa xs (qs ++ [q]) H->Q (.int m.brs.length) H')
abbrev G0:Stmt:=Yr (top 78) 5
theorem cX(Ziw:ZS K CM "bring" "Moot.bring" G0)(T:Txt mg)(Tm:ZU K CM)(C0:∃t,mg "MOST_THINGS" = some (.int 40 t))(Zbo:Fn P w K mg base "check_day" ["day"] 1 VB)(MM_check_named:WA P w K mg base CM "check_named" 3 (WC C CM c))(MM_check_moments:Mt P w K mg base CM "check_moments" ["self"] 1 (YI C CM)):Mt P w K mg base CM "bring" ["self","name","day"] 4 (WZ C CM):=by
 obtain⟨t0,c_MOST_THINGS⟩:=C0;have r_MOST_THINGS:ZG (.int 40) (.int 40 t0):=⟨t0,rfl⟩;refine Ziw.mq ["self","name","day"] fun H vs Q E hr h=>?_;obtain⟨M,ds,wa,xs,m,qs,n,day,rfl,W0,hn4,hl,hh,d0,d1,c1,c2,c3,k⟩:=h;refine⟨rfl,_,(Ze (Ye (Zs Zbo (Za Q7 Zb))) (Ze (Ye (Um Xq.never Q0 Tm.cl MM_check_named (Za Q7 (Za (Yh (Za Q6 Zb)) (Za Yi (Za Yi Zb)))))) (Ze (Zm (Zl As (Zx Yx T.len Z8 (Za (Z5 Q0) Zb)) (Yv c_MOST_THINGS r_MOST_THINGS) (Zp _)) (Zd Vd) Zo) (Ze (Ye (AJ Q0 Tm.cl MM_check_moments)) (Ze (Ye (Y6 aD aE aF Ug (Z5 Q0) (Za (Vb (Za Q6 (Za Q7 Zb))) Zb))) (Ze (Ye (Y6 aD aE aF Ug (Z5 Q0) (Za (Yh Zb) Zb))) (Ze (Ye (Y6 aD aE aF Ug (Z5 Q0) (Za (Vb (Za Zh (Za Q6 (Za Q7 Zb)))) Zb))) (Zd (Zn (Zr BJ (Zx Yx T.len Z8 (Za (Z5 Q0) Zb)) Zf)))))))))),?_⟩;have hz:=aC
 refine⟨_,rfl,day,rfl,d0,d1,?_⟩;obtain⟨dm,obm⟩:=W0.ob;refine⟨_,rfl,M.p,dm,_,rfl,obm,Wy _ aA,_,rfl,_,rfl,aB rfl,fun pl hpl=>?_⟩;refine nw (o:=.lst [.str n]) hpl fun H1 S1 k1=>?_;have W1:=W0.same S1;refine⟨M,ds,wa,xs,m,qs,day,pl,[n],none,none,.non,rfl,W1,c1,k1,fun m hm=>by rw[xO.mp hm];exact c2,by unfold okI;lia,(fun j e=>nomatch e),rfl,fun H1' S1'=>?_⟩;rw[c3];replace S1:=S1.trans S1';replace W1:=W1.same S1';have obm1:=S1 _ _ obm;obtain⟨us,e1,_,hul⟩:=(W1.ls (M.lb,m.brs) (by simp[Mo.at_])).get;dsimp only at e1 hul;refine⟨_,rfl,M.p,CM,dm,_,_,rfl,obm1,Tm.cl,Tm.nb,BC _,M.lb,us,rfl,.inl (ZF.of e1),_,_,rfl,rfl,_,rfl,Zu (fun z=>absurd z (by lia)) (fun _=>?_)⟩;refine⟨_,rfl,M.p,dm,_,rfl,obm1,Wy _ aA,M,ds,wa,xs,m,qs,rfl,W1,hn4,?_⟩;refine⟨_,rfl,M.p,CM,dm,_,_,rfl,obm1,Tm.cl,Tm.nb,BC _,.inl ⟨rfl,_,ZF.of e1⟩,_,rfl,_,rfl,aB rfl,fun a ha=>?_⟩;refine nw (o:=.tup [.str n,.int day]) ha fun H2 S2 k2=>?_;have W2:=W1.same S2;refine⟨M.lb,us,.ref a,rfl,rfl,S2 _ _ e1,by lia,?_⟩;have W3:=W2.brg (S2 _ _ e1) (d:=.tup [.str n,.int day]) (v:=.ref a) ⟨a,_,rfl,Tz k2,⟨_,_,rfl,rfl,⟨_,_,rfl,rfl,rfl⟩⟩⟩;have T3:Jk M ds wa xs qs H (upd H2 M.lb (.lst (us ++ [.ref a]))):=fun b o e nb=>by
  rw[Zc (fun z:b=M.lb=>nb (z ▸ .inr (.inr (.inl (by simp[ML.ls])))))];exact S2 _ _ (S1 _ _ e)
 generalize (upd H2 M.lb (.lst (us ++ [.ref a])))=H3 at W3 T3 ⊢;obtain⟨dm2,obm2⟩:=W3.ob;have e3:=W3.hl;refine⟨_,rfl,M.p,CM,dm2,_,_,rfl,obm2,Tm.cl,Tm.nh,Lk _,.inl ⟨rfl,_,ZF.of e3⟩,aB rfl,fun q hq=>?_⟩;have S4:=ZC.new (o:=.lst []) hq;have k4:(upd H3 q (.lst [])) q=some (.lst []):=Zg;have nq:¬mo M ds wa xs qs q:=fun z=>by obtain⟨o,e⟩:=W3.there z;rw[hq] at e;cases e
 have hqf:H q=none:=by
  cases e:H q with
  | none=>rfl
  | some o=>rw[T3 q o e nq] at hq;cases hq
 generalize (upd H3 q (.lst []))=H4 at S4 k4 ⊢;refine⟨M.lh,qs.map V.ref,.ref q,rfl,rfl,S4 _ _ e3,by rw[xA];have:=W0.hn;lia,?_⟩;have W5:=(W3.same S4).newq k4 nq;have T5:Jk M ds wa xs qs H (upd H4 M.lh (.lst (qs.map V.ref ++ [.ref q]))):=fun b o e nb=>by
  rw[Zc (fun z:b=M.lh=>nb (z ▸ .inr (.inr (.inl xQ))))];exact S4 _ _ (T3 b o e nb)
 have em:(qs ++ [q]).map V.ref=qs.map V.ref ++ [.ref q]:=by rw[xM];rfl
 rw[em] at W5;generalize (upd H4 M.lh (.lst (qs.map V.ref ++ [.ref q])))=H5 at W5 T5 ⊢;obtain⟨dm4,obm4⟩:=W5.ob;obtain⟨vs,f1,_,f2⟩:=(W5.ls (M.ld,m.deeds) (by simp[Mo.at_])).get;dsimp only at f1 f2;refine⟨_,rfl,M.p,CM,dm4,_,_,rfl,obm4,Tm.cl,Tm.nd,BS _,.inl ⟨rfl,_,ZF.of f1⟩,_,rfl,_,rfl,aB rfl,fun p hp=>?_⟩;refine nw (o:=.tup [.str "bring", .str n,.int day]) hp fun H6 S6 k6=>?_;have W6:=W5.same S6;refine⟨M.ld,vs,.ref p,rfl,rfl,S6 _ _ f1,by lia,?_⟩;have W7:=W6.deed (v:=.ref p) (S6 _ _ f1) (d:=.tup [.str "bring", .str n,.int day]) ⟨p,_,rfl,Tz k6,⟨_,_,rfl,rfl,⟨_,_,rfl,rfl,⟨_,_,rfl,rfl,rfl⟩⟩⟩⟩;have T7:Jk M ds wa xs qs H (upd H6 M.ld (.lst (vs ++ [.ref p]))):=fun b o e nb=>by
  rw[Zc (fun z:b=M.ld=>nb (z▸Fs))];exact S6 _ _ (T5 b o e nb)
 generalize (upd H6 M.ld (.lst (vs ++ [.ref p])))=H7 at W7 T7 ⊢;obtain⟨dm6,obm6⟩:=W7.ob;obtain⟨us6,g1,_,g2⟩:=(W7.ls (M.lb,m.brs ++ [.tup [.str n,.int day]]) (by simp[Mo.at_])).get;dsimp only at g1 g2;rw[xD] at g2;refine⟨_,rfl,M.p,CM,dm6,_,_,rfl,obm6,Tm.cl,Tm.nb,BC _,M.lb,us6,rfl,.inl (ZF.of g1),_,_,rfl,rfl,?_⟩;have ei:((us6.length:Int) - 1)=(m.brs.length:Int):=by rw[g2];simp
 show Q (.int ((us6.length:Int) - 1)) H7;rw[ei];refine k q H7 W7 T7 fun b hb=>?_;rcases hb with z | z | z | z | z
 ·exact .inl (.inl z)
 ·exact .inl (.inr (.inl z))
 ·rw[← yH,← xX] at z;rcases xI.mp z with z | z
  ·exact .inl (.inr (.inr (.inl z)))
  ·rw[xO.mp z];exact .inr hqf
 ·exact .inl (.inr (.inr (.inr (.inl z))))
 ·exact .inl (.inr (.inr (.inr (.inr z))))
theorem Wl{t u:TS}{D:ZW}{σ:St}{H:Hp}(h:∀D':ZW,(∀ σ' H',u D σ' H'->D'.nx σ' H')->t D' σ H):Vq t u D σ H:=h {D with nx:=u D } fun _ _ h=>h
theorem ini(hp:H p=some (.ins CM dx fs))(hl:H l=none):(upd (upd H l y) p (.ins CM dx fs')) p=some (.ins CM dx fs')/\(upd (upd H l y) p (.ins CM dx fs')) l=some y/\(∀b o,H b=some o->b≠p->(upd (upd H l y) p (.ins CM dx fs')) b=some o)/\p≠l:=by
 have n:p≠l:=Zi hp hl;exact⟨Zg,by rw[Zc n.symm,Zg],fun b o e nb=>by rw[Zc nb,Zc (Zi e hl)];exact e,n⟩
theorem Jy{N:Hp->Prop}{H:Hp}{p l dx:eZ}{fs:List (Str×V)}{nm:Str}{y:HO}{k:Nat}(hp:H p=some (.ins CM dx fs))(hl:H l=none)(hb:fs.length<=k)(h:∀H1 f1,Zk nm (.ref l) fs=f1->f1.length<=k+1->H1 p=some (.ins CM dx f1)->H1 l=some y->(∀b o,H b=some o->b≠p->H1 b=some o)->N H1):N (upd (upd H l y) p (.ins CM dx (Zk nm (.ref l) fs))) :=
 have i:=ini (fs':=Zk nm (.ref l) fs) (y:=y) hp hl
 h _ _ rfl (yK (JV ..) (by lia)) i.1 i.2.1 i.2.2.1
def mo0:Mo:=⟨[],[],[],[],[],[],[],fun _=>none,0⟩
inductive UB(C CM:eZ)(vs:aG)(H:Hp)(Q:VK)(z3:XK):Prop
 |mk(p dx)(_:vs = [.ref p])(_:H p=some (.ins CM dx []))(_:∀M H',M.p=p->ZE C CM H' M [] (fun _=>0) [] mo0 []->(∀b o,H b=some o->b≠p->H' b=some o)->(∀b,mo M [] (fun _=>0) [] [] b->b=p\/H b=none)->Q .non H')
abbrev Lm:Stmt:=Yr (top 78) 0
theorem Og(Zix:ZS K CM "__init__" "Moot.__init__" Lm)(Tm:ZU K CM)(M_Folk:AG P w K mg base C "Folk" 1 (Th C)):Mt P w K mg base CM "__init__" ["self"] 3 (UB C CM):=by
 refine Zix.mq ["self"] fun H vs Q E hr h=>?_;obtain⟨p,dx,rfl,hp,k⟩:=h;refine⟨rfl,_,(Ze (Wj Q0 (Yh Zb)) (Ze (Wj Q0 (C6 M_Folk)) (Ze (Wj Q0 (Yh Zb)) (Ze (Wj Q0 (Yh Zb)) (Ze (Wj Q0 (Yh Zb)) (Ze (Wj Q0 (Yh Zb)) (Ze (Wj Q0 (Yh Zb)) (Ze (Wj Q0 (Yh Zb)) (Zd (Wj Q0 AZ)))))))))),?_⟩;have hz:=aC
 refine Wl fun D1 hn1=>?_;refine⟨aB rfl,fun ld hld=>?_⟩;have pld:p≠ld:=Zi hp hld;refine⟨_,rfl,p,CM,dx,[],rfl,(by rw[Zc pld];exact hp),Tm.cl,Tm.nd,(yU (xH 0) aA),Jy (k:=0) hp hld (xH 0) fun H1 f1 g1 l1 i1p i1l i1k=>hn1 _ _ ?_⟩;refine Wl fun D2 hn2=>?_;intro x dx2 nx ndx nex;have px:p≠x:=Zi i1p nx;have pdx:p≠dx2:=Zi i1p ndx;refine⟨x,dx2,rfl,Zg,fun L H2a eL F2 kp fr=>⟨rfl,?_⟩⟩;subst eL;have sm2:ZC H1 H2a:=fun b o e=>kp b o (by rw[Zc (Zi e nx),Zc (Zi e ndx)];exact e) (Zi e nx);have fr2:∀b,b=L.dc\/b=L.dw\/b=L.dd\/b=L.dh->H1 b=none:=fun b hb=>by
  have:=fr b hb
  by_cases c:b=L.p
  ·rw[c];exact nx
  ·rw[Zc c] at this
   by_cases c2:b=dx2
   ·rw[c2];exact ndx
   ·rw[Zc c2] at this;exact this
 have i2p0:=sm2 _ _ i1p;have K2:Fk C H2a L [] (fun _=>0):=by
  obtain⟨kv,w1,w2⟩:=F2.w;exact⟨F2,YX.start F2,kv,w1,fun p hp=>by rw[List.eq_nil_of_length_eq_zero (Nat.le_zero.mp w2)] at hp;cases hp⟩
 refine⟨_,rfl,p,CM,dx,f1,rfl,i2p0,Tm.cl,Tm.nf,(yU l1 aA),hn2 _ _ ?_⟩;have l2:(Zk "folk" (V.ref L.p) f1).length<=2:=yK (JV ..) (by lia);generalize g2:Zk "folk" (V.ref L.p) f1=f2 at l2 ⊢;have i2p:(upd H2a p (.ins CM dx f2)) p=some (.ins CM dx f2):=Zg;have i2k:∀b o,H2a b=some o->b≠p->(upd H2a p (.ins CM dx f2)) b=some o:=fun b o e nb=>by rw[Zc nb];exact e
 generalize (upd H2a p (.ins CM dx f2))=H2 at i2p i2k ⊢;refine Wl fun D3 hn3=>?_;refine⟨aB rfl,fun lb hlb=>?_⟩;have plb:p≠lb:=Zi i2p hlb;refine⟨_,rfl,p,CM,dx,f2,rfl,(by rw[Zc plb];exact i2p),Tm.cl,Tm.nb,(yU l2 aA),Jy (k:=2) i2p hlb l2 fun H3 f3 g3 l3 i3p i3l i3k=>hn3 _ _ ?_⟩;refine Wl fun D4 hn4=>?_;refine⟨aB rfl,fun lh hlh=>?_⟩;have plh:p≠lh:=Zi i3p hlh;refine⟨_,rfl,p,CM,dx,f3,rfl,(by rw[Zc plh];exact i3p),Tm.cl,Tm.nh,(yU l3 aA),Jy (k:=3) i3p hlh l3 fun H4 f4 g4 l4 i4p i4l i4k=>hn4 _ _ ?_⟩;refine Wl fun D5 hn5=>?_;refine⟨aB rfl,fun lq hlq=>?_⟩;have plq:p≠lq:=Zi i4p hlq;refine⟨_,rfl,p,CM,dx,f4,rfl,(by rw[Zc plq];exact i4p),Tm.cl,Tm.nq,(yU l4 aA),Jy (k:=4) i4p hlq l4 fun H5 f5 g5 l5 i5p i5l i5k=>hn5 _ _ ?_⟩;refine Wl fun D6 hn6=>?_;refine⟨aB rfl,fun lt hlt=>?_⟩;have plt:p≠lt:=Zi i5p hlt;refine⟨_,rfl,p,CM,dx,f5,rfl,(by rw[Zc plt];exact i5p),Tm.cl,Tm.nt,(yU l5 aA),Jy (k:=5) i5p hlt l5 fun H6 f6 g6 l6 i6p i6l i6k=>hn6 _ _ ?_⟩;refine Wl fun D7 hn7=>?_;refine⟨aB rfl,fun ly hly=>?_⟩;have ply:p≠ly:=Zi i6p hly;refine⟨_,rfl,p,CM,dx,f6,rfl,(by rw[Zc ply];exact i6p),Tm.cl,Tm.ny,(yU l6 aA),Jy (k:=6) i6p hly l6 fun H7 f7 g7 l7 i7p i7l i7k=>hn7 _ _ ?_⟩;refine Wl fun D8 hn8=>?_;refine⟨aB rfl,fun lv hlv=>?_⟩;have plv:p≠lv:=Zi i7p hlv;refine⟨_,rfl,p,CM,dx,f7,rfl,(by rw[Zc plv];exact i7p),Tm.cl,Tm.nv,(yU l7 aA),Jy (k:=7) i7p hlv l7 fun H8 f8 g8 l8 i8p i8l i8k=>hn8 _ _ ?_⟩;intro dp hdp;have pdp:p≠dp:=Zi i8p hdp;refine⟨_,rfl,p,CM,dx,f8,rfl,(by rw[Zc pdp];exact i8p),Tm.cl,Tm.np,(yU l8 aA),Jy (k:=8) i8p hdp l8 fun H9 f9 g9 l9 i9p i9l i9k=>?_⟩;have k1:=i1k;have k2:∀b o,H b=some o->b≠p->H2 b=some o:=fun b o e n=>i2k b o (sm2 b o (k1 b o e n)) n;have k3:∀b o,H b=some o->b≠p->H3 b=some o:=fun b o e n=>i3k b o (k2 b o e n) n;have k4:∀b o,H b=some o->b≠p->H4 b=some o:=fun b o e n=>i4k b o (k3 b o e n) n;have k5:∀b o,H b=some o->b≠p->H5 b=some o:=fun b o e n=>i5k b o (k4 b o e n) n;have k6:∀b o,H b=some o->b≠p->H6 b=some o:=fun b o e n=>i6k b o (k5 b o e n) n;have k7:∀b o,H b=some o->b≠p->H7 b=some o:=fun b o e n=>i7k b o (k6 b o e n) n;have k8:∀b o,H b=some o->b≠p->H8 b=some o:=fun b o e n=>i8k b o (k7 b o e n) n;have k9:∀b o,H b=some o->b≠p->H9 b=some o:=fun b o e n=>i9k b o (k8 b o e n) n;have q2:=i2k;have q3:∀b o,H2a b=some o->b≠p->H3 b=some o:=fun b o e n=>i3k b o (q2 b o e n) n;have q4:∀b o,H2a b=some o->b≠p->H4 b=some o:=fun b o e n=>i4k b o (q3 b o e n) n;have q5:∀b o,H2a b=some o->b≠p->H5 b=some o:=fun b o e n=>i5k b o (q4 b o e n) n;have q6:∀b o,H2a b=some o->b≠p->H6 b=some o:=fun b o e n=>i6k b o (q5 b o e n) n;have q7:∀b o,H2a b=some o->b≠p->H7 b=some o:=fun b o e n=>i7k b o (q6 b o e n) n;have q8:∀b o,H2a b=some o->b≠p->H8 b=some o:=fun b o e n=>i8k b o (q7 b o e n) n;have q9:∀b o,H2a b=some o->b≠p->H9 b=some o:=fun b o e n=>i9k b o (q8 b o e n) n;have eld:H9 ld=some (.lst []):=(i9k _ _ (i8k _ _ (i7k _ _ (i6k _ _ (i5k _ _ (i4k _ _ (i3k _ _ (i2k _ _ (sm2 _ _ i1l) pld.symm) pld.symm) pld.symm) pld.symm) pld.symm) pld.symm) pld.symm) pld.symm);have zld:H ld=none:=hld;have elb:H9 lb=some (.lst []):=(i9k _ _ (i8k _ _ (i7k _ _ (i6k _ _ (i5k _ _ (i4k _ _ i3l plb.symm) plb.symm) plb.symm) plb.symm) plb.symm) plb.symm);have zlb:H lb=none:=by
  cases eb:H lb with
  | none=>rfl
  | some o=>have:=k2 _ _ eb plb.symm;rw[hlb] at this;cases this
 have elh:H9 lh=some (.lst []):=(i9k _ _ (i8k _ _ (i7k _ _ (i6k _ _ (i5k _ _ i4l plh.symm) plh.symm) plh.symm) plh.symm) plh.symm);have zlh:H lh=none:=by
  cases eb:H lh with
  | none=>rfl
  | some o=>have:=k3 _ _ eb plh.symm;rw[hlh] at this;cases this
 have elq:H9 lq=some (.lst []):=(i9k _ _ (i8k _ _ (i7k _ _ (i6k _ _ i5l plq.symm) plq.symm) plq.symm) plq.symm);have zlq:H lq=none:=by
  cases eb:H lq with
  | none=>rfl
  | some o=>have:=k4 _ _ eb plq.symm;rw[hlq] at this;cases this
 have elt:H9 lt=some (.lst []):=(i9k _ _ (i8k _ _ (i7k _ _ i6l plt.symm) plt.symm) plt.symm);have zlt:H lt=none:=by
  cases eb:H lt with
  | none=>rfl
  | some o=>have:=k5 _ _ eb plt.symm;rw[hlt] at this;cases this
 have ely:H9 ly=some (.lst []):=(i9k _ _ (i8k _ _ i7l ply.symm) ply.symm);have zly:H ly=none:=by
  cases eb:H ly with
  | none=>rfl
  | some o=>have:=k6 _ _ eb ply.symm;rw[hly] at this;cases this
 have elv:H9 lv=some (.lst []):=(i9k _ _ i8l plv.symm);have zlv:H lv=none:=by
  cases eb:H lv with
  | none=>rfl
  | some o=>have:=k7 _ _ eb plv.symm;rw[hlv] at this;cases this
 have edp:H9 dp=some (.dK []):=i9l;have zdp:H dp=none:=by
  cases eb:H dp with
  | none=>rfl
  | some o=>have:=k8 _ _ eb pdp.symm;rw[hdp] at this;cases this
 have nldlb:ld≠lb:=Zi (i2k _ _ (sm2 _ _ i1l) pld.symm) hlb;have nldlh:ld≠lh:=Zi (i3k _ _ (i2k _ _ (sm2 _ _ i1l) pld.symm) pld.symm) hlh;have nldlq:ld≠lq:=Zi (i4k _ _ (i3k _ _ (i2k _ _ (sm2 _ _ i1l) pld.symm) pld.symm) pld.symm) hlq;have nldlt:ld≠lt:=Zi (i5k _ _ (i4k _ _ (i3k _ _ (i2k _ _ (sm2 _ _ i1l) pld.symm) pld.symm) pld.symm) pld.symm) hlt;have nldly:ld≠ly:=Zi (i6k _ _ (i5k _ _ (i4k _ _ (i3k _ _ (i2k _ _ (sm2 _ _ i1l) pld.symm) pld.symm) pld.symm) pld.symm) pld.symm) hly;have nldlv:ld≠lv:=Zi (i7k _ _ (i6k _ _ (i5k _ _ (i4k _ _ (i3k _ _ (i2k _ _ (sm2 _ _ i1l) pld.symm) pld.symm) pld.symm) pld.symm) pld.symm) pld.symm) hlv;have nlblh:lb≠lh:=Zi i3l hlh;have nlblq:lb≠lq:=Zi (i4k _ _ i3l plb.symm) hlq;have nlblt:lb≠lt:=Zi (i5k _ _ (i4k _ _ i3l plb.symm) plb.symm) hlt;have nlbly:lb≠ly:=Zi (i6k _ _ (i5k _ _ (i4k _ _ i3l plb.symm) plb.symm) plb.symm) hly;have nlblv:lb≠lv:=Zi (i7k _ _ (i6k _ _ (i5k _ _ (i4k _ _ i3l plb.symm) plb.symm) plb.symm) plb.symm) hlv;have nlhlq:lh≠lq:=Zi i4l hlq;have nlhlt:lh≠lt:=Zi (i5k _ _ i4l plh.symm) hlt;have nlhly:lh≠ly:=Zi (i6k _ _ (i5k _ _ i4l plh.symm) plh.symm) hly;have nlhlv:lh≠lv:=Zi (i7k _ _ (i6k _ _ (i5k _ _ i4l plh.symm) plh.symm) plh.symm) hlv;have nlqlt:lq≠lt:=Zi i5l hlt;have nlqly:lq≠ly:=Zi (i6k _ _ i5l plq.symm) hly;have nlqlv:lq≠lv:=Zi (i7k _ _ (i6k _ _ i5l plq.symm) plq.symm) hlv;have nltly:lt≠ly:=Zi i6l hly;have nltlv:lt≠lv:=Zi (i7k _ _ i6l plt.symm) hlv;have nlylv:ly≠lv:=Zi i7l hlv;have pl:¬own L [] (fun _=>0) p:=fun z=>by
  rcases z with z | z | z | z | z | ⟨n,l,e,z⟩
  ·exact px z
  ·have:=fr2 p (.inl z);rw[i1p] at this;cases this
  ·have:=fr2 p (.inr (.inl z));rw[i1p] at this;cases this
  ·have:=fr2 p (.inr (.inr (.inl z)));rw[i1p] at this;cases this
  ·have:=fr2 p (.inr (.inr (.inr z)));rw[i1p] at this;cases this
  ·cases e
 have K9:Fk C H9 L [] (fun _=>0):=K2.at fun b o hb e=>q9 b o e fun z=>pl (z▸hb);have h1n:∀b,H1 b=none->b≠p->H b=none:=fun b hb n=>by
  cases eb:H b with
  | none=>rfl
  | some o=>have:=k1 _ _ eb n;rw[hb] at this;cases this
 have i9p:H9 p=some (.ins CM dx _):=i9p.trans (congrArg (fun f=>some (HO.ins CM dx f)) (g9.symm.trans (congrArg (Zk _ _) (g8.symm.trans (congrArg (Zk _ _) (g7.symm.trans (congrArg (Zk _ _) (g6.symm.trans (congrArg (Zk _ _) (g5.symm.trans (congrArg (Zk _ _) (g4.symm.trans (congrArg (Zk _ _) (g3.symm.trans (congrArg (Zk _ _) (g2.symm.trans (congrArg (Zk _ _) g1.symm)))))))))))))))));have ndp:¬own L [] (fun _=>0) dp:=fun z=>by
  obtain⟨o,e,_⟩:=K2.there z;have:=q8 _ _ e pdp.symm;rw[hdp] at this;cases this
 refine k ⟨p,L,ld,lb,lh,lq,lt,ly,lv,dp⟩ H9 rfl ⟨⟨dx,i9p⟩,K9,fun q hq=>?_,elh,rfl,⟨[],edp,xH _,fun _=>rfl⟩,?_,(fun _ z=>nomatch z),(fun _ z=>nomatch z),px,ndp⟩ k9 (fun b hb=>?_)
 ·simp only[Mo.at_,mo0,xC,List.zip_nil_left,xT,or_false] at hq;rcases hq with rfl | rfl | rfl | rfl | rfl | rfl
  ·exact⟨[],eld,rfl⟩
  ·exact⟨[],elb,rfl⟩
  ·exact⟨[],elq,rfl⟩
  ·exact⟨[],elt,rfl⟩
  ·exact⟨[],ely,rfl⟩
  ·exact⟨[],elv,rfl⟩
 ·simp only[ML.ls,yM,yT,xC,xT,or_false,not_or,not_false_eq_true,List.nodup_nil,and_true];exact⟨⟨Ne.symm nldlh,Ne.symm nlblh,nlhlq,nlhlt,nlhly,nlhlv⟩,⟨nldlb,nldlq,nldlt,nldly,nldlv⟩,⟨nlblq,nlblt,nlbly,nlblv⟩,⟨nlqlt,nlqly,nlqlv⟩,⟨nltly,nltlv⟩,nlylv⟩
 ·rcases hb with z | z | z | z | z
  ·exact .inl z
  ·rw[z];exact .inr zdp
  ·simp only[ML.ls,yM,xC,xT,or_false] at z;rcases z with rfl | rfl | rfl | rfl | rfl | rfl | rfl<;>exact .inr (by assumption)
  ·cases z
  ·have ne:b≠p:=fun y=>pl (y▸z);refine .inr ?_;rcases z with z | z | z | z | z | ⟨n,l,e,z⟩
   ·exact h1n b (by rw[z];exact nx) ne
   ·exact h1n b (fr2 b (.inl z)) ne
   ·exact h1n b (fr2 b (.inr (.inl z))) ne
   ·exact h1n b (fr2 b (.inr (.inr (.inl z)))) ne
   ·exact h1n b (fr2 b (.inr (.inr (.inr z)))) ne
   ·cases e
end
def num(i:Int):Str:=Str.ofString (toString i)
theorem CG(m:Nat):cs (num (m:Int))=(Nat.toDigits 10 m).map Char.toNat:=PySem.W.KIN.signs_num m
theorem BD:∀d:Nat,d < 10->(Nat.digitChar d).toNat=48+d:=by decide
theorem SZ(m:Nat):∀c∈(Nat.toDigits 10 m).map Char.toNat,48<=c/\c<=57:=by
 induction m using Nat.strongRecOn with
 | _ m ih =>
  rw[Nat.toDigits_eq_if aA];split
  ·rename_i h;intro c hc;have e:=BD m h;rw[xW,List.map_nil,xO] at hc;lia
  ·rename_i h;intro c hc;rw[xM] at hc;rcases xI.mp hc with z | z
   ·exact ih (m / 10) (by lia) c z
   ·have e:=BD (m % 10) (Nat.mod_lt _ aA);rw[xW,List.map_nil,xO] at z;lia
theorem MU(m:Nat)(hm : 0 < m):∃c r,(Nat.toDigits 10 m).map Char.toNat=c::r/\49<=c:=by
 induction m using Nat.strongRecOn with
 | _ m ih =>
  rw[Nat.toDigits_eq_if aA];split
  ·rename_i h;exact⟨_,[],rfl,by have:=BD m h;lia⟩
  ·obtain⟨c,r,e,hc⟩:=ih (m / 10) (by lia) (by lia);rw[xM,e];exact⟨c,_,rfl,hc⟩
def Uw(i:Int):Prop:=0<=i/\i<=999999999
structure WY (x:Str):Prop where
 l1 : 1<=x.length
 l9:x.length<=9
 all:∀c∈cs x,48<=c/\c<=57
 zero:x = "0" \/ x.cps.getD 0 0≠48
theorem Jr(h:Uw i):WY (num i):=by
 obtain⟨m,rfl⟩:=yF h.1;have hl:(num (m:Int)).length=(Nat.toDigits 10 m).length:=by rw[← Z7,CG,xA]
 have h1 : 0 < (Nat.toDigits 10 m).length:=Nat.length_toDigits_pos;have h9:(Nat.toDigits 10 m).length<=9:=(Nat.length_toDigits_le_iff aA aA).mpr (by have:=h.2;lia);refine⟨by lia,by lia,fun c hc=>SZ m c (by rw[← CG];exact hc),?_⟩
 by_cases z:m=0
 ·subst z;exact .inl aA
 ·obtain⟨c,r,e,hc⟩:=MU m (by lia);refine .inr fun z=>?_;have hs:(cs (num (m:Int)))[0]? = some ((num (m:Int)).cps.getD 0 0):=Uc (by lia);rw[CG,e,z] at hs;have:c=48:=by simpa using hs
  lia
theorem AA(h:Uw i):PySem.intText? (num i)=some i:=PySem.W.KIN.num_reads h.1 (by have:=h.2;lia)
theorem GR(h:Uw i):i.natAbs.log2 < 1920:=by
 by_cases z:i.natAbs=0
 ·rw[z];decide +kernel
 ·rw[Nat.log2_lt z];have:=h.2;have:=h.1;exact yG (show i.natAbs < 1000000000 by lia) aA
def okd(c:Nat):Bool:=decide (48<=c) && decide (c<=57)
def Y0(x:Str):Bool:=((decide (1<=x.length) && decide (x.length<=9)) && (cs x).all okd) && (decide (x = "0") || !decide (x.cps.getD 0 0=48))
theorem Xi(h:Y0 x=true):WY x:=by
 unfold Y0 at h;simp only[yV,Bool.or_eq_true,zY,zH,decide_eq_false_iff_not,yW,okd] at h;exact⟨h.1.1.1,h.1.1.2,h.1.2,h.2⟩
theorem EA(h:WY x):Y0 x=true:=by
 unfold Y0;simp only[yV,Bool.or_eq_true,zY,zH,decide_eq_false_iff_not,yW,okd];exact⟨⟨⟨h.l1,h.l9⟩,h.all⟩,h.zero⟩
def Ux(l:List Nat):Nat:=l.foldl (fun a c=>10 * a+(c - 48)) 0
theorem Rv(l:List Nat)(c:Nat):Ux (l ++ [c])=10 * Ux l+(c - 48):=by unfold Ux;rw[List.foldl_append];rfl
theorem Ly:∀n l,l.length=n+1->(∀c∈l,48<=c/\c<=57)->l[0]? ≠ some 48->1<=Ux l/\Ux l < 10 ^ (n+1)/\(Nat.toDigits 10 (Ux l)).map Char.toNat=l
 | 0,l,hl,hc,h0=>by
  match l,hl with
  | [c],_ =>
   have h1:=hc c (by simp);have h2:c≠48:=fun z=>h0 (by rw[z];rfl);have e:Ux [c]=c - 48:=by show 10 * 0+(c - 48)=_;lia
   rw[e];refine⟨by lia,by lia,?_⟩;rw[Nat.toDigits_eq_if aA,if_pos (by lia)];show [(Nat.digitChar (c - 48)).toNat]= [c];rw[BD _ (by lia)];congr 1;lia
 | n+1,l,hl,hc,h0=>by
  have hne:l ≠ []:=fun z=>by rw[z] at hl;cases hl
  obtain⟨i,c,rfl⟩:∃i c,l=i ++ [c]:=⟨l.dropLast,l.getLast hne,(List.dropLast_concat_getLast hne).symm⟩;rw[xD,yL] at hl;have hi:i.length=n+1:=by lia
  have hz:i[0]? ≠ some 48:=by rw[zM (by lia)] at h0;exact h0
  obtain⟨a1,a2,a3⟩:=Ly n i hi (fun x hx=>hc x (yQ _ hx)) hz;have h1:=hc c (by simp);rw[Rv];refine⟨by lia,by rw[Nat.pow_succ];lia,?_⟩;rw[Nat.toDigits_eq_if aA,if_neg (by lia),xM];have e1:(10 * Ux i+(c - 48)) / 10=Ux i:=by lia
  have e2:(10 * Ux i+(c - 48)) % 10=c - 48:=by lia
  rw[e1,e2,a3];show i ++ [(Nat.digitChar (c - 48)).toNat]=i ++ [c];rw[BD _ (by lia)];congr 2;lia
theorem LC(h:WY x):∃i,Uw i/\x=num i:=by
 by_cases z:x = "0"
 ·exact⟨0,⟨aA,aA⟩,by rw[z];decide +kernel⟩
 ·have h0:x.cps.getD 0 0≠48:=h.zero.resolve_left z;have l1:=h.l1;have l9:=h.l9;obtain⟨n,hn⟩:∃n,x.length=n+1:=⟨x.length - 1,by lia⟩;obtain⟨a1,a2,a3⟩:=Ly n (cs x) (by rw[Z7,hn]) h.all (by rw[Uc (by lia)];exact fun e=>h0 (Option.some.inj e));refine⟨(Ux (cs x):Int),⟨by lia,?_⟩,JA ?_⟩
  ·have : 10 ^ (n+1)<=10 ^ 9:=Nat.pow_le_pow_right aA (by lia);lia
  ·rw[CG,a3]
theorem MX(hi:Uw i)(hj:Uw j)(e:num i=num j):i=j:=by
 have h1:=AA hi;rw[e,AA hj] at h1;exact(Option.some.inj h1).symm
section
variable{K:uFg}{c:eV}
theorem le0(c:Nat):(!decide ((⟨#[c]⟩:Str).cps.toList < ("0" : Str).cps.toList))=decide (48<=c):=by
 have e:("0" : Str).cps.toList = [48]:=aA
 rw[e];show (!decide (([c]:List Nat) < [48]))=_;rw[zF,zY,decide_eq_false_iff_not,zH,Do];lia
theorem le9(c:Nat):(!decide (("9" : Str).cps.toList < (⟨#[c]⟩:Str).cps.toList))=decide (c<=57):=by
 have e:("9" : Str).cps.toList = [57]:=aA
 rw[e];show (!decide (([57]:List Nat) < [c]))=_;rw[zF,zY,decide_eq_false_iff_not,zH,Do];lia
theorem eq0(x:Str)(hx : 1<=x.length):(V.str ⟨#[x.cps.getD 0 0]⟩=V.str "0")↔x.cps.getD 0 0=48:=by
 constructor
 ·intro e;have e1:(⟨#[x.cps.getD 0 0]⟩:Str)= "0" := by injection e
  have e2:(⟨#[x.cps.getD 0 0]⟩:Str).cps.toList = [48]:=by rw[e1];decide +kernel
  simpa using e2
 ·intro e;rw[e];decide +kernel
inductive UL(vs:aG)(H:Hp)(Q:VK)(z3:XK):Prop
 |mk(x)(_:vs = [.str x])(_:x.length<=100000)(_:∀H',ZC H H'->Q (.bl (Y0 x)) H')
abbrev GB:Stmt:=top 88
theorem MZ(Ziy:YA K mg "is_number" GB)(T:Txt mg)(hL:∃t,mg "MOST_FIGURES" = some (.int 9 t)):Fn P w K mg base "is_number" ["word"] 1 UL:=by
 obtain⟨tL,c_MOST_FIGURES⟩:=hL;have r_MOST_FIGURES:ZG (.int 9) (.int 9 tL):=⟨tL,rfl⟩;refine Ziy.fq ["word"] fun H vs Q E hr h=>?_;obtain⟨x,rfl,hx,k⟩:=h
 refine⟨rfl,_,(Ze (Zm (QW.pt (TX (Vr (Bb Vm Vm Zf (Zx Ue T.len Z8 (Za Q0 Zb)) (Yv c_MOST_FIGURES r_MOST_FIGURES))) (JK (Vr (Vc (Zx (Ga (by rfl)) T.all HV (Za (Uh (locs:=["sign"]) (fr:=[]) ⟨rfl,aA,aA,aA,aA,aA⟩ .nil rfl (AC Q0) ⟨fun _ _ _ _ _ _=>by
  have cnd:(inN ["sign"] []).Nodup:=aA
  exact⟨(Y4 0 cnd),Vn,(FV J3 J3 Zh (Y3 0) Zh)⟩⟩) Zb))))))) (Zd (Zn Wq)) Zo)
 (Zd (Zn (XO (Uk Yc Q0 Zh (Zp _)) (JI (Uk TH (Zq JL Q0 Zf (fun _ _=>rfl)) Zh (Zp _))))))),?_⟩
 have hz:(100000:Nat)<=sizeLine:=by decide
 refine⟨_,rfl,x,rfl,by lia,_,_,rfl,rfl,_,rfl,Zu (fun h1=>?_) (fun h1=>?_)⟩
 ·refine⟨_,_,rfl,rfl,_,rfl,Wd (fun h9=>?_) (fun h9=>?_)⟩
  ·have e:Y0 x=false:=by unfold Y0;rw[yC (show ¬x.length<=9 by lia),zB,yE,yE]
   have fin:Q (.bl false) H:=by rw[← e];exact k H (ZC.refl _)
   exact fin
  refine⟨_,rfl,x,rfl,?_⟩;refine GD (fun i ys H'=>H'=H/\ys=((cs x).take i).map fun c=>V.bl (okd c)) ⟨rfl,rfl⟩ (by lia) ?_ ?_ ?_
  ·rintro i ys H' ⟨_,rfl⟩;rw[xA,xU];lia
  ·rintro i ys H' hi ⟨rfl,rfl⟩ ls hls;obtain⟨a,rfl⟩:=Uv hls;refine⟨⟨[_],rfl,rfl⟩,Z2 ?_⟩;refine⟨_,rfl,_,_,rfl,rfl,_,rfl,?_⟩;rw[le0];refine Zu (fun h3=>?_) (fun h3=>?_)
   ·refine⟨_,_,rfl,rfl,rfl,?_⟩;dsimp only;rw[le9,CB _ (Uc hi)];unfold okd;rw[xZ h3,Bool.true_and]
   ·refine⟨rfl,?_⟩;rw[CB _ (Uc hi)];unfold okd;rw[yC h3,yE]
  ·rintro ys H' ⟨rfl,rfl⟩ l hl;refine⟨l,(cs x).map okd,rfl,ZF.of (by rw[Zg,← Z7,yI,List.map_map];rfl),?_⟩;have e:((cs x).map okd).all id=(cs x).all okd:=by rw[List.all_map];rfl
   rw[e];refine nw (o:=.lst (((cs x).take x.length).map fun c=>V.bl (okd c))) hl fun H1 S _=>?_;refine⟨_,rfl,A8 (fun ha=>?_) (fun ha=>?_)⟩
   ·have e:Y0 x=false:=by unfold Y0;rw[ha,zB,yE]
    have fin:Q (.bl false) H1:=by rw[← e];exact k H1 S
    exact fin
   have h00:(x.cps.toList)[0]? = some (x.cps.getD 0 0):=Uc (by lia);have eN:Y0 x=(decide (x = "0") || !decide (x.cps.getD 0 0=48)):=by
    unfold Y0;rw[ha,xZ (show 1<=x.length by lia),xZ (show x.length<=9 by lia)];rfl
   by_cases z:x = "0"
   ·have fin:Q (.bl true) H1:=by
     rw[show true=Y0 x by rw[eN,xZ z];rfl];exact k H1 S
    exact⟨_,rfl,rfl,_,rfl,Zu (fun _=>fin) (fun y=>absurd (by rw[z]) y)⟩
   ·refine⟨_,rfl,rfl,_,rfl,Zu (fun e=>absurd (by injection e) z) (fun _=>?_)⟩;have fin:Q (.bl (!decide (V.str ⟨#[x.cps.getD 0 0]⟩=V.str "0"))) H1:=by
     rw[decide_eq_decide.mpr (eq0 x (by lia)),show (!decide (x.cps.getD 0 0=48))=Y0 x by rw[eN,yC z];rfl];exact k H1 S
    exact⟨_,rfl,x,0,x.cps.getD 0 0,rfl,rfl,by lia,Yb (j:=0) h00,rfl,fin⟩
 ·have e:Y0 x=false:=by unfold Y0;rw[yC (show ¬ 1<=x.length by lia),yE,yE,yE]
  have fin:Q (.bl false) H:=by rw[← e];exact k H (ZC.refl _)
  exact⟨false,rfl,Z2 fin⟩
inductive Pt where
 | nm (x:Str)
 | no (i:Int)
def ptV:Pt->V
 | .nm x=>.str x
 | .no i=>.int i
def ptS:Pt->Str
 | .nm x=>x
 | .no i=>num i
def ptK:Pt->Str
 | .nm _ => "name"
 | .no _ => "number"
def Vf:Pt->Prop
 | .nm x=>Z0 x
 | .no i=>Uw i
def JM(x:Str):Prop:=x.length<=10000/\∀c∈x.cps.toList,c < 16 ^ 8
def Uy(k x:Str)(p:Pt):Prop:=ptS p=x/\ptK p=k/\Vf p
inductive JP(c:eV)(vs:aG)(H:Hp)(Q:VK)(E:XK):Prop
 |mk(x k)(_:vs = [.str x,.str k])(_:JM x)(_:(k = "name" \/ k = "number"))(_:(∀p H',Uy k x p->ZC H H'->Q (ptV p) H'))(_:((∀p,¬Uy k x p)->∀H',ZC H H'->E (.ref (c "NoDeed")) none H'))
theorem pt_name:(Yt x=true->Uy "name" x (.nm x))/\(Yt x=false->∀p,¬Uy "name" x p):=by
 refine⟨fun h=>⟨rfl,rfl,Lf h⟩,fun h p ⟨e,k,o⟩=>?_⟩;cases p with
 | nm y=>have e:y=x:=e;subst e;rw[Da o] at h;cases h
 | no i=>have k:("number" : Str)= "name" := k;exact absurd k aA
theorem pt_num:(Y0 x=true->∃i,Uw i/\x=num i/\Uy "number" x (.no i))/\(Y0 x=false->∀p,¬Uy "number" x p):=by
 refine⟨fun h=>?_,fun h p ⟨e,k,o⟩=>?_⟩
 ·obtain⟨i,hi,e⟩:=LC (Xi h);exact⟨i,hi,e,e.symm,rfl,hi⟩
 ·cases p with
  | nm y=>have k:("name" : Str)= "number" := k;exact absurd k aA
  | no i=>have e:num i=x:=e;subst e;rw[EA (Jr o)] at h;cases h
abbrev Lp:Stmt:=top 87
theorem SV(Ziz:YA K mg "read_value" Lp)(T:Txt mg)(er:Er K mg c errs)(Zh5:Fn P w K mg base "is_name" ["text"] 1 WE)(Z1d:Fn P w K mg base "is_number" ["word"] 1 UL):YZ P w K mg base "read_value" 2 (JP c):=by
 refine Ziz.fx ["word","kind"] ["word","kind"] fun H vs Q E hr h=>?_;obtain⟨x,kd,rfl,hx,hk,kq,ke⟩:=h;refine⟨rfl,_,(Ze (Zm (QW.pt (Uj (Zl Yc Q6 Zh (Zp _)) (U5 (Vc (Zs Zh5 (Za Q0 Zb)))))) (Zd (Zn Q0)) Zo) (Ze (Zm (QW.pt (Uj (Zl Yc Q6 Zh (Zp _)) (U5 (Vc (Zs Z1d (Za Q0 Zb)))))) (Zd (Zn (Vy Ld T.int CH (Za Q0 Zb)))) Zo) (Zd (Wf Yy er (Wu (G9 Q0 (Y8 (Wc Q6 Wt)))))))),?_⟩;have hz:(100000:Nat)<=sizeLine:=by decide
 rcases hk with rfl | rfl
 ·refine⟨_,rfl,rfl,_,rfl,Zu (fun _=>?_) (fun z=>absurd rfl z)⟩;refine⟨_,rfl,x,rfl,by have:=hx.1;lia,fun H1 s1=>?_⟩;refine⟨_,rfl,FQ (fun hb=>?_) (fun hb=>?_)⟩
  ·exact⟨_,rfl,kq (.nm x) H1 (pt_name.1 hb) s1⟩
  ·refine⟨_,rfl,rfl,_,rfl,Zu (fun z=>absurd z aA) (fun _=>Zy ?_)⟩;exact⟨_,rfl,⟨x,rfl,hx⟩,aA,_,rfl,.inl ⟨_,rfl,aA⟩,fun _=>ke (pt_name.2 hb) H1 s1⟩
 ·refine⟨_,rfl,rfl,_,rfl,Zu (fun z=>absurd z aA) (fun _=>Zy ?_)⟩;refine⟨_,rfl,rfl,_,rfl,Zu (fun _=>?_) (fun z=>absurd rfl z)⟩;refine⟨_,rfl,x,rfl,by have:=hx.1;lia,fun H1 s1=>?_⟩;refine⟨_,rfl,FQ (fun hb=>?_) (fun hb=>?_)⟩
  ·obtain⟨i,hi,rfl,hp⟩:=pt_num.1 hb;exact⟨_,rfl,num i,i,rfl,AA hi,by have:=(Jr hi).l9;lia,kq (.no i) H1 hp s1⟩
  ·exact⟨_,rfl,⟨x,rfl,hx⟩,aA,_,rfl,.inl ⟨_,rfl,aA⟩,fun _=>ke (pt_num.2 hb) H1 s1⟩
theorem HA{xs pre post:eS}{y:Str}(e:xs=pre++y::post)(h:y∉pre):xs[pre.length]? = some y/\∀m,m < pre.length->xs[m]? ≠ some y:=by grind
theorem CT:∀{xs:eS},x∈xs->∃pre post,xs=pre++x::post/\x∉pre
 | [],h=>nomatch h
 | y::ys,h=>by
  by_cases e:x=y
  ·exact⟨[],ys,by rw[e];rfl,fun z=>nomatch z⟩
  ·obtain⟨pre,post,h1,h2⟩:=CT ((xC.mp h).resolve_left e);exact⟨y::pre,post,by rw[h1];rfl,fun z=>(xC.mp z).elim e h2⟩
theorem Ab:∀{p q p' q':eS},p++x::q=p'++x::q'->x∉p->x∉p'->p=p'/\q=q'
 | [],q,[],q',e,_,_=>⟨rfl,by injection e⟩
 | [],q,b::p',q',e,_,h=>by injection e with e1 _;exact absurd (by rw[e1];exact xQ) h
 | a::p,q,[],q',e,h,_=>by injection e with e1 _;exact absurd (by rw[e1];exact xQ) h
 | a::p,q,b::p',q',e,h,h'=>by
  injection e with e1 e2
  obtain⟨e3,e4⟩:=Ab e2 (fun z=>h (xG _ z)) (fun z=>h' (xG _ z));exact⟨by rw[e1,e3],e4⟩
inductive VY(c:eV)(vs:aG)(H:Hp)(Q:VK)(E:XK):Prop
 |mk(x) (l) (xs)(_:vs = [.str x,.ref l])(_:H l=some (.lst (xs.map V.str)))(_:x.length<=100)(_:(∀pre post,xs=pre++x::post->x∉pre->Q (.int pre.length) H))(_:(x∉xs->E (.ref (c "NoDeed")) none H))
abbrev GV:Stmt:=top 84
theorem LU(Zi0:YA K mg "place_of" GV)(er:Er K mg c errs):YZ P w K mg base "place_of" 1 (VY c):=by
 refine Zi0.fx ["sign","words"] ["sign","words"] fun H vs Q E hr h=>?_;obtain⟨x,l,xs,rfl,hl,hx,kq,ke⟩:=h;refine⟨rfl,_,(Ze (Zm (Zl Dp Q0 Q6 rfl) (Zd (Wf Yy er (Wu (Y8 (Wc Q0 (Y8 Wt)))))) Zo) (Zd (Zn (Y6 aD F.slot_list_index F.type_list_index IW Q6 (Za Q0 Zb))))),?_⟩;refine⟨_,rfl,_,rfl,l,_,rfl,.inl (ZF.of hl),rfl,Dr _,_,rfl,?_⟩;rw[if_pos rfl,C7]
 by_cases hm:x∈xs
 ·rw[xZ hm];obtain⟨pre,post,e,hp⟩:=CT hm;obtain⟨i1,i2⟩:=HA e hp;refine Zy ?_;exact⟨_,rfl,.inl ⟨rfl,_,ZF.of hl⟩,_,rfl,l,xs,x,pre.length,rfl,rfl,ZF.of hl,i1,i2,kq pre post e hp⟩
 ·rw[yC hm];refine Z2 ?_;exact⟨aA,_,rfl,.inl ⟨_,rfl,by lia⟩,aA,fun _=>ke hm⟩
inductive VH(c:eV)(vs:aG)(H:Hp)(Q:VK)(E:XK):Prop
 |mk(a:eZ) (xs:eS)(_:vs = [.ref a])(_:H a=some (.lst (xs.map V.str)))(_:(∀x∈xs,JM x))(_:xs.length<=100000)(_:((∀x∈xs,Z0 x)->∀l H',H l=none->H' l=some (.lst (xs.map V.str))->ZC H H'->Q (.ref l) H'))(_:((¬ ∀x∈xs,Z0 x)->∀H',ZC H H'->E (.ref (c "NoDeed")) none H'))
theorem O9(h:Uy "name" x p):p = .nm x/\Z0 x:=by
 obtain⟨e,k,o⟩:=h;cases p with
 | nm y=>have e:y=x:=e;subst e;exact⟨rfl,o⟩
 | no i=>have k:("number" : Str)= "name" := k;exact absurd k aA
abbrev Hr:Stmt:=top 85
theorem dZ(Zi1:YA K mg "read_names" Hr)(Zi2:YZ P w K mg base "read_value" 2 (JP c)):YZ P w K mg base "read_names" 3 (VH c):=by
 refine Zi1.fx ["words"] ["words"] fun H vs Q E hr h=>?_;obtain⟨a,xs,rfl,ha,hx,hlen,kq,ke⟩:=h
 refine⟨rfl,_,(Zd (Zn (Gr AM Yy Zi2 (hr.mono (by lia)) (locs:=["word"]) (fr:=[]) ⟨rfl,aA,aA,aA,aA,aA⟩ .nil rfl (Vl Q0) ⟨fun _ _ _ _ _ _=>by
  have cnd:(inN ["word"] []).Nodup:=aA
  exact⟨(Y4 0 cnd),Vn,(Za (Y3 0) (Za Zh Zb)),DT,rfl,rfl⟩⟩))),?_⟩
 have hz:(100000:Nat)<=sizeLine:=by decide
 refine⟨_,rfl,a,rfl,⟨_,ZF.of ha⟩,?_⟩;refine J9 (xs:=xs.map V.str) (fun i ys H'=>ZC H H'/\ys=(xs.take i).map V.str/\∀x∈xs.take i,Z0 x) ⟨ZC.refl _,rfl,(fun _ z=>nomatch z)⟩ (by rw[xA];lia) (fun i ys H' _ ⟨e,_⟩=>ZF.of (e _ _ ha)) (fun i ys H' ⟨_,e,_⟩=>by rw[e,xA,xU];lia) ?_ ?_
 ·rintro i v ys H' hv ⟨sm,rfl,hi⟩ ls hls;obtain⟨w0,rfl⟩:=Uv hls;rw[xK] at hv;obtain⟨x,hxi,rfl⟩:=xS.mp hv;have hxm:=xN hxi;refine⟨⟨[_],rfl,rfl⟩,?_⟩;refine⟨_,rfl,x, "name", rfl,hx x hxm,.inl rfl,fun p H1 hp s1=>?_,fun hno H1 s1=>?_⟩
  ·obtain⟨rfl,hn⟩:=O9 hp;refine⟨sm.trans s1,?_,fun y hy=>?_⟩
   ·rw[yD,hxi,xM];rfl
   ·rw[yD,hxi] at hy;rcases xI.mp hy with z | z
    ·exact hi y z
    ·have:y=x:=by simpa using z
     rw[this];exact hn
  ·exact ke (fun hall=>hno (.nm x) ⟨rfl,rfl,hall x hxm⟩) H1 (sm.trans s1)
 ·rintro ys H' ⟨sm,rfl,hi⟩ l hl;rw[xA,yI] at hi;rw[xA,yI];exact kq hi l _ (sm.free hl) Zg (sm.trans (ZC.new hl))
def isPs(ks ws:eS)(ps:List Pt):Prop:=ps.map ptS=ws/\ps.map ptK=ks/\∀p∈ps,Vf p
theorem isPs.get{ks ws:eS}{ps:List Pt}(h:isPs ks ws ps){i:Nat}{k x:Str}(hk:ks[i]? = some k)(hx:ws[i]? = some x):∃p,Uy k x p:=by
 obtain⟨h1,h2,h3⟩:=h;rw[← h1,xK] at hx;rw[← h2,xK] at hk;obtain⟨p,hp,e⟩:=xS.mp hx;rw[hp] at hk;exact⟨p,e,Option.some.inj hk,h3 p (xN hp)⟩
inductive WS(K:uFg)(c:eV)(vs:aG)(H:Hp)(Q:VK)(E:XK):Prop
 |mk(a t:eZ) (ws ks:eS)(_:vs = [.ref a,.ref t])(_:H a=some (.lst (ws.map V.str)))(_:(∀H',ZC H H'->ZT K H' t (ks.map V.str)))(_:(∀x∈ws,JM x))(_:ws.length<=100000)(_:(∀k∈ks,k = "name" \/ k = "number"))(_:(∀ps l H',isPs ks ws ps->H l=none->H' l=some (.lst (ps.map ptV))->ZC H H'->Q (.ref l) H'))(_:((∀ps,¬isPs ks ws ps)->∀H',ZC H H'->E (.ref (c "NoDeed")) none H'))
abbrev He:Stmt:=top 86
theorem LY(Zi3:YA K mg "read_values" He)(T:Txt mg)(er:Er K mg c errs)(Zi2:YZ P w K mg base "read_value" 2 (JP c)):YZ P w K mg base "read_values" 3 (WS K c):=by
 refine Zi3.fx ["words","kinds"] ["words","kinds"] fun H vs Q E hr h=>?_;obtain⟨a,t,ws,ks,rfl,ha,htS,hx,hlen,hk,kq,ke⟩:=h
 refine⟨rfl,_,(Ze (Zm (Zl TH (Zx Yx T.len Z8 (Za Q0 Zb)) (Zx Yx T.len Z8 (Za Q6 Zb)) (Zp _)) (Zd (Wf Yy er Zh)) Zo) (Zd (Zn (Gr AM Yy Zi2 (hr.mono (by lia)) (locs:=["word","kind"]) (fr:=[]) ⟨rfl,aA,aA,aA,aA,aA⟩ .nil rfl (Sj T.zip (Za Q0 (Za Q6 Zb))) ⟨fun _ _ _ _ _ _=>by
  have cnd:(inN ["word","kind"] []).Nodup:=aA
  exact⟨(A6 2 (by rfl) (Va (Y4 0 cnd) (Va (Y4 1 cnd) Jv))),Vn,(Za (Y3 0) (Za (Y3 1) Zb)),DT,rfl,rfl⟩⟩)))),?_⟩
 have hz:(100000:Nat)<=sizeLine:=by decide
 have ht:=htS H (ZC.refl _);refine⟨_,rfl,a,_,rfl,.inl (ZF.of ha),_,rfl,t,_,rfl,.inr ht,rfl,_,rfl,?_⟩;rw[xA,xA]
 by_cases hl:ws.length=ks.length
 ·rw[xZ (show V.int ws.length=V.int ks.length by rw[hl])];refine Zy ?_;refine⟨_,rfl,_,rfl,a,t,_,_,rfl,ZF.of ha,ht,fun n21=>?_⟩
  refine XD (ws.map V.str) (ks.map V.str) (by rw[xA,xA,hl]) n21 (fun i ys H'=>ZC H H'/\∃ps,isPs (ks.take i) (ws.take i) ps/\ys=ps.map ptV) ⟨ZC.refl _,[],⟨rfl,rfl,(fun _ z=>nomatch z)⟩,rfl⟩ (by rw[xA];lia) (fun i ys H' _ ⟨e,_⟩=>⟨ZF.of (e _ _ ha),htS _ e⟩) (fun i ys H' ⟨_,ps,⟨e,_⟩,e2⟩=>by
   have:=congrArg List.length e;rw[xA,xU] at this
   rw[e2,xA];lia) ?_ ?_
  ·rintro i x z p ys H' hx' hz' ⟨sm,ps,hps,rfl⟩ hpn ls hls;obtain⟨w0,w1,rfl⟩:=Bf hls;rw[xK] at hx' hz';obtain⟨x,hxi,rfl⟩:=xS.mp hx';obtain⟨k,hki,rfl⟩:=xS.mp hz';refine nw (o:=.tup [.str x,.str k]) hpn fun H1 S kp=>?_;refine⟨p,_,rfl,ZT.of kp,rfl,_,_,rfl,_,_,rfl,rfl,⟨[_,_],rfl,rfl⟩,Z2 ?_⟩;refine⟨_,rfl,_,rfl,x,k,rfl,hx x (xN hxi),hk k (xN hki),fun q H2 hq s2=>?_,fun hno H2 s2=>?_⟩
   ·refine⟨(sm.trans S).trans s2,ps ++ [q],?_,by rw[xM];rfl⟩;obtain⟨h1,h2,h3⟩:=hps;refine⟨?_,?_,fun r hr=>?_⟩
    ·rw[xM,h1,yD,hxi,← hq.1];rfl
    ·rw[xM,h2,yD,hki,← hq.2.1];rfl
    ·rcases xI.mp hr with y | y
     ·exact h3 r y
     ·rw[xO.mp y];exact hq.2.2
   ·exact ke (fun ps' hp'=>by obtain⟨q,hq⟩:=hp'.get hki hxi;exact hno q hq) H2 ((sm.trans S).trans s2)
  ·rintro ys H' ⟨sm,ps,hps,rfl⟩ l hl';rw[xA,yI,yP (by lia)] at hps;exact kq ps l _ hps (sm.free hl') Zg (sm.trans (ZC.new hl'))
 ·rw[yC (show ¬V.int ws.length=V.int ks.length from fun e=>hl (by injection e with e;lia))];refine Z2 ?_;refine ke (fun ps ⟨h1,h2,_⟩=>hl ?_) H (ZC.refl _);rw[← h1,← h2,xA,xA]
end
section
variable{P:fA}{w:fB}{K:uFg}{mg:eR}
structure Dd where
 w:Str
 ps:List Pt
 rows:Option (List Str×List Str)
def BF:Option (List Str×List Str)->List Str
 | none=>[]
 | some (a,b)=>("+" : Str)::(a++("-" : Str)::b)
def toks(d:Dd):List Str:=d.w::(d.ps.map ptS++BF d.rows)
def Rows(f:List Str->Prop):Option (List Str×List Str)->Prop
 | none=>True
 | some (a,b)=>f a/\f b
structure HX (K:uFg) (mg:eR) (pr:Params) (dP dS:eZ) (kP kS:List (Str×Tok×eZ)):Prop where
 cP:mg "PLAIN" = some (.ref dP)
 cS:mg "SWORN" = some (.ref dS)
 P:Bc K pr dP kP
 S:Bc K pr dS kS
structure WV (K:uFg) (kP kS:List (Str×Tok×eZ)) (d:Dd):Prop where
 word:(∀c∈cs d.w,97<=c/\c<=122)/\1<=d.w.length/\d.w.length<=10
 ps:∀p∈d.ps,Vf p
 len:d.ps.length<=10
 rows:Rows (fun a=>(∀x∈a,Z0 x)/\a.length<=15) d.rows
 form:(d.rows=none/\∃t,Yz kP d.w=some t/\Yz kS d.w=none/\∀H,ZT K H t (d.ps.map fun p=>V.str (ptK p)))\/(d.rows≠none/\Yz kP d.w=none/\∃t,Yz kS d.w=some t/\∀H,ZT K H t (d.ps.map fun p=>V.str (ptK p)))
theorem DC:cs ("+" : Str)= [43]:=aA
theorem B2:cs ("-" : Str)= [45]:=aA
theorem FE(h:Vf p):∀c∈cs (ptS p),48<=c:=by
 intro c hc;cases p with
 | nm x=>have:=h.1 c hc;lia
 | no i=>have:=(Jr h).all c hc;lia
theorem FF(h:Z0 x):∀c∈cs x,48<=c:=fun c hc=>by have:=h.1 c hc;lia
theorem BH(hx:∀c∈cs x,48<=c)(hy:cs y = [c])(hc:c < 48):x≠y:=fun e=>by
 subst e;have:=hx c (by rw[hy];exact xO.mpr rfl);lia
theorem Nd(h:WV K kP kS d):∀x∈toks d,32∉cs x:=by
 have big:∀{x:Str},(∀c∈cs x,48<=c)->32∉cs x:=fun hx z=>by have:=hx 32 z;lia
 intro x hx;rcases xC.mp hx with rfl | hx
 ·exact big fun c hc=>by have:=h.word.1 c hc;lia
 rcases xI.mp hx with hx | hx
 ·obtain⟨p,hp,rfl⟩:=yS.mp hx;exact big (FE (h.ps p hp))
 ·have hr:=h.rows;cases e:d.rows with
  | none=>rw[e] at hx;cases hx
  | some ab =>
   obtain⟨a,b⟩:=ab;rw[e] at hx hr;rcases xC.mp hx with rfl | hx
   ·rw[DC];decide
   rcases xI.mp hx with hx | hx
   ·exact big (FF (hr.1.1 x hx))
   ·rcases xC.mp hx with rfl | hx
    ·rw[B2];decide
    ·exact big (FF (hr.2.1 x hx))
def text(d:Dd):Str:=Txt.join " " (toks d)
theorem P0(h:WV K kP kS d):Txt.split (text d) " " = toks d:=eI (by simp[toks]) (Nd h)
def Vu:Option (List Str×List Str)->eZ->eZ->List V
 | none,_,_=>[]
 | some _,ra,rb=>[.ref ra,.ref rb]
def DX(H:Hp):Option (List Str×List Str)->eZ->eZ->Prop
 | none,_,_=>True
 | some (a,b),ra,rb=>H ra=some (.lst (a.map V.str))/\H rb=some (.lst (b.map V.str))/\ra≠rb
def Uz(H:Hp)(d:Dd)(p ra rb:eZ):Prop:=H p=some (.tup (.str d.w::(d.ps.map ptV++Vu d.rows ra rb)))/\DX H d.rows ra rb
theorem Bm(xs:aG)(c:Nat)(h:c<=xs.length):Yl xs (some (c:Int)) none=xs.drop c:=by
 unfold Yl;rw[HT.sIx_none,HT.sIx_nat,wC h,yP (by rw[zC];exact xH _)]
theorem SR{xs:aG}{i j:Nat}(h1:i<=j)(h2:j<=xs.length):Yl xs (some (i:Int)) (some (j:Int))=(xs.drop i).take (j - i):=by
 unfold Yl;rw[HT.sIx_nat,HT.sIx_nat,wC (show j<=xs.length from h2),wC (show i<=xs.length by lia)]
end
section
variable{w:fB}{K:uFg}{kP kS:List (Str×Tok×eZ)}
theorem Eh{xs pre mid post:aG}{i j:Int}(e:xs=pre++(mid++post))(hi:i=pre.length)(hj:j=pre.length+mid.length):Yl xs (some i) (some j)=mid:=by
 subst e hi;have ej:j=((pre.length+mid.length:Nat):Int):=by lia
 subst ej;rw[SR (by lia) (by rw[xD,xD];lia),List.drop_left,Nat.add_sub_cancel_left,List.take_left]
theorem A9(e:xs=pre++post)(hi:i=pre.length):Yl xs (some i) none=post:=by
 subst e hi;rw[Bm _ _ (by rw[xD];lia),List.drop_left]
abbrev fm10:List (Str×Str):=[("come","abb"),("rise","abb"),("die","aba"),("penance","a"),("bring","ab"),("give","baab"),("pay","aabb"),("claim","abbb+"),("wergild","aabbb+"),("accuse","babb+")]
def kdC(c:Nat):Str:=if c=97 then "name" else "number"
def Z9(l:List Nat):List Str:=(l.filter fun c=>c != 43).map kdC
def JU(K:uFg)(kP kS:List (Str×Tok×eZ)):Prop:=∀q∈fm10,(43∉cs q.2/\∃t,Yz kP q.1=some t/\Yz kS q.1=none/\∀H,ZT K H t ((Z9 (cs q.2)).map V.str))\/(43∈cs q.2/\Yz kP q.1=none/\∃t,Yz kS q.1=some t/\∀H,ZT K H t ((Z9 (cs q.2)).map V.str))
theorem Cy:∀q∈fm10,((∀c∈cs q.1,97<=c/\c<=122)/\1<=q.1.length/\q.1.length<=10)/\q.2.length<=6/\∀i,i < q.2.length->(q.2.cps.getD i 0=97\/q.2.cps.getD i 0=98)\/(q.2.cps.getD i 0=43/\i+1=q.2.length):=by
 intro q hq;simp only[fm10,xC,xT,or_false] at hq;rcases hq with rfl | rfl | rfl | rfl | rfl | rfl | rfl | rfl | rfl | rfl<;>exact⟨⟨aA,aA,aA⟩,aA,aA⟩
def Ww(w:Str):Option Str:=(fm10.find? fun x=>decide (x.1=w)).map (·.2)
theorem Bz{w f:Str}(h:Ww w=some f):(w,f)∈fm10:=by
 unfold Ww at h;obtain⟨q,h1,h2⟩:=xS.mp h;have h3:=List.find?_some h1;have h4:=List.mem_of_find?_eq_some h1;have e:q.1=w:=by simpa using h3
 obtain⟨a,b⟩:=q;have e:a=w:=e;have h2:b=f:=h2;subst e h2;exact h4
theorem Dz(l:List Nat):∀k∈Z9 l,k = "name" \/ k = "number" := by
 intro k hk;obtain⟨c,_,rfl⟩:=yS.mp hk;unfold kdC;split
 ·exact .inl rfl
 ·exact .inr rfl
def KY(kP kS:List (Str×Tok×eZ)):Prop:=∀w,Ww w=none->Yz kP w=none/\Yz kS w=none
structure Dk (d:Dd):Prop where
 f:∃f,Ww d.w=some f/\d.ps.map ptK=Z9 (cs f)/\((43∈cs f/\d.rows≠none)\/(43∉cs f/\d.rows=none))
 ps:∀p∈d.ps,Vf p
 rows:Rows (fun a=>∀x∈a,Z0 x) d.rows
theorem bD{w f:Str}(h:Ww w=some f):w ≠ "+" /\ w ≠ "-" := by
 have hf:=(Cy _ (Bz h)).1.1;exact⟨BH (fun c hc=>by have:=hf c hc;lia) DC aA,BH (fun c hc=>by have:=hf c hc;lia) B2 aA⟩
theorem DB{ps:List Pt}(h:∀p∈ps,Vf p):("+" : Str)∉ps.map ptS/\("-" : Str)∉ps.map ptS:=by
 refine⟨fun z=>?_,fun z=>?_⟩
 ·obtain⟨p,hp,e⟩:=yS.mp z;exact BH (FE (h p hp)) DC aA e
 ·obtain⟨p,hp,e⟩:=yS.mp z;exact BH (FE (h p hp)) B2 aA e
theorem Dl{a:eS}(h:∀x∈a,Z0 x):("-" : Str)∉a:=fun z=>BH (FF (h _ z)) B2 aA rfl
theorem EM:∀{ps qs:List Pt},(∀p∈ps,Vf p)->(∀p∈qs,Vf p)->ps.map ptS=qs.map ptS->ps.map ptK=qs.map ptK->ps=qs
 | [],[],_,_,_,_=>rfl
 | [],_::_,_,_,e,_=>by cases e
 | _::_,[],_,_,e,_=>by cases e
 | p::ps,q::qs,h1,h2,e,k=>by
  rw[xW,xW] at e k;injection e with e1 e2
  injection k with k1 k2
  have hr:=EM (fun x hx=>h1 x (xG _ hx)) (fun x hx=>h2 x (xG _ hx)) e2 k2;have hp:=h1 p xQ;have hq:=h2 q xQ;have:p=q:=by
   cases p with
   | nm x=>cases q with
    | nm y=>have e1:x=y:=e1;rw[e1]
    | no j=>have k1:("name" : Str)= "number" := k1;exact absurd k1 aA
   | no i=>cases q with
    | nm y=>have k1:("number" : Str)= "name" := k1;exact absurd k1 aA
    | no j=>rw[MX hp hq e1]
  rw[this,hr]
theorem Dk.sworn{d:Dd}{w f:Str}{rest:eS}(h:Dk d)(e:w::rest=toks d)(hf:Ww w=some f)(h43 : 43∈cs f):∃a b,d.rows=some (a,b)/\rest=d.ps.map ptS++("+" : Str)::(a++("-" : Str)::b)/\d.ps.map ptK=Z9 (cs f)/\(∀x∈a,Z0 x)/\(∀x∈b,Z0 x):=by
 injection e with e1 e2
 obtain⟨f',h1,h2,h3⟩:=h.f;rw[← e1,hf] at h1;cases h1;rcases h3 with⟨_,hr⟩ | ⟨z,_⟩
 ·have hrw:=h.rows;cases er:d.rows with
  | none=>exact absurd er hr
  | some ab =>
   rw[er] at hrw e2;exact⟨ab.1,ab.2,rfl,e2,h2,hrw.1,hrw.2⟩
 ·exact absurd h43 z
theorem Dk.plain{d:Dd}{w f:Str}{rest:eS}(h:Dk d)(e:w::rest=toks d)(hf:Ww w=some f)(h43 : 43∉cs f):d.rows=none/\isPs (Z9 (cs f)) rest d.ps:=by
 injection e with e1 e2
 obtain⟨f',h1,h2,h3⟩:=h.f;rw[← e1,hf] at h1;cases h1;rcases h3 with⟨z,_⟩ | ⟨_,hr⟩
 ·exact absurd z h43
 ·rw[hr] at e2;have e2:rest=d.ps.map ptS ++ []:=e2;rw[yM] at e2;exact⟨hr,e2.symm,h2,h.ps⟩
theorem Dk.known{d:Dd}{w:Str}{rest:eS}(h:Dk d)(e:w::rest=toks d):Ww w≠none:=fun z=>by
 injection e with e1 e2
 obtain⟨f,h1,_⟩:=h.f;rw[← e1,z] at h1;cases h1
theorem RB(h1:Dk d1)(h2:Dk d2)(e:toks d1=toks d2):d1=d2:=by
 have ew:d1.w=d2.w:=by injection e
 obtain⟨f,hf,hk,hr⟩:=id h1.f;have e':d2.w::(d1.ps.map ptS++BF d1.rows)=toks d2:=by rw[← ew];exact e
 have hf2:Ww d2.w=some f:=by rw[← ew];exact hf
 obtain⟨w1,ps1,r1⟩:=d1;obtain⟨w2,ps2,r2⟩:=d2;have ew:w1=w2:=ew;subst ew;rcases hr with⟨h43,hn⟩ | ⟨h43,hn⟩
 ·obtain⟨a,b,er,e1,k1,na,nb⟩:=h1.sworn (w:=w1) (rest:=ps1.map ptS++BF r1) rfl hf h43;obtain⟨a',b',er',e2,k2,na',nb'⟩:=h2.sworn e' hf2 h43;have er:r1=some (a,b):=er;have er':r2=some (a',b'):=er';subst er er';have e3:ps1.map ptS++("+" : Str)::(a++("-" : Str)::b)=ps2.map ptS++("+" : Str)::(a'++("-" : Str)::b'):=e2;obtain⟨e4,e5⟩:=Ab e3 (DB h1.ps).1 (DB h2.ps).1;obtain⟨e6,e7⟩:=Ab e5 (Dl na) (Dl na');have ep:ps1=ps2:=EM h1.ps h2.ps e4 (by have k1:ps1.map ptK=_:=k1;have k2:ps2.map ptK=_:=k2;rw[k1,k2]);rw[ep,e6,e7]
 ·obtain⟨er,i1⟩:=h1.plain (w:=w1) (rest:=ps1.map ptS++BF r1) rfl hf h43;obtain⟨er',i2⟩:=h2.plain e' hf2 h43;have er:r1=none:=er;have er':r2=none:=er';subst er er';have k1:ps1.map ptK=_:=i1.2.1;have k2:ps2.map ptK=_:=i2.2.1;have s1:ps1.map ptS=_:=i1.1;have s2:ps2.map ptS=_:=i2.1;have ep:ps1=ps2:=EM h1.ps h2.ps (by rw[s1,s2]) (by rw[k1,k2]);rw[ep]
def Yn(n:Nat)(t:Str):Prop:=t.length<=n/\∀c∈cs t,c < 16 ^ 8
theorem FA:∀as,(∀a∈as,(∀c∈a,c∈jn as)/\a.length<=(jn as).length)/\as.length<=(jn as).length+1
 | []=>⟨(fun _ z=>nomatch z),yO _⟩
 | [a]=>⟨fun x hx=>by rw[xO.mp hx];exact⟨fun c hc=>hc,xH _⟩,by show 1<=_;lia⟩
 | a::b::r=>by
  obtain⟨h1,h2⟩:=FA (b::r);have ej:jn (a::b::r)=a++32::jn (b::r):=rfl;refine⟨fun x hx=>?_,?_⟩
  ·grind
  ·grind
theorem EC(t:Str):cs t=jn ((Txt.split t " ").map cs):=by rw[← TK,StrLaws.join_split]
theorem B9(h:Yn n t)(hn:n<=10000):∃w rest,Txt.split t " " = w::rest/\(∀x∈w::rest,JM x)/\rest.length<=n:=by
 have e:=EC t;obtain⟨h1,h2⟩:=FA ((Txt.split t " ").map cs);rw[← e] at h1 h2;have hp : 1<=(Txt.split t " ").length:=PyProof.Rows.split_pos _ _;rw[xA,Z7] at h2;have hl:=h.1;have hall:∀x∈Txt.split t " ", JM x:=fun x hx=>by
  obtain⟨h3,h4⟩:=h1 (cs x) (List.mem_map_of_mem hx);rw[Z7,Z7] at h4;exact⟨by lia,fun c hc=>h.2 c (h3 c hc)⟩
 cases es:Txt.split t " " with
 | nil=>rw[es] at hp;exact absurd hp (by simp)
 | cons w rest =>
  rw[es] at h2 hall;rw[xF] at h2;exact⟨w,rest,rfl,hall,by lia⟩
end
section
variable{c:eV}
inductive Tt(c:eV)(vs:aG)(H:Hp)(Q:VK)(E:XK):Prop
 |mk(t)(_:vs = [.str t])(_:Yn 10000 t)(_:(∀d p ra rb H',Dk d->Txt.split t " " = toks d->Uz H' d p ra rb->(d.rows≠none->H ra=none/\H rb=none)->ZC H H'->Q (.ref p) H'))(_:((∀d,Dk d->Txt.split t " " ≠ toks d)->∀H',ZC H H'->E (.ref (c "NoDeed")) none H'))
abbrev HB:Stmt:=top 83
theorem Qw(Zi5:YA K mg "read_deed" HB)(T:Txt mg)(er:Er K mg c errs)(tb:HX K mg w.params dP dS kP kS)(fms:JU K kP kS)(fmn:KY kP kS)(Zpj:YZ P w K mg base "place_of" 1 (VY c))(Zpk:YZ P w K mg base "read_names" 3 (VH c))(Ze8:YZ P w K mg base "read_values" 3 (WS K c)):YZ P w K mg base "read_deed" 4 (Tt c):=by
 have c_PLAIN:=tb.cP;have c_SWORN:=tb.cS;have r_PLAIN:ZG (.ref dP) (.ref dP):=rfl;have r_SWORN:ZG (.ref dS) (.ref dS):=rfl;refine Zi5.fx ["text","words","word","plus","minus","values"] ["text"] fun H vs Q E hr h=>?_;obtain⟨t,rfl,ht,kq,ke⟩:=h;refine⟨rfl,_,(Ze (Zv 1 (Y6 F.plainAttrs_str F.slot_str_split F.type_str_split Bo Q0 (Za Zh Zb))) (Ze (Zv 2 (Zq Z3 Q6 Zf (fun _ _=>rfl))) (Ze (Zm (Zl Ea Q7 (Yv c_PLAIN r_PLAIN) rfl) (Zd (Zn (Vy B3 T.tuple JD (Za (Zr Wr (Yh (Za Q7 Zb)) (Ub Wk Ze8 (Za (Yq Ws Q6 (Ym Zf) Yw) (Za (Zq ES (Yv c_PLAIN r_PLAIN) Q7 (fun _ _=>rfl)) Zb)))) Zb)))) Zo) (Ze (Zm (Zl Ea Q7 (Yv c_SWORN r_SWORN) rfl) (Ze (Zv 3 (Ub Wk Zpj (Za Zh (Za Q6 Zb)))) (Ze (Zv 4 (Ub Wk Zpj (Za Zh (Za Q6 Zb)))) (Ze (Zv 5 (Ub Wk Ze8 (Za (Yq Ws Q6 (Ym Zf) (Ym Q8)) (Za (Zq ES (Yv c_SWORN r_SWORN) Q7 (fun _ _=>rfl)) Zb)))) (Zd (Zn (Vy B3 T.tuple JD (Za (Zr Wr (Zr Wr (Yh (Za Q7 Zb)) Qa) (Yh (Za (Ub Wk Zpk (Za (Yq Ws Q6 (Ym (Zr Wb Q8 Zf)) (Ym Q9)) Zb)) (Za (Ub Wk Zpk (Za (Yq Ws Q6 (Ym (Zr Wb Q9 Zf)) Yw) Zb)) Zb)))) Zb))))))) Zo) (Zd (Wf Yy er (Wu (Y8 (G9 Q7 Wt))))))))),?_⟩;have hZ:(100000:Nat)<=sizeLine:=by decide
 obtain⟨x,rest,es,hwd,hlr⟩:=B9 ht (xH _);have hl0:=ht.1;refine⟨_,rfl,rfl,t, " ", rfl,rfl,aA,by lia,fun l hl=>?_⟩;rw[es];rw[es] at kq ke;have S1:=ZC.new (o:=.lst ((x::rest).map V.str)) hl;have k1:(upd H l (.lst ((x::rest).map V.str))) l=some (.lst ((x::rest).map V.str)):=Zg;generalize (upd H l (.lst ((x::rest).map V.str)))=H1 at S1 k1 ⊢;refine Z4 ?_;dsimp only [Zw];refine⟨_,rfl,l,_,0,.str x,rfl,rfl,ZF.of k1,Yb (j:=0) rfl,?_⟩;refine Z4 ?_;dsimp only [Zw];cases hf:Ww x with
 | none =>
  obtain⟨n1,n2⟩:=fmn x hf;refine⟨_,rfl,x,dP,kP,rfl,rfl,tb.P,_,rfl,?_⟩;rw[n1];refine Zy ?_;refine⟨_,rfl,x,dS,kS,rfl,rfl,tb.S,_,rfl,?_⟩;rw[n2];refine Zy ?_;exact⟨aA,_,rfl,⟨x,rfl,hwd x xQ⟩,fun _=>ke (fun d hd e=>hd.known e hf) H1 S1⟩
 | some f' =>
  have hkinds:=Dz (cs f');rcases fms (x,f') (Bz hf) with⟨h43,t1,hP,hS,hsq⟩ | ⟨h43,hP,t1,hS,hsq⟩
  ·refine⟨_,rfl,x,dP,kP,rfl,rfl,tb.P,_,rfl,?_⟩;rw[hP];refine Z2 ?_;refine⟨_,rfl,aB rfl,fun l2 hl2=>?_⟩;have S2:=ZC.new (o:=.lst [.str x]) hl2;have k2:(upd H1 l2 (.lst [.str x])) l2=some (.lst [.str x]):=Zg;generalize (upd H1 l2 (.lst [.str x]))=H2 at S2 k2 ⊢;refine⟨_,rfl,_,rfl,l,_,rfl,ZF.of (S2 _ _ k1),fun l3 hl3=>?_⟩;have ec:Yl ((x::rest).map V.str) (some 1) none=rest.map V.str:=A9 (pre:=[.str x]) rfl rfl;rw[ec];have S3:=ZC.new (o:=.lst (rest.map V.str)) hl3;have k3:(upd H2 l3 (.lst (rest.map V.str))) l3=some (.lst (rest.map V.str)):=Zg;generalize (upd H2 l3 (.lst (rest.map V.str)))=H3 at S3 k3 ⊢;refine⟨_,rfl,x,dP,t1,kP,rfl,rfl,tb.P,hP,l3,t1,rest,_,rfl,k3,fun _ _=>hsq _,fun y hy=>hwd y (xG _ hy),by lia,hkinds,fun ps l4 H4 hps hl4 k4 s4=>?_,fun hno H4 s4=>?_⟩
   ·have hpl:ps.length=rest.length:=by rw[← hps.1,xA]
    refine⟨l2,l4,_,_,rfl,rfl,s4 _ _ (S3 _ _ k2),k4,by rw[xA];show 1+ps.length<=sizeLine;lia,fun l5 hl5=>?_⟩;have S5:=ZC.new (o:=.lst ([V.str x]++ps.map ptV)) hl5;have k5:(upd H4 l5 (.lst ([V.str x]++ps.map ptV))) l5=some (.lst ([V.str x]++ps.map ptV)):=Zg;generalize (upd H4 l5 (.lst ([V.str x]++ps.map ptV)))=H5 at S5 k5 ⊢;refine⟨l5,_,rfl,.inl ⟨ZF.of k5,fun p hp=>?_⟩⟩;refine kq ⟨x,ps,none⟩ p 0 0 _ ⟨⟨f',hf,hps.2.1,.inr ⟨h43,rfl⟩⟩,hps.2.2,trivial⟩ ?_ ⟨?_,trivial⟩ (fun z=>absurd rfl z) (((((S1.trans S2).trans S3).trans s4).trans S5).trans (ZC.new hp))
    ·show x::rest=x::(ps.map ptS ++ []);rw[yM,hps.1]
    ·rw[Zg];show _=some (HO.tup (V.str x::(ps.map ptV ++ [])));rw[yM];rfl
   ·exact ke (fun d hd e=>hno _ (hd.plain e hf h43).2) H4 (((S1.trans S2).trans S3).trans s4)
  ·refine⟨_,rfl,x,dP,kP,rfl,rfl,tb.P,_,rfl,?_⟩;rw[hP];refine Zy ?_;refine⟨_,rfl,x,dS,kS,rfl,rfl,tb.S,_,rfl,?_⟩;rw[hS];refine Z2 ?_;obtain⟨nx1,nx2⟩:=bD hf;refine⟨_,rfl, "+", l,x::rest,rfl,k1,aA,fun pre post e1 hp1=>?_,fun hno=>?_⟩
   rotate_left
   ·refine ke (fun d hd e=>hno ?_) H1 S1;obtain⟨a,b,_,e2,_⟩:=hd.sworn e hf h43;rw[e2];exact xG _ (xJ _ xQ)
   refine Z4 ?_;dsimp only [Zw];refine⟨_,rfl, "-", l,x::rest,rfl,k1,aA,fun pre2 post2 e2 hp2=>?_,fun hno=>?_⟩
   rotate_left
   ·refine ke (fun d hd e=>hno ?_) H1 S1;obtain⟨a,b,_,e2,_⟩:=hd.sworn e hf h43;rw[e2];exact xG _ (xJ _ (xG _ (xJ _ xQ)))
   refine Z4 ?_;dsimp only [Zw];obtain⟨mid,rfl⟩:∃mid,pre=x::mid:=by
    cases pre with
    | nil=>injection e1 with z _;exact absurd z nx1
    | cons y mid=>injection e1 with z _;exact⟨mid,by rw[z]⟩
   have er1:rest=mid++("+" : Str)::post:=by injection e1
   have hmidl:mid.length<=rest.length:=by rw[er1,xD];lia
   refine⟨_,rfl,_,rfl,_,rfl,_,rfl,l,_,rfl,ZF.of k1,fun l3 hl3=>?_⟩;have ec:Yl ((x::rest).map V.str) (some 1) (some ((x::mid).length:Int))=mid.map V.str :=
    Eh (pre:=[.str x]) (post:=(("+" : Str)::post).map V.str) (by rw[er1,xW,xM];rfl) rfl (by rw[xA,xF,yL];lia)
   rw[ec];have S3:=ZC.new (o:=.lst (mid.map V.str)) hl3;have k3:(upd H1 l3 (.lst (mid.map V.str))) l3=some (.lst (mid.map V.str)):=Zg;generalize (upd H1 l3 (.lst (mid.map V.str)))=H3 at S3 k3 ⊢;have dkm:∀d,Dk d->x::rest=toks d->∃a b,mid=d.ps.map ptS/\post=a++("-" : Str)::b/\d.rows=some (a,b)/\d.ps.map ptK=Z9 (cs f')/\(∀y∈a,Z0 y)/\(∀y∈b,Z0 y):=fun d hd e=>by
    obtain⟨a,b,h1,h2,h3,h4,h5⟩:=hd.sworn e hf h43;have e3:mid++("+" : Str)::post=d.ps.map ptS++("+" : Str)::(a++("-" : Str)::b):=by rw[← er1,h2]
    obtain⟨e4,e5⟩:=Ab e3 (fun z=>hp1 (xG _ z)) (DB hd.ps).1;exact⟨a,b,e4,e5,h1,h3,h4,h5⟩
   refine⟨_,rfl,x,dS,t1,kS,rfl,rfl,tb.S,hS,l3,t1,mid,_,rfl,k3,fun _ _=>hsq _,fun y hy=>hwd y (by rw[er1];exact xG _ (yQ _ hy)),by lia,hkinds,fun ps l4 H4 hps hl4 k4 s4=>?_,fun hno H4 s4=>?_⟩
   rotate_left
   ·refine ke (fun d hd e=>?_) H4 ((S1.trans S3).trans s4);obtain⟨a,b,h1,_,_,h3,_⟩:=dkm d hd e;exact hno d.ps ⟨h1.symm,h3,hd.ps⟩
   have hpl:ps.length=mid.length:=by rw[← hps.1,xA]
   have nmid:("-" : Str)∉mid:=by rw[← hps.1];exact(DB hps.2.2).2
   have hpost:("-" : Str)∈post:=by
    have:("-" : Str)∈x::rest:=by rw[e2];exact xJ _ xQ
    rw[er1] at this;rcases xC.mp this with z | z
    ·exact absurd z.symm nx2
    rcases xI.mp z with z | z
    ·exact absurd z nmid
    rcases xC.mp z with z | z
    ·exact absurd z aA
    ·exact z
   obtain⟨a,b,rfl,na⟩:=CT hpost;have epre:pre2=x::(mid++("+" : Str)::a)/\post2=b:=by
    refine Ab (x:="-") (by rw[← e2,er1,xX,yH];rfl) hp2 (fun z=>?_);rcases xC.mp z with z | z
    ·exact nx2 z.symm
    rcases xI.mp z with z | z
    ·exact nmid z
    rcases xC.mp z with z | z
    ·exact absurd z aA
    ·exact na z
   obtain⟨rfl,_⟩:=epre;have hall:a.length+b.length<=rest.length:=by rw[er1,xD,xF,xD,xF];lia
   have wa:∀y∈a,JM y:=fun y hy=>hwd y (by rw[er1];exact xG _ (xJ _ (xG _ (yQ _ hy))));have wb:∀y∈b,JM y:=fun y hy=>hwd y (by rw[er1];exact xG _ (xJ _ (xG _ (xJ _ (xG _ hy)))));have dkn:∀d,Dk d->x::rest=toks d->(∀y∈a,Z0 y)/\(∀y∈b,Z0 y):=fun d hd e=>by
    obtain⟨a',b',_,h2,_,_,h4,h5⟩:=dkm d hd e;obtain⟨e6,e7⟩:=Ab h2 na (Dl h4);rw[e6,e7];exact⟨h4,h5⟩
   refine Z4 ?_;dsimp only [Zw];have S14:=S3.trans s4;have k14:=S14 _ _ k1;refine⟨_,rfl,aB rfl,fun l5 hl5=>?_⟩;have S5:=ZC.new (o:=.lst [.str x]) hl5;have k5:(upd H4 l5 (.lst [.str x])) l5=some (.lst [.str x]):=Zg;generalize (upd H4 l5 (.lst [.str x]))=H5 at S5 k5 ⊢;refine⟨_,rfl,l5,l4,_,_,rfl,rfl,k5,S5 _ _ k4,by rw[xA];show 1+ps.length<=sizeLine;lia,fun l6 hl6=>?_⟩;have S6:=ZC.new (o:=.lst ([V.str x]++ps.map ptV)) hl6;have k6:(upd H5 l6 (.lst ([V.str x]++ps.map ptV))) l6=some (.lst ([V.str x]++ps.map ptV)):=Zg;generalize (upd H5 l6 (.lst ([V.str x]++ps.map ptV)))=H6 at S6 k6 ⊢;have S16:=(S14.trans S5).trans S6;have k16:=S16 _ _ k1;refine⟨_,rfl,_,rfl,_,_,rfl,rfl,_,rfl,_,rfl,_,rfl,l,_,rfl,ZF.of k16,fun l7 hl7=>?_⟩;have ea:Yl ((x::rest).map V.str) (some (((x::mid).length:Int)+1)) (some ((x::(mid++("+" : Str)::a)).length:Int))=a.map V.str :=
    Eh (pre:=(x::(mid ++ [("+" : Str)])).map V.str) (post:=(("-" : Str)::b).map V.str) (by rw[er1,← xM,← xM,xX,yH];rfl) (by rw[xA,xF,xF,xD,yL];lia) (by rw[xA,xA,xF,xF,xD,xD,yL,xF];lia)
   rw[ea];have S7:=ZC.new (o:=.lst (a.map V.str)) hl7;have k7:(upd H6 l7 (.lst (a.map V.str))) l7=some (.lst (a.map V.str)):=Zg;generalize (upd H6 l7 (.lst (a.map V.str)))=H7 at S7 k7 ⊢;refine⟨l7,a,rfl,k7,wa,by lia,fun hna ra H8 hra kra s8=>?_,fun hno H8 s8=>?_⟩
   rotate_left
   ·exact ke (fun d hd e=>hno (dkn d hd e).1) H8 (((S1.trans S16).trans S7).trans s8)
   have S18:=(S16.trans S7).trans s8;have k18:=S18 _ _ k1;refine⟨_,rfl,_,rfl,_,_,rfl,rfl,_,rfl,l,_,rfl,ZF.of k18,fun l9 hl9=>?_⟩;have eb:Yl ((x::rest).map V.str) (some (((x::(mid++("+" : Str)::a)).length:Int)+1)) none=b.map V.str :=
    A9 (pre:=(x::(mid++("+" : Str)::(a ++ [("-" : Str)]))).map V.str) (by rw[er1,← xM,xX,yH,xX,yH];rfl) (by rw[xA,xF,xF,xD,xD,xF,xF,xD,yL];lia)
   rw[eb];have S9:=ZC.new (o:=.lst (b.map V.str)) hl9;have k9:(upd H8 l9 (.lst (b.map V.str))) l9=some (.lst (b.map V.str)):=Zg;generalize (upd H8 l9 (.lst (b.map V.str)))=H9 at S9 k9 ⊢;refine⟨l9,b,rfl,k9,wb,by lia,fun hnb rb H10 hrb krb s10=>?_,fun hno H10 s10=>?_⟩
   rotate_left
   ·exact ke (fun d hd e=>hno (dkn d hd e).2) H10 (((S1.trans S18).trans S9).trans s10)
   have S110:=(S18.trans S9).trans s10;have kra10:=s10 _ _ (S9 _ _ kra);have nab:ra≠rb:=fun z=>by rw[z] at kra;rw[S9 _ _ kra] at hrb;cases hrb
   refine⟨aB rfl,fun l11 hl11=>?_⟩;have S11:=ZC.new (o:=.lst [.ref ra,.ref rb]) hl11;have k11:(upd H10 l11 (.lst [.ref ra,.ref rb])) l11=some (.lst [.ref ra,.ref rb]):=Zg;generalize (upd H10 l11 (.lst [.ref ra,.ref rb]))=H11 at S11 k11 ⊢;have k611:=S11 _ _ (s10 _ _ (S9 _ _ (s8 _ _ (S7 _ _ k6))));refine⟨l6,l11,_,_,rfl,rfl,k611,k11,by rw[xD,xA];show 1+ps.length+2<=sizeLine;lia,fun l12 hl12=>?_⟩;have S12:=ZC.new (o:=.lst ([V.str x]++ps.map ptV ++ [.ref ra,.ref rb])) hl12;have k12:(upd H11 l12 (.lst ([V.str x]++ps.map ptV ++ [.ref ra,.ref rb]))) l12=some (.lst ([V.str x]++ps.map ptV ++ [.ref ra,.ref rb])):=Zg;generalize (upd H11 l12 (.lst ([V.str x]++ps.map ptV ++ [.ref ra,.ref rb])))=H12 at S12 k12 ⊢;refine⟨l12,_,rfl,.inl ⟨ZF.of k12,fun p hp=>?_⟩⟩;have S13:=ZC.new (o:=.tup ([V.str x]++ps.map ptV ++ [.ref ra,.ref rb])) hp;refine kq ⟨x,ps,some (a,b)⟩ p ra rb _ ⟨⟨f',hf,hps.2.1,.inl ⟨h43,fun z=>nomatch z⟩⟩,hps.2.2,hna,hnb⟩ ?_ ⟨?_,S13 _ _ (S12 _ _ (S11 _ _ kra10)),S13 _ _ (S12 _ _ (S11 _ _ krb)),nab⟩ (fun _=>⟨((S1.trans S16).trans S7).free hra,((S1.trans S18).trans S9).free hrb⟩) ((((S1.trans S110).trans S11).trans S12).trans S13)
   ·show x::rest=x::(ps.map ptS++("+" : Str)::(a++("-" : Str)::b));rw[er1,hps.1]
   ·rw[Zg];rfl
end
inductive JC(vs:aG)(H:Hp)(Q:VK)(z3:XK):Prop
 |mk(s la)(_:vs = [.ref s])(_:ZK H s la)(_:∀i H',Uw i->ZK H' s la->ZI s H H'->Q (.int i) H')
abbrev Hy:Stmt:=top 102
theorem Qq(Zi6:YA K mg "_law_number" Hy)(T:Txt mg)(Yj:Fn P w K mg base "_law_next" ["_law_src_here","_law_base"] 1 YD):Fn P w K mg base "_law_number" ["_law_src_here"] 2 JC:=by
 refine Zi6.fq ["_law_src_here","_law_kind"] fun H vs Q E hr h=>?_;obtain⟨s,la,rfl,hs,k⟩:=h;refine⟨rfl,_,(Ze (Zv 1 (Zs Yj (Za Q0 (Za Zf Zb)))) (Ze (Zm (Zl Yc Q6 Zf (Zp _)) (Zd (Zn (Zq Z3 (Yh (Za Zf (Za Zf (Za Zf (Za Zf (Za Zf (Za Zf Zb))))))) (Zs Yj (Za Q0 (Za Zf Zb))) (fun _ _=>rfl)))) Zo) (Ze (Zm (Zl Yc Q6 Zf (Zp _)) (Zd (Zn (Zs Yj (Za Q0 (Za Zf Zb))))) Zo) (Zd (Zn (Zs Yj (Za Q0 (Za Zf Zb)))))))),?_⟩;have hz:=aC
 refine⟨_,rfl,s,la,4,rfl,hs,aA,aA,fun d H1 _ _ hs1 sx1=>?_⟩;refine⟨_,rfl,rfl,_,rfl,Zu (fun _=>?_) (fun _=>?_)⟩
 ·refine⟨aB rfl,fun q hq=>?_⟩;have S:=ZC.new (o:=.lst [.int 0,.int 9,.int 10,.int 999999999,.int 100000000,.int 99]) hq;have kq:(upd H1 q (.lst [.int 0,.int 9,.int 10,.int 999999999,.int 100000000,.int 99])) q=some (.lst [.int 0,.int 9,.int 10,.int 999999999,.int 100000000,.int 99]):=Zg;have nq:q≠s:=(hs1.ne hq).1;generalize (upd H1 q (.lst [.int 0,.int 9,.int 10,.int 999999999,.int 100000000,.int 99]))=H2 at S kq ⊢;refine⟨_,rfl,s,la,6,rfl,hs1.keep S,aA,aA,fun d2 H3 e0 e1 hs3 sx3=>?_⟩;have hk:=sx3 q _ nq kq;have at6:∃z:Int,atI [V.int 0,.int 9,.int 10,.int 999999999,.int 100000000,.int 99] d2=some (.int z)/\Uw z:=by
   have:d2=0\/d2=1\/d2=2\/d2=3\/d2=4\/d2=5:=by lia
   rcases this with rfl | rfl | rfl | rfl | rfl | rfl
   ·exact⟨0,rfl,aA,aA⟩
   ·exact⟨9,rfl,aA,aA⟩
   ·exact⟨10,rfl,aA,aA⟩
   ·exact⟨999999999,rfl,aA,aA⟩
   ·exact⟨100000000,rfl,aA,aA⟩
   ·exact⟨99,rfl,aA,aA⟩
  obtain⟨z,hz1,hz2⟩:=at6;exact⟨q,_,d2,.int z,rfl,rfl,ZF.of hk,hz1,k z H3 hz2 hs3 ((sx1.trans S.x).trans sx3)⟩
 ·refine⟨_,rfl,rfl,_,rfl,Zu (fun _=>?_) (fun _=>?_)⟩
  ·exact⟨_,rfl,s,la,1000000000,rfl,hs1,aA,aA,fun d2 H3 e0 e1 hs3 sx3=>k d2 H3 ⟨e0,by lia⟩ hs3 (sx1.trans sx3)⟩
  ·exact⟨_,rfl,s,la,30,rfl,hs1,aA,aA,fun d2 H3 e0 e1 hs3 sx3=>k d2 H3 ⟨e0,by lia⟩ hs3 (sx1.trans sx3)⟩
inductive J1(vs:aG)(H:Hp)(Q:VK)(z3:XK):Prop
 |mk(s la na:eZ) (names:eS)(_:vs = [.ref s,.ref na])(_:ZK H s la)(_:H na=some (.lst (names.map V.str)))(_:na≠s)(_:1<=names.length)(_:names.length<=100)(_:∀(l:eZ)(xs:eS)(H':Hp),(∀x∈xs,x∈names)->xs.length<=15->H l=none->H' l=some (.lst (xs.map V.str))->ZK H' s la->ZI s H H'->Q (.ref l) H')
abbrev CQ:Stmt:=top 103
theorem Mu:Nm (Zj CQ) "_law_names_here" .cell:=aA
theorem Fb:Nm (Zj CQ) "_law_src_here" .cell:=aA
theorem Oj(Zi7:YA K mg "_law_row" CQ)(T:Txt mg)(Yj:Fn P w K mg base "_law_next" ["_law_src_here","_law_base"] 1 YD):Fn P w K mg base "_law_row" ["_law_src_here","_law_names_here"] 2 J1:=by
 refine Zi7.fq ["_law_src_here","_law_names_here"] fun H vs Q E hr h=>?_;obtain⟨s,la,na,names,rfl,hs,hna,nns,l0,l1,k⟩:=h
 refine⟨rfl,_,(Zd (Zn (Uh (locs:=["_law_k"]) (fr:=[("_law_src_here", 0),("_law_names_here", 1)]) ⟨rfl,aA,aA,aA,aA,aA⟩ (.consN Fb (.consN Mu .nil)) rfl (AU T.range (Za (Zs Yj (Za (qvC 0 Fb) (Za (Zq Z3 (Yh (Za Zf (Za Zf (Za Zf (Za Zf Zb))))) (Zs Yj (Za (qvC 0 Fb) (Za Zf Zb))) (fun _ _=>rfl)) Zb))) Zb)) ⟨fun _ _ _ _ _ _=>by
  have cnd:(inN ["_law_k"] [("_law_src_here", 0),("_law_names_here", 1)]).Nodup:=aA
  exact⟨(Y4 0 cnd),Vn,(Zq XY (T8 2) (Zs Yj (Za (T8 1) (Za (Zx MT T.len Z8 (Za (T8 2) Zb) (n:=nmC)) Zb)) (n:=nmC)) (fun _ _=>rfl))⟩⟩))),?_⟩
 have hz:=aC
 refine⟨_,rfl,aB rfl,fun q hq=>?_⟩;have S:=ZC.new (o:=.lst [.int 3,.int 3,.int 3,.int 16]) hq;have kq:(upd H q (.lst [.int 3,.int 3,.int 3,.int 16])) q=some (.lst [.int 3,.int 3,.int 3,.int 16]):=Zg;have nq:q≠s:=(hs.ne hq).1;generalize (upd H q (.lst [.int 3,.int 3,.int 3,.int 16]))=H1 at S kq ⊢;refine⟨_,rfl,s,la,4,rfl,hs.keep S,aA,aA,fun d2 H2 e0 e1 hs2 sx2=>?_⟩;have hk:=sx2 q _ nq kq;have at4:∃z:Int,atI [V.int 3,.int 3,.int 3,.int 16] d2=some (.int z)/\1<=z/\z<=16:=by
  have:d2=0\/d2=1\/d2=2\/d2=3:=by lia
  rcases this with rfl | rfl | rfl | rfl
  ·exact⟨3,rfl,aA,aA⟩
  ·exact⟨3,rfl,aA,aA⟩
  ·exact⟨3,rfl,aA,aA⟩
  ·exact⟨16,rfl,aA,aA⟩
 obtain⟨z,hz1,hz2,hz3⟩:=at4;refine⟨q,_,d2,.int z,rfl,rfl,ZF.of hk,hz1,s,la,z,rfl,hs2,by lia,by lia,fun m H3 m0 m1 hs3 sx3=>?_⟩;have sxA:=(S.x.trans sx2).trans sx3;refine⟨_,rfl,by lia,by lia,?_⟩;refine Hm (n:=m.toNat) (fun i ys H'=>ZK H' s la/\ZI s H H'/\∃xs:List Str,ys=xs.map V.str/\xs.length=i/\∀x∈xs,x∈names) ⟨hs3,sxA,[],rfl,rfl,fun x hx=>nomatch hx⟩ (by lia) ?_ ?_ ?_
 ·grind
 ·rintro i ys H' hi ⟨hs',sx',xs,rfl,h2,h3⟩ ls hls;obtain⟨w0,rfl⟩:=Uv hls;have hna':=sx' _ _ nns hna;refine⟨⟨[_],rfl,rfl⟩,?_⟩;refine⟨_,rfl,_,rfl,_,rfl,na,_,rfl,.inl (ZF.of hna'),s,la,_,rfl,hs',by rw[xA];lia,by rw[xA];lia,fun d H4 d0 d1 hs4 sx4=>?_⟩;rw[xA] at d1;obtain⟨j,rfl⟩:=yF d0;have hj:j < names.length:=by lia
  refine⟨na,_,(j:Int),.str names[j],rfl,rfl,ZF.of (sx4 _ _ nns hna'),Yb (by rw[xK,xE hj];rfl),hs4,sx'.trans sx4,xs ++ [names[j]],by rw[xM];rfl,by rw[xD,h2];rfl,fun x hx=>?_⟩;rcases xI.mp hx with y | y
  ·exact h3 x y
  ·rw[xO.mp y];exact yY hj
 ·rintro ys H' ⟨hs',sx',xs,rfl,h2,h3⟩ l hl;have fl:H l=none:=by
   cases e:H l with
   | none=>rfl
   | some o =>
    by_cases z':l=s
    ·subst z';obtain⟨_,_,_,_,_,hsl,_⟩:=hs';rw[hsl] at hl;cases hl
    ·rw[sx' _ _ z' e] at hl;cases hl
  exact k l xs _ h3 (by lia) fl Zg (hs'.keep (ZC.new hl)) (sx'.trans (ZC.new hl).x)
abbrev fmA:List (ZQ×V):=[(.inr "come", .str "abb"),(.inr "rise", .str "abb"),(.inr "die", .str "aba"),(.inr "penance", .str "a"),(.inr "bring", .str "ab"),(.inr "give", .str "baab")]
abbrev fmB:List (ZQ×V):=[(.inr "pay", .str "aabb"),(.inr "claim", .str "abbb+"),(.inr "wergild", .str "aabbb+"),(.inr "accuse", .str "babb+")]
def fmV(x:Str):V:=(Z1 (Yu [] fmA) (.inr x)).getD ((Z1 (Yu [] fmB) (.inr x)).getD .non)
theorem K8:∀p∈fm10,fmV p.1 = .str p.2:=by
 intro p hp;simp only[fm10,xC,xT,or_false] at hp;rcases hp with rfl | rfl | rfl | rfl | rfl | rfl | rfl | rfl | rfl | rfl<;>decide +kernel
theorem NV(h:Ww x=none):fmV x = .non:=by
 have hn:∀q∈fm10,q.1≠x:=fun q hq e=>by
  unfold Ww at h;rw[zK,zS] at h;exact h q hq (by simpa using e)
 have ne:∀q∈fm10,¬(Sum.inr x:ZQ)=Sum.inr q.1:=fun q hq e=>hn q hq (by injection e with e;exact e.symm);simp only[fm10,xC,xT,or_false,forall_eq_or_imp,forall_eq] at ne;obtain⟨n1,n2,n3,n4,n5,n6,n7,n8,n9,n10⟩:=ne;unfold fmV;simp only[Yu,fmA,fmB,List.foldl_cons,List.foldl_nil,Aa,if_neg n1,if_neg n2,if_neg n3,if_neg n4,if_neg n5,if_neg n6,if_neg n7,if_neg n8,if_neg n9,if_neg n10];rfl
def fmR(x:Str):V:=match Ww x with
 | some f=>.str f
 | none=>.non
theorem Gq(x:Str):fmV x=fmR x:=by
 unfold fmR;cases h:Ww x with
 | none=>exact NV h
 | some f=>exact K8 _ (Bz h)
inductive WT(vs:aG)(H:Hp)(Q:VK)(z3:XK):Prop
 |mk(x)(_:vs = [.str x])(_:∀H',ZC H H'->Q (fmR x) H')
inductive Tu(vs:aG)(H:Hp)(Q:VK)(z3:XK):Prop
 |mk(x f)(_:vs = [.str x])(_:(x,f)∈fm10)(_:∀H',ZC H H'->Q (.str f) H')
theorem Mn(h:Tu vs H Q E):WT vs H Q E:=by
 obtain⟨x,f,rfl,hx,k⟩:=h;refine⟨x,rfl,fun H' s=>?_⟩;rw[← Gq,K8 _ hx];exact k H' s
abbrev KL:Stmt:=top 104
theorem XF(Zi8:YA K mg "_law_form" KL)(T:Txt mg):Fn P w K mg base "_law_form" ["_law_word_here"] 1 WT:=by
 refine Zi8.fq ["_law_word_here","_law_forms","_law_more"] fun H vs Q E hr h=>?_;obtain⟨x,rfl,k⟩:=h;refine⟨rfl,_,(Ze (Zv 1 (FU (Wv Zh Zh (Wv Zh Zh (Wv Zh Zh (Wv Zh Zh (Wv Zh Zh (Wv Zh Zh Ex)))))))) (Ze (Zv 2 (FU (Wv Zh Zh (Wv Zh Zh (Wv Zh Zh (Wv Zh Zh Ex)))))) (Zd (Zn (CU hr Q6 Q0 (CU hr Q7 Q0 Yi)))))),?_⟩;refine fun p hp=>?_;refine⟨Zg,fmA,rfl,aA,?_⟩;have S1:ZC H (upd (upd H p (.dK [])) p (.dK (Yu [] fmA))):=fun b o eb=>by rw[Zc (Zi eb hp),Zc (Zi eb hp)];exact eb
 have k1:(upd (upd H p (.dK [])) p (.dK (Yu [] fmA))) p=some (.dK (Yu [] fmA)):=Zg;generalize (upd (upd H p (.dK [])) p (.dK (Yu [] fmA)))=H1 at S1 k1 ⊢;refine Z4 ?_;dsimp only [Zw];refine fun q hq=>?_;refine⟨Zg,fmB,rfl,aA,?_⟩;have S2:ZC H1 (upd (upd H1 q (.dK [])) q (.dK (Yu [] fmB))):=fun b o eb=>by rw[Zc (Zi eb hq),Zc (Zi eb hq)];exact eb
 have k2:(upd (upd H1 q (.dK [])) q (.dK (Yu [] fmB))) q=some (.dK (Yu [] fmB)):=Zg;generalize (upd (upd H1 q (.dK [])) q (.dK (Yu [] fmB)))=H2 at S2 k2 ⊢;refine Z4 ?_;dsimp only [Zw];have fin:Q (fmV x) H2:=by rw[Gq];exact k _ (S1.trans S2)
 exact⟨_,rfl,p,rfl,.inl ⟨_,.inl (S2 _ _ k1)⟩,_,rfl,_,rfl,q,rfl,.inl ⟨_,.inl k2⟩,_,rfl,_,ZY.k (k:=Sum.inr x) k2,_,ZY.k (k:=Sum.inr x) (S2 _ _ k1),fin⟩
section
variable{K:uFg}{kP kS:List (Str×Tok×eZ)}
theorem SE(h0 : 0<=d)(h1:d < 10):∃q∈fm10,atI ((fm10.map (·.1)).map V.str) d=some (.str q.1):=by
 obtain⟨j,rfl⟩:=yF h0;have hj:j < fm10.length:=by show j < 10;lia
 exact⟨fm10[j],yY hj,Yb (by rw[xK,xK,xE hj];rfl)⟩
theorem Lo(hs':ZK H' s la)(sx:ZI s H H')(hl:H' l=none):H l=none:=by
 cases e:H l with
 | none=>rfl
 | some o =>
  by_cases z':l=s
  ·subst z';obtain⟨_,_,_,_,_,hsl,_⟩:=hs';rw[hsl] at hl;cases hl
  ·rw[sx _ _ z' e] at hl;cases hl
theorem DV(l:List Nat)(c:Nat):Z9 (l ++ [c])=Z9 l++(if c=43 then [] else [kdC c]):=by
 unfold Z9;rw[List.filter_append,xM]
 by_cases h:c=43
 ·rw[if_pos h,h];rfl
 ·rw[if_neg h,List.filter_cons_of_pos (by simpa using h)];rfl
inductive Jt(K:uFg)(kP kS:List (Str×Tok×eZ))(vs:aG)(H:Hp)(Q:VK)(z3:XK):Prop
 |mk(s la na:eZ) (names:eS)(_:vs = [.ref s,.ref na])(_:ZK H s la)(_:H na=some (.lst (names.map V.str)))(_:na≠s)(_:1<=names.length)(_:names.length<=100)(_:(∀n∈names,Z0 n))(_:JU K kP kS)(_:∀(d:Dd)(p ra rb:eZ)(H':Hp),WV K kP kS d->Uz H' d p ra rb->ZK H' s la->ZI s H H'->Q (.ref p) H')
structure Fo (H:Hp) (names:eS) (x f:Str) (i:Nat) (lp:eZ) (ps:List Pt) (rw:Option (List Str×List Str)) (ra rb:eZ):Prop where
 lst:H lp=some (.lst (.str x::(ps.map ptV++Vu rw ra rb)))
 ok:∀p∈ps,Vf p
 kd:ps.map ptK=Z9 ((cs f).take i)
 tl:(43∉(cs f).take i/\rw=none)\/(43∈(cs f).take i/\rw≠none)
 at_:DX H rw ra rb
 row:Rows (fun a=>(∀y∈a,Z0 y)/\a.length<=15) rw
abbrev Kj:Stmt:=top 105
theorem LN(Zi9:YA K mg "_law_any_deed" Kj)(T:Txt mg)(Yj:Fn P w K mg base "_law_next" ["_law_src_here","_law_base"] 1 YD)(Zja:Fn P w K mg base "_law_number" ["_law_src_here"] 2 JC)(Zpp:Fn P w K mg base "_law_row" ["_law_src_here","_law_names_here"] 2 J1)(Zjb:Fn P w K mg base "_law_form" ["_law_word_here"] 1 Tu) :
  Fn P w K mg base "_law_any_deed" ["_law_src_here","_law_names_here"] 3 (Jt K kP kS):=by
 refine Zi9.fq ["_law_src_here","_law_names_here","_law_words","_law_word_here","_law_parts","_law_sign"] fun H vs Q E hr h=>?_;obtain⟨s,la,na,names,rfl,hs,hna,nns,l0,l1,hnm,fms,k⟩:=h;refine⟨rfl,_,(Ze (Zv 2 (Yh (Za Zh (Za Zh (Za Zh (Za Zh (Za Zh (Za Zh (Za Zh (Za Zh (Za Zh (Za Zh Zb)))))))))))) (Ze (Zv 3 (Zq Z3 Q7 (Zs Yj (Za Q0 (Za Zf Zb))) (fun _ _=>rfl))) (Ze (Zv 4 (Yh (Za Q8 Zb))) (Ze (Wz PassesOwn.never rfl (AC (Zs Zjb (Za Q8 Zb))) (Y7 5) (Zd (Zm (Zl Yc Qa Zh (Zp _)) (Zd (Ye (Y6 aD aE aF Ug Q9 (Za (Zq Z3 Q6 (Zs Yj (Za Q0 (Za (Zx Yx T.len Z8 (Za Q6 Zb)) Zb))) (fun _ _=>rfl)) Zb)))) (Zd (Zm (Zl Yc Qa Zh (Zp _)) (Zd (Ye (Y6 aD aE aF Ug Q9 (Za (Zs Zja (Za Q0 Zb)) Zb)))) (Zd (Zv 4 (Zr Wr Q9 (Yh (Za (Zs Zpp (Za Q0 (Za Q6 Zb))) (Za (Zs Zpp (Za Q0 (Za Q6 Zb))) Zb))))))))))) (Zd (Zn (Vy B3 T.tuple JD (Za Q9 Zb)))))))),?_⟩;have hz:=aC
 refine⟨aB rfl,fun wl hwl=>?_⟩;have S1:=ZC.new (o:=.lst ((fm10.map (·.1)).map V.str)) hwl;have k1:(upd H wl (.lst ((fm10.map (·.1)).map V.str))) wl=some (.lst ((fm10.map (·.1)).map V.str)):=Zg;refine Z4 ?_;dsimp only [Zw];have nw:wl≠s:=(hs.ne hwl).1;refine⟨_,rfl,_,rfl,s,la,10,rfl,hs.keep S1,aA,aA,fun d H2 d0 d1 hs2 sx2=>?_⟩;obtain⟨q,hq,eq⟩:=SE d0 d1;refine⟨wl,_,d,.str q.1,rfl,rfl,ZF.of (sx2 _ _ nw k1),eq,?_⟩;have sxA:=S1.x.trans sx2;obtain⟨hw,hf6,hsh⟩:=Cy q hq;refine Z4 ?_;dsimp only [Zw];refine⟨_,rfl,aB rfl,fun lp hlp=>?_⟩;have S3:=ZC.new (o:=.lst [.str q.1]) hlp;have k3:(upd H2 lp (.lst [.str q.1])) lp=some (.lst [.str q.1]):=Zg;have flp:=Lo hs2 sxA hlp;generalize (upd H2 lp (.lst [.str q.1]))=H3 at S3 k3 ⊢;have hs3:=hs2.keep S3;have sx3:=sxA.trans S3.x;refine Z4 ?_;dsimp only [Zw];refine⟨_,rfl,q.1,q.2,rfl,hq,fun H4 s4=>?_⟩;refine⟨q.2,rfl,?_⟩;have no43:∀i,i < q.2.length->43∉(cs q.2).take i:=fun i hi hm=>by
  obtain⟨m,hm1,hm2⟩:=List.getElem_of_mem hm;rw[xU] at hm1;have hml:m < q.2.length:=by lia
  have e1:=Uc hml;have e2:(cs q.2)[m]? = some 43:=by rw[← hm2,List.getElem_take];exact xE _
  rw[e1] at e2;have e3:=Option.some.inj e2;rcases hsh m hml with(z | z) | ⟨_,z⟩<;>lia
 refine CY (fun i σ H'=>∃(v5:Option V)(lp:eZ)(ps:List Pt)(rw:Option (List Str×List Str))(ra rb:eZ),σ = [some (.ref s),some (.ref na),some (.ref wl),some (.str q.1),some (.ref lp),v5]/\Fo H' names q.1 q.2 i lp ps rw ra rb/\ps.length<=i/\H lp=none/\ZK H' s la/\ZI s H H')
  ⟨none,lp,[],none,0,0,rfl,⟨s4 _ _ k3,(fun p hp=>nomatch hp),rfl,.inl ⟨(fun z=>nomatch z),rfl⟩,trivial,trivial⟩,xH _,flp,hs3.keep s4,sx3.trans s4.x⟩ ?_ ?_
 ·rintro i σ H' hi ⟨v5,lp,ps,rw',ra,rb,rfl,pr,hpl,flp,hs',sx'⟩;have hn43:=no43 i hi;have erw:rw'=none:=by
   rcases pr.tl with⟨_,z⟩ | ⟨z,_⟩
   ·exact z
   ·exact absurd z hn43
  subst erw;have hlst:H' lp=some (.lst (.str q.1::ps.map ptV)):=by have:=pr.lst;rw[show ps.map ptV++Vu none ra rb=ps.map ptV from yM _] at this;exact this
  have hna':=sx' _ _ nns hna;have nlps:lp≠s:=fun z=>by subst z;obtain⟨_,_,_,_,_,hsl,_⟩:=hs;rw[hsl] at flp;cases flp
  have etk:(cs q.2).take (i+1)=(cs q.2).take i ++ [q.2.cps.getD i 0]:=by rw[yD,Uc hi];rfl
  have upx:∀{H5:Hp}{o:HO},ZI s H H5->ZI s H (upd H5 lp o):=fun h b o nb e=>by rw[Zc (fun z=>by rw[z,flp] at e;cases e)];exact h b o nb e
  have ups:∀{H5:Hp}{xs ys:aG},ZK H5 s la->H5 lp=some (.lst (.str q.1::xs))->ZK (upd H5 lp (.lst ys)) s la:=fun h e=>by
   obtain⟨ns,i,big,st,cnt,h1,h2,h3,h4⟩:=id h;exact h.keepX ZI.upd nlps (fun z=>by rw[z,h2] at e;cases ns with | nil=>cases e | cons a r=>cases e)
  rw[show sgn q.2 i=V.str ⟨#[q.2.cps.getD i 0]⟩ from rfl];rcases hsh i hi with(ec | ec) | ⟨ec,ei⟩
  ·rw[ec] at etk;rw[ec];refine⟨_,rfl,rfl,_,rfl,Zu (fun _=>?_) (fun z=>absurd aA z)⟩;refine⟨_,rfl,.inl ⟨rfl,_,ZF.of hlst⟩,_,rfl,_,rfl,_,rfl,na,_,rfl,.inl (ZF.of hna'),s,la,_,rfl,hs',by rw[xA];lia,by rw[xA];lia,fun d5 H5 e50 e51 hs5 sx5=>?_⟩;rw[xA] at e51;obtain⟨j,rfl⟩:=yF e50;have hj:j < names.length:=by lia
   have hl5:=sx5 _ _ nlps hlst;refine⟨na,_,(j:Int),.str names[j],rfl,rfl,ZF.of (sx5 _ _ nns hna'),Yb (by rw[xK,xE hj];rfl),lp,_,_,rfl,rfl,hl5,by rw[xF,xA];lia,?_⟩;refine⟨_,lp,ps ++ [.nm names[j]],none,0,0,rfl,⟨?_,fun p hp=>?_,?_,.inl ⟨?_,rfl⟩,trivial,trivial⟩,by rw[xD,yL];lia,flp,ups hs5 hl5,upx (sx'.trans sx5)⟩
   ·rw[Zg,xM];show some (HO.lst (V.str q.1::ps.map ptV ++ [V.str names[j]]))=some (HO.lst (V.str q.1::(ps.map ptV ++ [V.str names[j]] ++ [])));rw[yM];rfl
   ·rcases xI.mp hp with y | y
    ·exact pr.ok p y
    ·rw[xO.mp y];exact hnm _ (yY hj)
   ·rw[etk,DV,xM,pr.kd];rfl
   ·grind
  ·rw[ec] at etk;rw[ec];refine⟨_,rfl,rfl,_,rfl,Zu (fun z=>absurd z aA) (fun _=>?_)⟩;refine⟨_,rfl,rfl,_,rfl,Zu (fun _=>?_) (fun z=>absurd aA z)⟩;refine⟨_,rfl,.inl ⟨rfl,_,ZF.of hlst⟩,_,rfl,s,la,rfl,hs',fun v H5 hv hs5 sx5=>?_⟩;have hl5:=sx5 _ _ nlps hlst;refine⟨lp,_,_,rfl,rfl,hl5,by rw[xF,xA];lia,?_⟩;refine⟨_,lp,ps ++ [.no v],none,0,0,rfl,⟨?_,fun p hp=>?_,?_,.inl ⟨?_,rfl⟩,trivial,trivial⟩,by rw[xD,yL];lia,flp,ups hs5 hl5,upx (sx'.trans sx5)⟩
   ·rw[Zg,xM];show some (HO.lst (V.str q.1::ps.map ptV ++ [V.int v]))=some (HO.lst (V.str q.1::(ps.map ptV ++ [V.int v] ++ [])));rw[yM];rfl
   ·rcases xI.mp hp with y | y
    ·exact pr.ok p y
    ·rw[xO.mp y];exact hv
   ·rw[etk,DV,xM,pr.kd];rfl
   ·grind
  ·rw[ec] at etk;rw[ec];refine⟨_,rfl,rfl,_,rfl,Zu (fun z=>absurd z aA) (fun _=>?_)⟩;refine⟨_,rfl,rfl,_,rfl,Zu (fun z=>absurd z aA) (fun _=>?_)⟩;refine⟨_,rfl,_,rfl,_,rfl,s,la,na,names,rfl,hs',hna',nns,l0,l1,fun ra xa H5 hxa lxa fra kra hs5 sx5=>?_⟩;have hna5:=sx5 _ _ nns hna';refine⟨_,rfl,_,rfl,s,la,na,names,rfl,hs5,hna5,nns,l0,l1,fun rb xb H6 hxb lxb frb krb hs6 sx6=>?_⟩;have nra:ra≠s:=(hs'.ne fra).1;have kra6:=sx6 _ _ nra kra;have nab:ra≠rb:=fun z=>by rw[z] at kra;rw[kra] at frb;cases frb
   have hl6:=sx6 _ _ nlps (sx5 _ _ nlps hlst);refine⟨aB rfl,fun l7 hl7=>?_⟩;have S7:=ZC.new (o:=.lst [.ref ra,.ref rb]) hl7;have k7:(upd H6 l7 (.lst [.ref ra,.ref rb])) l7=some (.lst [.ref ra,.ref rb]):=Zg;generalize (upd H6 l7 (.lst [.ref ra,.ref rb]))=H7 at S7 k7 ⊢;refine⟨lp,l7,_,_,rfl,rfl,S7 _ _ hl6,k7,by rw[xF,xA];show ps.length+1+2<=sizeLine;lia,fun l8 hl8=>?_⟩;have S8:=ZC.new (o:=.lst ((V.str q.1::ps.map ptV)++[.ref ra,.ref rb])) hl8;have k8:(upd H7 l8 (.lst ((V.str q.1::ps.map ptV)++[.ref ra,.ref rb]))) l8=some (.lst ((V.str q.1::ps.map ptV)++[.ref ra,.ref rb])):=Zg;generalize (upd H7 l8 (.lst ((V.str q.1::ps.map ptV)++[.ref ra,.ref rb])))=H8 at S8 k8 ⊢;have S68:=S7.trans S8;have sx8:=((sx'.trans sx5).trans sx6).trans S7.x;refine⟨_,l8,ps,some (xa,xb),ra,rb,rfl,⟨k8,pr.ok,?_,.inr ⟨?_,(fun z=>nomatch z)⟩,⟨S68 _ _ kra6,S68 _ _ krb,nab⟩,⟨⟨fun y hy=>hnm y (hxa y hy),lxa⟩,⟨fun y hy=>hnm y (hxb y hy),lxb⟩⟩⟩,by lia,Lo (hs6.keep S7) sx8 hl8,hs6.keep S68,sx8.trans S8.x⟩
   ·rw[etk,DV,if_pos rfl,yM];exact pr.kd
   ·rw[etk];exact xJ _ (xO.mpr rfl)
 ·rintro σ H' ⟨v5,lp,ps,rw',ra,rb,rfl,pr,hpl,flp,hs',sx'⟩;have hfl:(cs q.2).take q.2.length=cs q.2:=by rw[← Z7,yI]
  obtain⟨h1,h2,h3,h4,h5,h6⟩:=pr;rw[hfl] at h3 h4;refine⟨_,rfl,lp,_,rfl,.inl ⟨ZF.of h1,fun p hp=>?_⟩⟩;have S:=ZC.new (o:=.tup (.str q.1::(ps.map ptV++Vu rw' ra rb))) hp;have kp:(upd H' p (.tup (.str q.1::(ps.map ptV++Vu rw' ra rb)))) p=some (.tup (.str q.1::(ps.map ptV++Vu rw' ra rb))):=Zg;generalize (upd H' p (.tup (.str q.1::(ps.map ptV++Vu rw' ra rb))))=H5 at S kp ⊢;refine k ⟨q.1,ps,rw'⟩ p ra rb H5 ⟨hw,h2,(by show ps.length<=10;lia),h6,?_⟩ ⟨kp,?_⟩ (hs'.keep S) (sx'.trans S.x)
  ·have ek:(ps.map fun p=>V.str (ptK p))=(Z9 (cs q.2)).map V.str:=by rw[← h3,List.map_map];rfl
   show (rw'=none/\∃t,Yz kP q.1=some t/\Yz kS q.1=none/\∀H,ZT K H t (ps.map fun p=>V.str (ptK p)))\/(rw'≠none/\Yz kP q.1=none/\∃t,Yz kS q.1=some t/\∀H,ZT K H t (ps.map fun p=>V.str (ptK p)));rw[ek];rcases fms q hq with⟨z,hh⟩ | ⟨z,hh⟩
   ·rcases h4 with⟨_,y⟩ | ⟨y,_⟩
    ·exact .inl ⟨y,hh⟩
    ·exact absurd y z
   ·rcases h4 with⟨y,_⟩ | ⟨_,y⟩
    ·exact absurd z y
    ·exact .inr ⟨y,hh⟩
  ·cases rw' with
   | none=>trivial
   | some ab=>exact⟨S _ _ h5.1,S _ _ h5.2.1,h5.2.2⟩
end
theorem Ef(h:ws ≠ [])(x:Str):Str.join " " (ws ++ [x])=Str.join " " ws ++ " " ++ x:=by
 apply JA;rw[TK,Vk,Vk,TK];have e1:cs (" " : Str)= [32]:=aA
 rw[e1];have:∀as:List (List Nat),as ≠ []->jn (as ++ [cs x])=jn as ++ [32]++cs x:=by
  intro as
  induction as with
  | nil=>intro h;exact absurd rfl h
  | cons a r ih =>
   intro _;cases r with
   | nil=>show a++32::cs x=a ++ [32]++cs x;rw[yH];rfl
   | cons b r =>
    show a++32::jn ((b::r)++[cs x])=(a++32::jn (b::r))++[32]++cs x;rw[ih (by simp),yH,yH,yH];rfl
 rw[xM];exact this _ (by intro z;exact h (List.map_eq_nil_iff.mp z))
theorem HY:∀ws:List Str,(∀x∈ws,x.length<=12)->(Str.join " " ws).length<=13 * ws.length
 | [],_=>by decide
 | [x],h=>by have:=h x xQ;show x.length<=13 * 1;lia
 | x::y::r,h=>by
  have h1:=h x xQ;have h2:=HY (y::r) fun z hz=>h z (xG _ hz);show (x ++ " " ++ Str.join " " (y::r)).length<=_;rw[PySem.Str.length_append,PySem.Str.length_append,xF];have e:(" " : Str).length=1:=aA
  lia
theorem Le(h:Vf p):(ptS p).length<=12:=by
 cases p with
 | nm x=>exact h.2.2
 | no i=>have:=(Jr h).l9;show (num i).length<=12;lia
theorem Nk(h:WV K kP kS d):(∀x∈toks d,x.length<=12)/\(toks d).length<=43:=by
 have hl:=h.len;refine⟨fun x hx=>?_,?_⟩
 ·rcases xC.mp hx with rfl | hx
  ·have:=h.word.2.2;lia
  rcases xI.mp hx with hx | hx
  ·obtain⟨p,hp,rfl⟩:=yS.mp hx;exact Le (h.ps p hp)
  ·have hr:=h.rows;cases e:d.rows with
   | none=>rw[e] at hx;cases hx
   | some ab =>
    obtain⟨a,b⟩:=ab;rw[e] at hx hr;rcases xC.mp hx with rfl | hx
    ·decide +kernel
    rcases xI.mp hx with hx | hx
    ·exact(hr.1.1 x hx).2.2
    rcases xC.mp hx with rfl | hx
    ·decide +kernel
    ·exact(hr.2.1 x hx).2.2
 ·have hr:=h.rows;unfold toks;rw[xF,xD,xA];cases e:d.rows with
  | none=>show d.ps.length+0+1<=43;lia
  | some ab =>
   obtain⟨a,b⟩:=ab;rw[e] at hr;have:=hr.1.2;have:=hr.2.2;show d.ps.length+(("+" : Str)::(a++("-" : Str)::b)).length+1<=43;rw[xF,xD,xF];lia
theorem DZ(d:Dd):text d=Str.join " " (toks d):=StrLaws.glued_eq_join " " (toks d)
section
variable{K:uFg}{kP kS:List (Str×Tok×eZ)}
theorem Cw:∀ns:List Str,ZN H (ns.map D.str) (ns.map V.str)
 | []=>rfl
 | n::ns=>⟨.str n,ns.map V.str,rfl,rfl,Cw ns⟩
def ptD:Pt->D
 | .nm x=>.str x
 | .no i=>.int i
theorem HI(p:Pt):YH H (ptD p) (ptV p):=by cases p<;>rfl
theorem eG(p:Pt):isI (ptD p) "list" = false:=by cases p<;>rfl
def E7:Option (List Str×List Str)->List (List Str)
 | none=>[]
 | some (a,b)=>[("+" : Str)::a,("-" : Str)::b]
def pcs(d:Dd):List (List Str):=d.ps.map (fun p=>[ptS p])++E7 d.rows
theorem GZ(d:Dd):d.w::(pcs d).flatten=toks d:=by
 unfold pcs toks;rw[List.flatten_append];have e1:(d.ps.map fun p=>[ptS p]).flatten=d.ps.map ptS:=by
  induction d.ps with
  | nil=>rfl
  | cons p r ih=>rw[xW,zP,ih];rfl
 rw[e1];cases d.rows with
 | none=>rfl
 | some ab=>obtain⟨a,b⟩:=ab;simp[E7,BF]
theorem Nh(x:Str):x ++ " +" = x ++ " " ++ "+" := by
 apply JA;rw[Vk,Vk,Vk,yH];have:cs (" +" : Str)=cs (" " : Str)++cs ("+" : Str):=aA
 rw[this]
theorem MJ(x:Str):x ++ " -" = x ++ " " ++ "-" := by
 apply JA;rw[Vk,Vk,Vk,yH];have:cs (" -" : Str)=cs (" " : Str)++cs ("-" : Str):=aA
 rw[this]
theorem BG(h:WV K kP kS d)(hp:ws <+: toks d):(Str.join " " ws).length<=600:=by
 obtain⟨r,e⟩:=hp;obtain⟨h1,h2⟩:=Nk h;have h3:=HY ws fun x hx=>h1 x (by rw[← e];exact yQ _ hx);have h4:ws.length<=(toks d).length:=by rw[← e,xD];lia
 lia
theorem DU(d:Dd)(i:Nat):d.w::((pcs d).take i).flatten <+: toks d:=by
 refine⟨((pcs d).drop i).flatten,?_⟩;rw[xX,← List.flatten_append,zU,GZ]
inductive WD(K:uFg)(kP kS:List (Str×Tok×eZ))(vs:aG)(H:Hp)(Q:VK)(z3:XK):Prop
 |mk(d) (p ra rb)(_:vs = [.ref p])(_:Uz H d p ra rb)(_:WV K kP kS d)(_:∀H',ZC H H'->Q (.str (text d)) H')
abbrev Ge:Stmt:=top 106
theorem Rc(Zjd:YA K mg "_law_shown" Ge)(T:Txt mg):Fn P w K mg base "_law_shown" ["_law_deed"] 1 (WD K kP kS):=by
 refine Zjd.fq ["_law_deed","_law_text","_law_sign","_law_part","_law_name"] fun H vs Q E hr h=>?_;obtain⟨d,p,ra,rb,rfl,⟨hp,htl⟩,ok,k⟩:=h;refine⟨rfl,_,(Ze (Zv 1 (Zq Ys Q0 Zf (fun _ _=>rfl))) (Ze (Zv 2 Zh) (Ze (Wz PassesOwn.never rfl (Hv (Yq Ol Q0 (Ym Zf) Yw)) (Y7 3) (Zd (Zm (Vc (Zx Uf T.isinstance Vw (Za Q8 (Za (Vx (v:=.ty "list") T.list Jq rfl) Zb)))) (Ze (Zv 1 (Zr We Q6 Q7)) (Ze (Zv 2 Zh) (Zd (Wz PassesOwn.never rfl (Vl Q8) (Y7 4) (Zd (Zv 1 (Zr We (Zr We Q6 Zh) Q9))))))) (Zd (Zv 1 (Zr We (Zr We Q6 Zh) (Vy L6 T.str Dq (Za Q8 Zb)))))))) (Zd (Zn Q6))))),?_⟩;have hZ:(5000:Nat)<=sizeLine:=by decide
 have hps:=ok.len;refine⟨_,rfl,p,_,0,.str d.w,rfl,rfl,ZT.of hp,Yb (j:=0) rfl,?_⟩;refine Z4 ?_;dsimp only [Zw];refine Z4 ?_;dsimp only [Zw];refine⟨_,rfl,_,rfl,p,_,rfl,ZT.of hp,(fun z=>by have:=z.1;rw[show (1:Int)=((1:Nat):Int) from rfl,HT.sIx_nat,xF] at this;lia),fun q hq=>?_⟩;have ec:Yl (V.str d.w::(d.ps.map ptV++Vu d.rows ra rb)) (some 1) none=d.ps.map ptV++Vu d.rows ra rb:=Bm _ 1 (by rw[xF];lia);rw[ec];refine nw (o:=.tup (d.ps.map ptV++Vu d.rows ra rb)) hq fun H1 Sq kq=>?_;refine⟨q,rfl,⟨_,ZT.of kq⟩,?_⟩;refine Xw (d.ps.map ptV++Vu d.rows ra rb) (fun i σ H'=>∃(v3 v4:Option V),σ = [some (.ref p),some (.str (Str.join " " (d.w::((pcs d).take i).flatten))),some (.str (if i<=d.ps.length then " +" else " -")),v3,v4]/\ZC H1 H') ⟨none,none,rfl,ZC.refl _⟩ (fun i σ H' _ ⟨_,_,_,e⟩=>ZT.of (e _ _ kq)) ?_ ?_
 ·rintro i v σ H' hv ⟨v3,v4,rfl,sm⟩;have s1:(" " : Str).length=1:=aA
  have nx:∀{c:eS},(pcs d)[i]? = some c->((pcs d).take (i+1)).flatten=((pcs d).take i).flatten++c:=fun {c} h=>by rw[yD,h,List.flatten_append];simp
  have b0:=BG ok (DU d i);have b1:=BG ok (DU d (i+1))
  by_cases hi:i < d.ps.length
  ·rw[zM (by rw[xA];exact hi),xK] at hv;obtain⟨pt,hpt,rfl⟩:=xS.mp hv;have hc:(pcs d)[i]? = some [ptS pt]:=by unfold pcs;rw[zM (by rw[xA];exact hi),xK,hpt];rfl
   have e:=nx hc;have ej:Str.join " " (d.w::((pcs d).take (i+1)).flatten)=Str.join " " (d.w::((pcs d).take i).flatten)++" " ++ ptS pt:=by rw[e,← xX];exact Ef (by simp) _
   obtain⟨t1,ty1,e1⟩:=isi (K:=K) (HI (H:=H') pt) "list" aA;rw[eG] at e1;refine⟨_,rfl,ptV pt, "list", t1,_,rfl,ty1,e1,_,rfl,Zy ?_⟩;rw[ej] at b1;rw[PySem.Str.length_append,PySem.Str.length_append] at b1;have hs:=Le (ok.ps pt (xN hpt));have i1:i<=d.ps.length:=by lia
   have i2:i+1<=d.ps.length:=by lia
   refine⟨_,rfl,_,_,rfl,rfl,by rw[s1];lia,_,rfl,?_⟩;cases pt with
   | nm x =>
    have hs:x.length<=12:=hs;exact .inl ⟨x,rfl,_,_,rfl,rfl,by rw[PySem.Str.length_append,s1];lia,some (.str x),v4,by rw[ej,if_pos i1,if_pos i2];rfl,sm⟩
   | no j =>
    have hs:(num j).length<=12:=hs;exact .inr ⟨j,rfl,GR (ok.ps _ (xN hpt)),_,_,rfl,rfl,by rw[PySem.Str.length_append,s1];show _+1+(num j).length<=_;lia,some (.int j),v4,by rw[ej,if_pos i1,if_pos i2];rfl,sm⟩
  ·rw[zW (by rw[xA];lia),xA] at hv;obtain⟨a,b,er⟩:∃a b,d.rows=some (a,b):=by
    cases e:d.rows with
    | none=>rw[e] at hv;cases hv
    | some ab=>exact⟨ab.1,ab.2,rfl⟩
   rw[er] at htl hv;obtain⟨hra,hrb,nab⟩:=htl;obtain⟨r,xs,sg,mk,hr,rfl,esg,ems,hc⟩:∃(r:eZ)(xs:eS)(sg mk:Str),H r=some (.lst (xs.map V.str))/\v = .ref r/\(if i<=d.ps.length then (" +" : Str) else " -")=sg/\(∀x:Str,x++sg=x ++ " " ++ mk)/\(pcs d)[i]? = some (mk::xs):=by
    have pc:∀j,(pcs d)[d.ps.length+j]? = (E7 d.rows)[j]?:=fun j=>by unfold pcs;rw[zW (by rw[xA];lia),xA,Nat.add_sub_cancel_left]
    by_cases e0:i=d.ps.length
    ·have:=pc 0;rw[er] at this;rw[e0,Nat.sub_self] at hv;cases hv;exact⟨ra,a, " +","+", hra,rfl,if_pos (by lia),Nh,by rw[e0];exact this⟩
    ·by_cases e1:i=d.ps.length+1
     ·have:=pc 1;rw[er] at this;rw[e1,Nat.add_sub_cancel_left] at hv;cases hv;exact⟨rb,b, " -","-", hrb,rfl,if_neg (by lia),MJ,by rw[e1];exact this⟩
     ·rw[zV (by show 2<=i - d.ps.length;lia)] at hv;cases hv
   have e:=nx hc;obtain⟨t1,ty1,e1⟩:=isi (K:=K) (d:=.lst (xs.map D.str)) (v:=.ref r) (H:=H') ⟨r,_,rfl,sm _ _ (Sq _ _ hr),Cw _⟩ "list" aA;rw[show isI (D.lst (xs.map D.str)) "list" = true from rfl] at e1;refine⟨_,rfl,.ref r, "list", t1,_,rfl,ty1,e1,_,rfl,Z2 ?_⟩;rw[esg];have ej0:Str.join " " (d.w::((pcs d).take i).flatten)++sg=Str.join " " ((d.w::((pcs d).take i).flatten)++[mk]):=by rw[ems];exact(Ef (by simp) _).symm
   have pf:∀j,(d.w::((pcs d).take i).flatten)++(mk::xs.take j) <+: toks d:=fun j=>by
    refine List.IsPrefix.trans ?_ (DU d (i+1));rw[e,← xX];refine⟨xs.drop j,?_⟩;rw[yH,show (mk::xs.take j)++xs.drop j=mk::(xs.take j++xs.drop j) from rfl,zU]
   have sgl:sg.length<=2:=by rw[← esg];split<;>decide +kernel
   refine⟨_,rfl,_,rfl,_,_,rfl,rfl,by lia,?_⟩;rw[ej0];refine Z4 ?_;dsimp only [Zw];refine Z4 ?_;dsimp only [Zw];have hr':=sm _ _ (Sq _ _ hr);refine⟨_,rfl,r,rfl,⟨_,ZF.of hr'⟩,?_⟩;refine Af (xs.map V.str) (fun j σ H2=>∃(v4:Option V),σ = [some (.ref p),some (.str (Str.join " " ((d.w::((pcs d).take i).flatten)++(mk::xs.take j)))),some (.str " -"),some (.ref r),v4]/\ZC H1 H2) ⟨v4,rfl,sm⟩ (fun j σ H2 _ ⟨_,_,s2⟩=>ZF.of (s2 _ _ (Sq _ _ hr))) ?_ ?_
   ·rintro j y σ H2 hy ⟨w4,rfl,s2⟩;rw[xK] at hy;obtain⟨x,hx,rfl⟩:=xS.mp hy;have bj:=BG ok (pf j);have bj1:=BG ok (pf (j+1));have ej:Str.join " " ((d.w::((pcs d).take i).flatten)++(mk::xs.take (j+1)))=Str.join " " ((d.w::((pcs d).take i).flatten)++(mk::xs.take j))++" " ++ x:=by
     rw[yD,hx,show mk::(xs.take j++(some x).toList)=(mk::xs.take j)++[x] from rfl,← yH];exact Ef (by simp) _
    have bx:=bj1;rw[ej,PySem.Str.length_append,PySem.Str.length_append] at bx;refine⟨_,rfl,_,_,rfl,rfl,by rw[s1];lia,_,rfl,_,_,rfl,rfl,by rw[PySem.Str.length_append,s1];lia,some (.str x),by rw[ej];rfl,s2⟩
   ·grind
 ·rintro σ H' ⟨v3,v4,rfl,sm⟩;have el:(d.ps.map ptV++Vu d.rows ra rb).length=(pcs d).length:=by
   unfold pcs;rw[xD,xD,xA,xA];cases d.rows<;>rfl
  rw[el,yI,GZ,← DZ];exact⟨_,rfl,k _ (Sq.trans sm)⟩
end
def nmV(x:Str):V:=if Yt x=true then .str x else .non
def noV(x:Str):V:=if Y0 x=true then .int ((PySem.intText? x).getD 0) else .non
def ptW(k x:Str):V:=if k = "name" then nmV x else noV x
theorem NT(h:Uy k x p):ptW k x=ptV p:=by
 obtain⟨e,hk,o⟩:=h;unfold ptW;cases p with
 | nm y =>
  have e:y=x:=e;have hk:("name" : Str)=k:=hk;subst e hk;rw[if_pos rfl,nmV,if_pos (Da o)];rfl
 | no i =>
  have e:num i=x:=e;have hk:("number" : Str)=k:=hk;subst e hk;rw[if_neg aA,noV,if_pos (EA (Jr o)),AA o];rfl
theorem Ow{k x:Str}(hk:k = "name" \/ k = "number")(h:∀p,¬Uy k x p):ptW k x = .non:=by
 unfold ptW;rcases hk with rfl | rfl
 ·rw[if_pos rfl,nmV];cases hb:Yt x with
  | true=>exact absurd (pt_name.1 hb) (h _)
  | false=>rfl
 ·rw[if_neg aA,noV];cases hb:Y0 x with
  | true=>obtain⟨i,_,_,hp⟩:=pt_num.1 hb;exact absurd hp (h _)
  | false=>rfl
theorem Xu(k x:Str):Tx H (ptW k x):=by
 unfold ptW nmV noV;split
 ·split
  ·exact .inr (.inl ⟨_,rfl⟩)
  ·exact .inl rfl
 ·split
  ·exact .inr (.inr (.inl ⟨_,rfl⟩))
  ·exact .inl rfl
theorem LB(x:Str):(V.str x=V.str "")↔x.length=0:=by
 constructor
 ·intro e;have e:x = "" := by injection e
  rw[e];decide +kernel
 ·intro h
  have:x = "" := JA (by
   have h1:(cs x).length=0:=by rw[Z7];exact h
   rw[List.eq_nil_of_length_eq_zero h1];decide +kernel)
  rw[this]
theorem Cu(hi:i < x.length)(h:p (x.cps.getD i 0)=false):(cs x).all p=false:=by
 rw[List.all_eq_false];exact⟨_,xN (Uc hi),by rw[h];decide⟩
theorem KB(hi:i < x.length)(h:p (x.cps.getD i 0)=true)(ha:((cs x).take i).all p=true):((cs x).take (i+1)).all p=true:=by
 rw[yD,Uc hi,List.all_append,ha];show (true && (p _ && true))=true;rw[h];rfl
inductive Tb(vs:aG)(H:Hp)(Q:VK)(z3:XK):Prop
 |mk(x)(_:vs = [.str x])(_:x.length<=100000)(_:Q (noV x) H)
abbrev HZ:Stmt:=top 107
theorem OU(Zje:YA K mg "_law_read_number" HZ)(T:Txt mg):Fn P w K mg base "_law_read_number" ["_law_word_here"] 1 Tb:=by
 refine Zje.fq ["_law_word_here","_law_sign"] fun H vs Q E hr h=>?_;obtain⟨x,rfl,hx,k⟩:=h;refine⟨rfl,_,(Ze (Zm (QW.pt (TX (Zl Yc Q0 Zh (Zp _)) (TX (Zl BB (Zx Ue T.len Z8 (Za Q0 Zb)) Zf (Zp _)) (JK (QW.pt (Uj (Zl Yc (Zq JL Q0 Zf (fun _ _=>rfl)) Zh (Zp _)) (U5 (Zl TH Q0 Zh (Zp _))))))))) (Zd (Zn Yi)) Zo) (Ze (Wz PassesOwn.never rfl (AC Q0) (Y7 1) (Zd (Zm (Vr (QW.pt (Uj (Zl J3 Zh Q6 (Zp _)) (U5 (Zl J3 Q6 Zh (Zp _)))))) (Zd (Zn Yi)) Zo))) (Zd (Zn (Vy Ld T.int CH (Za Q0 Zb)))))),?_⟩;have hz:(100000:Nat)<=sizeLine:=by decide
 have bad:Y0 x=false->Q .non H:=fun e=>by unfold noV at k;rw[e,if_neg xR] at k;exact k
 refine Ck (fun σ H'=>σ = [some (.str x),none]/\H'=H/\1<=x.length/\x.length<=9/\(x = "0" \/ x.cps.getD 0 0≠48)) ?_ (fun D' hn hrt _ _=>?_)
 ·rintro σ H0 ⟨rfl,rfl,hl1,hl9,hzero⟩;refine⟨_,rfl,x,rfl,?_⟩;refine CY (fun i σ H'=>(∃v,σ = [some (.str x),v])/\H'=H0/\((cs x).take i).all okd=true) ⟨⟨none,rfl⟩,rfl,rfl⟩ ?_ ?_
  ·rintro i σ H' hi ⟨⟨v,rfl⟩,rfl,ha⟩;refine⟨_,rfl,_,_,rfl,rfl,_,rfl,?_⟩;rw[le0];refine Zu (fun h3=>?_) (fun h3=>?_)
   ·refine⟨_,rfl,_,_,rfl,rfl,_,rfl,?_⟩;rw[le9];refine Wd (fun h4=>?_) (fun h4=>?_)
    ·exact bad (by unfold Y0;rw[Cu hi (by unfold okd;rw[yC h4,zB]),zB,yE])
    ·exact⟨⟨_,rfl⟩,rfl,KB hi (by unfold okd;rw[xZ h3,xZ h4];rfl) ha⟩
   ·refine Z2 ?_;exact bad (by unfold Y0;rw[Cu hi (by unfold okd;rw[yC h3,yE]),zB,yE])
  ·rintro σ H' ⟨⟨v,rfl⟩,rfl,ha⟩;rw[← Z7,yI] at ha;have hok:WY x:=⟨by lia,by lia,fun c hc=>by have:=yW.mp ha c hc;simpa [okd] using this,hzero⟩;obtain⟨i,hi,rfl⟩:=LC hok;unfold noV at k;rw[EA hok,if_pos rfl,AA hi] at k;exact⟨_,rfl,num i,i,rfl,AA hi,by lia,k⟩
 refine⟨_,rfl,rfl,_,rfl,Zu (fun h0=>?_) (fun h0=>?_)⟩
 ·rw[LB] at h0;exact hrt _ _ (bad (by unfold Y0;rw[yC (show ¬ 1<=x.length by lia),yE,yE,yE]))
 rw[LB] at h0;refine⟨_,rfl,x,rfl,by lia,_,_,rfl,rfl,_,rfl,Zu (fun h9=>?_) (fun h9=>?_)⟩
 ·exact hrt _ _ (bad (by unfold Y0;rw[yC (show ¬x.length<=9 by lia),zB,yE,yE]))
 have h00:(x.cps.toList)[0]? = some (x.cps.getD 0 0):=Uc (by lia);refine⟨_,rfl,x,0,x.cps.getD 0 0,rfl,rfl,by lia,Yb (j:=0) h00,rfl,_,rfl,?_⟩;rw[decide_eq_decide.mpr (eq0 x (by lia))];refine Zu (fun h5=>?_) (fun h5=>Zy (hn _ _ ⟨rfl,rfl,by lia,by lia,.inr h5⟩));refine⟨_,rfl,rfl,_,rfl,Wd (fun z=>?_) (fun z=>hn _ _ ⟨rfl,rfl,by lia,by lia,.inl (by injection z)⟩)⟩;exact hrt _ _ (bad (by unfold Y0;rw[yC (fun e:x = "0" => z (by rw[e])),xZ h5];exact zB _))
inductive WX(vs:aG)(H:Hp)(Q:VK)(z3:XK):Prop
 |mk(x)(_:vs = [.str x])(_:x.length<=100000)(_:Q (nmV x) H)
abbrev KU:Stmt:=top 108
theorem Nx(Zjf:YA K mg "_law_read_name" KU)(T:Txt mg):Fn P w K mg base "_law_read_name" ["_law_word_here"] 1 WX:=by
 refine Zjf.fq ["_law_word_here","_law_sign"] fun H vs Q E hr h=>?_;obtain⟨x,rfl,hx,k⟩:=h;refine⟨rfl,_,(Ze (Wz PassesOwn.never rfl (AC Q0) (Y7 1) (Zd (Zm (Vr (QW.pt (Uj (Zl J3 Zh Q6 (Zp _)) (U5 (Zl J3 Q6 Zh (Zp _)))))) (Zd (Zn Yi)) Zo))) (Ze (Zm (QW.pt (TX (Zl Ua (Zx Ue T.len Z8 (Za Q0 Zb)) Zf (Zp _)) (JK (Zl BB (Zx Ue T.len Z8 (Za Q0 Zb)) Zf (Zp _))))) (Zd (Zn Yi)) Zo) (Zd (Zn Q0)))),?_⟩;have hz:(100000:Nat)<=sizeLine:=by decide
 have bad:Yt x=false->Q .non H:=fun e=>by unfold nmV at k;rw[e,if_neg xR] at k;exact k
 refine⟨_,rfl,x,rfl,?_⟩;refine CY (fun i σ H'=>(∃v,σ = [some (.str x),v])/\H'=H/\((cs x).take i).all okc=true) ⟨⟨none,rfl⟩,rfl,rfl⟩ ?_ ?_
 ·rintro i σ H' hi ⟨⟨v,rfl⟩,rfl,ha⟩;refine⟨_,rfl,_,_,rfl,rfl,_,rfl,?_⟩;rw[leA];refine Zu (fun h3=>?_) (fun h3=>?_)
  ·refine⟨_,rfl,_,_,rfl,rfl,_,rfl,?_⟩;rw[leZ];refine Wd (fun h4=>?_) (fun h4=>?_)
   ·exact bad (by unfold Yt;rw[Cu hi (by unfold okc;rw[yC h4,zB]),zB])
   ·exact⟨⟨_,rfl⟩,rfl,KB hi (by unfold okc;rw[xZ h3,xZ h4];rfl) ha⟩
  ·refine Z2 ?_;exact bad (by unfold Yt;rw[Cu hi (by unfold okc;rw[yC h3,yE]),zB])
 ·rintro σ H' ⟨⟨v,rfl⟩,rfl,ha⟩;rw[← Z7,yI] at ha;refine⟨_,rfl,x,rfl,by lia,_,_,rfl,rfl,_,rfl,Zu (fun h1=>?_) (fun h1=>?_)⟩
  ·exact bad (by unfold Yt;rw[yC (show ¬ 1<=x.length by lia),yE,yE])
  ·refine⟨_,rfl,x,rfl,by lia,_,_,rfl,rfl,_,rfl,Zu (fun h2=>?_) (fun h2=>?_)⟩
   ·exact bad (by unfold Yt;rw[yC (show ¬x.length<=12 by lia),zB,yE])
   ·unfold nmV at k;rw[show Yt x=true by unfold Yt;rw[ha,xZ (show 1<=x.length by lia),xZ (show x.length<=12 by lia)];rfl,if_pos rfl] at k;exact⟨_,rfl,k⟩
inductive WU(vs:aG)(H:Hp)(Q:VK)(z3:XK):Prop
 |mk(a) (x)(_:vs = [.str ⟨#[a]⟩,.str x])(_:x.length<=100000)(_:Q (ptW (kdC a) x) H)
theorem SN(a:Nat):(V.str ⟨#[a]⟩=V.str "a")↔a=97:=by
 constructor
 ·intro e;have e1:(⟨#[a]⟩:Str)= "a" := by injection e
  have e2:(⟨#[a]⟩:Str).cps.toList = [97]:=by rw[e1];decide +kernel
  simpa using e2
 ·intro e;rw[e];decide +kernel
abbrev GN:Stmt:=top 109
theorem XH(Zjg:YA K mg "_law_read_part" GN)(Zfa:Fn P w K mg base "_law_read_name" ["_law_word_here"] 1 WX)(Z1t:Fn P w K mg base "_law_read_number" ["_law_word_here"] 1 Tb):Fn P w K mg base "_law_read_part" ["_law_sign","_law_word_here"] 2 WU:=by
 refine Zjg.fq ["_law_sign","_law_word_here"] fun H vs Q E hr h=>?_;obtain⟨a,x,rfl,hx,k⟩:=h;refine⟨rfl,_,(Ze (Zm (Zl Yc Q0 Zh (Zp _)) (Zd (Zn (Zs Zfa (Za Q6 Zb)))) Zo) (Zd (Zn (Zs Z1t (Za Q6 Zb))))),?_⟩;refine⟨_,rfl,rfl,_,rfl,?_⟩;unfold ptW kdC at k;rw[decide_eq_decide.mpr (SN a)];refine Zu (fun h=>?_) (fun h=>?_)
 ·rw[if_pos h,if_pos rfl] at k;exact⟨_,rfl,x,rfl,hx,k⟩
 ·rw[if_neg h,if_neg aA] at k;exact⟨_,rfl,x,rfl,hx,k⟩
theorem KQ(as:eS):(as.map nmV).any TY = !as.all Yt:=by
 induction as with
 | nil=>rfl
 | cons x r ih =>
  rw[xW,zR,List.all_cons,ih];unfold nmV;cases Yt x<;>rfl
theorem KN{as:eS}(h:as.all Yt=true):as.map nmV=as.map V.str:=by
 refine List.map_congr_left fun x hx=>?_;unfold nmV;rw[yW.mp h x hx,if_pos rfl]
theorem all_nm{as:eS}:as.all Yt=true↔∀x∈as,Z0 x:=by
 rw[yW];exact⟨fun h x hx=>Lf (h x hx),fun h x hx=>Da (h x hx)⟩
theorem Kw(as:eS):∀v∈as.map nmV,Tx H v:=fun v hv=>by
 obtain⟨x,_,rfl⟩:=yS.mp hv;unfold nmV;split
 ·exact .inr (.inl ⟨_,rfl⟩)
 ·exact .inl rfl
inductive VC(vs:aG)(H:Hp)(Q:VK)(z3:XK):Prop
 |mk(a) (ws)(_:vs = [.ref a])(_:H a=some (.lst (ws.map V.str)))(_:(∀x∈ws,x.length<=100000))(_:ws.length<=100000)(_:(∀as bs l ra rb H',ws=("+" : Str)::(as++("-" : Str)::bs)->(∀x∈as,Z0 x)->(∀x∈bs,Z0 x)->H' l=some (.lst [.ref ra,.ref rb])->H' ra=some (.lst (as.map V.str))->H' rb=some (.lst (bs.map V.str))->ra≠rb->ZC H H'->Q (.ref l) H'))(_:((∀as bs,ws=("+" : Str)::(as++("-" : Str)::bs)->(∀x∈as,Z0 x)->(∀x∈bs,Z0 x)->False)->∀H',ZC H H'->Q .non H'))
abbrev BQ:Stmt:=top 110
theorem L7:ZL ["_law_words","_law_cut","_law_ones","_law_others"] ["_law_words"] (Zj BQ):=fsc
theorem NX:Nm (Zj BQ) "_law_ones" .local:=aA
theorem Xx:Nm (Zj BQ) "_law_others" .local:=aA
theorem OA(Zjh:YA K mg "_law_read_sides" BQ)(T:Txt mg)(Zfa:Fn P w K mg base "_law_read_name" ["_law_word_here"] 1 WX):Fn P w K mg base "_law_read_sides" ["_law_words"] 2 VC:=by
 refine Zjh.fq ["_law_words","_law_cut","_law_ones","_law_others"] fun H vs Q E hr h=>?_;obtain⟨a,ws,rfl,ha,hx,hlen,kq,kn⟩:=h
 refine⟨rfl,_,(Ze (Zm (QW.pt (TX (Zl Ua (Zx Yx T.len Z8 (Za Q0 Zb)) Zf (Zp _)) (TX (Zl TH (Zq Z3 Q0 Zf (fun _ _=>rfl)) Zh (Zp _)) (JK (Zl Dp Zh Q0 rfl))))) (Zd (Zn Yi)) Zo) (Ze (Zv 1 (Y6 aD F.slot_list_index F.type_list_index IW Q0 (Za Zh Zb))) (Ze (Ed (locs:=["_law_word_here"]) (fr:=[]) ⟨rfl,aA,aA,aA,aA,aA⟩ .nil rfl (Vl (Yq Ws Q0 (Ym Zf) (Ym Q6))) ⟨fun _ _ _ _ _ _=>by
  have cnd:(inN ["_law_word_here"] []).Nodup:=aA
  exact⟨(Y4 0 cnd),Vn,(Zs Zfa (Za (Y3 0) Zb) (n:=nmC))⟩⟩ L7.nd NX (by rfl) (i:=2))
 (Ze (Ed (locs:=["_law_word_here"]) (fr:=[]) ⟨rfl,aA,aA,aA,aA,aA⟩ .nil rfl (Vl (Yq Ws Q0 (Ym (Zr Wb Q6 Zf)) Yw)) ⟨fun _ _ _ _ _ _=>by
  have cnd:(inN ["_law_word_here"] []).Nodup:=aA
  exact⟨(Y4 0 cnd),Vn,(Zs Zfa (Za (Y3 0) Zb) (n:=nmC))⟩⟩ L7.nd Xx (by rfl) (i:=3))
 (Ze (Zm (QW.pt (TX (Zl (En hr) Yi Q7 rfl) (JK (Zl (En hr) Yi Q8 rfl)))) (Zd (Zn Yi)) Zo)
 (Zd (Zn (Yh (Za Q7 (Za Q8 Zb)))))))))),?_⟩
 have hz:(200000:Nat)<=sizeLine:=by decide
 refine Ck (fun σ H'=>σ = [some (.ref a),none,none,none]/\H'=H/\∃tl,ws=("+" : Str)::tl/\("-" : Str)∈tl) ?_ (fun D' hn hrt _ _=>?_)
 rotate_left
 ·refine⟨_,rfl,a,_,rfl,.inl (ZF.of ha),_,_,rfl,rfl,_,rfl,Zu (fun h2=>?_) (fun h2=>?_)⟩
  ·rw[xA] at h2;refine hrt _ _ (kn (fun as bs e _ _=>?_) H (ZC.refl _));rw[e,xF,xD,xF] at h2;lia
  rw[xA] at h2;obtain⟨w0,tl,rfl⟩:∃w0 tl,ws=w0::tl:=by
   cases ws with
   | nil=>exact absurd (show ((0:Nat):Int) < 2 by lia) h2
   | cons w0 tl=>exact⟨w0,tl,rfl⟩
  refine⟨_,rfl,a,_,0,.str w0,rfl,rfl,ZF.of ha,Yb (j:=0) rfl,rfl,_,rfl,Wd (fun hp=>?_) (fun hp=>?_)⟩
  ·refine hrt _ _ (kn (fun as bs e _ _=>hp ?_) H (ZC.refl _));injection e with e _
   rw[e]
  have hp:w0 = "+" := by injection hp
  subst hp;refine⟨_,rfl,a,_,rfl,.inl (ZF.of ha),rfl,Dr _,_,rfl,?_⟩;rw[if_pos rfl,C7]
  by_cases hm:("-" : Str)∈("+" : Str)::tl
  ·rw[xZ hm];refine Zy (hn _ _ ⟨rfl,rfl,tl,rfl,(xC.mp hm).resolve_left aA⟩)
  ·rw[yC hm];refine Z2 (hrt _ _ (kn (fun as bs e _ _=>hm ?_) H (ZC.refl _)));rw[e];exact xG _ (xJ _ xQ)
 rintro σ H0 ⟨rfl,rfl,tl,rfl,hm⟩;obtain⟨as,bs,rfl,na⟩:=CT hm;have np:("-" : Str)∉("+" : Str)::as:=fun z=>(xC.mp z).elim (fun y=>absurd y aA) na;obtain⟨i1,i2⟩:=HA (xs:=("+" : Str)::(as++("-" : Str)::bs)) (pre:=("+" : Str)::as) (post:=bs) rfl np;have hal:as.length+bs.length<=100000:=by rw[xF,xD,xF] at hlen;lia
 refine⟨_,rfl,.inl ⟨rfl,_,ZF.of ha⟩,a,_, "-", _,rfl,rfl,ZF.of ha,i1,i2,?_⟩;refine Z4 ?_;dsimp only [Zw];refine⟨_,rfl,_,rfl,_,rfl,_,rfl,a,_,rfl,ZF.of ha,fun l3 hl3=>?_⟩;have ea:Yl ((("+" : Str)::(as++("-" : Str)::bs)).map V.str) (some 1) (some ((("+" : Str)::as).length:Int))=as.map V.str :=
  Eh (pre:=[.str "+"]) (post:=(("-" : Str)::bs).map V.str) (by rw[xW,xM];rfl) rfl (by rw[xA,xF,yL];lia)
 rw[ea];refine nw (o:=.lst (as.map V.str)) hl3 fun H3 S3 k3=>?_;refine⟨l3,rfl,⟨_,ZF.of k3⟩,?_⟩;refine J9 (xs:=as.map V.str) (fun i ys H'=>H'=H3/\ys=(as.take i).map nmV) ⟨rfl,rfl⟩ (by rw[xA];lia) (fun i ys H' _ ⟨e,_⟩=>by rw[e];exact ZF.of k3) (fun i ys H' ⟨_,e⟩=>by rw[e,xA,xU];lia) ?_ ?_
 ·rintro i v ys H' hv ⟨rfl,rfl⟩ ls hls;obtain⟨w0,rfl⟩:=Uv hls;rw[xK] at hv;obtain⟨x,hxi,rfl⟩:=xS.mp hv;refine⟨⟨[_],rfl,rfl⟩,?_⟩;refine⟨_,rfl,x,rfl,hx x (xG _ (yQ _ (xN hxi))),rfl,?_⟩;rw[yD,hxi,xM];rfl
 rintro ys H' ⟨rfl,rfl⟩ l5 hl5;rw[xA,yI];refine nw (o:=.lst (as.map nmV)) hl5 fun H5 S5 k5=>?_;refine Z4 ?_;dsimp only [Zw];have S05:=S3.trans S5;refine⟨_,rfl,_,rfl,_,_,rfl,rfl,_,rfl,a,_,rfl,ZF.of (S05 _ _ ha),fun l6 hl6=>?_⟩;have eb:Yl ((("+" : Str)::(as++("-" : Str)::bs)).map V.str) (some (((("+" : Str)::as).length:Int)+1)) none=bs.map V.str :=
  A9 (pre:=(("+" : Str)::(as ++ [("-" : Str)])).map V.str) (by rw[← xM,xX,yH];rfl) (by rw[xA,xF,xF,xD,yL];lia)
 rw[eb];refine nw (o:=.lst (bs.map V.str)) hl6 fun H6 S6 k6=>?_;refine⟨l6,rfl,⟨_,ZF.of k6⟩,?_⟩;refine J9 (xs:=bs.map V.str) (fun i ys H'=>H'=H6/\ys=(bs.take i).map nmV) ⟨rfl,rfl⟩ (by rw[xA];lia) (fun i ys H' _ ⟨e,_⟩=>by rw[e];exact ZF.of k6) (fun i ys H' ⟨_,e⟩=>by rw[e,xA,xU];lia) ?_ ?_
 ·rintro i v ys H' hv ⟨rfl,rfl⟩ ls hls;obtain⟨w0,rfl⟩:=Uv hls;rw[xK] at hv;obtain⟨x,hxi,rfl⟩:=xS.mp hv;refine⟨⟨[_],rfl,rfl⟩,?_⟩;refine⟨_,rfl,x,rfl,hx x (xG _ (xJ _ (xG _ (xN hxi)))),rfl,?_⟩;rw[yD,hxi,xM];rfl
 rintro ys H' ⟨rfl,rfl⟩ l7 hl7;rw[xA,yI];refine nw (o:=.lst (bs.map nmV)) hl7 fun H7 S7 k7=>?_;refine Z4 ?_;dsimp only [Zw];have S57:=S6.trans S7;have k57:=S57 _ _ k5;have n57:l5≠l7:=fun z=>by rw[z] at k5;rw[S6 _ _ k5] at hl7;cases hl7
 have S07:=S05.trans S57;have bad:as.all Yt=false\/bs.all Yt=false->Q .non H7:=fun h=>by
  refine kn (fun as' bs' e h1 h2=>?_) H7 S07;obtain⟨e1,e2⟩:=Ab (x:="-") (p:=("+" : Str)::as) (p':=("+" : Str)::as') e np (fun z=>(xC.mp z).elim (fun y=>absurd y aA) (Dl h1));injection e1 with _ e1
  subst e1 e2;rw[all_nm.mpr h1,all_nm.mpr h2] at h;rcases h with h | h<;>cases h
 refine⟨_,rfl,rfl,l5,_,rfl,ZF.of k57,Kw as,_,rfl,?_⟩;rw[KQ];refine A8 (fun h=>bad (.inl h)) (fun h1=>?_);refine⟨_,rfl,rfl,l7,_,rfl,ZF.of k7,Kw bs,_,rfl,?_⟩;rw[KQ];refine A8 (fun h=>bad (.inr h)) (fun h2=>?_);rw[KN h1] at k57;rw[KN h2] at k7;refine⟨_,rfl,_,rfl,aB rfl,fun l8 hl8=>?_⟩;have S8:=ZC.new (o:=.lst [.ref l5,.ref l7]) hl8;exact kq as bs l8 l5 l7 _ rfl (all_nm.mp h1) (all_nm.mp h2) Zg (S8 _ _ k57) (S8 _ _ k7) n57 (S07.trans S8)
theorem MW:∀q∈fm10,cs (Txt.replace q.2 "+" "")=(cs q.2).filter (fun c=>c != 43):=by
 intro q hq;simp only[fm10,xC,xT,or_false] at hq;rcases hq with rfl | rfl | rfl | rfl | rfl | rfl | rfl | rfl | rfl | rfl<;>decide +kernel
theorem IL{ks ws:eS}{i:Nat}{k x:Str}(hk:ks[i]? = some k)(hx:ws[i]? = some x):List.zipWith ptW (ks.take (i+1)) (ws.take (i+1))=List.zipWith ptW (ks.take i) (ws.take i)++[ptW k x]:=by
 rw[← List.take_zipWith,← List.take_zipWith,yD,List.getElem?_zipWith,hk,hx];rfl
theorem Ee:∀{ks ws:eS},ks.length=ws.length->(∀k∈ks,k = "name" \/ k = "number")->(∃ps,isPs ks ws ps/\List.zipWith ptW ks ws=ps.map ptV)\/((∀ps,¬isPs ks ws ps)/\(List.zipWith ptW ks ws).any TY=true)
 | [],[],_,_=>.inl ⟨[],⟨rfl,rfl,(fun _ z=>nomatch z)⟩,rfl⟩
 | [],_::_,h,_=>nomatch h
 | _::_,[],h,_=>nomatch h
 | k::ks,x::ws,h,hk=>by
  rw[List.zipWith_cons_cons]
  by_cases hp:∃p,Uy k x p
  ·obtain⟨p,hp⟩:=hp;rw[NT hp];rcases Ee (ks:=ks) (ws:=ws) (by simpa using h) (fun k hk'=>hk k (xG _ hk')) with⟨ps,⟨h1,h2,h3⟩,e⟩ | ⟨hno,e⟩
   ·refine .inl ⟨p::ps,⟨by rw[xW,h1,hp.1],by rw[xW,h2,hp.2.1],fun q hq=>?_⟩,by rw[e];rfl⟩;rcases xC.mp hq with rfl | hq
    ·exact hp.2.2
    ·exact h3 q hq
   ·refine .inr ⟨fun ps hps=>?_,by rw[zR,e,Bool.or_true]⟩;obtain⟨h1,h2,h3⟩:=hps;cases ps with
    | nil=>cases h1
    | cons q ps =>
     rw[xW] at h1 h2;injection h1 with _ h1
     injection h2 with _ h2
     exact hno ps ⟨h1,h2,fun r hr=>h3 r (xG _ hr)⟩
  ·rw[Ow (hk k xQ) (fun p hp'=>hp ⟨p,hp'⟩)];exact .inr ⟨fun ps hps=>hp (hps.get (i:=0) rfl rfl),rfl⟩
theorem Ey(ps:List Pt):(ps.map ptV).any TY=false:=by
 rw[List.any_eq_false];intro v hv;obtain⟨p,_,rfl⟩:=yS.mp hv;cases p<;>exact xR
theorem Ic(ks ws:eS):∀v∈List.zipWith ptW ks ws,Tx H v:=fun v hv=>by
 obtain⟨i,hi⟩:=List.getElem?_of_mem hv;rw[List.getElem?_zipWith] at hi;cases h1:ks[i]? with
 | none=>rw[h1] at hi;cases hi
 | some k=>cases h2:ws[i]? with
  | none=>rw[h1,h2] at hi;cases hi
  | some x=>rw[h1,h2] at hi;cases hi;exact Xu k x
inductive UV(vs:aG)(H:Hp)(Q:VK)(z3:XK):Prop
 |mk(t)(_:vs = [.str t])(_:Yn 10000 t)(_:(∀d p ra rb H',Dk d->Txt.split t " " = toks d->Uz H' d p ra rb->ZC H H'->Q (.ref p) H'))(_:((∀d,Dk d->Txt.split t " " ≠ toks d)->∀H',ZC H H'->Q .non H'))
abbrev JR:Stmt:=top 111
theorem Fw:ZL ["_law_text","_law_words","_law_form_here","_law_plain","_law_rest","_law_parts","_law_sides"] ["_law_text"] (Zj JR):=fsc
theorem Sz:Nm (Zj JR) "_law_parts" .local:=aA
theorem XN:Nm (Zj JR) "_law_plain" .local:=aA
theorem bF:Nm (Zj JR) "_law_words" .local:=aA
theorem Xd:Nm (Zj JR) "zip" .globalImplicit:=aA
theorem QD(Zjj:YA K mg "_law_read" JR)(T:Txt mg)(Zjb:Fn P w K mg base "_law_form" ["_law_word_here"] 1 WT)(Zjk:Fn P w K mg base "_law_read_part" ["_law_sign","_law_word_here"] 2 WU)(Z1w:Fn P w K mg base "_law_read_sides" ["_law_words"] 2 VC):Fn P w K mg base "_law_read" ["_law_text"] 3 UV:=by
 refine Zjj.fq ["_law_text","_law_words","_law_form_here","_law_plain","_law_rest","_law_parts","_law_sides"] fun H vs Q E hr h=>?_;obtain⟨t,rfl,ht,kq,kn⟩:=h
 refine⟨rfl,_,(NN (Sy (i:=1) Fw.nd bF F.plainAttrs_str F.slot_str_split F.type_str_split Bo Q0) (Jn (QS.tk (Zv 2 (Zs Zjb (Za (Zq Z3 Q6 Zf (fun _ _=>rfl)) Zb)))) (Jn (QS.tk (Zm (Zl BN Q7 Yi (Zp _)) (Zd (Zn Yi)) Zo)) (Jn (X0 (i:=3) Fw.nd XN Q7 aA aA)
 (Jn (QS.tk (Zv 4 (Yq Ws Q6 (Ym (Zr Wb Zf (Zx Ue T.len Z8 (Za Q8 Zb)))) Yw)))
 (Jn (QS.tk (Zm (QW.pt (TX (Zl Ua (Zx Yx T.len Z8 (Za Q6 Zb)) (Zr Wb Zf (Zx Ue T.len Z8 (Za Q8 Zb))) (Zp _)) (JK (QW.pt (Uj (Zl Yc Q8 Q7 (Zp _)) (U5 (Zl BB (Zx Yx T.len Z8 (Za Q9 Zb)) Zf (Zp _)))))))) (Zd (Zn Yi)) Zo))
 (Jn (QS.tk (Ed (locs:=["_law_sign","_law_word_here"]) (fr:=[]) ⟨rfl,aA,aA,aA,aA,aA⟩ .nil rfl (HJ Xd.1 T.zip (Za Q8 (Za (Yq Ws Q6 (Ym Zf) Yw) Zb))) ⟨fun _ _ _ _ _ _=>by
  have cnd:(inN ["_law_sign","_law_word_here"] []).Nodup:=aA
  exact⟨(A6 2 (by rfl) (Va (Y4 0 cnd) (Va (Y4 1 cnd) Jv))),Vn,(Zs Zjk (Za (Y3 0) (Za (Y3 1) Zb)) (n:=nmC))⟩⟩ Fw.nd Sz (by rfl) (i:=5)))
 (Jn (QS.tk (Zm (Zl TH Q8 Q7 (Zp _)) (Ze (Zv 6 (Zs Z1w (Za Q9 Zb)))
 (Ze (Zm (Zl BN Qb Yi (Zp _)) (Zd (Zn Yi)) Zo)
 (Zd (Zv 5 (Zr Wr Qa Qb))))) Zo))
 (Jn (QS.tk (Zm (Zl (En hr) Yi Qa rfl) (Zd (Zn Yi)) Zo))
 (YS.tk (Zd (Zn (Vy B3 T.tuple JD (Za (Zr Wr (Yh (Za (Zq Z3 Q6 Zf (fun _ _=>rfl)) Zb)) Qa) Zb)))))))))))))),?_⟩
 have hz:(200000:Nat)<=sizeLine:=by decide
 obtain⟨x,rest,es,hwd,hlr⟩:=B9 ht (xH _);have hl0:=ht.1;refine⟨_,rfl,rfl,t, " ", rfl,rfl,aA,by lia,fun l hl=>?_⟩;rw[es];rw[es] at kq kn;have S1:=ZC.new (o:=.lst ((x::rest).map V.str)) hl;have k1:(upd H l (.lst ((x::rest).map V.str))) l=some (.lst ((x::rest).map V.str)):=Zg;generalize (upd H l (.lst ((x::rest).map V.str)))=H1 at S1 k1 ⊢;refine Z4 ?_;dsimp only [Zw];refine⟨_,rfl,l,_,0,.str x,rfl,rfl,ZF.of k1,Yb (j:=0) rfl,x,rfl,fun H2 s2=>?_⟩;replace S1:=S1.trans s2;replace k1:=s2 _ _ k1;refine Z4 ?_;dsimp only [Zw];cases hf:Ww x with
 | none =>
  have e:fmR x = .non:=by unfold fmR;rw[hf]
  rw[e];exact⟨_,rfl,rfl,_,rfl,Zu (fun _=>kn (fun d hd e=>hd.known e hf) H2 S1) (fun z=>absurd rfl z)⟩
 | some f' =>
 have e:fmR x = .str f':=by unfold fmR;rw[hf]
 rw[e];refine⟨_,rfl,rfl,_,rfl,Zu (fun z=>nomatch z) (fun _=>?_)⟩;dsimp only [Zw];have hfm:=Bz hf;have hpl:=MW _ hfm;have hf6:=(Cy _ hfm).2.1;dsimp only at hpl hf6;refine⟨_,rfl,rfl,f',rfl,by lia,?_⟩;have epl:(Txt.replace f' "+" "" = f')↔43∉cs f':=by
  constructor
  ·grind
  ·intro hm;refine JA (hpl.trans (List.filter_eq_self.mpr fun c hc=>?_));have:c≠43:=fun z=>hm (z▸hc);simpa using this
 have eks:Z9 (cs f')=(cs (Txt.replace f' "+" "")).map kdC:=by rw[hpl];rfl
 generalize Txt.replace f' "+" "" = pl at hpl epl eks ⊢;have hpl6:pl.length<=6:=by rw[← Z7,hpl];exact yK (List.length_filter_le _ _) (by rw[Z7];exact hf6)
 have ekl:(Z9 (cs f')).length=pl.length:=by rw[eks,xA,Z7]
 have hkinds:=Dz (cs f');refine Z4 ?_;dsimp only [Zw];refine⟨_,rfl,_,rfl,pl,rfl,by lia,_,_,rfl,rfl,_,rfl,l,_,rfl,ZF.of k1,fun l4 hl4=>?_⟩;generalize ecut:Yl ((x::rest).map V.str) (some (1+(pl.length:Int))) none=rs;have S4:=ZC.new (o:=.lst rs) hl4;have k4:(upd H2 l4 (.lst rs)) l4=some (.lst rs):=Zg;generalize (upd H2 l4 (.lst rs))=H4 at S4 k4 ⊢;refine Z4 ?_;dsimp only [Zw];have S04:=S1.trans S4;have k14:=S4 _ _ k1;have ersn:pl.length<=rest.length->rs=(rest.drop pl.length).map V.str:=fun hn=>by
  rw[← ecut,show (1+(pl.length:Int))=((1+pl.length:Nat):Int) by lia,Bm _ _ (by rw[xA,xF];lia),← List.map_drop,Nat.add_comm 1 pl.length,List.drop_succ_cons]
 refine Ck (fun σ H'=>σ = [some (.str t),some (.ref l),some (.str f'),some (.str pl),some (.ref l4),none,none]/\H'=H4/\pl.length<=rest.length/\(43∉cs f'->rest.length=pl.length)) ?_ (fun D' hn' hrt _ _=>?_)
 rotate_left
 ·refine⟨_,rfl,l,_,rfl,.inl (ZF.of k14),_,rfl,pl,rfl,by lia,_,_,rfl,rfl,_,_,rfl,rfl,_,rfl,Zu (fun hlt=>?_) (fun hlt=>?_)⟩
  ·rw[xA,xF] at hlt;refine hrt _ _ (kn (fun d hd e=>?_) H4 S04);injection e with ew er
   obtain⟨f2,g1,g2,_⟩:=hd.f;rw[← ew,hf] at g1;cases g1;have h1:=congrArg List.length g2;have h2:=congrArg List.length er;rw[xA,ekl] at h1;rw[xD,xA] at h2;lia
  rw[xA,xF] at hlt;have hn:pl.length<=rest.length:=by lia
  have k4:=k4;rw[ersn hn] at k4;refine⟨_,rfl,_,rfl,rfl,_,rfl,Zu (fun he=>?_) (fun he=>?_)⟩
  ·have he:pl=f':=by injection he
   refine⟨_,rfl,l4,_,rfl,.inl (ZF.of k4),_,_,rfl,rfl,_,rfl,Zu (fun hg=>?_) (fun hg=>?_)⟩
   ·rw[xA,zC] at hg;refine hrt _ _ (kn (fun d hd e=>?_) H4 S04);obtain⟨_,i1,i2,_⟩:=hd.plain e hf (epl.mp he);have h1:=congrArg List.length i1;have h2:=congrArg List.length i2;rw[xA] at h1 h2;rw[ekl] at h2;lia
   ·rw[xA,zC] at hg;exact hn' _ _ ⟨rfl,rfl,hn,fun _=>by lia⟩
  ·exact Zy (hn' _ _ ⟨rfl,rfl,hn,fun h=>absurd (by rw[epl.mpr h]) he⟩)
 rintro σ H4' ⟨rfl,rfl,hn,hpn⟩;rw[ersn hn] at k4;refine⟨_,rfl,_,rfl,_,rfl,l,_,rfl,ZF.of k14,fun l5 hl5=>?_⟩;have ec:Yl ((x::rest).map V.str) (some 1) none=rest.map V.str:=A9 (pre:=[.str x]) rfl rfl;rw[ec];have S5:=ZC.new (o:=.lst (rest.map V.str)) hl5;have k5:(upd H4' l5 (.lst (rest.map V.str))) l5=some (.lst (rest.map V.str)):=Zg;generalize (upd H4' l5 (.lst (rest.map V.str)))=H5 at S5 k5 ⊢;refine⟨pl,l5,_,rfl,ZF.of k5,fun a5 n5=>?_⟩;refine Gu (rest.map V.str) (by rw[xA];exact hn) n5 (fun i ys H'=>ZC H5 H'/\ys=List.zipWith ptW ((Z9 (cs f')).take i) (rest.take i)) ⟨ZC.refl _,by rw[List.take_zero,List.take_zero];rfl⟩ (by lia) (fun i ys H' _ ⟨e,_⟩=>ZF.of (e _ _ k5)) (fun i ys H' ⟨_,e⟩=>by rw[e,List.length_zipWith,xU,xU];lia) ?_ ?_
 ·rintro i cc z p ys H' hcc hzz ⟨sm,rfl⟩ hpn' ls hls;obtain⟨w0,w1,rfl⟩:=Bf hls;rw[xK] at hzz;obtain⟨y,hyi,rfl⟩:=xS.mp hzz;have Sp':=ZC.new (o:=.tup [.str ⟨#[cc]⟩,.str y]) hpn';have kp:(upd H' p (.tup [.str ⟨#[cc]⟩,.str y])) p=some (.tup [.str ⟨#[cc]⟩,.str y]):=Zg;generalize (upd H' p (.tup [.str ⟨#[cc]⟩,.str y]))=H6 at Sp' kp ⊢;refine⟨p,_,rfl,ZT.of kp,rfl,_,_,rfl,_,_,rfl,rfl,⟨[_,_],rfl,rfl⟩,Z2 ?_⟩;have hki:(Z9 (cs f'))[i]? = some (kdC cc):=by rw[eks,xK,hcc];rfl
  refine⟨_,rfl,_,rfl,cc,y,rfl,by have:=(hwd y (xG _ (xN hyi))).1;lia,sm.trans Sp',?_⟩;rw[IL hki hyi]
 rintro ys H' ⟨sm,rfl⟩ l6 hl6;have ez:List.zipWith ptW ((Z9 (cs f')).take pl.length) (rest.take pl.length)=List.zipWith ptW (Z9 (cs f')) (rest.take pl.length):=by rw[yP (by lia)]
 rw[ez];have etl:(Z9 (cs f')).length=(rest.take pl.length).length:=by rw[ekl,xU];lia
 have hzc:=Ee etl hkinds;have hzl:(List.zipWith ptW (Z9 (cs f')) (rest.take pl.length)).length<=6:=by rw[List.length_zipWith,ekl];lia
 have hzf:∀{H},∀v∈List.zipWith ptW (Z9 (cs f')) (rest.take pl.length),Tx H v:=Ic _ _;generalize List.zipWith ptW (Z9 (cs f')) (rest.take pl.length)=zs at hzc hzl hzf ⊢;have S6:=ZC.new (o:=.lst zs) hl6;have k6:(upd H' l6 (.lst zs)) l6=some (.lst zs):=Zg;generalize (upd H' l6 (.lst zs))=H6 at S6 k6 ⊢;refine Z4 ?_;dsimp only [Zw];have S46:=(S5.trans sm).trans S6;have S06:=S04.trans S46;have k16:=S46 _ _ k14
 by_cases h43 : 43∈cs f'
 ·refine⟨_,rfl,_,rfl,rfl,_,rfl,Wd (fun _=>?_) (fun z=>absurd h43 (epl.mp (by injection z)))⟩;have dks:∀d,Dk d->x::rest=toks d->∃a b,rest.take pl.length=d.ps.map ptS/\rest.drop pl.length=("+" : Str)::(a++("-" : Str)::b)/\(∀y∈a,Z0 y)/\(∀y∈b,Z0 y)/\isPs (Z9 (cs f')) (rest.take pl.length) d.ps:=fun d hd e=>by
   obtain⟨a,b,_,h2,h3,h4,h5⟩:=hd.sworn e hf h43;have hlen:(d.ps.map ptS).length=pl.length:=by have:=congrArg List.length h3;rw[xA] at this ⊢;lia
   have e1:rest.take pl.length=d.ps.map ptS:=by rw[h2,← hlen,List.take_left]
   exact⟨a,b,e1,by rw[h2,← hlen,List.drop_left],h4,h5,e1.symm,h3,hd.ps⟩
  refine⟨_,rfl,l4,rest.drop pl.length,rfl,S46 _ _ k4,fun y hy=>by have:=(hwd y (xG _ (List.mem_of_mem_drop hy))).1;lia,by rw[zC];lia,fun as bs l7 ra rb H7 e na nb k7 kra krb nab s7=>?_,fun hno H7 s7=>?_⟩
  rotate_left
  ·refine Z4 ?_;dsimp only [Zw];refine⟨_,rfl,rfl,_,rfl,Zu (fun _=>kn (fun d hd e=>?_) H7 (S06.trans s7)) (fun z=>absurd rfl z)⟩;obtain⟨a,b,_,e2,h4,h5,_⟩:=dks d hd e;exact hno a b e2 h4 h5
  refine Z4 ?_;dsimp only [Zw];refine⟨_,rfl,rfl,_,rfl,Zu (fun z=>nomatch z) (fun _=>?_)⟩;dsimp only [Zw];refine⟨_,rfl,_,rfl,l6,l7,_,_,rfl,rfl,s7 _ _ k6,k7,by show zs.length+2<=sizeLine;lia,fun l8 hl8=>?_⟩;have S8:=ZC.new (o:=.lst (zs ++ [.ref ra,.ref rb])) hl8;have k8:(upd H7 l8 (.lst (zs ++ [.ref ra,.ref rb]))) l8=some (.lst (zs ++ [.ref ra,.ref rb])):=Zg;generalize (upd H7 l8 (.lst (zs ++ [.ref ra,.ref rb])))=H8 at S8 k8 ⊢;have S08:=(S06.trans s7).trans S8;have kra8:=S8 _ _ kra;have krb8:=S8 _ _ krb;refine Z4 ?_;dsimp only [Zw];refine⟨_,rfl,rfl,l8,_,rfl,ZF.of k8,fun v hv=>?_,_,rfl,?_⟩
  ·rcases xI.mp hv with hv | hv
   ·exact hzf v hv
   ·rcases xC.mp hv with rfl | hv
    ·exact .inr (.inr (.inr ⟨_,_,rfl,kra8⟩))
    ·rw[xO.mp hv];exact .inr (.inr (.inr ⟨_,_,rfl,krb8⟩))
  rw[List.any_append];have e2:([V.ref ra,.ref rb]:aG).any TY=false:=rfl;rw[e2,Bool.or_false];rcases hzc with⟨ps,hps,rfl⟩ | ⟨hno,hany⟩
  ·rw[Ey];refine Zy ?_;dsimp only [Zw];refine⟨_,rfl,l,_,0,.str x,rfl,rfl,ZF.of (S8 _ _ (s7 _ _ k16)),Yb (j:=0) rfl,aB rfl,fun l9 hl9=>?_⟩;have S9:=ZC.new (o:=.lst [.str x]) hl9;have k9:(upd H8 l9 (.lst [.str x])) l9=some (.lst [.str x]):=Zg;generalize (upd H8 l9 (.lst [.str x]))=H9 at S9 k9 ⊢;refine⟨_,rfl,l9,l8,_,_,rfl,rfl,k9,S9 _ _ k8,by rw[xD];show 1+((ps.map ptV).length+2)<=sizeLine;lia,fun l10 hl10=>?_⟩;have S10:=ZC.new (o:=.lst ([V.str x]++(ps.map ptV ++ [.ref ra,.ref rb]))) hl10;have k10:(upd H9 l10 (.lst ([V.str x]++(ps.map ptV ++ [.ref ra,.ref rb])))) l10=some (.lst ([V.str x]++(ps.map ptV ++ [.ref ra,.ref rb]))):=Zg;generalize (upd H9 l10 (.lst ([V.str x]++(ps.map ptV ++ [.ref ra,.ref rb]))))=H10 at S10 k10 ⊢;refine⟨l10,_,rfl,.inl ⟨ZF.of k10,fun p hp=>?_⟩⟩;have S11:=ZC.new (o:=.tup ([V.str x]++(ps.map ptV ++ [.ref ra,.ref rb]))) hp;have s811:=(S9.trans S10).trans S11;refine kq ⟨x,ps,some (as,bs)⟩ p ra rb _ ⟨⟨f',hf,hps.2.1,.inl ⟨h43,fun z=>nomatch z⟩⟩,hps.2.2,na,nb⟩ ?_ ⟨?_,s811 _ _ kra8,s811 _ _ krb8,nab⟩ (S08.trans s811)
   ·show x::rest=x::(ps.map ptS++("+" : Str)::(as++("-" : Str)::bs));rw[← e,hps.1,zU]
   ·rw[Zg];rfl
  ·rw[hany];refine Z2 (kn (fun d hd e=>?_) H8 S08);obtain⟨_,_,_,_,_,_,hp⟩:=dks d hd e;exact hno _ hp
 ·refine⟨_,rfl,_,rfl,rfl,_,rfl,Wd (fun z=>absurd (by rw[epl.mpr h43]) z) (fun _=>?_)⟩;dsimp only [Zw];have hl:=hpn h43;refine⟨_,rfl,rfl,l6,_,rfl,ZF.of k6,fun v hv=>hzf v hv,_,rfl,?_⟩;rw[yP (zZ hl)] at hzc;rcases hzc with⟨ps,hps,rfl⟩ | ⟨hno,hany⟩
  ·rw[Ey];refine Zy ?_;dsimp only [Zw];refine⟨_,rfl,l,_,0,.str x,rfl,rfl,ZF.of k16,Yb (j:=0) rfl,aB rfl,fun l9 hl9=>?_⟩;have S9:=ZC.new (o:=.lst [.str x]) hl9;have k9:(upd H6 l9 (.lst [.str x])) l9=some (.lst [.str x]):=Zg;generalize (upd H6 l9 (.lst [.str x]))=H9 at S9 k9 ⊢;refine⟨_,rfl,l9,l6,_,_,rfl,rfl,k9,S9 _ _ k6,by show 1+(ps.map ptV).length<=sizeLine;lia,fun l10 hl10=>?_⟩;have S10:=ZC.new (o:=.lst ([V.str x]++ps.map ptV)) hl10;have k10:(upd H9 l10 (.lst ([V.str x]++ps.map ptV))) l10=some (.lst ([V.str x]++ps.map ptV)):=Zg;generalize (upd H9 l10 (.lst ([V.str x]++ps.map ptV)))=H10 at S10 k10 ⊢;refine⟨l10,_,rfl,.inl ⟨ZF.of k10,fun p hp=>?_⟩⟩;have S11:=ZC.new (o:=.tup ([V.str x]++ps.map ptV)) hp;refine kq ⟨x,ps,none⟩ p 0 0 _ ⟨⟨f',hf,hps.2.1,.inr ⟨h43,rfl⟩⟩,hps.2.2,trivial⟩ ?_ ⟨?_,trivial⟩ (S06.trans ((S9.trans S10).trans S11))
   ·show x::rest=x::(ps.map ptS ++ []);rw[yM,hps.1]
   ·rw[Zg];show _=some (HO.tup (V.str x::(ps.map ptV ++ [])));rw[yM];rfl
  ·rw[hany];exact Z2 (kn (fun d hd e=>hno _ (hd.plain e hf h43).2) H6 S06)
theorem Uq(h1:Yn n a)(h2:Yn m b):Yn (n+m) (a++b):=by
 refine⟨by rw[PySem.Str.length_append];have:=h1.1;have:=h2.1;lia,fun c hc=>?_⟩;rw[Vk] at hc;exact(xI.mp hc).elim (h1.2 c) (h2.2 c)
theorem Jg(h:Yn n a)(hm:n<=m):Yn m a:=⟨yK h.1 hm,h.2⟩
theorem bB(h:Yn n t)(hi : 0<=i):Yn n (Txt.slice t none (some i)):=by
 have e:=CL t hi;refine⟨by rw[← Z7,e,xU,Z7];have:=h.1;lia,fun c hc=>h.2 c ?_⟩;rw[e] at hc;exact zO hc
theorem Ko(h:Yn n t)(hi : 0<=i):Yn n (Txt.slice t (some i) none):=by
 have e:=L3 t hi;refine⟨by rw[← Z7,e,zC,Z7];have:=h.1;lia,fun c hc=>h.2 c ?_⟩;rw[e] at hc;exact List.mem_of_mem_drop hc
def tot(ws:eS):Nat:=(ws.map fun x=>x.length+1).sum
theorem Ax(a b:eS):tot (a++b)=tot a+tot b:=by unfold tot;rw[xM,List.sum_append]
theorem K4(x:Str):tot [x]=x.length+1:=rfl
theorem FJ:∀as c,c∈jn as->c=32\/∃a∈as,c∈a
 | [],c,h=>nomatch h
 | [a],c,h=>.inr ⟨a,xO.mpr rfl,h⟩
 | a::b::r,c,h=>by
  have h:c∈a++32::jn (b::r):=h;rcases xI.mp h with z | z
  ·exact .inr ⟨a,xQ,z⟩
  rcases xC.mp z with z | z
  ·exact .inl z
  ·exact(FJ (b::r) c z).imp id fun⟨y,hy,hc⟩=>⟨y,xG _ hy,hc⟩
theorem Ft:∀ws,(jn (ws.map cs)).length<=tot ws/\(ws ≠ []->tot ws=(jn (ws.map cs)).length+1)
 | []=>⟨yO _,fun h=>absurd rfl h⟩
 | [x]=>by
  have e:tot [x]=(jn ([x].map cs)).length+1:=by show x.length+1=(cs x).length+1;rw[Z7]
  exact⟨by lia,fun _=>e⟩
 | x::y::r=>by
  have ih:=(Ft (y::r)).2 (by simp);have e:tot (x::y::r)=(jn ((x::y::r).map cs)).length+1:=by
   have e1:tot (x::y::r)=(x.length+1)+tot (y::r):=rfl;have e2:jn ((x::y::r).map cs)=cs x++32::jn ((y::r).map cs):=rfl;rw[e1,e2,ih,xD,xF,Z7];lia
  exact⟨by lia,fun _=>e⟩
theorem Qh(h:Yn n t)(hs:∀x∈ws,x∈Txt.split t " ")(ht:tot ws<=2 * tot (Txt.split t " ")):Yn (2 * n+2) (Txt.join " " ws)/\tot ws<=2 * n+2:=by
 have e:Txt.join " " ws=Str.join " " ws:=StrLaws.glued_eq_join " " ws;have hp : 1<=(Txt.split t " ").length:=PyProof.Rows.split_pos _ _;have e2:=(Ft (Txt.split t " ")).2 (fun z=>by rw[z] at hp;exact absurd hp (by simp));rw[← EC,Z7] at e2;have hl:=h.1;have h3:=(Ft ws).1;refine⟨⟨?_,fun c hc=>?_⟩,by lia⟩
 ·rw[e,← Z7,TK];lia
 ·rw[e,TK] at hc;rcases FJ _ c hc with rfl | ⟨a,ha,hc⟩
  ·decide
  ·obtain⟨x,hx,rfl⟩:=yS.mp ha;refine h.2 c ?_;rw[EC t];exact(FA ((Txt.split t " ").map cs)).1 (cs x) (List.mem_map_of_mem (hs x hx)) |>.1 c hc
theorem Kt(ws:eS)(j:Nat):tot (ws.take j)+tot (ws.drop j)=tot ws:=by rw[← Ax,zU]
theorem dQ{ws:eS}{j:Nat}(hj:j < ws.length):tot (ws.drop j)=(ws[j].length+1)+tot (ws.drop (j+1)):=by
 rw[List.drop_eq_getElem_cons hj];rfl
theorem dE(ws:eS):(ws.map (·.length)).sum+ws.length * (" " : Str).length=tot ws:=by
 have e:(" " : Str).length=1:=aA
 rw[e,Nat.mul_one]
 induction ws with
 | nil=>rfl
 | cons x r ih =>
  have e1:tot (x::r)=(x.length+1)+tot r:=rfl;rw[e1,xW,List.sum_cons,xF,← ih];lia
theorem XI(xs:aG)(j:Nat)(h:j<=xs.length):Yl xs none (some (j:Int))=xs.take j:=by
 unfold Yl;rw[HT.sIx_none,HT.sIx_nat,wC h,List.drop_zero,Nat.sub_zero]
abbrev someS:Str:=" !\"#$&'()*+,-./0123456789:;<=>?@ABCDEFGHIJKLMNOPQRSTUVWXYZ[\\]^_`abcdefghijklmnopqrstuvwxyz{|}~"
theorem Qx:someS.length=94:=aA
theorem bH:∀c∈cs someS,c < 16 ^ 8:=aA
abbrev fiveS:Str:=" 0a+-"
theorem X6:∀c∈cs fiveS,c < 16 ^ 8:=aA
theorem HF{x:Str}(h:∀c∈cs x,c < 16 ^ 8){d:Int}(d0 : 0<=d)(d1:d < x.length):∃c,atI x.cps.toList d=some c/\Yn 1 ⟨#[c]⟩:=by
 obtain⟨j,rfl⟩:=yF d0;have hj:j < (cs x).length:=by rw[Z7];lia
 refine⟨(cs x)[j],Yb (xE hj),xH _,fun c hc=>?_⟩;have:c=(cs x)[j]:=by simpa [cs] using hc
 rw[this];exact h _ (yY hj)
inductive UK(vs:aG)(H:Hp)(Q:VK)(z3:XK):Prop
 |mk(s la) (t) (n)(_:vs = [.ref s,.str t])(_:ZK H s la)(_:Yn n t)(_:n<=4500)(_:∀t' H',Yn (2 * n+2) t'->ZK H' s la->ZI s H H'->Q (.str t') H')
abbrev IM:Stmt:=top 112
theorem bW(Zjl:YA K mg "_law_spoilt" IM)(T:Txt mg)(Yj:Fn P w K mg base "_law_next" ["_law_src_here","_law_base"] 1 YD):Fn P w K mg base "_law_spoilt" ["_law_src_here","_law_text"] 2 UK:=by
 refine Zjl.fq ["_law_src_here","_law_text","_law_some","_law_kind","_law_at","_law_sign","_law_words","_law_place"] fun H vs Q E hr h=>?_;obtain⟨s,la,t,n,rfl,hs,ht,hn,k⟩:=h;refine⟨rfl,_,(Ze (Zv 2 Zh) (Ze (Zv 3 (Zs Yj (Za Q0 (Za Zf Zb)))) (Ze (Zv 4 (Zs Yj (Za Q0 (Za (Zr Wb (Zx Ue T.len Z8 (Za Q6 Zb)) Zf) Zb)))) (Ze (Zv 5 (Zq JL Q7 (Zs Yj (Za Q0 (Za (Zx Ue T.len Z8 (Za Q7 Zb)) Zb))) (fun _ _=>rfl))) (Ze (Zm (Zl Yc (Zs Yj (Za Q0 (Za Zf Zb))) Zf (Zp _)) (Zd (Zv 5 (Zq JL Zh (Zs Yj (Za Q0 (Za Zf Zb))) (fun _ _=>rfl)))) Zo) (Ze (Zv 6 (Y6 F.plainAttrs_str F.slot_str_split F.type_str_split Bo Q6 (Za Zh Zb))) (Ze (Zv 7 (Zs Yj (Za Q0 (Za (Zx Yx T.len Z8 (Za Qb Zb)) Zb)))) (Ze (Zm (Zl Yc Q8 Zf (Zp _)) (Zd (Zn (Zr We (Zr We (Yq Ul Q6 Yw (Ym Q9)) Qa) (Yq Ul Q6 (Ym Q9) Yw)))) Zo) (Ze (Zm (Zl Yc Q8 Zf (Zp _)) (Zd (Zn (Zr We (Yq Ul Q6 Yw (Ym Q9)) (Yq Ul Q6 (Ym (Zr Wb Q9 Zf)) Yw)))) Zo) (Ze (Zm (Zl Yc Q8 Zf (Zp _)) (Zd (Zn (Zr We (Zr We (Yq Ul Q6 Yw (Ym Q9)) Qa) (Yq Ul Q6 (Ym (Zr Wb Q9 Zf)) Yw)))) Zo) (Ze (Zm (Zl Yc Q8 Zf (Zp _)) (Zd (Zn (Y6 F.plainAttrs_str F.slot_str_join F.type_str_join CC Zh (Za (Zr Wr (Yq Ws Qb Yw (Ym Qc)) (Yq Ws Qb (Ym (Zr Wb Qc Zf)) Yw)) Zb)))) Zo) (Ze (Zm (Zl Yc Q8 Zf (Zp _)) (Zd (Zn (Y6 F.plainAttrs_str F.slot_str_join F.type_str_join CC Zh (Za (Zr Wr (Zr Wr (Yq Ws Qb Yw (Ym Qc)) (Yh (Za (Zq Z3 Qb Qc (fun _ _=>rfl)) Zb))) (Yq Ws Qb (Ym Qc) Yw)) Zb)))) Zo) (Ze (Zm (Zl Yc Q8 Zf (Zp _)) (Zd (Zn (Y6 F.plainAttrs_str F.slot_str_join F.type_str_join CC Zh (Za (Zr Wr (Zr Wr (Yq Ws Qb Yw (Ym Qc)) (Yq Ws Qb (Ym (Zr Wb Qc Zf)) Yw)) (Yh (Za (Zq Z3 Qb Qc (fun _ _=>rfl)) Zb))) Zb)))) Zo) (Zd (Zn (Yq Ul Q6 Yw (Ym Q9))))))))))))))))),?_⟩;have hz:(200000:Nat)<=sizeLine:=by decide
 have hl0:=ht.1;have hsl:=Qx;refine⟨_,rfl,s,la,7,rfl,hs,aA,aA,fun kd H1 _ _ hs1 sx1=>?_⟩;refine Z4 ?_;dsimp only [Zw];refine⟨_,rfl,_,rfl,t,rfl,by lia,_,_,rfl,rfl,s,la,_,rfl,hs1,by lia,by lia,fun at_ H2 at0 at1 hs2 sx2=>?_⟩;refine Z4 ?_;dsimp only [Zw];refine⟨_,rfl,_,rfl,_,rfl,someS,rfl,by lia,s,la,_,rfl,hs2,by lia,by lia,fun d H3 d0 d1 hs3 sx3=>?_⟩;obtain⟨c0,hc0,hw0⟩:=HF bH d0 d1;refine⟨someS,d,c0,rfl,rfl,by lia,hc0,?_⟩;refine Z4 ?_;dsimp only [Zw];have sx03:=(sx1.trans sx2).trans sx3;refine Ck (fun σ H'=>∃sg:Str,Yn 1 sg /\ σ = [some (.ref s),some (.str t),some (.str someS),some (.int kd),some (.int at_),some (.str sg),none,none]/\ZK H' s la/\ZI s H H') ?_ (fun D' hn' hrt _ _=>?_)
 rotate_left
 ·refine⟨_,rfl,s,la,2,rfl,hs3,aA,aA,fun d2 H4 _ _ hs4 sx4=>?_⟩;refine⟨rfl,_,rfl,Zu (fun _=>?_) (fun _=>hn' _ _ ⟨_,hw0,rfl,hs4,sx03.trans sx4⟩)⟩;refine⟨_,rfl,s,la,5,rfl,hs4,aA,aA,fun d3 H5 d30 d31 hs5 sx5=>?_⟩;obtain⟨c1,hc1,hw1⟩:=HF X6 d30 (show d3 < (fiveS.length:Int) from d31);exact⟨fiveS,d3,c1,rfl,rfl,aA,hc1,hn' _ _ ⟨_,hw1,rfl,hs5,(sx03.trans sx4).trans sx5⟩⟩
 rintro σ H6 ⟨sg,hsg,rfl,hs6,sx6⟩;have hsg1:=hsg.1;refine⟨_,rfl,rfl,t, " ", rfl,rfl,aA,by lia,fun l hl=>?_⟩;obtain⟨x0,r0,es,_,hlr⟩:=B9 ht (by lia);have hsub:∀{ws:eS},(∀x∈ws,x∈Txt.split t " ")->tot ws<=2 * tot (Txt.split t " ")->Yn (2 * n+2) (Txt.join " " ws)/\tot ws<=2 * n+2:=fun h1 h2=>Qh ht h1 h2;have hwl:(Txt.split t " ").length<=n+1/\1<=(Txt.split t " ").length:=by rw[es,xF];lia
 generalize Txt.split t " " = ws at hsub hwl ⊢;have S7:=ZC.new (o:=.lst (ws.map V.str)) hl;have k7:(upd H6 l (.lst (ws.map V.str))) l=some (.lst (ws.map V.str)):=Zg;have nls:=(hs6.ne hl).1;generalize (upd H6 l (.lst (ws.map V.str)))=H7 at S7 k7 ⊢;have hs7:=hs6.keep S7;refine Z4 ?_;dsimp only [Zw];refine⟨_,rfl,_,rfl,l,_,rfl,.inl (ZF.of k7),s,la,_,rfl,hs7,by rw[xA];lia,by rw[xA];lia,fun pl H8 p0 p1 hs8 sx8=>?_⟩;rw[xA] at p1;obtain⟨j,rfl⟩:=yF p0;have hj:j < ws.length:=by lia
 have k8:=sx8 _ _ nls k7;have sx08:=(sx6.trans S7.x).trans sx8;refine Z4 ?_;dsimp only [Zw];have tc:=Kt ws j;have tc1:=Kt ws (j+1);have ta:=dQ hj;have e1:Yl (ws.map V.str) none (some (j:Int))=(ws.take j).map V.str:=by rw[XI _ _ (by rw[xA];lia),List.map_take]
 have e2:Yl (ws.map V.str) (some ((j:Int)+1)) none=(ws.drop (j+1)).map V.str:=by rw[show ((j:Int)+1)=((j+1:Nat):Int) by lia,Bm _ _ (by rw[xA];lia),List.map_drop]
 have e3:Yl (ws.map V.str) (some (j:Int)) none=(ws.drop j).map V.str:=by rw[Bm _ _ (by rw[xA];lia),List.map_drop]
 have l1:(ws.take j).length<=5000:=by rw[xU];lia
 have l2:(ws.drop (j+1)).length<=5000:=by rw[zC];lia
 have l3:(ws.drop j).length<=5000:=by rw[zC];lia
 have wj:(ws.map V.str)[j]? = some (V.str ws[j]):=by rw[xK,xE hj];rfl
 have mt:∀x∈ws.take j,x∈ws:=fun x hx=>zO hx;have md:∀{i},∀x∈ws.drop i,x∈ws:=fun x hx=>List.mem_of_mem_drop hx;have mj:ws[j]∈ws:=yY hj;have fin:∀{ws':eS}{H':Hp}{l':eZ},H' l'=some (.lst (ws'.map V.str))->(∀x∈ws',x∈ws)->tot ws'<=2 * tot ws->ZC H8 H'->IH K (.str " ") [.ref l'] H' Q:=fun {ws' H' l'} hl' h1 h2 sm=>by
  obtain⟨h3,h4⟩:=hsub h1 h2;exact⟨" ", l',ws',rfl,rfl,ZF.of hl',by rw[dE];lia,k _ _ h3 (hs8.keep sm) (sx08.trans sm.x)⟩
 have tu:=bB ht at0;have tf:=Ko ht at0;have tf1:=Ko ht (show 0<=at_+1 by lia);have ul:=tu.1;have fl:=tf.1;have fl1:=tf1.1;have usl:=(Uq tu hsg).1;refine⟨_,rfl,rfl,_,rfl,Zu (fun _=>?_) (fun _=>?_)⟩
 ·refine⟨_,rfl,_,rfl,at_,rfl,t,rfl,by lia,_,rfl,_,_,rfl,rfl,by lia,?_⟩;refine⟨_,rfl,_,rfl,at_,rfl,t,rfl,by lia,_,_,rfl,rfl,by lia,?_⟩;exact k _ _ (Jg (Uq (Uq tu hsg) tf) (by lia)) hs8 sx08
 dsimp only [Zw];refine⟨_,rfl,rfl,_,rfl,Zu (fun _=>?_) (fun _=>?_)⟩
 ·refine⟨_,rfl,_,rfl,at_,rfl,t,rfl,by lia,?_⟩;refine⟨_,rfl,_,rfl,_,_,rfl,rfl,_,rfl,t,rfl,by lia,_,_,rfl,rfl,by lia,?_⟩;exact k _ _ (Jg (Uq tu tf1) (by lia)) hs8 sx08
 dsimp only [Zw];refine⟨_,rfl,rfl,_,rfl,Zu (fun _=>?_) (fun _=>?_)⟩
 ·refine⟨_,rfl,_,rfl,at_,rfl,t,rfl,by lia,_,rfl,_,_,rfl,rfl,by lia,?_⟩;refine⟨_,rfl,_,rfl,_,_,rfl,rfl,_,rfl,t,rfl,by lia,_,_,rfl,rfl,by lia,?_⟩;exact k _ _ (Jg (Uq (Uq tu hsg) tf1) (by lia)) hs8 sx08
 dsimp only [Zw];refine⟨_,rfl,rfl,_,rfl,Zu (fun _=>?_) (fun _=>?_)⟩
 ·refine⟨rfl,_,rfl,_,rfl,_,rfl,l,_,rfl,ZF.of k8,fun a1 ha1=>?_⟩;rw[e1];have A1:=ZC.new (o:=.lst ((ws.take j).map V.str)) ha1;have q1:(upd H8 a1 (.lst ((ws.take j).map V.str))) a1=some (.lst ((ws.take j).map V.str)):=Zg;generalize (upd H8 a1 (.lst ((ws.take j).map V.str)))=G1 at A1 q1 ⊢;refine⟨_,rfl,_,rfl,_,_,rfl,rfl,_,rfl,l,_,rfl,ZF.of (A1 _ _ k8),fun a2 ha2=>?_⟩;rw[e2];have A2:=ZC.new (o:=.lst ((ws.drop (j+1)).map V.str)) ha2;have q2:(upd G1 a2 (.lst ((ws.drop (j+1)).map V.str))) a2=some (.lst ((ws.drop (j+1)).map V.str)):=Zg;generalize (upd G1 a2 (.lst ((ws.drop (j+1)).map V.str)))=G2 at A2 q2 ⊢;refine⟨a1,a2,_,_,rfl,rfl,A2 _ _ q1,q2,by rw[xA,xA];lia,fun a3 ha3=>?_⟩;refine fin (ws':=ws.take j++ws.drop (j+1)) (by rw[Zg,xM]) (fun x hx=>(xI.mp hx).elim (mt x) (md x)) (by rw[Ax];lia) ((A1.trans A2).trans (ZC.new ha3))
 dsimp only [Zw];refine⟨_,rfl,rfl,_,rfl,Zu (fun _=>?_) (fun _=>?_)⟩
 ·refine⟨rfl,_,rfl,_,rfl,_,rfl,l,_,rfl,ZF.of k8,fun a1 ha1=>?_⟩;rw[e1];have A1:=ZC.new (o:=.lst ((ws.take j).map V.str)) ha1;have q1:(upd H8 a1 (.lst ((ws.take j).map V.str))) a1=some (.lst ((ws.take j).map V.str)):=Zg;generalize (upd H8 a1 (.lst ((ws.take j).map V.str)))=G1 at A1 q1 ⊢;refine⟨_,rfl,_,rfl,l,_,j,.str ws[j],rfl,rfl,ZF.of (A1 _ _ k8),Yb wj,aB rfl,fun a2 ha2=>?_⟩;have A2:=ZC.new (o:=.lst [.str ws[j]]) ha2;have q2:(upd G1 a2 (.lst [.str ws[j]])) a2=some (.lst [.str ws[j]]):=Zg;generalize (upd G1 a2 (.lst [.str ws[j]]))=G2 at A2 q2 ⊢;refine⟨a1,a2,_,_,rfl,rfl,A2 _ _ q1,q2,by rw[xA];show (ws.take j).length+1<=sizeLine;lia,fun a3 ha3=>?_⟩;have A3:=ZC.new (o:=.lst ((ws.take j).map V.str ++ [.str ws[j]])) ha3;have q3:(upd G2 a3 (.lst ((ws.take j).map V.str ++ [.str ws[j]]))) a3=some (.lst ((ws.take j).map V.str ++ [.str ws[j]])):=Zg;generalize (upd G2 a3 (.lst ((ws.take j).map V.str ++ [.str ws[j]])))=G3 at A3 q3 ⊢;have A03:=(A1.trans A2).trans A3;refine⟨_,rfl,_,rfl,_,rfl,l,_,rfl,ZF.of (A03 _ _ k8),fun a4 ha4=>?_⟩;rw[e3];have A4:=ZC.new (o:=.lst ((ws.drop j).map V.str)) ha4;have q4:(upd G3 a4 (.lst ((ws.drop j).map V.str))) a4=some (.lst ((ws.drop j).map V.str)):=Zg;generalize (upd G3 a4 (.lst ((ws.drop j).map V.str)))=G4 at A4 q4 ⊢;refine⟨a3,a4,_,_,rfl,rfl,A4 _ _ q3,q4,by rw[xD,xA,xA];show (ws.take j).length+1+(ws.drop j).length<=sizeLine;lia,fun a5 ha5=>?_⟩;refine fin (ws':=ws.take j ++ [ws[j]]++ws.drop j) (by rw[Zg,xM,xM];rfl) (fun x hx=>?_) (by rw[Ax,Ax,K4];lia) ((A03.trans A4).trans (ZC.new ha5));rcases xI.mp hx with hx | hx
  ·grind
  ·exact md x hx
 dsimp only [Zw];refine⟨_,rfl,rfl,_,rfl,Zu (fun _=>?_) (fun _=>?_)⟩
 ·refine⟨rfl,_,rfl,_,rfl,_,rfl,l,_,rfl,ZF.of k8,fun a1 ha1=>?_⟩;rw[e1];have A1:=ZC.new (o:=.lst ((ws.take j).map V.str)) ha1;have q1:(upd H8 a1 (.lst ((ws.take j).map V.str))) a1=some (.lst ((ws.take j).map V.str)):=Zg;generalize (upd H8 a1 (.lst ((ws.take j).map V.str)))=G1 at A1 q1 ⊢;refine⟨_,rfl,_,rfl,_,_,rfl,rfl,_,rfl,l,_,rfl,ZF.of (A1 _ _ k8),fun a2 ha2=>?_⟩;rw[e2];have A2:=ZC.new (o:=.lst ((ws.drop (j+1)).map V.str)) ha2;have q2:(upd G1 a2 (.lst ((ws.drop (j+1)).map V.str))) a2=some (.lst ((ws.drop (j+1)).map V.str)):=Zg;generalize (upd G1 a2 (.lst ((ws.drop (j+1)).map V.str)))=G2 at A2 q2 ⊢;refine⟨a1,a2,_,_,rfl,rfl,A2 _ _ q1,q2,by rw[xA,xA];lia,fun a3 ha3=>?_⟩;have A3:=ZC.new (o:=.lst ((ws.take j).map V.str++(ws.drop (j+1)).map V.str)) ha3;have q3:(upd G2 a3 (.lst ((ws.take j).map V.str++(ws.drop (j+1)).map V.str))) a3=some (.lst ((ws.take j).map V.str++(ws.drop (j+1)).map V.str)):=Zg;generalize (upd G2 a3 (.lst ((ws.take j).map V.str++(ws.drop (j+1)).map V.str)))=G3 at A3 q3 ⊢;have A03:=(A1.trans A2).trans A3;refine⟨_,rfl,_,rfl,l,_,j,.str ws[j],rfl,rfl,ZF.of (A03 _ _ k8),Yb wj,aB rfl,fun a4 ha4=>?_⟩;have A4:=ZC.new (o:=.lst [.str ws[j]]) ha4;have q4:(upd G3 a4 (.lst [.str ws[j]])) a4=some (.lst [.str ws[j]]):=Zg;generalize (upd G3 a4 (.lst [.str ws[j]]))=G4 at A4 q4 ⊢;refine⟨a3,a4,_,_,rfl,rfl,A4 _ _ q3,q4,by rw[xD,xA,xA];show (ws.take j).length+(ws.drop (j+1)).length+1<=sizeLine;lia,fun a5 ha5=>?_⟩;refine fin (ws':=ws.take j++ws.drop (j+1)++[ws[j]]) (by rw[Zg,xM,xM];rfl) (fun x hx=>?_) (by rw[Ax,Ax,K4];lia) ((A03.trans A4).trans (ZC.new ha5));rcases xI.mp hx with hx | hx
  ·exact(xI.mp hx).elim (mt x) (md x)
  ·rw[xO.mp hx];exact mj
 dsimp only [Zw];refine⟨_,rfl,_,rfl,at_,rfl,t,rfl,by lia,?_⟩;exact k _ _ (Jg tu (by lia)) hs8 sx08
section
variable{C CM:eZ}
def scD:D->Bool
 | .str _=>true
 | .int _=>true
 | .non=>true
 | .bl _=>true
 | _=>false
theorem PU(h:scD d=true):isI d "list" = false:=by cases d<;>first | rfl | cases h
def plD(d:D):Prop:=scD d=true\/∃o:List Str,d = .lst (o.map D.str)/\o.length<=60
inductive Ts(vs:aG)(H:Hp)(Q:VK)(z3:XK):Prop
 |mk(p) (us) (ds)(_:vs = [.ref p])(_:H p=some (.tup us))(_:ZN H ds us)(_:(∀d∈ds,plD d))(_:ds.length<=10)(_:∀q ys H',H q=none->H' q=some (.tup ys)->ZN H' ds ys->(∀l,V.ref l∈ys->H l=none)->ZC H H'->Q (.ref q) H')
abbrev II:Stmt:=top 24
theorem RT(Zjm:YA K mg "copied" II)(T:Txt mg):Fn P w K mg base "copied" ["deed"] 1 Ts:=by
 refine Zjm.fq ["deed"] fun H vs Q E hr h=>?_;obtain⟨p,us,ds,rfl,hp,hr,hs,hl,k⟩:=h
 refine⟨rfl,_,(Zd (Zn (Vy B3 T.tuple JD (Za (Uh (locs:=["part"]) (fr:=[]) ⟨rfl,aA,aA,aA,aA,aA⟩ .nil rfl (Hv Q0) ⟨fun _ _ _ _ _ _=>by
  have cnd:(inN ["part"] []).Nodup:=aA
  exact⟨(Y4 0 cnd),Vn,(MN (Vc (Zx QV T.isinstance Vw (Za (Y3 0) (Za (Vx (v:=.ty "list") T.list Jq rfl (n:=nmC)) Zb)) (n:=nmC))) (Vy Sr T.list Jq (Za (Y3 0) Zb) (n:=nmC)) (Y3 0))⟩⟩) Zb)))),?_⟩
 have hul:us.length=ds.length:=hr.length;have hz:=aC
 refine⟨_,rfl,p,rfl,⟨_,ZT.of hp⟩,?_⟩;refine Py (xs:=us) (fun i ys H'=>ZC H H'/\ZN H' (ds.take i) ys/\∀l,V.ref l∈ys->H l=none) ⟨ZC.refl H,rfl,(fun l h=>nomatch h)⟩ (by lia) (fun i ys H' _ ⟨e,_⟩=>ZT.of (e _ _ hp)) (fun i ys H' ⟨_,e,_⟩=>by rw[e.length,xU];lia) ?_ ?_
 ·rintro i v ys H' hv ⟨S,r,fr⟩ ls hls;obtain⟨w0,rfl⟩:=Uv hls;obtain⟨d,hd,re⟩:=hr.get hv;have re:=YH.mono S _ _ re;obtain⟨t1,ty1,e1⟩:=isi (K:=K) re "list" aA;have et:ds.take (i+1)=ds.take i ++ [d]:=by rw[yD,hd];rfl
  rw[et];refine⟨⟨[_],rfl,rfl⟩,?_⟩;rcases hs d (xN hd) with z | ⟨o,rfl,ho⟩
  ·rw[PU z] at e1;refine⟨_,rfl,v, "list", t1,_,rfl,ty1,e1,_,rfl,Zy ⟨_,rfl,S,r.snoc re,fun l h=>?_⟩⟩;rcases xI.mp h with h | h
   ·exact fr l h
   ·have:=xO.mp h;subst this;cases d<;>first | (cases z;done) | cases re
  ·obtain⟨l0,us0,rfl,h0,h1⟩:=id re;refine⟨_,rfl,.ref l0, "list", t1,_,rfl,ty1,e1,_,rfl,Z2 ⟨_,rfl,l0,_,rfl,.inl (ZF.of h0),fun q hq=>?_⟩⟩;have S2:=ZC.new (o:=.lst us0) hq;refine⟨S.trans S2,ZN.snoc (show YH _ (.lst (o.map D.str)) (.ref q) from⟨q,us0,rfl,Zg,ZN.mono S2 _ _ h1⟩) (ZN.mono S2 _ _ r),fun l h=>?_⟩;rcases xI.mp h with h | h
   ·exact fr l h
   ·cases xO.mp h;exact S.free hq
 ·rintro ys H' ⟨S,r,fr⟩ l hl;rw[hul,yI] at r;refine nw (o:=.lst ys) hl fun H1 S1 k1=>?_;exact⟨l,_,rfl,.inl ⟨ZF.of k1,fun q hq=>k q ys _ ((S.trans S1).free hq) Zg (ZN.mono (S1.trans (ZC.new hq)) _ _ r) fr ((S.trans S1).trans (ZC.new hq))⟩⟩
def Fv(d:D):Prop:=∃ts,d = .tup ts/\(∀x∈ts,plD x)/\ts.length<=10
inductive Tv(C CM:eZ)(vs:aG)(H:Hp)(Q:VK)(z3:XK):Prop
 |mk(M) (ds) (wa) (xs) (m) (qs)(_:vs = [.ref M.p])(_:ZE C CM H M ds wa xs m qs)(_:(∀d∈m.deeds,Fv d))(_:m.deeds.length<=1000)(_:∀l ms H',H l=none->H' l=some (.lst ms)->ZN H' m.deeds ms->ZC H H'->Q (.ref l) H')
abbrev GS:Stmt:=Yr (top 78) 12
theorem Mr(Zjn:ZS K CM "roll" "Moot.roll" GS)(Tm:ZU K CM)(Z10:Fn P w K mg base "copied" ["deed"] 1 Ts):Mt P w K mg base CM "roll" ["self"] 2 (Tv C CM):=by
 refine Zjn.mq ["self"] fun H vs Q E hr h=>?_;obtain⟨M,ds,wa,xs,m,qs,rfl,W,hpl,hln,k⟩:=h
 refine⟨rfl,_,(Zd (Zn (Uh (locs:=["deed"]) (fr:=[]) ⟨rfl,aA,aA,aA,aA,aA⟩ .nil rfl (Vl (Z5 Q0)) ⟨fun _ _ _ _ _ _=>by
  have cnd:(inN ["deed"] []).Nodup:=aA
  exact⟨(Y4 0 cnd),Vn,(Zs Z10 (Za (Y3 0) Zb) (n:=nmC))⟩⟩))),?_⟩
 obtain⟨dx,ob⟩:=W.ob;obtain⟨vs,d1,d2,d3⟩:=(W.ls (M.ld,m.deeds) (by simp[Mo.at_])).get;dsimp only at d1 d2 d3;refine⟨_,rfl,M.p,CM,dx,_,_,rfl,ob,Tm.cl,Tm.nd,BS _,M.ld,rfl,⟨_,ZF.of d1⟩,?_⟩;refine J9 (xs:=vs) (fun i ys H'=>ZC H H'/\ZN H' (m.deeds.take i) ys) ⟨ZC.refl _,rfl⟩ (by lia) (fun i ys H' _ ⟨e,_⟩=>ZF.of (e _ _ d1)) (fun i ys H' ⟨_,e⟩=>by rw[e.length,xU];lia) ?_ ?_
 ·rintro i v ys H' hv ⟨sm,hys⟩ ls hls;obtain⟨w0,rfl⟩:=Uv hls;obtain⟨d,hd,re⟩:=d2.get hv;obtain⟨ts,rfl,hsc,h10⟩:=hpl d (xN hd);obtain⟨a,us,rfl,ha,hus⟩:=re;refine⟨⟨[_],rfl,rfl⟩,?_⟩;refine⟨_,rfl,a,us,ts,rfl,sm _ _ ha,hus.mono' sm,hsc,h10,fun q us' H2 hq kq r2 _ s2=>⟨sm.trans s2,?_⟩⟩;rw[yD,hd];exact(hys.mono' s2).snoc (show YH H2 (.tup ts) (.ref q) from⟨q,us',rfl,kq,r2⟩)
 ·rintro ys H' ⟨sm,hys⟩ l hl;rw[d3,yI] at hys;have S1:=ZC.new (o:=.lst ys) hl;exact k l ys _ (sm.free hl) Zg (hys.mono' S1) (sm.trans S1)
theorem Ur(h1 : σ[i]? = some (some (.ref a)))(h2:H a=some (.tup us))(h3:atI us k=some v)(h:tr σ H fun vs H2=>Q (v::vs) H2):Vs (Jd (JG K) (YC i) (tC (.int k))) tr σ H Q:=⟨_,h1,a,us,k,v,rfl,rfl,ZT.of h2,h3,h⟩
theorem K6{i:Nat}{w v:Str}{t u:TS}{D:ZW}{σ:St}{H:Hp}(h1 : σ[i]? = some (some (.str v)))(h2:v≠w)(h:u D σ H):Vq (Ct (By (Jd Dj (YC i) (tC (.str w)))) t Zw) u D σ H:=⟨_,h1,rfl,_,rfl,Zu (fun z=>absurd (by injection z) h2) (fun _=>h)⟩
theorem F7{i:Nat}{w:Str}{t u:TS}{D:ZW}{σ:St}{H:Hp}(h1 : σ[i]? = some (some (.str w)))(h:t {D with nx:=u D } σ H):Vq (Ct (By (Jd Dj (YC i) (tC (.str w)))) t Zw) u D σ H:=⟨_,h1,rfl,_,rfl,Zu (fun _=>h) (fun z=>absurd rfl z)⟩
def coD(n:Str)(day wt:Int):D:=.tup [.str "come", .str n,.int day,.int wt]
def Mo.brg(m:Mo)(n:Str)(day:Int):Mo:={m with brs:=m.brs ++ [.tup [.str n,.int day]],haps:=m.haps ++ [[]],deeds:=m.deeds ++ [.tup [.str "bring", .str n,.int day]] }
inductive VT (H:Hp) (a:eZ) (O:eZ->Prop) (ds:List ZO) (m:Mo):List ZO->Mo->Prop
 | come (n:Str) (day wt:Int) (ha:H a=some (.tup [.str "come", .str n,.int day,.int wt])) (h4:m.deeds.length < 400) (h5:ds.length < 40) (hn:Z0 n) (d0 : 0<=day) (d1:day<=9999) (w0 : 1<=wt) (w1:wt<=1000) (hc:Zz ds n=none):VT H a O ds m (ds ++ [.come n day wt]) ({m with deeds:=m.deeds ++ [coD n day wt] }:Mo)
 | bring (n:Str) (day:Int) (ha:H a=some (.tup [.str "bring", .str n,.int day])) (h4:m.deeds.length < 400) (h5:m.brs.length < 40) (h6:m.haps.length<=1000) (d0 : 0<=day) (d1:day<=9999) (ok:J7 m) (hn:n.length<=100) (he:Up ds m day [n] none none=none):VT H a O ds m ds (m.brg n day)
 | claim (x:Str) (i day need:Int) (l1 l2:eZ) (o1 o2:eS) (f:Str->Int) (ha:H a=some (.tup [.str "claim", .str x,.int i,.int day,.int need,.ref l1,.ref l2])) (cs:Dx ds m H l1 l2 o1 o2 day need f) (y1:¬O l1) (y2:¬O l2) (hx:x.length<=100) (hi:okI i) (he:Bl ds m x i day need f o1 o2=none):VT H a O ds m ds (m.won x i.toNat day need f o1 o2)
theorem VT.sub(h:VT H a O ds m ds' m')(k:∀b,O' b->O b):VT H a O' ds m ds' m':=by
 cases h with
 | come n day wt ha h4 h5 hn d0 d1 w0 w1 hc=>exact .come n day wt ha h4 h5 hn d0 d1 w0 w1 hc
 | bring n day ha h4 h5 h6 d0 d1 ok hn he=>exact .bring n day ha h4 h5 h6 d0 d1 ok hn he
 | claim x i day need l1 l2 o1 o2 f ha cs y1 y2 hx hi he=>exact .claim x i day need l1 l2 o1 o2 f ha cs (fun z=>y1 (k _ z)) (fun z=>y2 (k _ z)) hx hi he
inductive Tr(C CM:eZ)(vs:aG)(H:Hp)(Q:VK)(z3:XK):Prop
 |mk(p) (ds ds') (m m') (O) (a)(_:vs = [.ref p,.ref a])(_:Tn C CM H p ds m O)(_:VT H a O ds m ds' m')(_:∀v O' H',Tn C CM H' p ds' m' O'->WL O H O' H'->Q v H')
abbrev Gk:Stmt:=top 23
theorem SY(Zjp:YA K mg "done" Gk)(Tm:ZU K CM)(er:Er K mg c errs)(MM_come:Mt P w K mg base CM "come" ["self","name","day","weight"] 4 (UQ C CM))(MM_bring:Mt P w K mg base CM "bring" ["self","name","day"] 4 (WZ C CM))(MM_claim:WA P w K mg base CM "claim" 6 (VM C CM c)):YZ P w K mg base "done" 8 (Tr C CM):=by
 refine Zjp.fx ["moot","deed","word"] ["moot","deed"] fun H vs Q E hr h=>?_;obtain⟨_,ds,ds',m,m',_,a,rfl,⟨M,wa,xs,qs,rfl,W,rfl⟩,hc,k⟩:=h;refine⟨rfl,_,(Ze (Zv 2 (Zq Ys Q6 Zf (fun _ _=>rfl))) (Ze (Zm (Zl Yc Q7 Zh (Zp _)) (Zd (Zn (Vi Q0 Tm.cl MM_come (Za (Zq Ys Q6 Zf (fun _ _=>rfl)) (Za (Zq Ys Q6 Zf (fun _ _=>rfl)) (Za (Zq Ys Q6 Zf (fun _ _=>rfl)) Zb)))))) Zo) (Ze (Zm (Zl Yc Q7 Zh (Zp _)) (Zd Vd) Zo) (Ze (Zm (Zl Yc Q7 Zh (Zp _)) (Zd Vd) Zo) (Ze (Zm (Zl Yc Q7 Zh (Zp _)) (Zd Vd) Zo) (Ze (Zm (Zl Yc Q7 Zh (Zp _)) (Zd (Zn (Vi Q0 Tm.cl MM_bring (Za (Zq Ys Q6 Zf (fun _ _=>rfl)) (Za (Zq Ys Q6 Zf (fun _ _=>rfl)) Zb))))) Zo) (Ze (Zm (Zl Yc Q7 Zh (Zp _)) (Zd Vd) Zo) (Ze (Zm (Zl Yc Q7 Zh (Zp _)) (Zd Vd) Zo) (Ze (Zm (Zl Yc Q7 Zh (Zp _)) (Zd (Zn (Um Wk Q0 Tm.cl MM_claim (Za (Zq Ys Q6 Zf (fun _ _=>rfl)) (Za (Zq Ys Q6 Zf (fun _ _=>rfl)) (Za (Zq Ys Q6 Zf (fun _ _=>rfl)) (Za (Zq Ys Q6 Zf (fun _ _=>rfl)) (Za (Zq Ys Q6 Zf (fun _ _=>rfl)) (Za (Zq Ys Q6 Zf (fun _ _=>rfl)) Zb))))))))) Zo) (Ze (Zm (Zl Yc Q7 Zh (Zp _)) (Zd Vd) Zo) (Ze (Zm (Zl Yc Q7 Zh (Zp _)) (Zd Vd) Zo) (Zd (Wf Yy er (Wu (Wc Q7 (Y8 Wt)))))))))))))))),?_⟩;obtain⟨dm,obm⟩:=W.ob;cases hc with
 | come n day wt ha h4 h5 hn d0 d1 w0 w1 hc =>
  refine⟨_,rfl,a,_,0,_,rfl,rfl,ZT.of ha,rfl,?_⟩;refine Z4 ?_;refine F7 rfl ?_;exact⟨_,rfl,M.p,dm,_,rfl,obm,Wy _ aA,Ur rfl ha rfl (Ur rfl ha rfl (Ur rfl ha rfl ⟨M,ds,wa,xs,m,qs,n,day,wt,rfl,W,h4,h5,hn,d0,d1,w0,w1,hc,fun wa' H' W' T' F'=>k _ _ _ ⟨M,wa',xs,qs,rfl,W',rfl⟩ ⟨T',F'⟩⟩))⟩
 | bring n day ha h4 h5 h6 d0 d1 ok hn he =>
  refine⟨_,rfl,a,_,0,_,rfl,rfl,ZT.of ha,rfl,?_⟩;refine Z4 ?_
  iterate 4 refine K6 rfl aA ?_
  refine F7 rfl ?_;exact⟨_,rfl,M.p,dm,_,rfl,obm,Wy _ aA,Ur rfl ha rfl (Ur rfl ha rfl ⟨M,ds,wa,xs,m,qs,n,day,rfl,W,h4,h5,h6,d0,d1,ok,hn,he,fun q H' W' T' F'=>k _ _ _ ⟨M,wa,xs,qs ++ [q],rfl,W',rfl⟩ ⟨T',F'⟩⟩)⟩
 | claim x i day need l1 l2 o1 o2 f ha cs y1 y2 hx hi he =>
  refine⟨_,rfl,a,_,0,_,rfl,rfl,ZT.of ha,rfl,?_⟩;refine Z4 ?_
  iterate 7 refine K6 rfl aA ?_
  refine F7 rfl ?_;refine⟨_,rfl,M.p,dm,_,rfl,obm,Wy _ aA,Ur rfl ha rfl (Ur rfl ha rfl (Ur rfl ha rfl (Ur rfl ha rfl (Ur rfl ha rfl (Ur rfl ha rfl ⟨M.p,ds,m,_,x,i,day,need,l1,l2,o1,o2,f,rfl,⟨M,wa,xs,qs,rfl,W,rfl⟩,cs,y1,y2,hx,hi,?_⟩)))))⟩;rw[he];exact fun O' H' W' F'=>k _ _ _ W' F'
theorem Tn.keep(h:Tn C CM H p ds m O)(k:∀b o,O b->H b=some o->H' b=some o)(kt:Uo H H'):Tn C CM H' p ds m O:=by
 obtain⟨M,wa,xs,qs,e,W,rfl⟩:=h;exact⟨M,wa,xs,qs,e,W.keep k kt,rfl⟩
theorem Tn.there(h:Tn C CM H p ds m O)(hb:O b):∃o,H b=some o:=by
 obtain⟨M,wa,xs,qs,e,W,rfl⟩:=h;exact W.there hb
end
section
variable{K:uFg}{C CM CP:eZ}
def Wn(mp lu:eZ):List (Str×V):=Zk "undone" (.ref lu) (Zk "moot" (.ref mp) [])
theorem La(mp lu:eZ):(Wn mp lu).lookup ("moot" : Str)=some (.ref mp):=by unfold Wn;rw[Yg,if_neg aA,Yg,if_pos aA]
theorem Ox(mp lu:eZ):(Wn mp lu).lookup ("undone" : Str)=some (.ref lu):=by unfold Wn;rw[Yg,if_pos aA]
theorem G6{mp lu:eZ}{m:Str}(h:¬m = "undone" /\ ¬m = "moot"):(Wn mp lu).lookup m=none:=by unfold Wn;rw[Yg,if_neg h.1,Yg,if_neg h.2];rfl
structure YJ (K:uFg) (C:eZ):Prop where
 cl:VN K C
 nm:ZR K C "moot"
 nu:ZR K C "undone"
def pO(p lu:eZ)(O:eZ->Prop)(b:eZ):Prop:=b=p\/b=lu\/O b
def Ta(C CM CP:eZ)(H:Hp)(p:eZ)(ds:List ZO)(m:Mo)(O:eZ->Prop):Prop:=∃lu mp O0,(∃dx,H p=some (.ins CP dx (Wn mp lu)))/\Tn C CM H mp ds m O0/\H lu=some (.lst [])/\¬O0 p/\¬O0 lu/\O=pO p lu O0
theorem Ta.keep(h:Ta C CM CP H p ds m O)(k:∀b o,O b->H b=some o->H' b=some o)(kt:Uo H H'):Ta C CM CP H' p ds m O:=by
 obtain⟨lu,mp,O0,⟨dx,ob⟩,W,hl,n1,n2,rfl⟩:=h;exact⟨lu,mp,O0,⟨dx,k _ _ (.inl rfl) ob⟩,W.keep (fun b o hb e=>k b o (.inr (.inr hb)) e) kt,k _ _ (.inr (.inl rfl)) hl,n1,n2,rfl⟩
theorem Ta.same(h:Ta C CM CP H p ds m O)(s:ZC H H'):Ta C CM CP H' p ds m O:=h.keep (fun b o _ e=>s b o e) fun b u e=>s b _ e
theorem Ta.there(h:Ta C CM CP H p ds m O)(hb:O b):∃o,H b=some o:=by
 obtain⟨lu,mp,O0,⟨dx,ob⟩,W,hl,n1,n2,rfl⟩:=h;rcases hb with rfl | rfl | z
 ·exact⟨_,ob⟩
 ·exact⟨_,hl⟩
 ·exact W.there z
inductive Te(C CM CP:eZ)(vs:aG)(H:Hp)(Q:VK)(z3:XK):Prop
 |mk(p a) (ds ds') (m m') (O)(_:vs = [.ref p,.ref a])(_:Ta C CM CP H p ds m O)(_:VT H a O ds m ds' m')(_:∀v O' H',Ta C CM CP H' p ds' m' O'->WL O H O' H'->Q v H')
abbrev HL:Stmt:=Yr (top 90) 1
theorem Xf(Zjq:ZS K CP "does" "Past.does" HL)(Tp:YJ K CP)(Z12:YZ P w K mg base "done" 8 (Tr C CM)):WA P w K mg base CP "does" 9 (Te C CM CP):=by
 refine Zjq.mx ["self","deed","told"] ["self","deed"] fun H vs Q E hr h=>?_;obtain⟨p,a,ds,ds',m,m',O,rfl,⟨lu,mp,O0,⟨dx,ob⟩,W,hl,n1,n2,rfl⟩,hc,k⟩:=h;refine⟨rfl,_,(Ze (Zv 2 (Ub Wk Z12 (Za (Z5 Q0) (Za Q6 Zb)))) (Ze (Wj Q0 (Yh Zb)) (Zd (Zn Q7)))),?_⟩;refine⟨_,rfl,p,CP,dx,_,_,rfl,ob,Tp.cl,Tp.nm,La _ _,_,rfl,mp,ds,ds',m,m',O0,a,rfl,W,hc.sub fun b hb=>.inr (.inr hb),fun v O1 H1 W1 F1=>?_⟩;have ob1:=F1.1 _ _ ob n1;have n1':¬O1 p:=fun z=>(F1.2 _ z).elim n1 fun y=>by rw[ob] at y;cases y
 refine Z4 ?_;dsimp only [Zw];refine⟨aB rfl,fun l hl'=>?_⟩;have pl:p≠l:=Zi ob1 hl';refine nw (o:=.lst []) hl' fun H3 S3 kl=>?_;refine⟨_,rfl,p,CP,dx,_,rfl,S3 _ _ ob1,Tp.cl,Tp.nu,(show 2 < 1000 by decide),?_⟩;rw[show Zk "undone" (.ref l) (Wn mp lu)=Wn mp l from rfl];have g:∀b o,b≠p->H3 b=some o->(upd H3 p (.ins CP dx (Wn mp l))) b=some o:=fun b o nb e=>by rw[Zc nb];exact e
 have kp:(upd H3 p (.ins CP dx (Wn mp l))) p=some (.ins CP dx (Wn mp l)):=Zg;generalize (upd H3 p (.ins CP dx (Wn mp l)))=H4 at g kp ⊢;have nl:¬O1 l:=fun z=>by obtain⟨o,e⟩:=W1.there z;rw[hl'] at e;cases e
 refine⟨_,rfl,k v _ H4 ⟨l,mp,O1,⟨dx,kp⟩,W1.keep (fun b o hb e=>g b o (fun z=>n1' (z▸hb)) (S3 _ _ e)) (fun b u e=>g b _ (fun z=>by rw[z,ob1] at e;cases e) (S3 _ _ e)),g _ _ (Ne.symm pl) kl,n1',nl,rfl⟩ ⟨fun b o e nb=>g b o (fun z=>nb (.inl z)) (S3 _ _ (F1.1 b o e fun z=>nb (.inr (.inr z)))),fun b hb=>?_⟩⟩;rcases hb with z | z | z
 ·exact .inl (.inl z)
 ·subst z
  by_cases y:O0 b
  ·exact .inl (.inr (.inr y))
  ·refine .inr ?_;cases e:H b with
   | none=>rfl
   | some o=>rw[F1.1 b o e y] at hl';cases hl'
 ·exact(F1.2 b z).imp (fun y=>.inr (.inr y)) id
inductive Tg(C CM CP:eZ)(vs:aG)(H:Hp)(Q:VK)(z3:XK):Prop
 |mk(p) (ds) (m) (O)(_:vs = [.ref p])(_:Ta C CM CP H p ds m O)(_:Q (.int 0) H)
abbrev Ip:Stmt:=Yr (top 90) 4
theorem RJ(Zjr:ZS K CP "waiting" "Past.waiting" Ip)(T:Txt mg)(Tp:YJ K CP):Mt P w K mg base CP "waiting" ["self"] 1 (Tg C CM CP):=by
 refine Zjr.mq ["self"] fun H vs Q E hr h=>?_;obtain⟨p,ds,m,O,rfl,⟨lu,mp,O0,⟨dx,ob⟩,W,hl,n1,n2,rfl⟩,k⟩:=h;refine⟨rfl,_,(Zd (Zn (Zx Yx T.len Z8 (Za (Z5 Q0) Zb)))),?_⟩;exact⟨_,rfl,p,CP,dx,_,_,rfl,ob,Tp.cl,Tp.nu,Ox _ _,lu,[],rfl,.inl (ZF.of hl),k⟩
inductive UC(C CM CP:eZ)(vs:aG)(H:Hp)(Q:VK)(z3:XK):Prop
 |mk(p dx)(_:vs = [.ref p])(_:H p=some (.ins CP dx []))(_:∀O H',Ta C CM CP H' p [] mo0 O->(∀b o,H b=some o->b≠p->H' b=some o)->(∀b,O b->b=p\/H b=none)->Q .non H')
abbrev Lr:Stmt:=Yr (top 90) 0
theorem Xg(Zjs:ZS K CP "__init__" "Past.__init__" Lr)(Tp:YJ K CP)(M_Moot:AG P w K mg base CM "Moot" 3 (UB C CM)):Mt P w K mg base CP "__init__" ["self"] 5 (UC C CM CP):=by
 refine Zjs.mq ["self"] fun H vs Q E hr h=>?_;obtain⟨p,dx,rfl,hp,k⟩:=h;refine⟨rfl,_,(Ze (Wj Q0 (C6 M_Moot)) (Zd (Wj Q0 (Yh Zb)))),?_⟩;intro x dx2 nx ndx nex;refine⟨x,dx2,rfl,Zg,fun M2 H2 eM W2 kp fr=>⟨rfl,?_⟩⟩;subst eM;have S2:ZC H H2:=fun b o e=>kp b o (by rw[Zc (Zi e nx),Zc (Zi e ndx)];exact e) (Zi e nx);have fr2:∀b,mo M2 [] (fun _=>0) [] [] b->H b=none:=fun b hb=>by
  rcases fr b hb with z | z
  ·rw[z];exact nx
  ·by_cases c1:b=M2.p
   ·rw[c1];exact nx
   ·rw[Zc c1] at z
    by_cases c2:b=dx2
    ·rw[c2];exact ndx
    ·rw[Zc c2] at z;exact z
 have nmp:¬mo M2 [] (fun _=>0) [] [] p:=fun z=>by have:=fr2 p z;rw[hp] at this;cases this
 refine⟨_,rfl,p,CP,dx,[],rfl,S2 _ _ hp,Tp.cl,Tp.nm,(by show 0 < 1000;decide),?_⟩;have g:∀b o,b≠p->H2 b=some o->(upd H2 p (.ins CP dx (Zk "moot" (.ref M2.p) []))) b=some o:=fun b o nb e=>by rw[Zc nb];exact e
 have kp3:(upd H2 p (.ins CP dx (Zk "moot" (.ref M2.p) []))) p=some (.ins CP dx (Zk "moot" (.ref M2.p) [])):=Zg;have fr3:∀b,(upd H2 p (.ins CP dx (Zk "moot" (.ref M2.p) []))) b=none->H2 b=none:=fun b e=>by
  by_cases z:b=p
  ·rw[z,Zg] at e;cases e
  ·rwa [Zc z] at e
 generalize (upd H2 p (.ins CP dx (Zk "moot" (.ref M2.p) [])))=H3 at g kp3 fr3 ⊢;refine⟨aB rfl,fun l hl=>?_⟩;have pl:p≠l:=Zi kp3 hl;refine nw (o:=.lst []) hl fun H4 S4 kl=>?_;refine⟨_,rfl,p,CP,dx,_,rfl,S4 _ _ kp3,Tp.cl,Tp.nu,(show 1 < 1000 by decide),?_⟩;change Q .non (upd H4 p (.ins CP dx (Wn M2.p l)));have g5:∀b o,b≠p->H4 b=some o->(upd H4 p (.ins CP dx (Wn M2.p l))) b=some o:=fun b o nb e=>by rw[Zc nb];exact e
 have kp5:(upd H4 p (.ins CP dx (Wn M2.p l))) p=some (.ins CP dx (Wn M2.p l)):=Zg;generalize (upd H4 p (.ins CP dx (Wn M2.p l)))=H5 at g5 kp5 ⊢;have all:∀b o,b≠p->H2 b=some o->H5 b=some o:=fun b o nb e=>g5 b o nb (S4 _ _ (g b o nb e));have W5:Tn C CM H2 M2.p [] mo0 (mo M2 [] (fun _=>0) [] []):=⟨M2,_,[],[],rfl,W2,rfl⟩;refine k _ H5 ⟨l,M2.p,_,⟨dx,kp5⟩,W5.keep (fun b o hb e=>all b o (fun z=>nmp (z▸hb)) e) (fun b u e=>all b _ (fun z=>by rw[z,S2 _ _ hp] at e;cases e) e),g5 _ _ (Ne.symm pl) kl,nmp,(fun z=>by obtain⟨o,e⟩:=W2.there z;rw[fr3 l hl] at e;cases e),rfl⟩ (fun b o e nb=>all b o nb (S2 _ _ e)) (fun b hb=>?_);rcases hb with z | z | z
 ·exact .inl z
 ·exact .inr (S2.free (z▸fr3 l hl))
 ·exact .inr (fr2 b z)
end
section
variable{w:fB}{K:uFg}{mg:eR}{C CM CP CD:eZ}{c:eV}
def df7:List (Str×Str):=[("stands","b"),("who","bb"),("forsworn","a"),("balance","ab"),("moment",""),("undo",""),("redo","")]
def Wi(w:Str):Option Str:=(df7.find? fun x=>decide (x.1=w)).map (·.2)
theorem Cv{w f:Str}(h:Wi w=some f):(w,f)∈df7:=by
 unfold Wi at h;obtain⟨q,h1,h2⟩:=xS.mp h;have:=List.mem_of_find?_eq_some h1;have e:=List.find?_some h1;rw[← h2,← of_decide_eq_true e];exact this
theorem HM{w:Str}(h:Wi w=none):∀q∈df7,q.1≠w:=fun q hq e=>by
 unfold Wi at h;rw[zK,zS] at h;exact h q hq (by simpa using e)
def Bx(ws:eS):Prop:=∃x r,ws=x::r/\((∃f,Wi x=some f/\∃ps,isPs (Z9 (cs f)) r ps)\/(Wi x=none/\∃d,Dk d/\ws=toks d))
structure Lb (K:uFg) (mg:eR) (pr:Params) (dA:eZ) (kA:List (Str×Tok×eZ)):Prop where
 cA:mg "ASKED" = some (.ref dA)
 A:Bc K pr dA kA
 y:∀q∈df7,∃t,Yz kA q.1=some t/\∀H,ZT K H t ((Z9 (cs q.2)).map V.str)
 n:∀x,Wi x=none->Yz kA x=none
def T9(p:eZ):List (Str×V):=Zk "past" (.ref p) []
structure YQ (K:uFg) (C:eZ):Prop where
 cl:VN K C
 np:ZR K C "past"
theorem DW(p:eZ):(T9 p).lookup ("past" : Str)=some (.ref p):=by unfold T9;rw[Yg,if_pos aA]
theorem D9{p:eZ}{m:Str}(h:¬m = "past"):(T9 p).lookup m=none:=by unfold T9;rw[Yg,if_neg h];rfl
def VU(C CM CP CD:eZ)(H:Hp)(q:eZ)(ds:List ZO)(m:Mo)(O:eZ->Prop):Prop:=∃p O1,(∃dx,H q=some (.ins CD dx (T9 p)))/\Ta C CM CP H p ds m O1/\¬O1 q/\O=fun b=>b=q\/O1 b
theorem VU.keep{q:eZ}(h:VU C CM CP CD H q ds m O)(k:∀b o,O b->H b=some o->H' b=some o)(kt:Uo H H'):VU C CM CP CD H' q ds m O:=by
 obtain⟨p,O1,⟨dx,ob⟩,W,n1,rfl⟩:=h;exact⟨p,O1,⟨dx,k _ _ (.inl rfl) ob⟩,W.keep (fun b o hb e=>k b o (.inr hb) e) kt,n1,rfl⟩
theorem VU.same{q:eZ}(h:VU C CM CP CD H q ds m O)(s:ZC H H'):VU C CM CP CD H' q ds m O:=h.keep (fun b o _ e=>s b o e) fun b u e=>s b _ e
theorem VU.there{q:eZ}(h:VU C CM CP CD H q ds m O)(hb:O b):∃o,H b=some o:=by
 obtain⟨p,O1,⟨dx,ob⟩,W,n1,rfl⟩:=h;rcases hb with rfl | z
 ·exact⟨_,ob⟩
 ·exact W.there z
inductive VZ(C CM CP CD:eZ)(vs:aG)(H:Hp)(Q:VK)(z3:XK):Prop
 |mk(q dx)(_:vs = [.ref q])(_:H q=some (.ins CD dx []))(_:∀O H',VU C CM CP CD H' q [] mo0 O->(∀b o,H b=some o->b≠q->H' b=some o)->(∀b,O b->b=q\/H b=none)->Q .non H')
abbrev IG:Stmt:=Yr (top 93) 0
theorem Sx(Zjt:ZS K CD "__init__" "Desk.__init__" IG)(Td:YQ K CD)(M_Past:AG P w K mg base CP "Past" 5 (UC C CM CP)):Mt P w K mg base CD "__init__" ["self"] 7 (VZ C CM CP CD):=by
 refine Zjt.mq ["self"] fun H vs Q E hr h=>?_;obtain⟨q,dx,rfl,hq,k⟩:=h;refine⟨rfl,_,(Zd (Wj Q0 (C6 M_Past))),?_⟩;intro x dx2 nx ndx nex;refine⟨x,dx2,rfl,Zg,fun O2 H2 W2 kp fr=>⟨rfl,?_⟩⟩;have S2:ZC H H2:=fun b o e=>kp b o (by rw[Zc (Zi e nx),Zc (Zi e ndx)];exact e) (Zi e nx);have fr2:∀b,O2 b->H b=none:=fun b hb=>by
  rcases fr b hb with z | z
  ·rw[z];exact nx
  ·by_cases c1:b=x
   ·rw[c1];exact nx
   ·rw[Zc c1] at z
    by_cases c2:b=dx2
    ·rw[c2];exact ndx
    ·rw[Zc c2] at z;exact z
 have nq:¬O2 q:=fun z=>by have:=fr2 q z;rw[hq] at this;cases this
 refine⟨_,rfl,q,CD,dx,[],rfl,S2 _ _ hq,Td.cl,Td.np,(by show 0 < 1000;decide),?_⟩;change Q .non (upd H2 q (.ins CD dx (T9 x)));have g:∀b o,b≠q->H2 b=some o->(upd H2 q (.ins CD dx (T9 x))) b=some o:=fun b o nb e=>by rw[Zc nb];exact e
 have kq:(upd H2 q (.ins CD dx (T9 x))) q=some (.ins CD dx (T9 x)):=Zg;generalize (upd H2 q (.ins CD dx (T9 x)))=H3 at g kq ⊢;exact k _ H3 ⟨x,O2,⟨dx,kq⟩,W2.keep (fun b o hb e=>g b o (fun z=>nq (z▸hb)) e) (fun b u e=>g b _ (fun z=>by rw[z,S2 _ _ hq] at e;cases e) e),nq,rfl⟩ (fun b o e nb=>g b o nb (S2 _ _ e)) (fun b hb=>hb.imp id fun z=>fr2 b z)
inductive US(C CM CP CD:eZ)(c:eV)(vs:aG)(H:Hp)(Q:VK)(E:XK):Prop
 |mk(q) (t) (ds) (m) (O)(_:vs = [.ref q,.str t])(_:VU C CM CP CD H q ds m O)(_:Yn 10000 t)(_:((∃d,Dk d/\Wi d.w=none/\Txt.split t " " = toks d/\∀a ra rb H1,Uz H1 d a ra rb->(d.rows≠none->H ra=none/\H rb=none)->ZC H H1->∃ds' m',VT H1 a O ds m ds' m'/\∀v O' H',VU C CM CP CD H' q ds' m' O'->WL O H O' H'->Q v H')\/(¬Bx (Txt.split t " ")/\∀H',ZC H H'->E (.ref (c "NoDeed")) none H')))
abbrev Km:Stmt:=Yr (top 93) 2
theorem Sw(Zju:ZS K CD "carry_out" "Desk.carry_out" Km)(Td:YQ K CD)(Tp:YJ K CP)(tb:Lb K mg w.params dA kA)(Z13:YZ P w K mg base "read_deed" 4 (Tt c))(Ze8:YZ P w K mg base "read_values" 3 (WS K c))(MP_does:WA P w K mg base CP "does" 9 (Te C CM CP))(MD_reply:WA P w K mg base CD "reply" 1 fun _ _ _ _=>False):WA P w K mg base CD "carry_out" 10 (US C CM CP CD c):=by
 have c_ASKED:=tb.cA;have r_ASKED:ZG (.ref dA) (.ref dA):=rfl;refine Zju.mx ["self","line","words"] ["self","line"] fun H vs Q E hr h=>?_;obtain⟨q,t,ds,m,O,rfl,W,ht,hk⟩:=h;refine⟨rfl,_,(Ze (Zv 2 (Y6 F.plainAttrs_str F.slot_str_split F.type_str_split Bo Q6 (Za Zh Zb))) (Ze (Zm (Zl Ea (Zq Z3 Q7 Zf (fun _ _=>rfl)) (Yv c_ASKED r_ASKED) rfl) (Zd (Zn (Um Wk Q0 Td.cl MD_reply (Za (Zq Z3 Q7 Zf (fun _ _=>rfl)) (Za (Ub Wk Ze8 (Za (Yq Ws Q7 (Ym Zf) Yw) (Za (Zq ES (Yv c_ASKED r_ASKED) (Zq Z3 Q7 Zf (fun _ _=>rfl)) (fun _ _=>rfl)) Zb))) Zb))))) Zo) (Zd (Zn (Um Wk (Z5 Q0) Tp.cl MP_does (Za (Ub Wk Z13 (Za Q6 Zb)) Zb)))))),?_⟩;have hZ:(100000:Nat)<=sizeLine:=by decide
 obtain⟨p,O1,⟨dx,ob⟩,Wp,n1,rfl⟩:=id W;obtain⟨x,rest,es,hwd,hlr⟩:=B9 ht (xH _);have hl0:=ht.1;refine⟨_,rfl,rfl,t, " ", rfl,rfl,aA,by lia,fun l hl=>?_⟩;rw[es];rw[es] at hk;refine nw (o:=.lst ((x::rest).map V.str)) hl fun H1 S1 k1=>?_;refine Z4 ?_;dsimp only [Zw];refine⟨_,rfl,l,_,0,.str x,rfl,rfl,ZF.of k1,Yb (j:=0) rfl,x,dA,kA,rfl,rfl,tb.A,_,rfl,?_⟩;cases hf:Wi x with
 | some f =>
  obtain⟨t1,hA,hsq⟩:=tb.y _ (Cv hf);rw[hA];refine Z2 ?_;have hno:¬Bx (x::rest):=hk.elim (fun⟨d,_,h2,h3,_⟩=>by rw[show d.w=x by injection h3 with z _;exact z.symm,hf] at h2;cases h2) fun z=>z.1;have ke:∀H',ZC H H'->E (.ref (c "NoDeed")) none H':=hk.elim (fun⟨d,_,h2,h3,_⟩=>by rw[show d.w=x by injection h3 with z _;exact z.symm,hf] at h2;cases h2) fun z=>z.2;have hkinds:=Dz (cs f);refine⟨_,rfl,q,dx,_,rfl,S1 _ _ ob,D9 aA,_,rfl,l,_,0,.str x,rfl,rfl,ZF.of k1,Yb (j:=0) rfl,_,rfl,_,rfl,l,_,rfl,ZF.of k1,fun l3 hl3=>?_⟩;have ec:Yl ((x::rest).map V.str) (some 1) none=rest.map V.str:=A9 (pre:=[.str x]) rfl rfl;rw[ec];refine nw (o:=.lst (rest.map V.str)) hl3 fun H3 S3 k3=>?_;exact⟨_,rfl,l,_,0,.str x,rfl,rfl,ZF.of (S3 _ _ k1),Yb (j:=0) rfl,x,dA,t1,kA,rfl,rfl,tb.A,hA,l3,t1,rest,_,rfl,k3,fun _ _=>hsq _,fun y hy=>hwd y (xG _ hy),by lia,hkinds,(fun ps _ _ hps _ _ _=>absurd ⟨x,rest,rfl,.inl ⟨f,hf,ps,hps⟩⟩ hno),fun _ H4 s4=>ke H4 ((S1.trans S3).trans s4)⟩
 | none =>
  rw[tb.n x hf];refine Zy ?_;dsimp only [Zw];refine⟨_,rfl,q,CD,dx,_,_,rfl,S1 _ _ ob,Td.cl,Td.np,DW _,?_⟩;have Wp1:=Wp.same S1;obtain⟨lu,mp,O0,⟨dy,ob1⟩,Wm,hlu,m1,m2,eO⟩:=id Wp1;refine⟨p,dy,_,rfl,ob1,G6 ⟨aA,aA⟩,_,rfl,t,rfl,ht,fun d a ra rb H2 hd ed dat fr s2=>?_,fun hno H2 s2=>?_⟩
  ·rw[es] at ed;have S2:=S1.trans s2;rcases hk with⟨d',h1,h2,h3,k⟩ | ⟨hn,_⟩
   ·obtain rfl:d=d':=RB hd h1 (ed.symm.trans h3);obtain⟨ds',m',can,kq⟩:=k a ra rb H2 dat (fun z=>⟨S1.free (fr z).1,S1.free (fr z).2⟩) S2;refine⟨p,a,ds,ds',m,m',O1,rfl,Wp.same S2,can.sub fun b hb=>.inr hb,fun v O' H' W' F'=>?_⟩;exact kq v _ H' ⟨p,O',⟨dx,F'.1 _ _ (S2 _ _ ob) n1⟩,W',(fun z=>(F'.2 _ z).elim n1 fun y=>by rw[S2 _ _ ob] at y;cases y),rfl⟩ ⟨fun b o e nb=>F'.1 b o (S2 _ _ e) fun z=>nb (.inr z),fun b hb=>hb.elim (fun z=>.inl (.inl z)) fun z=>(F'.2 b z).elim (fun y=>.inl (.inr y)) fun y=>.inr (S2.free y)⟩
   ·exact absurd ⟨x,rest,rfl,.inr ⟨hf,d,hd,ed⟩⟩ hn
  ·refine(hk.elim (fun⟨d,h1,_,h3,_⟩=>absurd (es.trans h3) (hno d h1)) fun z=>z.2) H2 (S1.trans s2)
inductive Jz(C CM CP CD:eZ)(vs:aG)(H:Hp)(Q:VK)(z3:XK):Prop
 |mk(q) (t) (ds) (m) (O)(_:vs = [.ref q,.str t])(_:VU C CM CP CD H q ds m O)(_:Yn 10000 t)(_:((∃d,Dk d/\Wi d.w=none/\Txt.split t " " = toks d/\∀a ra rb H1,Uz H1 d a ra rb->(d.rows≠none->H ra=none/\H rb=none)->ZC H H1->∃ds' m',VT H1 a O ds m ds' m'/\∀v l O' H',H' l=some (.tup [.bl true,v])->VU C CM CP CD H' q ds' m' O'->WL O H O' H'->Q (.ref l) H')\/(¬Bx (Txt.split t " ")/\∀l H',H l=none->H' l=some (.tup [.bl false,.str "NoDeed"])->ZC H H'->Q (.ref l) H')))
abbrev E8:Stmt:=Yr (top 93) 1
theorem Ph:ZL ["self","line","told","refusal"] ["self","line"] (Zj E8):=fsc
theorem OE(Zjw:ZS K CD "say" "Desk.say" E8)(Td:YQ K CD)(er:Er K mg c errs)(sy:TM P w K mg base (c "NoDeed") "called" "NoDeed")(MD_carry_out:WA P w K mg base CD "carry_out" 10 (US C CM CP CD c)):Mt P w K mg base CD "say" ["self","line"] 11 (Jz C CM CP CD):=by
 refine Zjw.mt0 Ph (fun _ _ _ _ _ _=>al2 fun _ _=>rfl) (fun vs H Q E h=>?_) (fun f cdv A outer s H vs Q E hr h=>?_)
 ·obtain⟨q,t,ds,m,O,rfl,_⟩:=h;rfl
 ·obtain⟨q,t,ds,m,O,rfl,W,ht,hk⟩:=h;refine⟨_,(HR (ON GF (fun _ _ hx=>(Zd (Zv 2 (Um hx Q0 Td.cl MD_carry_out (Za Q6 Zb))))) (Sv 3 GF (er.m) (fun a C o hc=>(Zd (Zn (Vb (Za Wq (Za (Mp hc Q8) Zb)))))) dG)) (HR (QS.q0 (Zn (Vb (Za Wq (Za Q7 Zb))))) (YS.q0 Zo))),?_⟩;obtain⟨p,O1,⟨dx,ob⟩,Wp,n1,rfl⟩:=id W;refine⟨_,rfl,q,dx,_,rfl,ob,D9 aA,_,rfl,q,t,ds,m,_,rfl,W,ht,?_⟩;rcases hk with⟨d,h1,h2,h3,k⟩ | ⟨hn,k⟩
  ·refine .inl ⟨d,h1,h2,h3,fun a ra rb H1 dat fr S1=>?_⟩;obtain⟨ds',m',can,kq⟩:=k a ra rb H1 dat fr S1;refine⟨ds',m',can,fun v O' H' W' F'=>?_⟩;refine Z4 ?_;dsimp only [Zw];refine⟨_,rfl,aB rfl,fun l hl=>?_⟩;have S2:=ZC.new (o:=.tup [.bl true,v]) hl;exact kq v l O' _ Zg (W'.same S2) (F'.trans (WL.same S2))
  ·refine .inr ⟨hn,fun H' S'=>⟨_,rfl,true,er.e _ aA,Z2 fun a=>?_⟩⟩;refine⟨_,rfl, "NoDeed", rfl,sy,aB rfl,fun l hl=>?_⟩;exact k l _ (S'.free hl) Zg (S'.trans (ZC.new hl))
end
section
variable{K:uFg}{kP kS:List (Str×Tok×eZ)}
theorem Iu(h:WV K kP kS d):Yn 600 (text d):=by
 refine⟨by rw[DZ];exact BG h (List.prefix_refl _),fun c hc=>?_⟩;rw[DZ,TK] at hc;have big:c<=122->c < 16 ^ 8:=fun h=>yU h aA;rcases FJ _ c hc with rfl | ⟨a,ha,hc⟩
 ·decide
 obtain⟨x,hx,rfl⟩:=yS.mp ha;refine big ?_;rcases xC.mp hx with rfl | hx
 ·exact(h.word.1 c hc).2
 rcases xI.mp hx with hx | hx
 ·obtain⟨p,hp,rfl⟩:=yS.mp hx;have ok:=h.ps p hp;cases p with
  | nm y=>exact(ok.1 c hc).2
  | no i=>have:=(Jr ok).all c hc;lia
 ·have hr:=h.rows;cases e:d.rows with
  | none=>rw[e] at hx;cases hx
  | some ab =>
   obtain⟨a,b⟩:=ab;rw[e] at hx hr;rcases xC.mp hx with rfl | hx
   ·rw[DC] at hc;rw[xO.mp hc];decide
   rcases xI.mp hx with hx | hx
   ·exact((hr.1.1 x hx).1 c hc).2
   ·rcases xC.mp hx with rfl | hx
    ·rw[B2] at hc;rw[xO.mp hc];decide
    ·exact((hr.2.1 x hx).1 c hc).2
abbrev dfA:List (ZQ×V):=[(.inr "stands", .str "b"),(.inr "who", .str "bb"),(.inr "forsworn", .str "a"),(.inr "balance", .str "ab"),(.inr "moment", .str ""),(.inr "undo", .str ""),(.inr "redo", .str "")]
def dfR(x:Str):V:=match Wi x with
 | some f=>.str f
 | none=>.non
theorem Nr(x:Str):(Z1 (Yu [] dfA) (.inr x)).getD .non=dfR x:=by
 unfold dfR;cases h:Wi x with
 | none =>
  have ne:∀q∈df7,¬(Sum.inr x:ZQ)=Sum.inr q.1:=fun q hq e=>HM h q hq (by injection e with e;exact e.symm);simp only[df7,xC,xT,or_false,forall_eq_or_imp,forall_eq] at ne;obtain⟨n1,n2,n3,n4,n5,n6,n7⟩:=ne;simp only[Yu,dfA,List.foldl_cons,List.foldl_nil,Aa,if_neg n1,if_neg n2,if_neg n3,if_neg n4,if_neg n5,if_neg n6,if_neg n7];rfl
 | some f =>
  have:=Cv h;simp only[df7,xC,xT,or_false,Prod.mk.injEq] at this;rcases this with⟨rfl,rfl⟩ | ⟨rfl,rfl⟩ | ⟨rfl,rfl⟩ | ⟨rfl,rfl⟩ | ⟨rfl,rfl⟩ | ⟨rfl,rfl⟩ | ⟨rfl,rfl⟩<;>decide +kernel
inductive WO(vs:aG)(H:Hp)(Q:VK)(z3:XK):Prop
 |mk(x)(_:vs = [.str x])(_:∀H',ZC H H'->Q (dfR x) H')
abbrev Hz:Stmt:=top 113
theorem dX(Zjx:YA K mg "_law_desk_form" Hz)(T:Txt mg):Fn P w K mg base "_law_desk_form" ["_law_word_here"] 1 WO:=by
 refine Zjx.fq ["_law_word_here","_law_forms"] fun H vs Q E hr h=>?_;obtain⟨x,rfl,k⟩:=h;refine⟨rfl,_,(Ze (Zv 1 (FU (Wv Zh Zh (Wv Zh Zh (Wv Zh Zh (Wv Zh Zh (Wv Zh Zh (Wv Zh Zh (Wv Zh Zh Ex))))))))) (Zd (Zn (CU hr Q6 Q0 Yi)))),?_⟩;refine fun p hp=>?_;refine⟨Zg,dfA,rfl,aA,?_⟩;have S1:ZC H (upd (upd H p (.dK [])) p (.dK (Yu [] dfA))):=fun b o eb=>by rw[Zc (Zi eb hp),Zc (Zi eb hp)];exact eb
 have k1:(upd (upd H p (.dK [])) p (.dK (Yu [] dfA))) p=some (.dK (Yu [] dfA)):=Zg;generalize (upd (upd H p (.dK [])) p (.dK (Yu [] dfA)))=H1 at S1 k1 ⊢;refine Z4 ?_;dsimp only [Zw];have fin:Q ((Z1 (Yu [] dfA) (.inr x)).getD .non) H1:=by rw[Nr];exact k _ S1
 exact⟨_,rfl,p,rfl,.inl ⟨_,.inl k1⟩,_,rfl,_,ZY.k (k:=Sum.inr x) k1,fin⟩
theorem IP:∀q∈df7,q.2.length<=2/\Z9 (cs q.2)=(cs q.2).map kdC:=by
 intro q hq;simp only[df7,xC,xT,or_false] at hq;rcases hq with rfl | rfl | rfl | rfl | rfl | rfl | rfl<;>exact⟨aA,aA⟩
inductive VP(vs:aG)(H:Hp)(Q:VK)(z3:XK):Prop
 |mk(t)(_:vs = [.str t])(_:Yn 10000 t)(_:∀b H',(b=true↔Bx (Txt.split t " "))->ZC H H'->Q (.bl b) H')
abbrev Ep:Stmt:=top 114
theorem Oy:Nm (Zj Ep) "zip" .globalImplicit:=aA
theorem Nz(Zjz:YA K mg "_law_is_line" Ep)(T:Txt mg)(Zj0:Fn P w K mg base "_law_desk_form" ["_law_word_here"] 1 WO)(Z18:Fn P w K mg base "_law_read" ["_law_text"] 3 UV)(Zjk:Fn P w K mg base "_law_read_part" ["_law_sign","_law_word_here"] 2 WU):Fn P w K mg base "_law_is_line" ["_law_text"] 4 VP:=by
 refine Zjz.fq ["_law_text","_law_words","_law_form_here"] fun H vs Q E hr h=>?_;obtain⟨t,rfl,ht,k⟩:=h
 refine⟨rfl,_,(Ze (Zv 1 (Y6 F.plainAttrs_str F.slot_str_split F.type_str_split Bo Q0 (Za Zh Zb))) (Ze (Zv 2 (Zs Zj0 (Za (Zq Z3 Q6 Zf (fun _ _=>rfl)) Zb))) (Ze (Zm (Zl BN Q7 Yi (Zp _)) (Zd (Zn (Uk Ad (Zs Z18 (Za Q0 Zb)) Yi (Zp _)))) Zo) (Ze (Zm (Zl TH (Zx Yx T.len Z8 (Za Q6 Zb)) (Zr Wb Zf (Zx Ue T.len Z8 (Za Q7 Zb))) (Zp _)) (Zd (Zn Wq)) Zo) (Zd (Zn (Uk (RF hr) Yi (Uh (locs:=["_law_sign","_law_word_here"]) (fr:=[]) ⟨rfl,aA,aA,aA,aA,aA⟩ .nil rfl (HJ Oy.1 T.zip (Za Q7 (Za (Yq Ws Q6 (Ym Zf) Yw) Zb))) ⟨fun _ _ _ _ _ _=>by
  have cnd:(inN ["_law_sign","_law_word_here"] []).Nodup:=aA
  exact⟨(A6 2 (by rfl) (Va (Y4 0 cnd) (Va (Y4 1 cnd) Jv))),Vn,(Zs Zjk (Za (Y3 0) (Za (Y3 1) Zb)) (n:=nmC))⟩⟩) rfl))))))),?_⟩
 have hz:(200000:Nat)<=sizeLine:=by decide
 obtain⟨x,rest,es,hwd,hlr⟩:=B9 ht (xH _);have hl0:=ht.1;refine⟨_,rfl,rfl,t, " ", rfl,rfl,aA,by lia,fun l hl=>?_⟩;rw[es];refine nw (o:=.lst ((x::rest).map V.str)) hl fun H1 S1 k1=>?_;refine Z4 ?_;dsimp only [Zw];refine⟨_,rfl,l,_,0,.str x,rfl,rfl,ZF.of k1,Yb (j:=0) rfl,x,rfl,fun H2 s2=>?_⟩;replace S1:=S1.trans s2;replace k1:=s2 _ _ k1;refine Z4 ?_;dsimp only [Zw];cases hf:Wi x with
 | none =>
  have e:dfR x = .non:=by unfold dfR;rw[hf]
  rw[e];refine⟨_,rfl,rfl,_,rfl,Zu (fun _=>?_) (fun z=>absurd rfl z)⟩;refine⟨_,rfl,t,rfl,ht,fun d p ra rb H' hd ed dat s=>?_,fun hno H' s=>?_⟩
  ·refine⟨rfl,k true _ ⟨fun _=>?_,fun _=>rfl⟩ (S1.trans s)⟩;exact⟨x,rest,es,.inr ⟨hf,d,hd,ed⟩⟩
  ·refine⟨rfl,k false _ ⟨(fun z=>nomatch z),fun z=>?_⟩ (S1.trans s)⟩;obtain⟨x',r',e',z | ⟨_,d,hd,ed⟩⟩:=z
   ·obtain⟨f,g,_⟩:=z;rw[es] at e';cases e';rw[hf] at g;cases g
   ·exact absurd ed (hno d hd)
 | some f' =>
 have e:dfR x = .str f':=by unfold dfR;rw[hf]
 rw[e];refine⟨_,rfl,rfl,_,rfl,Zu (fun z=>nomatch z) (fun _=>?_)⟩;dsimp only [Zw];have hfm:=Cv hf;obtain⟨hf2,eks⟩:=IP _ hfm;dsimp only at hf2 eks;have hkinds:=Dz (cs f');have ekl:(Z9 (cs f')).length=f'.length:=by rw[eks,xA,Z7]
 have fin:∀{b:Bool}{H':Hp},(b=true↔∃ps,isPs (Z9 (cs f')) rest ps)->ZC H H'->Q (.bl b) H':=fun hb s=>k _ _ (hb.trans ⟨fun⟨ps,z⟩=>⟨x,rest,es,.inl ⟨f',hf,ps,z⟩⟩,fun⟨x',r',e',z⟩=>by
  rw[es] at e';cases e';rcases z with⟨f,g,z⟩ | ⟨g,_⟩
  ·rw[hf] at g;cases g;exact z
  ·rw[hf] at g;cases g⟩) s
 refine⟨_,rfl,l,_,rfl,.inl (ZF.of k1),_,rfl,f',rfl,by lia,_,_,rfl,rfl,rfl,_,rfl,Wd (fun hne=>?_) (fun hne=>?_)⟩
 ·refine fin ⟨(fun z=>nomatch z),fun⟨ps,z⟩=>?_⟩ S1;have h1:=congrArg List.length z.1;have h2:=congrArg List.length z.2.1;rw[xA] at h1 h2;refine absurd (congrArg V.int ?_) hne;rw[xA,xF];lia
 dsimp only [Zw];have hne:rest.length=f'.length:=by injection hne with hne;rw[xA,xF] at hne;lia
 refine⟨_,rfl,_,rfl,_,rfl,l,_,rfl,ZF.of k1,fun l5 hl5=>?_⟩;have ec:Yl ((x::rest).map V.str) (some 1) none=rest.map V.str:=A9 (pre:=[.str x]) rfl rfl;rw[ec];refine nw (o:=.lst (rest.map V.str)) hl5 fun H5 S5 k5=>?_;refine⟨f',l5,_,rfl,ZF.of k5,fun a5 n5=>?_⟩;refine Gu (rest.map V.str) (by rw[xA];exact zZ hne.symm) n5 (fun i ys H'=>ZC H5 H'/\ys=List.zipWith ptW ((Z9 (cs f')).take i) (rest.take i)) ⟨ZC.refl _,by rw[List.take_zero,List.take_zero];rfl⟩ (by lia) (fun i ys H' _ ⟨e,_⟩=>ZF.of (e _ _ k5)) (fun i ys H' ⟨_,e⟩=>by rw[e,List.length_zipWith,xU,xU];lia) ?_ ?_
 ·rintro i cc z p ys H' hcc hzz ⟨sm,rfl⟩ hpn' ls hls;obtain⟨w0,w1,rfl⟩:=Bf hls;rw[xK] at hzz;obtain⟨y,hyi,rfl⟩:=xS.mp hzz;refine nw (o:=.tup [.str ⟨#[cc]⟩,.str y]) hpn' fun H6 Sp' kp=>?_;refine⟨p,_,rfl,ZT.of kp,rfl,_,_,rfl,_,_,rfl,rfl,⟨[_,_],rfl,rfl⟩,?_⟩;have hki:(Z9 (cs f'))[i]? = some (kdC cc):=by rw[eks,xK,hcc];rfl
  refine⟨_,rfl,_,rfl,cc,y,rfl,by have:=(hwd y (xG _ (xN hyi))).1;lia,sm.trans Sp',?_⟩;rw[IL hki hyi]
 rintro ys H' ⟨sm,rfl⟩ l6 hl6;rw[show List.zipWith ptW ((Z9 (cs f')).take f'.length) (rest.take f'.length)=List.zipWith ptW (Z9 (cs f')) rest by rw[yP (by lia),yP (by lia)]];have hzc:=Ee (show (Z9 (cs f')).length=rest.length by lia) hkinds;have hzf:∀{H},∀v∈List.zipWith ptW (Z9 (cs f')) rest,Tx H v:=Ic _ _;generalize List.zipWith ptW (Z9 (cs f')) rest=zs at hzc hzf ⊢;have S6:=ZC.new (o:=.lst zs) hl6;refine⟨rfl,l6,zs,rfl,ZF.of Zg,hzf,fin ?_ (((S1.trans S5).trans sm).trans S6)⟩;rcases hzc with⟨ps,h1,h2⟩ | ⟨h1,h2⟩
 ·refine⟨fun _=>⟨ps,h1⟩,fun _=>?_⟩;rw[h2,Ey];rfl
 ·rw[h2];exact⟨(fun z=>nomatch z),fun⟨ps,z⟩=>absurd z (h1 ps)⟩
def w8:List Str:=["stands","who","forsworn","balance","moment","undo","redo","deed"]
theorem Pd(h0 : 0<=d)(h1:d < 8):∃x,atI (w8.map V.str) d=some (.str x)/\(x = "deed" \/ ∃f,Wi x=some f)/\Yn 20 x:=by
 obtain⟨j,rfl⟩:=yF h0;have hj:j < w8.length:=by show j < 8;lia
 have hm:∀x∈w8,(x = "deed" \/ (Wi x).isSome=true)/\x.length<=20/\∀c∈cs x,c < 16 ^ 8:=aA
 obtain⟨a,b⟩:=hm _ (yY hj);exact⟨w8[j],Yb (by rw[xK,xE hj];rfl),a.imp id fun z=>wA.mp z,b⟩
theorem O8(h0 : 0<=d)(h1:d < 3):∃x,atI (([("0123456789" : Str), "abcdefghijkl","0"]:eS).map V.str) d=some (.str x)/\Yn 12 x:=by
 obtain⟨j,rfl⟩:=yF h0;have hj:j < ([("0123456789" : Str), "abcdefghijkl","0"]:eS).length:=by show j < 3;lia
 have hm:∀x∈([("0123456789" : Str), "abcdefghijkl","0"]:eS),x.length<=12/\∀c∈cs x,c < 16 ^ 8:=aA
 exact⟨_,Yb (by rw[xK,xE hj];rfl),hm _ (yY hj)⟩
theorem Qf(h:Z0 x):Yn 12 x:=⟨h.2.2,fun c hc=>yU (h.1 c hc).2 aA⟩
theorem Mm(h:Uw i):Yn 12 (num i):=⟨yK (Jr h).l9 aA,fun c hc=>yU ((Jr h).all c hc).2 aA⟩
inductive UX(K:uFg)(kP kS:List (Str×Tok×eZ))(vs:aG)(H:Hp)(Q:VK)(z3:XK):Prop
 |mk(s la na:eZ) (names:eS)(_:vs = [.ref s,.ref na])(_:ZK H s la)(_:H na=some (.lst (names.map V.str)))(_:na≠s)(_:1<=names.length)(_:names.length<=100)(_:(∀n∈names,Z0 n))(_:JU K kP kS)(_:∀(t:Str)(H':Hp),Yn 600 t->ZK H' s la->ZI s H H'->Q (.str t) H')
abbrev IS:Stmt:=top 115
theorem Rn(Zj1:YA K mg "_law_line" IS)(T:Txt mg)(Yj:Fn P w K mg base "_law_next" ["_law_src_here","_law_base"] 1 YD)(Z2c:Fn P w K mg base "_law_any_deed" ["_law_src_here","_law_names_here"] 3 (Jt K kP kS))(Zj2:Fn P w K mg base "_law_shown" ["_law_deed"] 1 (WD K kP kS))(Zj0:Fn P w K mg base "_law_desk_form" ["_law_word_here"] 1 WO)(Zja:Fn P w K mg base "_law_number" ["_law_src_here"] 2 JC):Fn P w K mg base "_law_line" ["_law_src_here","_law_names_here"] 4 (UX K kP kS):=by
 refine Zj1.fq ["_law_src_here","_law_names_here","_law_word_here","_law_text","_law_sign"] fun H vs Q E hr h=>?_;obtain⟨s,la,na,names,rfl,hs,hna,nns,n1,n2,hnm,fms,k⟩:=h;refine⟨rfl,_,(Ze (Zv 2 (Zq Z3 (Yh (Za Zh (Za Zh (Za Zh (Za Zh (Za Zh (Za Zh (Za Zh (Za Zh Zb))))))))) (Zs Yj (Za Q0 (Za Zf Zb))) (fun _ _=>rfl))) (Ze (Zm (Zl Yc Q7 Zh (Zp _)) (Zd (Zn (Zs Zj2 (Za (Zs Z2c (Za Q0 (Za Q6 Zb))) Zb)))) Zo) (Ze (Zv 3 Q7) (Ze (Wz PassesOwn.never rfl (AC (Zs Zj0 (Za Q7 Zb))) (Y7 4) (Ze (Zm (Zl Yc Q9 Zh (Zp _)) (Zd (Zv 3 (Zr We (Zr We Q8 Zh) (Zq Z3 Q6 (Zs Yj (Za Q0 (Za (Zx Yx T.len Z8 (Za Q6 Zb)) Zb))) (fun _ _=>rfl))))) (Zd (Zv 3 (Zr We (Zr We Q8 Zh) (Vy L6 T.str Dq (Za (Zs Zja (Za Q0 Zb)) Zb)))))) (Zd (Zm (Zl Yc (Zs Yj (Za Q0 (Za Zf Zb))) Zf (Zp _)) (Zd (Zv 3 (Zr We Q8 (Zq Z3 (Yh (Za Zh (Za Zh (Za Zh Zb)))) (Zs Yj (Za Q0 (Za Zf Zb))) (fun _ _=>rfl))))) Zo)))) (Zd (Zn Q8)))))),?_⟩;have hz:=aC
 refine⟨aB rfl,fun wl hwl=>?_⟩;have S1:=ZC.new (o:=.lst (w8.map V.str)) hwl;have k1:(upd H wl (.lst (w8.map V.str))) wl=some (.lst (w8.map V.str)):=Zg;have nw:wl≠s:=(hs.ne hwl).1;refine⟨_,rfl,s,la,8,rfl,hs.keep S1,aA,aA,fun d H2 d0 d1 hs2 sx2=>?_⟩;obtain⟨x,ex,hx,tx⟩:=Pd d0 d1;refine⟨wl,_,d,.str x,rfl,rfl,ZF.of (sx2 _ _ nw k1),ex,?_⟩;have sxA:=S1.x.trans sx2;clear k1;refine Z4 ?_;dsimp only [Zw]
 by_cases hdd:x = "deed"
 ·subst hdd;refine⟨_,rfl,rfl,_,rfl,Zu (fun _=>?_) (fun z=>absurd rfl z)⟩;refine⟨_,rfl,_,rfl,s,la,na,names,rfl,hs2,sxA _ _ nns hna,nns,n1,n2,hnm,fms,fun d p ra rb H4 dok D4 hs4 sx4=>?_⟩;exact⟨d,p,ra,rb,rfl,D4,dok,fun H5 s5=>k _ H5 (Iu dok) (hs4.keep s5) ((sxA.trans sx4).trans s5.x)⟩
 obtain⟨f,hf⟩:=hx.resolve_left hdd;refine⟨_,rfl,rfl,_,rfl,Zu (fun z=>absurd (by injection z) hdd) (fun _=>?_)⟩;dsimp only [Zw];refine⟨_,rfl,?_⟩;refine Z4 ?_;dsimp only [Zw];refine⟨_,rfl,x,rfl,fun H3 s3=>?_⟩;rw[show dfR x = .str f by unfold dfR;rw[hf]];have hf2:=(IP _ (Cv hf)).1;dsimp only at hf2;refine⟨f,rfl,?_⟩;refine CY (fun i σ H'=>∃(t:Str)(v4:Option V),σ = [some (.ref s),some (.ref na),some (.str x),some (.str t),v4]/\Yn (20+30 * i) t/\ZK H' s la/\ZI s H H') ⟨x,none,rfl,tx,hs2.keep s3,sxA.trans s3.x⟩ ?_ ?_
 ·rintro i σ H' hi ⟨t,v4,rfl,ht,hs',sx'⟩;have hna':=sx' _ _ nns hna;have h1:(" " : Str).length=1:=aA
  have t1:Yn 1 (" " : Str):=⟨aA,aA⟩;have hb:=ht.1;refine Ck (fun σ H2=>∃t',σ = [some (.ref s),some (.ref na),some (.str x),some (.str t'),some (sgn f i)]/\Yn (20+30 * i+1+12) t'/\ZK H2 s la/\ZI s H H2) ?_ (fun D' hn' _ _ _=>?_)
  rotate_left
  ·refine⟨_,rfl,rfl,_,rfl,Zu (fun _=>?_) (fun _=>?_)⟩
   ·refine⟨_,rfl,_,_,rfl,rfl,by rw[h1];lia,_,rfl,_,rfl,_,rfl,na,_,rfl,.inl (ZF.of hna'),s,la,_,rfl,hs',by rw[xA];lia,by rw[xA];lia,fun d5 H5 e50 e51 hs5 sx5=>?_⟩;rw[xA] at e51;obtain⟨j,rfl⟩:=yF e50;have hj:j < names.length:=by lia
    have nx:=Qf (hnm _ (yY hj));have tt:=Uq (Uq ht t1) nx;refine⟨na,_,(j:Int),.str names[j],rfl,rfl,ZF.of (sx5 _ _ nns hna'),Yb (by rw[xK,xE hj];rfl),_,_,rfl,rfl,by rw[PySem.Str.length_append,h1];have:=nx.1;lia,?_⟩;exact Z4 (hn' _ _ ⟨_,rfl,tt,hs5,sx'.trans sx5⟩)
   ·refine⟨_,rfl,_,_,rfl,rfl,by rw[h1];lia,_,rfl,s,la,rfl,hs',fun v H5 hv hs5 sx5=>?_⟩;have nx:=Mm hv;have tt:=Uq (Uq ht t1) nx;refine .inr ⟨v,rfl,GR hv,_,_,rfl,rfl,by rw[PySem.Str.length_append,h1];have:(Str.ofString (toString v)).length<=12:=nx.1;lia,?_⟩;exact Z4 (hn' _ _ ⟨_,rfl,tt,hs5,sx'.trans sx5⟩)
  rintro σ H4 ⟨t',rfl,ht',hs4,sx4⟩;refine⟨_,rfl,s,la,6,rfl,hs4,aA,aA,fun d6 H6 d60 d61 hs6 sx6=>?_⟩;refine⟨rfl,_,rfl,Zu (fun _=>?_) (fun _=>⟨t',_,rfl,Jg ht' (by lia),hs6,sx4.trans sx6⟩)⟩;refine⟨_,rfl,aB rfl,fun wl3 hwl3=>?_⟩;have S3:=ZC.new (o:=.lst (([("0123456789" : Str), "abcdefghijkl","0"]:eS).map V.str)) hwl3;have k3:(upd H6 wl3 (.lst (([("0123456789" : Str), "abcdefghijkl","0"]:eS).map V.str))) wl3=some (.lst (([("0123456789" : Str), "abcdefghijkl","0"]:eS).map V.str)):=Zg;refine⟨_,rfl,s,la,3,rfl,hs6.keep S3,aA,aA,fun d7 H7 d70 d71 hs7 sx7=>?_⟩;obtain⟨y,ey,ty⟩:=O8 d70 d71;refine⟨wl3,_,d7,.str y,rfl,rfl,ZF.of (sx7 _ _ (hs6.ne hwl3).1 k3),ey,_,_,rfl,rfl,by have:=ht'.1;have:=ty.1;lia,?_⟩;exact⟨_,_,rfl,Jg (Uq ht' ty) (by lia),hs7,((sx4.trans sx6).trans S3.x).trans sx7⟩
 rintro σ H' ⟨t,v4,rfl,ht,hs',sx'⟩;exact⟨_,rfl,k t H' (Jg ht (by lia)) hs' sx'⟩
end
section
variable{n0 n1:Str}
abbrev d57(n0 n1:Str):List ZO:=[.come n0 1 5,.come n1 2 6]
abbrev m57(n0 n1:Str):Mo:={mo0 with deeds:=[coD n0 1 5,coD n1 2 6] }
abbrev f57:Str->Int:=fun _=>6
theorem Rj:Up (d57 n0 n1) (m57 n0 n1) 3 [n0] none none=none:=by
 simp[Up,TC,Ve,Aj,AW,Zz,Y5]
theorem cW(h:n0≠n1):Bl (d57 n0 n1) ((m57 n0 n1).brg n0 3) n1 0 4 2 f57 [n1] []=none:=by
 have e0:TU ((m57 n0 n1).brg n0 3) 0=none:=(if_pos aA:(if inB 0 1 then none else some ("NoThing" : Str))=none);have e1:brD ((m57 n0 n1).brg n0 3) 0=3:=rfl;have e2:((m57 n0 n1).brg n0 3).trials = []:=rfl;have e3:AV ((m57 n0 n1).brg n0 3) n1=false:=rfl;have e4:CZ ([n1] ++ [])=1:=rfl;have e5:(wts (Vp f57 [n1])).sum=6:=rfl;unfold Bl Aw;rw[e4,e5,e2];simp[JT,Up,TC,Ve,Aj,AW,Zz,Y5,h,e0,e1,e3]
theorem Pw:J7 (m57 n0 n1):=⟨(fun t z=>nomatch z),rfl,(fun i e z=>by cases z),yO _,rfl,rfl,(fun q z=>nomatch z),yO _⟩
theorem OP:J7 ((m57 n0 n1).brg n0 3):=by
 refine⟨(fun t z=>nomatch z),rfl,fun i e z=>?_,yO _,rfl,rfl,fun q z=>?_,yO _⟩
 ·have:=xN z;exact⟨n0,3,xO.mp this⟩
 ·rw[xO.mp z];exact yO _
theorem cQ(h:n0≠n1):Dw (kw (d57 n0 n1) n1) 4 6:=by
 refine⟨[(.inl 2,.int 6)],2,?_,?_,aA,fun d v hv hd=>?_⟩
 ·simp[kw,Vj,h]
 ·simp[Z1]
 ·by_cases z:d=2
  ·lia
  ·have e:Z1 [((.inl 2:ZQ),V.int 6)] (.inl d)=none:=by simp[Z1,zI,Ne.symm z]
   rw[e] at hv;cases hv
end
def Lz:Option (List Str×List Str)->List D
 | none=>[]
 | some (a,b)=>[.lst (a.map D.str),.lst (b.map D.str)]
def ddD(d:Dd):D:=.tup (.str d.w::(d.ps.map ptD++Lz d.rows))
theorem OV(h:DX H rw ra rb):ZN H (Lz rw) (Vu rw ra rb):=by
 cases rw with
 | none=>rfl
 | some ab =>
  obtain⟨a,b⟩:=ab;obtain⟨h1,h2,_⟩:=h;exact⟨.ref ra,[.ref rb],rfl,⟨ra,_,rfl,h1,Cw _⟩,⟨.ref rb,[],rfl,⟨rb,_,rfl,h2,Cw _⟩,rfl⟩⟩
theorem Hi(h:ZN H as vs):∀ps:List Pt,ZN H (ps.map ptD++as) (ps.map ptV++vs)
 | []=>h
 | p::ps=>⟨ptV p,ps.map ptV++vs,rfl,HI p,Hi h ps⟩
theorem NK(h:Uz H d p ra rb):YH H (ddD d) (.ref p):=⟨p,_,rfl,h.1,⟨.str d.w,_,rfl,rfl,Hi (OV h.2) d.ps⟩⟩
section
variable{C CM CP CD:eZ}{n0 n1:Str}
def Co(n0 n1:Str):List Dd:=[⟨"come", [.nm n0,.no 1,.no 5],none⟩,⟨"come", [.nm n1,.no 2,.no 6],none⟩,⟨"bring", [.nm n0,.no 3],none⟩,⟨"claim", [.nm n1,.no 0,.no 4,.no 2],some ([n1],[])⟩]
def s57(n0 n1:Str):Nat->List ZO×Mo
 | 0=>([],mo0)
 | 1=>([.come n0 1 5],{mo0 with deeds:=[coD n0 1 5] })
 | 2=>(d57 n0 n1,m57 n0 n1)
 | 3=>(d57 n0 n1,(m57 n0 n1).brg n0 3)
 | _=>(d57 n0 n1,((m57 n0 n1).brg n0 3).won n1 0 4 2 f57 [n1] [])
theorem Xl(hn:n0≠n1)(h0:Z0 n0)(h1:Z0 n1)(hd:(Co n0 n1)[i]? = some d)(dat:Uz H1 d a ra rb)(hO:d.rows≠none->¬O ra/\¬O rb):VT H1 a O (s57 n0 n1 i).1 (s57 n0 n1 i).2 (s57 n0 n1 (i+1)).1 (s57 n0 n1 (i+1)).2:=by
 have l0:n0.length<=100:=by have:=h0.2.2;lia
 have l1:n1.length<=100:=by have:=h1.2.2;lia
 match i,hd with
 | 0,e=>cases e;exact VT.come (ds:=[]) (m:=mo0) n0 1 5 dat.1 aA aA h0 aA aA aA aA rfl
 | 1,e =>
  cases e;exact VT.come (ds:=[.come n0 1 5]) (m:={mo0 with deeds:=[coD n0 1 5] }) n1 2 6 dat.1 (show 1 < 400 by decide) (show 1 < 40 by decide) h1 aA aA aA aA (if_neg hn)
 | 2,e=>cases e;exact VT.bring n0 3 dat.1 (show 2 < 400 by decide) (show 0 < 40 by decide) (show 0<=1000 by decide) aA aA Pw l0 Rj
 | 3,e =>
  cases e;obtain⟨y1,y2⟩:=hO (fun z=>nomatch z);refine VT.claim n1 0 4 2 ra rb [n1] [] f57 dat.1 ⟨OP,show 3 < 400 by decide,show 2<=1000 by decide,dat.2.1,dat.2.2.1,show 1<=60 by decide,show 0<=60 by decide,aA,aA,by unfold okI;decide,fun n z=>?_⟩ y1 y2 l1 (by unfold okI;decide) (cW hn);rw[xO.mp z];exact⟨l1,fun _ _ _=>⟨cQ hn,(by decide:(1:Int)<=6),(by decide:(6:Int)<=1000)⟩⟩
 | i+4,e=>cases e
theorem g57(fms:JU K kP kS)(ew:d.w=w)(hfm:Ww w=some f)(hdf:Wi w=none)(hk:d.ps.map ptK=Z9 (cs f))(hp:∀p∈d.ps,Vf p)(hl:d.ps.length<=10)(hr:Rows (fun a=>(∀x∈a,Z0 x)/\a.length<=15) d.rows)(h43:(43∈cs f/\d.rows≠none)\/(43∉cs f/\d.rows=none)):Dk d/\Wi d.w=none/\WV K kP kS d:=by
 subst ew;have hq:=Bz hfm;have e:(d.ps.map fun p=>V.str (ptK p))=(Z9 (cs f)).map V.str:=by rw[← hk,List.map_map];rfl
 refine⟨⟨⟨f,hfm,hk,h43⟩,hp,?_⟩,hdf,(Cy _ hq).1,hp,hl,hr,?_⟩
 ·cases z:d.rows with
  | none=>trivial
  | some ab=>rw[z] at hr;exact⟨hr.1.1,hr.2.1⟩
 ·rcases fms _ hq with⟨h,t,a,b,c⟩ | ⟨h,a,t,b,c⟩
  ·exact .inl ⟨(h43.resolve_left fun z=>h z.1).2,t,a,b,fun H=>e▸c H⟩
  ·exact .inr ⟨(h43.resolve_right fun z=>z.1 h).2,a,t,b,fun H=>e▸c H⟩
theorem bY(fms:JU K kP kS)(h0:Z0 n0)(h1:Z0 n1):∀d∈Co n0 n1,Dk d/\Wi d.w=none/\WV K kP kS d:=by
 have no:∀{i:Int},0<=i->i<=999999999->Vf (.no i):=fun a b=>⟨a,b⟩;have cn:∀{p:Pt}{l:List Pt},Vf p->(∀x∈l,Vf x)->∀x∈p::l,Vf x:=fun a b=>List.forall_mem_cons.mpr ⟨a,b⟩;have nl:∀x∈([]:List Pt),Vf x:=fun x z=>nomatch z;intro d hd;simp only[Co,xC,xT,or_false] at hd;rcases hd with rfl | rfl | rfl | rfl
 ·exact g57 (w:="come") (f:="abb") fms rfl aA aA (by show (["name","number","number"]:eS)=_;decide +kernel) (cn h0 (cn (no aA aA) (cn (no aA aA) nl))) (show 3<=10 by decide) trivial (.inr ⟨aA,rfl⟩)
 ·exact g57 (w:="come") (f:="abb") fms rfl aA aA (by show (["name","number","number"]:eS)=_;decide +kernel) (cn h1 (cn (no aA aA) (cn (no aA aA) nl))) (show 3<=10 by decide) trivial (.inr ⟨aA,rfl⟩)
 ·exact g57 (w:="bring") (f:="ab") fms rfl aA aA (by show (["name","number"]:eS)=_;decide +kernel) (cn h0 (cn (no aA aA) nl)) (show 2<=10 by decide) trivial (.inr ⟨aA,rfl⟩)
 ·exact g57 (w:="claim") (f:="abbb+") fms rfl aA aA (by show (["name","number","number","number"]:eS)=_;decide +kernel) (cn h1 (cn (no aA aA) (cn (no aA aA) (cn (no aA aA) nl)))) (show 4<=10 by decide) ⟨⟨fun x hx=>by rw[xO.mp hx];exact h1,show 1<=15 by decide⟩,(fun x hx=>nomatch hx),show 0<=15 by decide⟩ (.inl ⟨aA,fun z=>nomatch z⟩)
structure VE (C CM CP CD q s la:eZ) (H0:Hp) (O0:eZ->Prop) (H:Hp) (ds:List ZO) (m:Mo) (O:eZ->Prop):Prop where
 d:VU C CM CP CD H q ds m O
 sr:ZK H s la
 n1:¬O s
 n2:¬O la
 kp:∀b o,H0 b=some o->¬O0 b->b≠s->H b=some o/\¬O b
variable{q:eZ}
theorem VE.frm(h:VE C CM CP CD q s la H0 O0 H ds m O)(k:VU C CM CP CD H' q ds' m' O')(f:WL O H O' H'):VE C CM CP CD q s la H0 O0 H' ds' m' O':=by
 have no:∀{b:eZ}{o:HO},H b=some o->¬O b->¬O' b:=fun e n z=>(f.2 _ z).elim n (fun y=>by rw[e] at y;cases y);obtain⟨ks,i,big,st,cnt,a,b,c,d⟩:=id h.sr;exact⟨k,⟨ks,i,big,st,cnt,f.1 _ _ a h.n1,f.1 _ _ b h.n2,c,d⟩,no a h.n1,no b h.n2,fun b o e n ns=>⟨f.1 _ _ (h.kp b o e n ns).1 (h.kp b o e n ns).2,no (h.kp b o e n ns).1 (h.kp b o e n ns).2⟩⟩
theorem VE.same(h:VE C CM CP CD q s la H0 O0 H ds m O)(k:ZC H H'):VE C CM CP CD q s la H0 O0 H' ds m O:=h.frm (h.d.same k) (WL.same k)
theorem VE.x(h:VE C CM CP CD q s la H0 O0 H ds m O)(hs:ZK H' s la)(k:ZI s H H'):VE C CM CP CD q s la H0 O0 H' ds m O:=by
 obtain⟨_,_,_,_,_,a,_⟩:=id h.sr;exact⟨h.d.keep (fun b o hb e=>k b o (fun z=>h.n1 (z▸hb)) e) (fun b u e=>k b _ (fun z=>by rw[z,a] at e;cases e) e),hs,h.n1,h.n2,fun b o e n ns=>⟨k _ _ ns (h.kp b o e n ns).1,(h.kp b o e n ns).2⟩⟩
end
abbrev Rw:Stmt:=Yr (top 93) 3
abbrev IJ:Stmt:=Yr (top 21) 0
theorem XZ(Zfc:ZS K (c "NoDeed") "called" "NoDeed.called" IJ)(er:Er K mg c errs):TM P w K mg base (c "NoDeed") "called" "NoDeed" := Zfc.says (er.k _ aA) fun X=>by
 refine⟨_,(Zd (Zn Zh)),?_⟩;exact fun D σ H h=>h
theorem SD{α:Type}:∀{l:List α},l.length=2->∃a b,l = [a,b]
 | [a,b],_=>⟨a,b,rfl⟩
def bnd:Nat->Nat
 | 0=>600
 | n+1=>2 * bnd n+2
theorem HN:∀i,i<=3->bnd i<=4814/\(i<=2->bnd i<=4500)
 | 0,_=>⟨aA,fun _=>by decide⟩
 | 1,_=>⟨aA,fun _=>by decide⟩
 | 2,_=>⟨aA,fun _=>by decide⟩
 | 3,_=>⟨aA,fun h=>absurd h aA⟩
 | n+4,h=>absurd h (by lia)
theorem LW(n0 n1:Str):∀d∈(s57 n0 n1 4).2.deeds,Fv d:=by
 have sc:∀{ts:List D},ts.all scD=true->ts.length<=10->Fv (.tup ts):=fun h l=>⟨_,rfl,fun x hx=>.inl (yW.mp h x hx),l⟩;intro d hd;have hd:d ∈ [coD n0 1 5,coD n1 2 6,D.tup [.str "bring", .str n0,.int 3],clD n1 0 4 2 [n1] []]:=hd;simp only[xC,xT,or_false] at hd;rcases hd with rfl | rfl | rfl | rfl
 ·exact sc rfl (show 4<=10 by decide)
 ·exact sc rfl (show 4<=10 by decide)
 ·exact sc rfl (show 3<=10 by decide)
 ·refine⟨_,rfl,fun x hx=>?_,show 7<=10 by decide⟩;simp only[xC,xT,or_false] at hx;rcases hx with rfl | rfl | rfl | rfl | rfl | rfl | rfl
  ·exact .inl rfl
  ·exact .inl rfl
  ·exact .inl rfl
  ·exact .inl rfl
  ·exact .inl rfl
  ·exact .inr ⟨[n1],rfl,show 1<=60 by decide⟩
  ·exact .inr ⟨[],rfl,show 0<=60 by decide⟩
theorem VE.dd{q s la:eZ}{H0 H:Hp}{O0 O:eZ->Prop}{ds:List ZO}{m:Mo}(h:VE C CM CP CD q s la H0 O0 H ds m O){d:Dd}{r ra rb:eZ}(dat:Uz H0 d r ra rb)(n1:¬O0 r/\r≠s)(n2:d.rows≠none->(¬O0 ra/\ra≠s)/\¬O0 rb/\rb≠s):Uz H d r ra rb:=by
 refine⟨(h.kp _ _ dat.1 n1.1 n1.2).1,?_⟩;have h2:=dat.2;cases e:d.rows with
 | none=>trivial
 | some ab =>
  rw[e] at h2;obtain⟨a,b⟩:=n2 (by rw[e];exact fun z=>nomatch z);exact⟨(h.kp _ _ h2.1 a.1 a.2).1,(h.kp _ _ h2.2.1 b.1 b.2).1,h2.2.2⟩
abbrev AX:Stmt:=top 116
theorem NU:ZL ["_law_script","_law_src_here","_law_names_here","_law_desk","_law_rows","_law_deed","_law_k","_law_line_here","_law_more"] ["_law_script"] (Zj AX):=fsc
theorem dU(F_law:UN K "law" "law" AX f fd)(T:Txt mg)(Td:YQ K CD)(Tp:YJ K CP)(Tm:ZU K CM)(fms:JU K kP kS)(Z2l:Fn P w K mg base "_law_src" ["_law_script"] 1 (J4 K))(Yj:Fn P w K mg base "_law_next" ["_law_src_here","_law_base"] 1 YD)(Z2m:Fn P w K mg base "_law_names" ["_law_src_here","_law_many"] 3 UD)(M_Desk:AG P w K mg base CD "Desk" 7 (VZ C CM CP CD))(MD_say:Mt P w K mg base CD "say" ["self","line"] 11 (Jz C CM CP CD))(Zj2:Fn P w K mg base "_law_shown" ["_law_deed"] 1 (WD K kP kS))(Z2n:Fn P w K mg base "_law_line" ["_law_src_here","_law_names_here"] 4 (UX K kP kS))(Z2o:Fn P w K mg base "_law_spoilt" ["_law_src_here","_law_text"] 2 UK)(Z2p:Fn P w K mg base "_law_is_line" ["_law_text"] 4 VP)(Zdr:Fn P w K mg base "_law_same" ["_law_found","_law_due"] 8 (WN 6))(MM_roll:Mt P w K mg base CM "roll" ["self"] 2 (Tv C CM))(MP_waiting:Mt P w K mg base CP "waiting" ["self"] 1 (Tg C CM CP)):ZZ P w K mg base YY 13 f fd ["_law_script"] (Dy K):=by
 refine F_law.okQ NU (fun vs H Q E h=>?_) (fun cdv A outer s0 H vs Q E hr h=>?_)
 ·obtain⟨a,ns,rfl,_⟩:=h;rfl
 ·obtain⟨a0,ks,rfl,hS,hlen,k⟩:=h;refine⟨_,(Ze (Zv 1 (Zs Z2l (Za Q0 Zb))) (Ze (Zv 2 (Zs Z2m (Za Q6 (Za Zf Zb)))) (Ze (Zv 3 (C6 M_Desk)) (Ze (Zv 4 (Yh (Za (Vb (Za Zh (Za (Zq Z3 Q7 Zf (fun _ _=>rfl)) (Za Zf (Za Zf Zb))))) (Za (Vb (Za Zh (Za (Zq Z3 Q7 Zf (fun _ _=>rfl)) (Za Zf (Za Zf Zb))))) (Za (Vb (Za Zh (Za (Zq Z3 Q7 Zf (fun _ _=>rfl)) (Za Zf Zb)))) Zb))))) (Ze (Ye (Y6 aD aE aF Ug Q9 (Za (Vb (Za Zh (Za (Zq Z3 Q7 Zf (fun _ _=>rfl)) (Za Zf (Za Zf (Za Zf (Za (Yh (Za (Zq Z3 Q7 Zf (fun _ _=>rfl)) Zb)) (Za (Yh Zb) Zb)))))))) Zb))) (Ze (Wz PassesOwn.never rfl (Vl Q9) (Y7 5) (Zd (Zm (Zl PM (Zq Ys (Vi Q8 Td.cl MD_say (Za (Zs Zj2 (Za Qa Zb)) Zb)) Zf (fun _ _=>rfl)) Wq (Zp _)) (Zd (Zn Wq)) Zo))) (Ze (Wz PassesOwn.never rfl (AU T.range (Za Zf Zb)) (Y7 6) (Ze (Zv 7 (Zs Z2n (Za Q6 (Za Q7 Zb)))) (Ze (Wz PassesOwn.never rfl (AU T.range (Za (Zs Yj (Za Q6 (Za Zf Zb))) Zb)) (Y7 8) (Zd (Zv 7 (Zs Z2o (Za Q6 (Za Qc Zb)))))) (Zd (Zm (Vr (Vc (Zs Z2p (Za Qc Zb)))) (Ze (Zm (Vr (Vc (Zs Zdr (Za (Vi Q8 Td.cl MD_say (Za Qc Zb)) (Za (Vb (Za Wq (Za Zh Zb))) Zb))))) (Zd (Zn Wq)) Zo) (Zd (Zm (Vr (Vc (Zs Zdr (Za (AJ (Z5 (Z5 Q8)) Tm.cl MM_roll) (Za Q9 Zb))))) (Zd (Zn Wq)) Zo))) Zo))))) (Zd (Zn (Zs Zdr (Za (AJ (Z5 Q8) Tp.cl MP_waiting) (Za Zf Zb)))))))))))),?_⟩;have hz:=aC
  have lz:∀{n:Nat},n<=10->n<=sizeLine:=fun h=>yK h aA;refine Wl fun D1 hn1=>?_;refine⟨_,rfl,a0,ks,rfl,hS,fun s la H1 hs hla hs1 sm1=>hn1 _ _ ?_⟩;refine Wl fun D2 hn2=>?_;refine⟨_,rfl,s,la,2,rfl,hs1,aA,aA,fun nl ns0 H2 hnl hnd hnm fnl knl hs2 sx2=>hn2 _ _ ?_⟩;obtain⟨n0,n1,rfl⟩:=SD (show ns0.length=2 by lia);have h0:=hnm n0 (by simp);have h1:=hnm n1 (by simp);have hne:n0≠n1:=fun z=>by simp[z] at hnd
  have nls:nl≠s:=(hs1.ne fnl).1;refine Wl fun D3 hn3=>?_;intro q dx nx ndx nex;refine⟨q,dx,rfl,Zg,fun O3 H3 W3 kp3 fr3=>⟨rfl,hn3 _ _ ?_⟩⟩;have sm3:ZC H2 H3:=fun b o e=>kp3 b o (by rw[Zc (Zi e nx),Zc (Zi e ndx)];exact e) (Zi e nx);have no3:∀b o,H2 b=some o->¬O3 b:=fun b o e z=>by
   rcases fr3 b z with y | y
   ·rw[y,nx] at e;cases e
   ·have nb:b≠q:=fun z=>by rw[z,nx] at e;cases e
    rw[Zc nb,Zc (Zi e ndx),e] at y;cases y
  have k3:=sm3 _ _ knl;have hs3:=hs2.keep sm3;refine Wl fun D4 hn4=>?_;refine⟨_,rfl,nl,_,0,.str n0,rfl,rfl,ZF.of k3,Yb (j:=0) rfl,lz (by show 4<=10;decide),fun r0 hr0=>?_⟩;refine nw (o:=.tup [.str "come", .str n0,.int 1,.int 5]) hr0 fun H4 S4 g0=>?_;refine⟨_,rfl,nl,_,1,.str n1,rfl,rfl,ZF.of (S4 _ _ k3),Yb (j:=1) rfl,lz (by show 4<=10;decide),fun r1 hr1=>?_⟩;refine nw (o:=.tup [.str "come", .str n1,.int 2,.int 6]) hr1 fun H5 S5 g1=>?_;refine⟨_,rfl,nl,_,0,.str n0,rfl,rfl,ZF.of (S5 _ _ (S4 _ _ k3)),Yb (j:=0) rfl,lz (by show 3<=10;decide),fun r2 hr2=>?_⟩;refine nw (o:=.tup [.str "bring", .str n0,.int 3]) hr2 fun H6 S6 g2=>?_;refine⟨lz (by show 3<=10;decide),fun rl hrl=>hn4 _ _ ?_⟩;refine nw (o:=.lst [.ref r0,.ref r1,.ref r2]) hrl fun H7 S7 gl=>?_;have S37:=((S4.trans S5).trans S6).trans S7;refine Wl fun D5 hn5=>?_;refine⟨_,rfl,.inl ⟨rfl,_,ZF.of gl⟩,_,rfl,nl,_,1,.str n1,rfl,rfl,ZF.of (S37 _ _ k3),Yb (j:=1) rfl,_,rfl,nl,_,1,.str n1,rfl,rfl,ZF.of (S37 _ _ k3),Yb (j:=1) rfl,lz (by show 1<=10;decide),fun l1 e1=>?_⟩;refine nw (o:=.lst [.str n1]) e1 fun H8 S8 gl1=>?_;refine⟨lz (by show 0<=10;decide),fun l2 e2=>?_⟩;have S9:=ZC.new (o:=.lst []) e2;have gl2:(upd H8 l2 (.lst [])) l2=some (.lst []):=Zg;have n12:l1≠l2:=Zi gl1 e2;generalize (upd H8 l2 (.lst []))=H9 at S9 gl2 ⊢;refine⟨lz (by show 7<=10;decide),fun r3 hr3=>?_⟩;refine nw (o:=.tup [.str "claim", .str n1,.int 0,.int 4,.int 2,.ref l1,.ref l2]) hr3 fun Ha Sa g3=>?_;have S7a:=(S8.trans S9).trans Sa;refine⟨rl,_,_,rfl,rfl,S7a _ _ gl,lz (by show 4<=10;decide),hn5 _ _ ?_⟩;have n3:∀b,H3 b=none->¬O3 b:=fun b e z=>by obtain⟨o,y⟩:=W3.there z;rw[e] at y;cases y
  have S3a:=S37.trans S7a;have frl:H3 rl=none:=((S4.trans S5).trans S6).free hrl;have kb:∀b o,b≠rl->Ha b=some o->(upd Ha rl (.lst [.ref r0,.ref r1,.ref r2,.ref r3])) b=some o:=fun b o nb e=>by rw[Zc nb];exact e
  have gb:(upd Ha rl (.lst [.ref r0,.ref r1,.ref r2,.ref r3])) rl=some (.lst [.ref r0,.ref r1,.ref r2,.ref r3]):=Zg;change (Vq _ _) _ _ (upd Ha rl (.lst [.ref r0,.ref r1,.ref r2,.ref r3]));generalize (upd Ha rl (.lst [.ref r0,.ref r1,.ref r2,.ref r3]))=Hb at kb gb ⊢;have kt:∀{b:eZ}{o:HO},H3 b=some o->Hb b=some o:=fun {b o} e=>kb b o (fun z=>by rw[z,frl] at e;cases e) (S3a _ _ e);have gq:∀{b:eZ}{u:aG},Ha b=some (.tup u)->Hb b=some (.tup u):=fun {b u} e=>kb b _ (fun z=>by rw[z,S7a _ _ gl] at e;cases e) e;have L0:VE C CM CP CD q s la Hb O3 Hb (s57 n0 n1 0).1 (s57 n0 n1 0).2 O3:=by
   obtain⟨ks',i,big,st,cnt,a,b,c,d⟩:=id hs2;exact⟨W3.keep (fun b o _ e=>kt e) (fun b u e=>kt e),⟨ks',i,big,st,cnt,kt (sm3 _ _ a),kt (sm3 _ _ b),c,d⟩,no3 _ _ a,no3 _ _ b,fun b o e n _=>⟨e,n⟩⟩
  have ns3:∀{b:eZ},H3 b=none->¬O3 b/\b≠s:=fun {b} e=>⟨n3 b e,fun z=>by obtain⟨_,_,_,_,_,y,_⟩:=id hs3;rw[z,y] at e;cases e⟩;have f1:H3 l1=none:=S37.free e1;have f2:H3 l2=none:=(S37.trans S8).free e2;have dds:∀(i:Nat)(x:V),([.ref r0,.ref r1,.ref r2,.ref r3]:aG)[i]? = some x->∃d r ra rb,x = .ref r/\(Co n0 n1)[i]? = some d/\Uz Hb d r ra rb/\(¬O3 r/\r≠s)/\(d.rows≠none->(¬O3 ra/\ra≠s)/\¬O3 rb/\rb≠s):=fun i x hx=>by
   match i,hx with
   | 0,e=>cases e;exact⟨_,r0,0,0,rfl,rfl,⟨gq (S7a _ _ (S7 _ _ (S6 _ _ (S5 _ _ g0)))),trivial⟩,ns3 hr0,fun z=>absurd rfl z⟩
   | 1,e=>cases e;exact⟨_,r1,0,0,rfl,rfl,⟨gq (S7a _ _ (S7 _ _ (S6 _ _ g1))),trivial⟩,ns3 (S4.free hr1),fun z=>absurd rfl z⟩
   | 2,e=>cases e;exact⟨_,r2,0,0,rfl,rfl,⟨gq (S7a _ _ (S7 _ _ g2)),trivial⟩,ns3 ((S4.trans S5).free hr2),fun z=>absurd rfl z⟩
   | 3,e=>cases e;exact⟨_,r3,l1,l2,rfl,rfl,⟨gq g3,kb _ _ (fun z=>by rw[z,gl] at e1;cases e1) (Sa _ _ (S9 _ _ gl1)),kb _ _ (fun z=>by rw[z,S8 _ _ gl] at e2;cases e2) (Sa _ _ gl2),n12⟩,ns3 ((S37.trans (S8.trans S9)).free hr3),fun _=>⟨ns3 f1,ns3 f2⟩⟩
   | i+4,e=>cases e
  have hall:=bY (K:=K) (kP:=kP) (kS:=kS) fms h0 h1;have nrl:=ns3 frl;refine Wl fun D6 hn6=>?_;refine⟨_,rfl,rl,rfl,⟨_,ZF.of gb⟩,?_⟩;refine Af [.ref r0,.ref r1,.ref r2,.ref r3] (fun i σ H'=>∃(v5:Option V)(O:eZ->Prop),σ = [some (.ref a0),some (.ref s),some (.ref nl),some (.ref q),some (.ref rl),v5,none,none,none]/\VE C CM CP CD q s la Hb O3 H' (s57 n0 n1 i).1 (s57 n0 n1 i).2 O) ⟨none,O3,rfl,L0⟩ (fun i σ H' _ ⟨_,_,_,U⟩=>ZF.of (U.kp _ _ gb nrl.1 nrl.2).1) ?_ ?_
  ·rintro i x σ H' hx ⟨v5,O,rfl,U⟩;obtain⟨d,r,ra,rb,rfl,hd,dat,z1,z2⟩:=dds i x hx;obtain⟨hdk,hdf,dok⟩:=hall d (xN hd);obtain⟨p,O1,⟨dq,ob⟩,_⟩:=id U.d;refine⟨_,rfl,q,dq,_,rfl,ob,D9 aA,_,rfl,d,r,ra,rb,rfl,U.dd dat z1 z2,dok,fun H4 s4=>?_⟩;have U4:=U.same s4;refine⟨q,text d,_,_,O,rfl,U4.d,Jg (Iu dok) aA,.inl ⟨d,hdk,hdf,P0 dok,fun a ra' rb' H5 dat' fr s5=>⟨_,_,Xl hne h0 h1 hd dat' (fun z=>?_),fun v l O' H6 hl W' F'=>?_⟩⟩⟩
   ·have no:∀{b:eZ},H4 b=none->¬O b:=fun {b} e z=>by obtain⟨o,y⟩:=U4.d.there z;rw[e] at y;cases y
    exact⟨no (fr z).1,no (fr z).2⟩
   ·exact⟨l,_,0,.bl true,rfl,rfl,ZT.of hl,rfl,true,true,rfl,rfl,_,rfl,Zy ⟨_,O',rfl,U4.frm W' F'⟩⟩
  rintro σ H6 ⟨v5,O6,rfl,U6⟩;refine hn6 _ _ ?_;have U6:VE C CM CP CD q s la Hb O3 H6 (s57 n0 n1 4).1 (s57 n0 n1 4).2 O6:=U6;have hpl:=LW n0 n1;have drp:∀{H':Hp}{O:eZ->Prop},VE C CM CP CD q s la Hb O3 H' (s57 n0 n1 4).1 (s57 n0 n1 4).2 O->YH H' (.lst (s57 n0 n1 4).2.deeds) (.ref rl):=fun {H' O} U=>by
   have g:∀(i:Nat)(d:Dd)(r:eZ),(Co n0 n1)[i]? = some d->([.ref r0,.ref r1,.ref r2,.ref r3]:aG)[i]? = some (.ref r)->YH H' (ddD d) (.ref r):=fun i d r hd hx=>by
    obtain⟨d',r',ra,rb,e,hd',dat,z1,z2⟩:=dds i _ hx;cases e;rw[hd] at hd';cases hd';exact NK (U.dd dat z1 z2)
   exact⟨rl,_,rfl,(U.kp _ _ gb nrl.1 nrl.2).1,⟨_,_,rfl,g 0 _ r0 rfl rfl,⟨_,_,rfl,g 1 _ r1 rfl rfl,⟨_,_,rfl,g 2 _ r2 rfl rfl,⟨_,_,rfl,g 3 _ r3 rfl rfl,rfl⟩⟩⟩⟩⟩
  have hnlb:=kt k3;have non:=no3 _ _ knl;have hdp:(D.lst (s57 n0 n1 4).2.deeds).deep<=6:=Nat.le_of_ble_eq_true rfl;have hln:(s57 n0 n1 4).2.deeds.length<=1000:=show 4<=1000 by decide
  clear dds hall kt gq;generalize s57 n0 n1 4=sx at U6 hpl drp hdp hln;obtain⟨ds,m⟩:=sx;dsimp only at U6 hpl drp hdp hln;refine Wl fun D7 hn7=>?_;refine⟨6,rfl,aA,aA,?_⟩;refine Du 6 rfl (fun i σ H'=>∃(v6 v7 v8:Option V)(O:eZ->Prop),σ = [some (.ref a0),some (.ref s),some (.ref nl),some (.ref q),some (.ref rl),v5,v6,v7,v8]/\VE C CM CP CD q s la Hb O3 H' ds m O) ⟨none,none,none,O6,rfl,U6⟩ ?_ ?_
  ·rintro i σ H' hi ⟨v6,v7,v8,O,rfl,U⟩;refine Wl fun E1 he1=>?_;refine⟨_,rfl,_,rfl,s,la,nl,[n0,n1],rfl,U.sr,(U.kp _ _ hnlb non nls).1,nls,by show 1<=2;decide,by show 2<=100;decide,hnm,fms,fun t H1' tx hs1' sx1=>he1 _ _ ?_⟩;have U1:=U.x hs1' sx1;refine Wl fun E2 he2=>?_;refine⟨_,rfl,s,la,3,rfl,U1.sr,aA,aA,fun mm H2' m0 m1 hs2' sx2'=>?_⟩;have U2:=U1.x hs2' sx2';refine⟨mm,rfl,by lia,by lia,?_⟩;refine Du mm.toNat rfl (fun j σ H'=>∃(t:Str)(v8:Option V),σ = [some (.ref a0),some (.ref s),some (.ref nl),some (.ref q),some (.ref rl),v5,some (.int (0+(i:Nat))),some (.str t),v8]/\Yn (bnd j) t/\VE C CM CP CD q s la Hb O3 H' ds m O) ⟨t,v8,rfl,tx,U2⟩ ?_ ?_
   ·rintro j σ H' hj ⟨t,v8,rfl,ht,U⟩;refine⟨_,rfl,_,rfl,s,la,t,bnd j,rfl,U.sr,ht,(HN j (by lia)).2 (by lia),fun t' H7 ht' hs7 sx7=>?_⟩;exact⟨t',_,rfl,ht',U.x hs7 sx7⟩
   rintro σ H3' ⟨t,v8,rfl,ht,U3⟩;have ht:=Jg ht (yK (HN mm.toNat (by lia)).1 (show 4814<=10000 by decide));refine he2 _ _ ?_;refine⟨_,rfl,t,rfl,ht,fun b H4' hb s4=>?_⟩;have U4:=U3.same s4;refine⟨_,rfl,A8 (fun hb'=>?_) (fun hb'=>⟨_,_,_,O,rfl,U4⟩)⟩;have hno:¬Bx (Txt.split t " "):=fun z=>by rw[hb.mpr z] at hb';cases hb'
   obtain⟨p,O1,⟨dq,ob⟩,Wp,_⟩:=id U4.d;refine Wl fun E3 he3=>?_;refine⟨_,rfl,q,dq,_,rfl,ob,D9 aA,_,rfl,q,t,ds,m,O,rfl,U4.d,ht,.inr ⟨hno,fun l H5' hl kl s5=>?_⟩⟩;refine⟨lz (by show 2<=10;decide),fun l2' hl2=>?_⟩;refine nw (o:=.tup [.bl false,.str "NoDeed"]) hl2 fun H6' S6' kl2=>?_;refine⟨.ref l,.ref l2',.tup [.bl false,.str "NoDeed"],rfl,⟨l,_,rfl,S6' _ _ kl,⟨_,_,rfl,rfl,⟨_,_,rfl,rfl,rfl⟩⟩⟩,⟨l2',_,rfl,kl2,⟨_,_,rfl,rfl,⟨_,_,rfl,rfl,rfl⟩⟩⟩,Nat.le_of_ble_eq_true rfl,fun H7' s7=>⟨_,rfl,A8 (fun z=>nomatch z) (fun _=>he3 _ _ ?_)⟩⟩;have U7:=((U4.same s5).same S6').same s7;obtain⟨p,O1,⟨dq,ob⟩,Wp,_⟩:=id U7.d;obtain⟨lu,mp,O0,⟨dy,ob1⟩,Wm,_⟩:=id Wp;obtain⟨M,wa,xs,qs,eM,WM,_⟩:=id Wm;obtain⟨dm,obm⟩:=WM.ob;rw[eM] at obm;refine⟨_,rfl,q,CD,dq,_,_,rfl,ob,Td.cl,Td.np,DW _,p,CP,dy,_,_,rfl,ob1,Tp.cl,Tp.nm,La _ _,mp,dm,_,rfl,obm,Wy _ aA,M,ds,wa,xs,m,qs,by rw[eM];rfl,WM,hpl,hln,fun l ms H8 fl kl8 rp s8=>?_⟩;have U8:=U7.same s8;refine⟨_,rfl,.ref l,.ref rl,.lst m.deeds,rfl,⟨l,ms,rfl,kl8,rp⟩,drp U8,hdp,fun H9 s9=>⟨_,rfl,A8 (fun z=>nomatch z) (fun _=>⟨_,_,_,O,rfl,U8.same s9⟩)⟩⟩
  rintro σ H7' ⟨v6,v7,v8,O,rfl,U⟩;refine hn7 _ _ ?_;obtain⟨p,O1,⟨dq,ob⟩,Wp,_⟩:=id U.d;obtain⟨lu,mp,O0,⟨dy,ob1⟩,_⟩:=id Wp;exact⟨_,rfl,q,CD,dq,_,_,rfl,ob,Td.cl,Td.np,DW _,p,dy,_,rfl,ob1,G6 ⟨aA,aA⟩,p,ds,m,O1,rfl,Wp,.int 0,.int 0,.int 0,rfl,rfl,rfl,yO _,fun H8 s8=>k H8⟩
def Bv:List (Str×Tok×eZ):=[("come", 1556,1043),("rise", 1560,1044),("die", 1564,1045),("penance", 1568,1046),("bring", 1570,1047),("give", 1573,1048),("pay", 1578,1049)]
def Bh:List (Str×Tok×eZ):=[("claim", 1591,1051),("wergild", 1596,1052),("accuse", 1602,1053)]
def Dn:List (Str×Tok×eZ):=[("undo", 1721,1140),("redo", 1722,1141),("moment", 1723,1142),("stands", 1724,1143),("who", 1726,1144),("forsworn", 1729,1145),("balance", 1731,1146)]
theorem Wo{K:uFg}{t:eZ}{f:Str}{ks:eS}(its:Array eY)(e:K.lookup t=some ⟨.type "tuple", none,.seq its 0,#[]⟩)(hz:its.size<=sizeLine)(ek:Z9 (cs f)=ks)(v:ZH (ks.map V.str) its.toList):∀H,ZT K H t ((Z9 (cs f)).map V.str):=fun H=>by rw[ek];exact .inr ⟨_,its,0,e,rfl,rfl,hz,v⟩
theorem LD(pr:Params):JU (KK pr) Bv Bh:=by
 intro q hq;simp only[fm10,xC,xT,or_false] at hq;rcases hq with rfl | rfl | rfl | rfl | rfl | rfl | rfl | rfl | rfl | rfl
 ·exact .inl ⟨aA,1043,aA,aA,Wo (ks:=(["name","number","number"]:eS)) #[.str "name" 1557,.str "number" 1558,.str "number" 1559] (by kernel_rfl) aA aA (.cons ⟨_,rfl⟩ (.cons ⟨_,rfl⟩ (.cons ⟨_,rfl⟩ .nil)))⟩
 ·exact .inl ⟨aA,1044,aA,aA,Wo (ks:=(["name","number","number"]:eS)) #[.str "name" 1561,.str "number" 1562,.str "number" 1563] (by kernel_rfl) aA aA (.cons ⟨_,rfl⟩ (.cons ⟨_,rfl⟩ (.cons ⟨_,rfl⟩ .nil)))⟩
 ·exact .inl ⟨aA,1045,aA,aA,Wo (ks:=(["name","number","name"]:eS)) #[.str "name" 1565,.str "number" 1566,.str "name" 1567] (by kernel_rfl) aA aA (.cons ⟨_,rfl⟩ (.cons ⟨_,rfl⟩ (.cons ⟨_,rfl⟩ .nil)))⟩
 ·exact .inl ⟨aA,1046,aA,aA,Wo (ks:=(["name"]:eS)) #[.str "name" 1569] (by kernel_rfl) aA aA (.cons ⟨_,rfl⟩ .nil)⟩
 ·exact .inl ⟨aA,1047,aA,aA,Wo (ks:=(["name","number"]:eS)) #[.str "name" 1571,.str "number" 1572] (by kernel_rfl) aA aA (.cons ⟨_,rfl⟩ (.cons ⟨_,rfl⟩ .nil))⟩
 ·exact .inl ⟨aA,1048,aA,aA,Wo (ks:=(["number","name","name","number"]:eS)) #[.str "number" 1574,.str "name" 1575,.str "name" 1576,.str "number" 1577] (by kernel_rfl) aA aA (.cons ⟨_,rfl⟩ (.cons ⟨_,rfl⟩ (.cons ⟨_,rfl⟩ (.cons ⟨_,rfl⟩ .nil))))⟩
 ·exact .inl ⟨aA,1049,aA,aA,Wo (ks:=(["name","name","number","number"]:eS)) #[.str "name" 1579,.str "name" 1580,.str "number" 1581,.str "number" 1582] (by kernel_rfl) aA aA (.cons ⟨_,rfl⟩ (.cons ⟨_,rfl⟩ (.cons ⟨_,rfl⟩ (.cons ⟨_,rfl⟩ .nil))))⟩
 ·exact .inr ⟨aA,aA,1051,aA,Wo (ks:=(["name","number","number","number"]:eS)) #[.str "name" 1592,.str "number" 1593,.str "number" 1594,.str "number" 1595] (by kernel_rfl) aA aA (.cons ⟨_,rfl⟩ (.cons ⟨_,rfl⟩ (.cons ⟨_,rfl⟩ (.cons ⟨_,rfl⟩ .nil))))⟩
 ·exact .inr ⟨aA,aA,1052,aA,Wo (ks:=(["name","name","number","number","number"]:eS)) #[.str "name" 1597,.str "name" 1598,.str "number" 1599,.str "number" 1600,.str "number" 1601] (by kernel_rfl) aA aA (.cons ⟨_,rfl⟩ (.cons ⟨_,rfl⟩ (.cons ⟨_,rfl⟩ (.cons ⟨_,rfl⟩ (.cons ⟨_,rfl⟩ .nil)))))⟩
 ·exact .inr ⟨aA,aA,1053,aA,Wo (ks:=(["number","name","number","number"]:eS)) #[.str "number" 1603,.str "name" 1604,.str "number" 1605,.str "number" 1606] (by kernel_rfl) aA aA (.cons ⟨_,rfl⟩ (.cons ⟨_,rfl⟩ (.cons ⟨_,rfl⟩ (.cons ⟨_,rfl⟩ .nil))))⟩
theorem P7:KY Bv Bh:=fun w h=>by
 have hn:∀n∈fm10.map (·.1),n≠w:=fun n hn e=>by
  obtain⟨q,hq,rfl⟩:=yS.mp hn;unfold Ww at h;rw[zK,zS] at h;exact h q hq (by simpa using e)
 have go:∀kvs:List (Str×Tok×eZ),(∀x∈kvs,x.1∈fm10.map (·.1))->Yz kvs w=none:=fun kvs hk=>by
  unfold Yz;rw[zK,zS];intro x hx;simpa using hn x.1 (hk x hx)
 exact⟨go _ aA,go _ aA⟩
theorem NB(pr:Params):∀q∈df7,∃t,Yz Dn q.1=some t/\∀H,ZT (KK pr) H t ((Z9 (cs q.2)).map V.str):=by
 intro q hq;simp only[df7,xC,xT,or_false] at hq;rcases hq with rfl | rfl | rfl | rfl | rfl | rfl | rfl
 ·exact⟨1143,aA,Wo (ks:=(["number"]:eS)) #[.str "number" 1725] (by kernel_rfl) aA aA (.cons ⟨_,rfl⟩ .nil)⟩
 ·exact⟨1144,aA,Wo (ks:=(["number","number"]:eS)) #[.str "number" 1727,.str "number" 1728] (by kernel_rfl) aA aA (.cons ⟨_,rfl⟩ (.cons ⟨_,rfl⟩ .nil))⟩
 ·exact⟨1145,aA,Wo (ks:=(["name"]:eS)) #[.str "name" 1730] (by kernel_rfl) aA aA (.cons ⟨_,rfl⟩ .nil)⟩
 ·exact⟨1146,aA,Wo (ks:=(["name","number"]:eS)) #[.str "name" 1732,.str "number" 1733] (by kernel_rfl) aA aA (.cons ⟨_,rfl⟩ (.cons ⟨_,rfl⟩ .nil))⟩
 ·exact⟨1142,aA,Wo (ks:=([]:eS)) #[] (by kernel_rfl) aA aA .nil⟩
 ·exact⟨1140,aA,Wo (ks:=([]:eS)) #[] (by kernel_rfl) aA aA .nil⟩
 ·exact⟨1141,aA,Wo (ks:=([]:eS)) #[] (by kernel_rfl) aA aA .nil⟩
theorem Rh(x:Str)(h:Wi x=none):Yz Dn x=none:=by
 have hk:∀y∈Dn,y.1∈df7.map (·.1):=aA
 unfold Yz;rw[zK,zS];intro y hy;obtain⟨p,hp,e⟩:=yS.mp (hk y hy);simpa [e] using HM h p hp
def cE(x:Str):eZ:=(([("MootError", 38),("NoMeasure", 77),("Unknown", 96),("NoThing", 134),("NoCase", 153),("NoOath", 172),("NotYet", 191),("Dead", 210),("TooMany", 248),("SwornTwice", 267),("Forsworn", 286),("TooLight", 305),("Broken", 324),("NoDeed", 400)]:List (Str×eZ)).lookup x).getD 0
local macro_rules | `(tactic| walk_at "k")=>`(tactic| ((repeat' (refine And.intro ?_ ?_))<;>kernel_rfl))
theorem all_mk{Pz:fA}{w:fB}{h:Heap}{mg:eR}{fa:eZ}(X:(KK w.params).In h)(G:h.Ns mainGlobals mg)(hfa:mg "law" = some (.ref fa)) :
  ∃fd:FuncData,(∀(s:eX)(v:eY),BindsTo s fd ⟨[v],[]⟩ [("_law_script", v)])/\∀base:Heap,(KK w.params).In base->base.Ns mainGlobals mg->ZZ Pz w (KK w.params) mg base YY 40 fa fd ["_law_script"] (Dy (KK w.params)):=by
 have e:some (Value.ref fa)=some (.ref 1332):=hfa.symm.trans (PySem.W.mg_of X G (by kernel_rfl));cases e;have Zjp:=hQ "done" Gk 409 408 pm1 X G (by walk_at "k");have Zjm:=hQ "copied" II 414 413 pm1 X G (by walk_at "k");have Zhy:=hQ "check_day" K5 447 446 pm2 X G (by walk_at "k");have Zhz:=hQ "check_weight" Gy 454 453 pm2 X G (by walk_at "k");have Zii:=hQ "check_need" Gc 461 460 pm2 X G (by walk_at "k");have Zhw:=hQ "is_name" Iv 473 472 pm3 X G (by walk_at "k");have Zic:=hQ "total" IA 478 477 pm3 X G (by walk_at "k");have Zih:=hQ "settled" Kd 677 676 pm5 X G (by walk_at "k");have Zig:=hQ "settled_with" Kg 684 683 pm5 X G (by walk_at "k");have Zil:=hQ "check_case" Ks 710 709 pm5 X G (by walk_at "k");have Zin:=hQ "check_oath" Lw 715 714 pm5 X G (by walk_at "k");have Zif:=hQ "margin_without" Gv 722 721 pm5 X G (by walk_at "k");have Zie:=hQ "kept_weight" CF 727 726 pm5 X G (by walk_at "k");have Zi5:=hQ "read_deed" HB 1060 1059 pm7 X G (by walk_at "k");have Zi0:=hQ "place_of" GV 1067 1066 pm7 X G (by walk_at "k");have Zi1:=hQ "read_names" Hr 1072 1071 pm7 X G (by walk_at "k");have Zi3:=hQ "read_values" He 1077 1076 pm7 X G (by walk_at "k");have Ziz:=hQ "read_value" Lp 1084 1083 pm7 X G (by walk_at "k");have Ziy:=hQ "is_number" GB 1089 1088 pm7 X G (by walk_at "k");have Zhq:=hQ "_law_src" L5 1195 1194 Z6 X G (by walk_at "k");have Zhr:=hQ "_law_next" Gg 1202 1201 Z6 X G (by walk_at "k");have Zhp:=hQ "_law_whole" GA 1209 1208 Z6 X G (by walk_at "k");have Zae:=hQ "_law_same" Cj 1216 1215 Z6 X G (by walk_at "k");have Zht:=hQ "_law_unlike" Gi 1223 1222 Z6 X G (by walk_at "k");have Zhs:=hQ "_law_word" Br 1228 1227 Z6 X G (by walk_at "k");have Zhu:=hQ "_law_names" Ii 1235 1234 Z6 X G (by walk_at "k");have Zi6:=hQ "_law_number" Hy 1242 1241 Z6 X G (by walk_at "k");have Zi7:=hQ "_law_row" CQ 1247 1246 Z6 X G (by walk_at "k");have Zi8:=hQ "_law_form" KL 1254 1253 Z6 X G (by walk_at "k");have Zi9:=hQ "_law_any_deed" Kj 1261 1260 Z6 X G (by walk_at "k");have Zjd:=hQ "_law_shown" Ge 1268 1267 Z6 X G (by walk_at "k");have Zje:=hQ "_law_read_number" HZ 1275 1274 Z6 X G (by walk_at "k");have Zjf:=hQ "_law_read_name" KU 1282 1281 Z6 X G (by walk_at "k");have Zjg:=hQ "_law_read_part" GN 1289 1288 Z6 X G (by walk_at "k");have Zjh:=hQ "_law_read_sides" BQ 1294 1293 Z6 X G (by walk_at "k");have Zjj:=hQ "_law_read" JR 1299 1298 Z6 X G (by walk_at "k");have Zjl:=hQ "_law_spoilt" IM 1306 1305 Z6 X G (by walk_at "k");have Zjx:=hQ "_law_desk_form" Hz 1313 1312 Z6 X G (by walk_at "k");have Zjz:=hQ "_law_is_line" Ep 1318 1317 Z6 X G (by walk_at "k");have Zj1:=hQ "_law_line" IS 1325 1324 Z6 X G (by walk_at "k");have F_law:=Fl (K:=KK w.params) (x:="law") (qual:="law") (st:=AX) (f:=1332) (oc:=.type "function") (od:=none) (an:=none) (osl:=#[]) (kV:=.none) (doc:=.none) (pm:=(.str "law_forsworn_k57_desk_lines_of_no_form" 1798)) (cdv:=(.ref 1331)) (ct:=.none) (by kernel_rfl) (by kernel_rfl) (by kernel_rfl);have Zh3:=hMQ (K:=KK w.params) 633 "__init__" "Folk.__init__" GW 492 491 pm4 (by walk_at "k");have Zh8:=hMQ (K:=KK w.params) 633 "come" "Folk.come" KR 499 498 pm4 (by walk_at "k");have Zia:=hMQ (K:=KK w.params) 633 "weight" "Folk.weight" DQ 532 531 pm4 (by walk_at "k");have Zh2:=hMQ (K:=KK w.params) 633 "died_by" "Folk.died_by" Li 567 566 pm4 (by walk_at "k");have Zh4:=hMQ (K:=KK w.params) 633 "check_coming" "Folk.check_coming" Gf 588 587 pm4 (by walk_at "k");have Zcv:=hMQ (K:=KK w.params) 633 "check_known" "Folk.check_known" EV 609 608 pm4 (by walk_at "k");have Zcw:=hMQ (K:=KK w.params) 633 "check_there" "Folk.check_there" Eg 616 615 pm4 (by walk_at "k");have Zij:=hMQ (K:=KK w.params) 633 "check_living" "Folk.check_living" GO 623 622 pm4 (by walk_at "k");have TcFolk:Rb (KK w.params) 633:=by
  refine⟨⟨?_,?_,?_,?_⟩,?_,?_,?_,?_⟩<;>(show _=_;kernel_rfl)
 have mkFolk:PySem.W.makesIn (KK w.params) 633=true:=by kernel_rfl
 have kcFolk:PySem.W.keepIn (KK w.params) (.ref 633)=true:=by kernel_rfl
 have gCFolk:mg "Folk" = some (.ref 633):=PySem.W.mg_of X G (by kernel_rfl);have Zix:=hMQ (K:=KK w.params) 1037 "__init__" "Moot.__init__" Lm 741 740 pm6 (by walk_at "k");have Zit:=hMQ (K:=KK w.params) 1037 "come" "Moot.come" Lu 748 747 pm6 (by walk_at "k");have Ziw:=hMQ (K:=KK w.params) 1037 "bring" "Moot.bring" G0 776 775 pm6 (by walk_at "k");have Ziv:=hMQ (K:=KK w.params) 1037 "claim" "Moot.claim" Gz 797 796 pm6 (by walk_at "k");have Zjn:=hMQ (K:=KK w.params) 1037 "roll" "Moot.roll" GS 823 822 pm6 (by walk_at "k");have Ziq:=hMQ (K:=KK w.params) 1037 "forsworn_names" "Moot.forsworn_names" IV 994 993 pm6 (by walk_at "k");have Zip:=hMQ (K:=KK w.params) 1037 "weighed" "Moot.weighed" Cs 999 998 pm6 (by walk_at "k");have Ziu:=hMQ (K:=KK w.params) 1037 "try_case" "Moot.try_case" IY 1006 1005 pm6 (by walk_at "k");have Zio:=hMQ (K:=KK w.params) 1037 "check_named" "Moot.check_named" Ln 1013 1012 pm6 (by walk_at "k");have Zik:=hMQ (K:=KK w.params) 1037 "check_thing" "Moot.check_thing" Ki 1020 1019 pm6 (by walk_at "k");have Zir:=hMQ (K:=KK w.params) 1037 "check_sides" "Moot.check_sides" Io 1027 1026 pm6 (by walk_at "k");have Zim:=hMQ (K:=KK w.params) 1037 "check_moments" "Moot.check_moments" Ky 1034 1033 pm6 (by walk_at "k");have TcMoot:ZU (KK w.params) 1037:=by
  refine⟨⟨?_,?_,?_,?_⟩,?_,?_,?_,?_,?_,?_,?_,?_,?_⟩<;>(show _=_;kernel_rfl)
 have mkMoot:PySem.W.makesIn (KK w.params) 1037=true:=by kernel_rfl
 have kcMoot:PySem.W.keepIn (KK w.params) (.ref 1037)=true:=by kernel_rfl
 have gCMoot:mg "Moot" = some (.ref 1037):=PySem.W.mg_of X G (by kernel_rfl);have Zjs:=hMQ (K:=KK w.params) 1134 "__init__" "Past.__init__" Lr 1103 1102 pm8 (by walk_at "k");have Zjq:=hMQ (K:=KK w.params) 1134 "does" "Past.does" HL 1110 1109 pm8 (by walk_at "k");have Zjr:=hMQ (K:=KK w.params) 1134 "waiting" "Past.waiting" Ip 1131 1130 pm8 (by walk_at "k");have TcPast:YJ (KK w.params) 1134:=by
  refine⟨⟨?_,?_,?_,?_⟩,?_,?_⟩<;>(show _=_;kernel_rfl)
 have mkPast:PySem.W.makesIn (KK w.params) 1134=true:=by kernel_rfl
 have kcPast:PySem.W.keepIn (KK w.params) (.ref 1134)=true:=by kernel_rfl
 have gCPast:mg "Past" = some (.ref 1134):=PySem.W.mg_of X G (by kernel_rfl);have Zjt:=hMQ (K:=KK w.params) 1184 "__init__" "Desk.__init__" IG 1160 1159 pm9 (by walk_at "k");have Zjw:=hMQ (K:=KK w.params) 1184 "say" "Desk.say" E8 1167 1166 pm9 (by walk_at "k");have Zju:=hMQ (K:=KK w.params) 1184 "carry_out" "Desk.carry_out" Km 1174 1173 pm9 (by walk_at "k");have Z2q:=hMQ (K:=KK w.params) 1184 "reply" "Desk.reply" Rw 1181 1180 pm9 (by walk_at "k");have TcDesk:YQ (KK w.params) 1184:=by
  refine⟨⟨?_,?_,?_,?_⟩,?_⟩<;>(show _=_;kernel_rfl)
 have mkDesk:PySem.W.makesIn (KK w.params) 1184=true:=by kernel_rfl
 have kcDesk:PySem.W.keepIn (KK w.params) (.ref 1184)=true:=by kernel_rfl
 have gCDesk:mg "Desk" = some (.ref 1184):=PySem.W.mg_of X G (by kernel_rfl);have Zfc:=hMQ (K:=KK w.params) 400 "called" "NoDeed.called" IJ 397 396 pm0 (by walk_at "k");rw[show (400:eZ)=cE "NoDeed" from by decide +kernel] at Zfc;have er:Er (KK w.params) mg cE errs:=bN X G (by kernel_rfl);have al_balance_dues:mg "balance_dues" = mg "balance" := (PySem.W.mg_of X G (by kernel_rfl):mg "balance_dues" = some (.ref 426)).trans (PySem.W.mg_of X G (by kernel_rfl):mg "balance" = some (.ref 426)).symm;have al_holder_goods:mg "holder_goods" = mg "holder" := (PySem.W.mg_of X G (by kernel_rfl):mg "holder_goods" = some (.ref 649)).trans (PySem.W.mg_of X G (by kernel_rfl):mg "holder" = some (.ref 649)).symm;have al_breakers_stands:mg "breakers_stands" = mg "breakers" := (PySem.W.mg_of X G (by kernel_rfl):mg "breakers_stands" = some (.ref 691)).trans (PySem.W.mg_of X G (by kernel_rfl):mg "breakers" = some (.ref 691)).symm;have c_LAST_DAY:mg "LAST_DAY" = some (.int 9999 718):=PySem.W.mg_of X G (by kernel_rfl);have c_MOST_WEIGHT:mg "MOST_WEIGHT" = some (.int 1000 720):=PySem.W.mg_of X G (by kernel_rfl);have c_MOST_NEED:mg "MOST_NEED" = some (.int 12000 722):=PySem.W.mg_of X G (by kernel_rfl);have c_LONGEST_NAME:mg "LONGEST_NAME" = some (.int 12 756):=PySem.W.mg_of X G (by kernel_rfl);have c_MOST_FOLK:mg "MOST_FOLK" = some (.int 40 772):=PySem.W.mg_of X G (by kernel_rfl);have c_ONES:mg "ONES" = some (.int 0 1036):=PySem.W.mg_of X G (by kernel_rfl);have c_OTHERS:mg "OTHERS" = some (.int 1 1038):=PySem.W.mg_of X G (by kernel_rfl);have c_NEED:mg "NEED" = some (.int 2 1040):=PySem.W.mg_of X G (by kernel_rfl);have c_NAMED:mg "NAMED" = some (.int 3 1042):=PySem.W.mg_of X G (by kernel_rfl);have c_MOST_THINGS:mg "MOST_THINGS" = some (.int 40 1122):=PySem.W.mg_of X G (by kernel_rfl);have c_MOST_CASES:mg "MOST_CASES" = some (.int 60 1124):=PySem.W.mg_of X G (by kernel_rfl);have c_MOST_SWEARERS:mg "MOST_SWEARERS" = some (.int 12 1126):=PySem.W.mg_of X G (by kernel_rfl);have c_MOST_MOMENTS:mg "MOST_MOMENTS" = some (.int 400 1128):=PySem.W.mg_of X G (by kernel_rfl);have c_MOST_FIGURES:mg "MOST_FIGURES" = some (.int 9 1554):=PySem.W.mg_of X G (by kernel_rfl);have T:Txt mg:=⟨PySem.W.mg_none_of X G (by kernel_rfl),PySem.W.mg_none_of X G (by kernel_rfl),PySem.W.mg_none_of X G (by kernel_rfl),PySem.W.mg_none_of X G (by kernel_rfl),PySem.W.mg_none_of X G (by kernel_rfl),PySem.W.mg_none_of X G (by kernel_rfl),PySem.W.mg_none_of X G (by kernel_rfl),PySem.W.mg_none_of X G (by kernel_rfl),PySem.W.mg_none_of X G (by kernel_rfl),PySem.W.mg_none_of X G (by kernel_rfl),PySem.W.mg_none_of X G (by kernel_rfl),PySem.W.mg_none_of X G (by kernel_rfl),PySem.W.mg_none_of X G (by kernel_rfl),PySem.W.mg_none_of X G (by kernel_rfl),PySem.W.mg_none_of X G (by kernel_rfl)⟩
 exact⟨PySem.W.fnOf "law" "law" (Wa AX) (Yd AX) (Zj AX) .none .none .none (.str "law_forsworn_k57_desk_lines_of_no_form" 1798) none (.ref 1331) .none,fun s v=>.of_eq rfl,fun base _ _=>by
  have F1:=bL (P:=Pz) (w:=w) (base:=base) Zhq T;have F2:=Rm (P:=Pz) (w:=w) (base:=base) Zhr T;have F3:=SO Zhs T F2;have F4:=dM (P:=Pz) (w:=w) (base:=base) Zht T;have F5:=OS Zhu T F2 F3 F4;have F8:=GJ Zae T (Qy (P:=Pz) (w:=w) (base:=base) Zhp T) 6;have F9:=NA (P:=Pz) (w:=w) (base:=base) Zhw T ⟨_,c_LONGEST_NAME⟩;have F10:=Ni (P:=Pz) (w:=w) (base:=base) Zhy ⟨_,c_LAST_DAY⟩;have F11:=XG (P:=Pz) (w:=w) (base:=base) Zhz ⟨_,c_MOST_WEIGHT⟩;have F13:=RC (P:=Pz) (w:=w) (base:=base) Zii ⟨_,c_MOST_NEED⟩ er;have M1:=OB (P:=Pz) (w:=w) (mg:=mg) (base:=base) Zcv TcFolk;have M2:=SU (P:=Pz) (w:=w) (mg:=mg) (base:=base) Zcw TcFolk;have M3:=Mh (P:=Pz) (w:=w) (mg:=mg) (base:=base) Zh2 TcFolk;have X1:=Xe (P:=Pz) (w:=w) (base:=base) Zcv TcFolk er;have X2:=RS (P:=Pz) (w:=w) (base:=base) Zcw TcFolk er;have X3:=MB Zij TcFolk er M3;have M6:=ME Zh4 T TcFolk ⟨_,c_MOST_FOLK⟩ F9 F10 F11;have M7:=bO Zh8 TcFolk M6;have M8:=bX Zia T TcFolk F10 M1 M2;have M0:=(Md (P:=Pz) (w:=w) (mg:=mg) (base:=base) Zh3 TcFolk).mks mkFolk kcFolk gCFolk;have G1:=Sl (P:=Pz) (w:=w) (base:=base) Zie T;have G2:=RI Zif T ⟨_,c_ONES⟩ ⟨_,c_OTHERS⟩ ⟨_,c_NEED⟩ G1;have G3:=Qe Zig T ⟨_,c_NAMED⟩ G2;have G4:=LQ Zih T G3;have G7:=Ob (P:=Pz) (w:=w) (base:=base) Zil T er;have G8:=R0 Zin T ⟨_,c_ONES⟩ ⟨_,c_OTHERS⟩ er G7;have G10:=Ry (P:=Pz) (w:=w) (base:=base) Zic T;have N1:=fun C=>NP (P:=Pz) (w:=w) (base:=base) (C:=C) Zim T TcMoot ⟨_,c_MOST_MOMENTS⟩;have N2:=fun C=>cV (P:=Pz) (w:=w) (base:=base) (C:=C) Zik T TcMoot er;have N3:=bI Zio TcFolk TcMoot er X1 X2 X3 (N2 _) G8;have N0:=(Og Zix TcMoot M0).mks mkMoot kcMoot gCMoot;have N4:=OG Zit TcFolk TcMoot M6 M7 (N1 _);have N5:=Px Zip TcFolk TcMoot M8;have N6:=fun C=>OR (P:=Pz) (w:=w) (mg:=mg) (base:=base) (C:=C) Ziq T TcMoot ⟨_,c_NAMED⟩;have N7:=XQ Zir T TcMoot er ⟨_,c_MOST_CASES⟩ ⟨_,c_MOST_SWEARERS⟩ (N1 _) (N6 _) N5 G10;have N8:=Ss Ziu T TcMoot N5 G4;have N9:=cX Ziw T TcMoot ⟨_,c_MOST_THINGS⟩ F10 N3 (N1 _);have P1:=XS Ziv T TcMoot F10 F13 N3 N7 N8;have Q1:=SY Zjp TcMoot er N4 N9 P1;have Q2:=Xf Zjq TcPast Q1;have Q3:=fun C CM=>RJ (P:=Pz) (w:=w) (base:=base) (C:=C) (CM:=CM) Zjr T TcPast;have Q4:=(Xg Zjs TcPast N0).mks mkPast kcPast gCPast;have Q5:=(Sx Zjt TcDesk Q4).mks mkDesk kcDesk gCDesk;have R10:=MZ (P:=Pz) (w:=w) (base:=base) Ziy T ⟨_,c_MOST_FIGURES⟩;have R11:=SV Ziz T er F9 R10;have R12:=dZ Zi1 R11;have R13:=LY Zi3 T er R11;have R14:=LU (P:=Pz) (w:=w) (base:=base) Zi0 er;have tb:HX (KK w.params) mg w.params 1042 1050 Bv Bh:=⟨PySem.W.mg_of X G (by kernel_rfl),PySem.W.mg_of X G (by kernel_rfl),⟨⟨7,by kernel_rfl⟩,aA,aA⟩,⟨⟨3,by kernel_rfl⟩,aA,aA⟩⟩;have ta:Lb (KK w.params) mg w.params 1139 Dn:=⟨PySem.W.mg_of X G (by kernel_rfl),⟨⟨7,by kernel_rfl⟩,aA,aA⟩,NB w.params,Rh⟩;have R15:=Qw Zi5 T er tb (LD w.params) P7 R14 R12 R13;have sy:=XZ (P:=Pz) (w:=w) (base:=base) Zfc er;have S1:=Sw Zju TcDesk TcPast ta R15 R13 Q2 (Z2q.nev (P:=Pz) (w:=w) (mg:=mg) (base:=base));have S2:=OE Zjw TcDesk er sy S1;have S3:=fun C=>Mr (C:=C) Zjn TcMoot (RT (P:=Pz) (w:=w) (base:=base) Zjm T);have F17:=Qq Zi6 T F2;have F18:=Oj Zi7 T F2;have F19:=XF (P:=Pz) (w:=w) (base:=base) Zi8 T;have F20:=LN (kP:=Bv) (kS:=Bh) Zi9 T F2 F17 F18 (F19.imp fun vs H Q E h=>Mn h);have F21:=Rc (P:=Pz) (w:=w) (base:=base) (kP:=Bv) (kS:=Bh) Zjd T;have V1:=OU (P:=Pz) (w:=w) (base:=base) Zje T;have V2:=Nx (P:=Pz) (w:=w) (base:=base) Zjf T;have V3:=XH Zjg V2 V1;have V4:=OA Zjh T V2;have V5:=QD Zjj T F19 V3 V4;have V6:=bW Zjl T F2;have V7:=dX (P:=Pz) (w:=w) (base:=base) Zjx T;have V8:=Nz Zjz T V7 V5 V3;have V9:=Rn Zj1 T F2 F20 F21 V7 F17
  exact(dU F_law T TcDesk TcPast TcMoot (LD w.params) F1 F2 F5 Q5 S2 F21 V9 V6 V8 F8 (S3 _) (Q3 _ _)).mono aA⟩
end Law
open PySem PySem.W PyProof.Rows
set_option maxRecDepth 100000 in
set_option maxHeartbeats 0 in
theorem PySem.Challenge.cw_forsworn_k57_desk_lines_of_no_form_holds : PySem.Challenge.rw_forsworn_k57_desk_lines_of_no_form.Holds := by
 w_on;o_law
 refine holds_open (q:=Law.q) (loose:=["balance_dues","holder_goods","breakers_stands","PLAIN","SWORN","ASKED"]) (Xt:=fun s=>xlAt Law.q [] s && recOk (RowW.records PySem.Challenge.rw_forsworn_k57_desk_lines_of_no_form.row.toRowW) s) (XP:=XL Law.q []) (Yf:=Law.HK.obs) (Ya:=Law.HK.val) (YP:=Law.HK.says) (N:=15981) Law.left Law.HK.of Law.HK.keeps (fun s e=>xl_of s (Bool.and_eq_true_iff.mp e).1) XL.keeps (by rfl) (by rfl) (by rfl) (fun s e=>recFacts_of (Bool.and_eq_true_iff.mp e).2) (by rfl) (by first | assumption | decide +kernel) (by decide +kernel) ⟨rfl,rfl,rfl,rfl,rfl,by decide +kernel⟩ ?hw ?hc
 case hw=>w_witness2
 refine L2.walkLaw (l:=PySem.Challenge.rw_forsworn_k57_desk_lines_of_no_form) rfl rfl (fun w h Y=>PySem.W.kIn_of (K:=Law.KK) Y) fun w mg fa h KX G hmg=>Law.all_mk KX G hmg
namespace Law
end Law
