import PyProof.Rows.All
import Wide.All
import OpenK.AllK
import Wide.FinOn
import Lean
import PyProof.EqAt
import PyProof.EqKinds
import PyProof.TupleCall
import KE.KSortTup
import PyProof.NeKinds
import KE.KDictSum
import KE.KLam
import KE.KNestM
import KE.KSortKey
import PyProof.Rows.TupAdd
import KE.KRevIter
import PyProof.Rows.TupDisplay
import KE.KDictOf
import PyProof.ExcArgsOwn
import PyProof.ExcAttrAll.ValueError
import KE.KIsAll
import PySem.Challenge.RW_forsworn_k11_cases_that_are_not_there
set_option Elab.async false
set_option linter.all false
set_option maxRecDepth 100000
set_option maxHeartbeats 4000000
abbrev xA := @List.length_map
abbrev xB := @List.getElem?_eq_getElem
abbrev xC := @List.getElem?_eq_some_iff
abbrev xD := @List.getD_eq_getElem?_getD
abbrev xE := @Nat.le_refl
abbrev xF := @List.mem_singleton
abbrev xG := @PySem.Heap.get?_push_of_some
abbrev xH := @decide_eq_true
abbrev xI := @List.mem_cons_self
abbrev xJ := @Bool.false_ne_true
abbrev xK := @decide_eq_false
abbrev xL := @List.length_append
abbrev xM := @List.mem_append_right
abbrev xN := @List.mem_cons_of_mem
abbrev xO := @List.mem_append
abbrev xP := @List.map_append
abbrev xQ := @List.map_cons
abbrev xR := @List.getElem?_map
abbrev xS := @List.length_cons
abbrev xT := @List.mem_of_getElem?
abbrev xU := @PySem.Heap.lt_size
abbrev xV := @List.mem_map
abbrev xW := @List.mem_cons
abbrev xX := @List.size_toArray
abbrev xY := @List.length_take
abbrev xZ := @Int.toNat_natCast
abbrev yA := @Nat.le_trans
abbrev yB := @List.take_add_one
abbrev yC := @PySem.Heap.get?_push_size
abbrev yD := @of_decide_eq_true
abbrev yE := @List.mem_range
abbrev yF := @List.mem_append_left
abbrev yG := @Nat.lt_of_lt_of_le
abbrev yH := @List.mem_filter
abbrev yI := @Bool.and_eq_true
abbrev yJ := @Nat.ne_of_lt
abbrev yK := @decide_eq_true_iff
abbrev yL := @List.take_length
abbrev yM := @Option.map_eq_some_iff
abbrev yN := @Int.eq_ofNat_of_zero_le
abbrev yO := @List.append_nil
abbrev yP := @List.sum_cons
abbrev yQ := @List.take_of_length_le
abbrev yR := @List.mem_of_mem_take
abbrev yS := @List.Pairwise.imp_of_mem
abbrev yT := @Nat.zero_le
abbrev yU := @List.lookup_cons
abbrev yV := @List.filter_cons
abbrev yW := @Bool.eq_iff_iff
abbrev yX := @List.mem_flatMap
abbrev yY := @Nat.le_of_lt
abbrev yZ := @List.map_map
abbrev zA := @Array.length_toList
abbrev zB := @List.replicate_succ
abbrev zC := @List.length_range
abbrev zD := @Bool.false_eq_true
abbrev zE := @List.pairwise_iff_getElem
abbrev zF := @List.map_congr_left
abbrev uFg := PySem.W.Frag
section
namespace L2
open PySem PySem.W
def topRunT (tb:String->Option Builtin) (p:Program) (w:World) (m:Nat) (ann:Option Value):Nat->SharedT->Thread->Option SharedT
 | 0,_,_=>none
 | n+1,s,t=>match through t with
  | true=>some s
  | false=>match stepOk m ann t with
   | false=>none
   | true=>match stepT (denote tb) p w s t with
    | some x=>topRunT tb p w m ann n x.1 x.2
    | none=>none
theorem Zml {tb:String->Option Builtin}{p:Program}{w:World}{m:Nat}{ann:Option Value}:∀ {n:Nat}{s r:SharedT}{t:Thread},topRunT tb p w m ann n s t=some r->topRun tb p w m ann n s.abs t=some r.abs
 | 0,s,r,t,h=>by cases h
 | n+1,s,r,t,h=>by
  unfold topRunT at h
  unfold topRun
  cases a:through t with
  | true=>rw [a] at h; cases h; rfl
  | false =>
   rw [a] at h
   cases b:stepOk m ann t with
   | false=>rw [b] at h; cases h
   | true =>
    rw [b] at h
    cases c:stepT (denote tb) p w s t with
    | none=>rw [c] at h; cases h
    | some x=>obtain ⟨s2,t2⟩:=x; rw [c] at h; dsimp only at h ⊢; rw [stepT_spec c]; exact Zml h
def Zul:List Obj->Nat->BT->BT
 | [],_,t=>t
 | o::r,i,t=>Zul r (i+1) (t.ins i o)
noncomputable def s0T (P:Params) (os:OsState):SharedT:=⟨Zul (boot_heap P).objs.toList 0 .nil,11,(boot_heap P).life,#[],boot_drawn,boot_toks,os⟩
noncomputable def seenT {α:Type}(p q:Program) (loose:List Str) (Xt:Shared->Bool) (Yf:Shared->α) (P:Params) (s:Shared) :=
 (staticsOk (importedModules p.main.body) (boot_heap P) s.heap && namesBound p s.heap && gensDone s && laidKept (boot_heap P) s.heap,openSeen q loose (importedModules p.main.body) Xt true s,Yf s)
theorem Z0h (P:Params) (os:OsState):(s0T P os).abs=⟨boot_heap P,#[],boot_drawn,boot_toks,os⟩:=by kernel_rfl
theorem Zw7 (P:Params):((boot_heap P).isNs mainGlobals && (#[]:Array GenState).size == 0,(boot_heap P).objs.size,(boot_heap P).nsMap mainGlobals "__annotations__")=(true,11,some (.ref 6)):=by kernel_rfl
theorem Z0i {p q:Program}{loose:List Str}{Xt:Shared->Bool}{α:Type}{Yf:Shared->α}{Ya:World->α}{N:Nat}(e:opening p=plainProg p.main.scope.names) (hN:Nat.ble 600 N=true) (f:∀ s,fenceModules? p s=some s)
  (run:∀ (w:World) (os:OsState),(topRunT treeTable p w 11 (some (.ref 6)) N (s0T w.params os) (topStub p)).map (fun s=>seenT p q loose Xt Yf w.params s.abs)=some (true,openGood q loose,Ya w)):LeftO p q loose Xt Yf Ya N:=fun w=>by
 obtain ⟨⟨h,gs,d,k,os⟩,e1,e2⟩:=yM.mp (boot_open e hN f w)
 obtain ⟨rfl,rfl,rfl,rfl⟩:h=boot_heap w.params/\gs = #[]/\d=boot_drawn/\k=boot_toks:=by simpa using e2
 obtain ⟨s,r1,r2⟩:=yM.mp (run w os)
 unfold seenT at r2
 obtain ⟨l1,l2,l3⟩:_/\_/\_:=by simpa only [Prod.mk.injEq] using r2
 have r:=Zml r1
 rw [Z0h] at r
 obtain ⟨z1,z2,z3⟩:_/\_/\_:=by simpa only [Prod.mk.injEq] using Zw7 w.params
 have t:topFrom treeTable p w N ⟨boot_heap w.params,#[],boot_drawn,boot_toks,os⟩=some s.abs:=by
  unfold topFrom
  dsimp only
  rw [z1,z2,z3,r]
  show (match staticsOk (importedModules p.main.body) (boot_heap w.params) s.abs.heap && namesBound p s.abs.heap && gensDone s.abs && laidKept (boot_heap w.params) s.abs.heap with | true=>some s.abs | false=>none)=_
  rw [l1]
 unfold openEnds
 rw [e1]
 show (topFrom treeTable p w N _).map _=_
 rw [t]
 exact congrArg some (Prod.ext l2 l3)
def Zu (p:Program) (i:Nat):Stmt:=p.main.body.getD i (.Pass ⟨0,0,0,0⟩)
def hIn (s:Stmt) (j:Nat):Stmt:=match s with
 | .ClassDef _ _ _ b _ _ _ _ _ _ _=>b.getD j (.Pass ⟨0,0,0,0⟩)
 | _=>s
def Z3t (s:Stmt):Arguments:=match s with
 | .FunctionDef _ a _ _ _ _ _ _ _ _=>a
 | _=>⟨[],[],none,[],[],none,[]⟩
def Z3u (s:Stmt):List Stmt:=match s with
 | .FunctionDef _ _ b _ _ _ _ _ _ _=>b
 | _=>[]
def Z19 (s:Stmt):Scope:=match s with
 | .FunctionDef _ _ _ _ _ _ c _ _ _=>c
 | _=>{kind:=.function,names:=[],isGenerator:=false,isCoroutine:=false }
def de (P:Params) (n:Str) (t:Tok) (v:Value):DictEntry:=⟨PyData.keyHash P n,.str n t,v⟩
def kFn (n q:Str) (st:Stmt) (pm:Value) (c:Addr):Obj:=⟨.type "function", none,.func (PySem.W.fnOf n q (Z3t st) (Z3u st) (Z19 st) .none .none .none pm none (.ref c) .none),#[]⟩
end L2
namespace PySem.W.Fast
noncomputable def tw14598715356260435866:PySem.Params->PySem.Obj:=PySem.W.boot_o_0
theorem te14598715356260435866:PySem.W.boot_o_0=tw14598715356260435866:=rfl
end PySem.W.Fast
lay_quick L2.topRunT L2.s0T L2.seenT
end
namespace Law
open PySem L2
def Kp (p:Program) (P:Params):uFg:=[
 (3,⟨(.type "dict"),none,(.dict #[de P "__name__" 165 (.str "law_forsworn_k11_cases_that_are_not_there" 530),de P "__doc__" 166 .none,de P "__package__" 167 .none,de P "__loader__" 168 (.builtin "__main__.__loader__#opaque"),de P "__spec__" 169 .none,de P "__annotations__" 170 (.ref 6),de P "__builtins__" 171 (.ref 4),de P "__file__" 173 (.str "/claim/cut.py" 172),de P "__cached__" 174 .none,de P "_wall" 193 (.ref 21),de P "MootError" 220 (.ref 38),de P "NoCase" 243 (.ref 58),de P "NoOath" 266 (.ref 77),de P "ONES" 270 (.int (0) 269),de P "OTHERS" 272 (.int (1) 271),de P "NEED" 274 (.int (2) 273),de P "NAMED" 276 (.int (3) 275),de P "settled" 283 (.ref 86),de P "settled_with" 295 (.ref 93),de P "margin" 303 (.ref 100),de P "broken" 310 (.ref 107),de P "breakers" 319 (.ref 114),de P "chain" 329 (.ref 121),de P "bearing" 335 (.ref 126),de P "namers" 342 (.ref 133),de P "breaking" 348 (.ref 138),de P "naming" 359 (.ref 145),de P "check_case" 367 (.ref 152),de P "check_oath" 373 (.ref 157),de P "margin_without" 383 (.ref 164),de P "kept_weight" 389 (.ref 169),de P "total" 397 (.ref 174),de P "fewest_to" 409 (.ref 181),de P "cheapest" 415 (.ref 186),de P "with_offer" 421 (.ref 191),de P "worthwhile" 431 (.ref 198),de P "CASE" 435 (.int (0) 434),de P "STANDS" 437 (.int (1) 436),de P "NAMES" 439 (.int (2) 438),de P "paper" 455 (.ref 205),de P "fewest_names" 461 (.ref 210),de P "enough" 469 (.ref 217),de P "claims_broken" 475 (.ref 222),de P "asked_by" 488 (.ref 229),de P "fewest" 502 (.ref 236),de P "turning" 508 (.ref 241),de P "breakings" 514 (.ref 246),de P "keepings" 520 (.ref 251),de P "joined" 529 (.ref 258),de P "_law_src" 538 (.ref 265),de P "_law_next" 548 (.ref 272),de P "_law_unlike" 559 (.ref 279),de P "_law_word" 565 (.ref 284),de P "_law_names" 579 (.ref 291),de P "_law_weight" 587 (.ref 298),de P "_law_total" 597 (.ref 305),de P "_law_side" 609 (.ref 312),de P "_law_need" 619 (.ref 319),de P "_law_named" 625 (.ref 324),de P "_law_suits" 641 (.ref 331),de P "_law_ask" 651 (.ref 338),de P "_law_refusal" 663 (.ref 345),de P "law" 669 (.ref 350)] 63),#[]⟩),
 (4,⟨(.type "module"),(some 0),.plain,#[]⟩),
 (37,⟨(.type "dict"),none,(.dict #[de P "__module__" 203 (.str "forsworn.errors" 194),de P "__firstlineno__" 207 (.int (5) 206),de P "called" 214 (.ref 35),de P "__static_attributes__" 215 (.ref 36),de P "__weakref__" 217 (.ref 39),de P "__doc__" 218 .none] 3),#[]⟩),
 (38,⟨(.type "type"),none,(.cls {name := "MootError", bases:=[(.type "ValueError")],mro:=[(.ref 38),(.type "ValueError"),(.type "Exception"),(.type "BaseException"),(.type "object")],ns:=37,qualname := "MootError", hasDict:=true,slotNames:=[],subclasses:=[(.ref 58),(.ref 77)],abstract:=false,collection:=none,hasDel:=false }),#[some (.ref 22),none,some (.str "MootError" 196),some (.str "MootError" 204),some (.builtin "ValueError.__new__"),some (.bool true)]⟩),
 (57,⟨(.type "dict"),none,(.dict #[de P "__module__" 228 (.str "forsworn.errors" 194),de P "__firstlineno__" 232 (.int (9) 231),de P "called" 239 (.ref 55),de P "__static_attributes__" 240 (.ref 56),de P "__doc__" 241 .none] 2),#[]⟩),
 (58,⟨(.type "type"),none,(.cls {name := "NoCase", bases:=[(.ref 38)],mro:=[(.ref 58),(.ref 38),(.type "ValueError"),(.type "Exception"),(.type "BaseException"),(.type "object")],ns:=57,qualname := "NoCase", hasDict:=true,slotNames:=[],subclasses:=[],abstract:=false,collection:=none,hasDel:=false }),#[some (.ref 42),none,some (.str "NoCase" 221),some (.str "NoCase" 229),some (.builtin "ValueError.__new__"),some (.bool true)]⟩),
 (76,⟨(.type "dict"),none,(.dict #[de P "__module__" 251 (.str "forsworn.errors" 194),de P "__firstlineno__" 255 (.int (13) 254),de P "called" 262 (.ref 74),de P "__static_attributes__" 263 (.ref 75),de P "__doc__" 264 .none] 2),#[]⟩),
 (77,⟨(.type "type"),none,(.cls {name := "NoOath", bases:=[(.ref 38)],mro:=[(.ref 77),(.ref 38),(.type "ValueError"),(.type "Exception"),(.type "BaseException"),(.type "object")],ns:=76,qualname := "NoOath", hasDict:=true,slotNames:=[],subclasses:=[],abstract:=false,collection:=none,hasDel:=false }),#[some (.ref 61),none,some (.str "NoOath" 244),some (.str "NoOath" 252),some (.builtin "ValueError.__new__"),some (.bool true)]⟩),
 (85,⟨(.type "code"),none,(.fields #[(.str "settled" 277),(.str "settled" 278),(.str "/claim/cut.py" 279),(.int (22) 0),(.int (1) 0),(.int (0) 0),(.int (0) 0),(.int (3) 0),(.ref 80),(.bool true),(.int (181) 0),(.ref 81),.none,(.ref 82),(.ref 83),(.ref 84),(.int (281) 0),(.int (22) 0),(.str "/claim/cut.py" 282)]),#[]⟩),
 (86,kFn "settled" "settled" (Zu p 10) (.str "forsworn.stands" 267) 85),
 (92,⟨(.type "code"),none,(.fields #[(.str "settled_with" 284),(.str "settled_with" 285),(.str "/claim/cut.py" 286),(.int (24) 0),(.int (2) 0),(.int (0) 0),(.int (0) 0),(.int (3) 0),(.ref 87),(.bool true),(.int (181) 0),(.ref 88),.none,(.ref 89),(.ref 90),(.ref 91),(.int (293) 0),(.int (24) 0),(.str "/claim/cut.py" 294)]),#[]⟩),
 (93,kFn "settled_with" "settled_with" (Zu p 11) (.str "forsworn.stands" 267) 92),
 (99,⟨(.type "code"),none,(.fields #[(.str "margin" 296),(.str "margin" 297),(.str "/claim/cut.py" 298),(.int (34) 0),(.int (2) 0),(.int (0) 0),(.int (0) 0),(.int (3) 0),(.ref 94),(.bool true),(.int (181) 0),(.ref 95),.none,(.ref 96),(.ref 97),(.ref 98),(.int (301) 0),(.int (34) 0),(.str "/claim/cut.py" 302)]),#[]⟩),
 (100,kFn "margin" "margin" (Zu p 12) (.str "forsworn.stands" 267) 99),
 (106,⟨(.type "code"),none,(.fields #[(.str "broken" 304),(.str "broken" 305),(.str "/claim/cut.py" 306),(.int (37) 0),(.int (1) 0),(.int (0) 0),(.int (0) 0),(.int (3) 0),(.ref 101),(.bool true),(.int (181) 0),(.ref 102),.none,(.ref 103),(.ref 104),(.ref 105),(.int (308) 0),(.int (37) 0),(.str "/claim/cut.py" 309)]),#[]⟩),
 (107,kFn "broken" "broken" (Zu p 13) (.str "forsworn.stands" 267) 106),
 (113,⟨(.type "code"),none,(.fields #[(.str "breakers" 311),(.str "breakers" 312),(.str "/claim/cut.py" 313),(.int (39) 0),(.int (3) 0),(.int (0) 0),(.int (0) 0),(.int (3) 0),(.ref 108),(.bool true),(.int (181) 0),(.ref 109),.none,(.ref 110),(.ref 111),(.ref 112),(.int (317) 0),(.int (39) 0),(.str "/claim/cut.py" 318)]),#[]⟩),
 (114,kFn "breakers" "breakers" (Zu p 14) (.str "forsworn.stands" 267) 113),
 (120,⟨(.type "code"),none,(.fields #[(.str "chain" 320),(.str "chain" 321),(.str "/claim/cut.py" 322),(.int (42) 0),(.int (2) 0),(.int (0) 0),(.int (0) 0),(.int (3) 0),(.ref 115),(.bool true),(.int (181) 0),(.ref 116),.none,(.ref 117),(.ref 118),(.ref 119),(.int (327) 0),(.int (42) 0),(.str "/claim/cut.py" 328)]),#[]⟩),
 (121,kFn "chain" "chain" (Zu p 15) (.str "forsworn.stands" 267) 120),
 (125,⟨(.type "code"),none,(.fields #[(.str "bearing" 330),(.str "bearing" 331),(.str "/claim/cut.py" 332),(.int (50) 0),(.int (2) 0),(.int (0) 0),(.int (0) 0),(.int (3) 0),(.ref 122),(.bool true),(.int (181) 0),(.ref 123),.none,.none,.none,(.ref 124),(.int (333) 0),(.int (50) 0),(.str "/claim/cut.py" 334)]),#[]⟩),
 (126,kFn "bearing" "bearing" (Zu p 16) (.str "forsworn.stands" 267) 125),
 (132,⟨(.type "code"),none,(.fields #[(.str "namers" 336),(.str "namers" 337),(.str "/claim/cut.py" 338),(.int (53) 0),(.int (1) 0),(.int (0) 0),(.int (0) 0),(.int (3) 0),(.ref 127),(.bool true),(.int (181) 0),(.ref 128),.none,(.ref 129),(.ref 130),(.ref 131),(.int (340) 0),(.int (53) 0),(.str "/claim/cut.py" 341)]),#[]⟩),
 (133,kFn "namers" "namers" (Zu p 17) (.str "forsworn.stands" 267) 132),
 (137,⟨(.type "code"),none,(.fields #[(.str "breaking" 343),(.str "breaking" 344),(.str "/claim/cut.py" 345),(.int (55) 0),(.int (1) 0),(.int (0) 0),(.int (0) 0),(.int (3) 0),(.ref 134),(.bool true),(.int (181) 0),(.ref 135),.none,.none,.none,(.ref 136),(.int (346) 0),(.int (55) 0),(.str "/claim/cut.py" 347)]),#[]⟩),
 (138,kFn "breaking" "breaking" (Zu p 18) (.str "forsworn.stands" 267) 137),
 (144,⟨(.type "code"),none,(.fields #[(.str "naming" 349),(.str "naming" 350),(.str "/claim/cut.py" 351),(.int (57) 0),(.int (2) 0),(.int (0) 0),(.int (0) 0),(.int (3) 0),(.ref 139),(.bool true),(.int (181) 0),(.ref 140),.none,(.ref 141),(.ref 142),(.ref 143),(.int (357) 0),(.int (57) 0),(.str "/claim/cut.py" 358)]),#[]⟩),
 (145,kFn "naming" "naming" (Zu p 19) (.str "forsworn.stands" 267) 144),
 (151,⟨(.type "code"),none,(.fields #[(.str "check_case" 360),(.str "check_case" 361),(.str "/claim/cut.py" 362),(.int (64) 0),(.int (2) 0),(.int (0) 0),(.int (0) 0),(.int (3) 0),(.ref 146),(.bool true),(.int (181) 0),(.ref 147),.none,(.ref 148),(.ref 149),(.ref 150),(.int (365) 0),(.int (64) 0),(.str "/claim/cut.py" 366)]),#[]⟩),
 (152,kFn "check_case" "check_case" (Zu p 20) (.str "forsworn.stands" 267) 151),
 (156,⟨(.type "code"),none,(.fields #[(.str "check_oath" 368),(.str "check_oath" 369),(.str "/claim/cut.py" 370),(.int (67) 0),(.int (3) 0),(.int (0) 0),(.int (0) 0),(.int (3) 0),(.ref 153),(.bool true),(.int (181) 0),(.ref 154),.none,.none,.none,(.ref 155),(.int (371) 0),(.int (67) 0),(.str "/claim/cut.py" 372)]),#[]⟩),
 (157,kFn "check_oath" "check_oath" (Zu p 21) (.str "forsworn.stands" 267) 156),
 (163,⟨(.type "code"),none,(.fields #[(.str "margin_without" 374),(.str "margin_without" 375),(.str "/claim/cut.py" 376),(.int (71) 0),(.int (3) 0),(.int (0) 0),(.int (0) 0),(.int (3) 0),(.ref 158),(.bool true),(.int (181) 0),(.ref 159),.none,(.ref 160),(.ref 161),(.ref 162),(.int (381) 0),(.int (71) 0),(.str "/claim/cut.py" 382)]),#[]⟩),
 (164,kFn "margin_without" "margin_without" (Zu p 22) (.str "forsworn.stands" 267) 163),
 (168,⟨(.type "code"),none,(.fields #[(.str "kept_weight" 384),(.str "kept_weight" 385),(.str "/claim/cut.py" 386),(.int (74) 0),(.int (3) 0),(.int (0) 0),(.int (0) 0),(.int (3) 0),(.ref 165),(.bool true),(.int (181) 0),(.ref 166),.none,.none,.none,(.ref 167),(.int (387) 0),(.int (74) 0),(.str "/claim/cut.py" 388)]),#[]⟩),
 (169,kFn "kept_weight" "kept_weight" (Zu p 23) (.str "forsworn.stands" 267) 168),
 (173,⟨(.type "code"),none,(.fields #[(.str "total" 392),(.str "total" 393),(.str "/claim/cut.py" 394),(.int (77) 0),(.int (1) 0),(.int (0) 0),(.int (0) 0),(.int (3) 0),(.ref 170),(.bool true),(.int (181) 0),(.ref 171),.none,.none,.none,(.ref 172),(.int (395) 0),(.int (77) 0),(.str "/claim/cut.py" 396)]),#[]⟩),
 (174,kFn "total" "total" (Zu p 25) (.str "forsworn.oaths" 390) 173),
 (180,⟨(.type "code"),none,(.fields #[(.str "fewest_to" 398),(.str "fewest_to" 399),(.str "/claim/cut.py" 400),(.int (79) 0),(.int (2) 0),(.int (0) 0),(.int (0) 0),(.int (3) 0),(.ref 175),(.bool true),(.int (181) 0),(.ref 176),.none,(.ref 177),(.ref 178),(.ref 179),(.int (407) 0),(.int (79) 0),(.str "/claim/cut.py" 408)]),#[]⟩),
 (181,kFn "fewest_to" "fewest_to" (Zu p 26) (.str "forsworn.oaths" 390) 180),
 (185,⟨(.type "code"),none,(.fields #[(.str "cheapest" 410),(.str "cheapest" 411),(.str "/claim/cut.py" 412),(.int (88) 0),(.int (2) 0),(.int (0) 0),(.int (0) 0),(.int (3) 0),(.ref 182),(.bool true),(.int (181) 0),(.ref 183),.none,.none,.none,(.ref 184),(.int (413) 0),(.int (88) 0),(.str "/claim/cut.py" 414)]),#[]⟩),
 (186,kFn "cheapest" "cheapest" (Zu p 27) (.str "forsworn.oaths" 390) 185),
 (190,⟨(.type "code"),none,(.fields #[(.str "with_offer" 416),(.str "with_offer" 417),(.str "/claim/cut.py" 418),(.int (99) 0),(.int (3) 0),(.int (0) 0),(.int (0) 0),(.int (3) 0),(.ref 187),(.bool true),(.int (181) 0),(.ref 188),.none,.none,.none,(.ref 189),(.int (419) 0),(.int (99) 0),(.str "/claim/cut.py" 420)]),#[]⟩),
 (191,kFn "with_offer" "with_offer" (Zu p 28) (.str "forsworn.oaths" 390) 190),
 (197,⟨(.type "code"),none,(.fields #[(.str "worthwhile" 422),(.str "worthwhile" 423),(.str "/claim/cut.py" 424),(.int (101) 0),(.int (2) 0),(.int (0) 0),(.int (0) 0),(.int (3) 0),(.ref 192),(.bool true),(.int (181) 0),(.ref 193),.none,(.ref 194),(.ref 195),(.ref 196),(.int (429) 0),(.int (101) 0),(.str "/claim/cut.py" 430)]),#[]⟩),
 (198,kFn "worthwhile" "worthwhile" (Zu p 29) (.str "forsworn.oaths" 390) 197),
 (204,⟨(.type "code"),none,(.fields #[(.str "paper" 440),(.str "paper" 441),(.str "/claim/cut.py" 442),(.int (111) 0),(.int (2) 0),(.int (0) 0),(.int (0) 0),(.int (3) 0),(.ref 199),(.bool true),(.int (181) 0),(.ref 200),.none,(.ref 201),(.ref 202),(.ref 203),(.int (453) 0),(.int (111) 0),(.str "/claim/cut.py" 454)]),#[]⟩),
 (205,kFn "paper" "paper" (Zu p 34) (.str "forsworn.papers" 432) 204),
 (209,⟨(.type "code"),none,(.fields #[(.str "fewest_names" 456),(.str "fewest_names" 457),(.str "/claim/cut.py" 458),(.int (125) 0),(.int (4) 0),(.int (0) 0),(.int (0) 0),(.int (3) 0),(.ref 206),(.bool true),(.int (181) 0),(.ref 207),.none,.none,.none,(.ref 208),(.int (459) 0),(.int (125) 0),(.str "/claim/cut.py" 460)]),#[]⟩),
 (210,kFn "fewest_names" "fewest_names" (Zu p 35) (.str "forsworn.papers" 432) 209),
 (216,⟨(.type "code"),none,(.fields #[(.str "enough" 462),(.str "enough" 463),(.str "/claim/cut.py" 464),(.int (130) 0),(.int (2) 0),(.int (0) 0),(.int (0) 0),(.int (3) 0),(.ref 211),(.bool true),(.int (181) 0),(.ref 212),.none,(.ref 213),(.ref 214),(.ref 215),(.int (467) 0),(.int (130) 0),(.str "/claim/cut.py" 468)]),#[]⟩),
 (217,kFn "enough" "enough" (Zu p 36) (.str "forsworn.papers" 432) 216),
 (221,⟨(.type "code"),none,(.fields #[(.str "claims_broken" 470),(.str "claims_broken" 471),(.str "/claim/cut.py" 472),(.int (134) 0),(.int (3) 0),(.int (0) 0),(.int (0) 0),(.int (3) 0),(.ref 218),(.bool true),(.int (181) 0),(.ref 219),.none,.none,.none,(.ref 220),(.int (473) 0),(.int (134) 0),(.str "/claim/cut.py" 474)]),#[]⟩),
 (222,kFn "claims_broken" "claims_broken" (Zu p 37) (.str "forsworn.papers" 432) 221),
 (228,⟨(.type "code"),none,(.fields #[(.str "asked_by" 476),(.str "asked_by" 477),(.str "/claim/cut.py" 478),(.int (136) 0),(.int (4) 0),(.int (0) 0),(.int (0) 0),(.int (3) 0),(.ref 223),(.bool true),(.int (181) 0),(.ref 224),.none,(.ref 225),(.ref 226),(.ref 227),(.int (486) 0),(.int (136) 0),(.str "/claim/cut.py" 487)]),#[]⟩),
 (229,kFn "asked_by" "asked_by" (Zu p 38) (.str "forsworn.papers" 432) 228),
 (235,⟨(.type "code"),none,(.fields #[(.str "fewest" 491),(.str "fewest" 492),(.str "/claim/cut.py" 493),(.int (146) 0),(.int (2) 0),(.int (0) 0),(.int (0) 0),(.int (3) 0),(.ref 230),(.bool true),(.int (181) 0),(.ref 231),.none,(.ref 232),(.ref 233),(.ref 234),(.int (500) 0),(.int (146) 0),(.str "/claim/cut.py" 501)]),#[]⟩),
 (236,kFn "fewest" "fewest" (Zu p 40) (.str "forsworn.turning" 489) 235),
 (240,⟨(.type "code"),none,(.fields #[(.str "turning" 503),(.str "turning" 504),(.str "/claim/cut.py" 505),(.int (155) 0),(.int (4) 0),(.int (0) 0),(.int (0) 0),(.int (3) 0),(.ref 237),(.bool true),(.int (181) 0),(.ref 238),.none,.none,.none,(.ref 239),(.int (506) 0),(.int (155) 0),(.str "/claim/cut.py" 507)]),#[]⟩),
 (241,kFn "turning" "turning" (Zu p 41) (.str "forsworn.turning" 489) 240),
 (245,⟨(.type "code"),none,(.fields #[(.str "breakings" 509),(.str "breakings" 510),(.str "/claim/cut.py" 511),(.int (168) 0),(.int (3) 0),(.int (0) 0),(.int (0) 0),(.int (3) 0),(.ref 242),(.bool true),(.int (181) 0),(.ref 243),.none,.none,.none,(.ref 244),(.int (512) 0),(.int (168) 0),(.str "/claim/cut.py" 513)]),#[]⟩),
 (246,kFn "breakings" "breakings" (Zu p 42) (.str "forsworn.turning" 489) 245),
 (250,⟨(.type "code"),none,(.fields #[(.str "keepings" 515),(.str "keepings" 516),(.str "/claim/cut.py" 517),(.int (170) 0),(.int (4) 0),(.int (0) 0),(.int (0) 0),(.int (3) 0),(.ref 247),(.bool true),(.int (181) 0),(.ref 248),.none,.none,.none,(.ref 249),(.int (518) 0),(.int (170) 0),(.str "/claim/cut.py" 519)]),#[]⟩),
 (251,kFn "keepings" "keepings" (Zu p 43) (.str "forsworn.turning" 489) 250),
 (257,⟨(.type "code"),none,(.fields #[(.str "joined" 521),(.str "joined" 522),(.str "/claim/cut.py" 523),(.int (177) 0),(.int (1) 0),(.int (0) 0),(.int (0) 0),(.int (3) 0),(.ref 252),(.bool true),(.int (181) 0),(.ref 253),.none,(.ref 254),(.ref 255),(.ref 256),(.int (527) 0),(.int (177) 0),(.str "/claim/cut.py" 528)]),#[]⟩),
 (258,kFn "joined" "joined" (Zu p 44) (.str "forsworn.turning" 489) 257),
 (264,⟨(.type "code"),none,(.fields #[(.str "_law_src" 532),(.str "_law_src" 533),(.str "/claim/cut.py" 534),(.int (183) 0),(.int (1) 0),(.int (0) 0),(.int (0) 0),(.int (3) 0),(.ref 259),(.bool true),(.int (181) 0),(.ref 260),.none,(.ref 261),(.ref 262),(.ref 263),(.int (536) 0),(.int (183) 0),(.str "/claim/cut.py" 537)]),#[]⟩),
 (265,kFn "_law_src" "_law_src" (Zu p 46) (.str "law_forsworn_k11_cases_that_are_not_there" 530) 264),
 (271,⟨(.type "code"),none,(.fields #[(.str "_law_next" 539),(.str "_law_next" 540),(.str "/claim/cut.py" 541),(.int (185) 0),(.int (2) 0),(.int (0) 0),(.int (0) 0),(.int (3) 0),(.ref 266),(.bool true),(.int (181) 0),(.ref 267),.none,(.ref 268),(.ref 269),(.ref 270),(.int (546) 0),(.int (185) 0),(.str "/claim/cut.py" 547)]),#[]⟩),
 (272,kFn "_law_next" "_law_next" (Zu p 47) (.str "law_forsworn_k11_cases_that_are_not_there" 530) 271),
 (278,⟨(.type "code"),none,(.fields #[(.str "_law_unlike" 549),(.str "_law_unlike" 550),(.str "/claim/cut.py" 551),(.int (200) 0),(.int (2) 0),(.int (0) 0),(.int (0) 0),(.int (3) 0),(.ref 273),(.bool true),(.int (181) 0),(.ref 274),.none,(.ref 275),(.ref 276),(.ref 277),(.int (557) 0),(.int (200) 0),(.str "/claim/cut.py" 558)]),#[]⟩),
 (279,kFn "_law_unlike" "_law_unlike" (Zu p 48) (.str "law_forsworn_k11_cases_that_are_not_there" 530) 278),
 (283,⟨(.type "code"),none,(.fields #[(.str "_law_word" 560),(.str "_law_word" 561),(.str "/claim/cut.py" 562),(.int (208) 0),(.int (2) 0),(.int (0) 0),(.int (0) 0),(.int (3) 0),(.ref 280),(.bool true),(.int (181) 0),(.ref 281),.none,.none,.none,(.ref 282),(.int (563) 0),(.int (208) 0),(.str "/claim/cut.py" 564)]),#[]⟩),
 (284,kFn "_law_word" "_law_word" (Zu p 49) (.str "law_forsworn_k11_cases_that_are_not_there" 530) 283),
 (290,⟨(.type "code"),none,(.fields #[(.str "_law_names" 566),(.str "_law_names" 567),(.str "/claim/cut.py" 568),(.int (211) 0),(.int (2) 0),(.int (0) 0),(.int (0) 0),(.int (3) 0),(.ref 285),(.bool true),(.int (181) 0),(.ref 286),.none,(.ref 287),(.ref 288),(.ref 289),(.int (577) 0),(.int (211) 0),(.str "/claim/cut.py" 578)]),#[]⟩),
 (291,kFn "_law_names" "_law_names" (Zu p 50) (.str "law_forsworn_k11_cases_that_are_not_there" 530) 290),
 (297,⟨(.type "code"),none,(.fields #[(.str "_law_weight" 580),(.str "_law_weight" 581),(.str "/claim/cut.py" 582),(.int (224) 0),(.int (1) 0),(.int (0) 0),(.int (0) 0),(.int (3) 0),(.ref 292),(.bool true),(.int (181) 0),(.ref 293),.none,(.ref 294),(.ref 295),(.ref 296),(.int (585) 0),(.int (224) 0),(.str "/claim/cut.py" 586)]),#[]⟩),
 (298,kFn "_law_weight" "_law_weight" (Zu p 51) (.str "law_forsworn_k11_cases_that_are_not_there" 530) 297),
 (304,⟨(.type "code"),none,(.fields #[(.str "_law_total" 588),(.str "_law_total" 589),(.str "/claim/cut.py" 590),(.int (231) 0),(.int (1) 0),(.int (0) 0),(.int (0) 0),(.int (3) 0),(.ref 299),(.bool true),(.int (181) 0),(.ref 300),.none,(.ref 301),(.ref 302),(.ref 303),(.int (595) 0),(.int (231) 0),(.str "/claim/cut.py" 596)]),#[]⟩),
 (305,kFn "_law_total" "_law_total" (Zu p 52) (.str "law_forsworn_k11_cases_that_are_not_there" 530) 304),
 (311,⟨(.type "code"),none,(.fields #[(.str "_law_side" 598),(.str "_law_side" 599),(.str "/claim/cut.py" 600),(.int (236) 0),(.int (3) 0),(.int (0) 0),(.int (0) 0),(.int (3) 0),(.ref 306),(.bool true),(.int (181) 0),(.ref 307),.none,(.ref 308),(.ref 309),(.ref 310),(.int (607) 0),(.int (236) 0),(.str "/claim/cut.py" 608)]),#[]⟩),
 (312,kFn "_law_side" "_law_side" (Zu p 53) (.str "law_forsworn_k11_cases_that_are_not_there" 530) 311),
 (318,⟨(.type "code"),none,(.fields #[(.str "_law_need" 610),(.str "_law_need" 611),(.str "/claim/cut.py" 612),(.int (242) 0),(.int (3) 0),(.int (0) 0),(.int (0) 0),(.int (3) 0),(.ref 313),(.bool true),(.int (181) 0),(.ref 314),.none,(.ref 315),(.ref 316),(.ref 317),(.int (617) 0),(.int (242) 0),(.str "/claim/cut.py" 618)]),#[]⟩),
 (319,kFn "_law_need" "_law_need" (Zu p 54) (.str "law_forsworn_k11_cases_that_are_not_there" 530) 318),
 (323,⟨(.type "code"),none,(.fields #[(.str "_law_named" 620),(.str "_law_named" 621),(.str "/claim/cut.py" 622),(.int (247) 0),(.int (2) 0),(.int (0) 0),(.int (0) 0),(.int (3) 0),(.ref 320),(.bool true),(.int (181) 0),(.ref 321),.none,.none,.none,(.ref 322),(.int (623) 0),(.int (247) 0),(.str "/claim/cut.py" 624)]),#[]⟩),
 (324,kFn "_law_named" "_law_named" (Zu p 55) (.str "law_forsworn_k11_cases_that_are_not_there" 530) 323),
 (330,⟨(.type "code"),none,(.fields #[(.str "_law_suits" 626),(.str "_law_suits" 627),(.str "/claim/cut.py" 628),(.int (258) 0),(.int (3) 0),(.int (0) 0),(.int (0) 0),(.int (3) 0),(.ref 325),(.bool true),(.int (181) 0),(.ref 326),.none,(.ref 327),(.ref 328),(.ref 329),(.int (639) 0),(.int (258) 0),(.str "/claim/cut.py" 640)]),#[]⟩),
 (331,kFn "_law_suits" "_law_suits" (Zu p 56) (.str "law_forsworn_k11_cases_that_are_not_there" 530) 330),
 (337,⟨(.type "code"),none,(.fields #[(.str "_law_ask" 642),(.str "_law_ask" 643),(.str "/claim/cut.py" 644),(.int (270) 0),(.int (4) 0),(.int (0) 0),(.int (0) 0),(.int (3) 0),(.ref 332),(.bool true),(.int (181) 0),(.ref 333),.none,(.ref 334),(.ref 335),(.ref 336),(.int (649) 0),(.int (270) 0),(.str "/claim/cut.py" 650)]),#[]⟩),
 (338,kFn "_law_ask" "_law_ask" (Zu p 57) (.str "law_forsworn_k11_cases_that_are_not_there" 530) 337),
 (344,⟨(.type "code"),none,(.fields #[(.str "_law_refusal" 652),(.str "_law_refusal" 653),(.str "/claim/cut.py" 654),(.int (282) 0),(.int (4) 0),(.int (0) 0),(.int (0) 0),(.int (3) 0),(.ref 339),(.bool true),(.int (181) 0),(.ref 340),.none,(.ref 341),(.ref 342),(.ref 343),(.int (661) 0),(.int (282) 0),(.str "/claim/cut.py" 662)]),#[]⟩),
 (345,kFn "_law_refusal" "_law_refusal" (Zu p 58) (.str "law_forsworn_k11_cases_that_are_not_there" 530) 344),
 (349,⟨(.type "code"),none,(.fields #[(.str "law" 664),(.str "law" 665),(.str "/claim/cut.py" 666),(.int (289) 0),(.int (1) 0),(.int (0) 0),(.int (0) 0),(.int (3) 0),(.ref 346),(.bool true),(.int (181) 0),(.ref 347),.none,.none,.none,(.ref 348),(.int (667) 0),(.int (289) 0),(.str "/claim/cut.py" 668)]),#[]⟩),
 (350,kFn "law" "law" (Zu p 59) (.str "law_forsworn_k11_cases_that_are_not_there" 530) 349)]
def KK (P:Params):uFg:=Kp PySem.Challenge.pw_forsworn_k11_cases_that_are_not_there P
def Ya6:uFg:=[(176,⟨.none,none,.fields #[],#[]⟩)]
def KTp (p:Program) (P:Params):uFg:=(Kp p P++Ya6:List (Addr×Obj))
def KTK (P:Params):uFg:=KTp PySem.Challenge.pw_forsworn_k11_cases_that_are_not_there P
def askd:List Addr:=[3,4,37,38,57,58,76,77,85,86,92,93,99,100,106,107,113,114,120,121,125,126,132,133,137,138,144,145,151,152,156,157,163,164,168,169,173,174,180,181,185,186,190,191,197,198,204,205,209,210,216,217,221,222,228,229,235,236,240,241,245,246,250,251,257,258,264,265,271,272,278,279,283,284,290,291,297,298,304,305,311,312,318,319,323,324,330,331,337,338,344,345,349,350,176]
def HK:PySem.W.Hook:=PySem.W.kHook KTK askd fun _=>by kernel_rfl
def q:Program:=PySem.W.view PySem.Challenge.pw_forsworn_k11_cases_that_are_not_there [0,2,3,4,6,7,8,9,10,11,12,13,14,15,16,17,18,19,20,21,22,23,25,26,27,28,29,31,32,33,34,35,36,37,38,40,41,42,43,44,46,47,48,49,50,51,52,53,54,55,56,57,58,59]
end Law
namespace PySem.W.Fast
noncomputable def tw2255872176309775812:PySem.Program:=PySem.Challenge.pw_forsworn_k11_cases_that_are_not_there
theorem te2255872176309775812:PySem.Challenge.pw_forsworn_k11_cases_that_are_not_there=tw2255872176309775812:=rfl
end PySem.W.Fast
lay_quick PySem.Challenge.rw_forsworn_k11_cases_that_are_not_there Law.q
namespace Law
open PySem L2
set_option maxRecDepth 1000000 in
theorem Ya7 (w:World) (os:PySem.OsState):Option.map (fun s=>PySem.W.Fast.tw12071799914241796487 (PySem.W.Fast.tw2368527892694137696 PySem.W.Fast.tw3228136256490754818).prog PySem.W.Fast.tw2797900513057943271 [] (fun s=>PySem.W.xlAt PySem.W.Fast.tw2797900513057943271 [] s && PySem.W.recOk (PySem.W.Fast.tw2368527892694137696 PySem.W.Fast.tw3228136256490754818).records s) (fun s=>askd.map s.heap.get?) w.params s.abs)
  (PySem.W.Fast.tw4652649595001227023 PySem.W.Fast.tw14364793385576792824 (PySem.W.Fast.tw2368527892694137696 PySem.W.Fast.tw3228136256490754818).prog w 11 (some (.ref 6)) 4412 (PySem.W.Fast.tw15095419895629540892 w.params os) (PySem.W.topStub (PySem.W.Fast.tw2368527892694137696 PySem.W.Fast.tw3228136256490754818).prog))=some (true,PySem.W.openGood PySem.W.Fast.tw2797900513057943271 [],(KTp PySem.W.Fast.tw2255872176309775812 w.params).map fun p=>some p.2):=by
 kernel_rfl
theorem left:PySem.W.LeftO PySem.Challenge.rw_forsworn_k11_cases_that_are_not_there.row.prog q [] (fun s=>PySem.W.xlAt q [] s && PySem.W.recOk (PySem.W.RowW.records PySem.Challenge.rw_forsworn_k11_cases_that_are_not_there.row.toRowW) s) HK.obs HK.val 4412:=by
 refine Z0i (by kernel_rfl) (by decide) (fun s=>by kernel_rfl) fun w os=>?_
 have h:=Ya7 w os
 rw [← PySem.W.Fast.te12071799914241796487,← PySem.W.Fast.te4652649595001227023,← PySem.W.Fast.te15095419895629540892,← PySem.W.Fast.te2797900513057943271,← PySem.W.Fast.te2368527892694137696,← PySem.W.Fast.te3228136256490754818,← PySem.W.Fast.te14364793385576792824,← PySem.W.Fast.te2255872176309775812] at h
 exact h
end Law
section
namespace L2
open PySem PySem.Spec PyProof.Rows
abbrev Key:=Sum Int Str
def Zb1:Key->Value->Bool
 | .inl k,v=>Value.isInt k v
 | .inr x,v=>Value.isStrOf x v
def Ya8 (w:World):Key->Int
 | .inl k=>hashInt k
 | .inr x=>hashStr w x
theorem U1:∀ {k:Key}{v:Value},Zb1 k v=true->(∃ i t,k=Sum.inl i/\v=Value.int i t)\/(∃ x t,k=Sum.inr x/\v=Value.str x t)
 | .inl i,v,h=>by
  obtain ⟨t,e⟩:=Value.isInt_shape (k:=i) (v:=v) h
  exact .inl ⟨i,t,rfl,e⟩
 | .inr x,v,h=>by
  obtain ⟨t,e⟩:=Value.isStrOf_shape (x:=x) (v:=v) h
  exact .inr ⟨x,t,rfl,e⟩
theorem Zw8 (i:Int) (t:Tok):Zb1 (.inl i) (.int i t)=true:=by simp [Zb1,Value.isInt]
theorem Zw9 (x:Str) (t:Tok):Zb1 (.inr x) (.str x t)=true:=by simp [Zb1,Value.isStrOf]
theorem Z2a (a b:Int):decide ((Sum.inl a:Key)=Sum.inl b)=(a == b):=by
 by_cases e:a=b
 ·subst e; simp
 ·have h:¬ (Sum.inl a:Key)=Sum.inl b:=fun q=>e (Sum.inl.inj q)
  rw [xK h]
  exact (beq_eq_false_iff_ne.mpr e).symm
theorem Z2b (a b:Str):decide ((Sum.inr a:Key)=Sum.inr b)=decide (a=b):=by
 by_cases e:a=b
 ·subst e; simp
 ·have h:¬ (Sum.inr a:Key)=Sum.inr b:=fun q=>e (Sum.inr.inj q)
  rw [xK h,xK e]
theorem Z2c (a:Int) (b:Str):decide ((Sum.inl a:Key)=Sum.inr b)=false:=xK (fun q=>nomatch q)
theorem Z2d (a:Str) (b:Int):decide ((Sum.inr a:Key)=Sum.inl b)=false:=xK (fun q=>nomatch q)
def Y3 (prog:Program) (w:World):PySem.KeyKind prog w Key where
 is:=Zb1
 hash:=Ya8 w
 inj:=fun v a b ha hb=>by
  rcases U1 ha with ⟨i,t,rfl,rfl⟩ | ⟨x,t,rfl,rfl⟩
  ·rcases U1 hb with ⟨j,u,rfl,e⟩ | ⟨y,u,rfl,e⟩
   ·injection e with e1 _; rw [e1]
   ·exact nomatch e
  ·rcases U1 hb with ⟨j,u,rfl,e⟩ | ⟨y,u,rfl,e⟩
   ·exact nomatch e
   ·injection e with e1 _; rw [e1]
 byValue:=fun k v h=>by
  rcases U1 h with ⟨i,t,rfl,rfl⟩ | ⟨x,t,rfl,rfl⟩ <;> rfl
 pyHash:=fun hv h=>by
  rcases U1 hv with ⟨i,t,rfl,rfl⟩ | ⟨x,t,rfl,rfl⟩
  ·exact wpAny_pyHash_int h
  ·exact wpAny_pyHash_str h
 eqBool:=fun hu hv h=>by
  rcases U1 hu with ⟨i,t,rfl,rfl⟩ | ⟨x,t,rfl,rfl⟩
  ·rcases U1 hv with ⟨j,u,rfl,rfl⟩ | ⟨y,u,rfl,rfl⟩
   ·rw [Z2a] at h; exact wpAny_eqBool_int h
   ·rw [Z2c] at h; exact SeqAt.EqAt.int_str i t y u _ _ _ _ h
  ·rcases U1 hv with ⟨j,u,rfl,rfl⟩ | ⟨y,u,rfl,rfl⟩
   ·rw [Z2d] at h; exact SeqAt.EqAt.str_int x t j u _ _ _ _ h
   ·rw [Z2b] at h; exact wpAny_eqBool_str h
 «strs»:=fun k x t v h=>by
  rcases U1 h with ⟨i,u,rfl,e⟩ | ⟨y,u,rfl,e⟩
  ·exact nomatch e
  ·injection e with e1 _
   subst e1
   cases v <;> rfl
theorem Zv2 (prog:Program) (w:World) (i:Int) (t:Tok):(Y3 prog w).is (.inl i) (.int i t)=true:=Zw8 i t
theorem Zv3 (prog:Program) (w:World) (x:Str) (t:Tok):(Y3 prog w).is (.inr x) (.str x t)=true:=Zw9 x t
end L2
namespace L2
open PySem PySem.Spec PyProof.Rows
inductive V where
 | non | bl (b:Bool) | int (i:Int) | str (x:Str) | byt (b:Array UInt8) | flt (b:UInt64) | ref (a:Addr) | ty (n:String)
 deriving DecidableEq
def RelV:V->Value->Prop
 | .non,u=>u=Value.none
 | .bl b,u=>u=Value.bool b
 | .int i,u=>∃ t,u=Value.int i t
 | .str x,u=>∃ t,u=Value.str x t
 | .byt b,u=>∃ t,u=Value.bytes b t
 | .flt b,u=>∃ t,u=Value.float b t
 | .ref a,u=>u=Value.ref a
 | .ty n,u=>u=Value.type n
abbrev Vals:List V->List Value->Prop:=Paired RelV
theorem Vals.length {xs:List V}{us:List Value}(r:Vals xs us):xs.length=us.length:=Paired.length r
theorem Vals.get:∀ {xs:List V}{us:List Value}{i:Nat}{x:V},Vals xs us->xs[i]? = some x->∃ u,us[i]? = some u/\RelV x u
 | _,_,_,_,.nil,e=>by simp at e
 | _,_,0,_,.cons r _,e=>by simp at e; subst e; exact ⟨_,rfl,r⟩
 | _,_,i+1,x,.cons _ t,e=>by
  obtain ⟨u,h1,h2⟩:=Vals.get (i:=i) (x:=x) t (by simpa using e)
  exact ⟨u,by simpa using h1,h2⟩
theorem Vals.set {x:V}{u:Value}(r:RelV x u):∀ {xs:List V}{us:List Value}(i:Nat),Vals xs us->Vals (xs.set i x) (us.set i u)
 | _,_,_,.nil=>.nil
 | _,_,0,.cons _ t=>.cons r t
 | _,_,i+1,.cons q t=>.cons q (Vals.set r i t)
theorem Vals.append:∀ {xs ys:List V}{us ws:List Value},Vals xs us->Vals ys ws->Vals (xs++ys) (us++ws)
 | _,_,_,_,.nil,s=>s
 | _,_,_,_,.cons r t,s=>.cons r (Vals.append t s)
theorem Vals.take:∀ {xs:List V}{us:List Value}(n:Nat),Vals xs us->Vals (xs.take n) (us.take n)
 | _,_,0,_=>.nil
 | _,_,_+1,.nil=>.nil
 | _,_,n+1,.cons r t=>.cons r (Vals.take n t)
theorem Vals.drop:∀ {xs:List V}{us:List Value}(n:Nat),Vals xs us->Vals (xs.drop n) (us.drop n)
 | _,_,0,r=>r
 | _,_,_+1,.nil=>.nil
 | _,_,n+1,.cons _ t=>Vals.drop n t
theorem Vals.none_of:∀ {xs:List V}{us:List Value}{i:Nat},Vals xs us->xs[i]? = none->us[i]? = none:=fun {xs us i} r e=>by
 have h1:=r.length
 have h2:xs.length<=i:=List.getElem?_eq_none_iff.mp e
 exact List.getElem?_eq_none_iff.mpr (by lia)
def RelO:Option V->Option Value->Prop
 | some v,some u=>RelV v u
 | none,none=>True
 | _,_=>False
def KV {κ:Type}:List (κ×V)->List (κ×Value)->Prop:=Paired fun (p : κ×V) (q : κ×Value)=>p.1=q.1/\RelV p.2 q.2
def kV:Key->V
 | .inl i=>.int i
 | .inr x=>.str x
inductive HO where
 | lst (xs:List V)
 | tup (xs:List V)
 | dK (kvs:List (Key×V)) | dT (kvs:List (List Key×V))
 | set (S:Int->Bool) (n:Nat)
 | ins (C dx:Addr) (fs:List (Str×V))
 | own (x:Addr)
 | xd (fs:List (Str×V))
 | met (f x:Addr)
 | rng (lo hi:Int)
 | frz (o:Obj) (u:HO)
 | tbl (ps:Array Value)
 | ext (φ:Heap->Prop)
abbrev Hp:=Addr->Option HO
def upd (H:Hp) (a:Addr) (o:HO):Hp:=fun b=>if b=a then some o else H b
theorem upd_same {H:Hp}{a:Addr}{o:HO}:upd H a o a=some o:=by unfold upd; rw [if_pos rfl]
theorem Zh {H:Hp}{a b:Addr}{o:HO}(h:b≠a):upd H a o b=H b:=by unfold upd; rw [if_neg h]
theorem Zro {H:Hp}{a b:Addr}{o u:HO}(h:H a=some o) (h':H b=some u) (d:o≠u):a≠b:=by
 intro e; subst e; rw [h] at h'; exact d (Option.some.inj h')
theorem Z5 {H:Hp}{a b:Addr}{o:HO}(h:H a=some o) (h':H b=none):a≠b:=by
 intro e; subst e; rw [h] at h'; cases h'
section
variable (P:Program) (w:World)
def ObjOk (H:Hp) (h:Heap) (a:Addr):HO->Prop
 | .lst xs=>xs.length<=sizeLine/\∃ (its:List Value) (n:Nat),Vals xs its/\h.get? a=some {cls:=.type "list", data:=.seq its.toArray n }
 | .tup xs=>xs.length<=sizeLine/\∃ its:List Value,Vals xs its/\IsTup h a its.toArray
 | .dK kvs=>kvs.length<=sizeLine/\(a == sysModules)=false/\∃ vs,KV kvs vs/\h.DictOf (Y3 P w) a vs
 | .dT kvs=>kvs.length<=sizeLine/\(a == sysModules)=false/\∃ xs:List (List Key×Addr×Value),
   Paired (fun (p:List Key×V) (q:List Key×Addr×Value)=>p.1=q.1/\H q.2.1=some (.tup (p.1.map kV))/\RelV p.2 q.2.2) kvs xs /\
   ∃ o es ep,h.get? a=some o/\o.ExactDict/\o.data = .dict es ep/\es.toList=xs.map (entryOfKey (tupleKind (Y3 P w)))/\(xs.map (·.1)).Nodup
 | .set S n=>h.SetOf (intKind P w) a S n
 | .ins C dx fs=>H dx=some (.own a)/\fs.length<=1000/\dx≠a/\h.get? a=some (PySem.W.instObj C dx) /\
   ∃ mA,h.Ns1 dx mA/\(∀ f,RelO (fs.lookup f) (mA f))/\PySem.Within mA (fs.map (·.1))
 | .own _=>∃ o,h.get? a=some o
 | .xd fs=>∃ mA,h.Ns1 a mA/\∀ f,RelO (fs.lookup f) (mA f)
 | .rng lo hi=>∃ t u v,h.get? a=some {cls:=.type "range", data:=.fields #[.int lo t,.int hi u,.int 1 v] }
 | .frz o u=>h.get? a=some o/\ObjOk H h a u
 | .tbl ps=>∃ (qs:Array Value) (nm:Str) (t:Tok),h.get? a=some {cls:=.none,data:=.fields qs }/\TriplesOk qs.toList/\ps[0]? = some (.str nm t)/\∀ pos cv,codeAmong pos qs.toList=some cv->∃ c,cv = .ref c/\H c=some (.own a)/\h.CodeRec (.ref c) nm
 | .met f x=>h.get? a=some (PySem.W.methodObj (.ref f) (.ref x))
 | .ext φ=>φ h/\(∃ o,h.get? a=some o)/\∀ h1 h2:Heap,φ h1->(∀ o,h1.get? a=some o->h2.get? a=some o)->φ h2
def HOk (H:Hp) (h:Heap):Prop:=∀ a o,H a=some o->ObjOk P w H h a o
end
section
variable {P:Program}{w:World}{H H':Hp}{h h':Heap}{a:Addr}{o:HO}
theorem ObjOk.lt (x:ObjOk P w H h a o):a < h.objs.size:=by
 cases o with
 | lst xs=>obtain ⟨_,_,_,_,e⟩:=x; exact xU e
 | tup xs=>obtain ⟨_,_,_,p⟩:=x; exact p.lt
 | dK kvs=>obtain ⟨_,_,_,_,o,_,_,e,_⟩:=x; exact xU e
 | dT kvs=>obtain ⟨_,_,_,_,o,_,_,e,_⟩:=x; exact xU e
 | set S n=>obtain ⟨o,_,_,_,e,_⟩:=x; exact xU e
 | ins C dx fs=>obtain ⟨_,_,_,e,_⟩:=x; exact xU e
 | own y=>obtain ⟨_,e⟩:=x; exact xU e
 | xd fs=>obtain ⟨_,⟨_,_,_,e,_⟩,_⟩:=x; exact xU e
 | rng lo hi=>obtain ⟨_,_,_,e⟩:=x; exact xU e
 | frz ob u=>obtain ⟨e,_⟩:=x; exact xU e
 | tbl ps=>obtain ⟨_,_,_,e,_⟩:=x; exact xU e
 | met f y=>exact xU (show h.get? a=some _ from x)
 | ext φ=>obtain ⟨_,⟨_,e⟩,_⟩:=x; exact xU e
theorem Paired.mapP {α β:Type}{F G : α->β->Prop}:∀ {l₁:List α}{l₂:List β},Paired F l₁ l₂->(∀ a b,F a b->G a b)->Paired G l₁ l₂
 | _,_,.nil,_=>.nil
 | _,_,.cons r t,f=>.cons (f _ _ r) (Paired.mapP t f)
theorem ObjOk.stay (x:ObjOk P w H h a o) (k:∀ b u,(b=a\/H b=some (.own a))->h.get? b=some u->h'.get? b=some u)
  (ho:∀ b,H b=some (.own a)->H' b=some (.own a)) (ht:∀ b xs,H b=some (.tup xs)->H' b=some (.tup xs)):ObjOk P w H' h' a o:=by
 induction o with
 | lst xs=>obtain ⟨z,its,n,r,e⟩:=x; exact ⟨z,its,n,r,k _ _ (.inl rfl) e⟩
 | tup xs=>obtain ⟨z,its,r,ob,e,c⟩:=x; exact ⟨z,its,r,ob,k _ _ (.inl rfl) e,c⟩
 | dK kvs=>obtain ⟨z,y,vs,r,ob,es,ep,e,c⟩:=x; exact ⟨z,y,vs,r,ob,es,ep,k _ _ (.inl rfl) e,c⟩
 | dT kvs =>
  obtain ⟨z,y,xs,r,ob,es,ep,e,c⟩:=x
  exact ⟨z,y,xs,Paired.mapP r fun p q z=>⟨z.1,ht _ _ z.2.1,z.2.2⟩,ob,es,ep,k _ _ (.inl rfl) e,c⟩
 | set S n=>obtain ⟨ob,es,ep,t,e,c⟩:=x; exact ⟨ob,es,ep,t,k _ _ (.inl rfl) e,c⟩
 | ins C dx fs =>
  obtain ⟨d,z,ne,e,mA,⟨od,es,ep,e2,c⟩,r⟩:=x
  exact ⟨ho _ d,z,ne,k _ _ (.inl rfl) e,mA,⟨od,es,ep,k _ _ (.inr d) e2,c⟩,r⟩
 | own y=>obtain ⟨ob,e⟩:=x; exact ⟨ob,k _ _ (.inl rfl) e⟩
 | xd fs=>obtain ⟨mA,⟨od,es,ep,e,c⟩,r⟩:=x; exact ⟨mA,⟨od,es,ep,k _ _ (.inl rfl) e,c⟩,r⟩
 | rng lo hi=>obtain ⟨t,u,v,e⟩:=x; exact ⟨t,u,v,k _ _ (.inl rfl) e⟩
 | frz ob u ih=>obtain ⟨e,q⟩:=x; exact ⟨k _ _ (.inl rfl) e,ih q⟩
 | tbl ps =>
  obtain ⟨qs,nm,t,e,z1,z2,z3⟩:=x
  refine ⟨qs,nm,t,k a _ (.inl rfl) e,z1,z2,fun pos cv ec=>?_⟩
  obtain ⟨c,e1,e2,c2,oc,vs,tt,e3,e4,e5⟩:=z3 pos cv ec
  cases e3
  exact ⟨c,e1,ho _ e2,c,oc,vs,tt,rfl,k _ _ (.inr e2) e4,e5⟩
 | met f y =>
  have e:h.get? a=some (PySem.W.methodObj (.ref f) (.ref y)):=x
  show h'.get? a=some (PySem.W.methodObj (.ref f) (.ref y))
  exact k a _ (.inl rfl) e
 | ext φ=>obtain ⟨p,⟨o,e⟩,st⟩:=x; exact ⟨st _ _ p fun o q=>k _ _ (.inl rfl) q,⟨o,k _ _ (.inl rfl) e⟩,st⟩
theorem HOk.lt (x:HOk P w H h) (e:H a=some o):a < h.objs.size:=(x a o e).lt
theorem HOk.fresh (x:HOk P w H h) (e:h.objs.size<=a):H a=none:=by
 cases q:H a with
 | none=>rfl
 | some u=>exact absurd (yG (x.lt q) e) (Nat.lt_irrefl _)
theorem HOk.kept (x:HOk P w H h) (k:∀ b u,h.get? b=some u->h'.get? b=some u):HOk P w H h':=fun a o e =>
 (x a o e).stay (fun b u _ q=>k b u q) (fun _ q=>q) fun _ _ q=>q
theorem HOk.laid (x:HOk P w H h) (k:∀ b u,h.get? b=some u->h'.get? b=some u) (hp:h.objs.size<=a) (new:ObjOk P w (upd H a o) h' a o):HOk P w (upd H a o) h':=fun b u e=>by
 have hn:=x.fresh hp
 by_cases hb:b=a
 ·subst hb; rw [upd_same] at e; cases e; exact new
 ·rw [Zh hb] at e
  exact (x b u e).stay (fun c v _ q=>k c v q) (fun c q=>by rw [Zh (Z5 q hn)]; exact q) fun c xs q=>by rw [Zh (Z5 q hn)]; exact q
end
def Rd (H:Hp) (a:Addr) (u:HO):Prop:=H a=some u\/∃ o,H a=some (.frz o u)
theorem Rd.ok {P:Program}{w:World}{H:Hp}{h:Heap}{a:Addr}{u:HO}(r:Rd H a u) (x:HOk P w H h):ObjOk P w H h a u:=by
 rcases r with r | ⟨o,r⟩
 ·exact x a u r
 ·obtain ⟨_,q⟩:=x a _ r
  exact q
def Mut:Option HO->Prop
 | some (.lst _)=>True
 | some (.dK _)=>True
 | some (.dT _)=>True
 | some (.set _ _)=>True
 | some (.ins _ _ _)=>True
 | some (.ext _)=>True
 | _=>False
section
variable {P:Program}{w:World}{H:Hp}{h h':Heap}{x e:Addr}{o':HO}
theorem HOk.write (ok:HOk P w H h) (mu:Mut (H x)) (he:e=x\/H e=some (.own x)) (k:∀ b u,b≠e->h.get? b=some u->h'.get? b=some u) (heo:∃ u,h'.get? e=some u)
  (new:ObjOk P w (upd H x o') h' x o'):HOk P w (upd H x o') h':=fun b u q=>by
 have nown:∀ c y,H c=some (.own y)->c≠x:=fun c y r z=>by subst z; rw [r] at mu; exact mu
 have ntup:∀ c xs,H c=some (.tup xs)->c≠x:=fun c xs r z=>by subst z; rw [r] at mu; exact mu
 by_cases hb:b=x
 ·subst hb; rw [upd_same] at q; cases q; exact new
 ·rw [Zh hb] at q
  by_cases hbe:b=e
  ·have q':H b=some (.own x):=by
    rcases he with z | z
    ·exact absurd (hbe.trans z) hb
    ·rw [hbe]; exact z
   rw [q] at q'; cases q'
   obtain ⟨v,hv⟩:=heo
   exact ⟨v,by rw [hbe]; exact hv⟩
  ·refine (ok b u q).stay (fun c v hc r=>k c v ?_ r) (fun c r=>by rw [Zh (nown c b r)]; exact r) fun c xs r=>by rw [Zh (ntup c xs r)]; exact r
   rcases hc with rfl | hc
   ·exact hbe
   ·rintro rfl
    rcases he with z | z
    ·exact nown c b hc z
    ·rw [hc] at z; cases z; exact hb rfl
end
structure Un (fs ex:List Addr) (H H':Hp) (h h':Heap):Prop where
 keep:∀ b o,h.get? b=some o->H b=none->b∉fs->b∉ex->h'.get? b=some o
 slot:∀ b o,h.get? b=some o->H b=none->b∈fs->b∉ex->∃ sl,h'.get? b=some {o with slots:=sl }
 free:∀ b o,h.get? b=some o->H b=none->b∉ex->H' b=none
 there:∀ b o,h.get? b=some o->b∉ex->∃ o',h'.get? b=some o'
 tups:∀ b xs,H b=some (.tup xs)->H' b=some (.tup xs)
 frzs:∀ b o u,H b=some (.frz o u)->H' b=some (.frz o u)
 tbls:∀ b ps,H b=some (.tbl ps)->∃ more,H' b=some (.tbl (ps++more))
section
variable {fs fs' ex ex':List Addr}{H H1 H2:Hp}{h h1 h2 h':Heap}{a x e:Addr}{o:HO}
theorem Un.any (u:Un fs ex H H1 h h1) {b:Addr}{ob:Obj}(q:h.get? b=some ob) (n:H b=none) (hx:b∉ex):∃ sl,h1.get? b=some {ob with slots:=sl }:=by
 by_cases hb:b∈fs
 ·exact u.slot b ob q n hb hx
 ·exact ⟨ob.slots,u.keep b ob q n hb hx⟩
theorem Un.kept (k:∀ b u,h.get? b=some u->h'.get? b=some u):Un fs ex H H h h' :=
 ⟨fun b ob q _ _ _=>k b ob q,fun b ob q _ _ _=>⟨ob.slots,k b ob q⟩,fun _ _ _ n _=>n,fun b ob q _=>⟨ob,k b ob q⟩,fun _ _ q=>q,fun _ _ _ q=>q,fun _ ps q=>⟨#[],by rw [q]; simp⟩⟩
theorem Un.refl:Un fs ex H H h h:=Un.kept fun _ _ q=>q
theorem Un.laid (k:∀ b u,h.get? b=some u->h'.get? b=some u) (hp:h.objs.size<=a) (hn:H a=none):Un fs ex H (upd H a o) h h' where
 keep:=fun b u q _ _ _=>k b u q
 slot:=fun b u q _ _ _=>⟨u.slots,k b u q⟩
 free:=fun b u q n _=>by rw [Zh (yJ (yG (xU q) hp))]; exact n
 there:=fun b u q _=>⟨u,k b u q⟩
 tups:=fun b xs q=>by rw [Zh (Z5 q hn)]; exact q
 frzs:=fun b u xs q=>by rw [Zh (Z5 q hn)]; exact q
 tbls:=fun b ps q=>⟨#[],by rw [Zh (Z5 q hn),q]; simp⟩
theorem Un.write (mu:Mut (H x)) (he:e=x\/H e=some (.own x)) (k:∀ b u,b≠e->h.get? b=some u->h'.get? b=some u) (heo:∃ u,h'.get? e=some u):Un fs ex H (upd H x o) h h':=by
 have hx:∀ b,H b=none->b≠x:=fun b n z=>by subst z; rw [n] at mu; exact mu
 have hb:∀ b,H b=none->b≠e:=fun b n z=>by
  subst z
  rcases he with r | r
  ·exact hx b n r
  ·rw [n] at r; cases r
 have hm:∀ b u,H b=some u->¬ Mut (some u)->b≠x:=fun b u q nm z=>by subst z; rw [q] at mu; exact nm mu
 refine ⟨fun b u q n _ _=>k b u (hb b n) q,fun b u q n _ _=>⟨u.slots,k b u (hb b n) q⟩,fun b u q n _=>by rw [Zh (hx b n)]; exact n,fun b u q _=>?_,
  fun b xs q=>by rw [Zh (hm b _ q fun z=>z)]; exact q,fun b u xs q=>by rw [Zh (hm b _ q fun z=>z)]; exact q,fun b ps q=>⟨#[],by rw [Zh (hm b _ q fun z=>z),q]; simp⟩⟩
 by_cases hbe:b=e
 ·subst hbe; exact heo
 ·exact ⟨u,k b u hbe q⟩
end
def trk (h:Heap) (H:Hp):List Addr:=(List.range h.objs.size).filter fun a=>(H a).isSome
def U2 (h:Heap) (H:Hp):Heap:=PySem.W.hideAll h (trk h H)
theorem Zxa (h:Heap) (H:Hp):(U2 h H).objs.size=h.objs.size:=PySem.W.hideAll_size _ _
theorem Zyl {h:Heap}{H:Hp}{b:Addr}{o:Obj}(e:h.get? b=some o) (n:H b=none):(U2 h H).get? b=some o :=
 PySem.W.hideAll_get _ e fun hm=>by
  have q:(H b).isSome=true:=(yH.mp hm).2
  rw [n] at q; simp at q
theorem Z0j {h:Heap}{H:Hp}{b:Addr}{o:Obj}(e:(U2 h H).get? b=some o):h.get? b=some o/\H b=none:=by
 have e':h.get? b=some o:=PySem.W.of_hideAll (trk h H) e
 refine ⟨e',?_⟩
 cases q:H b with
 | none=>rfl
 | some x =>
  have hm:b∈trk h H:=yH.mpr ⟨yE.mpr (xU e'),by simp [q]⟩
  have z:(U2 h H).get? b=none:=PySem.W.hideAll_none (trk h H) hm
  rw [z] at e; cases e
end L2
namespace L2
open PySem PySem.Spec PyProof.Rows
structure Mod (K:uFg) (mg:Str->Option Value) (base:Heap):Prop where
 kin:K.In base
 glob:base.Ns mainGlobals mg
 blt:∃ mb,base.Ns builtinsNs mb/\∀ x:Str,x ≠ "__name__" -> mb x=bootBuiltins x
 nolimit:base.NoLimit
/-- the context: a def's body (or a comprehension's block) running. base: fixed through the whole law; s₀,H₀: the entry; outer: the frames whose slots others may change (a def's callers); stack: all frames that run;
   ex: iterators that were made ahead of the entry and are walked here (a comprehension's); fn: the names whose cells were made at the entry (a def: all; a comprehension's block: its own); calm: not within an except suite; pn: pins that every state bears; xe: what is wanted of an exception that leaves the code -/
structure Cx where
 prog:Program
 w:World
 K:uFg
 mg:Str->Option Value
 base:Heap
 A:Around
 N:List Str
 s₀:Shared
 H₀:Hp
 env:Env
 outer:List Env
 stack:List Env
 ex:List Addr
 fn:Str->Bool
 calm:Bool
 pn:List (Addr×Obj)
 xe:Value->Shared->Prop
def frs (l:List Env):List Addr:=l.filterMap (·.frame)
abbrev Cx.fs (X:Cx):List Addr:=frs X.outer
def Vis (sc:Scope) (x:Str):Prop:=sc.names.lookup x=some .local\/sc.names.lookup x=some .cell\/sc.names.lookup x=some .free
def Loc (sc:Scope) (x:Str):Prop:=sc.names.lookup x=some .local\/sc.names.lookup x=some .cell
def Ya9 (env:Env) (h:Heap) (m:Str->Option Value) (x:Str) (u:Value):Prop :=
 (env.kindOf x=some .local/\m x=some u)\/((env.kindOf x=some .cell\/env.kindOf x=some .free)/\∃ c,env.cells.lookup x=some c/\h.IsCell c (some u))
structure Cx.Ok (X:Cx):Prop where
 mod:Mod X.K X.mg X.base
 kind:X.env.scope.kind = .function
 glob:X.env.globals=mainGlobals
 blt:X.env.builtins=builtinsNs
 above:X.s₀.heap.objs.size<=X.env.locals
 inj:∀ x y c,X.env.cells.lookup x=some c->X.env.cells.lookup y=some c->x=y
 has:∀ x,(X.env.kindOf x=some .cell\/X.env.kindOf x=some .free)->∃ c,X.env.cells.lookup x=some c
 cab:∀ x c,X.fn x=true->X.env.cells.lookup x=some c->X.s₀.heap.objs.size<=c
 hd:X.calm=true->X.A.handled=none
 frames:X.A.frames=some X.stack
 stk:X.stack=X.outer\/(X.stack=X.env::X.outer/\X.env.frame=some X.env.locals)
 exf:∀ b∈X.ex,b≠X.env.locals/\∀ x c,X.env.cells.lookup x=some c->c≠b
 bs:∀ b o,X.base.get? b=some o->X.s₀.heap.get? b=some o/\X.H₀ b=none
 bsz:X.base.objs.size<=X.s₀.heap.objs.size
 noex:∀ b o,X.base.get? b=some o->b∉X.ex
 exfs:∀ b∈X.ex,b∉X.fs
 funs:X.s₀.heap.FunFrames X.base X.outer
 frf:∀ b∈X.fs,X.H₀ b=none
structure Inv (X:Cx) (pins:List (Addr×Obj)) (σ:List (Option V)) (H:Hp) (s:Shared):Prop where
 ok:X.Ok
 os:s.os=X.s₀.os
 bare:AllBare s.gens
 base:Un X.fs X.ex X.H₀ H X.s₀.heap s.heap
 loc:∃ m,s.heap.Ns X.env.locals m/\∀ (i:Nat) (x:Str) (v:V),X.N[i]? = some x->σ[i]? = some (some v)->Vis X.env.scope x->∃ u,RelV v u/\Ya9 X.env s.heap m x u
 cell:∀ x c,X.env.cells.lookup x=some c->∃ v,s.heap.IsCell c v
 free:H X.env.locals=none
 freeC:∀ x c,X.env.cells.lookup x=some c->H c=none
 pin:∀ p∈X.pn++pins,s.heap.get? p.1=some p.2/\H p.1=none/\p.1≠X.env.locals/\p.1∉X.fs/\∀ v,p.2.data ≠ .cell v
 hok:HOk X.prog X.w H s.heap
 len : σ.length=X.N.length
section
variable {X:Cx}{pins:List (Addr×Obj)}{σ:List (Option V)}{H H':Hp}{s:Shared}{h':Heap}
theorem Cx.Ok.nofr (ok:X.Ok) {b:Addr}{o:Obj}(e:X.base.get? b=some o):b∉X.fs:=fun hb=>by
 have:=(ok.funs.mem hb).1
 rw [e] at this; cases this
theorem Inv.bs (I:Inv X pins σ H s):∀ b o,X.base.get? b=some o->s.heap.get? b=some o/\H b=none:=fun b o e =>
 ⟨I.base.keep b o (I.ok.bs b o e).1 (I.ok.bs b o e).2 (I.ok.nofr e) (I.ok.noex b o e),I.base.free b o (I.ok.bs b o e).1 (I.ok.bs b o e).2 (I.ok.noex b o e)⟩
theorem Inv.bk (I:Inv X pins σ H s):∀ b o,X.base.get? b=some o->s.heap.get? b=some o:=fun b o e=>(I.bs b o e).1
theorem Inv.mod (I:Inv X pins σ H s):Mod X.K X.mg X.base:=I.ok.mod
theorem Inv.kIn (I:Inv X pins σ H s):X.K.In s.heap:=I.ok.mod.kin.keeps I.bk
theorem Inv.lt (I:Inv X pins σ H s):X.env.locals < s.heap.objs.size:=let ⟨_,hn,_⟩:=I.loc; hn.lt
theorem Inv.sz (I:Inv X pins σ H s):X.s₀.heap.objs.size<=s.heap.objs.size:=yA I.ok.above (yY I.lt)
theorem Inv.nofs (I:Inv X pins σ H s) {a:Addr}(h:s.heap.objs.size<=a):a∉X.fs:=fun hb=>by
 obtain ⟨_,o,ho,_⟩:=I.ok.funs.mem hb
 exact absurd (yG (xU ho) (yA I.sz h)) (Nat.lt_irrefl _)
theorem Inv.cne (I:Inv X pins σ H s):∀ x c,X.env.cells.lookup x=some c->c≠X.env.locals:=fun x c e z=>by
 obtain ⟨v,o,ho,hd⟩:=I.cell x c e
 obtain ⟨m,⟨o',es,ep,ho',hd',_⟩,_⟩:=I.loc
 rw [z,ho'] at ho; cases ho; rw [hd'] at hd; cases hd
theorem Inv.funs (I:Inv X pins σ H s):s.heap.FunFrames X.base X.outer:=by
 have all:∀ (l:List Env),(∀ b∈frs l,b∈X.fs)->X.s₀.heap.FunFrames X.base l->s.heap.FunFrames X.base l:=by
  intro l
  induction l with
  | nil=>intro _ _; trivial
  | cons env r ih =>
   intro hs hl
   obtain ⟨hk,⟨L,o,hf,hn,ho,hd⟩,hr⟩:=hl
   have hL:L∈X.fs:=hs L (by unfold frs; rw [List.filterMap_cons,hf]; exact xI)
   obtain ⟨sl,e⟩:=I.base.slot L o ho (I.ok.frf L hL) hL fun z=>I.ok.exfs L z hL
   exact ⟨hk,⟨L,_,hf,hn,e,hd⟩,ih (fun b hb=>hs b (by unfold frs; rw [List.filterMap_cons,hf]; exact xN _ hb)) hr⟩
 exact all X.outer (fun _ hb=>hb) I.ok.funs
theorem Inv.stack (I:Inv X pins σ H s):s.heap.FunFrames X.base X.stack:=by
 rcases I.ok.stk with e | ⟨e,hf⟩
 ·rw [e]; exact I.funs
 ·rw [e]
  obtain ⟨m,hn,_⟩:=I.loc
  refine .cons (by rw [I.ok.kind]; decide) hf hn ?_ I.funs
  exact Heap.get?_none_of_le (yA I.ok.bsz I.ok.above)
theorem Inv.stkSub (I:Inv X pins σ H s):∀ b∈frs X.stack,b∈X.env.locals::X.fs:=fun b hb=>by
 rcases I.ok.stk with e | ⟨e,hf⟩
 ·rw [e] at hb; exact xN _ hb
 ·rw [e] at hb
  unfold frs at hb
  rw [List.filterMap_cons,hf] at hb
  exact hb
theorem Inv.stkFree (I:Inv X pins σ H s):∀ b∈frs X.stack,H b=none:=fun b hb=>by
 rcases xW.mp (I.stkSub b hb) with e | hb
 ·rw [e]; exact I.free
 ·obtain ⟨_,o,ho,_⟩:=I.ok.funs.mem hb
  exact I.base.free b o ho (I.ok.frf b hb) fun z=>I.ok.exfs b z hb
theorem Inv.step {g':Array GenState}{t':Nat}{d':Drawn}{ch:List Addr}(I:Inv X pins σ H s)
  (hch:∀ b∈ch,(b∈X.ex\/X.s₀.heap.objs.size<=b)/\b≠X.env.locals/\(∀ x c,X.env.cells.lookup x=some c->c≠b)/\∀ p∈X.pn++pins,p.1≠b)
  (keep:∀ b o,b≠X.env.locals->b∉X.fs->b∉ch->s.heap.get? b=some o->H b=none->h'.get? b=some o)
  (slot:∀ b o,b≠X.env.locals->b∈X.fs->b∉ch->s.heap.get? b=some o->H b=none->∃ sl,h'.get? b=some {o with slots:=sl }) (free:∀ b o,b∉ch->s.heap.get? b=some o->H b=none->H' b=none)
  (there:∀ b o,b∉ch->s.heap.get? b=some o->∃ o',h'.get? b=some o')
  (tups:∀ b xs,H b=some (.tup xs)->H' b=some (.tup xs)) (frzs:∀ b o u,H b=some (.frz o u)->H' b=some (.frz o u)) (tbls:∀ b ps,H b=some (.tbl ps)->∃ more,H' b=some (.tbl (ps++more)))
  (ns:∀ m,s.heap.Ns X.env.locals m->h'.Ns X.env.locals m) (hok:HOk X.prog X.w H' h') (hg:AllBare g') :
  Inv X pins σ H' {s with heap:=h',gens:=g',drawn:=d',toks:=t' }:=by
 have neL:∀ b o,X.s₀.heap.get? b=some o->b≠X.env.locals:=fun b o e=>yJ (yG (xU e) I.ok.above)
 have neC:∀ b o,X.s₀.heap.get? b=some o->b∉X.ex->b∉ch:=fun b o e hx hb=>by
  rcases (hch b hb).1 with z | z
  ·exact hx z
  ·exact absurd (yG (xU e) z) (Nat.lt_irrefl _)
 have cellK:∀ x c,X.env.cells.lookup x=some c->∀ v,s.heap.IsCell c v->h'.IsCell c v:=fun x c e v ⟨o,ho,hd⟩=>by
  have nch:c∉ch:=fun z=>(hch c z).2.2.1 x c e rfl
  by_cases hc:c∈X.fs
  ·obtain ⟨sl,q⟩:=slot c o (I.cne x c e) hc nch ho (I.freeC x c e)
   exact ⟨_,q,hd⟩
  ·exact ⟨o,keep c o (I.cne x c e) hc nch ho (I.freeC x c e),hd⟩
 refine ⟨I.ok,I.os,hg,⟨fun b o e n hb hx=>?_,fun b o e n hb hx=>?_,fun b o e n hx=>?_,fun b o e hx=>?_,fun b xs e=>tups b xs (I.base.tups b xs e),fun b o xs e=>frzs b o xs (I.base.frzs b o xs e),fun b ps e=>?_⟩,?_,fun x c e=>?_,?_,fun x c e=>?_,fun p hp=>?_,hok,I.len⟩
 ·exact keep b o (neL b o e) hb (neC b o e hx) (I.base.keep b o e n hb hx) (I.base.free b o e n hx)
 ·obtain ⟨sl,e1⟩:=I.base.slot b o e n hb hx
  obtain ⟨sl',e2⟩:=slot b _ (neL b o e) hb (neC b o e hx) e1 (I.base.free b o e n hx)
  exact ⟨sl',e2⟩
 ·obtain ⟨o',e1⟩:=I.base.there b o e hx
  exact free b o' (neC b o e hx) e1 (I.base.free b o e n hx)
 ·obtain ⟨o',e1⟩:=I.base.there b o e hx
  exact there b o' (neC b o e hx) e1
 ·obtain ⟨m1,e1⟩:=I.base.tbls b ps e
  obtain ⟨m2,e2⟩:=tbls b _ e1
  exact ⟨m1++m2,by rw [e2,Array.append_assoc]⟩
 ·obtain ⟨m,hn,hl⟩:=I.loc
  refine ⟨m,ns m hn,fun i x v e1 e2 e3=>?_⟩
  obtain ⟨u,r,l⟩:=hl i x v e1 e2 e3
  refine ⟨u,r,?_⟩
  rcases l with l | ⟨k,c,e,z⟩
  ·exact .inl l
  ·exact .inr ⟨k,c,e,cellK x c e _ z⟩
 ·obtain ⟨v,z⟩:=I.cell x c e
  exact ⟨v,cellK x c e v z⟩
 ·obtain ⟨m,⟨o,_,_,ho,_⟩,_⟩:=I.loc
  exact free _ o (fun z=>(hch _ z).2.1 rfl) ho I.free
 ·obtain ⟨v,o,ho,hd⟩:=I.cell x c e
  exact free c o (fun z=>(hch c z).2.2.1 x c e rfl) ho (I.freeC x c e)
 ·obtain ⟨e,n,ne,nf,d⟩:=I.pin p hp
  have nch:p.1∉ch:=fun z=>(hch p.1 z).2.2.2 p hp rfl
  exact ⟨keep p.1 p.2 ne nf nch e n,free p.1 p.2 nch e n,ne,nf,d⟩
theorem Inv.un {t':Nat}(I:Inv X pins σ H s) (u:Un X.fs [] H H' s.heap h') (hok:HOk X.prog X.w H' h'):Inv X pins σ H' {s with heap:=h',toks:=t' }:=by
 obtain ⟨m,⟨o,es,ep,ho,r⟩,_⟩:=id I.loc
 obtain ⟨sl,hL⟩:=u.any ho I.free (by simp)
 exact I.step (g':=s.gens) (d':=s.drawn) (ch:=[]) (fun _ z=>nomatch z) (fun b o _ hb _ e n=>u.keep b o e n hb (by simp)) (fun b o _ hb _ e n=>u.slot b o e n hb (by simp)) (fun b o _ e n=>u.free b o e n (by simp)) (fun b o _ e=>u.there b o e (by simp)) u.tups u.frzs u.tbls (fun m' hm=>by
  obtain ⟨o',es',ep',ho',r'⟩:=hm
  rw [ho] at ho'; cases ho'
  exact ⟨_,es',ep',hL,r'⟩) hok I.bare
theorem Inv.call {g':Array GenState}{t':Nat}{d':Drawn}{ch:List Addr}(I:Inv X pins σ H s) (u:Un (frs X.stack) ch H H' s.heap h') (hok:HOk X.prog X.w H' h') (hg:AllBare g')
  (hch:∀ b∈ch,(b∈X.ex\/X.s₀.heap.objs.size<=b)/\b≠X.env.locals/\(∀ x c,X.env.cells.lookup x=some c->c≠b)/\∀ p∈X.pn++pins,p.1≠b) :
  Inv X pins σ H' {s with heap:=h',gens:=g',drawn:=d',toks:=t' }:=by
 obtain ⟨m,⟨o,es,ep,ho,r⟩,_⟩:=id I.loc
 obtain ⟨sl,hL⟩:=u.any ho I.free fun z=>(hch _ z).2.1 rfl
 exact I.step (ch:=ch) hch (fun b o hL hb hc e n=>u.keep b o e n (fun z=>(xW.mp (I.stkSub b z)).elim hL hb) hc) (fun b o _ _ hc e n=>u.any e n hc) (fun b o hc e n=>u.free b o e n hc) (fun b o hc e=>u.there b o e hc) u.tups u.frzs u.tbls (fun m' hm=>by
  obtain ⟨o',es',ep',ho',r'⟩:=hm
  rw [ho] at ho'; cases ho'
  exact ⟨_,es',ep',hL,r'⟩) hok hg
theorem Inv.turned {t':Nat}{it:Addr}(I:Inv X pins σ H s) (k:∀ b o,b≠it->s.heap.get? b=some o->h'.get? b=some o) (hn:H it=none) (hL:it≠X.env.locals)
  (h1:it∈X.ex\/X.s₀.heap.objs.size<=it) (h2:∀ x c,X.env.cells.lookup x=some c->c≠it) (h3:∀ p∈X.pn++pins,p.1≠it):Inv X pins σ H {s with heap:=h',toks:=t' }:=by
 have nit:∀ b u,H b=some u->b≠it:=fun b u e z=>by rw [z,hn] at e; cases e
 refine I.step (g':=s.gens) (d':=s.drawn) (ch:=[it]) (fun b hb=>?_) (fun b o _ _ hc e _=>k b o (fun z=>hc (by simp [z])) e) (fun b o _ _ hc e _=>⟨o.slots,k b o (fun z=>hc (by simp [z])) e⟩) (fun _ _ _ _ n=>n)
  (fun b o hc e=>⟨o,k b o (fun z=>hc (by simp [z])) e⟩) (fun _ _ e=>e) (fun _ _ _ e=>e) (fun b ps e=>⟨#[],by rw [e]; simp⟩) (fun m hm=>?_) (fun b u e=>?_) I.bare
 ·have e:b=it:=by simpa using hb
  subst e
  exact ⟨h1,hL,h2,h3⟩
 ·obtain ⟨o,es,ep,ho,r⟩:=hm
  exact ⟨o,es,ep,k _ o (Ne.symm hL) ho,r⟩
 ·refine (I.hok b u e).stay (fun c v hc q=>k c v ?_ q) (fun _ q=>q) fun _ _ q=>q
  rcases hc with z | z
  ·rw [z]; exact nit b u e
  ·exact nit c _ z
theorem Inv.tok (I:Inv X pins σ H s) (t:Nat):Inv X pins σ H {s with toks:=t }:=I.un (h':=s.heap) (t':=t) Un.refl I.hok
theorem Inv.kept {t':Nat}(I:Inv X pins σ H s) (k:∀ b u,s.heap.get? b=some u->h'.get? b=some u):Inv X pins σ H {s with heap:=h',toks:=t' }:=I.un (Un.kept k) (I.hok.kept k)
theorem Inv.laid {a:Addr}{o:HO}{t':Nat}(I:Inv X pins σ H s) (k:∀ b u,s.heap.get? b=some u->h'.get? b=some u) (hp:s.heap.objs.size<=a) (new:ObjOk X.prog X.w (upd H a o) h' a o) :
  Inv X pins σ (upd H a o) {s with heap:=h',toks:=t' }:=I.un (Un.laid k hp (I.hok.fresh hp)) (I.hok.laid k hp new)
theorem Inv.write {x e:Addr}{o:HO}{t':Nat}(I:Inv X pins σ H s) (mu:Mut (H x)) (he:e=x\/H e=some (.own x)) (k:∀ b u,b≠e->s.heap.get? b=some u->h'.get? b=some u) (heo:∃ u,h'.get? e=some u)
  (new:ObjOk X.prog X.w (upd H x o) h' x o):Inv X pins σ (upd H x o) {s with heap:=h',toks:=t' }:=I.un (Un.write mu he k heo) (I.hok.write mu he k heo new)
theorem Inv.pins_of {pins':List (Addr×Obj)}(I:Inv X pins σ H s) (h:∀ p∈pins',s.heap.get? p.1=some p.2/\H p.1=none/\p.1≠X.env.locals/\p.1∉X.fs/\∀ v,p.2.data ≠ .cell v):Inv X pins' σ H s :=
 ⟨I.ok,I.os,I.bare,I.base,I.loc,I.cell,I.free,I.freeC,fun p hp=>(xO.mp hp).elim (fun z=>I.pin p (yF _ z)) (h p),I.hok,I.len⟩
theorem Zhr {N:List Str}(hN:N.Nodup) {i j:Nat}{x:Str}(a:N[i]? = some x) (b:N[j]? = some x):i=j:=by
 obtain ⟨h1,e1⟩:=xC.mp a
 obtain ⟨h2,e2⟩:=xC.mp b
 exact (List.getElem_inj hN).mp (e1.trans e2.symm)
theorem Zxb {M:Model}{A:Around}{E:Value->Shared->Prop}{i:Nat}{x:Str}{v:V}{u:Value}{Q:Unit->Shared->Prop}(I:Inv X pins σ H s) (hN:X.N.Nodup) (hi:X.N[i]? = some x) (hx:Loc X.env.scope x) (r:RelV v u)
  (h:∀ s',Inv X pins (σ.set i (some v)) H s'->(∃ a,Heap.SameBut a s.heap s'.heap/\(a=X.env.locals\/X.env.cells.lookup x=some a))->Q () s') (hf:X.fn x=true\/X.env.scope.names.lookup x=some .local:=by first | exact .inl rfl | exact .inr rfl | assumption):wpAny M A (storeName X.env x u) Q E s:=by
 obtain ⟨m,hn,hl⟩:=id I.loc
 have hcls:(X.env.scope.kind == .class || (X.env.scope.kind == .module && X.env.locals != X.env.globals))=false:=by rw [I.ok.kind]; rfl
 have hiσ:i < σ.length:=by rw [I.len]; exact (xC.mp hi).1
 have cne:=I.cne
 have tracked:∀ {a:Addr}{h':Heap},(∃ o,s.heap.get? a=some o/\H a=none)->Heap.SameBut a s.heap h'->HOk X.prog X.w H h':=fun {a h'} ha hs b ob e=>by
  obtain ⟨_,_,hfree⟩:=ha
  refine (I.hok b ob e).stay (fun c w' hc q=>(hs.2 c ?_).trans q) (fun _ q=>q) fun _ _ q=>q
  rintro rfl
  rcases hc with rfl | hc
  ·rw [hfree] at e; cases e
  ·rw [hfree] at hc; cases hc
 rcases hx with hk | hk
 ·refine wpAny_storeName_local hk hn (fun h' hn' hs=>?_) hcls
  obtain ⟨oL,_,_,hoL,_⟩:=id hn
  refine h _ ⟨I.ok,I.os,I.bare,⟨fun b o e n hb hx=>?_,fun b o e n hb hx=>?_,I.base.free,fun b o e hx=>?_,I.base.tups,I.base.frzs,I.base.tbls⟩,⟨_,hn',fun j y v' e1 e2 e3=>?_⟩,fun y c e=>?_,I.free,I.freeC,fun p hp=>?_,tracked ⟨oL,hoL,I.free⟩ hs,by simpa using I.len⟩ ⟨_,hs,.inl rfl⟩
  ·exact (hs.2 b (yJ (yG (xU e) I.ok.above))).trans (I.base.keep b o e n hb hx)
  ·obtain ⟨sl,e1⟩:=I.base.slot b o e n hb hx
   exact ⟨sl,(hs.2 b (yJ (yG (xU e) I.ok.above))).trans e1⟩
  ·obtain ⟨o',e1⟩:=I.base.there b o e hx
   exact ⟨o',(hs.2 b (yJ (yG (xU e) I.ok.above))).trans e1⟩
  ·by_cases hj:j=i
   ·subst hj
    rw [hi] at e1; cases e1
    rw [List.getElem?_set_self hiσ] at e2
    cases e2
    exact ⟨u,r,.inl ⟨hk,by simp⟩⟩
   ·rw [List.getElem?_set_ne (Ne.symm hj)] at e2
    obtain ⟨u',r',q⟩:=hl j y v' e1 e2 e3
    refine ⟨u',r',?_⟩
    rcases q with ⟨k,e⟩ | ⟨k,c,e,z⟩
    ·refine .inl ⟨k,?_⟩
     have:y≠x:=fun e=>hj (Zhr hN e1 (e▸hi))
     simp [this,e]
    ·exact .inr ⟨k,c,e,z.sameBut hs (cne y c e)⟩
  ·obtain ⟨w',z⟩:=I.cell y c e
   exact ⟨w',z.sameBut hs (cne y c e)⟩
  ·obtain ⟨e,n,ne,nf,d⟩:=I.pin p hp
   exact ⟨(hs.2 p.1 ne).trans e,n,ne,nf,d⟩
 ·have hfn:X.fn x=true:=by
   rcases hf with z | z
   ·exact z
   ·rw [z] at hk; cases hk
  obtain ⟨c,hc⟩:=I.ok.has x (.inl hk)
  obtain ⟨w',z⟩:=I.cell x c hc
  refine wpAny_storeName_cell I.ok.kind hk hc z (fun h' hc' hs=>?_)
  obtain ⟨oc,hoc,hocd⟩:=id z
  refine h {s with heap:=h' } ⟨I.ok,I.os,I.bare,⟨fun b o e n hb hx=>?_,fun b o e n hb hx=>?_,I.base.free,fun b o e hx=>?_,I.base.tups,I.base.frzs,I.base.tbls⟩,⟨m,hn.sameBut hs (Ne.symm (cne x c hc)),fun j y v' e1 e2 e3=>?_⟩,fun y c' e=>?_,I.free,I.freeC,fun p hp=>?_,tracked ⟨oc,hoc,I.freeC x c hc⟩ hs,by simpa using I.len⟩ ⟨c,hs,.inr hc⟩
  ·exact (hs.2 b (yJ (yG (xU e) (I.ok.cab x c hfn hc)))).trans (I.base.keep b o e n hb hx)
  ·obtain ⟨sl,e1⟩:=I.base.slot b o e n hb hx
   exact ⟨sl,(hs.2 b (yJ (yG (xU e) (I.ok.cab x c hfn hc)))).trans e1⟩
  ·obtain ⟨o',e1⟩:=I.base.there b o e hx
   exact ⟨o',(hs.2 b (yJ (yG (xU e) (I.ok.cab x c hfn hc)))).trans e1⟩
  ·by_cases hj:j=i
   ·subst hj
    rw [hi] at e1; cases e1
    rw [List.getElem?_set_self hiσ] at e2
    cases e2
    exact ⟨u,r,.inr ⟨.inl hk,c,hc,hc'⟩⟩
   ·rw [List.getElem?_set_ne (Ne.symm hj)] at e2
    obtain ⟨u',r',q⟩:=hl j y v' e1 e2 e3
    refine ⟨u',r',?_⟩
    rcases q with q | ⟨k,c',e,z'⟩
    ·exact .inl q
    ·refine .inr ⟨k,c',e,z'.sameBut hs ?_⟩
     rintro rfl
     exact hj (Zhr hN e1 (I.ok.inj _ _ _ e hc▸hi))
  ·by_cases hcc:c'=c
   ·subst hcc; exact ⟨_,hc'⟩
   ·obtain ⟨w2,z2⟩:=I.cell y c' e
    exact ⟨w2,z2.sameBut hs hcc⟩
  ·obtain ⟨e,n,ne,nf,d⟩:=I.pin p hp
   refine ⟨(hs.2 p.1 ?_).trans e,n,ne,nf,d⟩
   intro q
   rw [q,hoc] at e
   have q':oc=p.2:=Option.some.inj e
   exact d w' (by rw [← q']; exact hocd)
theorem Zcz {M:Model}{A:Around}{E:Value->Shared->Prop}{i:Nat}{x:Str}{v:V}{u:Value}{Q:Unit->Shared->Prop}(I:Inv X pins σ H s) (hN:X.N.Nodup) (hi:X.N[i]? = some x) (hx:Loc X.env.scope x) (r:RelV v u)
  (h:∀ s',Inv X pins (σ.set i (some v)) H s'->Q () s') (hf:X.fn x=true\/X.env.scope.names.lookup x=some .local:=by first | exact .inl rfl | exact .inr rfl | assumption):wpAny M A (storeName X.env x u) Q E s :=
 Zxb I hN hi hx r (fun s' I' _=>h s' I') hf
theorem Inv.call' {s':Shared}{ch:List Addr}(I:Inv X pins σ H s) (ho:s'.os=s.os) (u:Un (frs X.stack) ch H H' s.heap s'.heap) (hok:HOk X.prog X.w H' s'.heap) (hg:AllBare s'.gens)
  (hch:∀ b∈ch,(b∈X.ex\/X.s₀.heap.objs.size<=b)/\b≠X.env.locals/\(∀ x c,X.env.cells.lookup x=some c->c≠b)/\∀ p∈X.pn++pins,p.1≠b):Inv X pins σ H' s':=by
 obtain ⟨h',g',d',t',o'⟩:=s'
 have e:o'=s.os:=ho
 subst e
 exact I.call (g':=g') (t':=t') (d':=d') u hok hg hch
end
abbrev XK:=Value->Option Addr->Hp->Prop
abbrev St:=List (Option V)
abbrev VK:=V->Hp->Prop
abbrev TE:=St->Hp->VK->Prop
abbrev TT:=St->Hp->(Bool->Hp->Prop)->Prop
abbrev TA:=St->Hp->(List V->Hp->Prop)->Prop
structure Ends where
 nx:St->Hp->Prop
 rt:VK
 bk:St->Hp->Prop:=fun _ _=>False
 ct:St->Hp->Prop:=fun _ _=>False
abbrev TS:=Ends->St->Hp->Prop
def EP (X:Cx) (pins:List (Addr×Obj)) (σ:St) (Q:VK) (u:Value) (s':Shared):Prop:=∃ v H',Inv X pins σ H' s'/\RelV v u/\Q v H'
def TP (X:Cx) (pins:List (Addr×Obj)) (σ:St) (Q:Bool->Hp->Prop) (b:Bool) (s':Shared):Prop:=∃ H',Inv X pins σ H' s'/\Q b H'
def AP (X:Cx) (pins:List (Addr×Obj)) (σ:St) (Q:List V->Hp->Prop) (us:List Value) (s':Shared):Prop:=∃ vs H',Inv X pins σ H' s'/\Vals vs us/\Q vs H'
def SP (X:Cx) (pins:List (Addr×Obj)) (D:Ends) (f:Flow) (s':Shared):Prop :=
 match f with
 | .next=>∃ σ' H',Inv X pins σ' H' s'/\D.nx σ' H'
 | .brk=>∃ σ' H',Inv X pins σ' H' s'/\D.bk σ' H'
 | .cont=>∃ σ' H',Inv X pins σ' H' s'/\D.ct σ' H'
 | .ret u=>∃ v σ' H',Inv X pins σ' H' s'/\RelV v u/\D.rt v H'
def PE (X:Cx) (e:Expr) (t:TE):Prop :=
 ∀ (pins:List (Addr×Obj)) (s:Shared) (σ:St) (H:Hp) (Q:VK),Inv X pins σ H s->t σ H Q->wpAny (model X.prog X.w) X.A (eval e X.env) (EP X pins σ Q) X.xe s
def PT (X:Cx) (e:Expr) (t:TT):Prop :=
 ∀ (pins:List (Addr×Obj)) (s:Shared) (σ:St) (H:Hp) (Q:Bool->Hp->Prop),Inv X pins σ H s->t σ H Q->wpAny (model X.prog X.w) X.A (isTrue e X.env (eval e X.env)) (TP X pins σ Q) X.xe s
def PW (X:Cx) (e:Expr) (t:TT):Prop :=
 ∀ (whole:Sem Value) (pins:List (Addr×Obj)) (s:Shared) (σ:St) (H:Hp) (Q:Bool->Hp->Prop),Inv X pins σ H s->t σ H Q->wpAny (model X.prog X.w) X.A (isTrue e X.env whole) (TP X pins σ Q) X.xe s
theorem PW.pt {X:Cx}{e:Expr}{t:TT}(h:PW X e t):PT X e t:=h _
def PA (X:Cx) (es:List Expr) (t:TA):Prop :=
 ∀ (pos:Pos) (pins:List (Addr×Obj)) (s:Shared) (σ:St) (H:Hp) (Q:List V->Hp->Prop),Inv X pins σ H s->t σ H Q->wpAny (model X.prog X.w) X.A (spliced (backTo pos (starEach es X.env))) (AP X pins σ Q) X.xe s
def PS (X:Cx) (st:Stmt) (t:TS):Prop :=
 ∀ (pins:List (Addr×Obj)) (s:Shared) (σ:St) (H:Hp) (D:Ends),Inv X pins σ H s->t D σ H->wpAny (model X.prog X.w) X.A (exec st X.env) (SP X pins D) X.xe s
def PSs (X:Cx) (st:List Stmt) (t:TS):Prop :=
 ∀ (pins:List (Addr×Obj)) (s:Shared) (σ:St) (H:Hp) (D:Ends),Inv X pins σ H s->t D σ H->wpAny (model X.prog X.w) X.A (execs st X.env) (SP X pins D) X.xe s
theorem thn {α:Type}{t:Sem α}{Q Q' : α->Shared->Prop}{M:Model}{A:Around}{E:Value->Shared->Prop}{s:Shared}(h:wpAny M A t Q E s) (hQ:∀ a s,Q a s->Q' a s):wpAny M A t Q' E s:=wpAny_mono h hQ fun _ _ x=>x
end L2
namespace L2
open PySem PySem.Spec PyProof.Rows
section
variable {X:Cx}
def Yu (i:Nat):TE:=fun σ H Q=>∃ v,σ[i]? = some (some v)/\Q v H
def tC (v:V):TE:=fun _ H Q=>Q v H
theorem Ze8 {i:Nat}{x:Str}{pos:Pos}(hN:X.N[i]? = some x) (hv:Vis X.env.scope x) (hd:(x == ("__debug__" : Str))=false:=by decide) (hcd:(x == ("__classdict__" : Str))=false:=by decide):PE X (.Name x pos) (Yu i):=by
 intro pins s σ H Q I h
 obtain ⟨v,e,h⟩:=h
 obtain ⟨m,hn,hl⟩:=I.loc
 obtain ⟨u,r,l⟩:=hl i x v hN e hv
 have fin:EP X pins σ Q u s:=⟨v,H,I,r,h⟩
 rcases l with ⟨hk,hm⟩ | ⟨hk,c,hc,hcell⟩
 ·exact wpAny_Name (wpAny_loadName_local I.ok.kind hk hn hm fin) hd
 ·rcases hk with hk | hk
  ·exact wpAny_Name (wpAny_loadName_cell I.ok.kind hk hc hcell fin) hd
  ·exact wpAny_Name (wpAny_loadName_free I.ok.kind hk hc hcell fin hcd) hd
theorem Z2e {i j pos}:PE X (.Constant (.int i) j pos) (tC (.int i)):=fun _ _ _ H _ I h=>wpAny_Constant_int ⟨.int i,H,I.tok _,⟨_,rfl⟩,h⟩
theorem Z3v {b j pos}:PE X (.Constant (.bool b) j pos) (tC (.bl b)):=fun _ _ _ H _ I h=>Constant_bool ⟨.bl b,H,I,rfl,h⟩
theorem Z2f {j pos}:PE X (.Constant .none j pos) (tC .non):=fun _ _ _ H _ I h=>Constant_none ⟨.non,H,I,rfl,h⟩
theorem Z2g {x j pos}:PE X (.Constant (.str x) j pos) (tC (.str x)):=fun _ _ _ H _ I h=>Calls.Constant_str ⟨.str x,H,I.tok _,⟨_,rfl⟩,h⟩
def Gl (X:Cx) (x:Str):Prop:=X.env.kindOf x=some .globalImplicit
theorem Zc6 {E:Value->Shared->Prop}{pins:List (Addr×Obj)}{s:Shared}{σ:St}{H:Hp}{x:Str}{u:Value}{pos:Pos}{Q:Value->Shared->Prop}(I:Inv X pins σ H s) (hg:Gl X x) (hm:X.mg x=some u) (h:Q u s)
  (hd:(x == ("__debug__" : Str))=false:=by decide):wpAny (model X.prog X.w) X.A (eval (.Name x pos) X.env) Q E s :=
 Calls.Name_function_global I.ok.kind hg (Calls.loadGlobal_global (by rw [I.ok.glob]; exact I.mod.glob.keeps I.bk) hm h) hd
theorem Vs {E:Value->Shared->Prop}{pins:List (Addr×Obj)}{s:Shared}{σ:St}{H:Hp}{x:Str}{u:Value}{pos:Pos}{Q:Value->Shared->Prop}(I:Inv X pins σ H s) (hg:Gl X x) (hm:X.mg x=none) (hv:bootBuiltins x=some u) (h:Q u s)
  (hn:x ≠ "__name__" := by decide) (hd:(x == ("__debug__" : Str))=false:=by decide):wpAny (model X.prog X.w) X.A (eval (.Name x pos) X.env) Q E s:=by
 obtain ⟨mb,h1,h2⟩:=I.mod.blt
 exact Calls.Name_function_global I.ok.kind hg (Calls.loadGlobal_builtin (by rw [I.ok.glob]; exact I.mod.glob.keeps I.bk) hm (by rw [I.ok.blt]; exact h1.keeps I.bk) ((h2 x hn).trans hv) h) hd
theorem Z0k {x:Str}{v:V}{u:Value}{pos:Pos}(hg:Gl X x) (hm:X.mg x=some u) (r:RelV v u) (hd:(x == ("__debug__" : Str))=false:=by decide):PE X (.Name x pos) (tC v) :=
 fun _ _ _ H _ I h=>Zc6 I hg hm ⟨v,H,I,r,h⟩ hd
theorem Z0l {x:Str}{v:V}{u:Value}{pos:Pos}(hg:Gl X x) (hm:X.mg x=none) (hv:bootBuiltins x=some u) (r:RelV v u) (hn:x ≠ "__name__" := by decide) (hd:(x == ("__debug__" : Str))=false:=by decide):PE X (.Name x pos) (tC v) :=
 fun _ _ _ H _ I h=>Vs I hg hm hv ⟨v,H,I,r,h⟩ hn hd
variable {a b:Expr}{ta tb:TE}{pos:Pos}
def tB (t:TE):TT:=fun σ H Q=>t σ H fun x H1=>∃ c,x = .bl c/\Q c H1
theorem Z2h {e:Expr}{t:TE}(h:PE X e t) (he:∀ whole,isTrue e X.env whole=(do let v ← whole; standAt e.pos; holding [v] (truthy v)):=by intro _; rfl):PT X e (tB t):=by
 intro pins s σ H Q I hw
 refine isTrue_plain (thn (h pins s σ H _ I hw) fun v s1 ⟨x,H1,I1,r1,q1⟩=>?_) (he _)
 obtain ⟨d,rfl,q⟩:=q1
 cases r1
 exact wpAny_truthy_bool ⟨H1,I1,q⟩
variable {tA tB':TT}{rest:List Expr}
def Zum (t u:TT):TT:=fun σ H Q=>t σ H fun c H1=>if c=true then u σ H1 Q else Q false H1
def tOr (t u:TT):TT:=fun σ H Q=>t σ H fun c H1=>if c=true then Q true H1 else u σ H1 Q
def Zun (t:TT):TT:=fun σ H Q=>t σ H fun c H1=>Q (!c) H1
theorem Z0m (ha:PT X a tA):PW X (.BoolOp .And [a] pos) tA:=by
 intro wh pins s σ H Q I h
 refine isTrue_and (thn (ha pins s σ H Q I h) fun c s1 e=>?_)
 cases c with
 | true=>exact isTrue_and_nil e
 | false=>exact e
theorem Z2i (ha:PT X a tA):PW X (.BoolOp .Or [a] pos) tA:=by
 intro wh pins s σ H Q I h
 refine isTrue_or (thn (ha pins s σ H Q I h) fun c s1 e=>?_)
 cases c with
 | false=>exact isTrue_or_nil e
 | true=>exact e
theorem Z2j (ha:PT X a tA) (hb:PW X (.BoolOp .And (b::rest) pos) tB'):PW X (.BoolOp .And (a::b::rest) pos) (Zum tA tB'):=by
 intro wh pins s σ H Q I h
 refine isTrue_and (thn (ha pins s σ H _ I h) fun c s1 ⟨H1,I1,q1⟩=>?_)
 cases c with
 | true=>exact hb wh pins s1 σ H1 Q I1 q1
 | false=>exact ⟨H1,I1,q1⟩
theorem Z3w (ha:PT X a tA) (hb:PW X (.BoolOp .Or (b::rest) pos) tB'):PW X (.BoolOp .Or (a::b::rest) pos) (tOr tA tB'):=by
 intro wh pins s σ H Q I h
 refine isTrue_or (thn (ha pins s σ H _ I h) fun c s1 ⟨H1,I1,q1⟩=>?_)
 cases c with
 | true=>exact ⟨H1,I1,q1⟩
 | false=>exact hb wh pins s1 σ H1 Q I1 q1
theorem Z2k (ha:PT X a tA):PT X (.UnaryOp .Not a pos) (Zun tA):=by
 intro pins s σ H Q I h
 exact isTrue_not (ha pins s σ H (fun c H1=>Q (!c) H1) I h)
def Zrp (ta tb:TE):TE:=fun σ H Q=>ta σ H fun x H1=>∃ c,x = .bl c/\if c=true then tb σ H1 Q else Q (.bl false) H1
theorem Z2l {op} {t:TE}(h:PE X a t):PE X (.BoolOp op [a] pos) t:=fun pins s σ H Q I hw=>BoolOp_one (h pins s σ H Q I hw)
theorem Z2m (ha:PE X a ta) (hb:PE X (.BoolOp .And (b::rest) pos) tb):PE X (.BoolOp .And (a::b::rest) pos) (Zrp ta tb):=by
 intro pins s σ H Q I h
 refine BoolOp_and (thn (ha pins s σ H _ I h) fun v s1 ⟨x,H1,I1,r1,q1⟩=>?_)
 obtain ⟨c,rfl,q1⟩:=q1
 cases r1
 refine wpAny_truthy_bool ?_
 cases c with
 | true=>exact hb pins s1 σ H1 Q I1 q1
 | false=>exact ⟨.bl false,H1,I1,rfl,q1⟩
def tIf (t:TT) (ta tb:TE):TE:=fun σ H Q=>t σ H fun c H1=>if c=true then ta σ H1 Q else tb σ H1 Q
theorem Zym {c:Expr}(hc:PT X c tA) (ha:PE X a ta) (hb:PE X b tb):PE X (.IfExp c a b pos) (tIf tA ta tb):=by
 intro pins s σ H Q I h
 refine wpAny_IfExp (thn (hc pins s σ H _ I h) fun d s1 ⟨H1,I1,q1⟩=>?_)
 cases d with
 | true=>exact ha pins s1 σ H1 Q I1 q1
 | false=>exact hb pins s1 σ H1 Q I1 q1
end
end L2
namespace L2
open PySem PySem.Spec PyProof.Rows
def SqL (K:uFg) (H:Hp) (a:Addr) (xs:List V):Prop :=
 Rd H a (.lst xs) \/
  ∃ (o:Obj) (its:Array Value) (n:Nat),K.lookup a=some o/\o.cls = .type "list" /\ o.dict=none/\o.data = .seq its n/\its.size<=sizeLine/\Vals xs its.toList
def SqT (K:uFg) (H:Hp) (a:Addr) (xs:List V):Prop :=
 Rd H a (.tup xs) \/
  ∃ (o:Obj) (its:Array Value) (n:Nat),K.lookup a=some o/\o.cls = .type "tuple" /\ o.data = .seq its n/\its.size<=sizeLine/\Vals xs its.toList
def Yba:Value->Option V
 | .none=>some .non
 | .bool b=>some (.bl b)
 | .int i _=>some (.int i)
 | .str x _=>some (.str x)
 | .bytes b _=>some (.byt b)
 | .float b _=>some (.flt b)
 | .ref a=>some (.ref a)
 | .type n=>some (.ty n)
 | _=>none
theorem RelV.abs {x:V}{u:Value}(r:RelV x u):Yba u=some x:=by
 cases x with
 | non=>cases r; rfl
 | bl _=>cases r; rfl
 | int _=>obtain ⟨t,rfl⟩:=r; rfl
 | str _=>obtain ⟨t,rfl⟩:=r; rfl
 | byt _=>obtain ⟨t,rfl⟩:=r; rfl
 | flt _=>obtain ⟨t,rfl⟩:=r; rfl
 | ref _=>cases r; rfl
 | ty _=>cases r; rfl
theorem RelV.inj {x y:V}{u:Value}(r:RelV x u) (q:RelV y u):x=y:=Option.some.inj (r.abs.symm.trans q.abs)
theorem Vals.inj:∀ {xs ys:List V}{us:List Value},Vals xs us->Vals ys us->xs=ys
 | _,_,_,.nil,.nil=>rfl
 | _,_,_,.cons r t,.cons r' t'=>by rw [r.inj r',Vals.inj t t']
section
variable {X:Cx}{pins:List (Addr×Obj)}{σ:St}{H:Hp}{s:Shared}{a:Addr}{xs ys:List V}
theorem SqL.of {K:uFg}(h:H a=some (.lst xs)):SqL K H a xs:=.inl (.inl h)
theorem SqT.of {K:uFg}(h:H a=some (.tup xs)):SqT K H a xs:=.inl (.inl h)
theorem Inv.list (I:Inv X pins σ H s) (h:SqL X.K H a xs):∃ its:List Value,Vals xs its/\PlainL s.heap a its.toArray/\xs.length<=sizeLine:=by
 rcases h with h | ⟨o,its,n,hk,hc,hd,hs,hz,r⟩
 ·obtain ⟨z,its,n,r,e⟩:=h.ok I.hok
  exact ⟨its,r,⟨_,n,e,rfl,rfl,rfl⟩,z⟩
 ·refine ⟨its.toList,r,⟨o,n,I.kIn a o hk,hc,hd,by simpa using hs⟩,?_⟩
  have e:=r.length
  simp only [zA] at e
  lia
theorem Inv.tuple (I:Inv X pins σ H s) (h:SqT X.K H a xs):∃ its:List Value,Vals xs its/\IsTup s.heap a its.toArray/\xs.length<=sizeLine:=by
 rcases h with h | ⟨o,its,n,hk,hc,hs,hz,r⟩
 ·obtain ⟨z,its,r,p⟩:=h.ok I.hok
  exact ⟨its,r,p,z⟩
 ·refine ⟨its.toList,r,⟨o,I.kIn a o hk,hc,n,by simpa using hs⟩,?_⟩
  have e:=r.length
  simp only [zA] at e
  lia
theorem Inv.list_inj (I:Inv X pins σ H s) (h:SqL X.K H a xs) (h':SqL X.K H a ys):xs=ys:=by
 obtain ⟨its,r,⟨o,n,e,_,_,d⟩,_⟩:=I.list h
 obtain ⟨its',r',⟨o',n',e',_,_,d'⟩,_⟩:=I.list h'
 rw [e] at e'; cases e'
 rw [d] at d'
 injection d' with d1 _
 have:its=its':=by simpa using congrArg Array.toList d1
 subst this
 exact r.inj r'
end
abbrev Cx.wish (X:Cx) (E:Value->Shared->Prop):Cx:={X with xe:=E }
abbrev Cx.nox (X:Cx):Cx:=X.wish fun _ _=>False
theorem Cx.Ok.wish {X:Cx}(ok:X.Ok) (E:Value->Shared->Prop):(X.wish E).Ok :=
 ⟨ok.mod,ok.kind,ok.glob,ok.blt,ok.above,ok.inj,ok.has,ok.cab,ok.hd,ok.frames,ok.stk,ok.exf,ok.bs,ok.bsz,ok.noex,ok.exfs,ok.funs,ok.frf⟩
theorem Cx.Ok.unwish {X:Cx}{E:Value->Shared->Prop}(ok:(X.wish E).Ok):X.Ok :=
 ⟨ok.mod,ok.kind,ok.glob,ok.blt,ok.above,ok.inj,ok.has,ok.cab,ok.hd,ok.frames,ok.stk,ok.exf,ok.bs,ok.bsz,ok.noex,ok.exfs,ok.funs,ok.frf⟩
section
variable {X:Cx}{pins:List (Addr×Obj)}{σ:St}{H:Hp}{s:Shared}{E:Value->Shared->Prop}
theorem Inv.wish (I:Inv X pins σ H s) (E:Value->Shared->Prop):Inv (X.wish E) pins σ H s:=⟨I.ok.wish E,I.os,I.bare,I.base,I.loc,I.cell,I.free,I.freeC,I.pin,I.hok,I.len⟩
theorem Inv.unwish (I:Inv (X.wish E) pins σ H s):Inv X pins σ H s:=⟨I.ok.unwish,I.os,I.bare,I.base,I.loc,I.cell,I.free,I.freeC,I.pin,I.hok,I.len⟩
theorem SP.unwish {D:Ends}{f:Flow}{s':Shared}(h:SP (X.wish E) pins D f s'):SP X pins D f s':=by
 cases f with
 | next=>obtain ⟨σ',H',I,q⟩:=h; exact ⟨σ',H',I.unwish,q⟩
 | brk=>obtain ⟨σ',H',I,q⟩:=h; exact ⟨σ',H',I.unwish,q⟩
 | cont=>obtain ⟨σ',H',I,q⟩:=h; exact ⟨σ',H',I.unwish,q⟩
 | ret u=>obtain ⟨v,σ',H',I,r,q⟩:=h; exact ⟨v,σ',H',I.unwish,r,q⟩
theorem PSs.nox {st:List Stmt}{t:TS}(h:PSs X.nox st t):PSs X st t:=fun pins s σ H D I hw =>
 wpAny_mono (h pins s σ H D (I.wish _) hw) (fun _ _ q=>q.unwish) fun _ _ z=>False.elim z
end
section
variable {X:Cx}{st:Stmt}{rest:List Stmt}{t u:TS}{e:Expr}{te:TE}{pos:Pos}
def Y1:TS:=fun D σ H=>D.nx σ H
def Zao (t u:TS):TS:=fun D σ H=>t {D with nx:=u D } σ H
theorem Z0n:PSs X [] Y1:=fun _ _ σ H _ I h=>wpAny_execs_nil ⟨σ,H,I,h⟩
theorem Zyn (h1:PS X st t) (h2:PSs X rest u):PSs X (st::rest) (Zao t u):=by
 intro pins s σ H D I h
 refine wpAny_execs_cons (thn (h1 pins s σ H {D with nx:=u D } I h) fun f s1 q=>?_)
 cases f with
 | next =>
  obtain ⟨σ',H',I',q⟩:=q
  exact h2 pins s1 σ' H' D I' q
 | ret v=>exact q
 | brk=>exact q
 | cont=>exact q
theorem Z0o (h1:PS X st t):PSs X [st] t:=by
 intro pins s σ H D I h
 refine wpAny_execs_cons (thn (h1 pins s σ H D I h) fun f s1 q=>?_)
 cases f with
 | next=>exact wpAny_execs_nil q
 | ret v=>exact q
 | brk=>exact q
 | cont=>exact q
theorem Inv.quiet {pins:List (Addr×Obj)}{σ:St}{H:Hp}{s:Shared}(I:Inv X pins σ H s):interactive X.env=false:=by simp [interactive,I.ok.kind]
def Zfj (te:TE):TS:=fun D σ H=>te σ H fun _ H1=>D.nx σ H1
theorem Z0p (he:PE X e te) (hs:swapsWith e none pos.line X.env=pure false:=by rfl):PS X (.Expr e pos) (Zfj te):=by
 intro pins s σ H D I h
 exact wpAny_Expr_any (thn (he pins s σ H _ I h) fun v s1 ⟨x,H1,I1,r1,q1⟩=>⟨σ,H1,I1,q1⟩) I.quiet hs
def Zuo (te:TE):TS:=fun D σ H=>te σ H D.rt
theorem Z2n (he:PE X e te):PS X (.Return (some e) pos) (Zuo te):=by
 intro pins s σ H D I h
 exact wpAny_Return_some (thn (he pins s σ H _ I h) fun v s1 ⟨x,H1,I1,r1,q1⟩=>⟨x,σ,H1,I1,r1,q1⟩)
def Zk2 (c:TT) (t u:TS):TS:=fun D σ H=>c σ H fun b H1=>if b=true then t D σ H1 else u D σ H1
theorem Z3x {c:Expr}{a b:List Stmt}{tc:TT}(hc:PT X c tc) (ha:PSs X a t) (hb:PSs X b u):PS X (.If c a b pos) (Zk2 tc t u):=by
 intro pins s σ H D I h
 refine wpAny_If (thn (hc pins s σ H _ I h) fun d s1 ⟨H1,I1,q1⟩=>?_)
 cases d with
 | true=>exact ha pins s1 σ H1 D I1 q1
 | false=>exact hb pins s1 σ H1 D I1 q1
end
abbrev TG:=V->St->Hp->(St->Hp->Prop)->Prop
abbrev TGs:=List V->St->Hp->(St->Hp->Prop)->Prop
def PG (X:Cx) (target:Expr) (t:TG):Prop :=
 ∀ (pins:List (Addr×Obj)) (s:Shared) (σ:St) (H:Hp) (v:V) (u:Value) (Q:St->Hp->Prop),Inv X pins σ H s->RelV v u->t v σ H Q ->
  wpAny (model X.prog X.w) X.A (assign target X.env u) (fun _ s'=>∃ σ' H',Inv X pins σ' H' s'/\Q σ' H') X.xe s
def PGs (X:Cx) (ts:List Expr) (t:TGs):Prop :=
 ∀ (pins:List (Addr×Obj)) (s:Shared) (σ:St) (H:Hp) (vs:List V) (us:List Value) (Q:St->Hp->Prop),Inv X pins σ H s->Vals vs us->t vs σ H Q ->
  wpAny (model X.prog X.w) X.A (assignInOrder ((assignEach ts X.env).map (·.2)) us) (fun _ s'=>∃ σ' H',Inv X pins σ' H' s'/\Q σ' H') X.xe s
abbrev Zdw:=V->V->V->Hp->(Hp->Prop)->Prop
def Zk3 (X:Cx) (t:Zdw):Prop :=
 ∀ (pins:List (Addr×Obj)) (s:Shared) (σ:St) (H:Hp) (o i v:V) (ov iv u:Value) (Q:Hp->Prop),Inv X pins σ H s->RelV o ov->RelV i iv->RelV v u->t o i v H Q ->
  wpAny (model X.prog X.w) X.A (setItem ov iv u) (fun _ s'=>∃ H',Inv X pins σ H' s'/\Q H') X.xe s
abbrev TIp:=V->V->Hp->VK->Prop
def PIp (X:Cx) (op:Operator) (t:TIp):Prop :=
 ∀ (pins:List (Addr×Obj)) (s:Shared) (σ:St) (H:Hp) (x y:V) (v u:Value) (Q:VK),Inv X pins σ H s->RelV x v->RelV y u->t x y H Q ->
  wpAny (model X.prog X.w) X.A (inplaceOp op v u) (EP X pins σ Q) X.xe s
section
variable {X:Cx}{pos:Pos}
def Yv (i:Nat):TG:=fun v σ H Q=>Q (σ.set i (some v)) H
theorem Zo3 {i:Nat}{x:Str}(hN:X.N.Nodup) (hi:X.N[i]? = some x) (hx:Loc X.env.scope x) (hf:X.fn x=true\/X.env.scope.names.lookup x=some .local:=by first | exact .inl rfl | exact .inr rfl | assumption):PG X (.Name x pos) (Yv i):=by
 intro pins s σ H v u Q I r h
 exact wpAny_assign_Name (Zcz I hN hi hx r (fun s' I'=>⟨_,H,I',h⟩) hf)
def Zdx:TGs:=fun vs σ H Q=>vs = []/\Q σ H
def Zaa (t:TG) (u:TGs):TGs:=fun vs σ H Q=>∃ v r,vs=v::r/\t v σ H fun σ' H'=>u r σ' H' Q
theorem Z0q:PGs X [] Zdx:=by
 intro pins s σ H vs us Q I r h
 obtain ⟨e,h⟩:=h
 subst e
 cases r
 exact assignInOrder_nil ⟨σ,H,I,h⟩
theorem Zyo {e:Expr}{es:List Expr}{t:TG}{u:TGs}(h1:PG X e t) (h2:PGs X es u)
  (hs:(assignEach (e::es) X.env).map (·.2)=assign e X.env::(assignEach es X.env).map (·.2):=by rfl):PGs X (e::es) (Zaa t u):=by
 intro pins s σ H vs us Q I r h
 obtain ⟨v,vr,e1,h⟩:=h
 subst e1
 cases r with
 | cons r rr =>
  rw [hs]
  refine assignInOrder_cons (thn (h1 pins s σ H _ _ _ I r h) fun _ s1 ⟨σ1,H1,I1,q1⟩=>?_)
  exact h2 pins s1 σ1 H1 _ _ Q I1 rr q1
def Zci (K:uFg) (n:Nat) (t:TGs):TG:=fun v σ H Q=>∃ a xs,v = .ref a/\SqT K H a xs/\xs.length=n/\t xs σ H Q
theorem Zp8 {es:List Expr}{k:Nat}{t:TGs}{n:Nat}(hc:X.calm=true) (h:PGs X es t)
  (hn:(assignEach es X.env).length=n:=by rfl) (hst:(assignEach es X.env).findIdx? (·.1)=none:=by rfl):PG X (.Tuple es k pos) (Zci X.K n t):=by
 intro pins s σ H v u Q I r hw
 obtain ⟨a,xs,e1,hq,hl,hw⟩:=hw
 subst e1
 cases r
 obtain ⟨its,rv,ht,hz⟩:=I.tuple hq
 refine assign_Tuple_tuple (I.ok.hd hc) ht (by simp [hn,← hl,rv.length]) hst fun h' hx=>?_
 have I1:Inv X pins σ H {s with heap:=h' }:=I.kept (t':=s.toks) fun b o e=>hx b o (yJ (xU e)) e
 exact h pins _ σ H xs _ Q I1 (by simpa using rv) hw
def Zup (to ti:TE) (t:Zdw):TG:=fun v σ H Q=>to σ H fun o H1=>ti σ H1 fun i H2=>t o i v H2 fun H3=>Q σ H3
theorem Z2o {o i:Expr}{to ti:TE}{t:Zdw}(ho:PE X o to) (hi:PE X i ti) (hs:Zk3 X t)
  (ha:∀ v,assign (.Subscript o i pos) X.env v=(do
   let ov ← holding [v] (eval o X.env)
   let iv ← holding [v,ov] (eval i X.env)
   standAt pos
   holding [v,ov,iv] (setItem ov iv v)
   release [v,ov,iv] []):=by intro _; rfl):PG X (.Subscript o i pos) (Zup to ti t):=by
 intro pins s σ H v u Q I r h
 rw [ha]
 refine wpAny_bind (wpAny_holding (thn (ho pins s σ H _ I h) fun ov s1 ⟨x,H1,I1,r1,q1⟩=>?_))
 refine wpAny_bind (wpAny_holding (thn (hi pins s1 σ H1 _ I1 q1) fun iv s2 ⟨y,H2,I2,r2,q2⟩=>?_))
 refine wpAny_bind (wpAny_standAt (wpAny_bind (wpAny_holding (thn (hs pins s2 σ H2 x y v ov iv u _ I2 r1 r2 r q2) fun _ s3 ⟨H3,I3,q3⟩=>?_))))
 exact wpAny_release ⟨σ,H3,I3,q3⟩
def Uf (te:TE) (g:TG):TS:=fun D σ H=>te σ H fun x H1=>g x σ H1 D.nx
theorem Z2p {tg e:Expr}{te:TE}{g:TG}(he:PE X e te) (hg:PG X tg g) (hs:swapsWithSole [tg] e pos.line X.env=pure false:=by rfl) (hw:swappedStores [tg] e X.env=pure none:=by rfl)
  (h1:(assignEach [tg] X.env).map (·.2) = [assign tg X.env]:=by rfl):PS X (.Assign [tg] e pos) (Uf te g):=by
 intro pins s σ H D I h
 refine wpAny_Assign_stores (thn (he pins s σ H _ I h) fun v s1 ⟨x,H1,I1,r1,q1⟩=>?_) hs hw
 rw [h1]
 exact thn (hg pins s1 σ H1 x v _ I1 r1 q1) fun _ s2 q=>q
theorem Zp9 {i:Nat}{x:Str}{e:Expr}{te:TE}{pos':Pos}(hN:X.N.Nodup) (hi:X.N[i]? = some x) (hx:Loc X.env.scope x) (he:PE X e te) (hs:swapsWith e (some (.Name x pos')) pos.line X.env=pure false:=by rfl) (hf:X.fn x=true\/X.env.scope.names.lookup x=some .local:=by first | exact .inl rfl | exact .inr rfl | assumption) :
  PS X (.Assign [.Name x pos'] e pos) (Uf te (Yv i)):=by
 intro pins s σ H D I h
 refine wpAny_Assign_Name (thn (he pins s σ H _ I h) fun v s1 ⟨y,H1,I1,r1,q1⟩=>?_) hs
 exact Zcz I1 hN hi hx r1 (fun s2 I2=>⟨_,H1,I2,q1⟩) hf
def Zk4 (i:Nat) (te:TE) (ti:TIp):TS:=fun D σ H=>∃ x,σ[i]? = some (some x)/\te σ H fun y H1=>ti x y H1 fun z H2=>D.nx (σ.set i (some z)) H2
theorem Z2q {i:Nat}{x:Str}{e:Expr}{te:TE}{op:Operator}{ti:TIp}{pos':Pos}(hN:X.N.Nodup) (hi:X.N[i]? = some x) (hx:Loc X.env.scope x) (he:PE X e te) (ho:PIp X op ti) (hf:X.fn x=true\/X.env.scope.names.lookup x=some .local:=by first | exact .inl rfl | exact .inr rfl | assumption) :
  PS X (.AugAssign (.Name x pos') op e pos) (Zk4 i te ti):=by
 intro pins s σ H D I h
 obtain ⟨v,e1,h⟩:=h
 obtain ⟨m,hn,hl⟩:=I.loc
 have vis:Vis X.env.scope x:=by rcases hx with k | k; exact .inl k; exact .inr (.inl k)
 obtain ⟨u,r,l⟩:=hl i x v hi e1 vis
 refine wpAny_AugAssign_Name ?_
 have go:wpAny (model X.prog X.w) X.A (eval e X.env) (fun w s₂=>wpAny (model X.prog X.w) X.A (inplaceOp op u w) (fun r s₃=>wpAny (model X.prog X.w) X.A (storeName X.env x r) (fun _=>SP X pins D .next) X.xe s₃) X.xe s₂) X.xe s:=by
  refine thn (he pins s σ H _ I h) fun w s1 ⟨y,H1,I1,r1,q1⟩=>?_
  refine thn (ho pins s1 σ H1 v y u w _ I1 r r1 q1) fun z s2 ⟨zv,H2,I2,r2,q2⟩=>?_
  exact Zcz I2 hN hi hx r2 (fun s3 I3=>⟨_,H2,I3,q2⟩) hf
 rcases l with ⟨hk,hm⟩ | ⟨hk,c,hc,hcell⟩
 ·exact wpAny_loadName_local I.ok.kind hk hn hm go
 ·rcases hk with hk | hk
  ·exact wpAny_loadName_cell I.ok.kind hk hc hcell go
  ·rcases hx with k | k
   ·have:X.env.scope.names.lookup x=some .free:=hk
    rw [k] at this; cases this
   ·have:X.env.scope.names.lookup x=some .free:=hk
    rw [k] at this; cases this
def ipI (f:Int->Int->Int):TIp:=fun x y H Q=>∃ i j,x = .int i/\y = .int j/\Q (.int (f i j)) H
theorem Z2r:PIp X .Sub (ipI fun i j=>i - j):=by
 intro pins s σ H x y v u Q I r1 r2 h
 obtain ⟨i,j,e1,e2,q⟩:=h
 subst e1; subst e2
 obtain ⟨t,rfl⟩:=r1
 obtain ⟨t',rfl⟩:=r2
 exact isub_int ⟨.int _,H,I.tok _,⟨_,rfl⟩,q⟩
end
section
variable {X:Cx}{pos:Pos}
def Zqa (c:TT) (tb:TS):TS:=fun D σ H=>∃ W:Nat->St->Hp->Prop,(∃ m,W m σ H)/\∀ m σ H,W m σ H ->
 c σ H fun b H1=>if b=true then ∃ N:St->Hp->Prop,(∀ σ' H',N σ' H'->∃ m',m' < m/\W m' σ' H')/\tb {D with nx:=N,ct:=N,bk:=D.nx } σ H1 else D.nx σ H1
theorem Zyp {c:Expr}{body:List Stmt}{tc:TT}{tb:TS}(hp:PassesOwn (model X.prog X.w) X.A X.env X.xe) (hc:PT X c tc) (hb:PSs X body tb):PS X (.While c body [] pos) (Zqa tc tb):=by
 intro pins s σ H D I h
 obtain ⟨W,⟨m0,w0⟩,turn⟩:=h
 refine wpAny_While (codeAny_whileLoop (fun n s'=>∃ σ' H',Inv X pins σ' H' s'/\W n σ' H') ?_ m0 ⟨σ,H,I,w0⟩)
 rintro n s1 ⟨σ1,H1,I1,w1⟩
 refine wpAny_passesOwn hp (thn (hc pins s1 σ1 H1 _ I1 (turn n σ1 H1 w1)) fun b s2 ⟨H2,I2,q2⟩=>?_)
 cases b with
 | true =>
  obtain ⟨N,hN,q2⟩:=q2
  rw [if_pos rfl]
  refine wpAny_passesOwn hp (thn (hb pins s2 σ1 H2 _ I2 q2) fun f s3 q3=>?_)
  cases f with
  | next =>
   obtain ⟨σ3,H3,I3,n3⟩:=q3
   obtain ⟨m',hm,w3⟩:=hN σ3 H3 n3
   exact ⟨m',hm,σ3,H3,I3,w3⟩
  | cont =>
   obtain ⟨σ3,H3,I3,n3⟩:=q3
   obtain ⟨m',hm,w3⟩:=hN σ3 H3 n3
   exact ⟨m',hm,σ3,H3,I3,w3⟩
  | brk=>exact q3
  | ret v=>exact q3
 | false =>
  rw [if_neg xJ]
  exact wpAny_execs_nil ⟨σ1,H2,I2,q2⟩
end
structure It where
 go:Nat->Hp->Prop
 yld:Nat->Hp->V->Hp->Prop
 stop:Nat->Hp->Prop
def Yk (X:Cx) (pins:List (Addr×Obj)) (H:Hp) (b:Addr):Prop :=
 H b=none/\b≠X.env.locals/\b∉X.fs/\(b∈X.ex\/X.s₀.heap.objs.size<=b)/\(∀ x c,X.env.cells.lookup x=some c->c≠b)/\∀ p∈X.pn++pins,p.1≠b
theorem Inv.fpOk {X:Cx}{pins:List (Addr×Obj)}{σ:St}{H H':Hp}{s:Shared}{b:Addr}(I:Inv X pins σ H s) (hb:s.heap.objs.size<=b) (hn:H' b=none):Yk X pins H' b:=by
 refine ⟨hn,Nat.ne_of_gt (yG I.lt hb),I.nofs hb,.inr (yA I.sz hb),fun x c e z=>?_,fun p hp z=>?_⟩
 ·obtain ⟨v,q⟩:=I.cell x c e
  exact absurd (yG q.lt (by rw [z]; exact hb)) (Nat.lt_irrefl _)
 ·exact absurd (yG (xU (I.pin p hp).1) (by rw [z]; exact hb)) (Nat.lt_irrefl _)
structure Turn (P:Program) (w:World) (K:uFg) (tg:Expr) (J:It) (fp:List Addr) (it:Addr) (tn:Nat->Heap->Prop):Prop where
 mem:it∈fp
 obj:∀ i h,tn i h->∀ b∈fp,∃ o,h.get? b=some o/\∀ v,o.data ≠ .cell v
 keep:∀ i h h',tn i h->(∀ b∈fp,∀ o,h.get? b=some o->h'.get? b=some o)->tn i h'
 item:∀ (X:Cx),X.prog=P->X.w=w->X.K=K->X.calm=true->∀ (i:Nat) (pins:List (Addr×Obj)) (s:Shared) (σ:St) (H:Hp) (E:Value->Shared->Prop),Inv X pins σ H s->(∀ b∈fp,Yk X pins H b)->tn i s.heap->J.go i H ->
  wpAny (model P w) X.A (pyNext (.ref it)) (fun r s1=>∃ u,r=some u /\
   wpAny (model P w) X.A (letOwnedTupleGo tg (.ref it) u) (fun _ s2=>∃ x H',Inv X pins σ H' s2/\RelV x u/\J.yld i H x H'/\tn (i+1) s2.heap/\∀ b∈fp,H' b=none) E s1) E s
 done:∀ (X:Cx),X.prog=P->X.w=w->X.K=K->X.calm=true->∀ (i:Nat) (pins:List (Addr×Obj)) (s:Shared) (σ:St) (H:Hp) (E:Value->Shared->Prop),Inv X pins σ H s->(∀ b∈fp,Yk X pins H b)->tn i s.heap->J.stop i H ->
  wpAny (model P w) X.A (pyNext (.ref it)) (fun r s1=>r=none/\Inv X pins σ H s1) E s
 self:∀ (A:Around) (i:Nat) (s:Shared) (Q:Value->Shared->Prop) (E:Value->Shared->Prop),tn i s.heap->Q (.ref it) s->wpAny (model P w) A (pyIter (.ref it)) Q E s
abbrev TI:=St->Hp->(It->Hp->Prop)->Prop
def PIE (X:Cx) (pins:List (Addr×Obj)) (σ:St) (tg:Expr) (R:It->Hp->Prop) (itv:Value) (s2:Shared):Prop :=
 ∃ (it:Addr) (fp:List Addr) (tn:Nat->Heap->Prop) (J:It) (H':Hp),itv = .ref it/\Inv X pins σ H' s2/\Turn X.prog X.w X.K tg J fp it tn/\tn 0 s2.heap/\(∀ b∈fp,Yk X pins H' b)/\R J H'
def PI (X:Cx) (tg iter:Expr) (wi:TI):Prop :=
 ∀ (pins:List (Addr×Obj)) (s:Shared) (σ:St) (H:Hp) (R:It->Hp->Prop),Inv X pins σ H s->wi σ H R ->
  wpAny (model X.prog X.w) X.A (eval iter X.env) (fun v s1=>wpAny (model X.prog X.w) X.A (pyIter v) (PIE X pins σ tg R) X.xe s1) X.xe s
theorem Zfk {M:Model}{A:Around}{E:Value->Shared->Prop}{s:Shared}{tg:Expr}{it:Addr}{u:Value}{o:Obj}{n:String}{vs:Array Value}{Q:Unit->Shared->Prop}(ho:s.heap.get? it=some o) (hc:o.cls = .type n) (hd:o.data = .fields vs)
    (hn : ["enumerate", "zip", "dict_itemiterator", "dict_reverseitemiterator", "odict_iterator", "itertools.zip_longest", "itertools.pairwise"].contains n=false) (hQ:Q () s):wpAny M A (letOwnedTupleGo tg (.ref it) u) Q E s:=by
  unfold letOwnedTupleGo
  cases tg <;> first
    | exact wpAny_pure hQ
    | (cases u <;> first
        | exact wpAny_pure hQ
        | (refine wpAny_bind (wpAny_load ho ?_)
           rw [hc,hd]
           show wpAny M A (if (["enumerate", "zip", "dict_itemiterator", "dict_reverseitemiterator", "odict_iterator", "itertools.zip_longest", "itertools.pairwise"].contains n && vs[0]? == some (rawInt _))=true then _ else _) Q E s
           rw [if_neg (by intro h; rw [hn,Bool.false_and] at h; cases h)]
           exact wpAny_pure hQ))
def Itl (K:uFg) (a:Addr):It :=
 ⟨fun i H=>∃ xs x,SqL K H a xs/\xs[i]? = some x,fun i H x H'=>H'=H/\∀ xs,SqL K H a xs->xs[i]? = some x,fun i H=>∃ xs,SqL K H a xs/\xs.length<=i⟩
def Itr (lo:Int) (n:Nat):It:=⟨fun i _=>i < n,fun i H x H'=>H'=H/\x = .int (lo+i),fun i _=>n<=i⟩
theorem Zxc {P:Program}{w:World}{K:uFg}{tg:Expr}(a it:Addr):Turn P w K tg (Itl K a) [it] it (fun i h=>h.IsListIter it a i) where
 mem:=by simp
 obj:=fun i h st b hb=>by
  have e:b=it:=by simpa using hb
  subst e
  obtain ⟨o,e,c,d⟩:=st
  exact ⟨o,e,fun v z=>by rw [d] at z; cases z⟩
 keep:=fun i h h' st k=>st.at fun o e=>k it (by simp) o e
 item:=by
  intro X hP hw hK hc i pins s σ H E I hf st hg
  subst hP hw hK
  obtain ⟨xs,x,hq,hx⟩:=hg
  obtain ⟨its,rv,p,hz⟩:=I.list hq
  obtain ⟨u,hu,ru⟩:=rv.get hx
  obtain ⟨f0,f1,f2,f3,f4,f5⟩:=hf it (by simp)
  refine wpAny_pyNext_list_item st p.isList (x:=u) (by simpa using hu) fun h' st' sb=>?_
  have I1:Inv X pins σ H {s with heap:=h' }:=I.turned (t':=s.toks) (fun b o hb e=>(sb.2 b hb).trans e) f0 f1 f3 f4 f5
  obtain ⟨o,e,c,d⟩:=id st'
  exact ⟨u,rfl,Zfk (s:={s with heap:=h' }) e c d (by decide) ⟨x,H,I1,ru,⟨rfl,fun ys hy=>by rw [I.list_inj hy hq]; exact hx⟩,st',fun b hb=>(hf b hb).1⟩⟩
 done:=by
  intro X hP hw hK hc i pins s σ H E I hf st hg
  subst hP hw hK
  obtain ⟨xs,hq,hx⟩:=hg
  obtain ⟨its,rv,p,hz⟩:=I.list hq
  obtain ⟨f0,f1,f2,f3,f4,f5⟩:=hf it (by simp)
  have hl:=rv.length
  exact wpAny_pyNext_list_end (I.ok.hd hc) st p.isList (by simp; lia) fun h' eb=>⟨rfl,I.turned (t':=s.toks) (fun b o hb e=>eb b o hb e) f0 f1 f3 f4 f5⟩
 self:=fun _ _ _ _ _ st h=>wpAny_pyIter_listiter st h
theorem Zwf {P:Program}{w:World}{K:uFg}{tg:Expr}(it:Addr) (lo:Int) (n:Nat):Turn P w K tg (Itr lo n) [it] it (fun i h=>IsRangeIter h it (lo+(i:Nat) * 1) ((n:Int) - (i:Nat)) 1) where
 mem:=by simp
 obj:=fun i h st b hb=>by
  have e:b=it:=by simpa using hb
  subst e
  exact ⟨_,st,fun v z=>by
   have z':Data.fields _=Data.cell v:=z
   cases z'⟩
 keep:=fun i h h' st k=>k it (by simp) _ st
 item:=by
  intro X hP hw hK hc i pins s σ H E I hf st hg
  subst hP hw hK
  obtain ⟨f0,f1,f2,f3,f4,f5⟩:=hf it (by simp)
  have W:=Walks.range (prog:=X.prog) (w:=X.w) (I.ok.hd hc) it lo 1 n
  refine W.item i s _ _ hg st fun v h' tk hv st' kk=>?_
  obtain ⟨t,rfl⟩:=hv
  have I1:Inv X pins σ H {s with heap:=h',toks:=tk }:=I.turned (fun b o hb e=>kk b o (by simpa using hb) e) f0 f1 f3 f4 f5
  refine ⟨_,rfl,Zfk (s:={s with heap:=h',toks:=tk }) (n := "range_iterator") st' rfl rfl (by decide) ⟨.int (lo+i),H,I1,⟨t,?_⟩,⟨rfl,rfl⟩,st',fun b hb=>(hf b hb).1⟩⟩
  rw [Int.mul_one]
 done:=by
  intro X hP hw hK hc i pins s σ H E I hf st hg
  subst hP hw hK
  obtain ⟨f0,f1,f2,f3,f4,f5⟩:=hf it (by simp)
  exact wpAny_pyNext_range_end (I.ok.hd hc) st (by have:n<=i:=hg; lia) fun h' eb=>⟨rfl,I.turned (t':=s.toks) (fun b o hb e=>eb b o hb e) f0 f1 f3 f4 f5⟩
 self:=fun _ _ _ _ _ st h=>wpAny_pyIter_rangeiter st h
end L2
namespace L2
open PySem PySem.Spec PyProof.Rows
section
variable {X:Cx}{tg:Expr}
def Zrq (K:uFg) (tl:TE):TI:=fun σ H R=>tl σ H fun x H1=>∃ a,x = .ref a/\(∃ xs,SqL K H1 a xs)/\R (Itl K a) H1
theorem Z0r {l:Expr}{tl:TE}(hl:PE X l tl):PI X tg l (Zrq X.K tl):=by
 intro pins s σ H R I h
 refine thn (hl pins s σ H _ I h) fun v s1 ⟨x,H1,I1,r1,q1⟩=>?_
 obtain ⟨a,e,⟨xs,hq⟩,q⟩:=q1
 subst e
 cases r1
 obtain ⟨its,rv,p,hz⟩:=I1.list hq
 refine wpAny_pyIter_list p.isList ?_
 refine ⟨s1.heap.objs.size,[s1.heap.objs.size],_,_,H1,rfl,I1.kept (t':=s1.toks) fun b o e=>xG _ e,Zxc a _,⟨_,yC _ rfl,rfl,rfl⟩,fun b hb=>?_,q⟩
 have e:b=s1.heap.objs.size:=by simpa using hb
 subst e
 exact I1.fpOk (xE _) (I1.hok.fresh (xE _))
theorem Znx {pins:List (Addr×Obj)}{σ:St}{H:Hp}{s:Shared}{R:It->Hp->Prop}{E:Value->Shared->Prop}{lo hi:Int}{t u v:Tok}{tk:Nat}(I:Inv X pins σ H s) (h1 : -(2 ^ 62)<=lo) (h2:lo < 2 ^ 62) (h3 : -(2 ^ 62)<=hi) (h4:hi < 2 ^ 62)
  (q:R (Itr lo (hi - lo).toNat) H):wpAny (model X.prog X.w) X.A (pyIter (.ref s.heap.objs.size)) (PIE X pins σ tg R) E {s with heap:=s.heap.push {cls:=.type "range", data:=.fields #[.int lo t,.int hi u,.int 1 v] },toks:=tk }:=by
 refine wpAny_pyIter_range (IsRange.new ..) (small_one h1 h2 h3 h4) ?_
 have I1:Inv X pins σ H {s with heap:=s.heap.push {cls:=.type "range", data:=.fields #[.int lo t,.int hi u,.int 1 v] },toks:=tk }:=I.kept fun b o e=>xG _ e
 refine ⟨(s.heap.push {cls:=.type "range", data:=.fields #[.int lo t,.int hi u,.int 1 v] }).objs.size,[(s.heap.push {cls:=.type "range", data:=.fields #[.int lo t,.int hi u,.int 1 v] }).objs.size],_,_,H,rfl,
  I1.kept (t':=tk) fun b o e=>xG _ e,Zwf _ lo (hi - lo).toNat,?_,fun b hb=>?_,q⟩
 ·have e1:lo+((0:Nat):Int) * 1=lo:=by simp
  have e2:(((hi - lo).toNat:Nat):Int) - ((0:Nat):Int)=Builtin.Range.rangeSize lo hi 1:=by rw [rangeSize_one]; split <;> lia
  show IsRangeIter _ _ (lo+((0:Nat):Int) * 1) ((((hi - lo).toNat:Nat):Int) - ((0:Nat):Int)) 1
  rw [e1,e2]
  exact yC _ rfl
 ·have e:b=(s.heap.push {cls:=.type "range", data:=.fields #[.int lo t,.int hi u,.int 1 v] }).objs.size:=by simpa using hb
  subst e
  exact I1.fpOk (xE _) (I1.hok.fresh (xE _))
def Zrr (ta:TA):TI:=fun σ H R=>ta σ H fun vs H1=>∃ j:Int,vs = [.int j] /\ -(2 ^ 62)<=j/\j < 2 ^ 62/\R (Itr 0 j.toNat) H1
def Zrs (ta:TA):TI:=fun σ H R=>ta σ H fun vs H1=>∃ i j:Int,vs = [.int i,.int j]/\(-(2 ^ 62)<=i/\i < 2 ^ 62 /\ -(2 ^ 62)<=j/\j < 2 ^ 62)/\R (Itr i (j - i).toNat) H1
theorem Zxd {a:Expr}{ta:TA}{p pos:Pos}(hg:Gl X "range") (hm:X.mg "range" = none) (ha:PA X [a] ta) (hs:starEach [a] X.env = [(false,eval a X.env)]:=by rfl):PI X tg (.Call (.Name "range" p) [a] [] pos) (Zrr ta):=by
 intro pins s σ H R I h
 refine Call_ (Vs I hg hm boot_range (PyProof.Rows.callWith_type1 (thn (ha pos pins s σ H _ I h) fun us s1 ⟨vs,H1,I1,r1,q1⟩=>?_) hs rfl))
 obtain ⟨j,e,q1,q2,q⟩:=q1
 subst e
 cases r1 with
 | cons r rr =>
  cases rr
  obtain ⟨t,rfl⟩:=r
  exact call_range_1 (Znx I1 (by lia) (by lia) q1 q2 (by simpa using q))
theorem Zxe {a b:Expr}{ta:TA}{p pos:Pos}(hg:Gl X "range") (hm:X.mg "range" = none) (ha:PA X [a,b] ta) (hs:starEach [a,b] X.env = [(false,eval a X.env),(false,eval b X.env)]:=by rfl) (hs2:starEach [b] X.env = [(false,eval b X.env)]:=by rfl) :
  PI X tg (.Call (.Name "range" p) [a,b] [] pos) (Zrs ta):=by
 intro pins s σ H R I h
 refine Call_ (Vs I hg hm boot_range (PyProof.Rows.callWith_type1 (thn (ha pos pins s σ H _ I h) fun us s1 ⟨vs,H1,I1,r1,q1⟩=>?_) (by rw [hs,hs2]) (by rw [hs2]; rfl)))
 obtain ⟨i,j,e,⟨q1,q2,q3,q4⟩,q⟩:=q1
 subst e
 cases r1 with
 | cons r rr =>
  cases rr with
  | cons r' rr =>
   cases rr
   obtain ⟨t,rfl⟩:=r
   obtain ⟨t',rfl⟩:=r'
   exact call_range_2 (Znx I1 q1 q2 q3 q4 q)
def Ybb (wi:TI) (g:TG) (tb:TS):TS:=fun D σ H=>wi σ H fun J H1=>∃ W:Nat->Nat->St->Hp->Prop,(∃ m,W 0 m σ H1)/\∀ i m σ H,W i m σ H ->
 (J.stop i H/\D.nx σ H)\/(J.go i H/\∃ N:St->Hp->Prop,(∀ σ' H',N σ' H'->∃ m',m' < m/\W (i+1) m' σ' H')/\∀ x H',J.yld i H x H'->g x σ H' fun σ2 H2=>tb {D with nx:=N,ct:=N,bk:=D.nx } σ2 H2)
def Za0 (fp:List Addr) (h:Heap):List (Addr×Obj):=fp.filterMap fun b=>(h.get? b).map fun o=>(b,o)
theorem Zeg {fp:List Addr}{h:Heap}{b:Addr}{o:Obj}(hb:b∈fp) (e:h.get? b=some o):(b,o)∈Za0 fp h:=List.mem_filterMap.mpr ⟨b,hb,by rw [e]; rfl⟩
theorem Zm3 {fp:List Addr}{h:Heap}{p:Addr×Obj}(hp:p∈Za0 fp h):p.1∈fp/\h.get? p.1=some p.2:=by
 obtain ⟨b,hb,e⟩:=List.mem_filterMap.mp hp
 cases q:h.get? b with
 | none=>rw [q] at e; cases e
 | some o =>
  rw [q] at e
  have e':(b,o)=p:=Option.some.inj e
  subst e'
  exact ⟨hb,q⟩
theorem Inv.pinned {pins:List (Addr×Obj)}{σ:St}{H:Hp}{s:Shared}{fp:List Addr}(I:Inv X pins σ H s) (hf:∀ b∈fp,Yk X pins H b) (ho:∀ b∈fp,∃ o,s.heap.get? b=some o/\∀ v,o.data ≠ .cell v):Inv X (pins++Za0 fp s.heap) σ H s :=
 I.pins_of fun p hp=>(xO.mp hp).elim (fun z=>I.pin p (xM _ z)) fun z=>by
  obtain ⟨hb,e⟩:=Zm3 z
  obtain ⟨f0,f1,f2,_⟩:=hf p.1 hb
  obtain ⟨o,e',d⟩:=ho p.1 hb
  rw [e] at e'; cases e'
  exact ⟨e,f0,f1,f2,d⟩
theorem Inv.unpinned {pins pl:List (Addr×Obj)}{σ:St}{H:Hp}{s:Shared}(I:Inv X (pins++pl) σ H s):Inv X pins σ H s:=I.pins_of fun p hp=>I.pin p (xM _ (yF _ hp))
theorem Z2s {iter:Expr}{body:List Stmt}{wi:TI}{g:TG}{tb:TS}{pos:Pos}(hp:PassesOwn (model X.prog X.w) X.A X.env X.xe) (hc:X.calm=true) (hi:PI X tg iter wi) (hg:PG X tg g) (hb:PSs X body tb)
  (hs:∀ x,foldedSetIterable iter X.env x=pure x:=by intro _; rfl):PS X (.For tg iter body [] pos) (Ybb wi g tb):=by
 intro pins s σ H D I h
 refine wpAny_For (thn (hi pins s σ H _ I h) fun v s1 h1=>thn h1 fun itv s2 h2=>?_) hs
 obtain ⟨it,fp,tn,J,H2,e,I2,T,st2,f2,W,⟨m0,w0⟩,turn⟩:=h2
 subst e
 have stat:∀ {H':Hp},(∀ b∈fp,H' b=none)->∀ b∈fp,Yk X pins H' b:=fun hn b hb=>⟨hn b hb,(f2 b hb).2⟩
 refine codeAny_forLoop_any (fun n s'=>∃ i σ' H',Inv X pins σ' H' s'/\tn i s'.heap/\(∀ b∈fp,H' b=none)/\W i n σ' H') ?_ m0 ⟨0,σ,H2,I2,st2,fun b hb=>(f2 b hb).1,w0⟩
 rintro n s3 ⟨i,σ3,H3,I3,st3,fr3,w3⟩
 rcases turn i n σ3 H3 w3 with ⟨stop,qn⟩ | ⟨go,N,hN,step⟩
 ·refine wpAny_passesOwn hp (thn (T.done X rfl rfl rfl hc i pins s3 σ3 H3 X.xe I3 (stat fr3) st3 stop) fun r s4 ⟨hr,I4⟩=>?_)
  subst hr
  exact wpAny_execs_nil ⟨σ3,H3,I4,qn⟩
 ·refine wpAny_passesOwn hp (thn (T.item X rfl rfl rfl hc i pins s3 σ3 H3 X.xe I3 (stat fr3) st3 go) fun r s4 ⟨u,hr,h4⟩=>?_)
  subst hr
  refine wpAny_passesOwn hp (thn h4 fun _ s5 ⟨x,H5,I5,r5,y5,st5,fr5⟩=>?_)
  have I5':=I5.pinned (stat fr5) (T.obj _ _ st5)
  refine wpAny_passesOwn hp (thn (hg _ s5 σ3 H5 x u _ I5' r5 (step x H5 y5)) fun _ s6 ⟨σ6,H6,I6,q6⟩=>?_)
  refine wpAny_passesOwn hp (thn (hb _ s6 σ6 H6 _ I6 q6) fun f s7 q7=>?_)
  have again:∀ {σ7:St}{H7:Hp},Inv X (pins++Za0 fp s5.heap) σ7 H7 s7->N σ7 H7->∃ m,m < n/\∃ i σ' H',Inv X pins σ' H' s7/\tn i s7.heap/\(∀ b∈fp,H' b=none)/\W i m σ' H':=fun {σ7 H7} I7 n7=>by
   obtain ⟨m',hm,w7⟩:=hN σ7 H7 n7
   refine ⟨m',hm,i+1,σ7,H7,I7.unpinned,T.keep _ _ _ st5 fun b hb o e=>(I7.pin (b,o) (xM _ (xM _ (Zeg hb e)))).1,fun b hb=>?_,w7⟩
   obtain ⟨o,e,d⟩:=T.obj _ _ st5 b hb
   exact (I7.pin (b,o) (xM _ (xM _ (Zeg hb e)))).2.1
  cases f with
  | next=>obtain ⟨σ7,H7,I7,n7⟩:=q7; exact again I7 n7
  | cont=>obtain ⟨σ7,H7,I7,n7⟩:=q7; exact again I7 n7
  | brk=>obtain ⟨σ7,H7,I7,q7⟩:=q7; exact ⟨σ7,H7,I7.unpinned,q7⟩
  | ret v=>obtain ⟨x7,σ7,H7,I7,r7,q7⟩:=q7; exact ⟨x7,σ7,H7,I7.unpinned,r7,q7⟩
end
theorem Zyq {K:uFg}{a:Addr}{xs:List V}{g:TG}{tb:TS}{D:Ends}{σ:St}{H:Hp}(Pv:Nat->St->Hp->Prop) (h0:Pv 0 σ H) (hl:∀ i σ H,i<=xs.length->Pv i σ H->SqL K H a xs)
  (hs:∀ i x σ H,xs[i]? = some x->Pv i σ H->g x σ H fun σ2 H2=>tb {D with nx:=Pv (i+1),ct:=Pv (i+1),bk:=D.nx } σ2 H2) (hd:∀ σ H,Pv xs.length σ H->D.nx σ H) :
  ∃ W:Nat->Nat->St->Hp->Prop,(∃ m,W 0 m σ H)/\∀ i m σ H,W i m σ H ->
   ((Itl K a).stop i H/\D.nx σ H)\/((Itl K a).go i H/\∃ N:St->Hp->Prop,(∀ σ' H',N σ' H'->∃ m',m' < m/\W (i+1) m' σ' H')/\∀ x H',(Itl K a).yld i H x H'->g x σ H' fun σ2 H2=>tb {D with nx:=N,ct:=N,bk:=D.nx } σ2 H2):=by
 refine ⟨fun i m σ H=>m=xs.length - i/\i<=xs.length/\Pv i σ H,⟨xs.length,by simp,yT _,h0⟩,?_⟩
 rintro i m σ H ⟨rfl,hi,p⟩
 have q:=hl i σ H hi p
 by_cases hlt:i < xs.length
 ·refine .inr ⟨⟨xs,xs[i],q,by simp [hlt]⟩,Pv (i+1),fun σ' H' p'=>⟨xs.length - (i+1),by lia,rfl,hlt,p'⟩,fun x H' y=>?_⟩
  obtain ⟨e,y⟩:=y
  subst e
  exact hs i x σ _ (y xs q) p
 ·have e:i=xs.length:=by lia
  subst e
  exact .inl ⟨⟨xs,q,xE _⟩,hd σ H p⟩
theorem Zxf {lo:Int}{n:Nat}{g:TG}{tb:TS}{D:Ends}{σ:St}{H:Hp}(Pv:Nat->St->Hp->Prop) (h0:Pv 0 σ H)
  (hs:∀ i σ H,i < n->Pv i σ H->g (.int (lo+i)) σ H fun σ2 H2=>tb {D with nx:=Pv (i+1),ct:=Pv (i+1),bk:=D.nx } σ2 H2) (hd:∀ σ H,Pv n σ H->D.nx σ H) :
  ∃ W:Nat->Nat->St->Hp->Prop,(∃ m,W 0 m σ H)/\∀ i m σ H,W i m σ H ->
   ((Itr lo n).stop i H/\D.nx σ H)\/((Itr lo n).go i H/\∃ N:St->Hp->Prop,(∀ σ' H',N σ' H'->∃ m',m' < m/\W (i+1) m' σ' H')/\∀ x H',(Itr lo n).yld i H x H'->g x σ H' fun σ2 H2=>tb {D with nx:=N,ct:=N,bk:=D.nx } σ2 H2):=by
 refine ⟨fun i m σ H=>m=n - i/\i<=n/\Pv i σ H,⟨n,by simp,yT _,h0⟩,?_⟩
 rintro i m σ H ⟨rfl,hi,p⟩
 by_cases hlt:i < n
 ·refine .inr ⟨hlt,Pv (i+1),fun σ' H' p'=>⟨n - (i+1),by lia,rfl,hlt,p'⟩,fun x H' y=>?_⟩
  obtain ⟨e,y⟩:=y
  subst e y
  exact hs i σ _ hlt p
 ·have e:i=n:=by lia
  subst e
  exact .inl ⟨xE _,hd σ H p⟩
end L2
namespace L2
open PySem PySem.Spec PyProof.Rows
abbrev R2:=V->V->Hp->VK->Prop
def OpR (X:Cx) (f:Value->Value->Sem Value) (r:R2):Prop :=
 ∀ (pins:List (Addr×Obj)) (s:Shared) (σ:St) (H:Hp) (x y:V) (v u:Value) (Q:VK),Inv X pins σ H s->RelV x v->RelV y u->r x y H Q ->
  wpAny (model X.prog X.w) X.A (f v u) (EP X pins σ Q) X.xe s
def UnR (X:Cx) (f:Value->Sem Value) (r:V->Hp->VK->Prop):Prop :=
 ∀ (pins:List (Addr×Obj)) (s:Shared) (σ:St) (H:Hp) (x:V) (v:Value) (Q:VK),Inv X pins σ H s->RelV x v->r x H Q ->
  wpAny (model X.prog X.w) X.A (f v) (EP X pins σ Q) X.xe s
def Wv (X:Cx) (f:Value) (r:List V->Hp->VK->Prop):Prop :=
 ∀ (pins:List (Addr×Obj)) (s:Shared) (σ:St) (H:Hp) (xs:List V) (us:List Value) (Q:VK),Inv X pins σ H s->Vals xs us->r xs H Q ->
  wpAny (model X.prog X.w) X.A (call f us) (EP X pins σ Q) X.xe s
def Ybc (X:Cx) (r:V->Hp->(Bool->Hp->Prop)->Prop):Prop :=
 ∀ (pins:List (Addr×Obj)) (s:Shared) (σ:St) (H:Hp) (x:V) (v:Value) (Q:Bool->Hp->Prop),Inv X pins σ H s->RelV x v->r x H Q ->
  wpAny (model X.prog X.w) X.A (truthy v) (TP X pins σ Q) X.xe s
def tOp (r:R2) (ta tb:TE):TE:=fun σ H Q=>ta σ H fun x H1=>tb σ H1 fun y H2=>r x y H2 Q
def tUn (r:V->Hp->VK->Prop) (ta:TE):TE:=fun σ H Q=>ta σ H fun x H1=>r x H1 Q
def rI (C:Int->Int->Prop) (g:Int->Int->V):R2:=fun x y H Q=>∃ i j,x = .int i/\y = .int j/\C i j/\Q (g i j) H
def rI0 (g:Int->Int->V):R2:=fun x y H Q=>∃ i j,x = .int i/\y = .int j/\Q (g i j) H
def rU (g:Int->V):V->Hp->VK->Prop:=fun x H Q=>∃ i,x = .int i/\Q (g i) H
section
variable {X:Cx}{a b c:Expr}{ta tb tc:TE}{pos:Pos}
theorem Zk5 (ha:PE X a ta) (hb:PE X b tb) {pins:List (Addr×Obj)}{s:Shared}{σ:St}{H:Hp}{R:V->V->Hp->Prop}(I:Inv X pins σ H s)
  (h:ta σ H fun x H1=>tb σ H1 fun y H2=>R x y H2) {Q:Value->Shared->Prop}{f:Value->Value->Sem Value}
  (hf:∀ v u s2 x y H2,Inv X pins σ H2 s2->RelV x v->RelV y u->R x y H2->wpAny (model X.prog X.w) X.A (f v u) Q X.xe s2) :
  wpAny (model X.prog X.w) X.A (eval a X.env) (fun v s₁=>wpAny (model X.prog X.w) X.A (eval b X.env) (fun u s₂=>wpAny (model X.prog X.w) X.A (f v u) Q X.xe s₂) X.xe s₁) X.xe s:=by
 refine thn (ha pins s σ H _ I h) fun v s1 ⟨x,H1,I1,r1,q1⟩=>?_
 refine thn (hb pins s1 σ H1 _ I1 q1) fun u s2 ⟨y,H2,I2,r2,q2⟩=>?_
 exact hf v u s2 x y H2 I2 r1 r2 q2
theorem Z3y {op:Operator}{r:R2}(ho:OpR X (binaryOp op) r) (ha:PE X a ta) (hb:PE X b tb):PE X (.BinOp a op b pos) (tOp r ta tb):=by
 intro pins s σ H Q I h
 exact wpAny_BinOp (Zk5 ha hb I h fun v u s2 x y H2 I2 rx ry q=>ho pins s2 σ H2 x y v u Q I2 rx ry q)
theorem Z3z {op:UnaryOp}{r:V->Hp->VK->Prop}(ho:UnR X (unaryOp op) r) (ha:PE X a ta):PE X (.UnaryOp op a pos) (tUn r ta):=by
 intro pins s σ H Q I h
 exact UnaryOp_ (thn (ha pins s σ H _ I h) fun v s1 ⟨x,H1,I1,r1,q1⟩=>ho pins s1 σ H1 x v Q I1 r1 q1)
theorem opI {f:Value->Value->Sem Value}{C:Int->Int->Prop}{g:Int->Int->Int}
  (rule:∀ (i j:Int) (t u:Tok) (s:Shared) (Q:Value->Shared->Prop) (E:Value->Shared->Prop),C i j->Q (.int (g i j) s.toks) {s with toks:=s.toks+1 }->wpAny (model X.prog X.w) X.A (f (.int i t) (.int j u)) Q E s) :
  OpR X f (rI C fun i j=>.int (g i j)):=by
 intro pins s σ H x y v u Q I rx ry h
 obtain ⟨i,j,rfl,rfl,hc,q⟩:=h
 obtain ⟨t,rfl⟩:=rx
 obtain ⟨t',rfl⟩:=ry
 exact rule i j t t' s _ _ hc ⟨.int (g i j),H,I.tok _,⟨_,rfl⟩,q⟩
theorem Zuq {f:Value->Value->Sem Value}{g:Int->Int->Int}
  (rule:∀ (i j:Int) (t u:Tok) (s:Shared) (Q:Value->Shared->Prop) (E:Value->Shared->Prop),Q (.int (g i j) s.toks) {s with toks:=s.toks+1 }->wpAny (model X.prog X.w) X.A (f (.int i t) (.int j u)) Q E s) :
  OpR X f (rI0 fun i j=>.int (g i j)):=by
 intro pins s σ H x y v u Q I rx ry h
 obtain ⟨i,j,rfl,rfl,q⟩:=h
 obtain ⟨t,rfl⟩:=rx
 obtain ⟨t',rfl⟩:=ry
 exact rule i j t t' s _ _ ⟨.int (g i j),H,I.tok _,⟨_,rfl⟩,q⟩
theorem Zfz {f:Value->Value->Sem Value}{g:Int->Int->Bool}
  (rule:∀ (i j:Int) (t u:Tok) (s:Shared) (Q:Value->Shared->Prop) (E:Value->Shared->Prop),Q (.bool (g i j)) s->wpAny (model X.prog X.w) X.A (f (.int i t) (.int j u)) Q E s) :
  OpR X f (rI0 fun i j=>.bl (g i j)):=by
 intro pins s σ H x y v u Q I rx ry h
 obtain ⟨i,j,rfl,rfl,q⟩:=h
 obtain ⟨t,rfl⟩:=rx
 obtain ⟨t',rfl⟩:=ry
 exact rule i j t t' s _ _ ⟨.bl (g i j),H,I,rfl,q⟩
def Zk6 (i j:Int):Prop:=0 < j/\j < 1073741824
def Zdy (i j:Int):Prop:=0<=j/\j<=1000000/\i.natAbs < 2 ^ 64
def CMul (i j:Int):Prop:=(-(2 ^ 64) < i/\i < 2 ^ 64)\/(-(2 ^ 64) < j/\j < 2 ^ 64)
theorem CMul.ok {i j:Int}(h:CMul i j):IntMulOk i j:=by
 rcases h with ⟨h1,h2⟩ | ⟨h1,h2⟩
 ·exact .of_left (intBits_le_64 h1 h2)
 ·exact .of_right (intBits_le_64 h1 h2)
theorem Z2t:OpR X (binaryOp .Add) (rI0 fun i j=>.int (i+j)):=Zuq fun _ _ _ _ _ _ _ q=>add_int q
theorem Z2u:OpR X (binaryOp .Sub) (rI0 fun i j=>.int (i - j)):=Zuq fun _ _ _ _ _ _ _ q=>sub_int q
theorem Z2v:OpR X (binaryOp .Mult) (rI CMul fun i j=>.int (i * j)):=opI fun _ _ _ _ _ _ _ hc q=>mul_int q hc.ok
theorem Z0s:OpR X (binaryOp .FloorDiv) (rI Zk6 fun i j=>.int (i / j)):=opI fun i j _ _ _ _ _ hc q=>by
 have h1:(0:Int) < j:=hc.1
 have h2:j < 1073741824:=hc.2
 exact floordiv_int (by lia) (by rw [Int.fdiv_eq_ediv_of_nonneg i (by lia)]; exact q) (.inl (PyProof.noPylong_small (by lia)))
theorem Z2w:OpR X (binaryOp .Mod) (rI (fun _ j=>0 < j) fun i j=>.int (i % j)):=opI fun i j _ _ _ _ _ hc q=>by
 have h1:(0:Int) < j:=hc
 exact mod_int' (by lia) (by rw [Int.fmod_eq_emod_of_nonneg i (by lia)]; exact q)
theorem Z2x:OpR X (binaryOp .Pow) (rI Zdy fun i j=>.int (i ^ j.toNat)):=opI fun _ _ _ _ _ _ _ hc q=>pow_int_small hc.1 hc.2.1 hc.2.2 q
end
def Zur:V->V->Bool
 | .non,.non=>true | .non,.int _=>true | .int _,.non=>true | .non,.bl _=>true | .bl _,.non=>true | .non,.str _=>true | .str _,.non=>true
 | .int _,.int _=>true | .bl _,.bl _=>true | .str _,.str _=>true | .byt _,.byt _=>true
 | .int _,.str _=>true | .str _,.int _=>true | .bl _,.str _=>true | .str _,.bl _=>true
 | _,_=>false
def rEq:R2:=fun x y H Q=>Zur x y=true/\Q (.bl (decide (x=y))) H
def rNe:R2:=fun x y H Q=>Zur x y=true/\Q (.bl (!decide (x=y))) H
theorem Zo4 {i j:Int}:decide (V.int i=V.int j)=(i == j):=by
 rw [yW]
 simp
theorem Zqb {i j:Bool}:decide (V.bl i=V.bl j)=(i == j):=by
 rw [yW]
 simp
theorem Zo5 {i j:Str}:decide (V.str i=V.str j)=(i == j):=by
 rw [yW]
 simp
theorem Zo6 {i j:Array UInt8}:decide (V.byt i=V.byt j)=(i.toList == j.toList):=by
 rw [yW]
 cases i
 cases j
 simp
section
variable {X:Cx}{a b c:Expr}{ta tb tc:TE}{pos:Pos}
theorem Z9 {pins:List (Addr×Obj)}{σ:St}{H:Hp}{s:Shared}{Q:VK}{k k':Bool}(I:Inv X pins σ H s) (q:Q (.bl k) H) (e:k=k'):EP X pins σ Q (.bool k') s:=by
 subst e
 exact ⟨.bl k,H,I,rfl,q⟩
theorem Z30:OpR X (compareOp .Eq) rEq:=by
 intro pins s σ H x y v u Q I rx ry h
 obtain ⟨hs,q⟩:=h
 cases x with
 | non =>
  cases rx
  cases y with
  | non=>cases ry; exact PySem.EqNone.eq_none_none (Z9 I q (by simp))
  | bl j=>cases ry; exact PySem.EqNone.eq_none_bool (Z9 I q (by simp))
  | int j=>obtain ⟨t',rfl⟩:=ry; exact PySem.EqNone.eq_none_int (Z9 I q (by simp))
  | str j=>obtain ⟨t',rfl⟩:=ry; exact PySem.EqNone.eq_none_str (Z9 I q (by simp))
  | _=>exact absurd (show false=true from hs) xJ
 | bl i =>
  cases rx
  cases y with
  | non=>cases ry; exact PySem.EqNone.eq_bool_none (Z9 I q (by simp))
  | bl j=>cases ry; exact eq_bool (Z9 I q Zqb)
  | str j=>obtain ⟨t',rfl⟩:=ry; exact PySem.EqMixed.eq_bool_str (Z9 I q (by simp))
  | _=>exact absurd (show false=true from hs) xJ
 | int i =>
  obtain ⟨t,rfl⟩:=rx
  cases y with
  | non=>cases ry; exact PySem.EqNone.eq_int_none (Z9 I q (by simp))
  | int j=>obtain ⟨t',rfl⟩:=ry; exact eq_int (Z9 I q Zo4)
  | str j=>obtain ⟨t',rfl⟩:=ry; exact PySem.EqMixed.eq_int_str (Z9 I q (by simp))
  | _=>exact absurd (show false=true from hs) xJ
 | str i =>
  obtain ⟨t,rfl⟩:=rx
  cases y with
  | non=>cases ry; exact PySem.EqNone.eq_str_none (Z9 I q (by simp))
  | bl j=>cases ry; exact PySem.EqMixed.eq_str_bool (Z9 I q (by simp))
  | int j=>obtain ⟨t',rfl⟩:=ry; exact PySem.EqMixed.eq_str_int (Z9 I q (by simp))
  | str j=>obtain ⟨t',rfl⟩:=ry; exact eq_str (Z9 I q Zo5)
  | _=>exact absurd (show false=true from hs) xJ
 | byt i =>
  obtain ⟨t,rfl⟩:=rx
  cases y with
  | byt j=>obtain ⟨t',rfl⟩:=ry; exact PySem.W.eq_bytes (Z9 I q Zo6)
  | _=>exact absurd (show false=true from hs) xJ
 | _=>cases y <;> exact absurd (show false=true from hs) xJ
theorem Z31:OpR X (compareOp .NotEq) rNe:=by
 intro pins s σ H x y v u Q I rx ry h
 obtain ⟨hs,q⟩:=h
 cases x with
 | non =>
  cases rx
  cases y with
  | non=>cases ry; exact PySem.EqNone.ne_none_none (Z9 I q (by simp))
  | bl j=>cases ry; exact PySem.EqNone.ne_none_bool (Z9 I q (by simp))
  | int j=>obtain ⟨t',rfl⟩:=ry; exact PySem.EqNone.ne_none_int (Z9 I q (by simp))
  | str j=>obtain ⟨t',rfl⟩:=ry; exact PySem.EqNone.ne_none_str (Z9 I q (by simp))
  | _=>exact absurd (show false=true from hs) xJ
 | bl i =>
  cases rx
  cases y with
  | non=>cases ry; exact PySem.EqNone.ne_bool_none (Z9 I q (by simp))
  | bl j=>cases ry; exact ne_bool (Z9 I q (congrArg not Zqb))
  | str j=>obtain ⟨t',rfl⟩:=ry; exact PySem.EqMixed.ne_bool_str (Z9 I q (by simp))
  | _=>exact absurd (show false=true from hs) xJ
 | int i =>
  obtain ⟨t,rfl⟩:=rx
  cases y with
  | non=>cases ry; exact PySem.EqNone.ne_int_none (Z9 I q (by simp))
  | int j=>obtain ⟨t',rfl⟩:=ry; exact ne_int (Z9 I q (congrArg not Zo4))
  | str j=>obtain ⟨t',rfl⟩:=ry; exact PySem.EqMixed.ne_int_str (Z9 I q (by simp))
  | _=>exact absurd (show false=true from hs) xJ
 | str i =>
  obtain ⟨t,rfl⟩:=rx
  cases y with
  | non=>cases ry; exact PySem.EqNone.ne_str_none (Z9 I q (by simp))
  | bl j=>cases ry; exact PySem.EqMixed.ne_str_bool (Z9 I q (by simp))
  | int j=>obtain ⟨t',rfl⟩:=ry; exact PySem.EqMixed.ne_str_int (Z9 I q (by simp))
  | str j=>obtain ⟨t',rfl⟩:=ry; exact ne_str (Z9 I q (congrArg not Zo5))
  | _=>exact absurd (show false=true from hs) xJ
 | byt i =>
  obtain ⟨t,rfl⟩:=rx
  cases y with
  | byt j=>obtain ⟨t',rfl⟩:=ry; exact PySem.W.ne_bytes (Z9 I q (congrArg not Zo6))
  | _=>exact absurd (show false=true from hs) xJ
 | _=>cases y <;> exact absurd (show false=true from hs) xJ
theorem Z32:OpR X (compareOp .Lt) (rI0 fun i j=>.bl (decide (i < j))):=Zfz fun _ _ _ _ _ _ _ q=>lt_int q
theorem Z33:OpR X (compareOp .LtE) (rI0 fun i j=>.bl (decide (i<=j))):=Zfz fun _ _ _ _ _ _ _ q=>le_int q
theorem Z34:OpR X (compareOp .Gt) (rI0 fun i j=>.bl (decide (j < i))):=Zfz fun _ _ _ _ _ _ _ q=>gt_int q
theorem Z35:OpR X (compareOp .GtE) (rI0 fun i j=>.bl (decide (j<=i))):=Zfz fun _ _ _ _ _ _ _ q=>ge_int q
theorem Z2y:OpR X (compareOp .Is) (fun x y H Q=>y = .non/\Q (.bl (decide (x = .non))) H):=by
 intro pins s σ H x y v u Q I rx ry h
 obtain ⟨rfl,q⟩:=h
 cases ry
 refine is_none_gen (Z9 I q ?_)
 cases x <;> first
  | (cases rx; rfl)
  | (obtain ⟨t,rfl⟩:=rx; rfl)
theorem Z0t:OpR X (compareOp .IsNot) (fun x y H Q=>y = .non/\Q (.bl (!decide (x = .non))) H):=by
 intro pins s σ H x y v u Q I rx ry h
 obtain ⟨rfl,q⟩:=h
 cases ry
 refine isnot_none_gen (Z9 I q ?_)
 cases x <;> first
  | (cases rx; rfl)
  | (obtain ⟨t,rfl⟩:=rx; rfl)
theorem Z1 (b:Expr) {op:CmpOp}(h:op ≠ .In:=by decide) (h2:op ≠ .NotIn:=by decide):behindInMarks op b=false:=by
 have e1:(op == CmpOp.In)=false:=by cases op <;> first | rfl | exact absurd rfl h
 have e2:(op == CmpOp.NotIn)=false:=by cases op <;> first | rfl | exact absurd rfl h2
 cases b <;> simp [behindInMarks,e1,e2]
theorem Z0u {op:CmpOp}{r:R2}(ho:OpR X (compareOp op) r) (ha:PE X a ta) (hb:PE X b tb) (hm:behindInMarks op b=false):PE X (.Compare a [op] [b] pos) (tOp r ta tb):=by
 intro pins s σ H Q I h
 exact wpAny_Compare1 (Zk5 ha hb I h fun v u s2 x y H2 I2 rx ry q=>ho pins s2 σ H2 x y v u Q I2 rx ry q) hm
def Zdj (t:TE):TT:=fun σ H Q=>t σ H fun x H'=>∃ k,x = .bl k/\Q k H'
theorem Z0v {op:CmpOp}{r:R2}(ho:OpR X (compareOp op) r) (ha:PE X a ta) (hb:PE X b tb) (hm:behindInMarks op b=false):PT X (.Compare a [op] [b] pos) (Zdj (tOp r ta tb)):=by
 intro pins s σ H Q I h
 refine wpAny_isTrue_Compare1 (thn (ha pins s σ H _ I h) fun v s1 ⟨x,H1,I1,r1,q1⟩=>thn (hb pins s1 σ H1 _ I1 q1) fun u s2 ⟨y,H2,I2,r2,q2⟩ =>
  thn (ho pins s2 σ H2 x y v u _ I2 r1 r2 q2) fun c s3 ⟨z,H3,I3,r3,k,e,q3⟩=>?_) hm
 subst e
 cases r3
 exact wpAny_truthy_bool ⟨H3,I3,q3⟩
def Zqc (r r':R2) (ta tb tc:TE):TE:=fun σ H Q=>ta σ H fun x H1=>tb σ H1 fun y H2=>r x y H2 fun z H3=>∃ k,z = .bl k /\
 (if k=true then tc σ H3 fun w' H4=>r' y w' H4 Q else Q (.bl false) H3)
theorem Zyr {op op':CmpOp}{r r':R2}(ho:OpR X (compareOp op) r) (ho':OpR X (compareOp op') r') (ha:PE X a ta) (hb:PE X b tb) (hc:PE X c tc)
  (hm:lastMarks [op,op'] [b,c]=false:=by with_unfolding_all rfl):PT X (.Compare a [op,op'] [b,c] pos) (Zdj (Zqc r r' ta tb tc)):=by
 intro pins s σ H Q I h
 refine isTrue_chain (thn (ha pins s σ H _ I h) fun v s1 ⟨x,H1,I1,r1,q1⟩=>test_link (thn (hb pins s1 σ H1 _ I1 q1) fun u s2 ⟨y,H2,I2,r2,q2⟩ =>
  thn (ho pins s2 σ H2 x y v u _ I2 r1 r2 q2) fun d s3 ⟨z,H3,I3,r3,k,e,q3⟩=>?_)) hm
 subst e
 cases r3
 refine wpAny_truthy_bool ?_
 cases k with
 | false =>
  obtain ⟨k',e',q'⟩:=q3
  cases e'
  exact ite_ff ⟨H3,I3,q'⟩
 | true =>
  refine ite_tt (test_last (thn (hc pins s3 σ H3 _ I3 q3) fun w' s4 ⟨z',H4,I4,r4,q4⟩=>thn (ho' pins s4 σ H4 y z' u w' _ I4 r2 r4 q4) fun d' s5 ⟨z2,H5,I5,r5,k2,e2,q5⟩=>?_))
  subst e2
  cases r5
  exact wpAny_truthy_bool ⟨H5,I5,q5⟩
def Zk7 (K:uFg) (x:V) (H:Hp) (k:Bool):Prop :=
 match x with
 | .non=>k=false
 | .bl b=>k=b
 | .int i=>k=(i != 0)
 | .str y=>y.length<=sizeLine/\k=((y.length:Int) != 0)
 | .byt y=>y.size<=sizeLine/\k=((y.size:Int) != 0)
 | .ref p=>(∃ xs,SqL K H p xs/\k = !xs.isEmpty)\/(∃ xs,SqT K H p xs/\k = !xs.isEmpty)\/∃ kvs,H p=some (.dK kvs)/\k = !kvs.isEmpty
 | _=>False
theorem Zwg {κ:Type}{kvs:List (κ×V)}{vs:List (κ×Value)}(r:KV kvs vs):(!vs.isEmpty) = !kvs.isEmpty:=by
 cases r <;> rfl
theorem Zmm {xs:List V}{its:List Value}(r:Vals xs its):(!its.toArray.isEmpty) = !xs.isEmpty:=by
 cases r <;> simp
theorem Za1:(sizeLine:Nat) < 2 ^ 63:=by rw [sizeLine_eq]; decide
theorem Z2z:Ybc X (fun x H Q=>∃ k,Zk7 X.K x H k/\Q k H):=by
 intro pins s σ H x v Q I rx h
 obtain ⟨k,e,q⟩:=h
 have hl:=Za1
 have hs:sizeLine=16777216:=sizeLine_eq
 cases x with
 | non =>
  cases rx
  have e':k=false:=e
  subst e'
  exact truthy_none ⟨H,I,q⟩
 | bl b =>
  cases rx
  have e':k=b:=e
  subst e'
  exact wpAny_truthy_bool ⟨H,I,q⟩
 | int i =>
  obtain ⟨t,rfl⟩:=rx
  have e':k=(i != 0):=e
  subst e'
  exact PySem.P.truthy_int ⟨H,I,q⟩
 | str y =>
  obtain ⟨t,rfl⟩:=rx
  obtain ⟨hy,e'⟩:y.length<=sizeLine/\k=((y.length:Int) != 0):=e
  subst e'
  exact PySem.P.truthy_str (by lia) ⟨H,I.tok _,q⟩
 | byt y =>
  obtain ⟨t,rfl⟩:=rx
  obtain ⟨hy,e'⟩:y.size<=sizeLine/\k=((y.size:Int) != 0):=e
  subst e'
  exact PySem.W.truthy_bytes (by lia) ⟨H,I.tok _,q⟩
 | ref p =>
  cases rx
  have e':(∃ xs,SqL X.K H p xs/\k = !xs.isEmpty)\/(∃ xs,SqT X.K H p xs/\k = !xs.isEmpty)\/∃ kvs,H p=some (.dK kvs)/\k = !kvs.isEmpty:=e
  rcases e' with ⟨xs,hx,e'⟩ | ⟨xs,hx,e'⟩ | ⟨kvs,hx,e'⟩
  ·subst e'
   obtain ⟨its,r,pl,hz⟩:=I.list hx
   have hlen:=r.length
   exact wpAny_truthy_list pl.isList (by simp only [xX]; lia) ⟨H,I.tok _,by rw [Zmm r]; exact q⟩
  ·subst e'
   obtain ⟨its,r,pl,hz⟩:=I.tuple hx
   have hlen:=r.length
   exact truthy_tuple pl (by simp only [xX]; lia) ⟨H,I.tok _,by rw [Zmm r]; exact q⟩
  ·subst e'
   obtain ⟨hz,hS,vs,r,m⟩:kvs.length<=sizeLine/\(p == sysModules)=false/\∃ vs,KV kvs vs/\s.heap.DictOf (Y3 X.prog X.w) p vs:=I.hok p _ hx
   have hlen:kvs.length=vs.length:=Paired.length r
   exact wpAny_truthy_dict hS m (by lia) ⟨H,I.tok _,by rw [Zwg r]; exact q⟩
 | _=>exact (show False from e).elim
theorem Zys (ha:PE X a ta) (he:∀ whole,isTrue a X.env whole=(do let v ← whole; standAt a.pos; holding [v] (truthy v))) :
  PT X a (fun σ H Q=>ta σ H fun x H'=>∃ k,Zk7 X.K x H' k/\Q k H'):=by
 intro pins s σ H Q I h
 exact isTrue_plain (thn (ha pins s σ H _ I h) fun v s1 ⟨x,H1,I1,r1,q1⟩=>Z2z pins s1 σ H1 x v Q I1 r1 q1) (he _)
theorem Zwh:OpR X (binaryOp .Add) (fun x y H Q=>∃ i j,x = .str i/\y = .str j/\i.length+j.length<=sizeLine/\Q (.str (i++j)) H):=by
 intro pins s σ H x y v u Q I rx ry h
 obtain ⟨i,j,rfl,rfl,hz,q⟩:=h
 obtain ⟨t,rfl⟩:=rx
 obtain ⟨t',rfl⟩:=ry
 exact add_str (fun t' tk=>⟨.str (i++j),H,I.tok _,⟨_,rfl⟩,q⟩) hz
theorem V3 {x:V}{us:List Value}(r:Vals [x] us):∃ u,us = [u]/\RelV x u:=by
 cases r with
 | cons r1 r2=>cases r2; exact ⟨_,rfl,r1⟩
theorem Zrt {x y:V}{us:List Value}(r:Vals [x,y] us):∃ u w',us = [u,w']/\RelV x u/\RelV y w':=by
 cases r with
 | cons r1 r2 =>
  cases r2 with
  | cons r3 r4=>cases r4; exact ⟨_,_,rfl,r1,r3⟩
theorem Zxg (hc:X.calm=true):Wv X (.builtin "max") (fun xs H Q=>∃ i j,xs = [.int i,.int j]/\Q (.int (if j > i then j else i)) H):=by
 intro pins s σ H xs us Q I r h
 obtain ⟨i,j,rfl,q⟩:=h
 obtain ⟨u,w',rfl,⟨t,rfl⟩,⟨t',rfl⟩⟩:=Zrt r
 refine max_two_ints (I.ok.hd hc) fun h' tk k=>⟨_,H,I.kept k,?_,q⟩
 by_cases hj:j > i
 ·rw [if_pos hj,if_pos hj]; exact ⟨_,rfl⟩
 ·rw [if_neg hj,if_neg hj]; exact ⟨_,rfl⟩
theorem Zxh (hc:X.calm=true):Wv X (.builtin "min") (fun xs H Q=>∃ i j,xs = [.int i,.int j]/\Q (.int (if j < i then j else i)) H):=by
 intro pins s σ H xs us Q I r h
 obtain ⟨i,j,rfl,q⟩:=h
 obtain ⟨u,w',rfl,⟨t,rfl⟩,⟨t',rfl⟩⟩:=Zrt r
 refine min_two_ints (I.ok.hd hc) fun h' tk k=>⟨_,H,I.kept k,?_,q⟩
 by_cases hj:j < i
 ·rw [if_pos hj,if_pos hj]; exact ⟨_,rfl⟩
 ·rw [if_neg hj,if_neg hj]; exact ⟨_,rfl⟩
end
end L2
namespace L2
open PySem PySem.Spec PyProof.Rows
structure ObjM (h:Heap) (x dx C:Addr) (mA:Str->Option Value):Prop where
 obj:h.get? x=some (PySem.W.instObj C dx)
 ns:h.Ns1 dx mA
 ne:dx≠x
section
variable {prog:Program}{w:World}{A:Around}{E:Value->Shared->Prop}{s:Shared}{K:uFg}{x dx C f:Addr}{mA:Str->Option Value}{name:Str}{v:Value}
end
theorem RelO.some_of {v:V}{o:Option Value}(r:RelO (some v) o):∃ u,o=some u/\RelV v u:=by
 cases o with
 | none=>exact (show False from r).elim
 | some u=>exact ⟨u,rfl,r⟩
section
variable {P:Program}{w:World}{H H':Hp}{h h':Heap}{a C dx:Addr}{fs fs':List (Str×V)}
end
structure Cls (K:uFg) (C:Addr):Prop where
 pg:PySem.W.plainGet K C Str.empty=true
 hd:PySem.W.hasDictIn K C=true
 po:PySem.W.plainOver K C=true
 sa:PySem.W.findIn K (.ref C) "__setattr__" = some (some (.builtin "object.__setattr__"))
structure Con (K:uFg) (C:Addr) (f:Str) (v:V) (u:Value):Prop where
 at_:PySem.W.findIn K (.ref C) f=some (some u)
 rel:RelV v u
 get:PySem.W.specialIn K u "__get__" = some none
 cp:PySem.W.copiedNames.contains f=false
structure Meth (K:uFg) (C:Addr) (m:Str) (f:Addr):Prop where
 at_:PySem.W.findIn K (.ref C) m=some (some (.ref f))
 fn:PySem.W.isFn K (.ref f)=true
 kp:PySem.W.keepIn K (.ref f)=true
section
variable {X:Cx}{pins:List (Addr×Obj)}{σ:St}{H:Hp}{s:Shared}{a C dx:Addr}{fs:List (Str×V)}{f:Str}{v:V}{A:Around}{E:Value->Shared->Prop}
end
section
variable {X:Cx}{o e value:Expr}{f:Str}{pos pos' tpos:Pos}{ta tv:TE}
end
section
variable {X:Cx}{pins:List (Addr×Obj)}{σ:St}{H:Hp}{s:Shared}{A:Around}{E:Value->Shared->Prop}{Q:Value->Shared->Prop}{c:Value}{b:Bool}
inductive TyOf (K:uFg) (H:Hp):V->Value->Prop where
 | non:TyOf K H .non (.type "NoneType")
 | bl (x:Bool):TyOf K H (.bl x) (.type "bool")
 | int (i:Int):TyOf K H (.int i) (.type "int")
 | str (x:Str):TyOf K H (.str x) (.type "str")
 | flt (x:UInt64):TyOf K H (.flt x) (.type "float")
 | lst {a:Addr}{xs:List V}(e:H a=some (.lst xs)):TyOf K H (.ref a) (.type "list")
 | frz {a:Addr}{o:Obj}{xs:List V}(e:H a=some (.frz o (.lst xs))):TyOf K H (.ref a) (.type "list")
 | tup {a:Addr}{xs:List V}(e:H a=some (.tup xs)):TyOf K H (.ref a) (.type "tuple")
 | dK {a:Addr}{kvs:List (Key×V)}(e:H a=some (.dK kvs)):TyOf K H (.ref a) (.type "dict")
 | dT {a:Addr}{kvs:List (List Key×V)}(e:H a=some (.dT kvs)):TyOf K H (.ref a) (.type "dict")
 | ins {a C dx:Addr}{fs:List (Str×V)}(e:H a=some (.ins C dx fs)) (cl:Cls K C) (ha:PySem.W.findIn K (.ref C) "__class__" = some (some (.builtin "object.__class__")))
   (hn:PySem.W.specialIn K (.builtin "object.__class__") "__get__" = some (some (.builtin "getset_descriptor.__get__"))) (htk:PySem.W.takesIn K (.builtin "object.__class__")=some true)
   (hm:PySem.W.mroIn K C (.type "object")=some true):TyOf K H (.ref a) (.ref C)
end
end L2
namespace L2
open PySem PySem.Spec PyProof.Rows
structure Room (k:Nat) (A:Around):Prop where
 hd:A.handled=none
 dp:A.depth+3 * k+5 < recursionLimit
 un:A.units+16 * k+200 < cLine
theorem Room.mono {j k:Nat}{A:Around}(r:Room k A) (h:j<=k):Room j A:=⟨r.hd,by have:=r.dp; lia,by have:=r.un; lia⟩
theorem Room.deeper {k:Nat}{A:Around}(r:Room (k+1) A) (env:Env):Room k (A.deeper env) :=
 ⟨r.hd,by have:=r.dp; show A.depth+1+3 * k+5 < _; lia,by have:=r.un; show A.units+3+16 * k+200 < _; lia⟩
theorem Room.in1 {k:Nat}{A:Around}(r:Room (k+1) A):Room k A.in1 :=
 ⟨r.hd,by have:=r.dp; show A.depth+3 * k+5 < _; lia,by have:=r.un; show A.units+1+16 * k+200 < _; lia⟩
theorem Room.depth {k:Nat}{A:Around}(r:Room k A):A.depth < recursionLimit:=by have:=r.dp; lia
theorem Room.units {k:Nat}{A:Around}(r:Room k A):A.units+64 < cLine:=by have:=r.un; lia
theorem Room.units0 {k:Nat}{A:Around}(r:Room k A):A.units < cLine:=by have:=r.un; lia
def Zap:TA:=fun _ H Q=>Q [] H
def Vm (ta:TE) (tr:TA):TA:=fun σ H Q=>ta σ H fun x H1=>tr σ H1 fun xs H2=>Q (x::xs) H2
section
variable {X:Cx}{e:Expr}{es:List Expr}{te:TE}{t:TA}{pos:Pos}
theorem Z20:PA X [] Zap:=fun _ _ _ _ H Q I h=>Calls.spliced_nil ⟨[],H,I,.nil,h⟩
theorem Z0w (ha:PE X e te) (hr:PA X es t) (hs:starEach (e::es) X.env=(false,eval e X.env)::starEach es X.env:=by rfl):PA X (e::es) (Vm te t):=by
 intro pos pins s σ H Q I h
 rw [hs]
 show wpAny _ _ (spliced ((false,eval e X.env)::backTo pos (starEach es X.env))) _ _ s
 refine Calls.spliced_cons (thn (ha pins s σ H _ I h) fun u s1 ⟨x,H1,I1,r1,q1⟩=>?_)
 exact thn (hr pos pins s1 σ H1 _ I1 q1) fun us s2 ⟨xs,H2,I2,r2,q2⟩=>⟨x::xs,H2,I2,.cons r1 r2,q2⟩
def Zus (t:TA):TE:=fun σ H Q=>t σ H fun xs H1=>xs.length<=sizeLine/\∀ p,H1 p=none->Q (.ref p) (upd H1 p (.tup xs))
def Zut (t:TA):TE:=fun σ H Q=>t σ H fun xs H1=>xs.length<=sizeLine/\∀ p,H1 p=none->Q (.ref p) (upd H1 p (.lst xs))
theorem Z21 {x1} (h:PA X es t):PE X (.Tuple es x1 pos) (Zus t):=by
 intro pins s σ H Q I hq
 refine wpAny_Tuple_spliced (thn (h pos pins s σ H _ I hq) fun us s1 ⟨xs,H1,I1,r,z,q⟩=>⟨by rw [← r.length]; exact z,?_⟩)
 have hf:H1 s1.heap.objs.size=none:=I1.hok.fresh (xE _)
 refine ⟨.ref s1.heap.objs.size,upd H1 s1.heap.objs.size (.tup xs),I1.laid (t':=s1.toks) (fun b u e=>xG _ e) (xE _) ?_,rfl,q _ hf⟩
 exact ⟨z,us,r,⟨_,yC _ rfl,rfl,_,rfl⟩⟩
theorem Z22 (h:PA X es t):PE X (.List es pos) (Zut t):=by
 intro pins s σ H Q I hq
 refine wpAny_List_spliced (thn (h pos pins s σ H _ I hq) fun us s1 ⟨xs,H1,I1,r,z,q⟩=>⟨by rw [← r.length]; exact z,?_⟩)
 have hf:H1 s1.heap.objs.size=none:=I1.hok.fresh (xE _)
 refine ⟨.ref s1.heap.objs.size,upd H1 s1.heap.objs.size (.lst xs),I1.laid (t':=s1.toks) (fun b u e=>xG _ e) (xE _) ?_,rfl,q _ hf⟩
 exact ⟨z,us,0,r,yC _ rfl⟩
end
abbrev Sp:=List V->Hp->VK->XK->Prop
abbrev CXT:=List Env->Hp->Shared->XK->Value->Shared->Prop
structure Env0 (P:Program) (w:World) (K:uFg) (mg:Str->Option Value) (base:Heap) (A:Around) (outer:List Env) (s:Shared) (H:Hp):Prop where
 frames:A.frames=some outer
 mod:Mod K mg base
 bs:∀ b o,base.get? b=some o->s.heap.get? b=some o/\H b=none
 bsz:base.objs.size<=s.heap.objs.size
 funs:s.heap.FunFrames base outer
 frf:∀ b∈frs outer,H b=none
 hok:HOk P w H s.heap
 bare:AllBare s.gens
def CE (outer:List Env) (P:Program) (w:World) (H:Hp) (s:Shared) (Q:VK) (u:Value) (s':Shared):Prop :=
 ∃ v H',s'.os=s.os/\AllBare s'.gens/\Un (frs outer) [] H H' s.heap s'.heap/\HOk P w H' s'.heap/\RelV v u/\Q v H'
def CR (CX:CXT) (outer:List Env) (P:Program) (w:World) (H:Hp) (s:Shared) (Q:VK) (E:XK) (r:Result) (s':Shared):Prop :=
 match r with
 | .ok (.ret u)=>CE outer P w H s Q u s'
 | .ok _=>False
 | .error e=>CX outer H s E e s'
structure FnOk (P:Program) (w:World) (K:uFg) (mg:Str->Option Value) (base:Heap) (CX:CXT) (k:Nat) (f:Addr) (fd:FuncData) (ps:List Str) (sp:Sp):Prop where
 len:∀ vs H Q E,sp vs H Q E->vs.length=ps.length
 run:∀ (A:Around) (outer:List Env) (s:Shared) (H:Hp) (args:Args) (us:List Value) (vs:List V) (Q:VK) (E:XK),Room k A->Env0 P w K mg base A outer s H->BindsTo s fd args (ps.zip us)->Vals vs us->sp vs H Q E ->
  codeAny (model P w) A (.call (.ref f) args) (CR CX outer P w H s Q E) s
theorem FnOk.mono {P:Program}{w:World}{K:uFg}{mg:Str->Option Value}{base:Heap}{CX:CXT}{j k:Nat}{f:Addr}{fd:FuncData}{ps:List Str}{sp:Sp}(F:FnOk P w K mg base CX j f fd ps sp) (h:j<=k) :
  FnOk P w K mg base CX k f fd ps sp:=⟨F.len,fun A outer s H args us vs Q E hr=>F.run A outer s H args us vs Q E (hr.mono h)⟩
theorem FnOk.imp {P:Program}{w:World}{K:uFg}{mg:Str->Option Value}{base:Heap}{CX:CXT}{k:Nat}{f:Addr}{fd:FuncData}{ps:List Str}{sp sp':Sp}(F:FnOk P w K mg base CX k f fd ps sp)
  (h:∀ vs H Q E,sp' vs H Q E->sp vs H Q E):FnOk P w K mg base CX k f fd ps sp' :=
 ⟨fun vs H Q E q=>F.len vs H Q E (h _ _ _ _ q),fun A outer s H args us vs Q E hr he hb hv hs=>F.run A outer s H args us vs Q E hr he hb hv (h _ _ _ _ hs)⟩
section
variable {X:Cx}{pins:List (Addr×Obj)}{σ:St}{H:Hp}{s s':Shared}
theorem Inv.env0 (I:Inv X pins σ H s):Env0 X.prog X.w X.K X.mg X.base X.A X.stack s H :=
 ⟨I.ok.frames,I.ok.mod,I.bs,yA I.ok.bsz I.sz,I.stack,I.stkFree,I.hok,I.bare⟩
theorem Inv.after {Q:VK}{u:Value}(I:Inv X pins σ H s) (h:CE X.stack X.prog X.w H s Q u s'):EP X pins σ Q u s':=by
 obtain ⟨v,H',os,bare,un,hok,r,q⟩:=h
 obtain ⟨hh,g,d,t,os'⟩:=s'
 obtain rfl:os'=s.os:=os
 exact ⟨v,H',I.call (h':=hh) (g':=g) (d':=d) (t':=t) (ch:=[]) un hok bare (fun b z=>absurd z (by simp)),r,q⟩
end
def Zi7 (sp:Sp) (dvs:List V) (E:XK) (t:TA):TE:=fun σ H Q=>t σ H fun vs H1=>sp (vs++dvs) H1 Q E
def Binds (K:uFg) (fd:FuncData) (ps:List Str) (ds:List Value):Prop :=
 ∀ (s:Shared) (us:List Value),K.In s.heap->(us++ds).length=ps.length->BindsTo s fd ⟨us,[]⟩ (ps.zip (us++ds))
theorem Binds.all {K:uFg}{fd:FuncData}{ps:List Str}(h:∀ us:List Value,us.length=ps.length->bindArgs fd ⟨us,[]⟩=pure (ps.zip us)):Binds K fd ps []:=fun s us _ hl=>by
 rw [yO] at hl ⊢
 exact .of_eq (h us hl)
def Zin (CX:CXT) (X:Cx) (E:XK):Prop:=∀ (pins:List (Addr×Obj)) (σ:St) (H:Hp) (s:Shared) (e:Value) (s':Shared),Inv X pins σ H s->CX X.stack H s E e s'->X.xe e s'
section
variable {X:Cx}{CX:CXT}{k:Nat}{f C:Addr}{fd:FuncData}{ps:List Str}{sp:Sp}{dvs:List V}{ds:List Value}{E:XK}{x m:Str}{p pos apos:Pos}{e o:Expr}{es:List Expr}{ta:TE}{t:TA}
theorem Z23 {pins:List (Addr×Obj)}{σ:St}{H:Hp}{s:Shared}{Q:VK}{us:List Value}{vs:List V}(F:FnOk X.prog X.w X.K X.mg X.base CX k f fd ps sp) (hr:Room k X.A) (hb:Binds X.K fd ps ds) (hd:Vals dvs ds) (hx:Zin CX X E)
  (I:Inv X pins σ H s) (r:Vals vs us) (h:sp (vs++dvs) H Q E):wpAny (model X.prog X.w) X.A (call (.ref f) us) (EP X pins σ Q) X.xe s:=by
 have r2:Vals (vs++dvs) (us++ds):=r.append hd
 have hl:(us++ds).length=ps.length:=by rw [← r2.length]; exact F.len _ _ _ _ h
 refine wpAny_call (codeAny_mono (F.run X.A X.stack s H ⟨us,[]⟩ (us++ds) (vs++dvs) Q E hr I.env0 (hb s us I.kIn hl) r2 h) fun r s' hq=>?_)
 cases r with
 | error e=>exact hx pins σ H s e s' I hq
 | ok fl =>
  cases fl with
  | ret u=>exact I.after hq
  | next=>exact False.elim hq
  | brk=>exact False.elim hq
  | cont=>exact False.elim hq
theorem Z0x (F:FnOk X.prog X.w X.K X.mg X.base CX k f fd ps sp) (hr:Room k X.A) (hg:Gl X x) (hm:X.mg x=some (.ref f)) (hk:PySem.W.keepIn X.K (.ref f)=true) (hb:Binds X.K fd ps ds) (hd:Vals dvs ds) (hx:Zin CX X E)
  (ha:PA X (e::es) t) (hdb:(x == ("__debug__" : Str))=false:=by decide) (he:starEach (e::es) X.env=(false,eval e X.env)::starEach es X.env:=by rfl) (hpl:(backTo pos (starEach es X.env)).any (·.1)=false:=by rfl) :
  PE X (.Call (.Name x p) (e::es) [] pos) (Zi7 sp dvs E t):=by
 intro pins s σ H Q I h
 refine wpAny_Call_Name_kw (Zc6 I hg hm ?_ hdb)
 refine PySem.W.callWith_K (h₀:=X.base) I.ok.mod.kin hk (thn (ha pos pins s σ H _ I h) fun us s1 ⟨vs,H1,I1,r,q⟩=>⟨I1.kIn,?_⟩) he hpl
 exact Z23 F hr hb hd hx I1 r q
structure Mk (K:uFg) (C f:Addr):Prop where
 makes:PySem.W.makesIn K C=true
 init:PySem.W.findIn K (.ref C) "__init__" = some (some (.ref f))
 fn:PySem.W.isFn K (.ref f)=true
 kp:PySem.W.keepIn K (.ref C)=true
end
section
variable {X:Cx}{CX:CXT}{k:Nat}{f C:Addr}{fd:FuncData}{ps ks:List Str}{sp:Sp}{E:XK}{x m:Str}{p pos apos kpos:Pos}{e o:Expr}{es:List Expr}{kws:List Keyword}{te ta:TE}{t tk:TA}{nm:Option Str}
structure KBinds (K:uFg) (fd:FuncData) (ps ks:List Str) (g:List Value->List Value->List Value) (gV:List V->List V->List V):Prop where
 to:∀ (s:Shared) (us ws:List Value),K.In s.heap->(g us ws).length=ps.length->BindsTo s fd ⟨us,ks.zip ws⟩ (ps.zip (g us ws))
 rel:∀ {vs:List V}{us:List Value}{zs:List V}{ws:List Value},Vals vs us->Vals zs ws->Vals (gV vs zs) (g us ws)
variable {g:List Value->List Value->List Value}{gV:List V->List V->List V}
end
structure FnScope (N P:List Str) (sc:Scope):Prop where
 kind:sc.kind = .function
 co:sc.isCoroutine=false
 gen:sc.isGenerator=false
 nd:N.Nodup
 pre:N.take P.length=P
 par:∀ x∈P,sc.names.lookup x=some .local\/sc.names.lookup x=some .cell
 nofree:∀ y∈sc.names,y.2 ≠ .free
theorem Zm4 {kindOf:Str->Option NameKind}{x:Str}:∀ {binds:List (Str×Value)}{m:Str->Option Value},(∀ v,(x,v)∉binds)->bindL kindOf binds m x=m x
 | [],_,_=>rfl
 | (n,v)::r,m,h=>by
  unfold bindL
  rw [Zm4 fun w hw=>h w (xN _ hw)]
  split
  ·have:x≠n:=by rintro rfl; exact h v xI
   simp [this]
  ·rfl
theorem Zm5 {kindOf:Str->Option NameKind}{x:Str}:∀ {binds:List (Str×Value)}{m:Str->Option Value},(∀ v,(x,v)∉binds)->bindC kindOf binds m x=m x
 | [],_,_=>rfl
 | (n,v)::r,m,h=>by
  unfold bindC
  rw [Zm5 fun w hw=>h w (xN _ hw)]
  split
  ·rfl
  ·have:x≠n:=by rintro rfl; exact h v xI
   simp [this]
theorem Zm6 {kindOf:Str->Option NameKind}{x:Str}{v:Value}:∀ {P:List Str}{vs:List Value}{i:Nat}{m:Str->Option Value},P.Nodup->P[i]? = some x->vs[i]? = some v->kindOf x=some .local ->
  bindL kindOf (P.zip vs) m x=some v
 | [],_,_,_,_,h,_,_=>by simp at h
 | _::_,[],_,_,_,_,h,_=>by simp at h
 | p::P,w::vs,0,m,nd,h1,h2,hk=>by
  simp at h1 h2; subst h1; subst h2
  show bindL kindOf ((p,w)::P.zip vs) m p=_
  unfold bindL
  rw [Zm4 fun v hv=>(List.nodup_cons.mp nd).1 (List.of_mem_zip hv).1,if_pos hk]
  simp
 | p::P,w::vs,i+1,m,nd,h1,h2,hk=>by
  show bindL kindOf ((p,w)::P.zip vs) m x=_
  unfold bindL
  exact Zm6 (i:=i) (List.nodup_cons.mp nd).2 (by simpa using h1) (by simpa using h2) hk
theorem Zm7 {kindOf:Str->Option NameKind}{x:Str}{v:Value}:∀ {P:List Str}{vs:List Value}{i:Nat}{m:Str->Option Value},P.Nodup->P[i]? = some x->vs[i]? = some v->kindOf x≠some .local ->
  bindC kindOf (P.zip vs) m x=some v
 | [],_,_,_,_,h,_,_=>by simp at h
 | _::_,[],_,_,_,_,h,_=>by simp at h
 | p::P,w::vs,0,m,nd,h1,h2,hk=>by
  simp at h1 h2; subst h1; subst h2
  show bindC kindOf ((p,w)::P.zip vs) m p=_
  unfold bindC
  rw [Zm5 fun v hv=>(List.nodup_cons.mp nd).1 (List.of_mem_zip hv).1,if_neg hk]
  simp
 | p::P,w::vs,i+1,m,nd,h1,h2,hk=>by
  show bindC kindOf ((p,w)::P.zip vs) m x=_
  unfold bindC
  exact Zm7 (i:=i) (List.nodup_cons.mp nd).2 (by simpa using h1) (by simpa using h2) hk
def start (N:List Str) (vs:List V):St:=vs.map some++List.replicate (N.length - vs.length) none
def Ye (CX:CXT) (P:Program) (w:World) (K:uFg) (mg:Str->Option Value) (base:Heap) (N:List Str) (qual:Str) (scope:Scope) (f:Addr) (cd:Value) (A:Around) (outer:List Env) (s:Shared) (H:Hp) (E:XK):Cx where
 prog:=P
 w:=w
 K:=K
 mg:=mg
 base:=base
 A:=A.deeper (envOfC qual scope s.heap.objs.size f cd)
 N:=N
 s₀:=s
 H₀:=H
 env:=envOfC qual scope s.heap.objs.size f cd
 outer:=outer
 stack:=envOfC qual scope s.heap.objs.size f cd::outer
 ex:=[]
 calm:=true
 fn:=fun _=>true
 pn:=[]
 xe:=fun e s'=>wpAny (model P w) (A.deeper (envOfC qual scope s.heap.objs.size f cd)) (leaving (envOfC qual scope s.heap.objs.size f cd) e) (fun _ s''=>CX outer H s E e s'') (fun e' s''=>CX outer H s E e' s'') s'
theorem Zny {sc:Scope}{n:Nat}{x:Str}(h:sc.names.lookup x=some .cell):∃ c,(cellsFrom n sc.names []).lookup x=some c:=by
 have q:=PySem.W.cellsFrom_some sc.names n [] (.inl h)
 exact Option.isSome_iff_exists.mp q
theorem Zhf {CX:CXT}{P:Program}{w:World}{K:uFg}{mg:Str->Option Value}{base:Heap}{N ps:List Str}{qual:Str}{scope:Scope}{f:Addr}{cd:Value}{A:Around}{outer:List Env}{s s1:Shared}{H:Hp}{E:XK}{us:List Value}{vs:List V}
  (S:FnScope N ps scope) (hd:A.handled=none) (e0:Env0 P w K mg base A outer s H) (hl:vs.length=ps.length) (r:Vals vs us)
  (x:InCallC s s.heap.objs.size (bindL (envOfC qual scope s.heap.objs.size f cd).kindOf (ps.zip us) fun _=>none) (cellsFrom (s.heap.objs.size+1) scope.names []) (bindC (envOfC qual scope s.heap.objs.size f cd).kindOf (ps.zip us) fun _=>none) s1) :
  Inv (Ye CX P w K mg base N qual scope f cd A outer s H E) [] (start N vs) H s1:=by
 have hpl:ps.length<=N.length:=by have:=congrArg List.length S.pre; rw [xY] at this; lia
 obtain ⟨h1,tk,rfl,hk⟩:=x.done
 have noA:∀ b:Addr,b∉(Ye CX P w K mg base N qual scope f cd A outer s H E).ex:=fun b z=>absurd (show b∈([]:List Addr) from z) (by simp)
 refine ⟨⟨e0.mod,S.kind,rfl,rfl,xE _,fun y z c h1 h2=>?_,fun y hy=>?_,fun y c _ h=>?_,fun _=>hd,Around.frames_deeper e0.frames,.inr ⟨rfl,rfl⟩,fun b z=>absurd z (noA b),e0.bs,e0.bsz,fun b _ _=>noA b,fun b z=>absurd z (noA b),e0.funs,e0.frf⟩,
  rfl,e0.bare,Un.kept hk,⟨_,x.toInCall.ns,fun i y v h1 h2 h3=>?_⟩,fun y c h=>⟨_,x.cell y c h⟩,e0.hok.fresh (xE _),fun y c h=>?_,fun p hp=>absurd (show p∈([]:List (Addr×Obj)) from hp) (by simp),e0.hok.kept hk,?_⟩
 ·exact name_of_addr x.apart (PySem.mem_of_lookup h1) (PySem.mem_of_lookup h2)
 ·have hy:scope.names.lookup y=some .cell\/scope.names.lookup y=some .free:=hy
  rcases hy with hy | hy
  ·exact Zny hy
  ·exact absurd rfl (S.nofree _ (PySem.mem_of_lookup hy))
 ·exact yY (x.above y c (PySem.mem_of_lookup h))
 ·have hi:i < vs.length:=by
   unfold start at h2
   by_cases hi:i < vs.length
   ·exact hi
   ·rw [List.getElem?_append_right (by simpa using hi)] at h2
    rw [List.getElem?_replicate] at h2
    split at h2 <;> cases h2
  have ha:vs[i]? = some v:=by
   unfold start at h2
   rw [List.getElem?_append_left (by simpa using hi),xR] at h2
   cases e:vs[i]? with
   | none=>rw [e] at h2; cases h2
   | some a=>rw [e] at h2; cases h2; rfl
  obtain ⟨u,hu,rv⟩:=r.get ha
  have hp:ps[i]? = some y:=by
   rw [← S.pre,List.getElem?_take_of_lt (by lia)]; exact h1
  have ndP:ps.Nodup:=by rw [← S.pre]; exact S.nd.sublist (List.take_sublist _ _)
  refine ⟨u,rv,?_⟩
  rcases S.par y (xT hp) with k | k
  ·exact .inl ⟨k,Zm6 ndP hp hu k⟩
  ·obtain ⟨c,e⟩:=Zny (n:=s.heap.objs.size+1) k
   refine .inr ⟨.inl k,c,e,?_⟩
   have q:=x.cell y c e
   rw [Zm7 ndP hp hu (by show scope.names.lookup y≠_; rw [k]; decide)] at q
   exact q
 ·exact e0.hok.fresh (yY (x.above y c (PySem.mem_of_lookup h)))
 ·unfold start
  show _=N.length
  rw [xL,xA,List.length_replicate]
  lia
theorem Zi8 {CX:CXT}{P:Program}{w:World}{K:uFg}{mg:Str->Option Value}{base:Heap}{k:Nat}{f:Addr}{name qual:Str}{params:Arguments}{body:List Stmt}{scope:Scope}{dV kV doc pm cdv ct oc:Value}{an od:Option Addr}
  {osl:Array (Option Value)}{N ps:List Str}{sp:Sp}(lk:K.lookup f=some ⟨oc,od,.func (PySem.W.fnOf name qual params body scope dV kV doc pm an cdv ct),osl⟩) (hcd:PySem.W.codeIn K cdv qual=true) (S:FnScope N ps scope)
  (len:∀ vs H Q E,sp vs H Q E->vs.length=ps.length)
  (hbody:∀ (A:Around) (outer:List Env) (s:Shared) (H:Hp) (vs:List V) (Q:VK) (E:XK),Room k (A.deeper (envOfC qual scope s.heap.objs.size f cdv))->sp vs H Q E ->
   ∃ t,PSs (Ye CX P w K mg base N qual scope f cdv A outer s H E) body t/\t {nx:=fun _ H'=>Q .non H',rt:=Q } (start N vs) H) :
  FnOk P w K mg base CX (k+1) f (PySem.W.fnOf name qual params body scope dV kV doc pm an cdv ct) ps sp:=by
 refine ⟨len,fun A outer s H args us vs Q E hr e0 hb r hsp=>?_⟩
 have hl:=len _ _ _ _ hsp
 have KX:K.In s.heap:=e0.mod.kin.keeps fun b o e=>(e0.bs b o e).1
 have lim:s.heap.NoLimit:=e0.mod.nolimit.keeps fun b o e=>(e0.bs b o e).1
 have hkind:∀ y∈ps.zip us,scope.names.lookup y.1=some .local\/(scope.names.lookup y.1=some .cell/\((cellsFrom (s.heap.objs.size+1) scope.names []).lookup y.1).isSome=true):=fun ⟨n,v⟩ hy=>by
  rcases S.par n (List.of_mem_zip hy).1 with q | q
  ·exact .inl q
  ·exact .inr ⟨q,PySem.W.cellsFrom_some _ _ _ (.inl q)⟩
 refine codeAny_call_function hr.depth (KX _ _ lk) rfl S.co S.gen rfl (PySem.W.codeRec_of KX hcd) (hb _ _ _ _ ?_)
 refine wpAny_newFunctionEnv_cells S.kind hkind fun env he s1 x=>?_
 subst he
 refine ⟨lim.keeps x.toInCall.keep,codeAny_func ?_⟩
 obtain ⟨t,ht,hq⟩:=hbody A outer s H vs Q E (hr.deeper _) hsp
 have I:Inv (Ye CX P w K mg base N qual scope f cdv A outer s H E) [] (start N vs) H s1:=Zhf S hr.hd e0 hl r x
 refine wpAny_mono (ht [] s1 (start N vs) H _ I hq) (fun fl s' hs=>?_) fun e s' hs=>hs
 have fin:∀ {σ':St}{H':Hp}{v:V}{u:Value},Inv (Ye CX P w K mg base N qual scope f cdv A outer s H E) [] σ' H' s'->RelV v u->Q v H'->CE outer P w H s Q u s' :=
  fun {σ' H' v u} J rv q=>⟨v,H',J.os,J.bare,J.base,J.hok,rv,q⟩
 cases fl with
 | ret u =>
  obtain ⟨v,σ',H',J,rv,q⟩:=hs
  exact fin J rv q
 | next =>
  obtain ⟨σ',H',J,q⟩:=hs
  exact fin (v:=V.non) (u:=Value.none) J rfl q
 | brk =>
  obtain ⟨_,_,_,q⟩:=hs
  exact False.elim q
 | cont =>
  obtain ⟨_,_,_,q⟩:=hs
  exact False.elim q
end L2
namespace L2
open PySem PySem.Spec PyProof.Rows
section
variable {X:Cx}{x:Str}{p pos:Pos}{e:Expr}{es:List Expr}{t:TA}{id T:String}{r:List V->Hp->VK->Prop}
def tCB (r:List V->Hp->VK->Prop) (t:TA):TE:=fun σ H Q=>t σ H fun vs H1=>r vs H1 Q
theorem Zyt (hc:Wv X (.builtin id) r) (hg:Gl X x) (hm:X.mg x=none) (hv:bootBuiltins x=some (.builtin id)) (ha:PA X (e::es) t) (hn:x ≠ "__name__" := by decide) (hdb:(x == ("__debug__" : Str))=false:=by decide)
  (he:starEach (e::es) X.env=(false,eval e X.env)::starEach es X.env:=by rfl) (hpl:(backTo pos (starEach es X.env)).any (·.1)=false:=by rfl):PE X (.Call (.Name x p) (e::es) [] pos) (tCB r t):=by
 intro pins s σ H Q I h
 refine wpAny_Call_Name_kw (Vs I hg hm hv ?_ hn hdb)
 exact PyProof.Rows.callWith_builtin1 (thn (ha pos pins s σ H _ I h) fun us s1 ⟨vs,H1,I1,r1,q1⟩=>hc pins s1 σ H1 vs us Q I1 r1 q1) he hpl
theorem Zxi (hc:Wv X (.type T) r) (hg:Gl X x) (hm:X.mg x=none) (hv:bootBuiltins x=some (.type T)) (ha:PA X (e::es) t) (hn:x ≠ "__name__" := by decide) (hdb:(x == ("__debug__" : Str))=false:=by decide)
  (he:starEach (e::es) X.env=(false,eval e X.env)::starEach es X.env:=by rfl) (hpl:(backTo pos (starEach es X.env)).any (·.1)=false:=by rfl):PE X (.Call (.Name x p) (e::es) [] pos) (tCB r t):=by
 intro pins s σ H Q I h
 refine wpAny_Call_Name_kw (Vs I hg hm hv ?_ hn hdb)
 exact PyProof.Rows.callWith_type1 (thn (ha pos pins s σ H _ I h) fun us s1 ⟨vs,H1,I1,r1,q1⟩=>hc pins s1 σ H1 vs us Q I1 r1 q1) he hpl
end
end L2
namespace HT
open PySem PyProof.Rows
def lexLt:List Int->List Int->Bool
 | [],[]=>false
 | [],_::_=>true
 | _::_,[]=>false
 | x::xs,y::ys=>if x=y then lexLt xs ys else decide (x < y)
theorem Zwi (x y:Int) (xs ys:List Int):lexLt (x::xs) (y::ys)=if x=y then lexLt xs ys else decide (x < y):=rfl
theorem Zvf:lexLt [] []=false:=rfl
theorem Zva (y:Int) (ys:List Int):lexLt [] (y::ys)=true:=rfl
theorem Zvb (x:Int) (xs:List Int):lexLt (x::xs) []=false:=rfl
theorem Zyu (A:Around) (s:Shared) (a:Int) (t:Tok) (c:Int) (u:Tok):∃ e,SeqAt.EqAt A s (.int a t) (.int c u) e/\(e=true↔a=c) :=
 ⟨(a == c),SeqAt.EqAt.int_int a t c u,by simp⟩
theorem Zyv (A:Around) (s:Shared) (a:Int) (t:Tok) (c:Int) (u:Tok) (prog:Program) (w:World) (E:Value->Shared->Prop) (Q:Value->Shared->Prop) (h:Q (.bool (decide (a < c))) s) :
  wpAny (model prog w) A (richCompare .Lt (.int a t) (.int c u)) Q E s :=
 (PyProof.Rows.lt_int h:wpAny (model prog w) A (compareOp .Lt (.int a t) (.int c u)) Q E s)
section
open PySem.SeqAt
open PySem.AutoSeq1 (wpAny_loadPart')
open PySem.MeetsSeq PySem.MeetsSeq2 PySem.MeetsSeq3
theorem Zvg (l b:Addr) (items items2:Array Value) (n n2:Nat) (dd dd2:Option Addr) (sl sl2:Array (Option Value)) (ns ms:List Int) (hi:IntsAre items.toList ns) (hj:IntsAre items2.toList ms) :
  Meets (Builtin.«tuple.__lt__» ⟨[.ref l,.ref b],[]⟩)
   (fun _ R s=>s.heap.get? l=some {cls:=.type "tuple", dict:=dd,data:=.seq items n,slots:=sl }/\s.heap.get? b=some {cls:=.type "tuple", dict:=dd2,data:=.seq items2 n2,slots:=sl2 } /\
    R (.ok (.ret (.bool (lexLt ns ms)))) s) :=
 .of_wp fun prog w A R s h=>by
  obtain ⟨hp,g,d,tk,os⟩:=s; obtain ⟨hl,hb,h⟩:=h
  have f2:=AutoSeq1.sub_tuple_tuple
  have z1:items.size=ns.length:=by rw [← hi.length]; simp
  have z2:items2.size=ms.length:=by rw [← hj.length]; simp
  wp_walk using wpAny_loadPart' hl,wpAny_loadPart' hb,wpAny_forIn_list _ (fun rest b s'=>b.1=none/\s'=⟨hp,g,d,tk,os⟩/\∃ (vs ws:List Value) (ns' ms':List Int),rest=vs.zip ws /\
   IntsAre vs ns'/\IntsAre ws ms'/\ns'.length+items2.size=ms'.length+items.size/\R (.ok (.ret (.bool (lexLt ns' ms')))) ⟨hp,g,d,tk,os⟩) _
  case turn =>
   rintro ⟨y,x⟩ rest b s' ⟨hb',rfl,vs,ws,ns',ms',hz,hvi,hwi,hlen,hR⟩
   cases hvi with
   | nil=>rw [List.zip_nil_left] at hz; cases hz
   | cons a t hvi' =>
    cases hwi with
    | nil=>rw [List.zip_nil_right] at hz; cases hz
    | cons c u hwi' =>
     rw [List.zip_cons_cons] at hz
     injection hz with hyx hrest
     injection hyx with hy hx
     subst hy hx
     rw [Zwi] at hR
     simp only [xS] at hlen
     obtain ⟨e,he,hiff⟩:=Zyu A.in1 ⟨hp,g,d,tk,os⟩ a t c u
     refine wpAny_bind (he prog w _ _ ?_)
     cases e with
     | true =>
      rw [if_pos (hiff.mp rfl)] at hR
      wp_walk
      exact ⟨rfl,rfl,_,_,_,_,hrest,hvi',hwi',by lia,hR⟩
     | false =>
      rw [if_neg (fun q=>absurd (hiff.mpr q) xJ)] at hR
      have hri:=Zyv A.in1 ⟨hp,g,d,tk,os⟩ a t c u prog w
      wp_walk using hri
      exact ⟨_,rfl,by simpa using hR⟩
  case fin =>
   rintro ⟨b1,b2⟩ s' ⟨hb',rfl,vs,ws,ns',ms',hz,hvi,hwi,hlen,hR⟩
   simp only at hb'
   subst hb'
   have hv:lexLt ns' ms'=decide (items.size < items2.size):=by
    cases hvi with
    | nil =>
     cases hwi with
     | nil =>
      simp only [List.length_nil] at hlen
      rw [Zvf]
      exact (xK (by lia)).symm
     | cons c u hw =>
      simp only [List.length_nil,xS] at hlen
      rw [Zva]
      exact (xH (by lia)).symm
    | cons a t hv =>
     cases hwi with
     | nil =>
      simp only [List.length_nil,xS] at hlen
      rw [Zvb]
      exact (xK (by lia)).symm
     | cons c u hw =>
      rw [List.zip_cons_cons] at hz
      cases hz
   rw [hv] at hR
   wp_walk
   exact ⟨_,rfl,by simpa [Builtin.Tuple.tupleCompareSizes] using hR⟩
  case h =>
   exact ⟨rfl,rfl,items.toList,items2.toList,ns,ms,rfl,hi,hj,by lia,h⟩
end
section
variable {prog:Program}{w:World}{A:Around}{E:Value->Shared->Prop}{s:Shared}
theorem lt_tupInts {l b:Addr}{items items2:Array Value}{ns ms:List Int}{Q:Value->Shared->Prop}(hl:IsTup s.heap l items) (hb:IsTup s.heap b items2) (hi:IntsAre items.toList ns) (hj:IntsAre items2.toList ms)
  (hu:A.units < cLine) (h:Q (.bool (lexLt ns ms)) s):wpAny (model prog w) A (compareOp .Lt (.ref l) (.ref b)) Q E s:=by
 obtain ⟨⟨cls,dd,data,sl⟩,ho,hc,n,hd⟩:=id hl
 obtain ⟨⟨cls2,dd2,data2,sl2⟩,ho2,hc2,n2,hd2⟩:=id hb
 simp only at hc hd hc2 hd2
 subst hc hd hc2 hd2
 exact richCompare_meets_room (op:=.Lt) ⟨_,ho,rfl⟩ ⟨_,ho2,rfl⟩ PySem.F.slot_tuple_lt PySem.F.entry_tuple_lt (PySem.F.args_tuple_lt_2 _ _) (Zvg l b items items2 n n2 dd dd2 sl sl2 ns ms hi hj)
  ⟨ho,ho2,show Value.bool (lexLt ns ms)≠Value.notImplemented/\Q (.bool (lexLt ns ms)) s from ⟨(fun x=>nomatch x),h⟩⟩ hu
theorem cat_tup {t b:Addr}{vs ws:List Value}{Q:Value->Shared->Prop}(ht:IsTup s.heap t vs.toArray) (hb:IsTup s.heap b ws.toArray) (hv:vs ≠ [])
  (h1:ws = []->Q (.ref t) s) (h2:ws ≠ []->Q (.ref s.heap.objs.size) {s with heap:=s.heap.push {cls:=.type "tuple", data:=.seq (vs++ws).toArray } })
  (hsz:vs.length+ws.length<=sizeLine):wpAny (model prog w) A (binaryOp .Add (.ref t) (.ref b)) Q E s:=by
 obtain ⟨⟨cls,dd,data,sl⟩,ho,hc,n,hd⟩:=id ht
 obtain ⟨⟨cls2,dd2,data2,sl2⟩,ho2,hc2,n2,hd2⟩:=id hb
 simp only at hc hd hc2 hd2
 subst hc hd hc2 hd2
 have e:vs.toArray++ws.toArray=(vs++ws).toArray:=by simp
 by_cases hw:ws = []
 ·exact concat_meets ⟨_,ho,rfl⟩ ⟨_,ho2,rfl⟩ noFill_tuple_add seq_tuple_add PySem.F.slot_tuple_add PySem.F.entry_tuple_add (PySem.F.args_tuple_add_2 _ _)
   (tuple_addW1 t b vs.toArray ws.toArray n n2 dd dd2 sl sl2 (by simpa using hv) (by simp [hw])) ⟨ho,ho2,h1 hw⟩
 ·refine concat_meets ⟨_,ho,rfl⟩ ⟨_,ho2,rfl⟩ noFill_tuple_add seq_tuple_add PySem.F.slot_tuple_add PySem.F.entry_tuple_add (PySem.F.args_tuple_add_2 _ _)
   (tuple_addW2 t b vs.toArray ws.toArray n n2 dd dd2 sl sl2 (by simpa using hv) (by simpa using hw) (by rw [xX,xX]; exact hsz)) ⟨ho,ho2,?_⟩
  rw [e]
  exact h2 hw
def sIx (n d:Nat):Option Int->Nat
 | none=>d
 | some v=>if v < 0 then (v+(n:Int)).toNat else min v.toNat n
theorem sIx_none (n d:Nat):sIx n d none=d:=rfl
theorem sIx_nat (n d k:Nat):sIx n d (some (k:Int))=min k n:=by
 show (if (k:Int) < 0 then ((k:Int)+(n:Int)).toNat else min (k:Int).toNat n)=min k n
 rw [if_neg (by lia),xZ]
end
end HT
namespace L2
open PySem PySem.Spec PyProof.Rows
abbrev TO:=St->Hp->(Option Int->Hp->Prop)->Prop
def PO (X:Cx) (e:Option Expr) (t:TO):Prop :=
 ∀ (pins:List (Addr×Obj)) (s:Shared) (σ:St) (H:Hp) (Q:Option Int->Hp->Prop),Inv X pins σ H s->t σ H Q ->
  wpAny (model X.prog X.w) X.A (evalPart e X.env) (fun u s'=>∃ o H',Inv X pins σ H' s'/\IsPart u o/\Q o H') X.xe s
def Zo7:TO:=fun _ H Q=>Q none H
def Zru (t:TE):TO:=fun σ H Q=>t σ H fun x H1=>∃ i,x = .int i/\Q (some i) H1
theorem Zwj {ns:List Int}:∀ {us:List Value},Vals (ns.map V.int) us->IntsAre us ns:=by
 induction ns with
 | nil=>intro us r; rw [List.map_nil] at r; cases r; exact .nil
 | cons n ns ih =>
  intro us r
  rw [xQ] at r
  cases r with
  | cons r1 r2 =>
   obtain ⟨t,e⟩:=r1
   subst e
   exact .cons n t (ih r2)
section
variable {X:Cx}{e:Expr}{te:TE}{lo hi:Option Expr}{tl th:TO}{pos p2:Pos}
theorem Z0y:PO X none Zo7:=by
 intro pins s σ H Q I h
 rw [evalPart_none]
 exact wpAny_pure ⟨none,H,I,.none,h⟩
theorem Z0z (h:PE X e te):PO X (some e) (Zru te):=by
 intro pins s σ H Q I hw
 rw [evalPart_some]
 refine thn (h pins s σ H _ I hw) fun u s1 ⟨x,H1,I1,r1,q1⟩=>?_
 obtain ⟨i,rfl,q⟩:=q1
 obtain ⟨t,rfl⟩:=r1
 exact ⟨some i,H1,I1,.int i t,q⟩
def SlR (X:Cx) (r:V->Option Int->Option Int->Hp->VK->Prop):Prop :=
 ∀ (pins:List (Addr×Obj)) (s:Shared) (σ:St) (H:Hp) (x:V) (v vl vu:Value) (lo hi:Option Int) (sl:Addr) (Q:VK),Inv X pins σ H s->RelV x v->s.heap.IsSliceOf sl vl vu .none->IsPart vl lo->IsPart vu hi->r x lo hi H Q ->
  ∃ T id,typeLookup (.type T) "__getitem__" = pure (some (.builtin id))/\s.TypeIs v T/\wpAny (model X.prog X.w) X.A (getItem v (.ref sl)) (EP X pins σ Q) X.xe s
def tSl (r:V->Option Int->Option Int->Hp->VK->Prop) (te:TE) (tl th:TO):TE:=fun σ H Q=>te σ H fun x H1=>tl σ H1 fun l H2=>th σ H2 fun u H3=>r x l u H3 Q
theorem Zyw {r:V->Option Int->Option Int->Hp->VK->Prop}(hr:SlR X r) (he:PE X e te) (hl:PO X lo tl) (hu:PO X hi th):PE X (.Subscript e (.Slice lo hi none p2) pos) (tSl r te tl th):=by
 intro pins s σ H Q I h
 refine Subscript_ (thn (he pins s σ H _ I h) fun v s1 ⟨x,H1,I1,r1,q1⟩=>?_)
 refine wpAny_Slice (thn (hl pins s1 σ H1 _ I1 q1) fun vl s2 ⟨l,H2,I2,pl,q2⟩=>thn (hu pins s2 σ H2 _ I2 q2) fun vu s3 ⟨u,H3,I3,pu,q3⟩=>?_)
 rw [evalPart_none]
 refine wpAny_pure ?_
 have I4:Inv X pins σ H3 {s3 with heap:=s3.heap.push {cls:=.type "slice", data:=.fields #[vl,vu,.none] } }:=I3.kept (t':=s3.toks) fun b ob q=>xG _ q
 obtain ⟨T,id,hT,ht,hg⟩:=hr pins {s3 with heap:=s3.heap.push {cls:=.type "slice", data:=.fields #[vl,vu,.none] } } σ H3 x v vl vu l u s3.heap.objs.size Q I4 r1 (Heap.IsSliceOf.new ..) pl pu q3
 show wpAny (model X.prog X.w) X.A (subscriptTail e (.Slice lo hi none p2) v (.ref s3.heap.objs.size)) (EP X pins σ Q) X.xe {s3 with heap:=s3.heap.push {cls:=.type "slice", data:=.fields #[vl,vu,.none] } }
 exact tail_any (ops:=[.ref s3.heap.objs.size,v]) ht hT hg (by with_unfolding_all rfl)
def Vq (xs:List V) (lo hi:Option Int):List V:=(xs.drop (HT.sIx xs.length 0 lo)).take (HT.sIx xs.length xs.length hi - HT.sIx xs.length 0 lo)
theorem Zv4 (xs:List V) (lo hi:Option Int):(Vq xs lo hi).length<=xs.length:=by
 unfold Vq
 rw [xY,List.length_drop]
 lia
theorem Vals.nil_iff {xs:List V}{us:List Value}(r:Vals xs us):us = []↔xs = []:=by
 cases r with
 | nil=>simp
 | cons _ _=>simp
end
end L2
namespace L2
open PySem PySem.Spec PyProof.Rows
def ixN (n:Nat) (i:Int):Option Nat:=if 0<=i then (if i < n then some i.toNat else none) else if -(n:Int)<=i then some (i+n).toNat else none
def atI {α:Type}(xs:List α) (i:Int):Option α:=(ixN xs.length i).bind fun j=>xs[j]?
theorem Zo8 {n:Nat}{i:Int}{j:Nat}(h:ixN n i=some j):seqIndex? i n=some j/\j < n /\ -(n:Int)<=i/\i < n:=by
 unfold ixN at h
 by_cases h0 : 0<=i
 ·rw [if_pos h0] at h
  by_cases h1:i < n
  ·rw [if_pos h1] at h
   have e:i.toNat=j:=Option.some.inj h
   exact ⟨by rw [seqIndex_of h0 h1,e],by lia,by lia,h1⟩
  ·rw [if_neg h1] at h; cases h
 ·rw [if_neg h0] at h
  by_cases h1 : -(n:Int)<=i
  ·rw [if_pos h1] at h
   have e:(i+n).toNat=j:=Option.some.inj h
   exact ⟨by rw [seqIndex_neg (by lia) h1,e],by lia,h1,by lia⟩
  ·rw [if_neg h1] at h; cases h
theorem Zh5 {α:Type}{xs:List α}{i:Int}{v : α}(h:atI xs i=some v):∃ j,seqIndex? i xs.length=some j/\xs[j]? = some v/\j < xs.length /\ -(xs.length:Int)<=i/\i < xs.length:=by
 unfold atI at h
 cases e:ixN xs.length i with
 | none=>rw [e] at h; cases h
 | some j =>
  rw [e] at h
  obtain ⟨h1,h2,h3,h4⟩:=Zo8 e
  exact ⟨j,h1,h,h2,h3,h4⟩
theorem Yh {α:Type}{xs:List α}{j:Nat}{v : α}(h:xs[j]? = some v):atI xs (j:Int)=some v:=by
 have hj:j < xs.length:=(xC.mp h).1
 have e:ixN xs.length (j:Int)=some j:=by
  unfold ixN
  rw [if_pos (by lia),if_pos (by lia)]; simp
 unfold atI; rw [e]; exact h
def Zo9 (b:Expr):Prop:=∀ o i,subscripted b false o i=operate [o,i] (getItem o i)
def IxR (X:Cx) (r:R2):Prop :=
 ∀ (value slice:Expr) (pins:List (Addr×Obj)) (s:Shared) (σ:St) (H:Hp) (x y:V) (v u:Value) (Q:VK),Inv X pins σ H s->RelV x v->RelV y u->r x y H Q ->
  subscripted slice false v u=operate [v,u] (getItem v u)->wpAny (model X.prog X.w) X.A (subscriptTail value slice v u) (EP X pins σ Q) X.xe s
def MtR (X:Cx) (id:String) (r:V->List V->Hp->VK->Prop):Prop :=
 ∀ (pins:List (Addr×Obj)) (s:Shared) (σ:St) (H:Hp) (x:V) (xs:List V) (v:Value) (us:List Value) (Q:VK),Inv X pins σ H s->RelV x v->Vals xs us->r x xs H Q ->
  wpAny (model X.prog X.w) X.A (call (.builtin id) (v::us)) (EP X pins σ Q) X.xe s
section
variable {X:Cx}{a b:Expr}{ta tb:TE}{pos:Pos}
theorem Z36 {r:R2}(hr:IxR X r) (ha:PE X a ta) (hb:PE X b tb) (hs:Zo9 b):PE X (.Subscript a b pos) (tOp r ta tb):=by
 intro pins s σ H Q I h
 exact Subscript_ (Zk5 ha hb I h fun v u s2 x y H2 I2 rx ry q=>hr a b pins s2 σ H2 x y v u Q I2 rx ry q (hs _ _))
def Zk8 (K:uFg):R2:=fun x y H Q=>∃ p xs i v,x = .ref p/\y = .int i/\SqL K H p xs/\atI xs i=some v/\Q v H
def Zf0 (K:uFg):R2:=fun x y H Q=>∃ p xs i v,x = .ref p/\y = .int i/\SqT K H p xs/\atI xs i=some v/\Q v H
def Zuu:R2:=fun x y H Q=>∃ z i c,x = .str z/\y = .int i/\z.length<=sizeLine/\atI z.cps.toList i=some c/\Q (.str ⟨#[c]⟩) H
theorem Zpa:IxR X (Zk8 X.K):=by
 intro value slice pins s σ H x y v u Q I rx ry h hs
 obtain ⟨p,xs,i,z,rfl,rfl,hq,he,q⟩:=h
 cases rx
 obtain ⟨t,rfl⟩:=ry
 obtain ⟨its,r,pl,hz⟩:=I.list hq
 obtain ⟨j,h1,h2,h3,h4,h5⟩:=Zh5 he
 obtain ⟨w,ew,rw'⟩:=r.get h2
 have hl:=r.length
 have hn:=Za1
 have fin:EP X pins σ Q w s:=⟨z,H,I,rw',q⟩
 by_cases h0 : 0<=i
 ·have hj:i.toNat=j:=by
   rw [seqIndex_of h0 h5] at h1
   exact Option.some.inj h1
  exact item_listR pl.isList h0 (by lia) (by rw [hj]; simpa using ew) fin hs
 ·have hj:(i+(its.toArray.size:Int)).toNat=j:=by
   rw [seqIndex_neg (by lia) h4] at h1
   rw [xX,← hl]
   exact Option.some.inj h1
  exact subscriptTail_builtinR (x:=w) pl.isList.typeIs slot_list_getitem.lookup
   (wpAny_getItem_list_neg (Q:=fun r s'=>r=w/\EP X pins σ Q r s') pl.isList (by lia) (by rw [xX] <;> lia) (by lia) (by rw [hj]; simpa using ew) ⟨rfl,fin⟩) hs
theorem Zio:IxR X (Zf0 X.K):=by
 intro value slice pins s σ H x y v u Q I rx ry h hs
 obtain ⟨p,xs,i,z,rfl,rfl,hq,he,q⟩:=h
 cases rx
 obtain ⟨t,rfl⟩:=ry
 obtain ⟨its,r,pl,hz⟩:=I.tuple hq
 obtain ⟨j,h1,h2,h3,h4,h5⟩:=Zh5 he
 obtain ⟨w,ew,rw'⟩:=r.get h2
 have hl:=r.length
 have hn:=Za1
 have fin:EP X pins σ Q w s:=⟨z,H,I,rw',q⟩
 exact subscriptTail_builtinR (x:=w) pl.typeIs slot_tuple_getitem.lookup
  (getItem_tuple (j:=j) (Q:=fun r s'=>r=w/\EP X pins σ Q r s') pl (by lia) (by lia) (by rw [xX,← hl]; exact h1) (by simpa using ew) ⟨rfl,fin⟩) hs
theorem Z24:IxR X Zuu:=by
 intro value slice pins s σ H x y v u Q I rx ry h hs
 obtain ⟨z,i,c,rfl,rfl,hz,he,q⟩:=h
 obtain ⟨t,rfl⟩:=rx
 obtain ⟨t',rfl⟩:=ry
 obtain ⟨j,h1,h2,h3,h4,h5⟩:=Zh5 he
 have hl:z.cps.toList.length=z.length:=by simp [Str.length]
 rw [hl] at h1 h4 h5
 have hn:=Za1
 exact tail_any (typeIs_str s z t) slot_str_getitem.lookup (getItem_str (c:=c) (by
  have e1:decide (i < -(2 ^ 63:Int))=false:=xK (by lia)
  have e2:decide (i>=2 ^ 63)=false:=xK (by lia)
  rw [e1,e2,Bool.or_false]) (by rw [h1]; simpa using h2) ⟨.str ⟨#[c]⟩,H,I.tok _,⟨_,rfl⟩,q⟩) hs
theorem Zwk (its:List Value) (n j:Nat) (u:Value):Obj.mapSeq (·.setIfInBounds j u) {cls:=.type "list", data:=.seq its.toArray n }={cls:=.type "list", data:=.seq (its.set j u).toArray n }:=by
 simp [Obj.mapSeq]
theorem Inv.lst {pins:List (Addr×Obj)}{σ:St}{H:Hp}{s:Shared}{p:Addr}{xs:List V}(I:Inv X pins σ H s) (h:H p=some (.lst xs)) :
  ∃ (its:List Value) (n:Nat),Vals xs its/\s.heap.get? p=some {cls:=.type "list", data:=.seq its.toArray n }/\xs.length<=sizeLine:=by
 obtain ⟨z,its,n,r,e⟩:=I.hok p _ h
 exact ⟨its,n,r,e,z⟩
theorem Inv.lstUpd {pins:List (Addr×Obj)}{σ:St}{H:Hp}{s:Shared}{p:Addr}{xs ys:List V}{its its':List Value}{n n':Nat}{f:Obj->Obj}(I:Inv X pins σ H s) (h:H p=some (.lst xs))
  (ho:s.heap.get? p=some {cls:=.type "list", data:=.seq its.toArray n }) (hf:f {cls:=.type "list", data:=.seq its.toArray n }={cls:=.type "list", data:=.seq its'.toArray n' }) (r:Vals ys its') (hz:ys.length<=sizeLine) (t:Nat) :
  Inv X pins σ (upd H p (.lst ys)) {s with heap:=s.heap.update p f,toks:=t }:=by
 have e:(s.heap.update p f).get? p=some {cls:=.type "list", data:=.seq its'.toArray n' }:=by
  rw [Heap.get?_update_self f ho (by rw [hf] <;> rfl),hf]
 refine I.write (x:=p) (e:=p) (by rw [h]; trivial) (.inl rfl) (fun b u hb q=>(Heap.get?_update_other _ _ (Ne.symm hb)).trans q) ⟨_,e⟩ ?_
 exact ⟨hz,its',n',r,e⟩
def Zrv:V->V->V->Hp->(Hp->Prop)->Prop:=fun o i v H Q=>∃ p xs k j,o = .ref p/\i = .int k/\H p=some (.lst xs)/\ixN xs.length k=some j/\Q (upd H p (.lst (xs.set j v)))
theorem Zyx:Zk3 X Zrv:=by
 intro pins s σ H o i v ov iv u Q I ro ri rv h
 obtain ⟨p,xs,k,j,rfl,rfl,hp,hj,q⟩:=h
 cases ro
 obtain ⟨t,rfl⟩:=ri
 obtain ⟨its,n,r,ho,hz⟩:=I.lst hp
 obtain ⟨h1,h2,h3,h4⟩:=Zo8 hj
 have hl:=r.length
 have hn:=Za1
 have I':Inv X pins σ (upd H p (.lst (xs.set j v))) {s with heap:=s.heap.update p (Obj.mapSeq (·.setIfInBounds j u)) } :=
  I.lstUpd hp ho (Zwk its n j u) (r.set rv j) (by rw [List.length_set]; exact hz) s.toks
 by_cases h0 : 0<=k
 ·have hk:k.toNat=j:=by
   rw [seqIndex_of h0 h4] at h1
   exact Option.some.inj h1
  exact PySem.W.ki_setAt ho h0 (by lia) (by rw [xX,← hl]; exact h4) (by rw [hk]; exact ⟨_,I',q⟩)
 ·have hk:(k+(its.toArray.size:Int)).toNat=j:=by
   rw [seqIndex_neg (by lia) h3] at h1
   rw [xX,← hl]
   exact Option.some.inj h1
  exact PySem.W.ki_setBack ho (by lia) (by rw [xX,← hl]; exact h3) (by lia) (by rw [hk]; exact ⟨_,I',q⟩)
theorem Zvn (lo hi:Option Int) (n:Nat):(sliceBounds lo hi none n).1=((HT.sIx n 0 lo:Nat):Int)/\(sliceBounds lo hi none n).2.1=((HT.sIx n n hi:Nat):Int)/\(sliceBounds lo hi none n).2.2=1:=by
 refine ⟨?_,?_,rfl⟩
 ·cases lo with
  | none=>simp [sliceBounds,HT.sIx]
  | some i =>
   simp only [sliceBounds,HT.sIx,Option.getD_none,show (1:Int) > 0 by decide,if_true]
   by_cases h:i < 0
   ·simp only [h,if_true] <;> lia
   ·simp only [h,if_false] <;> lia
 ·cases hi with
  | none=>simp [sliceBounds,HT.sIx]
  | some i =>
   simp only [sliceBounds,HT.sIx,Option.getD_none,show (1:Int) > 0 by decide,if_true]
   by_cases h:i < 0
   ·simp only [h,if_true] <;> lia
   ·simp only [h,if_false] <;> lia
theorem Zvh (its:List Value) (lo hi:Option Int):slicePick its.toArray lo hi none=((its.drop (HT.sIx its.length 0 lo)).take (HT.sIx its.length its.length hi - HT.sIx its.length 0 lo)).toArray:=by
 obtain ⟨h1,h2,h3⟩:=Zvn lo hi its.toArray.size
 unfold slicePick
 rw [h1,h2,h3]
 simp only [sliceRange_one,pick_run,xX] <;> rfl
def Zuv (K:uFg):V->Option Int->Option Int->Hp->VK->Prop:=fun x lo hi H Q=>∃ a xs,x = .ref a/\SqL K H a xs/\∀ p,H p=none->Q (.ref p) (upd H p (.lst (Vq xs lo hi)))
theorem Z00:SlR X (Zuv X.K):=by
 intro pins s σ H x v vl vu lo hi sl Q I rx hs pl pu h
 obtain ⟨a,xs,rfl,hx,q⟩:=h
 cases rx
 obtain ⟨its,r,ht,hz⟩:=I.list hx
 have hlen:=r.length
 refine ⟨"list", _,slot_list_getitem.lookup,ht.isList.typeIs,?_⟩
 refine wpAny_getItem_list_slice ht.isList hs pl pu .none (by simp) ?_ (by rw [xX] <;> lia)
 rw [Zvh,← hlen]
 refine ⟨.ref s.heap.objs.size,_,I.laid (t':=s.toks) (o:=.lst (Vq xs lo hi)) (fun b ob q=>xG _ q) (xE _) ?_,rfl,q _ (I.hok.fresh (xE _))⟩
 exact ⟨yA (Zv4 xs lo hi) hz,_,0,(r.drop (HT.sIx xs.length 0 lo)).take (HT.sIx xs.length xs.length hi - HT.sIx xs.length 0 lo),yC _ rfl⟩
def V4:V->Bool
 | .non=>true
 | .bl _=>true
 | .int _=>true
 | .str _=>true
 | _=>false
def eqV:V->V->Bool
 | .non,.non=>true
 | .bl a,.bl b=>a == b
 | .bl a,.int b=>(if a then 1 else 0) == b
 | .int a,.bl b=>a == (if b then 1 else 0)
 | .int a,.int b=>a == b
 | .str a,.str b=>a == b
 | _,_=>false
theorem Z25 {A:Around}{s:Shared}{y x:V}{u v:Value}(ry:RelV y u) (rx:RelV x v) (fy:V4 y=true) (fx:V4 x=true):SeqAt.EqAt A s u v (eqV y x):=by
 cases y with
 | non =>
  cases ry
  cases x with
  | non=>cases rx; exact SeqAt.EqAt.same _
  | bl b=>cases rx; exact SeqAt.EqAt.none_bool b
  | int b=>obtain ⟨t,rfl⟩:=rx; exact SeqAt.EqAt.none_int b t
  | str b=>obtain ⟨t,rfl⟩:=rx; exact SeqAt.EqAt.none_str b t
  | _=>exact absurd (show false=true from fx) xJ
 | bl a =>
  cases ry
  cases x with
  | non=>cases rx; exact SeqAt.EqAt.bool_none a
  | bl b=>cases rx; exact SeqAt.EqAt.bool_bool a b
  | int b=>obtain ⟨t,rfl⟩:=rx; exact SeqAt.EqAt.bool_int a b t
  | str b=>obtain ⟨t,rfl⟩:=rx; exact SeqAt.EqAt.bool_str a b t
  | _=>exact absurd (show false=true from fx) xJ
 | int a =>
  obtain ⟨t',rfl⟩:=ry
  cases x with
  | non=>cases rx; exact SeqAt.EqAt.int_none a t'
  | bl b=>cases rx; exact SeqAt.EqAt.int_bool a t' b
  | int b=>obtain ⟨t,rfl⟩:=rx; exact SeqAt.EqAt.int_int a t' b t
  | str b=>obtain ⟨t,rfl⟩:=rx; exact SeqAt.EqAt.int_str a t' b t
  | _=>exact absurd (show false=true from fx) xJ
 | str a =>
  obtain ⟨t',rfl⟩:=ry
  cases x with
  | non=>cases rx; exact SeqAt.EqAt.str_none a t'
  | bl b=>cases rx; exact SeqAt.EqAt.str_bool a t' b
  | int b=>obtain ⟨t,rfl⟩:=rx; exact SeqAt.EqAt.str_int a t' b t
  | str b=>obtain ⟨t,rfl⟩:=rx; exact SeqAt.EqAt.str_str a t' b t
  | _=>exact absurd (show false=true from fx) xJ
 | _=>exact absurd (show false=true from fy) xJ
def eqU (x:V) (u:Value):Bool:=match u with
 | .none=>eqV .non x
 | .bool b=>eqV (.bl b) x
 | .int i _=>eqV (.int i) x
 | .str z _=>eqV (.str z) x
 | _=>false
theorem Zqd {x y:V}{u:Value}(r:RelV y u) (f:V4 y=true):eqU x u=eqV y x:=by
 cases y with
 | non=>cases r; rfl
 | bl b=>cases r; rfl
 | int i=>obtain ⟨t,rfl⟩:=r; rfl
 | str z=>obtain ⟨t,rfl⟩:=r; rfl
 | _=>exact absurd (show false=true from f) xJ
theorem Zc7 {x:V}:∀ {xs:List V}{us:List Value},Vals xs us->xs.all V4=true->us.any (eqU x)=xs.any fun y=>eqV y x
 | _,_,.nil,_=>rfl
 | y::xs,u::us,.cons r t,f=>by
  rw [List.all_cons,yI] at f
  rw [List.any_cons,List.any_cons,Zqd r f.1,Zc7 t f.2]
theorem Zc0 {A:Around}{s:Shared}{x:V}{v:Value}(rx:RelV x v) (fx:V4 x=true):∀ {xs:List V}{us:List Value},Vals xs us->xs.all V4=true->∀ u∈us,SeqAt.EqAt A s u v (eqU x u)
 | _,_,.nil,_=>fun u hu=>by cases hu
 | y::xs,u::us,.cons r t,f=>fun u' hu=>by
  rw [List.all_cons,yI] at f
  rcases xW.mp hu with rfl | hu
  ·rw [Zqd r f.1]; exact Z25 r rx f.1 fx
  ·exact Zc0 rx fx t f.2 u' hu
def inV (x:V) (xs:List V):Bool:=xs.any fun y=>eqV y x
def rIn (K:uFg) (neg:Bool):R2:=fun x y H Q=>∃ p xs,y = .ref p/\(SqL K H p xs\/SqT K H p xs)/\V4 x=true/\xs.all V4=true/\Q (.bl (if neg then !inV x xs else inV x xs)) H
theorem Zm8:OpR X (compareOp .In) (rIn X.K false):=by
 intro pins s σ H x y v u Q I rx ry h
 obtain ⟨p,xs,rfl,hq,fx,fs,q⟩:=h
 cases ry
 rcases hq with hq | hq
 ·obtain ⟨its,r,pl,hz⟩:=I.list hq
  refine SeqAt.in_listAt (eqU x) pl.isList (fun w hw=>Zc0 rx fx r fs w (by simpa using hw)) ⟨.bl _,H,I,rfl,?_⟩
  rw [show its.toArray.any (eqU x)=its.any (eqU x) by simp,Zc7 r fs]
  exact q
 ·obtain ⟨its,r,pl,hz⟩:=I.tuple hq
  refine SeqAt.in_tupleAt (eqU x) pl (fun w hw=>Zc0 rx fx r fs w (by simpa using hw)) ⟨.bl _,H,I,rfl,?_⟩
  rw [show its.toArray.any (eqU x)=its.any (eqU x) by simp,Zc7 r fs]
  exact q
theorem Zvo:OpR X (compareOp .NotIn) (rIn X.K true):=by
 intro pins s σ H x y v u Q I rx ry h
 obtain ⟨p,xs,rfl,hq,fx,fs,q⟩:=h
 cases ry
 rcases hq with hq | hq
 ·obtain ⟨its,r,pl,hz⟩:=I.list hq
  refine SeqAt.notIn_listAt (eqU x) pl.isList (fun w hw=>Zc0 rx fx r fs w (by simpa using hw)) ⟨.bl _,H,I,rfl,?_⟩
  rw [show its.toArray.any (eqU x)=its.any (eqU x) by simp,Zc7 r fs]
  exact q
 ·obtain ⟨its,r,pl,hz⟩:=I.tuple hq
  refine SeqAt.notIn_tupleAt (eqU x) pl (fun w hw=>Zc0 rx fx r fs w (by simpa using hw)) ⟨.bl _,H,I,rfl,?_⟩
  rw [show its.toArray.any (eqU x)=its.any (eqU x) by simp,Zc7 r fs]
  exact q
theorem Zmg:Wv X (.builtin "len") (fun xs H Q=>∃ p ys,xs = [.ref p]/\(SqL X.K H p ys\/SqT X.K H p ys)/\Q (.int ys.length) H):=by
 intro pins s σ H xs us Q I r h
 obtain ⟨p,ys,rfl,hq,q⟩:=h
 obtain ⟨u,rfl,rx⟩:=V3 r
 cases rx
 have hn:=Za1
 rcases hq with hq | hq
 ·obtain ⟨its,r',pl,hz⟩:=I.list hq
  have hlen:=r'.length
  exact Calls.call_len_list pl.isList (by simp only [xX] <;> lia) ⟨.int ys.length,H,I.tok _,⟨s.toks+1,by rw [xX,hlen]⟩,q⟩
 ·obtain ⟨its,r',pl,hz⟩:=I.tuple hq
  have hlen:=r'.length
  exact len_tuple pl (by simp only [xX] <;> lia) ⟨.int ys.length,H,I.tok _,⟨s.toks+1,by rw [xX,hlen]⟩,q⟩
theorem Zvp:Wv X (.builtin "len") (fun xs H Q=>∃ z,xs = [.str z]/\z.length<=sizeLine/\Q (.int z.length) H):=by
 intro pins s σ H xs us Q I r h
 obtain ⟨z,rfl,hz,q⟩:=h
 obtain ⟨u,rfl,t,rfl⟩:=V3 r
 have hn:=Za1
 exact len_str (by lia) ⟨.int z.length,H,I.tok _,⟨_,rfl⟩,q⟩
theorem Zvq:Wv X (.type "list") (fun xs H Q=>∃ p ys,xs = [.ref p]/\(SqL X.K H p ys\/SqT X.K H p ys)/\∀ l,H l=none->Q (.ref l) (upd H l (.lst ys))):=by
 intro pins s σ H xs us Q I r h
 obtain ⟨p,ys,rfl,hq,q⟩:=h
 obtain ⟨u,rfl,rx⟩:=V3 r
 cases rx
 have fin:∀ (its:List Value),Vals ys its->ys.length<=sizeLine->∀ (h':Heap) (c':Nat),(∀ b o',s.heap.get? b=some o'->h'.get? b=some o') ->
   h'.get? s.heap.objs.size=some {cls:=.type "list", dict:=none,data:=.seq its.toArray c',slots:=#[] }->EP X pins σ Q (.ref s.heap.objs.size) {s with heap:=h' }:=fun its r' hz h' c' kp e =>
  ⟨.ref s.heap.objs.size,_,I.laid (t':=s.toks) kp (xE _) (show ObjOk X.prog X.w _ h' _ (.lst ys) from ⟨hz,its,c',r',e⟩),rfl,q _ (I.hok.fresh (xE _))⟩
 rcases hq with hq | hq
 ·obtain ⟨its,r',pl,hz⟩:=I.list hq
  have hlen:=r'.length
  obtain ⟨o,ho,hc,n,hd⟩:=pl.isList
  exact call_list_seq p (.inl rfl) ho hc hd (fun h' c' kp e=>fin its r' hz h' c' kp e) (by simp only [xX] <;> lia)
 ·obtain ⟨its,r',pl,hz⟩:=I.tuple hq
  have hlen:=r'.length
  obtain ⟨o,ho,hc,n,hd⟩:=pl
  exact call_list_seq p (.inr rfl) ho hc hd (fun h' c' kp e=>fin its r' hz h' c' kp e) (by simp only [xX] <;> lia)
def tyV (K:uFg) (T:String) (x:V) (H:Hp):Prop:=match x with
 | .str _=>T = "str"
 | .int _=>T = "int"
 | .ref p=>(T = "list" /\ ∃ xs,SqL K H p xs)\/(T = "tuple" /\ ∃ o,K.lookup p=some o/\o.cls = .type "tuple" /\ o.dict=none) \/
   (T = "dict" /\ ((∃ kvs,H p=some (.dK kvs))\/∃ kvs,H p=some (.dT kvs)))\/(T = "set" /\ ∃ S n,H p=some (.set S n))
 | _=>False
theorem Z26 {pins:List (Addr×Obj)}{σ:St}{H:Hp}{s:Shared}{T:String}{x:V}{v:Value}(I:Inv X pins σ H s) (r:RelV x v) (ty:tyV X.K T x H) :
  s.TypeIs v T/\∀ a,v = .ref a->∃ ob,s.heap.get? a=some ob/\ob.dict=none:=by
 cases x with
 | str z =>
  obtain ⟨t,rfl⟩:=r
  cases (show T = "str" from ty)
  exact ⟨typeIs_str s z t,fun _ e=>nomatch e⟩
 | int i =>
  obtain ⟨t,rfl⟩:=r
  cases (show T = "int" from ty)
  exact ⟨typeIs_int s i t,fun _ e=>nomatch e⟩
 | ref p =>
  cases r
  rcases ty with ⟨rfl,xs,hq⟩ | ⟨rfl,o,hk,hc,hd⟩ | ⟨rfl,hk⟩ | ⟨rfl,S,n,hk⟩
  ·obtain ⟨its,_,pl,_⟩:=I.list hq
   refine ⟨pl.isList.typeIs,fun a e=>?_⟩
   cases e
   obtain ⟨o,n,e,c,hd,_⟩:=pl
   exact ⟨o,e,hd⟩
  ·refine ⟨⟨o,I.kIn p o hk,hc⟩,fun a e=>?_⟩
   cases e
   exact ⟨o,I.kIn _ o hk,hd⟩
  ·have z:∃ o,s.heap.get? p=some o/\o.ExactDict:=by
    rcases hk with ⟨kvs,hk⟩ | ⟨kvs,hk⟩
    ·obtain ⟨_,_,_,_,o,_,_,e,ex,_⟩:=I.hok p _ hk
     exact ⟨o,e,ex⟩
    ·obtain ⟨_,_,_,_,o,_,_,e,ex,_⟩:=I.hok p _ hk
     exact ⟨o,e,ex⟩
   obtain ⟨o,e,ex⟩:=z
   refine ⟨⟨o,e,ex.1⟩,fun a e2=>?_⟩
   cases e2
   exact ⟨o,e,ex.2.1⟩
  ·obtain ⟨o,_,_,_,e,ex,_⟩:=I.hok p _ hk
   refine ⟨⟨o,e,ex.1⟩,fun a e2=>?_⟩
   cases e2
   exact ⟨o,e,ex.2.1⟩
 | _=>exact False.elim ty
def tBM (K:uFg) (T:String) (r:V->List V->Hp->VK->Prop) (to:TE) (t:TA):TE:=fun σ H Q=>to σ H fun x H1=>tyV K T x H1/\t σ H1 fun xs H2=>r x xs H2 Q
variable {o e:Expr}{es:List Expr}{to:TE}{t:TA}{name:Str}{apos cpos:Pos}{T id:String}{r:V->List V->Hp->VK->Prop}
theorem Z37 (pa:PlainAttrs T) (slot:Slot T name id) (hty:typeOf (.builtin id)=pure (.type "method_descriptor")) (hm:MtR X id r) (ho:PE X o to) (ha:PA X (e::es) t)
  (hbase:attributeBase o name X.env (eval o X.env)=eval o X.env:=by rfl)
  (hfew:((backTo cpos (starEach (e::es) X.env)).all (fun x=>!x.1) && (backToKw cpos (keywordEach [] X.env)).all (fun x=>x.1.isSome)
   && decide ((e::es).length+([]:List Keyword).length+(if ([]:List Keyword).isEmpty then 0 else 1) < 30))=true:=by rfl)
  (hline:(apos.endLine == cpos.line)=true:=by rfl) (hs:starEach (e::es) X.env=(false,eval e X.env)::starEach es X.env:=by rfl) (hplain:(backTo cpos (starEach es X.env)).any (·.1)=false:=by rfl) :
  PE X (.Call (.Attribute o name apos) (e::es) [] cpos) (tBM X.K T r to t):=by
 intro pins s σ H Q I h
 refine wpAny_Call_method_late hbase hfew hline rfl (thn (ho pins s σ H _ I h) fun v s1 ⟨x,H1,I1,r1,ty,q1⟩=>?_)
 obtain ⟨h1,h2⟩:=Z26 I1 r1 ty
 refine ⟨T,id,pa,slot,hty,h1,h2,?_⟩
 have hA:=ha cpos pins s1 σ H1 _ I1 q1
 rw [hs] at hA ⊢
 refine Calls.callWith_builtin (by show (false || (backTo cpos (starEach es X.env)).any (·.1))=false; rw [hplain] <;> rfl) (Calls.evalArgs_plain ?_)
 exact thn hA fun us s2 ⟨vs,H2,I2,r2,q2⟩=>hm pins s2 σ H2 x vs v us Q I2 r1 r2 q2
/- xs.append(e),list.index on a module's tuple .. are MtR facts of 06m -/
end
end L2
namespace L2
open PySem PySem.Spec PyProof.Rows
def MtM (X:Cx) (id:String) (r:V->List V->Hp->VK->Prop):Prop :=
 ∀ (pins:List (Addr×Obj)) (s:Shared) (σ:St) (H:Hp) (x:V) (xs:List V) (v:Value) (us:List Value) (Q:VK),Inv X pins σ H s->RelV x v->Vals xs us->r x xs H Q ->
  wpAny (model X.prog X.w) X.A (call (.builtin id) (v::us)) (EP X pins σ Q) X.xe s
theorem Vals.one:∀ {x:V}{us:List Value},Vals [x] us->∃ u,us = [u]/\RelV x u
 | _,_,.cons r .nil=>⟨_,rfl,r⟩
theorem Vals.eraseIdx:∀ {xs:List V}{us:List Value}(i:Nat),Vals xs us->Vals (xs.eraseIdx i) (us.eraseIdx i)
 | _,_,_,.nil=>.nil
 | _,_,0,.cons _ t=>t
 | _,_,i+1,.cons r t=>.cons r (Vals.eraseIdx i t)
theorem Vals.rep {xs:List V}{us:List Value}(h:Vals xs us):∀ k:Nat,Vals (List.replicate k xs).flatten (List.replicate k us).flatten
 | 0=>.nil
 | k+1=>by
  rw [zB,zB,List.flatten_cons,List.flatten_cons]
  exact Vals.append h (Vals.rep h k)
theorem Zm9 {α:Type}:∀ (l:List α) (i:Nat),(l.eraseIdx i).length<=l.length
 | [],_=>xE _
 | _::_,0=>Nat.le_succ _
 | _::r,i+1=>Nat.succ_le_succ (Zm9 r i)
theorem Zna (its:List Value):∀ (k:Nat) (acc:List Value),
  List.foldl (fun x1 x2=>x1++x2) acc.toArray (List.replicate k its.toArray)=(acc++(List.replicate k its).flatten).toArray
 | 0,acc=>by simp
 | k+1,acc=>by
  have e:acc.toArray++its.toArray=(acc++its).toArray:=by simp
  have e2:(acc++its)++(List.replicate k its).flatten=acc++(List.replicate (k+1) its).flatten:=by
   rw [zB,List.flatten_cons,List.append_assoc]
  rw [← e2,← Zna its k (acc++its),← e,zB,List.foldl_cons]
section
variable {X:Cx}{pins:List (Addr×Obj)}{σ:St}{H:Hp}{s:Shared}{l b:Addr}{xs ys zs:List V}
theorem Inv.lset {its its':List Value}{n:Nat}{f:Array Value->Array Value}{t':Nat}(I:Inv X pins σ H s) (hH:H l=some (.lst xs))
  (e:s.heap.get? l=some {cls:=.type "list", data:=.seq its.toArray n }) (hf:f its.toArray=its'.toArray) (hv:Vals ys its') (hz:ys.length<=sizeLine) :
  Inv X pins σ (upd H l (.lst ys)) {s with heap:=s.heap.update l (Obj.mapSeq f),toks:=t' }:=by
 have q:=PySem.IsL.update e f
 rw [hf] at q
 refine I.write (x:=l) (e:=l) (by rw [hH]; exact trivial) (.inl rfl) (fun b' u hb hu=>(Heap.get?_update_other s.heap (Obj.mapSeq f) (Ne.symm hb)).trans hu) ⟨_,q⟩ ?_
 exact ⟨hz,its',_,hv,q⟩
theorem Inv.lnew {its:List Value}{t':Nat}(I:Inv X pins σ H s) (hv:Vals ys its) (hz:ys.length<=sizeLine) :
  Inv X pins σ (upd H s.heap.objs.size (.lst ys)) {s with heap:=s.heap.push {cls:=.type "list", data:=.seq its.toArray },toks:=t' } :=
 I.laid (fun _ _ q=>xG _ q) (xE _) ⟨hz,its,0,hv,yC _ rfl⟩
theorem Inv.fresh (I:Inv X pins σ H s):H s.heap.objs.size=none:=I.hok.fresh (xE _)
theorem Inv.lstM (I:Inv X pins σ H s) (hH:H l=some (.lst xs)):xs.length<=sizeLine/\∃ (its:List Value) (n:Nat),Vals xs its/\xs.length=its.length/\s.heap.get? l=some {cls:=.type "list", data:=.seq its.toArray n }:=by
 obtain ⟨z,its,n,r,e⟩:=I.hok l _ hH
 exact ⟨z,its,n,r,r.length,e⟩
theorem Znz {n:Nat}(h:n<=sizeLine):Builtin.List.listTooLong n=false:=by
 unfold Builtin.List.listTooLong
 exact xK (by lia)
end
section
variable {X:Cx}
def Zeo:V->List V->Hp->VK->Prop:=fun x vs H Q=>∃ l xs y,x = .ref l/\vs = [y]/\H l=some (.lst xs)/\xs.length < sizeLine/\Q .non (upd H l (.lst (xs ++ [y])))
theorem Zxj:MtM X "list.append" Zeo:=by
 intro pins s σ H x vs v us Q I rx rv h
 obtain ⟨l,xs,y,rfl,rfl,hH,hz,q⟩:=h
 cases rx
 obtain ⟨u,rfl,ru⟩:=rv.one
 obtain ⟨z,its,n,r,hl,e⟩:=I.lstM hH
 refine call_meets F.slot_list_append ⟨_,e,rfl⟩ F.entry_list_append (F.args_list_append_2 _ _) (PySem.list_append l its.toArray n u (by rw [xX]; lia)) ⟨e,?_⟩
 refine ⟨.non,_,I.lset (its':=its ++ [u]) hH e (by simp) (r.append (.cons ru .nil)) ?_,rfl,q⟩
 rw [xL,List.length_singleton]
 lia
def Zpb:V->List V->Hp->VK->Prop:=fun x vs H Q=>∃ l b xs zs,x = .ref l/\vs = [.ref b]/\H l=some (.lst xs)/\H b=some (.lst zs)/\xs.length+zs.length<=sizeLine/\Q .non (upd H l (.lst (xs++zs)))
theorem Zxk:MtM X "list.extend" Zpb:=by
 intro pins s σ H x vs v us Q I rx rv h
 obtain ⟨l,b,xs,zs,rfl,rfl,hH,hB,hz,q⟩:=h
 cases rx
 obtain ⟨u,rfl,ru⟩:=rv.one
 cases ru
 obtain ⟨z,its,n,r,hl,e⟩:=I.lstM hH
 obtain ⟨z2,its2,n2,r2,hl2,e2⟩:=I.lstM hB
 have hsz:its.toArray.size+its2.toArray.size<=sizeLine:=by rw [xX,xX]; lia
 have hlong:¬ (!its.toArray.isEmpty && Builtin.List.listTooLong (its.toArray.size+its2.toArray.size))=true:=by
  rw [Znz hsz,Bool.and_false]
  exact xJ
 refine call_meets F.slot_list_extend ⟨_,e,rfl⟩ F.entry_list_extend (F.args_list_extend_2 _ _)
  (AutoSeq1.list_extend_list_list_0 l its.toArray n b its2.toArray n2 hlong (by rw [xX]; lia) (by lia)) ⟨e,e2,?_⟩
 refine ⟨.non,_,I.lset (its':=its++its2) hH e (by simp) (r.append r2) ?_,rfl,q⟩
 rw [xL]
 lia
def Zqe:V->List V->Hp->VK->Prop:=fun x vs H Q=>∃ l xs i k y,x = .ref l/\vs = [.int i]/\H l=some (.lst xs) /\ -(2 ^ 63)<=i/\i < 2 ^ 63/\seqIndex? i xs.length=some k/\xs[k]? = some y/\Q y (upd H l (.lst (xs.eraseIdx k)))
theorem Zyy:MtM X "list.pop" Zqe:=by
 intro pins s σ H x vs v us Q I rx rv h
 obtain ⟨l,xs,i,k,y,rfl,rfl,hH,h1,h2,hk,hy,q⟩:=h
 cases rx
 obtain ⟨u,rfl,ru⟩:=rv.one
 obtain ⟨t,rfl⟩:=ru
 obtain ⟨z,its,n,r,hl,e⟩:=I.lstM hH
 obtain ⟨w,hw,rw'⟩:=r.get hy
 refine call_meets F.slot_list_pop ⟨_,e,rfl⟩ F.entry_list_pop (F.args_list_pop_2 _ _)
  (MeetsSeq.list_pop_at l its.toArray n i t k w (fitsIndex_both h1 h2) (by rw [xX,← hl]; exact hk) (by rw [← Array.getElem?_toList]; exact hw) (by rw [xX]; lia)) ⟨e,?_⟩
 refine ⟨y,_,I.lset (its':=its.eraseIdx k) hH e ?_ (r.eraseIdx k) ?_,rw',q⟩
 ·show its.toArray.eraseIdxIfInBounds k=(its.eraseIdx k).toArray
  rw [List.eraseIdxIfInBounds_toArray]
 ·have:=Zm9 xs k
  lia
def Zuw:R2:=fun x y H Q=>∃ l b xs zs,x = .ref l/\y = .ref b/\H l=some (.lst xs)/\H b=some (.lst zs)/\xs.length+zs.length<=sizeLine/\∀ p,H p=none->Q (.ref p) (upd H p (.lst (xs++zs)))
theorem Z27:OpR X (binaryOp .Add) Zuw:=by
 intro pins s σ H x y v u Q I rx ry h
 obtain ⟨l,b,xs,zs,rfl,rfl,hH,hB,hz,q⟩:=h
 cases rx
 cases ry
 obtain ⟨z,its,n,r,hl,e⟩:=I.lstM hH
 obtain ⟨z2,its2,n2,r2,hl2,e2⟩:=I.lstM hB
 refine PySem.P.add_list e e2 ?_ (by rw [xX,xX]; lia)
 have ea:its.toArray++its2.toArray=(its++its2).toArray:=by simp
 rw [ea]
 exact ⟨.ref _,_,I.lnew (t':=s.toks) (r.append r2) (by rw [xL]; lia),rfl,q _ I.fresh⟩
def Zux:R2:=fun x y H Q=>∃ l k xs,x = .ref l/\y = .int k/\H l=some (.lst xs) /\ -(2 ^ 63)<=k/\k < 2 ^ 63/\xs.length * k.toNat<=sizeLine /\
 ∀ p,H p=none->Q (.ref p) (upd H p (.lst (List.replicate k.toNat xs).flatten))
theorem Z01 {α:Type}(xs:List α) (k:Nat):(List.replicate k xs).flatten.length=k * xs.length:=by
 induction k with
 | zero=>simp
 | succ k ih=>rw [zB,List.flatten_cons,xL,ih,Nat.succ_mul,Nat.add_comm]
theorem Z28:OpR X (binaryOp .Mult) Zux:=by
 intro pins s σ H x y v u Q I rx ry h
 obtain ⟨l,k,xs,rfl,rfl,hH,h1,h2,hz,q⟩:=h
 cases rx
 obtain ⟨t,rfl⟩:=ry
 obtain ⟨z,its,n,r,hl,e⟩:=I.lstM hH
 have hlen:its.toArray.size * k.toNat<=sizeLine:=by rw [xX,← hl]; exact hz
 have hcap:¬ its.toArray.size * k.toNat > (2 ^ 63 - 1) / 8:=by
  have:(sizeLine:Nat)<=(2 ^ 63 - 1) / 8:=by decide
  lia
 have hfit:¬ (!Builtin.List.listFitsIndex k)=true:=by
  rw [fitsIndex_both h1 h2]
  exact xJ
 have hlong:¬ Builtin.List.listTooLong (its.toArray.size * k.toNat)=true:=by
  rw [Znz hlen]
  exact xJ
 have hnew:List.foldl (fun x1 x2=>x1++x2) #[] (List.replicate (if its.toArray.isEmpty=true then 0 else k.toNat) its.toArray)=(List.replicate k.toNat its).flatten.toArray:=by
  have f0:∀ m:Nat,List.foldl (fun x1 x2=>x1++x2) #[] (List.replicate m its.toArray)=(List.replicate m its).flatten.toArray:=fun m=>by
   have:=Zna its m []
   rw [List.nil_append] at this
   exact this
  rw [f0]
  cases its with
  | nil=>simp
  | cons a r'=>rw [if_neg (by simp)]
 refine wpAny_binaryOp_repeat_ref (T := "list") (U := "int") (by decide) ⟨_,e,rfl⟩ (fun s'=>typeIs_int s' k t) noFill_list_mul F.fills_int_mul F.slot_int_rmul repeat_list F.slot_int_index.lookup
  (call_meets F.slot_int_rmul (typeIs_int s k t) F.entry_int_rmul (F.args_int_rmul_2 _ _) (int___rmul___int_list k t l its.toArray n)
   ⟨e,rfl,⟨_,e,rfl⟩,call_meets F.slot_list_mul ⟨_,e,rfl⟩ F.entry_list_mul (F.args_list_mul_2 _ _) (AutoListH.list___mul___list_int_3 l its.toArray n k t hfit hcap hlong) ⟨e,?_⟩⟩)
 rw [hnew]
 exact ⟨.ref _,_,I.lnew (t':=s.toks) (r.rep k.toNat) (by rw [Z01,Nat.mul_comm]; exact hz),rfl,q _ I.fresh⟩
end
section
variable {prog:Program}{w:World}{A:Around}{E:Value->Shared->Prop}{s:Shared}
set_option maxRecDepth 100000 in
end
section
variable {X:Cx}
end
end L2
namespace L2
open PySem PySem.Spec PyProof.Rows
section
variable {κ:Type} [DecidableEq κ]
def Zm (kvs:List (κ×V)) (k : κ):Option V:=(kvs.find? fun kv=>decide (kv.1=k)).map (·.2)
def Yi (kvs:List (κ×V)) (k : κ) (v:V):List (κ×V) :=
 if (kvs.any fun kv=>decide (kv.1=k))=true then kvs.map (fun kv=>if kv.1=k then (kv.1,v) else kv) else kvs ++ [(k,v)]
theorem Vt {p : κ×V}{r:List (κ×V)}{k : κ}(e:p.1=k):Zm (p::r) k=some p.2:=by simp [Zm,List.find?_cons,e]
theorem Vu {p : κ×V}{r:List (κ×V)}{k : κ}(e:¬ p.1=k):Zm (p::r) k=Zm r k:=by simp [Zm,List.find?_cons,e]
theorem Zc1 (k : κ):∀ kvs:List (κ×V),(kvs.any fun kv=>decide (kv.1=k))=(Zm kvs k).isSome
 | []=>rfl
 | p::r=>by
  rw [List.any_cons]
  by_cases e:p.1=k
  ·simp only [Vt e,xH e,Bool.true_or,Option.isSome_some]
  ·rw [Vu e,xK e,Bool.false_or]; exact Zc1 k r
theorem Zn0 (k j : κ) (y:V):∀ kvs:List (κ×V),Zm (kvs.map fun kv=>if kv.1=k then (kv.1,y) else kv) j=(Zm kvs j).map fun x=>if j=k then y else x
 | []=>rfl
 | p::r=>by
  have ih:=Zn0 k j y r
  rw [xQ]
  by_cases h:p.1=k
  ·rw [if_pos h]
   by_cases e:p.1=j
   ·rw [Vt (p:=(p.1,y)) e,Vt e,Option.map_some,if_pos (e.symm.trans h)]
   ·rw [Vu (p:=(p.1,y)) e,Vu e,ih]
  ·rw [if_neg h]
   by_cases e:p.1=j
   ·rw [Vt (p:=p) e,Vt e,Option.map_some,if_neg (fun z=>h (e.trans z))]
   ·rw [Vu (p:=p) e,Vu e,ih]
theorem Znb (k j : κ) (y:V):∀ kvs:List (κ×V),Zm kvs k=none->Zm (kvs ++ [(k,y)]) j=if j=k then some y else Zm kvs j
 | [],_=>by
  by_cases e:k=j
  ·rw [if_pos e.symm]; exact Vt (p:=(k,y)) e
  ·rw [if_neg (fun z=>e z.symm)]; exact Vu (p:=(k,y)) e
 | p::r,hn=>by
  rw [List.cons_append]
  have hk:¬ p.1=k:=fun z=>by rw [Vt z] at hn; cases hn
  rw [Vu hk] at hn
  have ih:=Znb k j y r hn
  by_cases e:p.1=j
  ·rw [Vt e,Vt e,if_neg (fun z=>hk (e.trans z))]
  ·rw [Vu e,Vu e,ih]
theorem Zab (kvs:List (κ×V)) (k j : κ) (y:V):Zm (Yi kvs k y) j=if j=k then some y else Zm kvs j:=by
 unfold Yi
 by_cases a:(kvs.any fun kv=>decide (kv.1=k))=true
 ·rw [if_pos a,Zn0]
  rw [Zc1] at a
  by_cases e:j=k
  ·obtain ⟨x,hx⟩:=Option.isSome_iff_exists.mp a
   rw [if_pos e,e,hx,Option.map_some,if_pos rfl]
  ·rw [if_neg e]
   cases Zm kvs j with
   | none=>rfl
   | some x=>rw [Option.map_some,if_neg e]
 ·rw [if_neg a]
  refine Znb k j y kvs ?_
  rw [Zc1] at a
  cases q:Zm kvs k with
  | none=>rfl
  | some x=>rw [q] at a; exact (a rfl).elim
theorem U3 (kvs:List (κ×V)) (k : κ) (v:V):(Yi kvs k v).length<=kvs.length+1:=by
 unfold Yi
 split
 ·rw [xA]; lia
 ·rw [xL,xS,List.length_nil]; lia
theorem RelO.isSome_eq {o:Option V}{u:Option Value}(r:RelO o u):o.isSome=u.isSome:=by
 cases o with
 | none=>cases u with
  | none=>rfl
  | some _=>exact (show False from r).elim
 | some _=>cases u with
  | none=>exact (show False from r).elim
  | some _=>rfl
theorem RelO.getD {o:Option V}{u:Option Value}{d:V}{d':Value}(r:RelO o u) (rd:RelV d d'):RelV (o.getD d) (u.getD d'):=by
 cases o with
 | none=>cases u with
  | none=>exact rd
  | some _=>exact (show False from r).elim
 | some _=>cases u with
  | none=>exact (show False from r).elim
  | some _=>exact r
theorem KV.val {kvs:List (κ×V)}{vs:List (κ×Value)}(r:KV kvs vs) (k : κ):RelO (Zm kvs k) (valueAt vs k):=by
 unfold KV at r
 induction r with
 | nil=>exact True.intro
 | @cons p q ps qs h t ih =>
  obtain ⟨h1,h2⟩:=h
  by_cases e:p.1=k
  ·have e':q.1=k:=h1.symm.trans e
   have b:valueAt (q::qs) k=some q.2:=by simp [valueAt,List.find?_cons,e']
   rw [Vt e,b]; exact h2
  ·have e':¬ q.1=k:=fun z=>e (h1.trans z)
   have b:valueAt (q::qs) k=valueAt qs k:=by simp [valueAt,List.find?_cons,e']
   rw [Vu e,b]; exact ih
theorem KV.any {kvs:List (κ×V)}{vs:List (κ×Value)}(r:KV kvs vs) (k : κ):(kvs.any fun kv=>decide (kv.1=k))=vs.any fun kv=>decide (kv.1=k):=by
 unfold KV at r
 induction r with
 | nil=>rfl
 | cons h t ih=>rw [List.any_cons,List.any_cons,ih,h.1]
theorem KV.repl {kvs:List (κ×V)}{vs:List (κ×Value)}(r:KV kvs vs) (k : κ) {y:V}{u:Value}(ry:RelV y u) :
  KV (kvs.map fun kv=>if kv.1=k then (kv.1,y) else kv) (vs.map fun kv=>if kv.1=k then (kv.1,u) else kv):=by
 unfold KV at r ⊢
 induction r with
 | nil=>exact .nil
 | @cons p q ps qs h t ih =>
  rw [xQ,xQ]
  refine .cons ?_ ih
  obtain ⟨h1,h2⟩:=h
  by_cases e:p.1=k
  ·rw [if_pos e,if_pos (h1.symm.trans e)]; exact ⟨h1,ry⟩
  ·rw [if_neg e,if_neg (fun z=>e (h1.trans z))]; exact ⟨h1,h2⟩
theorem KV.put {kvs:List (κ×V)}{vs:List (κ×Value)}(r:KV kvs vs) (k : κ) {y:V}{u:Value}(ry:RelV y u):KV (Yi kvs k y) (stored vs k u):=by
 unfold Yi stored
 rw [r.any k]
 by_cases e:(vs.any fun kv=>decide (kv.1=k))=true
 ·rw [if_pos e,if_pos e]; exact r.repl k ry
 ·rw [if_neg e,if_neg e]; exact Paired.snoc r ⟨rfl,ry⟩
theorem KV.length {kvs:List (κ×V)}{vs:List (κ×Value)}(r:KV kvs vs):kvs.length=vs.length:=Paired.length r
end
theorem Za2 {P:Program}{w:World}{k:Key}{u:Value}(r:RelV (kV k) u):(Y3 P w).is k u=true:=by
 cases k with
 | inl i=>obtain ⟨t,e⟩:=(show ∃ t,u=Value.int i t from r); subst e; exact Zv2 P w i t
 | inr x=>obtain ⟨t,e⟩:=(show ∃ t,u=Value.str x t from r); subst e; exact Zv3 P w x t
theorem Znc {P:Program}{w:World}:∀ {ks:List Key}{us:List Value},Vals (ks.map kV) us->ItemsAre (Y3 P w) ks us
 | [],_,r=>by rw [List.map_nil] at r; cases r; exact .nil
 | k::ks,_,r=>by
  rw [xQ] at r
  cases r with
  | cons h t=>exact .cons (Za2 h) (Znc t)
abbrev KT (H:Hp):List (List Key×V)->List (List Key×Addr×Value)->Prop:=Paired fun p q=>p.1=q.1/\H q.2.1=some (.tup (p.1.map kV))/\RelV p.2 q.2.2
theorem KT.val {H:Hp}{kvs:List (List Key×V)}{xs:List (List Key×Addr×Value)}(r:KT H kvs xs) (k:List Key):RelO (Zm kvs k) ((atKey xs k).map (·.2)):=by
 induction r with
 | nil=>exact True.intro
 | @cons p q ps qs h t ih =>
  obtain ⟨h1,_,h2⟩:=h
  by_cases e:p.1=k
  ·have e':q.1=k:=h1.symm.trans e
   have b:atKey (q::qs) k=some q.2:=by simp [atKey,List.find?_cons,e']
   rw [Vt e,b]; exact h2
  ·have e':¬ q.1=k:=fun z=>e (h1.trans z)
   have b:atKey (q::qs) k=atKey qs k:=by simp [atKey,List.find?_cons,e']
   rw [Vu e,b]; exact ih
theorem KT.repl {H:Hp}{kvs:List (List Key×V)}{xs:List (List Key×Addr×Value)}(r:KT H kvs xs) (k:List Key) {y:V}{u:Value}(ry:RelV y u) :
  KT H (kvs.map fun kv=>if kv.1=k then (kv.1,y) else kv) (xs.map (putAt k u)):=by
 induction r with
 | nil=>exact .nil
 | @cons p q ps qs h t ih =>
  rw [xQ,xQ]
  refine .cons ?_ ih
  obtain ⟨h1,h2,h3⟩:=h
  unfold putAt
  by_cases e:p.1=k
  ·rw [if_pos e,if_pos (h1.symm.trans e)]; exact ⟨h1,h2,ry⟩
  ·rw [if_neg e,if_neg (fun z=>e (h1.trans z))]; exact ⟨h1,h2,h3⟩
theorem KT.put {H:Hp}{kvs:List (List Key×V)}{xs:List (List Key×Addr×Value)}(r:KT H kvs xs) (k:List Key) {b:Addr}{y:V}{u:Value}(hb:H b=some (.tup (k.map kV))) (ry:RelV y u) :
  KT H (Yi kvs k y) (storedH xs k b u):=by
 have e:(kvs.any fun kv=>decide (kv.1=k))=(atKey xs k).isSome:=by
  rw [Zc1,(r.val k).isSome_eq,Option.isSome_map]
 unfold Yi storedH
 rw [e]
 by_cases q:(atKey xs k).isSome=true
 ·rw [if_pos q,if_pos q]; exact r.repl k ry
 ·rw [if_neg q,if_neg q]; exact Paired.snoc r ⟨rfl,hb,ry⟩
theorem KT.keeps {H H':Hp}{kvs:List (List Key×V)}{xs:List (List Key×Addr×Value)}(r:KT H kvs xs) (ht:∀ b ys,H b=some (.tup ys)->H' b=some (.tup ys)):KT H' kvs xs :=
 Paired.mapP r fun _ _ z=>⟨z.1,ht _ _ z.2.1,z.2.2⟩
section
variable {P:Program}{w:World}{H:Hp}{h:Heap}{a:Addr}
theorem Zrw {u:HO}(ok:HOk P w H h) (e:Rd H a u):ObjOk P w H h a u:=e.ok ok
theorem Za3 {kvs:List (Key×V)}(ok:HOk P w H h) (e:Rd H a (.dK kvs)):kvs.length<=sizeLine/\(a == sysModules)=false/\∃ vs,KV kvs vs/\h.DictOf (Y3 P w) a vs :=
 show ObjOk P w H h a (.dK kvs) from Zrw ok e
theorem Zrx {kvs:List (Key×V)}(ok:HOk P w H h) (e:H a=some (.dK kvs)):kvs.length<=sizeLine/\(a == sysModules)=false/\∃ vs,KV kvs vs/\h.DictOf (Y3 P w) a vs:=Za3 ok (.inl e)
theorem Zac {ks:List Key}(ok:HOk P w H h) (e:H a=some (.tup (ks.map kV))):(tupleKind (Y3 P w)).is h ks a:=by
 obtain ⟨_,its,r,o,h1,h2,n,h3⟩:=(show ObjOk P w H h a (.tup (ks.map kV)) from ok a _ e)
 exact ⟨o,its.toArray,n,h1,h2,h3,by simpa using Znc r⟩
theorem Za4 {kvs:List (List Key×V)}(ok:HOk P w H h) (e:Rd H a (.dT kvs)):kvs.length<=sizeLine/\(a == sysModules)=false /\
  ∃ xs,KT H kvs xs/\h.DictOfH (tupleKind (Y3 P w)) a xs:=by
 obtain ⟨z,y,xs,r,o,es,ep,h1,h2,h3,h4,h5⟩:=(show ObjOk P w H h a (.dT kvs) from Zrw ok e)
 refine ⟨z,y,xs,r,o,es,ep,h1,h2,h3,h4,fun x hx=>?_,h5⟩
 have all:∀ {l:List (List Key×V)}{m:List (List Key×Addr×Value)},KT H l m->∀ x∈m,(tupleKind (Y3 P w)).is h x.1 x.2.1:=by
  intro l m q
  induction q with
  | nil=>intro x hx; exact nomatch hx
  | @cons p q ps qs hq t ih =>
   intro x hx
   rcases xW.mp hx with e | hx
   ·subst e
    exact Zac ok (by rw [← hq.1]; exact hq.2.1)
   ·exact ih x hx
 exact all r x hx
theorem Zry {kvs:List (List Key×V)}(ok:HOk P w H h) (e:H a=some (.dT kvs)):kvs.length<=sizeLine/\(a == sysModules)=false /\
  ∃ xs,KT H kvs xs/\h.DictOfH (tupleKind (Y3 P w)) a xs:=Za4 ok (.inl e)
end
def DGet (H:Hp) (a:Addr) (y:V) (r:Option V):Prop :=
 (∃ kvs k,Rd H a (.dK kvs)/\y=kV k/\r=Zm kvs k)\/∃ kvs k b,Rd H a (.dT kvs)/\y = .ref b/\H b=some (.tup (k.map kV))/\r=Zm kvs k
def DPut (H:Hp) (a:Addr) (y v:V) (H':Hp):Prop :=
 (∃ kvs k,H a=some (.dK kvs)/\y=kV k/\kvs.length < sizeLine/\H'=upd H a (.dK (Yi kvs k v))) \/
 ∃ kvs k b,H a=some (.dT kvs)/\y = .ref b/\H b=some (.tup (k.map kV))/\kvs.length < sizeLine/\H'=upd H a (.dT (Yi kvs k v))
theorem DGet.k {H:Hp}{a:Addr}{kvs:List (Key×V)}{k:Key}(e:H a=some (.dK kvs)):DGet H a (kV k) (Zm kvs k):=.inl ⟨kvs,k,.inl e,rfl,rfl⟩
theorem DGet.t {H:Hp}{a b:Addr}{kvs:List (List Key×V)}{k:List Key}(e:H a=some (.dT kvs)) (eb:H b=some (.tup (k.map kV))):DGet H a (.ref b) (Zm kvs k):=.inr ⟨kvs,k,b,.inl e,rfl,eb,rfl⟩
theorem DPut.k {H:Hp}{a:Addr}{kvs:List (Key×V)}{k:Key}{v:V}(e:H a=some (.dK kvs)) (hl:kvs.length < sizeLine):DPut H a (kV k) v (upd H a (.dK (Yi kvs k v))):=.inl ⟨kvs,k,e,rfl,hl,rfl⟩
theorem DPut.t {H:Hp}{a b:Addr}{kvs:List (List Key×V)}{k:List Key}{v:V}(e:H a=some (.dT kvs)) (eb:H b=some (.tup (k.map kV))) (hl:kvs.length < sizeLine) :
  DPut H a (.ref b) v (upd H a (.dT (Yi kvs k v))):=.inr ⟨kvs,k,b,e,rfl,eb,hl,rfl⟩
section
variable {X:Cx}{pins:List (Addr×Obj)}{σ:St}{H:Hp}{s:Shared}{a:Addr}{y v:V}{u r:Value}{o:Option V}{A:Around}{E:Value->Shared->Prop}
theorem Inv.big (I:Inv X pins σ H s):sysModules < s.heap.objs.size:=by
 have h:mainGlobals < s.heap.objs.size:=(I.mod.glob.keeps I.bk).lt
 exact Nat.lt_trans (by decide) h
theorem Zxl {Q:Value->Shared->Prop}(hu:A.units+1 < cLine) (I:Inv X pins σ H s) (g:DGet H a y (some v)) (ry:RelV y u) (h:∀ w' s',Inv X pins σ H s'->RelV v w'->Q w' s') :
  wpAny (model X.prog X.w) A (getItem (.ref a) u) Q E s:=by
 rcases g with ⟨kvs,k,e,ey,l⟩ | ⟨kvs,k,b,e,ey,eb,l⟩
 ·subst ey
  obtain ⟨z,hd,vs,rel,dd⟩:=Za3 I.hok e
  obtain ⟨w',hw,rw'⟩:=RelO.some_of (v:=v) (o:=valueAt vs k) (by rw [l]; exact rel.val k)
  exact wpAny_getItem_of (Za2 ry) dd.mapOf hw (h w' _ (I.tok _) rw')
 ·subst ey
  cases (show u=Value.ref b from ry)
  obtain ⟨z,hd,xs,rel,dd⟩:=Za4 I.hok e
  obtain ⟨w',hw,rw'⟩:=RelO.some_of (v:=v) (o:=(atKey xs k).map (·.2)) (by rw [l]; exact rel.val k)
  obtain ⟨p,hp,hp2⟩:=yM.mp hw
  refine wpAny_getItem_heap (tupleKind_room_in1 hu) (Zac I.hok eb) dd hp ?_
  rw [hp2]
  exact h w' _ (I.tok _) rw'
theorem Ybd {Q:Value->Shared->Prop}(hu:A.units+1 < cLine) (I:Inv X pins σ H s) (g:DGet H a y o) (ry:RelV y u) (h:∀ s',Inv X pins σ H s'->Q (.bool o.isSome) s') :
  wpAny (model X.prog X.w) A (compareOp .In u (.ref a)) Q E s:=by
 rcases g with ⟨kvs,k,e,ey,l⟩ | ⟨kvs,k,b,e,ey,eb,l⟩
 ·subst ey
  obtain ⟨z,hd,vs,rel,dd⟩:=Za3 I.hok e
  refine wpAny_in_of (Za2 ry) hd dd.mapOf ?_
  rw [← (rel.val k).isSome_eq,← l]
  exact h _ (I.tok _)
 ·subst ey
  cases (show u=Value.ref b from ry)
  obtain ⟨z,hd,xs,rel,dd⟩:=Za4 I.hok e
  refine wpAny_in_heap (tupleKind_room_in1 hu) (Zac I.hok eb) hd dd ?_
  have q:=(rel.val k).isSome_eq
  rw [Option.isSome_map] at q
  rw [← q,← l]
  exact h _ (I.tok _)
theorem Z02 {Q:Value->Shared->Prop}(hu:A.units+1 < cLine) (I:Inv X pins σ H s) (g:DGet H a y o) (ry:RelV y u) (h:∀ s',Inv X pins σ H s'->Q (.bool (!o.isSome)) s') :
  wpAny (model X.prog X.w) A (compareOp .NotIn u (.ref a)) Q E s:=by
 rcases g with ⟨kvs,k,e,ey,l⟩ | ⟨kvs,k,b,e,ey,eb,l⟩
 ·subst ey
  obtain ⟨z,hd,vs,rel,dd⟩:=Za3 I.hok e
  refine wpAny_notIn_of (Za2 ry) hd dd.mapOf ?_
  rw [← (rel.val k).isSome_eq,← l]
  exact h _ (I.tok _)
 ·subst ey
  cases (show u=Value.ref b from ry)
  obtain ⟨z,hd,xs,rel,dd⟩:=Za4 I.hok e
  refine wpAny_notIn_heap (tupleKind_room_in1 hu) (Zac I.hok eb) hd dd ?_
  have q:=(rel.val k).isSome_eq
  rw [Option.isSome_map] at q
  rw [← q,← l]
  exact h _ (I.tok _)
theorem Zep {h':Heap}{t':Nat}{ob:HO}(I:Inv X pins σ H s) (mu:Mut (H a)) (hs:Heap.SameBut a s.heap h') (he:∃ q,h'.get? a=some q) (new:ObjOk X.prog X.w (upd H a ob) h' a ob) :
  Inv X pins σ (upd H a ob) {s with heap:=h',toks:=t' } :=
 I.write (x:=a) (e:=a) mu (.inl rfl) (fun b q hb z=>(hs.2 b hb).trans z) he new
theorem Zqf {P:Program}{w:World}{H':Hp}{h':Heap}{kvs:List (Key×V)}{vs:List (Key×Value)}(z:kvs.length<=sizeLine) (hd:(a == sysModules)=false) (rel:KV kvs vs) (dd:h'.DictOf (Y3 P w) a vs) :
  ObjOk P w H' h' a (.dK kvs):=⟨z,hd,vs,rel,dd⟩
theorem Zxm {H':Hp}{Q:Unit->Shared->Prop}(hu:A.units+1 < cLine) (I:Inv X pins σ H s) (g:DPut H a y v H') (ry:RelV y u) (rv:RelV v r) (h:∀ s',Inv X pins σ H' s'->Q () s') :
  wpAny (model X.prog X.w) A (setItem (.ref a) u r) Q E s:=by
 rcases g with ⟨kvs,k,e,ey,l,eH⟩ | ⟨kvs,k,b,e,ey,eb,l,eH⟩
 ·subst ey eH
  obtain ⟨z,hd,vs,rel,dd⟩:=Zrx I.hok e
  have hz:vs.length<=sizeLine:=by rw [← rel.length]; exact z
  have hl:(Yi kvs k v).length<=sizeLine:=by have:=U3 kvs k v; lia
  refine wpAny_setItem_pairs (hsz:=hz) (Za2 ry) dd fun h' dd' hs=>h _ ?_
  have he:∃ q,h'.get? a=some q:=let ⟨q,_,_,hq,_⟩:=dd'; ⟨q,hq⟩
  exact Zep I (by rw [e]; exact True.intro) hs he (Zqf hl hd (rel.put k rv) dd')
 ·subst ey eH
  cases (show u=Value.ref b from ry)
  obtain ⟨z,hd,xs,rel,dd⟩:=Zry I.hok e
  have hz:xs.length<=sizeLine:=by rw [← Paired.length rel]; exact z
  have hl:(Yi kvs k v).length<=sizeLine:=by have:=U3 kvs k v; lia
  refine wpAny_setItem_heap (hsz:=hz) (tupleKind_room_in1 hu) (Zac I.hok eb) dd fun h' dd' hs=>h _ ?_
  obtain ⟨q,es,ep,hq,h2,h3,h4,_,h5⟩:=dd'
  refine Zep I (by rw [e]; exact True.intro) hs ⟨q,hq⟩ ⟨hl,hd,_,(rel.put k eb rv).keeps fun c ys ec=>?_,q,es,ep,hq,h2,h3,h4,h5⟩
  rw [Zh (Zro ec e (fun z=>nomatch z))]
  exact ec
end
section
variable {X:Cx}{pins:List (Addr×Obj)}{σ:St}{H:Hp}{s:Shared}{a:Addr}{kvs:List (Key×V)}{k:Key}{u:Value}{A:Around}{E:Value->Shared->Prop}
end
def Zk9 (i:Expr):Prop:=∀ ov iv,subscripted i false ov iv=operate [ov,iv] (getItem ov iv)
theorem Z03 {prog:Program}{w:World}{A:Around}{E:Value->Shared->Prop}{s:Shared}{env:Env}{value slice:Expr}{pos:Pos}{T id:String}{Q:Value->Shared->Prop}
  (hl:typeLookup (.type T) "__getitem__" = pure (some (.builtin id))) (hs:Zk9 slice)
  (h:wpAny (model prog w) A (eval value env) (fun o s₁=>wpAny (model prog w) A (eval slice env) (fun i s₂=>s₂.TypeIs o T/\wpAny (model prog w) A (getItem o i) Q E s₂) E s₁) E s) :
  wpAny (model prog w) A (eval (.Subscript value slice pos) env) Q E s:=by
 refine Subscript_ (wpAny_mono h (fun o s₁ h₁=>wpAny_mono h₁ (fun i s₂ h₂=>?_) fun _ _ x=>x) fun _ _ x=>x)
 obtain ⟨hT,h₂⟩:=h₂
 unfold subscriptTail
 refine wpAny_bind ?_
 rw [getitemInPython_of_ne hT.not_modules]
 refine wpAny_bind (wpAny_specialOf hT hl ?_)
 have fin:wpAny (model prog w) A (subscripted slice false o i) (fun r s₃=>wpAny (model prog w) A (letTemporaryGo value o r >>= fun _=>pure r) Q E s₃) E s₂:=by
  rw [hs o i]
  exact wpAny_operating (wpAny_mono h₂ (fun r s₃ h₃=>wpAny_bind (wpAny_letTemporaryGo (wpAny_pure h₃))) fun _ _ x=>x)
 first
  | exact wpAny_pure (wpAny_bind fin)
  | exact wpAny_bind (wpAny_pure (wpAny_bind fin))
  | exact wpAny_bind fin
theorem Zv5 {X:Cx}{pins:List (Addr×Obj)}{σ:St}{H:Hp}{s:Shared}{a:Addr}{y:V}{o:Option V}(I:Inv X pins σ H s) (g:DGet H a y o):s.TypeIs (.ref a) "dict" := by
 rcases g with ⟨kvs,k,e,_,_⟩ | ⟨kvs,k,b,e,_,_,_⟩
 ·obtain ⟨_,_,vs,_,dd⟩:=Za3 I.hok e
  exact dd.typeIs
 ·obtain ⟨_,_,xs,_,dd⟩:=Za4 I.hok e
  exact dd.typeIs
def Zrz (td ty:TE):TE:=fun σ H Q=>td σ H fun x H1=>ty σ H1 fun y H2=>∃ a v,x = .ref a/\DGet H2 a y (some v)/\Q v H2
def Zr0 (td ty tv:TE):TS:=fun D σ H=>tv σ H fun v H1=>td σ H1 fun x H2=>ty σ H2 fun y H3=>∃ a H4,x = .ref a/\DPut H3 a y v H4/\D.nx σ H4
section
variable {X:Cx}{o i e value:Expr}{pos pos' tpos:Pos}{td ty tv:TE}
theorem Z04 (hu:X.A.units+1 < cLine) (ho:PE X o td) (hi:PE X i ty) (hs:Zk9 i):PE X (.Subscript o i pos) (Zrz td ty):=by
 intro pins s σ H Q I h
 refine Z03 PySem.F.slot_dict_getitem.lookup hs (thn (ho pins s σ H _ I h) fun u s1 ⟨x,H1,I1,rx,q1⟩=>thn (hi pins s1 σ H1 _ I1 q1) fun iv s2 ⟨y,H2,I2,ry,a,v,ex,g,q2⟩=>?_)
 subst ex
 obtain rfl:u=Value.ref a:=rx
 exact ⟨Zv5 I2 g,Zxl hu I2 g ry fun w' s3 I3 rw'=>⟨v,H2,I3,rw',q2⟩⟩
theorem Z05 (hu:X.A.units+1 < cLine) (ho:PE X o td) (hi:PE X i ty) (hv:PE X value tv) (hs:swapsWith value (some (.Subscript o i pos')) pos.line X.env=pure false) :
  PS X (.Assign [.Subscript o i pos'] value pos) (Zr0 td ty tv):=by
 intro pins s σ H D I h
 refine wpAny_Assign_Subscript (thn (hv pins s σ H _ I h) fun r s1 ⟨v,H1,I1,rv,q1⟩=>thn (ho pins s1 σ H1 _ I1 q1) fun u s2 ⟨x,H2,I2,rx,q2⟩=>thn (hi pins s2 σ H2 _ I2 q2) fun iv s3 ⟨y,H3,I3,ry,a,H4,ex,g,q3⟩=>?_) hs
 subst ex
 obtain rfl:u=Value.ref a:=rx
 exact Zxm hu I3 g ry rv fun s4 I4=>⟨σ,H4,I4,q3⟩
end
theorem Zn1 {P:Program}{w:World}{H:Hp}(h:Heap) (hb:sysModules < h.objs.size):ObjOk P w H (h.push {cls:=.type "dict", data:=.dict #[] }) h.objs.size (.dK []) :=
 ⟨yT _,beq_eq_false_iff_ne.mpr (Ne.symm (yJ hb)),[],.nil,Heap.DictOf.new h⟩
theorem Zyz {P:Program}{w:World}{H:Hp}(h:Heap) (hb:sysModules < h.objs.size):ObjOk P w H (h.push {cls:=.type "dict", data:=.dict #[] }) h.objs.size (.dT []) :=
 ⟨yT _,beq_eq_false_iff_ne.mpr (Ne.symm (yJ hb)),[],.nil,_,#[],0,yC _ rfl,⟨rfl,rfl,rfl⟩,rfl,rfl,List.nodup_nil⟩
def Z29:TE:=fun _ H Q=>∀ p,H p=none->Q (.ref p) (upd H p (.dK []))
def Zqg:TE:=fun _ H Q=>∀ p,H p=none->Q (.ref p) (upd H p (.dT []))
section
variable {X:Cx}{pos:Pos}
theorem pe_dnewK:PE X (.Dict [] [] pos) Z29:=fun pins s σ H Q I h =>
 wpAny_Dict_empty ⟨.ref s.heap.objs.size,_,I.laid (a:=s.heap.objs.size) (o:=.dK []) (t':=s.toks) (fun _ _ q=>xG _ q) (xE _) (Zn1 s.heap I.big),rfl,h _ (I.hok.fresh (xE _))⟩
theorem Zy0:PE X (.Dict [] [] pos) Zqg:=fun pins s σ H Q I h =>
 wpAny_Dict_empty ⟨.ref s.heap.objs.size,_,I.laid (a:=s.heap.objs.size) (o:=.dT []) (t':=s.toks) (fun _ _ q=>xG _ q) (xE _) (Zyz s.heap I.big),rfl,h _ (I.hok.fresh (xE _))⟩
end
def Zip:List (TE×TE)->St->Hp->(List (V×V)->Hp->Prop)->Prop
 | [],_,H,Q=>Q [] H
 | (tk,tv)::r,σ,H,Q=>tk σ H fun x H1=>tv σ H1 fun y H2=>Zip r σ H2 fun ps H3=>Q ((x,y)::ps) H3
abbrev VV:List (V×V)->List (Value×Value)->Prop:=Paired fun p q=>RelV p.1 q.1/\RelV p.2 q.2
def PPs (X:Cx) (pos:Pos) (keys:List (Option Expr)) (values:List Expr) (trs:List (TE×TE)):Prop :=
 ∀ (pins:List (Addr×Obj)) (s:Shared) (σ:St) (H:Hp) (Q:List (V×V)->Hp->Prop),Inv X pins σ H s->Zip trs σ H Q ->
  wpAny (model X.prog X.w) X.A (evalPairs (pairTrees keys values X.env pos)) (fun vs s'=>∃ ps H',Inv X pins σ H' s'/\VV ps vs/\Q ps H') X.xe s
theorem Z06 {X:Cx}{pos:Pos}:PPs X pos [] [] []:=fun pins s σ H Q I h=>pairTrees_nil_walk ⟨[],H,I,.nil,h⟩
theorem Zy1 {X:Cx}{pos:Pos}{k v:Expr}{ks:List (Option Expr)}{vs:List Expr}{tk tv:TE}{trs:List (TE×TE)}(hk:PE X k tk) (hv:PE X v tv) (hr:PPs X pos ks vs trs) :
  PPs X pos (some k::ks) (v::vs) ((tk,tv)::trs):=fun pins s σ H Q I h =>
 pairTrees_cons_walk (thn (hk pins s σ H _ I h) fun u s1 ⟨x,H1,I1,rx,q1⟩=>thn (hv pins s1 σ H1 _ I1 q1) fun w2 s2 ⟨y,H2,I2,ry,q2⟩ =>
  thn (hr pins s2 σ H2 _ I2 q2) fun ws s3 ⟨ps,H3,I3,rel,q3⟩=>⟨(x,y)::ps,H3,I3,.cons ⟨rx,ry⟩ rel,q3⟩)
def Zad (kvs more:List (Key×V)):List (Key×V):=more.foldl (fun acc kv=>Yi acc kv.1 kv.2) kvs
theorem KV.merge:∀ {more:List (Key×V)}{rs:List (Key×Value)}{kvs:List (Key×V)}{vs:List (Key×Value)},KV more rs->KV kvs vs->KV (Zad kvs more) (merged vs rs):=by
 intro more rs kvs vs r
 unfold KV at r
 induction r generalizing kvs vs with
 | nil=>intro q; exact q
 | @cons p q ps qs h t ih =>
  intro r0
  have e:KV (Yi kvs p.1 p.2) (stored vs q.1 q.2):=by
   have:=r0.put p.1 h.2
   rw [← h.1]; exact this
  exact ih e
theorem Zmb:∀ (more kvs:List (Key×V)),(Zad kvs more).length<=kvs.length+more.length
 | [],kvs=>by show kvs.length<=kvs.length+0; lia
 | p::r,kvs=>by
  have h1:=Zmb r (Yi kvs p.1 p.2)
  have h2:=U3 kvs p.1 p.2
  show (Zad (Yi kvs p.1 p.2) r).length<=_
  rw [xS]; lia
theorem Zmn {P:Program}{w:World}:∀ {kvs:List (Key×V)}{ws:List (Value×Value)},VV (kvs.map fun kv=>(kV kv.1,kv.2)) ws->∃ rs,Carries (Y3 P w) ws rs/\KV kvs rs
 | [],_,r=>by rw [List.map_nil] at r; cases r; exact ⟨[],True.intro,.nil⟩
 | p::kvs,_,r=>by
  rw [xQ] at r
  cases r with
  | @cons a b as bs h t =>
   obtain ⟨rs,c,q⟩:=Zmn (P:=P) (w:=w) t
   obtain ⟨b1,b2⟩:=b
   exact ⟨(p.1,b2)::rs,⟨Za2 h.1,rfl,c⟩,.cons ⟨rfl,h.2⟩ q⟩
def Zr1 (trs:List (TE×TE)):TE:=fun σ H Q=>∀ p,H p=none->Zip trs σ (upd H p (.dK [])) fun ps H2=>H2 p=some (.dK [])/\∃ kvs:List (Key×V),ps=kvs.map (fun kv=>(kV kv.1,kv.2))/\kvs.length<=15/\Q (.ref p) (upd H2 p (.dK (Zad [] kvs)))
theorem Z07 {X:Cx}{pos:Pos}{keys:List (Option Expr)}{values:List Expr}{trs:List (TE×TE)}(h:PPs X pos keys values trs) (hall:keys.all (·.isSome)=true) (hl:keys.length=values.length) (h0:keys ≠ [])
  (h15:keys.length<=15):PE X (.Dict keys values pos) (Zr1 trs):=by
 intro pins s σ H Q I q
 have hn:=I.hok.fresh (xE s.heap.objs.size)
 have I1:=I.laid (a:=s.heap.objs.size) (o:=.dK []) (h':=s.heap.push {cls:=.type "dict", data:=.dict #[] }) (t':=s.toks) (fun _ _ q=>xG _ q) (xE _) (Zn1 s.heap I.big)
 refine wpAny_Dict_walk (knd:=Y3 X.prog X.w) hall hl h0 h15 (thn (h pins _ σ _ _ I1 (q _ hn)) fun ws s2 ⟨ps,H2,I2,rel,e,kvs,ep,lk,q2⟩=>?_)
 subst ep
 obtain ⟨rs,c,rk⟩:=Zmn (P:=X.prog) (w:=X.w) rel
 obtain ⟨z,hd,vs0,r0,dd⟩:=Zrx I2.hok e
 cases r0
 refine ⟨rs,c,dd,fun h' dd' hs=>⟨.ref s.heap.objs.size,_,?_,rfl,q2⟩⟩
 have hz:(Zad [] kvs).length<=sizeLine:=by
  have h1:=Zmb kvs []
  rw [List.length_nil] at h1
  rw [sizeLine_eq]; lia
 have he:∃ q,h'.get? s.heap.objs.size=some q:=let ⟨q,_,_,hq,_⟩:=dd'; ⟨q,hq⟩
 exact Zep I2 (by rw [e]; exact True.intro) hs he (Zqf hz hd (rk.merge .nil) dd')
structure M1 (X:Cx) (o:Expr) (m:Str) (apos:Pos) (e:Expr) (cpos:Pos):Prop where
 base:attributeBase o m X.env (eval o X.env)=eval o X.env
 few:((backTo cpos (starEach [e] X.env)).all (fun x=>!x.1) && (backToKw cpos (keywordEach [] X.env)).all (fun x=>x.1.isSome)
  && decide (([e]:List Expr).length+([]:List Keyword).length+(if ([]:List Keyword).isEmpty then 0 else 1) < 30))=true
 line:(apos.endLine == cpos.line)=true
 trees:backTo cpos (starEach [e] X.env) = [(false,eval e X.env)]
structure M2 (X:Cx) (o:Expr) (m:Str) (apos:Pos) (e f:Expr) (cpos:Pos):Prop where
 base:attributeBase o m X.env (eval o X.env)=eval o X.env
 few:((backTo cpos (starEach [e,f] X.env)).all (fun x=>!x.1) && (backToKw cpos (keywordEach [] X.env)).all (fun x=>x.1.isSome)
  && decide (([e,f]:List Expr).length+([]:List Keyword).length+(if ([]:List Keyword).isEmpty then 0 else 1) < 30))=true
 line:(apos.endLine == cpos.line)=true
 trees:backTo cpos (starEach [e,f] X.env) = [(false,eval e X.env),(false,eval f X.env)]
def IsD (H:Hp) (a:Addr):Prop:=(∃ kvs,Rd H a (.dK kvs))\/∃ kvs,Rd H a (.dT kvs)
theorem Zqh {X:Cx}{pins:List (Addr×Obj)}{σ:St}{H:Hp}{s:Shared}{a:Addr}(I:Inv X pins σ H s) (d:IsD H a) :
  s.TypeIs (.ref a) "dict" /\ (∀ b,Value.ref a = .ref b->∃ ob,s.heap.get? b=some ob/\ob.dict=none)/\(a == sysModules)=false:=by
 rcases d with ⟨kvs,e⟩ | ⟨kvs,e⟩
 ·obtain ⟨_,hd,vs,_,dd⟩:=Za3 I.hok e
  refine ⟨dd.typeIs,fun b q=>?_,hd⟩
  cases q
  obtain ⟨ob,_,_,h1,h2,_⟩:=dd
  exact ⟨ob,h1,h2.2.1⟩
 ·obtain ⟨_,hd,xs,_,dd⟩:=Za4 I.hok e
  refine ⟨dd.typeIs,fun b q=>?_,hd⟩
  cases q
  obtain ⟨ob,_,_,h1,h2,_⟩:=dd
  exact ⟨ob,h1,h2.2.1⟩
section
variable {X:Cx}{pins:List (Addr×Obj)}{σ:St}{H:Hp}{s:Shared}{a:Addr}{y d:V}{u r:Value}{o:Option V}{A:Around}{E:Value->Shared->Prop}
theorem Z3a {Q:Value->Shared->Prop}(hu:A.units+1 < cLine) (I:Inv X pins σ H s) (g:DGet H a y o) (ry:RelV y u) (rd:RelV d r) (h:∀ w' s',Inv X pins σ H s'->RelV (o.getD d) w'->Q w' s') :
  wpAny (model X.prog X.w) A (call (.builtin "dict.get") [.ref a,u,r]) Q E s:=by
 rcases g with ⟨kvs,k,e,ey,l⟩ | ⟨kvs,k,b,e,ey,eb,l⟩
 ·subst ey
  obtain ⟨z,hd,vs,rel,dd⟩:=Za3 I.hok e
  refine call_meetsIn PySem.F.slot_dict_get dd.typeIs PySem.F.entry_dict_get (PySem.F.args_dict_get_3 _ _ _) (meets_dict_get_default (Y3 X.prog X.w) a (Za2 ry) hd r) ⟨_,dd.mapOf,h _ _ (I.tok _) ?_⟩
  rw [l]
  exact (rel.val k).getD rd
 ·subst ey
  cases (show u=Value.ref b from ry)
  obtain ⟨z,hd,xs,rel,dd⟩:=Za4 I.hok e
  refine call_meetsIn PySem.F.slot_dict_get dd.typeIs PySem.F.entry_dict_get (PySem.F.args_dict_get_3 _ _ _) (meetsH_dict_get_default (tupleKind (Y3 X.prog X.w)) a b hd r) ⟨tupleKind_room_in1 hu,k,xs,Zac I.hok eb,dd,h _ _ (I.tok _) ?_⟩
  rw [l]
  exact (rel.val k).getD rd
end
def Zqi (td ty tx:TE):TE:=fun σ H Q=>td σ H fun x H1=>∃ a,x = .ref a/\IsD H1 a/\ty σ H1 fun y H2=>tx σ H2 fun z H3=>∃ o,DGet H3 a y o/\Q (o.getD z) H3
section
variable {X:Cx}{o e f:Expr}{apos cpos:Pos}{td ty tx:TE}
theorem Zy2 (hu:X.A.units+1 < cLine) (ho:PE X o td) (he:PE X e ty) (hf:PE X f tx) (m:M2 X o "get" apos e f cpos):PE X (.Call (.Attribute o "get" apos) [e,f] [] cpos) (Zqi td ty tx):=by
 intro pins s σ H Q I h
 refine wpAny_Call_method m.base m.few m.line PySem.F.plainAttrs_dict PySem.F.slot_dict_get PySem.F.type_dict_get (thn (ho pins s σ H _ I h) fun u s1 ⟨x,H1,I1,rx,a,ex,d,q1⟩=>?_)
 subst ex
 obtain rfl:u=Value.ref a:=rx
 obtain ⟨t1,t2,_⟩:=Zqh I1 d
 refine ⟨t1,t2,?_⟩
 rw [m.trees]
 refine Calls.callWith_builtin rfl (Calls.evalArgs_plain (Calls.spliced_cons (thn (he pins s1 σ H1 _ I1 q1) fun iv s2 ⟨y,H2,I2,ry,q2⟩ =>
  Calls.spliced_cons (thn (hf pins s2 σ H2 _ I2 q2) fun fv s3 ⟨z,H3,I3,rz,ov,g,q3⟩=>Calls.spliced_nil ?_))))
 exact Z3a hu I3 g ry rz fun w' s4 I4 rw'=>⟨_,H3,I4,rw',q3⟩
end
section
variable {X:Cx}{pins:List (Addr×Obj)}{σ:St}{H:Hp}{s:Shared}{a:Addr}{kvs:List (Key×V)}{A:Around}{E:Value->Shared->Prop}
end
section
variable {X:Cx}{pins:List (Addr×Obj)}{σ:St}{H:Hp}{s:Shared}{a:Addr}{y:V}{u:Value}{A:Around}{E:Value->Shared->Prop}
end
end L2
namespace Att
open PySem PySem.W PySem.Calls PyProof.Rows
theorem Zu6 {P:Params}{h:Heap}:∀ (ns:List Int) (vs:List Value),WellAll P h vs (ns.map WData.int)->IntsAre vs ns:=by
 intro ns
 induction ns with
 | nil =>
  intro vs w
  rw [List.map_nil] at w
  cases w
  exact .nil
 | cons n ns ih =>
  intro vs w
  rw [xQ] at w
  cases w with
  | cons a b =>
   cases a
   exact .cons _ _ (ih _ b)
theorem Zxn {l:OpenLaw}{n:Nat}(hn:l.most=some n) {P:Params}{h:Heap}{args:List WData}{vals:List Value}
  (hpre:l.row.toRowW.claim.pre args=true) (hwl:WellAll P h vals args) :
  ∃ a vs ns,vals = [Value.ref a]/\args = [WData.list (ns.map WData.int)]/\h.get? a=some {cls:=.type "list", data:=.seq vs.toArray }/\IntsAre vs ns/\ns.length<=n:=by
 have hsh:WShape.hasAll [] args [.list .int]=true:=(pre_splitW hpre).1
 have hc:l.pre.holds [] {args:=args }=true:=(pre_splitW hpre).2
 obtain ⟨d,r,rfl,h1,h2⟩:=hasAllW_cons hsh
 obtain rfl:=hasAllW_nil h2
 obtain ⟨xs,rfl,h3⟩:=hasW_list h1
 obtain ⟨ns,rfl⟩:=items_int h3
 have hlen:ns.length<=n:=by
  unfold OpenLaw.pre at hc
  have h4:(WTm.not (.lt (.lit (.int (n:Int))) (.len (.arg 0)))).holds [] {args:=[.list (ns.map .int)] }=true:=by
   have h4:=(holds_andW hc).1
   rw [hn] at h4
   exact h4
  have h5:=condW_of h4 (w_not (w_lt w_lit (w_len_list (w_arg rfl))))
  rw [xA] at h5
  refine Nat.le_of_not_lt fun q=>?_
  have q':(n:Int) < ((ns.length:Nat):Int):=by lia
  first
   | (rw [xH q'] at h5; exact absurd h5 (by decide))
   | (simp at h5; lia)
 cases hwl with
 | cons w1 w2 =>
  cases w2
  cases w1 with
  | list ho hall=>exact ⟨_,_,ns,rfl,rfl,ho,Zu6 ns _ hall,hlen⟩
theorem Zxo (l:OpenLaw) (args:List WData):l.row.toRowW.claim.post args (.bool true) args=true :=
 postW_of (r:=l.row.toRowW) (X:=(true == true))
  (show WShape.has [] (.bool true) .bool=true by first | rfl | decide | simp [WShape.has,WShape.arms,WShape.armsAll])
  (show (WTm.eq .res (.lit (.bool true))).value [] {args:=args,res:=some (.bool true),after:=args }=some (.bool (true == true)) from w_eq_bool (w_res rfl) w_lit) rfl
theorem attach_call {l:OpenLaw}{n:Nat}{q:Program}{loose:List Str}{XP:(Str->Option Value)->Heap->Prop}{YP:World->Heap->Prop}{d:DefRec}
  (hn:l.most=some n) (hdf:d.params.defaults = [])
  (call:∀ (w:World) (s₀ s₁:Shared) (mg mb:Str->Option Value) (fa:Addr) (o:Obj) (pm cd doc:Value) (a:Addr) (vs:List Value) (ns:List Int),
   Ground q loose [] XP w s₀ mg mb s₁.heap->YP w s₁.heap ->
   s₁.heap.get? fa=some o->o.data = .func (docDef d.name d.params d.body d.scope pm cd doc)->s₁.heap.CodeRec cd d.name->mg d.name=some (.ref fa) ->
   s₁.heap.get? a=some {cls:=.type "list", data:=.seq vs.toArray }->IntsAre vs ns->ns.length<=n->s₁.gens = #[] ->
   codeAny (model l.prog w) callerA (.call (.ref fa) ⟨[.ref a],[]⟩) (fun r s'=>r = .ok (.ret (.bool true))/\OldK s₁.heap s'.heap/\s'.os=s₁.os/\AllBare s'.gens) s₁) :
  WalkO q loose XP YP l.row.toRowW d [] (fun f vs=>PySem.call f vs):=by
 intro w s₀ s₁ mg mb G Y fa o pm cd doc dV kV ho hd hcd hD hmg hg args vals as hpre hlay hrd hwl hlo
 obtain rfl:dV = .none:=Dflts.none hD hdf
 obtain rfl:kV = .none:=Dflts.noKw hD
 obtain ⟨a,vs,ns,rfl,rfl,hobj,hints,hlen⟩:=Zxn hn hpre hwl
 refine enter_call (codeAny_mono (call w s₀ s₁ mg mb fa o pm cd doc a vs ns G Y ho (fd_plain hd) hcd hmg hobj hints hlen hg) fun r s' hq=>?_)
 obtain ⟨rfl,h2,h3,h4⟩:=hq
 exact ⟨.inl ⟨.bool true,.bool true,[],rfl,fun _=>rfl,.bool true,Zxo l _,fun _=>⟨List.Pairwise.nil,fun _ hm=>(nomatch hm)⟩⟩,h2,h3,h4⟩
section
variable {prog:Program}{w:World}{A:Around}{E:Value->Shared->Prop}{s:Shared}{K:Frag}
end
end Att
namespace L2
open PySem PySem.Spec PyProof.Rows
theorem Znd:∀ {vs:List Value}{ns:List Int},IntsAre vs ns->Vals (ns.map V.int) vs
 | _,_,.nil=>.nil
 | _,_,.cons n t h=>.cons ⟨t,rfl⟩ (Znd h)
end L2
namespace L2
open PySem PySem.Spec PyProof.Rows
end L2
/- THE LAST THEOREM (shape; LID,My.* are yours):
   My.Adr: a structure of the addresses that your layer names (classes,functions); My.Txt K t: a structure (Prop) of the equations over K;
   My.txt_mk:{K} {implicit addresses ..} (e1:nsIn K mainGlobals "law" = some (some (.ref f))) (e2:K.lookup f=some ⟨oc,od,.func (fnOf "law" "law" params body scope dV kV doc pm an cdv ct),sl⟩) (e3:codeIn K cdv "law" = true) .. : ∃ t,My.Txt K t
set_option maxRecDepth 100000 in
set_option maxHeartbeats 0 in
theorem PySem.Challenge.cw_LID_holds : PySem.Challenge.rw_LID.Holds := by
 w_on; o_law; k_head; (case hw=>w_witness2)
 k_fill
 refine L2.walk_of (l:=PySem.Challenge.rw_LID) (n:=63) (k:=40) (x := "script") (CX:=fun w=>..) (sp:=fun _=>My.sp_law) rfl (by decide) rfl ⟨rfl,by decide,by decide⟩ (fun w h Y=>PySem.W.kIn_of Y) ?F ?S ?C
 case F =>
  intro w mg fa h KX G hmg
  have T:∃ t,My.Txt (L2.KOf KX) t:=by
   dsimp only [L2.KOf]                          -- K must stand as «<heap const> w.params» for k_is
   refine' My.txt_mk ?e1 ?e2 ?e3 ..
   (case e1=>PySem.W.k_is)                    -- in the order: a name->its address->its object->its parts
   (case e2=>PySem.W.k_is)
   ..
  obtain ⟨t,T⟩:=T
  have e0:=hmg.symm.trans (PySem.W.mg_of KX G T.law)
  cases e0                                       -- fa is the law's own address
  exact ⟨_,fun s u=>.of_eq rfl,fun base kb nb=>My.law_fn T kb nb⟩     -- if «.of_eq rfl» comes too early: refine' ⟨_,?b,fun base kb nb=>My.law_fn T kb nb⟩; exact fun s u=>.of_eq rfl
 case S=>exact fun w H a ns hl hO hS=>..
 case C=>exact ..
(the tactic k_is has no namespace: write k_is) -/
namespace L2
open PySem PySem.Spec PyProof.Rows
def Vf (s:Stmt):Arguments:=match s with
 | .FunctionDef _ a _ _ _ _ _ _ _ _=>a
 | _=>{posonlyargs:=[],args:=[],vararg:=none,kwonlyargs:=[],kw_defaults:=[],kwarg:=none,defaults:=[] }
def Yx (s:Stmt):List Stmt:=match s with
 | .FunctionDef _ _ b _ _ _ _ _ _ _=>b
 | _=>[]
def Za (s:Stmt):Scope:=match s with
 | .FunctionDef _ _ _ _ _ _ sc _ _ _=>sc
 | _=>{kind:=.function,names:=[],isGenerator:=false,isCoroutine:=false }
abbrev CX0:CXT:=fun _ _ _ _ _ _=>False
abbrev E0:XK:=fun _ _ _=>False
theorem Z38 {X:Cx}:Zin CX0 X E0:=fun _ _ _ _ _ _ _ h=>h.elim
structure Fun (K:uFg) (x qual:Str) (st:Stmt) (f:Addr) (fd:FuncData):Prop where
 ex:∃ (oc:Value) (od:Option Addr) (kV doc pm:Value) (an:Option Addr) (cdv ct:Value) (osl:Array (Option Value)),
  fd=PySem.W.fnOf x qual (Vf st) (Yx st) (Za st) .none kV doc pm an cdv ct/\K.lookup f=some ⟨oc,od,.func fd,osl⟩/\PySem.W.codeIn K cdv qual=true
 kp:PySem.W.keepIn K (.ref f)=true
section
variable {P:Program}{w:World}{K:uFg}{mg:Str->Option Value}{base:Heap}
theorem Fun.ok {x qual:Str}{st:Stmt}{f:Addr}{fd:FuncData}{N ps:List Str}{k:Nat}{sp:Sp}(F:Fun K x qual st f fd) (S:FnScope N ps (Za st)) (len:∀ vs H Q E,sp vs H Q E->vs.length=ps.length)
  (hbody:∀ (cdv:Value) (A:Around) (outer:List Env) (s:Shared) (H:Hp) (vs:List V) (Q:VK) (E:XK),Room k (A.deeper (envOfC qual (Za st) s.heap.objs.size f cdv))->sp vs H Q E ->
   ∃ t,PSs (Ye CX0 P w K mg base N qual (Za st) f cdv A outer s H E).nox (Yx st) t/\t {nx:=fun _ H'=>Q .non H',rt:=Q } (start N vs) H):FnOk P w K mg base CX0 (k+1) f fd ps sp:=by
 obtain ⟨oc,od,kV,doc,pm,an,cdv,ct,osl,rfl,lk,hcd⟩:=F.ex
 refine Zi8 lk hcd S len fun A outer s H vs Q E hr hsp=>?_
 obtain ⟨t,h,q⟩:=hbody cdv A outer s H vs Q E hr hsp
 exact ⟨t,h.nox,q⟩
theorem Fun.binds {x qual:Str}{st:Stmt}{f:Addr}{fd:FuncData}{ps:List Str}(F:Fun K x qual st f fd)
  (h:∀ (kV doc pm:Value) (an:Option Addr) (cdv ct:Value) (us:List Value),us.length=ps.length->bindArgs (PySem.W.fnOf x qual (Vf st) (Yx st) (Za st) .none kV doc pm an cdv ct) ⟨us,[]⟩=pure (ps.zip us)):Binds K fd ps []:=by
 obtain ⟨oc,od,kV,doc,pm,an,cdv,ct,osl,rfl,lk,hcd⟩:=F.ex
 exact .all (h kV doc pm an cdv ct)
theorem Zqj {x qual:Str}{st:Stmt}{f:Addr}{oc:Value}{od an:Option Addr}{osl:Array (Option Value)}{kV doc pm cdv ct:Value}(l:K.lookup f=some ⟨oc,od,.func (PySem.W.fnOf x qual (Vf st) (Yx st) (Za st) .none kV doc pm an cdv ct),osl⟩)
  (c:PySem.W.codeIn K cdv qual=true) (k:PySem.W.keepIn K (.ref f)=true):Fun K x qual st f (PySem.W.fnOf x qual (Vf st) (Yx st) (Za st) .none kV doc pm an cdv ct):=⟨⟨oc,od,kV,doc,pm,an,cdv,ct,osl,rfl,l,c⟩,k⟩
end
section
variable {X:Cx}
end
theorem Yt {A B:Prop}(h:B):if false=true then A else B:=by
 rw [if_neg xJ]
 exact h
theorem Yb {A B:Prop}(h:A):if true=true then A else B:=by
 rw [if_pos rfl]
 exact h
def Same (H H':Hp):Prop:=∀ b o,H b=some o->H' b=some o
theorem Same.refl (H:Hp):Same H H:=fun _ _ h=>h
theorem Same.trans {H H1 H2:Hp}(a:Same H H1) (b:Same H1 H2):Same H H2:=fun c o h=>b c o (a c o h)
theorem Same.free {H H':Hp}(e:Same H H') {l:Addr}(h:H' l=Option.none):H l=Option.none:=by
 cases q:H l with
 | none=>rfl
 | some o =>
  rw [e l o q] at h
  cases h
end L2
namespace L2
open PySem PySem.Spec PyProof.Rows
section
variable {X:Cx}
end
section
variable {κ:Type} [DecidableEq κ]
theorem Zh6 {kvs:List (κ×V)}{k : κ}{v:V}(h:Zm kvs k=some v):k∈kvs.map (·.1):=by
 have q:(kvs.any fun kv=>decide (kv.1=k))=true:=by
  rw [Zc1,h]
  all_goals rfl
 obtain ⟨p,hp,e⟩:=List.any_eq_true.mp q
 exact xV.mpr ⟨p,hp,yD e⟩
theorem Zpc:∀ {l:List κ}{k : κ},l.Nodup->¬ k∈l->(l ++ [k]).Nodup
 | [],k,_,_=>by simp
 | a::r,k,h,hk=>by
  obtain ⟨h1,h2⟩:=List.nodup_cons.mp h
  show (a::(r ++ [k])).Nodup
  refine List.nodup_cons.mpr ⟨fun m=>?_,Zpc h2 fun m=>hk (xW.mpr (Or.inr m))⟩
  rcases xO.mp m with q | q
  ·exact h1 q
  ·exact hk (xW.mpr (Or.inl (xF.mp q).symm))
end
end L2
end
section
namespace L2
open PySem PySem.Spec PyProof.Rows
abbrev ccx (X:Cx) (scope:Scope) (cl:List (Str×Addr)) (C:Addr) (N':List Str) (s2:Shared) (H2:Hp) (ex:List Addr) (pn:List (Addr×Obj)):Cx where
 prog:=X.prog
 w:=X.w
 K:=X.K
 mg:=X.mg
 base:=X.base
 A:=X.A
 N:=N'
 s₀:=s2
 H₀:=H2
 env:=compEnvC scope cl C X.env
 outer:=X.stack
 stack:=X.stack
 ex:=ex
 fn:=fun _=>false
 calm:=X.calm
 pn:=pn
 xe:=fun _ _=>False
theorem Zha (env:Env):∀ (l:List (Str×NameKind)) (cs:List (Str×Addr)),(∀ p∈l,p.2 = .free->∃ c,env.cells.lookup p.1=some c) ->
  ∃ cl,(forIn l cs (fun (x:Str×NameKind) (r:List (Str×Addr))=>if (x.2 == NameKind.free)=true then (do let a ← cellOf env x.1; pure (ForInStep.yield ((x.1,a)::r)):Sem (ForInStep (List (Str×Addr)))) else pure (ForInStep.yield r)):Sem _)=pure cl /\
   (∀ x c,cl.lookup x=some c->env.cells.lookup x=some c\/cs.lookup x=some c)/\(∀ x,((x,NameKind.free)∈l\/∃ c,cs.lookup x=some c)->∃ c,cl.lookup x=some c)
 | [],cs,_=>⟨cs,rfl,fun x c h=>.inr h,fun x h=>h.elim (fun z=>nomatch z) id⟩
 | (n,k)::r,cs,h=>by
  have hr:∀ p∈r,p.2 = .free->∃ c,env.cells.lookup p.1=some c:=fun p hp=>h p (xN _ hp)
  by_cases hk:k = .free
  ·subst hk
   obtain ⟨c,hc⟩:=h (n,.free) xI rfl
   obtain ⟨cl,e,h1,h2⟩:=Zha env r ((n,c)::cs) hr
   refine ⟨cl,?_,fun x d hx=>?_,fun x hx=>?_⟩
   ·rw [List.forIn_cons]
    have e2:cellOf env n=pure c:=by unfold cellOf; rw [hc]
    simp only [beq_self_eq_true,if_true,e2,pure_bind]
    exact e
   ·rcases h1 x d hx with z | z
    ·exact .inl z
    ·rw [yU] at z
     cases q:x == n with
     | true =>
      rw [q] at z
      cases z
      have:x=n:=by simpa using q
      subst this
      exact .inl hc
     | false =>
      rw [q] at z
      exact .inr z
   ·apply h2
    rcases hx with hx | ⟨d,hx⟩
    ·rcases xW.mp hx with z | z
     ·cases z
      exact .inr ⟨c,by rw [yU]; simp⟩
     ·exact .inl z
    ·right
     rw [yU]
     cases q:x == n with
     | true=>exact ⟨c,rfl⟩
     | false=>exact ⟨d,hx⟩
  ·obtain ⟨cl,e,h1,h2⟩:=Zha env r cs hr
   refine ⟨cl,?_,h1,fun x hx=>h2 x ?_⟩
   ·rw [List.forIn_cons]
    have e2:(k == NameKind.free)=false:=by simpa using hk
    simp only [e2,zD,if_false,pure_bind]
    exact e
   ·rcases hx with hx | hx
    ·rcases xW.mp hx with z | z
     ·cases z
      exact absurd rfl hk
     ·exact .inl z
    ·exact .inr hx
theorem Zwl {scope:Scope}{env:Env}(h:∀ p∈scope.names,p.2 = .free->∃ c,env.cells.lookup p.1=some c) :
  ∃ cl,closureFor scope env=pure cl/\(∀ x c,cl.lookup x=some c->env.cells.lookup x=some c)/\(∀ x,(x,NameKind.free)∈scope.names->∃ c,cl.lookup x=some c):=by
 obtain ⟨cl,e,h1,h2⟩:=Zha env scope.names [] h
 refine ⟨cl,?_,fun x c hx=>(h1 x c hx).elim id (fun z=>nomatch z),fun x hx=>h2 x (.inl hx)⟩
 unfold closureFor
 have e':=congrArg (fun m:Sem (List (Str×Addr))=>m >>= fun r=>pure r) e
 simp only [pure_bind] at e'
 exact e'
theorem Zma {env:Env}{kk:NameKind}(hkk:kk ≠ .free):∀ {names:List (Str×NameKind)}{x:Str},names.lookup x=some kk ->
  (names.map fun (n,k)=>if (k == NameKind.free && env.scope.kind == .function && env.kindOf n == some .cell) then (n,NameKind.cell) else (n,k)).lookup x=some kk
 | [],_,h=>by simp at h
 | (n,k)::r,x,h=>by
  have ih:=@Zma env kk hkk r x
  show List.lookup x ((if (k == NameKind.free && env.scope.kind == .function && env.kindOf n == some .cell)=true then (n,NameKind.cell) else (n,k))::_)=_
  cases hx:x == n with
  | true =>
   simp only [yU,hx] at h
   have h:some k=some kk:=h
   have h':k=kk:=Option.some.inj h
   subst h'
   have e:(k == NameKind.free)=false:=by simpa using hkk
   rw [e,Bool.false_and,Bool.false_and,if_neg xJ,yU,hx]
  | false =>
   simp only [yU,hx] at h
   by_cases hc:(k == NameKind.free && env.scope.kind == .function && env.kindOf n == some .cell)=true
   ·rw [if_pos hc]; simp only [yU,hx]; exact ih h
   ·rw [if_neg hc]; simp only [yU,hx]; exact ih h
theorem Zg4 {env:Env}:∀ {names:List (Str×NameKind)}{x:Str},names.lookup x=some .free ->
  ((names.map fun (n,k)=>if (k == NameKind.free && env.scope.kind == .function && env.kindOf n == some .cell) then (n,NameKind.cell) else (n,k)).lookup x=some .cell) \/
  ((names.map fun (n,k)=>if (k == NameKind.free && env.scope.kind == .function && env.kindOf n == some .cell) then (n,NameKind.cell) else (n,k)).lookup x=some .free)
 | [],_,h=>by simp at h
 | (n,k)::r,x,h=>by
  have ih:=@Zg4 env r x
  show (List.lookup x ((if (k == NameKind.free && env.scope.kind == .function && env.kindOf n == some .cell)=true then (n,NameKind.cell) else (n,k))::_)=_)\/(List.lookup x ((if (k == NameKind.free && env.scope.kind == .function && env.kindOf n == some .cell)=true then (n,NameKind.cell) else (n,k))::_)=_)
  cases hx:x == n with
  | true =>
   simp only [yU,hx] at h
   cases h
   by_cases hc:(NameKind.free == NameKind.free && env.scope.kind == .function && env.kindOf n == some .cell)=true
   ·rw [if_pos hc]; simp [yU,hx]
   ·rw [if_neg hc]; simp [yU,hx]
  | false =>
   simp only [yU,hx] at h
   by_cases hc:(k == NameKind.free && env.scope.kind == .function && env.kindOf n == some .cell)=true
   ·rw [if_pos hc]; simp only [yU,hx]; exact ih h
   ·rw [if_neg hc]; simp only [yU,hx]; exact ih h
theorem Zmh {env:Env}{scope:Scope}{x:Str}(hcell:∀ y∈scope.names,y.2 ≠ .cell) (h:(relabel scope env).names.lookup x=some .cell\/(relabel scope env).names.lookup x=some .free):(x,NameKind.free)∈scope.names:=by
 have m:∃ k',(k'=NameKind.cell\/k'=NameKind.free)/\(x,k')∈(relabel scope env).names:=by
  rcases h with h | h
  ·exact ⟨_,.inl rfl,PySem.mem_of_lookup h⟩
  ·exact ⟨_,.inr rfl,PySem.mem_of_lookup h⟩
 obtain ⟨k',hk,m⟩:=m
 obtain ⟨⟨n,k⟩,hm,e⟩:=xV.mp m
 have e:(if (k == NameKind.free && env.scope.kind == .function && env.kindOf n == some .cell)=true then (n,NameKind.cell) else (n,k))=(x,k'):=e
 by_cases hc:(k == NameKind.free && env.scope.kind == .function && env.kindOf n == some .cell)=true
 ·rw [if_pos hc] at e
  cases e
  have:k = .free:=by
   cases k <;> simp at hc ⊢
  rw [← this]; exact hm
 ·rw [if_neg hc] at e
  cases e
  rcases hk with z | z
  ·exact absurd z (hcell _ hm)
  ·rw [← z]; exact hm
section
variable {prog:Program}{w:World}{A:Around}{E:Value->Shared->Prop}{R:Result->Shared->Prop}{s:Shared}
theorem Zu4 {elt target iter:Expr}{ifs:List Expr}{scope:Scope}{pos:Pos}{it acc:Value}{env:Env}(I:Nat->Shared->Prop)
  (turn:∀ n s,I n s->wpAny (model prog w) A (pyNext it) (fun r s₁=>match r with
   | none=>R (.ok .next) s₁
   | some v=>wpAny (model prog w) A (letOwnedTupleGo target it v) (fun _ s1=>wpAny (model prog w) A (assign target env v) (fun _ s₂ =>
     wpAny (model prog w) A (forIn ifs true fun c r=>if r=true then do let ok ← isTrue c env (eval c env); pure (ForInStep.yield ok) else pure (ForInStep.yield r)) (fun ok s₃ =>
      if ok=true then wpAny (model prog w) A (eval elt env) (fun x s₄ =>
       wpAny (model prog w) A (call (.builtin "list.append") [acc,x]) (fun _ s₅=>∃ m,m < n/\I m s₅) (fun _ _=>False) s₄) (fun _ _=>False) s₃
      else ∃ m,m < n/\I m s₃) (fun _ _=>False) s₂) (fun _ _=>False) s1) (fun _ _=>False) s₁) (fun _ _=>False) s)
  (n:Nat) (h:I n s) :
  codeAny (model prog w) A (.compLoop (.ListComp elt [⟨target,iter,ifs,0⟩] scope pos) 0 it acc env) R s:=by
 refine codeAny_loop rfl I (fun n s hI=>?_) n h
 show wpAny _ A ((compTurn (.ListComp elt [⟨target,iter,ifs,0⟩] scope pos) 0 it acc env).onRaise (fun x=>do noteFrame x env; theTreesLotGoes x)) _ _ s
 refine wpAny_noted ?_
 rw [compTurn_list]
 refine wpAny_bind (wpAny_standAt (wpAny_bind (wpAny_mono (turn n s hI) (fun r s₁ h₁=>?_) fun _ _ h'=>h'.elim)))
 cases r with
 | none=>exact wpAny_pure h₁
 | some v =>
  refine wpAny_bind (wpAny_mono h₁ (fun _ s1 h1=>?_) fun _ _ h'=>h'.elim)
  refine wpAny_bind (wpAny_mono h1 (fun _ s₂ h₂=>wpAny_bind (wpAny_mono h₂ (fun ok s₃ h₃=>?_) fun _ _ h'=>h'.elim)) fun _ _ h'=>h'.elim)
  cases ok with
  | false=>exact wpAny_pure ⟨rfl,h₃⟩
  | true =>
   exact wpAny_bind (wpAny_bind (wpAny_mono h₃ (fun x s₄ h₄=>wpAny_bind (wpAny_mono h₄ (fun _ s₅ h₅=>wpAny_pure (wpAny_pure ⟨rfl,h₅⟩)) fun _ _ h'=>h'.elim)) fun _ _ h'=>h'.elim))
end
abbrev TTs:=St->Hp->(Bool->Hp->Prop)->Prop
def PTs (X:Cx) (ifs:List Expr) (t:TTs):Prop :=
 ∀ (pins:List (Addr×Obj)) (s:Shared) (σ:St) (H:Hp) (Q:Bool->Hp->Prop),Inv X pins σ H s->t σ H Q ->
  wpAny (model X.prog X.w) X.A (forIn ifs true fun c r=>if r=true then do let ok ← isTrue c X.env (eval c X.env); pure (ForInStep.yield ok) else pure (ForInStep.yield r)) (TP X pins σ Q) X.xe s
theorem Z08 {X:Cx}:PTs X [] (fun _ H Q=>Q true H):=fun _ _ _ H _ I h=>wpAny_tests_nil ⟨H,I,h⟩
theorem Z09 {X:Cx}{c:Expr}{t:TT}(h:PT X c t):PTs X [c] t:=fun pins s σ H Q I hw=>wpAny_tests_one (h pins s σ H Q I hw)
structure FrOk (X:Cx) (scope:Scope) (fr:List (Str×Nat)):Prop where
 slots:∀ p∈fr,X.N[p.2]? = some p.1/\(X.env.kindOf p.1=some .cell\/X.env.kindOf p.1=some .free)
 kind:∀ p∈fr,scope.names.lookup p.1=some .free
def inN (locs:List Str) (fr:List (Str×Nat)):List Str:=locs++fr.map (·.1)
def inS (locs:List Str) (fr:List (Str×Nat)) (σ:St):St:=List.replicate locs.length none++fr.map fun p=>(σ[p.2]?).join
def inF (fr:List (Str×Nat)) (σ:St):St:=fr.map fun p=>(σ[p.2]?).join
def Vn (n:Nat) (fv:St) (g:TG) (tt:TTs) (te:TE) (x:V) (H:Hp) (Y:V->Hp->Prop) (N:Hp->Prop):Prop :=
 ∀ ls:St,ls.length=n->g x (ls++fv) H fun σ2 H2=>(∃ l2:St,l2.length=n /\ σ2=l2++fv)/\tt σ2 H2 fun b H3=>if b=true then te σ2 H3 Y else N H3
def V5 (J:It) (n:Nat) (fv:St) (g:TG) (tt:TTs) (te:TE) (Q:VK) (H1:Hp):Prop:=∃ W:Nat->Nat->List V->Hp->Prop,(∃ m,W 0 m [] H1)/\∀ i m ys H,W i m ys H ->
 (J.stop i H/\ys.length<=sizeLine/\∀ l,H l=none->Q (.ref l) (upd H l (.lst ys))) \/
 (J.go i H/\ys.length < sizeLine/\∃ m',m' < m/\∀ x H',J.yld i H x H'->Vn n fv g tt te x H' (fun y H4=>W (i+1) m' (ys ++ [y]) H4) fun H3=>W (i+1) m' ys H3)
def Zfl (n:Nat) (fr:List (Str×Nat)) (wi:TI) (g:TG) (tt:TTs) (te:TE):TE:=fun σ H Q=>wi σ H fun J H1=>V5 J n (inF fr σ) g tt te Q H1
theorem Zpd {P:Program}{w:World}{H:Hp}{h:Heap}{D:Addr}{o:HO}(ok:HOk P w H h) (hn:H D=none) (new:ObjOk P w (upd H D o) h D o):HOk P w (upd H D o) h:=fun b u e=>by
 by_cases hb:b=D
 ·subst hb; rw [upd_same] at e; cases e; exact new
 ·rw [Zh hb] at e
  exact (ok b u e).stay (fun _ _ _ q=>q) (fun c q=>by rw [Zh (Z5 q hn)]; exact q) fun c xs q=>by rw [Zh (Z5 q hn)]; exact q
section
variable {X:Cx}{tg elt iter:Expr}{ifs:List Expr}{scope:Scope}{pos:Pos}{locs:List Str}{fr:List (Str×Nat)}{g:TG}{tt:TTs}{te:TE}
theorem Zne {pins:List (Addr×Obj)}{σ:St}{H1:Hp}{s2:Shared}{it:Addr}{fp:List Addr}{tn:Nat->Heap->Prop}{J:It}{cl:List (Str×Addr)}{E:Value->Shared->Prop}
  {RR:Value->Addr->Result->Shared->Prop}{QQ:List V->Hp->Prop}
  (hc:X.calm=true) (hkind:scope.kind = .function) (hcell:∀ y∈scope.names,y.2 ≠ .cell) (hlo:∀ x∈locs,scope.names.lookup x=some .local) (F:FrOk X scope fr) (hnd:(inN locs fr).Nodup)
  (cl1:∀ x c,cl.lookup x=some c->X.env.cells.lookup x=some c) (cl2:∀ x,(x,NameKind.free)∈scope.names->∃ c,cl.lookup x=some c)
  (inner:∀ (C:Addr) (s0:Shared) (H0:Hp) (ex:List Addr) (pn:List (Addr×Obj)),PG (ccx X scope cl C (inN locs fr) s0 H0 ex pn) tg g/\PTs (ccx X scope cl C (inN locs fr) s0 H0 ex pn) ifs tt/\PE (ccx X scope cl C (inN locs fr) s0 H0 ex pn) elt te)
  (I:Inv X pins σ H1 s2) (T:Turn X.prog X.w X.K tg J fp it tn) (st0:tn 0 s2.heap) (hf:∀ b∈fp,Yk X pins H1 b)
  {W:Nat->Nat->List V->Hp->Prop}(w0:∃ m,W 0 m [] H1) (turn:∀ i m ys H,W i m ys H ->
   (J.stop i H/\ys.length<=sizeLine/\QQ ys H) \/
   (J.go i H/\ys.length < sizeLine/\∃ m',m' < m/\∀ x H',J.yld i H x H'->Vn locs.length (inF fr σ) g tt te x H' (fun y H4=>W (i+1) m' (ys ++ [y]) H4) fun H3=>W (i+1) m' ys H3))
  (hRR:∀ (D C:Addr) (ys:List V) (H':Hp) (s':Shared) (m:Str->Option Value),H' D=none->D≠C->Inv X pins σ (upd H' D (.lst ys)) s'->Yk X pins (upd H' D (.lst ys)) C->s'.heap.Ns C m->QQ ys H'->RR (.ref D) C (.ok .next) s') :
  wpAny (model X.prog X.w) X.A (newList []) (fun acc s₃=>wpAny (model X.prog X.w) X.A (newFunctionEnv scope X.env.globals cl [] X.env.qual none .none (some X.env)) (fun cenv s₄ =>
   codeAny (model X.prog X.w) X.A (.compStart (.ListComp elt [⟨tg,iter,ifs,0⟩] scope pos) 0 (.ref it) acc {cenv with scope:=relabel scope X.env }) (RR acc cenv.locals) s₄) E s₃) E s2:=by
 refine wpAny_newObj_type (wpAny_newFunctionEnv hcell (by intro y hy; simp at hy) (fun h₁ hns₁ hsb₁=>?_) hkind)
 dsimp only at hns₁ hsb₁ ⊢
 generalize hH2:s2.heap.push {cls:=.type "list", dict:=none,data:=.seq ([]:List Value).toArray }=Hq at hns₁ hsb₁ ⊢
 have hC:Hq.objs.size=s2.heap.objs.size+1:=by rw [← hH2,Heap.size_push]
 generalize hDe:s2.heap.objs.size=D at hC ⊢
 generalize hCe:Hq.objs.size=C at hC hns₁ hsb₁ ⊢
 have hDC:D≠C:=by lia
 have below:∀ b,b < D->b≠C/\b≠D:=fun b hb=>⟨by lia,by lia⟩
 have ltD:∀ {b:Addr}{o:Obj},s2.heap.get? b=some o->b < D:=fun e=>hDe▸xU e
 have old:∀ b o,s2.heap.get? b=some o->h₁.get? b=some o:=fun b o e=>hsb₁.extBut b o (below b (ltD e)).1 (xG _ (hH2▸xG _ e))
 have hacc:h₁.PlainList D #[]:=⟨_,hsb₁.extBut _ _ hDC (xG _ (by subst hDe; exact hH2▸yC _ rfl))⟩
 let X':Cx:=ccx X scope cl C (inN locs fr) s2 H1 fp (X.pn++pins)
 have ltC:s2.heap.objs.size<=C:=by rw [hDe,hC]; exact Nat.le_succ _
 have fpC:Yk X pins H1 C:=I.fpOk ltC (I.hok.fresh ltC)
 have fpD:Yk X pins H1 D:=I.fpOk (Nat.le_of_eq hDe) (I.hok.fresh (Nat.le_of_eq hDe))
 have stkN:∀ b,b≠X.env.locals->b∉X.fs->b∉frs X.stack:=fun b h1 h2 z=>(xW.mp (I.stkSub b z)).elim h1 h2
 have ok':X'.Ok:=by
  refine ⟨I.ok.mod,hkind,I.ok.glob,I.ok.blt,ltC,fun x y c h1 h2=>I.ok.inj x y c (cl1 x c h1) (cl1 y c h2),fun x hx=>?_,fun x c h=>?_,I.ok.hd,I.ok.frames,.inl rfl,fun b hb=>?_,fun b o e=>I.bs b o e,yA I.ok.bsz I.sz,fun b o e hb=>?_,fun b hb=>?_,I.stack,I.stkFree⟩
  ·obtain ⟨c,hcc⟩:=cl2 x (Zmh hcell hx)
   exact ⟨c,hcc⟩
  ·cases h
  ·refine ⟨fun z=>?_,fun x c e=>(hf b hb).2.2.2.2.1 x c (cl1 x c e)⟩
   obtain ⟨o,ho,_⟩:=T.obj _ _ st0 b hb
   have z':b=C:=z
   exact (below b (ltD ho)).1 z'
  ·have hb':=hf b hb
   rcases hb'.2.2.2.1 with z | z
   ·exact I.ok.noex b o e z
   ·exact absurd (yG (xU e) (yA I.ok.bsz z)) (Nat.lt_irrefl _)
  ·exact stkN b (hf b hb).2.1 (hf b hb).2.2.1
 have I1:Inv X' [] (inS locs fr σ) H1 {s2 with heap:=h₁,toks:=s2.toks+([]:List (Str×Value)).length }:=by
  refine ⟨ok',I.os.symm▸rfl,I.bare,Un.kept old,⟨_,hns₁,fun i x v h1 h2 h3=>?_⟩,fun x c e=>?_,I.hok.fresh ltC,fun x c e=>I.freeC x c (cl1 x c e),fun p hp=>?_,I.hok.kept old,?_⟩
  ·-- a slot of the block that has a value is a free name's
   have hge:locs.length<=i:=by
    by_cases hi:i < locs.length
    ·unfold inS at h2
     rw [List.getElem?_append_left (by simpa using hi),List.getElem?_replicate,if_pos hi] at h2
     cases h2
    ·lia
   have h1':(fr.map (·.1))[i - locs.length]? = some x:=by
    have h1:(inN locs fr)[i]? = some x:=h1
    unfold inN at h1
    rw [List.getElem?_append_right hge] at h1
    exact h1
   have h2':(fr.map fun p=>(σ[p.2]?).join)[i - locs.length]? = some (some v):=by
    unfold inS at h2
    rw [List.getElem?_append_right (by simpa using hge),List.length_replicate] at h2
    exact h2
   rw [xR] at h1' h2'
   cases e:fr[i - locs.length]? with
   | none=>rw [e] at h1'; cases h1'
   | some p =>
    rw [e] at h1' h2'
    have ex:p.1=x:=Option.some.inj h1'
    have ev:(σ[p.2]?).join=some v:=Option.some.inj h2'
    obtain ⟨f1,f2⟩:=F.slots p (xT e)
    have ev' : σ[p.2]? = some (some v):=by
     cases q : σ[p.2]? with
     | none=>rw [q] at ev; cases ev
     | some o=>rw [q] at ev; cases o with
      | none=>cases ev
      | some v'=>cases ev; rfl
    obtain ⟨m0,hn0,hl0⟩:=I.loc
    have vis0:Vis X.env.scope p.1:=by
     rcases f2 with z | z
     ·exact .inr (.inl z)
     ·exact .inr (.inr z)
    obtain ⟨u,ru,lk⟩:=hl0 p.2 p.1 v f1 ev' vis0
    have hxm:x∉locs:=fun z=>by
     have hnd':=hnd
     unfold inN at hnd'
     exact (List.nodup_append.mp hnd').2.2 x z x (xV.mpr ⟨p,xT e,ex⟩) rfl
    refine ⟨u,ru,?_⟩
    rcases lk with ⟨hk,_⟩ | ⟨hk,c,hcc,hce⟩
    ·rcases f2 with z | z
     ·rw [z] at hk; cases hk
     ·rw [z] at hk; cases hk
    ·-- in the block it is a cell or free name
     have h3:Vis (relabel scope X.env) x:=h3
     have hk':(compEnvC scope cl C X.env).kindOf x=some .cell\/(compEnvC scope cl C X.env).kindOf x=some .free:=by
      rcases h3 with z | z | z
      ·exfalso
       have q:=Zg4 (env:=X.env) (F.kind p (xT e))
       rw [ex] at q
       rcases q with q | q
       ·have z':some NameKind.local=some NameKind.cell:=z.symm.trans q
        cases z'
       ·have z':some NameKind.local=some NameKind.free:=z.symm.trans q
        cases z'
      ·exact .inl z
      ·exact .inr z
     obtain ⟨c',hc'⟩:=cl2 x (Zmh hcell hk')
     have:=cl1 x c' hc'
     rw [← ex,hcc] at this
     cases this
     refine .inr ⟨hk',c,hc',?_⟩
     obtain ⟨o,ho,hd⟩:=hce
     exact ⟨o,old _ _ ho,hd⟩
  ·obtain ⟨v,o,ho,hd⟩:=I.cell x c (cl1 x c e)
   exact ⟨v,o,old _ _ ho,hd⟩
  ·have hp':p∈X.pn++pins:=(xO.mp hp).elim id fun z=>nomatch z
   obtain ⟨e,n,ne,nf,d⟩:=I.pin p hp'
   exact ⟨old _ _ e,n,(below _ (ltD e)).1,stkN _ ne nf,d⟩
  ·show (inS locs fr σ).length=(inN locs fr).length
   unfold inS inN
   simp
 have fpLt:∀ b∈fp,b < D:=fun b hb=>by
  obtain ⟨o,ho,_⟩:=T.obj _ _ st0 b hb
  exact ltD ho
 obtain ⟨m0,w0⟩:=w0
 let oD:List Value->Nat->Obj:=fun its k=>{cls:=.type "list", data:=.seq its.toArray k }
 have stat:∀ {H':Hp}{ob:Obj},(∀ b∈fp,H' b=none)->∀ b∈fp,Yk X' [(D,ob)] H' b:=fun {H' ob} hn b hb=>by
  obtain ⟨f0,f1,f2,f3,f4,f5⟩:=hf b hb
  refine ⟨hn b hb,(below b (fpLt b hb)).1,stkN b f1 f2,.inl hb,fun x c e=>f4 x c (cl1 x c e),fun p hp z=>?_⟩
  rcases xO.mp hp with q | q
  ·exact f5 p q z
  ·have e:p=(D,ob):=by simpa using q
   subst e
   exact (below b (fpLt b hb)).2 z.symm
 have loop:∀ s₃:Shared,s₃={s2 with heap:=h₁,toks:=s2.toks+([]:List (Str×Value)).length } ->
   codeAny (model X.prog X.w) X.A (.compLoop (.ListComp elt [⟨tg,iter,ifs,0⟩] scope pos) 0 (.ref it) (.ref D) (compEnvC scope cl C X.env)) (RR (.ref D) C) s₃:=by
  rintro s₃ rfl
  refine Zu4 (fun n s'=>∃ (i:Nat) (ls:St) (H':Hp) (ys:List V) (its:List Value) (k:Nat),ls.length=locs.length/\Inv X' [(D,oD its k)] (ls++inF fr σ) H' s'/\tn i s'.heap/\(∀ b∈fp,H' b=none)/\Vals ys its/\W i n ys H') ?_ m0 ?_
  ·rintro n s3 ⟨i,ls,H3,ys,its,k,hls,I3,st3,fr3,rv,w3⟩
   rcases turn i n ys H3 w3 with ⟨stop,hz,q⟩ | ⟨go,hz,m',hm,step⟩
   ·refine thn (T.done X' rfl rfl rfl hc i _ s3 _ H3 (fun _ _=>False) I3 (stat fr3) st3 stop) fun r s4 ⟨hr,I4⟩=>?_
    subst hr
    obtain ⟨pD,nD,_,_,_⟩:=I4.pin (D,oD its k) (xM _ xI)
    have nD:H3 D=none:=nD
    obtain ⟨mC,hnC,_⟩:=I4.loc
    have hnC:s4.heap.Ns C mC:=hnC
    have nC:H3 C=none:=I4.free
    have new:ObjOk X.prog X.w (upd H3 D (.lst ys)) s4.heap D (.lst ys):=⟨hz,its,k,rv,pD⟩
    have hok4:HOk X.prog X.w (upd H3 D (.lst ys)) s4.heap:=Zpd I4.hok nD new
    have u4:Un (frs X.stack) fp H1 H3 s2.heap s4.heap:=I4.base
    have u5:Un (frs X.stack) fp H1 (upd H3 D (.lst ys)) s2.heap s4.heap:=by
     refine ⟨u4.keep,u4.slot,fun b o e n hx=>?_,u4.there,fun b xs e=>?_,fun b o u e=>?_,fun b ps e=>?_⟩
     ·rw [Zh (below b (ltD e)).2]; exact u4.free b o e n hx
     ·rw [Zh (Z5 e fpD.1)]; exact u4.tups b xs e
     ·rw [Zh (Z5 e fpD.1)]; exact u4.frzs b o u e
     ·rw [Zh (Z5 e fpD.1)]; exact u4.tbls b ps e
    have I5:Inv X pins σ (upd H3 D (.lst ys)) s4:=by
     refine I.call' (ch:=fp) ?_ u5 hok4 I4.bare fun b hb=>?_
     ·have:s4.os=s2.os:=I4.os
      exact this
     ·obtain ⟨f0,f1,f2,f3,f4,f5⟩:=hf b hb
      exact ⟨f3,f1,f4,f5⟩
    have fpC':Yk X pins (upd H3 D (.lst ys)) C:=I.fpOk ltC (by rw [Zh hDC.symm]; exact nC)
    exact hRR D C ys H3 s4 mC nD hDC I5 fpC' hnC q
   ·refine thn (T.item X' rfl rfl rfl hc i _ s3 _ H3 (fun _ _=>False) I3 (stat fr3) st3 go) fun r s4 ⟨u,hr,h4⟩=>?_
    subst hr
    refine thn h4 fun _ s5 ⟨x,H5,I5,r5,y5,st5,fr5⟩=>?_
    obtain ⟨hg,htt,hte⟩:=inner C s2 H1 fp (X.pn++pins)
    have I5':=I5.pinned (stat fr5) (T.obj _ _ st5)
    refine thn (hg _ s5 _ H5 x u _ I5' r5 (step x H5 y5 ls hls)) fun _ s6 ⟨σ6,H6,I6,⟨l6,hl6,e6⟩,q6⟩=>?_
    subst e6
    refine thn (htt _ s6 _ H6 _ I6 q6) fun ok s7 ⟨H7,I7,q7⟩=>?_
    have again:∀ {H8:Hp}{s8:Shared},Inv X' ([(D,oD its k)]++Za0 fp s5.heap) (l6++inF fr σ) H8 s8->tn (i+1) s8.heap/\∀ b∈fp,H8 b=none:=fun {H8 s8} I8=>by
     refine ⟨T.keep _ _ _ st5 fun b hb o e=>(I8.pin (b,o) (xM _ (xM _ (Zeg hb e)))).1,fun b hb=>?_⟩
     obtain ⟨o,e,d⟩:=T.obj _ _ st5 b hb
     exact (I8.pin (b,o) (xM _ (xM _ (Zeg hb e)))).2.1
    cases ok with
    | false =>
     rw [if_neg xJ] at q7 ⊢
     obtain ⟨a1,a2⟩:=again I7
     exact ⟨m',hm,i+1,l6,H7,ys,its,k,hl6,I7.unpinned,a1,a2,rv,q7⟩
    | true =>
     rw [if_pos rfl] at q7 ⊢
     refine thn (hte _ s7 _ H7 _ I7 q7) fun yv s8 ⟨y,H8,I8,r8,q8⟩=>?_
     obtain ⟨a1,a2⟩:=again I8
     obtain ⟨pD,nD,_,nfD,_⟩:=I8.pin (D,oD its k) (xM _ (yF _ xI))
     have nD:H8 D=none:=nD
     have hl8:s8.heap.PlainList D its.toArray:=⟨k,pD⟩
     have hlen:its.toArray.size<=sizeLine:=by
      rw [xX,← rv.length]; lia
     refine wpAny_list_append_plain (hsz:=hlen) hl8 fun h9 hl9 hs9=>?_
     obtain ⟨k9,e9⟩:=hl9
     have I9:Inv X' (Za0 fp s5.heap) (l6++inF fr σ) H8 s8:=I8.pins_of fun p hp=>I8.pin p (xM _ (xM _ hp))
     have I10:Inv X' (Za0 fp s5.heap) (l6++inF fr σ) H8 {s8 with heap:=h9 }:=by
      refine I9.turned (it:=D) (t':=s8.toks) (fun b o hb e=>(hs9.2 b hb).trans e) nD ?_ ?_ ?_ ?_
      ·exact hDC
      ·exact .inr (Nat.le_of_eq hDe)
      ·exact fun x c e=>fpD.2.2.2.2.1 x c (cl1 x c e)
      ·intro p hp z
       rcases xO.mp hp with q | q
       ·exact fpD.2.2.2.2.2 p q z
       ·have:=fpLt p.1 (Zm3 q).1
        exact (below p.1 this).2 z
     have e9':h9.get? D=some (oD (its ++ [yv]) k9):=by
      rw [e9]; simp [oD]
     have I11:Inv X' [(D,oD (its ++ [yv]) k9)] (l6++inF fr σ) H8 {s8 with heap:=h9 }:=I10.pins_of fun p hp=>by
      have e:p=(D,oD (its ++ [yv]) k9):=by simpa using hp
      subst e
      exact ⟨e9',nD,hDC,nfD,fun v z=>by cases z⟩
     refine ⟨m',hm,i+1,l6,H8,ys ++ [y],its ++ [yv],k9,hl6,I11,?_,a2,Vals.append rv (.cons r8 .nil),q8⟩
     exact T.keep _ _ _ a1 fun b hb o e=>(hs9.2 b (below b (fpLt b hb)).2).trans e
  ·have e0:List.replicate locs.length none++inF fr σ=inS locs fr σ:=rfl
   obtain ⟨k0,eD⟩:=hacc
   refine ⟨0,List.replicate locs.length none,H1,[],[],k0,by simp,?_,T.keep _ _ _ st0 fun b _ o e=>old b o e,fun b hb=>(hf b hb).1,.nil,w0⟩
   rw [e0]
   refine I1.pins_of fun p hp=>?_
   have e:p=(D,oD [] k0):=by simpa using hp
   subst e
   exact ⟨eD,fpD.1,hDC,stkN D fpD.2.1 fpD.2.2.1,fun v z=>by cases z⟩
 exact codeAny_compStart_list (loop _ rfl) (T.self _ 0 _ _ _ (T.keep _ _ _ st0 fun b _ o e=>old b o e) (loop _ rfl))
structure CompOk (X:Cx) (scope:Scope) (locs:List Str) (fr:List (Str×Nat)):Prop where
 kind:scope.kind = .function
 nocell:∀ y∈scope.names,y.2 ≠ .cell
 names:∀ y∈scope.names,y.2 = .local->scope.names.lookup y.1=some .local
 own:∀ x∈locs,scope.names.lookup x=some .local
 free:∀ y∈scope.names,y.2 = .free->y.1∈fr.map (·.1)
 nd:(inN locs fr).Nodup
theorem FrOk.nil:FrOk X scope []:=⟨(fun _ h=>nomatch h),(fun _ h=>nomatch h)⟩
theorem FrOk.cons {x:Str}{j:Nat}{fr:List (Str×Nat)}(h1:X.N[j]? = some x) (h2:X.env.kindOf x=some .cell\/X.env.kindOf x=some .free) (h3:scope.names.lookup x=some .free) (t:FrOk X scope fr):FrOk X scope ((x,j)::fr) :=
 ⟨fun p hp=>(xW.mp hp).elim (fun e=>by subst e; exact ⟨h1,h2⟩) (t.slots p),fun p hp=>(xW.mp hp).elim (fun e=>by subst e; exact h3) (t.kind p)⟩
theorem CompOk.clos {pins:List (Addr×Obj)}{σ:St}{H:Hp}{s:Shared}(S:CompOk X scope locs fr) (F:FrOk X scope fr) (I:Inv X pins σ H s) :
  ∃ cl,closureFor scope X.env=pure cl/\(∀ x c,cl.lookup x=some c->X.env.cells.lookup x=some c)/\(∀ x,(x,NameKind.free)∈scope.names->∃ c,cl.lookup x=some c):=by
 refine Zwl fun p hp hk=>?_
 obtain ⟨q,hq,e⟩:=xV.mp (S.free p hp hk)
 obtain ⟨c,hc⟩:=I.ok.has q.1 (F.slots q hq).2
 exact ⟨c,e▸hc⟩
theorem Zy3 {wi:TI}(S:CompOk X scope locs fr) (F:FrOk X scope fr) (hc:X.calm=true) (hi:PI X tg iter wi)
  (inner:∀ (cl:List (Str×Addr)) (C:Addr) (s0:Shared) (H0:Hp) (ex:List Addr) (pn:List (Addr×Obj)),PG (ccx X scope cl C (inN locs fr) s0 H0 ex pn) tg g/\PTs (ccx X scope cl C (inN locs fr) s0 H0 ex pn) ifs tt/\PE (ccx X scope cl C (inN locs fr) s0 H0 ex pn) elt te)
  (hs:∀ x,foldedSetIterable iter X.env x=pure x:=by intro _; rfl):PE X (.ListComp elt [⟨tg,iter,ifs,0⟩] scope pos) (Zfl locs.length fr wi g tt te):=by
 intro pins s σ H Q I h
 obtain ⟨cl,hcl,cl1,cl2⟩:=S.clos F I
 rw [eval_ListComp]
 refine wpAny_comprehension_free (use:=none) rfl hs hcl S.kind S.names (thn (hi pins s σ H _ I h) fun v s1 h1=>thn h1 fun itv s2 h2=>?_)
 obtain ⟨it,fp,tn,J,H1,e,I2,T,st2,f2,W,w0,turn⟩:=h2
 subst e
 refine Zne (QQ:=fun ys H'=>∀ l,H' l=none->Q (.ref l) (upd H' l (.lst ys))) hc S.kind S.nocell S.own F S.nd cl1 cl2 (inner cl) I2 T st2 f2 w0 turn fun D C ys H' s' m nD hDC I' fC hn q=>?_
 refine ⟨m,hn,fun h' hs'=>?_⟩
 obtain ⟨f0,f1,f2,f3,f4,f5⟩:=fC
 exact ⟨.ref D,_,I'.turned (it:=C) (t':=s'.toks) (fun b o hb e=>(hs'.2 b hb).trans e) f0 f1 f3 f4 f5,rfl,q D nD⟩
theorem Z1a {wi:TI}{i:Nat}{x:Str}{pos' spos:Pos}(S:CompOk X scope locs fr) (F:FrOk X scope fr) (hc:X.calm=true) (hi:PI X tg iter wi)
  (inner:∀ (cl:List (Str×Addr)) (C:Addr) (s0:Shared) (H0:Hp) (ex:List Addr) (pn:List (Addr×Obj)),PG (ccx X scope cl C (inN locs fr) s0 H0 ex pn) tg g/\PTs (ccx X scope cl C (inN locs fr) s0 H0 ex pn) ifs tt/\PE (ccx X scope cl C (inN locs fr) s0 H0 ex pn) elt te)
  (hN:X.N.Nodup) (hi0:X.N[i]? = some x) (hx:X.env.scope.names.lookup x=some .local) (hsw:swapsWith (.ListComp elt [⟨tg,iter,ifs,0⟩] scope pos) (some (.Name x pos')) spos.line X.env=pure true)
  (hs:∀ x,foldedSetIterable iter X.env x=pure x:=by intro _; rfl):PS X (.Assign [.Name x pos'] (.ListComp elt [⟨tg,iter,ifs,0⟩] scope pos) spos) (Uf (Zfl locs.length fr wi g tt te) (Yv i)):=by
 intro pins s σ H D0 I h
 obtain ⟨cl,hcl,cl1,cl2⟩:=S.clos F I
 rw [exec_Assign_Name_used _ _ _ _ hsw]
 refine wpAny_bind (wpAny_standAt (wpAny_bind ?_))
 show wpAny _ X.A (do let _ ← comprehension (.ListComp elt [⟨tg,iter,ifs,0⟩] scope pos) scope X.env _ (newList []) false (eval iter X.env) (some (assign (.Name x pos') X.env))) _ _ s
 refine wpAny_bind (wpAny_mono (wpAny_comprehension_free (use:=some (assign (.Name x pos') X.env)) (Q:=fun _ s'=>SP X pins D0 .next s') rfl hs hcl S.kind S.names (thn (hi pins s σ H _ I h) fun v s1 h1=>thn h1 fun itv s2 h2=>?_)) (fun _ s' hq=>wpAny_pure (wpAny_pure hq)) fun _ _ e=>e)
 obtain ⟨it,fp,tn,J,H1,e,I2,T,st2,f2,W,w0,turn⟩:=h2
 subst e
 refine Zne (QQ:=fun ys H'=>∀ l,H' l=none->Yv i (.ref l) σ (upd H' l (.lst ys)) D0.nx) hc S.kind S.nocell S.own F S.nd cl1 cl2 (inner cl) I2 T st2 f2 w0 turn fun D C ys H' s' m nD hDC I' fC hn q=>?_
 obtain ⟨f0,f1,f2,f3,f4,f5⟩:=fC
 obtain ⟨oC,es,ep,hoC,hdC,hrC⟩:=id hn
 have I6:Inv X (pins ++ [(C,oC)]) σ (upd H' D (.lst ys)) s':=I'.pins_of fun p hp=>(xO.mp hp).elim (fun z=>I'.pin p (xM _ z)) fun z=>by
  have e:p=(C,oC):=by simpa using z
  subst e
  exact ⟨hoC,f0,f1,f2,fun v z=>by rw [hdC] at z; cases z⟩
 refine wpAny_assign_Name (Zcz (v:=.ref D) I6 hN hi0 (.inl hx) rfl (fun s'' I''=>?_) (.inr hx))
 obtain ⟨p1,p2,p3,p4,p5⟩:=I''.pin (C,oC) (xM _ (xM _ xI))
 refine ⟨m,⟨oC,es,ep,p1,hdC,hrC⟩,fun h' hs'=>?_⟩
 have I7:Inv X pins (σ.set i (some (.ref D))) (upd H' D (.lst ys)) s'':=I''.unpinned
 exact ⟨_,_,I7.turned (it:=C) (t':=s''.toks) (fun b o hb e=>(hs'.2 b hb).trans e) p2 p3 f3 f4 f5,q D nD⟩
end
section
variable {X:Cx}{scope:Scope}{cl:List (Str×Addr)}{C:Addr}{N':List Str}{s0:Shared}{H0:Hp}{ex:List Addr}{pn:List (Addr×Obj)}
theorem pvL (i:Nat) {x:Str}{pos:Pos}(hN:N'[i]? = some x:=by rfl) (h:scope.names.lookup x=some .local:=by rfl) (hd:(x == ("__debug__" : Str))=false:=by decide) (hcd:(x == ("__classdict__" : Str))=false:=by decide) :
  PE (ccx X scope cl C N' s0 H0 ex pn) (.Name x pos) (Yu i):=Ze8 hN (.inl (lookup_relabel_local h)) hd hcd
theorem pvF (i:Nat) {x:Str}{pos:Pos}(hN:N'[i]? = some x:=by rfl) (h:scope.names.lookup x=some .free:=by rfl) (hd:(x == ("__debug__" : Str))=false:=by decide) (hcd:(x == ("__classdict__" : Str))=false:=by decide) :
  PE (ccx X scope cl C N' s0 H0 ex pn) (.Name x pos) (Yu i):=Ze8 hN ((Zg4 h).elim (fun z=>.inr (.inl z)) fun z=>.inr (.inr z)) hd hcd
theorem pgL (i:Nat) {x:Str}{pos:Pos}(hnd:N'.Nodup) (hN:N'[i]? = some x:=by rfl) (h:scope.names.lookup x=some .local:=by rfl):PG (ccx X scope cl C N' s0 H0 ex pn) (.Name x pos) (Yv i) :=
 Zo3 (X:=ccx X scope cl C N' s0 H0 ex pn) hnd hN (.inl (lookup_relabel_local h)) (.inr (lookup_relabel_local h))
end
end L2
end
section
namespace L2
open PySem PySem.Spec PyProof.Rows
section
variable {X:Cx}
end
theorem Zmo {v:Value}{o:Option Int}(h:IsPart v o):∃ l:Option (Int×Tok),v=partValue l/\l.map (·.1)=o:=by
 cases h with
 | none=>exact ⟨none,rfl,rfl⟩
 | int i t=>exact ⟨some (i,t),rfl,rfl⟩
section
variable {X:Cx}
theorem Z3b:SlR X (fun x lo hi H Q=>∃ z,x = .str z/\z.length<=sizeLine/\Q (.str (Txt.slice z lo hi)) H):=by
 intro pins s σ H x v vl vu lo hi sl Q I rx hs pl pu h
 obtain ⟨z,rfl,hz,q⟩:=h
 obtain ⟨t,rfl⟩:=rx
 obtain ⟨l,rfl,rfl⟩:=Zmo pl
 obtain ⟨u,rfl,rfl⟩:=Zmo pu
 refine ⟨"str", _,F.slot_str_getitem.lookup,typeIs_str _ _ _,?_⟩
 refine wpAny_getItem_str_slice (l:=l) (u:=u) (st:=none) hs rfl (post_val_or_str ⟨yA (Txt.slice_le z _ _) hz,fun t' k=>?_⟩)
 exact ⟨.str _,H,I.tok _,⟨t',rfl⟩,q⟩
end
theorem Zwm {ys:List Str}:∀ {us:List Value},Vals (ys.map V.str) us->StrsAre us ys:=by
 induction ys with
 | nil=>intro us r; rw [List.map_nil] at r; cases r; exact .nil
 | cons n ns ih =>
  intro us r
  rw [xQ] at r
  cases r with
  | cons r1 r2 =>
   obtain ⟨t,e⟩:=r1
   subst e
   exact .cons n t (ih r2)
section
variable {X:Cx}
theorem Z1b:MtR X "str.join" (fun x xs H Q=>∃ sep a ys,x = .str sep/\xs = [.ref a]/\SqL X.K H a (ys.map V.str)/\(ys.map (·.length)).sum+ys.length * sep.length<=16777216/\Q (.str (Txt.join sep ys)) H):=by
 intro pins s σ H x xs v us Q I rx rs h
 obtain ⟨sep,a,ys,rfl,rfl,ha,hz,q⟩:=h
 obtain ⟨t,rfl⟩:=rx
 obtain ⟨u,rfl,ru⟩:=V3 rs
 cases ru
 obtain ⟨its,r,p,_⟩:=I.list ha
 exact join_list p.isList (Zwm r) hz fun t' k=>⟨.str _,H,I.tok _,⟨t',rfl⟩,q⟩
theorem Zy4 (hc:X.calm=true):Wv X (.builtin "sum") (fun xs H Q=>∃ (a:Addr) (ns:List Int),xs = [.ref a]/\SqL X.K H a (ns.map V.int)/\(∀ n∈ns,-1000000000<=n/\n<=1000000000)/\ns.length<=1000000/\Q (.int ns.sum) H):=by
 intro pins s σ H xs us Q I r h
 obtain ⟨a,ns,rfl,ha,hb,hl,q⟩:=h
 obtain ⟨u,rfl,ru⟩:=V3 r
 cases ru
 obtain ⟨its,rv,p,_⟩:=I.list ha
 have hlt:a < s.heap.objs.size:=by obtain ⟨o,n,e,_⟩:=p; exact xU e
 have hlen:ns.length=its.length:=by have:=rv.length; simpa using this
 have hpre:∀ k,k<=ns.length->preSum (fun i=>ns.getD i 0) k=(ns.take k).sum:=by
  intro k
  induction k with
  | zero=>intro _; simp [preSum]
  | succ k ih =>
   intro hk
   have hk':k < ns.length:=hk
   rw [preSum,ih (yY hk'),yB,List.sum_append,xD,xB hk']
   simp
 have bnd:∀ l:List Int,(∀ n∈l,-1000000000<=n/\n<=1000000000)->-1000000000 * (l.length:Int)<=l.sum/\l.sum<=1000000000 * (l.length:Int):=by
  intro l
  induction l with
  | nil=>intro _; simp
  | cons x l ih =>
   intro h
   have h1:=h x xI
   have h2:=ih fun n hn=>h n (xN _ hn)
   rw [yP,xS]
   lia
 refine call_sum_walk (wpAny_pyIter_list p.isList ?_)
 refine ⟨s.heap.objs.size,_,_,_,_,_,fun i=>ns.getD i 0,rfl,Walks.list (A:=X.A.in1) (I.ok.hd hc) _ a (yJ hlt) its.toArray,⟨⟨_,yC _ rfl,rfl,rfl⟩,p.isList.push _⟩,?_,?_,?_,fun h' tk t' hk=>?_⟩
 ·intro b hb
  show b < (s.heap.push _).objs.size
  rw [Heap.size_push]
  rcases xW.mp hb with rfl | hb
  ·exact Nat.lt_succ_self _
  ·have:b=a:=by simpa using hb
   subst this
   exact Nat.lt_succ_of_lt hlt
 ·intro i v hv
  have hv:its.toArray[i]? = some v:=hv
  have hv':its[i]? = some v:=by simpa using hv
  have hi:i < its.length:=(xC.mp hv').1
  have hb:(ns.map V.int)[i]? = some (V.int (ns.getD i 0)):=by
   rw [xR,xD,xB (by lia)]
   rfl
  obtain ⟨u,hu,ru⟩:=rv.get hb
  rw [hv'] at hu
  cases hu
  exact ru
 ·intro j hj
  have hj:j < its.toArray.size:=hj
  rw [xX] at hj
  have hj':j < ns.length:=by lia
  refine ⟨?_,?_⟩
  ·show InLong (ns.getD j 0)
   rw [xD,xB hj']
   have:=hb _ (List.getElem_mem hj')
   show -(2 ^ 63)<=ns[j]/\ns[j] < 2 ^ 63
   lia
  ·rw [hpre (j+1) hj']
   have:=bnd (ns.take (j+1)) fun n hn=>hb n (yR hn)
   have hl2:(ns.take (j+1)).length<=1000000:=by rw [xY]; lia
   show -(2 ^ 63)<=_/\_ < 2 ^ 63
   lia
 ·have e:preSum (fun i=>ns.getD i 0) its.toArray.size=ns.sum:=by
   rw [xX,← hlen,hpre _ (xE _),yL]
  refine ⟨.int ns.sum,H,I.kept (h':=h') (t':=tk) (fun b o eb=>hk b o ?_ (xG _ eb)),⟨t',by rw [e]⟩,q⟩
  intro z
  have:b=s.heap.objs.size:=by simpa using z
  exact absurd (xU eb) (by rw [this]; exact Nat.lt_irrefl _)
def Z39 (X:Cx) (f:Value) (kw:Str) (r:List V->V->Hp->VK->Prop):Prop :=
 ∀ (pins:List (Addr×Obj)) (s:Shared) (σ:St) (H:Hp) (xs:List V) (us:List Value) (k:V) (ku:Value) (Q:VK),Inv X pins σ H s->Vals xs us->RelV k ku->r xs k H Q ->
  wpAny (model X.prog X.w) X.A (call f us [(kw,ku)]) (EP X pins σ Q) X.xe s
end
section
variable {K:uFg}
end
end L2
end
section
namespace L2
open PySem PySem.Spec PyProof.Rows
def Has (K:uFg) (mg:Str->Option Value) (x:Str) (st:Stmt):Prop:=∃ f fd,Fun K x x st f fd/\mg x=some (.ref f)
def Fn (P:Program) (w:World) (K:uFg) (mg:Str->Option Value) (base:Heap) (x:Str) (ps:List Str) (k:Nat) (sp:Sp):Prop :=
 ∃ f fd,mg x=some (.ref f)/\PySem.W.keepIn K (.ref f)=true/\Binds K fd ps []/\FnOk P w K mg base CX0 k f fd ps sp
theorem Fn.mono {P:Program}{w:World}{K:uFg}{mg:Str->Option Value}{base:Heap}{x:Str}{ps:List Str}{j k:Nat}{sp:Sp}(F:Fn P w K mg base x ps j sp) (h:j<=k):Fn P w K mg base x ps k sp :=
 let ⟨f,fd,a,b,c,d⟩:=F; ⟨f,fd,a,b,c,d.mono h⟩
theorem Fn.imp {P:Program}{w:World}{K:uFg}{mg:Str->Option Value}{base:Heap}{x:Str}{ps:List Str}{k:Nat}{sp sp':Sp}(F:Fn P w K mg base x ps k sp) (h:∀ vs H Q E,sp' vs H Q E->sp vs H Q E):Fn P w K mg base x ps k sp' :=
 let ⟨f,fd,a,b,c,d⟩:=F; ⟨f,fd,a,b,c,d.imp h⟩
section
variable {P:Program}{w:World}{K:uFg}{mg:Str->Option Value}{base:Heap}
theorem Has.fn {x:Str}{st:Stmt}{N ps:List Str}{k:Nat}{sp:Sp}(h:Has K mg x st) (S:FnScope N ps (Za st))
  (hb:∀ (kV doc pm:Value) (an:Option Addr) (cdv ct:Value) (us:List Value),us.length=ps.length->bindArgs (PySem.W.fnOf x x (Vf st) (Yx st) (Za st) .none kV doc pm an cdv ct) ⟨us,[]⟩=pure (ps.zip us))
  (len:∀ vs H Q E,sp vs H Q E->vs.length=ps.length)
  (hbody:∀ (f:Addr) (cdv:Value) (A:Around) (outer:List Env) (s:Shared) (H:Hp) (vs:List V) (Q:VK) (E:XK),Room k (A.deeper (envOfC x (Za st) s.heap.objs.size f cdv))->sp vs H Q E ->
   ∃ t,PSs (Ye CX0 P w K mg base N x (Za st) f cdv A outer s H E).nox (Yx st) t/\t {nx:=fun _ H'=>Q .non H',rt:=Q } (start N vs) H):Fn P w K mg base x ps (k+1) sp:=by
 obtain ⟨f,fd,F,hm⟩:=h
 exact ⟨f,fd,hm,F.kp,F.binds hb,F.ok S len fun cdv A outer s H vs Q E hr q=>hbody f cdv A outer s H vs Q E hr q⟩
theorem Zx {h:Heap}{x:Str}{st:Stmt}{f:Addr}{oc:Value}{od an:Option Addr}{osl:Array (Option Value)}{kV doc pm cdv ct:Value}(KX:K.In h) (G:h.Ns mainGlobals mg)
  (a:PySem.W.nsIn K mainGlobals x=some (some (.ref f))) (l:K.lookup f=some ⟨oc,od,.func (PySem.W.fnOf x x (Vf st) (Yx st) (Za st) .none kV doc pm an cdv ct),osl⟩)
  (c:PySem.W.codeIn K cdv x=true) (k:PySem.W.keepIn K (.ref f)=true):Has K mg x st:=⟨f,_,Zqj l c k,PySem.W.mg_of KX G a⟩
end
def tFn (sp:Sp) (t:TA):TE:=fun σ H Q=>t σ H fun vs H1=>sp vs H1 Q E0
section
variable {X:Cx}
theorem Z4a {k:Nat}{ps:List Str}{sp:Sp}{x:Str}{p pos:Pos}{e:Expr}{es:List Expr}{t:TA}(F:Fn X.prog X.w X.K X.mg X.base x ps k sp) (hr:Room k X.A) (hg:Gl X x) (ha:PA X (e::es) t)
  (hdb:(x == ("__debug__" : Str))=false:=by decide) (he:starEach (e::es) X.env=(false,eval e X.env)::starEach es X.env:=by rfl) (hpl:(backTo pos (starEach es X.env)).any (·.1)=false:=by rfl) :
  PE X (.Call (.Name x p) (e::es) [] pos) (tFn sp t):=by
 obtain ⟨f,fd,hm,hk,hb,G⟩:=F
 intro pins s σ H Q I h
 refine Z0x G hr hg hm hk hb .nil Z38 ha hdb he hpl pins s σ H Q I ?_
 have e:Zi7 sp [] E0 t=tFn sp t:=by
  unfold Zi7 tFn
  simp only [yO]
 rw [e]
 exact h
theorem Z3c:UnR X (unaryOp .USub) (rU fun i=>.int (-i)):=by
 intro pins s σ H x v Q I rx h
 obtain ⟨i,rfl,q⟩:=h
 obtain ⟨t,rfl⟩:=rx
 exact neg_int ⟨.int (-i),H,I.tok _,⟨_,rfl⟩,q⟩
end
theorem Yy:bootBuiltins "len" = some (.builtin "len"):=by decide +kernel
theorem Zr2:bootBuiltins "max" = some (.builtin "max"):=by decide +kernel
theorem Zr3:bootBuiltins "min" = some (.builtin "min"):=by decide +kernel
theorem Zi9:bootBuiltins "sum" = some (.builtin "sum"):=by decide +kernel
theorem Zej:bootBuiltins "sorted" = some (.builtin "sorted"):=by decide +kernel
theorem Zg8:bootBuiltins "isinstance" = some (.builtin "isinstance"):=by decide +kernel
theorem Ziq:bootBuiltins "list" = some (.type "list"):=by decide +kernel
def SameX (s:Addr) (H H':Hp):Prop:=∀ b o,b≠s->H b=some o->H' b=some o
theorem SameX.refl {s:Addr}{H:Hp}:SameX s H H:=fun _ _ _ e=>e
theorem SameX.trans {s:Addr}{H H1 H2:Hp}(a:SameX s H H1) (b:SameX s H1 H2):SameX s H H2:=fun c o n e=>b c o n (a c o n e)
theorem SameX.upd {s:Addr}{H:Hp}{o:HO}:SameX s H (upd H s o):=fun b _ n e=>by rw [Zh n]; exact e
theorem SameX.new {s l:Addr}{H:Hp}{o:HO}(h:H l=none):SameX s H (L2.upd H l o):=fun b _ _ e=>by rw [Zh (Z5 e h)]; exact e
theorem Same.new {l:Addr}{H:Hp}{o:HO}(h:H l=none):Same H (L2.upd H l o):=fun b _ e=>by rw [Zh (Z5 e h)]; exact e
theorem Same.x {s:Addr}{H H':Hp}(h:Same H H'):SameX s H H':=fun b o _ e=>h b o e
def SrcAt (H:Hp) (s la:Addr):Prop:=∃ (ns:List Int) (i big st cnt:Int),H s=some (.lst [.ref la,.int i,.int big,.int st,.int cnt])/\H la=some (.lst (ns.map V.int))/\0<=i/\la≠s
theorem SrcAt.keep {H H':Hp}{s la:Addr}(h:SrcAt H s la) (k:Same H H'):SrcAt H' s la:=by
 obtain ⟨ns,i,big,st,cnt,h1,h2,h3,h4⟩:=h
 exact ⟨ns,i,big,st,cnt,k _ _ h1,k _ _ h2,h3,h4⟩
theorem SrcAt.keepX {H H':Hp}{s la l:Addr}(h:SrcAt H s la) (k:SameX l H H') (n1:l≠s) (n2:l≠la):SrcAt H' s la:=by
 obtain ⟨ns,i,big,st,cnt,h1,h2,h3,h4⟩:=h
 exact ⟨ns,i,big,st,cnt,k _ _ n1.symm h1,k _ _ n2.symm h2,h3,h4⟩
theorem SrcAt.ne {H:Hp}{s la l:Addr}(h:SrcAt H s la) (hl:H l=none):l≠s/\l≠la:=by
 obtain ⟨ns,i,big,st,cnt,h1,h2,h3,h4⟩:=h
 exact ⟨(Z5 h1 hl).symm,(Z5 h2 hl).symm⟩
end L2
namespace L2
open PySem PySem.Spec PyProof.Rows
theorem Yc {c A B:Prop} [Decidable c] (h1:c->A) (h2:¬ c->B):if decide c=true then A else B:=by
 by_cases h:c
 ·rw [if_pos (xH h)]; exact h1 h
 ·rw [if_neg (by rw [xK h]; exact xJ)]; exact h2 h
theorem Uo {c A B:Prop} [Decidable c] (h1:¬ c->A) (h2:c->B):if (!decide c)=true then A else B:=by
 by_cases h:c
 ·rw [if_neg (by rw [xH h]; exact xJ)]; exact h2 h
 ·rw [if_pos (by rw [xK h]; rfl)]; exact h1 h
theorem Z1c {ns:List Int}{i:Int}(h0 : 0<=i) (h1:i < (ns.map V.int).length):atI (ns.map V.int) i=some (.int (ns.getD i.toNat 0)):=by
 obtain ⟨j,rfl⟩:=yN h0
 rw [xA] at h1
 refine Yh ?_
 rw [xR,xZ,xD,xB (by lia)]
 rfl
end L2
namespace L2
open PySem PySem.Spec PyProof.Rows
def Nm (sc:Scope) (x:Str) (k:NameKind):Prop:=sc.names.lookup x=some k/\(x == ("__debug__" : Str))=false/\(x == ("__classdict__" : Str))=false/\x ≠ "__name__"
instance (sc:Scope) (x:Str) (k:NameKind):Decidable (Nm sc x k):=by unfold Nm; exact inferInstance
section
variable {X:Cx}{x:Str}{pos:Pos}
theorem pvN (i:Nat) (n:Nm X.env.scope x .local) (hN:X.N[i]? = some x:=by rfl):PE X (.Name x pos) (Yu i):=Ze8 hN (.inl n.1) n.2.1 n.2.2.1
theorem pvC (i:Nat) (n:Nm X.env.scope x .cell) (hN:X.N[i]? = some x:=by rfl):PE X (.Name x pos) (Yu i):=Ze8 hN (.inr (.inl n.1)) n.2.1 n.2.2.1
theorem Zy5 {v:V}{u:Value}(n:Nm X.env.scope x .globalImplicit) (hm:X.mg x=some u) (r:RelV v u):PE X (.Name x pos) (tC v):=Z0k n.1 hm r n.2.1
theorem Zy6 {v:V}{u:Value}(n:Nm X.env.scope x .globalImplicit) (hm:X.mg x=none) (hv:bootBuiltins x=some u) (r:RelV v u):PE X (.Name x pos) (tC v):=Z0l n.1 hm hv r n.2.2.2 n.2.1
theorem Z3d {k:Nat}{ps:List Str}{sp:Sp}{p:Pos}{e:Expr}{es:List Expr}{t:TA}(F:Fn X.prog X.w X.K X.mg X.base x ps k sp) (hr:Room k X.A) (n:Nm X.env.scope x .globalImplicit) (ha:PA X (e::es) t)
  (he:starEach (e::es) X.env=(false,eval e X.env)::starEach es X.env:=by rfl) (hpl:(backTo pos (starEach es X.env)).any (·.1)=false:=by rfl) :
  PE X (.Call (.Name x p) (e::es) [] pos) (tFn sp t):=Z4a F hr n.1 ha n.2.1 he hpl
theorem Zxp {p:Pos}{e:Expr}{es:List Expr}{t:TA}{id:String}{r:List V->Hp->VK->Prop}(hc:Wv X (.builtin id) r) (n:Nm X.env.scope x .globalImplicit) (hm:X.mg x=none) (hv:bootBuiltins x=some (.builtin id)) (ha:PA X (e::es) t)
  (he:starEach (e::es) X.env=(false,eval e X.env)::starEach es X.env:=by rfl) (hpl:(backTo pos (starEach es X.env)).any (·.1)=false:=by rfl):PE X (.Call (.Name x p) (e::es) [] pos) (tCB r t):=Zyt hc n.1 hm hv ha n.2.2.2 n.2.1 he hpl
theorem Zwn {p:Pos}{e:Expr}{es:List Expr}{t:TA}{T:String}{r:List V->Hp->VK->Prop}(hc:Wv X (.type T) r) (n:Nm X.env.scope x .globalImplicit) (hm:X.mg x=none) (hv:bootBuiltins x=some (.type T)) (ha:PA X (e::es) t)
  (he:starEach (e::es) X.env=(false,eval e X.env)::starEach es X.env:=by rfl) (hpl:(backTo pos (starEach es X.env)).any (·.1)=false:=by rfl):PE X (.Call (.Name x p) (e::es) [] pos) (tCB r t):=Zxi hc n.1 hm hv ha n.2.2.2 n.2.1 he hpl
theorem Z1d {i:Nat}{e:Expr}{te:TE}{pos':Pos}(hN:X.N.Nodup) (n:Nm X.env.scope x .local) (he:PE X e te) (hi:X.N[i]? = some x:=by rfl) (hs:swapsWith e (some (.Name x pos')) pos.line X.env=pure false:=by rfl) :
  PS X (.Assign [.Name x pos'] e pos) (Uf te (Yv i)):=Zp9 hN hi (.inl n.1) he hs (.inr n.1)
theorem Zy7 {i:Nat}{e:Expr}{te:TE}{pos':Pos}(hN:X.N.Nodup) (n:Nm X.env.scope x .cell) (he:PE X e te) (hf:X.fn x=true:=by rfl) (hi:X.N[i]? = some x:=by rfl) (hs:swapsWith e (some (.Name x pos')) pos.line X.env=pure false:=by rfl) :
  PS X (.Assign [.Name x pos'] e pos) (Uf te (Yv i)):=Zp9 hN hi (.inr n.1) he hs (.inl hf)
theorem Z1e {i:Nat}{e:Expr}{te:TE}{op:Operator}{ti:TIp}{pos':Pos}(hN:X.N.Nodup) (n:Nm X.env.scope x .local) (he:PE X e te) (ho:PIp X op ti) (hi:X.N[i]? = some x:=by rfl) :
  PS X (.AugAssign (.Name x pos') op e pos) (Zk4 i te ti):=Z2q hN hi (.inl n.1) he ho (.inr n.1)
theorem Zy8 {i:Nat}(hN:X.N.Nodup) (n:Nm X.env.scope x .local) (hi:X.N[i]? = some x:=by rfl):PG X (.Name x pos) (Yv i):=Zo3 hN hi (.inl n.1) (.inr n.1)
end
section
variable {X:Cx}{scope:Scope}{cl:List (Str×Addr)}{C:Addr}{N':List Str}{s0:Shared}{H0:Hp}{ex:List Addr}{pn:List (Addr×Obj)}{x:Str}{pos:Pos}
theorem Ybe (i:Nat) (n:Nm scope x .local:=by decide +kernel) (hN:N'[i]? = some x:=by rfl):PE (ccx X scope cl C N' s0 H0 ex pn) (.Name x pos) (Yu i):=pvL i hN n.1 n.2.1 n.2.2.1
theorem Ybf (i:Nat) (n:Nm scope x .free:=by decide +kernel) (hN:N'[i]? = some x:=by rfl):PE (ccx X scope cl C N' s0 H0 ex pn) (.Name x pos) (Yu i):=pvF i hN n.1 n.2.1 n.2.2.1
theorem Ybg (i:Nat) (hnd:N'.Nodup) (n:Nm scope x .local:=by decide +kernel) (hN:N'[i]? = some x:=by rfl):PG (ccx X scope cl C N' s0 H0 ex pn) (.Name x pos) (Yv i):=pgL i hnd hN n.1
theorem nmC (n:Nm scope x .globalImplicit:=by decide +kernel):Nm (ccx X scope cl C N' s0 H0 ex pn).env.scope x .globalImplicit:=⟨Zma (by decide) n.1,n.2⟩
theorem FrOk.consN {j:Nat}{fr:List (Str×Nat)}(n:Nm X.env.scope x .cell) (t:FrOk X scope fr) (m:Nm scope x .free:=by decide +kernel) (h1:X.N[j]? = some x:=by rfl):FrOk X scope ((x,j)::fr):=.cons h1 (.inl n.1) m.1 t
end
end L2
end
section
namespace L2
open PySem PySem.Spec PyProof.Rows
def cs (x:Str):List Nat:=x.cps.toList
theorem Wo (x:Str):(cs x).length=x.length:=by unfold cs; exact zA
theorem Ze9 (x y:Str):cs (x++y)=cs x++cs y:=by unfold cs; rw [PySem.Str.cps_append,Array.toList_append]
theorem Zr4 (l:List Nat):cs ⟨l.toArray⟩=l:=by unfold cs; simp
theorem Zmp (xs:List Nat) (lo:Nat):∀ m,lo+m<=xs.length->((List.range m).map (lo + ·)).filterMap (xs[·]?)=(xs.drop lo).take m:=by
 intro m
 induction m with
 | zero=>intro _; simp
 | succ m ih =>
  intro h
  rw [List.range_succ,xP,List.filterMap_append,ih (by lia),yB,List.getElem?_drop]
  have:lo+m < xs.length:=by lia
  simp [xB this]
theorem Zh7 (x:Str) {i:Int}(h : 0<=i):cs (Txt.slice x none (some i))=(cs x).take i.toNat:=by
 have hl:=Wo x
 have e:Builtin.Str.strSliceIndices none (some i) 1 x.length=(List.range (min i.toNat x.length)).map (0 + ·):=by
  unfold Builtin.Str.strSliceIndices sliceRange
  simp only [show (1:Int) > 0 by decide,if_true]
  have e1:(if i < 0 then i+(x.length:Int) else i)=i:=if_neg (by lia)
  rw [e1]
  have e2:(if (0:Int) < max 0 (min i (x.length:Int)) then (max 0 (min i (x.length:Int)) - 0+1 - 1) / 1 else 0).toNat=min i.toNat x.length:=by
   split <;> (try simp only [Int.ediv_one]) <;> lia
  rw [e2]
  apply zF
  intro k _
  lia
 unfold Txt.slice
 rw [e]
 split
 ·rename_i hc
  have hc:((List.range (min i.toNat x.length)).map (0 + ·)).length=x.length:=by simpa using hc
  rw [xA,zC] at hc
  rw [yQ (by lia)]
 ·rw [Zr4]
  have:=Zmp (cs x) 0 (min i.toNat x.length) (by lia)
  rw [List.drop_zero] at this
  have e3:(cs x).take (min i.toNat x.length)=(cs x).take i.toNat:=by
   rw [← hl]
   by_cases h1:i.toNat<=(cs x).length
   ·rw [Nat.min_eq_left h1]
   ·rw [Nat.min_eq_right (by lia),yQ (by lia),yQ (by lia)]
  rw [← e3,← this]
  congr 1
  funext k
  unfold cs
  simp
theorem Z1f (x:Str) {i:Int}(h : 0<=i):cs (Txt.slice x (some i) none)=(cs x).drop i.toNat:=by
 have hl:=Wo x
 have e:Builtin.Str.strSliceIndices (some i) none 1 x.length=(List.range (x.length - min i.toNat x.length)).map (min i.toNat x.length + ·):=by
  unfold Builtin.Str.strSliceIndices sliceRange
  simp only [show (1:Int) > 0 by decide,if_true]
  have e1:(if i < 0 then i+(x.length:Int) else i)=i:=if_neg (by lia)
  rw [e1]
  have e2:(if max 0 (min i (x.length:Int)) < (x.length:Int) then ((x.length:Int) - max 0 (min i (x.length:Int))+1 - 1) / 1 else 0).toNat=x.length - min i.toNat x.length:=by
   split <;> (try simp only [Int.ediv_one]) <;> lia
  rw [e2]
  apply zF
  intro k _
  lia
 unfold Txt.slice
 rw [e]
 split
 ·rename_i hc
  have hc:((List.range (x.length - min i.toNat x.length)).map (min i.toNat x.length + ·)).length=x.length:=by simpa using hc
  rw [xA,zC] at hc
  by_cases h0:i.toNat=0
  ·rw [h0,List.drop_zero]
  ·have:x.length=0:=by lia
   rw [List.drop_of_length_le (by lia)]
   exact List.length_eq_zero_iff.mp (by lia)
 ·rw [Zr4]
  have:=Zmp (cs x) (min i.toNat x.length) (x.length - min i.toNat x.length) (by lia)
  have e3:((cs x).drop (min i.toNat x.length)).take (x.length - min i.toNat x.length)=(cs x).drop i.toNat:=by
   rw [yQ (by rw [List.length_drop]; lia)]
   by_cases h1:i.toNat<=x.length
   ·rw [Nat.min_eq_left h1]
   ·rw [Nat.min_eq_right (by lia),List.drop_of_length_le (by lia),List.drop_of_length_le (by lia)]
  rw [← e3,← this]
  congr 1
  funext k
  unfold cs
  simp
theorem Zy9:∀ ys:List Str,cs (Txt.join "" ys)=(ys.map cs).flatten:=by
 have go:∀ (ys:List Str) (a:Array Nat),(ys.foldl (fun acc p=>acc++(("" : Str)).cps++p.cps) a).toList=a.toList++(ys.map cs).flatten:=by
  intro ys
  induction ys with
  | nil=>intro a; simp
  | cons y r ih =>
   intro a
   rw [List.foldl_cons,ih]
   have:(("" : Str)).cps = #[]:=by decide +kernel
   rw [this]
   simp [cs]
 intro ys
 show (cs (Builtin.Str.glued "" ys))=_
 unfold Builtin.Str.glued
 cases ys with
 | nil=>decide +kernel
 | cons y r =>
  show (List.foldl _ y.cps r).toList=_
  rw [go]
  rfl
def Low (x:Str):Prop:=∀ c∈cs x,97<=c/\c<=122
def letters:Str := "abcdefghijklmnopqrstuvwxyz"
theorem Zwo:cs letters=(List.range 26).map (97 + ·):=by decide +kernel
theorem Zhb {d:Int}(h0 : 0<=d) (h1:d < 26):atI letters.cps.toList d=some (97+d.toNat):=by
 obtain ⟨j,rfl⟩:=yN h0
 refine Yh ?_
 show (cs letters)[j]? = _
 rw [Zwo,xR,List.getElem?_range (by lia)]
 rfl
theorem Zpe {J:It}{nl:Nat}{fv:St}{g:TG}{tt:TTs}{te:TE}{Q:VK}{H:Hp}{xs:List V}(Pv:Nat->List V->Hp->Prop) (h0:Pv 0 [] H) (hn:xs.length<=1000000)
  (hgo:∀ i H ys,i < xs.length->Pv i ys H->J.go i H) (hy:∀ i H x H' ys,i < xs.length->Pv i ys H->J.yld i H x H'->H'=H/\xs[i]? = some x) (hst:∀ H ys,Pv xs.length ys H->J.stop xs.length H)
  (hlen:∀ i ys H,Pv i ys H->ys.length<=i)
  (step:∀ i x ys H,xs[i]? = some x->Pv i ys H->Vn nl fv g tt te x H (fun y H'=>Pv (i+1) (ys ++ [y]) H') fun H'=>Pv (i+1) ys H')
  (hd:∀ ys H,Pv xs.length ys H->∀ l,H l=none->Q (.ref l) (upd H l (.lst ys))) :
  V5 J nl fv g tt te Q H:=by
 have mono:∀ {x:V}{H:Hp}{Y Y':V->Hp->Prop}{N N':Hp->Prop},Vn nl fv g tt te x H Y N->Y=Y'->N=N'->Vn nl fv g tt te x H Y' N':=fun h e1 e2=>by subst e1; subst e2; exact h
 refine ⟨fun i m ys H=>m=xs.length - i/\i<=xs.length/\Pv i ys H,⟨xs.length,by simp,yT _,h0⟩,?_⟩
 rintro i m ys H ⟨rfl,hi,p⟩
 have hl:=hlen i ys H p
 have hz:(1000000:Nat) < sizeLine:=by decide
 by_cases hlt:i < xs.length
 ·refine .inr ⟨hgo i H ys hlt p,by lia,xs.length - (i+1),by lia,fun x H' y=>?_⟩
  obtain ⟨e,ex⟩:=hy i H x H' ys hlt p y
  subst e
  refine mono (step i x ys _ ex p) ?_ ?_
  ·funext y H4
   apply propext
   exact ⟨fun q=>⟨rfl,hlt,q⟩,fun q=>q.2.2⟩
  ·funext H3
   apply propext
   exact ⟨fun q=>⟨rfl,hlt,q⟩,fun q=>q.2.2⟩
 ·have e:i=xs.length:=by lia
  subst e
  exact .inl ⟨hst H ys p,by lia,hd ys H p⟩
def Zcj (lo:Int) (n:Nat):List V:=(List.range n).map fun k=>V.int (lo+(k:Nat))
theorem Zbr (lo:Int) (n:Nat):(Zcj lo n).length=n:=by simp [Zcj]
theorem Zza {lo:Int}{n i:Nat}{x:V}(h:(Zcj lo n)[i]? = some x):i < n/\x = .int (lo+(i:Nat)):=by
 have hi:i < n:=by have:=(xC.mp h).1; rwa [Zbr] at this
 refine ⟨hi,?_⟩
 unfold Zcj at h
 rw [xR,List.getElem?_range hi] at h
 exact (Option.some.inj h).symm
theorem Zmq {lo:Int}{n:Nat}{nl:Nat}{fv:St}{g:TG}{tt:TTs}{te:TE}{Q:VK}{H:Hp}(Pv:Nat->List V->Hp->Prop) (h0:Pv 0 [] H) (hn:n<=1000000)
  (hlen:∀ i ys H,Pv i ys H->ys.length<=i)
  (step:∀ i ys H,i < n->Pv i ys H->Vn nl fv g tt te (.int (lo+(i:Nat))) H (fun y H'=>Pv (i+1) (ys ++ [y]) H') fun H'=>Pv (i+1) ys H')
  (hd:∀ ys H,Pv n ys H->∀ l,H l=none->Q (.ref l) (upd H l (.lst ys))) :
  V5 (Itr lo n) nl fv g tt te Q H:=by
 refine Zpe (xs:=Zcj lo n) Pv h0 (by rw [Zbr]; exact hn) ?_ ?_ ?_ hlen ?_ ?_
 ·intro i H ys hi _
  rw [Zbr] at hi
  exact hi
 ·rintro i H x H' ys hi _ ⟨rfl,rfl⟩
  rw [Zbr] at hi
  refine ⟨rfl,?_⟩
  unfold Zcj
  rw [xR,List.getElem?_range hi]
  rfl
 ·intro H ys _
  rw [Zbr]
  exact xE _
 ·intro i x ys H hx p
  obtain ⟨hi,rfl⟩:=Zza hx
  exact step i ys H hi p
 ·intro ys H p
  rw [Zbr] at p
  exact hd ys H p
theorem Vv {K:uFg}{a:Addr}{xs:List V}{nl:Nat}{fv:St}{g:TG}{tt:TTs}{te:TE}{Q:VK}{H:Hp}(Pv:Nat->List V->Hp->Prop) (h0:Pv 0 [] H) (hn:xs.length<=1000000)
  (hl:∀ i ys H,i<=xs.length->Pv i ys H->SqL K H a xs)
  (hlen:∀ i ys H,Pv i ys H->ys.length<=i)
  (step:∀ i x ys H,xs[i]? = some x->Pv i ys H->Vn nl fv g tt te x H (fun y H'=>Pv (i+1) (ys ++ [y]) H') fun H'=>Pv (i+1) ys H')
  (hd:∀ ys H,Pv xs.length ys H->∀ l,H l=none->Q (.ref l) (upd H l (.lst ys))) :
  V5 (Itl K a) nl fv g tt te Q H:=by
 refine Zpe (xs:=xs) Pv h0 hn ?_ ?_ ?_ hlen step hd
 ·intro i H ys hi p
  exact ⟨xs,xs[i],hl i ys H (yY hi) p,by simp [hi]⟩
 ·rintro i H x H' ys hi p ⟨rfl,y⟩
  exact ⟨rfl,y xs (hl i ys _ (yY hi) p)⟩
 ·intro H ys p
  exact ⟨xs,hl _ ys H (xE _) p,xE _⟩
theorem Zck {ls:St}(h:ls.length=1):∃ a,ls = [a]:=by
 match ls,h with
 | [a],_=>exact ⟨a,rfl⟩
theorem Zbe {ls:St}(h:ls.length=2):∃ a b,ls = [a,b]:=by
 match ls,h with
 | [a,b],_=>exact ⟨a,b,rfl⟩
theorem Ybh {ls:St}(h:ls.length=3):∃ a b c,ls = [a,b,c]:=by
 match ls,h with
 | [a,b,c],_=>exact ⟨a,b,c,rfl⟩
end L2
end
section
namespace L2
open PySem PySem.Spec PyProof.Rows
structure QE (X:Cx) (e:Expr) (t:TE):Prop where
 h:PE X e t
structure QT (X:Cx) (e:Expr) (t:TT):Prop where
 h:PT X e t
structure QW (X:Cx) (e:Expr) (t:TT):Prop where
 h:PW X e t
structure QS (X:Cx) (s:Stmt) (t:TS):Prop where
 h:PS X s t
structure QSs (X:Cx) (s:List Stmt) (t:TS):Prop where
 h:PSs X s t
structure QA (X:Cx) (es:List Expr) (t:TA):Prop where
 h:PA X es t
structure QG (X:Cx) (e:Expr) (t:TG):Prop where
 h:PG X e t
structure QGs (X:Cx) (es:List Expr) (t:TGs):Prop where
 h:PGs X es t
structure QI (X:Cx) (tg iter:Expr) (t:TI):Prop where
 h:PI X tg iter t
structure QO (X:Cx) (e:Option Expr) (t:TO):Prop where
 h:PO X e t
structure QTs (X:Cx) (es:List Expr) (t:TTs):Prop where
 h:PTs X es t
structure QOp (X:Cx) (f:Value->Value->Sem Value) (r:R2):Prop where
 h:OpR X f r
structure QUn (X:Cx) (f:Value->Sem Value) (r:V->Hp->VK->Prop):Prop where
 h:UnR X f r
structure QC (X:Cx) (f:Value) (r:List V->Hp->VK->Prop):Prop where
 h:Wv X f r
structure QCk (X:Cx) (f:Value) (kw:Str) (r:List V->V->Hp->VK->Prop):Prop where
 h:Z39 X f kw r
structure QIx (X:Cx) (r:R2):Prop where
 h:IxR X r
structure QSl (X:Cx) (r:V->Option Int->Option Int->Hp->VK->Prop):Prop where
 h:SlR X r
structure QM (X:Cx) (id:String) (r:V->List V->Hp->VK->Prop):Prop where
 h:MtR X id r
structure QSet (X:Cx) (t:Zdw):Prop where
 h:Zk3 X t
structure QIp (X:Cx) (op:Operator) (t:TIp):Prop where
 h:PIp X op t
section
variable {X:Cx}{a b c:Expr}{ta tb tc te:TE}{tA tB':TT}{pos p p2 pos':Pos}{st:Stmt}{rest:List Stmt}{t u:TS}{x:Str}{es:List Expr}{e:Expr}
theorem Z0:QSs X [] Y1:=⟨Z0n⟩
theorem Ze (h1:QS X st t) (h2:QSs X rest u):QSs X (st::rest) (Zao t u):=⟨Zyn h1.h h2.h⟩
theorem Zg (h1:QS X st t):QSs X [st] t:=⟨Z0o h1.h⟩
theorem Zo (h:QE X e te):QS X (.Return (some e) pos) (Zuo te):=⟨Z2n h.h⟩
theorem Zy {c:Expr}{a b:List Stmt}{tc:TT}(hc:QT X c tc) (ha:QSs X a t) (hb:QSs X b u):QS X (.If c a b pos) (Zk2 tc t u):=⟨Z3x hc.h ha.h hb.h⟩
theorem Yl (he:QE X e te) (hs:swapsWith e none pos.line X.env=pure false:=by rfl):QS X (.Expr e pos) (Zfj te):=⟨Z0p he.h hs⟩
theorem Zl {i:Nat}(hN:X.N.Nodup) (n:Nm X.env.scope x .local) (he:QE X e te) (hi:X.N[i]? = some x:=by rfl) (hs:swapsWith e (some (.Name x pos')) pos.line X.env=pure false:=by rfl) :
  QS X (.Assign [.Name x pos'] e pos) (Uf te (Yv i)):=⟨Z1d hN n he.h hi hs⟩
theorem Zhs {i:Nat}(hN:X.N.Nodup) (n:Nm X.env.scope x .cell) (he:QE X e te) (hf:X.fn x=true:=by rfl) (hi:X.N[i]? = some x:=by rfl) (hs:swapsWith e (some (.Name x pos')) pos.line X.env=pure false:=by rfl) :
  QS X (.Assign [.Name x pos'] e pos) (Uf te (Yv i)):=⟨Zy7 hN n he.h hf hi hs⟩
theorem Zbw {tg:Expr}{g:TG}(he:QE X e te) (hg:QG X tg g) (hs:swapsWithSole [tg] e pos.line X.env=pure false:=by rfl) (hw:swappedStores [tg] e X.env=pure none:=by rfl)
  (h1:(assignEach [tg] X.env).map (·.2) = [assign tg X.env]:=by rfl):QS X (.Assign [tg] e pos) (Uf te g):=⟨Z2p he.h hg.h hs hw h1⟩
theorem Zpf {i:Nat}{op:Operator}{ti:TIp}(hN:X.N.Nodup) (n:Nm X.env.scope x .local) (he:QE X e te) (ho:QIp X op ti) (hi:X.N[i]? = some x:=by rfl) :
  QS X (.AugAssign (.Name x pos') op e pos) (Zk4 i te ti):=⟨Z1e hN n he.h ho.h hi⟩
theorem Zpg:QIp X .Sub (ipI fun i j=>i - j):=⟨Z2r⟩
def Zae (J:It) (g:TG) (tb:TS) (D:Ends) (σ:St) (H1:Hp):Prop:=∃ W:Nat->Nat->St->Hp->Prop,(∃ m,W 0 m σ H1)/\∀ i m σ H,W i m σ H ->
 (J.stop i H/\D.nx σ H)\/(J.go i H/\∃ N:St->Hp->Prop,(∀ σ' H',N σ' H'->∃ m',m' < m/\W (i+1) m' σ' H')/\∀ x H',J.yld i H x H'->g x σ H' fun σ2 H2=>tb {D with nx:=N,ct:=N,bk:=D.nx } σ2 H2)
def Z4b (wi:TI) (g:TG) (tb:TS):TS:=fun D σ H=>wi σ H fun J H1=>Zae J g tb D σ H1
theorem Y7 {tg iter:Expr}{body:List Stmt}{wi:TI}{g:TG}(hp:PassesOwn (model X.prog X.w) X.A X.env X.xe) (hc:X.calm=true) (hi:QI X tg iter wi) (hg:QG X tg g) (hb:QSs X body t)
  (hs:∀ x,foldedSetIterable iter X.env x=pure x:=by intro _; rfl):QS X (.For tg iter body [] pos) (Z4b wi g t):=⟨Z2s hp hc hi.h hg.h hb.h hs⟩
theorem Zzb {c:Expr}{body:List Stmt}{tc:TT}(hp:PassesOwn (model X.prog X.w) X.A X.env X.xe) (hc:QT X c tc) (hb:QSs X body t):QS X (.While c body [] pos) (Zqa tc t):=⟨Zyp hp hc.h hb.h⟩
theorem Yo {i:Nat}(hN:X.N.Nodup) (n:Nm X.env.scope x .local) (hi:X.N[i]? = some x:=by rfl):QG X (.Name x pos) (Yv i):=⟨Zy8 hN n hi⟩
theorem Wc:QGs X [] Zdx:=⟨Z0q⟩
theorem Z2 {t:TG}{u:TGs}(h1:QG X e t) (h2:QGs X es u) (hs:(assignEach (e::es) X.env).map (·.2)=assign e X.env::(assignEach es X.env).map (·.2):=by rfl):QGs X (e::es) (Zaa t u):=⟨Zyo h1.h h2.h hs⟩
theorem Zdd {k:Nat}{t:TGs}{n:Nat}(hc:X.calm=true) (h:QGs X es t) (hn:(assignEach es X.env).length=n:=by rfl) (hst:(assignEach es X.env).findIdx? (·.1)=none:=by rfl):QG X (.Tuple es k pos) (Zci X.K n t):=⟨Zp8 hc h.h hn hst⟩
theorem Zbx {o i:Expr}{to ti:TE}{t:Zdw}(ho:QE X o to) (hi:QE X i ti) (hs:QSet X t)
  (ha:∀ v,assign (.Subscript o i pos) X.env v=(do
   let ov ← holding [v] (eval o X.env)
   let iv ← holding [v,ov] (eval i X.env)
   standAt pos
   holding [v,ov,iv] (setItem ov iv v)
   release [v,ov,iv] []):=by intro _; rfl):QG X (.Subscript o i pos) (Zup to ti t):=⟨Z2o ho.h hi.h hs.h ha⟩
theorem Zbl:QSet X Zrv:=⟨Zyx⟩
variable {tg:Expr}
theorem Yp {l:Expr}(hl:QE X l te):QI X tg l (Zrq X.K te):=⟨Z0r hl.h⟩
theorem Zbm {a:Expr}{ta:TA}(hg:Gl X "range") (hm:X.mg "range" = none) (ha:QA X [a] ta) (hs:starEach [a] X.env = [(false,eval a X.env)]:=by rfl):QI X tg (.Call (.Name "range" p) [a] [] pos) (Zrr ta):=⟨Zxd hg hm ha.h hs⟩
theorem Znf {a b:Expr}{ta:TA}(hg:Gl X "range") (hm:X.mg "range" = none) (ha:QA X [a,b] ta) (hs:starEach [a,b] X.env = [(false,eval a X.env),(false,eval b X.env)]:=by rfl) (hs2:starEach [b] X.env = [(false,eval b X.env)]:=by rfl) :
  QI X tg (.Call (.Name "range" p) [a,b] [] pos) (Zrs ta):=⟨Zxe hg hm ha.h hs hs2⟩
theorem Zc:QA X [] Zap:=⟨Z20⟩
theorem Zb {t:TA}(ha:QE X e te) (hr:QA X es t) (hs:starEach (e::es) X.env=(false,eval e X.env)::starEach es X.env:=by rfl):QA X (e::es) (Vm te t):=⟨Z0w ha.h hr.h hs⟩
theorem Y8 {x1} {t:TA}(h:QA X es t):QE X (.Tuple es x1 pos) (Zus t):=⟨Z21 h.h⟩
theorem Yq {t:TA}(h:QA X es t):QE X (.List es pos) (Zut t):=⟨Z22 h.h⟩
theorem Zde (ha:QT X a tA):QT X (.UnaryOp .Not a pos) (Zun tA):=⟨Z2k ha.h⟩
theorem QW.pt (h:QW X e tA):QT X e tA:=⟨PW.pt h.h⟩
theorem Zeq (ha:QT X a tA):QW X (.BoolOp .And [a] pos) tA:=⟨Z0m ha.h⟩
theorem Zqk (ha:QT X a tA):QW X (.BoolOp .Or [a] pos) tA:=⟨Z2i ha.h⟩
theorem Zfa {rest:List Expr}(ha:QT X a tA) (hb:QW X (.BoolOp .And (b::rest) pos) tB'):QW X (.BoolOp .And (a::b::rest) pos) (Zum tA tB'):=⟨Z2j ha.h hb.h⟩
theorem Zr5 {rest:List Expr}(ha:QT X a tA) (hb:QW X (.BoolOp .Or (b::rest) pos) tB'):QW X (.BoolOp .Or (a::b::rest) pos) (tOr tA tB'):=⟨Z3w ha.h hb.h⟩
theorem Zw {op:CmpOp}{r:R2}(ho:QOp X (compareOp op) r) (ha:QE X a ta) (hb:QE X b tb) (hm:behindInMarks op b=false):QT X (.Compare a [op] [b] pos) (Zdj (tOp r ta tb)):=⟨Z0v ho.h ha.h hb.h hm⟩
theorem Up {op:CmpOp}{r:R2}(ho:QOp X (compareOp op) r) (ha:QE X a ta) (hb:QE X b tb) (hm:behindInMarks op b=false):QE X (.Compare a [op] [b] pos) (tOp r ta tb):=⟨Z0u ho.h ha.h hb.h hm⟩
theorem Zn2 {op op':CmpOp}{r r':R2}(ho:QOp X (compareOp op) r) (ho':QOp X (compareOp op') r') (ha:QE X a ta) (hb:QE X b tb) (hc:QE X c tc)
  (hm:lastMarks [op,op'] [b,c]=false:=by with_unfolding_all rfl):QT X (.Compare a [op,op'] [b,c] pos) (Zdj (Zqc r r' ta tb tc)):=⟨Zyr ho.h ho'.h ha.h hb.h hc.h hm⟩
theorem Uq (h:QE X e te) (he:∀ whole,isTrue e X.env whole=(do let v ← whole; standAt e.pos; holding [v] (truthy v)):=by intro _; rfl):QT X e (tB te):=⟨Z2h h.h he⟩
theorem Zd {i j pos}:QE X (.Constant (.int i) j pos) (tC (.int i)):=⟨Z2e⟩
theorem Vb {b j pos}:QE X (.Constant (.bool b) j pos) (tC (.bl b)):=⟨Z3v⟩
theorem V6 {j pos}:QE X (.Constant .none j pos) (tC .non):=⟨Z2f⟩
theorem Zir {x j pos}:QE X (.Constant (.str x) j pos) (tC (.str x)):=⟨Z2g⟩
theorem qvN (i:Nat) (n:Nm X.env.scope x .local) (hN:X.N[i]? = some x:=by rfl):QE X (.Name x pos) (Yu i):=⟨pvN i n hN⟩
theorem qvC (i:Nat) (n:Nm X.env.scope x .cell) (hN:X.N[i]? = some x:=by rfl):QE X (.Name x pos) (Yu i):=⟨pvC i n hN⟩
theorem Yg {v:V}{u:Value}(n:Nm X.env.scope x .globalImplicit) (hm:X.mg x=some u) (r:RelV v u):QE X (.Name x pos) (tC v):=⟨Zy5 n hm r⟩
theorem Zzc {v:V}{u:Value}(n:Nm X.env.scope x .globalImplicit) (hm:X.mg x=none) (hv:bootBuiltins x=some u) (r:RelV v u):QE X (.Name x pos) (tC v):=⟨Zy6 n hm hv r⟩
theorem Zn {op:Operator}{r:R2}(ho:QOp X (binaryOp op) r) (ha:QE X a ta) (hb:QE X b tb):QE X (.BinOp a op b pos) (tOp r ta tb):=⟨Z3y ho.h ha.h hb.h⟩
theorem Zdk {op:UnaryOp}{r:V->Hp->VK->Prop}(ho:QUn X (unaryOp op) r) (ha:QE X a ta):QE X (.UnaryOp op a pos) (tUn r ta):=⟨Z3z ho.h ha.h⟩
theorem Z3e {op} (h:QE X a ta):QE X (.BoolOp op [a] pos) ta:=⟨Z2l h.h⟩
theorem Z3f {rest:List Expr}(ha:QE X a ta) (hb:QE X (.BoolOp .And (b::rest) pos) tb):QE X (.BoolOp .And (a::b::rest) pos) (Zrp ta tb):=⟨Z2m ha.h hb.h⟩
theorem Zzd (hc:QT X c tA) (ha:QE X a ta) (hb:QE X b tb):QE X (.IfExp c a b pos) (tIf tA ta tb):=⟨Zym hc.h ha.h hb.h⟩
theorem Ur:QO X none Zo7:=⟨Z0y⟩
theorem Us (h:QE X e te):QO X (some e) (Zru te):=⟨Z0z h.h⟩
theorem Ut {lo hi:Option Expr}{tl th:TO}{r:V->Option Int->Option Int->Hp->VK->Prop}(hr:QSl X r) (he:QE X e te) (hl:QO X lo tl) (hu:QO X hi th):QE X (.Subscript e (.Slice lo hi none p2) pos) (tSl r te tl th):=⟨Zyw hr.h he.h hl.h hu.h⟩
theorem Zi {r:R2}(hr:QIx X r) (ha:QE X a ta) (hb:QE X b tb) (hs:Zo9 b):QE X (.Subscript a b pos) (tOp r ta tb):=⟨Z36 hr.h ha.h hb.h hs⟩
theorem Zj {k:Nat}{ps:List Str}{sp:Sp}{t:TA}(F:Fn X.prog X.w X.K X.mg X.base x ps k sp) (hr:Room k X.A) (n:Nm X.env.scope x .globalImplicit) (ha:QA X (e::es) t)
  (he:starEach (e::es) X.env=(false,eval e X.env)::starEach es X.env:=by rfl) (hpl:(backTo pos (starEach es X.env)).any (·.1)=false:=by rfl) :
  QE X (.Call (.Name x p) (e::es) [] pos) (tFn sp t):=⟨Z3d F hr n ha.h he hpl⟩
theorem Z6 {t:TA}{id:String}{r:List V->Hp->VK->Prop}(hc:QC X (.builtin id) r) (n:Nm X.env.scope x .globalImplicit) (hm:X.mg x=none) (hv:bootBuiltins x=some (.builtin id)) (ha:QA X (e::es) t)
  (he:starEach (e::es) X.env=(false,eval e X.env)::starEach es X.env:=by rfl) (hpl:(backTo pos (starEach es X.env)).any (·.1)=false:=by rfl):QE X (.Call (.Name x p) (e::es) [] pos) (tCB r t):=⟨Zxp hc.h n hm hv ha.h he hpl⟩
theorem Zhc {t:TA}{T:String}{r:List V->Hp->VK->Prop}(hc:QC X (.type T) r) (n:Nm X.env.scope x .globalImplicit) (hm:X.mg x=none) (hv:bootBuiltins x=some (.type T)) (ha:QA X (e::es) t)
  (he:starEach (e::es) X.env=(false,eval e X.env)::starEach es X.env:=by rfl) (hpl:(backTo pos (starEach es X.env)).any (·.1)=false:=by rfl):QE X (.Call (.Name x p) (e::es) [] pos) (tCB r t):=⟨Zwn hc.h n hm hv ha.h he hpl⟩
theorem Ww {o:Expr}{to:TE}{t:TA}{name:Str}{apos cpos:Pos}{T id:String}{r:V->List V->Hp->VK->Prop}(pa:PlainAttrs T) (slot:Slot T name id) (hty:typeOf (.builtin id)=pure (.type "method_descriptor")) (hm:QM X id r) (ho:QE X o to) (ha:QA X (e::es) t)
  (hbase:attributeBase o name X.env (eval o X.env)=eval o X.env:=by rfl)
  (hfew:((backTo cpos (starEach (e::es) X.env)).all (fun x=>!x.1) && (backToKw cpos (keywordEach [] X.env)).all (fun x=>x.1.isSome)
   && decide ((e::es).length+([]:List Keyword).length+(if ([]:List Keyword).isEmpty then 0 else 1) < 30))=true:=by rfl)
  (hline:(apos.endLine == cpos.line)=true:=by rfl) (hs:starEach (e::es) X.env=(false,eval e X.env)::starEach es X.env:=by rfl) (hplain:(backTo cpos (starEach es X.env)).any (·.1)=false:=by rfl) :
  QE X (.Call (.Attribute o name apos) (e::es) [] cpos) (tBM X.K T r to t):=⟨Z37 pa slot hty hm.h ho.h ha.h hbase hfew hline hs hplain⟩
theorem Yr:QOp X (binaryOp .Add) (rI0 fun i j=>.int (i+j)):=⟨Z2t⟩
theorem V7:QOp X (binaryOp .Sub) (rI0 fun i j=>.int (i - j)):=⟨Z2u⟩
theorem Zph:QOp X (binaryOp .Mult) (rI CMul fun i j=>.int (i * j)):=⟨Z2v⟩
theorem Zek:QOp X (binaryOp .FloorDiv) (rI Zk6 fun i j=>.int (i / j)):=⟨Z0s⟩
theorem Zbt:QOp X (binaryOp .Mod) (rI (fun _ j=>0 < j) fun i j=>.int (i % j)):=⟨Z2w⟩
theorem Zh8:QOp X (binaryOp .Pow) (rI Zdy fun i j=>.int (i ^ j.toNat)):=⟨Z2x⟩
theorem Zc8:QUn X (unaryOp .USub) (rU fun i=>.int (-i)):=⟨Z3c⟩
def Z4c:R2:=fun x y H Q=>∃ i j,x = .str i/\y = .str j/\i.length+j.length<=sizeLine/\Q (.str (i++j)) H
theorem Zef:QOp X (binaryOp .Add) Z4c:=⟨Zwh⟩
theorem V8:QOp X (binaryOp .Add) Zuw:=⟨Z27⟩
theorem Z1g:QOp X (binaryOp .Mult) Zux:=⟨Z28⟩
theorem We:QOp X (compareOp .Eq) rEq:=⟨Z30⟩
theorem Zql:QOp X (compareOp .NotEq) rNe:=⟨Z31⟩
theorem Uu:QOp X (compareOp .Lt) (rI0 fun i j=>.bl (decide (i < j))):=⟨Z32⟩
theorem Zdf:QOp X (compareOp .LtE) (rI0 fun i j=>.bl (decide (i<=j))):=⟨Z33⟩
theorem Z3g:QOp X (compareOp .Gt) (rI0 fun i j=>.bl (decide (j < i))):=⟨Z34⟩
theorem Zis:QOp X (compareOp .GtE) (rI0 fun i j=>.bl (decide (j<=i))):=⟨Z35⟩
def Ybi:R2:=fun x y H Q=>y = .non/\Q (.bl (decide (x = .non))) H
def Z4d:R2:=fun x y H Q=>y = .non/\Q (.bl (!decide (x = .non))) H
theorem Z1h:QOp X (compareOp .Is) Ybi:=⟨Z2y⟩
theorem Zht:QOp X (compareOp .IsNot) Z4d:=⟨Z0t⟩
theorem Zmr:QOp X (compareOp .In) (rIn X.K false):=⟨Zm8⟩
theorem Zg5:QOp X (compareOp .NotIn) (rIn X.K true):=⟨Zvo⟩
theorem Zz:QIx X (Zk8 X.K):=⟨Zpa⟩
theorem Z3:QIx X (Zf0 X.K):=⟨Zio⟩
theorem Zh9:QIx X Zuu:=⟨Z24⟩
theorem Zc2:QSl X (Zuv X.K):=⟨Z00⟩
def Ybj:V->Option Int->Option Int->Hp->VK->Prop:=fun x lo hi H Q=>∃ z,x = .str z/\z.length<=sizeLine/\Q (.str (Txt.slice z lo hi)) H
theorem Zer:QSl X Ybj:=⟨Z3b⟩
def Zpi (K:uFg):List V->Hp->VK->Prop:=fun xs H Q=>∃ p ys,xs = [.ref p]/\(SqL K H p ys\/SqT K H p ys)/\Q (.int ys.length) H
theorem Y9:QC X (.builtin "len") (Zpi X.K):=⟨Zmg⟩
def Z4e:List V->Hp->VK->Prop:=fun xs H Q=>∃ z,xs = [.str z]/\z.length<=sizeLine/\Q (.int z.length) H
theorem Zmc:QC X (.builtin "len") Z4e:=⟨Zvp⟩
def Z4f:List V->Hp->VK->Prop:=fun xs H Q=>∃ i j,xs = [.int i,.int j]/\Q (.int (if j > i then j else i)) H
def Z4g:List V->Hp->VK->Prop:=fun xs H Q=>∃ i j,xs = [.int i,.int j]/\Q (.int (if j < i then j else i)) H
theorem Zms (hc:X.calm=true):QC X (.builtin "max") Z4f:=⟨Zxg hc⟩
theorem Zmt (hc:X.calm=true):QC X (.builtin "min") Z4g:=⟨Zxh hc⟩
def Ybk (K:uFg):List V->Hp->VK->Prop:=fun xs H Q=>∃ (a:Addr) (ns:List Int),xs = [.ref a]/\SqL K H a (ns.map V.int)/\(∀ n∈ns,-1000000000<=n/\n<=1000000000)/\ns.length<=1000000/\Q (.int ns.sum) H
theorem Zhg (hc:X.calm=true):QC X (.builtin "sum") (Ybk X.K):=⟨Zy4 hc⟩
def Z1i (K:uFg):List V->Hp->VK->Prop:=fun xs H Q=>∃ p ys,xs = [.ref p]/\(SqL K H p ys\/SqT K H p ys)/\∀ l,H l=none->Q (.ref l) (upd H l (.lst ys))
theorem Zg6:QC X (.type "list") (Z1i X.K):=⟨Zvq⟩
def Z4h (K:uFg):V->List V->Hp->VK->Prop:=fun x xs H Q=>∃ sep a ys,x = .str sep/\xs = [.ref a]/\SqL K H a (ys.map V.str)/\(ys.map (·.length)).sum+ys.length * sep.length<=16777216/\Q (.str (Txt.join sep ys)) H
theorem Zze:QM X "str.join" (Z4h X.K):=⟨Z1b⟩
theorem Ug:QM X "list.append" Zeo:=⟨Zxj⟩
theorem Zxq:QM X "list.pop" Zqe:=⟨Zyy⟩
end
section
variable {g:TG}{tb:TS}{D:Ends}{σ:St}{H:Hp}
theorem Zbk {lo:Int}{n:Nat}(m:Nat) (hm:n=m) (Pv:Nat->St->Hp->Prop) (h0:Pv 0 σ H)
  (hs:∀ i σ H,i < m->Pv i σ H->g (.int (lo+i)) σ H fun σ2 H2=>tb {D with nx:=Pv (i+1),ct:=Pv (i+1),bk:=D.nx } σ2 H2) (hd:∀ σ H,Pv m σ H->D.nx σ H):Zae (Itr lo n) g tb D σ H:=by
 subst hm
 exact Zxf Pv h0 hs hd
theorem Uh {K:uFg}{a:Addr}(xs:List V) (Pv:Nat->St->Hp->Prop) (h0:Pv 0 σ H) (hl:∀ i σ H,i<=xs.length->Pv i σ H->SqL K H a xs)
  (hs:∀ i x σ H,xs[i]? = some x->Pv i σ H->g x σ H fun σ2 H2=>tb {D with nx:=Pv (i+1),ct:=Pv (i+1),bk:=D.nx } σ2 H2) (hd:∀ σ H,Pv xs.length σ H->D.nx σ H):Zae (Itl K a) g tb D σ H:=Zyq Pv h0 hl hs hd
end
section
variable {X:Cx}{tg elt iter:Expr}{ifs:List Expr}{scope:Scope}{pos:Pos}{locs:List Str}{fr:List (Str×Nat)}{g:TG}{tt:TTs}{te:TE}
theorem Vg:QTs X [] (fun _ H Q=>Q true H):=⟨Z08⟩
theorem Zbu {c:Expr}{t:TT}(h:QT X c t):QTs X [c] t:=⟨Z09 h.h⟩
structure Inn (X:Cx) (scope:Scope) (N':List Str) (tg:Expr) (ifs:List Expr) (elt:Expr) (g:TG) (tt:TTs) (te:TE):Prop where
 h:∀ (cl:List (Str×Addr)) (C:Addr) (s0:Shared) (H0:Hp) (ex:List Addr) (pn:List (Addr×Obj)),QG (ccx X scope cl C N' s0 H0 ex pn) tg g/\QTs (ccx X scope cl C N' s0 H0 ex pn) ifs tt/\QE (ccx X scope cl C N' s0 H0 ex pn) elt te
theorem Wr {wi:TI}(S:CompOk X scope locs fr) (F:FrOk X scope fr) (hc:X.calm=true) (hi:QI X tg iter wi) (inner:Inn X scope (inN locs fr) tg ifs elt g tt te)
  (hs:∀ x,foldedSetIterable iter X.env x=pure x:=by intro _; rfl):QE X (.ListComp elt [⟨tg,iter,ifs,0⟩] scope pos) (Zfl locs.length fr wi g tt te) :=
 ⟨Zy3 S F hc hi.h (fun cl C s0 H0 ex pn=>let ⟨a,b,c⟩:=inner.h cl C s0 H0 ex pn; ⟨a.h,b.h,c.h⟩) hs⟩
theorem Zes {wi:TI}{i:Nat}{x:Str}{pos' spos:Pos}(S:CompOk X scope locs fr) (F:FrOk X scope fr) (hc:X.calm=true) (hi:QI X tg iter wi) (inner:Inn X scope (inN locs fr) tg ifs elt g tt te)
  (hN:X.N.Nodup) (n:Nm X.env.scope x .local) (hsw:swapsWith (.ListComp elt [⟨tg,iter,ifs,0⟩] scope pos) (some (.Name x pos')) spos.line X.env=pure true) (hi0:X.N[i]? = some x:=by rfl)
  (hs:∀ x,foldedSetIterable iter X.env x=pure x:=by intro _; rfl):QS X (.Assign [.Name x pos'] (.ListComp elt [⟨tg,iter,ifs,0⟩] scope pos) spos) (Uf (Zfl locs.length fr wi g tt te) (Yv i)) :=
 ⟨Z1a S F hc hi.h (fun cl C s0 H0 ex pn=>let ⟨a,b,c⟩:=inner.h cl C s0 H0 ex pn; ⟨a.h,b.h,c.h⟩) hN hi0 n.1 hsw hs⟩
end
section
variable {X:Cx}{scope:Scope}{cl:List (Str×Addr)}{C:Addr}{N':List Str}{s0:Shared}{H0:Hp}{ex:List Addr}{pn:List (Addr×Obj)}{x:Str}{pos:Pos}
theorem Yj (i:Nat) (n:Nm scope x .local:=by decide +kernel) (hN:N'[i]? = some x:=by rfl):QE (ccx X scope cl C N' s0 H0 ex pn) (.Name x pos) (Yu i):=⟨Ybe i n hN⟩
theorem Y4 (i:Nat) (n:Nm scope x .free:=by decide +kernel) (hN:N'[i]? = some x:=by rfl):QE (ccx X scope cl C N' s0 H0 ex pn) (.Name x pos) (Yu i):=⟨Ybf i n hN⟩
theorem Z8 (i:Nat) (hnd:N'.Nodup) (n:Nm scope x .local:=by decide +kernel) (hN:N'[i]? = some x:=by rfl):QG (ccx X scope cl C N' s0 H0 ex pn) (.Name x pos) (Yv i):=⟨Ybg i hnd n hN⟩
end
section
variable {P:Program}{w:World}{K:uFg}{mg:Str->Option Value}{base:Heap}
theorem Has.fnQ {x:Str}{st:Stmt}{N ps:List Str}{k:Nat}{sp:Sp}(h:Has K mg x st) (S:FnScope N ps (Za st))
  (hb:∀ (kV doc pm:Value) (an:Option Addr) (cdv ct:Value) (us:List Value),us.length=ps.length->bindArgs (PySem.W.fnOf x x (Vf st) (Yx st) (Za st) .none kV doc pm an cdv ct) ⟨us,[]⟩=pure (ps.zip us))
  (len:∀ vs H Q E,sp vs H Q E->vs.length=ps.length)
  (hbody:∀ (f:Addr) (cdv:Value) (A:Around) (outer:List Env) (s:Shared) (H:Hp) (vs:List V) (Q:VK) (E:XK),Room k (A.deeper (envOfC x (Za st) s.heap.objs.size f cdv))->sp vs H Q E ->
   ∃ t,QSs (Ye CX0 P w K mg base N x (Za st) f cdv A outer s H E).nox (Yx st) t/\t {nx:=fun _ H'=>Q .non H',rt:=Q } (start N vs) H):Fn P w K mg base x ps (k+1) sp :=
 h.fn S hb len fun f cdv A outer s H vs Q E hr q=>let ⟨t,a,b⟩:=hbody f cdv A outer s H vs Q E hr q; ⟨t,a.h,b⟩
end
end L2
namespace L2
open PySem PySem.Spec PyProof.Rows
theorem Zaf {t u:TS}{D:Ends}{σ:St}{H:Hp}(R:St->Hp->Prop) (hu:∀ σ' H',R σ' H'->u D σ' H')
  (ht:∀ D':Ends,(∀ σ' H',R σ' H'->D'.nx σ' H')->(∀ v H',D.rt v H'->D'.rt v H')->(∀ σ' H',D.bk σ' H'->D'.bk σ' H')->(∀ σ' H',D.ct σ' H'->D'.ct σ' H')->t D' σ H):Zao t u D σ H :=
 ht {D with nx:=u D } hu (fun _ _ h=>h) (fun _ _ h=>h) (fun _ _ h=>h)
end L2
namespace L2
theorem Zt {i:Nat}{v:V}{σ:St}{H:Hp}{Q:St->Hp->Prop}(h:Q (σ.set i (some v)) H):Yv i v σ H Q:=h
end L2
namespace L2
open PySem PySem.Spec PyProof.Rows
theorem Fun.okQ {P:Program}{w:World}{K:uFg}{mg:Str->Option Value}{base:Heap}{x qual:Str}{st:Stmt}{f:Addr}{fd:FuncData}{N ps:List Str}{k:Nat}{sp:Sp}(F:Fun K x qual st f fd) (S:FnScope N ps (Za st)) (len:∀ vs H Q E,sp vs H Q E->vs.length=ps.length)
  (hbody:∀ (cdv:Value) (A:Around) (outer:List Env) (s:Shared) (H:Hp) (vs:List V) (Q:VK) (E:XK),Room k (A.deeper (envOfC qual (Za st) s.heap.objs.size f cdv))->sp vs H Q E ->
   ∃ t,QSs (Ye CX0 P w K mg base N qual (Za st) f cdv A outer s H E).nox (Yx st) t/\t {nx:=fun _ H'=>Q .non H',rt:=Q } (start N vs) H):FnOk P w K mg base CX0 (k+1) f fd ps sp :=
 F.ok S len fun cdv A outer s H vs Q E hr q=>let ⟨t,a,b⟩:=hbody cdv A outer s H vs Q E hr q; ⟨t,a.h,b⟩
end L2
namespace L2
open PySem PySem.Spec PyProof.Rows
section
variable {X:Cx}{scope:Scope}{cl:List (Str×Addr)}{C:Addr}{N':List Str}{s0:Shared}{H0:Hp}{ex:List Addr}{pn:List (Addr×Obj)}{x:Str}{pos:Pos}{es:List Expr}{k:Nat}{t:TGs}
theorem Vh (n:Nat) (hc:X.calm=true) (h:QGs (ccx X scope cl C N' s0 H0 ex pn) es t) (hn:(assignEach es (ccx X scope cl C N' s0 H0 ex pn).env).length=n:=by rfl) (hst:(assignEach es (ccx X scope cl C N' s0 H0 ex pn).env).findIdx? (·.1)=none:=by rfl) :
  QG (ccx X scope cl C N' s0 H0 ex pn) (.Tuple es k pos) (Zci X.K n t):=⟨Zp8 (X:=ccx X scope cl C N' s0 H0 ex pn) hc h.h hn hst⟩
theorem Zxr:QIx (ccx X scope cl C N' s0 H0 ex pn) (Zk8 X.K):=⟨Zpa (X:=ccx X scope cl C N' s0 H0 ex pn)⟩
theorem Zc3:QIx (ccx X scope cl C N' s0 H0 ex pn) (Zf0 X.K):=⟨Zio (X:=ccx X scope cl C N' s0 H0 ex pn)⟩
theorem Zvc:QC (ccx X scope cl C N' s0 H0 ex pn) (.builtin "len") (Zpi X.K):=⟨Zmg (X:=ccx X scope cl C N' s0 H0 ex pn)⟩
theorem Zv6:QOp (ccx X scope cl C N' s0 H0 ex pn) (compareOp .In) (rIn X.K false):=⟨Zm8 (X:=ccx X scope cl C N' s0 H0 ex pn)⟩
end
end L2
end
section
namespace L2
open PySem PySem.Spec PyProof.Rows
structure Drw (P:Program) (w:World) (it l:Addr) (St:Nat->Heap->Prop) (Hs:Heap->List Value->Prop):Prop where
 obj:∀ k h,St k h->∃ o,h.get? it=some o/\∀ v,o.data ≠ .cell v
 keep:∀ k h h',St k h->(∀ o,h.get? it=some o->h'.get? it=some o)->St k h'
 src:∀ h h' its,Hs h its->(∀ o,h.get? l=some o->h'.get? l=some o)->Hs h' its
 item:∀ (A:Around) (k:Nat) (s:Shared) (its:List Value) (x:Value) (Q:Value->Shared->Prop) (E:Value->Shared->Prop),St k s.heap->Hs s.heap its->its[k]? = some x ->
  (∀ h',St (k+1) h'->Heap.SameBut it s.heap h'->Q x {s with heap:=h' })->wpAny (model P w) A (Builtin.SmallTypes.nextOf (.ref it)) Q E s
 done:∀ (A:Around) (k:Nat) (s:Shared) (its:List Value) (Q:Value->Shared->Prop) (E:Value->Shared->Prop),A.handled=none->St k s.heap->Hs s.heap its->its[k]? = none ->
  (∀ h' e,Heap.ExtBut it s.heap h'->(∃ o,h'.get? e=some o/\o.cls = .type "StopIteration")->E (.ref e) {s with heap:=h' })->wpAny (model P w) A (Builtin.SmallTypes.nextOf (.ref it)) Q E s
section
variable {P:Program}{w:World}{A:Around}{E:Value->Shared->Prop}{s:Shared}
end
structure ZA (z TI TO i1 i2 l1 l2:Addr):Prop where
 a1:TI≠z
 a2:TO≠z
 a3:i1≠z
 a4:i2≠z
 a5:TI≠TO
 a6:TI≠i1
 a7:TI≠i2
 a8:TO≠i1
 a9:TO≠i2
 a10:i1≠i2
 b1:l1≠z
 b2:l1≠TO
 b3:l1≠i1
 b4:l1≠i2
 b5:l2≠z
 b6:l2≠TO
 b7:l2≠i1
 b8:l2≠i2
section
variable {P:Program}{w:World}{A:Around}{E:Value->Shared->Prop}{s:Shared}{z TI TO i1 i2 l1 l2:Addr}{S1 S2:Nat->Heap->Prop}{H1 H2:Heap->List Value->Prop}{k:Nat}{xs ys:List Value}{x y a b:Value}
end
structure SqK (sq:uFg->Hp->Addr->List V->Prop) (Hs:Addr->Heap->List Value->Prop):Prop where
 get:∀ {X:Cx}{pins:List (Addr×Obj)}{σ:St}{H:Hp}{s:Shared}{l:Addr}{xs:List V},Inv X pins σ H s->sq X.K H l xs->∃ its,Vals xs its/\Hs l s.heap its
 inj:∀ {X:Cx}{pins:List (Addr×Obj)}{σ:St}{H:Hp}{s:Shared}{l:Addr}{xs ys:List V},Inv X pins σ H s->sq X.K H l xs->sq X.K H l ys->xs=ys
section
variable {P:Program}{w:World}{A:Around}{E:Value->Shared->Prop}{s:Shared}
end
end L2
end
section
namespace L2
open PySem PySem.Spec PyProof.Rows
inductive D where
 | non | bl (b:Bool) | int (i:Int) | str (x:Str) | tup (xs:List D) | lst (xs:List D)
mutual
def Rep (H:Hp):D->V->Prop
 | .non,v=>v = .non
 | .bl b,v=>v = .bl b
 | .int i,v=>v = .int i
 | .str x,v=>v = .str x
 | .tup ds,v=>∃ a vs,v = .ref a/\H a=some (.tup vs)/\RepL H ds vs
 | .lst ds,v=>∃ a vs,v = .ref a/\H a=some (.lst vs)/\RepL H ds vs
def RepL (H:Hp):List D->List V->Prop
 | [],vs=>vs = []
 | d::ds,vs=>∃ v r,vs=v::r/\Rep H d v/\RepL H ds r
end
mutual
theorem Rep.mono {H H':Hp}(k:Same H H'):∀ (d:D) (v:V),Rep H d v->Rep H' d v
 | .non,v,h=>h
 | .bl b,v,h=>h
 | .int i,v,h=>h
 | .str x,v,h=>h
 | .tup ds,v,h=>by
  obtain ⟨a,vs,e,h1,h2⟩:=h
  exact ⟨a,vs,e,k _ _ h1,RepL.mono k ds vs h2⟩
 | .lst ds,v,h=>by
  obtain ⟨a,vs,e,h1,h2⟩:=h
  exact ⟨a,vs,e,k _ _ h1,RepL.mono k ds vs h2⟩
theorem RepL.mono {H H':Hp}(k:Same H H'):∀ (ds:List D) (vs:List V),RepL H ds vs->RepL H' ds vs
 | [],vs,h=>h
 | d::ds,vs,h=>by
  obtain ⟨v,r,e,h1,h2⟩:=h
  exact ⟨v,r,e,Rep.mono k d v h1,RepL.mono k ds r h2⟩
end
theorem RepL.length {H:Hp}:∀ {ds:List D}{vs:List V},RepL H ds vs->vs.length=ds.length
 | [],vs,h=>by cases h; rfl
 | d::ds,vs,h=>by
  obtain ⟨v,r,rfl,h1,h2⟩:=h
  rw [xS,xS,RepL.length h2]
theorem RepL.get {H:Hp}:∀ {ds:List D}{vs:List V}{i:Nat}{v:V},RepL H ds vs->vs[i]? = some v->∃ d,ds[i]? = some d/\Rep H d v
 | [],vs,i,v,h,e=>by cases h; simp at e
 | d::ds,vs,i,v,h,e=>by
  obtain ⟨w,r,rfl,h1,h2⟩:=h
  cases i with
  | zero=>simp at e; subst e; exact ⟨d,rfl,h1⟩
  | succ i=>simp at e; exact RepL.get (i:=i) h2 e
theorem RepL.snoc {H:Hp}{d:D}{v:V}(hd:Rep H d v):∀ {ds:List D}{vs:List V},RepL H ds vs->RepL H (ds ++ [d]) (vs ++ [v])
 | [],vs,h=>by cases h; exact ⟨v,[],rfl,hd,rfl⟩
 | e::ds,vs,h=>by
  obtain ⟨w,r,rfl,h1,h2⟩:=h
  exact ⟨w,r ++ [v],rfl,h1,RepL.snoc hd h2⟩
mutual
def Za5:D->D->Bool
 | .non,.non=>true
 | .bl a,.bl b=>a == b
 | .int a,.int b=>a == b
 | .str a,.str b=>a == b
 | .tup a,.tup b=>Zdl a b
 | .lst a,.lst b=>Zdl a b
 | _,_=>false
def Zdl:List D->List D->Bool
 | [],[]=>true
 | a::r,b::s=>Za5 a b && Zdl r s
 | _,_=>false
end
mutual
theorem Zwp:∀ d:D,Za5 d d=true
 | .non=>rfl
 | .bl _=>by simp [Za5]
 | .int _=>by simp [Za5]
 | .str _=>by simp [Za5]
 | .tup ds=>by rw [Za5]; exact Zhd ds
 | .lst ds=>by rw [Za5]; exact Zhd ds
theorem Zhd:∀ ds:List D,Zdl ds ds=true
 | []=>rfl
 | d::ds=>by rw [Zdl,Zwp d,Zhd ds]; rfl
end
mutual
def D.deep:D->Nat
 | .tup ds=>Zja ds+1
 | .lst ds=>Zja ds+1
 | _=>0
def Zja:List D->Nat
 | []=>0
 | d::ds=>max d.deep (Zja ds)
end
end L2
namespace L2
theorem Rep.mono' {H H':Hp}{d:D}{v:V}(h:Rep H d v) (k:Same H H'):Rep H' d v:=Rep.mono k d v h
theorem RepL.mono' {H H':Hp}{ds:List D}{vs:List V}(h:RepL H ds vs) (k:Same H H'):RepL H' ds vs:=RepL.mono k ds vs h
end L2
end
section
namespace L2
open PySem PySem.Spec PyProof.Rows
def Itd (lo:Int) (n:Nat):It:=⟨fun i _=>i < n,fun i H x H'=>H'=H/\x = .int (lo - i),fun i _=>n<=i⟩
theorem Zxs {P:Program}{w:World}{K:uFg}{tg:Expr}(it:Addr) (lo:Int) (n:Nat):Turn P w K tg (Itd lo n) [it] it (fun i h=>IsRangeIter h it (lo+(i:Nat) * (-1)) ((n:Int) - (i:Nat)) (-1)) where
 mem:=by simp
 obj:=fun i h st b hb=>by
  have e:b=it:=by simpa using hb
  subst e
  exact ⟨_,st,fun v z=>by
   have z':Data.fields _=Data.cell v:=z
   cases z'⟩
 keep:=fun i h h' st k=>k it (by simp) _ st
 item:=by
  intro X hP hw hK hc i pins s σ H E I hf st hg
  subst hP hw hK
  obtain ⟨f0,f1,f2,f3,f4,f5⟩:=hf it (by simp)
  have W:=Walks.range (prog:=X.prog) (w:=X.w) (I.ok.hd hc) it lo (-1) n
  refine W.item i s _ _ hg st fun v h' tk hv st' kk=>?_
  obtain ⟨t,rfl⟩:=hv
  have I1:Inv X pins σ H {s with heap:=h',toks:=tk }:=I.turned (fun b o hb e=>kk b o (by simpa using hb) e) f0 f1 f3 f4 f5
  refine ⟨_,rfl,Zfk (s:={s with heap:=h',toks:=tk }) (n := "range_iterator") st' rfl rfl (by decide) ⟨.int (lo - i),H,I1,⟨t,?_⟩,⟨rfl,rfl⟩,st',fun b hb=>(hf b hb).1⟩⟩
  have e:lo+(i:Int) * (-1)=lo - i:=by lia
  rw [e]
 done:=by
  intro X hP hw hK hc i pins s σ H E I hf st hg
  subst hP hw hK
  obtain ⟨f0,f1,f2,f3,f4,f5⟩:=hf it (by simp)
  exact wpAny_pyNext_range_end (I.ok.hd hc) st (by have:n<=i:=hg; lia) fun h' eb=>⟨rfl,I.turned (t':=s.toks) (fun b o hb e=>eb b o hb e) f0 f1 f3 f4 f5⟩
 self:=fun _ _ _ _ _ st h=>wpAny_pyIter_rangeiter st h
section
variable {X:Cx}{tg:Expr}
theorem Zxt {pins:List (Addr×Obj)}{σ:St}{H:Hp}{s:Shared}{R:It->Hp->Prop}{E:Value->Shared->Prop}{lo hi:Int}{t u v:Tok}{tk:Nat}(I:Inv X pins σ H s) (h1 : -(2 ^ 62)<=lo) (h2:lo < 2 ^ 62) (h3 : -(2 ^ 62)<=hi) (h4:hi < 2 ^ 62)
  (q:R (Itd lo (lo - hi).toNat) H):wpAny (model X.prog X.w) X.A (pyIter (.ref s.heap.objs.size)) (PIE X pins σ tg R) E {s with heap:=s.heap.push {cls:=.type "range", data:=.fields #[.int lo t,.int hi u,.int (-1) v] },toks:=tk }:=by
 refine wpAny_pyIter_range (IsRange.new ..) (PySem.W.small_down h1 h2 h3 h4) ?_
 have I1:Inv X pins σ H {s with heap:=s.heap.push {cls:=.type "range", data:=.fields #[.int lo t,.int hi u,.int (-1) v] },toks:=tk }:=I.kept fun b o e=>xG _ e
 refine ⟨(s.heap.push {cls:=.type "range", data:=.fields #[.int lo t,.int hi u,.int (-1) v] }).objs.size,[(s.heap.push {cls:=.type "range", data:=.fields #[.int lo t,.int hi u,.int (-1) v] }).objs.size],_,_,H,rfl,
  I1.kept (t':=tk) fun b o e=>xG _ e,Zxs _ lo (lo - hi).toNat,?_,fun b hb=>?_,q⟩
 ·have e1:lo+((0:Nat):Int) * (-1)=lo:=by simp
  have e2:(((lo - hi).toNat:Nat):Int) - ((0:Nat):Int)=Builtin.Range.rangeSize lo hi (-1):=by rw [PySem.W.rangeSize_downNat]; lia
  show IsRangeIter _ _ (lo+((0:Nat):Int) * (-1)) ((((lo - hi).toNat:Nat):Int) - ((0:Nat):Int)) (-1)
  rw [e1,e2]
  exact yC _ rfl
 ·have e:b=(s.heap.push {cls:=.type "range", data:=.fields #[.int lo t,.int hi u,.int (-1) v] }).objs.size:=by simpa using hb
  subst e
  exact I1.fpOk (xE _) (I1.hok.fresh (xE _))
def Zr6 (ta:TA):TI:=fun σ H R=>ta σ H fun vs H1=>∃ i j:Int,vs = [.int i,.int j,.int (-1)]/\(-(2 ^ 62)<=i/\i < 2 ^ 62 /\ -(2 ^ 62)<=j/\j < 2 ^ 62)/\R (Itd i (i - j).toNat) H1
theorem Zvr {a b c:Expr}{ta:TA}{p pos:Pos}(hg:Gl X "range") (hm:X.mg "range" = none) (ha:PA X [a,b,c] ta) (hs:starEach [a,b,c] X.env=(false,eval a X.env)::starEach [b,c] X.env:=by rfl) (hs2:(backTo pos (starEach [b,c] X.env)).any (·.1)=false:=by rfl) :
  PI X tg (.Call (.Name "range" p) [a,b,c] [] pos) (Zr6 ta):=by
 intro pins s σ H R I h
 refine Call_ (Vs I hg hm boot_range (PyProof.Rows.callWith_type1 (thn (ha pos pins s σ H _ I h) fun us s1 ⟨vs,H1,I1,r1,q1⟩=>?_) hs hs2))
 obtain ⟨i,j,e,⟨q1,q2,q3,q4⟩,q⟩:=q1
 subst e
 cases r1 with
 | cons r rr =>
  cases rr with
  | cons r' rr =>
   cases rr with
   | cons r'' rr =>
    cases rr
    obtain ⟨t,rfl⟩:=r
    obtain ⟨t',rfl⟩:=r'
    obtain ⟨t'',rfl⟩:=r''
    exact call_range_3 (by decide) (Zxt I1 q1 q2 q3 q4 q) (.inl (PyProof.noPylong_small (by decide)))
theorem Zvs {a b c:Expr}{ta:TA}{p pos:Pos}(hg:Gl X "range") (hm:X.mg "range" = none) (ha:QA X [a,b,c] ta) (hs:starEach [a,b,c] X.env=(false,eval a X.env)::starEach [b,c] X.env:=by rfl) (hs2:(backTo pos (starEach [b,c] X.env)).any (·.1)=false:=by rfl) :
  QI X tg (.Call (.Name "range" p) [a,b,c] [] pos) (Zr6 ta):=⟨Zvr hg hm ha.h hs hs2⟩
end
section
variable {g:TG}{tb:TS}{D:Ends}{σ:St}{H:Hp}
theorem Zxu {lo:Int}{n:Nat}(m:Nat) (hm:n=m) (Pv:Nat->St->Hp->Prop) (h0:Pv 0 σ H)
  (hs:∀ i σ H,i < m->Pv i σ H->g (.int (lo - i)) σ H fun σ2 H2=>tb {D with nx:=Pv (i+1),ct:=Pv (i+1),bk:=D.nx } σ2 H2) (hd:∀ σ H,Pv m σ H->D.nx σ H):Zae (Itd lo n) g tb D σ H:=by
 subst hm
 refine ⟨fun i k σ H=>k=n - i/\i<=n/\Pv i σ H,⟨n,rfl,yT _,h0⟩,?_⟩
 rintro i k σ H ⟨rfl,hi,p⟩
 by_cases e:i < n
 ·refine .inr ⟨e,Pv (i+1),fun σ' H' p'=>⟨n - (i+1),by lia,rfl,by lia,p'⟩,?_⟩
  rintro x H' ⟨rfl,rfl⟩
  exact hs i σ H' e p
 ·have:i=n:=by lia
  subst this
  exact .inl ⟨xE _,hd σ H p⟩
end
section
variable {X:Cx}{o i value:Expr}{pos pos':Pos}{td ty tv:TE}
def Zia:R2:=fun y x H Q=>∃ a o,x = .ref a/\DGet H a y o/\Q (.bl (!o.isSome)) H
def Zuy:R2:=fun y x H Q=>∃ a o,x = .ref a/\DGet H a y o/\Q (.bl o.isSome) H
theorem Zng (hu:X.A.units+1 < cLine):OpR X (compareOp .NotIn) Zia:=by
 intro pins s σ H y x iv u Q I ry rx ⟨a,ov,ex,g,q⟩
 subst ex
 obtain rfl:u=Value.ref a:=rx
 exact Z02 hu I g ry fun s3 I3=>⟨.bl (!ov.isSome),H,I3,rfl,q⟩
theorem Z3h (hu:X.A.units+1 < cLine):OpR X (compareOp .In) Zuy:=by
 intro pins s σ H y x iv u Q I ry rx ⟨a,ov,ex,g,q⟩
 subst ex
 obtain rfl:u=Value.ref a:=rx
 exact Ybd hu I g ry fun s3 I3=>⟨.bl ov.isSome,H,I3,rfl,q⟩
theorem Zwq {k:Nat}(hr:Room k X.A):QOp X (compareOp .NotIn) Zia:=⟨Zng (by have:=hr.units; lia)⟩
theorem Zib {k:Nat}(hr:Room k X.A):QOp X (compareOp .In) Zuy:=⟨Z3h (by have:=hr.units; lia)⟩
theorem Zn3:QE X (.Dict [] [] pos) Zqg:=⟨Zy0⟩
theorem Zet {k:Nat}(hr:Room k X.A) (ho:QE X o td) (hi:QE X i ty) (hv:QE X value tv) (hs:swapsWith value (some (.Subscript o i pos')) pos.line X.env=pure false:=by rfl) :
  QS X (.Assign [.Subscript o i pos'] value pos) (Zr0 td ty tv):=⟨Z05 (by have:=hr.units; lia) ho.h hi.h hv.h hs⟩
end
end L2
end
section
namespace L2
open PySem PySem.Spec PyProof.Rows
section
variable {X:Cx}
end
end L2
end
section
namespace L2
open PySem PySem.Spec PyProof.Rows
def Zb2 (H:Hp) (c:Int) (n:Str):Value->Bool
 | .ref a=>match H a with
  | some (.tup [.int c',.str n'])=>decide ((c',n')=(c,n))
  | _=>false
 | _=>false
def Za6 (H:Hp):List (Int×Str)->List V->Prop
 | [],vs=>vs = []
 | p::r,vs=>∃ a vs',vs = .ref a::vs'/\H a=some (.tup [.int p.1,.str p.2])/\Za6 H r vs'
section
variable {X:Cx}
theorem Zxv {pins:List (Addr×Obj)}{σ:St}{H:Hp}{s:Shared}{A:Around}{a b:Addr}{c c':Int}{n n':Str}(I:Inv X pins σ H s) (hu:A.units < cLine) (ha:H a=some (.tup [.int c,.str n])) (hb:H b=some (.tup [.int c',.str n'])) :
  SeqAt.EqAt A s (.ref a) (.ref b) (decide ((c,n)=(c',n'))):=by
 by_cases e:a=b
 ·subst e
  rw [ha] at hb
  injection hb with hb
  injection hb with hb
  injection hb with h1 hb
  injection hb with h2 _
  injection h1 with h1
  injection h2 with h2
  rw [h1,h2,xH rfl]
  exact SeqAt.EqAt.same _
 ·obtain ⟨xs,rx,px,_⟩:=I.tuple (SqT.of ha)
  obtain ⟨ys,ry,py,_⟩:=I.tuple (SqT.of hb)
  cases rx with
  | cons r1 rx=>cases rx with
   | cons r2 rx =>
    cases rx
    cases ry with
    | cons q1 ry=>cases ry with
     | cons q2 ry =>
      cases ry
      obtain ⟨t1,rfl⟩:=r1
      obtain ⟨t2,rfl⟩:=r2
      obtain ⟨t3,rfl⟩:=q1
      obtain ⟨t4,rfl⟩:=q2
      have h:=SeqAt.RcAt.tuples (A:=A) (e:=fun j=>if j=0 then c == c' else n == n') (show s.heap.IsTuple a _ from px) (show s.heap.IsTuple b _ from py) hu (fun j h1 h2=>by
       have hj:j < 2:=by simpa using h1
       match j,hj with
       | 0,_=>exact SeqAt.EqAt.int_int _ _ _ _
       | 1,_=>exact SeqAt.EqAt.str_str _ _ _ _)
      have e2:((List.range (min ([Value.int c t1,Value.str n t2]:List Value).toArray.size ([Value.int c' t3,Value.str n' t4]:List Value).toArray.size)).all (fun j=>if j=0 then c == c' else n == n') && ([Value.int c t1,Value.str n t2]:List Value).toArray.size == ([Value.int c' t3,Value.str n' t4]:List Value).toArray.size)=decide ((c,n)=(c',n')):=by
       show ((List.range 2).all (fun j=>if j=0 then c == c' else n == n') && true)=_
       rw [Bool.and_true]
       show ((c == c') && ((n == n') && true))=_
       rw [Bool.and_true,yW,yI,yK,Prod.mk.injEq,beq_iff_eq,beq_iff_eq]
      rw [e2] at h
      exact SeqAt.EqAt.of_refs e h
theorem Zmu {pins:List (Addr×Obj)}{σ:St}{H:Hp}{s:Shared}{A:Around}{b:Addr}{c:Int}{n:Str}(I:Inv X pins σ H s) (hu:A.units < cLine) (hb:H b=some (.tup [.int c,.str n])) :
  ∀ {ps:List (Int×Str)}{vs:List V}{us:List Value},Za6 H ps vs->Vals vs us->(∀ u∈us,SeqAt.EqAt A s u (.ref b) (Zb2 H c n u))/\us.any (Zb2 H c n)=decide ((c,n)∈ps)
 | [],vs,us,h,r=>by
  cases h
  cases r
  exact ⟨(fun u hu=>nomatch hu),(by simp)⟩
 | p::ps,vs,us,⟨a,vs',e,h1,h2⟩,r=>by
  subst e
  cases r with
  | cons r1 r2 =>
   rename_i u0 us'
   obtain rfl:u0=Value.ref a:=r1
   obtain ⟨g1,g2⟩:=Zmu I hu hb h2 r2
   have e:Zb2 H c n (.ref a)=decide ((p.1,p.2)=(c,n)):=by
    show (match H a with | some (.tup [.int c',.str n'])=>decide ((c',n')=(c,n)) | _=>false)=_
    rw [h1]
   refine ⟨fun u hm=>?_,?_⟩
   ·rcases xW.mp hm with rfl | hm
    ·rw [e]; exact Zxv I hu h1 hb
    ·exact g1 u hm
   ·rw [List.any_cons,e,g2,yW,Bool.or_eq_true,yK,yK,yK,xW]
    exact ⟨fun z=>z.imp (fun y=>y.symm) id,fun z=>z.imp (fun y=>y.symm) id⟩
end
end L2
end
section
namespace L2
open PySem PySem.Spec PyProof.Rows PySem.W
def Wa (cmp:Nat->Nat->(Bool->Shared->Prop)->Shared->Prop) (r:Nat->Nat) (N:Nat) (s:Shared):Prop:=∀ (i j:Nat) (C:Bool->Shared->Prop),i < N->j < N->C (decide (r i < r j)) s->cmp i j C s
def kp (r:Nat->Nat) (p:Array Nat) (i:Nat):Nat:=r (p.getD i 0)
def Pm (N:Nat) (p:Array Nat):Prop:=p.toList.Perm (List.range N)
def UpTo (r:Nat->Nat) (p:Array Nat) (m:Nat):Prop:=∀ i,i+1 < m->kp r p i<=kp r p (i+1)
def Zby (r:Nat->Nat) (p:Array Nat) (m:Nat):Prop:=∀ i,i+1 < m->kp r p (i+1)<=kp r p i
section
variable {s:Shared}{cmp:Nat->Nat->(Bool->Shared->Prop)->Shared->Prop}{r:Nat->Nat}{N:Nat}{p:Array Nat}
theorem Pm.size (h:Pm N p):p.size=N:=by
 have:=h.length_eq
 rw [zC] at this
 simpa using this
theorem Pm.lt (h:Pm N p) {i:Nat}(hi:i < N):p.getD i 0 < N:=by
 have hs:i < p.size:=by rw [h.size]; exact hi
 have e:p.getD i 0=p[i]:=by simp [Array.getD,hs]
 have m:p[i]∈p.toList:=by simp
 rw [e]
 exact yE.mp (h.mem_iff.mp m)
theorem Pm.rev (h:Pm N p) (i j:Nat):Pm N (kas_rev p i j):=(Array.perm_iff_toList_perm.mp (mirror_perm p i j _)).trans h
theorem Pm.bub (h:Pm N p) (i d:Nat):Pm N (bubble p i d):=(Array.perm_iff_toList_perm.mp (bubble_perm p i d)).trans h
theorem Zdm {p q:Array Nat}{i j:Nat}(h:p[i]? = q[j]?):kp r p i=kp r q j:=by
 unfold kp
 rw [Array.getD_eq_getD_getElem?,Array.getD_eq_getD_getElem?,h]
theorem Zfb (h:Pm N p) {i j k:Nat}(hj:j<=N):kp r (kas_rev p i j) k=if i<=k/\k < j then kp r p (i+j - 1 - k) else kp r p k:=by
 have e:=getElem?_mirror_all (xs:=p) (i:=i) (j:=j) (by rw [h.size]; exact hj) k
 by_cases c:i<=k/\k < j
 ·rw [if_pos c] at e ⊢; exact Zdm e
 ·rw [if_neg c] at e ⊢; exact Zdm e
theorem Zit (h:Pm N p) {k l i:Nat}(hk:k < N) (hl:l<=k):kp r (bubble p k (k - l)) i=if i=l then kp r p k else if l < i/\i<=k then kp r p (i - 1) else kp r p i:=by
 have e:=getElem?_bubble (xs:=p) (src:=k) (by rw [h.size]; exact hk) (k - l) (by lia) i
 have x:k - (k - l)=l:=by lia
 rw [x] at e
 by_cases c:i=l
 ·rw [if_pos c] at e ⊢; exact Zdm e
 ·rw [if_neg c] at e ⊢
  by_cases d:l < i/\i<=k
  ·rw [if_pos d] at e ⊢; exact Zdm e
  ·rw [if_neg d] at e ⊢; exact Zdm e
theorem Ziu (hR:Wa cmp r N s) (hp:Pm N p) {Q:Nat->Shared->Prop}:∀ (f n:Nat),1<=n->n+f<=N->UpTo r p n->(∀ m,n<=m->m<=n+f->UpTo r p m->(m < n+f->kp r p m < kp r p (m - 1))->Q m s)->(kas_asc p f n).kasWp cmp Q s
 | 0,n,h1,h2,hu,k=>k n (xE _) (xE _) hu (fun z=>by lia)
 | f+1,n,h1,h2,hu,k=>by
  refine hR _ _ _ (hp.lt (by lia)) (hp.lt (by lia)) ?_
  by_cases c:r (p.getD n 0) < r (p.getD (n - 1) 0)
  ·rw [xH c]
   exact k n (xE _) (by lia) hu fun _=>c
  ·rw [xK c]
   refine Ziu hR hp f (n+1) (by lia) (by lia) (fun i hi=>?_) fun m a b u d=>k m (by lia) (by lia) u (fun z=>d (by lia))
   by_cases e:i+1 < n
   ·exact hu i e
   ·have:i=n - 1:=by lia
    subst this
    rw [show n - 1+1=n by lia]
    unfold kp
    lia
theorem Zg9 (h:Pm N p) {a n k:Nat}(hn:n<=N) (he:∀ i,a<=i->i < n->kp r p i=kp r p (n - 1)):kp r (kas_rev p a n) k=kp r p k:=by
 rw [Zfb h hn]
 by_cases c:a<=k/\k < n
 ·rw [if_pos c,he (a+n - 1 - k) (by lia) (by lia),he k c.1 c.2]
 ·rw [if_neg c]
theorem Zeu (hR:Wa cmp r N s) {Q:Array Nat×Nat×Nat->Shared->Prop}:∀ (f:Nat) (p:Array Nat) (n q:Nat),Pm N p->1<=n->n+f<=N->q+1<=n->Zby r p n->(∀ k,n - (q+1)<=k->k < n->kp r p k=kp r p (n - 1)) ->
  (∀ (p':Array Nat) (m q':Nat),Pm N p'->n<=m->m<=n+f->q'+1<=m->Zby r p' m->(∀ k,m - (q'+1)<=k->k < m->kp r p' k=kp r p' (m - 1))->Q (p',m,q') s)->(kas_desc f p n q).kasWp cmp Q s
 | 0,p,n,q,hp,h1,h2,hq,hd,he,k=>k p n q hp (xE _) (xE _) hq hd he
 | f+1,p,n,q,hp,h1,h2,hq,hd,he,k=>by
  refine hR _ _ _ (hp.lt (by lia)) (hp.lt (by lia)) ?_
  by_cases c:r (p.getD n 0) < r (p.getD (n - 1) 0)
  ·rw [xH c]
   have step:Zby r p (n+1):=fun i hi=>by
    by_cases e:i+1 < n
    ·exact hd i e
    ·have:i=n - 1:=by lia
     subst this
     rw [show n - 1+1=n by lia]
     unfold kp
     lia
   show (if true=true then (if q > 0 then kas_desc f (kas_rev p (n - (q+1)) n) (n+1) 0 else kas_desc f p (n+1) 0) else _).kasWp cmp Q s
   rw [if_pos rfl]
   by_cases z:q > 0
   ·rw [if_pos z]
    have same:∀ k,kp r (kas_rev p (n - (q+1)) n) k=kp r p k:=fun k=>Zg9 hp (by lia) he
    refine Zeu hR f _ (n+1) 0 (hp.rev _ _) (by lia) (by lia) (by lia) (fun i hi=>?_) (fun k a b=>?_) fun p' m q' a b c' d e g=>k p' m q' a (by lia) (by lia) d e g
    ·rw [same,same]; exact step i hi
    ·have:k=n+1 - 1:=by lia
     rw [this]
   ·rw [if_neg z]
    refine Zeu hR f p (n+1) 0 hp (by lia) (by lia) (by lia) step (fun k a b=>?_) fun p' m q' a b c' d e g=>k p' m q' a (by lia) (by lia) d e g
    have:k=n+1 - 1:=by lia
    rw [this]
  ·rw [xK c]
   show (if false=true then _ else KasT.ask (p.getD (n - 1) 0) (p.getD n 0) fun d=>if d=true then .ret (p,n,q) else kas_desc f p (n+1) (q+1)).kasWp cmp Q s
   rw [if_neg xJ]
   refine hR _ _ _ (hp.lt (by lia)) (hp.lt (by lia)) ?_
   by_cases d:r (p.getD (n - 1) 0) < r (p.getD n 0)
   ·rw [xH d]
    exact k p n q hp (xE _) (by lia) hq hd he
   ·rw [xK d]
    have eq:kp r p n=kp r p (n - 1):=by unfold kp; lia
    refine Zeu hR f p (n+1) (q+1) hp (by lia) (by lia) (by lia) (fun i hi=>?_) (fun k a b=>?_) fun p' m q' a b c' d e g=>k p' m q' a (by lia) (by lia) d e g
    ·by_cases e:i+1 < n
     ·exact hd i e
     ·have:i=n - 1:=by lia
      subst this
      rw [show n - 1+1=n by lia,eq]
      exact xE _
    ·rw [show n+1 - 1=n by lia,eq]
     by_cases e:k < n
     ·exact he k (by lia) e
     ·rw [show k=n by lia,eq]
theorem V9 (h:UpTo r p m):∀ (d i:Nat),i+d < m->kp r p i<=kp r p (i+d)
 | 0,i,_=>xE _
 | d+1,i,hi=>yA (V9 h d i (by lia)) (h (i+d) (by lia))
theorem Z3i (h:Pm N p) {n:Nat}(hn:n<=N) (hd:Zby r p n):UpTo r (kas_rev p 0 n) n:=fun i hi=>by
 rw [Zfb h hn,Zfb h hn,if_pos (by lia),if_pos (by lia)]
 have:=hd (0+n - 1 - (i+1)) (by lia)
 rw [show 0+n - 1 - (i+1)+1=0+n - 1 - i by lia] at this
 exact this
def Zla (r:Nat->Nat) (N:Nat) (Q:Nat×Array Nat->Shared->Prop) (s:Shared):Prop:=∀ (m:Nat) (p:Array Nat),1<=m->m<=N->Pm N p->UpTo r p m->Q (m,p) s
theorem Zpj (hR:Wa cmp r N s) (h:Pm N p) {Q:Nat×Array Nat->Shared->Prop}(k:Zla r N Q s) {n:Nat}(h1 : 1<=n) (hn:n<=N) (hd:Zby r p n):(kas_tail3 n N p).kasWp cmp Q s:=by
 unfold kas_tail3
 rw [KasT.kasWp_bind]
 exact Ziu hR (h.rev 0 n) (N - n) n h1 (by lia) (Z3i h hn hd) fun m a b u _=>k m _ (by lia) (by lia) (h.rev 0 n) u
theorem Zpk (hR:Wa cmp r N s) (h:Pm N p) {Q:Nat×Array Nat->Shared->Prop}(k:Zla r N Q s) {n:Nat}(hn:n+1<=N) (hd:Zby r p (n+1)):(kas_descPart n N p).kasWp cmp Q s:=by
 unfold kas_descPart
 rw [KasT.kasWp_bind]
 refine Zeu hR (N - (n+1)) p (n+1) 0 h (by lia) (by lia) (by lia) hd (fun k a b=>by rw [show k=n+1 - 1 by lia]) fun p' m q' a b c d e g=>?_
 dsimp only
 by_cases z:q' > 0
 ·rw [if_pos z]
  have same:∀ k,kp r (kas_rev p' (m - (q'+1)) m) k=kp r p' k:=fun k=>Zg9 a (by lia) g
  exact Zpj hR (a.rev _ _) k (by lia) (by lia) fun i hi=>by rw [same,same]; exact e i hi
 ·rw [if_neg z]
  exact Zpj hR a k (by lia) (by lia) e
theorem Zzf (hR:Wa cmp r N s) (h:Pm N p) (h1 : 1<=N) {Q:Nat×Array Nat->Shared->Prop}(k:Zla r N Q s):(kas_count N p).kasWp cmp Q s:=by
 unfold kas_count
 rw [KasT.kasWp_bind]
 refine Ziu hR h (N - 1) 1 (xE _) (by lia) (fun i hi=>by lia) fun m a b u d=>?_
 by_cases z:m=N
 ·rw [if_pos (by rw [z]; exact beq_self_eq_true N)]
  exact k m p a (by lia) h u
 ·rw [if_neg (fun e=>z (eq_of_beq e))]
  have dm:=d (by lia)
  by_cases y:m > 1
  ·rw [if_pos y]
   refine hR _ _ _ (h.lt (by lia)) (h.lt (by lia)) ?_
   by_cases c:r (p.getD 0 0) < r (p.getD (m - 1) 0)
   ·rw [xH c]
    exact k m p a (by lia) h u
   ·rw [xK c]
    have all:∀ i,0<=i->i < m->kp r p i=kp r p (m - 1):=fun i _ hi=>by
     have h0:=V9 u i 0 (by lia)
     have h2:=V9 u (m - 1 - i) i (by lia)
     rw [show 0+i=i by lia] at h0
     rw [show i+(m - 1 - i)=m - 1 by lia] at h2
     have h3:kp r p (m - 1)<=kp r p 0:=by unfold kp; lia
     lia
    have same:∀ k,kp r (kas_rev p 0 m) k=kp r p k:=fun k=>Zg9 h (by lia) all
    refine Zpk hR (h.rev _ _) k (by lia) fun i hi=>?_
    rw [same,same]
    by_cases e:i+1 < m
    ·rw [all i (by lia) (by lia),all (i+1) (by lia) e]; exact xE _
    ·rw [show i=m - 1 by lia,show m - 1+1=m by lia]
     exact yY dm
  ·rw [if_neg y]
   refine Zpk hR h k (by lia) fun i hi=>?_
   rw [show i=m - 1 by lia,show m - 1+1=m by lia]
   exact yY dm
theorem Zhu (hR:Wa cmp r N s) (h:Pm N p) {Q:Nat->Shared->Prop}{k:Nat}(hk:k < N) (hu:UpTo r p k) (q:∀ l,l<=k->(∀ i,i < l->kp r p i<=kp r p k)->(∀ i,l<=i->i < k->kp r p k<=kp r p i)->Q l s) :
  ∀ (f l m:Nat),l<=m->m<=k->m - l<=f->(∀ i,i < l->kp r p i<=kp r p k)->(∀ i,m<=i->i < k->kp r p k<=kp r p i)->(kas_place p k f l m).kasWp cmp Q s
 | 0,l,m,a,b,c,lo,hi=>q l (by lia) lo fun i x y=>hi i (by lia) y
 | f+1,l,m,a,b,c,lo,hi=>by
  show (if l>=m then KasT.ret l else _).kasWp cmp Q s
  by_cases z:l>=m
  ·rw [if_pos z]
   exact q l (by lia) lo fun i x y=>hi i (by lia) y
  ·rw [if_neg z]
   refine hR _ _ _ (h.lt hk) (h.lt (by lia)) ?_
   by_cases y:r (p.getD k 0) < r (p.getD ((l+m) / 2) 0)
   ·rw [xH y]
    refine Zhu hR h hk hu q f l ((l+m) / 2) (by lia) (by lia) (by lia) lo fun i x w=>?_
    have:=V9 hu (i - (l+m) / 2) ((l+m) / 2) (by lia)
    rw [show (l+m) / 2+(i - (l+m) / 2)=i by lia] at this
    exact yA (yY y) this
   ·rw [xK y]
    refine Zhu hR h hk hu q f ((l+m) / 2+1) m (by lia) b (by lia) (fun i x=>?_) hi
    have:=V9 hu ((l+m) / 2 - i) i (by lia)
    rw [show i+((l+m) / 2 - i)=(l+m) / 2 by lia] at this
    exact yA this (Nat.le_of_not_lt y)
theorem Zqm (hR:Wa cmp r N s) {Q:Array Nat->Shared->Prop}:∀ (f:Nat) (p:Array Nat) (k:Nat),Pm N p->k+f<=N->UpTo r p k->(∀ p',Pm N p'->UpTo r p' (k+f)->Q p' s)->(kas_bin f p k).kasWp cmp Q s
 | 0,p,k,h,hk,hu,q=>q p h hu
 | f+1,p,k,h,hk,hu,q=>by
  show ((kas_place p k k 0 k).bind fun l=>kas_bin f (bubble p k (k - l)) (k+1)).kasWp cmp Q s
  rw [KasT.kasWp_bind]
  refine Zhu hR h (by lia) hu (fun l a lo hi=>?_) k 0 k (by lia) (by lia) (by lia) (fun i x=>by lia) fun i x y=>by lia
  refine Zqm hR f _ (k+1) (h.bub _ _) (by lia) (fun i x=>?_) fun p' a b=>q p' a (by rw [show k+(f+1)=k+1+f by lia]; exact b)
  rw [Zit h (by lia) a,Zit h (by lia) a]
  by_cases c:i=l
  ·rw [if_pos c,if_neg (by lia),if_pos (by lia)]
   by_cases d:i+1<=k/\l < k
   ·rw [show i+1 - 1=l by lia]
    exact hi l (by lia) (by lia)
   ·lia
  ·rw [if_neg c]
   by_cases d:i+1=l
   ·rw [if_pos d,if_neg (by lia)]
    exact lo i (by lia)
   ·rw [if_neg d]
    by_cases e:l < i
    ·rw [if_pos (by lia),if_pos (by lia),show i+1 - 1=i - 1+1 by lia]
     exact hu (i - 1) (by lia)
    ·rw [if_neg (by lia),if_neg (by lia)]
     exact hu i (by lia)
theorem Z1j (hR:Wa cmp r N s) (h2 : 1<=N) {Q:Array Nat->Shared->Prop}(q:∀ p,Pm N p->UpTo r p N->Q p s):(kas_sort N).kasWp cmp Q s:=by
 unfold kas_sort
 rw [KasT.kasWp_bind]
 refine Zzf hR (by show (List.toArray (List.range N)).toList.Perm _; exact List.Perm.refl _) h2 fun m p a b hp u=>?_
 by_cases c:m < N
 ·rw [if_pos c]
  refine Zqm hR _ p _ hp (by lia) (by rw [Nat.max_eq_left a]; exact u) fun p' x y=>q p' x ?_
  rw [show max m 1+(N - max m 1)=N by lia] at y
  exact y
 ·rw [if_neg c]
  exact q p hp (by rw [show N=m by lia]; exact u)
end
end L2
namespace L2
structure Weak (lt:Nat->Nat->Bool):Prop where
 irr:∀ i,lt i i=false
 tr:∀ i j k,lt i j=true->lt j k=true->lt i k=true
 neg:∀ i j k,lt i j=true->lt i k=true\/lt k j=true
def rk (lt:Nat->Nat->Bool) (N i:Nat):Nat:=(List.range N).countP fun k=>lt k i
theorem Zmi {p q:Nat->Bool}(h:∀ k,p k=true->q k=true) {i:Nat}(hp:p i=false) (hq:q i=true):∀ l:List Nat,i∈l->l.countP p < l.countP q
 | [],m=>nomatch m
 | x::l,m=>by
  have le:=List.countP_mono_left (l:=l) (p:=p) (q:=q) fun k _=>h k
  rw [List.countP_cons,List.countP_cons]
  rcases xW.mp m with rfl | m
  ·rw [hp,hq]
   simp
   lia
  ·have:=Zmi h hp hq l m
   by_cases z:p x=true
   ·rw [z,h x z]; simp; lia
   ·cases e:q x with
    | true=>simp [z]; lia
    | false=>simp [z]; lia
theorem Zdg {lt:Nat->Nat->Bool}(W:Weak lt) {N i j:Nat}(hi:i < N):decide (rk lt N i < rk lt N j)=lt i j:=by
 unfold rk
 cases e:lt i j with
 | true=>exact xH (Zmi (fun k h=>W.tr k i j h e) (W.irr i) e _ (yE.mpr hi))
 | false =>
  refine xK (Nat.not_lt.mpr (List.countP_mono_left fun k _ h=>?_))
  rcases W.neg k j i h with z | z
  ·exact z
  ·rw [e] at z; cases z
theorem Pm.out {α:Type}{p:Array Nat}{vs:List α}{d : α}(h:Pm vs.length p):(p.toList.map fun i=>vs.getD i d).Perm vs:=by
 have e:(List.range vs.length).map (fun i=>vs.getD i d)=vs:=by
  apply List.ext_getElem
  ·simp
  ·intro i h1 h2
   simp [h2]
 have:=h.map fun i=>vs.getD i d
 rw [e] at this
 exact this
theorem UpTo.pair {r:Nat->Nat}{p:Array Nat}{N:Nat}(hp:Pm N p) (u:UpTo r p N):p.toList.Pairwise fun i j=>r i<=r j:=by
 rw [zE]
 intro i j hi hj hij
 have hs:=hp.size
 have hi':i < p.size:=by simpa using hi
 have hj':j < p.size:=by simpa using hj
 have:=V9 u (j - i) i (by lia)
 rw [show i+(j - i)=j by lia] at this
 unfold kp at this
 simpa [Array.getD,hi',hj'] using this
theorem Zhh {α:Type}{p:Array Nat}{vs:List α}{d : α}{lt : α->α->Bool}(hp:Pm vs.length p) (W:Weak fun i j=>lt (vs.getD i d) (vs.getD j d)) (u:UpTo (rk (fun i j=>lt (vs.getD i d) (vs.getD j d)) vs.length) p vs.length) :
  (p.toList.map fun i=>vs.getD i d).Perm vs/\(p.toList.map fun i=>vs.getD i d).Pairwise fun a b=>lt b a=false:=by
 refine ⟨hp.out,?_⟩
 rw [List.pairwise_map]
 have h1:=u.pair hp
 have hm:∀ i∈p.toList,i < vs.length:=fun i hi=>yE.mp (hp.mem_iff.mp hi)
 refine yS ?_ h1
 intro i j hi hj h
 have:=Zdg W (i:=j) (j:=i) (hm j hj)
 rw [xK (Nat.not_lt.mpr h)] at this
 exact this.symm
end L2
namespace L2
open PySem PySem.Spec PyProof.Rows
def ltK:List Key->List Key->Bool
 | .inl x::r,.inl y::t=>if x=y then ltK r t else decide (x < y)
 | .inr x::r,.inr y::t=>if x=y then ltK r t else decide (x.cps.toList < y.cps.toList)
 | _,_=>false
def shp (k:List Key):List Bool:=k.map Sum.isLeft
theorem Z1k {x y:Str}(h:x≠y) (h2:¬ x.cps.toList < y.cps.toList):y.cps.toList < x.cps.toList:=by
 by_cases c:y.cps.toList < x.cps.toList
 ·exact c
 ·exfalso
  apply h
  have e:x.cps.toList=y.cps.toList:=List.le_antisymm (List.not_lt.mp c) (List.not_lt.mp h2)
  cases x; cases y
  simp only [Str.mk.injEq]
  exact Array.toList_inj.mp e
theorem Zqn {x y:Str}(h:x.cps.toList < y.cps.toList):x≠y:=fun e=>by subst e; exact List.lt_irrefl _ h
theorem Zev:∀ a:List Key,ltK a a=false
 | []=>rfl
 | .inl x::r=>by rw [ltK,if_pos rfl]; exact Zev r
 | .inr x::r=>by rw [ltK,if_pos rfl]; exact Zev r
theorem Zfc:∀ a b c:List Key,ltK a b=true->ltK b c=true->ltK a c=true
 | .inl x::r,.inl y::t,.inl z::u,h1,h2=>by
  rw [ltK] at h1 h2 ⊢
  by_cases e1:x=y
  ·rw [if_pos e1] at h1
   subst e1
   by_cases e2:x=z
   ·rw [if_pos e2] at h2 ⊢; exact Zfc r t u h1 h2
   ·rw [if_neg e2] at h2 ⊢; exact h2
  ·rw [if_neg e1] at h1
   have l1:=yD h1
   by_cases e2:y=z
   ·subst e2; rw [if_neg e1]; exact h1
   ·rw [if_neg e2] at h2
    have l2:=yD h2
    rw [if_neg (by lia)]
    exact xH (by lia)
 | .inr x::r,.inr y::t,.inr z::u,h1,h2=>by
  rw [ltK] at h1 h2 ⊢
  by_cases e1:x=y
  ·rw [if_pos e1] at h1
   subst e1
   by_cases e2:x=z
   ·rw [if_pos e2] at h2 ⊢; exact Zfc r t u h1 h2
   ·rw [if_neg e2] at h2 ⊢; exact h2
  ·rw [if_neg e1] at h1
   have l1:=yD h1
   by_cases e2:y=z
   ·subst e2; rw [if_neg e1]; exact h1
   ·rw [if_neg e2] at h2
    have l2:=yD h2
    have l3:=List.lt_trans l1 l2
    rw [if_neg (Zqn l3)]
    exact xH l3
 | [],_,_,h1,_=>by cases h1
 | .inl _::_,[],_,h1,_=>by cases h1
 | .inr _::_,[],_,h1,_=>by cases h1
 | .inl _::_,.inr _::_,_,h1,_=>by cases h1
 | .inr _::_,.inl _::_,_,h1,_=>by cases h1
 | .inl _::_,.inl _::_,[],_,h2=>by cases h2
 | .inr _::_,.inr _::_,[],_,h2=>by cases h2
 | .inl _::_,.inl _::_,.inr _::_,_,h2=>by cases h2
 | .inr _::_,.inr _::_,.inl _::_,_,h2=>by cases h2
theorem Zew:∀ a b c:List Key,shp a=shp c->ltK a b=true->ltK a c=true\/ltK c b=true
 | .inl x::r,.inl y::t,.inl z::u,hs,h=>by
  have hs':shp r=shp u:=by unfold shp at hs ⊢; simpa using hs
  rw [ltK] at h
  rw [ltK,ltK]
  by_cases e1:x=z
  ·subst e1
   rw [if_pos rfl]
   by_cases e2:x=y
   ·rw [if_pos e2] at h ⊢; exact Zew r t u hs' h
   ·rw [if_neg e2] at h ⊢; exact .inr h
  ·rw [if_neg e1]
   by_cases l:x < z
   ·exact .inl (xH l)
   ·by_cases e2:x=y
    ·subst e2; rw [if_neg (fun q=>e1 q.symm)]; exact .inr (xH (by lia))
    ·rw [if_neg e2] at h
     have:=yD h
     rw [if_neg (by lia)]
     exact .inr (xH (by lia))
 | .inr x::r,.inr y::t,.inr z::u,hs,h=>by
  have hs':shp r=shp u:=by unfold shp at hs ⊢; simpa using hs
  rw [ltK] at h
  rw [ltK,ltK]
  by_cases e1:x=z
  ·subst e1
   rw [if_pos rfl]
   by_cases e2:x=y
   ·rw [if_pos e2] at h ⊢; exact Zew r t u hs' h
   ·rw [if_neg e2] at h ⊢; exact .inr h
  ·rw [if_neg e1]
   by_cases l:x.cps.toList < z.cps.toList
   ·exact .inl (xH l)
   ·have l2:=Z1k e1 l
    by_cases e2:x=y
    ·subst e2; rw [if_neg (fun q=>e1 q.symm)]; exact .inr (xH l2)
    ·rw [if_neg e2] at h
     have:=List.lt_trans l2 (yD h)
     rw [if_neg (Zqn this)]
     exact .inr (xH this)
 | [],_,_,_,h1=>by cases h1
 | .inl _::_,[],_,_,h1=>by cases h1
 | .inr _::_,[],_,_,h1=>by cases h1
 | .inl _::_,.inr _::_,_,_,h1=>by cases h1
 | .inr _::_,.inl _::_,_,_,h1=>by cases h1
 | .inl _::_,.inl _::_,[],hs,_=>by simp [shp] at hs
 | .inr _::_,.inr _::_,[],hs,_=>by simp [shp] at hs
 | .inl _::_,.inl _::_,.inr _::_,hs,_=>by simp [shp] at hs
 | .inr _::_,.inr _::_,.inl _::_,hs,_=>by simp [shp] at hs
end L2
namespace L2
open PySem PySem.Spec PyProof.Rows PySem.W
section
variable {prog:Program}{w:World}{A:Around}{E:Value->Shared->Prop}{s:Shared}
theorem Zjb {i:Nat}{x y:Int}{t u:Tok}{Q:Bool->Shared->Prop}(h:Q (decide (x < y)) s):wpAny (model prog w) A (oneLt' (true && i == 0) (.int x t) (.int y u)) Q E s:=by
 rw [Bool.true_and]
 cases i == 0 with
 | true=>exact oneLt_int h
 | false=>exact kat_one _ _ (lt_int (show PySem.W.BoolBack Q (.bool (decide (x < y))) s from h))
theorem Z3j {i:Nat}{x y:Str}{t u:Tok}{Q:Bool->Shared->Prop}(h:Q (decide (x.cps.toList < y.cps.toList)) s):wpAny (model prog w) A (oneLt' (true && i == 0) (.str x t) (.str y u)) Q E s:=by
 rw [Bool.true_and]
 cases i == 0 with
 | true=>exact oneLt_str h
 | false=>exact kat_one _ _ (lt_str (show PySem.W.BoolBack Q (.bool (decide (x.cps.toList < y.cps.toList))) s from h))
theorem Zfd {Q:Bool->Shared->Prop}:∀ (k1 k2:List Key) (us vs:List Value) (i:Nat),shp k1=shp k2->Vals (k1.map kV) us->Vals (k2.map kV) vs->Q (ltK k1 k2) s->KatLex prog w A true false Q (us.zip vs) i s
 | [],[],_,_,i,_,.nil,.nil,h=>kat_nil h
 | .inl x::r,.inl y::t,_,_,i,hs,.cons r1 rr,.cons q1 qq,h=>by
  obtain ⟨t1,rfl⟩:=r1
  obtain ⟨t2,rfl⟩:=q1
  have hs':shp r=shp t:=by unfold shp at hs ⊢; simpa using hs
  rw [ltK] at h
  refine kat_cons (wpAny_eqBool_int ?_)
  by_cases e:x=y
  ·rw [if_pos e] at h
   rw [beq_iff_eq.mpr e]
   exact kat_yes (Zfd r t _ _ (i+1) hs' rr qq h)
  ·rw [if_neg e] at h
   rw [beq_eq_false_iff_ne.mpr e]
   exact kat_no (Zjb h)
 | .inr x::r,.inr y::t,_,_,i,hs,.cons r1 rr,.cons q1 qq,h=>by
  obtain ⟨t1,rfl⟩:=r1
  obtain ⟨t2,rfl⟩:=q1
  have hs':shp r=shp t:=by unfold shp at hs ⊢; simpa using hs
  rw [ltK] at h
  refine kat_cons (wpAny_eqBool_str ?_)
  by_cases e:x=y
  ·rw [if_pos e] at h
   rw [xH e]
   exact kat_yes (Zfd r t _ _ (i+1) hs' rr qq h)
  ·rw [if_neg e] at h
   rw [xK e]
   exact kat_no (Z3j h)
 | .inl _::_,.inr _::_,_,_,_,hs,_,_,_=>by simp [shp] at hs
 | .inr _::_,.inl _::_,_,_,_,hs,_,_,_=>by simp [shp] at hs
 | [],_::_,_,_,_,hs,_,_,_=>by simp [shp] at hs
 | _::_,[],_,_,_,hs,_,_,_=>by simp [shp] at hs
def Zfm (prog:Program) (w:World) (A:Around) (s:Shared) (a:Addr) (vs:List Value) (r:Nat->Nat):Prop:=2<=vs.length->∀ h':Heap,(∀ b o,b≠a->s.heap.get? b=some o->h'.get? b=some o) ->
 ∀ Q:SortKind->Shared->Prop,(∀ κ,Wa (kas_ask prog w A κ vs) r vs.length {s with heap:=h' }->Q κ {s with heap:=h' })->wpAny (model prog w) A (keyKind' vs.toArray) Q (fun _ _=>False) {s with heap:=h' }
theorem Znh {a:Addr}{vs:List Value}{n:Nat}{P:PySem.Fin->Shared->Prop}{r:Nat->Nat}(ho:s.heap.get? a=some (seqObj "list" vs.toArray n)) (h64:vs.length < 64) (hk:Zfm prog w A s a vs r)
  (q:∀ p:Array Nat,Pm vs.length p->UpTo r p vs.length->P (.done (.ret .none)) {s with heap:=sortedHeap s.heap a vs (List.toArray (p.toList.map fun i=>vs.getD i Value.none)) }):wpAny (model prog w) A (Builtin.«list.sort» ⟨[.ref a],[]⟩) P E s:=by
 have la:a < s.heap.objs.size:=xU ho
 obtain ⟨e1,h1⟩:∃ e1,(s.heap.update a (Obj.mapSeq fun _=>(#[]:Array Value))).get? a=some (seqObj "list" #[] e1):=⟨_,get?_update_seq ho fun _=>#[]⟩
 have old:∀ b o,b≠a->s.heap.get? b=some o->(((s.heap.update a (Obj.mapSeq fun _=>(#[]:Array Value))).push (seqObj "tuple" vs.toArray 0)).push (seqObj "list" #[] 0)).get? b=some o:=fun b o nb e =>
  xG _ (xG _ (by rw [Heap.get?_update_ne _ _ _ _ nb]; exact e))
 have h6:(((s.heap.update a (Obj.mapSeq fun _=>(#[]:Array Value))).push (seqObj "tuple" vs.toArray 0)).push (seqObj "list" #[] 0)).get? a=some (seqObj "list" #[] e1):=xG _ (xG _ h1)
 rw [list_sort_plain]; refine wpAny_bind (listItems_at ho rfl (wpAny_bind (listUpdate_at ho rfl (wpAny_bind (seqEpoch_at h1 rfl (wpAny_bind (wpAny_newTuple (wpAny_bind (wpAny_newList (wpAny_holding ?_)))))))))) <;> try (rw [sizeLine_eq]; simp; lia)
 show wpAny (model prog w) A _ P E {s with heap:=((s.heap.update a (Obj.mapSeq fun _=>(#[]:Array Value))).push (seqObj "tuple" vs.toArray 0)).push (seqObj "list" #[] 0) }
 dsimp only
 by_cases h2:vs.toArray.size < 2
 ·have l2:vs.length < 2:=by simpa using h2
  rw [if_pos h2,if_pos h2]; refine wpAny_bind (wpAny_pure ?_); rw [StateT.run_pure]; refine wpAny_bind (wpAny_pure ?_)
  dsimp only
  have em:(Array.map (fun x=>x.2) (arrOf (SortSt.mk' general' (vs.toArray.zip vs.toArray) #[] 7 none)))=List.toArray ((List.toArray (List.range vs.length)).toList.map fun i=>vs.getD i Value.none):=by
   show Array.map (fun x=>x.2) (vs.toArray.zip vs.toArray)=_
   match vs,l2 with
   | [],_=>simp
   | [v],_=>simp [List.range_succ]
  rw [em]
  have pm:Pm vs.length (List.toArray (List.range vs.length)):=List.Perm.refl _
  have sz:(List.toArray ((List.toArray (List.range vs.length)).toList.map fun i=>vs.getD i Value.none)).size<=sizeLine+1:=by rw [sizeLine_eq]; simp; lia
  refine wpAny_bind (seqEpoch_at h6 rfl (wpAny_bind (listUpdate_at h6 rfl ?_ (yT _) sz)))
  simp only [bne_self_eq_false,zD,if_false]; exact wpAny_pure (q _ pm fun i hi=>by lia)
 ·have l2 : 2<=vs.length:=by simp at h2; lia
  rw [if_neg h2,if_neg h2]
  refine wpAny_bind (wpAny_mono (hk l2 _ old (fun κ s'=>s'={s with heap:=((s.heap.update a (Obj.mapSeq fun _=>(#[]:Array Value))).push (seqObj "tuple" vs.toArray 0)).push (seqObj "list" #[] 0) }/\Wa (kas_ask prog w A κ vs) r vs.length s') fun κ hr=>⟨rfl,hr⟩) (fun κ s0 hq=>?_) fun _ _ x=>x.elim)
  obtain ⟨rfl,hr⟩:=hq
  refine wpAny_bind (wpAny_mono (kat_run (ks:=vs) (vs:=vs) (κ:=κ) (G:=fun p s'=>s'={s with heap:=((s.heap.update a (Obj.mapSeq fun _=>(#[]:Array Value))).push (seqObj "tuple" vs.toArray 0)).push (seqObj "list" #[] 0) }/\Pm vs.length p/\UpTo r p vs.length)
   (Q:=fun st' s'=>s'={s with heap:=((s.heap.update a (Obj.mapSeq fun _=>(#[]:Array Value))).push (seqObj "tuple" vs.toArray 0)).push (seqObj "list" #[] 0) }/\∃ p:Array Nat,(arrOf st').map (·.2)=List.toArray (p.toList.map fun i=>vs.getD i Value.none)/\failedOf st'=none/\Pm vs.length p/\UpTo r p vs.length)
   rfl l2 h64 (fun p st' s' a1 a2 a3 a4=>⟨a4.1,p,kat_snds rfl a2,a3,a4.2⟩) (Z1j hr (by lia) fun p a b=>⟨rfl,a,b⟩)) ?_ fun _ _ e=>e)
  rintro ⟨⟨⟩,st'⟩ s' ⟨rfl,p,ho',hf,hp,hu⟩
  dsimp only
  rw [ho']
  have sz:(List.toArray (p.toList.map fun i=>vs.getD i Value.none)).size<=sizeLine+1:=by rw [sizeLine_eq]; simp [hp.size]; lia
  refine wpAny_bind (seqEpoch_at h6 rfl (wpAny_bind (listUpdate_at h6 rfl ?_ (yT _) sz)))
  rw [hf]; simp only [bne_self_eq_false,zD,if_false]; exact wpAny_pure (q p hp hu)
theorem Zmj {l:Addr}{vs:List Value}{Q:Value->Shared->Prop}{r:Nat->Nat}(hl:s.heap.IsList l vs.toArray) (h64:vs.length < 64)
  (hk:∀ h0:Heap,(∀ b o,s.heap.get? b=some o->h0.get? b=some o)->Zfm prog w A.in1.in1 {s with heap:=h0 } (s.heap.objs.size+1) vs r)
  (q:∀ p:Array Nat,Pm vs.length p->UpTo r p vs.length->Q (.ref (s.heap.objs.size+1)) {s with heap:=sortedAll s.heap vs (List.toArray (p.toList.map fun i=>vs.getD i Value.none)) }):wpAny (model prog w) A (call (.builtin "sorted") [.ref l]) Q E s:=by
 refine Calls.call_function_entry kind_sorted plain_sorted entry_sorted (args_sorted1 _) ?_
 have hz:vs.length<=sizeLine:=by rw [sizeLine_eq]; lia
 unfold Builtin.«sorted»; refine wpAny_bind (m:=checkCount "sorted" 1 1 _) (wpAny_pure (wpAny_bind (collect_list hl (wpAny_bind (wpAny_newList ?_ hz)) hz)))
 have zz:((s.heap.push (seqObj "list" #[] 0)).update s.heap.objs.size (Obj.mapSeq (· ++ vs.toArray))).objs.size=s.heap.objs.size+1:=by rw [Heap.size_update]; exact size_push' _ _
 have hL:(((s.heap.push (seqObj "list" #[] 0)).update s.heap.objs.size (Obj.mapSeq (· ++ vs.toArray))).push (seqObj "list" vs.toArray 0)).get? (s.heap.objs.size+1)=some (seqObj "list" vs.toArray 0):=by have:=yC ((s.heap.push (seqObj "list" #[] 0)).update s.heap.objs.size (Obj.mapSeq (· ++ vs.toArray))) (o:=seqObj "list" vs.toArray 0) rfl; rw [zz] at this; exact this
 have old:∀ b o,s.heap.get? b=some o->(((s.heap.push (seqObj "list" #[] 0)).update s.heap.objs.size (Obj.mapSeq (· ++ vs.toArray))).push (seqObj "list" vs.toArray 0)).get? b=some o:=fun b o e =>
  xG _ (by rw [Heap.get?_update_ne _ _ _ _ (yJ (xU e))]; exact xG _ e)
 show wpAny _ _ _ _ _ {s with heap:=((s.heap.push (seqObj "list" #[] 0)).update s.heap.objs.size (Obj.mapSeq (· ++ vs.toArray))).push (seqObj "list" vs.toArray 0) }
 rw [zz]
 exact wpAny_bind (wpAny_holding (wpAny_call_entry slot_list_sort ⟨_,hL,rfl⟩ entry_list_sort (Znh hL h64 (hk _ old) fun p hp hu=>⟨_,rfl,wpAny_pure ⟨_,rfl,q p hp hu⟩⟩) (args_list_sort _)))
end
section
variable {X:Cx}
def TupAt (H:Hp) (p:Addr×List Key):Prop:=H p.1=some (.tup (p.2.map kV))
def Zn4 (K:uFg):List V->Hp->VK->Prop:=fun xs H Q=>∃ (a:Addr) (ps:List (Addr×List Key)) (sh:List Bool),xs = [.ref a]/\SqL K H a (ps.map fun p=>V.ref p.1)/\ps.length < 64/\(∀ p∈ps,TupAt H p/\shp p.2=sh)/\sh ≠ [] /\
  ∀ (l:Addr) (ms:List (Addr×List Key)),H l=none->ms.Perm ps->ms.Pairwise (fun p q=>ltK q.2 p.2=false)->Q (.ref l) (upd H l (.lst (ms.map fun p=>V.ref p.1)))
theorem Zpl:∀ {ps:List (Addr×List Key)}{its:List Value},Vals (ps.map fun p=>V.ref p.1) its->its=ps.map fun p=>Value.ref p.1
 | [],_,.nil=>rfl
 | p::ps,_,.cons r rr=>by cases r; rw [xQ,Zpl rr]
theorem Zhi:∀ ps:List (Addr×List Key),Vals (ps.map fun p=>V.ref p.1) (ps.map fun p=>Value.ref p.1)
 | []=>.nil
 | p::ps=>.cons rfl (Zhi ps)
theorem Zic {pins:List (Addr×Obj)}{σ:St}{H:Hp}{s:Shared}(I:Inv X pins σ H s) {sh:List Bool}(hne:sh ≠ []) {h':Heap}(hk:∀ (p:Addr×List Key) (o:Obj),TupAt H p->s.heap.get? p.1=some o->h'.get? p.1=some o):∀ ps:List (Addr×List Key),(∀ p∈ps,TupAt H p/\shp p.2=sh) ->
  ∃ fs,KatTups h' (ps.map fun p=>Value.ref p.1) fs/\fs.length=ps.length/\∀ v∈fs,Looks (model X.prog X.w) h' (typeOf v) (.type (if sh.head hne then "int" else "str"))
 | [],_=>⟨[],.nil,rfl,fun v hv=>by simp at hv⟩
 | p::ps,h=>by
  obtain ⟨fs,h1,h2,h3⟩:=Zic I hne hk ps fun q hq=>h q (xN _ hq)
  obtain ⟨ht,hs⟩:=h p xI
  obtain ⟨a,ks⟩:=p
  obtain ⟨its,rv,⟨o,e1,e2,n,e3⟩,_⟩:=I.tuple (SqT.of ht)
  cases ks with
  | nil=>exact absurd hs.symm hne
  | cons k r =>
   cases k with
   | inl x =>
    subst hs
    cases rv with
    | cons r1 rr =>
     obtain ⟨t,rfl⟩:=r1
     refine ⟨.int x t::fs,KatTups.cons (hk (a,.inl x::r) o ht e1) e2 e3 (by simp) h1,by rw [xS,xS,h2],fun v hv=>?_⟩
     rcases xW.mp hv with rfl | hv
     ·exact Looks.of_pure rfl
     ·exact h3 v hv
   | inr x =>
    subst hs
    cases rv with
    | cons r1 rr =>
     obtain ⟨t,rfl⟩:=r1
     refine ⟨.str x t::fs,KatTups.cons (hk (a,.inr x::r) o ht e1) e2 e3 (by simp) h1,by rw [xS,xS,h2],fun v hv=>?_⟩
     rcases xW.mp hv with rfl | hv
     ·exact Looks.of_pure rfl
     ·exact h3 v hv
theorem Zid {ps:List (Addr×List Key)}{sh:List Bool}{H:Hp}(ht:∀ p∈ps,TupAt H p/\shp p.2=sh):∃ sh',∀ i,shp (ps.getD i (ps.headD (0,[]))).2=sh':=by
 cases ps with
 | nil=>exact ⟨[],fun i=>by simp [shp]⟩
 | cons p ps =>
  refine ⟨sh,fun i=>?_⟩
  rw [xD]
  cases e:(p::ps)[i]? with
  | none=>exact (ht p xI).2
  | some x=>exact (ht x (xT e)).2
theorem Zvt:Wv X (.builtin "sorted") (Zn4 X.K):=by
 intro pins s σ H xs us Q I r h
 obtain ⟨a,ps,sh,rfl,ha,hl,ht,hne,q⟩:=h
 obtain ⟨u,rfl,ru⟩:=V3 r
 cases ru
 obtain ⟨its,rv,p,_⟩:=I.list ha
 have ei:=Zpl rv
 subst ei
 obtain ⟨sh',hsh⟩:=Zid ht
 have W:Weak fun i j=>ltK (ps.getD i (ps.headD (0,[]))).2 (ps.getD j (ps.headD (0,[]))).2:=⟨fun i=>Zev _,fun i j k=>Zfc _ _ _,fun i j k=>Zew _ _ _ ((hsh i).trans (hsh k).symm)⟩
 have hlen:(ps.map fun p=>Value.ref p.1).length=ps.length:=xA ..
 refine Zmj (r:=rk (fun i j=>ltK (ps.getD i (ps.headD (0,[]))).2 (ps.getD j (ps.headD (0,[]))).2) ps.length) p.isList (by rw [hlen]; exact hl) (fun h0 hk0 l2 h' hk Q' hQ=>?_) fun pa hp hu=>?_
 ·have hold:∀ (p:Addr×List Key) (o:Obj),TupAt H p->s.heap.get? p.1=some o->h'.get? p.1=some o:=fun p o _ e=>hk _ _ (yJ (Nat.lt_succ_of_lt (xU e))) (hk0 _ _ e)
  obtain ⟨fs,f1,f2,f3⟩:=Zic (h':=h') I hne hold ps ht
  have tt:(Value.type (if sh.head hne then "int" else "str") != Value.type "tuple")=true:=by cases sh.head hne <;> rfl
  have t2:(Value.type (if sh.head hne then "int" else "str") == Value.type (if sh.head hne then "int" else "str"))=true:=by cases sh.head hne <;> rfl
  refine kat_kind (s:={s with heap:=h' }) f1 (by lia) f3 t2 (hQ _ fun i j C hi hj hC=>?_)
  rw [tt]
  rw [hlen] at hi hj
  have get:∀ {i},i < ps.length->∃ p its o n,ps.getD i (ps.headD (0,[]))=p/\(ps.map fun p=>Value.ref p.1).getD i Value.none = .ref p.1/\Vals (p.2.map kV) its/\h'.get? p.1=some o/\o.data = .seq its.toArray n:=fun {i} hi=>by
   have e:ps[i]? = some ps[i]:=xB hi
   have m:=List.getElem_mem hi
   obtain ⟨its,rv,⟨o,e1,e2,n,e3⟩,_⟩:=I.tuple (SqT.of (ht _ m).1)
   exact ⟨ps[i],its,o,n,by rw [xD,e]; rfl,by rw [xD,xR,e]; rfl,rv,hold _ o (ht _ m).1 e1,e3⟩
  obtain ⟨x,xs,ox,nx,ex,gx,vx,hx,dx⟩:=get hi
  obtain ⟨y,ys,oy,ny,ey,gy,vy,hy,dy⟩:=get hj
  rw [Zdg W hi] at hC
  have s1:=hsh i
  have s2:=hsh j
  rw [ex] at hC s1
  rw [ey] at hC s2
  show wpAny (model X.prog X.w) X.A.in1.in1 (keyLt' (tuples' true) _ _) C (fun _ _=>False) {s with heap:=h' }
  rw [gx,gy]
  have sz:xs.length=ys.length:=by
   have a1:=vx.length; have a2:=vy.length
   have a3:(shp x.2).length=(shp y.2).length:=by rw [s1,s2]
   unfold shp at a3
   rw [xA] at a1 a2 a3
   rw [xA] at a3
   lia
  refine kat_lt hx dx hy dy ?_
  rw [xK (by simp [sz])]
  exact Zfd x.2 y.2 xs ys 0 (s1.trans s2.symm) vx vy hC
 ·rw [hlen] at hp hu
  obtain ⟨b1,b2⟩:=Zhh (lt:=fun a b:Addr×List Key=>ltK a.2 b.2) hp W hu
  obtain ⟨e,he⟩:=sortedAll_at s.heap (ps.map fun p=>Value.ref p.1) (List.toArray (pa.toList.map fun i=>(ps.map fun p=>Value.ref p.1).getD i Value.none))
  have eo:(pa.toList.map fun i=>(ps.map fun p=>Value.ref p.1).getD i Value.none)=(pa.toList.map fun i=>ps.getD i (ps.headD (0,[]))).map fun p=>Value.ref p.1:=by
   rw [yZ]
   refine zF fun i hi=>?_
   have li:i < ps.length:=yE.mp (hp.mem_iff.mp hi)
   show _=Value.ref (ps.getD i (ps.headD (0,[]))).1
   rw [xD,xD,xR,xB li]
   rfl
  rw [eo] at he ⊢
  generalize (pa.toList.map fun i=>ps.getD i (ps.headD (0,[])))=ms at b1 b2 he ⊢
  have hz:ms.length=ps.length:=b1.length_eq
  refine ⟨.ref (s.heap.objs.size+1),_,I.laid (t':=s.toks) (o:=.lst (ms.map fun p=>V.ref p.1)) (fun b o=>sortedAll_old) (Nat.le_succ _) ?_,rfl,q _ ms (I.hok.fresh (Nat.le_succ _)) b1 b2⟩
  exact ⟨by rw [xA,hz]; exact yA (yY hl) (by decide),ms.map fun p=>Value.ref p.1,e,Zhi ms,by simpa using he⟩
theorem Zvi:QC X (.builtin "sorted") (Zn4 X.K):=⟨Zvt⟩
end
end L2
end
section
namespace L2
open PySem PySem.Spec PyProof.Rows
section
variable {prog:Program}{w:World}{K:Type} [DecidableEq K] {knd:HeapKind prog w K}{A:Around}{E:Value->Shared->Prop}{s:Shared}
theorem Zu7 {d a:Addr}{xs:List (K×Addr×Value)}{k:K}{v:Value}{Q:Value->Shared->Prop}(hu:knd.room A) (hkey:knd.is s.heap k a) (hm:s.heap.DictOfH knd d xs)
  (h1:∀ p,atKey xs k=some p->Q p.2 {s with toks:=s.toks+knd.draws k })
  (h2:atKey xs k=none->∀ h',h'.DictOfH knd d (storedH xs k a v)->Heap.SameBut d s.heap h'->Q v {s with heap:=h',toks:=s.toks+knd.draws k })
  (hsz:xs.length<=sizeLine):wpAny (model prog w) A (dictSetDefault d (.ref a) v) Q E s:=by
 obtain ⟨o,es,ep,ho,hc,hd,he,his,hn⟩:=hm
 unfold dictSetDefault
 try with_reducible refine wpAny_holding ?_
 refine wpAny_bind (knd.pyHash hu hkey ?_)
 refine wpAny_bind (wpAny_dictFind_heap (s:={s with toks:=s.toks+knd.draws k }) hu hkey ho hd he his hn ?_ ?_)
 ·intro hno
  have hnot:k∉xs.map (·.1):=not_mem_keys_of_get hno
  refine wpAny_bind (wpAny_rule (wpAny_bind (wpAny_updateDictKeys (hz:=by have e:=size_of_entries he; lia) (s:={s with toks:=s.toks+knd.draws k }) ho hd (wpAny_pure (h2 (atKey_none_of_get hno) _ ⟨_,_,ep+1,Heap.get?_update_self _ ho (Obj.isFreed_of_dict (Obj.data_mapDictKeys hd _)),
   hc.mapDictKeys _,Obj.data_mapDictKeys hd _,?_,?_,?_⟩ (Heap.SameBut.update ..))))))
  ·rw [storedH_new (atKey_none_of_get hno)]
   simp [he,entryOfKey]
  ·rw [storedH_new (atKey_none_of_get hno)]
   intro x hx
   rcases xO.mp hx with hx | hx
   ·exact knd.keeps (his x hx) ho hd (Heap.SameBut.update ..)
   ·simp only [xF] at hx
    subst hx
    exact knd.keeps hkey ho hd (Heap.SameBut.update ..)
  ·rw [storedH_new (atKey_none_of_get hno)]
   rw [xP,List.nodup_append]
   refine ⟨hn,by simp,?_⟩
   intro x hx y hy
   simp only [xQ,List.map_nil,xF] at hy
   subst hy
   exact fun e=>hnot (e▸hx)
 ·intro j p hj
  refine wpAny_bind (wpAny_dictEntries (s:={s with toks:=s.toks+knd.draws k }) ho hd ?_)
  rw [entry_at he j,hj]
  exact wpAny_bind (wpAny_rule (wpAny_pure (h1 _ (atKey_of_get hn hj))))
theorem Zu5 (knd:HeapKind prog w K) (d a:Addr) (hd:(d == sysModules)=false) (dflt:Value) :
  MeetsIn prog w (Builtin.«dict.setdefault» ⟨[.ref d,.ref a,dflt],[]⟩) (fun A R s=>knd.room A.in1/\∃ k xs,knd.is s.heap k a/\s.heap.DictOfH knd d xs/\xs.length<=sizeLine /\
   (∀ p,atKey xs k=some p->R (.ok (.ret p.2)) {s with toks:=s.toks+knd.draws k }) /\
   (atKey xs k=none->∀ h',h'.DictOfH knd d (storedH xs k a dflt)->Heap.SameBut d s.heap h'->R (.ok (.ret dflt)) {s with heap:=h',toks:=s.toks+knd.draws k })) :=
 .of_wp fun A R s ⟨hu,k,xs,hkey,hm,hz,h1,h2⟩=>by
  unfold Builtin.«dict.setdefault»
  refine wpAny_bind ?_
  unfold Builtin.Dict.keyAndDefault
  refine wpAny_bind (wpAny_notOrdered_dict hm.typeIs ?_)
  show wpAny _ _ (pure (d,Value.ref a,some dflt)) _ _ s
  refine wpAny_pure ?_
  show wpAny _ _ (if (d == sysModules)=true then _ else (dictSetDefault d (.ref a) dflt >>= _)) _ _ s
  rw [if_neg (by rw [hd]; exact xJ)]
  exact wpAny_bind (Zu7 hu hkey hm (fun p hp=>wpAny_pure ⟨p.2,rfl,h1 p hp⟩) (fun hn h' hm' hs'=>wpAny_pure ⟨dflt,rfl,h2 hn h' hm' hs'⟩) hz)
end
section
variable {X:Cx}{pins:List (Addr×Obj)}{σ:St}{H:Hp}{s:Shared}{a b:Addr}{z:V}{r:Value}{kvs:List (List Key×V)}{k:List Key}{A:Around}{E:Value->Shared->Prop}
theorem Zzg {Q:Value->Shared->Prop}(hu:A.units+1 < cLine) (I:Inv X pins σ H s) (e:H a=some (.dT kvs)) (eb:H b=some (.tup (k.map kV))) (hl:kvs.length < sizeLine) (rz:RelV z r)
  (h1:∀ v,Zm kvs k=some v->∀ w' s',Inv X pins σ H s'->RelV v w'->Q w' s')
  (h2:Zm kvs k=none->∀ s',Inv X pins σ (upd H a (.dT (Yi kvs k z))) s'->Q r s'):wpAny (model X.prog X.w) A (call (.builtin "dict.setdefault") [.ref a,.ref b,r]) Q E s:=by
 obtain ⟨zl,hd,xs,rel,dd⟩:=Zry I.hok e
 have hz:xs.length<=sizeLine:=by rw [← Paired.length rel]; exact zl
 have hl':(Yi kvs k z).length<=sizeLine:=by have:=U3 kvs k z; lia
 refine call_meetsIn PySem.F.slot_dict_setdefault dd.typeIs PySem.F.entry_dict_setdefault (PySem.F.args_dict_setdefault_3 _ _ _) (Zu5 (tupleKind (Y3 X.prog X.w)) a b hd r) ⟨tupleKind_room_in1 hu,k,xs,Zac I.hok eb,dd,hz,fun p hp=>?_,fun hn h' dd' hs=>?_⟩
 ·have q:=rel.val k
  rw [hp,Option.map_some] at q
  cases hv:Zm kvs k with
  | none=>rw [hv] at q; cases q
  | some v=>rw [hv] at q; exact h1 v hv _ _ (I.tok _) q
 ·have q:=rel.val k
  rw [hn,Option.map_none] at q
  have hv:Zm kvs k=none:=by
   cases hv:Zm kvs k with
   | none=>rfl
   | some v=>rw [hv] at q; exact (show False from q).elim
  refine h2 hv _ ?_
  obtain ⟨q,es,ep,hq,e2,e3,e4,_,e5⟩:=dd'
  refine Zep I (by rw [e]; exact True.intro) hs ⟨q,hq⟩ ⟨hl',hd,_,(rel.put k eb rz).keeps fun c ys ec=>?_,q,es,ep,hq,e2,e3,e4,e5⟩
  rw [Zh (Zro ec e (fun z=>nomatch z))]
  exact ec
end
def Zpm (td ty tx:TE):TE:=fun σ H Q=>td σ H fun x H1=>∃ a,x = .ref a/\IsD H1 a/\ty σ H1 fun y H2=>tx σ H2 fun z H3=>∃ kvs k b,H3 a=some (.dT kvs)/\y = .ref b/\H3 b=some (.tup (k.map kV))/\kvs.length < sizeLine /\
 (∀ v,Zm kvs k=some v->Q v H3)/\(Zm kvs k=none->Q z (upd H3 a (.dT (Yi kvs k z))))
section
variable {X:Cx}{o e f:Expr}{apos cpos:Pos}{td ty tx:TE}{n:Nat}
theorem Zxw (hu:X.A.units+1 < cLine) (ho:PE X o td) (he:PE X e ty) (hf:PE X f tx) (m:M2 X o "setdefault" apos e f cpos):PE X (.Call (.Attribute o "setdefault" apos) [e,f] [] cpos) (Zpm td ty tx):=by
 intro pins s σ H Q I h
 refine wpAny_Call_method m.base m.few m.line PySem.F.plainAttrs_dict PySem.F.slot_dict_setdefault PySem.F.type_dict_setdefault (thn (ho pins s σ H _ I h) fun u s1 ⟨x,H1,I1,rx,a,ex,d,q1⟩=>?_)
 subst ex
 obtain rfl:u=Value.ref a:=rx
 obtain ⟨t1,t2,_⟩:=Zqh I1 d
 refine ⟨t1,t2,?_⟩
 rw [m.trees]
 refine Calls.callWith_builtin rfl (Calls.evalArgs_plain (Calls.spliced_cons (thn (he pins s1 σ H1 _ I1 q1) fun iv s2 ⟨y,H2,I2,ry,q2⟩ =>
  Calls.spliced_cons (thn (hf pins s2 σ H2 _ I2 q2) fun fv s3 ⟨z,H3,I3,rz,kvs,k,b,ea,ey,eb,hl,q3,q4⟩=>Calls.spliced_nil ?_))))
 subst ey
 obtain rfl:iv=Value.ref b:=ry
 exact Zzg hu I3 ea eb hl rz (fun v hv w' s4 I4 rw'=>⟨_,_,I4,rw',q3 v hv⟩) fun hn s4 I4=>⟨_,_,I4,rz,q4 hn⟩
theorem Zxx (hr:Room n X.A) (ho:QE X o td) (he:QE X e ty) (hf:QE X f tx) (m:M2 X o "setdefault" apos e f cpos:=by exact ⟨rfl,rfl,rfl,rfl⟩):QE X (.Call (.Attribute o "setdefault" apos) [e,f] [] cpos) (Zpm td ty tx):=⟨Zxw (by have:=hr.units; lia) ho.h he.h hf.h m⟩
theorem Zhv (hr:Room n X.A) (ho:QE X o td) (he:QE X e ty) (hf:QE X f tx) (m:M2 X o "get" apos e f cpos:=by exact ⟨rfl,rfl,rfl,rfl⟩):QE X (.Call (.Attribute o "get" apos) [e,f] [] cpos) (Zqi td ty tx):=⟨Zy2 (by have:=hr.units; lia) ho.h he.h hf.h m⟩
theorem Zn5:∀ (n:Nat) (acc:List Value) (k:Nat),acc.length=n->(∀ j v,acc[j]? = some v->∃ t,v=Value.int ((0:Int)+((k+j:Nat):Int) * 1) t)->Vals ((List.range' k n).map fun i:Nat=>V.int (i:Int)) acc
 | 0,[],_,_,_=>.nil
 | n+1,a::acc,k,hl,h=>by
  rw [List.range'_succ,xQ]
  refine .cons ?_ (Zn5 n acc (k+1) (by simpa using hl) fun j v hj=>?_)
  ·obtain ⟨t,rfl⟩:=h 0 a rfl
   exact ⟨t,by rw [Int.mul_one,Int.zero_add]; rfl⟩
  ·obtain ⟨t,rfl⟩:=h (j+1) v (by simpa using hj)
   exact ⟨t,by rw [show k+(j+1)=k+1+j by lia]⟩
def Zr7 (ta:TA):TE:=fun σ H Q=>ta σ H fun vs H1=>∃ n:Nat,vs = [.int n]/\n<=1000000/\∀ l,H1 l=none->Q (.ref l) (upd H1 l (.lst ((List.range n).map fun i:Nat=>V.int (i:Int))))
theorem Z1l {a:Expr}{ta:TA}{p q pos pos':Pos}(hc:X.calm=true) (hgl:Nm X.env.scope "list" .globalImplicit) (hml:X.mg "list" = none) (hg:Gl X "range") (hm:X.mg "range" = none) (ha:PA X [a] ta)
  (hs:starEach [a] X.env = [(false,eval a X.env)]:=by rfl) (hs2:starEach [.Call (.Name "range" p) [a] [] pos] X.env = [(false,eval (.Call (.Name "range" p) [a] [] pos) X.env)]:=by rfl) :
  PE X (.Call (.Name "list" q) [.Call (.Name "range" p) [a] [] pos] [] pos') (Zr7 ta):=by
 intro pins s σ H Q I h
 refine wpAny_Call_Name_kw (Vs I hgl.1 hml boot_list ?_ hgl.2.2.2 hgl.2.1)
 refine PyProof.Rows.callWith_type1 ?_ hs2 rfl
 rw [hs2]
 refine Calls.spliced_cons ?_
 refine Call_ (Vs I hg hm boot_range (PyProof.Rows.callWith_type1 (thn (ha pos pins s σ H _ I h) fun us s1 ⟨vs,H1,I1,r1,n,e,hn,q1⟩=>?_) hs rfl))
 subst e
 cases r1 with
 | cons r rr =>
  cases rr
  obtain ⟨t,rfl⟩:=r
  refine call_range_1 (Calls.spliced_nil ?_)
  have I2:Inv X pins σ H1 {s1 with heap:=s1.heap.push {cls:=.type "range", data:=.fields #[.int 0 s1.toks,.int (n:Int) t,.int 1 (s1.toks+1)] },toks:=s1.toks+1+1 }:=I1.kept fun b o e=>xG _ e
  refine call_list_range (n:=n) (I2.ok.hd hc) (IsRange.new ..) (small_one (by decide) (by decide) (by lia) (by lia)) (by rw [rangeSize_one]; split <;> lia) (by lia) fun h' tk acc c' hk hS hacc=>?_
  refine ⟨.ref _,_,I2.laid (t':=tk) (o:=.lst ((List.range n).map fun i:Nat=>V.int (i:Int))) hk (xE _) ⟨?_,acc.toList,c',?_,by rw [Array.toArray_toList]; exact hS⟩,rfl,q1 _ (I2.hok.fresh (xE _))⟩
  ·rw [xA,zC]
   exact yA hn (by decide)
  ·rw [List.range_eq_range']
   exact Zn5 n acc.toList 0 (by rw [zA]; exact hacc.1) fun j v e=>by
    obtain ⟨t,ht⟩:=hacc.2 j v (by rw [← Array.getElem?_toList]; exact e)
    exact ⟨t,by rw [ht,Nat.zero_add]⟩
theorem Z1m {a:Expr}{ta:TA}{p q pos pos':Pos}(hc:X.calm=true) (hgl:Nm X.env.scope "list" .globalImplicit) (hml:X.mg "list" = none) (hg:Gl X "range") (hm:X.mg "range" = none) (ha:QA X [a] ta)
  (hs:starEach [a] X.env = [(false,eval a X.env)]:=by rfl) (hs2:starEach [.Call (.Name "range" p) [a] [] pos] X.env = [(false,eval (.Call (.Name "range" p) [a] [] pos) X.env)]:=by rfl) :
  QE X (.Call (.Name "list" q) [.Call (.Name "range" p) [a] [] pos] [] pos') (Zr7 ta):=⟨Z1l hc hgl hml hg hm ha.h hs hs2⟩
end
end L2
end
section
namespace L2
open PySem PySem.Spec PyProof.Rows
section
variable {X:Cx}
def Zpn (K:uFg):R2:=fun x y H Q=>∃ (b p:Addr) (c:Int) (n:Str) (ps:List (Int×Str)) (vs:List V),x = .ref b/\H b=some (.tup [.int c,.str n])/\y = .ref p/\SqL K H p vs/\Za6 H ps vs/\Q (.bl (!decide ((c,n)∈ps))) H
theorem Zxy (hu:X.A.units+1 < cLine):OpR X (compareOp .NotIn) (Zpn X.K):=by
 intro pins s σ H x y v u Q I rx ry ⟨b,p,c,n,ps,vs,ex,hb,ey,hq,hp,q⟩
 subst ex ey
 obtain rfl:v=Value.ref b:=rx
 obtain rfl:u=Value.ref p:=ry
 obtain ⟨its,r,pl,hz⟩:=I.list hq
 obtain ⟨g1,g2⟩:=Zmu (A:=X.A.in1) I (by show X.A.units+1 < cLine; exact hu) hb hp r
 refine SeqAt.notIn_listAt (Zb2 H c n) pl.isList (fun w hw=>g1 w (by simpa using hw)) ⟨.bl _,H,I,rfl,?_⟩
 rw [show its.toArray.any (Zb2 H c n)=its.any (Zb2 H c n) by simp,g2]
 exact q
def Zhw (K:uFg):R2:=fun x y H Q=>Zpn K x y H Q\/Zia x y H Q
theorem Zv7 {k:Nat}(hr:Room k X.A):QOp X (compareOp .NotIn) (Zhw X.K):=⟨by
 intro pins s σ H x y v u Q I rx ry h
 have hu:X.A.units+1 < cLine:=by have:=hr.units; lia
 rcases h with h | h
 ·exact Zxy hu pins s σ H x y v u Q I rx ry h
 ·exact Zng hu pins s σ H x y v u Q I rx ry h⟩
end
section
variable {X:Cx}{scope:Scope}{cl:List (Str×Addr)}{C:Addr}{N':List Str}{s0:Shared}{H0:Hp}{ex:List Addr}{pn:List (Addr×Obj)}
theorem Zvu {k:Nat}(hr:Room k X.A):QOp (ccx X scope cl C N' s0 H0 ex pn) (compareOp .NotIn) (Zhw X.K):=Zv7 (X:=ccx X scope cl C N' s0 H0 ex pn) hr
end
end L2
end
section
namespace L2
open PySem PySem.Spec PyProof.Rows
theorem Zn6 {X:Cx}{st:Stmt}:QS X st (fun _ _ _=>False):=⟨fun _ _ _ _ _ _ h=>h.elim⟩
end L2
end
section
namespace L2
open PySem PySem.Spec PyProof.Rows
def Ite (K:uFg) (l:Addr):It :=
 ⟨fun i H=>∃ xs,SqL K H l xs/\i < xs.length,fun i H v H'=>∃ p a,v = .ref p/\H p=none/\H'=upd H p (.tup [.int i,a])/\∀ xs,SqL K H l xs->xs[i]? = some a,
  fun i H=>∃ xs,SqL K H l xs/\xs.length<=i⟩
theorem Zxz {P:Program}{w:World}{K:uFg}{elts:List Expr}{ek:Nat}{epos:Pos}{e it l:Addr}(hei:e≠it) (hle:l≠e) (hli:l≠it) :
  Turn P w K (.Tuple elts ek epos) (Ite K l) [e,it] e (fun i h=>(∃ old,IsEnum h e it i old)/\h.IsListIter it l i) where
 mem:=by simp
 obj:=fun i h st b hb=>by
  obtain ⟨⟨old,he⟩,⟨o,ho,hc,hd⟩⟩:=st
  simp only [xW,List.not_mem_nil,or_false] at hb
  rcases hb with rfl | rfl
  ·exact ⟨_,he,fun v q=>by cases q⟩
  ·exact ⟨o,ho,fun v q=>by rw [hd] at q; cases q⟩
 keep:=fun i h h' st k=>by
  obtain ⟨⟨old,he⟩,hit⟩:=st
  exact ⟨⟨old,k e (by simp) _ he⟩,hit.at fun o x=>k it (by simp) o x⟩
 item:=by
  intro X hP hw hK hc i pins s σ H E I hf st hg
  subst hP hw hK
  obtain ⟨⟨old,he⟩,hit⟩:=st
  obtain ⟨xs,q1,hx⟩:=hg
  obtain ⟨its,r1,w1,_⟩:=I.list q1
  have gx:xs[i]? = some xs[i]:=xB hx
  obtain ⟨u1,hu1,ru1⟩:=r1.get gx
  refine wpAny_pyNext_enum_item he hit w1.isList (by simpa using hu1) hei fun h' ho hit' hT hsz kp=>?_
  refine ⟨_,rfl,?_⟩
  have hp:H s.heap.objs.size=none:=I.hok.fresh (xE _)
  have ltp:∀ c o,s.heap.get? c=some o->c≠s.heap.objs.size:=fun c o e=>yJ (xU e)
  have kp':∀ c o,c ∉ [e,it]->s.heap.get? c=some o->h'.get? c=some o:=fun c o hc e=>kp c o (fun q=>hc (by simp [q])) (fun q=>hc (by simp [q])) e
  have ntr:∀ c u,H c=some u->c ∉ [e,it]:=fun c u e hc=>by
   have:=(hf c hc).1
   rw [this] at e; cases e
  have I1:Inv X pins σ (upd H s.heap.objs.size (.tup [.int i,xs[i]])) {s with heap:=h',toks:=s.toks+1 }:=by
   refine I.step (g':=s.gens) (d':=s.drawn) (t':=s.toks+1) (ch:=[e,it]) (fun c hc=>?_) (fun c o _ _ hc e _=>kp' c o hc e) (fun c o _ _ hc e _=>⟨o.slots,kp' c o hc e⟩) (fun c o hc e n=>by rw [Zh (ltp c o e)]; exact n)
    (fun c o hc e=>⟨o,kp' c o hc e⟩) (fun c us e=>by rw [Zh (Z5 e hp)]; exact e) (fun c o u e=>by rw [Zh (Z5 e hp)]; exact e) (fun c ps e=>⟨#[],by rw [Zh (Z5 e hp),e]; simp⟩) (fun m hm=>?_) ?_ I.bare
   ·obtain ⟨f0,f1,f2,f3,f4,f5⟩:=hf c hc
    exact ⟨f3,f1,f4,f5⟩
   ·refine hm.at fun o e=>kp' _ o (fun hc=>?_) e
    exact (hf _ hc).2.1 rfl
   ·intro c u e
    by_cases hcp:c=s.heap.objs.size
    ·subst hcp
     rw [upd_same] at e
     cases e
     exact ⟨by show 2<=sizeLine; decide,[.int i s.toks,u1],.cons ⟨s.toks,rfl⟩ (.cons ru1 .nil),⟨_,hT,rfl,_,rfl⟩⟩
    ·rw [Zh hcp] at e
     refine (I.hok c u e).stay (fun d v hd q=>kp' d v ?_ q) (fun d q=>by rw [Zh (Z5 q hp)]; exact q) fun d us q=>by rw [Zh (Z5 q hp)]; exact q
     rcases hd with rfl | hd
     ·exact ntr _ u e
     ·exact ntr _ _ hd
  refine wpAny_letOwnedTupleGo_enum (s:={s with heap:=h',toks:=s.toks+1 }) ho fun h2 z2 e2=>?_
  obtain ⟨f0,f1,f2,f3,f4,f5⟩:=hf e (by simp)
  have nz:e≠s.heap.objs.size:=ltp e _ he
  have I2:Inv X pins σ (upd H s.heap.objs.size (.tup [.int i,xs[i]])) {s with heap:=h2,toks:=s.toks+1 }:=I1.turned (s:={s with heap:=h',toks:=s.toks+1 }) (it:=e) (t':=s.toks+1) (fun c o hc e=>(e2.2 c hc).trans e) (by rw [Zh nz]; exact f0) f1 f3 f4 f5
  have z2':IsEnum h2 e it ((i+1:Nat):Int) u1:=by
   have e0:((i+1:Nat):Int)=(i:Int)+1:=by push_cast; rfl
   rw [e0]; exact z2
  refine ⟨.ref s.heap.objs.size,_,I2,rfl,⟨s.heap.objs.size,xs[i],rfl,hp,rfl,fun xs' q1'=>?_⟩,⟨⟨_,z2'⟩,hit'.at fun o x=>(e2.2 it hei.symm).trans x⟩,fun c hc=>?_⟩
  ·rw [I.list_inj q1' q1]
   exact gx
  ·obtain ⟨o,ho⟩:∃ o,s.heap.get? c=some o:=by
    simp only [xW,List.not_mem_nil,or_false] at hc
    rcases hc with rfl | rfl
    ·exact ⟨_,he⟩
    ·obtain ⟨o,x,_⟩:=hit; exact ⟨o,x⟩
   rw [Zh (ltp c o ho)]
   exact (hf c hc).1
 done:=by
  intro X hP hw hK hc i pins s σ H E I hf st hg
  subst hP hw hK
  obtain ⟨⟨old,he⟩,hit⟩:=st
  obtain ⟨xs,q1,hend⟩:=hg
  obtain ⟨its,r1,w1,_⟩:=I.list q1
  refine wpAny_pyNext_enum_end (I.ok.hd hc) he hit w1.isList (by have e1:=r1.length; simp; lia) fun h' kp=>⟨rfl,?_⟩
  obtain ⟨f0,f1,f2,f3,f4,f5⟩:=hf it (by simp)
  exact I.turned (it:=it) (t':=s.toks) (fun c o hc e=>kp c o hc e) f0 f1 f3 f4 f5
 self:=fun A i s Q E st h=>by
  obtain ⟨⟨old,he⟩,_⟩:=st
  exact wpAny_pyIter_enum he h
def Zr8 (K:uFg) (ta:TA):TI:=fun σ H R=>ta σ H fun vs H1=>∃ l xs,vs = [.ref l]/\SqL K H1 l xs/\R (Ite K l) H1
theorem Zvv:bootBuiltins "enumerate" = some (.type "enumerate"):=by decide +kernel
theorem Z1n {X:Cx}{a:Expr}{ta:TA}{p pos:Pos}{elts:List Expr}{ek:Nat}{epos:Pos}(hg:Gl X "enumerate") (hm:X.mg "enumerate" = none) (ha:PA X [a] ta) (hs:starEach [a] X.env = [(false,eval a X.env)]:=by rfl) :
  PI X (.Tuple elts ek epos) (.Call (.Name "enumerate" p) [a] [] pos) (Zr8 X.K ta):=by
 intro pins s σ H R I h
 refine Call_ (Vs I hg hm Zvv (PyProof.Rows.callWith_type1 (thn (ha pos pins s σ H _ I h) fun us s1 ⟨vs,H1,I1,r1,q1⟩=>?_) hs rfl))
 obtain ⟨l,xs,e,h1,q⟩:=q1
 subst e
 obtain ⟨u1,rfl,ru1⟩:=V3 r1
 cases ru1
 obtain ⟨its,r1,p1,_⟩:=I1.list h1
 have b1:l < s1.heap.objs.size:=by obtain ⟨o,n,e,_⟩:=p1; exact xU e
 refine call_enumerate_list p1.isList fun h' z0 st1 _ kp=>?_
 refine wpAny_pyIter_enum z0 ?_
 have b1' : @LT.lt Nat _ l s1.heap.objs.size:=b1
 have key:∀ (a b:Nat),(a < b\/b < a)->¬ (@Eq Nat a b):=fun a b h q=>by lia
 refine ⟨s1.heap.objs.size+1,_,_,_,H1,rfl,I1.kept (h':=h') (t':=s1.toks) kp,Zxz (it:=s1.heap.objs.size) (l:=l) (key _ _ (by lia)) (key _ _ (by lia)) (key _ _ (by lia)),⟨⟨_,z0⟩,st1⟩,fun c hc=>?_,q⟩
 have hle:s1.heap.objs.size<=c:=by
  simp only [xW,List.not_mem_nil,or_false] at hc
  have:(s1.heap.objs.size:Nat)<=(c:Nat):=by rcases hc with rfl | rfl <;> lia
  exact this
 exact I1.fpOk hle (I1.hok.fresh hle)
theorem Zpo {X:Cx}{a:Expr}{ta:TA}{p pos:Pos}{elts:List Expr}{ek:Nat}{epos:Pos}(hg:Gl X "enumerate") (hm:X.mg "enumerate" = none) (ha:QA X [a] ta) (hs:starEach [a] X.env = [(false,eval a X.env)]:=by rfl) :
  QI X (.Tuple elts ek epos) (.Call (.Name "enumerate" p) [a] [] pos) (Zr8 X.K ta):=⟨Z1n hg hm ha.h hs⟩
theorem Zx0 {K:uFg}{l:Addr}{g:TG}{tb:TS}{D:Ends}{σ:St}{H:Hp}(xs:List V) (Pv:Nat->St->Hp->Prop) (h0:Pv 0 σ H) (hl:∀ i σ H,i<=xs.length->Pv i σ H->SqL K H l xs)
  (hs:∀ i x p σ H,xs[i]? = some x->Pv i σ H->H p=none->g (.ref p) σ (upd H p (.tup [.int i,x])) fun σ2 H2=>tb {D with nx:=Pv (i+1),ct:=Pv (i+1),bk:=D.nx } σ2 H2) (hd:∀ σ H,Pv xs.length σ H->D.nx σ H):Zae (Ite K l) g tb D σ H:=by
 refine ⟨fun i m σ H=>m=xs.length - i/\i<=xs.length/\Pv i σ H,⟨xs.length,by simp,yT _,h0⟩,?_⟩
 rintro i m σ H ⟨rfl,hi,p⟩
 have q1:=hl i σ H hi p
 by_cases hlt:i < xs.length
 ·refine .inr ⟨⟨xs,q1,hlt⟩,Pv (i+1),fun σ' H' p'=>⟨xs.length - (i+1),by lia,rfl,hlt,p'⟩,fun v H' y=>?_⟩
  obtain ⟨pp,a,rfl,hp,rfl,hv⟩:=y
  exact hs i a pp σ H (hv xs q1) p hp
 ·have e:i=xs.length:=by lia
  subst e
  exact .inl ⟨⟨xs,q1,xE _⟩,hd σ H p⟩
end L2
end
section
namespace L2
open PySem PySem.Spec PyProof.Rows
structure HasM (K:uFg) (C:Addr) (m qual:Str) (st:Stmt):Prop where
 ex:∃ (f:Addr) (fd:FuncData),Fun K m qual st f fd/\Meth K C m f
structure Mt (P:Program) (w:World) (K:uFg) (mg:Str->Option Value) (base:Heap) (C:Addr) (m:Str) (ps:List Str) (k:Nat) (sp:Sp):Prop where
 ex:∃ (f:Addr) (fd:FuncData),Meth K C m f/\FnOk P w K mg base CX0 k f fd ps sp/\Binds K fd ps []
section
variable {P:Program}{w:World}{K:uFg}{mg:Str->Option Value}{base:Heap}{C:Addr}{m qual:Str}{st:Stmt}{N ps:List Str}{k:Nat}{sp:Sp}
structure Mks (P:Program) (w:World) (K:uFg) (mg:Str->Option Value) (base:Heap) (C:Addr) (x:Str) (k:Nat) (sp:Sp):Prop where
 ex:∃ (f:Addr) (fd:FuncData),Mk K C f/\FnOk P w K mg base CX0 k f fd ["self"] sp/\Binds K fd ["self"] []/\mg x=some (.ref C)
end
section
variable {X:Cx}{C:Addr}{m x f:Str}{ps:List Str}{k:Nat}{sp:Sp}{o e value i:Expr}{es:List Expr}{ta td ty tv:TE}{t:TA}{apos pos pos' p:Pos}
theorem Zpp (hr:Room k X.A) (ho:QE X o td) (hi:QE X i ty) (hs:Zk9 i):QE X (.Subscript o i pos) (Zrz td ty):=⟨Z04 (by have:=hr.units; lia) ho.h hi.h hs⟩
theorem Zzh {ek ev:Expr}{tk tw:TE}(hk:QE X ek tk) (hv:QE X ev tw):QE X (.Dict [some ek] [ev] pos) (Zr1 [(tk,tw)]):=⟨Z07 (Zy1 hk.h hv.h Z06) rfl rfl (by simp) (by show 1<=15; decide)⟩
end
end L2
end
section
namespace L2
open PySem PySem.Spec PyProof.Rows
section
variable {X:Cx}{pins:List (Addr×Obj)}{σ:St}{H:Hp}{s:Shared}
end
section
variable {X:Cx}{e:Expr}{te:TE}
end
section
variable {X:Cx}{tg l:Expr}{te:TE}
end
section
variable {X:Cx}
end
end L2
end
section
namespace L2
open PySem PySem.Spec PyProof.Rows
section
variable {X:Cx}{o:Expr}{te:TE}
end
end L2
end
section
namespace L2
open PySem PySem.Spec PyProof.Rows
theorem Zx1 {J:It}{nl:Nat}{fv:St}{g:TG}{tt:TTs}{te:TE}{Q:VK}{H:Hp}(n:Nat) (f:Nat->Option (List V)) (Pv:Nat->List V->Hp->Prop) (h0:Pv 0 [] H) (hn:n<=1000000)
  (hgo:∀ i H ys,i < n->Pv i ys H->J.go i H) (hy:∀ i H x H' ys,i < n->Pv i ys H->J.yld i H x H'->∃ p us,f i=some us/\x = .ref p/\H p=none/\H'=upd H p (.tup us)) (hst:∀ H ys,Pv n ys H->J.stop n H)
  (hlen:∀ i ys H,Pv i ys H->ys.length<=i)
  (step:∀ i us p ys H,i < n->f i=some us->Pv i ys H->H p=none->Vn nl fv g tt te (.ref p) (upd H p (.tup us)) (fun y H'=>Pv (i+1) (ys ++ [y]) H') fun H'=>Pv (i+1) ys H')
  (hd:∀ ys H,Pv n ys H->∀ l,H l=none->Q (.ref l) (upd H l (.lst ys))) :
  V5 J nl fv g tt te Q H:=by
 have mono:∀ {x:V}{H:Hp}{Y Y':V->Hp->Prop}{N N':Hp->Prop},Vn nl fv g tt te x H Y N->Y=Y'->N=N'->Vn nl fv g tt te x H Y' N':=fun h e1 e2=>by subst e1; subst e2; exact h
 refine ⟨fun i m ys H=>m=n - i/\i<=n/\Pv i ys H,⟨n,by simp,yT _,h0⟩,?_⟩
 rintro i m ys H ⟨rfl,hi,p⟩
 have hl:=hlen i ys H p
 have hz:(1000000:Nat) < sizeLine:=by decide
 by_cases hlt:i < n
 ·refine .inr ⟨hgo i H ys hlt p,by lia,n - (i+1),by lia,fun x H' y=>?_⟩
  obtain ⟨q,us,hf,rfl,hq,rfl⟩:=hy i H x H' ys hlt p y
  refine mono (step i us q ys H hlt hf p hq) ?_ ?_
  ·funext y H4
   apply propext
   exact ⟨fun q=>⟨rfl,hlt,q⟩,fun q=>q.2.2⟩
  ·funext H3
   apply propext
   exact ⟨fun q=>⟨rfl,hlt,q⟩,fun q=>q.2.2⟩
 ·have e:i=n:=by lia
  subst e
  exact .inl ⟨hst H ys p,by lia,hd ys H p⟩
theorem Zx2 {K:uFg}{l:Addr}{nl:Nat}{fv:St}{g:TG}{tt:TTs}{te:TE}{Q:VK}{H:Hp}(xs:List V) (Pv:Nat->List V->Hp->Prop) (h0:Pv 0 [] H) (hn:xs.length<=1000000)
  (hl:∀ i ys H,i<=xs.length->Pv i ys H->SqL K H l xs) (hlen:∀ i ys H,Pv i ys H->ys.length<=i)
  (step:∀ i x p ys H,xs[i]? = some x->Pv i ys H->H p=none->Vn nl fv g tt te (.ref p) (upd H p (.tup [.int i,x])) (fun y H'=>Pv (i+1) (ys ++ [y]) H') fun H'=>Pv (i+1) ys H')
  (hd:∀ ys H,Pv xs.length ys H->∀ l,H l=none->Q (.ref l) (upd H l (.lst ys))) :
  V5 (Ite K l) nl fv g tt te Q H:=by
 refine Zx1 xs.length (fun i=>(xs[i]?).map fun x=>[.int i,x]) Pv h0 hn (fun i H ys hi p=>⟨xs,hl i ys H (yY hi) p,hi⟩) ?_ (fun H ys p=>⟨xs,hl _ ys H (xE _) p,xE _⟩) hlen ?_ hd
 ·rintro i H x H' ys hi p ⟨q,a,rfl,hq,rfl,ha⟩
  exact ⟨q,_,by rw [ha xs (hl i ys H (yY hi) p)]; rfl,rfl,hq,rfl⟩
 ·intro i us p ys H hi hf hp hq
  obtain ⟨x,hx,rfl⟩:=yM.mp hf
  exact step i x p ys H hx hp hq
end L2
end
section
namespace L2
open PySem PySem.Spec PyProof.Rows PySem.W
def Ents (h:Heap) (d:Addr) (es:Array DictEntry) (ep:Nat):Prop:=∃ o,h.get? d=some o/\o.ExactDict/\o.data = .dict es ep
theorem Ents.ty {s:Shared}{d:Addr}{es:Array DictEntry}{ep:Nat}(h:Ents s.heap d es ep):s.TypeIs (.ref d) "dict" := let ⟨o,e,c,_⟩:=h; ⟨o,e,c.1⟩
section
variable {prog:Program}{w:World}{A:Around}{E:Value->Shared->Prop}{s:Shared}{d it:Addr}{es:Array DictEntry}{ep i:Nat}
theorem Zx3 {Q:Value->Shared->Prop}(lo:(d == sysModules)=false) (h:Ents s.heap d es ep) (q:Q (.ref s.heap.objs.size) {s with heap:=s.heap.push {cls:=.type "dict_keyiterator", data:=.fields #[.ref d,.int 0 0,.int es.size 0,.int ep 0] } }) :
  wpAny (model prog w) A (pyIter (.ref d)) Q E s:=by
 have ty:=h.ty
 obtain ⟨o,e1,e2,e3⟩:=h
 refine wpAny_pyIter_slot ty PySem.F.slot_dict_iter (wpAny_call_entry PySem.F.slot_dict_iter ty PySem.F.entry_dict_iter ?_ (PySem.F.args_dict_iter_1 _))
 unfold Builtin.«dict.__iter__» Builtin.Dict.dictSlotNone; refine wpAny_bind (wpAny_bind (wpAny_notOrdered_dict ty ?_))
 show wpAny _ _ (pure (Value.ref d)) _ _ s; refine wpAny_pure ?_
 show wpAny _ _ (Builtin.Dict.showsAll d >>= _) _ _ s; unfold Builtin.Dict.showsAll; rw [if_neg (by rw [lo]; simp)]
 refine wpAny_bind (wpAny_pure (wpAny_bind (wpAny_dictEntries e1 e3 (wpAny_bind (wpAny_dictEpoch e1 e3 (wpAny_bind (wpAny_newObj_type (wpAny_pure ⟨_,rfl, "dict_keyiterator", _,⟨_,yC _ rfl,rfl⟩,PySem.F.slot_dict_keyiterator_next.lookup,?_⟩))))))))
 simpa [rawInt] using q
theorem Zx4 {Q:Option Value->Shared->Prop}(hI:s.heap.IsKeyIter it d i es.size ep) (h:Ents s.heap d es ep) (hi:i < es.size) (q:∀ h',h'.IsKeyIter it d (i+1) es.size ep->Heap.SameBut it s.heap h'->Q (some es[i].key) {s with heap:=h' }) :
  wpAny (model prog w) A (pyNext (.ref it)) Q E s:=by
 have ty:=hI.typeIs
 obtain ⟨o,i1,i2,i3⟩:=hI
 obtain ⟨od,e1,e2,e3⟩:=h
 unfold pyNext; refine wpAny_bind (wpAny_attempt (wpAny_callSpecial?_slot (name:=Str.ofString "__next__") ty PySem.F.slot_dict_keyiterator_next (wpAny_call_entry PySem.F.slot_dict_keyiterator_next ty PySem.F.entry_dict_keyiterator_next ?_ (PySem.F.args_dict_keyiterator_next_1 _))))
 refine wpAny_bind (wpAny_pure (wpAny_bind (wpAny_bind ?_)))
 first | refine wpAny_bind (wpAny_typeNameOfWhole_keyiter ty (wpAny_pure (wpAny_bind (wpAny_fieldsOf i1 i3 ?_)))) | refine wpAny_bind (wpAny_typeNameOf_keyiter ty (wpAny_pure (wpAny_bind (wpAny_fieldsOf i1 i3 ?_))))
 simp only [show Builtin.Dict_items.ownsTuple "dict_keyiterator" = false by decide,zD,if_false]
 show wpAny _ _ (if (Value.ref d == Value.none)=true then _ else _) _ _ s; rw [if_neg (show ¬ ((Value.ref d == Value.none)=true) from xJ)]
 refine wpAny_bind (wpAny_pure (wpAny_bind (wpAny_dictEntries e1 e3 ?_))); rw [if_neg (by simp)]
 refine wpAny_bind (wpAny_pure (wpAny_bind (wpAny_dictEpoch e1 e3 ?_))); rw [if_neg (by simp)]; refine wpAny_pure ?_
 simp only [show ¬ ((i:Int) < 0) from by lia,if_false,xZ,Array.getElem?_eq_getElem hi]; refine wpAny_bind ?_
 first | refine wpAny_bind (wpAny_typeNameOfWhole_keyiter ty (wpAny_pure (wpAny_bind (wpAny_isOneOf_keyiter ty ?_)))) | refine wpAny_bind (wpAny_typeNameOf_keyiter ty (wpAny_pure (wpAny_bind (wpAny_isOneOf_keyiter ty ?_))))
 show wpAny _ _ (setField (.ref it) 1 (rawInt ((i:Int)+1)) >>= _) _ _ s; refine wpAny_bind (wpAny_setField i1 i3 (by simp) ?_)
 have I2:(s.heap.update it (Obj.mapFields (·.setIfInBounds 1 (rawInt ((i:Int)+1))))).IsKeyIter it d (i+1) es.size ep :=
  ⟨_,Heap.get?_update_self _ i1 (Obj.isFreed_of_fields (Obj.data_mapFields i3 _)),(Obj.cls_mapFields ..).trans i2,by rw [Obj.data_mapFields i3]; simp [rawInt]⟩
 refine wpAny_bind (wpAny_holding (wpAny_bind (wpAny_isOneOf_keyiter (s:={s with heap:=s.heap.update it (Obj.mapFields (·.setIfInBounds 1 (rawInt ((i:Int)+1)))) }) I2.typeIs ?_)))
 show wpAny _ _ (pure es[i].key) _ _ _; exact wpAny_pure (wpAny_pure ⟨_,rfl,wpAny_pure (q _ I2 (Heap.SameBut.update ..))⟩)
theorem Zzi {Q:Option Value->Shared->Prop}(hh:A.handled=none) (hI:s.heap.IsKeyIter it d es.size es.size ep) (h:Ents s.heap d es ep) (q:∀ h',Heap.ExtBut it s.heap h'->Q none {s with heap:=h' }):wpAny (model prog w) A (pyNext (.ref it)) Q E s:=by
 have ty:=hI.typeIs
 obtain ⟨o,i1,i2,i3⟩:=hI
 obtain ⟨od,e1,e2,e3⟩:=h
 unfold pyNext; refine wpAny_bind (wpAny_attempt (wpAny_callSpecial?_slot (name:=Str.ofString "__next__") ty PySem.F.slot_dict_keyiterator_next (wpAny_call_entry PySem.F.slot_dict_keyiterator_next ty PySem.F.entry_dict_keyiterator_next ?_ (PySem.F.args_dict_keyiterator_next_1 _))))
 refine wpAny_bind (wpAny_pure (wpAny_bind (wpAny_bind ?_)))
 first | refine wpAny_bind (wpAny_typeNameOfWhole_keyiter ty (wpAny_pure (wpAny_bind (wpAny_fieldsOf i1 i3 ?_)))) | refine wpAny_bind (wpAny_typeNameOf_keyiter ty (wpAny_pure (wpAny_bind (wpAny_fieldsOf i1 i3 ?_))))
 simp only [show Builtin.Dict_items.ownsTuple "dict_keyiterator" = false by decide,zD,if_false]
 show wpAny _ _ (if (Value.ref d == Value.none)=true then _ else _) _ _ s; rw [if_neg (show ¬ ((Value.ref d == Value.none)=true) from xJ)]
 refine wpAny_bind (wpAny_pure (wpAny_bind (wpAny_dictEntries e1 e3 ?_))); rw [if_neg (by simp)]
 refine wpAny_bind (wpAny_pure (wpAny_bind (wpAny_dictEpoch e1 e3 ?_))); rw [if_neg (by simp)]; refine wpAny_pure ?_
 simp only [show ¬ ((es.size:Int) < 0) from by lia,if_false,xZ,Array.getElem?_eq_none (xE es.size)]; refine wpAny_bind ?_
 first | refine wpAny_bind (wpAny_typeNameOfWhole_keyiter ty (wpAny_pure ?_)) | refine wpAny_bind (wpAny_typeNameOf_keyiter ty (wpAny_pure ?_))
 show wpAny _ _ (setField (.ref it) 0 .none >>= _) _ _ s; refine wpAny_bind (wpAny_setField i1 i3 (by simp) ?_)
 show wpAny _ _ (newExc (.type "StopIteration") [] >>= _) _ _ _; refine wpAny_bind ?_; simp only [newExc,newTuple]; refine wpAny_bind (wpAny_newObj_type ?_ (by size_fits))
 refine wpAny_bind (m:=firstArgMember _ _) (wpAny_of_eq (a:=Value.none) (by first | rfl | (simp only [firstArgMember]; rfl)) ?_); refine wpAny_newObj_type ?_ (by size_fits); simp only [raiseNew]
 refine wpAny_bind (wpAny_handled ?_); rw [show A.in1.handled=none from hh]; refine wpAny_bind (wpAny_pure (wpAny_throw ?_))
 exact wpAny_bind (wpAny_isInstance (T := "StopIteration") (b:=true) ⟨_,yC _ rfl,rfl⟩ isSubtype_stop (wpAny_pure (q _ (((Heap.SameBut.update ..).extBut.push _).push _))))
theorem Zwr (hh:A.handled=none) (I d:Addr) (hne:d≠I) (es:Array DictEntry) (ep:Nat):Walks prog w A I [I,d] [I] es.size (fun i v=>∃ e,es[i]? = some e/\v=e.key) (fun i h=>h.IsKeyIter I d i es.size ep/\Ents h d es ep) where
 sub:=by intro b hb; rw [xF.mp hb]; exact xI
 frame:=by rintro i h h' ⟨⟨o,a1,a2⟩,o',b1,b2⟩ hk; exact ⟨⟨o,hk I (by simp) _ a1,a2⟩,o',hk d (by simp) _ b1,b2⟩
 item:=by
  rintro i s Q E hi ⟨a,b⟩ q
  obtain ⟨o',b1,b2⟩:=id b
  exact Zx4 a b hi fun h' a' sb=>q _ h' s.toks ⟨_,Array.getElem?_eq_getElem hi,rfl⟩ ⟨a',o',sb.extBut d o' hne b1,b2⟩ fun b o hb e=>sb.extBut b o (fun z=>hb (by rw [z]; exact xF.mpr rfl)) e
 done:=by rintro s Q E ⟨a,b⟩ q; exact Zzi hh a b fun h' sb=>q h' s.toks fun b o hb e=>sb b o (fun z=>hb (by rw [z]; exact xF.mpr rfl)) e
 self:=by rintro i s Q E ⟨a,b⟩ q; exact wpAny_pyIter_keyiter a q
theorem Zzj (lo:(d == sysModules)=false):KdlSrc prog w "dict" d d es.size (fun i v=>∃ e,es[i]? = some e/\v=e.key) (fun h=>Ents h d es ep) where
 type:=by intro s h; exact h.ty
 there:=by rintro h ⟨o,e,_⟩; exact ⟨xU e,xU e⟩
 keep:=by rintro h h' ⟨o,e,r⟩ hk; exact ⟨o,hk d (.inl rfl) o e,r⟩
 notList:=by rfl
 notTuple:=by rfl
 hint:=by intro A E s Q h q; exact kdl_hint_dict h.ty q
 iter:=by
  intro A s hh h
  obtain ⟨o,e,r⟩:=id h
  exact ⟨_,_,fun E Q q=>Zx3 lo h q,Zwr hh _ d (yJ (xU e)) es ep,⟨_,yC _ rfl,rfl,rfl⟩,o,xG _ e,r⟩
theorem Zv8 {T:String}{r d:Addr}{n:Nat}{P:Nat->Value->Prop}{OK:Heap->Prop}{R:List Value->Shared->Prop}(K:KdlSrc prog w T r d n P OK) (hh:A.handled=none) (hok:OK s.heap) (hn:n<=sizeLine)
  (q:∀ (h1:Heap) (tk:Nat) (acc:Array Value),(∀ b o,s.heap.get? b=some o->h1.get? b=some o)->s.heap.objs.size < h1.objs.size->ItemsOf P acc n->R acc.toList {s with heap:=h1,toks:=tk }):wpAny (model prog w) A (collect (.ref r)) R E s:=by
 obtain ⟨l1,l2⟩:=K.there _ hok
 unfold collect; refine wpAny_bind (wpAny_runValue (codeAny_builtin entry_proto_collect' ?_)); rw [Around.under_plainId PySem.F.plain_proto_collect _]
 show wpAny _ A.in1 (newList [] >>= fun l=>again (.builtin "list.__iadd__" ⟨[l,.ref r],[]⟩)) _ _ s; refine wpAny_bind (wpAny_newObj_type (wpAny_pure ⟨plainId_quiet PySem.F.plain_list_iadd _,codeAny_builtin entry_list_iadd' ?_⟩)); rw [Around.under_plainId PySem.F.plain_list_iadd _]
 show wpAny _ A.in1 (Builtin.List.listExtendWith (.ref s.heap.objs.size) (.ref r) (.ref s.heap.objs.size)) _ _ _
 let S0:Shared:={s with heap:=s.heap.push {cls:=.type "list", data:=.seq ([]:List Value).toArray } }
 let RR:Result->Shared->Prop:=fun o s'=>∃ (h1:Heap) (tk:Nat) (acc:Array Value) (c:Nat),o = .ok (.ret (.ref s.heap.objs.size))/\s'={s with heap:=h1,toks:=tk }/\(∀ b o,s.heap.get? b=some o->h1.get? b=some o)/\h1.get? s.heap.objs.size=some {cls:=.type "list", dict:=none,data:=.seq acc c,slots:=#[] }/\ItemsOf P acc n
 have go:=kdl_extend (A:=A) (s:=S0) (R:=RR) K hh (K.keep _ _ hok fun b _ o e=>xG _ e) s.heap.objs.size (Nat.ne_of_gt l1) (Nat.ne_of_gt l2) (.ref s.heap.objs.size) 0 (yC _ rfl)
  (fun h1 tk acc c hk hS hacc=>⟨h1,tk,acc,c,rfl,rfl,fun b o e=>hk b o (yJ (xU e)) (xG _ e),hS,hacc⟩) hn
 have fin:∀ (h1:Heap) (tk:Nat) (acc:Array Value) (c:Nat),(∀ b o,s.heap.get? b=some o->h1.get? b=some o)->h1.get? s.heap.objs.size=some {cls:=.type "list", dict:=none,data:=.seq acc c,slots:=#[] }->ItemsOf P acc n ->
   wpAny (model prog w) A (do
    let o ← load s.heap.objs.size
    match o.data with
    | .seq xs _=>pure xs.toList
    | _=>unsupported "internal:collect") R E {s with heap:=h1,toks:=tk }:=fun h1 tk acc c hk hS hacc=>wpAny_bind (wpAny_load hS (wpAny_pure (q h1 tk acc hk (xU hS) hacc)))
 refine wpAny_mono go (fun f s' x=>?_) fun e s' x=>?_
 ·cases f with
  | done f =>
   obtain ⟨h1,tk,acc,c,e,rfl,hk,hS,hacc⟩:=x
   cases e
   exact fin h1 tk acc c hk hS hacc
  | again c1 =>
   refine ⟨x.1,codeAny_mono x.2 fun o s2 y=>?_⟩
   obtain ⟨h1,tk,acc,c,rfl,rfl,hk,hS,hacc⟩:=y
   exact fin h1 tk acc c hk hS hacc
 ·obtain ⟨_,_,_,_,e',_⟩:=x
  cases e'
theorem Zws {T:String}{r d:Addr}{n:Nat}{P:Nat->Value->Prop}{OK:Heap->Prop}{Q:Value->Shared->Prop}(K:KdlSrc prog w T r d n P OK) (hh:A.handled=none) (hok:OK s.heap) (h64:n < 64)
  (q:∀ (h1:Heap) (tk:Nat) (vs:List Value),(∀ b o,s.heap.get? b=some o->h1.get? b=some o)->s.heap.objs.size<=h1.objs.size->vs.length=n->(∀ j v,vs[j]? = some v->P j v)->∃ rk:Nat->Nat,
   (∀ h0:Heap,(∀ b o,h1.get? b=some o->h0.get? b=some o)->Zfm prog w A.in1.in1 {s with heap:=h0,toks:=tk } h1.objs.size vs rk) /\
   ∀ p:Array Nat,Pm vs.length p->UpTo rk p vs.length->Q (.ref h1.objs.size) {s with heap:=sortedHeap (h1.push (seqObj "list" vs.toArray 0)) h1.objs.size vs (List.toArray (p.toList.map fun i=>vs.getD i Value.none)),toks:=tk }) :
  wpAny (model prog w) A (call (.builtin "sorted") [.ref r]) Q E s:=by
 have hz:n<=sizeLine:=by rw [sizeLine_eq]; lia
 refine Calls.call_function_entry kind_sorted plain_sorted entry_sorted (args_sorted1 _) ?_
 unfold Builtin.«sorted»; refine wpAny_bind (m:=checkCount "sorted" 1 1 _) (wpAny_pure (wpAny_bind (Zv8 K hh hok hz fun h1 tk acc hk big hacc=>?_)))
 have hl:acc.toList.length=n:=by rw [zA]; exact hacc.1
 obtain ⟨rk,hS,hQ⟩:=q h1 tk acc.toList hk (yY big) hl fun j v e=>hacc.2 j v (by rw [← Array.getElem?_toList]; exact e)
 refine wpAny_bind (wpAny_newList ?_ (by rw [hl]; exact hz))
 have hL:(h1.push (seqObj "list" acc.toList.toArray 0)).get? h1.objs.size=some (seqObj "list" acc.toList.toArray 0):=yC _ rfl
 show wpAny _ _ _ _ _ {s with heap:=h1.push (seqObj "list" acc.toList.toArray 0),toks:=tk }
 exact wpAny_bind (wpAny_holding (wpAny_call_entry slot_list_sort ⟨_,hL,rfl⟩ entry_list_sort (Znh (s:={s with heap:=h1.push (seqObj "list" acc.toList.toArray 0),toks:=tk }) hL (by rw [hl]; exact h64) (hS _ fun b o e=>xG _ e) fun p hp hu=>⟨_,rfl,wpAny_pure ⟨_,rfl,hQ p hp hu⟩⟩) (args_list_sort _)))
end
section
variable {X:Cx}
def byK (ps:List (Addr×List Key)) (i j:Nat):Bool:=ltK (ps.getD i (ps.headD (0,[]))).2 (ps.getD j (ps.headD (0,[]))).2
theorem Zn7 {ps:List (Addr×List Key)}{sh:List Bool}{H:Hp}(ht:∀ p∈ps,TupAt H p/\shp p.2=sh):Weak (byK ps):=by
 obtain ⟨sh',hsh⟩:=Zid ht
 exact ⟨fun i=>Zev _,fun i j k=>Zfc _ _ _,fun i j k=>Zew _ _ _ ((hsh i).trans (hsh k).symm)⟩
theorem Zwt {pins:List (Addr×Obj)}{σ:St}{H:Hp}{s:Shared}(I:Inv X pins σ H s) {ps:List (Addr×List Key)}{sh:List Bool}(ht:∀ p∈ps,TupAt H p/\shp p.2=sh) (hne:sh ≠ []) {A':Around}{h1:Heap}{tk:Nat}{a:Addr}
  (hk1:∀ b o,s.heap.get? b=some o->b≠a/\h1.get? b=some o):Zfm X.prog X.w A' {s with heap:=h1,toks:=tk } a (ps.map fun p=>Value.ref p.1) (rk (byK ps) ps.length):=by
 intro l2 h' hk Q' hQ
 have W:=Zn7 ht
 obtain ⟨sh',hsh⟩:=Zid ht
 have hlen:(ps.map fun p=>Value.ref p.1).length=ps.length:=xA ..
 have hold:∀ (p:Addr×List Key) (o:Obj),TupAt H p->s.heap.get? p.1=some o->h'.get? p.1=some o:=fun p o _ e=>hk _ _ (hk1 _ _ e).1 (hk1 _ _ e).2
 obtain ⟨fs,f1,f2,f3⟩:=Zic (h':=h') I hne hold ps ht
 have tt:(Value.type (if sh.head hne then "int" else "str") != Value.type "tuple")=true:=by cases sh.head hne <;> rfl
 have t2:(Value.type (if sh.head hne then "int" else "str") == Value.type (if sh.head hne then "int" else "str"))=true:=by cases sh.head hne <;> rfl
 refine kat_kind (s:={s with heap:=h',toks:=tk }) f1 (by lia) f3 t2 (hQ _ fun i j C hi hj hC=>?_)
 rw [tt]
 rw [hlen] at hi hj
 have get:∀ {i},i < ps.length->∃ p its o n,ps.getD i (ps.headD (0,[]))=p/\(ps.map fun p=>Value.ref p.1).getD i Value.none = .ref p.1/\Vals (p.2.map kV) its/\h'.get? p.1=some o/\o.data = .seq its.toArray n:=fun {i} hi=>by
  have e:ps[i]? = some ps[i]:=xB hi
  have m:=List.getElem_mem hi
  obtain ⟨its,rv,⟨o,e1,e2,n,e3⟩,_⟩:=I.tuple (SqT.of (ht _ m).1)
  exact ⟨ps[i],its,o,n,by rw [xD,e]; rfl,by rw [xD,xR,e]; rfl,rv,hold _ o (ht _ m).1 e1,e3⟩
 obtain ⟨x,xs,ox,nx,ex,gx,vx,hx,dx⟩:=get hi
 obtain ⟨y,ys,oy,ny,ey,gy,vy,hy,dy⟩:=get hj
 rw [Zdg W hi] at hC
 unfold byK at hC
 have s1:=hsh i
 have s2:=hsh j
 rw [ex] at hC s1
 rw [ey] at hC s2
 show wpAny (model X.prog X.w) A' (keyLt' (tuples' true) _ _) C (fun _ _=>False) {s with heap:=h',toks:=tk }
 rw [gx,gy]
 have sz:xs.length=ys.length:=by
  have a1:=vx.length; have a2:=vy.length
  have a3:(shp x.2).length=(shp y.2).length:=by rw [s1,s2]
  unfold shp at a3
  rw [xA] at a1 a2 a3
  rw [xA] at a3
  lia
 refine kat_lt hx dx hy dy ?_
 rw [xK (by simp [sz])]
 exact Zfd x.2 y.2 xs ys 0 (s1.trans s2.symm) vx vy hC
theorem Zzk {P:Program}{w:World}{H:Hp}:∀ {kvs:List (List Key×V)}{xs:List (List Key×Addr×Value)},Paired (fun (p:List Key×V) (q:List Key×Addr×Value)=>p.1=q.1/\H q.2.1=some (.tup (p.1.map kV))/\RelV p.2 q.2.2) kvs xs ->
  (xs.map fun q=>(q.2.1,q.1)).map (·.2)=kvs.map (·.1)/\∀ p∈xs.map (fun q=>(q.2.1,q.1)),TupAt H p:=by
 intro kvs xs h
 induction h with
 | nil=>exact ⟨rfl,fun p hp=>nomatch hp⟩
 | @cons a b as bs r t ih =>
  refine ⟨by rw [xQ,xQ,xQ,ih.1,r.1],fun p hp=>?_⟩
  rcases xW.mp hp with rfl | hp
  ·have:=r.2.1
   rw [r.1] at this
   exact this
  ·exact ih.2 p hp
def Zni:List V->Hp->VK->Prop:=fun xs H Q=>∃ (d:Addr) (kvs:List (List Key×V)) (sh:List Bool),xs = [.ref d]/\H d=some (.dT kvs)/\kvs.length < 64/\(∀ p∈kvs,shp p.1=sh)/\sh ≠ [] /\
  ∀ (l:Addr) (ms:List (Addr×List Key)),H l=none->(∀ p∈ms,TupAt H p)->(ms.map (·.2)).Perm (kvs.map (·.1))->ms.Pairwise (fun p q=>ltK q.2 p.2=false)->(kvs.map (·.1)).Nodup->Q (.ref l) (upd H l (.lst (ms.map fun p=>V.ref p.1)))
theorem Zvj (hc:X.calm=true):Wv X (.builtin "sorted") Zni:=by
 intro pins s σ H xs us Q I r h
 obtain ⟨d,kvs,sh,rfl,ed,h64,hsh,hne,q⟩:=h
 obtain ⟨u,rfl,ru⟩:=V3 r
 cases ru
 obtain ⟨z,lo,es,rel,o,ents,ep,e1,e2,e3,e4,e5⟩:=(show ObjOk X.prog X.w H s.heap d (.dT kvs) from I.hok d _ ed)
 obtain ⟨k1,k2⟩:=Zzk (P:=X.prog) (w:=X.w) rel
 have hlen:kvs.length=es.length:=rel.length
 have hsz:ents.size=es.length:=by rw [← zA,e4,xA]
 have ek:kvs.map (·.1)=es.map (·.1):=by rw [← k1,yZ]; rfl
 refine Zws (Zzj (es:=ents) (ep:=ep) lo) (I.ok.hd hc) ⟨o,e1,e2,e3⟩ (by rw [hsz,← hlen]; exact h64) fun h1 tk vs hk big hvl hv=>?_
 obtain ⟨ps,hps⟩:∃ ps,ps=es.map fun q=>(q.2.1,q.1):=⟨_,rfl⟩
 rw [← hps] at k1 k2
 have hpl:ps.length=es.length:=by rw [hps,xA]
 have evs:vs=ps.map fun p=>Value.ref p.1:=by
  refine List.ext_getElem? fun i=>?_
  by_cases hi:i < vs.length
  ·obtain ⟨e,he,ev⟩:=hv i vs[i] (xB hi)
   rw [xB hi,ev,hps,yZ,xR]
   rw [← Array.getElem?_toList,e4,xR] at he
   obtain ⟨x,hx,rfl⟩:=yM.mp he
   rw [hx]
   rfl
  ·rw [List.getElem?_eq_none (by lia),List.getElem?_eq_none (by rw [xA]; lia)]
 subst evs
 have ht:∀ p∈ps,TupAt H p/\shp p.2=sh:=fun p hp=>⟨k2 p hp,by
  have:p.2∈kvs.map (·.1):=by rw [← k1]; exact xV.mpr ⟨p,hp,rfl⟩
  obtain ⟨x,hx,e⟩:=xV.mp this
  rw [← e]
  exact hsh x hx⟩
 have hml:(ps.map fun p=>Value.ref p.1).length=ps.length:=xA ..
 refine ⟨rk (byK ps) ps.length,fun h0 hk0=>Zwt I ht hne fun b o e=>⟨yJ (xU (hk b o e)),hk0 b o (hk b o e)⟩,fun pa hp hu=>?_⟩
 rw [hml] at hp hu
 obtain ⟨b1,b2⟩:=Zhh (d:=ps.headD (0,[])) (lt:=fun a b:Addr×List Key=>ltK a.2 b.2) hp (Zn7 ht) hu
 obtain ⟨e,he⟩:=sortedHeap_at (h:=h1.push (seqObj "list" (ps.map fun p=>Value.ref p.1).toArray 0)) (a:=h1.objs.size) (vs:=ps.map fun p=>Value.ref p.1) (n:=0) (out:=List.toArray (pa.toList.map fun i=>(ps.map fun p=>Value.ref p.1).getD i Value.none)) (yC _ rfl)
 have eo:(pa.toList.map fun i=>(ps.map fun p=>Value.ref p.1).getD i Value.none)=(pa.toList.map fun i=>ps.getD i (ps.headD (0,[]))).map fun p=>Value.ref p.1:=by
  rw [yZ]
  refine zF fun i hi=>?_
  have li:i < ps.length:=yE.mp (hp.mem_iff.mp hi)
  show _=Value.ref (ps.getD i (ps.headD (0,[]))).1
  rw [xD,xD,xR,xB li]
  rfl
 rw [eo] at he ⊢
 generalize (pa.toList.map fun i=>ps.getD i (ps.headD (0,[])))=ms at b1 b2 he ⊢
 have hz:ms.length=ps.length:=b1.length_eq
 refine ⟨.ref h1.objs.size,_,I.laid (t':=tk) (o:=.lst (ms.map fun p=>V.ref p.1)) (fun b o e=>?_) big ?_,rfl,q _ ms (I.hok.fresh big) (fun p hp=>k2 p (b1.mem_iff.mp hp)) (by rw [← k1]; exact b1.map _) b2 (by rw [ek]; exact e5)⟩
 ·have l1:=xU (hk b o e)
  rw [sortedHeap_old (b:=b) (yJ l1) (by rw [size_push']; exact Nat.lt_succ_of_lt l1)]
  exact xG _ (hk b o e)
 ·exact ⟨by rw [xA,hz,hpl,← hlen]; exact z,ms.map fun p=>Value.ref p.1,e,Zhi ms,by simpa using he⟩
theorem Zvd (hc:X.calm=true):QC X (.builtin "sorted") Zni:=⟨Zvj hc⟩
end
end L2
end
section
namespace L2
open PySem PySem.Spec PyProof.Rows PySem.W
section
variable {prog:Program}{w:World}{A:Around}{E:Value->Shared->Prop}{s:Shared}{d it:Addr}{es:Array DictEntry}{ep i:Nat}
end
section
variable {X:Cx}{pins:List (Addr×Obj)}{σ:St}{H:Hp}{s:Shared}
end
section
variable {X:Cx}{e:Expr}{te:TE}
end
section
variable {X:Cx}{o:Expr}{te:TE}
end
end L2
end
section
namespace L2
open PySem PySem.Spec PyProof.Rows PySem.W
def LL (r:Nat->Nat) (a b:Nat):Prop:=r a < r b\/(r a=r b/\a < b)
theorem LL.le {r:Nat->Nat}{a b:Nat}(h:LL r a b):r a<=r b:=by rcases h with h | h <;> lia
structure Tl (N m:Nat) (p:Array Nat):Prop where
 pm:Pm N p
 tl:∀ j,m<=j->j < N->p.getD j 0=j
 hd:∀ j,j < m->p.getD j 0 < m
def UpS (r:Nat->Nat) (p:Array Nat) (m:Nat):Prop:=∀ i,i+1 < m->LL r (p.getD i 0) (p.getD (i+1) 0)
def DnS (r:Nat->Nat) (p:Array Nat) (m:Nat):Prop:=∀ i,i+1 < m->LL r (p.getD (i+1) 0) (p.getD i 0)
section
variable {s:Shared}{cmp:Nat->Nat->(Bool->Shared->Prop)->Shared->Prop}{r:Nat->Nat}{N:Nat}{p:Array Nat}
theorem UpS.up {m:Nat}(h:UpS r p m):UpTo r p m:=fun i hi=>(h i hi).le
theorem Vo (h:Pm N p) {i j k:Nat}(hj:j<=N):(kas_rev p i j).getD k 0=if i<=k/\k < j then p.getD (i+j - 1 - k) 0 else p.getD k 0:=Zfb (r:=id) h hj
theorem Zfe (h:Pm N p) {k l i:Nat}(hk:k < N) (hl:l<=k):(bubble p k (k - l)).getD i 0=if i=l then p.getD k 0 else if l < i/\i<=k then p.getD (i - 1) 0 else p.getD i 0:=Zit (r:=id) h hk hl
theorem Tl.step {n:Nat}(h:Tl N n p) (hn:n < N):Tl N (n+1) p:=⟨h.pm,fun j a b=>h.tl j (by lia) b,fun j hj=>by
 by_cases e:j < n
 ·have:=h.hd j e; lia
 ·have:j=n:=by lia
  subst this
  rw [h.tl j (xE _) hn]; lia⟩
theorem Tl.rev {n i j:Nat}(h:Tl N n p) (hj:j<=n) (hn:n<=N):Tl N n (kas_rev p i j):=⟨h.pm.rev i j,fun k a b=>by rw [Vo h.pm (by lia),if_neg (by lia)]; exact h.tl k a b,fun k hk=>by
 rw [Vo h.pm (by lia)]
 by_cases c:i<=k/\k < j
 ·rw [if_pos c]; exact h.hd _ (by lia)
 ·rw [if_neg c]; exact h.hd k hk⟩
theorem Zie (hR:Wa cmp r N s) {Q:Nat->Shared->Prop}:∀ (f n:Nat),1<=n->n+f<=N->Tl N n p->UpS r p n->(∀ m,n<=m->m<=n+f->Tl N m p->UpS r p m->(m < n+f->r (p.getD m 0) < r (p.getD (m - 1) 0))->Q m s)->(kas_asc p f n).kasWp cmp Q s
 | 0,n,h1,h2,ht,hu,k=>k n (xE _) (xE _) ht hu (fun z=>by lia)
 | f+1,n,h1,h2,ht,hu,k=>by
  refine hR _ _ _ (ht.pm.lt (by lia)) (ht.pm.lt (by lia)) ?_
  by_cases c:r (p.getD n 0) < r (p.getD (n - 1) 0)
  ·rw [xH c]
   exact k n (xE _) (by lia) ht hu fun _=>c
  ·rw [xK c]
   refine Zie hR f (n+1) (by lia) (by lia) (ht.step (by lia)) (fun i hi=>?_) fun m a b t u d=>k m (by lia) (by lia) t u (fun z=>d (by lia))
   by_cases e:i+1 < n
   ·exact hu i e
   ·have:i=n - 1:=by lia
    subst this
    rw [show n - 1+1=n by lia]
    have e1:=ht.tl n (xE _) (by lia)
    have e2:=ht.hd (n - 1) (by lia)
    rw [e1] at c ⊢
    unfold LL
    lia
structure Dn (r:Nat->Nat) (p:Array Nat) (z n:Nat):Prop where
 a:∀ i,i+1<=z->LL r (p.getD (i+1) 0) (p.getD i 0)
 b:∀ i,i+1=z->r (p.getD (i+1) 0) < r (p.getD i 0)
 c:∀ i,z<=i->i+1 < n->r (p.getD i 0)=r (p.getD (i+1) 0)/\p.getD i 0 < p.getD (i+1) 0
theorem Dn.eq {b n:Nat}(h:Dn r p b n):∀ d,b+d < n->r (p.getD b 0)=r (p.getD (b+d) 0)
 | 0,_=>rfl
 | d+1,hd=>(h.eq d (by lia)).trans (h.c (b+d) (by lia) (by lia)).1
theorem Dn.flip {b n:Nat}(h:Dn r p b n) (hp:Pm N p) (hb:b < n) (hn:n<=N):DnS r (kas_rev p b n) n:=fun i hi=>by
 rw [Vo hp hn,Vo hp hn]
 by_cases c1:i+1 < b
 ·rw [if_neg (by lia),if_neg (by lia)]; exact h.a i (by lia)
 ·by_cases c2:i+1=b
  ·rw [if_pos (by lia),if_neg (by lia),show b+n - 1 - (i+1)=n - 1 by lia]
   have e:=h.eq (n - 1 - b) (by lia)
   rw [show b+(n - 1 - b)=n - 1 by lia] at e
   have e2:=h.b i c2
   rw [c2] at e2
   exact .inl (by lia)
  ·rw [if_pos (by lia),if_pos (by lia)]
   have e:=h.c (b+n - 1 - (i+1)) (by lia) (by lia)
   rw [show b+n - 1 - (i+1)+1=b+n - 1 - i by lia] at e
   exact .inr e
theorem Zel (hR:Wa cmp r N s) {Q:Array Nat×Nat×Nat->Shared->Prop}:∀ (f:Nat) (p:Array Nat) (n q:Nat),Tl N n p->1<=n->n+f<=N->q+1<=n->Dn r p (n - (q+1)) n ->
  (∀ (p':Array Nat) (m q':Nat),Tl N m p'->n<=m->m<=n+f->q'+1<=m->Dn r p' (m - (q'+1)) m->Q (p',m,q') s)->(kas_desc f p n q).kasWp cmp Q s
 | 0,p,n,q,hp,h1,h2,hq,hd,k=>k p n q hp (xE _) (xE _) hq hd
 | f+1,p,n,q,hp,h1,h2,hq,hd,k=>by
  refine hR _ _ _ (hp.pm.lt (by lia)) (hp.pm.lt (by lia)) ?_
  by_cases c:r (p.getD n 0) < r (p.getD (n - 1) 0)
  ·rw [xH c]
   show (if true=true then (if q > 0 then kas_desc f (kas_rev p (n - (q+1)) n) (n+1) 0 else kas_desc f p (n+1) 0) else _).kasWp cmp Q s
   rw [if_pos rfl]
   by_cases z:q > 0
   ·rw [if_pos z]
    have fl:=hd.flip hp.pm (by lia) (by lia)
    have last:r ((kas_rev p (n - (q+1)) n).getD n 0) < r ((kas_rev p (n - (q+1)) n).getD (n - 1) 0):=by
     rw [Vo hp.pm (by lia),Vo hp.pm (by lia),if_neg (by lia),if_pos (by lia),show n - (q+1)+n - 1 - (n - 1)=n - (q+1) by lia]
     have e:=hd.eq q (by lia)
     rw [show n - (q+1)+q=n - 1 by lia] at e
     lia
    refine Zel hR f _ (n+1) 0 ((hp.rev (by lia) (by lia)).step (by lia)) (by lia) (by lia) (by lia) ⟨fun i hi=>?_,fun i hi=>?_,fun i a b=>by lia⟩ fun p' m q' a b c' d e=>k p' m q' a (by lia) (by lia) d e
    ·by_cases e:i+1 < n
     ·exact fl i e
     ·have:i=n - 1:=by lia
      subst this
      rw [show n - 1+1=n by lia]
      exact .inl last
    ·have:i=n - 1:=by lia
     subst this
     rw [show n - 1+1=n by lia]
     exact last
   ·rw [if_neg z]
    have q0:q=0:=by lia
    subst q0
    refine Zel hR f p (n+1) 0 (hp.step (by lia)) (by lia) (by lia) (by lia) ⟨fun i hi=>?_,fun i hi=>?_,fun i a b=>by lia⟩ fun p' m q' a b c' d e=>k p' m q' a (by lia) (by lia) d e
    ·by_cases e:i+1 < n
     ·exact hd.a i (by lia)
     ·have:i=n - 1:=by lia
      subst this
      rw [show n - 1+1=n by lia]
      exact .inl c
    ·have:i=n - 1:=by lia
     subst this
     rw [show n - 1+1=n by lia]
     exact c
  ·rw [xK c]
   show (if false=true then _ else KasT.ask (p.getD (n - 1) 0) (p.getD n 0) fun d=>if d=true then .ret (p,n,q) else kas_desc f p (n+1) (q+1)).kasWp cmp Q s
   rw [if_neg xJ]
   refine hR _ _ _ (hp.pm.lt (by lia)) (hp.pm.lt (by lia)) ?_
   by_cases d:r (p.getD (n - 1) 0) < r (p.getD n 0)
   ·rw [xH d]
    exact k p n q hp (xE _) (by lia) hq hd
   ·rw [xK d]
    have e1:=hp.tl n (xE _) (by lia)
    have e2:=hp.hd (n - 1) (by lia)
    have eb:n+1 - (q+1+1)=n - (q+1):=by lia
    refine Zel hR f p (n+1) (q+1) (hp.step (by lia)) (by lia) (by lia) (by lia) (by
     rw [eb]
     refine ⟨hd.a,hd.b,fun i a b=>?_⟩
     by_cases e:i+1 < n
     ·exact hd.c i a e
     ·have:i=n - 1:=by lia
      subst this
      rw [show n - 1+1=n by lia]
      exact ⟨by lia,by lia⟩) fun p' m q' a b c' d e=>k p' m q' a (by lia) (by lia) d e
theorem Z1o (h:Pm N p) {n:Nat}(hn:n<=N) (hd:DnS r p n):UpS r (kas_rev p 0 n) n:=fun i hi=>by
 rw [Vo h hn,Vo h hn,if_pos (by lia),if_pos (by lia)]
 have:=hd (0+n - 1 - (i+1)) (by lia)
 rw [show 0+n - 1 - (i+1)+1=0+n - 1 - i by lia] at this
 exact this
def Zjc (r:Nat->Nat) (N:Nat) (Q:Nat×Array Nat->Shared->Prop) (s:Shared):Prop:=∀ (m:Nat) (p:Array Nat),1<=m->m<=N->Tl N m p->UpS r p m->Q (m,p) s
theorem Zn8 (hR:Wa cmp r N s) {n:Nat}(h:Tl N n p) {Q:Nat×Array Nat->Shared->Prop}(k:Zjc r N Q s) (h1 : 1<=n) (hn:n<=N) (hd:DnS r p n):(kas_tail3 n N p).kasWp cmp Q s:=by
 unfold kas_tail3
 rw [KasT.kasWp_bind]
 exact Zie hR (N - n) n h1 (by lia) (h.rev (xE _) hn) (Z1o h.pm hn hd) fun m a b t u _=>k m _ (by lia) (by lia) t u
theorem Zn9 (hR:Wa cmp r N s) {n:Nat}(h:Tl N (n+1) p) {Q:Nat×Array Nat->Shared->Prop}(k:Zjc r N Q s) (hn:n+1<=N) (hd:Dn r p n (n+1)):(kas_descPart n N p).kasWp cmp Q s:=by
 unfold kas_descPart
 rw [KasT.kasWp_bind]
 refine Zel hR (N - (n+1)) p (n+1) 0 h (by lia) (by lia) (by lia) hd fun p' m q' a b c d e=>?_
 dsimp only
 by_cases z:q' > 0
 ·rw [if_pos z]
  exact Zn8 hR (a.rev (xE _) (by lia)) k (by lia) (by lia) (e.flip a.pm (by lia) (by lia))
 ·rw [if_neg z]
  exact Zn8 hR a k (by lia) (by lia) fun i hi=>e.a i (by lia)
theorem Zx5 (hR:Wa cmp r N s) (h:Tl N 1 p) (h1 : 1<=N) {Q:Nat×Array Nat->Shared->Prop}(k:Zjc r N Q s):(kas_count N p).kasWp cmp Q s:=by
 unfold kas_count
 rw [KasT.kasWp_bind]
 refine Zie hR (N - 1) 1 (xE _) (by lia) h (fun i hi=>by lia) fun m a b t u d=>?_
 by_cases z:m=N
 ·rw [if_pos (by rw [z]; exact beq_self_eq_true N)]
  exact k m p a (by lia) t u
 ·rw [if_neg (fun e=>z (eq_of_beq e))]
  have dm:=d (by lia)
  by_cases y:m > 1
  ·rw [if_pos y]
   refine hR _ _ _ (h.pm.lt (by lia)) (h.pm.lt (by lia)) ?_
   by_cases c:r (p.getD 0 0) < r (p.getD (m - 1) 0)
   ·rw [xH c]
    exact k m p a (by lia) t u
   ·rw [xK c]
    have all:∀ i,i < m->r (p.getD i 0)=r (p.getD (m - 1) 0):=fun i hi=>by
     have h0:=V9 u.up i 0 (by lia)
     have h2:=V9 u.up (m - 1 - i) i (by lia)
     rw [show 0+i=i by lia] at h0
     rw [show i+(m - 1 - i)=m - 1 by lia] at h2
     unfold kp at h0 h2
     lia
    refine Zn9 hR ((t.rev (xE _) (by lia)).step (by lia)) k (by lia) ⟨fun i hi=>?_,fun i hi=>?_,fun i a b=>by lia⟩
    ·rw [Vo h.pm (by lia),Vo h.pm (by lia)]
     by_cases e:i+1 < m
     ·rw [if_pos (by lia),if_pos (by lia)]
      have e2:=u (0+m - 1 - (i+1)) (by lia)
      rw [show 0+m - 1 - (i+1)+1=0+m - 1 - i by lia] at e2
      have a1:=all (0+m - 1 - (i+1)) (by lia)
      have a2:=all (0+m - 1 - i) (by lia)
      rcases e2 with e2 | e2
      ·lia
      ·exact .inr ⟨by lia,e2.2⟩
     ·rw [if_neg (by lia),if_pos (by lia)]
      have e3:i+1=m:=by lia
      rw [e3,show 0+m - 1 - i=0 by lia]
      have:=all 0 (by lia)
      exact .inl (by lia)
    ·rw [Vo h.pm (by lia),Vo h.pm (by lia),if_neg (by lia),if_pos (by lia),hi,show 0+m - 1 - i=0 by lia]
     have:=all 0 (by lia)
     lia
  ·rw [if_neg y]
   have m1:m=1:=by lia
   subst m1
   refine Zn9 hR (t.step (by lia)) k (by lia) ⟨fun i hi=>?_,fun i hi=>?_,fun i a b=>by lia⟩
   ·have:i=0:=by lia
    subst this
    exact .inl dm
   ·have:i=0:=by lia
    subst this
    exact dm
theorem Zhj (hR:Wa cmp r N s) (h:Pm N p) {Q:Nat->Shared->Prop}{k:Nat}(hk:k < N) (hu:UpTo r p k) (q:∀ l,l<=k->(∀ i,i < l->kp r p i<=kp r p k)->(∀ i,l<=i->i < k->kp r p k < kp r p i)->Q l s) :
  ∀ (f l m:Nat),l<=m->m<=k->m - l<=f->(∀ i,i < l->kp r p i<=kp r p k)->(∀ i,m<=i->i < k->kp r p k < kp r p i)->(kas_place p k f l m).kasWp cmp Q s
 | 0,l,m,a,b,c,lo,hi=>q l (by lia) lo fun i x y=>hi i (by lia) y
 | f+1,l,m,a,b,c,lo,hi=>by
  show (if l>=m then KasT.ret l else _).kasWp cmp Q s
  by_cases z:l>=m
  ·rw [if_pos z]
   exact q l (by lia) lo fun i x y=>hi i (by lia) y
  ·rw [if_neg z]
   refine hR _ _ _ (h.lt hk) (h.lt (by lia)) ?_
   by_cases y:r (p.getD k 0) < r (p.getD ((l+m) / 2) 0)
   ·rw [xH y]
    refine Zhj hR h hk hu q f l ((l+m) / 2) (by lia) (by lia) (by lia) lo fun i x w=>?_
    have:=V9 hu (i - (l+m) / 2) ((l+m) / 2) (by lia)
    rw [show (l+m) / 2+(i - (l+m) / 2)=i by lia] at this
    exact yG y this
   ·rw [xK y]
    refine Zhj hR h hk hu q f ((l+m) / 2+1) m (by lia) b (by lia) (fun i x=>?_) hi
    have:=V9 hu ((l+m) / 2 - i) i (by lia)
    rw [show i+((l+m) / 2 - i)=(l+m) / 2 by lia] at this
    exact yA this (Nat.le_of_not_lt y)
theorem Zpq (hR:Wa cmp r N s) {Q:Array Nat->Shared->Prop}:∀ (f:Nat) (p:Array Nat) (k:Nat),Tl N k p->k+f<=N->UpS r p k->(∀ p',Pm N p'->UpS r p' (k+f)->Q p' s)->(kas_bin f p k).kasWp cmp Q s
 | 0,p,k,h,hk,hu,q=>q p h.pm hu
 | f+1,p,k,h,hk,hu,q=>by
  show ((kas_place p k k 0 k).bind fun l=>kas_bin f (bubble p k (k - l)) (k+1)).kasWp cmp Q s
  rw [KasT.kasWp_bind]
  refine Zhj hR h.pm (by lia) hu.up (fun l a lo hi=>?_) k 0 k (by lia) (by lia) (by lia) (fun i x=>by lia) fun i x y=>by lia
  have ek:=h.tl k (xE _) (by lia)
  refine Zpq hR f _ (k+1) ⟨h.pm.bub _ _,fun j x y=>?_,fun j x=>?_⟩ (by lia) (fun i x=>?_) fun p' a b=>q p' a (by rw [show k+(f+1)=k+1+f by lia]; exact b)
  ·rw [Zfe h.pm (by lia) a,if_neg (by lia),if_neg (by lia)]; exact h.tl j (by lia) y
  ·rw [Zfe h.pm (by lia) a]
   by_cases c:j=l
   ·rw [if_pos c,ek]; lia
   ·rw [if_neg c]
    by_cases d:l < j/\j<=k
    ·rw [if_pos d]; have:=h.hd (j - 1) (by lia); lia
    ·rw [if_neg d]; have:=h.hd j (by lia); lia
  ·rw [Zfe h.pm (by lia) a,Zfe h.pm (by lia) a]
   by_cases c:i=l
   ·rw [if_pos c,if_neg (by lia),if_pos (by lia),show i+1 - 1=l by lia]
    exact .inl (hi l (by lia) (by lia))
   ·rw [if_neg c]
    by_cases d:i+1=l
    ·rw [if_pos d,if_neg (by lia)]
     have e1:=lo i (by lia)
     have e2:=h.hd i (by lia)
     unfold kp at e1
     rw [ek] at e1 ⊢
     unfold LL
     lia
    ·rw [if_neg d]
     by_cases e:l < i
     ·rw [if_pos (by lia),if_pos (by lia),show i+1 - 1=i - 1+1 by lia]
      exact hu (i - 1) (by lia)
     ·rw [if_neg (by lia),if_neg (by lia)]
      exact hu i (by lia)
theorem Zzl (hR:Wa cmp r N s) (h2 : 1<=N) {Q:Array Nat->Shared->Prop}(q:∀ p,Pm N p->UpS r p N->Q p s):(kas_sort N).kasWp cmp Q s:=by
 unfold kas_sort
 rw [KasT.kasWp_bind]
 have id0:∀ j,j < N->(List.toArray (List.range N)).getD j 0=j:=fun j hj=>by simp [Array.getD,hj]
 refine Zx5 hR ⟨by show (List.toArray (List.range N)).toList.Perm _; exact List.Perm.refl _,fun j _ hj=>id0 j hj,fun j hj=>by rw [id0 j (by lia)]; exact hj⟩ h2 fun m p a b hp u=>?_
 by_cases c:m < N
 ·rw [if_pos c]
  refine Zpq hR _ p _ (by rw [Nat.max_eq_left a]; exact hp) (by lia) (by rw [Nat.max_eq_left a]; exact u) fun p' x y=>q p' x ?_
  rw [show max m 1+(N - max m 1)=N by lia] at y
  exact y
 ·rw [if_neg c]
  exact q p hp.pm (by rw [show N=m by lia]; exact u)
theorem LL.tr {a b c:Nat}(h:LL r a b) (g:LL r b c):LL r a c:=by unfold LL at *; lia
theorem UpS.lt {m:Nat}(h:UpS r p m):∀ (d i:Nat),i+d+1 < m->LL r (p.getD i 0) (p.getD (i+d+1) 0)
 | 0,i,hi=>h i hi
 | d+1,i,hi=>(UpS.lt h d i (by lia)).tr (h (i+d+1) (by lia))
theorem UpS.pair (hp:Pm N p) (u:UpS r p N):p.toList.Pairwise (LL r):=by
 rw [zE]
 intro i j hi hj hij
 have hs:=hp.size
 have hi':i < p.size:=by simpa using hi
 have hj':j < p.size:=by simpa using hj
 have:=u.lt (j - i - 1) i (by lia)
 rw [show i+(j - i - 1)+1=j by lia] at this
 simpa [Array.getD,hi',hj'] using this
end
def kI (ks:List Int) (i:Nat):Int:=ks.getD i 0
def LK (ks:List Int) (a b:Nat):Prop:=kI ks a < kI ks b\/(kI ks a=kI ks b/\a < b)
theorem Zx6 (ks:List Int):Weak fun i j=>decide (kI ks i < kI ks j):=⟨fun i=>xK (Int.lt_irrefl _),fun i j k a b=>by have:=yD a; have:=yD b; exact xH (by lia),
 fun i j k a=>by
  have:=yD a
  by_cases c:kI ks i < kI ks k
  ·exact .inl (xH c)
  ·exact .inr (xH (by lia))⟩
def rI' (ks:List Int):Nat->Nat:=rk (fun i j=>decide (kI ks i < kI ks j)) ks.length
theorem Ziv {ks:List Int}{i j:Nat}(hi:i < ks.length):(rI' ks i < rI' ks j)↔kI ks i < kI ks j:=by
 have:=Zdg (Zx6 ks) (i:=i) (j:=j) hi
 unfold rI'
 by_cases c:kI ks i < kI ks j
 ·rw [xH c] at this
  exact ⟨fun _=>c,fun _=>yD this⟩
 ·rw [xK c] at this
  exact ⟨fun z=>absurd z (of_decide_eq_false this),fun z=>absurd z c⟩
theorem LL.key {ks:List Int}{i j:Nat}(hi:i < ks.length) (hj:j < ks.length) (h:LL (rI' ks) i j):LK ks i j:=by
 have a:=Ziv (ks:=ks) (i:=i) (j:=j) hi
 have b:=Ziv (ks:=ks) (i:=j) (j:=i) hj
 rcases h with h | ⟨h1,h2⟩
 ·exact .inl (a.mp h)
 ·refine .inr ⟨?_,h2⟩
  have:¬ kI ks i < kI ks j:=fun z=>by have:=a.mpr z; lia
  have:¬ kI ks j < kI ks i:=fun z=>by have:=b.mpr z; lia
  lia
theorem UpS.keys {ks:List Int}{p:Array Nat}(hp:Pm ks.length p) (u:UpS (rI' ks) p ks.length):p.toList.Pairwise (LK ks):=by
 have hm:∀ i∈p.toList,i < ks.length:=fun i hi=>yE.mp (hp.mem_iff.mp hi)
 exact yS (fun hi hj h=>LL.key (hm _ hi) (hm _ hj) h) (u.pair hp)
end L2
end
section
namespace L2
open PySem PySem.Spec PyProof.Rows PySem.W
def IsTab (H:Hp) (P:Addr) (nm:Str):Prop:=∃ ps t,H P=some (.tbl ps)/\ps[0]? = some (.str nm t)
theorem IsTab.same {H H':Hp}{P:Addr}{nm:Str}(h:IsTab H P nm) (k:Same H H'):IsTab H' P nm:=let ⟨ps,t,a,b⟩:=h; ⟨ps,t,k _ _ a,b⟩
theorem IsTab.x {H H':Hp}{P s:Addr}{xs:List V}{nm:Str}(h:IsTab H P nm) (hs:H s=some (.lst xs)) (k:SameX s H H'):IsTab H' P nm:=let ⟨ps,t,a,b⟩:=h; ⟨ps,t,k _ _ (fun z=>by rw [z,hs] at a; cases a) a,b⟩
def Ybl (H H':Hp):Prop:=∀ b ps,H b=some (.tbl ps)->∃ more,H' b=some (.tbl (ps++more))
theorem IsTab.call {H H':Hp}{P:Addr}{nm:Str}(h:IsTab H P nm) (k:Ybl H H'):IsTab H' P nm:=by
 obtain ⟨ps,t,a,b⟩:=h
 obtain ⟨m,e⟩:=k _ _ a
 refine ⟨_,t,e,?_⟩
 have h0 : 0 < ps.size:=by
  rcases Nat.eq_zero_or_pos ps.size with z | z
  ·rw [Array.getElem?_eq_none (by lia)] at b; cases b
  ·exact z
 rw [Array.getElem?_append_left h0]; exact b
section
variable {P:Program}{w:World}{K:Frag}{mg:Str->Option Value}{base:Heap}
theorem Z1p {A:Around}{outer:List Env}{s:Shared}{H:Hp}{k:Nat}{name qual:Str}{params:Arguments}{body:Expr}{scope:Scope}{pm ctv:Value}{c f:Addr}{x:Str}{u:Value}{v:V}{te:TE}{Q:VK}
  (hr:Room k A) (e0:Env0 P w K mg base A outer s H) (ho:s.heap.get? f=some (kla_obj name qual params body scope [] pm c ctv)) (hcd:s.heap.CodeRec (.ref c) qual) (S:FnScope [x] [x] scope)
  (hb:bindArgs (kla_fn name qual params body scope [] pm (.ref c) ctv) ⟨[u],[]⟩=pure [(x,u)]) (r:RelV v u)
  (hbody:PE (Ye CX0 P w K mg base [x] qual scope f (.ref c) A outer s H E0) body te) (hq:te (start [x] [v]) H Q) :
  codeAny (model P w) A (.call (.ref f) ⟨[u],[]⟩) (CR CX0 outer P w H s Q E0) s:=by
 have lim:s.heap.NoLimit:=e0.mod.nolimit.keeps fun b o e=>(e0.bs b o e).1
 have hkind:∀ y ∈ [(x,u)],scope.names.lookup y.1=some .local\/(scope.names.lookup y.1=some .cell/\((cellsFrom (s.heap.objs.size+1) scope.names []).lookup y.1).isSome=true):=fun ⟨n,v⟩ hy=>by
  have e:(n,v)=(x,u):=by simpa using hy
  cases e
  rcases S.par x xI with q | q
  ·exact .inl q
  ·exact .inr ⟨q,PySem.W.cellsFrom_some _ _ _ (.inl q)⟩
 refine kla_callFunE hr.depth ho rfl S.co S.gen rfl hcd ?_
 rw [hb]
 refine wpAny_pure (wpAny_newFunctionEnv_cells S.kind hkind fun env he s1 xx=>?_)
 subst he
 refine ⟨lim.keeps xx.toInCall.keep,kla_codeExpr ?_⟩
 have I:Inv (Ye CX0 P w K mg base [x] qual scope f (.ref c) A outer s H E0) [] (start [x] [v]) H s1:=Zhf (ps:=[x]) S hr.hd e0 rfl (.cons r .nil) xx
 exact wpAny_mono (hbody [] s1 _ H _ I hq) (fun v s' ⟨v',H',J,rv,q⟩=>⟨v',H',J.os,J.bare,J.base,J.hok,rv,q⟩) fun e s' hs=>hs
end
theorem Zwu {pos p2:Pos}{c cv:Value}(l:List Value) (h:TriplesOk l) (e:codeAmong pos (l ++ [rawInt p2.line,rawInt p2.col,c])=some cv):codeAmong pos l=some cv\/cv=c:=by
 fun_induction TriplesOk l with
 | case1 =>
  simp only [List.nil_append,codeAmong,rawInt] at e
  split at e
  ·cases e; exact .inr rfl
  ·cases e
 | case2 a t b u x rest ih =>
  simp only [List.cons_append,codeAmong] at e ⊢
  split at e
  ·rename_i hc; rw [if_pos hc]; exact .inl e
  ·rename_i hc; rw [if_neg hc]; exact ih h e
 | case3 l h1 h2=>exact h.elim
structure LamX (X:Cx) (c P:Addr) (nm:Str):Prop where
 code:X.env.code = .ref c
 hd:CodeHd X.base c P
 blt:X.base.BuiltinsAt X.mg P
 nmq:X.env.qual ++ "<lambda>" = nm
 gl:mainGlobals≠P
section
variable {X:Cx}{pins:List (Addr×Obj)}{σ:St}{H:Hp}{s:Shared}{c P:Addr}{nm:Str}{params:Arguments}{body:Expr}{scope:Scope}{lpos:Pos}
theorem Inv.pin1 {f:Addr}{o:Obj}(I:Inv X pins σ H s) (fp:Yk X pins H f) (ho:s.heap.get? f=some o) (hc:∀ v,o.data ≠ .cell v):Inv X (pins ++ [(f,o)]) σ H s:=I.pins_of fun p hp=>(xO.mp hp).elim (fun z=>I.pin p (xM _ z)) fun z=>by
 have e:p=(f,o):=by simpa using z
 subst e
 exact ⟨ho,fp.1,fp.2.1,fp.2.2.1,hc⟩
theorem Zzm {Q:Value->Shared->Prop}(I:Inv X pins σ H s) (L:LamX X c P nm) (hT:IsTab X.H₀ P nm) (hcl:closureFor scope X.env=pure []) (hdef:defaultsOf params X.env=([],[]))
  (k:∀ (f c':Addr) (ctv:Value) (oc:Obj) (vs:Array Value) (t:Tok) (H':Hp) (s':Shared),Inv X (pins ++ [(f,kla_obj "<lambda>" nm params body scope [] ((X.mg "__name__").getD .none) c' ctv)]) σ H' s'->s'.heap.get? c'=some oc->oc.data = .fields vs->vs[1]? = some (.str nm t)->H' c'=some (.own P)->IsTab H' P nm->Same H H'->Q (.ref f) s') :
  wpAny (model X.prog X.w) X.A (eval (.Lambda params body scope lpos) X.env) Q X.xe s:=by
 have hTH:=hT.call I.base.tbls
 obtain ⟨ps,tp,hP,hps⟩:=hTH
 obtain ⟨qs,nm',t',eP,tr,hps',rows⟩:=I.hok P _ hP
 rw [hps] at hps'
 cases hps'
 have C:=L.hd.keeps I.bk
 have G:s.heap.Ns mainGlobals X.mg:=let ⟨o,es,ep,e,r⟩:=I.ok.mod.glob; ⟨o,es,ep,I.bk _ _ e,r⟩
 have B:s.heap.BuiltinsAt X.mg P:=let ⟨bm,o,a1,a2,a3,a4,a5,a6⟩:=L.blt; ⟨bm,o,a1,a2,a3,a4,I.bk _ _ a5,a6⟩
 refine kla_eval hdef ?_
 rw [L.nmq]
 cases hf:codeAmong lpos qs.toList with
 | some cv =>
  obtain ⟨c',rfl,own,c2,oc,vs,t2,e3,e4,e5,e6⟩:=rows _ _ hf
  cases e3
  refine kla_makeFunctionHit (mg:=X.mg) hcl I.ok.glob G L.code C eP tr hf B fun ctv h' tk hk hsz=>?_
  have hk2:∀ b u,s.heap.get? b=some u->(h'.push (kla_obj "<lambda>" nm params body scope [] ((X.mg "__name__").getD .none) c' ctv)).get? b=some u:=fun b u e=>xG _ (hk b u e)
  have I2:Inv X pins σ H {s with heap:=h'.push (kla_obj "<lambda>" nm params body scope [] ((X.mg "__name__").getD .none) c' ctv),toks:=tk }:=I.kept hk2
  exact k h'.objs.size c' ctv oc vs t2 H _ (I2.pin1 (I.fpOk hsz (I.hok.fresh hsz)) (yC _ rfl) (fun v z=>by cases z)) (hk2 _ _ e4) e5 e6 own ⟨ps,tp,hP,hps⟩ fun _ _ e=>e
 | none =>
  refine kla_makeFunction (mg:=X.mg) hcl I.ok.glob G L.code C eP tr hf L.gl B fun c' ctv h' tk hx hge hlt hrec htb=>?_
  obtain ⟨c2,oc,vs,t2,e3,e4,e5,e6⟩:=hrec
  cases e3
  have hcn:H c'=none:=I.hok.fresh hge
  have hcP:c'≠P:=fun z=>by rw [z] at hge; exact absurd (yG (xU eP) hge) (Nat.lt_irrefl _)
  have ext:∀ b u,b≠P->s.heap.get? b=some u->(h'.push (kla_obj "<lambda>" nm params body scope [] ((X.mg "__name__").getD .none) c' ctv)).get? b=some u:=fun b u n e=>xG _ (hx b u n e)
  have hoc:=xG (kla_obj "<lambda>" nm params body scope [] ((X.mg "__name__").getD .none) c' ctv) e4
  have hPt:=xG (kla_obj "<lambda>" nm params body scope [] ((X.mg "__name__").getD .none) c' ctv) htb
  have hszz:s.heap.objs.size<=h'.objs.size:=yY (Nat.lt_of_le_of_lt hge hlt)
  have hfo:=yC h' (o:=kla_obj "<lambda>" nm params body scope [] ((X.mg "__name__").getD .none) c' ctv) rfl
  generalize (h'.push (kla_obj "<lambda>" nm params body scope [] ((X.mg "__name__").getD .none) c' ctv))=h2 at ext hoc hPt hfo ⊢
  have hPu:upd H c' (.own P) P=some (.tbl ps):=by rw [Zh hcP.symm]; exact hP
  have hok:HOk X.prog X.w (upd H c' (.own P)) h2:=fun b u e=>by
   by_cases b1:b=c'
   ·subst b1; rw [upd_same] at e; cases e; exact ⟨oc,hoc⟩
   ·rw [Zh b1] at e
    by_cases b2:b=P
    ·subst b2
     rw [hP] at e
     cases e
     refine ⟨_,nm,tp,hPt,by rw [Array.toList_append]; exact TriplesOk_snoc _ _ _ _ tr,hps,fun pos cv ec=>?_⟩
     rw [Array.toList_append] at ec
     rcases Zwu _ tr ec with z | z
     ·obtain ⟨c3,f1,f2,c4,o4,v4,t4,f3,f4,f5⟩:=rows _ _ z
      cases f3
      have nb:c3≠b:=fun y=>by rw [y,hP] at f2; cases f2
      exact ⟨c3,f1,by rw [Zh (fun y=>by rw [y,hcn] at f2; cases f2)]; exact f2,c3,o4,v4,t4,rfl,ext _ _ nb f4,f5⟩
     ·exact ⟨c',z,upd_same,c',oc,vs,t2,rfl,hoc,e5,e6⟩
    ·refine (I.hok b u e).stay (fun d v hd q=>ext d v ?_ q) (fun d q=>by rw [Zh (Z5 q hcn)]; exact q) fun d xs q=>by rw [Zh (Z5 q hcn)]; exact q
     rcases hd with z | z
     ·rw [z]; exact b2
     ·intro y; rw [y,hP] at z; cases z
  have un:Un X.fs [] H (upd H c' (.own P)) s.heap h2:=by
   have nP:∀ b,H b=none->b≠P:=fun b n z=>by rw [z,hP] at n; cases n
   have lt:∀ b o,s.heap.get? b=some o->b≠c':=fun b o e z=>by rw [z] at e; exact absurd (yG (xU e) hge) (Nat.lt_irrefl _)
   refine ⟨fun b o e n _ _=>ext b o (nP b n) e,fun b o e n _ _=>⟨o.slots,ext b o (nP b n) e⟩,fun b o e n _=>by rw [Zh (lt b o e)]; exact n,fun b o e _=>?_,fun b xs e=>by rw [Zh (Z5 e hcn)]; exact e,fun b o u e=>by rw [Zh (Z5 e hcn)]; exact e,fun b ps e=>⟨#[],by rw [Zh (Z5 e hcn),e]; simp⟩⟩
   by_cases b2:b=P
   ·exact ⟨_,by rw [b2]; exact hPt⟩
   ·exact ⟨o,ext b o b2 e⟩
  have I2:Inv X pins σ (upd H c' (.own P)) {s with heap:=h2,toks:=tk }:=I.un un hok
  have hfn:(upd H c' (.own P)) h'.objs.size=none:=by rw [Zh (Nat.ne_of_gt hlt)]; exact I.hok.fresh hszz
  exact k h'.objs.size c' ctv oc vs t2 _ _ (I2.pin1 (I.fpOk hszz hfn) hfo (fun v z=>by cases z)) hoc e5 e6 upd_same ⟨ps,tp,hPu,hps⟩ (Same.new hcn)
theorem Zzn {k:Nat}{A:Around}{f c':Addr}{ctv pm:Value}{oc:Obj}{vs:Array Value}{t:Tok}{x:Str}{u:Value}{v w:V}{te:TE}(I:Inv X pins σ H s) (hA:A.frames=X.A.frames) (hr:Room k A) (hf:s.heap.get? f=some (kla_obj "<lambda>" nm params body scope [] pm c' ctv))
  (ho:s.heap.get? c'=some oc) (e1:oc.data = .fields vs) (e2:vs[1]? = some (.str nm t)) (hc:H c'=some (.own P)) (hT:IsTab H P nm) (S:FnScope [x] [x] scope)
  (hb:bindArgs (kla_fn "<lambda>" nm params body scope [] pm (.ref c') ctv) ⟨[u],[]⟩=pure [(x,u)]) (r:RelV v u)
  (hbody:∀ H2:Hp,PE (Ye CX0 X.prog X.w X.K X.mg X.base [x] nm scope f (.ref c') A X.stack s H2 E0) body te)
  (hq:∀ H2:Hp,(∀ b ys,H b=some (.tup ys)->H2 b=some (.tup ys))->te [some v] H2 fun z H3=>z=w/\H3=H2) :
  wpAny (model X.prog X.w) A (call (.ref f) [u]) (fun r s'=>RelV w r/\Inv X pins σ H s'/\s'.heap.get? c'=some oc) (fun _ _=>False) s:=by
 classical
 obtain ⟨ps,tp,hP,hps⟩:=hT
 let H2:Hp:=fun b=>if b=P\/H b=some (.own P) then none else H b
 have sub:∀ b o,H2 b=some o->H b=some o/\b≠P/\o ≠ .own P:=fun b o e=>by
  by_cases z:b=P\/H b=some (.own P)
  ·have:H2 b=none:=if_pos z
   rw [this] at e; cases e
  ·have e':H2 b=H b:=if_neg z
   rw [e'] at e
   exact ⟨e,fun y=>z (.inl y),fun y=>z (.inr (by rw [e,y]))⟩
 have up:∀ b o,H b=some o->b≠P->o ≠ .own P->H2 b=some o:=fun b o e n1 n2=>by
  have z:¬ (b=P\/H b=some (.own P)):=fun z=>z.elim n1 fun y=>n2 (by rw [e] at y; exact Option.some.inj y)
  have e':H2 b=H b:=if_neg z
  rw [e']; exact e
 have non:∀ b,H b=none->H2 b=none:=fun b e=>by
  cases q:H2 b with
  | none=>rfl
  | some o=>rw [(sub b o q).1] at e; cases e
 have tup2:∀ b ys,H b=some (.tup ys)->H2 b=some (.tup ys):=fun b ys e=>up b _ e (fun z=>by rw [z,hP] at e; cases e) (fun z=>by cases z)
 have hok2:HOk X.prog X.w H2 s.heap:=fun b o e=>by
  obtain ⟨h1,h2,h3⟩:=sub b o e
  refine (I.hok b o h1).stay (fun _ _ _ q=>q) (fun d q=>up d _ q (fun z=>by rw [z,hP] at q; cases q) (fun z=>by cases z; exact h2 rfl)) tup2
 have e0:=I.env0
 have e02:Env0 X.prog X.w X.K X.mg X.base A X.stack s H2:=⟨hA.trans e0.frames,e0.mod,fun b o e=>⟨(e0.bs b o e).1,non b (e0.bs b o e).2⟩,e0.bsz,e0.funs,fun b hb=>non b (e0.frf b hb),hok2,e0.bare⟩
 refine wpAny_call (codeAny_mono (Z1p (Q:=fun z H3=>z=w/\H3=H2) hr e02 hf ⟨c',oc,vs,t,rfl,ho,e1,e2⟩ S hb r (hbody H2) (hq H2 tup2)) fun rr s' h=>?_)
 cases rr with
 | error e=>exact h.elim
 | ok fl =>
  cases fl with
  | next=>exact False.elim h
  | brk=>exact False.elim h
  | cont=>exact False.elim h
  | ret uu =>
   obtain ⟨z,H3,os,bare,un,hok3,rz,ez,eH⟩:=h
   subst ez eH
   have hc2:H2 c'=none:=if_pos (.inr hc)
   have hP2:H2 P=none:=if_pos (.inl rfl)
   have nfr:∀ b o,H b=some o->b∉frs X.stack:=fun b o e z=>by rw [I.stkFree b z] at e; cases e
   have own2:∀ d,H d=some (.own P)->H2 d=none:=fun d q=>if_pos (.inr q)
   have hokH:HOk X.prog X.w H s'.heap:=fun b o e=>by
    by_cases b0:o = .own P
    ·subst b0
     obtain ⟨ob,eb⟩:=I.hok b _ e
     exact ⟨ob,un.keep _ _ eb (own2 _ e) (nfr _ _ e) (by simp)⟩
    by_cases b1:b=P
    ·subst b1
     refine (I.hok b o e).stay (fun d v hd q=>?_) (fun _ q=>q) fun _ _ q=>q
     rcases hd with z | z
     ·subst z; exact un.keep _ _ q hP2 (nfr _ _ e) (by simp)
     ·exact un.keep _ _ q (own2 _ z) (nfr _ _ z) (by simp)
    ·have b1':b≠P/\o ≠ .own P:=⟨b1,b0⟩
     refine (hok3 b o (up b o e b1'.1 b1'.2)).stay (fun _ _ _ q=>q) (fun d q=>(sub d _ q).1) fun d xs q=>(sub d _ q).1
   refine ⟨rz,I.call' (ch:=[]) os ⟨fun b o e n hb hx=>un.keep b o e (non b n) hb hx,fun b o e n hb hx=>un.slot b o e (non b n) hb hx,fun b o e n hx=>n,fun b o e hx=>un.there b o e hx,fun _ _ e=>e,fun _ _ _ e=>e,fun b ps e=>⟨#[],by rw [e]; simp⟩⟩ hokH bare (fun b z=>absurd z (by simp)),un.keep _ _ ho hc2 (nfr _ _ hc) (by simp)⟩
end
end L2
end
section
namespace L2
open PySem PySem.Spec PyProof.Rows PySem.W
def LKb (b:Bool) (ks:List Int) (x y:Nat):Prop:=(if b=true then kI ks y < kI ks x else kI ks x < kI ks y)\/(kI ks x=kI ks y/\x < y)
def Za7 (b:Bool) (ks:List Int) (vs out:List Value):Prop:=∃ p:List Nat,p.Perm (List.range vs.length)/\p.Pairwise (LKb b ks)/\out=p.map fun i=>vs.getD i Value.none
theorem Zhx {α:Type}{l:List α}{d : α}{i:Nat}(h:i < l.length):l.reverse.getD i d=l.getD (l.length - 1 - i) d:=by
 rw [xD,xD,List.getElem?_reverse h]
theorem Zx7 {ks:List Int}{vs:List Value}{p:Array Nat}(hl:ks.length=vs.length) (hp:Pm vs.length p) (u:UpS (rI' ks) p vs.length):Za7 false ks vs (p.toList.map fun i=>vs.getD i Value.none) :=
 ⟨p.toList,hp,by rw [← hl] at hp u; exact (u.keys hp).imp fun h=>by unfold LKb; rw [if_neg xJ]; exact h,rfl⟩
theorem Zv9 {ks:List Int}{vs:List Value}{p:Array Nat}(hl:ks.length=vs.length) (hp:Pm vs.length p) (u:UpS (rI' ks.reverse) p vs.length):Za7 true ks vs (p.toList.map fun i=>vs.reverse.getD i Value.none).reverse:=by
 have hm:∀ i∈p.toList,i < vs.length:=fun i hi=>yE.mp (hp.mem_iff.mp hi)
 have e1:(List.range vs.length).map (fun i=>vs.length - 1 - i)=(List.range vs.length).reverse:=by
  apply List.ext_getElem
  ·simp
  ·intro i h1 h2
   simp
 refine ⟨(p.toList.map fun i=>vs.length - 1 - i).reverse,(List.reverse_perm _).trans ?_,?_,?_⟩
 ·have:=hp.map fun i=>vs.length - 1 - i
  rw [e1] at this
  exact this.trans (List.reverse_perm _)
 ·rw [List.pairwise_reverse,List.pairwise_map]
  have hp':Pm ks.reverse.length p:=by rw [List.length_reverse,hl]; exact hp
  have u':UpS (rI' ks.reverse) p ks.reverse.length:=by rw [List.length_reverse,hl]; exact u
  refine yS ?_ (u'.keys hp')
  intro i j hi hj h
  have hi:=hm i hi
  have hj:=hm j hj
  unfold LK kI at h
  rw [Zhx (by lia),Zhx (by lia),hl] at h
  unfold LKb kI
  rw [if_pos rfl]
  rcases h with h | ⟨h1,h2⟩
  ·exact .inl h
  ·exact .inr ⟨h1.symm,by lia⟩
 ·rw [List.map_reverse,yZ]
  congr 1
  refine zF fun i hi=>?_
  exact Zhx (hm i hi)
section
variable {X:Cx}{pins:List (Addr×Obj)}{σ:St}{H:Hp}{s:Shared}
theorem Inv.track {D:Addr}{u:HO}(I:Inv X pins σ H s) (fp:Yk X pins H D) (h0:X.s₀.heap.objs.size<=D) (new:ObjOk X.prog X.w (upd H D u) s.heap D u):Inv X pins σ (upd H D u) s:=by
 obtain ⟨f0,f1,f2,f3,f4,f5⟩:=fp
 refine ⟨I.ok,I.os,I.bare,⟨I.base.keep,I.base.slot,fun b o e n hx=>?_,I.base.there,fun b xs e=>?_,fun b o v e=>?_,fun b ps e=>?_⟩,I.loc,I.cell,?_,fun x c e=>?_,fun p hp=>?_,Zpd I.hok f0 new,I.len⟩
 ·rw [Zh (fun z=>by rw [z] at e; exact absurd (yG (xU e) h0) (Nat.lt_irrefl _))]; exact I.base.free b o e n hx
 ·have:=I.base.tups b xs e
  rw [Zh (Z5 this f0)]; exact this
 ·have:=I.base.frzs b o v e
  rw [Zh (Z5 this f0)]; exact this
 ·obtain ⟨m,e2⟩:=I.base.tbls b ps e
  exact ⟨m,by rw [Zh (Z5 e2 f0)]; exact e2⟩
 ·rw [Zh f1.symm]; exact I.free
 ·rw [Zh (f4 x c e)]; exact I.freeC x c e
 ·obtain ⟨a1,a2,a3⟩:=I.pin p hp
  exact ⟨a1,by rw [Zh (f5 p hp)]; exact a2,a3⟩
theorem Inv.reup {D:Addr}{g:Array Value->Array Value}(I:Inv X pins σ H s) (fp:Yk X pins H D):Inv X pins σ H {s with heap:=s.heap.update D (Obj.mapSeq g) } :=
 I.turned (it:=D) (t':=s.toks) (fun b o hb e=>by rw [Heap.get?_update_ne _ _ _ _ hb]; exact e) fp.1 fp.2.1 fp.2.2.2.1 fp.2.2.2.2.1 fp.2.2.2.2.2
theorem Inv.pin2 {a b:Addr}{oa ob:Obj}(I:Inv X pins σ H s) (fa:Yk X pins H a) (fb:Yk X pins H b) (ha:s.heap.get? a=some oa) (hb:s.heap.get? b=some ob) (ca:∀ v,oa.data ≠ .cell v) (cb:∀ v,ob.data ≠ .cell v):Inv X (pins ++ [(a,oa),(b,ob)]) σ H s :=
 I.pins_of fun p hp=>(xO.mp hp).elim (fun z=>I.pin p (xM _ z)) fun z=>by
  rcases xW.mp z with e | z
  ·subst e; exact ⟨ha,fa.1,fa.2.1,fa.2.2.1,ca⟩
  ·have e:p=(b,ob):=by simpa using z
   subst e; exact ⟨hb,fb.1,fb.2.1,fb.2.2.1,cb⟩
theorem Inv.at1 {pl:List (Addr×Obj)}{p:Addr×Obj}(I:Inv X (pins++pl) σ H s) (h:p∈pl):s.heap.get? p.1=some p.2:=(I.pin p (xM _ (xM _ h))).1
def Ziw (X:Cx) (pins:List (Addr×Obj)) (σ:St) (H:Hp) (f:Value) (c':Addr) (oc:Obj) (vs:List Value) (ks:List Int):Prop:=∀ (i:Nat) (v:Value) (k:Int),vs[i]? = some v->ks[i]? = some k->∀ (pl:List (Addr×Obj)) (s:Shared),Inv X (pins++pl) σ H s->s.heap.get? c'=some oc ->
 wpAny (model X.prog X.w) X.A.in1.in1 (call f [v]) (fun r s'=>(∃ t,r = .int k t)/\Inv X (pins++pl) σ H s'/\s'.heap.get? c'=some oc) (fun _ _=>False) s
variable {f:Value}{c' a kS:Addr}{oc:Obj}{vs:List Value}{ks:List Int}{keys:Array Value}{b:Bool}{e e1:Nat}{Pf:PySem.Fin->Shared->Prop}{E:Value->Shared->Prop}
theorem Zoa {st:SortSt}{o:List Value}(I:Inv X (pins ++ [(kS,seqObj "list" keys e),(a,seqObj "list" #[] e1)]) σ H s) (fk:Yk X pins H kS) (fa:Yk X pins H a) (hka:kS≠a) (hz1:keys.size < 64) (ho:o.length < 64)
  (hs:(arrOf st).map (·.2)=List.toArray o) (hfl:failedOf st=none)
  (h:∀ (s':Shared) (c:Nat),Inv X pins σ H s'->s'.heap.get? a=some (seqObj "list" (List.toArray (if b then o.reverse else o)) c)->Pf (.done (.ret .none)) s') :
  wpAny (model X.prog X.w) X.A.in1.in1 (ksk_tail a b e1 (.ref kS) st) Pf E s:=by
 have nk:=I.at1 (p:=(kS,seqObj "list" keys e)) (.head _)
 have na:=I.at1 (p:=(a,seqObj "list" #[] e1)) (.tail _ (.head _))
 have na1:(s.heap.update kS (Obj.mapSeq fun _=>(#[]:Array Value))).get? a=some (seqObj "list" #[] e1):=by rw [Heap.get?_update_ne _ _ _ _ hka.symm]; exact na
 have I1:=(I.unpinned).reup (g:=fun _=>(#[]:Array Value)) fk
 have hout:(if b then ((arrOf st).map (·.2)).reverse else (arrOf st).map (·.2))=List.toArray (if b then o.reverse else o):=by
  rw [hs]; cases b <;> simp
 unfold ksk_tail
 try dsimp only
 refine wpAny_bind (listUpdate_at nk rfl ?_ (by rw [sizeLine_eq]; lia) (yT _))
 refine wpAny_bind (wpAny_letGo ?_)
 refine wpAny_bind (seqEpoch_at na1 rfl ?_)
 rw [hout]
 have hz:(List.toArray (if b then o.reverse else o)).size<=sizeLine+1:=by
  rw [sizeLine_eq]
  cases b <;> simp <;> lia
 refine wpAny_bind (listUpdate_at na1 rfl ?_ (yT _) hz)
 rw [hfl]
 simp only [bne_self_eq_false,zD,if_false]
 have I2:=I1.reup (g:=fun _=>List.toArray (if b then o.reverse else o)) fa
 exact wpAny_pure (h _ _ I2 (get?_update_seq na1 fun _=>List.toArray (if b then o.reverse else o)))
theorem Z1q {α β:Type}{l:List α}{m:List β}(h:l.length=m.length):(l.zip m).reverse=l.reverse.zip m.reverse:=by
 unfold List.zip
 rw [List.reverse_zipWith h]
theorem Zzo {kv:List Value}{ks:List Int}(h:IntsAre kv ks):IntsAre kv.reverse ks.reverse:=by
 induction h with
 | nil=>exact .nil
 | cons n t _ ih=>rw [List.reverse_cons,List.reverse_cons]; exact ksk_snoc ih
theorem Zob {kv:List Value}{ks:List Int}(h:IntsAre kv ks):∀ {i:Nat},i < ks.length->∃ t,kv.getD i Value.none = .int (kI ks i) t:=by
 induction h with
 | nil=>intro i hi; simp at hi
 | cons n t _ ih =>
  intro i hi
  cases i with
  | zero=>exact ⟨t,rfl⟩
  | succ i =>
   obtain ⟨t',e⟩:=ih (i:=i) (by simpa using hi)
   exact ⟨t',by unfold kI at e ⊢; simpa using e⟩
theorem Zwv {A:Around}{kv:List Value}{ks:List Int}(h:IntsAre kv ks) (s:Shared):Wa (kas_ask X.prog X.w A oneType' kv) (rI' ks) ks.length s:=by
 intro i j C hi hj hC
 obtain ⟨t,ei⟩:=Zob h hi
 obtain ⟨u,ej⟩:=Zob h hj
 unfold kas_ask
 rw [ei,ej,keyLt'_oneType]
 refine oneLt_int ?_
 have:=Ziv (ks:=ks) (i:=i) (j:=j) hi
 by_cases c:kI ks i < kI ks j
 ·rw [xH c]; rw [xH (this.mpr c)] at hC; exact hC
 ·rw [xK c]; rw [xK (fun z=>c (this.mp z))] at hC; exact hC
theorem Z1r (I:Inv X (pins ++ [(kS,seqObj "list" keys e),(a,seqObj "list" #[] e1)]) σ H s) (fk:Yk X pins H kS) (fa:Yk X pins H a) (hka:kS≠a) (hk:IntsAre keys.toList ks) (hlen:ks.length=vs.length) (h64:vs.length < 64)
  (h:∀ (s':Shared) (out:List Value) (c:Nat),Inv X pins σ H s'->s'.heap.get? a=some (seqObj "list" (List.toArray out) c)->Za7 b ks vs out->Pf (.done (.ret .none)) s') :
  wpAny (model X.prog X.w) X.A.in1.in1 (ksk_end a b vs.toArray e1 (.ref kS) keys) Pf E s:=by
 have hsz:keys.size=vs.length:=by
  have h1:=hk.length
  rw [zA] at h1
  lia
 have step:∀ t:Sem PySem.Fin,wpAny (model X.prog X.w) X.A.in1.in1 t Pf E s->wpAny (model X.prog X.w) X.A.in1.in1 (if b=true then (do let _ ← rule "list.sort.reverse"; t) else t) Pf E s:=by
  intro t ht
  split
  ·exact wpAny_bind (wpAny_rule ht)
  ·exact ht
 obtain ⟨kv,ks2,v2,hpr,hi2,hl2,hl3,fin⟩:∃ (kv:List Value) (ks2:List Int) (v2:List Value),(if b=true then (keys.zip vs.toArray).reverse else keys.zip vs.toArray)=kv.toArray.zip v2.toArray/\IntsAre kv ks2/\ks2.length=v2.length/\v2.length=vs.length /\
   ∀ p:Array Nat,Pm v2.length p->UpS (rI' ks2) p v2.length->Za7 b ks vs (if b then (p.toList.map fun i=>v2.getD i Value.none).reverse else p.toList.map fun i=>v2.getD i Value.none):=by
  cases b with
  | false =>
   refine ⟨keys.toList,ks,vs,by rw [if_neg xJ,Array.toArray_toList],hk,hlen,rfl,fun p hp u=>?_⟩
   rw [if_neg xJ]
   exact Zx7 hlen hp u
  | true =>
   refine ⟨keys.toList.reverse,ks.reverse,vs.reverse,?_,Zzo hk,by rw [List.length_reverse,List.length_reverse,hlen],List.length_reverse,fun p hp u=>?_⟩
   ·rw [if_pos rfl]
    apply Array.toList_inj.mp
    rw [Array.toList_reverse,ksk_zip,Z1q (by rw [zA]; exact hsz)]
    simp
   ·rw [if_pos rfl]
    rw [List.length_reverse] at hp u
    exact Zv9 hlen hp u
 have hkl:kv.length=v2.length:=by have:=hi2.length; lia
 unfold ksk_end
 try dsimp only
 refine step _ ?_
 rw [hpr]
 by_cases h2:vs.toArray.size < 2
 ·rw [if_pos h2,if_pos h2]
  refine wpAny_bind (wpAny_pure ?_)
  rw [StateT.run_pure]
  refine wpAny_bind (wpAny_pure ?_)
  try dsimp only
  have l2:v2.length < 2:=by simp at h2; lia
  have pm:Pm v2.length (List.toArray (List.range v2.length)):=List.Perm.refl _
  have ko:=fin _ pm fun i hi=>by lia
  have eo:((List.toArray (List.range v2.length)).toList.map fun i=>v2.getD i Value.none)=v2:=by
   apply List.ext_getElem
   ·simp
   ·intro i h1 h2
    simp at h1
    simp [h1]
  rw [eo] at ko
  refine Zoa (o:=v2) (b:=b) I fk fa hka (by lia) (by lia) ?_ rfl fun s' c I' e'=>h s' _ c I' e' ko
  show Array.map (fun x=>x.2) (kv.toArray.zip v2.toArray)=_
  apply Array.toList_inj.mp
  rw [Array.toList_map,ksk_zip]
  simp only [List.toList_toArray]
  rw [List.map_snd_zip (by lia)]
 ·rw [if_neg h2,if_neg h2]
  have l2 : 2<=v2.length:=by simp at h2; lia
  rw [ksk_kind hk (by lia)]
  refine wpAny_bind (wpAny_pure ?_)
  refine wpAny_bind (wpAny_mono (kat_run (ks:=kv) (vs:=v2) (κ:=oneType') (G:=fun p s'=>s'=s/\Pm v2.length p/\UpS (rI' ks2) p v2.length)
   (Q:=fun st' s'=>s'=s/\∃ p:Array Nat,(arrOf st').map (·.2)=List.toArray (p.toList.map fun i=>v2.getD i Value.none)/\failedOf st'=none/\Pm v2.length p/\UpS (rI' ks2) p v2.length)
   hkl l2 (by lia) (fun p st' s' a1 a2 a3 a4=>⟨a4.1,p,kat_snds hkl a2,a3,a4.2⟩) (Zzl (by have:=Zwv (X:=X) (A:=X.A.in1.in1) hi2 s; rw [hl2] at this; exact this) (by lia) fun p a b=>⟨rfl,a,b⟩)) ?_ fun _ _ e=>e)
  rintro ⟨⟨⟩,st'⟩ s' ⟨rfl,p,ho',hf,hp,hu⟩
  try dsimp only
  have hpl:(p.toList.map fun i=>v2.getD i Value.none).length=v2.length:=by rw [xA,zA,hp.size]
  exact Zoa (o:=p.toList.map fun i=>v2.getD i Value.none) (b:=b) I fk fa hka (by lia) (by lia) ho' hf fun s' c I' e'=>h s' _ c I' e' (fin p hp hu)
theorem Zzp (I:Inv X (pins ++ [(kS,seqObj "list" #[] 0),(a,seqObj "list" #[] e1)]) σ H s) (hc:s.heap.get? c'=some oc) (fk:Yk X pins H kS) (fa:Yk X pins H a) (hka:kS≠a) (nck:c'≠kS) (hlen:ks.length=vs.length) (h64:vs.length < 64)
  (turn:Ziw X pins σ H f c' oc vs ks)
  (h:∀ (s':Shared) (out:List Value) (c:Nat),Inv X pins σ H s'->s'.heap.get? a=some (seqObj "list" (List.toArray out) c)->Za7 b ks vs out->Pf (.done (.ret .none)) s') :
  wpAny (model X.prog X.w) X.A.in1.in1 (ksk_rest a f b vs.toArray e1 (.ref kS)) Pf E s:=by
 unfold ksk_rest
 refine wpAny_bind (wpAny_rule ?_)
 first
  | rw [List.forIn_toArray]
  | (rw [← Array.forIn_toList]; simp only [List.toList_toArray])
  | rw [← Array.forIn_toList]
 refine wpAny_bind (ksk_fold (fun i s'=>∃ kA e,Inv X (pins ++ [(kS,seqObj "list" kA e),(a,seqObj "list" #[] e1)]) σ H s'/\s'.heap.get? c'=some oc/\IntsAre kA.toList (ks.take i)) vs 0 s
  ⟨#[],0,I,hc,by simpa using IntsAre.nil⟩ ?step ?done)
 case step =>
  rintro j x s' hx ⟨kA,e,I',hc',hk⟩
  simp only [Nat.zero_add] at hk ⊢
  have hj:j < vs.length:=(xC.mp hx).1
  obtain ⟨k,hkj⟩:∃ k,ks[j]? = some k:=⟨_,xB (by lia)⟩
  have hz:kA.size<=vs.length:=by
   have h1:=hk.length
   rw [zA,xY] at h1
   lia
  refine wpAny_bind (wpAny_attempt (wpAny_mono (turn j x k hx hkj _ s' I' hc') (fun v s'' he=>?_) fun _ _ hF=>hF.elim))
  obtain ⟨⟨t2,rfl⟩,I2,hc2⟩:=he
  try dsimp only
  have nk:=I2.at1 (p:=(kS,seqObj "list" kA e)) (.head _)
  have na:=I2.at1 (p:=(a,seqObj "list" #[] e1)) (.tail _ (.head _))
  have ek:ks.take (j+1)=ks.take j ++ [k]:=by rw [yB,hkj]; simp
  have ea:(kA.push (Value.int k t2)).toList=kA.toList ++ [Value.int k t2]:=by simp
  refine wpAny_bind (listUpdate_at nk rfl ?_ (by rw [sizeLine_eq]; lia) (yA (Nat.le_of_eq (Array.size_push ..)) (by rw [sizeLine_eq]; lia)))
  have I3:=(I2.unpinned).reup (g:=(·.push (.int k t2))) fk
  refine wpAny_pure ⟨rfl,kA.push (.int k t2),_,I3.pin2 fk fa (get?_update_seq nk (·.push (.int k t2))) (by rw [Heap.get?_update_ne _ _ _ _ hka.symm]; exact na) (fun v z=>by cases z) (fun v z=>by cases z),?_,by rw [ea,ek]; exact ksk_snoc hk⟩
  show (s''.heap.update kS _).get? c'=_
  rw [Heap.get?_update_ne _ _ _ _ nck]; exact hc2
 case done =>
  rintro s' ⟨kA,e,I',hc',hk⟩
  have hk':IntsAre kA.toList ks:=by
   have e3:ks.take (0+vs.length)=ks:=yQ (by lia)
   rw [e3] at hk
   exact hk
  have nk:=I'.at1 (p:=(kS,seqObj "list" kA e)) (.head _)
  try dsimp only
  refine wpAny_bind (listItems_at nk rfl ?_)
  exact Z1r I' fk fa hka hk' hlen h64 h
theorem Zzq {n:Nat}(I:Inv X pins σ H s) (hc:s.heap.get? c'=some oc) (fa:Yk X pins H a) (ho:s.heap.get? a=some (seqObj "list" vs.toArray n)) (nca:c'≠a) (hlen:ks.length=vs.length) (h64:vs.length < 64) (turn:Ziw X pins σ H f c' oc vs ks)
  (h:∀ (s':Shared) (out:List Value) (c:Nat),Inv X pins σ H s'->s'.heap.get? a=some (seqObj "list" (List.toArray out) c)->Za7 b ks vs out->Pf (.done (.ret .none)) s') :
  wpAny (model X.prog X.w) X.A.in1.in1 (ksk_tree a f b) Pf E s:=by
 have ha:a < s.heap.objs.size:=xU ho
 obtain ⟨e1,ho1⟩:∃ e1,(s.heap.update a (Obj.mapSeq fun _=>(#[]:Array Value))).get? a=some (seqObj "list" #[] e1):=⟨_,get?_update_seq ho fun _=>#[]⟩
 have hkS:((s.heap.update a (Obj.mapSeq fun _=>(#[]:Array Value))).push (seqObj "tuple" vs.toArray 0)).objs.size=s.heap.objs.size+1:=by rw [size_push',Heap.size_update]
 have I1:=I.reup (g:=fun _=>(#[]:Array Value)) fa
 have I2:Inv X pins σ H {s with heap:=((s.heap.update a (Obj.mapSeq fun _=>(#[]:Array Value))).push (seqObj "tuple" vs.toArray 0)).push (seqObj "list" #[] 0) }:=I1.kept (t':=s.toks) fun b u e=>xG _ (xG _ e)
 have fk:Yk X pins H ((s.heap.update a (Obj.mapSeq fun _=>(#[]:Array Value))).push (seqObj "tuple" vs.toArray 0)).objs.size:=I.fpOk (by rw [hkS]; lia) (I.hok.fresh (by rw [hkS]; lia))
 unfold ksk_tree
 refine wpAny_bind (listItems_at ho rfl ?_)
 refine wpAny_bind (listUpdate_at ho rfl ?_ (by rw [xX,sizeLine_eq]; lia) (yT _))
 refine wpAny_bind (seqEpoch_at ho1 rfl ?_)
 refine wpAny_bind (wpAny_newTuple ?_ (by show vs.length<=_; rw [sizeLine_eq]; lia))
 refine wpAny_bind (wpAny_newList ?_ (yT _))
 refine wpAny_holding ?_
 refine Zzp (s:={s with heap:=((s.heap.update a (Obj.mapSeq fun _=>(#[]:Array Value))).push (seqObj "tuple" vs.toArray 0)).push (seqObj "list" #[] 0) }) (kS:=((s.heap.update a (Obj.mapSeq fun _=>(#[]:Array Value))).push (seqObj "tuple" vs.toArray 0)).objs.size)
  (I2.pin2 fk fa (yC _ rfl) (xG _ (xG _ ho1)) (fun v z=>by cases z) (fun v z=>by cases z)) ?_ fk fa (by rw [hkS]; exact Nat.ne_of_gt (Nat.lt_succ_of_lt ha)) (by rw [hkS]; exact yJ (Nat.lt_succ_of_lt (xU hc))) hlen h64 turn h
 refine xG _ (xG _ ?_)
 rw [Heap.get?_update_ne _ _ _ _ nca]; exact hc
theorem Zww {l:Addr}{kw:List (Str×Value)}{Q:Value->Shared->Prop}(I:Inv X pins σ H s) (hc:s.heap.get? c'=some oc) (hl:s.heap.IsList l vs.toArray) (hlen:ks.length=vs.length) (h64:vs.length < 64)
  (ha1:argsOk "sorted" ⟨[.ref l],kw⟩) (ha2:∀ x,argsOk "list.sort" ⟨[.ref x],kw⟩) (ht:∀ x,Builtin.«list.sort» ⟨[.ref x],kw⟩=ksk_tree x f b) (turn:Ziw X pins σ H f c' oc vs ks)
  (h:∀ (D:Addr) (s':Shared) (out:List Value) (c:Nat),Inv X pins σ H s'->Yk X pins H D->X.s₀.heap.objs.size<=D->s'.heap.get? D=some (seqObj "list" (List.toArray out) c)->Za7 b ks vs out->Q (.ref D) s') :
  wpAny (model X.prog X.w) X.A (call (.builtin "sorted") [.ref l] kw) Q E s:=by
 refine call_function_entry_kw kind_sorted plain_sorted entry_sorted ha1 ?_
 unfold Builtin.«sorted»
 refine wpAny_bind (m:=checkCount "sorted" 1 1 _) (wpAny_pure ?_)
 refine wpAny_bind (collect_list hl ?_ (by rw [sizeLine_eq]; lia))
 refine wpAny_bind (wpAny_newList ?_ (by rw [sizeLine_eq]; lia))
 have hsz:((s.heap.push (seqObj "list" #[] 0)).update s.heap.objs.size (Obj.mapSeq (· ++ vs.toArray))).objs.size=s.heap.objs.size+1:=by
  rw [Heap.size_update,size_push']
 have hoL:(((s.heap.push (seqObj "list" #[] 0)).update s.heap.objs.size (Obj.mapSeq (· ++ vs.toArray))).push (seqObj "list" vs.toArray 0)).get? (s.heap.objs.size+1)=some (seqObj "list" vs.toArray 0):=by
  rw [← hsz]; exact yC _ rfl
 have keep:∀ b o,s.heap.get? b=some o->(((s.heap.push (seqObj "list" #[] 0)).update s.heap.objs.size (Obj.mapSeq (· ++ vs.toArray))).push (seqObj "list" vs.toArray 0)).get? b=some o:=fun b o q=>by
  have hlt:b < s.heap.objs.size:=xU q
  rw [Heap.get?_push_ne _ _ _ (by rw [hsz]; exact yJ (Nat.lt_succ_of_lt hlt)),Heap.get?_update_ne _ _ _ _ (yJ hlt),Heap.get?_push_ne _ _ _ (yJ hlt)]
  exact q
 show wpAny _ _ _ _ _ {s with heap:=((s.heap.push (seqObj "list" #[] 0)).update s.heap.objs.size (Obj.mapSeq (· ++ vs.toArray))).push (seqObj "list" vs.toArray 0) }
 rw [hsz]
 refine wpAny_bind (wpAny_holding (wpAny_call_entry_kw slot_list_sort ⟨_,hoL,rfl⟩ entry_list_sort ?body (ha2 _)))
 case body =>
  have ht':=ht (s.heap.objs.size+1)
  show wpAny (model X.prog X.w) X.A.in1.in1 (Builtin.«list.sort» ⟨[.ref (s.heap.objs.size+1)],kw⟩) _ _ _
  rw [ht']
  have I1:Inv X pins σ H {s with heap:=((s.heap.push (seqObj "list" #[] 0)).update s.heap.objs.size (Obj.mapSeq (· ++ vs.toArray))).push (seqObj "list" vs.toArray 0) }:=I.kept (t':=s.toks) keep
  have fa:Yk X pins H (s.heap.objs.size+1):=I.fpOk (by lia) (I.hok.fresh (by lia))
  refine Zzq (s:={s with heap:=((s.heap.push (seqObj "list" #[] 0)).update s.heap.objs.size (Obj.mapSeq (· ++ vs.toArray))).push (seqObj "list" vs.toArray 0) }) I1 (keep _ _ hc) fa hoL (yJ (Nat.lt_succ_of_lt (xU hc))) hlen h64 turn fun s' out c I' ho' ko=>⟨_,rfl,?_⟩
  exact wpAny_pure ⟨_,rfl,h _ s' out c I' fa (Nat.le_succ_of_le I.sz) ho' ko⟩
end
end L2
end
section
namespace L2
open PySem PySem.Spec PyProof.Rows PySem.W
def Zqo (K:Frag) (b:Bool) (te:TE):List V->Hp->VK->Prop:=fun vs H Q=>∃ (a:Addr) (xs:List V) (ks:List Int),vs = [.ref a]/\SqL K H a xs/\xs.length < 64/\ks.length=xs.length /\
 (∀ (i:Nat) (x:V) (k:Int),xs[i]? = some x->ks[i]? = some k->∀ H2:Hp,(∀ b ys,H b=some (.tup ys)->H2 b=some (.tup ys))->te [some x] H2 fun z H3=>z = .int k/\H3=H2) /\
 ∀ (l:Addr) (p:List Nat) (H':Hp),Same H H'->H' l=none->p.Perm (List.range xs.length)->p.Pairwise (LKb b ks)->Q (.ref l) (upd H' l (.lst (p.map fun i=>xs.getD i .non)))
theorem Znj {xs:List V}{vs:List Value}(r:Vals xs vs):∀ p:List Nat,Vals (p.map fun i=>xs.getD i .non) (p.map fun i=>vs.getD i Value.none)
 | []=>.nil
 | i::p=>.cons (by
   show RelV (xs.getD i .non) (vs.getD i Value.none)
   rw [xD,xD]
   cases e:xs[i]? with
   | none=>rw [r.none_of e]; rfl
   | some x=>obtain ⟨u,e2,r2⟩:=r.get e; rw [e2]; exact r2) (Znj r p)
section
variable {X:Cx}{c P:Addr}{nm x:Str}{params:Arguments}{body:Expr}{scope:Scope}{lpos p kp kp2 pos:Pos}{e:Expr}{te1 te:TE}{k:Nat}
structure LamOk (X:Cx) (nm x:Str) (params:Arguments) (body:Expr) (scope:Scope) (te:TE):Prop where
 cl:closureFor scope X.env=pure []
 df:defaultsOf params X.env=([],[])
 S:FnScope [x] [x] scope
 bd:∀ (pm cv ctv u:Value),bindArgs (kla_fn "<lambda>" nm params body scope [] pm cv ctv) ⟨[u],[]⟩=pure [(x,u)]
 bo:∀ (f:Addr) (cv:Value) (A:Around) (s:Shared) (H2:Hp),QE (Ye CX0 X.prog X.w X.K X.mg X.base [x] nm scope f cv A X.stack s H2 E0) body te
theorem Zwx {b:Bool}{kw:Addr->List (Str×Value)}{pins:List (Addr×Obj)}{σ:St}{H:Hp}{s:Shared}{Q:VK}{a f c':Addr}{ctv pm:Value}{oc:Obj}{vs:Array Value}{t:Tok}{H1:Hp}(Lo:LamOk X nm x params body scope te) (hr:Room k X.A) (hk : 3<=k)
  (ha1:∀ l f,argsOk "sorted" ⟨[.ref l],kw f⟩) (ha2:∀ x f,argsOk "list.sort" ⟨[.ref x],kw f⟩) (ht:∀ x f,Builtin.«list.sort» ⟨[.ref x],kw f⟩=ksk_tree x (.ref f) b)
  (I:Inv X (pins ++ [(f,kla_obj "<lambda>" nm params body scope [] pm c' ctv)]) σ H s) (ho:s.heap.get? c'=some oc) (e1:oc.data = .fields vs) (e2:vs[1]? = some (.str nm t)) (own:H c'=some (.own P)) (hT:IsTab H P nm) (sm:Same H1 H)
  (h:Zqo X.K b te [.ref a] H1 Q):wpAny (model X.prog X.w) X.A (call (.builtin "sorted") [.ref a] (kw f)) (EP X pins σ Q) X.xe s:=by
 obtain ⟨a',xs,ks,ea,hS,h64,hlen,hkey,q⟩:=h
 cases ea
 have hS':SqL X.K H a xs:=by
  rcases hS with (z | ⟨o,z⟩) | z
  ·exact .inl (.inl (sm _ _ z))
  ·exact .inl (.inr ⟨o,sm _ _ z⟩)
  ·exact .inr z
 obtain ⟨its,rv,pl,_⟩:=I.list hS'
 have hl:=rv.length
 have hr2:Room (k - 2) X.A.in1.in1:=(Room.in1 (k:=k - 2) (Room.in1 (k:=k - 2+1) (hr.mono (by lia))))
 refine Zww (f:=.ref f) (oc:=oc) (ks:=ks) (b:=b) I ho pl.isList (by lia) (by lia) (ha1 a f) (fun x=>ha2 x f) (fun x=>ht x f) (fun i v kk hv hkk pl2 s2 I2 ho2=>?_) fun D s' out cc I' fp hD hdo ko=>?_
 ·have hx:∃ xv,xs[i]? = some xv/\RelV xv v:=by
   have hi:i < xs.length:=by have:=(xC.mp hv).1; lia
   obtain ⟨u,e3,r3⟩:=rv.get (xB hi)
   rw [hv] at e3
   cases e3
   exact ⟨_,xB hi,r3⟩
  obtain ⟨xv,hxv,rxv⟩:=hx
  refine wpAny_mono (Zzn (P:=P) (pm:=pm) (ctv:=ctv) (te:=te) (w:=.int kk) I2 rfl hr2 ?_ ho2 e1 e2 own hT Lo.S (Lo.bd _ _ _ _) rxv (fun H2=>(Lo.bo _ _ _ _ _).h) fun H2 hH2=>hkey i xv kk hxv hkk H2 fun b ys e=>hH2 b ys (sm _ _ e)) (fun r s3 ⟨r1,r2,r3⟩=>⟨r1,r2,r3⟩) fun _ _ z=>z
  exact (I2.pin _ (xM _ (yF _ (xM _ xI)))).1
 ·obtain ⟨pp,hp1,hp2,rfl⟩:=ko
  have hl3:xs.length=its.length:=hl
  have hpl:pp.length=xs.length:=by have:=hp1.length_eq; rw [zC] at this; lia
  refine ⟨.ref D,_,(I'.track (u:=.lst (pp.map fun i=>xs.getD i .non)) fp hD ⟨?_,pp.map fun i=>its.getD i Value.none,cc,Znj rv pp,hdo⟩).unpinned,rfl,q D pp H sm fp.1 (by rw [hl3]; exact hp1) hp2⟩
  rw [xA,hpl]
  exact yA (yY h64) (by decide)
theorem Zu8 {t:TA}{j:Nat}{vp:Pos}(L:LamX X c P nm) (hT:IsTab X.H₀ P nm) (hr:Room k X.A) (hk : 3<=k) (n:Nm X.env.scope "sorted" .globalImplicit) (hm:X.mg "sorted" = none) (ha:QA X [e] t) (Lo:LamOk X nm x params body scope te)
  (hs:backTo pos (starEach [e] X.env)=(false,eval e X.env)::backTo pos (starEach [] X.env):=by rfl) (hpl:(backTo pos (starEach [e] X.env)).any (·.1)=false:=by rfl) :
  QE X (.Call (.Name "sorted" p) [e] [⟨some "key", .Lambda params body scope lpos,kp⟩,⟨some "reverse", .Constant (.bool true) j vp,kp2⟩] pos) (tCB (Zqo X.K true te) t):=⟨by
 intro pins s σ H Q I h
 refine wpAny_Call_Name_kw (Vs I n.1 hm Zej ?_ n.2.2.2 n.2.1)
 refine PyProof.Rows.callWith_kw (thn (ha.h pos pins s σ H _ I h) fun us s1 ⟨vs,H1,I1,r1,q1⟩=>?_) hs hpl rfl rfl
 obtain ⟨a,xs,ks,ea,rest⟩:=id q1
 subst ea
 obtain ⟨u,rfl,ru⟩:=V3 r1
 cases ru
 refine PyProof.Rows.kws_cons (Zzm I1 L hT Lo.cl Lo.df fun f c' ctv oc vs t H' s' I2 ho e1 e2 own hT' sm=>?_)
 refine PyProof.Rows.kws_cons (Constant_bool (PyProof.Rows.kws_nil ?_))
 exact Zwx (kw:=fun f=>[(Str.ofString "key", .ref f),(Str.ofString "reverse", .bool true)]) Lo hr hk (fun l f=>ksk_s2 _ _ _) (fun x f=>ksk_l2 _ _ _) (fun x f=>ksk_t2 _ _ _) I2 ho e1 e2 own hT' sm q1⟩
end
end L2
end
section
namespace L2
open PySem PySem.Spec PyProof.Rows PySem.W
/- the library's own look at a code's head (KE.KNestM): a match of its own cost 37,000 objects -/
theorem Znk {K:Frag}{h:Heap}{c P:Addr}(X:K.In h) (e:PySem.W.codeHdIn K c P=true):CodeHd h c P:=PySem.W.codeHd_of_K X e
def HasL (K:Frag) (mg:Str->Option Value) (x:Str) (st:Stmt) (c:Addr):Prop:=∃ (f:Addr) (oc:Value) (od:Option Addr) (kV doc pm:Value) (an:Option Addr) (ct:Value) (osl:Array (Option Value)),
 K.lookup f=some ⟨oc,od,.func (PySem.W.fnOf x x (Vf st) (Yx st) (Za st) .none kV doc pm an (.ref c) ct),osl⟩/\PySem.W.codeIn K (.ref c) x=true/\PySem.W.keepIn K (.ref f)=true/\mg x=some (.ref f)
theorem Z1s {K:Frag}{mg:Str->Option Value}{h:Heap}{x:Str}{st:Stmt}{f c:Addr}{oc:Value}{od an:Option Addr}{osl:Array (Option Value)}{kV doc pm ct:Value}(KX:K.In h) (G:h.Ns mainGlobals mg)
  (a:PySem.W.nsIn K mainGlobals x=some (some (.ref f))) (l:K.lookup f=some ⟨oc,od,.func (PySem.W.fnOf x x (Vf st) (Yx st) (Za st) .none kV doc pm an (.ref c) ct),osl⟩)
  (cc:PySem.W.codeIn K (.ref c) x=true) (k:PySem.W.keepIn K (.ref f)=true):HasL K mg x st c:=⟨f,oc,od,kV,doc,pm,an,ct,osl,l,cc,k,PySem.W.mg_of KX G a⟩
structure LamB (K:Frag) (mg:Str->Option Value) (c P:Addr):Prop where
 hd:PySem.W.codeHdIn K c P=true
 bm:∃ bm o,mg "__builtins__" = some (.ref bm)/\bm≠builtinsNs/\bm≠mainGlobals/\bm≠P/\K.lookup bm=some o/\o.cls = .type "module" /\ o.dict=some builtinsNs/\o.data = .plain
 gl:mainGlobals≠P
section
variable {P:Program}{w:World}{K:uFg}{mg:Str->Option Value}{base:Heap}
theorem HasL.fnQ {x:Str}{st:Stmt}{N ps:List Str}{k:Nat}{sp:Sp}{c T:Addr}(h:HasL K mg x st c) (B:LamB K mg c T) (kb:K.In base) (S:FnScope N ps (Za st))
  (hb:∀ (kV doc pm:Value) (an:Option Addr) (cdv ct:Value) (us:List Value),us.length=ps.length->bindArgs (PySem.W.fnOf x x (Vf st) (Yx st) (Za st) .none kV doc pm an cdv ct) ⟨us,[]⟩=pure (ps.zip us))
  (len:∀ vs H Q E,sp vs H Q E->vs.length=ps.length)
  (hbody:∀ (f:Addr) (A:Around) (outer:List Env) (s:Shared) (H:Hp) (vs:List V) (Q:VK) (E:XK),Room k (A.deeper (envOfC x (Za st) s.heap.objs.size f (.ref c)))->LamX (Ye CX0 P w K mg base N x (Za st) f (.ref c) A outer s H E).nox c T (x ++ ".<locals>." ++ "<lambda>")->sp vs H Q E ->
   ∃ t,QSs (Ye CX0 P w K mg base N x (Za st) f (.ref c) A outer s H E).nox (Yx st) t/\t {nx:=fun _ H'=>Q .non H',rt:=Q } (start N vs) H):Fn P w K mg base x ps (k+1) sp:=by
 obtain ⟨f,oc,od,kV,doc,pm,an,ct,osl,lk,hcd,kp,hm⟩:=h
 refine ⟨f,_,hm,kp,.all (hb kV doc pm an (.ref c) ct),Zi8 lk hcd S len fun A outer s H vs Q E hr hsp=>?_⟩
 have L:LamX (Ye CX0 P w K mg base N x (Za st) f (.ref c) A outer s H E).nox c T (x ++ ".<locals>." ++ "<lambda>") :=
  ⟨rfl,Znk kb B.hd,let ⟨bm,o,a1,a2,a3,a4,a5,a6⟩:=B.bm; ⟨bm,o,a1,a2,a3,a4,kb _ _ a5,a6⟩,rfl,B.gl⟩
 obtain ⟨t,h,q⟩:=hbody f A outer s H vs Q E hr L hsp
 exact ⟨t,h.h.nox,q⟩
end
section
variable {P:Program}{w:World}{K:uFg}{mg:Str->Option Value}{base:Heap}{x nm:Str}{scope:Scope}{f:Addr}{cv:Value}{A:Around}{outer:List Env}{s:Shared}{H:Hp}{E:XK}{pos:Pos}
theorem Zzr:QIx (Ye CX0 P w K mg base [x] nm scope f cv A outer s H E) (Zf0 K):=⟨Zio (X:=Ye CX0 P w K mg base [x] nm scope f cv A outer s H E)⟩
theorem Ybm (n:Nm scope x .local:=by decide +kernel):QE (Ye CX0 P w K mg base [x] nm scope f cv A outer s H E) (.Name x pos) (Yu 0):=qvN 0 n
end
structure Tb where
 c:Addr
 P:Addr
 nm:Str
def Vw (ts:List Tb) (b:Addr):Option HO:=(ts.find? fun t=>t.P == b).map fun t=>.tbl #[.str t.nm 0]
def Zqp (ts:List Tb) (H:Hp):Prop:=∀ t∈ts,IsTab H t.P t.nm
def Zff (K:uFg) (ts:List Tb):Sp:=fun vs H Q _=>∃ (a:Addr) (ns:List Int),vs = [.ref a]/\SqL K H a (ns.map V.int)/\ns.length<=63/\Zqp ts H/\∀ H',Q (.bl true) H'
theorem Zx8 {P:Program}{w:World}{K:uFg}{mg mb:Str->Option Value}{k:Nat}{fa a:Addr}{fd:FuncData}{x:Str}{s₁:Shared}{vs:List Value}{ns:List Int}{ts:List Tb}
  (KX:K.In s₁.heap) (hns:s₁.heap.Ns mainGlobals mg) (hb:s₁.heap.Ns builtinsNs mb) (hbb:∀ x:Str,x ≠ "__name__" -> mb x=bootBuiltins x) (hlim:s₁.heap.NoLimit) (hg:s₁.gens = #[])
  (ha:s₁.heap.get? a=some {cls:=.type "list", data:=.seq vs.toArray }) (hi:IntsAre vs ns) (hl:ns.length<=63) (hr:Room k callerA)
  (hts:∀ t∈ts,s₁.heap.get? t.P=some {cls:=.none,data:=.fields #[] }/\PySem.W.codeHdIn K t.c t.P=true/\K.lookup t.P=none) (hnd:(ts.map (·.P)).Nodup)
  (F:∀ base:Heap,K.In base->base.Ns mainGlobals mg->FnOk P w K mg base CX0 k fa fd [x] (Zff K ts)) (hbind:∀ (s:Shared) (u:Value),BindsTo s fd ⟨[u],[]⟩ [(x,u)]) :
  codeAny (model P w) callerA (.call (.ref fa) ⟨[.ref a],[]⟩) (fun r s'=>r = .ok (.ret (.bool true))/\OldK s₁.heap s'.heap/\s'.os=s₁.os/\AllBare s'.gens) s₁:=by
 have rv:=Znd hi
 have lenV:=hi.length
 have hl':ns.length<=sizeLine:=yA hl (by decide)
 have tabS:∀ b u,Vw ts b=some u->∃ t∈ts,t.P=b/\u = .tbl #[.str t.nm 0]:=fun b u e=>by
  unfold Vw at e
  obtain ⟨t,h1,h2⟩:=yM.mp e
  exact ⟨t,List.mem_of_find?_eq_some h1,by simpa using List.find?_some h1,h2.symm⟩
 have tabN:∀ t∈ts,∃ u,Vw ts t.P=some u:=fun t ht=>by
  unfold Vw
  cases e:ts.find? (fun t'=>t'.P == t.P) with
  | none=>have:=List.find?_eq_none.mp e t ht; simp at this
  | some t'=>exact ⟨_,rfl⟩
 have tabE:∀ t∈ts,Vw ts t.P=some (.tbl #[.str t.nm 0]):=fun t ht=>by
  obtain ⟨u,e⟩:=tabN t ht
  obtain ⟨t',h1,h2,h3⟩:=tabS _ _ e
  have:t'=t:=by
   have e1:∀ {l:List Tb}{t t':Tb},(l.map (·.P)).Nodup->t∈l->t'∈l->t'.P=t.P->t'=t:=by
    intro l
    induction l with
    | nil=>intro t t' _ h; cases h
    | cons y l ih =>
     intro t t' hn h h' hp
     rw [xQ,List.nodup_cons] at hn
     rcases xW.mp h with z | z
     ·rcases xW.mp h' with z' | z'
      ·rw [z,z']
      ·rw [z] at hp; exact absurd (xV.mpr ⟨t',z',hp⟩) hn.1
     ·rcases xW.mp h' with z' | z'
      ·rw [z'] at hp; exact absurd (xV.mpr ⟨t,z,hp.symm⟩) hn.1
      ·exact ih hn.2 z z' hp
   exact e1 hnd ht h1 h2
  rw [e,h3,this]
 have core:∀ H:Hp,(∀ b u,H b=some u->(b=a/\∃ o xs,u = .frz o (.lst xs))\/Vw ts b=some u)->Zqp ts H->SqL K H a (ns.map V.int)->HOk P w H s₁.heap->(H a≠none->K.lookup a=none) ->
   codeAny (model P w) callerA (.call (.ref fa) ⟨[.ref a],[]⟩) (fun r s'=>r = .ok (.ret (.bool true))/\OldK s₁.heap s'.heap/\s'.os=s₁.os/\AllBare s'.gens) s₁:=by
  intro H hO hT hS hok hK
  have base_of:∀ {b:Addr}{o:Obj},s₁.heap.get? b=some o->H b=none->(U2 s₁.heap H).get? b=some o:=fun e n=>Zyl e n
  have noA:∀ {b:Addr}{o:Obj}{es:Array DictEntry}{ep:Nat},s₁.heap.get? b=some o->o.data = .dict es ep->H b=none:=fun {b o es ep} e d=>by
   cases q:H b with
   | none=>rfl
   | some u =>
    rcases hO b u q with ⟨e',_⟩ | e'
    ·subst e'
     rw [ha] at e; cases e
     have d':Data.seq vs.toArray _=Data.dict es ep:=d
     cases d'
    ·obtain ⟨t,h1,h2,_⟩:=tabS b u e'
     subst h2
     rw [(hts t h1).1] at e; cases e; cases d
  have nsK:∀ {b:Addr}{m:Str->Option Value},s₁.heap.Ns b m->(U2 s₁.heap H).Ns b m:=fun {b m} ⟨o,es,ep,e,d,r⟩=>⟨o,es,ep,base_of e (noA e d),d,r⟩
  have hKb:K.In (U2 s₁.heap H):=fun b o e=>base_of (KX b o e) (by
   cases q:H b with
   | none=>rfl
   | some u =>
    rcases hO b u q with ⟨e',_⟩ | e'
    ·subst e'
     rw [hK (by rw [q]; simp)] at e; cases e
    ·obtain ⟨t,h1,h2,_⟩:=tabS b u e'
     subst h2
     rw [(hts t h1).2.2] at e; cases e)
  have hM:Mod K mg (U2 s₁.heap H):=⟨hKb,nsK hns,⟨mb,nsK hb,hbb⟩,let ⟨mc,h1,h2⟩:=hlim; ⟨mc,nsK h1,h2⟩⟩
  have e0:Env0 P w K mg (U2 s₁.heap H) callerA [] s₁ H:=⟨rfl,hM,fun b o e=>Z0j e,Nat.le_of_eq (Zxa _ _),trivial,fun b hb=>absurd (show b∈([]:List Addr) from hb) (by simp),hok,.of_eq hg⟩
  refine codeAny_mono ((F _ hKb (nsK hns)).run callerA [] s₁ H ⟨[.ref a],[]⟩ [.ref a] [.ref a] (fun v _=>v = .bl true) E0 hr e0 (hbind s₁ (.ref a)) (.cons rfl .nil) ⟨a,ns,rfl,hS,hl,hT,fun _=>rfl⟩) fun r s' h=>?_
  cases r with
  | error e=>exact h.elim
  | ok fl =>
   cases fl with
   | next=>exact False.elim h
   | brk=>exact False.elim h
   | cont=>exact False.elim h
   | ret u =>
    obtain ⟨v,H',os,bare,un,hok',r',q⟩:=h
    have q':v = .bl true:=q
    subst q'
    obtain rfl:u=Value.bool true:=r'
    have nfs:∀ b:Addr,b∉frs []:=fun b z=>absurd (show b∈([]:List Addr) from z) (by simp)
    refine ⟨rfl,⟨fun b o e=>?_,fun b o e=>un.there b o e (by simp)⟩,os,bare⟩
    cases q:H b with
    | none=>exact .inl (un.keep b o e q (nfs b) (by simp))
    | some u =>
     rcases hO b u q with ⟨_,ob,xs,z⟩ | z
     ·subst z
      have z2:=un.frzs b ob _ q
      obtain ⟨e1,_⟩:=hok b _ q
      obtain ⟨e2,_⟩:=hok' b _ z2
      rw [e] at e1; cases e1
      exact .inl e2
     ·obtain ⟨t,h1,h2,h3⟩:=tabS b u z
      subst h2 h3
      obtain ⟨e1,e2,_⟩:=hts t h1
      rw [e1] at e
      cases e
      obtain ⟨more,z2⟩:=un.tbls _ _ q
      obtain ⟨qs,_,_,e3,_⟩:=hok' _ _ z2
      obtain ⟨oc,vv,_,_,_,_,_,_,_,f1,f2,f3,f4,_⟩:=Znk KX e2
      exact .inr (.inl ⟨⟨t.c,oc,vv,f1,f2,f3,f4⟩,rfl,#[],qs,rfl,by rw [e3]; simp⟩)
 have tabOk:∀ (H:Hp),(∀ t∈ts,H t.P=some (.tbl #[.str t.nm 0]))->∀ b u,Vw ts b=some u->ObjOk P w H s₁.heap b u:=fun H hH b u z=>by
  obtain ⟨t,h1,h2,h3⟩:=tabS b u z
  subst h2 h3
  exact ⟨#[],t.nm,0,(hts t h1).1,trivial,rfl,fun pos cv e=>by cases e⟩
 have nPa:∀ t∈ts,t.P≠a:=fun t ht z=>by
  have:=(hts t ht).1
  rw [z,ha] at this; cases this
 cases hk:K.lookup a with
 | some o =>
  have e:=KX a o hk
  rw [ha] at e
  cases e
  refine core (Vw ts) (fun b u z=>.inr z) (fun t ht=>⟨_,_,tabE t ht,rfl⟩) (.inr ⟨_,vs.toArray,_,hk,rfl,rfl,rfl,by rw [xX,lenV]; exact hl',by simpa using rv⟩) (fun b u z=>tabOk _ tabE b u z) fun z=>?_
  exfalso
  cases q:Vw ts a with
  | none=>exact z q
  | some u=>obtain ⟨t,h1,h2,_⟩:=tabS a u q; exact nPa t h1 h2
 | none =>
  have hH:∀ t∈ts,(fun b=>if b=a then some (HO.frz {cls:=.type "list", data:=.seq vs.toArray } (.lst (ns.map V.int))) else Vw ts b) t.P=some (.tbl #[.str t.nm 0]):=fun t ht=>by
   show (if t.P=a then _ else _)=_
   rw [if_neg (nPa t ht)]; exact tabE t ht
  refine core (fun b=>if b=a then some (.frz {cls:=.type "list", data:=.seq vs.toArray } (.lst (ns.map V.int))) else Vw ts b) (fun b u z=>?_) (fun t ht=>⟨_,_,hH t ht,rfl⟩) (.inl (.inr ⟨{cls:=.type "list", data:=.seq vs.toArray },if_pos rfl⟩)) (fun b u z=>?_) fun _=>hk
  ·by_cases hb:b=a
   ·have z':=(if_pos hb).symm.trans z
    cases z'
    exact .inl ⟨hb,_,_,rfl⟩
   ·exact .inr ((if_neg hb).symm.trans z)
  ·by_cases hb:b=a
   ·have z':=(if_pos hb).symm.trans z
    cases z'
    subst hb
    exact ⟨ha,by rw [xA]; exact hl',vs,_,rv,ha⟩
   ·exact tabOk _ hH b u ((if_neg hb).symm.trans z)
theorem walkLawT {l:PySem.W.OpenLaw}{q:Program}{loose:List Str}{XP:(Str->Option Value)->Heap->Prop}{YP:World->Heap->Prop}{d:DefRec}{K KT:Params->uFg}{ts:List Tb}(hn:l.most=some 63) (hdf:d.params.defaults = [])
  (hY:∀ (w:World) (h:Heap),YP w h->(KT w.params).In h) (hsub:∀ (p:Params) (h:Heap),(KT p).In h->(K p).In h)
  (hts:∀ (p:Params),∀ t∈ts,(KT p).lookup t.P=some {cls:=.none,data:=.fields #[] }/\PySem.W.codeHdIn (K p) t.c t.P=true/\(K p).lookup t.P=none) (hnd:(ts.map (·.P)).Nodup)
  (F:∀ (w:World) (mg:Str->Option Value) (fa:Addr) (h:Heap),(K w.params).In h->h.Ns mainGlobals mg->mg d.name=some (.ref fa) ->
   ∃ fd:FuncData,(∀ (s:Shared) (u:Value),BindsTo s fd ⟨[u],[]⟩ [("_law_script", u)])/\∀ base:Heap,(K w.params).In base->base.Ns mainGlobals mg->FnOk l.prog w (K w.params) mg base CX0 40 fa fd ["_law_script"] (Zff (K w.params) ts)) :
  PySem.W.WalkO q loose XP YP l.row.toRowW d [] (fun f vs=>PySem.call f vs):=by
 refine Att.attach_call hn hdf fun w s₀ s₁ mg mb fa o pm cd doc a vs ns G Y ho hd hcd hmg hobj hints hlen hg=>?_
 have KT':=hY w _ Y
 have KX:=hsub _ _ KT'
 obtain ⟨fd,hb,hF⟩:=F w mg fa _ KX G.T.g hmg
 exact Zx8 KX G.T.g G.T.b G.T.builtins G.T.nolimit hg hobj hints hlen ⟨rfl,by decide,by decide⟩ (fun t ht=>⟨KT' _ _ (hts w.params t ht).1,(hts w.params t ht).2⟩) hnd hF hb
end L2
namespace L2
open PySem PySem.Spec PyProof.Rows PySem.W
theorem Zwa {scope:Scope}{env:Env}(h:∀ p∈scope.names,p.2 ≠ .free):closureFor scope env=pure []:=by
 have go:∀ (l:List (Str×NameKind)) (cs:List (Str×Addr)),(∀ p∈l,p.2 ≠ .free) ->
   (forIn l cs (fun (x:Str×NameKind) (r:List (Str×Addr))=>if (x.2 == NameKind.free)=true then (do let a ← cellOf env x.1; pure (ForInStep.yield ((x.1,a)::r)):Sem (ForInStep (List (Str×Addr)))) else pure (ForInStep.yield r)):Sem _)=pure cs:=by
  intro l
  induction l with
  | nil=>intro cs _; rfl
  | cons p l ih =>
   intro cs hp
   rw [List.forIn_cons]
   have e2:(p.2 == NameKind.free)=false:=by simpa using hp p xI
   simp only [e2,zD,if_false,pure_bind]
   exact ih cs fun q hq=>hp q (xN _ hq)
 unfold closureFor
 have e':=congrArg (fun m:Sem (List (Str×Addr))=>m >>= fun r=>pure r) (go scope.names [] h)
 simp only [pure_bind] at e'
 exact e'
theorem Frag.In.left {K T:Frag}{h:Heap}(x:Frag.In (K++T:List (Addr×Obj)) h):K.In h:=fun a o e=>x a o (by
 show List.lookup a (K++T)=some o
 rw [List.lookup_append]
 have:List.lookup a K=some o:=e
 rw [this]; rfl)
end L2
namespace L2
open PySem PySem.Spec PyProof.Rows PySem.W
section
variable {X:Cx}{a:Expr}{ta:TE}
def Ybn (K:Frag) (ta:TE):TT:=fun σ H Q=>ta σ H fun x H'=>∃ k,Zk7 K x H' k/\Q k H'
theorem Zoc (ha:QE X a ta) (he:∀ whole,isTrue a X.env whole=(do let v ← whole; standAt a.pos; holding [v] (truthy v))):QT X a (Ybn X.K ta):=⟨Zys ha.h he⟩
theorem Zmv:QM X "list.extend" Zpb:=⟨Zxk⟩
end
end L2
end
section
namespace L2
open PySem PySem.Spec PyProof.Rows
section
variable {X:Cx}
end
end L2
end
section
namespace L2
open PySem PySem.Spec PyProof.Rows PySem.W
def lxI:List Int->List Int->Bool
 | [],[]=>false
 | [],_::_=>true
 | _::_,[]=>false
 | x::r,y::t=>if x=y then lxI r t else decide (x < y)
theorem Zif:∀ a:List Int,lxI a a=false
 | []=>rfl
 | x::r=>by rw [lxI,if_pos rfl]; exact Zif r
theorem Zqq:∀ a b c:List Int,lxI a b=true->lxI b c=true->lxI a c=true
 | [],[],_,h,_=>by cases h
 | [],_::_,[],_,h=>by cases h
 | [],_::_,_::_,_,_=>rfl
 | _::_,[],_,h,_=>by cases h
 | _::_,_::_,[],_,h=>by cases h
 | x::r,y::t,z::u,h1,h2=>by
  rw [lxI] at h1 h2 ⊢
  by_cases e1:x=y
  ·rw [if_pos e1] at h1
   subst e1
   by_cases e2:x=z
   ·rw [if_pos e2] at h2 ⊢; exact Zqq r t u h1 h2
   ·rw [if_neg e2] at h2 ⊢; exact h2
  ·rw [if_neg e1] at h1
   have l1:=yD h1
   by_cases e2:y=z
   ·subst e2; rw [if_neg e1]; exact h1
   ·rw [if_neg e2] at h2
    have l2:=yD h2
    rw [if_neg (by lia)]
    exact xH (by lia)
theorem Zpr:∀ a b c:List Int,lxI a b=true->lxI a c=true\/lxI c b=true
 | [],[],_,h=>by cases h
 | [],_::_,[],_=>.inr rfl
 | [],_::_,_::_,_=>.inl rfl
 | _::_,[],_,h=>by cases h
 | _::_,_::_,[],_=>.inr rfl
 | x::r,y::t,z::u,h=>by
  rw [lxI] at h
  rw [lxI,lxI]
  by_cases e1:x=z
  ·subst e1
   rw [if_pos rfl]
   by_cases e2:x=y
   ·rw [if_pos e2] at h ⊢; exact Zpr r t u h
   ·rw [if_neg e2] at h ⊢; exact .inr h
  ·rw [if_neg e1]
   by_cases l:x < z
   ·exact .inl (xH l)
   ·by_cases e2:x=y
    ·subst e2; rw [if_neg (fun q=>e1 q.symm)]; exact .inr (xH (by lia))
    ·rw [if_neg e2] at h
     have:=yD h
     rw [if_neg (by lia)]
     exact .inr (xH (by lia))
theorem Zps:∀ a b:List Int,lxI a b=HT.lexLt a b
 | [],[]=>rfl
 | [],_::_=>rfl
 | _::_,[]=>rfl
 | x::r,y::t=>by
  rw [lxI,HT.lexLt]
  by_cases e:x=y
  ·rw [if_pos e]; simp [e,Zps r t]
  ·rw [if_neg e]; simp [e]
structure Ch where
 a:Addr
 c:Int
 l:Int
 pa:Addr
 ps:List Int
def Ch.ks (x:Ch):List Int:=x.c::x.l::x.ps
def Wb (H:Hp) (x:Ch):Prop:=H x.a=some (.tup [.int x.c,.int x.l,.ref x.pa])/\H x.pa=some (.tup (x.ps.map V.int))
def ch0:Ch:=⟨0,0,0,0,[]⟩
section
variable {X:Cx}
def Zod (K:uFg):List V->Hp->VK->Prop:=fun xs H Q=>∃ (a:Addr) (cs:List Ch),xs = [.ref a]/\SqL K H a (cs.map fun p=>V.ref p.a)/\cs.length < 64/\(∀ p∈cs,Wb H p) /\
  ∀ (l:Addr) (ms:List Ch),H l=none->ms.Perm cs->ms.Pairwise (fun p q=>lxI q.ks p.ks=false)->Q (.ref l) (upd H l (.lst (ms.map fun p=>V.ref p.a)))
theorem Zoe:∀ {ps:List Ch}{its:List Value},Vals (ps.map fun p=>V.ref p.a) its->its=ps.map fun p=>Value.ref p.a
 | [],_,.nil=>rfl
 | p::ps,_,.cons r rr=>by cases r; rw [xQ,Zoe rr]
theorem Zmw:∀ ps:List Ch,Vals (ps.map fun p=>V.ref p.a) (ps.map fun p=>Value.ref p.a)
 | []=>.nil
 | p::ps=>.cons rfl (Zmw ps)
theorem Zjd {pins:List (Addr×Obj)}{σ:St}{H:Hp}{s:Shared}(I:Inv X pins σ H s) {h':Heap}(hk:∀ (b:Addr) (o:Obj),s.heap.get? b=some o->h'.get? b=some o) {x:Ch}(hx:Wb H x) :
  ∃ (t1 t2:Tok) (o:Obj) (n:Nat) (its:List Value),h'.get? x.a=some o/\o.cls = .type "tuple" /\ o.data = .seq #[.int x.c t1,.int x.l t2,.ref x.pa] n/\IsTup h' x.pa its.toArray/\IntsAre its x.ps/\(tupleKind (Y3 X.prog X.w)).is h' (x.ps.map Sum.inl) x.pa:=by
 obtain ⟨its,rv,⟨o,e1,e2,n,e3⟩,_⟩:=I.tuple (SqT.of hx.1)
 obtain ⟨its2,rv2,⟨o2,e4,e5,n2,e6⟩,_⟩:=I.tuple (SqT.of hx.2)
 cases rv with
 | cons r1 rv =>
  cases rv with
  | cons r2 rv =>
   cases rv with
   | cons r3 rv =>
    cases rv
    obtain ⟨t1,rfl⟩:=r1
    obtain ⟨t2,rfl⟩:=r2
    cases r3
    have hm:(x.ps.map Sum.inl).map kV=x.ps.map V.int:=by rw [yZ]; rfl
    obtain ⟨o',items,n',g1,g2,g3,g4⟩:=Zac (ks:=x.ps.map Sum.inl) I.hok (by rw [hm]; exact hx.2)
    exact ⟨t1,t2,o,n,its2,hk _ _ e1,e2,e3,⟨o2,hk _ _ e4,e5,n2,e6⟩,Zwj rv2,⟨o',items,n',hk _ _ g1,g2,g3,g4⟩⟩
theorem Zof {pins:List (Addr×Obj)}{σ:St}{H:Hp}{s:Shared}(I:Inv X pins σ H s) {h':Heap}(hk:∀ (b:Addr) (o:Obj),s.heap.get? b=some o->h'.get? b=some o):∀ cs:List Ch,(∀ p∈cs,Wb H p) ->
  ∃ fs,KatTups h' (cs.map fun p=>Value.ref p.a) fs/\fs.length=cs.length/\∀ v∈fs,Looks (model X.prog X.w) h' (typeOf v) (.type "int")
 | [],_=>⟨[],.nil,rfl,fun v hv=>by simp at hv⟩
 | p::cs,h=>by
  obtain ⟨fs,h1,h2,h3⟩:=Zof I hk cs fun q hq=>h q (xN _ hq)
  obtain ⟨t1,t2,o,n,its,g1,g2,g3,_⟩:=Zjd I hk (h p xI)
  refine ⟨.int p.c t1::fs,KatTups.cons g1 g2 g3 (by simp) h1,by rw [xS,xS,h2],fun v hv=>?_⟩
  rcases xW.mp hv with rfl | hv
  ·exact Looks.of_pure rfl
  ·exact h3 v hv
theorem inl_inj {a b:List Int}:(a.map (Sum.inl:Int->Key)=b.map Sum.inl)↔a=b:=by
 constructor
 ·intro h
  exact (List.map_inj_right (fun x y e=>Sum.inl.inj e)).mp h
 ·rintro rfl; rfl
theorem Zvw (hu:X.A.in1.in1.units < cLine):Wv X (.builtin "sorted") (Zod X.K):=by
 intro pins s σ H xs us Q I r h
 obtain ⟨a,cs,rfl,ha,hl,ht,q⟩:=h
 obtain ⟨u,rfl,ru⟩:=V3 r
 cases ru
 obtain ⟨its,rv,p,_⟩:=I.list ha
 have ei:=Zoe rv
 subst ei
 have W:Weak fun i j=>lxI (cs.getD i ch0).ks (cs.getD j ch0).ks:=⟨fun i=>Zif _,fun i j k=>Zqq _ _ _,fun i j k=>Zpr _ _ _⟩
 have hlen:(cs.map fun p=>Value.ref p.a).length=cs.length:=xA ..
 refine Zmj (r:=rk (fun i j=>lxI (cs.getD i ch0).ks (cs.getD j ch0).ks) cs.length) p.isList (by rw [hlen]; exact hl) (fun h0 hk0 l2 h' hk Q' hQ=>?_) fun pa hp hu=>?_
 ·have hold:∀ (b:Addr) (o:Obj),s.heap.get? b=some o->h'.get? b=some o:=fun b o e=>hk _ _ (yJ (Nat.lt_succ_of_lt (xU e))) (hk0 _ _ e)
  obtain ⟨fs,f1,f2,f3⟩:=Zof (h':=h') I hold cs ht
  refine kat_kind (s:={s with heap:=h' }) f1 (by lia) f3 rfl (hQ _ fun i j C hi hj hC=>?_)
  rw [show (Value.type "int" != Value.type "tuple")=true from rfl]
  rw [hlen] at hi hj
  have get:∀ {i},i < cs.length->Wb H (cs.getD i ch0)/\(cs.map fun p=>Value.ref p.a).getD i Value.none = .ref (cs.getD i ch0).a:=fun {i} hi=>by
   have e:cs[i]? = some cs[i]:=xB hi
   have m:=List.getElem_mem hi
   constructor
   ·rw [xD,e]; exact ht _ m
   ·rw [xD,xD,xR,e]; rfl
  obtain ⟨cx,gx⟩:=get hi
  obtain ⟨cy,gy⟩:=get hj
  rw [Zdg W hi] at hC
  generalize cs.getD i ch0=x at cx gx hC
  generalize cs.getD j ch0=y at cy gy hC
  obtain ⟨t1,t2,ox,nx,ix,x1,x2,x3,x4,x5,x6⟩:=Zjd I hold cx
  obtain ⟨u1,u2,oy,ny,iy,y1,y2,y3,y4,y5,y6⟩:=Zjd I hold cy
  show wpAny (model X.prog X.w) X.A.in1.in1 (keyLt' (tuples' true) _ _) C (fun _ _=>False) {s with heap:=h' }
  rw [gx,gy]
  refine kat_lt x1 x3 y1 y3 ?_
  show KatLex _ _ _ _ _ _ [(.int x.c t1,.int y.c u1),(.int x.l t2,.int y.l u2),(.ref x.pa,.ref y.pa)] 0 _
  unfold Ch.ks at hC
  rw [lxI,lxI] at hC
  refine kat_cons (wpAny_eqBool_int ?_)
  by_cases e:x.c=y.c
  ·rw [if_pos e] at hC
   rw [beq_iff_eq.mpr e]
   refine kat_yes (kat_cons (wpAny_eqBool_int ?_))
   by_cases e2:x.l=y.l
   ·rw [if_pos e2] at hC
    rw [beq_iff_eq.mpr e2]
    refine kat_yes (kat_cons (wpAny_eqBool_tuple hu x6 y6 ?_))
    by_cases e3:x.ps=y.ps
    ·rw [xH (inl_inj.mpr e3)]
     refine kat_yes (kat_nil ?_)
     rw [e3,Zif] at hC
     exact hC
    ·rw [xK (fun z=>e3 (inl_inj.mp z))]
     refine kat_no ?_
     show wpAny _ _ (oneLt' false _ _) _ _ _
     rw [Zps] at hC
     exact kat_one _ _ (HT.lt_tupInts x4 y4 (by simpa using x5) (by simpa using y5) hu hC)
   ·rw [if_neg e2] at hC
    rw [beq_eq_false_iff_ne.mpr e2]
    exact kat_no (Zjb hC)
  ·rw [if_neg e] at hC
   rw [beq_eq_false_iff_ne.mpr e]
   exact kat_no (Zjb hC)
 ·rw [hlen] at hp hu
  obtain ⟨b1,b2⟩:=Zhh (d:=ch0) (lt:=fun a b:Ch=>lxI a.ks b.ks) hp W hu
  obtain ⟨e,he⟩:=sortedAll_at s.heap (cs.map fun p=>Value.ref p.a) (List.toArray (pa.toList.map fun i=>(cs.map fun p=>Value.ref p.a).getD i Value.none))
  have eo:(pa.toList.map fun i=>(cs.map fun p=>Value.ref p.a).getD i Value.none)=(pa.toList.map fun i=>cs.getD i ch0).map fun p=>Value.ref p.a:=by
   rw [yZ]
   refine zF fun i hi=>?_
   have li:i < cs.length:=yE.mp (hp.mem_iff.mp hi)
   show _=Value.ref (cs.getD i ch0).a
   rw [xD,xD,xR,xB li]
   rfl
  rw [eo] at he ⊢
  generalize (pa.toList.map fun i=>cs.getD i ch0)=ms at b1 b2 he ⊢
  have hz:ms.length=cs.length:=b1.length_eq
  refine ⟨.ref (s.heap.objs.size+1),_,I.laid (t':=s.toks) (o:=.lst (ms.map fun p=>V.ref p.a)) (fun b o=>sortedAll_old) (Nat.le_succ _) ?_,rfl,q _ ms (I.hok.fresh (Nat.le_succ _)) b1 b2⟩
  exact ⟨by rw [xA,hz]; exact yA (yY hl) (show 64<=sizeLine by decide),ms.map fun p=>Value.ref p.a,e,Zmw ms,by simpa using he⟩
def Zr9 (K:uFg):R2:=fun x y H Q=>∃ a b xs ys,x = .ref a/\y = .ref b/\SqT K H a xs/\SqT K H b ys/\xs.length+ys.length<=sizeLine /\
 (xs = []->Q (.ref b) H)/\(xs ≠ []->ys = []->Q (.ref a) H)/\(xs ≠ []->ys ≠ []->∀ p,H p=none->Q (.ref p) (upd H p (.tup (xs++ys))))
theorem Z1t:OpR X (binaryOp .Add) (Zr9 X.K):=by
 intro pins s σ H x y v u Q I rx ry h
 obtain ⟨a,b,xs,ys,rfl,rfl,ha,hb,hz,q0,q1,q2⟩:=h
 cases rx
 cases ry
 obtain ⟨its,r1,p1,_⟩:=I.tuple ha
 obtain ⟨its2,r2,p2,_⟩:=I.tuple hb
 by_cases hx:xs = []
 ·obtain ⟨⟨cls,dd,data,sl⟩,ho,hc,n,hd⟩:=id p1
  obtain ⟨⟨cls2,dd2,data2,sl2⟩,ho2,hc2,n2,hd2⟩:=id p2
  simp only at hc hd hc2 hd2
  subst hc hd hc2 hd2
  have hv:its = []:=r1.nil_iff.mpr hx
  exact concat_meets ⟨_,ho,rfl⟩ ⟨_,ho2,rfl⟩ noFill_tuple_add seq_tuple_add PySem.F.slot_tuple_add PySem.F.entry_tuple_add (PySem.F.args_tuple_add_2 _ _)
   (tuple_addW0 a b its.toArray its2.toArray n n2 dd dd2 sl sl2 (by simp [hv])) ⟨ho,ho2,⟨.ref b,H,I,rfl,q0 hx⟩⟩
 ·refine HT.cat_tup p1 p2 (fun z=>hx (r1.nil_iff.mp z)) (fun z=>⟨.ref a,H,I,rfl,q1 hx (r2.nil_iff.mp z)⟩) (fun z=>?_) (by rw [← r1.length,← r2.length]; exact hz)
  refine ⟨.ref s.heap.objs.size,_,I.laid (t':=s.toks) (o:=.tup (xs++ys)) (fun b ob q=>xG _ q) (xE _) ?_,rfl,q2 hx (fun w=>z (r2.nil_iff.mpr w)) _ (I.hok.fresh (xE _))⟩
  exact ⟨by rw [xL]; exact hz,_,r1.append r2,IsTup.new _ _⟩
theorem Zvk {k:Nat}(hr:Room k X.A):QC X (.builtin "sorted") (Zod X.K):=⟨Zvw (by have:=hr.un; show X.A.units+1+1 < _; lia)⟩
section
variable {scope:Scope}{cl:List (Str×Addr)}{C:Addr}{N':List Str}{s0:Shared}{H0:Hp}{ex:List Addr}{pn:List (Addr×Obj)}
theorem Zx9:QOp (ccx X scope cl C N' s0 H0 ex pn) (binaryOp .Add) (Zr9 X.K):=⟨Z1t (X:=ccx X scope cl C N' s0 H0 ex pn)⟩
end
end
end L2
end
section
namespace PySem.F
end PySem.F
namespace L2
open PySem PySem.Spec PyProof.Rows PySem.W
section
variable {prog:Program}{w:World}{A:Around}{E:Value->Shared->Prop}{s:Shared}
end
section
variable {X:Cx}{tg:Expr}
end
section
variable {prog:Program}{w:World}{A:Around}{E:Value->Shared->Prop}{s:Shared}
end
section
variable {X:Cx}
end
end L2
end
section
namespace L2
open PySem PySem.Spec PyProof.Rows PySem.W
theorem Zzs:bootBuiltins "reversed" = some (.type "reversed"):=by decide +kernel
def Itv (K:uFg) (a:Addr) (n:Nat):It :=
 ⟨fun i H=>∃ xs,SqL K H a xs/\xs.length=n/\i < n,fun i H x H'=>H'=H/\∀ xs,SqL K H a xs->xs[n - 1 - i]? = some x,fun i H=>i=n⟩
theorem Zzt {P:Program}{w:World}{K:uFg}{tg:Expr}(a it:Addr) (n:Nat):Turn P w K tg (Itv K a n) [it] it (fun i h=>h.IsRevIter it a ((n:Int) - 1 - (i:Int))) where
 mem:=by simp
 obj:=fun i h st b hb=>by
  have e:b=it:=by simpa using hb
  subst e
  obtain ⟨o,e,c,d⟩:=st
  exact ⟨o,e,fun v z=>by rw [d] at z; cases z⟩
 keep:=fun i h h' st k=>st.at fun o e=>k it (by simp) o e
 item:=by
  intro X hP hw hK hc i pins s σ H E I hf st hg
  subst hP hw hK
  obtain ⟨xs,hq,hn,hi⟩:=hg
  obtain ⟨its,rv,p,hz⟩:=I.list hq
  obtain ⟨x,hx⟩:∃ x,xs[n - 1 - i]? = some x:=⟨_,xB (by lia)⟩
  obtain ⟨u,hu,ru⟩:=rv.get hx
  obtain ⟨f0,f1,f2,f3,f4,f5⟩:=hf it (by simp)
  have e1:(n:Int) - 1 - (i:Int)=((n - 1 - i:Nat):Int):=by lia
  have st1:=st
  rw [e1] at st1
  refine wpAny_pyNext_rev_item st1 p.isList (x:=u) (by simpa using hu) fun h' st' sb=>?_
  have I1:Inv X pins σ H {s with heap:=h' }:=I.turned (t':=s.toks) (fun b o hb e=>(sb.2 b hb).trans e) f0 f1 f3 f4 f5
  have e2:((n - 1 - i:Nat):Int) - 1=(n:Int) - 1 - ((i+1:Nat):Int):=by lia
  rw [e2] at st'
  obtain ⟨o,e,c,d⟩:=id st'
  exact ⟨u,rfl,Zfk (s:={s with heap:=h' }) e c d (by decide) ⟨x,H,I1,ru,⟨rfl,fun ys hy=>by rw [I.list_inj hy hq]; exact hx⟩,st',fun b hb=>(hf b hb).1⟩⟩
 done:=by
  intro X hP hw hK hc i pins s σ H E I hf st hg
  subst hP hw hK
  obtain rfl:i=n:=hg
  obtain ⟨f0,f1,f2,f3,f4,f5⟩:=hf it (by simp)
  have e1:(i:Int) - 1 - (i:Int) = -1:=by lia
  rw [e1] at st
  exact wpAny_pyNext_rev_end (I.ok.hd hc) st fun h' eb=>⟨rfl,I.turned (t':=s.toks) (fun b o hb e=>eb b o hb e) f0 f1 f3 f4 f5⟩
 self:=fun _ _ _ _ _ st h=>wpAny_pyIter_revIter st h
section
variable {X:Cx}{tg:Expr}
def Zuz (K:uFg) (tl:TE):TI:=fun σ H R=>tl σ H fun x H1=>∃ a xs,x = .ref a/\SqL K H1 a xs/\R (Itv K a xs.length) H1
theorem Z3k {l:Expr}{tl:TE}{q pos':Pos}(hgr:Gl X "reversed") (hmr:X.mg "reversed" = none) (hl:PE X l tl) (hs2:starEach [l] X.env = [(false,eval l X.env)]:=by rfl):PI X tg (.Call (.Name "reversed" q) [l] [] pos') (Zuz X.K tl):=by
 intro pins s σ H R I h
 refine Call_ (Vs I hgr hmr Zzs (PyProof.Rows.callWith_type1 ?_ hs2 rfl))
 rw [hs2]
 refine Calls.spliced_cons ?_
 refine thn (hl pins s σ H _ I h) fun v s1 ⟨x,H1,I1,r1,a,xs,e,hq,q⟩=>?_
 subst e
 cases r1
 obtain ⟨its,rv,p,hz⟩:=I1.list hq
 refine Calls.spliced_nil ?_
 refine call_reversed_list p.isList ?_
 have st:(s1.heap.push (revObj a ((its.toArray.size:Int) - 1))).IsRevIter s1.heap.objs.size a ((xs.length:Int) - 1 - ((0:Nat):Int)):=by
  have e:(xs.length:Int) - 1 - ((0:Nat):Int)=(its.toArray.size:Int) - 1:=by rw [rv.length,xX]; lia
  rw [e]
  exact ⟨_,yC _ rfl,rfl,rfl⟩
 refine wpAny_pyIter_revIter (s:={s1 with heap:=s1.heap.push (revObj a ((its.toArray.size:Int) - 1)) }) st ?_
 refine ⟨s1.heap.objs.size,[s1.heap.objs.size],_,_,H1,rfl,I1.kept (t':=s1.toks) fun b o e=>xG _ e,Zzt a _ xs.length,st,fun b hb=>?_,q⟩
 have e:b=s1.heap.objs.size:=by simpa using hb
 subst e
 exact I1.fpOk (xE _) (I1.hok.fresh (xE _))
theorem Z3l {l:Expr}{tl:TE}{q pos':Pos}(hgr:Gl X "reversed") (hmr:X.mg "reversed" = none) (hl:QE X l tl) (hs2:starEach [l] X.env = [(false,eval l X.env)]:=by rfl):QI X tg (.Call (.Name "reversed" q) [l] [] pos') (Zuz X.K tl):=⟨Z3k hgr hmr hl.h hs2⟩
end
theorem Zzu {K:uFg}{l:Addr}{g:TG}{tb:TS}{D:Ends}{σ:St}{H:Hp}(xs:List V) {n:Nat}(hn:n=xs.length) (Pv:Nat->St->Hp->Prop) (h0:Pv 0 σ H) (hl:∀ i σ H,i<=xs.length->Pv i σ H->SqL K H l xs)
  (hs:∀ i x σ H,i < xs.length->xs[xs.length - 1 - i]? = some x->Pv i σ H->g x σ H fun σ2 H2=>tb {D with nx:=Pv (i+1),ct:=Pv (i+1),bk:=D.nx } σ2 H2) (hd:∀ σ H,Pv xs.length σ H->D.nx σ H):Zae (Itv K l n) g tb D σ H:=by
 subst hn
 refine ⟨fun i m σ H=>m=xs.length - i/\i<=xs.length/\Pv i σ H,⟨xs.length,by simp,yT _,h0⟩,?_⟩
 rintro i m σ H ⟨rfl,hi,p⟩
 have q1:=hl i σ H hi p
 by_cases hlt:i < xs.length
 ·refine .inr ⟨⟨xs,q1,rfl,hlt⟩,Pv (i+1),fun σ' H' p'=>⟨xs.length - (i+1),by lia,rfl,hlt,p'⟩,fun v H' y=>?_⟩
  obtain ⟨rfl,hv⟩:=y
  exact hs i v σ H' hlt (hv xs q1) p
 ·have e:i=xs.length:=by lia
  subst e
  exact .inl ⟨rfl,hd σ H p⟩
section
variable {X:Cx}
def Zcl:V->Bool
 | .non=>true
 | _=>false
def Zlb:Value->Bool
 | .none=>true
 | _=>false
theorem Z1u {xs:List V}{its:List Value}(r:Vals xs its) (h:∀ v∈xs,v = .non\/∃ l,v = .ref l):its.any Zlb=xs.any Zcl:=by
 induction r with
 | nil=>rfl
 | @cons x u xs us r1 rr ih =>
  rw [List.any_cons,List.any_cons,ih fun v hv=>h v (xN _ hv)]
  congr 1
  rcases h x xI with rfl | ⟨l,rfl⟩
  ·cases r1; rfl
  ·cases r1; rfl
def Zpt (K:uFg):R2:=fun x y H Q=>x = .non/\∃ p xs,y = .ref p/\SqL K H p xs/\(∀ v∈xs,v = .non\/∃ l ys,v = .ref l/\H l=some (.lst ys))/\Q (.bl (!xs.any Zcl)) H
theorem Zya (hu:X.A.in1.units < cLine):OpR X (compareOp .NotIn) (Zpt X.K):=by
 intro pins s σ H x y v u Q I rx ry ⟨ex,p,xs,ey,hq,hv,q⟩
 subst ex ey
 cases rx
 obtain rfl:u=Value.ref p:=ry
 obtain ⟨its,r,pl,hz⟩:=I.list hq
 have hi:∀ w∈its,w=Value.none\/∃ l items,w = .ref l/\s.heap.IsList l items:=by
  have go:∀ {xs:List V}{its:List Value},Vals xs its->(∀ v∈xs,v = .non\/∃ l ys,v = .ref l/\H l=some (.lst ys))->∀ w∈its,w=Value.none\/∃ l items,w = .ref l/\s.heap.IsList l items:=by
   intro xs its r
   induction r with
   | nil=>intro _ w hw; cases hw
   | @cons x u xs us r1 rr ih =>
    intro h w hw
    rcases xW.mp hw with rfl | hw
    ·rcases h x xI with rfl | ⟨l,ys,rfl,hl⟩
     ·cases r1; exact .inl rfl
     ·cases r1
      obtain ⟨its2,_,pl2,_⟩:=I.list (SqL.of hl)
      exact .inr ⟨l,its2.toArray,rfl,pl2.isList⟩
    ·exact ih (fun v hv=>h v (xN _ hv)) w hw
  exact go r hv
 refine SeqAt.notIn_listAt Zlb pl.isList (fun w hw=>?_) ⟨.bl _,H,I,rfl,?_⟩
 ·rcases hi w (by simpa using hw) with rfl | ⟨l,items,rfl,hl⟩
  ·exact SeqAt.EqAt.same _
  ·exact SeqAt.EqAt.list_none hl hu
 ·have e:=Z1u r fun v hv'=>(hv v hv').elim .inl fun ⟨l,_,e,_⟩=>.inr ⟨l,e⟩
  have e2:its.toArray.any Zlb=xs.any Zcl:=by rw [← e]; simp
  rw [e2]
  exact q
theorem Zwy {k:Nat}(hr:Room k X.A):QOp X (compareOp .NotIn) (Zpt X.K):=⟨Zya (by have:=hr.un; show X.A.units+1 < _; lia)⟩
end
end L2
end
section
namespace L2
open PySem PySem.Spec PyProof.Rows PySem.W
section
variable {X:Cx}{tg:Expr}
end
end L2
end
section
namespace L2
open PySem PySem.Spec PyProof.Rows
def XAt (h0:Heap) (H:Hp) (h:Heap) (a C:Addr):Prop:=H a=none/\h0.get? a=none/\∃ oe vs a0,h.get? a=some oe/\oe.cls = .ref C/\oe.data = .fields vs/\vs[0]? = some a0 /\
 (vs[1]? = some .none\/∃ T oT ts,vs[1]? = some (.ref T)/\T≠a/\h.get? T=some oT/\oT.data = .fields ts/\ts[3]? = some .none/\H T=none/\h0.get? T=none)
def CXE (P:Program) (w:World):CXT:=fun outer H s E e s'=>∃ a C H',e = .ref a/\s'.os=s.os/\AllBare s'.gens/\Un (frs outer) [] H H' s.heap s'.heap/\HOk P w H' s'.heap/\XAt s.heap H' s'.heap a C/\E (.ref C) none H'
structure Xp (X:Cx) (E:St->XK):Prop where
 h:∀ pins σ H s a C,Inv X pins σ H s->XAt X.s₀.heap H s.heap a C->E σ (.ref C) none H->X.xe (.ref a) s
theorem ObjOk.ex {P:Program}{w:World}{H:Hp}{h:Heap}{a:Addr}{o:HO}(x:ObjOk P w H h a o):∃ u,h.get? a=some u:=by
 cases o with
 | lst xs=>obtain ⟨_,_,_,_,e⟩:=x; exact ⟨_,e⟩
 | tup xs=>obtain ⟨_,_,_,_,e,_⟩:=x; exact ⟨_,e⟩
 | dK kvs=>obtain ⟨_,_,_,_,o,_,_,e,_⟩:=x; exact ⟨_,e⟩
 | dT kvs=>obtain ⟨_,_,_,_,o,_,_,e,_⟩:=x; exact ⟨_,e⟩
 | set S n=>obtain ⟨o,_,_,_,e,_⟩:=x; exact ⟨_,e⟩
 | ins C dx fs=>obtain ⟨_,_,_,e,_⟩:=x; exact ⟨_,e⟩
 | own y=>exact x
 | xd fs=>obtain ⟨_,⟨_,_,_,e,_⟩,_⟩:=x; exact ⟨_,e⟩
 | rng lo hi=>obtain ⟨_,_,_,e⟩:=x; exact ⟨_,e⟩
 | frz ob u=>obtain ⟨e,_⟩:=x; exact ⟨_,e⟩
 | tbl ps=>obtain ⟨_,_,_,e,_⟩:=x; exact ⟨_,e⟩
 | met f y=>exact ⟨_,x⟩
 | ext φ=>obtain ⟨_,e,_⟩:=x; exact e
section
variable {X:Cx}{σ:List (Option V)}{H H':Hp}{s:Shared}{h':Heap}
theorem Inv.stepN {g':Array GenState}{t':Nat}{d':Drawn}{ch:List Addr}(I:Inv X [] σ H s) (hpn:X.pn = [])
  (hch:∀ b∈ch,X.s₀.heap.get? b=none/\b≠X.env.locals/\∀ x c,X.env.cells.lookup x=some c->c≠b)
  (keep:∀ b o,b≠X.env.locals->b∉X.fs->b∉ch->s.heap.get? b=some o->H b=none->h'.get? b=some o)
  (slot:∀ b o,b≠X.env.locals->b∈X.fs->b∉ch->s.heap.get? b=some o->H b=none->∃ sl,h'.get? b=some {o with slots:=sl })
  (there:∀ b o,b∉ch->s.heap.get? b=some o->∃ o',h'.get? b=some o')
  (ns:∀ m,s.heap.Ns X.env.locals m->h'.Ns X.env.locals m) (hok:HOk X.prog X.w H h') (hg:AllBare g') :
  Inv X [] σ H {s with heap:=h',gens:=g',drawn:=d',toks:=t' }:=by
 have neL:∀ b o,X.s₀.heap.get? b=some o->b≠X.env.locals:=fun b o e=>yJ (yG (xU e) I.ok.above)
 have neC:∀ b o,X.s₀.heap.get? b=some o->b∉ch:=fun b o e hb=>by
  have:=(hch b hb).1
  rw [e] at this; cases this
 have cellK:∀ x c,X.env.cells.lookup x=some c->∀ v,s.heap.IsCell c v->h'.IsCell c v:=fun x c e v ⟨o,ho,hd⟩=>by
  have nch:c∉ch:=fun z=>(hch c z).2.2 x c e rfl
  by_cases hc:c∈X.fs
  ·obtain ⟨sl,q⟩:=slot c o (I.cne x c e) hc nch ho (I.freeC x c e)
   exact ⟨_,q,hd⟩
  ·exact ⟨o,keep c o (I.cne x c e) hc nch ho (I.freeC x c e),hd⟩
 refine ⟨I.ok,I.os,hg,⟨fun b o e n hb hx=>?_,fun b o e n hb hx=>?_,fun b o e n hx=>I.base.free b o e n hx,fun b o e hx=>?_,I.base.tups,I.base.frzs,I.base.tbls⟩,?_,fun x c e=>?_,I.free,I.freeC,fun p hp=>?_,hok,I.len⟩
 ·exact keep b o (neL b o e) hb (neC b o e) (I.base.keep b o e n hb hx) (I.base.free b o e n hx)
 ·obtain ⟨sl,e1⟩:=I.base.slot b o e n hb hx
  obtain ⟨sl',e2⟩:=slot b _ (neL b o e) hb (neC b o e) e1 (I.base.free b o e n hx)
  exact ⟨sl',e2⟩
 ·obtain ⟨o',e1⟩:=I.base.there b o e hx
  exact there b o' (neC b o e) e1
 ·obtain ⟨m,hn,hl⟩:=I.loc
  refine ⟨m,ns m hn,fun i x v e1 e2 e3=>?_⟩
  obtain ⟨u,r,l⟩:=hl i x v e1 e2 e3
  refine ⟨u,r,?_⟩
  rcases l with l | ⟨k,c,e,z⟩
  ·exact .inl l
  ·exact .inr ⟨k,c,e,cellK x c e _ z⟩
 ·obtain ⟨v,z⟩:=I.cell x c e
  exact ⟨v,cellK x c e v z⟩
 ·rw [hpn] at hp; cases hp
theorem Inv.noted {hs:List Addr}(I:Inv X [] σ H s) (hpn:X.pn = []) (hh:∀ b∈hs,X.s₀.heap.get? b=none/\H b=none/\∃ o vs,s.heap.get? b=some o/\o.data = .fields vs)
  (st:(PySem.W.hideAll s.heap (hs++frs X.stack)).StaysIn h') (up:∀ b o,s.heap.get? b=some o->(∀ vs,o.data ≠ .fields vs)->∃ sl,h'.get? b=some {o with slots:=sl }):Inv X [] σ H {s with heap:=h' }:=by
 obtain ⟨m,⟨oL,esL,epL,hoL,hdL,rL⟩,_⟩:=id I.loc
 have kp:∀ b o,b∉hs->b∉frs X.stack->s.heap.get? b=some o->h'.get? b=some o:=fun b o n1 n2 e=>st b o (PySem.W.hideAll_get _ e fun hm=>(xO.mp hm).elim n1 n2)
 have fr:∀ b,b∈frs X.stack->∃ o,s.heap.get? b=some o/\∀ vs,o.data ≠ .fields vs:=fun b hb=>(I.stack.mem hb).2
 refine I.stepN (g':=s.gens) (d':=s.drawn) (t':=s.toks) (ch:=hs) hpn (fun b hb=>?_) (fun b o hL hf hc e _=>kp b o hc (fun z=>(xW.mp (I.stkSub b z)).elim hL hf) e) (fun b o hL hf _ e _=>?_) (fun b o hc e=>?_) (fun m' hm=>?_) (fun b u e=>?_) I.bare
 ·obtain ⟨h1,h2,o,vs,e,d⟩:=hh b hb
  refine ⟨h1,fun z=>?_,fun x c ec z=>?_⟩
  ·rw [z,hoL] at e; cases e; rw [hdL] at d; cases d
  ·obtain ⟨v,oc,ho,hd⟩:=I.cell x c ec
   rw [z,e] at ho; cases ho; rw [d] at hd; cases hd
 ·obtain ⟨o',e',d⟩:=(I.funs.mem (show b∈X.outer.filterMap (·.frame) from hf)).2
  rw [e] at e'; cases e'
  exact up b o e d
 ·by_cases hb:b∈frs X.stack
  ·obtain ⟨o',e',d⟩:=fr b hb
   rw [e] at e'; cases e'
   obtain ⟨sl,q⟩:=up b o e d
   exact ⟨_,q⟩
  ·exact ⟨o,kp b o hc hb e⟩
 ·obtain ⟨o,es,ep,ho,d,r⟩:=hm
  obtain ⟨sl,q⟩:=up _ o ho fun vs z=>by rw [d] at z; cases z
  exact ⟨_,es,ep,q,d,r⟩
 ·have nh:∀ c v,H c=some v->c∉hs/\c∉frs X.stack:=fun c v ec=>⟨(fun z=>by rw [(hh c z).2.1] at ec; cases ec),(fun z=>by rw [I.stkFree c z] at ec; cases ec)⟩
  refine (I.hok b u e).stay (fun c v hc q=>?_) (fun _ q=>q) fun _ _ q=>q
  rcases hc with rfl | hc
  ·exact kp c v (nh c _ e).1 (nh c _ e).2 q
  ·exact kp c v (nh c _ hc).1 (nh c _ hc).2 q
end
section
variable {X:Cx}{σ:List (Option V)}{H:Hp}{s:Shared}{a C:Addr}{M:Model}{E:Value->Shared->Prop}{Q:Unit->Shared->Prop}
theorem Znl (I:Inv X [] σ H s) (hpn:X.pn = []) (hex:X.ex = []) (stk:X.stack=X.env::X.outer) (hf:X.env.frame=some X.env.locals) (x:XAt X.s₀.heap H s.heap a C)
  (k:∀ h',Inv X [] σ H {s with heap:=h' }->XAt X.s₀.heap H h' a C->Q () {s with heap:=h' }) :
  wpAny M X.A (noteFrame (.ref a) X.env) (fun _ s₂=>wpAny M X.A (setFlight (.ref a) none) Q E s₂) E s:=by
 obtain ⟨ha,h0a,oe,vs,a0,he,hc,hd,v0,tr⟩:=x
 have fin:∀ (hs:List Addr),a∈hs->(∀ b∈hs,X.s₀.heap.get? b=none/\H b=none/\∃ o vs,s.heap.get? b=some o/\o.data = .fields vs) ->
   ∀ h1,Heap.NotedW (PySem.W.hideAll s.heap (hs++frs X.stack)) (X.env::X.outer) a (.ref C) a0 (rawInt X.env.locals) s.heap h1->wpAny M X.A (setFlight (.ref a) none) Q E {s with heap:=h1 }:=by
  intro hs has hh h1 N
  refine wpAny_setFlight_noneW (s:={s with heap:=h1 }) N.1 N.2.1 N.2.2.1 fun h2 k1 k2 k3 k4=>?_
  refine k h2 (I.noted hpn hh k1 fun b o e hn=>?_) ?_
  ·obtain ⟨sl,e1⟩:=N.2.2.2 b o e hn
   exact ⟨sl,k4 b _ e1 hn⟩
  ·obtain ⟨oe',vs',T,oT,ts,he',⟨hc',v0'⟩,hd',h1',hnT,hTe,hT,hdT,h3⟩:=k3
   have no:∀ o,s.heap.get? T=some o->T∉hs->T∉frs X.stack->False:=fun o e n1 n2=>by
    have:=PySem.W.hideAll_get (hs++frs X.stack) e fun hm=>(xO.mp hm).elim n1 n2
    rw [this] at hnT; cases hnT
   have nfr:T∉frs X.stack:=fun z=>by
    rw [stk] at z
    obtain ⟨_,o,e,d⟩:=k2.mem (show T∈(X.env::X.outer).filterMap (·.frame) from z)
    rw [hT] at e; cases e; exact d ts hdT
   refine ⟨ha,h0a,oe',vs',a0,he',hc',hd',v0',.inr ⟨T,oT,ts,h1',hTe,hT,hdT,h3,?_,?_⟩⟩
   ·cases q:H T with
    | none=>rfl
    | some u =>
     obtain ⟨o,e⟩:=(I.hok T u q).ex
     exact (no o e (fun z=>by rw [(hh T z).2.1] at q; cases q) nfr).elim
   ·cases q:X.s₀.heap.get? T with
    | none=>rfl
    | some o =>
     obtain ⟨o',e⟩:=I.base.there T o q (by rw [hex]; simp)
     exact (no o' e (fun z=>by rw [(hh T z).1] at q; cases q) nfr).elim
 have hfr:X.A.frames=some (X.env::X.outer):=by rw [← stk]; exact I.ok.frames
 have hl:∀ hs:List Addr,s.heap.FunFrames (PySem.W.hideAll s.heap (hs++frs X.stack)) (X.env::X.outer):=fun hs=>by
  rw [← stk]
  exact PySem.W.funFrames_hide I.stack fun env he b hb=>xM _ (List.mem_filterMap.mpr ⟨env,he,hb⟩)
 have hkb:∀ hs:List Addr,(PySem.W.hideAll s.heap (hs++frs X.stack)).StaysIn s.heap:=fun hs b o q=>PySem.W.of_hideAll _ q
 rcases tr with v1 | ⟨T,oT,ts,v1,hTe,hT,hdT,h3,hHT,h0T⟩
 ·have hh:∀ b ∈ [a],X.s₀.heap.get? b=none/\H b=none/\∃ o vs,s.heap.get? b=some o/\o.data = .fields vs:=fun b hb=>by
   rw [xF] at hb; subst hb; exact ⟨h0a,ha,oe,vs,he,hd⟩
  unfold noteFrame
  simp only [hf]
  refine wpAny_bind (wpAny_field he hd v1 ?_)
  rw [if_neg (by decide)]
  refine wpAny_entryW (base:=PySem.W.hideAll s.heap ([a]++frs X.stack)) hfr (hl _) hf he (hkb _) (PySem.W.hideAll_none _ (by simp)) hd (Array.getElem?_eq_some_iff.mp v1).1 v0 fun h1 N=>?_
  rw [hc] at N
  exact fin [a] (by simp) hh h1 N
 ·have hh:∀ b ∈ [a,T],X.s₀.heap.get? b=none/\H b=none/\∃ o vs,s.heap.get? b=some o/\o.data = .fields vs:=fun b hb=>by
   rcases xW.mp hb with rfl | hb
   ·exact ⟨h0a,ha,oe,vs,he,hd⟩
   ·rw [xF] at hb; subst hb; exact ⟨h0T,hHT,oT,ts,hT,hdT⟩
  refine wpAny_noteFrame_onW (base:=PySem.W.hideAll s.heap ([a,T]++frs X.stack)) (cls:=.ref C) (a0:=a0) hfr (hl _) hf ⟨oe,vs,T,oT,ts,he,⟨hc,v0⟩,hd,v1,PySem.W.hideAll_none _ (by simp),hTe,hT,hdT,h3⟩ (hkb _) (PySem.W.hideAll_none _ (by simp)) fun h1 N=>?_
  exact fin [a,T] (by simp) hh h1 N
end
end L2
namespace L2
open PySem PySem.Spec PyProof.Rows
theorem XAt.mono {h0 h1 h:Heap}{H:Hp}{a C:Addr}(x:XAt h0 H h a C) (k:∀ b,h0.get? b=none->h1.get? b=none):XAt h1 H h a C:=by
 obtain ⟨ha,h0a,oe,vs,a0,he,hc,hd,v0,tr⟩:=x
 refine ⟨ha,k a h0a,oe,vs,a0,he,hc,hd,v0,?_⟩
 rcases tr with v1 | ⟨T,oT,ts,v1,hTe,hT,hdT,h3,hHT,h0T⟩
 ·exact .inl v1
 ·exact .inr ⟨T,oT,ts,v1,hTe,hT,hdT,h3,hHT,k T h0T⟩
theorem Zix {P:Program}{w:World}{K:uFg}{mg:Str->Option Value}{base:Heap}{N:List Str}{qual:Str}{scope:Scope}{f:Addr}{cd:Value}{A:Around}{outer:List Env}{s:Shared}{H:Hp}{E:XK} :
  Xp (Ye (CXE P w) P w K mg base N qual scope f cd A outer s H E) fun _=>E:=⟨fun pins σ H1 s1 a C I x hE=>by
 have I':=I.pins_of (pins':=[]) (fun p hp=>nomatch hp)
 show wpAny _ _ (noteFrame _ _ >>= fun _=>setFlight _ none) _ _ _
 refine wpAny_bind (Znl (X:=Ye (CXE P w) P w K mg base N qual scope f cd A outer s H E) I' rfl rfl rfl rfl x fun h' J y=>?_)
 exact ⟨a,C,H1,rfl,J.os,J.bare,J.base,J.hok,y,hE⟩⟩
section
variable {X:Cx}{E:St->XK}
theorem Inv.newer {pins:List (Addr×Obj)}{σ:St}{H:Hp}{s:Shared}(I:Inv X pins σ H s) (hex:X.ex = []):∀ b,s.heap.get? b=none->X.s₀.heap.get? b=none:=fun b e=>by
 cases q:X.s₀.heap.get? b with
 | none=>rfl
 | some o =>
  obtain ⟨o',e'⟩:=I.base.there b o q (by rw [hex]; simp)
  rw [e] at e'; cases e'
structure Xq (X:Cx) (E:St->XK):Prop where
 h:(∀ σ c d H,¬ E σ c d H)\/(X.ex = []/\Xp X E)
theorem Xq.pass {pins:List (Addr×Obj)}{σ:St}{H:Hp}{s s':Shared}{e:Value}(hx:Xq X E) (I:Inv X pins σ H s) (h:CXE X.prog X.w X.stack H s (E σ) e s'):X.xe e s':=by
 obtain ⟨a,C,H',rfl,os,bare,un,hok,x,hE⟩:=h
 rcases hx.h with z | ⟨hex,hx⟩
 ·exact (z _ _ _ _ hE).elim
 obtain ⟨hh,g,d,t,os'⟩:=s'
 obtain rfl:os'=s.os:=os
 have J:=I.call (h':=hh) (g':=g) (d':=d) (t':=t) (ch:=[]) un hok bare (fun b z=>absurd z (by simp))
 exact hx.h pins σ H' _ a C J (x.mono (I.newer hex)) hE
theorem Vc {P:Program}{w:World}{K:uFg}{mg:Str->Option Value}{base:Heap}{N:List Str}{qual:Str}{scope:Scope}{f:Addr}{cd:Value}{A:Around}{outer:List Env}{s:Shared}{H:Hp}{E:XK} :
  Xq (Ye (CXE P w) P w K mg base N qual scope f cd A outer s H E) fun _=>E:=⟨.inr ⟨rfl,Zix⟩⟩
end
structure Run (P:Program) (w:World) (K:uFg) (mg:Str->Option Value) (base:Heap) (k:Nat) (f:Addr) (sp:Sp):Prop where
 run:∀ (A:Around) (outer:List Env) (s:Shared) (H:Hp) (us:List Value) (vs:List V) (Q:VK) (E:XK),Room k A->Env0 P w K mg base A outer s H->Vals vs us->sp vs H Q E->codeAny (model P w) A (.call (.ref f) ⟨us,[]⟩) (CR (CXE P w) outer P w H s Q E) s
theorem FnOk.runX {P:Program}{w:World}{K:uFg}{mg:Str->Option Value}{base:Heap}{k:Nat}{f:Addr}{fd:FuncData}{ps:List Str}{sp:Sp}(F:FnOk P w K mg base (CXE P w) k f fd ps sp) (hb:Binds K fd ps []):Run P w K mg base k f sp :=
 ⟨fun A outer s H us vs Q E hr e0 r h=>by
  have KX:K.In s.heap:=e0.mod.kin.keeps fun b o e=>(e0.bs b o e).1
  have hl:us.length=ps.length:=by rw [← r.length]; exact F.len _ _ _ _ h
  have hb':BindsTo s fd ⟨us,[]⟩ (ps.zip us):=by
   have:=hb s us KX (by rw [yO]; exact hl)
   rw [yO] at this
   exact this
  exact F.run A outer s H ⟨us,[]⟩ us vs Q E hr e0 hb' r h⟩
def FnX (P:Program) (w:World) (K:uFg) (mg:Str->Option Value) (base:Heap) (x:Str) (k:Nat) (sp:Sp):Prop :=
 ∃ f,mg x=some (.ref f)/\PySem.W.keepIn K (.ref f)=true/\Run P w K mg base k f sp
structure MtX (P:Program) (w:World) (K:uFg) (mg:Str->Option Value) (base:Heap) (C:Addr) (m:Str) (k:Nat) (sp:Sp):Prop where
 ex:∃ (f:Addr),Meth K C m f/\Run P w K mg base k f sp
theorem FnOk.cxe {P:Program}{w:World}{K:uFg}{mg:Str->Option Value}{base:Heap}{k:Nat}{f:Addr}{fd:FuncData}{ps:List Str}{sp:Sp}(F:FnOk P w K mg base CX0 k f fd ps sp):FnOk P w K mg base (CXE P w) k f fd ps sp :=
 ⟨F.len,fun A outer s H args us vs Q E hr e0 hb r h=>codeAny_mono (F.run A outer s H args us vs Q E hr e0 hb r h) fun r s' q=>by
  cases r with
  | error e=>exact False.elim q
  | ok fl=>cases fl <;> exact q⟩
section
variable {P:Program}{w:World}{K:uFg}{mg:Str->Option Value}{base:Heap}{C:Addr}{x:Str}{ps:List Str}{k k':Nat}{sp sp':Sp}
theorem Fn.toX (F:Fn P w K mg base x ps k sp):FnX P w K mg base x k sp:=let ⟨f,fd,a,b,c,d⟩:=F; ⟨f,a,b,d.cxe.runX c⟩
def Sp.or (a b:Sp):Sp:=fun vs H Q E=>a vs H Q E\/b vs H Q E
theorem Run.or {f:Addr}(F:Run P w K mg base k f sp) (G:Run P w K mg base k' f sp'):Run P w K mg base (max k k') f (sp.or sp') :=
 ⟨fun A outer s H us vs Q E hr e0 r h=>h.elim (fun h=>F.run A outer s H us vs Q E (hr.mono (Nat.le_max_left _ _)) e0 r h) fun h=>G.run A outer s H us vs Q E (hr.mono (Nat.le_max_right _ _)) e0 r h⟩
theorem Run.mono {f:Addr}(F:Run P w K mg base k f sp) (h:k<=k'):Run P w K mg base k' f sp:=⟨fun A outer s H us vs Q E hr=>F.run A outer s H us vs Q E (hr.mono h)⟩
theorem FnX.or (F:FnX P w K mg base x k sp) (G:FnX P w K mg base x k' sp'):FnX P w K mg base x (max k k') (sp.or sp'):=by
 obtain ⟨f,a,b,d⟩:=F
 obtain ⟨f',a',b',d'⟩:=G
 rw [a] at a'; cases a'
 exact ⟨f,a,b,d.or d'⟩
theorem FnX.mono (F:FnX P w K mg base x k sp) (h:k<=k'):FnX P w K mg base x k' sp:=let ⟨f,a,b,d⟩:=F; ⟨f,a,b,d.mono h⟩
end
def Ybo (sp:Sp) (E:St->XK) (t:TA):TE:=fun σ H Q=>t σ H fun vs H1=>sp vs H1 Q (E σ)
section
variable {X:Cx}{E:St->XK}{k:Nat}{f C:Addr}{sp:Sp}{x m:Str}{p pos apos:Pos}{e o:Expr}{es:List Expr}{ta:TE}{t:TA}
theorem Z1v {pins:List (Addr×Obj)}{σ:St}{H:Hp}{s:Shared}{Q:VK}{us:List Value}{vs:List V}(F:Run X.prog X.w X.K X.mg X.base k f sp) (hr:Room k X.A) (hx:Xq X E)
  (I:Inv X pins σ H s) (r:Vals vs us) (h:sp vs H Q (E σ)):wpAny (model X.prog X.w) X.A (call (.ref f) us) (EP X pins σ Q) X.xe s:=by
 refine wpAny_call (codeAny_mono (F.run X.A X.stack s H us vs Q (E σ) hr I.env0 r h) fun r s' hq=>?_)
 cases r with
 | error e=>exact hx.pass I hq
 | ok fl =>
  cases fl with
  | ret u=>exact I.after hq
  | next=>exact False.elim hq
  | brk=>exact False.elim hq
  | cont=>exact False.elim hq
theorem Wx (hx:Xq X E) (F:FnX X.prog X.w X.K X.mg X.base x k sp) (hr:Room k X.A) (n:Nm X.env.scope x .globalImplicit) (ha:QA X (e::es) t)
  (he:starEach (e::es) X.env=(false,eval e X.env)::starEach es X.env:=by rfl) (hpl:(backTo pos (starEach es X.env)).any (·.1)=false:=by rfl) :
  QE X (.Call (.Name x p) (e::es) [] pos) (Ybo sp E t):=⟨by
 obtain ⟨f,hm,hk,G⟩:=F
 intro pins s σ H Q I h
 refine wpAny_Call_Name_kw (Zc6 I n.1 hm ?_ n.2.1)
 refine PySem.W.callWith_K (h₀:=X.base) I.ok.mod.kin hk (thn (ha.h pos pins s σ H _ I h) fun us s1 ⟨vs,H1,I1,r,q⟩=>⟨I1.kIn,?_⟩) he hpl
 exact Z1v G hr hx I1 r q⟩
end
section
variable {P:Program}{w:World}{K:uFg}{mg:Str->Option Value}{base:Heap}
theorem Fun.okX {x qual:Str}{st:Stmt}{f:Addr}{fd:FuncData}{N ps:List Str}{k:Nat}{sp:Sp}(F:Fun K x qual st f fd) (S:FnScope N ps (Za st)) (len:∀ vs H Q E,sp vs H Q E->vs.length=ps.length)
  (hbody:∀ (cdv:Value) (A:Around) (outer:List Env) (s:Shared) (H:Hp) (vs:List V) (Q:VK) (E:XK),Room k (A.deeper (envOfC qual (Za st) s.heap.objs.size f cdv))->sp vs H Q E ->
   ∃ t,QSs (Ye (CXE P w) P w K mg base N qual (Za st) f cdv A outer s H E) (Yx st) t/\t {nx:=fun _ H'=>Q .non H',rt:=Q } (start N vs) H):FnOk P w K mg base (CXE P w) (k+1) f fd ps sp:=by
 obtain ⟨oc,od,kV,doc,pm,an,cdv,ct,osl,rfl,lk,hcd⟩:=F.ex
 refine Zi8 lk hcd S len fun A outer s H vs Q E hr hsp=>?_
 obtain ⟨t,h,q⟩:=hbody cdv A outer s H vs Q E hr hsp
 exact ⟨t,h.h,q⟩
theorem Has.fnX {x:Str}{st:Stmt}{N ps:List Str}{k:Nat}{sp:Sp}(h:Has K mg x st) (S:FnScope N ps (Za st))
  (hb:∀ (kV doc pm:Value) (an:Option Addr) (cdv ct:Value) (us:List Value),us.length=ps.length->bindArgs (PySem.W.fnOf x x (Vf st) (Yx st) (Za st) .none kV doc pm an cdv ct) ⟨us,[]⟩=pure (ps.zip us))
  (len:∀ vs H Q E,sp vs H Q E->vs.length=ps.length)
  (hbody:∀ (f:Addr) (cdv:Value) (A:Around) (outer:List Env) (s:Shared) (H:Hp) (vs:List V) (Q:VK) (E:XK),Room k (A.deeper (envOfC x (Za st) s.heap.objs.size f cdv))->sp vs H Q E ->
   ∃ t,QSs (Ye (CXE P w) P w K mg base N x (Za st) f cdv A outer s H E) (Yx st) t/\t {nx:=fun _ H'=>Q .non H',rt:=Q } (start N vs) H):FnX P w K mg base x (k+1) sp:=by
 obtain ⟨f,fd,F,hm⟩:=h
 exact ⟨f,hm,F.kp,(F.okX S len (hbody f)).runX (F.binds hb)⟩
end
end L2
namespace L2
open PySem PySem.Spec PyProof.Rows
def nsX (K:uFg) (N:Addr):Bool:=match K.lookup N with
 | some ⟨_,_,.dict es _,_⟩=>(es.toList.all fun e=>match e.key with | .str _ _=>true | _=>false) && (nsFind es "__init__").isNone
 | _=>false
def vE:List Value:=[.type "ValueError", .type "Exception", .type "BaseException", .type "object"]
def Zlc:List (Option Value)->Bool
 | [_,_,_,_,some v,_]=>v == .builtin "ValueError.__new__"
 | _=>false
def Zu0 (K:uFg):List Value->Bool
 | .ref M::r=>r == vE && (match K.lookup M with | some ⟨_,_,.cls cd,_⟩=>nsX K cd.ns | _=>false)
 | _=>false
def Zaq (K:uFg) (C:Addr):Bool:=match K.lookup C with
 | some ⟨c,_,.cls cd,sl⟩=>(c == .type "type") && (cd.hasDel == false) && nsX K cd.ns && Zlc sl.toList && (match cd.mro with | v::r=>(v == .ref C) && Zu0 K r | _=>false)
 | _=>false
theorem Zqr {K:uFg}{h:Heap}{N:Addr}(X:K.In h) (e:nsX K N=true):∃ mN,h.Ns N mN/\mN "__init__" = none:=by
 unfold nsX at e
 split at e
 ·rename_i c d es n sl q
  rw [yI] at e
  refine ⟨nsFind es,⟨_,es,n,X _ _ q,rfl,fun en hen=>?_,fun _=>rfl⟩,Option.isNone_iff_eq_none.mp e.2⟩
  have z:=List.all_eq_true.mp e.1 en (Array.mem_toList_iff.mpr hen)
  cases k:en.key with
  | str x t=>exact ⟨x,t,rfl⟩
  | _=>rw [k] at z; cases z
 ·cases e
theorem Z1w:∀ {l:List (Option Value)},Zlc l=true->∃ k0 k1 k2 k3 k5,l = [k0,k1,k2,k3,some (.builtin "ValueError.__new__"),k5]:=by
 intro l e
 unfold Zlc at e
 split at e
 ·exact ⟨_,_,_,_,_,by rw [beq_iff_eq.mp e]⟩
 ·exact Bool.noConfusion e
theorem Zsa {K:uFg}{h:Heap}{C:Addr}(X:K.In h) (e:Zaq K C=true) :
  ∃ nm q N bs bm hdct sn sub ab col dd k0 k1 k2 k3 k5 mN,h.get? C=some (excClassObj nm q C N bs bm hdct sn sub ab col dd k0 k1 k2 k3 k5 "ValueError.__new__")/\h.Ns N mN/\mN "__init__" = none/\OwnTail h vE bm:=by
 unfold Zaq at e
 split at e
 ·rename_i c d cd sl q
  simp only [yI] at e
  obtain ⟨⟨⟨⟨e1,e2⟩,e3⟩,e4⟩,e5⟩:=e
  have e1:=beq_iff_eq.mp e1
  subst e1
  obtain ⟨mN,hn,hi⟩:=Zqr X e3
  obtain ⟨nm,bs,mro,N,qn,hdc,sn,sub,ab,col,hdl⟩:=cd
  have e2:hdl=false:=beq_iff_eq.mp e2
  subst e2
  cases mro with
  | nil=>cases e5
  | cons v r =>
   dsimp only at e5
   rw [yI] at e5
   have e6:=beq_iff_eq.mp e5.1
   subst e6
   have e7:=e5.2
   unfold Zu0 at e7
   split at e7
   ·rename_i M r
    rw [yI] at e7
    have e8:=beq_iff_eq.mp e7.1
    subst e8
    have e9:=e7.2
    split at e9
    ·rename_i c2 d2 cd2 sl2 q2
     obtain ⟨mM,hM,hMi⟩:=Zqr X e9
     obtain ⟨sl⟩:=sl
     obtain ⟨k0,k1,k2,k3,k5,rfl⟩:=Z1w (l:=sl) e4
     ·exact ⟨nm,qn,N,bs,.ref M::vE,hdc,sn,sub,ab,col,d,k0,k1,k2,k3,k5,mN,X _ _ q,hn,hi,.own (X _ _ q2) hM hMi .base⟩
    ·cases e9
   ·cases e7
 ·cases e
def Z3m (E:St->XK) (C:Addr) (te:TE):TS:=fun _ σ H=>te σ H fun _ H1=>E σ (.ref C) none H1
section
variable {X:Cx}{E:St->XK}{C:Addr}{x:Str}{np cpos pos:Pos}{e:Expr}{te:TE}
theorem Zog (hx:Xp X E) (hcl:X.calm=true) (hex:X.ex = []) (xc:Zaq X.K C=true) (n:Nm X.env.scope x .globalImplicit) (hm:X.mg x=some (.ref C)) (he:QE X e te)
  (hs:starEach [e] X.env = [(false,eval e X.env)]:=by rfl):QS X (.Raise (some (.Call (.Name x np) [e] [] cpos)) none pos) (Z3m E C te):=⟨by
 intro pins s σ H D I h
 obtain ⟨nm,q,N,bs,bm,hdct,sn,sub,ab,col,dd,k0,k1,k2,k3,k5,mN,hC,hn,hi,T⟩:=Zsa I.kIn xc
 refine wpAny_Raise_call_subU (C:=C) (N:=N) (nm:=nm) (q:=q) (bs:=bs) (bm:=bm) (bmB:=vE) (hdct:=hdct) (sn:=sn) (sub:=sub) (ab:=ab) (col:=col) (dd:=dd) (k0:=k0) (k1:=k1) (k2:=k2) (k3:=k3) (k5:=k5) (mN:=mN)
  F.excBase_ValueError (by decide) F.excBase_ValueError (T.hasType (by decide)) (I.ok.hd hcl) (by rw [hs]; rfl) hi (Zc6 I n.1 hm ⟨rfl,?_⟩ n.2.1)
 rw [hs]
 refine Calls.evalArgs_plain (Calls.spliced_cons (thn (he.h pins s σ H _ I h) fun u s1 ⟨v,H1,I1,r1,q1⟩=>Calls.spliced_nil ?_))
 have K1:∀ b o,X.base.get? b=some o->s1.heap.get? b=some o:=I1.bk
 obtain ⟨nm',q',N',bs',bm',hdct',sn',sub',ab',col',dd',k0',k1',k2',k3',k5',mN',hC',hn',hi',T'⟩:=Zsa I1.kIn xc
 have lk:∃ o,X.K.lookup C=some o:=by
  unfold Zaq at xc
  split at xc
  ·rename_i z; exact ⟨_,z⟩
  ·cases xc
 obtain ⟨oC,hoC⟩:=lk
 have z1:=(I.kIn _ _ hoC).symm.trans hC
 have z2:=(I1.kIn _ _ hoC).symm.trans hC'
 have hC1:s1.heap.get? C=some (excClassObj nm q C N bs bm hdct sn sub ab col dd k0 k1 k2 k3 k5 "ValueError.__new__"):=by rw [hC',← z2,z1]
 have zz:=hC1.symm.trans hC'
 have eN:N=N':=by
  have:=congrArg (fun o:Option Obj=>match o with | some ⟨_,_,.cls cd,_⟩=>cd.ns | _=>0) zz
  exact this
 have ebm:bm=bm':=by
  have:=congrArg (fun o:Option Obj=>match o with | some ⟨_,_,.cls cd,_⟩=>cd.mro | _=>[]) zz
  exact (List.cons.inj this).2
 subst eN ebm
 refine ⟨rfl,by show 1<=sizeLine; decide,hC1,?_,T',fun h' a hx'=>?_⟩
 ·-- the namespace is the same object
  have lkN:∃ o,X.K.lookup N=some o:=by
   unfold Zaq at xc
   rw [hoC] at xc
   obtain ⟨c,d,dt,sl⟩:=oC
   cases dt with
   | cls cd =>
    simp only [yI] at xc
    have e3:=xc.1.1.2
    have eN:cd.ns=N:=by
     have:=congrArg (fun o:Option Obj=>match o with | some ⟨_,_,.cls cd,_⟩=>cd.ns | _=>0) z1
     exact this
    rw [eN] at e3
    unfold nsX at e3
    split at e3
    ·rename_i z; exact ⟨_,z⟩
    ·cases e3
   | _=>cases xc
  obtain ⟨oN,hoN⟩:=lkN
  obtain ⟨o1,es1,ep1,ho1,r1⟩:=hn
  have:=(I.kIn _ _ hoN).symm.trans ho1
  cases this
  exact ⟨_,es1,ep1,I1.kIn _ _ hoN,r1⟩
 ·obtain ⟨t,e1,e2,e3⟩:=hx'.there
  have I2:Inv X pins σ H1 {s1 with heap:=h' }:=I1.kept (t':=s1.toks) hx'.keeps
  have fr:∀ b,s1.heap.get? b=none->H1 b=none:=fun b z=>by
   cases q:H1 b with
   | none=>rfl
   | some u=>obtain ⟨o,e⟩:=(I1.hok b u q).ex; rw [z] at e; cases e
  refine hx.h pins σ H1 {s1 with heap:=h' } a C I2 ⟨fr a hx'.new,?_,_,_,_,e1,rfl,rfl,rfl,.inl rfl⟩ q1
  cases q:X.s₀.heap.get? a with
  | none=>rfl
  | some o =>
   obtain ⟨o',e'⟩:=I1.base.there a o q (by rw [hex]; simp)
   rw [hx'.new] at e'; cases e'⟩
end
end L2
end
section
namespace L2
open PySem PySem.Spec PyProof.Rows
abbrev TJ:=St->Hp->(Hp->Prop)->Prop
def PJ (X:Cx) (es:List Expr) (t:TJ):Prop:=∀ (pins:List (Addr×Obj)) (s:Shared) (σ:St) (H:Hp) (Q:Hp->Prop) (acc:Str),Inv X pins σ H s->acc.length+es.length * 1000000<=sizeLine->t σ H Q ->
 Joins (model X.prog X.w) X.A X.xe (evalEach es X.env) acc (fun out s₁=>out.length<=sizeLine/\∃ H',Inv X pins σ H' s₁/\Q H') s
structure QJ (X:Cx) (es:List Expr) (t:TJ):Prop where
 h:PJ X es t
def tJt (n:Nat) (t:TJ):TJ:=fun σ H Q=>n<=1000000/\t σ H Q
def tJf (te:TE) (t:TJ):TJ:=fun σ H Q=>te σ H fun v H1=>((∃ x,v = .str x/\x.length<=1000000)\/(∃ i,v = .int i/\i.natAbs.log2 < 1920))/\t σ H1 Q
def tJ0:TJ:=fun _ H Q=>Q H
def Z4i (t:TJ):TE:=fun σ H Q=>t σ H fun H1=>∀ x:Str,Q (.str x) H1
section
variable {X:Cx}{es:List Expr}{e:Expr}{te:TE}{t:TJ}{pos:Pos}
theorem Zqs:QJ X [] tJ0:=⟨fun pins s σ H Q acc I hl h=>⟨by simpa using hl,H,I,h⟩⟩
theorem Zbv (a b:Str):(a++b).length=a.length+b.length:=strLen_append a b
theorem Zqt {x:Str}{j:Nat}(h:QJ X es t) (he:evalEach (.Constant (.str x) j pos::es) X.env=eval (.Constant (.str x) j pos) X.env::evalEach es X.env:=by rfl):QJ X (.Constant (.str x) j pos::es) (tJt x.length t):=⟨by
 intro pins s σ H Q acc I hl hq
 obtain ⟨hx,hq⟩:=hq
 rw [xS] at hl
 rw [he]
 refine Calls.Constant_str ⟨x,_,rfl,?_,h.h pins _ σ H Q (acc++x) (I.tok _) ?_ hq⟩
 ·rw [Zbv]; lia
 ·rw [Zbv]; lia⟩
theorem Ziy (h1:QE X e te) (h:QJ X es t) (he:evalEach (.FormattedValue e (-1) none pos::es) X.env=eval (.FormattedValue e (-1) none pos) X.env::evalEach es X.env:=by rfl):QJ X (.FormattedValue e (-1) none pos::es) (tJf te t):=⟨by
 intro pins s σ H Q acc I hl hq
 rw [xS] at hl
 rw [he]
 refine wpAny_FormattedValue_plain (thn (h1.h pins s σ H _ I hq) fun u s1 ⟨v,H1,I1,rv,hv,q⟩=>?_)
 rcases hv with ⟨x,rfl,hx⟩ | ⟨i,rfl,hi⟩
 ·obtain ⟨tk,rfl⟩:=rv
  refine formatField_str (fun t' tk'=>⟨x,t',rfl,?_,h.h pins _ σ H1 Q (acc++x) (I1.tok _) ?_ q⟩) (by rw [sizeLine_eq]; lia)
  ·rw [Zbv]; lia
  ·rw [Zbv]; lia
 ·obtain ⟨tk,rfl⟩:=rv
  have hn:(Str.ofString (toString i)).length<=1921:=by rw [PySem.ofString_length]; exact int_text_length_le (by decide) hi
  refine wpAny_formatField_int hi ⟨_,_,rfl,?_,h.h pins _ σ H1 Q _ (I1.tok _) ?_ q⟩
  ·rw [Zbv]; lia
  ·rw [Zbv]; lia⟩
theorem Zmx {M:Model}{A:Around}{E:Value->Shared->Prop}{Q Q':Str->Shared->Prop}(hQ:∀ o s,Q o s->Q' o s):∀ {l:List (Sem Value)}{acc:Str}{s:Shared},Joins M A E l acc Q s->Joins M A E l acc Q' s
 | [],_,_,h=>hQ _ _ h
 | _::_,_,_,h=>wpAny_mono h (fun _ _ ⟨y,t,a,b,c⟩=>⟨y,t,a,b,Zmx hQ c⟩) fun _ _ z=>z
theorem Znm {e1 e2:Expr}(h:QJ X (e1::e2::es) t) (hn:es.length<=8:=by decide):QE X (.JoinedStr (e1::e2::es) pos) (Z4i t):=⟨by
 intro pins s σ H Q I hq
 have hs:(Str.empty).length+(e1::e2::es).length * 1000000<=sizeLine:=by
  have:Str.empty.length=0:=rfl
  rw [this,xS,xS,sizeLine_eq]; lia
 refine wpAny_JoinedStr ?_
 have key:=h.h pins s σ H _ Str.empty I hs hq
 refine Zmx (fun out s1 ⟨h1,H1,I1,q⟩=>⟨h1,.str out,H1,I1.tok _,⟨_,rfl⟩,q out⟩) key⟩
end
end L2
end
section
namespace L2
open PySem PySem.Spec PyProof.Rows PySem.W PySem.Calls PySem.Builtin PySem.Builtin.ObjectAttr PySem.Builtin.Getset_descriptor
def Ui (K:Frag) (C:Addr):Bool:=(clsIn K C).isSome && (findIn K (.ref C) "__getattribute__" == some (some (.builtin "BaseException.__getattribute__"))) && (findIn K (.ref C) "__getattr__" == some none) && (findIn K (.ref C) "__class__" == some (some (.builtin "object.__class__"))) &&
 (mroIn K C (.type "object") == some true) && (mroIn K C (.type "BaseException") == some true)
section
variable {prog:Program}{w:World}{A:Around}{E:Value->Shared->Prop}{h:Heap}{g:Array GenState}{d:Drawn}{t:Nat}{os:OsState}{a C:Addr}{o:Obj}{K:Frag}
theorem Zwz {tp:Value}{R:Result->Shared->Prop}{s:Shared}(X:K.In s.heap) (L0:Looks (model prog w) s.heap (typeOf (.ref a)) (.ref C)) (hm:mroIn K C (.type "object")=some true)
  (h:R (.ok (.ret (.ref C))) s):codeAny (model prog w) A (.call (.builtin "getset_descriptor.__get__") ⟨[.builtin "object.__class__", .ref a,tp],[]⟩) R s:=by
 obtain ⟨hh,g,dr,t,os⟩:=s
 have L1:=looks_mroIn (M:=model prog w) X hm
 refine codeAny_call_builtin KF.slot_gs.plain KF.entry_gs (KF.slot_gs.check _ _ _ _ _ _ _ _ KF.type_class (KF.args_gs _ _ _) ?_)
 unfold Builtin.«getset_descriptor.__get__» descrGet
 rw [dga_obj]
 refine wpAny_bind (wpAny_pure ?_)
 unfold descrGetter descrCheckInstance descrNameAndClass isInstance
 simp only [KF.owner_class]
 repeat lk
 refine ⟨Code.quiet_builtin _ (by decide +kernel),codeAny_builtin KF.entry_class ?_⟩
 unfold Builtin.«object.__class__» shownTypeOf
 repeat lk
 exact h
structure ExA (h:Heap) (a:Addr) (o:Obj) (C:Addr):Prop where
 at_:h.get? a=some o
 cls:o.cls = .ref C
theorem ExA.type {M:Model}(I:ExA h a o C):Looks M h (typeOf (.ref a)) (.ref C):=I.cls▸(Looks.ld I.at_).andThen .now
theorem Zu9 {tk:Tok}{Q:Fin->Shared->Prop}(X:K.In h) (I:ExA h a o C) (k1:findIn K (.ref C) "__class__" = some (some (.builtin "object.__class__"))) (k2:mroIn K C (.type "object")=some true)
  (hq:Q (.done (.ret (.ref C))) ⟨h,g,d,t,os⟩):wpAny (model prog w) A (Builtin.«object.__getattribute__» ⟨[.ref a,.str "__class__" tk],[]⟩) Q E ⟨h,g,d,t,os⟩:=by
 have hT5:(⟨h,g,d,t,os⟩:Shared).TypeIs (.builtin "object.__class__") "getset_descriptor" := F.typeOf_object_class
 have f5:=F.typeOf_object_class
 have f6:=F.slot_gs_get.lookup
 have f7:=F.slot_gs_set.lookup
 have hx:=I.at_
 have hc:=I.cls
 have L1:=looks_findIn (M:=model prog w) X k1
 repeat (any_goals (first | assumption | (with_reducible refine wpAny_loadPart_at hx ?_; rw [hc]) | with_reducible refine L1.at ?_ | wp_step))
 refine Zwz (s:=⟨h,g,d,t,os⟩) X I.type k2 ?_
 repeat (any_goals (first | assumption | wp_step))
theorem Zvx {M:Model}{nameV:Value}{Q:Unit->Shared->Prop}(X:K.In h) (I:ExA h a o C) (k3:mroIn K C (.type "BaseException")=some true) (hq:Q () ⟨h,g,d,t,os⟩) :
  wpAny M A (checkBuiltinCall "BaseException.__getattribute__" ⟨[.ref a,nameV],[]⟩) Q E ⟨h,g,d,t,os⟩:=by
 have hk:builtinKind "BaseException.__getattribute__" = some .slot:=by decide +kernel
 have hsplit:splitId "BaseException.__getattribute__" = some ("BaseException", "__getattribute__"):=by decide +kernel
 have ha:=F.args_bexc_ga (.ref a) nameV
 have hx:=I.at_
 have hc:=I.cls
 have L1:=looks_mroIn (M:=M) X k3
 simp only [checkBuiltinCall,hk,hsplit]
 refine wpAny_bind ?_
 ·unfold isInstance
  repeat (first | (with_reducible refine wpAny_loadPart_at hx ?_; rw [hc]) | with_reducible refine L1.at ?_ | wp_step)
  exact hq
theorem Zvy {tk:Tok}{fill expr:Bool}{Q:Value->Shared->Prop}(X:K.In h) (I:ExA h a o C) (kc:Ui K C=true) (hq:Q (.ref C) ⟨h,g,d,t,os⟩) :
  wpAny (model prog w) A (getAttrBy (.ref a) (.str "__class__" tk) fill expr) Q E ⟨h,g,d,t,os⟩:=by
 unfold Ui at kc
 simp only [yI] at kc
 obtain ⟨⟨⟨⟨⟨_,k1⟩,k2⟩,k3⟩,k4⟩,k5⟩:=kc
 have k1:=beq_iff_eq.mp k1
 have k2:=beq_iff_eq.mp k2
 have k3:=beq_iff_eq.mp k3
 have k4:=beq_iff_eq.mp k4
 have k5:=beq_iff_eq.mp k5
 have f3:=F.attr_ValueError.ga.bind (.ref a)
 have hx:=I.at_
 have hc:=I.cls
 have hx0:(expr && onTheHeap (Value.builtin "BaseException.__getattribute__"))=false:=by cases expr <;> rfl
 have hx2:(Value.builtin "BaseException.__getattribute__" == Value.builtin "object.__getattribute__")=false:=by decide +kernel
 have hx1:(onTheHeap (Value.ref C) && Value.builtin "BaseException.__getattribute__" == Value.builtin "object.__getattribute__")=false:=by rw [hx2]; rfl
 have L1:=looks_findIn (M:=model prog w) X k1
 have L2':=looks_findIn (M:=model prog w) X k2
 repeat (any_goals (first | assumption | (with_reducible refine wpAny_loadPart_at hx ?_; rw [hc]) | with_reducible refine L1.at ?_ | with_reducible refine L2'.at ?_ | wp_step))
 refine codeAny_call_builtin F.attr_ValueError.ga.plain F.entry_bexc_ga (Zvx X I k5 (Zu9 X I k3 k4 ?_))
 repeat (any_goals (first | assumption | wp_step))
theorem Zve {Q:Option Value->Shared->Prop}(X:K.In h) (I:ExA h a o C) (kc:Ui K C=true) (hq:Q (some (.ref C)) ⟨h,g,d,t+1,os⟩) :
  wpAny (model prog w) A (getAttr? (.ref a) "__class__") Q E ⟨h,g,d,t,os⟩:=by
 unfold getAttr? getAttrBy?
 refine wpAny_bind (wpAny_mkText (wpAny_bind (wpAny_attempt (Zvy X I kc ?_))))
 exact wpAny_pure hq
end
section
variable {K:Frag}{a C:Addr}{o:Obj}
theorem Zoh (kc:Ui K C=true):KitX K (.ref a) (.ref C) (fun h=>ExA h a o C) where
 ty:=fun _ _ _ I=>I.type
 it:=fun _ _ X _=>by
  unfold Ui at kc
  simp only [yI] at kc
  obtain ⟨cdD,hcD⟩:=Option.isSome_iff_exists.mp kc.1.1.1.1.1
  unfold clsIn at hcD
  split at hcD
  ·rename_i c' d' cd' sl' ho
   intro A' Q' E' s' k q
   unfold isType loadHead
   exact wpAny_bind (wpAny_loadPart (k _ _ (X _ _ ho)) (wpAny_pure q))
  ·cases hcD
 ne:=fun h tp dd its n sl X htp=>by
  unfold Ui at kc
  simp only [yI] at kc
  obtain ⟨cdD,hcD⟩:=Option.isSome_iff_exists.mp kc.1.1.1.1.1
  refine Bool.eq_false_iff.mpr fun q=>?_
  have e:C=tp:=Value.ref.inj (beq_iff_eq.mp q)
  subst e
  unfold clsIn at hcD
  split at hcD
  ·rename_i c' d' cd' sl' ho
   have z:=(X _ _ ho).symm.trans htp
   cases z
  ·cases hcD
 ca:=fun {_ _ _ _ _ s} X I k=>by
  obtain ⟨h,g,d,t,os⟩:=s
  exact Zve X I kc k
end
end L2
end
section
namespace L2
open PySem PySem.Spec PyProof.Rows
abbrev Cx.hnd (X:Cx) (a:Addr) (o:Obj):Cx:={X with A:=X.A.mark (some (.ref a)),calm:=false,pn:=[(a,o)],xe:=fun _ _=>False }
section
variable {X:Cx}{σ:St}{H:Hp}{s:Shared}{a C:Addr}{o:Obj}
theorem Inv.hnd (I:Inv X [] σ H s) (ho:s.heap.get? a=some o) (hH:H a=none) (hd:∃ vs,o.data = .fields vs):Inv (X.hnd a o) [] σ H s:=by
 obtain ⟨vs,hd⟩:=hd
 obtain ⟨m,⟨oL,esL,epL,hoL,hdL,rL⟩,_⟩:=id I.loc
 refine ⟨⟨I.ok.mod,I.ok.kind,I.ok.glob,I.ok.blt,I.ok.above,I.ok.inj,I.ok.has,I.ok.cab,fun z=>Bool.noConfusion z,I.ok.frames,I.ok.stk,I.ok.exf,I.ok.bs,I.ok.bsz,I.ok.noex,I.ok.exfs,I.ok.funs,I.ok.frf⟩,I.os,I.bare,I.base,I.loc,I.cell,I.free,I.freeC,fun p hp=>?_,I.hok,I.len⟩
 have e:p=(a,o):=by simpa using hp
 subst e
 refine ⟨ho,hH,fun z=>?_,fun z=>?_,fun v z=>?_⟩
 ·have z:a=X.env.locals:=z
  rw [z,hoL] at ho; cases ho; rw [hdL] at hd; cases hd
 ·obtain ⟨_,o',e',d⟩:=I.funs.mem (show a∈X.outer.filterMap (·.frame) from z)
  rw [ho] at e'; cases e'; exact d vs hd
 ·have z:o.data = .cell v:=z
  rw [hd] at z; cases z
theorem Inv.unhnd (I:Inv (X.hnd a o) [] σ H s) (ok:X.Ok) (hpn:X.pn = []):Inv X [] σ H s :=
 ⟨ok,I.os,I.bare,I.base,I.loc,I.cell,I.free,I.freeC,(fun p hp=>by rw [hpn] at hp; cases hp),I.hok,I.len⟩
theorem Zzv {M:Model}{A:Around}{E:Value->Shared->Prop}{Q:Unit->Shared->Prop}(I:Inv X [] σ H s) (hpn:X.pn = []) (hex:X.ex = []) (stk:X.stack=X.env::X.outer) (x:XAt X.s₀.heap H s.heap a C)
  (k:∀ h',Inv X [] σ H {s with heap:=h' }->XAt X.s₀.heap H h' a C->Q () {s with heap:=h' }):wpAny M A (setFlight (.ref a) none) Q E s:=by
 obtain ⟨ha,h0a,oe,vs,a0,he,hc,hd,v0,tr⟩:=id x
 rcases tr with v1 | ⟨T,oT,ts,v1,hTe,hT,hdT,h3,hHT,h0T⟩
 ·unfold setFlight
  refine wpAny_bind (wpAny_field he hd v1 ?_)
  rw [if_neg (by decide)]
  exact wpAny_pure (k s.heap I x)
 ·have hh:∀ b ∈ [a,T],X.s₀.heap.get? b=none/\H b=none/\∃ o vs,s.heap.get? b=some o/\o.data = .fields vs:=fun b hb=>by
   rcases xW.mp hb with rfl | hb
   ·exact ⟨h0a,ha,oe,vs,he,hd⟩
   ·rw [xF] at hb; subst hb; exact ⟨h0T,hHT,oT,ts,hT,hdT⟩
  have hl:s.heap.FunFrames (PySem.W.hideAll s.heap ([a,T]++frs X.stack)) X.stack:=PySem.W.funFrames_hide I.stack fun env he b hb=>xM _ (List.mem_filterMap.mpr ⟨env,he,hb⟩)
  refine wpAny_setFlight_noneW (base:=PySem.W.hideAll s.heap ([a,T]++frs X.stack)) (cls:=.ref C) (a0:=a0) (fl:=.none) (fun b o q=>PySem.W.of_hideAll _ q) hl
   ⟨oe,vs,T,oT,ts,he,⟨hc,v0⟩,hd,v1,PySem.W.hideAll_none _ (by simp),hTe,hT,hdT,h3⟩ fun h2 k1 k2 k3 k4=>?_
  refine k h2 (I.noted hpn hh k1 fun b o e hn=>⟨o.slots,k4 b o e hn⟩) ?_
  obtain ⟨oe',vs',T',oT',ts',he',⟨hc',v0'⟩,hd',h1',hnT,hTe',hT',hdT',h3'⟩:=k3
  have no:∀ o,s.heap.get? T'=some o->T' ∉ [a,T]->T'∉frs X.stack->False:=fun o e n1 n2=>by
   have:=PySem.W.hideAll_get ([a,T]++frs X.stack) e fun hm=>(xO.mp hm).elim n1 n2
   rw [this] at hnT; cases hnT
  have nfr:T'∉frs X.stack:=fun z=>by
   obtain ⟨_,o,e,d⟩:=k2.mem (show T'∈X.stack.filterMap (·.frame) from z)
   rw [hT'] at e; cases e; exact d ts' hdT'
  refine ⟨ha,h0a,oe',vs',a0,he',hc',hd',v0',.inr ⟨T',oT',ts',h1',hTe',hT',hdT',h3',?_,?_⟩⟩
  ·cases q:H T' with
   | none=>rfl
   | some u =>
    obtain ⟨o,e⟩:=(I.hok T' u q).ex
    exact (no o e (fun z=>by rw [(hh T' z).2.1] at q; cases q) nfr).elim
  ·cases q:X.s₀.heap.get? T' with
   | none=>rfl
   | some o =>
    obtain ⟨o',e⟩:=I.base.there T' o q (by rw [hex]; simp)
    exact (no o' e (fun z=>by rw [(hh T' z).1] at q; cases q) nfr).elim
end
def U4 (K:uFg) (C D:Addr):Option Bool:=if ((PySem.W.clsIn K D).isSome && (PySem.W.typeIn K (.ref D) == some (.type "type")) && (PySem.W.subIn K (.ref D) (.type "BaseException") == some true))=true then PySem.W.subIn K (.ref C) (.ref D) else none
theorem Zvl {M:Model}{A:Around}{E:Value->Shared->Prop}{s:Shared}{K:uFg}{a C D:Addr}{oe:Obj}{b:Bool}{Q:Bool->Shared->Prop}(X:K.In s.heap) (he:s.heap.get? a=some oe) (hc:oe.cls = .ref C)
  (e:U4 K C D=some b) (q:Q b s):wpAny M A (excMatches (.ref a) (.ref D)) Q E s:=by
 unfold U4 at e
 split at e
 ·rename_i z
  simp only [yI] at z
  obtain ⟨⟨z0,z1⟩,z2⟩:=z
  have L0:=PySem.W.looks_typeIn (M:=M) X (beq_iff_eq.mp z1)
  have L1:=PySem.W.looks_subIn (M:=M) X (beq_iff_eq.mp z2)
  have L2:=PySem.W.looks_subIn (M:=M) X e
  have LI:PySem.W.Looks M s.heap (isInstance (.ref D) (.type "tuple")) false:=L0.andThen (PySem.W.Looks.of_pure tc_notTuple)
  obtain ⟨cdD,hcD⟩:=Option.isSome_iff_exists.mp z0
  have LT:PySem.W.Looks M s.heap (isType (.ref D)) true:=by
   unfold PySem.W.clsIn at hcD
   split at hcD
   ·rename_i c' d' cd' sl' ho
    intro A' Q' E' s' k q
    unfold isType loadHead
    exact wpAny_bind (wpAny_loadPart (k _ _ (X _ _ ho)) (wpAny_pure q))
   ·cases hcD
  have LE:PySem.W.Looks M s.heap (isExcClass (.ref D)) true:=LT.andThen L1
  have Lt:PySem.W.Looks M s.heap (typeOf (.ref a)) (.ref C):=hc▸(PySem.W.Looks.ld he).andThen .now
  obtain ⟨h0,g,d,t,os⟩:=s
  unfold excMatches
  refine wpAny_bind (LI.at ?_)
  simp only [zD,if_false]
  refine wpAny_bind (wpAny_pure ?_)
  simp only [List.forIn_cons,List.forIn_nil]
  refine wpAny_bind (wpAny_bind (wpAny_bind (LE.at ?_)))
  simp only [Bool.not_true,zD,if_false]
  refine wpAny_pure (wpAny_pure ?_)
  refine wpAny_bind (Lt.at (wpAny_bind (wpAny_bind (wpAny_bind (L2.at ?_)))))
  cases b with
  | true=>simp only [if_true]; exact wpAny_pure (wpAny_pure (wpAny_pure q))
  | false=>simp only [zD,if_false]; exact wpAny_pure (wpAny_pure (wpAny_pure q))
 ·cases e
def PH (X:Cx) (hs:List ExceptHandler) (t:Addr->TS):Prop:=∀ (a C:Addr) (s:Shared) (σ:St) (H:Hp) (D:Ends),Inv X [] σ H s->XAt X.s₀.heap H s.heap a C->t C D σ H->wpAny (model X.prog X.w) X.A (handleBy (.ref a) X.env hs) (SP X [] D) X.xe s
structure QH (X:Cx) (hs:List ExceptHandler) (t:Addr->TS):Prop where
 h:PH X hs t
def tH0:Addr->TS:=fun _ _ _ _=>False
def Ends.off (D:Ends) (i:Nat):Ends:={nx:=fun σ H=>D.nx (σ.set i none) H,rt:=D.rt,bk:=fun σ H=>D.bk (σ.set i none) H,ct:=fun σ H=>D.ct (σ.set i none) H }
def Ybp (K:uFg) (Dc:Addr) (i:Nat) (ts:Addr->Addr->TS) (tr:Addr->TS):Addr->TS:=fun C D σ H=>∃ b,U4 K C Dc=some b/\if b=true then ∀ a,ts a C (D.off i) (σ.set i (some (.ref a))) H else tr C D σ H
structure Pl (X:Cx):Prop where
 pn:X.pn = []
 ex:X.ex = []
 stk:X.stack=X.env::X.outer
 fr:X.env.frame=some X.env.locals
section
variable {X:Cx}{x n:Str}{np pos:Pos}{b₀:Stmt}{suite:List Stmt}{rest:List ExceptHandler}{Dc:Addr}{tr:Addr->TS}
theorem Z3n:QH X [] tH0:=⟨fun _ _ _ _ _ _ _ _ h=>h.elim⟩
theorem Zzw {a:Addr}{o:Obj}{D:Ends}{f:Flow}{s:Shared}(ok:X.Ok) (hpn:X.pn = []) (h:SP (X.hnd a o) [] D f s):SP X [] D f s:=by
 cases f with
 | next=>obtain ⟨σ,H,I,q⟩:=h; exact ⟨σ,H,I.unhnd ok hpn,q⟩
 | brk=>obtain ⟨σ,H,I,q⟩:=h; exact ⟨σ,H,I.unhnd ok hpn,q⟩
 | cont=>obtain ⟨σ,H,I,q⟩:=h; exact ⟨σ,H,I.unhnd ok hpn,q⟩
 | ret u=>obtain ⟨v,σ,H,I,r,q⟩:=h; exact ⟨v,σ,H,I.unhnd ok hpn,r,q⟩
theorem Inv.unset {i:Nat}{σ:St}{H:Hp}{s:Shared}{h':Heap}{tk:Nat}{m:Str->Option Value}{v:Option Value}(I:Inv X [] σ H s) (hpn:X.pn = []) (hN:X.N.Nodup) (hi:X.N[i]? = some n) (hn:s.heap.Ns X.env.locals m)
  (hn':h'.Ns X.env.locals (fun y=>if y=n then v else m y)) (hs:Heap.SameBut X.env.locals s.heap h'):Inv X [] (σ.set i none) H {s with heap:=h',toks:=tk }:=by
 obtain ⟨m0,hn0,hl⟩:=id I.loc
 have em:∀ y,m0 y=m y:=by
  obtain ⟨o1,e1,p1,g1,d1,_,f1⟩:=hn0
  obtain ⟨o2,e2,p2,g2,d2,_,f2⟩:=hn
  rw [g1] at g2; cases g2
  rw [d1] at d2; cases d2
  intro y; rw [← f1,← f2]
 have cne:=I.cne
 have tracked:HOk X.prog X.w H h':=fun b ob e=>by
  refine (I.hok b ob e).stay (fun c w' hc q=>(hs.2 c ?_).trans q) (fun _ q=>q) fun _ _ q=>q
  rintro rfl
  rcases hc with rfl | hc
  ·rw [I.free] at e; cases e
  ·rw [I.free] at hc; cases hc
 have neL:∀ b o,X.s₀.heap.get? b=some o->b≠X.env.locals:=fun b o e=>yJ (yG (xU e) I.ok.above)
 refine ⟨I.ok,I.os,I.bare,⟨fun b o e nn hb hx=>(hs.2 b (neL b o e)).trans (I.base.keep b o e nn hb hx),fun b o e nn hb hx=>?_,I.base.free,fun b o e hx=>?_,I.base.tups,I.base.frzs,I.base.tbls⟩,⟨_,hn',fun j y v' e1 e2 e3=>?_⟩,fun y c e=>?_,I.free,I.freeC,(fun q hq=>by rw [hpn] at hq; cases hq),tracked,by rw [List.length_set]; exact I.len⟩
 ·obtain ⟨sl,e1⟩:=I.base.slot b o e nn hb hx
  exact ⟨sl,(hs.2 b (neL b o e)).trans e1⟩
 ·obtain ⟨o',e1⟩:=I.base.there b o e hx
  exact ⟨o',(hs.2 b (neL b o e)).trans e1⟩
 ·by_cases hj:j=i
  ·subst hj
   rw [List.getElem?_set] at e2
   split at e2
   ·split at e2 <;> cases e2
   ·rename_i z; exact absurd rfl z
  ·rw [List.getElem?_set_ne (Ne.symm hj)] at e2
   obtain ⟨u',r',q⟩:=hl j y v' e1 e2 e3
   refine ⟨u',r',?_⟩
   rcases q with ⟨k,e⟩ | ⟨k,c,e,z⟩
   ·refine .inl ⟨k,?_⟩
    have ne:y≠n:=fun e=>hj (Zhr hN e1 (e▸hi))
    show (if y=n then v else m y)=some u'
    rw [if_neg ne,← em]; exact e
   ·exact .inr ⟨k,c,e,z.sameBut hs (cne y c e)⟩
 ·obtain ⟨w',z⟩:=I.cell y c e
  exact ⟨w',z.sameBut hs (cne y c e)⟩
theorem Z4j {i:Nat}{ts:Addr->Addr->TS}(p:Pl X) (nm:Nm X.env.scope x .globalImplicit) (hm:X.mg x=some (.ref Dc)) (hN:X.N.Nodup) (ne:Nm X.env.scope n .local) (hb:∀ a C o,o.cls = .ref C->QSs (X.hnd a o) (b₀::suite) (ts a C)) (hr:QH X rest tr)
  (hi:X.N[i]? = some n:=by rfl):QH X (.ExceptHandler (some (.Name x np)) (some n) (b₀::suite) pos::rest) (Ybp X.K Dc i ts tr):=⟨by
 intro a C s σ H D I xa h
 obtain ⟨b,eb,h⟩:=h
 obtain ⟨ha,h0a,oe,vs,a0,he,hc,hd,v0,_⟩:=id xa
 have J:=I.hnd he ha ⟨vs,hd⟩
 refine wpAny_handleBy_cons (codeAny_handlers_test (Zc6 (X:=X.hnd a oe) J nm.1 hm ?_ nm.2.1)) (by intro q; cases q)
 refine Zvl J.kIn he hc eb ?_
 cases b with
 | false=>exact hr.h a C s σ H D I xa h
 | true =>
  refine codeAny_handlers_suite_as (Zzv I p.pn p.ex p.stk xa fun h' I' xa'=>?_)
  obtain ⟨ha',_,oe',vs',_,he',hc',hd',_⟩:=xa'
  refine Zcz (X:=X.hnd a oe') (I'.hnd he' ha' ⟨vs',hd'⟩) hN hi (.inl ne.1) (v:=.ref a) rfl (fun s1 I1=>?_) (.inr ne.1)
  refine wpAny_mono ((hb a C oe' hc').h [] _ _ H (D.off i) I1 (h a)) (fun f s2 q=>?_) fun _ _ z=>z.elim
  have q:=Zzw I.ok p.pn q
  have hp:(X.env.scope.kind == .class || (X.env.scope.kind == .module && X.env.locals != X.env.globals))=false:=by rw [I.ok.kind]; rfl
  cases f with
  | next =>
   obtain ⟨σ2,H2,I2,q⟩:=q
   obtain ⟨m,hn,_⟩:=id I2.loc
   exact wpAny_nameGoes_keeps ne.1 hn hp fun h3 v hn3 hs3=>⟨_,H2,I2.unset p.pn hN hi hn hn3 hs3,q⟩
  | brk =>
   obtain ⟨σ2,H2,I2,q⟩:=q
   obtain ⟨m,hn,_⟩:=id I2.loc
   exact wpAny_nameGoes_keeps ne.1 hn hp fun h3 v hn3 hs3=>⟨_,H2,I2.unset p.pn hN hi hn hn3 hs3,q⟩
  | cont =>
   obtain ⟨σ2,H2,I2,q⟩:=q
   obtain ⟨m,hn,_⟩:=id I2.loc
   exact wpAny_nameGoes_keeps ne.1 hn hp fun h3 v hn3 hs3=>⟨_,H2,I2.unset p.pn hN hi hn hn3 hs3,q⟩
  | ret u =>
   obtain ⟨v,σ2,H2,I2,r,q⟩:=q
   obtain ⟨m,hn,_⟩:=id I2.loc
   exact wpAny_nameGoes_keeps ne.1 hn hp fun h3 v' hn3 hs3=>⟨v,_,H2,I2.unset p.pn hN hi hn hn3 hs3,r,q⟩⟩
end
end L2
namespace L2
open PySem PySem.Spec PyProof.Rows
def PS0 (X:Cx) (st:Stmt) (t:TS):Prop:=∀ (s:Shared) (σ:St) (H:Hp) (D:Ends),Inv X [] σ H s->t D σ H->wpAny (model X.prog X.w) X.A (exec st X.env) (SP X [] D) X.xe s
def Ybq (X:Cx) (st:List Stmt) (t:TS):Prop:=∀ (s:Shared) (σ:St) (H:Hp) (D:Ends),Inv X [] σ H s->t D σ H->wpAny (model X.prog X.w) X.A (execs st X.env) (SP X [] D) X.xe s
structure QS0 (X:Cx) (st:Stmt) (t:TS):Prop where
 h:PS0 X st t
structure QSs0 (X:Cx) (st:List Stmt) (t:TS):Prop where
 h:Ybq X st t
def Ybr (tb:(St->XK)->TS) (th:Addr->TS):TS:=fun D σ H=>tb (fun σ' c _ H'=>∃ C,c = .ref C/\th C D σ' H') D σ H
section
variable {X:Cx}{st:Stmt}{rest body:List Stmt}{t u:TS}{h₀:ExceptHandler}{hs:List ExceptHandler}{tb:(St->XK)->TS}{th:Addr->TS}{pos:Pos}
theorem QS.q0 (h:QS X st t):QS0 X st t:=⟨fun s σ H D I q=>h.h [] s σ H D I q⟩
theorem QSs.q0 (h:QSs X rest t):QSs0 X rest t:=⟨fun s σ H D I q=>h.h [] s σ H D I q⟩
theorem Zhk (h1:QS0 X st t) (h2:QSs0 X rest u):QSs0 X (st::rest) (Zao t u):=⟨by
 intro s σ H D I h
 rw [execs]
 refine wpAny_bind (thn (h1.h s σ H _ I h) fun f s1 q=>?_)
 cases f with
 | next =>
  obtain ⟨σ1,H1,I1,q⟩:=q
  exact h2.h s1 σ1 H1 D I1 q
 | brk=>exact wpAny_pure q
 | cont=>exact wpAny_pure q
 | ret u=>exact wpAny_pure q⟩
theorem Z3o (p:Pl X) (hb:∀ (E':Value->Shared->Prop) (EH:St->XK),Xq (X.wish E') EH->QSs (X.wish E') body (tb EH)) (hh:QH X (h₀::hs) th):QS0 X (.Try body (h₀::hs) [] [] pos) (Ybr tb th):=⟨by
 intro s σ H D I h
 refine wpAny_Try_except ?_
 have wish:∀ {E'} {σ:St}{H:Hp}{s:Shared},Inv X [] σ H s->Inv (X.wish E') [] σ H s:=fun I=>⟨⟨I.ok.mod,I.ok.kind,I.ok.glob,I.ok.blt,I.ok.above,I.ok.inj,I.ok.has,I.ok.cab,I.ok.hd,I.ok.frames,I.ok.stk,I.ok.exf,I.ok.bs,I.ok.bsz,I.ok.noex,I.ok.exfs,I.ok.funs,I.ok.frf⟩,I.os,I.bare,I.base,I.loc,I.cell,I.free,I.freeC,I.pin,I.hok,I.len⟩
 have unw:∀ {E'} {σ:St}{H:Hp}{s:Shared}{pins:List (Addr×Obj)},Inv (X.wish E') pins σ H s->Inv X pins σ H s:=fun I=>⟨⟨I.ok.mod,I.ok.kind,I.ok.glob,I.ok.blt,I.ok.above,I.ok.inj,I.ok.has,I.ok.cab,I.ok.hd,I.ok.frames,I.ok.stk,I.ok.exf,I.ok.bs,I.ok.bsz,I.ok.noex,I.ok.exfs,I.ok.funs,I.ok.frf⟩,I.os,I.bare,I.base,I.loc,I.cell,I.free,I.freeC,I.pin,I.hok,I.len⟩
 have hx:Xq (X.wish fun e s₁=>wpAny (model X.prog X.w) X.A (noteFrame e X.env) (fun _ s₂=>wpAny (model X.prog X.w) X.A (setFlight e none) (fun _ s₃=>wpAny (model X.prog X.w) X.A (handleBy e X.env (h₀::hs)) (SP X [] D) X.xe s₃) X.xe s₂) X.xe s₁)
   fun σ' c _ H'=>∃ C,c = .ref C/\th C D σ' H':=⟨.inr ⟨p.ex,⟨fun pins σ1 H1 s1 a C I1 x q=>by
  obtain ⟨C',eC,q⟩:=q
  cases eC
  have I2:=(unw I1).pins_of (pins':=[]) (fun p hp=>nomatch hp)
  exact Znl I2 p.pn p.ex p.stk p.fr x fun h' J y=>hh.h a C _ σ1 H1 D J y q⟩⟩⟩
 refine wpAny_mono ((hb _ _ hx).h [] s σ H D (wish I) h) (fun f s1 q=>?_) fun _ _ z=>z
 have q':SP X [] D f s1:=by
  cases f with
  | next=>obtain ⟨σ,H,I,q⟩:=q; exact ⟨σ,H,unw I,q⟩
  | brk=>obtain ⟨σ,H,I,q⟩:=q; exact ⟨σ,H,unw I,q⟩
  | cont=>obtain ⟨σ,H,I,q⟩:=q; exact ⟨σ,H,unw I,q⟩
  | ret u=>obtain ⟨v,σ,H,I,r,q⟩:=q; exact ⟨v,σ,H,unw I,r,q⟩
 cases f with
 | next=>exact wpAny_pure q'
 | brk=>exact q'
 | cont=>exact q'
 | ret u=>exact q'⟩
end
def Ybs (K:uFg) (a C:Addr):List V->Hp->VK->Prop:=fun xs H Q=>Ui K C=true/\∃ b,((∃ D,xs = [.ref a,.ref D]/\PySem.W.kitOne K (.ref C) (.ref D)=some b)\/(∃ n,xs = [.ref a,.ty n]/\PySem.W.kitOne K (.ref C) (.type n)=some b))/\Q (.bl b) H
theorem Zg7 {X:Cx}{a C:Addr}{o:Obj}(hc:o.cls = .ref C):QC (X.hnd a o) (.builtin "isinstance") (Ybs X.K a C):=⟨by
 intro pins s σ H xs us Q I r h
 obtain ⟨kc,b,hv,q⟩:=h
 have hp:=I.pin (a,o) (yF _ (by simp))
 have hA:ExA s.heap a o C:=⟨hp.1,hc⟩
 have fin:∀ tk,EP (X.hnd a o) pins σ Q (.bool b) {s with toks:=tk }:=fun tk=>⟨.bl b,H,I.tok tk,rfl,q⟩
 rcases hv with ⟨D,rfl,e⟩ | ⟨n,rfl,e⟩
 ·cases r with
  | cons r1 r=>cases r with
   | cons r2 r =>
    cases r
    obtain rfl:=r1
    obtain rfl:=r2
    exact PySem.W.kia_one (Zoh kc) I.kIn hA e (by intro z; cases z) fin
 ·cases r with
  | cons r1 r=>cases r with
   | cons r2 r =>
    cases r
    obtain rfl:=r1
    obtain rfl:=r2
    exact PySem.W.kia_one (Zoh kc) I.kIn hA e (by intro z; cases z) fin⟩
section
variable {P:Program}{w:World}{K:uFg}{mg:Str->Option Value}{base:Heap}
theorem Fun.ok0 {x qual:Str}{st:Stmt}{f:Addr}{fd:FuncData}{N ps:List Str}{k:Nat}{sp:Sp}(F:Fun K x qual st f fd) (S:FnScope N ps (Za st)) (len:∀ vs H Q E,sp vs H Q E->vs.length=ps.length)
  (hbody:∀ (cdv:Value) (A:Around) (outer:List Env) (s:Shared) (H:Hp) (vs:List V) (Q:VK) (E:XK),Room k (A.deeper (envOfC qual (Za st) s.heap.objs.size f cdv))->sp vs H Q E ->
   ∃ t,QSs0 (Ye CX0 P w K mg base N qual (Za st) f cdv A outer s H E).nox (Yx st) t/\t {nx:=fun _ H'=>Q .non H',rt:=Q } (start N vs) H):FnOk P w K mg base CX0 (k+1) f fd ps sp:=by
 obtain ⟨oc,od,kV,doc,pm,an,cdv,ct,osl,rfl,lk,hcd⟩:=F.ex
 refine ⟨len,fun A outer s H args us vs Q E hr e0 hb r hsp=>?_⟩
 have hl:=len _ _ _ _ hsp
 have KX:K.In s.heap:=e0.mod.kin.keeps fun b o e=>(e0.bs b o e).1
 have lim:s.heap.NoLimit:=e0.mod.nolimit.keeps fun b o e=>(e0.bs b o e).1
 have hkind:∀ y∈ps.zip us,(Za st).names.lookup y.1=some .local\/((Za st).names.lookup y.1=some .cell/\((cellsFrom (s.heap.objs.size+1) (Za st).names []).lookup y.1).isSome=true):=fun ⟨n,v⟩ hy=>by
  rcases S.par n (List.of_mem_zip hy).1 with q | q
  ·exact .inl q
  ·exact .inr ⟨q,PySem.W.cellsFrom_some _ _ _ (.inl q)⟩
 refine codeAny_call_function hr.depth (KX _ _ lk) rfl S.co S.gen rfl (PySem.W.codeRec_of KX hcd) (hb _ _ _ _ ?_)
 refine wpAny_newFunctionEnv_cells S.kind hkind fun env he s1 x=>?_
 subst he
 refine ⟨lim.keeps x.toInCall.keep,codeAny_func ?_⟩
 obtain ⟨t,ht,hq⟩:=hbody cdv A outer s H vs Q E (hr.deeper _) hsp
 have I0:Inv (Ye CX0 P w K mg base N qual (Za st) f cdv A outer s H E) [] (start N vs) H s1:=Zhf S hr.hd e0 hl r x
 have I:Inv (Ye CX0 P w K mg base N qual (Za st) f cdv A outer s H E).nox [] (start N vs) H s1:=⟨⟨I0.ok.mod,I0.ok.kind,I0.ok.glob,I0.ok.blt,I0.ok.above,I0.ok.inj,I0.ok.has,I0.ok.cab,I0.ok.hd,I0.ok.frames,I0.ok.stk,I0.ok.exf,I0.ok.bs,I0.ok.bsz,I0.ok.noex,I0.ok.exfs,I0.ok.funs,I0.ok.frf⟩,I0.os,I0.bare,I0.base,I0.loc,I0.cell,I0.free,I0.freeC,I0.pin,I0.hok,I0.len⟩
 refine wpAny_mono (ht.h s1 (start N vs) H _ I hq) (fun fl s' hs=>?_) fun e s' hs=>hs.elim
 have fin:∀ {σ':St}{H':Hp}{v:V}{u:Value},Inv (Ye CX0 P w K mg base N qual (Za st) f cdv A outer s H E).nox [] σ' H' s'->RelV v u->Q v H'->CE outer P w H s Q u s' :=
  fun {σ' H' v u} J rv q=>⟨v,H',J.os,J.bare,J.base,J.hok,rv,q⟩
 cases fl with
 | ret u =>
  obtain ⟨v,σ',H',J,rv,q⟩:=hs
  exact fin J rv q
 | next =>
  obtain ⟨σ',H',J,q⟩:=hs
  exact fin (v:=V.non) (u:=Value.none) J rfl q
 | brk=>obtain ⟨_,_,_,z⟩:=hs; exact z.elim
 | cont=>obtain ⟨_,_,_,z⟩:=hs; exact z.elim
theorem Has.fn0 {x:Str}{st:Stmt}{N ps:List Str}{k:Nat}{sp:Sp}(h:Has K mg x st) (S:FnScope N ps (Za st))
  (hb:∀ (kV doc pm:Value) (an:Option Addr) (cdv ct:Value) (us:List Value),us.length=ps.length->bindArgs (PySem.W.fnOf x x (Vf st) (Yx st) (Za st) .none kV doc pm an cdv ct) ⟨us,[]⟩=pure (ps.zip us))
  (len:∀ vs H Q E,sp vs H Q E->vs.length=ps.length)
  (hbody:∀ (f:Addr) (cdv:Value) (A:Around) (outer:List Env) (s:Shared) (H:Hp) (vs:List V) (Q:VK) (E:XK),Room k (A.deeper (envOfC x (Za st) s.heap.objs.size f cdv))->sp vs H Q E ->
   ∃ t,QSs0 (Ye CX0 P w K mg base N x (Za st) f cdv A outer s H E).nox (Yx st) t/\t {nx:=fun _ H'=>Q .non H',rt:=Q } (start N vs) H):Fn P w K mg base x ps (k+1) sp:=by
 obtain ⟨f,fd,F,hm⟩:=h
 exact ⟨f,fd,hm,F.kp,F.binds hb,F.ok0 S len (hbody f)⟩
end
theorem Zqu {CX:CXT}{P:Program}{w:World}{K:uFg}{mg:Str->Option Value}{base:Heap}{N:List Str}{qual:Str}{scope:Scope}{f:Addr}{cd:Value}{A:Around}{outer:List Env}{s:Shared}{H:Hp}{E:XK} :
  Pl (Ye CX P w K mg base N qual scope f cd A outer s H E).nox:=⟨rfl,rfl,rfl,rfl⟩
structure Er (K:uFg) (mg:Str->Option Value) (c:Str->Addr) (errs:List Str):Prop where
 g:∀ x,x∈errs->mg x=some (.ref (c x))
 x:∀ x,x∈errs->Zaq K (c x)=true
 k:∀ x,x∈errs->Ui K (c x)=true
 m:mg "MootError" = some (.ref (c "MootError"))
 e:∀ x,x∈errs->U4 K (c x) (c "MootError")=some true
 s:∀ x,x∈errs->∀ y,y∈errs->U4 K (c x) (c y)=some (decide (x=y))
 i:∀ x,x∈errs->∀ y,y∈errs->PySem.W.kitOne K (.ref (c x)) (.ref (c y))=some (decide (x=y))
 v:∀ x,x∈errs->PySem.W.kitOne K (.ref (c x)) (.type "ValueError")=some true
end L2
end
section
namespace L2
open PySem PySem.Spec PyProof.Rows
def erB (K:uFg) (c:Str->Addr) (errs:List Str):Bool :=
 decide (PySem.W.nsIn K mainGlobals "MootError" = some (some (.ref (c "MootError")))) && errs.all fun x=>decide (PySem.W.nsIn K mainGlobals x=some (some (.ref (c x)))) && Zaq K (c x) && Ui K (c x) && decide (U4 K (c x) (c "MootError")=some true) && decide (PySem.W.kitOne K (.ref (c x)) (.type "ValueError")=some true) &&
  errs.all fun y=>decide (U4 K (c x) (c y)=some (decide (x=y))) && decide (PySem.W.kitOne K (.ref (c x)) (.ref (c y))=some (decide (x=y)))
theorem Z4k {K:uFg}{h:Heap}{mg:Str->Option Value}{c:Str->Addr}{errs:List Str}(X:K.In h) (G:h.Ns mainGlobals mg) (e:erB K c errs=true):Er K mg c errs:=by
 unfold erB at e
 rw [yI,List.all_eq_true] at e
 obtain ⟨e0,e⟩:=e
 have e1:∀ x,x∈errs->(((((PySem.W.nsIn K mainGlobals x=some (some (.ref (c x)))/\Zaq K (c x)=true)/\Ui K (c x)=true)/\U4 K (c x) (c "MootError")=some true)/\PySem.W.kitOne K (.ref (c x)) (.type "ValueError")=some true)/\∀ y,y∈errs->U4 K (c x) (c y)=some (decide (x=y))/\PySem.W.kitOne K (.ref (c x)) (.ref (c y))=some (decide (x=y))):=fun x hx=>by
  have:=e x hx
  simp only [yI,decide_eq_true_eq,List.all_eq_true] at this
  exact this
 exact ⟨fun x hx=>PySem.W.mg_of X G (e1 x hx).1.1.1.1.1,fun x hx=>(e1 x hx).1.1.1.1.2,fun x hx=>(e1 x hx).1.1.1.2,PySem.W.mg_of X G (yD e0),fun x hx=>(e1 x hx).1.1.2,fun x hx y hy=>((e1 x hx).2 y hy).1,fun x hx y hy=>((e1 x hx).2 y hy).2,fun x hx=>(e1 x hx).1.2⟩
end L2
end
section
namespace L2
open PySem PySem.Spec PyProof.Rows
section
variable {X:Cx}
def Zqv (K:uFg):R2:=fun x y H Q=>∃ (a b:Addr) (is:List Bool),x = .ref a/\y = .ref b/\SqL K H a (is.map V.bl)/\SqL K H b (is.map V.bl)/\Q (.bl false) H
theorem Zdh:∀ {is:List Bool}{its:List Value},Vals (is.map V.bl) its->its=is.map Value.bool
 | [],_,.nil=>rfl
 | i::is,_,.cons r rr=>by
  have h:=Zdh rr
  obtain rfl:=r
  rw [h]; rfl
theorem Zzx (hu:X.A.units < cLine):OpR X (compareOp .NotEq) (Zqv X.K):=by
 intro pins s σ H x y v u Q I rx ry ⟨a,b,is,ex,ey,ha,hb,q⟩
 subst ex ey
 obtain rfl:v=Value.ref a:=rx
 obtain rfl:u=Value.ref b:=ry
 obtain ⟨i1,r1,p1,_⟩:=I.list ha
 obtain ⟨i2,r2,p2,_⟩:=I.list hb
 obtain rfl:=Zdh r1
 obtain rfl:=Zdh r2
 have h:=SeqAt.RcNeAt.lists (A:=X.A) (e:=fun _=>true) p1.isList p2.isList rfl hu (fun j h1 h2=>by
  show SeqAt.EqAt _ _ _ _ true
  have hj:j < is.length:=by simpa using h1
  have f1:(is.map Value.bool).toArray[j] = .bool is[j]:=by simp
  rw [f1]
  rw [← beq_self_eq_true is[j]]
  exact SeqAt.EqAt.bool_bool _ _)
 rw [show (!(List.range (is.map Value.bool).toArray.size).all fun _=>true)=false by simp] at h
 exact h X.prog X.w _ _ ⟨.bl false,H,I,rfl,q⟩
theorem Zyb {k:Nat}(hr:Room k X.A):QOp X (compareOp .NotEq) (Zqv X.K):=⟨Zzx hr.units0⟩
end
end L2
end
section
namespace L2
open PySem PySem.Spec PyProof.Rows
section
variable {X:Cx}
def Zqw (K:uFg):R2:=fun x y H Q=>∃ (a b:Addr) (is:List Bool),x = .ref a/\y = .ref b/\SqL K H a (is.map V.bl)/\SqL K H b (is.map V.bl)/\Q (.bl true) H
theorem Zzy (hu:X.A.units < cLine):OpR X (compareOp .Eq) (Zqw X.K):=by
 intro pins s σ H x y v u Q I rx ry ⟨a,b,is,ex,ey,ha,hb,q⟩
 subst ex ey
 obtain rfl:v=Value.ref a:=rx
 obtain rfl:u=Value.ref b:=ry
 obtain ⟨i1,r1,p1,_⟩:=I.list ha
 obtain ⟨i2,r2,p2,_⟩:=I.list hb
 obtain rfl:=Zdh r1
 obtain rfl:=Zdh r2
 have h:=SeqAt.RcAt.lists (A:=X.A) (e:=fun _=>true) p1.isList p2.isList rfl hu (fun j h1 h2=>by
  show SeqAt.EqAt _ _ _ _ true
  have hj:j < is.length:=by simpa using h1
  have f1:(is.map Value.bool).toArray[j] = .bool is[j]:=by simp
  rw [f1]
  rw [← beq_self_eq_true is[j]]
  exact SeqAt.EqAt.bool_bool _ _)
 rw [show ((List.range (is.map Value.bool).toArray.size).all fun _=>true)=true by simp] at h
 exact h X.prog X.w _ _ ⟨.bl true,H,I,rfl,q⟩
theorem Zyc {k:Nat}(hr:Room k X.A):QOp X (compareOp .Eq) (Zqw X.K):=⟨Zzy hr.units0⟩
end
end L2
end
namespace Law
open PySem L2
local macro_rules | `(tactic| walk_at "hp")=>`(tactic| first | exact upd_same | assumption | (rw [Zh (by first | assumption | (apply Ne.symm; assumption))]; walk_at "hp"))
local macro_rules | `(tactic| walk_at "sq")=>`(tactic| first | assumption | exact SqL.of (by walk_at "hp"))
local macro_rules | `(tactic| walk_at "dc")=>`(tactic| first | decide | assumption | lia)
local macro_rules | `(tactic| walk_at "rd1")=>`(tactic| first | refine Yb ?_ | refine Yt ?_ | refine Yc (fun _=>?_) (fun _=>?_) | refine Uo (fun _=>?_) (fun _=>?_) | refine iteB (fun _=>?_) (fun _=>?_) | refine ⟨_,rfl,?_⟩ | refine ⟨_,_,rfl,rfl,?_⟩ | refine ⟨(.inr ⟨by decide,by decide⟩:CMul _ _),?_⟩ | refine ⟨(⟨by walk_at "dc", by walk_at "dc"⟩:Zk6 _ _),?_⟩ | refine ⟨(⟨by decide,by decide,by decide⟩:Zdy _ _),?_⟩ | refine ⟨(show (0:Int) < _ by walk_at "dc"),?_⟩ | refine ⟨_,_,_,_,rfl,rfl,(by walk_at "sq"),(by rfl),?_⟩ | refine ⟨_,_,_,_,rfl,rfl,(by walk_at "sq"),Z1c (by lia) (by lia),?_⟩ | refine ⟨_,_,_,_,rfl,rfl,(by walk_at "hp"),(by rfl),?_⟩ | refine ⟨_,_,rfl,.inl (by walk_at "sq"),?_⟩ | fail "rd")
local macro_rules | `(tactic| walk_at "rd")=>`(tactic| repeat' walk_at "rd1")
def top (i:Nat):Stmt:=PySem.Challenge.pw_forsworn_k11_cases_that_are_not_there.main.body.getD i (.Pass ⟨0,0,0,0⟩)
structure Txt (mg:Str->Option Value):Prop where
 len:mg "len" = none
 list:mg "list" = none
 range:mg "range" = none
 isinstance:mg "isinstance" = none
 bool:mg "bool" = none
 int:mg "int" = none
 str:mg "str" = none
 tuple:mg "tuple" = none
 zip:mg "zip" = none
 min:mg "min" = none
 max:mg "max" = none
 sorted:mg "sorted" = none
 sum:mg "sum" = none
 enumerate:mg "enumerate" = none
 reversed:mg "reversed" = none
 all:mg "all" = none
 ValueError:mg "ValueError" = none
section
variable {P:Program}{w:World}{K:uFg}{mg:Str->Option Value}{base:Heap}
def Zsb (K:uFg):Sp:=fun vs H Q _=>∃ (a:Addr) (ns:List Int),vs = [.ref a]/\SqL K H a (ns.map V.int)/\∀ (s la:Addr) (H':Hp),H s=none->H la=none->SrcAt H' s la->Same H H'->Q (.ref s) H'
abbrev Zdn:Stmt:=top 46
theorem Z4l:FnScope ["_law_script"] ["_law_script"] (Za Zdn):=⟨rfl,rfl,rfl,by decide +kernel,rfl,by decide +kernel,by decide +kernel⟩
theorem Z4m:Nm (Za Zdn) "_law_script" .local:=by decide +kernel
theorem Z4n:Nm (Za Zdn) "list" .globalImplicit:=by decide +kernel
theorem Z4o (Zje:Has K mg "_law_src" Zdn) (T:Txt mg):Fn P w K mg base "_law_src" ["_law_script"] 1 (Zsb K):=by
 refine Zje.fnQ Z4l (fun _ _ _ _ _ _ us hl=>match us,hl with | [_],_=>rfl) (fun vs H Q E h=>?_) (fun f cdv A outer s H vs Q E hr h=>?_)
 ·obtain ⟨a,ns,rfl,_⟩:=h
  rfl
 ·obtain ⟨a,ns,rfl,hS,k⟩:=h
  refine ⟨_,(Zg (Zo (Yq (Zb (Zhc Zg6 Z4n T.list Ziq (Zb (Ut Zc2 (qvN 0 Z4m) Ur (Us Zd)) Zc)) (Zb Zd (Zb Zd (Zb Zd (Zb Zd Zc)))))))),?_⟩
  refine ⟨_,rfl,_,rfl,a,_,rfl,hS,fun l hl=>?_⟩
  have hc:∃ ms:List Int,Vq (ns.map V.int) none (some 63)=ms.map V.int:=by
   unfold Vq
   rw [← List.map_drop,← List.map_take]
   exact ⟨_,rfl⟩
  obtain ⟨ms,ec⟩:=hc
  refine ⟨l,_,rfl,.inl (SqL.of upd_same),fun l2 hl2=>⟨by show 5<=sizeLine; decide,fun s hs=>?_⟩⟩
  have n1:l2≠l:=fun z=>by rw [z,upd_same] at hl2; cases hl2
  have s1:Same H (upd H l (.lst (Vq (ns.map V.int) none (some 63)))):=Same.new hl
  have s2:=s1.trans (Same.new (o:=.lst (Vq (ns.map V.int) none (some 63))) hl2)
  have n2:l2≠s:=fun z=>by rw [← z,upd_same] at hs; cases hs
  refine k s l2 _ (s2.free hs) (s1.free hl2) ⟨ms,0,0,1,0,upd_same,by rw [Zh n2,upd_same,ec],by decide,n2⟩ (s2.trans (Same.new hs))
def Ua:Sp:=fun vs H Q _=>∃ (s la:Addr) (b:Int),vs = [.ref s,.int b]/\SrcAt H s la/\0 < b/\b < 1073741824/\∀ (d:Int) (H':Hp),0<=d->d < b->SrcAt H' s la->SameX s H H'->Q (.int d) H'
abbrev Zar:Stmt:=top 47
theorem Zfn:FnScope ["_law_src_here", "_law_base", "_law_cell", "_law_digit"] ["_law_src_here", "_law_base"] (Za Zar):=⟨rfl,rfl,rfl,by decide +kernel,rfl,by decide +kernel,by decide +kernel⟩
theorem Zld:Nm (Za Zar) "_law_base" .local:=by decide +kernel
theorem Zdz:Nm (Za Zar) "_law_cell" .local:=by decide +kernel
theorem Zsc:Nm (Za Zar) "_law_digit" .local:=by decide +kernel
theorem Wd:Nm (Za Zar) "_law_src_here" .local:=by decide +kernel
theorem Z4p:Nm (Za Zar) "len" .globalImplicit:=by decide +kernel
theorem Z4q (Zjf:Has K mg "_law_next" Zar) (T:Txt mg):Fn P w K mg base "_law_next" ["_law_src_here", "_law_base"] 1 Ua:=by
 refine Zjf.fnQ Zfn (fun _ _ _ _ _ _ us hl=>match us,hl with | [_,_],_=>rfl) (fun vs H Q E h=>?_) (fun f cdv A outer s H vs Q E hr h=>?_)
 ·obtain ⟨s,la,b,rfl,_⟩:=h
  rfl
 ·obtain ⟨s,la,b,rfl,⟨ns,i,big,st,cnt,hs,hla,hi,hne⟩,hb0,hb1,k⟩:=h
  refine ⟨_,(Ze (Zbw (Zn Yr (Zi Zz (qvN 0 Wd) Zd (fun _ _=>rfl)) Zd) (Zbx (qvN 0 Wd) Zd Zbl))
 (Ze (Zy (Zw Zdf (Zi Zz (qvN 0 Wd) Zd (fun _ _=>rfl)) Zd (Z1 _)) (Ze (Zl (i:=2) Zfn.nd Zdz Zd)
 (Ze (Zy (Zw Uu (Zi Zz (qvN 0 Wd) Zd (fun _ _=>rfl)) (Z6 Y9 Z4p T.len Yy (Zb (Zi Zz (qvN 0 Wd) Zd (fun _ _=>rfl)) Zc)) (Z1 _)) (Ze (Zl (i:=2) Zfn.nd Zdz (Zi Zz (Zi Zz (qvN 0 Wd) Zd (fun _ _=>rfl)) (Zi Zz (qvN 0 Wd) Zd (fun _ _=>rfl)) (fun _ _=>rfl)))
 (Zg (Zbw (Zn Yr (Zi Zz (qvN 0 Wd) Zd (fun _ _=>rfl)) Zd) (Zbx (qvN 0 Wd) Zd Zbl)))) Z0)
 (Ze (Zbw (Zn Zbt (Zn Yr (Zn Yr (Zn Zph (Zi Zz (qvN 0 Wd) Zd (fun _ _=>rfl)) Zd) (Zn Zbt (qvN 2 Zdz) Zd)) (Zi Zz (qvN 0 Wd) Zd (fun _ _=>rfl))) Zd) (Zbx (qvN 0 Wd) Zd Zbl))
 (Zg (Zy (Zw Zis (qvN 2 Zdz) (Zn Zh8 Zd Zd) (Z1 _)) (Zg (Zbw (qvN 2 Zdz) (Zbx (qvN 0 Wd) Zd Zbl))) Z0))))) Z0)
 (Ze (Zy (Zw Z3g (Zi Zz (qvN 0 Wd) Zd (fun _ _=>rfl)) Zd (Z1 _)) (Ze (Zl (i:=3) Zfn.nd Zsc (Zn Zbt (Zi Zz (qvN 0 Wd) Zd (fun _ _=>rfl)) (qvN 1 Zld)))
 (Ze (Zbw (Zn Zek (Zi Zz (qvN 0 Wd) Zd (fun _ _=>rfl)) (qvN 1 Zld)) (Zbx (qvN 0 Wd) Zd Zbl))
 (Zg (Zo (qvN 3 Zsc))))) Z0)
 (Zg (Zo (Zn Zbt (Zn Zek (Zn Zbt (Zn Zph (Zi Zz (qvN 0 Wd) Zd (fun _ _=>rfl)) Zd) Zd) Zd) (qvN 1 Zld))))))),?_⟩
  have fin:∀ (H1:Hp) (i' big st cnt d:Int),0<=d->d < b->SameX s H H1->H1 s=some (.lst [.ref la,.int i',.int big,.int st,.int cnt])->0<=i'->Q (.int d) H1:=fun H1 i' big st cnt d h0 h1 sx hs1 hi1 =>
   k d H1 h0 h1 ⟨ns,i',big,st,cnt,hs1,sx _ _ hne hla,hi1,hne⟩ sx
  walk_at "rd"
  all_goals refine fin _ _ _ _ _ _ (Int.emod_nonneg _ (by lia)) (Int.emod_lt_of_pos _ hb0) ?_ upd_same (by lia)
  all_goals repeat (first | exact SameX.refl | refine SameX.trans ?_ SameX.upd)
end
section
variable {P:Program}{w:World}{K:uFg}{mg:Str->Option Value}{base:Heap}
def Ziz:Sp:=fun vs H Q _=>∃ (s la:Addr) (n:Int),vs = [.ref s,.int n]/\SrcAt H s la/\0<=n/\n<=100/\∀ (x:Str) (H':Hp),(x.length:Int)=n->Low x->SrcAt H' s la->SameX s H H'->Q (.str x) H'
theorem Zvz (cl:List Nat):(List.map cs (cl.map fun c=>(⟨#[c]⟩:Str))).flatten=cl:=by
 induction cl with
 | nil=>rfl
 | cons c r ih=>rw [xQ,xQ,List.flatten_cons,ih]; rfl
abbrev Za8:Stmt:=top 49
theorem Zsd:FnScope ["_law_src_here", "_law_many", "_law_letters"] ["_law_src_here", "_law_many"] (Za Za8):=⟨rfl,rfl,rfl,by decide +kernel,rfl,by decide +kernel,by decide +kernel⟩
theorem Zse:Nm (Za Za8) "_law_letters" .cell:=by decide +kernel
theorem Z4r:Nm (Za Za8) "_law_many" .local:=by decide +kernel
theorem Z4s:Nm (Za Za8) "_law_src_here" .cell:=by decide +kernel
theorem Z4t:Nm (Za Za8) "range" .globalImplicit:=by decide +kernel
theorem Z4u (Zjg:Has K mg "_law_word" Za8) (T:Txt mg) (Z7:Fn P w K mg base "_law_next" ["_law_src_here", "_law_base"] 1 Ua):Fn P w K mg base "_law_word" ["_law_src_here", "_law_many"] 2 Ziz:=by
 refine Zjg.fnQ Zsd (fun _ _ _ _ _ _ us hl=>match us,hl with | [_,_],_=>rfl) (fun vs H Q E h=>?_) (fun f cdv A outer s H vs Q E hr h=>?_)
 ·obtain ⟨s,la,n,rfl,_⟩:=h
  rfl
 ·obtain ⟨s,la,n,rfl,hsrc,hn0,hn1,k⟩:=h
  refine ⟨_,(Ze (Zhs (i:=2) Zsd.nd Zse Zir)
 (Zg (Zo (Ww F.plainAttrs_str F.slot_str_join F.type_str_join Zze Zir (Zb (Wr (locs:=["_law_k"]) (fr:=[("_law_src_here", 0),("_law_letters", 2)]) ⟨rfl,by decide +kernel,by decide +kernel,by decide +kernel,by decide +kernel,by decide +kernel⟩ (.consN Z4s (.consN Zse .nil)) rfl (Zbm Z4t.1 T.range (Zb (qvN 1 Z4r) Zc)) ⟨fun _ _ _ _ _ _=>by
  have cnd:(inN ["_law_k"] [("_law_src_here", 0),("_law_letters", 2)]).Nodup:=by decide +kernel
  exact ⟨(Z8 0 cnd),Vg,(Zi Zh9 (Y4 2) (Zj Z7 (hr.mono (by lia)) nmC (Zb (Y4 1) (Zb Zd Zc))) (fun _ _=>rfl))⟩⟩) Zc))))),?_⟩
  refine ⟨rfl,_,rfl,n,rfl,by lia,by lia,?_⟩
  refine Zmq (n:=n.toNat) (fun i ys H2=>SrcAt H2 s la/\SameX s H H2/\∃ cl:List Nat,cl.length=i/\ys=cl.map (fun c=>V.str ⟨#[c]⟩)/\∀ c∈cl,97<=c/\c<=122) ⟨hsrc,SameX.refl,[],rfl,rfl,(fun _ z=>nomatch z)⟩ (by lia) ?_ ?_ ?_
  ·rintro i ys H2 ⟨_,_,cl,h1,rfl,_⟩
   rw [xA]; lia
  ·rintro i ys H2 hi ⟨hs2,sx2,cl,h1,rfl,hc⟩ ls hls
   obtain ⟨a,rfl⟩:=Zck hls
   refine ⟨⟨[_],rfl,rfl⟩,?_⟩
   walk_at "rd"
   refine ⟨s,la,26,rfl,hs2,by decide,by decide,fun d H3 d0 d1 hs3 sx3=>?_⟩
   refine ⟨letters,d,_,rfl,rfl,by decide,Zhb d0 d1,hs3,sx2.trans sx3,cl ++ [97+d.toNat],by rw [xL,h1]; rfl,by rw [xP]; rfl,fun c hc'=>?_⟩
   rcases xO.mp hc' with z | z
   ·exact hc c z
   ·have:c=97+d.toNat:=by simpa using z
    lia
  ·rintro ys H2 ⟨hs2,sx2,cl,h1,rfl,hc⟩ l hl
   have e:(cl.map fun c=>V.str ⟨#[c]⟩)=(cl.map fun c=>(⟨#[c]⟩:Str)).map V.str:=by rw [yZ]; rfl
   have sumlen:∀ l:List Nat,((l.map fun c=>(⟨#[c]⟩:Str)).map (·.length)).sum=l.length:=by
    intro l
    induction l with
    | nil=>rfl
    | cons c r ih=>rw [xQ,xQ,yP,ih,xS]; show 1+r.length=_; lia
   refine ⟨_,l,cl.map fun c=>(⟨#[c]⟩:Str),rfl,rfl,SqL.of (by rw [upd_same,e]),?_,?_⟩
   ·rw [sumlen,xA]
    show cl.length+cl.length * 0<=16777216
    lia
   ·have ej:cs (Txt.join "" (cl.map fun c=>(⟨#[c]⟩:Str)))=cl:=by rw [Zy9,Zvz]
    refine k _ _ ?_ (fun c hc'=>hc c (by rw [ej] at hc'; exact hc')) (hs2.keep (Same.new hl)) (sx2.trans (SameX.new hl))
    rw [← Wo,ej,h1]
    lia
end
theorem ph {α:Type} [DecidableEq α]:∀ (L M:List α),L.Nodup->(∀ a∈L,a∈M)->L.length<=M.length
 | [],_,_,_=>yT _
 | a::L,M,nd,h=>by
  obtain ⟨n1,n2⟩:=List.nodup_cons.mp nd
  have ha:=h a xI
  have:=ph L (M.erase a) n2 fun b hb=>(List.mem_erase_of_ne (fun (e:b=a)=>n1 (by rw [← e]; exact hb))).mpr (h b (xN _ hb))
  rw [List.length_erase_of_mem ha] at this
  have hp : 0 < M.length:=List.length_pos_of_mem ha
  rw [xS]
  lia
def Ws (stem:Str) (j:Nat):Str:=stem++⟨#[97+j % 26]⟩++⟨#[97+j / 26]⟩
theorem Zex (stem:Str) (j:Nat):cs (Ws stem j)=cs stem ++ [97+j % 26,97+j / 26]:=by
 unfold Ws
 rw [Ze9,Ze9]
 simp [cs]
theorem Zzz {stem:Str}{i j:Nat}(h:Ws stem i=Ws stem j):i=j:=by
 have e:cs (Ws stem i)=cs (Ws stem j):=by rw [h]
 rw [Zex,Zex] at e
 have e2:=List.append_cancel_left e
 injection e2 with e3 e4
 injection e4 with e5 _
 lia
theorem Zoi (stem:Str) (j:Nat):(Ws stem j).length=stem.length+2:=by
 rw [← Wo,Zex,xL,Wo]
 rfl
theorem Zz0 {stem:Str}{j:Nat}(h:Low stem) (hj:j < 676):Low (Ws stem j):=by
 intro c hc
 rw [Zex] at hc
 rcases xO.mp hc with z | z
 ·exact h c z
 ·simp at z
  lia
theorem Zvm {names:List Str}{stem:Str}(h:∀ j,j < names.length->Ws stem j∈names):Ws stem names.length∉names:=by
 intro hm
 have nd:((List.range (names.length+1)).map (Ws stem)).Nodup:=by
  rw [List.nodup_iff_pairwise_ne,List.pairwise_map]
  exact List.Pairwise.imp (fun h e=>h (Zzz e)) (List.nodup_iff_pairwise_ne.mp List.nodup_range)
 have:=ph _ names nd fun a ha=>by
  obtain ⟨j,hj,rfl⟩:=xV.mp ha
  have hj:=yE.mp hj
  by_cases e:j=names.length
  ·rw [e]; exact hm
  ·exact h j (by lia)
 rw [xA,zC] at this
 lia
theorem Zc9 (x:Str) (names:List Str):inV (.str x) (names.map V.str)=decide (x∈names):=by
 unfold inV
 rw [List.any_map,yW,List.any_eq_true,yK]
 constructor
 ·rintro ⟨y,hy,e⟩
  have:y=x:=by simpa [eqV] using e
  rw [← this]; exact hy
 ·intro h
  exact ⟨x,h,by simp [eqV]⟩
theorem Zcy (names:List Str):(names.map V.str).all V4=true:=by
 rw [List.all_map,List.all_eq_true]
 intro x _
 rfl
def Wz (x:Str):Prop:=Low x/\1<=x.length/\x.length<=12
section
variable {P:Program}{w:World}{K:uFg}{mg:Str->Option Value}{base:Heap}
def Zem (K:uFg):Sp:=fun vs H Q _=>∃ (a:Addr) (names:List Str) (x:Str),vs = [.ref a,.str x]/\SqL K H a (names.map V.str)/\names.length<=600/\Wz x/\∀ y:Str,Wz y->y∉names->Q (.str y) H
abbrev Uj:Stmt:=top 48
theorem Zdo:FnScope ["_law_names_here", "_law_name", "_law_letters", "_law_stem", "_law_tries"] ["_law_names_here", "_law_name"] (Za Uj):=⟨rfl,rfl,rfl,by decide +kernel,rfl,by decide +kernel,by decide +kernel⟩
theorem Zle:Nm (Za Uj) "_law_letters" .local:=by decide +kernel
theorem Zd0:Nm (Za Uj) "_law_name" .local:=by decide +kernel
theorem Zsf:Nm (Za Uj) "_law_names_here" .local:=by decide +kernel
theorem Zsg:Nm (Za Uj) "_law_stem" .local:=by decide +kernel
theorem Zlf:Nm (Za Uj) "_law_tries" .local:=by decide +kernel
theorem Z4v:Nm (Za Uj) "len" .globalImplicit:=by decide +kernel
theorem Z4w:Nm (Za Uj) "range" .globalImplicit:=by decide +kernel
theorem Z4x (Zjh:Has K mg "_law_unlike" Uj) (T:Txt mg):Fn P w K mg base "_law_unlike" ["_law_names_here", "_law_name"] 1 (Zem K):=by
 refine Zjh.fnQ Zdo (fun _ _ _ _ _ _ us hl=>match us,hl with | [_,_],_=>rfl) (fun vs H Q E h=>?_) (fun f cdv A outer s H vs Q E hr h=>?_)
 ·obtain ⟨a,names,x,rfl,_⟩:=h
  rfl
 ·obtain ⟨a,names,x,rfl,hS,hn,⟨hx1,hx2,hx3⟩,k⟩:=h
  refine ⟨_,(Ze (Zl (i:=2) Zdo.nd Zle Zir)
 (Ze (Zl (i:=3) Zdo.nd Zsg (Ut Zer (qvN 1 Zd0) Ur (Us Zd)))
 (Ze (Y7 PassesOwn.never rfl (Zbm Z4w.1 T.range (Zb (Zn Yr (Z6 Y9 Z4v T.len Yy (Zb (qvN 0 Zsf) Zc)) Zd) Zc)) (Yo (i:=4) Zdo.nd Zlf)
 (Ze (Zy (Zw Zg5 (qvN 1 Zd0) (qvN 0 Zsf) rfl) (Zg (Zo (qvN 1 Zd0))) Z0)
 (Zg (Zl (i:=1) Zdo.nd Zd0 (Zn Zef (Zn Zef (qvN 3 Zsg) (Zi Zh9 (qvN 2 Zle) (Zn Zbt (qvN 4 Zlf) Zd) (fun _ _=>rfl))) (Zi Zh9 (qvN 2 Zle) (Zn Zek (qvN 4 Zlf) Zd) (fun _ _=>rfl)))))))
 (Zg (Zo (qvN 1 Zd0)))))),?_⟩
  have hz:(13:Nat)<=sizeLine:=by decide
  refine ⟨_,rfl,10,rfl,x,rfl,by lia,?_⟩
  have hst:cs (Txt.slice x none (some 10))=(cs x).take 10:=Zh7 x (by decide)
  have hstl:(Txt.slice x none (some 10)).length<=10:=by rw [← Wo,hst,xY]; lia
  have hsto:Low (Txt.slice x none (some 10)):=fun c hc=>hx1 c (by rw [hst] at hc; exact yR hc)
  show Zao _ _ _ [some (.ref a),some (.str x),some (.str letters),some (.str (Txt.slice x none (some 10))),none] H
  generalize Txt.slice x none (some 10)=stem at hstl hsto
  refine ⟨_,rfl,a,_,rfl,.inl hS,_,_,rfl,rfl,_,rfl,by lia,by rw [xA]; lia,?_⟩
  refine Zbk (names.length+1) (by rw [xA]; lia) (fun i σ H'=>H'=H/\∃ (cur:Str) (v:Option V),σ = [some (.ref a),some (.str cur),some (.str letters),some (.str stem),v]/\Wz cur/\(i=0\/cur=Ws stem (i - 1))/\∀ j,j+1 < i->Ws stem j∈names)
   ⟨rfl,x,none,rfl,⟨hx1,hx2,hx3⟩,.inl rfl,fun j hj=>by lia⟩ ?_ ?_
  ·rintro i σ H' hi ⟨rfl,cur,v,rfl,hc,hci,hal⟩
   refine ⟨_,rfl,_,rfl,a,_,rfl,.inl hS,rfl,Zcy names,_,rfl,?_⟩
   rw [Zc9]
   refine Uo (fun hnin=>?_) (fun hin=>?_)
   ·exact ⟨_,rfl,k cur hc hnin⟩
   ·have hi':i<=600:=by lia
    refine ⟨_,rfl,_,rfl,_,rfl,_,_,rfl,rfl,by show (0:Int) < 26; decide,letters,_,_,rfl,rfl,by decide,Zhb (Int.emod_nonneg _ (by decide)) (Int.emod_lt_of_pos _ (by decide)),stem,_,rfl,rfl,?_,?_⟩
    ·show stem.length+1<=sizeLine
     lia
    refine ⟨_,rfl,_,rfl,_,_,rfl,rfl,⟨by decide,by decide⟩,letters,_,_,rfl,rfl,by decide,Zhb (Int.ediv_nonneg (by lia) (by decide)) (by lia),_,_,rfl,rfl,?_,?_⟩
    ·show (stem++_).length+1<=sizeLine
     rw [PySem.Str.length_append]
     show stem.length+1+1<=sizeLine
     lia
    have e1:((0:Int)+(i:Nat)) % 26=((i % 26:Nat):Int):=by lia
    have e2:((0:Int)+(i:Nat)) / 26=((i / 26:Nat):Int):=by lia
    refine ⟨rfl,Ws stem i,some (.int (0+(i:Nat))),?_,⟨Zz0 hsto (by lia),by rw [Zoi]; lia,by rw [Zoi]; lia⟩,.inr rfl,fun j hj=>?_⟩
    ·show [some (V.ref a),some (V.str _),some (V.str letters),some (V.str stem),some (V.int _)]=_
     unfold Ws
     rw [e1,e2]
     rfl
    ·by_cases e:j+1=i
     ·rcases hci with z | z
      ·lia
      ·have:j=i - 1:=by lia
       rw [this,← z]; exact hin
     ·exact hal j (by lia)
  ·rintro σ H' ⟨rfl,cur,v,rfl,hc,hci,hal⟩
   refine ⟨_,rfl,k cur hc ?_⟩
   rcases hci with z | z
   ·lia
   ·rw [z]
    exact Zvm fun j hj=>hal j (by lia)
def Zig:Sp:=fun vs H Q _=>∃ (s la:Addr) (n:Int),vs = [.ref s,.int n]/\SrcAt H s la/\0<=n/\n<=100 /\
 ∀ (l:Addr) (names:List Str) (H':Hp),(names.length:Int)=n->names.Nodup->(∀ x∈names,Wz x)->H l=none->H' l=some (.lst (names.map V.str))->SrcAt H' s la->SameX s H H'->Q (.ref l) H'
abbrev Wp:Stmt:=top 50
theorem U5:FnScope ["_law_src_here", "_law_many", "_law_style", "_law_stem", "_law_at", "_law_names_here", "_law_k", "_law_name"] ["_law_src_here", "_law_many"] (Za Wp):=⟨rfl,rfl,rfl,by decide +kernel,rfl,by decide +kernel,by decide +kernel⟩
theorem Zlg:Nm (Za Wp) "_law_at" .local:=by decide +kernel
theorem Z4y:Nm (Za Wp) "_law_k" .local:=by decide +kernel
theorem Z4z:Nm (Za Wp) "_law_many" .local:=by decide +kernel
theorem Zf1:Nm (Za Wp) "_law_name" .local:=by decide +kernel
theorem Zf2:Nm (Za Wp) "_law_names_here" .local:=by decide +kernel
theorem Zd1:Nm (Za Wp) "_law_next" .globalImplicit:=by decide +kernel
theorem Nq2:Nm (Za Wp) "_law_src_here" .local:=by decide +kernel
theorem Zcm:Nm (Za Wp) "_law_stem" .local:=by decide +kernel
theorem Zlh:Nm (Za Wp) "_law_style" .local:=by decide +kernel
theorem Z40:Nm (Za Wp) "_law_unlike" .globalImplicit:=by decide +kernel
theorem Zli:Nm (Za Wp) "_law_word" .globalImplicit:=by decide +kernel
theorem Zsh:Nm (Za Wp) "len" .globalImplicit:=by decide +kernel
theorem Z41:Nm (Za Wp) "range" .globalImplicit:=by decide +kernel
theorem Z42 (Zji:Has K mg "_law_names" Wp) (T:Txt mg) (Z7:Fn P w K mg base "_law_next" ["_law_src_here", "_law_base"] 1 Ua) (Zjj:Fn P w K mg base "_law_word" ["_law_src_here", "_law_many"] 2 Ziz)
  (Z43:Fn P w K mg base "_law_unlike" ["_law_names_here", "_law_name"] 1 (Zem K)):Fn P w K mg base "_law_names" ["_law_src_here", "_law_many"] 3 Zig:=by
 refine Zji.fnQ U5 (fun _ _ _ _ _ _ us hl=>match us,hl with | [_,_],_=>rfl) (fun vs H Q E h=>?_) (fun f cdv A outer s H vs Q E hr h=>?_)
 ·obtain ⟨s,la,n,rfl,_⟩:=h
  rfl
 ·obtain ⟨s,la,n,rfl,hsrc,hn0,hn1,k⟩:=h
  refine ⟨_,(Ze (Zl (i:=2) U5.nd Zlh (Zj Z7 (hr.mono (by lia)) Zd1 (Zb (qvN 0 Nq2) (Zb Zd Zc))))
 (Ze (Zl (i:=3) U5.nd Zcm (Zj Zjj (hr.mono (by lia)) Zli (Zb (qvN 0 Nq2) (Zb (Zn Yr Zd (Zj Z7 (hr.mono (by lia)) Zd1 (Zb (qvN 0 Nq2) (Zb Zd Zc)))) Zc))))
 (Ze (Zl (i:=4) U5.nd Zlg (Zj Z7 (hr.mono (by lia)) Zd1 (Zb (qvN 0 Nq2) (Zb (Z6 Zmc Zsh T.len Yy (Zb (qvN 3 Zcm) Zc)) Zc))))
 (Ze (Zl (i:=5) U5.nd Zf2 (Yq Zc))
 (Ze (Y7 PassesOwn.never rfl (Zbm Z41.1 T.range (Zb (qvN 1 Z4z) Zc)) (Yo (i:=6) U5.nd Z4y)
 (Ze (Zl (i:=7) U5.nd Zf1 (Zn Zef (Zn Zef (Ut Zer (qvN 3 Zcm) Ur (Us (qvN 4 Zlg))) (Zj Zjj (hr.mono (by lia)) Zli (Zb (qvN 0 Nq2) (Zb Zd Zc)))) (Ut Zer (qvN 3 Zcm) (Us (Zn Yr (qvN 4 Zlg) Zd)) Ur)))
 (Ze (Zy (Zw We (qvN 2 Zlh) Zd (Z1 _)) (Zg (Zl (i:=7) U5.nd Zf1 (Ut Zer (qvN 3 Zcm) Ur (Us (Zn Yr Zd (Zj Z7 (hr.mono (by lia)) Zd1 (Zb (qvN 0 Nq2) (Zb (Z6 Zmc Zsh T.len Yy (Zb (qvN 3 Zcm) Zc)) Zc)))))))) Z0)
 (Ze (Zy (Zw We (qvN 2 Zlh) Zd (Z1 _)) (Zg (Zl (i:=7) U5.nd Zf1 (Zj Zjj (hr.mono (by lia)) Zli (Zb (qvN 0 Nq2) (Zb (Zn Yr Zd (Zj Z7 (hr.mono (by lia)) Zd1 (Zb (qvN 0 Nq2) (Zb Zd Zc)))) Zc))))) Z0)
 (Zg (Yl (Ww F.plainAttrs_list F.slot_list_append F.type_list_append Ug (qvN 5 Zf2) (Zb (Zj Z43 (hr.mono (by lia)) Z40 (Zb (qvN 5 Zf2) (Zb (qvN 7 Zf1) Zc))) Zc))))))))
 (Zg (Zo (qvN 5 Zf2)))))))),?_⟩
  have hz:(200:Nat)<=sizeLine:=by decide
  refine ⟨_,rfl,s,la,3,rfl,hsrc,by decide,by decide,fun style H1 st0 st1 hs1 sx1=>?_⟩
  refine ⟨_,rfl,_,rfl,s,la,11,rfl,hs1,by decide,by decide,fun d1 H2 d10 d11 hs2 sx2=>?_⟩
  refine ⟨_,_,rfl,rfl,s,la,_,rfl,hs2,by lia,by lia,fun stem H3 hl3 hlow3 hs3 sx3=>?_⟩
  refine ⟨_,rfl,_,rfl,stem,rfl,by lia,s,la,_,rfl,hs3,by lia,by lia,fun at_ H4 at0 at1 hs4 sx4=>?_⟩
  refine ⟨by show 0<=sizeLine; lia,fun l hl4=>?_⟩
  have sx:SameX s H H4:=((sx1.trans sx2).trans sx3).trans sx4
  obtain ⟨nls,nlla⟩:=hs4.ne hl4
  have hlH:H l=none:=by
   cases e:H l with
   | none=>rfl
   | some o=>exact absurd (sx l o nls e) (by rw [hl4]; simp)
  refine ⟨_,rfl,n,rfl,by lia,by lia,?_⟩
  show Zae _ _ _ _ [some (.ref s),some (.int n),some (.int style),some (.str stem),some (.int at_),some (.ref l),none,none] (upd H4 l (.lst []))
  have mkn:∀ x:Str,Low x->1<=x.length->x.length<=12->Wz x:=fun x a b c=>⟨a,b,c⟩
  refine Zbk n.toNat rfl (fun i σ H'=>∃ (names:List Str) (v1 v2:Option V),σ = [some (.ref s),some (.int n),some (.int style),some (.str stem),some (.int at_),some (.ref l),v1,v2]/\names.length=i/\names.Nodup/\(∀ x∈names,Wz x)/\H' l=some (.lst (names.map V.str))/\SrcAt H' s la/\SameX s H H')
   ⟨[],none,none,rfl,rfl,List.nodup_nil,(fun _ z=>nomatch z),upd_same,hs4.keep (Same.new hl4),sx.trans (SameX.new hl4)⟩ ?_ ?_
  ·rintro i σ H5 hi ⟨names,v1,v2,rfl,hlen,hnd,hall,hl5,hs5,sx5⟩
   have e1:cs (Txt.slice stem none (some at_))=(cs stem).take at_.toNat:=Zh7 stem at0
   have e2:cs (Txt.slice stem (some (at_+1)) none)=(cs stem).drop (at_+1).toNat:=Z1f stem (by lia)
   have l1:(Txt.slice stem none (some at_)).length<=11:=by rw [← Wo,e1,xY,Wo]; lia
   have l2:(Txt.slice stem (some (at_+1)) none).length+(at_+1).toNat=stem.length:=by rw [← Wo,e2,List.length_drop,Wo]; lia
   have l1':(Txt.slice stem none (some at_)).length=at_.toNat:=by rw [← Wo,e1,xY,Wo]; lia
   refine ⟨_,rfl,_,rfl,at_,rfl,stem,rfl,by lia,_,rfl,s,la,1,rfl,hs5,by decide,by decide,fun x1 H6 hx1 hlow1 hs6 sx6=>?_⟩
   have hl6:H6 l=some (.lst (names.map V.str)):=sx6 l _ nls hl5
   refine ⟨_,_,rfl,rfl,by lia,?_⟩
   refine ⟨_,rfl,_,rfl,_,_,rfl,rfl,_,rfl,stem,rfl,by lia,?_⟩
   have l3:(Txt.slice stem none (some at_)++x1).length=at_.toNat+1:=by rw [PySem.Str.length_append,l1']; lia
   refine ⟨_,_,rfl,rfl,by rw [l3]; lia,?_⟩
   have hname:Wz (Txt.slice stem none (some at_)++x1++Txt.slice stem (some (at_+1)) none):=by
    refine mkn _ (fun c hc=>?_) ?_ ?_
    ·rw [Ze9,Ze9,e1,e2] at hc
     rcases xO.mp hc with hc | hc
     ·rcases xO.mp hc with hc | hc
      ·exact hlow3 c (yR hc)
      ·exact hlow1 c hc
     ·exact hlow3 c (List.mem_of_mem_drop hc)
    ·rw [PySem.Str.length_append,l3]; lia
    ·rw [PySem.Str.length_append,l3]; lia
   generalize Txt.slice stem none (some at_)++x1++Txt.slice stem (some (at_+1)) none=nm0 at hname
   show Zao _ _ _ [some (.ref s),some (.int n),some (.int style),some (.str stem),some (.int at_),some (.ref l),some (.int (0+(i:Nat))),some (.str nm0)] H6
   have app:∀ (D:Ends),(∀ σ H',(∃ (names:List Str) (v1 v2:Option V),σ = [some (.ref s),some (.int n),some (.int style),some (.str stem),some (.int at_),some (.ref l),v1,v2]/\names.length=i+1/\names.Nodup/\(∀ x∈names,Wz x)/\H' l=some (.lst (names.map V.str))/\SrcAt H' s la/\SameX s H H')->D.nx σ H') ->
     ∀ (x:Str) (H6:Hp),Wz x->H6 l=some (.lst (names.map V.str))->SrcAt H6 s la->SameX s H H6 ->
     Zfj (tBM K "list" Zeo (Yu 5) (Vm (tFn (Zem K) (Vm (Yu 5) (Vm (Yu 7) Zap))) Zap)) D
      [some (.ref s),some (.int n),some (.int style),some (.str stem),some (.int at_),some (.ref l),some (.int (0+(i:Nat))),some (.str x)] H6:=by
    intro D hD x H6 hx hl6 hs6 sx6
    refine ⟨_,rfl,.inl ⟨rfl,_,SqL.of hl6⟩,_,rfl,_,rfl,l,names,x,rfl,SqL.of hl6,by lia,hx,fun y hy hny=>?_⟩
    refine ⟨l,_,_,rfl,rfl,hl6,by rw [xA]; lia,hD _ _ ⟨names ++ [y],_,_,rfl,by rw [xL,hlen]; rfl,Zpc hnd hny,fun z hz=>?_,?_,?_,?_⟩⟩
    ·rcases xO.mp hz with q | q
     ·exact hall z q
     ·have:z=y:=by simpa using q
      rw [this]; exact hy
    ·rw [upd_same,xP]; rfl
    ·exact hs6.keepX SameX.upd nls nlla
    ·intro b o hb e
     have:b≠l:=fun z=>by rw [z,hlH] at e; cases e
     rw [Zh this]
     exact sx6 b o hb e
   have step2:∀ (D:Ends),(∀ σ H',(∃ (names:List Str) (v1 v2:Option V),σ = [some (.ref s),some (.int n),some (.int style),some (.str stem),some (.int at_),some (.ref l),v1,v2]/\names.length=i+1/\names.Nodup/\(∀ x∈names,Wz x)/\H' l=some (.lst (names.map V.str))/\SrcAt H' s la/\SameX s H H')->D.nx σ H') ->
     ∀ (x:Str) (H6:Hp),Wz x->H6 l=some (.lst (names.map V.str))->SrcAt H6 s la->SameX s H H6 ->
     Zao (Zk2 (Zdj (tOp rEq (Yu 2) (tC (.int 2)))) (Uf (tFn Ziz (Vm (Yu 0) (Vm (tOp (rI0 fun i j=>.int (i+j)) (tC (.int 1)) (tFn Ua (Vm (Yu 0) (Vm (tC (.int 12)) Zap)))) Zap))) (Yv 7)) Y1)
      (Zfj (tBM K "list" Zeo (Yu 5) (Vm (tFn (Zem K) (Vm (Yu 5) (Vm (Yu 7) Zap))) Zap))) D
      [some (.ref s),some (.int n),some (.int style),some (.str stem),some (.int at_),some (.ref l),some (.int (0+(i:Nat))),some (.str x)] H6:=by
    intro D hD x H6 hx hl6 hs6 sx6
    refine ⟨_,rfl,rfl,_,rfl,Yc (fun _=>?_) (fun _=>?_)⟩
    ·refine ⟨_,rfl,_,rfl,s,la,12,rfl,hs6,by decide,by decide,fun d H7 d0 d1 hs7 sx7=>?_⟩
     refine ⟨_,_,rfl,rfl,s,la,_,rfl,hs7,by lia,by lia,fun y H8 hy1 hy2 hs8 sx8=>?_⟩
     exact app D hD y H8 ⟨hy2,by lia,by lia⟩ (sx8 l _ nls (sx7 l _ nls hl6)) hs8 ((sx6.trans sx7).trans sx8)
    ·exact app D hD x H6 hx hl6 hs6 sx6
   refine ⟨_,rfl,rfl,_,rfl,Yc (fun _=>?_) (fun _=>?_)⟩
   ·refine ⟨_,rfl,_,rfl,_,rfl,stem,rfl,by lia,s,la,_,rfl,hs6,by lia,by lia,fun d H7 d0 d1 hs7 sx7=>?_⟩
    refine ⟨_,_,rfl,rfl,_,rfl,stem,rfl,by lia,?_⟩
    have e3:cs (Txt.slice stem none (some (1+d)))=(cs stem).take (1+d).toNat:=Zh7 stem (by lia)
    refine step2 _ (fun σ H' h=>h) _ H7 ⟨fun c hc=>hlow3 c (by rw [e3] at hc; exact yR hc),?_,?_⟩ (sx7 l _ nls hl6) hs7 ((sx5.trans sx6).trans sx7)
    ·rw [← Wo,e3,xY,Wo]; lia
    ·rw [← Wo,e3,xY,Wo]; lia
   ·exact step2 _ (fun σ H' h=>h) nm0 H6 hname hl6 hs6 (sx5.trans sx6)
  ·rintro σ H5 ⟨names,v1,v2,rfl,hlen,hnd,hall,hl5,hs5,sx5⟩
   exact ⟨_,rfl,k l names H5 (by lia) hnd hall hlH hl5 hs5 sx5⟩
end
section
variable {P:Program}{w:World}{K:uFg}{mg:Str->Option Value}{base:Heap}
def Zoj:Sp:=fun vs H Q _=>∃ (s la:Addr),vs = [.ref s]/\SrcAt H s la/\∀ (d:Int) (H':Hp),1<=d->d<=1000->SrcAt H' s la->SameX s H H'->Q (.int d) H'
abbrev Zb3:Stmt:=top 51
theorem Zsi:FnScope ["_law_src_here", "_law_kind"] ["_law_src_here"] (Za Zb3):=⟨rfl,rfl,rfl,by decide +kernel,rfl,by decide +kernel,by decide +kernel⟩
theorem Zlj:Nm (Za Zb3) "_law_kind" .local:=by decide +kernel
theorem Zf3:Nm (Za Zb3) "_law_next" .globalImplicit:=by decide +kernel
theorem Zf4:Nm (Za Zb3) "_law_src_here" .local:=by decide +kernel
theorem Z44 (Zjk:Has K mg "_law_weight" Zb3) (T:Txt mg) (Z7:Fn P w K mg base "_law_next" ["_law_src_here", "_law_base"] 1 Ua):Fn P w K mg base "_law_weight" ["_law_src_here"] 2 Zoj:=by
 refine Zjk.fnQ Zsi (fun _ _ _ _ _ _ us hl=>match us,hl with | [_],_=>rfl) (fun vs H Q E h=>?_) (fun f cdv A outer s H vs Q E hr h=>?_)
 ·obtain ⟨s,la,rfl,_⟩:=h
  rfl
 ·obtain ⟨s,la,rfl,hsrc,k⟩:=h
  refine ⟨_,(Ze (Zl (i:=1) Zsi.nd Zlj (Zj Z7 (hr.mono (by lia)) Zf3 (Zb (qvN 0 Zf4) (Zb Zd Zc))))
 (Ze (Zy (Zw We (qvN 1 Zlj) Zd (Z1 _)) (Zg (Zo (Zn Yr Zd (Zj Z7 (hr.mono (by lia)) Zf3 (Zb (qvN 0 Zf4) (Zb Zd Zc)))))) Z0)
 (Ze (Zy (Zw We (qvN 1 Zlj) Zd (Z1 _)) (Zg (Zo (Zn V7 Zd (Zj Z7 (hr.mono (by lia)) Zf3 (Zb (qvN 0 Zf4) (Zb Zd Zc)))))) Z0)
 (Zg (Zo (Zn Yr Zd (Zj Z7 (hr.mono (by lia)) Zf3 (Zb (qvN 0 Zf4) (Zb Zd Zc))))))))),?_⟩
  refine ⟨_,rfl,s,la,5,rfl,hsrc,by decide,by decide,fun d0 H1 _ _ hs1 sx1=>?_⟩
  refine ⟨_,rfl,rfl,_,rfl,Yc (fun _=>?_) (fun _=>?_)⟩
  ·exact ⟨_,rfl,s,la,1000,rfl,hs1,by decide,by decide,fun d H2 h0 h1 hs2 sx2=>⟨_,_,rfl,rfl,k _ H2 (by lia) (by lia) hs2 (sx1.trans sx2)⟩⟩
  ·refine ⟨_,rfl,rfl,_,rfl,Yc (fun _=>?_) (fun _=>?_)⟩
   ·exact ⟨_,rfl,s,la,3,rfl,hs1,by decide,by decide,fun d H2 h0 h1 hs2 sx2=>⟨_,_,rfl,rfl,k _ H2 (by lia) (by lia) hs2 (sx1.trans sx2)⟩⟩
   ·exact ⟨_,rfl,s,la,9,rfl,hs1,by decide,by decide,fun d H2 h0 h1 hs2 sx2=>⟨_,_,rfl,rfl,k _ H2 (by lia) (by lia) hs2 (sx1.trans sx2)⟩⟩
abbrev Zk:=List (Str×Int)
def Zjl (p:Str×Int):D:=.tup [.str p.1,.int p.2]
def Zfo (sd:Zk):D:=.lst (sd.map Zjl)
def SameT (H H':Hp):Prop:=∀ b xs,H b=some (.tup xs)->H' b=some (.tup xs)
def RepS (H:Hp):Zk->List V->Prop
 | [],vs=>vs = []
 | p::r,vs=>∃ a vs',vs = .ref a::vs'/\H a=some (.tup [.str p.1,.int p.2])/\RepS H r vs'
theorem RepS.mono {H H':Hp}(k:SameT H H'):∀ {sd:Zk}{vs:List V},RepS H sd vs->RepS H' sd vs
 | [],_,h=>h
 | _::_,_,⟨a,vs',e,h1,h2⟩=>⟨a,vs',e,k _ _ h1,RepS.mono k h2⟩
theorem RepS.rep {H:Hp}:∀ {sd:Zk}{vs:List V},RepS H sd vs->RepL H (sd.map Zjl) vs
 | [],_,h=>h
 | p::_,_,⟨a,vs',e,h1,h2⟩=>⟨.ref a,vs',e,⟨a,_,rfl,h1,⟨.str p.1,_,rfl,rfl,⟨.int p.2,[],rfl,rfl,rfl⟩⟩⟩,RepS.rep h2⟩
theorem RepS.of {H:Hp}:∀ {sd:Zk}{vs:List V},RepL H (sd.map Zjl) vs->RepS H sd vs
 | [],_,h=>h
 | p::_,_,⟨v,vs',e,⟨a,us,e2,h1,⟨x,r1,e3,e4,⟨y,r2,e5,e6,e7⟩⟩⟩,h2⟩=>by
  subst e2 e7 e5 e3
  cases e4
  cases e6
  exact ⟨a,vs',e,h1,RepS.of h2⟩
theorem RepS.len {H:Hp}{sd:Zk}{vs:List V}(h:RepS H sd vs):vs.length=sd.length:=by
 have:=(RepS.rep h).length
 rw [xA] at this
 exact this
theorem RepS.get {H:Hp}:∀ {sd:Zk}{vs:List V}{i:Nat}{v:V},RepS H sd vs->vs[i]? = some v->∃ p a,sd[i]? = some p/\v = .ref a/\H a=some (.tup [.str p.1,.int p.2])
 | [],vs,i,v,h,e=>by cases h; simp at e
 | p::sd,vs,i,v,⟨a,vs',e1,h1,h2⟩,e=>by
  subst e1
  cases i with
  | zero=>simp at e; subst e; exact ⟨p,a,rfl,rfl,h1⟩
  | succ i=>simp at e; exact RepS.get (i:=i) h2 e
theorem RepS.snoc {H:Hp}{p:Str×Int}{a:Addr}(hp:H a=some (.tup [.str p.1,.int p.2])):∀ {sd:Zk}{vs:List V},RepS H sd vs->RepS H (sd ++ [p]) (vs ++ [.ref a])
 | [],vs,h=>by cases h; exact ⟨a,[],rfl,hp,rfl⟩
 | q::sd,vs,⟨b,vs',e,h1,h2⟩=>by subst e; exact ⟨b,vs' ++ [.ref a],rfl,h1,RepS.snoc hp h2⟩
theorem Znn {α β:Type}(f : α->β):∀ (l:List α) (i:Nat),(l.map f).eraseIdx i=(l.eraseIdx i).map f
 | [],_=>rfl
 | _::_,0=>rfl
 | a::l,i+1=>by show f a::(l.map f).eraseIdx i=f a::(l.eraseIdx i).map f; rw [Znn f l i]
theorem Zmy {α:Type}:∀ {l:List α}{i:Nat}(h:i < l.length),(l[i]::l.eraseIdx i).Perm l
 | a::l,0,_=>List.Perm.refl _
 | a::l,i+1,h=>by
  have h':i < l.length:=by simpa using h
  exact (List.Perm.swap a l[i] (l.eraseIdx i)).trans (List.Perm.cons a (Zmy h'))
theorem Zey {s:Addr}{H H':Hp}{xs:List V}(h:SameX s H H') (hs:H s=some (.lst xs)):SameT H H':=fun b ys e=>h b _ (fun z=>by rw [z,hs] at e; cases e) e
theorem Zsj {l:Addr}{H:Hp}{xs:List V}{o:HO}(hl:H l=some (.lst xs)):SameT H (upd H l o):=fun b ys e=>by
 rw [Zh (fun z=>by rw [z,hl] at e; cases e)]; exact e
theorem Z45 {l:Addr}{H:Hp}{o:HO}(hl:H l=none):SameT H (upd H l o):=fun b ys e=>by rw [Zh (Z5 e hl)]; exact e
theorem SameT.trans {H H1 H2:Hp}(a:SameT H H1) (b:SameT H1 H2):SameT H H2:=fun c xs e=>b c xs (a c xs e)
structure Drawn (names:List Str) (sd:Zk):Prop where
 mem:∀ p∈sd,p.1∈names
 nd:(sd.map (·.1)).Nodup
 wt:∀ p∈sd,1<=p.2/\p.2<=1000
def Zqx:Sp:=fun vs H Q _=>∃ (s la a:Addr) (names:List Str) (n:Int),vs = [.ref s,.ref a,.int n]/\SrcAt H s la/\H a=some (.lst (names.map V.str))/\a≠s/\names.Nodup/\0<=n/\names.length<=1000 /\
 ∀ (l:Addr) (sd:Zk) (vs:List V) (H':Hp),(sd.length:Int)=min n names.length->Drawn names sd->H l=none->H' l=some (.lst vs)->RepS H' sd vs->SrcAt H' s la->SameX s H H'->Q (.ref l) H'
abbrev Wt:Stmt:=top 53
theorem Zfp:FnScope ["_law_src_here", "_law_names_here", "_law_many", "_law_left", "_law_side_here", "_law_k"] ["_law_src_here", "_law_names_here", "_law_many"] (Za Wt):=⟨rfl,rfl,rfl,by decide +kernel,rfl,by decide +kernel,by decide +kernel⟩
theorem Z46:Nm (Za Wt) "_law_k" .local:=by decide +kernel
theorem Zlk:Nm (Za Wt) "_law_left" .local:=by decide +kernel
theorem Z47:Nm (Za Wt) "_law_many" .local:=by decide +kernel
theorem Zsk:Nm (Za Wt) "_law_names_here" .local:=by decide +kernel
theorem Z48:Nm (Za Wt) "_law_next" .globalImplicit:=by decide +kernel
theorem Zll:Nm (Za Wt) "_law_side_here" .local:=by decide +kernel
theorem Zsl:Nm (Za Wt) "_law_src_here" .local:=by decide +kernel
theorem Z49:Nm (Za Wt) "_law_weight" .globalImplicit:=by decide +kernel
theorem Zsm:Nm (Za Wt) "len" .globalImplicit:=by decide +kernel
theorem Z5a:Nm (Za Wt) "list" .globalImplicit:=by decide +kernel
theorem Z5b:Nm (Za Wt) "min" .globalImplicit:=by decide +kernel
theorem Z5c:Nm (Za Wt) "range" .globalImplicit:=by decide +kernel
theorem Z5d (Zjm:Has K mg "_law_side" Wt) (T:Txt mg) (Z7:Fn P w K mg base "_law_next" ["_law_src_here", "_law_base"] 1 Ua) (Z5e:Fn P w K mg base "_law_weight" ["_law_src_here"] 2 Zoj) :
  Fn P w K mg base "_law_side" ["_law_src_here", "_law_names_here", "_law_many"] 3 Zqx:=by
 refine Zjm.fnQ Zfp (fun _ _ _ _ _ _ us hl=>match us,hl with | [_,_,_],_=>rfl) (fun vs H Q E h=>?_) (fun f cdv A outer s H vs Q E hr h=>?_)
 ·obtain ⟨s,la,a,names,n,rfl,_⟩:=h
  rfl
 ·obtain ⟨s,la,a,names,n,rfl,hsrc,ha,has,hnd,hn0,hnl,k⟩:=h
  refine ⟨_,(Ze (Zl (i:=3) Zfp.nd Zlk (Zhc Zg6 Z5a T.list Ziq (Zb (qvN 1 Zsk) Zc)))
 (Ze (Zl (i:=4) Zfp.nd Zll (Yq Zc))
 (Ze (Y7 PassesOwn.never rfl (Zbm Z5c.1 T.range (Zb (Z6 (Zmt (by rfl)) Z5b T.min Zr3 (Zb (qvN 2 Z47) (Zb (Z6 Y9 Zsm T.len Yy (Zb (qvN 1 Zsk) Zc)) Zc))) Zc)) (Yo (i:=5) Zfp.nd Z46)
 (Zg (Yl (Ww F.plainAttrs_list F.slot_list_append F.type_list_append Ug (qvN 4 Zll) (Zb (Y8 (Zb (Ww F.plainAttrs_list F.slot_list_pop F.type_list_pop Zxq (qvN 3 Zlk) (Zb (Zj Z7 (hr.mono (by lia)) Z48 (Zb (qvN 0 Zsl) (Zb (Z6 Y9 Zsm T.len Yy (Zb (qvN 3 Zlk) Zc)) Zc))) Zc)) (Zb (Zj Z5e (hr.mono (by lia)) Z49 (Zb (qvN 0 Zsl) Zc)) Zc))) Zc)))))
 (Zg (Zo (qvN 4 Zll)))))),?_⟩
  have hz:(2000:Nat)<=sizeLine:=by decide
  refine ⟨_,rfl,a,_,rfl,.inl (SqL.of ha),fun lf hlf=>?_⟩
  refine ⟨by show 0<=sizeLine; lia,fun l hl=>?_⟩
  have nfl:lf≠l:=fun z=>by rw [← z,upd_same] at hl; cases hl
  have sm0:Same H (upd (upd H lf (.lst (names.map V.str))) l (.lst [])):=(Same.new hlf).trans (Same.new hl)
  have hlH:H l=none:=(Same.new hlf).free hl
  obtain ⟨n1,n2⟩:=hsrc.ne hlf
  obtain ⟨n3,n4⟩:=hsrc.ne hlH
  have ea:(upd (upd H lf (.lst (names.map V.str))) l (.lst [])) a=some (.lst (names.map V.str)):=sm0 _ _ ha
  refine ⟨_,rfl,_,rfl,a,_,rfl,.inl (SqL.of ea),n,_,rfl,_,rfl,?_,?_,?_⟩
  ·split <;> lia
  ·rw [xA]; split <;> lia
  have em:(if ((names.map V.str).length:Int) < n then ((names.map V.str).length:Int) else n)=min n names.length:=by rw [xA]; split <;> lia
  refine Zbk (min n names.length).toNat (by rw [em]) (fun i σ H'=>∃ (sd:Zk) (vs:List V) (left:List Str) (v:Option V),σ = [some (.ref s),some (.ref a),some (.int n),some (.ref lf),some (.ref l),v]/\sd.length=i/\left.length+i=names.length/\(sd.map (·.1)++left).Perm names/\(∀ p∈sd,1<=p.2/\p.2<=1000) /\
    H' l=some (.lst vs)/\RepS H' sd vs/\H' lf=some (.lst (left.map V.str))/\SrcAt H' s la/\SameX s H H')
   ⟨[],[],names,none,rfl,rfl,rfl,List.Perm.refl _,(fun _ z=>nomatch z),upd_same,rfl,by rw [Zh nfl,upd_same],hsrc.keep sm0,sm0.x⟩ ?_ ?_
  ·rintro i σ H' hi ⟨sd,vs,left,v,rfl,hsd,hleft,hperm,hwt,hl',hrep,hlf',hs',sx'⟩
   have hll : 0 < left.length:=by lia
   refine ⟨_,rfl,.inl ⟨rfl,_,SqL.of hl'⟩,_,rfl,.inl ⟨rfl,_,SqL.of hlf'⟩,_,rfl,_,rfl,lf,_,rfl,.inl (SqL.of hlf'),s,la,_,rfl,hs',by rw [xA]; lia,by rw [xA]; lia,fun d H1 d0 d1 hs1 sx1=>?_⟩
   rw [xA] at d1
   obtain ⟨j,rfl⟩:=yN d0
   have hj:j < left.length:=by lia
   have hlf1:=sx1 lf _ n1 hlf'
   have hl1:=sx1 l _ n3 hl'
   obtain ⟨ns0,i0,b0,st0,c0,hs0,_⟩:=id hs'
   have t1:SameT H' H1:=Zey sx1 hs0
   refine ⟨lf,_,_,j,.str left[j],rfl,rfl,hlf1,by lia,by lia,seqIndex_of (by lia) (by rw [xA]; lia),by rw [xR,xB hj]; rfl,?_⟩
   have em2:((left.map V.str).eraseIdx j)=(left.eraseIdx j).map V.str:=Znn _ _ _
   rw [em2]
   have hs2:SrcAt (upd H1 lf (.lst ((left.eraseIdx j).map V.str))) s la:=hs1.keepX SameX.upd n1 n2
   refine ⟨_,rfl,s,la,rfl,hs2,fun wt H3 w0 w1 hs3 sx3=>?_⟩
   have hl2:upd H1 lf (.lst ((left.eraseIdx j).map V.str)) l=some (.lst vs):=by rw [Zh nfl.symm]; exact hl1
   have hl3:=sx3 l _ n3 hl2
   have hlf3:=sx3 lf _ n1 upd_same
   obtain ⟨ns2,i2,b2,st2,c2,hs20,_⟩:=id hs2
   have t3:SameT H' H3:=(t1.trans (Zsj hlf1)).trans (Zey sx3 hs20)
   refine ⟨by show 2<=sizeLine; lia,fun p hp=>?_⟩
   have npl:p≠l:=fun z=>by rw [z,hl3] at hp; cases hp
   have npf:p≠lf:=fun z=>by rw [z,hlf3] at hp; cases hp
   obtain ⟨m3,m4⟩:=hs3.ne hp
   refine ⟨l,vs,.ref p,rfl,rfl,by rw [Zh npl.symm]; exact hl3,by rw [hrep.len]; lia,?_⟩
   have t4:SameT H3 (upd (upd H3 p (.tup [.str left[j],.int wt])) l (.lst (vs ++ [.ref p]))):=(Z45 hp).trans (Zsj (by rw [Zh npl.symm]; exact hl3))
   refine ⟨sd ++ [(left[j],wt)],vs ++ [.ref p],left.eraseIdx j,_,rfl,by rw [xL,hsd]; rfl,?_,?_,fun q hq=>?_,upd_same,?_,?_,?_,?_⟩
   ·rw [List.length_eraseIdx_of_lt hj]; lia
   ·rw [xP,List.append_assoc]
    refine List.Perm.trans (List.Perm.append_left _ ?_) hperm
    exact Zmy hj
   ·rcases xO.mp hq with z | z
    ·exact hwt q z
    ·have:q=(left[j],wt):=by simpa using z
     rw [this]; exact ⟨w0,w1⟩
   ·refine RepS.snoc (p:=(left[j],wt)) ?_ (hrep.mono (t3.trans t4))
    rw [Zh npl,upd_same]
   ·rw [Zh nfl,Zh npf.symm]; exact hlf3
   ·exact (hs3.keep (Same.new hp)).keepX SameX.upd n3 n4
   ·intro b o hb e
    have b1:b≠lf:=fun z=>by rw [z,hlf] at e; cases e
    have b2:b≠l:=fun z=>by rw [z,hlH] at e; cases e
    have e1:=sx1 b o hb (sx' b o hb e)
    have e2:upd H1 lf (.lst ((left.eraseIdx j).map V.str)) b=some o:=by rw [Zh b1]; exact e1
    have e3:=sx3 b o hb e2
    rw [Zh b2,Zh (Z5 e3 hp)]
    exact e3
  ·rintro σ H' ⟨sd,vs,left,v,rfl,hsd,hleft,hperm,hwt,hl',hrep,hlf',hs',sx'⟩
   refine ⟨_,rfl,k l sd vs H' (by lia) ⟨fun p hp=>?_,?_,hwt⟩ hlH hl' hrep hs' sx'⟩
   ·exact hperm.subset (yF _ (xV.mpr ⟨p,hp,rfl⟩))
   ·exact (List.nodup_append.mp (hperm.symm.nodup hnd)).1
end
section
variable {P:Program}{w:World}{K:uFg}{mg:Str->Option Value}{base:Heap}
def wts (sd:Zk):List Int:=sd.map (·.2)
def Light (sd:Zk):Prop:=(∀ p∈sd,1<=p.2/\p.2<=1000)/\sd.length<=60
theorem Light.bnd {sd:Zk}(h:Light sd):∀ n∈wts sd,-1000000000<=n/\n<=1000000000:=fun n hn=>by
 obtain ⟨p,hp,rfl⟩:=xV.mp hn
 have:=h.1 p hp
 show -1000000000<=p.2/\p.2<=1000000000
 lia
theorem Zez {sd:Zk}{i:Nat}{p:Str×Int}(h:sd[i]? = some p):(wts sd)[i]? = some p.2:=by unfold wts; rw [xR,h]; rfl
theorem Zmd {l:List Int}{i:Nat}{a:Int}(h:l[i]? = some a):(l.take (i+1)).sum=(l.take i).sum+a:=by
 rw [yB,h,List.sum_append]
 simp
def SideAt (H:Hp) (sd:Zk) (v:V):Prop:=∃ a vs,v = .ref a/\H a=some (.lst vs)/\RepS H sd vs
theorem SideAt.rep {H:Hp}{sd:Zk}{v:V}(h:SideAt H sd v):Rep H (Zfo sd) v:=let ⟨a,vs,e,h1,h2⟩:=h; ⟨a,vs,e,h1,h2.rep⟩
theorem Same.t {H H':Hp}(h:Same H H'):SameT H H':=fun b xs e=>h b _ e
theorem SideAt.mono {H H':Hp}{sd:Zk}{v:V}(h:SideAt H sd v) (k:Same H H'):SideAt H' sd v:=let ⟨a,vs,e,h1,h2⟩:=h; ⟨a,vs,e,k _ _ h1,h2.mono fun b xs e=>k b _ e⟩
def Zok:Sp:=fun vs H Q _=>∃ (v:V) (sd:Zk),vs = [v]/\SideAt H sd v/\Q (.int (wts sd).sum) H
abbrev Za9:Stmt:=top 52
theorem Zdp:FnScope ["_law_side_here", "_law_found", "_law_name", "_law_weight_here"] ["_law_side_here"] (Za Za9):=⟨rfl,rfl,rfl,by decide +kernel,rfl,by decide +kernel,by decide +kernel⟩
theorem Zf5:Nm (Za Za9) "_law_found" .local:=by decide +kernel
theorem Z5f:Nm (Za Za9) "_law_name" .local:=by decide +kernel
theorem Z5g:Nm (Za Za9) "_law_side_here" .local:=by decide +kernel
theorem Zsn:Nm (Za Za9) "_law_weight_here" .local:=by decide +kernel
theorem Z5h (Zjn:Has K mg "_law_total" Za9) (T:Txt mg):Fn P w K mg base "_law_total" ["_law_side_here"] 1 Zok:=by
 refine Zjn.fnQ Zdp (fun _ _ _ _ _ _ us hl=>match us,hl with | [_],_=>rfl) (fun vs H Q E h=>?_) (fun f cdv A outer s H vs Q E hr h=>?_)
 ·obtain ⟨v,sd,rfl,_⟩:=h
  rfl
 ·obtain ⟨v,sd,rfl,⟨a,vs,rfl,ha,hr⟩,k⟩:=h
  refine ⟨_,(Ze (Zl (i:=1) Zdp.nd Zf5 Zd)
 (Ze (Y7 PassesOwn.never rfl (Yp (qvN 0 Z5g)) (Zdd (by rfl) (Z2 (Yo (i:=2) Zdp.nd Z5f) (Z2 (Yo (i:=3) Zdp.nd Zsn) Wc)))
 (Zg (Zl (i:=1) Zdp.nd Zf5 (Zn Yr (qvN 1 Zf5) (qvN 3 Zsn)))))
 (Zg (Zo (qvN 1 Zf5))))),?_⟩
  refine ⟨_,rfl,a,rfl,⟨_,SqL.of ha⟩,?_⟩
  refine Uh vs (fun i σ H'=>H'=H/\∃ v2 v3,σ = [some (.ref a),some (.int ((wts sd).take i).sum),v2,v3]) ⟨rfl,none,none,rfl⟩ (fun i σ H' _ ⟨e,_⟩=>by rw [e]; exact SqL.of ha) ?_ ?_
  ·rintro i x σ H' hx ⟨rfl,v2,v3,rfl⟩
   obtain ⟨p,b,hp,rfl,hb⟩:=hr.get hx
   refine ⟨b,_,rfl,SqT.of hb,rfl,_,_,rfl,_,_,rfl,rfl,?_⟩
   refine ⟨_,rfl,_,rfl,_,_,rfl,rfl,rfl,some (.str p.1),some (.int p.2),?_⟩
   rw [Zmd (Zez hp)]
   rfl
  ·rintro σ H' ⟨rfl,v2,v3,rfl⟩
   refine ⟨_,rfl,?_⟩
   rw [hr.len] at *
   have e:(wts sd).take sd.length=wts sd:=yQ (by unfold wts; rw [xA]; lia)
   rw [e]
   exact k
end
section
variable {P:Program}{w:World}{K:uFg}{mg:Str->Option Value}{base:Heap}
def Zpu:Sp:=fun vs H Q _=>∃ (v:V) (sd:Zk),vs = [v]/\SideAt H sd v/\Light sd/\∀ H',Same H H'->Q (.int (wts sd).sum) H'
theorem Zz1 {H:Hp}{sd:Zk}{a:Addr}{vs:List V}{fv:St}{Q:VK}(ha:H a=some (.lst vs)) (hr:RepS H sd vs) (hl:sd.length<=60)
  (hd:∀ l,H l=none->Q (.ref l) (upd H l (.lst ((wts sd).map V.int)))) :
  V5 (Itl K a) 2 fv (Zci K 2 (Zaa (Yv 0) (Zaa (Yv 1) Zdx))) (fun _ H Q=>Q true H) (Yu 1) Q H:=by
 have hlen:=hr.len
 refine Vv (xs:=vs) (fun i ys H'=>H'=H/\ys=((wts sd).take i).map V.int) ⟨rfl,rfl⟩ (by lia) (fun i ys H' _ ⟨e,_⟩=>by rw [e]; exact SqL.of ha) ?_ ?_ ?_
 ·rintro i ys H' ⟨_,rfl⟩
  rw [xA,xY]; lia
 ·rintro i x ys H' hx ⟨rfl,rfl⟩ ls hls
  obtain ⟨u,v,rfl⟩:=Zbe hls
  obtain ⟨p,b,hp,rfl,hb⟩:=hr.get hx
  refine ⟨b,_,rfl,SqT.of hb,rfl,_,_,rfl,_,_,rfl,rfl,⟨[_,_],rfl,rfl⟩,Yb ?_⟩
  refine ⟨_,rfl,rfl,?_⟩
  rw [yB,Zez hp,xP]
  rfl
 ·rintro ys H' ⟨rfl,rfl⟩ l hl'
  have e:(wts sd).take vs.length=wts sd:=yQ (by unfold wts; rw [xA]; lia)
  rw [e]
  exact hd l hl'
abbrev Zdq:Stmt:=top 25
theorem Z5i:FnScope ["side"] ["side"] (Za Zdq):=⟨rfl,rfl,rfl,by decide +kernel,rfl,by decide +kernel,by decide +kernel⟩
theorem Z5j:Nm (Za Zdq) "side" .local:=by decide +kernel
theorem Z5k:Nm (Za Zdq) "sum" .globalImplicit:=by decide +kernel
theorem Z5l (Zjo:Has K mg "total" Zdq) (T:Txt mg):Fn P w K mg base "total" ["side"] 1 Zpu:=by
 refine Zjo.fnQ Z5i (fun _ _ _ _ _ _ us hl=>match us,hl with | [_],_=>rfl) (fun vs H Q E h=>?_) (fun f cdv A outer s H vs Q E hr h=>?_)
 ·obtain ⟨v,sd,rfl,_⟩:=h
  rfl
 ·obtain ⟨v,sd,rfl,⟨a,vs,rfl,ha,hr⟩,hL,k⟩:=h
  refine ⟨_,(Zg (Zo (Z6 (Zhg (by rfl)) Z5k T.sum Zi9 (Zb (Wr (locs:=["name", "weight"]) (fr:=[]) ⟨rfl,by decide +kernel,by decide +kernel,by decide +kernel,by decide +kernel,by decide +kernel⟩ .nil rfl (Yp (qvN 0 Z5j)) ⟨fun _ _ _ _ _ _=>by
  have cnd:(inN ["name", "weight"] []).Nodup:=by decide +kernel
  exact ⟨(Vh 2 (by rfl) (Z2 (Z8 0 cnd) (Z2 (Z8 1 cnd) Wc))),Vg,(Yj 1)⟩⟩) Zc)))),?_⟩
  refine ⟨_,rfl,a,rfl,⟨_,SqL.of ha⟩,?_⟩
  refine Zz1 ha hr hL.2 fun l hl=>?_
  exact ⟨l,wts sd,rfl,SqL.of upd_same,hL.bnd,by unfold wts; rw [xA]; have:=hL.2; lia,k _ (Same.new hl)⟩
end
section
variable {P:Program}{w:World}{K:uFg}{mg:Str->Option Value}{base:Heap}
def Zqy:Sp:=fun vs H Q _=>∃ (s la:Addr) (u v:V) (a b:Zk),vs = [.ref s,u,v]/\SrcAt H s la/\SideAt H a u/\SideAt H b v /\
 ∀ (d:Int) (H':Hp),1<=d->d<=12000->SrcAt H' s la->SameX s H H'->Q (.int d) H'
abbrev Vx:Stmt:=top 54
theorem Zjp:FnScope ["_law_src_here", "_law_ones", "_law_others", "_law_close"] ["_law_src_here", "_law_ones", "_law_others"] (Za Vx):=⟨rfl,rfl,rfl,by decide +kernel,rfl,by decide +kernel,by decide +kernel⟩
theorem Zlm:Nm (Za Vx) "_law_close" .local:=by decide +kernel
theorem Zln:Nm (Za Vx) "_law_next" .globalImplicit:=by decide +kernel
theorem Z5m:Nm (Za Vx) "_law_ones" .local:=by decide +kernel
theorem Z5n:Nm (Za Vx) "_law_others" .local:=by decide +kernel
theorem Zlo:Nm (Za Vx) "_law_src_here" .local:=by decide +kernel
theorem Zso:Nm (Za Vx) "_law_total" .globalImplicit:=by decide +kernel
theorem Z5o:Nm (Za Vx) "max" .globalImplicit:=by decide +kernel
theorem Z5p:Nm (Za Vx) "min" .globalImplicit:=by decide +kernel
theorem Z5q (Zjq:Has K mg "_law_need" Vx) (T:Txt mg) (Z7:Fn P w K mg base "_law_next" ["_law_src_here", "_law_base"] 1 Ua) (Zsp:Fn P w K mg base "_law_total" ["_law_side_here"] 1 Zok) :
  Fn P w K mg base "_law_need" ["_law_src_here", "_law_ones", "_law_others"] 2 Zqy:=by
 refine Zjq.fnQ Zjp (fun _ _ _ _ _ _ us hl=>match us,hl with | [_,_,_],_=>rfl) (fun vs H Q E h=>?_) (fun f cdv A outer s H vs Q E hr h=>?_)
 ·obtain ⟨s,la,u,v,a,b,rfl,_⟩:=h
  rfl
 ·obtain ⟨s,la,u,v,a,b,rfl,hsrc,hu,hv,k⟩:=h
  refine ⟨_,(Ze (Zl (i:=3) Zjp.nd Zlm (Zn Yr (Zn V7 (Zn V7 (Zj Zsp (hr.mono (by lia)) Zso (Zb (qvN 1 Z5m) Zc)) (Zj Zsp (hr.mono (by lia)) Zso (Zb (qvN 2 Z5n) Zc))) Zd) (Zj Z7 (hr.mono (by lia)) Zln (Zb (qvN 0 Zlo) (Zb Zd Zc)))))
 (Ze (Zy (Zw We (Zj Z7 (hr.mono (by lia)) Zln (Zb (qvN 0 Zlo) (Zb Zd Zc))) Zd (Z1 _)) (Zg (Zl (i:=3) Zjp.nd Zlm (Zn Yr Zd (Zj Z7 (hr.mono (by lia)) Zln (Zb (qvN 0 Zlo) (Zb Zd Zc)))))) Z0)
 (Zg (Zo (Z6 (Zms (by rfl)) Z5o T.max Zr2 (Zb Zd (Zb (Z6 (Zmt (by rfl)) Z5p T.min Zr3 (Zb Zd (Zb (qvN 3 Zlm) Zc))) Zc))))))),?_⟩
  refine ⟨_,rfl,u,a,rfl,hu,_,rfl,v,b,rfl,hv,_,_,rfl,rfl,_,_,rfl,rfl,_,rfl,s,la,6,rfl,hsrc,by decide,by decide,fun d0 H1 _ _ hs1 sx1=>?_⟩
  refine ⟨_,_,rfl,rfl,?_⟩
  refine Zt ?_
  dsimp only
  refine Zaf (fun σ H'=>∃ m:Int,SrcAt H' s la/\SameX s H H' /\ σ = [some (.ref s),some u,some v,some (.int m)]) ?_ ?_
  ·rintro σ H' ⟨m,hs',sx',rfl⟩
   refine ⟨_,rfl,_,_,rfl,_,_,rfl,k _ H' ?_ ?_ hs' sx'⟩
   ·split <;> split <;> lia
   ·split <;> split <;> lia
  ·intro D' hn _ _ _
   refine ⟨_,rfl,s,la,4,rfl,hs1,by decide,by decide,fun d1 H2 _ _ hs2 sx2=>?_⟩
   refine ⟨rfl,_,rfl,Yc (fun _=>?_) (fun _=>?_)⟩
   ·exact ⟨_,rfl,s,la,30,rfl,hs2,by decide,by decide,fun d2 H3 _ _ hs3 sx3=>⟨_,_,rfl,rfl,hn _ _ ⟨_,hs3,(sx1.trans sx2).trans sx3,rfl⟩⟩⟩
   ·exact hn _ _ ⟨_,hs2,sx1.trans sx2,rfl⟩
def off (ms:List Addr) (H:Hp):Hp:=fun b=>if b∈ms then none else H b
theorem Zfg {ms:List Addr}{H:Hp}:Same (off ms H) H:=fun b o e=>by
 unfold off at e
 split at e
 ·cases e
 ·exact e
theorem Vi {ms:List Addr}{H H':Hp}(h:∀ b o,b∉ms->H b=some o->H' b=some o):Same (off ms H) (off ms H'):=fun b o e=>by
 unfold off at e ⊢
 split at e
 ·cases e
 ·rename_i n
  rw [if_neg n]
  exact h b o n e
theorem Zag {ms:List Addr}{H:Hp}{b:Addr}{o:HO}(n:b∉ms) (h:H b=some o):off ms H b=some o:=by unfold off; rw [if_neg n]; exact h
theorem Z3p {ms:List Addr}{H:Hp}{b:Addr}{o:HO}(h:off ms H b=some o):b∉ms/\H b=some o:=by
 unfold off at h
 split at h
 ·cases h
 ·rename_i n
  exact ⟨n,h⟩
structure Suit where
 ones:Zk
 others:Zk
 need:Int
 named:Option (Int×Str)
def Zah:Option (Int×Str)->D
 | none=>.non
 | some (c,n)=>.tup [.int c,.str n]
def Ub (t:Suit):D:=.tup [Zfo t.ones,Zfo t.others,.int t.need,Zah t.named]
theorem SideAt.of {H:Hp}{sd:Zk}{v:V}(h:Rep H (Zfo sd) v):SideAt H sd v:=by
 obtain ⟨a,vs,e,h1,h2⟩:=h
 exact ⟨a,vs,e,h1,RepS.of h2⟩
theorem Zol {H:Hp}{t:Suit}{v:V}(h:Rep H (Ub t) v):∃ a u1 u2 u4,v = .ref a/\H a=some (.tup [u1,u2,.int t.need,u4])/\SideAt H t.ones u1/\SideAt H t.others u2/\Rep H (Zah t.named) u4:=by
 obtain ⟨a,vs,e,h1,⟨u1,r1,rfl,a1,⟨u2,r2,rfl,a2,⟨u3,r3,rfl,a3,⟨u4,r4,rfl,a4,a5⟩⟩⟩⟩⟩:=h
 cases a3
 cases a5
 exact ⟨a,u1,u2,u4,e,h1,.of a1,.of a2,a4⟩
theorem Z1x {H:Hp}{t:Suit}{a:Addr}{u1 u2 u4:V}(h1:H a=some (.tup [u1,u2,.int t.need,u4])) (a1:SideAt H t.ones u1) (a2:SideAt H t.others u2) (a4:Rep H (Zah t.named) u4):Rep H (Ub t) (.ref a) :=
 ⟨a,_,rfl,h1,⟨u1,_,rfl,a1.rep,⟨u2,_,rfl,a2.rep,⟨.int t.need,_,rfl,rfl,⟨u4,_,rfl,a4,rfl⟩⟩⟩⟩⟩
theorem RepS.app {H:Hp}{b:Zk}{ws:List V}(hb:RepS H b ws):∀ {a:Zk}{vs:List V},RepS H a vs->RepS H (a++b) (vs++ws)
 | [],vs,h=>by cases h; exact hb
 | p::a,vs,⟨c,vs',e,h1,h2⟩=>by subst e; exact ⟨c,vs'++ws,rfl,h1,RepS.app hb h2⟩
theorem Zbs {H:Hp}{sd:Zk}{a:Addr}{vs:List V}{fv:St}{Q:VK}(ha:H a=some (.lst vs)) (hr:RepS H sd vs) (hl:sd.length<=1000)
  (hd:∀ l,H l=none->Q (.ref l) (upd H l (.lst ((sd.map (·.1)).map V.str)))) :
  V5 (Itl K a) 2 fv (Zci K 2 (Zaa (Yv 0) (Zaa (Yv 1) Zdx))) (fun _ H Q=>Q true H) (Yu 0) Q H:=by
 have hlen:=hr.len
 refine Vv (xs:=vs) (fun i ys H'=>H'=H/\ys=((sd.map (·.1)).take i).map V.str) ⟨rfl,rfl⟩ (by lia) (fun i ys H' _ ⟨e,_⟩=>by rw [e]; exact SqL.of ha) ?_ ?_ ?_
 ·rintro i ys H' ⟨_,rfl⟩
  rw [xA,xY]; lia
 ·rintro i x ys H' hx ⟨rfl,rfl⟩ ls hls
  obtain ⟨u,v,rfl⟩:=Zbe hls
  obtain ⟨p,b,hp,rfl,hb⟩:=hr.get hx
  refine ⟨b,_,rfl,SqT.of hb,rfl,_,_,rfl,_,_,rfl,rfl,⟨[_,_],rfl,rfl⟩,Yb ?_⟩
  refine ⟨_,rfl,rfl,?_⟩
  have e:(sd.map (·.1))[i]? = some p.1:=by rw [xR,hp]; rfl
  rw [yB,e,xP]
  rfl
 ·rintro ys H' ⟨rfl,rfl⟩ l hl'
  have e:(sd.map (·.1)).take vs.length=sd.map (·.1):=yQ (by rw [xA]; lia)
  rw [e]
  exact hd l hl'
def Ze0 (ss:List Suit) (nm:Option (Int×Str)):Prop:=∀ c n,nm=some (c,n)->0<=c/\∃ t wt,ss[c.toNat]? = some t/\(n,wt)∈t.ones++t.others
def Wf (t:Suit):Prop:=Light t.ones/\Light t.others/\1<=t.need/\t.need<=12000
def Zpv:Sp:=fun vs H Q _=>∃ (s la l:Addr) (us:List V) (ss:List Suit),vs = [.ref s,.ref l]/\SrcAt H s la/\H l=some (.lst us)/\l≠s/\RepL (off [s] H) (ss.map Ub) us/\ss.length<=1000/\(∀ t∈ss,Wf t) /\
 ∀ (nm:Option (Int×Str)) (v:V) (H':Hp),Ze0 ss nm->Rep (off [s,l] H') (Zah nm) v->SrcAt H' s la->SameX s H H'->Q v H'
abbrev Uk:Stmt:=top 55
theorem Zdr:FnScope ["_law_src_here", "_law_suits_here", "_law_number", "_law_case", "_law_swearers"] ["_law_src_here", "_law_suits_here"] (Za Uk):=⟨rfl,rfl,rfl,by decide +kernel,rfl,by decide +kernel,by decide +kernel⟩
theorem Zd2:Nm (Za Uk) "_law_case" .local:=by decide +kernel
theorem Zf6:Nm (Za Uk) "_law_next" .globalImplicit:=by decide +kernel
theorem Zf7:Nm (Za Uk) "_law_number" .local:=by decide +kernel
theorem Zf8:Nm (Za Uk) "_law_src_here" .local:=by decide +kernel
theorem Zlp:Nm (Za Uk) "_law_suits_here" .local:=by decide +kernel
theorem Zf9:Nm (Za Uk) "_law_swearers" .local:=by decide +kernel
theorem Zlq:Nm (Za Uk) "len" .globalImplicit:=by decide +kernel
theorem Z5r (Zjr:Has K mg "_law_named" Uk) (T:Txt mg) (Z7:Fn P w K mg base "_law_next" ["_law_src_here", "_law_base"] 1 Ua) :
  Fn P w K mg base "_law_named" ["_law_src_here", "_law_suits_here"] 2 Zpv:=by
 refine Zjr.fnQ Zdr (fun _ _ _ _ _ _ us hl=>match us,hl with | [_,_],_=>rfl) (fun vs H Q E h=>?_) (fun f cdv A outer s H vs Q E hr h=>?_)
 ·obtain ⟨s,la,l,us,ss,rfl,_⟩:=h
  rfl
 ·obtain ⟨s,la,l,us,ss,rfl,hsrc,hl,hls,hrep,hlen,hok,k⟩:=h
  refine ⟨_,(Ze (Zl (i:=2) Zdr.nd Zf7 (Z6 Y9 Zlq T.len Yy (Zb (qvN 1 Zlp) Zc)))
 (Ze (Zy (QW.pt (Zr5 (Zw We (qvN 2 Zf7) Zd (Z1 _)) (Zqk (Zw We (Zj Z7 (hr.mono (by lia)) Zf6 (Zb (qvN 0 Zf8) (Zb Zd Zc))) Zd (Z1 _))))) (Zg (Zo V6)) Z0)
 (Ze (Zl (i:=3) Zdr.nd Zd2 (Zj Z7 (hr.mono (by lia)) Zf6 (Zb (qvN 0 Zf8) (Zb (qvN 2 Zf7) Zc))))
 (Ze (Zy (Zw We (Zj Z7 (hr.mono (by lia)) Zf6 (Zb (qvN 0 Zf8) (Zb Zd Zc))) Zd (Z1 _)) (Zg (Zl (i:=3) Zdr.nd Zd2 (Zn V7 (qvN 2 Zf7) Zd))) Z0)
 (Ze (Zes (locs:=["_law_name", "_law_weight_here"]) (fr:=[]) ⟨rfl,by decide +kernel,by decide +kernel,by decide +kernel,by decide +kernel,by decide +kernel⟩ .nil rfl (Yp (Zn V8 (Zi Z3 (Zi Zz (qvN 1 Zlp) (qvN 3 Zd2) (fun _ _=>rfl)) Zd (fun _ _=>rfl)) (Zi Z3 (Zi Zz (qvN 1 Zlp) (qvN 3 Zd2) (fun _ _=>rfl)) Zd (fun _ _=>rfl)))) ⟨fun _ _ _ _ _ _=>by
  have cnd:(inN ["_law_name", "_law_weight_here"] []).Nodup:=by decide +kernel
  exact ⟨(Vh 2 (by rfl) (Z2 (Z8 0 cnd) (Z2 (Z8 1 cnd) Wc))),Vg,(Yj 0)⟩⟩ Zdr.nd Zf9 (by rfl) (i:=4))
 (Ze (Zy (Zw We (Z6 Y9 Zlq T.len Yy (Zb (qvN 4 Zf9) Zc)) Zd (Z1 _)) (Zg (Zo V6)) Z0)
 (Zg (Zo (Y8 (Zb (qvN 3 Zd2) (Zb (Zi Zz (qvN 4 Zf9) (Zj Z7 (hr.mono (by lia)) Zf6 (Zb (qvN 0 Zf8) (Zb (Z6 Y9 Zlq T.len Yy (Zb (qvN 4 Zf9) Zc)) Zc))) (fun _ _=>rfl)) Zc))))))))))),?_⟩
  have hz:(2000:Nat)<=sizeLine:=by decide
  have hul:us.length=ss.length:=by have:=hrep.length; rw [xA] at this; exact this
  have knone:∀ H',SrcAt H' s la->SameX s H H'->_:=fun H' a b=>k none .non H' (fun _ _ e=>nomatch e) rfl a b
  refine ⟨_,rfl,l,us,rfl,.inl (SqL.of hl),?_⟩
  refine ⟨_,rfl,rfl,_,rfl,Yc (fun _=>?_) (fun h0=>?_)⟩
  ·exact Yb (knone H hsrc SameX.refl)
  have hul0 : 0 < us.length:=by
   rcases Nat.eq_zero_or_pos us.length with z | z
   ·exact absurd (by rw [z]; rfl) h0
   ·exact z
  refine ⟨_,rfl,s,la,5,rfl,hsrc,by decide,by decide,fun d1 H1 _ _ hs1 sx1=>?_⟩
  refine ⟨rfl,_,rfl,Yc (fun _=>knone H1 hs1 sx1) (fun _=>?_)⟩
  refine ⟨_,rfl,_,rfl,s,la,us.length,rfl,hs1,by lia,by lia,fun d2 H2 a2 b2 hs2 sx2=>?_⟩
  refine Zt ?_
  dsimp only
  refine Zaf (fun σ H'=>∃ c:Nat,c < us.length/\SrcAt H' s la/\SameX s H H' /\ σ = [some (.ref s),some (.ref l),some (.int us.length),some (.int c),none]) ?_ ?_
  ·rintro σ H' ⟨c,hc,hs',sx',rfl⟩
   have hl':H' l=some (.lst us):=sx' l _ hls hl
   have hrep':RepL H' (ss.map Ub) us:=(hrep.mono' (Vi (H':=H') fun b o n e=>sx' b o (fun z=>n (by rw [z]; exact xF.mpr rfl)) e)).mono' Zfg
   have hcv:us[c]? = some us[c]:=xB hc
   obtain ⟨d,hd,hrd⟩:=hrep'.get hcv
   rw [xR] at hd
   obtain ⟨t,ht⟩:∃ t,ss[c]? = some t:=by cases e:ss[c]? with | none=>rw [e] at hd; cases hd | some t=>exact ⟨t,rfl⟩
   rw [ht] at hd
   cases hd
   obtain ⟨ta,u1,u2,u4,eu,hta,⟨b1,v1,rfl,hb1,hr1⟩,⟨b2,v2,rfl,hb2,hr2⟩,_⟩:=Zol hrd
   rw [eu] at hcv
   have htm:t∈ss:=xT ht
   obtain ⟨L1,L2',_,_⟩:=hok t htm
   have z1:=hr1.len
   have z2:=hr2.len
   have w1:=L1.2
   have w2:=L2'.2
   refine ⟨_,rfl,_,rfl,l,us,c,.ref ta,rfl,rfl,SqL.of hl',Yh hcv,ta,_,0,.ref b1,rfl,rfl,SqT.of hta,rfl,_,rfl,_,rfl,l,us,c,.ref ta,rfl,rfl,SqL.of hl',Yh hcv,ta,_,1,.ref b2,rfl,rfl,SqT.of hta,rfl,?_⟩
   refine ⟨b1,b2,v1,v2,rfl,rfl,hb1,hb2,by lia,fun q hq=>?_⟩
   refine ⟨q,rfl,⟨_,SqL.of upd_same⟩,?_⟩
   have sq:Same H' (upd H' q (.lst (v1++v2))):=Same.new hq
   refine Zbs (sd:=t.ones++t.others) upd_same (RepS.mono (Same.t sq) (RepS.app hr2 hr1)) (by rw [xL]; lia) fun q2 hq2=>?_
   have hqs:q2≠s:=((hs'.keep sq).ne hq2).1
   have hql:q2≠l:=fun z=>by rw [z,sq _ _ hl'] at hq2; cases hq2
   have hs4:=(hs'.keep sq).keep (Same.new hq2 (o:=.lst (((t.ones++t.others).map (·.1)).map V.str)))
   have sx4:SameX s H _:=sx'.trans (sq.trans (Same.new hq2 (o:=.lst (((t.ones++t.others).map (·.1)).map V.str)))).x
   have hq2':(upd (upd H' q (.lst (v1++v2))) q2 (.lst (((t.ones++t.others).map (·.1)).map V.str))) q2=some (.lst (((t.ones++t.others).map (·.1)).map V.str)):=upd_same
   generalize (upd (upd H' q (.lst (v1++v2))) q2 (.lst (((t.ones++t.others).map (·.1)).map V.str)))=H4 at hs4 sx4 hq2' ⊢
   refine Zt ?_
   dsimp only
   refine ⟨_,rfl,q2,_,rfl,.inl (SqL.of hq2'),rfl,_,rfl,Yc (fun _=>?_) (fun hne=>?_)⟩
   ·exact knone H4 hs4 sx4
   have hnl:((((t.ones++t.others).map (·.1)).map V.str).length)=(t.ones++t.others).length:=by rw [xA,xA]
   have hnl2:(t.ones++t.others).length<=120:=by rw [xL]; lia
   have hpos : 0 < (t.ones++t.others).length:=by
    rcases Nat.eq_zero_or_pos (t.ones++t.others).length with z | z
    ·exact absurd (by rw [hnl,z]; rfl) hne
    ·exact z
   refine ⟨_,rfl,_,rfl,_,rfl,_,rfl,q2,_,rfl,.inl (SqL.of hq2'),s,la,_,rfl,hs4,by rw [hnl]; lia,by rw [hnl]; lia,fun d H5 d0 d1 hs5 sx5=>?_⟩
   rw [hnl] at d1
   obtain ⟨j,rfl⟩:=yN d0
   have hj:j < (t.ones++t.others).length:=by lia
   have ej:(((t.ones++t.others).map (·.1)).map V.str)[j]? = some (.str ((t.ones++t.others)[j]).1):=by rw [xR,xR,xB hj]; rfl
   refine ⟨q2,_,j,_,rfl,rfl,SqL.of (sx5 q2 _ hqs hq2'),Yh ej,by show 2<=sizeLine; lia,fun p hp=>?_⟩
   have hps:p≠s:=(hs5.ne hp).1
   have hpl:p≠l:=fun z=>by rw [z,sx5 l _ hls (sx4 l _ hls hl)] at hp; cases hp
   refine k (some ((c:Int),((t.ones++t.others)[j]).1)) _ _ ?_ ?_ (hs5.keep (Same.new hp)) ((sx4.trans sx5).trans (SameX.new hp))
   ·rintro c' n' e
    cases e
    exact ⟨by lia,t,((t.ones++t.others)[j]).2,by rw [xZ]; exact ht,List.getElem_mem hj⟩
   ·refine ⟨p,_,rfl,Zag ?_ upd_same,⟨_,_,rfl,rfl,⟨_,_,rfl,rfl,rfl⟩⟩⟩
    intro m
    rcases xW.mp m with z | z
    ·exact hps z
    ·exact hpl (xF.mp z)
  ·intro D' hn _ _ _
   refine ⟨_,rfl,s,la,3,rfl,hs2,by decide,by decide,fun d3 H3 _ _ hs3 sx3=>?_⟩
   refine ⟨rfl,_,rfl,Yc (fun _=>?_) (fun _=>?_)⟩
   ·exact ⟨_,rfl,_,_,rfl,rfl,hn _ _ ⟨us.length - 1,by lia,hs3,(sx1.trans sx2).trans sx3,by rw [Int.ofNat_sub (by lia)]; rfl⟩⟩
   ·obtain ⟨j,rfl⟩:=yN a2
    exact hn _ _ ⟨j,by lia,hs3,(sx1.trans sx2).trans sx3,rfl⟩
end
section
variable {P:Program}{w:World}{K:uFg}{mg:Str->Option Value}{base:Heap}
theorem RepS.take {H:Hp}:∀ {sd:Zk}{vs:List V}(n:Nat),RepS H sd vs->RepS H (sd.take n) (vs.take n)
 | [],_,n,h=>by cases h; rw [List.take_nil,List.take_nil]; rfl
 | _::_,_,0,_=>rfl
 | _::_,_,n+1,⟨c,vs',e,h1,h2⟩=>by subst e; exact ⟨c,vs'.take n,rfl,h1,RepS.take n h2⟩
theorem RepS.drop {H:Hp}:∀ {sd:Zk}{vs:List V}(n:Nat),RepS H sd vs->RepS H (sd.drop n) (vs.drop n)
 | [],_,n,h=>by cases h; rw [List.drop_nil,List.drop_nil]; rfl
 | _::_,_,0,h=>h
 | _::_,_,n+1,⟨c,vs',e,h1,h2⟩=>by subst e; exact RepS.drop n h2
theorem Zqz (xs:List V) (c:Nat):Vq xs none (some (c:Int))=xs.take c:=by
 unfold Vq
 rw [HT.sIx_none,HT.sIx_nat,List.drop_zero,Nat.sub_zero]
 by_cases h:c<=xs.length
 ·rw [Nat.min_eq_left h]
 ·rw [Nat.min_eq_right (by lia),yQ (xE _),yQ (by lia)]
theorem Zom (xs:List V) (c:Nat):Vq xs (some (c:Int)) none=xs.drop c:=by
 unfold Vq
 rw [HT.sIx_none,HT.sIx_nat]
 by_cases h:c<=xs.length
 ·rw [Nat.min_eq_left h]
  exact yQ (by rw [List.length_drop]; lia)
 ·rw [Nat.min_eq_right (by lia),List.drop_of_length_le (xE _),List.drop_of_length_le (by lia)]
  exact List.take_nil
def SameO (ms:List Addr) (H H':Hp):Prop:=∀ b o,b∉ms->H b=some o->H' b=some o
theorem SameO.trans {ms:List Addr}{H H1 H2:Hp}(a:SameO ms H H1) (b:SameO ms H1 H2):SameO ms H H2:=fun c o n e=>b c o n (a c o n e)
theorem SameX.o {s:Addr}{ms:List Addr}{H H':Hp}(h:SameX s H H') (m:s∈ms):SameO ms H H':=fun b o n e=>h b o (fun z=>n (by rw [z]; exact m)) e
theorem Same.o {ms:List Addr}{H H':Hp}(h:Same H H'):SameO ms H H':=fun b o _ e=>h b o e
theorem RepS.off {s l:Addr}{H:Hp}{xs ys:List V}(hs:H s=some (.lst xs)) (hl:H l=some (.lst ys)):∀ {sd:Zk}{vs:List V},RepS H sd vs->RepS (off [s,l] H) sd vs
 | [],_,h=>h
 | _::_,_,⟨a,vs',e,h1,h2⟩=>⟨a,vs',e,Zag (fun m=>by
   rcases xW.mp m with z | z
   ·rw [z,hs] at h1; cases h1
   ·rw [xF.mp z,hl] at h1; cases h1) h1,RepS.off hs hl h2⟩
theorem Zih {ms ns:List Addr}{H:Hp}(h:∀ b∈ms,b∈ns):Same (off ns H) (off ms H):=fun b o e=>by
 obtain ⟨n,e⟩:=Z3p e
 exact Zag (fun m=>n (h b m)) e
structure Line (ss:List Suit):Prop where
 ok:∀ t∈ss,Wf t
 nd:∀ t∈ss,((t.ones++t.others).map (·.1)).Nodup
 nm:∀ t∈ss,∀ p∈t.ones++t.others,Wz p.1
 back:∀ i t,ss[i]? = some t->Ze0 (ss.take i) t.named
theorem Line.nil:Line []:=⟨(fun _ z=>nomatch z),(fun _ z=>nomatch z),(fun _ z=>nomatch z),fun i t h=>by simp at h⟩
theorem Line.snoc {ss:List Suit}{t:Suit}(h:Line ss) (h1:Wf t) (h2:((t.ones++t.others).map (·.1)).Nodup) (h3:∀ p∈t.ones++t.others,Wz p.1) (h4:Ze0 ss t.named):Line (ss ++ [t]):=by
 have m:∀ x∈ss ++ [t],x∈ss\/x=t:=fun x hx=>(xO.mp hx).imp id xF.mp
 refine ⟨fun x hx=>(m x hx).elim (h.ok x) (fun z=>z▸h1),fun x hx=>(m x hx).elim (h.nd x) (fun z=>z▸h2),fun x hx=>(m x hx).elim (h.nm x) (fun z=>z▸h3),fun i x hx=>?_⟩
 by_cases hi:i < ss.length
 ·rw [List.getElem?_append_left hi] at hx
  rw [List.take_append_of_le_length (yY hi)]
  exact h.back i x hx
 ·rw [List.getElem?_append_right (by lia)] at hx
  have e0:i - ss.length=0:=by
   rcases Nat.eq_zero_or_pos (i - ss.length) with z | z
   ·exact z
   ·rw [List.getElem?_eq_none (by rw [List.length_singleton]; exact z)] at hx; cases hx
  rw [e0] at hx
  cases hx
  have:i=ss.length:=by lia
  rw [this,List.take_append_of_le_length (xE _),yL]
  exact h4
def Zpw:Sp:=fun vs H Q _=>∃ (s la:Addr) (n m:Int),vs = [.ref s,.int n,.int m]/\SrcAt H s la/\0<=n/\n<=100/\0<=m/\m<=60 /\
 ∀ (l:Addr) (us:List V) (ss:List Suit) (H':Hp),(ss.length:Int)=n->Line ss->(∀ t∈ss,((t.ones++t.others).length:Int)<=m)->H l=none->l≠s->H' l=some (.lst us)->RepL (off [s,l] H') (ss.map Ub) us->SrcAt H' s la->SameX s H H'->Q (.ref l) H'
abbrev Y5:Stmt:=top 56
theorem U6:FnScope ["_law_src_here", "_law_many", "_law_most", "_law_pool", "_law_suits_here", "_law_number", "_law_side_here", "_law_cut", "_law_named_here", "_law_need_here"] ["_law_src_here", "_law_many", "_law_most"] (Za Y5):=⟨rfl,rfl,rfl,by decide +kernel,rfl,by decide +kernel,by decide +kernel⟩
theorem Zcn:Nm (Za Y5) "_law_cut" .local:=by decide +kernel
theorem Z5s:Nm (Za Y5) "_law_many" .local:=by decide +kernel
theorem Zsq:Nm (Za Y5) "_law_most" .local:=by decide +kernel
theorem Z5t:Nm (Za Y5) "_law_named" .globalImplicit:=by decide +kernel
theorem Zsr:Nm (Za Y5) "_law_named_here" .local:=by decide +kernel
theorem Z5u:Nm (Za Y5) "_law_names" .globalImplicit:=by decide +kernel
theorem Z5v:Nm (Za Y5) "_law_need" .globalImplicit:=by decide +kernel
theorem Zss:Nm (Za Y5) "_law_need_here" .local:=by decide +kernel
theorem Zga:Nm (Za Y5) "_law_next" .globalImplicit:=by decide +kernel
theorem Z5w:Nm (Za Y5) "_law_number" .local:=by decide +kernel
theorem Zst:Nm (Za Y5) "_law_pool" .local:=by decide +kernel
theorem Z5x:Nm (Za Y5) "_law_side" .globalImplicit:=by decide +kernel
theorem Nq7:Nm (Za Y5) "_law_side_here" .local:=by decide +kernel
theorem Nq3:Nm (Za Y5) "_law_src_here" .local:=by decide +kernel
theorem Zgb:Nm (Za Y5) "_law_suits_here" .local:=by decide +kernel
theorem Zsu:Nm (Za Y5) "len" .globalImplicit:=by decide +kernel
theorem Z5y:Nm (Za Y5) "range" .globalImplicit:=by decide +kernel
theorem Z5z (Zjs:Has K mg "_law_suits" Y5) (T:Txt mg) (Z7:Fn P w K mg base "_law_next" ["_law_src_here", "_law_base"] 1 Ua)
  (Zjt:Fn P w K mg base "_law_names" ["_law_src_here", "_law_many"] 3 Zig) (Z50:Fn P w K mg base "_law_side" ["_law_src_here", "_law_names_here", "_law_many"] 3 Zqx)
  (Z51:Fn P w K mg base "_law_named" ["_law_src_here", "_law_suits_here"] 2 Zpv) (Z52:Fn P w K mg base "_law_need" ["_law_src_here", "_law_ones", "_law_others"] 2 Zqy) :
  Fn P w K mg base "_law_suits" ["_law_src_here", "_law_many", "_law_most"] 4 Zpw:=by
 refine Zjs.fnQ U6 (fun _ _ _ _ _ _ us hl=>match us,hl with | [_,_,_],_=>rfl) (fun vs H Q E h=>?_) (fun f cdv A outer s H vs Q E hr h=>?_)
 ·obtain ⟨s,la,n,m,rfl,_⟩:=h
  rfl
 ·obtain ⟨s,la,n,m,rfl,hsrc,hn0,hn1,hm0,hm1,k⟩:=h
  refine ⟨_,(Ze (Zl (i:=3) U6.nd Zst (Zj Zjt (hr.mono (by lia)) Z5u (Zb (qvN 0 Nq3) (Zb (Zn Yr (qvN 2 Zsq) Zd) Zc))))
 (Ze (Zl (i:=4) U6.nd Zgb (Yq Zc))
 (Ze (Y7 PassesOwn.never rfl (Zbm Z5y.1 T.range (Zb (qvN 1 Z5s) Zc)) (Yo (i:=5) U6.nd Z5w)
 (Ze (Zl (i:=6) U6.nd Nq7 (Zj Z50 (hr.mono (by lia)) Z5x (Zb (qvN 0 Nq3) (Zb (qvN 3 Zst) (Zb (Zj Z7 (hr.mono (by lia)) Zga (Zb (qvN 0 Nq3) (Zb (Zn Yr (qvN 2 Zsq) Zd) Zc))) Zc)))))
 (Ze (Zl (i:=7) U6.nd Zcn (Zn Zek (Zn Yr (Zn Yr (Z6 Y9 Zsu T.len Yy (Zb (qvN 6 Nq7) Zc)) Zd) (Zj Z7 (hr.mono (by lia)) Zga (Zb (qvN 0 Nq3) (Zb Zd Zc)))) Zd))
 (Ze (Zy (Zw We (Zj Z7 (hr.mono (by lia)) Zga (Zb (qvN 0 Nq3) (Zb Zd Zc))) Zd (Z1 _)) (Zg (Zl (i:=7) U6.nd Zcn (Zj Z7 (hr.mono (by lia)) Zga (Zb (qvN 0 Nq3) (Zb (Zn Yr (Z6 Y9 Zsu T.len Yy (Zb (qvN 6 Nq7) Zc)) Zd) Zc))))) Z0)
 (Ze (Zl (i:=8) U6.nd Zsr (Zj Z51 (hr.mono (by lia)) Z5t (Zb (qvN 0 Nq3) (Zb (qvN 4 Zgb) Zc))))
 (Ze (Zl (i:=9) U6.nd Zss (Zj Z52 (hr.mono (by lia)) Z5v (Zb (qvN 0 Nq3) (Zb (Ut Zc2 (qvN 6 Nq7) Ur (Us (qvN 7 Zcn))) (Zb (Ut Zc2 (qvN 6 Nq7) (Us (qvN 7 Zcn)) Ur) Zc)))))
 (Zg (Yl (Ww F.plainAttrs_list F.slot_list_append F.type_list_append Ug (qvN 4 Zgb) (Zb (Y8 (Zb (Ut Zc2 (qvN 6 Nq7) Ur (Us (qvN 7 Zcn))) (Zb (Ut Zc2 (qvN 6 Nq7) (Us (qvN 7 Zcn)) Ur) (Zb (qvN 9 Zss) (Zb (qvN 8 Zsr) Zc))))) Zc))))))))))
 (Zg (Zo (qvN 4 Zgb)))))),?_⟩
  have hz:(2000:Nat)<=sizeLine:=by decide
  refine ⟨_,rfl,_,rfl,_,_,rfl,rfl,s,la,_,rfl,hsrc,by lia,by lia,fun lp names H1 hnl hnd hnm hlpf hlp hs1 sx1=>?_⟩
  have hlps:lp≠s:=(hsrc.ne hlpf).1
  refine ⟨by show 0<=sizeLine; lia,fun l hl=>?_⟩
  have hls:l≠s:=(hs1.ne hl).1
  have hlla:l≠la:=(hs1.ne hl).2
  have hllp:l≠lp:=fun z=>by rw [z,hlp] at hl; cases hl
  have hlH:H l=none:=by
   cases e:H l with
   | none=>rfl
   | some o=>rw [sx1 l o hls e] at hl; cases hl
  refine ⟨_,rfl,_,rfl,?_,?_,?_⟩
  ·lia
  ·lia
  refine Zbk n.toNat (by lia) (fun i σ H'=>∃ (ss:List Suit) (us:List V) (v5 v6 v7 v8 v9:Option V),σ = [some (.ref s),some (.int n),some (.int m),some (.ref lp),some (.ref l),v5,v6,v7,v8,v9]/\ss.length=i/\Line ss/\(∀ t∈ss,((t.ones++t.others).length:Int)<=m) /\
    H' l=some (.lst us)/\RepL (off [s,l] H') (ss.map Ub) us/\SrcAt H' s la/\SameX s H H'/\H' lp=some (.lst (names.map V.str)))
   ⟨[],[],none,none,none,none,none,rfl,rfl,Line.nil,(fun _ z=>nomatch z),upd_same,rfl,hs1.keep (Same.new hl),sx1.trans (SameX.new hl),by rw [Zh hllp.symm]; exact hlp⟩ ?_ ?_
  ·rintro i σ H' hi ⟨ss,us,v5,v6,v7,v8,v9,rfl,hss,hline,hshort,hl',hrep,hs',sx',hlp'⟩
   refine Zt ?_
   dsimp only
   refine ⟨_,rfl,_,rfl,_,rfl,_,rfl,_,_,rfl,rfl,s,la,_,rfl,hs',by lia,by lia,fun d H2 d0 d1 hs2 sx2=>?_⟩
   refine ⟨s,la,lp,names,d,rfl,hs2,sx2 lp _ hlps hlp',hlps,hnd,d0,by lia,fun ls sd vs H3 hsd hdr hlsf hls3 hrs3 hs3 sx3=>?_⟩
   have n1:ls≠s:=(hs2.ne hlsf).1
   have n2:ls≠l:=fun z=>by rw [z,sx2 l _ hls hl'] at hlsf; cases hlsf
   refine Zt ?_
   dsimp only
   refine ⟨_,rfl,ls,_,rfl,.inl (SqL.of hls3),_,_,rfl,rfl,_,rfl,s,la,2,rfl,hs3,by decide,by decide,fun d4 H4 e0 e1 hs4 sx4=>?_⟩
   refine ⟨_,_,rfl,rfl,_,_,rfl,rfl,⟨by decide,by decide⟩,?_⟩
   refine Zt ?_
   dsimp only
   have hvl:=hrs3.len
   refine Zaf (fun σ H'=>∃ c:Nat,SrcAt H' s la/\SameX s H3 H' /\ σ = [some (.ref s),some (.int n),some (.int m),some (.ref lp),some (.ref l),some (.int (0+(i:Nat))),some (.ref ls),some (.int c),v8,v9]) ?_ ?_
   ·rintro σ H5 ⟨c,hs5,sx5,rfl⟩
    have o15:SameO [s,l] H' H5:=SameX.o ((sx2.trans sx3).trans sx5) xI
    have hl5:H5 l=some (.lst us):=sx5 l _ hls (sx3 l _ hls (sx2 l _ hls hl'))
    have hrep5:=hrep.mono' (Vi o15)
    refine ⟨_,rfl,_,rfl,s,la,l,us,ss,rfl,hs5,hl5,hls,hrep5.mono' (Zih fun b hb=>xW.mpr (.inl (xF.mp hb))),by lia,hline.ok,fun nm vn H6 hnmok hnmr hs6 sx6=>?_⟩
    refine Zt ?_
    dsimp only
    have hls6:H6 ls=some (.lst vs):=sx6 ls _ n1 (sx5 ls _ n1 hls3)
    obtain ⟨_,_,_,_,_,hs3',_⟩:=id hs3
    obtain ⟨_,_,_,_,_,hs6',_⟩:=id hs6
    have hrs6:RepS H6 sd vs:=hrs3.mono (Zey (sx5.trans sx6) hs3')
    have hl6:=sx6 l _ hls hl5
    refine ⟨_,rfl,_,rfl,_,rfl,_,rfl,ls,vs,rfl,SqL.of hls6,fun p1 hp1=>?_⟩
    rw [Zqz]
    have hls7:=Same.new (o:=.lst (vs.take c)) hp1 _ _ hls6
    refine ⟨_,rfl,_,rfl,_,rfl,ls,vs,rfl,SqL.of hls7,fun p2 hp2=>?_⟩
    rw [Zom]
    have S68:=(Same.new (o:=.lst (vs.take c)) hp1).trans (Same.new (o:=.lst (vs.drop c)) hp2)
    have g2:(upd (upd H6 p1 (.lst (vs.take c))) p2 (.lst (vs.drop c))) p2=some (.lst (vs.drop c)):=upd_same
    have g1:(upd (upd H6 p1 (.lst (vs.take c))) p2 (.lst (vs.drop c))) p1=some (.lst (vs.take c)):=Same.new (o:=.lst (vs.drop c)) hp2 _ _ upd_same
    generalize (upd (upd H6 p1 (.lst (vs.take c))) p2 (.lst (vs.drop c)))=H8 at S68 g1 g2 ⊢
    have hs8:=hs6.keep S68
    have hrs8:RepS H8 sd vs:=hrs6.mono (Same.t S68)
    refine ⟨s,la,.ref p1,.ref p2,sd.take c,sd.drop c,rfl,hs8,⟨p1,_,rfl,g1,hrs8.take c⟩,⟨p2,_,rfl,g2,hrs8.drop c⟩,fun dn H9 w0 w1 hs9 sx9=>?_⟩
    refine Zt ?_
    dsimp only
    obtain ⟨_,_,_,_,_,hs8',_⟩:=id hs8
    obtain ⟨_,_,_,_,_,hs9',_⟩:=id hs9
    have hl9:H9 l=some (.lst us):=sx9 l _ hls (S68 l _ hl6)
    have hls9:H9 ls=some (.lst vs):=sx9 ls _ n1 (S68 ls _ hls6)
    have hrs9:RepS H9 sd vs:=hrs8.mono (Zey sx9 hs8')
    refine ⟨_,rfl,.inl ⟨rfl,_,SqL.of hl9⟩,_,rfl,_,rfl,_,rfl,ls,vs,rfl,SqL.of hls9,fun q1 hq1=>?_⟩
    rw [Zqz]
    have S1:=Same.new (o:=.lst (vs.take c)) hq1
    have k1:(upd H9 q1 (.lst (vs.take c))) q1=some (.lst (vs.take c)):=upd_same
    generalize (upd H9 q1 (.lst (vs.take c)))=H10 at S1 k1 ⊢
    refine ⟨_,rfl,_,rfl,_,rfl,ls,vs,rfl,SqL.of (S1 _ _ hls9),fun q2 hq2=>?_⟩
    rw [Zom]
    have S2:=Same.new (o:=.lst (vs.drop c)) hq2
    have k2:(upd H10 q2 (.lst (vs.drop c))) q2=some (.lst (vs.drop c)):=upd_same
    generalize (upd H10 q2 (.lst (vs.drop c)))=H11 at S2 k2 ⊢
    refine ⟨_,rfl,_,rfl,by show 4<=sizeLine; lia,fun p hp=>?_⟩
    have S3:=Same.new (o:=.tup [.ref q1,.ref q2,.int dn,vn]) hp
    have k3:(upd H11 p (.tup [.ref q1,.ref q2,.int dn,vn])) p=some (.tup [.ref q1,.ref q2,.int dn,vn]):=upd_same
    have hs11:=(hs9.keep S1).keep S2
    have hl11:=S2 _ _ (S1 _ _ hl9)
    have np:p ∉ [s,l]:=fun z=>by
     rcases xW.mp z with z | z
     ·exact (hs11.ne hp).1 z
     ·rw [xF.mp z,hl11] at hp; cases hp
    have nq1:q1 ∉ [s,l]:=fun z=>by
     rcases xW.mp z with z | z
     ·exact (hs9.ne hq1).1 z
     ·rw [xF.mp z,hl9] at hq1; cases hq1
    have nq2:q2 ∉ [s,l]:=fun z=>by
     rcases xW.mp z with z | z
     ·exact ((hs9.keep S1).ne hq2).1 z
     ·rw [xF.mp z,S1 _ _ hl9] at hq2; cases hq2
    generalize (upd H11 p (.tup [.ref q1,.ref q2,.int dn,vn]))=H12 at S3 k3 ⊢
    have hul:us.length=ss.length:=by have:=hrep.length; rw [xA] at this; exact this
    have hl12:=S3 _ _ hl11
    refine ⟨l,us,.ref p,rfl,rfl,hl12,by lia,?_⟩
    have Ol:SameO [s,l] H12 (upd H12 l (.lst (us ++ [.ref p]))):=fun b o nb e=>by rw [Zh (fun z=>nb (by rw [z]; exact xN _ (xF.mpr rfl)))]; exact e
    have O10:SameO [s,l] H10 (upd H12 l (.lst (us ++ [.ref p]))):=(Same.o (S2.trans S3)).trans Ol
    have O11:SameO [s,l] H11 (upd H12 l (.lst (us ++ [.ref p]))):=(Same.o S3).trans Ol
    have O9:SameO [s,l] H9 (upd H12 l (.lst (us ++ [.ref p]))):=(Same.o S1).trans O10
    have O6:SameO [s,l] H6 (upd H12 l (.lst (us ++ [.ref p]))):=((Same.o S68).trans (SameX.o sx9 xI)).trans O9
    have O5:SameO [s,l] H5 (upd H12 l (.lst (us ++ [.ref p]))):=(SameX.o sx6 xI).trans O6
    have hro:=(RepS.off hs9' hl9 hrs9).mono (Same.t (Vi O9))
    have hsdm:(sd.length:Int)<=m:=by lia
    have etd:sd.take c++sd.drop c=sd:=List.take_append_drop c sd
    refine ⟨ss ++ [⟨sd.take c,sd.drop c,dn,nm⟩],us ++ [.ref p],_,_,_,_,_,rfl,by rw [xL,hss]; rfl,hline.snoc ⟨⟨fun q hq=>hdr.wt q (yR hq),?_⟩,⟨fun q hq=>hdr.wt q (List.mem_of_mem_drop hq),?_⟩,w0,w1⟩ ?_ ?_ hnmok,fun x hx=>?_,upd_same,?_,?_,?_,?_⟩
    ·rw [xY]; lia
    ·rw [List.length_drop]; lia
    ·show ((sd.take c++sd.drop c).map (·.1)).Nodup
     rw [etd]; exact hdr.nd
    ·intro q hq
     have hq:q∈sd.take c++sd.drop c:=hq
     rw [etd] at hq
     exact hnm _ (hdr.mem q hq)
    ·rcases xO.mp hx with z | z
     ·exact hshort x z
     ·rw [xF.mp z]
      show ((sd.take c++sd.drop c).length:Int)<=m
      rw [etd]; exact hsdm
    ·rw [xP]
     refine RepL.snoc (Z1x (t:=⟨sd.take c,sd.drop c,dn,nm⟩) (Vi Ol _ _ (Zag np k3)) ⟨q1,_,rfl,Vi O10 _ _ (Zag nq1 k1),hro.take c⟩ ⟨q2,_,rfl,Vi O11 _ _ (Zag nq2 k2),hro.drop c⟩ (hnmr.mono' (Vi O6))) (hrep5.mono' (Vi O5))
    ·exact (hs11.keep S3).keepX SameX.upd hls hlla
    ·intro b o hb e
     have e12:=S3 b o (S2 b o (S1 b o (sx9 b o hb (S68 b o (sx6 b o hb (sx5 b o hb (sx3 b o hb (sx2 b o hb (sx' b o hb e)))))))))
     rw [Zh (fun z=>by rw [z,hlH] at e; cases e)]
     exact e12
    ·have e12:=S3 _ _ (S2 _ _ (S1 _ _ (sx9 _ _ hlps (S68 _ _ (sx6 _ _ hlps (sx5 _ _ hlps (sx3 _ _ hlps (sx2 _ _ hlps hlp'))))))))
     rw [Zh hllp.symm]
     exact e12
   ·intro D' hn _ _ _
    refine ⟨_,rfl,s,la,3,rfl,hs4,by decide,by decide,fun d5 H5 _ _ hs5 sx5=>?_⟩
    refine ⟨rfl,_,rfl,Yc (fun _=>?_) (fun _=>?_)⟩
    ·refine ⟨_,rfl,_,rfl,ls,_,rfl,.inl (SqL.of (sx5 ls _ n1 (sx4 ls _ n1 hls3))),_,_,rfl,rfl,s,la,_,rfl,hs5,by lia,by lia,fun d6 H6 f0 f1 hs6 sx6=>?_⟩
     obtain ⟨j,rfl⟩:=yN f0
     exact hn _ _ ⟨j,hs6,(sx4.trans sx5).trans sx6,rfl⟩
    ·obtain ⟨j,ej⟩:=yN (show (0:Int)<=((vs.length:Int)+1+d4) / 2 by lia)
     exact hn _ _ ⟨j,hs5,sx4.trans sx5,by rw [← ej]; rfl⟩
  ·rintro σ H' ⟨ss,us,v5,v6,v7,v8,v9,rfl,hss,hline,hshort,hl',hrep,hs',sx',hlp'⟩
   exact ⟨_,rfl,k l us ss H' (by lia) hline hshort hlH hls hl' hrep hs' sx'⟩
end
section
variable {P:Program}{w:World}{K:uFg}{mg:Str->Option Value}{base:Heap}
abbrev Vj:=List (List Key×V)
def Zq (c:Int) (n:Str):List Key:=[.inl c,.inr n]
def brk (kvs:Vj) (c:Int) (n:Str):Bool:=(Zm kvs (Zq c n)).isSome
def keep (br:Int->Str->Bool) (c:Int) (sd:Zk):Zk:=sd.filter fun p=>!br c p.1
def Zfq (br:Int->Str->Bool) (c:Int) (sd:Zk):Int:=(wts (keep br c sd)).sum
def GoneAt (H:Hp) (gv:V) (br:Int->Str->Bool):Prop:=(∃ g kvs,gv = .ref g/\H g=some (.dT kvs)/\br=brk kvs)\/∃ p vs ps,gv = .ref p/\H p=some (.lst vs)/\Za6 H ps vs/\br=fun c n=>decide ((c,n)∈ps)
theorem Zhe {H H':Hp}(k:Same H H'):∀ {ps:List (Int×Str)}{vs:List V},Za6 H ps vs->Za6 H' ps vs
 | [],_,h=>h
 | _::_,_,⟨a,vs',e,h1,h2⟩=>⟨a,vs',e,k _ _ h1,Zhe k h2⟩
theorem GoneAt.mono {H H':Hp}{gv:V}{br:Int->Str->Bool}(h:GoneAt H gv br) (k:Same H H'):GoneAt H' gv br:=by
 rcases h with ⟨g,kvs,e,h1,h2⟩ | ⟨p,vs,ps,e,h1,h2,h3⟩
 ·exact .inl ⟨g,kvs,e,k _ _ h1,h2⟩
 ·exact .inr ⟨p,vs,ps,e,k _ _ h1,Zhe k h2,h3⟩
def Zra:Sp:=fun vs H Q _=>∃ (c:Int) (v gv:V) (sd:Zk) (br:Int->Str->Bool),vs = [.int c,v,gv]/\SideAt H sd v/\Light sd/\GoneAt H gv br/\∀ H',Same H H'->Q (.int (Zfq br c sd)) H'
theorem Zyd {br:Int->Str->Bool}{c:Int}{sd:Zk}{i:Nat}{p:Str×Int}(h:sd[i]? = some p):keep br c (sd.take (i+1))=keep br c (sd.take i)++(if br c p.1 then [] else [p]):=by
 unfold keep
 rw [yB,h,List.filter_append]
 cases e:br c p.1 <;> simp [e]
abbrev Zbf:Stmt:=top 23
theorem Z53:FnScope ["case", "side", "gone"] ["case", "side", "gone"] (Za Zbf):=⟨rfl,rfl,rfl,by decide +kernel,rfl,by decide +kernel,by decide +kernel⟩
theorem Z54:Nm (Za Zbf) "case" .cell:=by decide +kernel
theorem Z55:Nm (Za Zbf) "gone" .cell:=by decide +kernel
theorem Z56:Nm (Za Zbf) "side" .local:=by decide +kernel
theorem Z57:Nm (Za Zbf) "sum" .globalImplicit:=by decide +kernel
theorem Z58 (Zju:Has K mg "kept_weight" Zbf) (T:Txt mg):Fn P w K mg base "kept_weight" ["case", "side", "gone"] 1 Zra:=by
 refine Zju.fnQ Z53 (fun _ _ _ _ _ _ us hl=>match us,hl with | [_,_,_],_=>rfl) (fun vs H Q E h=>?_) (fun f cdv A outer s H vs Q E hr h=>?_)
 ·obtain ⟨c,v,gv,sd,br,rfl,_⟩:=h
  rfl
 ·obtain ⟨c,v,gv,sd,br,rfl,⟨a,vs,rfl,ha,hrs⟩,hL,hg,k⟩:=h
  refine ⟨_,(Zg (Zo (Z6 (Zhg (by rfl)) Z57 T.sum Zi9 (Zb (Wr (locs:=["name", "weight"]) (fr:=[("case", 0),("gone", 2)]) ⟨rfl,by decide +kernel,by decide +kernel,by decide +kernel,by decide +kernel,by decide +kernel⟩ (.consN Z54 (.consN Z55 .nil)) rfl (Yp (qvN 1 Z56)) ⟨fun _ _ _ _ _ _=>by
  have cnd:(inN ["name", "weight"] [("case", 0),("gone", 2)]).Nodup:=by decide +kernel
  exact ⟨(Vh 2 (by rfl) (Z2 (Z8 0 cnd) (Z2 (Z8 1 cnd) Wc))),(Zbu (Zw (Zvu hr) (Y8 (Zb (Y4 2) (Zb (Yj 0) Zc))) (Y4 3) rfl)),(Yj 1)⟩⟩) Zc)))),?_⟩
  have key:∀ (H1:Hp) (q:Addr) (n:Str),Same H H1->H1 q=some (.tup [.int c,.str n])->∀ Q:VK,Q (.bl (!br c n)) H1->Zhw K (.ref q) gv H1 Q:=fun H1 q n S k1 Q hQ=>by
   rcases hg with ⟨g,kvs,rfl,hg1,rfl⟩ | ⟨pl,pvs,ps,rfl,hp1,hp2,rfl⟩
   ·exact .inr ⟨g,_,rfl,DGet.t (S _ _ hg1) (k:=Zq c n) k1,hQ⟩
   ·exact .inl ⟨q,pl,c,n,ps,pvs,rfl,k1,rfl,SqL.of (S _ _ hp1),Zhe S hp2,hQ⟩
  have hz:(2000:Nat)<=sizeLine:=by decide
  have hvl:=hrs.len
  have hl60:=hL.2
  refine ⟨_,rfl,a,rfl,⟨_,SqL.of ha⟩,?_⟩
  refine Vv (xs:=vs) (fun i ys H'=>Same H H'/\ys=(wts (keep br c (sd.take i))).map V.int) ⟨fun _ _ e=>e,rfl⟩ (by lia) (fun i ys H' _ ⟨e,_⟩=>SqL.of (e _ _ ha)) ?_ ?_ ?_
  ·rintro i ys H' ⟨_,rfl⟩
   unfold wts keep
   rw [xA,xA]
   refine yA (List.length_filter_le _ _) ?_
   rw [xY]; lia
  ·rintro i x ys H' hx ⟨sm,rfl⟩ ls hls
   obtain ⟨w1,w2,rfl⟩:=Zbe hls
   obtain ⟨p,b,hp,rfl,hb⟩:=hrs.get hx
   refine ⟨b,_,rfl,SqT.of (sm _ _ hb),rfl,_,_,rfl,_,_,rfl,rfl,⟨[_,_],rfl,rfl⟩,?_⟩
   refine ⟨_,rfl,_,rfl,by show 2<=sizeLine; lia,fun q hq=>?_⟩
   have S1:=Same.new (o:=.tup [.int c,.str p.1]) hq
   have k1:(upd H' q (.tup [.int c,.str p.1])) q=some (.tup [.int c,.str p.1]):=upd_same
   generalize (upd H' q (.tup [.int c,.str p.1]))=H1 at S1 k1 ⊢
   refine ⟨_,rfl,key H1 q p.1 (sm.trans S1) k1 _ ⟨_,rfl,?_⟩⟩
   have e:=Zyd (br:=br) (c:=c) hp
   show if (!br c p.1)=true then _ else _
   cases hb':br c p.1 with
   | true =>
    rw [hb',if_pos rfl,yO] at e
    refine Yt ?_
    exact ⟨sm.trans S1,by rw [e]⟩
   | false =>
    rw [hb',if_neg xJ] at e
    refine Yb ?_
    refine ⟨_,rfl,sm.trans S1,?_⟩
    rw [e]
    unfold wts
    rw [xP,xP]
    rfl
  ·rintro ys H' ⟨sm,rfl⟩ l hl'
   rw [hvl,yL]
   refine ⟨l,wts (keep br c sd),rfl,SqL.of upd_same,fun n hn=>?_,?_,k _ (sm.trans (Same.new hl'))⟩
   ·obtain ⟨p,hp,rfl⟩:=xV.mp hn
    exact hL.bnd _ (xV.mpr ⟨p,(yH.mp hp).1,rfl⟩)
   ·unfold wts keep
    rw [xA]
    exact yA (List.length_filter_le _ _) (by lia)
def Wg (br:Int->Str->Bool) (c:Int) (t:Suit):Int:=Zfq br c t.ones - Zfq br c t.others - t.need
def SuitsAt (H:Hp) (ss:List Suit) (l:Addr):Prop:=∃ us,H l=some (.lst us)/\RepL H (ss.map Ub) us
theorem SuitsAt.mono {H H':Hp}{ss:List Suit}{l:Addr}(h:SuitsAt H ss l) (k:Same H H'):SuitsAt H' ss l:=let ⟨us,a,b⟩:=h; ⟨us,k _ _ a,b.mono' k⟩
theorem SuitsAt.get {H:Hp}{ss:List Suit}{l:Addr}{us:List V}{i:Nat}{t:Suit}(b:RepL H (ss.map Ub) us) (ht:ss[i]? = some t) :
  ∃ ta u1 u2 u4,us[i]? = some (.ref ta)/\H ta=some (.tup [u1,u2,.int t.need,u4])/\SideAt H t.ones u1/\SideAt H t.others u2/\Rep H (Zah t.named) u4:=by
 have hl:=b.length
 rw [xA] at hl
 have hi:i < us.length:=by rw [hl]; exact (xC.mp ht).1
 have hu:us[i]? = some us[i]:=xB hi
 obtain ⟨d,hd,hr⟩:=b.get hu
 rw [xR,ht] at hd
 cases hd
 obtain ⟨ta,u1,u2,u4,e,h1,h2,h3,h4⟩:=Zol hr
 exact ⟨ta,u1,u2,u4,by rw [hu,e],h1,h2,h3,h4⟩
def Zhl:Sp:=fun vs H Q _=>∃ (l:Addr) (gv:V) (c:Nat) (ss:List Suit) (t:Suit) (br:Int->Str->Bool),vs = [.ref l,.int c,gv]/\SuitsAt H ss l/\ss[c]? = some t/\Wf t/\GoneAt H gv br/\∀ H',Same H H'->Q (.int (Wg br c t)) H'
def Zhy:Sp:=fun vs H Q _=>∃ (l g:Addr) (c:Nat) (ss:List Suit) (t:Suit) (kvs:Vj),vs = [.ref l,.int c,.ref g]/\SuitsAt H ss l/\ss[c]? = some t/\Wf t/\H g=some (.dT kvs)/\∀ H',Same H H'->Q (.int (Wg (brk kvs) c t)) H'
theorem Zw0 {vs:List V}{H:Hp}{Q:VK}{E:XK}(h:Zhy vs H Q E):Zhl vs H Q E :=
 let ⟨l,g,c,ss,t,kvs,e,a,b,d,f,k⟩:=h
 ⟨l,.ref g,c,ss,t,brk kvs,e,a,b,d,.inl ⟨g,kvs,rfl,f,rfl⟩,k⟩
abbrev Vy:Stmt:=top 22
theorem Zsv:FnScope ["suits", "case", "gone", "suit"] ["suits", "case", "gone"] (Za Vy):=⟨rfl,rfl,rfl,by decide +kernel,rfl,by decide +kernel,by decide +kernel⟩
theorem Z59:Nm (Za Vy) "NEED" .globalImplicit:=by decide +kernel
theorem Z6a:Nm (Za Vy) "ONES" .globalImplicit:=by decide +kernel
theorem Z6b:Nm (Za Vy) "OTHERS" .globalImplicit:=by decide +kernel
theorem Zlr:Nm (Za Vy) "case" .local:=by decide +kernel
theorem Zsw:Nm (Za Vy) "gone" .local:=by decide +kernel
theorem Zsx:Nm (Za Vy) "kept_weight" .globalImplicit:=by decide +kernel
theorem Zgc:Nm (Za Vy) "suit" .local:=by decide +kernel
theorem Z6c:Nm (Za Vy) "suits" .local:=by decide +kernel
theorem Z6d (Zjv:Has K mg "margin_without" Vy) (T:Txt mg) (C0:∃ t,mg "ONES" = some (.int 0 t)) (C1:∃ t,mg "OTHERS" = some (.int 1 t)) (C2:∃ t,mg "NEED" = some (.int 2 t))
  (Zsy:Fn P w K mg base "kept_weight" ["case", "side", "gone"] 1 Zra):Fn P w K mg base "margin_without" ["suits", "case", "gone"] 2 Zhl:=by
 obtain ⟨t0,c_ONES⟩:=C0
 obtain ⟨t1,c_OTHERS⟩:=C1
 obtain ⟨t2,c_NEED⟩:=C2
 have r_ONES:RelV (.int 0) (.int 0 t0):=⟨t0,rfl⟩
 have r_OTHERS:RelV (.int 1) (.int 1 t1):=⟨t1,rfl⟩
 have r_NEED:RelV (.int 2) (.int 2 t2):=⟨t2,rfl⟩
 refine Zjv.fnQ Zsv (fun _ _ _ _ _ _ us hl=>match us,hl with | [_,_,_],_=>rfl) (fun vs H Q E h=>?_) (fun f cdv A outer s H vs Q E hr h=>?_)
 ·obtain ⟨l,gv,c,ss,t,br,rfl,_⟩:=h
  rfl
 ·obtain ⟨l,gv,c,ss,t,br,rfl,⟨us,hl,hrep⟩,ht,⟨L1,L2',_,_⟩,hg,k⟩:=h
  refine ⟨_,(Ze (Zl (i:=3) Zsv.nd Zgc (Zi Zz (qvN 0 Z6c) (qvN 1 Zlr) (fun _ _=>rfl)))
 (Zg (Zo (Zn V7 (Zn V7 (Zj Zsy (hr.mono (by lia)) Zsx (Zb (qvN 1 Zlr) (Zb (Zi Z3 (qvN 3 Zgc) (Yg Z6a c_ONES r_ONES) (fun _ _=>rfl)) (Zb (qvN 2 Zsw) Zc)))) (Zj Zsy (hr.mono (by lia)) Zsx (Zb (qvN 1 Zlr) (Zb (Zi Z3 (qvN 3 Zgc) (Yg Z6b c_OTHERS r_OTHERS) (fun _ _=>rfl)) (Zb (qvN 2 Zsw) Zc))))) (Zi Z3 (qvN 3 Zgc) (Yg Z59 c_NEED r_NEED) (fun _ _=>rfl)))))),?_⟩
  obtain ⟨ta,u1,u2,u4,hu,hta,h1,h2,h4⟩:=SuitsAt.get (l:=l) hrep ht
  refine ⟨_,rfl,_,rfl,l,us,c,.ref ta,rfl,rfl,SqL.of hl,Yh hu,?_⟩
  refine ⟨_,rfl,_,rfl,ta,_,0,u1,rfl,rfl,SqT.of hta,rfl,_,rfl,c,u1,gv,t.ones,br,rfl,h1,L1,hg,fun H1 s1=>?_⟩
  refine ⟨_,rfl,_,rfl,ta,_,1,u2,rfl,rfl,SqT.of (s1 _ _ hta),rfl,_,rfl,c,u2,gv,t.others,br,rfl,h2.mono s1,L2',hg.mono s1,fun H2 s2=>?_⟩
  refine ⟨_,_,rfl,rfl,_,rfl,ta,_,2,_,rfl,rfl,SqT.of (s2 _ _ (s1 _ _ hta)),rfl,_,_,rfl,rfl,k H2 (s1.trans s2)⟩
end
section
variable {P:Program}{w:World}{K:uFg}{mg:Str->Option Value}{base:Heap}
abbrev Zf:=Int×Str
def Zr (more:List Zf):Nat->List Suit->List Bool×List Zf
 | _,[]=>([],more)
 | i,t::r =>
  (decide (0<=Wg (fun c n=>decide ((c,n)∈(Zr more (i+1) r).2)) i t)::(Zr more (i+1) r).1,
   if decide (0<=Wg (fun c n=>decide ((c,n)∈(Zr more (i+1) r).2)) i t)=true then (Zr more (i+1) r).2++t.named.toList else (Zr more (i+1) r).2)
theorem Zbn (more:List Zf):∀ (ss:List Suit) (i:Nat),(Zr more i ss).1.length=ss.length
 | [],_=>rfl
 | t::r,i=>by rw [Zr,xS,Zbn more r (i+1),xS]
def GoneIs (kvs:Vj) (gn:List Zf):Prop:=∀ c n,brk kvs c n=decide ((c,n)∈gn)
theorem GoneIs.put {kvs:Vj}{gn:List Zf}{c:Int}{n:Str}{v:V}(h:GoneIs kvs gn):GoneIs (Yi kvs (Zq c n) v) (gn ++ [(c,n)]):=by
 intro c' n'
 unfold brk
 rw [Zab]
 by_cases e:Zq c' n'=Zq c n
 ·rw [if_pos e]
  have e':(c',n')=(c,n):=by
   unfold Zq at e
   injection e with e1 e2
   injection e2 with e2 _
   cases e1
   cases e2
   rfl
  rw [e']
  exact (xH (xM _ (xF.mpr rfl))).symm
 ·rw [if_neg e]
  refine (h c' n').trans ?_
  have e':¬ (c',n')=(c,n):=fun z=>e (by injection z with z1 z2; rw [z1,z2])
  have:((c',n')∈gn ++ [(c,n)])↔((c',n')∈gn):=by rw [xO,xF]; exact ⟨fun z=>z.elim id (fun z=>absurd z e'),.inl⟩
  rw [decide_eq_decide]
  exact this.symm
theorem Zpx (r:List Bool) (b:Bool):∀ c:Nat,((List.replicate (c+1) false++r).map V.bl).set c (.bl b)=(List.replicate c false++(b::r)).map V.bl
 | 0=>rfl
 | c+1=>by
  rw [zB,List.cons_append,xQ,List.set_cons_succ,Zpx r b c,zB,List.cons_append,xQ]
theorem Zpy (r:List Bool) (b:Bool):∀ c:Nat,((List.replicate c false++(b::r)).map V.bl)[c]? = some (.bl b)
 | 0=>rfl
 | c+1=>by
  rw [zB,List.cons_append,xQ,List.getElem?_cons_succ]
  exact Zpy r b c
theorem Z1y {n c:Nat}(h:c < n):ixN n (c:Int)=some c:=by
 unfold ixN
 rw [if_pos (by lia),if_pos (by lia),xZ]
def Zpz:Sp:=fun vs H Q _=>∃ (l m:Addr) (ss:List Suit) (ms:List V) (more:List Zf),vs = [.ref l,.ref m]/\SuitsAt H ss l/\(∀ t∈ss,Wf t)/\ss.length<=1000/\H m=some (.lst ms)/\RepL H (more.map fun x=>Zah (some x)) ms/\more.length<=1000 /\
 ∀ (l2:Addr) (H':Hp),H l2=none->H' l2=some (.lst ((Zr more 0 ss).1.map V.bl))->Same H H'->Q (.ref l2) H'
abbrev Vk:Stmt:=top 11
theorem Zd3:FnScope ["suits", "more", "gone", "oath", "standing", "case"] ["suits", "more"] (Za Vk):=⟨rfl,rfl,rfl,by decide +kernel,rfl,by decide +kernel,by decide +kernel⟩
theorem Zsz:Nm (Za Vk) "NAMED" .globalImplicit:=by decide +kernel
theorem Zco:Nm (Za Vk) "case" .local:=by decide +kernel
theorem Zgd:Nm (Za Vk) "gone" .local:=by decide +kernel
theorem Zs0:Nm (Za Vk) "len" .globalImplicit:=by decide +kernel
theorem Z6e:Nm (Za Vk) "margin_without" .globalImplicit:=by decide +kernel
theorem Z6f:Nm (Za Vk) "more" .local:=by decide +kernel
theorem Zs1:Nm (Za Vk) "oath" .local:=by decide +kernel
theorem Z6g:Nm (Za Vk) "range" .globalImplicit:=by decide +kernel
theorem Zge:Nm (Za Vk) "standing" .local:=by decide +kernel
theorem Zd4:Nm (Za Vk) "suits" .local:=by decide +kernel
theorem Z6h (Zjw:Has K mg "settled_with" Vk) (T:Txt mg) (C3:∃ t,mg "NAMED" = some (.int 3 t))
  (Zd5:Fn P w K mg base "margin_without" ["suits", "case", "gone"] 2 Zhy):Fn P w K mg base "settled_with" ["suits", "more"] 3 Zpz:=by
 obtain ⟨t3,c_NAMED⟩:=C3
 have r_NAMED:RelV (.int 3) (.int 3 t3):=⟨t3,rfl⟩
 refine Zjw.fnQ Zd3 (fun _ _ _ _ _ _ us hl=>match us,hl with | [_,_],_=>rfl) (fun vs H Q E h=>?_) (fun f cdv A outer s H vs Q E hr h=>?_)
 ·obtain ⟨l,m,ss,ms,more,rfl,_⟩:=h
  rfl
 ·obtain ⟨l,m,ss,ms,more,rfl,hsu,hok,hlen,hm,hms,hml,k⟩:=h
  refine ⟨_,(Ze (Zl (i:=2) Zd3.nd Zgd Zn3)
 (Ze (Y7 PassesOwn.never rfl (Yp (qvN 1 Z6f)) (Yo (i:=3) Zd3.nd Zs1)
 (Zg (Zet hr (qvN 2 Zgd) (qvN 3 Zs1) Vb)))
 (Ze (Zl (i:=4) Zd3.nd Zge (Zn Z1g (Yq (Zb Vb Zc)) (Z6 Y9 Zs0 T.len Yy (Zb (qvN 0 Zd4) Zc))))
 (Ze (Y7 PassesOwn.never rfl (Zvs Z6g.1 T.range (Zb (Zn V7 (Z6 Y9 Zs0 T.len Yy (Zb (qvN 0 Zd4) Zc)) Zd) (Zb (Zdk Zc8 Zd) (Zb (Zdk Zc8 Zd) Zc)))) (Yo (i:=5) Zd3.nd Zco)
 (Ze (Zbw (Up Zis (Zj Zd5 (hr.mono (by lia)) Z6e (Zb (qvN 0 Zd4) (Zb (qvN 5 Zco) (Zb (qvN 2 Zgd) Zc)))) Zd (Z1 _)) (Zbx (qvN 4 Zge) (qvN 5 Zco) Zbl))
 (Zg (Zy (QW.pt (Zfa (Uq (Zi Zz (qvN 4 Zge) (qvN 5 Zco) (fun _ _=>rfl))) (Zeq (Zw Zht (Zi Z3 (Zi Zz (qvN 0 Zd4) (qvN 5 Zco) (fun _ _=>rfl)) (Yg Zsz c_NAMED r_NAMED) (fun _ _=>rfl)) V6 (Z1 _))))) (Zg (Zet hr (qvN 2 Zgd) (Zi Z3 (Zi Zz (qvN 0 Zd4) (qvN 5 Zco) (fun _ _=>rfl)) (Yg Zsz c_NAMED r_NAMED) (fun _ _=>rfl)) Vb)) Z0))))
 (Zg (Zo (qvN 4 Zge))))))),?_⟩
  have hz:(5000:Nat)<=sizeLine:=by decide
  refine fun g hg=>?_
  have S0:Same H (upd H g (.dT [])):=Same.new hg
  have hml':ms.length=more.length:=by have:=hms.length; rw [xA] at this; exact this
  refine ⟨_,rfl,m,rfl,⟨_,SqL.of (S0 _ _ hm)⟩,?_⟩
  refine Uh ms (fun i σ H'=>∃ (kvs:Vj) (v3:Option V),σ = [some (.ref l),some (.ref m),some (.ref g),v3,none,none]/\H' g=some (.dT kvs)/\GoneIs kvs (more.take i)/\kvs.length<=i/\Same H H') ⟨[],none,rfl,upd_same,fun c n=>rfl,xE _,S0⟩ (fun i σ H' _ ⟨_,_,_,_,_,_,e⟩=>SqL.of (e _ _ hm)) ?_ ?_
  ·rintro i x σ H' hx ⟨kvs,v3,rfl,hg',hgi,hkl,sm⟩
   obtain ⟨d,hd,hrd⟩:=hms.get hx
   rw [xR] at hd
   obtain ⟨⟨c,n⟩,ho⟩:∃ o,more[i]? = some o:=by cases e:more[i]? with | none=>rw [e] at hd; cases hd | some t=>exact ⟨t,rfl⟩
   rw [ho] at hd
   cases hd
   obtain ⟨b,bs,rfl,hb,⟨y1,r1,rfl,e1,⟨y2,r2,rfl,e2,e3⟩⟩⟩:=hrd
   cases e1
   cases e2
   cases e3
   have hi:i < ms.length:=(xC.mp hx).1
   refine ⟨_,rfl,_,rfl,g,_,rfl,DPut.t hg' (k:=Zq c n) (sm _ _ hb) (by lia),?_⟩
   refine ⟨_,_,rfl,upd_same,?_,yA (U3 _ _ _) (by lia),?_⟩
   ·rw [yB,ho]
    exact hgi.put
   ·intro b' o e
    rw [Zh (fun z=>by rw [z,hg] at e; cases e)]
    exact sm b' o e
  ·rintro σ H1 ⟨kvs,v3,rfl,hg1,hgi,hkl,sm1⟩
   rw [hml',yL] at hgi
   obtain ⟨us,hl1,hrep1⟩:=hsu.mono sm1
   have hul:us.length=ss.length:=by have:=hrep1.length; rw [xA] at this; exact this
   refine ⟨by show 1<=sizeLine; lia,fun q hq=>?_⟩
   have S2:=Same.new (o:=.lst [.bl false]) hq
   have k2:(upd H1 q (.lst [.bl false])) q=some (.lst [.bl false]):=upd_same
   generalize (upd H1 q (.lst [.bl false]))=H2 at S2 k2 ⊢
   refine ⟨_,rfl,l,us,rfl,.inl (SqL.of (S2 _ _ hl1)),q,_,_,rfl,rfl,k2,by lia,by lia,?_,fun st hst=>?_⟩
   ·rw [xZ,hul]; show 1 * ss.length<=sizeLine; lia
   have hstH:H st=none:=(sm1.trans S2).free hst
   have hgst:g≠st:=fun z=>by rw [← z,S2 _ _ hg1] at hst; cases hst
   have S3:=Same.new (o:=.lst (List.replicate (us.length:Int).toNat [V.bl false]).flatten) hst
   have k3:(upd H2 st (.lst (List.replicate (us.length:Int).toNat [V.bl false]).flatten)) st=some (.lst ((List.replicate ss.length false).map V.bl)):=by
    rw [upd_same,xZ,hul]
    have:∀ n:Nat,(List.replicate n [V.bl false]).flatten=(List.replicate n false).map V.bl:=by
     intro n
     induction n with
     | zero=>rfl
     | succ n ih=>rw [zB,List.flatten_cons,ih,zB,xQ]; rfl
    rw [this]
   generalize (upd H2 st (.lst (List.replicate (us.length:Int).toNat [V.bl false]).flatten))=H3 at S3 k3 ⊢
   have S13:=S2.trans S3
   have sm3:=sm1.trans S13
   refine ⟨_,rfl,l,us,rfl,.inl (SqL.of (S13 _ _ hl1)),_,_,rfl,rfl,_,rfl,_,rfl,_,_,rfl,⟨by lia,by lia,by decide,by decide⟩,?_⟩
   refine Zxu ss.length (by lia) (fun i σ H'=>∃ (kvs:Vj) (v3 v5:Option V),σ = [some (.ref l),some (.ref m),some (.ref g),v3,some (.ref st),v5] /\
     H' st=some (.lst ((List.replicate (ss.length - i) false++(Zr more (ss.length - i) (ss.drop (ss.length - i))).1).map V.bl))/\H' g=some (.dT kvs)/\GoneIs kvs (Zr more (ss.length - i) (ss.drop (ss.length - i))).2/\kvs.length<=1000+i/\Same H H')
    ⟨kvs,_,none,rfl,?_,S13 _ _ hg1,?_,by lia,sm3⟩ ?_ ?_
   ·rw [Nat.sub_zero,List.drop_length,Zr,yO]; exact k3
   ·rw [Nat.sub_zero,List.drop_length,Zr]; exact hgi
   ·rintro i σ H' hi ⟨kvs,v3,v5,rfl,hst',hg',hgi',hkl',sm'⟩
    obtain ⟨c,hc⟩:∃ c,ss.length - i=c+1:=⟨ss.length - i - 1,by lia⟩
    have hc2:ss.length - (i+1)=c:=by lia
    have hcl:c < ss.length:=by lia
    have ec:((us.length:Int) - 1 - (i:Nat))=((c:Nat):Int):=by lia
    rw [hc] at hst' hgi'
    rw [ec,hc2]
    have ht:ss[c]? = some ss[c]:=xB hcl
    have htm:ss[c]∈ss:=List.getElem_mem hcl
    have ed:ss.drop c=ss[c]::ss.drop (c+1):=List.drop_eq_getElem_cons hcl
    rw [ed]
    generalize ss[c]=t at ht htm ed ⊢
    obtain ⟨us',hl',hrep'⟩:=hsu.mono sm'
    have hg'':brk kvs=fun (a:Int) (n:Str)=>decide ((a,n)∈(Zr more (c+1) (ss.drop (c+1))).2):=funext fun a=>funext fun b=>hgi' a b
    have hset:Zr more c (t::ss.drop (c+1))=(decide (0<=Wg (brk kvs) c t)::(Zr more (c+1) (ss.drop (c+1))).1,if decide (0<=Wg (brk kvs) c t)=true then (Zr more (c+1) (ss.drop (c+1))).2++t.named.toList else (Zr more (c+1) (ss.drop (c+1))).2):=by rw [hg'',Zr]
    rw [hset]
    generalize Zr more (c+1) (ss.drop (c+1))=R at hst' hgi' ⊢
    refine ⟨_,rfl,_,rfl,_,rfl,l,g,c,ss,t,kvs,rfl,hsu.mono sm',ht,hok t htm,hg',fun H4 s4=>?_⟩
    have hst4:=s4 _ _ hst'
    refine ⟨Wg (brk kvs) c t,0,rfl,rfl,_,rfl,_,rfl,st,_,c,c,rfl,rfl,hst4,?_,?_⟩
    ·exact Z1y (by rw [xA,xL,List.length_replicate]; lia)
    dsimp only
    generalize decide (0<=Wg (brk kvs) c t)=b
    rw [Zpx]
    have sm5:Same H (upd H4 st (.lst ((List.replicate c false++(b::R.1)).map V.bl))):=fun x o e=>by
     rw [Zh (fun z=>by rw [z,hstH] at e; cases e)]
     exact s4 _ _ (sm' _ _ e)
    have k5:(upd H4 st (.lst ((List.replicate c false++(b::R.1)).map V.bl))) st=some (.lst ((List.replicate c false++(b::R.1)).map V.bl)):=upd_same
    have hg5:(upd H4 st (.lst ((List.replicate c false++(b::R.1)).map V.bl))) g=some (.dT kvs):=by rw [Zh hgst]; exact s4 _ _ hg'
    generalize (upd H4 st (.lst ((List.replicate c false++(b::R.1)).map V.bl)))=H5 at sm5 k5 hg5 ⊢
    obtain ⟨us5,hl5,hrep5⟩:=hsu.mono sm5
    obtain ⟨ta,u1,u2,u4,hu,hta,h1,h2,h4⟩:=SuitsAt.get (l:=l) hrep5 ht
    refine ⟨_,rfl,_,rfl,st,_,c,.bl b,rfl,rfl,SqL.of k5,Yh (Zpy ..),b,rfl,?_⟩
    cases b with
    | false =>
     refine Yt (Yt ?_)
     exact ⟨kvs,_,_,rfl,k5,hg5,hgi',by lia,sm5⟩
    | true =>
     refine Yb ?_
     refine ⟨_,rfl,_,rfl,l,us5,c,.ref ta,rfl,rfl,SqL.of hl5,Yh hu,ta,_,3,u4,rfl,rfl,SqT.of hta,rfl,rfl,_,rfl,?_⟩
     cases hn:t.named with
     | none =>
      rw [hn] at h4
      cases h4
      refine Yt ?_
      exact ⟨kvs,_,_,rfl,k5,hg5,by show GoneIs kvs (R.2 ++ []); rw [yO]; exact hgi',by lia,sm5⟩
     | some o =>
      rw [hn] at h4
      obtain ⟨oc,on⟩:=o
      obtain ⟨d,bs,rfl,hb,⟨y1,r1,rfl,e1,⟨y2,r2,rfl,e2,e3⟩⟩⟩:=h4
      cases e1
      cases e2
      cases e3
      refine Yb ?_
      refine ⟨_,rfl,_,rfl,_,rfl,l,us5,c,.ref ta,rfl,rfl,SqL.of hl5,Yh hu,ta,_,3,.ref d,rfl,rfl,SqT.of hta,rfl,?_⟩
      refine ⟨g,_,rfl,DPut.t hg5 (k:=Zq oc on) hb (by lia),?_⟩
      refine ⟨_,_,_,rfl,by rw [Zh hgst.symm]; exact k5,upd_same,hgi'.put,yA (U3 _ _ _) (by lia),?_⟩
      intro b' o e
      rw [Zh (fun z=>by rw [z,hg] at e; cases e)]
      exact sm5 b' o e
   ·rintro σ H' ⟨kvs,v3,v5,rfl,hst',hg',hgi',hkl',sm'⟩
    rw [Nat.sub_self] at hst'
    exact ⟨_,rfl,k st H' hstH hst' sm'⟩
end
section
variable {P:Program}{w:World}{K:uFg}{mg:Str->Option Value}{base:Heap}
def Zfh:Sp:=fun vs H Q _=>∃ (l:Addr) (ss:List Suit),vs = [.ref l]/\SuitsAt H ss l/\(∀ t∈ss,Wf t)/\ss.length<=1000 /\
 ∀ (l2:Addr) (H':Hp),H l2=none->H' l2=some (.lst ((Zr [] 0 ss).1.map V.bl))->Same H H'->Q (.ref l2) H'
abbrev Zds:Stmt:=top 10
theorem Z6i:FnScope ["suits"] ["suits"] (Za Zds):=⟨rfl,rfl,rfl,by decide +kernel,rfl,by decide +kernel,by decide +kernel⟩
theorem Z6j:Nm (Za Zds) "settled_with" .globalImplicit:=by decide +kernel
theorem Z6k:Nm (Za Zds) "suits" .local:=by decide +kernel
theorem Z6l (Zjx:Has K mg "settled" Zds) (T:Txt mg) (Z6m:Fn P w K mg base "settled_with" ["suits", "more"] 3 Zpz):Fn P w K mg base "settled" ["suits"] 4 Zfh:=by
 refine Zjx.fnQ Z6i (fun _ _ _ _ _ _ us hl=>match us,hl with | [_],_=>rfl) (fun vs H Q E h=>?_) (fun f cdv A outer s H vs Q E hr h=>?_)
 ·obtain ⟨l,ss,rfl,_⟩:=h
  rfl
 ·obtain ⟨l,ss,rfl,hsu,hok,hlen,k⟩:=h
  refine ⟨_,(Zg (Zo (Zj Z6m (hr.mono (by lia)) Z6j (Zb (qvN 0 Z6k) (Zb (Yq Zc) Zc))))),?_⟩
  refine ⟨_,rfl,by show 0<=sizeLine; lia,fun q hq=>?_⟩
  have S:=Same.new (o:=.lst []) hq
  exact ⟨l,q,ss,[],[],rfl,hsu.mono S,hok,hlen,upd_same,rfl,yT _,fun l2 H' h1 h2 h3=>k l2 H' (S.free h1) h2 (S.trans h3)⟩
def Zgf (bs:List Bool) (ss:List Suit) (c:Nat) (n:Str):Prop:=∃ j t,c < j/\ss[j]? = some t/\bs[j]? = some true/\t.named=some ((c:Int),n)
end
section
variable {P:Program}{w:World}{K:uFg}{mg:Str->Option Value}{base:Heap}
theorem Zcw (more:List Zf):∀ (k:Nat) (ss:List Suit) (i:Nat),(Zr more i ss).1.drop k=(Zr more (i+k) (ss.drop k)).1
 | 0,ss,i=>rfl
 | k+1,[],i=>by rw [List.drop_nil,Zr,Zr,List.drop_nil]
 | k+1,t::r,i=>by
  rw [Zr,List.drop_succ_cons,List.drop_succ_cons,Zcw more k r (i+1)]
  have:i+1+k=i+(k+1):=by lia
  rw [this]
theorem Zhm (more:List Zf) (x:Zf):∀ (r:List Suit) (i:Nat),x∈(Zr more i r).2↔x∈more\/∃ (j:Nat) (t:Suit),r[j]? = some t/\(Zr more i r).1[j]? = some true/\t.named=some x
 | [],i=>by rw [Zr]; exact ⟨.inl,fun h=>h.elim id fun ⟨j,t,e,_⟩=>by simp at e⟩
 | t::r,i=>by
  have ih:=Zhm more x r (i+1)
  rw [Zr]
  generalize decide (0<=Wg (fun c n=>decide ((c,n)∈(Zr more (i+1) r).2)) i t)=b
  dsimp only
  have tail:(∃ (j:Nat) (u:Suit),(t::r)[j]? = some u/\(b::(Zr more (i+1) r).1)[j]? = some true/\u.named=some x)↔(b=true/\t.named=some x)\/∃ (j:Nat) (u:Suit),r[j]? = some u/\(Zr more (i+1) r).1[j]? = some true/\u.named=some x:=by
   constructor
   ·rintro ⟨j,u,e1,e2,e3⟩
    cases j with
    | zero =>
     have e1:some t=some u:=e1
     have e2:some b=some true:=e2
     cases e1
     exact .inl ⟨Option.some.inj e2,e3⟩
    | succ j=>exact .inr ⟨j,u,e1,e2,e3⟩
   ·rintro (⟨rfl,e⟩ | ⟨j,u,e1,e2,e3⟩)
    ·exact ⟨0,t,rfl,rfl,e⟩
    ·exact ⟨j+1,u,e1,e2,e3⟩
  rw [tail]
  cases b with
  | false =>
   rw [if_neg xJ,ih]
   exact ⟨fun h=>h.imp id .inr,fun h=>h.imp id fun z=>z.elim (fun q=>nomatch q.1) id⟩
  | true =>
   rw [if_pos rfl,xO,ih,Option.mem_toList]
   constructor
   ·rintro ((h | h) | h)
    ·exact .inl h
    ·exact .inr (.inr h)
    ·exact .inr (.inl ⟨rfl,h⟩)
   ·rintro (h | ⟨_,h⟩ | h)
    ·exact .inl (.inl h)
    ·exact .inr h
    ·exact .inl (.inr h)
theorem Zz2 {ss:List Suit}{c:Nat}{t:Suit}(ht:ss[c]? = some t):∃ br:Int->Str->Bool,(∀ n,br c n=true↔Zgf (Zr [] 0 ss).1 ss c n)/\(Zr [] 0 ss).1[c]? = some (decide (0<=Wg br c t)):=by
 have hc:=(xC.mp ht).1
 have ed:ss.drop c=t::ss.drop (c+1):=by
  have:=List.drop_eq_getElem_cons hc
  rw [this]
  have e:=xB hc
  rw [ht] at e
  rw [Option.some.inj e]
 refine ⟨fun a n=>decide ((a,n)∈(Zr [] (c+1) (ss.drop (c+1))).2),fun n=>?_,?_⟩
 ·rw [yK,Zhm]
  have e1:=Zcw [] (c+1) ss 0
  rw [Nat.zero_add] at e1
  rw [← e1]
  constructor
  ·rintro (h | ⟨j,u,a1,a2,a3⟩)
   ·cases h
   ·rw [List.getElem?_drop] at a1 a2
    exact ⟨c+1+j,u,by lia,a1,a2,a3⟩
  ·rintro ⟨j,u,a0,a1,a2,a3⟩
   refine .inr ⟨j - (c+1),u,?_,?_,a3⟩
   ·rw [List.getElem?_drop,show c+1+(j - (c+1))=j by lia]; exact a1
   ·rw [List.getElem?_drop,show c+1+(j - (c+1))=j by lia]; exact a2
 ·have e0:=Zcw [] c ss 0
  rw [Nat.zero_add,ed,Zr] at e0
  have:(Zr [] 0 ss).1[c]? = ((Zr [] 0 ss).1.drop c)[0]?:=by rw [List.getElem?_drop,Nat.add_zero]
  rw [this,e0]
  rfl
end
section
theorem Zye (more:List Zf) {ss:List Suit}{c:Nat}{t:Suit}(ht:ss[c]? = some t):∃ br:Int->Str->Bool,(∀ n,br c n=true↔((c:Int),n)∈more\/Zgf (Zr more 0 ss).1 ss c n)/\(Zr more 0 ss).1[c]? = some (decide (0<=Wg br c t)):=by
 have hc:=(xC.mp ht).1
 have ed:ss.drop c=t::ss.drop (c+1):=by
  have:=List.drop_eq_getElem_cons hc
  rw [this]
  have e:=xB hc
  rw [ht] at e
  rw [Option.some.inj e]
 refine ⟨fun a n=>decide ((a,n)∈(Zr more (c+1) (ss.drop (c+1))).2),fun n=>?_,?_⟩
 ·rw [yK,Zhm]
  have e1:=Zcw more (c+1) ss 0
  rw [Nat.zero_add] at e1
  rw [← e1]
  constructor
  ·rintro (h | ⟨j,u,a1,a2,a3⟩)
   ·exact .inl h
   ·rw [List.getElem?_drop] at a1 a2
    exact .inr ⟨c+1+j,u,by lia,a1,a2,a3⟩
  ·rintro (h | ⟨j,u,a0,a1,a2,a3⟩)
   ·exact .inl h
   refine .inr ⟨j - (c+1),u,?_,?_,a3⟩
   ·rw [List.getElem?_drop,show c+1+(j - (c+1))=j by lia]; exact a1
   ·rw [List.getElem?_drop,show c+1+(j - (c+1))=j by lia]; exact a2
 ·have e0:=Zcw more c ss 0
  rw [Nat.zero_add,ed,Zr] at e0
  have:(Zr more 0 ss).1[c]? = ((Zr more 0 ss).1.drop c)[0]?:=by rw [List.getElem?_drop,Nat.add_zero]
  rw [this,e0]
  rfl
end
section
variable {P:Program}{w:World}{K:uFg}{mg:Str->Option Value}{base:Heap}
def onD (o:Zf):D:=Zah (some o)
def Vz:Nat->List Suit->List Zf
 | _,[]=>[]
 | i,t::r=>((t.ones++t.others).map fun p=>((i:Int),p.1))++Vz (i+1) r
theorem Zz3 {ss:List Suit}{c:Nat}{t:Suit}(h:ss[c]? = some t):∀ p∈t.ones++t.others,((c:Int),p.1)∈Vz 0 ss:=by
 have g:∀ (ss:List Suit) (c k:Nat),ss[c]? = some t->∀ p∈t.ones++t.others,(((k+c:Nat):Int),p.1)∈Vz k ss:=by
  intro ss
  induction ss with
  | nil=>intro c k h; simp at h
  | cons u r ih =>
   intro c k h p hp
   cases c with
   | zero=>simp at h; subst h; rw [Vz]; exact yF _ (xV.mpr ⟨p,hp,rfl⟩)
   | succ c =>
    simp at h
    rw [Vz,show k+(c+1)=k+1+c by lia]
    exact xM _ (ih c (k+1) h p hp)
 intro p hp
 have:=g ss c 0 h p hp
 rw [Nat.zero_add] at this
 exact this
def okO (o:Zf):List Key:=Zq o.1 o.2
def Zcp:List Key->Zf
 | [.inl c,.inr n]=>(c,n)
 | _=>(0,⟨#[]⟩)
theorem Zi0 {H:Hp}{o:Zf}{v:V}(h:Rep H (onD o) v):∃ a,v = .ref a/\H a=some (.tup [.int o.1,.str o.2]):=by
 obtain ⟨a,vs,e,h1,⟨x,r1,rfl,e1,⟨y,r2,rfl,e2,e3⟩⟩⟩:=h
 cases e1
 cases e2
 cases e3
 exact ⟨a,e,h1⟩
theorem Zfr {H:Hp}{o:Zf}{a:Addr}(h:H a=some (.tup [.int o.1,.str o.2])):Rep H (onD o) (.ref a):=⟨a,_,rfl,h,⟨_,_,rfl,rfl,⟨_,_,rfl,rfl,rfl⟩⟩⟩
theorem RepL.onT {H H':Hp}(k:SameT H H'):∀ {os:List Zf}{vs:List V},RepL H (os.map onD) vs->RepL H' (os.map onD) vs
 | [],vs,h=>h
 | o::os,vs,⟨v,r,e,h1,h2⟩=>by
  obtain ⟨a,rfl,ha⟩:=Zi0 h1
  exact ⟨.ref a,r,e,Zfr (k _ _ ha),RepL.onT k h2⟩
theorem Zda {k:List Key}(h:shp k = [true,false]):okO (Zcp k)=k:=by
 match k,h with
 | [.inl c,.inr n],_=>rfl
theorem Zu1 {H:Hp}:∀ ps:List (Addr×List Key),(∀ p∈ps,L2.TupAt H p/\shp p.2 = [true,false])->RepL H ((ps.map fun p=>Zcp p.2).map onD) (ps.map fun p=>V.ref p.1)
 | [],_=>rfl
 | p::ps,h=>by
  obtain ⟨h1,h2⟩:=h p xI
  refine ⟨.ref p.1,_,rfl,Zfr ?_,Zu1 ps fun q hq=>h q (xN _ hq)⟩
  have e:p.2.map kV = [.int (Zcp p.2).1,.str (Zcp p.2).2]:=by rw [← Zda h2]; rfl
  unfold L2.TupAt at h1
  rw [← e]
  exact h1
def UpO (os:List Zf):Prop:=os.Pairwise fun a b=>ltK (okO b) (okO a)=false
end
section
variable {P:Program}{w:World}{K:uFg}{mg:Str->Option Value}{base:Heap}
def Zp (cs:List Nat):List V:=cs.map fun (c:Nat)=>V.int (c:Int)
def nmd (ss:List Suit) (c:Int) (n:Str) (j:Nat):Bool:=match ss[j]? with
 | some u=>decide (u.named=some (c,n))
 | none=>false
theorem nmd_iff {ss:List Suit}{c:Int}{n:Str}{j:Nat}:nmd ss c n j=true↔∃ u,ss[j]? = some u/\u.named=some (c,n):=by
 unfold nmd
 cases e:ss[j]? with
 | none=>exact ⟨(fun z=>nomatch z),(fun ⟨u,z,_⟩=>nomatch z)⟩
 | some u=>exact ⟨fun z=>⟨u,rfl,yD z⟩,fun ⟨v,z,q⟩=>by cases z; exact xH q⟩
def Yd (ss:List Suit) (c:Int) (n:Str) (cs:List Nat):List Nat:=cs.filter (nmd ss c n)
theorem Ze1 {ss:List Suit}{c:Int}{n:Str}{cs:List Nat}{i j:Nat}(h:cs[i]? = some j):Yd ss c n (cs.take (i+1))=Yd ss c n (cs.take i)++(if nmd ss c n j then [j] else []):=by
 unfold Yd
 rw [yB,h,List.filter_append]
 cases e:nmd ss c n j <;> simp [e]
theorem Zi1 (ss:List Suit) (c:Int) (n:Str) (cs:List Nat):(Yd ss c n cs).length<=cs.length:=List.length_filter_le _ _
def NbAt (H:Hp) (g:Addr) (ss:List Suit) (cs:List Nat):Prop:=∃ kvs:Vj,H g=some (.dT kvs)/\kvs.length<=cs.length/\(∀ p∈kvs,∃ c n,p.1=Zq c n/\Yd ss c n cs ≠ [])/\∀ c n,(Zm kvs (Zq c n)=none/\Yd ss c n cs = [])\/∃ a,Zm kvs (Zq c n)=some (.ref a)/\H a=some (.lst (Zp (Yd ss c n cs)))
theorem NbAt.mono {H H':Hp}{g:Addr}{ss:List Suit}{cs:List Nat}(h:NbAt H g ss cs) (k:Same H H'):NbAt H' g ss cs :=
 let ⟨kvs,h1,h0,h3,h2⟩:=h
 ⟨kvs,k _ _ h1,h0,h3,fun c n=>(h2 c n).imp id fun ⟨a,e1,e2⟩=>⟨a,e1,k _ _ e2⟩⟩
structure NbPre (H H':Hp) (g:Addr) (ss:List Suit) (cs:List Nat) (kvs:Vj):Prop where
 at_:H' g=some (.dT kvs)
 len:kvs.length<=cs.length
 keys:∀ p∈kvs,∃ c n,p.1=Zq c n/\Yd ss c n cs ≠ []
 no:∀ c n,Zm kvs (Zq c n)=none->Yd ss c n cs = []
 yes:∀ c n v,Zm kvs (Zq c n)=some v->∃ a,v = .ref a/\H a=none/\a≠g/\H' a=some (.lst (Zp (Yd ss c n cs)))
 one:∀ c n c' n' a,Zm kvs (Zq c n)=some (.ref a)->Zm kvs (Zq c' n')=some (.ref a)->(c,n)=(c',n')
def Zhz:Sp:=fun vs H Q _=>∃ (l lc:Addr) (ss:List Suit) (cs:List Nat),vs = [.ref l,.ref lc]/\SuitsAt H ss l/\cs.length<=1000/\(∀ j∈cs,j < ss.length)/\H lc=some (.lst (Zp cs)) /\
 ∀ (g:Addr) (H':Hp),H g=none->NbAt H' g ss cs->(∀ kvs c n a,H' g=some (.dT kvs)->Zm kvs (Zq c n)=some (.ref a)->H a=none)->Same H H'->Q (.ref g) H'
theorem Zc4 {c c':Int}{n n':Str}(e:Zq c n=Zq c' n'):(c,n)=(c',n'):=by
 unfold Zq at e
 injection e with e1 e2
 injection e2 with e2 _
 cases e1
 cases e2
 rfl
theorem Zz4 {l:Vj}{k:List Key}{v:V}{p:List Key×V}(h:p∈Yi l k v):p=(k,v)\/p∈l:=by
 unfold Yi at h
 split at h
 ·obtain ⟨q,hq,e⟩:=xV.mp h
  split at e
  ·rename_i e2
   rw [← e,e2]; exact .inl rfl
  ·rw [← e]; exact .inr hq
 ·rcases xO.mp h with z | z
  ·exact .inr z
  ·exact .inl (xF.mp z)
abbrev Uv:Stmt:=top 19
theorem Zfs:FnScope ["suits", "cases", "named_by", "case", "oath"] ["suits", "cases"] (Za Uv):=⟨rfl,rfl,rfl,by decide +kernel,rfl,by decide +kernel,by decide +kernel⟩
theorem Z6n:Nm (Za Uv) "NAMED" .globalImplicit:=by decide +kernel
theorem Zls:Nm (Za Uv) "case" .local:=by decide +kernel
theorem Z6o:Nm (Za Uv) "cases" .local:=by decide +kernel
theorem Zlt:Nm (Za Uv) "named_by" .local:=by decide +kernel
theorem Zlu:Nm (Za Uv) "oath" .local:=by decide +kernel
theorem Z6p:Nm (Za Uv) "suits" .local:=by decide +kernel
theorem Z6q (Zjy:Has K mg "naming" Uv) (T:Txt mg) (C3:∃ t,mg "NAMED" = some (.int 3 t)):Fn P w K mg base "naming" ["suits", "cases"] 1 Zhz:=by
 obtain ⟨t3,c_NAMED⟩:=C3
 have r_NAMED:RelV (.int 3) (.int 3 t3):=⟨t3,rfl⟩
 refine Zjy.fnQ Zfs (fun _ _ _ _ _ _ us hl=>match us,hl with | [_,_],_=>rfl) (fun vs H Q E h=>?_) (fun f cdv A outer s H vs Q E hr h=>?_)
 ·obtain ⟨l,lc,ss,cs,rfl,_⟩:=h
  rfl
 ·obtain ⟨l,lc,ss,cs,rfl,hsu,hlen,hcs,hlc,k⟩:=h
  refine ⟨_,(Ze (Zl (i:=2) Zfs.nd Zlt Zn3)
 (Ze (Y7 PassesOwn.never rfl (Yp (qvN 1 Z6o)) (Yo (i:=3) Zfs.nd Zls)
 (Ze (Zl (i:=4) Zfs.nd Zlu (Zi Z3 (Zi Zz (qvN 0 Z6p) (qvN 3 Zls) (fun _ _=>rfl)) (Yg Z6n c_NAMED r_NAMED) (fun _ _=>rfl)))
 (Zg (Zy (Zw Zht (qvN 4 Zlu) V6 (Z1 _)) (Zg (Yl (Ww F.plainAttrs_list F.slot_list_append F.type_list_append Ug (Zxx hr (qvN 2 Zlt) (qvN 4 Zlu) (Yq Zc)) (Zb (qvN 3 Zls) Zc)))) Z0))))
 (Zg (Zo (qvN 2 Zlt))))),?_⟩
  have hz:(5000:Nat)<=sizeLine:=by decide
  refine fun g hg=>?_
  have S0:Same H (upd H g (.dT [])):=Same.new hg
  refine ⟨_,rfl,lc,rfl,⟨_,SqL.of (S0 _ _ hlc)⟩,?_⟩
  refine Uh (Zp cs) (fun i σ H'=>∃ (kvs:Vj) (v3 v4:Option V),σ = [some (.ref l),some (.ref lc),some (.ref g),v3,v4]/\NbPre H H' g ss (cs.take i) kvs/\Same H H') ⟨[],none,none,rfl,⟨upd_same,xE _,(fun p hp=>nomatch hp),fun c n _=>rfl,(fun c n v e=>nomatch e),(fun c n c' n' a e=>nomatch e)⟩,S0⟩ (fun i σ H' _ ⟨_,_,_,_,_,e⟩=>SqL.of (e _ _ hlc)) ?_ ?_
  ·rintro i x σ H' hx ⟨kvs,v3,v4,rfl,I,sm⟩
   have hi:i < cs.length:=by
    have:=(xC.mp hx).1
    unfold Zp at this
    rw [xA] at this
    exact this
   obtain ⟨j,hcj,ex⟩:∃ j,cs[i]? = some j/\x = .int (j:Int):=by
    unfold Zp at hx
    rw [xR] at hx
    obtain ⟨j,h1,h2⟩:=yM.mp hx
    exact ⟨j,h1,h2.symm⟩
   subst ex
   have tl:(cs.take i).length=i:=by rw [xY]; lia
   have tl1:(cs.take (i+1)).length=i+1:=by rw [xY]; lia
   have more:∀ c n,Yd ss c n (cs.take i) ≠ []->Yd ss c n (cs.take (i+1)) ≠ []:=fun c n h z=>by
    rw [Ze1 hcj] at z
    exact h (List.append_eq_nil_iff.mp z).1
   have hlen':=I.len
   rw [tl] at hlen'
   obtain ⟨t,ht⟩:∃ t,ss[j]? = some t:=⟨_,xB (hcs j (xT hcj))⟩
   obtain ⟨us,hl',hrep⟩:=hsu.mono sm
   obtain ⟨ta,u1,u2,u4,hu,hta,_,_,h4⟩:=SuitsAt.get (l:=l) hrep ht
   refine ⟨_,rfl,_,rfl,l,us,j,.ref ta,rfl,rfl,SqL.of hl',Yh hu,ta,_,3,u4,rfl,rfl,SqT.of hta,rfl,?_⟩
   cases hn:t.named with
   | none =>
    rw [hn] at h4
    cases h4
    refine ⟨_,rfl,rfl,_,rfl,Uo (fun z=>absurd rfl z) (fun _=>?_)⟩
    have same:∀ c n,Yd ss c n (cs.take (i+1))=Yd ss c n (cs.take i):=fun c n=>by
     rw [Ze1 hcj]
     have:nmd ss c n j=false:=by
      cases e:nmd ss c n j with
      | false=>rfl
      | true=>obtain ⟨u,q1,q2⟩:=nmd_iff.mp e; rw [ht] at q1; cases q1; rw [hn] at q2; cases q2
     rw [this,if_neg xJ,yO]
    exact ⟨kvs,_,_,rfl,⟨I.at_,by lia,fun p hp=>let ⟨c,n,e,h⟩:=I.keys p hp; ⟨c,n,e,more c n h⟩,fun c n e=>by rw [same]; exact I.no c n e,fun c n v e=>by rw [same]; exact I.yes c n v e,I.one⟩,sm⟩
   | some o =>
    rw [hn] at h4
    obtain ⟨c0,n0⟩:=o
    obtain ⟨b,bs,rfl,hb,⟨y1,r1,rfl,e1,⟨y2,r2,rfl,e2,e3⟩⟩⟩:=h4
    cases e1
    cases e2
    cases e3
    have mine:Yd ss c0 n0 (cs.take (i+1))=Yd ss c0 n0 (cs.take i) ++ [j]:=by rw [Ze1 hcj,nmd_iff.mpr ⟨t,ht,hn⟩,if_pos rfl]
    have same:∀ c n,(c,n)≠(c0,n0)->Yd ss c n (cs.take (i+1))=Yd ss c n (cs.take i):=fun c n hne=>by
     rw [Ze1 hcj]
     have:nmd ss c n j=false:=by
      cases e:nmd ss c n j with
      | false=>rfl
      | true=>obtain ⟨u,q1,q2⟩:=nmd_iff.mp e; rw [ht] at q1; cases q1; rw [hn] at q2; exact absurd (Option.some.inj q2).symm hne
     rw [this,if_neg xJ,yO]
    have snocV:Zp (Yd ss c0 n0 (cs.take i)) ++ [V.int j]=Zp (Yd ss c0 n0 (cs.take (i+1))):=by rw [mine]; unfold Zp; rw [xP]; rfl
    have jl:=Zi1 ss c0 n0 (cs.take i)
    rw [tl] at jl
    refine ⟨_,rfl,rfl,_,rfl,Uo (fun _=>?_) (fun z=>nomatch z)⟩
    refine ⟨_,rfl,g,rfl,.inr ⟨kvs,.inl I.at_⟩,_,rfl,by show 0<=sizeLine; lia,fun q hq=>?_⟩
    have Sq:=Same.new (o:=.lst []) hq
    have kq:(upd H' q (.lst [])) q=some (.lst []):=upd_same
    have gq:q≠g:=fun z=>by rw [z,I.at_] at hq; cases hq
    have hqH:H q=none:=sm.free hq
    generalize (upd H' q (.lst []))=H1 at Sq kq ⊢
    have smq:=sm.trans Sq
    refine ⟨kvs,Zq c0 n0,b,Sq _ _ I.at_,rfl,Sq _ _ hb,by lia,fun v hv=>?_,fun hv=>?_⟩
    ·obtain ⟨a,rfl,haf,hag,ha⟩:=I.yes c0 n0 v hv
     have ha1:=Sq _ _ ha
     refine ⟨.inl ⟨rfl,_,SqL.of ha1⟩,_,rfl,a,_,_,rfl,rfl,ha1,by unfold Zp; rw [xA]; lia,?_⟩
     refine ⟨kvs,_,_,rfl,⟨?_,by lia,fun p hp=>let ⟨c,n,e,h⟩:=I.keys p hp; ⟨c,n,e,more c n h⟩,fun c n e=>?_,fun c n v e=>?_,I.one⟩,?_⟩
     ·rw [Zh hag.symm]; exact Sq _ _ I.at_
     ·rw [same c n (fun z=>by cases z; rw [hv] at e; cases e)]; exact I.no c n e
     ·obtain ⟨a',rfl,h1,h2,h3⟩:=I.yes c n v e
      refine ⟨a',rfl,h1,h2,?_⟩
      by_cases hk:(c,n)=(c0,n0)
      ·cases hk
       rw [hv] at e
       cases e
       rw [upd_same,snocV]
      ·rw [same c n hk,Zh (fun z=>hk (by rw [z] at e; exact I.one c n c0 n0 a e hv))]
       exact Sq _ _ h3
     ·intro b' o e
      rw [Zh (fun z=>by rw [z,haf] at e; cases e)]
      exact smq b' o e
    ·have hg2:(upd H1 g (.dT (Yi kvs (Zq c0 n0) (.ref q)))) q=some (.lst []):=by rw [Zh gq]; exact kq
     refine ⟨.inl ⟨rfl,_,SqL.of hg2⟩,_,rfl,q,_,_,rfl,rfl,hg2,by show 0 < sizeLine; lia,?_⟩
     have j0:=I.no c0 n0 hv
     refine ⟨Yi kvs (Zq c0 n0) (.ref q),_,_,rfl,⟨?_,yA (U3 _ _ _) (by lia),fun p hp=>?_,fun c n e=>?_,fun c n v e=>?_,fun c n c' n' a e e'=>?_⟩,?_⟩
     ·rw [Zh gq.symm,upd_same]
     ·rcases Zz4 hp with rfl | hp
      ·exact ⟨c0,n0,rfl,by rw [mine]; simp⟩
      ·obtain ⟨c,n,e,h⟩:=I.keys p hp
       exact ⟨c,n,e,more c n h⟩
     ·rw [Zab] at e
      by_cases hk:Zq c n=Zq c0 n0
      ·rw [if_pos hk] at e; cases e
      ·rw [if_neg hk] at e
       rw [same c n (fun z=>hk (by cases z; rfl))]
       exact I.no c n e
     ·rw [Zab] at e
      by_cases hk:Zq c n=Zq c0 n0
      ·rw [if_pos hk] at e
       cases e
       have hk':=Zc4 hk
       cases hk'
       exact ⟨q,rfl,hqH,gq,by rw [upd_same,mine,j0]; rfl⟩
      ·rw [if_neg hk] at e
       obtain ⟨a',rfl,h1,h2,h3⟩:=I.yes c n v e
       refine ⟨a',rfl,h1,h2,?_⟩
       have aq:a'≠q:=fun z=>by rw [z,hq] at h3; cases h3
       rw [same c n (fun z=>hk (by cases z; rfl)),Zh aq,Zh h2]
       exact Sq _ _ h3
     ·rw [Zab] at e e'
      have no:∀ c n,Zm kvs (Zq c n)=some (.ref q)->False:=fun c n z=>by
       obtain ⟨a',z1,_,_,h3⟩:=I.yes c n _ z
       cases z1
       rw [hq] at h3
       cases h3
      by_cases hk:Zq c n=Zq c0 n0
      ·by_cases hk':Zq c' n'=Zq c0 n0
       ·exact (Zc4 hk).trans (Zc4 hk').symm
       ·rw [if_pos hk] at e
        rw [if_neg hk'] at e'
        cases e
        exact (no _ _ e').elim
      ·rw [if_neg hk] at e
       by_cases hk':Zq c' n'=Zq c0 n0
       ·rw [if_pos hk'] at e'
        cases e'
        exact (no _ _ e).elim
       ·rw [if_neg hk'] at e'
        exact I.one _ _ _ _ _ e e'
     ·intro b' o e
      rw [Zh (fun z=>by rw [z,hqH] at e; cases e),Zh (fun z=>by rw [z,hg] at e; cases e)]
      exact smq b' o e
  ·rintro σ H' ⟨kvs,v3,v4,rfl,I,sm⟩
   have el:(Zp cs).length=cs.length:=by unfold Zp; rw [xA]
   rw [el,yL] at I
   refine ⟨_,rfl,k g H' hg ⟨kvs,I.at_,I.len,I.keys,fun c n=>?_⟩ (fun kvs2 c n a e1 e2=>?_) sm⟩
   ·cases e:Zm kvs (Zq c n) with
    | none=>exact .inl ⟨rfl,I.no c n e⟩
    | some v =>
     obtain ⟨a,rfl,_,_,h3⟩:=I.yes c n v e
     exact .inr ⟨a,rfl,h3⟩
   ·rw [I.at_] at e1
    cases e1
    obtain ⟨a',z,hz',_,_⟩:=I.yes c n _ e2
    cases z
    exact hz'
end
section
variable {P:Program}{w:World}{K:uFg}{mg:Str->Option Value}{base:Heap}
def stT (bs:List Bool) (i:Nat):List Nat:=(List.range i).filter fun j=>bs.getD j false
def stL (bs:List Bool):List Nat:=stT bs bs.length
theorem Zz5 {bs:List Bool}{i:Nat}{b:Bool}(h:bs[i]? = some b):stT bs (i+1)=stT bs i++(if b then [i] else []):=by
 unfold stT
 rw [List.range_succ,List.filter_append]
 cases b <;> simp [h]
theorem Ze2 (bs:List Bool) (i:Nat):(stT bs i).length<=i:=yA (List.length_filter_le _ _) (by rw [zC]; exact xE _)
theorem stL_mem {bs:List Bool}{j:Nat}:j∈stL bs↔bs[j]? = some true:=by
 unfold stL stT
 rw [yH,yE,xD]
 constructor
 ·rintro ⟨h1,h2⟩
  rw [xB h1] at h2 ⊢
  exact congrArg some h2
 ·intro h
  exact ⟨(xC.mp h).1,by rw [h]; rfl⟩
abbrev Z4 (ss:List Suit):List Bool:=(Zr [] 0 ss).1
def Zv (ss:List Suit) (c:Int) (n:Str):List Nat:=Yd ss c n (stL (Z4 ss))
theorem Z1z {ss:List Suit}{c:Int}{n:Str}:Zv ss c n ≠ []↔∃ (j:Nat) (u:Suit),ss[j]? = some u/\(Z4 ss)[j]? = some true/\u.named=some (c,n):=by
 unfold Zv Yd
 rw [← List.isEmpty_eq_false_iff,List.isEmpty_eq_false_iff_exists_mem]
 constructor
 ·rintro ⟨j,h⟩
  obtain ⟨h1,h2⟩:=yH.mp h
  obtain ⟨u,a,b⟩:=nmd_iff.mp h2
  exact ⟨j,u,a,stL_mem.mp h1,b⟩
 ·rintro ⟨j,u,a,b,c⟩
  exact ⟨j,yH.mpr ⟨stL_mem.mpr b,nmd_iff.mpr ⟨u,a,c⟩⟩⟩
def Zcx:Sp:=fun vs H Q _=>∃ (l:Addr) (ss:List Suit),vs = [.ref l]/\SuitsAt H ss l/\(∀ t∈ss,Wf t)/\ss.length<=1000 /\
 ∀ (g:Addr) (H':Hp),H g=none->NbAt H' g ss (stL (Z4 ss))->(∀ kvs c n a,H' g=some (.dT kvs)->Zm kvs (Zq c n)=some (.ref a)->H a=none)->Same H H'->Q (.ref g) H'
abbrev Zba:Stmt:=top 18
theorem Z6r:FnScope ["suits"] ["suits"] (Za Zba):=⟨rfl,rfl,rfl,by decide +kernel,rfl,by decide +kernel,by decide +kernel⟩
theorem Z6s:Nm (Za Zba) "enumerate" .globalImplicit:=by decide +kernel
theorem Z6t:Nm (Za Zba) "naming" .globalImplicit:=by decide +kernel
theorem Z6u:Nm (Za Zba) "settled" .globalImplicit:=by decide +kernel
theorem Zs2:Nm (Za Zba) "suits" .local:=by decide +kernel
theorem Z6v (Zjz:Has K mg "breaking" Zba) (T:Txt mg) (Zdt:Fn P w K mg base "settled" ["suits"] 4 Zfh) (Zj0:Fn P w K mg base "naming" ["suits", "cases"] 1 Zhz) :
  Fn P w K mg base "breaking" ["suits"] 5 Zcx:=by
 refine Zjz.fnQ Z6r (fun _ _ _ _ _ _ us hl=>match us,hl with | [_],_=>rfl) (fun vs H Q E h=>?_) (fun f cdv A outer s H vs Q E hr h=>?_)
 ·obtain ⟨l,ss,rfl,_⟩:=h
  rfl
 ·obtain ⟨l,ss,rfl,hsu,hok,hlen,k⟩:=h
  refine ⟨_,(Zg (Zo (Zj Zj0 (hr.mono (by lia)) Z6t (Zb (qvN 0 Zs2) (Zb (Wr (locs:=["case", "stands"]) (fr:=[]) ⟨rfl,by decide +kernel,by decide +kernel,by decide +kernel,by decide +kernel,by decide +kernel⟩ .nil rfl (Zpo Z6s.1 T.enumerate (Zb (Zj Zdt (hr.mono (by lia)) Z6u (Zb (qvN 0 Zs2) Zc)) Zc)) ⟨fun _ _ _ _ _ _=>by
  have cnd:(inN ["case", "stands"] []).Nodup:=by decide +kernel
  exact ⟨(Vh 2 (by rfl) (Z2 (Z8 0 cnd) (Z2 (Z8 1 cnd) Wc))),(Zbu (Uq (Yj 1))),(Yj 0)⟩⟩) Zc))))),?_⟩
  refine ⟨_,rfl,_,rfl,l,ss,rfl,hsu,hok,hlen,fun tl H1 h1 h2 sm1=>?_⟩
  have hbl:(Z4 ss).length=ss.length:=Zbn [] ss 0
  refine ⟨tl,_,rfl,SqL.of h2,?_⟩
  refine Zx2 ((Z4 ss).map V.bl) (fun i ys H'=>Same H1 H'/\ys=Zp (stT (Z4 ss) i)) ⟨fun _ _ e=>e,rfl⟩ (by rw [xA]; lia) (fun i ys H' _ ⟨e,_⟩=>SqL.of (e _ _ h2)) ?_ ?_ ?_
  ·rintro i ys H' ⟨_,rfl⟩
   unfold Zp
   rw [xA]
   exact Ze2 _ _
  ·rintro i x p ys H' hx ⟨sm,rfl⟩ hp ls hls
   obtain ⟨w1,w2,rfl⟩:=Zbe hls
   have Sp:=Same.new (o:=.tup [.int i,x]) hp
   have kp:(upd H' p (.tup [.int i,x])) p=some (.tup [.int i,x]):=upd_same
   generalize (upd H' p (.tup [.int i,x]))=H2 at Sp kp ⊢
   obtain ⟨b,hb,rfl⟩:∃ b,(Z4 ss)[i]? = some b/\x = .bl b:=by
    rw [xR] at hx
    obtain ⟨b,h1,h2⟩:=yM.mp hx
    exact ⟨b,h1,h2.symm⟩
   refine ⟨p,_,rfl,SqT.of kp,rfl,_,_,rfl,_,_,rfl,rfl,⟨[_,_],rfl,rfl⟩,?_⟩
   refine ⟨_,rfl,b,rfl,?_⟩
   have e:=Zz5 hb
   cases b with
   | true =>
    refine Yb ?_
    refine ⟨_,rfl,sm.trans Sp,?_⟩
    rw [e]
    unfold Zp
    rw [xP]
    rfl
   | false =>
    refine Yt ?_
    exact ⟨sm.trans Sp,by rw [e]; simp⟩
  ·rintro ys H' ⟨sm,rfl⟩ lc hlc
   rw [xA]
   have Sc:=Same.new (o:=.lst (Zp (stL (Z4 ss)))) hlc
   have S:=(sm1.trans sm).trans Sc
   have hl9:=Ze2 (Z4 ss) (Z4 ss).length
   refine ⟨l,lc,ss,stL (Z4 ss),rfl,hsu.mono S,by unfold stL; lia,fun j hj=>?_,upd_same,fun g H2 hg hnb hfr sm2=>?_⟩
   ·rw [← hbl]; exact (xC.mp (stL_mem.mp hj)).1
   ·exact k g H2 (S.free hg) hnb (fun kvs c n a e1 e2=>S.free (hfr kvs c n a e1 e2)) (S.trans sm2)
def Zrb:Sp:=fun vs H Q _=>∃ (l:Addr) (ss:List Suit),vs = [.ref l]/\SuitsAt H ss l/\(∀ t∈ss,Wf t)/\ss.length < 64 /\
 ∀ (l2:Addr) (ms:List V) (os:List Zf) (H':Hp),H l2=none->H' l2=some (.lst ms)->RepL H' (os.map onD) ms->UpO os->os.Nodup->(∀ c n,(c,n)∈os↔Zv ss c n ≠ [])->Same H H'->Q (.ref l2) H'
theorem Z10 (c:Int) (n:Str):Zcp (Zq c n)=(c,n):=rfl
abbrev Zb4:Stmt:=top 13
theorem Z6w:FnScope ["suits"] ["suits"] (Za Zb4):=⟨rfl,rfl,rfl,by decide +kernel,rfl,by decide +kernel,by decide +kernel⟩
theorem Z6x:Nm (Za Zb4) "breaking" .globalImplicit:=by decide +kernel
theorem Z6y:Nm (Za Zb4) "sorted" .globalImplicit:=by decide +kernel
theorem Z6z:Nm (Za Zb4) "suits" .local:=by decide +kernel
theorem Z60 (Zj1:Has K mg "broken" Zb4) (T:Txt mg) (Zbb:Fn P w K mg base "breaking" ["suits"] 5 Zcx):Fn P w K mg base "broken" ["suits"] 6 Zrb:=by
 refine Zj1.fnQ Z6w (fun _ _ _ _ _ _ us hl=>match us,hl with | [_],_=>rfl) (fun vs H Q E h=>?_) (fun f cdv A outer s H vs Q E hr h=>?_)
 ·obtain ⟨l,ss,rfl,_⟩:=h
  rfl
 ·obtain ⟨l,ss,rfl,hsu,hok,hlen,k⟩:=h
  refine ⟨_,(Zg (Zo (Z6 (Zvd (by rfl)) Z6y T.sorted Zej (Zb (Zj Zbb (hr.mono (by lia)) Z6x (Zb (qvN 0 Z6z) Zc)) Zc)))),?_⟩
  refine ⟨_,rfl,l,ss,rfl,hsu,hok,by lia,fun g H1 hg ⟨kvs,a1,a2,a3,a4⟩ _ sm1=>?_⟩
  have hbl:(Z4 ss).length=ss.length:=Zbn [] ss 0
  have hl9:(stL (Z4 ss)).length<=(Z4 ss).length:=Ze2 (Z4 ss) (Z4 ss).length
  have hsh:∀ p∈kvs,shp p.1 = [true,false]:=fun p hp=>by
   obtain ⟨c,n,e,_⟩:=a3 p hp
   rw [e]; rfl
  refine ⟨g,kvs,[true,false],rfl,a1,by lia,hsh,(fun z=>nomatch z),fun l2 ms hl2 hT hperm hup hnd=>?_⟩
  have S2:=Same.new (o:=.lst (ms.map fun p=>V.ref p.1)) hl2
  have hms:∀ p∈ms,∃ q∈kvs,q.1=p.2:=fun p hp=>by
   have:p.2∈kvs.map (·.1):=hperm.mem_iff.mp (xV.mpr ⟨p,hp,rfl⟩)
   exact xV.mp this
  have hs2:∀ p∈ms,shp p.2 = [true,false]:=fun p hp=>by
   obtain ⟨q,hq,e⟩:=hms p hp
   rw [← e]; exact hsh q hq
  refine k l2 (ms.map fun p=>V.ref p.1) (ms.map fun p=>Zcp p.2) _ (sm1.free hl2) upd_same (Zu1 ms fun p hp=>⟨S2 _ _ (hT p hp),hs2 p hp⟩) ?_ ?_ (fun c n=>?_) (sm1.trans S2)
  ·unfold UpO
   rw [List.pairwise_map]
   refine yS ?_ hup
   intro a b ha hb h
   rw [Zda (hs2 a ha),Zda (hs2 b hb)]
   exact h
  ·have nd:(ms.map (·.2)).Nodup:=hperm.nodup_iff.mpr hnd
   unfold List.Nodup at nd ⊢
   rw [List.pairwise_map] at nd ⊢
   refine yS ?_ nd
   intro a b ha hb h z
   apply h
   rw [← Zda (hs2 a ha),← Zda (hs2 b hb),z]
  ·constructor
   ·intro h
    obtain ⟨p,hp,e⟩:=xV.mp h
    obtain ⟨q,hq,e2⟩:=hms p hp
    obtain ⟨c',n',e3,h3⟩:=a3 q hq
    rw [← e2,e3,Z10] at e
    cases e
    exact h3
   ·intro h
    rcases a4 c n with ⟨_,z⟩ | ⟨a,e1,_⟩
    ·exact absurd z h
    ·have hin:=hperm.mem_iff.mpr (Zh6 e1)
     obtain ⟨p,hp,e⟩:=xV.mp hin
     exact xV.mpr ⟨p,hp,by rw [e]; rfl⟩
end
inductive Chain (ss:List Suit):Option Zf->List Nat->Prop where
 | nil:Chain ss none []
 | cons {c:Nat}{n:Str}{t:Suit}{cs:List Nat}:ss[c]? = some t->Chain ss t.named cs->Chain ss (some ((c:Int),n)) (c::cs)
theorem Zyf {ss:List Suit}{nm:Option Zf}{cs cs':List Nat}(h:Chain ss nm cs) (h':Chain ss nm cs'):cs=cs':=by
 induction h generalizing cs' with
 | nil=>cases h'; rfl
 | cons ht _ ih =>
  generalize hz:some (_,_)=z at h'
  cases h' with
  | nil=>cases hz
  | cons ht' h2 =>
   injection hz with hz
   injection hz with hz _
   have e:=Int.ofNat.inj hz
   subst e
   rw [ht] at ht'
   cases ht'
   rw [ih h2]
theorem Zz6 {ss:List Suit}(hL:Line ss):∀ (k:Nat) (nm:Option Zf),Ze0 (ss.take k) nm->∃ cs,Chain ss nm cs/\(∀ c∈cs,c < k)/\cs.Pairwise (· > ·)/\cs.length<=k:=by
 intro k
 induction k using Nat.strongRecOn with
 | ind k ih =>
  intro nm h
  cases nm with
  | none=>exact ⟨[],.nil,(fun _ z=>nomatch z),.nil,yT _⟩
  | some o =>
   obtain ⟨c,n⟩:=o
   obtain ⟨h0,t,wt,ht,_⟩:=h c n rfl
   obtain ⟨j,rfl⟩:=yN h0
   rw [xZ] at ht
   have hjk:j < k:=by
    have:=(xC.mp ht).1
    rw [xY] at this
    lia
   rw [List.getElem?_take_of_lt hjk] at ht
   obtain ⟨cs,a,b,d,e⟩:=ih j hjk t.named (hL.back j t ht)
   refine ⟨j::cs,.cons ht a,fun x hx=>?_,List.pairwise_cons.mpr ⟨fun x hx=>b x hx,d⟩,by rw [xS]; lia⟩
   rcases xW.mp hx with rfl | z
   ·exact hjk
   ·have:=b x z; lia
theorem Zon {ss:List Suit}(hL:Line ss) {c:Nat}{t:Suit}(ht:ss[c]? = some t):∃ cs,Chain ss t.named cs/\(∀ x∈cs,x < c)/\cs.Pairwise (· > ·)/\cs.length<=c:=Zz6 hL c t.named (hL.back c t ht)
section
variable {P:Program}{w:World}{K:uFg}{mg:Str->Option Value}{base:Heap}
def Zai:Sp:=fun vs H Q _=>∃ (l:Addr) (us:List V) (c:Nat),vs = [.ref l,.int c]/\H l=some (.lst us)/\c < us.length/\Q .non H
abbrev Zas:Stmt:=top 20
theorem Zs3:FnScope ["suits", "case"] ["suits", "case"] (Za Zas):=⟨rfl,rfl,rfl,by decide +kernel,rfl,by decide +kernel,by decide +kernel⟩
theorem Z61:Nm (Za Zas) "NoCase" .globalImplicit:=by decide +kernel
theorem Zlv:Nm (Za Zas) "case" .local:=by decide +kernel
theorem Zs4:Nm (Za Zas) "len" .globalImplicit:=by decide +kernel
theorem Zs5:Nm (Za Zas) "suits" .local:=by decide +kernel
theorem Z62 (Zb5:Has K mg "check_case" Zas) (T:Txt mg):Fn P w K mg base "check_case" ["suits", "case"] 1 Zai:=by
 refine Zb5.fnQ Zs3 (fun _ _ _ _ _ _ us hl=>match us,hl with | [_,_],_=>rfl) (fun vs H Q E h=>?_) (fun f cdv A outer s H vs Q E hr h=>?_)
 ·obtain ⟨l,us,c,rfl,_⟩:=h
  rfl
 ·obtain ⟨l,us,c,rfl,hl,hc,k⟩:=h
  refine ⟨_,(Zg (Zy (Zde (Zn2 Zdf Uu Zd (qvN 1 Zlv) (Z6 Y9 Zs4 T.len Yy (Zb (qvN 0 Zs5) Zc)))) (Zg Zn6) Z0)),?_⟩
  refine ⟨_,rfl,_,_,rfl,rfl,_,rfl,Yc (fun _=>?_) (fun z=>absurd (by lia) z)⟩
  refine ⟨_,rfl,l,us,rfl,.inl (SqL.of hl),_,_,rfl,rfl,_,rfl,Uo (fun z=>absurd (by lia) z) (fun _=>?_)⟩
  exact k
theorem Zwb {lo:Int}{n:Nat}{nl:Nat}{fv:St}{g:TG}{tt:TTs}{te:TE}{Q:VK}{H:Hp}(m:Nat) (hm:n=m) (Pv:Nat->List V->Hp->Prop) (h0:Pv 0 [] H) (hn:m<=1000000)
  (hlen:∀ i ys H,Pv i ys H->ys.length<=i)
  (step:∀ i ys H,i < m->Pv i ys H->Vn nl fv g tt te (.int (lo+i)) H (fun y H'=>Pv (i+1) (ys ++ [y]) H') fun H'=>Pv (i+1) ys H')
  (hd:∀ ys H,Pv m ys H->∀ l,H l=none->Q (.ref l) (upd H l (.lst ys))):V5 (Itr lo n) nl fv g tt te Q H:=by
 subst hm
 exact Zmq Pv h0 hn hlen step hd
def Zii:Sp:=fun vs H Q _=>∃ (l:Addr) (ss:List Suit) (c:Nat) (t:Suit) (cs:List Nat),vs = [.ref l,.int c]/\SuitsAt H ss l/\ss[c]? = some t/\Chain ss t.named cs/\cs.length<=1000 /\
 ∀ (l2:Addr) (H':Hp),H l2=none->H' l2=some (.lst (Zp cs))->Same H H'->Q (.ref l2) H'
def Zrc (H:Hp) (l q:Addr) (c:Nat) (ss:List Suit) (cs:List Nat):Nat->St->Hp->Prop:=fun m σ H' =>
 ∃ (pre rest:List Nat) (nm:Option Zf) (u:V),σ = [some (.ref l),some (.int c),some (.ref q),some u]/\cs=pre++rest/\rest.length=m/\Chain ss nm rest/\Rep H' (Zah nm) u/\H' q=some (.lst (Zp pre))/\Same H H'
abbrev Uc:Stmt:=top 15
theorem Zdu:FnScope ["suits", "case", "cases", "named"] ["suits", "case"] (Za Uc):=⟨rfl,rfl,rfl,by decide +kernel,rfl,by decide +kernel,by decide +kernel⟩
theorem Zs6:Nm (Za Uc) "NAMED" .globalImplicit:=by decide +kernel
theorem Zlw:Nm (Za Uc) "case" .local:=by decide +kernel
theorem Zlx:Nm (Za Uc) "cases" .local:=by decide +kernel
theorem Zs7:Nm (Za Uc) "check_case" .globalImplicit:=by decide +kernel
theorem Zd6:Nm (Za Uc) "named" .local:=by decide +kernel
theorem Zgg:Nm (Za Uc) "suits" .local:=by decide +kernel
theorem Z63 (Zb6:Has K mg "chain" Uc) (T:Txt mg) (C3:∃ t,mg "NAMED" = some (.int 3 t)) (Yw:Fn P w K mg base "check_case" ["suits", "case"] 1 Zai):Fn P w K mg base "chain" ["suits", "case"] 2 Zii:=by
 obtain ⟨t3,c_NAMED⟩:=C3
 have r_NAMED:RelV (.int 3) (.int 3 t3):=⟨t3,rfl⟩
 refine Zb6.fnQ Zdu (fun _ _ _ _ _ _ us hl=>match us,hl with | [_,_],_=>rfl) (fun vs H Q E h=>?_) (fun f cdv A outer s H vs Q E hr h=>?_)
 ·obtain ⟨l,ss,c,t,cs,rfl,_⟩:=h
  rfl
 ·obtain ⟨l,ss,c,t,cs,rfl,hsu,ht,hch,hcl,k⟩:=h
  refine ⟨_,(Ze (Yl (Zj Yw (hr.mono (by lia)) Zs7 (Zb (qvN 0 Zgg) (Zb (qvN 1 Zlw) Zc))))
 (Ze (Zl (i:=2) Zdu.nd Zlx (Yq Zc))
 (Ze (Zl (i:=3) Zdu.nd Zd6 (Zi Z3 (Zi Zz (qvN 0 Zgg) (qvN 1 Zlw) (fun _ _=>rfl)) (Yg Zs6 c_NAMED r_NAMED) (fun _ _=>rfl)))
 (Ze (Zzb PassesOwn.never (Zw Zht (qvN 3 Zd6) V6 (Z1 _))
 (Ze (Yl (Ww F.plainAttrs_list F.slot_list_append F.type_list_append Ug (qvN 2 Zlx) (Zb (Zi Z3 (qvN 3 Zd6) Zd (fun _ _=>rfl)) Zc)))
 (Zg (Zl (i:=3) Zdu.nd Zd6 (Zi Z3 (Zi Zz (qvN 0 Zgg) (Zi Z3 (qvN 3 Zd6) Zd (fun _ _=>rfl)) (fun _ _=>rfl)) (Yg Zs6 c_NAMED r_NAMED) (fun _ _=>rfl))))))
 (Zg (Zo (qvN 2 Zlx))))))),?_⟩
  have hz:(5000:Nat)<=sizeLine:=by decide
  obtain ⟨us,hl,hrep⟩:=id hsu
  have hul:us.length=ss.length:=by have:=hrep.length; rw [xA] at this; exact this
  have hc:=(xC.mp ht).1
  refine ⟨_,rfl,_,rfl,l,us,c,rfl,hl,by lia,?_⟩
  refine ⟨by show 0<=sizeLine; lia,fun q hq=>?_⟩
  have S1:=Same.new (o:=.lst []) hq
  have k1:(upd H q (.lst [])) q=some (.lst []):=upd_same
  generalize (upd H q (.lst []))=H1 at S1 k1 ⊢
  obtain ⟨us1,hl1,hrep1⟩:=hsu.mono S1
  obtain ⟨ta,u1,u2,u4,hu,hta,_,_,h4⟩:=SuitsAt.get (l:=l) hrep1 ht
  refine ⟨_,rfl,_,rfl,l,us1,c,.ref ta,rfl,rfl,SqL.of hl1,Yh hu,ta,_,3,u4,rfl,rfl,SqT.of hta,rfl,?_⟩
  refine ⟨Zrc H l q c ss cs,⟨cs.length,[],cs,t.named,u4,rfl,rfl,rfl,hch,h4,k1,S1⟩,?_⟩
  rintro m σ H' ⟨pre,rest,nm,u,rfl,ecs,rfl,hr,hu',hq',sm⟩
  refine ⟨_,rfl,rfl,_,rfl,?_⟩
  cases hr with
  | nil =>
   cases hu'
   refine Yt ?_
   rw [yO] at ecs
   rw [← ecs] at hq'
   exact ⟨_,rfl,k q H' hq hq' sm⟩
  | cons ht' hr' =>
   rename_i j n t' cs'
   obtain ⟨d,bs,rfl,hd,⟨y1,r1,rfl,e1,⟨y2,r2,rfl,e2,e3⟩⟩⟩:=hu'
   cases e1
   cases e2
   cases e3
   have ndq:d≠q:=fun z=>by rw [z,hq'] at hd; cases hd
   refine Yb ⟨fun σ' H''=>∃ m',m' < (j::cs').length/\Zrc H l q c ss cs m' σ' H'',fun _ _ h=>h,?_⟩
   have hpl:pre.length<=1000:=by rw [ecs,xL] at hcl; lia
   refine ⟨_,rfl,.inl ⟨rfl,_,SqL.of hq'⟩,_,rfl,d,_,0,.int j,rfl,rfl,SqT.of hd,rfl,q,_,.int j,rfl,rfl,hq',by unfold Zp; rw [xA]; lia,?_⟩
   have sm2:Same H (upd H' q (.lst (Zp pre ++ [.int j]))):=fun b o e=>by
    rw [Zh (fun z=>by rw [z,hq] at e; cases e)]
    exact sm b o e
   have k2:(upd H' q (.lst (Zp pre ++ [.int j]))) q=some (.lst (Zp (pre ++ [j]))):=by
    rw [upd_same]
    unfold Zp
    rw [xP]
    rfl
   have hd2:(upd H' q (.lst (Zp pre ++ [.int j]))) d=some (.tup [.int j,.str n]):=by rw [Zh ndq]; exact hd
   generalize (upd H' q (.lst (Zp pre ++ [.int j])))=H2 at sm2 k2 hd2 ⊢
   obtain ⟨us2,hl2,hrep2⟩:=hsu.mono sm2
   obtain ⟨ta2,w1,w2,w4,hw,hta2,_,_,h42⟩:=SuitsAt.get (l:=l) hrep2 ht'
   refine ⟨_,rfl,_,rfl,d,_,0,.int j,rfl,rfl,SqT.of hd2,rfl,l,us2,j,.ref ta2,rfl,rfl,SqL.of hl2,Yh hw,ta2,_,3,w4,rfl,rfl,SqT.of hta2,rfl,?_⟩
   exact ⟨cs'.length,by rw [xS]; lia,pre ++ [j],cs',t'.named,w4,rfl,by rw [ecs,List.append_assoc]; rfl,rfl,hr',h42,k2,sm2⟩
end
def Zgh (ss:List Suit) (f:Nat->List Nat):Prop:=∀ j t,ss[j]? = some t->Chain ss t.named (f j)/\(∀ x∈f j,x < j)/\(f j).length<=j
theorem Zoo {ss:List Suit}(hL:Line ss):∃ f:Nat->List Nat,Zgh ss f:=by
 have h:∀ j:Nat,∃ cs:List Nat,∀ t,ss[j]? = some t->Chain ss t.named cs/\(∀ x∈cs,x < j)/\cs.length<=j:=by
  intro j
  cases e:ss[j]? with
  | none=>exact ⟨[],fun t z=>nomatch z⟩
  | some t =>
   obtain ⟨cs,a,b,_,d⟩:=Zon hL e
   exact ⟨cs,fun t' z=>by cases z; exact ⟨a,b,d⟩⟩
 obtain ⟨f,hf⟩:=Classical.axiomOfChoice h
 exact ⟨f,hf⟩
def Wm (f:Nat->List Nat) (c n:Nat):List Nat:=(List.range n).filter fun k=>decide (c∈f k)
theorem Zyg {f:Nat->List Nat}{c n:Nat}:Wm f c (n+1)=Wm f c n++(if decide (c∈f n)=true then [n] else []):=by
 unfold Wm
 rw [List.range_succ,List.filter_append,yV]
 rfl
theorem Zz7 {ss:List Suit}{f:Nat->List Nat}(h:Zgh ss f) {c:Nat}(hc:c < ss.length):Wm f c (c+1) = []:=by
 unfold Wm
 rw [List.filter_eq_nil_iff]
 intro k hk hm
 rw [yE] at hk
 have hm:c∈f k:=by simpa using hm
 obtain ⟨_,b,_⟩:=h k ss[k] (xB (by lia))
 have:=b c hm
 lia
section
variable {P:Program}{w:World}{K:uFg}{mg:Str->Option Value}{base:Heap}
theorem Z11 (c:Nat) (cs:List Nat):inV (.int c) (Zp cs)=decide (c∈cs):=by
 induction cs with
 | nil=>rfl
 | cons x r ih =>
  have e:inV (.int c) (Zp (x::r))=(eqV (.int x) (.int c) || inV (.int c) (Zp r)):=rfl
  rw [e,ih,yW,Bool.or_eq_true,yK,yK,xW]
  have e2:eqV (.int (x:Int)) (.int (c:Int))=true↔c=x:=by
   simp [eqV]
   lia
  rw [e2]
theorem Zyh (cs:List Nat):(Zp cs).all V4=true:=by
 induction cs with
 | nil=>rfl
 | cons x r ih=>exact ih
def Zhn:Sp:=fun vs H Q _=>∃ (l:Addr) (ss:List Suit) (c:Nat) (f:Nat->List Nat),vs = [.ref l,.int c]/\SuitsAt H ss l/\ss.length<=1000/\c < ss.length/\Zgh ss f /\
 ∀ (l2:Addr) (H':Hp),H l2=none->H' l2=some (.lst (Zp (Wm f c ss.length)))->Same H H'->Q (.ref l2) H'
abbrev U7:Stmt:=top 16
theorem Zs8:FnScope ["suits", "case"] ["suits", "case"] (Za U7):=⟨rfl,rfl,rfl,by decide +kernel,rfl,by decide +kernel,by decide +kernel⟩
theorem Zgi:Nm (Za U7) "case" .cell:=by decide +kernel
theorem Zs9:Nm (Za U7) "check_case" .globalImplicit:=by decide +kernel
theorem Z64:Nm (Za U7) "len" .globalImplicit:=by decide +kernel
theorem Z65:Nm (Za U7) "range" .globalImplicit:=by decide +kernel
theorem Zgj:Nm (Za U7) "suits" .cell:=by decide +kernel
theorem Z66 (Zb7:Has K mg "bearing" U7) (T:Txt mg) (Yw:Fn P w K mg base "check_case" ["suits", "case"] 1 Zai) (Zj2:Fn P w K mg base "chain" ["suits", "case"] 2 Zii):Fn P w K mg base "bearing" ["suits", "case"] 3 Zhn:=by
 refine Zb7.fnQ Zs8 (fun _ _ _ _ _ _ us hl=>match us,hl with | [_,_],_=>rfl) (fun vs H Q E h=>?_) (fun f cdv A outer s H vs Q E hr h=>?_)
 ·obtain ⟨l,ss,c,f,rfl,_⟩:=h
  rfl
 ·obtain ⟨l,ss,c,f,rfl,hsu,hlen,hc,hf,k⟩:=h
  refine ⟨_,(Ze (Yl (Zj Yw (hr.mono (by lia)) Zs9 (Zb (qvC 0 Zgj) (Zb (qvC 1 Zgi) Zc))))
 (Zg (Zo (Wr (locs:=["later"]) (fr:=[("suits", 0),("case", 1)]) ⟨rfl,by decide +kernel,by decide +kernel,by decide +kernel,by decide +kernel,by decide +kernel⟩ (.consN Zgj (.consN Zgi .nil)) rfl (Znf Z65.1 T.range (Zb (Zn Yr (qvC 1 Zgi) Zd) (Zb (Z6 Y9 Z64 T.len Yy (Zb (qvC 0 Zgj) Zc)) Zc))) ⟨fun _ _ _ _ _ _=>by
  have cnd:(inN ["later"] [("suits", 0),("case", 1)]).Nodup:=by decide +kernel
  exact ⟨(Z8 0 cnd),(Zbu (Zw Zv6 (Y4 2) (Zj Zj2 (hr.mono (by lia)) nmC (Zb (Y4 1) (Zb (Yj 0) Zc))) rfl)),(Yj 0)⟩⟩)))),?_⟩
  have hz:(5000:Nat)<=sizeLine:=by decide
  obtain ⟨us,hl,hrep⟩:=id hsu
  have hul:us.length=ss.length:=by have:=hrep.length; rw [xA] at this; exact this
  refine ⟨_,rfl,_,rfl,l,us,c,rfl,hl,by lia,?_⟩
  refine ⟨_,rfl,_,_,rfl,rfl,_,rfl,l,us,rfl,.inl (SqL.of hl),_,_,rfl,⟨by lia,by lia,by lia,by lia⟩,?_⟩
  refine Zwb (ss.length - (c+1)) (by lia) (fun i ys H'=>Same H H'/\ys=Zp (Wm f c (c+1+i))/\ys.length<=i) ⟨fun _ _ e=>e,by rw [Nat.add_zero,Zz7 hf hc]; rfl,yT _⟩ (by lia) (fun i ys H' ⟨_,_,h⟩=>h) ?_ ?_
  ·rintro i ys H' hi ⟨sm,rfl,hyl⟩ ls hls
   obtain ⟨w0,rfl⟩:=Zck hls
   have ec:((c:Int)+1+(i:Nat))=((c+1+i:Nat):Int):=by lia
   rw [ec]
   have hj:c+1+i < ss.length:=by lia
   obtain ⟨t,ht⟩:∃ t,ss[c+1+i]? = some t:=⟨_,xB hj⟩
   obtain ⟨a1,a2,a3⟩:=hf _ t ht
   refine ⟨⟨[_],rfl,rfl⟩,?_⟩
   refine ⟨_,rfl,_,rfl,_,rfl,l,ss,c+1+i,t,f (c+1+i),rfl,hsu.mono sm,ht,a1,by lia,fun r H2 hrf hr2 sm2=>?_⟩
   refine ⟨r,_,rfl,.inl (SqL.of hr2),rfl,Zyh _,_,rfl,?_⟩
   show if inV _ _=true then _ else _
   rw [Z11]
   have eb:=Zyg (f:=f) (c:=c) (n:=c+1+i)
   generalize decide (c∈f (c+1+i))=b at eb
   have e1:c+1+(i+1)=c+1+i+1:=by lia
   rw [e1,eb]
   cases b with
   | false=>exact Yt ⟨sm.trans sm2,by rw [if_neg xJ,yO],by lia⟩
   | true =>
    refine Yb ⟨_,rfl,sm.trans sm2,?_,by rw [xL]; show _+1<=_; lia⟩
    rw [if_pos rfl]
    unfold Zp
    rw [xP]
    rfl
  ·rintro ys H' ⟨sm,rfl,hyl⟩ l2 hl2
   refine k l2 _ (sm.free hl2) ?_ (sm.trans (Same.new hl2))
   rw [upd_same,show c+1+(ss.length - (c+1))=ss.length by lia]
end
abbrev Ofs:=List (Int×Int)
inductive Pk (os:Ofs):Nat->Int->Int->List Int->Prop
 | zero:Pk os 0 0 0 []
 | skip {k:Nat}{c g:Int}{ps:List Int}(o:Int×Int):os[k]? = some o->Pk os k c g ps->Pk os (k+1) c g ps
 | take {k:Nat}{c g:Int}{ps:List Int}(o:Int×Int):os[k]? = some o->Pk os k c g ps->Pk os (k+1) (c+o.1) (g+o.2) (ps ++ [(k:Int)])
def Yz (os:Ofs):Int:=(os.map (·.2)).sum
def Zgk (os:Ofs):Int:=(os.map (·.1)).sum
def gAt (os:Ofs) (p:Int):Int:=(os.getD p.toNat (0,0)).2
def cAt (os:Ofs) (p:Int):Int:=(os.getD p.toNat (0,0)).1
structure OkO (os:Ofs):Prop where
 pos:∀ p∈os,0<=p.1/\0<=p.2/\p.2<=1000000
 len:os.length<=1000
 all:Zgk os<=30
theorem Zno {os:Ofs}{k:Nat}{o:Int×Int}(h:os[k]? = some o):Yz (os.drop k)=o.2+Yz (os.drop (k+1)):=by
 obtain ⟨hk,e⟩:=xC.mp h
 unfold Yz
 rw [List.drop_eq_getElem_cons hk,xQ,yP,e]
theorem Zeh {os:Ofs}{f:Int×Int->Int}{k:Nat}{o:Int×Int}(h:os[k]? = some o):((os.take (k+1)).map f).sum=((os.take k).map f).sum+f o:=by
 rw [yB,h,xP,List.sum_append]
 simp
theorem Z3q {os:Ofs}{f:Int×Int->Int}(h:∀ p∈os,0<=f p) : 0<=(os.map f).sum:=by
 induction os with
 | nil=>exact Int.le_refl _
 | cons a r ih=>rw [xQ,yP]; have:=ih (fun x hx=>h x (xN _ hx)); have:=h a xI; lia
theorem Zwc {os:Ofs}{f:Int×Int->Int}(h:∀ p∈os,0<=f p) (k:Nat):((os.take k).map f).sum<=(os.map f).sum:=by
 have e:=List.take_append_drop k os
 have:(os.map f).sum=((os.take k).map f).sum+((os.drop k).map f).sum:=by rw [← List.sum_append,← xP,e]
 have:=Z3q (os:=os.drop k) (f:=f) fun p hp=>h p (List.mem_of_mem_drop hp)
 lia
structure PkF (os:Ofs) (k:Nat) (c g:Int) (ps:List Int):Prop where
 up:ps.Pairwise (· < ·)
 lo:∀ p∈ps,0<=p/\p < k
 gs:(ps.map (gAt os)).sum=g
 cs:(ps.map (cAt os)).sum=c
 c0 : 0<=c
 c1:c<=((os.take k).map (·.1)).sum
 n:ps.length<=k
theorem Pk.facts {os:Ofs}(ok:∀ p∈os,0<=p.1) {k:Nat}{c g:Int}{ps:List Int}(h:Pk os k c g ps):PkF os k c g ps:=by
 induction h with
 | zero=>exact ⟨List.Pairwise.nil,fun p hp=>(nomatch hp),rfl,rfl,Int.le_refl _,Int.le_refl _,xE _⟩
 | @skip k c g ps o ho h ih =>
  have:=ok o (xT ho)
  exact ⟨ih.up,fun p hp=>by have:=ih.lo p hp; lia,ih.gs,ih.cs,ih.c0,by rw [Zeh ho]; have:=ih.c1; lia,by have:=ih.n; lia⟩
 | @take k c g ps o ho h ih =>
  have:=ok o (xT ho)
  have e1:gAt os (k:Int)=o.2:=by unfold gAt; rw [xZ,xD,ho]; rfl
  have e2:cAt os (k:Int)=o.1:=by unfold cAt; rw [xZ,xD,ho]; rfl
  refine ⟨List.pairwise_append.mpr ⟨ih.up,by simp,fun x hx y hy=>?_⟩,fun p hp=>?_,?_,?_,by have:=ih.c0; lia,by rw [Zeh ho]; have:=ih.c1; lia,by rw [xL]; have:=ih.n; simp; lia⟩
  ·rw [xF] at hy; subst hy; exact (ih.lo x hx).2
  ·rcases xO.mp hp with hp | hp
   ·have:=ih.lo p hp; lia
   ·rw [xF] at hp; lia
  ·rw [xP,List.sum_append,ih.gs]; simp [e1]
  ·rw [xP,List.sum_append,ih.cs]; simp [e2]
theorem Zrd (os:Ofs):∀ k,k<=os.length->∃ ps,Pk os k ((os.take k).map (·.1)).sum ((os.take k).map (·.2)).sum ps
 | 0,_=>⟨[],by simpa using Pk.zero⟩
 | k+1,h=>by
  obtain ⟨ps,hp⟩:=Zrd os k (by lia)
  have ho:os[k]? = some os[k]:=xB (by lia)
  refine ⟨ps ++ [(k:Int)],?_⟩
  rw [Zeh ho,Zeh ho]
  exact Pk.take _ ho hp
abbrev Tri:=Int×Int×List Int
def Zly (x y:Tri):Prop:=x.1 < y.1/\y.2.1 < x.2.1
structure Cho (os:Ofs) (goal:Int) (k:Nat) (ks:List Tri):Prop where
 real:∀ x∈ks,∃ g,Pk os k x.1 g x.2.2/\x.2.1=max (goal - g) 0
 best:∀ c g ps,Pk os k c g ps->max (goal - g) 0<=Yz (os.drop k)->∃ y∈ks,y.1<=c/\y.2.1<=max (goal - g) 0
 ord:ks.Pairwise Zly
 hope:∀ x∈ks,x.2.1<=Yz (os.drop k)
def Zbc (o:Int×Int) (k:Nat) (x:Tri):Tri:=(x.1+o.1,max (x.2.1 - o.2) 0,x.2.2 ++ [(k:Int)])
structure Wor (hp:Int) (cs ks:List Tri):Prop where
 sub:∀ x∈ks,x∈cs
 hope:∀ x∈ks,x.2.1<=hp
 best:∀ x∈cs,x.2.1<=hp->∃ y∈ks,y.1<=x.1/\y.2.1<=x.2.1
 ord:ks.Pairwise Zly
theorem Cho.zero {os:Ofs}{goal:Int}(h1 : 1<=goal) (hg:goal<=Yz os):Cho os goal 0 [(0,goal,[])] where
 real:=fun x hx=>by
  rw [xF] at hx; subst hx
  exact ⟨0,Pk.zero,by show goal=max (goal - 0) 0; lia⟩
 best:=fun c g ps h _=>by
  cases h
  exact ⟨_,xF.mpr rfl,Int.le_refl _,by show goal<=max (goal - 0) 0; lia⟩
 ord:=by simp
 hope:=fun x hx=>by
  rw [xF] at hx; subst hx
  exact hg
theorem Cho.step {os:Ofs}(ok:∀ p∈os,0<=p.1/\0<=p.2) {goal:Int}{k:Nat}{ks ks':List Tri}{o:Int×Int}(ho:os[k]? = some o) (C:Cho os goal k ks) (W:Wor (Yz (os.drop (k+1))) (ks++ks.map (Zbc o k)) ks'):Cho os goal (k+1) ks' where
 real:=fun x hx=>by
  rcases xO.mp (W.sub x hx) with h | h
  ·obtain ⟨g,hp,e⟩:=C.real x h
   exact ⟨g,Pk.skip o ho hp,e⟩
  ·obtain ⟨y,hy,rfl⟩:=xV.mp h
   obtain ⟨g,hp,e⟩:=C.real y hy
   refine ⟨g+o.2,Pk.take o ho hp,?_⟩
   have:=(ok o (xT ho)).2
   show max (y.2.1 - o.2) 0=max (goal - (g+o.2)) 0
   lia
 best:=fun c g ps h hl=>by
  have hd:=Zno ho
  have hn:=(ok o (xT ho)).2
  cases h with
  | skip o' ho' hp =>
   obtain ⟨y,hy,y1,y2⟩:=C.best _ _ _ hp (by lia)
   obtain ⟨z,hz,z1,z2⟩:=W.best y (yF _ hy) (by lia)
   exact ⟨z,hz,by lia,by lia⟩
  | @take _ c0 g0 ps0 o' ho' hp =>
   have:o'=o:=by rw [ho] at ho'; exact (Option.some.inj ho').symm
   subst this
   obtain ⟨y,hy,y1,y2⟩:=C.best _ _ _ hp (by lia)
   obtain ⟨z,hz,z1,z2⟩:=W.best (Zbc o' k y) (xM _ (List.mem_map_of_mem hy)) (by show max (y.2.1 - o'.2) 0<=_; lia)
   have w1:(Zbc o' k y).1=y.1+o'.1:=rfl
   have w2:(Zbc o' k y).2.1=max (y.2.1 - o'.2) 0:=rfl
   exact ⟨z,hz,by lia,by lia⟩
 ord:=W.ord
 hope:=W.hope
theorem Cho.fin {os:Ofs}{goal:Int}{x:Tri}{ks:List Tri}(C:Cho os goal os.length (x::ks)):∃ g,Pk os os.length x.1 g x.2.2/\goal<=g/\∀ c g ps,Pk os os.length c g ps->goal<=g->x.1<=c:=by
 have e:Yz (os.drop os.length)=0:=by rw [List.drop_length]; rfl
 obtain ⟨g,hp,hl⟩:=C.real x xI
 have:=C.hope x xI
 refine ⟨g,hp,by lia,fun c g' ps h hg=>?_⟩
 obtain ⟨y,hy,y1,y2⟩:=C.best c g' ps h (by lia)
 rcases xW.mp hy with rfl | hy
 ·exact y1
 ·have:=((List.pairwise_cons.mp C.ord).1 y hy).1
  lia
theorem Cho.some_ {os:Ofs}{goal:Int}{ks:List Tri}(hg:goal<=Yz os) (C:Cho os goal os.length ks):∃ x r,ks=x::r:=by
 cases ks with
 | cons x r=>exact ⟨x,r,rfl⟩
 | nil =>
  obtain ⟨ps,hp⟩:=Zrd os os.length (xE _)
  rw [yL] at hp
  have e:Yz (os.drop os.length)=0:=by rw [List.drop_length]; rfl
  have:(os.map (·.2)).sum=Yz os:=rfl
  obtain ⟨y,hy,_⟩:=C.best _ _ _ hp (by lia)
  cases hy
theorem Cho.many {os:Ofs}(ok:OkO os) {goal:Int}{k:Nat}{ks:List Tri}(C:Cho os goal k ks):ks.length<=31:=by
 have b:∀ x∈ks,0<=x.1/\x.1<=30:=fun x hx=>by
  obtain ⟨g,hp,_⟩:=C.real x hx
  have f:=hp.facts fun p hp=>(ok.pos p hp).1
  have:=Zwc (os:=os) (f:=(·.1)) (fun p hp=>(ok.pos p hp).1) k
  have h2:=ok.all
  unfold Zgk at h2
  have:=f.c1
  exact ⟨f.c0,by lia⟩
 have go:∀ (ks:List Tri) (m:Int),ks.Pairwise Zly->(∀ x∈ks,m<=x.1/\x.1<=30)->m<=31->(ks.length:Int)<=31 - m:=by
  intro ks
  induction ks with
  | nil=>intro m _ _ h; simp; lia
  | cons x r ih =>
   intro m hp hb hm
   obtain ⟨p1,p2⟩:=List.pairwise_cons.mp hp
   have hx:=hb x xI
   have:=ih (x.1+1) p2 (fun y hy=>⟨by have:=(p1 y hy).1; lia,(hb y (xN _ hy)).2⟩) (by lia)
   rw [xS]
   lia
 have:=go ks 0 C.ord b (by lia)
 lia
def nam (ss:List Suit) (j:Nat):Option Zf:=(ss[j]?).bind (·.named)
inductive Und (ss:List Suit) (c:Nat):Nat->Prop
 | refl:Und ss c c
 | step {j:Nat}{o:Zf}:nam ss j=some o->Und ss c o.1.toNat->Und ss c j
def bk (ss:List Suit) (S:List Zf->Nat->Bool) (B:List Zf) (c:Nat) (n:Str):Bool:=decide (((c:Int),n)∈B) || (List.range ss.length).any fun j=>S B j && decide (nam ss j=some ((c:Int),n))
def kw (f:Str->Bool) (sd:Zk):Int:=((sd.filter fun p=>!f p.1).map (·.2)).sum
def mgn (f:Str->Bool) (t:Suit):Int:=kw f t.ones - kw f t.others - t.need
structure Stl (ss:List Suit) (S:List Zf->Nat->Bool):Prop where
 fix:∀ B c t,ss[c]? = some t->S B c=decide (0<=mgn (bk ss S B c) t)
 low:∀ j o,nam ss j=some o->0<=o.1/\o.1.toNat < j/\j < ss.length
section
variable {ss:List Suit}{S:List Zf->Nat->Bool}
theorem Und.le (L:Stl ss S) {c j:Nat}(h:Und ss c j):c<=j:=by
 induction h with
 | refl=>exact xE _
 | step hn _ ih=>have:=(L.low _ _ hn).2.1; lia
theorem Und.trans {a b c:Nat}(h1:Und ss a b) (h2:Und ss b c):Und ss a c:=by
 induction h2 with
 | refl=>exact h1
 | step hn _ ih=>exact .step hn ih
theorem Und.tri {a b k:Nat}(h1:Und ss a k) (h2:Und ss b k):Und ss a b\/Und ss b a:=by
 induction h1 with
 | refl=>exact .inr h2
 | @step j o hn h ih =>
  cases h2 with
  | refl=>exact .inl (.step hn h)
  | step hn' h'=>rw [hn] at hn'; cases hn'; exact ih h'
theorem Und.apart (L:Stl ss S) {c j k x:Nat}{m n:Str}(hj:nam ss j=some ((c:Int),m)) (hk:nam ss k=some ((c:Int),n)) (hne:j≠k) (h1:Und ss j x) (h2:Und ss k x):False:=by
 have key:∀ {j k:Nat}{m n:Str},nam ss j=some ((c:Int),m)->nam ss k=some ((c:Int),n)->j≠k->Und ss j k->False:=fun {j k m n} hj hk hne h=>by
  cases h with
  | refl=>exact hne rfl
  | step hn h' =>
   rw [hk] at hn; cases hn
   have:=h'.le L
   have h3:=(L.low _ _ hj).2.1
   simp only [xZ] at this h3
   lia
 rcases Und.tri h1 h2 with h | h
 ·exact key hj hk hne h
 ·exact key hk hj (fun z=>hne z.symm) h
theorem Stl.loc (L:Stl ss S):∀ (d j:Nat),ss.length - j<=d->j < ss.length->∀ B B':List Zf,(∀ o:Zf,Und ss j o.1.toNat->(o∈B↔o∈B'))->S B j=S B' j
 | 0,j,h,hj,_,_,_=>by lia
 | d+1,j,h,hj,B,B',hb=>by
  have ht:ss[j]? = some ss[j]:=xB hj
  rw [L.fix B j _ ht,L.fix B' j _ ht]
  have e:bk ss S B j=bk ss S B' j:=by
   funext n
   unfold bk
   have e1:decide (((j:Int),n)∈B)=decide (((j:Int),n)∈B'):=by
    have:=hb ((j:Int),n) (by simp only [xZ]; exact .refl)
    by_cases c:((j:Int),n)∈B
    ·rw [xH c,xH (this.mp c)]
    ·rw [xK c,xK (fun z=>c (this.mpr z))]
   rw [e1]
   congr 1
   apply yW.mpr
   have go:∀ k,nam ss k=some ((j:Int),n)->S B k=S B' k:=fun k hk=>by
    have hl:=L.low _ _ hk
    simp only [xZ] at hl
    exact L.loc d k (by lia) hl.2.2 B B' fun o ho=>hb o (Und.trans (.step hk (by simp only [xZ]; exact .refl)) ho)
   constructor
   ·intro h
    obtain ⟨k,hk,e⟩:=List.any_eq_true.mp h
    rw [yI] at e
    have e2:=yD e.2
    exact List.any_eq_true.mpr ⟨k,hk,by rw [← go k e2]; rw [yI]; exact e⟩
   ·intro h
    obtain ⟨k,hk,e⟩:=List.any_eq_true.mp h
    rw [yI] at e
    have e2:=yD e.2
    exact List.any_eq_true.mpr ⟨k,hk,by rw [go k e2]; rw [yI]; exact e⟩
  rw [e]
theorem Stl.loc' (L:Stl ss S) {j:Nat}(hj:j < ss.length) {B B':List Zf}(hb:∀ o:Zf,Und ss j o.1.toNat->(o∈B↔o∈B')):S B j=S B' j:=L.loc _ j (xE _) hj B B' hb
theorem Uw {B:List Zf}{c:Nat}{n:Str}(L:Stl ss S):bk ss S B c n=true↔((c:Int),n)∈B\/∃ j,nam ss j=some ((c:Int),n)/\S B j=true:=by
 unfold bk
 rw [Bool.or_eq_true,yK,List.any_eq_true]
 constructor
 ·rintro (h | ⟨j,_,e⟩)
  ·exact .inl h
  ·rw [yI] at e
   exact .inr ⟨j,yD e.2,e.1⟩
 ·rintro (h | ⟨j,e1,e2⟩)
  ·exact .inl h
  ·exact .inr ⟨j,yE.mpr (L.low _ _ e1).2.2,by rw [e2,xH e1]; rfl⟩
def Reg (ss:List Suit) (c:Nat) (n:Str) (o:Zf):Prop:=o=((c:Int),n)\/∃ j,nam ss j=some ((c:Int),n)/\Und ss j o.1.toNat
theorem Reg.apart (L:Stl ss S) {c:Nat}{m n:Str}{o:Zf}(h1:Reg ss c m o) (h2:Reg ss c n o):m=n:=by
 have no:∀ {j:Nat}{k:Str},nam ss j=some ((c:Int),k)->¬ Und ss j c:=fun {j k} hj h=>by
  have:=h.le L
  have h3:=(L.low _ _ hj).2.1
  simp only [xZ] at h3
  lia
 rcases h1 with rfl | ⟨j,hj,sj⟩
 ·rcases h2 with e | ⟨k,hk,sk⟩
  ·exact congrArg Prod.snd e
  ·exact absurd (by simpa using sk) (no hk)
 ·rcases h2 with rfl | ⟨k,hk,sk⟩
  ·exact absurd (by simpa using sj) (no hj)
  ·by_cases e:j=k
   ·subst e
    rw [hj] at hk
    cases hk; rfl
   ·exact (Und.apart L hj hk e sj sk).elim
theorem Reg.sub {c:Nat}{n:Str}{o:Zf}(h:Reg ss c n o):Und ss c o.1.toNat:=by
 rcases h with rfl | ⟨j,hj,sj⟩
 ·simp only [xZ]; exact .refl
 ·exact Und.trans (.step hj (by simp only [xZ]; exact .refl)) sj
theorem Zre (L:Stl ss S) {c:Nat}{n:Str}{B B':List Zf}(h:∀ o,Reg ss c n o->(o∈B↔o∈B')):bk ss S B c n=bk ss S B' c n:=by
 have go:∀ j,nam ss j=some ((c:Int),n)->S B j=S B' j:=fun j hj=>L.loc' (L.low _ _ hj).2.2 fun o ho=>h o (.inr ⟨j,hj,ho⟩)
 apply yW.mpr
 rw [Uw L,Uw L,h _ (.inl rfl)]
 constructor
 ·rintro (h | ⟨j,e1,e2⟩)
  ·exact .inl h
  ·exact .inr ⟨j,e1,by rw [← go j e1]; exact e2⟩
 ·rintro (h | ⟨j,e1,e2⟩)
  ·exact .inl h
  ·exact .inr ⟨j,e1,by rw [go j e1]; exact e2⟩
open Classical in
noncomputable def inT (ss:List Suit) (c:Nat) (B:List Zf):List Zf:=B.filter fun o=>decide (Und ss c o.1.toNat)
open Classical in
noncomputable def inR (ss:List Suit) (c:Nat) (n:Str) (B:List Zf):List Zf:=B.filter fun o=>decide (Reg ss c n o)
open Classical in
theorem Z12 {c:Nat}{B:List Zf}{o:Zf}:o∈inT ss c B↔o∈B/\Und ss c o.1.toNat:=by unfold inT; rw [yH,yK]
open Classical in
theorem inR_mem {c:Nat}{n:Str}{B:List Zf}{o:Zf}:o∈inR ss c n B↔o∈B/\Reg ss c n o:=by unfold inR; rw [yH,yK]
structure Opt (ss:List Suit) (S:List Zf->Nat->Bool) (c:Nat) (r:Option (List Zf)):Prop where
 no:r=none->∀ B,S B c=S [] c
 yes:∀ R,r=some R->S R c≠S [] c
 least:∀ R,r=some R->∀ B,S B c≠S [] c->R.length<=B.length
 sub:∀ R,r=some R->∀ o∈R,Und ss c o.1.toNat
 nd:∀ R,r=some R->R.Nodup
theorem Opt.reg (L:Stl ss S) {c:Nat}(hc:c < ss.length) {R:List Zf}(h:Opt ss S c (some R)) {B:List Zf}(hB:S B c≠S [] c):R.length<=(inT ss c B).length:=by
 refine h.least R rfl _ fun e=>hB ?_
 rw [← e]
 exact L.loc' hc fun o ho=>by rw [Z12]; exact ⟨fun z=>⟨z,ho⟩,fun z=>z.1⟩
end
section
variable {ss:List Suit}{S:List Zf->Nat->Bool}
structure Way (ss:List Suit) (S:List Zf->Nat->Bool) (c:Nat) (n:Str) (R:List Zf):Prop where
 reg:∀ o∈R,Reg ss c n o
 nd:R.Nodup
 does:∀ B,(∀ o,Reg ss c n o->(o∈B↔o∈R))->bk ss S B c n = !bk ss S [] c n
 least:∀ B,bk ss S B c n≠bk ss S [] c n->R.length<=(inR ss c n B).length
theorem Z13 {α:Type}{l:List α}{x : α}(h:x∈l) : 1<=l.length:=by
 cases l with
 | nil=>cases h
 | cons a r=>rw [xS]; lia
theorem Way.brk (L:Stl ss S) {c:Nat}{n:Str}(h:bk ss S [] c n=false):Way ss S c n [((c:Int),n)] where
 reg:=fun o ho=>.inl (xF.mp ho)
 nd:=by simp
 does:=fun B hB=>by
  rw [h]
  exact (Uw L).mpr (.inl ((hB _ (.inl rfl)).mpr (xF.mpr rfl)))
 least:=fun B hB=>by
  by_cases e:∃ o,o∈inR ss c n B
  ·obtain ⟨o,ho⟩:=e
   exact Z13 ho
  ·exfalso
   apply hB
   refine Zre L fun o ho=>⟨fun z=>absurd ⟨o,inR_mem.mpr ⟨z,ho⟩⟩ e,fun z=>(nomatch z)⟩
open Classical in
theorem Zh0 {α β:Type}(P : β->α->Prop):∀ (bs:List β) (B:List α),bs.Nodup->(∀ b∈bs,∀ b'∈bs,∀ x,P b x->P b' x->b=b')->((bs.map fun b=>(B.filter fun x=>decide (P b x)).length).sum<=(B.filter fun x=>decide (∃ b∈bs,P b x)).length)
 | [],B,_,_=>by simp
 | b::bs,B,nd,h=>by
  rw [List.nodup_cons] at nd
  have ih:=Zh0 P bs B nd.2 fun x hx y hy z=>h x (xN _ hx) y (xN _ hy) z
  rw [xQ,yP]
  have key:∀ B:List α,(B.filter fun x=>decide (P b x)).length+(B.filter fun x=>decide (∃ b'∈bs,P b' x)).length<=(B.filter fun x=>decide (∃ b'∈b::bs,P b' x)).length:=by
   intro B
   induction B with
   | nil=>simp
   | cons x r ih2 =>
    rw [yV,yV,yV]
    by_cases c1:P b x
    ·have c2:¬ ∃ b'∈bs,P b' x:=fun ⟨b',hb',hp⟩=>nd.1 (by rw [h b xI b' (xN _ hb') x c1 hp]; exact hb')
     have c3:∃ b'∈b::bs,P b' x:=⟨b,xI,c1⟩
     rw [if_pos (xH c1),if_neg (by simpa using c2),if_pos (xH c3),xS,xS]
     lia
    ·rw [if_neg (by simpa using c1)]
     by_cases c2:∃ b'∈bs,P b' x
     ·have c3:∃ b'∈b::bs,P b' x:=let ⟨b',h1,h2⟩:=c2; ⟨b',xN _ h1,h2⟩
      rw [if_pos (xH c2),if_pos (xH c3),xS,xS]
      lia
     ·have c3:¬ ∃ b'∈b::bs,P b' x:=fun ⟨b',h1,h2⟩=>(xW.mp h1).elim (fun z=>c1 (by rw [← z]; exact h2)) fun z=>c2 ⟨b',z,h2⟩
      rw [if_neg (by simpa using c2),if_neg (by simpa using c3)]
      exact ih2
  have:=key B
  lia
theorem Zz8 {α:Type}(p : α->Bool) (B:List α):(B.filter p).length<=B.length:=List.length_filter_le _ _
theorem Zdb {α β:Type}{f : β->List α}:∀ {js:List β},(∀ j∈js,(f j).Nodup)->js.Pairwise (fun a b=>∀ x,x∈f a->x∈f b->False)->(js.flatMap f).Nodup
 | [],_,_=>by simp
 | j::js,h,p=>by
  obtain ⟨p1,p2⟩:=List.pairwise_cons.mp p
  rw [List.flatMap_cons,List.nodup_append]
  refine ⟨h j xI,Zdb (fun k hk=>h k (xN _ hk)) p2,fun x hx y hy e=>?_⟩
  subst e
  obtain ⟨k,hk,hz⟩:=yX.mp hy
  exact p1 k hk x hx hz
theorem Way.keep (L:Stl ss S) {c:Nat}{n:Str}{js:List Nat}{f:Nat->List Zf}(hne:js ≠ []) (hnd:js.Nodup) (hjs:∀ j,j∈js↔nam ss j=some ((c:Int),n)/\S [] j=true) (hf:∀ j∈js,Opt ss S j (some (f j))):Way ss S c n (js.flatMap f) where
 reg:=fun o ho=>by
  obtain ⟨j,hj,h⟩:=yX.mp ho
  exact .inr ⟨j,((hjs j).mp hj).1,(hf j hj).sub _ rfl o h⟩
 nd:=by
  refine Zdb (fun j hj=>(hf j hj).nd _ rfl) ?_
  refine yS (R:=fun a b=>a≠b) ?_ hnd
  intro a b ha hb hab x hx hy
  exact Und.apart L ((hjs a).mp ha).1 ((hjs b).mp hb).1 hab ((hf a ha).sub _ rfl x hx) ((hf b hb).sub _ rfl x hy)
 does:=fun B hB=>by
  obtain ⟨j0,hj0⟩:=List.exists_mem_of_ne_nil _ hne
  have hb0:bk ss S [] c n=true:=(Uw L).mpr (.inr ⟨j0,(hjs j0).mp hj0⟩)
  rw [hb0]
  cases e:bk ss S B c n with
  | false=>rfl
  | true =>
   exfalso
   rcases (Uw L).mp e with h | ⟨j,h1,h2⟩
   ·have h3:=(hB _ (.inl rfl)).mp h
    obtain ⟨j,hj,h4⟩:=yX.mp h3
    have h5:=((hf j hj).sub _ rfl _ h4).le L
    have h6:=(L.low _ _ ((hjs j).mp hj).1).2.1
    simp only [xZ] at h5 h6
    lia
   ·have hl:=(L.low _ _ h1).2.2
    by_cases c1:S [] j=true
    ·have hj:=(hjs j).mpr ⟨h1,c1⟩
     have h7:S B j=S (f j) j:=L.loc' hl fun o ho=>by
      rw [hB o (.inr ⟨j,h1,ho⟩),yX]
      constructor
      ·rintro ⟨k,hk,hx⟩
       by_cases z:k=j
       ·subst z; exact hx
       ·exact (Und.apart L ((hjs k).mp hk).1 h1 z ((hf k hk).sub _ rfl o hx) ho).elim
      ·exact fun hx=>⟨j,hj,hx⟩
     have h8:=(hf j hj).yes _ rfl
     rw [h7] at h2
     rw [h2,c1] at h8
     exact h8 rfl
    ·have h7:S B j=S [] j:=L.loc' hl fun o ho=>by
      rw [hB o (.inr ⟨j,h1,ho⟩),yX]
      constructor
      ·rintro ⟨k,hk,hx⟩
       have z:k≠j:=fun z=>c1 (by rw [← z]; exact ((hjs k).mp hk).2)
       exact (Und.apart L ((hjs k).mp hk).1 h1 z ((hf k hk).sub _ rfl o hx) ho).elim
      ·exact fun hx=>nomatch hx
     rw [h7] at h2
     exact c1 h2
 least:=fun B hB=>by
  obtain ⟨j0,hj0⟩:=List.exists_mem_of_ne_nil _ hne
  have hb0:bk ss S [] c n=true:=(Uw L).mpr (.inr ⟨j0,(hjs j0).mp hj0⟩)
  have hb1:bk ss S B c n=false:=by
   cases e:bk ss S B c n with
   | false=>rfl
   | true=>rw [e,hb0] at hB; exact absurd rfl hB
  have turned:∀ j∈js,S B j≠S [] j:=fun j hj z=>by
   have:=(hjs j).mp hj
   rw [this.2] at z
   rw [(Uw L).mpr (.inr ⟨j,this.1,z⟩)] at hb1
   cases hb1
  have e1:(js.flatMap f).length=(js.map fun j=>(f j).length).sum:=by rw [List.length_flatMap]
  have e2:∀ l:List Nat,(∀ j∈l,j∈js)->(l.map fun j=>(f j).length).sum<=(l.map fun j=>(inT ss j B).length).sum:=by
   intro l
   induction l with
   | nil=>intro _; exact xE _
   | cons j r ih =>
    intro h
    have hj:=h j xI
    rw [xQ,xQ,yP,yP]
    have:=Opt.reg L (L.low _ _ ((hjs j).mp hj).1).2.2 (hf j hj) (turned j hj)
    have:=ih fun k hk=>h k (xN _ hk)
    lia
  have e3:=Zh0 (fun (j:Nat) (o:Zf)=>Und ss j o.1.toNat) js B hnd fun a ha b hb x h1 h2=>by
   by_cases z:a=b
   ·exact z
   ·exact (Und.apart L ((hjs a).mp ha).1 ((hjs b).mp hb).1 z h1 h2).elim
  rw [e1]
  refine yA (e2 js fun j hj=>hj) (yA e3 ?_)
  unfold inR
  rw [← List.countP_eq_length_filter,← List.countP_eq_length_filter]
  refine List.countP_mono_left fun o _ h=>?_
  simp only [decide_eq_true_eq] at h ⊢
  obtain ⟨j,hj,hu⟩:=h
  exact .inr ⟨j,((hjs j).mp hj).1,hu⟩
end
def sI (p:Str->Bool) (sd:Zk):Int:=((sd.filter fun q=>p q.1).map (·.2)).sum
theorem Zaj (p:Str->Bool) (q:Str×Int) (sd:Zk):sI p (q::sd)=(if p q.1=true then q.2 else 0)+sI p sd:=by
 unfold sI
 rw [yV]
 by_cases c:p q.1=true
 ·rw [if_pos c,if_pos c,xQ,yP]
 ·rw [if_neg c,if_neg c]; lia
theorem Zft (f:Str->Bool) (sd:Zk):kw f sd=sI (fun n=>!f n) sd:=rfl
theorem Zho (f g:Str->Bool):∀ sd:Zk,kw g sd=kw f sd - sI (fun n=>!f n && g n) sd+sI (fun n=>f n && !g n) sd
 | []=>rfl
 | q::sd=>by
  have ih:=Zho f g sd
  rw [Zft,Zft] at ih
  rw [Zft,Zft,Zaj,Zaj,Zaj,Zaj]
  cases hf:f q.1 <;> cases hg:g q.1 <;> simp <;> lia
theorem Zj3 {p:Str->Bool}:∀ {sd:Zk},(∀ q∈sd,0<=q.2)->0<=sI p sd
 | [],_=>Int.le_refl _
 | q::sd,h=>by
  rw [Zaj]
  have:=Zj3 (p:=p) (sd:=sd) fun x hx=>h x (xN _ hx)
  have:=h q xI
  split <;> lia
theorem Zij {p:Str->Bool}:∀ {sd:Zk},(∀ q∈sd,p q.1=false)->sI p sd=0
 | [],_=>rfl
 | q::sd,h=>by
  rw [Zaj,h q xI,Zij (sd:=sd) fun x hx=>h x (xN _ hx)]
  rfl
abbrev Wy:=Str×List Zf×Int
def wS (p:Str->Bool) (W:List Wy):Int:=((W.filter fun e=>p e.1).map (·.2.2)).sum
theorem Zdc (p:Str->Bool) (e:Wy) (W:List Wy):wS p (e::W)=(if p e.1=true then e.2.2 else 0)+wS p W:=by
 unfold wS
 rw [yV]
 by_cases c:p e.1=true
 ·rw [if_pos c,if_pos c,xQ,yP]
 ·rw [if_neg c,if_neg c]; lia
theorem Zrf (p:Str->Bool):∀ (V W:List Wy),wS p (V++W)=wS p V+wS p W
 | [],W=>by show wS p W=0+wS p W; lia
 | e::V,W=>by rw [List.cons_append,Zdc,Zdc,Zrf p V W]; lia
def Wn (c:Nat) (f0:Str->Bool) (A:Zk):List Wy:=(A.filter fun p=>!f0 p.1).map fun p=>(p.1,[((c:Int),p.1)],p.2)
def Wh (kr:Str->Option (List Zf)) (C:Zk):List Wy:=C.filterMap fun p=>(kr p.1).map fun R=>(p.1,R,p.2)
theorem Zw1 (c:Nat) (f0:Str->Bool) (q:Str×Int) (A:Zk):Wn c f0 (q::A)=if f0 q.1=true then Wn c f0 A else (q.1,[((c:Int),q.1)],q.2)::Wn c f0 A:=by
 unfold Wn
 rw [yV]
 cases f0 q.1 <;> rfl
theorem Zmz (kr:Str->Option (List Zf)) (q:Str×Int) (C:Zk):Wh kr (q::C)=match kr q.1 with | none=>Wh kr C | some R=>(q.1,R,q.2)::Wh kr C:=by
 unfold Wh
 rw [List.filterMap_cons]
 cases kr q.1 <;> rfl
theorem Znp {c:Nat}{f0 g:Str->Bool}:∀ A:Zk,wS (fun n=>f0 n != g n) (Wn c f0 A)=sI (fun n=>!f0 n && g n) A
 | []=>rfl
 | q::A=>by
  rw [Zw1,Zaj]
  have ih:=Znp (c:=c) (f0:=f0) (g:=g) A
  cases hf:f0 q.1 with
  | true=>rw [if_pos rfl,ih]; simp
  | false=>rw [if_neg (by simp),Zdc,ih,hf]; cases g q.1 <;> rfl
theorem Znq {kr:Str->Option (List Zf)}{f0 g:Str->Bool}:∀ C:Zk,(∀ q∈C,kr q.1≠none->f0 q.1=true)->(∀ q∈C,kr q.1=none->f0 q.1=true->g q.1=true)->wS (fun n=>f0 n != g n) (Wh kr C)=sI (fun n=>f0 n && !g n) C
 | [],_,_=>rfl
 | q::C,h1,h2=>by
  rw [Zmz,Zaj]
  have ih:=Znq (f0:=f0) (g:=g) C (fun x hx=>h1 x (xN _ hx)) fun x hx=>h2 x (xN _ hx)
  cases hk:kr q.1 with
  | none =>
   rw [ih]
   have:=h2 q xI hk
   cases hf:f0 q.1 with
   | false=>simp
   | true=>rw [this hf]; simp
  | some R =>
   have hf:=h1 q xI (by rw [hk]; exact fun z=>nomatch z)
   show wS _ ((q.1,R,q.2)::Wh kr C)=_
   rw [Zdc,ih,hf]
   cases g q.1 <;> rfl
theorem Zbo {c:Nat}{f0:Str->Bool}{A:Zk}{e:Wy}(h:e∈Wn c f0 A):(e.1,e.2.2)∈A/\f0 e.1=false/\e.2.1 = [((c:Int),e.1)]:=by
 obtain ⟨q,hq,rfl⟩:=xV.mp h
 obtain ⟨h1,h2⟩:=yH.mp hq
 exact ⟨h1,by simpa using h2,rfl⟩
theorem Zbp {kr:Str->Option (List Zf)}{C:Zk}{e:Wy}(h:e∈Wh kr C):(e.1,e.2.2)∈C/\kr e.1=some e.2.1:=by
 obtain ⟨q,hq,e1⟩:=List.mem_filterMap.mp h
 obtain ⟨R,hR,rfl⟩:=yM.mp e1
 exact ⟨hq,hR⟩
theorem names_A {c:Nat}{f0:Str->Bool}{A:Zk}:((Wn c f0 A).map (·.1)).Sublist (A.map (·.1)):=by
 unfold Wn
 rw [yZ]
 exact (List.filter_sublist (l:=A)).map _
theorem Zik {kr:Str->Option (List Zf)}:∀ C:Zk,((Wh kr C).map (·.1)).Sublist (C.map (·.1))
 | []=>List.Sublist.refl _
 | q::C=>by
  rw [Zmz,xQ]
  cases kr q.1 with
  | none=>exact (Zik C).cons _
  | some R=>exact (Zik C).cons₂ _
def ofW (W:List Wy):Ofs:=W.map fun e=>((e.2.1.length:Int),e.2.2)
def s0:Str:=⟨default⟩
def wAt (W:List Wy) (i:Nat):Wy:=W.getD i (s0,[],0)
theorem Zw2 {α:Type}(d : α) (q : α->Bool):∀ (l:List α),l.filter q=((List.range l.length).filter fun i=>q (l.getD i d)).map fun i=>l.getD i d:=by
 intro l
 have e:l=(List.range l.length).map fun i=>l.getD i d:=by
  apply List.ext_getElem
  ·simp
  ·intro i h1 h2
   simp [h1]
 conv=>lhs; rw [e]
 rw [List.filter_map]
 rfl
theorem Zop {os:Ofs}(p:Nat->Bool):∀ k,k<=os.length->∃ ps,Pk os k (((List.range k).filter p).map fun i=>(os.getD i (0,0)).1).sum (((List.range k).filter p).map fun i=>(os.getD i (0,0)).2).sum ps
 | 0,_=>⟨[],Pk.zero⟩
 | k+1,h=>by
  obtain ⟨ps,hp⟩:=Zop (os:=os) p k (by lia)
  have ho:os[k]? = some os[k]:=xB (by lia)
  have e:os.getD k (0,0)=os[k]:=by rw [xD,ho]; rfl
  rw [List.range_succ,List.filter_append]
  by_cases c:p k=true
  ·refine ⟨ps ++ [(k:Int)],?_⟩
   rw [yV,if_pos c,List.filter_nil,xP,xP,List.sum_append,List.sum_append]
   simp only [xQ,List.map_nil,yP,List.sum_nil,Int.add_zero,e]
   exact Pk.take _ ho hp
  ·refine ⟨ps,?_⟩
   rw [yV,if_neg c,List.filter_nil,yO]
   exact Pk.skip _ ho hp
theorem Zz9 {os:Ofs}{k:Nat}{c g:Int}{ps:List Int}(h:Pk os k c g ps) (hk:k<=os.length):ps=((List.range k).filter fun (i:Nat)=>decide ((i:Int)∈ps)).map fun (i:Nat)=>(i:Int):=by
 have low:∀ {k:Nat}{c g:Int}{ps:List Int},Pk os k c g ps->∀ x∈ps,0<=x/\x < (k:Int):=by
  intro k c g ps h
  induction h with
  | zero=>intro x hx; cases hx
  | skip o ho h ih=>intro x hx; have:=ih x hx; lia
  | @take k c g ps o ho h ih =>
   intro x hx
   rcases xO.mp hx with hx | hx
   ·have:=ih x hx; lia
   ·rw [xF] at hx; lia
 induction h with
 | zero=>rfl
 | @skip k c g ps o ho h ih =>
  rw [List.range_succ,List.filter_append,yV,if_neg (by simp; intro z; have:=(low h _ z).2; lia),List.filter_nil,yO]
  exact ih (by lia)
 | @take k c g ps o ho h ih =>
  rw [List.range_succ,List.filter_append,yV,if_pos (by simp),List.filter_nil,xP]
  have e:(List.range k).filter (fun (i:Nat)=>decide ((i:Int)∈ps ++ [(k:Int)]))=(List.range k).filter fun (i:Nat)=>decide ((i:Int)∈ps):=by
   refine List.filter_congr fun i hi=>?_
   have:=yE.mp hi
   by_cases c:(i:Int)∈ps
   ·rw [xH c,xH (yF _ c)]
   ·rw [xK c,xK (fun z=>(xO.mp z).elim c fun z=>by rw [xF] at z; lia)]
  rw [e,← ih (by lia)]
  rfl
structure Tin (ss:List Suit) (S:List Zf->Nat->Bool) (c:Nat) (t:Suit) (A C:Zk) (kr:Str->Option (List Zf)):Prop where
 L:Stl ss S
 ht:ss[c]? = some t
 nd:((A++C).map (·.1)).Nodup
 wt:∀ q∈A++C,0<=q.2
 ac:(A=t.ones/\C=t.others/\S [] c=true)\/(A=t.others/\C=t.ones/\S [] c=false)
 k1:∀ n R,kr n=some R->bk ss S [] c n=true/\Way ss S c n R
 k0:∀ q∈C,kr q.1=none->bk ss S [] c q.1=true->∀ B,bk ss S B c q.1=true
def Vp (ss:List Suit) (S:List Zf->Nat->Bool) (c:Nat) (t:Suit):Int:=if S [] c=true then mgn (bk ss S [] c) t+1 else -mgn (bk ss S [] c) t
def Ym (ss:List Suit) (S:List Zf->Nat->Bool) (c:Nat) (A C:Zk) (kr:Str->Option (List Zf)):List Wy:=Wn c (bk ss S [] c) A++Wh kr C
section
variable {ss:List Suit}{S:List Zf->Nat->Bool}{c:Nat}{t:Suit}{A C:Zk}{kr:Str->Option (List Zf)}
theorem Tin.sums (T:Tin ss S c t A C kr) (B:List Zf):wS (fun n=>bk ss S [] c n != bk ss S B c n) (Ym ss S c A C kr)=sI (fun n=>!bk ss S [] c n && bk ss S B c n) A+sI (fun n=>bk ss S [] c n && !bk ss S B c n) C:=by
 unfold Ym
 rw [Zrf,Znp,Znq C (fun q hq h=>?_) fun q hq h1 h2=>T.k0 q hq h1 h2 B]
 cases e:kr q.1 with
 | none=>exact absurd e h
 | some R=>exact (T.k1 _ _ e).1
theorem Tin.turns (T:Tin ss S c t A C kr) (B:List Zf) :
  (S B c≠S [] c->Vp ss S c t<=wS (fun n=>bk ss S [] c n != bk ss S B c n) (Ym ss S c A C kr)) /\
  (sI (fun n=>bk ss S [] c n && !bk ss S B c n) A=0->sI (fun n=>!bk ss S [] c n && bk ss S B c n) C=0->Vp ss S c t<=wS (fun n=>bk ss S [] c n != bk ss S B c n) (Ym ss S c A C kr)->S B c≠S [] c):=by
 rw [T.sums B]
 have n1:=Zj3 (p:=fun n=>bk ss S [] c n && !bk ss S B c n) (sd:=A) fun q hq=>T.wt q (yF _ hq)
 have n2:=Zj3 (p:=fun n=>!bk ss S [] c n && bk ss S B c n) (sd:=C) fun q hq=>T.wt q (xM _ hq)
 have ea:=Zho (bk ss S [] c) (bk ss S B c) A
 have ec:=Zho (bk ss S [] c) (bk ss S B c) C
 have f0:=T.L.fix [] c t T.ht
 have fB:=T.L.fix B c t T.ht
 unfold Vp
 rcases T.ac with ⟨rfl,rfl,hs⟩ | ⟨rfl,rfl,hs⟩
 ·rw [if_pos hs]
  rw [hs] at f0 ⊢
  have m0:=yD f0.symm
  unfold mgn at *
  refine ⟨fun h=>?_,fun z1 z2 h=>?_⟩
  ·by_cases q : 0<=kw (bk ss S B c) t.ones - kw (bk ss S B c) t.others - t.need
   ·rw [xH q] at fB; exact absurd fB h
   ·lia
  ·rw [fB,xK (by lia)]; exact fun z=>nomatch z
 ·rw [if_neg (by rw [hs]; exact fun z=>nomatch z)]
  rw [hs] at f0 ⊢
  have m0:=of_decide_eq_false f0.symm
  unfold mgn at *
  refine ⟨fun h=>?_,fun z1 z2 h=>?_⟩
  ·by_cases q : 0<=kw (bk ss S B c) t.ones - kw (bk ss S B c) t.others - t.need
   ·lia
   ·rw [xK q] at fB; exact absurd fB h
  ·rw [fB,xH (by lia)]; exact fun z=>nomatch z
theorem Tin.names (T:Tin ss S c t A C kr):((Ym ss S c A C kr).map (·.1)).Nodup:=by
 unfold Ym
 have h:=T.nd
 rw [xP] at h ⊢
 exact h.sublist (names_A.append (Zik C))
theorem Tin.way (T:Tin ss S c t A C kr) {e:Wy}(h:e∈Ym ss S c A C kr):Way ss S c e.1 e.2.1:=by
 rcases xO.mp h with h | h
 ·obtain ⟨_,h2,h3⟩:=Zbo h
  rw [h3]
  exact Way.brk T.L h2
 ·exact (T.k1 _ _ (Zbp h).2).2
theorem Ze3 {W:List Wy}{i:Nat}(h:i < W.length):wAt W i∈W:=by
 unfold wAt
 rw [xD,xB h]
 exact List.getElem_mem h
theorem Ze4 {W:List Wy}(nd:(W.map (·.1)).Nodup) {i j:Nat}(hi:i < W.length) (hj:j < W.length) (e:(wAt W i).1=(wAt W j).1):i=j:=by
 unfold wAt at e
 rw [xD,xB hi,xD,xB hj] at e
 by_cases q:i=j
 ·exact q
 ·exfalso
  rcases Nat.lt_or_gt_of_ne q with l | l
  ·exact zE.mp nd i j (by rw [xA]; exact hi) (by rw [xA]; exact hj) l (by simpa using e)
  ·exact zE.mp nd j i (by rw [xA]; exact hj) (by rw [xA]; exact hi) l (by simpa using e.symm)
theorem Zfi {W:List Wy}{i:Nat}(h:i < W.length):(ofW W).getD i (0,0)=(((wAt W i).2.1.length:Int),(wAt W i).2.2):=by
 unfold ofW wAt
 rw [xD,xR,xD,xB h]
 rfl
theorem Ze5 {W:List Wy}:(ofW W).length=W.length:=by unfold ofW; rw [xA]
theorem Zoq {W:List Wy}(p:Str->Bool):wS p W=(((List.range W.length).filter fun i=>p (wAt W i).1).map fun i=>(wAt W i).2.2).sum:=by
 unfold wS
 rw [Zw2 (s0,[],0) (fun e:Wy=>p e.1) W,yZ]
 rfl
theorem Z3r {W:List Wy}{p:Str->Bool}(h:∀ e∈W,0<=e.2.2):wS p W<=Yz (ofW W):=by
 induction W with
 | nil=>exact Int.le_refl _
 | cons e W ih =>
  have:=ih fun x hx=>h x (xN _ hx)
  have:=h e xI
  rw [Zdc]
  unfold Yz ofW at *
  rw [xQ,xQ,yP]
  split <;> simp only at * <;> lia
theorem Tin.pos (T:Tin ss S c t A C kr):∀ e∈Ym ss S c A C kr,0<=e.2.2:=fun e he=>by
 rcases xO.mp he with h | h
 ·exact T.wt _ (yF _ (Zbo h).1)
 ·exact T.wt _ (xM _ (Zbp h).1)
theorem Tin.no (T:Tin ss S c t A C kr) (h:Yz (ofW (Ym ss S c A C kr)) < Vp ss S c t):Opt ss S c none where
 no:=fun _ B=>by
  by_cases e:S B c=S [] c
  ·exact e
  ·have:=(T.turns B).1 e
   have:=Z3r (p:=fun n=>bk ss S [] c n != bk ss S B c n) T.pos
   lia
 yes:=fun R z=>nomatch z
 least:=fun R z=>nomatch z
 sub:=fun R z=>nomatch z
 nd:=fun R z=>nomatch z
def Vd (W:List Wy) (ps:List Int):List Zf:=ps.flatMap fun p=>(wAt W p.toNat).2.1
theorem Tin.yes (T:Tin ss S c t A C kr) {W:List Wy}(hW:W=Ym ss S c A C kr) {cc g:Int}{ps:List Int}(hp:Pk (ofW W) (ofW W).length cc g ps) (hg:Vp ss S c t<=g) (hmin:∀ c' g' ps',Pk (ofW W) (ofW W).length c' g' ps'->Vp ss S c t<=g'->cc<=c')
  {R:List Zf}(hR:R.Perm (Vd W ps)):Opt ss S c (some R):=by
 have hlen:=Ze5 (W:=W)
 have ff:=hp.facts fun o ho=>by
  obtain ⟨e,_,rfl⟩:=xV.mp ho
  exact Int.natCast_nonneg _
 rw [hlen] at ff
 have inp:∀ {p:Int},p∈ps->p.toNat < W.length:=fun {p} h=>by have:=ff.lo p h; lia
 have nmW:=T.names
 rw [← hW] at nmW
 have way:∀ {i},i < W.length->Way ss S c (wAt W i).1 (wAt W i).2.1:=fun {i} hi=>T.way (by rw [← hW]; exact Ze3 hi)
 have memR:∀ o,o∈R↔∃ p∈ps,o∈(wAt W p.toNat).2.1:=fun o=>by rw [hR.mem_iff]; unfold Vd; rw [yX]
 have mk:=Zz9 hp (xE _)
 rw [hlen] at mk
 have flip:∀ i,i < W.length->(i:Int)∈ps->bk ss S R c (wAt W i).1 = !bk ss S [] c (wAt W i).1:=fun i hi hm=>by
  refine (way hi).does R fun o ho=>?_
  rw [memR]
  constructor
  ·rintro ⟨p,h1,h2⟩
   have h3:=(way (inp h1)).reg o h2
   have h4:=Reg.apart T.L h3 ho
   have h5:=Ze4 nmW (inp h1) hi h4
   rw [h5] at h2
   exact h2
  ·exact fun h=>⟨(i:Int),hm,by rw [xZ]; exact h⟩
 have stay:∀ n,(∀ i,i < W.length->(i:Int)∈ps->(wAt W i).1≠n)->bk ss S R c n=bk ss S [] c n:=fun n h=>Zre T.L fun o ho=>by
  rw [memR]
  constructor
  ·rintro ⟨p,h1,h2⟩
   have h3:=(way (inp h1)).reg o h2
   have h4:=Reg.apart T.L h3 ho
   have h5:=ff.lo p h1
   exact absurd h4 (h p.toNat (inp h1) (by rw [Int.toNat_of_nonneg h5.1]; exact h1))
  ·exact fun h=>nomatch h
 have chg:∀ i,i < W.length->(bk ss S [] c (wAt W i).1 != bk ss S R c (wAt W i).1)=decide ((i:Int)∈ps):=fun i hi=>by
  by_cases m:(i:Int)∈ps
  ·rw [flip i hi m,xH m]; cases bk ss S [] c (wAt W i).1 <;> rfl
  ·rw [stay _ fun j hj hm e=>m (by rw [← Ze4 nmW hj hi e]; exact hm),xK m]; cases bk ss S [] c (wAt W i).1 <;> rfl
 have who:∀ n,bk ss S R c n≠bk ss S [] c n->∃ i,i < W.length/\(wAt W i).1=n:=fun n h=>by
  by_cases e:∃ i,i < W.length/\(i:Int)∈ps/\(wAt W i).1=n
  ·obtain ⟨i,h1,_,h3⟩:=e; exact ⟨i,h1,h3⟩
  ·exact absurd (stay n fun i h1 h2 h3=>e ⟨i,h1,h2,h3⟩) h
 have two:∀ q∈A,∀ r∈C,q.1≠r.1:=fun q hq r hr e=>by
  have h:=T.nd
  rw [xP,List.nodup_append] at h
  exact h.2.2 q.1 (List.mem_map_of_mem hq) r.1 (List.mem_map_of_mem hr) e
 have wsum:wS (fun n=>bk ss S [] c n != bk ss S R c n) W=g:=by
  rw [Zoq]
  have e1:(List.range W.length).filter (fun i=>bk ss S [] c (wAt W i).1 != bk ss S R c (wAt W i).1)=(List.range W.length).filter fun (i:Nat)=>decide ((i:Int)∈ps):=List.filter_congr fun i hi=>chg i (yE.mp hi)
  rw [e1]
  have e2:=ff.gs
  rw [mk,yZ] at e2
  rw [← e2]
  congr 1
  refine zF fun i hi=>?_
  have hi':=yE.mp (yH.mp hi).1
  show _=gAt (ofW W) (i:Int)
  unfold gAt
  rw [xZ,Zfi hi']
 have clen:(R.length:Int)=cc:=by
  have e2:=ff.cs
  rw [← e2,hR.length_eq]
  unfold Vd
  rw [List.length_flatMap]
  have go:∀ l:List Int,(∀ p∈l,0<=p/\p < (W.length:Int))->(((l.map fun p=>(wAt W p.toNat).2.1.length).sum:Nat):Int)=(l.map (cAt (ofW W))).sum:=by
   intro l
   induction l with
   | nil=>intro _; rfl
   | cons p l ih =>
    intro h
    have hp:=h p xI
    rw [xQ,xQ,yP,yP,Int.natCast_add,ih fun x hx=>h x (xN _ hx)]
    congr 1
    unfold cAt
    rw [Zfi (by lia)]
  exact go ps ff.lo
 refine ⟨(fun z=>nomatch z),fun R' e=>?_,fun R' e B hB=>?_,fun R' e o ho=>?_,fun R' e=>?_⟩
 ·cases e
  have tt:=(T.turns R).2 (Zij fun q hq=>?_) (Zij fun q hq=>?_) (by rw [← hW,wsum]; exact hg)
  ·exact tt
  ·cases h0:bk ss S [] c q.1 with
   | false=>rfl
   | true =>
    cases h1:bk ss S R c q.1 with
    | true=>rfl
    | false =>
     obtain ⟨i,hi,hn⟩:=who q.1 (by rw [h0,h1]; exact fun z=>nomatch z)
     have hm:=Ze3 hi
     rw [hW] at hm
     rcases xO.mp hm with hm | hm
     ·have:=(Zbo hm).2.1
      rw [← hW,hn,h0] at this; cases this
     ·have:=(Zbp hm).1
      rw [← hW,hn] at this
      exact ((two q hq _ this) rfl).elim
  ·cases h0:bk ss S [] c q.1 with
   | true=>rfl
   | false =>
    cases h1:bk ss S R c q.1 with
    | false=>rfl
    | true =>
     obtain ⟨i,hi,hn⟩:=who q.1 (by rw [h0,h1]; exact fun z=>nomatch z)
     have hm:=Ze3 hi
     rw [hW] at hm
     rcases xO.mp hm with hm | hm
     ·have:=(Zbo hm).1
      rw [← hW,hn] at this
      exact ((two _ this q hq) rfl).elim
     ·have:=(T.k1 _ _ (Zbp hm).2).1
      rw [← hW,hn,h0] at this; cases this
 ·cases e
  have hge:=(T.turns B).1 hB
  rw [← hW,Zoq] at hge
  obtain ⟨ps',hp'⟩:=Zop (os:=ofW W) (fun i=>bk ss S [] c (wAt W i).1 != bk ss S B c (wAt W i).1) (ofW W).length (xE _)
  rw [hlen] at hp' hmin
  have e2:(((List.range W.length).filter fun i=>bk ss S [] c (wAt W i).1 != bk ss S B c (wAt W i).1).map fun i=>((ofW W).getD i (0,0)).2)=((List.range W.length).filter fun i=>bk ss S [] c (wAt W i).1 != bk ss S B c (wAt W i).1).map fun i=>(wAt W i).2.2 :=
   zF fun i hi=>by rw [Zfi (yE.mp (yH.mp hi).1)]
  have hcc:=hmin _ _ _ hp' (by rw [e2]; exact hge)
  have e3:∀ l:List Nat,(∀ i∈l,i < W.length/\bk ss S B c (wAt W i).1≠bk ss S [] c (wAt W i).1)->((l.map fun i=>((ofW W).getD i (0,0)).1).sum)<=(((l.map fun i=>(inR ss c (wAt W i).1 B).length).sum:Nat):Int):=by
   intro l
   induction l with
   | nil=>intro _; exact Int.le_refl _
   | cons i l ih =>
    intro h
    obtain ⟨h1,h2⟩:=h i xI
    rw [xQ,xQ,yP,yP,Int.natCast_add,Zfi h1]
    have:=ih fun x hx=>h x (xN _ hx)
    have:=(way h1).least B h2
    simp only
    lia
  have e4:=e3 ((List.range W.length).filter fun i=>bk ss S [] c (wAt W i).1 != bk ss S B c (wAt W i).1) fun i hi=>by
   obtain ⟨h1,h2⟩:=yH.mp hi
   exact ⟨yE.mp h1,fun z=>by rw [z] at h2; simp at h2⟩
  have e5:=Zh0 (fun (i:Nat) (o:Zf)=>Reg ss c (wAt W i).1 o) ((List.range W.length).filter fun i=>bk ss S [] c (wAt W i).1 != bk ss S B c (wAt W i).1) B (List.nodup_range.sublist List.filter_sublist) fun a ha b hb x h1 h2 =>
   Ze4 nmW (yE.mp (yH.mp ha).1) (yE.mp (yH.mp hb).1) (Reg.apart T.L h1 h2)
  have e6:=yA e5 (Zz8 _ B)
  have e7:(((List.range W.length).filter fun i=>bk ss S [] c (wAt W i).1 != bk ss S B c (wAt W i).1).map fun i=>(inR ss c (wAt W i).1 B).length).sum<=B.length:=e6
  lia
 ·cases e
  obtain ⟨p,h1,h2⟩:=(memR o).mp ho
  exact ((way (inp h1)).reg o h2).sub
 ·cases e
  refine hR.symm.nodup ?_
  unfold Vd
  refine Zdb (fun p hp=>(way (inp hp)).nd) (yS (R:=fun a b:Int=>a < b) ?_ ff.up)
  intro a b ha hb hab x h1 h2
  have h3:=Reg.apart T.L ((way (inp ha)).reg x h1) ((way (inp hb)).reg x h2)
  have h4:=Ze4 nmW (inp ha) (inp hb) h3
  have l1:=ff.lo a ha
  have l2:=ff.lo b hb
  lia
end
section
variable {P:Program}{w:World}{K:uFg}{mg:Str->Option Value}{base:Heap}
def RepO (H:Hp):Ofs->List V->Prop
 | [],vs=>vs = []
 | p::r,vs=>∃ a vs',vs = .ref a::vs'/\H a=some (.tup [.int p.1,.int p.2])/\RepO H r vs'
theorem RepO.mono {H H':Hp}(k:∀ b xs,H b=some (.tup xs)->H' b=some (.tup xs)):∀ {os:Ofs}{vs:List V},RepO H os vs->RepO H' os vs
 | [],_,h=>h
 | _::_,_,⟨a,vs',e,h1,h2⟩=>⟨a,vs',e,k _ _ h1,RepO.mono k h2⟩
theorem RepO.len {H:Hp}:∀ {os:Ofs}{vs:List V},RepO H os vs->vs.length=os.length
 | [],_,h=>by cases h; rfl
 | _::_,_,⟨a,vs',e,h1,h2⟩=>by subst e; rw [xS,xS,h2.len]
theorem RepO.get {H:Hp}:∀ {os:Ofs}{vs:List V}{i:Nat}{v:V},RepO H os vs->vs[i]? = some v->∃ p a,os[i]? = some p/\v = .ref a/\H a=some (.tup [.int p.1,.int p.2])
 | [],vs,i,v,h,e=>by cases h; simp at e
 | p::os,vs,i,v,⟨a,vs',e1,h1,h2⟩,e=>by
  subst e1
  cases i with
  | zero=>simp at e; subst e; exact ⟨p,a,rfl,rfl,h1⟩
  | succ i=>simp at e; exact RepO.get (i:=i) h2 e
theorem RepO.app {H:Hp}:∀ {os ts:Ofs}{vs us:List V},RepO H os vs->RepO H ts us->RepO H (os++ts) (vs++us)
 | [],ts,vs,us,h,k=>by cases h; exact k
 | q::os,ts,vs,us,⟨b,vs',e,h1,h2⟩,k=>by subst e; exact ⟨b,vs'++us,rfl,h1,RepO.app h2 k⟩
theorem Zu2 {l:Addr}{H H':Hp}{zs:List V}(sx:SameX l H H') (h:H l=some (.lst zs)):∀ b xs,H b=some (.tup xs)->H' b=some (.tup xs):=fun b xs e=>sx _ _ (fun z=>by rw [z,h] at e; cases e) e
def tri (x:Ch):Tri:=(x.c,x.l,x.ps)
def Zs (cs:List Ch):List V:=cs.map fun p=>V.ref p.a
theorem Ux {H H':Hp}{x:Ch}(h:Wb H x) (s:∀ b xs,H b=some (.tup xs)->H' b=some (.tup xs)):Wb H' x:=⟨s _ _ h.1,s _ _ h.2⟩
theorem Znr {cs:List Ch}{i:Nat}{v:V}(h:(Zs cs)[i]? = some v):∃ x,cs[i]? = some x/\v = .ref x.a:=by
 unfold Zs at h
 rw [xR] at h
 cases e:cs[i]? with
 | none=>rw [e] at h; cases h
 | some x=>rw [e] at h; cases h; exact ⟨x,rfl,rfl⟩
def Zrg:Sp:=fun vs H Q _=>∃ (a o:Addr) (cs:List Ch) (k:Nat) (of:Int×Int),vs = [.ref a,.int k,.ref o]/\H a=some (.lst (Zs cs))/\(∀ x∈cs,Wb H x)/\H o=some (.tup [.int of.1,.int of.2])/\cs.length<=450000/\(∀ x∈cs,x.ps.length<=1000) /\
 ∀ (l:Addr) (ds:List Ch) (H':Hp),H l=none->H' l=some (.lst (Zs ds))->(∀ x∈ds,Wb H' x)->ds.map tri=(cs.map tri).map (Zbc of k)->Same H H'->Q (.ref l) H'
abbrev Zb8:Stmt:=top 28
theorem Z67:FnScope ["choices", "place", "offer"] ["choices", "place", "offer"] (Za Zb8):=⟨rfl,rfl,rfl,by decide +kernel,rfl,by decide +kernel,by decide +kernel⟩
theorem Z68:Nm (Za Zb8) "choices" .local:=by decide +kernel
theorem Z69:Nm (Za Zb8) "offer" .cell:=by decide +kernel
theorem Z7a:Nm (Za Zb8) "place" .cell:=by decide +kernel
theorem Z7b (Zj4:Has K mg "with_offer" Zb8) (T:Txt mg):Fn P w K mg base "with_offer" ["choices", "place", "offer"] 1 Zrg:=by
 refine Zj4.fnQ Z67 (fun _ _ _ _ _ _ us hl=>match us,hl with | [_,_,_],_=>rfl) (fun vs H Q E h=>?_) (fun f cdv A outer s H vs Q E hr h=>?_)
 ·obtain ⟨a,o,cs,k,of,rfl,_⟩:=h
  rfl
 ·obtain ⟨a,o,cs,k,of,rfl,ha,hc,ho,hn,hps,q⟩:=h
  refine ⟨_,(Zg (Zo (Wr (locs:=["cost", "lack", "places"]) (fr:=[("place", 1),("offer", 2)]) ⟨rfl,by decide +kernel,by decide +kernel,by decide +kernel,by decide +kernel,by decide +kernel⟩ (.consN Z7a (.consN Z69 .nil)) rfl (Yp (qvN 0 Z68)) ⟨fun _ _ _ _ _ _=>by
  have cnd:(inN ["cost", "lack", "places"] [("place", 1),("offer", 2)]).Nodup:=by decide +kernel
  exact ⟨(Vh 3 (by rfl) (Z2 (Z8 0 cnd) (Z2 (Z8 1 cnd) (Z2 (Z8 2 cnd) Wc)))),Vg,(Y8 (Zb (Zn Yr (Yj 0) (Zi Zc3 (Y4 4) Zd (fun _ _=>rfl))) (Zb (Z6 (Zms (by rfl)) nmC T.max Zr2 (Zb (Zn V7 (Yj 1) (Zi Zc3 (Y4 4) Zd (fun _ _=>rfl))) (Zb Zd Zc))) (Zb (Zn Zx9 (Yj 2) (Y8 (Zb (Y4 3) Zc))) Zc))))⟩⟩))),?_⟩
  have hz:(900000:Nat)<=sizeLine:=by decide
  have hrl:(Zs cs).length=cs.length:=by unfold Zs; rw [xA]
  refine ⟨_,rfl,a,rfl,⟨_,SqL.of ha⟩,?_⟩
  refine Vv (xs:=Zs cs) (fun i ys H'=>Same H H'/\∃ ds:List Ch,ys=Zs ds/\(∀ x∈ds,Wb H' x)/\ds.map tri=((cs.take i).map tri).map (Zbc of k)) ⟨Same.refl _,[],rfl,(fun x hx=>nomatch hx),rfl⟩ (by lia) (fun i ys H' _ ⟨sm,_⟩=>SqL.of (sm _ _ ha)) ?_ ?_ ?_
  ·rintro i ys H' ⟨_,ds,rfl,_,e⟩
   have:ds.length=((cs.take i).map tri).length:=by have:=congrArg List.length e; rwa [xA,xA] at this
   rw [xA,xY] at this
   unfold Zs
   rw [xA]; lia
  ·rintro i x ys H' hx ⟨sm,ds,rfl,hd,e⟩ ls hls
   obtain ⟨u,v,z,rfl⟩:=Ybh hls
   obtain ⟨y,hy,rfl⟩:=Znr hx
   have hyc:=hc y (xT hy)
   have hyl:=hps y (xT hy)
   have ya:=sm _ _ hyc.1
   have yp:=sm _ _ hyc.2
   have ho':=sm _ _ ho
   refine ⟨y.a,_,rfl,SqT.of ya,rfl,_,_,rfl,_,_,rfl,_,_,rfl,rfl,⟨[_,_,_],rfl,rfl⟩,Yb ?_⟩
   refine ⟨_,rfl,_,rfl,o,_,_,_,rfl,rfl,SqT.of ho',rfl,_,_,rfl,rfl,?_⟩
   refine ⟨_,rfl,_,rfl,o,_,_,_,rfl,rfl,SqT.of ho',rfl,_,_,rfl,rfl,_,_,rfl,?_⟩
   have fin:∀ (p:Addr) (H2:Hp),Same H' H2->H2 p=some (.tup ((y.ps ++ [(k:Int)]).map V.int))->∀ (z:Addr),H2 z=none->∀ m:Int,m=max (y.l - of.2) 0 ->
     Same H (upd H2 z (.tup [.int (y.c+of.1),.int m,.ref p]))/\∃ ds':List Ch,Zs ds ++ [.ref z]=Zs ds'/\(∀ x∈ds',Wb (upd H2 z (.tup [.int (y.c+of.1),.int m,.ref p])) x)/\ds'.map tri=((cs.take (i+1)).map tri).map (Zbc of k):=by
    intro p H2 s2 hp z hz' m hm
    have S:=s2.trans (Same.new (o:=.tup [.int (y.c+of.1),.int m,.ref p]) hz')
    refine ⟨sm.trans S,ds ++ [⟨z,y.c+of.1,m,p,y.ps ++ [(k:Int)]⟩],by unfold Zs; rw [xP]; rfl,fun x hx=>?_,?_⟩
    ·rcases xO.mp hx with hx | hx
     ·exact Ux (hd x hx) fun b xs e=>S _ _ e
     ·rw [xF] at hx; subst hx
      exact ⟨upd_same,(Zh (fun e:p=z=>by rw [e,hz'] at hp; cases hp)).trans hp⟩
    ·rw [xP,e,yB,hy,xP,xP,hm]
     rfl
   have mx:∀ a b:Int,(if b > a then b else a)=max a b:=fun a b=>by split <;> lia
   refine ⟨_,rfl,_,rfl,by show 1<=sizeLine; lia,fun p1 hp1=>?_⟩
   have S1:=Same.new (o:=.tup [.int k]) hp1
   refine ⟨y.pa,p1,_,_,rfl,rfl,SqT.of (S1 _ _ yp),SqT.of upd_same,by rw [xA]; show y.ps.length+1<=sizeLine; lia,fun e0=>?_,fun _ e0=>(nomatch e0),fun e0 _ p2 hp2=>?_⟩
   ·refine ⟨by show 3<=sizeLine; lia,fun z hz'=>?_⟩
    have e1:y.ps = []:=List.map_eq_nil_iff.mp e0
    exact fin p1 _ S1 (by rw [e1]; exact upd_same) z hz' _ (mx _ _)
   ·refine ⟨by show 3<=sizeLine; lia,fun z hz'=>?_⟩
    exact fin p2 _ (S1.trans (Same.new hp2)) (by rw [upd_same,xP]; rfl) z hz' _ (mx _ _)
  ·rintro ys H' ⟨sm,ds,rfl,hd,e⟩ l hl
   rw [hrl,yL] at e
   have S:=Same.new (o:=.lst (Zs ds)) hl
   exact q l ds _ (sm.free hl) upd_same (fun x hx=>Ux (hd x hx) fun b xs e=>S _ _ e) e (sm.trans S)
end
section
variable {P:Program}{w:World}{K:uFg}{mg:Str->Option Value}{base:Heap}
def Zp0:Sp:=fun vs H Q _=>∃ (a:Addr) (cs:List Ch) (hope:Int),vs = [.ref a,.int hope]/\H a=some (.lst (Zs cs))/\(∀ x∈cs,Wb H x)/\cs.length<=63 /\
 ∀ (l:Addr) (ds:List Ch) (H':Hp),H l=none->H' l=some (.lst (Zs ds))->(∀ x∈ds,Wb H' x)->Wor hope (cs.map tri) (ds.map tri)->Same H H'->Q (.ref l) H'
theorem Zta {x y:Ch}(h:lxI y.ks x.ks=false):x.c<=y.c/\(x.c=y.c->x.l<=y.l):=by
 unfold Ch.ks at h
 rw [lxI,lxI] at h
 by_cases e:y.c=x.c
 ·rw [if_pos e] at h
  refine ⟨by lia,fun _=>?_⟩
  by_cases e2:y.l=x.l
  ·lia
  ·rw [if_neg e2] at h
   have:=of_decide_eq_false h
   lia
 ·rw [if_neg e] at h
  have:=of_decide_eq_false h
  exact ⟨by lia,fun z=>by lia⟩
structure Wk (hp:Int) (ms ds:List Ch) (i:Nat):Prop where
 sub:∀ x∈ds,x∈ms.take i
 hope:∀ x∈ds,x.l<=hp
 best:∀ x∈ms.take i,x.l<=hp->∃ y∈ds,y.c<=x.c/\y.l<=x.l
 ord:ds.Pairwise fun x y=>x.c < y.c/\y.l < x.l
theorem Zme {α:Type}{l:List α}{i:Nat}{a x : α}(h:l[i]? = some a) (hx:x∈l.take (i+1)):x∈l.take i\/x=a:=by
 rw [yB,h] at hx
 rcases xO.mp hx with hx | hx
 ·exact .inl hx
 ·exact .inr (by simpa using hx)
theorem Z0a {α:Type}{l:List α}{i:Nat}{a : α}(h:l[i]? = some a):a∈l.take (i+1):=by
 rw [yB,h]; simp
theorem Zmf {α:Type}{l:List α}{i:Nat}{x : α}(hx:x∈l.take i):x∈l.take (i+1):=by
 rw [yB]; exact yF _ hx
theorem Zor {α:Type}{R : α->α->Prop}{l:List α}(h:l.Pairwise R) {i:Nat}{a : α}(e:l[i]? = some a):∀ x∈l.take i,R x a:=fun x hx=>by
 obtain ⟨j,hj⟩:=List.getElem?_of_mem hx
 obtain ⟨h1,e1⟩:=xC.mp hj
 obtain ⟨h2,e2⟩:=xC.mp e
 rw [xY] at h1
 rw [List.getElem_take] at e1
 have:=zE.mp h j i (by lia) h2 (by lia)
 rwa [e1,e2] at this
theorem Wk.no {hope:Int}{ms ds:List Ch}{i:Nat}{a:Ch}(W:Wk hope ms ds i) (h:ms[i]? = some a) (k:a.l<=hope->∃ y∈ds,y.c<=a.c/\y.l<=a.l):Wk hope ms ds (i+1) :=
 ⟨fun x hx=>Zmf (W.sub x hx),W.hope,fun x hx hl=>(Zme h hx).elim (fun q=>W.best x q hl) fun q=>by subst q; exact k hl,W.ord⟩
theorem Wk.yes {hope:Int}{ms ds:List Ch}{i:Nat}{a:Ch}(W:Wk hope ms ds i) (hs:ms.Pairwise fun p q=>lxI q.ks p.ks=false) (h:ms[i]? = some a) (hl:a.l<=hope) (k:∀ x∈ds,a.l < x.l):Wk hope ms (ds ++ [a]) (i+1) where
 sub:=fun x hx=>(xO.mp hx).elim (fun q=>Zmf (W.sub x q)) fun q=>by rw [xF] at q; subst q; exact Z0a h
 hope:=fun x hx=>(xO.mp hx).elim (fun q=>W.hope x q) fun q=>by rw [xF] at q; subst q; exact hl
 best:=fun x hx hl=>(Zme h hx).elim (fun q=>by obtain ⟨y,y1,y2⟩:=W.best x q hl; exact ⟨y,yF _ y1,y2⟩) fun q=>⟨a,by simp,by subst q; exact ⟨Int.le_refl _,Int.le_refl _⟩⟩
 ord:=by
  refine List.pairwise_append.mpr ⟨W.ord,by simp,fun x hx y hy=>?_⟩
  rw [xF] at hy; subst hy
  have:=k x hx
  have hr:=Zor hs h x (W.sub x hx)
  have:=Zta hr
  exact ⟨by lia,by lia⟩
theorem Zw3 {ds:List Ch}{z:Ch}(h:ds.Pairwise fun x y=>x.c < y.c/\y.l < x.l) (e:ds[ds.length - 1]? = some z):∀ x∈ds,z.l<=x.l:=fun x hx=>by
 obtain ⟨i,hi⟩:=List.getElem?_of_mem hx
 obtain ⟨h1,e1⟩:=xC.mp hi
 obtain ⟨h2,e2⟩:=xC.mp e
 by_cases q:i=ds.length - 1
 ·subst q; rw [← e1,← e2]; exact Int.le_refl _
 ·have:=(zE.mp h i (ds.length - 1) h1 h2 (by lia)).2
  rw [e1,e2] at this
  lia
abbrev Zat:Stmt:=top 29
theorem Zj5:FnScope ["choices", "hope", "kept", "choice"] ["choices", "hope"] (Za Zat):=⟨rfl,rfl,rfl,by decide +kernel,rfl,by decide +kernel,by decide +kernel⟩
theorem Zgl:Nm (Za Zat) "choice" .local:=by decide +kernel
theorem Z7c:Nm (Za Zat) "choices" .local:=by decide +kernel
theorem Z7d:Nm (Za Zat) "hope" .local:=by decide +kernel
theorem Zd7:Nm (Za Zat) "kept" .local:=by decide +kernel
theorem Z7e:Nm (Za Zat) "sorted" .globalImplicit:=by decide +kernel
theorem Z7f (Zj6:Has K mg "worthwhile" Zat) (T:Txt mg):Fn P w K mg base "worthwhile" ["choices", "hope"] 1 Zp0:=by
 refine Zj6.fnQ Zj5 (fun _ _ _ _ _ _ us hl=>match us,hl with | [_,_],_=>rfl) (fun vs H Q E h=>?_) (fun f cdv A outer s H vs Q E hr h=>?_)
 ·obtain ⟨a,cs,hope,rfl,_⟩:=h
  rfl
 ·obtain ⟨a,cs,hope,rfl,ha,hc,hn,q⟩:=h
  refine ⟨_,(Ze (Zl (i:=2) Zj5.nd Zd7 (Yq Zc))
 (Ze (Y7 PassesOwn.never rfl (Yp (Z6 (Zvk hr) Z7e T.sorted Zej (Zb (qvN 0 Z7c) Zc))) (Yo (i:=3) Zj5.nd Zgl)
 (Zg (Zy (QW.pt (Zfa (Zw Zdf (Zi Z3 (qvN 3 Zgl) Zd (fun _ _=>rfl)) (qvN 1 Z7d) (Z1 _)) (Zeq (QW.pt (Zr5 (Zde (Zoc (qvN 2 Zd7) (fun _=>rfl))) (Zqk (Zw Uu (Zi Z3 (qvN 3 Zgl) Zd (fun _ _=>rfl)) (Zi Z3 (Zi Zz (qvN 2 Zd7) (Zdk Zc8 Zd) (fun _ _=>rfl)) Zd (fun _ _=>rfl)) (Z1 _)))))))) (Zg (Yl (Ww F.plainAttrs_list F.slot_list_append F.type_list_append Ug (qvN 2 Zd7) (Zb (qvN 3 Zgl) Zc)))) Z0)))
 (Zg (Zo (qvN 2 Zd7))))),?_⟩
  have hz:(900000:Nat)<=sizeLine:=by decide
  refine ⟨by show 0<=sizeLine; lia,fun l hl=>?_⟩
  have S1:=Same.new (o:=.lst []) hl
  have k1:(upd H l (.lst [])) l=some (.lst []):=upd_same
  have a1:=S1 _ _ ha
  have c1:∀ x∈cs,Wb (upd H l (.lst [])) x:=fun x hx=>Ux (hc x hx) fun b xs e=>S1 _ _ e
  generalize (upd H l (.lst []))=H1 at S1 k1 a1 c1 ⊢
  refine Zt ?_
  dsimp only
  refine ⟨_,rfl,a,cs,rfl,SqL.of a1,by lia,c1,fun l2 ms hl2 pm pw=>?_⟩
  have S2:=Same.new (o:=.lst (Zs ms)) hl2
  have k2:(upd H1 l2 (.lst (Zs ms))) l2=some (.lst (Zs ms)):=upd_same
  have l12:l2≠l:=fun z=>by rw [z,k1] at hl2; cases hl2
  have c2:∀ x∈ms,Wb (upd H1 l2 (.lst (Zs ms))) x:=fun x hx=>Ux (c1 x (pm.mem_iff.mp hx)) fun b xs e=>S2 _ _ e
  have k12:=S2 _ _ k1
  change ∃ p,_=_/\_
  refine ⟨l2,rfl,⟨_,SqL.of upd_same⟩,?_⟩
  change Zae _ _ _ _ _ (upd H1 l2 (.lst (Zs ms)))
  have S12:=S1.trans S2
  generalize (upd H1 l2 (.lst (Zs ms)))=H2 at S2 S12 k2 c2 k12 ⊢
  have keep:∀ {H':Hp},SameX l H2 H'->Same H H':=fun {H'} sx b o e=>sx b o (Z5 e hl) (S12 _ _ e)
  have hrl:(Zs ms).length=ms.length:=by unfold Zs; rw [xA]
  have hml:ms.length<=63:=by rw [pm.length_eq]; exact hn
  refine Uh (Zs ms) (fun i σ H'=>∃ (v3:Option V) (ds:List Ch),σ = [some (.ref a),some (.int hope),some (.ref l),v3]/\H' l=some (.lst (Zs ds))/\SameX l H2 H'/\Wk hope ms ds i/\ds.length<=i)
   ⟨none,[],rfl,k12,SameX.refl,⟨(fun x hx=>nomatch hx),(fun x hx=>nomatch hx),(fun x hx=>nomatch hx),List.Pairwise.nil⟩,xE _⟩ (fun i σ H' _ ⟨_,_,_,_,sx,_⟩=>SqL.of (sx _ _ l12 k2)) ?_ ?_
  ·rintro i x σ H' hx ⟨v3,ds,rfl,hl',sx,W,hdl⟩
   obtain ⟨y,hy,rfl⟩:=Znr hx
   have hi:=(xC.mp hy).1
   have tr:∀ x∈ms,Wb H' x:=fun x hx=>Ux (c2 x hx) (Zu2 sx k12)
   have ty:=tr y (xT hy)
   refine ⟨_,rfl,y.a,_,_,_,rfl,rfl,SqT.of ty.1,rfl,_,rfl,_,_,rfl,rfl,_,rfl,Yc (fun b1=>?_) (fun b1=>?_)⟩
   ·have fin:(∀ x∈ds,y.l < x.l)->∃ (v3:Option V) (ds':List Ch),[some (V.ref a),some (.int hope),some (.ref l),some (.ref y.a)] = [some (.ref a),some (.int hope),some (.ref l),v3]/\(upd H' l (.lst (Zs ds ++ [.ref y.a]))) l=some (.lst (Zs ds'))/\SameX l H2 (upd H' l (.lst (Zs ds ++ [.ref y.a])))/\Wk hope ms ds' (i+1)/\ds'.length<=i+1:=fun k =>
     ⟨_,ds ++ [y],rfl,by rw [upd_same]; unfold Zs; rw [xP]; rfl,sx.trans SameX.upd,W.yes pw hy b1 k,by rw [xL]; simp; lia⟩
    refine ⟨_,rfl,_,.inl ⟨_,SqL.of hl',rfl⟩,?_⟩
    cases hds:ds with
    | nil =>
     subst hds
     refine Yb (Yb ?_)
     refine ⟨_,rfl,.inl ⟨rfl,_,SqL.of hl'⟩,_,rfl,l,_,.ref y.a,rfl,rfl,hl',by show 0 < sizeLine; lia,?_⟩
     exact fin fun x hx=>nomatch hx
    | cons d0 dr =>
     have hpos : 0 < ds.length:=by rw [hds]; simp
     have hne:(!!(Zs ds).isEmpty)=false:=by rw [hds]; rfl
     obtain ⟨z,hz1⟩:∃ z,ds[ds.length - 1]? = some z:=⟨_,xB (by lia)⟩
     have hzm:=xT hz1
     have tz:=tr z (yR (W.sub z hzm))
     have hat:atI (Zs ds) (-1)=some (.ref z.a):=by
      have hlen:(Zs ds).length=ds.length:=by unfold Zs; rw [xA]
      unfold atI ixN
      rw [if_neg (by lia),if_pos (by lia),hlen]
      show (Zs ds)[(-1+(ds.length:Int)).toNat]? = _
      rw [show (-1+(ds.length:Int)).toNat=ds.length - 1 by lia]
      unfold Zs
      rw [xR,hz1]
      rfl
     rw [← hds,hne]
     refine Yt ?_
     refine ⟨_,rfl,y.a,_,_,_,rfl,rfl,SqT.of ty.1,rfl,_,rfl,_,rfl,l,_,_,_,rfl,rfl,SqL.of hl',hat,z.a,_,_,_,rfl,rfl,SqT.of tz.1,rfl,_,_,rfl,rfl,_,rfl,Yc (fun b2=>?_) (fun b2=>?_)⟩
     ·refine ⟨_,rfl,.inl ⟨rfl,_,SqL.of hl'⟩,_,rfl,l,_,.ref y.a,rfl,rfl,hl',by show (Zs ds).length < sizeLine; unfold Zs; rw [xA]; lia,?_⟩
      exact fin fun x hx=>by have:=Zw3 W.ord hz1 x hx; lia
     ·refine ⟨_,ds,rfl,hl',sx,W.no hy fun _=>⟨z,hzm,?_,by lia⟩,by lia⟩
      exact (Zta (Zor pw hy z (W.sub z hzm))).1
   ·exact ⟨_,ds,rfl,hl',sx,W.no hy fun z=>absurd z b1,by lia⟩
  ·rintro σ H' ⟨v3,ds,rfl,hl',sx,W,hdl⟩
   rw [hrl] at W
   refine ⟨_,rfl,q l ds H' hl hl' (fun x hx=>Ux (c2 x (yR (W.sub x hx))) (Zu2 sx k12)) ⟨fun x hx=>?_,fun x hx=>?_,fun x hx hl=>?_,?_⟩ (keep sx)⟩
   ·obtain ⟨y,hy,rfl⟩:=xV.mp hx
    exact List.mem_map_of_mem (pm.mem_iff.mp (yR (W.sub y hy)))
   ·obtain ⟨y,hy,rfl⟩:=xV.mp hx
    exact W.hope y hy
   ·obtain ⟨y,hy,rfl⟩:=xV.mp hx
    obtain ⟨z,z1,z2⟩:=W.best y (by rw [yL]; exact pm.mem_iff.mpr hy) hl
    exact ⟨tri z,List.mem_map_of_mem z1,z2⟩
   ·rw [List.pairwise_map]
    exact W.ord
end
section
variable {P:Program}{w:World}{K:uFg}{mg:Str->Option Value}{base:Heap}
def Zp1:Sp:=fun vs H Q _=>∃ (a:Addr) (us:List V) (os:Ofs) (goal:Int),vs = [.ref a,.int goal]/\H a=some (.lst us)/\RepO H os us/\OkO os /\
 (goal < 1->∀ (l:Addr) (H':Hp),H l=none->H' l=some (.lst [])->Same H H'->Q (.ref l) H') /\
 (1<=goal->Yz os < goal->∀ H',Same H H'->Q .non H') /\
 (1<=goal->goal<=Yz os->∀ (l:Addr) (H':Hp) (c g:Int) (ps:List Int),Pk os os.length c g ps->goal<=g->(∀ c' g' ps',Pk os os.length c' g' ps'->goal<=g'->c<=c')->H l=none->H' l=some (.lst (ps.map V.int))->Same H H'->Q (.ref l) H')
theorem Ybt {v:V}{r:List V}:atI (v::r) 0=some v:=by
 unfold atI ixN
 rw [if_pos (Int.le_refl _),if_pos (by rw [xS]; lia)]
 rfl
theorem Zw4 {H:Hp}{os:Ofs}{a:Addr}{vs:List V}{fv:St}{Q:VK}(ha:H a=some (.lst vs)) (hr:RepO H os vs) (hl:os.length<=1000)
  (hd:∀ l,H l=none->Q (.ref l) (upd H l (.lst ((os.map (·.2)).map V.int)))) :
  V5 (Itl K a) 2 fv (Zci K 2 (Zaa (Yv 0) (Zaa (Yv 1) Zdx))) (fun _ H Q=>Q true H) (Yu 1) Q H:=by
 have hlen:=hr.len
 have hz:(900000:Nat)<=sizeLine:=by decide
 refine Vv (xs:=vs) (fun i ys H'=>H'=H/\ys=((os.take i).map (·.2)).map V.int) ⟨rfl,rfl⟩ (by lia) (fun i ys H' _ ⟨e,_⟩=>by rw [e]; exact SqL.of ha) ?_ ?_ ?_
 ·rintro i ys H' ⟨_,rfl⟩
  rw [xA,xA,xY]; lia
 ·rintro i x ys H' hx ⟨rfl,rfl⟩ ls hls
  obtain ⟨u,v,rfl⟩:=Zbe hls
  obtain ⟨p,b,hp,rfl,hb⟩:=hr.get hx
  refine ⟨b,_,rfl,SqT.of hb,rfl,_,_,rfl,_,_,rfl,rfl,⟨[_,_],rfl,rfl⟩,Yb ?_⟩
  refine ⟨_,rfl,rfl,?_⟩
  rw [yB,hp,xP,xP]
  rfl
 ·rintro ys H' ⟨rfl,rfl⟩ l hl'
  rw [hlen,yL]
  exact hd l hl'
abbrev W0:Stmt:=top 27
theorem Zbd:FnScope ["offers", "goal", "hope", "choices", "place", "offer"] ["offers", "goal"] (Za W0):=⟨rfl,rfl,rfl,by decide +kernel,rfl,by decide +kernel,by decide +kernel⟩
theorem Zd8:Nm (Za W0) "choices" .local:=by decide +kernel
theorem Z7g:Nm (Za W0) "enumerate" .globalImplicit:=by decide +kernel
theorem Zlz:Nm (Za W0) "goal" .local:=by decide +kernel
theorem Zgm:Nm (Za W0) "hope" .local:=by decide +kernel
theorem Z7h:Nm (Za W0) "list" .globalImplicit:=by decide +kernel
theorem Zl0:Nm (Za W0) "offer" .local:=by decide +kernel
theorem Ztb:Nm (Za W0) "offers" .local:=by decide +kernel
theorem Ztc:Nm (Za W0) "place" .local:=by decide +kernel
theorem Z7i:Nm (Za W0) "sum" .globalImplicit:=by decide +kernel
theorem Z7j:Nm (Za W0) "with_offer" .globalImplicit:=by decide +kernel
theorem Z7k:Nm (Za W0) "worthwhile" .globalImplicit:=by decide +kernel
theorem Z7l (Zj7:Has K mg "cheapest" W0) (T:Txt mg) (Z7m:Fn P w K mg base "with_offer" ["choices", "place", "offer"] 1 Zrg) (Z7n:Fn P w K mg base "worthwhile" ["choices", "hope"] 1 Zp0):Fn P w K mg base "cheapest" ["offers", "goal"] 2 Zp1:=by
 refine Zj7.fnQ Zbd (fun _ _ _ _ _ _ us hl=>match us,hl with | [_,_],_=>rfl) (fun vs H Q E h=>?_) (fun f cdv A outer s H vs Q E hr h=>?_)
 ·obtain ⟨a,us,os,goal,rfl,_⟩:=h
  rfl
 ·obtain ⟨a,us,os,goal,rfl,ha,hro,ok,q1,q2,q3⟩:=h
  refine ⟨_,(Ze (Zy (Zw Uu (qvN 1 Zlz) Zd (Z1 _)) (Zg (Zo (Yq Zc))) Z0)
 (Ze (Zl (i:=2) Zbd.nd Zgm (Z6 (Zhg (by rfl)) Z7i T.sum Zi9 (Zb (Wr (locs:=["cost", "gain"]) (fr:=[]) ⟨rfl,by decide +kernel,by decide +kernel,by decide +kernel,by decide +kernel,by decide +kernel⟩ .nil rfl (Yp (qvN 0 Ztb)) ⟨fun _ _ _ _ _ _=>by
  have cnd:(inN ["cost", "gain"] []).Nodup:=by decide +kernel
  exact ⟨(Vh 2 (by rfl) (Z2 (Z8 0 cnd) (Z2 (Z8 1 cnd) Wc))),Vg,(Yj 1)⟩⟩) Zc)))
 (Ze (Zy (Zw Uu (qvN 2 Zgm) (qvN 1 Zlz) (Z1 _)) (Zg (Zo V6)) Z0)
 (Ze (Zl (i:=3) Zbd.nd Zd8 (Yq (Zb (Y8 (Zb Zd (Zb (qvN 1 Zlz) (Zb (Y8 Zc) Zc)))) Zc)))
 (Ze (Y7 PassesOwn.never rfl (Zpo Z7g.1 T.enumerate (Zb (qvN 0 Ztb) Zc)) (Zdd (by rfl) (Z2 (Yo (i:=4) Zbd.nd Ztc) (Z2 (Yo (i:=5) Zbd.nd Zl0) Wc)))
 (Ze (Zpf (i:=2) Zbd.nd Zgm (Zi Z3 (qvN 5 Zl0) Zd (fun _ _=>rfl)) Zpg)
 (Zg (Zl (i:=3) Zbd.nd Zd8 (Zj Z7n (hr.mono (by lia)) Z7k (Zb (Zn V8 (qvN 3 Zd8) (Zj Z7m (hr.mono (by lia)) Z7j (Zb (qvN 3 Zd8) (Zb (qvN 4 Ztc) (Zb (qvN 5 Zl0) Zc))))) (Zb (qvN 2 Zgm) Zc)))))))
 (Zg (Zo (Zhc Zg6 Z7h T.list Ziq (Zb (Zi Z3 (Zi Zz (qvN 3 Zd8) Zd (fun _ _=>rfl)) Zd (fun _ _=>rfl)) Zc))))))))),?_⟩
  have hz:(2000000:Nat)<=sizeLine:=by decide
  have hul:=hro.len
  have hlen:=ok.len
  refine ⟨_,rfl,_,_,rfl,rfl,_,rfl,Yc (fun b1=>?_) (fun b1=>?_)⟩
  ·exact ⟨by show 0<=sizeLine; lia,fun l hl=>q1 b1 l _ hl upd_same (Same.new hl)⟩
  have b1' : 1<=goal:=by lia
  refine ⟨_,rfl,a,rfl,⟨_,SqL.of ha⟩,?_⟩
  refine Zw4 ha hro ok.len fun l0 hl0=>?_
  refine ⟨l0,os.map (·.2),rfl,SqL.of upd_same,?_,by rw [xA]; lia,?_⟩
  ·intro n hn
   obtain ⟨o,ho,rfl⟩:=xV.mp hn
   have:=ok.pos o ho
   lia
  have S0:=Same.new (o:=.lst ((os.map (·.2)).map V.int)) hl0
  have a0:=S0 _ _ ha
  have r0:=hro.mono fun b xs e=>S0 _ _ e
  generalize (upd H l0 (.lst ((os.map (·.2)).map V.int)))=H0 at S0 a0 r0 ⊢
  refine Zt ?_
  dsimp only
  refine ⟨_,rfl,_,rfl,_,_,rfl,rfl,_,rfl,Yc (fun b2=>?_) (fun b2=>?_)⟩
  ·exact q2 b1' b2 H0 S0
  have b2':goal<=Yz os:=by unfold Yz; lia
  refine ⟨_,rfl,by show 0<=sizeLine; lia,fun p0 hp0=>⟨by show 3<=sizeLine; lia,fun p1 hp1=>⟨by show 1<=sizeLine; lia,fun l1 hl1=>?_⟩⟩⟩
  have S1:=(Same.new (o:=.tup []) hp0).trans ((Same.new (o:=.tup [.int 0,.int goal,.ref p0]) hp1).trans (Same.new (o:=.lst [.ref p1]) hl1))
  have k1:(upd (upd (upd H0 p0 (.tup [])) p1 (.tup [.int 0,.int goal,.ref p0])) l1 (.lst [.ref p1])) l1=some (.lst (Zs [⟨p1,0,goal,p0,[]⟩])):=upd_same
  have t1:∀ x ∈ [(⟨p1,0,goal,p0,[]⟩:Ch)],Wb (upd (upd (upd H0 p0 (.tup [])) p1 (.tup [.int 0,.int goal,.ref p0])) l1 (.lst [.ref p1])) x:=fun x hx=>by
   rw [xF] at hx; subst hx
   exact ⟨Same.new hl1 _ _ upd_same,Same.new hl1 _ _ (Same.new hp1 _ _ upd_same)⟩
  have c1:Cho os goal 0 ([(⟨p1,0,goal,p0,[]⟩:Ch)].map tri):=Cho.zero b1' b2'
  change Yv 3 (.ref l1) _ (upd (upd (upd H0 p0 (.tup [])) p1 (.tup [.int 0,.int goal,.ref p0])) l1 (.lst [.ref p1])) _
  have SH:=S0.trans S1
  generalize [(⟨p1,0,goal,p0,[]⟩:Ch)]=cs1 at k1 t1 c1
  generalize (upd (upd (upd H0 p0 (.tup [])) p1 (.tup [.int 0,.int goal,.ref p0])) l1 (.lst [.ref p1]))=H1 at S1 SH k1 t1 ⊢
  refine Zt ?_
  dsimp only
  refine ⟨_,rfl,a,us,rfl,SqL.of (SH _ _ ha),?_⟩
  refine Zx0 us (fun i σ H'=>∃ (v4 v5:Option V) (lc:Addr) (cs:List Ch),σ = [some (.ref a),some (.int goal),some (.int (Yz (os.drop i))),some (.ref lc),v4,v5]/\H' lc=some (.lst (Zs cs))/\(∀ x∈cs,Wb H' x)/\Cho os goal i (cs.map tri)/\Same H H')
   ⟨none,none,l1,cs1,rfl,k1,t1,c1,SH⟩ (fun i σ H' _ ⟨_,_,_,_,_,_,_,_,sm⟩=>SqL.of (sm _ _ ha)) ?_ ?_
  ·rintro i x p σ H' hx ⟨v4,v5,lc,cs,rfl,hlc,htr,C,sm⟩ hp
   obtain ⟨o,b,ho,rfl,hb⟩:=(hro.mono fun b xs e=>sm _ _ e).get hx
   have Sp:=Same.new (o:=.tup [.int i,.ref b]) hp
   have kp:(upd H' p (.tup [.int i,.ref b])) p=some (.tup [.int i,.ref b]):=upd_same
   generalize (upd H' p (.tup [.int i,.ref b]))=H2 at Sp kp ⊢
   have hb2:=Sp _ _ hb
   have hlc2:=Sp _ _ hlc
   have htr2:∀ x∈cs,Wb H2 x:=fun x hx=>Ux (htr x hx) fun b xs e=>Sp _ _ e
   have hmany:=C.many ok
   rw [xA] at hmany
   have hpl:∀ x∈cs,x.ps.length<=1000:=fun x hx=>by
    obtain ⟨g,hk,_⟩:=C.real (tri x) (List.mem_map_of_mem hx)
    have:=(hk.facts fun p hp=>(ok.pos p hp).1).n
    have hi:=(xC.mp ho).1
    show (tri x).2.2.length<=1000
    lia
   refine ⟨p,_,rfl,SqT.of kp,rfl,_,_,rfl,_,_,rfl,rfl,?_⟩
   dsimp only
   refine ⟨_,rfl,_,rfl,b,_,_,_,rfl,rfl,SqT.of hb2,rfl,_,_,rfl,rfl,?_⟩
   refine ⟨_,rfl,_,rfl,_,rfl,_,rfl,lc,b,cs,i,o,rfl,hlc2,htr2,hb2,by lia,hpl,fun l3 ds H3 hl3 h3 t3 e3 S3=>?_⟩
   have hdl:ds.length=cs.length:=by have:=congrArg List.length e3; rwa [xA,xA,xA] at this
   refine ⟨lc,l3,_,_,rfl,rfl,S3 _ _ hlc2,h3,by unfold Zs; rw [xA,xA]; lia,fun l4 hl4=>?_⟩
   have S4:=Same.new (o:=.lst (Zs cs++Zs ds)) hl4
   have k4:(upd H3 l4 (.lst (Zs cs++Zs ds))) l4=some (.lst (Zs (cs++ds))):=by rw [upd_same]; unfold Zs; rw [xP]
   have t4:∀ x∈cs++ds,Wb (upd H3 l4 (.lst (Zs cs++Zs ds))) x:=fun x hx=>(xO.mp hx).elim (fun z=>Ux (htr2 x z) fun b xs e=>S4 _ _ (S3 _ _ e)) fun z=>Ux (t3 x z) fun b xs e=>S4 _ _ e
   generalize (upd H3 l4 (.lst (Zs cs++Zs ds)))=H4 at S4 k4 t4 ⊢
   refine ⟨_,rfl,l4,cs++ds,_,rfl,k4,t4,by rw [xL]; lia,fun l5 es H5 hl5 h5 t5 W S5=>?_⟩
   have hg:=Zno ho
   have hhope:Yz (os.drop i) - o.2=Yz (os.drop (i+1)):=by lia
   change Wor (Yz (os.drop i) - o.2) _ _ at W
   rw [xP,e3,hhope] at W
   refine ⟨some (.int i),some (.ref b),l5,es,by rw [← hhope]; rfl,h5,t5,C.step (fun p hp=>⟨(ok.pos p hp).1,(ok.pos p hp).2.1⟩) ho W,sm.trans (Sp.trans (S3.trans (S4.trans S5)))⟩
  ·rintro σ H' ⟨v4,v5,lc,cs,rfl,hlc,htr,C,sm⟩
   rw [hul] at C
   obtain ⟨x,r,e⟩:=C.some_ b2'
   cases cs with
   | nil=>cases e
   | cons c0 cr =>
    obtain ⟨g,f1,f2,f3⟩:=C.fin
    have tc:=htr c0 xI
    refine ⟨_,rfl,lc,_,_,.ref c0.a,rfl,rfl,SqL.of hlc,Ybt,c0.a,_,_,.ref c0.pa,rfl,rfl,SqT.of tc.1,rfl,c0.pa,_,rfl,.inr (SqT.of tc.2),fun l hl=>?_⟩
    exact q3 b1' b2' l _ c0.c g c0.ps f1 f2 f3 (sm.free hl) upd_same (sm.trans (Same.new hl))
end
section
def SS (ss:List Suit) (B:List Zf) (c:Nat):Bool:=(Zr B 0 ss).1.getD c false
theorem Zos (br:Int->Str->Bool) (c:Int) (t:Suit):Wg br c t=mgn (br c) t:=rfl
theorem nam_iff {ss:List Suit}{j:Nat}{o:Zf}:nam ss j=some o↔∃ t,ss[j]? = some t/\t.named=some o:=by
 unfold nam
 constructor
 ·intro h
  obtain ⟨t,h1,h2⟩:=Option.bind_eq_some_iff.mp h
  exact ⟨t,h1,h2⟩
 ·rintro ⟨t,h1,h2⟩
  exact Option.bind_eq_some_iff.mpr ⟨t,h1,h2⟩
theorem SS_true {ss:List Suit}{B:List Zf}{j:Nat}:SS ss B j=true↔(Zr B 0 ss).1[j]? = some true:=by
 unfold SS
 rw [xD]
 cases (Zr B 0 ss).1[j]? with
 | none=>simp
 | some b=>simp
theorem Zi2 {ss:List Suit}(hL:Line ss) {j:Nat}{o:Zf}(h:nam ss j=some o) : 0<=o.1/\o.1.toNat < j/\j < ss.length:=by
 obtain ⟨t,h1,h2⟩:=nam_iff.mp h
 obtain ⟨a,t',wt,b,_⟩:=hL.back j t h1 o.1 o.2 h2
 have:=(xC.mp b).1
 rw [xY] at this
 exact ⟨a,by lia,(xC.mp h1).1⟩
theorem Zbz {ss:List Suit}(hL:Line ss):Stl ss (SS ss) where
 fix:=fun B c t ht=>by
  obtain ⟨br,h1,h2⟩:=Zye B ht
  have e:br c=bk ss (SS ss) B c:=by
   funext n
   apply yW.mpr
   rw [h1]
   unfold bk
   rw [Bool.or_eq_true,yK,List.any_eq_true]
   constructor
   ·rintro (h | ⟨j,u,a0,a1,a2,a3⟩)
    ·exact .inl h
    ·refine .inr ⟨j,yE.mpr (xC.mp a1).1,?_⟩
     rw [SS_true.mpr a2,xH (nam_iff.mpr ⟨u,a1,a3⟩)]; rfl
   ·rintro (h | ⟨j,_,e⟩)
    ·exact .inl h
    ·rw [yI] at e
     have e2:=yD e.2
     obtain ⟨u,a1,a3⟩:=nam_iff.mp e2
     have hl:=Zi2 hL e2
     simp only [xZ] at hl
     exact .inr ⟨j,u,hl.2.1,a1,SS_true.mp e.1,a3⟩
  have e3:SS ss B c=decide (0<=Wg br c t):=by unfold SS; rw [xD,h2]; rfl
  rw [e3,Zos,e]
 low:=fun j o h=>Zi2 hL h
theorem brk9_mem {ss:List Suit}{c:Nat}{n:Str}{j:Nat}:j∈Zv ss (c:Int) n↔nam ss j=some ((c:Int),n)/\SS ss [] j=true:=by
 unfold Zv Yd
 rw [yH,stL_mem,nmd_iff,nam_iff,SS_true]
 exact ⟨fun ⟨a,b⟩=>⟨b,a⟩,fun ⟨a,b⟩=>⟨b,a⟩⟩
theorem Zil {ss:List Suit}{c:Int}{n:Str}:(Zv ss c n).Nodup:=by
 unfold Zv Yd stL stT
 exact (List.nodup_range.sublist List.filter_sublist).sublist List.filter_sublist
theorem Zim {ss:List Suit}(hL:Line ss) {c:Nat}{n:Str}:bk ss (SS ss) [] c n=true↔Zv ss (c:Int) n ≠ []:=by
 rw [Uw (Zbz hL)]
 constructor
 ·rintro (h | ⟨j,h1,h2⟩)
  ·cases h
  ·exact List.ne_nil_of_mem (brk9_mem.mpr ⟨h1,h2⟩)
 ·intro h
  obtain ⟨j,hj⟩:=List.exists_mem_of_ne_nil _ h
  exact .inr ⟨j,brk9_mem.mp hj⟩
theorem Z3s {H:Hp}{g:Addr}{ss:List Suit}(hL:Line ss) {kvs:Vj}(h1:H g=some (.dT kvs)) (h2:∀ c n,(Zm kvs (Zq c n)=none/\Yd ss c n (stL (Z4 ss)) = [])\/∃ a,Zm kvs (Zq c n)=some (.ref a)/\H a=some (.lst (Zp (Yd ss c n (stL (Z4 ss)))))) (h3:∀ p∈kvs,∃ c n,p.1=Zq c n/\Yd ss c n (stL (Z4 ss)) ≠ []) (c:Nat) (n:Str):brk kvs c n=bk ss (SS ss) [] c n:=by
 apply yW.mpr
 rw [Zim hL]
 unfold brk Zv
 rcases h2 (c:Int) n with ⟨e1,e2⟩ | ⟨a,e1,e2⟩
 ·rw [e1,e2]; simp
 ·rw [e1]
  constructor
  ·intro _ z
   have hk:Zq (c:Int) n∈kvs.map (·.1):=Zh6 e1
   obtain ⟨p,hp,ep⟩:=xV.mp hk
   obtain ⟨c',n',e3,e4⟩:=h3 p hp
   have:=Zc4 (e3.symm.trans ep)
   cases this
   exact e4 z
  ·intro _; rfl
end
section
variable {P:Program}{w:World}{K:uFg}{mg:Str->Option Value}{base:Heap}
def RowAt (H:Hp) (R:List Zf) (l:Addr):Prop:=∃ vs,H l=some (.lst vs)/\RepL H (R.map onD) vs
theorem RowAt.mono {H H':Hp}{R:List Zf}{l:Addr}(h:RowAt H R l) (k:Same H H'):RowAt H' R l:=let ⟨vs,a,b⟩:=h; ⟨vs,k _ _ a,b.mono' k⟩
def RowsAt (H:Hp):List (List Zf)->List V->Prop
 | [],vs=>vs = []
 | R::Rs,vs=>∃ l vs',vs = .ref l::vs'/\RowAt H R l/\RowsAt H Rs vs'
theorem RowsAt.mono {H H':Hp}(k:Same H H'):∀ {Rs:List (List Zf)}{vs:List V},RowsAt H Rs vs->RowsAt H' Rs vs
 | [],_,h=>h
 | _::_,_,⟨l,vs',e,h1,h2⟩=>⟨l,vs',e,h1.mono k,RowsAt.mono k h2⟩
theorem RowsAt.len {H:Hp}:∀ {Rs:List (List Zf)}{vs:List V},RowsAt H Rs vs->vs.length=Rs.length
 | [],_,h=>by cases h; rfl
 | _::_,_,⟨l,vs',e,h1,h2⟩=>by subst e; rw [xS,xS,h2.len]
theorem RowsAt.get {H:Hp}:∀ {Rs:List (List Zf)}{vs:List V}{i:Nat}{v:V},RowsAt H Rs vs->vs[i]? = some v->∃ R l,Rs[i]? = some R/\v = .ref l/\RowAt H R l
 | [],vs,i,v,h,e=>by cases h; simp at e
 | R::Rs,vs,i,v,⟨l,vs',e1,h1,h2⟩,e=>by
  subst e1
  cases i with
  | zero=>simp at e; subst e; exact ⟨R,l,rfl,rfl,h1⟩
  | succ i=>simp at e; exact RowsAt.get (i:=i) h2 e
theorem RowsAt.snoc {H:Hp}{R:List Zf}{l:Addr}(hp:RowAt H R l):∀ {Rs:List (List Zf)}{vs:List V},RowsAt H Rs vs->RowsAt H (Rs ++ [R]) (vs ++ [.ref l])
 | [],vs,h=>by cases h; exact ⟨l,[],rfl,hp,rfl⟩
 | q::Rs,vs,⟨b,vs',e,h1,h2⟩=>by subst e; exact ⟨b,vs' ++ [.ref l],rfl,h1,RowsAt.snoc hp h2⟩
theorem Zot {H:Hp}:∀ {as bs:List D}{vs us:List V},RepL H as vs->RepL H bs us->RepL H (as++bs) (vs++us)
 | [],bs,vs,us,h,k=>by cases h; exact k
 | a::as,bs,vs,us,⟨v,vs',e,h1,h2⟩,k=>by subst e; exact ⟨v,vs'++us,rfl,h1,Zot h2 k⟩
def Zh1:Sp:=fun vs H Q _=>∃ (a:Addr) (ws:List V) (Rs:List (List Zf)),vs = [.ref a]/\H a=some (.lst ws)/\RowsAt H Rs ws/\Rs.flatten.length<=1000000/\∀ (l:Addr) (H':Hp),H l=none->RowAt H' Rs.flatten l->Same H H'->Q (.ref l) H'
abbrev Zb9:Stmt:=top 44
theorem Zj8:FnScope ["rows", "oaths", "row"] ["rows"] (Za Zb9):=⟨rfl,rfl,rfl,by decide +kernel,rfl,by decide +kernel,by decide +kernel⟩
theorem Zl1:Nm (Za Zb9) "oaths" .local:=by decide +kernel
theorem Ztd:Nm (Za Zb9) "row" .local:=by decide +kernel
theorem Z7o:Nm (Za Zb9) "rows" .local:=by decide +kernel
theorem Z7p (Zj9:Has K mg "joined" Zb9) (T:Txt mg):Fn P w K mg base "joined" ["rows"] 1 Zh1:=by
 refine Zj9.fnQ Zj8 (fun _ _ _ _ _ _ us hl=>match us,hl with | [_],_=>rfl) (fun vs H Q E h=>?_) (fun f cdv A outer s H vs Q E hr h=>?_)
 ·obtain ⟨a,ws,Rs,rfl,_⟩:=h
  rfl
 ·obtain ⟨a,ws,Rs,rfl,ha,hrs,hn,q⟩:=h
  refine ⟨_,(Ze (Zl (i:=1) Zj8.nd Zl1 (Yq Zc))
 (Ze (Y7 PassesOwn.never rfl (Yp (qvN 0 Z7o)) (Yo (i:=2) Zj8.nd Ztd)
 (Zg (Yl (Ww F.plainAttrs_list F.slot_list_extend F.type_list_extend Zmv (qvN 1 Zl1) (Zb (qvN 2 Ztd) Zc)))))
 (Zg (Zo (qvN 1 Zl1))))),?_⟩
  have hz:(2000000:Nat)<=sizeLine:=by decide
  have hwl:=hrs.len
  refine ⟨by show 0<=sizeLine; lia,fun l hl=>?_⟩
  have S1:=Same.new (o:=.lst []) hl
  have k1:(upd H l (.lst [])) l=some (.lst []):=upd_same
  generalize (upd H l (.lst []))=H1 at S1 k1 ⊢
  refine Zt ?_
  dsimp only
  have keep:∀ {H':Hp},SameX l H1 H'->Same H H':=fun {H'} sx b o e=>sx b o (Z5 e hl) (S1 _ _ e)
  refine ⟨_,rfl,a,rfl,⟨_,SqL.of (S1 _ _ ha)⟩,?_⟩
  refine Uh ws (fun i σ H'=>∃ (v2:Option V) (vs:List V),σ = [some (.ref a),some (.ref l),v2]/\H' l=some (.lst vs)/\RepL H' ((Rs.take i).flatten.map onD) vs/\SameX l H1 H') ⟨none,[],rfl,k1,rfl,SameX.refl⟩ (fun i σ H' _ ⟨_,_,_,_,_,sx⟩=>SqL.of (keep sx _ _ ha)) ?_ ?_
  ·rintro i x σ H' hx ⟨v2,vs,rfl,hl',hvs,sx⟩
   obtain ⟨R,lr,hR,rfl,hrow⟩:=hrs.get hx
   obtain ⟨us,hu,hru⟩:=hrow.mono (keep sx)
   have ef:(Rs.take (i+1)).flatten=(Rs.take i).flatten++R:=by rw [yB,hR,List.flatten_append]; simp
   have hle:(Rs.take (i+1)).flatten.length<=Rs.flatten.length:=by
    have:=congrArg List.length (congrArg List.flatten (List.take_append_drop (i+1) Rs))
    rw [List.flatten_append,xL] at this
    lia
   have e1:=hvs.length
   have e2:=hru.length
   rw [xA] at e1 e2
   rw [ef,xL] at hle
   have nl:lr≠l:=fun z=>by
    obtain ⟨us0,hu0,_⟩:=hrow
    rw [z,hl] at hu0; cases hu0
   refine ⟨_,rfl,.inl ⟨rfl,_,SqL.of hl'⟩,_,rfl,l,lr,vs,us,rfl,rfl,hl',hu,by lia,?_⟩
   have tt:SameT H' (upd H' l (.lst (vs++us))):=fun b xs e=>SameX.upd _ _ (fun z=>by rw [z,hl'] at e; cases e) e
   refine ⟨_,vs++us,rfl,upd_same,?_,sx.trans SameX.upd⟩
   rw [ef,xP]
   exact Zot (RepL.onT tt hvs) (RepL.onT tt hru)
  ·rintro σ H' ⟨v2,vs,rfl,hl',hvs,sx⟩
   rw [hwl,yL] at hvs
   exact ⟨_,rfl,q l H' hl ⟨vs,hl',hvs⟩ (keep sx)⟩
end
section
variable {P:Program}{w:World}{K:uFg}{mg:Str->Option Value}{base:Heap}
def RepW (H:Hp):List Wy->List V->Prop
 | [],vs=>vs = []
 | e::W,vs=>∃ p l vs',vs = .ref p::vs'/\H p=some (.tup [.ref l,.int e.2.2])/\RowAt H e.2.1 l/\RepW H W vs'
theorem RepW.mono {H H':Hp}(k:Same H H'):∀ {W:List Wy}{vs:List V},RepW H W vs->RepW H' W vs
 | [],_,h=>h
 | _::_,_,⟨p,l,vs',e,h1,h2,h3⟩=>⟨p,l,vs',e,k _ _ h1,h2.mono k,RepW.mono k h3⟩
theorem RepW.len {H:Hp}:∀ {W:List Wy}{vs:List V},RepW H W vs->vs.length=W.length
 | [],_,h=>by cases h; rfl
 | _::_,_,⟨p,l,vs',e,h1,h2,h3⟩=>by subst e; rw [xS,xS,h3.len]
theorem RepW.get {H:Hp}:∀ {W:List Wy}{vs:List V}{i:Nat}{v:V},RepW H W vs->vs[i]? = some v->∃ e p l,W[i]? = some e/\v = .ref p/\H p=some (.tup [.ref l,.int e.2.2])/\RowAt H e.2.1 l
 | [],vs,i,v,h,e=>by cases h; simp at e
 | e0::W,vs,i,v,⟨p,l,vs',e1,h1,h2,h3⟩,e=>by
  subst e1
  cases i with
  | zero=>simp at e; subst e; exact ⟨e0,p,l,rfl,rfl,h1,h2⟩
  | succ i=>simp at e; exact RepW.get (i:=i) h3 e
theorem RepW.app {H:Hp}:∀ {V0 W:List Wy}{vs us:List V},RepW H V0 vs->RepW H W us->RepW H (V0++W) (vs++us)
 | [],W,vs,us,h,k=>by cases h; exact k
 | e::V0,W,vs,us,⟨p,l,vs',e1,h1,h2,h3⟩,k=>by subst e1; exact ⟨p,l,vs'++us,rfl,h1,h2,RepW.app h3 k⟩
def Zi3 (H:Hp) (W:List Wy) (l:Addr):Prop:=∃ vs,H l=some (.lst vs)/\RepW H W vs
def Zmk:Sp:=fun vs H Q _=>∃ (c:Nat) (v:V) (g:Addr) (sd:Zk) (kvs:Vj),vs = [.int c,v,.ref g]/\SideAt H sd v/\sd.length<=60/\H g=some (.dT kvs) /\
 ∀ (l:Addr) (H':Hp),H l=none->Zi3 H' (Wn c (brk kvs c) sd) l->Same H H'->Q (.ref l) H'
theorem Zw5 {c:Nat}{f0:Str->Bool}{sd:Zk}{i:Nat}{p:Str×Int}(h:sd[i]? = some p):Wn c f0 (sd.take (i+1))=Wn c f0 (sd.take i)++(if f0 p.1=true then [] else [(p.1,[((c:Int),p.1)],p.2)]):=by
 unfold Wn
 rw [yB,h,Option.toList_some,List.filter_append,xP]
 congr 1
 rw [yV]
 cases f0 p.1 <;> rfl
abbrev Zca:Stmt:=top 42
theorem Z7q:FnScope ["case", "side", "broken_by"] ["case", "side", "broken_by"] (Za Zca):=⟨rfl,rfl,rfl,by decide +kernel,rfl,by decide +kernel,by decide +kernel⟩
theorem Z7r:Nm (Za Zca) "broken_by" .cell:=by decide +kernel
theorem Z7s:Nm (Za Zca) "case" .cell:=by decide +kernel
theorem Z7t:Nm (Za Zca) "side" .local:=by decide +kernel
theorem Z7u (Zka:Has K mg "breakings" Zca) (T:Txt mg):Fn P w K mg base "breakings" ["case", "side", "broken_by"] 1 Zmk:=by
 refine Zka.fnQ Z7q (fun _ _ _ _ _ _ us hl=>match us,hl with | [_,_,_],_=>rfl) (fun vs H Q E h=>?_) (fun f cdv A outer s H vs Q E hr h=>?_)
 ·obtain ⟨c,v,g,sd,kvs,rfl,_⟩:=h
  rfl
 ·obtain ⟨c,v,g,sd,kvs,rfl,⟨a,us,rfl,ha,hrS⟩,hn,hg,q⟩:=h
  refine ⟨_,(Zg (Zo (Wr (locs:=["name", "weight"]) (fr:=[("case", 0),("broken_by", 2)]) ⟨rfl,by decide +kernel,by decide +kernel,by decide +kernel,by decide +kernel,by decide +kernel⟩ (.consN Z7s (.consN Z7r .nil)) rfl (Yp (qvN 1 Z7t)) ⟨fun _ _ _ _ _ _=>by
  have cnd:(inN ["name", "weight"] [("case", 0),("broken_by", 2)]).Nodup:=by decide +kernel
  exact ⟨(Vh 2 (by rfl) (Z2 (Z8 0 cnd) (Z2 (Z8 1 cnd) Wc))),(Zbu (Zw (Zwq hr) (Y8 (Zb (Y4 2) (Zb (Yj 0) Zc))) (Y4 3) rfl)),(Y8 (Zb (Yq (Zb (Y8 (Zb (Y4 2) (Zb (Yj 0) Zc))) Zc)) (Zb (Yj 1) Zc)))⟩⟩))),?_⟩
  have hz:(2000000:Nat)<=sizeLine:=by decide
  have hul:=hrS.len
  refine ⟨_,rfl,a,rfl,⟨_,SqL.of ha⟩,?_⟩
  refine Vv (xs:=us) (fun i ys H'=>Same H H'/\RepW H' (Wn c (brk kvs c) (sd.take i)) ys) ⟨Same.refl _,rfl⟩ (by lia) (fun i ys H' _ ⟨sm,_⟩=>SqL.of (sm _ _ ha)) ?_ ?_ ?_
  ·rintro i ys H' ⟨_,r⟩
   rw [r.len]
   unfold Wn
   rw [xA]
   exact yA (List.length_filter_le _ _) (by rw [xY]; lia)
  ·rintro i x ys H' hx ⟨sm,r⟩ ls hls
   obtain ⟨u,z,rfl⟩:=Zbe hls
   obtain ⟨p,b,hp,rfl,hb⟩:=(hrS.mono fun b xs e=>sm _ _ e).get hx
   have ew:=Zw5 (c:=c) (f0:=brk kvs c) hp
   refine ⟨b,_,rfl,SqT.of hb,rfl,_,_,rfl,_,_,rfl,rfl,⟨[_,_],rfl,rfl⟩,?_⟩
   refine ⟨_,rfl,_,rfl,by show 2<=sizeLine; lia,fun k1 hk1=>?_⟩
   have S1:=Same.new (o:=.tup [.int c,.str p.1]) hk1
   refine ⟨_,rfl,g,_,rfl,DGet.t (k:=Zq c p.1) (S1 _ _ (sm _ _ hg)) upd_same,_,rfl,?_⟩
   have eb:(!(Zm kvs (Zq c p.1)).isSome) = !brk kvs c p.1:=rfl
   rw [eb]
   have S1':=sm.trans S1
   have r1:=r.mono S1
   generalize (upd H' k1 (.tup [.int c,.str p.1]))=H1 at S1 S1' r1 ⊢
   cases hbk:brk kvs c p.1 with
   | true =>
    refine Yt ?_
    refine ⟨S1',?_⟩
    rw [ew,hbk,if_pos rfl,yO]
    exact r1
   | false =>
    refine Yb ?_
    refine ⟨_,rfl,_,rfl,by show 2<=sizeLine; lia,fun k2 hk2=>⟨by show 1<=sizeLine; lia,fun k3 hk3=>⟨_,rfl,by show 2<=sizeLine; lia,fun k4 hk4=>?_⟩⟩⟩
    have S2:=Same.new (o:=.tup [.int c,.str p.1]) hk2
    have S3:=Same.new (o:=.lst [.ref k2]) hk3
    have S4:=Same.new (o:=.tup [.ref k3,.int p.2]) hk4
    have SA:=S2.trans (S3.trans S4)
    refine ⟨S1'.trans SA,?_⟩
    rw [ew,hbk,if_neg (by simp)]
    exact (r1.mono SA).app ⟨k4,k3,[],rfl,upd_same,⟨_,S4 _ _ upd_same,⟨.ref k2,[],rfl,Zfr (o:=((c:Int),p.1)) (S4 _ _ (S3 _ _ upd_same)),rfl⟩⟩,rfl⟩
  ·rintro ys H' ⟨sm,r⟩ l hl
   rw [hul,yL] at r
   have S:=Same.new (o:=.lst ys) hl
   exact q l _ (sm.free hl) ⟨ys,upd_same,r.mono S⟩ (sm.trans S)
def ResV (H:Hp) (r:Option (List Zf)) (v:V):Prop:=match r with
 | none=>v = .non
 | some R=>∃ l,v = .ref l/\RowAt H R l
theorem ResV.mono {H H':Hp}{r:Option (List Zf)}{v:V}(h:ResV H r v) (k:Same H H'):ResV H' r v:=by
 cases r with
 | none=>exact h
 | some R=>obtain ⟨l,e,h1⟩:=h; exact ⟨l,e,h1.mono k⟩
def Ys (ss:List Suit) (tn:Nat->Option (List Zf)) (c:Nat) (n:Str):Option (List Zf):=if Zv ss (c:Int) n = []\/none∈(Zv ss (c:Int) n).map tn then none else some ((Zv ss (c:Int) n).flatMap fun j=>(tn j).getD [])
def Zm0:Sp:=fun vs H Q _=>∃ (c:Nat) (v:V) (g tg:Addr) (sd:Zk) (ss:List Suit) (tn:Nat->Option (List Zf)) (kvt:List (Key×V)),vs = [.int c,v,.ref g,.ref tg]/\SideAt H sd v/\sd.length<=60/\NbAt H g ss (stL (Z4 ss))/\ss.length<=1000/\H tg=some (.dK kvt) /\
 (∀ q∈sd,∀ j∈Zv ss (c:Int) q.1,∃ v,Zm kvt (.inl (j:Int))=some v/\ResV H (tn j) v)/\(∀ q∈sd,((Zv ss (c:Int) q.1).flatMap fun j=>(tn j).getD []).length<=30) /\
 ∀ (l:Addr) (H':Hp),H l=none->Zi3 H' (Wh (Ys ss tn c) sd) l->Same H H'->Q (.ref l) H'
theorem Zw6 {kr:Str->Option (List Zf)}{sd:Zk}{i:Nat}{p:Str×Int}(h:sd[i]? = some p):Wh kr (sd.take (i+1))=Wh kr (sd.take i)++(match kr p.1 with | none=>[] | some R=>[(p.1,R,p.2)]):=by
 unfold Wh
 rw [yB,h,Option.toList_some,List.filterMap_append]
 congr 1
 rw [List.filterMap_cons]
 cases kr p.1 <;> rfl
def hid (l:Addr) (H:Hp):Hp:=fun b=>if b=l then none else H b
theorem Zi4 {l:Addr}{H:Hp}:Same (hid l H) H:=fun b o e=>by
 unfold hid at e
 split at e
 ·cases e
 ·exact e
theorem Zb0 {l b:Addr}{H:Hp}(n:b≠l):hid l H b=H b:=if_neg n
theorem Zfu {l:Addr}{H H':Hp}(h:SameX l H H'):Same (hid l H) (hid l H'):=fun b o e=>by
 have n:b≠l:=fun z=>by rw [z] at e; unfold hid at e; rw [if_pos rfl] at e; cases e
 rw [Zb0 n] at e ⊢
 exact h _ _ n e
theorem Z7v {l:Addr}{H:Hp}{vs:List V}(h:H l=some (.lst vs)):SameT H (hid l H):=fun b xs e=>by
 rw [Zb0 fun z=>by rw [z,h] at e; cases e]; exact e
theorem Zp2 {H:Hp}{tn:Nat->Option (List Zf)}{vf:Nat->V}:∀ {js:List Nat},(∀ j∈js,ResV H (tn j) (vf j))->(∀ j∈js,tn j≠none)->RowsAt H (js.map fun j=>(tn j).getD []) (js.map vf)
 | [],_,_=>rfl
 | j::js,h,k=>by
  have h1:=h j xI
  have h2:=k j xI
  have h3:=Zp2 (fun i hi=>h i (xN _ hi)) fun i hi=>k i (xN _ hi)
  cases e:tn j with
  | none=>exact absurd e h2
  | some R =>
   rw [e] at h1
   obtain ⟨l,e1,e2⟩:=h1
   refine ⟨l,js.map vf,by rw [xQ,e1],?_,h3⟩
   show RowAt H ((tn j).getD []) l
   rw [e]; exact e2
theorem Z14 {H:Hp}{tn:Nat->Option (List Zf)}{vf:Nat->V}{js:List Nat}(h:∀ j∈js,ResV H (tn j) (vf j)):(js.map vf).any Zcl=true↔none∈js.map tn:=by
 rw [List.any_eq_true,xV]
 constructor
 ·rintro ⟨v,hv,e⟩
  obtain ⟨j,hj,rfl⟩:=xV.mp hv
  have:=h j hj
  refine ⟨j,hj,?_⟩
  cases e2:tn j with
  | none=>rfl
  | some R=>rw [e2] at this; obtain ⟨l,e1,_⟩:=this; rw [e1] at e; exact absurd e (by simp [Zcl])
 ·rintro ⟨j,hj,e⟩
  have:=h j hj
  rw [e] at this
  exact ⟨vf j,xV.mpr ⟨j,hj,rfl⟩,by rw [show vf j=V.non from this]; rfl⟩
abbrev Vr:Stmt:=top 43
theorem Zdv:FnScope ["case", "side", "broken_by", "turnings", "ways", "name", "weight", "rows"] ["case", "side", "broken_by", "turnings"] (Za Vr):=⟨rfl,rfl,rfl,by decide +kernel,rfl,by decide +kernel,by decide +kernel⟩
theorem Z7w:Nm (Za Vr) "broken_by" .local:=by decide +kernel
theorem Z7x:Nm (Za Vr) "case" .local:=by decide +kernel
theorem Z7y:Nm (Za Vr) "joined" .globalImplicit:=by decide +kernel
theorem Zte:Nm (Za Vr) "name" .local:=by decide +kernel
theorem Zgn:Nm (Za Vr) "rows" .local:=by decide +kernel
theorem Z7z:Nm (Za Vr) "side" .local:=by decide +kernel
theorem Z70:Nm (Za Vr) "turnings" .cell:=by decide +kernel
theorem Zl2:Nm (Za Vr) "ways" .local:=by decide +kernel
theorem Ztf:Nm (Za Vr) "weight" .local:=by decide +kernel
theorem Z71 (Zkb:Has K mg "keepings" Vr) (T:Txt mg) (Zkc:Fn P w K mg base "joined" ["rows"] 1 Zh1):Fn P w K mg base "keepings" ["case", "side", "broken_by", "turnings"] 2 Zm0:=by
 refine Zkb.fnQ Zdv (fun _ _ _ _ _ _ us hl=>match us,hl with | [_,_,_,_],_=>rfl) (fun vs H Q E h=>?_) (fun f cdv A outer s H vs Q E hr h=>?_)
 ·obtain ⟨c,v,g,tg,sd,ss,tn,kvt,rfl,_⟩:=h
  rfl
 ·obtain ⟨c,v,g,tg,sd,ss,tn,kvt,rfl,⟨a,us,rfl,ha,hrS⟩,hn,hnb,hsl,htg,hres,hlen,q⟩:=h
  refine ⟨_,(Ze (Zl (i:=4) Zdv.nd Zl2 (Yq Zc))
 (Ze (Y7 PassesOwn.never rfl (Yp (qvN 1 Z7z)) (Zdd (by rfl) (Z2 (Yo (i:=5) Zdv.nd Zte) (Z2 (Yo (i:=6) Zdv.nd Ztf) Wc)))
 (Ze (Zes (locs:=["later"]) (fr:=[("turnings", 3)]) ⟨rfl,by decide +kernel,by decide +kernel,by decide +kernel,by decide +kernel,by decide +kernel⟩ (.consN Z70 .nil) rfl (Yp (Zhv hr (qvN 2 Z7w) (Y8 (Zb (qvN 0 Z7x) (Zb (qvN 5 Zte) Zc))) (Yq Zc))) ⟨fun _ _ _ _ _ _=>by
  have cnd:(inN ["later"] [("turnings", 3)]).Nodup:=by decide +kernel
  exact ⟨(Z8 0 cnd),Vg,(Zpp hr (Y4 1) (Yj 0) (fun _ _=>rfl))⟩⟩ Zdv.nd Zgn (by rfl) (i:=7))
 (Zg (Zy (QW.pt (Zfa (Zoc (qvN 7 Zgn) (fun _=>rfl)) (Zeq (Zw (Zwy hr) V6 (qvN 7 Zgn) rfl)))) (Zg (Yl (Ww F.plainAttrs_list F.slot_list_append F.type_list_append Ug (qvN 4 Zl2) (Zb (Y8 (Zb (Zj Zkc (hr.mono (by lia)) Z7y (Zb (qvN 7 Zgn) Zc)) (Zb (qvN 6 Ztf) Zc))) Zc)))) Z0))))
 (Zg (Zo (qvN 4 Zl2))))),?_⟩
  have hz:(2000000:Nat)<=sizeLine:=by decide
  have hul:=hrS.len
  refine ⟨by show 0<=sizeLine; lia,fun l hl=>?_⟩
  have S1:=Same.new (o:=.lst []) hl
  have k1:(upd H l (.lst [])) l=some (.lst []):=upd_same
  generalize (upd H l (.lst []))=H1 at S1 k1 ⊢
  refine Zt ?_
  dsimp only
  have keep:∀ {H':Hp},SameX l H1 H'->Same H H':=fun {H'} sx b o e=>sx b o (Z5 e hl) (S1 _ _ e)
  refine ⟨_,rfl,a,rfl,⟨_,SqL.of (S1 _ _ ha)⟩,?_⟩
  refine Uh us (fun i σ H'=>∃ (v5 v6 v7:Option V) (ws:List V),σ = [some (.int c),some (.ref a),some (.ref g),some (.ref tg),some (.ref l),v5,v6,v7]/\H' l=some (.lst ws)/\RepW (hid l H') (Wh (Ys ss tn c) (sd.take i)) ws/\SameX l H1 H') ⟨none,none,none,[],rfl,k1,rfl,SameX.refl⟩ (fun i σ H' _ ⟨_,_,_,_,_,_,_,sx⟩=>SqL.of (keep sx _ _ ha)) ?_ ?_
  ·rintro i x σ H' hx ⟨v5,v6,v7,ws,rfl,hl',hws,sx⟩
   obtain ⟨p,b,hp,rfl,hb⟩:=(hrS.mono fun b xs e=>keep sx _ _ e).get hx
   have hpm:=xT hp
   refine ⟨b,_,rfl,SqT.of hb,rfl,_,_,rfl,_,_,rfl,rfl,?_⟩
   dsimp only
   have SK:=keep sx
   have ec:=Zw6 (kr:=Ys ss tn c) hp
   obtain ⟨kvs,hk1,_,hk3,hk2⟩:=hnb.mono SK
   have hid:IsD H' g:=Or.inr ⟨kvs,.inl hk1⟩
   refine ⟨_,rfl,g,rfl,hid,_,rfl,_,rfl,by show 2<=sizeLine; lia,fun n1 hn1=>⟨by show 0<=sizeLine; lia,fun n2 hn2=>?_⟩⟩
   have T1:=Same.new (o:=.tup [.int c,.str p.1]) hn1
   have T2:=Same.new (o:=.lst []) hn2
   have hkey:(upd H' n1 (.tup [.int c,.str p.1])) n1=some (.tup ((Zq c p.1).map kV)):=upd_same
   have hkey2:=T2 _ _ hkey
   have hem:(upd (upd H' n1 (.tup [.int c,.str p.1])) n2 (.lst [])) n2=some (.lst []):=upd_same
   have T12:=T1.trans T2
   have ff:∀ x,(upd (upd H' n1 (.tup [.int c,.str p.1])) n2 (.lst [])) x=none->H' x=none:=fun x hx=>T12.free hx
   generalize (upd (upd H' n1 (.tup [.int c,.str p.1])) n2 (.lst []))=H2 at hkey2 hem T12 ff ⊢
   have hgd:=DGet.t (k:=Zq c p.1) (T12 _ _ hk1) hkey2
   have hla:∃ la,(Zm kvs (Zq c p.1)).getD (.ref n2) = .ref la/\H2 la=some (.lst (Zp (Zv ss (c:Int) p.1))):=by
    rcases hk2 (c:Int) p.1 with ⟨e1,e2⟩ | ⟨aj,e1,e2⟩
    ·refine ⟨n2,by rw [e1]; rfl,?_⟩
     unfold Zv
     rw [e2]; exact hem
    ·exact ⟨aj,by rw [e1]; rfl,T12 _ _ e2⟩
   obtain ⟨la,ela,hla⟩:=hla
   refine ⟨_,hgd,?_⟩
   rw [ela]
   have hrj:∀ j∈Zv ss (c:Int) p.1,ResV H2 (tn j) ((Zm kvt (.inl (j:Int))).getD .non)/\∃ v,Zm kvt (.inl (j:Int))=some v:=fun j hj=>by
    obtain ⟨v,e1,e2⟩:=hres p hpm j hj
    exact ⟨by rw [e1]; exact e2.mono (SK.trans T12),v,e1⟩
   have hlj:=hlen p hpm
   have hnj:(Zv ss (c:Int) p.1).length<=1000:=by
    have h1:=(Zil (ss:=ss) (c:=c) (n:=p.1)).length_le_of_subset (l₂:=List.range ss.length) fun j hj=>by
     obtain ⟨t,h1,_⟩:=nam_iff.mp (brk9_mem.mp hj).1
     exact yE.mpr (xC.mp h1).1
    rw [zC] at h1; lia
   have ekr:Ys ss tn c p.1=if Zv ss (c:Int) p.1 = []\/none∈(Zv ss (c:Int) p.1).map tn then none else some ((Zv ss (c:Int) p.1).flatMap fun j=>(tn j).getD []):=rfl
   rw [ekr] at ec
   generalize Zv ss (c:Int) p.1=js at hla hrj hlj hnj ec
   have htg2:=T12 _ _ (SK _ _ htg)
   refine ⟨la,rfl,⟨_,SqL.of hla⟩,?_⟩
   refine Vv (xs:=Zp js) (fun i ys H''=>H''=H2/\ys=(js.take i).map fun (j:Nat)=>(Zm kvt (.inl (j:Int))).getD .non) ⟨rfl,rfl⟩ (by unfold Zp; rw [xA]; lia) (fun i ys H'' _ ⟨sm,_⟩=>by rw [sm]; exact SqL.of hla) ?_ ?_ ?_
   ·rintro i ys H'' ⟨_,rfl⟩
    rw [xA,xY]; lia
   ·rintro i x ys H'' hx' ⟨rfl,rfl⟩ ls hls
    obtain ⟨u,rfl⟩:=Zck hls
    unfold Zp at hx'
    rw [xR] at hx'
    obtain ⟨j,hj,rfl⟩:=yM.mp hx'
    obtain ⟨_,v,ev⟩:=hrj j (xT hj)
    refine ⟨⟨[_],rfl,rfl⟩,?_⟩
    refine Yb ?_
    refine ⟨_,rfl,_,rfl,tg,v,rfl,by have:=DGet.k (k:=.inl (j:Int)) htg2; rw [ev] at this; exact this,rfl,?_⟩
    rw [yB,hj,Option.toList_some,xP,xQ,ev]; rfl
   ·rintro ys H'' ⟨eH,rfl⟩ n3 hn3
    subst eH
    have el:(Zp js).length=js.length:=by unfold Zp; rw [xA]
    rw [el,yL]
    have T3:=Same.new (o:=.lst (js.map fun (j:Nat)=>(Zm kvt (.inl (j:Int))).getD .non)) hn3
    have hrw:(upd H'' n3 (.lst (js.map fun (j:Nat)=>(Zm kvt (.inl (j:Int))).getD .non))) n3=some (.lst (js.map fun (j:Nat)=>(Zm kvt (.inl (j:Int))).getD .non)):=upd_same
    generalize (upd H'' n3 (.lst (js.map fun (j:Nat)=>(Zm kvt (.inl (j:Int))).getD .non)))=H3 at T3 hrw ⊢
    have TA:=T12.trans T3
    have hr3:∀ j∈js,ResV H3 (tn j) ((Zm kvt (.inl (j:Int))).getD .non):=fun j hj=>(hrj j hj).1.mono T3
    have hl3:=TA _ _ hl'
    have hw3:=hws.mono (Zfu TA.x)
    have X3:SameX l H1 H3:=sx.trans (Same.x TA)
    refine Zt ?_
    dsimp only
    refine ⟨_,rfl,_,.inl ⟨_,SqL.of hrw,rfl⟩,?_⟩
    cases hje:js.isEmpty with
    | true =>
     have e0:=List.isEmpty_iff.mp hje
     rw [e0]
     refine Yt (Yt ⟨_,_,_,ws,rfl,hl3,?_,X3⟩)
     rw [ec,e0,if_pos (.inl rfl),yO]; exact hw3
    | false =>
     have hne:js ≠ []:=fun z=>by rw [z] at hje; cases hje
     have e1:(!(List.map (fun (j:Nat)=>(Zm kvt (.inl (j:Int))).getD .non) js).isEmpty)=true:=by rw [List.isEmpty_map,hje]; rfl
     rw [e1]
     refine Yb ?_
     refine ⟨_,rfl,rfl,n3,_,rfl,SqL.of hrw,fun v hv=>?_,_,rfl,?_⟩
     ·obtain ⟨j,hj,rfl⟩:=xV.mp hv
      have:=hr3 j hj
      cases e2:tn j with
      | none=>rw [e2] at this; exact .inl this
      | some R=>rw [e2] at this; obtain ⟨lr,e3,us',e4,_⟩:=this; exact .inr ⟨lr,us',e3,e4⟩
     ·have ea:=Z14 hr3
      cases han:(List.map (fun (j:Nat)=>(Zm kvt (.inl (j:Int))).getD .non) js).any Zcl with
      | true =>
       refine Yt ⟨_,_,_,ws,rfl,hl3,?_,X3⟩
       rw [ec,if_pos (.inr (ea.mp han)),yO]; exact hw3
      | false =>
       have hno:none∉js.map tn:=fun z=>by rw [ea.mpr z] at han; cases han
       refine Yb ?_
       have hrows:=Zp2 hr3 fun j hj z=>hno (xV.mpr ⟨j,hj,z⟩)
       refine ⟨_,rfl,.inl ⟨rfl,_,SqL.of hl3⟩,_,rfl,n3,_,_,rfl,hrw,hrows,by rw [← List.flatMap_def]; lia,fun l4 H4 hl4 hrow4 T4=>?_⟩
       refine ⟨_,rfl,by show 2<=sizeLine; lia,fun n5 hn5=>?_⟩
       have T5:=Same.new (o:=.tup [.ref l4,.int p.2]) hn5
       have hl5:=T5 _ _ (T4 _ _ hl3)
       have hlw:=hw3.len
       have hwl:(Wh (Ys ss tn c) (sd.take i)).length<=60:=by
        unfold Wh
        exact yA (List.length_filterMap_le _ _) (by rw [xY]; lia)
       refine ⟨l,ws,_,rfl,rfl,hl5,by lia,?_⟩
       have h5:(upd H4 n5 (.tup [.ref l4,.int p.2])) n5=some (.tup [.ref l4,.int p.2]):=upd_same
       have T45:=T4.trans T5
       have hrow5:=hrow4.mono T5
       generalize (upd H4 n5 (.tup [.ref l4,.int p.2]))=H5 at T5 hl5 h5 T45 hrow5 ⊢
       have hw5:=(hw3.mono (Zfu T45.x)).mono (Zfu (SameX.upd (s:=l) (o:=.lst (ws ++ [.ref n5]))))
       refine ⟨_,_,_,_,rfl,upd_same,?_,(X3.trans (Same.x T45)).trans SameX.upd⟩
       rw [ec,if_neg (fun z=>z.elim hne hno)]
       have nl4:l4≠l:=fun z=>by rw [z,hl3] at hl4; cases hl4
       have nn5:n5≠l:=fun z=>by rw [z,T4 _ _ hl3] at hn5; cases hn5
       refine hw5.app ⟨n5,l4,[],rfl,?_,?_,rfl⟩
       ·rw [Zb0 nn5,Zh nn5]; exact h5
       ·obtain ⟨vs4,e4,r4⟩:=hrow5
        refine ⟨vs4,by rw [Zb0 nl4,Zh nl4]; exact e4,?_⟩
        have tt:SameT H5 (upd H5 l (.lst (ws ++ [.ref n5]))):=fun b xs e=>SameX.upd _ _ (fun z=>by rw [z,hl5] at e; cases e) e
        exact RepL.onT (Z7v upd_same) (RepL.onT tt r4)
  ·rintro σ H' ⟨v5,v6,v7,ws,rfl,hl',hws,sx⟩
   rw [hul,yL] at hws
   exact ⟨_,rfl,q l H' hl ⟨ws,hl',hws.mono Zi4⟩ (keep sx)⟩
end
section
theorem Ybu {t r:TS}{D:_}{σ:St}{H:Hp}(Pv:St->Hp->Prop) (h:∀ N:St->Hp->Prop,(∀ σ H,Pv σ H->N σ H)->t {D with nx:=N } σ H) (k:∀ σ H,Pv σ H->r D σ H):Zao t r D σ H:=h _ k
def Uy (ss:List Suit):List Zf:=(List.range ss.length).flatMap fun i=>match ss[i]? with
 | some t=>(t.ones++t.others).map fun p=>((i:Int),p.1)
 | none=>[]
theorem Zv0 {ss:List Suit}{c:Nat}{t:Suit}{p:Str×Int}(h:ss[c]? = some t) (hp:p∈t.ones++t.others):((c:Int),p.1)∈Uy ss:=by
 unfold Uy
 rw [yX]
 refine ⟨c,yE.mpr (xC.mp h).1,?_⟩
 rw [h]
 exact xV.mpr ⟨p,hp,rfl⟩
def unk:List Key->Zf
 | [.inl c,.inr n]=>(c,n)
 | _=>(0,s0)
theorem Zrh {H:Hp}:∀ {R:List Zf}{vs:List V},RepL H (R.map onD) vs->∃ ps:List (Addr×List Key),vs=ps.map (fun p=>V.ref p.1)/\(∀ p∈ps,TupAt H p)/\ps.map (·.2)=R.map okO
 | [],vs,h=>by cases h; exact ⟨[],rfl,(fun _ z=>nomatch z),rfl⟩
 | o::R,vs,⟨v,r,e,h1,h2⟩=>by
  obtain ⟨a,rfl,ha⟩:=Zi0 h1
  obtain ⟨ps,e1,e2,e3⟩:=Zrh h2
  refine ⟨(a,okO o)::ps,by rw [e,e1]; rfl,fun p hp=>?_,by rw [xQ,e3]; rfl⟩
  rcases xW.mp hp with rfl | hp
  ·exact ha
  ·exact e2 p hp
theorem Zri {H:Hp}:∀ {ms:List (Addr×List Key)},(∀ p∈ms,TupAt H p/\okO (unk p.2)=p.2)->RepL H ((ms.map fun p=>unk p.2).map onD) (ms.map fun p=>V.ref p.1)
 | [],_=>rfl
 | m::ms,h=>by
  obtain ⟨h1,h2⟩:=h m xI
  refine ⟨.ref m.1,_,rfl,Zfr ?_,Zri fun p hp=>h p (xN _ hp)⟩
  unfold L2.TupAt at h1
  rw [← h2] at h1
  exact h1
structure Tld (ss:List Suit) (c:Nat) (r:Option (List Zf)):Prop where
 opt:Opt ss (SS ss) c r
 all:∀ R,r=some R->∀ o∈R,o∈Uy ss
 srt:∀ R,r=some R->(R.map okO).Pairwise fun p q=>ltK q p=false
theorem Zu3 {ss:List Suit}(hL:Line ss) {tn:Nat->Option (List Zf)}{c:Nat}{n:Str}(h:∀ j∈Zv ss (c:Int) n,Tld ss j (tn j)) {R:List Zf}(e:Ys ss tn c n=some R) :
  bk ss (SS ss) [] c n=true/\Way ss (SS ss) c n R/\∀ o∈R,o∈Uy ss:=by
 unfold Ys at e
 split at e
 ·cases e
 ·rename_i hn
  cases e
  have hne:Zv ss (c:Int) n ≠ []:=fun z=>hn (.inl z)
  have hj:∀ j∈Zv ss (c:Int) n,tn j=some ((tn j).getD []):=fun j hj=>by
   cases e:tn j with
   | none=>exact absurd (xV.mpr ⟨j,hj,e⟩) fun z=>hn (.inr z)
   | some R=>rfl
  refine ⟨(Zim hL).mpr hne,Way.keep (Zbz hL) hne Zil (fun j=>brk9_mem) (fun j hj'=>by have:=(h j hj').opt; rw [hj j hj'] at this; exact this),fun o ho=>?_⟩
  obtain ⟨j,h1,h2⟩:=yX.mp ho
  exact (h j h1).all _ (hj j h1) o h2
theorem Ybv {ss:List Suit}(hL:Line ss) {tn:Nat->Option (List Zf)}{c:Nat}{n:Str}(h:∀ j∈Zv ss (c:Int) n,Tld ss j (tn j)) (e:Ys ss tn c n=none) (hb:bk ss (SS ss) [] c n=true) (B:List Zf):bk ss (SS ss) B c n=true:=by
 unfold Ys at e
 split at e
 ·rename_i hn
  rcases hn with hn | hn
  ·exact absurd hn ((Zim hL).mp hb)
  ·obtain ⟨j,h1,h2⟩:=xV.mp hn
   have h3:=(h j h1).opt.no h2 B
   have h4:=brk9_mem.mp h1
   exact (Uw (Zbz hL)).mpr (.inr ⟨j,h4.1,by rw [h3]; exact h4.2⟩)
 ·cases e
theorem Zrj {ss:List Suit}(hL:Line ss) {c:Nat}{t:Suit}(ht:ss[c]? = some t) {A C:Zk}{tn:Nat->Option (List Zf)}(h:∀ n,∀ j∈Zv ss (c:Int) n,Tld ss j (tn j))
  (hw:∀ q∈t.ones++t.others,0<=q.2) (ac:(A=t.ones/\C=t.others/\SS ss [] c=true)\/(A=t.others/\C=t.ones/\SS ss [] c=false)):Tin ss (SS ss) c t A C (Ys ss tn c) where
 L:=Zbz hL
 ht:=ht
 nd:=by
  have:=hL.nd t (xT ht)
  rcases ac with ⟨rfl,rfl,_⟩ | ⟨rfl,rfl,_⟩
  ·exact this
  ·exact (List.perm_append_comm.map _).nodup this
 wt:=by
  rcases ac with ⟨rfl,rfl,_⟩ | ⟨rfl,rfl,_⟩
  ·exact hw
  ·exact fun q hq=>hw q (xO.mpr (xO.mp hq).symm)
 ac:=ac
 k1:=fun n R e=>let ⟨a,b,_⟩:=Zu3 hL (h n) e; ⟨a,b⟩
 k0:=fun q _ e hb B=>Ybv hL (h q.1) e hb B
theorem Z0b {ss:List Suit}(hL:Line ss) {c:Nat}{t:Suit}(ht:ss[c]? = some t) {A C:Zk}{tn:Nat->Option (List Zf)}(h:∀ n,∀ j∈Zv ss (c:Int) n,Tld ss j (tn j)) (T:Tin ss (SS ss) c t A C (Ys ss tn c)) {e:Wy}(he:e∈Ym ss (SS ss) c A C (Ys ss tn c)):∀ o∈e.2.1,o∈Uy ss:=by
 intro o ho
 rcases xO.mp he with h1 | h1
 ·obtain ⟨h2,_,h3⟩:=Zbo h1
  rw [h3] at ho
  cases xF.mp ho
  refine Zv0 ht (p:=(e.1,e.2.2)) ?_
  rcases T.ac with ⟨e1,_,_⟩ | ⟨e1,_,_⟩
  ·rw [← e1]; exact yF _ h2
  ·rw [← e1]; exact xM _ h2
 ·exact (Zu3 hL (h _) (Zbp h1).2).2.2 o ho
theorem Zns:∀ W:List Wy,Zgk (ofW W)=((W.flatMap fun e=>e.2.1).length:Int)
 | []=>rfl
 | e::W=>by
  have:=Zns W
  unfold Zgk ofW at *
  rw [xQ,xQ,yP,this,List.flatMap_cons,xL,Int.natCast_add]
theorem Tin.flat_nd {ss:List Suit}{S:List Zf->Nat->Bool}{c:Nat}{t:Suit}{A C:Zk}{kr:Str->Option (List Zf)}(T:Tin ss S c t A C kr):((Ym ss S c A C kr).flatMap fun e=>e.2.1).Nodup:=by
 refine Zdb (fun e he=>(T.way he).nd) ?_
 have h:=T.names
 rw [List.nodup_iff_pairwise_ne] at h
 refine yS ?_ (List.pairwise_map.mp h)
 intro a b ha hb hab x h1 h2
 exact hab (Reg.apart T.L ((T.way ha).reg x h1) ((T.way hb).reg x h2))
theorem Z0c {ss:List Suit}{o:Zf}(h:o∈Uy ss):o∈Vz 0 ss:=by
 unfold Uy at h
 obtain ⟨i,_,hi⟩:=yX.mp h
 cases e:ss[i]? with
 | none=>rw [e] at hi; cases hi
 | some t =>
  rw [e] at hi
  obtain ⟨p,hp,rfl⟩:=xV.mp hi
  exact Zz3 e p hp
theorem Zh2 {ss:List Suit}(h8:(Vz 0 ss).length<=30) {R:List Zf}(nd:R.Nodup) (h:∀ o∈R,o∈Uy ss):R.length<=30:=yA (nd.length_le_of_subset fun o ho=>Z0c (h o ho)) h8
end
section
variable {P:Program}{w:World}{K:uFg}{mg:Str->Option Value}{base:Heap}
def Znt:Sp:=fun vs H Q _=>∃ (c:Nat) (l g tg:Addr) (ss:List Suit) (t:Suit) (tn:Nat->Option (List Zf)) (kvt:List (Key×V)),vs = [.ref l,.int c,.ref g,.ref tg]/\SuitsAt H ss l/\ss[c]? = some t/\Line ss/\ss.length<=1000/\(Vz 0 ss).length<=30/\NbAt H g ss (stL (Z4 ss))/\H tg=some (.dK kvt) /\
 (∀ n,∀ j∈Zv ss (c:Int) n,Tld ss j (tn j)/\∃ v,Zm kvt (.inl (j:Int))=some v/\ResV H (tn j) v) /\
 ∀ (r:Option (List Zf)) (v:V) (H':Hp),Tld ss c r->ResV H' r v->Same H H'->Q v H'
abbrev Y6:Stmt:=top 41
theorem Zau:FnScope ["suits", "case", "broken_by", "turnings", "suit", "lead", "ways", "goal", "places"] ["suits", "case", "broken_by", "turnings"] (Za Y6):=⟨rfl,rfl,rfl,by decide +kernel,rfl,by decide +kernel,by decide +kernel⟩
theorem Ztg:Nm (Za Y6) "ONES" .globalImplicit:=by decide +kernel
theorem Zth:Nm (Za Y6) "OTHERS" .globalImplicit:=by decide +kernel
theorem Zti:Nm (Za Y6) "breakings" .globalImplicit:=by decide +kernel
theorem Zd9:Nm (Za Y6) "broken_by" .local:=by decide +kernel
theorem Zcq:Nm (Za Y6) "case" .local:=by decide +kernel
theorem Z72:Nm (Za Y6) "cheapest" .globalImplicit:=by decide +kernel
theorem Zl3:Nm (Za Y6) "goal" .local:=by decide +kernel
theorem Z73:Nm (Za Y6) "joined" .globalImplicit:=by decide +kernel
theorem Ztj:Nm (Za Y6) "keepings" .globalImplicit:=by decide +kernel
theorem Zgo:Nm (Za Y6) "lead" .local:=by decide +kernel
theorem Z74:Nm (Za Y6) "margin_without" .globalImplicit:=by decide +kernel
theorem Zl4:Nm (Za Y6) "places" .local:=by decide +kernel
theorem Z75:Nm (Za Y6) "sorted" .globalImplicit:=by decide +kernel
theorem Zea:Nm (Za Y6) "suit" .local:=by decide +kernel
theorem Ztk:Nm (Za Y6) "suits" .local:=by decide +kernel
theorem Ztl:Nm (Za Y6) "turnings" .local:=by decide +kernel
theorem Zgp:Nm (Za Y6) "ways" .cell:=by decide +kernel
theorem Z76 (Zkd:Has K mg "turning" Y6) (T:Txt mg) (C0:∃ t,mg "ONES" = some (.int 0 t)) (C1:∃ t,mg "OTHERS" = some (.int 1 t)) (Zd5:Fn P w K mg base "margin_without" ["suits", "case", "gone"] 2 Zhy) (Ztm:Fn P w K mg base "breakings" ["case", "side", "broken_by"] 1 Zmk) (Ztn:Fn P w K mg base "keepings" ["case", "side", "broken_by", "turnings"] 2 Zm0) (Z77:Fn P w K mg base "cheapest" ["offers", "goal"] 2 Zp1) (Zkc:Fn P w K mg base "joined" ["rows"] 1 Zh1):Fn P w K mg base "turning" ["suits", "case", "broken_by", "turnings"] 3 Znt:=by
 obtain ⟨t0,c_ONES⟩:=C0
 obtain ⟨t1,c_OTHERS⟩:=C1
 have r_ONES:RelV (.int 0) (.int 0 t0):=⟨t0,rfl⟩
 have r_OTHERS:RelV (.int 1) (.int 1 t1):=⟨t1,rfl⟩
 refine Zkd.fnQ Zau (fun _ _ _ _ _ _ us hl=>match us,hl with | [_,_,_,_],_=>rfl) (fun vs H Q E h=>?_) (fun f cdv A outer s H vs Q E hr h=>?_)
 ·obtain ⟨c,l,g,tg,ss,t,tn,kvt,rfl,_⟩:=h
  rfl
 ·obtain ⟨c,l,g,tg,ss,t,tn,kvt,rfl,hsu,ht,hL,hsl,h8,hnb,htg,htn,q⟩:=h
  refine ⟨_,(Ze (Zl (i:=4) Zau.nd Zea (Zi Zz (qvN 0 Ztk) (qvN 1 Zcq) (fun _ _=>rfl)))
 (Ze (Zl (i:=5) Zau.nd Zgo (Zj Zd5 (hr.mono (by lia)) Z74 (Zb (qvN 0 Ztk) (Zb (qvN 1 Zcq) (Zb (qvN 2 Zd9) Zc)))))
 (Ze (Zy (Zw Zis (qvN 5 Zgo) Zd (Z1 _)) (Ze (Zhs (i:=6) Zau.nd Zgp (Zn V8 (Zj Ztm (hr.mono (by lia)) Zti (Zb (qvN 1 Zcq) (Zb (Zi Z3 (qvN 4 Zea) (Yg Ztg c_ONES r_ONES) (fun _ _=>rfl)) (Zb (qvN 2 Zd9) Zc)))) (Zj Ztn (hr.mono (by lia)) Ztj (Zb (qvN 1 Zcq) (Zb (Zi Z3 (qvN 4 Zea) (Yg Zth c_OTHERS r_OTHERS) (fun _ _=>rfl)) (Zb (qvN 2 Zd9) (Zb (qvN 3 Ztl) Zc)))))))
 (Zg (Zl (i:=7) Zau.nd Zl3 (Zn Yr (qvN 5 Zgo) Zd)))) (Ze (Zhs (i:=6) Zau.nd Zgp (Zn V8 (Zj Ztm (hr.mono (by lia)) Zti (Zb (qvN 1 Zcq) (Zb (Zi Z3 (qvN 4 Zea) (Yg Zth c_OTHERS r_OTHERS) (fun _ _=>rfl)) (Zb (qvN 2 Zd9) Zc)))) (Zj Ztn (hr.mono (by lia)) Ztj (Zb (qvN 1 Zcq) (Zb (Zi Z3 (qvN 4 Zea) (Yg Ztg c_ONES r_ONES) (fun _ _=>rfl)) (Zb (qvN 2 Zd9) (Zb (qvN 3 Ztl) Zc)))))))
 (Zg (Zl (i:=7) Zau.nd Zl3 (Zdk Zc8 (qvN 5 Zgo))))))
 (Ze (Zl (i:=8) Zau.nd Zl4 (Zj Z77 (hr.mono (by lia)) Z72 (Zb (Wr (locs:=["oaths", "weight"]) (fr:=[]) ⟨rfl,by decide +kernel,by decide +kernel,by decide +kernel,by decide +kernel,by decide +kernel⟩ .nil rfl (Yp (qvC 6 Zgp)) ⟨fun _ _ _ _ _ _=>by
  have cnd:(inN ["oaths", "weight"] []).Nodup:=by decide +kernel
  exact ⟨(Vh 2 (by rfl) (Z2 (Z8 0 cnd) (Z2 (Z8 1 cnd) Wc))),Vg,(Y8 (Zb (Z6 Zvc nmC T.len Yy (Zb (Yj 0) Zc)) (Zb (Yj 1) Zc)))⟩⟩) (Zb (qvN 7 Zl3) Zc))))
 (Ze (Zy (Zw Z1h (qvN 8 Zl4) V6 (Z1 _)) (Zg (Zo V6)) Z0)
 (Zg (Zo (Z6 Zvi Z75 T.sorted Zej (Zb (Zj Zkc (hr.mono (by lia)) Z73 (Zb (Wr (locs:=["place"]) (fr:=[("ways", 6)]) ⟨rfl,by decide +kernel,by decide +kernel,by decide +kernel,by decide +kernel,by decide +kernel⟩ (.consN Zgp .nil) rfl (Yp (qvN 8 Zl4)) ⟨fun _ _ _ _ _ _=>by
  have cnd:(inN ["place"] [("ways", 6)]).Nodup:=by decide +kernel
  exact ⟨(Z8 0 cnd),Vg,(Zi Zc3 (Zi Zxr (Y4 1) (Yj 0) (fun _ _=>rfl)) Zd (fun _ _=>rfl))⟩⟩) Zc)) Zc))))))))),?_⟩
  have hz:(2000000:Nat)<=sizeLine:=by decide
  have h60:∀ t∈ss,t.ones.length<=60/\t.others.length<=60:=fun t h=>⟨(hL.ok t h).1.2,(hL.ok t h).2.1.2⟩
  obtain ⟨us,hl,hrep⟩:=hsu
  obtain ⟨ta,u1,u2,u4,hu,hta,h1,h2,h4⟩:=SuitsAt.get (l:=l) hrep ht
  have hok:=hL.ok t (xT ht)
  have h6:=h60 t (xT ht)
  have htn':∀ n,∀ j∈Zv ss (c:Int) n,Tld ss j (tn j):=fun n j hj=>(htn n j hj).1
  obtain ⟨kvs,hk1,hk0,hk3,hk2⟩:=hnb
  have hnb:NbAt H g ss (stL (Z4 ss)):=⟨kvs,hk1,hk0,hk3,hk2⟩
  have ebk:brk kvs c=bk ss (SS ss) [] c:=funext fun n=>Z3s hL hk1 hk2 hk3 c n
  have hw0:∀ q∈t.ones++t.others,0<=q.2/\q.2<=1000:=fun q hq=>(xO.mp hq).elim (fun h=>by have:=hok.1.1 q h; lia) fun h=>by have:=hok.2.1.1 q h; lia
  have hwn:∀ q∈t.ones++t.others,0<=q.2:=fun q hq=>(hw0 q hq).1
  have hkl:∀ n,((Zv ss (c:Int) n).flatMap fun j=>(tn j).getD []).length<=30:=fun n=>by
   refine Zh2 h8 (Zdb (fun j hj=>?_) (yS (R:=fun a b=>a≠b) ?_ Zil)) fun o ho=>?_
   ·have:=htn' n j hj
    cases e:tn j with
    | none=>exact List.nodup_nil
    | some R=>rw [e] at this; exact this.opt.nd R rfl
   ·intro a b ha hb hab x hx hy
    have ka:=htn' n a ha
    have kb:=htn' n b hb
    cases e:tn a with
    | none=>rw [e] at hx; cases hx
    | some R =>
     cases e':tn b with
     | none=>rw [e'] at hy; cases hy
     | some R' =>
      rw [e] at hx ka
      rw [e'] at hy kb
      exact Und.apart (Zbz hL) (brk9_mem.mp ha).1 (brk9_mem.mp hb).1 hab (ka.opt.sub R rfl x hx) (kb.opt.sub R' rfl x hy)
   ·obtain ⟨j,hj,h⟩:=yX.mp ho
    have:=htn' n j hj
    cases e:tn j with
    | none=>rw [e] at h; cases h
    | some R=>rw [e] at this h; exact this.all R rfl o h
  refine ⟨_,rfl,_,rfl,l,us,c,.ref ta,rfl,rfl,SqL.of hl,Yh hu,?_⟩
  refine Zt ?_
  refine ⟨_,rfl,_,rfl,_,rfl,l,g,c,ss,t,kvs,rfl,⟨us,hl,hrep⟩,ht,hok,hk1,fun H1 s1=>?_⟩
  rw [Zos,ebk]
  refine Zt ?_
  have hst:=(Zbz hL).fix [] c t ht
  have eg:Vp ss (SS ss) c t=if SS ss [] c=true then mgn (bk ss (SS ss) [] c) t+1 else -mgn (bk ss (SS ss) [] c) t:=rfl
  generalize mgn (bk ss (SS ss) [] c) t=lead at hst eg ⊢
  have hta1:=s1 _ _ hta
  dsimp only
  refine Ybu (fun σ H'=>∃ (sa sc:Zk) (lw:Addr),σ = [some (.ref l),some (.int c),some (.ref g),some (.ref tg),some (.ref ta),some (.int lead),some (.ref lw),some (.int (Vp ss (SS ss) c t)),none]/\Tin ss (SS ss) c t sa sc (Ys ss tn c)/\Zi3 H' (Ym ss (SS ss) c sa sc (Ys ss tn c)) lw/\(Ym ss (SS ss) c sa sc (Ys ss tn c)).length<=120/\Same H H') (fun N hN=>?_) ?_
  ·have wl:∀ sa sc:Zk,sa.length<=60->sc.length<=60->(Ym ss (SS ss) c sa sc (Ys ss tn c)).length<=120:=fun sa sc ha hc=>by
    unfold Ym Wn Wh
    rw [xL,xA]
    have a1:=List.length_filter_le (fun p:Str×Int=>!bk ss (SS ss) [] c p.1) sa
    have a2:=List.length_filterMap_le (fun p:Str×Int=>(Ys ss tn c p.1).map fun R=>(p.1,R,p.2)) sc
    lia
   refine ⟨_,rfl,_,_,rfl,rfl,_,rfl,?_⟩
   dsimp only
   have two:∀ {u u':V}{sa sc:Zk}{H1:Hp},Same H H1->SideAt H1 sa u->SideAt H1 sc u'->sa.length<=60->sc.length<=60->True:=fun _ _ _ _ _=>trivial
   by_cases h0 : 0<=lead
   ·rw [xH h0]
    rw [xH h0] at hst
    rw [if_pos hst] at eg
    have TT:=Zrj hL ht htn' hwn (.inl ⟨rfl,rfl,hst⟩)
    refine Yb ?_
    refine ⟨_,rfl,_,rfl,ta,_,0,u1,rfl,rfl,SqT.of hta1,rfl,_,rfl,c,u1,g,t.ones,kvs,rfl,h1.mono s1,h6.1,s1 _ _ hk1,fun la H2 hla wa s2=>?_⟩
    have s12:=s1.trans s2
    refine ⟨_,rfl,_,rfl,ta,_,1,u2,rfl,rfl,SqT.of (s12 _ _ hta),rfl,_,rfl,_,rfl,c,u2,g,tg,t.others,ss,tn,kvt,rfl,h2.mono s12,h6.2,hnb.mono s12,hsl,s12 _ _ htg,(fun q _ j hj=>by obtain ⟨_,v,e1,e2⟩:=htn q.1 j hj; exact ⟨v,e1,e2.mono s12⟩),(fun q _=>hkl q.1),fun lb H3 hlb wb s3=>?_⟩
    rw [ebk] at wa
    obtain ⟨va,ea,ra⟩:=wa
    obtain ⟨vb,eb,rb⟩:=wb
    have ra3:=ra.mono s3
    have l1:=ra3.len
    have l2:=rb.len
    have l3:=wl t.ones t.others h6.1 h6.2
    have l4:=(ra3.app rb).len
    unfold Ym at l3
    rw [xL] at l4
    refine ⟨la,lb,va,vb,rfl,rfl,s3 _ _ ea,eb,by lia,fun lw hlw=>?_⟩
    have S4:=Same.new (o:=.lst (va++vb)) hlw
    refine Zt ?_
    refine ⟨_,rfl,_,_,rfl,rfl,?_⟩
    refine Zt ?_
    refine hN _ _ ⟨t.ones,t.others,lw,?_,TT,⟨va++vb,upd_same,(ra3.app rb).mono S4⟩,wl _ _ h6.1 h6.2,(s12.trans s3).trans S4⟩
    rw [eg]; rfl
   ·rw [xK h0]
    rw [xK h0] at hst
    rw [if_neg (by rw [hst]; exact fun z=>nomatch z)] at eg
    have TT:=Zrj hL ht htn' hwn (.inr ⟨rfl,rfl,hst⟩)
    refine Yt ?_
    refine ⟨_,rfl,_,rfl,ta,_,1,u2,rfl,rfl,SqT.of hta1,rfl,_,rfl,c,u2,g,t.others,kvs,rfl,h2.mono s1,h6.2,s1 _ _ hk1,fun la H2 hla wa s2=>?_⟩
    have s12:=s1.trans s2
    refine ⟨_,rfl,_,rfl,ta,_,0,u1,rfl,rfl,SqT.of (s12 _ _ hta),rfl,_,rfl,_,rfl,c,u1,g,tg,t.ones,ss,tn,kvt,rfl,h1.mono s12,h6.1,hnb.mono s12,hsl,s12 _ _ htg,(fun q _ j hj=>by obtain ⟨_,v,e1,e2⟩:=htn q.1 j hj; exact ⟨v,e1,e2.mono s12⟩),(fun q _=>hkl q.1),fun lb H3 hlb wb s3=>?_⟩
    rw [ebk] at wa
    obtain ⟨va,ea,ra⟩:=wa
    obtain ⟨vb,eb,rb⟩:=wb
    have ra3:=ra.mono s3
    have l1:=ra3.len
    have l2:=rb.len
    have l3:=wl t.others t.ones h6.2 h6.1
    have l4:=(ra3.app rb).len
    unfold Ym at l3
    rw [xL] at l4
    refine ⟨la,lb,va,vb,rfl,rfl,s3 _ _ ea,eb,by lia,fun lw hlw=>?_⟩
    have S4:=Same.new (o:=.lst (va++vb)) hlw
    refine Zt ?_
    refine ⟨_,rfl,_,rfl,?_⟩
    refine Zt ?_
    refine hN _ _ ⟨t.others,t.ones,lw,?_,TT,⟨va++vb,upd_same,(ra3.app rb).mono S4⟩,wl _ _ h6.2 h6.1,(s12.trans s3).trans S4⟩
    rw [eg]; rfl
  ·rintro σ H2 ⟨sa,sc,lw,rfl,TT,⟨vw,ew,rw2⟩,hwl,s2⟩
   have hg1 : 1<=Vp ss (SS ss) c t:=by
    rw [eg]
    by_cases h0 : 0<=lead
    ·rw [if_pos (by rw [hst]; exact xH h0)]; lia
    ·rw [if_neg (by rw [hst,xK h0]; exact fun z=>nomatch z)]; lia
   have hall:=fun {e:Wy}(he:e∈Ym ss (SS ss) c sa sc (Ys ss tn c))=>Z0b hL ht htn' TT he
   have hfl:=Zh2 h8 TT.flat_nd fun o ho=>by
    obtain ⟨e,he,h⟩:=yX.mp ho
    exact hall he o h
   have hcs:=Zns (Ym ss (SS ss) c sa sc (Ys ss tn c))
   have hwt:∀ e∈Ym ss (SS ss) c sa sc (Ys ss tn c),0<=e.2.2/\e.2.2<=1000:=fun e he=>by
    have hm:(e.1,e.2.2)∈t.ones++t.others:=by
     rcases xO.mp he with h | h
     ·have:=(Zbo h).1
      rcases TT.ac with ⟨e1,_,_⟩ | ⟨e1,_,_⟩
      ·rw [← e1]; exact yF _ this
      ·rw [← e1]; exact xM _ this
     ·have:=(Zbp h).1
      rcases TT.ac with ⟨_,e1,_⟩ | ⟨_,e1,_⟩
      ·rw [← e1]; exact xM _ this
      ·rw [← e1]; exact yF _ this
    exact hw0 _ hm
   have tno:=TT.no
   have tyes:=fun {cc g':Int}{ps:List Int}(hp:Pk (ofW (Ym ss (SS ss) c sa sc (Ys ss tn c))) (ofW (Ym ss (SS ss) c sa sc (Ys ss tn c))).length cc g' ps) (hg:Vp ss (SS ss) c t<=g') (hmin:∀ c' g' ps',Pk (ofW (Ym ss (SS ss) c sa sc (Ys ss tn c))) (ofW (Ym ss (SS ss) c sa sc (Ys ss tn c))).length c' g' ps'->Vp ss (SS ss) c t<=g'->cc<=c') {R:List Zf}(hR:R.Perm (Vd (Ym ss (SS ss) c sa sc (Ys ss tn c)) ps))=>TT.yes rfl hp hg hmin hR
   generalize Ym ss (SS ss) c sa sc (Ys ss tn c)=W at *
   generalize Vp ss (SS ss) c t=goal at *
   have hvl:=rw2.len
   refine ⟨_,rfl,lw,rfl,⟨_,SqL.of ew⟩,?_⟩
   refine Vv (xs:=vw) (fun i ys H'=>Same H2 H'/\RepO H' (ofW (W.take i)) ys) ⟨Same.refl _,rfl⟩ (by lia) (fun i ys H' _ ⟨sm,_⟩=>SqL.of (sm _ _ ew)) ?_ ?_ ?_
   ·rintro i ys H' ⟨_,r⟩
    rw [r.len,Ze5,xY]; lia
   ·rintro i x ys H' hx ⟨sm,r⟩ ls hls
    obtain ⟨u,z,rfl⟩:=Zbe hls
    obtain ⟨e,p,lr,he,rfl,hp,us',hrow,hrp⟩:=(rw2.mono sm).get hx
    refine ⟨p,_,rfl,SqT.of hp,rfl,_,_,rfl,_,_,rfl,rfl,⟨[_,_],rfl,rfl⟩,?_⟩
    refine Yb ?_
    refine ⟨_,rfl,lr,us',rfl,.inl (SqL.of hrow),_,rfl,by show 2<=sizeLine; lia,fun n1 hn1=>?_⟩
    have S1:=Same.new (o:=.tup [.int us'.length,.int e.2.2]) hn1
    refine ⟨sm.trans S1,?_⟩
    have el:us'.length=e.2.1.length:=by rw [hrp.length,xA]
    have ef:ofW (W.take (i+1))=ofW (W.take i) ++ [((e.2.1.length:Int),e.2.2)]:=by
     unfold ofW; rw [yB,he,xP]; rfl
    rw [ef]
    exact (r.mono fun b xs e=>S1 _ _ e).app ⟨n1,[],rfl,by rw [← el]; exact upd_same,rfl⟩
   ·rintro ys H3 ⟨sm,r⟩ lo hlo
    rw [hvl,yL] at r
    have S3:=Same.new (o:=.lst ys) hlo
    refine ⟨_,rfl,lo,ys,ofW W,goal,rfl,upd_same,r.mono (fun b xs e=>S3 _ _ e),⟨fun p hp=>?_,by rw [Ze5]; lia,by rw [hcs]; lia⟩,fun z=>by lia,fun _ hlt H4 s4=>?_,fun _ hle lp H4 cc g' ps hpk hg hmin hlp hps s4=>?_⟩
    ·obtain ⟨e,he,rfl⟩:=xV.mp hp
     have:=hwt e he
     exact ⟨Int.natCast_nonneg _,this.1,by lia⟩
    ·refine Zt ?_
     refine ⟨_,rfl,rfl,_,rfl,?_⟩
     rw [xH rfl]
     refine Yb ?_
     exact q none .non H4 ⟨tno hlt,(fun R z=>nomatch z),fun R z=>nomatch z⟩ rfl (s2.trans (sm.trans (S3.trans s4)))
    ·refine Zt ?_
     refine ⟨_,rfl,rfl,_,rfl,?_⟩
     rw [xK (fun z=>nomatch z)]
     refine Yt ?_
     have ff:=hpk.facts fun o ho=>by
      obtain ⟨e,_,rfl⟩:=xV.mp ho
      exact Int.natCast_nonneg _
     rw [Ze5] at ff
     have S24:=sm.trans (S3.trans s4)
     have rw4:=rw2.mono S24
     have ew4:=S24 _ _ ew
     refine ⟨_,rfl,lp,rfl,⟨_,SqL.of hps⟩,?_⟩
     refine Vv (xs:=ps.map V.int) (fun i ys H'=>H'=H4/\RowsAt H4 ((ps.take i).map fun p=>(wAt W p.toNat).2.1) ys) ⟨rfl,rfl⟩ (by rw [xA]; have:=ff.n; lia) (fun i ys H' _ ⟨sm,_⟩=>by rw [sm]; exact SqL.of hps) ?_ ?_ ?_
     ·rintro i ys H' ⟨_,r⟩
      rw [r.len,xA,xY]; lia
     ·rintro i x ys H' hx ⟨eH,r⟩ ls hls
      subst eH
      obtain ⟨u,rfl⟩:=Zck hls
      rw [xR] at hx
      obtain ⟨p,hp,rfl⟩:=yM.mp hx
      have hb:=ff.lo p (xT hp)
      have hlt:p.toNat < vw.length:=by lia
      have hv:vw[p.toNat]? = some vw[p.toNat]:=xB hlt
      obtain ⟨e,pa,lr,he,ev,hpa,hrow⟩:=rw4.get hv
      rw [ev] at hv
      have hat:atI vw p=some (.ref pa):=by
       have:=Yh hv
       rw [Int.toNat_of_nonneg hb.1] at this
       exact this
      have ewa:wAt W p.toNat=e:=by unfold wAt; rw [xD,he]; rfl
      refine ⟨⟨[_],rfl,rfl⟩,?_⟩
      refine Yb ?_
      refine ⟨_,rfl,_,rfl,lw,vw,p,.ref pa,rfl,rfl,SqL.of ew4,hat,pa,_,0,.ref lr,rfl,rfl,SqT.of hpa,rfl,rfl,?_⟩
      rw [yB,hp,Option.toList_some,xP,xQ,ewa]
      exact r.snoc hrow
     ·rintro ys H' ⟨eH,r⟩ n5 hn5
      subst eH
      rw [xA,yL] at r
      have S5:=Same.new (o:=.lst ys) hn5
      have opt0:=tyes hpk hg hmin (List.Perm.refl _)
      have hin:∀ o∈Vd W ps,o∈Uy ss:=fun o ho=>by
       unfold Vd at ho
       obtain ⟨p,h1,h2⟩:=yX.mp ho
       have:=ff.lo p h1
       exact hall (Ze3 (by lia)) o h2
      have hpl:=Zh2 h8 (opt0.nd _ rfl) hin
      have efl:(ps.map fun p=>(wAt W p.toNat).2.1).flatten=Vd W ps:=(List.flatMap_def ..).symm
      refine ⟨n5,ys,_,rfl,upd_same,r.mono S5,by rw [efl]; lia,fun l6 H6 hl6 hrow6 s6=>?_⟩
      rw [efl] at hrow6
      obtain ⟨v6,e6,r6⟩:=hrow6
      obtain ⟨prs,rfl,ht6,hk6⟩:=Zrh r6
      have hpl6:=congrArg List.length hk6
      rw [xA,xA] at hpl6
      refine ⟨l6,prs,[true,false],rfl,SqL.of e6,by lia,fun p hp=>⟨ht6 p hp,?_⟩,(fun z=>nomatch z),fun l7 ms hl7 hperm hsort=>?_⟩
      ·have:p.2∈(Vd W ps).map okO:=by rw [← hk6]; exact List.mem_map_of_mem hp
       obtain ⟨o,_,eo⟩:=xV.mp this
       rw [← eo]; rfl
      ·have hms:∀ p∈ms,L2.TupAt H6 p/\okO (unk p.2)=p.2:=fun p hp=>by
        have h1:=hperm.mem_iff.mp hp
        have:p.2∈(Vd W ps).map okO:=by rw [← hk6]; exact List.mem_map_of_mem h1
        obtain ⟨o,_,eo⟩:=xV.mp this
        exact ⟨ht6 p h1,by rw [← eo]; rfl⟩
       have hR:(ms.map fun p=>unk p.2).Perm (Vd W ps):=by
        have h1:=(hperm.map (·.2)).map unk
        rw [hk6,yZ,yZ] at h1
        have h2:(Vd W ps).map (unk∘okO)=Vd W ps:=by
         rw [show (unk∘okO)=id from funext fun o=>rfl,List.map_id]
        rw [h2] at h1
        exact h1
       have S7:=Same.new (o:=.lst (ms.map fun p=>V.ref p.1)) hl7
       refine q (some (ms.map fun p=>unk p.2)) (.ref l7) _ ⟨tyes hpk hg hmin hR,fun R e o ho=>?_,fun R e=>?_⟩ ⟨l7,rfl,_,upd_same,(Zri hms).mono' S7⟩ ((s2.trans S24).trans (S5.trans (s6.trans S7)))
       ·cases e
        exact hin o (hR.mem_iff.mp ho)
       ·cases e
        rw [yZ]
        have e1:ms.map (okO∘fun p=>unk p.2)=ms.map (·.2):=zF fun p hp=>(hms p hp).2
        rw [e1,List.pairwise_map]
        exact hsort
end
section
variable {P:Program}{w:World}{K:uFg}{mg:Str->Option Value}{base:Heap}
theorem Z15 {ss:List Suit}(hL:Line ss) {f:Nat->List Nat}(hf:Zgh ss f) {c k j:Nat}{n:Str}(hj:nam ss j=some ((k:Int),n)) (hk:k=c\/k∈Wm f c ss.length):j∈Wm f c ss.length/\k < j:=by
 have hl:=Zi2 hL hj
 simp only [xZ] at hl
 obtain ⟨u,h1,h2⟩:=nam_iff.mp hj
 obtain ⟨h3,_,_⟩:=hf j u h1
 rw [h2] at h3
 cases e:f j with
 | nil=>rw [e] at h3; cases h3
 | cons x cs =>
  rw [e] at h3
  cases h3 with
  | cons a b =>
   refine ⟨?_,hl.2.1⟩
   unfold Wm
   rw [yH,yE,yK]
   refine ⟨hl.2.2,?_⟩
   rw [e]
   rcases hk with rfl | hk
   ·exact xI
   ·unfold Wm at hk
    rw [yH,yK] at hk
    obtain ⟨h5,_,_⟩:=hf _ _ a
    rw [Zyf b h5]
    exact xN _ hk.2
def Zou:Sp:=fun vs H Q _=>∃ (c:Nat) (l:Addr) (ss:List Suit),vs = [.ref l,.int c]/\SuitsAt H ss l/\c < ss.length/\Line ss/\ss.length<=1000/\(Vz 0 ss).length<=30 /\
 ∀ (r:Option (List Zf)) (v:V) (H':Hp),Tld ss c r->ResV H' r v->Same H H'->Q v H'
abbrev Wq:Stmt:=top 40
theorem Zcb:FnScope ["suits", "case", "standing", "broken_by", "turnings", "later"] ["suits", "case"] (Za Wq):=⟨rfl,rfl,rfl,by decide +kernel,rfl,by decide +kernel,by decide +kernel⟩
theorem Z78:Nm (Za Wq) "bearing" .globalImplicit:=by decide +kernel
theorem Z79:Nm (Za Wq) "breaking" .globalImplicit:=by decide +kernel
theorem Zl5:Nm (Za Wq) "broken_by" .local:=by decide +kernel
theorem Zgq:Nm (Za Wq) "case" .local:=by decide +kernel
theorem Zto:Nm (Za Wq) "check_case" .globalImplicit:=by decide +kernel
theorem Zgr:Nm (Za Wq) "later" .local:=by decide +kernel
theorem Z8a:Nm (Za Wq) "reversed" .globalImplicit:=by decide +kernel
theorem Z8b:Nm (Za Wq) "settled" .globalImplicit:=by decide +kernel
theorem Ztp:Nm (Za Wq) "standing" .local:=by decide +kernel
theorem Nq8:Nm (Za Wq) "suits" .local:=by decide +kernel
theorem Ztq:Nm (Za Wq) "turning" .globalImplicit:=by decide +kernel
theorem Zgs:Nm (Za Wq) "turnings" .local:=by decide +kernel
theorem Z8c (Zcc:Has K mg "fewest" Wq) (T:Txt mg) (Yw:Fn P w K mg base "check_case" ["suits", "case"] 1 Zai) (Zdt:Fn P w K mg base "settled" ["suits"] 4 Zfh) (Zbb:Fn P w K mg base "breaking" ["suits"] 5 Zcx) (Zke:Fn P w K mg base "bearing" ["suits", "case"] 3 Zhn) (Ztr:Fn P w K mg base "turning" ["suits", "case", "broken_by", "turnings"] 3 Znt):Fn P w K mg base "fewest" ["suits", "case"] 6 Zou:=by
 refine Zcc.fnQ Zcb (fun _ _ _ _ _ _ us hl=>match us,hl with | [_,_],_=>rfl) (fun vs H Q E h=>?_) (fun f cdv A outer s H vs Q E hr h=>?_)
 ·obtain ⟨c,l,ss,rfl,_⟩:=h
  rfl
 ·obtain ⟨c,l,ss,rfl,hsu,hc,hL,hsl,h8,q⟩:=h
  refine ⟨_,(Ze (Yl (Zj Yw (hr.mono (by lia)) Zto (Zb (qvN 0 Nq8) (Zb (qvN 1 Zgq) Zc))))
 (Ze (Zl (i:=2) Zcb.nd Ztp (Zj Zdt (hr.mono (by lia)) Z8b (Zb (qvN 0 Nq8) Zc)))
 (Ze (Zl (i:=3) Zcb.nd Zl5 (Zj Zbb (hr.mono (by lia)) Z79 (Zb (qvN 0 Nq8) Zc)))
 (Ze (Zl (i:=4) Zcb.nd Zgs ⟨L2.pe_dnewK⟩)
 (Ze (Y7 PassesOwn.never rfl (Z3l Z8a.1 T.reversed (Zj Zke (hr.mono (by lia)) Z78 (Zb (qvN 0 Nq8) (Zb (qvN 1 Zgq) Zc)))) (Yo (i:=5) Zcb.nd Zgr)
 (Zg (Zy (Uq (Zi Zz (qvN 2 Ztp) (qvN 5 Zgr) (fun _ _=>rfl))) (Zg (Zet hr (qvN 4 Zgs) (qvN 5 Zgr) (Zj Ztr (hr.mono (by lia)) Ztq (Zb (qvN 0 Nq8) (Zb (qvN 5 Zgr) (Zb (qvN 3 Zl5) (Zb (qvN 4 Zgs) Zc))))))) Z0)))
 (Zg (Zo (Zj Ztr (hr.mono (by lia)) Ztq (Zb (qvN 0 Nq8) (Zb (qvN 1 Zgq) (Zb (qvN 3 Zl5) (Zb (qvN 4 Zgs) Zc)))))))))))),?_⟩
  have hz:(2000000:Nat)<=sizeLine:=by decide
  obtain ⟨us,hl,hrep⟩:=hsu
  have hul:us.length=ss.length:=by rw [hrep.length,xA]
  have hsu:SuitsAt H ss l:=⟨us,hl,hrep⟩
  obtain ⟨fb,hf⟩:=Zoo hL
  refine ⟨_,rfl,_,rfl,l,us,c,rfl,hl,by lia,?_⟩
  refine ⟨_,rfl,l,ss,rfl,hsu,hL.ok,hsl,fun ls H1 hls els s1=>?_⟩
  refine Zt ?_
  refine ⟨_,rfl,l,ss,rfl,hsu.mono s1,hL.ok,hsl,fun g H2 hg hnb _ s2=>?_⟩
  refine Zt ?_
  refine fun tg htg=>?_
  have S3:=Same.new (o:=.dK []) htg
  have e3:(upd H2 tg (.dK [])) tg=some (.dK []):=upd_same
  generalize (upd H2 tg (.dK []))=H3 at S3 e3 ⊢
  refine Zt ?_
  have s12:=s1.trans s2
  refine ⟨_,rfl,_,rfl,l,ss,c,fb,rfl,(hsu.mono s12).mono S3,hsl,hc,hf,fun lb H5 hlb elb s5=>⟨lb,_,rfl,SqL.of elb,?_⟩⟩
  have e5:=s5 _ _ e3
  have ntl:lb≠tg:=fun z=>by rw [z,e5] at elb; cases elb
  have keep:∀ {H':Hp},SameX tg H5 H'->Same H2 H':=fun {H'} sx b o e=>sx b o (Z5 e htg) (s5 _ _ (S3 _ _ e))
  have hbn:∀ k∈Wm fb c ss.length,k < ss.length:=fun k hk=>yE.mp (yH.mp hk).1
  have hup:(Wm fb c ss.length).Pairwise (· < ·):=List.pairwise_lt_range.sublist List.filter_sublist
  have hbl:(Wm fb c ss.length).length<=ss.length:=yA (List.length_filter_le _ _) (by rw [zC]; exact xE _)
  have hst:∀ {k},k < ss.length->((Zr [] 0 ss).1.map V.bl)[k]? = some (.bl (SS ss [] k)):=fun {k} hk=>by
   unfold SS
   have:k < (Zr [] 0 ss).1.length:=by rw [Zbn]; exact hk
   rw [xR,xD,xB this]; rfl
  have bear:=fun {k j:Nat}{n:Str}(h1:nam ss j=some ((k:Int),n)) (h2:k=c\/k∈Wm fb c ss.length)=>Z15 hL hf h1 h2
  generalize Wm fb c ss.length=bl at *
  have il:(Zp bl).length=bl.length:=by unfold Zp; rw [xA]
  refine Zzu (Zp bl) rfl (fun i σ H'=>∃ (v5:Option V) (kvt:List (Key×V)) (tn:Nat->Option (List Zf)),σ = [some (.ref l),some (.int c),some (.ref ls),some (.ref g),some (.ref tg),v5]/\H' tg=some (.dK kvt)/\kvt.length<=i/\SameX tg H5 H' /\
   ∀ x k,bl.length - i<=x->bl[x]? = some k->SS ss [] k=true->Tld ss k (tn k)/\∃ v,Zm kvt (.inl (k:Int))=some v/\ResV (hid tg H') (tn k) v)
   ⟨none,[],(fun _=>none),rfl,e5,xE _,SameX.refl,fun x k hx hk=>by have:=(xC.mp hk).1; lia⟩ (fun i σ H' _ ⟨_,_,_,_,_,_,sx,_⟩=>SqL.of (sx _ _ ntl elb)) ?_ ?_
  ·rintro i x σ H' hi hx ⟨v5,kvt,tn,rfl,htg',hkl,sx,hd⟩
   rw [il] at hi hx
   unfold Zp at hx
   rw [xR] at hx
   obtain ⟨k,hk,rfl⟩:=yM.mp hx
   have hkm:=xT hk
   have hkn:=hbn k hkm
   refine Zt ?_
   refine ⟨_,rfl,_,rfl,ls,_,k,.bl (SS ss [] k),rfl,rfl,SqL.of ((s2.trans (keep sx)) _ _ els),Yh (hst hkn),_,rfl,?_⟩
   cases hs:SS ss [] k with
   | false =>
    refine Yt ⟨_,kvt,tn,rfl,htg',by lia,sx,fun x k' h1 h2 h3=>?_⟩
    by_cases e:x=bl.length - 1 - i
    ·rw [e,hk] at h2; cases h2; rw [hs] at h3; cases h3
    ·exact hd x k' (by lia) h2 h3
   | true =>
    refine Yb ?_
    have Sk:=s12.trans (keep sx)
    have ht:ss[k]? = some ss[k]:=xB hkn
    refine ⟨_,rfl,_,rfl,_,rfl,_,rfl,k,l,g,tg,ss,_,tn,kvt,rfl,hsu.mono Sk,ht,hL,hsl,h8,hnb.mono (keep sx),htg',fun n j hj=>?_,fun r v H6 told res s6=>?_⟩
    ·have hm:=brk9_mem.mp hj
     obtain ⟨b1,b2⟩:=bear hm.1 (.inr hkm)
     obtain ⟨x,hx⟩:=List.mem_iff_getElem?.mp b1
     have hxl:=(xC.mp hx)
     obtain ⟨hx1,hx2⟩:=hxl
     obtain ⟨hk1,hk2⟩:=xC.mp hk
     have hge:bl.length - i<=x:=by
      apply Nat.le_of_not_lt
      intro hlt
      by_cases e:x=bl.length - 1 - i
      ·subst e; rw [hx2] at hk2; lia
      ·have:=zE.mp hup x (bl.length - 1 - i) hx1 hk1 (by lia)
       rw [hx2,hk2] at this; lia
     obtain ⟨t1,v,t2,t3⟩:=hd x j hge hx hm.2
     exact ⟨t1,v,t2,t3.mono Zi4⟩
    ·have htg6:=s6 _ _ htg'
     refine ⟨_,rfl,_,rfl,tg,_,rfl,DPut.k (k:=.inl (k:Int)) htg6 (by lia),?_⟩
     refine ⟨_,_,fun j=>if j=k then r else tn j,rfl,upd_same,yA (U3 _ _ _) (by lia),(sx.trans s6.x).trans SameX.upd,fun x k' h1 h2 h3=>?_⟩
     have hmo:Same (hid tg H') (hid tg (upd H6 tg (.dK (Yi kvt (.inl (k:Int)) v)))):=Zfu (s6.x.trans SameX.upd)
     have hres6:ResV (hid tg (upd H6 tg (.dK (Yi kvt (.inl (k:Int)) v)))) r v:=by
      cases r with
      | none=>exact res
      | some R =>
       obtain ⟨lr,e1,vs,e2,e3⟩:=res
       have n1:lr≠tg:=fun z=>by rw [z,htg6] at e2; cases e2
       refine ⟨lr,e1,vs,by rw [Zb0 n1,Zh n1]; exact e2,?_⟩
       refine RepL.onT (fun b xs e=>?_) e3
       have n2:b≠tg:=fun z=>by rw [z,htg6] at e; cases e
       rw [Zb0 n2,Zh n2]; exact e
     dsimp only
     by_cases e:k'=k
     ·subst e
      rw [if_pos rfl]
      exact ⟨told,v,by rw [Zab,if_pos rfl],hres6⟩
     ·rw [if_neg e]
      have hx':bl.length - i<=x:=by
       apply Nat.le_of_not_lt
       intro hlt
       have:x=bl.length - 1 - i:=by lia
       rw [this,hk] at h2; cases h2; exact e rfl
      obtain ⟨t1,v',t2,t3⟩:=hd x k' hx' h2 h3
      refine ⟨t1,v',?_,t3.mono hmo⟩
      rw [Zab,if_neg (fun z=>e (by injection z with z; lia))]
      exact t2
  ·rintro σ H' ⟨v5,kvt,tn,rfl,htg',hkl,sx,hd⟩
   rw [il] at hd
   have Sk:=s12.trans (keep sx)
   have ht:ss[c]? = some ss[c]:=xB hc
   refine ⟨_,rfl,_,rfl,_,rfl,_,rfl,c,l,g,tg,ss,_,tn,kvt,rfl,hsu.mono Sk,ht,hL,hsl,h8,hnb.mono (keep sx),htg',fun n j hj=>?_,fun r v H6 told res s6=>q r v H6 told res (Sk.trans s6)⟩
   have hm:=brk9_mem.mp hj
   obtain ⟨b1,b2⟩:=bear hm.1 (.inl rfl)
   obtain ⟨x,hx⟩:=List.mem_iff_getElem?.mp b1
   obtain ⟨t1,v,t2,t3⟩:=hd x j (by lia) hx hm.2
   exact ⟨t1,v,t2,t3.mono Zi4⟩
end
section
variable {P:Program}{w:World}{K:uFg}{mg:Str->Option Value}{base:Heap}
theorem Zov {H:Hp}:∀ {os:List Zf}{ms:List V},RepL H (os.map onD) ms->Za6 H os ms
 | [],_,h=>h
 | o::os,_,⟨v,r,e,h1,h2⟩=>by
  obtain ⟨a,rfl,ha⟩:=Zi0 h1
  exact ⟨a,r,e,ha,Zov h2⟩
def Zp3:Sp:=fun vs H Q _=>∃ (l:Addr) (ss:List Suit) (c:Nat) (t:Suit),vs = [.ref l,.int c]/\SuitsAt H ss l/\(∀ t∈ss,Wf t)/\ss.length < 64/\ss[c]? = some t /\
 ∀ (br:Int->Str->Bool) (H':Hp),(∀ a n,br a n=true↔Zv ss a n ≠ [])->Same H H'->Q (.int (Wg br c t)) H'
abbrev Uz:Stmt:=top 12
theorem Zts:FnScope ["suits", "case"] ["suits", "case"] (Za Uz):=⟨rfl,rfl,rfl,by decide +kernel,rfl,by decide +kernel,by decide +kernel⟩
theorem Z8d:Nm (Za Uz) "broken" .globalImplicit:=by decide +kernel
theorem Zl6:Nm (Za Uz) "case" .local:=by decide +kernel
theorem Ztt:Nm (Za Uz) "check_case" .globalImplicit:=by decide +kernel
theorem Z8e:Nm (Za Uz) "margin_without" .globalImplicit:=by decide +kernel
theorem Zgt:Nm (Za Uz) "suits" .local:=by decide +kernel
theorem Z8f (Zcd:Has K mg "margin" Uz) (T:Txt mg) (Yw:Fn P w K mg base "check_case" ["suits", "case"] 1 Zai) (Z8g:Fn P w K mg base "broken" ["suits"] 6 Zrb)
  (Zd5:Fn P w K mg base "margin_without" ["suits", "case", "gone"] 2 Zhl):Fn P w K mg base "margin" ["suits", "case"] 7 Zp3:=by
 refine Zcd.fnQ Zts (fun _ _ _ _ _ _ us hl=>match us,hl with | [_,_],_=>rfl) (fun vs H Q E h=>?_) (fun f cdv A outer s H vs Q E hr h=>?_)
 ·obtain ⟨l,ss,c,t,rfl,_⟩:=h
  rfl
 ·obtain ⟨l,ss,c,t,rfl,hsu,hok,hlen,ht,k⟩:=h
  refine ⟨_,(Ze (Yl (Zj Yw (hr.mono (by lia)) Ztt (Zb (qvN 0 Zgt) (Zb (qvN 1 Zl6) Zc))))
 (Zg (Zo (Zj Zd5 (hr.mono (by lia)) Z8e (Zb (qvN 0 Zgt) (Zb (qvN 1 Zl6) (Zb (Zj Z8g (hr.mono (by lia)) Z8d (Zb (qvN 0 Zgt) Zc)) Zc))))))),?_⟩
  obtain ⟨us,hl,hrep⟩:=id hsu
  have hul:us.length=ss.length:=by have:=hrep.length; rw [xA] at this; exact this
  have hc:=(xC.mp ht).1
  refine ⟨_,rfl,_,rfl,l,us,c,rfl,hl,by lia,?_⟩
  refine ⟨_,rfl,_,rfl,_,rfl,l,ss,rfl,hsu,hok,hlen,fun l2 ms os H1 hl2 h2 hms _ _ hmem sm=>?_⟩
  refine ⟨l,.ref l2,c,ss,t,fun a n=>decide ((a,n)∈os),rfl,hsu.mono sm,ht,hok t (xT ht),.inr ⟨l2,ms,os,rfl,h2,Zov hms,rfl⟩,fun H2 sm2=>?_⟩
  exact k _ H2 (fun a n=>by rw [yK]; exact hmem a n) (sm.trans sm2)
def Zow:Sp:=fun vs H Q _=>∃ (l:Addr) (ss:List Suit) (c:Nat) (t:Suit) (n:Str),vs = [.ref l,.int c,.str n]/\SuitsAt H ss l/\ss[c]? = some t/\Wf t/\n∈(t.ones++t.others).map (·.1)/\∀ H',Same H H'->Q .non H'
abbrev V1:Stmt:=top 21
theorem Ztu:FnScope ["suits", "case", "name"] ["suits", "case", "name"] (Za V1):=⟨rfl,rfl,rfl,by decide +kernel,rfl,by decide +kernel,by decide +kernel⟩
theorem Z8h:Nm (Za V1) "NoOath" .globalImplicit:=by decide +kernel
theorem Ztv:Nm (Za V1) "ONES" .globalImplicit:=by decide +kernel
theorem Ztw:Nm (Za V1) "OTHERS" .globalImplicit:=by decide +kernel
theorem Nq9:Nm (Za V1) "case" .local:=by decide +kernel
theorem Ztx:Nm (Za V1) "check_case" .globalImplicit:=by decide +kernel
theorem Zl7:Nm (Za V1) "name" .local:=by decide +kernel
theorem Zcr:Nm (Za V1) "suits" .local:=by decide +kernel
theorem Z8i (Zce:Has K mg "check_oath" V1) (T:Txt mg) (C0:∃ t,mg "ONES" = some (.int 0 t)) (C1:∃ t,mg "OTHERS" = some (.int 1 t)) (Yw:Fn P w K mg base "check_case" ["suits", "case"] 1 Zai) :
  Fn P w K mg base "check_oath" ["suits", "case", "name"] 2 Zow:=by
 obtain ⟨t0,c_ONES⟩:=C0
 obtain ⟨t1,c_OTHERS⟩:=C1
 have r_ONES:RelV (.int 0) (.int 0 t0):=⟨t0,rfl⟩
 have r_OTHERS:RelV (.int 1) (.int 1 t1):=⟨t1,rfl⟩
 refine Zce.fnQ Ztu (fun _ _ _ _ _ _ us hl=>match us,hl with | [_,_,_],_=>rfl) (fun vs H Q E h=>?_) (fun f cdv A outer s H vs Q E hr h=>?_)
 ·obtain ⟨l,ss,c,t,n,rfl,_⟩:=h
  rfl
 ·obtain ⟨l,ss,c,t,n,rfl,hsu,ht,hok,hn,k⟩:=h
  refine ⟨_,(Ze (Yl (Zj Yw (hr.mono (by lia)) Ztx (Zb (qvN 0 Zcr) (Zb (qvN 1 Nq9) Zc))))
 (Zg (Zy (Zw Zg5 (qvN 2 Zl7) (Wr (locs:=["swearer", "weight"]) (fr:=[]) ⟨rfl,by decide +kernel,by decide +kernel,by decide +kernel,by decide +kernel,by decide +kernel⟩ .nil rfl (Yp (Zn V8 (Zi Z3 (Zi Zz (qvN 0 Zcr) (qvN 1 Nq9) (fun _ _=>rfl)) (Yg Ztv c_ONES r_ONES) (fun _ _=>rfl)) (Zi Z3 (Zi Zz (qvN 0 Zcr) (qvN 1 Nq9) (fun _ _=>rfl)) (Yg Ztw c_OTHERS r_OTHERS) (fun _ _=>rfl)))) ⟨fun _ _ _ _ _ _=>by
  have cnd:(inN ["swearer", "weight"] []).Nodup:=by decide +kernel
  exact ⟨(Vh 2 (by rfl) (Z2 (Z8 0 cnd) (Z2 (Z8 1 cnd) Wc))),Vg,(Yj 0)⟩⟩) rfl) (Zg Zn6) Z0))),?_⟩
  have hz:(5000:Nat)<=sizeLine:=by decide
  obtain ⟨us,hl,hrep⟩:=id hsu
  have hul:us.length=ss.length:=by have:=hrep.length; rw [xA] at this; exact this
  have hc:=(xC.mp ht).1
  obtain ⟨ta,u1,u2,u4,hu,hta,⟨b1,w1,rfl,hb1,hr1⟩,⟨b2,w2,rfl,hb2,hr2⟩,h4⟩:=SuitsAt.get (l:=l) hrep ht
  obtain ⟨L1,L2',_,_⟩:=hok
  have z1:=hr1.len
  have z2:=hr2.len
  have y1:=L1.2
  have y2:=L2'.2
  refine ⟨_,rfl,_,rfl,l,us,c,rfl,hl,by lia,?_⟩
  refine ⟨_,rfl,_,rfl,_,rfl,l,us,c,.ref ta,rfl,rfl,SqL.of hl,Yh hu,ta,_,0,.ref b1,rfl,rfl,SqT.of hta,rfl,?_⟩
  refine ⟨_,rfl,_,rfl,l,us,c,.ref ta,rfl,rfl,SqL.of hl,Yh hu,ta,_,1,.ref b2,rfl,rfl,SqT.of hta,rfl,?_⟩
  refine ⟨b1,b2,w1,w2,rfl,rfl,hb1,hb2,by lia,fun q hq=>?_⟩
  have Sc:=Same.new (o:=.lst (w1++w2)) hq
  have kc:(upd H q (.lst (w1++w2))) q=some (.lst (w1++w2)):=upd_same
  generalize (upd H q (.lst (w1++w2)))=H2 at Sc kc ⊢
  have hrs:RepS H2 (t.ones++t.others) (w1++w2):=RepS.mono (Same.t Sc) (RepS.app hr2 hr1)
  refine ⟨q,rfl,⟨_,SqL.of kc⟩,?_⟩
  refine Zbs kc hrs (by rw [xL]; lia) fun l2 hl2=>?_
  refine ⟨l2,_,rfl,.inl (SqL.of upd_same),rfl,Zcy _,_,rfl,?_⟩
  rw [Zc9]
  refine Uo (fun z=>absurd hn z) (fun _=>?_)
  exact k _ (Sc.trans (Same.new hl2))
def Zm1:Sp:=fun vs H Q _=>∃ (l:Addr) (ss:List Suit) (c:Nat) (t:Suit) (n:Str),vs = [.ref l,.int c,.str n]/\SuitsAt H ss l/\(∀ t∈ss,Wf t)/\ss.length<=1000/\ss[c]? = some t/\n∈(t.ones++t.others).map (·.1) /\
 ∀ (l2:Addr) (H':Hp),H l2=none->H' l2=some (.lst (Zp (Zv ss c n)))->Same H H'->Q (.ref l2) H'
abbrev U8:Stmt:=top 14
theorem Zty:FnScope ["suits", "case", "name"] ["suits", "case", "name"] (Za U8):=⟨rfl,rfl,rfl,by decide +kernel,rfl,by decide +kernel,by decide +kernel⟩
theorem Z8j:Nm (Za U8) "breaking" .globalImplicit:=by decide +kernel
theorem Zl8:Nm (Za U8) "case" .local:=by decide +kernel
theorem Ztz:Nm (Za U8) "check_oath" .globalImplicit:=by decide +kernel
theorem Zl9:Nm (Za U8) "name" .local:=by decide +kernel
theorem Zkf:Nm (Za U8) "suits" .local:=by decide +kernel
theorem Z8k (Zcf:Has K mg "breakers" U8) (T:Txt mg) (Zkg:Fn P w K mg base "check_oath" ["suits", "case", "name"] 2 Zow) (Zbb:Fn P w K mg base "breaking" ["suits"] 5 Zcx) :
  Fn P w K mg base "breakers" ["suits", "case", "name"] 6 Zm1:=by
 refine Zcf.fnQ Zty (fun _ _ _ _ _ _ us hl=>match us,hl with | [_,_,_],_=>rfl) (fun vs H Q E h=>?_) (fun f cdv A outer s H vs Q E hr h=>?_)
 ·obtain ⟨l,ss,c,t,n,rfl,_⟩:=h
  rfl
 ·obtain ⟨l,ss,c,t,n,rfl,hsu,hok,hlen,ht,hn,k⟩:=h
  refine ⟨_,(Ze (Yl (Zj Zkg (hr.mono (by lia)) Ztz (Zb (qvN 0 Zkf) (Zb (qvN 1 Zl8) (Zb (qvN 2 Zl9) Zc)))))
 (Zg (Zo (Zhv hr (Zj Zbb (hr.mono (by lia)) Z8j (Zb (qvN 0 Zkf) Zc)) (Y8 (Zb (qvN 1 Zl8) (Zb (qvN 2 Zl9) Zc))) (Yq Zc))))),?_⟩
  refine ⟨_,rfl,_,rfl,_,rfl,l,ss,c,t,n,rfl,hsu,ht,hok t (xT ht),hn,fun H1 sm1=>?_⟩
  refine ⟨_,rfl,l,ss,rfl,hsu.mono sm1,hok,hlen,fun g H2 hg ⟨kvs,a1,a2,a3,a4⟩ hfr sm2=>⟨g,rfl,.inr ⟨kvs,.inl a1⟩,?_⟩⟩
  refine ⟨_,rfl,_,rfl,by show 2<=sizeLine; decide,fun q hq=>?_⟩
  have Sq:=Same.new (o:=.tup [.int c,.str n]) hq
  have kq:(upd H2 q (.tup [.int c,.str n])) q=some (.tup [.int c,.str n]):=upd_same
  generalize (upd H2 q (.tup [.int c,.str n]))=H3 at Sq kq ⊢
  refine ⟨by show 0<=sizeLine; decide,fun e he=>?_⟩
  have Se:=Same.new (o:=.lst []) he
  have ke:(upd H3 e (.lst [])) e=some (.lst []):=upd_same
  generalize (upd H3 e (.lst []))=H4 at Se ke ⊢
  have S24:=Sq.trans Se
  have S:=(sm1.trans sm2).trans S24
  refine ⟨_,DGet.t (S24 _ _ a1) (k:=Zq c n) (Se _ _ kq),?_⟩
  rcases a4 c n with ⟨e1,e2⟩ | ⟨a,e1,e2⟩
  ·rw [e1]
   refine k e H4 (((sm1.trans sm2).trans Sq).free he) ?_ S
   unfold Zv
   rw [e2]
   exact ke
  ·rw [e1]
   exact k a H4 (sm1.free (hfr kvs c n a a1 e1)) (S24 _ _ e2) S
end
section
structure Ent where
 c:Nat
 st:Bool
 ns:List Str
def Zcs (e:Ent):D:=.tup [.int e.c,.bl e.st,.lst (e.ns.map D.str)]
theorem Zp4 {H:Hp}:∀ {ns:List Str}{vs:List V},RepL H (ns.map D.str) vs->vs=ns.map V.str
 | [],_,h=>h
 | n::ns,_,⟨v,r,e,h1,h2⟩=>by
  cases h1
  rw [e,Zp4 h2]
  rfl
theorem Zp5 {H:Hp}:∀ ns:List Str,RepL H (ns.map D.str) (ns.map V.str)
 | []=>rfl
 | n::ns=>⟨.str n,ns.map V.str,rfl,rfl,Zp5 ns⟩
theorem Z16 {H:Hp}{e:Ent}{v:V}(h:Rep H (Zcs e) v):∃ a na,v = .ref a/\H a=some (.tup [.int e.c,.bl e.st,.ref na])/\H na=some (.lst (e.ns.map V.str)):=by
 obtain ⟨a,vs,ev,h1,⟨u1,r1,rfl,a1,⟨u2,r2,rfl,a2,⟨u3,r3,rfl,a3,a4⟩⟩⟩⟩:=h
 cases a1
 cases a2
 cases a4
 obtain ⟨na,ws,rfl,h3,h4⟩:=a3
 exact ⟨a,na,ev,h1,by rw [h3,Zp4 h4]⟩
theorem Zrk {H:Hp}{e:Ent}{a na:Addr}(h1:H a=some (.tup [.int e.c,.bl e.st,.ref na])) (h2:H na=some (.lst (e.ns.map V.str))):Rep H (Zcs e) (.ref a) :=
 ⟨a,_,rfl,h1,⟨_,_,rfl,rfl,⟨_,_,rfl,rfl,⟨_,_,rfl,⟨na,_,rfl,h2,Zp5 _⟩,rfl⟩⟩⟩⟩
def Ze6 (ns:List Str) (sd:Zk):Zk:=sd.filter fun p=>decide (p.1∈ns)
def W1 (t:Suit) (st:Bool):Int:=if st then t.need+(wts t.others).sum else (wts t.ones).sum - t.need+1
def Ul (t:Suit) (st:Bool) (n:Str):Bool:=!decide (decide (n∈t.ones.map (·.1))=st)
theorem Zox {ss:List Suit}(hl:Line ss) {j c:Nat}{u:Suit}{n:Str}(hu:ss[j]? = some u) (hn:u.named=some ((c:Int),n)):c < j:=by
 obtain ⟨_,t,w,h,_⟩:=hl.back j u hu c n hn
 rw [xZ] at h
 have:=(xC.mp h).1
 rw [xY] at this
 lia
end
section
variable {P:Program}{w:World}{K:uFg}{mg:Str->Option Value}{base:Heap}
def Zoy:Sp:=fun vs H Q _=>∃ (l:Addr) (ss:List Suit),vs = [.ref l]/\SuitsAt H ss l/\ss.length<=1000/\∀ (g:Addr) (H':Hp),NbAt H' g ss (List.range ss.length)->Same H H'->Q (.ref g) H'
abbrev Zak:Stmt:=top 17
theorem Z8l:FnScope ["suits"] ["suits"] (Za Zak):=⟨rfl,rfl,rfl,by decide +kernel,rfl,by decide +kernel,by decide +kernel⟩
theorem Z8m:Nm (Za Zak) "len" .globalImplicit:=by decide +kernel
theorem Z8n:Nm (Za Zak) "list" .globalImplicit:=by decide +kernel
theorem Z8o:Nm (Za Zak) "naming" .globalImplicit:=by decide +kernel
theorem Z8p:Nm (Za Zak) "range" .globalImplicit:=by decide +kernel
theorem Zt0:Nm (Za Zak) "suits" .local:=by decide +kernel
theorem Z8q (Zkh:Has K mg "namers" Zak) (T:Txt mg) (Zj0:Fn P w K mg base "naming" ["suits", "cases"] 1 Zhz):Fn P w K mg base "namers" ["suits"] 2 Zoy:=by
 refine Zkh.fnQ Z8l (fun _ _ _ _ _ _ us hl=>match us,hl with | [_],_=>rfl) (fun vs H Q E h=>?_) (fun f cdv A outer s H vs Q E hr h=>?_)
 ·obtain ⟨l,ss,rfl,_⟩:=h
  rfl
 ·obtain ⟨l,ss,rfl,hsu,hlen,k⟩:=h
  refine ⟨_,(Zg (Zo (Zj Zj0 (hr.mono (by lia)) Z8o (Zb (qvN 0 Zt0) (Zb (Z1m (by rfl) Z8n T.list Z8p.1 T.range (Zb (Z6 Y9 Z8m T.len Yy (Zb (qvN 0 Zt0) Zc)) Zc)) Zc))))),?_⟩
  obtain ⟨us,hl,hrep⟩:=id hsu
  have hul:us.length=ss.length:=by have:=hrep.length; rw [xA] at this; exact this
  refine ⟨_,rfl,_,rfl,l,us,rfl,.inl (SqL.of hl),us.length,rfl,by lia,fun q hq=>?_⟩
  have S:=Same.new (o:=.lst (Zp (List.range us.length))) hq
  exact ⟨l,q,ss,List.range ss.length,rfl,hsu.mono S,by rw [zC]; exact hlen,(fun j hj=>yE.mp hj),by rw [← hul]; exact upd_same,fun g H' _ h1 _ h2=>k g H' h1 (S.trans h2)⟩
end
section
variable {P:Program}{w:World}{K:uFg}{mg:Str->Option Value}{base:Heap}{C:Addr}
abbrev Zal:Str := "fewest_to" ++ ".<locals>." ++ "<lambda>"
def o0:Str×Int:=(⟨#[]⟩,0)
theorem Zyi (sd:Zk):(List.range sd.length).map (fun i=>sd.getD i o0)=sd:=by
 apply List.ext_getElem
 ·simp
 ·intro i h1 h2
  simp [h2]
theorem RepS.pick {H:Hp}{sd:Zk}{vs:List V}(h:RepS H sd vs):∀ p:List Nat,(∀ i∈p,i < sd.length)->RepS H (p.map fun i=>sd.getD i o0) (p.map fun i=>vs.getD i .non)
 | [],_=>rfl
 | i::p,hp=>by
  have hi:=hp i xI
  have hl:=h.len
  obtain ⟨x,a,e1,e2,e3⟩:=h.get (xB (show i < vs.length by lia))
  refine ⟨a,_,?_,?_,RepS.pick h p fun j hj=>hp j (xN _ hj)⟩
  ·show vs.getD i .non::_=_
   rw [xD,xB (show i < vs.length by lia),e2]
   rfl
  ·show H a=some (.tup [.str (sd.getD i o0).1,.int (sd.getD i o0).2])
   rw [xD,e1]; exact e3
theorem Zwd {sd:Zk}{p:List Nat}(hp:p.Perm (List.range sd.length)) (hs:p.Pairwise (LKb true (wts sd))):(p.map fun i=>sd.getD i o0).Perm sd/\(wts (p.map fun i=>sd.getD i o0)).Pairwise (· >= ·):=by
 refine ⟨by have:=hp.map fun i=>sd.getD i o0; rw [Zyi] at this; exact this,?_⟩
 have hm:∀ i∈p,i < sd.length:=fun i hi=>yE.mp (hp.mem_iff.mp hi)
 unfold wts
 rw [yZ,List.pairwise_map]
 refine yS ?_ hs
 intro i j hi hj h
 have key:∀ i,i < sd.length->kI (wts sd) i=(sd.getD i o0).2:=fun i hi=>by
  unfold kI wts
  rw [xD,xD,xR,xB hi]
  rfl
 unfold LKb at h
 rw [if_pos rfl,key i (hm i hi),key j (hm j hj)] at h
 show (sd.getD i o0).2>=(sd.getD j o0).2
 lia
def Wi (sd:Zk) (goal:Int) (j:Nat):Int:=goal - ((wts sd).take j).sum
theorem Z8r (sd:Zk) (goal:Int):Wi sd goal 0=goal:=by unfold Wi; simp
def Zam (sd:Zk):List V:=sd.map fun p=>V.str p.1
def Zt1 (T:Addr):Sp:=fun vs H Q _=>∃ (a:Addr) (us:List V) (sd:Zk) (goal:Int),vs = [.ref a,.int goal]/\H a=some (.lst us)/\RepS H sd us/\sd.length<=60/\IsTab H T Zal /\
 ∀ sd':Zk,sd'.Perm sd->(wts sd').Pairwise (· >= ·) ->
  (∀ (k:Nat) (l:Addr) (H':Hp),k<=sd'.length->Wi sd' goal k < 1->(∀ j,j < k->1<=Wi sd' goal j)->H l=none->H' l=some (.lst (Zam (sd'.take k)))->Same H H'->Q (.ref l) H') /\
  ((∀ j,j<=sd'.length->1<=Wi sd' goal j)->∀ H',Same H H'->Q .non H')
abbrev Um:Stmt:=top 26
theorem Zcg:FnScope ["side", "goal", "names", "lack", "name", "weight"] ["side", "goal"] (Za Um):=⟨rfl,rfl,rfl,by decide +kernel,rfl,by decide +kernel,by decide +kernel⟩
theorem Z8s:Nm (Za Um) "goal" .local:=by decide +kernel
theorem Zgu:Nm (Za Um) "lack" .local:=by decide +kernel
theorem Zt2:Nm (Za Um) "name" .local:=by decide +kernel
theorem Zgv:Nm (Za Um) "names" .local:=by decide +kernel
theorem Z8t:Nm (Za Um) "side" .local:=by decide +kernel
theorem Z8u:Nm (Za Um) "sorted" .globalImplicit:=by decide +kernel
theorem Zt3:Nm (Za Um) "weight" .local:=by decide +kernel
theorem Z8v {c T:Addr}(Zki:HasL K mg "fewest_to" Um c) (B_fewest_to:LamB K mg c T) (kb:K.In base) (T0:Txt mg):Fn P w K mg base "fewest_to" ["side", "goal"] 4 (Zt1 T):=by
 refine Zki.fnQ B_fewest_to kb Zcg (fun _ _ _ _ _ _ us hl=>match us,hl with | [_,_],_=>rfl) (fun vs H Q E h=>?_) (fun f A outer s H vs Q E hr hL h=>?_)
 ·obtain ⟨a,us,sd,goal,rfl,_⟩:=h
  rfl
 ·obtain ⟨a,us,sd,goal,rfl,ha,hrep,hl60,hT,k⟩:=h
  have T:=T0
  refine ⟨_,(Ze (Zl (i:=2) Zcg.nd Zgv (Yq Zc))
 (Ze (Zl (i:=3) Zcg.nd Zgu (qvN 1 Z8s))
 (Ze (Y7 PassesOwn.never rfl (Yp (Zu8 (x := "oath") hL hT hr (by lia) Z8u T.sorted (Zb (qvN 0 Z8t) Zc) ⟨Zwa (by decide +kernel),rfl,⟨rfl,rfl,rfl,by decide +kernel,rfl,by decide +kernel,by decide +kernel⟩,fun _ _ _ _=>rfl,fun _ _ _ _ _=>(Zi Zzr (Ybm) Zd (fun _ _=>rfl))⟩)) (Zdd (by rfl) (Z2 (Yo (i:=4) Zcg.nd Zt2) (Z2 (Yo (i:=5) Zcg.nd Zt3) Wc)))
 (Ze (Zy (Zw Uu (qvN 3 Zgu) Zd (Z1 _)) (Zg (Zo (qvN 2 Zgv))) Z0)
 (Ze (Yl (Ww F.plainAttrs_list F.slot_list_append F.type_list_append Ug (qvN 2 Zgv) (Zb (qvN 4 Zt2) Zc)))
 (Zg (Zpf (i:=3) Zcg.nd Zgu (qvN 5 Zt3) Zpg)))))
 (Zg (Zo (Zzd (Zw Uu (qvN 3 Zgu) Zd (Z1 _)) (qvN 2 Zgv) V6)))))),?_⟩
  have hz:(5000:Nat)<=sizeLine:=by decide
  have hul:=hrep.len
  refine ⟨by show 0<=sizeLine; lia,fun l hl=>?_⟩
  have S1:=Same.new (o:=.lst []) hl
  have k1:(upd H l (.lst [])) l=some (.lst []):=upd_same
  have hrep1:=hrep.mono (H':=upd H l (.lst [])) fun b xs e=>S1 _ _ e
  generalize (upd H l (.lst []))=H1 at S1 k1 hrep1 ⊢
  refine Zt ?_
  dsimp only
  refine ⟨_,rfl,?_⟩
  refine Zt ?_
  dsimp only
  refine ⟨_,rfl,a,us,wts sd,rfl,SqL.of (S1 _ _ ha),by lia,by unfold wts; rw [xA]; lia,fun i x kk hx hk H2 t2=>?_,fun ls p H2 sm hls hp hpw=>?_⟩
  ·obtain ⟨o,b,ho,rfl,hb⟩:=hrep1.get hx
   rw [Zez ho] at hk
   cases hk
   exact ⟨_,rfl,b,_,1,.int o.2,rfl,rfl,SqT.of (t2 _ _ hb),rfl,rfl,rfl⟩
  ·rw [hul] at hp
   obtain ⟨q1,q2⟩:=Zwd hp hpw
   have hm:∀ i∈p,i < sd.length:=fun i hi=>yE.mp (hp.mem_iff.mp hi)
   have S2:=sm.trans (Same.new (o:=.lst (p.map fun i=>us.getD i .non)) hls)
   have hrep2:=(hrep1.pick p hm).mono (H':=upd H2 ls (.lst (p.map fun i=>us.getD i .non))) fun b xs e=>S2 _ _ e
   have k2:(upd H2 ls (.lst (p.map fun i=>us.getD i .non))) ls=some (.lst (p.map fun i=>us.getD i .non)):=upd_same
   have l2:=S2 _ _ k1
   have nls:ls≠l:=fun z=>by rw [z,sm _ _ k1] at hls; cases hls
   obtain ⟨kY,kN⟩:=k _ q1 q2
   generalize (upd H2 ls (.lst (p.map fun i=>us.getD i .non)))=H3 at S2 hrep2 k2 l2 ⊢
   have SH:=S1.trans S2
   generalize (p.map fun i=>us.getD i .non)=us' at hrep2 k2
   have hsl:(p.map fun i=>sd.getD i o0).length<=60:=by have:=q1.length_eq; lia
   generalize (p.map fun i=>sd.getD i o0)=sd' at q1 q2 hrep2 kY kN hsl
   have hul':=hrep2.len
   have keep:∀ {H':Hp},SameX l H3 H'->Same H H':=fun {H'} sx b o e=>sx b o (Z5 e hl) (SH _ _ e)
   refine ⟨ls,rfl,⟨_,SqL.of k2⟩,?_⟩
   refine Uh us' (fun i σ H'=>∃ v4 v5:Option V,σ = [some (.ref a),some (.int goal),some (.ref l),some (.int (Wi sd' goal i)),v4,v5]/\SameX l H3 H'/\H' l=some (.lst (Zam (sd'.take i)))/\∀ j,j < i->1<=Wi sd' goal j)
    ⟨none,none,by rw [Z8r]; rfl,SameX.refl,l2,fun j hj=>by lia⟩ (fun i σ H' _ ⟨_,_,_,sx,_⟩=>SqL.of (sx _ _ nls k2)) ?_ ?_
   ·rintro i x σ H' hx ⟨v4,v5,rfl,sx,hl',hlk⟩
    obtain ⟨o,b,ho,rfl,hb⟩:=hrep2.get hx
    have hi:=(xC.mp ho).1
    have hb':H' b=some (.tup [.str o.1,.int o.2]):=sx _ _ (fun z=>by rw [z,l2] at hb; cases hb) hb
    refine ⟨b,_,rfl,SqT.of hb',rfl,_,_,rfl,_,_,rfl,rfl,?_⟩
    dsimp only
    refine ⟨_,rfl,_,_,rfl,rfl,_,rfl,Yc (fun c=>?_) (fun c=>?_)⟩
    ·exact ⟨_,rfl,kY i l H' (by lia) c hlk hl hl' (keep sx)⟩
    ·have hnl:(Zam (sd'.take i)).length=i:=by unfold Zam; rw [xA,xY]; lia
     refine ⟨_,rfl,.inl ⟨rfl,_,SqL.of hl'⟩,_,rfl,l,_,.str o.1,rfl,rfl,hl',by lia,?_⟩
     refine ⟨_,rfl,_,rfl,_,_,rfl,rfl,some (.str o.1),some (.int o.2),?_,sx.trans SameX.upd,?_,fun j hj=>?_⟩
     ·have e:Wi sd' goal (i+1)=Wi sd' goal i - o.2:=by unfold Wi; rw [Zmd (Zez ho)]; lia
      rw [e]; rfl
     ·rw [upd_same,yB,ho]
      unfold Zam
      rw [xP]
      rfl
     ·by_cases z:j < i
      ·exact hlk j z
      ·have:j=i:=by lia
       rw [this]; lia
   ·rintro σ H' ⟨v4,v5,rfl,sx,hl',hlk⟩
    rw [hul'] at hl' hlk
    rw [hul']
    refine ⟨_,rfl,_,_,rfl,rfl,_,rfl,Yc (fun c=>?_) (fun c=>?_)⟩
    ·exact ⟨_,rfl,kY sd'.length l H' (xE _) c hlk hl hl' (keep sx)⟩
    ·refine kN (fun j hj=>?_) H' (keep sx)
     by_cases z:j < sd'.length
     ·exact hlk j z
     ·have:j=sd'.length:=by lia
      rw [this]; lia
end
section
variable {P:Program}{w:World}{K:uFg}{mg:Str->Option Value}{base:Heap}
def Zi5 (H:Hp) (t:Suit) (v:V):Prop:=∃ ta u1 u2 u4,v = .ref ta/\H ta=some (.tup [u1,u2,.int t.need,u4])/\SideAt H t.ones u1/\SideAt H t.others u2
theorem SuitsAt.suit {H:Hp}{ss:List Suit}{l:Addr}{us:List V}{i:Nat}{t:Suit}(b:RepL H (ss.map Ub) us) (ht:ss[i]? = some t):∃ v,us[i]? = some v/\Zi5 H t v:=by
 obtain ⟨ta,u1,u2,u4,hu,hta,h1,h2,_⟩:=SuitsAt.get (l:=l) b ht
 exact ⟨_,hu,ta,u1,u2,u4,rfl,hta,h1,h2⟩
def Zoz:Sp:=fun vs H Q _=>∃ (v:V) (t:Suit) (st:Bool),vs = [v,.bl st]/\Zi5 H t v/\Wf t/\∀ H',Same H H'->Q (.int (W1 t st)) H'
abbrev U0:Stmt:=top 36
theorem Z8w:FnScope ["suit", "stands"] ["suit", "stands"] (Za U0):=⟨rfl,rfl,rfl,by decide +kernel,rfl,by decide +kernel,by decide +kernel⟩
theorem Zt4:Nm (Za U0) "NEED" .globalImplicit:=by decide +kernel
theorem Z8x:Nm (Za U0) "ONES" .globalImplicit:=by decide +kernel
theorem Z8y:Nm (Za U0) "OTHERS" .globalImplicit:=by decide +kernel
theorem Z8z:Nm (Za U0) "stands" .local:=by decide +kernel
theorem Zgw:Nm (Za U0) "suit" .local:=by decide +kernel
theorem Zt5:Nm (Za U0) "total" .globalImplicit:=by decide +kernel
theorem Z80 (Zkj:Has K mg "enough" U0) (T:Txt mg) (C0:∃ t,mg "ONES" = some (.int 0 t)) (C1:∃ t,mg "OTHERS" = some (.int 1 t)) (C2:∃ t,mg "NEED" = some (.int 2 t)) (Zt6:Fn P w K mg base "total" ["side"] 1 Zpu) :
  Fn P w K mg base "enough" ["suit", "stands"] 2 Zoz:=by
 obtain ⟨t0,c_ONES⟩:=C0
 obtain ⟨t1,c_OTHERS⟩:=C1
 obtain ⟨t2,c_NEED⟩:=C2
 have r_ONES:RelV (.int 0) (.int 0 t0):=⟨t0,rfl⟩
 have r_OTHERS:RelV (.int 1) (.int 1 t1):=⟨t1,rfl⟩
 have r_NEED:RelV (.int 2) (.int 2 t2):=⟨t2,rfl⟩
 refine Zkj.fnQ Z8w (fun _ _ _ _ _ _ us hl=>match us,hl with | [_,_],_=>rfl) (fun vs H Q E h=>?_) (fun f cdv A outer s H vs Q E hr h=>?_)
 ·obtain ⟨v,t,st,rfl,_⟩:=h
  rfl
 ·obtain ⟨v,t,st,rfl,⟨ta,u1,u2,u4,rfl,hta,h1,h2⟩,⟨L1,L2',_,_⟩,k⟩:=h
  refine ⟨_,(Ze (Zy (Uq (qvN 1 Z8z)) (Zg (Zo (Zn Yr (Zi Z3 (qvN 0 Zgw) (Yg Zt4 c_NEED r_NEED) (fun _ _=>rfl)) (Zj Zt6 (hr.mono (by lia)) Zt5 (Zb (Zi Z3 (qvN 0 Zgw) (Yg Z8y c_OTHERS r_OTHERS) (fun _ _=>rfl)) Zc))))) Z0)
 (Zg (Zo (Zn Yr (Zn V7 (Zj Zt6 (hr.mono (by lia)) Zt5 (Zb (Zi Z3 (qvN 0 Zgw) (Yg Z8x c_ONES r_ONES) (fun _ _=>rfl)) Zc)) (Zi Z3 (qvN 0 Zgw) (Yg Zt4 c_NEED r_NEED) (fun _ _=>rfl))) Zd)))),?_⟩
  refine ⟨_,rfl,st,rfl,?_⟩
  unfold W1 at k
  cases st with
  | true =>
   rw [if_pos rfl] at k
   refine Yb ?_
   exact ⟨_,rfl,ta,_,2,_,rfl,rfl,SqT.of hta,rfl,_,rfl,ta,_,1,u2,rfl,rfl,SqT.of hta,rfl,u2,t.others,rfl,h2,L2',fun H1 s1=>⟨_,_,rfl,rfl,k H1 s1⟩⟩
  | false =>
   rw [if_neg xJ] at k
   refine Yt ?_
   exact ⟨_,rfl,ta,_,0,u1,rfl,rfl,SqT.of hta,rfl,u1,t.ones,rfl,h1,L1,fun H1 s1=>⟨_,rfl,ta,_,2,_,rfl,rfl,SqT.of (s1 _ _ hta),rfl,_,_,rfl,rfl,_,_,rfl,rfl,k H1 s1⟩⟩
def Zrl:Sp:=fun vs H Q _=>∃ (v:V) (t:Suit) (st:Bool) (n:Str),vs = [v,.bl st,.str n]/\Zi5 H t v/\Wf t/\∀ H',Same H H'->Q (.bl (Ul t st n)) H'
abbrev Zbg:Stmt:=top 37
theorem Z81:FnScope ["suit", "stands", "name"] ["suit", "stands", "name"] (Za Zbg):=⟨rfl,rfl,rfl,by decide +kernel,rfl,by decide +kernel,by decide +kernel⟩
theorem Z82:Nm (Za Zbg) "ONES" .globalImplicit:=by decide +kernel
theorem Z83:Nm (Za Zbg) "name" .local:=by decide +kernel
theorem Z84:Nm (Za Zbg) "stands" .local:=by decide +kernel
theorem Z85:Nm (Za Zbg) "suit" .local:=by decide +kernel
theorem Z86 (Zkk:Has K mg "claims_broken" Zbg) (T:Txt mg) (C0:∃ t,mg "ONES" = some (.int 0 t)):Fn P w K mg base "claims_broken" ["suit", "stands", "name"] 1 Zrl:=by
 obtain ⟨t0,c_ONES⟩:=C0
 have r_ONES:RelV (.int 0) (.int 0 t0):=⟨t0,rfl⟩
 refine Zkk.fnQ Z81 (fun _ _ _ _ _ _ us hl=>match us,hl with | [_,_,_],_=>rfl) (fun vs H Q E h=>?_) (fun f cdv A outer s H vs Q E hr h=>?_)
 ·obtain ⟨v,t,st,n,rfl,_⟩:=h
  rfl
 ·obtain ⟨v,t,st,n,rfl,⟨ta,u1,u2,u4,rfl,hta,⟨b1,v1,rfl,hb1,hr1⟩,h2⟩,⟨L1,_,_,_⟩,k⟩:=h
  refine ⟨_,(Zg (Zo (Up Zql (Up Zmr (qvN 2 Z83) (Wr (locs:=["one", "weight"]) (fr:=[]) ⟨rfl,by decide +kernel,by decide +kernel,by decide +kernel,by decide +kernel,by decide +kernel⟩ .nil rfl (Yp (Zi Z3 (qvN 0 Z85) (Yg Z82 c_ONES r_ONES) (fun _ _=>rfl))) ⟨fun _ _ _ _ _ _=>by
  have cnd:(inN ["one", "weight"] []).Nodup:=by decide +kernel
  exact ⟨(Vh 2 (by rfl) (Z2 (Z8 0 cnd) (Z2 (Z8 1 cnd) Wc))),Vg,(Yj 0)⟩⟩) rfl) (qvN 1 Z84) (Z1 _)))),?_⟩
  have l1:=L1.2
  refine ⟨_,rfl,_,rfl,ta,_,0,_,rfl,rfl,SqT.of hta,rfl,b1,rfl,⟨_,SqL.of hb1⟩,?_⟩
  refine Zbs hb1 hr1 (by lia) fun q hq=>?_
  refine ⟨q,_,rfl,.inl (SqL.of upd_same),rfl,Zcy _,_,rfl,rfl,?_⟩
  have e:(!decide (V.bl (inV (.str n) ((t.ones.map (·.1)).map V.str))=V.bl st))=Ul t st n:=by
   unfold Ul
   rw [Zc9,yW]
   simp
  have k':=k _ (Same.new (o:=.lst ((t.ones.map (·.1)).map V.str)) hq)
  rw [← e] at k'
  exact k'
def Zi6 (t:Suit) (e:Ent):Bool:=decide ((Ze6 e.ns (t.ones++t.others)).length=e.ns.length) && decide (W1 t e.st<=(wts (Ze6 e.ns (t.ones++t.others))).sum)
end
section
variable {P:Program}{w:World}{K:uFg}{mg:Str->Option Value}{base:Heap}
abbrev Tru:=List (Key×V)
def Z87 (tks:Tru):Prop:=∀ k v,Zm tks k=some v->∃ b,v = .bl b
end
section
variable {P:Program}{w:World}{K:uFg}{mg:Str->Option Value}{base:Heap}
structure TruIs (tks:Tru) (es:List Ent):Prop where
 len:tks.length<=es.length
 ok:Z87 tks
 to_:∀ e∈es,Zm tks (.inl (e.c:Int))=some (.bl e.st)
 nd:(es.map (·.c)).Nodup
 from_:∀ (j:Nat) b,Zm tks (.inl (j:Int))=some (.bl b)->∃ e∈es,e.c=j/\e.st=b
structure Good2 (ss:List Suit) (c:Nat) (st:Bool) (es:List Ent):Prop where
 nd:(es.map (·.c)).Nodup
 asked:∃ e∈es,e.c=c/\e.st=st
 sound:∀ e∈es,∀ t,ss[e.c]? = some t->Zi6 t e=true
 back:∀ e∈es,∀ t,ss[e.c]? = some t->∀ n∈e.ns,
  (Ul t e.st n=true->∃ j u,ss[j]? = some u/\u.named=some ((e.c:Int),n)/\∃ f∈es,f.c=j/\f.st=true) /\
  (Ul t e.st n=false->∀ j u,ss[j]? = some u->u.named=some ((e.c:Int),n)->∃ f∈es,f.c=j/\f.st=false)
end
section
variable {P:Program}{w:World}{K:uFg}{mg:Str->Option Value}{base:Heap}
def brB (ss:List Suit) (c:Nat) (n:Str):Bool:=decide (Zv ss (c:Int) n ≠ [])
def Ud (ss:List Suit) (c:Nat) (t:Suit) (st:Bool):Zk:=(t.ones.filter fun p=>!decide (brB ss c p.1=st))++t.others.filter fun p=>decide (brB ss c p.1=st)
theorem Znu {sd:Zk}{f:Str×Int->Bool}{i:Nat}{p:Str×Int}(h:sd[i]? = some p):(sd.take (i+1)).filter f=(sd.take i).filter f++(if f p then [p] else []):=by
 rw [yB,h,List.filter_append]
 cases e:f p <;> simp [e]
theorem Zo0 {a b:Zk}(h:a.Perm b):(wts a).sum=(wts b).sum:=by
 unfold wts
 induction h with
 | nil=>rfl
 | cons x _ ih=>rw [xQ,xQ,yP,yP,ih]
 | swap x y l=>simp only [xQ,yP]; lia
 | trans _ _ h1 h2=>exact h1.trans h2
theorem Zrm {H:Hp}{g:Addr}{ss:List Suit}(h:NbAt H g ss (stL (Z4 ss))):∃ kvs:Vj,H g=some (.dT kvs)/\(∀ (c:Nat) n,(Zm kvs (Zq c n)).isSome=brB ss c n)/\∀ (c:Nat) n,brB ss c n=true->∃ a,Zm kvs (Zq c n)=some (.ref a)/\H a=some (.lst (Zp (Zv ss c n))):=by
 obtain ⟨kvs,hg,_,hk,hn⟩:=h
 refine ⟨kvs,hg,fun c n=>?_,fun c n hb=>?_⟩
 ·unfold brB
  rcases hn c n with ⟨h1,h2⟩ | ⟨a,h1,h2⟩
  ·rw [h1]; exact (xK (fun z=>z h2)).symm
  ·obtain ⟨p,hp,e⟩:=xV.mp (Zh6 h1)
   obtain ⟨c',n',e2,h3⟩:=hk p hp
   have:=Zc4 (e.symm.trans e2)
   cases this
   rw [h1]; exact (xH h3).symm
 ·rcases hn c n with ⟨h1,h2⟩ | ⟨a,h1,h2⟩
  ·exact (yD hb h2).elim
  ·exact ⟨a,h1,h2⟩
def Zrn (T:Addr):Sp:=fun vs H Q _=>∃ (l g:Addr) (ss:List Suit) (c:Nat) (t:Suit) (st:Bool),vs = [.ref l,.int c,.bl st,.ref g]/\SuitsAt H ss l/\ss[c]? = some t/\Wf t/\(t.ones++t.others).length<=60/\NbAt H g ss (stL (Z4 ss))/\IsTab H T Zal/\W1 t st<=(wts (Ud ss c t st)).sum /\
 ∀ (q:Addr) (k:Nat) (sd':Zk) (H':Hp),sd'.Perm (Ud ss c t st)->(wts sd').Pairwise (· >= ·)->k<=sd'.length->Wi sd' (W1 t st) k < 1->(∀ j,j < k->1<=Wi sd' (W1 t st) j)->H q=none->H' q=some (.lst (Zam (sd'.take k)))->Same H H'->Q (.ref q) H'
abbrev W2:Stmt:=top 35
theorem Zfv:FnScope ["suits", "case", "stands", "broken_by", "suit", "true_ones", "true_others"] ["suits", "case", "stands", "broken_by"] (Za W2):=⟨rfl,rfl,rfl,by decide +kernel,rfl,by decide +kernel,by decide +kernel⟩
theorem Z88:Nm (Za W2) "ONES" .globalImplicit:=by decide +kernel
theorem Z89:Nm (Za W2) "OTHERS" .globalImplicit:=by decide +kernel
theorem Zt7:Nm (Za W2) "broken_by" .cell:=by decide +kernel
theorem Zkl:Nm (Za W2) "case" .cell:=by decide +kernel
theorem Z9a:Nm (Za W2) "enough" .globalImplicit:=by decide +kernel
theorem Z9b:Nm (Za W2) "fewest_to" .globalImplicit:=by decide +kernel
theorem Zkm:Nm (Za W2) "stands" .cell:=by decide +kernel
theorem Zgx:Nm (Za W2) "suit" .local:=by decide +kernel
theorem Z9c:Nm (Za W2) "suits" .local:=by decide +kernel
theorem Zt8:Nm (Za W2) "true_ones" .local:=by decide +kernel
theorem Zt9:Nm (Za W2) "true_others" .local:=by decide +kernel
theorem Z9d {Tt:Addr}(Zkn:Has K mg "fewest_names" W2) (T:Txt mg) (C0:∃ t,mg "ONES" = some (.int 0 t)) (C1:∃ t,mg "OTHERS" = some (.int 1 t)) (Z9e:Fn P w K mg base "fewest_to" ["side", "goal"] 4 (Zt1 Tt)) (Z9f:Fn P w K mg base "enough" ["suit", "stands"] 2 Zoz) :
  Fn P w K mg base "fewest_names" ["suits", "case", "stands", "broken_by"] 5 (Zrn Tt):=by
 obtain ⟨t0,c_ONES⟩:=C0
 obtain ⟨t1,c_OTHERS⟩:=C1
 have r_ONES:RelV (.int 0) (.int 0 t0):=⟨t0,rfl⟩
 have r_OTHERS:RelV (.int 1) (.int 1 t1):=⟨t1,rfl⟩
 refine Zkn.fnQ Zfv (fun _ _ _ _ _ _ us hl=>match us,hl with | [_,_,_,_],_=>rfl) (fun vs H Q E h=>?_) (fun f cdv A outer s H vs Q E hr h=>?_)
 ·obtain ⟨l,g,ss,c,t,st,rfl,_⟩:=h
  rfl
 ·obtain ⟨l,g,ss,c,t,st,rfl,hsu,ht,hok,h60,hnb,hT,hen,k⟩:=h
  refine ⟨_,(Ze (Zl (i:=4) Zfv.nd Zgx (Zi Zz (qvN 0 Z9c) (qvC 1 Zkl) (fun _ _=>rfl)))
 (Ze (Zes (locs:=["oath"]) (fr:=[("case", 1),("stands", 2),("broken_by", 3)]) ⟨rfl,by decide +kernel,by decide +kernel,by decide +kernel,by decide +kernel,by decide +kernel⟩ (.consN Zkl (.consN Zkm (.consN Zt7 .nil))) rfl (Yp (Zi Z3 (qvN 4 Zgx) (Yg Z88 c_ONES r_ONES) (fun _ _=>rfl))) ⟨fun _ _ _ _ _ _=>by
  have cnd:(inN ["oath"] [("case", 1),("stands", 2),("broken_by", 3)]).Nodup:=by decide +kernel
  exact ⟨(Z8 0 cnd),(Zbu (Zw Zql (Up (Zib hr) (Y8 (Zb (Y4 1) (Zb (Zi Zc3 (Yj 0) Zd (fun _ _=>rfl)) Zc))) (Y4 3) rfl) (Y4 2) (Z1 _))),(Yj 0)⟩⟩ Zfv.nd Zt8 (by rfl) (i:=5))
 (Ze (Zes (locs:=["oath"]) (fr:=[("case", 1),("stands", 2),("broken_by", 3)]) ⟨rfl,by decide +kernel,by decide +kernel,by decide +kernel,by decide +kernel,by decide +kernel⟩ (.consN Zkl (.consN Zkm (.consN Zt7 .nil))) rfl (Yp (Zi Z3 (qvN 4 Zgx) (Yg Z89 c_OTHERS r_OTHERS) (fun _ _=>rfl))) ⟨fun _ _ _ _ _ _=>by
  have cnd:(inN ["oath"] [("case", 1),("stands", 2),("broken_by", 3)]).Nodup:=by decide +kernel
  exact ⟨(Z8 0 cnd),(Zbu (Zw We (Up (Zib hr) (Y8 (Zb (Y4 1) (Zb (Zi Zc3 (Yj 0) Zd (fun _ _=>rfl)) Zc))) (Y4 3) rfl) (Y4 2) (Z1 _))),(Yj 0)⟩⟩ Zfv.nd Zt9 (by rfl) (i:=6))
 (Zg (Zo (Zj Z9e (hr.mono (by lia)) Z9b (Zb (Zn V8 (qvN 5 Zt8) (qvN 6 Zt9)) (Zb (Zj Z9f (hr.mono (by lia)) Z9a (Zb (qvN 4 Zgx) (Zb (qvC 2 Zkm) Zc))) Zc)))))))),?_⟩
  have hz:(5000:Nat)<=sizeLine:=by decide
  obtain ⟨us,hl,hrep⟩:=id hsu
  obtain ⟨tv,htv,ta,u1,u2,u4,rfl,hta,⟨b1,v1,rfl,hb1,hr1⟩,⟨b2,v2,rfl,hb2,hr2⟩⟩:=SuitsAt.suit (l:=l) hrep ht
  obtain ⟨kvs,hg,isb,_⟩:=Zrm hnb
  have z1:=hr1.len
  have z2:=hr2.len
  have h60':=h60
  rw [xL] at h60'
  refine ⟨_,rfl,_,rfl,l,us,c,.ref ta,rfl,rfl,SqL.of hl,Yh htv,?_⟩
  refine ⟨_,rfl,ta,_,0,_,rfl,rfl,SqT.of hta,rfl,b1,rfl,⟨_,SqL.of hb1⟩,?_⟩
  refine Vv (xs:=v1) (fun i ys H'=>Same H H'/\RepS H' ((t.ones.take i).filter fun p=>!decide (brB ss c p.1=st)) ys/\ys.length<=i) ⟨Same.refl _,rfl,xE _⟩ (by lia) (fun i ys H' _ ⟨e,_⟩=>SqL.of (e _ _ hb1)) (fun i ys H' ⟨_,_,h⟩=>h) ?_ ?_
  ·rintro i x ys H' hx ⟨sm,hys,hyl⟩ ls hls
   obtain ⟨w0,rfl⟩:=Zck hls
   obtain ⟨p,b,hp,rfl,hb⟩:=hr1.get hx
   have et:=Znu (f:=fun p=>!decide (brB ss c p.1=st)) hp
   refine ⟨⟨[_],rfl,rfl⟩,?_⟩
   refine ⟨_,rfl,_,rfl,b,_,0,_,rfl,rfl,SqT.of (sm _ _ hb),rfl,by show 2<=sizeLine; lia,fun q hq=>?_⟩
   have Sq:=Same.new (o:=.tup [.int c,.str p.1]) hq
   have kq:(upd H' q (.tup [.int c,.str p.1])) q=some (.tup [.int c,.str p.1]):=upd_same
   have hys1:=RepS.mono (Same.t Sq) hys
   generalize (upd H' q (.tup [.int c,.str p.1]))=H1 at Sq kq hys1 ⊢
   have S1:=sm.trans Sq
   refine ⟨_,rfl,g,_,rfl,DGet.t (S1 _ _ hg) (k:=Zq c p.1) kq,_,rfl,rfl,_,rfl,?_⟩
   rw [isb]
   refine Uo (fun hne=>?_) (fun heq=>?_)
   ·have hf:(!decide (brB ss c p.1=st))=true:=by simpa using hne
    rw [if_pos hf] at et
    refine ⟨_,rfl,S1,?_,by rw [xL]; show _+1<=_; lia⟩
    rw [et]
    exact RepS.app (b:=[p]) (ws:=[.ref b]) ⟨b,[],rfl,S1 _ _ hb,rfl⟩ hys1
   ·have hf:¬ (!decide (brB ss c p.1=st))=true:=by simpa using heq
    rw [if_neg hf,yO] at et
    exact ⟨S1,by rw [et]; exact hys1,by lia⟩
  rintro y1 H1 ⟨sm1,hy1,hyl1⟩ q1 hq1
  rw [z1,yL] at hy1
  have Sq1:=Same.new (o:=.lst y1) hq1
  have kq1:(upd H1 q1 (.lst y1)) q1=some (.lst y1):=upd_same
  have hy1':=RepS.mono (Same.t Sq1) hy1
  generalize (upd H1 q1 (.lst y1))=H2 at Sq1 kq1 hy1' ⊢
  have S2:=sm1.trans Sq1
  refine ⟨_,rfl,ta,_,1,_,rfl,rfl,SqT.of (S2 _ _ hta),rfl,b2,rfl,⟨_,SqL.of (S2 _ _ hb2)⟩,?_⟩
  refine Vv (xs:=v2) (fun i ys H'=>Same H2 H'/\RepS H' ((t.others.take i).filter fun p=>decide (brB ss c p.1=st)) ys/\ys.length<=i) ⟨Same.refl _,rfl,xE _⟩ (by lia) (fun i ys H' _ ⟨e,_⟩=>SqL.of (e _ _ (S2 _ _ hb2))) (fun i ys H' ⟨_,_,h⟩=>h) ?_ ?_
  ·rintro i x ys H' hx ⟨sm,hys,hyl⟩ ls hls
   obtain ⟨w0,rfl⟩:=Zck hls
   obtain ⟨p,b,hp,rfl,hb⟩:=hr2.get hx
   have et:=Znu (f:=fun p=>decide (brB ss c p.1=st)) hp
   have sH:=S2.trans sm
   refine ⟨⟨[_],rfl,rfl⟩,?_⟩
   refine ⟨_,rfl,_,rfl,b,_,0,_,rfl,rfl,SqT.of (sH _ _ hb),rfl,by show 2<=sizeLine; lia,fun q hq=>?_⟩
   have Sq:=Same.new (o:=.tup [.int c,.str p.1]) hq
   have kq:(upd H' q (.tup [.int c,.str p.1])) q=some (.tup [.int c,.str p.1]):=upd_same
   have hys1:=RepS.mono (Same.t Sq) hys
   generalize (upd H' q (.tup [.int c,.str p.1]))=H3 at Sq kq hys1 ⊢
   have S1:=sH.trans Sq
   refine ⟨_,rfl,g,_,rfl,DGet.t (S1 _ _ hg) (k:=Zq c p.1) kq,_,rfl,rfl,_,rfl,?_⟩
   rw [isb]
   refine Yc (fun heq=>?_) (fun hne=>?_)
   ·have hf:decide (brB ss c p.1=st)=true:=by simpa using heq
    rw [if_pos hf] at et
    refine ⟨_,rfl,sm.trans Sq,?_,by rw [xL]; show _+1<=_; lia⟩
    rw [et]
    exact RepS.app (b:=[p]) (ws:=[.ref b]) ⟨b,[],rfl,S1 _ _ hb,rfl⟩ hys1
   ·have hf:¬ decide (brB ss c p.1=st)=true:=by simpa using hne
    rw [if_neg hf,yO] at et
    exact ⟨sm.trans Sq,by rw [et]; exact hys1,by lia⟩
  rintro y2 H3 ⟨sm3,hy2,hyl2⟩ q2 hq2
  rw [z2,yL] at hy2
  have Sq2:=Same.new (o:=.lst y2) hq2
  have kq2:(upd H3 q2 (.lst y2)) q2=some (.lst y2):=upd_same
  have hy2':=RepS.mono (Same.t Sq2) hy2
  generalize (upd H3 q2 (.lst y2))=H4 at Sq2 kq2 hy2' ⊢
  have S34:=sm3.trans Sq2
  have S4:=S2.trans S34
  have hy1'':=RepS.mono (Same.t S34) hy1'
  refine ⟨_,rfl,_,rfl,q1,q2,y1,y2,rfl,rfl,S34 _ _ kq1,kq2,by lia,fun q3 hq3=>?_⟩
  have Sq3:=Same.new (o:=.lst (y1++y2)) hq3
  have kq3:(upd H4 q3 (.lst (y1++y2))) q3=some (.lst (y1++y2)):=upd_same
  have hy3:RepS (upd H4 q3 (.lst (y1++y2))) (Ud ss c t st) (y1++y2):=RepS.mono (Same.t Sq3) (RepS.app hy2' hy1'')
  generalize (upd H4 q3 (.lst (y1++y2)))=H5 at Sq3 kq3 hy3 ⊢
  have S5:=S4.trans Sq3
  refine ⟨_,rfl,_,rfl,.ref ta,t,st,rfl,⟨ta,.ref b1,.ref b2,u4,rfl,S5 _ _ hta,SideAt.mono ⟨b1,v1,rfl,hb1,hr1⟩ S5,SideAt.mono ⟨b2,v2,rfl,hb2,hr2⟩ S5⟩,hok,fun H6 s6=>?_⟩
  have S6:=S5.trans s6
  have hy6:=RepS.mono (Same.t s6) hy3
  have hl3:=hy6.len
  rw [xL] at hl3
  refine ⟨q3,y1++y2,Ud ss c t st,W1 t st,rfl,s6 _ _ kq3,hy6,by lia,hT.same S6,fun sd' hp hs=>⟨fun kk q H7 h1 h2 h3 h4 h5 h6=>?_,fun hno H7 _=>?_⟩⟩
  ·exact k q kk sd' H7 hp hs h1 h2 h3 (S6.free h4) h5 (S6.trans h6)
  ·exfalso
   have:=hno sd'.length (xE _)
   unfold Wi at this
   rw [show sd'.length=(wts sd').length by unfold wts; rw [xA],yL,Zo0 hp] at this
   lia
end
section
variable {P:Program}{w:World}{K:uFg}{mg:Str->Option Value}{base:Heap}
def V2 (ss:List Suit) (t:Suit) (e:Ent) (n:Str):List Nat:=if Ul t e.st n then (Zv ss (e.c:Int) n).take 1 else Yd ss (e.c:Int) n (List.range ss.length)
def Wj (ss:List Suit) (t:Suit) (e:Ent) (ns:List Str):List Nat:=ns.flatMap (V2 ss t e)
theorem Z17 (ss:List Suit):(stL (Z4 ss)).length<=ss.length:=by
 have:=Ze2 (Z4 ss) (Z4 ss).length
 have h:(Z4 ss).length=ss.length:=Zbn [] ss 0
 unfold stL
 lia
theorem Zo1 (ss:List Suit) (t:Suit) (e:Ent) (n:Str):(V2 ss t e n).length<=ss.length:=by
 unfold V2
 split
 ·have h1:=Zi1 ss (e.c:Int) n (stL (Z4 ss))
  have h2:=Z17 ss
  unfold Zv
  rw [xY]
  lia
 ·have h1:=Zi1 ss (e.c:Int) n (List.range ss.length)
  rw [zC] at h1
  exact h1
theorem Zh3 (ss:List Suit) (t:Suit) (e:Ent):∀ ns:List Str,(Wj ss t e ns).length<=ns.length * ss.length
 | []=>yT _
 | n::ns=>by
  have ih:=Zh3 ss t e ns
  have h1:=Zo1 ss t e n
  unfold Wj at ih ⊢
  rw [List.flatMap_cons,xL,xS,Nat.succ_mul]
  lia
theorem Zyj {ss:List Suit}{t:Suit}{e:Ent}{ns:List Str}{i:Nat}{n:Str}(h:ns[i]? = some n):Wj ss t e (ns.take (i+1))=Wj ss t e (ns.take i)++V2 ss t e n:=by
 unfold Wj
 rw [yB,h,List.flatMap_append]
 simp
theorem Z0d {ss:List Suit}{t:Suit}{e:Ent}{n:Str}{j:Nat}(h:j∈V2 ss t e n):∃ u,ss[j]? = some u/\u.named=some ((e.c:Int),n):=by
 unfold V2 at h
 split at h
 ·have:=yR h
  unfold Zv Yd at this
  exact nmd_iff.mp (yH.mp this).2
 ·unfold Yd at h
  exact nmd_iff.mp (yH.mp h).2
theorem Z0e {ss:List Suit}{t:Suit}{e:Ent}{ns:List Str}{j:Nat}(h:j∈Wj ss t e ns):∃ n∈ns,j∈V2 ss t e n:=yX.mp h
theorem Znv (a b:List Nat):Zp (a++b)=Zp a++Zp b:=by unfold Zp; rw [xP]
theorem Zei (a:List Nat):(Zp a).length=a.length:=by unfold Zp; rw [xA]
def Zp6:Sp:=fun vs H Q _=>∃ (l g1 g2:Addr) (v:V) (ss:List Suit) (e:Ent) (t:Suit),vs = [.ref l,v,.ref g1,.ref g2]/\SuitsAt H ss l/\ss.length<=20/\ss[e.c]? = some t/\Wf t/\Rep H (Zcs e) v/\NbAt H g1 ss (List.range ss.length)/\NbAt H g2 ss (stL (Z4 ss))/\e.ns.length<=60 /\
 (∀ n∈e.ns,Ul t e.st n=true->brB ss e.c n=true)/\∀ (q:Addr) (H':Hp),H q=none->H' q=some (.lst (Zp (Wj ss t e e.ns)))->Same H H'->Q (.ref q) H'
abbrev Va:Stmt:=top 38
theorem Zfw:FnScope ["suits", "entry", "named_by", "broken_by", "cases", "name", "oath"] ["suits", "entry", "named_by", "broken_by"] (Za Va):=⟨rfl,rfl,rfl,by decide +kernel,rfl,by decide +kernel,by decide +kernel⟩
theorem Zua:Nm (Za Va) "CASE" .globalImplicit:=by decide +kernel
theorem Z9g:Nm (Za Va) "NAMES" .globalImplicit:=by decide +kernel
theorem Z9h:Nm (Za Va) "STANDS" .globalImplicit:=by decide +kernel
theorem Z9i:Nm (Za Va) "broken_by" .local:=by decide +kernel
theorem Zgy:Nm (Za Va) "cases" .local:=by decide +kernel
theorem Z9j:Nm (Za Va) "claims_broken" .globalImplicit:=by decide +kernel
theorem Zgz:Nm (Za Va) "entry" .local:=by decide +kernel
theorem Zko:Nm (Za Va) "name" .local:=by decide +kernel
theorem Z9k:Nm (Za Va) "named_by" .local:=by decide +kernel
theorem Zkp:Nm (Za Va) "oath" .local:=by decide +kernel
theorem Z9l:Nm (Za Va) "suits" .local:=by decide +kernel
theorem Z9m (Zkq:Has K mg "asked_by" Va) (T:Txt mg) (D0:∃ t,mg "CASE" = some (.int 0 t)) (D1:∃ t,mg "STANDS" = some (.int 1 t)) (D2:∃ t,mg "NAMES" = some (.int 2 t))
  (Z9n:Fn P w K mg base "claims_broken" ["suit", "stands", "name"] 1 Zrl):Fn P w K mg base "asked_by" ["suits", "entry", "named_by", "broken_by"] 2 Zp6:=by
 obtain ⟨s0,c_CASE⟩:=D0
 obtain ⟨s1,c_STANDS⟩:=D1
 obtain ⟨s2,c_NAMES⟩:=D2
 have r_CASE:RelV (.int 0) (.int 0 s0):=⟨s0,rfl⟩
 have r_STANDS:RelV (.int 1) (.int 1 s1):=⟨s1,rfl⟩
 have r_NAMES:RelV (.int 2) (.int 2 s2):=⟨s2,rfl⟩
 refine Zkq.fnQ Zfw (fun _ _ _ _ _ _ us hl=>match us,hl with | [_,_,_,_],_=>rfl) (fun vs H Q E h=>?_) (fun f cdv A outer s H vs Q E hr h=>?_)
 ·obtain ⟨l,g1,g2,v,ss,e,t,rfl,_⟩:=h
  rfl
 ·obtain ⟨l,g1,g2,v,ss,e,t,rfl,hsu,hlen,ht,hok,hev,hnb1,hnb2,hnl,hbr,k⟩:=h
  refine ⟨_,(Ze (Zl (i:=4) Zfw.nd Zgy (Yq Zc))
 (Ze (Y7 PassesOwn.never rfl (Yp (Zi Z3 (qvN 1 Zgz) (Yg Z9g c_NAMES r_NAMES) (fun _ _=>rfl))) (Yo (i:=5) Zfw.nd Zko)
 (Ze (Zl (i:=6) Zfw.nd Zkp (Y8 (Zb (Zi Z3 (qvN 1 Zgz) (Yg Zua c_CASE r_CASE) (fun _ _=>rfl)) (Zb (qvN 5 Zko) Zc))))
 (Zg (Zy (Uq (Zj Z9n (hr.mono (by lia)) Z9j (Zb (Zi Zz (qvN 0 Z9l) (Zi Z3 (qvN 1 Zgz) (Yg Zua c_CASE r_CASE) (fun _ _=>rfl)) (fun _ _=>rfl)) (Zb (Zi Z3 (qvN 1 Zgz) (Yg Z9h c_STANDS r_STANDS) (fun _ _=>rfl)) (Zb (qvN 5 Zko) Zc))))) (Zg (Yl (Ww F.plainAttrs_list F.slot_list_append F.type_list_append Ug (qvN 4 Zgy) (Zb (Zi Zz (Zpp hr (qvN 3 Z9i) (qvN 6 Zkp) (fun _ _=>rfl)) Zd (fun _ _=>rfl)) Zc)))) (Zg (Yl (Ww F.plainAttrs_list F.slot_list_extend F.type_list_extend Zmv (qvN 4 Zgy) (Zb (Zhv hr (qvN 2 Z9k) (qvN 6 Zkp) (Yq Zc)) Zc))))))))
 (Zg (Zo (qvN 4 Zgy))))),?_⟩
  have hz:(5000:Nat)<=sizeLine:=by decide
  obtain ⟨ea,na,rfl,hea,hna⟩:=Z16 hev
  obtain ⟨kv1,hg1,_,_,hn1⟩:=hnb1
  obtain ⟨kv2,hg2,isb,hn2⟩:=Zrm hnb2
  refine ⟨by show 0<=sizeLine; lia,fun m hm=>?_⟩
  have S0:=Same.new (o:=.lst []) hm
  have k0:(upd H m (.lst [])) m=some (.lst []):=upd_same
  generalize (upd H m (.lst []))=H0 at S0 k0 ⊢
  refine ⟨_,rfl,ea,_,2,_,rfl,rfl,SqT.of (S0 _ _ hea),rfl,na,rfl,⟨_,SqL.of (S0 _ _ hna)⟩,?_⟩
  refine Uh (e.ns.map V.str) (fun i σ H'=>∃ (v5 v6:Option V),σ = [some (.ref l),some (.ref ea),some (.ref g1),some (.ref g2),some (.ref m),v5,v6]/\Same H H'/\H' m=some (.lst (Zp (Wj ss t e (e.ns.take i))))) ⟨none,none,rfl,S0,k0⟩ (fun i σ H' _ ⟨_,_,_,sm,_⟩=>SqL.of (sm _ _ hna)) ?_ ?_
  ·rintro i x σ H' hx ⟨v5,v6,rfl,sm,hm'⟩
   rw [xR] at hx
   obtain ⟨n,hn,rfl⟩:=yM.mp hx
   have hi:=(xC.mp hn).1
   have al:=Zh3 ss t e (e.ns.take i)
   have al2:(Wj ss t e (e.ns.take i)).length<=1200:=by
    rw [xY] at al
    exact yA al (Nat.mul_le_mul (show min i e.ns.length<=60 by lia) hlen)
   have a1:=Zo1 ss t e n
   have es:=Zyj (ss:=ss) (t:=t) (e:=e) hn
   refine ⟨_,rfl,ea,_,0,_,rfl,rfl,SqT.of (sm _ _ hea),rfl,_,rfl,by show 2<=sizeLine; lia,fun q hq=>?_⟩
   have Sq:=Same.new (o:=.tup [.int e.c,.str n]) hq
   have kq:(upd H' q (.tup [.int e.c,.str n])) q=some (.tup [.int e.c,.str n]):=upd_same
   generalize (upd H' q (.tup [.int e.c,.str n]))=H1 at Sq kq ⊢
   have S1:=sm.trans Sq
   obtain ⟨us,hl1,hrep1⟩:=hsu.mono S1
   obtain ⟨sv,hsv,hsa⟩:=SuitsAt.suit (l:=l) hrep1 ht
   refine ⟨_,rfl,_,rfl,ea,_,0,_,rfl,rfl,SqT.of (S1 _ _ hea),rfl,l,us,e.c,sv,rfl,rfl,SqL.of hl1,Yh hsv,_,rfl,ea,_,1,_,rfl,rfl,SqT.of (S1 _ _ hea),rfl,_,rfl,sv,t,e.st,n,rfl,hsa,hok,fun H2 s2=>?_⟩
   have S2:=S1.trans s2
   have hm2:=s2 _ _ (Sq _ _ hm')
   have kq2:=s2 _ _ kq
   refine ⟨_,rfl,?_⟩
   cases hcb:Ul t e.st n with
   | true =>
    have e1:V2 ss t e n=(Zv ss (e.c:Int) n).take 1:=by unfold V2; rw [hcb,if_pos rfl]
    have hB:=hbr n (xT hn) hcb
    obtain ⟨a,hv,ha⟩:=hn2 e.c n hB
    obtain ⟨j,r,hj⟩:∃ j r,Zv ss (e.c:Int) n=j::r:=by
     cases hbk:Zv ss (e.c:Int) n with
     | nil=>exact (yD hB hbk).elim
     | cons j r=>exact ⟨j,r,rfl⟩
    have hd:DGet H2 g2 (.ref q) (some (.ref a)):=by
     have:=DGet.t (S2 _ _ hg2) (k:=Zq e.c n) kq2
     rw [hv] at this
     exact this
    have h0:(Zp (Zv ss (e.c:Int) n))[0]? = some (V.int (j:Int)):=by rw [hj]; rfl
    refine Yb ?_
    refine ⟨_,rfl,.inl ⟨rfl,_,SqL.of hm2⟩,_,rfl,_,rfl,g2,.ref a,rfl,hd,a,_,0,.int (j:Int),rfl,rfl,SqL.of (S2 _ _ ha),Yh (j:=0) h0,m,_,_,rfl,rfl,hm2,by rw [Zei]; lia,?_⟩
    refine ⟨_,_,rfl,?_,?_⟩
    ·intro b o eb
     rw [Zh (fun z=>by rw [z,hm] at eb; cases eb)]
     exact S2 b o eb
    ·rw [upd_same,es,e1,hj,Znv]
     rfl
   | false =>
    have e1:V2 ss t e n=Yd ss (e.c:Int) n (List.range ss.length):=by unfold V2; rw [hcb,if_neg xJ]
    refine Yt ?_
    refine ⟨_,rfl,.inl ⟨rfl,_,SqL.of hm2⟩,_,rfl,g1,rfl,.inr ⟨kv1,.inl (S2 _ _ hg1)⟩,_,rfl,by show 0<=sizeLine; lia,fun z hz'=>?_⟩
    have Sz:=Same.new (o:=.lst []) hz'
    have kz:(upd H2 z (.lst [])) z=some (.lst []):=upd_same
    generalize (upd H2 z (.lst []))=H3 at Sz kz ⊢
    have S3:=S2.trans Sz
    have hm3:=Sz _ _ hm2
    refine ⟨_,DGet.t (S3 _ _ hg1) (k:=Zq e.c n) (Sz _ _ kq2),?_⟩
    obtain ⟨a,hav,ha⟩:∃ a,(Zm kv1 (Zq e.c n)).getD (.ref z) = .ref a/\H3 a=some (.lst (Zp (Yd ss (e.c:Int) n (List.range ss.length)))):=by
     rcases hn1 e.c n with ⟨h1,h2⟩ | ⟨a,h1,h2⟩
     ·exact ⟨z,by rw [h1]; rfl,by rw [h2]; exact kz⟩
     ·exact ⟨a,by rw [h1]; rfl,S3 _ _ h2⟩
    rw [hav]
    refine ⟨m,a,_,_,rfl,rfl,hm3,ha,by rw [Zei,Zei,← e1]; lia,?_⟩
    refine ⟨_,_,rfl,?_,?_⟩
    ·intro b o eb
     rw [Zh (fun z=>by rw [z,hm] at eb; cases eb)]
     exact S3 b o eb
    ·rw [upd_same,es,e1,Znv]
  ·rintro σ H' ⟨v5,v6,rfl,sm,hm'⟩
   rw [xA,yL] at hm'
   exact ⟨_,rfl,k m H' hm hm' sm⟩
end
section
theorem Zhp (f:Str×Int->Bool):∀ sd:Zk,(wts (sd.filter f)).sum+(wts (sd.filter fun p=>!f p)).sum=(wts sd).sum
 | []=>rfl
 | p::sd=>by
  have ih:=Zhp f sd
  unfold wts at ih ⊢
  rw [yV,yV]
  cases e:f p <;> simp_all <;> lia
theorem Z9o {ss:List Suit}(hl:Line ss) {c:Nat}{br:Int->Str->Bool}(hbr:∀ n,br c n=true↔Zgf (Z4 ss) ss c n) (n:Str):br c n=brB ss c n:=by
 rw [yW,hbr]
 unfold brB Zgf
 rw [yK,Z1z]
 exact ⟨fun ⟨j,u,_,h2,h3,h4⟩=>⟨j,u,h2,h3,h4⟩,fun ⟨j,u,h2,h3,h4⟩=>⟨j,u,Zox hl h2 h4,h2,h3,h4⟩⟩
theorem Zwe {ss:List Suit}(hl:Line ss) {c:Nat}{t:Suit}{st:Bool}(ht:ss[c]? = some t) (hb:(Z4 ss)[c]? = some st):W1 t st<=(wts (Ud ss c t st)).sum:=by
 obtain ⟨br,hbr,hs⟩:=Zz2 ht
 have e:(some st:Option Bool)=some (decide (0<=Wg br c t)):=hb.symm.trans hs
 have e:=Option.some.inj e
 have hB:=Z9o hl hbr
 have ap:(wts (Ud ss c t st)).sum=(wts (t.ones.filter fun p=>!decide (brB ss c p.1=st))).sum+(wts (t.others.filter fun p=>decide (brB ss c p.1=st))).sum:=by
  unfold Ud wts
  rw [xP,List.sum_append]
 rw [ap]
 have s1:=Zhp (fun p=>!brB ss c p.1) t.ones
 have s2:=Zhp (fun p=>!brB ss c p.1) t.others
 simp only [Bool.not_not] at s1 s2
 have m:Wg br c t=(wts (t.ones.filter fun p=>!brB ss c p.1)).sum - (wts (t.others.filter fun p=>!brB ss c p.1)).sum - t.need:=by
  unfold Wg Zfq keep
  simp only [hB]
 cases st with
 | true =>
  have h:=yD e.symm
  have f1:(fun p:Str×Int=>!decide (brB ss c p.1=true))=fun p=>!brB ss c p.1:=by funext p; simp
  have f2:(fun p:Str×Int=>decide (brB ss c p.1=true))=fun p=>brB ss c p.1:=by funext p; simp
  rw [f1,f2]
  unfold W1
  rw [if_pos rfl]
  lia
 | false =>
  have h:=of_decide_eq_false e.symm
  have f1:(fun p:Str×Int=>!decide (brB ss c p.1=false))=fun p=>brB ss c p.1:=by funext p; cases brB ss c p.1 <;> rfl
  have f2:(fun p:Str×Int=>decide (brB ss c p.1=false))=fun p=>!brB ss c p.1:=by funext p; cases brB ss c p.1 <;> rfl
  rw [f1,f2]
  unfold W1
  rw [if_neg xJ]
  lia
structure EntT (ss:List Suit) (e:Ent) (t:Suit):Prop where
 at_:ss[e.c]? = some t
 so:(Z4 ss)[e.c]? = some e.st
 sound:Zi6 t e=true
 claims:∀ n∈e.ns,Ul t e.st n=brB ss e.c n
 few:∃ (sd':Zk) (k:Nat),e.ns=(sd'.take k).map (·.1)/\sd'.Perm (Ud ss e.c t e.st)/\(wts sd').Pairwise (· >= ·)/\k<=sd'.length/\∀ j,j < k->1<=Wi sd' (W1 t e.st) j
theorem Zhq (ss:List Suit) (c:Nat) (t:Suit) (st:Bool):(Ud ss c t st).Sublist (t.ones++t.others):=List.Sublist.append List.filter_sublist List.filter_sublist
theorem Z18 {sd:Zk}(h:(sd.map (·.1)).Nodup):sd.Nodup:=by
 unfold List.Nodup at h ⊢
 rw [List.pairwise_map] at h
 exact h.imp fun hne z=>hne (by rw [z])
theorem Z0f {sd:Zk}(h:(sd.map (·.1)).Nodup) {p q:Str×Int}(hp:p∈sd) (hq:q∈sd) (e:p.1=q.1):p=q:=by
 induction sd with
 | nil=>cases hp
 | cons x r ih =>
  rw [xQ,List.nodup_cons] at h
  rcases xW.mp hp with hp1 | hp1
  ·rcases xW.mp hq with hq1 | hq1
   ·rw [hp1,hq1]
   ·exact (h.1 (xV.mpr ⟨q,hq1,by rw [← e,hp1]⟩)).elim
  ·rcases xW.mp hq with hq1 | hq1
   ·exact (h.1 (xV.mpr ⟨p,hp1,by rw [e,hq1]⟩)).elim
   ·exact ih h.2 hp1 hq1
theorem Z0g {ss:List Suit}(hl:Line ss) {c:Nat}{t:Suit}{st:Bool}(ht:ss[c]? = some t) (hb:(Z4 ss)[c]? = some st) {sd':Zk}{k:Nat}(hp:sd'.Perm (Ud ss c t st)) (hs:(wts sd').Pairwise (· >= ·)) (hk:k<=sd'.length) (h1:Wi sd' (W1 t st) k < 1)
  (h2:∀ j,j < k->1<=Wi sd' (W1 t st) j):EntT ss ⟨c,st,(sd'.take k).map (·.1)⟩ t:=by
 have nd:=hl.nd t (xT ht)
 have ndA:=Z18 nd
 have mem:∀ p∈sd',p∈t.ones++t.others:=fun p h=>(Zhq ss c t st).subset (hp.mem_iff.mp h)
 have ndS:sd'.Nodup:=hp.nodup_iff.mpr ((Zhq ss c t st).nodup ndA)
 have ndT:(sd'.take k).Nodup:=(List.take_sublist _ _).nodup ndS
 have hperm:(Ze6 ((sd'.take k).map (·.1)) (t.ones++t.others)).Perm (sd'.take k):=by
  unfold Ze6
  rw [List.perm_ext_iff_of_nodup (List.filter_sublist.nodup ndA) ndT]
  intro p
  rw [yH,yK]
  constructor
  ·rintro ⟨hpA,hpn⟩
   obtain ⟨q,hq,e⟩:=xV.mp hpn
   rw [Z0f nd hpA (mem q (yR hq)) e.symm]
   exact hq
  ·intro h
   exact ⟨mem p (yR h),xV.mpr ⟨p,h,rfl⟩⟩
 refine ⟨ht,hb,?_,fun n hn=>?_,sd',k,rfl,hp,hs,hk,h2⟩
 ·unfold Zi6
  rw [yI]
  refine ⟨xH ?_,xH ?_⟩
  ·rw [hperm.length_eq,xA]
  ·rw [Zo0 hperm]
   unfold Wi at h1
   have e:wts (sd'.take k)=(wts sd').take k:=by unfold wts; rw [List.map_take]
   rw [e]
   show W1 t st<=_
   lia
 ·obtain ⟨p,hp',rfl⟩:=xV.mp hn
  have hT:=hp.mem_iff.mp (yR hp')
  unfold Ul
  rcases xO.mp hT with z | z
  ·obtain ⟨z1,z2⟩:=yH.mp z
   have h:decide (p.1∈t.ones.map (·.1))=true:=xH (xV.mpr ⟨p,z1,rfl⟩)
   rw [h]
   show (!decide (true=st))=brB ss c p.1
   revert z2
   cases st <;> cases brB ss c p.1 <;> decide
  ·obtain ⟨z1,z2⟩:=yH.mp z
   have h:decide (p.1∈t.ones.map (·.1))=false:=xK fun q=>by
    rw [xP,List.nodup_append] at nd
    exact nd.2.2 _ q _ (xV.mpr ⟨p,z1,rfl⟩) rfl
   rw [h]
   show (!decide (false=st))=brB ss c p.1
   revert z2
   cases st <;> cases brB ss c p.1 <;> decide
end
section
variable {P:Program}{w:World}{K:uFg}{mg:Str->Option Value}{base:Heap}
structure PapI (ss:List Suit) (c m:Nat) (es:List Ent) (ak:Tru):Prop where
 ents:∀ e∈es,∃ t,EntT ss e t
 lo:∀ e∈es,c<=e.c/\e.c < m
 up:(es.map (·.c)).Pairwise (· < ·)
 keys:∀ j:Nat,(Zm ak (.inl (j:Int))).isSome=true↔j=c\/∃ e∈es,∃ t,ss[e.c]? = some t/\j∈Wj ss t e e.ns
 done:∀ j:Nat,c<=j->j < m->(Zm ak (.inl (j:Int))).isSome=true->∃ e∈es,e.c=j
 only:∀ e∈es,(Zm ak (.inl (e.c:Int))).isSome=true
structure PapT (ss:List Suit) (c:Nat) (es:List Ent):Prop where
 ents:∀ e∈es,∃ t,EntT ss e t
 lo:∀ e∈es,c<=e.c/\e.c < ss.length
 up:(es.map (·.c)).Pairwise (· < ·)
 first:∃ e∈es,e.c=c
 closed:∀ e∈es,∀ t,ss[e.c]? = some t->∀ j∈Wj ss t e e.ns,∃ f∈es,f.c=j
 only:∀ f∈es,f.c=c\/∃ e∈es,∃ t,ss[e.c]? = some t/\f.c∈Wj ss t e e.ns
theorem Zp7 {ss:List Suit}(hl:Line ss) {t:Suit}{e:Ent}{ns:List Str}{j:Nat}(h:j∈Wj ss t e ns):e.c < j/\j < ss.length:=by
 obtain ⟨n,_,h2⟩:=Z0e h
 obtain ⟨u,h3,h4⟩:=Z0d h2
 exact ⟨Zox hl h3 h4,(xC.mp h3).1⟩
theorem PapI.end_ {ss:List Suit}(hl:Line ss) {c:Nat}{es:List Ent}{ak:Tru}(h:PapI ss c ss.length es ak) (hc:c < ss.length):PapT ss c es where
 ents:=h.ents
 lo:=h.lo
 up:=h.up
 first:=h.done c (xE _) hc ((h.keys c).mpr (.inl rfl))
 closed:=fun e he t ht j hj=>by
  have hg:=Zp7 hl hj
  have:=(h.lo e he).1
  exact h.done j (by lia) hg.2 ((h.keys j).mpr (.inr ⟨e,he,t,ht,hj⟩))
 only:=fun f hf=>(h.keys f.c).mp (h.only f hf)
theorem PapI.skip {ss:List Suit}{c m:Nat}{es:List Ent}{ak:Tru}(h:PapI ss c m es ak) (hm:(Zm ak (.inl (m:Int))).isSome=false):PapI ss c (m+1) es ak where
 ents:=h.ents
 lo:=fun e he=>by have:=h.lo e he; lia
 up:=h.up
 keys:=h.keys
 done:=fun j h1 h2 h3=>by
  by_cases e:j=m
  ·rw [e,hm] at h3; cases h3
  ·exact h.done j h1 (by lia) h3
 only:=h.only
theorem PapI.more {ss:List Suit}(hl:Line ss) {c m:Nat}{es:List Ent}{ak ak':Tru}(h:PapI ss c m es ak) (hcm:c<=m) (hm:(Zm ak (.inl (m:Int))).isSome=true) {e:Ent}{t:Suit}(he:e.c=m) (hT:EntT ss e t)
  (hk:∀ j:Nat,(Zm ak' (.inl (j:Int))).isSome=true↔(Zm ak (.inl (j:Int))).isSome=true\/j∈Wj ss t e e.ns):PapI ss c (m+1) (es ++ [e]) ak' where
 ents:=fun f hf=>by
  rcases xO.mp hf with z | z
  ·exact h.ents f z
  ·rw [xF.mp z]; exact ⟨t,hT⟩
 lo:=fun f hf=>by
  rcases xO.mp hf with z | z
  ·have:=h.lo f z; lia
  ·rw [xF.mp z]; lia
 up:=by
  rw [xP,List.pairwise_append]
  refine ⟨h.up,List.pairwise_singleton _ _,fun a ha b hb=>?_⟩
  obtain ⟨f,hf,rfl⟩:=xV.mp ha
  rw [xF.mp hb]
  show f.c < e.c
  have:=(h.lo f hf).2
  lia
 keys:=fun j=>by
  rw [hk,h.keys]
  constructor
  ·rintro ((z | ⟨f,hf,u,h1,h2⟩) | z)
   ·exact .inl z
   ·exact .inr ⟨f,yF _ hf,u,h1,h2⟩
   ·exact .inr ⟨e,xM _ (xF.mpr rfl),t,hT.at_,z⟩
  ·rintro (z | ⟨f,hf,u,h1,h2⟩)
   ·exact .inl (.inl z)
   ·rcases xO.mp hf with z | z
    ·exact .inl (.inr ⟨f,z,u,h1,h2⟩)
    ·rw [xF.mp z] at h1 h2
     rw [hT.at_] at h1
     cases h1
     exact .inr h2
 done:=fun j h1 h2 h3=>by
  by_cases ej:j=m
  ·exact ⟨e,xM _ (xF.mpr rfl),by lia⟩
  ·rcases (hk j).mp h3 with z | z
   ·obtain ⟨f,hf,e1⟩:=h.done j h1 (by lia) z
    exact ⟨f,yF _ hf,e1⟩
   ·have:=(Zp7 hl z).1
    lia
 only:=fun f hf=>by
  rw [hk]
  rcases xO.mp hf with z | z
  ·exact .inl (h.only f z)
  ·rw [xF.mp z,he]; exact .inl hm
theorem PapI.start (ss:List Suit) (c:Nat):PapI ss c c [] [(.inl (c:Int),.bl true)] where
 ents:=fun e he=>nomatch he
 lo:=fun e he=>nomatch he
 up:=.nil
 keys:=fun j=>by
  have e:Zm [((.inl (c:Int):Key),V.bl true)] (.inl (j:Int))=if (Sum.inl (j:Int):Key) = .inl (c:Int) then some (.bl true) else none:=Zab [] (Sum.inl (c:Int)) (Sum.inl (j:Int)) (.bl true)
  rw [e]
  by_cases h:j=c
  ·rw [h,if_pos rfl]; exact ⟨fun _=>.inl rfl,fun _=>rfl⟩
  ·rw [if_neg (fun z=>by injection z with z; lia)]
   exact ⟨(fun z=>nomatch z),fun z=>z.elim (fun z=>absurd z h) (fun ⟨_,z,_⟩=>nomatch z)⟩
 done:=fun j h1 h2=>by lia
 only:=fun e he=>nomatch he
def nw (H H':Hp):Hp:=fun b=>match H b with
 | none=>H' b
 | some _=>none
theorem Zdi {H H':Hp}{b:Addr}{o:HO}(h:H b=none) (h':H' b=some o):nw H H' b=some o:=by unfold nw; rw [h]; exact h'
theorem Zfx {H H':Hp}{b:Addr}{o:HO}(h:nw H H' b=some o):H b=none/\H' b=some o:=by
 unfold nw at h
 cases e:H b with
 | none=>rw [e] at h; exact ⟨rfl,h⟩
 | some z=>rw [e] at h; cases h
def Zub (T:Addr):Sp:=fun vs H Q _=>∃ (l:Addr) (ss:List Suit) (c:Nat),vs = [.ref l,.int c]/\SuitsAt H ss l/\Line ss/\ss.length<=20/\(∀ t∈ss,(t.ones++t.others).length<=60)/\c < ss.length/\IsTab H T Zal /\
 ∀ (le:Addr) (es:List Ent) (vs:List V) (H':Hp),PapT ss c es->es.length<=ss.length->H le=none->H' le=some (.lst vs)->RepL (off [le] (nw H H')) (es.map Zcs) vs->Same H H'->Q (.ref le) H'
abbrev Y0:Stmt:=top 34
theorem Ue:FnScope ["suits", "case", "standing", "named_by", "broken_by", "asked", "entries", "number", "entry", "later"] ["suits", "case"] (Za Y0):=⟨rfl,rfl,rfl,by decide +kernel,rfl,by decide +kernel,by decide +kernel⟩
theorem Zkr:Nm (Za Y0) "asked" .local:=by decide +kernel
theorem Z9p:Nm (Za Y0) "asked_by" .globalImplicit:=by decide +kernel
theorem Z9q:Nm (Za Y0) "breaking" .globalImplicit:=by decide +kernel
theorem Zks:Nm (Za Y0) "broken_by" .local:=by decide +kernel
theorem Zg0:Nm (Za Y0) "case" .local:=by decide +kernel
theorem Zuc:Nm (Za Y0) "check_case" .globalImplicit:=by decide +kernel
theorem Zkt:Nm (Za Y0) "entries" .local:=by decide +kernel
theorem Zku:Nm (Za Y0) "entry" .local:=by decide +kernel
theorem Z9r:Nm (Za Y0) "fewest_names" .globalImplicit:=by decide +kernel
theorem Zud:Nm (Za Y0) "later" .local:=by decide +kernel
theorem Z9s:Nm (Za Y0) "len" .globalImplicit:=by decide +kernel
theorem Zue:Nm (Za Y0) "named_by" .local:=by decide +kernel
theorem Z9t:Nm (Za Y0) "namers" .globalImplicit:=by decide +kernel
theorem Zct:Nm (Za Y0) "number" .local:=by decide +kernel
theorem Z9u:Nm (Za Y0) "range" .globalImplicit:=by decide +kernel
theorem Z9v:Nm (Za Y0) "settled" .globalImplicit:=by decide +kernel
theorem Zkv:Nm (Za Y0) "standing" .local:=by decide +kernel
theorem Nq4:Nm (Za Y0) "suits" .local:=by decide +kernel
theorem Z9w {Tt:Addr}(Zch:Has K mg "paper" Y0) (T:Txt mg) (Yw:Fn P w K mg base "check_case" ["suits", "case"] 1 Zai) (Zdt:Fn P w K mg base "settled" ["suits"] 4 Zfh) (Z9x:Fn P w K mg base "namers" ["suits"] 2 Zoy)
  (Zbb:Fn P w K mg base "breaking" ["suits"] 5 Zcx) (Z9y:Fn P w K mg base "fewest_names" ["suits", "case", "stands", "broken_by"] 5 (Zrn Tt)) (Z9z:Fn P w K mg base "asked_by" ["suits", "entry", "named_by", "broken_by"] 2 Zp6) :
  Fn P w K mg base "paper" ["suits", "case"] 6 (Zub Tt):=by
 refine Zch.fnQ Ue (fun _ _ _ _ _ _ us hl=>match us,hl with | [_,_],_=>rfl) (fun vs H Q E h=>?_) (fun f cdv A outer s H vs Q E hr h=>?_)
 ·obtain ⟨l,ss,c,rfl,_⟩:=h
  rfl
 ·obtain ⟨l,ss,c,rfl,hsu,hline,hlen,h60,hc,hT,k⟩:=h
  refine ⟨_,(Ze (Yl (Zj Yw (hr.mono (by lia)) Zuc (Zb (qvN 0 Nq4) (Zb (qvN 1 Zg0) Zc))))
 (Ze (Zl (i:=2) Ue.nd Zkv (Zj Zdt (hr.mono (by lia)) Z9v (Zb (qvN 0 Nq4) Zc)))
 (Ze (Zl (i:=3) Ue.nd Zue (Zj Z9x (hr.mono (by lia)) Z9t (Zb (qvN 0 Nq4) Zc)))
 (Ze (Zl (i:=4) Ue.nd Zks (Zj Zbb (hr.mono (by lia)) Z9q (Zb (qvN 0 Nq4) Zc)))
 (Ze (Zl (i:=5) Ue.nd Zkr (Zzh (qvN 1 Zg0) Vb))
 (Ze (Zl (i:=6) Ue.nd Zkt (Yq Zc))
 (Ze (Y7 PassesOwn.never rfl (Znf Z9u.1 T.range (Zb (qvN 1 Zg0) (Zb (Z6 Y9 Z9s T.len Yy (Zb (qvN 0 Nq4) Zc)) Zc))) (Yo (i:=7) Ue.nd Zct)
 (Zg (Zy (Zw (Zib hr) (qvN 7 Zct) (qvN 5 Zkr) rfl) (Ze (Zl (i:=8) Ue.nd Zku (Y8 (Zb (qvN 7 Zct) (Zb (Zi Zz (qvN 2 Zkv) (qvN 7 Zct) (fun _ _=>rfl)) (Zb (Zj Z9y (hr.mono (by lia)) Z9r (Zb (qvN 0 Nq4) (Zb (qvN 7 Zct) (Zb (Zi Zz (qvN 2 Zkv) (qvN 7 Zct) (fun _ _=>rfl)) (Zb (qvN 4 Zks) Zc))))) Zc)))))
 (Ze (Yl (Ww F.plainAttrs_list F.slot_list_append F.type_list_append Ug (qvN 6 Zkt) (Zb (qvN 8 Zku) Zc)))
 (Zg (Y7 PassesOwn.never rfl (Yp (Zj Z9z (hr.mono (by lia)) Z9p (Zb (qvN 0 Nq4) (Zb (qvN 8 Zku) (Zb (qvN 3 Zue) (Zb (qvN 4 Zks) Zc)))))) (Yo (i:=9) Ue.nd Zud)
 (Zg (Zet hr (qvN 5 Zkr) (qvN 9 Zud) Vb)))))) Z0)))
 (Zg (Zo (qvN 6 Zkt)))))))))),?_⟩
  have hz:(500000:Nat)<=sizeLine:=by decide
  obtain ⟨us,hl,hrep⟩:=id hsu
  have hul:us.length=ss.length:=by have:=hrep.length; rw [xA] at this; exact this
  have hbl:(Z4 ss).length=ss.length:=Zbn [] ss 0
  refine ⟨_,rfl,_,rfl,l,us,c,rfl,hl,by lia,?_⟩
  refine ⟨_,rfl,l,ss,rfl,hsu,hline.ok,by lia,fun tl H1 htlf htl sm1=>?_⟩
  refine ⟨_,rfl,l,ss,rfl,hsu.mono sm1,by lia,fun nb H2 hnb sm2=>?_⟩
  have S2:=sm1.trans sm2
  refine ⟨_,rfl,l,ss,rfl,hsu.mono S2,hline.ok,by lia,fun bb H3 _ hbb _ sm3=>?_⟩
  have S3:=S2.trans sm3
  have htl3:=sm3 _ _ (sm2 _ _ htl)
  have hnb3:=hnb.mono sm3
  refine fun d hd=>?_
  refine ⟨_,rfl,upd_same,[(Sum.inl (c:Int),.bl true)],rfl,by show 1<=15; decide,?_⟩
  have Sd:Same H3 (upd (upd H3 d (.dK [])) d (.dK (Zad [] [(Sum.inl (c:Int),.bl true)]))):=fun b o e=>by rw [Zh (Z5 e hd),Zh (Z5 e hd)]; exact e
  have kd:(upd (upd H3 d (.dK [])) d (.dK (Zad [] [(Sum.inl (c:Int),.bl true)]))) d=some (.dK [(Sum.inl (c:Int),.bl true)]):=upd_same
  generalize (upd (upd H3 d (.dK [])) d (.dK (Zad [] [(Sum.inl (c:Int),.bl true)])))=H4 at Sd kd ⊢
  have S4:=S3.trans Sd
  have hdH:=S3.free hd
  refine ⟨by show 0<=sizeLine; lia,fun le hle=>?_⟩
  have Sl:=Same.new (o:=.lst []) hle
  have kl:(upd H4 le (.lst [])) le=some (.lst []):=upd_same
  have kd5:=Sl _ _ kd
  have hleH:=S4.free hle
  have ndl:d≠le:=fun z=>by rw [z,hle] at kd; cases kd
  generalize (upd H4 le (.lst []))=H5 at Sl kl kd5 ⊢
  have S5:=S4.trans Sl
  have S35:=Sd.trans Sl
  have hd3:H3 d=none:=hd
  have hl3:H3 le=none:=Sd.free hle
  refine ⟨_,rfl,_,rfl,l,us,rfl,.inl (SqL.of (S5 _ _ hl)),c,us.length,rfl,by lia,?_⟩
  refine Zbk (ss.length - c) (by lia) (fun i σ H'=>∃ (es:List Ent) (vs:List V) (ak:Tru) (v7 v8 v9:Option V),σ = [some (.ref l),some (.int c),some (.ref tl),some (.ref nb),some (.ref bb),some (.ref d),some (.ref le),v7,v8,v9] /\
   PapI ss c (c+i) es ak/\es.length<=i/\ak.length<=1+1200 * i/\H' d=some (.dK ak)/\H' le=some (.lst vs)/\RepL (off [d,le] (nw H3 H')) (es.map Zcs) vs/\Same H3 H')
   ⟨[],[],_,none,none,none,rfl,PapI.start ss c,xE _,by show 1<=_; lia,kd5,kl,rfl,S35⟩ ?_ ?_
  ·rintro i σ H' hi ⟨es,vs,ak,v7,v8,v9,rfl,I,hel,hal,hd',hle',hre,sm⟩
   have ec:((c:Int)+(i:Nat))=((c+i:Nat):Int):=by lia
   rw [ec]
   generalize hm:c+i=m at I
   have hml:m < ss.length:=by lia
   have hcm:c<=m:=by lia
   have hm1:c+(i+1)=m+1:=by lia
   rw [hm1]
   obtain ⟨t,ht⟩:∃ t,ss[m]? = some t:=⟨_,xB hml⟩
   obtain ⟨b,hb⟩:∃ b,(Z4 ss)[m]? = some b:=⟨_,xB (by lia)⟩
   have htm:=xT ht
   have SH:=S3.trans sm
   refine ⟨_,rfl,_,rfl,d,_,rfl,DGet.k (k:=.inl (m:Int)) hd',_,rfl,?_⟩
   cases hin:(Zm ak (.inl (m:Int))).isSome with
   | false =>
    refine Yt ?_
    exact ⟨es,vs,ak,_,_,_,rfl,I.skip hin,by lia,by lia,hd',hle',hre,sm⟩
   | true =>
    refine Yb ?_
    have hbv:((Z4 ss).map V.bl)[m]? = some (.bl b):=by rw [xR,hb]; rfl
    refine ⟨_,rfl,_,rfl,_,rfl,tl,_,m,.bl b,rfl,rfl,SqL.of (sm _ _ htl3),Yh hbv,?_⟩
    refine ⟨_,rfl,_,rfl,_,rfl,_,rfl,tl,_,m,.bl b,rfl,rfl,SqL.of (sm _ _ htl3),Yh hbv,_,rfl,?_⟩
    refine ⟨l,bb,ss,m,t,b,rfl,hsu.mono SH,ht,hline.ok t htm,h60 t htm,hbb.mono sm,hT.same SH,Zwe hline ht hb,fun q kk sd' H6 hp hs hk h1 h2 hqf hq s6=>?_⟩
    have hE:=Z0g hline ht hb hp hs hk h1 h2
    have hnsl:((sd'.take kk).map (·.1)).length<=60:=by
     have z1:=hp.length_eq
     have z2:=(Zhq ss m t b).length_le
     have z3:=h60 t htm
     rw [xA,xY]
     lia
    have eq:Zam (sd'.take kk)=((sd'.take kk).map (·.1)).map V.str:=by unfold Zam; rw [yZ]; rfl
    rw [eq] at hq
    generalize ((sd'.take kk).map (·.1))=ns at hE hnsl hq
    have sm6:=sm.trans s6
    have nq1:q≠d:=fun z=>by rw [z,hd'] at hqf; cases hqf
    have nq2:q≠le:=fun z=>by rw [z,hle'] at hqf; cases hqf
    refine ⟨by show 3<=sizeLine; lia,fun ea hea=>?_⟩
    have Se:=Same.new (o:=.tup [.int m,.bl b,.ref q]) hea
    have ke:(upd H6 ea (.tup [.int m,.bl b,.ref q])) ea=some (.tup [.int m,.bl b,.ref q]):=upd_same
    have ne1:ea≠d:=fun z=>by rw [z,s6 _ _ hd'] at hea; cases hea
    have ne2:ea≠le:=fun z=>by rw [z,s6 _ _ hle'] at hea; cases hea
    generalize (upd H6 ea (.tup [.int m,.bl b,.ref q]))=H7 at Se ke ⊢
    have sm7:=sm6.trans Se
    have S07:=s6.trans Se
    have hle7:=S07 _ _ hle'
    have hd7:=S07 _ _ hd'
    have hq7:=Se _ _ hq
    have hvl:vs.length=es.length:=by have:=hre.length; rw [xA] at this; exact this
    refine ⟨_,rfl,.inl ⟨rfl,_,SqL.of hle7⟩,_,rfl,le,vs,_,rfl,rfl,hle7,by lia,?_⟩
    have nin:∀ {b:Addr},b≠d->b≠le->b ∉ [d,le]:=fun h1 h2 m=>(xW.mp m).elim h1 fun z=>h2 (xF.mp z)
    have sm8:Same H3 (upd H7 le (.lst (vs ++ [.ref ea]))):=fun b o e=>by
     rw [Zh (fun z=>by rw [z,hl3] at e; cases e)]
     exact sm7 b o e
    have re8:RepL (off [d,le] (nw H3 (upd H7 le (.lst (vs ++ [.ref ea]))))) ((es ++ [Ent.mk m b ns]).map Zcs) (vs ++ [.ref ea]):=by
     rw [xP]
     refine RepL.snoc (Zrk (na:=q) (Zag (nin ne1 ne2) (Zdi (sm6.free hea) (by rw [Zh ne2]; exact ke))) (Zag (nin nq1 nq2) (Zdi (sm.free hqf) (by rw [Zh nq2]; exact hq7)))) (hre.mono' (Vi fun b o n h=>?_))
     obtain ⟨h1,h2⟩:=Zfx h
     refine Zdi h1 ?_
     rw [Zh (fun z=>n (by rw [z]; exact xN _ (xF.mpr rfl)))]
     exact S07 b o h2
    have ke8:(upd H7 le (.lst (vs ++ [.ref ea]))) ea=some (.tup [.int m,.bl b,.ref q]):=by rw [Zh ne2]; exact ke
    have kq8:(upd H7 le (.lst (vs ++ [.ref ea]))) q=some (.lst (ns.map V.str)):=by rw [Zh nq2]; exact hq7
    have kd8:(upd H7 le (.lst (vs ++ [.ref ea]))) d=some (.dK ak):=by rw [Zh ndl]; exact hd7
    have kl8:(upd H7 le (.lst (vs ++ [.ref ea]))) le=some (.lst (vs ++ [.ref ea])):=upd_same
    generalize (upd H7 le (.lst (vs ++ [.ref ea])))=H8 at sm8 re8 ke8 kq8 kd8 kl8 ⊢
    have SH8:=S3.trans sm8
    refine ⟨_,rfl,_,rfl,_,rfl,_,rfl,l,nb,bb,.ref ea,ss,⟨m,b,ns⟩,t,rfl,hsu.mono SH8,hlen,ht,hline.ok t htm,Zrk ke8 kq8,hnb3.mono sm8,hbb.mono sm8,hnsl,(fun n hn hcb=>by rw [← hE.claims n hn]; exact hcb),fun al H9 half hal9 s9=>?_⟩
    have sm9:=sm8.trans s9
    have nal1:al≠d:=fun z=>by rw [z,kd8] at half; cases half
    have nal2:al≠le:=fun z=>by rw [z,kl8] at half; cases half
    have hAl:=Zh3 ss t ⟨m,b,ns⟩ ns
    have hAl2:(Wj ss t ⟨m,b,ns⟩ ns).length<=1200:=yA hAl (Nat.mul_le_mul hnsl hlen)
    refine ⟨al,rfl,⟨_,SqL.of hal9⟩,?_⟩
    refine Uh (Zp (Wj ss t ⟨m,b,ns⟩ ns)) (fun j σ H'=>∃ (ak':Tru) (v9:Option V),σ = [some (.ref l),some (.int c),some (.ref tl),some (.ref nb),some (.ref bb),some (.ref d),some (.ref le),some (.int (m:Int)),some (.ref ea),v9] /\
     (∀ x:Nat,(Zm ak' (.inl (x:Int))).isSome=true↔(Zm ak (.inl (x:Int))).isSome=true\/x∈(Wj ss t ⟨m,b,ns⟩ ns).take j)/\ak'.length<=ak.length+j/\H' d=some (.dK ak')/\SameX d H9 H')
     ⟨ak,v9,rfl,(fun x=>by rw [List.take_zero]; exact ⟨.inl,fun z=>z.elim id (fun z=>nomatch z)⟩),xE _,s9 _ _ kd8,SameX.refl⟩ (fun j σ H' _ ⟨_,_,_,_,_,_,sx⟩=>SqL.of (sx _ _ nal1 hal9)) ?_ ?_
    ·rintro j x σ H0 hx ⟨ak',v9',rfl,hk',hl',hd0,sx⟩
     unfold Zp at hx
     rw [xR] at hx
     obtain ⟨y,hy,rfl⟩:=yM.mp hx
     have hj:=(xC.mp hy).1
     refine ⟨_,rfl,_,rfl,d,_,rfl,DPut.k (k:=.inl (y:Int)) hd0 (by lia),?_⟩
     refine ⟨_,_,rfl,fun x=>?_,yA (U3 _ _ _) (by lia),upd_same,sx.trans SameX.upd⟩
     rw [Zab,yB,hy]
     by_cases e:x=y
     ·rw [e,if_pos rfl]
      exact ⟨fun _=>.inr (xM _ (xF.mpr rfl)),fun _=>rfl⟩
     ·rw [if_neg (fun z=>by injection z with z; lia),hk' x]
      constructor
      ·exact fun z=>z.imp id (yF _)
      ·exact fun z=>z.imp id fun z=>(xO.mp z).elim id fun z=>absurd (xF.mp z) e
    ·rintro σ H0 ⟨ak',v9',rfl,hk',hl',hd0,sx⟩
     rw [Zei] at hk' hl'
     rw [yL] at hk'
     refine ⟨es ++ [Ent.mk m b ns],vs ++ [.ref ea],ak',_,_,_,rfl,I.more hline hcm hin rfl hE hk',by rw [xL]; show _+1<=_; lia,by lia,hd0,sx _ _ ndl.symm (s9 _ _ kl8),re8.mono' (Vi fun b o n h=>?_),fun b o e=>?_⟩
     ·obtain ⟨h1,h2⟩:=Zfx h
      exact Zdi h1 (sx b o (fun z=>n (by rw [z]; exact xI)) (s9 b o h2))
     ·exact sx b o (fun z=>by rw [z,hd3] at e; cases e) (sm9 b o e)
  ·rintro σ H' ⟨es,vs,ak,v7,v8,v9,rfl,I,hel,hal,hd',hle',hre,sm⟩
   rw [show c+(ss.length - c)=ss.length by lia] at I
   exact ⟨_,rfl,k le es vs H' (I.end_ hline hc) (by lia) hleH hle' ((hre.mono' (Zih fun b hb=>by rw [xF.mp hb]; exact xN _ (xF.mpr rfl))).mono' (Vi fun b o _ h=>Zdi (S3.free (Zfx h).1) (Zfx h).2)) (S3.trans sm)⟩
end
section
variable {P:Program}{w:World}{K:uFg}{mg:Str->Option Value}{base:Heap}{c:Str->Addr}
theorem Zbq {X:Cx}{sts:List Stmt}:QSs X sts (fun _ _ _=>False):=⟨fun _ _ _ _ _ _ h=>h.elim⟩
abbrev errs:List Str:=["NoCase", "NoOath"]
theorem Zh4 {d:Int}(h:d.natAbs<=1000000000000000000):d.natAbs.log2 < 1920:=by
 by_cases z:d.natAbs=0
 ·rw [z]; decide +kernel
 ·rw [Nat.log2_lt z]
  exact Nat.lt_of_le_of_lt h (by decide +kernel)
def okI (d:Int):Prop:=d.natAbs<=1000000000000000000
def Wl (c:Str->Addr):Sp:=fun vs H _ E=>∃ (l:Addr) (us:List V) (z:Int),vs = [.ref l,.int z]/\H l=some (.lst us)/\¬ (0<=z/\z < us.length)/\okI z/\E (.ref (c "NoCase")) none H
theorem Z90 (Zb5:Has K mg "check_case" Zas) (T:Txt mg) (er:Er K mg c errs):FnX P w K mg base "check_case" 1 (Wl c):=by
 refine Zb5.fnX Zs3 (fun _ _ _ _ _ _ us hl=>match us,hl with | [_,_],_=>rfl) (fun vs H Q E h=>?_) (fun f cdv A outer s H vs Q E hr h=>?_)
 ·obtain ⟨l,us,z,rfl,_⟩:=h
  rfl
 ·obtain ⟨l,us,z,rfl,hl,hb,hi,k⟩:=h
  refine ⟨_,(Zg (Zy (Zde (Zn2 Zdf Uu Zd (qvN 1 Zlv) (Z6 Y9 Zs4 T.len Yy (Zb (qvN 0 Zs5) Zc)))) (Zg (Zog Zix rfl rfl (er.x "NoCase" (by decide +kernel)) Z61 (er.g "NoCase" (by decide +kernel)) (Znm (Zqt (Ziy (qvN 1 Zlv) Zqs))))) Z0)),?_⟩
  refine ⟨_,rfl,_,_,rfl,rfl,_,rfl,Yc (fun h0=>?_) (fun y=>?_)⟩
  ·exact ⟨_,rfl,l,us,rfl,.inl (SqL.of hl),_,_,rfl,rfl,_,rfl,Uo (fun _=>⟨by decide +kernel,_,rfl,.inr ⟨z,rfl,Zh4 hi⟩,fun _=>k⟩) (fun y=>absurd ⟨h0,y⟩ hb)⟩
  ·exact ⟨false,rfl,Yb ⟨by decide +kernel,_,rfl,.inr ⟨z,rfl,Zh4 hi⟩,fun _=>k⟩⟩
theorem Z91 (Zcd:Has K mg "margin" Uz) (Yw:FnX P w K mg base "check_case" 1 (Wl c)):FnX P w K mg base "margin" 2 (Wl c):=by
 refine Zcd.fnX Zts (fun _ _ _ _ _ _ us hl=>match us,hl with | [_,_],_=>rfl) (fun vs H Q E h=>?_) (fun f cdv A outer s H vs Q E hr h=>?_)
 ·obtain ⟨l,us,z,rfl,_⟩:=h
  rfl
 ·obtain ⟨l,us,z,rfl,hl,hb,hi,k⟩:=h
  refine ⟨_,(Ze (Yl (Wx Vc Yw (hr.mono (by lia)) Ztt (Zb (qvN 0 Zgt) (Zb (qvN 1 Zl6) Zc))))
 Zbq),?_⟩
  exact ⟨_,rfl,_,rfl,l,us,z,rfl,hl,hb,hi,k⟩
theorem Z92 (Zb6:Has K mg "chain" Uc) (Yw:FnX P w K mg base "check_case" 1 (Wl c)):FnX P w K mg base "chain" 2 (Wl c):=by
 refine Zb6.fnX Zdu (fun _ _ _ _ _ _ us hl=>match us,hl with | [_,_],_=>rfl) (fun vs H Q E h=>?_) (fun f cdv A outer s H vs Q E hr h=>?_)
 ·obtain ⟨l,us,z,rfl,_⟩:=h
  rfl
 ·obtain ⟨l,us,z,rfl,hl,hb,hi,k⟩:=h
  refine ⟨_,(Ze (Yl (Wx Vc Yw (hr.mono (by lia)) Zs7 (Zb (qvN 0 Zgg) (Zb (qvN 1 Zlw) Zc))))
 Zbq),?_⟩
  exact ⟨_,rfl,_,rfl,l,us,z,rfl,hl,hb,hi,k⟩
theorem Z93 (Zb7:Has K mg "bearing" U7) (Yw:FnX P w K mg base "check_case" 1 (Wl c)):FnX P w K mg base "bearing" 2 (Wl c):=by
 refine Zb7.fnX Zs8 (fun _ _ _ _ _ _ us hl=>match us,hl with | [_,_],_=>rfl) (fun vs H Q E h=>?_) (fun f cdv A outer s H vs Q E hr h=>?_)
 ·obtain ⟨l,us,z,rfl,_⟩:=h
  rfl
 ·obtain ⟨l,us,z,rfl,hl,hb,hi,k⟩:=h
  refine ⟨_,(Ze (Yl (Wx Vc Yw (hr.mono (by lia)) Zs9 (Zb (qvC 0 Zgj) (Zb (qvC 1 Zgi) Zc))))
 Zbq),?_⟩
  exact ⟨_,rfl,_,rfl,l,us,z,rfl,hl,hb,hi,k⟩
theorem Z94 (Zch:Has K mg "paper" Y0) (Yw:FnX P w K mg base "check_case" 1 (Wl c)):FnX P w K mg base "paper" 2 (Wl c):=by
 refine Zch.fnX Ue (fun _ _ _ _ _ _ us hl=>match us,hl with | [_,_],_=>rfl) (fun vs H Q E h=>?_) (fun f cdv A outer s H vs Q E hr h=>?_)
 ·obtain ⟨l,us,z,rfl,_⟩:=h
  rfl
 ·obtain ⟨l,us,z,rfl,hl,hb,hi,k⟩:=h
  refine ⟨_,(Ze (Yl (Wx Vc Yw (hr.mono (by lia)) Zuc (Zb (qvN 0 Nq4) (Zb (qvN 1 Zg0) Zc))))
 Zbq),?_⟩
  exact ⟨_,rfl,_,rfl,l,us,z,rfl,hl,hb,hi,k⟩
theorem Z95 (Zcc:Has K mg "fewest" Wq) (Yw:FnX P w K mg base "check_case" 1 (Wl c)):FnX P w K mg base "fewest" 2 (Wl c):=by
 refine Zcc.fnX Zcb (fun _ _ _ _ _ _ us hl=>match us,hl with | [_,_],_=>rfl) (fun vs H Q E h=>?_) (fun f cdv A outer s H vs Q E hr h=>?_)
 ·obtain ⟨l,us,z,rfl,_⟩:=h
  rfl
 ·obtain ⟨l,us,z,rfl,hl,hb,hi,k⟩:=h
  refine ⟨_,(Ze (Yl (Wx Vc Yw (hr.mono (by lia)) Zto (Zb (qvN 0 Nq8) (Zb (qvN 1 Zgq) Zc))))
 Zbq),?_⟩
  exact ⟨_,rfl,_,rfl,l,us,z,rfl,hl,hb,hi,k⟩
def Ze7 (c:Str->Addr):Sp:=fun vs H _ E=>∃ (l:Addr) (ss:List Suit) (z:Int) (n:Str),vs = [.ref l,.int z,.str n]/\SuitsAt H ss l/\ss.length<=1000/\okI z/\n.length<=100 /\
 ((¬ (0<=z/\z < ss.length)/\E (.ref (c "NoCase")) none H)\/∃ (i:Nat) (t:Suit),z=i/\ss[i]? = some t/\Wf t/\n∉(t.ones++t.others).map (·.1)/\∀ H',Same H H'->E (.ref (c "NoOath")) none H')
theorem Z96 (Zce:Has K mg "check_oath" V1) (T:Txt mg) (er:Er K mg c errs) (C0:∃ t,mg "ONES" = some (.int 0 t)) (C1:∃ t,mg "OTHERS" = some (.int 1 t)) (Yw:FnX P w K mg base "check_case" 1 (Sp.or Zai (Wl c))) :
  FnX P w K mg base "check_oath" 2 (Ze7 c):=by
 obtain ⟨t0,c_ONES⟩:=C0
 obtain ⟨t1,c_OTHERS⟩:=C1
 have r_ONES:RelV (.int 0) (.int 0 t0):=⟨t0,rfl⟩
 have r_OTHERS:RelV (.int 1) (.int 1 t1):=⟨t1,rfl⟩
 refine Zce.fnX Ztu (fun _ _ _ _ _ _ us hl=>match us,hl with | [_,_,_],_=>rfl) (fun vs H Q E h=>?_) (fun f cdv A outer s H vs Q E hr h=>?_)
 ·obtain ⟨l,ss,z,n,rfl,_⟩:=h
  rfl
 ·obtain ⟨l,ss,z,n,rfl,hsu,hsl,hi,hnl,hh⟩:=h
  refine ⟨_,(Ze (Yl (Wx Vc Yw (hr.mono (by lia)) Ztx (Zb (qvN 0 Zcr) (Zb (qvN 1 Nq9) Zc))))
 (Zg (Zy (Zw Zg5 (qvN 2 Zl7) (Wr (locs:=["swearer", "weight"]) (fr:=[]) ⟨rfl,by decide +kernel,by decide +kernel,by decide +kernel,by decide +kernel,by decide +kernel⟩ .nil rfl (Yp (Zn V8 (Zi Z3 (Zi Zz (qvN 0 Zcr) (qvN 1 Nq9) (fun _ _=>rfl)) (Yg Ztv c_ONES r_ONES) (fun _ _=>rfl)) (Zi Z3 (Zi Zz (qvN 0 Zcr) (qvN 1 Nq9) (fun _ _=>rfl)) (Yg Ztw c_OTHERS r_OTHERS) (fun _ _=>rfl)))) ⟨fun _ _ _ _ _ _=>by
  have cnd:(inN ["swearer", "weight"] []).Nodup:=by decide +kernel
  exact ⟨(Vh 2 (by rfl) (Z2 (Z8 0 cnd) (Z2 (Z8 1 cnd) Wc))),Vg,(Yj 0)⟩⟩) rfl) (Zg (Zog Zix rfl rfl (er.x "NoOath" (by decide +kernel)) Z8h (er.g "NoOath" (by decide +kernel)) (Znm (Ziy (qvN 2 Zl7) (Zqt (Ziy (qvN 1 Nq9) Zqs)))))) Z0))),?_⟩
  have hz:(5000:Nat)<=sizeLine:=by decide
  obtain ⟨us,hl,hrep⟩:=id hsu
  have hul:us.length=ss.length:=by have:=hrep.length; rw [xA] at this; exact this
  rcases hh with ⟨hb,k⟩ | ⟨c',t,rfl,ht,hok,hn,k⟩
  ·exact ⟨_,rfl,_,rfl,.inr ⟨l,us,z,rfl,hl,by rw [hul]; exact hb,hi,k⟩⟩
  have hc:=(xC.mp ht).1
  obtain ⟨ta,u1,u2,u4,hu,hta,⟨b1,w1,rfl,hb1,hr1⟩,⟨b2,w2,rfl,hb2,hr2⟩,h4⟩:=SuitsAt.get (l:=l) hrep ht
  obtain ⟨L1,L2',_,_⟩:=hok
  have z1:=hr1.len
  have z2:=hr2.len
  have y1:=L1.2
  have y2:=L2'.2
  refine ⟨_,rfl,_,rfl,.inl ⟨l,us,c',rfl,hl,by lia,?_⟩⟩
  refine ⟨_,rfl,_,rfl,_,rfl,l,us,c',.ref ta,rfl,rfl,SqL.of hl,Yh hu,ta,_,0,.ref b1,rfl,rfl,SqT.of hta,rfl,?_⟩
  refine ⟨_,rfl,_,rfl,l,us,c',.ref ta,rfl,rfl,SqL.of hl,Yh hu,ta,_,1,.ref b2,rfl,rfl,SqT.of hta,rfl,?_⟩
  refine ⟨b1,b2,w1,w2,rfl,rfl,hb1,hb2,by lia,fun q hq=>?_⟩
  have Sc:=Same.new (o:=.lst (w1++w2)) hq
  have kc:(upd H q (.lst (w1++w2))) q=some (.lst (w1++w2)):=upd_same
  generalize (upd H q (.lst (w1++w2)))=H2 at Sc kc ⊢
  have hrs:RepS H2 (t.ones++t.others) (w1++w2):=RepS.mono (Same.t Sc) (RepS.app hr2 hr1)
  refine ⟨q,rfl,⟨_,SqL.of kc⟩,?_⟩
  refine Zbs kc hrs (by rw [xL]; lia) fun l2 hl2=>?_
  refine ⟨l2,_,rfl,.inl (SqL.of upd_same),rfl,Zcy _,_,rfl,?_⟩
  rw [Zc9]
  refine Uo (fun _=>?_) (fun z=>absurd z hn)
  have S3:=Sc.trans (Same.new (o:=.lst (((t.ones++t.others).map (·.1)).map V.str)) hl2)
  exact ⟨_,rfl,.inl ⟨n,rfl,by lia⟩,by decide +kernel,_,rfl,.inr ⟨(c':Int),rfl,Zh4 hi⟩,fun _=>k _ S3⟩
theorem Z97 (Zcf:Has K mg "breakers" U8) (Zkg:FnX P w K mg base "check_oath" 2 (Ze7 c)):FnX P w K mg base "breakers" 3 (Ze7 c):=by
 refine Zcf.fnX Zty (fun _ _ _ _ _ _ us hl=>match us,hl with | [_,_,_],_=>rfl) (fun vs H Q E h=>?_) (fun f cdv A outer s H vs Q E hr h=>?_)
 ·obtain ⟨l,ss,z,n,rfl,_⟩:=h
  rfl
 ·obtain ⟨l,ss,z,n,rfl,r⟩:=h
  refine ⟨_,(Ze (Yl (Wx Vc Zkg (hr.mono (by lia)) Ztz (Zb (qvN 0 Zkf) (Zb (qvN 1 Zl8) (Zb (qvN 2 Zl9) Zc)))))
 Zbq),?_⟩
  exact ⟨_,rfl,_,rfl,_,rfl,l,ss,z,n,rfl,r⟩
end
section
variable {P:Program}{w:World}{K:uFg}{mg:Str->Option Value}{base:Heap}{c:Str->Addr}
def there (ss:List Suit) (z:Int):Prop:=0<=z/\z < ss.length
instance (ss:List Suit) (z:Int):Decidable (there ss z):=by unfold there; exact inferInstance
def Ve (ss:List Suit) (z:Int) (n:Str):Prop:=match ss[z.toNat]? with
 | some t=>n∈(t.ones++t.others).map (·.1)
 | none=>False
instance (ss:List Suit) (z:Int) (n:Str):Decidable (Ve ss z n):=by unfold Ve; cases ss[z.toNat]? <;> exact inferInstance
def Y2 (w:Nat) (ss:List Suit) (z:Int) (n:Str):Str:=if ¬ there ss z then "NoCase" else if w=5/\¬ Ve ss z n then "NoOath" else ""
theorem Zen {w:Nat}{ss:List Suit}{z:Int}{n:Str}(h:¬ there ss z):Y2 w ss z n = "NoCase" := if_pos h
theorem Zm2 {ss:List Suit}{z:Int}{n:Str}(h:there ss z) (h2:¬ Ve ss z n):Y2 5 ss z n = "NoOath" := by unfold Y2; rw [if_neg (fun y=>y h),if_pos ⟨rfl,h2⟩]
theorem Zc5 {w:Nat}{ss:List Suit}{z:Int}{n:Str}(h:there ss z) (h2:w≠5\/Ve ss z n):Y2 w ss z n = "" := by
 unfold Y2
 rw [if_neg (fun y=>y h),if_neg (fun y=>by rcases h2 with h2 | h2; exact h2 y.1; exact y.2 h2)]
theorem Zo2:∀ (ss:List Suit) (k:Nat),(∀ t∈ss,(t.ones++t.others).length<=4)->(Vz k ss).length<=4 * ss.length
 | [],_,_=>yT _
 | t::r,k,h=>by
  rw [Vz,xL,xA,xS]
  have h1:=h t xI
  have h2:=Zo2 r (k+1) fun t ht=>h t (xN _ ht)
  lia
structure Few (H:Hp) (ss:List Suit) (l:Addr):Prop where
 at_:SuitsAt H ss l
 ln:Line ss
 l6:ss.length<=6
 l4:∀ t∈ss,(t.ones++t.others).length<=4
theorem Few.mono {H H':Hp}{ss:List Suit}{l:Addr}(h:Few H ss l) (k:Same H H'):Few H' ss l:=⟨h.at_.mono k,h.ln,h.l6,h.l4⟩
def Zuf (c:Str->Addr) (T:Addr):Sp:=fun vs H Q E=>∃ (w:Nat) (l:Addr) (ss:List Suit) (z:Int) (n:Str),vs = [.int w,.ref l,.int z,.str n]/\w<=5/\Few H ss l/\okI z/\n.length<=100/\IsTab H T Zal /\
 (Y2 w ss z n = "" -> ∀ v H',Same H H'->Q v H')/\(Y2 w ss z n ≠ "" -> ∀ H',Same H H'->E (.ref (c (Y2 w ss z n))) none H')
abbrev Vl:Stmt:=top 57
theorem Z98:FnScope ["_law_word_here", "_law_suits_here", "_law_case", "_law_name"] ["_law_word_here", "_law_suits_here", "_law_case", "_law_name"] (Za Vl):=⟨rfl,rfl,rfl,by decide +kernel,rfl,by decide +kernel,by decide +kernel⟩
theorem Zcu:Nm (Za Vl) "_law_case" .local:=by decide +kernel
theorem Z99:Nm (Za Vl) "_law_name" .local:=by decide +kernel
theorem Zcv:Nm (Za Vl) "_law_suits_here" .local:=by decide +kernel
theorem Zeb:Nm (Za Vl) "_law_word_here" .local:=by decide +kernel
theorem Yaa:Nm (Za Vl) "bearing" .globalImplicit:=by decide +kernel
theorem Yab:Nm (Za Vl) "breakers" .globalImplicit:=by decide +kernel
theorem Yac:Nm (Za Vl) "chain" .globalImplicit:=by decide +kernel
theorem Yad:Nm (Za Vl) "fewest" .globalImplicit:=by decide +kernel
theorem Yae:Nm (Za Vl) "margin" .globalImplicit:=by decide +kernel
theorem Yaf:Nm (Za Vl) "paper" .globalImplicit:=by decide +kernel
theorem Yag {Tt:Addr}(Zkw:Has K mg "_law_ask" Vl) (Yah:FnX P w K mg base "margin" 9 (Sp.or Zp3 (Wl c))) (Zj2:FnX P w K mg base "chain" 9 (Sp.or Zii (Wl c))) (Zke:FnX P w K mg base "bearing" 9 (Sp.or Zhn (Wl c)))
  (Yai:FnX P w K mg base "paper" 9 (Sp.or (Zub Tt) (Wl c))) (Yaj:FnX P w K mg base "fewest" 9 (Sp.or Zou (Wl c))) (Yak:FnX P w K mg base "breakers" 9 (Sp.or Zm1 (Ze7 c))):FnX P w K mg base "_law_ask" 10 (Zuf c Tt):=by
 refine Zkw.fnX Z98 (fun _ _ _ _ _ _ us hl=>match us,hl with | [_,_,_,_],_=>rfl) (fun vs H Q E h=>?_) (fun f cdv A outer s H vs Q E hr h=>?_)
 ·obtain ⟨w,l,ss,z,n,rfl,_⟩:=h
  rfl
 ·obtain ⟨w,l,ss,z,n,rfl,hw,hF,hi,hn,hT,kq,ke⟩:=h
  refine ⟨_,(Ze (Zy (Zw We (qvN 0 Zeb) Zd (Z1 _)) (Zg (Zo (Wx Vc Yah (hr.mono (by lia)) Yae (Zb (qvN 1 Zcv) (Zb (qvN 2 Zcu) Zc))))) Z0)
 (Ze (Zy (Zw We (qvN 0 Zeb) Zd (Z1 _)) (Zg (Zo (Wx Vc Zj2 (hr.mono (by lia)) Yac (Zb (qvN 1 Zcv) (Zb (qvN 2 Zcu) Zc))))) Z0)
 (Ze (Zy (Zw We (qvN 0 Zeb) Zd (Z1 _)) (Zg (Zo (Wx Vc Zke (hr.mono (by lia)) Yaa (Zb (qvN 1 Zcv) (Zb (qvN 2 Zcu) Zc))))) Z0)
 (Ze (Zy (Zw We (qvN 0 Zeb) Zd (Z1 _)) (Zg (Zo (Wx Vc Yai (hr.mono (by lia)) Yaf (Zb (qvN 1 Zcv) (Zb (qvN 2 Zcu) Zc))))) Z0)
 (Ze (Zy (Zw We (qvN 0 Zeb) Zd (Z1 _)) (Zg (Zo (Wx Vc Yaj (hr.mono (by lia)) Yad (Zb (qvN 1 Zcv) (Zb (qvN 2 Zcu) Zc))))) Z0)
 (Zg (Zo (Wx Vc Yak (hr.mono (by lia)) Yab (Zb (qvN 1 Zcv) (Zb (qvN 2 Zcu) (Zb (qvN 3 Z99) Zc))))))))))),?_⟩
  obtain ⟨us,hl,hrep⟩:=id hF.at_
  have hul:us.length=ss.length:=by have:=hrep.length; rw [xA] at this; exact this
  have l6:=hF.l6
  have kno:¬ there ss z->¬ (0<=z/\z < us.length)/\E (.ref (c "NoCase")) none H:=fun h=>⟨by rw [hul]; exact h,by have e:=Zen (w:=w) (n:=n) h; rw [e] at ke; exact ke (by decide +kernel) H (Same.refl _)⟩
  by_cases hth:there ss z
  ·obtain ⟨i,rfl⟩:=yN hth.1
   have hi':i < ss.length:=by have:=hth.2; lia
   obtain ⟨t,ht⟩:∃ t,ss[i]? = some t:=⟨_,xB hi'⟩
   have hok:=hF.ln.ok
   have good:w≠5->∀ v H',Same H H'->Q v H':=fun h=>kq (Zc5 hth (.inl h))
   refine ⟨_,rfl,rfl,_,rfl,Yc (fun e=>?_) (fun e0=>?_)⟩
   ·have e':(w:Int)=0:=by injection e
    have g:=good (by lia)
    exact ⟨_,rfl,_,rfl,.inl ⟨l,ss,i,t,rfl,hF.at_,hok,by lia,ht,fun br H' _ sm=>g _ H' sm⟩⟩
   dsimp only [Y1]
   refine ⟨_,rfl,rfl,_,rfl,Yc (fun e=>?_) (fun e1=>?_)⟩
   ·have e':(w:Int)=1:=by injection e
    have g:=good (by lia)
    obtain ⟨cs,h1,_,_,h2⟩:=Zon hF.ln ht
    exact ⟨_,rfl,_,rfl,.inl ⟨l,ss,i,t,cs,rfl,hF.at_,ht,h1,by lia,fun l2 H' _ _ sm=>g _ H' sm⟩⟩
   dsimp only [Y1]
   refine ⟨_,rfl,rfl,_,rfl,Yc (fun e=>?_) (fun e2=>?_)⟩
   ·have e':(w:Int)=2:=by injection e
    have g:=good (by lia)
    obtain ⟨f,hf⟩:=Zoo hF.ln
    exact ⟨_,rfl,_,rfl,.inl ⟨l,ss,i,f,rfl,hF.at_,by lia,hi',hf,fun l2 H' _ _ sm=>g _ H' sm⟩⟩
   dsimp only [Y1]
   refine ⟨_,rfl,rfl,_,rfl,Yc (fun e=>?_) (fun e3=>?_)⟩
   ·have e':(w:Int)=3:=by injection e
    have g:=good (by lia)
    exact ⟨_,rfl,_,rfl,.inl ⟨l,ss,i,rfl,hF.at_,hF.ln,by lia,fun t ht=>by have:=hF.l4 t ht; lia,hi',hT,fun le es vs H' _ _ _ _ _ sm=>g _ H' sm⟩⟩
   dsimp only [Y1]
   refine ⟨_,rfl,rfl,_,rfl,Yc (fun e=>?_) (fun e4=>?_)⟩
   ·have e':(w:Int)=4:=by injection e
    have g:=good (by lia)
    exact ⟨_,rfl,_,rfl,.inl ⟨i,l,ss,rfl,hF.at_,hi',hF.ln,by lia,by have:=Zo2 ss 0 hF.l4; lia,fun r v H' _ _ sm=>g _ H' sm⟩⟩
   dsimp only [Y1]
   have w5:w=5:=by
    have n0:w≠0:=fun y=>e0 (by rw [y]; rfl)
    have n1:w≠1:=fun y=>e1 (by rw [y]; rfl)
    have n2:w≠2:=fun y=>e2 (by rw [y]; rfl)
    have n3:w≠3:=fun y=>e3 (by rw [y]; rfl)
    have n4:w≠4:=fun y=>e4 (by rw [y]; rfl)
    lia
   subst w5
   have esw:Ve ss (i:Int) n↔n∈(t.ones++t.others).map (·.1):=by unfold Ve; rw [xZ,ht]
   by_cases hs:Ve ss (i:Int) n
   ·exact ⟨_,rfl,_,rfl,_,rfl,.inl ⟨l,ss,i,t,n,rfl,hF.at_,hok,by lia,ht,esw.mp hs,fun l2 H' _ _ sm=>kq (Zc5 hth (.inr hs)) _ H' sm⟩⟩
   ·have e:=Zm2 hth hs
    rw [e] at ke
    exact ⟨_,rfl,_,rfl,_,rfl,.inr ⟨l,ss,i,n,rfl,hF.at_,by lia,hi,hn,.inr ⟨i,t,rfl,ht,hok t (xT ht),fun y=>hs (esw.mpr y),fun H' sm=>ke (by decide +kernel) H' sm⟩⟩⟩
  ·obtain ⟨hb,k⟩:=kno hth
   refine ⟨_,rfl,rfl,_,rfl,Yc (fun e=>⟨_,rfl,_,rfl,.inr ⟨l,us,z,rfl,hl,hb,hi,k⟩⟩) (fun e0=>?_)⟩
   dsimp only [Y1]
   refine ⟨_,rfl,rfl,_,rfl,Yc (fun e=>⟨_,rfl,_,rfl,.inr ⟨l,us,z,rfl,hl,hb,hi,k⟩⟩) (fun e0=>?_)⟩
   dsimp only [Y1]
   refine ⟨_,rfl,rfl,_,rfl,Yc (fun e=>⟨_,rfl,_,rfl,.inr ⟨l,us,z,rfl,hl,hb,hi,k⟩⟩) (fun e0=>?_)⟩
   dsimp only [Y1]
   refine ⟨_,rfl,rfl,_,rfl,Yc (fun e=>⟨_,rfl,_,rfl,.inr ⟨l,us,z,rfl,hl,hb,hi,k⟩⟩) (fun e0=>?_)⟩
   dsimp only [Y1]
   refine ⟨_,rfl,rfl,_,rfl,Yc (fun e=>⟨_,rfl,_,rfl,.inr ⟨l,us,z,rfl,hl,hb,hi,k⟩⟩) (fun e0=>?_)⟩
   dsimp only [Y1]
   exact ⟨_,rfl,_,rfl,_,rfl,.inr ⟨l,ss,z,n,rfl,hF.at_,by lia,hi,hn,.inl ⟨hth,k⟩⟩⟩
def Zan (s:Str):List Bool:=if s = "" then [] else [decide (s = "NoCase"),decide (s = "NoOath"),true]
theorem Zyk {w:Nat}{ss:List Suit}{z:Int}{n:Str}(h:Y2 w ss z n ≠ ""):Y2 w ss z n∈errs:=by
 unfold Y2 at h ⊢
 by_cases a:¬ there ss z
 ·rw [if_pos a]; decide +kernel
 ·rw [if_neg a] at h ⊢
  by_cases b:w=5/\¬ Ve ss z n
  ·rw [if_pos b]; decide +kernel
  ·rw [if_neg b] at h; exact absurd rfl h
theorem Zv1:bootBuiltins "ValueError" = some (.type "ValueError"):=by decide +kernel
def Znw (T:Addr):Sp:=fun vs H Q _=>∃ (w:Nat) (l:Addr) (ss:List Suit) (z:Int) (n:Str),vs = [.int w,.ref l,.int z,.str n]/\w<=5/\Few H ss l/\okI z/\n.length<=100/\IsTab H T Zal /\
 ∀ (q:Addr) (H':Hp),H' q=some (.lst ((Zan (Y2 w ss z n)).map V.bl))->Same H H'->Q (.ref q) H'
abbrev Wu:Stmt:=top 58
theorem Zfy:FnScope ["_law_word_here", "_law_suits_here", "_law_case", "_law_name", "_law_kinds", "e"] ["_law_word_here", "_law_suits_here", "_law_case", "_law_name"] (Za Wu):=⟨rfl,rfl,rfl,by decide +kernel,rfl,by decide +kernel,by decide +kernel⟩
theorem Yal:Nm (Za Wu) "MootError" .globalImplicit:=by decide +kernel
theorem Yam:Nm (Za Wu) "NoCase" .globalImplicit:=by decide +kernel
theorem Yan:Nm (Za Wu) "NoOath" .globalImplicit:=by decide +kernel
theorem Yao:Nm (Za Wu) "ValueError" .globalImplicit:=by decide +kernel
theorem Yap:Nm (Za Wu) "_law_ask" .globalImplicit:=by decide +kernel
theorem Yaq:Nm (Za Wu) "_law_case" .local:=by decide +kernel
theorem Zkx:Nm (Za Wu) "_law_kinds" .local:=by decide +kernel
theorem Yar:Nm (Za Wu) "_law_name" .local:=by decide +kernel
theorem Yas:Nm (Za Wu) "_law_suits_here" .local:=by decide +kernel
theorem Yat:Nm (Za Wu) "_law_word_here" .local:=by decide +kernel
theorem Zg1:Nm (Za Wu) "e" .local:=by decide +kernel
theorem Zky:Nm (Za Wu) "isinstance" .globalImplicit:=by decide +kernel
theorem Yau {Tt:Addr}(Zkz:Has K mg "_law_refusal" Wu) (T:Txt mg) (er:Er K mg c errs) (Yav:FnX P w K mg base "_law_ask" 10 (Zuf c Tt)):Fn P w K mg base "_law_refusal" ["_law_word_here", "_law_suits_here", "_law_case", "_law_name"] 11 (Znw Tt):=by
 refine Zkz.fn0 Zfy (fun _ _ _ _ _ _ us hl=>match us,hl with | [_,_,_,_],_=>rfl) (fun vs H Q E h=>?_) (fun f cdv A outer s H vs Q E hr h=>?_)
 ·obtain ⟨w,l,ss,z,n,rfl,_⟩:=h
  rfl
 ·obtain ⟨w,l,ss,z,n,rfl,hw,hF,hi,hn,hT,k⟩:=h
  refine ⟨_,(Zhk (QS.q0 (Zl (i:=4) Zfy.nd Zkx (Yq Zc)))
 (Zhk (Z3o Zqu (fun _ _ hx=>(Zg (Yl (Wx hx Yav (hr.mono (by lia)) Yap (Zb (qvN 0 Yat) (Zb (qvN 1 Yas) (Zb (qvN 2 Yaq) (Zb (qvN 3 Yar) Zc))))))))
 (Z4j (i:=5) Zqu Yal (er.m) Zfy.nd Zg1 (fun a C o hc=>(Zg (Zl (i:=4) Zfy.nd Zkx (Yq (Zb (Z6 (Zg7 hc) Zky T.isinstance Zg8 (Zb (qvN 5 Zg1) (Zb (Yg (v:=.ref (c "NoCase")) Yam (er.g "NoCase" (by decide +kernel)) rfl) Zc))) (Zb (Z6 (Zg7 hc) Zky T.isinstance Zg8 (Zb (qvN 5 Zg1) (Zb (Yg (v:=.ref (c "NoOath")) Yan (er.g "NoOath" (by decide +kernel)) rfl) Zc))) (Zb (Z6 (Zg7 hc) Zky T.isinstance Zg8 (Zb (qvN 5 Zg1) (Zb (Zzc (v:=.ty "ValueError") Yao T.ValueError Zv1 rfl) Zc))) Zc))))))) Z3n))
 (Zhk (QS.q0 (Zo (qvN 4 Zkx)))
 (QSs.q0 Z0)))),?_⟩
  have hz:(20:Nat)<=sizeLine:=by decide
  refine ⟨by show 0<=sizeLine; lia,fun q hq=>?_⟩
  have s0:=Same.new (o:=.lst []) hq
  have hq0:(upd H q (.lst [])) q=some (.lst []):=upd_same
  generalize (upd H q (.lst []))=H1 at s0 hq0 ⊢
  refine Zt ?_
  dsimp only [Y1]
  refine ⟨_,rfl,_,rfl,_,rfl,_,rfl,w,l,ss,z,n,rfl,hw,hF.mono s0,hi,hn,hT.same s0,fun hd v H' sm=>?_,fun hd H' sm=>?_⟩
  ·exact ⟨_,rfl,k q H' (by rw [hd]; exact sm _ _ hq0) (s0.trans sm)⟩
  ·have hm:=Zyk hd
   refine ⟨_,rfl,true,er.e _ hm,Yb fun a=>?_⟩
   refine ⟨_,rfl,er.k _ hm,_,.inl ⟨_,rfl,er.i _ hm _ (by decide +kernel)⟩,_,rfl,er.k _ hm,_,.inl ⟨_,rfl,er.i _ hm _ (by decide +kernel)⟩,_,rfl,er.k _ hm,_,.inr ⟨_,rfl,er.v _ hm⟩,by show 3<=sizeLine; lia,fun l1 hl1=>?_⟩
   refine Zt ?_
   dsimp only [Y1]
   have S1:=Same.new (o:=.lst [.bl (decide (Y2 w ss z n = "NoCase")),.bl (decide (Y2 w ss z n = "NoOath")),.bl true]) hl1
   refine ⟨_,rfl,k l1 _ ?_ ((s0.trans sm).trans S1)⟩
   rw [upd_same]
   unfold Zan
   rw [if_neg hd]
   rfl
theorem IsTab.src {H H':Hp}{T s la:Addr}{nm:Str}(h:IsTab H T nm) (hs:SrcAt H s la) (k:SameX s H H'):IsTab H' T nm:=by
 obtain ⟨ns,i,b,st,c,h1,_⟩:=hs
 exact h.x h1 k
structure W11 (T:Addr) (H:Hp) (s la l:Addr) (us:List V) (ss:List Suit):Prop where
 sr:SrcAt H s la
 at_:H l=some (.lst us)
 nl:l≠s
 r:RepL (off [s] H) (ss.map Ub) us
 tb:IsTab H T Zal
theorem W11.x {T:Addr}{H H':Hp}{s la l:Addr}{us:List V}{ss:List Suit}(h:W11 T H s la l us ss) (k:SameX s H H') (hs:SrcAt H' s la):W11 T H' s la l us ss :=
 ⟨hs,k _ _ h.nl h.at_,h.nl,h.r.mono' (Vi fun b o n e=>k b o (fun z=>n (by rw [z]; exact xF.mpr rfl)) e),IsTab.src h.tb h.sr k⟩
theorem W11.same {T:Addr}{H H':Hp}{s la l:Addr}{us:List V}{ss:List Suit}(h:W11 T H s la l us ss) (k:Same H H'):W11 T H' s la l us ss :=
 ⟨h.sr.keep k,k _ _ h.at_,h.nl,h.r.mono' (Vi fun b o _ e=>k b o e),h.tb.same k⟩
abbrev Yn:Stmt:=top 59
theorem sc_law:FnScope ["_law_script", "_law_src_here", "_law_suits_here", "_law_case", "_law_is_there", "_law_names_here", "_law_ones", "_law_others", "_law_need_here", "_law_named_here", "_law_name", "_law_swears", "_law_due", "_law_word_here"] ["_law_script"] (Za Yn):=⟨rfl,rfl,rfl,by decide +kernel,rfl,by decide +kernel,by decide +kernel⟩
theorem U9:Nm (Za Yn) "_law_case" .local:=by decide +kernel
theorem Zec:Nm (Za Yn) "_law_due" .local:=by decide +kernel
theorem Zg2:Nm (Za Yn) "_law_is_there" .local:=by decide +kernel
theorem Zg3:Nm (Za Yn) "_law_name" .local:=by decide +kernel
theorem Yaw:Nm (Za Yn) "_law_named_here" .local:=by decide +kernel
theorem Yax:Nm (Za Yn) "_law_names" .globalImplicit:=by decide +kernel
theorem Zed:Nm (Za Yn) "_law_names_here" .local:=by decide +kernel
theorem Yay:Nm (Za Yn) "_law_need_here" .local:=by decide +kernel
theorem Zee:Nm (Za Yn) "_law_next" .globalImplicit:=by decide +kernel
theorem Zug:Nm (Za Yn) "_law_ones" .local:=by decide +kernel
theorem Zuh:Nm (Za Yn) "_law_others" .local:=by decide +kernel
theorem Zui:Nm (Za Yn) "_law_refusal" .globalImplicit:=by decide +kernel
theorem Yaz:Nm (Za Yn) "_law_script" .local:=by decide +kernel
theorem Ya0:Nm (Za Yn) "_law_src" .globalImplicit:=by decide +kernel
theorem Nq5:Nm (Za Yn) "_law_src_here" .local:=by decide +kernel
theorem Ya1:Nm (Za Yn) "_law_suits" .globalImplicit:=by decide +kernel
theorem Nq6:Nm (Za Yn) "_law_suits_here" .local:=by decide +kernel
theorem Zk0:Nm (Za Yn) "_law_swears" .local:=by decide +kernel
theorem Zuj:Nm (Za Yn) "_law_word_here" .local:=by decide +kernel
theorem Zk1:Nm (Za Yn) "len" .globalImplicit:=by decide +kernel
theorem Ya2:Nm (Za Yn) "range" .globalImplicit:=by decide +kernel
theorem Ya3 {f Tt:Addr}{fd:FuncData}{ts:List Tb}(hts:∃ c,(⟨c,Tt,Zal⟩:Tb)∈ts) (F_law:Fun K "law" "law" Yn f fd) (T:Txt mg) (Ya4:Fn P w K mg base "_law_src" ["_law_script"] 1 (Zsb K)) (Z7:Fn P w K mg base "_law_next" ["_law_src_here", "_law_base"] 1 Ua)
  (Zjt:Fn P w K mg base "_law_names" ["_law_src_here", "_law_many"] 3 Zig) (Ya5:Fn P w K mg base "_law_suits" ["_law_src_here", "_law_many", "_law_most"] 5 Zpw) (Zuk:Fn P w K mg base "_law_refusal" ["_law_word_here", "_law_suits_here", "_law_case", "_law_name"] 11 (Znw Tt)) :
  FnOk P w K mg base CX0 12 f fd ["_law_script"] (Zff K ts):=by
 refine F_law.okQ sc_law (fun vs H Q E h=>?_) (fun cdv A outer s H vs Q E hr h=>?_)
 ·obtain ⟨a,ns,rfl,_⟩:=h
  rfl
 ·obtain ⟨a,ns,rfl,hS,hlen,hTs,k⟩:=h
  obtain ⟨cT,hcT⟩:=hts
  have hT0:IsTab H Tt Zal:=hTs _ hcT
  refine ⟨_,(Ze (Zl (i:=1) sc_law.nd Nq5 (Zj Ya4 (hr.mono (by lia)) Ya0 (Zb (qvN 0 Yaz) Zc)))
 (Ze (Zl (i:=2) sc_law.nd Nq6 (Zj Ya5 (hr.mono (by lia)) Ya1 (Zb (qvN 1 Nq5) (Zb (Zj Z7 (hr.mono (by lia)) Zee (Zb (qvN 1 Nq5) (Zb Zd Zc))) (Zb Zd Zc)))))
 (Ze (Zl (i:=3) sc_law.nd U9 (Zn V7 (Zj Z7 (hr.mono (by lia)) Zee (Zb (qvN 1 Nq5) (Zb (Zn Yr (Z6 Y9 Zk1 T.len Yy (Zb (qvN 2 Nq6) Zc)) Zd) Zc))) Zd))
 (Ze (Zy (Zw We (Zj Z7 (hr.mono (by lia)) Zee (Zb (qvN 1 Nq5) (Zb Zd Zc))) Zd (Z1 _)) (Zg (Zl (i:=3) sc_law.nd U9 (Zn Yr (qvN 3 U9) (Zi Zz (Yq (Zb (Zn Zh8 Zd Zd) (Zb (Zdk Zc8 (Zn Zh8 Zd Zd)) Zc))) (Zj Z7 (hr.mono (by lia)) Zee (Zb (qvN 1 Nq5) (Zb Zd Zc))) (fun _ _=>rfl))))) Z0)
 (Ze (Zl (i:=4) sc_law.nd Zg2 (Z3f (Up Zdf Zd (qvN 3 U9) (Z1 _)) (Z3e (Up Uu (qvN 3 U9) (Z6 Y9 Zk1 T.len Yy (Zb (qvN 2 Nq6) Zc)) (Z1 _)))))
 (Ze (Zl (i:=5) sc_law.nd Zed (Zj Zjt (hr.mono (by lia)) Yax (Zb (qvN 1 Nq5) (Zb Zd Zc))))
 (Ze (Y7 PassesOwn.never rfl (Yp (qvN 2 Nq6)) (Zdd (by rfl) (Z2 (Yo (i:=6) sc_law.nd Zug) (Z2 (Yo (i:=7) sc_law.nd Zuh) (Z2 (Yo (i:=8) sc_law.nd Yay) (Z2 (Yo (i:=9) sc_law.nd Yaw) Wc)))))
 (Zg (Zl (i:=5) sc_law.nd Zed (Zn V8 (qvN 5 Zed) (Wr (locs:=["_law_name", "_law_weight_here"]) (fr:=[]) ⟨rfl,by decide +kernel,by decide +kernel,by decide +kernel,by decide +kernel,by decide +kernel⟩ .nil rfl (Yp (Zn V8 (qvN 6 Zug) (qvN 7 Zuh))) ⟨fun _ _ _ _ _ _=>by
  have cnd:(inN ["_law_name", "_law_weight_here"] []).Nodup:=by decide +kernel
  exact ⟨(Vh 2 (by rfl) (Z2 (Z8 0 cnd) (Z2 (Z8 1 cnd) Wc))),Vg,(Yj 0)⟩⟩)))))
 (Ze (Zl (i:=10) sc_law.nd Zg3 (Zi Zz (qvN 5 Zed) (Zj Z7 (hr.mono (by lia)) Zee (Zb (qvN 1 Nq5) (Zb (Z6 Y9 Zk1 T.len Yy (Zb (qvN 5 Zed) Zc)) Zc))) (fun _ _=>rfl)))
 (Ze (Zl (i:=11) sc_law.nd Zk0 Vb)
 (Ze (Zy (Uq (qvN 4 Zg2)) (Zg (Zl (i:=11) sc_law.nd Zk0 (Up Zmr (qvN 10 Zg3) (Wr (locs:=["_law_one", "_law_weight_here"]) (fr:=[]) ⟨rfl,by decide +kernel,by decide +kernel,by decide +kernel,by decide +kernel,by decide +kernel⟩ .nil rfl (Yp (Zn V8 (Zi Z3 (Zi Zz (qvN 2 Nq6) (qvN 3 U9) (fun _ _=>rfl)) Zd (fun _ _=>rfl)) (Zi Z3 (Zi Zz (qvN 2 Nq6) (qvN 3 U9) (fun _ _=>rfl)) Zd (fun _ _=>rfl)))) ⟨fun _ _ _ _ _ _=>by
  have cnd:(inN ["_law_one", "_law_weight_here"] []).Nodup:=by decide +kernel
  exact ⟨(Vh 2 (by rfl) (Z2 (Z8 0 cnd) (Z2 (Z8 1 cnd) Wc))),Vg,(Yj 0)⟩⟩) rfl))) Z0)
 (Ze (Zl (i:=12) sc_law.nd Zec (Yq Zc))
 (Ze (Zy (Zde (Uq (qvN 4 Zg2))) (Zg (Zl (i:=12) sc_law.nd Zec (Yq (Zb Vb (Zb Vb (Zb Vb Zc)))))) Z0)
 (Ze (Y7 PassesOwn.never rfl (Zbm Ya2.1 T.range (Zb Zd Zc)) (Yo (i:=13) sc_law.nd Zuj)
 (Zg (Zy (Zw (Zyb hr) (Zj Zuk (hr.mono (by lia)) Zui (Zb (qvN 13 Zuj) (Zb (qvN 2 Nq6) (Zb (qvN 3 U9) (Zb (qvN 10 Zg3) Zc))))) (qvN 12 Zec) (Z1 _)) (Zg (Zo Vb)) Z0)))
 (Ze (Zy (QW.pt (Zfa (Uq (qvN 4 Zg2)) (Zeq (Zde (Uq (qvN 11 Zk0)))))) (Zg (Zl (i:=12) sc_law.nd Zec (Yq (Zb Vb (Zb Vb (Zb Vb Zc)))))) Z0)
 (Zg (Zo (Up (Zyc hr) (Zj Zuk (hr.mono (by lia)) Zui (Zb Zd (Zb (qvN 2 Nq6) (Zb (qvN 3 U9) (Zb (qvN 10 Zg3) Zc))))) (qvN 12 Zec) (Z1 _)))))))))))))))))),?_⟩
  have hz:(5000:Nat)<=sizeLine:=by decide
  refine ⟨_,rfl,a,ns,rfl,hS,fun s la H1 hs hla hs1 sm1=>?_⟩
  have hT1:=hT0.same sm1
  refine ⟨_,rfl,_,rfl,s,la,7,rfl,hs1,by decide,by decide,fun d H2 d0 d1 hs2 sx2=>?_⟩
  refine ⟨s,la,d,4,rfl,hs2,by lia,by lia,by decide,by decide,fun l us ss H3 hssl hline hshort hlf hls hl3 hrep3 hs3 sx3=>?_⟩
  have W3:W11 Tt H3 s la l us ss:=⟨hs3,hl3,hls,hrep3.mono' (Zih (fun b hb=>by simp at hb; simp [hb])),IsTab.src (IsTab.src hT1 hs1 sx2) hs2 sx3⟩
  have l6:ss.length<=6:=by lia
  have l4:∀ t∈ss,(t.ones++t.others).length<=4:=fun t ht=>by have:=hshort t ht; lia
  have hul:us.length=ss.length:=by have:=hrep3.length; rw [xA] at this; exact this
  have few:∀ {H'},W11 Tt H' s la l us ss->Few H' ss l:=fun W=>⟨⟨us,W.at_,W.r.mono' Zfg⟩,hline,l6,l4⟩
  clear hrep3 hl3 hs3 sx3 sx2 hs2 hT1 hT0 hTs
  refine Zt ?_
  dsimp only
  refine ⟨_,rfl,_,rfl,l,us,rfl,.inl (SqL.of W3.at_),_,_,rfl,rfl,?_⟩
  refine ⟨s,la,((us.length:Int)+6),rfl,W3.sr,by lia,by lia,fun d4 H4 d40 d41 hs4 sx4=>?_⟩
  have W4:=W3.x sx4 hs4
  refine ⟨_,_,rfl,rfl,?_⟩
  refine Zt ?_
  dsimp only [Y1]
  refine Zaf (fun σ' H'=>∃ z:Int,σ' = [some (.ref a),some (.ref s),some (.ref l),some (.int z),none,none,none,none,none,none,none,none,none,none]/\okI z/\W11 Tt H' s la l us ss) ?_ ?_
  ·rintro σ' H5 ⟨z,rfl,hz1,W5⟩
   have ethere:there ss z↔(0<=z/\z < us.length):=by unfold there; rw [hul]
   obtain ⟨bt,hbt⟩:∃ b,b=decide (there ss z):=⟨_,rfl⟩
   refine Zaf (fun σ' H'=>σ' = [some (.ref a),some (.ref s),some (.ref l),some (.int z),some (.bl bt),none,none,none,none,none,none,none,none,none]/\H5=H') ?_ ?_
   ·rintro σ' H6 ⟨rfl,rfl⟩
    refine ⟨_,rfl,s,la,1,rfl,W5.sr,by decide,by decide,fun na names H6 hnl hnd hnm hnf hna hs6 sx6=>?_⟩
    have W6:=W5.x sx6 hs6
    have nns:=(W5.sr.ne hnf).1
    refine Zt ?_
    dsimp only
    refine ⟨_,rfl,l,rfl,⟨_,SqL.of W6.at_⟩,?_⟩
    refine Uh us (fun i σ H'=>∃ (v6 v7 v8 v9:Option V) (na:Addr) (names:List Str),σ = [some (.ref a),some (.ref s),some (.ref l),some (.int z),some (.bl bt),some (.ref na),v6,v7,v8,v9,none,none,none,none]/\W11 Tt H' s la l us ss/\H' na=some (.lst (names.map V.str))/\na≠s/\(∀ x∈names,Wz x)/\1<=names.length/\names.length<=1+4 * i)
     ⟨none,none,none,none,na,names,rfl,W6,hna,nns,hnm,by lia,by lia⟩ (fun i σ H' _ ⟨_,_,_,_,_,_,_,W,_⟩=>SqL.of W.at_) ?_ ?_
    ·rintro i v σ H' hv ⟨v6,v7,v8,v9,na,names,rfl,W,hna,nns,hnm,hn1,hn4⟩
     have hil:=(xC.mp hv).1
     obtain ⟨t,ht⟩:∃ t,ss[i]? = some t:=⟨_,xB (by lia)⟩
     have hrep:=W.r.mono' Zfg
     obtain ⟨ta,u1,u2,u4,hu,hta,⟨b1,w1,rfl,hb1,hr1⟩,⟨b2,w2,rfl,hb2,hr2⟩,h4⟩:=SuitsAt.get (l:=l) hrep ht
     rw [hv] at hu
     cases hu
     have htm:=xT ht
     have z1:=hr1.len
     have z2:=hr2.len
     have y4:=l4 t htm
     rw [xL] at y4
     refine ⟨ta,_,rfl,SqT.of hta,rfl,_,_,rfl,_,_,rfl,_,_,rfl,_,_,rfl,rfl,?_⟩
     refine ⟨_,rfl,_,rfl,_,rfl,b1,b2,w1,w2,rfl,rfl,hb1,hb2,by lia,fun q hq=>?_⟩
     have Sc:=Same.new (o:=.lst (w1++w2)) hq
     have kc:(upd H' q (.lst (w1++w2))) q=some (.lst (w1++w2)):=upd_same
     generalize (upd H' q (.lst (w1++w2)))=H2' at Sc kc ⊢
     have hrs:RepS H2' (t.ones++t.others) (w1++w2):=RepS.mono (Same.t Sc) (RepS.app hr2 hr1)
     refine ⟨q,rfl,⟨_,SqL.of kc⟩,?_⟩
     refine Zbs kc hrs (by rw [xL]; lia) fun l2 hl2=>?_
     have S2:=Same.new (o:=.lst (((t.ones++t.others).map (·.1)).map V.str)) hl2
     have k2:(upd H2' l2 (.lst (((t.ones++t.others).map (·.1)).map V.str))) l2=some (.lst (((t.ones++t.others).map (·.1)).map V.str)):=upd_same
     generalize (upd H2' l2 (.lst (((t.ones++t.others).map (·.1)).map V.str)))=H3' at S2 k2 ⊢
     have W3':=(W.same Sc).same S2
     refine ⟨na,l2,_,_,rfl,rfl,S2 _ _ (Sc _ _ hna),k2,by rw [xA,xA,xA,xL]; lia,fun l3 hl3=>?_⟩
     have n3:=(W3'.sr.ne hl3).1
     refine Zt ?_
     refine ⟨_,_,_,_,l3,names++(t.ones++t.others).map (·.1),rfl,W3'.same (Same.new hl3),upd_same.trans (congrArg (fun x=>some (HO.lst x)) xP.symm),n3,fun x hx=>?_,by rw [xL]; lia,by rw [xL,xA,xL]; lia⟩
     rcases xO.mp hx with hx | hx
     ·exact hnm x hx
     ·obtain ⟨p,hp,rfl⟩:=xV.mp hx
      exact hline.nm t htm p hp
    ·rintro σ H7 ⟨v6,v7,v8,v9,na,names,rfl,W7,hna,nns,hnm,hn1,hn4⟩
     have hnl:names.length<=25:=by lia
     refine ⟨_,rfl,_,rfl,_,rfl,na,_,rfl,.inl (SqL.of hna),?_⟩
     refine ⟨s,la,(((names.map V.str).length:Nat):Int),rfl,W7.sr,by rw [xA]; lia,by rw [xA]; lia,fun d8 H8 d80 d81 hs8 sx8=>?_⟩
     have W8:=W7.x sx8 hs8
     obtain ⟨j,rfl⟩:=yN d80
     have hj:j < names.length:=by rw [xA] at d81; lia
     obtain ⟨nm,hnmj⟩:∃ x,names[j]? = some x:=⟨_,xB hj⟩
     have hin:=hnm nm (xT hnmj)
     have hnlen:nm.length<=100:=by have:=hin.2; lia
     refine ⟨na,_,j,.str nm,rfl,rfl,SqL.of (sx8 _ _ nns hna),Yh (by rw [xR,hnmj]; rfl),?_⟩
     refine Zt ?_
     dsimp only [Y1]
     refine Zt ?_
     dsimp only [Y1]
     refine Zt ?_
     dsimp only [Y1]
     obtain ⟨sw,hsw⟩:∃ b,b=decide (there ss z/\Ve ss z nm):=⟨_,rfl⟩
     refine Zaf (fun σ' H'=>σ' = [some (.ref a),some (.ref s),some (.ref l),some (.int z),some (.bl bt),some (.ref na),v6,v7,v8,v9,some (.str nm),some (.bl sw),none,none]/\W11 Tt H' s la l us ss) ?_ ?_
     ·rintro σ' H9 ⟨rfl,W9⟩
      have nsw:nm.length<=100:=hnlen
      refine ⟨by show 0<=sizeLine; lia,fun dq hdq=>?_⟩
      have S10:=Same.new (o:=.lst []) hdq
      have k10:(upd H9 dq (.lst [])) dq=some (.lst []):=upd_same
      have W10:=W9.same S10
      generalize (upd H9 dq (.lst []))=H10 at S10 k10 W10 ⊢
      refine Zt ?_
      dsimp only [Y1]
      refine Zaf (fun σ' H'=>∃ dq:Addr,σ' = [some (.ref a),some (.ref s),some (.ref l),some (.int z),some (.bl bt),some (.ref na),v6,v7,v8,v9,some (.str nm),some (.bl sw),some (.ref dq),none]/\W11 Tt H' s la l us ss/\H' dq=some (.lst ((Zan (Y2 0 ss z nm)).map V.bl))) ?_ ?_
      ·rintro σ' H11 ⟨dq,rfl,W11',k11⟩
       refine ⟨5,rfl,by decide,by decide,?_⟩
       refine Zbk 5 (by decide) (fun i σ H'=>∃ v13:Option V,σ = [some (.ref a),some (.ref s),some (.ref l),some (.int z),some (.bl bt),some (.ref na),v6,v7,v8,v9,some (.str nm),some (.bl sw),some (.ref dq),v13]/\Same H11 H') ⟨none,rfl,Same.refl _⟩ ?_ ?_
       ·rintro i σ H' hi ⟨v13,rfl,sm⟩
        rw [Int.zero_add]
        have W':=W11'.same sm
        refine ⟨_,rfl,_,rfl,_,rfl,_,rfl,i,l,ss,z,nm,rfl,by lia,few W',hz1,nsw,W'.tb,fun q H2 kq S2=>?_⟩
        have ed:Y2 i ss z nm=Y2 0 ss z nm:=by unfold Y2; rw [if_neg (fun h:i=5/\_=>by lia),if_neg (fun h : 0=5/\_=>by lia)]
        rw [ed] at kq
        refine ⟨_,rfl,q,dq,Zan (Y2 0 ss z nm),rfl,rfl,SqL.of kq,SqL.of (S2 _ _ (sm _ _ k11)),_,rfl,Yt ?_⟩
        exact ⟨_,rfl,sm.trans S2⟩
       ·rintro σ H12 ⟨v13,rfl,sm⟩
        have W12:=W11'.same sm
        have k12:=sm _ _ k11
        dsimp only [Y1]
        refine Zaf (fun σ' H'=>∃ (dq:Addr),σ' = [some (.ref a),some (.ref s),some (.ref l),some (.int z),some (.bl bt),some (.ref na),v6,v7,v8,v9,some (.str nm),some (.bl sw),some (.ref dq),v13]/\W11 Tt H' s la l us ss/\H' dq=some (.lst ((Zan (Y2 5 ss z nm)).map V.bl))) ?_ ?_
        ·rintro σ' H13 ⟨dq,rfl,W13,k13⟩
         refine ⟨_,rfl,_,rfl,_,rfl,5,l,ss,z,nm,rfl,by decide,few W13,hz1,nsw,W13.tb,fun q H2 kq S2=>?_⟩
         exact ⟨_,rfl,q,dq,Zan (Y2 5 ss z nm),rfl,rfl,SqL.of kq,SqL.of (S2 _ _ k13),k H2⟩
        ·intro D' hn _ _ _
         by_cases hth:there ss z
         ·have eb:bt=true:=by rw [hbt]; exact xH hth
          refine ⟨_,rfl,bt,rfl,?_⟩
          rw [eb]
          refine Yb ⟨_,rfl,sw,rfl,?_⟩
          by_cases hs:Ve ss z nm
          ·have es:sw=true:=by rw [hsw]; exact xH ⟨hth,hs⟩
           rw [es]
           refine Yt ?_
           refine hn _ _ ⟨dq,by rw [eb,es],W12,?_⟩
           rw [Zc5 hth (.inr hs),← Zc5 (w:=0) (n:=nm) hth (.inl (by decide))]
           exact k12
          ·have es:sw=false:=by rw [hsw]; exact xK fun h=>hs h.2
           rw [es]
           refine Yb ?_
           refine ⟨by show 3<=sizeLine; lia,fun q hq=>?_⟩
           refine Zt ?_
           refine hn _ _ ⟨q,by rw [eb,es]; rfl,W12.same (Same.new hq),?_⟩
           rw [upd_same,Zm2 hth hs]
           have e:Zan "NoOath" = [false,true,true]:=by decide +kernel
           rw [e]; rfl
         ·have eb:bt=false:=by rw [hbt]; exact xK hth
          refine ⟨_,rfl,bt,rfl,?_⟩
          rw [eb]
          refine Yt (Yt ?_)
          refine hn _ _ ⟨dq,by rw [eb],W12,?_⟩
          rw [Zen hth,← Zen (w:=0) (n:=nm) hth]
          exact k12
      ·intro D' hn _ _ _
       by_cases hth:there ss z
       ·have eb:bt=true:=by rw [hbt]; exact xH hth
        refine ⟨_,rfl,bt,rfl,?_⟩
        rw [eb]
        refine Yt ?_
        refine hn _ _ ⟨dq,by rw [eb]; rfl,W10,?_⟩
        rw [Zc5 hth (.inl (by decide))]
        exact k10
       ·have eb:bt=false:=by rw [hbt]; exact xK hth
        refine ⟨_,rfl,bt,rfl,?_⟩
        rw [eb]
        refine Yb ?_
        refine ⟨by show 3<=sizeLine; lia,fun q hq=>?_⟩
        refine Zt ?_
        refine hn _ _ ⟨q,by rw [eb]; rfl,W10.same (Same.new hq),?_⟩
        rw [upd_same,Zen hth]
        have e:Zan "NoCase" = [true,false,true]:=by decide +kernel
        rw [e]; rfl
     ·intro D' hn _ _ _
      by_cases hth:there ss z
      ·have eb:bt=true:=by rw [hbt]; exact xH hth
       refine ⟨_,rfl,bt,rfl,?_⟩
       rw [eb]
       refine Yb ?_
       obtain ⟨i,rfl⟩:=yN hth.1
       have hil:i < ss.length:=by have:=hth.2; lia
       obtain ⟨t,ht⟩:∃ t,ss[i]? = some t:=⟨_,xB hil⟩
       have hrep:=W8.r.mono' Zfg
       obtain ⟨ta,u1,u2,u4,hu,hta,⟨b1,w1,rfl,hb1,hr1⟩,⟨b2,w2,rfl,hb2,hr2⟩,h4⟩:=SuitsAt.get (l:=l) hrep ht
       have htm:=xT ht
       have z1:=hr1.len
       have z2:=hr2.len
       have y4:=l4 t htm
       rw [xL] at y4
       refine ⟨_,rfl,_,rfl,_,rfl,l,us,i,.ref ta,rfl,rfl,SqL.of W8.at_,Yh hu,ta,_,0,.ref b1,rfl,rfl,SqT.of hta,rfl,?_⟩
       refine ⟨_,rfl,_,rfl,l,us,i,.ref ta,rfl,rfl,SqL.of W8.at_,Yh hu,ta,_,1,.ref b2,rfl,rfl,SqT.of hta,rfl,?_⟩
       refine ⟨b1,b2,w1,w2,rfl,rfl,hb1,hb2,by lia,fun q hq=>?_⟩
       have Sc:=Same.new (o:=.lst (w1++w2)) hq
       have kc:(upd H8 q (.lst (w1++w2))) q=some (.lst (w1++w2)):=upd_same
       generalize (upd H8 q (.lst (w1++w2)))=H2' at Sc kc ⊢
       have hrs:RepS H2' (t.ones++t.others) (w1++w2):=RepS.mono (Same.t Sc) (RepS.app hr2 hr1)
       refine ⟨q,rfl,⟨_,SqL.of kc⟩,?_⟩
       refine Zbs kc hrs (by rw [xL]; lia) fun l2 hl2=>?_
       refine ⟨l2,_,rfl,.inl (SqL.of upd_same),rfl,Zcy _,?_⟩
       refine Zt ?_
       have esw:sw=decide (nm∈(t.ones++t.others).map (·.1)):=by
        rw [hsw]
        refine decide_eq_decide.mpr ⟨fun h=>?_,fun h=>⟨hth,?_⟩⟩
        ·have:=h.2; unfold Ve at this; rw [xZ,ht] at this; exact this
        ·unfold Ve; rw [xZ,ht]; exact h
       refine hn _ _ ⟨?_,(W8.same Sc).same (Same.new hl2)⟩
       rw [Zc9,esw,eb]
       rfl
      ·have eb:bt=false:=by rw [hbt]; exact xK hth
       have es:sw=false:=by rw [hsw]; exact xK fun h=>hth h.1
       refine ⟨_,rfl,bt,rfl,?_⟩
       rw [eb]
       refine Yt ?_
       exact hn _ _ ⟨by rw [es,eb]; rfl,W8⟩
   ·intro D' hn _ _ _
    refine ⟨_,rfl,_,_,rfl,rfl,_,rfl,Yc (fun h0=>?_) (fun h0=>?_)⟩
    ·refine ⟨_,rfl,_,rfl,l,us,rfl,.inl (SqL.of W5.at_),_,_,rfl,rfl,?_⟩
     refine Zt ?_
     have e:bt=decide (z < (us.length:Int)):=by rw [hbt]; exact decide_eq_decide.mpr (ethere.trans ⟨fun h=>h.2,fun h=>⟨h0,h⟩⟩)
     exact hn _ _ ⟨by rw [e]; rfl,rfl⟩
    ·refine Zt ?_
     have e:bt=false:=by rw [hbt]; exact xK fun h=>h0 h.1
     exact hn _ _ ⟨by rw [e]; rfl,rfl⟩
  ·intro D' hn _ _ _
   refine ⟨_,rfl,s,la,4,rfl,W4.sr,by decide,by decide,fun d5 H5 d50 d51 hs5 sx5=>?_⟩
   have W5:=W4.x sx5 hs5
   refine ⟨rfl,_,rfl,Yc (fun _=>?_) (fun _=>?_)⟩
   ·refine ⟨_,rfl,_,_,rfl,rfl,by unfold Zdy; decide,_,_,rfl,rfl,by unfold Zdy; decide,_,rfl,by show 2<=sizeLine; lia,fun q hq=>?_⟩
    obtain ⟨x1,hx1⟩:∃ x:Int,x=10 ^ (17:Int).toNat:=⟨_,rfl⟩
    dsimp only
    rw [← hx1]
    have hb1:x1=100000000000000000:=by rw [hx1]; decide +kernel
    clear hx1
    have S6:=Same.new (o:=.lst [.int x1,.int (-x1)]) hq
    have k6:(upd H5 q (.lst [.int x1,.int (-x1)])) q=some (.lst [.int x1,.int (-x1)]):=upd_same
    have nqs:=(W5.sr.ne hq).1
    have W6:=W5.same S6
    generalize (upd H5 q (.lst [.int x1,.int (-x1)]))=H6 at S6 k6 W6 ⊢
    refine ⟨_,rfl,s,la,2,rfl,W6.sr,by decide,by decide,fun d7 H7 d70 d71 hs7 sx7=>?_⟩
    have W7:=W6.x sx7 hs7
    have k7:=sx7 _ _ nqs k6
    obtain ⟨j,rfl⟩:=yN d70
    obtain ⟨x,hx,hxs⟩:∃ x:Int,([.int x1,.int (-x1)]:List V)[j]? = some (.int x)/\x.natAbs<=100000000000000000:=by
     match j,d71 with
     | 0,_=>exact ⟨_,rfl,by lia⟩
     | 1,_=>exact ⟨_,rfl,by lia⟩
     | j+2,h=>lia
    refine ⟨q,_,j,.int x,rfl,rfl,SqL.of k7,Yh hx,_,_,rfl,rfl,?_⟩
    refine Zt ?_
    exact hn _ _ ⟨_,rfl,by unfold okI; lia,W7⟩
   ·exact hn _ _ ⟨_,rfl,by unfold okI; lia,W5⟩
end
def cE (x:Str):Addr:=(([("MootError", 38),("NoCase", 58),("NoOath", 77)]:List (Str×Addr)).lookup x).getD 0
def tabs:List Tb:=[⟨180,176, "fewest_to" ++ ".<locals>." ++ "<lambda>"⟩]
theorem tabs_ok (p:Params):∀ t∈tabs,(KTK p).lookup t.P=some {cls:=.none,data:=.fields #[] }/\PySem.W.codeHdIn (KK p) t.c t.P=true/\(KK p).lookup t.P=none:=by
 intro t ht
 simp only [tabs,xW,List.not_mem_nil,or_false] at ht
 rcases ht with rfl <;> exact ⟨by kernel_rfl,by kernel_rfl,by kernel_rfl⟩
theorem all_mk {w:World}{h:Heap}{mg:Str->Option Value}{fa:Addr}(X:(KK w.params).In h) (G:h.Ns mainGlobals mg) (hfa:mg "law" = some (.ref fa)) :
  ∃ fd:FuncData,(∀ (s:Shared) (v:Value),BindsTo s fd ⟨[v],[]⟩ [("_law_script", v)])/\∀ base:Heap,(KK w.params).In base->base.Ns mainGlobals mg->FnOk (PySem.Challenge.rw_forsworn_k11_cases_that_are_not_there).prog w (KK w.params) mg base CX0 40 fa fd ["_law_script"] (Zff (KK w.params) tabs):=by
 have e:some (Value.ref fa)=some (.ref 350):=hfa.symm.trans (PySem.W.mg_of X G (by kernel_rfl))
 cases e
 have Zjx:Has (KK w.params) mg "settled" Zds:=Zx (f:=86) (oc:=.type "function") (od:=none) (an:=none) (osl:=#[]) (kV:=.none) (doc:=.none) (pm:=(.str "forsworn.stands" 267)) (cdv:=(.ref 85)) (ct:=.none) X G (by kernel_rfl) (by kernel_rfl) (by kernel_rfl) (by kernel_rfl)
 have Zjw:Has (KK w.params) mg "settled_with" Vk:=Zx (f:=93) (oc:=.type "function") (od:=none) (an:=none) (osl:=#[]) (kV:=.none) (doc:=.none) (pm:=(.str "forsworn.stands" 267)) (cdv:=(.ref 92)) (ct:=.none) X G (by kernel_rfl) (by kernel_rfl) (by kernel_rfl) (by kernel_rfl)
 have Zcd:Has (KK w.params) mg "margin" Uz:=Zx (f:=100) (oc:=.type "function") (od:=none) (an:=none) (osl:=#[]) (kV:=.none) (doc:=.none) (pm:=(.str "forsworn.stands" 267)) (cdv:=(.ref 99)) (ct:=.none) X G (by kernel_rfl) (by kernel_rfl) (by kernel_rfl) (by kernel_rfl)
 have Zj1:Has (KK w.params) mg "broken" Zb4:=Zx (f:=107) (oc:=.type "function") (od:=none) (an:=none) (osl:=#[]) (kV:=.none) (doc:=.none) (pm:=(.str "forsworn.stands" 267)) (cdv:=(.ref 106)) (ct:=.none) X G (by kernel_rfl) (by kernel_rfl) (by kernel_rfl) (by kernel_rfl)
 have Zcf:Has (KK w.params) mg "breakers" U8:=Zx (f:=114) (oc:=.type "function") (od:=none) (an:=none) (osl:=#[]) (kV:=.none) (doc:=.none) (pm:=(.str "forsworn.stands" 267)) (cdv:=(.ref 113)) (ct:=.none) X G (by kernel_rfl) (by kernel_rfl) (by kernel_rfl) (by kernel_rfl)
 have Zb6:Has (KK w.params) mg "chain" Uc:=Zx (f:=121) (oc:=.type "function") (od:=none) (an:=none) (osl:=#[]) (kV:=.none) (doc:=.none) (pm:=(.str "forsworn.stands" 267)) (cdv:=(.ref 120)) (ct:=.none) X G (by kernel_rfl) (by kernel_rfl) (by kernel_rfl) (by kernel_rfl)
 have Zb7:Has (KK w.params) mg "bearing" U7:=Zx (f:=126) (oc:=.type "function") (od:=none) (an:=none) (osl:=#[]) (kV:=.none) (doc:=.none) (pm:=(.str "forsworn.stands" 267)) (cdv:=(.ref 125)) (ct:=.none) X G (by kernel_rfl) (by kernel_rfl) (by kernel_rfl) (by kernel_rfl)
 have Zkh:Has (KK w.params) mg "namers" Zak:=Zx (f:=133) (oc:=.type "function") (od:=none) (an:=none) (osl:=#[]) (kV:=.none) (doc:=.none) (pm:=(.str "forsworn.stands" 267)) (cdv:=(.ref 132)) (ct:=.none) X G (by kernel_rfl) (by kernel_rfl) (by kernel_rfl) (by kernel_rfl)
 have Zjz:Has (KK w.params) mg "breaking" Zba:=Zx (f:=138) (oc:=.type "function") (od:=none) (an:=none) (osl:=#[]) (kV:=.none) (doc:=.none) (pm:=(.str "forsworn.stands" 267)) (cdv:=(.ref 137)) (ct:=.none) X G (by kernel_rfl) (by kernel_rfl) (by kernel_rfl) (by kernel_rfl)
 have Zjy:Has (KK w.params) mg "naming" Uv:=Zx (f:=145) (oc:=.type "function") (od:=none) (an:=none) (osl:=#[]) (kV:=.none) (doc:=.none) (pm:=(.str "forsworn.stands" 267)) (cdv:=(.ref 144)) (ct:=.none) X G (by kernel_rfl) (by kernel_rfl) (by kernel_rfl) (by kernel_rfl)
 have Zb5:Has (KK w.params) mg "check_case" Zas:=Zx (f:=152) (oc:=.type "function") (od:=none) (an:=none) (osl:=#[]) (kV:=.none) (doc:=.none) (pm:=(.str "forsworn.stands" 267)) (cdv:=(.ref 151)) (ct:=.none) X G (by kernel_rfl) (by kernel_rfl) (by kernel_rfl) (by kernel_rfl)
 have Zce:Has (KK w.params) mg "check_oath" V1:=Zx (f:=157) (oc:=.type "function") (od:=none) (an:=none) (osl:=#[]) (kV:=.none) (doc:=.none) (pm:=(.str "forsworn.stands" 267)) (cdv:=(.ref 156)) (ct:=.none) X G (by kernel_rfl) (by kernel_rfl) (by kernel_rfl) (by kernel_rfl)
 have Zjv:Has (KK w.params) mg "margin_without" Vy:=Zx (f:=164) (oc:=.type "function") (od:=none) (an:=none) (osl:=#[]) (kV:=.none) (doc:=.none) (pm:=(.str "forsworn.stands" 267)) (cdv:=(.ref 163)) (ct:=.none) X G (by kernel_rfl) (by kernel_rfl) (by kernel_rfl) (by kernel_rfl)
 have Zju:Has (KK w.params) mg "kept_weight" Zbf:=Zx (f:=169) (oc:=.type "function") (od:=none) (an:=none) (osl:=#[]) (kV:=.none) (doc:=.none) (pm:=(.str "forsworn.stands" 267)) (cdv:=(.ref 168)) (ct:=.none) X G (by kernel_rfl) (by kernel_rfl) (by kernel_rfl) (by kernel_rfl)
 have Zjo:Has (KK w.params) mg "total" Zdq:=Zx (f:=174) (oc:=.type "function") (od:=none) (an:=none) (osl:=#[]) (kV:=.none) (doc:=.none) (pm:=(.str "forsworn.oaths" 390)) (cdv:=(.ref 173)) (ct:=.none) X G (by kernel_rfl) (by kernel_rfl) (by kernel_rfl) (by kernel_rfl)
 have Zki:HasL (KK w.params) mg "fewest_to" Um 180:=Z1s (f:=181) (oc:=.type "function") (od:=none) (an:=none) (osl:=#[]) (kV:=.none) (doc:=.none) (pm:=(.str "forsworn.oaths" 390)) (ct:=.none) X G (by kernel_rfl) (by kernel_rfl) (by kernel_rfl) (by kernel_rfl)
 have B_fewest_to:LamB (KK w.params) mg 180 176:=⟨by kernel_rfl,⟨4,⟨.type "module", some 0,.plain,#[]⟩,PySem.W.mg_of X G (by kernel_rfl),by decide,by decide,by decide,by kernel_rfl,rfl,rfl,rfl⟩,by decide⟩
 have Zj7:Has (KK w.params) mg "cheapest" W0:=Zx (f:=186) (oc:=.type "function") (od:=none) (an:=none) (osl:=#[]) (kV:=.none) (doc:=.none) (pm:=(.str "forsworn.oaths" 390)) (cdv:=(.ref 185)) (ct:=.none) X G (by kernel_rfl) (by kernel_rfl) (by kernel_rfl) (by kernel_rfl)
 have Zj4:Has (KK w.params) mg "with_offer" Zb8:=Zx (f:=191) (oc:=.type "function") (od:=none) (an:=none) (osl:=#[]) (kV:=.none) (doc:=.none) (pm:=(.str "forsworn.oaths" 390)) (cdv:=(.ref 190)) (ct:=.none) X G (by kernel_rfl) (by kernel_rfl) (by kernel_rfl) (by kernel_rfl)
 have Zj6:Has (KK w.params) mg "worthwhile" Zat:=Zx (f:=198) (oc:=.type "function") (od:=none) (an:=none) (osl:=#[]) (kV:=.none) (doc:=.none) (pm:=(.str "forsworn.oaths" 390)) (cdv:=(.ref 197)) (ct:=.none) X G (by kernel_rfl) (by kernel_rfl) (by kernel_rfl) (by kernel_rfl)
 have Zch:Has (KK w.params) mg "paper" Y0:=Zx (f:=205) (oc:=.type "function") (od:=none) (an:=none) (osl:=#[]) (kV:=.none) (doc:=.none) (pm:=(.str "forsworn.papers" 432)) (cdv:=(.ref 204)) (ct:=.none) X G (by kernel_rfl) (by kernel_rfl) (by kernel_rfl) (by kernel_rfl)
 have Zkn:Has (KK w.params) mg "fewest_names" W2:=Zx (f:=210) (oc:=.type "function") (od:=none) (an:=none) (osl:=#[]) (kV:=.none) (doc:=.none) (pm:=(.str "forsworn.papers" 432)) (cdv:=(.ref 209)) (ct:=.none) X G (by kernel_rfl) (by kernel_rfl) (by kernel_rfl) (by kernel_rfl)
 have Zkj:Has (KK w.params) mg "enough" U0:=Zx (f:=217) (oc:=.type "function") (od:=none) (an:=none) (osl:=#[]) (kV:=.none) (doc:=.none) (pm:=(.str "forsworn.papers" 432)) (cdv:=(.ref 216)) (ct:=.none) X G (by kernel_rfl) (by kernel_rfl) (by kernel_rfl) (by kernel_rfl)
 have Zkk:Has (KK w.params) mg "claims_broken" Zbg:=Zx (f:=222) (oc:=.type "function") (od:=none) (an:=none) (osl:=#[]) (kV:=.none) (doc:=.none) (pm:=(.str "forsworn.papers" 432)) (cdv:=(.ref 221)) (ct:=.none) X G (by kernel_rfl) (by kernel_rfl) (by kernel_rfl) (by kernel_rfl)
 have Zkq:Has (KK w.params) mg "asked_by" Va:=Zx (f:=229) (oc:=.type "function") (od:=none) (an:=none) (osl:=#[]) (kV:=.none) (doc:=.none) (pm:=(.str "forsworn.papers" 432)) (cdv:=(.ref 228)) (ct:=.none) X G (by kernel_rfl) (by kernel_rfl) (by kernel_rfl) (by kernel_rfl)
 have Zcc:Has (KK w.params) mg "fewest" Wq:=Zx (f:=236) (oc:=.type "function") (od:=none) (an:=none) (osl:=#[]) (kV:=.none) (doc:=.none) (pm:=(.str "forsworn.turning" 489)) (cdv:=(.ref 235)) (ct:=.none) X G (by kernel_rfl) (by kernel_rfl) (by kernel_rfl) (by kernel_rfl)
 have Zkd:Has (KK w.params) mg "turning" Y6:=Zx (f:=241) (oc:=.type "function") (od:=none) (an:=none) (osl:=#[]) (kV:=.none) (doc:=.none) (pm:=(.str "forsworn.turning" 489)) (cdv:=(.ref 240)) (ct:=.none) X G (by kernel_rfl) (by kernel_rfl) (by kernel_rfl) (by kernel_rfl)
 have Zka:Has (KK w.params) mg "breakings" Zca:=Zx (f:=246) (oc:=.type "function") (od:=none) (an:=none) (osl:=#[]) (kV:=.none) (doc:=.none) (pm:=(.str "forsworn.turning" 489)) (cdv:=(.ref 245)) (ct:=.none) X G (by kernel_rfl) (by kernel_rfl) (by kernel_rfl) (by kernel_rfl)
 have Zkb:Has (KK w.params) mg "keepings" Vr:=Zx (f:=251) (oc:=.type "function") (od:=none) (an:=none) (osl:=#[]) (kV:=.none) (doc:=.none) (pm:=(.str "forsworn.turning" 489)) (cdv:=(.ref 250)) (ct:=.none) X G (by kernel_rfl) (by kernel_rfl) (by kernel_rfl) (by kernel_rfl)
 have Zj9:Has (KK w.params) mg "joined" Zb9:=Zx (f:=258) (oc:=.type "function") (od:=none) (an:=none) (osl:=#[]) (kV:=.none) (doc:=.none) (pm:=(.str "forsworn.turning" 489)) (cdv:=(.ref 257)) (ct:=.none) X G (by kernel_rfl) (by kernel_rfl) (by kernel_rfl) (by kernel_rfl)
 have Zje:Has (KK w.params) mg "_law_src" Zdn:=Zx (f:=265) (oc:=.type "function") (od:=none) (an:=none) (osl:=#[]) (kV:=.none) (doc:=.none) (pm:=(.str "law_forsworn_k11_cases_that_are_not_there" 530)) (cdv:=(.ref 264)) (ct:=.none) X G (by kernel_rfl) (by kernel_rfl) (by kernel_rfl) (by kernel_rfl)
 have Zjf:Has (KK w.params) mg "_law_next" Zar:=Zx (f:=272) (oc:=.type "function") (od:=none) (an:=none) (osl:=#[]) (kV:=.none) (doc:=.none) (pm:=(.str "law_forsworn_k11_cases_that_are_not_there" 530)) (cdv:=(.ref 271)) (ct:=.none) X G (by kernel_rfl) (by kernel_rfl) (by kernel_rfl) (by kernel_rfl)
 have Zjh:Has (KK w.params) mg "_law_unlike" Uj:=Zx (f:=279) (oc:=.type "function") (od:=none) (an:=none) (osl:=#[]) (kV:=.none) (doc:=.none) (pm:=(.str "law_forsworn_k11_cases_that_are_not_there" 530)) (cdv:=(.ref 278)) (ct:=.none) X G (by kernel_rfl) (by kernel_rfl) (by kernel_rfl) (by kernel_rfl)
 have Zjg:Has (KK w.params) mg "_law_word" Za8:=Zx (f:=284) (oc:=.type "function") (od:=none) (an:=none) (osl:=#[]) (kV:=.none) (doc:=.none) (pm:=(.str "law_forsworn_k11_cases_that_are_not_there" 530)) (cdv:=(.ref 283)) (ct:=.none) X G (by kernel_rfl) (by kernel_rfl) (by kernel_rfl) (by kernel_rfl)
 have Zji:Has (KK w.params) mg "_law_names" Wp:=Zx (f:=291) (oc:=.type "function") (od:=none) (an:=none) (osl:=#[]) (kV:=.none) (doc:=.none) (pm:=(.str "law_forsworn_k11_cases_that_are_not_there" 530)) (cdv:=(.ref 290)) (ct:=.none) X G (by kernel_rfl) (by kernel_rfl) (by kernel_rfl) (by kernel_rfl)
 have Zjk:Has (KK w.params) mg "_law_weight" Zb3:=Zx (f:=298) (oc:=.type "function") (od:=none) (an:=none) (osl:=#[]) (kV:=.none) (doc:=.none) (pm:=(.str "law_forsworn_k11_cases_that_are_not_there" 530)) (cdv:=(.ref 297)) (ct:=.none) X G (by kernel_rfl) (by kernel_rfl) (by kernel_rfl) (by kernel_rfl)
 have Zjn:Has (KK w.params) mg "_law_total" Za9:=Zx (f:=305) (oc:=.type "function") (od:=none) (an:=none) (osl:=#[]) (kV:=.none) (doc:=.none) (pm:=(.str "law_forsworn_k11_cases_that_are_not_there" 530)) (cdv:=(.ref 304)) (ct:=.none) X G (by kernel_rfl) (by kernel_rfl) (by kernel_rfl) (by kernel_rfl)
 have Zjm:Has (KK w.params) mg "_law_side" Wt:=Zx (f:=312) (oc:=.type "function") (od:=none) (an:=none) (osl:=#[]) (kV:=.none) (doc:=.none) (pm:=(.str "law_forsworn_k11_cases_that_are_not_there" 530)) (cdv:=(.ref 311)) (ct:=.none) X G (by kernel_rfl) (by kernel_rfl) (by kernel_rfl) (by kernel_rfl)
 have Zjq:Has (KK w.params) mg "_law_need" Vx:=Zx (f:=319) (oc:=.type "function") (od:=none) (an:=none) (osl:=#[]) (kV:=.none) (doc:=.none) (pm:=(.str "law_forsworn_k11_cases_that_are_not_there" 530)) (cdv:=(.ref 318)) (ct:=.none) X G (by kernel_rfl) (by kernel_rfl) (by kernel_rfl) (by kernel_rfl)
 have Zjr:Has (KK w.params) mg "_law_named" Uk:=Zx (f:=324) (oc:=.type "function") (od:=none) (an:=none) (osl:=#[]) (kV:=.none) (doc:=.none) (pm:=(.str "law_forsworn_k11_cases_that_are_not_there" 530)) (cdv:=(.ref 323)) (ct:=.none) X G (by kernel_rfl) (by kernel_rfl) (by kernel_rfl) (by kernel_rfl)
 have Zjs:Has (KK w.params) mg "_law_suits" Y5:=Zx (f:=331) (oc:=.type "function") (od:=none) (an:=none) (osl:=#[]) (kV:=.none) (doc:=.none) (pm:=(.str "law_forsworn_k11_cases_that_are_not_there" 530)) (cdv:=(.ref 330)) (ct:=.none) X G (by kernel_rfl) (by kernel_rfl) (by kernel_rfl) (by kernel_rfl)
 have Zkw:Has (KK w.params) mg "_law_ask" Vl:=Zx (f:=338) (oc:=.type "function") (od:=none) (an:=none) (osl:=#[]) (kV:=.none) (doc:=.none) (pm:=(.str "law_forsworn_k11_cases_that_are_not_there" 530)) (cdv:=(.ref 337)) (ct:=.none) X G (by kernel_rfl) (by kernel_rfl) (by kernel_rfl) (by kernel_rfl)
 have Zkz:Has (KK w.params) mg "_law_refusal" Wu:=Zx (f:=345) (oc:=.type "function") (od:=none) (an:=none) (osl:=#[]) (kV:=.none) (doc:=.none) (pm:=(.str "law_forsworn_k11_cases_that_are_not_there" 530)) (cdv:=(.ref 344)) (ct:=.none) X G (by kernel_rfl) (by kernel_rfl) (by kernel_rfl) (by kernel_rfl)
 have F_law:=Zqj (K:=KK w.params) (x := "law") (qual := "law") (st:=Yn) (f:=350) (oc:=.type "function") (od:=none) (an:=none) (osl:=#[]) (kV:=.none) (doc:=.none) (pm:=(.str "law_forsworn_k11_cases_that_are_not_there" 530)) (cdv:=(.ref 349)) (ct:=.none) (by kernel_rfl) (by kernel_rfl) (by kernel_rfl)
 have er:Er (KK w.params) mg cE errs:=Z4k X G (by kernel_rfl)
 have c_ONES:mg "ONES" = some (.int 0 269):=PySem.W.mg_of X G (by kernel_rfl)
 have c_OTHERS:mg "OTHERS" = some (.int 1 271):=PySem.W.mg_of X G (by kernel_rfl)
 have c_NEED:mg "NEED" = some (.int 2 273):=PySem.W.mg_of X G (by kernel_rfl)
 have c_NAMED:mg "NAMED" = some (.int 3 275):=PySem.W.mg_of X G (by kernel_rfl)
 have c_CASE:mg "CASE" = some (.int 0 434):=PySem.W.mg_of X G (by kernel_rfl)
 have c_STANDS:mg "STANDS" = some (.int 1 436):=PySem.W.mg_of X G (by kernel_rfl)
 have c_NAMES:mg "NAMES" = some (.int 2 438):=PySem.W.mg_of X G (by kernel_rfl)
 have T:Txt mg:=⟨PySem.W.mg_none_of X G (by kernel_rfl),PySem.W.mg_none_of X G (by kernel_rfl),PySem.W.mg_none_of X G (by kernel_rfl),PySem.W.mg_none_of X G (by kernel_rfl),PySem.W.mg_none_of X G (by kernel_rfl),PySem.W.mg_none_of X G (by kernel_rfl),PySem.W.mg_none_of X G (by kernel_rfl),PySem.W.mg_none_of X G (by kernel_rfl),PySem.W.mg_none_of X G (by kernel_rfl),PySem.W.mg_none_of X G (by kernel_rfl),PySem.W.mg_none_of X G (by kernel_rfl),PySem.W.mg_none_of X G (by kernel_rfl),PySem.W.mg_none_of X G (by kernel_rfl),PySem.W.mg_none_of X G (by kernel_rfl),PySem.W.mg_none_of X G (by kernel_rfl),PySem.W.mg_none_of X G (by kernel_rfl),PySem.W.mg_none_of X G (by kernel_rfl)⟩
 exact ⟨PySem.W.fnOf "law" "law" (Vf Yn) (Yx Yn) (Za Yn) .none .none .none (.str "law_forsworn_k11_cases_that_are_not_there" 530) none (.ref 349) .none,fun s v=>.of_eq rfl,fun base kb _=>by
  have F1:=Z4o (P:=(PySem.Challenge.rw_forsworn_k11_cases_that_are_not_there).prog) (w:=w) (base:=base) Zje T
  have F2:=Z4q (P:=(PySem.Challenge.rw_forsworn_k11_cases_that_are_not_there).prog) (w:=w) (base:=base) Zjf T
  have F3:=Z4u Zjg T F2
  have F4:=Z4x (P:=(PySem.Challenge.rw_forsworn_k11_cases_that_are_not_there).prog) (w:=w) (base:=base) Zjh T
  have F5:=Z42 Zji T F2 F3 F4
  have F6:=Z44 Zjk T F2
  have F7:=Z5d Zjm T F2 F6
  have F9:=Z5h (P:=(PySem.Challenge.rw_forsworn_k11_cases_that_are_not_there).prog) (w:=w) (base:=base) Zjn T
  have F10:=Z5q Zjq T F2 F9
  have F11:=Z5r Zjr T F2
  have F12:=Z5z Zjs T F2 F5 F7 F11 F10
  have F14:=Z58 (P:=(PySem.Challenge.rw_forsworn_k11_cases_that_are_not_there).prog) (w:=w) (base:=base) Zju T
  have F15z:=Z6d Zjv T ⟨_,c_ONES⟩ ⟨_,c_OTHERS⟩ ⟨_,c_NEED⟩ F14
  have F15:=F15z.imp fun vs H Q E h=>Zw0 h
  have F16:=Z6h Zjw T ⟨_,c_NAMED⟩ F15
  have F17:=Z6l Zjx T F16
  have F23:=Z6q (P:=(PySem.Challenge.rw_forsworn_k11_cases_that_are_not_there).prog) (w:=w) (base:=base) Zjy T ⟨_,c_NAMED⟩
  have F24:=Z6v Zjz T F17 F23
  have F24b:=Z60 Zj1 T F24
  have F25:=Z62 (P:=(PySem.Challenge.rw_forsworn_k11_cases_that_are_not_there).prog) (w:=w) (base:=base) Zb5 T
  have F26:=Z63 Zb6 T ⟨_,c_NAMED⟩ F25
  have F27:=Z66 Zb7 T F25 F26
  have F28:=Z7b (P:=(PySem.Challenge.rw_forsworn_k11_cases_that_are_not_there).prog) (w:=w) (base:=base) Zj4 T
  have F29:=Z7f (P:=(PySem.Challenge.rw_forsworn_k11_cases_that_are_not_there).prog) (w:=w) (base:=base) Zj6 T
  have F30:=Z7l Zj7 T F28 F29
  have F31:=Z7p (P:=(PySem.Challenge.rw_forsworn_k11_cases_that_are_not_there).prog) (w:=w) (base:=base) Zj9 T
  have F32:=Z7u (P:=(PySem.Challenge.rw_forsworn_k11_cases_that_are_not_there).prog) (w:=w) (base:=base) Zka T
  have F33:=Z71 Zkb T F31
  have F34:=Z76 Zkd T ⟨_,c_ONES⟩ ⟨_,c_OTHERS⟩ F15 F32 F33 F30 F31
  have F35:=Z8c Zcc T F25 F17 F24 F27 F34
  have G0:=Z8f Zcd T F25 F24b F15z
  have G1:=Z8i Zce T ⟨_,c_ONES⟩ ⟨_,c_OTHERS⟩ F25
  have G2:=Z8k Zcf T G1 F24
  have G3:=Z8q Zkh T F23
  have G4:=Z5l (P:=(PySem.Challenge.rw_forsworn_k11_cases_that_are_not_there).prog) (w:=w) (base:=base) Zjo T
  have G5:=Z80 Zkj T ⟨_,c_ONES⟩ ⟨_,c_OTHERS⟩ ⟨_,c_NEED⟩ G4
  have G6:=Z86 (P:=(PySem.Challenge.rw_forsworn_k11_cases_that_are_not_there).prog) (w:=w) (base:=base) Zkk T ⟨_,c_ONES⟩
  have G7:=Z8v (P:=(PySem.Challenge.rw_forsworn_k11_cases_that_are_not_there).prog) (w:=w) Zki B_fewest_to kb T
  have G8:=Z9d Zkn T ⟨_,c_ONES⟩ ⟨_,c_OTHERS⟩ G7 G5
  have G9:=Z9m Zkq T ⟨_,c_CASE⟩ ⟨_,c_STANDS⟩ ⟨_,c_NAMES⟩ G6
  have G10:=Z9w Zch T F25 F17 G3 F24 G8 G9
  have B0:=Z90 (P:=(PySem.Challenge.rw_forsworn_k11_cases_that_are_not_there).prog) (w:=w) (base:=base) Zb5 T er
  have B1:=Z96 Zce T er ⟨_,c_ONES⟩ ⟨_,c_OTHERS⟩ (F25.toX.or B0)
  have A0:=(G0.toX.or (Z91 Zcd B0)).mono (k':=9) (by decide)
  have A1:=(F26.toX.or (Z92 Zb6 B0)).mono (k':=9) (by decide)
  have A2:=(F27.toX.or (Z93 Zb7 B0)).mono (k':=9) (by decide)
  have A3:=(G10.toX.or (Z94 Zch B0)).mono (k':=9) (by decide)
  have A4:=(F35.toX.or (Z95 Zcc B0)).mono (k':=9) (by decide)
  have A5:=(G2.toX.or (Z97 Zcf B1)).mono (k':=9) (by decide)
  have R0:=Yag Zkw A0 A1 A2 A3 A4 A5
  have R1:=Yau Zkz T er R0
  exact (Ya3 (ts:=tabs) ⟨_,xI⟩ F_law T F1 F2 F5 (F12.mono (by decide)) R1).mono (by decide)⟩
end Law
open PySem PySem.W PyProof.Rows
set_option maxRecDepth 100000 in
set_option maxHeartbeats 0 in
theorem PySem.Challenge.cw_forsworn_k11_cases_that_are_not_there_holds : PySem.Challenge.rw_forsworn_k11_cases_that_are_not_there.Holds := by
 w_on; o_law
 refine holds_open (q:=Law.q) (loose:=[]) (Xt:=fun s=>xlAt Law.q [] s && recOk (RowW.records PySem.Challenge.rw_forsworn_k11_cases_that_are_not_there.row.toRowW) s) (XP:=XL Law.q []) (Yf:=Law.HK.obs) (Ya:=Law.HK.val) (YP:=Law.HK.says) (N:=4412) Law.left Law.HK.of Law.HK.keeps (fun s e=>xl_of s (Bool.and_eq_true_iff.mp e).1) XL.keeps (by rfl) (by rfl) (by rfl) (fun s e=>recFacts_of (Bool.and_eq_true_iff.mp e).2) (by rfl) (by first | assumption | decide +kernel) (by decide +kernel) ⟨rfl,rfl,rfl,rfl,rfl,by decide +kernel⟩ ?hw ?hc
 case hw=>w_witness2
 refine L2.walkLawT (l:=PySem.Challenge.rw_forsworn_k11_cases_that_are_not_there) (K:=Law.KK) (KT:=Law.KTK) (ts:=Law.tabs) rfl rfl (fun w h Y=>PySem.W.kIn_of (K:=Law.KTK) Y) (fun p h x=>L2.Frag.In.left x) (fun p t ht=>Law.tabs_ok p t ht) (by decide) fun w mg fa h KX G hmg=>Law.all_mk KX G hmg
namespace Law
end Law
