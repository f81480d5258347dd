import PyProof.Rows.All
import Wide.All
import OpenK.AllK
import Wide.FinOn
import Lean
import PyProof.EqAt
import PyProof.EqKinds
import PyProof.TupleCall
import KE.KSortTup
import PyProof.NeKinds
import PyProof.ExcArgsOwn
import PyProof.ExcAttrAll.ValueError
import KE.KIsAll
import KE.KIntText
import PyProof.Rows.StrNews
import PyProof.Rows.StrSplitCount
import PyProof.ToksMono
import PyProof.StrCalls6
import PyProof.Draws
import PySem.Challenge.RW_forsworn_k50_lines_read
section
set_option Elab.async false
set_option linter.all false
set_option maxRecDepth 100000
set_option maxHeartbeats 4000000
namespace L2
open PySem PySem.W
def topRunT (tb:String->Option Builtin) (p:Program) (w:World) (m:Nat) (ann:Option Value):Nat->SharedT->Thread->Option SharedT
 | 0,_,_=>none
 | n+1,s,t=>match through t with
  | true=>some s
  | false=>match stepOk m ann t with
   | false=>none
   | true=>match stepT (denote tb) p w s t with
    | some x=>topRunT tb p w m ann n x.1 x.2
    | none=>none
theorem Zhv {tb:String->Option Builtin}{p:Program}{w:World}{m:Nat}{ann:Option Value}:∀ {n:Nat}{s r:SharedT}{t:Thread},topRunT tb p w m ann n s t=some r->topRun tb p w m ann n s.abs t=some r.abs
 | 0,s,r,t,h=>by cases h
 | n+1,s,r,t,h=>by
  unfold topRunT at h
  unfold topRun
  cases a:through t with
  | true=>rw [a] at h; cases h; rfl
  | false =>
   rw [a] at h
   cases b:stepOk m ann t with
   | false=>rw [b] at h; cases h
   | true =>
    rw [b] at h
    cases c:stepT (denote tb) p w s t with
    | none=>rw [c] at h; cases h
    | some x=>obtain ⟨s2,t2⟩:=x; rw [c] at h; dsimp only at h ⊢; rw [stepT_spec c]; exact Zhv h
def Zmi:List Obj->Nat->BT->BT
 | [],_,t=>t
 | o::r,i,t=>Zmi r (i+1) (t.ins i o)
noncomputable def s0T (P:Params) (os:OsState):SharedT:=⟨Zmi (boot_heap P).objs.toList 0 .nil,11,(boot_heap P).life,#[],boot_drawn,boot_toks,os⟩
noncomputable def seenT {α:Type}(p q:Program) (loose:List Str) (Xt:Shared->Bool) (Yf:Shared->α) (P:Params) (s:Shared) :=
 (staticsOk (importedModules p.main.body) (boot_heap P) s.heap && namesBound p s.heap && gensDone s && laidKept (boot_heap P) s.heap,openSeen q loose (importedModules p.main.body) Xt true s,Yf s)
theorem Zru (P:Params) (os:OsState):(s0T P os).abs=⟨boot_heap P,#[],boot_drawn,boot_toks,os⟩:=by kernel_rfl
theorem Zpb (P:Params):((boot_heap P).isNs mainGlobals && (#[]:Array GenState).size == 0,(boot_heap P).objs.size,(boot_heap P).nsMap mainGlobals "__annotations__")=(true,11,some (.ref 6)):=by kernel_rfl
theorem Zrv {p q:Program}{loose:List Str}{Xt:Shared->Bool}{α:Type}{Yf:Shared->α}{Ya:World->α}{N:Nat}(e:opening p=plainProg p.main.scope.names) (hN:Nat.ble 600 N=true) (f:∀ s,fenceModules? p s=some s)
  (run:∀ (w:World) (os:OsState),(topRunT treeTable p w 11 (some (.ref 6)) N (s0T w.params os) (topStub p)).map (fun s=>seenT p q loose Xt Yf w.params s.abs)=some (true,openGood q loose,Ya w)):LeftO p q loose Xt Yf Ya N:=fun w=>by
 obtain ⟨⟨h,gs,d,k,os⟩,e1,e2⟩:=Option.map_eq_some_iff.mp (boot_open e hN f w)
 obtain ⟨rfl,rfl,rfl,rfl⟩:h=boot_heap w.params/\gs = #[]/\d=boot_drawn/\k=boot_toks:=by simpa using e2
 obtain ⟨s,r1,r2⟩:=Option.map_eq_some_iff.mp (run w os)
 unfold seenT at r2
 obtain ⟨l1,l2,l3⟩:_/\_/\_:=by simpa only [Prod.mk.injEq] using r2
 have r:=Zhv r1
 rw [Zru] at r
 obtain ⟨z1,z2,z3⟩:_/\_/\_:=by simpa only [Prod.mk.injEq] using Zpb w.params
 have t:topFrom treeTable p w N ⟨boot_heap w.params,#[],boot_drawn,boot_toks,os⟩=some s.abs:=by
  unfold topFrom
  dsimp only
  rw [z1,z2,z3,r]
  show (match staticsOk (importedModules p.main.body) (boot_heap w.params) s.abs.heap && namesBound p s.abs.heap && gensDone s.abs && laidKept (boot_heap w.params) s.abs.heap with | true=>some s.abs | false=>none)=_
  rw [l1]
 unfold openEnds
 rw [e1]
 show (topFrom treeTable p w N _).map _=_
 rw [t]
 exact congrArg some (Prod.ext l2 l3)
def Z6 (p:Program) (i:Nat):Stmt:=p.main.body.getD i (.Pass ⟨0,0,0,0⟩)
def hIn (s:Stmt) (j:Nat):Stmt:=match s with
 | .ClassDef _ _ _ b _ _ _ _ _ _ _=>b.getD j (.Pass ⟨0,0,0,0⟩)
 | _=>s
def Zu7 (s:Stmt):Arguments:=match s with
 | .FunctionDef _ a _ _ _ _ _ _ _ _=>a
 | _=>⟨[],[],none,[],[],none,[]⟩
def Zu8 (s:Stmt):List Stmt:=match s with
 | .FunctionDef _ _ b _ _ _ _ _ _ _=>b
 | _=>[]
def Ztk (s:Stmt):Scope:=match s with
 | .FunctionDef _ _ _ _ _ _ c _ _ _=>c
 | _=>{kind:=.function,names:=[],isGenerator:=false,isCoroutine:=false }
def de (P:Params) (n:Str) (t:Tok) (v:Value):DictEntry:=⟨PyData.keyHash P n,.str n t,v⟩
def kFn (n q:Str) (st:Stmt) (pm:Value) (c:Addr):Obj:=⟨.type "function", none,.func (PySem.W.fnOf n q (Zu7 st) (Zu8 st) (Ztk st) .none .none .none pm none (.ref c) .none),#[]⟩
end L2
namespace PySem.W.Fast
noncomputable def tw14598715356260435866:PySem.Params->PySem.Obj:=PySem.W.boot_o_0
theorem te14598715356260435866:PySem.W.boot_o_0=tw14598715356260435866:=rfl
end PySem.W.Fast
lay_quick L2.topRunT L2.s0T L2.seenT
end
set_option Elab.async false
set_option linter.all false
set_option maxRecDepth 100000
set_option maxHeartbeats 4000000
namespace Law
open PySem L2
def Kp (p:Program) (P:Params):PySem.W.Frag:=[
 (3,⟨(.type "dict"),none,(.dict #[de P "__name__" 165 (.str "law_forsworn_k50_lines_read" 359),de P "__doc__" 166 .none,de P "__package__" 167 .none,de P "__loader__" 168 (.builtin "__main__.__loader__#opaque"),de P "__spec__" 169 .none,de P "__annotations__" 170 (.ref 6),de P "__builtins__" 171 (.ref 4),de P "__file__" 173 (.str "/claim/cut.py" 172),de P "__cached__" 174 .none,de P "_wall" 193 (.ref 21),de P "MootError" 220 (.ref 38),de P "NoDeed" 243 (.ref 58),de P "LONGEST_NAME" 247 (.int (12) 246),de P "is_name" 253 (.ref 65),de P "MOST_FIGURES" 257 (.int (9) 256),de P "PLAIN" 292 (.ref 66),de P "SWORN" 312 (.ref 74),de P "read_deed" 324 (.ref 84),de P "place_of" 332 (.ref 91),de P "read_names" 338 (.ref 96),de P "read_values" 344 (.ref 101),de P "read_value" 352 (.ref 108),de P "is_number" 358 (.ref 113),de P "_law_src" 367 (.ref 120),de P "_law_next" 377 (.ref 127),de P "_law_whole" 384 (.ref 134),de P "_law_same" 394 (.ref 141),de P "_law_unlike" 405 (.ref 148),de P "_law_word" 411 (.ref 153),de P "_law_names" 425 (.ref 160),de P "_law_number" 433 (.ref 167),de P "_law_row" 439 (.ref 172),de P "_law_form" 448 (.ref 179),de P "_law_any_deed" 460 (.ref 186),de P "_law_shown" 471 (.ref 193),de P "_law_read_number" 479 (.ref 200),de P "_law_read_name" 487 (.ref 207),de P "_law_read_part" 495 (.ref 214),de P "_law_read_sides" 501 (.ref 219),de P "_law_read" 507 (.ref 224),de P "_law_spoilt" 521 (.ref 231),de P "_law_found" 530 (.ref 238),de P "law" 544 (.ref 245)] 43),#[]⟩),
 (37,⟨(.type "dict"),none,(.dict #[de P "__module__" 203 (.str "forsworn.errors" 194),de P "__firstlineno__" 207 (.int (5) 206),de P "called" 214 (.ref 35),de P "__static_attributes__" 215 (.ref 36),de P "__weakref__" 217 (.ref 39),de P "__doc__" 218 .none] 3),#[]⟩),
 (38,⟨(.type "type"),none,(.cls {name := "MootError", bases:=[(.type "ValueError")],mro:=[(.ref 38),(.type "ValueError"),(.type "Exception"),(.type "BaseException"),(.type "object")],ns:=37,qualname := "MootError", hasDict:=true,slotNames:=[],subclasses:=[(.ref 58)],abstract:=false,collection:=none,hasDel:=false }),#[some (.ref 22),none,some (.str "MootError" 196),some (.str "MootError" 204),some (.builtin "ValueError.__new__"),some (.bool true)]⟩),
 (57,⟨(.type "dict"),none,(.dict #[de P "__module__" 228 (.str "forsworn.errors" 194),de P "__firstlineno__" 232 (.int (9) 231),de P "called" 239 (.ref 55),de P "__static_attributes__" 240 (.ref 56),de P "__doc__" 241 .none] 2),#[]⟩),
 (58,⟨(.type "type"),none,(.cls {name := "NoDeed", bases:=[(.ref 38)],mro:=[(.ref 58),(.ref 38),(.type "ValueError"),(.type "Exception"),(.type "BaseException"),(.type "object")],ns:=57,qualname := "NoDeed", hasDict:=true,slotNames:=[],subclasses:=[],abstract:=false,collection:=none,hasDel:=false }),#[some (.ref 42),none,some (.str "NoDeed" 221),some (.str "NoDeed" 229),some (.builtin "ValueError.__new__"),some (.bool true)]⟩),
 (64,⟨(.type "code"),none,(.fields #[(.str "is_name" 248),(.str "is_name" 249),(.str "/claim/cut.py" 250),(.int (15) 0),(.int (1) 0),(.int (0) 0),(.int (0) 0),(.int (3) 0),(.ref 61),(.bool true),(.int (181) 0),(.ref 62),.none,.none,.none,(.ref 63),(.int (251) 0),(.int (15) 0),(.str "/claim/cut.py" 252)]),#[]⟩),
 (65,kFn "is_name" "is_name" (Z6 p 6) (.str "forsworn.oaths" 244) 64),
 (66,⟨(.type "dict"),none,(.dict #[de P "come" 258 (.ref 67),de P "rise" 262 (.ref 68),de P "die" 266 (.ref 69),de P "penance" 270 (.ref 70),de P "bring" 272 (.ref 71),de P "give" 275 (.ref 72),de P "pay" 280 (.ref 73)] 7),#[]⟩),
 (67,⟨(.type "tuple"),none,(.seq #[(.str "name" 259),(.str "number" 260),(.str "number" 261)] 0),#[]⟩),
 (68,⟨(.type "tuple"),none,(.seq #[(.str "name" 263),(.str "number" 264),(.str "number" 265)] 0),#[]⟩),
 (69,⟨(.type "tuple"),none,(.seq #[(.str "name" 267),(.str "number" 268),(.str "name" 269)] 0),#[]⟩),
 (70,⟨(.type "tuple"),none,(.seq #[(.str "name" 271)] 0),#[]⟩),
 (71,⟨(.type "tuple"),none,(.seq #[(.str "name" 273),(.str "number" 274)] 0),#[]⟩),
 (72,⟨(.type "tuple"),none,(.seq #[(.str "number" 276),(.str "name" 277),(.str "name" 278),(.str "number" 279)] 0),#[]⟩),
 (73,⟨(.type "tuple"),none,(.seq #[(.str "name" 281),(.str "name" 282),(.str "number" 283),(.str "number" 284)] 0),#[]⟩),
 (74,⟨(.type "dict"),none,(.dict #[de P "claim" 293 (.ref 75),de P "wergild" 298 (.ref 76),de P "accuse" 304 (.ref 77)] 3),#[]⟩),
 (75,⟨(.type "tuple"),none,(.seq #[(.str "name" 294),(.str "number" 295),(.str "number" 296),(.str "number" 297)] 0),#[]⟩),
 (76,⟨(.type "tuple"),none,(.seq #[(.str "name" 299),(.str "name" 300),(.str "number" 301),(.str "number" 302),(.str "number" 303)] 0),#[]⟩),
 (77,⟨(.type "tuple"),none,(.seq #[(.str "number" 305),(.str "name" 306),(.str "number" 307),(.str "number" 308)] 0),#[]⟩),
 (83,⟨(.type "code"),none,(.fields #[(.str "read_deed" 313),(.str "read_deed" 314),(.str "/claim/cut.py" 315),(.int (21) 0),(.int (1) 0),(.int (0) 0),(.int (0) 0),(.int (3) 0),(.ref 78),(.bool true),(.int (181) 0),(.ref 79),.none,(.ref 80),(.ref 81),(.ref 82),(.int (322) 0),(.int (21) 0),(.str "/claim/cut.py" 323)]),#[]⟩),
 (84,kFn "read_deed" "read_deed" (Z6 p 11) (.str "forsworn.notes" 254) 83),
 (90,⟨(.type "code"),none,(.fields #[(.str "place_of" 325),(.str "place_of" 326),(.str "/claim/cut.py" 327),(.int (32) 0),(.int (2) 0),(.int (0) 0),(.int (0) 0),(.int (3) 0),(.ref 85),(.bool true),(.int (181) 0),(.ref 86),.none,(.ref 87),(.ref 88),(.ref 89),(.int (330) 0),(.int (32) 0),(.str "/claim/cut.py" 331)]),#[]⟩),
 (91,kFn "place_of" "place_of" (Z6 p 12) (.str "forsworn.notes" 254) 90),
 (95,⟨(.type "code"),none,(.fields #[(.str "read_names" 333),(.str "read_names" 334),(.str "/claim/cut.py" 335),(.int (36) 0),(.int (1) 0),(.int (0) 0),(.int (0) 0),(.int (3) 0),(.ref 92),(.bool true),(.int (181) 0),(.ref 93),.none,.none,.none,(.ref 94),(.int (336) 0),(.int (36) 0),(.str "/claim/cut.py" 337)]),#[]⟩),
 (96,kFn "read_names" "read_names" (Z6 p 13) (.str "forsworn.notes" 254) 95),
 (100,⟨(.type "code"),none,(.fields #[(.str "read_values" 339),(.str "read_values" 340),(.str "/claim/cut.py" 341),(.int (38) 0),(.int (2) 0),(.int (0) 0),(.int (0) 0),(.int (3) 0),(.ref 97),(.bool true),(.int (181) 0),(.ref 98),.none,.none,.none,(.ref 99),(.int (342) 0),(.int (38) 0),(.str "/claim/cut.py" 343)]),#[]⟩),
 (101,kFn "read_values" "read_values" (Z6 p 14) (.str "forsworn.notes" 254) 100),
 (107,⟨(.type "code"),none,(.fields #[(.str "read_value" 345),(.str "read_value" 346),(.str "/claim/cut.py" 347),(.int (42) 0),(.int (2) 0),(.int (0) 0),(.int (0) 0),(.int (3) 0),(.ref 102),(.bool true),(.int (181) 0),(.ref 103),.none,(.ref 104),(.ref 105),(.ref 106),(.int (350) 0),(.int (42) 0),(.str "/claim/cut.py" 351)]),#[]⟩),
 (108,kFn "read_value" "read_value" (Z6 p 15) (.str "forsworn.notes" 254) 107),
 (112,⟨(.type "code"),none,(.fields #[(.str "is_number" 353),(.str "is_number" 354),(.str "/claim/cut.py" 355),(.int (48) 0),(.int (1) 0),(.int (0) 0),(.int (0) 0),(.int (3) 0),(.ref 109),(.bool true),(.int (181) 0),(.ref 110),.none,.none,.none,(.ref 111),(.int (356) 0),(.int (48) 0),(.str "/claim/cut.py" 357)]),#[]⟩),
 (113,kFn "is_number" "is_number" (Z6 p 16) (.str "forsworn.notes" 254) 112),
 (119,⟨(.type "code"),none,(.fields #[(.str "_law_src" 361),(.str "_law_src" 362),(.str "/claim/cut.py" 363),(.int (53) 0),(.int (1) 0),(.int (0) 0),(.int (0) 0),(.int (3) 0),(.ref 114),(.bool true),(.int (181) 0),(.ref 115),.none,(.ref 116),(.ref 117),(.ref 118),(.int (365) 0),(.int (53) 0),(.str "/claim/cut.py" 366)]),#[]⟩),
 (120,kFn "_law_src" "_law_src" (Z6 p 18) (.str "law_forsworn_k50_lines_read" 359) 119),
 (126,⟨(.type "code"),none,(.fields #[(.str "_law_next" 368),(.str "_law_next" 369),(.str "/claim/cut.py" 370),(.int (55) 0),(.int (2) 0),(.int (0) 0),(.int (0) 0),(.int (3) 0),(.ref 121),(.bool true),(.int (181) 0),(.ref 122),.none,(.ref 123),(.ref 124),(.ref 125),(.int (375) 0),(.int (55) 0),(.str "/claim/cut.py" 376)]),#[]⟩),
 (127,kFn "_law_next" "_law_next" (Z6 p 19) (.str "law_forsworn_k50_lines_read" 359) 126),
 (133,⟨(.type "code"),none,(.fields #[(.str "_law_whole" 378),(.str "_law_whole" 379),(.str "/claim/cut.py" 380),(.int (70) 0),(.int (1) 0),(.int (0) 0),(.int (0) 0),(.int (3) 0),(.ref 128),(.bool true),(.int (181) 0),(.ref 129),.none,(.ref 130),(.ref 131),(.ref 132),(.int (382) 0),(.int (70) 0),(.str "/claim/cut.py" 383)]),#[]⟩),
 (134,kFn "_law_whole" "_law_whole" (Z6 p 20) (.str "law_forsworn_k50_lines_read" 359) 133),
 (140,⟨(.type "code"),none,(.fields #[(.str "_law_same" 385),(.str "_law_same" 386),(.str "/claim/cut.py" 387),(.int (72) 0),(.int (2) 0),(.int (0) 0),(.int (0) 0),(.int (3) 0),(.ref 135),(.bool true),(.int (181) 0),(.ref 136),.none,(.ref 137),(.ref 138),(.ref 139),(.int (392) 0),(.int (72) 0),(.str "/claim/cut.py" 393)]),#[]⟩),
 (141,kFn "_law_same" "_law_same" (Z6 p 21) (.str "law_forsworn_k50_lines_read" 359) 140),
 (147,⟨(.type "code"),none,(.fields #[(.str "_law_unlike" 395),(.str "_law_unlike" 396),(.str "/claim/cut.py" 397),(.int (89) 0),(.int (2) 0),(.int (0) 0),(.int (0) 0),(.int (3) 0),(.ref 142),(.bool true),(.int (181) 0),(.ref 143),.none,(.ref 144),(.ref 145),(.ref 146),(.int (403) 0),(.int (89) 0),(.str "/claim/cut.py" 404)]),#[]⟩),
 (148,kFn "_law_unlike" "_law_unlike" (Z6 p 22) (.str "law_forsworn_k50_lines_read" 359) 147),
 (152,⟨(.type "code"),none,(.fields #[(.str "_law_word" 406),(.str "_law_word" 407),(.str "/claim/cut.py" 408),(.int (97) 0),(.int (2) 0),(.int (0) 0),(.int (0) 0),(.int (3) 0),(.ref 149),(.bool true),(.int (181) 0),(.ref 150),.none,.none,.none,(.ref 151),(.int (409) 0),(.int (97) 0),(.str "/claim/cut.py" 410)]),#[]⟩),
 (153,kFn "_law_word" "_law_word" (Z6 p 23) (.str "law_forsworn_k50_lines_read" 359) 152),
 (159,⟨(.type "code"),none,(.fields #[(.str "_law_names" 412),(.str "_law_names" 413),(.str "/claim/cut.py" 414),(.int (100) 0),(.int (2) 0),(.int (0) 0),(.int (0) 0),(.int (3) 0),(.ref 154),(.bool true),(.int (181) 0),(.ref 155),.none,(.ref 156),(.ref 157),(.ref 158),(.int (423) 0),(.int (100) 0),(.str "/claim/cut.py" 424)]),#[]⟩),
 (160,kFn "_law_names" "_law_names" (Z6 p 24) (.str "law_forsworn_k50_lines_read" 359) 159),
 (166,⟨(.type "code"),none,(.fields #[(.str "_law_number" 426),(.str "_law_number" 427),(.str "/claim/cut.py" 428),(.int (113) 0),(.int (1) 0),(.int (0) 0),(.int (0) 0),(.int (3) 0),(.ref 161),(.bool true),(.int (181) 0),(.ref 162),.none,(.ref 163),(.ref 164),(.ref 165),(.int (431) 0),(.int (113) 0),(.str "/claim/cut.py" 432)]),#[]⟩),
 (167,kFn "_law_number" "_law_number" (Z6 p 25) (.str "law_forsworn_k50_lines_read" 359) 166),
 (171,⟨(.type "code"),none,(.fields #[(.str "_law_row" 434),(.str "_law_row" 435),(.str "/claim/cut.py" 436),(.int (120) 0),(.int (2) 0),(.int (0) 0),(.int (0) 0),(.int (3) 0),(.ref 168),(.bool true),(.int (181) 0),(.ref 169),.none,.none,.none,(.ref 170),(.int (437) 0),(.int (120) 0),(.str "/claim/cut.py" 438)]),#[]⟩),
 (172,kFn "_law_row" "_law_row" (Z6 p 26) (.str "law_forsworn_k50_lines_read" 359) 171),
 (178,⟨(.type "code"),none,(.fields #[(.str "_law_form" 440),(.str "_law_form" 441),(.str "/claim/cut.py" 442),(.int (122) 0),(.int (1) 0),(.int (0) 0),(.int (0) 0),(.int (3) 0),(.ref 173),(.bool true),(.int (181) 0),(.ref 174),.none,(.ref 175),(.ref 176),(.ref 177),(.int (446) 0),(.int (122) 0),(.str "/claim/cut.py" 447)]),#[]⟩),
 (179,kFn "_law_form" "_law_form" (Z6 p 27) (.str "law_forsworn_k50_lines_read" 359) 178),
 (185,⟨(.type "code"),none,(.fields #[(.str "_law_any_deed" 449),(.str "_law_any_deed" 450),(.str "/claim/cut.py" 451),(.int (126) 0),(.int (2) 0),(.int (0) 0),(.int (0) 0),(.int (3) 0),(.ref 180),(.bool true),(.int (181) 0),(.ref 181),.none,(.ref 182),(.ref 183),(.ref 184),(.int (458) 0),(.int (126) 0),(.str "/claim/cut.py" 459)]),#[]⟩),
 (186,kFn "_law_any_deed" "_law_any_deed" (Z6 p 28) (.str "law_forsworn_k50_lines_read" 359) 185),
 (192,⟨(.type "code"),none,(.fields #[(.str "_law_shown" 461),(.str "_law_shown" 462),(.str "/claim/cut.py" 463),(.int (138) 0),(.int (1) 0),(.int (0) 0),(.int (0) 0),(.int (3) 0),(.ref 187),(.bool true),(.int (181) 0),(.ref 188),.none,(.ref 189),(.ref 190),(.ref 191),(.int (469) 0),(.int (138) 0),(.str "/claim/cut.py" 470)]),#[]⟩),
 (193,kFn "_law_shown" "_law_shown" (Z6 p 29) (.str "law_forsworn_k50_lines_read" 359) 192),
 (199,⟨(.type "code"),none,(.fields #[(.str "_law_read_number" 472),(.str "_law_read_number" 473),(.str "/claim/cut.py" 474),(.int (150) 0),(.int (1) 0),(.int (0) 0),(.int (0) 0),(.int (3) 0),(.ref 194),(.bool true),(.int (181) 0),(.ref 195),.none,(.ref 196),(.ref 197),(.ref 198),(.int (477) 0),(.int (150) 0),(.str "/claim/cut.py" 478)]),#[]⟩),
 (200,kFn "_law_read_number" "_law_read_number" (Z6 p 30) (.str "law_forsworn_k50_lines_read" 359) 199),
 (206,⟨(.type "code"),none,(.fields #[(.str "_law_read_name" 480),(.str "_law_read_name" 481),(.str "/claim/cut.py" 482),(.int (157) 0),(.int (1) 0),(.int (0) 0),(.int (0) 0),(.int (3) 0),(.ref 201),(.bool true),(.int (181) 0),(.ref 202),.none,(.ref 203),(.ref 204),(.ref 205),(.int (485) 0),(.int (157) 0),(.str "/claim/cut.py" 486)]),#[]⟩),
 (207,kFn "_law_read_name" "_law_read_name" (Z6 p 31) (.str "law_forsworn_k50_lines_read" 359) 206),
 (213,⟨(.type "code"),none,(.fields #[(.str "_law_read_part" 488),(.str "_law_read_part" 489),(.str "/claim/cut.py" 490),(.int (164) 0),(.int (2) 0),(.int (0) 0),(.int (0) 0),(.int (3) 0),(.ref 208),(.bool true),(.int (181) 0),(.ref 209),.none,(.ref 210),(.ref 211),(.ref 212),(.int (493) 0),(.int (164) 0),(.str "/claim/cut.py" 494)]),#[]⟩),
 (214,kFn "_law_read_part" "_law_read_part" (Z6 p 32) (.str "law_forsworn_k50_lines_read" 359) 213),
 (218,⟨(.type "code"),none,(.fields #[(.str "_law_read_sides" 496),(.str "_law_read_sides" 497),(.str "/claim/cut.py" 498),(.int (168) 0),(.int (1) 0),(.int (0) 0),(.int (0) 0),(.int (3) 0),(.ref 215),(.bool true),(.int (181) 0),(.ref 216),.none,.none,.none,(.ref 217),(.int (499) 0),(.int (168) 0),(.str "/claim/cut.py" 500)]),#[]⟩),
 (219,kFn "_law_read_sides" "_law_read_sides" (Z6 p 33) (.str "law_forsworn_k50_lines_read" 359) 218),
 (223,⟨(.type "code"),none,(.fields #[(.str "_law_read" 502),(.str "_law_read" 503),(.str "/claim/cut.py" 504),(.int (177) 0),(.int (1) 0),(.int (0) 0),(.int (0) 0),(.int (3) 0),(.ref 220),(.bool true),(.int (181) 0),(.ref 221),.none,.none,.none,(.ref 222),(.int (505) 0),(.int (177) 0),(.str "/claim/cut.py" 506)]),#[]⟩),
 (224,kFn "_law_read" "_law_read" (Z6 p 34) (.str "law_forsworn_k50_lines_read" 359) 223),
 (230,⟨(.type "code"),none,(.fields #[(.str "_law_spoilt" 508),(.str "_law_spoilt" 509),(.str "/claim/cut.py" 510),(.int (195) 0),(.int (2) 0),(.int (0) 0),(.int (0) 0),(.int (3) 0),(.ref 225),(.bool true),(.int (181) 0),(.ref 226),.none,(.ref 227),(.ref 228),(.ref 229),(.int (519) 0),(.int (195) 0),(.str "/claim/cut.py" 520)]),#[]⟩),
 (231,kFn "_law_spoilt" "_law_spoilt" (Z6 p 35) (.str "law_forsworn_k50_lines_read" 359) 230),
 (237,⟨(.type "code"),none,(.fields #[(.str "_law_found" 522),(.str "_law_found" 523),(.str "/claim/cut.py" 524),(.int (217) 0),(.int (1) 0),(.int (0) 0),(.int (0) 0),(.int (3) 0),(.ref 232),(.bool true),(.int (181) 0),(.ref 233),.none,(.ref 234),(.ref 235),(.ref 236),(.int (528) 0),(.int (217) 0),(.str "/claim/cut.py" 529)]),#[]⟩),
 (238,kFn "_law_found" "_law_found" (Z6 p 36) (.str "law_forsworn_k50_lines_read" 359) 237),
 (244,⟨(.type "code"),none,(.fields #[(.str "law" 531),(.str "law" 532),(.str "/claim/cut.py" 533),(.int (224) 0),(.int (1) 0),(.int (0) 0),(.int (0) 0),(.int (3) 0),(.ref 239),(.bool true),(.int (181) 0),(.ref 240),.none,(.ref 241),(.ref 242),(.ref 243),(.int (542) 0),(.int (224) 0),(.str "/claim/cut.py" 543)]),#[]⟩),
 (245,kFn "law" "law" (Z6 p 37) (.str "law_forsworn_k50_lines_read" 359) 244)]
def KK (P:Params):PySem.W.Frag:=Kp PySem.Challenge.pw_forsworn_k50_lines_read P
def askd:List Addr:=[3,37,38,57,58,64,65,66,67,68,69,70,71,72,73,74,75,76,77,83,84,90,91,95,96,100,101,107,108,112,113,119,120,126,127,133,134,140,141,147,148,152,153,159,160,166,167,171,172,178,179,185,186,192,193,199,200,206,207,213,214,218,219,223,224,230,231,237,238,244,245]
def HK:PySem.W.Hook:=PySem.W.kHook KK askd fun _=>by kernel_rfl
def q:Program:=PySem.W.view PySem.Challenge.pw_forsworn_k50_lines_read [0,2,3,5,6,8,9,10,11,12,13,14,15,16,18,19,20,21,22,23,24,25,26,27,28,29,30,31,32,33,34,35,36,37]
end Law
namespace PySem.W.Fast
noncomputable def tw12901752218283144634:PySem.Program:=PySem.Challenge.pw_forsworn_k50_lines_read
theorem te12901752218283144634:PySem.Challenge.pw_forsworn_k50_lines_read=tw12901752218283144634:=rfl
end PySem.W.Fast
lay_quick PySem.Challenge.rw_forsworn_k50_lines_read Law.q
namespace Law
open PySem L2
set_option maxRecDepth 1000000 in
theorem Zzm (w:World) (os:PySem.OsState) (b:Bool):Option.map (fun s=>PySem.W.Fast.tw12071799914241796487 (PySem.W.Fast.tw2368527892694137696 PySem.W.Fast.tw15844128140409972705).prog PySem.W.Fast.tw2797900513057943271 ["PLAIN", "SWORN"] (fun s=>PySem.W.xlAt PySem.W.Fast.tw2797900513057943271 [] s && PySem.W.recOk (PySem.W.Fast.tw2368527892694137696 PySem.W.Fast.tw15844128140409972705).records s) (fun s=>askd.map s.heap.get?) (w.withFollow "special-get-raises" b).params s.abs)
  (PySem.W.Fast.tw4652649595001227023 PySem.W.Fast.tw14364793385576792824 (PySem.W.Fast.tw2368527892694137696 PySem.W.Fast.tw15844128140409972705).prog (w.withFollow "special-get-raises" b) 11 (some (.ref 6)) 3264 (PySem.W.Fast.tw15095419895629540892 (w.withFollow "special-get-raises" b).params os) (PySem.W.topStub (PySem.W.Fast.tw2368527892694137696 PySem.W.Fast.tw15844128140409972705).prog))=some (true,PySem.W.openGood PySem.W.Fast.tw2797900513057943271 ["PLAIN", "SWORN"],(Kp PySem.W.Fast.tw12901752218283144634 (w.withFollow "special-get-raises" b).params).map fun p=>some p.2):=by
 cases b <;> kernel_rfl
theorem left:PySem.W.LeftO PySem.Challenge.rw_forsworn_k50_lines_read.row.prog q ["PLAIN", "SWORN"] (fun s=>PySem.W.xlAt q [] s && PySem.W.recOk (PySem.W.RowW.records PySem.Challenge.rw_forsworn_k50_lines_read.row.toRowW) s) HK.obs HK.val 3264:=by
 refine Zrv (by kernel_rfl) (by decide) (fun s=>by kernel_rfl) fun w os=>?_
 have h:=Zzm w os (w.params.followText "special-get-raises")
 rw [World.withFollow_self] at h
 rw [← PySem.W.Fast.te12071799914241796487,← PySem.W.Fast.te4652649595001227023,← PySem.W.Fast.te15095419895629540892,← PySem.W.Fast.te2797900513057943271,← PySem.W.Fast.te2368527892694137696,← PySem.W.Fast.te15844128140409972705,← PySem.W.Fast.te14364793385576792824,← PySem.W.Fast.te12901752218283144634] at h
 exact h
end Law
section
set_option Elab.async false
set_option linter.all false
set_option maxRecDepth 100000
namespace L2
open PySem PySem.Spec PyProof.Rows
abbrev Key:=Sum Int Str
def Zak:Key->Value->Bool
 | .inl k,v=>Value.isInt k v
 | .inr x,v=>Value.isStrOf x v
def Zzn (w:World):Key->Int
 | .inl k=>hashInt k
 | .inr x=>hashStr w x
theorem Vl:∀ {k:Key}{v:Value},Zak k v=true->(∃ i t,k=Sum.inl i/\v=Value.int i t)\/(∃ x t,k=Sum.inr x/\v=Value.str x t)
 | .inl i,v,h=>by
  obtain ⟨t,e⟩:=Value.isInt_shape (k:=i) (v:=v) h
  exact .inl ⟨i,t,rfl,e⟩
 | .inr x,v,h=>by
  obtain ⟨t,e⟩:=Value.isStrOf_shape (x:=x) (v:=v) h
  exact .inr ⟨x,t,rfl,e⟩
theorem Zpc (i:Int) (t:Tok):Zak (.inl i) (.int i t)=true:=by simp [Zak,Value.isInt]
theorem Zdu (x:Str) (t:Tok):Zak (.inr x) (.str x t)=true:=by simp [Zak,Value.isStrOf]
theorem Ztl (a b:Int):decide ((Sum.inl a:Key)=Sum.inl b)=(a == b):=by
 by_cases e:a=b
 ·subst e; simp
 ·have h:¬ (Sum.inl a:Key)=Sum.inl b:=fun q=>e (Sum.inl.inj q)
  rw [decide_eq_false h]
  exact (beq_eq_false_iff_ne.mpr e).symm
theorem Zj9 (a b:Str):decide ((Sum.inr a:Key)=Sum.inr b)=decide (a=b):=by
 by_cases e:a=b
 ·subst e; simp
 ·have h:¬ (Sum.inr a:Key)=Sum.inr b:=fun q=>e (Sum.inr.inj q)
  rw [decide_eq_false h,decide_eq_false e]
theorem Ztm (a:Int) (b:Str):decide ((Sum.inl a:Key)=Sum.inr b)=false:=decide_eq_false (fun q=>nomatch q)
theorem Ztn (a:Str) (b:Int):decide ((Sum.inr a:Key)=Sum.inl b)=false:=decide_eq_false (fun q=>nomatch q)
def Yu (prog:Program) (w:World):PySem.KeyKind prog w Key where
 is:=Zak
 hash:=Zzn w
 inj:=fun v a b ha hb=>by
  rcases Vl ha with ⟨i,t,rfl,rfl⟩ | ⟨x,t,rfl,rfl⟩
  ·rcases Vl hb with ⟨j,u,rfl,e⟩ | ⟨y,u,rfl,e⟩
   ·injection e with e1 _; rw [e1]
   ·exact nomatch e
  ·rcases Vl hb with ⟨j,u,rfl,e⟩ | ⟨y,u,rfl,e⟩
   ·exact nomatch e
   ·injection e with e1 _; rw [e1]
 byValue:=fun k v h=>by
  rcases Vl h with ⟨i,t,rfl,rfl⟩ | ⟨x,t,rfl,rfl⟩ <;> rfl
 pyHash:=fun hv h=>by
  rcases Vl hv with ⟨i,t,rfl,rfl⟩ | ⟨x,t,rfl,rfl⟩
  ·exact wpAny_pyHash_int h
  ·exact wpAny_pyHash_str h
 eqBool:=fun hu hv h=>by
  rcases Vl hu with ⟨i,t,rfl,rfl⟩ | ⟨x,t,rfl,rfl⟩
  ·rcases Vl hv with ⟨j,u,rfl,rfl⟩ | ⟨y,u,rfl,rfl⟩
   ·rw [Ztl] at h; exact wpAny_eqBool_int h
   ·rw [Ztm] at h; exact SeqAt.EqAt.int_str i t y u _ _ _ _ h
  ·rcases Vl hv with ⟨j,u,rfl,rfl⟩ | ⟨y,u,rfl,rfl⟩
   ·rw [Ztn] at h; exact SeqAt.EqAt.str_int x t j u _ _ _ _ h
   ·rw [Zj9] at h; exact wpAny_eqBool_str h
 «strs»:=fun k x t v h=>by
  rcases Vl h with ⟨i,u,rfl,e⟩ | ⟨y,u,rfl,e⟩
  ·exact nomatch e
  ·injection e with e1 _
   subst e1
   cases v <;> rfl
theorem Zok (prog:Program) (w:World) (i:Int) (t:Tok):(Yu prog w).is (.inl i) (.int i t)=true:=Zpc i t
theorem Zol (prog:Program) (w:World) (x:Str) (t:Tok):(Yu prog w).is (.inr x) (.str x t)=true:=Zdu x t
end L2
namespace L2
open PySem PySem.Spec PyProof.Rows
inductive V where
 | non | bl (b:Bool) | int (i:Int) | str (x:Str) | byt (b:Array UInt8) | flt (b:UInt64) | ref (a:Addr) | ty (n:String)
 deriving DecidableEq
def RelV:V->Value->Prop
 | .non,u=>u=Value.none
 | .bl b,u=>u=Value.bool b
 | .int i,u=>∃ t,u=Value.int i t
 | .str x,u=>∃ t,u=Value.str x t
 | .byt b,u=>∃ t,u=Value.bytes b t
 | .flt b,u=>∃ t,u=Value.float b t
 | .ref a,u=>u=Value.ref a
 | .ty n,u=>u=Value.type n
abbrev Vals:List V->List Value->Prop:=Paired RelV
theorem Vals.length {xs:List V}{us:List Value}(r:Vals xs us):xs.length=us.length:=Paired.length r
theorem Vals.get:∀ {xs:List V}{us:List Value}{i:Nat}{x:V},Vals xs us->xs[i]? = some x->∃ u,us[i]? = some u/\RelV x u
 | _,_,_,_,.nil,e=>by simp at e
 | _,_,0,_,.cons r _,e=>by simp at e; subst e; exact ⟨_,rfl,r⟩
 | _,_,i+1,x,.cons _ t,e=>by
  obtain ⟨u,h1,h2⟩:=Vals.get (i:=i) (x:=x) t (by simpa using e)
  exact ⟨u,by simpa using h1,h2⟩
theorem Vals.set {x:V}{u:Value}(r:RelV x u):∀ {xs:List V}{us:List Value}(i:Nat),Vals xs us->Vals (xs.set i x) (us.set i u)
 | _,_,_,.nil=>.nil
 | _,_,0,.cons _ t=>.cons r t
 | _,_,i+1,.cons q t=>.cons q (Vals.set r i t)
theorem Vals.append:∀ {xs ys:List V}{us ws:List Value},Vals xs us->Vals ys ws->Vals (xs++ys) (us++ws)
 | _,_,_,_,.nil,s=>s
 | _,_,_,_,.cons r t,s=>.cons r (Vals.append t s)
theorem Vals.take:∀ {xs:List V}{us:List Value}(n:Nat),Vals xs us->Vals (xs.take n) (us.take n)
 | _,_,0,_=>.nil
 | _,_,_+1,.nil=>.nil
 | _,_,n+1,.cons r t=>.cons r (Vals.take n t)
theorem Vals.drop:∀ {xs:List V}{us:List Value}(n:Nat),Vals xs us->Vals (xs.drop n) (us.drop n)
 | _,_,0,r=>r
 | _,_,_+1,.nil=>.nil
 | _,_,n+1,.cons _ t=>Vals.drop n t
def RelO:Option V->Option Value->Prop
 | some v,some u=>RelV v u
 | none,none=>True
 | _,_=>False
def KV {κ:Type}:List (κ×V)->List (κ×Value)->Prop:=Paired fun (p : κ×V) (q : κ×Value)=>p.1=q.1/\RelV p.2 q.2
def kV:Key->V
 | .inl i=>.int i
 | .inr x=>.str x
inductive HO where
 | lst (xs:List V)
 | tup (xs:List V)
 | dK (kvs:List (Key×V)) | dT (kvs:List (List Key×V))
 | set (S:Int->Bool) (n:Nat)
 | ins (C dx:Addr) (fs:List (Str×V))
 | own (x:Addr)
 | xd (fs:List (Str×V))
 | met (f x:Addr)
 | rng (lo hi:Int)
 | frz (o:Obj) (u:HO)
 | tbl (ps:Array Value)
 | ext (φ:Heap->Prop)
abbrev Hp:=Addr->Option HO
def upd (H:Hp) (a:Addr) (o:HO):Hp:=fun b=>if b=a then some o else H b
theorem Zg {H:Hp}{a:Addr}{o:HO}:upd H a o a=some o:=by unfold upd; rw [if_pos rfl]
theorem Zt {H:Hp}{a b:Addr}{o:HO}(h:b≠a):upd H a o b=H b:=by unfold upd; rw [if_neg h]
theorem Yg {H:Hp}{a b:Addr}{o:HO}(h:H a=some o) (h':H b=none):a≠b:=by
 intro e; subst e; rw [h] at h'; cases h'
section
variable (P:Program) (w:World)
def ObjOk (H:Hp) (h:Heap) (a:Addr):HO->Prop
 | .lst xs=>xs.length<=sizeLine/\∃ (its:List Value) (n:Nat),Vals xs its/\h.get? a=some {cls:=.type "list", data:=.seq its.toArray n }
 | .tup xs=>xs.length<=sizeLine/\∃ its:List Value,Vals xs its/\IsTup h a its.toArray
 | .dK kvs=>kvs.length<=sizeLine/\(a == sysModules)=false/\∃ vs,KV kvs vs/\h.DictOf (Yu P w) a vs
 | .dT kvs=>kvs.length<=sizeLine/\(a == sysModules)=false/\∃ xs:List (List Key×Addr×Value),
   Paired (fun (p:List Key×V) (q:List Key×Addr×Value)=>p.1=q.1/\H q.2.1=some (.tup (p.1.map kV))/\RelV p.2 q.2.2) kvs xs /\
   ∃ o es ep,h.get? a=some o/\o.ExactDict/\o.data = .dict es ep/\es.toList=xs.map (entryOfKey (tupleKind (Yu P w)))/\(xs.map (·.1)).Nodup
 | .set S n=>h.SetOf (intKind P w) a S n
 | .ins C dx fs=>H dx=some (.own a)/\fs.length<=1000/\dx≠a/\h.get? a=some (PySem.W.instObj C dx) /\
   ∃ mA,h.Ns1 dx mA/\(∀ f,RelO (fs.lookup f) (mA f))/\PySem.Within mA (fs.map (·.1))
 | .own _=>∃ o,h.get? a=some o
 | .xd fs=>∃ mA,h.Ns1 a mA/\∀ f,RelO (fs.lookup f) (mA f)
 | .rng lo hi=>∃ t u v,h.get? a=some {cls:=.type "range", data:=.fields #[.int lo t,.int hi u,.int 1 v] }
 | .frz o u=>h.get? a=some o/\ObjOk H h a u
 | .tbl ps=>∃ (qs:Array Value) (nm:Str) (t:Tok),h.get? a=some {cls:=.none,data:=.fields qs }/\TriplesOk qs.toList/\ps[0]? = some (.str nm t)/\∀ pos cv,codeAmong pos qs.toList=some cv->∃ c,cv = .ref c/\H c=some (.own a)/\h.CodeRec (.ref c) nm
 | .met f x=>h.get? a=some (PySem.W.methodObj (.ref f) (.ref x))
 | .ext φ=>φ h/\(∃ o,h.get? a=some o)/\∀ h1 h2:Heap,φ h1->(∀ o,h1.get? a=some o->h2.get? a=some o)->φ h2
def HOk (H:Hp) (h:Heap):Prop:=∀ a o,H a=some o->ObjOk P w H h a o
end
section
variable {P:Program}{w:World}{H H':Hp}{h h':Heap}{a:Addr}{o:HO}
theorem ObjOk.lt (x:ObjOk P w H h a o):a < h.objs.size:=by
 cases o with
 | lst xs=>obtain ⟨_,_,_,_,e⟩:=x; exact Heap.lt_size e
 | tup xs=>obtain ⟨_,_,_,p⟩:=x; exact p.lt
 | dK kvs=>obtain ⟨_,_,_,_,o,_,_,e,_⟩:=x; exact Heap.lt_size e
 | dT kvs=>obtain ⟨_,_,_,_,o,_,_,e,_⟩:=x; exact Heap.lt_size e
 | set S n=>obtain ⟨o,_,_,_,e,_⟩:=x; exact Heap.lt_size e
 | ins C dx fs=>obtain ⟨_,_,_,e,_⟩:=x; exact Heap.lt_size e
 | own y=>obtain ⟨_,e⟩:=x; exact Heap.lt_size e
 | xd fs=>obtain ⟨_,⟨_,_,_,e,_⟩,_⟩:=x; exact Heap.lt_size e
 | rng lo hi=>obtain ⟨_,_,_,e⟩:=x; exact Heap.lt_size e
 | frz ob u=>obtain ⟨e,_⟩:=x; exact Heap.lt_size e
 | tbl ps=>obtain ⟨_,_,_,e,_⟩:=x; exact Heap.lt_size e
 | met f y=>exact Heap.lt_size (show h.get? a=some _ from x)
 | ext φ=>obtain ⟨_,⟨_,e⟩,_⟩:=x; exact Heap.lt_size e
theorem Paired.mapP {α β:Type}{F G : α->β->Prop}:∀ {l₁:List α}{l₂:List β},Paired F l₁ l₂->(∀ a b,F a b->G a b)->Paired G l₁ l₂
 | _,_,.nil,_=>.nil
 | _,_,.cons r t,f=>.cons (f _ _ r) (Paired.mapP t f)
theorem ObjOk.stay (x:ObjOk P w H h a o) (k:∀ b u,(b=a\/H b=some (.own a))->h.get? b=some u->h'.get? b=some u)
  (ho:∀ b,H b=some (.own a)->H' b=some (.own a)) (ht:∀ b xs,H b=some (.tup xs)->H' b=some (.tup xs)):ObjOk P w H' h' a o:=by
 induction o with
 | lst xs=>obtain ⟨z,its,n,r,e⟩:=x; exact ⟨z,its,n,r,k _ _ (.inl rfl) e⟩
 | tup xs=>obtain ⟨z,its,r,ob,e,c⟩:=x; exact ⟨z,its,r,ob,k _ _ (.inl rfl) e,c⟩
 | dK kvs=>obtain ⟨z,y,vs,r,ob,es,ep,e,c⟩:=x; exact ⟨z,y,vs,r,ob,es,ep,k _ _ (.inl rfl) e,c⟩
 | dT kvs =>
  obtain ⟨z,y,xs,r,ob,es,ep,e,c⟩:=x
  exact ⟨z,y,xs,Paired.mapP r fun p q z=>⟨z.1,ht _ _ z.2.1,z.2.2⟩,ob,es,ep,k _ _ (.inl rfl) e,c⟩
 | set S n=>obtain ⟨ob,es,ep,t,e,c⟩:=x; exact ⟨ob,es,ep,t,k _ _ (.inl rfl) e,c⟩
 | ins C dx fs =>
  obtain ⟨d,z,ne,e,mA,⟨od,es,ep,e2,c⟩,r⟩:=x
  exact ⟨ho _ d,z,ne,k _ _ (.inl rfl) e,mA,⟨od,es,ep,k _ _ (.inr d) e2,c⟩,r⟩
 | own y=>obtain ⟨ob,e⟩:=x; exact ⟨ob,k _ _ (.inl rfl) e⟩
 | xd fs=>obtain ⟨mA,⟨od,es,ep,e,c⟩,r⟩:=x; exact ⟨mA,⟨od,es,ep,k _ _ (.inl rfl) e,c⟩,r⟩
 | rng lo hi=>obtain ⟨t,u,v,e⟩:=x; exact ⟨t,u,v,k _ _ (.inl rfl) e⟩
 | frz ob u ih=>obtain ⟨e,q⟩:=x; exact ⟨k _ _ (.inl rfl) e,ih q⟩
 | tbl ps =>
  obtain ⟨qs,nm,t,e,z1,z2,z3⟩:=x
  refine ⟨qs,nm,t,k a _ (.inl rfl) e,z1,z2,fun pos cv ec=>?_⟩
  obtain ⟨c,e1,e2,c2,oc,vs,tt,e3,e4,e5⟩:=z3 pos cv ec
  cases e3
  exact ⟨c,e1,ho _ e2,c,oc,vs,tt,rfl,k _ _ (.inr e2) e4,e5⟩
 | met f y =>
  have e:h.get? a=some (PySem.W.methodObj (.ref f) (.ref y)):=x
  show h'.get? a=some (PySem.W.methodObj (.ref f) (.ref y))
  exact k a _ (.inl rfl) e
 | ext φ=>obtain ⟨p,⟨o,e⟩,st⟩:=x; exact ⟨st _ _ p fun o q=>k _ _ (.inl rfl) q,⟨o,k _ _ (.inl rfl) e⟩,st⟩
theorem HOk.lt (x:HOk P w H h) (e:H a=some o):a < h.objs.size:=(x a o e).lt
theorem HOk.fresh (x:HOk P w H h) (e:h.objs.size<=a):H a=none:=by
 cases q:H a with
 | none=>rfl
 | some u=>exact absurd (Nat.lt_of_lt_of_le (x.lt q) e) (Nat.lt_irrefl _)
theorem HOk.kept (x:HOk P w H h) (k:∀ b u,h.get? b=some u->h'.get? b=some u):HOk P w H h':=fun a o e =>
 (x a o e).stay (fun b u _ q=>k b u q) (fun _ q=>q) fun _ _ q=>q
theorem HOk.laid (x:HOk P w H h) (k:∀ b u,h.get? b=some u->h'.get? b=some u) (hp:h.objs.size<=a) (new:ObjOk P w (upd H a o) h' a o):HOk P w (upd H a o) h':=fun b u e=>by
 have hn:=x.fresh hp
 by_cases hb:b=a
 ·subst hb; rw [Zg] at e; cases e; exact new
 ·rw [Zt hb] at e
  exact (x b u e).stay (fun c v _ q=>k c v q) (fun c q=>by rw [Zt (Yg q hn)]; exact q) fun c xs q=>by rw [Zt (Yg q hn)]; exact q
end
def Rd (H:Hp) (a:Addr) (u:HO):Prop:=H a=some u\/∃ o,H a=some (.frz o u)
theorem Rd.ok {P:Program}{w:World}{H:Hp}{h:Heap}{a:Addr}{u:HO}(r:Rd H a u) (x:HOk P w H h):ObjOk P w H h a u:=by
 rcases r with r | ⟨o,r⟩
 ·exact x a u r
 ·obtain ⟨_,q⟩:=x a _ r
  exact q
def Mut:Option HO->Prop
 | some (.lst _)=>True
 | some (.dK _)=>True
 | some (.dT _)=>True
 | some (.set _ _)=>True
 | some (.ins _ _ _)=>True
 | some (.ext _)=>True
 | _=>False
section
variable {P:Program}{w:World}{H:Hp}{h h':Heap}{x e:Addr}{o':HO}
theorem HOk.write (ok:HOk P w H h) (mu:Mut (H x)) (he:e=x\/H e=some (.own x)) (k:∀ b u,b≠e->h.get? b=some u->h'.get? b=some u) (heo:∃ u,h'.get? e=some u)
  (new:ObjOk P w (upd H x o') h' x o'):HOk P w (upd H x o') h':=fun b u q=>by
 have nown:∀ c y,H c=some (.own y)->c≠x:=fun c y r z=>by subst z; rw [r] at mu; exact mu
 have ntup:∀ c xs,H c=some (.tup xs)->c≠x:=fun c xs r z=>by subst z; rw [r] at mu; exact mu
 by_cases hb:b=x
 ·subst hb; rw [Zg] at q; cases q; exact new
 ·rw [Zt hb] at q
  by_cases hbe:b=e
  ·have q':H b=some (.own x):=by
    rcases he with z | z
    ·exact absurd (hbe.trans z) hb
    ·rw [hbe]; exact z
   rw [q] at q'; cases q'
   obtain ⟨v,hv⟩:=heo
   exact ⟨v,by rw [hbe]; exact hv⟩
  ·refine (ok b u q).stay (fun c v hc r=>k c v ?_ r) (fun c r=>by rw [Zt (nown c b r)]; exact r) fun c xs r=>by rw [Zt (ntup c xs r)]; exact r
   rcases hc with rfl | hc
   ·exact hbe
   ·rintro rfl
    rcases he with z | z
    ·exact nown c b hc z
    ·rw [hc] at z; cases z; exact hb rfl
end
structure Un (fs ex:List Addr) (H H':Hp) (h h':Heap):Prop where
 keep:∀ b o,h.get? b=some o->H b=none->b∉fs->b∉ex->h'.get? b=some o
 slot:∀ b o,h.get? b=some o->H b=none->b∈fs->b∉ex->∃ sl,h'.get? b=some {o with slots:=sl }
 free:∀ b o,h.get? b=some o->H b=none->b∉ex->H' b=none
 there:∀ b o,h.get? b=some o->b∉ex->∃ o',h'.get? b=some o'
 tups:∀ b xs,H b=some (.tup xs)->H' b=some (.tup xs)
 frzs:∀ b o u,H b=some (.frz o u)->H' b=some (.frz o u)
 tbls:∀ b ps,H b=some (.tbl ps)->∃ more,H' b=some (.tbl (ps++more))
section
variable {fs fs' ex ex':List Addr}{H H1 H2:Hp}{h h1 h2 h':Heap}{a x e:Addr}{o:HO}
theorem Un.any (u:Un fs ex H H1 h h1) {b:Addr}{ob:Obj}(q:h.get? b=some ob) (n:H b=none) (hx:b∉ex):∃ sl,h1.get? b=some {ob with slots:=sl }:=by
 by_cases hb:b∈fs
 ·exact u.slot b ob q n hb hx
 ·exact ⟨ob.slots,u.keep b ob q n hb hx⟩
theorem Un.kept (k:∀ b u,h.get? b=some u->h'.get? b=some u):Un fs ex H H h h' :=
 ⟨fun b ob q _ _ _=>k b ob q,fun b ob q _ _ _=>⟨ob.slots,k b ob q⟩,fun _ _ _ n _=>n,fun b ob q _=>⟨ob,k b ob q⟩,fun _ _ q=>q,fun _ _ _ q=>q,fun _ ps q=>⟨#[],by rw [q]; simp⟩⟩
theorem Un.refl:Un fs ex H H h h:=Un.kept fun _ _ q=>q
theorem Un.laid (k:∀ b u,h.get? b=some u->h'.get? b=some u) (hp:h.objs.size<=a) (hn:H a=none):Un fs ex H (upd H a o) h h' where
 keep:=fun b u q _ _ _=>k b u q
 slot:=fun b u q _ _ _=>⟨u.slots,k b u q⟩
 free:=fun b u q n _=>by rw [Zt (Nat.ne_of_lt (Nat.lt_of_lt_of_le (Heap.lt_size q) hp))]; exact n
 there:=fun b u q _=>⟨u,k b u q⟩
 tups:=fun b xs q=>by rw [Zt (Yg q hn)]; exact q
 frzs:=fun b u xs q=>by rw [Zt (Yg q hn)]; exact q
 tbls:=fun b ps q=>⟨#[],by rw [Zt (Yg q hn),q]; simp⟩
theorem Un.write (mu:Mut (H x)) (he:e=x\/H e=some (.own x)) (k:∀ b u,b≠e->h.get? b=some u->h'.get? b=some u) (heo:∃ u,h'.get? e=some u):Un fs ex H (upd H x o) h h':=by
 have hx:∀ b,H b=none->b≠x:=fun b n z=>by subst z; rw [n] at mu; exact mu
 have hb:∀ b,H b=none->b≠e:=fun b n z=>by
  subst z
  rcases he with r | r
  ·exact hx b n r
  ·rw [n] at r; cases r
 have hm:∀ b u,H b=some u->¬ Mut (some u)->b≠x:=fun b u q nm z=>by subst z; rw [q] at mu; exact nm mu
 refine ⟨fun b u q n _ _=>k b u (hb b n) q,fun b u q n _ _=>⟨u.slots,k b u (hb b n) q⟩,fun b u q n _=>by rw [Zt (hx b n)]; exact n,fun b u q _=>?_,
  fun b xs q=>by rw [Zt (hm b _ q fun z=>z)]; exact q,fun b u xs q=>by rw [Zt (hm b _ q fun z=>z)]; exact q,fun b ps q=>⟨#[],by rw [Zt (hm b _ q fun z=>z),q]; simp⟩⟩
 by_cases hbe:b=e
 ·subst hbe; exact heo
 ·exact ⟨u,k b u hbe q⟩
end
def trk (h:Heap) (H:Hp):List Addr:=(List.range h.objs.size).filter fun a=>(H a).isSome
def Vm (h:Heap) (H:Hp):Heap:=PySem.W.hideAll h (trk h H)
theorem Zpd (h:Heap) (H:Hp):(Vm h H).objs.size=h.objs.size:=PySem.W.hideAll_size _ _
theorem Zp7 {h:Heap}{H:Hp}{b:Addr}{o:Obj}(e:h.get? b=some o) (n:H b=none):(Vm h H).get? b=some o :=
 PySem.W.hideAll_get _ e fun hm=>by
  have q:(H b).isSome=true:=(List.mem_filter.mp hm).2
  rw [n] at q; simp at q
theorem Zrw {h:Heap}{H:Hp}{b:Addr}{o:Obj}(e:(Vm h H).get? b=some o):h.get? b=some o/\H b=none:=by
 have e':h.get? b=some o:=PySem.W.of_hideAll (trk h H) e
 refine ⟨e',?_⟩
 cases q:H b with
 | none=>rfl
 | some x =>
  have hm:b∈trk h H:=List.mem_filter.mpr ⟨List.mem_range.mpr (Heap.lt_size e'),by simp [q]⟩
  have z:(Vm h H).get? b=none:=PySem.W.hideAll_none (trk h H) hm
  rw [z] at e; cases e
end L2
namespace L2
open PySem PySem.Spec PyProof.Rows
structure Mod (K:PySem.W.Frag) (mg:Str->Option Value) (base:Heap):Prop where
 kin:K.In base
 glob:base.Ns mainGlobals mg
 blt:∃ mb,base.Ns builtinsNs mb/\∀ x:Str,x ≠ "__name__" -> mb x=bootBuiltins x
 nolimit:base.NoLimit
/-- the context: a def's body (or a comprehension's block) running. base: fixed through the whole law; s₀,H₀: the entry; outer: the frames whose slots others may change (a def's callers); stack: all frames that run;
   ex: iterators that were made ahead of the entry and are walked here (a comprehension's); fn: the names whose cells were made at the entry (a def: all; a comprehension's block: its own); calm: not within an except suite; pn: pins that every state bears; xe: what is wanted of an exception that leaves the code -/
structure Cx where
 prog:Program
 w:World
 K:PySem.W.Frag
 mg:Str->Option Value
 base:Heap
 A:Around
 N:List Str
 s₀:Shared
 H₀:Hp
 env:Env
 outer:List Env
 stack:List Env
 ex:List Addr
 fn:Str->Bool
 calm:Bool
 pn:List (Addr×Obj)
 xe:Value->Shared->Prop
def frs (l:List Env):List Addr:=l.filterMap (·.frame)
abbrev Cx.fs (X:Cx):List Addr:=frs X.outer
def Vis (sc:Scope) (x:Str):Prop:=sc.names.lookup x=some .local\/sc.names.lookup x=some .cell\/sc.names.lookup x=some .free
def Loc (sc:Scope) (x:Str):Prop:=sc.names.lookup x=some .local\/sc.names.lookup x=some .cell
def Zzo (env:Env) (h:Heap) (m:Str->Option Value) (x:Str) (u:Value):Prop :=
 (env.kindOf x=some .local/\m x=some u)\/((env.kindOf x=some .cell\/env.kindOf x=some .free)/\∃ c,env.cells.lookup x=some c/\h.IsCell c (some u))
structure Cx.Ok (X:Cx):Prop where
 mod:Mod X.K X.mg X.base
 kind:X.env.scope.kind = .function
 glob:X.env.globals=mainGlobals
 blt:X.env.builtins=builtinsNs
 above:X.s₀.heap.objs.size<=X.env.locals
 inj:∀ x y c,X.env.cells.lookup x=some c->X.env.cells.lookup y=some c->x=y
 has:∀ x,(X.env.kindOf x=some .cell\/X.env.kindOf x=some .free)->∃ c,X.env.cells.lookup x=some c
 cab:∀ x c,X.fn x=true->X.env.cells.lookup x=some c->X.s₀.heap.objs.size<=c
 hd:X.calm=true->X.A.handled=none
 frames:X.A.frames=some X.stack
 stk:X.stack=X.outer\/(X.stack=X.env::X.outer/\X.env.frame=some X.env.locals)
 exf:∀ b∈X.ex,b≠X.env.locals/\∀ x c,X.env.cells.lookup x=some c->c≠b
 bs:∀ b o,X.base.get? b=some o->X.s₀.heap.get? b=some o/\X.H₀ b=none
 bsz:X.base.objs.size<=X.s₀.heap.objs.size
 noex:∀ b o,X.base.get? b=some o->b∉X.ex
 exfs:∀ b∈X.ex,b∉X.fs
 funs:X.s₀.heap.FunFrames X.base X.outer
 frf:∀ b∈X.fs,X.H₀ b=none
structure Inv (X:Cx) (pins:List (Addr×Obj)) (σ:List (Option V)) (H:Hp) (s:Shared):Prop where
 ok:X.Ok
 os:s.os=X.s₀.os
 bare:AllBare s.gens
 base:Un X.fs X.ex X.H₀ H X.s₀.heap s.heap
 loc:∃ m,s.heap.Ns X.env.locals m/\∀ (i:Nat) (x:Str) (v:V),X.N[i]? = some x->σ[i]? = some (some v)->Vis X.env.scope x->∃ u,RelV v u/\Zzo X.env s.heap m x u
 cell:∀ x c,X.env.cells.lookup x=some c->∃ v,s.heap.IsCell c v
 free:H X.env.locals=none
 freeC:∀ x c,X.env.cells.lookup x=some c->H c=none
 pin:∀ p∈X.pn++pins,s.heap.get? p.1=some p.2/\H p.1=none/\p.1≠X.env.locals/\p.1∉X.fs/\∀ v,p.2.data ≠ .cell v
 hok:HOk X.prog X.w H s.heap
 len : σ.length=X.N.length
section
variable {X:Cx}{pins:List (Addr×Obj)}{σ:List (Option V)}{H H':Hp}{s:Shared}{h':Heap}
theorem Cx.Ok.nofr (ok:X.Ok) {b:Addr}{o:Obj}(e:X.base.get? b=some o):b∉X.fs:=fun hb=>by
 have:=(ok.funs.mem hb).1
 rw [e] at this; cases this
theorem Inv.bs (I:Inv X pins σ H s):∀ b o,X.base.get? b=some o->s.heap.get? b=some o/\H b=none:=fun b o e =>
 ⟨I.base.keep b o (I.ok.bs b o e).1 (I.ok.bs b o e).2 (I.ok.nofr e) (I.ok.noex b o e),I.base.free b o (I.ok.bs b o e).1 (I.ok.bs b o e).2 (I.ok.noex b o e)⟩
theorem Inv.bk (I:Inv X pins σ H s):∀ b o,X.base.get? b=some o->s.heap.get? b=some o:=fun b o e=>(I.bs b o e).1
theorem Inv.mod (I:Inv X pins σ H s):Mod X.K X.mg X.base:=I.ok.mod
theorem Inv.kIn (I:Inv X pins σ H s):X.K.In s.heap:=I.ok.mod.kin.keeps I.bk
theorem Inv.lt (I:Inv X pins σ H s):X.env.locals < s.heap.objs.size:=let ⟨_,hn,_⟩:=I.loc; hn.lt
theorem Inv.sz (I:Inv X pins σ H s):X.s₀.heap.objs.size<=s.heap.objs.size:=Nat.le_trans I.ok.above (Nat.le_of_lt I.lt)
theorem Inv.nofs (I:Inv X pins σ H s) {a:Addr}(h:s.heap.objs.size<=a):a∉X.fs:=fun hb=>by
 obtain ⟨_,o,ho,_⟩:=I.ok.funs.mem hb
 exact absurd (Nat.lt_of_lt_of_le (Heap.lt_size ho) (Nat.le_trans I.sz h)) (Nat.lt_irrefl _)
theorem Inv.cne (I:Inv X pins σ H s):∀ x c,X.env.cells.lookup x=some c->c≠X.env.locals:=fun x c e z=>by
 obtain ⟨v,o,ho,hd⟩:=I.cell x c e
 obtain ⟨m,⟨o',es,ep,ho',hd',_⟩,_⟩:=I.loc
 rw [z,ho'] at ho; cases ho; rw [hd'] at hd; cases hd
theorem Inv.funs (I:Inv X pins σ H s):s.heap.FunFrames X.base X.outer:=by
 have all:∀ (l:List Env),(∀ b∈frs l,b∈X.fs)->X.s₀.heap.FunFrames X.base l->s.heap.FunFrames X.base l:=by
  intro l
  induction l with
  | nil=>intro _ _; trivial
  | cons env r ih =>
   intro hs hl
   obtain ⟨hk,⟨L,o,hf,hn,ho,hd⟩,hr⟩:=hl
   have hL:L∈X.fs:=hs L (by unfold frs; rw [List.filterMap_cons,hf]; exact List.mem_cons_self)
   obtain ⟨sl,e⟩:=I.base.slot L o ho (I.ok.frf L hL) hL fun z=>I.ok.exfs L z hL
   exact ⟨hk,⟨L,_,hf,hn,e,hd⟩,ih (fun b hb=>hs b (by unfold frs; rw [List.filterMap_cons,hf]; exact List.mem_cons_of_mem _ hb)) hr⟩
 exact all X.outer (fun _ hb=>hb) I.ok.funs
theorem Inv.stack (I:Inv X pins σ H s):s.heap.FunFrames X.base X.stack:=by
 rcases I.ok.stk with e | ⟨e,hf⟩
 ·rw [e]; exact I.funs
 ·rw [e]
  obtain ⟨m,hn,_⟩:=I.loc
  refine .cons (by rw [I.ok.kind]; decide) hf hn ?_ I.funs
  exact Heap.get?_none_of_le (Nat.le_trans I.ok.bsz I.ok.above)
theorem Inv.stkSub (I:Inv X pins σ H s):∀ b∈frs X.stack,b∈X.env.locals::X.fs:=fun b hb=>by
 rcases I.ok.stk with e | ⟨e,hf⟩
 ·rw [e] at hb; exact List.mem_cons_of_mem _ hb
 ·rw [e] at hb
  unfold frs at hb
  rw [List.filterMap_cons,hf] at hb
  exact hb
theorem Inv.stkFree (I:Inv X pins σ H s):∀ b∈frs X.stack,H b=none:=fun b hb=>by
 rcases List.mem_cons.mp (I.stkSub b hb) with e | hb
 ·rw [e]; exact I.free
 ·obtain ⟨_,o,ho,_⟩:=I.ok.funs.mem hb
  exact I.base.free b o ho (I.ok.frf b hb) fun z=>I.ok.exfs b z hb
theorem Inv.step {g':Array GenState}{t':Nat}{d':Drawn}{ch:List Addr}(I:Inv X pins σ H s)
  (hch:∀ b∈ch,(b∈X.ex\/X.s₀.heap.objs.size<=b)/\b≠X.env.locals/\(∀ x c,X.env.cells.lookup x=some c->c≠b)/\∀ p∈X.pn++pins,p.1≠b)
  (keep:∀ b o,b≠X.env.locals->b∉X.fs->b∉ch->s.heap.get? b=some o->H b=none->h'.get? b=some o)
  (slot:∀ b o,b≠X.env.locals->b∈X.fs->b∉ch->s.heap.get? b=some o->H b=none->∃ sl,h'.get? b=some {o with slots:=sl }) (free:∀ b o,b∉ch->s.heap.get? b=some o->H b=none->H' b=none)
  (there:∀ b o,b∉ch->s.heap.get? b=some o->∃ o',h'.get? b=some o')
  (tups:∀ b xs,H b=some (.tup xs)->H' b=some (.tup xs)) (frzs:∀ b o u,H b=some (.frz o u)->H' b=some (.frz o u)) (tbls:∀ b ps,H b=some (.tbl ps)->∃ more,H' b=some (.tbl (ps++more)))
  (ns:∀ m,s.heap.Ns X.env.locals m->h'.Ns X.env.locals m) (hok:HOk X.prog X.w H' h') (hg:AllBare g') :
  Inv X pins σ H' {s with heap:=h',gens:=g',drawn:=d',toks:=t' }:=by
 have neL:∀ b o,X.s₀.heap.get? b=some o->b≠X.env.locals:=fun b o e=>Nat.ne_of_lt (Nat.lt_of_lt_of_le (Heap.lt_size e) I.ok.above)
 have neC:∀ b o,X.s₀.heap.get? b=some o->b∉X.ex->b∉ch:=fun b o e hx hb=>by
  rcases (hch b hb).1 with z | z
  ·exact hx z
  ·exact absurd (Nat.lt_of_lt_of_le (Heap.lt_size e) z) (Nat.lt_irrefl _)
 have cellK:∀ x c,X.env.cells.lookup x=some c->∀ v,s.heap.IsCell c v->h'.IsCell c v:=fun x c e v ⟨o,ho,hd⟩=>by
  have nch:c∉ch:=fun z=>(hch c z).2.2.1 x c e rfl
  by_cases hc:c∈X.fs
  ·obtain ⟨sl,q⟩:=slot c o (I.cne x c e) hc nch ho (I.freeC x c e)
   exact ⟨_,q,hd⟩
  ·exact ⟨o,keep c o (I.cne x c e) hc nch ho (I.freeC x c e),hd⟩
 refine ⟨I.ok,I.os,hg,⟨fun b o e n hb hx=>?_,fun b o e n hb hx=>?_,fun b o e n hx=>?_,fun b o e hx=>?_,fun b xs e=>tups b xs (I.base.tups b xs e),fun b o xs e=>frzs b o xs (I.base.frzs b o xs e),fun b ps e=>?_⟩,?_,fun x c e=>?_,?_,fun x c e=>?_,fun p hp=>?_,hok,I.len⟩
 ·exact keep b o (neL b o e) hb (neC b o e hx) (I.base.keep b o e n hb hx) (I.base.free b o e n hx)
 ·obtain ⟨sl,e1⟩:=I.base.slot b o e n hb hx
  obtain ⟨sl',e2⟩:=slot b _ (neL b o e) hb (neC b o e hx) e1 (I.base.free b o e n hx)
  exact ⟨sl',e2⟩
 ·obtain ⟨o',e1⟩:=I.base.there b o e hx
  exact free b o' (neC b o e hx) e1 (I.base.free b o e n hx)
 ·obtain ⟨o',e1⟩:=I.base.there b o e hx
  exact there b o' (neC b o e hx) e1
 ·obtain ⟨m1,e1⟩:=I.base.tbls b ps e
  obtain ⟨m2,e2⟩:=tbls b _ e1
  exact ⟨m1++m2,by rw [e2,Array.append_assoc]⟩
 ·obtain ⟨m,hn,hl⟩:=I.loc
  refine ⟨m,ns m hn,fun i x v e1 e2 e3=>?_⟩
  obtain ⟨u,r,l⟩:=hl i x v e1 e2 e3
  refine ⟨u,r,?_⟩
  rcases l with l | ⟨k,c,e,z⟩
  ·exact .inl l
  ·exact .inr ⟨k,c,e,cellK x c e _ z⟩
 ·obtain ⟨v,z⟩:=I.cell x c e
  exact ⟨v,cellK x c e v z⟩
 ·obtain ⟨m,⟨o,_,_,ho,_⟩,_⟩:=I.loc
  exact free _ o (fun z=>(hch _ z).2.1 rfl) ho I.free
 ·obtain ⟨v,o,ho,hd⟩:=I.cell x c e
  exact free c o (fun z=>(hch c z).2.2.1 x c e rfl) ho (I.freeC x c e)
 ·obtain ⟨e,n,ne,nf,d⟩:=I.pin p hp
  have nch:p.1∉ch:=fun z=>(hch p.1 z).2.2.2 p hp rfl
  exact ⟨keep p.1 p.2 ne nf nch e n,free p.1 p.2 nch e n,ne,nf,d⟩
theorem Inv.un {t':Nat}(I:Inv X pins σ H s) (u:Un X.fs [] H H' s.heap h') (hok:HOk X.prog X.w H' h'):Inv X pins σ H' {s with heap:=h',toks:=t' }:=by
 obtain ⟨m,⟨o,es,ep,ho,r⟩,_⟩:=id I.loc
 obtain ⟨sl,hL⟩:=u.any ho I.free (by simp)
 exact I.step (g':=s.gens) (d':=s.drawn) (ch:=[]) (fun _ z=>nomatch z) (fun b o _ hb _ e n=>u.keep b o e n hb (by simp)) (fun b o _ hb _ e n=>u.slot b o e n hb (by simp)) (fun b o _ e n=>u.free b o e n (by simp)) (fun b o _ e=>u.there b o e (by simp)) u.tups u.frzs u.tbls (fun m' hm=>by
  obtain ⟨o',es',ep',ho',r'⟩:=hm
  rw [ho] at ho'; cases ho'
  exact ⟨_,es',ep',hL,r'⟩) hok I.bare
theorem Inv.call {g':Array GenState}{t':Nat}{d':Drawn}{ch:List Addr}(I:Inv X pins σ H s) (u:Un (frs X.stack) ch H H' s.heap h') (hok:HOk X.prog X.w H' h') (hg:AllBare g')
  (hch:∀ b∈ch,(b∈X.ex\/X.s₀.heap.objs.size<=b)/\b≠X.env.locals/\(∀ x c,X.env.cells.lookup x=some c->c≠b)/\∀ p∈X.pn++pins,p.1≠b) :
  Inv X pins σ H' {s with heap:=h',gens:=g',drawn:=d',toks:=t' }:=by
 obtain ⟨m,⟨o,es,ep,ho,r⟩,_⟩:=id I.loc
 obtain ⟨sl,hL⟩:=u.any ho I.free fun z=>(hch _ z).2.1 rfl
 exact I.step (ch:=ch) hch (fun b o hL hb hc e n=>u.keep b o e n (fun z=>(List.mem_cons.mp (I.stkSub b z)).elim hL hb) hc) (fun b o _ _ hc e n=>u.any e n hc) (fun b o hc e n=>u.free b o e n hc) (fun b o hc e=>u.there b o e hc) u.tups u.frzs u.tbls (fun m' hm=>by
  obtain ⟨o',es',ep',ho',r'⟩:=hm
  rw [ho] at ho'; cases ho'
  exact ⟨_,es',ep',hL,r'⟩) hok hg
theorem Inv.turned {t':Nat}{it:Addr}(I:Inv X pins σ H s) (k:∀ b o,b≠it->s.heap.get? b=some o->h'.get? b=some o) (hn:H it=none) (hL:it≠X.env.locals)
  (h1:it∈X.ex\/X.s₀.heap.objs.size<=it) (h2:∀ x c,X.env.cells.lookup x=some c->c≠it) (h3:∀ p∈X.pn++pins,p.1≠it):Inv X pins σ H {s with heap:=h',toks:=t' }:=by
 have nit:∀ b u,H b=some u->b≠it:=fun b u e z=>by rw [z,hn] at e; cases e
 refine I.step (g':=s.gens) (d':=s.drawn) (ch:=[it]) (fun b hb=>?_) (fun b o _ _ hc e _=>k b o (fun z=>hc (by simp [z])) e) (fun b o _ _ hc e _=>⟨o.slots,k b o (fun z=>hc (by simp [z])) e⟩) (fun _ _ _ _ n=>n)
  (fun b o hc e=>⟨o,k b o (fun z=>hc (by simp [z])) e⟩) (fun _ _ e=>e) (fun _ _ _ e=>e) (fun b ps e=>⟨#[],by rw [e]; simp⟩) (fun m hm=>?_) (fun b u e=>?_) I.bare
 ·have e:b=it:=by simpa using hb
  subst e
  exact ⟨h1,hL,h2,h3⟩
 ·obtain ⟨o,es,ep,ho,r⟩:=hm
  exact ⟨o,es,ep,k _ o (Ne.symm hL) ho,r⟩
 ·refine (I.hok b u e).stay (fun c v hc q=>k c v ?_ q) (fun _ q=>q) fun _ _ q=>q
  rcases hc with z | z
  ·rw [z]; exact nit b u e
  ·exact nit c _ z
theorem Inv.tok (I:Inv X pins σ H s) (t:Nat):Inv X pins σ H {s with toks:=t }:=I.un (h':=s.heap) (t':=t) Un.refl I.hok
theorem Inv.kept {t':Nat}(I:Inv X pins σ H s) (k:∀ b u,s.heap.get? b=some u->h'.get? b=some u):Inv X pins σ H {s with heap:=h',toks:=t' }:=I.un (Un.kept k) (I.hok.kept k)
theorem Inv.laid {a:Addr}{o:HO}{t':Nat}(I:Inv X pins σ H s) (k:∀ b u,s.heap.get? b=some u->h'.get? b=some u) (hp:s.heap.objs.size<=a) (new:ObjOk X.prog X.w (upd H a o) h' a o) :
  Inv X pins σ (upd H a o) {s with heap:=h',toks:=t' }:=I.un (Un.laid k hp (I.hok.fresh hp)) (I.hok.laid k hp new)
theorem Inv.write {x e:Addr}{o:HO}{t':Nat}(I:Inv X pins σ H s) (mu:Mut (H x)) (he:e=x\/H e=some (.own x)) (k:∀ b u,b≠e->s.heap.get? b=some u->h'.get? b=some u) (heo:∃ u,h'.get? e=some u)
  (new:ObjOk X.prog X.w (upd H x o) h' x o):Inv X pins σ (upd H x o) {s with heap:=h',toks:=t' }:=I.un (Un.write mu he k heo) (I.hok.write mu he k heo new)
theorem Inv.pins_of {pins':List (Addr×Obj)}(I:Inv X pins σ H s) (h:∀ p∈pins',s.heap.get? p.1=some p.2/\H p.1=none/\p.1≠X.env.locals/\p.1∉X.fs/\∀ v,p.2.data ≠ .cell v):Inv X pins' σ H s :=
 ⟨I.ok,I.os,I.bare,I.base,I.loc,I.cell,I.free,I.freeC,fun p hp=>(List.mem_append.mp hp).elim (fun z=>I.pin p (List.mem_append_left _ z)) (h p),I.hok,I.len⟩
theorem Zd8 {N:List Str}(hN:N.Nodup) {i j:Nat}{x:Str}(a:N[i]? = some x) (b:N[j]? = some x):i=j:=by
 obtain ⟨h1,e1⟩:=List.getElem?_eq_some_iff.mp a
 obtain ⟨h2,e2⟩:=List.getElem?_eq_some_iff.mp b
 exact (List.getElem_inj hN).mp (e1.trans e2.symm)
theorem Zpe {M:Model}{A:Around}{E:Value->Shared->Prop}{i:Nat}{x:Str}{v:V}{u:Value}{Q:Unit->Shared->Prop}(I:Inv X pins σ H s) (hN:X.N.Nodup) (hi:X.N[i]? = some x) (hx:Loc X.env.scope x) (r:RelV v u)
  (h:∀ s',Inv X pins (σ.set i (some v)) H s'->(∃ a,Heap.SameBut a s.heap s'.heap/\(a=X.env.locals\/X.env.cells.lookup x=some a))->Q () s') (hf:X.fn x=true\/X.env.scope.names.lookup x=some .local:=by first | exact .inl rfl | exact .inr rfl | assumption):wpAny M A (storeName X.env x u) Q E s:=by
 obtain ⟨m,hn,hl⟩:=id I.loc
 have hcls:(X.env.scope.kind == .class || (X.env.scope.kind == .module && X.env.locals != X.env.globals))=false:=by rw [I.ok.kind]; rfl
 have hiσ:i < σ.length:=by rw [I.len]; exact (List.getElem?_eq_some_iff.mp hi).1
 have cne:=I.cne
 have tracked:∀ {a:Addr}{h':Heap},(∃ o,s.heap.get? a=some o/\H a=none)->Heap.SameBut a s.heap h'->HOk X.prog X.w H h':=fun {a h'} ha hs b ob e=>by
  obtain ⟨_,_,hfree⟩:=ha
  refine (I.hok b ob e).stay (fun c w' hc q=>(hs.2 c ?_).trans q) (fun _ q=>q) fun _ _ q=>q
  rintro rfl
  rcases hc with rfl | hc
  ·rw [hfree] at e; cases e
  ·rw [hfree] at hc; cases hc
 rcases hx with hk | hk
 ·refine wpAny_storeName_local hk hn (fun h' hn' hs=>?_) hcls
  obtain ⟨oL,_,_,hoL,_⟩:=id hn
  refine h _ ⟨I.ok,I.os,I.bare,⟨fun b o e n hb hx=>?_,fun b o e n hb hx=>?_,I.base.free,fun b o e hx=>?_,I.base.tups,I.base.frzs,I.base.tbls⟩,⟨_,hn',fun j y v' e1 e2 e3=>?_⟩,fun y c e=>?_,I.free,I.freeC,fun p hp=>?_,tracked ⟨oL,hoL,I.free⟩ hs,by simpa using I.len⟩ ⟨_,hs,.inl rfl⟩
  ·exact (hs.2 b (Nat.ne_of_lt (Nat.lt_of_lt_of_le (Heap.lt_size e) I.ok.above))).trans (I.base.keep b o e n hb hx)
  ·obtain ⟨sl,e1⟩:=I.base.slot b o e n hb hx
   exact ⟨sl,(hs.2 b (Nat.ne_of_lt (Nat.lt_of_lt_of_le (Heap.lt_size e) I.ok.above))).trans e1⟩
  ·obtain ⟨o',e1⟩:=I.base.there b o e hx
   exact ⟨o',(hs.2 b (Nat.ne_of_lt (Nat.lt_of_lt_of_le (Heap.lt_size e) I.ok.above))).trans e1⟩
  ·by_cases hj:j=i
   ·subst hj
    rw [hi] at e1; cases e1
    rw [List.getElem?_set_self hiσ] at e2
    cases e2
    exact ⟨u,r,.inl ⟨hk,by simp⟩⟩
   ·rw [List.getElem?_set_ne (Ne.symm hj)] at e2
    obtain ⟨u',r',q⟩:=hl j y v' e1 e2 e3
    refine ⟨u',r',?_⟩
    rcases q with ⟨k,e⟩ | ⟨k,c,e,z⟩
    ·refine .inl ⟨k,?_⟩
     have:y≠x:=fun e=>hj (Zd8 hN e1 (e▸hi))
     simp [this,e]
    ·exact .inr ⟨k,c,e,z.sameBut hs (cne y c e)⟩
  ·obtain ⟨w',z⟩:=I.cell y c e
   exact ⟨w',z.sameBut hs (cne y c e)⟩
  ·obtain ⟨e,n,ne,nf,d⟩:=I.pin p hp
   exact ⟨(hs.2 p.1 ne).trans e,n,ne,nf,d⟩
 ·have hfn:X.fn x=true:=by
   rcases hf with z | z
   ·exact z
   ·rw [z] at hk; cases hk
  obtain ⟨c,hc⟩:=I.ok.has x (.inl hk)
  obtain ⟨w',z⟩:=I.cell x c hc
  refine wpAny_storeName_cell I.ok.kind hk hc z (fun h' hc' hs=>?_)
  obtain ⟨oc,hoc,hocd⟩:=id z
  refine h {s with heap:=h' } ⟨I.ok,I.os,I.bare,⟨fun b o e n hb hx=>?_,fun b o e n hb hx=>?_,I.base.free,fun b o e hx=>?_,I.base.tups,I.base.frzs,I.base.tbls⟩,⟨m,hn.sameBut hs (Ne.symm (cne x c hc)),fun j y v' e1 e2 e3=>?_⟩,fun y c' e=>?_,I.free,I.freeC,fun p hp=>?_,tracked ⟨oc,hoc,I.freeC x c hc⟩ hs,by simpa using I.len⟩ ⟨c,hs,.inr hc⟩
  ·exact (hs.2 b (Nat.ne_of_lt (Nat.lt_of_lt_of_le (Heap.lt_size e) (I.ok.cab x c hfn hc)))).trans (I.base.keep b o e n hb hx)
  ·obtain ⟨sl,e1⟩:=I.base.slot b o e n hb hx
   exact ⟨sl,(hs.2 b (Nat.ne_of_lt (Nat.lt_of_lt_of_le (Heap.lt_size e) (I.ok.cab x c hfn hc)))).trans e1⟩
  ·obtain ⟨o',e1⟩:=I.base.there b o e hx
   exact ⟨o',(hs.2 b (Nat.ne_of_lt (Nat.lt_of_lt_of_le (Heap.lt_size e) (I.ok.cab x c hfn hc)))).trans e1⟩
  ·by_cases hj:j=i
   ·subst hj
    rw [hi] at e1; cases e1
    rw [List.getElem?_set_self hiσ] at e2
    cases e2
    exact ⟨u,r,.inr ⟨.inl hk,c,hc,hc'⟩⟩
   ·rw [List.getElem?_set_ne (Ne.symm hj)] at e2
    obtain ⟨u',r',q⟩:=hl j y v' e1 e2 e3
    refine ⟨u',r',?_⟩
    rcases q with q | ⟨k,c',e,z'⟩
    ·exact .inl q
    ·refine .inr ⟨k,c',e,z'.sameBut hs ?_⟩
     rintro rfl
     exact hj (Zd8 hN e1 (I.ok.inj _ _ _ e hc▸hi))
  ·by_cases hcc:c'=c
   ·subst hcc; exact ⟨_,hc'⟩
   ·obtain ⟨w2,z2⟩:=I.cell y c' e
    exact ⟨w2,z2.sameBut hs hcc⟩
  ·obtain ⟨e,n,ne,nf,d⟩:=I.pin p hp
   refine ⟨(hs.2 p.1 ?_).trans e,n,ne,nf,d⟩
   intro q
   rw [q,hoc] at e
   have q':oc=p.2:=Option.some.inj e
   exact d w' (by rw [← q']; exact hocd)
theorem U3 {M:Model}{A:Around}{E:Value->Shared->Prop}{i:Nat}{x:Str}{v:V}{u:Value}{Q:Unit->Shared->Prop}(I:Inv X pins σ H s) (hN:X.N.Nodup) (hi:X.N[i]? = some x) (hx:Loc X.env.scope x) (r:RelV v u)
  (h:∀ s',Inv X pins (σ.set i (some v)) H s'->Q () s') (hf:X.fn x=true\/X.env.scope.names.lookup x=some .local:=by first | exact .inl rfl | exact .inr rfl | assumption):wpAny M A (storeName X.env x u) Q E s :=
 Zpe I hN hi hx r (fun s' I' _=>h s' I') hf
theorem Inv.call' {s':Shared}{ch:List Addr}(I:Inv X pins σ H s) (ho:s'.os=s.os) (u:Un (frs X.stack) ch H H' s.heap s'.heap) (hok:HOk X.prog X.w H' s'.heap) (hg:AllBare s'.gens)
  (hch:∀ b∈ch,(b∈X.ex\/X.s₀.heap.objs.size<=b)/\b≠X.env.locals/\(∀ x c,X.env.cells.lookup x=some c->c≠b)/\∀ p∈X.pn++pins,p.1≠b):Inv X pins σ H' s':=by
 obtain ⟨h',g',d',t',o'⟩:=s'
 have e:o'=s.os:=ho
 subst e
 exact I.call (g':=g') (t':=t') (d':=d') u hok hg hch
end
abbrev XK:=Value->Option Addr->Hp->Prop
abbrev St:=List (Option V)
abbrev VK:=V->Hp->Prop
abbrev TE:=St->Hp->VK->Prop
abbrev TT:=St->Hp->(Bool->Hp->Prop)->Prop
abbrev TA:=St->Hp->(List V->Hp->Prop)->Prop
structure Ends where
 nx:St->Hp->Prop
 rt:VK
 bk:St->Hp->Prop:=fun _ _=>False
 ct:St->Hp->Prop:=fun _ _=>False
abbrev TS:=Ends->St->Hp->Prop
def EP (X:Cx) (pins:List (Addr×Obj)) (σ:St) (Q:VK) (u:Value) (s':Shared):Prop:=∃ v H',Inv X pins σ H' s'/\RelV v u/\Q v H'
def TP (X:Cx) (pins:List (Addr×Obj)) (σ:St) (Q:Bool->Hp->Prop) (b:Bool) (s':Shared):Prop:=∃ H',Inv X pins σ H' s'/\Q b H'
def AP (X:Cx) (pins:List (Addr×Obj)) (σ:St) (Q:List V->Hp->Prop) (us:List Value) (s':Shared):Prop:=∃ vs H',Inv X pins σ H' s'/\Vals vs us/\Q vs H'
def SP (X:Cx) (pins:List (Addr×Obj)) (D:Ends) (f:Flow) (s':Shared):Prop :=
 match f with
 | .next=>∃ σ' H',Inv X pins σ' H' s'/\D.nx σ' H'
 | .brk=>∃ σ' H',Inv X pins σ' H' s'/\D.bk σ' H'
 | .cont=>∃ σ' H',Inv X pins σ' H' s'/\D.ct σ' H'
 | .ret u=>∃ v σ' H',Inv X pins σ' H' s'/\RelV v u/\D.rt v H'
def PE (X:Cx) (e:Expr) (t:TE):Prop :=
 ∀ (pins:List (Addr×Obj)) (s:Shared) (σ:St) (H:Hp) (Q:VK),Inv X pins σ H s->t σ H Q->wpAny (model X.prog X.w) X.A (eval e X.env) (EP X pins σ Q) X.xe s
def PT (X:Cx) (e:Expr) (t:TT):Prop :=
 ∀ (pins:List (Addr×Obj)) (s:Shared) (σ:St) (H:Hp) (Q:Bool->Hp->Prop),Inv X pins σ H s->t σ H Q->wpAny (model X.prog X.w) X.A (isTrue e X.env (eval e X.env)) (TP X pins σ Q) X.xe s
def PW (X:Cx) (e:Expr) (t:TT):Prop :=
 ∀ (whole:Sem Value) (pins:List (Addr×Obj)) (s:Shared) (σ:St) (H:Hp) (Q:Bool->Hp->Prop),Inv X pins σ H s->t σ H Q->wpAny (model X.prog X.w) X.A (isTrue e X.env whole) (TP X pins σ Q) X.xe s
theorem PW.pt {X:Cx}{e:Expr}{t:TT}(h:PW X e t):PT X e t:=h _
def PA (X:Cx) (es:List Expr) (t:TA):Prop :=
 ∀ (pos:Pos) (pins:List (Addr×Obj)) (s:Shared) (σ:St) (H:Hp) (Q:List V->Hp->Prop),Inv X pins σ H s->t σ H Q->wpAny (model X.prog X.w) X.A (spliced (backTo pos (starEach es X.env))) (AP X pins σ Q) X.xe s
def PS (X:Cx) (st:Stmt) (t:TS):Prop :=
 ∀ (pins:List (Addr×Obj)) (s:Shared) (σ:St) (H:Hp) (D:Ends),Inv X pins σ H s->t D σ H->wpAny (model X.prog X.w) X.A (exec st X.env) (SP X pins D) X.xe s
def PSs (X:Cx) (st:List Stmt) (t:TS):Prop :=
 ∀ (pins:List (Addr×Obj)) (s:Shared) (σ:St) (H:Hp) (D:Ends),Inv X pins σ H s->t D σ H->wpAny (model X.prog X.w) X.A (execs st X.env) (SP X pins D) X.xe s
theorem thn {α:Type}{t:Sem α}{Q Q' : α->Shared->Prop}{M:Model}{A:Around}{E:Value->Shared->Prop}{s:Shared}(h:wpAny M A t Q E s) (hQ:∀ a s,Q a s->Q' a s):wpAny M A t Q' E s:=wpAny_mono h hQ fun _ _ x=>x
end L2
namespace L2
open PySem PySem.Spec PyProof.Rows
section
variable {X:Cx}
def Ym (i:Nat):TE:=fun σ H Q=>∃ v,σ[i]? = some (some v)/\Q v H
def tC (v:V):TE:=fun _ H Q=>Q v H
theorem Zcn {i:Nat}{x:Str}{pos:Pos}(hN:X.N[i]? = some x) (hv:Vis X.env.scope x) (hd:(x == ("__debug__" : Str))=false:=by decide) (hcd:(x == ("__classdict__" : Str))=false:=by decide):PE X (.Name x pos) (Ym i):=by
 intro pins s σ H Q I h
 obtain ⟨v,e,h⟩:=h
 obtain ⟨m,hn,hl⟩:=I.loc
 obtain ⟨u,r,l⟩:=hl i x v hN e hv
 have fin:EP X pins σ Q u s:=⟨v,H,I,r,h⟩
 rcases l with ⟨hk,hm⟩ | ⟨hk,c,hc,hcell⟩
 ·exact wpAny_Name (wpAny_loadName_local I.ok.kind hk hn hm fin) hd
 ·rcases hk with hk | hk
  ·exact wpAny_Name (wpAny_loadName_cell I.ok.kind hk hc hcell fin) hd
  ·exact wpAny_Name (wpAny_loadName_free I.ok.kind hk hc hcell fin hcd) hd
theorem Zto {i j pos}:PE X (.Constant (.int i) j pos) (tC (.int i)):=fun _ _ _ H _ I h=>wpAny_Constant_int ⟨.int i,H,I.tok _,⟨_,rfl⟩,h⟩
theorem Zu9 {b j pos}:PE X (.Constant (.bool b) j pos) (tC (.bl b)):=fun _ _ _ H _ I h=>Constant_bool ⟨.bl b,H,I,rfl,h⟩
theorem Ztp {j pos}:PE X (.Constant .none j pos) (tC .non):=fun _ _ _ H _ I h=>Constant_none ⟨.non,H,I,rfl,h⟩
theorem Ztq {x j pos}:PE X (.Constant (.str x) j pos) (tC (.str x)):=fun _ _ _ H _ I h=>Calls.Constant_str ⟨.str x,H,I.tok _,⟨_,rfl⟩,h⟩
def Gl (X:Cx) (x:Str):Prop:=X.env.kindOf x=some .globalImplicit
theorem U6 {E:Value->Shared->Prop}{pins:List (Addr×Obj)}{s:Shared}{σ:St}{H:Hp}{x:Str}{u:Value}{pos:Pos}{Q:Value->Shared->Prop}(I:Inv X pins σ H s) (hg:Gl X x) (hm:X.mg x=some u) (h:Q u s)
  (hd:(x == ("__debug__" : Str))=false:=by decide):wpAny (model X.prog X.w) X.A (eval (.Name x pos) X.env) Q E s :=
 Calls.Name_function_global I.ok.kind hg (Calls.loadGlobal_global (by rw [I.ok.glob]; exact I.mod.glob.keeps I.bk) hm h) hd
theorem Ud {E:Value->Shared->Prop}{pins:List (Addr×Obj)}{s:Shared}{σ:St}{H:Hp}{x:Str}{u:Value}{pos:Pos}{Q:Value->Shared->Prop}(I:Inv X pins σ H s) (hg:Gl X x) (hm:X.mg x=none) (hv:bootBuiltins x=some u) (h:Q u s)
  (hn:x ≠ "__name__" := by decide) (hd:(x == ("__debug__" : Str))=false:=by decide):wpAny (model X.prog X.w) X.A (eval (.Name x pos) X.env) Q E s:=by
 obtain ⟨mb,h1,h2⟩:=I.mod.blt
 exact Calls.Name_function_global I.ok.kind hg (Calls.loadGlobal_builtin (by rw [I.ok.glob]; exact I.mod.glob.keeps I.bk) hm (by rw [I.ok.blt]; exact h1.keeps I.bk) ((h2 x hn).trans hv) h) hd
theorem Zrx {x:Str}{v:V}{u:Value}{pos:Pos}(hg:Gl X x) (hm:X.mg x=some u) (r:RelV v u) (hd:(x == ("__debug__" : Str))=false:=by decide):PE X (.Name x pos) (tC v) :=
 fun _ _ _ H _ I h=>U6 I hg hm ⟨v,H,I,r,h⟩ hd
theorem Zry {x:Str}{v:V}{u:Value}{pos:Pos}(hg:Gl X x) (hm:X.mg x=none) (hv:bootBuiltins x=some u) (r:RelV v u) (hn:x ≠ "__name__" := by decide) (hd:(x == ("__debug__" : Str))=false:=by decide):PE X (.Name x pos) (tC v) :=
 fun _ _ _ H _ I h=>Ud I hg hm hv ⟨v,H,I,r,h⟩ hn hd
variable {a b:Expr}{ta tb:TE}{pos:Pos}
def tB (t:TE):TT:=fun σ H Q=>t σ H fun x H1=>∃ c,x = .bl c/\Q c H1
theorem Ztr {e:Expr}{t:TE}(h:PE X e t) (he:∀ whole,isTrue e X.env whole=(do let v ← whole; standAt e.pos; holding [v] (truthy v)):=by intro _; rfl):PT X e (tB t):=by
 intro pins s σ H Q I hw
 refine isTrue_plain (thn (h pins s σ H _ I hw) fun v s1 ⟨x,H1,I1,r1,q1⟩=>?_) (he _)
 obtain ⟨d,rfl,q⟩:=q1
 cases r1
 exact wpAny_truthy_bool ⟨H1,I1,q⟩
variable {tA tB':TT}{rest:List Expr}
def Zmj (t u:TT):TT:=fun σ H Q=>t σ H fun c H1=>if c=true then u σ H1 Q else Q false H1
def tOr (t u:TT):TT:=fun σ H Q=>t σ H fun c H1=>if c=true then Q true H1 else u σ H1 Q
def Zmk (t:TT):TT:=fun σ H Q=>t σ H fun c H1=>Q (!c) H1
theorem Zrz (ha:PT X a tA):PW X (.BoolOp .And [a] pos) tA:=by
 intro wh pins s σ H Q I h
 refine isTrue_and (thn (ha pins s σ H Q I h) fun c s1 e=>?_)
 cases c with
 | true=>exact isTrue_and_nil e
 | false=>exact e
theorem Zts (ha:PT X a tA):PW X (.BoolOp .Or [a] pos) tA:=by
 intro wh pins s σ H Q I h
 refine isTrue_or (thn (ha pins s σ H Q I h) fun c s1 e=>?_)
 cases c with
 | false=>exact isTrue_or_nil e
 | true=>exact e
theorem Ztt (ha:PT X a tA) (hb:PW X (.BoolOp .And (b::rest) pos) tB'):PW X (.BoolOp .And (a::b::rest) pos) (Zmj tA tB'):=by
 intro wh pins s σ H Q I h
 refine isTrue_and (thn (ha pins s σ H _ I h) fun c s1 ⟨H1,I1,q1⟩=>?_)
 cases c with
 | true=>exact hb wh pins s1 σ H1 Q I1 q1
 | false=>exact ⟨H1,I1,q1⟩
theorem Zva (ha:PT X a tA) (hb:PW X (.BoolOp .Or (b::rest) pos) tB'):PW X (.BoolOp .Or (a::b::rest) pos) (tOr tA tB'):=by
 intro wh pins s σ H Q I h
 refine isTrue_or (thn (ha pins s σ H _ I h) fun c s1 ⟨H1,I1,q1⟩=>?_)
 cases c with
 | true=>exact ⟨H1,I1,q1⟩
 | false=>exact hb wh pins s1 σ H1 Q I1 q1
theorem Ztu (ha:PT X a tA):PT X (.UnaryOp .Not a pos) (Zmk tA):=by
 intro pins s σ H Q I h
 exact isTrue_not (ha pins s σ H (fun c H1=>Q (!c) H1) I h)
def Zk7 (ta tb:TE):TE:=fun σ H Q=>ta σ H fun x H1=>∃ c,x = .bl c/\if c=true then tb σ H1 Q else Q (.bl false) H1
def Zml (ta tb:TE):TE:=fun σ H Q=>ta σ H fun x H1=>∃ c,x = .bl c/\if c=true then Q (.bl true) H1 else tb σ H1 Q
def Zk8 (ta:TE):TE:=fun σ H Q=>ta σ H fun x H1=>∃ c,x = .bl c/\Q (.bl (!c)) H1
theorem Ztv {op} {t:TE}(h:PE X a t):PE X (.BoolOp op [a] pos) t:=fun pins s σ H Q I hw=>BoolOp_one (h pins s σ H Q I hw)
theorem Ztw (ha:PE X a ta) (hb:PE X (.BoolOp .And (b::rest) pos) tb):PE X (.BoolOp .And (a::b::rest) pos) (Zk7 ta tb):=by
 intro pins s σ H Q I h
 refine BoolOp_and (thn (ha pins s σ H _ I h) fun v s1 ⟨x,H1,I1,r1,q1⟩=>?_)
 obtain ⟨c,rfl,q1⟩:=q1
 cases r1
 refine wpAny_truthy_bool ?_
 cases c with
 | true=>exact hb pins s1 σ H1 Q I1 q1
 | false=>exact ⟨.bl false,H1,I1,rfl,q1⟩
theorem Zvb (ha:PE X a ta) (hb:PE X (.BoolOp .Or (b::rest) pos) tb):PE X (.BoolOp .Or (a::b::rest) pos) (Zml ta tb):=by
 intro pins s σ H Q I h
 refine BoolOp_or (thn (ha pins s σ H _ I h) fun v s1 ⟨x,H1,I1,r1,q1⟩=>?_)
 obtain ⟨c,rfl,q1⟩:=q1
 cases r1
 refine wpAny_truthy_bool ?_
 cases c with
 | false=>exact hb pins s1 σ H1 Q I1 q1
 | true=>exact ⟨.bl true,H1,I1,rfl,q1⟩
theorem Ztx (ha:PE X a ta):PE X (.UnaryOp .Not a pos) (Zk8 ta):=by
 intro pins s σ H Q I h
 refine UnaryOp_ (thn (ha pins s σ H _ I h) fun v s1 ⟨x,H1,I1,r1,q1⟩=>?_)
 obtain ⟨c,rfl,q1⟩:=q1
 cases r1
 exact not_of (wpAny_truthy_bool ⟨.bl (!c),H1,I1,rfl,q1⟩)
end
end L2
namespace L2
open PySem PySem.Spec PyProof.Rows
def SqL (K:PySem.W.Frag) (H:Hp) (a:Addr) (xs:List V):Prop :=
 Rd H a (.lst xs) \/
  ∃ (o:Obj) (its:Array Value) (n:Nat),K.lookup a=some o/\o.cls = .type "list" /\ o.dict=none/\o.data = .seq its n/\its.size<=sizeLine/\Vals xs its.toList
def SqT (K:PySem.W.Frag) (H:Hp) (a:Addr) (xs:List V):Prop :=
 Rd H a (.tup xs) \/
  ∃ (o:Obj) (its:Array Value) (n:Nat),K.lookup a=some o/\o.cls = .type "tuple" /\ o.data = .seq its n/\its.size<=sizeLine/\Vals xs its.toList
def Zzp:Value->Option V
 | .none=>some .non
 | .bool b=>some (.bl b)
 | .int i _=>some (.int i)
 | .str x _=>some (.str x)
 | .bytes b _=>some (.byt b)
 | .float b _=>some (.flt b)
 | .ref a=>some (.ref a)
 | .type n=>some (.ty n)
 | _=>none
theorem RelV.abs {x:V}{u:Value}(r:RelV x u):Zzp u=some x:=by
 cases x with
 | non=>cases r; rfl
 | bl _=>cases r; rfl
 | int _=>obtain ⟨t,rfl⟩:=r; rfl
 | str _=>obtain ⟨t,rfl⟩:=r; rfl
 | byt _=>obtain ⟨t,rfl⟩:=r; rfl
 | flt _=>obtain ⟨t,rfl⟩:=r; rfl
 | ref _=>cases r; rfl
 | ty _=>cases r; rfl
theorem RelV.inj {x y:V}{u:Value}(r:RelV x u) (q:RelV y u):x=y:=Option.some.inj (r.abs.symm.trans q.abs)
theorem Vals.inj:∀ {xs ys:List V}{us:List Value},Vals xs us->Vals ys us->xs=ys
 | _,_,_,.nil,.nil=>rfl
 | _,_,_,.cons r t,.cons r' t'=>by rw [r.inj r',Vals.inj t t']
section
variable {X:Cx}{pins:List (Addr×Obj)}{σ:St}{H:Hp}{s:Shared}{a:Addr}{xs ys:List V}
theorem SqL.of {K:PySem.W.Frag}(h:H a=some (.lst xs)):SqL K H a xs:=.inl (.inl h)
theorem SqT.of {K:PySem.W.Frag}(h:H a=some (.tup xs)):SqT K H a xs:=.inl (.inl h)
theorem Inv.list (I:Inv X pins σ H s) (h:SqL X.K H a xs):∃ its:List Value,Vals xs its/\PlainL s.heap a its.toArray/\xs.length<=sizeLine:=by
 rcases h with h | ⟨o,its,n,hk,hc,hd,hs,hz,r⟩
 ·obtain ⟨z,its,n,r,e⟩:=h.ok I.hok
  exact ⟨its,r,⟨_,n,e,rfl,rfl,rfl⟩,z⟩
 ·refine ⟨its.toList,r,⟨o,n,I.kIn a o hk,hc,hd,by simpa using hs⟩,?_⟩
  have e:=r.length
  simp only [Array.length_toList] at e
  lia
theorem Inv.tuple (I:Inv X pins σ H s) (h:SqT X.K H a xs):∃ its:List Value,Vals xs its/\IsTup s.heap a its.toArray/\xs.length<=sizeLine:=by
 rcases h with h | ⟨o,its,n,hk,hc,hs,hz,r⟩
 ·obtain ⟨z,its,r,p⟩:=h.ok I.hok
  exact ⟨its,r,p,z⟩
 ·refine ⟨its.toList,r,⟨o,I.kIn a o hk,hc,n,by simpa using hs⟩,?_⟩
  have e:=r.length
  simp only [Array.length_toList] at e
  lia
theorem Inv.list_inj (I:Inv X pins σ H s) (h:SqL X.K H a xs) (h':SqL X.K H a ys):xs=ys:=by
 obtain ⟨its,r,⟨o,n,e,_,_,d⟩,_⟩:=I.list h
 obtain ⟨its',r',⟨o',n',e',_,_,d'⟩,_⟩:=I.list h'
 rw [e] at e'; cases e'
 rw [d] at d'
 injection d' with d1 _
 have:its=its':=by simpa using congrArg Array.toList d1
 subst this
 exact r.inj r'
theorem Inv.tuple_inj (I:Inv X pins σ H s) (h:SqT X.K H a xs) (h':SqT X.K H a ys):xs=ys:=by
 obtain ⟨its,r,⟨o,e,_,n,d⟩,_⟩:=I.tuple h
 obtain ⟨its',r',⟨o',e',_,n',d'⟩,_⟩:=I.tuple h'
 rw [e] at e'; cases e'
 rw [d] at d'
 injection d' with d1 _
 have:its=its':=by simpa using congrArg Array.toList d1
 subst this
 exact r.inj r'
end
abbrev Cx.wish (X:Cx) (E:Value->Shared->Prop):Cx:={X with xe:=E }
abbrev Cx.nox (X:Cx):Cx:=X.wish fun _ _=>False
theorem Cx.Ok.wish {X:Cx}(ok:X.Ok) (E:Value->Shared->Prop):(X.wish E).Ok :=
 ⟨ok.mod,ok.kind,ok.glob,ok.blt,ok.above,ok.inj,ok.has,ok.cab,ok.hd,ok.frames,ok.stk,ok.exf,ok.bs,ok.bsz,ok.noex,ok.exfs,ok.funs,ok.frf⟩
theorem Cx.Ok.unwish {X:Cx}{E:Value->Shared->Prop}(ok:(X.wish E).Ok):X.Ok :=
 ⟨ok.mod,ok.kind,ok.glob,ok.blt,ok.above,ok.inj,ok.has,ok.cab,ok.hd,ok.frames,ok.stk,ok.exf,ok.bs,ok.bsz,ok.noex,ok.exfs,ok.funs,ok.frf⟩
section
variable {X:Cx}{pins:List (Addr×Obj)}{σ:St}{H:Hp}{s:Shared}{E:Value->Shared->Prop}
theorem Inv.wish (I:Inv X pins σ H s) (E:Value->Shared->Prop):Inv (X.wish E) pins σ H s:=⟨I.ok.wish E,I.os,I.bare,I.base,I.loc,I.cell,I.free,I.freeC,I.pin,I.hok,I.len⟩
theorem Inv.unwish (I:Inv (X.wish E) pins σ H s):Inv X pins σ H s:=⟨I.ok.unwish,I.os,I.bare,I.base,I.loc,I.cell,I.free,I.freeC,I.pin,I.hok,I.len⟩
theorem SP.unwish {D:Ends}{f:Flow}{s':Shared}(h:SP (X.wish E) pins D f s'):SP X pins D f s':=by
 cases f with
 | next=>obtain ⟨σ',H',I,q⟩:=h; exact ⟨σ',H',I.unwish,q⟩
 | brk=>obtain ⟨σ',H',I,q⟩:=h; exact ⟨σ',H',I.unwish,q⟩
 | cont=>obtain ⟨σ',H',I,q⟩:=h; exact ⟨σ',H',I.unwish,q⟩
 | ret u=>obtain ⟨v,σ',H',I,r,q⟩:=h; exact ⟨v,σ',H',I.unwish,r,q⟩
theorem PSs.nox {st:List Stmt}{t:TS}(h:PSs X.nox st t):PSs X st t:=fun pins s σ H D I hw =>
 wpAny_mono (h pins s σ H D (I.wish _) hw) (fun _ _ q=>q.unwish) fun _ _ z=>False.elim z
end
section
variable {X:Cx}{st:Stmt}{rest:List Stmt}{t u:TS}{e:Expr}{te:TE}{pos:Pos}
def Zk:TS:=fun D σ H=>D.nx σ H
def Vn (t u:TS):TS:=fun D σ H=>t {D with nx:=u D } σ H
theorem Zr0:PSs X [] Zk:=fun _ _ σ H _ I h=>wpAny_execs_nil ⟨σ,H,I,h⟩
theorem Zp8 (h1:PS X st t) (h2:PSs X rest u):PSs X (st::rest) (Vn t u):=by
 intro pins s σ H D I h
 refine wpAny_execs_cons (thn (h1 pins s σ H {D with nx:=u D } I h) fun f s1 q=>?_)
 cases f with
 | next =>
  obtain ⟨σ',H',I',q⟩:=q
  exact h2 pins s1 σ' H' D I' q
 | ret v=>exact q
 | brk=>exact q
 | cont=>exact q
theorem Zr1 (h1:PS X st t):PSs X [st] t:=by
 intro pins s σ H D I h
 refine wpAny_execs_cons (thn (h1 pins s σ H D I h) fun f s1 q=>?_)
 cases f with
 | next=>exact wpAny_execs_nil q
 | ret v=>exact q
 | brk=>exact q
 | cont=>exact q
theorem Inv.quiet {pins:List (Addr×Obj)}{σ:St}{H:Hp}{s:Shared}(I:Inv X pins σ H s):interactive X.env=false:=by simp [interactive,I.ok.kind]
def Zcz (te:TE):TS:=fun D σ H=>te σ H fun _ H1=>D.nx σ H1
theorem Zr2 (he:PE X e te) (hs:swapsWith e none pos.line X.env=pure false:=by rfl):PS X (.Expr e pos) (Zcz te):=by
 intro pins s σ H D I h
 exact wpAny_Expr_any (thn (he pins s σ H _ I h) fun v s1 ⟨x,H1,I1,r1,q1⟩=>⟨σ,H1,I1,q1⟩) I.quiet hs
def Zmm (te:TE):TS:=fun D σ H=>te σ H D.rt
theorem Zty (he:PE X e te):PS X (.Return (some e) pos) (Zmm te):=by
 intro pins s σ H D I h
 exact wpAny_Return_some (thn (he pins s σ H _ I h) fun v s1 ⟨x,H1,I1,r1,q1⟩=>⟨x,σ,H1,I1,r1,q1⟩)
def Zgj (c:TT) (t u:TS):TS:=fun D σ H=>c σ H fun b H1=>if b=true then t D σ H1 else u D σ H1
theorem Zvc {c:Expr}{a b:List Stmt}{tc:TT}(hc:PT X c tc) (ha:PSs X a t) (hb:PSs X b u):PS X (.If c a b pos) (Zgj tc t u):=by
 intro pins s σ H D I h
 refine wpAny_If (thn (hc pins s σ H _ I h) fun d s1 ⟨H1,I1,q1⟩=>?_)
 cases d with
 | true=>exact ha pins s1 σ H1 D I1 q1
 | false=>exact hb pins s1 σ H1 D I1 q1
end
abbrev TG:=V->St->Hp->(St->Hp->Prop)->Prop
abbrev TGs:=List V->St->Hp->(St->Hp->Prop)->Prop
def PG (X:Cx) (target:Expr) (t:TG):Prop :=
 ∀ (pins:List (Addr×Obj)) (s:Shared) (σ:St) (H:Hp) (v:V) (u:Value) (Q:St->Hp->Prop),Inv X pins σ H s->RelV v u->t v σ H Q ->
  wpAny (model X.prog X.w) X.A (assign target X.env u) (fun _ s'=>∃ σ' H',Inv X pins σ' H' s'/\Q σ' H') X.xe s
def PGs (X:Cx) (ts:List Expr) (t:TGs):Prop :=
 ∀ (pins:List (Addr×Obj)) (s:Shared) (σ:St) (H:Hp) (vs:List V) (us:List Value) (Q:St->Hp->Prop),Inv X pins σ H s->Vals vs us->t vs σ H Q ->
  wpAny (model X.prog X.w) X.A (assignInOrder ((assignEach ts X.env).map (·.2)) us) (fun _ s'=>∃ σ' H',Inv X pins σ' H' s'/\Q σ' H') X.xe s
abbrev Zbo:=V->V->V->Hp->(Hp->Prop)->Prop
def Zgk (X:Cx) (t:Zbo):Prop :=
 ∀ (pins:List (Addr×Obj)) (s:Shared) (σ:St) (H:Hp) (o i v:V) (ov iv u:Value) (Q:Hp->Prop),Inv X pins σ H s->RelV o ov->RelV i iv->RelV v u->t o i v H Q ->
  wpAny (model X.prog X.w) X.A (setItem ov iv u) (fun _ s'=>∃ H',Inv X pins σ H' s'/\Q H') X.xe s
abbrev TIp:=V->V->Hp->VK->Prop
def PIp (X:Cx) (op:Operator) (t:TIp):Prop :=
 ∀ (pins:List (Addr×Obj)) (s:Shared) (σ:St) (H:Hp) (x y:V) (v u:Value) (Q:VK),Inv X pins σ H s->RelV x v->RelV y u->t x y H Q ->
  wpAny (model X.prog X.w) X.A (inplaceOp op v u) (EP X pins σ Q) X.xe s
section
variable {X:Cx}{pos:Pos}
def Yn (i:Nat):TG:=fun v σ H Q=>Q (σ.set i (some v)) H
theorem Zi7 {i:Nat}{x:Str}(hN:X.N.Nodup) (hi:X.N[i]? = some x) (hx:Loc X.env.scope x) (hf:X.fn x=true\/X.env.scope.names.lookup x=some .local:=by first | exact .inl rfl | exact .inr rfl | assumption):PG X (.Name x pos) (Yn i):=by
 intro pins s σ H v u Q I r h
 exact wpAny_assign_Name (U3 I hN hi hx r (fun s' I'=>⟨_,H,I',h⟩) hf)
def Zmn:TGs:=fun vs σ H Q=>vs = []/\Q σ H
def Zk9 (t:TG) (u:TGs):TGs:=fun vs σ H Q=>∃ v r,vs=v::r/\t v σ H fun σ' H'=>u r σ' H' Q
theorem Zr3:PGs X [] Zmn:=by
 intro pins s σ H vs us Q I r h
 obtain ⟨e,h⟩:=h
 subst e
 cases r
 exact assignInOrder_nil ⟨σ,H,I,h⟩
theorem Zp9 {e:Expr}{es:List Expr}{t:TG}{u:TGs}(h1:PG X e t) (h2:PGs X es u)
  (hs:(assignEach (e::es) X.env).map (·.2)=assign e X.env::(assignEach es X.env).map (·.2):=by rfl):PGs X (e::es) (Zk9 t u):=by
 intro pins s σ H vs us Q I r h
 obtain ⟨v,vr,e1,h⟩:=h
 subst e1
 cases r with
 | cons r rr =>
  rw [hs]
  refine assignInOrder_cons (thn (h1 pins s σ H _ _ _ I r h) fun _ s1 ⟨σ1,H1,I1,q1⟩=>?_)
  exact h2 pins s1 σ1 H1 _ _ Q I1 rr q1
def Zgl (K:PySem.W.Frag) (n:Nat) (t:TGs):TG:=fun v σ H Q=>∃ a xs,v = .ref a/\SqT K H a xs/\xs.length=n/\t xs σ H Q
theorem Zka {es:List Expr}{k:Nat}{t:TGs}{n:Nat}(hc:X.calm=true) (h:PGs X es t)
  (hn:(assignEach es X.env).length=n:=by rfl) (hst:(assignEach es X.env).findIdx? (·.1)=none:=by rfl):PG X (.Tuple es k pos) (Zgl X.K n t):=by
 intro pins s σ H v u Q I r hw
 obtain ⟨a,xs,e1,hq,hl,hw⟩:=hw
 subst e1
 cases r
 obtain ⟨its,rv,ht,hz⟩:=I.tuple hq
 refine assign_Tuple_tuple (I.ok.hd hc) ht (by simp [hn,← hl,rv.length]) hst fun h' hx=>?_
 have I1:Inv X pins σ H {s with heap:=h' }:=I.kept (t':=s.toks) fun b o e=>hx b o (Nat.ne_of_lt (Heap.lt_size e)) e
 exact h pins _ σ H xs _ Q I1 (by simpa using rv) hw
def Zmo (to ti:TE) (t:Zbo):TG:=fun v σ H Q=>to σ H fun o H1=>ti σ H1 fun i H2=>t o i v H2 fun H3=>Q σ H3
theorem Ztz {o i:Expr}{to ti:TE}{t:Zbo}(ho:PE X o to) (hi:PE X i ti) (hs:Zgk X t)
  (ha:∀ v,assign (.Subscript o i pos) X.env v=(do
   let ov ← holding [v] (eval o X.env)
   let iv ← holding [v,ov] (eval i X.env)
   standAt pos
   holding [v,ov,iv] (setItem ov iv v)
   release [v,ov,iv] []):=by intro _; rfl):PG X (.Subscript o i pos) (Zmo to ti t):=by
 intro pins s σ H v u Q I r h
 rw [ha]
 refine wpAny_bind (wpAny_holding (thn (ho pins s σ H _ I h) fun ov s1 ⟨x,H1,I1,r1,q1⟩=>?_))
 refine wpAny_bind (wpAny_holding (thn (hi pins s1 σ H1 _ I1 q1) fun iv s2 ⟨y,H2,I2,r2,q2⟩=>?_))
 refine wpAny_bind (wpAny_standAt (wpAny_bind (wpAny_holding (thn (hs pins s2 σ H2 x y v ov iv u _ I2 r1 r2 r q2) fun _ s3 ⟨H3,I3,q3⟩=>?_))))
 exact wpAny_release ⟨σ,H3,I3,q3⟩
def Wk (te:TE) (g:TG):TS:=fun D σ H=>te σ H fun x H1=>g x σ H1 D.nx
theorem Zt0 {tg e:Expr}{te:TE}{g:TG}(he:PE X e te) (hg:PG X tg g) (hs:swapsWithSole [tg] e pos.line X.env=pure false:=by rfl) (hw:swappedStores [tg] e X.env=pure none:=by rfl)
  (h1:(assignEach [tg] X.env).map (·.2) = [assign tg X.env]:=by rfl):PS X (.Assign [tg] e pos) (Wk te g):=by
 intro pins s σ H D I h
 refine wpAny_Assign_stores (thn (he pins s σ H _ I h) fun v s1 ⟨x,H1,I1,r1,q1⟩=>?_) hs hw
 rw [h1]
 exact thn (hg pins s1 σ H1 x v _ I1 r1 q1) fun _ s2 q=>q
theorem Zkb {i:Nat}{x:Str}{e:Expr}{te:TE}{pos':Pos}(hN:X.N.Nodup) (hi:X.N[i]? = some x) (hx:Loc X.env.scope x) (he:PE X e te) (hs:swapsWith e (some (.Name x pos')) pos.line X.env=pure false:=by rfl) (hf:X.fn x=true\/X.env.scope.names.lookup x=some .local:=by first | exact .inl rfl | exact .inr rfl | assumption) :
  PS X (.Assign [.Name x pos'] e pos) (Wk te (Yn i)):=by
 intro pins s σ H D I h
 refine wpAny_Assign_Name (thn (he pins s σ H _ I h) fun v s1 ⟨y,H1,I1,r1,q1⟩=>?_) hs
 exact U3 I1 hN hi hx r1 (fun s2 I2=>⟨_,H1,I2,q1⟩) hf
end
section
variable {X:Cx}{pos:Pos}
end
structure It where
 go:Nat->Hp->Prop
 yld:Nat->Hp->V->Hp->Prop
 stop:Nat->Hp->Prop
def Wg (X:Cx) (pins:List (Addr×Obj)) (H:Hp) (b:Addr):Prop :=
 H b=none/\b≠X.env.locals/\b∉X.fs/\(b∈X.ex\/X.s₀.heap.objs.size<=b)/\(∀ x c,X.env.cells.lookup x=some c->c≠b)/\∀ p∈X.pn++pins,p.1≠b
theorem Inv.fpOk {X:Cx}{pins:List (Addr×Obj)}{σ:St}{H H':Hp}{s:Shared}{b:Addr}(I:Inv X pins σ H s) (hb:s.heap.objs.size<=b) (hn:H' b=none):Wg X pins H' b:=by
 refine ⟨hn,Nat.ne_of_gt (Nat.lt_of_lt_of_le I.lt hb),I.nofs hb,.inr (Nat.le_trans I.sz hb),fun x c e z=>?_,fun p hp z=>?_⟩
 ·obtain ⟨v,q⟩:=I.cell x c e
  exact absurd (Nat.lt_of_lt_of_le q.lt (by rw [z]; exact hb)) (Nat.lt_irrefl _)
 ·exact absurd (Nat.lt_of_lt_of_le (Heap.lt_size (I.pin p hp).1) (by rw [z]; exact hb)) (Nat.lt_irrefl _)
structure Turn (P:Program) (w:World) (K:PySem.W.Frag) (tg:Expr) (J:It) (fp:List Addr) (it:Addr) (tn:Nat->Heap->Prop):Prop where
 mem:it∈fp
 obj:∀ i h,tn i h->∀ b∈fp,∃ o,h.get? b=some o/\∀ v,o.data ≠ .cell v
 keep:∀ i h h',tn i h->(∀ b∈fp,∀ o,h.get? b=some o->h'.get? b=some o)->tn i h'
 item:∀ (X:Cx),X.prog=P->X.w=w->X.K=K->X.calm=true->∀ (i:Nat) (pins:List (Addr×Obj)) (s:Shared) (σ:St) (H:Hp) (E:Value->Shared->Prop),Inv X pins σ H s->(∀ b∈fp,Wg X pins H b)->tn i s.heap->J.go i H ->
  wpAny (model P w) X.A (pyNext (.ref it)) (fun r s1=>∃ u,r=some u /\
   wpAny (model P w) X.A (letOwnedTupleGo tg (.ref it) u) (fun _ s2=>∃ x H',Inv X pins σ H' s2/\RelV x u/\J.yld i H x H'/\tn (i+1) s2.heap/\∀ b∈fp,H' b=none) E s1) E s
 done:∀ (X:Cx),X.prog=P->X.w=w->X.K=K->X.calm=true->∀ (i:Nat) (pins:List (Addr×Obj)) (s:Shared) (σ:St) (H:Hp) (E:Value->Shared->Prop),Inv X pins σ H s->(∀ b∈fp,Wg X pins H b)->tn i s.heap->J.stop i H ->
  wpAny (model P w) X.A (pyNext (.ref it)) (fun r s1=>r=none/\Inv X pins σ H s1) E s
 self:∀ (A:Around) (i:Nat) (s:Shared) (Q:Value->Shared->Prop) (E:Value->Shared->Prop),tn i s.heap->Q (.ref it) s->wpAny (model P w) A (pyIter (.ref it)) Q E s
abbrev TI:=St->Hp->(It->Hp->Prop)->Prop
def PIE (X:Cx) (pins:List (Addr×Obj)) (σ:St) (tg:Expr) (R:It->Hp->Prop) (itv:Value) (s2:Shared):Prop :=
 ∃ (it:Addr) (fp:List Addr) (tn:Nat->Heap->Prop) (J:It) (H':Hp),itv = .ref it/\Inv X pins σ H' s2/\Turn X.prog X.w X.K tg J fp it tn/\tn 0 s2.heap/\(∀ b∈fp,Wg X pins H' b)/\R J H'
def PI (X:Cx) (tg iter:Expr) (wi:TI):Prop :=
 ∀ (pins:List (Addr×Obj)) (s:Shared) (σ:St) (H:Hp) (R:It->Hp->Prop),Inv X pins σ H s->wi σ H R ->
  wpAny (model X.prog X.w) X.A (eval iter X.env) (fun v s1=>wpAny (model X.prog X.w) X.A (pyIter v) (PIE X pins σ tg R) X.xe s1) X.xe s
theorem Zc0 {M:Model}{A:Around}{E:Value->Shared->Prop}{s:Shared}{tg:Expr}{it:Addr}{u:Value}{o:Obj}{n:String}{vs:Array Value}{Q:Unit->Shared->Prop}(ho:s.heap.get? it=some o) (hc:o.cls = .type n) (hd:o.data = .fields vs)
    (hn : ["enumerate", "zip", "dict_itemiterator", "dict_reverseitemiterator", "odict_iterator", "itertools.zip_longest", "itertools.pairwise"].contains n=false) (hQ:Q () s):wpAny M A (letOwnedTupleGo tg (.ref it) u) Q E s:=by
  unfold letOwnedTupleGo
  cases tg <;> first
    | exact wpAny_pure hQ
    | (cases u <;> first
        | exact wpAny_pure hQ
        | (refine wpAny_bind (wpAny_load ho ?_)
           rw [hc,hd]
           show wpAny M A (if (["enumerate", "zip", "dict_itemiterator", "dict_reverseitemiterator", "odict_iterator", "itertools.zip_longest", "itertools.pairwise"].contains n && vs[0]? == some (rawInt _))=true then _ else _) Q E s
           rw [if_neg (by intro h; rw [hn,Bool.false_and] at h; cases h)]
           exact wpAny_pure hQ))
def Itl (K:PySem.W.Frag) (a:Addr):It :=
 ⟨fun i H=>∃ xs x,SqL K H a xs/\xs[i]? = some x,fun i H x H'=>H'=H/\∀ xs,SqL K H a xs->xs[i]? = some x,fun i H=>∃ xs,SqL K H a xs/\xs.length<=i⟩
def Itt (K:PySem.W.Frag) (a:Addr):It :=
 ⟨fun i H=>∃ xs x,SqT K H a xs/\xs[i]? = some x,fun i H x H'=>H'=H/\∀ xs,SqT K H a xs->xs[i]? = some x,fun i H=>∃ xs,SqT K H a xs/\xs.length<=i⟩
def Itr (lo:Int) (n:Nat):It:=⟨fun i _=>i < n,fun i H x H'=>H'=H/\x = .int (lo+i),fun i _=>n<=i⟩
theorem Zpf {P:Program}{w:World}{K:PySem.W.Frag}{tg:Expr}(a it:Addr):Turn P w K tg (Itl K a) [it] it (fun i h=>h.IsListIter it a i) where
 mem:=by simp
 obj:=fun i h st b hb=>by
  have e:b=it:=by simpa using hb
  subst e
  obtain ⟨o,e,c,d⟩:=st
  exact ⟨o,e,fun v z=>by rw [d] at z; cases z⟩
 keep:=fun i h h' st k=>st.at fun o e=>k it (by simp) o e
 item:=by
  intro X hP hw hK hc i pins s σ H E I hf st hg
  subst hP hw hK
  obtain ⟨xs,x,hq,hx⟩:=hg
  obtain ⟨its,rv,p,hz⟩:=I.list hq
  obtain ⟨u,hu,ru⟩:=rv.get hx
  obtain ⟨f0,f1,f2,f3,f4,f5⟩:=hf it (by simp)
  refine wpAny_pyNext_list_item st p.isList (x:=u) (by simpa using hu) fun h' st' sb=>?_
  have I1:Inv X pins σ H {s with heap:=h' }:=I.turned (t':=s.toks) (fun b o hb e=>(sb.2 b hb).trans e) f0 f1 f3 f4 f5
  obtain ⟨o,e,c,d⟩:=id st'
  exact ⟨u,rfl,Zc0 (s:={s with heap:=h' }) e c d (by decide) ⟨x,H,I1,ru,⟨rfl,fun ys hy=>by rw [I.list_inj hy hq]; exact hx⟩,st',fun b hb=>(hf b hb).1⟩⟩
 done:=by
  intro X hP hw hK hc i pins s σ H E I hf st hg
  subst hP hw hK
  obtain ⟨xs,hq,hx⟩:=hg
  obtain ⟨its,rv,p,hz⟩:=I.list hq
  obtain ⟨f0,f1,f2,f3,f4,f5⟩:=hf it (by simp)
  have hl:=rv.length
  exact wpAny_pyNext_list_end (I.ok.hd hc) st p.isList (by simp; lia) fun h' eb=>⟨rfl,I.turned (t':=s.toks) (fun b o hb e=>eb b o hb e) f0 f1 f3 f4 f5⟩
 self:=fun _ _ _ _ _ st h=>wpAny_pyIter_listiter st h
theorem Zos {P:Program}{w:World}{K:PySem.W.Frag}{tg:Expr}(a it:Addr):Turn P w K tg (Itt K a) [it] it (fun i h=>h.IsTupleIter it a i) where
 mem:=by simp
 obj:=fun i h st b hb=>by
  have e:b=it:=by simpa using hb
  subst e
  obtain ⟨o,e,c,d⟩:=st
  exact ⟨o,e,fun v z=>by rw [d] at z; cases z⟩
 keep:=fun i h h' st k=>st.at fun o e=>k it (by simp) o e
 item:=by
  intro X hP hw hK hc i pins s σ H E I hf st hg
  subst hP hw hK
  obtain ⟨xs,x,hq,hx⟩:=hg
  obtain ⟨its,rv,p,hz⟩:=I.tuple hq
  obtain ⟨u,hu,ru⟩:=rv.get hx
  obtain ⟨f0,f1,f2,f3,f4,f5⟩:=hf it (by simp)
  refine wpAny_pyNext_tuple_item st (show s.heap.IsTuple a its.toArray from p) (x:=u) (by simpa using hu) fun h' st' sb=>?_
  have I1:Inv X pins σ H {s with heap:=h' }:=I.turned (t':=s.toks) (fun b o hb e=>(sb.2 b hb).trans e) f0 f1 f3 f4 f5
  obtain ⟨o,e,c,d⟩:=id st'
  exact ⟨u,rfl,Zc0 (s:={s with heap:=h' }) e c d (by decide) ⟨x,H,I1,ru,⟨rfl,fun ys hy=>by rw [I.tuple_inj hy hq]; exact hx⟩,st',fun b hb=>(hf b hb).1⟩⟩
 done:=by
  intro X hP hw hK hc i pins s σ H E I hf st hg
  subst hP hw hK
  obtain ⟨xs,hq,hx⟩:=hg
  obtain ⟨its,rv,p,hz⟩:=I.tuple hq
  obtain ⟨f0,f1,f2,f3,f4,f5⟩:=hf it (by simp)
  have hl:=rv.length
  exact wpAny_pyNext_tuple_end (I.ok.hd hc) st (show s.heap.IsTuple a its.toArray from p) (by simp; lia) fun h' eb=>⟨rfl,I.turned (t':=s.toks) (fun b o hb e=>eb b o hb e) f0 f1 f3 f4 f5⟩
 self:=fun _ _ _ _ _ st h=>wpAny_pyIter_tupleiter st h
theorem Zot {P:Program}{w:World}{K:PySem.W.Frag}{tg:Expr}(it:Addr) (lo:Int) (n:Nat):Turn P w K tg (Itr lo n) [it] it (fun i h=>IsRangeIter h it (lo+(i:Nat) * 1) ((n:Int) - (i:Nat)) 1) where
 mem:=by simp
 obj:=fun i h st b hb=>by
  have e:b=it:=by simpa using hb
  subst e
  exact ⟨_,st,fun v z=>by
   have z':Data.fields _=Data.cell v:=z
   cases z'⟩
 keep:=fun i h h' st k=>k it (by simp) _ st
 item:=by
  intro X hP hw hK hc i pins s σ H E I hf st hg
  subst hP hw hK
  obtain ⟨f0,f1,f2,f3,f4,f5⟩:=hf it (by simp)
  have W:=Walks.range (prog:=X.prog) (w:=X.w) (I.ok.hd hc) it lo 1 n
  refine W.item i s _ _ hg st fun v h' tk hv st' kk=>?_
  obtain ⟨t,rfl⟩:=hv
  have I1:Inv X pins σ H {s with heap:=h',toks:=tk }:=I.turned (fun b o hb e=>kk b o (by simpa using hb) e) f0 f1 f3 f4 f5
  refine ⟨_,rfl,Zc0 (s:={s with heap:=h',toks:=tk }) (n := "range_iterator") st' rfl rfl (by decide) ⟨.int (lo+i),H,I1,⟨t,?_⟩,⟨rfl,rfl⟩,st',fun b hb=>(hf b hb).1⟩⟩
  rw [Int.mul_one]
 done:=by
  intro X hP hw hK hc i pins s σ H E I hf st hg
  subst hP hw hK
  obtain ⟨f0,f1,f2,f3,f4,f5⟩:=hf it (by simp)
  exact wpAny_pyNext_range_end (I.ok.hd hc) st (by have:n<=i:=hg; lia) fun h' eb=>⟨rfl,I.turned (t':=s.toks) (fun b o hb e=>eb b o hb e) f0 f1 f3 f4 f5⟩
 self:=fun _ _ _ _ _ st h=>wpAny_pyIter_rangeiter st h
end L2
namespace L2
open PySem PySem.Spec PyProof.Rows
section
variable {X:Cx}{tg:Expr}
def Zla (K:PySem.W.Frag) (tl:TE):TI:=fun σ H R=>tl σ H fun x H1=>∃ a,x = .ref a/\(∃ xs,SqL K H1 a xs)/\R (Itl K a) H1
def Zmp (K:PySem.W.Frag) (tl:TE):TI:=fun σ H R=>tl σ H fun x H1=>∃ a,x = .ref a/\(∃ xs,SqT K H1 a xs)/\R (Itt K a) H1
theorem Zr4 {l:Expr}{tl:TE}(hl:PE X l tl):PI X tg l (Zla X.K tl):=by
 intro pins s σ H R I h
 refine thn (hl pins s σ H _ I h) fun v s1 ⟨x,H1,I1,r1,q1⟩=>?_
 obtain ⟨a,e,⟨xs,hq⟩,q⟩:=q1
 subst e
 cases r1
 obtain ⟨its,rv,p,hz⟩:=I1.list hq
 refine wpAny_pyIter_list p.isList ?_
 refine ⟨s1.heap.objs.size,[s1.heap.objs.size],_,_,H1,rfl,I1.kept (t':=s1.toks) fun b o e=>Heap.get?_push_of_some _ e,Zpf a _,⟨_,Heap.get?_push_size _ rfl,rfl,rfl⟩,fun b hb=>?_,q⟩
 have e:b=s1.heap.objs.size:=by simpa using hb
 subst e
 exact I1.fpOk (Nat.le_refl _) (I1.hok.fresh (Nat.le_refl _))
theorem Zt1 {l:Expr}{tl:TE}(hl:PE X l tl):PI X tg l (Zmp X.K tl):=by
 intro pins s σ H R I h
 refine thn (hl pins s σ H _ I h) fun v s1 ⟨x,H1,I1,r1,q1⟩=>?_
 obtain ⟨a,e,⟨xs,hq⟩,q⟩:=q1
 subst e
 cases r1
 obtain ⟨its,rv,p,hz⟩:=I1.tuple hq
 refine wpAny_pyIter_tuple (show s1.heap.IsTuple a its.toArray from p) ?_
 refine ⟨s1.heap.objs.size,[s1.heap.objs.size],_,_,H1,rfl,I1.kept (t':=s1.toks) fun b o e=>Heap.get?_push_of_some _ e,Zos a _,⟨_,Heap.get?_push_size _ rfl,rfl,rfl⟩,fun b hb=>?_,q⟩
 have e:b=s1.heap.objs.size:=by simpa using hb
 subst e
 exact I1.fpOk (Nat.le_refl _) (I1.hok.fresh (Nat.le_refl _))
theorem Zqa {pins:List (Addr×Obj)}{σ:St}{H:Hp}{s:Shared}{R:It->Hp->Prop}{E:Value->Shared->Prop}{lo hi:Int}{t u v:Tok}{tk:Nat}(I:Inv X pins σ H s) (h1 : -(2 ^ 62)<=lo) (h2:lo < 2 ^ 62) (h3 : -(2 ^ 62)<=hi) (h4:hi < 2 ^ 62)
  (q:R (Itr lo (hi - lo).toNat) H):wpAny (model X.prog X.w) X.A (pyIter (.ref s.heap.objs.size)) (PIE X pins σ tg R) E {s with heap:=s.heap.push {cls:=.type "range", data:=.fields #[.int lo t,.int hi u,.int 1 v] },toks:=tk }:=by
 refine wpAny_pyIter_range (IsRange.new ..) (small_one h1 h2 h3 h4) ?_
 have I1:Inv X pins σ H {s with heap:=s.heap.push {cls:=.type "range", data:=.fields #[.int lo t,.int hi u,.int 1 v] },toks:=tk }:=I.kept fun b o e=>Heap.get?_push_of_some _ e
 refine ⟨(s.heap.push {cls:=.type "range", data:=.fields #[.int lo t,.int hi u,.int 1 v] }).objs.size,[(s.heap.push {cls:=.type "range", data:=.fields #[.int lo t,.int hi u,.int 1 v] }).objs.size],_,_,H,rfl,
  I1.kept (t':=tk) fun b o e=>Heap.get?_push_of_some _ e,Zot _ lo (hi - lo).toNat,?_,fun b hb=>?_,q⟩
 ·have e1:lo+((0:Nat):Int) * 1=lo:=by simp
  have e2:(((hi - lo).toNat:Nat):Int) - ((0:Nat):Int)=Builtin.Range.rangeSize lo hi 1:=by rw [rangeSize_one]; split <;> lia
  show IsRangeIter _ _ (lo+((0:Nat):Int) * 1) ((((hi - lo).toNat:Nat):Int) - ((0:Nat):Int)) 1
  rw [e1,e2]
  exact Heap.get?_push_size _ rfl
 ·have e:b=(s.heap.push {cls:=.type "range", data:=.fields #[.int lo t,.int hi u,.int 1 v] }).objs.size:=by simpa using hb
  subst e
  exact I1.fpOk (Nat.le_refl _) (I1.hok.fresh (Nat.le_refl _))
def Zlb (ta:TA):TI:=fun σ H R=>ta σ H fun vs H1=>∃ j:Int,vs = [.int j] /\ -(2 ^ 62)<=j/\j < 2 ^ 62/\R (Itr 0 j.toNat) H1
theorem Zpg {a:Expr}{ta:TA}{p pos:Pos}(hg:Gl X "range") (hm:X.mg "range" = none) (ha:PA X [a] ta) (hs:starEach [a] X.env = [(false,eval a X.env)]:=by rfl):PI X tg (.Call (.Name "range" p) [a] [] pos) (Zlb ta):=by
 intro pins s σ H R I h
 refine Call_ (Ud I hg hm boot_range (PyProof.Rows.callWith_type1 (thn (ha pos pins s σ H _ I h) fun us s1 ⟨vs,H1,I1,r1,q1⟩=>?_) hs rfl))
 obtain ⟨j,e,q1,q2,q⟩:=q1
 subst e
 cases r1 with
 | cons r rr =>
  cases rr
  obtain ⟨t,rfl⟩:=r
  exact call_range_1 (Zqa I1 (by lia) (by lia) q1 q2 (by simpa using q))
def Zzq (wi:TI) (g:TG) (tb:TS):TS:=fun D σ H=>wi σ H fun J H1=>∃ W:Nat->Nat->St->Hp->Prop,(∃ m,W 0 m σ H1)/\∀ i m σ H,W i m σ H ->
 (J.stop i H/\D.nx σ H)\/(J.go i H/\∃ N:St->Hp->Prop,(∀ σ' H',N σ' H'->∃ m',m' < m/\W (i+1) m' σ' H')/\∀ x H',J.yld i H x H'->g x σ H' fun σ2 H2=>tb {D with nx:=N,ct:=N,bk:=D.nx } σ2 H2)
def Ue (fp:List Addr) (h:Heap):List (Addr×Obj):=fp.filterMap fun b=>(h.get? b).map fun o=>(b,o)
theorem Za4 {fp:List Addr}{h:Heap}{b:Addr}{o:Obj}(hb:b∈fp) (e:h.get? b=some o):(b,o)∈Ue fp h:=List.mem_filterMap.mpr ⟨b,hb,by rw [e]; rfl⟩
theorem Zh7 {fp:List Addr}{h:Heap}{p:Addr×Obj}(hp:p∈Ue fp h):p.1∈fp/\h.get? p.1=some p.2:=by
 obtain ⟨b,hb,e⟩:=List.mem_filterMap.mp hp
 cases q:h.get? b with
 | none=>rw [q] at e; cases e
 | some o =>
  rw [q] at e
  have e':(b,o)=p:=Option.some.inj e
  subst e'
  exact ⟨hb,q⟩
theorem Inv.pinned {pins:List (Addr×Obj)}{σ:St}{H:Hp}{s:Shared}{fp:List Addr}(I:Inv X pins σ H s) (hf:∀ b∈fp,Wg X pins H b) (ho:∀ b∈fp,∃ o,s.heap.get? b=some o/\∀ v,o.data ≠ .cell v):Inv X (pins++Ue fp s.heap) σ H s :=
 I.pins_of fun p hp=>(List.mem_append.mp hp).elim (fun z=>I.pin p (List.mem_append_right _ z)) fun z=>by
  obtain ⟨hb,e⟩:=Zh7 z
  obtain ⟨f0,f1,f2,_⟩:=hf p.1 hb
  obtain ⟨o,e',d⟩:=ho p.1 hb
  rw [e] at e'; cases e'
  exact ⟨e,f0,f1,f2,d⟩
theorem Inv.unpinned {pins pl:List (Addr×Obj)}{σ:St}{H:Hp}{s:Shared}(I:Inv X (pins++pl) σ H s):Inv X pins σ H s:=I.pins_of fun p hp=>I.pin p (List.mem_append_right _ (List.mem_append_left _ hp))
theorem Zt2 {iter:Expr}{body:List Stmt}{wi:TI}{g:TG}{tb:TS}{pos:Pos}(hp:PassesOwn (model X.prog X.w) X.A X.env X.xe) (hc:X.calm=true) (hi:PI X tg iter wi) (hg:PG X tg g) (hb:PSs X body tb)
  (hs:∀ x,foldedSetIterable iter X.env x=pure x:=by intro _; rfl):PS X (.For tg iter body [] pos) (Zzq wi g tb):=by
 intro pins s σ H D I h
 refine wpAny_For (thn (hi pins s σ H _ I h) fun v s1 h1=>thn h1 fun itv s2 h2=>?_) hs
 obtain ⟨it,fp,tn,J,H2,e,I2,T,st2,f2,W,⟨m0,w0⟩,turn⟩:=h2
 subst e
 have stat:∀ {H':Hp},(∀ b∈fp,H' b=none)->∀ b∈fp,Wg X pins H' b:=fun hn b hb=>⟨hn b hb,(f2 b hb).2⟩
 refine codeAny_forLoop_any (fun n s'=>∃ i σ' H',Inv X pins σ' H' s'/\tn i s'.heap/\(∀ b∈fp,H' b=none)/\W i n σ' H') ?_ m0 ⟨0,σ,H2,I2,st2,fun b hb=>(f2 b hb).1,w0⟩
 rintro n s3 ⟨i,σ3,H3,I3,st3,fr3,w3⟩
 rcases turn i n σ3 H3 w3 with ⟨stop,qn⟩ | ⟨go,N,hN,step⟩
 ·refine wpAny_passesOwn hp (thn (T.done X rfl rfl rfl hc i pins s3 σ3 H3 X.xe I3 (stat fr3) st3 stop) fun r s4 ⟨hr,I4⟩=>?_)
  subst hr
  exact wpAny_execs_nil ⟨σ3,H3,I4,qn⟩
 ·refine wpAny_passesOwn hp (thn (T.item X rfl rfl rfl hc i pins s3 σ3 H3 X.xe I3 (stat fr3) st3 go) fun r s4 ⟨u,hr,h4⟩=>?_)
  subst hr
  refine wpAny_passesOwn hp (thn h4 fun _ s5 ⟨x,H5,I5,r5,y5,st5,fr5⟩=>?_)
  have I5':=I5.pinned (stat fr5) (T.obj _ _ st5)
  refine wpAny_passesOwn hp (thn (hg _ s5 σ3 H5 x u _ I5' r5 (step x H5 y5)) fun _ s6 ⟨σ6,H6,I6,q6⟩=>?_)
  refine wpAny_passesOwn hp (thn (hb _ s6 σ6 H6 _ I6 q6) fun f s7 q7=>?_)
  have again:∀ {σ7:St}{H7:Hp},Inv X (pins++Ue fp s5.heap) σ7 H7 s7->N σ7 H7->∃ m,m < n/\∃ i σ' H',Inv X pins σ' H' s7/\tn i s7.heap/\(∀ b∈fp,H' b=none)/\W i m σ' H':=fun {σ7 H7} I7 n7=>by
   obtain ⟨m',hm,w7⟩:=hN σ7 H7 n7
   refine ⟨m',hm,i+1,σ7,H7,I7.unpinned,T.keep _ _ _ st5 fun b hb o e=>(I7.pin (b,o) (List.mem_append_right _ (List.mem_append_right _ (Za4 hb e)))).1,fun b hb=>?_,w7⟩
   obtain ⟨o,e,d⟩:=T.obj _ _ st5 b hb
   exact (I7.pin (b,o) (List.mem_append_right _ (List.mem_append_right _ (Za4 hb e)))).2.1
  cases f with
  | next=>obtain ⟨σ7,H7,I7,n7⟩:=q7; exact again I7 n7
  | cont=>obtain ⟨σ7,H7,I7,n7⟩:=q7; exact again I7 n7
  | brk=>obtain ⟨σ7,H7,I7,q7⟩:=q7; exact ⟨σ7,H7,I7.unpinned,q7⟩
  | ret v=>obtain ⟨x7,σ7,H7,I7,r7,q7⟩:=q7; exact ⟨x7,σ7,H7,I7.unpinned,r7,q7⟩
end
theorem Zqb {K:PySem.W.Frag}{a:Addr}{xs:List V}{g:TG}{tb:TS}{D:Ends}{σ:St}{H:Hp}(Pv:Nat->St->Hp->Prop) (h0:Pv 0 σ H) (hl:∀ i σ H,i<=xs.length->Pv i σ H->SqL K H a xs)
  (hs:∀ i x σ H,xs[i]? = some x->Pv i σ H->g x σ H fun σ2 H2=>tb {D with nx:=Pv (i+1),ct:=Pv (i+1),bk:=D.nx } σ2 H2) (hd:∀ σ H,Pv xs.length σ H->D.nx σ H) :
  ∃ W:Nat->Nat->St->Hp->Prop,(∃ m,W 0 m σ H)/\∀ i m σ H,W i m σ H ->
   ((Itl K a).stop i H/\D.nx σ H)\/((Itl K a).go i H/\∃ N:St->Hp->Prop,(∀ σ' H',N σ' H'->∃ m',m' < m/\W (i+1) m' σ' H')/\∀ x H',(Itl K a).yld i H x H'->g x σ H' fun σ2 H2=>tb {D with nx:=N,ct:=N,bk:=D.nx } σ2 H2):=by
 refine ⟨fun i m σ H=>m=xs.length - i/\i<=xs.length/\Pv i σ H,⟨xs.length,by simp,Nat.zero_le _,h0⟩,?_⟩
 rintro i m σ H ⟨rfl,hi,p⟩
 have q:=hl i σ H hi p
 by_cases hlt:i < xs.length
 ·refine .inr ⟨⟨xs,xs[i],q,by simp [hlt]⟩,Pv (i+1),fun σ' H' p'=>⟨xs.length - (i+1),by lia,rfl,hlt,p'⟩,fun x H' y=>?_⟩
  obtain ⟨e,y⟩:=y
  subst e
  exact hs i x σ _ (y xs q) p
 ·have e:i=xs.length:=by lia
  subst e
  exact .inl ⟨⟨xs,q,Nat.le_refl _⟩,hd σ H p⟩
theorem Zr5 {K:PySem.W.Frag}{a:Addr}{xs:List V}{g:TG}{tb:TS}{D:Ends}{σ:St}{H:Hp}(Pv:Nat->St->Hp->Prop) (h0:Pv 0 σ H) (hl:∀ i σ H,i<=xs.length->Pv i σ H->SqT K H a xs)
  (hs:∀ i x σ H,xs[i]? = some x->Pv i σ H->g x σ H fun σ2 H2=>tb {D with nx:=Pv (i+1),ct:=Pv (i+1),bk:=D.nx } σ2 H2) (hd:∀ σ H,Pv xs.length σ H->D.nx σ H) :
  ∃ W:Nat->Nat->St->Hp->Prop,(∃ m,W 0 m σ H)/\∀ i m σ H,W i m σ H ->
   ((Itt K a).stop i H/\D.nx σ H)\/((Itt K a).go i H/\∃ N:St->Hp->Prop,(∀ σ' H',N σ' H'->∃ m',m' < m/\W (i+1) m' σ' H')/\∀ x H',(Itt K a).yld i H x H'->g x σ H' fun σ2 H2=>tb {D with nx:=N,ct:=N,bk:=D.nx } σ2 H2):=by
 refine ⟨fun i m σ H=>m=xs.length - i/\i<=xs.length/\Pv i σ H,⟨xs.length,by simp,Nat.zero_le _,h0⟩,?_⟩
 rintro i m σ H ⟨rfl,hi,p⟩
 have q:=hl i σ H hi p
 by_cases hlt:i < xs.length
 ·refine .inr ⟨⟨xs,xs[i],q,by simp [hlt]⟩,Pv (i+1),fun σ' H' p'=>⟨xs.length - (i+1),by lia,rfl,hlt,p'⟩,fun x H' y=>?_⟩
  obtain ⟨e,y⟩:=y
  subst e
  exact hs i x σ _ (y xs q) p
 ·have e:i=xs.length:=by lia
  subst e
  exact .inl ⟨⟨xs,q,Nat.le_refl _⟩,hd σ H p⟩
theorem Zph {lo:Int}{n:Nat}{g:TG}{tb:TS}{D:Ends}{σ:St}{H:Hp}(Pv:Nat->St->Hp->Prop) (h0:Pv 0 σ H)
  (hs:∀ i σ H,i < n->Pv i σ H->g (.int (lo+i)) σ H fun σ2 H2=>tb {D with nx:=Pv (i+1),ct:=Pv (i+1),bk:=D.nx } σ2 H2) (hd:∀ σ H,Pv n σ H->D.nx σ H) :
  ∃ W:Nat->Nat->St->Hp->Prop,(∃ m,W 0 m σ H)/\∀ i m σ H,W i m σ H ->
   ((Itr lo n).stop i H/\D.nx σ H)\/((Itr lo n).go i H/\∃ N:St->Hp->Prop,(∀ σ' H',N σ' H'->∃ m',m' < m/\W (i+1) m' σ' H')/\∀ x H',(Itr lo n).yld i H x H'->g x σ H' fun σ2 H2=>tb {D with nx:=N,ct:=N,bk:=D.nx } σ2 H2):=by
 refine ⟨fun i m σ H=>m=n - i/\i<=n/\Pv i σ H,⟨n,by simp,Nat.zero_le _,h0⟩,?_⟩
 rintro i m σ H ⟨rfl,hi,p⟩
 by_cases hlt:i < n
 ·refine .inr ⟨hlt,Pv (i+1),fun σ' H' p'=>⟨n - (i+1),by lia,rfl,hlt,p'⟩,fun x H' y=>?_⟩
  obtain ⟨e,y⟩:=y
  subst e y
  exact hs i σ _ hlt p
 ·have e:i=n:=by lia
  subst e
  exact .inl ⟨Nat.le_refl _,hd σ H p⟩
end L2
namespace L2
open PySem PySem.Spec PyProof.Rows
abbrev R2:=V->V->Hp->VK->Prop
def OpR (X:Cx) (f:Value->Value->Sem Value) (r:R2):Prop :=
 ∀ (pins:List (Addr×Obj)) (s:Shared) (σ:St) (H:Hp) (x y:V) (v u:Value) (Q:VK),Inv X pins σ H s->RelV x v->RelV y u->r x y H Q ->
  wpAny (model X.prog X.w) X.A (f v u) (EP X pins σ Q) X.xe s
def UnR (X:Cx) (f:Value->Sem Value) (r:V->Hp->VK->Prop):Prop :=
 ∀ (pins:List (Addr×Obj)) (s:Shared) (σ:St) (H:Hp) (x:V) (v:Value) (Q:VK),Inv X pins σ H s->RelV x v->r x H Q ->
  wpAny (model X.prog X.w) X.A (f v) (EP X pins σ Q) X.xe s
def Wb (X:Cx) (f:Value) (r:List V->Hp->VK->Prop):Prop :=
 ∀ (pins:List (Addr×Obj)) (s:Shared) (σ:St) (H:Hp) (xs:List V) (us:List Value) (Q:VK),Inv X pins σ H s->Vals xs us->r xs H Q ->
  wpAny (model X.prog X.w) X.A (call f us) (EP X pins σ Q) X.xe s
def tOp (r:R2) (ta tb:TE):TE:=fun σ H Q=>ta σ H fun x H1=>tb σ H1 fun y H2=>r x y H2 Q
def rI (C:Int->Int->Prop) (g:Int->Int->V):R2:=fun x y H Q=>∃ i j,x = .int i/\y = .int j/\C i j/\Q (g i j) H
def rI0 (g:Int->Int->V):R2:=fun x y H Q=>∃ i j,x = .int i/\y = .int j/\Q (g i j) H
section
variable {X:Cx}{a b c:Expr}{ta tb tc:TE}{pos:Pos}
theorem Zgm (ha:PE X a ta) (hb:PE X b tb) {pins:List (Addr×Obj)}{s:Shared}{σ:St}{H:Hp}{R:V->V->Hp->Prop}(I:Inv X pins σ H s)
  (h:ta σ H fun x H1=>tb σ H1 fun y H2=>R x y H2) {Q:Value->Shared->Prop}{f:Value->Value->Sem Value}
  (hf:∀ v u s2 x y H2,Inv X pins σ H2 s2->RelV x v->RelV y u->R x y H2->wpAny (model X.prog X.w) X.A (f v u) Q X.xe s2) :
  wpAny (model X.prog X.w) X.A (eval a X.env) (fun v s₁=>wpAny (model X.prog X.w) X.A (eval b X.env) (fun u s₂=>wpAny (model X.prog X.w) X.A (f v u) Q X.xe s₂) X.xe s₁) X.xe s:=by
 refine thn (ha pins s σ H _ I h) fun v s1 ⟨x,H1,I1,r1,q1⟩=>?_
 refine thn (hb pins s1 σ H1 _ I1 q1) fun u s2 ⟨y,H2,I2,r2,q2⟩=>?_
 exact hf v u s2 x y H2 I2 r1 r2 q2
theorem Zvd {op:Operator}{r:R2}(ho:OpR X (binaryOp op) r) (ha:PE X a ta) (hb:PE X b tb):PE X (.BinOp a op b pos) (tOp r ta tb):=by
 intro pins s σ H Q I h
 exact wpAny_BinOp (Zgm ha hb I h fun v u s2 x y H2 I2 rx ry q=>ho pins s2 σ H2 x y v u Q I2 rx ry q)
theorem opI {f:Value->Value->Sem Value}{C:Int->Int->Prop}{g:Int->Int->Int}
  (rule:∀ (i j:Int) (t u:Tok) (s:Shared) (Q:Value->Shared->Prop) (E:Value->Shared->Prop),C i j->Q (.int (g i j) s.toks) {s with toks:=s.toks+1 }->wpAny (model X.prog X.w) X.A (f (.int i t) (.int j u)) Q E s) :
  OpR X f (rI C fun i j=>.int (g i j)):=by
 intro pins s σ H x y v u Q I rx ry h
 obtain ⟨i,j,rfl,rfl,hc,q⟩:=h
 obtain ⟨t,rfl⟩:=rx
 obtain ⟨t',rfl⟩:=ry
 exact rule i j t t' s _ _ hc ⟨.int (g i j),H,I.tok _,⟨_,rfl⟩,q⟩
theorem Zzr {f:Value->Value->Sem Value}{g:Int->Int->Int}
  (rule:∀ (i j:Int) (t u:Tok) (s:Shared) (Q:Value->Shared->Prop) (E:Value->Shared->Prop),Q (.int (g i j) s.toks) {s with toks:=s.toks+1 }->wpAny (model X.prog X.w) X.A (f (.int i t) (.int j u)) Q E s) :
  OpR X f (rI0 fun i j=>.int (g i j)):=by
 intro pins s σ H x y v u Q I rx ry h
 obtain ⟨i,j,rfl,rfl,q⟩:=h
 obtain ⟨t,rfl⟩:=rx
 obtain ⟨t',rfl⟩:=ry
 exact rule i j t t' s _ _ ⟨.int (g i j),H,I.tok _,⟨_,rfl⟩,q⟩
theorem Zc7 {f:Value->Value->Sem Value}{g:Int->Int->Bool}
  (rule:∀ (i j:Int) (t u:Tok) (s:Shared) (Q:Value->Shared->Prop) (E:Value->Shared->Prop),Q (.bool (g i j)) s->wpAny (model X.prog X.w) X.A (f (.int i t) (.int j u)) Q E s) :
  OpR X f (rI0 fun i j=>.bl (g i j)):=by
 intro pins s σ H x y v u Q I rx ry h
 obtain ⟨i,j,rfl,rfl,q⟩:=h
 obtain ⟨t,rfl⟩:=rx
 obtain ⟨t',rfl⟩:=ry
 exact rule i j t t' s _ _ ⟨.bl (g i j),H,I,rfl,q⟩
def Zgn (i j:Int):Prop:=0 < j/\j < 1073741824
def Zgo (i j:Int):Prop:=0<=j/\j<=1000000/\i.natAbs < 2 ^ 64
def CMul (i j:Int):Prop:=(-(2 ^ 64) < i/\i < 2 ^ 64)\/(-(2 ^ 64) < j/\j < 2 ^ 64)
theorem CMul.ok {i j:Int}(h:CMul i j):IntMulOk i j:=by
 rcases h with ⟨h1,h2⟩ | ⟨h1,h2⟩
 ·exact .of_left (intBits_le_64 h1 h2)
 ·exact .of_right (intBits_le_64 h1 h2)
theorem Zt3:OpR X (binaryOp .Add) (rI0 fun i j=>.int (i+j)):=Zzr fun _ _ _ _ _ _ _ q=>add_int q
theorem Zt4:OpR X (binaryOp .Mult) (rI CMul fun i j=>.int (i * j)):=opI fun _ _ _ _ _ _ _ hc q=>mul_int q hc.ok
theorem Zr6:OpR X (binaryOp .FloorDiv) (rI Zgn fun i j=>.int (i / j)):=opI fun i j _ _ _ _ _ hc q=>by
 have h1:(0:Int) < j:=hc.1
 have h2:j < 1073741824:=hc.2
 exact floordiv_int (by lia) (by rw [Int.fdiv_eq_ediv_of_nonneg i (by lia)]; exact q) (.inl (PyProof.noPylong_small (by lia)))
theorem Zt5:OpR X (binaryOp .Mod) (rI (fun _ j=>0 < j) fun i j=>.int (i % j)):=opI fun i j _ _ _ _ _ hc q=>by
 have h1:(0:Int) < j:=hc
 exact mod_int' (by lia) (by rw [Int.fmod_eq_emod_of_nonneg i (by lia)]; exact q)
theorem Zt6:OpR X (binaryOp .Pow) (rI Zgo fun i j=>.int (i ^ j.toNat)):=opI fun _ _ _ _ _ _ _ hc q=>pow_int_small hc.1 hc.2.1 hc.2.2 q
end
def Zmq:V->V->Bool
 | .non,.non=>true | .non,.int _=>true | .int _,.non=>true | .non,.bl _=>true | .bl _,.non=>true | .non,.str _=>true | .str _,.non=>true
 | .int _,.int _=>true | .bl _,.bl _=>true | .str _,.str _=>true | .byt _,.byt _=>true
 | .int _,.str _=>true | .str _,.int _=>true | .bl _,.str _=>true | .str _,.bl _=>true
 | _,_=>false
def rEq:R2:=fun x y H Q=>Zmq x y=true/\Q (.bl (decide (x=y))) H
def rNe:R2:=fun x y H Q=>Zmq x y=true/\Q (.bl (!decide (x=y))) H
theorem Zen {i j:Int}:decide (V.int i=V.int j)=(i == j):=by
 rw [Bool.eq_iff_iff]
 simp
theorem Ze4 {i j:Bool}:decide (V.bl i=V.bl j)=(i == j):=by
 rw [Bool.eq_iff_iff]
 simp
theorem Zeo {i j:Str}:decide (V.str i=V.str j)=(i == j):=by
 rw [Bool.eq_iff_iff]
 simp
theorem Zi8 {i j:Array UInt8}:decide (V.byt i=V.byt j)=(i.toList == j.toList):=by
 rw [Bool.eq_iff_iff]
 cases i
 cases j
 simp
section
variable {X:Cx}{a b c:Expr}{ta tb tc:TE}{pos:Pos}
theorem Z0 {pins:List (Addr×Obj)}{σ:St}{H:Hp}{s:Shared}{Q:VK}{k k':Bool}(I:Inv X pins σ H s) (q:Q (.bl k) H) (e:k=k'):EP X pins σ Q (.bool k') s:=by
 subst e
 exact ⟨.bl k,H,I,rfl,q⟩
theorem Zve:OpR X (compareOp .Eq) rEq:=by
 intro pins s σ H x y v u Q I rx ry h
 obtain ⟨hs,q⟩:=h
 cases x with
 | non =>
  cases rx
  cases y with
  | non=>cases ry; exact PySem.EqNone.eq_none_none (Z0 I q (by simp))
  | bl j=>cases ry; exact PySem.EqNone.eq_none_bool (Z0 I q (by simp))
  | int j=>obtain ⟨t',rfl⟩:=ry; exact PySem.EqNone.eq_none_int (Z0 I q (by simp))
  | str j=>obtain ⟨t',rfl⟩:=ry; exact PySem.EqNone.eq_none_str (Z0 I q (by simp))
  | _=>exact absurd (show false=true from hs) Bool.false_ne_true
 | bl i =>
  cases rx
  cases y with
  | non=>cases ry; exact PySem.EqNone.eq_bool_none (Z0 I q (by simp))
  | bl j=>cases ry; exact eq_bool (Z0 I q Ze4)
  | str j=>obtain ⟨t',rfl⟩:=ry; exact PySem.EqMixed.eq_bool_str (Z0 I q (by simp))
  | _=>exact absurd (show false=true from hs) Bool.false_ne_true
 | int i =>
  obtain ⟨t,rfl⟩:=rx
  cases y with
  | non=>cases ry; exact PySem.EqNone.eq_int_none (Z0 I q (by simp))
  | int j=>obtain ⟨t',rfl⟩:=ry; exact eq_int (Z0 I q Zen)
  | str j=>obtain ⟨t',rfl⟩:=ry; exact PySem.EqMixed.eq_int_str (Z0 I q (by simp))
  | _=>exact absurd (show false=true from hs) Bool.false_ne_true
 | str i =>
  obtain ⟨t,rfl⟩:=rx
  cases y with
  | non=>cases ry; exact PySem.EqNone.eq_str_none (Z0 I q (by simp))
  | bl j=>cases ry; exact PySem.EqMixed.eq_str_bool (Z0 I q (by simp))
  | int j=>obtain ⟨t',rfl⟩:=ry; exact PySem.EqMixed.eq_str_int (Z0 I q (by simp))
  | str j=>obtain ⟨t',rfl⟩:=ry; exact eq_str (Z0 I q Zeo)
  | _=>exact absurd (show false=true from hs) Bool.false_ne_true
 | byt i =>
  obtain ⟨t,rfl⟩:=rx
  cases y with
  | byt j=>obtain ⟨t',rfl⟩:=ry; exact PySem.W.eq_bytes (Z0 I q Zi8)
  | _=>exact absurd (show false=true from hs) Bool.false_ne_true
 | _=>cases y <;> exact absurd (show false=true from hs) Bool.false_ne_true
theorem Zvf:OpR X (compareOp .NotEq) rNe:=by
 intro pins s σ H x y v u Q I rx ry h
 obtain ⟨hs,q⟩:=h
 cases x with
 | non =>
  cases rx
  cases y with
  | non=>cases ry; exact PySem.EqNone.ne_none_none (Z0 I q (by simp))
  | bl j=>cases ry; exact PySem.EqNone.ne_none_bool (Z0 I q (by simp))
  | int j=>obtain ⟨t',rfl⟩:=ry; exact PySem.EqNone.ne_none_int (Z0 I q (by simp))
  | str j=>obtain ⟨t',rfl⟩:=ry; exact PySem.EqNone.ne_none_str (Z0 I q (by simp))
  | _=>exact absurd (show false=true from hs) Bool.false_ne_true
 | bl i =>
  cases rx
  cases y with
  | non=>cases ry; exact PySem.EqNone.ne_bool_none (Z0 I q (by simp))
  | bl j=>cases ry; exact ne_bool (Z0 I q (congrArg not Ze4))
  | str j=>obtain ⟨t',rfl⟩:=ry; exact PySem.EqMixed.ne_bool_str (Z0 I q (by simp))
  | _=>exact absurd (show false=true from hs) Bool.false_ne_true
 | int i =>
  obtain ⟨t,rfl⟩:=rx
  cases y with
  | non=>cases ry; exact PySem.EqNone.ne_int_none (Z0 I q (by simp))
  | int j=>obtain ⟨t',rfl⟩:=ry; exact ne_int (Z0 I q (congrArg not Zen))
  | str j=>obtain ⟨t',rfl⟩:=ry; exact PySem.EqMixed.ne_int_str (Z0 I q (by simp))
  | _=>exact absurd (show false=true from hs) Bool.false_ne_true
 | str i =>
  obtain ⟨t,rfl⟩:=rx
  cases y with
  | non=>cases ry; exact PySem.EqNone.ne_str_none (Z0 I q (by simp))
  | bl j=>cases ry; exact PySem.EqMixed.ne_str_bool (Z0 I q (by simp))
  | int j=>obtain ⟨t',rfl⟩:=ry; exact PySem.EqMixed.ne_str_int (Z0 I q (by simp))
  | str j=>obtain ⟨t',rfl⟩:=ry; exact ne_str (Z0 I q (congrArg not Zeo))
  | _=>exact absurd (show false=true from hs) Bool.false_ne_true
 | byt i =>
  obtain ⟨t,rfl⟩:=rx
  cases y with
  | byt j=>obtain ⟨t',rfl⟩:=ry; exact PySem.W.ne_bytes (Z0 I q (congrArg not Zi8))
  | _=>exact absurd (show false=true from hs) Bool.false_ne_true
 | _=>cases y <;> exact absurd (show false=true from hs) Bool.false_ne_true
theorem Zvg:OpR X (compareOp .Lt) (rI0 fun i j=>.bl (decide (i < j))):=Zc7 fun _ _ _ _ _ _ _ q=>lt_int q
theorem Zvh:OpR X (compareOp .LtE) (rI0 fun i j=>.bl (decide (i<=j))):=Zc7 fun _ _ _ _ _ _ _ q=>le_int q
theorem Zvi:OpR X (compareOp .Gt) (rI0 fun i j=>.bl (decide (j < i))):=Zc7 fun _ _ _ _ _ _ _ q=>gt_int q
theorem Zvj:OpR X (compareOp .GtE) (rI0 fun i j=>.bl (decide (j<=i))):=Zc7 fun _ _ _ _ _ _ _ q=>ge_int q
theorem Zt7:OpR X (compareOp .Is) (fun x y H Q=>y = .non/\Q (.bl (decide (x = .non))) H):=by
 intro pins s σ H x y v u Q I rx ry h
 obtain ⟨rfl,q⟩:=h
 cases ry
 refine is_none_gen (Z0 I q ?_)
 cases x <;> first
  | (cases rx; rfl)
  | (obtain ⟨t,rfl⟩:=rx; rfl)
theorem Zn (b:Expr) {op:CmpOp}(h:op ≠ .In:=by decide) (h2:op ≠ .NotIn:=by decide):behindInMarks op b=false:=by
 have e1:(op == CmpOp.In)=false:=by cases op <;> first | rfl | exact absurd rfl h
 have e2:(op == CmpOp.NotIn)=false:=by cases op <;> first | rfl | exact absurd rfl h2
 cases b <;> simp [behindInMarks,e1,e2]
theorem Zr7 {op:CmpOp}{r:R2}(ho:OpR X (compareOp op) r) (ha:PE X a ta) (hb:PE X b tb) (hm:behindInMarks op b=false):PE X (.Compare a [op] [b] pos) (tOp r ta tb):=by
 intro pins s σ H Q I h
 exact wpAny_Compare1 (Zgm ha hb I h fun v u s2 x y H2 I2 rx ry q=>ho pins s2 σ H2 x y v u Q I2 rx ry q) hm
def Zbg (t:TE):TT:=fun σ H Q=>t σ H fun x H'=>∃ k,x = .bl k/\Q k H'
theorem Zr8 {op:CmpOp}{r:R2}(ho:OpR X (compareOp op) r) (ha:PE X a ta) (hb:PE X b tb) (hm:behindInMarks op b=false):PT X (.Compare a [op] [b] pos) (Zbg (tOp r ta tb)):=by
 intro pins s σ H Q I h
 refine wpAny_isTrue_Compare1 (thn (ha pins s σ H _ I h) fun v s1 ⟨x,H1,I1,r1,q1⟩=>thn (hb pins s1 σ H1 _ I1 q1) fun u s2 ⟨y,H2,I2,r2,q2⟩ =>
  thn (ho pins s2 σ H2 x y v u _ I2 r1 r2 q2) fun c s3 ⟨z,H3,I3,r3,k,e,q3⟩=>?_) hm
 subst e
 cases r3
 exact wpAny_truthy_bool ⟨H3,I3,q3⟩
def Zco (r r':R2) (ta tb tc:TE):TE:=fun σ H Q=>ta σ H fun x H1=>tb σ H1 fun y H2=>r x y H2 fun z H3=>∃ k,z = .bl k /\
 (if k=true then tc σ H3 fun w' H4=>r' y w' H4 Q else Q (.bl false) H3)
theorem Zqc {op op':CmpOp}{r r':R2}(ho:OpR X (compareOp op) r) (ho':OpR X (compareOp op') r') (ha:PE X a ta) (hb:PE X b tb) (hc:PE X c tc)
  (hm:lastMarks [op,op'] [b,c]=false:=by with_unfolding_all rfl):PE X (.Compare a [op,op'] [b,c] pos) (Zco r r' ta tb tc):=by
 intro pins s σ H Q I h
 refine Compare_chain (thn (ha pins s σ H _ I h) fun v s1 ⟨x,H1,I1,r1,q1⟩=>chain_link (thn (hb pins s1 σ H1 _ I1 q1) fun u s2 ⟨y,H2,I2,r2,q2⟩ =>
  thn (ho pins s2 σ H2 x y v u _ I2 r1 r2 q2) fun d s3 ⟨z,H3,I3,r3,k,e,q3⟩=>?_)) hm
 subst e
 cases r3
 refine wpAny_truthy_bool ?_
 cases k with
 | false=>exact ite_ff ⟨.bl false,H3,I3,rfl,q3⟩
 | true=>exact ite_tt (chain_last (thn (hc pins s3 σ H3 _ I3 q3) fun w' s4 ⟨z',H4,I4,r4,q4⟩=>ho' pins s4 σ H4 y z' u w' Q I4 r2 r4 q4))
theorem Zqd {op op':CmpOp}{r r':R2}(ho:OpR X (compareOp op) r) (ho':OpR X (compareOp op') r') (ha:PE X a ta) (hb:PE X b tb) (hc:PE X c tc)
  (hm:lastMarks [op,op'] [b,c]=false:=by with_unfolding_all rfl):PT X (.Compare a [op,op'] [b,c] pos) (Zbg (Zco r r' ta tb tc)):=by
 intro pins s σ H Q I h
 refine isTrue_chain (thn (ha pins s σ H _ I h) fun v s1 ⟨x,H1,I1,r1,q1⟩=>test_link (thn (hb pins s1 σ H1 _ I1 q1) fun u s2 ⟨y,H2,I2,r2,q2⟩ =>
  thn (ho pins s2 σ H2 x y v u _ I2 r1 r2 q2) fun d s3 ⟨z,H3,I3,r3,k,e,q3⟩=>?_)) hm
 subst e
 cases r3
 refine wpAny_truthy_bool ?_
 cases k with
 | false =>
  obtain ⟨k',e',q'⟩:=q3
  cases e'
  exact ite_ff ⟨H3,I3,q'⟩
 | true =>
  refine ite_tt (test_last (thn (hc pins s3 σ H3 _ I3 q3) fun w' s4 ⟨z',H4,I4,r4,q4⟩=>thn (ho' pins s4 σ H4 y z' u w' _ I4 r2 r4 q4) fun d' s5 ⟨z2,H5,I5,r5,k2,e2,q5⟩=>?_))
  subst e2
  cases r5
  exact wpAny_truthy_bool ⟨H5,I5,q5⟩
theorem Zac:(sizeLine:Nat) < 2 ^ 63:=by rw [sizeLine_eq]; decide
theorem Zou:OpR X (binaryOp .Add) (fun x y H Q=>∃ i j,x = .str i/\y = .str j/\i.length+j.length<=sizeLine/\Q (.str (i++j)) H):=by
 intro pins s σ H x y v u Q I rx ry h
 obtain ⟨i,j,rfl,rfl,hz,q⟩:=h
 obtain ⟨t,rfl⟩:=rx
 obtain ⟨t',rfl⟩:=ry
 exact add_str (fun t' tk=>⟨.str (i++j),H,I.tok _,⟨_,rfl⟩,q⟩) hz
theorem Wj {x:V}{us:List Value}(r:Vals [x] us):∃ u,us = [u]/\RelV x u:=by
 cases r with
 | cons r1 r2=>cases r2; exact ⟨_,rfl,r1⟩
theorem Zc1 {x y:V}{us:List Value}(r:Vals [x,y] us):∃ u w',us = [u,w']/\RelV x u/\RelV y w':=by
 cases r with
 | cons r1 r2 =>
  cases r2 with
  | cons r3 r4=>cases r4; exact ⟨_,_,rfl,r1,r3⟩
end
end L2
namespace L2
open PySem PySem.Spec PyProof.Rows
structure ObjM (h:Heap) (x dx C:Addr) (mA:Str->Option Value):Prop where
 obj:h.get? x=some (PySem.W.instObj C dx)
 ns:h.Ns1 dx mA
 ne:dx≠x
theorem Zpi {h:Heap}{dx:Addr}{mA:Str->Option Value}(n:h.Ns1 dx mA):∃ od,h.get? dx=some od/\∀ name,PySem.W.lookIn name od=some (mA name):=by
 obtain ⟨o,es,ep,ho,hd,hk,_,hm⟩:=n
 refine ⟨o,ho,fun name=>?_⟩
 have e:=hm name
 unfold nsFind findBy at e
 rw [← Array.find?_toList] at e
 unfold PySem.W.lookIn
 rw [hd]
 dsimp only
 split
 ·rename_i y q
  rw [q] at e
  exact congrArg some e
 ·rename_i q
  rw [q] at e
  have a:es.toList.any (·.refKey)=false:=by
   rw [List.any_eq_false]
   intro y hy
   obtain ⟨z,t,hkey⟩:=hk y (Array.mem_toList_iff.mp hy)
   simp [DictEntry.refKey,hkey]
  have a':¬ es.toList.any (·.refKey)=true:=by rw [a]; exact Bool.false_ne_true
  rw [if_neg a']
  exact congrArg some e
theorem ObjM.look {h:Heap}{x dx C:Addr}{mA:Str->Option Value}(I:ObjM h x dx C mA):∃ od,PySem.W.InstAt h x (PySem.W.instObj C dx) C (some od)/\∀ name,PySem.W.lookIn name od=some (mA name) :=
 let ⟨od,ho,hl⟩:=Zpi I.ns
 ⟨od,⟨I.obj,rfl,rfl,ho⟩,hl⟩
section
variable {prog:Program}{w:World}{A:Around}{E:Value->Shared->Prop}{s:Shared}{K:PySem.W.Frag}{x dx C f:Addr}{mA:Str->Option Value}{name:Str}{v:Value}
end
section
variable {P:Program}{w:World}{H H':Hp}{h h':Heap}{a C dx:Addr}{fs fs':List (Str×V)}
theorem Zr9 (hok:HOk P w H h) (e:H a=some (.ins C dx fs)):∃ mA,ObjM h a dx C mA/\(∀ f,RelO (fs.lookup f) (mA f))/\PySem.Within mA (fs.map (·.1))/\fs.length<=1000/\H dx=some (.own a):=by
 obtain ⟨d,z,ne,ob,mA,n,r,q⟩:=(show ObjOk P w H h a (.ins C dx fs) from hok a _ e)
 exact ⟨mA,⟨ob,n,ne⟩,r,q,z,d⟩
end
structure Cls (K:PySem.W.Frag) (C:Addr):Prop where
 pg:PySem.W.plainGet K C Str.empty=true
 hd:PySem.W.hasDictIn K C=true
 po:PySem.W.plainOver K C=true
 sa:PySem.W.findIn K (.ref C) "__setattr__" = some (some (.builtin "object.__setattr__"))
theorem Cls.get {K:PySem.W.Frag}{C:Addr}(c:Cls K C) (f:Str):PySem.W.plainGet K C f=true:=c.pg
structure Con (K:PySem.W.Frag) (C:Addr) (f:Str) (v:V) (u:Value):Prop where
 at_:PySem.W.findIn K (.ref C) f=some (some u)
 rel:RelV v u
 get:PySem.W.specialIn K u "__get__" = some none
 cp:PySem.W.copiedNames.contains f=false
structure Meth (K:PySem.W.Frag) (C:Addr) (m:Str) (f:Addr):Prop where
 at_:PySem.W.findIn K (.ref C) m=some (some (.ref f))
 fn:PySem.W.isFn K (.ref f)=true
 kp:PySem.W.keepIn K (.ref f)=true
section
variable {X:Cx}{pins:List (Addr×Obj)}{σ:St}{H:Hp}{s:Shared}{a C dx:Addr}{fs:List (Str×V)}{f:Str}{v:V}{A:Around}{E:Value->Shared->Prop}
end
section
variable {X:Cx}{o e value:Expr}{f:Str}{pos pos' tpos:Pos}{ta tv:TE}
end
section
variable {X:Cx}{pins:List (Addr×Obj)}{σ:St}{H:Hp}{s:Shared}{A:Around}{E:Value->Shared->Prop}{Q:Value->Shared->Prop}{c:Value}{b:Bool}
inductive TyOf (K:PySem.W.Frag) (H:Hp):V->Value->Prop where
 | non:TyOf K H .non (.type "NoneType")
 | bl (x:Bool):TyOf K H (.bl x) (.type "bool")
 | int (i:Int):TyOf K H (.int i) (.type "int")
 | str (x:Str):TyOf K H (.str x) (.type "str")
 | flt (x:UInt64):TyOf K H (.flt x) (.type "float")
 | lst {a:Addr}{xs:List V}(e:H a=some (.lst xs)):TyOf K H (.ref a) (.type "list")
 | frz {a:Addr}{o:Obj}{xs:List V}(e:H a=some (.frz o (.lst xs))):TyOf K H (.ref a) (.type "list")
 | tup {a:Addr}{xs:List V}(e:H a=some (.tup xs)):TyOf K H (.ref a) (.type "tuple")
 | dK {a:Addr}{kvs:List (Key×V)}(e:H a=some (.dK kvs)):TyOf K H (.ref a) (.type "dict")
 | dT {a:Addr}{kvs:List (List Key×V)}(e:H a=some (.dT kvs)):TyOf K H (.ref a) (.type "dict")
 | ins {a C dx:Addr}{fs:List (Str×V)}(e:H a=some (.ins C dx fs)) (cl:Cls K C) (ha:PySem.W.findIn K (.ref C) "__class__" = some (some (.builtin "object.__class__")))
   (hn:PySem.W.specialIn K (.builtin "object.__class__") "__get__" = some (some (.builtin "getset_descriptor.__get__"))) (htk:PySem.W.takesIn K (.builtin "object.__class__")=some true)
   (hm:PySem.W.mroIn K C (.type "object")=some true):TyOf K H (.ref a) (.ref C)
theorem Zpj {x:V}{u t:Value}(I:Inv X pins σ H s) (rx:RelV x u) (ty:TyOf X.K H x t) (e:PySem.W.kitOne X.K t c=some b) (h:∀ tk,Q (.bool b) {s with toks:=tk }) :
  wpAny (model X.prog X.w) A (call (.builtin "isinstance") [u,c]) Q E s:=by
 cases ty with
 | non=>cases (show u=Value.none from rx); exact PySem.W.kia_one PySem.W.kitx_none I.kIn True.intro e (fun z=>nomatch z) h
 | bl y=>cases (show u=Value.bool y from rx); exact PySem.W.kia_one PySem.W.kitx_bool I.kIn True.intro e (fun z=>nomatch z) h
 | int i=>obtain ⟨t,q⟩:=(show ∃ t,u=Value.int i t from rx); cases q; exact PySem.W.kia_one PySem.W.kitx_int I.kIn True.intro e (fun z=>nomatch z) h
 | str y=>obtain ⟨t,q⟩:=(show ∃ t,u=Value.str y t from rx); cases q; exact PySem.W.kia_one PySem.W.kitx_str I.kIn True.intro e (fun z=>nomatch z) h
 | flt y=>obtain ⟨t,q⟩:=(show ∃ t,u=Value.float y t from rx); cases q; exact PySem.W.kia_one PySem.W.kitx_float I.kIn True.intro e (fun z=>nomatch z) h
 | @lst a xs ea =>
  cases (show u=Value.ref a from rx)
  obtain ⟨_,_,n,_,h1⟩:=(show ObjOk X.prog X.w H s.heap a (.lst xs) from I.hok a _ ea)
  exact PySem.W.kia_one PySem.W.kitx_list I.kIn ⟨_,h1,rfl⟩ e (fun z=>nomatch z) h
 | @frz a ob xs ea =>
  cases (show u=Value.ref a from rx)
  obtain ⟨_,_,_,n,_,h1⟩:=(show ObjOk X.prog X.w H s.heap a (.frz ob (.lst xs)) from I.hok a _ ea)
  exact PySem.W.kia_one PySem.W.kitx_list I.kIn ⟨_,h1,rfl⟩ e (fun z=>nomatch z) h
 | @tup a xs ea =>
  cases (show u=Value.ref a from rx)
  obtain ⟨_,_,_,p⟩:=(show ObjOk X.prog X.w H s.heap a (.tup xs) from I.hok a _ ea)
  obtain ⟨o,h1,h2,_⟩:=p
  exact PySem.W.kia_one PySem.W.kitx_tuple I.kIn ⟨o,h1,h2⟩ e (fun z=>nomatch z) h
 | @dK a kvs ea =>
  cases (show u=Value.ref a from rx)
  obtain ⟨_,_,vs,_,p⟩:=(show ObjOk X.prog X.w H s.heap a (.dK kvs) from I.hok a _ ea)
  obtain ⟨o,es,ep,h1,h2,_⟩:=p
  exact PySem.W.kia_one PySem.W.kitx_dict I.kIn ⟨o,h1,h2.1⟩ e (fun z=>nomatch z) h
 | @dT a kvs ea =>
  cases (show u=Value.ref a from rx)
  obtain ⟨_,_,xs,_,o,es,ep,h1,h2,_⟩:=(show ObjOk X.prog X.w H s.heap a (.dT kvs) from I.hok a _ ea)
  exact PySem.W.kia_one PySem.W.kitx_dict I.kIn ⟨o,h1,h2.1⟩ e (fun z=>nomatch z) h
 | @ins a C dx fs ea cl ha hn htk hm =>
  cases (show u=Value.ref a from rx)
  obtain ⟨mA,O,_⟩:=Zr9 I.hok ea
  obtain ⟨od,J,_⟩:=O.look
  exact PySem.W.kia_one (PySem.W.kitx_own (cl.get _) cl.hd ha hn htk hm) I.kIn J e (fun z=>nomatch z) h
end
end L2
namespace L2
open PySem PySem.Spec PyProof.Rows
structure Room (k:Nat) (A:Around):Prop where
 hd:A.handled=none
 dp:A.depth+3 * k+5 < recursionLimit
 un:A.units+16 * k+200 < cLine
theorem Room.mono {j k:Nat}{A:Around}(r:Room k A) (h:j<=k):Room j A:=⟨r.hd,by have:=r.dp; lia,by have:=r.un; lia⟩
theorem Room.deeper {k:Nat}{A:Around}(r:Room (k+1) A) (env:Env):Room k (A.deeper env) :=
 ⟨r.hd,by have:=r.dp; show A.depth+1+3 * k+5 < _; lia,by have:=r.un; show A.units+3+16 * k+200 < _; lia⟩
theorem Room.depth {k:Nat}{A:Around}(r:Room k A):A.depth < recursionLimit:=by have:=r.dp; lia
theorem Room.units {k:Nat}{A:Around}(r:Room k A):A.units+64 < cLine:=by have:=r.un; lia
theorem Room.units0 {k:Nat}{A:Around}(r:Room k A):A.units < cLine:=by have:=r.un; lia
def Vo:TA:=fun _ H Q=>Q [] H
def We (ta:TE) (tr:TA):TA:=fun σ H Q=>ta σ H fun x H1=>tr σ H1 fun xs H2=>Q (x::xs) H2
section
variable {X:Cx}{e:Expr}{es:List Expr}{te:TE}{t:TA}{pos:Pos}
theorem Zt8:PA X [] Vo:=fun _ _ _ _ H Q I h=>Calls.spliced_nil ⟨[],H,I,.nil,h⟩
theorem Zsa (ha:PE X e te) (hr:PA X es t) (hs:starEach (e::es) X.env=(false,eval e X.env)::starEach es X.env:=by rfl):PA X (e::es) (We te t):=by
 intro pos pins s σ H Q I h
 rw [hs]
 show wpAny _ _ (spliced ((false,eval e X.env)::backTo pos (starEach es X.env))) _ _ s
 refine Calls.spliced_cons (thn (ha pins s σ H _ I h) fun u s1 ⟨x,H1,I1,r1,q1⟩=>?_)
 exact thn (hr pos pins s1 σ H1 _ I1 q1) fun us s2 ⟨xs,H2,I2,r2,q2⟩=>⟨x::xs,H2,I2,.cons r1 r2,q2⟩
def Zmr (t:TA):TE:=fun σ H Q=>t σ H fun xs H1=>xs.length<=sizeLine/\∀ p,H1 p=none->Q (.ref p) (upd H1 p (.lst xs))
theorem Zt9 (h:PA X es t):PE X (.List es pos) (Zmr t):=by
 intro pins s σ H Q I hq
 refine wpAny_List_spliced (thn (h pos pins s σ H _ I hq) fun us s1 ⟨xs,H1,I1,r,z,q⟩=>⟨by rw [← r.length]; exact z,?_⟩)
 have hf:H1 s1.heap.objs.size=none:=I1.hok.fresh (Nat.le_refl _)
 refine ⟨.ref s1.heap.objs.size,upd H1 s1.heap.objs.size (.lst xs),I1.laid (t':=s1.toks) (fun b u e=>Heap.get?_push_of_some _ e) (Nat.le_refl _) ?_,rfl,q _ hf⟩
 exact ⟨z,us,0,r,Heap.get?_push_size _ rfl⟩
end
abbrev Sp:=List V->Hp->VK->XK->Prop
abbrev CXT:=List Env->Hp->Shared->XK->Value->Shared->Prop
structure Env0 (P:Program) (w:World) (K:PySem.W.Frag) (mg:Str->Option Value) (base:Heap) (A:Around) (outer:List Env) (s:Shared) (H:Hp):Prop where
 frames:A.frames=some outer
 mod:Mod K mg base
 bs:∀ b o,base.get? b=some o->s.heap.get? b=some o/\H b=none
 bsz:base.objs.size<=s.heap.objs.size
 funs:s.heap.FunFrames base outer
 frf:∀ b∈frs outer,H b=none
 hok:HOk P w H s.heap
 bare:AllBare s.gens
def CE (outer:List Env) (P:Program) (w:World) (H:Hp) (s:Shared) (Q:VK) (u:Value) (s':Shared):Prop :=
 ∃ v H',s'.os=s.os/\AllBare s'.gens/\Un (frs outer) [] H H' s.heap s'.heap/\HOk P w H' s'.heap/\RelV v u/\Q v H'
def CR (CX:CXT) (outer:List Env) (P:Program) (w:World) (H:Hp) (s:Shared) (Q:VK) (E:XK) (r:Result) (s':Shared):Prop :=
 match r with
 | .ok (.ret u)=>CE outer P w H s Q u s'
 | .ok _=>False
 | .error e=>CX outer H s E e s'
structure FnOk (P:Program) (w:World) (K:PySem.W.Frag) (mg:Str->Option Value) (base:Heap) (CX:CXT) (k:Nat) (f:Addr) (fd:FuncData) (ps:List Str) (sp:Sp):Prop where
 len:∀ vs H Q E,sp vs H Q E->vs.length=ps.length
 run:∀ (A:Around) (outer:List Env) (s:Shared) (H:Hp) (args:Args) (us:List Value) (vs:List V) (Q:VK) (E:XK),Room k A->Env0 P w K mg base A outer s H->BindsTo s fd args (ps.zip us)->Vals vs us->sp vs H Q E ->
  codeAny (model P w) A (.call (.ref f) args) (CR CX outer P w H s Q E) s
theorem FnOk.mono {P:Program}{w:World}{K:PySem.W.Frag}{mg:Str->Option Value}{base:Heap}{CX:CXT}{j k:Nat}{f:Addr}{fd:FuncData}{ps:List Str}{sp:Sp}(F:FnOk P w K mg base CX j f fd ps sp) (h:j<=k) :
  FnOk P w K mg base CX k f fd ps sp:=⟨F.len,fun A outer s H args us vs Q E hr=>F.run A outer s H args us vs Q E (hr.mono h)⟩
theorem FnOk.imp {P:Program}{w:World}{K:PySem.W.Frag}{mg:Str->Option Value}{base:Heap}{CX:CXT}{k:Nat}{f:Addr}{fd:FuncData}{ps:List Str}{sp sp':Sp}(F:FnOk P w K mg base CX k f fd ps sp)
  (h:∀ vs H Q E,sp' vs H Q E->sp vs H Q E):FnOk P w K mg base CX k f fd ps sp' :=
 ⟨fun vs H Q E q=>F.len vs H Q E (h _ _ _ _ q),fun A outer s H args us vs Q E hr he hb hv hs=>F.run A outer s H args us vs Q E hr he hb hv (h _ _ _ _ hs)⟩
section
variable {X:Cx}{pins:List (Addr×Obj)}{σ:St}{H:Hp}{s s':Shared}
theorem Inv.env0 (I:Inv X pins σ H s):Env0 X.prog X.w X.K X.mg X.base X.A X.stack s H :=
 ⟨I.ok.frames,I.ok.mod,I.bs,Nat.le_trans I.ok.bsz I.sz,I.stack,I.stkFree,I.hok,I.bare⟩
theorem Inv.after {Q:VK}{u:Value}(I:Inv X pins σ H s) (h:CE X.stack X.prog X.w H s Q u s'):EP X pins σ Q u s':=by
 obtain ⟨v,H',os,bare,un,hok,r,q⟩:=h
 obtain ⟨hh,g,d,t,os'⟩:=s'
 obtain rfl:os'=s.os:=os
 exact ⟨v,H',I.call (h':=hh) (g':=g) (d':=d) (t':=t) (ch:=[]) un hok bare (fun b z=>absurd z (by simp)),r,q⟩
end
def Zfi (sp:Sp) (dvs:List V) (E:XK) (t:TA):TE:=fun σ H Q=>t σ H fun vs H1=>sp (vs++dvs) H1 Q E
def Binds (K:PySem.W.Frag) (fd:FuncData) (ps:List Str) (ds:List Value):Prop :=
 ∀ (s:Shared) (us:List Value),K.In s.heap->(us++ds).length=ps.length->BindsTo s fd ⟨us,[]⟩ (ps.zip (us++ds))
theorem Binds.all {K:PySem.W.Frag}{fd:FuncData}{ps:List Str}(h:∀ us:List Value,us.length=ps.length->bindArgs fd ⟨us,[]⟩=pure (ps.zip us)):Binds K fd ps []:=fun s us _ hl=>by
 rw [List.append_nil] at hl ⊢
 exact .of_eq (h us hl)
def Ze5 (CX:CXT) (X:Cx) (E:XK):Prop:=∀ (pins:List (Addr×Obj)) (σ:St) (H:Hp) (s:Shared) (e:Value) (s':Shared),Inv X pins σ H s->CX X.stack H s E e s'->X.xe e s'
section
variable {X:Cx}{CX:CXT}{k:Nat}{f C:Addr}{fd:FuncData}{ps:List Str}{sp:Sp}{dvs:List V}{ds:List Value}{E:XK}{x m:Str}{p pos apos:Pos}{e o:Expr}{es:List Expr}{ta:TE}{t:TA}
theorem Zua {pins:List (Addr×Obj)}{σ:St}{H:Hp}{s:Shared}{Q:VK}{us:List Value}{vs:List V}(F:FnOk X.prog X.w X.K X.mg X.base CX k f fd ps sp) (hr:Room k X.A) (hb:Binds X.K fd ps ds) (hd:Vals dvs ds) (hx:Ze5 CX X E)
  (I:Inv X pins σ H s) (r:Vals vs us) (h:sp (vs++dvs) H Q E):wpAny (model X.prog X.w) X.A (call (.ref f) us) (EP X pins σ Q) X.xe s:=by
 have r2:Vals (vs++dvs) (us++ds):=r.append hd
 have hl:(us++ds).length=ps.length:=by rw [← r2.length]; exact F.len _ _ _ _ h
 refine wpAny_call (codeAny_mono (F.run X.A X.stack s H ⟨us,[]⟩ (us++ds) (vs++dvs) Q E hr I.env0 (hb s us I.kIn hl) r2 h) fun r s' hq=>?_)
 cases r with
 | error e=>exact hx pins σ H s e s' I hq
 | ok fl =>
  cases fl with
  | ret u=>exact I.after hq
  | next=>exact False.elim hq
  | brk=>exact False.elim hq
  | cont=>exact False.elim hq
theorem Zsb (F:FnOk X.prog X.w X.K X.mg X.base CX k f fd ps sp) (hr:Room k X.A) (hg:Gl X x) (hm:X.mg x=some (.ref f)) (hk:PySem.W.keepIn X.K (.ref f)=true) (hb:Binds X.K fd ps ds) (hd:Vals dvs ds) (hx:Ze5 CX X E)
  (ha:PA X (e::es) t) (hdb:(x == ("__debug__" : Str))=false:=by decide) (he:starEach (e::es) X.env=(false,eval e X.env)::starEach es X.env:=by rfl) (hpl:(backTo pos (starEach es X.env)).any (·.1)=false:=by rfl) :
  PE X (.Call (.Name x p) (e::es) [] pos) (Zfi sp dvs E t):=by
 intro pins s σ H Q I h
 refine wpAny_Call_Name_kw (U6 I hg hm ?_ hdb)
 refine PySem.W.callWith_K (h₀:=X.base) I.ok.mod.kin hk (thn (ha pos pins s σ H _ I h) fun us s1 ⟨vs,H1,I1,r,q⟩=>⟨I1.kIn,?_⟩) he hpl
 exact Zua F hr hb hd hx I1 r q
structure Mk (K:PySem.W.Frag) (C f:Addr):Prop where
 makes:PySem.W.makesIn K C=true
 init:PySem.W.findIn K (.ref C) "__init__" = some (some (.ref f))
 fn:PySem.W.isFn K (.ref f)=true
 kp:PySem.W.keepIn K (.ref C)=true
end
section
variable {X:Cx}{CX:CXT}{k:Nat}{f C:Addr}{fd:FuncData}{ps ks:List Str}{sp:Sp}{E:XK}{x m:Str}{p pos apos kpos:Pos}{e o:Expr}{es:List Expr}{kws:List Keyword}{te ta:TE}{t tk:TA}{nm:Option Str}
structure KBinds (K:PySem.W.Frag) (fd:FuncData) (ps ks:List Str) (g:List Value->List Value->List Value) (gV:List V->List V->List V):Prop where
 to:∀ (s:Shared) (us ws:List Value),K.In s.heap->(g us ws).length=ps.length->BindsTo s fd ⟨us,ks.zip ws⟩ (ps.zip (g us ws))
 rel:∀ {vs:List V}{us:List Value}{zs:List V}{ws:List Value},Vals vs us->Vals zs ws->Vals (gV vs zs) (g us ws)
variable {g:List Value->List Value->List Value}{gV:List V->List V->List V}
end
structure FnScope (N P:List Str) (sc:Scope):Prop where
 kind:sc.kind = .function
 co:sc.isCoroutine=false
 gen:sc.isGenerator=false
 nd:N.Nodup
 pre:N.take P.length=P
 par:∀ x∈P,sc.names.lookup x=some .local\/sc.names.lookup x=some .cell
 nofree:∀ y∈sc.names,y.2 ≠ .free
theorem Zh8 {kindOf:Str->Option NameKind}{x:Str}:∀ {binds:List (Str×Value)}{m:Str->Option Value},(∀ v,(x,v)∉binds)->bindL kindOf binds m x=m x
 | [],_,_=>rfl
 | (n,v)::r,m,h=>by
  unfold bindL
  rw [Zh8 fun w hw=>h w (List.mem_cons_of_mem _ hw)]
  split
  ·have:x≠n:=by rintro rfl; exact h v List.mem_cons_self
   simp [this]
  ·rfl
theorem Zh9 {kindOf:Str->Option NameKind}{x:Str}:∀ {binds:List (Str×Value)}{m:Str->Option Value},(∀ v,(x,v)∉binds)->bindC kindOf binds m x=m x
 | [],_,_=>rfl
 | (n,v)::r,m,h=>by
  unfold bindC
  rw [Zh9 fun w hw=>h w (List.mem_cons_of_mem _ hw)]
  split
  ·rfl
  ·have:x≠n:=by rintro rfl; exact h v List.mem_cons_self
   simp [this]
theorem Zia {kindOf:Str->Option NameKind}{x:Str}{v:Value}:∀ {P:List Str}{vs:List Value}{i:Nat}{m:Str->Option Value},P.Nodup->P[i]? = some x->vs[i]? = some v->kindOf x=some .local ->
  bindL kindOf (P.zip vs) m x=some v
 | [],_,_,_,_,h,_,_=>by simp at h
 | _::_,[],_,_,_,_,h,_=>by simp at h
 | p::P,w::vs,0,m,nd,h1,h2,hk=>by
  simp at h1 h2; subst h1; subst h2
  show bindL kindOf ((p,w)::P.zip vs) m p=_
  unfold bindL
  rw [Zh8 fun v hv=>(List.nodup_cons.mp nd).1 (List.of_mem_zip hv).1,if_pos hk]
  simp
 | p::P,w::vs,i+1,m,nd,h1,h2,hk=>by
  show bindL kindOf ((p,w)::P.zip vs) m x=_
  unfold bindL
  exact Zia (i:=i) (List.nodup_cons.mp nd).2 (by simpa using h1) (by simpa using h2) hk
theorem Zib {kindOf:Str->Option NameKind}{x:Str}{v:Value}:∀ {P:List Str}{vs:List Value}{i:Nat}{m:Str->Option Value},P.Nodup->P[i]? = some x->vs[i]? = some v->kindOf x≠some .local ->
  bindC kindOf (P.zip vs) m x=some v
 | [],_,_,_,_,h,_,_=>by simp at h
 | _::_,[],_,_,_,_,h,_=>by simp at h
 | p::P,w::vs,0,m,nd,h1,h2,hk=>by
  simp at h1 h2; subst h1; subst h2
  show bindC kindOf ((p,w)::P.zip vs) m p=_
  unfold bindC
  rw [Zh9 fun v hv=>(List.nodup_cons.mp nd).1 (List.of_mem_zip hv).1,if_neg hk]
  simp
 | p::P,w::vs,i+1,m,nd,h1,h2,hk=>by
  show bindC kindOf ((p,w)::P.zip vs) m x=_
  unfold bindC
  exact Zib (i:=i) (List.nodup_cons.mp nd).2 (by simpa using h1) (by simpa using h2) hk
def Yv (N:List Str) (vs:List V):St:=vs.map some++List.replicate (N.length - vs.length) none
def Yl (CX:CXT) (P:Program) (w:World) (K:PySem.W.Frag) (mg:Str->Option Value) (base:Heap) (N:List Str) (qual:Str) (scope:Scope) (f:Addr) (cd:Value) (A:Around) (outer:List Env) (s:Shared) (H:Hp) (E:XK):Cx where
 prog:=P
 w:=w
 K:=K
 mg:=mg
 base:=base
 A:=A.deeper (envOfC qual scope s.heap.objs.size f cd)
 N:=N
 s₀:=s
 H₀:=H
 env:=envOfC qual scope s.heap.objs.size f cd
 outer:=outer
 stack:=envOfC qual scope s.heap.objs.size f cd::outer
 ex:=[]
 calm:=true
 fn:=fun _=>true
 pn:=[]
 xe:=fun e s'=>wpAny (model P w) (A.deeper (envOfC qual scope s.heap.objs.size f cd)) (leaving (envOfC qual scope s.heap.objs.size f cd) e) (fun _ s''=>CX outer H s E e s'') (fun e' s''=>CX outer H s E e' s'') s'
theorem Zir {sc:Scope}{n:Nat}{x:Str}(h:sc.names.lookup x=some .cell):∃ c,(cellsFrom n sc.names []).lookup x=some c:=by
 have q:=PySem.W.cellsFrom_some sc.names n [] (.inl h)
 exact Option.isSome_iff_exists.mp q
theorem Zic {CX:CXT}{P:Program}{w:World}{K:PySem.W.Frag}{mg:Str->Option Value}{base:Heap}{N ps:List Str}{qual:Str}{scope:Scope}{f:Addr}{cd:Value}{A:Around}{outer:List Env}{s s1:Shared}{H:Hp}{E:XK}{us:List Value}{vs:List V}
  (S:FnScope N ps scope) (hd:A.handled=none) (e0:Env0 P w K mg base A outer s H) (hl:vs.length=ps.length) (r:Vals vs us)
  (x:InCallC s s.heap.objs.size (bindL (envOfC qual scope s.heap.objs.size f cd).kindOf (ps.zip us) fun _=>none) (cellsFrom (s.heap.objs.size+1) scope.names []) (bindC (envOfC qual scope s.heap.objs.size f cd).kindOf (ps.zip us) fun _=>none) s1) :
  Inv (Yl CX P w K mg base N qual scope f cd A outer s H E) [] (Yv N vs) H s1:=by
 have hpl:ps.length<=N.length:=by have:=congrArg List.length S.pre; rw [List.length_take] at this; lia
 obtain ⟨h1,tk,rfl,hk⟩:=x.done
 have noA:∀ b:Addr,b∉(Yl CX P w K mg base N qual scope f cd A outer s H E).ex:=fun b z=>absurd (show b∈([]:List Addr) from z) (by simp)
 refine ⟨⟨e0.mod,S.kind,rfl,rfl,Nat.le_refl _,fun y z c h1 h2=>?_,fun y hy=>?_,fun y c _ h=>?_,fun _=>hd,Around.frames_deeper e0.frames,.inr ⟨rfl,rfl⟩,fun b z=>absurd z (noA b),e0.bs,e0.bsz,fun b _ _=>noA b,fun b z=>absurd z (noA b),e0.funs,e0.frf⟩,
  rfl,e0.bare,Un.kept hk,⟨_,x.toInCall.ns,fun i y v h1 h2 h3=>?_⟩,fun y c h=>⟨_,x.cell y c h⟩,e0.hok.fresh (Nat.le_refl _),fun y c h=>?_,fun p hp=>absurd (show p∈([]:List (Addr×Obj)) from hp) (by simp),e0.hok.kept hk,?_⟩
 ·exact name_of_addr x.apart (PySem.mem_of_lookup h1) (PySem.mem_of_lookup h2)
 ·have hy:scope.names.lookup y=some .cell\/scope.names.lookup y=some .free:=hy
  rcases hy with hy | hy
  ·exact Zir hy
  ·exact absurd rfl (S.nofree _ (PySem.mem_of_lookup hy))
 ·exact Nat.le_of_lt (x.above y c (PySem.mem_of_lookup h))
 ·have hi:i < vs.length:=by
   unfold Yv at h2
   by_cases hi:i < vs.length
   ·exact hi
   ·rw [List.getElem?_append_right (by simpa using hi)] at h2
    rw [List.getElem?_replicate] at h2
    split at h2 <;> cases h2
  have ha:vs[i]? = some v:=by
   unfold Yv at h2
   rw [List.getElem?_append_left (by simpa using hi),List.getElem?_map] at h2
   cases e:vs[i]? with
   | none=>rw [e] at h2; cases h2
   | some a=>rw [e] at h2; cases h2; rfl
  obtain ⟨u,hu,rv⟩:=r.get ha
  have hp:ps[i]? = some y:=by
   rw [← S.pre,List.getElem?_take_of_lt (by lia)]; exact h1
  have ndP:ps.Nodup:=by rw [← S.pre]; exact S.nd.sublist (List.take_sublist _ _)
  refine ⟨u,rv,?_⟩
  rcases S.par y (List.mem_of_getElem? hp) with k | k
  ·exact .inl ⟨k,Zia ndP hp hu k⟩
  ·obtain ⟨c,e⟩:=Zir (n:=s.heap.objs.size+1) k
   refine .inr ⟨.inl k,c,e,?_⟩
   have q:=x.cell y c e
   rw [Zib ndP hp hu (by show scope.names.lookup y≠_; rw [k]; decide)] at q
   exact q
 ·exact e0.hok.fresh (Nat.le_of_lt (x.above y c (PySem.mem_of_lookup h)))
 ·unfold Yv
  show _=N.length
  rw [List.length_append,List.length_map,List.length_replicate]
  lia
theorem Zlc {CX:CXT}{P:Program}{w:World}{K:PySem.W.Frag}{mg:Str->Option Value}{base:Heap}{k:Nat}{f:Addr}{name qual:Str}{params:Arguments}{body:List Stmt}{scope:Scope}{dV kV doc pm cdv ct oc:Value}{an od:Option Addr}
  {osl:Array (Option Value)}{N ps:List Str}{sp:Sp}(lk:K.lookup f=some ⟨oc,od,.func (PySem.W.fnOf name qual params body scope dV kV doc pm an cdv ct),osl⟩) (hcd:PySem.W.codeIn K cdv qual=true) (S:FnScope N ps scope)
  (len:∀ vs H Q E,sp vs H Q E->vs.length=ps.length)
  (hbody:∀ (A:Around) (outer:List Env) (s:Shared) (H:Hp) (vs:List V) (Q:VK) (E:XK),Room k (A.deeper (envOfC qual scope s.heap.objs.size f cdv))->sp vs H Q E ->
   ∃ t,PSs (Yl CX P w K mg base N qual scope f cdv A outer s H E) body t/\t {nx:=fun _ H'=>Q .non H',rt:=Q } (Yv N vs) H) :
  FnOk P w K mg base CX (k+1) f (PySem.W.fnOf name qual params body scope dV kV doc pm an cdv ct) ps sp:=by
 refine ⟨len,fun A outer s H args us vs Q E hr e0 hb r hsp=>?_⟩
 have hl:=len _ _ _ _ hsp
 have KX:K.In s.heap:=e0.mod.kin.keeps fun b o e=>(e0.bs b o e).1
 have lim:s.heap.NoLimit:=e0.mod.nolimit.keeps fun b o e=>(e0.bs b o e).1
 have hkind:∀ y∈ps.zip us,scope.names.lookup y.1=some .local\/(scope.names.lookup y.1=some .cell/\((cellsFrom (s.heap.objs.size+1) scope.names []).lookup y.1).isSome=true):=fun ⟨n,v⟩ hy=>by
  rcases S.par n (List.of_mem_zip hy).1 with q | q
  ·exact .inl q
  ·exact .inr ⟨q,PySem.W.cellsFrom_some _ _ _ (.inl q)⟩
 refine codeAny_call_function hr.depth (KX _ _ lk) rfl S.co S.gen rfl (PySem.W.codeRec_of KX hcd) (hb _ _ _ _ ?_)
 refine wpAny_newFunctionEnv_cells S.kind hkind fun env he s1 x=>?_
 subst he
 refine ⟨lim.keeps x.toInCall.keep,codeAny_func ?_⟩
 obtain ⟨t,ht,hq⟩:=hbody A outer s H vs Q E (hr.deeper _) hsp
 have I:Inv (Yl CX P w K mg base N qual scope f cdv A outer s H E) [] (Yv N vs) H s1:=Zic S hr.hd e0 hl r x
 refine wpAny_mono (ht [] s1 (Yv N vs) H _ I hq) (fun fl s' hs=>?_) fun e s' hs=>hs
 have fin:∀ {σ':St}{H':Hp}{v:V}{u:Value},Inv (Yl CX P w K mg base N qual scope f cdv A outer s H E) [] σ' H' s'->RelV v u->Q v H'->CE outer P w H s Q u s' :=
  fun {σ' H' v u} J rv q=>⟨v,H',J.os,J.bare,J.base,J.hok,rv,q⟩
 cases fl with
 | ret u =>
  obtain ⟨v,σ',H',J,rv,q⟩:=hs
  exact fin J rv q
 | next =>
  obtain ⟨σ',H',J,q⟩:=hs
  exact fin (v:=V.non) (u:=Value.none) J rfl q
 | brk =>
  obtain ⟨_,_,_,q⟩:=hs
  exact False.elim q
 | cont =>
  obtain ⟨_,_,_,q⟩:=hs
  exact False.elim q
end L2
namespace L2
open PySem PySem.Spec PyProof.Rows
section
variable {X:Cx}{x:Str}{p pos:Pos}{e:Expr}{es:List Expr}{t:TA}{id T:String}{r:List V->Hp->VK->Prop}
def tCB (r:List V->Hp->VK->Prop) (t:TA):TE:=fun σ H Q=>t σ H fun vs H1=>r vs H1 Q
theorem Zqe (hc:Wb X (.builtin id) r) (hg:Gl X x) (hm:X.mg x=none) (hv:bootBuiltins x=some (.builtin id)) (ha:PA X (e::es) t) (hn:x ≠ "__name__" := by decide) (hdb:(x == ("__debug__" : Str))=false:=by decide)
  (he:starEach (e::es) X.env=(false,eval e X.env)::starEach es X.env:=by rfl) (hpl:(backTo pos (starEach es X.env)).any (·.1)=false:=by rfl):PE X (.Call (.Name x p) (e::es) [] pos) (tCB r t):=by
 intro pins s σ H Q I h
 refine wpAny_Call_Name_kw (Ud I hg hm hv ?_ hn hdb)
 exact PyProof.Rows.callWith_builtin1 (thn (ha pos pins s σ H _ I h) fun us s1 ⟨vs,H1,I1,r1,q1⟩=>hc pins s1 σ H1 vs us Q I1 r1 q1) he hpl
theorem Zpk (hc:Wb X (.type T) r) (hg:Gl X x) (hm:X.mg x=none) (hv:bootBuiltins x=some (.type T)) (ha:PA X (e::es) t) (hn:x ≠ "__name__" := by decide) (hdb:(x == ("__debug__" : Str))=false:=by decide)
  (he:starEach (e::es) X.env=(false,eval e X.env)::starEach es X.env:=by rfl) (hpl:(backTo pos (starEach es X.env)).any (·.1)=false:=by rfl):PE X (.Call (.Name x p) (e::es) [] pos) (tCB r t):=by
 intro pins s σ H Q I h
 refine wpAny_Call_Name_kw (Ud I hg hm hv ?_ hn hdb)
 exact PyProof.Rows.callWith_type1 (thn (ha pos pins s σ H _ I h) fun us s1 ⟨vs,H1,I1,r1,q1⟩=>hc pins s1 σ H1 vs us Q I1 r1 q1) he hpl
end
end L2
namespace HT
open PySem PyProof.Rows
section
open PySem.SeqAt
open PySem.AutoSeq1 (wpAny_loadPart')
open PySem.MeetsSeq PySem.MeetsSeq2 PySem.MeetsSeq3
end
section
variable {prog:Program}{w:World}{A:Around}{E:Value->Shared->Prop}{s:Shared}
def sIx (n d:Nat):Option Int->Nat
 | none=>d
 | some v=>if v < 0 then (v+(n:Int)).toNat else min v.toNat n
theorem sIx_none (n d:Nat):sIx n d none=d:=rfl
theorem sIx_nat (n d k:Nat):sIx n d (some (k:Int))=min k n:=by
 show (if (k:Int) < 0 then ((k:Int)+(n:Int)).toNat else min (k:Int).toNat n)=min k n
 rw [if_neg (by lia),Int.toNat_natCast]
theorem Zub (n d:Nat) (hd:d<=n) (o:Option Int):sIx n d o<=n:=by
 cases o with
 | none=>exact hd
 | some v =>
  show (if v < 0 then (v+(n:Int)).toNat else min v.toNat n)<=n
  by_cases hv:v < 0
  ·rw [if_pos hv]; lia
  ·rw [if_neg hv]; exact Nat.min_le_right _ _
theorem Zi9 (v:Int) (n d:Nat):(if v < 0 then max (v+(n:Int)) 0 else min v (n:Int))=((sIx n d (some v):Nat):Int):=by
 show (if v < 0 then max (v+(n:Int)) 0 else min v (n:Int))=(((if v < 0 then (v+(n:Int)).toNat else min v.toNat n):Nat):Int)
 by_cases hv:v < 0
 ·simp only [if_pos hv]; lia
 ·simp only [if_neg hv]; lia
theorem Zov (lo hi:Option Int) (n:Nat):Builtin.Slice.sliceAdjust lo hi 1 (n:Int)=(((sIx n 0 lo:Nat):Int),((sIx n n hi:Nat):Int)):=by
 have h1:¬ ((1:Int) < 0):=by lia
 unfold Builtin.Slice.sliceAdjust
 simp only [h1,if_false]
 refine Prod.ext ?_ ?_
 ·cases lo with
  | none=>rfl
  | some v=>exact Zi9 v n 0
 ·cases hi with
  | none=>rfl
  | some v=>exact Zi9 v n n
theorem Zow (i j:Nat):Builtin.Slice.slicePlaces (i:Int) (j:Int) 1=j - i:=by
 unfold Builtin.Slice.slicePlaces
 have h1:(1:Int) > 0:=by lia
 simp only [h1,if_true,Int.ediv_one]
 split <;> lia
theorem Zhw {v:Value}{o:Option Int}{Q:Option Int->Shared->Prop}(p:IsPart v o) (h:Q o s):wpAny (model prog w) A (Builtin.Slice.slicePartIndex v) Q E s:=by
 cases p with
 | none=>exact slicePart_none h
 | int i t=>exact slicePart_int h
theorem Zn1 {sl:Addr}{vl vu:Value}{lo hi:Option Int}{n:Nat}{Q:Int×Int×Nat->Shared->Prop}(hs:s.heap.IsSliceOf sl vl vu .none) (pl:IsPart vl lo) (pu:IsPart vu hi)
  (h:Q (((sIx n 0 lo:Nat):Int),1,sIx n n hi - sIx n 0 lo) s):wpAny (model prog w) A (Builtin.Slice.sliceApplied (.ref sl) (pure (n:Int))) Q E s:=by
 obtain ⟨os,hos,hcs,hds⟩:=id hs
 unfold Builtin.Slice.sliceApplied Builtin.Slice.sliceFields
 refine wpAny_bind (wpAny_bind (wpAny_field hos hds (x:=vl) rfl (wpAny_bind (wpAny_field hos hds (x:=vu) rfl (wpAny_bind (wpAny_field hos hds (x:=.none) rfl (wpAny_pure ?_)))))))
 refine wpAny_bind (slicePart_none ?_)
 show wpAny _ _ (if ((1:Int) == 0)=true then _ else _) _ _ s
 rw [if_neg (by decide)]
 refine wpAny_bind (Zhw pl (wpAny_bind (Zhw pu (wpAny_bind (wpAny_pure ?_)))))
 show wpAny _ _ (match Builtin.Slice.sliceAdjust lo hi 1 (n:Int) with | (lo,hi)=>pure (lo,(1:Int),Builtin.Slice.slicePlaces lo hi 1)) _ _ s
 rw [Zov lo hi n]
 show wpAny _ _ (pure (((sIx n 0 lo:Nat):Int),(1:Int),Builtin.Slice.slicePlaces ((sIx n 0 lo:Nat):Int) ((sIx n n hi:Nat):Int) 1)) _ _ s
 rw [Zow]
 exact wpAny_pure h
theorem Zqf (xs:Array Value) (i k:Nat):((List.range k).filterMap fun (m:Nat)=>xs[((i:Int)+(m:Int) * 1).toNat]?).toArray=((xs.toList.drop i).take k).toArray:=by
 have e:(fun (m:Nat)=>xs[((i:Int)+(m:Int) * 1).toNat]?)=fun m=>xs[i+m]?:=by
  funext m
  have:((i:Int)+(m:Int) * 1).toNat=i+m:=by lia
  rw [this]
 rw [e]
 have:=pick_run xs i k
 rw [List.filterMap_map] at this
 have e2:((fun x=>xs[x]?)∘fun x=>i+x)=fun m=>xs[i+m]?:=rfl
 rw [e2] at this
 rw [this]
theorem getItem_tuple_cut {t sl:Addr}{items:Array Value}{vl vu:Value}{lo hi:Option Int}{Q:Value->Shared->Prop}(ht:IsTup s.heap t items) (hs:s.heap.IsSliceOf sl vl vu .none) (pl:IsPart vl lo) (pu:IsPart vu hi)
  (hw:¬ (sIx items.size 0 lo=0/\sIx items.size items.size hi=items.size))
  (h:Q (.ref s.heap.objs.size) {s with heap:=s.heap.push {cls:=.type "tuple", data:=.seq ((items.toList.drop (sIx items.size 0 lo)).take (sIx items.size items.size hi - sIx items.size 0 lo)).toArray } })
  (hsz:items.size<=sizeLine):wpAny (model prog w) A (getItem (.ref t) (.ref sl)) Q E s:=by
 have htake:sizeOk (.seq ((items.toList.drop (sIx items.size 0 lo)).take (sIx items.size items.size hi - sIx items.size 0 lo)).toArray):=by
  show ((items.toList.drop (sIx items.size 0 lo)).take (sIx items.size items.size hi - sIx items.size 0 lo)).toArray.size<=sizeLine
  rw [List.size_toArray,List.length_take,List.length_drop,Array.length_toList]
  lia
 have hj:sIx items.size items.size hi<=items.size:=Zub _ _ (Nat.le_refl _) hi
 obtain ⟨os,hos,hcs,hds⟩:=id hs
 have hTs:s.TypeIs (.ref sl) "slice" := ⟨os,hos,hcs⟩
 unfold getItem
 try with_reducible refine wpAny_holding ?_
 first | refine wpAny_bind (wpAny_pure ?_) | skip
 refine wpAny_bind (wpAny_sequenceKey ht.typeIs (by decide) ?_)
 refine wpAny_bind (wpAny_callSpecial?_slot (name:=Str.ofString "__getitem__") ht.typeIs PyProof.Rows.slot_tuple_getitem
  (wpAny_call_entry PyProof.Rows.slot_tuple_getitem ht.typeIs entry_tuple_getitem ?_ (args_tuple_getitem _ _)))
 show wpAny _ _ (Builtin.Tuple.tupleItemsOf (.ref t) >>= _) _ _ s
 refine wpAny_bind (tupleItemsOf_ ht ?_)
 refine wpAny_bind (wpAny_typeOf hTs ?_)
 rw [if_pos (by decide)]
 refine wpAny_bind (Zn1 hs pl pu ?_)
 have hno:¬ ((((sIx items.size 0 lo:Nat):Int) == 0 && (1:Int) == 1 && (sIx items.size items.size hi - sIx items.size 0 lo) == items.size)=true):=by
  intro q
  rw [Bool.and_eq_true,Bool.and_eq_true] at q
  have q1:((sIx items.size 0 lo:Nat):Int)=0:=eq_of_beq q.1.1
  have q2:sIx items.size items.size hi - sIx items.size 0 lo=items.size:=eq_of_beq q.2
  exact hw ⟨by lia,by lia⟩
 show wpAny _ _ (if (((sIx items.size 0 lo:Nat):Int) == 0 && (1:Int) == 1 && (sIx items.size items.size hi - sIx items.size 0 lo) == items.size)=true then _ else _) _ _ s
 rw [if_neg hno,Zqf]
 first
  | exact wpAny_bind (m:=Builtin.Tuple.tupleExact _) (wpAny_newObj_type (wpAny_pure ⟨_,rfl,wpAny_pure h⟩) htake)
  | exact wpAny_bind (m:=Builtin.Tuple.tupleExact _) (wpAny_newObj_type (wpAny_bind (wpAny_pure (wpAny_pure ⟨_,rfl,wpAny_pure h⟩))) htake)
  | exact wpAny_bind (wpAny_bind (m:=Builtin.Tuple.tupleExact _) (wpAny_newObj_type (wpAny_pure (wpAny_pure ⟨_,rfl,wpAny_pure h⟩)) htake))
  | exact wpAny_bind (wpAny_bind (m:=Builtin.Tuple.tupleExact _) (wpAny_newObj_type (wpAny_pure ⟨_,rfl,wpAny_pure h⟩) htake))
end
end HT
namespace L2
open PySem PySem.Spec PyProof.Rows
abbrev TO:=St->Hp->(Option Int->Hp->Prop)->Prop
def PO (X:Cx) (e:Option Expr) (t:TO):Prop :=
 ∀ (pins:List (Addr×Obj)) (s:Shared) (σ:St) (H:Hp) (Q:Option Int->Hp->Prop),Inv X pins σ H s->t σ H Q ->
  wpAny (model X.prog X.w) X.A (evalPart e X.env) (fun u s'=>∃ o H',Inv X pins σ H' s'/\IsPart u o/\Q o H') X.xe s
def Zja:TO:=fun _ H Q=>Q none H
def Zld (t:TE):TO:=fun σ H Q=>t σ H fun x H1=>∃ i,x = .int i/\Q (some i) H1
section
variable {X:Cx}{e:Expr}{te:TE}{lo hi:Option Expr}{tl th:TO}{pos p2:Pos}
theorem Zsc:PO X none Zja:=by
 intro pins s σ H Q I h
 rw [evalPart_none]
 exact wpAny_pure ⟨none,H,I,.none,h⟩
theorem Zsd (h:PE X e te):PO X (some e) (Zld te):=by
 intro pins s σ H Q I hw
 rw [evalPart_some]
 refine thn (h pins s σ H _ I hw) fun u s1 ⟨x,H1,I1,r1,q1⟩=>?_
 obtain ⟨i,rfl,q⟩:=q1
 obtain ⟨t,rfl⟩:=r1
 exact ⟨some i,H1,I1,.int i t,q⟩
def SlR (X:Cx) (r:V->Option Int->Option Int->Hp->VK->Prop):Prop :=
 ∀ (pins:List (Addr×Obj)) (s:Shared) (σ:St) (H:Hp) (x:V) (v vl vu:Value) (lo hi:Option Int) (sl:Addr) (Q:VK),Inv X pins σ H s->RelV x v->s.heap.IsSliceOf sl vl vu .none->IsPart vl lo->IsPart vu hi->r x lo hi H Q ->
  ∃ T id,typeLookup (.type T) "__getitem__" = pure (some (.builtin id))/\s.TypeIs v T/\wpAny (model X.prog X.w) X.A (getItem v (.ref sl)) (EP X pins σ Q) X.xe s
def tSl (r:V->Option Int->Option Int->Hp->VK->Prop) (te:TE) (tl th:TO):TE:=fun σ H Q=>te σ H fun x H1=>tl σ H1 fun l H2=>th σ H2 fun u H3=>r x l u H3 Q
theorem Zqg {r:V->Option Int->Option Int->Hp->VK->Prop}(hr:SlR X r) (he:PE X e te) (hl:PO X lo tl) (hu:PO X hi th):PE X (.Subscript e (.Slice lo hi none p2) pos) (tSl r te tl th):=by
 intro pins s σ H Q I h
 refine Subscript_ (thn (he pins s σ H _ I h) fun v s1 ⟨x,H1,I1,r1,q1⟩=>?_)
 refine wpAny_Slice (thn (hl pins s1 σ H1 _ I1 q1) fun vl s2 ⟨l,H2,I2,pl,q2⟩=>thn (hu pins s2 σ H2 _ I2 q2) fun vu s3 ⟨u,H3,I3,pu,q3⟩=>?_)
 rw [evalPart_none]
 refine wpAny_pure ?_
 have I4:Inv X pins σ H3 {s3 with heap:=s3.heap.push {cls:=.type "slice", data:=.fields #[vl,vu,.none] } }:=I3.kept (t':=s3.toks) fun b ob q=>Heap.get?_push_of_some _ q
 obtain ⟨T,id,hT,ht,hg⟩:=hr pins {s3 with heap:=s3.heap.push {cls:=.type "slice", data:=.fields #[vl,vu,.none] } } σ H3 x v vl vu l u s3.heap.objs.size Q I4 r1 (Heap.IsSliceOf.new ..) pl pu q3
 show wpAny (model X.prog X.w) X.A (subscriptTail e (.Slice lo hi none p2) v (.ref s3.heap.objs.size)) (EP X pins σ Q) X.xe {s3 with heap:=s3.heap.push {cls:=.type "slice", data:=.fields #[vl,vu,.none] } }
 exact tail_any (ops:=[.ref s3.heap.objs.size,v]) ht hT hg (by with_unfolding_all rfl)
def Z1 (xs:List V) (lo hi:Option Int):List V:=(xs.drop (HT.sIx xs.length 0 lo)).take (HT.sIx xs.length xs.length hi - HT.sIx xs.length 0 lo)
theorem Zhs (xs:List V) (lo hi:Option Int):(Z1 xs lo hi).length<=xs.length:=by
 unfold Z1
 rw [List.length_take,List.length_drop]
 lia
def Zms (K:PySem.W.Frag):V->Option Int->Option Int->Hp->VK->Prop:=fun x lo hi H Q=>∃ a xs,x = .ref a/\SqT K H a xs /\
 ¬ (HT.sIx xs.length 0 lo=0/\HT.sIx xs.length xs.length hi=xs.length)/\∀ p,H p=none->Q (.ref p) (upd H p (.tup (Z1 xs lo hi)))
theorem Zuc:SlR X (Zms X.K):=by
 intro pins s σ H x v vl vu lo hi sl Q I rx hs pl pu h
 obtain ⟨a,xs,rfl,hx,hw,q⟩:=h
 cases rx
 obtain ⟨its,r,ht,hz⟩:=I.tuple hx
 have hlen:its.toArray.size=xs.length:=by rw [List.size_toArray]; exact r.length.symm
 refine ⟨"tuple", _,PyProof.Rows.slot_tuple_getitem.lookup,ht.typeIs,?_⟩
 refine HT.getItem_tuple_cut ht hs pl pu (by rw [hlen]; exact hw) ?_ (by rw [hlen]; exact hz)
 rw [hlen]
 refine ⟨.ref s.heap.objs.size,_,I.laid (t':=s.toks) (o:=.tup (Z1 xs lo hi)) (fun b ob q=>Heap.get?_push_of_some _ q) (Nat.le_refl _) ?_,rfl,q _ (I.hok.fresh (Nat.le_refl _))⟩
 exact ⟨Nat.le_trans (Zhs xs lo hi) hz,_,(r.drop (HT.sIx xs.length 0 lo)).take (HT.sIx xs.length xs.length hi - HT.sIx xs.length 0 lo),IsTup.new _ _⟩
end
end L2
namespace L2
open PySem PySem.Spec PyProof.Rows
def ixN (n:Nat) (i:Int):Option Nat:=if 0<=i then (if i < n then some i.toNat else none) else if -(n:Int)<=i then some (i+n).toNat else none
def atI {α:Type}(xs:List α) (i:Int):Option α:=(ixN xs.length i).bind fun j=>xs[j]?
theorem Zjb {n:Nat}{i:Int}{j:Nat}(h:ixN n i=some j):seqIndex? i n=some j/\j < n /\ -(n:Int)<=i/\i < n:=by
 unfold ixN at h
 by_cases h0 : 0<=i
 ·rw [if_pos h0] at h
  by_cases h1:i < n
  ·rw [if_pos h1] at h
   have e:i.toNat=j:=Option.some.inj h
   exact ⟨by rw [seqIndex_of h0 h1,e],by lia,by lia,h1⟩
  ·rw [if_neg h1] at h; cases h
 ·rw [if_neg h0] at h
  by_cases h1 : -(n:Int)<=i
  ·rw [if_pos h1] at h
   have e:(i+n).toNat=j:=Option.some.inj h
   exact ⟨by rw [seqIndex_neg (by lia) h1,e],by lia,h1,by lia⟩
  ·rw [if_neg h1] at h; cases h
theorem Zep {α:Type}{xs:List α}{i:Int}{v : α}(h:atI xs i=some v):∃ j,seqIndex? i xs.length=some j/\xs[j]? = some v/\j < xs.length /\ -(xs.length:Int)<=i/\i < xs.length:=by
 unfold atI at h
 cases e:ixN xs.length i with
 | none=>rw [e] at h; cases h
 | some j =>
  rw [e] at h
  obtain ⟨h1,h2,h3,h4⟩:=Zjb e
  exact ⟨j,h1,h,h2,h3,h4⟩
theorem Yz {α:Type}{xs:List α}{j:Nat}{v : α}(h:xs[j]? = some v):atI xs (j:Int)=some v:=by
 have hj:j < xs.length:=(List.getElem?_eq_some_iff.mp h).1
 have e:ixN xs.length (j:Int)=some j:=by
  unfold ixN
  rw [if_pos (by lia),if_pos (by lia)]; simp
 unfold atI; rw [e]; exact h
def Zjc (b:Expr):Prop:=∀ o i,subscripted b false o i=operate [o,i] (getItem o i)
def IxR (X:Cx) (r:R2):Prop :=
 ∀ (value slice:Expr) (pins:List (Addr×Obj)) (s:Shared) (σ:St) (H:Hp) (x y:V) (v u:Value) (Q:VK),Inv X pins σ H s->RelV x v->RelV y u->r x y H Q ->
  subscripted slice false v u=operate [v,u] (getItem v u)->wpAny (model X.prog X.w) X.A (subscriptTail value slice v u) (EP X pins σ Q) X.xe s
def MtR (X:Cx) (id:String) (r:V->List V->Hp->VK->Prop):Prop :=
 ∀ (pins:List (Addr×Obj)) (s:Shared) (σ:St) (H:Hp) (x:V) (xs:List V) (v:Value) (us:List Value) (Q:VK),Inv X pins σ H s->RelV x v->Vals xs us->r x xs H Q ->
  wpAny (model X.prog X.w) X.A (call (.builtin id) (v::us)) (EP X pins σ Q) X.xe s
section
variable {X:Cx}{a b:Expr}{ta tb:TE}{pos:Pos}
theorem Zvk {r:R2}(hr:IxR X r) (ha:PE X a ta) (hb:PE X b tb) (hs:Zjc b):PE X (.Subscript a b pos) (tOp r ta tb):=by
 intro pins s σ H Q I h
 exact Subscript_ (Zgm ha hb I h fun v u s2 x y H2 I2 rx ry q=>hr a b pins s2 σ H2 x y v u Q I2 rx ry q (hs _ _))
def Zgp (K:PySem.W.Frag):R2:=fun x y H Q=>∃ p xs i v,x = .ref p/\y = .int i/\SqL K H p xs/\atI xs i=some v/\Q v H
def Zmt (K:PySem.W.Frag):R2:=fun x y H Q=>∃ p xs i v,x = .ref p/\y = .int i/\SqT K H p xs/\atI xs i=some v/\Q v H
def Zmu:R2:=fun x y H Q=>∃ z i c,x = .str z/\y = .int i/\z.length<=sizeLine/\atI z.cps.toList i=some c/\Q (.str ⟨#[c]⟩) H
theorem Zjd:IxR X (Zgp X.K):=by
 intro value slice pins s σ H x y v u Q I rx ry h hs
 obtain ⟨p,xs,i,z,rfl,rfl,hq,he,q⟩:=h
 cases rx
 obtain ⟨t,rfl⟩:=ry
 obtain ⟨its,r,pl,hz⟩:=I.list hq
 obtain ⟨j,h1,h2,h3,h4,h5⟩:=Zep he
 obtain ⟨w,ew,rw'⟩:=r.get h2
 have hl:=r.length
 have hn:=Zac
 have fin:EP X pins σ Q w s:=⟨z,H,I,rw',q⟩
 by_cases h0 : 0<=i
 ·have hj:i.toNat=j:=by
   rw [seqIndex_of h0 h5] at h1
   exact Option.some.inj h1
  exact item_listR pl.isList h0 (by lia) (by rw [hj]; simpa using ew) fin hs
 ·have hj:(i+(its.toArray.size:Int)).toNat=j:=by
   rw [seqIndex_neg (by lia) h4] at h1
   rw [List.size_toArray,← hl]
   exact Option.some.inj h1
  exact subscriptTail_builtinR (x:=w) pl.isList.typeIs slot_list_getitem.lookup
   (wpAny_getItem_list_neg (Q:=fun r s'=>r=w/\EP X pins σ Q r s') pl.isList (by lia) (by rw [List.size_toArray] <;> lia) (by lia) (by rw [hj]; simpa using ew) ⟨rfl,fin⟩) hs
theorem Zud:IxR X (Zmt X.K):=by
 intro value slice pins s σ H x y v u Q I rx ry h hs
 obtain ⟨p,xs,i,z,rfl,rfl,hq,he,q⟩:=h
 cases rx
 obtain ⟨t,rfl⟩:=ry
 obtain ⟨its,r,pl,hz⟩:=I.tuple hq
 obtain ⟨j,h1,h2,h3,h4,h5⟩:=Zep he
 obtain ⟨w,ew,rw'⟩:=r.get h2
 have hl:=r.length
 have hn:=Zac
 have fin:EP X pins σ Q w s:=⟨z,H,I,rw',q⟩
 exact subscriptTail_builtinR (x:=w) pl.typeIs slot_tuple_getitem.lookup
  (getItem_tuple (j:=j) (Q:=fun r s'=>r=w/\EP X pins σ Q r s') pl (by lia) (by lia) (by rw [List.size_toArray,← hl]; exact h1) (by simpa using ew) ⟨rfl,fin⟩) hs
theorem Zue:IxR X Zmu:=by
 intro value slice pins s σ H x y v u Q I rx ry h hs
 obtain ⟨z,i,c,rfl,rfl,hz,he,q⟩:=h
 obtain ⟨t,rfl⟩:=rx
 obtain ⟨t',rfl⟩:=ry
 obtain ⟨j,h1,h2,h3,h4,h5⟩:=Zep he
 have hl:z.cps.toList.length=z.length:=by simp [Str.length]
 rw [hl] at h1 h4 h5
 have hn:=Zac
 exact tail_any (typeIs_str s z t) slot_str_getitem.lookup (getItem_str (c:=c) (by
  have e1:decide (i < -(2 ^ 63:Int))=false:=decide_eq_false (by lia)
  have e2:decide (i>=2 ^ 63)=false:=decide_eq_false (by lia)
  rw [e1,e2,Bool.or_false]) (by rw [h1]; simpa using h2) ⟨.str ⟨#[c]⟩,H,I.tok _,⟨_,rfl⟩,q⟩) hs
theorem Zox (its:List Value) (n j:Nat) (u:Value):Obj.mapSeq (·.setIfInBounds j u) {cls:=.type "list", data:=.seq its.toArray n }={cls:=.type "list", data:=.seq (its.set j u).toArray n }:=by
 simp [Obj.mapSeq]
theorem Inv.lst {pins:List (Addr×Obj)}{σ:St}{H:Hp}{s:Shared}{p:Addr}{xs:List V}(I:Inv X pins σ H s) (h:H p=some (.lst xs)) :
  ∃ (its:List Value) (n:Nat),Vals xs its/\s.heap.get? p=some {cls:=.type "list", data:=.seq its.toArray n }/\xs.length<=sizeLine:=by
 obtain ⟨z,its,n,r,e⟩:=I.hok p _ h
 exact ⟨its,n,r,e,z⟩
theorem Inv.lstUpd {pins:List (Addr×Obj)}{σ:St}{H:Hp}{s:Shared}{p:Addr}{xs ys:List V}{its its':List Value}{n n':Nat}{f:Obj->Obj}(I:Inv X pins σ H s) (h:H p=some (.lst xs))
  (ho:s.heap.get? p=some {cls:=.type "list", data:=.seq its.toArray n }) (hf:f {cls:=.type "list", data:=.seq its.toArray n }={cls:=.type "list", data:=.seq its'.toArray n' }) (r:Vals ys its') (hz:ys.length<=sizeLine) (t:Nat) :
  Inv X pins σ (upd H p (.lst ys)) {s with heap:=s.heap.update p f,toks:=t }:=by
 have e:(s.heap.update p f).get? p=some {cls:=.type "list", data:=.seq its'.toArray n' }:=by
  rw [Heap.get?_update_self f ho (by rw [hf] <;> rfl),hf]
 refine I.write (x:=p) (e:=p) (by rw [h]; trivial) (.inl rfl) (fun b u hb q=>(Heap.get?_update_other _ _ (Ne.symm hb)).trans q) ⟨_,e⟩ ?_
 exact ⟨hz,its',n',r,e⟩
def Zle:V->V->V->Hp->(Hp->Prop)->Prop:=fun o i v H Q=>∃ p xs k j,o = .ref p/\i = .int k/\H p=some (.lst xs)/\ixN xs.length k=some j/\Q (upd H p (.lst (xs.set j v)))
theorem Zqh:Zgk X Zle:=by
 intro pins s σ H o i v ov iv u Q I ro ri rv h
 obtain ⟨p,xs,k,j,rfl,rfl,hp,hj,q⟩:=h
 cases ro
 obtain ⟨t,rfl⟩:=ri
 obtain ⟨its,n,r,ho,hz⟩:=I.lst hp
 obtain ⟨h1,h2,h3,h4⟩:=Zjb hj
 have hl:=r.length
 have hn:=Zac
 have I':Inv X pins σ (upd H p (.lst (xs.set j v))) {s with heap:=s.heap.update p (Obj.mapSeq (·.setIfInBounds j u)) } :=
  I.lstUpd hp ho (Zox its n j u) (r.set rv j) (by rw [List.length_set]; exact hz) s.toks
 by_cases h0 : 0<=k
 ·have hk:k.toNat=j:=by
   rw [seqIndex_of h0 h4] at h1
   exact Option.some.inj h1
  exact PySem.W.ki_setAt ho h0 (by lia) (by rw [List.size_toArray,← hl]; exact h4) (by rw [hk]; exact ⟨_,I',q⟩)
 ·have hk:(k+(its.toArray.size:Int)).toNat=j:=by
   rw [seqIndex_neg (by lia) h3] at h1
   rw [List.size_toArray,← hl]
   exact Option.some.inj h1
  exact PySem.W.ki_setBack ho (by lia) (by rw [List.size_toArray,← hl]; exact h3) (by lia) (by rw [hk]; exact ⟨_,I',q⟩)
theorem Zob (lo hi:Option Int) (n:Nat):(sliceBounds lo hi none n).1=((HT.sIx n 0 lo:Nat):Int)/\(sliceBounds lo hi none n).2.1=((HT.sIx n n hi:Nat):Int)/\(sliceBounds lo hi none n).2.2=1:=by
 refine ⟨?_,?_,rfl⟩
 ·cases lo with
  | none=>simp [sliceBounds,HT.sIx]
  | some i =>
   simp only [sliceBounds,HT.sIx,Option.getD_none,show (1:Int) > 0 by decide,if_true]
   by_cases h:i < 0
   ·simp only [h,if_true] <;> lia
   ·simp only [h,if_false] <;> lia
 ·cases hi with
  | none=>simp [sliceBounds,HT.sIx]
  | some i =>
   simp only [sliceBounds,HT.sIx,Option.getD_none,show (1:Int) > 0 by decide,if_true]
   by_cases h:i < 0
   ·simp only [h,if_true] <;> lia
   ·simp only [h,if_false] <;> lia
theorem Zn6 (its:List Value) (lo hi:Option Int):slicePick its.toArray lo hi none=((its.drop (HT.sIx its.length 0 lo)).take (HT.sIx its.length its.length hi - HT.sIx its.length 0 lo)).toArray:=by
 obtain ⟨h1,h2,h3⟩:=Zob lo hi its.toArray.size
 unfold slicePick
 rw [h1,h2,h3]
 simp only [sliceRange_one,pick_run,List.size_toArray] <;> rfl
def Zmv (K:PySem.W.Frag):V->Option Int->Option Int->Hp->VK->Prop:=fun x lo hi H Q=>∃ a xs,x = .ref a/\SqL K H a xs/\∀ p,H p=none->Q (.ref p) (upd H p (.lst (Z1 xs lo hi)))
theorem Zse:SlR X (Zmv X.K):=by
 intro pins s σ H x v vl vu lo hi sl Q I rx hs pl pu h
 obtain ⟨a,xs,rfl,hx,q⟩:=h
 cases rx
 obtain ⟨its,r,ht,hz⟩:=I.list hx
 have hlen:=r.length
 refine ⟨"list", _,slot_list_getitem.lookup,ht.isList.typeIs,?_⟩
 refine wpAny_getItem_list_slice ht.isList hs pl pu .none (by simp) ?_ (by rw [List.size_toArray] <;> lia)
 rw [Zn6,← hlen]
 refine ⟨.ref s.heap.objs.size,_,I.laid (t':=s.toks) (o:=.lst (Z1 xs lo hi)) (fun b ob q=>Heap.get?_push_of_some _ q) (Nat.le_refl _) ?_,rfl,q _ (I.hok.fresh (Nat.le_refl _))⟩
 exact ⟨Nat.le_trans (Zhs xs lo hi) hz,_,0,(r.drop (HT.sIx xs.length 0 lo)).take (HT.sIx xs.length xs.length hi - HT.sIx xs.length 0 lo),Heap.get?_push_size _ rfl⟩
def W2:V->Bool
 | .non=>true
 | .bl _=>true
 | .int _=>true
 | .str _=>true
 | _=>false
def eqV:V->V->Bool
 | .non,.non=>true
 | .bl a,.bl b=>a == b
 | .bl a,.int b=>(if a then 1 else 0) == b
 | .int a,.bl b=>a == (if b then 1 else 0)
 | .int a,.int b=>a == b
 | .str a,.str b=>a == b
 | _,_=>false
theorem Zcp {A:Around}{s:Shared}{y x:V}{u v:Value}(ry:RelV y u) (rx:RelV x v) (fy:W2 y=true) (fx:W2 x=true):SeqAt.EqAt A s u v (eqV y x):=by
 cases y with
 | non =>
  cases ry
  cases x with
  | non=>cases rx; exact SeqAt.EqAt.same _
  | bl b=>cases rx; exact SeqAt.EqAt.none_bool b
  | int b=>obtain ⟨t,rfl⟩:=rx; exact SeqAt.EqAt.none_int b t
  | str b=>obtain ⟨t,rfl⟩:=rx; exact SeqAt.EqAt.none_str b t
  | _=>exact absurd (show false=true from fx) Bool.false_ne_true
 | bl a =>
  cases ry
  cases x with
  | non=>cases rx; exact SeqAt.EqAt.bool_none a
  | bl b=>cases rx; exact SeqAt.EqAt.bool_bool a b
  | int b=>obtain ⟨t,rfl⟩:=rx; exact SeqAt.EqAt.bool_int a b t
  | str b=>obtain ⟨t,rfl⟩:=rx; exact SeqAt.EqAt.bool_str a b t
  | _=>exact absurd (show false=true from fx) Bool.false_ne_true
 | int a =>
  obtain ⟨t',rfl⟩:=ry
  cases x with
  | non=>cases rx; exact SeqAt.EqAt.int_none a t'
  | bl b=>cases rx; exact SeqAt.EqAt.int_bool a t' b
  | int b=>obtain ⟨t,rfl⟩:=rx; exact SeqAt.EqAt.int_int a t' b t
  | str b=>obtain ⟨t,rfl⟩:=rx; exact SeqAt.EqAt.int_str a t' b t
  | _=>exact absurd (show false=true from fx) Bool.false_ne_true
 | str a =>
  obtain ⟨t',rfl⟩:=ry
  cases x with
  | non=>cases rx; exact SeqAt.EqAt.str_none a t'
  | bl b=>cases rx; exact SeqAt.EqAt.str_bool a t' b
  | int b=>obtain ⟨t,rfl⟩:=rx; exact SeqAt.EqAt.str_int a t' b t
  | str b=>obtain ⟨t,rfl⟩:=rx; exact SeqAt.EqAt.str_str a t' b t
  | _=>exact absurd (show false=true from fx) Bool.false_ne_true
 | _=>exact absurd (show false=true from fy) Bool.false_ne_true
def eqU (x:V) (u:Value):Bool:=match u with
 | .none=>eqV .non x
 | .bool b=>eqV (.bl b) x
 | .int i _=>eqV (.int i) x
 | .str z _=>eqV (.str z) x
 | _=>false
theorem Zkc {x y:V}{u:Value}(r:RelV y u) (f:W2 y=true):eqU x u=eqV y x:=by
 cases y with
 | non=>cases r; rfl
 | bl b=>cases r; rfl
 | int i=>obtain ⟨t,rfl⟩:=r; rfl
 | str z=>obtain ⟨t,rfl⟩:=r; rfl
 | _=>exact absurd (show false=true from f) Bool.false_ne_true
theorem Zeq {x:V}:∀ {xs:List V}{us:List Value},Vals xs us->xs.all W2=true->us.any (eqU x)=xs.any fun y=>eqV y x
 | _,_,.nil,_=>rfl
 | y::xs,u::us,.cons r t,f=>by
  rw [List.all_cons,Bool.and_eq_true] at f
  rw [List.any_cons,List.any_cons,Zkc r f.1,Zeq t f.2]
theorem Zd9 {A:Around}{s:Shared}{x:V}{v:Value}(rx:RelV x v) (fx:W2 x=true):∀ {xs:List V}{us:List Value},Vals xs us->xs.all W2=true->∀ u∈us,SeqAt.EqAt A s u v (eqU x u)
 | _,_,.nil,_=>fun u hu=>by cases hu
 | y::xs,u::us,.cons r t,f=>fun u' hu=>by
  rw [List.all_cons,Bool.and_eq_true] at f
  rcases List.mem_cons.mp hu with rfl | hu
  ·rw [Zkc r f.1]; exact Zcp r rx f.1 fx
  ·exact Zd9 rx fx t f.2 u' hu
def inV (x:V) (xs:List V):Bool:=xs.any fun y=>eqV y x
def rIn (K:PySem.W.Frag) (neg:Bool):R2:=fun x y H Q=>∃ p xs,y = .ref p/\(SqL K H p xs\/SqT K H p xs)/\W2 x=true/\xs.all W2=true/\Q (.bl (if neg then !inV x xs else inV x xs)) H
theorem Zoc:OpR X (compareOp .NotIn) (rIn X.K true):=by
 intro pins s σ H x y v u Q I rx ry h
 obtain ⟨p,xs,rfl,hq,fx,fs,q⟩:=h
 cases ry
 rcases hq with hq | hq
 ·obtain ⟨its,r,pl,hz⟩:=I.list hq
  refine SeqAt.notIn_listAt (eqU x) pl.isList (fun w hw=>Zd9 rx fx r fs w (by simpa using hw)) ⟨.bl _,H,I,rfl,?_⟩
  rw [show its.toArray.any (eqU x)=its.any (eqU x) by simp,Zeq r fs]
  exact q
 ·obtain ⟨its,r,pl,hz⟩:=I.tuple hq
  refine SeqAt.notIn_tupleAt (eqU x) pl (fun w hw=>Zd9 rx fx r fs w (by simpa using hw)) ⟨.bl _,H,I,rfl,?_⟩
  rw [show its.toArray.any (eqU x)=its.any (eqU x) by simp,Zeq r fs]
  exact q
theorem Zhq:Wb X (.builtin "len") (fun xs H Q=>∃ p ys,xs = [.ref p]/\(SqL X.K H p ys\/SqT X.K H p ys)/\Q (.int ys.length) H):=by
 intro pins s σ H xs us Q I r h
 obtain ⟨p,ys,rfl,hq,q⟩:=h
 obtain ⟨u,rfl,rx⟩:=Wj r
 cases rx
 have hn:=Zac
 rcases hq with hq | hq
 ·obtain ⟨its,r',pl,hz⟩:=I.list hq
  have hlen:=r'.length
  exact Calls.call_len_list pl.isList (by simp only [List.size_toArray] <;> lia) ⟨.int ys.length,H,I.tok _,⟨s.toks+1,by rw [List.size_toArray,hlen]⟩,q⟩
 ·obtain ⟨its,r',pl,hz⟩:=I.tuple hq
  have hlen:=r'.length
  exact len_tuple pl (by simp only [List.size_toArray] <;> lia) ⟨.int ys.length,H,I.tok _,⟨s.toks+1,by rw [List.size_toArray,hlen]⟩,q⟩
theorem Zod:Wb X (.builtin "len") (fun xs H Q=>∃ z,xs = [.str z]/\z.length<=sizeLine/\Q (.int z.length) H):=by
 intro pins s σ H xs us Q I r h
 obtain ⟨z,rfl,hz,q⟩:=h
 obtain ⟨u,rfl,t,rfl⟩:=Wj r
 have hn:=Zac
 exact len_str (by lia) ⟨.int z.length,H,I.tok _,⟨_,rfl⟩,q⟩
theorem Zoe:Wb X (.type "list") (fun xs H Q=>∃ p ys,xs = [.ref p]/\(SqL X.K H p ys\/SqT X.K H p ys)/\∀ l,H l=none->Q (.ref l) (upd H l (.lst ys))):=by
 intro pins s σ H xs us Q I r h
 obtain ⟨p,ys,rfl,hq,q⟩:=h
 obtain ⟨u,rfl,rx⟩:=Wj r
 cases rx
 have fin:∀ (its:List Value),Vals ys its->ys.length<=sizeLine->∀ (h':Heap) (c':Nat),(∀ b o',s.heap.get? b=some o'->h'.get? b=some o') ->
   h'.get? s.heap.objs.size=some {cls:=.type "list", dict:=none,data:=.seq its.toArray c',slots:=#[] }->EP X pins σ Q (.ref s.heap.objs.size) {s with heap:=h' }:=fun its r' hz h' c' kp e =>
  ⟨.ref s.heap.objs.size,_,I.laid (t':=s.toks) kp (Nat.le_refl _) (show ObjOk X.prog X.w _ h' _ (.lst ys) from ⟨hz,its,c',r',e⟩),rfl,q _ (I.hok.fresh (Nat.le_refl _))⟩
 rcases hq with hq | hq
 ·obtain ⟨its,r',pl,hz⟩:=I.list hq
  have hlen:=r'.length
  obtain ⟨o,ho,hc,n,hd⟩:=pl.isList
  exact call_list_seq p (.inl rfl) ho hc hd (fun h' c' kp e=>fin its r' hz h' c' kp e) (by simp only [List.size_toArray] <;> lia)
 ·obtain ⟨its,r',pl,hz⟩:=I.tuple hq
  have hlen:=r'.length
  obtain ⟨o,ho,hc,n,hd⟩:=pl
  exact call_list_seq p (.inr rfl) ho hc hd (fun h' c' kp e=>fin its r' hz h' c' kp e) (by simp only [List.size_toArray] <;> lia)
theorem Zn7:Wb X (.type "tuple") (fun xs H Q=>∃ p ys,xs = [.ref p]/\((SqL X.K H p ys/\∀ l,H l=none->Q (.ref l) (upd H l (.tup ys)))\/(SqT X.K H p ys/\Q (.ref p) H))):=by
 intro pins s σ H xs us Q I r h
 obtain ⟨p,ys,rfl,h⟩:=h
 obtain ⟨u,rfl,rx⟩:=Wj r
 cases rx
 rcases h with ⟨hq,q⟩ | ⟨hq,q⟩
 ·obtain ⟨its,r',pl,hz⟩:=I.list hq
  have hlen:=r'.length
  refine call_tuple_list pl.isList (fun h' kp=>?_) (by simp only [List.size_toArray] <;> lia)
  have I1:Inv X pins σ H {s with heap:=h' }:=I.kept (t':=s.toks) kp
  have I2:Inv X pins σ (upd H h'.objs.size (.tup ys)) {s with heap:=h'.push {cls:=.type "tuple", data:=.seq its.toArray } } :=
   I1.laid (t':=s.toks) (fun b o e=>Heap.get?_push_of_some _ e) (Nat.le_refl _) (show ObjOk X.prog X.w _ _ _ (.tup ys) from ⟨hz,its,r',IsTup.new _ _⟩)
  exact ⟨.ref h'.objs.size,_,I2,rfl,q _ (I1.hok.fresh (Nat.le_refl _))⟩
 ·obtain ⟨its,r',pl,hz⟩:=I.tuple hq
  exact call_tuple_same pl ⟨.ref p,H,I,rfl,q⟩
def tyV (K:PySem.W.Frag) (T:String) (x:V) (H:Hp):Prop:=match x with
 | .str _=>T = "str"
 | .int _=>T = "int"
 | .ref p=>(T = "list" /\ ∃ xs,SqL K H p xs)\/(T = "tuple" /\ ∃ o,K.lookup p=some o/\o.cls = .type "tuple" /\ o.dict=none) \/
   (T = "dict" /\ ((∃ kvs,H p=some (.dK kvs))\/∃ kvs,H p=some (.dT kvs)))\/(T = "set" /\ ∃ S n,H p=some (.set S n))
 | _=>False
theorem Ze6 {pins:List (Addr×Obj)}{σ:St}{H:Hp}{s:Shared}{T:String}{x:V}{v:Value}(I:Inv X pins σ H s) (r:RelV x v) (ty:tyV X.K T x H) :
  s.TypeIs v T/\∀ a,v = .ref a->∃ ob,s.heap.get? a=some ob/\ob.dict=none:=by
 cases x with
 | str z =>
  obtain ⟨t,rfl⟩:=r
  cases (show T = "str" from ty)
  exact ⟨typeIs_str s z t,fun _ e=>nomatch e⟩
 | int i =>
  obtain ⟨t,rfl⟩:=r
  cases (show T = "int" from ty)
  exact ⟨typeIs_int s i t,fun _ e=>nomatch e⟩
 | ref p =>
  cases r
  rcases ty with ⟨rfl,xs,hq⟩ | ⟨rfl,o,hk,hc,hd⟩ | ⟨rfl,hk⟩ | ⟨rfl,S,n,hk⟩
  ·obtain ⟨its,_,pl,_⟩:=I.list hq
   refine ⟨pl.isList.typeIs,fun a e=>?_⟩
   cases e
   obtain ⟨o,n,e,c,hd,_⟩:=pl
   exact ⟨o,e,hd⟩
  ·refine ⟨⟨o,I.kIn p o hk,hc⟩,fun a e=>?_⟩
   cases e
   exact ⟨o,I.kIn _ o hk,hd⟩
  ·have z:∃ o,s.heap.get? p=some o/\o.ExactDict:=by
    rcases hk with ⟨kvs,hk⟩ | ⟨kvs,hk⟩
    ·obtain ⟨_,_,_,_,o,_,_,e,ex,_⟩:=I.hok p _ hk
     exact ⟨o,e,ex⟩
    ·obtain ⟨_,_,_,_,o,_,_,e,ex,_⟩:=I.hok p _ hk
     exact ⟨o,e,ex⟩
   obtain ⟨o,e,ex⟩:=z
   refine ⟨⟨o,e,ex.1⟩,fun a e2=>?_⟩
   cases e2
   exact ⟨o,e,ex.2.1⟩
  ·obtain ⟨o,_,_,_,e,ex,_⟩:=I.hok p _ hk
   refine ⟨⟨o,e,ex.1⟩,fun a e2=>?_⟩
   cases e2
   exact ⟨o,e,ex.2.1⟩
 | _=>exact False.elim ty
def tBM (K:PySem.W.Frag) (T:String) (r:V->List V->Hp->VK->Prop) (to:TE) (t:TA):TE:=fun σ H Q=>to σ H fun x H1=>tyV K T x H1/\t σ H1 fun xs H2=>r x xs H2 Q
variable {o e:Expr}{es:List Expr}{to:TE}{t:TA}{name:Str}{apos cpos:Pos}{T id:String}{r:V->List V->Hp->VK->Prop}
theorem Zvl (pa:PlainAttrs T) (slot:Slot T name id) (hty:typeOf (.builtin id)=pure (.type "method_descriptor")) (hm:MtR X id r) (ho:PE X o to) (ha:PA X (e::es) t)
  (hbase:attributeBase o name X.env (eval o X.env)=eval o X.env:=by rfl)
  (hfew:((backTo cpos (starEach (e::es) X.env)).all (fun x=>!x.1) && (backToKw cpos (keywordEach [] X.env)).all (fun x=>x.1.isSome)
   && decide ((e::es).length+([]:List Keyword).length+(if ([]:List Keyword).isEmpty then 0 else 1) < 30))=true:=by rfl)
  (hline:(apos.endLine == cpos.line)=true:=by rfl) (hs:starEach (e::es) X.env=(false,eval e X.env)::starEach es X.env:=by rfl) (hplain:(backTo cpos (starEach es X.env)).any (·.1)=false:=by rfl) :
  PE X (.Call (.Attribute o name apos) (e::es) [] cpos) (tBM X.K T r to t):=by
 intro pins s σ H Q I h
 refine wpAny_Call_method_late hbase hfew hline rfl (thn (ho pins s σ H _ I h) fun v s1 ⟨x,H1,I1,r1,ty,q1⟩=>?_)
 obtain ⟨h1,h2⟩:=Ze6 I1 r1 ty
 refine ⟨T,id,pa,slot,hty,h1,h2,?_⟩
 have hA:=ha cpos pins s1 σ H1 _ I1 q1
 rw [hs] at hA ⊢
 refine Calls.callWith_builtin (by show (false || (backTo cpos (starEach es X.env)).any (·.1))=false; rw [hplain] <;> rfl) (Calls.evalArgs_plain ?_)
 exact thn hA fun us s2 ⟨vs,H2,I2,r2,q2⟩=>hm pins s2 σ H2 x vs v us Q I2 r1 r2 q2
/- xs.append(e),list.index on a module's tuple .. are MtR facts of 06m -/
end
end L2
namespace L2
open PySem PySem.Spec PyProof.Rows
def MtM (X:Cx) (id:String) (r:V->List V->Hp->VK->Prop):Prop :=
 ∀ (pins:List (Addr×Obj)) (s:Shared) (σ:St) (H:Hp) (x:V) (xs:List V) (v:Value) (us:List Value) (Q:VK),Inv X pins σ H s->RelV x v->Vals xs us->r x xs H Q ->
  wpAny (model X.prog X.w) X.A (call (.builtin id) (v::us)) (EP X pins σ Q) X.xe s
theorem Vals.one:∀ {x:V}{us:List Value},Vals [x] us->∃ u,us = [u]/\RelV x u
 | _,_,.cons r .nil=>⟨_,rfl,r⟩
section
variable {X:Cx}{pins:List (Addr×Obj)}{σ:St}{H:Hp}{s:Shared}{l b:Addr}{xs ys zs:List V}
theorem Inv.lset {its its':List Value}{n:Nat}{f:Array Value->Array Value}{t':Nat}(I:Inv X pins σ H s) (hH:H l=some (.lst xs))
  (e:s.heap.get? l=some {cls:=.type "list", data:=.seq its.toArray n }) (hf:f its.toArray=its'.toArray) (hv:Vals ys its') (hz:ys.length<=sizeLine) :
  Inv X pins σ (upd H l (.lst ys)) {s with heap:=s.heap.update l (Obj.mapSeq f),toks:=t' }:=by
 have q:=PySem.IsL.update e f
 rw [hf] at q
 refine I.write (x:=l) (e:=l) (by rw [hH]; exact trivial) (.inl rfl) (fun b' u hb hu=>(Heap.get?_update_other s.heap (Obj.mapSeq f) (Ne.symm hb)).trans hu) ⟨_,q⟩ ?_
 exact ⟨hz,its',_,hv,q⟩
theorem Inv.lnew {its:List Value}{t':Nat}(I:Inv X pins σ H s) (hv:Vals ys its) (hz:ys.length<=sizeLine) :
  Inv X pins σ (upd H s.heap.objs.size (.lst ys)) {s with heap:=s.heap.push {cls:=.type "list", data:=.seq its.toArray },toks:=t' } :=
 I.laid (fun _ _ q=>Heap.get?_push_of_some _ q) (Nat.le_refl _) ⟨hz,its,0,hv,Heap.get?_push_size _ rfl⟩
theorem Inv.fresh (I:Inv X pins σ H s):H s.heap.objs.size=none:=I.hok.fresh (Nat.le_refl _)
theorem Inv.lstM (I:Inv X pins σ H s) (hH:H l=some (.lst xs)):xs.length<=sizeLine/\∃ (its:List Value) (n:Nat),Vals xs its/\xs.length=its.length/\s.heap.get? l=some {cls:=.type "list", data:=.seq its.toArray n }:=by
 obtain ⟨z,its,n,r,e⟩:=I.hok l _ hH
 exact ⟨z,its,n,r,r.length,e⟩
end
section
variable {X:Cx}
def Zcg:V->List V->Hp->VK->Prop:=fun x vs H Q=>∃ l xs y,x = .ref l/\vs = [y]/\H l=some (.lst xs)/\xs.length < sizeLine/\Q .non (upd H l (.lst (xs ++ [y])))
theorem Zpl:MtM X "list.append" Zcg:=by
 intro pins s σ H x vs v us Q I rx rv h
 obtain ⟨l,xs,y,rfl,rfl,hH,hz,q⟩:=h
 cases rx
 obtain ⟨u,rfl,ru⟩:=rv.one
 obtain ⟨z,its,n,r,hl,e⟩:=I.lstM hH
 refine call_meets F.slot_list_append ⟨_,e,rfl⟩ F.entry_list_append (F.args_list_append_2 _ _) (PySem.list_append l its.toArray n u (by rw [List.size_toArray]; lia)) ⟨e,?_⟩
 refine ⟨.non,_,I.lset (its':=its ++ [u]) hH e (by simp) (r.append (.cons ru .nil)) ?_,rfl,q⟩
 rw [List.length_append,List.length_singleton]
 lia
def Zmw:R2:=fun x y H Q=>∃ l b xs zs,x = .ref l/\y = .ref b/\H l=some (.lst xs)/\H b=some (.lst zs)/\xs.length+zs.length<=sizeLine/\∀ p,H p=none->Q (.ref p) (upd H p (.lst (xs++zs)))
theorem Zuf:OpR X (binaryOp .Add) Zmw:=by
 intro pins s σ H x y v u Q I rx ry h
 obtain ⟨l,b,xs,zs,rfl,rfl,hH,hB,hz,q⟩:=h
 cases rx
 cases ry
 obtain ⟨z,its,n,r,hl,e⟩:=I.lstM hH
 obtain ⟨z2,its2,n2,r2,hl2,e2⟩:=I.lstM hB
 refine PySem.P.add_list e e2 ?_ (by rw [List.size_toArray,List.size_toArray]; lia)
 have ea:its.toArray++its2.toArray=(its++its2).toArray:=by simp
 rw [ea]
 exact ⟨.ref _,_,I.lnew (t':=s.toks) (r.append r2) (by rw [List.length_append]; lia),rfl,q _ I.fresh⟩
end
section
variable {prog:Program}{w:World}{A:Around}{E:Value->Shared->Prop}{s:Shared}
set_option maxRecDepth 100000 in
end
section
variable {X:Cx}
end
end L2
namespace L2
open PySem PySem.Spec PyProof.Rows
section
variable {κ:Type} [DecidableEq κ]
def Yj (kvs:List (κ×V)) (k : κ):Option V:=(kvs.find? fun kv=>decide (kv.1=k)).map (·.2)
def W7 (kvs:List (κ×V)) (k : κ) (v:V):List (κ×V) :=
 if (kvs.any fun kv=>decide (kv.1=k))=true then kvs.map (fun kv=>if kv.1=k then (kv.1,v) else kv) else kvs ++ [(k,v)]
theorem Wo {p : κ×V}{r:List (κ×V)}{k : κ}(e:p.1=k):Yj (p::r) k=some p.2:=by simp [Yj,List.find?_cons,e]
theorem Wp {p : κ×V}{r:List (κ×V)}{k : κ}(e:¬ p.1=k):Yj (p::r) k=Yj r k:=by simp [Yj,List.find?_cons,e]
theorem Zea (k : κ):∀ kvs:List (κ×V),(kvs.any fun kv=>decide (kv.1=k))=(Yj kvs k).isSome
 | []=>rfl
 | p::r=>by
  rw [List.any_cons]
  by_cases e:p.1=k
  ·simp only [Wo e,decide_eq_true e,Bool.true_or,Option.isSome_some]
  ·rw [Wp e,decide_eq_false e,Bool.false_or]; exact Zea k r
theorem Zis (k j : κ) (y:V):∀ kvs:List (κ×V),Yj (kvs.map fun kv=>if kv.1=k then (kv.1,y) else kv) j=(Yj kvs j).map fun x=>if j=k then y else x
 | []=>rfl
 | p::r=>by
  have ih:=Zis k j y r
  rw [List.map_cons]
  by_cases h:p.1=k
  ·rw [if_pos h]
   by_cases e:p.1=j
   ·rw [Wo (p:=(p.1,y)) e,Wo e,Option.map_some,if_pos (e.symm.trans h)]
   ·rw [Wp (p:=(p.1,y)) e,Wp e,ih]
  ·rw [if_neg h]
   by_cases e:p.1=j
   ·rw [Wo (p:=p) e,Wo e,Option.map_some,if_neg (fun z=>h (e.trans z))]
   ·rw [Wp (p:=p) e,Wp e,ih]
theorem Zid (k j : κ) (y:V):∀ kvs:List (κ×V),Yj kvs k=none->Yj (kvs ++ [(k,y)]) j=if j=k then some y else Yj kvs j
 | [],_=>by
  by_cases e:k=j
  ·rw [if_pos e.symm]; exact Wo (p:=(k,y)) e
  ·rw [if_neg (fun z=>e z.symm)]; exact Wp (p:=(k,y)) e
 | p::r,hn=>by
  rw [List.cons_append]
  have hk:¬ p.1=k:=fun z=>by rw [Wo z] at hn; cases hn
  rw [Wp hk] at hn
  have ih:=Zid k j y r hn
  by_cases e:p.1=j
  ·rw [Wo e,Wo e,if_neg (fun z=>hk (e.trans z))]
  ·rw [Wp e,Wp e,ih]
theorem Zqi (kvs:List (κ×V)) (k j : κ) (y:V):Yj (W7 kvs k y) j=if j=k then some y else Yj kvs j:=by
 unfold W7
 by_cases a:(kvs.any fun kv=>decide (kv.1=k))=true
 ·rw [if_pos a,Zis]
  rw [Zea] at a
  by_cases e:j=k
  ·obtain ⟨x,hx⟩:=Option.isSome_iff_exists.mp a
   rw [if_pos e,e,hx,Option.map_some,if_pos rfl]
  ·rw [if_neg e]
   cases Yj kvs j with
   | none=>rfl
   | some x=>rw [Option.map_some,if_neg e]
 ·rw [if_neg a]
  refine Zid k j y kvs ?_
  rw [Zea] at a
  cases q:Yj kvs k with
  | none=>rfl
  | some x=>rw [q] at a; exact (a rfl).elim
theorem Zom (kvs:List (κ×V)) (k : κ) (v:V):(W7 kvs k v).length<=kvs.length+1:=by
 unfold W7
 split
 ·rw [List.length_map]; lia
 ·rw [List.length_append,List.length_cons,List.length_nil]; lia
theorem RelO.getD {o:Option V}{u:Option Value}{d:V}{d':Value}(r:RelO o u) (rd:RelV d d'):RelV (o.getD d) (u.getD d'):=by
 cases o with
 | none=>cases u with
  | none=>exact rd
  | some _=>exact (show False from r).elim
 | some _=>cases u with
  | none=>exact (show False from r).elim
  | some _=>exact r
theorem KV.val {kvs:List (κ×V)}{vs:List (κ×Value)}(r:KV kvs vs) (k : κ):RelO (Yj kvs k) (valueAt vs k):=by
 unfold KV at r
 induction r with
 | nil=>exact True.intro
 | @cons p q ps qs h t ih =>
  obtain ⟨h1,h2⟩:=h
  by_cases e:p.1=k
  ·have e':q.1=k:=h1.symm.trans e
   have b:valueAt (q::qs) k=some q.2:=by simp [valueAt,List.find?_cons,e']
   rw [Wo e,b]; exact h2
  ·have e':¬ q.1=k:=fun z=>e (h1.trans z)
   have b:valueAt (q::qs) k=valueAt qs k:=by simp [valueAt,List.find?_cons,e']
   rw [Wp e,b]; exact ih
theorem KV.any {kvs:List (κ×V)}{vs:List (κ×Value)}(r:KV kvs vs) (k : κ):(kvs.any fun kv=>decide (kv.1=k))=vs.any fun kv=>decide (kv.1=k):=by
 unfold KV at r
 induction r with
 | nil=>rfl
 | cons h t ih=>rw [List.any_cons,List.any_cons,ih,h.1]
theorem KV.repl {kvs:List (κ×V)}{vs:List (κ×Value)}(r:KV kvs vs) (k : κ) {y:V}{u:Value}(ry:RelV y u) :
  KV (kvs.map fun kv=>if kv.1=k then (kv.1,y) else kv) (vs.map fun kv=>if kv.1=k then (kv.1,u) else kv):=by
 unfold KV at r ⊢
 induction r with
 | nil=>exact .nil
 | @cons p q ps qs h t ih =>
  rw [List.map_cons,List.map_cons]
  refine .cons ?_ ih
  obtain ⟨h1,h2⟩:=h
  by_cases e:p.1=k
  ·rw [if_pos e,if_pos (h1.symm.trans e)]; exact ⟨h1,ry⟩
  ·rw [if_neg e,if_neg (fun z=>e (h1.trans z))]; exact ⟨h1,h2⟩
theorem KV.put {kvs:List (κ×V)}{vs:List (κ×Value)}(r:KV kvs vs) (k : κ) {y:V}{u:Value}(ry:RelV y u):KV (W7 kvs k y) (stored vs k u):=by
 unfold W7 stored
 rw [r.any k]
 by_cases e:(vs.any fun kv=>decide (kv.1=k))=true
 ·rw [if_pos e,if_pos e]; exact r.repl k ry
 ·rw [if_neg e,if_neg e]; exact Paired.snoc r ⟨rfl,ry⟩
end
theorem Zbh {P:Program}{w:World}{k:Key}{u:Value}(r:RelV (kV k) u):(Yu P w).is k u=true:=by
 cases k with
 | inl i=>obtain ⟨t,e⟩:=(show ∃ t,u=Value.int i t from r); subst e; exact Zok P w i t
 | inr x=>obtain ⟨t,e⟩:=(show ∃ t,u=Value.str x t from r); subst e; exact Zol P w x t
theorem Zie {P:Program}{w:World}:∀ {ks:List Key}{us:List Value},Vals (ks.map kV) us->ItemsAre (Yu P w) ks us
 | [],_,r=>by rw [List.map_nil] at r; cases r; exact .nil
 | k::ks,_,r=>by
  rw [List.map_cons] at r
  cases r with
  | cons h t=>exact .cons (Zbh h) (Zie t)
abbrev KT (H:Hp):List (List Key×V)->List (List Key×Addr×Value)->Prop:=Paired fun p q=>p.1=q.1/\H q.2.1=some (.tup (p.1.map kV))/\RelV p.2 q.2.2
theorem KT.val {H:Hp}{kvs:List (List Key×V)}{xs:List (List Key×Addr×Value)}(r:KT H kvs xs) (k:List Key):RelO (Yj kvs k) ((atKey xs k).map (·.2)):=by
 induction r with
 | nil=>exact True.intro
 | @cons p q ps qs h t ih =>
  obtain ⟨h1,_,h2⟩:=h
  by_cases e:p.1=k
  ·have e':q.1=k:=h1.symm.trans e
   have b:atKey (q::qs) k=some q.2:=by simp [atKey,List.find?_cons,e']
   rw [Wo e,b]; exact h2
  ·have e':¬ q.1=k:=fun z=>e (h1.trans z)
   have b:atKey (q::qs) k=atKey qs k:=by simp [atKey,List.find?_cons,e']
   rw [Wp e,b]; exact ih
section
variable {P:Program}{w:World}{H:Hp}{h:Heap}{a:Addr}
theorem Zlf {u:HO}(ok:HOk P w H h) (e:Rd H a u):ObjOk P w H h a u:=e.ok ok
theorem Zfj {kvs:List (Key×V)}(ok:HOk P w H h) (e:Rd H a (.dK kvs)):kvs.length<=sizeLine/\(a == sysModules)=false/\∃ vs,KV kvs vs/\h.DictOf (Yu P w) a vs :=
 show ObjOk P w H h a (.dK kvs) from Zlf ok e
theorem Zvm {kvs:List (Key×V)}(ok:HOk P w H h) (e:H a=some (.dK kvs)):kvs.length<=sizeLine/\(a == sysModules)=false/\∃ vs,KV kvs vs/\h.DictOf (Yu P w) a vs:=Zfj ok (.inl e)
theorem Zkd {ks:List Key}(ok:HOk P w H h) (e:H a=some (.tup (ks.map kV))):(tupleKind (Yu P w)).is h ks a:=by
 obtain ⟨_,its,r,o,h1,h2,n,h3⟩:=(show ObjOk P w H h a (.tup (ks.map kV)) from ok a _ e)
 exact ⟨o,its.toArray,n,h1,h2,h3,by simpa using Zie r⟩
theorem Zlg {kvs:List (List Key×V)}(ok:HOk P w H h) (e:Rd H a (.dT kvs)):kvs.length<=sizeLine/\(a == sysModules)=false /\
  ∃ xs,KT H kvs xs/\h.DictOfH (tupleKind (Yu P w)) a xs:=by
 obtain ⟨z,y,xs,r,o,es,ep,h1,h2,h3,h4,h5⟩:=(show ObjOk P w H h a (.dT kvs) from Zlf ok e)
 refine ⟨z,y,xs,r,o,es,ep,h1,h2,h3,h4,fun x hx=>?_,h5⟩
 have all:∀ {l:List (List Key×V)}{m:List (List Key×Addr×Value)},KT H l m->∀ x∈m,(tupleKind (Yu P w)).is h x.1 x.2.1:=by
  intro l m q
  induction q with
  | nil=>intro x hx; exact nomatch hx
  | @cons p q ps qs hq t ih =>
   intro x hx
   rcases List.mem_cons.mp hx with e | hx
   ·subst e
    exact Zkd ok (by rw [← hq.1]; exact hq.2.1)
   ·exact ih x hx
 exact all r x hx
end
def DGet (H:Hp) (a:Addr) (y:V) (r:Option V):Prop :=
 (∃ kvs k,Rd H a (.dK kvs)/\y=kV k/\r=Yj kvs k)\/∃ kvs k b,Rd H a (.dT kvs)/\y = .ref b/\H b=some (.tup (k.map kV))/\r=Yj kvs k
theorem DGet.k {H:Hp}{a:Addr}{kvs:List (Key×V)}{k:Key}(e:H a=some (.dK kvs)):DGet H a (kV k) (Yj kvs k):=.inl ⟨kvs,k,.inl e,rfl,rfl⟩
section
variable {X:Cx}{pins:List (Addr×Obj)}{σ:St}{H:Hp}{s:Shared}{a:Addr}{y v:V}{u r:Value}{o:Option V}{A:Around}{E:Value->Shared->Prop}
theorem Inv.big (I:Inv X pins σ H s):sysModules < s.heap.objs.size:=by
 have h:mainGlobals < s.heap.objs.size:=(I.mod.glob.keeps I.bk).lt
 exact Nat.lt_trans (by decide) h
theorem Zsf {h':Heap}{t':Nat}{ob:HO}(I:Inv X pins σ H s) (mu:Mut (H a)) (hs:Heap.SameBut a s.heap h') (he:∃ q,h'.get? a=some q) (new:ObjOk X.prog X.w (upd H a ob) h' a ob) :
  Inv X pins σ (upd H a ob) {s with heap:=h',toks:=t' } :=
 I.write (x:=a) (e:=a) mu (.inl rfl) (fun b q hb z=>(hs.2 b hb).trans z) he new
theorem Zug {P:Program}{w:World}{H':Hp}{h':Heap}{kvs:List (Key×V)}{vs:List (Key×Value)}(z:kvs.length<=sizeLine) (hd:(a == sysModules)=false) (rel:KV kvs vs) (dd:h'.DictOf (Yu P w) a vs) :
  ObjOk P w H' h' a (.dK kvs):=⟨z,hd,vs,rel,dd⟩
end
section
variable {X:Cx}{pins:List (Addr×Obj)}{σ:St}{H:Hp}{s:Shared}{a:Addr}{kvs:List (Key×V)}{k:Key}{u:Value}{A:Around}{E:Value->Shared->Prop}
end
section
variable {X:Cx}{o i e value:Expr}{pos pos' tpos:Pos}{td ty tv:TE}
end
theorem Zqj {P:Program}{w:World}{H:Hp}(h:Heap) (hb:sysModules < h.objs.size):ObjOk P w H (h.push {cls:=.type "dict", data:=.dict #[] }) h.objs.size (.dK []) :=
 ⟨Nat.zero_le _,beq_eq_false_iff_ne.mpr (Ne.symm (Nat.ne_of_lt hb)),[],.nil,Heap.DictOf.new h⟩
section
variable {X:Cx}{pos:Pos}
end
def Ze7:List (TE×TE)->St->Hp->(List (V×V)->Hp->Prop)->Prop
 | [],_,H,Q=>Q [] H
 | (tk,tv)::r,σ,H,Q=>tk σ H fun x H1=>tv σ H1 fun y H2=>Ze7 r σ H2 fun ps H3=>Q ((x,y)::ps) H3
abbrev VV:List (V×V)->List (Value×Value)->Prop:=Paired fun p q=>RelV p.1 q.1/\RelV p.2 q.2
def PPs (X:Cx) (pos:Pos) (keys:List (Option Expr)) (values:List Expr) (trs:List (TE×TE)):Prop :=
 ∀ (pins:List (Addr×Obj)) (s:Shared) (σ:St) (H:Hp) (Q:List (V×V)->Hp->Prop),Inv X pins σ H s->Ze7 trs σ H Q ->
  wpAny (model X.prog X.w) X.A (evalPairs (pairTrees keys values X.env pos)) (fun vs s'=>∃ ps H',Inv X pins σ H' s'/\VV ps vs/\Q ps H') X.xe s
theorem Zsg {X:Cx}{pos:Pos}:PPs X pos [] [] []:=fun pins s σ H Q I h=>pairTrees_nil_walk ⟨[],H,I,.nil,h⟩
theorem Zqk {X:Cx}{pos:Pos}{k v:Expr}{ks:List (Option Expr)}{vs:List Expr}{tk tv:TE}{trs:List (TE×TE)}(hk:PE X k tk) (hv:PE X v tv) (hr:PPs X pos ks vs trs) :
  PPs X pos (some k::ks) (v::vs) ((tk,tv)::trs):=fun pins s σ H Q I h =>
 pairTrees_cons_walk (thn (hk pins s σ H _ I h) fun u s1 ⟨x,H1,I1,rx,q1⟩=>thn (hv pins s1 σ H1 _ I1 q1) fun w2 s2 ⟨y,H2,I2,ry,q2⟩ =>
  thn (hr pins s2 σ H2 _ I2 q2) fun ws s3 ⟨ps,H3,I3,rel,q3⟩=>⟨(x,y)::ps,H3,I3,.cons ⟨rx,ry⟩ rel,q3⟩)
def Y0 (kvs more:List (Key×V)):List (Key×V):=more.foldl (fun acc kv=>W7 acc kv.1 kv.2) kvs
theorem KV.merge:∀ {more:List (Key×V)}{rs:List (Key×Value)}{kvs:List (Key×V)}{vs:List (Key×Value)},KV more rs->KV kvs vs->KV (Y0 kvs more) (merged vs rs):=by
 intro more rs kvs vs r
 unfold KV at r
 induction r generalizing kvs vs with
 | nil=>intro q; exact q
 | @cons p q ps qs h t ih =>
  intro r0
  have e:KV (W7 kvs p.1 p.2) (stored vs q.1 q.2):=by
   have:=r0.put p.1 h.2
   rw [← h.1]; exact this
  exact ih e
theorem Zho:∀ (more kvs:List (Key×V)),(Y0 kvs more).length<=kvs.length+more.length
 | [],kvs=>by show kvs.length<=kvs.length+0; lia
 | p::r,kvs=>by
  have h1:=Zho r (W7 kvs p.1 p.2)
  have h2:=Zom kvs p.1 p.2
  show (Y0 (W7 kvs p.1 p.2) r).length<=_
  rw [List.length_cons]; lia
theorem Zhx {P:Program}{w:World}:∀ {kvs:List (Key×V)}{ws:List (Value×Value)},VV (kvs.map fun kv=>(kV kv.1,kv.2)) ws->∃ rs,Carries (Yu P w) ws rs/\KV kvs rs
 | [],_,r=>by rw [List.map_nil] at r; cases r; exact ⟨[],True.intro,.nil⟩
 | p::kvs,_,r=>by
  rw [List.map_cons] at r
  cases r with
  | @cons a b as bs h t =>
   obtain ⟨rs,c,q⟩:=Zhx (P:=P) (w:=w) t
   obtain ⟨b1,b2⟩:=b
   exact ⟨(p.1,b2)::rs,⟨Zbh h.1,rfl,c⟩,.cons ⟨rfl,h.2⟩ q⟩
def Zlh (trs:List (TE×TE)):TE:=fun σ H Q=>∀ p,H p=none->Ze7 trs σ (upd H p (.dK [])) fun ps H2=>H2 p=some (.dK [])/\∃ kvs:List (Key×V),ps=kvs.map (fun kv=>(kV kv.1,kv.2))/\kvs.length<=15/\Q (.ref p) (upd H2 p (.dK (Y0 [] kvs)))
theorem Zsh {X:Cx}{pos:Pos}{keys:List (Option Expr)}{values:List Expr}{trs:List (TE×TE)}(h:PPs X pos keys values trs) (hall:keys.all (·.isSome)=true) (hl:keys.length=values.length) (h0:keys ≠ [])
  (h15:keys.length<=15):PE X (.Dict keys values pos) (Zlh trs):=by
 intro pins s σ H Q I q
 have hn:=I.hok.fresh (Nat.le_refl s.heap.objs.size)
 have I1:=I.laid (a:=s.heap.objs.size) (o:=.dK []) (h':=s.heap.push {cls:=.type "dict", data:=.dict #[] }) (t':=s.toks) (fun _ _ q=>Heap.get?_push_of_some _ q) (Nat.le_refl _) (Zqj s.heap I.big)
 refine wpAny_Dict_walk (knd:=Yu X.prog X.w) hall hl h0 h15 (thn (h pins _ σ _ _ I1 (q _ hn)) fun ws s2 ⟨ps,H2,I2,rel,e,kvs,ep,lk,q2⟩=>?_)
 subst ep
 obtain ⟨rs,c,rk⟩:=Zhx (P:=X.prog) (w:=X.w) rel
 obtain ⟨z,hd,vs0,r0,dd⟩:=Zvm I2.hok e
 cases r0
 refine ⟨rs,c,dd,fun h' dd' hs=>⟨.ref s.heap.objs.size,_,?_,rfl,q2⟩⟩
 have hz:(Y0 [] kvs).length<=sizeLine:=by
  have h1:=Zho kvs []
  rw [List.length_nil] at h1
  rw [sizeLine_eq]; lia
 have he:∃ q,h'.get? s.heap.objs.size=some q:=let ⟨q,_,_,hq,_⟩:=dd'; ⟨q,hq⟩
 exact Zsf I2 (by rw [e]; exact True.intro) hs he (Zug hz hd (rk.merge .nil) dd')
structure M1 (X:Cx) (o:Expr) (m:Str) (apos:Pos) (e:Expr) (cpos:Pos):Prop where
 base:attributeBase o m X.env (eval o X.env)=eval o X.env
 few:((backTo cpos (starEach [e] X.env)).all (fun x=>!x.1) && (backToKw cpos (keywordEach [] X.env)).all (fun x=>x.1.isSome)
  && decide (([e]:List Expr).length+([]:List Keyword).length+(if ([]:List Keyword).isEmpty then 0 else 1) < 30))=true
 line:(apos.endLine == cpos.line)=true
 trees:backTo cpos (starEach [e] X.env) = [(false,eval e X.env)]
structure M2 (X:Cx) (o:Expr) (m:Str) (apos:Pos) (e f:Expr) (cpos:Pos):Prop where
 base:attributeBase o m X.env (eval o X.env)=eval o X.env
 few:((backTo cpos (starEach [e,f] X.env)).all (fun x=>!x.1) && (backToKw cpos (keywordEach [] X.env)).all (fun x=>x.1.isSome)
  && decide (([e,f]:List Expr).length+([]:List Keyword).length+(if ([]:List Keyword).isEmpty then 0 else 1) < 30))=true
 line:(apos.endLine == cpos.line)=true
 trees:backTo cpos (starEach [e,f] X.env) = [(false,eval e X.env),(false,eval f X.env)]
def IsD (H:Hp) (a:Addr):Prop:=(∃ kvs,Rd H a (.dK kvs))\/∃ kvs,Rd H a (.dT kvs)
theorem Zuh {X:Cx}{pins:List (Addr×Obj)}{σ:St}{H:Hp}{s:Shared}{a:Addr}(I:Inv X pins σ H s) (d:IsD H a) :
  s.TypeIs (.ref a) "dict" /\ (∀ b,Value.ref a = .ref b->∃ ob,s.heap.get? b=some ob/\ob.dict=none)/\(a == sysModules)=false:=by
 rcases d with ⟨kvs,e⟩ | ⟨kvs,e⟩
 ·obtain ⟨_,hd,vs,_,dd⟩:=Zfj I.hok e
  refine ⟨dd.typeIs,fun b q=>?_,hd⟩
  cases q
  obtain ⟨ob,_,_,h1,h2,_⟩:=dd
  exact ⟨ob,h1,h2.2.1⟩
 ·obtain ⟨_,hd,xs,_,dd⟩:=Zlg I.hok e
  refine ⟨dd.typeIs,fun b q=>?_,hd⟩
  cases q
  obtain ⟨ob,_,_,h1,h2,_⟩:=dd
  exact ⟨ob,h1,h2.2.1⟩
section
variable {X:Cx}{pins:List (Addr×Obj)}{σ:St}{H:Hp}{s:Shared}{a:Addr}{y d:V}{u r:Value}{o:Option V}{A:Around}{E:Value->Shared->Prop}
theorem Zui {Q:Value->Shared->Prop}(hu:A.units+1 < cLine) (I:Inv X pins σ H s) (g:DGet H a y o) (ry:RelV y u) (rd:RelV d r) (h:∀ w' s',Inv X pins σ H s'->RelV (o.getD d) w'->Q w' s') :
  wpAny (model X.prog X.w) A (call (.builtin "dict.get") [.ref a,u,r]) Q E s:=by
 rcases g with ⟨kvs,k,e,ey,l⟩ | ⟨kvs,k,b,e,ey,eb,l⟩
 ·subst ey
  obtain ⟨z,hd,vs,rel,dd⟩:=Zfj I.hok e
  refine call_meetsIn PySem.F.slot_dict_get dd.typeIs PySem.F.entry_dict_get (PySem.F.args_dict_get_3 _ _ _) (meets_dict_get_default (Yu X.prog X.w) a (Zbh ry) hd r) ⟨_,dd.mapOf,h _ _ (I.tok _) ?_⟩
  rw [l]
  exact (rel.val k).getD rd
 ·subst ey
  cases (show u=Value.ref b from ry)
  obtain ⟨z,hd,xs,rel,dd⟩:=Zlg I.hok e
  refine call_meetsIn PySem.F.slot_dict_get dd.typeIs PySem.F.entry_dict_get (PySem.F.args_dict_get_3 _ _ _) (meetsH_dict_get_default (tupleKind (Yu X.prog X.w)) a b hd r) ⟨tupleKind_room_in1 hu,k,xs,Zkd I.hok eb,dd,h _ _ (I.tok _) ?_⟩
  rw [l]
  exact (rel.val k).getD rd
end
def Zke (td ty tx:TE):TE:=fun σ H Q=>td σ H fun x H1=>∃ a,x = .ref a/\IsD H1 a/\ty σ H1 fun y H2=>tx σ H2 fun z H3=>∃ o,DGet H3 a y o/\Q (o.getD z) H3
section
variable {X:Cx}{o e f:Expr}{apos cpos:Pos}{td ty tx:TE}
theorem Zql (hu:X.A.units+1 < cLine) (ho:PE X o td) (he:PE X e ty) (hf:PE X f tx) (m:M2 X o "get" apos e f cpos):PE X (.Call (.Attribute o "get" apos) [e,f] [] cpos) (Zke td ty tx):=by
 intro pins s σ H Q I h
 refine wpAny_Call_method m.base m.few m.line PySem.F.plainAttrs_dict PySem.F.slot_dict_get PySem.F.type_dict_get (thn (ho pins s σ H _ I h) fun u s1 ⟨x,H1,I1,rx,a,ex,d,q1⟩=>?_)
 subst ex
 obtain rfl:u=Value.ref a:=rx
 obtain ⟨t1,t2,_⟩:=Zuh I1 d
 refine ⟨t1,t2,?_⟩
 rw [m.trees]
 refine Calls.callWith_builtin rfl (Calls.evalArgs_plain (Calls.spliced_cons (thn (he pins s1 σ H1 _ I1 q1) fun iv s2 ⟨y,H2,I2,ry,q2⟩ =>
  Calls.spliced_cons (thn (hf pins s2 σ H2 _ I2 q2) fun fv s3 ⟨z,H3,I3,rz,ov,g,q3⟩=>Calls.spliced_nil ?_))))
 exact Zui hu I3 g ry rz fun w' s4 I4 rw'=>⟨_,H3,I4,rw',q3⟩
end
section
variable {X:Cx}{pins:List (Addr×Obj)}{σ:St}{H:Hp}{s:Shared}{a:Addr}{kvs:List (Key×V)}{A:Around}{E:Value->Shared->Prop}
end
section
variable {X:Cx}{pins:List (Addr×Obj)}{σ:St}{H:Hp}{s:Shared}{a:Addr}{y:V}{u:Value}{A:Around}{E:Value->Shared->Prop}
end
end L2
namespace Att
open PySem PySem.W PySem.Calls PyProof.Rows
theorem Zn2 {P:Params}{h:Heap}:∀ (ns:List Int) (vs:List Value),WellAll P h vs (ns.map WData.int)->IntsAre vs ns:=by
 intro ns
 induction ns with
 | nil =>
  intro vs w
  rw [List.map_nil] at w
  cases w
  exact .nil
 | cons n ns ih =>
  intro vs w
  rw [List.map_cons] at w
  cases w with
  | cons a b =>
   cases a
   exact .cons _ _ (ih _ b)
theorem Zpm {l:OpenLaw}{n:Nat}(hn:l.most=some n) {P:Params}{h:Heap}{args:List WData}{vals:List Value}
  (hpre:l.row.toRowW.claim.pre args=true) (hwl:WellAll P h vals args) :
  ∃ a vs ns,vals = [Value.ref a]/\args = [WData.list (ns.map WData.int)]/\h.get? a=some {cls:=.type "list", data:=.seq vs.toArray }/\IntsAre vs ns/\ns.length<=n:=by
 have hsh:WShape.hasAll [] args [.list .int]=true:=(pre_splitW hpre).1
 have hc:l.pre.holds [] {args:=args }=true:=(pre_splitW hpre).2
 obtain ⟨d,r,rfl,h1,h2⟩:=hasAllW_cons hsh
 obtain rfl:=hasAllW_nil h2
 obtain ⟨xs,rfl,h3⟩:=hasW_list h1
 obtain ⟨ns,rfl⟩:=items_int h3
 have hlen:ns.length<=n:=by
  unfold OpenLaw.pre at hc
  have h4:(WTm.not (.lt (.lit (.int (n:Int))) (.len (.arg 0)))).holds [] {args:=[.list (ns.map .int)] }=true:=by
   have h4:=(holds_andW hc).1
   rw [hn] at h4
   exact h4
  have h5:=condW_of h4 (w_not (w_lt w_lit (w_len_list (w_arg rfl))))
  rw [List.length_map] at h5
  refine Nat.le_of_not_lt fun q=>?_
  have q':(n:Int) < ((ns.length:Nat):Int):=by lia
  first
   | (rw [decide_eq_true q'] at h5; exact absurd h5 (by decide))
   | (simp at h5; lia)
 cases hwl with
 | cons w1 w2 =>
  cases w2
  cases w1 with
  | list ho hall=>exact ⟨_,_,ns,rfl,rfl,ho,Zn2 ns _ hall,hlen⟩
theorem Zpn (l:OpenLaw) (args:List WData):l.row.toRowW.claim.post args (.bool true) args=true :=
 postW_of (r:=l.row.toRowW) (X:=(true == true))
  (show WShape.has [] (.bool true) .bool=true by first | rfl | decide | simp [WShape.has,WShape.arms,WShape.armsAll])
  (show (WTm.eq .res (.lit (.bool true))).value [] {args:=args,res:=some (.bool true),after:=args }=some (.bool (true == true)) from w_eq_bool (w_res rfl) w_lit) rfl
theorem attach_call {l:OpenLaw}{n:Nat}{q:Program}{loose:List Str}{XP:(Str->Option Value)->Heap->Prop}{YP:World->Heap->Prop}{d:DefRec}
  (hn:l.most=some n) (hdf:d.params.defaults = [])
  (call:∀ (w:World) (s₀ s₁:Shared) (mg mb:Str->Option Value) (fa:Addr) (o:Obj) (pm cd doc:Value) (a:Addr) (vs:List Value) (ns:List Int),
   Ground q loose [] XP w s₀ mg mb s₁.heap->YP w s₁.heap ->
   s₁.heap.get? fa=some o->o.data = .func (docDef d.name d.params d.body d.scope pm cd doc)->s₁.heap.CodeRec cd d.name->mg d.name=some (.ref fa) ->
   s₁.heap.get? a=some {cls:=.type "list", data:=.seq vs.toArray }->IntsAre vs ns->ns.length<=n->s₁.gens = #[] ->
   codeAny (model l.prog w) callerA (.call (.ref fa) ⟨[.ref a],[]⟩) (fun r s'=>r = .ok (.ret (.bool true))/\OldK s₁.heap s'.heap/\s'.os=s₁.os/\AllBare s'.gens) s₁) :
  WalkO q loose XP YP l.row.toRowW d [] (fun f vs=>PySem.call f vs):=by
 intro w s₀ s₁ mg mb G Y fa o pm cd doc dV kV ho hd hcd hD hmg hg args vals as hpre hlay hrd hwl hlo
 obtain rfl:dV = .none:=Dflts.none hD hdf
 obtain rfl:kV = .none:=Dflts.noKw hD
 obtain ⟨a,vs,ns,rfl,rfl,hobj,hints,hlen⟩:=Zpm hn hpre hwl
 refine enter_call (codeAny_mono (call w s₀ s₁ mg mb fa o pm cd doc a vs ns G Y ho (fd_plain hd) hcd hmg hobj hints hlen hg) fun r s' hq=>?_)
 obtain ⟨rfl,h2,h3,h4⟩:=hq
 exact ⟨.inl ⟨.bool true,.bool true,[],rfl,fun _=>rfl,.bool true,Zpn l _,fun _=>⟨List.Pairwise.nil,fun _ hm=>(nomatch hm)⟩⟩,h2,h3,h4⟩
section
variable {prog:Program}{w:World}{A:Around}{E:Value->Shared->Prop}{s:Shared}{K:Frag}
end
end Att
namespace L2
open PySem PySem.Spec PyProof.Rows
theorem Zif:∀ {vs:List Value}{ns:List Int},IntsAre vs ns->Vals (ns.map V.int) vs
 | _,_,.nil=>.nil
 | _,_,.cons n t h=>.cons ⟨t,rfl⟩ (Zif h)
def Zgq (H:Hp):Prop:=∀ b,H b=none\/∃ o xs,H b=some (.frz o (.lst xs))
theorem Zqm {P:Program}{w:World}{K:PySem.W.Frag}{mg mb:Str->Option Value}{CX:CXT}{k:Nat}{fa a:Addr}{fd:FuncData}{x:Str}{sp:Sp}{s₁:Shared}{vs:List Value}{ns:List Int}
  (KX:K.In s₁.heap) (hns:s₁.heap.Ns mainGlobals mg) (hb:s₁.heap.Ns builtinsNs mb) (hbb:∀ x:Str,x ≠ "__name__" -> mb x=bootBuiltins x) (hlim:s₁.heap.NoLimit) (hg:s₁.gens = #[])
  (ha:s₁.heap.get? a=some {cls:=.type "list", data:=.seq vs.toArray }) (hi:IntsAre vs ns) (hl:ns.length<=sizeLine) (hr:Room k callerA)
  (F:∀ base:Heap,K.In base->base.Ns mainGlobals mg->FnOk P w K mg base CX k fa fd [x] sp) (hbind:∀ (s:Shared) (u:Value),BindsTo s fd ⟨[u],[]⟩ [(x,u)])
  (hsp:∀ H:Hp,Zgq H->SqL K H a (ns.map V.int)->sp [.ref a] H (fun v _=>v = .bl true) fun _ _ _=>False)
  (hCX:∀ H e s',CX [] H s₁ (fun _ _ _=>False) e s'->False) :
  codeAny (model P w) callerA (.call (.ref fa) ⟨[.ref a],[]⟩) (fun r s'=>r = .ok (.ret (.bool true))/\OldK s₁.heap s'.heap/\s'.os=s₁.os/\AllBare s'.gens) s₁:=by
 have rv:=Zif hi
 have lenV:=hi.length
 have core:∀ H:Hp,Zgq H->SqL K H a (ns.map V.int)->HOk P w H s₁.heap->(∀ b,H b≠none->b=a)->(H a≠none->K.lookup a=none) ->
   codeAny (model P w) callerA (.call (.ref fa) ⟨[.ref a],[]⟩) (fun r s'=>r = .ok (.ret (.bool true))/\OldK s₁.heap s'.heap/\s'.os=s₁.os/\AllBare s'.gens) s₁:=by
  intro H hO hS hok hA hK
  have base_of:∀ {b:Addr}{o:Obj},s₁.heap.get? b=some o->H b=none->(Vm s₁.heap H).get? b=some o:=fun e n=>Zp7 e n
  have noA:∀ {b:Addr}{o:Obj}{es:Array DictEntry}{ep:Nat},s₁.heap.get? b=some o->o.data = .dict es ep->H b=none:=fun {b o es ep} e d=>by
   cases q:H b with
   | none=>rfl
   | some u =>
    have e':b=a:=hA b (by rw [q]; simp)
    subst e'
    rw [ha] at e; cases e
    have d':Data.seq vs.toArray _=Data.dict es ep:=d
    cases d'
  have nsK:∀ {b:Addr}{m:Str->Option Value},s₁.heap.Ns b m->(Vm s₁.heap H).Ns b m:=fun {b m} ⟨o,es,ep,e,d,r⟩=>⟨o,es,ep,base_of e (noA e d),d,r⟩
  have hKb:K.In (Vm s₁.heap H):=fun b o e=>base_of (KX b o e) (by
   cases q:H b with
   | none=>rfl
   | some u =>
    have e':b=a:=hA b (by rw [q]; simp)
    subst e'
    rw [hK (by rw [q]; simp)] at e; cases e)
  have hM:Mod K mg (Vm s₁.heap H):=⟨hKb,nsK hns,⟨mb,nsK hb,hbb⟩,let ⟨mc,h1,h2⟩:=hlim; ⟨mc,nsK h1,h2⟩⟩
  have e0:Env0 P w K mg (Vm s₁.heap H) callerA [] s₁ H:=⟨rfl,hM,fun b o e=>Zrw e,Nat.le_of_eq (Zpd _ _),trivial,fun b hb=>absurd (show b∈([]:List Addr) from hb) (by simp),hok,.of_eq hg⟩
  refine codeAny_mono ((F _ hKb (nsK hns)).run callerA [] s₁ H ⟨[.ref a],[]⟩ [.ref a] [.ref a] _ _ hr e0 (hbind s₁ (.ref a)) (.cons rfl .nil) (hsp H hO hS)) fun r s' h=>?_
  cases r with
  | error e=>exact (hCX H e s' h).elim
  | ok fl =>
   cases fl with
   | next=>exact False.elim h
   | brk=>exact False.elim h
   | cont=>exact False.elim h
   | ret u =>
    obtain ⟨v,H',os,bare,un,hok',r',q⟩:=h
    have q':v = .bl true:=q
    subst q'
    obtain rfl:u=Value.bool true:=r'
    refine ⟨rfl,OldK.of_keep fun b o e=>?_,os,bare⟩
    cases q:H b with
    | none=>exact un.keep b o e q (by intro z; exact absurd (show b∈([]:List Addr) from z) (by simp)) (by simp)
    | some u =>
     rcases hO b with z | ⟨ob,xs,z⟩
     ·rw [q] at z; cases z
     ·have z2:=un.frzs b ob _ z
      obtain ⟨e1,_⟩:=hok b _ z
      obtain ⟨e2,_⟩:=hok' b _ z2
      rw [e] at e1; cases e1
      exact e2
 cases hk:K.lookup a with
 | some o =>
  have e:=KX a o hk
  rw [ha] at e
  cases e
  refine core (fun _=>none) (fun _=>.inl rfl) (.inr ⟨_,vs.toArray,_,hk,rfl,rfl,rfl,by rw [List.size_toArray,lenV]; exact hl,by simpa using rv⟩) (fun b u z=>by have z':(none:Option HO)=some u:=z; cases z') (fun b z=>absurd rfl z) fun z=>absurd rfl z
 | none =>
  refine core (fun b=>if b=a then some (.frz {cls:=.type "list", data:=.seq vs.toArray } (.lst (ns.map V.int))) else none) (fun b=>?_) (.inl (.inr ⟨{cls:=.type "list", data:=.seq vs.toArray },if_pos rfl⟩)) (fun b u z=>?_) (fun b z=>?_) fun _=>hk
  ·by_cases hb:b=a
   ·exact .inr ⟨_,_,if_pos hb⟩
   ·exact .inl (if_neg hb)
  ·by_cases hb:b=a
   ·have z':=(if_pos hb).symm.trans z
    cases z'
    subst hb
    exact ⟨ha,by rw [List.length_map]; exact hl,vs,_,rv,ha⟩
   ·have z':=(if_neg hb).symm.trans z
    cases z'
  ·by_cases hb:b=a
   ·exact hb
   ·exact absurd (if_neg hb) z
end L2
namespace L2
open PySem PySem.Spec PyProof.Rows
theorem walk_of {l:PySem.W.OpenLaw}{n k:Nat}{q:Program}{loose:List Str}{XP:(Str->Option Value)->Heap->Prop}{YP:World->Heap->Prop}{d:DefRec}{K:Params->PySem.W.Frag}{CX:World->CXT}{sp:World->Sp}{x:Str}
  (hn:l.most=some n) (hn2:n<=sizeLine) (hdf:d.params.defaults = []) (hr:Room k callerA)
  (hY:∀ (w:World) (h:Heap),YP w h->(K w.params).In h)
  (F:∀ (w:World) (mg:Str->Option Value) (fa:Addr) (h:Heap),(K w.params).In h->h.Ns mainGlobals mg->mg d.name=some (.ref fa) ->
   ∃ fd:FuncData,(∀ (s:Shared) (u:Value),BindsTo s fd ⟨[u],[]⟩ [(x,u)]) /\
    ∀ base:Heap,(K w.params).In base->base.Ns mainGlobals mg->FnOk l.prog w (K w.params) mg base (CX w) k fa fd [x] (sp w))
  (hsp:∀ (w:World) (H:Hp) (a:Addr) (ns:List Int),ns.length<=n->Zgq H->SqL (K w.params) H a (ns.map V.int)->sp w [.ref a] H (fun v _=>v = .bl true) fun _ _ _=>False)
  (hCX:∀ (w:World) (H:Hp) (s:Shared) (e:Value) (s':Shared),CX w [] H s (fun _ _ _=>False) e s'->False) :
  PySem.W.WalkO q loose XP YP l.row.toRowW d [] (fun f vs=>PySem.call f vs):=by
 refine Att.attach_call hn hdf fun w s₀ s₁ mg mb fa o pm cd doc a vs ns G Y ho hd hcd hmg hobj hints hlen hg=>?_
 have KX:=hY w _ Y
 obtain ⟨fd,hb,hF⟩:=F w mg fa _ KX G.T.g hmg
 exact Zqm KX G.T.g G.T.b G.T.builtins G.T.nolimit hg hobj hints (Nat.le_trans hlen hn2) hr hF hb (fun H hO hS=>hsp w H a ns hlen hO hS) fun H e s'=>hCX w H s₁ e s'
end L2
/- THE LAST THEOREM (shape; LID,My.* are yours):
   My.Adr: a structure of the addresses that your layer names (classes,functions); My.Txt K t: a structure (Prop) of the equations over K;
   My.txt_mk:{K} {implicit addresses ..} (e1:nsIn K mainGlobals "law" = some (some (.ref f))) (e2:K.lookup f=some ⟨oc,od,.func (fnOf "law" "law" params body scope dV kV doc pm an cdv ct),sl⟩) (e3:codeIn K cdv "law" = true) .. : ∃ t,My.Txt K t
set_option maxRecDepth 100000 in
set_option maxHeartbeats 0 in
theorem PySem.Challenge.cw_LID_holds : PySem.Challenge.rw_LID.Holds := by
 w_on; o_law; k_head; (case hw=>w_witness2)
 k_fill
 refine L2.walk_of (l:=PySem.Challenge.rw_LID) (n:=63) (k:=40) (x := "script") (CX:=fun w=>..) (sp:=fun _=>My.sp_law) rfl (by decide) rfl ⟨rfl,by decide,by decide⟩ (fun w h Y=>PySem.W.kIn_of Y) ?F ?S ?C
 case F =>
  intro w mg fa h KX G hmg
  have T:∃ t,My.Txt (L2.KOf KX) t:=by
   dsimp only [L2.KOf]                          -- K must stand as «<heap const> w.params» for k_is
   refine' My.txt_mk ?e1 ?e2 ?e3 ..
   (case e1=>PySem.W.k_is)                    -- in the order: a name->its address->its object->its parts
   (case e2=>PySem.W.k_is)
   ..
  obtain ⟨t,T⟩:=T
  have e0:=hmg.symm.trans (PySem.W.mg_of KX G T.law)
  cases e0                                       -- fa is the law's own address
  exact ⟨_,fun s u=>.of_eq rfl,fun base kb nb=>My.law_fn T kb nb⟩     -- if «.of_eq rfl» comes too early: refine' ⟨_,?b,fun base kb nb=>My.law_fn T kb nb⟩; exact fun s u=>.of_eq rfl
 case S=>exact fun w H a ns hl hO hS=>..
 case C=>exact ..
(the tactic k_is has no namespace: write k_is) -/
namespace L2
open PySem PySem.Spec PyProof.Rows
def W3 (s:Stmt):Arguments:=match s with
 | .FunctionDef _ a _ _ _ _ _ _ _ _=>a
 | _=>{posonlyargs:=[],args:=[],vararg:=none,kwonlyargs:=[],kw_defaults:=[],kwarg:=none,defaults:=[] }
def Yw (s:Stmt):List Stmt:=match s with
 | .FunctionDef _ _ b _ _ _ _ _ _ _=>b
 | _=>[]
def Za (s:Stmt):Scope:=match s with
 | .FunctionDef _ _ _ _ _ _ sc _ _ _=>sc
 | _=>{kind:=.function,names:=[],isGenerator:=false,isCoroutine:=false }
abbrev CX0:CXT:=fun _ _ _ _ _ _=>False
abbrev E0:XK:=fun _ _ _=>False
theorem Zvn {X:Cx}:Ze5 CX0 X E0:=fun _ _ _ _ _ _ _ h=>h.elim
structure Fun (K:PySem.W.Frag) (x qual:Str) (st:Stmt) (f:Addr) (fd:FuncData):Prop where
 ex:∃ (oc:Value) (od:Option Addr) (kV doc pm:Value) (an:Option Addr) (cdv ct:Value) (osl:Array (Option Value)),
  fd=PySem.W.fnOf x qual (W3 st) (Yw st) (Za st) .none kV doc pm an cdv ct/\K.lookup f=some ⟨oc,od,.func fd,osl⟩/\PySem.W.codeIn K cdv qual=true
 kp:PySem.W.keepIn K (.ref f)=true
section
variable {P:Program}{w:World}{K:PySem.W.Frag}{mg:Str->Option Value}{base:Heap}
theorem Fun.ok {x qual:Str}{st:Stmt}{f:Addr}{fd:FuncData}{N ps:List Str}{k:Nat}{sp:Sp}(F:Fun K x qual st f fd) (S:FnScope N ps (Za st)) (len:∀ vs H Q E,sp vs H Q E->vs.length=ps.length)
  (hbody:∀ (cdv:Value) (A:Around) (outer:List Env) (s:Shared) (H:Hp) (vs:List V) (Q:VK) (E:XK),Room k (A.deeper (envOfC qual (Za st) s.heap.objs.size f cdv))->sp vs H Q E ->
   ∃ t,PSs (Yl CX0 P w K mg base N qual (Za st) f cdv A outer s H E).nox (Yw st) t/\t {nx:=fun _ H'=>Q .non H',rt:=Q } (Yv N vs) H):FnOk P w K mg base CX0 (k+1) f fd ps sp:=by
 obtain ⟨oc,od,kV,doc,pm,an,cdv,ct,osl,rfl,lk,hcd⟩:=F.ex
 refine Zlc lk hcd S len fun A outer s H vs Q E hr hsp=>?_
 obtain ⟨t,h,q⟩:=hbody cdv A outer s H vs Q E hr hsp
 exact ⟨t,h.nox,q⟩
theorem Fun.binds {x qual:Str}{st:Stmt}{f:Addr}{fd:FuncData}{ps:List Str}(F:Fun K x qual st f fd)
  (h:∀ (kV doc pm:Value) (an:Option Addr) (cdv ct:Value) (us:List Value),us.length=ps.length->bindArgs (PySem.W.fnOf x qual (W3 st) (Yw st) (Za st) .none kV doc pm an cdv ct) ⟨us,[]⟩=pure (ps.zip us)):Binds K fd ps []:=by
 obtain ⟨oc,od,kV,doc,pm,an,cdv,ct,osl,rfl,lk,hcd⟩:=F.ex
 exact .all (h kV doc pm an cdv ct)
theorem Zkf {x qual:Str}{st:Stmt}{f:Addr}{oc:Value}{od an:Option Addr}{osl:Array (Option Value)}{kV doc pm cdv ct:Value}(l:K.lookup f=some ⟨oc,od,.func (PySem.W.fnOf x qual (W3 st) (Yw st) (Za st) .none kV doc pm an cdv ct),osl⟩)
  (c:PySem.W.codeIn K cdv qual=true) (k:PySem.W.keepIn K (.ref f)=true):Fun K x qual st f (PySem.W.fnOf x qual (W3 st) (Yw st) (Za st) .none kV doc pm an cdv ct):=⟨⟨oc,od,kV,doc,pm,an,cdv,ct,osl,rfl,l,c⟩,k⟩
end
section
variable {X:Cx}
end
theorem Zr {A B:Prop}(h:B):if false=true then A else B:=by
 rw [if_neg Bool.false_ne_true]
 exact h
theorem Z2 {A B:Prop}(h:A):if true=true then A else B:=by
 rw [if_pos rfl]
 exact h
def Same (H H':Hp):Prop:=∀ b o,H b=some o->H' b=some o
theorem Same.refl (H:Hp):Same H H:=fun _ _ h=>h
theorem Same.trans {H H1 H2:Hp}(a:Same H H1) (b:Same H1 H2):Same H H2:=fun c o h=>b c o (a c o h)
theorem Same.free {H H':Hp}(e:Same H H') {l:Addr}(h:H' l=Option.none):H l=Option.none:=by
 cases q:H l with
 | none=>rfl
 | some o =>
  rw [e l o q] at h
  cases h
end L2
namespace L2
open PySem PySem.Spec PyProof.Rows
section
variable {X:Cx}
end
section
variable {κ:Type} [DecidableEq κ]
theorem Zje:∀ {l:List κ}{k : κ},l.Nodup->¬ k∈l->(l ++ [k]).Nodup
 | [],k,_,_=>by simp
 | a::r,k,h,hk=>by
  obtain ⟨h1,h2⟩:=List.nodup_cons.mp h
  show (a::(r ++ [k])).Nodup
  refine List.nodup_cons.mpr ⟨fun m=>?_,Zje h2 fun m=>hk (List.mem_cons.mpr (Or.inr m))⟩
  rcases List.mem_append.mp m with q | q
  ·exact h1 q
  ·exact hk (List.mem_cons.mpr (Or.inl (List.mem_singleton.mp q).symm))
end
end L2
end
section
set_option Elab.async false
set_option linter.all false
set_option maxRecDepth 100000
set_option maxHeartbeats 4000000
namespace L2
open PySem PySem.Spec PyProof.Rows
abbrev ccx (X:Cx) (scope:Scope) (cl:List (Str×Addr)) (C:Addr) (N':List Str) (s2:Shared) (H2:Hp) (ex:List Addr) (pn:List (Addr×Obj)):Cx where
 prog:=X.prog
 w:=X.w
 K:=X.K
 mg:=X.mg
 base:=X.base
 A:=X.A
 N:=N'
 s₀:=s2
 H₀:=H2
 env:=compEnvC scope cl C X.env
 outer:=X.stack
 stack:=X.stack
 ex:=ex
 fn:=fun _=>false
 calm:=X.calm
 pn:=pn
 xe:=fun _ _=>False
theorem Zdp (env:Env):∀ (l:List (Str×NameKind)) (cs:List (Str×Addr)),(∀ p∈l,p.2 = .free->∃ c,env.cells.lookup p.1=some c) ->
  ∃ cl,(forIn l cs (fun (x:Str×NameKind) (r:List (Str×Addr))=>if (x.2 == NameKind.free)=true then (do let a ← cellOf env x.1; pure (ForInStep.yield ((x.1,a)::r)):Sem (ForInStep (List (Str×Addr)))) else pure (ForInStep.yield r)):Sem _)=pure cl /\
   (∀ x c,cl.lookup x=some c->env.cells.lookup x=some c\/cs.lookup x=some c)/\(∀ x,((x,NameKind.free)∈l\/∃ c,cs.lookup x=some c)->∃ c,cl.lookup x=some c)
 | [],cs,_=>⟨cs,rfl,fun x c h=>.inr h,fun x h=>h.elim (fun z=>nomatch z) id⟩
 | (n,k)::r,cs,h=>by
  have hr:∀ p∈r,p.2 = .free->∃ c,env.cells.lookup p.1=some c:=fun p hp=>h p (List.mem_cons_of_mem _ hp)
  by_cases hk:k = .free
  ·subst hk
   obtain ⟨c,hc⟩:=h (n,.free) List.mem_cons_self rfl
   obtain ⟨cl,e,h1,h2⟩:=Zdp env r ((n,c)::cs) hr
   refine ⟨cl,?_,fun x d hx=>?_,fun x hx=>?_⟩
   ·rw [List.forIn_cons]
    have e2:cellOf env n=pure c:=by unfold cellOf; rw [hc]
    simp only [beq_self_eq_true,if_true,e2,pure_bind]
    exact e
   ·rcases h1 x d hx with z | z
    ·exact .inl z
    ·rw [List.lookup_cons] at z
     cases q:x == n with
     | true =>
      rw [q] at z
      cases z
      have:x=n:=by simpa using q
      subst this
      exact .inl hc
     | false =>
      rw [q] at z
      exact .inr z
   ·apply h2
    rcases hx with hx | ⟨d,hx⟩
    ·rcases List.mem_cons.mp hx with z | z
     ·cases z
      exact .inr ⟨c,by rw [List.lookup_cons]; simp⟩
     ·exact .inl z
    ·right
     rw [List.lookup_cons]
     cases q:x == n with
     | true=>exact ⟨c,rfl⟩
     | false=>exact ⟨d,hx⟩
  ·obtain ⟨cl,e,h1,h2⟩:=Zdp env r cs hr
   refine ⟨cl,?_,h1,fun x hx=>h2 x ?_⟩
   ·rw [List.forIn_cons]
    have e2:(k == NameKind.free)=false:=by simpa using hk
    simp only [e2,Bool.false_eq_true,if_false,pure_bind]
    exact e
   ·rcases hx with hx | hx
    ·rcases List.mem_cons.mp hx with z | z
     ·cases z
      exact absurd rfl hk
     ·exact .inl z
    ·exact .inr hx
theorem Zoy {scope:Scope}{env:Env}(h:∀ p∈scope.names,p.2 = .free->∃ c,env.cells.lookup p.1=some c) :
  ∃ cl,closureFor scope env=pure cl/\(∀ x c,cl.lookup x=some c->env.cells.lookup x=some c)/\(∀ x,(x,NameKind.free)∈scope.names->∃ c,cl.lookup x=some c):=by
 obtain ⟨cl,e,h1,h2⟩:=Zdp env scope.names [] h
 refine ⟨cl,?_,fun x c hx=>(h1 x c hx).elim id (fun z=>nomatch z),fun x hx=>h2 x (.inl hx)⟩
 unfold closureFor
 have e':=congrArg (fun m:Sem (List (Str×Addr))=>m >>= fun r=>pure r) e
 simp only [pure_bind] at e'
 exact e'
theorem Zhm {env:Env}{kk:NameKind}(hkk:kk ≠ .free):∀ {names:List (Str×NameKind)}{x:Str},names.lookup x=some kk ->
  (names.map fun (n,k)=>if (k == NameKind.free && env.scope.kind == .function && env.kindOf n == some .cell) then (n,NameKind.cell) else (n,k)).lookup x=some kk
 | [],_,h=>by simp at h
 | (n,k)::r,x,h=>by
  have ih:=@Zhm env kk hkk r x
  show List.lookup x ((if (k == NameKind.free && env.scope.kind == .function && env.kindOf n == some .cell)=true then (n,NameKind.cell) else (n,k))::_)=_
  cases hx:x == n with
  | true =>
   simp only [List.lookup_cons,hx] at h
   have h:some k=some kk:=h
   have h':k=kk:=Option.some.inj h
   subst h'
   have e:(k == NameKind.free)=false:=by simpa using hkk
   rw [e,Bool.false_and,Bool.false_and,if_neg Bool.false_ne_true,List.lookup_cons,hx]
  | false =>
   simp only [List.lookup_cons,hx] at h
   by_cases hc:(k == NameKind.free && env.scope.kind == .function && env.kindOf n == some .cell)=true
   ·rw [if_pos hc]; simp only [List.lookup_cons,hx]; exact ih h
   ·rw [if_neg hc]; simp only [List.lookup_cons,hx]; exact ih h
theorem Zdm {env:Env}:∀ {names:List (Str×NameKind)}{x:Str},names.lookup x=some .free ->
  ((names.map fun (n,k)=>if (k == NameKind.free && env.scope.kind == .function && env.kindOf n == some .cell) then (n,NameKind.cell) else (n,k)).lookup x=some .cell) \/
  ((names.map fun (n,k)=>if (k == NameKind.free && env.scope.kind == .function && env.kindOf n == some .cell) then (n,NameKind.cell) else (n,k)).lookup x=some .free)
 | [],_,h=>by simp at h
 | (n,k)::r,x,h=>by
  have ih:=@Zdm env r x
  show (List.lookup x ((if (k == NameKind.free && env.scope.kind == .function && env.kindOf n == some .cell)=true then (n,NameKind.cell) else (n,k))::_)=_)\/(List.lookup x ((if (k == NameKind.free && env.scope.kind == .function && env.kindOf n == some .cell)=true then (n,NameKind.cell) else (n,k))::_)=_)
  cases hx:x == n with
  | true =>
   simp only [List.lookup_cons,hx] at h
   cases h
   by_cases hc:(NameKind.free == NameKind.free && env.scope.kind == .function && env.kindOf n == some .cell)=true
   ·rw [if_pos hc]; simp [List.lookup_cons,hx]
   ·rw [if_neg hc]; simp [List.lookup_cons,hx]
  | false =>
   simp only [List.lookup_cons,hx] at h
   by_cases hc:(k == NameKind.free && env.scope.kind == .function && env.kindOf n == some .cell)=true
   ·rw [if_pos hc]; simp only [List.lookup_cons,hx]; exact ih h
   ·rw [if_neg hc]; simp only [List.lookup_cons,hx]; exact ih h
theorem Zht {env:Env}{scope:Scope}{x:Str}(hcell:∀ y∈scope.names,y.2 ≠ .cell) (h:(relabel scope env).names.lookup x=some .cell\/(relabel scope env).names.lookup x=some .free):(x,NameKind.free)∈scope.names:=by
 have m:∃ k',(k'=NameKind.cell\/k'=NameKind.free)/\(x,k')∈(relabel scope env).names:=by
  rcases h with h | h
  ·exact ⟨_,.inl rfl,PySem.mem_of_lookup h⟩
  ·exact ⟨_,.inr rfl,PySem.mem_of_lookup h⟩
 obtain ⟨k',hk,m⟩:=m
 obtain ⟨⟨n,k⟩,hm,e⟩:=List.mem_map.mp m
 have e:(if (k == NameKind.free && env.scope.kind == .function && env.kindOf n == some .cell)=true then (n,NameKind.cell) else (n,k))=(x,k'):=e
 by_cases hc:(k == NameKind.free && env.scope.kind == .function && env.kindOf n == some .cell)=true
 ·rw [if_pos hc] at e
  cases e
  have:k = .free:=by
   cases k <;> simp at hc ⊢
  rw [← this]; exact hm
 ·rw [if_neg hc] at e
  cases e
  rcases hk with z | z
  ·exact absurd z (hcell _ hm)
  ·rw [← z]; exact hm
section
variable {prog:Program}{w:World}{A:Around}{E:Value->Shared->Prop}{R:Result->Shared->Prop}{s:Shared}
theorem Zn0 {elt target iter:Expr}{ifs:List Expr}{scope:Scope}{pos:Pos}{it acc:Value}{env:Env}(I:Nat->Shared->Prop) {EX:Value->Shared->Prop}(hEX:∀ e s,EX e s->notedBy (model prog w) A env (fun x s'=>R (.error x) s') e s)
  (turn:∀ n s,I n s->wpAny (model prog w) A (pyNext it) (fun r s₁=>match r with
   | none=>R (.ok .next) s₁
   | some v=>wpAny (model prog w) A (letOwnedTupleGo target it v) (fun _ s1=>wpAny (model prog w) A (assign target env v) (fun _ s₂ =>
     wpAny (model prog w) A (forIn ifs true fun c r=>if r=true then do let ok ← isTrue c env (eval c env); pure (ForInStep.yield ok) else pure (ForInStep.yield r)) (fun ok s₃ =>
      if ok=true then wpAny (model prog w) A (eval elt env) (fun x s₄ =>
       wpAny (model prog w) A (call (.builtin "list.append") [acc,x]) (fun _ s₅=>∃ m,m < n/\I m s₅) (fun _ _=>False) s₄) EX s₃
      else ∃ m,m < n/\I m s₃) (fun _ _=>False) s₂) (fun _ _=>False) s1) (fun _ _=>False) s₁) (fun _ _=>False) s)
  (n:Nat) (h:I n s) :
  codeAny (model prog w) A (.compLoop (.ListComp elt [⟨target,iter,ifs,0⟩] scope pos) 0 it acc env) R s:=by
 refine codeAny_loop rfl I (fun n s hI=>?_) n h
 show wpAny _ A ((compTurn (.ListComp elt [⟨target,iter,ifs,0⟩] scope pos) 0 it acc env).onRaise (fun x=>do noteFrame x env; theTreesLotGoes x)) _ _ s
 refine wpAny_noted ?_
 rw [compTurn_list]
 refine wpAny_bind (wpAny_standAt (wpAny_bind (wpAny_mono (turn n s hI) (fun r s₁ h₁=>?_) fun _ _ h'=>h'.elim)))
 cases r with
 | none=>exact wpAny_pure h₁
 | some v =>
  refine wpAny_bind (wpAny_mono h₁ (fun _ s1 h1=>?_) fun _ _ h'=>h'.elim)
  refine wpAny_bind (wpAny_mono h1 (fun _ s₂ h₂=>wpAny_bind (wpAny_mono h₂ (fun ok s₃ h₃=>?_) fun _ _ h'=>h'.elim)) fun _ _ h'=>h'.elim)
  cases ok with
  | false=>exact wpAny_pure ⟨rfl,h₃⟩
  | true =>
   exact wpAny_bind (wpAny_bind (wpAny_mono h₃ (fun x s₄ h₄=>wpAny_bind (wpAny_mono h₄ (fun _ s₅ h₅=>wpAny_pure (wpAny_pure ⟨rfl,h₅⟩)) fun _ _ h'=>h'.elim)) fun e s h'=>hEX e s h'))
end
abbrev TTs:=St->Hp->(Bool->Hp->Prop)->Prop
def PTs (X:Cx) (ifs:List Expr) (t:TTs):Prop :=
 ∀ (pins:List (Addr×Obj)) (s:Shared) (σ:St) (H:Hp) (Q:Bool->Hp->Prop),Inv X pins σ H s->t σ H Q ->
  wpAny (model X.prog X.w) X.A (forIn ifs true fun c r=>if r=true then do let ok ← isTrue c X.env (eval c X.env); pure (ForInStep.yield ok) else pure (ForInStep.yield r)) (TP X pins σ Q) X.xe s
theorem Zsi {X:Cx}:PTs X [] (fun _ H Q=>Q true H):=fun _ _ _ H _ I h=>wpAny_tests_nil ⟨H,I,h⟩
structure FrOk (X:Cx) (scope:Scope) (fr:List (Str×Nat)):Prop where
 slots:∀ p∈fr,X.N[p.2]? = some p.1/\(X.env.kindOf p.1=some .cell\/X.env.kindOf p.1=some .free)
 kind:∀ p∈fr,scope.names.lookup p.1=some .free
def inN (locs:List Str) (fr:List (Str×Nat)):List Str:=locs++fr.map (·.1)
def inS (locs:List Str) (fr:List (Str×Nat)) (σ:St):St:=List.replicate locs.length none++fr.map fun p=>(σ[p.2]?).join
def inF (fr:List (Str×Nat)) (σ:St):St:=fr.map fun p=>(σ[p.2]?).join
def Wf (n:Nat) (fv:St) (g:TG) (tt:TTs) (te:TE) (x:V) (H:Hp) (Y:V->Hp->Prop) (N:Hp->Prop):Prop :=
 ∀ ls:St,ls.length=n->g x (ls++fv) H fun σ2 H2=>(∃ l2:St,l2.length=n /\ σ2=l2++fv)/\tt σ2 H2 fun b H3=>if b=true then te σ2 H3 Y else N H3
def Vf (J:It) (n:Nat) (fv:St) (g:TG) (tt:TTs) (te:TE) (Q:VK) (H1:Hp):Prop:=∃ W:Nat->Nat->List V->Hp->Prop,(∃ m,W 0 m [] H1)/\∀ i m ys H,W i m ys H ->
 (J.stop i H/\ys.length<=sizeLine/\∀ l,H l=none->Q (.ref l) (upd H l (.lst ys))) \/
 (J.go i H/\ys.length < sizeLine/\∃ m',m' < m/\∀ x H',J.yld i H x H'->Wf n fv g tt te x H' (fun y H4=>W (i+1) m' (ys ++ [y]) H4) fun H3=>W (i+1) m' ys H3)
def Zc2 (n:Nat) (fr:List (Str×Nat)) (wi:TI) (g:TG) (tt:TTs) (te:TE):TE:=fun σ H Q=>wi σ H fun J H1=>Vf J n (inF fr σ) g tt te Q H1
theorem Zsj {P:Program}{w:World}{H:Hp}{h:Heap}{D:Addr}{o:HO}(ok:HOk P w H h) (hn:H D=none) (new:ObjOk P w (upd H D o) h D o):HOk P w (upd H D o) h:=fun b u e=>by
 by_cases hb:b=D
 ·subst hb; rw [Zg] at e; cases e; exact new
 ·rw [Zt hb] at e
  exact (ok b u e).stay (fun _ _ _ q=>q) (fun c q=>by rw [Zt (Yg q hn)]; exact q) fun c xs q=>by rw [Zt (Yg q hn)]; exact q
section
variable {X:Cx}{tg elt iter:Expr}{ifs:List Expr}{scope:Scope}{pos:Pos}{locs:List Str}{fr:List (Str×Nat)}{g:TG}{tt:TTs}{te:TE}
theorem Zdv {pins:List (Addr×Obj)}{σ:St}{H1:Hp}{s2:Shared}{it:Addr}{fp:List Addr}{tn:Nat->Heap->Prop}{J:It}{cl:List (Str×Addr)}{E:Value->Shared->Prop}
  {RR:Value->Addr->Result->Shared->Prop}{QQ:List V->Hp->Prop}{EE:Hp->Value->Shared->Prop}
  (hc:X.calm=true) (hkind:scope.kind = .function) (hcell:∀ y∈scope.names,y.2 ≠ .cell) (hlo:∀ x∈locs,scope.names.lookup x=some .local) (F:FrOk X scope fr) (hnd:(inN locs fr).Nodup)
  (cl1:∀ x c,cl.lookup x=some c->X.env.cells.lookup x=some c) (cl2:∀ x,(x,NameKind.free)∈scope.names->∃ c,cl.lookup x=some c)
  (inner:∀ (C:Addr) (s0:Shared) (H0:Hp) (ex:List Addr) (pn:List (Addr×Obj)),PG (ccx X scope cl C (inN locs fr) s0 H0 ex pn) tg g/\PTs (ccx X scope cl C (inN locs fr) s0 H0 ex pn) ifs tt)
  (hel:∀ (C:Addr) (pE:List (Addr×Obj)) (s:Shared) (σ':St) (H:Hp) (Y:VK),(∀ b∈fp,∃ o,(b,o)∈pE)->Inv (ccx X scope cl C (inN locs fr) s2 H1 fp (X.pn++pins)) pE σ' H s->te σ' H Y ->
   wpAny (model X.prog X.w) X.A (eval elt (compEnvC scope cl C X.env)) (EP (ccx X scope cl C (inN locs fr) s2 H1 fp (X.pn++pins)) pE σ' Y) (fun e s'=>∃ pE' σ2 H',Inv (ccx X scope cl C (inN locs fr) s2 H1 fp (X.pn++pins)) pE' σ2 H' s'/\EE H' e s') s)
  (hER:∀ (D C:Addr) (H':Hp) (e:Value) (s':Shared) (m:Str->Option Value),Inv X pins σ H' s'->Wg X pins H' C->s'.heap.Ns C m->EE H' e s'->notedBy (model X.prog X.w) X.A (compEnvC scope cl C X.env) (fun x s''=>RR (.ref D) C (.error x) s'') e s')
  (I:Inv X pins σ H1 s2) (T:Turn X.prog X.w X.K tg J fp it tn) (st0:tn 0 s2.heap) (hf:∀ b∈fp,Wg X pins H1 b)
  {W:Nat->Nat->List V->Hp->Prop}(w0:∃ m,W 0 m [] H1) (turn:∀ i m ys H,W i m ys H ->
   (J.stop i H/\ys.length<=sizeLine/\QQ ys H) \/
   (J.go i H/\ys.length < sizeLine/\∃ m',m' < m/\∀ x H',J.yld i H x H'->Wf locs.length (inF fr σ) g tt te x H' (fun y H4=>W (i+1) m' (ys ++ [y]) H4) fun H3=>W (i+1) m' ys H3))
  (hRR:∀ (D C:Addr) (ys:List V) (H':Hp) (s':Shared) (m:Str->Option Value),H' D=none->D≠C->Inv X pins σ (upd H' D (.lst ys)) s'->Wg X pins (upd H' D (.lst ys)) C->s'.heap.Ns C m->QQ ys H'->RR (.ref D) C (.ok .next) s') :
  wpAny (model X.prog X.w) X.A (newList []) (fun acc s₃=>wpAny (model X.prog X.w) X.A (newFunctionEnv scope X.env.globals cl [] X.env.qual none .none (some X.env)) (fun cenv s₄ =>
   codeAny (model X.prog X.w) X.A (.compStart (.ListComp elt [⟨tg,iter,ifs,0⟩] scope pos) 0 (.ref it) acc {cenv with scope:=relabel scope X.env }) (RR acc cenv.locals) s₄) E s₃) E s2:=by
 refine wpAny_newObj_type (wpAny_newFunctionEnv hcell (by intro y hy; simp at hy) (fun h₁ hns₁ hsb₁=>?_) hkind)
 dsimp only at hns₁ hsb₁ ⊢
 generalize hH2:s2.heap.push {cls:=.type "list", dict:=none,data:=.seq ([]:List Value).toArray }=Hq at hns₁ hsb₁ ⊢
 have hC:Hq.objs.size=s2.heap.objs.size+1:=by rw [← hH2,Heap.size_push]
 generalize hDe:s2.heap.objs.size=D at hC ⊢
 generalize hCe:Hq.objs.size=C at hC hns₁ hsb₁ ⊢
 have hDC:D≠C:=by lia
 have below:∀ b,b < D->b≠C/\b≠D:=fun b hb=>⟨by lia,by lia⟩
 have ltD:∀ {b:Addr}{o:Obj},s2.heap.get? b=some o->b < D:=fun e=>hDe▸Heap.lt_size e
 have old:∀ b o,s2.heap.get? b=some o->h₁.get? b=some o:=fun b o e=>hsb₁.extBut b o (below b (ltD e)).1 (Heap.get?_push_of_some _ (hH2▸Heap.get?_push_of_some _ e))
 have hacc:h₁.PlainList D #[]:=⟨_,hsb₁.extBut _ _ hDC (Heap.get?_push_of_some _ (by subst hDe; exact hH2▸Heap.get?_push_size _ rfl))⟩
 let X':Cx:=ccx X scope cl C (inN locs fr) s2 H1 fp (X.pn++pins)
 have ltC:s2.heap.objs.size<=C:=by rw [hDe,hC]; exact Nat.le_succ _
 have fpC:Wg X pins H1 C:=I.fpOk ltC (I.hok.fresh ltC)
 have fpD:Wg X pins H1 D:=I.fpOk (Nat.le_of_eq hDe) (I.hok.fresh (Nat.le_of_eq hDe))
 have stkN:∀ b,b≠X.env.locals->b∉X.fs->b∉frs X.stack:=fun b h1 h2 z=>(List.mem_cons.mp (I.stkSub b z)).elim h1 h2
 have ok':X'.Ok:=by
  refine ⟨I.ok.mod,hkind,I.ok.glob,I.ok.blt,ltC,fun x y c h1 h2=>I.ok.inj x y c (cl1 x c h1) (cl1 y c h2),fun x hx=>?_,fun x c h=>?_,I.ok.hd,I.ok.frames,.inl rfl,fun b hb=>?_,fun b o e=>I.bs b o e,Nat.le_trans I.ok.bsz I.sz,fun b o e hb=>?_,fun b hb=>?_,I.stack,I.stkFree⟩
  ·obtain ⟨c,hcc⟩:=cl2 x (Zht hcell hx)
   exact ⟨c,hcc⟩
  ·cases h
  ·refine ⟨fun z=>?_,fun x c e=>(hf b hb).2.2.2.2.1 x c (cl1 x c e)⟩
   obtain ⟨o,ho,_⟩:=T.obj _ _ st0 b hb
   have z':b=C:=z
   exact (below b (ltD ho)).1 z'
  ·have hb':=hf b hb
   rcases hb'.2.2.2.1 with z | z
   ·exact I.ok.noex b o e z
   ·exact absurd (Nat.lt_of_lt_of_le (Heap.lt_size e) (Nat.le_trans I.ok.bsz z)) (Nat.lt_irrefl _)
  ·exact stkN b (hf b hb).2.1 (hf b hb).2.2.1
 have I1:Inv X' [] (inS locs fr σ) H1 {s2 with heap:=h₁,toks:=s2.toks+([]:List (Str×Value)).length }:=by
  refine ⟨ok',I.os.symm▸rfl,I.bare,Un.kept old,⟨_,hns₁,fun i x v h1 h2 h3=>?_⟩,fun x c e=>?_,I.hok.fresh ltC,fun x c e=>I.freeC x c (cl1 x c e),fun p hp=>?_,I.hok.kept old,?_⟩
  ·-- a slot of the block that has a value is a free name's
   have hge:locs.length<=i:=by
    by_cases hi:i < locs.length
    ·unfold inS at h2
     rw [List.getElem?_append_left (by simpa using hi),List.getElem?_replicate,if_pos hi] at h2
     cases h2
    ·lia
   have h1':(fr.map (·.1))[i - locs.length]? = some x:=by
    have h1:(inN locs fr)[i]? = some x:=h1
    unfold inN at h1
    rw [List.getElem?_append_right hge] at h1
    exact h1
   have h2':(fr.map fun p=>(σ[p.2]?).join)[i - locs.length]? = some (some v):=by
    unfold inS at h2
    rw [List.getElem?_append_right (by simpa using hge),List.length_replicate] at h2
    exact h2
   rw [List.getElem?_map] at h1' h2'
   cases e:fr[i - locs.length]? with
   | none=>rw [e] at h1'; cases h1'
   | some p =>
    rw [e] at h1' h2'
    have ex:p.1=x:=Option.some.inj h1'
    have ev:(σ[p.2]?).join=some v:=Option.some.inj h2'
    obtain ⟨f1,f2⟩:=F.slots p (List.mem_of_getElem? e)
    have ev' : σ[p.2]? = some (some v):=by
     cases q : σ[p.2]? with
     | none=>rw [q] at ev; cases ev
     | some o=>rw [q] at ev; cases o with
      | none=>cases ev
      | some v'=>cases ev; rfl
    obtain ⟨m0,hn0,hl0⟩:=I.loc
    have vis0:Vis X.env.scope p.1:=by
     rcases f2 with z | z
     ·exact .inr (.inl z)
     ·exact .inr (.inr z)
    obtain ⟨u,ru,lk⟩:=hl0 p.2 p.1 v f1 ev' vis0
    have hxm:x∉locs:=fun z=>by
     have hnd':=hnd
     unfold inN at hnd'
     exact (List.nodup_append.mp hnd').2.2 x z x (List.mem_map.mpr ⟨p,List.mem_of_getElem? e,ex⟩) rfl
    refine ⟨u,ru,?_⟩
    rcases lk with ⟨hk,_⟩ | ⟨hk,c,hcc,hce⟩
    ·rcases f2 with z | z
     ·rw [z] at hk; cases hk
     ·rw [z] at hk; cases hk
    ·-- in the block it is a cell or free name
     have h3:Vis (relabel scope X.env) x:=h3
     have hk':(compEnvC scope cl C X.env).kindOf x=some .cell\/(compEnvC scope cl C X.env).kindOf x=some .free:=by
      rcases h3 with z | z | z
      ·exfalso
       have q:=Zdm (env:=X.env) (F.kind p (List.mem_of_getElem? e))
       rw [ex] at q
       rcases q with q | q
       ·have z':some NameKind.local=some NameKind.cell:=z.symm.trans q
        cases z'
       ·have z':some NameKind.local=some NameKind.free:=z.symm.trans q
        cases z'
      ·exact .inl z
      ·exact .inr z
     obtain ⟨c',hc'⟩:=cl2 x (Zht hcell hk')
     have:=cl1 x c' hc'
     rw [← ex,hcc] at this
     cases this
     refine .inr ⟨hk',c,hc',?_⟩
     obtain ⟨o,ho,hd⟩:=hce
     exact ⟨o,old _ _ ho,hd⟩
  ·obtain ⟨v,o,ho,hd⟩:=I.cell x c (cl1 x c e)
   exact ⟨v,o,old _ _ ho,hd⟩
  ·have hp':p∈X.pn++pins:=(List.mem_append.mp hp).elim id fun z=>nomatch z
   obtain ⟨e,n,ne,nf,d⟩:=I.pin p hp'
   exact ⟨old _ _ e,n,(below _ (ltD e)).1,stkN _ ne nf,d⟩
  ·show (inS locs fr σ).length=(inN locs fr).length
   unfold inS inN
   simp
 have fpLt:∀ b∈fp,b < D:=fun b hb=>by
  obtain ⟨o,ho,_⟩:=T.obj _ _ st0 b hb
  exact ltD ho
 obtain ⟨m0,w0⟩:=w0
 let oD:List Value->Nat->Obj:=fun its k=>{cls:=.type "list", data:=.seq its.toArray k }
 have stat:∀ {H':Hp}{ob:Obj},(∀ b∈fp,H' b=none)->∀ b∈fp,Wg X' [(D,ob)] H' b:=fun {H' ob} hn b hb=>by
  obtain ⟨f0,f1,f2,f3,f4,f5⟩:=hf b hb
  refine ⟨hn b hb,(below b (fpLt b hb)).1,stkN b f1 f2,.inl hb,fun x c e=>f4 x c (cl1 x c e),fun p hp z=>?_⟩
  rcases List.mem_append.mp hp with q | q
  ·exact f5 p q z
  ·have e:p=(D,ob):=by simpa using q
   subst e
   exact (below b (fpLt b hb)).2 z.symm
 have loop:∀ s₃:Shared,s₃={s2 with heap:=h₁,toks:=s2.toks+([]:List (Str×Value)).length } ->
   codeAny (model X.prog X.w) X.A (.compLoop (.ListComp elt [⟨tg,iter,ifs,0⟩] scope pos) 0 (.ref it) (.ref D) (compEnvC scope cl C X.env)) (RR (.ref D) C) s₃:=by
  rintro s₃ rfl
  refine Zn0 (fun n s'=>∃ (i:Nat) (ls:St) (H':Hp) (ys:List V) (its:List Value) (k:Nat),ls.length=locs.length/\Inv X' [(D,oD its k)] (ls++inF fr σ) H' s'/\tn i s'.heap/\(∀ b∈fp,H' b=none)/\Vals ys its/\W i n ys H') (EX:=fun e s'=>∃ pE' σ2 H',Inv X' pE' σ2 H' s'/\EE H' e s') ?_ ?_ m0 ?_
  ·rintro e s4 ⟨pE',σ2,H3,I4,q⟩
   obtain ⟨mC,hnC,_⟩:=I4.loc
   have hnC:s4.heap.Ns C mC:=hnC
   have nC:H3 C=none:=I4.free
   have I5:Inv X pins σ H3 s4:=I.call' (ch:=fp) (show s4.os=s2.os from I4.os) I4.base I4.hok I4.bare fun b hb=>by
    obtain ⟨f0,f1,f2,f3,f4,f5⟩:=hf b hb
    exact ⟨f3,f1,f4,f5⟩
   exact hER D C H3 e s4 mC I5 (I.fpOk ltC nC) hnC q
  ·rintro n s3 ⟨i,ls,H3,ys,its,k,hls,I3,st3,fr3,rv,w3⟩
   rcases turn i n ys H3 w3 with ⟨stop,hz,q⟩ | ⟨go,hz,m',hm,step⟩
   ·refine thn (T.done X' rfl rfl rfl hc i _ s3 _ H3 (fun _ _=>False) I3 (stat fr3) st3 stop) fun r s4 ⟨hr,I4⟩=>?_
    subst hr
    obtain ⟨pD,nD,_,_,_⟩:=I4.pin (D,oD its k) (List.mem_append_right _ List.mem_cons_self)
    have nD:H3 D=none:=nD
    obtain ⟨mC,hnC,_⟩:=I4.loc
    have hnC:s4.heap.Ns C mC:=hnC
    have nC:H3 C=none:=I4.free
    have new:ObjOk X.prog X.w (upd H3 D (.lst ys)) s4.heap D (.lst ys):=⟨hz,its,k,rv,pD⟩
    have hok4:HOk X.prog X.w (upd H3 D (.lst ys)) s4.heap:=Zsj I4.hok nD new
    have u4:Un (frs X.stack) fp H1 H3 s2.heap s4.heap:=I4.base
    have u5:Un (frs X.stack) fp H1 (upd H3 D (.lst ys)) s2.heap s4.heap:=by
     refine ⟨u4.keep,u4.slot,fun b o e n hx=>?_,u4.there,fun b xs e=>?_,fun b o u e=>?_,fun b ps e=>?_⟩
     ·rw [Zt (below b (ltD e)).2]; exact u4.free b o e n hx
     ·rw [Zt (Yg e fpD.1)]; exact u4.tups b xs e
     ·rw [Zt (Yg e fpD.1)]; exact u4.frzs b o u e
     ·rw [Zt (Yg e fpD.1)]; exact u4.tbls b ps e
    have I5:Inv X pins σ (upd H3 D (.lst ys)) s4:=by
     refine I.call' (ch:=fp) ?_ u5 hok4 I4.bare fun b hb=>?_
     ·have:s4.os=s2.os:=I4.os
      exact this
     ·obtain ⟨f0,f1,f2,f3,f4,f5⟩:=hf b hb
      exact ⟨f3,f1,f4,f5⟩
    have fpC':Wg X pins (upd H3 D (.lst ys)) C:=I.fpOk ltC (by rw [Zt hDC.symm]; exact nC)
    exact hRR D C ys H3 s4 mC nD hDC I5 fpC' hnC q
   ·refine thn (T.item X' rfl rfl rfl hc i _ s3 _ H3 (fun _ _=>False) I3 (stat fr3) st3 go) fun r s4 ⟨u,hr,h4⟩=>?_
    subst hr
    refine thn h4 fun _ s5 ⟨x,H5,I5,r5,y5,st5,fr5⟩=>?_
    obtain ⟨hg,htt⟩:=inner C s2 H1 fp (X.pn++pins)
    have I5':=I5.pinned (stat fr5) (T.obj _ _ st5)
    refine thn (hg _ s5 _ H5 x u _ I5' r5 (step x H5 y5 ls hls)) fun _ s6 ⟨σ6,H6,I6,⟨l6,hl6,e6⟩,q6⟩=>?_
    subst e6
    refine thn (htt _ s6 _ H6 _ I6 q6) fun ok s7 ⟨H7,I7,q7⟩=>?_
    have again:∀ {H8:Hp}{s8:Shared},Inv X' ([(D,oD its k)]++Ue fp s5.heap) (l6++inF fr σ) H8 s8->tn (i+1) s8.heap/\∀ b∈fp,H8 b=none:=fun {H8 s8} I8=>by
     refine ⟨T.keep _ _ _ st5 fun b hb o e=>(I8.pin (b,o) (List.mem_append_right _ (List.mem_append_right _ (Za4 hb e)))).1,fun b hb=>?_⟩
     obtain ⟨o,e,d⟩:=T.obj _ _ st5 b hb
     exact (I8.pin (b,o) (List.mem_append_right _ (List.mem_append_right _ (Za4 hb e)))).2.1
    cases ok with
    | false =>
     rw [if_neg Bool.false_ne_true] at q7 ⊢
     obtain ⟨a1,a2⟩:=again I7
     exact ⟨m',hm,i+1,l6,H7,ys,its,k,hl6,I7.unpinned,a1,a2,rv,q7⟩
    | true =>
     rw [if_pos rfl] at q7 ⊢
     refine thn (hel C _ s7 _ H7 _ (fun b hb=>let ⟨o,ho,_⟩:=T.obj _ _ st5 b hb; ⟨o,List.mem_append_right _ (Za4 hb ho)⟩) I7 q7) fun yv s8 ⟨y,H8,I8,r8,q8⟩=>?_
     obtain ⟨a1,a2⟩:=again I8
     obtain ⟨pD,nD,_,nfD,_⟩:=I8.pin (D,oD its k) (List.mem_append_right _ (List.mem_append_left _ List.mem_cons_self))
     have nD:H8 D=none:=nD
     have hl8:s8.heap.PlainList D its.toArray:=⟨k,pD⟩
     have hlen:its.toArray.size<=sizeLine:=by
      rw [List.size_toArray,← rv.length]; lia
     refine wpAny_list_append_plain (hsz:=hlen) hl8 fun h9 hl9 hs9=>?_
     obtain ⟨k9,e9⟩:=hl9
     have I9:Inv X' (Ue fp s5.heap) (l6++inF fr σ) H8 s8:=I8.pins_of fun p hp=>I8.pin p (List.mem_append_right _ (List.mem_append_right _ hp))
     have I10:Inv X' (Ue fp s5.heap) (l6++inF fr σ) H8 {s8 with heap:=h9 }:=by
      refine I9.turned (it:=D) (t':=s8.toks) (fun b o hb e=>(hs9.2 b hb).trans e) nD ?_ ?_ ?_ ?_
      ·exact hDC
      ·exact .inr (Nat.le_of_eq hDe)
      ·exact fun x c e=>fpD.2.2.2.2.1 x c (cl1 x c e)
      ·intro p hp z
       rcases List.mem_append.mp hp with q | q
       ·exact fpD.2.2.2.2.2 p q z
       ·have:=fpLt p.1 (Zh7 q).1
        exact (below p.1 this).2 z
     have e9':h9.get? D=some (oD (its ++ [yv]) k9):=by
      rw [e9]; simp [oD]
     have I11:Inv X' [(D,oD (its ++ [yv]) k9)] (l6++inF fr σ) H8 {s8 with heap:=h9 }:=I10.pins_of fun p hp=>by
      have e:p=(D,oD (its ++ [yv]) k9):=by simpa using hp
      subst e
      exact ⟨e9',nD,hDC,nfD,fun v z=>by cases z⟩
     refine ⟨m',hm,i+1,l6,H8,ys ++ [y],its ++ [yv],k9,hl6,I11,?_,a2,Vals.append rv (.cons r8 .nil),q8⟩
     exact T.keep _ _ _ a1 fun b hb o e=>(hs9.2 b (below b (fpLt b hb)).2).trans e
  ·have e0:List.replicate locs.length none++inF fr σ=inS locs fr σ:=rfl
   obtain ⟨k0,eD⟩:=hacc
   refine ⟨0,List.replicate locs.length none,H1,[],[],k0,by simp,?_,T.keep _ _ _ st0 fun b _ o e=>old b o e,fun b hb=>(hf b hb).1,.nil,w0⟩
   rw [e0]
   refine I1.pins_of fun p hp=>?_
   have e:p=(D,oD [] k0):=by simpa using hp
   subst e
   exact ⟨eD,fpD.1,hDC,stkN D fpD.2.1 fpD.2.2.1,fun v z=>by cases z⟩
 exact codeAny_compStart_list (loop _ rfl) (T.self _ 0 _ _ _ (T.keep _ _ _ st0 fun b _ o e=>old b o e) (loop _ rfl))
structure CompOk (X:Cx) (scope:Scope) (locs:List Str) (fr:List (Str×Nat)):Prop where
 kind:scope.kind = .function
 nocell:∀ y∈scope.names,y.2 ≠ .cell
 names:∀ y∈scope.names,y.2 = .local->scope.names.lookup y.1=some .local
 own:∀ x∈locs,scope.names.lookup x=some .local
 free:∀ y∈scope.names,y.2 = .free->y.1∈fr.map (·.1)
 nd:(inN locs fr).Nodup
theorem FrOk.nil:FrOk X scope []:=⟨(fun _ h=>nomatch h),(fun _ h=>nomatch h)⟩
theorem FrOk.cons {x:Str}{j:Nat}{fr:List (Str×Nat)}(h1:X.N[j]? = some x) (h2:X.env.kindOf x=some .cell\/X.env.kindOf x=some .free) (h3:scope.names.lookup x=some .free) (t:FrOk X scope fr):FrOk X scope ((x,j)::fr) :=
 ⟨fun p hp=>(List.mem_cons.mp hp).elim (fun e=>by subst e; exact ⟨h1,h2⟩) (t.slots p),fun p hp=>(List.mem_cons.mp hp).elim (fun e=>by subst e; exact h3) (t.kind p)⟩
theorem CompOk.clos {pins:List (Addr×Obj)}{σ:St}{H:Hp}{s:Shared}(S:CompOk X scope locs fr) (F:FrOk X scope fr) (I:Inv X pins σ H s) :
  ∃ cl,closureFor scope X.env=pure cl/\(∀ x c,cl.lookup x=some c->X.env.cells.lookup x=some c)/\(∀ x,(x,NameKind.free)∈scope.names->∃ c,cl.lookup x=some c):=by
 refine Zoy fun p hp hk=>?_
 obtain ⟨q,hq,e⟩:=List.mem_map.mp (S.free p hp hk)
 obtain ⟨c,hc⟩:=I.ok.has q.1 (F.slots q hq).2
 exact ⟨c,e▸hc⟩
theorem Zqn {wi:TI}(S:CompOk X scope locs fr) (F:FrOk X scope fr) (hc:X.calm=true) (hi:PI X tg iter wi)
  (inner:∀ (cl:List (Str×Addr)) (C:Addr) (s0:Shared) (H0:Hp) (ex:List Addr) (pn:List (Addr×Obj)),PG (ccx X scope cl C (inN locs fr) s0 H0 ex pn) tg g/\PTs (ccx X scope cl C (inN locs fr) s0 H0 ex pn) ifs tt/\PE (ccx X scope cl C (inN locs fr) s0 H0 ex pn) elt te)
  (hs:∀ x,foldedSetIterable iter X.env x=pure x:=by intro _; rfl):PE X (.ListComp elt [⟨tg,iter,ifs,0⟩] scope pos) (Zc2 locs.length fr wi g tt te):=by
 intro pins s σ H Q I h
 obtain ⟨cl,hcl,cl1,cl2⟩:=S.clos F I
 rw [eval_ListComp]
 refine wpAny_comprehension_free (use:=none) rfl hs hcl S.kind S.names (thn (hi pins s σ H _ I h) fun v s1 h1=>thn h1 fun itv s2 h2=>?_)
 obtain ⟨it,fp,tn,J,H1,e,I2,T,st2,f2,W,w0,turn⟩:=h2
 subst e
 refine Zdv (QQ:=fun ys H'=>∀ l,H' l=none->Q (.ref l) (upd H' l (.lst ys))) (EE:=fun _ _ _=>False) hc S.kind S.nocell S.own F S.nd cl1 cl2 (fun C s0 H0 ex pn=>let ⟨a,b,_⟩:=inner cl C s0 H0 ex pn; ⟨a,b⟩) (fun C pE s σ' H Y _ I h=>wpAny_mono ((inner cl C s2 H1 fp (X.pn++pins)).2.2 pE s σ' H Y I h) (fun _ _ q=>q) fun _ _ z=>z.elim) (fun _ _ _ _ _ _ _ _ _ z=>z.elim) I2 T st2 f2 w0 turn fun D C ys H' s' m nD hDC I' fC hn q=>?_
 refine ⟨m,hn,fun h' hs'=>?_⟩
 obtain ⟨f0,f1,f2,f3,f4,f5⟩:=fC
 exact ⟨.ref D,_,I'.turned (it:=C) (t':=s'.toks) (fun b o hb e=>(hs'.2 b hb).trans e) f0 f1 f3 f4 f5,rfl,q D nD⟩
theorem Zsk {wi:TI}{i:Nat}{x:Str}{pos' spos:Pos}(S:CompOk X scope locs fr) (F:FrOk X scope fr) (hc:X.calm=true) (hi:PI X tg iter wi)
  (inner:∀ (cl:List (Str×Addr)) (C:Addr) (s0:Shared) (H0:Hp) (ex:List Addr) (pn:List (Addr×Obj)),PG (ccx X scope cl C (inN locs fr) s0 H0 ex pn) tg g/\PTs (ccx X scope cl C (inN locs fr) s0 H0 ex pn) ifs tt/\PE (ccx X scope cl C (inN locs fr) s0 H0 ex pn) elt te)
  (hN:X.N.Nodup) (hi0:X.N[i]? = some x) (hx:X.env.scope.names.lookup x=some .local) (hsw:swapsWith (.ListComp elt [⟨tg,iter,ifs,0⟩] scope pos) (some (.Name x pos')) spos.line X.env=pure true)
  (hs:∀ x,foldedSetIterable iter X.env x=pure x:=by intro _; rfl):PS X (.Assign [.Name x pos'] (.ListComp elt [⟨tg,iter,ifs,0⟩] scope pos) spos) (Wk (Zc2 locs.length fr wi g tt te) (Yn i)):=by
 intro pins s σ H D0 I h
 obtain ⟨cl,hcl,cl1,cl2⟩:=S.clos F I
 rw [exec_Assign_Name_used _ _ _ _ hsw]
 refine wpAny_bind (wpAny_standAt (wpAny_bind ?_))
 show wpAny _ X.A (do let _ ← comprehension (.ListComp elt [⟨tg,iter,ifs,0⟩] scope pos) scope X.env _ (newList []) false (eval iter X.env) (some (assign (.Name x pos') X.env))) _ _ s
 refine wpAny_bind (wpAny_mono (wpAny_comprehension_free (use:=some (assign (.Name x pos') X.env)) (Q:=fun _ s'=>SP X pins D0 .next s') rfl hs hcl S.kind S.names (thn (hi pins s σ H _ I h) fun v s1 h1=>thn h1 fun itv s2 h2=>?_)) (fun _ s' hq=>wpAny_pure (wpAny_pure hq)) fun _ _ e=>e)
 obtain ⟨it,fp,tn,J,H1,e,I2,T,st2,f2,W,w0,turn⟩:=h2
 subst e
 refine Zdv (QQ:=fun ys H'=>∀ l,H' l=none->Yn i (.ref l) σ (upd H' l (.lst ys)) D0.nx) (EE:=fun _ _ _=>False) hc S.kind S.nocell S.own F S.nd cl1 cl2 (fun C s0 H0 ex pn=>let ⟨a,b,_⟩:=inner cl C s0 H0 ex pn; ⟨a,b⟩) (fun C pE s σ' H Y _ I h=>wpAny_mono ((inner cl C s2 H1 fp (X.pn++pins)).2.2 pE s σ' H Y I h) (fun _ _ q=>q) fun _ _ z=>z.elim) (fun _ _ _ _ _ _ _ _ _ z=>z.elim) I2 T st2 f2 w0 turn fun D C ys H' s' m nD hDC I' fC hn q=>?_
 obtain ⟨f0,f1,f2,f3,f4,f5⟩:=fC
 obtain ⟨oC,es,ep,hoC,hdC,hrC⟩:=id hn
 have I6:Inv X (pins ++ [(C,oC)]) σ (upd H' D (.lst ys)) s':=I'.pins_of fun p hp=>(List.mem_append.mp hp).elim (fun z=>I'.pin p (List.mem_append_right _ z)) fun z=>by
  have e:p=(C,oC):=by simpa using z
  subst e
  exact ⟨hoC,f0,f1,f2,fun v z=>by rw [hdC] at z; cases z⟩
 refine wpAny_assign_Name (U3 (v:=.ref D) I6 hN hi0 (.inl hx) rfl (fun s'' I''=>?_) (.inr hx))
 obtain ⟨p1,p2,p3,p4,p5⟩:=I''.pin (C,oC) (List.mem_append_right _ (List.mem_append_right _ List.mem_cons_self))
 refine ⟨m,⟨oC,es,ep,p1,hdC,hrC⟩,fun h' hs'=>?_⟩
 have I7:Inv X pins (σ.set i (some (.ref D))) (upd H' D (.lst ys)) s'':=I''.unpinned
 exact ⟨_,_,I7.turned (it:=C) (t':=s''.toks) (fun b o hb e=>(hs'.2 b hb).trans e) p2 p3 f3 f4 f5,q D nD⟩
end
section
variable {X:Cx}{scope:Scope}{cl:List (Str×Addr)}{C:Addr}{N':List Str}{s0:Shared}{H0:Hp}{ex:List Addr}{pn:List (Addr×Obj)}
theorem pvL (i:Nat) {x:Str}{pos:Pos}(hN:N'[i]? = some x:=by rfl) (h:scope.names.lookup x=some .local:=by rfl) (hd:(x == ("__debug__" : Str))=false:=by decide) (hcd:(x == ("__classdict__" : Str))=false:=by decide) :
  PE (ccx X scope cl C N' s0 H0 ex pn) (.Name x pos) (Ym i):=Zcn hN (.inl (lookup_relabel_local h)) hd hcd
theorem pvF (i:Nat) {x:Str}{pos:Pos}(hN:N'[i]? = some x:=by rfl) (h:scope.names.lookup x=some .free:=by rfl) (hd:(x == ("__debug__" : Str))=false:=by decide) (hcd:(x == ("__classdict__" : Str))=false:=by decide) :
  PE (ccx X scope cl C N' s0 H0 ex pn) (.Name x pos) (Ym i):=Zcn hN ((Zdm h).elim (fun z=>.inr (.inl z)) fun z=>.inr (.inr z)) hd hcd
theorem pgL (i:Nat) {x:Str}{pos:Pos}(hnd:N'.Nodup) (hN:N'[i]? = some x:=by rfl) (h:scope.names.lookup x=some .local:=by rfl):PG (ccx X scope cl C N' s0 H0 ex pn) (.Name x pos) (Yn i) :=
 Zi7 (X:=ccx X scope cl C N' s0 H0 ex pn) hnd hN (.inl (lookup_relabel_local h)) (.inr (lookup_relabel_local h))
end
end L2
end
section
set_option Elab.async false
set_option linter.all false
set_option maxRecDepth 100000
set_option maxHeartbeats 4000000
namespace L2
open PySem PySem.Spec PyProof.Rows
def sgn (x:Str) (i:Nat):V:=.str ⟨#[x.cps.getD i 0]⟩
def Its (x:Str):It:=⟨fun i _=>i < x.length,fun i H v H'=>H'=H/\v=sgn x i,fun i _=>i=x.length⟩
theorem Zhr {P:Program}{w:World}{A:Around}(hh:A.handled=none) (I:Addr) (x:Str) (t:Tok) :
  Walks P w A I [I] [I] x.cps.size (SignAt x) (fun i h=>h.IsStrIter I (strIterType x) x t i):=by
 unfold strIterType
 cases ha:x.cps.all (· < 128)
 ·exact Walks.strWide hh I x t
 ·exact Walks.strAscii hh I x t
theorem Zqo {P:Program}{w:World}{K:PySem.W.Frag}{tg:Expr}(it:Addr) (x:Str) (t:Tok):Turn P w K tg (Its x) [it] it (fun i h=>h.IsStrIter it (strIterType x) x t i) where
 mem:=by simp
 obj:=fun i h st b hb=>by
  have e:b=it:=by simpa using hb
  subst e
  obtain ⟨o,e,c,d⟩:=st
  exact ⟨o,e,fun v z=>by rw [d] at z; cases z⟩
 keep:=fun i h h' st k=>let ⟨o,ho,r⟩:=st; ⟨o,k it (by simp) o ho,r⟩
 item:=by
  intro X hP hw hK hc i pins s σ H E I hf st hg
  subst hP hw hK
  obtain ⟨f0,f1,f2,f3,f4,f5⟩:=hf it (by simp)
  refine (Zhr (I.ok.hd hc) it x t).item i s _ _ hg st fun v h' tk hv st' kk=>?_
  obtain ⟨c,u,hcx,rfl⟩:=hv
  have I1:Inv X pins σ H {s with heap:=h',toks:=tk }:=I.turned (fun b o hb e=>kk b o (by simpa using hb) e) f0 f1 f3 f4 f5
  obtain ⟨o,e,cc,d⟩:=id st'
  have hn : ["enumerate", "zip", "dict_itemiterator", "dict_reverseitemiterator", "odict_iterator", "itertools.zip_longest", "itertools.pairwise"].contains (strIterType x)=false:=by
   unfold strIterType
   split <;> decide
  refine ⟨_,rfl,Zc0 (s:={s with heap:=h',toks:=tk }) e cc d hn ⟨sgn x i,H,I1,⟨u,?_⟩,⟨rfl,rfl⟩,st',fun b hb=>(hf b hb).1⟩⟩
  rw [Array.getD_eq_getD_getElem?,hcx]
  all_goals rfl
 done:=by
  intro X hP hw hK hc i pins s σ H E I hf st hg
  subst hP hw hK
  obtain ⟨f0,f1,f2,f3,f4,f5⟩:=hf it (by simp)
  have e:i=x.cps.size:=hg
  subst e
  exact (Zhr (I.ok.hd hc) it x t).done s _ _ st fun h' tk kk=>⟨rfl,I.turned (fun b o hb e=>kk b o (by simpa using hb) e) f0 f1 f3 f4 f5⟩
 self:=fun A i s Q E st h=>by
  have st:s.heap.IsStrIter it (strIterType x) x t i:=st
  unfold strIterType at st
  split at st
  ·exact wpAny_pyIter_striter_ascii st h
  ·exact wpAny_pyIter_striter_wide st h
def Zmx (te:TE):TI:=fun σ H R=>te σ H fun v H1=>∃ x,v = .str x/\R (Its x) H1
theorem Zuj {X:Cx}{tg l:Expr}{tl:TE}(hl:PE X l tl):PI X tg l (Zmx tl):=by
 intro pins s σ H R I h
 refine thn (hl pins s σ H _ I h) fun v s1 ⟨y,H1,I1,r1,q1⟩=>?_
 obtain ⟨x,e,q⟩:=q1
 subst e
 obtain ⟨t,rfl⟩:=r1
 refine wpAny_pyIter_strU ?_
 refine ⟨s1.heap.objs.size,[s1.heap.objs.size],_,_,H1,rfl,I1.kept (t':=s1.toks) fun b o e=>Heap.get?_push_of_some _ e,Zqo _ x t,⟨_,Heap.get?_push_size _ rfl,rfl,rfl⟩,fun b hb=>?_,q⟩
 have e:b=s1.heap.objs.size:=by simpa using hb
 subst e
 exact I1.fpOk (Nat.le_refl _) (I1.hok.fresh (Nat.le_refl _))
section
variable {X:Cx}
theorem Zpo:OpR X (compareOp .LtE) (fun x y H Q=>∃ i j,x = .str i/\y = .str j/\Q (.bl (!decide (j.cps.toList < i.cps.toList))) H):=by
 intro pins s σ H x y v u Q I rx ry h
 obtain ⟨i,j,rfl,rfl,q⟩:=h
 obtain ⟨t,rfl⟩:=rx
 obtain ⟨t',rfl⟩:=ry
 exact P.le_str ⟨.bl _,H,I,rfl,q⟩
end
theorem Zhy {v:Value}{o:Option Int}(h:IsPart v o):∃ l:Option (Int×Tok),v=partValue l/\l.map (·.1)=o:=by
 cases h with
 | none=>exact ⟨none,rfl,rfl⟩
 | int i t=>exact ⟨some (i,t),rfl,rfl⟩
section
variable {X:Cx}
theorem Zuk:SlR X (fun x lo hi H Q=>∃ z,x = .str z/\z.length<=sizeLine/\Q (.str (Txt.slice z lo hi)) H):=by
 intro pins s σ H x v vl vu lo hi sl Q I rx hs pl pu h
 obtain ⟨z,rfl,hz,q⟩:=h
 obtain ⟨t,rfl⟩:=rx
 obtain ⟨l,rfl,rfl⟩:=Zhy pl
 obtain ⟨u,rfl,rfl⟩:=Zhy pu
 refine ⟨"str", _,F.slot_str_getitem.lookup,typeIs_str _ _ _,?_⟩
 refine wpAny_getItem_str_slice (l:=l) (u:=u) (st:=none) hs rfl (post_val_or_str ⟨Nat.le_trans (Txt.slice_le z _ _) hz,fun t' k=>?_⟩)
 exact ⟨.str _,H,I.tok _,⟨t',rfl⟩,q⟩
end
theorem Zoz {ys:List Str}:∀ {us:List Value},Vals (ys.map V.str) us->StrsAre us ys:=by
 induction ys with
 | nil=>intro us r; rw [List.map_nil] at r; cases r; exact .nil
 | cons n ns ih =>
  intro us r
  rw [List.map_cons] at r
  cases r with
  | cons r1 r2 =>
   obtain ⟨t,e⟩:=r1
   subst e
   exact .cons n t (ih r2)
section
variable {X:Cx}
theorem Zsl:MtR X "str.join" (fun x xs H Q=>∃ sep a ys,x = .str sep/\xs = [.ref a]/\SqL X.K H a (ys.map V.str)/\(ys.map (·.length)).sum+ys.length * sep.length<=16777216/\Q (.str (Txt.join sep ys)) H):=by
 intro pins s σ H x xs v us Q I rx rs h
 obtain ⟨sep,a,ys,rfl,rfl,ha,hz,q⟩:=h
 obtain ⟨t,rfl⟩:=rx
 obtain ⟨u,rfl,ru⟩:=Wj rs
 cases ru
 obtain ⟨its,r,p,_⟩:=I.list ha
 exact join_list p.isList (Zoz r) hz fun t' k=>⟨.str _,H,I.tok _,⟨t',rfl⟩,q⟩
theorem Zqp (hc:X.calm=true):Wb X (.builtin "all") (fun xs H Q=>∃ (a:Addr) (bs:List Bool),xs = [.ref a]/\SqL X.K H a (bs.map V.bl)/\Q (.bl (bs.all id)) H):=by
 intro pins s σ H xs us Q I r h
 obtain ⟨a,bs,rfl,ha,q⟩:=h
 obtain ⟨u,rfl,ru⟩:=Wj r
 cases ru
 obtain ⟨its,rv,p,_⟩:=I.list ha
 have hlt:a < s.heap.objs.size:=by obtain ⟨o,n,e,_⟩:=p; exact Heap.lt_size e
 refine call_all_walk (wpAny_pyIter_list p.isList ?_)
 refine ⟨s.heap.objs.size,_,_,_,_,_,fun i=>bs.getD i true,rfl,Walks.list (A:=X.A.in1) (I.ok.hd hc) _ a (Nat.ne_of_lt hlt) its.toArray,⟨⟨_,Heap.get?_push_size _ rfl,rfl,rfl⟩,p.isList.push _⟩,?_,fun h' tk hk=>?_⟩
 ·intro i v s' Q' E' hv hq
  have hv:its.toArray[i]? = some v:=hv
  have hv':its[i]? = some v:=by simpa using hv
  have hlen:bs.length=its.length:=by have:=rv.length; simpa using this
  have hi:i < its.length:=(List.getElem?_eq_some_iff.mp hv').1
  have hb:(bs.map V.bl)[i]? = some (V.bl (bs.getD i true)):=by
   rw [List.getElem?_map,List.getD_eq_getElem?_getD,List.getElem?_eq_getElem (by lia)]
   rfl
  obtain ⟨u,hu,ru⟩:=rv.get hb
  rw [hv'] at hu
  cases hu
  cases ru
  exact wpAny_truthy_bool hq
 ·have hlen:its.toArray.size=bs.length:=by have:=rv.length; simp at this ⊢; lia
  have e:(List.range its.toArray.size).all (fun i=>bs.getD i true)=bs.all id:=by
   rw [hlen,Bool.eq_iff_iff,List.all_eq_true,List.all_eq_true]
   constructor
   ·intro h b hb
    obtain ⟨i,hi,e⟩:=List.mem_iff_getElem.mp hb
    have:=h i (List.mem_range.mpr hi)
    rw [List.getD_eq_getElem?_getD,List.getElem?_eq_getElem hi,e] at this
    exact this
   ·intro h i hi
    have hi:=List.mem_range.mp hi
    rw [List.getD_eq_getElem?_getD,List.getElem?_eq_getElem hi]
    exact h _ (List.getElem_mem hi)
  refine ⟨.bl (bs.all id),H,I.kept (h':=h') (t':=tk) (fun b o eb=>hk b o ?_ (Heap.get?_push_of_some _ eb)),by rw [e]; rfl,q⟩
  intro z
  have:b=s.heap.objs.size:=by simpa using z
  exact absurd (Heap.lt_size eb) (by rw [this]; exact Nat.lt_irrefl _)
theorem Zon:Wb X (.builtin "isinstance") (fun xs H Q=>∃ x n t b,xs = [x,.ty n]/\TyOf X.K H x t/\PySem.W.kitOne X.K t (.type n)=some b/\Q (.bl b) H):=by
 intro pins s σ H xs us Q I r h
 obtain ⟨x,n,t,b,rfl,ty,e,q⟩:=h
 obtain ⟨u,w',rfl,ru,rw'⟩:=Zc1 r
 cases rw'
 exact Zpj I ru ty e fun tk=>⟨.bl b,H,I.tok _,rfl,q⟩
def Zvo (X:Cx) (f:Value) (kw:Str) (r:List V->V->Hp->VK->Prop):Prop :=
 ∀ (pins:List (Addr×Obj)) (s:Shared) (σ:St) (H:Hp) (xs:List V) (us:List Value) (k:V) (ku:Value) (Q:VK),Inv X pins σ H s->Vals xs us->RelV k ku->r xs k H Q ->
  wpAny (model X.prog X.w) X.A (call f us [(kw,ku)]) (EP X pins σ Q) X.xe s
end
section
variable {K:PySem.W.Frag}
end
end L2
end
section
set_option Elab.async false
set_option linter.all false
set_option maxRecDepth 100000
set_option maxHeartbeats 4000000
namespace L2
open PySem PySem.Spec PyProof.Rows
def Has (K:PySem.W.Frag) (mg:Str->Option Value) (x:Str) (st:Stmt):Prop:=∃ f fd,Fun K x x st f fd/\mg x=some (.ref f)
def Fn (P:Program) (w:World) (K:PySem.W.Frag) (mg:Str->Option Value) (base:Heap) (x:Str) (ps:List Str) (k:Nat) (sp:Sp):Prop :=
 ∃ f fd,mg x=some (.ref f)/\PySem.W.keepIn K (.ref f)=true/\Binds K fd ps []/\FnOk P w K mg base CX0 k f fd ps sp
theorem Fn.imp {P:Program}{w:World}{K:PySem.W.Frag}{mg:Str->Option Value}{base:Heap}{x:Str}{ps:List Str}{k:Nat}{sp sp':Sp}(F:Fn P w K mg base x ps k sp) (h:∀ vs H Q E,sp' vs H Q E->sp vs H Q E):Fn P w K mg base x ps k sp' :=
 let ⟨f,fd,a,b,c,d⟩:=F; ⟨f,fd,a,b,c,d.imp h⟩
section
variable {P:Program}{w:World}{K:PySem.W.Frag}{mg:Str->Option Value}{base:Heap}
theorem Has.fn {x:Str}{st:Stmt}{N ps:List Str}{k:Nat}{sp:Sp}(h:Has K mg x st) (S:FnScope N ps (Za st))
  (hb:∀ (kV doc pm:Value) (an:Option Addr) (cdv ct:Value) (us:List Value),us.length=ps.length->bindArgs (PySem.W.fnOf x x (W3 st) (Yw st) (Za st) .none kV doc pm an cdv ct) ⟨us,[]⟩=pure (ps.zip us))
  (len:∀ vs H Q E,sp vs H Q E->vs.length=ps.length)
  (hbody:∀ (f:Addr) (cdv:Value) (A:Around) (outer:List Env) (s:Shared) (H:Hp) (vs:List V) (Q:VK) (E:XK),Room k (A.deeper (envOfC x (Za st) s.heap.objs.size f cdv))->sp vs H Q E ->
   ∃ t,PSs (Yl CX0 P w K mg base N x (Za st) f cdv A outer s H E).nox (Yw st) t/\t {nx:=fun _ H'=>Q .non H',rt:=Q } (Yv N vs) H):Fn P w K mg base x ps (k+1) sp:=by
 obtain ⟨f,fd,F,hm⟩:=h
 exact ⟨f,fd,hm,F.kp,F.binds hb,F.ok S len fun cdv A outer s H vs Q E hr q=>hbody f cdv A outer s H vs Q E hr q⟩
theorem Z8 {h:Heap}{x:Str}{st:Stmt}{f:Addr}{oc:Value}{od an:Option Addr}{osl:Array (Option Value)}{kV doc pm cdv ct:Value}(KX:K.In h) (G:h.Ns mainGlobals mg)
  (a:PySem.W.nsIn K mainGlobals x=some (some (.ref f))) (l:K.lookup f=some ⟨oc,od,.func (PySem.W.fnOf x x (W3 st) (Yw st) (Za st) .none kV doc pm an cdv ct),osl⟩)
  (c:PySem.W.codeIn K cdv x=true) (k:PySem.W.keepIn K (.ref f)=true):Has K mg x st:=⟨f,_,Zkf l c k,PySem.W.mg_of KX G a⟩
end
def tFn (sp:Sp) (t:TA):TE:=fun σ H Q=>t σ H fun vs H1=>sp vs H1 Q E0
section
variable {X:Cx}
theorem Zvp {k:Nat}{ps:List Str}{sp:Sp}{x:Str}{p pos:Pos}{e:Expr}{es:List Expr}{t:TA}(F:Fn X.prog X.w X.K X.mg X.base x ps k sp) (hr:Room k X.A) (hg:Gl X x) (ha:PA X (e::es) t)
  (hdb:(x == ("__debug__" : Str))=false:=by decide) (he:starEach (e::es) X.env=(false,eval e X.env)::starEach es X.env:=by rfl) (hpl:(backTo pos (starEach es X.env)).any (·.1)=false:=by rfl) :
  PE X (.Call (.Name x p) (e::es) [] pos) (tFn sp t):=by
 obtain ⟨f,fd,hm,hk,hb,G⟩:=F
 intro pins s σ H Q I h
 refine Zsb G hr hg hm hk hb .nil Zvn ha hdb he hpl pins s σ H Q I ?_
 have e:Zfi sp [] E0 t=tFn sp t:=by
  unfold Zfi tFn
  simp only [List.append_nil]
 rw [e]
 exact h
end
theorem Yh:bootBuiltins "len" = some (.builtin "len"):=by decide +kernel
theorem Zli:bootBuiltins "all" = some (.builtin "all"):=by decide +kernel
theorem Wc:bootBuiltins "isinstance" = some (.builtin "isinstance"):=by decide +kernel
theorem Zcq:bootBuiltins "list" = some (.type "list"):=by decide +kernel
theorem Ze8:bootBuiltins "bool" = some (.type "bool"):=by decide +kernel
theorem Zc3:bootBuiltins "int" = some (.type "int"):=by decide +kernel
theorem Zfk:bootBuiltins "str" = some (.type "str"):=by decide +kernel
theorem U7:bootBuiltins "tuple" = some (.type "tuple"):=by decide +kernel
def SameX (s:Addr) (H H':Hp):Prop:=∀ b o,b≠s->H b=some o->H' b=some o
theorem SameX.refl {s:Addr}{H:Hp}:SameX s H H:=fun _ _ _ e=>e
theorem SameX.trans {s:Addr}{H H1 H2:Hp}(a:SameX s H H1) (b:SameX s H1 H2):SameX s H H2:=fun c o n e=>b c o n (a c o n e)
theorem SameX.upd {s:Addr}{H:Hp}{o:HO}:SameX s H (upd H s o):=fun b _ n e=>by rw [Zt n]; exact e
theorem SameX.new {s l:Addr}{H:Hp}{o:HO}(h:H l=none):SameX s H (L2.upd H l o):=fun b _ _ e=>by rw [Zt (Yg e h)]; exact e
theorem Same.new {l:Addr}{H:Hp}{o:HO}(h:H l=none):Same H (L2.upd H l o):=fun b _ e=>by rw [Zt (Yg e h)]; exact e
theorem Same.x {s:Addr}{H H':Hp}(h:Same H H'):SameX s H H':=fun b o _ e=>h b o e
def SrcAt (H:Hp) (s la:Addr):Prop:=∃ (ns:List Int) (i big st cnt:Int),H s=some (.lst [.ref la,.int i,.int big,.int st,.int cnt])/\H la=some (.lst (ns.map V.int))/\0<=i/\la≠s
theorem SrcAt.keep {H H':Hp}{s la:Addr}(h:SrcAt H s la) (k:Same H H'):SrcAt H' s la:=by
 obtain ⟨ns,i,big,st,cnt,h1,h2,h3,h4⟩:=h
 exact ⟨ns,i,big,st,cnt,k _ _ h1,k _ _ h2,h3,h4⟩
theorem SrcAt.keepX {H H':Hp}{s la l:Addr}(h:SrcAt H s la) (k:SameX l H H') (n1:l≠s) (n2:l≠la):SrcAt H' s la:=by
 obtain ⟨ns,i,big,st,cnt,h1,h2,h3,h4⟩:=h
 exact ⟨ns,i,big,st,cnt,k _ _ n1.symm h1,k _ _ n2.symm h2,h3,h4⟩
theorem SrcAt.ne {H:Hp}{s la l:Addr}(h:SrcAt H s la) (hl:H l=none):l≠s/\l≠la:=by
 obtain ⟨ns,i,big,st,cnt,h1,h2,h3,h4⟩:=h
 exact ⟨(Yg h1 hl).symm,(Yg h2 hl).symm⟩
end L2
namespace L2
open PySem PySem.Spec PyProof.Rows
theorem Zq {c A B:Prop} [Decidable c] (h1:c->A) (h2:¬ c->B):if decide c=true then A else B:=by
 by_cases h:c
 ·rw [if_pos (decide_eq_true h)]; exact h1 h
 ·rw [if_neg (by rw [decide_eq_false h]; exact Bool.false_ne_true)]; exact h2 h
theorem Yr {c A B:Prop} [Decidable c] (h1:¬ c->A) (h2:c->B):if (!decide c)=true then A else B:=by
 by_cases h:c
 ·rw [if_neg (by rw [decide_eq_true h]; exact Bool.false_ne_true)]; exact h2 h
 ·rw [if_pos (by rw [decide_eq_false h]; rfl)]; exact h1 h
theorem Zc8 {b:Bool}{A B:Prop}(h1:b=true->A) (h2:b=false->B):if b=true then A else B:=by
 cases b
 ·rw [if_neg Bool.false_ne_true]; exact h2 rfl
 ·rw [if_pos rfl]; exact h1 rfl
theorem Zal {b:Bool}{A B:Prop}(h1:b=false->A) (h2:b=true->B):if (!b)=true then A else B:=by
 cases b
 ·exact h1 rfl
 ·exact h2 rfl
theorem Zsm {ns:List Int}{i:Int}(h0 : 0<=i) (h1:i < (ns.map V.int).length):atI (ns.map V.int) i=some (.int (ns.getD i.toNat 0)):=by
 obtain ⟨j,rfl⟩:=Int.eq_ofNat_of_zero_le h0
 rw [List.length_map] at h1
 refine Yz ?_
 rw [List.getElem?_map,Int.toNat_natCast,List.getD_eq_getElem?_getD,List.getElem?_eq_getElem (by lia)]
 rfl
end L2
namespace L2
open PySem PySem.Spec PyProof.Rows
def Nm (sc:Scope) (x:Str) (k:NameKind):Prop:=sc.names.lookup x=some k/\(x == ("__debug__" : Str))=false/\(x == ("__classdict__" : Str))=false/\x ≠ "__name__"
instance (sc:Scope) (x:Str) (k:NameKind):Decidable (Nm sc x k):=by unfold Nm; exact inferInstance
section
variable {X:Cx}{x:Str}{pos:Pos}
theorem pvN (i:Nat) (n:Nm X.env.scope x .local) (hN:X.N[i]? = some x:=by rfl):PE X (.Name x pos) (Ym i):=Zcn hN (.inl n.1) n.2.1 n.2.2.1
theorem pvC (i:Nat) (n:Nm X.env.scope x .cell) (hN:X.N[i]? = some x:=by rfl):PE X (.Name x pos) (Ym i):=Zcn hN (.inr (.inl n.1)) n.2.1 n.2.2.1
theorem Zqq {v:V}{u:Value}(n:Nm X.env.scope x .globalImplicit) (hm:X.mg x=some u) (r:RelV v u):PE X (.Name x pos) (tC v):=Zrx n.1 hm r n.2.1
theorem Zqr {v:V}{u:Value}(n:Nm X.env.scope x .globalImplicit) (hm:X.mg x=none) (hv:bootBuiltins x=some u) (r:RelV v u):PE X (.Name x pos) (tC v):=Zry n.1 hm hv r n.2.2.2 n.2.1
theorem Zul {k:Nat}{ps:List Str}{sp:Sp}{p:Pos}{e:Expr}{es:List Expr}{t:TA}(F:Fn X.prog X.w X.K X.mg X.base x ps k sp) (hr:Room k X.A) (n:Nm X.env.scope x .globalImplicit) (ha:PA X (e::es) t)
  (he:starEach (e::es) X.env=(false,eval e X.env)::starEach es X.env:=by rfl) (hpl:(backTo pos (starEach es X.env)).any (·.1)=false:=by rfl) :
  PE X (.Call (.Name x p) (e::es) [] pos) (tFn sp t):=Zvp F hr n.1 ha n.2.1 he hpl
theorem Zpp {p:Pos}{e:Expr}{es:List Expr}{t:TA}{id:String}{r:List V->Hp->VK->Prop}(hc:Wb X (.builtin id) r) (n:Nm X.env.scope x .globalImplicit) (hm:X.mg x=none) (hv:bootBuiltins x=some (.builtin id)) (ha:PA X (e::es) t)
  (he:starEach (e::es) X.env=(false,eval e X.env)::starEach es X.env:=by rfl) (hpl:(backTo pos (starEach es X.env)).any (·.1)=false:=by rfl):PE X (.Call (.Name x p) (e::es) [] pos) (tCB r t):=Zqe hc n.1 hm hv ha n.2.2.2 n.2.1 he hpl
theorem Zo0 {p:Pos}{e:Expr}{es:List Expr}{t:TA}{T:String}{r:List V->Hp->VK->Prop}(hc:Wb X (.type T) r) (n:Nm X.env.scope x .globalImplicit) (hm:X.mg x=none) (hv:bootBuiltins x=some (.type T)) (ha:PA X (e::es) t)
  (he:starEach (e::es) X.env=(false,eval e X.env)::starEach es X.env:=by rfl) (hpl:(backTo pos (starEach es X.env)).any (·.1)=false:=by rfl):PE X (.Call (.Name x p) (e::es) [] pos) (tCB r t):=Zpk hc n.1 hm hv ha n.2.2.2 n.2.1 he hpl
theorem Zsn {i:Nat}{e:Expr}{te:TE}{pos':Pos}(hN:X.N.Nodup) (n:Nm X.env.scope x .local) (he:PE X e te) (hi:X.N[i]? = some x:=by rfl) (hs:swapsWith e (some (.Name x pos')) pos.line X.env=pure false:=by rfl) :
  PS X (.Assign [.Name x pos'] e pos) (Wk te (Yn i)):=Zkb hN hi (.inl n.1) he hs (.inr n.1)
theorem Zqs {i:Nat}{e:Expr}{te:TE}{pos':Pos}(hN:X.N.Nodup) (n:Nm X.env.scope x .cell) (he:PE X e te) (hf:X.fn x=true:=by rfl) (hi:X.N[i]? = some x:=by rfl) (hs:swapsWith e (some (.Name x pos')) pos.line X.env=pure false:=by rfl) :
  PS X (.Assign [.Name x pos'] e pos) (Wk te (Yn i)):=Zkb hN hi (.inr n.1) he hs (.inl hf)
theorem Zqt {i:Nat}(hN:X.N.Nodup) (n:Nm X.env.scope x .local) (hi:X.N[i]? = some x:=by rfl):PG X (.Name x pos) (Yn i):=Zi7 hN hi (.inl n.1) (.inr n.1)
end
section
variable {X:Cx}{scope:Scope}{cl:List (Str×Addr)}{C:Addr}{N':List Str}{s0:Shared}{H0:Hp}{ex:List Addr}{pn:List (Addr×Obj)}{x:Str}{pos:Pos}
theorem Zzs (i:Nat) (n:Nm scope x .local:=by decide +kernel) (hN:N'[i]? = some x:=by rfl):PE (ccx X scope cl C N' s0 H0 ex pn) (.Name x pos) (Ym i):=pvL i hN n.1 n.2.1 n.2.2.1
theorem Zzt (i:Nat) (n:Nm scope x .free:=by decide +kernel) (hN:N'[i]? = some x:=by rfl):PE (ccx X scope cl C N' s0 H0 ex pn) (.Name x pos) (Ym i):=pvF i hN n.1 n.2.1 n.2.2.1
theorem Zzu (i:Nat) (hnd:N'.Nodup) (n:Nm scope x .local:=by decide +kernel) (hN:N'[i]? = some x:=by rfl):PG (ccx X scope cl C N' s0 H0 ex pn) (.Name x pos) (Yn i):=pgL i hnd hN n.1
theorem nmC (n:Nm scope x .globalImplicit:=by decide +kernel):Nm (ccx X scope cl C N' s0 H0 ex pn).env.scope x .globalImplicit:=⟨Zhm (by decide) n.1,n.2⟩
theorem FrOk.consN {j:Nat}{fr:List (Str×Nat)}(n:Nm X.env.scope x .cell) (t:FrOk X scope fr) (m:Nm scope x .free:=by decide +kernel) (h1:X.N[j]? = some x:=by rfl):FrOk X scope ((x,j)::fr):=.cons h1 (.inl n.1) m.1 t
end
end L2
end
section
set_option Elab.async false
set_option linter.all false
set_option maxRecDepth 100000
set_option maxHeartbeats 4000000
namespace L2
open PySem PySem.Spec PyProof.Rows
def cs (x:Str):List Nat:=x.cps.toList
theorem Zad {x y:Str}(h:cs x=cs y):x=y:=by
 obtain ⟨⟨a⟩⟩:=x
 obtain ⟨⟨b⟩⟩:=y
 have:a=b:=h
 rw [this]
theorem Zu (x:Str):(cs x).length=x.length:=by unfold cs; exact Array.length_toList
theorem Y6 (x y:Str):cs (x++y)=cs x++cs y:=by unfold cs; rw [PySem.Str.cps_append,Array.toList_append]
theorem Zlj (l:List Nat):cs ⟨l.toArray⟩=l:=by unfold cs; simp
theorem Zhz (xs:List Nat) (lo:Nat):∀ m,lo+m<=xs.length->((List.range m).map (lo + ·)).filterMap (xs[·]?)=(xs.drop lo).take m:=by
 intro m
 induction m with
 | zero=>intro _; simp
 | succ m ih =>
  intro h
  rw [List.range_succ,List.map_append,List.filterMap_append,ih (by lia),List.take_add_one,List.getElem?_drop]
  have:lo+m < xs.length:=by lia
  simp [List.getElem?_eq_getElem this]
theorem Zch (x:Str) {i:Int}(h : 0<=i):cs (Txt.slice x none (some i))=(cs x).take i.toNat:=by
 have hl:=Zu x
 have e:Builtin.Str.strSliceIndices none (some i) 1 x.length=(List.range (min i.toNat x.length)).map (0 + ·):=by
  unfold Builtin.Str.strSliceIndices sliceRange
  simp only [show (1:Int) > 0 by decide,if_true]
  have e1:(if i < 0 then i+(x.length:Int) else i)=i:=if_neg (by lia)
  rw [e1]
  have e2:(if (0:Int) < max 0 (min i (x.length:Int)) then (max 0 (min i (x.length:Int)) - 0+1 - 1) / 1 else 0).toNat=min i.toNat x.length:=by
   split <;> (try simp only [Int.ediv_one]) <;> lia
  rw [e2]
  apply List.map_congr_left
  intro k _
  lia
 unfold Txt.slice
 rw [e]
 split
 ·rename_i hc
  have hc:((List.range (min i.toNat x.length)).map (0 + ·)).length=x.length:=by simpa using hc
  rw [List.length_map,List.length_range] at hc
  rw [List.take_of_length_le (by lia)]
 ·rw [Zlj]
  have:=Zhz (cs x) 0 (min i.toNat x.length) (by lia)
  rw [List.drop_zero] at this
  have e3:(cs x).take (min i.toNat x.length)=(cs x).take i.toNat:=by
   rw [← hl]
   by_cases h1:i.toNat<=(cs x).length
   ·rw [Nat.min_eq_left h1]
   ·rw [Nat.min_eq_right (by lia),List.take_of_length_le (by lia),List.take_of_length_le (by lia)]
  rw [← e3,← this]
  congr 1
  funext k
  unfold cs
  simp
theorem Zjf (x:Str) {i:Int}(h : 0<=i):cs (Txt.slice x (some i) none)=(cs x).drop i.toNat:=by
 have hl:=Zu x
 have e:Builtin.Str.strSliceIndices (some i) none 1 x.length=(List.range (x.length - min i.toNat x.length)).map (min i.toNat x.length + ·):=by
  unfold Builtin.Str.strSliceIndices sliceRange
  simp only [show (1:Int) > 0 by decide,if_true]
  have e1:(if i < 0 then i+(x.length:Int) else i)=i:=if_neg (by lia)
  rw [e1]
  have e2:(if max 0 (min i (x.length:Int)) < (x.length:Int) then ((x.length:Int) - max 0 (min i (x.length:Int))+1 - 1) / 1 else 0).toNat=x.length - min i.toNat x.length:=by
   split <;> (try simp only [Int.ediv_one]) <;> lia
  rw [e2]
  apply List.map_congr_left
  intro k _
  lia
 unfold Txt.slice
 rw [e]
 split
 ·rename_i hc
  have hc:((List.range (x.length - min i.toNat x.length)).map (min i.toNat x.length + ·)).length=x.length:=by simpa using hc
  rw [List.length_map,List.length_range] at hc
  by_cases h0:i.toNat=0
  ·rw [h0,List.drop_zero]
  ·have:x.length=0:=by lia
   rw [List.drop_of_length_le (by lia)]
   exact List.length_eq_zero_iff.mp (by lia)
 ·rw [Zlj]
  have:=Zhz (cs x) (min i.toNat x.length) (x.length - min i.toNat x.length) (by lia)
  have e3:((cs x).drop (min i.toNat x.length)).take (x.length - min i.toNat x.length)=(cs x).drop i.toNat:=by
   rw [List.take_of_length_le (by rw [List.length_drop]; lia)]
   by_cases h1:i.toNat<=x.length
   ·rw [Nat.min_eq_left h1]
   ·rw [Nat.min_eq_right (by lia),List.drop_of_length_le (by lia),List.drop_of_length_le (by lia)]
  rw [← e3,← this]
  congr 1
  funext k
  unfold cs
  simp
theorem Zqu:∀ ys:List Str,cs (Txt.join "" ys)=(ys.map cs).flatten:=by
 have go:∀ (ys:List Str) (a:Array Nat),(ys.foldl (fun acc p=>acc++(("" : Str)).cps++p.cps) a).toList=a.toList++(ys.map cs).flatten:=by
  intro ys
  induction ys with
  | nil=>intro a; simp
  | cons y r ih =>
   intro a
   rw [List.foldl_cons,ih]
   have:(("" : Str)).cps = #[]:=by decide +kernel
   rw [this]
   simp [cs]
 intro ys
 show (cs (Builtin.Str.glued "" ys))=_
 unfold Builtin.Str.glued
 cases ys with
 | nil=>decide +kernel
 | cons y r =>
  show (List.foldl _ y.cps r).toList=_
  rw [go]
  rfl
def Low (x:Str):Prop:=∀ c∈cs x,97<=c/\c<=122
def letters:Str := "abcdefghijklmnopqrstuvwxyz"
theorem Zo1:cs letters=(List.range 26).map (97 + ·):=by decide +kernel
theorem Zdq {d:Int}(h0 : 0<=d) (h1:d < 26):atI letters.cps.toList d=some (97+d.toNat):=by
 obtain ⟨j,rfl⟩:=Int.eq_ofNat_of_zero_le h0
 refine Yz ?_
 show (cs letters)[j]? = _
 rw [Zo1,List.getElem?_map,List.getElem?_range (by lia)]
 rfl
theorem Zer {J:It}{nl:Nat}{fv:St}{g:TG}{tt:TTs}{te:TE}{Q:VK}{H:Hp}{xs:List V}(Pv:Nat->List V->Hp->Prop) (h0:Pv 0 [] H) (hn:xs.length<=1000000)
  (hgo:∀ i H ys,i < xs.length->Pv i ys H->J.go i H) (hy:∀ i H x H' ys,i < xs.length->Pv i ys H->J.yld i H x H'->H'=H/\xs[i]? = some x) (hst:∀ H ys,Pv xs.length ys H->J.stop xs.length H)
  (hlen:∀ i ys H,Pv i ys H->ys.length<=i)
  (step:∀ i x ys H,xs[i]? = some x->Pv i ys H->Wf nl fv g tt te x H (fun y H'=>Pv (i+1) (ys ++ [y]) H') fun H'=>Pv (i+1) ys H')
  (hd:∀ ys H,Pv xs.length ys H->∀ l,H l=none->Q (.ref l) (upd H l (.lst ys))) :
  Vf J nl fv g tt te Q H:=by
 have mono:∀ {x:V}{H:Hp}{Y Y':V->Hp->Prop}{N N':Hp->Prop},Wf nl fv g tt te x H Y N->Y=Y'->N=N'->Wf nl fv g tt te x H Y' N':=fun h e1 e2=>by subst e1; subst e2; exact h
 refine ⟨fun i m ys H=>m=xs.length - i/\i<=xs.length/\Pv i ys H,⟨xs.length,by simp,Nat.zero_le _,h0⟩,?_⟩
 rintro i m ys H ⟨rfl,hi,p⟩
 have hl:=hlen i ys H p
 have hz:(1000000:Nat) < sizeLine:=by decide
 by_cases hlt:i < xs.length
 ·refine .inr ⟨hgo i H ys hlt p,by lia,xs.length - (i+1),by lia,fun x H' y=>?_⟩
  obtain ⟨e,ex⟩:=hy i H x H' ys hlt p y
  subst e
  refine mono (step i x ys _ ex p) ?_ ?_
  ·funext y H4
   apply propext
   exact ⟨fun q=>⟨rfl,hlt,q⟩,fun q=>q.2.2⟩
  ·funext H3
   apply propext
   exact ⟨fun q=>⟨rfl,hlt,q⟩,fun q=>q.2.2⟩
 ·have e:i=xs.length:=by lia
  subst e
  exact .inl ⟨hst H ys p,by lia,hd ys H p⟩
def Zaq (lo:Int) (n:Nat):List V:=(List.range n).map fun k=>V.int (lo+(k:Nat))
theorem U4 (lo:Int) (n:Nat):(Zaq lo n).length=n:=by simp [Zaq]
theorem Zqv {lo:Int}{n i:Nat}{x:V}(h:(Zaq lo n)[i]? = some x):i < n/\x = .int (lo+(i:Nat)):=by
 have hi:i < n:=by have:=(List.getElem?_eq_some_iff.mp h).1; rwa [U4] at this
 refine ⟨hi,?_⟩
 unfold Zaq at h
 rw [List.getElem?_map,List.getElem?_range hi] at h
 exact (Option.some.inj h).symm
theorem Zh0 {lo:Int}{n:Nat}{nl:Nat}{fv:St}{g:TG}{tt:TTs}{te:TE}{Q:VK}{H:Hp}(Pv:Nat->List V->Hp->Prop) (h0:Pv 0 [] H) (hn:n<=1000000)
  (hlen:∀ i ys H,Pv i ys H->ys.length<=i)
  (step:∀ i ys H,i < n->Pv i ys H->Wf nl fv g tt te (.int (lo+(i:Nat))) H (fun y H'=>Pv (i+1) (ys ++ [y]) H') fun H'=>Pv (i+1) ys H')
  (hd:∀ ys H,Pv n ys H->∀ l,H l=none->Q (.ref l) (upd H l (.lst ys))) :
  Vf (Itr lo n) nl fv g tt te Q H:=by
 refine Zer (xs:=Zaq lo n) Pv h0 (by rw [U4]; exact hn) ?_ ?_ ?_ hlen ?_ ?_
 ·intro i H ys hi _
  rw [U4] at hi
  exact hi
 ·rintro i H x H' ys hi _ ⟨rfl,rfl⟩
  rw [U4] at hi
  refine ⟨rfl,?_⟩
  unfold Zaq
  rw [List.getElem?_map,List.getElem?_range hi]
  rfl
 ·intro H ys _
  rw [U4]
  exact Nat.le_refl _
 ·intro i x ys H hx p
  obtain ⟨hi,rfl⟩:=Zqv hx
  exact step i ys H hi p
 ·intro ys H p
  rw [U4] at p
  exact hd ys H p
theorem Zdw {K:PySem.W.Frag}{a:Addr}{xs:List V}{nl:Nat}{fv:St}{g:TG}{tt:TTs}{te:TE}{Q:VK}{H:Hp}(Pv:Nat->List V->Hp->Prop) (h0:Pv 0 [] H) (hn:xs.length<=1000000)
  (hl:∀ i ys H,i<=xs.length->Pv i ys H->SqL K H a xs)
  (hlen:∀ i ys H,Pv i ys H->ys.length<=i)
  (step:∀ i x ys H,xs[i]? = some x->Pv i ys H->Wf nl fv g tt te x H (fun y H'=>Pv (i+1) (ys ++ [y]) H') fun H'=>Pv (i+1) ys H')
  (hd:∀ ys H,Pv xs.length ys H->∀ l,H l=none->Q (.ref l) (upd H l (.lst ys))) :
  Vf (Itl K a) nl fv g tt te Q H:=by
 refine Zer (xs:=xs) Pv h0 hn ?_ ?_ ?_ hlen step hd
 ·intro i H ys hi p
  exact ⟨xs,xs[i],hl i ys H (Nat.le_of_lt hi) p,by simp [hi]⟩
 ·rintro i H x H' ys hi p ⟨rfl,y⟩
  exact ⟨rfl,y xs (hl i ys _ (Nat.le_of_lt hi) p)⟩
 ·intro H ys p
  exact ⟨xs,hl _ ys H (Nat.le_refl _) p,Nat.le_refl _⟩
theorem Zit {x:Str}{nl:Nat}{fv:St}{g:TG}{tt:TTs}{te:TE}{Q:VK}{H:Hp}(Pv:Nat->List V->Hp->Prop) (h0:Pv 0 [] H) (hn:x.length<=1000000)
  (hlen:∀ i ys H,Pv i ys H->ys.length<=i)
  (step:∀ i ys H,i < x.length->Pv i ys H->Wf nl fv g tt te (sgn x i) H (fun y H'=>Pv (i+1) (ys ++ [y]) H') fun H'=>Pv (i+1) ys H')
  (hd:∀ ys H,Pv x.length ys H->∀ l,H l=none->Q (.ref l) (upd H l (.lst ys))) :
  Vf (Its x) nl fv g tt te Q H:=by
 have ln:((List.range x.length).map fun i=>sgn x i).length=x.length:=by simp
 refine Zer (xs:=(List.range x.length).map fun i=>sgn x i) Pv h0 (by rw [ln]; exact hn) ?_ ?_ ?_ hlen ?_ ?_
 ·intro i H ys hi _
  rw [ln] at hi
  exact hi
 ·rintro i H v H' ys hi _ ⟨rfl,rfl⟩
  rw [ln] at hi
  refine ⟨rfl,?_⟩
  rw [List.getElem?_map,List.getElem?_range hi]
  rfl
 ·intro H ys _
  rw [ln]
  exact rfl
 ·intro i v ys H hx p
  have hi:i < x.length:=by have:=(List.getElem?_eq_some_iff.mp hx).1; rwa [ln] at this
  rw [List.getElem?_map,List.getElem?_range hi] at hx
  cases hx
  exact step i ys H hi p
 ·intro ys H p
  rw [ln] at p
  exact hd ys H p
theorem Zso {x:Str}{g:TG}{tb:TS}{D:Ends}{σ:St}{H:Hp}(Pv:Nat->St->Hp->Prop) (h0:Pv 0 σ H)
  (hs:∀ i σ H,i < x.length->Pv i σ H->g (sgn x i) σ H fun σ2 H2=>tb {D with nx:=Pv (i+1),ct:=Pv (i+1),bk:=D.nx } σ2 H2) (hd:∀ σ H,Pv x.length σ H->D.nx σ H) :
  ∃ W:Nat->Nat->St->Hp->Prop,(∃ m,W 0 m σ H)/\∀ i m σ H,W i m σ H ->
   ((Its x).stop i H/\D.nx σ H)\/((Its x).go i H/\∃ N:St->Hp->Prop,(∀ σ' H',N σ' H'->∃ m',m' < m/\W (i+1) m' σ' H')/\∀ v H',(Its x).yld i H v H'->g v σ H' fun σ2 H2=>tb {D with nx:=N,ct:=N,bk:=D.nx } σ2 H2):=by
 refine ⟨fun i m σ H=>m=x.length - i/\i<=x.length/\Pv i σ H,⟨x.length,by simp,Nat.zero_le _,h0⟩,?_⟩
 rintro i m σ H ⟨rfl,hi,p⟩
 by_cases hlt:i < x.length
 ·refine .inr ⟨hlt,Pv (i+1),fun σ' H' p'=>⟨x.length - (i+1),by lia,rfl,hlt,p'⟩,fun v H' y=>?_⟩
  obtain ⟨e,y⟩:=y
  subst e y
  exact hs i σ _ hlt p
 ·have e:i=x.length:=by lia
  subst e
  exact .inl ⟨rfl,hd σ H p⟩
theorem Ur {ls:St}(h:ls.length=1):∃ a,ls = [a]:=by
 match ls,h with
 | [a],_=>exact ⟨a,rfl⟩
theorem Zmy {ls:St}(h:ls.length=2):∃ a b,ls = [a,b]:=by
 match ls,h with
 | [a,b],_=>exact ⟨a,b,rfl⟩
end L2
end
section
set_option Elab.async false
set_option linter.all false
set_option maxRecDepth 100000
set_option maxHeartbeats 4000000
namespace L2
open PySem PySem.Spec PyProof.Rows
structure QE (X:Cx) (e:Expr) (t:TE):Prop where
 h:PE X e t
structure QT (X:Cx) (e:Expr) (t:TT):Prop where
 h:PT X e t
structure QW (X:Cx) (e:Expr) (t:TT):Prop where
 h:PW X e t
structure QS (X:Cx) (s:Stmt) (t:TS):Prop where
 h:PS X s t
structure QSs (X:Cx) (s:List Stmt) (t:TS):Prop where
 h:PSs X s t
structure QA (X:Cx) (es:List Expr) (t:TA):Prop where
 h:PA X es t
structure QG (X:Cx) (e:Expr) (t:TG):Prop where
 h:PG X e t
structure QGs (X:Cx) (es:List Expr) (t:TGs):Prop where
 h:PGs X es t
structure QI (X:Cx) (tg iter:Expr) (t:TI):Prop where
 h:PI X tg iter t
structure QO (X:Cx) (e:Option Expr) (t:TO):Prop where
 h:PO X e t
structure QTs (X:Cx) (es:List Expr) (t:TTs):Prop where
 h:PTs X es t
structure QOp (X:Cx) (f:Value->Value->Sem Value) (r:R2):Prop where
 h:OpR X f r
structure QUn (X:Cx) (f:Value->Sem Value) (r:V->Hp->VK->Prop):Prop where
 h:UnR X f r
structure QC (X:Cx) (f:Value) (r:List V->Hp->VK->Prop):Prop where
 h:Wb X f r
structure QCk (X:Cx) (f:Value) (kw:Str) (r:List V->V->Hp->VK->Prop):Prop where
 h:Zvo X f kw r
structure QIx (X:Cx) (r:R2):Prop where
 h:IxR X r
structure QSl (X:Cx) (r:V->Option Int->Option Int->Hp->VK->Prop):Prop where
 h:SlR X r
structure QM (X:Cx) (id:String) (r:V->List V->Hp->VK->Prop):Prop where
 h:MtR X id r
structure QSet (X:Cx) (t:Zbo):Prop where
 h:Zgk X t
structure QIp (X:Cx) (op:Operator) (t:TIp):Prop where
 h:PIp X op t
section
variable {X:Cx}{a b c:Expr}{ta tb tc te:TE}{tA tB':TT}{pos p p2 pos':Pos}{st:Stmt}{rest:List Stmt}{t u:TS}{x:Str}{es:List Expr}{e:Expr}
theorem Zs:QSs X [] Zk:=⟨Zr0⟩
theorem Zf (h1:QS X st t) (h2:QSs X rest u):QSs X (st::rest) (Vn t u):=⟨Zp8 h1.h h2.h⟩
theorem Ze (h1:QS X st t):QSs X [st] t:=⟨Zr1 h1.h⟩
theorem Zi (h:QE X e te):QS X (.Return (some e) pos) (Zmm te):=⟨Zty h.h⟩
theorem Zp {c:Expr}{a b:List Stmt}{tc:TT}(hc:QT X c tc) (ha:QSs X a t) (hb:QSs X b u):QS X (.If c a b pos) (Zgj tc t u):=⟨Zvc hc.h ha.h hb.h⟩
theorem Zes (he:QE X e te) (hs:swapsWith e none pos.line X.env=pure false:=by rfl):QS X (.Expr e pos) (Zcz te):=⟨Zr2 he.h hs⟩
theorem Zm {i:Nat}(hN:X.N.Nodup) (n:Nm X.env.scope x .local) (he:QE X e te) (hi:X.N[i]? = some x:=by rfl) (hs:swapsWith e (some (.Name x pos')) pos.line X.env=pure false:=by rfl) :
  QS X (.Assign [.Name x pos'] e pos) (Wk te (Yn i)):=⟨Zsn hN n he.h hi hs⟩
theorem Zqw {i:Nat}(hN:X.N.Nodup) (n:Nm X.env.scope x .cell) (he:QE X e te) (hf:X.fn x=true:=by rfl) (hi:X.N[i]? = some x:=by rfl) (hs:swapsWith e (some (.Name x pos')) pos.line X.env=pure false:=by rfl) :
  QS X (.Assign [.Name x pos'] e pos) (Wk te (Yn i)):=⟨Zqs hN n he.h hf hi hs⟩
theorem Zbc {tg:Expr}{g:TG}(he:QE X e te) (hg:QG X tg g) (hs:swapsWithSole [tg] e pos.line X.env=pure false:=by rfl) (hw:swappedStores [tg] e X.env=pure none:=by rfl)
  (h1:(assignEach [tg] X.env).map (·.2) = [assign tg X.env]:=by rfl):QS X (.Assign [tg] e pos) (Wk te g):=⟨Zt0 he.h hg.h hs hw h1⟩
def Uf (J:It) (g:TG) (tb:TS) (D:Ends) (σ:St) (H1:Hp):Prop:=∃ W:Nat->Nat->St->Hp->Prop,(∃ m,W 0 m σ H1)/\∀ i m σ H,W i m σ H ->
 (J.stop i H/\D.nx σ H)\/(J.go i H/\∃ N:St->Hp->Prop,(∀ σ' H',N σ' H'->∃ m',m' < m/\W (i+1) m' σ' H')/\∀ x H',J.yld i H x H'->g x σ H' fun σ2 H2=>tb {D with nx:=N,ct:=N,bk:=D.nx } σ2 H2)
def Zvq (wi:TI) (g:TG) (tb:TS):TS:=fun D σ H=>wi σ H fun J H1=>Uf J g tb D σ H1
theorem W4 {tg iter:Expr}{body:List Stmt}{wi:TI}{g:TG}(hp:PassesOwn (model X.prog X.w) X.A X.env X.xe) (hc:X.calm=true) (hi:QI X tg iter wi) (hg:QG X tg g) (hb:QSs X body t)
  (hs:∀ x,foldedSetIterable iter X.env x=pure x:=by intro _; rfl):QS X (.For tg iter body [] pos) (Zvq wi g t):=⟨Zt2 hp hc hi.h hg.h hb.h hs⟩
theorem Wq {i:Nat}(hN:X.N.Nodup) (n:Nm X.env.scope x .local) (hi:X.N[i]? = some x:=by rfl):QG X (.Name x pos) (Yn i):=⟨Zqt hN n hi⟩
theorem Zet:QGs X [] Zmn:=⟨Zr3⟩
theorem Zam {t:TG}{u:TGs}(h1:QG X e t) (h2:QGs X es u) (hs:(assignEach (e::es) X.env).map (·.2)=assign e X.env::(assignEach es X.env).map (·.2):=by rfl):QGs X (e::es) (Zk9 t u):=⟨Zp9 h1.h h2.h hs⟩
theorem Zum {k:Nat}{t:TGs}{n:Nat}(hc:X.calm=true) (h:QGs X es t) (hn:(assignEach es X.env).length=n:=by rfl) (hst:(assignEach es X.env).findIdx? (·.1)=none:=by rfl):QG X (.Tuple es k pos) (Zgl X.K n t):=⟨Zka hc h.h hn hst⟩
theorem Zbd {o i:Expr}{to ti:TE}{t:Zbo}(ho:QE X o to) (hi:QE X i ti) (hs:QSet X t)
  (ha:∀ v,assign (.Subscript o i pos) X.env v=(do
   let ov ← holding [v] (eval o X.env)
   let iv ← holding [v,ov] (eval i X.env)
   standAt pos
   holding [v,ov,iv] (setItem ov iv v)
   release [v,ov,iv] []):=by intro _; rfl):QG X (.Subscript o i pos) (Zmo to ti t):=⟨Ztz ho.h hi.h hs.h ha⟩
theorem Za6:QSet X Zle:=⟨Zqh⟩
variable {tg:Expr}
theorem Zci {l:Expr}(hl:QE X l te):QI X tg l (Zla X.K te):=⟨Zr4 hl.h⟩
theorem Zun {l:Expr}(hl:QE X l te):QI X tg l (Zmp X.K te):=⟨Zt1 hl.h⟩
theorem Zbe {l:Expr}(hl:QE X l te):QI X tg l (Zmx te):=⟨Zuj hl.h⟩
theorem U2 {a:Expr}{ta:TA}(hg:Gl X "range") (hm:X.mg "range" = none) (ha:QA X [a] ta) (hs:starEach [a] X.env = [(false,eval a X.env)]:=by rfl):QI X tg (.Call (.Name "range" p) [a] [] pos) (Zlb ta):=⟨Zpg hg hm ha.h hs⟩
theorem Zc:QA X [] Vo:=⟨Zt8⟩
theorem Zb {t:TA}(ha:QE X e te) (hr:QA X es t) (hs:starEach (e::es) X.env=(false,eval e X.env)::starEach es X.env:=by rfl):QA X (e::es) (We te t):=⟨Zsa ha.h hr.h hs⟩
theorem Ys {t:TA}(h:QA X es t):QE X (.List es pos) (Zmr t):=⟨Zt9 h.h⟩
theorem Zae (ha:QT X a tA):QT X (.UnaryOp .Not a pos) (Zmk tA):=⟨Ztu ha.h⟩
theorem QW.pt (h:QW X e tA):QT X e tA:=⟨PW.pt h.h⟩
theorem U8 (ha:QT X a tA):QW X (.BoolOp .And [a] pos) tA:=⟨Zrz ha.h⟩
theorem Ug (ha:QT X a tA):QW X (.BoolOp .Or [a] pos) tA:=⟨Zts ha.h⟩
theorem Zaf {rest:List Expr}(ha:QT X a tA) (hb:QW X (.BoolOp .And (b::rest) pos) tB'):QW X (.BoolOp .And (a::b::rest) pos) (Zmj tA tB'):=⟨Ztt ha.h hb.h⟩
theorem Vg {rest:List Expr}(ha:QT X a tA) (hb:QW X (.BoolOp .Or (b::rest) pos) tB'):QW X (.BoolOp .Or (a::b::rest) pos) (tOr tA tB'):=⟨Zva ha.h hb.h⟩
theorem Zl {op:CmpOp}{r:R2}(ho:QOp X (compareOp op) r) (ha:QE X a ta) (hb:QE X b tb) (hm:behindInMarks op b=false):QT X (.Compare a [op] [b] pos) (Zbg (tOp r ta tb)):=⟨Zr8 ho.h ha.h hb.h hm⟩
theorem U9 {op:CmpOp}{r:R2}(ho:QOp X (compareOp op) r) (ha:QE X a ta) (hb:QE X b tb) (hm:behindInMarks op b=false):QE X (.Compare a [op] [b] pos) (tOp r ta tb):=⟨Zr7 ho.h ha.h hb.h hm⟩
theorem Zeb {op op':CmpOp}{r r':R2}(ho:QOp X (compareOp op) r) (ho':QOp X (compareOp op') r') (ha:QE X a ta) (hb:QE X b tb) (hc:QE X c tc)
  (hm:lastMarks [op,op'] [b,c]=false:=by with_unfolding_all rfl):QE X (.Compare a [op,op'] [b,c] pos) (Zco r r' ta tb tc):=⟨Zqc ho.h ho'.h ha.h hb.h hc.h hm⟩
theorem Zqx {op op':CmpOp}{r r':R2}(ho:QOp X (compareOp op) r) (ho':QOp X (compareOp op') r') (ha:QE X a ta) (hb:QE X b tb) (hc:QE X c tc)
  (hm:lastMarks [op,op'] [b,c]=false:=by with_unfolding_all rfl):QT X (.Compare a [op,op'] [b,c] pos) (Zbg (Zco r r' ta tb tc)):=⟨Zqd ho.h ho'.h ha.h hb.h hc.h hm⟩
theorem Vh (h:QE X e te) (he:∀ whole,isTrue e X.env whole=(do let v ← whole; standAt e.pos; holding [v] (truthy v)):=by intro _; rfl):QT X e (tB te):=⟨Ztr h.h he⟩
theorem Zd {i j pos}:QE X (.Constant (.int i) j pos) (tC (.int i)):=⟨Zto⟩
theorem Vi {b j pos}:QE X (.Constant (.bool b) j pos) (tC (.bl b)):=⟨Zu9⟩
theorem Yo {j pos}:QE X (.Constant .none j pos) (tC .non):=⟨Ztp⟩
theorem Zh {x j pos}:QE X (.Constant (.str x) j pos) (tC (.str x)):=⟨Ztq⟩
theorem qvN (i:Nat) (n:Nm X.env.scope x .local) (hN:X.N[i]? = some x:=by rfl):QE X (.Name x pos) (Ym i):=⟨pvN i n hN⟩
theorem qvC (i:Nat) (n:Nm X.env.scope x .cell) (hN:X.N[i]? = some x:=by rfl):QE X (.Name x pos) (Ym i):=⟨pvC i n hN⟩
theorem Uh {v:V}{u:Value}(n:Nm X.env.scope x .globalImplicit) (hm:X.mg x=some u) (r:RelV v u):QE X (.Name x pos) (tC v):=⟨Zqq n hm r⟩
theorem Wh {v:V}{u:Value}(n:Nm X.env.scope x .globalImplicit) (hm:X.mg x=none) (hv:bootBuiltins x=some u) (r:RelV v u):QE X (.Name x pos) (tC v):=⟨Zqr n hm hv r⟩
theorem Zj {op:Operator}{r:R2}(ho:QOp X (binaryOp op) r) (ha:QE X a ta) (hb:QE X b tb):QE X (.BinOp a op b pos) (tOp r ta tb):=⟨Zvd ho.h ha.h hb.h⟩
theorem Zuo (ha:QE X a ta):QE X (.UnaryOp .Not a pos) (Zk8 ta):=⟨Ztx ha.h⟩
theorem Ui {op} (h:QE X a ta):QE X (.BoolOp op [a] pos) ta:=⟨Ztv h.h⟩
theorem Zag {rest:List Expr}(ha:QE X a ta) (hb:QE X (.BoolOp .And (b::rest) pos) tb):QE X (.BoolOp .And (a::b::rest) pos) (Zk7 ta tb):=⟨Ztw ha.h hb.h⟩
theorem Zvr {rest:List Expr}(ha:QE X a ta) (hb:QE X (.BoolOp .Or (b::rest) pos) tb):QE X (.BoolOp .Or (a::b::rest) pos) (Zml ta tb):=⟨Zvb ha.h hb.h⟩
theorem Yb:QO X none Zja:=⟨Zsc⟩
theorem Z3 (h:QE X e te):QO X (some e) (Zld te):=⟨Zsd h.h⟩
theorem Z7 {lo hi:Option Expr}{tl th:TO}{r:V->Option Int->Option Int->Hp->VK->Prop}(hr:QSl X r) (he:QE X e te) (hl:QO X lo tl) (hu:QO X hi th):QE X (.Subscript e (.Slice lo hi none p2) pos) (tSl r te tl th):=⟨Zqg hr.h he.h hl.h hu.h⟩
theorem Zy {r:R2}(hr:QIx X r) (ha:QE X a ta) (hb:QE X b tb) (hs:Zjc b):QE X (.Subscript a b pos) (tOp r ta tb):=⟨Zvk hr.h ha.h hb.h hs⟩
theorem Zo {k:Nat}{ps:List Str}{sp:Sp}{t:TA}(F:Fn X.prog X.w X.K X.mg X.base x ps k sp) (hr:Room k X.A) (n:Nm X.env.scope x .globalImplicit) (ha:QA X (e::es) t)
  (he:starEach (e::es) X.env=(false,eval e X.env)::starEach es X.env:=by rfl) (hpl:(backTo pos (starEach es X.env)).any (·.1)=false:=by rfl) :
  QE X (.Call (.Name x p) (e::es) [] pos) (tFn sp t):=⟨Zul F hr n ha.h he hpl⟩
theorem Zw {t:TA}{id:String}{r:List V->Hp->VK->Prop}(hc:QC X (.builtin id) r) (n:Nm X.env.scope x .globalImplicit) (hm:X.mg x=none) (hv:bootBuiltins x=some (.builtin id)) (ha:QA X (e::es) t)
  (he:starEach (e::es) X.env=(false,eval e X.env)::starEach es X.env:=by rfl) (hpl:(backTo pos (starEach es X.env)).any (·.1)=false:=by rfl):QE X (.Call (.Name x p) (e::es) [] pos) (tCB r t):=⟨Zpp hc.h n hm hv ha.h he hpl⟩
theorem Vz {t:TA}{T:String}{r:List V->Hp->VK->Prop}(hc:QC X (.type T) r) (n:Nm X.env.scope x .globalImplicit) (hm:X.mg x=none) (hv:bootBuiltins x=some (.type T)) (ha:QA X (e::es) t)
  (he:starEach (e::es) X.env=(false,eval e X.env)::starEach es X.env:=by rfl) (hpl:(backTo pos (starEach es X.env)).any (·.1)=false:=by rfl):QE X (.Call (.Name x p) (e::es) [] pos) (tCB r t):=⟨Zo0 hc.h n hm hv ha.h he hpl⟩
theorem Wn {o:Expr}{to:TE}{t:TA}{name:Str}{apos cpos:Pos}{T id:String}{r:V->List V->Hp->VK->Prop}(pa:PlainAttrs T) (slot:Slot T name id) (hty:typeOf (.builtin id)=pure (.type "method_descriptor")) (hm:QM X id r) (ho:QE X o to) (ha:QA X (e::es) t)
  (hbase:attributeBase o name X.env (eval o X.env)=eval o X.env:=by rfl)
  (hfew:((backTo cpos (starEach (e::es) X.env)).all (fun x=>!x.1) && (backToKw cpos (keywordEach [] X.env)).all (fun x=>x.1.isSome)
   && decide ((e::es).length+([]:List Keyword).length+(if ([]:List Keyword).isEmpty then 0 else 1) < 30))=true:=by rfl)
  (hline:(apos.endLine == cpos.line)=true:=by rfl) (hs:starEach (e::es) X.env=(false,eval e X.env)::starEach es X.env:=by rfl) (hplain:(backTo cpos (starEach es X.env)).any (·.1)=false:=by rfl) :
  QE X (.Call (.Attribute o name apos) (e::es) [] cpos) (tBM X.K T r to t):=⟨Zvl pa slot hty hm.h ho.h ha.h hbase hfew hline hs hplain⟩
theorem Yp:QOp X (binaryOp .Add) (rI0 fun i j=>.int (i+j)):=⟨Zt3⟩
theorem Zjg:QOp X (binaryOp .Mult) (rI CMul fun i j=>.int (i * j)):=⟨Zt4⟩
theorem Zec:QOp X (binaryOp .FloorDiv) (rI Zgn fun i j=>.int (i / j)):=⟨Zr6⟩
theorem Zaa:QOp X (binaryOp .Mod) (rI (fun _ j=>0 < j) fun i j=>.int (i % j)):=⟨Zt5⟩
theorem Zsp:QOp X (binaryOp .Pow) (rI Zgo fun i j=>.int (i ^ j.toNat)):=⟨Zt6⟩
def Zvs (g:Str->Str->V):R2:=fun x y H Q=>∃ i j,x = .str i/\y = .str j/\Q (g i j) H
theorem V0:QOp X (compareOp .LtE) (Zvs fun i j=>.bl (!decide (j.cps.toList < i.cps.toList))):=⟨Zpo⟩
def Zvt:R2:=fun x y H Q=>∃ i j,x = .str i/\y = .str j/\i.length+j.length<=sizeLine/\Q (.str (i++j)) H
theorem Wd:QOp X (binaryOp .Add) Zvt:=⟨Zou⟩
theorem Wr:QOp X (binaryOp .Add) Zmw:=⟨Zuf⟩
theorem Yi:QOp X (compareOp .Eq) rEq:=⟨Zve⟩
theorem Vx:QOp X (compareOp .NotEq) rNe:=⟨Zvf⟩
theorem Zcr:QOp X (compareOp .Lt) (rI0 fun i j=>.bl (decide (i < j))):=⟨Zvg⟩
theorem Zbf:QOp X (compareOp .LtE) (rI0 fun i j=>.bl (decide (i<=j))):=⟨Zvh⟩
theorem Zcs:QOp X (compareOp .Gt) (rI0 fun i j=>.bl (decide (j < i))):=⟨Zvi⟩
theorem Zup:QOp X (compareOp .GtE) (rI0 fun i j=>.bl (decide (j<=i))):=⟨Zvj⟩
def Zzv:R2:=fun x y H Q=>y = .non/\Q (.bl (decide (x = .non))) H
theorem Za9:QOp X (compareOp .Is) Zzv:=⟨Zt7⟩
theorem Zdn:QOp X (compareOp .NotIn) (rIn X.K true):=⟨Zoc⟩
theorem Yc:QIx X (Zgp X.K):=⟨Zjd⟩
theorem Zvu:QIx X (Zmt X.K):=⟨Zud⟩
theorem Uj:QIx X Zmu:=⟨Zue⟩
theorem Y7:QSl X (Zmv X.K):=⟨Zse⟩
theorem Zsq:QSl X (Zms X.K):=⟨Zuc⟩
def Zzw:V->Option Int->Option Int->Hp->VK->Prop:=fun x lo hi H Q=>∃ z,x = .str z/\z.length<=sizeLine/\Q (.str (Txt.slice z lo hi)) H
theorem Ws:QSl X Zzw:=⟨Zuk⟩
def Zjh (K:PySem.W.Frag):List V->Hp->VK->Prop:=fun xs H Q=>∃ p ys,xs = [.ref p]/\(SqL K H p ys\/SqT K H p ys)/\Q (.int ys.length) H
theorem Wt:QC X (.builtin "len") (Zjh X.K):=⟨Zhq⟩
def Zvv:List V->Hp->VK->Prop:=fun xs H Q=>∃ z,xs = [.str z]/\z.length<=sizeLine/\Q (.int z.length) H
theorem Wu:QC X (.builtin "len") Zvv:=⟨Zod⟩
def Zzx (K:PySem.W.Frag):List V->Hp->VK->Prop:=fun xs H Q=>∃ (a:Addr) (bs:List Bool),xs = [.ref a]/\SqL K H a (bs.map V.bl)/\Q (.bl (bs.all id)) H
theorem Zig (hc:X.calm=true):QC X (.builtin "all") (Zzx X.K):=⟨Zqp hc⟩
def Zsr (K:PySem.W.Frag):List V->Hp->VK->Prop:=fun xs H Q=>∃ x n t b,xs = [x,.ty n]/\TyOf K H x t/\PySem.W.kitOne K t (.type n)=some b/\Q (.bl b) H
theorem Wl:QC X (.builtin "isinstance") (Zsr X.K):=⟨Zon⟩
def Zss (K:PySem.W.Frag):List V->Hp->VK->Prop:=fun xs H Q=>∃ p ys,xs = [.ref p]/\(SqL K H p ys\/SqT K H p ys)/\∀ l,H l=none->Q (.ref l) (upd H l (.lst ys))
theorem Zn8:QC X (.type "list") (Zss X.K):=⟨Zoe⟩
def Zlk (K:PySem.W.Frag):V->List V->Hp->VK->Prop:=fun x xs H Q=>∃ sep a ys,x = .str sep/\xs = [.ref a]/\SqL K H a (ys.map V.str)/\(ys.map (·.length)).sum+ys.length * sep.length<=16777216/\Q (.str (Txt.join sep ys)) H
theorem Zb7:QM X "str.join" (Zlk X.K):=⟨Zsl⟩
theorem Zdr:QM X "list.append" Zcg:=⟨Zpl⟩
end
section
variable {g:TG}{tb:TS}{D:Ends}{σ:St}{H:Hp}
theorem Zb5 {lo:Int}{n:Nat}(m:Nat) (hm:n=m) (Pv:Nat->St->Hp->Prop) (h0:Pv 0 σ H)
  (hs:∀ i σ H,i < m->Pv i σ H->g (.int (lo+i)) σ H fun σ2 H2=>tb {D with nx:=Pv (i+1),ct:=Pv (i+1),bk:=D.nx } σ2 H2) (hd:∀ σ H,Pv m σ H->D.nx σ H):Uf (Itr lo n) g tb D σ H:=by
 subst hm
 exact Zph Pv h0 hs hd
theorem Zpq {K:PySem.W.Frag}{a:Addr}(xs:List V) (Pv:Nat->St->Hp->Prop) (h0:Pv 0 σ H) (hl:∀ i σ H,i<=xs.length->Pv i σ H->SqL K H a xs)
  (hs:∀ i x σ H,xs[i]? = some x->Pv i σ H->g x σ H fun σ2 H2=>tb {D with nx:=Pv (i+1),ct:=Pv (i+1),bk:=D.nx } σ2 H2) (hd:∀ σ H,Pv xs.length σ H->D.nx σ H):Uf (Itl K a) g tb D σ H:=Zqb Pv h0 hl hs hd
theorem Zqy {K:PySem.W.Frag}{a:Addr}(xs:List V) (Pv:Nat->St->Hp->Prop) (h0:Pv 0 σ H) (hl:∀ i σ H,i<=xs.length->Pv i σ H->SqT K H a xs)
  (hs:∀ i x σ H,xs[i]? = some x->Pv i σ H->g x σ H fun σ2 H2=>tb {D with nx:=Pv (i+1),ct:=Pv (i+1),bk:=D.nx } σ2 H2) (hd:∀ σ H,Pv xs.length σ H->D.nx σ H):Uf (Itt K a) g tb D σ H:=Zr5 Pv h0 hl hs hd
theorem Zed {x:Str}(Pv:Nat->St->Hp->Prop) (h0:Pv 0 σ H)
  (hs:∀ i σ H,i < x.length->Pv i σ H->g (sgn x i) σ H fun σ2 H2=>tb {D with nx:=Pv (i+1),ct:=Pv (i+1),bk:=D.nx } σ2 H2) (hd:∀ σ H,Pv x.length σ H->D.nx σ H):Uf (Its x) g tb D σ H:=Zso Pv h0 hs hd
end
section
variable {X:Cx}{tg elt iter:Expr}{ifs:List Expr}{scope:Scope}{pos:Pos}{locs:List Str}{fr:List (Str×Nat)}{g:TG}{tt:TTs}{te:TE}
theorem Vj:QTs X [] (fun _ H Q=>Q true H):=⟨Zsi⟩
structure Inn (X:Cx) (scope:Scope) (N':List Str) (tg:Expr) (ifs:List Expr) (elt:Expr) (g:TG) (tt:TTs) (te:TE):Prop where
 h:∀ (cl:List (Str×Addr)) (C:Addr) (s0:Shared) (H0:Hp) (ex:List Addr) (pn:List (Addr×Obj)),QG (ccx X scope cl C N' s0 H0 ex pn) tg g/\QTs (ccx X scope cl C N' s0 H0 ex pn) ifs tt/\QE (ccx X scope cl C N' s0 H0 ex pn) elt te
theorem Zb8 {wi:TI}(S:CompOk X scope locs fr) (F:FrOk X scope fr) (hc:X.calm=true) (hi:QI X tg iter wi) (inner:Inn X scope (inN locs fr) tg ifs elt g tt te)
  (hs:∀ x,foldedSetIterable iter X.env x=pure x:=by intro _; rfl):QE X (.ListComp elt [⟨tg,iter,ifs,0⟩] scope pos) (Zc2 locs.length fr wi g tt te) :=
 ⟨Zqn S F hc hi.h (fun cl C s0 H0 ex pn=>let ⟨a,b,c⟩:=inner.h cl C s0 H0 ex pn; ⟨a.h,b.h,c.h⟩) hs⟩
theorem Zeu {wi:TI}{i:Nat}{x:Str}{pos' spos:Pos}(S:CompOk X scope locs fr) (F:FrOk X scope fr) (hc:X.calm=true) (hi:QI X tg iter wi) (inner:Inn X scope (inN locs fr) tg ifs elt g tt te)
  (hN:X.N.Nodup) (n:Nm X.env.scope x .local) (hsw:swapsWith (.ListComp elt [⟨tg,iter,ifs,0⟩] scope pos) (some (.Name x pos')) spos.line X.env=pure true) (hi0:X.N[i]? = some x:=by rfl)
  (hs:∀ x,foldedSetIterable iter X.env x=pure x:=by intro _; rfl):QS X (.Assign [.Name x pos'] (.ListComp elt [⟨tg,iter,ifs,0⟩] scope pos) spos) (Wk (Zc2 locs.length fr wi g tt te) (Yn i)) :=
 ⟨Zsk S F hc hi.h (fun cl C s0 H0 ex pn=>let ⟨a,b,c⟩:=inner.h cl C s0 H0 ex pn; ⟨a.h,b.h,c.h⟩) hN hi0 n.1 hsw hs⟩
end
section
variable {X:Cx}{scope:Scope}{cl:List (Str×Addr)}{C:Addr}{N':List Str}{s0:Shared}{H0:Hp}{ex:List Addr}{pn:List (Addr×Obj)}{x:Str}{pos:Pos}
theorem Vp (i:Nat) (n:Nm scope x .local:=by decide +kernel) (hN:N'[i]? = some x:=by rfl):QE (ccx X scope cl C N' s0 H0 ex pn) (.Name x pos) (Ym i):=⟨Zzs i n hN⟩
theorem Zbp (i:Nat) (n:Nm scope x .free:=by decide +kernel) (hN:N'[i]? = some x:=by rfl):QE (ccx X scope cl C N' s0 H0 ex pn) (.Name x pos) (Ym i):=⟨Zzt i n hN⟩
theorem Wv (i:Nat) (hnd:N'.Nodup) (n:Nm scope x .local:=by decide +kernel) (hN:N'[i]? = some x:=by rfl):QG (ccx X scope cl C N' s0 H0 ex pn) (.Name x pos) (Yn i):=⟨Zzu i hnd n hN⟩
end
section
variable {P:Program}{w:World}{K:PySem.W.Frag}{mg:Str->Option Value}{base:Heap}
theorem Has.fnQ {x:Str}{st:Stmt}{N ps:List Str}{k:Nat}{sp:Sp}(h:Has K mg x st) (S:FnScope N ps (Za st))
  (hb:∀ (kV doc pm:Value) (an:Option Addr) (cdv ct:Value) (us:List Value),us.length=ps.length->bindArgs (PySem.W.fnOf x x (W3 st) (Yw st) (Za st) .none kV doc pm an cdv ct) ⟨us,[]⟩=pure (ps.zip us))
  (len:∀ vs H Q E,sp vs H Q E->vs.length=ps.length)
  (hbody:∀ (f:Addr) (cdv:Value) (A:Around) (outer:List Env) (s:Shared) (H:Hp) (vs:List V) (Q:VK) (E:XK),Room k (A.deeper (envOfC x (Za st) s.heap.objs.size f cdv))->sp vs H Q E ->
   ∃ t,QSs (Yl CX0 P w K mg base N x (Za st) f cdv A outer s H E).nox (Yw st) t/\t {nx:=fun _ H'=>Q .non H',rt:=Q } (Yv N vs) H):Fn P w K mg base x ps (k+1) sp :=
 h.fn S hb len fun f cdv A outer s H vs Q E hr q=>let ⟨t,a,b⟩:=hbody f cdv A outer s H vs Q E hr q; ⟨t,a.h,b⟩
end
end L2
namespace L2
open PySem PySem.Spec PyProof.Rows
theorem Zcj {t u:TS}{D:Ends}{σ:St}{H:Hp}(R:St->Hp->Prop) (hu:∀ σ' H',R σ' H'->u D σ' H')
  (ht:∀ D':Ends,(∀ σ' H',R σ' H'->D'.nx σ' H')->(∀ v H',D.rt v H'->D'.rt v H')->(∀ σ' H',D.bk σ' H'->D'.bk σ' H')->(∀ σ' H',D.ct σ' H'->D'.ct σ' H')->t D' σ H):Vn t u D σ H :=
 ht {D with nx:=u D } hu (fun _ _ h=>h) (fun _ _ h=>h) (fun _ _ h=>h)
theorem Zb6 {a b:Nat}:(([a]:List Nat) < [b])↔a < b:=by
 constructor
 ·intro h
  rcases List.cons_lt_cons_iff.mp h with z | ⟨_,z⟩
  ·exact z
  ·exact absurd z (by simp)
 ·intro h
  exact List.cons_lt_cons_iff.mpr (.inl h)
end L2
namespace L2
theorem Zv {i:Nat}{v:V}{σ:St}{H:Hp}{Q:St->Hp->Prop}(h:Q (σ.set i (some v)) H):Yn i v σ H Q:=h
end L2
namespace L2
open PySem PySem.Spec PyProof.Rows
theorem Fun.okQ {P:Program}{w:World}{K:PySem.W.Frag}{mg:Str->Option Value}{base:Heap}{x qual:Str}{st:Stmt}{f:Addr}{fd:FuncData}{N ps:List Str}{k:Nat}{sp:Sp}(F:Fun K x qual st f fd) (S:FnScope N ps (Za st)) (len:∀ vs H Q E,sp vs H Q E->vs.length=ps.length)
  (hbody:∀ (cdv:Value) (A:Around) (outer:List Env) (s:Shared) (H:Hp) (vs:List V) (Q:VK) (E:XK),Room k (A.deeper (envOfC qual (Za st) s.heap.objs.size f cdv))->sp vs H Q E ->
   ∃ t,QSs (Yl CX0 P w K mg base N qual (Za st) f cdv A outer s H E).nox (Yw st) t/\t {nx:=fun _ H'=>Q .non H',rt:=Q } (Yv N vs) H):FnOk P w K mg base CX0 (k+1) f fd ps sp :=
 F.ok S len fun cdv A outer s H vs Q E hr q=>let ⟨t,a,b⟩:=hbody cdv A outer s H vs Q E hr q; ⟨t,a.h,b⟩
def Zc4 (K:PySem.W.Frag):Sp:=fun vs H Q _=>∃ (a:Addr) (ns:List Int),vs = [.ref a]/\SqL K H a (ns.map V.int)/\ns.length<=63/\∀ H',Q (.bl true) H'
theorem walkLaw {l:PySem.W.OpenLaw}{q:Program}{loose:List Str}{XP:(Str->Option Value)->Heap->Prop}{YP:World->Heap->Prop}{d:DefRec}{K:Params->PySem.W.Frag}(hn:l.most=some 63) (hdf:d.params.defaults = [])
  (hY:∀ (w:World) (h:Heap),YP w h->(K w.params).In h)
  (F:∀ (w:World) (mg:Str->Option Value) (fa:Addr) (h:Heap),(K w.params).In h->h.Ns mainGlobals mg->mg d.name=some (.ref fa) ->
   ∃ fd:FuncData,(∀ (s:Shared) (u:Value),BindsTo s fd ⟨[u],[]⟩ [("_law_script", u)])/\∀ base:Heap,(K w.params).In base->base.Ns mainGlobals mg->FnOk l.prog w (K w.params) mg base CX0 40 fa fd ["_law_script"] (Zc4 (K w.params))) :
  PySem.W.WalkO q loose XP YP l.row.toRowW d [] (fun f vs=>PySem.call f vs) :=
 L2.walk_of (n:=63) (k:=40) (x := "_law_script") (CX:=fun _=>CX0) (sp:=fun w=>Zc4 (K w.params)) hn (by decide) hdf ⟨rfl,by decide,by decide⟩ hY F (fun _ _ a ns hl _ hS=>⟨a,ns,rfl,hS,hl,fun _=>rfl⟩) fun _ _ _ _ _ z=>z
end L2
namespace L2
open PySem PySem.Spec PyProof.Rows
section
variable {X:Cx}{scope:Scope}{cl:List (Str×Addr)}{C:Addr}{N':List Str}{s0:Shared}{H0:Hp}{ex:List Addr}{pn:List (Addr×Obj)}{x:Str}{pos:Pos}{es:List Expr}{k:Nat}{t:TGs}
theorem Zji (n:Nat) (hc:X.calm=true) (h:QGs (ccx X scope cl C N' s0 H0 ex pn) es t) (hn:(assignEach es (ccx X scope cl C N' s0 H0 ex pn).env).length=n:=by rfl) (hst:(assignEach es (ccx X scope cl C N' s0 H0 ex pn).env).findIdx? (·.1)=none:=by rfl) :
  QG (ccx X scope cl C N' s0 H0 ex pn) (.Tuple es k pos) (Zgl X.K n t):=⟨Zka (X:=ccx X scope cl C N' s0 H0 ex pn) hc h.h hn hst⟩
theorem Zpr:QIx (ccx X scope cl C N' s0 H0 ex pn) (Zgp X.K):=⟨Zjd (X:=ccx X scope cl C N' s0 H0 ex pn)⟩
theorem Zn4:QC (ccx X scope cl C N' s0 H0 ex pn) (.builtin "len") (Zjh X.K):=⟨Zhq (X:=ccx X scope cl C N' s0 H0 ex pn)⟩
end
end L2
end
section
set_option Elab.async false
set_option linter.all false
set_option maxRecDepth 100000
set_option maxHeartbeats 4000000
namespace L2
open PySem PySem.Spec PyProof.Rows
def Lik (a b:Value):Prop:=a=b\/∃ c t u,a = .str c t/\b = .str c u
theorem Lik.rel {y:V}{a b:Value}(h:Lik a b) (r:RelV y a):RelV y b:=by
 rcases h with rfl | ⟨c,t,u,rfl,rfl⟩
 ·exact r
 ·cases y with
  | str z=>obtain ⟨k,e⟩:=r; cases e; exact ⟨u,rfl⟩
  | non=>cases r
  | bl _=>cases r
  | int _=>obtain ⟨_,e⟩:=r; cases e
  | byt _=>obtain ⟨_,e⟩:=r; cases e
  | flt _=>obtain ⟨_,e⟩:=r; cases e
  | _=>cases r
structure Drw (P:Program) (w:World) (it l:Addr) (St:Nat->Heap->Prop) (Hs:Heap->List Value->Prop):Prop where
 obj:∀ k h,St k h->∃ o,h.get? it=some o/\∀ v,o.data ≠ .cell v
 keep:∀ k h h',St k h->(∀ o,h.get? it=some o->h'.get? it=some o)->St k h'
 src:∀ h h' its,Hs h its->(∀ o,h.get? l=some o->h'.get? l=some o)->Hs h' its
 item:∀ (A:Around) (k:Nat) (s:Shared) (its:List Value) (x:Value) (Q:Value->Shared->Prop) (E:Value->Shared->Prop),St k s.heap->Hs s.heap its->its[k]? = some x ->
  (∀ x' h' tk,Lik x x'->St (k+1) h'->Heap.SameBut it s.heap h'->Q x' {s with heap:=h',toks:=tk })->wpAny (model P w) A (Builtin.SmallTypes.nextOf (.ref it)) Q E s
 done:∀ (A:Around) (k:Nat) (s:Shared) (its:List Value) (Q:Value->Shared->Prop) (E:Value->Shared->Prop),A.handled=none->St k s.heap->Hs s.heap its->its[k]? = none ->
  (∀ h' e,Heap.ExtBut it s.heap h'->(∃ o,h'.get? e=some o/\o.cls = .type "StopIteration")->E (.ref e) {s with heap:=h' })->wpAny (model P w) A (Builtin.SmallTypes.nextOf (.ref it)) Q E s
theorem Zb9 {P:Program}{w:World}(it l:Addr):Drw P w it l (fun k h=>h.IsListIter it l k) (fun h its=>h.IsList l its.toArray) where
 obj:=fun k h st=>by
  obtain ⟨o,e,c,d⟩:=st
  exact ⟨o,e,fun v z=>by rw [d] at z; cases z⟩
 keep:=fun k h h' st kk=>st.at kk
 src:=fun h h' its hl kk=>hl.at kk
 item:=fun A k s its x Q E st hl hx hQ=>wpAny_nextOf_list_item st hl (by simpa using hx) fun h'=>hQ x h' s.toks (.inl rfl)
 done:=fun A k s its Q E hh st hl hx hE=>wpAny_nextOf_list_end hh st hl (by simpa using hx) hE
section
variable {P:Program}{w:World}{A:Around}{E:Value->Shared->Prop}{s:Shared}
theorem Zo2 {it t:Addr}{k:Nat}{its:List Value}{x:Value}{Q:Value->Shared->Prop}(st:s.heap.IsTupleIter it t k) (ht:s.heap.IsTuple t its.toArray) (hx:its[k]? = some x)
  (hQ:∀ h',h'.IsTupleIter it t (k+1)->Heap.SameBut it s.heap h'->Q x {s with heap:=h' }):wpAny (model P w) A (Builtin.SmallTypes.nextOf (.ref it)) Q E s:=by
 obtain ⟨o,ho,hc,hd⟩:=id st
 obtain ⟨ot,hot,_,nt,hdt⟩:=id ht
 unfold Builtin.SmallTypes.nextOf
 refine wpAny_bind (wpAny_callSpecial?_slot (name:=Str.ofString "__next__") st.typeIs F.slot_tuple_iterator_next (wpAny_call_entry F.slot_tuple_iterator_next st.typeIs F.entry_tuple_iterator_next ?_ (F.args_tuple_iterator_next_1 _)))
 show wpAny _ _ (field (.ref it) 0 >>= _) _ _ s
 refine wpAny_bind (wpAny_field ho hd (x:=.ref t) rfl ?_)
 show wpAny _ _ (if (Value.ref t == Value.none)=true then _ else _) _ _ s
 rw [if_neg (show ¬ ((Value.ref t == Value.none)=true) from Bool.false_ne_true)]
 show wpAny _ _ (field (.ref it) 1 >>= _) _ _ s
 refine wpAny_bind (wpAny_field ho hd (x:=.int k 0) rfl ?_)
 show wpAny _ _ (seqItems? (.ref t) >>= _) _ _ s
 refine wpAny_bind (wpAny_seqItems hot hdt ?_)
 have hx':its.toArray[k]? = some x:=by simpa using hx
 simp only [Int.toNat_natCast,hx']
 refine wpAny_bind (wpAny_setField ho hd (by simp) ?_)
 refine wpAny_pure ⟨_,rfl,wpAny_pure (hQ _ ?_ (Heap.SameBut.update ..))⟩
 refine ⟨_,Heap.get?_update_self _ ho ?_,?_,?_⟩
 ·obtain ⟨c,d,dt,sl⟩:=o; subst hd; rfl
 ·obtain ⟨c,d,dt,sl⟩:=o; subst hd; exact hc
 ·obtain ⟨c,d,dt,sl⟩:=o; subst hd; rfl
theorem Zps {it t:Addr}{k:Nat}{its:List Value}{Q:Value->Shared->Prop}(hh:A.handled=none) (st:s.heap.IsTupleIter it t k) (ht:s.heap.IsTuple t its.toArray) (hx:its[k]? = none)
  (hE:∀ h' e,Heap.ExtBut it s.heap h'->(∃ o,h'.get? e=some o/\o.cls = .type "StopIteration")->E (.ref e) {s with heap:=h' }):wpAny (model P w) A (Builtin.SmallTypes.nextOf (.ref it)) Q E s:=by
 obtain ⟨o,ho,hc,hd⟩:=id st
 obtain ⟨ot,hot,_,nt,hdt⟩:=id ht
 unfold Builtin.SmallTypes.nextOf
 refine wpAny_bind (wpAny_callSpecial?_slot (name:=Str.ofString "__next__") st.typeIs F.slot_tuple_iterator_next (wpAny_call_entry F.slot_tuple_iterator_next st.typeIs F.entry_tuple_iterator_next ?_ (F.args_tuple_iterator_next_1 _)))
 show wpAny _ _ (field (.ref it) 0 >>= _) _ _ s
 refine wpAny_bind (wpAny_field ho hd (x:=.ref t) rfl ?_)
 show wpAny _ _ (if (Value.ref t == Value.none)=true then _ else _) _ _ s
 rw [if_neg (show ¬ ((Value.ref t == Value.none)=true) from Bool.false_ne_true)]
 show wpAny _ _ (field (.ref it) 1 >>= _) _ _ s
 refine wpAny_bind (wpAny_field ho hd (x:=.int k 0) rfl ?_)
 show wpAny _ _ (seqItems? (.ref t) >>= _) _ _ s
 refine wpAny_bind (wpAny_seqItems hot hdt ?_)
 have hx':its.toArray[k]? = none:=by simpa using hx
 simp only [Int.toNat_natCast,hx']
 refine wpAny_bind (wpAny_rule (wpAny_bind (wpAny_setField ho hd (by simp) ?_)))
 show wpAny _ _ (newExc (.type "StopIteration") [] >>= _) _ _ _
 refine wpAny_bind ?_
 simp only [newExc,newTuple]
 refine wpAny_bind (wpAny_newObj_type ?_ (by size_fits))
 refine wpAny_bind (m:=firstArgMember _ _) (wpAny_of_eq (a:=Value.none) (by first | rfl | (simp only [firstArgMember]; rfl)) ?_)
 refine wpAny_newObj_type ?_ (by size_fits)
 simp only [raiseNew]
 refine wpAny_bind (wpAny_handled ?_)
 first | rw [show A.in1.handled=none from hh] | rw [hh]
 refine wpAny_bind (wpAny_pure (wpAny_throw ?_))
 exact hE _ _ (((Heap.SameBut.update ..).extBut.push _).push _) ⟨_,Heap.get?_push_size _ rfl,rfl⟩
end
theorem Zdx {P:Program}{w:World}(it l:Addr):Drw P w it l (fun k h=>h.IsTupleIter it l k) (fun h its=>h.IsTuple l its.toArray) where
 obj:=fun k h st=>by
  obtain ⟨o,e,c,d⟩:=st
  exact ⟨o,e,fun v z=>by rw [d] at z; cases z⟩
 keep:=fun k h h' st kk=>st.at kk
 src:=fun h h' its hl kk=>let ⟨o,e,r⟩:=hl; ⟨o,kk o e,r⟩
 item:=fun A k s its x Q E st hl hx hQ=>Zo2 st hl hx fun h'=>hQ x h' s.toks (.inl rfl)
 done:=fun A k s its Q E hh st hl hx hE=>Zps hh st hl hx hE
structure ZA (z TI TO i1 i2 l1 l2:Addr):Prop where
 a1:TI≠z
 a2:TO≠z
 a3:i1≠z
 a4:i2≠z
 a5:TI≠TO
 a6:TI≠i1
 a7:TI≠i2
 a8:TO≠i1
 a9:TO≠i2
 a10:i1≠i2
 b1:l1≠z
 b2:l1≠TO
 b3:l1≠i1
 b4:l1≠i2
 b5:l2≠z
 b6:l2≠TO
 b7:l2≠i1
 b8:l2≠i2
section
variable {P:Program}{w:World}{A:Around}{E:Value->Shared->Prop}{s:Shared}{z TI TO i1 i2 l1 l2:Addr}{S1 S2:Nat->Heap->Prop}{H1 H2:Heap->List Value->Prop}{k:Nat}{xs ys:List Value}{x y a b:Value}
theorem Zpt {Q:Value->Shared->Prop}(Z:ZA z TI TO i1 i2 l1 l2) (D1:Drw P w i1 l1 S1 H1) (D2:Drw P w i2 l2 S2 H2) (hz:IsZip s.heap z TI TO .none) (hTI:IsPair s.heap TI (.ref i1) (.ref i2)) (hTO:IsPair s.heap TO a b)
  (st1:S1 k s.heap) (st2:S2 k s.heap) (h1:H1 s.heap xs) (h2:H2 s.heap ys) (hx:xs[k]? = some x) (hy:ys[k]? = some y)
  (hQ:∀ x' y' h' tk,Lik x x'->Lik y y'->IsZip h' z TI TO (rawInt s.heap.objs.size)->IsPair h' TO x' y'->S1 (k+1) h'->S2 (k+1) h'->IsPair h' s.heap.objs.size x' y' ->
   (∀ c o,c≠z->c≠TO->c≠i1->c≠i2->s.heap.get? c=some o->h'.get? c=some o)->Q (.ref s.heap.objs.size) {s with heap:=h',toks:=tk }) :
  wpAny (model P w) A (Builtin.«zip.__next__» ⟨[.ref z],[]⟩) (fun fin s'=>∃ v,fin = .done (.ret v)/\Q v s') E s:=by
 show wpAny _ _ (field (.ref z) 2 >>= _) _ _ _
 refine wpAny_bind (wpAny_field hz rfl (x:=.bool false) rfl ?_)
 show wpAny _ _ (field (.ref z) 3 >>= _) _ _ _
 refine wpAny_bind (wpAny_field hz rfl (x:=.ref TI) rfl (wpAny_bind (wpAny_seqItems hTI rfl ?_)))
 show wpAny _ _ (Builtin.SmallTypes.ownedTupleIsFree (.ref z) >>= _) _ _ _
 refine wpAny_bind ?_
 unfold Builtin.SmallTypes.ownedTupleIsFree
 refine wpAny_bind (wpAny_field hz rfl (x:=.none) rfl (wpAny_pure ?_))
 simp only [if_true]
 refine wpAny_bind (wpAny_rule (wpAny_bind (wpAny_field hz rfl (x:=.ref TO) rfl (wpAny_bind (wpAny_setField_rec hz (by simp) fun g1 z1 e1=>?_)))))
 replace z1:IsZip g1 z TI TO .ellipsis:=z1
 refine wpAny_bind ?_
 simp only [List.zipIdx_cons,List.zipIdx_nil,List.forIn_cons,List.forIn_nil]
 refine wpAny_bind (wpAny_bind (wpAny_onRaise ?_))
 show wpAny _ _ (Builtin.SmallTypes.nextOf (.ref i1) >>= _) _ _ _
 refine wpAny_bind (D1.item _ k _ xs x _ _ (D1.keep _ _ _ st1 fun o e=>e1.extBut _ _ Z.a3 e) (D1.src _ _ _ h1 fun o e=>e1.extBut _ _ Z.b1 e) hx fun x' g2 tk2 lx s12 e2=>wpAny_pure ?_)
 have t2:IsPair g2 TO a b:=e2.extBut _ _ Z.a8 (e1.extBut _ _ Z.a2 hTO)
 refine wpAny_bind (wpAny_seqItems t2 rfl (wpAny_bind (wpAny_updateSeq_pair t2 fun g3 t3 e3=>?_)))
 replace t3:IsPair g3 TO x' b:=t3
 refine wpAny_bind (wpAny_letGo (wpAny_pure (wpAny_bind (wpAny_bind (wpAny_onRaise ?_)))))
 show wpAny _ _ (Builtin.SmallTypes.nextOf (.ref i2) >>= _) _ _ _
 have up3:∀ c o,c≠z->c≠TO->c≠i1->s.heap.get? c=some o->g3.get? c=some o:=fun c o c1 c2 c3 e=>e3.extBut _ _ c2 (e2.extBut _ _ c3 (e1.extBut _ _ c1 e))
 refine wpAny_bind (D2.item _ k _ ys y _ _ (D2.keep _ _ _ st2 fun o e=>up3 _ _ Z.a4 Z.a9.symm Z.a10.symm e) (D2.src _ _ _ h2 fun o e=>up3 _ _ Z.b5 Z.b6 Z.b7 e) hy fun y' g4 tk4 ly s24 e4=>wpAny_pure ?_)
 have t4:IsPair g4 TO x' b:=e4.extBut _ _ Z.a9 t3
 refine wpAny_bind (wpAny_seqItems t4 rfl (wpAny_bind (wpAny_updateSeq_pair t4 fun g5 t5 e5=>?_)))
 replace t5:IsPair g5 TO x' y':=t5
 refine wpAny_bind (wpAny_letGo (wpAny_pure (wpAny_pure (wpAny_bind (wpAny_seqItems t5 rfl (wpAny_bind (wpAny_newTuple ?_)))))))
 have size5:g5.objs.size=s.heap.objs.size:=by rw [e5.1,e4.1,e3.1,e2.1,e1.1]
 have z5:IsZip g5 z TI TO .ellipsis:=e5.extBut _ _ Z.a2.symm (e4.extBut _ _ Z.a4.symm (e3.extBut _ _ Z.a2.symm (e2.extBut _ _ Z.a3.symm z1)))
 have up5:∀ c o,c≠z->c≠TO->c≠i1->c≠i2->s.heap.get? c=some o->g5.get? c=some o:=fun c o c1 c2 c3 c4 e=>e5.extBut _ _ c2 (e4.extBut _ _ c4 (up3 c o c1 c2 c3 e))
 have s15:S1 (k+1) g5:=D1.keep _ _ _ s12 fun o e=>e5.extBut _ _ Z.a8.symm (e4.extBut _ _ Z.a10 (e3.extBut _ _ Z.a8.symm e))
 have s25:S2 (k+1) g5:=D2.keep _ _ _ s24 fun o e=>e5.extBut _ _ Z.a9.symm e
 have zlt:z < g5.objs.size:=Heap.lt_size z5
 show wpAny _ _ (Builtin.SmallTypes.ownedTupleHandOut (.ref z) (.ref g5.objs.size) >>= _) _ _ _
 refine wpAny_bind ?_
 unfold Builtin.SmallTypes.ownedTupleHandOut
 have z6:IsZip (g5.push {cls:=.type "tuple", data:=.seq #[x',y'] }) z TI TO .ellipsis:=Heap.get?_push_of_some _ z5
 refine wpAny_bind (wpAny_setField_rec z6 (by simp) fun g7 z7 e7=>?_)
 replace z7:IsZip g7 z TI TO (rawInt g5.objs.size):=z7
 refine wpAny_setField_rec z7 (by simp) fun g8 z8 e8=>?_
 replace z8:IsZip g8 z TI TO (rawInt g5.objs.size):=z8
 have up8:∀ c o,c≠z->g5.get? c=some o->g8.get? c=some o:=fun c o c1 e=>e8.extBut _ _ c1 (e7.extBut _ _ c1 (Heap.get?_push_of_some _ e))
 have p8:IsPair g8 g5.objs.size x' y':=e8.extBut _ _ (Nat.ne_of_gt zlt) (e7.extBut _ _ (Nat.ne_of_gt zlt) (Heap.get?_push_size _ rfl))
 rw [size5] at z8 p8
 refine wpAny_pure ⟨_,rfl,?_⟩
 show Q (.ref g5.objs.size) _
 rw [size5]
 exact hQ x' y' g8 _ lx ly z8 (up8 _ _ Z.a2 t5) (D1.keep _ _ _ s15 fun o e=>up8 _ _ Z.a3 e) (D2.keep _ _ _ s25 fun o e=>up8 _ _ Z.a4 e) p8 fun c o c1 c2 c3 c4 e=>up8 c o c1 (up5 c o c1 c2 c3 c4 e)
theorem Zqz {Q:PySem.Fin->Shared->Prop}(hh:A.handled=none) (Z:ZA z TI TO i1 i2 l1 l2) (D1:Drw P w i1 l1 S1 H1) (D2:Drw P w i2 l2 S2 H2) (hz:IsZip s.heap z TI TO .none) (hTI:IsPair s.heap TI (.ref i1) (.ref i2)) (hTO:IsPair s.heap TO a b)
  (st1:S1 k s.heap) (st2:S2 k s.heap) (h1:H1 s.heap xs) (h2:H2 s.heap ys) (hend:xs[k]? = none\/ys[k]? = none)
  (hE:∀ h' e tk,(∀ c o,c≠z->c≠TO->c≠i1->c≠i2->s.heap.get? c=some o->h'.get? c=some o)->(∃ o,h'.get? e=some o/\o.cls = .type "StopIteration")->E (.ref e) {s with heap:=h',toks:=tk }) :
  wpAny (model P w) A (Builtin.«zip.__next__» ⟨[.ref z],[]⟩) Q E s:=by
 show wpAny _ _ (field (.ref z) 2 >>= _) _ _ _
 refine wpAny_bind (wpAny_field hz rfl (x:=.bool false) rfl ?_)
 show wpAny _ _ (field (.ref z) 3 >>= _) _ _ _
 refine wpAny_bind (wpAny_field hz rfl (x:=.ref TI) rfl (wpAny_bind (wpAny_seqItems hTI rfl ?_)))
 show wpAny _ _ (Builtin.SmallTypes.ownedTupleIsFree (.ref z) >>= _) _ _ _
 refine wpAny_bind ?_
 unfold Builtin.SmallTypes.ownedTupleIsFree
 refine wpAny_bind (wpAny_field hz rfl (x:=.none) rfl (wpAny_pure ?_))
 simp only [if_true]
 refine wpAny_bind (wpAny_rule (wpAny_bind (wpAny_field hz rfl (x:=.ref TO) rfl (wpAny_bind (wpAny_setField_rec hz (by simp) fun g1 z1 e1=>?_)))))
 replace z1:IsZip g1 z TI TO .ellipsis:=z1
 refine wpAny_bind ?_
 simp only [List.zipIdx_cons,List.zipIdx_nil,List.forIn_cons,List.forIn_nil]
 refine wpAny_bind (wpAny_bind (wpAny_onRaise ?_))
 show wpAny _ _ (Builtin.SmallTypes.nextOf (.ref i1) >>= _) _ _ _
 have st1':=D1.keep _ _ _ st1 fun o e=>e1.extBut _ _ Z.a3 e
 have h1':=D1.src _ _ _ h1 fun o e=>e1.extBut _ _ Z.b1 e
 cases hx:xs[k]? with
 | none =>
  refine wpAny_bind (D1.done _ k _ xs _ _ hh st1' h1' hx fun g2 e e2 ⟨oe,hoe,hce⟩=>?_)
  have z2:IsZip g2 z TI TO .ellipsis:=e2 _ _ Z.a3.symm z1
  have ne:e≠z:=fun q=>by subst q; rw [z2] at hoe; cases hoe; simp at hce
  exact wpAny_setField_rec z2 (by simp) fun g3 _ e3=>hE g3 e s.toks (fun c o c1 _ c3 _ q=>e3.extBut _ _ c1 (e2 _ _ c3 (e1.extBut _ _ c1 q))) ⟨oe,e3.extBut _ _ ne hoe,hce⟩
 | some x =>
  have hy:ys[k]? = none:=hend.elim (fun q=>by rw [hx] at q; cases q) id
  refine wpAny_bind (D1.item _ k _ xs x _ _ st1' h1' hx fun x' g2 tk2 lx s12 e2=>wpAny_pure ?_)
  have t2:IsPair g2 TO a b:=e2.extBut _ _ Z.a8 (e1.extBut _ _ Z.a2 hTO)
  refine wpAny_bind (wpAny_seqItems t2 rfl (wpAny_bind (wpAny_updateSeq_pair t2 fun g3 t3 e3=>?_)))
  refine wpAny_bind (wpAny_letGo (wpAny_pure (wpAny_bind (wpAny_bind (wpAny_onRaise ?_)))))
  show wpAny _ _ (Builtin.SmallTypes.nextOf (.ref i2) >>= _) _ _ _
  have up3:∀ c o,c≠z->c≠TO->c≠i1->s.heap.get? c=some o->g3.get? c=some o:=fun c o c1 c2 c3 e=>e3.extBut _ _ c2 (e2.extBut _ _ c3 (e1.extBut _ _ c1 e))
  refine wpAny_bind (D2.done _ k _ ys _ _ hh (D2.keep _ _ _ st2 fun o e=>up3 _ _ Z.a4 Z.a9.symm Z.a10.symm e) (D2.src _ _ _ h2 fun o e=>up3 _ _ Z.b5 Z.b6 Z.b7 e) hy fun g4 e e4 ⟨oe,hoe,hce⟩=>?_)
  have z4:IsZip g4 z TI TO .ellipsis:=e4 _ _ Z.a4.symm (e3.extBut _ _ Z.a2.symm (e2.extBut _ _ Z.a3.symm z1))
  have ne:e≠z:=fun q=>by subst q; rw [z4] at hoe; cases hoe; simp at hce
  exact wpAny_setField_rec z4 (by simp) fun g5 _ e5=>hE g5 e _ (fun c o c1 c2 c3 c4 q=>e5.extBut _ _ c1 (e4 _ _ c4 (up3 c o c1 c2 c3 q))) ⟨oe,e5.extBut _ _ ne hoe,hce⟩
end
structure SqK (sq:PySem.W.Frag->Hp->Addr->List V->Prop) (Hs:Addr->Heap->List Value->Prop):Prop where
 get:∀ {X:Cx}{pins:List (Addr×Obj)}{σ:St}{H:Hp}{s:Shared}{l:Addr}{xs:List V},Inv X pins σ H s->sq X.K H l xs->∃ its,Vals xs its/\Hs l s.heap its
 inj:∀ {X:Cx}{pins:List (Addr×Obj)}{σ:St}{H:Hp}{s:Shared}{l:Addr}{xs ys:List V},Inv X pins σ H s->sq X.K H l xs->sq X.K H l ys->xs=ys
theorem Zra:SqK SqL (fun l h its=>h.IsList l its.toArray):=⟨fun I h=>let ⟨its,r,p,_⟩:=I.list h; ⟨its,r,p.isList⟩,fun I h h'=>I.list_inj h h'⟩
theorem Zst:SqK SqT (fun l h its=>h.IsTuple l its.toArray):=⟨fun I h=>let ⟨its,r,p,_⟩:=I.tuple h; ⟨its,r,p⟩,fun I h h'=>I.tuple_inj h h'⟩
def Itz (sq:PySem.W.Frag->Hp->Addr->List V->Prop) (K:PySem.W.Frag) (l1 l2:Addr):It :=
 ⟨fun i H=>∃ xs ys,sq K H l1 xs/\sq K H l2 ys/\i < xs.length/\i < ys.length,fun i H v H'=>∃ p a b,v = .ref p/\H p=none/\H'=upd H p (.tup [a,b])/\∀ xs ys,sq K H l1 xs->sq K H l2 ys->xs[i]? = some a/\ys[i]? = some b,
  fun i H=>∃ xs ys,sq K H l1 xs/\sq K H l2 ys/\(xs.length<=i\/ys.length<=i)⟩
theorem Zee {P:Program}{w:World}{K:PySem.W.Frag}{elts:List Expr}{ek:Nat}{epos:Pos}{sq:PySem.W.Frag->Hp->Addr->List V->Prop}{Hs:Addr->Heap->List Value->Prop}{z TI TO i1 i2 l1 l2:Addr}{S1 S2:Nat->Heap->Prop}
  (SK:SqK sq Hs) (Z:ZA z TI TO i1 i2 l1 l2) (D1:Drw P w i1 l1 S1 (Hs l1)) (D2:Drw P w i2 l2 S2 (Hs l2)) :
  Turn P w K (.Tuple elts ek epos) (Itz sq K l1 l2) [z,TI,TO,i1,i2] z (fun i h=>IsZip h z TI TO .none/\IsPair h TI (.ref i1) (.ref i2)/\(∃ a b,IsPair h TO a b)/\S1 i h/\S2 i h) where
 mem:=by simp
 obj:=fun i h st b hb=>by
  obtain ⟨hz,hTI,⟨a,c,hTO⟩,s1,s2⟩:=st
  simp only [List.mem_cons,List.not_mem_nil,or_false] at hb
  rcases hb with rfl | rfl | rfl | rfl | rfl
  ·exact ⟨_,hz,fun v q=>by cases q⟩
  ·exact ⟨_,hTI,fun v q=>by cases q⟩
  ·exact ⟨_,hTO,fun v q=>by cases q⟩
  ·exact D1.obj _ _ s1
  ·exact D2.obj _ _ s2
 keep:=fun i h h' st k=>by
  obtain ⟨hz,hTI,⟨a,c,hTO⟩,s1,s2⟩:=st
  exact ⟨k z (by simp) _ hz,k TI (by simp) _ hTI,⟨a,c,k TO (by simp) _ hTO⟩,D1.keep _ _ _ s1 fun o e=>k i1 (by simp) o e,D2.keep _ _ _ s2 fun o e=>k i2 (by simp) o e⟩
 item:=by
  intro X hP hw hK hc i pins s σ H E I hf st hg
  subst hP hw hK
  obtain ⟨hz,hTI,⟨a,b,hTO⟩,s1,s2⟩:=st
  obtain ⟨xs,ys,q1,q2,hx,hy⟩:=hg
  obtain ⟨its1,r1,w1⟩:=SK.get I q1
  obtain ⟨its2,r2,w2⟩:=SK.get I q2
  have gx:xs[i]? = some xs[i]:=List.getElem?_eq_getElem hx
  have gy:ys[i]? = some ys[i]:=List.getElem?_eq_getElem hy
  obtain ⟨u1,hu1,ru1⟩:=r1.get gx
  obtain ⟨u2,hu2,ru2⟩:=r2.get gy
  have hT:s.TypeIs (.ref z) "zip" := ⟨_,hz,rfl⟩
  unfold pyNext
  refine wpAny_bind (wpAny_attempt (wpAny_callSpecial?_slot (name:=Str.ofString "__next__") hT F.slot_zip_next (wpAny_call_entry F.slot_zip_next hT F.entry_zip_next
   (Zpt Z D1 D2 hz hTI hTO s1 s2 w1 w2 hu1 hu2 fun u1' u2' h' tk l1' l2' z1 t1 n1 n2 p1 kp=>wpAny_pure ?_) (F.args_zip_next_1 _))))
  refine ⟨_,rfl,?_⟩
  have nfp:∀ c,c ∈ [z,TO,i1,i2]->c ∈ [z,TI,TO,i1,i2]:=fun c hc=>by
   simp only [List.mem_cons,List.not_mem_nil,or_false] at hc ⊢
   rcases hc with q | q | q | q
   ·exact .inl q
   ·exact .inr (.inr (.inl q))
   ·exact .inr (.inr (.inr (.inl q)))
   ·exact .inr (.inr (.inr (.inr q)))
  have kp':∀ c o,c ∉ [z,TO,i1,i2]->s.heap.get? c=some o->h'.get? c=some o:=fun c o hc e=>kp c o (fun q=>hc (by simp [q])) (fun q=>hc (by simp [q])) (fun q=>hc (by simp [q])) (fun q=>hc (by simp [q])) e
  have hp:H s.heap.objs.size=none:=I.hok.fresh (Nat.le_refl _)
  have ltp:∀ c o,s.heap.get? c=some o->c≠s.heap.objs.size:=fun c o e=>Nat.ne_of_lt (Heap.lt_size e)
  have ntr:∀ c u,H c=some u->c ∉ [z,TO,i1,i2]:=fun c u e hc=>by
   have:=(hf c (nfp c hc)).1
   rw [this] at e; cases e
  have there4:∀ c,c ∈ [z,TO,i1,i2]->∃ o',h'.get? c=some o':=fun c hc=>by
   simp only [List.mem_cons,List.not_mem_nil,or_false] at hc
   rcases hc with rfl | rfl | rfl | rfl
   ·exact ⟨_,z1⟩
   ·exact ⟨_,t1⟩
   ·obtain ⟨o,e,_⟩:=D1.obj _ _ n1; exact ⟨o,e⟩
   ·obtain ⟨o,e,_⟩:=D2.obj _ _ n2; exact ⟨o,e⟩
  have I1:Inv X pins σ (upd H s.heap.objs.size (.tup [xs[i],ys[i]])) {s with heap:=h',toks:=tk }:=by
   refine I.step (g':=s.gens) (d':=s.drawn) (t':=tk) (ch:=[z,TO,i1,i2]) (fun c hc=>?_) (fun c o _ _ hc e _=>kp' c o hc e) (fun c o _ _ hc e _=>⟨o.slots,kp' c o hc e⟩) (fun c o hc e n=>by rw [Zt (ltp c o e)]; exact n)
    (fun c o hc e=>⟨o,kp' c o hc e⟩) (fun c us e=>by rw [Zt (Yg e hp)]; exact e) (fun c o u e=>by rw [Zt (Yg e hp)]; exact e) (fun c ps e=>⟨#[],by rw [Zt (Yg e hp),e]; simp⟩) (fun m hm=>?_) ?_ I.bare
   ·obtain ⟨f0,f1,f2,f3,f4,f5⟩:=hf c (nfp c hc)
    exact ⟨f3,f1,f4,f5⟩
   ·refine hm.at fun o e=>kp' _ o (fun hc=>?_) e
    exact (hf _ (nfp _ hc)).2.1 rfl
   ·intro c u e
    by_cases hcp:c=s.heap.objs.size
    ·subst hcp
     rw [Zg] at e
     cases e
     exact ⟨by show 2<=sizeLine; decide,[u1',u2'],.cons (l1'.rel ru1) (.cons (l2'.rel ru2) .nil),⟨_,p1,rfl,_,rfl⟩⟩
    ·rw [Zt hcp] at e
     refine (I.hok c u e).stay (fun d v hd q=>kp' d v ?_ q) (fun d q=>by rw [Zt (Yg q hp)]; exact q) fun d us q=>by rw [Zt (Yg q hp)]; exact q
     rcases hd with rfl | hd
     ·exact ntr _ u e
     ·exact ntr _ _ hd
  refine wpAny_letOwnedTupleGo_zip (s:={s with heap:=h',toks:=tk }) z1 fun h2 z2 e2=>?_
  obtain ⟨f0,f1,f2,f3,f4,f5⟩:=hf z (by simp)
  have nz:z≠s.heap.objs.size:=ltp z _ hz
  have I2:Inv X pins σ (upd H s.heap.objs.size (.tup [xs[i],ys[i]])) {s with heap:=h2,toks:=tk }:=I1.turned (s:={s with heap:=h',toks:=tk }) (it:=z) (t':=tk) (fun c o hc e=>(e2.2 c hc).trans e) (by rw [Zt nz]; exact f0) f1 f3 f4 f5
  refine ⟨.ref s.heap.objs.size,_,I2,rfl,⟨s.heap.objs.size,xs[i],ys[i],rfl,hp,rfl,fun xs' ys' q1' q2'=>?_⟩,⟨z2,(e2.2 _ Z.a1).trans (kp' TI _ (fun hc=>?_) hTI),⟨_,_,(e2.2 _ Z.a2).trans t1⟩,D1.keep _ _ _ n1 fun o e=>(e2.2 _ Z.a3).trans e,D2.keep _ _ _ n2 fun o e=>(e2.2 _ Z.a4).trans e⟩,fun c hc=>?_⟩
  ·rw [SK.inj I q1' q1,SK.inj I q2' q2]
   exact ⟨gx,gy⟩
  ·simp only [List.mem_cons,List.not_mem_nil,or_false] at hc
   rcases hc with q | q | q | q
   ·exact Z.a1 q
   ·exact Z.a5 q
   ·exact Z.a6 q
   ·exact Z.a7 q
  ·obtain ⟨o,ho⟩:∃ o,s.heap.get? c=some o:=by
    simp only [List.mem_cons,List.not_mem_nil,or_false] at hc
    rcases hc with rfl | rfl | rfl | rfl | rfl
    ·exact ⟨_,hz⟩
    ·exact ⟨_,hTI⟩
    ·exact ⟨_,hTO⟩
    ·obtain ⟨o,e,_⟩:=D1.obj _ _ s1; exact ⟨o,e⟩
    ·obtain ⟨o,e,_⟩:=D2.obj _ _ s2; exact ⟨o,e⟩
   rw [Zt (ltp c o ho)]
   exact (hf c hc).1
 done:=by
  intro X hP hw hK hc i pins s σ H E I hf st hg
  subst hP hw hK
  obtain ⟨hz,hTI,⟨a,b,hTO⟩,s1,s2⟩:=st
  obtain ⟨xs,ys,q1,q2,hend⟩:=hg
  obtain ⟨its1,r1,w1⟩:=SK.get I q1
  obtain ⟨its2,r2,w2⟩:=SK.get I q2
  have hT:s.TypeIs (.ref z) "zip" := ⟨_,hz,rfl⟩
  have hend':its1[i]? = none\/its2[i]? = none:=by
   have e1:=r1.length
   have e2:=r2.length
   rcases hend with q | q
   ·exact .inl (List.getElem?_eq_none (by lia))
   ·exact .inr (List.getElem?_eq_none (by lia))
  unfold pyNext
  refine wpAny_bind (wpAny_attempt (wpAny_callSpecial?_slot (name:=Str.ofString "__next__") hT F.slot_zip_next (wpAny_call_entry F.slot_zip_next hT F.entry_zip_next (Zqz (I.ok.hd hc) Z D1 D2 hz hTI hTO s1 s2 w1 w2 hend' fun h' e tk kp ⟨o,ho,hcl⟩=>?_) (F.args_zip_next_1 _))))
  refine wpAny_bind (wpAny_isInstance (T := "StopIteration") (b:=true) ⟨o,ho,hcl⟩ isSubtype_stop (wpAny_pure ⟨rfl,?_⟩))
  have nfp:∀ c,c ∈ [z,TO,i1,i2]->c ∈ [z,TI,TO,i1,i2]:=fun c hc=>by
   simp only [List.mem_cons,List.not_mem_nil,or_false] at hc ⊢
   rcases hc with q | q | q | q
   ·exact .inl q
   ·exact .inr (.inr (.inl q))
   ·exact .inr (.inr (.inr (.inl q)))
   ·exact .inr (.inr (.inr (.inr q)))
  have kp':∀ c o,c ∉ [z,TO,i1,i2]->s.heap.get? c=some o->h'.get? c=some o:=fun c o hc e=>kp c o (fun q=>hc (by simp [q])) (fun q=>hc (by simp [q])) (fun q=>hc (by simp [q])) (fun q=>hc (by simp [q])) e
  have ntr:∀ c u,H c=some u->c ∉ [z,TO,i1,i2]:=fun c u e hc=>by
   have:=(hf c (nfp c hc)).1
   rw [this] at e; cases e
  refine I.step (g':=s.gens) (d':=s.drawn) (t':=tk) (ch:=[z,TO,i1,i2]) (fun c hc=>?_) (fun c o _ _ hc e _=>kp' c o hc e) (fun c o _ _ hc e _=>⟨o.slots,kp' c o hc e⟩) (fun c o hc e n=>n)
   (fun c o hc e=>⟨o,kp' c o hc e⟩) (fun c us e=>e) (fun c o u e=>e) (fun c ps e=>⟨#[],by rw [e]; simp⟩) (fun m hm=>?_) ?_ I.bare
  ·obtain ⟨f0,f1,f2,f3,f4,f5⟩:=hf c (nfp c hc)
   exact ⟨f3,f1,f4,f5⟩
  ·refine hm.at fun o e=>kp' _ o (fun hc=>?_) e
   exact (hf _ (nfp _ hc)).2.1 rfl
  ·intro c u e
   refine (I.hok c u e).stay (fun d v hd q=>kp' d v ?_ q) (fun d q=>q) fun d us q=>q
   rcases hd with rfl | hd
   ·exact ntr _ u e
   ·exact ntr _ _ hd
 self:=fun A i s Q E st h=>wpAny_pyIter_zip st.1 h
abbrev tzA (h:Heap) (t1:Addr):Heap:=h.push {cls:=.type "tuple_iterator", data:=.fields #[.ref t1,.int 0 0] }
abbrev tzB (h:Heap) (t1 t2:Addr):Heap:=(tzA h t1).push {cls:=.type "tuple_iterator", data:=.fields #[.ref t2,.int 0 0] }
abbrev tzC (h:Heap) (t1 t2:Addr):Heap:=(tzB h t1 t2).push {cls:=.type "tuple", data:=.seq #[.ref h.objs.size,.ref (tzA h t1).objs.size] }
abbrev tzD (h:Heap) (t1 t2:Addr):Heap:=(tzC h t1 t2).push {cls:=.type "tuple", data:=.seq #[.none,.none] }
abbrev tzE (h:Heap) (t1 t2:Addr):Heap:=(tzD h t1 t2).push {cls:=.type "zip", data:=.fields #[.none,.bool false,.bool false,.ref (tzB h t1 t2).objs.size,.ref (tzC h t1 t2).objs.size] }
theorem Zo3 (l1 l2:Addr) (xs ys:Array Value):Meets (Builtin.«zip.__new__» ⟨[.type "zip", .ref l1,.ref l2],[]⟩) (fun _ R s=>s.heap.IsTuple l1 xs/\s.heap.IsTuple l2 ys/\R (.ok (.ret (.ref (tzD s.heap l1 l2).objs.size))) {s with heap:=tzE s.heap l1 l2 }) :=
 .of_wp fun prog w A R s h=>by
  obtain ⟨hp,g,d,tk,os⟩:=s; obtain ⟨hl1,hl2,h⟩:=h
  have hsub:=sub_zip
  have hL1:Heap.IsTuple (Shared.heap ⟨hp,g,d,tk,os⟩) l1 xs:=hl1
  have hL2:Heap.IsTuple (Shared.heap ⟨tzA hp l1,g,d,tk,os⟩) l2 ys:=let ⟨o,e,r⟩:=hl2; ⟨o,Heap.get?_push_of_some _ e,r⟩
  wp_walk using wpAny_pyIter_tuple hL1,wpAny_pyIter_tuple hL2
  exact ⟨_,rfl,h⟩
section
variable {P:Program}{w:World}{A:Around}{E:Value->Shared->Prop}{s:Shared}
theorem Zpu {l1 l2:Addr}{xs ys:Array Value}{Q:Value->Shared->Prop}(hl1:s.heap.IsTuple l1 xs) (hl2:s.heap.IsTuple l2 ys)
  (h:∀ h',IsZip h' (s.heap.objs.size+4) (s.heap.objs.size+2) (s.heap.objs.size+3) .none->IsPair h' (s.heap.objs.size+2) (.ref s.heap.objs.size) (.ref (s.heap.objs.size+1)) ->
   IsPair h' (s.heap.objs.size+3) .none .none->h'.IsTupleIter s.heap.objs.size l1 0->h'.IsTupleIter (s.heap.objs.size+1) l2 0 ->
   (∀ c o,s.heap.get? c=some o->h'.get? c=some o)->Q (.ref (s.heap.objs.size+4)) {s with heap:=h' }):wpAny (model P w) A (call (.type "zip") [.ref l1,.ref l2]) Q E s:=by
 refine callType_new F.called_zip (by decide) (F.typeCall_zip_2 _ _) (F.newCall_zip_2 _ _) (fun obj=>F.args_object_init_3 obj _ _) F.entry_zip_new (Zo3 l1 l2 xs ys) ⟨hl1,hl2,?_⟩
 have n1:(tzA s.heap l1).objs.size=s.heap.objs.size+1:=Heap.size_push ..
 have n2:(tzB s.heap l1 l2).objs.size=s.heap.objs.size+2:=by rw [Heap.size_push,n1]
 have n3:(tzC s.heap l1 l2).objs.size=s.heap.objs.size+3:=by rw [Heap.size_push,n2]
 have n4:(tzD s.heap l1 l2).objs.size=s.heap.objs.size+4:=by rw [Heap.size_push,n3]
 have q5:(tzE s.heap l1 l2).get? (tzD s.heap l1 l2).objs.size=some _:=Heap.get?_push_size _ rfl
 have q4:(tzE s.heap l1 l2).get? (tzC s.heap l1 l2).objs.size=some _:=Heap.get?_push_of_some _ (Heap.get?_push_size _ rfl)
 have q3:(tzE s.heap l1 l2).get? (tzB s.heap l1 l2).objs.size=some _:=Heap.get?_push_of_some _ (Heap.get?_push_of_some _ (Heap.get?_push_size _ rfl))
 have q2:(tzE s.heap l1 l2).get? (tzA s.heap l1).objs.size=some _:=Heap.get?_push_of_some _ (Heap.get?_push_of_some _ (Heap.get?_push_of_some _ (Heap.get?_push_size _ rfl)))
 have q1:(tzE s.heap l1 l2).get? s.heap.objs.size=some _:=Heap.get?_push_of_some _ (Heap.get?_push_of_some _ (Heap.get?_push_of_some _ (Heap.get?_push_of_some _ (Heap.get?_push_size _ rfl))))
 show _/\_
 rw [n2,n3,n4] at q5
 rw [n1,n2] at q3
 rw [n3] at q4
 rw [n1] at q2
 rw [n4]
 exact ⟨⟨_,q5,rfl⟩,h _ q5 q3 q4 ⟨_,q1,rfl,rfl⟩ ⟨_,q2,rfl,rfl⟩ fun c o x=>Heap.get?_push_of_some _ (Heap.get?_push_of_some _ (Heap.get?_push_of_some _ (Heap.get?_push_of_some _ (Heap.get?_push_of_some _ x))))⟩
end
theorem Zll {n l1 l2:Addr}(h1:l1 < n) (h2:l2 < n):ZA (n+4) (n+2) (n+3) n (n+1) l1 l2:=by
 have h1 : @LT.lt Nat _ l1 n:=h1
 have h2 : @LT.lt Nat _ l2 n:=h2
 have key:∀ (a b:Nat),(a < b\/b < a)->¬ (@Eq Nat a b):=fun a b h q=>by lia
 exact ⟨key _ _ (by lia),key _ _ (by lia),key _ _ (by lia),key _ _ (by lia),key _ _ (by lia),key _ _ (by lia),key _ _ (by lia),key _ _ (by lia),key _ _ (by lia),key _ _ (by lia),
  key _ _ (by lia),key _ _ (by lia),key _ _ (by lia),key _ _ (by lia),key _ _ (by lia),key _ _ (by lia),key _ _ (by lia),key _ _ (by lia)⟩
def Zmz (K:PySem.W.Frag) (ta:TA):TI:=fun σ H R=>ta σ H fun vs H1=>∃ l1 l2,vs = [.ref l1,.ref l2] /\
 ((∃ xs ys,SqL K H1 l1 xs/\SqL K H1 l2 ys/\R (Itz SqL K l1 l2) H1)\/(∃ xs ys,SqT K H1 l1 xs/\SqT K H1 l2 ys/\R (Itz SqT K l1 l2) H1))
theorem Zuq {X:Cx}{a b:Expr}{ta:TA}{p pos:Pos}{elts:List Expr}{ek:Nat}{epos:Pos}(hg:Gl X "zip") (hm:X.mg "zip" = none) (ha:PA X [a,b] ta) (hs:starEach [a,b] X.env = [(false,eval a X.env),(false,eval b X.env)]:=by rfl) (hs2:starEach [b] X.env = [(false,eval b X.env)]:=by rfl) :
  PI X (.Tuple elts ek epos) (.Call (.Name "zip" p) [a,b] [] pos) (Zmz X.K ta):=by
 intro pins s σ H R I h
 refine Call_ (Ud I hg hm boot_zip (PyProof.Rows.callWith_type1 (thn (ha pos pins s σ H _ I h) fun us s1 ⟨vs,H1,I1,r1,q1⟩=>?_) (by rw [hs,hs2]) (by rw [hs2]; rfl)))
 obtain ⟨l1,l2,e,q1⟩:=q1
 subst e
 obtain ⟨u1,u2,rfl,ru1,ru2⟩:=Zc1 r1
 cases ru1
 cases ru2
 have fin:∀ {sq:PySem.W.Frag->Hp->Addr->List V->Prop}{Hs:Addr->Heap->List Value->Prop}{S1 S2:Nat->Heap->Prop}{h':Heap},SqK sq Hs->l1 < s1.heap.objs.size->l2 < s1.heap.objs.size->Drw X.prog X.w s1.heap.objs.size l1 S1 (Hs l1)->Drw X.prog X.w (s1.heap.objs.size+1) l2 S2 (Hs l2) ->
   IsZip h' (s1.heap.objs.size+4) (s1.heap.objs.size+2) (s1.heap.objs.size+3) .none->IsPair h' (s1.heap.objs.size+2) (.ref s1.heap.objs.size) (.ref (s1.heap.objs.size+1))->IsPair h' (s1.heap.objs.size+3) .none .none->S1 0 h'->S2 0 h'->(∀ c o,s1.heap.get? c=some o->h'.get? c=some o)->R (Itz sq X.K l1 l2) H1 ->
   wpAny (model X.prog X.w) X.A (pyIter (.ref (s1.heap.objs.size+4))) (PIE X pins σ (.Tuple elts ek epos) R) X.xe {s1 with heap:=h' }:=by
  intro sq Hs S1 S2 h' SK b1 b2 D1 D2 z0 t1 t0 st1 st2 kp q
  refine wpAny_pyIter_zip z0 ?_
  refine ⟨s1.heap.objs.size+4,_,_,_,H1,rfl,I1.kept (h':=h') (t':=s1.toks) kp,Zee SK (Zll b1 b2) D1 D2,⟨z0,t1,⟨_,_,t0⟩,st1,st2⟩,fun c hc=>?_,q⟩
  have hle:s1.heap.objs.size<=c:=by
   simp only [List.mem_cons,List.not_mem_nil,or_false] at hc
   have:(s1.heap.objs.size:Nat)<=(c:Nat):=by rcases hc with rfl | rfl | rfl | rfl | rfl <;> lia
   exact this
  exact I1.fpOk hle (I1.hok.fresh hle)
 rcases q1 with ⟨xs,ys,h1,h2,q⟩ | ⟨xs,ys,h1,h2,q⟩
 ·obtain ⟨its1,r1,p1,_⟩:=I1.list h1
  obtain ⟨its2,r2,p2,_⟩:=I1.list h2
  have b1:l1 < s1.heap.objs.size:=by obtain ⟨o,n,e,_⟩:=p1; exact Heap.lt_size e
  have b2:l2 < s1.heap.objs.size:=by obtain ⟨o,n,e,_⟩:=p2; exact Heap.lt_size e
  exact call_zip_2 p1.isList p2.isList fun h' z0 t1 t0 st1 st2 _ kp=>fin Zra b1 b2 (Zb9 _ _) (Zb9 _ _) z0 t1 t0 st1 st2 kp q
 ·obtain ⟨its1,r1,p1,_⟩:=I1.tuple h1
  obtain ⟨its2,r2,p2,_⟩:=I1.tuple h2
  have b1:l1 < s1.heap.objs.size:=by obtain ⟨o,e,_⟩:=p1; exact Heap.lt_size e
  have b2:l2 < s1.heap.objs.size:=by obtain ⟨o,e,_⟩:=p2; exact Heap.lt_size e
  exact Zpu p1 p2 fun h' z0 t1 t0 st1 st2 kp=>fin Zst b1 b2 (Zdx _ _) (Zdx _ _) z0 t1 t0 st1 st2 kp q
theorem Zur {X:Cx}{a b:Expr}{ta:TA}{p pos:Pos}{elts:List Expr}{ek:Nat}{epos:Pos}(hg:Gl X "zip") (hm:X.mg "zip" = none) (ha:QA X [a,b] ta) (hs:starEach [a,b] X.env = [(false,eval a X.env),(false,eval b X.env)]:=by rfl) (hs2:starEach [b] X.env = [(false,eval b X.env)]:=by rfl) :
  QI X (.Tuple elts ek epos) (.Call (.Name "zip" p) [a,b] [] pos) (Zmz X.K ta):=⟨Zuq hg hm ha.h hs hs2⟩
theorem Ziu {sq:PySem.W.Frag->Hp->Addr->List V->Prop}{K:PySem.W.Frag}{l1 l2:Addr}{g:TG}{tb:TS}{D:Ends}{σ:St}{H:Hp}(xs ys:List V) (hxy:xs.length=ys.length) (Pv:Nat->St->Hp->Prop) (h0:Pv 0 σ H) (hl:∀ i σ H,i<=xs.length->Pv i σ H->sq K H l1 xs/\sq K H l2 ys)
  (hs:∀ i x y p σ H,xs[i]? = some x->ys[i]? = some y->Pv i σ H->H p=none->g (.ref p) σ (upd H p (.tup [x,y])) fun σ2 H2=>tb {D with nx:=Pv (i+1),ct:=Pv (i+1),bk:=D.nx } σ2 H2) (hd:∀ σ H,Pv xs.length σ H->D.nx σ H):Uf (Itz sq K l1 l2) g tb D σ H:=by
 refine ⟨fun i m σ H=>m=xs.length - i/\i<=xs.length/\Pv i σ H,⟨xs.length,by simp,Nat.zero_le _,h0⟩,?_⟩
 rintro i m σ H ⟨rfl,hi,p⟩
 obtain ⟨q1,q2⟩:=hl i σ H hi p
 by_cases hlt:i < xs.length
 ·refine .inr ⟨⟨xs,ys,q1,q2,hlt,by lia⟩,Pv (i+1),fun σ' H' p'=>⟨xs.length - (i+1),by lia,rfl,hlt,p'⟩,fun v H' y=>?_⟩
  obtain ⟨pp,a,b,rfl,hp,rfl,hv⟩:=y
  obtain ⟨e1,e2⟩:=hv xs ys q1 q2
  exact hs i a b pp σ H e1 e2 p hp
 ·have e:i=xs.length:=by lia
  subst e
  exact .inl ⟨⟨xs,ys,q1,q2,.inl (Nat.le_refl _)⟩,hd σ H p⟩
end L2
end
section
set_option Elab.async false
set_option linter.all false
set_option maxRecDepth 100000
set_option maxHeartbeats 4000000
namespace L2
open PySem PySem.Spec PyProof.Rows
inductive D where
 | non | bl (b:Bool) | int (i:Int) | str (x:Str) | tup (xs:List D) | lst (xs:List D)
mutual
def Rep (H:Hp):D->V->Prop
 | .non,v=>v = .non
 | .bl b,v=>v = .bl b
 | .int i,v=>v = .int i
 | .str x,v=>v = .str x
 | .tup ds,v=>∃ a vs,v = .ref a/\H a=some (.tup vs)/\RepL H ds vs
 | .lst ds,v=>∃ a vs,v = .ref a/\H a=some (.lst vs)/\RepL H ds vs
def RepL (H:Hp):List D->List V->Prop
 | [],vs=>vs = []
 | d::ds,vs=>∃ v r,vs=v::r/\Rep H d v/\RepL H ds r
end
mutual
theorem Rep.mono {H H':Hp}(k:Same H H'):∀ (d:D) (v:V),Rep H d v->Rep H' d v
 | .non,v,h=>h
 | .bl b,v,h=>h
 | .int i,v,h=>h
 | .str x,v,h=>h
 | .tup ds,v,h=>by
  obtain ⟨a,vs,e,h1,h2⟩:=h
  exact ⟨a,vs,e,k _ _ h1,RepL.mono k ds vs h2⟩
 | .lst ds,v,h=>by
  obtain ⟨a,vs,e,h1,h2⟩:=h
  exact ⟨a,vs,e,k _ _ h1,RepL.mono k ds vs h2⟩
theorem RepL.mono {H H':Hp}(k:Same H H'):∀ (ds:List D) (vs:List V),RepL H ds vs->RepL H' ds vs
 | [],vs,h=>h
 | d::ds,vs,h=>by
  obtain ⟨v,r,e,h1,h2⟩:=h
  exact ⟨v,r,e,Rep.mono k d v h1,RepL.mono k ds r h2⟩
end
theorem RepL.length {H:Hp}:∀ {ds:List D}{vs:List V},RepL H ds vs->vs.length=ds.length
 | [],vs,h=>by cases h; rfl
 | d::ds,vs,h=>by
  obtain ⟨v,r,rfl,h1,h2⟩:=h
  rw [List.length_cons,List.length_cons,RepL.length h2]
theorem RepL.get {H:Hp}:∀ {ds:List D}{vs:List V}{i:Nat}{v:V},RepL H ds vs->vs[i]? = some v->∃ d,ds[i]? = some d/\Rep H d v
 | [],vs,i,v,h,e=>by cases h; simp at e
 | d::ds,vs,i,v,h,e=>by
  obtain ⟨w,r,rfl,h1,h2⟩:=h
  cases i with
  | zero=>simp at e; subst e; exact ⟨d,rfl,h1⟩
  | succ i=>simp at e; exact RepL.get (i:=i) h2 e
mutual
def Yd:D->D->Bool
 | .non,.non=>true
 | .bl a,.bl b=>a == b
 | .int a,.int b=>a == b
 | .str a,.str b=>a == b
 | .tup a,.tup b=>Yy a b
 | .lst a,.lst b=>Yy a b
 | _,_=>false
def Yy:List D->List D->Bool
 | [],[]=>true
 | a::r,b::s=>Yd a b && Yy r s
 | _,_=>false
end
mutual
theorem Zh1:∀ d:D,Yd d d=true
 | .non=>rfl
 | .bl _=>by simp [Yd]
 | .int _=>by simp [Yd]
 | .str _=>by simp [Yd]
 | .tup ds=>by rw [Yd]; exact Zds ds
 | .lst ds=>by rw [Yd]; exact Zds ds
theorem Zds:∀ ds:List D,Yy ds ds=true
 | []=>rfl
 | d::ds=>by rw [Yy,Zh1 d,Zds ds]; rfl
end
mutual
def D.deep:D->Nat
 | .tup ds=>Y1 ds+1
 | .lst ds=>Y1 ds+1
 | _=>0
def Y1:List D->Nat
 | []=>0
 | d::ds=>max d.deep (Y1 ds)
end
theorem Zef:∀ {ds:List D}{i:Nat}{d:D},ds[i]? = some d->d.deep<=Y1 ds
 | [],i,d,h=>by simp at h
 | e::ds,0,d,h=>by simp at h; subst h; rw [Y1]; lia
 | e::ds,i+1,d,h=>by
  simp at h
  have:=Zef h
  rw [Y1]; lia
def isI:D->String->Bool
 | .non,_=>false
 | .bl _,c=>c == "bool" || c == "int"
 | .int _,c=>c == "int"
 | .str _,c=>c == "str"
 | .tup _,c=>c == "tuple"
 | .lst _,c=>c == "list"
def Zlm:List String:=["bool", "int", "str", "list", "tuple"]
theorem isi {K:PySem.W.Frag}{H:Hp}{d:D}{v:V}(r:Rep H d v) (c:String) (hc:c∈Zlm):∃ t,TyOf K H v t/\PySem.W.kitOne K t (.type c)=some (isI d c):=by
 unfold Zlm at hc
 simp only [List.mem_cons,List.not_mem_nil,or_false] at hc
 cases d with
 | non=>cases r; refine ⟨_,.non,?_⟩; rcases hc with rfl | rfl | rfl | rfl | rfl <;> rfl
 | bl b=>cases r; refine ⟨_,.bl b,?_⟩; rcases hc with rfl | rfl | rfl | rfl | rfl <;> rfl
 | int i=>cases r; refine ⟨_,.int i,?_⟩; rcases hc with rfl | rfl | rfl | rfl | rfl <;> rfl
 | str x=>cases r; refine ⟨_,.str x,?_⟩; rcases hc with rfl | rfl | rfl | rfl | rfl <;> rfl
 | tup ds=>obtain ⟨a,vs,rfl,h1,h2⟩:=r; refine ⟨_,.tup h1,?_⟩; rcases hc with rfl | rfl | rfl | rfl | rfl <;> rfl
 | lst ds=>obtain ⟨a,vs,rfl,h1,h2⟩:=r; refine ⟨_,.lst h1,?_⟩; rcases hc with rfl | rfl | rfl | rfl | rfl <;> rfl
theorem Rep.none_iff {H:Hp}{d:D}{v:V}(r:Rep H d v):decide (v = .non)=(match d with | .non=>true | _=>false):=by
 cases d with
 | non=>cases r; rfl
 | bl b=>cases r; rfl
 | int i=>cases r; rfl
 | str x=>cases r; rfl
 | tup ds=>obtain ⟨a,vs,rfl,h1,h2⟩:=r; rfl
 | lst ds=>obtain ⟨a,vs,rfl,h1,h2⟩:=r; rfl
theorem Zh2 {as bs:List D}:∀ {i:Nat}{a b:D},as[i]? = some a->bs[i]? = some b->Yy (as.take (i+1)) (bs.take (i+1))=(Yy (as.take i) (bs.take i) && Yd a b):=by
 induction as generalizing bs with
 | nil=>intro i a b h; simp at h
 | cons x as ih =>
  intro i a b h1 h2
  cases bs with
  | nil=>simp at h2
  | cons y bs =>
   cases i with
   | zero=>simp at h1 h2; subst h1; subst h2; simp [Yy]
   | succ i =>
    simp at h1 h2
    have:=ih h1 h2
    rw [List.take_succ_cons,List.take_succ_cons,Yy,this,List.take_succ_cons,List.take_succ_cons,Yy,Bool.and_assoc]
theorem Zhl {as bs:List D}(h:as.length≠bs.length):Yy as bs=false:=by
 induction as generalizing bs with
 | nil=>cases bs with
  | nil=>exact absurd rfl h
  | cons y bs=>rfl
 | cons x as ih=>cases bs with
  | nil=>rfl
  | cons y bs=>rw [Yy,ih (fun e=>h (by rw [List.length_cons,List.length_cons,e])),Bool.and_false]
theorem Zhn {as bs:List D}{i:Nat}{a b:D}(h1:as[i]? = some a) (h2:bs[i]? = some b) (h:Yd a b=false):Yy as bs=false:=by
 induction as generalizing bs i with
 | nil=>simp at h1
 | cons x as ih =>
  cases bs with
  | nil=>simp at h2
  | cons y bs =>
   cases i with
   | zero=>simp at h1 h2; subst h1; subst h2; rw [Yy,h,Bool.false_and]
   | succ i=>simp at h1 h2; rw [Yy,ih h1 h2,Bool.and_false]
end L2
namespace L2
theorem Rep.mono' {H H':Hp}{d:D}{v:V}(h:Rep H d v) (k:Same H H'):Rep H' d v:=Rep.mono k d v h
end L2
end
section
set_option Elab.async false
set_option linter.all false
set_option maxRecDepth 100000
set_option maxHeartbeats 4000000
namespace L2
open PySem PySem.Spec PyProof.Rows
section
variable {X:Cx}{tg:Expr}
end
section
variable {g:TG}{tb:TS}{D:Ends}{σ:St}{H:Hp}
end
section
variable {X:Cx}{o i value:Expr}{pos pos':Pos}{td ty tv:TE}
end
end L2
end
section
set_option Elab.async false
set_option linter.all false
set_option maxRecDepth 100000
set_option maxHeartbeats 4000000
namespace L2
open PySem PySem.Spec PyProof.Rows
section
variable {X:Cx}
end
end L2
end
section
set_option Elab.async false
set_option linter.all false
set_option maxRecDepth 100000
set_option maxHeartbeats 4000000
namespace L2
open PySem PySem.Spec PyProof.Rows
section
variable {X:Cx}
end
end L2
end
section
set_option Elab.async false
set_option linter.all false
set_option maxRecDepth 100000
set_option maxHeartbeats 4000000
namespace L2
open PySem PySem.Spec PyProof.Rows PySem.W
def W5 (cmp:Nat->Nat->(Bool->Shared->Prop)->Shared->Prop) (r:Nat->Nat) (N:Nat) (s:Shared):Prop:=∀ (i j:Nat) (C:Bool->Shared->Prop),i < N->j < N->C (decide (r i < r j)) s->cmp i j C s
def kp (r:Nat->Nat) (p:Array Nat) (i:Nat):Nat:=r (p.getD i 0)
def Pm (N:Nat) (p:Array Nat):Prop:=p.toList.Perm (List.range N)
def UpTo (r:Nat->Nat) (p:Array Nat) (m:Nat):Prop:=∀ i,i+1 < m->kp r p i<=kp r p (i+1)
def Uk (r:Nat->Nat) (p:Array Nat) (m:Nat):Prop:=∀ i,i+1 < m->kp r p (i+1)<=kp r p i
section
variable {s:Shared}{cmp:Nat->Nat->(Bool->Shared->Prop)->Shared->Prop}{r:Nat->Nat}{N:Nat}{p:Array Nat}
theorem Pm.size (h:Pm N p):p.size=N:=by
 have:=h.length_eq
 rw [List.length_range] at this
 simpa using this
theorem Pm.lt (h:Pm N p) {i:Nat}(hi:i < N):p.getD i 0 < N:=by
 have hs:i < p.size:=by rw [h.size]; exact hi
 have e:p.getD i 0=p[i]:=by simp [Array.getD,hs]
 have m:p[i]∈p.toList:=by simp
 rw [e]
 exact List.mem_range.mp (h.mem_iff.mp m)
theorem Pm.rev (h:Pm N p) (i j:Nat):Pm N (kas_rev p i j):=(Array.perm_iff_toList_perm.mp (mirror_perm p i j _)).trans h
theorem Pm.bub (h:Pm N p) (i d:Nat):Pm N (bubble p i d):=(Array.perm_iff_toList_perm.mp (bubble_perm p i d)).trans h
theorem Zbi {p q:Array Nat}{i j:Nat}(h:p[i]? = q[j]?):kp r p i=kp r q j:=by
 unfold kp
 rw [Array.getD_eq_getD_getElem?,Array.getD_eq_getD_getElem?,h]
theorem Ze9 (h:Pm N p) {i j k:Nat}(hj:j<=N):kp r (kas_rev p i j) k=if i<=k/\k < j then kp r p (i+j - 1 - k) else kp r p k:=by
 have e:=getElem?_mirror_all (xs:=p) (i:=i) (j:=j) (by rw [h.size]; exact hj) k
 by_cases c:i<=k/\k < j
 ·rw [if_pos c] at e ⊢; exact Zbi e
 ·rw [if_neg c] at e ⊢; exact Zbi e
theorem Zkg (h:Pm N p) {k l i:Nat}(hk:k < N) (hl:l<=k):kp r (bubble p k (k - l)) i=if i=l then kp r p k else if l < i/\i<=k then kp r p (i - 1) else kp r p i:=by
 have e:=getElem?_bubble (xs:=p) (src:=k) (by rw [h.size]; exact hk) (k - l) (by lia) i
 have x:k - (k - l)=l:=by lia
 rw [x] at e
 by_cases c:i=l
 ·rw [if_pos c] at e ⊢; exact Zbi e
 ·rw [if_neg c] at e ⊢
  by_cases d:l < i/\i<=k
  ·rw [if_pos d] at e ⊢; exact Zbi e
  ·rw [if_neg d] at e ⊢; exact Zbi e
theorem Zfa (hR:W5 cmp r N s) (hp:Pm N p) {Q:Nat->Shared->Prop}:∀ (f n:Nat),1<=n->n+f<=N->UpTo r p n->(∀ m,n<=m->m<=n+f->UpTo r p m->(m < n+f->kp r p m < kp r p (m - 1))->Q m s)->(kas_asc p f n).kasWp cmp Q s
 | 0,n,h1,h2,hu,k=>k n (Nat.le_refl _) (Nat.le_refl _) hu (fun z=>by lia)
 | f+1,n,h1,h2,hu,k=>by
  refine hR _ _ _ (hp.lt (by lia)) (hp.lt (by lia)) ?_
  by_cases c:r (p.getD n 0) < r (p.getD (n - 1) 0)
  ·rw [decide_eq_true c]
   exact k n (Nat.le_refl _) (by lia) hu fun _=>c
  ·rw [decide_eq_false c]
   refine Zfa hR hp f (n+1) (by lia) (by lia) (fun i hi=>?_) fun m a b u d=>k m (by lia) (by lia) u (fun z=>d (by lia))
   by_cases e:i+1 < n
   ·exact hu i e
   ·have:i=n - 1:=by lia
    subst this
    rw [show n - 1+1=n by lia]
    unfold kp
    lia
theorem Zdo (h:Pm N p) {a n k:Nat}(hn:n<=N) (he:∀ i,a<=i->i < n->kp r p i=kp r p (n - 1)):kp r (kas_rev p a n) k=kp r p k:=by
 rw [Ze9 h hn]
 by_cases c:a<=k/\k < n
 ·rw [if_pos c,he (a+n - 1 - k) (by lia) (by lia),he k c.1 c.2]
 ·rw [if_neg c]
theorem Zck (hR:W5 cmp r N s) {Q:Array Nat×Nat×Nat->Shared->Prop}:∀ (f:Nat) (p:Array Nat) (n q:Nat),Pm N p->1<=n->n+f<=N->q+1<=n->Uk r p n->(∀ k,n - (q+1)<=k->k < n->kp r p k=kp r p (n - 1)) ->
  (∀ (p':Array Nat) (m q':Nat),Pm N p'->n<=m->m<=n+f->q'+1<=m->Uk r p' m->(∀ k,m - (q'+1)<=k->k < m->kp r p' k=kp r p' (m - 1))->Q (p',m,q') s)->(kas_desc f p n q).kasWp cmp Q s
 | 0,p,n,q,hp,h1,h2,hq,hd,he,k=>k p n q hp (Nat.le_refl _) (Nat.le_refl _) hq hd he
 | f+1,p,n,q,hp,h1,h2,hq,hd,he,k=>by
  refine hR _ _ _ (hp.lt (by lia)) (hp.lt (by lia)) ?_
  by_cases c:r (p.getD n 0) < r (p.getD (n - 1) 0)
  ·rw [decide_eq_true c]
   have step:Uk r p (n+1):=fun i hi=>by
    by_cases e:i+1 < n
    ·exact hd i e
    ·have:i=n - 1:=by lia
     subst this
     rw [show n - 1+1=n by lia]
     unfold kp
     lia
   show (if true=true then (if q > 0 then kas_desc f (kas_rev p (n - (q+1)) n) (n+1) 0 else kas_desc f p (n+1) 0) else _).kasWp cmp Q s
   rw [if_pos rfl]
   by_cases z:q > 0
   ·rw [if_pos z]
    have same:∀ k,kp r (kas_rev p (n - (q+1)) n) k=kp r p k:=fun k=>Zdo hp (by lia) he
    refine Zck hR f _ (n+1) 0 (hp.rev _ _) (by lia) (by lia) (by lia) (fun i hi=>?_) (fun k a b=>?_) fun p' m q' a b c' d e g=>k p' m q' a (by lia) (by lia) d e g
    ·rw [same,same]; exact step i hi
    ·have:k=n+1 - 1:=by lia
     rw [this]
   ·rw [if_neg z]
    refine Zck hR f p (n+1) 0 hp (by lia) (by lia) (by lia) step (fun k a b=>?_) fun p' m q' a b c' d e g=>k p' m q' a (by lia) (by lia) d e g
    have:k=n+1 - 1:=by lia
    rw [this]
  ·rw [decide_eq_false c]
   show (if false=true then _ else KasT.ask (p.getD (n - 1) 0) (p.getD n 0) fun d=>if d=true then .ret (p,n,q) else kas_desc f p (n+1) (q+1)).kasWp cmp Q s
   rw [if_neg Bool.false_ne_true]
   refine hR _ _ _ (hp.lt (by lia)) (hp.lt (by lia)) ?_
   by_cases d:r (p.getD (n - 1) 0) < r (p.getD n 0)
   ·rw [decide_eq_true d]
    exact k p n q hp (Nat.le_refl _) (by lia) hq hd he
   ·rw [decide_eq_false d]
    have eq:kp r p n=kp r p (n - 1):=by unfold kp; lia
    refine Zck hR f p (n+1) (q+1) hp (by lia) (by lia) (by lia) (fun i hi=>?_) (fun k a b=>?_) fun p' m q' a b c' d e g=>k p' m q' a (by lia) (by lia) d e g
    ·by_cases e:i+1 < n
     ·exact hd i e
     ·have:i=n - 1:=by lia
      subst this
      rw [show n - 1+1=n by lia,eq]
      exact Nat.le_refl _
    ·rw [show n+1 - 1=n by lia,eq]
     by_cases e:k < n
     ·exact he k (by lia) e
     ·rw [show k=n by lia,eq]
theorem Zsu (h:Uk r p m):∀ (d i:Nat),i+d < m->kp r p (i+d)<=kp r p i
 | 0,i,_=>Nat.le_refl _
 | d+1,i,hi=>Nat.le_trans (h (i+d) (by lia)) (Zsu h d i (by lia))
theorem Zan (h:UpTo r p m):∀ (d i:Nat),i+d < m->kp r p i<=kp r p (i+d)
 | 0,i,_=>Nat.le_refl _
 | d+1,i,hi=>Nat.le_trans (Zan h d i (by lia)) (h (i+d) (by lia))
theorem Zus (h:Pm N p) {n:Nat}(hn:n<=N) (hd:Uk r p n):UpTo r (kas_rev p 0 n) n:=fun i hi=>by
 rw [Ze9 h hn,Ze9 h hn,if_pos (by lia),if_pos (by lia)]
 have:=hd (0+n - 1 - (i+1)) (by lia)
 rw [show 0+n - 1 - (i+1)+1=0+n - 1 - i by lia] at this
 exact this
def Zgr (r:Nat->Nat) (N:Nat) (Q:Nat×Array Nat->Shared->Prop) (s:Shared):Prop:=∀ (m:Nat) (p:Array Nat),1<=m->m<=N->Pm N p->UpTo r p m->Q (m,p) s
theorem Zjj (hR:W5 cmp r N s) (h:Pm N p) {Q:Nat×Array Nat->Shared->Prop}(k:Zgr r N Q s) {n:Nat}(h1 : 1<=n) (hn:n<=N) (hd:Uk r p n):(kas_tail3 n N p).kasWp cmp Q s:=by
 unfold kas_tail3
 rw [KasT.kasWp_bind]
 exact Zfa hR (h.rev 0 n) (N - n) n h1 (by lia) (Zus h hn hd) fun m a b u _=>k m _ (by lia) (by lia) (h.rev 0 n) u
theorem Zjk (hR:W5 cmp r N s) (h:Pm N p) {Q:Nat×Array Nat->Shared->Prop}(k:Zgr r N Q s) {n:Nat}(hn:n+1<=N) (hd:Uk r p (n+1)):(kas_descPart n N p).kasWp cmp Q s:=by
 unfold kas_descPart
 rw [KasT.kasWp_bind]
 refine Zck hR (N - (n+1)) p (n+1) 0 h (by lia) (by lia) (by lia) hd (fun k a b=>by rw [show k=n+1 - 1 by lia]) fun p' m q' a b c d e g=>?_
 dsimp only
 by_cases z:q' > 0
 ·rw [if_pos z]
  have same:∀ k,kp r (kas_rev p' (m - (q'+1)) m) k=kp r p' k:=fun k=>Zdo a (by lia) g
  exact Zjj hR (a.rev _ _) k (by lia) (by lia) fun i hi=>by rw [same,same]; exact e i hi
 ·rw [if_neg z]
  exact Zjj hR a k (by lia) (by lia) e
theorem Zrb (hR:W5 cmp r N s) (h:Pm N p) (h1 : 1<=N) {Q:Nat×Array Nat->Shared->Prop}(k:Zgr r N Q s):(kas_count N p).kasWp cmp Q s:=by
 unfold kas_count
 rw [KasT.kasWp_bind]
 refine Zfa hR h (N - 1) 1 (Nat.le_refl _) (by lia) (fun i hi=>by lia) fun m a b u d=>?_
 by_cases z:m=N
 ·rw [if_pos (by rw [z]; exact beq_self_eq_true N)]
  exact k m p a (by lia) h u
 ·rw [if_neg (fun e=>z (eq_of_beq e))]
  have dm:=d (by lia)
  by_cases y:m > 1
  ·rw [if_pos y]
   refine hR _ _ _ (h.lt (by lia)) (h.lt (by lia)) ?_
   by_cases c:r (p.getD 0 0) < r (p.getD (m - 1) 0)
   ·rw [decide_eq_true c]
    exact k m p a (by lia) h u
   ·rw [decide_eq_false c]
    have all:∀ i,0<=i->i < m->kp r p i=kp r p (m - 1):=fun i _ hi=>by
     have h0:=Zan u i 0 (by lia)
     have h2:=Zan u (m - 1 - i) i (by lia)
     rw [show 0+i=i by lia] at h0
     rw [show i+(m - 1 - i)=m - 1 by lia] at h2
     have h3:kp r p (m - 1)<=kp r p 0:=by unfold kp; lia
     lia
    have same:∀ k,kp r (kas_rev p 0 m) k=kp r p k:=fun k=>Zdo h (by lia) all
    refine Zjk hR (h.rev _ _) k (by lia) fun i hi=>?_
    rw [same,same]
    by_cases e:i+1 < m
    ·rw [all i (by lia) (by lia),all (i+1) (by lia) e]; exact Nat.le_refl _
    ·rw [show i=m - 1 by lia,show m - 1+1=m by lia]
     exact Nat.le_of_lt dm
  ·rw [if_neg y]
   refine Zjk hR h k (by lia) fun i hi=>?_
   rw [show i=m - 1 by lia,show m - 1+1=m by lia]
   exact Nat.le_of_lt dm
theorem Zeg (hR:W5 cmp r N s) (h:Pm N p) {Q:Nat->Shared->Prop}{k:Nat}(hk:k < N) (hu:UpTo r p k) (q:∀ l,l<=k->(∀ i,i < l->kp r p i<=kp r p k)->(∀ i,l<=i->i < k->kp r p k<=kp r p i)->Q l s) :
  ∀ (f l m:Nat),l<=m->m<=k->m - l<=f->(∀ i,i < l->kp r p i<=kp r p k)->(∀ i,m<=i->i < k->kp r p k<=kp r p i)->(kas_place p k f l m).kasWp cmp Q s
 | 0,l,m,a,b,c,lo,hi=>q l (by lia) lo fun i x y=>hi i (by lia) y
 | f+1,l,m,a,b,c,lo,hi=>by
  show (if l>=m then KasT.ret l else _).kasWp cmp Q s
  by_cases z:l>=m
  ·rw [if_pos z]
   exact q l (by lia) lo fun i x y=>hi i (by lia) y
  ·rw [if_neg z]
   refine hR _ _ _ (h.lt hk) (h.lt (by lia)) ?_
   by_cases y:r (p.getD k 0) < r (p.getD ((l+m) / 2) 0)
   ·rw [decide_eq_true y]
    refine Zeg hR h hk hu q f l ((l+m) / 2) (by lia) (by lia) (by lia) lo fun i x w=>?_
    have:=Zan hu (i - (l+m) / 2) ((l+m) / 2) (by lia)
    rw [show (l+m) / 2+(i - (l+m) / 2)=i by lia] at this
    exact Nat.le_trans (Nat.le_of_lt y) this
   ·rw [decide_eq_false y]
    refine Zeg hR h hk hu q f ((l+m) / 2+1) m (by lia) b (by lia) (fun i x=>?_) hi
    have:=Zan hu ((l+m) / 2 - i) i (by lia)
    rw [show i+((l+m) / 2 - i)=(l+m) / 2 by lia] at this
    exact Nat.le_trans this (Nat.le_of_not_lt y)
theorem Zkh (hR:W5 cmp r N s) {Q:Array Nat->Shared->Prop}:∀ (f:Nat) (p:Array Nat) (k:Nat),Pm N p->k+f<=N->UpTo r p k->(∀ p',Pm N p'->UpTo r p' (k+f)->Q p' s)->(kas_bin f p k).kasWp cmp Q s
 | 0,p,k,h,hk,hu,q=>q p h hu
 | f+1,p,k,h,hk,hu,q=>by
  show ((kas_place p k k 0 k).bind fun l=>kas_bin f (bubble p k (k - l)) (k+1)).kasWp cmp Q s
  rw [KasT.kasWp_bind]
  refine Zeg hR h (by lia) hu (fun l a lo hi=>?_) k 0 k (by lia) (by lia) (by lia) (fun i x=>by lia) fun i x y=>by lia
  refine Zkh hR f _ (k+1) (h.bub _ _) (by lia) (fun i x=>?_) fun p' a b=>q p' a (by rw [show k+(f+1)=k+1+f by lia]; exact b)
  rw [Zkg h (by lia) a,Zkg h (by lia) a]
  by_cases c:i=l
  ·rw [if_pos c,if_neg (by lia),if_pos (by lia)]
   by_cases d:i+1<=k/\l < k
   ·rw [show i+1 - 1=l by lia]
    exact hi l (by lia) (by lia)
   ·lia
  ·rw [if_neg c]
   by_cases d:i+1=l
   ·rw [if_pos d,if_neg (by lia)]
    exact lo i (by lia)
   ·rw [if_neg d]
    by_cases e:l < i
    ·rw [if_pos (by lia),if_pos (by lia),show i+1 - 1=i - 1+1 by lia]
     exact hu (i - 1) (by lia)
    ·rw [if_neg (by lia),if_neg (by lia)]
     exact hu i (by lia)
theorem Zsv (hR:W5 cmp r N s) (h2 : 1<=N) {Q:Array Nat->Shared->Prop}(q:∀ p,Pm N p->UpTo r p N->Q p s):(kas_sort N).kasWp cmp Q s:=by
 unfold kas_sort
 rw [KasT.kasWp_bind]
 refine Zrb hR (by show (List.toArray (List.range N)).toList.Perm _; exact List.Perm.refl _) h2 fun m p a b hp u=>?_
 by_cases c:m < N
 ·rw [if_pos c]
  refine Zkh hR _ p _ hp (by lia) (by rw [Nat.max_eq_left a]; exact u) fun p' x y=>q p' x ?_
  rw [show max m 1+(N - max m 1)=N by lia] at y
  exact y
 ·rw [if_neg c]
  exact q p hp (by rw [show N=m by lia]; exact u)
end
end L2
namespace L2
structure Weak (lt:Nat->Nat->Bool):Prop where
 irr:∀ i,lt i i=false
 tr:∀ i j k,lt i j=true->lt j k=true->lt i k=true
 neg:∀ i j k,lt i j=true->lt i k=true\/lt k j=true
def rk (lt:Nat->Nat->Bool) (N i:Nat):Nat:=(List.range N).countP fun k=>lt k i
theorem Zhu {p q:Nat->Bool}(h:∀ k,p k=true->q k=true) {i:Nat}(hp:p i=false) (hq:q i=true):∀ l:List Nat,i∈l->l.countP p < l.countP q
 | [],m=>nomatch m
 | x::l,m=>by
  have le:=List.countP_mono_left (l:=l) (p:=p) (q:=q) fun k _=>h k
  rw [List.countP_cons,List.countP_cons]
  rcases List.mem_cons.mp m with rfl | m
  ·rw [hp,hq]
   simp
   lia
  ·have:=Zhu h hp hq l m
   by_cases z:p x=true
   ·rw [z,h x z]; simp; lia
   ·cases e:q x with
    | true=>simp [z]; lia
    | false=>simp [z]; lia
theorem Zki {lt:Nat->Nat->Bool}(W:Weak lt) {N i j:Nat}(hi:i < N):decide (rk lt N i < rk lt N j)=lt i j:=by
 unfold rk
 cases e:lt i j with
 | true=>exact decide_eq_true (Zhu (fun k h=>W.tr k i j h e) (W.irr i) e _ (List.mem_range.mpr hi))
 | false =>
  refine decide_eq_false (Nat.not_lt.mpr (List.countP_mono_left fun k _ h=>?_))
  rcases W.neg k j i h with z | z
  ·exact z
  ·rw [e] at z; cases z
theorem Pm.out {α:Type}{p:Array Nat}{vs:List α}{d : α}(h:Pm vs.length p):(p.toList.map fun i=>vs.getD i d).Perm vs:=by
 have e:(List.range vs.length).map (fun i=>vs.getD i d)=vs:=by
  apply List.ext_getElem
  ·simp
  ·intro i h1 h2
   simp [h2]
 have:=h.map fun i=>vs.getD i d
 rw [e] at this
 exact this
theorem UpTo.pair {r:Nat->Nat}{p:Array Nat}{N:Nat}(hp:Pm N p) (u:UpTo r p N):p.toList.Pairwise fun i j=>r i<=r j:=by
 rw [List.pairwise_iff_getElem]
 intro i j hi hj hij
 have hs:=hp.size
 have hi':i < p.size:=by simpa using hi
 have hj':j < p.size:=by simpa using hj
 have:=Zan u (j - i) i (by lia)
 rw [show i+(j - i)=j by lia] at this
 unfold kp at this
 simpa [Array.getD,hi',hj'] using this
theorem Zpv {α:Type}{p:Array Nat}{vs:List α}{d : α}{lt : α->α->Bool}(hp:Pm vs.length p) (W:Weak fun i j=>lt (vs.getD i d) (vs.getD j d)) (u:UpTo (rk (fun i j=>lt (vs.getD i d) (vs.getD j d)) vs.length) p vs.length) :
  (p.toList.map fun i=>vs.getD i d).Perm vs/\(p.toList.map fun i=>vs.getD i d).Pairwise fun a b=>lt b a=false:=by
 refine ⟨hp.out,?_⟩
 rw [List.pairwise_map]
 have h1:=u.pair hp
 have hm:∀ i∈p.toList,i < vs.length:=fun i hi=>List.mem_range.mp (hp.mem_iff.mp hi)
 refine List.Pairwise.imp_of_mem ?_ h1
 intro i j hi hj h
 have:=Zki W (i:=j) (j:=i) (hm j hj)
 rw [decide_eq_false (Nat.not_lt.mpr h)] at this
 exact this.symm
end L2
namespace L2
open PySem PySem.Spec PyProof.Rows
def ltK:List Key->List Key->Bool
 | .inl x::r,.inl y::t=>if x=y then ltK r t else decide (x < y)
 | .inr x::r,.inr y::t=>if x=y then ltK r t else decide (x.cps.toList < y.cps.toList)
 | _,_=>false
def shp (k:List Key):List Bool:=k.map Sum.isLeft
theorem Zjl {x y:Str}(h:x≠y) (h2:¬ x.cps.toList < y.cps.toList):y.cps.toList < x.cps.toList:=by
 by_cases c:y.cps.toList < x.cps.toList
 ·exact c
 ·exfalso
  apply h
  have e:x.cps.toList=y.cps.toList:=List.le_antisymm (List.not_lt.mp c) (List.not_lt.mp h2)
  cases x; cases y
  simp only [Str.mk.injEq]
  exact Array.toList_inj.mp e
theorem Zkj {x y:Str}(h:x.cps.toList < y.cps.toList):x≠y:=fun e=>by subst e; exact List.lt_irrefl _ h
theorem Zev:∀ a:List Key,ltK a a=false
 | []=>rfl
 | .inl x::r=>by rw [ltK,if_pos rfl]; exact Zev r
 | .inr x::r=>by rw [ltK,if_pos rfl]; exact Zev r
theorem Zfb:∀ a b c:List Key,ltK a b=true->ltK b c=true->ltK a c=true
 | .inl x::r,.inl y::t,.inl z::u,h1,h2=>by
  rw [ltK] at h1 h2 ⊢
  by_cases e1:x=y
  ·rw [if_pos e1] at h1
   subst e1
   by_cases e2:x=z
   ·rw [if_pos e2] at h2 ⊢; exact Zfb r t u h1 h2
   ·rw [if_neg e2] at h2 ⊢; exact h2
  ·rw [if_neg e1] at h1
   have l1:=of_decide_eq_true h1
   by_cases e2:y=z
   ·subst e2; rw [if_neg e1]; exact h1
   ·rw [if_neg e2] at h2
    have l2:=of_decide_eq_true h2
    rw [if_neg (by lia)]
    exact decide_eq_true (by lia)
 | .inr x::r,.inr y::t,.inr z::u,h1,h2=>by
  rw [ltK] at h1 h2 ⊢
  by_cases e1:x=y
  ·rw [if_pos e1] at h1
   subst e1
   by_cases e2:x=z
   ·rw [if_pos e2] at h2 ⊢; exact Zfb r t u h1 h2
   ·rw [if_neg e2] at h2 ⊢; exact h2
  ·rw [if_neg e1] at h1
   have l1:=of_decide_eq_true h1
   by_cases e2:y=z
   ·subst e2; rw [if_neg e1]; exact h1
   ·rw [if_neg e2] at h2
    have l2:=of_decide_eq_true h2
    have l3:=List.lt_trans l1 l2
    rw [if_neg (Zkj l3)]
    exact decide_eq_true l3
 | [],_,_,h1,_=>by cases h1
 | .inl _::_,[],_,h1,_=>by cases h1
 | .inr _::_,[],_,h1,_=>by cases h1
 | .inl _::_,.inr _::_,_,h1,_=>by cases h1
 | .inr _::_,.inl _::_,_,h1,_=>by cases h1
 | .inl _::_,.inl _::_,[],_,h2=>by cases h2
 | .inr _::_,.inr _::_,[],_,h2=>by cases h2
 | .inl _::_,.inl _::_,.inr _::_,_,h2=>by cases h2
 | .inr _::_,.inr _::_,.inl _::_,_,h2=>by cases h2
theorem Zew:∀ a b c:List Key,shp a=shp c->ltK a b=true->ltK a c=true\/ltK c b=true
 | .inl x::r,.inl y::t,.inl z::u,hs,h=>by
  have hs':shp r=shp u:=by unfold shp at hs ⊢; simpa using hs
  rw [ltK] at h
  rw [ltK,ltK]
  by_cases e1:x=z
  ·subst e1
   rw [if_pos rfl]
   by_cases e2:x=y
   ·rw [if_pos e2] at h ⊢; exact Zew r t u hs' h
   ·rw [if_neg e2] at h ⊢; exact .inr h
  ·rw [if_neg e1]
   by_cases l:x < z
   ·exact .inl (decide_eq_true l)
   ·by_cases e2:x=y
    ·subst e2; rw [if_neg (fun q=>e1 q.symm)]; exact .inr (decide_eq_true (by lia))
    ·rw [if_neg e2] at h
     have:=of_decide_eq_true h
     rw [if_neg (by lia)]
     exact .inr (decide_eq_true (by lia))
 | .inr x::r,.inr y::t,.inr z::u,hs,h=>by
  have hs':shp r=shp u:=by unfold shp at hs ⊢; simpa using hs
  rw [ltK] at h
  rw [ltK,ltK]
  by_cases e1:x=z
  ·subst e1
   rw [if_pos rfl]
   by_cases e2:x=y
   ·rw [if_pos e2] at h ⊢; exact Zew r t u hs' h
   ·rw [if_neg e2] at h ⊢; exact .inr h
  ·rw [if_neg e1]
   by_cases l:x.cps.toList < z.cps.toList
   ·exact .inl (decide_eq_true l)
   ·have l2:=Zjl e1 l
    by_cases e2:x=y
    ·subst e2; rw [if_neg (fun q=>e1 q.symm)]; exact .inr (decide_eq_true l2)
    ·rw [if_neg e2] at h
     have:=List.lt_trans l2 (of_decide_eq_true h)
     rw [if_neg (Zkj this)]
     exact .inr (decide_eq_true this)
 | [],_,_,_,h1=>by cases h1
 | .inl _::_,[],_,_,h1=>by cases h1
 | .inr _::_,[],_,_,h1=>by cases h1
 | .inl _::_,.inr _::_,_,_,h1=>by cases h1
 | .inr _::_,.inl _::_,_,_,h1=>by cases h1
 | .inl _::_,.inl _::_,[],hs,_=>by simp [shp] at hs
 | .inr _::_,.inr _::_,[],hs,_=>by simp [shp] at hs
 | .inl _::_,.inl _::_,.inr _::_,hs,_=>by simp [shp] at hs
 | .inr _::_,.inr _::_,.inl _::_,hs,_=>by simp [shp] at hs
theorem Zjm:∀ a b:List Key,shp a=shp b->ltK a b=false->ltK b a=false->a=b
 | [],[],_,_,_=>rfl
 | .inl x::r,.inl y::t,hs,h1,h2=>by
  have hs':shp r=shp t:=by unfold shp at hs ⊢; simpa using hs
  rw [ltK] at h1 h2
  by_cases e:x=y
  ·subst e; rw [if_pos rfl] at h1 h2; rw [Zjm r t hs' h1 h2]
  ·rw [if_neg e] at h1; rw [if_neg (fun q=>e q.symm)] at h2
   have:=of_decide_eq_false h1; have:=of_decide_eq_false h2; lia
 | .inr x::r,.inr y::t,hs,h1,h2=>by
  have hs':shp r=shp t:=by unfold shp at hs ⊢; simpa using hs
  rw [ltK] at h1 h2
  by_cases e:x=y
  ·subst e; rw [if_pos rfl] at h1 h2; rw [Zjm r t hs' h1 h2]
  ·rw [if_neg e] at h1; rw [if_neg (fun q=>e q.symm)] at h2
   exact absurd (Zjl e (of_decide_eq_false h1)) (of_decide_eq_false h2)
 | [],_::_,hs,_,_=>by simp [shp] at hs
 | .inl _::_,[],hs,_,_=>by simp [shp] at hs
 | .inr _::_,[],hs,_,_=>by simp [shp] at hs
 | .inl _::_,.inr _::_,hs,_,_=>by simp [shp] at hs
 | .inr _::_,.inl _::_,hs,_,_=>by simp [shp] at hs
end L2
namespace L2
open PySem PySem.Spec PyProof.Rows PySem.W
section
variable {prog:Program}{w:World}{A:Around}{E:Value->Shared->Prop}{s:Shared}
theorem Zvw {i:Nat}{x y:Int}{t u:Tok}{Q:Bool->Shared->Prop}(h:Q (decide (x < y)) s):wpAny (model prog w) A (oneLt' (true && i == 0) (.int x t) (.int y u)) Q E s:=by
 rw [Bool.true_and]
 cases i == 0 with
 | true=>exact oneLt_int h
 | false=>exact kat_one _ _ (lt_int (show PySem.W.BoolBack Q (.bool (decide (x < y))) s from h))
theorem Zut {i:Nat}{x y:Str}{t u:Tok}{Q:Bool->Shared->Prop}(h:Q (decide (x.cps.toList < y.cps.toList)) s):wpAny (model prog w) A (oneLt' (true && i == 0) (.str x t) (.str y u)) Q E s:=by
 rw [Bool.true_and]
 cases i == 0 with
 | true=>exact oneLt_str h
 | false=>exact kat_one _ _ (lt_str (show PySem.W.BoolBack Q (.bool (decide (x.cps.toList < y.cps.toList))) s from h))
theorem Zfc {Q:Bool->Shared->Prop}:∀ (k1 k2:List Key) (us vs:List Value) (i:Nat),shp k1=shp k2->Vals (k1.map kV) us->Vals (k2.map kV) vs->Q (ltK k1 k2) s->KatLex prog w A true false Q (us.zip vs) i s
 | [],[],_,_,i,_,.nil,.nil,h=>kat_nil h
 | .inl x::r,.inl y::t,_,_,i,hs,.cons r1 rr,.cons q1 qq,h=>by
  obtain ⟨t1,rfl⟩:=r1
  obtain ⟨t2,rfl⟩:=q1
  have hs':shp r=shp t:=by unfold shp at hs ⊢; simpa using hs
  rw [ltK] at h
  refine kat_cons (wpAny_eqBool_int ?_)
  by_cases e:x=y
  ·rw [if_pos e] at h
   rw [beq_iff_eq.mpr e]
   exact kat_yes (Zfc r t _ _ (i+1) hs' rr qq h)
  ·rw [if_neg e] at h
   rw [beq_eq_false_iff_ne.mpr e]
   exact kat_no (Zvw h)
 | .inr x::r,.inr y::t,_,_,i,hs,.cons r1 rr,.cons q1 qq,h=>by
  obtain ⟨t1,rfl⟩:=r1
  obtain ⟨t2,rfl⟩:=q1
  have hs':shp r=shp t:=by unfold shp at hs ⊢; simpa using hs
  rw [ltK] at h
  refine kat_cons (wpAny_eqBool_str ?_)
  by_cases e:x=y
  ·rw [if_pos e] at h
   rw [decide_eq_true e]
   exact kat_yes (Zfc r t _ _ (i+1) hs' rr qq h)
  ·rw [if_neg e] at h
   rw [decide_eq_false e]
   exact kat_no (Zut h)
 | .inl _::_,.inr _::_,_,_,_,hs,_,_,_=>by simp [shp] at hs
 | .inr _::_,.inl _::_,_,_,_,hs,_,_,_=>by simp [shp] at hs
 | [],_::_,_,_,_,hs,_,_,_=>by simp [shp] at hs
 | _::_,[],_,_,_,hs,_,_,_=>by simp [shp] at hs
def Zln (prog:Program) (w:World) (A:Around) (s:Shared) (a:Addr) (vs:List Value) (r:Nat->Nat):Prop:=2<=vs.length->∀ h':Heap,(∀ b o,b≠a->s.heap.get? b=some o->h'.get? b=some o) ->
 ∀ Q:SortKind->Shared->Prop,(∀ κ,W5 (kas_ask prog w A κ vs) r vs.length {s with heap:=h' }->Q κ {s with heap:=h' })->wpAny (model prog w) A (keyKind' vs.toArray) Q (fun _ _=>False) {s with heap:=h' }
theorem Zpw {a:Addr}{vs:List Value}{n:Nat}{P:PySem.Fin->Shared->Prop}{r:Nat->Nat}(ho:s.heap.get? a=some (seqObj "list" vs.toArray n)) (h64:vs.length < 64) (hk:Zln prog w A s a vs r)
  (q:∀ p:Array Nat,Pm vs.length p->UpTo r p vs.length->P (.done (.ret .none)) {s with heap:=sortedHeap s.heap a vs (List.toArray (p.toList.map fun i=>vs.getD i Value.none)) }):wpAny (model prog w) A (Builtin.«list.sort» ⟨[.ref a],[]⟩) P E s:=by
 have la:a < s.heap.objs.size:=Heap.lt_size ho
 obtain ⟨e1,h1⟩:∃ e1,(s.heap.update a (Obj.mapSeq fun _=>(#[]:Array Value))).get? a=some (seqObj "list" #[] e1):=⟨_,get?_update_seq ho fun _=>#[]⟩
 have old:∀ b o,b≠a->s.heap.get? b=some o->(((s.heap.update a (Obj.mapSeq fun _=>(#[]:Array Value))).push (seqObj "tuple" vs.toArray 0)).push (seqObj "list" #[] 0)).get? b=some o:=fun b o nb e =>
  Heap.get?_push_of_some _ (Heap.get?_push_of_some _ (by rw [Heap.get?_update_ne _ _ _ _ nb]; exact e))
 have h6:(((s.heap.update a (Obj.mapSeq fun _=>(#[]:Array Value))).push (seqObj "tuple" vs.toArray 0)).push (seqObj "list" #[] 0)).get? a=some (seqObj "list" #[] e1):=Heap.get?_push_of_some _ (Heap.get?_push_of_some _ h1)
 rw [list_sort_plain]; refine wpAny_bind (listItems_at ho rfl (wpAny_bind (listUpdate_at ho rfl (wpAny_bind (seqEpoch_at h1 rfl (wpAny_bind (wpAny_newTuple (wpAny_bind (wpAny_newList (wpAny_holding ?_)))))))))) <;> try (rw [sizeLine_eq]; simp; lia)
 show wpAny (model prog w) A _ P E {s with heap:=((s.heap.update a (Obj.mapSeq fun _=>(#[]:Array Value))).push (seqObj "tuple" vs.toArray 0)).push (seqObj "list" #[] 0) }
 dsimp only
 by_cases h2:vs.toArray.size < 2
 ·have l2:vs.length < 2:=by simpa using h2
  rw [if_pos h2,if_pos h2]; refine wpAny_bind (wpAny_pure ?_); rw [StateT.run_pure]; refine wpAny_bind (wpAny_pure ?_)
  dsimp only
  have em:(Array.map (fun x=>x.2) (arrOf (SortSt.mk' general' (vs.toArray.zip vs.toArray) #[] 7 none)))=List.toArray ((List.toArray (List.range vs.length)).toList.map fun i=>vs.getD i Value.none):=by
   show Array.map (fun x=>x.2) (vs.toArray.zip vs.toArray)=_
   match vs,l2 with
   | [],_=>simp
   | [v],_=>simp [List.range_succ]
  rw [em]
  have pm:Pm vs.length (List.toArray (List.range vs.length)):=List.Perm.refl _
  have sz:(List.toArray ((List.toArray (List.range vs.length)).toList.map fun i=>vs.getD i Value.none)).size<=sizeLine+1:=by rw [sizeLine_eq]; simp; lia
  refine wpAny_bind (seqEpoch_at h6 rfl (wpAny_bind (listUpdate_at h6 rfl ?_ (Nat.zero_le _) sz)))
  simp only [bne_self_eq_false,Bool.false_eq_true,if_false]; exact wpAny_pure (q _ pm fun i hi=>by lia)
 ·have l2 : 2<=vs.length:=by simp at h2; lia
  rw [if_neg h2,if_neg h2]
  refine wpAny_bind (wpAny_mono (hk l2 _ old (fun κ s'=>s'={s with heap:=((s.heap.update a (Obj.mapSeq fun _=>(#[]:Array Value))).push (seqObj "tuple" vs.toArray 0)).push (seqObj "list" #[] 0) }/\W5 (kas_ask prog w A κ vs) r vs.length s') fun κ hr=>⟨rfl,hr⟩) (fun κ s0 hq=>?_) fun _ _ x=>x.elim)
  obtain ⟨rfl,hr⟩:=hq
  refine wpAny_bind (wpAny_mono (kat_run (ks:=vs) (vs:=vs) (κ:=κ) (G:=fun p s'=>s'={s with heap:=((s.heap.update a (Obj.mapSeq fun _=>(#[]:Array Value))).push (seqObj "tuple" vs.toArray 0)).push (seqObj "list" #[] 0) }/\Pm vs.length p/\UpTo r p vs.length)
   (Q:=fun st' s'=>s'={s with heap:=((s.heap.update a (Obj.mapSeq fun _=>(#[]:Array Value))).push (seqObj "tuple" vs.toArray 0)).push (seqObj "list" #[] 0) }/\∃ p:Array Nat,(arrOf st').map (·.2)=List.toArray (p.toList.map fun i=>vs.getD i Value.none)/\failedOf st'=none/\Pm vs.length p/\UpTo r p vs.length)
   rfl l2 h64 (fun p st' s' a1 a2 a3 a4=>⟨a4.1,p,kat_snds rfl a2,a3,a4.2⟩) (Zsv hr (by lia) fun p a b=>⟨rfl,a,b⟩)) ?_ fun _ _ e=>e)
  rintro ⟨⟨⟩,st'⟩ s' ⟨rfl,p,ho',hf,hp,hu⟩
  dsimp only
  rw [ho']
  have sz:(List.toArray (p.toList.map fun i=>vs.getD i Value.none)).size<=sizeLine+1:=by rw [sizeLine_eq]; simp [hp.size]; lia
  refine wpAny_bind (seqEpoch_at h6 rfl (wpAny_bind (listUpdate_at h6 rfl ?_ (Nat.zero_le _) sz)))
  rw [hf]; simp only [bne_self_eq_false,Bool.false_eq_true,if_false]; exact wpAny_pure (q p hp hu)
theorem Zoo {l:Addr}{vs:List Value}{Q:Value->Shared->Prop}{r:Nat->Nat}(hl:s.heap.IsList l vs.toArray) (h64:vs.length < 64)
  (hk:∀ h0:Heap,(∀ b o,s.heap.get? b=some o->h0.get? b=some o)->Zln prog w A.in1.in1 {s with heap:=h0 } (s.heap.objs.size+1) vs r)
  (q:∀ p:Array Nat,Pm vs.length p->UpTo r p vs.length->Q (.ref (s.heap.objs.size+1)) {s with heap:=sortedAll s.heap vs (List.toArray (p.toList.map fun i=>vs.getD i Value.none)) }):wpAny (model prog w) A (call (.builtin "sorted") [.ref l]) Q E s:=by
 refine Calls.call_function_entry kind_sorted plain_sorted entry_sorted (args_sorted1 _) ?_
 have hz:vs.length<=sizeLine:=by rw [sizeLine_eq]; lia
 unfold Builtin.«sorted»; refine wpAny_bind (m:=checkCount "sorted" 1 1 _) (wpAny_pure (wpAny_bind (collect_list hl (wpAny_bind (wpAny_newList ?_ hz)) hz)))
 have zz:((s.heap.push (seqObj "list" #[] 0)).update s.heap.objs.size (Obj.mapSeq (· ++ vs.toArray))).objs.size=s.heap.objs.size+1:=by rw [Heap.size_update]; exact size_push' _ _
 have hL:(((s.heap.push (seqObj "list" #[] 0)).update s.heap.objs.size (Obj.mapSeq (· ++ vs.toArray))).push (seqObj "list" vs.toArray 0)).get? (s.heap.objs.size+1)=some (seqObj "list" vs.toArray 0):=by have:=Heap.get?_push_size ((s.heap.push (seqObj "list" #[] 0)).update s.heap.objs.size (Obj.mapSeq (· ++ vs.toArray))) (o:=seqObj "list" vs.toArray 0) rfl; rw [zz] at this; exact this
 have old:∀ b o,s.heap.get? b=some o->(((s.heap.push (seqObj "list" #[] 0)).update s.heap.objs.size (Obj.mapSeq (· ++ vs.toArray))).push (seqObj "list" vs.toArray 0)).get? b=some o:=fun b o e =>
  Heap.get?_push_of_some _ (by rw [Heap.get?_update_ne _ _ _ _ (Nat.ne_of_lt (Heap.lt_size e))]; exact Heap.get?_push_of_some _ e)
 show wpAny _ _ _ _ _ {s with heap:=((s.heap.push (seqObj "list" #[] 0)).update s.heap.objs.size (Obj.mapSeq (· ++ vs.toArray))).push (seqObj "list" vs.toArray 0) }
 rw [zz]
 exact wpAny_bind (wpAny_holding (wpAny_call_entry slot_list_sort ⟨_,hL,rfl⟩ entry_list_sort (Zpw hL h64 (hk _ old) fun p hp hu=>⟨_,rfl,wpAny_pure ⟨_,rfl,q p hp hu⟩⟩) (args_list_sort _)))
end
section
variable {X:Cx}
def Zbj (H:Hp) (p:Addr×List Key):Prop:=H p.1=some (.tup (p.2.map kV))
def Ziv (K:PySem.W.Frag):List V->Hp->VK->Prop:=fun xs H Q=>∃ (a:Addr) (ps:List (Addr×List Key)) (sh:List Bool),xs = [.ref a]/\SqL K H a (ps.map fun p=>V.ref p.1)/\ps.length < 64/\(∀ p∈ps,Zbj H p/\shp p.2=sh)/\sh ≠ [] /\
  ∀ (l:Addr) (ms:List (Addr×List Key)),H l=none->ms.Perm ps->ms.Pairwise (fun p q=>ltK q.2 p.2=false)->Q (.ref l) (upd H l (.lst (ms.map fun p=>V.ref p.1)))
theorem Zjn:∀ {ps:List (Addr×List Key)}{its:List Value},Vals (ps.map fun p=>V.ref p.1) its->its=ps.map fun p=>Value.ref p.1
 | [],_,.nil=>rfl
 | p::ps,_,.cons r rr=>by cases r; rw [List.map_cons,Zjn rr]
theorem Zih:∀ ps:List (Addr×List Key),Vals (ps.map fun p=>V.ref p.1) (ps.map fun p=>Value.ref p.1)
 | []=>.nil
 | p::ps=>.cons rfl (Zih ps)
theorem Zjo {pins:List (Addr×Obj)}{σ:St}{H:Hp}{s:Shared}(I:Inv X pins σ H s) {sh:List Bool}(hne:sh ≠ []) {h':Heap}(hk:∀ (p:Addr×List Key) (o:Obj),Zbj H p->s.heap.get? p.1=some o->h'.get? p.1=some o):∀ ps:List (Addr×List Key),(∀ p∈ps,Zbj H p/\shp p.2=sh) ->
  ∃ fs,KatTups h' (ps.map fun p=>Value.ref p.1) fs/\fs.length=ps.length/\∀ v∈fs,Looks (model X.prog X.w) h' (typeOf v) (.type (if sh.head hne then "int" else "str"))
 | [],_=>⟨[],.nil,rfl,fun v hv=>by simp at hv⟩
 | p::ps,h=>by
  obtain ⟨fs,h1,h2,h3⟩:=Zjo I hne hk ps fun q hq=>h q (List.mem_cons_of_mem _ hq)
  obtain ⟨ht,hs⟩:=h p List.mem_cons_self
  obtain ⟨a,ks⟩:=p
  obtain ⟨its,rv,⟨o,e1,e2,n,e3⟩,_⟩:=I.tuple (SqT.of ht)
  cases ks with
  | nil=>exact absurd hs.symm hne
  | cons k r =>
   cases k with
   | inl x =>
    subst hs
    cases rv with
    | cons r1 rr =>
     obtain ⟨t,rfl⟩:=r1
     refine ⟨.int x t::fs,KatTups.cons (hk (a,.inl x::r) o ht e1) e2 e3 (by simp) h1,by rw [List.length_cons,List.length_cons,h2],fun v hv=>?_⟩
     rcases List.mem_cons.mp hv with rfl | hv
     ·exact Looks.of_pure rfl
     ·exact h3 v hv
   | inr x =>
    subst hs
    cases rv with
    | cons r1 rr =>
     obtain ⟨t,rfl⟩:=r1
     refine ⟨.str x t::fs,KatTups.cons (hk (a,.inr x::r) o ht e1) e2 e3 (by simp) h1,by rw [List.length_cons,List.length_cons,h2],fun v hv=>?_⟩
     rcases List.mem_cons.mp hv with rfl | hv
     ·exact Looks.of_pure rfl
     ·exact h3 v hv
theorem Zsw {ps:List (Addr×List Key)}{sh:List Bool}{H:Hp}(ht:∀ p∈ps,Zbj H p/\shp p.2=sh):∃ sh',∀ i,shp (ps.getD i (ps.headD (0,[]))).2=sh':=by
 cases ps with
 | nil=>exact ⟨[],fun i=>by simp [shp]⟩
 | cons p ps =>
  refine ⟨sh,fun i=>?_⟩
  rw [List.getD_eq_getElem?_getD]
  cases e:(p::ps)[i]? with
  | none=>exact (ht p List.mem_cons_self).2
  | some x=>exact (ht x (List.mem_of_getElem? e)).2
theorem Zof:Wb X (.builtin "sorted") (Ziv X.K):=by
 intro pins s σ H xs us Q I r h
 obtain ⟨a,ps,sh,rfl,ha,hl,ht,hne,q⟩:=h
 obtain ⟨u,rfl,ru⟩:=Wj r
 cases ru
 obtain ⟨its,rv,p,_⟩:=I.list ha
 have ei:=Zjn rv
 subst ei
 obtain ⟨sh',hsh⟩:=Zsw ht
 have W:Weak fun i j=>ltK (ps.getD i (ps.headD (0,[]))).2 (ps.getD j (ps.headD (0,[]))).2:=⟨fun i=>Zev _,fun i j k=>Zfb _ _ _,fun i j k=>Zew _ _ _ ((hsh i).trans (hsh k).symm)⟩
 have hlen:(ps.map fun p=>Value.ref p.1).length=ps.length:=List.length_map ..
 refine Zoo (r:=rk (fun i j=>ltK (ps.getD i (ps.headD (0,[]))).2 (ps.getD j (ps.headD (0,[]))).2) ps.length) p.isList (by rw [hlen]; exact hl) (fun h0 hk0 l2 h' hk Q' hQ=>?_) fun pa hp hu=>?_
 ·have hold:∀ (p:Addr×List Key) (o:Obj),Zbj H p->s.heap.get? p.1=some o->h'.get? p.1=some o:=fun p o _ e=>hk _ _ (Nat.ne_of_lt (Nat.lt_succ_of_lt (Heap.lt_size e))) (hk0 _ _ e)
  obtain ⟨fs,f1,f2,f3⟩:=Zjo (h':=h') I hne hold ps ht
  have tt:(Value.type (if sh.head hne then "int" else "str") != Value.type "tuple")=true:=by cases sh.head hne <;> rfl
  have t2:(Value.type (if sh.head hne then "int" else "str") == Value.type (if sh.head hne then "int" else "str"))=true:=by cases sh.head hne <;> rfl
  refine kat_kind (s:={s with heap:=h' }) f1 (by lia) f3 t2 (hQ _ fun i j C hi hj hC=>?_)
  rw [tt]
  rw [hlen] at hi hj
  have get:∀ {i},i < ps.length->∃ p its o n,ps.getD i (ps.headD (0,[]))=p/\(ps.map fun p=>Value.ref p.1).getD i Value.none = .ref p.1/\Vals (p.2.map kV) its/\h'.get? p.1=some o/\o.data = .seq its.toArray n:=fun {i} hi=>by
   have e:ps[i]? = some ps[i]:=List.getElem?_eq_getElem hi
   have m:=List.getElem_mem hi
   obtain ⟨its,rv,⟨o,e1,e2,n,e3⟩,_⟩:=I.tuple (SqT.of (ht _ m).1)
   exact ⟨ps[i],its,o,n,by rw [List.getD_eq_getElem?_getD,e]; rfl,by rw [List.getD_eq_getElem?_getD,List.getElem?_map,e]; rfl,rv,hold _ o (ht _ m).1 e1,e3⟩
  obtain ⟨x,xs,ox,nx,ex,gx,vx,hx,dx⟩:=get hi
  obtain ⟨y,ys,oy,ny,ey,gy,vy,hy,dy⟩:=get hj
  rw [Zki W hi] at hC
  have s1:=hsh i
  have s2:=hsh j
  rw [ex] at hC s1
  rw [ey] at hC s2
  show wpAny (model X.prog X.w) X.A.in1.in1 (keyLt' (tuples' true) _ _) C (fun _ _=>False) {s with heap:=h' }
  rw [gx,gy]
  have sz:xs.length=ys.length:=by
   have a1:=vx.length; have a2:=vy.length
   have a3:(shp x.2).length=(shp y.2).length:=by rw [s1,s2]
   unfold shp at a3
   rw [List.length_map] at a1 a2 a3
   rw [List.length_map] at a3
   lia
  refine kat_lt hx dx hy dy ?_
  rw [decide_eq_false (by simp [sz])]
  exact Zfc x.2 y.2 xs ys 0 (s1.trans s2.symm) vx vy hC
 ·rw [hlen] at hp hu
  obtain ⟨b1,b2⟩:=Zpv (lt:=fun a b:Addr×List Key=>ltK a.2 b.2) hp W hu
  obtain ⟨e,he⟩:=sortedAll_at s.heap (ps.map fun p=>Value.ref p.1) (List.toArray (pa.toList.map fun i=>(ps.map fun p=>Value.ref p.1).getD i Value.none))
  have eo:(pa.toList.map fun i=>(ps.map fun p=>Value.ref p.1).getD i Value.none)=(pa.toList.map fun i=>ps.getD i (ps.headD (0,[]))).map fun p=>Value.ref p.1:=by
   rw [List.map_map]
   refine List.map_congr_left fun i hi=>?_
   have li:i < ps.length:=List.mem_range.mp (hp.mem_iff.mp hi)
   show _=Value.ref (ps.getD i (ps.headD (0,[]))).1
   rw [List.getD_eq_getElem?_getD,List.getD_eq_getElem?_getD,List.getElem?_map,List.getElem?_eq_getElem li]
   rfl
  rw [eo] at he ⊢
  generalize (pa.toList.map fun i=>ps.getD i (ps.headD (0,[])))=ms at b1 b2 he ⊢
  have hz:ms.length=ps.length:=b1.length_eq
  refine ⟨.ref (s.heap.objs.size+1),_,I.laid (t':=s.toks) (o:=.lst (ms.map fun p=>V.ref p.1)) (fun b o=>sortedAll_old) (Nat.le_succ _) ?_,rfl,q _ ms (I.hok.fresh (Nat.le_succ _)) b1 b2⟩
  exact ⟨by rw [List.length_map,hz]; exact Nat.le_trans (Nat.le_of_lt hl) (by decide),ms.map fun p=>Value.ref p.1,e,Zih ms,by simpa using he⟩
theorem Zz3:QC X (.builtin "sorted") (Ziv X.K):=⟨Zof⟩
def Zjp (K:PySem.W.Frag):R2:=fun x y H Q=>∃ (a b:Addr) (as:List Addr),x = .ref a/\y = .ref b/\SqL K H a (as.map V.ref)/\SqL K H b (as.map V.ref)/\Q (.bl false) H
theorem Zdy:∀ {as:List Addr}{its:List Value},Vals (as.map V.ref) its->its=as.map Value.ref
 | [],_,.nil=>rfl
 | a::as,_,.cons r rr=>by cases r; rw [List.map_cons,Zdy rr]
theorem Zpx (hu:X.A.units < cLine):OpR X (compareOp .NotEq) (Zjp X.K):=by
 intro pins s σ H x y v u Q I rx ry ⟨a,b,as,ex,ey,ha,hb,q⟩
 subst ex ey
 obtain rfl:v=Value.ref a:=rx
 obtain rfl:u=Value.ref b:=ry
 obtain ⟨i1,r1,p1,_⟩:=I.list ha
 obtain ⟨i2,r2,p2,_⟩:=I.list hb
 have e1:=Zdy r1
 have e2:=Zdy r2
 subst e1 e2
 have h:=SeqAt.RcNeAt.lists (A:=X.A) (e:=fun _=>true) p1.isList p2.isList rfl hu (fun j h1 h2=>SeqAt.EqAt.same _)
 rw [show (!(List.range (as.map Value.ref).toArray.size).all fun _=>true)=false by simp] at h
 exact h X.prog X.w _ _ ⟨.bl false,H,I,rfl,q⟩
theorem Zz4 {k:Nat}(hr:Room k X.A):QOp X (compareOp .NotEq) (Zjp X.K):=⟨Zpx hr.units0⟩
end
end L2
end
section
set_option Elab.async false
set_option linter.all false
set_option maxRecDepth 100000
set_option maxHeartbeats 4000000
namespace L2
open PySem PySem.Spec PyProof.Rows
section
variable {prog:Program}{w:World}{K:Type} [DecidableEq K] {knd:HeapKind prog w K}{A:Around}{E:Value->Shared->Prop}{s:Shared}
end
section
variable {X:Cx}{pins:List (Addr×Obj)}{σ:St}{H:Hp}{s:Shared}{a b:Addr}{z:V}{r:Value}{kvs:List (List Key×V)}{k:List Key}{A:Around}{E:Value->Shared->Prop}
end
section
variable {X:Cx}{o e f:Expr}{apos cpos:Pos}{td ty tx:TE}{n:Nat}
theorem Ziw (hr:Room n X.A) (ho:QE X o td) (he:QE X e ty) (hf:QE X f tx) (m:M2 X o "get" apos e f cpos:=by exact ⟨rfl,rfl,rfl,rfl⟩):QE X (.Call (.Attribute o "get" apos) [e,f] [] cpos) (Zke td ty tx):=⟨Zql (by have:=hr.units; lia) ho.h he.h hf.h m⟩
end
end L2
end
section
set_option Elab.async false
set_option linter.all false
namespace L2
open PySem PySem.Spec PyProof.Rows
end L2
end
section
set_option Elab.async false
set_option linter.all false
set_option maxRecDepth 100000
set_option maxHeartbeats 4000000
namespace L2
open PySem PySem.Spec PyProof.Rows
end L2
end
section
set_option Elab.async false
set_option linter.all false
set_option maxRecDepth 100000
set_option maxHeartbeats 4000000
namespace L2
open PySem PySem.Spec PyProof.Rows
structure HasM (K:PySem.W.Frag) (C:Addr) (m qual:Str) (st:Stmt):Prop where
 ex:∃ (f:Addr) (fd:FuncData),Fun K m qual st f fd/\Meth K C m f
structure Mt (P:Program) (w:World) (K:PySem.W.Frag) (mg:Str->Option Value) (base:Heap) (C:Addr) (m:Str) (ps:List Str) (k:Nat) (sp:Sp):Prop where
 ex:∃ (f:Addr) (fd:FuncData),Meth K C m f/\FnOk P w K mg base CX0 k f fd ps sp/\Binds K fd ps []
section
variable {P:Program}{w:World}{K:PySem.W.Frag}{mg:Str->Option Value}{base:Heap}{C:Addr}{m qual:Str}{st:Stmt}{N ps:List Str}{k:Nat}{sp:Sp}
structure Mks (P:Program) (w:World) (K:PySem.W.Frag) (mg:Str->Option Value) (base:Heap) (C:Addr) (x:Str) (k:Nat) (sp:Sp):Prop where
 ex:∃ (f:Addr) (fd:FuncData),Mk K C f/\FnOk P w K mg base CX0 k f fd ["self"] sp/\Binds K fd ["self"] []/\mg x=some (.ref C)
end
section
variable {X:Cx}{C:Addr}{m x f:Str}{ps:List Str}{k:Nat}{sp:Sp}{o e value i:Expr}{es:List Expr}{ta td ty tv:TE}{t:TA}{apos pos pos' p:Pos}
end
end L2
end
section
set_option Elab.async false
set_option linter.all false
set_option maxRecDepth 100000
set_option maxHeartbeats 4000000
namespace L2
open PySem PySem.Spec PyProof.Rows
section
variable {X:Cx}{pins:List (Addr×Obj)}{σ:St}{H:Hp}{s:Shared}
end
section
variable {X:Cx}{e:Expr}{te:TE}
end
section
variable {X:Cx}{tg l:Expr}{te:TE}
end
section
variable {X:Cx}
end
end L2
end
section
set_option Elab.async false
set_option linter.all false
set_option maxRecDepth 100000
set_option maxHeartbeats 4000000
namespace L2
open PySem PySem.Spec PyProof.Rows
section
variable {X:Cx}{o:Expr}{te:TE}
end
end L2
end
section
set_option Elab.async false
set_option linter.all false
set_option maxRecDepth 100000
set_option maxHeartbeats 4000000
namespace L2
open PySem PySem.Spec PyProof.Rows
theorem Zii {J:It}{nl:Nat}{fv:St}{g:TG}{tt:TTs}{te:TE}{Q:VK}{H:Hp}(n:Nat) (f:Nat->Option (List V)) (Pv:Nat->List V->Hp->Prop) (h0:Pv 0 [] H) (hn:n<=1000000)
  (hgo:∀ i H ys,i < n->Pv i ys H->J.go i H) (hy:∀ i H x H' ys,i < n->Pv i ys H->J.yld i H x H'->∃ p us,f i=some us/\x = .ref p/\H p=none/\H'=upd H p (.tup us)) (hst:∀ H ys,Pv n ys H->J.stop n H)
  (hlen:∀ i ys H,Pv i ys H->ys.length<=i)
  (step:∀ i us p ys H,i < n->f i=some us->Pv i ys H->H p=none->Wf nl fv g tt te (.ref p) (upd H p (.tup us)) (fun y H'=>Pv (i+1) (ys ++ [y]) H') fun H'=>Pv (i+1) ys H')
  (hd:∀ ys H,Pv n ys H->∀ l,H l=none->Q (.ref l) (upd H l (.lst ys))) :
  Vf J nl fv g tt te Q H:=by
 have mono:∀ {x:V}{H:Hp}{Y Y':V->Hp->Prop}{N N':Hp->Prop},Wf nl fv g tt te x H Y N->Y=Y'->N=N'->Wf nl fv g tt te x H Y' N':=fun h e1 e2=>by subst e1; subst e2; exact h
 refine ⟨fun i m ys H=>m=n - i/\i<=n/\Pv i ys H,⟨n,by simp,Nat.zero_le _,h0⟩,?_⟩
 rintro i m ys H ⟨rfl,hi,p⟩
 have hl:=hlen i ys H p
 have hz:(1000000:Nat) < sizeLine:=by decide
 by_cases hlt:i < n
 ·refine .inr ⟨hgo i H ys hlt p,by lia,n - (i+1),by lia,fun x H' y=>?_⟩
  obtain ⟨q,us,hf,rfl,hq,rfl⟩:=hy i H x H' ys hlt p y
  refine mono (step i us q ys H hlt hf p hq) ?_ ?_
  ·funext y H4
   apply propext
   exact ⟨fun q=>⟨rfl,hlt,q⟩,fun q=>q.2.2⟩
  ·funext H3
   apply propext
   exact ⟨fun q=>⟨rfl,hlt,q⟩,fun q=>q.2.2⟩
 ·have e:i=n:=by lia
  subst e
  exact .inl ⟨hst H ys p,by lia,hd ys H p⟩
end L2
end
section
set_option Elab.async false
set_option linter.all false
set_option maxRecDepth 100000
set_option maxHeartbeats 4000000
namespace L2
open PySem PySem.Spec PyProof.Rows
def XTr (h0:Heap) (H:Hp) (h:Heap) (a:Addr) (vs:Array Value):Prop:=∃ T oT ts v3,vs[1]? = some (.ref T)/\T≠a/\h.get? T=some oT/\oT.data = .fields ts/\ts[3]? = some v3/\H T=none/\h0.get? T=none
def XAt (h0:Heap) (H:Hp) (h:Heap) (a C:Addr):Prop:=H a=none/\h0.get? a=none/\∃ oe vs a0,h.get? a=some oe/\oe.cls = .ref C/\oe.data = .fields vs/\vs[0]? = some a0/\(vs[1]? = some .none\/XTr h0 H h a vs)
def XOn (h0:Heap) (H:Hp) (h:Heap) (a C:Addr):Prop:=H a=none/\h0.get? a=none/\∃ oe vs a0,h.get? a=some oe/\oe.cls = .ref C/\oe.data = .fields vs/\vs[0]? = some a0/\XTr h0 H h a vs
theorem XOn.at_ {h0:Heap}{H:Hp}{h:Heap}{a C:Addr}(x:XOn h0 H h a C):XAt h0 H h a C:=let ⟨p,q,oe,vs,a0,h1,h2,h3,h4,h5⟩:=x; ⟨p,q,oe,vs,a0,h1,h2,h3,h4,.inr h5⟩
def CXE (P:Program) (w:World):CXT:=fun outer H s E e s'=>∃ a C H',e = .ref a/\s'.os=s.os/\AllBare s'.gens/\Un (frs outer) [] H H' s.heap s'.heap/\HOk P w H' s'.heap/\XAt s.heap H' s'.heap a C/\E (.ref C) none H'
structure Xp (X:Cx) (E:St->XK):Prop where
 h:∀ pins σ H s a C,Inv X pins σ H s->XAt X.s₀.heap H s.heap a C->E σ (.ref C) none H->X.xe (.ref a) s
theorem ObjOk.ex {P:Program}{w:World}{H:Hp}{h:Heap}{a:Addr}{o:HO}(x:ObjOk P w H h a o):∃ u,h.get? a=some u:=by
 cases o with
 | lst xs=>obtain ⟨_,_,_,_,e⟩:=x; exact ⟨_,e⟩
 | tup xs=>obtain ⟨_,_,_,_,e,_⟩:=x; exact ⟨_,e⟩
 | dK kvs=>obtain ⟨_,_,_,_,o,_,_,e,_⟩:=x; exact ⟨_,e⟩
 | dT kvs=>obtain ⟨_,_,_,_,o,_,_,e,_⟩:=x; exact ⟨_,e⟩
 | set S n=>obtain ⟨o,_,_,_,e,_⟩:=x; exact ⟨_,e⟩
 | ins C dx fs=>obtain ⟨_,_,_,e,_⟩:=x; exact ⟨_,e⟩
 | own y=>exact x
 | xd fs=>obtain ⟨_,⟨_,_,_,e,_⟩,_⟩:=x; exact ⟨_,e⟩
 | rng lo hi=>obtain ⟨_,_,_,e⟩:=x; exact ⟨_,e⟩
 | frz ob u=>obtain ⟨e,_⟩:=x; exact ⟨_,e⟩
 | tbl ps=>obtain ⟨_,_,_,e,_⟩:=x; exact ⟨_,e⟩
 | met f y=>exact ⟨_,x⟩
 | ext φ=>obtain ⟨_,e,_⟩:=x; exact e
section
variable {X:Cx}{σ:List (Option V)}{H H':Hp}{s:Shared}{h':Heap}
theorem Inv.stepN {g':Array GenState}{t':Nat}{d':Drawn}{ch:List Addr}(I:Inv X [] σ H s) (hpn:X.pn = [])
  (hch:∀ b∈ch,X.s₀.heap.get? b=none/\b≠X.env.locals/\∀ x c,X.env.cells.lookup x=some c->c≠b)
  (keep:∀ b o,b≠X.env.locals->b∉X.fs->b∉ch->s.heap.get? b=some o->H b=none->h'.get? b=some o)
  (slot:∀ b o,b≠X.env.locals->b∈X.fs->b∉ch->s.heap.get? b=some o->H b=none->∃ sl,h'.get? b=some {o with slots:=sl })
  (there:∀ b o,b∉ch->s.heap.get? b=some o->∃ o',h'.get? b=some o')
  (ns:∀ m,s.heap.Ns X.env.locals m->h'.Ns X.env.locals m) (hok:HOk X.prog X.w H h') (hg:AllBare g') :
  Inv X [] σ H {s with heap:=h',gens:=g',drawn:=d',toks:=t' }:=by
 have neL:∀ b o,X.s₀.heap.get? b=some o->b≠X.env.locals:=fun b o e=>Nat.ne_of_lt (Nat.lt_of_lt_of_le (Heap.lt_size e) I.ok.above)
 have neC:∀ b o,X.s₀.heap.get? b=some o->b∉ch:=fun b o e hb=>by
  have:=(hch b hb).1
  rw [e] at this; cases this
 have cellK:∀ x c,X.env.cells.lookup x=some c->∀ v,s.heap.IsCell c v->h'.IsCell c v:=fun x c e v ⟨o,ho,hd⟩=>by
  have nch:c∉ch:=fun z=>(hch c z).2.2 x c e rfl
  by_cases hc:c∈X.fs
  ·obtain ⟨sl,q⟩:=slot c o (I.cne x c e) hc nch ho (I.freeC x c e)
   exact ⟨_,q,hd⟩
  ·exact ⟨o,keep c o (I.cne x c e) hc nch ho (I.freeC x c e),hd⟩
 refine ⟨I.ok,I.os,hg,⟨fun b o e n hb hx=>?_,fun b o e n hb hx=>?_,fun b o e n hx=>I.base.free b o e n hx,fun b o e hx=>?_,I.base.tups,I.base.frzs,I.base.tbls⟩,?_,fun x c e=>?_,I.free,I.freeC,fun p hp=>?_,hok,I.len⟩
 ·exact keep b o (neL b o e) hb (neC b o e) (I.base.keep b o e n hb hx) (I.base.free b o e n hx)
 ·obtain ⟨sl,e1⟩:=I.base.slot b o e n hb hx
  obtain ⟨sl',e2⟩:=slot b _ (neL b o e) hb (neC b o e) e1 (I.base.free b o e n hx)
  exact ⟨sl',e2⟩
 ·obtain ⟨o',e1⟩:=I.base.there b o e hx
  exact there b o' (neC b o e) e1
 ·obtain ⟨m,hn,hl⟩:=I.loc
  refine ⟨m,ns m hn,fun i x v e1 e2 e3=>?_⟩
  obtain ⟨u,r,l⟩:=hl i x v e1 e2 e3
  refine ⟨u,r,?_⟩
  rcases l with l | ⟨k,c,e,z⟩
  ·exact .inl l
  ·exact .inr ⟨k,c,e,cellK x c e _ z⟩
 ·obtain ⟨v,z⟩:=I.cell x c e
  exact ⟨v,cellK x c e v z⟩
 ·rw [hpn] at hp; cases hp
theorem Inv.noted {hs:List Addr}(I:Inv X [] σ H s) (hpn:X.pn = []) (hh:∀ b∈hs,X.s₀.heap.get? b=none/\H b=none/\∃ o vs,s.heap.get? b=some o/\o.data = .fields vs)
  (st:(PySem.W.hideAll s.heap (hs++frs X.stack)).StaysIn h') (up:∀ b o,s.heap.get? b=some o->(∀ vs,o.data ≠ .fields vs)->∃ sl,h'.get? b=some {o with slots:=sl }):Inv X [] σ H {s with heap:=h' }:=by
 obtain ⟨m,⟨oL,esL,epL,hoL,hdL,rL⟩,_⟩:=id I.loc
 have kp:∀ b o,b∉hs->b∉frs X.stack->s.heap.get? b=some o->h'.get? b=some o:=fun b o n1 n2 e=>st b o (PySem.W.hideAll_get _ e fun hm=>(List.mem_append.mp hm).elim n1 n2)
 have fr:∀ b,b∈frs X.stack->∃ o,s.heap.get? b=some o/\∀ vs,o.data ≠ .fields vs:=fun b hb=>(I.stack.mem hb).2
 refine I.stepN (g':=s.gens) (d':=s.drawn) (t':=s.toks) (ch:=hs) hpn (fun b hb=>?_) (fun b o hL hf hc e _=>kp b o hc (fun z=>(List.mem_cons.mp (I.stkSub b z)).elim hL hf) e) (fun b o hL hf _ e _=>?_) (fun b o hc e=>?_) (fun m' hm=>?_) (fun b u e=>?_) I.bare
 ·obtain ⟨h1,h2,o,vs,e,d⟩:=hh b hb
  refine ⟨h1,fun z=>?_,fun x c ec z=>?_⟩
  ·rw [z,hoL] at e; cases e; rw [hdL] at d; cases d
  ·obtain ⟨v,oc,ho,hd⟩:=I.cell x c ec
   rw [z,e] at ho; cases ho; rw [d] at hd; cases hd
 ·obtain ⟨o',e',d⟩:=(I.funs.mem (show b∈X.outer.filterMap (·.frame) from hf)).2
  rw [e] at e'; cases e'
  exact up b o e d
 ·by_cases hb:b∈frs X.stack
  ·obtain ⟨o',e',d⟩:=fr b hb
   rw [e] at e'; cases e'
   obtain ⟨sl,q⟩:=up b o e d
   exact ⟨_,q⟩
  ·exact ⟨o,kp b o hc hb e⟩
 ·obtain ⟨o,es,ep,ho,d,r⟩:=hm
  obtain ⟨sl,q⟩:=up _ o ho fun vs z=>by rw [d] at z; cases z
  exact ⟨_,es,ep,q,d,r⟩
 ·have nh:∀ c v,H c=some v->c∉hs/\c∉frs X.stack:=fun c v ec=>⟨(fun z=>by rw [(hh c z).2.1] at ec; cases ec),(fun z=>by rw [I.stkFree c z] at ec; cases ec)⟩
  refine (I.hok b u e).stay (fun c v hc q=>?_) (fun _ q=>q) fun _ _ q=>q
  rcases hc with rfl | hc
  ·exact kp c v (nh c _ e).1 (nh c _ e).2 q
  ·exact kp c v (nh c _ hc).1 (nh c _ hc).2 q
end
section
variable {X:Cx}{σ:List (Option V)}{H:Hp}{s:Shared}{a C:Addr}{M:Model}{E:Value->Shared->Prop}{Q:Unit->Shared->Prop}
theorem Zix (I:Inv X [] σ H s) (hpn:X.pn = []) (hex:X.ex = []) (stk:X.stack=X.env::X.outer) (hf:X.env.frame=some X.env.locals) (x:XAt X.s₀.heap H s.heap a C)
  (k:∀ h',Inv X [] σ H {s with heap:=h' }->XOn X.s₀.heap H h' a C->(∀ b o,s.heap.get? b=some o->(∀ vs,o.data ≠ .fields vs)->∃ sl,h'.get? b=some {o with slots:=sl })->Q () {s with heap:=h' }) :
  wpAny M X.A (noteFrame (.ref a) X.env) Q E s:=by
 obtain ⟨ha,h0a,oe,vs,a0,he,hc,hd,v0,tr⟩:=x
 have fin:∀ (hs:List Addr),a∈hs->(∀ b∈hs,X.s₀.heap.get? b=none/\H b=none/\∃ o vs,s.heap.get? b=some o/\o.data = .fields vs) ->
   ∀ h1,Heap.NotedW (PySem.W.hideAll s.heap (hs++frs X.stack)) (X.env::X.outer) a (.ref C) a0 (rawInt X.env.locals) s.heap h1->Q () {s with heap:=h1 }:=by
  intro hs has hh h1 N
  refine k h1 (I.noted hpn hh N.1 N.2.2.2) ?_ N.2.2.2
  obtain ⟨oe',vs',T,oT,ts,he',⟨hc',v0'⟩,hd',h1',hnT,hTe,hT,hdT,h3⟩:=N.2.2.1
  have no:∀ o,s.heap.get? T=some o->T∉hs->T∉frs X.stack->False:=fun o e n1 n2=>by
   have:=PySem.W.hideAll_get (hs++frs X.stack) e fun hm=>(List.mem_append.mp hm).elim n1 n2
   rw [this] at hnT; cases hnT
  have nfr:T∉frs X.stack:=fun z=>by
   rw [stk] at z
   obtain ⟨_,o,e,d⟩:=N.2.1.mem (show T∈(X.env::X.outer).filterMap (·.frame) from z)
   rw [hT] at e; cases e; exact d ts hdT
  refine ⟨ha,h0a,oe',vs',a0,he',hc',hd',v0',T,oT,ts,_,h1',hTe,hT,hdT,h3,?_,?_⟩
  ·cases q:H T with
   | none=>rfl
   | some u =>
    obtain ⟨o,e⟩:=(I.hok T u q).ex
    exact (no o e (fun z=>by rw [(hh T z).2.1] at q; cases q) nfr).elim
  ·cases q:X.s₀.heap.get? T with
   | none=>rfl
   | some o =>
    obtain ⟨o',e⟩:=I.base.there T o q (by rw [hex]; simp)
    exact (no o' e (fun z=>by rw [(hh T z).1] at q; cases q) nfr).elim
 have hfr:X.A.frames=some (X.env::X.outer):=by rw [← stk]; exact I.ok.frames
 have hl:∀ hs:List Addr,s.heap.FunFrames (PySem.W.hideAll s.heap (hs++frs X.stack)) (X.env::X.outer):=fun hs=>by
  rw [← stk]
  exact PySem.W.funFrames_hide I.stack fun env he b hb=>List.mem_append_right _ (List.mem_filterMap.mpr ⟨env,he,hb⟩)
 have hkb:∀ hs:List Addr,(PySem.W.hideAll s.heap (hs++frs X.stack)).StaysIn s.heap:=fun hs b o q=>PySem.W.of_hideAll _ q
 rcases tr with v1 | ⟨T,oT,ts,v3,v1,hTe,hT,hdT,h3,hHT,h0T⟩
 ·have hh:∀ b ∈ [a],X.s₀.heap.get? b=none/\H b=none/\∃ o vs,s.heap.get? b=some o/\o.data = .fields vs:=fun b hb=>by
   rw [List.mem_singleton] at hb; subst hb; exact ⟨h0a,ha,oe,vs,he,hd⟩
  unfold noteFrame
  simp only [hf]
  refine wpAny_bind (wpAny_field he hd v1 ?_)
  rw [if_neg (by decide)]
  refine wpAny_entryW (base:=PySem.W.hideAll s.heap ([a]++frs X.stack)) hfr (hl _) hf he (hkb _) (PySem.W.hideAll_none _ (by simp)) hd (Array.getElem?_eq_some_iff.mp v1).1 v0 fun h1 N=>?_
  rw [hc] at N
  exact fin [a] (by simp) hh h1 N
 ·have hh:∀ b ∈ [a,T],X.s₀.heap.get? b=none/\H b=none/\∃ o vs,s.heap.get? b=some o/\o.data = .fields vs:=fun b hb=>by
   rcases List.mem_cons.mp hb with rfl | hb
   ·exact ⟨h0a,ha,oe,vs,he,hd⟩
   ·rw [List.mem_singleton] at hb; subst hb; exact ⟨h0T,hHT,oT,ts,hT,hdT⟩
  unfold noteFrame
  simp only [hf]
  refine wpAny_bind (wpAny_field he hd v1 ?_)
  rw [if_pos (show (Value.ref T != Value.none)=true from by simp)]
  refine wpAny_bind (wpAny_field hT hdT h3 ?_)
  by_cases zz:(v3 == rawInt X.env.locals)=true
  ·rw [if_pos zz]
   exact wpAny_pure (k s.heap I ⟨ha,h0a,oe,vs,a0,he,hc,hd,v0,T,oT,ts,v3,v1,hTe,hT,hdT,h3,hHT,h0T⟩ fun b o e _=>⟨o.slots,e⟩)
  ·rw [if_neg zz]
   refine wpAny_bind (wpAny_setField hT hdT (Array.getElem?_eq_some_iff.mp h3).1 ?_)
   have oth:∀ b,b≠T->(s.heap.update T (Obj.mapFields (·.setIfInBounds 3 Value.none))).get? b=s.heap.get? b:=fun b hb=>Heap.get?_update_other _ _ (Ne.symm hb)
   have nr:∀ b o,s.heap.get? b=some o->(∀ vs,o.data ≠ .fields vs)->b≠T:=fun b o hb hn q=>by
    rw [q,hT] at hb; injection hb with hb; subst hb; exact hn ts hdT
   have hbT:(PySem.W.hideAll s.heap ([a,T]++frs X.stack)).get? T=none:=PySem.W.hideAll_none _ (by simp)
   refine wpAny_entryW (base:=PySem.W.hideAll s.heap ([a,T]++frs X.stack)) hfr ((hl _).of_keeps fun b o hb hn=>⟨o,(oth b (nr b o hb hn)).trans hb,rfl⟩) hf ((oth a (Ne.symm hTe)).trans he)
    (fun b o hbo=>(oth b fun q=>by rw [q,hbT] at hbo; cases hbo).trans (hkb _ b o hbo)) (PySem.W.hideAll_none _ (by simp)) hd (Array.getElem?_eq_some_iff.mp v1).1 v0
    fun h1 ⟨x1,x2,x3,x4⟩=>?_
   rw [hc] at x3
   exact fin [a,T] (by simp) hh h1 ⟨x1,x2,x3,fun b o hb hn=>x4 b o ((oth b (nr b o hb hn)).trans hb) hn⟩
theorem Zdz {A:Around}{fr:Option Addr}(I:Inv X [] σ H s) (hpn:X.pn = []) (x:XOn X.s₀.heap H s.heap a C)
  (k:∀ h',Inv X [] σ H {s with heap:=h' }->XOn X.s₀.heap H h' a C->Q () {s with heap:=h' }):wpAny M A (setFlight (.ref a) fr) Q E s:=by
 obtain ⟨ha,h0a,oe,vs,a0,he,hc,hd,v0,T,oT,ts,v3,v1,hTe,hT,hdT,h3,hHT,h0T⟩:=x
 have sz3:=(Array.getElem?_eq_some_iff.mp h3).1
 unfold setFlight
 refine wpAny_bind (wpAny_field he hd v1 ?_)
 rw [if_pos (show (Value.ref T != Value.none)=true from by simp)]
 refine wpAny_setField hT hdT sz3 ?_
 have oth:∀ b,b≠T->(s.heap.update T (Obj.mapFields (·.setIfInBounds 3 (fr.elim Value.none fun f=>rawInt f)))).get? b=s.heap.get? b:=fun b hb=>Heap.get?_update_other _ _ (Ne.symm hb)
 refine k _ (I.noted (hs:=[T]) hpn (fun b hb=>by rw [List.mem_singleton] at hb; subst hb; exact ⟨h0T,hHT,oT,ts,hT,hdT⟩) (fun b o q=>?_) fun b o hb hn=>⟨o.slots,(oth b fun q=>by rw [q,hT] at hb; cases hb; exact hn ts hdT).trans hb⟩)
  ⟨ha,h0a,oe,vs,a0,(oth a (Ne.symm hTe)).trans he,hc,hd,v0,T,_,_,(fr.elim Value.none fun f=>rawInt f),v1,hTe,Heap.get?_update_self _ hT (Obj.isFreed_of_fields (Obj.data_mapFields hdT _)),Obj.data_mapFields hdT _,by simp [sz3],hHT,h0T⟩
 refine (oth b fun z=>?_).trans (PySem.W.of_hideAll _ q)
 rw [z,PySem.W.hideAll_none _ (by simp)] at q
 cases q
theorem Zij (I:Inv X [] σ H s) (hpn:X.pn = []) (hex:X.ex = []) (stk:X.stack=X.env::X.outer) (hf:X.env.frame=some X.env.locals) (x:XAt X.s₀.heap H s.heap a C)
  (k:∀ h',Inv X [] σ H {s with heap:=h' }->XAt X.s₀.heap H h' a C->Q () {s with heap:=h' }) :
  wpAny M X.A (noteFrame (.ref a) X.env) (fun _ s₂=>wpAny M X.A (setFlight (.ref a) none) Q E s₂) E s :=
 Zix I hpn hex stk hf x fun h1 I1 x1 _=>Zdz (s:={s with heap:=h1 }) I1 hpn x1 fun h2 I2 x2=>k h2 I2 x2.at_
end
end L2
namespace L2
open PySem PySem.Spec PyProof.Rows
theorem XAt.mono {h0 h1 h:Heap}{H:Hp}{a C:Addr}(x:XAt h0 H h a C) (k:∀ b,h0.get? b=none->h1.get? b=none):XAt h1 H h a C:=by
 obtain ⟨ha,h0a,oe,vs,a0,he,hc,hd,v0,tr⟩:=x
 refine ⟨ha,k a h0a,oe,vs,a0,he,hc,hd,v0,?_⟩
 rcases tr with v1 | ⟨T,oT,ts,v3,v1,hTe,hT,hdT,h3,hHT,h0T⟩
 ·exact .inl v1
 ·exact .inr ⟨T,oT,ts,v3,v1,hTe,hT,hdT,h3,hHT,k T h0T⟩
theorem Ul {P:Program}{w:World}{K:PySem.W.Frag}{mg:Str->Option Value}{base:Heap}{N:List Str}{qual:Str}{scope:Scope}{f:Addr}{cd:Value}{A:Around}{outer:List Env}{s:Shared}{H:Hp}{E:XK} :
  Xp (Yl (CXE P w) P w K mg base N qual scope f cd A outer s H E) fun _=>E:=⟨fun pins σ H1 s1 a C I x hE=>by
 have I':=I.pins_of (pins':=[]) (fun p hp=>nomatch hp)
 show wpAny _ _ (noteFrame _ _ >>= fun _=>setFlight _ none) _ _ _
 refine wpAny_bind (Zij (X:=Yl (CXE P w) P w K mg base N qual scope f cd A outer s H E) I' rfl rfl rfl rfl x fun h' J y=>?_)
 exact ⟨a,C,H1,rfl,J.os,J.bare,J.base,J.hok,y,hE⟩⟩
section
variable {X:Cx}{E:St->XK}
theorem Inv.newer {pins:List (Addr×Obj)}{σ:St}{H:Hp}{s:Shared}(I:Inv X pins σ H s) (hex:X.ex = []):∀ b,s.heap.get? b=none->X.s₀.heap.get? b=none:=fun b e=>by
 cases q:X.s₀.heap.get? b with
 | none=>rfl
 | some o =>
  obtain ⟨o',e'⟩:=I.base.there b o q (by rw [hex]; simp)
  rw [e] at e'; cases e'
structure Xq (X:Cx) (E:St->XK):Prop where
 h:(∀ σ c d H,¬ E σ c d H)\/(X.ex = []/\Xp X E)
theorem Xq.pass {pins:List (Addr×Obj)}{σ:St}{H:Hp}{s s':Shared}{e:Value}(hx:Xq X E) (I:Inv X pins σ H s) (h:CXE X.prog X.w X.stack H s (E σ) e s'):X.xe e s':=by
 obtain ⟨a,C,H',rfl,os,bare,un,hok,x,hE⟩:=h
 rcases hx.h with z | ⟨hex,hx⟩
 ·exact (z _ _ _ _ hE).elim
 obtain ⟨hh,g,d,t,os'⟩:=s'
 obtain rfl:os'=s.os:=os
 have J:=I.call (h':=hh) (g':=g) (d':=d) (t':=t) (ch:=[]) un hok bare (fun b z=>absurd z (by simp))
 exact hx.h pins σ H' _ a C J (x.mono (I.newer hex)) hE
theorem Zah {P:Program}{w:World}{K:PySem.W.Frag}{mg:Str->Option Value}{base:Heap}{N:List Str}{qual:Str}{scope:Scope}{f:Addr}{cd:Value}{A:Around}{outer:List Env}{s:Shared}{H:Hp}{E:XK} :
  Xq (Yl (CXE P w) P w K mg base N qual scope f cd A outer s H E) fun _=>E:=⟨.inr ⟨rfl,Ul⟩⟩
end
structure Run (P:Program) (w:World) (K:PySem.W.Frag) (mg:Str->Option Value) (base:Heap) (k:Nat) (f:Addr) (sp:Sp):Prop where
 run:∀ (A:Around) (outer:List Env) (s:Shared) (H:Hp) (us:List Value) (vs:List V) (Q:VK) (E:XK),Room k A->Env0 P w K mg base A outer s H->Vals vs us->sp vs H Q E->codeAny (model P w) A (.call (.ref f) ⟨us,[]⟩) (CR (CXE P w) outer P w H s Q E) s
theorem FnOk.runX {P:Program}{w:World}{K:PySem.W.Frag}{mg:Str->Option Value}{base:Heap}{k:Nat}{f:Addr}{fd:FuncData}{ps:List Str}{sp:Sp}(F:FnOk P w K mg base (CXE P w) k f fd ps sp) (hb:Binds K fd ps []):Run P w K mg base k f sp :=
 ⟨fun A outer s H us vs Q E hr e0 r h=>by
  have KX:K.In s.heap:=e0.mod.kin.keeps fun b o e=>(e0.bs b o e).1
  have hl:us.length=ps.length:=by rw [← r.length]; exact F.len _ _ _ _ h
  have hb':BindsTo s fd ⟨us,[]⟩ (ps.zip us):=by
   have:=hb s us KX (by rw [List.append_nil]; exact hl)
   rw [List.append_nil] at this
   exact this
  exact F.run A outer s H ⟨us,[]⟩ us vs Q E hr e0 hb' r h⟩
def FnX (P:Program) (w:World) (K:PySem.W.Frag) (mg:Str->Option Value) (base:Heap) (x:Str) (k:Nat) (sp:Sp):Prop :=
 ∃ f,mg x=some (.ref f)/\PySem.W.keepIn K (.ref f)=true/\Run P w K mg base k f sp
structure MtX (P:Program) (w:World) (K:PySem.W.Frag) (mg:Str->Option Value) (base:Heap) (C:Addr) (m:Str) (k:Nat) (sp:Sp):Prop where
 ex:∃ (f:Addr),Meth K C m f/\Run P w K mg base k f sp
section
variable {P:Program}{w:World}{K:PySem.W.Frag}{mg:Str->Option Value}{base:Heap}{C:Addr}{x:Str}{ps:List Str}{k k':Nat}{sp sp':Sp}
end
def Zzy (sp:Sp) (E:St->XK) (t:TA):TE:=fun σ H Q=>t σ H fun vs H1=>sp vs H1 Q (E σ)
section
variable {X:Cx}{E:St->XK}{k:Nat}{f C:Addr}{sp:Sp}{x m:Str}{p pos apos:Pos}{e o:Expr}{es:List Expr}{ta:TE}{t:TA}
theorem Zsx {pins:List (Addr×Obj)}{σ:St}{H:Hp}{s:Shared}{Q:VK}{us:List Value}{vs:List V}(F:Run X.prog X.w X.K X.mg X.base k f sp) (hr:Room k X.A) (hx:Xq X E)
  (I:Inv X pins σ H s) (r:Vals vs us) (h:sp vs H Q (E σ)):wpAny (model X.prog X.w) X.A (call (.ref f) us) (EP X pins σ Q) X.xe s:=by
 refine wpAny_call (codeAny_mono (F.run X.A X.stack s H us vs Q (E σ) hr I.env0 r h) fun r s' hq=>?_)
 cases r with
 | error e=>exact hx.pass I hq
 | ok fl =>
  cases fl with
  | ret u=>exact I.after hq
  | next=>exact False.elim hq
  | brk=>exact False.elim hq
  | cont=>exact False.elim hq
theorem Um (hx:Xq X E) (F:FnX X.prog X.w X.K X.mg X.base x k sp) (hr:Room k X.A) (n:Nm X.env.scope x .globalImplicit) (ha:QA X (e::es) t)
  (he:starEach (e::es) X.env=(false,eval e X.env)::starEach es X.env:=by rfl) (hpl:(backTo pos (starEach es X.env)).any (·.1)=false:=by rfl) :
  QE X (.Call (.Name x p) (e::es) [] pos) (Zzy sp E t):=⟨by
 obtain ⟨f,hm,hk,G⟩:=F
 intro pins s σ H Q I h
 refine wpAny_Call_Name_kw (U6 I n.1 hm ?_ n.2.1)
 refine PySem.W.callWith_K (h₀:=X.base) I.ok.mod.kin hk (thn (ha.h pos pins s σ H _ I h) fun us s1 ⟨vs,H1,I1,r,q⟩=>⟨I1.kIn,?_⟩) he hpl
 exact Zsx G hr hx I1 r q⟩
end
section
variable {P:Program}{w:World}{K:PySem.W.Frag}{mg:Str->Option Value}{base:Heap}
theorem Fun.okX {x qual:Str}{st:Stmt}{f:Addr}{fd:FuncData}{N ps:List Str}{k:Nat}{sp:Sp}(F:Fun K x qual st f fd) (S:FnScope N ps (Za st)) (len:∀ vs H Q E,sp vs H Q E->vs.length=ps.length)
  (hbody:∀ (cdv:Value) (A:Around) (outer:List Env) (s:Shared) (H:Hp) (vs:List V) (Q:VK) (E:XK),Room k (A.deeper (envOfC qual (Za st) s.heap.objs.size f cdv))->sp vs H Q E ->
   ∃ t,QSs (Yl (CXE P w) P w K mg base N qual (Za st) f cdv A outer s H E) (Yw st) t/\t {nx:=fun _ H'=>Q .non H',rt:=Q } (Yv N vs) H):FnOk P w K mg base (CXE P w) (k+1) f fd ps sp:=by
 obtain ⟨oc,od,kV,doc,pm,an,cdv,ct,osl,rfl,lk,hcd⟩:=F.ex
 refine Zlc lk hcd S len fun A outer s H vs Q E hr hsp=>?_
 obtain ⟨t,h,q⟩:=hbody cdv A outer s H vs Q E hr hsp
 exact ⟨t,h.h,q⟩
theorem Has.fnX {x:Str}{st:Stmt}{N ps:List Str}{k:Nat}{sp:Sp}(h:Has K mg x st) (S:FnScope N ps (Za st))
  (hb:∀ (kV doc pm:Value) (an:Option Addr) (cdv ct:Value) (us:List Value),us.length=ps.length->bindArgs (PySem.W.fnOf x x (W3 st) (Yw st) (Za st) .none kV doc pm an cdv ct) ⟨us,[]⟩=pure (ps.zip us))
  (len:∀ vs H Q E,sp vs H Q E->vs.length=ps.length)
  (hbody:∀ (f:Addr) (cdv:Value) (A:Around) (outer:List Env) (s:Shared) (H:Hp) (vs:List V) (Q:VK) (E:XK),Room k (A.deeper (envOfC x (Za st) s.heap.objs.size f cdv))->sp vs H Q E ->
   ∃ t,QSs (Yl (CXE P w) P w K mg base N x (Za st) f cdv A outer s H E) (Yw st) t/\t {nx:=fun _ H'=>Q .non H',rt:=Q } (Yv N vs) H):FnX P w K mg base x (k+1) sp:=by
 obtain ⟨f,fd,F,hm⟩:=h
 exact ⟨f,hm,F.kp,(F.okX S len (hbody f)).runX (F.binds hb)⟩
end
end L2
namespace L2
open PySem PySem.Spec PyProof.Rows
def nsX (K:PySem.W.Frag) (N:Addr):Bool:=match K.lookup N with
 | some ⟨_,_,.dict es _,_⟩=>(es.toList.all fun e=>match e.key with | .str _ _=>true | _=>false) && (nsFind es "__init__").isNone
 | _=>false
def vE:List Value:=[.type "ValueError", .type "Exception", .type "BaseException", .type "object"]
def Zgs:List (Option Value)->Bool
 | [_,_,_,_,some v,_]=>v == .builtin "ValueError.__new__"
 | _=>false
def Zm0 (K:PySem.W.Frag):List Value->Bool
 | .ref M::r=>r == vE && (match K.lookup M with | some ⟨_,_,.cls cd,_⟩=>nsX K cd.ns | _=>false)
 | _=>false
def V1 (K:PySem.W.Frag) (C:Addr):Bool:=match K.lookup C with
 | some ⟨c,_,.cls cd,sl⟩=>(c == .type "type") && (cd.hasDel == false) && nsX K cd.ns && Zgs sl.toList && (match cd.mro with | v::r=>(v == .ref C) && Zm0 K r | _=>false)
 | _=>false
theorem Zkk {K:PySem.W.Frag}{h:Heap}{N:Addr}(X:K.In h) (e:nsX K N=true):∃ mN,h.Ns N mN/\mN "__init__" = none:=by
 unfold nsX at e
 split at e
 ·rename_i c d es n sl q
  rw [Bool.and_eq_true] at e
  refine ⟨nsFind es,⟨_,es,n,X _ _ q,rfl,fun en hen=>?_,fun _=>rfl⟩,Option.isNone_iff_eq_none.mp e.2⟩
  have z:=List.all_eq_true.mp e.1 en (Array.mem_toList_iff.mpr hen)
  cases k:en.key with
  | str x t=>exact ⟨x,t,rfl⟩
  | _=>rw [k] at z; cases z
 ·cases e
theorem Zsy:∀ {l:List (Option Value)},Zgs l=true->∃ k0 k1 k2 k3 k5,l = [k0,k1,k2,k3,some (.builtin "ValueError.__new__"),k5]:=by
 intro l e
 unfold Zgs at e
 split at e
 ·exact ⟨_,_,_,_,_,by rw [beq_iff_eq.mp e]⟩
 ·exact Bool.noConfusion e
theorem Zlo {K:PySem.W.Frag}{h:Heap}{C:Addr}(X:K.In h) (e:V1 K C=true) :
  ∃ nm q N bs bm hdct sn sub ab col dd k0 k1 k2 k3 k5 mN,h.get? C=some (excClassObj nm q C N bs bm hdct sn sub ab col dd k0 k1 k2 k3 k5 "ValueError.__new__")/\h.Ns N mN/\mN "__init__" = none/\OwnTail h vE bm:=by
 unfold V1 at e
 split at e
 ·rename_i c d cd sl q
  simp only [Bool.and_eq_true] at e
  obtain ⟨⟨⟨⟨e1,e2⟩,e3⟩,e4⟩,e5⟩:=e
  have e1:=beq_iff_eq.mp e1
  subst e1
  obtain ⟨mN,hn,hi⟩:=Zkk X e3
  obtain ⟨nm,bs,mro,N,qn,hdc,sn,sub,ab,col,hdl⟩:=cd
  have e2:hdl=false:=beq_iff_eq.mp e2
  subst e2
  cases mro with
  | nil=>cases e5
  | cons v r =>
   dsimp only at e5
   rw [Bool.and_eq_true] at e5
   have e6:=beq_iff_eq.mp e5.1
   subst e6
   have e7:=e5.2
   unfold Zm0 at e7
   split at e7
   ·rename_i M r
    rw [Bool.and_eq_true] at e7
    have e8:=beq_iff_eq.mp e7.1
    subst e8
    have e9:=e7.2
    split at e9
    ·rename_i c2 d2 cd2 sl2 q2
     obtain ⟨mM,hM,hMi⟩:=Zkk X e9
     obtain ⟨sl⟩:=sl
     obtain ⟨k0,k1,k2,k3,k5,rfl⟩:=Zsy (l:=sl) e4
     ·exact ⟨nm,qn,N,bs,.ref M::vE,hdc,sn,sub,ab,col,d,k0,k1,k2,k3,k5,mN,X _ _ q,hn,hi,.own (X _ _ q2) hM hMi .base⟩
    ·cases e9
   ·cases e7
 ·cases e
def Zuu (E:St->XK) (C:Addr) (te:TE):TS:=fun _ σ H=>te σ H fun _ H1=>E σ (.ref C) none H1
section
variable {X:Cx}{E:St->XK}{C:Addr}{x:Str}{np cpos pos:Pos}{e:Expr}{te:TE}
theorem Zca (hx:Xp X E) (hcl:X.calm=true) (hex:X.ex = []) (xc:V1 X.K C=true) (n:Nm X.env.scope x .globalImplicit) (hm:X.mg x=some (.ref C)) (he:QE X e te)
  (hs:starEach [e] X.env = [(false,eval e X.env)]:=by rfl):QS X (.Raise (some (.Call (.Name x np) [e] [] cpos)) none pos) (Zuu E C te):=⟨by
 intro pins s σ H D I h
 obtain ⟨nm,q,N,bs,bm,hdct,sn,sub,ab,col,dd,k0,k1,k2,k3,k5,mN,hC,hn,hi,T⟩:=Zlo I.kIn xc
 refine wpAny_Raise_call_subU (C:=C) (N:=N) (nm:=nm) (q:=q) (bs:=bs) (bm:=bm) (bmB:=vE) (hdct:=hdct) (sn:=sn) (sub:=sub) (ab:=ab) (col:=col) (dd:=dd) (k0:=k0) (k1:=k1) (k2:=k2) (k3:=k3) (k5:=k5) (mN:=mN)
  F.excBase_ValueError (by decide) F.excBase_ValueError (T.hasType (by decide)) (I.ok.hd hcl) (by rw [hs]; rfl) hi (U6 I n.1 hm ⟨rfl,?_⟩ n.2.1)
 rw [hs]
 refine Calls.evalArgs_plain (Calls.spliced_cons (thn (he.h pins s σ H _ I h) fun u s1 ⟨v,H1,I1,r1,q1⟩=>Calls.spliced_nil ?_))
 have K1:∀ b o,X.base.get? b=some o->s1.heap.get? b=some o:=I1.bk
 obtain ⟨nm',q',N',bs',bm',hdct',sn',sub',ab',col',dd',k0',k1',k2',k3',k5',mN',hC',hn',hi',T'⟩:=Zlo I1.kIn xc
 have lk:∃ o,X.K.lookup C=some o:=by
  unfold V1 at xc
  split at xc
  ·rename_i z; exact ⟨_,z⟩
  ·cases xc
 obtain ⟨oC,hoC⟩:=lk
 have z1:=(I.kIn _ _ hoC).symm.trans hC
 have z2:=(I1.kIn _ _ hoC).symm.trans hC'
 have hC1:s1.heap.get? C=some (excClassObj nm q C N bs bm hdct sn sub ab col dd k0 k1 k2 k3 k5 "ValueError.__new__"):=by rw [hC',← z2,z1]
 have zz:=hC1.symm.trans hC'
 have eN:N=N':=by
  have:=congrArg (fun o:Option Obj=>match o with | some ⟨_,_,.cls cd,_⟩=>cd.ns | _=>0) zz
  exact this
 have ebm:bm=bm':=by
  have:=congrArg (fun o:Option Obj=>match o with | some ⟨_,_,.cls cd,_⟩=>cd.mro | _=>[]) zz
  exact (List.cons.inj this).2
 subst eN ebm
 refine ⟨rfl,by show 1<=sizeLine; decide,hC1,?_,T',fun h' a hx'=>?_⟩
 ·-- the namespace is the same object
  have lkN:∃ o,X.K.lookup N=some o:=by
   unfold V1 at xc
   rw [hoC] at xc
   obtain ⟨c,d,dt,sl⟩:=oC
   cases dt with
   | cls cd =>
    simp only [Bool.and_eq_true] at xc
    have e3:=xc.1.1.2
    have eN:cd.ns=N:=by
     have:=congrArg (fun o:Option Obj=>match o with | some ⟨_,_,.cls cd,_⟩=>cd.ns | _=>0) z1
     exact this
    rw [eN] at e3
    unfold nsX at e3
    split at e3
    ·rename_i z; exact ⟨_,z⟩
    ·cases e3
   | _=>cases xc
  obtain ⟨oN,hoN⟩:=lkN
  obtain ⟨o1,es1,ep1,ho1,r1⟩:=hn
  have:=(I.kIn _ _ hoN).symm.trans ho1
  cases this
  exact ⟨_,es1,ep1,I1.kIn _ _ hoN,r1⟩
 ·obtain ⟨t,e1,e2,e3⟩:=hx'.there
  have I2:Inv X pins σ H1 {s1 with heap:=h' }:=I1.kept (t':=s1.toks) hx'.keeps
  have fr:∀ b,s1.heap.get? b=none->H1 b=none:=fun b z=>by
   cases q:H1 b with
   | none=>rfl
   | some u=>obtain ⟨o,e⟩:=(I1.hok b u q).ex; rw [z] at e; cases e
  refine hx.h pins σ H1 {s1 with heap:=h' } a C I2 ⟨fr a hx'.new,?_,_,_,_,e1,rfl,rfl,rfl,.inl rfl⟩ q1
  cases q:X.s₀.heap.get? a with
  | none=>rfl
  | some o =>
   obtain ⟨o',e'⟩:=I1.base.there a o q (by rw [hex]; simp)
   rw [hx'.new] at e'; cases e'⟩
end
end L2
end
section
set_option Elab.async false
set_option linter.all false
set_option maxRecDepth 100000
set_option maxHeartbeats 4000000
namespace L2
open PySem PySem.Spec PyProof.Rows
abbrev TJ:=St->Hp->(Hp->Prop)->Prop
def PJ (X:Cx) (es:List Expr) (t:TJ):Prop:=∀ (pins:List (Addr×Obj)) (s:Shared) (σ:St) (H:Hp) (Q:Hp->Prop) (acc:Str),Inv X pins σ H s->acc.length+es.length * 1000000<=sizeLine->t σ H Q ->
 Joins (model X.prog X.w) X.A X.xe (evalEach es X.env) acc (fun out s₁=>out.length<=sizeLine/\∃ H',Inv X pins σ H' s₁/\Q H') s
structure QJ (X:Cx) (es:List Expr) (t:TJ):Prop where
 h:PJ X es t
def tJt (n:Nat) (t:TJ):TJ:=fun σ H Q=>n<=1000000/\t σ H Q
def tJf (te:TE) (t:TJ):TJ:=fun σ H Q=>te σ H fun v H1=>((∃ x,v = .str x/\x.length<=1000000)\/(∃ i,v = .int i/\i.natAbs.log2 < 1920))/\t σ H1 Q
def tJr (te:TE) (t:TJ):TJ:=fun σ H Q=>te σ H fun v H1=>(∃ x,v = .str x/\x.length<=10000/\∀ c∈x.cps.toList,c < 16 ^ 8)/\t σ H1 Q
def tJ0:TJ:=fun _ H Q=>Q H
def Zvx (t:TJ):TE:=fun σ H Q=>t σ H fun H1=>∀ x:Str,Q (.str x) H1
section
variable {X:Cx}{es:List Expr}{e:Expr}{te:TE}{t:TJ}{pos:Pos}
theorem Zfd:QJ X [] tJ0:=⟨fun pins s σ H Q acc I hl h=>⟨by simpa using hl,H,I,h⟩⟩
theorem Vy (a b:Str):(a++b).length=a.length+b.length:=strLen_append a b
theorem Zct {x:Str}{j:Nat}(h:QJ X es t) (he:evalEach (.Constant (.str x) j pos::es) X.env=eval (.Constant (.str x) j pos) X.env::evalEach es X.env:=by rfl):QJ X (.Constant (.str x) j pos::es) (tJt x.length t):=⟨by
 intro pins s σ H Q acc I hl hq
 obtain ⟨hx,hq⟩:=hq
 rw [List.length_cons] at hl
 rw [he]
 refine Calls.Constant_str ⟨x,_,rfl,?_,h.h pins _ σ H Q (acc++x) (I.tok _) ?_ hq⟩
 ·rw [Vy]; lia
 ·rw [Vy]; lia⟩
theorem Zkl (h1:QE X e te) (h:QJ X es t) (he:evalEach (.FormattedValue e (-1) none pos::es) X.env=eval (.FormattedValue e (-1) none pos) X.env::evalEach es X.env:=by rfl):QJ X (.FormattedValue e (-1) none pos::es) (tJf te t):=⟨by
 intro pins s σ H Q acc I hl hq
 rw [List.length_cons] at hl
 rw [he]
 refine wpAny_FormattedValue_plain (thn (h1.h pins s σ H _ I hq) fun u s1 ⟨v,H1,I1,rv,hv,q⟩=>?_)
 rcases hv with ⟨x,rfl,hx⟩ | ⟨i,rfl,hi⟩
 ·obtain ⟨tk,rfl⟩:=rv
  refine formatField_str (fun t' tk'=>⟨x,t',rfl,?_,h.h pins _ σ H1 Q (acc++x) (I1.tok _) ?_ q⟩) (by rw [sizeLine_eq]; lia)
  ·rw [Vy]; lia
  ·rw [Vy]; lia
 ·obtain ⟨tk,rfl⟩:=rv
  have hn:(Str.ofString (toString i)).length<=1921:=by rw [PySem.ofString_length]; exact int_text_length_le (by decide) hi
  refine wpAny_formatField_int hi ⟨_,_,rfl,?_,h.h pins _ σ H1 Q _ (I1.tok _) ?_ q⟩
  ·rw [Vy]; lia
  ·rw [Vy]; lia⟩
theorem Zkm (h1:QE X e te) (h:QJ X es t) (he:evalEach (.FormattedValue e 114 none pos::es) X.env=eval (.FormattedValue e 114 none pos) X.env::evalEach es X.env:=by rfl):QJ X (.FormattedValue e 114 none pos::es) (tJr te t):=⟨by
 intro pins s σ H Q acc I hl hq
 rw [List.length_cons] at hl
 rw [he]
 refine wpAny_FormattedValue_repr (thn (h1.h pins s σ H _ I hq) fun u s1 ⟨v,H1,I1,rv,hv,q⟩=>?_)
 obtain ⟨x,rfl,hx,hc⟩:=hv
 obtain ⟨tk,rfl⟩:=rv
 have hn:=StrLaws.reprText_len x hc
 have hz:(reprText x).length<=sizeLine:=by rw [sizeLine_eq]; lia
 refine wpAny_pyReprObj_gives (x:=reprText x) (typeIs_str _ _ _) F.slot_str_repr F.entry_str_repr (F.args_str_repr_1 _) (gives_str_repr x tk) ?_ rfl hz
 refine formatField_str (fun t' tk'=>⟨_,t',rfl,?_,h.h pins _ σ H1 Q _ ((I1.tok _).tok _) ?_ q⟩) hz
 ·rw [Vy]; lia
 ·rw [Vy]; lia⟩
theorem Zh3 {M:Model}{A:Around}{E:Value->Shared->Prop}{Q Q':Str->Shared->Prop}(hQ:∀ o s,Q o s->Q' o s):∀ {l:List (Sem Value)}{acc:Str}{s:Shared},Joins M A E l acc Q s->Joins M A E l acc Q' s
 | [],_,_,h=>hQ _ _ h
 | _::_,_,_,h=>wpAny_mono h (fun _ _ ⟨y,t,a,b,c⟩=>⟨y,t,a,b,Zh3 hQ c⟩) fun _ _ z=>z
theorem Zd0 {e1 e2:Expr}(h:QJ X (e1::e2::es) t) (hn:es.length<=8:=by decide):QE X (.JoinedStr (e1::e2::es) pos) (Zvx t):=⟨by
 intro pins s σ H Q I hq
 have hs:(Str.empty).length+(e1::e2::es).length * 1000000<=sizeLine:=by
  have:Str.empty.length=0:=rfl
  rw [this,List.length_cons,List.length_cons,sizeLine_eq]; lia
 refine wpAny_JoinedStr ?_
 have key:=h.h pins s σ H _ Str.empty I hs hq
 refine Zh3 (fun out s1 ⟨h1,H1,I1,q⟩=>⟨h1,.str out,H1,I1.tok _,⟨_,rfl⟩,q out⟩) key⟩
end
end L2
end
section
set_option Elab.async false
set_option linter.all false
set_option maxRecDepth 100000
set_option maxHeartbeats 4000000
namespace L2
open PySem PySem.Spec PyProof.Rows PySem.W PySem.Calls PySem.Builtin PySem.Builtin.ObjectAttr PySem.Builtin.Getset_descriptor
def W8 (K:Frag) (C:Addr):Bool:=(clsIn K C).isSome && (findIn K (.ref C) "__getattribute__" == some (some (.builtin "BaseException.__getattribute__"))) && (findIn K (.ref C) "__getattr__" == some none) && (findIn K (.ref C) "__class__" == some (some (.builtin "object.__class__"))) &&
 (mroIn K C (.type "object") == some true) && (mroIn K C (.type "BaseException") == some true)
section
variable {prog:Program}{w:World}{A:Around}{E:Value->Shared->Prop}{h:Heap}{g:Array GenState}{d:Drawn}{t:Nat}{os:OsState}{a C:Addr}{o:Obj}{K:Frag}
theorem Zo4 {tp:Value}{R:Result->Shared->Prop}{s:Shared}(X:K.In s.heap) (L0:Looks (model prog w) s.heap (typeOf (.ref a)) (.ref C)) (hm:mroIn K C (.type "object")=some true)
  (h:R (.ok (.ret (.ref C))) s):codeAny (model prog w) A (.call (.builtin "getset_descriptor.__get__") ⟨[.builtin "object.__class__", .ref a,tp],[]⟩) R s:=by
 obtain ⟨hh,g,dr,t,os⟩:=s
 have L1:=looks_mroIn (M:=model prog w) X hm
 refine codeAny_call_builtin KF.slot_gs.plain KF.entry_gs (KF.slot_gs.check _ _ _ _ _ _ _ _ KF.type_class (KF.args_gs _ _ _) ?_)
 unfold Builtin.«getset_descriptor.__get__» descrGet
 rw [dga_obj]
 refine wpAny_bind (wpAny_pure ?_)
 unfold descrGetter descrCheckInstance descrNameAndClass isInstance
 simp only [KF.owner_class]
 repeat lk
 refine ⟨Code.quiet_builtin _ (by decide +kernel),codeAny_builtin KF.entry_class ?_⟩
 unfold Builtin.«object.__class__» shownTypeOf
 repeat lk
 exact h
structure ExA (h:Heap) (a:Addr) (o:Obj) (C:Addr):Prop where
 at_:h.get? a=some o
 cls:o.cls = .ref C
theorem ExA.type {M:Model}(I:ExA h a o C):Looks M h (typeOf (.ref a)) (.ref C):=I.cls▸(Looks.ld I.at_).andThen .now
theorem Zn3 {tk:Tok}{Q:Fin->Shared->Prop}(X:K.In h) (I:ExA h a o C) (k1:findIn K (.ref C) "__class__" = some (some (.builtin "object.__class__"))) (k2:mroIn K C (.type "object")=some true)
  (hq:Q (.done (.ret (.ref C))) ⟨h,g,d,t,os⟩):wpAny (model prog w) A (Builtin.«object.__getattribute__» ⟨[.ref a,.str "__class__" tk],[]⟩) Q E ⟨h,g,d,t,os⟩:=by
 have hT5:(⟨h,g,d,t,os⟩:Shared).TypeIs (.builtin "object.__class__") "getset_descriptor" := F.typeOf_object_class
 have f5:=F.typeOf_object_class
 have f6:=F.slot_gs_get.lookup
 have f7:=F.slot_gs_set.lookup
 have hx:=I.at_
 have hc:=I.cls
 have L1:=looks_findIn (M:=model prog w) X k1
 repeat (any_goals (first | assumption | (with_reducible refine wpAny_loadPart_at hx ?_; rw [hc]) | with_reducible refine L1.at ?_ | wp_step))
 refine Zo4 (s:=⟨h,g,d,t,os⟩) X I.type k2 ?_
 repeat (any_goals (first | assumption | wp_step))
theorem Zog {M:Model}{nameV:Value}{Q:Unit->Shared->Prop}(X:K.In h) (I:ExA h a o C) (k3:mroIn K C (.type "BaseException")=some true) (hq:Q () ⟨h,g,d,t,os⟩) :
  wpAny M A (checkBuiltinCall "BaseException.__getattribute__" ⟨[.ref a,nameV],[]⟩) Q E ⟨h,g,d,t,os⟩:=by
 have hk:builtinKind "BaseException.__getattribute__" = some .slot:=by decide +kernel
 have hsplit:splitId "BaseException.__getattribute__" = some ("BaseException", "__getattribute__"):=by decide +kernel
 have ha:=F.args_bexc_ga (.ref a) nameV
 have hx:=I.at_
 have hc:=I.cls
 have L1:=looks_mroIn (M:=M) X k3
 simp only [checkBuiltinCall,hk,hsplit]
 refine wpAny_bind ?_
 ·unfold isInstance
  repeat (first | (with_reducible refine wpAny_loadPart_at hx ?_; rw [hc]) | with_reducible refine L1.at ?_ | wp_step)
  exact hq
theorem Zoh {tk:Tok}{fill expr:Bool}{Q:Value->Shared->Prop}(X:K.In h) (I:ExA h a o C) (kc:W8 K C=true) (hq:Q (.ref C) ⟨h,g,d,t,os⟩) :
  wpAny (model prog w) A (getAttrBy (.ref a) (.str "__class__" tk) fill expr) Q E ⟨h,g,d,t,os⟩:=by
 unfold W8 at kc
 simp only [Bool.and_eq_true] at kc
 obtain ⟨⟨⟨⟨⟨_,k1⟩,k2⟩,k3⟩,k4⟩,k5⟩:=kc
 have k1:=beq_iff_eq.mp k1
 have k2:=beq_iff_eq.mp k2
 have k3:=beq_iff_eq.mp k3
 have k4:=beq_iff_eq.mp k4
 have k5:=beq_iff_eq.mp k5
 have f3:=F.attr_ValueError.ga.bind (.ref a)
 have hx:=I.at_
 have hc:=I.cls
 have hx0:(expr && onTheHeap (Value.builtin "BaseException.__getattribute__"))=false:=by cases expr <;> rfl
 have hx2:(Value.builtin "BaseException.__getattribute__" == Value.builtin "object.__getattribute__")=false:=by decide +kernel
 have hx1:(onTheHeap (Value.ref C) && Value.builtin "BaseException.__getattribute__" == Value.builtin "object.__getattribute__")=false:=by rw [hx2]; rfl
 have L1:=looks_findIn (M:=model prog w) X k1
 have L2':=looks_findIn (M:=model prog w) X k2
 repeat (any_goals (first | assumption | (with_reducible refine wpAny_loadPart_at hx ?_; rw [hc]) | with_reducible refine L1.at ?_ | with_reducible refine L2'.at ?_ | wp_step))
 refine codeAny_call_builtin F.attr_ValueError.ga.plain F.entry_bexc_ga (Zog X I k5 (Zn3 X I k3 k4 ?_))
 repeat (any_goals (first | assumption | wp_step))
theorem Zn5 {Q:Option Value->Shared->Prop}(X:K.In h) (I:ExA h a o C) (kc:W8 K C=true) (hq:Q (some (.ref C)) ⟨h,g,d,t+1,os⟩) :
  wpAny (model prog w) A (getAttr? (.ref a) "__class__") Q E ⟨h,g,d,t,os⟩:=by
 unfold getAttr? getAttrBy?
 refine wpAny_bind (wpAny_mkText (wpAny_bind (wpAny_attempt (Zoh X I kc ?_))))
 exact wpAny_pure hq
end
section
variable {K:Frag}{a C:Addr}{o:Obj}
theorem Ziy (kc:W8 K C=true):KitX K (.ref a) (.ref C) (fun h=>ExA h a o C) where
 ty:=fun _ _ _ I=>I.type
 it:=fun _ _ X _=>by
  unfold W8 at kc
  simp only [Bool.and_eq_true] at kc
  obtain ⟨cdD,hcD⟩:=Option.isSome_iff_exists.mp kc.1.1.1.1.1
  unfold clsIn at hcD
  split at hcD
  ·rename_i c' d' cd' sl' ho
   intro A' Q' E' s' k q
   unfold isType loadHead
   exact wpAny_bind (wpAny_loadPart (k _ _ (X _ _ ho)) (wpAny_pure q))
  ·cases hcD
 ne:=fun h tp dd its n sl X htp=>by
  unfold W8 at kc
  simp only [Bool.and_eq_true] at kc
  obtain ⟨cdD,hcD⟩:=Option.isSome_iff_exists.mp kc.1.1.1.1.1
  refine Bool.eq_false_iff.mpr fun q=>?_
  have e:C=tp:=Value.ref.inj (beq_iff_eq.mp q)
  subst e
  unfold clsIn at hcD
  split at hcD
  ·rename_i c' d' cd' sl' ho
   have z:=(X _ _ ho).symm.trans htp
   cases z
  ·cases hcD
 ca:=fun {_ _ _ _ _ s} X I k=>by
  obtain ⟨h,g,d,t,os⟩:=s
  exact Zn5 X I kc k
end
end L2
end
section
set_option Elab.async false
set_option linter.all false
set_option maxRecDepth 100000
set_option maxHeartbeats 4000000
namespace L2
open PySem PySem.Spec PyProof.Rows
abbrev Cx.hnd (X:Cx) (a:Addr) (o:Obj):Cx:={X with A:=X.A.mark (some (.ref a)),calm:=false,pn:=[(a,o)],xe:=fun _ _=>False }
section
variable {X:Cx}{σ:St}{H:Hp}{s:Shared}{a C:Addr}{o:Obj}
theorem Inv.hnd (I:Inv X [] σ H s) (ho:s.heap.get? a=some o) (hH:H a=none) (hd:∃ vs,o.data = .fields vs):Inv (X.hnd a o) [] σ H s:=by
 obtain ⟨vs,hd⟩:=hd
 obtain ⟨m,⟨oL,esL,epL,hoL,hdL,rL⟩,_⟩:=id I.loc
 refine ⟨⟨I.ok.mod,I.ok.kind,I.ok.glob,I.ok.blt,I.ok.above,I.ok.inj,I.ok.has,I.ok.cab,fun z=>Bool.noConfusion z,I.ok.frames,I.ok.stk,I.ok.exf,I.ok.bs,I.ok.bsz,I.ok.noex,I.ok.exfs,I.ok.funs,I.ok.frf⟩,I.os,I.bare,I.base,I.loc,I.cell,I.free,I.freeC,fun p hp=>?_,I.hok,I.len⟩
 have e:p=(a,o):=by simpa using hp
 subst e
 refine ⟨ho,hH,fun z=>?_,fun z=>?_,fun v z=>?_⟩
 ·have z:a=X.env.locals:=z
  rw [z,hoL] at ho; cases ho; rw [hdL] at hd; cases hd
 ·obtain ⟨_,o',e',d⟩:=I.funs.mem (show a∈X.outer.filterMap (·.frame) from z)
  rw [ho] at e'; cases e'; exact d vs hd
 ·have z:o.data = .cell v:=z
  rw [hd] at z; cases z
theorem Inv.unhnd (I:Inv (X.hnd a o) [] σ H s) (ok:X.Ok) (hpn:X.pn = []):Inv X [] σ H s :=
 ⟨ok,I.os,I.bare,I.base,I.loc,I.cell,I.free,I.freeC,(fun p hp=>by rw [hpn] at hp; cases hp),I.hok,I.len⟩
theorem Zrc {M:Model}{A:Around}{E:Value->Shared->Prop}{Q:Unit->Shared->Prop}(I:Inv X [] σ H s) (hpn:X.pn = []) (hex:X.ex = []) (stk:X.stack=X.env::X.outer) (x:XAt X.s₀.heap H s.heap a C)
  (k:∀ h',Inv X [] σ H {s with heap:=h' }->XAt X.s₀.heap H h' a C->Q () {s with heap:=h' }):wpAny M A (setFlight (.ref a) none) Q E s:=by
 obtain ⟨ha,h0a,oe,vs,a0,he,hc,hd,v0,tr⟩:=id x
 rcases tr with v1 | tr
 ·unfold setFlight
  refine wpAny_bind (wpAny_field he hd v1 ?_)
  rw [if_neg (by decide)]
  exact wpAny_pure (k s.heap I x)
 ·exact Zdz I hpn ⟨ha,h0a,oe,vs,a0,he,hc,hd,v0,tr⟩ fun h' I' x'=>k h' I' x'.at_
end
def Vq (K:PySem.W.Frag) (C D:Addr):Option Bool:=if ((PySem.W.clsIn K D).isSome && (PySem.W.typeIn K (.ref D) == some (.type "type")) && (PySem.W.subIn K (.ref D) (.type "BaseException") == some true))=true then PySem.W.subIn K (.ref C) (.ref D) else none
theorem Zn9 {M:Model}{A:Around}{E:Value->Shared->Prop}{s:Shared}{K:PySem.W.Frag}{a C D:Addr}{oe:Obj}{b:Bool}{Q:Bool->Shared->Prop}(X:K.In s.heap) (he:s.heap.get? a=some oe) (hc:oe.cls = .ref C)
  (e:Vq K C D=some b) (q:Q b s):wpAny M A (excMatches (.ref a) (.ref D)) Q E s:=by
 unfold Vq at e
 split at e
 ·rename_i z
  simp only [Bool.and_eq_true] at z
  obtain ⟨⟨z0,z1⟩,z2⟩:=z
  have L0:=PySem.W.looks_typeIn (M:=M) X (beq_iff_eq.mp z1)
  have L1:=PySem.W.looks_subIn (M:=M) X (beq_iff_eq.mp z2)
  have L2:=PySem.W.looks_subIn (M:=M) X e
  have LI:PySem.W.Looks M s.heap (isInstance (.ref D) (.type "tuple")) false:=L0.andThen (PySem.W.Looks.of_pure tc_notTuple)
  obtain ⟨cdD,hcD⟩:=Option.isSome_iff_exists.mp z0
  have LT:PySem.W.Looks M s.heap (isType (.ref D)) true:=by
   unfold PySem.W.clsIn at hcD
   split at hcD
   ·rename_i c' d' cd' sl' ho
    intro A' Q' E' s' k q
    unfold isType loadHead
    exact wpAny_bind (wpAny_loadPart (k _ _ (X _ _ ho)) (wpAny_pure q))
   ·cases hcD
  have LE:PySem.W.Looks M s.heap (isExcClass (.ref D)) true:=LT.andThen L1
  have Lt:PySem.W.Looks M s.heap (typeOf (.ref a)) (.ref C):=hc▸(PySem.W.Looks.ld he).andThen .now
  obtain ⟨h0,g,d,t,os⟩:=s
  unfold excMatches
  refine wpAny_bind (LI.at ?_)
  simp only [Bool.false_eq_true,if_false]
  refine wpAny_bind (wpAny_pure ?_)
  simp only [List.forIn_cons,List.forIn_nil]
  refine wpAny_bind (wpAny_bind (wpAny_bind (LE.at ?_)))
  simp only [Bool.not_true,Bool.false_eq_true,if_false]
  refine wpAny_pure (wpAny_pure ?_)
  refine wpAny_bind (Lt.at (wpAny_bind (wpAny_bind (wpAny_bind (L2.at ?_)))))
  cases b with
  | true=>simp only [if_true]; exact wpAny_pure (wpAny_pure (wpAny_pure q))
  | false=>simp only [Bool.false_eq_true,if_false]; exact wpAny_pure (wpAny_pure (wpAny_pure q))
 ·cases e
def PH (X:Cx) (hs:List ExceptHandler) (t:Addr->TS):Prop:=∀ (a C:Addr) (s:Shared) (σ:St) (H:Hp) (D:Ends),Inv X [] σ H s->XAt X.s₀.heap H s.heap a C->t C D σ H->wpAny (model X.prog X.w) X.A (handleBy (.ref a) X.env hs) (SP X [] D) X.xe s
structure QH (X:Cx) (hs:List ExceptHandler) (t:Addr->TS):Prop where
 h:PH X hs t
def tH0:Addr->TS:=fun _ _ _ _=>False
def Ends.off (D:Ends) (i:Nat):Ends:={nx:=fun σ H=>D.nx (σ.set i none) H,rt:=D.rt,bk:=fun σ H=>D.bk (σ.set i none) H,ct:=fun σ H=>D.ct (σ.set i none) H }
def Zzz (K:PySem.W.Frag) (Dc:Addr) (i:Nat) (ts:Addr->Addr->TS) (tr:Addr->TS):Addr->TS:=fun C D σ H=>∃ b,Vq K C Dc=some b/\if b=true then ∀ a,ts a C (D.off i) (σ.set i (some (.ref a))) H else tr C D σ H
structure Pl (X:Cx):Prop where
 pn:X.pn = []
 ex:X.ex = []
 stk:X.stack=X.env::X.outer
 fr:X.env.frame=some X.env.locals
section
variable {X:Cx}{x n:Str}{np pos:Pos}{b₀:Stmt}{suite:List Stmt}{rest:List ExceptHandler}{Dc:Addr}{tr:Addr->TS}
theorem Zuv:QH X [] tH0:=⟨fun _ _ _ _ _ _ _ _ h=>h.elim⟩
theorem Zrd {a:Addr}{o:Obj}{D:Ends}{f:Flow}{s:Shared}(ok:X.Ok) (hpn:X.pn = []) (h:SP (X.hnd a o) [] D f s):SP X [] D f s:=by
 cases f with
 | next=>obtain ⟨σ,H,I,q⟩:=h; exact ⟨σ,H,I.unhnd ok hpn,q⟩
 | brk=>obtain ⟨σ,H,I,q⟩:=h; exact ⟨σ,H,I.unhnd ok hpn,q⟩
 | cont=>obtain ⟨σ,H,I,q⟩:=h; exact ⟨σ,H,I.unhnd ok hpn,q⟩
 | ret u=>obtain ⟨v,σ,H,I,r,q⟩:=h; exact ⟨v,σ,H,I.unhnd ok hpn,r,q⟩
theorem Inv.unset {i:Nat}{σ:St}{H:Hp}{s:Shared}{h':Heap}{tk:Nat}{m:Str->Option Value}{v:Option Value}(I:Inv X [] σ H s) (hpn:X.pn = []) (hN:X.N.Nodup) (hi:X.N[i]? = some n) (hn:s.heap.Ns X.env.locals m)
  (hn':h'.Ns X.env.locals (fun y=>if y=n then v else m y)) (hs:Heap.SameBut X.env.locals s.heap h'):Inv X [] (σ.set i none) H {s with heap:=h',toks:=tk }:=by
 obtain ⟨m0,hn0,hl⟩:=id I.loc
 have em:∀ y,m0 y=m y:=by
  obtain ⟨o1,e1,p1,g1,d1,_,f1⟩:=hn0
  obtain ⟨o2,e2,p2,g2,d2,_,f2⟩:=hn
  rw [g1] at g2; cases g2
  rw [d1] at d2; cases d2
  intro y; rw [← f1,← f2]
 have cne:=I.cne
 have tracked:HOk X.prog X.w H h':=fun b ob e=>by
  refine (I.hok b ob e).stay (fun c w' hc q=>(hs.2 c ?_).trans q) (fun _ q=>q) fun _ _ q=>q
  rintro rfl
  rcases hc with rfl | hc
  ·rw [I.free] at e; cases e
  ·rw [I.free] at hc; cases hc
 have neL:∀ b o,X.s₀.heap.get? b=some o->b≠X.env.locals:=fun b o e=>Nat.ne_of_lt (Nat.lt_of_lt_of_le (Heap.lt_size e) I.ok.above)
 refine ⟨I.ok,I.os,I.bare,⟨fun b o e nn hb hx=>(hs.2 b (neL b o e)).trans (I.base.keep b o e nn hb hx),fun b o e nn hb hx=>?_,I.base.free,fun b o e hx=>?_,I.base.tups,I.base.frzs,I.base.tbls⟩,⟨_,hn',fun j y v' e1 e2 e3=>?_⟩,fun y c e=>?_,I.free,I.freeC,(fun q hq=>by rw [hpn] at hq; cases hq),tracked,by rw [List.length_set]; exact I.len⟩
 ·obtain ⟨sl,e1⟩:=I.base.slot b o e nn hb hx
  exact ⟨sl,(hs.2 b (neL b o e)).trans e1⟩
 ·obtain ⟨o',e1⟩:=I.base.there b o e hx
  exact ⟨o',(hs.2 b (neL b o e)).trans e1⟩
 ·by_cases hj:j=i
  ·subst hj
   rw [List.getElem?_set] at e2
   split at e2
   ·split at e2 <;> cases e2
   ·rename_i z; exact absurd rfl z
  ·rw [List.getElem?_set_ne (Ne.symm hj)] at e2
   obtain ⟨u',r',q⟩:=hl j y v' e1 e2 e3
   refine ⟨u',r',?_⟩
   rcases q with ⟨k,e⟩ | ⟨k,c,e,z⟩
   ·refine .inl ⟨k,?_⟩
    have ne:y≠n:=fun e=>hj (Zd8 hN e1 (e▸hi))
    show (if y=n then v else m y)=some u'
    rw [if_neg ne,← em]; exact e
   ·exact .inr ⟨k,c,e,z.sameBut hs (cne y c e)⟩
 ·obtain ⟨w',z⟩:=I.cell y c e
  exact ⟨w',z.sameBut hs (cne y c e)⟩
theorem Zvy {i:Nat}{ts:Addr->Addr->TS}(p:Pl X) (nm:Nm X.env.scope x .globalImplicit) (hm:X.mg x=some (.ref Dc)) (hN:X.N.Nodup) (ne:Nm X.env.scope n .local) (hb:∀ a C o,o.cls = .ref C->QSs (X.hnd a o) (b₀::suite) (ts a C)) (hr:QH X rest tr)
  (hi:X.N[i]? = some n:=by rfl):QH X (.ExceptHandler (some (.Name x np)) (some n) (b₀::suite) pos::rest) (Zzz X.K Dc i ts tr):=⟨by
 intro a C s σ H D I xa h
 obtain ⟨b,eb,h⟩:=h
 obtain ⟨ha,h0a,oe,vs,a0,he,hc,hd,v0,_⟩:=id xa
 have J:=I.hnd he ha ⟨vs,hd⟩
 refine wpAny_handleBy_cons (codeAny_handlers_test (U6 (X:=X.hnd a oe) J nm.1 hm ?_ nm.2.1)) (by intro q; cases q)
 refine Zn9 J.kIn he hc eb ?_
 cases b with
 | false=>exact hr.h a C s σ H D I xa h
 | true =>
  refine codeAny_handlers_suite_as (Zrc I p.pn p.ex p.stk xa fun h' I' xa'=>?_)
  obtain ⟨ha',_,oe',vs',_,he',hc',hd',_⟩:=xa'
  refine U3 (X:=X.hnd a oe') (I'.hnd he' ha' ⟨vs',hd'⟩) hN hi (.inl ne.1) (v:=.ref a) rfl (fun s1 I1=>?_) (.inr ne.1)
  refine wpAny_mono ((hb a C oe' hc').h [] _ _ H (D.off i) I1 (h a)) (fun f s2 q=>?_) fun _ _ z=>z.elim
  have q:=Zrd I.ok p.pn q
  have hp:(X.env.scope.kind == .class || (X.env.scope.kind == .module && X.env.locals != X.env.globals))=false:=by rw [I.ok.kind]; rfl
  cases f with
  | next =>
   obtain ⟨σ2,H2,I2,q⟩:=q
   obtain ⟨m,hn,_⟩:=id I2.loc
   exact wpAny_nameGoes_keeps ne.1 hn hp fun h3 v hn3 hs3=>⟨_,H2,I2.unset p.pn hN hi hn hn3 hs3,q⟩
  | brk =>
   obtain ⟨σ2,H2,I2,q⟩:=q
   obtain ⟨m,hn,_⟩:=id I2.loc
   exact wpAny_nameGoes_keeps ne.1 hn hp fun h3 v hn3 hs3=>⟨_,H2,I2.unset p.pn hN hi hn hn3 hs3,q⟩
  | cont =>
   obtain ⟨σ2,H2,I2,q⟩:=q
   obtain ⟨m,hn,_⟩:=id I2.loc
   exact wpAny_nameGoes_keeps ne.1 hn hp fun h3 v hn3 hs3=>⟨_,H2,I2.unset p.pn hN hi hn hn3 hs3,q⟩
  | ret u =>
   obtain ⟨v,σ2,H2,I2,r,q⟩:=q
   obtain ⟨m,hn,_⟩:=id I2.loc
   exact wpAny_nameGoes_keeps ne.1 hn hp fun h3 v' hn3 hs3=>⟨v,_,H2,I2.unset p.pn hN hi hn hn3 hs3,r,q⟩⟩
end
end L2
namespace L2
open PySem PySem.Spec PyProof.Rows
def PS0 (X:Cx) (st:Stmt) (t:TS):Prop:=∀ (s:Shared) (σ:St) (H:Hp) (D:Ends),Inv X [] σ H s->t D σ H->wpAny (model X.prog X.w) X.A (exec st X.env) (SP X [] D) X.xe s
def Zz0 (X:Cx) (st:List Stmt) (t:TS):Prop:=∀ (s:Shared) (σ:St) (H:Hp) (D:Ends),Inv X [] σ H s->t D σ H->wpAny (model X.prog X.w) X.A (execs st X.env) (SP X [] D) X.xe s
structure QS0 (X:Cx) (st:Stmt) (t:TS):Prop where
 h:PS0 X st t
structure QSs0 (X:Cx) (st:List Stmt) (t:TS):Prop where
 h:Zz0 X st t
def Zz1 (tb:(St->XK)->TS) (th:Addr->TS):TS:=fun D σ H=>tb (fun σ' c _ H'=>∃ C,c = .ref C/\th C D σ' H') D σ H
section
variable {X:Cx}{st:Stmt}{rest body:List Stmt}{t u:TS}{h₀:ExceptHandler}{hs:List ExceptHandler}{tb:(St->XK)->TS}{th:Addr->TS}{pos:Pos}
theorem QS.q0 (h:QS X st t):QS0 X st t:=⟨fun s σ H D I q=>h.h [] s σ H D I q⟩
theorem QSs.q0 (h:QSs X rest t):QSs0 X rest t:=⟨fun s σ H D I q=>h.h [] s σ H D I q⟩
theorem Zd1 (h1:QS0 X st t) (h2:QSs0 X rest u):QSs0 X (st::rest) (Vn t u):=⟨by
 intro s σ H D I h
 rw [execs]
 refine wpAny_bind (thn (h1.h s σ H _ I h) fun f s1 q=>?_)
 cases f with
 | next =>
  obtain ⟨σ1,H1,I1,q⟩:=q
  exact h2.h s1 σ1 H1 D I1 q
 | brk=>exact wpAny_pure q
 | cont=>exact wpAny_pure q
 | ret u=>exact wpAny_pure q⟩
theorem Zuw (p:Pl X) (hb:∀ (E':Value->Shared->Prop) (EH:St->XK),Xq (X.wish E') EH->QSs (X.wish E') body (tb EH)) (hh:QH X (h₀::hs) th):QS0 X (.Try body (h₀::hs) [] [] pos) (Zz1 tb th):=⟨by
 intro s σ H D I h
 refine wpAny_Try_except ?_
 have wish:∀ {E'} {σ:St}{H:Hp}{s:Shared},Inv X [] σ H s->Inv (X.wish E') [] σ H s:=fun I=>⟨⟨I.ok.mod,I.ok.kind,I.ok.glob,I.ok.blt,I.ok.above,I.ok.inj,I.ok.has,I.ok.cab,I.ok.hd,I.ok.frames,I.ok.stk,I.ok.exf,I.ok.bs,I.ok.bsz,I.ok.noex,I.ok.exfs,I.ok.funs,I.ok.frf⟩,I.os,I.bare,I.base,I.loc,I.cell,I.free,I.freeC,I.pin,I.hok,I.len⟩
 have unw:∀ {E'} {σ:St}{H:Hp}{s:Shared}{pins:List (Addr×Obj)},Inv (X.wish E') pins σ H s->Inv X pins σ H s:=fun I=>⟨⟨I.ok.mod,I.ok.kind,I.ok.glob,I.ok.blt,I.ok.above,I.ok.inj,I.ok.has,I.ok.cab,I.ok.hd,I.ok.frames,I.ok.stk,I.ok.exf,I.ok.bs,I.ok.bsz,I.ok.noex,I.ok.exfs,I.ok.funs,I.ok.frf⟩,I.os,I.bare,I.base,I.loc,I.cell,I.free,I.freeC,I.pin,I.hok,I.len⟩
 have hx:Xq (X.wish fun e s₁=>wpAny (model X.prog X.w) X.A (noteFrame e X.env) (fun _ s₂=>wpAny (model X.prog X.w) X.A (setFlight e none) (fun _ s₃=>wpAny (model X.prog X.w) X.A (handleBy e X.env (h₀::hs)) (SP X [] D) X.xe s₃) X.xe s₂) X.xe s₁)
   fun σ' c _ H'=>∃ C,c = .ref C/\th C D σ' H':=⟨.inr ⟨p.ex,⟨fun pins σ1 H1 s1 a C I1 x q=>by
  obtain ⟨C',eC,q⟩:=q
  cases eC
  have I2:=(unw I1).pins_of (pins':=[]) (fun p hp=>nomatch hp)
  exact Zij I2 p.pn p.ex p.stk p.fr x fun h' J y=>hh.h a C _ σ1 H1 D J y q⟩⟩⟩
 refine wpAny_mono ((hb _ _ hx).h [] s σ H D (wish I) h) (fun f s1 q=>?_) fun _ _ z=>z
 have q':SP X [] D f s1:=by
  cases f with
  | next=>obtain ⟨σ,H,I,q⟩:=q; exact ⟨σ,H,unw I,q⟩
  | brk=>obtain ⟨σ,H,I,q⟩:=q; exact ⟨σ,H,unw I,q⟩
  | cont=>obtain ⟨σ,H,I,q⟩:=q; exact ⟨σ,H,unw I,q⟩
  | ret u=>obtain ⟨v,σ,H,I,r,q⟩:=q; exact ⟨v,σ,H,unw I,r,q⟩
 cases f with
 | next=>exact wpAny_pure q'
 | brk=>exact q'
 | cont=>exact q'
 | ret u=>exact q'⟩
end
def Zz2 (K:PySem.W.Frag) (a C:Addr):List V->Hp->VK->Prop:=fun xs H Q=>W8 K C=true/\∃ b,((∃ D,xs = [.ref a,.ref D]/\PySem.W.kitOne K (.ref C) (.ref D)=some b)\/(∃ n,xs = [.ref a,.ty n]/\PySem.W.kitOne K (.ref C) (.type n)=some b))/\Q (.bl b) H
theorem Zhp {X:Cx}{a C:Addr}{o:Obj}(hc:o.cls = .ref C):QC (X.hnd a o) (.builtin "isinstance") (Zz2 X.K a C):=⟨by
 intro pins s σ H xs us Q I r h
 obtain ⟨kc,b,hv,q⟩:=h
 have hp:=I.pin (a,o) (List.mem_append_left _ (by simp))
 have hA:ExA s.heap a o C:=⟨hp.1,hc⟩
 have fin:∀ tk,EP (X.hnd a o) pins σ Q (.bool b) {s with toks:=tk }:=fun tk=>⟨.bl b,H,I.tok tk,rfl,q⟩
 rcases hv with ⟨D,rfl,e⟩ | ⟨n,rfl,e⟩
 ·cases r with
  | cons r1 r=>cases r with
   | cons r2 r =>
    cases r
    obtain rfl:=r1
    obtain rfl:=r2
    exact PySem.W.kia_one (Ziy kc) I.kIn hA e (by intro z; cases z) fin
 ·cases r with
  | cons r1 r=>cases r with
   | cons r2 r =>
    cases r
    obtain rfl:=r1
    obtain rfl:=r2
    exact PySem.W.kia_one (Ziy kc) I.kIn hA e (by intro z; cases z) fin⟩
section
variable {P:Program}{w:World}{K:PySem.W.Frag}{mg:Str->Option Value}{base:Heap}
theorem Fun.ok0 {x qual:Str}{st:Stmt}{f:Addr}{fd:FuncData}{N ps:List Str}{k:Nat}{sp:Sp}(F:Fun K x qual st f fd) (S:FnScope N ps (Za st)) (len:∀ vs H Q E,sp vs H Q E->vs.length=ps.length)
  (hbody:∀ (cdv:Value) (A:Around) (outer:List Env) (s:Shared) (H:Hp) (vs:List V) (Q:VK) (E:XK),Room k (A.deeper (envOfC qual (Za st) s.heap.objs.size f cdv))->sp vs H Q E ->
   ∃ t,QSs0 (Yl CX0 P w K mg base N qual (Za st) f cdv A outer s H E).nox (Yw st) t/\t {nx:=fun _ H'=>Q .non H',rt:=Q } (Yv N vs) H):FnOk P w K mg base CX0 (k+1) f fd ps sp:=by
 obtain ⟨oc,od,kV,doc,pm,an,cdv,ct,osl,rfl,lk,hcd⟩:=F.ex
 refine ⟨len,fun A outer s H args us vs Q E hr e0 hb r hsp=>?_⟩
 have hl:=len _ _ _ _ hsp
 have KX:K.In s.heap:=e0.mod.kin.keeps fun b o e=>(e0.bs b o e).1
 have lim:s.heap.NoLimit:=e0.mod.nolimit.keeps fun b o e=>(e0.bs b o e).1
 have hkind:∀ y∈ps.zip us,(Za st).names.lookup y.1=some .local\/((Za st).names.lookup y.1=some .cell/\((cellsFrom (s.heap.objs.size+1) (Za st).names []).lookup y.1).isSome=true):=fun ⟨n,v⟩ hy=>by
  rcases S.par n (List.of_mem_zip hy).1 with q | q
  ·exact .inl q
  ·exact .inr ⟨q,PySem.W.cellsFrom_some _ _ _ (.inl q)⟩
 refine codeAny_call_function hr.depth (KX _ _ lk) rfl S.co S.gen rfl (PySem.W.codeRec_of KX hcd) (hb _ _ _ _ ?_)
 refine wpAny_newFunctionEnv_cells S.kind hkind fun env he s1 x=>?_
 subst he
 refine ⟨lim.keeps x.toInCall.keep,codeAny_func ?_⟩
 obtain ⟨t,ht,hq⟩:=hbody cdv A outer s H vs Q E (hr.deeper _) hsp
 have I0:Inv (Yl CX0 P w K mg base N qual (Za st) f cdv A outer s H E) [] (Yv N vs) H s1:=Zic S hr.hd e0 hl r x
 have I:Inv (Yl CX0 P w K mg base N qual (Za st) f cdv A outer s H E).nox [] (Yv N vs) H s1:=⟨⟨I0.ok.mod,I0.ok.kind,I0.ok.glob,I0.ok.blt,I0.ok.above,I0.ok.inj,I0.ok.has,I0.ok.cab,I0.ok.hd,I0.ok.frames,I0.ok.stk,I0.ok.exf,I0.ok.bs,I0.ok.bsz,I0.ok.noex,I0.ok.exfs,I0.ok.funs,I0.ok.frf⟩,I0.os,I0.bare,I0.base,I0.loc,I0.cell,I0.free,I0.freeC,I0.pin,I0.hok,I0.len⟩
 refine wpAny_mono (ht.h s1 (Yv N vs) H _ I hq) (fun fl s' hs=>?_) fun e s' hs=>hs.elim
 have fin:∀ {σ':St}{H':Hp}{v:V}{u:Value},Inv (Yl CX0 P w K mg base N qual (Za st) f cdv A outer s H E).nox [] σ' H' s'->RelV v u->Q v H'->CE outer P w H s Q u s' :=
  fun {σ' H' v u} J rv q=>⟨v,H',J.os,J.bare,J.base,J.hok,rv,q⟩
 cases fl with
 | ret u =>
  obtain ⟨v,σ',H',J,rv,q⟩:=hs
  exact fin J rv q
 | next =>
  obtain ⟨σ',H',J,q⟩:=hs
  exact fin (v:=V.non) (u:=Value.none) J rfl q
 | brk=>obtain ⟨_,_,_,z⟩:=hs; exact z.elim
 | cont=>obtain ⟨_,_,_,z⟩:=hs; exact z.elim
theorem Has.fn0 {x:Str}{st:Stmt}{N ps:List Str}{k:Nat}{sp:Sp}(h:Has K mg x st) (S:FnScope N ps (Za st))
  (hb:∀ (kV doc pm:Value) (an:Option Addr) (cdv ct:Value) (us:List Value),us.length=ps.length->bindArgs (PySem.W.fnOf x x (W3 st) (Yw st) (Za st) .none kV doc pm an cdv ct) ⟨us,[]⟩=pure (ps.zip us))
  (len:∀ vs H Q E,sp vs H Q E->vs.length=ps.length)
  (hbody:∀ (f:Addr) (cdv:Value) (A:Around) (outer:List Env) (s:Shared) (H:Hp) (vs:List V) (Q:VK) (E:XK),Room k (A.deeper (envOfC x (Za st) s.heap.objs.size f cdv))->sp vs H Q E ->
   ∃ t,QSs0 (Yl CX0 P w K mg base N x (Za st) f cdv A outer s H E).nox (Yw st) t/\t {nx:=fun _ H'=>Q .non H',rt:=Q } (Yv N vs) H):Fn P w K mg base x ps (k+1) sp:=by
 obtain ⟨f,fd,F,hm⟩:=h
 exact ⟨f,fd,hm,F.kp,F.binds hb,F.ok0 S len (hbody f)⟩
end
theorem Zkn {CX:CXT}{P:Program}{w:World}{K:PySem.W.Frag}{mg:Str->Option Value}{base:Heap}{N:List Str}{qual:Str}{scope:Scope}{f:Addr}{cd:Value}{A:Around}{outer:List Env}{s:Shared}{H:Hp}{E:XK} :
  Pl (Yl CX P w K mg base N qual scope f cd A outer s H E).nox:=⟨rfl,rfl,rfl,rfl⟩
structure Er (K:PySem.W.Frag) (mg:Str->Option Value) (c:Str->Addr) (errs:List Str):Prop where
 g:∀ x,x∈errs->mg x=some (.ref (c x))
 x:∀ x,x∈errs->V1 K (c x)=true
 k:∀ x,x∈errs->W8 K (c x)=true
 m:mg "MootError" = some (.ref (c "MootError"))
 e:∀ x,x∈errs->Vq K (c x) (c "MootError")=some true
 s:∀ x,x∈errs->∀ y,y∈errs->Vq K (c x) (c y)=some (decide (x=y))
 i:∀ x,x∈errs->∀ y,y∈errs->PySem.W.kitOne K (.ref (c x)) (.ref (c y))=some (decide (x=y))
 v:∀ x,x∈errs->PySem.W.kitOne K (.ref (c x)) (.type "ValueError")=some true
end L2
end
section
set_option Elab.async false
set_option linter.all false
set_option maxRecDepth 100000
set_option maxHeartbeats 4000000
namespace L2
open PySem PySem.Spec PyProof.Rows
def erB (K:PySem.W.Frag) (c:Str->Addr) (errs:List Str):Bool :=
 decide (PySem.W.nsIn K mainGlobals "MootError" = some (some (.ref (c "MootError")))) && errs.all fun x=>decide (PySem.W.nsIn K mainGlobals x=some (some (.ref (c x)))) && V1 K (c x) && W8 K (c x) && decide (Vq K (c x) (c "MootError")=some true) && decide (PySem.W.kitOne K (.ref (c x)) (.type "ValueError")=some true) &&
  errs.all fun y=>decide (Vq K (c x) (c y)=some (decide (x=y))) && decide (PySem.W.kitOne K (.ref (c x)) (.ref (c y))=some (decide (x=y)))
theorem Zvz {K:PySem.W.Frag}{h:Heap}{mg:Str->Option Value}{c:Str->Addr}{errs:List Str}(X:K.In h) (G:h.Ns mainGlobals mg) (e:erB K c errs=true):Er K mg c errs:=by
 unfold erB at e
 rw [Bool.and_eq_true,List.all_eq_true] at e
 obtain ⟨e0,e⟩:=e
 have e1:∀ x,x∈errs->(((((PySem.W.nsIn K mainGlobals x=some (some (.ref (c x)))/\V1 K (c x)=true)/\W8 K (c x)=true)/\Vq K (c x) (c "MootError")=some true)/\PySem.W.kitOne K (.ref (c x)) (.type "ValueError")=some true)/\∀ y,y∈errs->Vq K (c x) (c y)=some (decide (x=y))/\PySem.W.kitOne K (.ref (c x)) (.ref (c y))=some (decide (x=y))):=fun x hx=>by
  have:=e x hx
  simp only [Bool.and_eq_true,decide_eq_true_eq,List.all_eq_true] at this
  exact this
 exact ⟨fun x hx=>PySem.W.mg_of X G (e1 x hx).1.1.1.1.1,fun x hx=>(e1 x hx).1.1.1.1.2,fun x hx=>(e1 x hx).1.1.1.2,PySem.W.mg_of X G (of_decide_eq_true e0),fun x hx=>(e1 x hx).1.1.2,fun x hx y hy=>((e1 x hx).2 y hy).1,fun x hx y hy=>((e1 x hx).2 y hy).2,fun x hx=>(e1 x hx).1.2⟩
end L2
end
section
set_option Elab.async false
set_option linter.all false
set_option maxRecDepth 100000
set_option maxHeartbeats 4000000
namespace L2
open PySem PySem.Spec PyProof.Rows
def Zux (n:Nat) (fr:List (Str×Nat)) (wi:TI) (g:TG) (tt:TTs) (t:TA) (sp:Sp) (E:St->XK):TE:=fun σ H Q=>wi σ H fun J H1=>Vf J n (inF fr σ) g tt (fun σ' H' Y=>t σ' H' fun vs H2=>sp vs H2 Y (E σ)) Q H1
structure InnX (X:Cx) (scope:Scope) (N':List Str) (tg:Expr) (ifs:List Expr) (x:Str) (e:Expr) (es:List Expr) (pos:Pos) (g:TG) (tt:TTs) (t:TA):Prop where
 h:∀ (cl:List (Str×Addr)) (C:Addr) (s0:Shared) (H0:Hp) (ex:List Addr) (pn:List (Addr×Obj)),QG (ccx X scope cl C N' s0 H0 ex pn) tg g/\QTs (ccx X scope cl C N' s0 H0 ex pn) ifs tt/\QA (ccx X scope cl C N' s0 H0 ex pn) (e::es) t/\Nm (ccx X scope cl C N' s0 H0 ex pn).env.scope x .globalImplicit /\
  starEach (e::es) (ccx X scope cl C N' s0 H0 ex pn).env=(false,eval e (ccx X scope cl C N' s0 H0 ex pn).env)::starEach es (ccx X scope cl C N' s0 H0 ex pn).env/\(backTo pos (starEach es (ccx X scope cl C N' s0 H0 ex pn).env)).any (·.1)=false
section
variable {X:Cx}{tg iter e:Expr}{es ifs:List Expr}{scope:Scope}{pos cpos np:Pos}{locs:List Str}{fr:List (Str×Nat)}{g:TG}{tt:TTs}{t:TA}{x:Str}
theorem Zop {Q:Value->Shared->Prop}{E:Value->Shared->Prop}{σ:St}{H:Hp}{s:Shared}{a C:Addr}{wt:String}{env:Env}(I:Inv X [] σ H s) (hpn:X.pn = []) (hx:XOn X.s₀.heap H s.heap a C)
  (k:∀ h',Inv X [] σ H {s with heap:=h' }->XOn X.s₀.heap H h' a C->E (.ref a) {s with heap:=h' }):wpAny (model X.prog X.w) X.A (PySem.passOn wt (.ref a) env:Sem Value) Q E s:=by
 obtain ⟨ha,h0a,oe,vs,a0,he,hc,hd,v0,T,oT,ts,v3,v1,tr⟩:=id hx
 unfold PySem.passOn
 refine wpAny_bind (wpAny_field he hd v1 ?_)
 rw [if_neg (show ¬ ((Value.ref T == Value.none)=true) from by simp)]
 refine wpAny_bind (Zdz I hpn hx fun h' I' x'=>?_)
 exact wpAny_throw (k h' I' x')
theorem Zik {wi:TI}{E:St->XK}{k:Nat}{sp:Sp}(p:Pl X) (hx:Xp X E) (Fx:FnX X.prog X.w X.K X.mg X.base x k sp) (hr:Room k X.A) (S:CompOk X scope locs fr) (F:FrOk X scope fr) (hc:X.calm=true) (hi:QI X tg iter wi)
  (inner:InnX X scope (inN locs fr) tg ifs x e es cpos g tt t) (hs:∀ x,foldedSetIterable iter X.env x=pure x:=by intro _; rfl) :
  QE X (.ListComp (.Call (.Name x np) (e::es) [] cpos) [⟨tg,iter,ifs,0⟩] scope pos) (Zux locs.length fr wi g tt t sp E):=⟨by
 intro pins s σ H Q I h
 obtain ⟨cl,hcl,cl1,cl2⟩:=S.clos F I
 rw [eval_ListComp]
 refine wpAny_comprehension_free (use:=none) rfl hs hcl S.kind S.names (thn (hi.h pins s σ H _ I h) fun v s1 h1=>thn h1 fun itv s2 h2=>?_)
 obtain ⟨it,fp,tn,J,H1,e0,I2,T,st2,f2,W,w0,turn⟩:=h2
 subst e0
 refine Zdv (EE:=fun H' e s'=>∃ a Cc,e = .ref a/\XAt X.s₀.heap H' s'.heap a Cc/\E σ (.ref Cc) none H') (QQ:=fun ys H'=>∀ l,H' l=none->Q (.ref l) (upd H' l (.lst ys))) hc S.kind S.nocell S.own F S.nd cl1 cl2
  (fun C s0 H0 ex pn=>⟨(inner.h cl C s0 H0 ex pn).1.h,(inner.h cl C s0 H0 ex pn).2.1.h⟩) (fun C pE s3 σ' H3 Y hfp I3 h3=>?_) (fun D C H' e' s' m I' fC hn q=>?_) I2 T st2 f2 w0 turn fun D C ys H' s' m nD hDC I' fC hn q=>?_
 ·obtain ⟨f,hm,hk,G⟩:=Fx
  obtain ⟨_,_,qa,nn,he,hpl⟩:=inner.h cl C s2 H1 fp (X.pn++pins)
  refine wpAny_Call_Name_kw (U6 I3 nn.1 hm ?_ nn.2.1)
  refine PySem.W.callWith_K (h₀:=X.base) I3.ok.mod.kin hk (wpAny_mono (qa.h cpos pE s3 σ' H3 _ I3 h3) (fun us s4 ⟨vs,H4,I4,r,q⟩=>⟨I4.kIn,?_⟩) fun _ _ z=>z.elim) he hpl
  refine wpAny_call (codeAny_mono (G.run X.A X.stack s4 H4 us vs Y (E σ) hr I4.env0 r q) fun r s5 hq=>?_)
  cases r with
  | error ee =>
   obtain ⟨a,Cc,H',rfl,os,bare,un,hok,xa,hE⟩:=hq
   refine ⟨pE,σ',H',I4.call' (ch:=[]) os un hok bare (fun b z=>absurd z (by simp)),a,Cc,rfl,xa.mono fun b e=>?_,hE⟩
   cases q0:X.s₀.heap.get? b with
   | none=>rfl
   | some o =>
    obtain ⟨o2,e2⟩:=I2.base.there b o q0 (by rw [p.ex]; simp)
    have:∃ o4,s4.heap.get? b=some o4:=by
     by_cases hb:b∈fp
     ·obtain ⟨o4,h4⟩:=hfp b hb
      exact ⟨o4,(I4.pin (b,o4) (List.mem_append_right _ h4)).1⟩
     ·exact I4.base.there b o2 e2 hb
    obtain ⟨o4,e4⟩:=this
    rw [e] at e4; cases e4
  | ok fl =>
   cases fl with
   | ret u=>exact I4.after hq
   | next=>exact False.elim hq
   | brk=>exact False.elim hq
   | cont=>exact False.elim hq
 ·obtain ⟨a,Cc,rfl,xa,hE⟩:=q
  obtain ⟨f0,f1,f2,f3,f4,f5⟩:=fC
  have J0:=I'.pins_of (pins':=[]) (fun p hp=>nomatch hp)
  show wpAny _ _ (noteFrame (.ref a) X.env) _ _ _
  refine Zix J0 p.pn p.ex p.stk p.fr xa fun h1 I1 x1 up=>?_
  obtain ⟨oC,esC,epC,hoC,hdC,rC⟩:=hn
  obtain ⟨slC,q1⟩:=up C oC hoC (fun vs z=>by rw [hdC] at z; cases z)
  refine ⟨m,⟨_,esC,epC,q1,hdC,rC⟩,fun h2 hs2 cenv _=>?_⟩
  have I2:Inv X [] σ H' {s' with heap:=h2 }:=Inv.turned (s:={s' with heap:=h1 }) (it:=C) (h':=h2) (t':=s'.toks) I1 (fun b o hb e=>(hs2.2 b hb).trans e) f0 f1 f3 f4 (fun p' hp=>f5 p' (by
   rcases List.mem_append.mp hp with z | z
   ·exact List.mem_append_left _ z
   ·cases z))
  have x2:XOn X.s₀.heap H' h2 a Cc:=by
   obtain ⟨ha,h0a,oe,vs,a0,he,hc,hd,v0,T,oT,ts,v3,v1,hTe,hT,hdT,h3,hHT,h0T⟩:=x1
   have na:a≠C:=fun z=>by rw [z] at he; have:=q1.symm.trans he; cases this; rw [hdC] at hd; cases hd
   have nT:T≠C:=fun z=>by rw [z] at hT; have:=q1.symm.trans hT; cases this; rw [hdC] at hdT; cases hdT
   exact ⟨ha,h0a,oe,vs,a0,(hs2.2 a na).trans he,hc,hd,v0,T,oT,ts,v3,v1,hTe,(hs2.2 T nT).trans hT,hdT,h3,hHT,h0T⟩
  exact Zop I2 p.pn x2 fun h3 I3 x3=>hx.h [] σ H' _ a Cc I3 x3.at_ hE
 ·refine ⟨m,hn,fun h' hs'=>?_⟩
  obtain ⟨f0,f1,f2,f3,f4,f5⟩:=fC
  exact ⟨.ref D,_,I'.turned (it:=C) (t':=s'.toks) (fun b o hb e=>(hs'.2 b hb).trans e) f0 f1 f3 f4 f5,rfl,q D nD⟩⟩
end
theorem Zm1 {P:Program}{w:World}{K:PySem.W.Frag}{mg:Str->Option Value}{base:Heap}{N:List Str}{qual:Str}{scope:Scope}{f:Addr}{cd:Value}{A:Around}{outer:List Env}{s:Shared}{H:Hp}{E:XK} :
  Pl (Yl (CXE P w) P w K mg base N qual scope f cd A outer s H E):=⟨rfl,rfl,rfl,rfl⟩
end L2
end
section
set_option Elab.async false
set_option linter.all false
set_option maxRecDepth 100000
set_option maxHeartbeats 4000000
namespace L2
open PySem PySem.Spec PyProof.Rows
section
variable {X:Cx}
def Zm2:List V->Hp->VK->Prop:=fun xs H Q=>(∃ x,xs = [.str x]/\Q (.str x) H)\/∃ i:Int,xs = [.int i]/\i.natAbs.log2 < 1920/\Q (.str (Str.ofString (toString i))) H
theorem Zre:Wb X (.type "str") Zm2:=by
 intro pins s σ H xs us Q I r h
 rcases h with ⟨x,rfl,q⟩ | ⟨i,rfl,hi,q⟩
 ·obtain ⟨u,rfl,t,rfl⟩:=Wj r
  exact P.str_of_str ⟨.str x,H,I,⟨t,rfl⟩,q⟩
 ·obtain ⟨u,rfl,t,rfl⟩:=Wj r
  exact P.str_of_int hi ⟨.str _,H,I.tok _,⟨_,rfl⟩,q⟩
theorem Zpy:QC X (.type "str") Zm2:=⟨Zre⟩
def Zlp:List V->Hp->VK->Prop:=fun xs H Q=>∃ x n,xs = [.str x]/\PySem.intText? x=some n/\x.length<=640/\Q (.int n) H
theorem Zpz:Wb X (.type "int") Zlp:=by
 intro pins s σ H xs us Q I r ⟨x,n,e,hn,hl,q⟩
 subst e
 obtain ⟨u,rfl,t,rfl⟩:=Wj r
 exact PySem.W.KIN.call_text hn hl ⟨.int n,H,I.tok _,⟨_,rfl⟩,q⟩
theorem Zh4:QC X (.type "int") Zlp:=⟨Zpz⟩
def Zko:V->List V->Hp->VK->Prop:=fun x xs H Q=>∃ a b:Str,x = .str a/\xs = [.str b]/\b.length≠0/\a.length+2<=sizeLine/\∀ l,H l=none->Q (.ref l) (upd H l (.lst ((Txt.split a b).map V.str)))
theorem Zil:∀ l:List (Str×Tok),Vals ((l.map (·.1)).map V.str) (strValues l)
 | []=>.nil
 | (x,t)::l=>.cons ⟨t,rfl⟩ (Zil l)
theorem Zrf:MtR X "str.split" Zko:=by
 intro pins s σ H x xs v us Q I rx rs ⟨a,b,ex,exs,hb,hz,q⟩
 subst ex exs
 obtain ⟨t,rfl⟩:=rx
 obtain ⟨u,rfl,tu,rfl⟩:=Wj rs
 have hn:(PySem.Builtin.Str.partsBetween a (PySem.Builtin.Str.occurrences a b 0 a.length (a.length+1)) b.length).length<=sizeLine:=by
  have e1:=StrLaws.occ_length_le a b 0 a.length (a.length+1)
  rw [PySem.length_partsBetween]; lia
 have hy:(b.length == 0)=false:=by simpa using hb
 have put:∀ (l:List (Str×Tok)) (k:Nat),l.map (·.1)=Txt.split a b->l.length<=sizeLine->EP X pins σ Q (.ref s.heap.objs.size) {s with toks:=k,heap:=s.heap.push {cls:=.type "list", data:=.seq (strValues l).toArray } }:=fun l k e hl =>
  ⟨.ref s.heap.objs.size,_,I.laid (t':=k) (fun b o e=>Heap.get?_push_of_some _ e) (Nat.le_refl _) (show ObjOk X.prog X.w _ _ _ (.lst ((Txt.split a b).map V.str)) from ⟨by rw [List.length_map,← e,List.length_map]; exact hl,strValues l,0,by rw [← e]; exact Zil l,Heap.get?_push_size _ rfl⟩),rfl,q _ (I.hok.fresh (Nat.le_refl _))⟩
 cases h1:(decide (a.length < b.length) || decide (PySem.Builtin.Str.strKind a < PySem.Builtin.Str.strKind b))
 ·cases hf:(PySem.Builtin.Str.occurrences a b 0 a.length (a.length+1)).isEmpty
  ·refine call_meets F.slot_str_split (typeIs_str _ _ _) F.entry_str_split (F.args_str_split_2 _ _) (meets_str_split_sep a b t tu h1 hy hf (by lia) hn) ?_
   show wants _ _ _ {s with toks:=_,heap:=s.heap.push {cls:=.type "list", data:=.seq (strsFrom s.toks (PySem.Builtin.Str.partsBetween a (PySem.Builtin.Str.occurrences a b 0 a.length (a.length+1)) b.length)).toArray } }
   rw [strsFrom_eq]
   have e:(numbered s.toks (PySem.Builtin.Str.partsBetween a (PySem.Builtin.Str.occurrences a b 0 a.length (a.length+1)) b.length)).map (·.1)=Txt.split a b:=(numbered_texts s.toks (PySem.Builtin.Str.partsBetween a (PySem.Builtin.Str.occurrences a b 0 a.length (a.length+1)) b.length)).trans ((if_neg (ne_true_of_eq_false h1)).trans (if_neg (ne_true_of_eq_false hf))).symm
   refine put (numbered s.toks _) _ e ?_
   have:=congrArg List.length (numbered_texts s.toks (PySem.Builtin.Str.partsBetween a (PySem.Builtin.Str.occurrences a b 0 a.length (a.length+1)) b.length))
   rw [List.length_map] at this
   rw [this]; exact hn
  ·exact call_meets F.slot_str_split (typeIs_str _ _ _) F.entry_str_split (F.args_str_split_2 _ _) (meets_str_split_not_found a b t tu h1 hy hf) (put [(a,t)] s.toks ((if_neg (ne_true_of_eq_false h1)).trans (if_pos hf)).symm (by show 1<=sizeLine; lia))
 ·exact call_meets F.slot_str_split (typeIs_str _ _ _) F.entry_str_split (F.args_str_split_2 _ _) (meets_str_split_cannot_occur a b t tu h1) (put [(a,t)] s.toks (if_pos h1).symm (by show 1<=sizeLine; lia))
theorem Zd2:QM X "str.split" Zko:=⟨Zrf⟩
def Zlq (K:PySem.W.Frag):V->List V->Hp->VK->Prop:=fun v vs H Q=>∃ (l:Addr) (xs:List Str) (x:Str) (j:Nat),v = .ref l/\vs = [.str x]/\SqL K H l (xs.map V.str)/\xs[j]? = some x/\(∀ m,m < j->xs[m]? ≠ some x)/\Q (.int j) H
def eqS (x:Str):Value->Bool
 | .str y _=>y == x
 | _=>false
theorem Zjq:∀ {xs:List Str}{us:List Value},Vals (xs.map V.str) us->us.length=xs.length/\∀ (j:Nat) (y:Str),xs[j]? = some y->∃ t,us[j]? = some (Value.str y t)
 | [],_,.nil=>⟨rfl,fun j y h=>by simp at h⟩
 | x::xs,_,.cons r rr=>by
  obtain ⟨h1,h2⟩:=Zjq rr
  obtain ⟨t,rfl⟩:=r
  refine ⟨by rw [List.length_cons,List.length_cons,h1],fun j y h=>?_⟩
  cases j with
  | zero=>simp at h; subst h; exact ⟨t,rfl⟩
  | succ j=>simp at h; simpa using h2 j y h
theorem Zp0:MtR X "list.index" (Zlq X.K):=by
 intro pins s σ H v vs u us Q I rx rv ⟨l,xs,x,j,e1,e2,hL,hj,hno,q⟩
 subst e1 e2
 obtain rfl:u=Value.ref l:=rx
 obtain ⟨u,rfl,t,rfl⟩:=Wj rv
 obtain ⟨its,r,pl,hz⟩:=I.list hL
 obtain ⟨hl,hat⟩:=Zjq r
 obtain ⟨o,m,e1,e2,e3,e4⟩:=pl
 obtain ⟨oc,od,odt,osl⟩:=o
 have e2':oc = .type "list" := e2
 have e4':odt = .seq its.toArray m:=by first | exact e4 | exact e3
 subst e2' e4'
 have hjl:j < xs.length:=(List.getElem?_eq_some_iff.mp hj).1
 have at_:∀ (i:Nat) (hi:i < its.toArray.size),∃ y t',xs[i]? = some y/\its.toArray[i] = .str y t':=fun i hi=>by
  have hi':i < xs.length:=by simpa [hl] using hi
  obtain ⟨t',h⟩:=hat i xs[i] (List.getElem?_eq_getElem hi')
  refine ⟨xs[i],t',List.getElem?_eq_getElem hi',?_⟩
  rw [List.getElem_toArray]
  exact (List.getElem?_eq_some_iff.mp h).2
 have hjs:j < its.toArray.size:=by simpa [hl] using hjl
 refine call_meets F.slot_list_index ⟨_,e1,rfl⟩ F.entry_list_index (F.args_list_index_2 _ _) (SeqAt.list_indexAt l its.toArray m od osl (.str x t) (eqS x) j hjs ?_ ?_ ?_) ⟨e1,fun y hy=>?_,⟨.int j,H,I.tok _,⟨_,rfl⟩,q⟩⟩
 ·have:xs.length<=sizeLine:=by rw [List.length_map] at hz; exact hz
  have h2:sizeLine < 2 ^ 62:=by decide
  lia
 ·obtain ⟨y,t',h1,h2⟩:=at_ j hjs
  rw [hj] at h1
  cases h1
  rw [h2]
  exact beq_self_eq_true x
 ·intro i hi hlt
  obtain ⟨y,t',h1,h2⟩:=at_ i hi
  rw [h2]
  have:y≠x:=fun z=>hno i hlt (by rw [h1,z])
  exact beq_eq_false_iff_ne.mpr this
 ·obtain ⟨i,hi,rfl⟩:=Array.getElem_of_mem hy
  obtain ⟨y,t',h1,h2⟩:=at_ i hi
  rw [h2]
  exact SeqAt.EqAt.str_str y t' x t
theorem Zh5:QM X "list.index" (Zlq X.K):=⟨Zp0⟩
end
end L2
end
section
set_option Elab.async false
set_option linter.all false
set_option maxRecDepth 100000
set_option maxHeartbeats 4000000
namespace L2
open PySem PySem.Spec PyProof.Rows
structure QST (X:Cx) (st:Stmt) (t:TS):Prop where
 h:∀ (pins:List (Addr×Obj)) (s:Shared) (σ:St) (H:Hp) (D:Ends),1<=s.toks->Inv X pins σ H s->t D σ H->wpAny (model X.prog X.w) X.A (exec st X.env) (SP X pins D) X.xe s
structure QSsT (X:Cx) (st:List Stmt) (t:TS):Prop where
 h:∀ (pins:List (Addr×Obj)) (s:Shared) (σ:St) (H:Hp) (D:Ends),1<=s.toks->Inv X pins σ H s->t D σ H->wpAny (model X.prog X.w) X.A (execs st X.env) (SP X pins D) X.xe s
structure QS1 (X:Cx) (st:Stmt) (t:TS):Prop where
 h:∀ (pins:List (Addr×Obj)) (s:Shared) (σ:St) (H:Hp) (D:Ends),Inv X pins σ H s->t D σ H->wpAny (model X.prog X.w) X.A (exec st X.env) (fun f s'=>1<=s'.toks/\SP X pins D f s') X.xe s
def Zv0 (K:PySem.W.Frag) (y z:Str) (to:TE):TE:=fun σ H Q=>to σ H fun v H1=>tyV K "str" v H1/\∃ x,v = .str x/\x.length<=100000/\Q (.str (Txt.replace x y z)) H1
section
variable {X:Cx}{st:Stmt}{rest:List Stmt}{t u:TS}{o:Expr}{to:TE}{x y z name:Str}{apos cpos p1 p2 pos pos':Pos}{j1 j2:Nat}{T id:String}{r:V->List V->Hp->VK->Prop}
theorem QS.tk (h:QS X st t):QST X st t:=⟨fun pins s σ H D _ I q=>h.h pins s σ H D I q⟩
theorem QSs.tk (h:QSs X rest t):QSsT X rest t:=⟨fun pins s σ H D _ I q=>h.h pins s σ H D I q⟩
theorem V2 (h1:QST X st t) (h2:QSsT X rest u):QSsT X (st::rest) (Vn t u):=⟨by
 intro pins s σ H D ht I h
 refine wpAny_execs_cons (wpAny_mono (wpAny_toks_of ht (h1.h pins s σ H {D with nx:=u D } ht I h)) (fun f s1 ⟨ht1,q⟩=>?_) fun _ _ z=>z.2)
 cases f with
 | next =>
  obtain ⟨σ',H',I',q⟩:=q
  exact h2.h pins s1 σ' H' D ht1 I' q
 | ret v=>exact q
 | brk=>exact q
 | cont=>exact q⟩
theorem Zp1 (h1:QS1 X st t) (h2:QSsT X rest u):QSs X (st::rest) (Vn t u):=⟨by
 intro pins s σ H D I h
 refine wpAny_execs_cons (thn (h1.h pins s σ H {D with nx:=u D } I h) fun f s1 ⟨ht1,q⟩=>?_)
 cases f with
 | next =>
  obtain ⟨σ',H',I',q⟩:=q
  exact h2.h pins s1 σ' H' D ht1 I' q
 | ret v=>exact q
 | brk=>exact q
 | cont=>exact q⟩
theorem Zuy {i:Nat}(hN:X.N.Nodup) (n:Nm X.env.scope x .local) (pa:PlainAttrs T) (slot:Slot T name id) (hty:typeOf (.builtin id)=pure (.type "method_descriptor")) (hm:QM X id r) (ho:QE X o to) (hi:X.N[i]? = some x:=by rfl)
  (hsw:swapsWith (.Call (.Attribute o name apos) [.Constant (.str y) j1 p1] [] cpos) (some (.Name x pos')) pos.line X.env=pure false:=by rfl)
  (hbase:attributeBase o name X.env (eval o X.env)=eval o X.env:=by rfl)
  (hfew:((backTo cpos (starEach [.Constant (.str y) j1 p1] X.env)).all (fun x=>!x.1) && (backToKw cpos (keywordEach [] X.env)).all (fun x=>x.1.isSome)
   && decide ([Expr.Constant (.str y) j1 p1].length+([]:List Keyword).length+(if ([]:List Keyword).isEmpty then 0 else 1) < 30))=true:=by rfl)
  (hline:(apos.endLine == cpos.line)=true:=by rfl) (hs:starEach [.Constant (.str y) j1 p1] X.env = [(false,eval (.Constant (.str y) j1 p1) X.env)]:=by rfl) :
  QS1 X (.Assign [.Name x pos'] (.Call (.Attribute o name apos) [.Constant (.str y) j1 p1] [] cpos) pos) (Wk (tBM X.K T r to (We (tC (.str y)) Vo)) (Yn i)):=⟨by
 intro pins s σ H D I h
 have P1:wpAny (model X.prog X.w) X.A (eval (.Call (.Attribute o name apos) [.Constant (.str y) j1 p1] [] cpos) X.env) (fun u s'=>1<=s'.toks/\EP X pins σ (fun v H'=>Yn i v σ H' D.nx) u s') X.xe s:=by
  refine wpAny_Call_method_late hbase hfew hline rfl (thn (ho.h pins s σ H _ I h) fun v s1 ⟨x',H1,I1,r1,ty,q1⟩=>?_)
  obtain ⟨h1,h2⟩:=Ze6 I1 r1 ty
  refine ⟨T,id,pa,slot,hty,h1,h2,?_⟩
  rw [hs]
  refine Calls.callWith_builtin rfl (Calls.evalArgs_plain ?_)
  refine Calls.spliced_cons (Calls.Constant_str (k:=j1) (pos:=p1) (Calls.spliced_nil ?_))
  exact wpAny_mono (wpAny_toks_of (n:=1) (Nat.le_add_left 1 s1.toks) (hm.h pins {s1 with toks:=s1.toks+1 } σ H1 x' [.str y] v [.str y s1.toks] _ (I1.tok _) r1 (.cons ⟨_,rfl⟩ .nil) q1)) (fun _ _ z=>z) fun _ _ z=>z.2
 refine wpAny_Assign_Name (thn P1 fun v s1 ⟨ht,y',H1,I1,r1,q1⟩=>?_) hsw
 exact wpAny_mono (wpAny_toks_of ht (U3 (E:=X.xe) (Q:=fun _ s2=>SP X pins D .next s2) I1 hN hi (.inl n.1) r1 (fun s2 I2=>⟨_,H1,I2,q1⟩) (.inr n.1))) (fun _ _ z=>z) fun _ _ z=>z.2⟩
theorem Zrg {i:Nat}(hN:X.N.Nodup) (n:Nm X.env.scope x .local) (ho:QE X o to) (hyz:(y == z)=false) (hz:z.length=0) (hi:X.N[i]? = some x:=by rfl)
  (hsw:swapsWith (.Call (.Attribute o "replace" apos) [.Constant (.str y) j1 p1,.Constant (.str z) j2 p2] [] cpos) (some (.Name x pos')) pos.line X.env=pure false:=by rfl)
  (hbase:attributeBase o "replace" X.env (eval o X.env)=eval o X.env:=by rfl)
  (hfew:((backTo cpos (starEach [.Constant (.str y) j1 p1,.Constant (.str z) j2 p2] X.env)).all (fun x=>!x.1) && (backToKw cpos (keywordEach [] X.env)).all (fun x=>x.1.isSome)
   && decide ([Expr.Constant (.str y) j1 p1,.Constant (.str z) j2 p2].length+([]:List Keyword).length+(if ([]:List Keyword).isEmpty then 0 else 1) < 30))=true:=by rfl)
  (hline:(apos.endLine == cpos.line)=true:=by rfl) (hs:starEach [.Constant (.str y) j1 p1,.Constant (.str z) j2 p2] X.env = [(false,eval (.Constant (.str y) j1 p1) X.env),(false,eval (.Constant (.str z) j2 p2) X.env)]:=by rfl) :
  QST X (.Assign [.Name x pos'] (.Call (.Attribute o "replace" apos) [.Constant (.str y) j1 p1,.Constant (.str z) j2 p2] [] cpos) pos) (Wk (Zv0 X.K y z to) (Yn i)):=⟨by
 intro pins s σ H D ht I h
 refine wpAny_Assign_Name (thn (Q:=EP X pins σ fun v H'=>Yn i v σ H' D.nx) ?_ fun v s1 ⟨y',H1,I1,r1,q1⟩=>U3 I1 hN hi (.inl n.1) r1 (fun s2 I2=>⟨_,H1,I2,q1⟩) (.inr n.1)) hsw
 refine wpAny_Call_method_late hbase hfew hline rfl (wpAny_mono (wpAny_toks_of ht (ho.h pins s σ H _ I h)) (fun v s1 ⟨ht1,x',H1,I1,r1,ty,x0,e0,hl,q1⟩=>?_) fun _ _ q=>q.2)
 obtain ⟨h1,h2⟩:=Ze6 I1 r1 ty
 refine ⟨"str", "str.replace", F.plainAttrs_str,F.slot_str_replace,F.type_str_replace,h1,h2,?_⟩
 subst e0
 obtain ⟨t0,rfl⟩:=r1
 rw [hs]
 refine Calls.callWith_builtin rfl (Calls.evalArgs_plain ?_)
 refine Calls.spliced_cons (Calls.Constant_str (k:=j1) (pos:=p1) (Calls.spliced_cons (Calls.Constant_str (k:=j2) (pos:=p2) (Calls.spliced_nil ?_))))
 refine SC.replace (Nat.ne_of_gt ht1) (Nat.succ_ne_zero _) (Nat.ne_of_lt (Nat.lt_succ_self _)) hyz (by rw [hz,Nat.mul_zero]; lia) fun t' k=>?_
 exact ⟨.str _,H1,(I1.tok _).tok _,⟨t',rfl⟩,q1⟩⟩
end
end L2
end
section
set_option Elab.async false
set_option linter.all false
set_option maxRecDepth 100000
set_option maxHeartbeats 4000000
namespace L2
open PySem PySem.Spec PyProof.Rows
def Zbq (K:PySem.W.Frag) (P:Params) (d:Addr) (kvs:List (Str×Tok×Addr)):Prop:=(∃ n,K.lookup d=some ⟨.type "dict", none,.dict (kvs.map fun x=>de P x.1 x.2.1 (.ref x.2.2)).toArray n,#[]⟩)/\(kvs.map (·.1)).Nodup/\(d == sysModules)=false
def kdK (kvs:List (Str×Tok×Addr)):List (Key×Value):=kvs.map fun x=>(Sum.inr x.1,Value.ref x.2.2)
theorem Zkp {K:PySem.W.Frag}{Pg:Program}{w:World}{h:Heap}{d:Addr}{kvs:List (Str×Tok×Addr)}(X:K.In h) (D:Zbq K w.params d kvs):h.DictOf (Yu Pg w) d (kdK kvs):=by
 obtain ⟨⟨n,e⟩,nd,_⟩:=D
 refine ⟨_,_,n,X _ _ e,⟨rfl,rfl,rfl⟩,rfl,fun x hx=>?_,?_,?_⟩
 ·obtain ⟨y,_,rfl⟩:=List.mem_map.mp (Array.mem_toList_iff.mpr hx)
  exact ⟨Sum.inr y.1,Zdu y.1 y.2.1,rfl⟩
 ·have:∀ l:List (Str×Tok×Addr),PySem.Pairs (Yu Pg w) (l.map fun x=>de w.params x.1 x.2.1 (.ref x.2.2)) (kdK l):=by
   intro l
   induction l with
   | nil=>exact .nil
   | cons y l ih=>exact .cons (Zdu y.1 y.2.1) rfl ih
  exact this kvs
 ·unfold kdK
  rw [List.map_map]
  have e2:((fun x:Key×Value=>x.1)∘fun x:Str×Tok×Addr=>((Sum.inr x.1:Key),Value.ref x.2.2))=fun x=>Sum.inr x.1:=rfl
  rw [e2]
  rw [List.nodup_iff_pairwise_ne] at nd ⊢
  rw [List.pairwise_map] at nd ⊢
  exact nd.imp fun h z=>h (Sum.inr.inj z)
def Yq (kvs:List (Str×Tok×Addr)) (n:Str):Option Addr:=(kvs.find? fun x=>decide (x.1=n)).map (·.2.2)
theorem Zfe (n:Str):∀ kvs:List (Str×Tok×Addr),valueAt (kdK kvs) (Sum.inr n)=(Yq kvs n).map Value.ref
 | []=>rfl
 | x::l=>by
  have ih:=Zfe n l
  unfold valueAt kdK Yq at *
  rw [List.map_cons,List.find?_cons,List.find?_cons]
  dsimp only
  rw [Zj9]
  cases decide (x.1=n) with
  | true=>rfl
  | false=>exact ih
section
variable {X:Cx}
def Zlr (K:PySem.W.Frag) (P:Params):R2:=fun x y H Q=>∃ (n:Str) (d:Addr) (kvs:List (Str×Tok×Addr)),x = .str n/\y = .ref d/\Zbq K P d kvs/\Q (.bl (Yq kvs n).isSome) H
theorem Zsz:OpR X (compareOp .In) (Zlr X.K X.w.params):=by
 intro pins s σ H x y v u Q I rx ry ⟨n,d,kvs,ex,ey,D,q⟩
 subst ex ey
 obtain rfl:u=Value.ref d:=ry
 refine wpAny_in_of (Zbh (P:=X.prog) (w:=X.w) (k:=Sum.inr n) rx) D.2.2 (Zkp I.kIn D).mapOf ?_
 rw [Zfe,Option.isSome_map]
 exact ⟨.bl _,H,I.tok _,rfl,q⟩
theorem Ziz:QOp X (compareOp .In) (Zlr X.K X.w.params):=⟨Zsz⟩
def Zls (K:PySem.W.Frag) (P:Params):R2:=fun x y H Q=>∃ (n:Str) (d t:Addr) (kvs:List (Str×Tok×Addr)),x = .ref d/\y = .str n/\Zbq K P d kvs/\Yq kvs n=some t/\Q (.ref t) H
theorem Zv1:IxR X (Zls X.K X.w.params):=by
 intro value slice pins s σ H x y v u Q I rx ry ⟨n,d,t,kvs,ex,ey,D,ht,q⟩ hs
 subst ex ey
 obtain rfl:v=Value.ref d:=rx
 have hw:valueAt (kdK kvs) (Sum.inr n)=some (Value.ref t):=by rw [Zfe,ht]; rfl
 obtain ⟨⟨m,e⟩,_,_⟩:=id D
 have he:=I.kIn _ _ e
 exact subscriptTail_builtinR (x:=.ref t) ⟨_,he,rfl⟩ slot_dict_getitem.lookup (wpAny_getItem_of (Zbh (P:=X.prog) (w:=X.w) (k:=Sum.inr n) ry) (Zkp I.kIn D).mapOf hw ⟨rfl,.ref t,H,I.tok _,rfl,q⟩) hs
theorem Zkq:QIx X (Zls X.K X.w.params):=⟨Zv1⟩
end
end L2
end
section
set_option Elab.async false
set_option linter.all false
set_option maxRecDepth 100000
set_option maxHeartbeats 4000000
namespace L2
open PySem PySem.Spec PyProof.Rows
def jn:List (List Nat)->List Nat
 | []=>[]
 | [a]=>a
 | a::b::r=>a++32::jn (b::r)
theorem Uo:∀ ws:List Str,cs (Str.join " " ws)=jn (ws.map cs)
 | []=>by decide +kernel
 | [w]=>rfl
 | w::v::r=>by
  show cs (w ++ " " ++ Str.join " " (v::r))=cs w++32::jn ((v::r).map cs)
  rw [Y6,Y6,Uo (v::r),List.append_assoc]
  have:cs (" " : Str) = [32]:=by decide +kernel
  rw [this]
  rfl
end L2
end
section
set_option Elab.async false
set_option linter.all false
set_option maxRecDepth 100000
set_option maxHeartbeats 4000000
namespace L2
open PySem PySem.Spec PyProof.Rows
abbrev lzA (h:Heap) (t1:Addr):Heap:=h.push {cls:=.type "list_iterator", data:=.fields #[.ref t1,.int 0 0] }
abbrev lzB (h:Heap) (t1 t2:Addr):Heap:=(lzA h t1).push {cls:=.type "tuple_iterator", data:=.fields #[.ref t2,.int 0 0] }
abbrev lzC (h:Heap) (t1 t2:Addr):Heap:=(lzB h t1 t2).push {cls:=.type "tuple", data:=.seq #[.ref h.objs.size,.ref (lzA h t1).objs.size] }
abbrev lzD (h:Heap) (t1 t2:Addr):Heap:=(lzC h t1 t2).push {cls:=.type "tuple", data:=.seq #[.none,.none] }
abbrev lzE (h:Heap) (t1 t2:Addr):Heap:=(lzD h t1 t2).push {cls:=.type "zip", data:=.fields #[.none,.bool false,.bool false,.ref (lzB h t1 t2).objs.size,.ref (lzC h t1 t2).objs.size] }
theorem Zoq (l1 l2:Addr) (xs ys:Array Value):Meets (Builtin.«zip.__new__» ⟨[.type "zip", .ref l1,.ref l2],[]⟩) (fun _ R s=>s.heap.IsList l1 xs/\s.heap.IsTuple l2 ys/\R (.ok (.ret (.ref (lzD s.heap l1 l2).objs.size))) {s with heap:=lzE s.heap l1 l2 }) :=
 .of_wp fun prog w A R s h=>by
  obtain ⟨hp,g,d,tk,os⟩:=s; obtain ⟨hl1,hl2,h⟩:=h
  have hsub:=sub_zip
  have hL1:Heap.IsList (Shared.heap ⟨hp,g,d,tk,os⟩) l1 xs:=hl1
  have hL2:Heap.IsTuple (Shared.heap ⟨lzA hp l1,g,d,tk,os⟩) l2 ys:=let ⟨o,e,r⟩:=hl2; ⟨o,Heap.get?_push_of_some _ e,r⟩
  wp_walk using wpAny_pyIter_list hL1,wpAny_pyIter_tuple hL2
  exact ⟨_,rfl,h⟩
section
variable {P:Program}{w:World}{A:Around}{E:Value->Shared->Prop}{s:Shared}
theorem Zo5 {l1 l2:Addr}{xs ys:Array Value}{Q:Value->Shared->Prop}(hl1:s.heap.IsList l1 xs) (hl2:s.heap.IsTuple l2 ys)
  (h:∀ h',IsZip h' (s.heap.objs.size+4) (s.heap.objs.size+2) (s.heap.objs.size+3) .none->IsPair h' (s.heap.objs.size+2) (.ref s.heap.objs.size) (.ref (s.heap.objs.size+1)) ->
   IsPair h' (s.heap.objs.size+3) .none .none->h'.IsListIter s.heap.objs.size l1 0->h'.IsTupleIter (s.heap.objs.size+1) l2 0 ->
   (∀ c o,s.heap.get? c=some o->h'.get? c=some o)->Q (.ref (s.heap.objs.size+4)) {s with heap:=h' }):wpAny (model P w) A (call (.type "zip") [.ref l1,.ref l2]) Q E s:=by
 refine callType_new F.called_zip (by decide) (F.typeCall_zip_2 _ _) (F.newCall_zip_2 _ _) (fun obj=>F.args_object_init_3 obj _ _) F.entry_zip_new (Zoq l1 l2 xs ys) ⟨hl1,hl2,?_⟩
 have n1:(lzA s.heap l1).objs.size=s.heap.objs.size+1:=Heap.size_push ..
 have n2:(lzB s.heap l1 l2).objs.size=s.heap.objs.size+2:=by rw [Heap.size_push,n1]
 have n3:(lzC s.heap l1 l2).objs.size=s.heap.objs.size+3:=by rw [Heap.size_push,n2]
 have n4:(lzD s.heap l1 l2).objs.size=s.heap.objs.size+4:=by rw [Heap.size_push,n3]
 have q5:(lzE s.heap l1 l2).get? (lzD s.heap l1 l2).objs.size=some _:=Heap.get?_push_size _ rfl
 have q4:(lzE s.heap l1 l2).get? (lzC s.heap l1 l2).objs.size=some _:=Heap.get?_push_of_some _ (Heap.get?_push_size _ rfl)
 have q3:(lzE s.heap l1 l2).get? (lzB s.heap l1 l2).objs.size=some _:=Heap.get?_push_of_some _ (Heap.get?_push_of_some _ (Heap.get?_push_size _ rfl))
 have q2:(lzE s.heap l1 l2).get? (lzA s.heap l1).objs.size=some _:=Heap.get?_push_of_some _ (Heap.get?_push_of_some _ (Heap.get?_push_of_some _ (Heap.get?_push_size _ rfl)))
 have q1:(lzE s.heap l1 l2).get? s.heap.objs.size=some _:=Heap.get?_push_of_some _ (Heap.get?_push_of_some _ (Heap.get?_push_of_some _ (Heap.get?_push_of_some _ (Heap.get?_push_size _ rfl))))
 show _/\_
 rw [n2,n3,n4] at q5
 rw [n1,n2] at q3
 rw [n3] at q4
 rw [n1] at q2
 rw [n4]
 exact ⟨⟨_,q5,rfl⟩,h _ q5 q3 q4 ⟨_,q1,rfl,rfl⟩ ⟨_,q2,rfl,rfl⟩ fun c o x=>Heap.get?_push_of_some _ (Heap.get?_push_of_some _ (Heap.get?_push_of_some _ (Heap.get?_push_of_some _ (Heap.get?_push_of_some _ x))))⟩
end
def SqM (l1:Addr):PySem.W.Frag->Hp->Addr->List V->Prop:=fun K H a xs=>(a=l1/\SqL K H a xs)\/(a≠l1/\SqT K H a xs)
def HsM (l1:Addr):Addr->Heap->List Value->Prop:=fun a h its=>if a=l1 then h.IsList a its.toArray else h.IsTuple a its.toArray
theorem Zv2 (l1:Addr):SqK (SqM l1) (HsM l1):=by
 refine ⟨fun {X pins σ H s l xs} I h=>?_,fun {X pins σ H s l xs ys} I h h'=>?_⟩
 ·rcases h with ⟨rfl,h⟩ | ⟨n,h⟩
  ·obtain ⟨its,r,p,_⟩:=I.list h
   exact ⟨its,r,by unfold HsM; rw [if_pos rfl]; exact p.isList⟩
  ·obtain ⟨its,r,p,_⟩:=I.tuple h
   exact ⟨its,r,by unfold HsM; rw [if_neg n]; exact p⟩
 ·rcases h with ⟨e,h⟩ | ⟨n,h⟩
  ·rcases h' with ⟨_,h'⟩ | ⟨n,_⟩
   ·exact I.list_inj h h'
   ·exact absurd e n
  ·rcases h' with ⟨e,_⟩ | ⟨_,h'⟩
   ·exact absurd e n
   ·exact I.tuple_inj h h'
def Zlt (K:PySem.W.Frag) (ta:TA):TI:=fun σ H R=>ta σ H fun vs H1=>∃ l1 l2 xs ys,vs = [.ref l1,.ref l2]/\SqL K H1 l1 xs/\SqT K H1 l2 ys/\(l2≠l1->R (Itz (SqM l1) K l1 l2) H1)
theorem Zs0 {X:Cx}{a b:Expr}{ta:TA}{p pos:Pos}{elts:List Expr}{ek:Nat}{epos:Pos}(hg:Gl X "zip") (hm:X.mg "zip" = none) (ha:PA X [a,b] ta) (hs:starEach [a,b] X.env = [(false,eval a X.env),(false,eval b X.env)]:=by rfl) (hs2:starEach [b] X.env = [(false,eval b X.env)]:=by rfl) :
  PI X (.Tuple elts ek epos) (.Call (.Name "zip" p) [a,b] [] pos) (Zlt X.K ta):=by
 intro pins s σ H R I h
 refine Call_ (Ud I hg hm boot_zip (PyProof.Rows.callWith_type1 (thn (ha pos pins s σ H _ I h) fun us s1 ⟨vs,H1,I1,r1,q1⟩=>?_) (by rw [hs,hs2]) (by rw [hs2]; rfl)))
 obtain ⟨l1,l2,xs,ys,e,h1,h2,q⟩:=q1
 subst e
 obtain ⟨u1,u2,rfl,ru1,ru2⟩:=Zc1 r1
 cases ru1
 cases ru2
 obtain ⟨its1,r1,p1,_⟩:=I1.list h1
 obtain ⟨its2,r2,p2,_⟩:=I1.tuple h2
 have b1:l1 < s1.heap.objs.size:=by obtain ⟨o,n,e,_⟩:=p1; exact Heap.lt_size e
 have b2:l2 < s1.heap.objs.size:=by obtain ⟨o,e,_⟩:=p2; exact Heap.lt_size e
 have n21:l2≠l1:=fun z=>by
  subst z
  obtain ⟨o,e,c,_⟩:=p1.isList
  obtain ⟨o',e',c',_⟩:=p2
  rw [e] at e'
  cases e'
  rw [c] at c'
  exact absurd c' (by decide)
 have q:=q n21
 have e1:HsM l1 l1=fun h its=>h.IsList l1 its.toArray:=funext fun h=>funext fun its=>if_pos rfl
 have e2:HsM l1 l2=fun h its=>h.IsTuple l2 its.toArray:=funext fun h=>funext fun its=>if_neg n21
 refine Zo5 p1.isList p2 fun h' z0 t1 t0 st1 st2 kp=>?_
 refine wpAny_pyIter_zip z0 ?_
 refine ⟨s1.heap.objs.size+4,_,_,_,H1,rfl,I1.kept (h':=h') (t':=s1.toks) kp,Zee (Zv2 l1) (Zll b1 b2) (by rw [e1]; exact Zb9 _ _) (by rw [e2]; exact Zdx _ _),⟨z0,t1,⟨_,_,t0⟩,st1,st2⟩,fun c hc=>?_,q⟩
 have hle:s1.heap.objs.size<=c:=by
  simp only [List.mem_cons,List.not_mem_nil,or_false] at hc
  have:(s1.heap.objs.size:Nat)<=(c:Nat):=by rcases hc with rfl | rfl | rfl | rfl | rfl <;> lia
  exact this
 exact I1.fpOk hle (I1.hok.fresh hle)
theorem Zs1 {X:Cx}{a b:Expr}{ta:TA}{p pos:Pos}{elts:List Expr}{ek:Nat}{epos:Pos}(hg:Gl X "zip") (hm:X.mg "zip" = none) (ha:QA X [a,b] ta) (hs:starEach [a,b] X.env = [(false,eval a X.env),(false,eval b X.env)]:=by rfl) (hs2:starEach [b] X.env = [(false,eval b X.env)]:=by rfl) :
  QI X (.Tuple elts ek epos) (.Call (.Name "zip" p) [a,b] [] pos) (Zlt X.K ta):=⟨Zs0 hg hm ha.h hs hs2⟩
end L2
end
section
set_option Elab.async false
set_option linter.all false
set_option maxRecDepth 100000
set_option maxHeartbeats 4000000
namespace L2
open PySem PySem.Spec PyProof.Rows
theorem Zp2 {K:PySem.W.Frag}{l1 l2:Addr}{nl:Nat}{fv:St}{g:TG}{tt:TTs}{te:TE}{Q:VK}{H:Hp}(xs zs:List V) (hxz:xs.length=zs.length) (n21:l2≠l1) (Pv:Nat->List V->Hp->Prop) (h0:Pv 0 [] H) (hn:xs.length<=1000000)
  (hl:∀ i ys H,i<=xs.length->Pv i ys H->SqL K H l1 xs/\SqT K H l2 zs) (hlen:∀ i ys H,Pv i ys H->ys.length<=i)
  (step:∀ i x z p ys H,xs[i]? = some x->zs[i]? = some z->Pv i ys H->H p=none->Wf nl fv g tt te (.ref p) (upd H p (.tup [x,z])) (fun y H'=>Pv (i+1) (ys ++ [y]) H') fun H'=>Pv (i+1) ys H')
  (hd:∀ ys H,Pv xs.length ys H->∀ l,H l=none->Q (.ref l) (upd H l (.lst ys))) :
  Vf (Itz (SqM l1) K l1 l2) nl fv g tt te Q H:=by
 have m:∀ {i ys H},i<=xs.length->Pv i ys H->SqM l1 K H l1 xs/\SqM l1 K H l2 zs:=fun hi p=>let ⟨a,b⟩:=hl _ _ _ hi p; ⟨.inl ⟨rfl,a⟩,.inr ⟨n21,b⟩⟩
 refine Zii xs.length (fun i=>(xs[i]?).bind fun x=>(zs[i]?).map fun z=>[x,z]) Pv h0 hn (fun i H ys hi p=>⟨xs,zs,(m (Nat.le_of_lt hi) p).1,(m (Nat.le_of_lt hi) p).2,hi,by lia⟩) ?_ (fun H ys p=>⟨xs,zs,(m (Nat.le_refl _) p).1,(m (Nat.le_refl _) p).2,.inl (Nat.le_refl _)⟩) hlen ?_ hd
 ·rintro i H x H' ys hi p ⟨q,a,b,rfl,hq,rfl,ha⟩
  obtain ⟨e1,e2⟩:=ha xs zs (m (Nat.le_of_lt hi) p).1 (m (Nat.le_of_lt hi) p).2
  exact ⟨q,[a,b],by rw [e1,e2]; rfl,rfl,hq,rfl⟩
 ·intro i us p ys H hi hf hp hq
  obtain ⟨x,hx,h2⟩:=Option.bind_eq_some_iff.mp hf
  obtain ⟨z,hz,rfl⟩:=Option.map_eq_some_iff.mp h2
  exact step i x z p ys H hx hz hp hq
section
variable {X:Cx}
def Zuz (K:PySem.W.Frag):List V->Hp->VK->Prop:=fun xs H Q=>∃ p ys,xs = [.ref p]/\((SqL K H p ys/\∀ l,H l=none->Q (.ref l) (upd H l (.tup ys)))\/(SqT K H p ys/\Q (.ref p) H))
theorem Zb3:QC X (.type "tuple") (Zuz X.K):=⟨Zn7⟩
structure QPs (X:Cx) (pos:Pos) (keys:List (Option Expr)) (values:List Expr) (trs:List (TE×TE)):Prop where
 h:PPs X pos keys values trs
theorem Zjr {pos:Pos}:QPs X pos [] [] []:=⟨Zsg⟩
theorem W9 {pos:Pos}{k v:Expr}{ks:List (Option Expr)}{vs:List Expr}{tk tv:TE}{trs:List (TE×TE)}(hk:QE X k tk) (hv:QE X v tv) (hr:QPs X pos ks vs trs):QPs X pos (some k::ks) (v::vs) ((tk,tv)::trs):=⟨Zqk hk.h hv.h hr.h⟩
theorem Zjs {pos:Pos}{keys:List (Option Expr)}{values:List Expr}{trs:List (TE×TE)}(h:QPs X pos keys values trs) (hall:keys.all (·.isSome)=true:=by rfl) (hl:keys.length=values.length:=by rfl) (h0:keys ≠ []:=by simp) (h15:keys.length<=15:=by decide):QE X (.Dict keys values pos) (Zlh trs):=⟨Zsh h.h hall hl h0 h15⟩
end
end L2
end
section
set_option Elab.async false
set_option linter.all false
set_option maxRecDepth 100000
set_option maxHeartbeats 4000000
namespace L2
open PySem PySem.Spec PyProof.Rows
def sgU (x:Str):List Value:=(cs x).map fun c=>.str ⟨#[c]⟩ 0
def sgV (x:Str):List V:=(cs x).map fun c=>.str ⟨#[c]⟩
theorem Zs2 (x:Str):Vals (sgV x) (sgU x):=by
 unfold sgV sgU
 generalize cs x=l
 induction l with
 | nil=>exact .nil
 | cons c l ih=>exact .cons ⟨0,rfl⟩ ih
theorem Zu0 {x:Str}{k:Nat}{v:Value}(h:(sgU x)[k]? = some v):∃ c,x.cps[k]? = some c/\v = .str ⟨#[c]⟩ 0:=by
 unfold sgU at h
 rw [List.getElem?_map] at h
 obtain ⟨c,h1,h2⟩:=Option.map_eq_some_iff.mp h
 exact ⟨c,by rw [← h1]; exact (Array.getElem?_toList ..).symm,h2.symm⟩
theorem Zrh {x:Str}{k:Nat}(h:(sgU x)[k]? = none):x.cps[k]? = none:=by
 unfold sgU at h
 rw [List.getElem?_map,Option.map_eq_none_iff] at h
 rw [← Array.getElem?_toList]; exact h
theorem Zs3 {P:Program}{w:World}(it l:Addr) (x:Str) (t:Tok):Drw P w it l (fun k h=>h.IsStrIter it (strIterType x) x t k) (fun _ its=>its=sgU x) where
 obj:=fun k h st=>by
  obtain ⟨o,e,c,d⟩:=st
  exact ⟨o,e,fun v z=>by rw [d] at z; cases z⟩
 keep:=fun k h h' st kk=>let ⟨o,ho,r⟩:=st; ⟨o,kk o ho,r⟩
 src:=fun h h' its hl kk=>hl
 item:=fun A k s its v Q E st hl hx hQ=>by
  subst hl
  obtain ⟨c,hc,rfl⟩:=Zu0 hx
  unfold strIterType at st hQ
  cases ha:x.cps.all (· < 128)
  ·rw [ha] at st hQ
   exact wpAny_nextOf_wide_item st hc fun h' st' sb=>hQ _ h' _ (.inr ⟨_,_,_,rfl,rfl⟩) st' sb
  ·rw [ha] at st hQ
   exact wpAny_nextOf_ascii_item st hc fun h' st' sb=>hQ _ h' _ (.inr ⟨_,_,_,rfl,rfl⟩) st' sb
 done:=fun A k s its Q E hh st hl hx hE=>by
  subst hl
  have hc:=Zrh hx
  unfold strIterType at st
  cases ha:x.cps.all (· < 128)
  ·rw [ha] at st
   exact wpAny_nextOf_wide_end hh st hc hE
  ·rw [ha] at st
   exact wpAny_nextOf_ascii_end hh st hc hE
abbrev szA (h:Heap) (x:Str) (t:Tok):Heap:=h.push {cls:=.type (strIterType x),data:=.fields #[.str x t,.int 0 0] }
abbrev szB (h:Heap) (x:Str) (t:Tok) (t2:Addr):Heap:=(szA h x t).push {cls:=.type "list_iterator", data:=.fields #[.ref t2,.int 0 0] }
abbrev szC (h:Heap) (x:Str) (t:Tok) (t2:Addr):Heap:=(szB h x t t2).push {cls:=.type "tuple", data:=.seq #[.ref h.objs.size,.ref (szA h x t).objs.size] }
abbrev szD (h:Heap) (x:Str) (t:Tok) (t2:Addr):Heap:=(szC h x t t2).push {cls:=.type "tuple", data:=.seq #[.none,.none] }
abbrev szE (h:Heap) (x:Str) (t:Tok) (t2:Addr):Heap:=(szD h x t t2).push {cls:=.type "zip", data:=.fields #[.none,.bool false,.bool false,.ref (szB h x t t2).objs.size,.ref (szC h x t t2).objs.size] }
theorem Zor (x:Str) (t:Tok) (l2:Addr) (ys:Array Value):Meets (Builtin.«zip.__new__» ⟨[.type "zip", .str x t,.ref l2],[]⟩) (fun _ R s=>s.heap.IsList l2 ys/\R (.ok (.ret (.ref (szD s.heap x t l2).objs.size))) {s with heap:=szE s.heap x t l2 }) :=
 .of_wp fun prog w A R s h=>by
  obtain ⟨hp,g,d,tk,os⟩:=s; obtain ⟨hl2,h⟩:=h
  have hsub:=sub_zip
  have hL2:Heap.IsList (Shared.heap ⟨szA hp x t,g,d,tk,os⟩) l2 ys:=hl2.at fun o e=>Heap.get?_push_of_some _ e
  wp_walk using wpAny_pyIter_strU,wpAny_pyIter_list hL2
  exact ⟨_,rfl,h⟩
section
variable {P:Program}{w:World}{A:Around}{E:Value->Shared->Prop}{s:Shared}
theorem Zo6 {x:Str}{t:Tok}{l2:Addr}{ys:Array Value}{Q:Value->Shared->Prop}(hl2:s.heap.IsList l2 ys)
  (h:∀ h',IsZip h' (s.heap.objs.size+4) (s.heap.objs.size+2) (s.heap.objs.size+3) .none->IsPair h' (s.heap.objs.size+2) (.ref s.heap.objs.size) (.ref (s.heap.objs.size+1)) ->
   IsPair h' (s.heap.objs.size+3) .none .none->h'.IsStrIter s.heap.objs.size (strIterType x) x t 0->h'.IsListIter (s.heap.objs.size+1) l2 0 ->
   (∀ c o,s.heap.get? c=some o->h'.get? c=some o)->Q (.ref (s.heap.objs.size+4)) {s with heap:=h' }):wpAny (model P w) A (call (.type "zip") [.str x t,.ref l2]) Q E s:=by
 refine callType_new F.called_zip (by decide) (F.typeCall_zip_2 _ _) (F.newCall_zip_2 _ _) (fun obj=>F.args_object_init_3 obj _ _) F.entry_zip_new (Zor x t l2 ys) ⟨hl2,?_⟩
 have n1:(szA s.heap x t).objs.size=s.heap.objs.size+1:=Heap.size_push ..
 have n2:(szB s.heap x t l2).objs.size=s.heap.objs.size+2:=by rw [Heap.size_push,n1]
 have n3:(szC s.heap x t l2).objs.size=s.heap.objs.size+3:=by rw [Heap.size_push,n2]
 have n4:(szD s.heap x t l2).objs.size=s.heap.objs.size+4:=by rw [Heap.size_push,n3]
 have q5:(szE s.heap x t l2).get? (szD s.heap x t l2).objs.size=some _:=Heap.get?_push_size _ rfl
 have q4:(szE s.heap x t l2).get? (szC s.heap x t l2).objs.size=some _:=Heap.get?_push_of_some _ (Heap.get?_push_size _ rfl)
 have q3:(szE s.heap x t l2).get? (szB s.heap x t l2).objs.size=some _:=Heap.get?_push_of_some _ (Heap.get?_push_of_some _ (Heap.get?_push_size _ rfl))
 have q2:(szE s.heap x t l2).get? (szA s.heap x t).objs.size=some _:=Heap.get?_push_of_some _ (Heap.get?_push_of_some _ (Heap.get?_push_of_some _ (Heap.get?_push_size _ rfl)))
 have q1:(szE s.heap x t l2).get? s.heap.objs.size=some _:=Heap.get?_push_of_some _ (Heap.get?_push_of_some _ (Heap.get?_push_of_some _ (Heap.get?_push_of_some _ (Heap.get?_push_size _ rfl))))
 show _/\_
 rw [n2,n3,n4] at q5
 rw [n1,n2] at q3
 rw [n3] at q4
 rw [n1] at q2
 rw [n4]
 exact ⟨⟨_,q5,rfl⟩,h _ q5 q3 q4 ⟨_,q1,rfl,rfl⟩ ⟨_,q2,rfl,rfl⟩ fun c o x=>Heap.get?_push_of_some _ (Heap.get?_push_of_some _ (Heap.get?_push_of_some _ (Heap.get?_push_of_some _ (Heap.get?_push_of_some _ x))))⟩
end
def SqS (a:Addr) (x:Str):PySem.W.Frag->Hp->Addr->List V->Prop:=fun K H b xs=>(b=a/\xs=sgV x)\/(b≠a/\SqL K H b xs)
def HsS (a:Addr) (x:Str):Addr->Heap->List Value->Prop:=fun b h its=>if b=a then its=sgU x else h.IsList b its.toArray
theorem Zv3 (a:Addr) (x:Str):SqK (SqS a x) (HsS a x):=by
 refine ⟨fun {X pins σ H s l xs} I h=>?_,fun {X pins σ H s l xs ys} I h h'=>?_⟩
 ·rcases h with ⟨rfl,rfl⟩ | ⟨n,h⟩
  ·exact ⟨sgU x,Zs2 x,by unfold HsS; rw [if_pos rfl]⟩
  ·obtain ⟨its,r,p,_⟩:=I.list h
   exact ⟨its,r,by unfold HsS; rw [if_neg n]; exact p.isList⟩
 ·rcases h with ⟨e,rfl⟩ | ⟨n,h⟩
  ·rcases h' with ⟨_,rfl⟩ | ⟨n,_⟩
   ·rfl
   ·exact absurd e n
  ·rcases h' with ⟨e,_⟩ | ⟨_,h'⟩
   ·exact absurd e n
   ·exact I.list_inj h h'
def Zv4 (K:PySem.W.Frag) (ta:TA):TI:=fun σ H R=>ta σ H fun vs H1=>∃ x l2 ys,vs = [.str x,.ref l2]/\SqL K H1 l2 ys/\∀ a,l2≠a->R (Itz (SqS a x) K a l2) H1
theorem Zs4 {X:Cx}{a b:Expr}{ta:TA}{p pos:Pos}{elts:List Expr}{ek:Nat}{epos:Pos}(hg:Gl X "zip") (hm:X.mg "zip" = none) (ha:QA X [a,b] ta) (hs:starEach [a,b] X.env = [(false,eval a X.env),(false,eval b X.env)]:=by rfl) (hs2:starEach [b] X.env = [(false,eval b X.env)]:=by rfl) :
  QI X (.Tuple elts ek epos) (.Call (.Name "zip" p) [a,b] [] pos) (Zv4 X.K ta):=⟨by
 intro pins s σ H R I h
 refine Call_ (Ud I hg hm boot_zip (PyProof.Rows.callWith_type1 (thn (ha.h pos pins s σ H _ I h) fun us s1 ⟨vs,H1,I1,r1,q1⟩=>?_) (by rw [hs,hs2]) (by rw [hs2]; rfl)))
 obtain ⟨x,l2,ys,e,h2,q⟩:=q1
 subst e
 obtain ⟨u1,u2,rfl,ru1,ru2⟩:=Zc1 r1
 obtain ⟨t,rfl⟩:=ru1
 cases ru2
 obtain ⟨its2,r2,p2,_⟩:=I1.list h2
 have b2:l2 < s1.heap.objs.size:=by obtain ⟨o,n,e,_⟩:=p2; exact Heap.lt_size e
 have b2' : @LT.lt Nat _ l2 s1.heap.objs.size:=b2
 have key:∀ (a b:Nat),(a < b\/b < a)->¬ (@Eq Nat a b):=fun a b h q=>by lia
 have n2:l2≠s1.heap.objs.size+2:=key _ _ (by lia)
 have q:=q _ n2
 have e1:HsS (s1.heap.objs.size+2) x (s1.heap.objs.size+2)=fun _ its=>its=sgU x:=funext fun h=>funext fun its=>if_pos rfl
 have e2:HsS (s1.heap.objs.size+2) x l2=fun h its=>h.IsList l2 its.toArray:=funext fun h=>funext fun its=>if_neg n2
 refine Zo6 p2.isList fun h' z0 t1 t0 st1 st2 kp=>?_
 refine wpAny_pyIter_zip z0 ?_
 have Z:ZA (s1.heap.objs.size+4) (s1.heap.objs.size+2) (s1.heap.objs.size+3) s1.heap.objs.size (s1.heap.objs.size+1) (s1.heap.objs.size+2) l2 :=
  ⟨key _ _ (by lia),key _ _ (by lia),key _ _ (by lia),key _ _ (by lia),key _ _ (by lia),key _ _ (by lia),key _ _ (by lia),key _ _ (by lia),key _ _ (by lia),key _ _ (by lia),
  key _ _ (by lia),key _ _ (by lia),key _ _ (by lia),key _ _ (by lia),key _ _ (by lia),key _ _ (by lia),key _ _ (by lia),key _ _ (by lia)⟩
 refine ⟨s1.heap.objs.size+4,_,_,_,H1,rfl,I1.kept (h':=h') (t':=s1.toks) kp,Zee (Zv3 _ x) Z (by rw [e1]; exact Zs3 _ _ x t) (by rw [e2]; exact Zb9 _ _),⟨z0,t1,⟨_,_,t0⟩,st1,st2⟩,fun c hc=>?_,q⟩
 have hle:s1.heap.objs.size<=c:=by
  simp only [List.mem_cons,List.not_mem_nil,or_false] at hc
  have:(s1.heap.objs.size:Nat)<=(c:Nat):=by rcases hc with rfl | rfl | rfl | rfl | rfl <;> lia
  exact this
 exact I1.fpOk hle (I1.hok.fresh hle)⟩
theorem Zp3 {K:PySem.W.Frag}{a l2:Addr}{x:Str}{nl:Nat}{fv:St}{g:TG}{tt:TTs}{te:TE}{Q:VK}{H:Hp}(zs:List V) (hxz:x.length<=zs.length) (n21:l2≠a) (Pv:Nat->List V->Hp->Prop) (h0:Pv 0 [] H) (hn:x.length<=1000000)
  (hl:∀ i ys H,i<=x.length->Pv i ys H->SqL K H l2 zs) (hlen:∀ i ys H,Pv i ys H->ys.length<=i)
  (step:∀ i c z p ys H,(cs x)[i]? = some c->zs[i]? = some z->Pv i ys H->H p=none->Wf nl fv g tt te (.ref p) (upd H p (.tup [.str ⟨#[c]⟩,z])) (fun y H'=>Pv (i+1) (ys ++ [y]) H') fun H'=>Pv (i+1) ys H')
  (hd:∀ ys H,Pv x.length ys H->∀ l,H l=none->Q (.ref l) (upd H l (.lst ys))) :
  Vf (Itz (SqS a x) K a l2) nl fv g tt te Q H:=by
 have el:(sgV x).length=x.length:=by unfold sgV; rw [List.length_map]; exact Zu x
 have m:∀ {i ys H},i<=x.length->Pv i ys H->SqS a x K H a (sgV x)/\SqS a x K H l2 zs:=fun hi p=>⟨.inl ⟨rfl,rfl⟩,.inr ⟨n21,hl _ _ _ hi p⟩⟩
 refine Zii x.length (fun i=>((sgV x)[i]?).bind fun x=>(zs[i]?).map fun z=>[x,z]) Pv h0 hn (fun i H ys hi p=>⟨sgV x,zs,(m (Nat.le_of_lt hi) p).1,(m (Nat.le_of_lt hi) p).2,by lia,by lia⟩) ?_ (fun H ys p=>⟨sgV x,zs,(m (Nat.le_refl _) p).1,(m (Nat.le_refl _) p).2,.inl (Nat.le_of_eq el)⟩) hlen ?_ hd
 ·rintro i H x' H' ys hi p ⟨q,a',b,rfl,hq,rfl,ha⟩
  obtain ⟨e1,e2⟩:=ha (sgV x) zs (m (Nat.le_of_lt hi) p).1 (m (Nat.le_of_lt hi) p).2
  exact ⟨q,[a',b],by rw [e1,e2]; rfl,rfl,hq,rfl⟩
 ·intro i us p ys H hi hf hp hq
  obtain ⟨x',hx,h2⟩:=Option.bind_eq_some_iff.mp hf
  obtain ⟨z,hz,rfl⟩:=Option.map_eq_some_iff.mp h2
  unfold sgV at hx
  rw [List.getElem?_map] at hx
  obtain ⟨c,hc,rfl⟩:=Option.map_eq_some_iff.mp hx
  exact step i c z p ys H hc hz hp hq
end L2
end
section
set_option Elab.async false
set_option linter.all false
set_option maxRecDepth 100000
set_option maxHeartbeats 4000000
namespace L2
open PySem PySem.Spec PyProof.Rows
section
variable {X:Cx}
def Us:V->Bool
 | .non=>true
 | _=>false
def Zbr:Value->Bool
 | .none=>true
 | _=>false
def Ut (H:Hp) (v:V):Prop:=v = .non\/(∃ x,v = .str x)\/(∃ i,v = .int i)\/∃ l ys,v = .ref l/\H l=some (.lst ys)
def Zkr (K:PySem.W.Frag):R2:=fun x y H Q=>x = .non/\∃ p xs,y = .ref p/\SqL K H p xs/\(∀ v∈xs,Ut H v)/\Q (.bl (xs.any Us)) H
theorem Zs5 {H:Hp}{xs:List V}{its:List Value}(r:Vals xs its) (h:∀ v∈xs,Ut H v):its.any Zbr=xs.any Us:=by
 induction r with
 | nil=>rfl
 | @cons x u xs us r1 rr ih =>
  rw [List.any_cons,List.any_cons,ih fun v hv=>h v (List.mem_cons_of_mem _ hv)]
  congr 1
  rcases h x List.mem_cons_self with rfl | ⟨z,rfl⟩ | ⟨i,rfl⟩ | ⟨l,ys,rfl,_⟩
  ·cases r1; rfl
  ·obtain ⟨_,rfl⟩:=r1; rfl
  ·obtain ⟨_,rfl⟩:=r1; rfl
  ·cases r1; rfl
theorem Zri (hu:X.A.in1.units < cLine):OpR X (compareOp .In) (Zkr X.K):=by
 intro pins s σ H x y v u Q I rx ry ⟨ex,p,xs,ey,hq,hv,q⟩
 subst ex ey
 cases rx
 obtain rfl:u=Value.ref p:=ry
 obtain ⟨its,r,pl,hz⟩:=I.list hq
 have hi:∀ w∈its,SeqAt.EqAt X.A.in1 s w .none (Zbr w):=by
  have go:∀ {xs:List V}{its:List Value},Vals xs its->(∀ v∈xs,Ut H v)->∀ w∈its,SeqAt.EqAt X.A.in1 s w .none (Zbr w):=by
   intro xs its r
   induction r with
   | nil=>intro _ w hw; cases hw
   | @cons x u xs us r1 rr ih =>
    intro h w hw
    rcases List.mem_cons.mp hw with rfl | hw
    ·rcases h x List.mem_cons_self with rfl | ⟨z,rfl⟩ | ⟨i,rfl⟩ | ⟨l,ys,rfl,hl⟩
     ·cases r1; exact SeqAt.EqAt.same _
     ·have:=Zcp (A:=X.A.in1) (s:=s) (x:=.non) (v:=.none) r1 rfl rfl rfl
      obtain ⟨_,rfl⟩:=r1; exact this
     ·have:=Zcp (A:=X.A.in1) (s:=s) (x:=.non) (v:=.none) r1 rfl rfl rfl
      obtain ⟨_,rfl⟩:=r1; exact this
     ·cases r1
      obtain ⟨its2,_,pl2,_⟩:=I.list (SqL.of hl)
      exact SeqAt.EqAt.list_none pl2.isList hu
    ·exact ih (fun v hv=>h v (List.mem_cons_of_mem _ hv)) w hw
  exact go r hv
 refine SeqAt.in_listAt Zbr pl.isList (fun w hw=>hi w (by simpa using hw)) ⟨.bl _,H,I,rfl,?_⟩
 have e2:its.toArray.any Zbr=xs.any Us:=by rw [← Zs5 r hv]; simp
 rw [e2]
 exact q
theorem Zd3 {k:Nat}(hr:Room k X.A):QOp X (compareOp .In) (Zkr X.K):=⟨Zri (by have:=hr.un; show X.A.units+1 < _; lia)⟩
def Zlu (K:PySem.W.Frag):R2:=fun x y H Q=>∃ (a b:Addr) (xs:List V),x = .ref a/\y = .ref b/\SqL K H a xs/\SqL K H b xs/\(∀ v∈xs,W2 v=true/\eqV v v=true)/\Q (.bl false) H
theorem Zs6 (hu:X.A.units < cLine):OpR X (compareOp .NotEq) (Zlu X.K):=by
 intro pins s σ H x y v u Q I rx ry ⟨a,b,xs,ex,ey,ha,hb,hf,q⟩
 subst ex ey
 obtain rfl:v=Value.ref a:=rx
 obtain rfl:u=Value.ref b:=ry
 obtain ⟨i1,r1,p1,_⟩:=I.list ha
 obtain ⟨i2,r2,p2,_⟩:=I.list hb
 have l1:=r1.length
 have l2:=r2.length
 have h:=SeqAt.RcNeAt.lists (A:=X.A) (e:=fun _=>true) p1.isList p2.isList (by rw [List.size_toArray,List.size_toArray]; lia) hu (fun j h1 h2=>by
  show SeqAt.EqAt _ _ _ _ true
  have hj:j < xs.length:=by rw [List.size_toArray] at h1; lia
  have gx:xs[j]? = some xs[j]:=List.getElem?_eq_getElem hj
  obtain ⟨u1,hu1,ru1⟩:=r1.get gx
  obtain ⟨u2,hu2,ru2⟩:=r2.get gx
  obtain ⟨f1,f2⟩:=hf xs[j] (List.getElem_mem hj)
  have e1:i1.toArray[j]=u1:=by rw [List.getElem_toArray]; exact (List.getElem?_eq_some_iff.mp hu1).2
  have e2:i2.toArray[j]=u2:=by rw [List.getElem_toArray]; exact (List.getElem?_eq_some_iff.mp hu2).2
  rw [e1,e2,← f2]
  exact Zcp ru1 ru2 f1 f1)
 rw [show (!(List.range i1.toArray.size).all fun _=>true)=false by simp] at h
 exact h X.prog X.w _ _ ⟨.bl false,H,I,rfl,q⟩
theorem Zrj {k:Nat}(hr:Room k X.A):QOp X (compareOp .NotEq) (Zlu X.K):=⟨Zs6 hr.units0⟩
end
end L2
end
set_option Elab.async false
set_option linter.all false
set_option maxRecDepth 100000
set_option maxHeartbeats 4000000
namespace Law
open PySem L2
local macro_rules | `(tactic| walk_at "hp")=>`(tactic| first | exact Zg | assumption | (rw [Zt (by first | assumption | (apply Ne.symm; assumption))]; walk_at "hp"))
local macro_rules | `(tactic| walk_at "sq")=>`(tactic| first | assumption | exact SqL.of (by walk_at "hp"))
local macro_rules | `(tactic| walk_at "dc")=>`(tactic| first | decide | assumption | lia)
local macro_rules | `(tactic| walk_at "rd1")=>`(tactic| first | refine Z2 ?_ | refine Zr ?_ | refine Zq (fun _=>?_) (fun _=>?_) | refine Yr (fun _=>?_) (fun _=>?_) | refine Zc8 (fun _=>?_) (fun _=>?_) | refine ⟨_,rfl,?_⟩ | refine ⟨_,_,rfl,rfl,?_⟩ | refine ⟨(.inr ⟨by decide,by decide⟩:CMul _ _),?_⟩ | refine ⟨(⟨by walk_at "dc", by walk_at "dc"⟩:Zgn _ _),?_⟩ | refine ⟨(⟨by decide,by decide,by decide⟩:Zgo _ _),?_⟩ | refine ⟨(show (0:Int) < _ by walk_at "dc"),?_⟩ | refine ⟨_,_,_,_,rfl,rfl,(by walk_at "sq"),(by rfl),?_⟩ | refine ⟨_,_,_,_,rfl,rfl,(by walk_at "sq"),Zsm (by lia) (by lia),?_⟩ | refine ⟨_,_,_,_,rfl,rfl,(by walk_at "hp"),(by rfl),?_⟩ | refine ⟨_,_,rfl,.inl (by walk_at "sq"),?_⟩ | fail "rd")
local macro_rules | `(tactic| walk_at "rd")=>`(tactic| repeat' walk_at "rd1")
def top (i:Nat):Stmt:=PySem.Challenge.pw_forsworn_k50_lines_read.main.body.getD i (.Pass ⟨0,0,0,0⟩)
structure Txt (mg:Str->Option Value):Prop where
 len:mg "len" = none
 list:mg "list" = none
 range:mg "range" = none
 isinstance:mg "isinstance" = none
 bool:mg "bool" = none
 int:mg "int" = none
 str:mg "str" = none
 tuple:mg "tuple" = none
 zip:mg "zip" = none
 all:mg "all" = none
 ValueError:mg "ValueError" = none
section
variable {P:Program}{w:World}{K:PySem.W.Frag}{mg:Str->Option Value}{base:Heap}
def isInt:D->Bool
 | .int _=>true
 | _=>false
def Zex:Sp:=fun vs H Q _=>∃ (v:V) (d:D),vs = [v]/\Rep H d v/\Q (.bl (isInt d)) H
abbrev Uu:Stmt:=top 20
theorem Zv5:FnScope ["_law_found_here"] ["_law_found_here"] (Za Uu):=⟨rfl,rfl,rfl,by decide +kernel,rfl,by decide +kernel,by decide +kernel⟩
theorem Zm3:Nm (Za Uu) "_law_found_here" .local:=by decide +kernel
theorem Zv6:Nm (Za Uu) "bool" .globalImplicit:=by decide +kernel
theorem Zv7:Nm (Za Uu) "int" .globalImplicit:=by decide +kernel
theorem Zm4:Nm (Za Uu) "isinstance" .globalImplicit:=by decide +kernel
theorem Zv8 (Zfl:Has K mg "_law_whole" Uu) (T:Txt mg):Fn P w K mg base "_law_whole" ["_law_found_here"] 1 Zex:=by
 refine Zfl.fnQ Zv5 (fun _ _ _ _ _ _ us hl=>match us,hl with | [_],_=>rfl) (fun vs H Q E h=>?_) (fun f cdv A outer s H vs Q E hr h=>?_)
 ·obtain ⟨v,d,rfl,_⟩:=h
  rfl
 ·obtain ⟨v,d,rfl,r,k⟩:=h
  refine ⟨_,(Ze (Zi (Zag (Zw Wl Zm4 T.isinstance Wc (Zb (qvN 0 Zm3) (Zb (Wh (v:=.ty "int") Zv7 T.int Zc3 rfl) Zc))) (Ui (Zuo (Zw Wl Zm4 T.isinstance Wc (Zb (qvN 0 Zm3) (Zb (Wh (v:=.ty "bool") Zv6 T.bool Ze8 rfl) Zc)))))))),?_⟩
  obtain ⟨t1,ty1,e1⟩:=isi (K:=K) r "int" (by decide)
  obtain ⟨t2,ty2,e2⟩:=isi (K:=K) r "bool" (by decide)
  refine ⟨_,rfl,v, "int", t1,_,rfl,ty1,e1,_,rfl,Zc8 (fun h1=>?_) (fun h1=>?_)⟩
  ·refine ⟨_,rfl,v, "bool", t2,_,rfl,ty2,e2,_,rfl,?_⟩
   have e:(!isI d "bool")=isInt d:=by cases d <;> first | rfl | (simp [isI] at h1)
   rw [e]
   exact k
  ·have e:false=isInt d:=by cases d <;> first | rfl | (simp [isI] at h1)
   rw [e]
   exact k
def Zcu (n:Nat):Sp:=fun vs H Q _=>∃ (v1 v2:V) (d1 d2:D),vs = [v1,v2]/\Rep H d1 v1/\Rep H d2 v2/\d2.deep<=n/\∀ H',Same H H'->Q (.bl (Yd d1 d2)) H'
abbrev Yt:Stmt:=top 21
theorem Zfm:FnScope ["_law_found_here", "_law_due", "_law_one", "_law_other"] ["_law_found_here", "_law_due"] (Za Yt):=⟨rfl,rfl,rfl,by decide +kernel,rfl,by decide +kernel,by decide +kernel⟩
theorem W0:Nm (Za Yt) "_law_due" .local:=by decide +kernel
theorem W1:Nm (Za Yt) "_law_found_here" .local:=by decide +kernel
theorem Zm5:Nm (Za Yt) "_law_one" .local:=by decide +kernel
theorem Zm6:Nm (Za Yt) "_law_other" .local:=by decide +kernel
theorem Zv9:Nm (Za Yt) "_law_same" .globalImplicit:=by decide +kernel
theorem Zwa:Nm (Za Yt) "_law_whole" .globalImplicit:=by decide +kernel
theorem Zm7:Nm (Za Yt) "bool" .globalImplicit:=by decide +kernel
theorem Zwb:Nm (Za Yt) "int" .globalImplicit:=by decide +kernel
theorem Vu:Nm (Za Yt) "isinstance" .globalImplicit:=by decide +kernel
theorem Zm8:Nm (Za Yt) "len" .globalImplicit:=by decide +kernel
theorem Zm9:Nm (Za Yt) "list" .globalImplicit:=by decide +kernel
theorem Zna:Nm (Za Yt) "str" .globalImplicit:=by decide +kernel
theorem Znb:Nm (Za Yt) "tuple" .globalImplicit:=by decide +kernel
theorem Zwc:Nm (Za Yt) "zip" .globalImplicit:=by decide +kernel
theorem Zim {n k:Nat}(Va:Has K mg "_law_same" Yt) (T:Txt mg) (Zbk:Fn P w K mg base "_law_whole" ["_law_found_here"] 1 Zex)
  (Zfn:Fn P w K mg base "_law_same" ["_law_found_here", "_law_due"] (k+1) (fun vs H Q E=>0 < n/\Zcu (n - 1) vs H Q E)):Fn P w K mg base "_law_same" ["_law_found_here", "_law_due"] (k+2) (Zcu n):=by
 refine Va.fnQ Zfm (fun _ _ _ _ _ _ us hl=>match us,hl with | [_,_],_=>rfl) (fun vs H Q E h=>?_) (fun f cdv A outer s H vs Q E hr h=>?_)
 ·obtain ⟨v1,v2,d1,d2,rfl,_⟩:=h
  rfl
 ·obtain ⟨v1,v2,d1,d2,rfl,r1,r2,hn,q⟩:=h
  have hk : 1<=k+1:=Nat.le_add_left _ _
  refine ⟨_,(Zf (Zp (Zl Za9 (qvN 1 W0) Yo (Zn _)) (Ze (Zi (U9 Za9 (qvN 0 W1) Yo (Zn _)))) Zs)
 (Zf (Zp (Vh (Zw Wl Vu T.isinstance Wc (Zb (qvN 1 W0) (Zb (Wh (v:=.ty "bool") Zm7 T.bool Ze8 rfl) Zc)))) (Ze (Zi (Zag (Zw Wl Vu T.isinstance Wc (Zb (qvN 0 W1) (Zb (Wh (v:=.ty "bool") Zm7 T.bool Ze8 rfl) Zc))) (Ui (U9 Yi (qvN 0 W1) (qvN 1 W0) (Zn _)))))) Zs)
 (Zf (Zp (Vh (Zw Wl Vu T.isinstance Wc (Zb (qvN 1 W0) (Zb (Wh (v:=.ty "int") Zwb T.int Zc3 rfl) Zc)))) (Ze (Zi (Zag (Zo Zbk (hr.mono (by lia)) Zwa (Zb (qvN 0 W1) Zc)) (Ui (U9 Yi (qvN 0 W1) (qvN 1 W0) (Zn _)))))) Zs)
 (Zf (Zp (Vh (Zw Wl Vu T.isinstance Wc (Zb (qvN 1 W0) (Zb (Wh (v:=.ty "str") Zna T.str Zfk rfl) Zc)))) (Ze (Zi (Zag (Zw Wl Vu T.isinstance Wc (Zb (qvN 0 W1) (Zb (Wh (v:=.ty "str") Zna T.str Zfk rfl) Zc))) (Ui (U9 Yi (qvN 0 W1) (qvN 1 W0) (Zn _)))))) Zs)
 (Zf (Zp (QW.pt (Vg (Zl Vx (Zw Wl Vu T.isinstance Wc (Zb (qvN 1 W0) (Zb (Wh (v:=.ty "list") Zm9 T.list Zcq rfl) Zc))) (Zw Wl Vu T.isinstance Wc (Zb (qvN 0 W1) (Zb (Wh (v:=.ty "list") Zm9 T.list Zcq rfl) Zc))) (Zn _)) (Ug (Zl Vx (Zw Wl Vu T.isinstance Wc (Zb (qvN 1 W0) (Zb (Wh (v:=.ty "tuple") Znb T.tuple U7 rfl) Zc))) (Zw Wl Vu T.isinstance Wc (Zb (qvN 0 W1) (Zb (Wh (v:=.ty "tuple") Znb T.tuple U7 rfl) Zc))) (Zn _))))) (Ze (Zi Vi)) Zs)
 (Zf (Zp (Zl Vx (Zw Wt Zm8 T.len Yh (Zb (qvN 0 W1) Zc)) (Zw Wt Zm8 T.len Yh (Zb (qvN 1 W0) Zc)) (Zn _)) (Ze (Zi Vi)) Zs)
 (Zf (W4 PassesOwn.never rfl (Zur Zwc.1 T.zip (Zb (qvN 0 W1) (Zb (qvN 1 W0) Zc))) (Zum (by rfl) (Zam (Wq (i:=2) Zfm.nd Zm5) (Zam (Wq (i:=3) Zfm.nd Zm6) Zet)))
 (Ze (Zp (Zae (Vh (Zo Zfn (hr.mono (by lia)) Zv9 (Zb (qvN 2 Zm5) (Zb (qvN 3 Zm6) Zc))))) (Ze (Zi Vi)) Zs)))
 (Ze (Zi Vi))))))))),?_⟩
  have q0:Q (.bl (Yd d1 d2)) H:=q H (Same.refl _)
  obtain ⟨tb2,yb2,eb2⟩:=isi (K:=K) r2 "bool" (by decide)
  obtain ⟨ti2,yi2,ei2⟩:=isi (K:=K) r2 "int" (by decide)
  obtain ⟨ts2,ys2,es2⟩:=isi (K:=K) r2 "str" (by decide)
  obtain ⟨tl2,yl2,el2⟩:=isi (K:=K) r2 "list" (by decide)
  obtain ⟨tt2,yt2,et2⟩:=isi (K:=K) r2 "tuple" (by decide)
  obtain ⟨tb1,yb1,eb1⟩:=isi (K:=K) r1 "bool" (by decide)
  obtain ⟨ts1,ys1,es1⟩:=isi (K:=K) r1 "str" (by decide)
  obtain ⟨tl1,yl1,el1⟩:=isi (K:=K) r1 "list" (by decide)
  obtain ⟨tt1,yt1,et1⟩:=isi (K:=K) r1 "tuple" (by decide)
  refine ⟨_,rfl,rfl,_,rfl,?_⟩
  rw [r2.none_iff]
  cases d2 with
  | non =>
   refine Z2 ⟨_,rfl,rfl,?_⟩
   rw [r1.none_iff]
   cases d1 <;> exact q0
  | bl b2 =>
   refine Zr ?_
   refine ⟨_,rfl,v2, "bool", tb2,_,rfl,yb2,eb2,_,rfl,Z2 ?_⟩
   refine ⟨_,rfl,v1, "bool", tb1,_,rfl,yb1,eb1,_,rfl,?_⟩
   cases r2
   cases d1 with
   | bl b1 =>
    cases r1
    refine Z2 ⟨_,rfl,_,rfl,rfl,?_⟩
    rw [Ze4]
    exact q0
   | non=>exact Zr q0
   | int _=>exact Zr q0
   | str _=>exact Zr q0
   | tup _=>exact Zr q0
   | lst _=>exact Zr q0
  | int i2 =>
   refine Zr ?_
   refine ⟨_,rfl,v2, "bool", tb2,_,rfl,yb2,eb2,_,rfl,Zr ?_⟩
   refine ⟨_,rfl,v2, "int", ti2,_,rfl,yi2,ei2,_,rfl,Z2 ?_⟩
   refine ⟨_,rfl,v1,d1,rfl,r1,_,rfl,?_⟩
   cases r2
   cases d1 with
   | int i1 =>
    cases r1
    refine Z2 ⟨_,rfl,_,rfl,rfl,?_⟩
    rw [Zen]
    exact q0
   | non=>exact Zr q0
   | bl _=>exact Zr q0
   | str _=>exact Zr q0
   | tup _=>exact Zr q0
   | lst _=>exact Zr q0
  | str x2 =>
   refine Zr ?_
   refine ⟨_,rfl,v2, "bool", tb2,_,rfl,yb2,eb2,_,rfl,Zr ?_⟩
   refine ⟨_,rfl,v2, "int", ti2,_,rfl,yi2,ei2,_,rfl,Zr ?_⟩
   refine ⟨_,rfl,v2, "str", ts2,_,rfl,ys2,es2,_,rfl,Z2 ?_⟩
   refine ⟨_,rfl,v1, "str", ts1,_,rfl,ys1,es1,_,rfl,?_⟩
   cases r2
   cases d1 with
   | str x1 =>
    cases r1
    refine Z2 ⟨_,rfl,_,rfl,rfl,?_⟩
    rw [Zeo]
    exact q0
   | non=>exact Zr q0
   | bl _=>exact Zr q0
   | int _=>exact Zr q0
   | tup _=>exact Zr q0
   | lst _=>exact Zr q0
  | lst ds2 =>
   refine Zr ?_
   refine ⟨_,rfl,v2, "bool", tb2,_,rfl,yb2,eb2,_,rfl,Zr ?_⟩
   refine ⟨_,rfl,v2, "int", ti2,_,rfl,yi2,ei2,_,rfl,Zr ?_⟩
   refine ⟨_,rfl,v2, "str", ts2,_,rfl,ys2,es2,_,rfl,Zr ?_⟩
   refine ⟨_,rfl,v2, "list", tl2,_,rfl,yl2,el2,_,rfl,v1, "list", tl1,_,rfl,yl1,el1,rfl,_,rfl,?_⟩
   have ne1:∀ {A B:Prop},B->if (!decide (V.bl true=V.bl true))=true then A else B:=fun h=>Yr (fun z=>absurd rfl z) fun _=>h
   have ne2:∀ {A B:Prop},B->if (!decide (V.bl false=V.bl false))=true then A else B:=fun h=>Yr (fun z=>absurd rfl z) fun _=>h
   have nt1:∀ {A B:Prop},A->if (!decide (V.bl true=V.bl false))=true then A else B:=fun h=>Yr (fun _=>h) fun z=>by cases z
   have nt2:∀ {A B:Prop},A->if (!decide (V.bl false=V.bl true))=true then A else B:=fun h=>Yr (fun _=>h) fun z=>by cases z
   have two:∀ {R:Prop},R->R:=id
   cases d1 with
   | lst ds1 =>
    refine ne1 ?_
    refine ⟨_,rfl,v2, "tuple", tt2,_,rfl,yt2,et2,_,rfl,v1, "tuple", tt1,_,rfl,yt1,et1,rfl,_,rfl,?_⟩
    refine ne2 ?_
    obtain ⟨a1,vs1,rfl,g1,p1⟩:=r1
    obtain ⟨a2,vs2,rfl,g2,p2⟩:=r2
    refine ⟨_,rfl,a1,vs1,rfl,.inl (SqL.of g1),_,rfl,a2,vs2,rfl,.inl (SqL.of g2),rfl,_,rfl,Yr (fun hne=>?_) (fun heq=>?_)⟩
    ·have:ds1.length≠ds2.length:=fun z=>hne (by rw [p1.length,p2.length,z])
     have e:Yd (.lst ds1) (.lst ds2)=false:=by rw [Yd]; exact Zhl this
     rw [e] at q0
     exact q0
    ·have hl:vs1.length=vs2.length:=by injection heq with z; lia
     have hl1:=p1.length
     have hl2:=p2.length
     refine ⟨_,rfl,_,rfl,a1,a2,rfl,.inl ⟨vs1,vs2,SqL.of g1,SqL.of g2,?_⟩⟩
     refine Ziu vs1 vs2 hl (fun i σ H'=>Same H H'/\∃ w3 w4,σ = [some (.ref a1),some (.ref a2),w3,w4]/\Yy (ds1.take i) (ds2.take i)=true) ⟨Same.refl _,none,none,rfl,rfl⟩ (fun i σ H' _ ⟨sm,_⟩=>⟨SqL.of (sm _ _ g1),SqL.of (sm _ _ g2)⟩) ?_ ?_
     ·rintro i x y p σ H' hx hy ⟨sm,w3,w4,rfl,hs⟩ hp
      obtain ⟨dx,ex,rx⟩:=p1.get hx
      obtain ⟨dy,ey,ry⟩:=p2.get hy
      have sm':=sm.trans (Same.new (o:=.tup [x,y]) hp)
      have dd:=Zef ey
      have hn':Y1 ds2+1<=n:=hn
      refine ⟨p,_,rfl,SqT.of Zg,rfl,x,[y],rfl,y,[],rfl,rfl,?_⟩
      refine ⟨_,rfl,_,rfl,by lia,x,y,dx,dy,rfl,rx.mono' sm',ry.mono' sm',by lia,fun H2 sm2=>⟨_,rfl,Zal (fun hf=>?_) (fun ht=>?_)⟩⟩
      ·have e:Yd (.lst ds1) (.lst ds2)=false:=by rw [Yd]; exact Zhn ex ey hf
       have qq:=q H2 (sm'.trans sm2)
       rw [e] at qq
       exact qq
      ·exact ⟨sm'.trans sm2,_,_,rfl,by rw [Zh2 ex ey,hs,ht]; rfl⟩
     ·rintro σ H' ⟨sm,w3,w4,rfl,hs⟩
      have e:Yd (.lst ds1) (.lst ds2)=true:=by
       rw [Yd]
       rw [List.take_of_length_le (by lia),List.take_of_length_le (by lia)] at hs
       exact hs
      have qq:=q H' sm
      rw [e] at qq
      exact qq
   | tup _=>exact nt1 (Z2 q0)
   | non=>exact nt1 (Z2 q0)
   | bl _=>exact nt1 (Z2 q0)
   | int _=>exact nt1 (Z2 q0)
   | str _=>exact nt1 (Z2 q0)
  | tup ds2 =>
   refine Zr ?_
   refine ⟨_,rfl,v2, "bool", tb2,_,rfl,yb2,eb2,_,rfl,Zr ?_⟩
   refine ⟨_,rfl,v2, "int", ti2,_,rfl,yi2,ei2,_,rfl,Zr ?_⟩
   refine ⟨_,rfl,v2, "str", ts2,_,rfl,ys2,es2,_,rfl,Zr ?_⟩
   refine ⟨_,rfl,v2, "list", tl2,_,rfl,yl2,el2,_,rfl,v1, "list", tl1,_,rfl,yl1,el1,rfl,_,rfl,?_⟩
   have ne1:∀ {A B:Prop},B->if (!decide (V.bl true=V.bl true))=true then A else B:=fun h=>Yr (fun z=>absurd rfl z) fun _=>h
   have ne2:∀ {A B:Prop},B->if (!decide (V.bl false=V.bl false))=true then A else B:=fun h=>Yr (fun z=>absurd rfl z) fun _=>h
   have nt1:∀ {A B:Prop},A->if (!decide (V.bl true=V.bl false))=true then A else B:=fun h=>Yr (fun _=>h) fun z=>by cases z
   have nt2:∀ {A B:Prop},A->if (!decide (V.bl false=V.bl true))=true then A else B:=fun h=>Yr (fun _=>h) fun z=>by cases z
   have two:∀ {R:Prop},R->R:=id
   cases d1 with
   | tup ds1 =>
    refine ne2 ?_
    refine ⟨_,rfl,v2, "tuple", tt2,_,rfl,yt2,et2,_,rfl,v1, "tuple", tt1,_,rfl,yt1,et1,rfl,_,rfl,?_⟩
    refine ne1 ?_
    obtain ⟨a1,vs1,rfl,g1,p1⟩:=r1
    obtain ⟨a2,vs2,rfl,g2,p2⟩:=r2
    refine ⟨_,rfl,a1,vs1,rfl,.inr (SqT.of g1),_,rfl,a2,vs2,rfl,.inr (SqT.of g2),rfl,_,rfl,Yr (fun hne=>?_) (fun heq=>?_)⟩
    ·have:ds1.length≠ds2.length:=fun z=>hne (by rw [p1.length,p2.length,z])
     have e:Yd (.tup ds1) (.tup ds2)=false:=by rw [Yd]; exact Zhl this
     rw [e] at q0
     exact q0
    ·have hl:vs1.length=vs2.length:=by injection heq with z; lia
     have hl1:=p1.length
     have hl2:=p2.length
     refine ⟨_,rfl,_,rfl,a1,a2,rfl,.inr ⟨vs1,vs2,SqT.of g1,SqT.of g2,?_⟩⟩
     refine Ziu vs1 vs2 hl (fun i σ H'=>Same H H'/\∃ w3 w4,σ = [some (.ref a1),some (.ref a2),w3,w4]/\Yy (ds1.take i) (ds2.take i)=true) ⟨Same.refl _,none,none,rfl,rfl⟩ (fun i σ H' _ ⟨sm,_⟩=>⟨SqT.of (sm _ _ g1),SqT.of (sm _ _ g2)⟩) ?_ ?_
     ·rintro i x y p σ H' hx hy ⟨sm,w3,w4,rfl,hs⟩ hp
      obtain ⟨dx,ex,rx⟩:=p1.get hx
      obtain ⟨dy,ey,ry⟩:=p2.get hy
      have sm':=sm.trans (Same.new (o:=.tup [x,y]) hp)
      have dd:=Zef ey
      have hn':Y1 ds2+1<=n:=hn
      refine ⟨p,_,rfl,SqT.of Zg,rfl,x,[y],rfl,y,[],rfl,rfl,?_⟩
      refine ⟨_,rfl,_,rfl,by lia,x,y,dx,dy,rfl,rx.mono' sm',ry.mono' sm',by lia,fun H2 sm2=>⟨_,rfl,Zal (fun hf=>?_) (fun ht=>?_)⟩⟩
      ·have e:Yd (.tup ds1) (.tup ds2)=false:=by rw [Yd]; exact Zhn ex ey hf
       have qq:=q H2 (sm'.trans sm2)
       rw [e] at qq
       exact qq
      ·exact ⟨sm'.trans sm2,_,_,rfl,by rw [Zh2 ex ey,hs,ht]; rfl⟩
     ·rintro σ H' ⟨sm,w3,w4,rfl,hs⟩
      have e:Yd (.tup ds1) (.tup ds2)=true:=by
       rw [Yd]
       rw [List.take_of_length_le (by lia),List.take_of_length_le (by lia)] at hs
       exact hs
      have qq:=q H' sm
      rw [e] at qq
      exact qq
   | lst _=>exact nt2 (Z2 q0)
   | non=>exact ne2 ⟨_,rfl,v2, "tuple", tt2,_,rfl,yt2,et2,_,rfl,v1, "tuple", tt1,_,rfl,yt1,et1,rfl,_,rfl,nt1 q0⟩
   | bl _=>exact ne2 ⟨_,rfl,v2, "tuple", tt2,_,rfl,yt2,et2,_,rfl,v1, "tuple", tt1,_,rfl,yt1,et1,rfl,_,rfl,nt1 q0⟩
   | int _=>exact ne2 ⟨_,rfl,v2, "tuple", tt2,_,rfl,yt2,et2,_,rfl,v1, "tuple", tt1,_,rfl,yt1,et1,rfl,_,rfl,nt1 q0⟩
   | str _=>exact ne2 ⟨_,rfl,v2, "tuple", tt2,_,rfl,yt2,et2,_,rfl,v1, "tuple", tt1,_,rfl,yt1,et1,rfl,_,rfl,nt1 q0⟩
theorem Zo7 {k:Nat}(Va:Has K mg "_law_same" Yt):Fn P w K mg base "_law_same" ["_law_found_here", "_law_due"] k (fun _ _ _ _=>False):=by
 obtain ⟨f,fd,F,hm⟩:=Va
 exact ⟨f,fd,hm,F.kp,F.binds fun _ _ _ _ _ _ us hl=>match us,hl with | [_,_],_=>rfl,⟨fun _ _ _ _ h=>h.elim,fun _ _ _ _ _ _ _ _ _ _ _ _ _ h=>h.elim⟩⟩
theorem Zlv (Va:Has K mg "_law_same" Yt) (T:Txt mg) (Zbk:Fn P w K mg base "_law_whole" ["_law_found_here"] 1 Zex):∀ n:Nat,Fn P w K mg base "_law_same" ["_law_found_here", "_law_due"] (n+2) (Zcu n)
 | 0=>Zim (k:=0) Va T Zbk ((Zo7 Va).imp fun _ _ _ _ h=>absurd h.1 (Nat.lt_irrefl _))
 | n+1=>Zim (k:=n+1) Va T Zbk ((Zlv Va T Zbk n).imp fun _ _ _ _ h=>h.2)
end
section
variable {P:Program}{w:World}{K:PySem.W.Frag}{mg:Str->Option Value}{base:Heap}
def Zlw (K:PySem.W.Frag):Sp:=fun vs H Q _=>∃ (a:Addr) (ns:List Int),vs = [.ref a]/\SqL K H a (ns.map V.int)/\∀ (s la:Addr) (H':Hp),H s=none->H la=none->SrcAt H' s la->Same H H'->Q (.ref s) H'
abbrev Zbl:Stmt:=top 18
theorem Zwd:FnScope ["_law_script"] ["_law_script"] (Za Zbl):=⟨rfl,rfl,rfl,by decide +kernel,rfl,by decide +kernel,by decide +kernel⟩
theorem Zwe:Nm (Za Zbl) "_law_script" .local:=by decide +kernel
theorem Zwf:Nm (Za Zbl) "list" .globalImplicit:=by decide +kernel
theorem Zwg (Zfo:Has K mg "_law_src" Zbl) (T:Txt mg):Fn P w K mg base "_law_src" ["_law_script"] 1 (Zlw K):=by
 refine Zfo.fnQ Zwd (fun _ _ _ _ _ _ us hl=>match us,hl with | [_],_=>rfl) (fun vs H Q E h=>?_) (fun f cdv A outer s H vs Q E hr h=>?_)
 ·obtain ⟨a,ns,rfl,_⟩:=h
  rfl
 ·obtain ⟨a,ns,rfl,hS,k⟩:=h
  refine ⟨_,(Ze (Zi (Ys (Zb (Vz Zn8 Zwf T.list Zcq (Zb (Z7 Y7 (qvN 0 Zwe) Yb (Z3 Zd)) Zc)) (Zb Zd (Zb Zd (Zb Zd (Zb Zd Zc)))))))),?_⟩
  refine ⟨_,rfl,_,rfl,a,_,rfl,hS,fun l hl=>?_⟩
  have hc:∃ ms:List Int,Z1 (ns.map V.int) none (some 63)=ms.map V.int:=by
   unfold Z1
   rw [← List.map_drop,← List.map_take]
   exact ⟨_,rfl⟩
  obtain ⟨ms,ec⟩:=hc
  refine ⟨l,_,rfl,.inl (SqL.of Zg),fun l2 hl2=>⟨by show 5<=sizeLine; decide,fun s hs=>?_⟩⟩
  have n1:l2≠l:=fun z=>by rw [z,Zg] at hl2; cases hl2
  have s1:Same H (upd H l (.lst (Z1 (ns.map V.int) none (some 63)))):=Same.new hl
  have s2:=s1.trans (Same.new (o:=.lst (Z1 (ns.map V.int) none (some 63))) hl2)
  have n2:l2≠s:=fun z=>by rw [← z,Zg] at hs; cases hs
  refine k s l2 _ (s2.free hs) (s1.free hl2) ⟨ms,0,0,1,0,Zg,by rw [Zt n2,Zg,ec],by decide,n2⟩ (s2.trans (Same.new hs))
def Vk:Sp:=fun vs H Q _=>∃ (s la:Addr) (b:Int),vs = [.ref s,.int b]/\SrcAt H s la/\0 < b/\b < 1073741824/\∀ (d:Int) (H':Hp),0<=d->d < b->SrcAt H' s la->SameX s H H'->Q (.int d) H'
abbrev V3:Stmt:=top 19
theorem Zc5:FnScope ["_law_src_here", "_law_base", "_law_cell", "_law_digit"] ["_law_src_here", "_law_base"] (Za V3):=⟨rfl,rfl,rfl,by decide +kernel,rfl,by decide +kernel,by decide +kernel⟩
theorem Zgt:Nm (Za V3) "_law_base" .local:=by decide +kernel
theorem Zbs:Nm (Za V3) "_law_cell" .local:=by decide +kernel
theorem Znc:Nm (Za V3) "_law_digit" .local:=by decide +kernel
theorem Yx:Nm (Za V3) "_law_src_here" .local:=by decide +kernel
theorem Zwh:Nm (Za V3) "len" .globalImplicit:=by decide +kernel
theorem Zwi (Zfp:Has K mg "_law_next" V3) (T:Txt mg):Fn P w K mg base "_law_next" ["_law_src_here", "_law_base"] 1 Vk:=by
 refine Zfp.fnQ Zc5 (fun _ _ _ _ _ _ us hl=>match us,hl with | [_,_],_=>rfl) (fun vs H Q E h=>?_) (fun f cdv A outer s H vs Q E hr h=>?_)
 ·obtain ⟨s,la,b,rfl,_⟩:=h
  rfl
 ·obtain ⟨s,la,b,rfl,⟨ns,i,big,st,cnt,hs,hla,hi,hne⟩,hb0,hb1,k⟩:=h
  refine ⟨_,(Zf (Zbc (Zj Yp (Zy Yc (qvN 0 Yx) Zd (fun _ _=>rfl)) Zd) (Zbd (qvN 0 Yx) Zd Za6))
 (Zf (Zp (Zl Zbf (Zy Yc (qvN 0 Yx) Zd (fun _ _=>rfl)) Zd (Zn _)) (Zf (Zm (i:=2) Zc5.nd Zbs Zd)
 (Zf (Zp (Zl Zcr (Zy Yc (qvN 0 Yx) Zd (fun _ _=>rfl)) (Zw Wt Zwh T.len Yh (Zb (Zy Yc (qvN 0 Yx) Zd (fun _ _=>rfl)) Zc)) (Zn _)) (Zf (Zm (i:=2) Zc5.nd Zbs (Zy Yc (Zy Yc (qvN 0 Yx) Zd (fun _ _=>rfl)) (Zy Yc (qvN 0 Yx) Zd (fun _ _=>rfl)) (fun _ _=>rfl)))
 (Ze (Zbc (Zj Yp (Zy Yc (qvN 0 Yx) Zd (fun _ _=>rfl)) Zd) (Zbd (qvN 0 Yx) Zd Za6)))) Zs)
 (Zf (Zbc (Zj Zaa (Zj Yp (Zj Yp (Zj Zjg (Zy Yc (qvN 0 Yx) Zd (fun _ _=>rfl)) Zd) (Zj Zaa (qvN 2 Zbs) Zd)) (Zy Yc (qvN 0 Yx) Zd (fun _ _=>rfl))) Zd) (Zbd (qvN 0 Yx) Zd Za6))
 (Ze (Zp (Zl Zup (qvN 2 Zbs) (Zj Zsp Zd Zd) (Zn _)) (Ze (Zbc (qvN 2 Zbs) (Zbd (qvN 0 Yx) Zd Za6))) Zs))))) Zs)
 (Zf (Zp (Zl Zcs (Zy Yc (qvN 0 Yx) Zd (fun _ _=>rfl)) Zd (Zn _)) (Zf (Zm (i:=3) Zc5.nd Znc (Zj Zaa (Zy Yc (qvN 0 Yx) Zd (fun _ _=>rfl)) (qvN 1 Zgt)))
 (Zf (Zbc (Zj Zec (Zy Yc (qvN 0 Yx) Zd (fun _ _=>rfl)) (qvN 1 Zgt)) (Zbd (qvN 0 Yx) Zd Za6))
 (Ze (Zi (qvN 3 Znc))))) Zs)
 (Ze (Zi (Zj Zaa (Zj Zec (Zj Zaa (Zj Zjg (Zy Yc (qvN 0 Yx) Zd (fun _ _=>rfl)) Zd) Zd) Zd) (qvN 1 Zgt))))))),?_⟩
  have fin:∀ (H1:Hp) (i' big st cnt d:Int),0<=d->d < b->SameX s H H1->H1 s=some (.lst [.ref la,.int i',.int big,.int st,.int cnt])->0<=i'->Q (.int d) H1:=fun H1 i' big st cnt d h0 h1 sx hs1 hi1 =>
   k d H1 h0 h1 ⟨ns,i',big,st,cnt,hs1,sx _ _ hne hla,hi1,hne⟩ sx
  walk_at "rd"
  all_goals refine fin _ _ _ _ _ _ (Int.emod_nonneg _ (by lia)) (Int.emod_lt_of_pos _ hb0) ?_ Zg (by lia)
  all_goals repeat (first | exact SameX.refl | refine SameX.trans ?_ SameX.upd)
end
section
variable {P:Program}{w:World}{K:PySem.W.Frag}{mg:Str->Option Value}{base:Heap}
def Zff:Sp:=fun vs H Q _=>∃ (s la:Addr) (n:Int),vs = [.ref s,.int n]/\SrcAt H s la/\0<=n/\n<=100/\∀ (x:Str) (H':Hp),(x.length:Int)=n->Low x->SrcAt H' s la->SameX s H H'->Q (.str x) H'
theorem Zoi (cl:List Nat):(List.map cs (cl.map fun c=>(⟨#[c]⟩:Str))).flatten=cl:=by
 induction cl with
 | nil=>rfl
 | cons c r ih=>rw [List.map_cons,List.map_cons,List.flatten_cons,ih]; rfl
abbrev Uv:Stmt:=top 23
theorem Zlx:FnScope ["_law_src_here", "_law_many", "_law_letters"] ["_law_src_here", "_law_many"] (Za Uv):=⟨rfl,rfl,rfl,by decide +kernel,rfl,by decide +kernel,by decide +kernel⟩
theorem Znd:Nm (Za Uv) "_law_letters" .cell:=by decide +kernel
theorem Zwj:Nm (Za Uv) "_law_many" .local:=by decide +kernel
theorem Zwk:Nm (Za Uv) "_law_src_here" .cell:=by decide +kernel
theorem Zwl:Nm (Za Uv) "range" .globalImplicit:=by decide +kernel
theorem Zwm (Zfq:Has K mg "_law_word" Uv) (T:Txt mg) (Z4:Fn P w K mg base "_law_next" ["_law_src_here", "_law_base"] 1 Vk):Fn P w K mg base "_law_word" ["_law_src_here", "_law_many"] 2 Zff:=by
 refine Zfq.fnQ Zlx (fun _ _ _ _ _ _ us hl=>match us,hl with | [_,_],_=>rfl) (fun vs H Q E h=>?_) (fun f cdv A outer s H vs Q E hr h=>?_)
 ·obtain ⟨s,la,n,rfl,_⟩:=h
  rfl
 ·obtain ⟨s,la,n,rfl,hsrc,hn0,hn1,k⟩:=h
  refine ⟨_,(Zf (Zqw (i:=2) Zlx.nd Znd Zh)
 (Ze (Zi (Wn F.plainAttrs_str F.slot_str_join F.type_str_join Zb7 Zh (Zb (Zb8 (locs:=["_law_k"]) (fr:=[("_law_src_here", 0),("_law_letters", 2)]) ⟨rfl,by decide +kernel,by decide +kernel,by decide +kernel,by decide +kernel,by decide +kernel⟩ (.consN Zwk (.consN Znd .nil)) rfl (U2 Zwl.1 T.range (Zb (qvN 1 Zwj) Zc)) ⟨fun _ _ _ _ _ _=>by
  have cnd:(inN ["_law_k"] [("_law_src_here", 0),("_law_letters", 2)]).Nodup:=by decide +kernel
  exact ⟨(Wv 0 cnd),Vj,(Zy Uj (Zbp 2) (Zo Z4 (hr.mono (by lia)) nmC (Zb (Zbp 1) (Zb Zd Zc))) (fun _ _=>rfl))⟩⟩) Zc))))),?_⟩
  refine ⟨rfl,_,rfl,n,rfl,by lia,by lia,?_⟩
  refine Zh0 (n:=n.toNat) (fun i ys H2=>SrcAt H2 s la/\SameX s H H2/\∃ cl:List Nat,cl.length=i/\ys=cl.map (fun c=>V.str ⟨#[c]⟩)/\∀ c∈cl,97<=c/\c<=122) ⟨hsrc,SameX.refl,[],rfl,rfl,(fun _ z=>nomatch z)⟩ (by lia) ?_ ?_ ?_
  ·rintro i ys H2 ⟨_,_,cl,h1,rfl,_⟩
   rw [List.length_map]; lia
  ·rintro i ys H2 hi ⟨hs2,sx2,cl,h1,rfl,hc⟩ ls hls
   obtain ⟨a,rfl⟩:=Ur hls
   refine ⟨⟨[_],rfl,rfl⟩,?_⟩
   walk_at "rd"
   refine ⟨s,la,26,rfl,hs2,by decide,by decide,fun d H3 d0 d1 hs3 sx3=>?_⟩
   refine ⟨letters,d,_,rfl,rfl,by decide,Zdq d0 d1,hs3,sx2.trans sx3,cl ++ [97+d.toNat],by rw [List.length_append,h1]; rfl,by rw [List.map_append]; rfl,fun c hc'=>?_⟩
   rcases List.mem_append.mp hc' with z | z
   ·exact hc c z
   ·have:c=97+d.toNat:=by simpa using z
    lia
  ·rintro ys H2 ⟨hs2,sx2,cl,h1,rfl,hc⟩ l hl
   have e:(cl.map fun c=>V.str ⟨#[c]⟩)=(cl.map fun c=>(⟨#[c]⟩:Str)).map V.str:=by rw [List.map_map]; rfl
   have sumlen:∀ l:List Nat,((l.map fun c=>(⟨#[c]⟩:Str)).map (·.length)).sum=l.length:=by
    intro l
    induction l with
    | nil=>rfl
    | cons c r ih=>rw [List.map_cons,List.map_cons,List.sum_cons,ih,List.length_cons]; show 1+r.length=_; lia
   refine ⟨_,l,cl.map fun c=>(⟨#[c]⟩:Str),rfl,rfl,SqL.of (by rw [Zg,e]),?_,?_⟩
   ·rw [sumlen,List.length_map]
    show cl.length+cl.length * 0<=16777216
    lia
   ·have ej:cs (Txt.join "" (cl.map fun c=>(⟨#[c]⟩:Str)))=cl:=by rw [Zqu,Zoi]
    refine k _ _ ?_ (fun c hc'=>hc c (by rw [ej] at hc'; exact hc')) (hs2.keep (Same.new hl)) (sx2.trans (SameX.new hl))
    rw [← Zu,ej,h1]
    lia
end
theorem ph {α:Type} [DecidableEq α]:∀ (L M:List α),L.Nodup->(∀ a∈L,a∈M)->L.length<=M.length
 | [],_,_,_=>Nat.zero_le _
 | a::L,M,nd,h=>by
  obtain ⟨n1,n2⟩:=List.nodup_cons.mp nd
  have ha:=h a List.mem_cons_self
  have:=ph L (M.erase a) n2 fun b hb=>(List.mem_erase_of_ne (fun (e:b=a)=>n1 (by rw [← e]; exact hb))).mpr (h b (List.mem_cons_of_mem _ hb))
  rw [List.length_erase_of_mem ha] at this
  have hp : 0 < M.length:=List.length_pos_of_mem ha
  rw [List.length_cons]
  lia
def Y8 (stem:Str) (j:Nat):Str:=stem++⟨#[97+j % 26]⟩++⟨#[97+j / 26]⟩
theorem Zcl (stem:Str) (j:Nat):cs (Y8 stem j)=cs stem ++ [97+j % 26,97+j / 26]:=by
 unfold Y8
 rw [Y6,Y6]
 simp [cs]
theorem Zrk {stem:Str}{i j:Nat}(h:Y8 stem i=Y8 stem j):i=j:=by
 have e:cs (Y8 stem i)=cs (Y8 stem j):=by rw [h]
 rw [Zcl,Zcl] at e
 have e2:=List.append_cancel_left e
 injection e2 with e3 e4
 injection e4 with e5 _
 lia
theorem Zi0 (stem:Str) (j:Nat):(Y8 stem j).length=stem.length+2:=by
 rw [← Zu,Zcl,List.length_append,Zu]
 rfl
theorem Zrl {stem:Str}{j:Nat}(h:Low stem) (hj:j < 676):Low (Y8 stem j):=by
 intro c hc
 rw [Zcl] at hc
 rcases List.mem_append.mp hc with z | z
 ·exact h c z
 ·simp at z
  lia
theorem Zoa {names:List Str}{stem:Str}(h:∀ j,j < names.length->Y8 stem j∈names):Y8 stem names.length∉names:=by
 intro hm
 have nd:((List.range (names.length+1)).map (Y8 stem)).Nodup:=by
  rw [List.nodup_iff_pairwise_ne,List.pairwise_map]
  exact List.Pairwise.imp (fun h e=>h (Zrk e)) (List.nodup_iff_pairwise_ne.mp List.nodup_range)
 have:=ph _ names nd fun a ha=>by
  obtain ⟨j,hj,rfl⟩:=List.mem_map.mp ha
  have hj:=List.mem_range.mp hj
  by_cases e:j=names.length
  ·rw [e]; exact hm
  ·exact h j (by lia)
 rw [List.length_map,List.length_range] at this
 lia
theorem Zey (x:Str) (names:List Str):inV (.str x) (names.map V.str)=decide (x∈names):=by
 unfold inV
 rw [List.any_map,Bool.eq_iff_iff,List.any_eq_true,decide_eq_true_iff]
 constructor
 ·rintro ⟨y,hy,e⟩
  have:y=x:=by simpa [eqV] using e
  rw [← this]; exact hy
 ·intro h
  exact ⟨x,h,by simp [eqV]⟩
theorem Zd4 (names:List Str):(names.map V.str).all W2=true:=by
 rw [List.all_map,List.all_eq_true]
 intro x _
 rfl
def Zx (x:Str):Prop:=Low x/\1<=x.length/\x.length<=12
section
variable {P:Program}{w:World}{K:PySem.W.Frag}{mg:Str->Option Value}{base:Heap}
def Zcb (K:PySem.W.Frag):Sp:=fun vs H Q _=>∃ (a:Addr) (names:List Str) (x:Str),vs = [.ref a,.str x]/\SqL K H a (names.map V.str)/\names.length<=600/\Zx x/\∀ y:Str,Zx y->y∉names->Q (.str y) H
abbrev Vb:Stmt:=top 22
theorem Zbt:FnScope ["_law_names_here", "_law_name", "_law_letters", "_law_stem", "_law_tries"] ["_law_names_here", "_law_name"] (Za Vb):=⟨rfl,rfl,rfl,by decide +kernel,rfl,by decide +kernel,by decide +kernel⟩
theorem Zgu:Nm (Za Vb) "_law_letters" .local:=by decide +kernel
theorem Zbu:Nm (Za Vb) "_law_name" .local:=by decide +kernel
theorem Zne:Nm (Za Vb) "_law_names_here" .local:=by decide +kernel
theorem Znf:Nm (Za Vb) "_law_stem" .local:=by decide +kernel
theorem Zgv:Nm (Za Vb) "_law_tries" .local:=by decide +kernel
theorem Zwn:Nm (Za Vb) "len" .globalImplicit:=by decide +kernel
theorem Zwo:Nm (Za Vb) "range" .globalImplicit:=by decide +kernel
theorem Zwp (Zfr:Has K mg "_law_unlike" Vb) (T:Txt mg):Fn P w K mg base "_law_unlike" ["_law_names_here", "_law_name"] 1 (Zcb K):=by
 refine Zfr.fnQ Zbt (fun _ _ _ _ _ _ us hl=>match us,hl with | [_,_],_=>rfl) (fun vs H Q E h=>?_) (fun f cdv A outer s H vs Q E hr h=>?_)
 ·obtain ⟨a,names,x,rfl,_⟩:=h
  rfl
 ·obtain ⟨a,names,x,rfl,hS,hn,⟨hx1,hx2,hx3⟩,k⟩:=h
  refine ⟨_,(Zf (Zm (i:=2) Zbt.nd Zgu Zh)
 (Zf (Zm (i:=3) Zbt.nd Znf (Z7 Ws (qvN 1 Zbu) Yb (Z3 Zd)))
 (Zf (W4 PassesOwn.never rfl (U2 Zwo.1 T.range (Zb (Zj Yp (Zw Wt Zwn T.len Yh (Zb (qvN 0 Zne) Zc)) Zd) Zc)) (Wq (i:=4) Zbt.nd Zgv)
 (Zf (Zp (Zl Zdn (qvN 1 Zbu) (qvN 0 Zne) rfl) (Ze (Zi (qvN 1 Zbu))) Zs)
 (Ze (Zm (i:=1) Zbt.nd Zbu (Zj Wd (Zj Wd (qvN 3 Znf) (Zy Uj (qvN 2 Zgu) (Zj Zaa (qvN 4 Zgv) Zd) (fun _ _=>rfl))) (Zy Uj (qvN 2 Zgu) (Zj Zec (qvN 4 Zgv) Zd) (fun _ _=>rfl)))))))
 (Ze (Zi (qvN 1 Zbu)))))),?_⟩
  have hz:(13:Nat)<=sizeLine:=by decide
  refine ⟨_,rfl,10,rfl,x,rfl,by lia,?_⟩
  have hst:cs (Txt.slice x none (some 10))=(cs x).take 10:=Zch x (by decide)
  have hstl:(Txt.slice x none (some 10)).length<=10:=by rw [← Zu,hst,List.length_take]; lia
  have hsto:Low (Txt.slice x none (some 10)):=fun c hc=>hx1 c (by rw [hst] at hc; exact List.mem_of_mem_take hc)
  show Vn _ _ _ [some (.ref a),some (.str x),some (.str letters),some (.str (Txt.slice x none (some 10))),none] H
  generalize Txt.slice x none (some 10)=stem at hstl hsto
  refine ⟨_,rfl,a,_,rfl,.inl hS,_,_,rfl,rfl,_,rfl,by lia,by rw [List.length_map]; lia,?_⟩
  refine Zb5 (names.length+1) (by rw [List.length_map]; lia) (fun i σ H'=>H'=H/\∃ (cur:Str) (v:Option V),σ = [some (.ref a),some (.str cur),some (.str letters),some (.str stem),v]/\Zx cur/\(i=0\/cur=Y8 stem (i - 1))/\∀ j,j+1 < i->Y8 stem j∈names)
   ⟨rfl,x,none,rfl,⟨hx1,hx2,hx3⟩,.inl rfl,fun j hj=>by lia⟩ ?_ ?_
  ·rintro i σ H' hi ⟨rfl,cur,v,rfl,hc,hci,hal⟩
   refine ⟨_,rfl,_,rfl,a,_,rfl,.inl hS,rfl,Zd4 names,_,rfl,?_⟩
   rw [Zey]
   refine Yr (fun hnin=>?_) (fun hin=>?_)
   ·exact ⟨_,rfl,k cur hc hnin⟩
   ·have hi':i<=600:=by lia
    refine ⟨_,rfl,_,rfl,_,rfl,_,_,rfl,rfl,by show (0:Int) < 26; decide,letters,_,_,rfl,rfl,by decide,Zdq (Int.emod_nonneg _ (by decide)) (Int.emod_lt_of_pos _ (by decide)),stem,_,rfl,rfl,?_,?_⟩
    ·show stem.length+1<=sizeLine
     lia
    refine ⟨_,rfl,_,rfl,_,_,rfl,rfl,⟨by decide,by decide⟩,letters,_,_,rfl,rfl,by decide,Zdq (Int.ediv_nonneg (by lia) (by decide)) (by lia),_,_,rfl,rfl,?_,?_⟩
    ·show (stem++_).length+1<=sizeLine
     rw [PySem.Str.length_append]
     show stem.length+1+1<=sizeLine
     lia
    have e1:((0:Int)+(i:Nat)) % 26=((i % 26:Nat):Int):=by lia
    have e2:((0:Int)+(i:Nat)) / 26=((i / 26:Nat):Int):=by lia
    refine ⟨rfl,Y8 stem i,some (.int (0+(i:Nat))),?_,⟨Zrl hsto (by lia),by rw [Zi0]; lia,by rw [Zi0]; lia⟩,.inr rfl,fun j hj=>?_⟩
    ·show [some (V.ref a),some (V.str _),some (V.str letters),some (V.str stem),some (V.int _)]=_
     unfold Y8
     rw [e1,e2]
     rfl
    ·by_cases e:j+1=i
     ·rcases hci with z | z
      ·lia
      ·have:j=i - 1:=by lia
       rw [this,← z]; exact hin
     ·exact hal j (by lia)
  ·rintro σ H' ⟨rfl,cur,v,rfl,hc,hci,hal⟩
   refine ⟨_,rfl,k cur hc ?_⟩
   rcases hci with z | z
   ·lia
   ·rw [z]
    exact Zoa fun j hj=>hal j (by lia)
def Zjt:Sp:=fun vs H Q _=>∃ (s la:Addr) (n:Int),vs = [.ref s,.int n]/\SrcAt H s la/\0<=n/\n<=100 /\
 ∀ (l:Addr) (names:List Str) (H':Hp),(names.length:Int)=n->names.Nodup->(∀ x∈names,Zx x)->H l=none->H' l=some (.lst (names.map V.str))->SrcAt H' s la->SameX s H H'->Q (.ref l) H'
abbrev Y2:Stmt:=top 24
theorem Vr:FnScope ["_law_src_here", "_law_many", "_law_style", "_law_stem", "_law_at", "_law_names_here", "_law_k", "_law_name"] ["_law_src_here", "_law_many"] (Za Y2):=⟨rfl,rfl,rfl,by decide +kernel,rfl,by decide +kernel,by decide +kernel⟩
theorem Zgw:Nm (Za Y2) "_law_at" .local:=by decide +kernel
theorem Zwq:Nm (Za Y2) "_law_k" .local:=by decide +kernel
theorem Zwr:Nm (Za Y2) "_law_many" .local:=by decide +kernel
theorem Zc9:Nm (Za Y2) "_law_name" .local:=by decide +kernel
theorem Zda:Nm (Za Y2) "_law_names_here" .local:=by decide +kernel
theorem Zbv:Nm (Za Y2) "_law_next" .globalImplicit:=by decide +kernel
theorem Ua:Nm (Za Y2) "_law_src_here" .local:=by decide +kernel
theorem Zar:Nm (Za Y2) "_law_stem" .local:=by decide +kernel
theorem Zgx:Nm (Za Y2) "_law_style" .local:=by decide +kernel
theorem Zws:Nm (Za Y2) "_law_unlike" .globalImplicit:=by decide +kernel
theorem Zgy:Nm (Za Y2) "_law_word" .globalImplicit:=by decide +kernel
theorem Zng:Nm (Za Y2) "len" .globalImplicit:=by decide +kernel
theorem Zwt:Nm (Za Y2) "range" .globalImplicit:=by decide +kernel
theorem Zwu (Zfs:Has K mg "_law_names" Y2) (T:Txt mg) (Z4:Fn P w K mg base "_law_next" ["_law_src_here", "_law_base"] 1 Vk) (Zft:Fn P w K mg base "_law_word" ["_law_src_here", "_law_many"] 2 Zff)
  (Zwv:Fn P w K mg base "_law_unlike" ["_law_names_here", "_law_name"] 1 (Zcb K)):Fn P w K mg base "_law_names" ["_law_src_here", "_law_many"] 3 Zjt:=by
 refine Zfs.fnQ Vr (fun _ _ _ _ _ _ us hl=>match us,hl with | [_,_],_=>rfl) (fun vs H Q E h=>?_) (fun f cdv A outer s H vs Q E hr h=>?_)
 ·obtain ⟨s,la,n,rfl,_⟩:=h
  rfl
 ·obtain ⟨s,la,n,rfl,hsrc,hn0,hn1,k⟩:=h
  refine ⟨_,(Zf (Zm (i:=2) Vr.nd Zgx (Zo Z4 (hr.mono (by lia)) Zbv (Zb (qvN 0 Ua) (Zb Zd Zc))))
 (Zf (Zm (i:=3) Vr.nd Zar (Zo Zft (hr.mono (by lia)) Zgy (Zb (qvN 0 Ua) (Zb (Zj Yp Zd (Zo Z4 (hr.mono (by lia)) Zbv (Zb (qvN 0 Ua) (Zb Zd Zc)))) Zc))))
 (Zf (Zm (i:=4) Vr.nd Zgw (Zo Z4 (hr.mono (by lia)) Zbv (Zb (qvN 0 Ua) (Zb (Zw Wu Zng T.len Yh (Zb (qvN 3 Zar) Zc)) Zc))))
 (Zf (Zm (i:=5) Vr.nd Zda (Ys Zc))
 (Zf (W4 PassesOwn.never rfl (U2 Zwt.1 T.range (Zb (qvN 1 Zwr) Zc)) (Wq (i:=6) Vr.nd Zwq)
 (Zf (Zm (i:=7) Vr.nd Zc9 (Zj Wd (Zj Wd (Z7 Ws (qvN 3 Zar) Yb (Z3 (qvN 4 Zgw))) (Zo Zft (hr.mono (by lia)) Zgy (Zb (qvN 0 Ua) (Zb Zd Zc)))) (Z7 Ws (qvN 3 Zar) (Z3 (Zj Yp (qvN 4 Zgw) Zd)) Yb)))
 (Zf (Zp (Zl Yi (qvN 2 Zgx) Zd (Zn _)) (Ze (Zm (i:=7) Vr.nd Zc9 (Z7 Ws (qvN 3 Zar) Yb (Z3 (Zj Yp Zd (Zo Z4 (hr.mono (by lia)) Zbv (Zb (qvN 0 Ua) (Zb (Zw Wu Zng T.len Yh (Zb (qvN 3 Zar) Zc)) Zc)))))))) Zs)
 (Zf (Zp (Zl Yi (qvN 2 Zgx) Zd (Zn _)) (Ze (Zm (i:=7) Vr.nd Zc9 (Zo Zft (hr.mono (by lia)) Zgy (Zb (qvN 0 Ua) (Zb (Zj Yp Zd (Zo Z4 (hr.mono (by lia)) Zbv (Zb (qvN 0 Ua) (Zb Zd Zc)))) Zc))))) Zs)
 (Ze (Zes (Wn F.plainAttrs_list F.slot_list_append F.type_list_append Zdr (qvN 5 Zda) (Zb (Zo Zwv (hr.mono (by lia)) Zws (Zb (qvN 5 Zda) (Zb (qvN 7 Zc9) Zc))) Zc))))))))
 (Ze (Zi (qvN 5 Zda)))))))),?_⟩
  have hz:(200:Nat)<=sizeLine:=by decide
  refine ⟨_,rfl,s,la,3,rfl,hsrc,by decide,by decide,fun style H1 st0 st1 hs1 sx1=>?_⟩
  refine ⟨_,rfl,_,rfl,s,la,11,rfl,hs1,by decide,by decide,fun d1 H2 d10 d11 hs2 sx2=>?_⟩
  refine ⟨_,_,rfl,rfl,s,la,_,rfl,hs2,by lia,by lia,fun stem H3 hl3 hlow3 hs3 sx3=>?_⟩
  refine ⟨_,rfl,_,rfl,stem,rfl,by lia,s,la,_,rfl,hs3,by lia,by lia,fun at_ H4 at0 at1 hs4 sx4=>?_⟩
  refine ⟨by show 0<=sizeLine; lia,fun l hl4=>?_⟩
  have sx:SameX s H H4:=((sx1.trans sx2).trans sx3).trans sx4
  obtain ⟨nls,nlla⟩:=hs4.ne hl4
  have hlH:H l=none:=by
   cases e:H l with
   | none=>rfl
   | some o=>exact absurd (sx l o nls e) (by rw [hl4]; simp)
  refine ⟨_,rfl,n,rfl,by lia,by lia,?_⟩
  show Uf _ _ _ _ [some (.ref s),some (.int n),some (.int style),some (.str stem),some (.int at_),some (.ref l),none,none] (upd H4 l (.lst []))
  have mkn:∀ x:Str,Low x->1<=x.length->x.length<=12->Zx x:=fun x a b c=>⟨a,b,c⟩
  refine Zb5 n.toNat rfl (fun i σ H'=>∃ (names:List Str) (v1 v2:Option V),σ = [some (.ref s),some (.int n),some (.int style),some (.str stem),some (.int at_),some (.ref l),v1,v2]/\names.length=i/\names.Nodup/\(∀ x∈names,Zx x)/\H' l=some (.lst (names.map V.str))/\SrcAt H' s la/\SameX s H H')
   ⟨[],none,none,rfl,rfl,List.nodup_nil,(fun _ z=>nomatch z),Zg,hs4.keep (Same.new hl4),sx.trans (SameX.new hl4)⟩ ?_ ?_
  ·rintro i σ H5 hi ⟨names,v1,v2,rfl,hlen,hnd,hall,hl5,hs5,sx5⟩
   have e1:cs (Txt.slice stem none (some at_))=(cs stem).take at_.toNat:=Zch stem at0
   have e2:cs (Txt.slice stem (some (at_+1)) none)=(cs stem).drop (at_+1).toNat:=Zjf stem (by lia)
   have l1:(Txt.slice stem none (some at_)).length<=11:=by rw [← Zu,e1,List.length_take,Zu]; lia
   have l2:(Txt.slice stem (some (at_+1)) none).length+(at_+1).toNat=stem.length:=by rw [← Zu,e2,List.length_drop,Zu]; lia
   have l1':(Txt.slice stem none (some at_)).length=at_.toNat:=by rw [← Zu,e1,List.length_take,Zu]; lia
   refine ⟨_,rfl,_,rfl,at_,rfl,stem,rfl,by lia,_,rfl,s,la,1,rfl,hs5,by decide,by decide,fun x1 H6 hx1 hlow1 hs6 sx6=>?_⟩
   have hl6:H6 l=some (.lst (names.map V.str)):=sx6 l _ nls hl5
   refine ⟨_,_,rfl,rfl,by lia,?_⟩
   refine ⟨_,rfl,_,rfl,_,_,rfl,rfl,_,rfl,stem,rfl,by lia,?_⟩
   have l3:(Txt.slice stem none (some at_)++x1).length=at_.toNat+1:=by rw [PySem.Str.length_append,l1']; lia
   refine ⟨_,_,rfl,rfl,by rw [l3]; lia,?_⟩
   have hname:Zx (Txt.slice stem none (some at_)++x1++Txt.slice stem (some (at_+1)) none):=by
    refine mkn _ (fun c hc=>?_) ?_ ?_
    ·rw [Y6,Y6,e1,e2] at hc
     rcases List.mem_append.mp hc with hc | hc
     ·rcases List.mem_append.mp hc with hc | hc
      ·exact hlow3 c (List.mem_of_mem_take hc)
      ·exact hlow1 c hc
     ·exact hlow3 c (List.mem_of_mem_drop hc)
    ·rw [PySem.Str.length_append,l3]; lia
    ·rw [PySem.Str.length_append,l3]; lia
   generalize Txt.slice stem none (some at_)++x1++Txt.slice stem (some (at_+1)) none=nm0 at hname
   show Vn _ _ _ [some (.ref s),some (.int n),some (.int style),some (.str stem),some (.int at_),some (.ref l),some (.int (0+(i:Nat))),some (.str nm0)] H6
   have app:∀ (D:Ends),(∀ σ H',(∃ (names:List Str) (v1 v2:Option V),σ = [some (.ref s),some (.int n),some (.int style),some (.str stem),some (.int at_),some (.ref l),v1,v2]/\names.length=i+1/\names.Nodup/\(∀ x∈names,Zx x)/\H' l=some (.lst (names.map V.str))/\SrcAt H' s la/\SameX s H H')->D.nx σ H') ->
     ∀ (x:Str) (H6:Hp),Zx x->H6 l=some (.lst (names.map V.str))->SrcAt H6 s la->SameX s H H6 ->
     Zcz (tBM K "list" Zcg (Ym 5) (We (tFn (Zcb K) (We (Ym 5) (We (Ym 7) Vo))) Vo)) D
      [some (.ref s),some (.int n),some (.int style),some (.str stem),some (.int at_),some (.ref l),some (.int (0+(i:Nat))),some (.str x)] H6:=by
    intro D hD x H6 hx hl6 hs6 sx6
    refine ⟨_,rfl,.inl ⟨rfl,_,SqL.of hl6⟩,_,rfl,_,rfl,l,names,x,rfl,SqL.of hl6,by lia,hx,fun y hy hny=>?_⟩
    refine ⟨l,_,_,rfl,rfl,hl6,by rw [List.length_map]; lia,hD _ _ ⟨names ++ [y],_,_,rfl,by rw [List.length_append,hlen]; rfl,Zje hnd hny,fun z hz=>?_,?_,?_,?_⟩⟩
    ·rcases List.mem_append.mp hz with q | q
     ·exact hall z q
     ·have:z=y:=by simpa using q
      rw [this]; exact hy
    ·rw [Zg,List.map_append]; rfl
    ·exact hs6.keepX SameX.upd nls nlla
    ·intro b o hb e
     have:b≠l:=fun z=>by rw [z,hlH] at e; cases e
     rw [Zt this]
     exact sx6 b o hb e
   have step2:∀ (D:Ends),(∀ σ H',(∃ (names:List Str) (v1 v2:Option V),σ = [some (.ref s),some (.int n),some (.int style),some (.str stem),some (.int at_),some (.ref l),v1,v2]/\names.length=i+1/\names.Nodup/\(∀ x∈names,Zx x)/\H' l=some (.lst (names.map V.str))/\SrcAt H' s la/\SameX s H H')->D.nx σ H') ->
     ∀ (x:Str) (H6:Hp),Zx x->H6 l=some (.lst (names.map V.str))->SrcAt H6 s la->SameX s H H6 ->
     Vn (Zgj (Zbg (tOp rEq (Ym 2) (tC (.int 2)))) (Wk (tFn Zff (We (Ym 0) (We (tOp (rI0 fun i j=>.int (i+j)) (tC (.int 1)) (tFn Vk (We (Ym 0) (We (tC (.int 12)) Vo)))) Vo))) (Yn 7)) Zk)
      (Zcz (tBM K "list" Zcg (Ym 5) (We (tFn (Zcb K) (We (Ym 5) (We (Ym 7) Vo))) Vo))) D
      [some (.ref s),some (.int n),some (.int style),some (.str stem),some (.int at_),some (.ref l),some (.int (0+(i:Nat))),some (.str x)] H6:=by
    intro D hD x H6 hx hl6 hs6 sx6
    refine ⟨_,rfl,rfl,_,rfl,Zq (fun _=>?_) (fun _=>?_)⟩
    ·refine ⟨_,rfl,_,rfl,s,la,12,rfl,hs6,by decide,by decide,fun d H7 d0 d1 hs7 sx7=>?_⟩
     refine ⟨_,_,rfl,rfl,s,la,_,rfl,hs7,by lia,by lia,fun y H8 hy1 hy2 hs8 sx8=>?_⟩
     exact app D hD y H8 ⟨hy2,by lia,by lia⟩ (sx8 l _ nls (sx7 l _ nls hl6)) hs8 ((sx6.trans sx7).trans sx8)
    ·exact app D hD x H6 hx hl6 hs6 sx6
   refine ⟨_,rfl,rfl,_,rfl,Zq (fun _=>?_) (fun _=>?_)⟩
   ·refine ⟨_,rfl,_,rfl,_,rfl,stem,rfl,by lia,s,la,_,rfl,hs6,by lia,by lia,fun d H7 d0 d1 hs7 sx7=>?_⟩
    refine ⟨_,_,rfl,rfl,_,rfl,stem,rfl,by lia,?_⟩
    have e3:cs (Txt.slice stem none (some (1+d)))=(cs stem).take (1+d).toNat:=Zch stem (by lia)
    refine step2 _ (fun σ H' h=>h) _ H7 ⟨fun c hc=>hlow3 c (by rw [e3] at hc; exact List.mem_of_mem_take hc),?_,?_⟩ (sx7 l _ nls hl6) hs7 ((sx5.trans sx6).trans sx7)
    ·rw [← Zu,e3,List.length_take,Zu]; lia
    ·rw [← Zu,e3,List.length_take,Zu]; lia
   ·exact step2 _ (fun σ H' h=>h) nm0 H6 hname hl6 hs6 (sx5.trans sx6)
  ·rintro σ H5 ⟨names,v1,v2,rfl,hlen,hnd,hall,hl5,hs5,sx5⟩
   exact ⟨_,rfl,k l names H5 (by lia) hnd hall hlH hl5 hs5 sx5⟩
end
section
variable {P:Program}{w:World}{K:PySem.W.Frag}{mg:Str->Option Value}{base:Heap}
def okc (c:Nat):Bool:=decide (97<=c) && decide (c<=122)
def Z5 (x:Str):Bool:=(decide (1<=x.length) && decide (x.length<=12)) && (cs x).all okc
theorem Zdt {x:Str}(h:Zx x):Z5 x=true:=by
 obtain ⟨h1,h2,h3⟩:=h
 unfold Z5
 rw [decide_eq_true h2,decide_eq_true h3,Bool.true_and,Bool.true_and,List.all_eq_true]
 intro c hc
 obtain ⟨a,b⟩:=h1 c hc
 unfold okc
 rw [decide_eq_true a,decide_eq_true b]
 rfl
def Zi1:Sp:=fun vs H Q _=>∃ x:Str,vs = [.str x]/\x.length<=100000/\∀ H',Same H H'->Q (.bl (Z5 x)) H'
theorem Wm {x:Str}{i:Nat}(hi:i < x.length):(cs x)[i]? = some (x.cps.getD i 0):=by
 unfold cs
 have:i < x.cps.size:=hi
 rw [Array.getD_eq_getD_getElem?,Array.getElem?_eq_getElem this,Array.getElem?_toList,Array.getElem?_eq_getElem this]
 rfl
theorem leA (c:Nat):(!decide ((⟨#[c]⟩:Str).cps.toList < ("a" : Str).cps.toList))=decide (97<=c):=by
 have e:("a" : Str).cps.toList = [97]:=by decide +kernel
 rw [e]
 show (!decide (([c]:List Nat) < [97]))=_
 rw [Bool.eq_iff_iff,Bool.not_eq_true',decide_eq_false_iff_not,decide_eq_true_iff,Zb6]
 lia
theorem leZ (c:Nat):(!decide (("z" : Str).cps.toList < (⟨#[c]⟩:Str).cps.toList))=decide (c<=122):=by
 have e:("z" : Str).cps.toList = [122]:=by decide +kernel
 rw [e]
 show (!decide (([122]:List Nat) < [c]))=_
 rw [Bool.eq_iff_iff,Bool.not_eq_true',decide_eq_false_iff_not,decide_eq_true_iff,Zb6]
 lia
theorem Zb4 {α β:Type}{l:List α}{i:Nat}{a : α}(f : α->β) (h:l[i]? = some a):(l.take (i+1)).map f=(l.take i).map f ++ [f a]:=by
 rw [List.take_add_one,h,List.map_append]
 rfl
abbrev Up:Stmt:=top 6
theorem Zww:FnScope ["text"] ["text"] (Za Up):=⟨rfl,rfl,rfl,by decide +kernel,rfl,by decide +kernel,by decide +kernel⟩
theorem Zwx:Nm (Za Up) "LONGEST_NAME" .globalImplicit:=by decide +kernel
theorem Zwy:Nm (Za Up) "all" .globalImplicit:=by decide +kernel
theorem Zwz:Nm (Za Up) "len" .globalImplicit:=by decide +kernel
theorem Znh:Nm (Za Up) "text" .local:=by decide +kernel
theorem Zw0 (Zfu:Has K mg "is_name" Up) (T:Txt mg) (hL:∃ t,mg "LONGEST_NAME" = some (.int 12 t)):Fn P w K mg base "is_name" ["text"] 1 Zi1:=by
 obtain ⟨tL,c_LONGEST_NAME⟩:=hL
 have r_LONGEST_NAME:RelV (.int 12) (.int 12 tL):=⟨tL,rfl⟩
 refine Zfu.fnQ Zww (fun _ _ _ _ _ _ us hl=>match us,hl with | [_],_=>rfl) (fun vs H Q E h=>?_) (fun f cdv A outer s H vs Q E hr h=>?_)
 ·obtain ⟨x,rfl,_⟩:=h
  rfl
 ·obtain ⟨x,rfl,hx,k⟩:=h
  refine ⟨_,(Ze (Zi (Zag (Zeb Zbf Zbf Zd (Zw Wu Zwz T.len Yh (Zb (qvN 0 Znh) Zc)) (Uh Zwx c_LONGEST_NAME r_LONGEST_NAME)) (Ui (Zw (Zig (by rfl)) Zwy T.all Zli (Zb (Zb8 (locs:=["sign"]) (fr:=[]) ⟨rfl,by decide +kernel,by decide +kernel,by decide +kernel,by decide +kernel,by decide +kernel⟩ .nil rfl (Zbe (qvN 0 Znh)) ⟨fun _ _ _ _ _ _=>by
  have cnd:(inN ["sign"] []).Nodup:=by decide +kernel
  exact ⟨(Wv 0 cnd),Vj,(Zeb V0 V0 Zh (Vp 0) Zh)⟩⟩) Zc)))))),?_⟩
  have hz:(100000:Nat)<=sizeLine:=by decide
  refine ⟨_,rfl,x,rfl,by lia,_,_,rfl,rfl,_,rfl,Zq (fun h1=>?_) (fun h1=>?_)⟩
  ·refine ⟨_,_,rfl,rfl,_,rfl,Zq (fun h2=>?_) (fun h2=>?_)⟩
   ·refine ⟨_,rfl,x,rfl,?_⟩
    refine Zit (fun i ys H'=>H'=H/\ys=((cs x).take i).map fun c=>V.bl (okc c)) ⟨rfl,rfl⟩ (by lia) ?_ ?_ ?_
    ·rintro i ys H' ⟨_,rfl⟩
     rw [List.length_map,List.length_take]; lia
    ·rintro i ys H' hi ⟨rfl,rfl⟩ ls hls
     obtain ⟨a,rfl⟩:=Ur hls
     refine ⟨⟨[_],rfl,rfl⟩,Z2 ?_⟩
     refine ⟨_,rfl,_,_,rfl,rfl,_,rfl,?_⟩
     rw [leA]
     refine Zq (fun h3=>?_) (fun h3=>?_)
     ·refine ⟨_,_,rfl,rfl,rfl,?_⟩
      dsimp only
      rw [leZ,Zb4 _ (Wm hi)]
      unfold okc
      rw [decide_eq_true h3,Bool.true_and]
     ·refine ⟨rfl,?_⟩
      rw [Zb4 _ (Wm hi)]
      unfold okc
      rw [decide_eq_false h3,Bool.false_and]
    ·rintro ys H' ⟨rfl,rfl⟩ l hl
     refine ⟨l,(cs x).map okc,rfl,SqL.of (by rw [Zg,← Zu,List.take_length,List.map_map]; rfl),?_⟩
     have e:((cs x).map okc).all id=Z5 x:=by
      unfold Z5
      rw [List.all_map,decide_eq_true (show 1<=x.length by lia),decide_eq_true (show x.length<=12 by lia)]
      rfl
     rw [e]
     exact k _ (Same.new hl)
   ·refine (?_:Q (.bl false) H)
    have e:Z5 x=false:=by
     unfold Z5
     rw [decide_eq_false (show ¬ x.length<=12 by lia),Bool.and_false,Bool.false_and]
    rw [← e]
    exact k H (Same.refl _)
  ·refine ⟨_,rfl,Zr ?_⟩
   have e:Z5 x=false:=by
    unfold Z5
    rw [decide_eq_false (show ¬ 1<=x.length by lia),Bool.false_and,Bool.false_and]
   rw [← e]
   exact k H (Same.refl _)
end
section
theorem Zin {x:Str}(h:Z5 x=true):Zx x:=by
 unfold Z5 at h
 simp only [Bool.and_eq_true,decide_eq_true_iff,List.all_eq_true,okc] at h
 exact ⟨h.2,h.1.1,h.1.2⟩
end
section
def num (i:Int):Str:=Str.ofString (toString i)
theorem Zcv (m:Nat):cs (num (m:Int))=(Nat.toDigits 10 m).map Char.toNat:=PySem.W.KIN.signs_num m
theorem Za7:∀ d:Nat,d < 10->(Nat.digitChar d).toNat=48+d:=by decide
theorem Zs7 (m:Nat):∀ c∈(Nat.toDigits 10 m).map Char.toNat,48<=c/\c<=57:=by
 induction m using Nat.strongRecOn with
 | _ m ih =>
  rw [Nat.toDigits_eq_if (by decide)]
  split
  ·rename_i h
   intro c hc
   have e:=Za7 m h
   rw [List.map_cons,List.map_nil,List.mem_singleton] at hc
   lia
  ·rename_i h
   intro c hc
   rw [List.map_append] at hc
   rcases List.mem_append.mp hc with z | z
   ·exact ih (m / 10) (by lia) c z
   ·have e:=Za7 (m % 10) (Nat.mod_lt _ (by decide))
    rw [List.map_cons,List.map_nil,List.mem_singleton] at z
    lia
theorem Zrm (m:Nat) (hm : 0 < m):∃ c r,(Nat.toDigits 10 m).map Char.toNat=c::r/\49<=c:=by
 induction m using Nat.strongRecOn with
 | _ m ih =>
  rw [Nat.toDigits_eq_if (by decide)]
  split
  ·rename_i h
   exact ⟨_,[],rfl,by have:=Za7 m h; lia⟩
  ·obtain ⟨c,r,e,hc⟩:=ih (m / 10) (by lia) (by lia)
   rw [List.map_append,e]
   exact ⟨c,_,rfl,hc⟩
def Vc (i:Int):Prop:=0<=i/\i<=999999999
structure NumOk (x:Str):Prop where
 l1 : 1<=x.length
 l9:x.length<=9
 all:∀ c∈cs x,48<=c/\c<=57
 zero:x = "0" \/ x.cps.getD 0 0≠48
theorem Zai {i:Int}(h:Vc i):NumOk (num i):=by
 obtain ⟨m,rfl⟩:=Int.eq_ofNat_of_zero_le h.1
 have hl:(num (m:Int)).length=(Nat.toDigits 10 m).length:=by rw [← Zu,Zcv,List.length_map]
 have h1 : 0 < (Nat.toDigits 10 m).length:=Nat.length_toDigits_pos
 have h9:(Nat.toDigits 10 m).length<=9:=(Nat.length_toDigits_le_iff (by decide) (by decide)).mpr (by have:=h.2; lia)
 refine ⟨by lia,by lia,fun c hc=>Zs7 m c (by rw [← Zcv]; exact hc),?_⟩
 by_cases z:m=0
 ·subst z; exact .inl (by decide +kernel)
 ·obtain ⟨c,r,e,hc⟩:=Zrm m (by lia)
  refine .inr fun z=>?_
  have hs:(cs (num (m:Int)))[0]? = some ((num (m:Int)).cps.getD 0 0):=Wm (by lia)
  rw [Zcv,e,z] at hs
  have:c=48:=by simpa using hs
  lia
theorem U5 {i:Int}(h:Vc i):PySem.intText? (num i)=some i:=PySem.W.KIN.num_reads h.1 (by have:=h.2; lia)
theorem Zp4 {i:Int}(h:Vc i):i.natAbs.log2 < 1920:=by
 by_cases z:i.natAbs=0
 ·rw [z]; decide +kernel
 ·rw [Nat.log2_lt z]
  have:=h.2
  have:=h.1
  exact Nat.lt_of_lt_of_le (show i.natAbs < 1000000000 by lia) (by decide +kernel)
end
section
def okd (c:Nat):Bool:=decide (48<=c) && decide (c<=57)
def Z9 (x:Str):Bool:=((decide (1<=x.length) && decide (x.length<=9)) && (cs x).all okd) && (decide (x = "0") || !decide (x.cps.getD 0 0=48))
theorem Zrn {x:Str}(h:Z9 x=true):NumOk x:=by
 unfold Z9 at h
 simp only [Bool.and_eq_true,Bool.or_eq_true,Bool.not_eq_true',decide_eq_true_iff,decide_eq_false_iff_not,List.all_eq_true,okd] at h
 exact ⟨h.1.1.1,h.1.1.2,h.1.2,h.2⟩
theorem Zd5 {x:Str}(h:NumOk x):Z9 x=true:=by
 unfold Z9
 simp only [Bool.and_eq_true,Bool.or_eq_true,Bool.not_eq_true',decide_eq_true_iff,decide_eq_false_iff_not,List.all_eq_true,okd]
 exact ⟨⟨⟨h.l1,h.l9⟩,h.all⟩,h.zero⟩
def Ww (l:List Nat):Nat:=l.foldl (fun a c=>10 * a+(c - 48)) 0
theorem Zro (l:List Nat) (c:Nat):Ww (l ++ [c])=10 * Ww l+(c - 48):=by unfold Ww; rw [List.foldl_append]; rfl
theorem Zju:∀ (n:Nat) (l:List Nat),l.length=n+1->(∀ c∈l,48<=c/\c<=57)->l[0]? ≠ some 48->1<=Ww l/\Ww l < 10 ^ (n+1)/\(Nat.toDigits 10 (Ww l)).map Char.toNat=l
 | 0,l,hl,hc,h0=>by
  match l,hl with
  | [c],_ =>
   have h1:=hc c (by simp)
   have h2:c≠48:=fun z=>h0 (by rw [z]; rfl)
   have e:Ww [c]=c - 48:=by show 10 * 0+(c - 48)=_; lia
   rw [e]
   refine ⟨by lia,by lia,?_⟩
   rw [Nat.toDigits_eq_if (by decide),if_pos (by lia)]
   show [(Nat.digitChar (c - 48)).toNat] = [c]
   rw [Za7 _ (by lia)]
   congr 1
   lia
 | n+1,l,hl,hc,h0=>by
  have hne:l ≠ []:=fun z=>by rw [z] at hl; cases hl
  obtain ⟨i,c,rfl⟩:∃ i c,l=i ++ [c]:=⟨l.dropLast,l.getLast hne,(List.dropLast_concat_getLast hne).symm⟩
  rw [List.length_append,List.length_singleton] at hl
  have hi:i.length=n+1:=by lia
  have hz:i[0]? ≠ some 48:=by rw [List.getElem?_append_left (by lia)] at h0; exact h0
  obtain ⟨a1,a2,a3⟩:=Zju n i hi (fun x hx=>hc x (List.mem_append_left _ hx)) hz
  have h1:=hc c (by simp)
  rw [Zro]
  refine ⟨by lia,by rw [Nat.pow_succ]; lia,?_⟩
  rw [Nat.toDigits_eq_if (by decide),if_neg (by lia),List.map_append]
  have e1:(10 * Ww i+(c - 48)) / 10=Ww i:=by lia
  have e2:(10 * Ww i+(c - 48)) % 10=c - 48:=by lia
  rw [e1,e2,a3]
  show i ++ [(Nat.digitChar (c - 48)).toNat]=i ++ [c]
  rw [Za7 _ (by lia)]
  congr 2
  lia
theorem Zjv {x:Str}(h:NumOk x):∃ i,Vc i/\x=num i:=by
 by_cases z:x = "0"
 ·exact ⟨0,⟨by decide,by decide⟩,by rw [z]; decide +kernel⟩
 ·have h0:x.cps.getD 0 0≠48:=h.zero.resolve_left z
  have l1:=h.l1
  have l9:=h.l9
  obtain ⟨n,hn⟩:∃ n,x.length=n+1:=⟨x.length - 1,by lia⟩
  obtain ⟨a1,a2,a3⟩:=Zju n (cs x) (by rw [Zu,hn]) h.all (by rw [Wm (by lia)]; exact fun e=>h0 (Option.some.inj e))
  refine ⟨(Ww (cs x):Int),⟨by lia,?_⟩,Zad ?_⟩
  ·have : 10 ^ (n+1)<=10 ^ 9:=Nat.pow_le_pow_right (by decide) (by lia)
   lia
  ·rw [Zcv,a3]
theorem Zs8 {i j:Int}(hi:Vc i) (hj:Vc j) (e:num i=num j):i=j:=by
 have h1:=U5 hi
 rw [e,U5 hj] at h1
 exact (Option.some.inj h1).symm
end
section
variable {P:Program}{w:World}{K:PySem.W.Frag}{mg:Str->Option Value}{base:Heap}{c:Str->Addr}
abbrev errs:List Str:=["NoDeed"]
theorem le0 (c:Nat):(!decide ((⟨#[c]⟩:Str).cps.toList < ("0" : Str).cps.toList))=decide (48<=c):=by
 have e:("0" : Str).cps.toList = [48]:=by decide +kernel
 rw [e]
 show (!decide (([c]:List Nat) < [48]))=_
 rw [Bool.eq_iff_iff,Bool.not_eq_true',decide_eq_false_iff_not,decide_eq_true_iff,Zb6]
 lia
theorem le9 (c:Nat):(!decide (("9" : Str).cps.toList < (⟨#[c]⟩:Str).cps.toList))=decide (c<=57):=by
 have e:("9" : Str).cps.toList = [57]:=by decide +kernel
 rw [e]
 show (!decide (([57]:List Nat) < [c]))=_
 rw [Bool.eq_iff_iff,Bool.not_eq_true',decide_eq_false_iff_not,decide_eq_true_iff,Zb6]
 lia
theorem eq0 (x:Str) (hx : 1<=x.length):(V.str ⟨#[x.cps.getD 0 0]⟩=V.str "0")↔x.cps.getD 0 0=48:=by
 constructor
 ·intro e
  have e1:(⟨#[x.cps.getD 0 0]⟩:Str) = "0" := by injection e
  have e2:(⟨#[x.cps.getD 0 0]⟩:Str).cps.toList = [48]:=by rw [e1]; decide +kernel
  simpa using e2
 ·intro e
  rw [e]
  decide +kernel
def Zjw:Sp:=fun vs H Q _=>∃ x:Str,vs = [.str x]/\x.length<=100000/\∀ H',Same H H'->Q (.bl (Z9 x)) H'
abbrev Uw:Stmt:=top 16
theorem Zw1:FnScope ["word"] ["word"] (Za Uw):=⟨rfl,rfl,rfl,by decide +kernel,rfl,by decide +kernel,by decide +kernel⟩
theorem Zw2:Nm (Za Uw) "MOST_FIGURES" .globalImplicit:=by decide +kernel
theorem Zw3:Nm (Za Uw) "all" .globalImplicit:=by decide +kernel
theorem Zw4:Nm (Za Uw) "len" .globalImplicit:=by decide +kernel
theorem Zdb:Nm (Za Uw) "word" .local:=by decide +kernel
theorem Zw5 (Zfv:Has K mg "is_number" Uw) (T:Txt mg) (hL:∃ t,mg "MOST_FIGURES" = some (.int 9 t)):Fn P w K mg base "is_number" ["word"] 1 Zjw:=by
 obtain ⟨tL,c_MOST_FIGURES⟩:=hL
 have r_MOST_FIGURES:RelV (.int 9) (.int 9 tL):=⟨tL,rfl⟩
 refine Zfv.fnQ Zw1 (fun _ _ _ _ _ _ us hl=>match us,hl with | [_],_=>rfl) (fun vs H Q E h=>?_) (fun f cdv A outer s H vs Q E hr h=>?_)
 ·obtain ⟨x,rfl,_⟩:=h
  rfl
 ·obtain ⟨x,rfl,hx,k⟩:=h
  refine ⟨_,(Zf (Zp (QW.pt (Vg (Zae (Zqx Zbf Zbf Zd (Zw Wu Zw4 T.len Yh (Zb (qvN 0 Zdb) Zc)) (Uh Zw2 c_MOST_FIGURES r_MOST_FIGURES))) (Ug (Zae (Vh (Zw (Zig (by rfl)) Zw3 T.all Zli (Zb (Zb8 (locs:=["sign"]) (fr:=[]) ⟨rfl,by decide +kernel,by decide +kernel,by decide +kernel,by decide +kernel,by decide +kernel⟩ .nil rfl (Zbe (qvN 0 Zdb)) ⟨fun _ _ _ _ _ _=>by
  have cnd:(inN ["sign"] []).Nodup:=by decide +kernel
  exact ⟨(Wv 0 cnd),Vj,(Zeb V0 V0 Zh (Vp 0) Zh)⟩⟩) Zc))))))) (Ze (Zi Vi)) Zs)
 (Ze (Zi (Zvr (U9 Yi (qvN 0 Zdb) Zh (Zn _)) (Ui (U9 Vx (Zy Uj (qvN 0 Zdb) Zd (fun _ _=>rfl)) Zh (Zn _))))))),?_⟩
  have hz:(100000:Nat)<=sizeLine:=by decide
  refine ⟨_,rfl,x,rfl,by lia,_,_,rfl,rfl,_,rfl,Zq (fun h1=>?_) (fun h1=>?_)⟩
  ·refine ⟨_,_,rfl,rfl,_,rfl,Yr (fun h9=>?_) (fun h9=>?_)⟩
   ·have e:Z9 x=false:=by unfold Z9; rw [decide_eq_false (show ¬ x.length<=9 by lia),Bool.and_false,Bool.false_and,Bool.false_and]
    have fin:Q (.bl false) H:=by rw [← e]; exact k H (Same.refl _)
    exact fin
   refine ⟨_,rfl,x,rfl,?_⟩
   refine Zit (fun i ys H'=>H'=H/\ys=((cs x).take i).map fun c=>V.bl (okd c)) ⟨rfl,rfl⟩ (by lia) ?_ ?_ ?_
   ·rintro i ys H' ⟨_,rfl⟩
    rw [List.length_map,List.length_take]; lia
   ·rintro i ys H' hi ⟨rfl,rfl⟩ ls hls
    obtain ⟨a,rfl⟩:=Ur hls
    refine ⟨⟨[_],rfl,rfl⟩,Z2 ?_⟩
    refine ⟨_,rfl,_,_,rfl,rfl,_,rfl,?_⟩
    rw [le0]
    refine Zq (fun h3=>?_) (fun h3=>?_)
    ·refine ⟨_,_,rfl,rfl,rfl,?_⟩
     dsimp only
     rw [le9,Zb4 _ (Wm hi)]
     unfold okd
     rw [decide_eq_true h3,Bool.true_and]
    ·refine ⟨rfl,?_⟩
     rw [Zb4 _ (Wm hi)]
     unfold okd
     rw [decide_eq_false h3,Bool.false_and]
   ·rintro ys H' ⟨rfl,rfl⟩ l hl
    refine ⟨l,(cs x).map okd,rfl,SqL.of (by rw [Zg,← Zu,List.take_length,List.map_map]; rfl),?_⟩
    have e:((cs x).map okd).all id=(cs x).all okd:=by rw [List.all_map]; rfl
    rw [e]
    have S:=Same.new (o:=.lst (((cs x).take x.length).map fun c=>V.bl (okd c))) hl
    generalize (upd H' l (.lst (((cs x).take x.length).map fun c=>V.bl (okd c))))=H1 at S ⊢
    refine ⟨_,rfl,Zal (fun ha=>?_) (fun ha=>?_)⟩
    ·have e:Z9 x=false:=by unfold Z9; rw [ha,Bool.and_false,Bool.false_and]
     have fin:Q (.bl false) H1:=by rw [← e]; exact k H1 S
     exact fin
    have h00:(x.cps.toList)[0]? = some (x.cps.getD 0 0):=Wm (by lia)
    have eN:Z9 x=(decide (x = "0") || !decide (x.cps.getD 0 0=48)):=by
     unfold Z9
     rw [ha,decide_eq_true (show 1<=x.length by lia),decide_eq_true (show x.length<=9 by lia)]
     rfl
    by_cases z:x = "0"
    ·have fin:Q (.bl true) H1:=by
      rw [show true=Z9 x by rw [eN,decide_eq_true z]; rfl]; exact k H1 S
     exact ⟨_,rfl,rfl,_,rfl,Zq (fun _=>fin) (fun y=>absurd (by rw [z]) y)⟩
    ·refine ⟨_,rfl,rfl,_,rfl,Zq (fun e=>absurd (by injection e) z) (fun _=>?_)⟩
     have fin:Q (.bl (!decide (V.str ⟨#[x.cps.getD 0 0]⟩=V.str "0"))) H1:=by
      rw [decide_eq_decide.mpr (eq0 x (by lia)),show (!decide (x.cps.getD 0 0=48))=Z9 x by rw [eN,decide_eq_false z]; rfl]
      exact k H1 S
     exact ⟨_,rfl,x,0,x.cps.getD 0 0,rfl,rfl,by lia,Yz (j:=0) h00,rfl,fin⟩
  ·have e:Z9 x=false:=by unfold Z9; rw [decide_eq_false (show ¬ 1<=x.length by lia),Bool.false_and,Bool.false_and,Bool.false_and]
   have fin:Q (.bl false) H:=by rw [← e]; exact k H (Same.refl _)
   exact ⟨false,rfl,Z2 fin⟩
inductive Pt where
 | nm (x:Str)
 | no (i:Int)
def ptV:Pt->V
 | .nm x=>.str x
 | .no i=>.int i
def ptS:Pt->Str
 | .nm x=>x
 | .no i=>num i
def ptK:Pt->Str
 | .nm _ => "name"
 | .no _ => "number"
def Vd:Pt->Prop
 | .nm x=>Zx x
 | .no i=>Vc i
def Ux (x:Str):Prop:=x.length<=10000/\∀ c∈x.cps.toList,c < 16 ^ 8
def Wx (k x:Str) (p:Pt):Prop:=ptS p=x/\ptK p=k/\Vd p
def Zgz (c:Str->Addr):Sp:=fun vs H Q E=>∃ x k:Str,vs = [.str x,.str k]/\Ux x/\(k = "name" \/ k = "number")/\(∀ p H',Wx k x p->Same H H'->Q (ptV p) H')/\((∀ p,¬ Wx k x p)->∀ H',Same H H'->E (.ref (c "NoDeed")) none H')
theorem pt_name {x:Str}:(Z5 x=true->Wx "name" x (.nm x))/\(Z5 x=false->∀ p,¬ Wx "name" x p):=by
 refine ⟨fun h=>⟨rfl,rfl,Zin h⟩,fun h p ⟨e,k,o⟩=>?_⟩
 cases p with
 | nm y=>have e:y=x:=e; subst e; rw [Zdt o] at h; cases h
 | no i=>have k:("number" : Str) = "name" := k; exact absurd k (by decide +kernel)
theorem pt_num {x:Str}:(Z9 x=true->∃ i,Vc i/\x=num i/\Wx "number" x (.no i))/\(Z9 x=false->∀ p,¬ Wx "number" x p):=by
 refine ⟨fun h=>?_,fun h p ⟨e,k,o⟩=>?_⟩
 ·obtain ⟨i,hi,e⟩:=Zjv (Zrn h)
  exact ⟨i,hi,e,e.symm,rfl,hi⟩
 ·cases p with
  | nm y=>have k:("name" : Str) = "number" := k; exact absurd k (by decide +kernel)
  | no i=>have e:num i=x:=e; subst e; rw [Zd5 (Zai o)] at h; cases h
abbrev Vs:Stmt:=top 15
theorem Zw6:FnScope ["word", "kind"] ["word", "kind"] (Za Vs):=⟨rfl,rfl,rfl,by decide +kernel,rfl,by decide +kernel,by decide +kernel⟩
theorem Zw7:Nm (Za Vs) "NoDeed" .globalImplicit:=by decide +kernel
theorem Zw8:Nm (Za Vs) "int" .globalImplicit:=by decide +kernel
theorem Zw9:Nm (Za Vs) "is_name" .globalImplicit:=by decide +kernel
theorem Zxa:Nm (Za Vs) "is_number" .globalImplicit:=by decide +kernel
theorem Zg0:Nm (Za Vs) "kind" .local:=by decide +kernel
theorem Zbw:Nm (Za Vs) "word" .local:=by decide +kernel
theorem Zxb (Zfw:Has K mg "read_value" Vs) (T:Txt mg) (er:Er K mg c errs) (Zxc:Fn P w K mg base "is_name" ["text"] 1 Zi1) (Zxd:Fn P w K mg base "is_number" ["word"] 1 Zjw):FnX P w K mg base "read_value" 2 (Zgz c):=by
 refine Zfw.fnX Zw6 (fun _ _ _ _ _ _ us hl=>match us,hl with | [_,_],_=>rfl) (fun vs H Q E h=>?_) (fun f cdv A outer s H vs Q E hr h=>?_)
 ·obtain ⟨x,k,rfl,_⟩:=h
  rfl
 ·obtain ⟨x,kd,rfl,hx,hk,kq,ke⟩:=h
  refine ⟨_,(Zf (Zp (QW.pt (Zaf (Zl Yi (qvN 1 Zg0) Zh (Zn _)) (U8 (Vh (Zo Zxc (hr.mono (by lia)) Zw9 (Zb (qvN 0 Zbw) Zc)))))) (Ze (Zi (qvN 0 Zbw))) Zs)
 (Zf (Zp (QW.pt (Zaf (Zl Yi (qvN 1 Zg0) Zh (Zn _)) (U8 (Vh (Zo Zxd (hr.mono (by lia)) Zxa (Zb (qvN 0 Zbw) Zc)))))) (Ze (Zi (Vz Zh4 Zw8 T.int Zc3 (Zb (qvN 0 Zbw) Zc)))) Zs)
 (Ze (Zca Ul rfl rfl (er.x "NoDeed" (by decide +kernel)) Zw7 (er.g "NoDeed" (by decide +kernel)) (Zd0 (Zkm (qvN 0 Zbw) (Zct (Zkl (qvN 1 Zg0) Zfd)))))))),?_⟩
  have hz:(100000:Nat)<=sizeLine:=by decide
  rcases hk with rfl | rfl
  ·refine ⟨_,rfl,rfl,_,rfl,Zq (fun _=>?_) (fun z=>absurd rfl z)⟩
   refine ⟨_,rfl,x,rfl,by have:=hx.1; lia,fun H1 s1=>?_⟩
   refine ⟨_,rfl,Zc8 (fun hb=>?_) (fun hb=>?_)⟩
   ·exact ⟨_,rfl,kq (.nm x) H1 (pt_name.1 hb) s1⟩
   ·refine ⟨_,rfl,rfl,_,rfl,Zq (fun z=>absurd z (by decide +kernel)) (fun _=>Zr ?_)⟩
    exact ⟨_,rfl,⟨x,rfl,hx⟩,by decide +kernel,_,rfl,.inl ⟨_,rfl,by decide +kernel⟩,fun _=>ke (pt_name.2 hb) H1 s1⟩
  ·refine ⟨_,rfl,rfl,_,rfl,Zq (fun z=>absurd z (by decide +kernel)) (fun _=>Zr ?_)⟩
   refine ⟨_,rfl,rfl,_,rfl,Zq (fun _=>?_) (fun z=>absurd rfl z)⟩
   refine ⟨_,rfl,x,rfl,by have:=hx.1; lia,fun H1 s1=>?_⟩
   refine ⟨_,rfl,Zc8 (fun hb=>?_) (fun hb=>?_)⟩
   ·obtain ⟨i,hi,rfl,hp⟩:=pt_num.1 hb
    exact ⟨_,rfl,num i,i,rfl,U5 hi,by have:=(Zai hi).l9; lia,kq (.no i) H1 hp s1⟩
   ·exact ⟨_,rfl,⟨x,rfl,hx⟩,by decide +kernel,_,rfl,.inl ⟨_,rfl,by decide +kernel⟩,fun _=>ke (pt_num.2 hb) H1 s1⟩
theorem Zks {xs pre post:List Str}{y:Str}(e:xs=pre++y::post) (h:y∉pre):xs[pre.length]? = some y/\∀ m,m < pre.length->xs[m]? ≠ some y:=by
 subst e
 refine ⟨by rw [List.getElem?_append_right (Nat.le_refl _),Nat.sub_self]; rfl,fun m hm z=>?_⟩
 rw [List.getElem?_append_left hm] at z
 exact h (List.mem_of_getElem? z)
theorem Zcc {x:Str}:∀ {xs:List Str},x∈xs->∃ pre post,xs=pre++x::post/\x∉pre
 | [],h=>nomatch h
 | y::ys,h=>by
  by_cases e:x=y
  ·exact ⟨[],ys,by rw [e]; rfl,fun z=>nomatch z⟩
  ·obtain ⟨pre,post,h1,h2⟩:=Zcc ((List.mem_cons.mp h).resolve_left e)
   exact ⟨y::pre,post,by rw [h1]; rfl,fun z=>(List.mem_cons.mp z).elim e h2⟩
theorem Uy {x:Str}:∀ {p q p' q':List Str},p++x::q=p'++x::q'->x∉p->x∉p'->p=p'/\q=q'
 | [],q,[],q',e,_,_=>⟨rfl,by injection e⟩
 | [],q,b::p',q',e,_,h=>by injection e with e1 _; exact absurd (by rw [e1]; exact List.mem_cons_self) h
 | a::p,q,[],q',e,h,_=>by injection e with e1 _; exact absurd (by rw [e1]; exact List.mem_cons_self) h
 | a::p,q,b::p',q',e,h,h'=>by
  injection e with e1 e2
  obtain ⟨e3,e4⟩:=Uy e2 (fun z=>h (List.mem_cons_of_mem _ z)) (fun z=>h' (List.mem_cons_of_mem _ z))
  exact ⟨by rw [e1,e3],e4⟩
def Zjx (c:Str->Addr):Sp:=fun vs H Q E=>∃ (x:Str) (l:Addr) (xs:List Str),vs = [.str x,.ref l]/\H l=some (.lst (xs.map V.str))/\x.length<=100/\(∀ pre post,xs=pre++x::post->x∉pre->Q (.int pre.length) H)/\(x∉xs->E (.ref (c "NoDeed")) none H)
abbrev Zao:Stmt:=top 12
theorem Zxe:FnScope ["sign", "words"] ["sign", "words"] (Za Zao):=⟨rfl,rfl,rfl,by decide +kernel,rfl,by decide +kernel,by decide +kernel⟩
theorem Zxf:Nm (Za Zao) "NoDeed" .globalImplicit:=by decide +kernel
theorem Zg1:Nm (Za Zao) "sign" .local:=by decide +kernel
theorem Zni:Nm (Za Zao) "words" .local:=by decide +kernel
theorem Zxg (Zfx:Has K mg "place_of" Zao) (er:Er K mg c errs):FnX P w K mg base "place_of" 1 (Zjx c):=by
 refine Zfx.fnX Zxe (fun _ _ _ _ _ _ us hl=>match us,hl with | [_,_],_=>rfl) (fun vs H Q E h=>?_) (fun f cdv A outer s H vs Q E hr h=>?_)
 ·obtain ⟨x,l,xs,rfl,_⟩:=h
  rfl
 ·obtain ⟨x,l,xs,rfl,hl,hx,kq,ke⟩:=h
  refine ⟨_,(Zf (Zp (Zl Zdn (qvN 0 Zg1) (qvN 1 Zni) rfl) (Ze (Zca Ul rfl rfl (er.x "NoDeed" (by decide +kernel)) Zxf (er.g "NoDeed" (by decide +kernel)) (Zd0 (Zct (Zkl (qvN 0 Zg1) (Zct Zfd)))))) Zs)
 (Ze (Zi (Wn F.plainAttrs_list F.slot_list_index F.type_list_index Zh5 (qvN 1 Zni) (Zb (qvN 0 Zg1) Zc))))),?_⟩
  refine ⟨_,rfl,_,rfl,l,_,rfl,.inl (SqL.of hl),rfl,Zd4 _,_,rfl,?_⟩
  rw [if_pos rfl,Zey]
  by_cases hm:x∈xs
  ·rw [decide_eq_true hm]
   obtain ⟨pre,post,e,hp⟩:=Zcc hm
   obtain ⟨i1,i2⟩:=Zks e hp
   refine Zr ?_
   exact ⟨_,rfl,.inl ⟨rfl,_,SqL.of hl⟩,_,rfl,l,xs,x,pre.length,rfl,rfl,SqL.of hl,i1,i2,kq pre post e hp⟩
  ·rw [decide_eq_false hm]
   refine Z2 ?_
   exact ⟨by decide +kernel,_,rfl,.inl ⟨_,rfl,by lia⟩,by decide +kernel,fun _=>ke hm⟩
def Zi2 (c:Str->Addr):Sp:=fun vs H Q E=>∃ (a:Addr) (xs:List Str),vs = [.ref a]/\H a=some (.lst (xs.map V.str))/\(∀ x∈xs,Ux x)/\xs.length<=100000/\((∀ x∈xs,Zx x)->∀ l H',H l=none->H' l=some (.lst (xs.map V.str))->Same H H'->Q (.ref l) H')/\((¬ ∀ x∈xs,Zx x)->∀ H',Same H H'->E (.ref (c "NoDeed")) none H')
theorem Zxh {x:Str}{p:Pt}(h:Wx "name" x p):p = .nm x/\Zx x:=by
 obtain ⟨e,k,o⟩:=h
 cases p with
 | nm y=>have e:y=x:=e; subst e; exact ⟨rfl,o⟩
 | no i=>have k:("number" : Str) = "name" := k; exact absurd k (by decide +kernel)
abbrev Zc6:Stmt:=top 13
theorem Zxi:FnScope ["words"] ["words"] (Za Zc6):=⟨rfl,rfl,rfl,by decide +kernel,rfl,by decide +kernel,by decide +kernel⟩
theorem Zxj:Nm (Za Zc6) "words" .local:=by decide +kernel
theorem Zxk (Zfy:Has K mg "read_names" Zc6) (Zfz:FnX P w K mg base "read_value" 2 (Zgz c)):FnX P w K mg base "read_names" 3 (Zi2 c):=by
 refine Zfy.fnX Zxi (fun _ _ _ _ _ _ us hl=>match us,hl with | [_],_=>rfl) (fun vs H Q E h=>?_) (fun f cdv A outer s H vs Q E hr h=>?_)
 ·obtain ⟨a,xs,rfl,_⟩:=h
  rfl
 ·obtain ⟨a,xs,rfl,ha,hx,hlen,kq,ke⟩:=h
  refine ⟨_,(Ze (Zi (Zik Zm1 Ul Zfz (hr.mono (by lia)) (locs:=["word"]) (fr:=[]) ⟨rfl,by decide +kernel,by decide +kernel,by decide +kernel,by decide +kernel,by decide +kernel⟩ .nil rfl (Zci (qvN 0 Zxj)) ⟨fun _ _ _ _ _ _=>by
  have cnd:(inN ["word"] []).Nodup:=by decide +kernel
  exact ⟨(Wv 0 cnd),Vj,(Zb (Vp 0) (Zb Zh Zc)),nmC,rfl,rfl⟩⟩))),?_⟩
  have hz:(100000:Nat)<=sizeLine:=by decide
  refine ⟨_,rfl,a,rfl,⟨_,SqL.of ha⟩,?_⟩
  refine Zdw (xs:=xs.map V.str) (fun i ys H'=>Same H H'/\ys=(xs.take i).map V.str/\∀ x∈xs.take i,Zx x) ⟨Same.refl _,rfl,(fun _ z=>nomatch z)⟩ (by rw [List.length_map]; lia) (fun i ys H' _ ⟨e,_⟩=>SqL.of (e _ _ ha)) (fun i ys H' ⟨_,e,_⟩=>by rw [e,List.length_map,List.length_take]; lia) ?_ ?_
  ·rintro i v ys H' hv ⟨sm,rfl,hi⟩ ls hls
   obtain ⟨w0,rfl⟩:=Ur hls
   rw [List.getElem?_map] at hv
   obtain ⟨x,hxi,rfl⟩:=Option.map_eq_some_iff.mp hv
   have hxm:=List.mem_of_getElem? hxi
   refine ⟨⟨[_],rfl,rfl⟩,?_⟩
   refine ⟨_,rfl,x, "name", rfl,hx x hxm,.inl rfl,fun p H1 hp s1=>?_,fun hno H1 s1=>?_⟩
   ·obtain ⟨rfl,hn⟩:=Zxh hp
    refine ⟨sm.trans s1,?_,fun y hy=>?_⟩
    ·rw [List.take_add_one,hxi,List.map_append]
     rfl
    ·rw [List.take_add_one,hxi] at hy
     rcases List.mem_append.mp hy with z | z
     ·exact hi y z
     ·have:y=x:=by simpa using z
      rw [this]; exact hn
   ·exact ke (fun hall=>hno (.nm x) ⟨rfl,rfl,hall x hxm⟩) H1 (sm.trans s1)
  ·rintro ys H' ⟨sm,rfl,hi⟩ l hl
   rw [List.length_map,List.take_length] at hi
   rw [List.length_map,List.take_length]
   exact kq hi l _ (sm.free hl) Zg (sm.trans (Same.new hl))
def isPs (ks ws:List Str) (ps:List Pt):Prop:=ps.map ptS=ws/\ps.map ptK=ks/\∀ p∈ps,Vd p
theorem isPs.get {ks ws:List Str}{ps:List Pt}(h:isPs ks ws ps) {i:Nat}{k x:Str}(hk:ks[i]? = some k) (hx:ws[i]? = some x):∃ p,Wx k x p:=by
 obtain ⟨h1,h2,h3⟩:=h
 rw [← h1,List.getElem?_map] at hx
 rw [← h2,List.getElem?_map] at hk
 obtain ⟨p,hp,e⟩:=Option.map_eq_some_iff.mp hx
 rw [hp] at hk
 exact ⟨p,e,Option.some.inj hk,h3 p (List.mem_of_getElem? hp)⟩
def Zjy (K:PySem.W.Frag) (c:Str->Addr):Sp:=fun vs H Q E=>∃ (a t:Addr) (ws ks:List Str),vs = [.ref a,.ref t]/\H a=some (.lst (ws.map V.str))/\(∀ H',Same H H'->SqT K H' t (ks.map V.str))/\(∀ x∈ws,Ux x)/\ws.length<=100000/\(∀ k∈ks,k = "name" \/ k = "number") /\
 (∀ ps l H',isPs ks ws ps->H l=none->H' l=some (.lst (ps.map ptV))->Same H H'->Q (.ref l) H')/\((∀ ps,¬ isPs ks ws ps)->∀ H',Same H H'->E (.ref (c "NoDeed")) none H')
abbrev V4:Stmt:=top 14
theorem Zxl:FnScope ["words", "kinds"] ["words", "kinds"] (Za V4):=⟨rfl,rfl,rfl,by decide +kernel,rfl,by decide +kernel,by decide +kernel⟩
theorem Zxm:Nm (Za V4) "NoDeed" .globalImplicit:=by decide +kernel
theorem Znj:Nm (Za V4) "kinds" .local:=by decide +kernel
theorem Znk:Nm (Za V4) "len" .globalImplicit:=by decide +kernel
theorem Znl:Nm (Za V4) "words" .local:=by decide +kernel
theorem Zxn:Nm (Za V4) "zip" .globalImplicit:=by decide +kernel
theorem Zxo (Zf0:Has K mg "read_values" V4) (T:Txt mg) (er:Er K mg c errs) (Zfz:FnX P w K mg base "read_value" 2 (Zgz c)):FnX P w K mg base "read_values" 3 (Zjy K c):=by
 refine Zf0.fnX Zxl (fun _ _ _ _ _ _ us hl=>match us,hl with | [_,_],_=>rfl) (fun vs H Q E h=>?_) (fun f cdv A outer s H vs Q E hr h=>?_)
 ·obtain ⟨a,t,ws,ks,rfl,_⟩:=h
  rfl
 ·obtain ⟨a,t,ws,ks,rfl,ha,htS,hx,hlen,hk,kq,ke⟩:=h
  refine ⟨_,(Zf (Zp (Zl Vx (Zw Wt Znk T.len Yh (Zb (qvN 0 Znl) Zc)) (Zw Wt Znk T.len Yh (Zb (qvN 1 Znj) Zc)) (Zn _)) (Ze (Zca Ul rfl rfl (er.x "NoDeed" (by decide +kernel)) Zxm (er.g "NoDeed" (by decide +kernel)) Zh)) Zs)
 (Ze (Zi (Zik Zm1 Ul Zfz (hr.mono (by lia)) (locs:=["word", "kind"]) (fr:=[]) ⟨rfl,by decide +kernel,by decide +kernel,by decide +kernel,by decide +kernel,by decide +kernel⟩ .nil rfl (Zs1 Zxn.1 T.zip (Zb (qvN 0 Znl) (Zb (qvN 1 Znj) Zc))) ⟨fun _ _ _ _ _ _=>by
  have cnd:(inN ["word", "kind"] []).Nodup:=by decide +kernel
  exact ⟨(Zji 2 (by rfl) (Zam (Wv 0 cnd) (Zam (Wv 1 cnd) Zet))),Vj,(Zb (Vp 0) (Zb (Vp 1) Zc)),nmC,rfl,rfl⟩⟩)))),?_⟩
  have hz:(100000:Nat)<=sizeLine:=by decide
  have ht:=htS H (Same.refl _)
  refine ⟨_,rfl,a,_,rfl,.inl (SqL.of ha),_,rfl,t,_,rfl,.inr ht,rfl,_,rfl,?_⟩
  rw [List.length_map,List.length_map]
  by_cases hl:ws.length=ks.length
  ·rw [decide_eq_true (show V.int ws.length=V.int ks.length by rw [hl])]
   refine Zr ?_
   refine ⟨_,rfl,_,rfl,a,t,_,_,rfl,SqL.of ha,ht,fun n21=>?_⟩
   refine Zp2 (ws.map V.str) (ks.map V.str) (by rw [List.length_map,List.length_map,hl]) n21 (fun i ys H'=>Same H H'/\∃ ps,isPs (ks.take i) (ws.take i) ps/\ys=ps.map ptV) ⟨Same.refl _,[],⟨rfl,rfl,(fun _ z=>nomatch z)⟩,rfl⟩ (by rw [List.length_map]; lia) (fun i ys H' _ ⟨e,_⟩=>⟨SqL.of (e _ _ ha),htS _ e⟩) (fun i ys H' ⟨_,ps,⟨e,_⟩,e2⟩=>by
    have:=congrArg List.length e
    rw [List.length_map,List.length_take] at this
    rw [e2,List.length_map]; lia) ?_ ?_
   ·rintro i x z p ys H' hx' hz' ⟨sm,ps,hps,rfl⟩ hpn ls hls
    obtain ⟨w0,w1,rfl⟩:=Zmy hls
    rw [List.getElem?_map] at hx' hz'
    obtain ⟨x,hxi,rfl⟩:=Option.map_eq_some_iff.mp hx'
    obtain ⟨k,hki,rfl⟩:=Option.map_eq_some_iff.mp hz'
    have S:=Same.new (o:=.tup [.str x,.str k]) hpn
    have kp:(upd H' p (.tup [.str x,.str k])) p=some (.tup [.str x,.str k]):=Zg
    generalize (upd H' p (.tup [.str x,.str k]))=H1 at S kp ⊢
    refine ⟨p,_,rfl,SqT.of kp,rfl,_,_,rfl,_,_,rfl,rfl,⟨[_,_],rfl,rfl⟩,Z2 ?_⟩
    refine ⟨_,rfl,_,rfl,x,k,rfl,hx x (List.mem_of_getElem? hxi),hk k (List.mem_of_getElem? hki),fun q H2 hq s2=>?_,fun hno H2 s2=>?_⟩
    ·refine ⟨(sm.trans S).trans s2,ps ++ [q],?_,by rw [List.map_append]; rfl⟩
     obtain ⟨h1,h2,h3⟩:=hps
     refine ⟨?_,?_,fun r hr=>?_⟩
     ·rw [List.map_append,h1,List.take_add_one,hxi,← hq.1]; rfl
     ·rw [List.map_append,h2,List.take_add_one,hki,← hq.2.1]; rfl
     ·rcases List.mem_append.mp hr with y | y
      ·exact h3 r y
      ·rw [List.mem_singleton.mp y]; exact hq.2.2
    ·exact ke (fun ps' hp'=>by obtain ⟨q,hq⟩:=hp'.get hki hxi; exact hno q hq) H2 ((sm.trans S).trans s2)
   ·rintro ys H' ⟨sm,ps,hps,rfl⟩ l hl'
    rw [List.length_map,List.take_length,List.take_of_length_le (by lia)] at hps
    exact kq ps l _ hps (sm.free hl') Zg (sm.trans (Same.new hl'))
  ·rw [decide_eq_false (show ¬ V.int ws.length=V.int ks.length from fun e=>hl (by injection e with e; lia))]
   refine Z2 ?_
   refine ke (fun ps ⟨h1,h2,_⟩=>hl ?_) H (Same.refl _)
   rw [← h1,← h2,List.length_map,List.length_map]
end
section
variable {P:Program}{w:World}{K:PySem.W.Frag}{mg:Str->Option Value}{base:Heap}
structure Dd where
 w:Str
 ps:List Pt
 rows:Option (List Str×List Str)
def Zbm:Option (List Str×List Str)->List Str
 | none=>[]
 | some (a,b)=>("+" : Str)::(a++("-" : Str)::b)
def toks (d:Dd):List Str:=d.w::(d.ps.map ptS++Zbm d.rows)
def Rows (f:List Str->Prop):Option (List Str×List Str)->Prop
 | none=>True
 | some (a,b)=>f a/\f b
structure Tbl (K:PySem.W.Frag) (mg:Str->Option Value) (pr:Params) (dP dS:Addr) (kP kS:List (Str×Tok×Addr)):Prop where
 cP:mg "PLAIN" = some (.ref dP)
 cS:mg "SWORN" = some (.ref dS)
 P:Zbq K pr dP kP
 S:Zbq K pr dS kS
structure DdOk (K:PySem.W.Frag) (kP kS:List (Str×Tok×Addr)) (d:Dd):Prop where
 word:(∀ c∈cs d.w,97<=c/\c<=122)/\1<=d.w.length/\d.w.length<=10
 ps:∀ p∈d.ps,Vd p
 len:d.ps.length<=10
 rows:Rows (fun a=>(∀ x∈a,Zx x)/\a.length<=15) d.rows
 form:(d.rows=none/\∃ t,Yq kP d.w=some t/\Yq kS d.w=none/\∀ H,SqT K H t (d.ps.map fun p=>V.str (ptK p)))\/(d.rows≠none/\Yq kP d.w=none/\∃ t,Yq kS d.w=some t/\∀ H,SqT K H t (d.ps.map fun p=>V.str (ptK p)))
theorem Zez:cs ("+" : Str) = [43]:=by decide +kernel
theorem Zcd:cs ("-" : Str) = [45]:=by decide +kernel
theorem Zjz {p:Pt}(h:Vd p):∀ c∈cs (ptS p),48<=c:=by
 intro c hc
 cases p with
 | nm x=>have:=h.1 c hc; lia
 | no i=>have:=(Zai h).all c hc; lia
theorem Zp5 {x:Str}(h:Zx x):∀ c∈cs x,48<=c:=fun c hc=>by have:=h.1 c hc; lia
theorem Za5 {x y:Str}{c:Nat}(hx:∀ c∈cs x,48<=c) (hy:cs y = [c]) (hc:c < 48):x≠y:=fun e=>by
 subst e
 have:=hx c (by rw [hy]; exact List.mem_singleton.mpr rfl)
 lia
def text (d:Dd):Str:=Txt.join " " (toks d)
def Y3:Option (List Str×List Str)->Addr->Addr->List V
 | none,_,_=>[]
 | some _,ra,rb=>[.ref ra,.ref rb]
def Zfg (H:Hp):Option (List Str×List Str)->Addr->Addr->Prop
 | none,_,_=>True
 | some (a,b),ra,rb=>H ra=some (.lst (a.map V.str))/\H rb=some (.lst (b.map V.str))/\ra≠rb
def DdAt (H:Hp) (d:Dd) (p ra rb:Addr):Prop:=H p=some (.tup (.str d.w::(d.ps.map ptV++Y3 d.rows ra rb)))/\Zfg H d.rows ra rb
theorem Za8 (xs:List V) (c:Nat) (h:c<=xs.length):Z1 xs (some (c:Int)) none=xs.drop c:=by
 unfold Z1
 rw [HT.sIx_none,HT.sIx_nat,Nat.min_eq_left h,List.take_of_length_le (by rw [List.length_drop]; exact Nat.le_refl _)]
theorem Zs9 {xs:List V}{i j:Nat}(h1:i<=j) (h2:j<=xs.length):Z1 xs (some (i:Int)) (some (j:Int))=(xs.drop i).take (j - i):=by
 unfold Z1
 rw [HT.sIx_nat,HT.sIx_nat,Nat.min_eq_left (show j<=xs.length from h2),Nat.min_eq_left (show i<=xs.length by lia)]
end
section
variable {P:Program}{w:World}{K:PySem.W.Frag}{mg:Str->Option Value}{base:Heap}{kP kS:List (Str×Tok×Addr)}
theorem Zeh {xs pre mid post:List V}{i j:Int}(e:xs=pre++(mid++post)) (hi:i=pre.length) (hj:j=pre.length+mid.length):Z1 xs (some i) (some j)=mid:=by
 subst e hi
 have ej:j=((pre.length+mid.length:Nat):Int):=by lia
 subst ej
 rw [Zs9 (by lia) (by rw [List.length_append,List.length_append]; lia),List.drop_left,Nat.add_sub_cancel_left,List.take_left]
theorem Zce {xs pre post:List V}{i:Int}(e:xs=pre++post) (hi:i=pre.length):Z1 xs (some i) none=post:=by
 subst e hi
 rw [Za8 _ _ (by rw [List.length_append]; lia),List.drop_left]
abbrev fm10:List (Str×Str):=[("come", "abb"),("rise", "abb"),("die", "aba"),("penance", "a"),("bring", "ab"),("give", "baab"),("pay", "aabb"),("claim", "abbb+"),("wergild", "aabbb+"),("accuse", "babb+")]
def kdC (c:Nat):Str:=if c=97 then "name" else "number"
def Zz (l:List Nat):List Str:=(l.filter fun c=>c != 43).map kdC
def Fms (K:PySem.W.Frag) (kP kS:List (Str×Tok×Addr)):Prop:=∀ q∈fm10,(43∉cs q.2/\∃ t,Yq kP q.1=some t/\Yq kS q.1=none/\∀ H,SqT K H t ((Zz (cs q.2)).map V.str))\/(43∈cs q.2/\Yq kP q.1=none/\∃ t,Yq kS q.1=some t/\∀ H,SqT K H t ((Zz (cs q.2)).map V.str))
theorem Zei:∀ q∈fm10,((∀ c∈cs q.1,97<=c/\c<=122)/\1<=q.1.length/\q.1.length<=10)/\q.2.length<=6/\∀ i,i < q.2.length->(q.2.cps.getD i 0=97\/q.2.cps.getD i 0=98)\/(q.2.cps.getD i 0=43/\i+1=q.2.length):=by
 intro q hq
 simp only [fm10,List.mem_cons,List.not_mem_nil,or_false] at hq
 rcases hq with rfl | rfl | rfl | rfl | rfl | rfl | rfl | rfl | rfl | rfl <;> exact ⟨⟨by decide +kernel,by decide +kernel,by decide +kernel⟩,by decide +kernel,by decide +kernel⟩
def Y4 (w:Str):Option Str:=(fm10.find? fun x=>decide (x.1=w)).map (·.2)
theorem Zcw {w f:Str}(h:Y4 w=some f):(w,f)∈fm10:=by
 unfold Y4 at h
 obtain ⟨q,h1,h2⟩:=Option.map_eq_some_iff.mp h
 have h3:=List.find?_some h1
 have h4:=List.mem_of_find?_eq_some h1
 have e:q.1=w:=by simpa using h3
 obtain ⟨a,b⟩:=q
 have e:a=w:=e
 have h2:b=f:=h2
 subst e h2
 exact h4
theorem Zio (l:List Nat):∀ k∈Zz l,k = "name" \/ k = "number" := by
 intro k hk
 obtain ⟨c,_,rfl⟩:=List.mem_map.mp hk
 unfold kdC
 split
 ·exact .inl rfl
 ·exact .inr rfl
def FmN (kP kS:List (Str×Tok×Addr)):Prop:=∀ w,Y4 w=none->Yq kP w=none/\Yq kS w=none
structure Dk (d:Dd):Prop where
 f:∃ f,Y4 d.w=some f/\d.ps.map ptK=Zz (cs f)/\((43∈cs f/\d.rows≠none)\/(43∉cs f/\d.rows=none))
 ps:∀ p∈d.ps,Vd p
 rows:Rows (fun a=>∀ x∈a,Zx x) d.rows
theorem Zta {w f:Str}(h:Y4 w=some f):w ≠ "+" /\ w ≠ "-" := by
 have hf:=(Zei _ (Zcw h)).1.1
 exact ⟨Za5 (fun c hc=>by have:=hf c hc; lia) Zez (by decide),Za5 (fun c hc=>by have:=hf c hc; lia) Zcd (by decide)⟩
theorem Zcx {ps:List Pt}(h:∀ p∈ps,Vd p):("+" : Str)∉ps.map ptS/\("-" : Str)∉ps.map ptS:=by
 refine ⟨fun z=>?_,fun z=>?_⟩
 ·obtain ⟨p,hp,e⟩:=List.mem_map.mp z
  exact Za5 (Zjz (h p hp)) Zez (by decide) e
 ·obtain ⟨p,hp,e⟩:=List.mem_map.mp z
  exact Za5 (Zjz (h p hp)) Zcd (by decide) e
theorem Zcf {a:List Str}(h:∀ x∈a,Zx x):("-" : Str)∉a:=fun z=>Za5 (Zp5 (h _ z)) Zcd (by decide) rfl
theorem Ze0:∀ {ps qs:List Pt},(∀ p∈ps,Vd p)->(∀ p∈qs,Vd p)->ps.map ptS=qs.map ptS->ps.map ptK=qs.map ptK->ps=qs
 | [],[],_,_,_,_=>rfl
 | [],_::_,_,_,e,_=>by cases e
 | _::_,[],_,_,e,_=>by cases e
 | p::ps,q::qs,h1,h2,e,k=>by
  rw [List.map_cons,List.map_cons] at e k
  injection e with e1 e2
  injection k with k1 k2
  have hr:=Ze0 (fun x hx=>h1 x (List.mem_cons_of_mem _ hx)) (fun x hx=>h2 x (List.mem_cons_of_mem _ hx)) e2 k2
  have hp:=h1 p List.mem_cons_self
  have hq:=h2 q List.mem_cons_self
  have:p=q:=by
   cases p with
   | nm x=>cases q with
    | nm y=>have e1:x=y:=e1; rw [e1]
    | no j=>have k1:("name" : Str) = "number" := k1; exact absurd k1 (by decide +kernel)
   | no i=>cases q with
    | nm y=>have k1:("number" : Str) = "name" := k1; exact absurd k1 (by decide +kernel)
    | no j=>rw [Zs8 hp hq e1]
  rw [this,hr]
theorem Dk.sworn {d:Dd}{w f:Str}{rest:List Str}(h:Dk d) (e:w::rest=toks d) (hf:Y4 w=some f) (h43 : 43∈cs f):∃ a b,d.rows=some (a,b)/\rest=d.ps.map ptS++("+" : Str)::(a++("-" : Str)::b)/\d.ps.map ptK=Zz (cs f)/\(∀ x∈a,Zx x)/\(∀ x∈b,Zx x):=by
 injection e with e1 e2
 obtain ⟨f',h1,h2,h3⟩:=h.f
 rw [← e1,hf] at h1
 cases h1
 rcases h3 with ⟨_,hr⟩ | ⟨z,_⟩
 ·have hrw:=h.rows
  cases er:d.rows with
  | none=>exact absurd er hr
  | some ab =>
   rw [er] at hrw e2
   exact ⟨ab.1,ab.2,rfl,e2,h2,hrw.1,hrw.2⟩
 ·exact absurd h43 z
theorem Dk.plain {d:Dd}{w f:Str}{rest:List Str}(h:Dk d) (e:w::rest=toks d) (hf:Y4 w=some f) (h43 : 43∉cs f):d.rows=none/\isPs (Zz (cs f)) rest d.ps:=by
 injection e with e1 e2
 obtain ⟨f',h1,h2,h3⟩:=h.f
 rw [← e1,hf] at h1
 cases h1
 rcases h3 with ⟨z,_⟩ | ⟨_,hr⟩
 ·exact absurd z h43
 ·rw [hr] at e2
  have e2:rest=d.ps.map ptS ++ []:=e2
  rw [List.append_nil] at e2
  exact ⟨hr,e2.symm,h2,h.ps⟩
theorem Dk.known {d:Dd}{w:Str}{rest:List Str}(h:Dk d) (e:w::rest=toks d):Y4 w≠none:=fun z=>by
 injection e with e1 e2
 obtain ⟨f,h1,_⟩:=h.f
 rw [← e1,z] at h1
 cases h1
theorem Ztb {d1 d2:Dd}(h1:Dk d1) (h2:Dk d2) (e:toks d1=toks d2):d1=d2:=by
 have ew:d1.w=d2.w:=by injection e
 obtain ⟨f,hf,hk,hr⟩:=id h1.f
 have e':d2.w::(d1.ps.map ptS++Zbm d1.rows)=toks d2:=by rw [← ew]; exact e
 have hf2:Y4 d2.w=some f:=by rw [← ew]; exact hf
 obtain ⟨w1,ps1,r1⟩:=d1
 obtain ⟨w2,ps2,r2⟩:=d2
 have ew:w1=w2:=ew
 subst ew
 rcases hr with ⟨h43,hn⟩ | ⟨h43,hn⟩
 ·obtain ⟨a,b,er,e1,k1,na,nb⟩:=h1.sworn (w:=w1) (rest:=ps1.map ptS++Zbm r1) rfl hf h43
  obtain ⟨a',b',er',e2,k2,na',nb'⟩:=h2.sworn e' hf2 h43
  have er:r1=some (a,b):=er
  have er':r2=some (a',b'):=er'
  subst er er'
  have e3:ps1.map ptS++("+" : Str)::(a++("-" : Str)::b)=ps2.map ptS++("+" : Str)::(a'++("-" : Str)::b'):=e2
  obtain ⟨e4,e5⟩:=Uy e3 (Zcx h1.ps).1 (Zcx h2.ps).1
  obtain ⟨e6,e7⟩:=Uy e5 (Zcf na) (Zcf na')
  have ep:ps1=ps2:=Ze0 h1.ps h2.ps e4 (by have k1:ps1.map ptK=_:=k1; have k2:ps2.map ptK=_:=k2; rw [k1,k2])
  rw [ep,e6,e7]
 ·obtain ⟨er,i1⟩:=h1.plain (w:=w1) (rest:=ps1.map ptS++Zbm r1) rfl hf h43
  obtain ⟨er',i2⟩:=h2.plain e' hf2 h43
  have er:r1=none:=er
  have er':r2=none:=er'
  subst er er'
  have k1:ps1.map ptK=_:=i1.2.1
  have k2:ps2.map ptK=_:=i2.2.1
  have s1:ps1.map ptS=_:=i1.1
  have s2:ps2.map ptS=_:=i2.1
  have ep:ps1=ps2:=Ze0 h1.ps h2.ps (by rw [s1,s2]) (by rw [k1,k2])
  rw [ep]
def Yk (n:Nat) (t:Str):Prop:=t.length<=n/\∀ c∈cs t,c < 16 ^ 8
theorem Zf1:∀ (as:List (List Nat)),(∀ a∈as,(∀ c∈a,c∈jn as)/\a.length<=(jn as).length)/\as.length<=(jn as).length+1
 | []=>⟨(fun _ z=>nomatch z),Nat.zero_le _⟩
 | [a]=>⟨fun x hx=>by rw [List.mem_singleton.mp hx]; exact ⟨fun c hc=>hc,Nat.le_refl _⟩,by show 1<=_; lia⟩
 | a::b::r=>by
  obtain ⟨h1,h2⟩:=Zf1 (b::r)
  have ej:jn (a::b::r)=a++32::jn (b::r):=rfl
  refine ⟨fun x hx=>?_,?_⟩
  ·rcases List.mem_cons.mp hx with rfl | hx
   ·rw [ej]; exact ⟨fun c hc=>List.mem_append_left _ hc,by rw [List.length_append]; lia⟩
   ·obtain ⟨h3,h4⟩:=h1 x hx
    rw [ej]
    exact ⟨fun c hc=>List.mem_append_right _ (List.mem_cons_of_mem _ (h3 c hc)),by rw [List.length_append,List.length_cons]; lia⟩
  ·rw [ej,List.length_append,List.length_cons,List.length_cons (a:=32)]; lia
theorem Zej (t:Str):cs t=jn ((Txt.split t " ").map cs):=by rw [← Uo,StrLaws.join_split]
theorem Zek {n:Nat}{t:Str}(h:Yk n t) (hn:n<=10000):∃ w rest,Txt.split t " " = w::rest/\(∀ x∈w::rest,Ux x)/\rest.length<=n:=by
 have e:=Zej t
 obtain ⟨h1,h2⟩:=Zf1 ((Txt.split t " ").map cs)
 rw [← e] at h1 h2
 have hp : 1<=(Txt.split t " ").length:=PyProof.Rows.split_pos _ _
 rw [List.length_map,Zu] at h2
 have hl:=h.1
 have hall:∀ x∈Txt.split t " ", Ux x:=fun x hx=>by
  obtain ⟨h3,h4⟩:=h1 (cs x) (List.mem_map_of_mem hx)
  rw [Zu,Zu] at h4
  exact ⟨by lia,fun c hc=>h.2 c (h3 c hc)⟩
 cases es:Txt.split t " " with
 | nil=>rw [es] at hp; exact absurd hp (by simp)
 | cons w rest =>
  rw [es] at h2 hall
  rw [List.length_cons] at h2
  exact ⟨w,rest,rfl,hall,by lia⟩
end
section
variable {P:Program}{w:World}{K:PySem.W.Frag}{mg:Str->Option Value}{base:Heap}{c:Str->Addr}{dP dS:Addr}{kP kS:List (Str×Tok×Addr)}
def Zkt (c:Str->Addr):Sp:=fun vs H Q E=>∃ t:Str,vs = [.str t]/\Yk 10000 t/\(∀ d p ra rb H',Dk d->Txt.split t " " = toks d->DdAt H' d p ra rb->Same H H'->Q (.ref p) H')/\((∀ d,Dk d->Txt.split t " " ≠ toks d)->∀ H',Same H H'->E (.ref (c "NoDeed")) none H')
abbrev Y5:Stmt:=top 11
theorem Zas:FnScope ["text", "words", "word", "plus", "minus", "values"] ["text"] (Za Y5):=⟨rfl,rfl,rfl,by decide +kernel,rfl,by decide +kernel,by decide +kernel⟩
theorem Zxp:Nm (Za Y5) "NoDeed" .globalImplicit:=by decide +kernel
theorem Znm:Nm (Za Y5) "PLAIN" .globalImplicit:=by decide +kernel
theorem Znn:Nm (Za Y5) "SWORN" .globalImplicit:=by decide +kernel
theorem Zg2:Nm (Za Y5) "minus" .local:=by decide +kernel
theorem Zno:Nm (Za Y5) "place_of" .globalImplicit:=by decide +kernel
theorem Zg3:Nm (Za Y5) "plus" .local:=by decide +kernel
theorem Znp:Nm (Za Y5) "read_names" .globalImplicit:=by decide +kernel
theorem Znq:Nm (Za Y5) "read_values" .globalImplicit:=by decide +kernel
theorem Zxq:Nm (Za Y5) "text" .local:=by decide +kernel
theorem Znr:Nm (Za Y5) "tuple" .globalImplicit:=by decide +kernel
theorem Zns:Nm (Za Y5) "values" .local:=by decide +kernel
theorem Ub:Nm (Za Y5) "word" .local:=by decide +kernel
theorem Uc:Nm (Za Y5) "words" .local:=by decide +kernel
theorem Zxr (Zf2:Has K mg "read_deed" Y5) (T:Txt mg) (er:Er K mg c errs) (tb:Tbl K mg w.params dP dS kP kS) (fms:Fms K kP kS) (fmn:FmN kP kS) (Zly:FnX P w K mg base "place_of" 1 (Zjx c)) (Zlz:FnX P w K mg base "read_names" 3 (Zi2 c)) (Zl0:FnX P w K mg base "read_values" 3 (Zjy K c)):FnX P w K mg base "read_deed" 4 (Zkt c):=by
 have c_PLAIN:=tb.cP
 have c_SWORN:=tb.cS
 have r_PLAIN:RelV (.ref dP) (.ref dP):=rfl
 have r_SWORN:RelV (.ref dS) (.ref dS):=rfl
 refine Zf2.fnX Zas (fun _ _ _ _ _ _ us hl=>match us,hl with | [_],_=>rfl) (fun vs H Q E h=>?_) (fun f cdv A outer s H vs Q E hr h=>?_)
 ·obtain ⟨t,rfl,_⟩:=h
  rfl
 ·obtain ⟨t,rfl,ht,kq,ke⟩:=h
  refine ⟨_,(Zf (Zm (i:=1) Zas.nd Uc (Wn F.plainAttrs_str F.slot_str_split F.type_str_split Zd2 (qvN 0 Zxq) (Zb Zh Zc)))
 (Zf (Zm (i:=2) Zas.nd Ub (Zy Yc (qvN 1 Uc) Zd (fun _ _=>rfl)))
 (Zf (Zp (Zl Ziz (qvN 2 Ub) (Uh Znm c_PLAIN r_PLAIN) rfl) (Ze (Zi (Vz Zb3 Znr T.tuple U7 (Zb (Zj Wr (Ys (Zb (qvN 2 Ub) Zc)) (Um Zah Zl0 (hr.mono (by lia)) Znq (Zb (Z7 Y7 (qvN 1 Uc) (Z3 Zd) Yb) (Zb (Zy Zkq (Uh Znm c_PLAIN r_PLAIN) (qvN 2 Ub) (fun _ _=>rfl)) Zc)))) Zc)))) Zs)
 (Zf (Zp (Zl Ziz (qvN 2 Ub) (Uh Znn c_SWORN r_SWORN) rfl) (Zf (Zm (i:=3) Zas.nd Zg3 (Um Zah Zly (hr.mono (by lia)) Zno (Zb Zh (Zb (qvN 1 Uc) Zc))))
 (Zf (Zm (i:=4) Zas.nd Zg2 (Um Zah Zly (hr.mono (by lia)) Zno (Zb Zh (Zb (qvN 1 Uc) Zc))))
 (Zf (Zm (i:=5) Zas.nd Zns (Um Zah Zl0 (hr.mono (by lia)) Znq (Zb (Z7 Y7 (qvN 1 Uc) (Z3 Zd) (Z3 (qvN 3 Zg3))) (Zb (Zy Zkq (Uh Znn c_SWORN r_SWORN) (qvN 2 Ub) (fun _ _=>rfl)) Zc))))
 (Ze (Zi (Vz Zb3 Znr T.tuple U7 (Zb (Zj Wr (Zj Wr (Ys (Zb (qvN 2 Ub) Zc)) (qvN 5 Zns)) (Ys (Zb (Um Zah Zlz (hr.mono (by lia)) Znp (Zb (Z7 Y7 (qvN 1 Uc) (Z3 (Zj Yp (qvN 3 Zg3) Zd)) (Z3 (qvN 4 Zg2))) Zc)) (Zb (Um Zah Zlz (hr.mono (by lia)) Znp (Zb (Z7 Y7 (qvN 1 Uc) (Z3 (Zj Yp (qvN 4 Zg2) Zd)) Yb) Zc)) Zc)))) Zc))))))) Zs)
 (Ze (Zca Ul rfl rfl (er.x "NoDeed" (by decide +kernel)) Zxp (er.g "NoDeed" (by decide +kernel)) (Zd0 (Zct (Zkm (qvN 2 Ub) Zfd))))))))),?_⟩
  have hZ:(100000:Nat)<=sizeLine:=by decide
  obtain ⟨x,rest,es,hwd,hlr⟩:=Zek ht (Nat.le_refl _)
  have hl0:=ht.1
  refine ⟨_,rfl,rfl,t, " ", rfl,rfl,by decide +kernel,by lia,fun l hl=>?_⟩
  rw [es]
  rw [es] at kq ke
  have S1:=Same.new (o:=.lst ((x::rest).map V.str)) hl
  have k1:(upd H l (.lst ((x::rest).map V.str))) l=some (.lst ((x::rest).map V.str)):=Zg
  generalize (upd H l (.lst ((x::rest).map V.str)))=H1 at S1 k1 ⊢
  refine Zv ?_
  dsimp only [Zk]
  refine ⟨_,rfl,l,_,0,.str x,rfl,rfl,SqL.of k1,Yz (j:=0) rfl,?_⟩
  refine Zv ?_
  dsimp only [Zk]
  cases hf:Y4 x with
  | none =>
   obtain ⟨n1,n2⟩:=fmn x hf
   refine ⟨_,rfl,x,dP,kP,rfl,rfl,tb.P,_,rfl,?_⟩
   rw [n1]
   refine Zr ?_
   refine ⟨_,rfl,x,dS,kS,rfl,rfl,tb.S,_,rfl,?_⟩
   rw [n2]
   refine Zr ?_
   exact ⟨by decide +kernel,_,rfl,⟨x,rfl,hwd x List.mem_cons_self⟩,fun _=>ke (fun d hd e=>hd.known e hf) H1 S1⟩
  | some f' =>
   have hkinds:=Zio (cs f')
   rcases fms (x,f') (Zcw hf) with ⟨h43,t1,hP,hS,hsq⟩ | ⟨h43,hP,t1,hS,hsq⟩
   ·refine ⟨_,rfl,x,dP,kP,rfl,rfl,tb.P,_,rfl,?_⟩
    rw [hP]
    refine Z2 ?_
    refine ⟨_,rfl,by show 1<=sizeLine; lia,fun l2 hl2=>?_⟩
    have S2:=Same.new (o:=.lst [.str x]) hl2
    have k2:(upd H1 l2 (.lst [.str x])) l2=some (.lst [.str x]):=Zg
    generalize (upd H1 l2 (.lst [.str x]))=H2 at S2 k2 ⊢
    refine ⟨_,rfl,_,rfl,l,_,rfl,SqL.of (S2 _ _ k1),fun l3 hl3=>?_⟩
    have ec:Z1 ((x::rest).map V.str) (some 1) none=rest.map V.str:=Zce (pre:=[.str x]) rfl rfl
    rw [ec]
    have S3:=Same.new (o:=.lst (rest.map V.str)) hl3
    have k3:(upd H2 l3 (.lst (rest.map V.str))) l3=some (.lst (rest.map V.str)):=Zg
    generalize (upd H2 l3 (.lst (rest.map V.str)))=H3 at S3 k3 ⊢
    refine ⟨_,rfl,x,dP,t1,kP,rfl,rfl,tb.P,hP,l3,t1,rest,_,rfl,k3,fun _ _=>hsq _,fun y hy=>hwd y (List.mem_cons_of_mem _ hy),by lia,hkinds,fun ps l4 H4 hps hl4 k4 s4=>?_,fun hno H4 s4=>?_⟩
    ·have hpl:ps.length=rest.length:=by rw [← hps.1,List.length_map]
     refine ⟨l2,l4,_,_,rfl,rfl,s4 _ _ (S3 _ _ k2),k4,by rw [List.length_map]; show 1+ps.length<=sizeLine; lia,fun l5 hl5=>?_⟩
     have S5:=Same.new (o:=.lst ([V.str x]++ps.map ptV)) hl5
     have k5:(upd H4 l5 (.lst ([V.str x]++ps.map ptV))) l5=some (.lst ([V.str x]++ps.map ptV)):=Zg
     generalize (upd H4 l5 (.lst ([V.str x]++ps.map ptV)))=H5 at S5 k5 ⊢
     refine ⟨l5,_,rfl,.inl ⟨SqL.of k5,fun p hp=>?_⟩⟩
     refine kq ⟨x,ps,none⟩ p 0 0 _ ⟨⟨f',hf,hps.2.1,.inr ⟨h43,rfl⟩⟩,hps.2.2,trivial⟩ ?_ ⟨?_,trivial⟩ (((((S1.trans S2).trans S3).trans s4).trans S5).trans (Same.new hp))
     ·show x::rest=x::(ps.map ptS ++ [])
      rw [List.append_nil,hps.1]
     ·rw [Zg]
      show _=some (HO.tup (V.str x::(ps.map ptV ++ [])))
      rw [List.append_nil]
      rfl
    ·exact ke (fun d hd e=>hno _ (hd.plain e hf h43).2) H4 (((S1.trans S2).trans S3).trans s4)
   ·refine ⟨_,rfl,x,dP,kP,rfl,rfl,tb.P,_,rfl,?_⟩
    rw [hP]
    refine Zr ?_
    refine ⟨_,rfl,x,dS,kS,rfl,rfl,tb.S,_,rfl,?_⟩
    rw [hS]
    refine Z2 ?_
    obtain ⟨nx1,nx2⟩:=Zta hf
    refine ⟨_,rfl, "+", l,x::rest,rfl,k1,by decide +kernel,fun pre post e1 hp1=>?_,fun hno=>?_⟩
    rotate_left
    ·refine ke (fun d hd e=>hno ?_) H1 S1
     obtain ⟨a,b,_,e2,_⟩:=hd.sworn e hf h43
     rw [e2]
     exact List.mem_cons_of_mem _ (List.mem_append_right _ List.mem_cons_self)
    refine Zv ?_
    dsimp only [Zk]
    refine ⟨_,rfl, "-", l,x::rest,rfl,k1,by decide +kernel,fun pre2 post2 e2 hp2=>?_,fun hno=>?_⟩
    rotate_left
    ·refine ke (fun d hd e=>hno ?_) H1 S1
     obtain ⟨a,b,_,e2,_⟩:=hd.sworn e hf h43
     rw [e2]
     exact List.mem_cons_of_mem _ (List.mem_append_right _ (List.mem_cons_of_mem _ (List.mem_append_right _ List.mem_cons_self)))
    refine Zv ?_
    dsimp only [Zk]
    obtain ⟨mid,rfl⟩:∃ mid,pre=x::mid:=by
     cases pre with
     | nil=>injection e1 with z _; exact absurd z nx1
     | cons y mid=>injection e1 with z _; exact ⟨mid,by rw [z]⟩
    have er1:rest=mid++("+" : Str)::post:=by injection e1
    have hmidl:mid.length<=rest.length:=by rw [er1,List.length_append]; lia
    refine ⟨_,rfl,_,rfl,_,rfl,_,rfl,l,_,rfl,SqL.of k1,fun l3 hl3=>?_⟩
    have ec:Z1 ((x::rest).map V.str) (some 1) (some ((x::mid).length:Int))=mid.map V.str :=
     Zeh (pre:=[.str x]) (post:=(("+" : Str)::post).map V.str) (by rw [er1,List.map_cons,List.map_append]; rfl) rfl (by rw [List.length_map,List.length_cons,List.length_singleton]; lia)
    rw [ec]
    have S3:=Same.new (o:=.lst (mid.map V.str)) hl3
    have k3:(upd H1 l3 (.lst (mid.map V.str))) l3=some (.lst (mid.map V.str)):=Zg
    generalize (upd H1 l3 (.lst (mid.map V.str)))=H3 at S3 k3 ⊢
    have dkm:∀ d,Dk d->x::rest=toks d->∃ a b,mid=d.ps.map ptS/\post=a++("-" : Str)::b/\d.rows=some (a,b)/\d.ps.map ptK=Zz (cs f')/\(∀ y∈a,Zx y)/\(∀ y∈b,Zx y):=fun d hd e=>by
     obtain ⟨a,b,h1,h2,h3,h4,h5⟩:=hd.sworn e hf h43
     have e3:mid++("+" : Str)::post=d.ps.map ptS++("+" : Str)::(a++("-" : Str)::b):=by rw [← er1,h2]
     obtain ⟨e4,e5⟩:=Uy e3 (fun z=>hp1 (List.mem_cons_of_mem _ z)) (Zcx hd.ps).1
     exact ⟨a,b,e4,e5,h1,h3,h4,h5⟩
    refine ⟨_,rfl,x,dS,t1,kS,rfl,rfl,tb.S,hS,l3,t1,mid,_,rfl,k3,fun _ _=>hsq _,fun y hy=>hwd y (by rw [er1]; exact List.mem_cons_of_mem _ (List.mem_append_left _ hy)),by lia,hkinds,fun ps l4 H4 hps hl4 k4 s4=>?_,fun hno H4 s4=>?_⟩
    rotate_left
    ·refine ke (fun d hd e=>?_) H4 ((S1.trans S3).trans s4)
     obtain ⟨a,b,h1,_,_,h3,_⟩:=dkm d hd e
     exact hno d.ps ⟨h1.symm,h3,hd.ps⟩
    have hpl:ps.length=mid.length:=by rw [← hps.1,List.length_map]
    have nmid:("-" : Str)∉mid:=by rw [← hps.1]; exact (Zcx hps.2.2).2
    have hpost:("-" : Str)∈post:=by
     have:("-" : Str)∈x::rest:=by rw [e2]; exact List.mem_append_right _ List.mem_cons_self
     rw [er1] at this
     rcases List.mem_cons.mp this with z | z
     ·exact absurd z.symm nx2
     rcases List.mem_append.mp z with z | z
     ·exact absurd z nmid
     rcases List.mem_cons.mp z with z | z
     ·exact absurd z (by decide +kernel)
     ·exact z
    obtain ⟨a,b,rfl,na⟩:=Zcc hpost
    have epre:pre2=x::(mid++("+" : Str)::a)/\post2=b:=by
     refine Uy (x := "-") (by rw [← e2,er1,List.cons_append,List.append_assoc]; rfl) hp2 (fun z=>?_)
     rcases List.mem_cons.mp z with z | z
     ·exact nx2 z.symm
     rcases List.mem_append.mp z with z | z
     ·exact nmid z
     rcases List.mem_cons.mp z with z | z
     ·exact absurd z (by decide +kernel)
     ·exact na z
    obtain ⟨rfl,_⟩:=epre
    have hall:a.length+b.length<=rest.length:=by rw [er1,List.length_append,List.length_cons,List.length_append,List.length_cons]; lia
    have wa:∀ y∈a,Ux y:=fun y hy=>hwd y (by rw [er1]; exact List.mem_cons_of_mem _ (List.mem_append_right _ (List.mem_cons_of_mem _ (List.mem_append_left _ hy))))
    have wb:∀ y∈b,Ux y:=fun y hy=>hwd y (by rw [er1]; exact List.mem_cons_of_mem _ (List.mem_append_right _ (List.mem_cons_of_mem _ (List.mem_append_right _ (List.mem_cons_of_mem _ hy)))))
    have dkn:∀ d,Dk d->x::rest=toks d->(∀ y∈a,Zx y)/\(∀ y∈b,Zx y):=fun d hd e=>by
     obtain ⟨a',b',_,h2,_,_,h4,h5⟩:=dkm d hd e
     obtain ⟨e6,e7⟩:=Uy h2 na (Zcf h4)
     rw [e6,e7]
     exact ⟨h4,h5⟩
    refine Zv ?_
    dsimp only [Zk]
    have S14:=S3.trans s4
    have k14:=S14 _ _ k1
    refine ⟨_,rfl,by show 1<=sizeLine; lia,fun l5 hl5=>?_⟩
    have S5:=Same.new (o:=.lst [.str x]) hl5
    have k5:(upd H4 l5 (.lst [.str x])) l5=some (.lst [.str x]):=Zg
    generalize (upd H4 l5 (.lst [.str x]))=H5 at S5 k5 ⊢
    refine ⟨_,rfl,l5,l4,_,_,rfl,rfl,k5,S5 _ _ k4,by rw [List.length_map]; show 1+ps.length<=sizeLine; lia,fun l6 hl6=>?_⟩
    have S6:=Same.new (o:=.lst ([V.str x]++ps.map ptV)) hl6
    have k6:(upd H5 l6 (.lst ([V.str x]++ps.map ptV))) l6=some (.lst ([V.str x]++ps.map ptV)):=Zg
    generalize (upd H5 l6 (.lst ([V.str x]++ps.map ptV)))=H6 at S6 k6 ⊢
    have S16:=(S14.trans S5).trans S6
    have k16:=S16 _ _ k1
    refine ⟨_,rfl,_,rfl,_,_,rfl,rfl,_,rfl,_,rfl,_,rfl,l,_,rfl,SqL.of k16,fun l7 hl7=>?_⟩
    have ea:Z1 ((x::rest).map V.str) (some (((x::mid).length:Int)+1)) (some ((x::(mid++("+" : Str)::a)).length:Int))=a.map V.str :=
     Zeh (pre:=(x::(mid ++ [("+" : Str)])).map V.str) (post:=(("-" : Str)::b).map V.str) (by rw [er1,← List.map_append,← List.map_append,List.cons_append,List.append_assoc]; rfl) (by rw [List.length_map,List.length_cons,List.length_cons,List.length_append,List.length_singleton]; lia) (by rw [List.length_map,List.length_map,List.length_cons,List.length_cons,List.length_append,List.length_append,List.length_singleton,List.length_cons]; lia)
    rw [ea]
    have S7:=Same.new (o:=.lst (a.map V.str)) hl7
    have k7:(upd H6 l7 (.lst (a.map V.str))) l7=some (.lst (a.map V.str)):=Zg
    generalize (upd H6 l7 (.lst (a.map V.str)))=H7 at S7 k7 ⊢
    refine ⟨l7,a,rfl,k7,wa,by lia,fun hna ra H8 hra kra s8=>?_,fun hno H8 s8=>?_⟩
    rotate_left
    ·exact ke (fun d hd e=>hno (dkn d hd e).1) H8 (((S1.trans S16).trans S7).trans s8)
    have S18:=(S16.trans S7).trans s8
    have k18:=S18 _ _ k1
    refine ⟨_,rfl,_,rfl,_,_,rfl,rfl,_,rfl,l,_,rfl,SqL.of k18,fun l9 hl9=>?_⟩
    have eb:Z1 ((x::rest).map V.str) (some (((x::(mid++("+" : Str)::a)).length:Int)+1)) none=b.map V.str :=
     Zce (pre:=(x::(mid++("+" : Str)::(a ++ [("-" : Str)]))).map V.str) (by rw [er1,← List.map_append,List.cons_append,List.append_assoc,List.cons_append,List.append_assoc]; rfl) (by rw [List.length_map,List.length_cons,List.length_cons,List.length_append,List.length_append,List.length_cons,List.length_cons,List.length_append,List.length_singleton]; lia)
    rw [eb]
    have S9:=Same.new (o:=.lst (b.map V.str)) hl9
    have k9:(upd H8 l9 (.lst (b.map V.str))) l9=some (.lst (b.map V.str)):=Zg
    generalize (upd H8 l9 (.lst (b.map V.str)))=H9 at S9 k9 ⊢
    refine ⟨l9,b,rfl,k9,wb,by lia,fun hnb rb H10 hrb krb s10=>?_,fun hno H10 s10=>?_⟩
    rotate_left
    ·exact ke (fun d hd e=>hno (dkn d hd e).2) H10 (((S1.trans S18).trans S9).trans s10)
    have S110:=(S18.trans S9).trans s10
    have kra10:=s10 _ _ (S9 _ _ kra)
    have nab:ra≠rb:=fun z=>by rw [z] at kra; rw [S9 _ _ kra] at hrb; cases hrb
    refine ⟨by show 2<=sizeLine; lia,fun l11 hl11=>?_⟩
    have S11:=Same.new (o:=.lst [.ref ra,.ref rb]) hl11
    have k11:(upd H10 l11 (.lst [.ref ra,.ref rb])) l11=some (.lst [.ref ra,.ref rb]):=Zg
    generalize (upd H10 l11 (.lst [.ref ra,.ref rb]))=H11 at S11 k11 ⊢
    have k611:=S11 _ _ (s10 _ _ (S9 _ _ (s8 _ _ (S7 _ _ k6))))
    refine ⟨l6,l11,_,_,rfl,rfl,k611,k11,by rw [List.length_append,List.length_map]; show 1+ps.length+2<=sizeLine; lia,fun l12 hl12=>?_⟩
    have S12:=Same.new (o:=.lst ([V.str x]++ps.map ptV ++ [.ref ra,.ref rb])) hl12
    have k12:(upd H11 l12 (.lst ([V.str x]++ps.map ptV ++ [.ref ra,.ref rb]))) l12=some (.lst ([V.str x]++ps.map ptV ++ [.ref ra,.ref rb])):=Zg
    generalize (upd H11 l12 (.lst ([V.str x]++ps.map ptV ++ [.ref ra,.ref rb])))=H12 at S12 k12 ⊢
    refine ⟨l12,_,rfl,.inl ⟨SqL.of k12,fun p hp=>?_⟩⟩
    have S13:=Same.new (o:=.tup ([V.str x]++ps.map ptV ++ [.ref ra,.ref rb])) hp
    refine kq ⟨x,ps,some (a,b)⟩ p ra rb _ ⟨⟨f',hf,hps.2.1,.inl ⟨h43,fun z=>nomatch z⟩⟩,hps.2.2,hna,hnb⟩ ?_ ⟨?_,S13 _ _ (S12 _ _ (S11 _ _ kra10)),S13 _ _ (S12 _ _ (S11 _ _ krb)),nab⟩ ((((S1.trans S110).trans S11).trans S12).trans S13)
    ·show x::rest=x::(ps.map ptS++("+" : Str)::(a++("-" : Str)::b))
     rw [er1,hps.1]
    ·rw [Zg]
     rfl
end
section
variable {P:Program}{w:World}{K:PySem.W.Frag}{mg:Str->Option Value}{base:Heap}
def Znt:Sp:=fun vs H Q _=>∃ (s la:Addr),vs = [.ref s]/\SrcAt H s la/\∀ (i:Int) (H':Hp),Vc i->SrcAt H' s la->SameX s H H'->Q (.int i) H'
abbrev Zat:Stmt:=top 25
theorem Zl1:FnScope ["_law_src_here", "_law_kind"] ["_law_src_here"] (Za Zat):=⟨rfl,rfl,rfl,by decide +kernel,rfl,by decide +kernel,by decide +kernel⟩
theorem Zg4:Nm (Za Zat) "_law_kind" .local:=by decide +kernel
theorem Zdc:Nm (Za Zat) "_law_next" .globalImplicit:=by decide +kernel
theorem Zdd:Nm (Za Zat) "_law_src_here" .local:=by decide +kernel
theorem Zxs (Zf3:Has K mg "_law_number" Zat) (T:Txt mg) (Z4:Fn P w K mg base "_law_next" ["_law_src_here", "_law_base"] 1 Vk):Fn P w K mg base "_law_number" ["_law_src_here"] 2 Znt:=by
 refine Zf3.fnQ Zl1 (fun _ _ _ _ _ _ us hl=>match us,hl with | [_],_=>rfl) (fun vs H Q E h=>?_) (fun f cdv A outer s H vs Q E hr h=>?_)
 ·obtain ⟨s,la,rfl,_⟩:=h
  rfl
 ·obtain ⟨s,la,rfl,hs,k⟩:=h
  refine ⟨_,(Zf (Zm (i:=1) Zl1.nd Zg4 (Zo Z4 (hr.mono (by lia)) Zdc (Zb (qvN 0 Zdd) (Zb Zd Zc))))
 (Zf (Zp (Zl Yi (qvN 1 Zg4) Zd (Zn _)) (Ze (Zi (Zy Yc (Ys (Zb Zd (Zb Zd (Zb Zd (Zb Zd (Zb Zd (Zb Zd Zc))))))) (Zo Z4 (hr.mono (by lia)) Zdc (Zb (qvN 0 Zdd) (Zb Zd Zc))) (fun _ _=>rfl)))) Zs)
 (Zf (Zp (Zl Yi (qvN 1 Zg4) Zd (Zn _)) (Ze (Zi (Zo Z4 (hr.mono (by lia)) Zdc (Zb (qvN 0 Zdd) (Zb Zd Zc))))) Zs)
 (Ze (Zi (Zo Z4 (hr.mono (by lia)) Zdc (Zb (qvN 0 Zdd) (Zb Zd Zc)))))))),?_⟩
  have hz:(5000:Nat)<=sizeLine:=by decide
  refine ⟨_,rfl,s,la,4,rfl,hs,by decide,by decide,fun d H1 _ _ hs1 sx1=>?_⟩
  refine ⟨_,rfl,rfl,_,rfl,Zq (fun _=>?_) (fun _=>?_)⟩
  ·refine ⟨by show 6<=sizeLine; lia,fun q hq=>?_⟩
   have S:=Same.new (o:=.lst [.int 0,.int 9,.int 10,.int 999999999,.int 100000000,.int 99]) hq
   have kq:(upd H1 q (.lst [.int 0,.int 9,.int 10,.int 999999999,.int 100000000,.int 99])) q=some (.lst [.int 0,.int 9,.int 10,.int 999999999,.int 100000000,.int 99]):=Zg
   have nq:q≠s:=(hs1.ne hq).1
   generalize (upd H1 q (.lst [.int 0,.int 9,.int 10,.int 999999999,.int 100000000,.int 99]))=H2 at S kq ⊢
   refine ⟨_,rfl,s,la,6,rfl,hs1.keep S,by decide,by decide,fun d2 H3 e0 e1 hs3 sx3=>?_⟩
   have hk:=sx3 q _ nq kq
   have at6:∃ z:Int,atI [V.int 0,.int 9,.int 10,.int 999999999,.int 100000000,.int 99] d2=some (.int z)/\Vc z:=by
    have:d2=0\/d2=1\/d2=2\/d2=3\/d2=4\/d2=5:=by lia
    rcases this with rfl | rfl | rfl | rfl | rfl | rfl
    ·exact ⟨0,rfl,by decide,by decide⟩
    ·exact ⟨9,rfl,by decide,by decide⟩
    ·exact ⟨10,rfl,by decide,by decide⟩
    ·exact ⟨999999999,rfl,by decide,by decide⟩
    ·exact ⟨100000000,rfl,by decide,by decide⟩
    ·exact ⟨99,rfl,by decide,by decide⟩
   obtain ⟨z,hz1,hz2⟩:=at6
   exact ⟨q,_,d2,.int z,rfl,rfl,SqL.of hk,hz1,k z H3 hz2 hs3 ((sx1.trans S.x).trans sx3)⟩
  ·refine ⟨_,rfl,rfl,_,rfl,Zq (fun _=>?_) (fun _=>?_)⟩
   ·exact ⟨_,rfl,s,la,1000000000,rfl,hs1,by decide,by decide,fun d2 H3 e0 e1 hs3 sx3=>k d2 H3 ⟨e0,by lia⟩ hs3 (sx1.trans sx3)⟩
   ·exact ⟨_,rfl,s,la,30,rfl,hs1,by decide,by decide,fun d2 H3 e0 e1 hs3 sx3=>k d2 H3 ⟨e0,by lia⟩ hs3 (sx1.trans sx3)⟩
def Zl2:Sp:=fun vs H Q _=>∃ (s la na:Addr) (names:List Str),vs = [.ref s,.ref na]/\SrcAt H s la/\H na=some (.lst (names.map V.str))/\na≠s/\1<=names.length/\names.length<=100 /\
 ∀ (l:Addr) (xs:List Str) (H':Hp),(∀ x∈xs,x∈names)->xs.length<=15->H l=none->H' l=some (.lst (xs.map V.str))->SrcAt H' s la->SameX s H H'->Q (.ref l) H'
abbrev Uq:Stmt:=top 26
theorem Zxt:FnScope ["_law_src_here", "_law_names_here"] ["_law_src_here", "_law_names_here"] (Za Uq):=⟨rfl,rfl,rfl,by decide +kernel,rfl,by decide +kernel,by decide +kernel⟩
theorem Zxu:Nm (Za Uq) "_law_names_here" .cell:=by decide +kernel
theorem Znu:Nm (Za Uq) "_law_next" .globalImplicit:=by decide +kernel
theorem Zg5:Nm (Za Uq) "_law_src_here" .cell:=by decide +kernel
theorem Zxv:Nm (Za Uq) "range" .globalImplicit:=by decide +kernel
theorem Zxw (Zf4:Has K mg "_law_row" Uq) (T:Txt mg) (Z4:Fn P w K mg base "_law_next" ["_law_src_here", "_law_base"] 1 Vk):Fn P w K mg base "_law_row" ["_law_src_here", "_law_names_here"] 2 Zl2:=by
 refine Zf4.fnQ Zxt (fun _ _ _ _ _ _ us hl=>match us,hl with | [_,_],_=>rfl) (fun vs H Q E h=>?_) (fun f cdv A outer s H vs Q E hr h=>?_)
 ·obtain ⟨s,la,na,names,rfl,_⟩:=h
  rfl
 ·obtain ⟨s,la,na,names,rfl,hs,hna,nns,l0,l1,k⟩:=h
  refine ⟨_,(Ze (Zi (Zb8 (locs:=["_law_k"]) (fr:=[("_law_src_here", 0),("_law_names_here", 1)]) ⟨rfl,by decide +kernel,by decide +kernel,by decide +kernel,by decide +kernel,by decide +kernel⟩ (.consN Zg5 (.consN Zxu .nil)) rfl (U2 Zxv.1 T.range (Zb (Zo Z4 (hr.mono (by lia)) Znu (Zb (qvC 0 Zg5) (Zb (Zy Yc (Ys (Zb Zd (Zb Zd (Zb Zd (Zb Zd Zc))))) (Zo Z4 (hr.mono (by lia)) Znu (Zb (qvC 0 Zg5) (Zb Zd Zc))) (fun _ _=>rfl)) Zc))) Zc)) ⟨fun _ _ _ _ _ _=>by
  have cnd:(inN ["_law_k"] [("_law_src_here", 0),("_law_names_here", 1)]).Nodup:=by decide +kernel
  exact ⟨(Wv 0 cnd),Vj,(Zy Zpr (Zbp 2) (Zo Z4 (hr.mono (by lia)) nmC (Zb (Zbp 1) (Zb (Zw Zn4 nmC T.len Yh (Zb (Zbp 2) Zc)) Zc))) (fun _ _=>rfl))⟩⟩))),?_⟩
  have hz:(5000:Nat)<=sizeLine:=by decide
  refine ⟨_,rfl,by show 4<=sizeLine; lia,fun q hq=>?_⟩
  have S:=Same.new (o:=.lst [.int 3,.int 3,.int 3,.int 16]) hq
  have kq:(upd H q (.lst [.int 3,.int 3,.int 3,.int 16])) q=some (.lst [.int 3,.int 3,.int 3,.int 16]):=Zg
  have nq:q≠s:=(hs.ne hq).1
  generalize (upd H q (.lst [.int 3,.int 3,.int 3,.int 16]))=H1 at S kq ⊢
  refine ⟨_,rfl,s,la,4,rfl,hs.keep S,by decide,by decide,fun d2 H2 e0 e1 hs2 sx2=>?_⟩
  have hk:=sx2 q _ nq kq
  have at4:∃ z:Int,atI [V.int 3,.int 3,.int 3,.int 16] d2=some (.int z)/\1<=z/\z<=16:=by
   have:d2=0\/d2=1\/d2=2\/d2=3:=by lia
   rcases this with rfl | rfl | rfl | rfl
   ·exact ⟨3,rfl,by decide,by decide⟩
   ·exact ⟨3,rfl,by decide,by decide⟩
   ·exact ⟨3,rfl,by decide,by decide⟩
   ·exact ⟨16,rfl,by decide,by decide⟩
  obtain ⟨z,hz1,hz2,hz3⟩:=at4
  refine ⟨q,_,d2,.int z,rfl,rfl,SqL.of hk,hz1,s,la,z,rfl,hs2,by lia,by lia,fun m H3 m0 m1 hs3 sx3=>?_⟩
  have sxA:=(S.x.trans sx2).trans sx3
  refine ⟨_,rfl,by lia,by lia,?_⟩
  refine Zh0 (n:=m.toNat) (fun i ys H'=>SrcAt H' s la/\SameX s H H'/\∃ xs:List Str,ys=xs.map V.str/\xs.length=i/\∀ x∈xs,x∈names) ⟨hs3,sxA,[],rfl,rfl,fun x hx=>nomatch hx⟩ (by lia) ?_ ?_ ?_
  ·rintro i ys H' ⟨_,_,xs,rfl,h2,_⟩
   rw [List.length_map,h2]; exact Nat.le_refl _
  ·rintro i ys H' hi ⟨hs',sx',xs,rfl,h2,h3⟩ ls hls
   obtain ⟨w0,rfl⟩:=Ur hls
   have hna':=sx' _ _ nns hna
   refine ⟨⟨[_],rfl,rfl⟩,?_⟩
   refine ⟨_,rfl,_,rfl,_,rfl,na,_,rfl,.inl (SqL.of hna'),s,la,_,rfl,hs',by rw [List.length_map]; lia,by rw [List.length_map]; lia,fun d H4 d0 d1 hs4 sx4=>?_⟩
   rw [List.length_map] at d1
   obtain ⟨j,rfl⟩:=Int.eq_ofNat_of_zero_le d0
   have hj:j < names.length:=by lia
   refine ⟨na,_,(j:Int),.str names[j],rfl,rfl,SqL.of (sx4 _ _ nns hna'),Yz (by rw [List.getElem?_map,List.getElem?_eq_getElem hj]; rfl),hs4,sx'.trans sx4,xs ++ [names[j]],by rw [List.map_append]; rfl,by rw [List.length_append,h2]; rfl,fun x hx=>?_⟩
   rcases List.mem_append.mp hx with y | y
   ·exact h3 x y
   ·rw [List.mem_singleton.mp y]; exact List.getElem_mem hj
  ·rintro ys H' ⟨hs',sx',xs,rfl,h2,h3⟩ l hl
   have fl:H l=none:=by
    cases e:H l with
    | none=>rfl
    | some o =>
     by_cases z':l=s
     ·subst z'
      obtain ⟨_,_,_,_,_,hsl,_⟩:=hs'
      rw [hsl] at hl; cases hl
     ·rw [sx' _ _ z' e] at hl; cases hl
   exact k l xs _ h3 (by lia) fl Zg (hs'.keep (Same.new hl)) (sx'.trans (Same.new hl).x)
end
section
variable {P:Program}{w:World}{K:PySem.W.Frag}{mg:Str->Option Value}{base:Heap}
abbrev fmA:List (Key×V):=[(.inr "come", .str "abb"),(.inr "rise", .str "abb"),(.inr "die", .str "aba"),(.inr "penance", .str "a"),(.inr "bring", .str "ab"),(.inr "give", .str "baab")]
abbrev fmB:List (Key×V):=[(.inr "pay", .str "aabb"),(.inr "claim", .str "abbb+"),(.inr "wergild", .str "aabbb+"),(.inr "accuse", .str "babb+")]
def fmV (x:Str):V:=(Yj (Y0 [] fmA) (.inr x)).getD ((Yj (Y0 [] fmB) (.inr x)).getD .non)
theorem Zku:∀ p∈fm10,fmV p.1 = .str p.2:=by
 intro p hp
 simp only [fm10,List.mem_cons,List.not_mem_nil,or_false] at hp
 rcases hp with rfl | rfl | rfl | rfl | rfl | rfl | rfl | rfl | rfl | rfl <;> decide +kernel
theorem Ztc {x:Str}(h:Y4 x=none):fmV x = .non:=by
 have hn:∀ q∈fm10,q.1≠x:=fun q hq e=>by
  unfold Y4 at h
  rw [Option.map_eq_none_iff,List.find?_eq_none] at h
  exact h q hq (by simpa using e)
 have ne:∀ q∈fm10,¬ (Sum.inr x:Key)=Sum.inr q.1:=fun q hq e=>hn q hq (by injection e with e; exact e.symm)
 simp only [fm10,List.mem_cons,List.not_mem_nil,or_false,forall_eq_or_imp,forall_eq] at ne
 obtain ⟨n1,n2,n3,n4,n5,n6,n7,n8,n9,n10⟩:=ne
 unfold fmV
 simp only [Y0,fmA,fmB,List.foldl_cons,List.foldl_nil,Zqi,if_neg n1,if_neg n2,if_neg n3,if_neg n4,if_neg n5,if_neg n6,if_neg n7,if_neg n8,if_neg n9,if_neg n10]
 rfl
def fmR (x:Str):V:=match Y4 x with
 | some f=>.str f
 | none=>.non
theorem Zl3 (x:Str):fmV x=fmR x:=by
 unfold fmR
 cases h:Y4 x with
 | none=>exact Ztc h
 | some f=>exact Zku _ (Zcw h)
def Ze1:Sp:=fun vs H Q _=>∃ x:Str,vs = [.str x]/\∀ H',Same H H'->Q (fmR x) H'
def Zkv:Sp:=fun vs H Q _=>∃ (x f:Str),vs = [.str x]/\(x,f)∈fm10/\∀ H',Same H H'->Q (.str f) H'
theorem Ztd {vs:List V}{H:Hp}{Q:VK}{E:XK}(h:Zkv vs H Q E):Ze1 vs H Q E:=by
 obtain ⟨x,f,rfl,hx,k⟩:=h
 refine ⟨x,rfl,fun H' s=>?_⟩
 rw [← Zl3,Zku _ hx]
 exact k H' s
abbrev Zap:Stmt:=top 27
theorem Zf5:FnScope ["_law_word_here", "_law_forms", "_law_more"] ["_law_word_here"] (Za Zap):=⟨rfl,rfl,rfl,by decide +kernel,rfl,by decide +kernel,by decide +kernel⟩
theorem Znv:Nm (Za Zap) "_law_forms" .local:=by decide +kernel
theorem Znw:Nm (Za Zap) "_law_more" .local:=by decide +kernel
theorem Znx:Nm (Za Zap) "_law_word_here" .local:=by decide +kernel
theorem Zxx (Zf6:Has K mg "_law_form" Zap) (T:Txt mg):Fn P w K mg base "_law_form" ["_law_word_here"] 1 Ze1:=by
 refine Zf6.fnQ Zf5 (fun _ _ _ _ _ _ us hl=>match us,hl with | [_],_=>rfl) (fun vs H Q E h=>?_) (fun f cdv A outer s H vs Q E hr h=>?_)
 ·obtain ⟨x,rfl,_⟩:=h
  rfl
 ·obtain ⟨x,rfl,k⟩:=h
  refine ⟨_,(Zf (Zm (i:=1) Zf5.nd Znv (Zjs (W9 Zh Zh (W9 Zh Zh (W9 Zh Zh (W9 Zh Zh (W9 Zh Zh (W9 Zh Zh Zjr))))))))
 (Zf (Zm (i:=2) Zf5.nd Znw (Zjs (W9 Zh Zh (W9 Zh Zh (W9 Zh Zh (W9 Zh Zh Zjr))))))
 (Ze (Zi (Ziw hr (qvN 1 Znv) (qvN 0 Znx) (Ziw hr (qvN 2 Znw) (qvN 0 Znx) Yo)))))),?_⟩
  refine fun p hp=>?_
  refine ⟨Zg,fmA,rfl,by decide,?_⟩
  have S1:Same H (upd (upd H p (.dK [])) p (.dK (Y0 [] fmA))):=fun b o eb=>by rw [Zt (Yg eb hp),Zt (Yg eb hp)]; exact eb
  have k1:(upd (upd H p (.dK [])) p (.dK (Y0 [] fmA))) p=some (.dK (Y0 [] fmA)):=Zg
  generalize (upd (upd H p (.dK [])) p (.dK (Y0 [] fmA)))=H1 at S1 k1 ⊢
  refine Zv ?_
  dsimp only [Zk]
  refine fun q hq=>?_
  refine ⟨Zg,fmB,rfl,by decide,?_⟩
  have S2:Same H1 (upd (upd H1 q (.dK [])) q (.dK (Y0 [] fmB))):=fun b o eb=>by rw [Zt (Yg eb hq),Zt (Yg eb hq)]; exact eb
  have k2:(upd (upd H1 q (.dK [])) q (.dK (Y0 [] fmB))) q=some (.dK (Y0 [] fmB)):=Zg
  generalize (upd (upd H1 q (.dK [])) q (.dK (Y0 [] fmB)))=H2 at S2 k2 ⊢
  refine Zv ?_
  dsimp only [Zk]
  have fin:Q (fmV x) H2:=by rw [Zl3]; exact k _ (S1.trans S2)
  exact ⟨_,rfl,p,rfl,.inl ⟨_,.inl (S2 _ _ k1)⟩,_,rfl,_,rfl,q,rfl,.inl ⟨_,.inl k2⟩,_,rfl,_,DGet.k (k:=Sum.inr x) k2,_,DGet.k (k:=Sum.inr x) (S2 _ _ k1),fin⟩
end
section
variable {P:Program}{w:World}{K:PySem.W.Frag}{mg:Str->Option Value}{base:Heap}{kP kS:List (Str×Tok×Addr)}
theorem Zxy {d:Int}(h0 : 0<=d) (h1:d < 10):∃ q∈fm10,atI ((fm10.map (·.1)).map V.str) d=some (.str q.1):=by
 obtain ⟨j,rfl⟩:=Int.eq_ofNat_of_zero_le h0
 have hj:j < fm10.length:=by show j < 10; lia
 exact ⟨fm10[j],List.getElem_mem hj,Yz (by rw [List.getElem?_map,List.getElem?_map,List.getElem?_eq_getElem hj]; rfl)⟩
theorem Zkw {H H':Hp}{s la l:Addr}(hs':SrcAt H' s la) (sx:SameX s H H') (hl:H' l=none):H l=none:=by
 cases e:H l with
 | none=>rfl
 | some o =>
  by_cases z':l=s
  ·subst z'
   obtain ⟨_,_,_,_,_,hsl,_⟩:=hs'
   rw [hsl] at hl; cases hl
  ·rw [sx _ _ z' e] at hl; cases hl
theorem Zel (l:List Nat) (c:Nat):Zz (l ++ [c])=Zz l++(if c=43 then [] else [kdC c]):=by
 unfold Zz
 rw [List.filter_append,List.map_append]
 by_cases h:c=43
 ·rw [if_pos h,h]; rfl
 ·rw [if_neg h,List.filter_cons_of_pos (by simpa using h)]; rfl
def Zl4 (K:PySem.W.Frag) (kP kS:List (Str×Tok×Addr)):Sp:=fun vs H Q _=>∃ (s la na:Addr) (names:List Str),vs = [.ref s,.ref na]/\SrcAt H s la/\H na=some (.lst (names.map V.str))/\na≠s/\1<=names.length/\names.length<=100/\(∀ n∈names,Zx n)/\Fms K kP kS /\
 ∀ (d:Dd) (p ra rb:Addr) (H':Hp),DdOk K kP kS d->DdAt H' d p ra rb->SrcAt H' s la->SameX s H H'->Q (.ref p) H'
structure Prts (H:Hp) (names:List Str) (x f:Str) (i:Nat) (lp:Addr) (ps:List Pt) (rw:Option (List Str×List Str)) (ra rb:Addr):Prop where
 lst:H lp=some (.lst (.str x::(ps.map ptV++Y3 rw ra rb)))
 ok:∀ p∈ps,Vd p
 kd:ps.map ptK=Zz ((cs f).take i)
 tl:(43∉(cs f).take i/\rw=none)\/(43∈(cs f).take i/\rw≠none)
 at_:Zfg H rw ra rb
 row:Rows (fun a=>(∀ y∈a,Zx y)/\a.length<=15) rw
abbrev Y9:Stmt:=top 28
theorem Zau:FnScope ["_law_src_here", "_law_names_here", "_law_words", "_law_word_here", "_law_parts", "_law_sign"] ["_law_src_here", "_law_names_here"] (Za Y9):=⟨rfl,rfl,rfl,by decide +kernel,rfl,by decide +kernel,by decide +kernel⟩
theorem Zxz:Nm (Za Y9) "_law_form" .globalImplicit:=by decide +kernel
theorem Zde:Nm (Za Y9) "_law_names_here" .local:=by decide +kernel
theorem Zny:Nm (Za Y9) "_law_next" .globalImplicit:=by decide +kernel
theorem Zx0:Nm (Za Y9) "_law_number" .globalImplicit:=by decide +kernel
theorem Zav:Nm (Za Y9) "_law_parts" .local:=by decide +kernel
theorem Znz:Nm (Za Y9) "_law_row" .globalImplicit:=by decide +kernel
theorem Zg6:Nm (Za Y9) "_law_sign" .local:=by decide +kernel
theorem Zbx:Nm (Za Y9) "_law_src_here" .local:=by decide +kernel
theorem Zg7:Nm (Za Y9) "_law_word_here" .local:=by decide +kernel
theorem Zl5:Nm (Za Y9) "_law_words" .local:=by decide +kernel
theorem Zx1:Nm (Za Y9) "len" .globalImplicit:=by decide +kernel
theorem Zx2:Nm (Za Y9) "tuple" .globalImplicit:=by decide +kernel
theorem Zx3 (Zf7:Has K mg "_law_any_deed" Y9) (T:Txt mg) (Z4:Fn P w K mg base "_law_next" ["_law_src_here", "_law_base"] 1 Vk) (Zx4:Fn P w K mg base "_law_number" ["_law_src_here"] 2 Znt) (Zl6:Fn P w K mg base "_law_row" ["_law_src_here", "_law_names_here"] 2 Zl2) (Zf8:Fn P w K mg base "_law_form" ["_law_word_here"] 1 Zkv) :
  Fn P w K mg base "_law_any_deed" ["_law_src_here", "_law_names_here"] 3 (Zl4 K kP kS):=by
 refine Zf7.fnQ Zau (fun _ _ _ _ _ _ us hl=>match us,hl with | [_,_],_=>rfl) (fun vs H Q E h=>?_) (fun f cdv A outer s H vs Q E hr h=>?_)
 ·obtain ⟨s,la,na,names,rfl,_⟩:=h
  rfl
 ·obtain ⟨s,la,na,names,rfl,hs,hna,nns,l0,l1,hnm,fms,k⟩:=h
  refine ⟨_,(Zf (Zm (i:=2) Zau.nd Zl5 (Ys (Zb Zh (Zb Zh (Zb Zh (Zb Zh (Zb Zh (Zb Zh (Zb Zh (Zb Zh (Zb Zh (Zb Zh Zc))))))))))))
 (Zf (Zm (i:=3) Zau.nd Zg7 (Zy Yc (qvN 2 Zl5) (Zo Z4 (hr.mono (by lia)) Zny (Zb (qvN 0 Zbx) (Zb Zd Zc))) (fun _ _=>rfl)))
 (Zf (Zm (i:=4) Zau.nd Zav (Ys (Zb (qvN 3 Zg7) Zc)))
 (Zf (W4 PassesOwn.never rfl (Zbe (Zo Zf8 (hr.mono (by lia)) Zxz (Zb (qvN 3 Zg7) Zc))) (Wq (i:=5) Zau.nd Zg6)
 (Ze (Zp (Zl Yi (qvN 5 Zg6) Zh (Zn _)) (Ze (Zes (Wn F.plainAttrs_list F.slot_list_append F.type_list_append Zdr (qvN 4 Zav) (Zb (Zy Yc (qvN 1 Zde) (Zo Z4 (hr.mono (by lia)) Zny (Zb (qvN 0 Zbx) (Zb (Zw Wt Zx1 T.len Yh (Zb (qvN 1 Zde) Zc)) Zc))) (fun _ _=>rfl)) Zc)))) (Ze (Zp (Zl Yi (qvN 5 Zg6) Zh (Zn _)) (Ze (Zes (Wn F.plainAttrs_list F.slot_list_append F.type_list_append Zdr (qvN 4 Zav) (Zb (Zo Zx4 (hr.mono (by lia)) Zx0 (Zb (qvN 0 Zbx) Zc)) Zc)))) (Ze (Zm (i:=4) Zau.nd Zav (Zj Wr (qvN 4 Zav) (Ys (Zb (Zo Zl6 (hr.mono (by lia)) Znz (Zb (qvN 0 Zbx) (Zb (qvN 1 Zde) Zc))) (Zb (Zo Zl6 (hr.mono (by lia)) Znz (Zb (qvN 0 Zbx) (Zb (qvN 1 Zde) Zc))) Zc)))))))))))
 (Ze (Zi (Vz Zb3 Zx2 T.tuple U7 (Zb (qvN 4 Zav) Zc)))))))),?_⟩
  have hz:(5000:Nat)<=sizeLine:=by decide
  refine ⟨by show 10<=sizeLine; lia,fun wl hwl=>?_⟩
  have S1:=Same.new (o:=.lst ((fm10.map (·.1)).map V.str)) hwl
  have k1:(upd H wl (.lst ((fm10.map (·.1)).map V.str))) wl=some (.lst ((fm10.map (·.1)).map V.str)):=Zg
  refine Zv ?_
  dsimp only [Zk]
  have nw:wl≠s:=(hs.ne hwl).1
  refine ⟨_,rfl,_,rfl,s,la,10,rfl,hs.keep S1,by decide,by decide,fun d H2 d0 d1 hs2 sx2=>?_⟩
  obtain ⟨q,hq,eq⟩:=Zxy d0 d1
  refine ⟨wl,_,d,.str q.1,rfl,rfl,SqL.of (sx2 _ _ nw k1),eq,?_⟩
  have sxA:=S1.x.trans sx2
  obtain ⟨hw,hf6,hsh⟩:=Zei q hq
  refine Zv ?_
  dsimp only [Zk]
  refine ⟨_,rfl,by show 1<=sizeLine; lia,fun lp hlp=>?_⟩
  have S3:=Same.new (o:=.lst [.str q.1]) hlp
  have k3:(upd H2 lp (.lst [.str q.1])) lp=some (.lst [.str q.1]):=Zg
  have flp:=Zkw hs2 sxA hlp
  generalize (upd H2 lp (.lst [.str q.1]))=H3 at S3 k3 ⊢
  have hs3:=hs2.keep S3
  have sx3:=sxA.trans S3.x
  refine Zv ?_
  dsimp only [Zk]
  refine ⟨_,rfl,q.1,q.2,rfl,hq,fun H4 s4=>?_⟩
  refine ⟨q.2,rfl,?_⟩
  have no43:∀ i,i < q.2.length->43∉(cs q.2).take i:=fun i hi hm=>by
   obtain ⟨m,hm1,hm2⟩:=List.getElem_of_mem hm
   rw [List.length_take] at hm1
   have hml:m < q.2.length:=by lia
   have e1:=Wm hml
   have e2:(cs q.2)[m]? = some 43:=by rw [← hm2,List.getElem_take]; exact List.getElem?_eq_getElem _
   rw [e1] at e2
   have e3:=Option.some.inj e2
   rcases hsh m hml with (z | z) | ⟨_,z⟩ <;> lia
  refine Zed (fun i σ H'=>∃ (v5:Option V) (lp:Addr) (ps:List Pt) (rw:Option (List Str×List Str)) (ra rb:Addr),σ = [some (.ref s),some (.ref na),some (.ref wl),some (.str q.1),some (.ref lp),v5]/\Prts H' names q.1 q.2 i lp ps rw ra rb/\ps.length<=i/\H lp=none/\SrcAt H' s la/\SameX s H H')
   ⟨none,lp,[],none,0,0,rfl,⟨s4 _ _ k3,(fun p hp=>nomatch hp),rfl,.inl ⟨(fun z=>nomatch z),rfl⟩,trivial,trivial⟩,Nat.le_refl _,flp,hs3.keep s4,sx3.trans s4.x⟩ ?_ ?_
  ·rintro i σ H' hi ⟨v5,lp,ps,rw',ra,rb,rfl,pr,hpl,flp,hs',sx'⟩
   have hn43:=no43 i hi
   have erw:rw'=none:=by
    rcases pr.tl with ⟨_,z⟩ | ⟨z,_⟩
    ·exact z
    ·exact absurd z hn43
   subst erw
   have hlst:H' lp=some (.lst (.str q.1::ps.map ptV)):=by have:=pr.lst; rw [show ps.map ptV++Y3 none ra rb=ps.map ptV from List.append_nil _] at this; exact this
   have hna':=sx' _ _ nns hna
   have nlps:lp≠s:=fun z=>by subst z; obtain ⟨_,_,_,_,_,hsl,_⟩:=hs; rw [hsl] at flp; cases flp
   have etk:(cs q.2).take (i+1)=(cs q.2).take i ++ [q.2.cps.getD i 0]:=by rw [List.take_add_one,Wm hi]; rfl
   have upx:∀ {H5:Hp}{o:HO},SameX s H H5->SameX s H (upd H5 lp o):=fun h b o nb e=>by rw [Zt (fun z=>by rw [z,flp] at e; cases e)]; exact h b o nb e
   have ups:∀ {H5:Hp}{xs ys:List V},SrcAt H5 s la->H5 lp=some (.lst (.str q.1::xs))->SrcAt (upd H5 lp (.lst ys)) s la:=fun h e=>by
    obtain ⟨ns,i,big,st,cnt,h1,h2,h3,h4⟩:=id h
    exact h.keepX SameX.upd nlps (fun z=>by rw [z,h2] at e; cases ns with | nil=>cases e | cons a r=>cases e)
   rw [show sgn q.2 i=V.str ⟨#[q.2.cps.getD i 0]⟩ from rfl]
   rcases hsh i hi with (ec | ec) | ⟨ec,ei⟩
   ·rw [ec] at etk
    rw [ec]
    refine ⟨_,rfl,rfl,_,rfl,Zq (fun _=>?_) (fun z=>absurd (by decide +kernel) z)⟩
    refine ⟨_,rfl,.inl ⟨rfl,_,SqL.of hlst⟩,_,rfl,_,rfl,_,rfl,na,_,rfl,.inl (SqL.of hna'),s,la,_,rfl,hs',by rw [List.length_map]; lia,by rw [List.length_map]; lia,fun d5 H5 e50 e51 hs5 sx5=>?_⟩
    rw [List.length_map] at e51
    obtain ⟨j,rfl⟩:=Int.eq_ofNat_of_zero_le e50
    have hj:j < names.length:=by lia
    have hl5:=sx5 _ _ nlps hlst
    refine ⟨na,_,(j:Int),.str names[j],rfl,rfl,SqL.of (sx5 _ _ nns hna'),Yz (by rw [List.getElem?_map,List.getElem?_eq_getElem hj]; rfl),lp,_,_,rfl,rfl,hl5,by rw [List.length_cons,List.length_map]; lia,?_⟩
    refine ⟨_,lp,ps ++ [.nm names[j]],none,0,0,rfl,⟨?_,fun p hp=>?_,?_,.inl ⟨?_,rfl⟩,trivial,trivial⟩,by rw [List.length_append,List.length_singleton]; lia,flp,ups hs5 hl5,upx (sx'.trans sx5)⟩
    ·rw [Zg,List.map_append]
     show some (HO.lst (V.str q.1::ps.map ptV ++ [V.str names[j]]))=some (HO.lst (V.str q.1::(ps.map ptV ++ [V.str names[j]] ++ [])))
     rw [List.append_nil]
     rfl
    ·rcases List.mem_append.mp hp with y | y
     ·exact pr.ok p y
     ·rw [List.mem_singleton.mp y]; exact hnm _ (List.getElem_mem hj)
    ·rw [etk,Zel,List.map_append,pr.kd]
     rfl
    ·rw [etk]
     intro z
     rcases List.mem_append.mp z with y | y
     ·exact hn43 y
     ·exact absurd (List.mem_singleton.mp y) (by decide)
   ·rw [ec] at etk
    rw [ec]
    refine ⟨_,rfl,rfl,_,rfl,Zq (fun z=>absurd z (by decide +kernel)) (fun _=>?_)⟩
    refine ⟨_,rfl,rfl,_,rfl,Zq (fun _=>?_) (fun z=>absurd (by decide +kernel) z)⟩
    refine ⟨_,rfl,.inl ⟨rfl,_,SqL.of hlst⟩,_,rfl,s,la,rfl,hs',fun v H5 hv hs5 sx5=>?_⟩
    have hl5:=sx5 _ _ nlps hlst
    refine ⟨lp,_,_,rfl,rfl,hl5,by rw [List.length_cons,List.length_map]; lia,?_⟩
    refine ⟨_,lp,ps ++ [.no v],none,0,0,rfl,⟨?_,fun p hp=>?_,?_,.inl ⟨?_,rfl⟩,trivial,trivial⟩,by rw [List.length_append,List.length_singleton]; lia,flp,ups hs5 hl5,upx (sx'.trans sx5)⟩
    ·rw [Zg,List.map_append]
     show some (HO.lst (V.str q.1::ps.map ptV ++ [V.int v]))=some (HO.lst (V.str q.1::(ps.map ptV ++ [V.int v] ++ [])))
     rw [List.append_nil]
     rfl
    ·rcases List.mem_append.mp hp with y | y
     ·exact pr.ok p y
     ·rw [List.mem_singleton.mp y]; exact hv
    ·rw [etk,Zel,List.map_append,pr.kd]
     rfl
    ·rw [etk]
     intro z
     rcases List.mem_append.mp z with y | y
     ·exact hn43 y
     ·exact absurd (List.mem_singleton.mp y) (by decide)
   ·rw [ec] at etk
    rw [ec]
    refine ⟨_,rfl,rfl,_,rfl,Zq (fun z=>absurd z (by decide +kernel)) (fun _=>?_)⟩
    refine ⟨_,rfl,rfl,_,rfl,Zq (fun z=>absurd z (by decide +kernel)) (fun _=>?_)⟩
    refine ⟨_,rfl,_,rfl,_,rfl,s,la,na,names,rfl,hs',hna',nns,l0,l1,fun ra xa H5 hxa lxa fra kra hs5 sx5=>?_⟩
    have hna5:=sx5 _ _ nns hna'
    refine ⟨_,rfl,_,rfl,s,la,na,names,rfl,hs5,hna5,nns,l0,l1,fun rb xb H6 hxb lxb frb krb hs6 sx6=>?_⟩
    have nra:ra≠s:=(hs'.ne fra).1
    have kra6:=sx6 _ _ nra kra
    have nab:ra≠rb:=fun z=>by rw [z] at kra; rw [kra] at frb; cases frb
    have hl6:=sx6 _ _ nlps (sx5 _ _ nlps hlst)
    refine ⟨by show 2<=sizeLine; lia,fun l7 hl7=>?_⟩
    have S7:=Same.new (o:=.lst [.ref ra,.ref rb]) hl7
    have k7:(upd H6 l7 (.lst [.ref ra,.ref rb])) l7=some (.lst [.ref ra,.ref rb]):=Zg
    generalize (upd H6 l7 (.lst [.ref ra,.ref rb]))=H7 at S7 k7 ⊢
    refine ⟨lp,l7,_,_,rfl,rfl,S7 _ _ hl6,k7,by rw [List.length_cons,List.length_map]; show ps.length+1+2<=sizeLine; lia,fun l8 hl8=>?_⟩
    have S8:=Same.new (o:=.lst ((V.str q.1::ps.map ptV) ++ [.ref ra,.ref rb])) hl8
    have k8:(upd H7 l8 (.lst ((V.str q.1::ps.map ptV) ++ [.ref ra,.ref rb]))) l8=some (.lst ((V.str q.1::ps.map ptV) ++ [.ref ra,.ref rb])):=Zg
    generalize (upd H7 l8 (.lst ((V.str q.1::ps.map ptV) ++ [.ref ra,.ref rb])))=H8 at S8 k8 ⊢
    have S68:=S7.trans S8
    have sx8:=((sx'.trans sx5).trans sx6).trans S7.x
    refine ⟨_,l8,ps,some (xa,xb),ra,rb,rfl,⟨k8,pr.ok,?_,.inr ⟨?_,(fun z=>nomatch z)⟩,⟨S68 _ _ kra6,S68 _ _ krb,nab⟩,⟨⟨fun y hy=>hnm y (hxa y hy),lxa⟩,⟨fun y hy=>hnm y (hxb y hy),lxb⟩⟩⟩,by lia,Zkw (hs6.keep S7) sx8 hl8,hs6.keep S68,sx8.trans S8.x⟩
    ·rw [etk,Zel,if_pos rfl,List.append_nil]; exact pr.kd
    ·rw [etk]; exact List.mem_append_right _ (List.mem_singleton.mpr rfl)
  ·rintro σ H' ⟨v5,lp,ps,rw',ra,rb,rfl,pr,hpl,flp,hs',sx'⟩
   have hfl:(cs q.2).take q.2.length=cs q.2:=by rw [← Zu,List.take_length]
   obtain ⟨h1,h2,h3,h4,h5,h6⟩:=pr
   rw [hfl] at h3 h4
   refine ⟨_,rfl,lp,_,rfl,.inl ⟨SqL.of h1,fun p hp=>?_⟩⟩
   have S:=Same.new (o:=.tup (.str q.1::(ps.map ptV++Y3 rw' ra rb))) hp
   have kp:(upd H' p (.tup (.str q.1::(ps.map ptV++Y3 rw' ra rb)))) p=some (.tup (.str q.1::(ps.map ptV++Y3 rw' ra rb))):=Zg
   generalize (upd H' p (.tup (.str q.1::(ps.map ptV++Y3 rw' ra rb))))=H5 at S kp ⊢
   refine k ⟨q.1,ps,rw'⟩ p ra rb H5 ⟨hw,h2,(by show ps.length<=10; lia),h6,?_⟩ ⟨kp,?_⟩ (hs'.keep S) (sx'.trans S.x)
   ·have ek:(ps.map fun p=>V.str (ptK p))=(Zz (cs q.2)).map V.str:=by rw [← h3,List.map_map]; rfl
    show (rw'=none/\∃ t,Yq kP q.1=some t/\Yq kS q.1=none/\∀ H,SqT K H t (ps.map fun p=>V.str (ptK p)))\/(rw'≠none/\Yq kP q.1=none/\∃ t,Yq kS q.1=some t/\∀ H,SqT K H t (ps.map fun p=>V.str (ptK p)))
    rw [ek]
    rcases fms q hq with ⟨z,hh⟩ | ⟨z,hh⟩
    ·rcases h4 with ⟨_,y⟩ | ⟨y,_⟩
     ·exact .inl ⟨y,hh⟩
     ·exact absurd y z
    ·rcases h4 with ⟨y,_⟩ | ⟨_,y⟩
     ·exact absurd z y
     ·exact .inr ⟨y,hh⟩
   ·cases rw' with
    | none=>trivial
    | some ab=>exact ⟨S _ _ h5.1,S _ _ h5.2.1,h5.2.2⟩
end
section
variable {P:Program}{w:World}{K:PySem.W.Frag}{mg:Str->Option Value}{base:Heap}{kP kS:List (Str×Tok×Addr)}
theorem Zd6 {ws:List Str}(h:ws ≠ []) (x:Str):Str.join " " (ws ++ [x])=Str.join " " ws ++ " " ++ x:=by
 apply Zad
 rw [Uo,Y6,Y6,Uo]
 have e1:cs (" " : Str) = [32]:=by decide +kernel
 rw [e1]
 have:∀ as:List (List Nat),as ≠ []->jn (as ++ [cs x])=jn as ++ [32]++cs x:=by
  intro as
  induction as with
  | nil=>intro h; exact absurd rfl h
  | cons a r ih =>
   intro _
   cases r with
   | nil=>show a++32::cs x=a ++ [32]++cs x; rw [List.append_assoc]; rfl
   | cons b r =>
    show a++32::jn ((b::r) ++ [cs x])=(a++32::jn (b::r)) ++ [32]++cs x
    rw [ih (by simp),List.append_assoc,List.append_assoc,List.append_assoc]
    rfl
 rw [List.map_append]
 exact this _ (by intro z; exact h (List.map_eq_nil_iff.mp z))
theorem Zh6:∀ ws:List Str,(∀ x∈ws,x.length<=12)->(Str.join " " ws).length<=13 * ws.length
 | [],_=>by decide
 | [x],h=>by have:=h x List.mem_cons_self; show x.length<=13 * 1; lia
 | x::y::r,h=>by
  have h1:=h x List.mem_cons_self
  have h2:=Zh6 (y::r) fun z hz=>h z (List.mem_cons_of_mem _ hz)
  show (x ++ " " ++ Str.join " " (y::r)).length<=_
  rw [PySem.Str.length_append,PySem.Str.length_append,List.length_cons]
  have e:(" " : Str).length=1:=by decide +kernel
  lia
theorem Zkx {p:Pt}(h:Vd p):(ptS p).length<=12:=by
 cases p with
 | nm x=>exact h.2.2
 | no i=>have:=(Zai h).l9; show (num i).length<=12; lia
theorem Zrp {d:Dd}(h:DdOk K kP kS d):(∀ x∈toks d,x.length<=12)/\(toks d).length<=43:=by
 have hl:=h.len
 refine ⟨fun x hx=>?_,?_⟩
 ·rcases List.mem_cons.mp hx with rfl | hx
  ·have:=h.word.2.2; lia
  rcases List.mem_append.mp hx with hx | hx
  ·obtain ⟨p,hp,rfl⟩:=List.mem_map.mp hx
   exact Zkx (h.ps p hp)
  ·have hr:=h.rows
   cases e:d.rows with
   | none=>rw [e] at hx; cases hx
   | some ab =>
    obtain ⟨a,b⟩:=ab
    rw [e] at hx hr
    rcases List.mem_cons.mp hx with rfl | hx
    ·decide +kernel
    rcases List.mem_append.mp hx with hx | hx
    ·exact (hr.1.1 x hx).2.2
    rcases List.mem_cons.mp hx with rfl | hx
    ·decide +kernel
    ·exact (hr.2.1 x hx).2.2
 ·have hr:=h.rows
  unfold toks
  rw [List.length_cons,List.length_append,List.length_map]
  cases e:d.rows with
  | none=>show d.ps.length+0+1<=43; lia
  | some ab =>
   obtain ⟨a,b⟩:=ab
   rw [e] at hr
   have:=hr.1.2
   have:=hr.2.2
   show d.ps.length+(("+" : Str)::(a++("-" : Str)::b)).length+1<=43
   rw [List.length_cons,List.length_append,List.length_cons]
   lia
theorem Zd7 (d:Dd):text d=Str.join " " (toks d):=StrLaws.glued_eq_join " " (toks d)
end
section
variable {P:Program}{w:World}{K:PySem.W.Frag}{mg:Str->Option Value}{base:Heap}{kP kS:List (Str×Tok×Addr)}
theorem Zcm {H:Hp}:∀ ns:List Str,RepL H (ns.map D.str) (ns.map V.str)
 | []=>rfl
 | n::ns=>⟨.str n,ns.map V.str,rfl,rfl,Zcm ns⟩
def ptD:Pt->D
 | .nm x=>.str x
 | .no i=>.int i
theorem Zky {H:Hp}(p:Pt):Rep H (ptD p) (ptV p):=by cases p <;> rfl
theorem Zo8 (p:Pt):isI (ptD p) "list" = false:=by cases p <;> rfl
def Zf9:Option (List Str×List Str)->List (List Str)
 | none=>[]
 | some (a,b)=>[("+" : Str)::a,("-" : Str)::b]
def pcs (d:Dd):List (List Str):=d.ps.map (fun p=>[ptS p])++Zf9 d.rows
theorem Zj0 (d:Dd):d.w::(pcs d).flatten=toks d:=by
 unfold pcs toks
 rw [List.flatten_append]
 have e1:(d.ps.map fun p=>[ptS p]).flatten=d.ps.map ptS:=by
  induction d.ps with
  | nil=>rfl
  | cons p r ih=>rw [List.map_cons,List.flatten_cons,ih]; rfl
 rw [e1]
 cases d.rows with
 | none=>rfl
 | some ab=>obtain ⟨a,b⟩:=ab; simp [Zf9,Zbm]
theorem Zrq (x:Str):x ++ " +" = x ++ " " ++ "+" := by
 apply Zad
 rw [Y6,Y6,Y6,List.append_assoc]
 have:cs (" +" : Str)=cs (" " : Str)++cs ("+" : Str):=by decide +kernel
 rw [this]
theorem Zp6 (x:Str):x ++ " -" = x ++ " " ++ "-" := by
 apply Zad
 rw [Y6,Y6,Y6,List.append_assoc]
 have:cs (" -" : Str)=cs (" " : Str)++cs ("-" : Str):=by decide +kernel
 rw [this]
theorem Zba {d:Dd}(h:DdOk K kP kS d) {ws:List Str}(hp:ws <+: toks d):(Str.join " " ws).length<=600:=by
 obtain ⟨r,e⟩:=hp
 obtain ⟨h1,h2⟩:=Zrp h
 have h3:=Zh6 ws fun x hx=>h1 x (by rw [← e]; exact List.mem_append_left _ hx)
 have h4:ws.length<=(toks d).length:=by rw [← e,List.length_append]; lia
 lia
theorem Ze2 (d:Dd) (i:Nat):d.w::((pcs d).take i).flatten <+: toks d:=by
 refine ⟨((pcs d).drop i).flatten,?_⟩
 rw [List.cons_append,← List.flatten_append,List.take_append_drop,Zj0]
def Zi3 (K:PySem.W.Frag) (kP kS:List (Str×Tok×Addr)):Sp:=fun vs H Q _=>∃ (d:Dd) (p ra rb:Addr),vs = [.ref p]/\DdAt H d p ra rb/\DdOk K kP kS d/\∀ H',Same H H'->Q (.str (text d)) H'
abbrev Wy:Stmt:=top 29
theorem Vt:FnScope ["_law_deed", "_law_text", "_law_sign", "_law_part", "_law_name"] ["_law_deed"] (Za Wy):=⟨rfl,rfl,rfl,by decide +kernel,rfl,by decide +kernel,by decide +kernel⟩
theorem Zl7:Nm (Za Wy) "_law_deed" .local:=by decide +kernel
theorem Zl8:Nm (Za Wy) "_law_name" .local:=by decide +kernel
theorem Zdf:Nm (Za Wy) "_law_part" .local:=by decide +kernel
theorem Zg8:Nm (Za Wy) "_law_sign" .local:=by decide +kernel
theorem V5:Nm (Za Wy) "_law_text" .local:=by decide +kernel
theorem Zx5:Nm (Za Wy) "isinstance" .globalImplicit:=by decide +kernel
theorem Zx6:Nm (Za Wy) "list" .globalImplicit:=by decide +kernel
theorem Zx7:Nm (Za Wy) "str" .globalImplicit:=by decide +kernel
theorem Zx8 (Zga:Has K mg "_law_shown" Wy) (T:Txt mg):Fn P w K mg base "_law_shown" ["_law_deed"] 1 (Zi3 K kP kS):=by
 refine Zga.fnQ Vt (fun _ _ _ _ _ _ us hl=>match us,hl with | [_],_=>rfl) (fun vs H Q E h=>?_) (fun f cdv A outer s H vs Q E hr h=>?_)
 ·obtain ⟨d,p,ra,rb,rfl,_⟩:=h
  rfl
 ·obtain ⟨d,p,ra,rb,rfl,⟨hp,htl⟩,ok,k⟩:=h
  refine ⟨_,(Zf (Zm (i:=1) Vt.nd V5 (Zy Zvu (qvN 0 Zl7) Zd (fun _ _=>rfl)))
 (Zf (Zm (i:=2) Vt.nd Zg8 Zh)
 (Zf (W4 PassesOwn.never rfl (Zun (Z7 Zsq (qvN 0 Zl7) (Z3 Zd) Yb)) (Wq (i:=3) Vt.nd Zdf)
 (Ze (Zp (Vh (Zw Wl Zx5 T.isinstance Wc (Zb (qvN 3 Zdf) (Zb (Wh (v:=.ty "list") Zx6 T.list Zcq rfl) Zc)))) (Zf (Zm (i:=1) Vt.nd V5 (Zj Wd (qvN 1 V5) (qvN 2 Zg8)))
 (Zf (Zm (i:=2) Vt.nd Zg8 Zh)
 (Ze (W4 PassesOwn.never rfl (Zci (qvN 3 Zdf)) (Wq (i:=4) Vt.nd Zl8)
 (Ze (Zm (i:=1) Vt.nd V5 (Zj Wd (Zj Wd (qvN 1 V5) Zh) (qvN 4 Zl8)))))))) (Ze (Zm (i:=1) Vt.nd V5 (Zj Wd (Zj Wd (qvN 1 V5) Zh) (Vz Zpy Zx7 T.str Zfk (Zb (qvN 3 Zdf) Zc))))))))
 (Ze (Zi (qvN 1 V5)))))),?_⟩
  have hZ:(5000:Nat)<=sizeLine:=by decide
  have hps:=ok.len
  refine ⟨_,rfl,p,_,0,.str d.w,rfl,rfl,SqT.of hp,Yz (j:=0) rfl,?_⟩
  refine Zv ?_
  dsimp only [Zk]
  refine Zv ?_
  dsimp only [Zk]
  refine ⟨_,rfl,_,rfl,p,_,rfl,SqT.of hp,(fun z=>by have:=z.1; rw [show (1:Int)=((1:Nat):Int) from rfl,HT.sIx_nat,List.length_cons] at this; lia),fun q hq=>?_⟩
  have ec:Z1 (V.str d.w::(d.ps.map ptV++Y3 d.rows ra rb)) (some 1) none=d.ps.map ptV++Y3 d.rows ra rb:=Za8 _ 1 (by rw [List.length_cons]; lia)
  rw [ec]
  have Sq:=Same.new (o:=.tup (d.ps.map ptV++Y3 d.rows ra rb)) hq
  have kq:(upd H q (.tup (d.ps.map ptV++Y3 d.rows ra rb))) q=some (.tup (d.ps.map ptV++Y3 d.rows ra rb)):=Zg
  generalize (upd H q (.tup (d.ps.map ptV++Y3 d.rows ra rb)))=H1 at Sq kq ⊢
  refine ⟨q,rfl,⟨_,SqT.of kq⟩,?_⟩
  refine Zqy (d.ps.map ptV++Y3 d.rows ra rb) (fun i σ H'=>∃ (v3 v4:Option V),σ = [some (.ref p),some (.str (Str.join " " (d.w::((pcs d).take i).flatten))),some (.str (if i<=d.ps.length then " +" else " -")),v3,v4]/\Same H1 H') ⟨none,none,rfl,Same.refl _⟩ (fun i σ H' _ ⟨_,_,_,e⟩=>SqT.of (e _ _ kq)) ?_ ?_
  ·rintro i v σ H' hv ⟨v3,v4,rfl,sm⟩
   have s1:(" " : Str).length=1:=by decide +kernel
   have nx:∀ {c:List Str},(pcs d)[i]? = some c->((pcs d).take (i+1)).flatten=((pcs d).take i).flatten++c:=fun {c} h=>by rw [List.take_add_one,h,List.flatten_append]; simp
   have b0:=Zba ok (Ze2 d i)
   have b1:=Zba ok (Ze2 d (i+1))
   by_cases hi:i < d.ps.length
   ·rw [List.getElem?_append_left (by rw [List.length_map]; exact hi),List.getElem?_map] at hv
    obtain ⟨pt,hpt,rfl⟩:=Option.map_eq_some_iff.mp hv
    have hc:(pcs d)[i]? = some [ptS pt]:=by unfold pcs; rw [List.getElem?_append_left (by rw [List.length_map]; exact hi),List.getElem?_map,hpt]; rfl
    have e:=nx hc
    have ej:Str.join " " (d.w::((pcs d).take (i+1)).flatten)=Str.join " " (d.w::((pcs d).take i).flatten) ++ " " ++ ptS pt:=by rw [e,← List.cons_append]; exact Zd6 (by simp) _
    obtain ⟨t1,ty1,e1⟩:=isi (K:=K) (Zky (H:=H') pt) "list" (by decide)
    rw [Zo8] at e1
    refine ⟨_,rfl,ptV pt, "list", t1,_,rfl,ty1,e1,_,rfl,Zr ?_⟩
    rw [ej] at b1
    rw [PySem.Str.length_append,PySem.Str.length_append] at b1
    have hs:=Zkx (ok.ps pt (List.mem_of_getElem? hpt))
    have i1:i<=d.ps.length:=by lia
    have i2:i+1<=d.ps.length:=by lia
    refine ⟨_,rfl,_,_,rfl,rfl,by rw [s1]; lia,_,rfl,?_⟩
    cases pt with
    | nm x =>
     have hs:x.length<=12:=hs
     exact .inl ⟨x,rfl,_,_,rfl,rfl,by rw [PySem.Str.length_append,s1]; lia,some (.str x),v4,by rw [ej,if_pos i1,if_pos i2]; rfl,sm⟩
    | no j =>
     have hs:(num j).length<=12:=hs
     exact .inr ⟨j,rfl,Zp4 (ok.ps _ (List.mem_of_getElem? hpt)),_,_,rfl,rfl,by rw [PySem.Str.length_append,s1]; show _+1+(num j).length<=_; lia,some (.int j),v4,by rw [ej,if_pos i1,if_pos i2]; rfl,sm⟩
   ·rw [List.getElem?_append_right (by rw [List.length_map]; lia),List.length_map] at hv
    obtain ⟨a,b,er⟩:∃ a b,d.rows=some (a,b):=by
     cases e:d.rows with
     | none=>rw [e] at hv; cases hv
     | some ab=>exact ⟨ab.1,ab.2,rfl⟩
    rw [er] at htl hv
    obtain ⟨hra,hrb,nab⟩:=htl
    obtain ⟨r,xs,sg,mk,hr,rfl,esg,ems,hc⟩:∃ (r:Addr) (xs:List Str) (sg mk:Str),H r=some (.lst (xs.map V.str))/\v = .ref r/\(if i<=d.ps.length then (" +" : Str) else " -")=sg/\(∀ x:Str,x++sg=x ++ " " ++ mk)/\(pcs d)[i]? = some (mk::xs):=by
     have pc:∀ j,(pcs d)[d.ps.length+j]? = (Zf9 d.rows)[j]?:=fun j=>by unfold pcs; rw [List.getElem?_append_right (by rw [List.length_map]; lia),List.length_map,Nat.add_sub_cancel_left]
     by_cases e0:i=d.ps.length
     ·have:=pc 0
      rw [er] at this
      rw [e0,Nat.sub_self] at hv
      cases hv
      exact ⟨ra,a, " +", "+", hra,rfl,if_pos (by lia),Zrq,by rw [e0]; exact this⟩
     ·by_cases e1:i=d.ps.length+1
      ·have:=pc 1
       rw [er] at this
       rw [e1,Nat.add_sub_cancel_left] at hv
       cases hv
       exact ⟨rb,b, " -", "-", hrb,rfl,if_neg (by lia),Zp6,by rw [e1]; exact this⟩
      ·rw [List.getElem?_eq_none (by show 2<=i - d.ps.length; lia)] at hv; cases hv
    have e:=nx hc
    obtain ⟨t1,ty1,e1⟩:=isi (K:=K) (d:=.lst (xs.map D.str)) (v:=.ref r) (H:=H') ⟨r,_,rfl,sm _ _ (Sq _ _ hr),Zcm _⟩ "list" (by decide)
    rw [show isI (D.lst (xs.map D.str)) "list" = true from rfl] at e1
    refine ⟨_,rfl,.ref r, "list", t1,_,rfl,ty1,e1,_,rfl,Z2 ?_⟩
    rw [esg]
    have ej0:Str.join " " (d.w::((pcs d).take i).flatten)++sg=Str.join " " ((d.w::((pcs d).take i).flatten) ++ [mk]):=by rw [ems]; exact (Zd6 (by simp) _).symm
    have pf:∀ j,(d.w::((pcs d).take i).flatten)++(mk::xs.take j) <+: toks d:=fun j=>by
     refine List.IsPrefix.trans ?_ (Ze2 d (i+1))
     rw [e,← List.cons_append]
     refine ⟨xs.drop j,?_⟩
     rw [List.append_assoc,show (mk::xs.take j)++xs.drop j=mk::(xs.take j++xs.drop j) from rfl,List.take_append_drop]
    have sgl:sg.length<=2:=by rw [← esg]; split <;> decide +kernel
    refine ⟨_,rfl,_,rfl,_,_,rfl,rfl,by lia,?_⟩
    rw [ej0]
    refine Zv ?_
    dsimp only [Zk]
    refine Zv ?_
    dsimp only [Zk]
    have hr':=sm _ _ (Sq _ _ hr)
    refine ⟨_,rfl,r,rfl,⟨_,SqL.of hr'⟩,?_⟩
    refine Zpq (xs.map V.str) (fun j σ H2=>∃ (v4:Option V),σ = [some (.ref p),some (.str (Str.join " " ((d.w::((pcs d).take i).flatten)++(mk::xs.take j)))),some (.str " -"),some (.ref r),v4]/\Same H1 H2) ⟨v4,rfl,sm⟩ (fun j σ H2 _ ⟨_,_,s2⟩=>SqL.of (s2 _ _ (Sq _ _ hr))) ?_ ?_
    ·rintro j y σ H2 hy ⟨w4,rfl,s2⟩
     rw [List.getElem?_map] at hy
     obtain ⟨x,hx,rfl⟩:=Option.map_eq_some_iff.mp hy
     have bj:=Zba ok (pf j)
     have bj1:=Zba ok (pf (j+1))
     have ej:Str.join " " ((d.w::((pcs d).take i).flatten)++(mk::xs.take (j+1)))=Str.join " " ((d.w::((pcs d).take i).flatten)++(mk::xs.take j)) ++ " " ++ x:=by
      rw [List.take_add_one,hx,show mk::(xs.take j++(some x).toList)=(mk::xs.take j) ++ [x] from rfl,← List.append_assoc]
      exact Zd6 (by simp) _
     have bx:=bj1
     rw [ej,PySem.Str.length_append,PySem.Str.length_append] at bx
     refine ⟨_,rfl,_,_,rfl,rfl,by rw [s1]; lia,_,rfl,_,_,rfl,rfl,by rw [PySem.Str.length_append,s1]; lia,some (.str x),by rw [ej]; rfl,s2⟩
    ·rintro σ H2 ⟨w4,rfl,s2⟩
     refine ⟨some (.ref r),w4,?_,s2⟩
     rw [List.length_map,List.take_length,e,← List.cons_append,if_neg (by lia)]
  ·rintro σ H' ⟨v3,v4,rfl,sm⟩
   have el:(d.ps.map ptV++Y3 d.rows ra rb).length=(pcs d).length:=by
    unfold pcs
    rw [List.length_append,List.length_append,List.length_map,List.length_map]
    cases d.rows <;> rfl
   rw [el,List.take_length,Zj0,← Zd7]
   exact ⟨_,rfl,k _ (Sq.trans sm)⟩
end
section
variable {P:Program}{w:World}{K:PySem.W.Frag}{mg:Str->Option Value}{base:Heap}
def nmV (x:Str):V:=if Z5 x=true then .str x else .non
def noV (x:Str):V:=if Z9 x=true then .int ((PySem.intText? x).getD 0) else .non
def ptW (k x:Str):V:=if k = "name" then nmV x else noV x
theorem Zu1 {k x:Str}{p:Pt}(h:Wx k x p):ptW k x=ptV p:=by
 obtain ⟨e,hk,o⟩:=h
 unfold ptW
 cases p with
 | nm y =>
  have e:y=x:=e
  have hk:("name" : Str)=k:=hk
  subst e hk
  rw [if_pos rfl,nmV,if_pos (Zdt o)]
  rfl
 | no i =>
  have e:num i=x:=e
  have hk:("number" : Str)=k:=hk
  subst e hk
  rw [if_neg (by decide +kernel),noV,if_pos (Zd5 (Zai o)),U5 o]
  rfl
theorem Zu2 {k x:Str}(hk:k = "name" \/ k = "number") (h:∀ p,¬ Wx k x p):ptW k x = .non:=by
 unfold ptW
 rcases hk with rfl | rfl
 ·rw [if_pos rfl,nmV]
  cases hb:Z5 x with
  | true=>exact absurd (pt_name.1 hb) (h _)
  | false=>rfl
 ·rw [if_neg (by decide +kernel),noV]
  cases hb:Z9 x with
  | true=>obtain ⟨i,_,_,hp⟩:=pt_num.1 hb; exact absurd hp (h _)
  | false=>rfl
theorem Zu3 {H:Hp}(k x:Str):Ut H (ptW k x):=by
 unfold ptW nmV noV
 split
 ·split
  ·exact .inr (.inl ⟨_,rfl⟩)
  ·exact .inl rfl
 ·split
  ·exact .inr (.inr (.inl ⟨_,rfl⟩))
  ·exact .inl rfl
theorem Zip (x:Str):(V.str x=V.str "")↔x.length=0:=by
 constructor
 ·intro e
  have e:x = "" := by injection e
  rw [e]; decide +kernel
 ·intro h
  have:x = "" := Zad (by
   have h1:(cs x).length=0:=by rw [Zu]; exact h
   rw [List.eq_nil_of_length_eq_zero h1]; decide +kernel)
  rw [this]
theorem Zcy {p:Nat->Bool}{x:Str}{i:Nat}(hi:i < x.length) (h:p (x.cps.getD i 0)=false):(cs x).all p=false:=by
 rw [List.all_eq_false]
 exact ⟨_,List.mem_of_getElem? (Wm hi),by rw [h]; decide⟩
theorem Zi4 {p:Nat->Bool}{x:Str}{i:Nat}(hi:i < x.length) (h:p (x.cps.getD i 0)=true) (ha:((cs x).take i).all p=true):((cs x).take (i+1)).all p=true:=by
 rw [List.take_add_one,Wm hi,List.all_append,ha]
 show (true && (p _ && true))=true
 rw [h]; rfl
def Zkz:Sp:=fun vs H Q _=>∃ x:Str,vs = [.str x]/\x.length<=100000/\Q (noV x) H
abbrev Uz:Stmt:=top 30
theorem Zl9:FnScope ["_law_word_here", "_law_sign"] ["_law_word_here"] (Za Uz):=⟨rfl,rfl,rfl,by decide +kernel,rfl,by decide +kernel,by decide +kernel⟩
theorem Zg9:Nm (Za Uz) "_law_sign" .local:=by decide +kernel
theorem Zaw:Nm (Za Uz) "_law_word_here" .local:=by decide +kernel
theorem Zx9:Nm (Za Uz) "int" .globalImplicit:=by decide +kernel
theorem Zya:Nm (Za Uz) "len" .globalImplicit:=by decide +kernel
theorem Zyb (Zgb:Has K mg "_law_read_number" Uz) (T:Txt mg):Fn P w K mg base "_law_read_number" ["_law_word_here"] 1 Zkz:=by
 refine Zgb.fnQ Zl9 (fun _ _ _ _ _ _ us hl=>match us,hl with | [_],_=>rfl) (fun vs H Q E h=>?_) (fun f cdv A outer s H vs Q E hr h=>?_)
 ·obtain ⟨x,rfl,_⟩:=h
  rfl
 ·obtain ⟨x,rfl,hx,k⟩:=h
  refine ⟨_,(Zf (Zp (QW.pt (Vg (Zl Yi (qvN 0 Zaw) Zh (Zn _)) (Vg (Zl Zcs (Zw Wu Zya T.len Yh (Zb (qvN 0 Zaw) Zc)) Zd (Zn _)) (Ug (QW.pt (Zaf (Zl Yi (Zy Uj (qvN 0 Zaw) Zd (fun _ _=>rfl)) Zh (Zn _)) (U8 (Zl Vx (qvN 0 Zaw) Zh (Zn _))))))))) (Ze (Zi Yo)) Zs)
 (Zf (W4 PassesOwn.never rfl (Zbe (qvN 0 Zaw)) (Wq (i:=1) Zl9.nd Zg9)
 (Ze (Zp (Zae (QW.pt (Zaf (Zl V0 Zh (qvN 1 Zg9) (Zn _)) (U8 (Zl V0 (qvN 1 Zg9) Zh (Zn _)))))) (Ze (Zi Yo)) Zs)))
 (Ze (Zi (Vz Zh4 Zx9 T.int Zc3 (Zb (qvN 0 Zaw) Zc)))))),?_⟩
  have hz:(100000:Nat)<=sizeLine:=by decide
  have bad:Z9 x=false->Q .non H:=fun e=>by unfold noV at k; rw [e,if_neg Bool.false_ne_true] at k; exact k
  refine Zcj (fun σ H'=>σ = [some (.str x),none]/\H'=H/\1<=x.length/\x.length<=9/\(x = "0" \/ x.cps.getD 0 0≠48)) ?_ (fun D' hn hrt _ _=>?_)
  ·rintro σ H0 ⟨rfl,rfl,hl1,hl9,hzero⟩
   refine ⟨_,rfl,x,rfl,?_⟩
   refine Zed (fun i σ H'=>(∃ v,σ = [some (.str x),v])/\H'=H0/\((cs x).take i).all okd=true) ⟨⟨none,rfl⟩,rfl,rfl⟩ ?_ ?_
   ·rintro i σ H' hi ⟨⟨v,rfl⟩,rfl,ha⟩
    refine ⟨_,rfl,_,_,rfl,rfl,_,rfl,?_⟩
    rw [le0]
    refine Zq (fun h3=>?_) (fun h3=>?_)
    ·refine ⟨_,rfl,_,_,rfl,rfl,_,rfl,?_⟩
     rw [le9]
     refine Yr (fun h4=>?_) (fun h4=>?_)
     ·exact bad (by unfold Z9; rw [Zcy hi (by unfold okd; rw [decide_eq_false h4,Bool.and_false]),Bool.and_false,Bool.false_and])
     ·exact ⟨⟨_,rfl⟩,rfl,Zi4 hi (by unfold okd; rw [decide_eq_true h3,decide_eq_true h4]; rfl) ha⟩
    ·refine Z2 ?_
     exact bad (by unfold Z9; rw [Zcy hi (by unfold okd; rw [decide_eq_false h3,Bool.false_and]),Bool.and_false,Bool.false_and])
   ·rintro σ H' ⟨⟨v,rfl⟩,rfl,ha⟩
    rw [← Zu,List.take_length] at ha
    have hok:NumOk x:=⟨by lia,by lia,fun c hc=>by have:=List.all_eq_true.mp ha c hc; simpa [okd] using this,hzero⟩
    obtain ⟨i,hi,rfl⟩:=Zjv hok
    unfold noV at k
    rw [Zd5 hok,if_pos rfl,U5 hi] at k
    exact ⟨_,rfl,num i,i,rfl,U5 hi,by lia,k⟩
  refine ⟨_,rfl,rfl,_,rfl,Zq (fun h0=>?_) (fun h0=>?_)⟩
  ·rw [Zip] at h0
   exact hrt _ _ (bad (by unfold Z9; rw [decide_eq_false (show ¬ 1<=x.length by lia),Bool.false_and,Bool.false_and,Bool.false_and]))
  rw [Zip] at h0
  refine ⟨_,rfl,x,rfl,by lia,_,_,rfl,rfl,_,rfl,Zq (fun h9=>?_) (fun h9=>?_)⟩
  ·exact hrt _ _ (bad (by unfold Z9; rw [decide_eq_false (show ¬ x.length<=9 by lia),Bool.and_false,Bool.false_and,Bool.false_and]))
  have h00:(x.cps.toList)[0]? = some (x.cps.getD 0 0):=Wm (by lia)
  refine ⟨_,rfl,x,0,x.cps.getD 0 0,rfl,rfl,by lia,Yz (j:=0) h00,rfl,_,rfl,?_⟩
  rw [decide_eq_decide.mpr (eq0 x (by lia))]
  refine Zq (fun h5=>?_) (fun h5=>Zr (hn _ _ ⟨rfl,rfl,by lia,by lia,.inr h5⟩))
  refine ⟨_,rfl,rfl,_,rfl,Yr (fun z=>?_) (fun z=>hn _ _ ⟨rfl,rfl,by lia,by lia,.inl (by injection z)⟩)⟩
  exact hrt _ _ (bad (by unfold Z9; rw [decide_eq_false (fun e:x = "0" => z (by rw [e])),decide_eq_true h5]; exact Bool.and_false _))
def Ze3:Sp:=fun vs H Q _=>∃ x:Str,vs = [.str x]/\x.length<=100000/\Q (nmV x) H
abbrev Zax:Stmt:=top 31
theorem Zma:FnScope ["_law_word_here", "_law_sign"] ["_law_word_here"] (Za Zax):=⟨rfl,rfl,rfl,by decide +kernel,rfl,by decide +kernel,by decide +kernel⟩
theorem Zha:Nm (Za Zax) "_law_sign" .local:=by decide +kernel
theorem Zdg:Nm (Za Zax) "_law_word_here" .local:=by decide +kernel
theorem Zmb:Nm (Za Zax) "len" .globalImplicit:=by decide +kernel
theorem Zyc (Zgc:Has K mg "_law_read_name" Zax) (T:Txt mg):Fn P w K mg base "_law_read_name" ["_law_word_here"] 1 Ze3:=by
 refine Zgc.fnQ Zma (fun _ _ _ _ _ _ us hl=>match us,hl with | [_],_=>rfl) (fun vs H Q E h=>?_) (fun f cdv A outer s H vs Q E hr h=>?_)
 ·obtain ⟨x,rfl,_⟩:=h
  rfl
 ·obtain ⟨x,rfl,hx,k⟩:=h
  refine ⟨_,(Zf (W4 PassesOwn.never rfl (Zbe (qvN 0 Zdg)) (Wq (i:=1) Zma.nd Zha)
 (Ze (Zp (Zae (QW.pt (Zaf (Zl V0 Zh (qvN 1 Zha) (Zn _)) (U8 (Zl V0 (qvN 1 Zha) Zh (Zn _)))))) (Ze (Zi Yo)) Zs)))
 (Zf (Zp (QW.pt (Vg (Zl Zcr (Zw Wu Zmb T.len Yh (Zb (qvN 0 Zdg) Zc)) Zd (Zn _)) (Ug (Zl Zcs (Zw Wu Zmb T.len Yh (Zb (qvN 0 Zdg) Zc)) Zd (Zn _))))) (Ze (Zi Yo)) Zs)
 (Ze (Zi (qvN 0 Zdg))))),?_⟩
  have hz:(100000:Nat)<=sizeLine:=by decide
  have bad:Z5 x=false->Q .non H:=fun e=>by unfold nmV at k; rw [e,if_neg Bool.false_ne_true] at k; exact k
  refine ⟨_,rfl,x,rfl,?_⟩
  refine Zed (fun i σ H'=>(∃ v,σ = [some (.str x),v])/\H'=H/\((cs x).take i).all okc=true) ⟨⟨none,rfl⟩,rfl,rfl⟩ ?_ ?_
  ·rintro i σ H' hi ⟨⟨v,rfl⟩,rfl,ha⟩
   refine ⟨_,rfl,_,_,rfl,rfl,_,rfl,?_⟩
   rw [leA]
   refine Zq (fun h3=>?_) (fun h3=>?_)
   ·refine ⟨_,rfl,_,_,rfl,rfl,_,rfl,?_⟩
    rw [leZ]
    refine Yr (fun h4=>?_) (fun h4=>?_)
    ·exact bad (by unfold Z5; rw [Zcy hi (by unfold okc; rw [decide_eq_false h4,Bool.and_false]),Bool.and_false])
    ·exact ⟨⟨_,rfl⟩,rfl,Zi4 hi (by unfold okc; rw [decide_eq_true h3,decide_eq_true h4]; rfl) ha⟩
   ·refine Z2 ?_
    exact bad (by unfold Z5; rw [Zcy hi (by unfold okc; rw [decide_eq_false h3,Bool.false_and]),Bool.and_false])
  ·rintro σ H' ⟨⟨v,rfl⟩,rfl,ha⟩
   rw [← Zu,List.take_length] at ha
   refine ⟨_,rfl,x,rfl,by lia,_,_,rfl,rfl,_,rfl,Zq (fun h1=>?_) (fun h1=>?_)⟩
   ·exact bad (by unfold Z5; rw [decide_eq_false (show ¬ 1<=x.length by lia),Bool.false_and,Bool.false_and])
   ·refine ⟨_,rfl,x,rfl,by lia,_,_,rfl,rfl,_,rfl,Zq (fun h2=>?_) (fun h2=>?_)⟩
    ·exact bad (by unfold Z5; rw [decide_eq_false (show ¬ x.length<=12 by lia),Bool.and_false,Bool.false_and])
    ·unfold nmV at k
     rw [show Z5 x=true by unfold Z5; rw [ha,decide_eq_true (show 1<=x.length by lia),decide_eq_true (show x.length<=12 by lia)]; rfl,if_pos rfl] at k
     exact ⟨_,rfl,k⟩
def Zj1:Sp:=fun vs H Q _=>∃ (a:Nat) (x:Str),vs = [.str ⟨#[a]⟩,.str x]/\x.length<=100000/\Q (ptW (kdC a) x) H
theorem Zyd (a:Nat):(V.str ⟨#[a]⟩=V.str "a")↔a=97:=by
 constructor
 ·intro e
  have e1:(⟨#[a]⟩:Str) = "a" := by injection e
  have e2:(⟨#[a]⟩:Str).cps.toList = [97]:=by rw [e1]; decide +kernel
  simpa using e2
 ·intro e
  rw [e]
  decide +kernel
abbrev U0:Stmt:=top 32
theorem Zye:FnScope ["_law_sign", "_law_word_here"] ["_law_sign", "_law_word_here"] (Za U0):=⟨rfl,rfl,rfl,by decide +kernel,rfl,by decide +kernel,by decide +kernel⟩
theorem Zyf:Nm (Za U0) "_law_read_name" .globalImplicit:=by decide +kernel
theorem Zyg:Nm (Za U0) "_law_read_number" .globalImplicit:=by decide +kernel
theorem Zyh:Nm (Za U0) "_law_sign" .local:=by decide +kernel
theorem Zmc:Nm (Za U0) "_law_word_here" .local:=by decide +kernel
theorem Zyi (Zgd:Has K mg "_law_read_part" U0) (Zdh:Fn P w K mg base "_law_read_name" ["_law_word_here"] 1 Ze3) (Zyj:Fn P w K mg base "_law_read_number" ["_law_word_here"] 1 Zkz):Fn P w K mg base "_law_read_part" ["_law_sign", "_law_word_here"] 2 Zj1:=by
 refine Zgd.fnQ Zye (fun _ _ _ _ _ _ us hl=>match us,hl with | [_,_],_=>rfl) (fun vs H Q E h=>?_) (fun f cdv A outer s H vs Q E hr h=>?_)
 ·obtain ⟨a,x,rfl,_⟩:=h
  rfl
 ·obtain ⟨a,x,rfl,hx,k⟩:=h
  refine ⟨_,(Zf (Zp (Zl Yi (qvN 0 Zyh) Zh (Zn _)) (Ze (Zi (Zo Zdh (hr.mono (by lia)) Zyf (Zb (qvN 1 Zmc) Zc)))) Zs)
 (Ze (Zi (Zo Zyj (hr.mono (by lia)) Zyg (Zb (qvN 1 Zmc) Zc))))),?_⟩
  refine ⟨_,rfl,rfl,_,rfl,?_⟩
  unfold ptW kdC at k
  rw [decide_eq_decide.mpr (Zyd a)]
  refine Zq (fun h=>?_) (fun h=>?_)
  ·rw [if_pos h,if_pos rfl] at k
   exact ⟨_,rfl,x,rfl,hx,k⟩
  ·rw [if_neg h,if_neg (by decide +kernel)] at k
   exact ⟨_,rfl,x,rfl,hx,k⟩
end
section
variable {P:Program}{w:World}{K:PySem.W.Frag}{mg:Str->Option Value}{base:Heap}
theorem Zk0 (as:List Str):(as.map nmV).any Us = !as.all Z5:=by
 induction as with
 | nil=>rfl
 | cons x r ih =>
  rw [List.map_cons,List.any_cons,List.all_cons,ih]
  unfold nmV
  cases Z5 x <;> rfl
theorem Zk1 {as:List Str}(h:as.all Z5=true):as.map nmV=as.map V.str:=by
 refine List.map_congr_left fun x hx=>?_
 unfold nmV
 rw [List.all_eq_true.mp h x hx,if_pos rfl]
theorem all_nm {as:List Str}:as.all Z5=true↔∀ x∈as,Zx x:=by
 rw [List.all_eq_true]
 exact ⟨fun h x hx=>Zin (h x hx),fun h x hx=>Zdt (h x hx)⟩
theorem Zmd {H:Hp}(as:List Str):∀ v∈as.map nmV,Ut H v:=fun v hv=>by
 obtain ⟨x,_,rfl⟩:=List.mem_map.mp hv
 unfold nmV
 split
 ·exact .inr (.inl ⟨_,rfl⟩)
 ·exact .inl rfl
def Zi5:Sp:=fun vs H Q _=>∃ (a:Addr) (ws:List Str),vs = [.ref a]/\H a=some (.lst (ws.map V.str))/\(∀ x∈ws,x.length<=100000)/\ws.length<=100000 /\
 (∀ as bs l ra rb H',ws=("+" : Str)::(as++("-" : Str)::bs)->(∀ x∈as,Zx x)->(∀ x∈bs,Zx x)->H' l=some (.lst [.ref ra,.ref rb])->H' ra=some (.lst (as.map V.str))->H' rb=some (.lst (bs.map V.str))->ra≠rb->Same H H'->Q (.ref l) H') /\
 ((∀ as bs,ws=("+" : Str)::(as++("-" : Str)::bs)->(∀ x∈as,Zx x)->(∀ x∈bs,Zx x)->False)->∀ H',Same H H'->Q .non H')
abbrev V6:Stmt:=top 33
theorem Zdi:FnScope ["_law_words", "_law_cut", "_law_ones", "_law_others"] ["_law_words"] (Za V6):=⟨rfl,rfl,rfl,by decide +kernel,rfl,by decide +kernel,by decide +kernel⟩
theorem Zhb:Nm (Za V6) "_law_cut" .local:=by decide +kernel
theorem Zhc:Nm (Za V6) "_law_ones" .local:=by decide +kernel
theorem Zhd:Nm (Za V6) "_law_others" .local:=by decide +kernel
theorem Zay:Nm (Za V6) "_law_words" .local:=by decide +kernel
theorem Zyk:Nm (Za V6) "len" .globalImplicit:=by decide +kernel
theorem Zyl (Zge:Has K mg "_law_read_sides" V6) (T:Txt mg) (Zdh:Fn P w K mg base "_law_read_name" ["_law_word_here"] 1 Ze3):Fn P w K mg base "_law_read_sides" ["_law_words"] 2 Zi5:=by
 refine Zge.fnQ Zdi (fun _ _ _ _ _ _ us hl=>match us,hl with | [_],_=>rfl) (fun vs H Q E h=>?_) (fun f cdv A outer s H vs Q E hr h=>?_)
 ·obtain ⟨a,ws,rfl,_⟩:=h
  rfl
 ·obtain ⟨a,ws,rfl,ha,hx,hlen,kq,kn⟩:=h
  refine ⟨_,(Zf (Zp (QW.pt (Vg (Zl Zcr (Zw Wt Zyk T.len Yh (Zb (qvN 0 Zay) Zc)) Zd (Zn _)) (Vg (Zl Vx (Zy Yc (qvN 0 Zay) Zd (fun _ _=>rfl)) Zh (Zn _)) (Ug (Zl Zdn Zh (qvN 0 Zay) rfl))))) (Ze (Zi Yo)) Zs)
 (Zf (Zm (i:=1) Zdi.nd Zhb (Wn F.plainAttrs_list F.slot_list_index F.type_list_index Zh5 (qvN 0 Zay) (Zb Zh Zc)))
 (Zf (Zeu (locs:=["_law_word_here"]) (fr:=[]) ⟨rfl,by decide +kernel,by decide +kernel,by decide +kernel,by decide +kernel,by decide +kernel⟩ .nil rfl (Zci (Z7 Y7 (qvN 0 Zay) (Z3 Zd) (Z3 (qvN 1 Zhb)))) ⟨fun _ _ _ _ _ _=>by
  have cnd:(inN ["_law_word_here"] []).Nodup:=by decide +kernel
  exact ⟨(Wv 0 cnd),Vj,(Zo Zdh (hr.mono (by lia)) nmC (Zb (Vp 0) Zc))⟩⟩ Zdi.nd Zhc (by rfl) (i:=2))
 (Zf (Zeu (locs:=["_law_word_here"]) (fr:=[]) ⟨rfl,by decide +kernel,by decide +kernel,by decide +kernel,by decide +kernel,by decide +kernel⟩ .nil rfl (Zci (Z7 Y7 (qvN 0 Zay) (Z3 (Zj Yp (qvN 1 Zhb) Zd)) Yb)) ⟨fun _ _ _ _ _ _=>by
  have cnd:(inN ["_law_word_here"] []).Nodup:=by decide +kernel
  exact ⟨(Wv 0 cnd),Vj,(Zo Zdh (hr.mono (by lia)) nmC (Zb (Vp 0) Zc))⟩⟩ Zdi.nd Zhd (by rfl) (i:=3))
 (Zf (Zp (QW.pt (Vg (Zl (Zd3 hr) Yo (qvN 2 Zhc) rfl) (Ug (Zl (Zd3 hr) Yo (qvN 3 Zhd) rfl)))) (Ze (Zi Yo)) Zs)
 (Ze (Zi (Ys (Zb (qvN 2 Zhc) (Zb (qvN 3 Zhd) Zc)))))))))),?_⟩
  have hz:(200000:Nat)<=sizeLine:=by decide
  refine Zcj (fun σ H'=>σ = [some (.ref a),none,none,none]/\H'=H/\∃ tl,ws=("+" : Str)::tl/\("-" : Str)∈tl) ?_ (fun D' hn hrt _ _=>?_)
  rotate_left
  ·refine ⟨_,rfl,a,_,rfl,.inl (SqL.of ha),_,_,rfl,rfl,_,rfl,Zq (fun h2=>?_) (fun h2=>?_)⟩
   ·rw [List.length_map] at h2
    refine hrt _ _ (kn (fun as bs e _ _=>?_) H (Same.refl _))
    rw [e,List.length_cons,List.length_append,List.length_cons] at h2
    lia
   rw [List.length_map] at h2
   obtain ⟨w0,tl,rfl⟩:∃ w0 tl,ws=w0::tl:=by
    cases ws with
    | nil=>exact absurd (show ((0:Nat):Int) < 2 by lia) h2
    | cons w0 tl=>exact ⟨w0,tl,rfl⟩
   refine ⟨_,rfl,a,_,0,.str w0,rfl,rfl,SqL.of ha,Yz (j:=0) rfl,rfl,_,rfl,Yr (fun hp=>?_) (fun hp=>?_)⟩
   ·refine hrt _ _ (kn (fun as bs e _ _=>hp ?_) H (Same.refl _))
    injection e with e _
    rw [e]
   have hp:w0 = "+" := by injection hp
   subst hp
   refine ⟨_,rfl,a,_,rfl,.inl (SqL.of ha),rfl,Zd4 _,_,rfl,?_⟩
   rw [if_pos rfl,Zey]
   by_cases hm:("-" : Str)∈("+" : Str)::tl
   ·rw [decide_eq_true hm]
    refine Zr (hn _ _ ⟨rfl,rfl,tl,rfl,(List.mem_cons.mp hm).resolve_left (by decide +kernel)⟩)
   ·rw [decide_eq_false hm]
    refine Z2 (hrt _ _ (kn (fun as bs e _ _=>hm ?_) H (Same.refl _)))
    rw [e]
    exact List.mem_cons_of_mem _ (List.mem_append_right _ List.mem_cons_self)
  rintro σ H0 ⟨rfl,rfl,tl,rfl,hm⟩
  obtain ⟨as,bs,rfl,na⟩:=Zcc hm
  have np:("-" : Str)∉("+" : Str)::as:=fun z=>(List.mem_cons.mp z).elim (fun y=>absurd y (by decide +kernel)) na
  obtain ⟨i1,i2⟩:=Zks (xs:=("+" : Str)::(as++("-" : Str)::bs)) (pre:=("+" : Str)::as) (post:=bs) rfl np
  have hal:as.length+bs.length<=100000:=by rw [List.length_cons,List.length_append,List.length_cons] at hlen; lia
  refine ⟨_,rfl,.inl ⟨rfl,_,SqL.of ha⟩,a,_, "-", _,rfl,rfl,SqL.of ha,i1,i2,?_⟩
  refine Zv ?_
  dsimp only [Zk]
  refine ⟨_,rfl,_,rfl,_,rfl,_,rfl,a,_,rfl,SqL.of ha,fun l3 hl3=>?_⟩
  have ea:Z1 ((("+" : Str)::(as++("-" : Str)::bs)).map V.str) (some 1) (some ((("+" : Str)::as).length:Int))=as.map V.str :=
   Zeh (pre:=[.str "+"]) (post:=(("-" : Str)::bs).map V.str) (by rw [List.map_cons,List.map_append]; rfl) rfl (by rw [List.length_map,List.length_cons,List.length_singleton]; lia)
  rw [ea]
  have S3:=Same.new (o:=.lst (as.map V.str)) hl3
  have k3:(upd H0 l3 (.lst (as.map V.str))) l3=some (.lst (as.map V.str)):=Zg
  generalize (upd H0 l3 (.lst (as.map V.str)))=H3 at S3 k3 ⊢
  refine ⟨l3,rfl,⟨_,SqL.of k3⟩,?_⟩
  refine Zdw (xs:=as.map V.str) (fun i ys H'=>H'=H3/\ys=(as.take i).map nmV) ⟨rfl,rfl⟩ (by rw [List.length_map]; lia) (fun i ys H' _ ⟨e,_⟩=>by rw [e]; exact SqL.of k3) (fun i ys H' ⟨_,e⟩=>by rw [e,List.length_map,List.length_take]; lia) ?_ ?_
  ·rintro i v ys H' hv ⟨rfl,rfl⟩ ls hls
   obtain ⟨w0,rfl⟩:=Ur hls
   rw [List.getElem?_map] at hv
   obtain ⟨x,hxi,rfl⟩:=Option.map_eq_some_iff.mp hv
   refine ⟨⟨[_],rfl,rfl⟩,?_⟩
   refine ⟨_,rfl,x,rfl,hx x (List.mem_cons_of_mem _ (List.mem_append_left _ (List.mem_of_getElem? hxi))),rfl,?_⟩
   rw [List.take_add_one,hxi,List.map_append]
   rfl
  rintro ys H' ⟨rfl,rfl⟩ l5 hl5
  rw [List.length_map,List.take_length]
  have S5:=Same.new (o:=.lst (as.map nmV)) hl5
  have k5:(upd H' l5 (.lst (as.map nmV))) l5=some (.lst (as.map nmV)):=Zg
  generalize (upd H' l5 (.lst (as.map nmV)))=H5 at S5 k5 ⊢
  refine Zv ?_
  dsimp only [Zk]
  have S05:=S3.trans S5
  refine ⟨_,rfl,_,rfl,_,_,rfl,rfl,_,rfl,a,_,rfl,SqL.of (S05 _ _ ha),fun l6 hl6=>?_⟩
  have eb:Z1 ((("+" : Str)::(as++("-" : Str)::bs)).map V.str) (some (((("+" : Str)::as).length:Int)+1)) none=bs.map V.str :=
   Zce (pre:=(("+" : Str)::(as ++ [("-" : Str)])).map V.str) (by rw [← List.map_append,List.cons_append,List.append_assoc]; rfl) (by rw [List.length_map,List.length_cons,List.length_cons,List.length_append,List.length_singleton]; lia)
  rw [eb]
  have S6:=Same.new (o:=.lst (bs.map V.str)) hl6
  have k6:(upd H5 l6 (.lst (bs.map V.str))) l6=some (.lst (bs.map V.str)):=Zg
  generalize (upd H5 l6 (.lst (bs.map V.str)))=H6 at S6 k6 ⊢
  refine ⟨l6,rfl,⟨_,SqL.of k6⟩,?_⟩
  refine Zdw (xs:=bs.map V.str) (fun i ys H'=>H'=H6/\ys=(bs.take i).map nmV) ⟨rfl,rfl⟩ (by rw [List.length_map]; lia) (fun i ys H' _ ⟨e,_⟩=>by rw [e]; exact SqL.of k6) (fun i ys H' ⟨_,e⟩=>by rw [e,List.length_map,List.length_take]; lia) ?_ ?_
  ·rintro i v ys H' hv ⟨rfl,rfl⟩ ls hls
   obtain ⟨w0,rfl⟩:=Ur hls
   rw [List.getElem?_map] at hv
   obtain ⟨x,hxi,rfl⟩:=Option.map_eq_some_iff.mp hv
   refine ⟨⟨[_],rfl,rfl⟩,?_⟩
   refine ⟨_,rfl,x,rfl,hx x (List.mem_cons_of_mem _ (List.mem_append_right _ (List.mem_cons_of_mem _ (List.mem_of_getElem? hxi)))),rfl,?_⟩
   rw [List.take_add_one,hxi,List.map_append]
   rfl
  rintro ys H' ⟨rfl,rfl⟩ l7 hl7
  rw [List.length_map,List.take_length]
  have S7:=Same.new (o:=.lst (bs.map nmV)) hl7
  have k7:(upd H' l7 (.lst (bs.map nmV))) l7=some (.lst (bs.map nmV)):=Zg
  generalize (upd H' l7 (.lst (bs.map nmV)))=H7 at S7 k7 ⊢
  refine Zv ?_
  dsimp only [Zk]
  have S57:=S6.trans S7
  have k57:=S57 _ _ k5
  have n57:l5≠l7:=fun z=>by rw [z] at k5; rw [S6 _ _ k5] at hl7; cases hl7
  have S07:=S05.trans S57
  have bad:as.all Z5=false\/bs.all Z5=false->Q .non H7:=fun h=>by
   refine kn (fun as' bs' e h1 h2=>?_) H7 S07
   obtain ⟨e1,e2⟩:=Uy (x := "-") (p:=("+" : Str)::as) (p':=("+" : Str)::as') e np (fun z=>(List.mem_cons.mp z).elim (fun y=>absurd y (by decide +kernel)) (Zcf h1))
   injection e1 with _ e1
   subst e1 e2
   rw [all_nm.mpr h1,all_nm.mpr h2] at h
   rcases h with h | h <;> cases h
  refine ⟨_,rfl,rfl,l5,_,rfl,SqL.of k57,Zmd as,_,rfl,?_⟩
  rw [Zk0]
  refine Zal (fun h=>bad (.inl h)) (fun h1=>?_)
  refine ⟨_,rfl,rfl,l7,_,rfl,SqL.of k7,Zmd bs,_,rfl,?_⟩
  rw [Zk0]
  refine Zal (fun h=>bad (.inr h)) (fun h2=>?_)
  rw [Zk1 h1] at k57
  rw [Zk1 h2] at k7
  refine ⟨_,rfl,_,rfl,by show 2<=sizeLine; lia,fun l8 hl8=>?_⟩
  have S8:=Same.new (o:=.lst [.ref l5,.ref l7]) hl8
  exact kq as bs l8 l5 l7 _ rfl (all_nm.mp h1) (all_nm.mp h2) Zg (S8 _ _ k57) (S8 _ _ k7) n57 (S07.trans S8)
end
section
variable {P:Program}{w:World}{K:PySem.W.Frag}{mg:Str->Option Value}{base:Heap}
theorem Zrr:∀ q∈fm10,cs (Txt.replace q.2 "+" "")=(cs q.2).filter (fun c=>c != 43):=by
 intro q hq
 simp only [fm10,List.mem_cons,List.not_mem_nil,or_false] at hq
 rcases hq with rfl | rfl | rfl | rfl | rfl | rfl | rfl | rfl | rfl | rfl <;> decide +kernel
theorem Zte {ks ws:List Str}{i:Nat}{k x:Str}(hk:ks[i]? = some k) (hx:ws[i]? = some x):List.zipWith ptW (ks.take (i+1)) (ws.take (i+1))=List.zipWith ptW (ks.take i) (ws.take i) ++ [ptW k x]:=by
 rw [← List.take_zipWith,← List.take_zipWith,List.take_add_one,List.getElem?_zipWith,hk,hx]
 rfl
theorem Zi6:∀ {ks ws:List Str},ks.length=ws.length->(∀ k∈ks,k = "name" \/ k = "number")->(∃ ps,isPs ks ws ps/\List.zipWith ptW ks ws=ps.map ptV)\/((∀ ps,¬ isPs ks ws ps)/\(List.zipWith ptW ks ws).any Us=true)
 | [],[],_,_=>.inl ⟨[],⟨rfl,rfl,(fun _ z=>nomatch z)⟩,rfl⟩
 | [],_::_,h,_=>nomatch h
 | _::_,[],h,_=>nomatch h
 | k::ks,x::ws,h,hk=>by
  rw [List.zipWith_cons_cons]
  by_cases hp:∃ p,Wx k x p
  ·obtain ⟨p,hp⟩:=hp
   rw [Zu1 hp]
   rcases Zi6 (ks:=ks) (ws:=ws) (by simpa using h) (fun k hk'=>hk k (List.mem_cons_of_mem _ hk')) with ⟨ps,⟨h1,h2,h3⟩,e⟩ | ⟨hno,e⟩
   ·refine .inl ⟨p::ps,⟨by rw [List.map_cons,h1,hp.1],by rw [List.map_cons,h2,hp.2.1],fun q hq=>?_⟩,by rw [e]; rfl⟩
    rcases List.mem_cons.mp hq with rfl | hq
    ·exact hp.2.2
    ·exact h3 q hq
   ·refine .inr ⟨fun ps hps=>?_,by rw [List.any_cons,e,Bool.or_true]⟩
    obtain ⟨h1,h2,h3⟩:=hps
    cases ps with
    | nil=>cases h1
    | cons q ps =>
     rw [List.map_cons] at h1 h2
     injection h1 with _ h1
     injection h2 with _ h2
     exact hno ps ⟨h1,h2,fun r hr=>h3 r (List.mem_cons_of_mem _ hr)⟩
  ·rw [Zu2 (hk k List.mem_cons_self) (fun p hp'=>hp ⟨p,hp'⟩)]
   exact .inr ⟨fun ps hps=>hp (hps.get (i:=0) rfl rfl),rfl⟩
theorem Zj2 (ps:List Pt):(ps.map ptV).any Us=false:=by
 rw [List.any_eq_false]
 intro v hv
 obtain ⟨p,_,rfl⟩:=List.mem_map.mp hv
 cases p <;> exact Bool.false_ne_true
theorem Zym {H:Hp}(ks ws:List Str):∀ v∈List.zipWith ptW ks ws,Ut H v:=fun v hv=>by
 obtain ⟨i,hi⟩:=List.getElem?_of_mem hv
 rw [List.getElem?_zipWith] at hi
 cases h1:ks[i]? with
 | none=>rw [h1] at hi; cases hi
 | some k=>cases h2:ws[i]? with
  | none=>rw [h1,h2] at hi; cases hi
  | some x=>rw [h1,h2] at hi; cases hi; exact Zu3 k x
def Zj3:Sp:=fun vs H Q _=>∃ t:Str,vs = [.str t]/\Yk 10000 t/\(∀ d p ra rb H',Dk d->Txt.split t " " = toks d->DdAt H' d p ra rb->Same H H'->Q (.ref p) H')/\((∀ d,Dk d->Txt.split t " " ≠ toks d)->∀ H',Same H H'->Q .non H')
abbrev Wa:Stmt:=top 34
theorem V7:FnScope ["_law_text", "_law_words", "_law_form_here", "_law_plain", "_law_rest", "_law_parts", "_law_sides"] ["_law_text"] (Za Wa):=⟨rfl,rfl,rfl,by decide +kernel,rfl,by decide +kernel,by decide +kernel⟩
theorem Zyn:Nm (Za Wa) "_law_form" .globalImplicit:=by decide +kernel
theorem Zby:Nm (Za Wa) "_law_form_here" .local:=by decide +kernel
theorem Zbz:Nm (Za Wa) "_law_parts" .local:=by decide +kernel
theorem Zaz:Nm (Za Wa) "_law_plain" .local:=by decide +kernel
theorem Zyo:Nm (Za Wa) "_law_read_sides" .globalImplicit:=by decide +kernel
theorem Zhe:Nm (Za Wa) "_law_rest" .local:=by decide +kernel
theorem Zhf:Nm (Za Wa) "_law_sides" .local:=by decide +kernel
theorem Zyp:Nm (Za Wa) "_law_text" .local:=by decide +kernel
theorem Za0:Nm (Za Wa) "_law_words" .local:=by decide +kernel
theorem Zdj:Nm (Za Wa) "len" .globalImplicit:=by decide +kernel
theorem Zyq:Nm (Za Wa) "tuple" .globalImplicit:=by decide +kernel
theorem Zyr:Nm (Za Wa) "zip" .globalImplicit:=by decide +kernel
theorem Zys (Zgf:Has K mg "_law_read" Wa) (T:Txt mg) (Zf8:Fn P w K mg base "_law_form" ["_law_word_here"] 1 Ze1) (Zyt:Fn P w K mg base "_law_read_part" ["_law_sign", "_law_word_here"] 2 Zj1) (Zyu:Fn P w K mg base "_law_read_sides" ["_law_words"] 2 Zi5):Fn P w K mg base "_law_read" ["_law_text"] 3 Zj3:=by
 refine Zgf.fnQ V7 (fun _ _ _ _ _ _ us hl=>match us,hl with | [_],_=>rfl) (fun vs H Q E h=>?_) (fun f cdv A outer s H vs Q E hr h=>?_)
 ·obtain ⟨t,rfl,_⟩:=h
  rfl
 ·obtain ⟨t,rfl,ht,kq,kn⟩:=h
  refine ⟨_,(Zp1 (Zuy (i:=1) V7.nd Za0 F.plainAttrs_str F.slot_str_split F.type_str_split Zd2 (qvN 0 Zyp))
 (V2 (QS.tk (Zm (i:=2) V7.nd Zby (Zo Zf8 (hr.mono (by lia)) Zyn (Zb (Zy Yc (qvN 1 Za0) Zd (fun _ _=>rfl)) Zc))))
 (V2 (QS.tk (Zp (Zl Za9 (qvN 2 Zby) Yo (Zn _)) (Ze (Zi Yo)) Zs))
 (V2 (Zrg (i:=3) V7.nd Zaz (qvN 2 Zby) (by decide +kernel) (by decide +kernel))
 (V2 (QS.tk (Zm (i:=4) V7.nd Zhe (Z7 Y7 (qvN 1 Za0) (Z3 (Zj Yp Zd (Zw Wu Zdj T.len Yh (Zb (qvN 3 Zaz) Zc)))) Yb)))
 (V2 (QS.tk (Zp (QW.pt (Vg (Zl Zcr (Zw Wt Zdj T.len Yh (Zb (qvN 1 Za0) Zc)) (Zj Yp Zd (Zw Wu Zdj T.len Yh (Zb (qvN 3 Zaz) Zc))) (Zn _)) (Ug (QW.pt (Zaf (Zl Yi (qvN 3 Zaz) (qvN 2 Zby) (Zn _)) (U8 (Zl Zcs (Zw Wt Zdj T.len Yh (Zb (qvN 4 Zhe) Zc)) Zd (Zn _)))))))) (Ze (Zi Yo)) Zs))
 (V2 (QS.tk (Zeu (locs:=["_law_sign", "_law_word_here"]) (fr:=[]) ⟨rfl,by decide +kernel,by decide +kernel,by decide +kernel,by decide +kernel,by decide +kernel⟩ .nil rfl (Zs4 Zyr.1 T.zip (Zb (qvN 3 Zaz) (Zb (Z7 Y7 (qvN 1 Za0) (Z3 Zd) Yb) Zc))) ⟨fun _ _ _ _ _ _=>by
  have cnd:(inN ["_law_sign", "_law_word_here"] []).Nodup:=by decide +kernel
  exact ⟨(Zji 2 (by rfl) (Zam (Wv 0 cnd) (Zam (Wv 1 cnd) Zet))),Vj,(Zo Zyt (hr.mono (by lia)) nmC (Zb (Vp 0) (Zb (Vp 1) Zc)))⟩⟩ V7.nd Zbz (by rfl) (i:=5)))
 (V2 (QS.tk (Zp (Zl Vx (qvN 3 Zaz) (qvN 2 Zby) (Zn _)) (Zf (Zm (i:=6) V7.nd Zhf (Zo Zyu (hr.mono (by lia)) Zyo (Zb (qvN 4 Zhe) Zc)))
 (Zf (Zp (Zl Za9 (qvN 6 Zhf) Yo (Zn _)) (Ze (Zi Yo)) Zs)
 (Ze (Zm (i:=5) V7.nd Zbz (Zj Wr (qvN 5 Zbz) (qvN 6 Zhf)))))) Zs))
 (V2 (QS.tk (Zp (Zl (Zd3 hr) Yo (qvN 5 Zbz) rfl) (Ze (Zi Yo)) Zs))
 (QSs.tk (Ze (Zi (Vz Zb3 Zyq T.tuple U7 (Zb (Zj Wr (Ys (Zb (Zy Yc (qvN 1 Za0) Zd (fun _ _=>rfl)) Zc)) (qvN 5 Zbz)) Zc)))))))))))))),?_⟩
  have hz:(200000:Nat)<=sizeLine:=by decide
  obtain ⟨x,rest,es,hwd,hlr⟩:=Zek ht (Nat.le_refl _)
  have hl0:=ht.1
  refine ⟨_,rfl,rfl,t, " ", rfl,rfl,by decide +kernel,by lia,fun l hl=>?_⟩
  rw [es]
  rw [es] at kq kn
  have S1:=Same.new (o:=.lst ((x::rest).map V.str)) hl
  have k1:(upd H l (.lst ((x::rest).map V.str))) l=some (.lst ((x::rest).map V.str)):=Zg
  generalize (upd H l (.lst ((x::rest).map V.str)))=H1 at S1 k1 ⊢
  refine Zv ?_
  dsimp only [Zk]
  refine ⟨_,rfl,l,_,0,.str x,rfl,rfl,SqL.of k1,Yz (j:=0) rfl,x,rfl,fun H2 s2=>?_⟩
  replace S1:=S1.trans s2
  replace k1:=s2 _ _ k1
  refine Zv ?_
  dsimp only [Zk]
  cases hf:Y4 x with
  | none =>
   have e:fmR x = .non:=by unfold fmR; rw [hf]
   rw [e]
   exact ⟨_,rfl,rfl,_,rfl,Zq (fun _=>kn (fun d hd e=>hd.known e hf) H2 S1) (fun z=>absurd rfl z)⟩
  | some f' =>
  have e:fmR x = .str f':=by unfold fmR; rw [hf]
  rw [e]
  refine ⟨_,rfl,rfl,_,rfl,Zq (fun z=>nomatch z) (fun _=>?_)⟩
  dsimp only [Zk]
  have hfm:=Zcw hf
  have hpl:=Zrr _ hfm
  have hf6:=(Zei _ hfm).2.1
  dsimp only at hpl hf6
  refine ⟨_,rfl,rfl,f',rfl,by lia,?_⟩
  have epl:(Txt.replace f' "+" "" = f')↔43∉cs f':=by
   constructor
   ·intro e hm
    rw [e] at hpl
    rw [hpl] at hm
    have:=(List.mem_filter.mp hm).2
    simp at this
   ·intro hm
    refine Zad (hpl.trans (List.filter_eq_self.mpr fun c hc=>?_))
    have:c≠43:=fun z=>hm (z▸hc)
    simpa using this
  have eks:Zz (cs f')=(cs (Txt.replace f' "+" "")).map kdC:=by rw [hpl]; rfl
  generalize Txt.replace f' "+" "" = pl at hpl epl eks ⊢
  have hpl6:pl.length<=6:=by rw [← Zu,hpl]; exact Nat.le_trans (List.length_filter_le _ _) (by rw [Zu]; exact hf6)
  have ekl:(Zz (cs f')).length=pl.length:=by rw [eks,List.length_map,Zu]
  have hkinds:=Zio (cs f')
  refine Zv ?_
  dsimp only [Zk]
  refine ⟨_,rfl,_,rfl,pl,rfl,by lia,_,_,rfl,rfl,_,rfl,l,_,rfl,SqL.of k1,fun l4 hl4=>?_⟩
  generalize ecut:Z1 ((x::rest).map V.str) (some (1+(pl.length:Int))) none=rs
  have S4:=Same.new (o:=.lst rs) hl4
  have k4:(upd H2 l4 (.lst rs)) l4=some (.lst rs):=Zg
  generalize (upd H2 l4 (.lst rs))=H4 at S4 k4 ⊢
  refine Zv ?_
  dsimp only [Zk]
  have S04:=S1.trans S4
  have k14:=S4 _ _ k1
  have ersn:pl.length<=rest.length->rs=(rest.drop pl.length).map V.str:=fun hn=>by
   rw [← ecut,show (1+(pl.length:Int))=((1+pl.length:Nat):Int) by lia,Za8 _ _ (by rw [List.length_map,List.length_cons]; lia),← List.map_drop,Nat.add_comm 1 pl.length,List.drop_succ_cons]
  refine Zcj (fun σ H'=>σ = [some (.str t),some (.ref l),some (.str f'),some (.str pl),some (.ref l4),none,none]/\H'=H4/\pl.length<=rest.length/\(43∉cs f'->rest.length=pl.length)) ?_ (fun D' hn' hrt _ _=>?_)
  rotate_left
  ·refine ⟨_,rfl,l,_,rfl,.inl (SqL.of k14),_,rfl,pl,rfl,by lia,_,_,rfl,rfl,_,_,rfl,rfl,_,rfl,Zq (fun hlt=>?_) (fun hlt=>?_)⟩
   ·rw [List.length_map,List.length_cons] at hlt
    refine hrt _ _ (kn (fun d hd e=>?_) H4 S04)
    injection e with ew er
    obtain ⟨f2,g1,g2,_⟩:=hd.f
    rw [← ew,hf] at g1
    cases g1
    have h1:=congrArg List.length g2
    have h2:=congrArg List.length er
    rw [List.length_map,ekl] at h1
    rw [List.length_append,List.length_map] at h2
    lia
   rw [List.length_map,List.length_cons] at hlt
   have hn:pl.length<=rest.length:=by lia
   have k4:=k4
   rw [ersn hn] at k4
   refine ⟨_,rfl,_,rfl,rfl,_,rfl,Zq (fun he=>?_) (fun he=>?_)⟩
   ·have he:pl=f':=by injection he
    refine ⟨_,rfl,l4,_,rfl,.inl (SqL.of k4),_,_,rfl,rfl,_,rfl,Zq (fun hg=>?_) (fun hg=>?_)⟩
    ·rw [List.length_map,List.length_drop] at hg
     refine hrt _ _ (kn (fun d hd e=>?_) H4 S04)
     obtain ⟨_,i1,i2,_⟩:=hd.plain e hf (epl.mp he)
     have h1:=congrArg List.length i1
     have h2:=congrArg List.length i2
     rw [List.length_map] at h1 h2
     rw [ekl] at h2
     lia
    ·rw [List.length_map,List.length_drop] at hg
     exact hn' _ _ ⟨rfl,rfl,hn,fun _=>by lia⟩
   ·exact Zr (hn' _ _ ⟨rfl,rfl,hn,fun h=>absurd (by rw [epl.mpr h]) he⟩)
  rintro σ H4' ⟨rfl,rfl,hn,hpn⟩
  rw [ersn hn] at k4
  refine ⟨_,rfl,_,rfl,_,rfl,l,_,rfl,SqL.of k14,fun l5 hl5=>?_⟩
  have ec:Z1 ((x::rest).map V.str) (some 1) none=rest.map V.str:=Zce (pre:=[.str x]) rfl rfl
  rw [ec]
  have S5:=Same.new (o:=.lst (rest.map V.str)) hl5
  have k5:(upd H4' l5 (.lst (rest.map V.str))) l5=some (.lst (rest.map V.str)):=Zg
  generalize (upd H4' l5 (.lst (rest.map V.str)))=H5 at S5 k5 ⊢
  refine ⟨pl,l5,_,rfl,SqL.of k5,fun a5 n5=>?_⟩
  refine Zp3 (rest.map V.str) (by rw [List.length_map]; exact hn) n5 (fun i ys H'=>Same H5 H'/\ys=List.zipWith ptW ((Zz (cs f')).take i) (rest.take i)) ⟨Same.refl _,by rw [List.take_zero,List.take_zero]; rfl⟩ (by lia) (fun i ys H' _ ⟨e,_⟩=>SqL.of (e _ _ k5)) (fun i ys H' ⟨_,e⟩=>by rw [e,List.length_zipWith,List.length_take,List.length_take]; lia) ?_ ?_
  ·rintro i cc z p ys H' hcc hzz ⟨sm,rfl⟩ hpn' ls hls
   obtain ⟨w0,w1,rfl⟩:=Zmy hls
   rw [List.getElem?_map] at hzz
   obtain ⟨y,hyi,rfl⟩:=Option.map_eq_some_iff.mp hzz
   have Sp':=Same.new (o:=.tup [.str ⟨#[cc]⟩,.str y]) hpn'
   have kp:(upd H' p (.tup [.str ⟨#[cc]⟩,.str y])) p=some (.tup [.str ⟨#[cc]⟩,.str y]):=Zg
   generalize (upd H' p (.tup [.str ⟨#[cc]⟩,.str y]))=H6 at Sp' kp ⊢
   refine ⟨p,_,rfl,SqT.of kp,rfl,_,_,rfl,_,_,rfl,rfl,⟨[_,_],rfl,rfl⟩,Z2 ?_⟩
   have hki:(Zz (cs f'))[i]? = some (kdC cc):=by rw [eks,List.getElem?_map,hcc]; rfl
   refine ⟨_,rfl,_,rfl,cc,y,rfl,by have:=(hwd y (List.mem_cons_of_mem _ (List.mem_of_getElem? hyi))).1; lia,sm.trans Sp',?_⟩
   rw [Zte hki hyi]
  rintro ys H' ⟨sm,rfl⟩ l6 hl6
  have ez:List.zipWith ptW ((Zz (cs f')).take pl.length) (rest.take pl.length)=List.zipWith ptW (Zz (cs f')) (rest.take pl.length):=by rw [List.take_of_length_le (by lia)]
  rw [ez]
  have etl:(Zz (cs f')).length=(rest.take pl.length).length:=by rw [ekl,List.length_take]; lia
  have hzc:=Zi6 etl hkinds
  have hzl:(List.zipWith ptW (Zz (cs f')) (rest.take pl.length)).length<=6:=by rw [List.length_zipWith,ekl]; lia
  have hzf:∀ {H},∀ v∈List.zipWith ptW (Zz (cs f')) (rest.take pl.length),Ut H v:=Zym _ _
  generalize List.zipWith ptW (Zz (cs f')) (rest.take pl.length)=zs at hzc hzl hzf ⊢
  have S6:=Same.new (o:=.lst zs) hl6
  have k6:(upd H' l6 (.lst zs)) l6=some (.lst zs):=Zg
  generalize (upd H' l6 (.lst zs))=H6 at S6 k6 ⊢
  refine Zv ?_
  dsimp only [Zk]
  have S46:=(S5.trans sm).trans S6
  have S06:=S04.trans S46
  have k16:=S46 _ _ k14
  by_cases h43 : 43∈cs f'
  ·refine ⟨_,rfl,_,rfl,rfl,_,rfl,Yr (fun _=>?_) (fun z=>absurd h43 (epl.mp (by injection z)))⟩
   have dks:∀ d,Dk d->x::rest=toks d->∃ a b,rest.take pl.length=d.ps.map ptS/\rest.drop pl.length=("+" : Str)::(a++("-" : Str)::b)/\(∀ y∈a,Zx y)/\(∀ y∈b,Zx y)/\isPs (Zz (cs f')) (rest.take pl.length) d.ps:=fun d hd e=>by
    obtain ⟨a,b,_,h2,h3,h4,h5⟩:=hd.sworn e hf h43
    have hlen:(d.ps.map ptS).length=pl.length:=by have:=congrArg List.length h3; rw [List.length_map] at this ⊢; lia
    have e1:rest.take pl.length=d.ps.map ptS:=by rw [h2,← hlen,List.take_left]
    exact ⟨a,b,e1,by rw [h2,← hlen,List.drop_left],h4,h5,e1.symm,h3,hd.ps⟩
   refine ⟨_,rfl,l4,rest.drop pl.length,rfl,S46 _ _ k4,fun y hy=>by have:=(hwd y (List.mem_cons_of_mem _ (List.mem_of_mem_drop hy))).1; lia,by rw [List.length_drop]; lia,fun as bs l7 ra rb H7 e na nb k7 kra krb nab s7=>?_,fun hno H7 s7=>?_⟩
   rotate_left
   ·refine Zv ?_
    dsimp only [Zk]
    refine ⟨_,rfl,rfl,_,rfl,Zq (fun _=>kn (fun d hd e=>?_) H7 (S06.trans s7)) (fun z=>absurd rfl z)⟩
    obtain ⟨a,b,_,e2,h4,h5,_⟩:=dks d hd e
    exact hno a b e2 h4 h5
   refine Zv ?_
   dsimp only [Zk]
   refine ⟨_,rfl,rfl,_,rfl,Zq (fun z=>nomatch z) (fun _=>?_)⟩
   dsimp only [Zk]
   refine ⟨_,rfl,_,rfl,l6,l7,_,_,rfl,rfl,s7 _ _ k6,k7,by show zs.length+2<=sizeLine; lia,fun l8 hl8=>?_⟩
   have S8:=Same.new (o:=.lst (zs ++ [.ref ra,.ref rb])) hl8
   have k8:(upd H7 l8 (.lst (zs ++ [.ref ra,.ref rb]))) l8=some (.lst (zs ++ [.ref ra,.ref rb])):=Zg
   generalize (upd H7 l8 (.lst (zs ++ [.ref ra,.ref rb])))=H8 at S8 k8 ⊢
   have S08:=(S06.trans s7).trans S8
   have kra8:=S8 _ _ kra
   have krb8:=S8 _ _ krb
   refine Zv ?_
   dsimp only [Zk]
   refine ⟨_,rfl,rfl,l8,_,rfl,SqL.of k8,fun v hv=>?_,_,rfl,?_⟩
   ·rcases List.mem_append.mp hv with hv | hv
    ·exact hzf v hv
    ·rcases List.mem_cons.mp hv with rfl | hv
     ·exact .inr (.inr (.inr ⟨_,_,rfl,kra8⟩))
     ·rw [List.mem_singleton.mp hv]; exact .inr (.inr (.inr ⟨_,_,rfl,krb8⟩))
   rw [List.any_append]
   have e2:([V.ref ra,.ref rb]:List V).any Us=false:=rfl
   rw [e2,Bool.or_false]
   rcases hzc with ⟨ps,hps,rfl⟩ | ⟨hno,hany⟩
   ·rw [Zj2]
    refine Zr ?_
    dsimp only [Zk]
    refine ⟨_,rfl,l,_,0,.str x,rfl,rfl,SqL.of (S8 _ _ (s7 _ _ k16)),Yz (j:=0) rfl,by show 1<=sizeLine; lia,fun l9 hl9=>?_⟩
    have S9:=Same.new (o:=.lst [.str x]) hl9
    have k9:(upd H8 l9 (.lst [.str x])) l9=some (.lst [.str x]):=Zg
    generalize (upd H8 l9 (.lst [.str x]))=H9 at S9 k9 ⊢
    refine ⟨_,rfl,l9,l8,_,_,rfl,rfl,k9,S9 _ _ k8,by rw [List.length_append]; show 1+((ps.map ptV).length+2)<=sizeLine; lia,fun l10 hl10=>?_⟩
    have S10:=Same.new (o:=.lst ([V.str x]++(ps.map ptV ++ [.ref ra,.ref rb]))) hl10
    have k10:(upd H9 l10 (.lst ([V.str x]++(ps.map ptV ++ [.ref ra,.ref rb])))) l10=some (.lst ([V.str x]++(ps.map ptV ++ [.ref ra,.ref rb]))):=Zg
    generalize (upd H9 l10 (.lst ([V.str x]++(ps.map ptV ++ [.ref ra,.ref rb]))))=H10 at S10 k10 ⊢
    refine ⟨l10,_,rfl,.inl ⟨SqL.of k10,fun p hp=>?_⟩⟩
    have S11:=Same.new (o:=.tup ([V.str x]++(ps.map ptV ++ [.ref ra,.ref rb]))) hp
    have s811:=(S9.trans S10).trans S11
    refine kq ⟨x,ps,some (as,bs)⟩ p ra rb _ ⟨⟨f',hf,hps.2.1,.inl ⟨h43,fun z=>nomatch z⟩⟩,hps.2.2,na,nb⟩ ?_ ⟨?_,s811 _ _ kra8,s811 _ _ krb8,nab⟩ (S08.trans s811)
    ·show x::rest=x::(ps.map ptS++("+" : Str)::(as++("-" : Str)::bs))
     rw [← e,hps.1,List.take_append_drop]
    ·rw [Zg]
     rfl
   ·rw [hany]
    refine Z2 (kn (fun d hd e=>?_) H8 S08)
    obtain ⟨_,_,_,_,_,_,hp⟩:=dks d hd e
    exact hno _ hp
  ·refine ⟨_,rfl,_,rfl,rfl,_,rfl,Yr (fun z=>absurd (by rw [epl.mpr h43]) z) (fun _=>?_)⟩
   dsimp only [Zk]
   have hl:=hpn h43
   refine ⟨_,rfl,rfl,l6,_,rfl,SqL.of k6,fun v hv=>hzf v hv,_,rfl,?_⟩
   rw [List.take_of_length_le (Nat.le_of_eq hl)] at hzc
   rcases hzc with ⟨ps,hps,rfl⟩ | ⟨hno,hany⟩
   ·rw [Zj2]
    refine Zr ?_
    dsimp only [Zk]
    refine ⟨_,rfl,l,_,0,.str x,rfl,rfl,SqL.of k16,Yz (j:=0) rfl,by show 1<=sizeLine; lia,fun l9 hl9=>?_⟩
    have S9:=Same.new (o:=.lst [.str x]) hl9
    have k9:(upd H6 l9 (.lst [.str x])) l9=some (.lst [.str x]):=Zg
    generalize (upd H6 l9 (.lst [.str x]))=H9 at S9 k9 ⊢
    refine ⟨_,rfl,l9,l6,_,_,rfl,rfl,k9,S9 _ _ k6,by show 1+(ps.map ptV).length<=sizeLine; lia,fun l10 hl10=>?_⟩
    have S10:=Same.new (o:=.lst ([V.str x]++ps.map ptV)) hl10
    have k10:(upd H9 l10 (.lst ([V.str x]++ps.map ptV))) l10=some (.lst ([V.str x]++ps.map ptV)):=Zg
    generalize (upd H9 l10 (.lst ([V.str x]++ps.map ptV)))=H10 at S10 k10 ⊢
    refine ⟨l10,_,rfl,.inl ⟨SqL.of k10,fun p hp=>?_⟩⟩
    have S11:=Same.new (o:=.tup ([V.str x]++ps.map ptV)) hp
    refine kq ⟨x,ps,none⟩ p 0 0 _ ⟨⟨f',hf,hps.2.1,.inr ⟨h43,rfl⟩⟩,hps.2.2,trivial⟩ ?_ ⟨?_,trivial⟩ (S06.trans ((S9.trans S10).trans S11))
    ·show x::rest=x::(ps.map ptS ++ [])
     rw [List.append_nil,hps.1]
    ·rw [Zg]
     show _=some (HO.tup (V.str x::(ps.map ptV ++ [])))
     rw [List.append_nil]
     rfl
   ·rw [hany]
    exact Z2 (kn (fun d hd e=>hno _ (hd.plain e hf h43).2) H6 S06)
end
section
variable {P:Program}{w:World}{K:PySem.W.Frag}{mg:Str->Option Value}{base:Heap}
theorem Zaj {n m:Nat}{a b:Str}(h1:Yk n a) (h2:Yk m b):Yk (n+m) (a++b):=by
 refine ⟨by rw [PySem.Str.length_append]; have:=h1.1; have:=h2.1; lia,fun c hc=>?_⟩
 rw [Y6] at hc
 exact (List.mem_append.mp hc).elim (h1.2 c) (h2.2 c)
theorem Zbb {n m:Nat}{a:Str}(h:Yk n a) (hm:n<=m):Yk m a:=⟨Nat.le_trans h.1 hm,h.2⟩
theorem Ztf {n:Nat}{t:Str}(h:Yk n t) {i:Int}(hi : 0<=i):Yk n (Txt.slice t none (some i)):=by
 have e:=Zch t hi
 refine ⟨by rw [← Zu,e,List.length_take,Zu]; have:=h.1; lia,fun c hc=>h.2 c ?_⟩
 rw [e] at hc
 exact List.mem_of_mem_take hc
theorem Zj4 {n:Nat}{t:Str}(h:Yk n t) {i:Int}(hi : 0<=i):Yk n (Txt.slice t (some i) none):=by
 have e:=Zjf t hi
 refine ⟨by rw [← Zu,e,List.length_drop,Zu]; have:=h.1; lia,fun c hc=>h.2 c ?_⟩
 rw [e] at hc
 exact List.mem_of_mem_drop hc
def tot (ws:List Str):Nat:=(ws.map fun x=>x.length+1).sum
theorem Zab (a b:List Str):tot (a++b)=tot a+tot b:=by unfold tot; rw [List.map_append,List.sum_append]
theorem Zj5 (x:Str):tot [x]=x.length+1:=rfl
theorem Zem:∀ (as:List (List Nat)) (c:Nat),c∈jn as->c=32\/∃ a∈as,c∈a
 | [],c,h=>nomatch h
 | [a],c,h=>.inr ⟨a,List.mem_singleton.mpr rfl,h⟩
 | a::b::r,c,h=>by
  have h:c∈a++32::jn (b::r):=h
  rcases List.mem_append.mp h with z | z
  ·exact .inr ⟨a,List.mem_cons_self,z⟩
  rcases List.mem_cons.mp z with z | z
  ·exact .inl z
  ·exact (Zem (b::r) c z).imp id fun ⟨y,hy,hc⟩=>⟨y,List.mem_cons_of_mem _ hy,hc⟩
theorem Zfh:∀ (ws:List Str),(jn (ws.map cs)).length<=tot ws/\(ws ≠ []->tot ws=(jn (ws.map cs)).length+1)
 | []=>⟨Nat.zero_le _,fun h=>absurd rfl h⟩
 | [x]=>by
  have e:tot [x]=(jn ([x].map cs)).length+1:=by show x.length+1=(cs x).length+1; rw [Zu]
  exact ⟨by lia,fun _=>e⟩
 | x::y::r=>by
  have ih:=(Zfh (y::r)).2 (by simp)
  have e:tot (x::y::r)=(jn ((x::y::r).map cs)).length+1:=by
   have e1:tot (x::y::r)=(x.length+1)+tot (y::r):=rfl
   have e2:jn ((x::y::r).map cs)=cs x++32::jn ((y::r).map cs):=rfl
   rw [e1,e2,ih,List.length_append,List.length_cons,Zu]
   lia
  exact ⟨by lia,fun _=>e⟩
theorem Ztg {n:Nat}{t:Str}{ws:List Str}(h:Yk n t) (hs:∀ x∈ws,x∈Txt.split t " ") (ht:tot ws<=2 * tot (Txt.split t " ")):Yk (2 * n+2) (Txt.join " " ws)/\tot ws<=2 * n+2:=by
 have e:Txt.join " " ws=Str.join " " ws:=StrLaws.glued_eq_join " " ws
 have hp : 1<=(Txt.split t " ").length:=PyProof.Rows.split_pos _ _
 have e2:=(Zfh (Txt.split t " ")).2 (fun z=>by rw [z] at hp; exact absurd hp (by simp))
 rw [← Zej,Zu] at e2
 have hl:=h.1
 have h3:=(Zfh ws).1
 refine ⟨⟨?_,fun c hc=>?_⟩,by lia⟩
 ·rw [e,← Zu,Uo]; lia
 ·rw [e,Uo] at hc
  rcases Zem _ c hc with rfl | ⟨a,ha,hc⟩
  ·decide
  ·obtain ⟨x,hx,rfl⟩:=List.mem_map.mp ha
   refine h.2 c ?_
   rw [Zej t]
   exact (Zf1 ((Txt.split t " ").map cs)).1 (cs x) (List.mem_map_of_mem (hs x hx)) |>.1 c hc
theorem Zj6 (ws:List Str) (j:Nat):tot (ws.take j)+tot (ws.drop j)=tot ws:=by rw [← Zab,List.take_append_drop]
theorem Zu4 {ws:List Str}{j:Nat}(hj:j < ws.length):tot (ws.drop j)=(ws[j].length+1)+tot (ws.drop (j+1)):=by
 rw [List.drop_eq_getElem_cons hj]
 rfl
theorem Zth (ws:List Str):(ws.map (·.length)).sum+ws.length * (" " : Str).length=tot ws:=by
 have e:(" " : Str).length=1:=by decide +kernel
 rw [e,Nat.mul_one]
 induction ws with
 | nil=>rfl
 | cons x r ih =>
  have e1:tot (x::r)=(x.length+1)+tot r:=rfl
  rw [e1,List.map_cons,List.sum_cons,List.length_cons,← ih]
  lia
theorem Zu5 (xs:List V) (j:Nat) (h:j<=xs.length):Z1 xs none (some (j:Int))=xs.take j:=by
 unfold Z1
 rw [HT.sIx_none,HT.sIx_nat,Nat.min_eq_left h,List.drop_zero,Nat.sub_zero]
abbrev someS:Str := " !\"#$&'()*+,-./0123456789:;<=>?@ABCDEFGHIJKLMNOPQRSTUVWXYZ[\\]^_`abcdefghijklmnopqrstuvwxyz{|}~"
theorem Zrs:someS.length=94:=by decide +kernel
theorem Zo9:∀ c∈cs someS,c < 16 ^ 8:=by decide +kernel
abbrev fiveS:Str := " 0a+-"
theorem Zpa:∀ c∈cs fiveS,c < 16 ^ 8:=by decide +kernel
theorem Zk2 {x:Str}(h:∀ c∈cs x,c < 16 ^ 8) {d:Int}(d0 : 0<=d) (d1:d < x.length):∃ c,atI x.cps.toList d=some c/\Yk 1 ⟨#[c]⟩:=by
 obtain ⟨j,rfl⟩:=Int.eq_ofNat_of_zero_le d0
 have hj:j < (cs x).length:=by rw [Zu]; lia
 refine ⟨(cs x)[j],Yz (List.getElem?_eq_getElem hj),Nat.le_refl _,fun c hc=>?_⟩
 have:c=(cs x)[j]:=by simpa [cs] using hc
 rw [this]
 exact h _ (List.getElem_mem hj)
def Zj7:Sp:=fun vs H Q _=>∃ (s la:Addr) (t:Str) (n:Nat),vs = [.ref s,.str t]/\SrcAt H s la/\Yk n t/\n<=4500/\∀ t' H',Yk (2 * n+2) t'->SrcAt H' s la->SameX s H H'->Q (.str t') H'
abbrev Wi:Stmt:=top 35
theorem V8:FnScope ["_law_src_here", "_law_text", "_law_some", "_law_kind", "_law_at", "_law_sign", "_law_words", "_law_place"] ["_law_src_here", "_law_text"] (Za Wi):=⟨rfl,rfl,rfl,by decide +kernel,rfl,by decide +kernel,by decide +kernel⟩
theorem V9:Nm (Za Wi) "_law_at" .local:=by decide +kernel
theorem U1:Nm (Za Wi) "_law_kind" .local:=by decide +kernel
theorem Za1:Nm (Za Wi) "_law_next" .globalImplicit:=by decide +kernel
theorem Vv:Nm (Za Wi) "_law_place" .local:=by decide +kernel
theorem Zdk:Nm (Za Wi) "_law_sign" .local:=by decide +kernel
theorem Zhg:Nm (Za Wi) "_law_some" .local:=by decide +kernel
theorem Za2:Nm (Za Wi) "_law_src_here" .local:=by decide +kernel
theorem Vw:Nm (Za Wi) "_law_text" .local:=by decide +kernel
theorem Ve:Nm (Za Wi) "_law_words" .local:=by decide +kernel
theorem Zhh:Nm (Za Wi) "len" .globalImplicit:=by decide +kernel
theorem Zyv (Zgg:Has K mg "_law_spoilt" Wi) (T:Txt mg) (Z4:Fn P w K mg base "_law_next" ["_law_src_here", "_law_base"] 1 Vk):Fn P w K mg base "_law_spoilt" ["_law_src_here", "_law_text"] 2 Zj7:=by
 refine Zgg.fnQ V8 (fun _ _ _ _ _ _ us hl=>match us,hl with | [_,_],_=>rfl) (fun vs H Q E h=>?_) (fun f cdv A outer s H vs Q E hr h=>?_)
 ·obtain ⟨s,la,t,n,rfl,_⟩:=h
  rfl
 ·obtain ⟨s,la,t,n,rfl,hs,ht,hn,k⟩:=h
  refine ⟨_,(Zf (Zm (i:=2) V8.nd Zhg Zh)
 (Zf (Zm (i:=3) V8.nd U1 (Zo Z4 (hr.mono (by lia)) Za1 (Zb (qvN 0 Za2) (Zb Zd Zc))))
 (Zf (Zm (i:=4) V8.nd V9 (Zo Z4 (hr.mono (by lia)) Za1 (Zb (qvN 0 Za2) (Zb (Zj Yp (Zw Wu Zhh T.len Yh (Zb (qvN 1 Vw) Zc)) Zd) Zc))))
 (Zf (Zm (i:=5) V8.nd Zdk (Zy Uj (qvN 2 Zhg) (Zo Z4 (hr.mono (by lia)) Za1 (Zb (qvN 0 Za2) (Zb (Zw Wu Zhh T.len Yh (Zb (qvN 2 Zhg) Zc)) Zc))) (fun _ _=>rfl)))
 (Zf (Zp (Zl Yi (Zo Z4 (hr.mono (by lia)) Za1 (Zb (qvN 0 Za2) (Zb Zd Zc))) Zd (Zn _)) (Ze (Zm (i:=5) V8.nd Zdk (Zy Uj Zh (Zo Z4 (hr.mono (by lia)) Za1 (Zb (qvN 0 Za2) (Zb Zd Zc))) (fun _ _=>rfl)))) Zs)
 (Zf (Zm (i:=6) V8.nd Ve (Wn F.plainAttrs_str F.slot_str_split F.type_str_split Zd2 (qvN 1 Vw) (Zb Zh Zc)))
 (Zf (Zm (i:=7) V8.nd Vv (Zo Z4 (hr.mono (by lia)) Za1 (Zb (qvN 0 Za2) (Zb (Zw Wt Zhh T.len Yh (Zb (qvN 6 Ve) Zc)) Zc))))
 (Zf (Zp (Zl Yi (qvN 3 U1) Zd (Zn _)) (Ze (Zi (Zj Wd (Zj Wd (Z7 Ws (qvN 1 Vw) Yb (Z3 (qvN 4 V9))) (qvN 5 Zdk)) (Z7 Ws (qvN 1 Vw) (Z3 (qvN 4 V9)) Yb)))) Zs)
 (Zf (Zp (Zl Yi (qvN 3 U1) Zd (Zn _)) (Ze (Zi (Zj Wd (Z7 Ws (qvN 1 Vw) Yb (Z3 (qvN 4 V9))) (Z7 Ws (qvN 1 Vw) (Z3 (Zj Yp (qvN 4 V9) Zd)) Yb)))) Zs)
 (Zf (Zp (Zl Yi (qvN 3 U1) Zd (Zn _)) (Ze (Zi (Zj Wd (Zj Wd (Z7 Ws (qvN 1 Vw) Yb (Z3 (qvN 4 V9))) (qvN 5 Zdk)) (Z7 Ws (qvN 1 Vw) (Z3 (Zj Yp (qvN 4 V9) Zd)) Yb)))) Zs)
 (Zf (Zp (Zl Yi (qvN 3 U1) Zd (Zn _)) (Ze (Zi (Wn F.plainAttrs_str F.slot_str_join F.type_str_join Zb7 Zh (Zb (Zj Wr (Z7 Y7 (qvN 6 Ve) Yb (Z3 (qvN 7 Vv))) (Z7 Y7 (qvN 6 Ve) (Z3 (Zj Yp (qvN 7 Vv) Zd)) Yb)) Zc)))) Zs)
 (Zf (Zp (Zl Yi (qvN 3 U1) Zd (Zn _)) (Ze (Zi (Wn F.plainAttrs_str F.slot_str_join F.type_str_join Zb7 Zh (Zb (Zj Wr (Zj Wr (Z7 Y7 (qvN 6 Ve) Yb (Z3 (qvN 7 Vv))) (Ys (Zb (Zy Yc (qvN 6 Ve) (qvN 7 Vv) (fun _ _=>rfl)) Zc))) (Z7 Y7 (qvN 6 Ve) (Z3 (qvN 7 Vv)) Yb)) Zc)))) Zs)
 (Zf (Zp (Zl Yi (qvN 3 U1) Zd (Zn _)) (Ze (Zi (Wn F.plainAttrs_str F.slot_str_join F.type_str_join Zb7 Zh (Zb (Zj Wr (Zj Wr (Z7 Y7 (qvN 6 Ve) Yb (Z3 (qvN 7 Vv))) (Z7 Y7 (qvN 6 Ve) (Z3 (Zj Yp (qvN 7 Vv) Zd)) Yb)) (Ys (Zb (Zy Yc (qvN 6 Ve) (qvN 7 Vv) (fun _ _=>rfl)) Zc))) Zc)))) Zs)
 (Ze (Zi (Z7 Ws (qvN 1 Vw) Yb (Z3 (qvN 4 V9)))))))))))))))))),?_⟩
  have hz:(200000:Nat)<=sizeLine:=by decide
  have hl0:=ht.1
  have hsl:=Zrs
  refine ⟨_,rfl,s,la,7,rfl,hs,by decide,by decide,fun kd H1 _ _ hs1 sx1=>?_⟩
  refine Zv ?_
  dsimp only [Zk]
  refine ⟨_,rfl,_,rfl,t,rfl,by lia,_,_,rfl,rfl,s,la,_,rfl,hs1,by lia,by lia,fun at_ H2 at0 at1 hs2 sx2=>?_⟩
  refine Zv ?_
  dsimp only [Zk]
  refine ⟨_,rfl,_,rfl,_,rfl,someS,rfl,by lia,s,la,_,rfl,hs2,by lia,by lia,fun d H3 d0 d1 hs3 sx3=>?_⟩
  obtain ⟨c0,hc0,hw0⟩:=Zk2 Zo9 d0 d1
  refine ⟨someS,d,c0,rfl,rfl,by lia,hc0,?_⟩
  refine Zv ?_
  dsimp only [Zk]
  have sx03:=(sx1.trans sx2).trans sx3
  refine Zcj (fun σ H'=>∃ sg:Str,Yk 1 sg /\ σ = [some (.ref s),some (.str t),some (.str someS),some (.int kd),some (.int at_),some (.str sg),none,none]/\SrcAt H' s la/\SameX s H H') ?_ (fun D' hn' hrt _ _=>?_)
  rotate_left
  ·refine ⟨_,rfl,s,la,2,rfl,hs3,by decide,by decide,fun d2 H4 _ _ hs4 sx4=>?_⟩
   refine ⟨rfl,_,rfl,Zq (fun _=>?_) (fun _=>hn' _ _ ⟨_,hw0,rfl,hs4,sx03.trans sx4⟩)⟩
   refine ⟨_,rfl,s,la,5,rfl,hs4,by decide,by decide,fun d3 H5 d30 d31 hs5 sx5=>?_⟩
   obtain ⟨c1,hc1,hw1⟩:=Zk2 Zpa d30 (show d3 < (fiveS.length:Int) from d31)
   exact ⟨fiveS,d3,c1,rfl,rfl,by decide,hc1,hn' _ _ ⟨_,hw1,rfl,hs5,(sx03.trans sx4).trans sx5⟩⟩
  rintro σ H6 ⟨sg,hsg,rfl,hs6,sx6⟩
  have hsg1:=hsg.1
  refine ⟨_,rfl,rfl,t, " ", rfl,rfl,by decide +kernel,by lia,fun l hl=>?_⟩
  obtain ⟨x0,r0,es,_,hlr⟩:=Zek ht (by lia)
  have hsub:∀ {ws:List Str},(∀ x∈ws,x∈Txt.split t " ")->tot ws<=2 * tot (Txt.split t " ")->Yk (2 * n+2) (Txt.join " " ws)/\tot ws<=2 * n+2:=fun h1 h2=>Ztg ht h1 h2
  have hwl:(Txt.split t " ").length<=n+1/\1<=(Txt.split t " ").length:=by rw [es,List.length_cons]; lia
  generalize Txt.split t " " = ws at hsub hwl ⊢
  have S7:=Same.new (o:=.lst (ws.map V.str)) hl
  have k7:(upd H6 l (.lst (ws.map V.str))) l=some (.lst (ws.map V.str)):=Zg
  have nls:=(hs6.ne hl).1
  generalize (upd H6 l (.lst (ws.map V.str)))=H7 at S7 k7 ⊢
  have hs7:=hs6.keep S7
  refine Zv ?_
  dsimp only [Zk]
  refine ⟨_,rfl,_,rfl,l,_,rfl,.inl (SqL.of k7),s,la,_,rfl,hs7,by rw [List.length_map]; lia,by rw [List.length_map]; lia,fun pl H8 p0 p1 hs8 sx8=>?_⟩
  rw [List.length_map] at p1
  obtain ⟨j,rfl⟩:=Int.eq_ofNat_of_zero_le p0
  have hj:j < ws.length:=by lia
  have k8:=sx8 _ _ nls k7
  have sx08:=(sx6.trans S7.x).trans sx8
  refine Zv ?_
  dsimp only [Zk]
  have tc:=Zj6 ws j
  have tc1:=Zj6 ws (j+1)
  have ta:=Zu4 hj
  have e1:Z1 (ws.map V.str) none (some (j:Int))=(ws.take j).map V.str:=by rw [Zu5 _ _ (by rw [List.length_map]; lia),List.map_take]
  have e2:Z1 (ws.map V.str) (some ((j:Int)+1)) none=(ws.drop (j+1)).map V.str:=by rw [show ((j:Int)+1)=((j+1:Nat):Int) by lia,Za8 _ _ (by rw [List.length_map]; lia),List.map_drop]
  have e3:Z1 (ws.map V.str) (some (j:Int)) none=(ws.drop j).map V.str:=by rw [Za8 _ _ (by rw [List.length_map]; lia),List.map_drop]
  have l1:(ws.take j).length<=5000:=by rw [List.length_take]; lia
  have l2:(ws.drop (j+1)).length<=5000:=by rw [List.length_drop]; lia
  have l3:(ws.drop j).length<=5000:=by rw [List.length_drop]; lia
  have wj:(ws.map V.str)[j]? = some (V.str ws[j]):=by rw [List.getElem?_map,List.getElem?_eq_getElem hj]; rfl
  have mt:∀ x∈ws.take j,x∈ws:=fun x hx=>List.mem_of_mem_take hx
  have md:∀ {i},∀ x∈ws.drop i,x∈ws:=fun x hx=>List.mem_of_mem_drop hx
  have mj:ws[j]∈ws:=List.getElem_mem hj
  have fin:∀ {ws':List Str}{H':Hp}{l':Addr},H' l'=some (.lst (ws'.map V.str))->(∀ x∈ws',x∈ws)->tot ws'<=2 * tot ws->Same H8 H'->Zlk K (.str " ") [.ref l'] H' Q:=fun {ws' H' l'} hl' h1 h2 sm=>by
   obtain ⟨h3,h4⟩:=hsub h1 h2
   exact ⟨" ", l',ws',rfl,rfl,SqL.of hl',by rw [Zth]; lia,k _ _ h3 (hs8.keep sm) (sx08.trans sm.x)⟩
  have tu:=Ztf ht at0
  have tf:=Zj4 ht at0
  have tf1:=Zj4 ht (show 0<=at_+1 by lia)
  have ul:=tu.1
  have fl:=tf.1
  have fl1:=tf1.1
  have usl:=(Zaj tu hsg).1
  refine ⟨_,rfl,rfl,_,rfl,Zq (fun _=>?_) (fun _=>?_)⟩
  ·refine ⟨_,rfl,_,rfl,at_,rfl,t,rfl,by lia,_,rfl,_,_,rfl,rfl,by lia,?_⟩
   refine ⟨_,rfl,_,rfl,at_,rfl,t,rfl,by lia,_,_,rfl,rfl,by lia,?_⟩
   exact k _ _ (Zbb (Zaj (Zaj tu hsg) tf) (by lia)) hs8 sx08
  dsimp only [Zk]
  refine ⟨_,rfl,rfl,_,rfl,Zq (fun _=>?_) (fun _=>?_)⟩
  ·refine ⟨_,rfl,_,rfl,at_,rfl,t,rfl,by lia,?_⟩
   refine ⟨_,rfl,_,rfl,_,_,rfl,rfl,_,rfl,t,rfl,by lia,_,_,rfl,rfl,by lia,?_⟩
   exact k _ _ (Zbb (Zaj tu tf1) (by lia)) hs8 sx08
  dsimp only [Zk]
  refine ⟨_,rfl,rfl,_,rfl,Zq (fun _=>?_) (fun _=>?_)⟩
  ·refine ⟨_,rfl,_,rfl,at_,rfl,t,rfl,by lia,_,rfl,_,_,rfl,rfl,by lia,?_⟩
   refine ⟨_,rfl,_,rfl,_,_,rfl,rfl,_,rfl,t,rfl,by lia,_,_,rfl,rfl,by lia,?_⟩
   exact k _ _ (Zbb (Zaj (Zaj tu hsg) tf1) (by lia)) hs8 sx08
  dsimp only [Zk]
  refine ⟨_,rfl,rfl,_,rfl,Zq (fun _=>?_) (fun _=>?_)⟩
  ·refine ⟨rfl,_,rfl,_,rfl,_,rfl,l,_,rfl,SqL.of k8,fun a1 ha1=>?_⟩
   rw [e1]
   have A1:=Same.new (o:=.lst ((ws.take j).map V.str)) ha1
   have q1:(upd H8 a1 (.lst ((ws.take j).map V.str))) a1=some (.lst ((ws.take j).map V.str)):=Zg
   generalize (upd H8 a1 (.lst ((ws.take j).map V.str)))=G1 at A1 q1 ⊢
   refine ⟨_,rfl,_,rfl,_,_,rfl,rfl,_,rfl,l,_,rfl,SqL.of (A1 _ _ k8),fun a2 ha2=>?_⟩
   rw [e2]
   have A2:=Same.new (o:=.lst ((ws.drop (j+1)).map V.str)) ha2
   have q2:(upd G1 a2 (.lst ((ws.drop (j+1)).map V.str))) a2=some (.lst ((ws.drop (j+1)).map V.str)):=Zg
   generalize (upd G1 a2 (.lst ((ws.drop (j+1)).map V.str)))=G2 at A2 q2 ⊢
   refine ⟨a1,a2,_,_,rfl,rfl,A2 _ _ q1,q2,by rw [List.length_map,List.length_map]; lia,fun a3 ha3=>?_⟩
   refine fin (ws':=ws.take j++ws.drop (j+1)) (by rw [Zg,List.map_append]) (fun x hx=>(List.mem_append.mp hx).elim (mt x) (md x)) (by rw [Zab]; lia) ((A1.trans A2).trans (Same.new ha3))
  dsimp only [Zk]
  refine ⟨_,rfl,rfl,_,rfl,Zq (fun _=>?_) (fun _=>?_)⟩
  ·refine ⟨rfl,_,rfl,_,rfl,_,rfl,l,_,rfl,SqL.of k8,fun a1 ha1=>?_⟩
   rw [e1]
   have A1:=Same.new (o:=.lst ((ws.take j).map V.str)) ha1
   have q1:(upd H8 a1 (.lst ((ws.take j).map V.str))) a1=some (.lst ((ws.take j).map V.str)):=Zg
   generalize (upd H8 a1 (.lst ((ws.take j).map V.str)))=G1 at A1 q1 ⊢
   refine ⟨_,rfl,_,rfl,l,_,j,.str ws[j],rfl,rfl,SqL.of (A1 _ _ k8),Yz wj,by show 1<=sizeLine; lia,fun a2 ha2=>?_⟩
   have A2:=Same.new (o:=.lst [.str ws[j]]) ha2
   have q2:(upd G1 a2 (.lst [.str ws[j]])) a2=some (.lst [.str ws[j]]):=Zg
   generalize (upd G1 a2 (.lst [.str ws[j]]))=G2 at A2 q2 ⊢
   refine ⟨a1,a2,_,_,rfl,rfl,A2 _ _ q1,q2,by rw [List.length_map]; show (ws.take j).length+1<=sizeLine; lia,fun a3 ha3=>?_⟩
   have A3:=Same.new (o:=.lst ((ws.take j).map V.str ++ [.str ws[j]])) ha3
   have q3:(upd G2 a3 (.lst ((ws.take j).map V.str ++ [.str ws[j]]))) a3=some (.lst ((ws.take j).map V.str ++ [.str ws[j]])):=Zg
   generalize (upd G2 a3 (.lst ((ws.take j).map V.str ++ [.str ws[j]])))=G3 at A3 q3 ⊢
   have A03:=(A1.trans A2).trans A3
   refine ⟨_,rfl,_,rfl,_,rfl,l,_,rfl,SqL.of (A03 _ _ k8),fun a4 ha4=>?_⟩
   rw [e3]
   have A4:=Same.new (o:=.lst ((ws.drop j).map V.str)) ha4
   have q4:(upd G3 a4 (.lst ((ws.drop j).map V.str))) a4=some (.lst ((ws.drop j).map V.str)):=Zg
   generalize (upd G3 a4 (.lst ((ws.drop j).map V.str)))=G4 at A4 q4 ⊢
   refine ⟨a3,a4,_,_,rfl,rfl,A4 _ _ q3,q4,by rw [List.length_append,List.length_map,List.length_map]; show (ws.take j).length+1+(ws.drop j).length<=sizeLine; lia,fun a5 ha5=>?_⟩
   refine fin (ws':=ws.take j ++ [ws[j]]++ws.drop j) (by rw [Zg,List.map_append,List.map_append]; rfl) (fun x hx=>?_) (by rw [Zab,Zab,Zj5]; lia) ((A03.trans A4).trans (Same.new ha5))
   rcases List.mem_append.mp hx with hx | hx
   ·rcases List.mem_append.mp hx with hx | hx
    ·exact mt x hx
    ·rw [List.mem_singleton.mp hx]; exact mj
   ·exact md x hx
  dsimp only [Zk]
  refine ⟨_,rfl,rfl,_,rfl,Zq (fun _=>?_) (fun _=>?_)⟩
  ·refine ⟨rfl,_,rfl,_,rfl,_,rfl,l,_,rfl,SqL.of k8,fun a1 ha1=>?_⟩
   rw [e1]
   have A1:=Same.new (o:=.lst ((ws.take j).map V.str)) ha1
   have q1:(upd H8 a1 (.lst ((ws.take j).map V.str))) a1=some (.lst ((ws.take j).map V.str)):=Zg
   generalize (upd H8 a1 (.lst ((ws.take j).map V.str)))=G1 at A1 q1 ⊢
   refine ⟨_,rfl,_,rfl,_,_,rfl,rfl,_,rfl,l,_,rfl,SqL.of (A1 _ _ k8),fun a2 ha2=>?_⟩
   rw [e2]
   have A2:=Same.new (o:=.lst ((ws.drop (j+1)).map V.str)) ha2
   have q2:(upd G1 a2 (.lst ((ws.drop (j+1)).map V.str))) a2=some (.lst ((ws.drop (j+1)).map V.str)):=Zg
   generalize (upd G1 a2 (.lst ((ws.drop (j+1)).map V.str)))=G2 at A2 q2 ⊢
   refine ⟨a1,a2,_,_,rfl,rfl,A2 _ _ q1,q2,by rw [List.length_map,List.length_map]; lia,fun a3 ha3=>?_⟩
   have A3:=Same.new (o:=.lst ((ws.take j).map V.str++(ws.drop (j+1)).map V.str)) ha3
   have q3:(upd G2 a3 (.lst ((ws.take j).map V.str++(ws.drop (j+1)).map V.str))) a3=some (.lst ((ws.take j).map V.str++(ws.drop (j+1)).map V.str)):=Zg
   generalize (upd G2 a3 (.lst ((ws.take j).map V.str++(ws.drop (j+1)).map V.str)))=G3 at A3 q3 ⊢
   have A03:=(A1.trans A2).trans A3
   refine ⟨_,rfl,_,rfl,l,_,j,.str ws[j],rfl,rfl,SqL.of (A03 _ _ k8),Yz wj,by show 1<=sizeLine; lia,fun a4 ha4=>?_⟩
   have A4:=Same.new (o:=.lst [.str ws[j]]) ha4
   have q4:(upd G3 a4 (.lst [.str ws[j]])) a4=some (.lst [.str ws[j]]):=Zg
   generalize (upd G3 a4 (.lst [.str ws[j]]))=G4 at A4 q4 ⊢
   refine ⟨a3,a4,_,_,rfl,rfl,A4 _ _ q3,q4,by rw [List.length_append,List.length_map,List.length_map]; show (ws.take j).length+(ws.drop (j+1)).length+1<=sizeLine; lia,fun a5 ha5=>?_⟩
   refine fin (ws':=ws.take j++ws.drop (j+1) ++ [ws[j]]) (by rw [Zg,List.map_append,List.map_append]; rfl) (fun x hx=>?_) (by rw [Zab,Zab,Zj5]; lia) ((A03.trans A4).trans (Same.new ha5))
   rcases List.mem_append.mp hx with hx | hx
   ·exact (List.mem_append.mp hx).elim (mt x) (md x)
   ·rw [List.mem_singleton.mp hx]; exact mj
  dsimp only [Zk]
  refine ⟨_,rfl,_,rfl,at_,rfl,t,rfl,by lia,?_⟩
  exact k _ _ (Zbb tu (by lia)) hs8 sx08
end
section
variable {P:Program}{w:World}{K:PySem.W.Frag}{mg:Str->Option Value}{base:Heap}{c:Str->Addr}{kP kS:List (Str×Tok×Addr)}
def Zgh:Option (List Str×List Str)->List D
 | none=>[]
 | some (a,b)=>[.lst (a.map D.str),.lst (b.map D.str)]
def ddD (d:Dd):D:=.tup (.str d.w::(d.ps.map ptD++Zgh d.rows))
theorem Zrt {H:Hp}{rw:Option (List Str×List Str)}{ra rb:Addr}(h:Zfg H rw ra rb):RepL H (Zgh rw) (Y3 rw ra rb):=by
 cases rw with
 | none=>rfl
 | some ab =>
  obtain ⟨a,b⟩:=ab
  obtain ⟨h1,h2,_⟩:=h
  exact ⟨.ref ra,[.ref rb],rfl,⟨ra,_,rfl,h1,Zcm _⟩,⟨.ref rb,[],rfl,⟨rb,_,rfl,h2,Zcm _⟩,rfl⟩⟩
theorem Zk3 {H:Hp}{as:List D}{vs:List V}(h:RepL H as vs):∀ ps:List Pt,RepL H (ps.map ptD++as) (ps.map ptV++vs)
 | []=>h
 | p::ps=>⟨ptV p,ps.map ptV++vs,rfl,Zky p,Zk3 h ps⟩
theorem Zk4 {H:Hp}{d:Dd}{p ra rb:Addr}(h:DdAt H d p ra rb):Rep H (ddD d) (.ref p):=⟨p,_,rfl,h.1,⟨.str d.w,_,rfl,rfl,Zk3 (Zrt h.2) d.ps⟩⟩
theorem Ziq:∀ l:List Str,Y1 (l.map D.str)=0
 | []=>rfl
 | x::l=>by rw [List.map_cons,Y1,Ziq l]; rfl
theorem Zti (d:Dd):(ddD d).deep<=4:=by
 have h:∀ ps:List Pt,Y1 (ps.map ptD++Zgh d.rows)<=1:=by
  intro ps
  induction ps with
  | nil =>
   cases d.rows with
   | none=>exact Nat.zero_le _
   | some ab =>
    obtain ⟨a,b⟩:=ab
    show Y1 [.lst (a.map D.str),.lst (b.map D.str)]<=1
    simp [Y1,D.deep,Ziq]
  | cons p ps ih=>cases p <;> (simp only [List.map_cons,List.cons_append,Y1,ptD,D.deep]; lia)
 have:=h d.ps
 unfold ddD
 simp only [D.deep,Y1]
 lia
theorem DdAt.mono {H H':Hp}{d:Dd}{p ra rb:Addr}(h:DdAt H d p ra rb) (k:Same H H'):DdAt H' d p ra rb:=by
 refine ⟨k _ _ h.1,?_⟩
 have h2:=h.2
 cases e:d.rows with
 | none=>trivial
 | some ab=>rw [e] at h2; exact ⟨k _ _ h2.1,k _ _ h2.2.1,h2.2.2⟩
theorem Ztj {d:Dd}(h:DdOk K kP kS d):Yk 600 (text d):=by
 refine ⟨by rw [Zd7]; exact Zba h (List.prefix_refl _),fun c hc=>?_⟩
 rw [Zd7,Uo] at hc
 have big:c<=122->c < 16 ^ 8:=fun h=>Nat.lt_of_le_of_lt h (by decide)
 rcases Zem _ c hc with rfl | ⟨a,ha,hc⟩
 ·decide
 obtain ⟨x,hx,rfl⟩:=List.mem_map.mp ha
 refine big ?_
 rcases List.mem_cons.mp hx with rfl | hx
 ·exact (h.word.1 c hc).2
 rcases List.mem_append.mp hx with hx | hx
 ·obtain ⟨p,hp,rfl⟩:=List.mem_map.mp hx
  have ok:=h.ps p hp
  cases p with
  | nm y=>exact (ok.1 c hc).2
  | no i=>have:=(Zai ok).all c hc; lia
 ·have hr:=h.rows
  cases e:d.rows with
  | none=>rw [e] at hx; cases hx
  | some ab =>
   obtain ⟨a,b⟩:=ab
   rw [e] at hx hr
   rcases List.mem_cons.mp hx with rfl | hx
   ·rw [Zez] at hc; rw [List.mem_singleton.mp hc]; decide
   rcases List.mem_append.mp hx with hx | hx
   ·exact ((hr.1.1 x hx).1 c hc).2
   ·rcases List.mem_cons.mp hx with rfl | hx
    ·rw [Zcd] at hc; rw [List.mem_singleton.mp hc]; decide
    ·exact ((hr.2.1 x hx).1 c hc).2
theorem Zoj:bootBuiltins "ValueError" = some (.type "ValueError"):=by decide +kernel
def Zj8:Sp:=fun vs H Q _=>∃ t:Str,vs = [.str t]/\Yk 10000 t/\(∀ d p ra rb l H',Dk d->Txt.split t " " = toks d->DdAt H' d p ra rb->H' l=some (.lst [.str "told", .ref p])->Same H H'->Q (.ref l) H')/\((∀ d,Dk d->Txt.split t " " ≠ toks d)->∀ l H',H' l=some (.lst [.str "refused", .bl true])->Same H H'->Q (.ref l) H')
abbrev Wz:Stmt:=top 36
theorem Zbn:FnScope ["_law_text", "_law_found_here", "e"] ["_law_text"] (Za Wz):=⟨rfl,rfl,rfl,by decide +kernel,rfl,by decide +kernel,by decide +kernel⟩
theorem Zyw:Nm (Za Wz) "MootError" .globalImplicit:=by decide +kernel
theorem Zyx:Nm (Za Wz) "NoDeed" .globalImplicit:=by decide +kernel
theorem Zyy:Nm (Za Wz) "ValueError" .globalImplicit:=by decide +kernel
theorem Zdl:Nm (Za Wz) "_law_found_here" .local:=by decide +kernel
theorem Zyz:Nm (Za Wz) "_law_text" .local:=by decide +kernel
theorem Zhi:Nm (Za Wz) "e" .local:=by decide +kernel
theorem Zme:Nm (Za Wz) "isinstance" .globalImplicit:=by decide +kernel
theorem Zy0:Nm (Za Wz) "read_deed" .globalImplicit:=by decide +kernel
theorem Zy1 (Zgi:Has K mg "_law_found" Wz) (T:Txt mg) (er:Er K mg c errs) (Zy2:FnX P w K mg base "read_deed" 4 (Zkt c)):Fn P w K mg base "_law_found" ["_law_text"] 5 Zj8:=by
 refine Zgi.fn0 Zbn (fun _ _ _ _ _ _ us hl=>match us,hl with | [_],_=>rfl) (fun vs H Q E h=>?_) (fun f cdv A outer s H vs Q E hr h=>?_)
 ·obtain ⟨t,rfl,_⟩:=h
  rfl
 ·obtain ⟨t,rfl,ht,kq,ke⟩:=h
  refine ⟨_,(Zd1 (QS.q0 (Zm (i:=1) Zbn.nd Zdl (Ys (Zb Zh (Zb Yo Zc)))))
 (Zd1 (Zuw Zkn (fun _ _ hx=>(Ze (Zm (i:=1) Zbn.nd Zdl (Ys (Zb Zh (Zb (Um hx Zy2 (hr.mono (by lia)) Zy0 (Zb (qvN 0 Zyz) Zc)) Zc))))))
 (Zvy (i:=2) Zkn Zyw (er.m) Zbn.nd Zhi (fun a C o hc=>(Ze (Zm (i:=1) Zbn.nd Zdl (Ys (Zb Zh (Zb (Zag (Zw (Zhp hc) Zme T.isinstance Wc (Zb (qvN 2 Zhi) (Zb (Uh (v:=.ref (c "NoDeed")) Zyx (er.g "NoDeed" (by decide +kernel)) rfl) Zc))) (Ui (Zw (Zhp hc) Zme T.isinstance Wc (Zb (qvN 2 Zhi) (Zb (Wh (v:=.ty "ValueError") Zyy T.ValueError Zoj rfl) Zc))))) Zc)))))) Zuv))
 (Zd1 (QS.q0 (Zi (qvN 1 Zdl)))
 (QSs.q0 Zs)))),?_⟩
  have hz:(20:Nat)<=sizeLine:=by decide
  have hm:("NoDeed" : Str)∈errs:=List.mem_cons_self
  refine ⟨by show 2<=sizeLine; lia,fun q hq=>?_⟩
  have s0:=Same.new (o:=.lst [.str "told", .non]) hq
  generalize (upd H q (.lst [.str "told", .non]))=H1 at s0 ⊢
  refine Zv ?_
  dsimp only [Zk]
  refine ⟨_,rfl,t,rfl,ht,fun d p ra rb H' hd e hat sm=>?_,fun hno H' sm=>?_⟩
  ·refine ⟨by show 2<=sizeLine; lia,fun l hl=>?_⟩
   have S1:=Same.new (o:=.lst [.str "told", .ref p]) hl
   refine Zv ?_
   dsimp only [Zk]
   exact ⟨_,rfl,kq d p ra rb l _ hd e (hat.mono S1) Zg ((s0.trans sm).trans S1)⟩
  ·refine ⟨_,rfl,true,er.e _ hm,Z2 fun a=>?_⟩
   refine ⟨_,rfl,er.k _ hm,_,.inl ⟨_,rfl,er.i _ hm _ hm⟩,_,rfl,Zq (fun _=>?_) (fun z=>absurd rfl z)⟩
   refine ⟨_,rfl,er.k _ hm,_,.inr ⟨_,rfl,er.v _ hm⟩,by show 2<=sizeLine; lia,fun l hl=>?_⟩
   have S1:=Same.new (o:=.lst [.str "refused", .bl true]) hl
   refine Zv ?_
   dsimp only [Zk]
   exact ⟨_,rfl,ke hno l _ Zg ((s0.trans sm).trans S1)⟩
def bnd:Nat->Nat
 | 0=>600
 | n+1=>2 * bnd n+2
theorem Zk5:∀ i,i<=3->bnd i<=4814/\(i<=2->bnd i<=4500)
 | 0,_=>⟨by decide,fun _=>by decide⟩
 | 1,_=>⟨by decide,fun _=>by decide⟩
 | 2,_=>⟨by decide,fun _=>by decide⟩
 | 3,_=>⟨by decide,fun h=>absurd h (by decide)⟩
 | n+4,h=>absurd h (by lia)
abbrev Ye:Stmt:=top 37
theorem sc_law:FnScope ["_law_script", "_law_src_here", "_law_names_here", "_law_k", "_law_text", "_law_more", "_law_due", "_law_found_here"] ["_law_script"] (Za Ye):=⟨rfl,rfl,rfl,by decide +kernel,rfl,by decide +kernel,by decide +kernel⟩
theorem Zy3:Nm (Za Ye) "_law_any_deed" .globalImplicit:=by decide +kernel
theorem Zhj:Nm (Za Ye) "_law_due" .local:=by decide +kernel
theorem Zy4:Nm (Za Ye) "_law_found" .globalImplicit:=by decide +kernel
theorem Zhk:Nm (Za Ye) "_law_found_here" .local:=by decide +kernel
theorem Zy5:Nm (Za Ye) "_law_k" .local:=by decide +kernel
theorem Zy6:Nm (Za Ye) "_law_more" .local:=by decide +kernel
theorem Zy7:Nm (Za Ye) "_law_names" .globalImplicit:=by decide +kernel
theorem Zmf:Nm (Za Ye) "_law_names_here" .local:=by decide +kernel
theorem Zmg:Nm (Za Ye) "_law_next" .globalImplicit:=by decide +kernel
theorem Zy8:Nm (Za Ye) "_law_read" .globalImplicit:=by decide +kernel
theorem Zy9:Nm (Za Ye) "_law_same" .globalImplicit:=by decide +kernel
theorem Zza:Nm (Za Ye) "_law_script" .local:=by decide +kernel
theorem Zzb:Nm (Za Ye) "_law_shown" .globalImplicit:=by decide +kernel
theorem Zzc:Nm (Za Ye) "_law_spoilt" .globalImplicit:=by decide +kernel
theorem Zzd:Nm (Za Ye) "_law_src" .globalImplicit:=by decide +kernel
theorem Za3:Nm (Za Ye) "_law_src_here" .local:=by decide +kernel
theorem Zb0:Nm (Za Ye) "_law_text" .local:=by decide +kernel
theorem Zmh:Nm (Za Ye) "range" .globalImplicit:=by decide +kernel
theorem Zze {f:Addr}{fd:FuncData}(F_law:Fun K "law" "law" Ye f fd) (T:Txt mg) (fms:Fms K kP kS) (Zzf:Fn P w K mg base "_law_src" ["_law_script"] 1 (Zlw K)) (Z4:Fn P w K mg base "_law_next" ["_law_src_here", "_law_base"] 1 Vk)
  (Zzg:Fn P w K mg base "_law_names" ["_law_src_here", "_law_many"] 3 Zjt) (Zzh:Fn P w K mg base "_law_any_deed" ["_law_src_here", "_law_names_here"] 3 (Zl4 K kP kS)) (Zzi:Fn P w K mg base "_law_shown" ["_law_deed"] 1 (Zi3 K kP kS))
  (Zzj:Fn P w K mg base "_law_spoilt" ["_law_src_here", "_law_text"] 2 Zj7) (Zzk:Fn P w K mg base "_law_read" ["_law_text"] 3 Zj3) (Zzl:Fn P w K mg base "_law_found" ["_law_text"] 5 Zj8)
  (Zfn:Fn P w K mg base "_law_same" ["_law_found_here", "_law_due"] 7 (Zcu 5)):FnOk P w K mg base CX0 9 f fd ["_law_script"] (Zc4 K):=by
 refine F_law.okQ sc_law (fun vs H Q E h=>?_) (fun cdv A outer s H vs Q E hr h=>?_)
 ·obtain ⟨a,ns,rfl,_⟩:=h
  rfl
 ·obtain ⟨a,ns,rfl,hS,hlen,k⟩:=h
  refine ⟨_,(Zf (Zm (i:=1) sc_law.nd Za3 (Zo Zzf (hr.mono (by lia)) Zzd (Zb (qvN 0 Zza) Zc)))
 (Zf (Zm (i:=2) sc_law.nd Zmf (Zo Zzg (hr.mono (by lia)) Zy7 (Zb (qvN 1 Za3) (Zb (Zj Yp Zd (Zo Z4 (hr.mono (by lia)) Zmg (Zb (qvN 1 Za3) (Zb Zd Zc)))) Zc))))
 (Zf (W4 PassesOwn.never rfl (U2 Zmh.1 T.range (Zb Zd Zc)) (Wq (i:=3) sc_law.nd Zy5)
 (Zf (Zm (i:=4) sc_law.nd Zb0 (Zo Zzi (hr.mono (by lia)) Zzb (Zb (Zo Zzh (hr.mono (by lia)) Zy3 (Zb (qvN 1 Za3) (Zb (qvN 2 Zmf) Zc))) Zc)))
 (Zf (W4 PassesOwn.never rfl (U2 Zmh.1 T.range (Zb (Zo Z4 (hr.mono (by lia)) Zmg (Zb (qvN 1 Za3) (Zb Zd Zc))) Zc)) (Wq (i:=5) sc_law.nd Zy6)
 (Ze (Zm (i:=4) sc_law.nd Zb0 (Zo Zzj (hr.mono (by lia)) Zzc (Zb (qvN 1 Za3) (Zb (qvN 4 Zb0) Zc))))))
 (Zf (Zm (i:=6) sc_law.nd Zhj (Zo Zzk (hr.mono (by lia)) Zy8 (Zb (qvN 4 Zb0) Zc)))
 (Zf (Zm (i:=7) sc_law.nd Zhk (Zo Zzl (hr.mono (by lia)) Zy4 (Zb (qvN 4 Zb0) Zc)))
 (Ze (Zp (Zl Za9 (qvN 6 Zhj) Yo (Zn _)) (Ze (Zp (Zl (Zrj hr) (qvN 7 Zhk) (Ys (Zb Zh (Zb Vi Zc))) (Zn _)) (Ze (Zi Vi)) Zs)) (Ze (Zp (Zae (Vh (Zo Zfn (hr.mono (by lia)) Zy9 (Zb (qvN 7 Zhk) (Zb (Ys (Zb Zh (Zb (qvN 6 Zhj) Zc))) Zc))))) (Ze (Zi Vi)) Zs)))))))))
 (Ze (Zi Vi))))),?_⟩
  have hz:(5000:Nat)<=sizeLine:=by decide
  have ok:∀ {d:D}{A B:Prop},B->if (!Yd d d)=true then A else B:=fun h=>Zal (fun z=>by rw [Zh1] at z; cases z) fun _=>h
  refine ⟨_,rfl,a,ns,rfl,hS,fun s la H1 hs hla hs1 sm1=>?_⟩
  refine Zv ?_
  dsimp only [Zk]
  refine ⟨_,rfl,_,rfl,s,la,4,rfl,hs1,by decide,by decide,fun d0 H2 d00 d01 hs2 sx2=>?_⟩
  refine ⟨_,_,rfl,rfl,s,la,_,rfl,hs2,by lia,by lia,fun na names H3 hnl hnd hnm hnf hna hs3 sx3=>?_⟩
  have nns:=(hs2.ne hnf).1
  refine Zv ?_
  dsimp only [Zk]
  refine ⟨4,rfl,by decide,by decide,?_⟩
  refine Zb5 4 rfl (fun i σ H'=>∃ (v3 v4 v5 v6 v7:Option V),σ = [some (.ref a),some (.ref s),some (.ref na),v3,v4,v5,v6,v7]/\SrcAt H' s la/\H' na=some (.lst (names.map V.str))) ⟨none,none,none,none,none,rfl,hs3,hna⟩ ?_ ?_
  ·rintro i σ H' hi ⟨v3,v4,v5,v6,v7,rfl,hs',hna'⟩
   refine ⟨_,rfl,_,rfl,s,la,na,names,rfl,hs',hna',nns,by lia,by lia,hnm,fms,fun d p ra rb H4 dok D4 hs4 sx4=>?_⟩
   have hna4:=sx4 _ _ nns hna'
   refine ⟨d,p,ra,rb,rfl,D4,dok,fun H5 s5=>?_⟩
   have hs5:=hs4.keep s5
   have hna5:=s5 _ _ hna4
   have tx0:=Ztj dok
   refine Zv ?_
   dsimp only [Zk]
   refine ⟨_,rfl,s,la,4,rfl,hs5,by decide,by decide,fun m H6 m0 m1 hs6 sx6=>?_⟩
   have hna6:=sx6 _ _ nns hna5
   refine ⟨m,rfl,by lia,by lia,?_⟩
   refine Zb5 m.toNat rfl (fun j σ H'=>∃ (t:Str) (v5:Option V),σ = [some (.ref a),some (.ref s),some (.ref na),some (.int (0+(i:Nat))),some (.str t),v5,v6,v7]/\Yk (bnd j) t/\SrcAt H' s la/\H' na=some (.lst (names.map V.str))) ⟨text d,v5,rfl,tx0,hs6,hna6⟩ ?_ ?_
   ·rintro j σ H' hj ⟨t,v5,rfl,ht,hs',hna'⟩
    refine ⟨_,rfl,_,rfl,s,la,t,bnd j,rfl,hs',ht,(Zk5 j (by lia)).2 (by lia),fun t' H7 ht' hs7 sx7=>?_⟩
    exact ⟨t',_,rfl,ht',hs7,sx7 _ _ nns hna'⟩
   rintro σ H7 ⟨t,v5,rfl,ht,hs7,hna7⟩
   have ht:=Zbb ht (Nat.le_trans (Zk5 m.toNat (by lia)).1 (show 4814<=10000 by decide))
   refine ⟨_,rfl,t,rfl,ht,fun d1 p1 ra1 rb1 H8 dk1 e1 D1 s8=>?_,fun hno H8 s8=>?_⟩
   ·refine Zv ?_
    dsimp only [Zk]
    refine ⟨_,rfl,t,rfl,ht,fun d2 p2 ra2 rb2 l2 H9 dk2 e2 D2 kl2 s9=>?_,fun hno=>absurd e1 (hno d1 dk1)⟩
    have ed:d2=d1:=Ztb dk2 dk1 (e2.symm.trans e1)
    subst ed
    refine Zv ?_
    dsimp only [Zk]
    refine ⟨_,rfl,rfl,_,rfl,Zq (fun z=>nomatch z) (fun _=>?_)⟩
    refine ⟨_,rfl,_,rfl,by show 2<=sizeLine; lia,fun l3 hl3=>?_⟩
    have S10:=Same.new (o:=.lst [.str "told", .ref p1]) hl3
    have k10:(upd H9 l3 (.lst [.str "told", .ref p1])) l3=some (.lst [.str "told", .ref p1]):=Zg
    generalize (upd H9 l3 (.lst [.str "told", .ref p1]))=H10 at S10 k10 ⊢
    have D1':=(D1.mono s9).mono S10
    have D2':=D2.mono S10
    refine ⟨.ref l2,.ref l3,.lst [.str "told", ddD d2],.lst [.str "told", ddD d2],rfl,⟨l2,_,rfl,S10 _ _ kl2,⟨_,_,rfl,rfl,⟨_,_,rfl,Zk4 D2',rfl⟩⟩⟩,⟨l3,_,rfl,k10,⟨_,_,rfl,rfl,⟨_,_,rfl,Zk4 D1',rfl⟩⟩⟩,?_,fun H11 s11=>⟨_,rfl,ok ?_⟩⟩
    ·have:=Zti d2
     simp only [D.deep,Y1]
     lia
    ·have sm:=((s8.trans s9).trans S10).trans s11
     exact ⟨_,_,_,_,_,rfl,hs7.keep sm,sm _ _ hna7⟩
   ·refine Zv ?_
    dsimp only [Zk]
    refine ⟨_,rfl,t,rfl,ht,fun d2 p2 ra2 rb2 l2 H9 dk2 e2=>absurd e2 (hno d2 dk2),fun _ l2 H9 kl2 s9=>?_⟩
    refine Zv ?_
    dsimp only [Zk]
    refine ⟨_,rfl,rfl,_,rfl,Zq (fun _=>?_) (fun z=>absurd rfl z)⟩
    refine ⟨_,rfl,by show 2<=sizeLine; lia,fun l3 hl3=>?_⟩
    have S10:=Same.new (o:=.lst [.str "refused", .bl true]) hl3
    have k10:(upd H9 l3 (.lst [.str "refused", .bl true])) l3=some (.lst [.str "refused", .bl true]):=Zg
    generalize (upd H9 l3 (.lst [.str "refused", .bl true]))=H10 at S10 k10 ⊢
    refine ⟨l2,l3,[.str "refused", .bl true],rfl,rfl,SqL.of (S10 _ _ kl2),SqL.of k10,fun v hv=>?_,_,rfl,Zr ?_⟩
    ·rcases List.mem_cons.mp hv with rfl | hv
     ·exact ⟨rfl,by decide +kernel⟩
     ·rw [List.mem_singleton.mp hv]; exact ⟨rfl,rfl⟩
    ·have sm:=(s8.trans s9).trans S10
     exact ⟨_,_,_,_,_,rfl,hs7.keep sm,sm _ _ hna7⟩
  ·rintro σ H' _
   exact k H'
end
section
def Zb1:List (Str×Tok×Addr):=[("come", 258,67),("rise", 262,68),("die", 266,69),("penance", 270,70),("bring", 272,71),("give", 275,72),("pay", 280,73)]
def Zb2:List (Str×Tok×Addr):=[("claim", 293,75),("wergild", 298,76),("accuse", 304,77)]
theorem W6 {K:PySem.W.Frag}{t:Addr}{xs:List V}{its:Array Value}(e:K.lookup t=some ⟨.type "tuple", none,.seq its 0,#[]⟩) (hz:its.size<=sizeLine) (v:Vals xs its.toList):∀ H,SqT K H t xs:=fun H=>.inr ⟨_,its,0,e,rfl,rfl,hz,v⟩
theorem Zk6 (pr:Params):Fms (KK pr) Zb1 Zb2:=by
 intro q hq
 simp only [fm10,List.mem_cons,List.not_mem_nil,or_false] at hq
 rcases hq with rfl | rfl | rfl | rfl | rfl | rfl | rfl | rfl | rfl | rfl
 ·exact .inl ⟨by decide +kernel,67,by decide +kernel,by decide +kernel,W6 (its:=#[.str "name" 259,.str "number" 260,.str "number" 261]) (by kernel_rfl) (by decide) (by rw [show Zz (cs "abb")=(["name", "number", "number"]:List Str) from by decide +kernel]; exact (.cons ⟨_,rfl⟩ (.cons ⟨_,rfl⟩ (.cons ⟨_,rfl⟩ .nil))))⟩
 ·exact .inl ⟨by decide +kernel,68,by decide +kernel,by decide +kernel,W6 (its:=#[.str "name" 263,.str "number" 264,.str "number" 265]) (by kernel_rfl) (by decide) (by rw [show Zz (cs "abb")=(["name", "number", "number"]:List Str) from by decide +kernel]; exact (.cons ⟨_,rfl⟩ (.cons ⟨_,rfl⟩ (.cons ⟨_,rfl⟩ .nil))))⟩
 ·exact .inl ⟨by decide +kernel,69,by decide +kernel,by decide +kernel,W6 (its:=#[.str "name" 267,.str "number" 268,.str "name" 269]) (by kernel_rfl) (by decide) (by rw [show Zz (cs "aba")=(["name", "number", "name"]:List Str) from by decide +kernel]; exact (.cons ⟨_,rfl⟩ (.cons ⟨_,rfl⟩ (.cons ⟨_,rfl⟩ .nil))))⟩
 ·exact .inl ⟨by decide +kernel,70,by decide +kernel,by decide +kernel,W6 (its:=#[.str "name" 271]) (by kernel_rfl) (by decide) (by rw [show Zz (cs "a")=(["name"]:List Str) from by decide +kernel]; exact (.cons ⟨_,rfl⟩ .nil))⟩
 ·exact .inl ⟨by decide +kernel,71,by decide +kernel,by decide +kernel,W6 (its:=#[.str "name" 273,.str "number" 274]) (by kernel_rfl) (by decide) (by rw [show Zz (cs "ab")=(["name", "number"]:List Str) from by decide +kernel]; exact (.cons ⟨_,rfl⟩ (.cons ⟨_,rfl⟩ .nil)))⟩
 ·exact .inl ⟨by decide +kernel,72,by decide +kernel,by decide +kernel,W6 (its:=#[.str "number" 276,.str "name" 277,.str "name" 278,.str "number" 279]) (by kernel_rfl) (by decide) (by rw [show Zz (cs "baab")=(["number", "name", "name", "number"]:List Str) from by decide +kernel]; exact (.cons ⟨_,rfl⟩ (.cons ⟨_,rfl⟩ (.cons ⟨_,rfl⟩ (.cons ⟨_,rfl⟩ .nil)))))⟩
 ·exact .inl ⟨by decide +kernel,73,by decide +kernel,by decide +kernel,W6 (its:=#[.str "name" 281,.str "name" 282,.str "number" 283,.str "number" 284]) (by kernel_rfl) (by decide) (by rw [show Zz (cs "aabb")=(["name", "name", "number", "number"]:List Str) from by decide +kernel]; exact (.cons ⟨_,rfl⟩ (.cons ⟨_,rfl⟩ (.cons ⟨_,rfl⟩ (.cons ⟨_,rfl⟩ .nil)))))⟩
 ·exact .inr ⟨by decide +kernel,by decide +kernel,75,by decide +kernel,W6 (its:=#[.str "name" 294,.str "number" 295,.str "number" 296,.str "number" 297]) (by kernel_rfl) (by decide) (by rw [show Zz (cs "abbb+")=(["name", "number", "number", "number"]:List Str) from by decide +kernel]; exact (.cons ⟨_,rfl⟩ (.cons ⟨_,rfl⟩ (.cons ⟨_,rfl⟩ (.cons ⟨_,rfl⟩ .nil)))))⟩
 ·exact .inr ⟨by decide +kernel,by decide +kernel,76,by decide +kernel,W6 (its:=#[.str "name" 299,.str "name" 300,.str "number" 301,.str "number" 302,.str "number" 303]) (by kernel_rfl) (by decide) (by rw [show Zz (cs "aabbb+")=(["name", "name", "number", "number", "number"]:List Str) from by decide +kernel]; exact (.cons ⟨_,rfl⟩ (.cons ⟨_,rfl⟩ (.cons ⟨_,rfl⟩ (.cons ⟨_,rfl⟩ (.cons ⟨_,rfl⟩ .nil))))))⟩
 ·exact .inr ⟨by decide +kernel,by decide +kernel,77,by decide +kernel,W6 (its:=#[.str "number" 305,.str "name" 306,.str "number" 307,.str "number" 308]) (by kernel_rfl) (by decide) (by rw [show Zz (cs "babb+")=(["number", "name", "number", "number"]:List Str) from by decide +kernel]; exact (.cons ⟨_,rfl⟩ (.cons ⟨_,rfl⟩ (.cons ⟨_,rfl⟩ (.cons ⟨_,rfl⟩ .nil)))))⟩
theorem Zu6:FmN Zb1 Zb2:=fun w h=>by
 have hn:∀ n∈fm10.map (·.1),n≠w:=fun n hn e=>by
  obtain ⟨q,hq,rfl⟩:=List.mem_map.mp hn
  unfold Y4 at h
  rw [Option.map_eq_none_iff,List.find?_eq_none] at h
  exact h q hq (by simpa using e)
 have go:∀ kvs:List (Str×Tok×Addr),(∀ x∈kvs,x.1∈fm10.map (·.1))->Yq kvs w=none:=fun kvs hk=>by
  unfold Yq
  rw [Option.map_eq_none_iff,List.find?_eq_none]
  intro x hx
  simpa using hn x.1 (hk x hx)
 exact ⟨go _ (by decide +kernel),go _ (by decide +kernel)⟩
end
def cE (x:Str):Addr:=(([("MootError", 38),("NoDeed", 58)]:List (Str×Addr)).lookup x).getD 0
theorem all_mk {w:World}{h:Heap}{mg:Str->Option Value}{fa:Addr}(X:(KK w.params).In h) (G:h.Ns mainGlobals mg) (hfa:mg "law" = some (.ref fa)) :
  ∃ fd:FuncData,(∀ (s:Shared) (v:Value),BindsTo s fd ⟨[v],[]⟩ [("_law_script", v)])/\∀ base:Heap,(KK w.params).In base->base.Ns mainGlobals mg->FnOk (PySem.Challenge.rw_forsworn_k50_lines_read).prog w (KK w.params) mg base CX0 40 fa fd ["_law_script"] (Zc4 (KK w.params)):=by
 have e:some (Value.ref fa)=some (.ref 245):=hfa.symm.trans (PySem.W.mg_of X G (by kernel_rfl))
 cases e
 have Zfu:Has (KK w.params) mg "is_name" Up:=Z8 (f:=65) (oc:=.type "function") (od:=none) (an:=none) (osl:=#[]) (kV:=.none) (doc:=.none) (pm:=(.str "forsworn.oaths" 244)) (cdv:=(.ref 64)) (ct:=.none) X G (by kernel_rfl) (by kernel_rfl) (by kernel_rfl) (by kernel_rfl)
 have Zf2:Has (KK w.params) mg "read_deed" Y5:=Z8 (f:=84) (oc:=.type "function") (od:=none) (an:=none) (osl:=#[]) (kV:=.none) (doc:=.none) (pm:=(.str "forsworn.notes" 254)) (cdv:=(.ref 83)) (ct:=.none) X G (by kernel_rfl) (by kernel_rfl) (by kernel_rfl) (by kernel_rfl)
 have Zfx:Has (KK w.params) mg "place_of" Zao:=Z8 (f:=91) (oc:=.type "function") (od:=none) (an:=none) (osl:=#[]) (kV:=.none) (doc:=.none) (pm:=(.str "forsworn.notes" 254)) (cdv:=(.ref 90)) (ct:=.none) X G (by kernel_rfl) (by kernel_rfl) (by kernel_rfl) (by kernel_rfl)
 have Zfy:Has (KK w.params) mg "read_names" Zc6:=Z8 (f:=96) (oc:=.type "function") (od:=none) (an:=none) (osl:=#[]) (kV:=.none) (doc:=.none) (pm:=(.str "forsworn.notes" 254)) (cdv:=(.ref 95)) (ct:=.none) X G (by kernel_rfl) (by kernel_rfl) (by kernel_rfl) (by kernel_rfl)
 have Zf0:Has (KK w.params) mg "read_values" V4:=Z8 (f:=101) (oc:=.type "function") (od:=none) (an:=none) (osl:=#[]) (kV:=.none) (doc:=.none) (pm:=(.str "forsworn.notes" 254)) (cdv:=(.ref 100)) (ct:=.none) X G (by kernel_rfl) (by kernel_rfl) (by kernel_rfl) (by kernel_rfl)
 have Zfw:Has (KK w.params) mg "read_value" Vs:=Z8 (f:=108) (oc:=.type "function") (od:=none) (an:=none) (osl:=#[]) (kV:=.none) (doc:=.none) (pm:=(.str "forsworn.notes" 254)) (cdv:=(.ref 107)) (ct:=.none) X G (by kernel_rfl) (by kernel_rfl) (by kernel_rfl) (by kernel_rfl)
 have Zfv:Has (KK w.params) mg "is_number" Uw:=Z8 (f:=113) (oc:=.type "function") (od:=none) (an:=none) (osl:=#[]) (kV:=.none) (doc:=.none) (pm:=(.str "forsworn.notes" 254)) (cdv:=(.ref 112)) (ct:=.none) X G (by kernel_rfl) (by kernel_rfl) (by kernel_rfl) (by kernel_rfl)
 have Zfo:Has (KK w.params) mg "_law_src" Zbl:=Z8 (f:=120) (oc:=.type "function") (od:=none) (an:=none) (osl:=#[]) (kV:=.none) (doc:=.none) (pm:=(.str "law_forsworn_k50_lines_read" 359)) (cdv:=(.ref 119)) (ct:=.none) X G (by kernel_rfl) (by kernel_rfl) (by kernel_rfl) (by kernel_rfl)
 have Zfp:Has (KK w.params) mg "_law_next" V3:=Z8 (f:=127) (oc:=.type "function") (od:=none) (an:=none) (osl:=#[]) (kV:=.none) (doc:=.none) (pm:=(.str "law_forsworn_k50_lines_read" 359)) (cdv:=(.ref 126)) (ct:=.none) X G (by kernel_rfl) (by kernel_rfl) (by kernel_rfl) (by kernel_rfl)
 have Zfl:Has (KK w.params) mg "_law_whole" Uu:=Z8 (f:=134) (oc:=.type "function") (od:=none) (an:=none) (osl:=#[]) (kV:=.none) (doc:=.none) (pm:=(.str "law_forsworn_k50_lines_read" 359)) (cdv:=(.ref 133)) (ct:=.none) X G (by kernel_rfl) (by kernel_rfl) (by kernel_rfl) (by kernel_rfl)
 have Va:Has (KK w.params) mg "_law_same" Yt:=Z8 (f:=141) (oc:=.type "function") (od:=none) (an:=none) (osl:=#[]) (kV:=.none) (doc:=.none) (pm:=(.str "law_forsworn_k50_lines_read" 359)) (cdv:=(.ref 140)) (ct:=.none) X G (by kernel_rfl) (by kernel_rfl) (by kernel_rfl) (by kernel_rfl)
 have Zfr:Has (KK w.params) mg "_law_unlike" Vb:=Z8 (f:=148) (oc:=.type "function") (od:=none) (an:=none) (osl:=#[]) (kV:=.none) (doc:=.none) (pm:=(.str "law_forsworn_k50_lines_read" 359)) (cdv:=(.ref 147)) (ct:=.none) X G (by kernel_rfl) (by kernel_rfl) (by kernel_rfl) (by kernel_rfl)
 have Zfq:Has (KK w.params) mg "_law_word" Uv:=Z8 (f:=153) (oc:=.type "function") (od:=none) (an:=none) (osl:=#[]) (kV:=.none) (doc:=.none) (pm:=(.str "law_forsworn_k50_lines_read" 359)) (cdv:=(.ref 152)) (ct:=.none) X G (by kernel_rfl) (by kernel_rfl) (by kernel_rfl) (by kernel_rfl)
 have Zfs:Has (KK w.params) mg "_law_names" Y2:=Z8 (f:=160) (oc:=.type "function") (od:=none) (an:=none) (osl:=#[]) (kV:=.none) (doc:=.none) (pm:=(.str "law_forsworn_k50_lines_read" 359)) (cdv:=(.ref 159)) (ct:=.none) X G (by kernel_rfl) (by kernel_rfl) (by kernel_rfl) (by kernel_rfl)
 have Zf3:Has (KK w.params) mg "_law_number" Zat:=Z8 (f:=167) (oc:=.type "function") (od:=none) (an:=none) (osl:=#[]) (kV:=.none) (doc:=.none) (pm:=(.str "law_forsworn_k50_lines_read" 359)) (cdv:=(.ref 166)) (ct:=.none) X G (by kernel_rfl) (by kernel_rfl) (by kernel_rfl) (by kernel_rfl)
 have Zf4:Has (KK w.params) mg "_law_row" Uq:=Z8 (f:=172) (oc:=.type "function") (od:=none) (an:=none) (osl:=#[]) (kV:=.none) (doc:=.none) (pm:=(.str "law_forsworn_k50_lines_read" 359)) (cdv:=(.ref 171)) (ct:=.none) X G (by kernel_rfl) (by kernel_rfl) (by kernel_rfl) (by kernel_rfl)
 have Zf6:Has (KK w.params) mg "_law_form" Zap:=Z8 (f:=179) (oc:=.type "function") (od:=none) (an:=none) (osl:=#[]) (kV:=.none) (doc:=.none) (pm:=(.str "law_forsworn_k50_lines_read" 359)) (cdv:=(.ref 178)) (ct:=.none) X G (by kernel_rfl) (by kernel_rfl) (by kernel_rfl) (by kernel_rfl)
 have Zf7:Has (KK w.params) mg "_law_any_deed" Y9:=Z8 (f:=186) (oc:=.type "function") (od:=none) (an:=none) (osl:=#[]) (kV:=.none) (doc:=.none) (pm:=(.str "law_forsworn_k50_lines_read" 359)) (cdv:=(.ref 185)) (ct:=.none) X G (by kernel_rfl) (by kernel_rfl) (by kernel_rfl) (by kernel_rfl)
 have Zga:Has (KK w.params) mg "_law_shown" Wy:=Z8 (f:=193) (oc:=.type "function") (od:=none) (an:=none) (osl:=#[]) (kV:=.none) (doc:=.none) (pm:=(.str "law_forsworn_k50_lines_read" 359)) (cdv:=(.ref 192)) (ct:=.none) X G (by kernel_rfl) (by kernel_rfl) (by kernel_rfl) (by kernel_rfl)
 have Zgb:Has (KK w.params) mg "_law_read_number" Uz:=Z8 (f:=200) (oc:=.type "function") (od:=none) (an:=none) (osl:=#[]) (kV:=.none) (doc:=.none) (pm:=(.str "law_forsworn_k50_lines_read" 359)) (cdv:=(.ref 199)) (ct:=.none) X G (by kernel_rfl) (by kernel_rfl) (by kernel_rfl) (by kernel_rfl)
 have Zgc:Has (KK w.params) mg "_law_read_name" Zax:=Z8 (f:=207) (oc:=.type "function") (od:=none) (an:=none) (osl:=#[]) (kV:=.none) (doc:=.none) (pm:=(.str "law_forsworn_k50_lines_read" 359)) (cdv:=(.ref 206)) (ct:=.none) X G (by kernel_rfl) (by kernel_rfl) (by kernel_rfl) (by kernel_rfl)
 have Zgd:Has (KK w.params) mg "_law_read_part" U0:=Z8 (f:=214) (oc:=.type "function") (od:=none) (an:=none) (osl:=#[]) (kV:=.none) (doc:=.none) (pm:=(.str "law_forsworn_k50_lines_read" 359)) (cdv:=(.ref 213)) (ct:=.none) X G (by kernel_rfl) (by kernel_rfl) (by kernel_rfl) (by kernel_rfl)
 have Zge:Has (KK w.params) mg "_law_read_sides" V6:=Z8 (f:=219) (oc:=.type "function") (od:=none) (an:=none) (osl:=#[]) (kV:=.none) (doc:=.none) (pm:=(.str "law_forsworn_k50_lines_read" 359)) (cdv:=(.ref 218)) (ct:=.none) X G (by kernel_rfl) (by kernel_rfl) (by kernel_rfl) (by kernel_rfl)
 have Zgf:Has (KK w.params) mg "_law_read" Wa:=Z8 (f:=224) (oc:=.type "function") (od:=none) (an:=none) (osl:=#[]) (kV:=.none) (doc:=.none) (pm:=(.str "law_forsworn_k50_lines_read" 359)) (cdv:=(.ref 223)) (ct:=.none) X G (by kernel_rfl) (by kernel_rfl) (by kernel_rfl) (by kernel_rfl)
 have Zgg:Has (KK w.params) mg "_law_spoilt" Wi:=Z8 (f:=231) (oc:=.type "function") (od:=none) (an:=none) (osl:=#[]) (kV:=.none) (doc:=.none) (pm:=(.str "law_forsworn_k50_lines_read" 359)) (cdv:=(.ref 230)) (ct:=.none) X G (by kernel_rfl) (by kernel_rfl) (by kernel_rfl) (by kernel_rfl)
 have Zgi:Has (KK w.params) mg "_law_found" Wz:=Z8 (f:=238) (oc:=.type "function") (od:=none) (an:=none) (osl:=#[]) (kV:=.none) (doc:=.none) (pm:=(.str "law_forsworn_k50_lines_read" 359)) (cdv:=(.ref 237)) (ct:=.none) X G (by kernel_rfl) (by kernel_rfl) (by kernel_rfl) (by kernel_rfl)
 have F_law:=Zkf (K:=KK w.params) (x := "law") (qual := "law") (st:=Ye) (f:=245) (oc:=.type "function") (od:=none) (an:=none) (osl:=#[]) (kV:=.none) (doc:=.none) (pm:=(.str "law_forsworn_k50_lines_read" 359)) (cdv:=(.ref 244)) (ct:=.none) (by kernel_rfl) (by kernel_rfl) (by kernel_rfl)
 have er:Er (KK w.params) mg cE errs:=Zvz X G (by kernel_rfl)
 have c_LONGEST_NAME:mg "LONGEST_NAME" = some (.int 12 246):=PySem.W.mg_of X G (by kernel_rfl)
 have c_MOST_FIGURES:mg "MOST_FIGURES" = some (.int 9 256):=PySem.W.mg_of X G (by kernel_rfl)
 have T:Txt mg:=⟨PySem.W.mg_none_of X G (by kernel_rfl),PySem.W.mg_none_of X G (by kernel_rfl),PySem.W.mg_none_of X G (by kernel_rfl),PySem.W.mg_none_of X G (by kernel_rfl),PySem.W.mg_none_of X G (by kernel_rfl),PySem.W.mg_none_of X G (by kernel_rfl),PySem.W.mg_none_of X G (by kernel_rfl),PySem.W.mg_none_of X G (by kernel_rfl),PySem.W.mg_none_of X G (by kernel_rfl),PySem.W.mg_none_of X G (by kernel_rfl),PySem.W.mg_none_of X G (by kernel_rfl)⟩
 exact ⟨PySem.W.fnOf "law" "law" (W3 Ye) (Yw Ye) (Za Ye) .none .none .none (.str "law_forsworn_k50_lines_read" 359) none (.ref 244) .none,fun s v=>.of_eq rfl,fun base _ _=>by
  have F1:=Zwg (P:=(PySem.Challenge.rw_forsworn_k50_lines_read).prog) (w:=w) (base:=base) Zfo T
  have F2:=Zwi (P:=(PySem.Challenge.rw_forsworn_k50_lines_read).prog) (w:=w) (base:=base) Zfp T
  have F3:=Zwm Zfq T F2
  have F4:=Zwp (P:=(PySem.Challenge.rw_forsworn_k50_lines_read).prog) (w:=w) (base:=base) Zfr T
  have F5:=Zwu Zfs T F2 F3 F4
  have F8:=Zlv Va T (Zv8 (P:=(PySem.Challenge.rw_forsworn_k50_lines_read).prog) (w:=w) (base:=base) Zfl T) 5
  have F9:=Zw0 (P:=(PySem.Challenge.rw_forsworn_k50_lines_read).prog) (w:=w) (base:=base) Zfu T ⟨_,c_LONGEST_NAME⟩
  have F10:=Zw5 (P:=(PySem.Challenge.rw_forsworn_k50_lines_read).prog) (w:=w) (base:=base) Zfv T ⟨_,c_MOST_FIGURES⟩
  have F11:=Zxb Zfw T er F9 F10
  have F12:=Zxk Zfy F11
  have F13:=Zxo Zf0 T er F11
  have F14:=Zxg (P:=(PySem.Challenge.rw_forsworn_k50_lines_read).prog) (w:=w) (base:=base) Zfx er
  have tb:Tbl (KK w.params) mg w.params 66 74 Zb1 Zb2:=⟨PySem.W.mg_of X G (by kernel_rfl),PySem.W.mg_of X G (by kernel_rfl),⟨⟨7,by kernel_rfl⟩,by decide +kernel,by decide⟩,⟨⟨3,by kernel_rfl⟩,by decide +kernel,by decide⟩⟩
  have F15:=Zxr Zf2 T er tb (Zk6 w.params) Zu6 F14 F12 F13
  have F17:=Zxs Zf3 T F2
  have F18:=Zxw Zf4 T F2
  have F19:=Zxx (P:=(PySem.Challenge.rw_forsworn_k50_lines_read).prog) (w:=w) (base:=base) Zf6 T
  have F20:=Zx3 (kP:=Zb1) (kS:=Zb2) Zf7 T F2 F17 F18 (F19.imp fun vs H Q E h=>Ztd h)
  have F21:=Zx8 (P:=(PySem.Challenge.rw_forsworn_k50_lines_read).prog) (w:=w) (base:=base) (kP:=Zb1) (kS:=Zb2) Zga T
  have G1:=Zyb (P:=(PySem.Challenge.rw_forsworn_k50_lines_read).prog) (w:=w) (base:=base) Zgb T
  have G2:=Zyc (P:=(PySem.Challenge.rw_forsworn_k50_lines_read).prog) (w:=w) (base:=base) Zgc T
  have G3:=Zyi Zgd G2 G1
  have G4:=Zyl Zge T G2
  have G5:=Zys Zgf T F19 G3 G4
  have G6:=Zyv Zgg T F2
  have G7:=Zy1 Zgi T er F15
  exact (Zze F_law T (Zk6 w.params) F1 F2 F5 F20 F21 G6 G5 G7 F8).mono (by decide)⟩
end Law
open PySem PySem.W PyProof.Rows
set_option maxRecDepth 100000 in
set_option maxHeartbeats 0 in
theorem PySem.Challenge.cw_forsworn_k50_lines_read_holds : PySem.Challenge.rw_forsworn_k50_lines_read.Holds := by
 w_on; o_law
 refine holds_open (q:=Law.q) (loose:=["PLAIN", "SWORN"]) (Xt:=fun s=>xlAt Law.q [] s && recOk (RowW.records PySem.Challenge.rw_forsworn_k50_lines_read.row.toRowW) s) (XP:=XL Law.q []) (Yf:=Law.HK.obs) (Ya:=Law.HK.val) (YP:=Law.HK.says) (N:=3264) Law.left Law.HK.of Law.HK.keeps (fun s e=>xl_of s (Bool.and_eq_true_iff.mp e).1) XL.keeps (by rfl) (by rfl) (by rfl) (fun s e=>recFacts_of (Bool.and_eq_true_iff.mp e).2) (by rfl) (by first | assumption | decide +kernel) (by decide +kernel) ⟨rfl,rfl,rfl,rfl,rfl,by decide +kernel⟩ ?hw ?hc
 case hw=>w_witness2
 refine L2.walkLaw (l:=PySem.Challenge.rw_forsworn_k50_lines_read) rfl rfl (fun w h Y=>PySem.W.kIn_of (K:=Law.KK) Y) fun w mg fa h KX G hmg=>Law.all_mk KX G hmg
namespace Law
end Law
