import PyProof.Rows.All
import Wide.All
import OpenK.AllK
import Wide.FinOn
import Lean
import PyProof.EqAt
import PyProof.EqKinds
import PyProof.TupleCall
import PyProof.ExcArgsOwn
import PyProof.ExcAttrAll.ValueError
import KE.KIsAll
import PySem.Challenge.RW_forsworn_k23_folk_refused
section
set_option Elab.async false
set_option linter.all false
set_option maxRecDepth 100000
set_option maxHeartbeats 4000000
namespace L2
open PySem PySem.W
def topRunT (tb : String -> Option Builtin) (p : Program) (w : World) (m : Nat) (ann : Option Value) : Nat -> SharedT -> Thread -> Option SharedT
  | 0, _, _ => none
  | n + 1, s, t => match through t with
    | true => some s
    | false => match stepOk m ann t with
      | false => none
      | true => match stepT (denote tb) p w s t with
        | some x => topRunT tb p w m ann n x.1 x.2
        | none => none
theorem topRunT_of {tb : String -> Option Builtin} {p : Program} {w : World} {m : Nat} {ann : Option Value} : ∀ {n : Nat} {s r : SharedT} {t : Thread}, topRunT tb p w m ann n s t = some r -> topRun tb p w m ann n s.abs t = some r.abs
  | 0, s, r, t, h => by cases h
  | n + 1, s, r, t, h => by
    unfold topRunT at h
    unfold topRun
    cases a : through t with
    | true => rw [a] at h; cases h; rfl
    | false =>
      rw [a] at h
      cases b : stepOk m ann t with
      | false => rw [b] at h; cases h
      | true =>
        rw [b] at h
        cases c : stepT (denote tb) p w s t with
        | none => rw [c] at h; cases h
        | some x => obtain ⟨s2, t2⟩ := x; rw [c] at h; dsimp only at h ⊢; rw [stepT_spec c]; exact topRunT_of h
def btOf : List Obj -> Nat -> BT -> BT
  | [], _, t => t
  | o :: r, i, t => btOf r (i + 1) (t.ins i o)
noncomputable def s0T (P : Params) (os : OsState) : SharedT := ⟨btOf (boot_heap P).objs.toList 0 .nil, 11, (boot_heap P).life, #[], boot_drawn, boot_toks, os⟩
noncomputable def seenT {α : Type} (p q : Program) (loose : List Str) (Xt : Shared -> Bool) (Yf : Shared -> α) (P : Params) (s : Shared) :=
  (staticsOk (importedModules p.main.body) (boot_heap P) s.heap && namesBound p s.heap && gensDone s && laidKept (boot_heap P) s.heap, openSeen q loose (importedModules p.main.body) Xt true s, Yf s)
theorem s0T_abs (P : Params) (os : OsState) : (s0T P os).abs = ⟨boot_heap P, #[], boot_drawn, boot_toks, os⟩ := by kernel_rfl
theorem boot_size (P : Params) : ((boot_heap P).isNs mainGlobals && (#[] : Array GenState).size == 0, (boot_heap P).objs.size, (boot_heap P).nsMap mainGlobals "__annotations__") = (true, 11, some (.ref 6)) := by kernel_rfl
theorem left_of {p q : Program} {loose : List Str} {Xt : Shared -> Bool} {α : Type} {Yf : Shared -> α} {Ya : World -> α} {N : Nat} (e : opening p = plainProg p.main.scope.names) (hN : Nat.ble 600 N = true) (f : ∀ s, fenceModules? p s = some s)
    (run : ∀ (w : World) (os : OsState), (topRunT treeTable p w 11 (some (.ref 6)) N (s0T w.params os) (topStub p)).map (fun s => seenT p q loose Xt Yf w.params s.abs) = some (true, openGood q loose, Ya w)) : LeftO p q loose Xt Yf Ya N := fun w => by
  obtain ⟨⟨h, gs, d, k, os⟩, e1, e2⟩ := Option.map_eq_some_iff.mp (boot_open e hN f w)
  obtain ⟨rfl, rfl, rfl, rfl⟩ : h = boot_heap w.params /\ gs = #[] /\ d = boot_drawn /\ k = boot_toks := by simpa using e2
  obtain ⟨s, r1, r2⟩ := Option.map_eq_some_iff.mp (run w os)
  unfold seenT at r2
  obtain ⟨l1, l2, l3⟩ : _ /\ _ /\ _ := by simpa only [Prod.mk.injEq] using r2
  have r := topRunT_of r1
  rw [s0T_abs] at r
  obtain ⟨z1, z2, z3⟩ : _ /\ _ /\ _ := by simpa only [Prod.mk.injEq] using boot_size w.params
  have t : topFrom treeTable p w N ⟨boot_heap w.params, #[], boot_drawn, boot_toks, os⟩ = some s.abs := by
    unfold topFrom
    dsimp only
    rw [z1, z2, z3, r]
    show (match staticsOk (importedModules p.main.body) (boot_heap w.params) s.abs.heap && namesBound p s.abs.heap && gensDone s.abs && laidKept (boot_heap w.params) s.abs.heap with | true => some s.abs | false => none) = _
    rw [l1]
  unfold openEnds
  rw [e1]
  show (topFrom treeTable p w N _).map _ = _
  rw [t]
  exact congrArg some (Prod.ext l2 l3)
def topP (p : Program) (i : Nat) : Stmt := p.main.body.getD i (.Pass ⟨0, 0, 0, 0⟩)
def hIn (s : Stmt) (j : Nat) : Stmt := match s with
  | .ClassDef _ _ _ b _ _ _ _ _ _ _ => b.getD j (.Pass ⟨0, 0, 0, 0⟩)
  | _ => s
def hArgs (s : Stmt) : Arguments := match s with
  | .FunctionDef _ a _ _ _ _ _ _ _ _ => a
  | _ => ⟨[], [], none, [], [], none, []⟩
def hBody (s : Stmt) : List Stmt := match s with
  | .FunctionDef _ _ b _ _ _ _ _ _ _ => b
  | _ => []
def hScope (s : Stmt) : Scope := match s with
  | .FunctionDef _ _ _ _ _ _ c _ _ _ => c
  | _ => { kind := .function, names := [], isGenerator := false, isCoroutine := false }
def de (P : Params) (n : Str) (t : Tok) (v : Value) : DictEntry := ⟨PyData.keyHash P n, .str n t, v⟩
def kFn (n q : Str) (st : Stmt) (pm : Value) (c : Addr) : Obj := ⟨.type "function", none, .func (PySem.W.fnOf n q (hArgs st) (hBody st) (hScope st) .none .none .none pm none (.ref c) .none), #[]⟩
end L2
namespace PySem.W.Fast
noncomputable def tw14598715356260435866 : PySem.Params -> PySem.Obj := PySem.W.boot_o_0
theorem te14598715356260435866 : PySem.W.boot_o_0 = tw14598715356260435866 := rfl
end PySem.W.Fast
lay_quick L2.topRunT L2.s0T L2.seenT
end
set_option Elab.async false
set_option linter.all false
set_option maxRecDepth 100000
set_option maxHeartbeats 4000000
namespace Law
open PySem L2
def Kp (p : Program) (P : Params) : PySem.W.Frag := [
  (3, ⟨(.type "dict"), none, (.dict #[de P "__name__" 165 (.str "law_forsworn_k23_folk_refused" 644), de P "__doc__" 166 .none, de P "__package__" 167 .none, de P "__loader__" 168 (.builtin "__main__.__loader__#opaque"), de P "__spec__" 169 .none, de P "__annotations__" 170 (.ref 6), de P "__builtins__" 171 (.ref 4), de P "__file__" 173 (.str "/claim/cut.py" 172), de P "__cached__" 174 .none, de P "_wall" 193 (.ref 21), de P "MootError" 220 (.ref 38), de P "NoName" 243 (.ref 58), de P "NoMeasure" 266 (.ref 77), de P "Unknown" 289 (.ref 96), de P "Taken" 312 (.ref 115), de P "NotYet" 335 (.ref 134), de P "Dead" 358 (.ref 153), de P "NoHeir" 381 (.ref 172), de P "TooMany" 404 (.ref 191), de P "LAST_DAY" 408 (.int (9999) 407), de P "MOST_WEIGHT" 410 (.int (1000) 409), de P "check_day" 417 (.ref 200), de P "check_weight" 424 (.ref 207), de P "LONGEST_NAME" 428 (.int (12) 427), de P "is_name" 434 (.ref 212), de P "MOST_FOLK" 438 (.int (40) 437), de P "Folk" 643 (.ref 367), de P "_law_src" 652 (.ref 378), de P "_law_next" 662 (.ref 385), de P "_law_whole" 669 (.ref 392), de P "_law_same" 679 (.ref 399), de P "_law_unlike" 690 (.ref 406), de P "_law_word" 696 (.ref 411), de P "_law_names" 710 (.ref 418), de P "_law_is_name" 718 (.ref 425), de P "_law_came" 727 (.ref 432), de P "_law_death" 736 (.ref 439), de P "_law_is_dead" 746 (.ref 446), de P "_law_weighs" 758 (.ref 453), de P "_law_heir" 768 (.ref 460), de P "_law_day" 776 (.ref 467), de P "_law_folk_late" 785 (.ref 474), de P "_law_folk_due" 791 (.ref 479), de P "_law_ask_due" 801 (.ref 486), de P "_law_wild_day" 808 (.ref 493), de P "_law_wild_weight" 815 (.ref 500), de P "_law_folk_deed" 825 (.ref 507), de P "_law_folk_kinds" 837 (.ref 514), de P "_law_folk_names" 843 (.ref 519), de P "_law_folk_does" 852 (.ref 526), de P "_law_asked_right" 858 (.ref 531), de P "law" 864 (.ref 536)] 52), #[]⟩),
  (37, ⟨(.type "dict"), none, (.dict #[de P "__module__" 203 (.str "forsworn.errors" 194), de P "__firstlineno__" 207 (.int (5) 206), de P "called" 214 (.ref 35), de P "__static_attributes__" 215 (.ref 36), de P "__weakref__" 217 (.ref 39), de P "__doc__" 218 .none] 3), #[]⟩),
  (38, ⟨(.type "type"), none, (.cls { name := "MootError", bases := [(.type "ValueError")], mro := [(.ref 38), (.type "ValueError"), (.type "Exception"), (.type "BaseException"), (.type "object")], ns := 37, qualname := "MootError", hasDict := true, slotNames := [], subclasses := [(.ref 58), (.ref 77), (.ref 96), (.ref 115), (.ref 134), (.ref 153), (.ref 172), (.ref 191)], abstract := false, collection := none, hasDel := false }), #[some (.ref 22), none, some (.str "MootError" 196), some (.str "MootError" 204), some (.builtin "ValueError.__new__"), some (.bool true)]⟩),
  (57, ⟨(.type "dict"), none, (.dict #[de P "__module__" 228 (.str "forsworn.errors" 194), de P "__firstlineno__" 232 (.int (9) 231), de P "called" 239 (.ref 55), de P "__static_attributes__" 240 (.ref 56), de P "__doc__" 241 .none] 2), #[]⟩),
  (58, ⟨(.type "type"), none, (.cls { name := "NoName", bases := [(.ref 38)], mro := [(.ref 58), (.ref 38), (.type "ValueError"), (.type "Exception"), (.type "BaseException"), (.type "object")], ns := 57, qualname := "NoName", hasDict := true, slotNames := [], subclasses := [], abstract := false, collection := none, hasDel := false }), #[some (.ref 42), none, some (.str "NoName" 221), some (.str "NoName" 229), some (.builtin "ValueError.__new__"), some (.bool true)]⟩),
  (76, ⟨(.type "dict"), none, (.dict #[de P "__module__" 251 (.str "forsworn.errors" 194), de P "__firstlineno__" 255 (.int (13) 254), de P "called" 262 (.ref 74), de P "__static_attributes__" 263 (.ref 75), de P "__doc__" 264 .none] 2), #[]⟩),
  (77, ⟨(.type "type"), none, (.cls { name := "NoMeasure", bases := [(.ref 38)], mro := [(.ref 77), (.ref 38), (.type "ValueError"), (.type "Exception"), (.type "BaseException"), (.type "object")], ns := 76, qualname := "NoMeasure", hasDict := true, slotNames := [], subclasses := [], abstract := false, collection := none, hasDel := false }), #[some (.ref 61), none, some (.str "NoMeasure" 244), some (.str "NoMeasure" 252), some (.builtin "ValueError.__new__"), some (.bool true)]⟩),
  (95, ⟨(.type "dict"), none, (.dict #[de P "__module__" 274 (.str "forsworn.errors" 194), de P "__firstlineno__" 278 (.int (17) 277), de P "called" 285 (.ref 93), de P "__static_attributes__" 286 (.ref 94), de P "__doc__" 287 .none] 2), #[]⟩),
  (96, ⟨(.type "type"), none, (.cls { name := "Unknown", bases := [(.ref 38)], mro := [(.ref 96), (.ref 38), (.type "ValueError"), (.type "Exception"), (.type "BaseException"), (.type "object")], ns := 95, qualname := "Unknown", hasDict := true, slotNames := [], subclasses := [], abstract := false, collection := none, hasDel := false }), #[some (.ref 80), none, some (.str "Unknown" 267), some (.str "Unknown" 275), some (.builtin "ValueError.__new__"), some (.bool true)]⟩),
  (114, ⟨(.type "dict"), none, (.dict #[de P "__module__" 297 (.str "forsworn.errors" 194), de P "__firstlineno__" 301 (.int (21) 300), de P "called" 308 (.ref 112), de P "__static_attributes__" 309 (.ref 113), de P "__doc__" 310 .none] 2), #[]⟩),
  (115, ⟨(.type "type"), none, (.cls { name := "Taken", bases := [(.ref 38)], mro := [(.ref 115), (.ref 38), (.type "ValueError"), (.type "Exception"), (.type "BaseException"), (.type "object")], ns := 114, qualname := "Taken", hasDict := true, slotNames := [], subclasses := [], abstract := false, collection := none, hasDel := false }), #[some (.ref 99), none, some (.str "Taken" 290), some (.str "Taken" 298), some (.builtin "ValueError.__new__"), some (.bool true)]⟩),
  (133, ⟨(.type "dict"), none, (.dict #[de P "__module__" 320 (.str "forsworn.errors" 194), de P "__firstlineno__" 324 (.int (25) 323), de P "called" 331 (.ref 131), de P "__static_attributes__" 332 (.ref 132), de P "__doc__" 333 .none] 2), #[]⟩),
  (134, ⟨(.type "type"), none, (.cls { name := "NotYet", bases := [(.ref 38)], mro := [(.ref 134), (.ref 38), (.type "ValueError"), (.type "Exception"), (.type "BaseException"), (.type "object")], ns := 133, qualname := "NotYet", hasDict := true, slotNames := [], subclasses := [], abstract := false, collection := none, hasDel := false }), #[some (.ref 118), none, some (.str "NotYet" 313), some (.str "NotYet" 321), some (.builtin "ValueError.__new__"), some (.bool true)]⟩),
  (152, ⟨(.type "dict"), none, (.dict #[de P "__module__" 343 (.str "forsworn.errors" 194), de P "__firstlineno__" 347 (.int (29) 346), de P "called" 354 (.ref 150), de P "__static_attributes__" 355 (.ref 151), de P "__doc__" 356 .none] 2), #[]⟩),
  (153, ⟨(.type "type"), none, (.cls { name := "Dead", bases := [(.ref 38)], mro := [(.ref 153), (.ref 38), (.type "ValueError"), (.type "Exception"), (.type "BaseException"), (.type "object")], ns := 152, qualname := "Dead", hasDict := true, slotNames := [], subclasses := [], abstract := false, collection := none, hasDel := false }), #[some (.ref 137), none, some (.str "Dead" 336), some (.str "Dead" 344), some (.builtin "ValueError.__new__"), some (.bool true)]⟩),
  (171, ⟨(.type "dict"), none, (.dict #[de P "__module__" 366 (.str "forsworn.errors" 194), de P "__firstlineno__" 370 (.int (33) 369), de P "called" 377 (.ref 169), de P "__static_attributes__" 378 (.ref 170), de P "__doc__" 379 .none] 2), #[]⟩),
  (172, ⟨(.type "type"), none, (.cls { name := "NoHeir", bases := [(.ref 38)], mro := [(.ref 172), (.ref 38), (.type "ValueError"), (.type "Exception"), (.type "BaseException"), (.type "object")], ns := 171, qualname := "NoHeir", hasDict := true, slotNames := [], subclasses := [], abstract := false, collection := none, hasDel := false }), #[some (.ref 156), none, some (.str "NoHeir" 359), some (.str "NoHeir" 367), some (.builtin "ValueError.__new__"), some (.bool true)]⟩),
  (190, ⟨(.type "dict"), none, (.dict #[de P "__module__" 389 (.str "forsworn.errors" 194), de P "__firstlineno__" 393 (.int (37) 392), de P "called" 400 (.ref 188), de P "__static_attributes__" 401 (.ref 189), de P "__doc__" 402 .none] 2), #[]⟩),
  (191, ⟨(.type "type"), none, (.cls { name := "TooMany", bases := [(.ref 38)], mro := [(.ref 191), (.ref 38), (.type "ValueError"), (.type "Exception"), (.type "BaseException"), (.type "object")], ns := 190, qualname := "TooMany", hasDict := true, slotNames := [], subclasses := [], abstract := false, collection := none, hasDel := false }), #[some (.ref 175), none, some (.str "TooMany" 382), some (.str "TooMany" 390), some (.builtin "ValueError.__new__"), some (.bool true)]⟩),
  (199, ⟨(.type "code"), none, (.fields #[(.str "check_day" 411), (.str "check_day" 412), (.str "/claim/cut.py" 413), (.int (44) 0), (.int (1) 0), (.int (0) 0), (.int (0) 0), (.int (3) 0), (.ref 194), (.bool true), (.int (181) 0), (.ref 195), .none, (.ref 196), (.ref 197), (.ref 198), (.int (415) 0), (.int (44) 0), (.str "/claim/cut.py" 416)]), #[]⟩),
  (200, kFn "check_day" "check_day" (topP p 14) (.str "forsworn.measures" 405) 199),
  (206, ⟨(.type "code"), none, (.fields #[(.str "check_weight" 418), (.str "check_weight" 419), (.str "/claim/cut.py" 420), (.int (47) 0), (.int (1) 0), (.int (0) 0), (.int (0) 0), (.int (3) 0), (.ref 201), (.bool true), (.int (181) 0), (.ref 202), .none, (.ref 203), (.ref 204), (.ref 205), (.int (422) 0), (.int (47) 0), (.str "/claim/cut.py" 423)]), #[]⟩),
  (207, kFn "check_weight" "check_weight" (topP p 15) (.str "forsworn.measures" 405) 206),
  (211, ⟨(.type "code"), none, (.fields #[(.str "is_name" 429), (.str "is_name" 430), (.str "/claim/cut.py" 431), (.int (52) 0), (.int (1) 0), (.int (0) 0), (.int (0) 0), (.int (3) 0), (.ref 208), (.bool true), (.int (181) 0), (.ref 209), .none, .none, .none, (.ref 210), (.int (432) 0), (.int (52) 0), (.str "/claim/cut.py" 433)]), #[]⟩),
  (212, kFn "is_name" "is_name" (topP p 18) (.str "forsworn.oaths" 425) 211),
  (225, ⟨(.type "code"), none, (.fields #[(.str "__init__" 451), (.str "Folk.__init__" 452), (.str "/claim/cut.py" 453), (.int (58) 0), (.int (1) 0), (.int (0) 0), (.int (0) 0), (.int (3) 0), (.ref 220), (.bool true), (.int (181) 0), (.ref 221), .none, (.ref 222), (.ref 223), (.ref 224), (.int (455) 0), (.int (58) 0), (.str "/claim/cut.py" 456)]), #[]⟩),
  (226, kFn "__init__" "Folk.__init__" (hIn (topP p 21) 0) (.str "forsworn.folk" 435) 225),
  (232, ⟨(.type "code"), none, (.fields #[(.str "come" 458), (.str "Folk.come" 459), (.str "/claim/cut.py" 460), (.int (64) 0), (.int (4) 0), (.int (0) 0), (.int (0) 0), (.int (3) 0), (.ref 227), (.bool true), (.int (181) 0), (.ref 228), .none, (.ref 229), (.ref 230), (.ref 231), (.int (465) 0), (.int (64) 0), (.str "/claim/cut.py" 466)]), #[]⟩),
  (233, kFn "come" "Folk.come" (hIn (topP p 21) 1) (.str "forsworn.folk" 435) 232),
  (239, ⟨(.type "code"), none, (.fields #[(.str "rise" 468), (.str "Folk.rise" 469), (.str "/claim/cut.py" 470), (.int (69) 0), (.int (4) 0), (.int (0) 0), (.int (0) 0), (.int (3) 0), (.ref 234), (.bool true), (.int (181) 0), (.ref 235), .none, (.ref 236), (.ref 237), (.ref 238), (.int (475) 0), (.int (69) 0), (.str "/claim/cut.py" 476)]), #[]⟩),
  (240, kFn "rise" "Folk.rise" (hIn (topP p 21) 2) (.str "forsworn.folk" 435) 239),
  (246, ⟨(.type "code"), none, (.fields #[(.str "die" 478), (.str "Folk.die" 479), (.str "/claim/cut.py" 480), (.int (73) 0), (.int (4) 0), (.int (0) 0), (.int (0) 0), (.int (3) 0), (.ref 241), (.bool true), (.int (181) 0), (.ref 242), .none, (.ref 243), (.ref 244), (.ref 245), (.int (485) 0), (.int (73) 0), (.str "/claim/cut.py" 486)]), #[]⟩),
  (247, kFn "die" "Folk.die" (hIn (topP p 21) 3) (.str "forsworn.folk" 435) 246),
  (253, ⟨(.type "code"), none, (.fields #[(.str "names" 488), (.str "Folk.names" 489), (.str "/claim/cut.py" 490), (.int (78) 0), (.int (1) 0), (.int (0) 0), (.int (0) 0), (.int (3) 0), (.ref 248), (.bool true), (.int (181) 0), (.ref 249), .none, (.ref 250), (.ref 251), (.ref 252), (.int (492) 0), (.int (78) 0), (.str "/claim/cut.py" 493)]), #[]⟩),
  (254, kFn "names" "Folk.names" (hIn (topP p 21) 4) (.str "forsworn.folk" 435) 253),
  (260, ⟨(.type "code"), none, (.fields #[(.str "came" 495), (.str "Folk.came" 496), (.str "/claim/cut.py" 497), (.int (81) 0), (.int (2) 0), (.int (0) 0), (.int (0) 0), (.int (3) 0), (.ref 255), (.bool true), (.int (181) 0), (.ref 256), .none, (.ref 257), (.ref 258), (.ref 259), (.int (500) 0), (.int (81) 0), (.str "/claim/cut.py" 501)]), #[]⟩),
  (261, kFn "came" "Folk.came" (hIn (topP p 21) 5) (.str "forsworn.folk" 435) 260),
  (265, ⟨(.type "code"), none, (.fields #[(.str "weight" 503), (.str "Folk.weight" 504), (.str "/claim/cut.py" 505), (.int (85) 0), (.int (3) 0), (.int (0) 0), (.int (0) 0), (.int (3) 0), (.ref 262), (.bool true), (.int (181) 0), (.ref 263), .none, .none, .none, (.ref 264), (.int (506) 0), (.int (85) 0), (.str "/claim/cut.py" 507)]), #[]⟩),
  (266, kFn "weight" "Folk.weight" (hIn (topP p 21) 6) (.str "forsworn.folk" 435) 265),
  (272, ⟨(.type "code"), none, (.fields #[(.str "dead" 509), (.str "Folk.dead" 510), (.str "/claim/cut.py" 511), (.int (92) 0), (.int (3) 0), (.int (0) 0), (.int (0) 0), (.int (3) 0), (.ref 267), (.bool true), (.int (181) 0), (.ref 268), .none, (.ref 269), (.ref 270), (.ref 271), (.int (515) 0), (.int (92) 0), (.str "/claim/cut.py" 516)]), #[]⟩),
  (273, kFn "dead" "Folk.dead" (hIn (topP p 21) 7) (.str "forsworn.folk" 435) 272),
  (279, ⟨(.type "code"), none, (.fields #[(.str "stands_for" 518), (.str "Folk.stands_for" 519), (.str "/claim/cut.py" 520), (.int (97) 0), (.int (3) 0), (.int (0) 0), (.int (0) 0), (.int (3) 0), (.ref 274), (.bool true), (.int (181) 0), (.ref 275), .none, (.ref 276), (.ref 277), (.ref 278), (.int (524) 0), (.int (97) 0), (.str "/claim/cut.py" 525)]), #[]⟩),
  (280, kFn "stands_for" "Folk.stands_for" (hIn (topP p 21) 8) (.str "forsworn.folk" 435) 279),
  (293, ⟨(.type "code"), none, (.fields #[(.str "stand_in" 534), (.str "Folk.stand_in" 535), (.str "/claim/cut.py" 536), (.int (105) 0), (.int (3) 0), (.int (0) 0), (.int (0) 0), (.int (3) 0), (.ref 288), (.bool true), (.int (181) 0), (.ref 289), .none, (.ref 290), (.ref 291), (.ref 292), (.int (540) 0), (.int (105) 0), (.str "/claim/cut.py" 541)]), #[]⟩),
  (294, kFn "stand_in" "Folk.stand_in" (hIn (topP p 21) 10) (.str "forsworn.folk" 435) 293),
  (300, ⟨(.type "code"), none, (.fields #[(.str "died_by" 543), (.str "Folk.died_by" 544), (.str "/claim/cut.py" 545), (.int (110) 0), (.int (3) 0), (.int (0) 0), (.int (0) 0), (.int (3) 0), (.ref 295), (.bool true), (.int (181) 0), (.ref 296), .none, (.ref 297), (.ref 298), (.ref 299), (.int (549) 0), (.int (110) 0), (.str "/claim/cut.py" 550)]), #[]⟩),
  (301, kFn "died_by" "Folk.died_by" (hIn (topP p 21) 11) (.str "forsworn.folk" 435) 300),
  (321, ⟨(.type "code"), none, (.fields #[(.str "check_coming" 568), (.str "Folk.check_coming" 569), (.str "/claim/cut.py" 570), (.int (119) 0), (.int (4) 0), (.int (0) 0), (.int (0) 0), (.int (3) 0), (.ref 316), (.bool true), (.int (181) 0), (.ref 317), .none, (.ref 318), (.ref 319), (.ref 320), (.int (575) 0), (.int (119) 0), (.str "/claim/cut.py" 576)]), #[]⟩),
  (322, kFn "check_coming" "Folk.check_coming" (hIn (topP p 21) 14) (.str "forsworn.folk" 435) 321),
  (328, ⟨(.type "code"), none, (.fields #[(.str "check_rise" 578), (.str "Folk.check_rise" 579), (.str "/claim/cut.py" 580), (.int (129) 0), (.int (4) 0), (.int (0) 0), (.int (0) 0), (.int (3) 0), (.ref 323), (.bool true), (.int (181) 0), (.ref 324), .none, (.ref 325), (.ref 326), (.ref 327), (.int (585) 0), (.int (129) 0), (.str "/claim/cut.py" 586)]), #[]⟩),
  (329, kFn "check_rise" "Folk.check_rise" (hIn (topP p 21) 15) (.str "forsworn.folk" 435) 328),
  (335, ⟨(.type "code"), none, (.fields #[(.str "check_death" 588), (.str "Folk.check_death" 589), (.str "/claim/cut.py" 590), (.int (136) 0), (.int (4) 0), (.int (0) 0), (.int (0) 0), (.int (3) 0), (.ref 330), (.bool true), (.int (181) 0), (.ref 331), .none, (.ref 332), (.ref 333), (.ref 334), (.int (595) 0), (.int (136) 0), (.str "/claim/cut.py" 596)]), #[]⟩),
  (336, kFn "check_death" "Folk.check_death" (hIn (topP p 21) 16) (.str "forsworn.folk" 435) 335),
  (342, ⟨(.type "code"), none, (.fields #[(.str "check_known" 598), (.str "Folk.check_known" 599), (.str "/claim/cut.py" 600), (.int (146) 0), (.int (2) 0), (.int (0) 0), (.int (0) 0), (.int (3) 0), (.ref 337), (.bool true), (.int (181) 0), (.ref 338), .none, (.ref 339), (.ref 340), (.ref 341), (.int (603) 0), (.int (146) 0), (.str "/claim/cut.py" 604)]), #[]⟩),
  (343, kFn "check_known" "Folk.check_known" (hIn (topP p 21) 17) (.str "forsworn.folk" 435) 342),
  (349, ⟨(.type "code"), none, (.fields #[(.str "check_there" 606), (.str "Folk.check_there" 607), (.str "/claim/cut.py" 608), (.int (150) 0), (.int (3) 0), (.int (0) 0), (.int (0) 0), (.int (3) 0), (.ref 344), (.bool true), (.int (181) 0), (.ref 345), .none, (.ref 346), (.ref 347), (.ref 348), (.int (612) 0), (.int (150) 0), (.str "/claim/cut.py" 613)]), #[]⟩),
  (350, kFn "check_there" "Folk.check_there" (hIn (topP p 21) 18) (.str "forsworn.folk" 435) 349),
  (356, ⟨(.type "code"), none, (.fields #[(.str "check_living" 615), (.str "Folk.check_living" 616), (.str "/claim/cut.py" 617), (.int (154) 0), (.int (3) 0), (.int (0) 0), (.int (0) 0), (.int (3) 0), (.ref 351), (.bool true), (.int (181) 0), (.ref 352), .none, (.ref 353), (.ref 354), (.ref 355), (.int (621) 0), (.int (154) 0), (.str "/claim/cut.py" 622)]), #[]⟩),
  (357, kFn "check_living" "Folk.check_living" (hIn (topP p 21) 19) (.str "forsworn.folk" 435) 356),
  (363, ⟨(.type "code"), none, (.fields #[(.str "check_untold" 624), (.str "Folk.check_untold" 625), (.str "/claim/cut.py" 626), (.int (158) 0), (.int (2) 0), (.int (0) 0), (.int (0) 0), (.int (3) 0), (.ref 358), (.bool true), (.int (181) 0), (.ref 359), .none, (.ref 360), (.ref 361), (.ref 362), (.int (629) 0), (.int (158) 0), (.str "/claim/cut.py" 630)]), #[]⟩),
  (364, kFn "check_untold" "Folk.check_untold" (hIn (topP p 21) 20) (.str "forsworn.folk" 435) 363),
  (366, ⟨(.type "dict"), none, (.dict #[de P "__module__" 446 (.str "forsworn.folk" 435), de P "__firstlineno__" 450 (.int (56) 449), de P "__init__" 457 (.ref 226), de P "come" 467 (.ref 233), de P "rise" 477 (.ref 240), de P "die" 487 (.ref 247), de P "names" 494 (.ref 254), de P "came" 502 (.ref 261), de P "weight" 508 (.ref 266), de P "dead" 517 (.ref 273), de P "stands_for" 526 (.ref 280), de P "twin" 533 (.ref 287), de P "stand_in" 542 (.ref 294), de P "died_by" 551 (.ref 301), de P "death_day" 559 (.ref 308), de P "heir_of" 567 (.ref 315), de P "check_coming" 577 (.ref 322), de P "check_rise" 587 (.ref 329), de P "check_death" 597 (.ref 336), de P "check_known" 605 (.ref 343), de P "check_there" 614 (.ref 350), de P "check_living" 623 (.ref 357), de P "check_untold" 631 (.ref 364), de P "__static_attributes__" 636 (.ref 365), de P "__dict__" 638 (.ref 368), de P "__weakref__" 640 (.ref 369), de P "__doc__" 641 .none] 4), #[]⟩),
  (367, ⟨(.type "type"), none, (.cls { name := "Folk", bases := [(.type "object")], mro := [(.ref 367), (.type "object")], ns := 366, qualname := "Folk", hasDict := true, slotNames := [], subclasses := [], abstract := false, collection := none, hasDel := false }), #[none, none, some (.str "Folk" 439), some (.str "Folk" 447), some (.builtin "object.__new__"), some (.bool true)]⟩),
  (377, ⟨(.type "code"), none, (.fields #[(.str "_law_src" 646), (.str "_law_src" 647), (.str "/claim/cut.py" 648), (.int (162) 0), (.int (1) 0), (.int (0) 0), (.int (0) 0), (.int (3) 0), (.ref 372), (.bool true), (.int (181) 0), (.ref 373), .none, (.ref 374), (.ref 375), (.ref 376), (.int (650) 0), (.int (162) 0), (.str "/claim/cut.py" 651)]), #[]⟩),
  (378, kFn "_law_src" "_law_src" (topP p 23) (.str "law_forsworn_k23_folk_refused" 644) 377),
  (384, ⟨(.type "code"), none, (.fields #[(.str "_law_next" 653), (.str "_law_next" 654), (.str "/claim/cut.py" 655), (.int (164) 0), (.int (2) 0), (.int (0) 0), (.int (0) 0), (.int (3) 0), (.ref 379), (.bool true), (.int (181) 0), (.ref 380), .none, (.ref 381), (.ref 382), (.ref 383), (.int (660) 0), (.int (164) 0), (.str "/claim/cut.py" 661)]), #[]⟩),
  (385, kFn "_law_next" "_law_next" (topP p 24) (.str "law_forsworn_k23_folk_refused" 644) 384),
  (391, ⟨(.type "code"), none, (.fields #[(.str "_law_whole" 663), (.str "_law_whole" 664), (.str "/claim/cut.py" 665), (.int (179) 0), (.int (1) 0), (.int (0) 0), (.int (0) 0), (.int (3) 0), (.ref 386), (.bool true), (.int (181) 0), (.ref 387), .none, (.ref 388), (.ref 389), (.ref 390), (.int (667) 0), (.int (179) 0), (.str "/claim/cut.py" 668)]), #[]⟩),
  (392, kFn "_law_whole" "_law_whole" (topP p 25) (.str "law_forsworn_k23_folk_refused" 644) 391),
  (398, ⟨(.type "code"), none, (.fields #[(.str "_law_same" 670), (.str "_law_same" 671), (.str "/claim/cut.py" 672), (.int (181) 0), (.int (2) 0), (.int (0) 0), (.int (0) 0), (.int (3) 0), (.ref 393), (.bool true), (.int (181) 0), (.ref 394), .none, (.ref 395), (.ref 396), (.ref 397), (.int (677) 0), (.int (181) 0), (.str "/claim/cut.py" 678)]), #[]⟩),
  (399, kFn "_law_same" "_law_same" (topP p 26) (.str "law_forsworn_k23_folk_refused" 644) 398),
  (405, ⟨(.type "code"), none, (.fields #[(.str "_law_unlike" 680), (.str "_law_unlike" 681), (.str "/claim/cut.py" 682), (.int (198) 0), (.int (2) 0), (.int (0) 0), (.int (0) 0), (.int (3) 0), (.ref 400), (.bool true), (.int (181) 0), (.ref 401), .none, (.ref 402), (.ref 403), (.ref 404), (.int (688) 0), (.int (198) 0), (.str "/claim/cut.py" 689)]), #[]⟩),
  (406, kFn "_law_unlike" "_law_unlike" (topP p 27) (.str "law_forsworn_k23_folk_refused" 644) 405),
  (410, ⟨(.type "code"), none, (.fields #[(.str "_law_word" 691), (.str "_law_word" 692), (.str "/claim/cut.py" 693), (.int (206) 0), (.int (2) 0), (.int (0) 0), (.int (0) 0), (.int (3) 0), (.ref 407), (.bool true), (.int (181) 0), (.ref 408), .none, .none, .none, (.ref 409), (.int (694) 0), (.int (206) 0), (.str "/claim/cut.py" 695)]), #[]⟩),
  (411, kFn "_law_word" "_law_word" (topP p 28) (.str "law_forsworn_k23_folk_refused" 644) 410),
  (417, ⟨(.type "code"), none, (.fields #[(.str "_law_names" 697), (.str "_law_names" 698), (.str "/claim/cut.py" 699), (.int (209) 0), (.int (2) 0), (.int (0) 0), (.int (0) 0), (.int (3) 0), (.ref 412), (.bool true), (.int (181) 0), (.ref 413), .none, (.ref 414), (.ref 415), (.ref 416), (.int (708) 0), (.int (209) 0), (.str "/claim/cut.py" 709)]), #[]⟩),
  (418, kFn "_law_names" "_law_names" (topP p 29) (.str "law_forsworn_k23_folk_refused" 644) 417),
  (424, ⟨(.type "code"), none, (.fields #[(.str "_law_is_name" 711), (.str "_law_is_name" 712), (.str "/claim/cut.py" 713), (.int (222) 0), (.int (1) 0), (.int (0) 0), (.int (0) 0), (.int (3) 0), (.ref 419), (.bool true), (.int (181) 0), (.ref 420), .none, (.ref 421), (.ref 422), (.ref 423), (.int (716) 0), (.int (222) 0), (.str "/claim/cut.py" 717)]), #[]⟩),
  (425, kFn "_law_is_name" "_law_is_name" (topP p 30) (.str "law_forsworn_k23_folk_refused" 644) 424),
  (431, ⟨(.type "code"), none, (.fields #[(.str "_law_came" 719), (.str "_law_came" 720), (.str "/claim/cut.py" 721), (.int (227) 0), (.int (2) 0), (.int (0) 0), (.int (0) 0), (.int (3) 0), (.ref 426), (.bool true), (.int (181) 0), (.ref 427), .none, (.ref 428), (.ref 429), (.ref 430), (.int (725) 0), (.int (227) 0), (.str "/claim/cut.py" 726)]), #[]⟩),
  (432, kFn "_law_came" "_law_came" (topP p 31) (.str "law_forsworn_k23_folk_refused" 644) 431),
  (438, ⟨(.type "code"), none, (.fields #[(.str "_law_death" 728), (.str "_law_death" 729), (.str "/claim/cut.py" 730), (.int (232) 0), (.int (2) 0), (.int (0) 0), (.int (0) 0), (.int (3) 0), (.ref 433), (.bool true), (.int (181) 0), (.ref 434), .none, (.ref 435), (.ref 436), (.ref 437), (.int (734) 0), (.int (232) 0), (.str "/claim/cut.py" 735)]), #[]⟩),
  (439, kFn "_law_death" "_law_death" (topP p 32) (.str "law_forsworn_k23_folk_refused" 644) 438),
  (445, ⟨(.type "code"), none, (.fields #[(.str "_law_is_dead" 737), (.str "_law_is_dead" 738), (.str "/claim/cut.py" 739), (.int (237) 0), (.int (3) 0), (.int (0) 0), (.int (0) 0), (.int (3) 0), (.ref 440), (.bool true), (.int (181) 0), (.ref 441), .none, (.ref 442), (.ref 443), (.ref 444), (.int (744) 0), (.int (237) 0), (.str "/claim/cut.py" 745)]), #[]⟩),
  (446, kFn "_law_is_dead" "_law_is_dead" (topP p 33) (.str "law_forsworn_k23_folk_refused" 644) 445),
  (452, ⟨(.type "code"), none, (.fields #[(.str "_law_weighs" 747), (.str "_law_weighs" 748), (.str "/claim/cut.py" 749), (.int (240) 0), (.int (3) 0), (.int (0) 0), (.int (0) 0), (.int (3) 0), (.ref 447), (.bool true), (.int (181) 0), (.ref 448), .none, (.ref 449), (.ref 450), (.ref 451), (.int (756) 0), (.int (240) 0), (.str "/claim/cut.py" 757)]), #[]⟩),
  (453, kFn "_law_weighs" "_law_weighs" (topP p 34) (.str "law_forsworn_k23_folk_refused" 644) 452),
  (459, ⟨(.type "code"), none, (.fields #[(.str "_law_heir" 759), (.str "_law_heir" 760), (.str "/claim/cut.py" 761), (.int (248) 0), (.int (3) 0), (.int (0) 0), (.int (0) 0), (.int (3) 0), (.ref 454), (.bool true), (.int (181) 0), (.ref 455), .none, (.ref 456), (.ref 457), (.ref 458), (.int (766) 0), (.int (248) 0), (.str "/claim/cut.py" 767)]), #[]⟩),
  (460, kFn "_law_heir" "_law_heir" (topP p 35) (.str "law_forsworn_k23_folk_refused" 644) 459),
  (466, ⟨(.type "code"), none, (.fields #[(.str "_law_day" 769), (.str "_law_day" 770), (.str "/claim/cut.py" 771), (.int (254) 0), (.int (1) 0), (.int (0) 0), (.int (0) 0), (.int (3) 0), (.ref 461), (.bool true), (.int (181) 0), (.ref 462), .none, (.ref 463), (.ref 464), (.ref 465), (.int (774) 0), (.int (254) 0), (.str "/claim/cut.py" 775)]), #[]⟩),
  (467, kFn "_law_day" "_law_day" (topP p 36) (.str "law_forsworn_k23_folk_refused" 644) 466),
  (473, ⟨(.type "code"), none, (.fields #[(.str "_law_folk_late" 777), (.str "_law_folk_late" 778), (.str "/claim/cut.py" 779), (.int (261) 0), (.int (2) 0), (.int (0) 0), (.int (0) 0), (.int (3) 0), (.ref 468), (.bool true), (.int (181) 0), (.ref 469), .none, (.ref 470), (.ref 471), (.ref 472), (.int (783) 0), (.int (261) 0), (.str "/claim/cut.py" 784)]), #[]⟩),
  (474, kFn "_law_folk_late" "_law_folk_late" (topP p 37) (.str "law_forsworn_k23_folk_refused" 644) 473),
  (478, ⟨(.type "code"), none, (.fields #[(.str "_law_folk_due" 786), (.str "_law_folk_due" 787), (.str "/claim/cut.py" 788), (.int (272) 0), (.int (2) 0), (.int (0) 0), (.int (0) 0), (.int (3) 0), (.ref 475), (.bool true), (.int (181) 0), (.ref 476), .none, .none, .none, (.ref 477), (.int (789) 0), (.int (272) 0), (.str "/claim/cut.py" 790)]), #[]⟩),
  (479, kFn "_law_folk_due" "_law_folk_due" (topP p 38) (.str "law_forsworn_k23_folk_refused" 644) 478),
  (485, ⟨(.type "code"), none, (.fields #[(.str "_law_ask_due" 792), (.str "_law_ask_due" 793), (.str "/claim/cut.py" 794), (.int (291) 0), (.int (4) 0), (.int (0) 0), (.int (0) 0), (.int (3) 0), (.ref 480), (.bool true), (.int (181) 0), (.ref 481), .none, (.ref 482), (.ref 483), (.ref 484), (.int (799) 0), (.int (291) 0), (.str "/claim/cut.py" 800)]), #[]⟩),
  (486, kFn "_law_ask_due" "_law_ask_due" (topP p 39) (.str "law_forsworn_k23_folk_refused" 644) 485),
  (492, ⟨(.type "code"), none, (.fields #[(.str "_law_wild_day" 802), (.str "_law_wild_day" 803), (.str "/claim/cut.py" 804), (.int (299) 0), (.int (1) 0), (.int (0) 0), (.int (0) 0), (.int (3) 0), (.ref 487), (.bool true), (.int (181) 0), (.ref 488), .none, (.ref 489), (.ref 490), (.ref 491), (.int (806) 0), (.int (299) 0), (.str "/claim/cut.py" 807)]), #[]⟩),
  (493, kFn "_law_wild_day" "_law_wild_day" (topP p 40) (.str "law_forsworn_k23_folk_refused" 644) 492),
  (499, ⟨(.type "code"), none, (.fields #[(.str "_law_wild_weight" 809), (.str "_law_wild_weight" 810), (.str "/claim/cut.py" 811), (.int (303) 0), (.int (1) 0), (.int (0) 0), (.int (0) 0), (.int (3) 0), (.ref 494), (.bool true), (.int (181) 0), (.ref 495), .none, (.ref 496), (.ref 497), (.ref 498), (.int (813) 0), (.int (303) 0), (.str "/claim/cut.py" 814)]), #[]⟩),
  (500, kFn "_law_wild_weight" "_law_wild_weight" (topP p 41) (.str "law_forsworn_k23_folk_refused" 644) 499),
  (506, ⟨(.type "code"), none, (.fields #[(.str "_law_folk_deed" 816), (.str "_law_folk_deed" 817), (.str "/claim/cut.py" 818), (.int (307) 0), (.int (2) 0), (.int (0) 0), (.int (0) 0), (.int (3) 0), (.ref 501), (.bool true), (.int (181) 0), (.ref 502), .none, (.ref 503), (.ref 504), (.ref 505), (.int (823) 0), (.int (307) 0), (.str "/claim/cut.py" 824)]), #[]⟩),
  (507, kFn "_law_folk_deed" "_law_folk_deed" (topP p 42) (.str "law_forsworn_k23_folk_refused" 644) 506),
  (513, ⟨(.type "code"), none, (.fields #[(.str "_law_folk_kinds" 826), (.str "_law_folk_kinds" 827), (.str "/claim/cut.py" 828), (.int (313) 0), (.int (3) 0), (.int (0) 0), (.int (0) 0), (.int (3) 0), (.ref 508), (.bool true), (.int (181) 0), (.ref 509), .none, (.ref 510), (.ref 511), (.ref 512), (.int (835) 0), (.int (313) 0), (.str "/claim/cut.py" 836)]), #[]⟩),
  (514, kFn "_law_folk_kinds" "_law_folk_kinds" (topP p 43) (.str "law_forsworn_k23_folk_refused" 644) 513),
  (518, ⟨(.type "code"), none, (.fields #[(.str "_law_folk_names" 838), (.str "_law_folk_names" 839), (.str "/claim/cut.py" 840), (.int (325) 0), (.int (1) 0), (.int (0) 0), (.int (0) 0), (.int (3) 0), (.ref 515), (.bool true), (.int (181) 0), (.ref 516), .none, .none, .none, (.ref 517), (.int (841) 0), (.int (325) 0), (.str "/claim/cut.py" 842)]), #[]⟩),
  (519, kFn "_law_folk_names" "_law_folk_names" (topP p 44) (.str "law_forsworn_k23_folk_refused" 644) 518),
  (525, ⟨(.type "code"), none, (.fields #[(.str "_law_folk_does" 844), (.str "_law_folk_does" 845), (.str "/claim/cut.py" 846), (.int (330) 0), (.int (3) 0), (.int (0) 0), (.int (0) 0), (.int (3) 0), (.ref 520), (.bool true), (.int (181) 0), (.ref 521), .none, (.ref 522), (.ref 523), (.ref 524), (.int (850) 0), (.int (330) 0), (.str "/claim/cut.py" 851)]), #[]⟩),
  (526, kFn "_law_folk_does" "_law_folk_does" (topP p 45) (.str "law_forsworn_k23_folk_refused" 644) 525),
  (530, ⟨(.type "code"), none, (.fields #[(.str "_law_asked_right" 853), (.str "_law_asked_right" 854), (.str "/claim/cut.py" 855), (.int (344) 0), (.int (4) 0), (.int (0) 0), (.int (0) 0), (.int (3) 0), (.ref 527), (.bool true), (.int (181) 0), (.ref 528), .none, .none, .none, (.ref 529), (.int (856) 0), (.int (344) 0), (.str "/claim/cut.py" 857)]), #[]⟩),
  (531, kFn "_law_asked_right" "_law_asked_right" (topP p 46) (.str "law_forsworn_k23_folk_refused" 644) 530),
  (535, ⟨(.type "code"), none, (.fields #[(.str "law" 859), (.str "law" 860), (.str "/claim/cut.py" 861), (.int (356) 0), (.int (1) 0), (.int (0) 0), (.int (0) 0), (.int (3) 0), (.ref 532), (.bool true), (.int (181) 0), (.ref 533), .none, .none, .none, (.ref 534), (.int (862) 0), (.int (356) 0), (.str "/claim/cut.py" 863)]), #[]⟩),
  (536, kFn "law" "law" (topP p 47) (.str "law_forsworn_k23_folk_refused" 644) 535)]
def KK (P : Params) : PySem.W.Frag := Kp PySem.Challenge.pw_forsworn_k23_folk_refused P
def askd : List Addr := [3, 37, 38, 57, 58, 76, 77, 95, 96, 114, 115, 133, 134, 152, 153, 171, 172, 190, 191, 199, 200, 206, 207, 211, 212, 225, 226, 232, 233, 239, 240, 246, 247, 253, 254, 260, 261, 265, 266, 272, 273, 279, 280, 293, 294, 300, 301, 321, 322, 328, 329, 335, 336, 342, 343, 349, 350, 356, 357, 363, 364, 366, 367, 377, 378, 384, 385, 391, 392, 398, 399, 405, 406, 410, 411, 417, 418, 424, 425, 431, 432, 438, 439, 445, 446, 452, 453, 459, 460, 466, 467, 473, 474, 478, 479, 485, 486, 492, 493, 499, 500, 506, 507, 513, 514, 518, 519, 525, 526, 530, 531, 535, 536]
def HK : PySem.W.Hook := PySem.W.kHook KK askd fun _ => by kernel_rfl
def q : Program := PySem.W.view PySem.Challenge.pw_forsworn_k23_folk_refused [0, 2, 3, 4, 5, 6, 7, 8, 9, 10, 12, 13, 14, 15, 17, 18, 20, 21, 23, 24, 25, 26, 27, 28, 29, 30, 31, 32, 33, 34, 35, 36, 37, 38, 39, 40, 41, 42, 43, 44, 45, 46, 47]
end Law
namespace PySem.W.Fast
noncomputable def tw3858346217963042978 : PySem.Program := PySem.Challenge.pw_forsworn_k23_folk_refused
theorem te3858346217963042978 : PySem.Challenge.pw_forsworn_k23_folk_refused = tw3858346217963042978 := rfl
end PySem.W.Fast
lay_quick PySem.Challenge.rw_forsworn_k23_folk_refused Law.q
namespace Law
open PySem L2
set_option maxRecDepth 1000000 in
theorem runQ (w : World) (os : PySem.OsState) : Option.map (fun s => PySem.W.Fast.tw12071799914241796487 (PySem.W.Fast.tw2368527892694137696 PySem.W.Fast.tw12081772044469285810).prog PySem.W.Fast.tw2797900513057943271 [] (fun s => PySem.W.xlAt PySem.W.Fast.tw2797900513057943271 [] s && PySem.W.recOk (PySem.W.Fast.tw2368527892694137696 PySem.W.Fast.tw12081772044469285810).records s) (fun s => askd.map s.heap.get?) w.params s.abs)
    (PySem.W.Fast.tw4652649595001227023 PySem.W.Fast.tw14364793385576792824 (PySem.W.Fast.tw2368527892694137696 PySem.W.Fast.tw12081772044469285810).prog w 11 (some (.ref 6)) 8104 (PySem.W.Fast.tw15095419895629540892 w.params os) (PySem.W.topStub (PySem.W.Fast.tw2368527892694137696 PySem.W.Fast.tw12081772044469285810).prog)) = some (true, PySem.W.openGood PySem.W.Fast.tw2797900513057943271 [], (Kp PySem.W.Fast.tw3858346217963042978 w.params).map fun p => some p.2) := by
  kernel_rfl
theorem left : PySem.W.LeftO PySem.Challenge.rw_forsworn_k23_folk_refused.row.prog q [] (fun s => PySem.W.xlAt q [] s && PySem.W.recOk (PySem.W.RowW.records PySem.Challenge.rw_forsworn_k23_folk_refused.row.toRowW) s) HK.obs HK.val 8104 := by
  refine left_of (by kernel_rfl) (by decide) (fun s => by kernel_rfl) fun w os => ?_
  have h := runQ w os
  rw [← PySem.W.Fast.te12071799914241796487, ← PySem.W.Fast.te4652649595001227023, ← PySem.W.Fast.te15095419895629540892, ← PySem.W.Fast.te2797900513057943271, ← PySem.W.Fast.te2368527892694137696, ← PySem.W.Fast.te12081772044469285810, ← PySem.W.Fast.te14364793385576792824, ← PySem.W.Fast.te3858346217963042978] at h
  exact h
end Law
section
set_option Elab.async false
set_option linter.all false
set_option maxRecDepth 100000
namespace L2
open PySem PySem.Spec PyProof.Rows
abbrev Key := Sum Int Str
def keyIs : Key -> Value -> Bool
  | .inl k, v => Value.isInt k v
  | .inr x, v => Value.isStrOf x v
def keyH (w : World) : Key -> Int
  | .inl k => hashInt k
  | .inr x => hashStr w x
theorem Zq98 : ∀ {k : Key} {v : Value}, keyIs k v = true -> (∃ i t, k = Sum.inl i /\ v = Value.int i t) \/ (∃ x t, k = Sum.inr x /\ v = Value.str x t)
  | .inl i, v, h => by
    obtain ⟨t, e⟩ := Value.isInt_shape (k := i) (v := v) h
    exact .inl ⟨i, t, rfl, e⟩
  | .inr x, v, h => by
    obtain ⟨t, e⟩ := Value.isStrOf_shape (x := x) (v := v) h
    exact .inr ⟨x, t, rfl, e⟩
theorem keyIs_int (i : Int) (t : Tok) : keyIs (.inl i) (.int i t) = true := by simp [keyIs, Value.isInt]
theorem keyIs_str (x : Str) (t : Tok) : keyIs (.inr x) (.str x t) = true := by simp [keyIs, Value.isStrOf]
theorem key_ll (a b : Int) : decide ((Sum.inl a : Key) = Sum.inl b) = (a == b) := by
  by_cases e : a = b
  · subst e; simp
  · have h : ¬ (Sum.inl a : Key) = Sum.inl b := fun q => e (Sum.inl.inj q)
    rw [decide_eq_false h]
    exact (beq_eq_false_iff_ne.mpr e).symm
theorem key_rr (a b : Str) : decide ((Sum.inr a : Key) = Sum.inr b) = decide (a = b) := by
  by_cases e : a = b
  · subst e; simp
  · have h : ¬ (Sum.inr a : Key) = Sum.inr b := fun q => e (Sum.inr.inj q)
    rw [decide_eq_false h, decide_eq_false e]
theorem key_lr (a : Int) (b : Str) : decide ((Sum.inl a : Key) = Sum.inr b) = false := decide_eq_false (fun q => nomatch q)
theorem key_rl (a : Str) (b : Int) : decide ((Sum.inr a : Key) = Sum.inl b) = false := decide_eq_false (fun q => nomatch q)
def Zq51 (prog : Program) (w : World) : PySem.KeyKind prog w Key where
  is := keyIs
  hash := keyH w
  inj := fun v a b ha hb => by
    rcases Zq98 ha with ⟨i, t, rfl, rfl⟩ | ⟨x, t, rfl, rfl⟩
    · rcases Zq98 hb with ⟨j, u, rfl, e⟩ | ⟨y, u, rfl, e⟩
      · injection e with e1 _; rw [e1]
      · exact nomatch e
    · rcases Zq98 hb with ⟨j, u, rfl, e⟩ | ⟨y, u, rfl, e⟩
      · exact nomatch e
      · injection e with e1 _; rw [e1]
  byValue := fun k v h => by
    rcases Zq98 h with ⟨i, t, rfl, rfl⟩ | ⟨x, t, rfl, rfl⟩ <;> rfl
  pyHash := fun hv h => by
    rcases Zq98 hv with ⟨i, t, rfl, rfl⟩ | ⟨x, t, rfl, rfl⟩
    · exact wpAny_pyHash_int h
    · exact wpAny_pyHash_str h
  eqBool := fun hu hv h => by
    rcases Zq98 hu with ⟨i, t, rfl, rfl⟩ | ⟨x, t, rfl, rfl⟩
    · rcases Zq98 hv with ⟨j, u, rfl, rfl⟩ | ⟨y, u, rfl, rfl⟩
      · rw [key_ll] at h; exact wpAny_eqBool_int h
      · rw [key_lr] at h; exact SeqAt.EqAt.int_str i t y u _ _ _ _ h
    · rcases Zq98 hv with ⟨j, u, rfl, rfl⟩ | ⟨y, u, rfl, rfl⟩
      · rw [key_rl] at h; exact SeqAt.EqAt.str_int x t j u _ _ _ _ h
      · rw [key_rr] at h; exact wpAny_eqBool_str h
  «strs» := fun k x t v h => by
    rcases Zq98 h with ⟨i, u, rfl, e⟩ | ⟨y, u, rfl, e⟩
    · exact nomatch e
    · injection e with e1 _
      subst e1
      cases v <;> rfl
theorem mixKind_int (prog : Program) (w : World) (i : Int) (t : Tok) : (Zq51 prog w).is (.inl i) (.int i t) = true := keyIs_int i t
theorem mixKind_str (prog : Program) (w : World) (x : Str) (t : Tok) : (Zq51 prog w).is (.inr x) (.str x t) = true := keyIs_str x t
end L2
namespace L2
open PySem PySem.Spec PyProof.Rows
inductive V where
  | non | bl (b : Bool) | int (i : Int) | str (x : Str) | byt (b : Array UInt8) | flt (b : UInt64) | ref (a : Addr) | ty (n : String)
  deriving DecidableEq
def RelV : V -> Value -> Prop
  | .non, u => u = Value.none
  | .bl b, u => u = Value.bool b
  | .int i, u => ∃ t, u = Value.int i t
  | .str x, u => ∃ t, u = Value.str x t
  | .byt b, u => ∃ t, u = Value.bytes b t
  | .flt b, u => ∃ t, u = Value.float b t
  | .ref a, u => u = Value.ref a
  | .ty n, u => u = Value.type n
abbrev Vals : List V -> List Value -> Prop := Paired RelV
theorem Vals.length {xs : List V} {us : List Value} (r : Vals xs us) : xs.length = us.length := Paired.length r
theorem Vals.get : ∀ {xs : List V} {us : List Value} {i : Nat} {x : V}, Vals xs us -> xs[i]? = some x -> ∃ u, us[i]? = some u /\ RelV x u
  | _, _, _, _, .nil, e => by simp at e
  | _, _, 0, _, .cons r _, e => by simp at e; subst e; exact ⟨_, rfl, r⟩
  | _, _, i + 1, x, .cons _ t, e => by
    obtain ⟨u, h1, h2⟩ := Vals.get (i := i) (x := x) t (by simpa using e)
    exact ⟨u, by simpa using h1, h2⟩
theorem Vals.set {x : V} {u : Value} (r : RelV x u) : ∀ {xs : List V} {us : List Value} (i : Nat), Vals xs us -> Vals (xs.set i x) (us.set i u)
  | _, _, _, .nil => .nil
  | _, _, 0, .cons _ t => .cons r t
  | _, _, i + 1, .cons q t => .cons q (Vals.set r i t)
theorem Vals.append : ∀ {xs ys : List V} {us ws : List Value}, Vals xs us -> Vals ys ws -> Vals (xs ++ ys) (us ++ ws)
  | _, _, _, _, .nil, s => s
  | _, _, _, _, .cons r t, s => .cons r (Vals.append t s)
theorem Vals.take : ∀ {xs : List V} {us : List Value} (n : Nat), Vals xs us -> Vals (xs.take n) (us.take n)
  | _, _, 0, _ => .nil
  | _, _, _ + 1, .nil => .nil
  | _, _, n + 1, .cons r t => .cons r (Vals.take n t)
theorem Vals.drop : ∀ {xs : List V} {us : List Value} (n : Nat), Vals xs us -> Vals (xs.drop n) (us.drop n)
  | _, _, 0, r => r
  | _, _, _ + 1, .nil => .nil
  | _, _, n + 1, .cons _ t => Vals.drop n t
def RelO : Option V -> Option Value -> Prop
  | some v, some u => RelV v u
  | none, none => True
  | _, _ => False
def KV {κ : Type} : List (κ × V) -> List (κ × Value) -> Prop := Paired fun (p : κ × V) (q : κ × Value) => p.1 = q.1 /\ RelV p.2 q.2
def kV : Key -> V
  | .inl i => .int i
  | .inr x => .str x
inductive HO where
  | lst (xs : List V)
  | tup (xs : List V)
  | dK (kvs : List (Key × V)) | dT (kvs : List (List Key × V))
  | set (S : Int -> Bool) (n : Nat)
  | ins (C dx : Addr) (fs : List (Str × V))
  | own (x : Addr)
  | xd (fs : List (Str × V))
  | met (f x : Addr)
  | rng (lo hi : Int)
  | frz (o : Obj) (u : HO)
  | tbl (ps : Array Value)
  | ext (φ : Heap -> Prop)
abbrev Hp := Addr -> Option HO
def upd (H : Hp) (a : Addr) (o : HO) : Hp := fun b => if b = a then some o else H b
theorem Zq7 {H : Hp} {a : Addr} {o : HO} : upd H a o a = some o := by unfold upd; rw [if_pos rfl]
theorem Zq6 {H : Hp} {a b : Addr} {o : HO} (h : b ≠ a) : upd H a o b = H b := by unfold upd; rw [if_neg h]
theorem ne_of {H : Hp} {a b : Addr} {o u : HO} (h : H a = some o) (h' : H b = some u) (d : o ≠ u) : a ≠ b := by
  intro e; subst e; rw [h] at h'; exact d (Option.some.inj h')
theorem Zq13 {H : Hp} {a b : Addr} {o : HO} (h : H a = some o) (h' : H b = none) : a ≠ b := by
  intro e; subst e; rw [h] at h'; cases h'
section
variable (P : Program) (w : World)
def ObjOk (H : Hp) (h : Heap) (a : Addr) : HO -> Prop
  | .lst xs => xs.length <= sizeLine /\ ∃ (its : List Value) (n : Nat), Vals xs its /\ h.get? a = some { cls := .type "list", data := .seq its.toArray n }
  | .tup xs => xs.length <= sizeLine /\ ∃ its : List Value, Vals xs its /\ IsTup h a its.toArray
  | .dK kvs => kvs.length <= sizeLine /\ (a == sysModules) = false /\ ∃ vs, KV kvs vs /\ h.DictOf (Zq51 P w) a vs
  | .dT kvs => kvs.length <= sizeLine /\ (a == sysModules) = false /\ ∃ xs : List (List Key × Addr × Value),
      Paired (fun (p : List Key × V) (q : List Key × Addr × Value) => p.1 = q.1 /\ H q.2.1 = some (.tup (p.1.map kV)) /\ RelV p.2 q.2.2) kvs xs /\
      ∃ o es ep, h.get? a = some o /\ o.ExactDict /\ o.data = .dict es ep /\ es.toList = xs.map (entryOfKey (tupleKind (Zq51 P w))) /\ (xs.map (·.1)).Nodup
  | .set S n => h.SetOf (intKind P w) a S n
  | .ins C dx fs => H dx = some (.own a) /\ fs.length <= 1000 /\ dx ≠ a /\ h.get? a = some (PySem.W.instObj C dx) /\
      ∃ mA, h.Ns1 dx mA /\ (∀ f, RelO (fs.lookup f) (mA f)) /\ PySem.Within mA (fs.map (·.1))
  | .own _ => ∃ o, h.get? a = some o
  | .xd fs => ∃ mA, h.Ns1 a mA /\ ∀ f, RelO (fs.lookup f) (mA f)
  | .rng lo hi => ∃ t u v, h.get? a = some { cls := .type "range", data := .fields #[.int lo t, .int hi u, .int 1 v] }
  | .frz o u => h.get? a = some o /\ ObjOk H h a u
  | .tbl ps => ∃ (qs : Array Value) (nm : Str) (t : Tok), h.get? a = some { cls := .none, data := .fields qs } /\ TriplesOk qs.toList /\ ps[0]? = some (.str nm t) /\ ∀ pos cv, codeAmong pos qs.toList = some cv -> ∃ c, cv = .ref c /\ H c = some (.own a) /\ h.CodeRec (.ref c) nm
  | .met f x => h.get? a = some (PySem.W.methodObj (.ref f) (.ref x))
  | .ext φ => φ h /\ (∃ o, h.get? a = some o) /\ ∀ h1 h2 : Heap, φ h1 -> (∀ o, h1.get? a = some o -> h2.get? a = some o) -> φ h2
def HOk (H : Hp) (h : Heap) : Prop := ∀ a o, H a = some o -> ObjOk P w H h a o
end
section
variable {P : Program} {w : World} {H H' : Hp} {h h' : Heap} {a : Addr} {o : HO}
theorem ObjOk.lt (x : ObjOk P w H h a o) : a < h.objs.size := by
  cases o with
  | lst xs => obtain ⟨_, _, _, _, e⟩ := x; exact Heap.lt_size e
  | tup xs => obtain ⟨_, _, _, p⟩ := x; exact p.lt
  | dK kvs => obtain ⟨_, _, _, _, o, _, _, e, _⟩ := x; exact Heap.lt_size e
  | dT kvs => obtain ⟨_, _, _, _, o, _, _, e, _⟩ := x; exact Heap.lt_size e
  | set S n => obtain ⟨o, _, _, _, e, _⟩ := x; exact Heap.lt_size e
  | ins C dx fs => obtain ⟨_, _, _, e, _⟩ := x; exact Heap.lt_size e
  | own y => obtain ⟨_, e⟩ := x; exact Heap.lt_size e
  | xd fs => obtain ⟨_, ⟨_, _, _, e, _⟩, _⟩ := x; exact Heap.lt_size e
  | rng lo hi => obtain ⟨_, _, _, e⟩ := x; exact Heap.lt_size e
  | frz ob u => obtain ⟨e, _⟩ := x; exact Heap.lt_size e
  | tbl ps => obtain ⟨_, _, _, e, _⟩ := x; exact Heap.lt_size e
  | met f y => exact Heap.lt_size (show h.get? a = some _ from x)
  | ext φ => obtain ⟨_, ⟨_, e⟩, _⟩ := x; exact Heap.lt_size e
theorem Paired.mapP {α β : Type} {F G : α -> β -> Prop} : ∀ {l₁ : List α} {l₂ : List β}, Paired F l₁ l₂ -> (∀ a b, F a b -> G a b) -> Paired G l₁ l₂
  | _, _, .nil, _ => .nil
  | _, _, .cons r t, f => .cons (f _ _ r) (Paired.mapP t f)
theorem ObjOk.stay (x : ObjOk P w H h a o) (k : ∀ b u, (b = a \/ H b = some (.own a)) -> h.get? b = some u -> h'.get? b = some u)
    (ho : ∀ b, H b = some (.own a) -> H' b = some (.own a)) (ht : ∀ b xs, H b = some (.tup xs) -> H' b = some (.tup xs)) : ObjOk P w H' h' a o := by
  induction o with
  | lst xs => obtain ⟨z, its, n, r, e⟩ := x; exact ⟨z, its, n, r, k _ _ (.inl rfl) e⟩
  | tup xs => obtain ⟨z, its, r, ob, e, c⟩ := x; exact ⟨z, its, r, ob, k _ _ (.inl rfl) e, c⟩
  | dK kvs => obtain ⟨z, y, vs, r, ob, es, ep, e, c⟩ := x; exact ⟨z, y, vs, r, ob, es, ep, k _ _ (.inl rfl) e, c⟩
  | dT kvs =>
    obtain ⟨z, y, xs, r, ob, es, ep, e, c⟩ := x
    exact ⟨z, y, xs, Paired.mapP r fun p q z => ⟨z.1, ht _ _ z.2.1, z.2.2⟩, ob, es, ep, k _ _ (.inl rfl) e, c⟩
  | set S n => obtain ⟨ob, es, ep, t, e, c⟩ := x; exact ⟨ob, es, ep, t, k _ _ (.inl rfl) e, c⟩
  | ins C dx fs =>
    obtain ⟨d, z, ne, e, mA, ⟨od, es, ep, e2, c⟩, r⟩ := x
    exact ⟨ho _ d, z, ne, k _ _ (.inl rfl) e, mA, ⟨od, es, ep, k _ _ (.inr d) e2, c⟩, r⟩
  | own y => obtain ⟨ob, e⟩ := x; exact ⟨ob, k _ _ (.inl rfl) e⟩
  | xd fs => obtain ⟨mA, ⟨od, es, ep, e, c⟩, r⟩ := x; exact ⟨mA, ⟨od, es, ep, k _ _ (.inl rfl) e, c⟩, r⟩
  | rng lo hi => obtain ⟨t, u, v, e⟩ := x; exact ⟨t, u, v, k _ _ (.inl rfl) e⟩
  | frz ob u ih => obtain ⟨e, q⟩ := x; exact ⟨k _ _ (.inl rfl) e, ih q⟩
  | tbl ps =>
    obtain ⟨qs, nm, t, e, z1, z2, z3⟩ := x
    refine ⟨qs, nm, t, k a _ (.inl rfl) e, z1, z2, fun pos cv ec => ?_⟩
    obtain ⟨c, e1, e2, c2, oc, vs, tt, e3, e4, e5⟩ := z3 pos cv ec
    cases e3
    exact ⟨c, e1, ho _ e2, c, oc, vs, tt, rfl, k _ _ (.inr e2) e4, e5⟩
  | met f y =>
    have e : h.get? a = some (PySem.W.methodObj (.ref f) (.ref y)) := x
    show h'.get? a = some (PySem.W.methodObj (.ref f) (.ref y))
    exact k a _ (.inl rfl) e
  | ext φ => obtain ⟨p, ⟨o, e⟩, st⟩ := x; exact ⟨st _ _ p fun o q => k _ _ (.inl rfl) q, ⟨o, k _ _ (.inl rfl) e⟩, st⟩
theorem HOk.lt (x : HOk P w H h) (e : H a = some o) : a < h.objs.size := (x a o e).lt
theorem HOk.fresh (x : HOk P w H h) (e : h.objs.size <= a) : H a = none := by
  cases q : H a with
  | none => rfl
  | some u => exact absurd (Nat.lt_of_lt_of_le (x.lt q) e) (Nat.lt_irrefl _)
theorem HOk.kept (x : HOk P w H h) (k : ∀ b u, h.get? b = some u -> h'.get? b = some u) : HOk P w H h' := fun a o e =>
  (x a o e).stay (fun b u _ q => k b u q) (fun _ q => q) fun _ _ q => q
theorem HOk.laid (x : HOk P w H h) (k : ∀ b u, h.get? b = some u -> h'.get? b = some u) (hp : h.objs.size <= a) (new : ObjOk P w (upd H a o) h' a o) : HOk P w (upd H a o) h' := fun b u e => by
  have hn := x.fresh hp
  by_cases hb : b = a
  · subst hb; rw [Zq7] at e; cases e; exact new
  · rw [Zq6 hb] at e
    exact (x b u e).stay (fun c v _ q => k c v q) (fun c q => by rw [Zq6 (Zq13 q hn)]; exact q) fun c xs q => by rw [Zq6 (Zq13 q hn)]; exact q
end
def Rd (H : Hp) (a : Addr) (u : HO) : Prop := H a = some u \/ ∃ o, H a = some (.frz o u)
theorem Rd.ok {P : Program} {w : World} {H : Hp} {h : Heap} {a : Addr} {u : HO} (r : Rd H a u) (x : HOk P w H h) : ObjOk P w H h a u := by
  rcases r with r | ⟨o, r⟩
  · exact x a u r
  · obtain ⟨_, q⟩ := x a _ r
    exact q
def Mut : Option HO -> Prop
  | some (.lst _) => True
  | some (.dK _) => True
  | some (.dT _) => True
  | some (.set _ _) => True
  | some (.ins _ _ _) => True
  | some (.ext _) => True
  | _ => False
section
variable {P : Program} {w : World} {H : Hp} {h h' : Heap} {x e : Addr} {o' : HO}
theorem HOk.write (ok : HOk P w H h) (mu : Mut (H x)) (he : e = x \/ H e = some (.own x)) (k : ∀ b u, b ≠ e -> h.get? b = some u -> h'.get? b = some u) (heo : ∃ u, h'.get? e = some u)
    (new : ObjOk P w (upd H x o') h' x o') : HOk P w (upd H x o') h' := fun b u q => by
  have nown : ∀ c y, H c = some (.own y) -> c ≠ x := fun c y r z => by subst z; rw [r] at mu; exact mu
  have ntup : ∀ c xs, H c = some (.tup xs) -> c ≠ x := fun c xs r z => by subst z; rw [r] at mu; exact mu
  by_cases hb : b = x
  · subst hb; rw [Zq7] at q; cases q; exact new
  · rw [Zq6 hb] at q
    by_cases hbe : b = e
    · have q' : H b = some (.own x) := by
        rcases he with z | z
        · exact absurd (hbe.trans z) hb
        · rw [hbe]; exact z
      rw [q] at q'; cases q'
      obtain ⟨v, hv⟩ := heo
      exact ⟨v, by rw [hbe]; exact hv⟩
    · refine (ok b u q).stay (fun c v hc r => k c v ?_ r) (fun c r => by rw [Zq6 (nown c b r)]; exact r) fun c xs r => by rw [Zq6 (ntup c xs r)]; exact r
      rcases hc with rfl | hc
      · exact hbe
      · rintro rfl
        rcases he with z | z
        · exact nown c b hc z
        · rw [hc] at z; cases z; exact hb rfl
end
structure Un (fs ex : List Addr) (H H' : Hp) (h h' : Heap) : Prop where
  keep : ∀ b o, h.get? b = some o -> H b = none -> b ∉ fs -> b ∉ ex -> h'.get? b = some o
  slot : ∀ b o, h.get? b = some o -> H b = none -> b ∈ fs -> b ∉ ex -> ∃ sl, h'.get? b = some { o with slots := sl }
  free : ∀ b o, h.get? b = some o -> H b = none -> b ∉ ex -> H' b = none
  there : ∀ b o, h.get? b = some o -> b ∉ ex -> ∃ o', h'.get? b = some o'
  tups : ∀ b xs, H b = some (.tup xs) -> H' b = some (.tup xs)
  frzs : ∀ b o u, H b = some (.frz o u) -> H' b = some (.frz o u)
  tbls : ∀ b ps, H b = some (.tbl ps) -> ∃ more, H' b = some (.tbl (ps ++ more))
section
variable {fs fs' ex ex' : List Addr} {H H1 H2 : Hp} {h h1 h2 h' : Heap} {a x e : Addr} {o : HO}
theorem Un.any (u : Un fs ex H H1 h h1) {b : Addr} {ob : Obj} (q : h.get? b = some ob) (n : H b = none) (hx : b ∉ ex) : ∃ sl, h1.get? b = some { ob with slots := sl } := by
  by_cases hb : b ∈ fs
  · exact u.slot b ob q n hb hx
  · exact ⟨ob.slots, u.keep b ob q n hb hx⟩
theorem Un.kept (k : ∀ b u, h.get? b = some u -> h'.get? b = some u) : Un fs ex H H h h' :=
  ⟨fun b ob q _ _ _ => k b ob q, fun b ob q _ _ _ => ⟨ob.slots, k b ob q⟩, fun _ _ _ n _ => n, fun b ob q _ => ⟨ob, k b ob q⟩, fun _ _ q => q, fun _ _ _ q => q, fun _ ps q => ⟨#[], by rw [q]; simp⟩⟩
theorem Un.refl : Un fs ex H H h h := Un.kept fun _ _ q => q
theorem Un.laid (k : ∀ b u, h.get? b = some u -> h'.get? b = some u) (hp : h.objs.size <= a) (hn : H a = none) : Un fs ex H (upd H a o) h h' where
  keep := fun b u q _ _ _ => k b u q
  slot := fun b u q _ _ _ => ⟨u.slots, k b u q⟩
  free := fun b u q n _ => by rw [Zq6 (Nat.ne_of_lt (Nat.lt_of_lt_of_le (Heap.lt_size q) hp))]; exact n
  there := fun b u q _ => ⟨u, k b u q⟩
  tups := fun b xs q => by rw [Zq6 (Zq13 q hn)]; exact q
  frzs := fun b u xs q => by rw [Zq6 (Zq13 q hn)]; exact q
  tbls := fun b ps q => ⟨#[], by rw [Zq6 (Zq13 q hn), q]; simp⟩
theorem Un.write (mu : Mut (H x)) (he : e = x \/ H e = some (.own x)) (k : ∀ b u, b ≠ e -> h.get? b = some u -> h'.get? b = some u) (heo : ∃ u, h'.get? e = some u) : Un fs ex H (upd H x o) h h' := by
  have hx : ∀ b, H b = none -> b ≠ x := fun b n z => by subst z; rw [n] at mu; exact mu
  have hb : ∀ b, H b = none -> b ≠ e := fun b n z => by
    subst z
    rcases he with r | r
    · exact hx b n r
    · rw [n] at r; cases r
  have hm : ∀ b u, H b = some u -> ¬ Mut (some u) -> b ≠ x := fun b u q nm z => by subst z; rw [q] at mu; exact nm mu
  refine ⟨fun b u q n _ _ => k b u (hb b n) q, fun b u q n _ _ => ⟨u.slots, k b u (hb b n) q⟩, fun b u q n _ => by rw [Zq6 (hx b n)]; exact n, fun b u q _ => ?_,
    fun b xs q => by rw [Zq6 (hm b _ q fun z => z)]; exact q, fun b u xs q => by rw [Zq6 (hm b _ q fun z => z)]; exact q, fun b ps q => ⟨#[], by rw [Zq6 (hm b _ q fun z => z), q]; simp⟩⟩
  by_cases hbe : b = e
  · subst hbe; exact heo
  · exact ⟨u, k b u hbe q⟩
end
def trk (h : Heap) (H : Hp) : List Addr := (List.range h.objs.size).filter fun a => (H a).isSome
def hidT (h : Heap) (H : Hp) : Heap := PySem.W.hideAll h (trk h H)
theorem hidT_size (h : Heap) (H : Hp) : (hidT h H).objs.size = h.objs.size := PySem.W.hideAll_size _ _
theorem hidT_get {h : Heap} {H : Hp} {b : Addr} {o : Obj} (e : h.get? b = some o) (n : H b = none) : (hidT h H).get? b = some o :=
  PySem.W.hideAll_get _ e fun hm => by
    have q : (H b).isSome = true := (List.mem_filter.mp hm).2
    rw [n] at q; simp at q
theorem of_hidT {h : Heap} {H : Hp} {b : Addr} {o : Obj} (e : (hidT h H).get? b = some o) : h.get? b = some o /\ H b = none := by
  have e' : h.get? b = some o := PySem.W.of_hideAll (trk h H) e
  refine ⟨e', ?_⟩
  cases q : H b with
  | none => rfl
  | some x =>
    have hm : b ∈ trk h H := List.mem_filter.mpr ⟨List.mem_range.mpr (Heap.lt_size e'), by simp [q]⟩
    have z : (hidT h H).get? b = none := PySem.W.hideAll_none (trk h H) hm
    rw [z] at e; cases e
end L2
namespace L2
open PySem PySem.Spec PyProof.Rows
structure Mod (K : PySem.W.Frag) (mg : Str -> Option Value) (base : Heap) : Prop where
  kin : K.In base
  glob : base.Ns mainGlobals mg
  blt : ∃ mb, base.Ns builtinsNs mb /\ ∀ x : Str, x ≠ "__name__" -> mb x = bootBuiltins x
  nolimit : base.NoLimit
/-- the context: a def's body (or a comprehension's block) running. base: fixed through the whole law; s₀, H₀: the entry; outer: the frames whose slots others may change (a def's callers); stack: all frames that run;
   ex: iterators that were made ahead of the entry and are walked here (a comprehension's); fn: the names whose cells were made at the entry (a def: all; a comprehension's block: its own); calm: not within an except suite; pn: pins that every state bears; xe: what is wanted of an exception that leaves the code -/
structure Cx where
  prog : Program
  w : World
  K : PySem.W.Frag
  mg : Str -> Option Value
  base : Heap
  A : Around
  N : List Str
  s₀ : Shared
  H₀ : Hp
  env : Env
  outer : List Env
  stack : List Env
  ex : List Addr
  fn : Str -> Bool
  calm : Bool
  pn : List (Addr × Obj)
  xe : Value -> Shared -> Prop
def frs (l : List Env) : List Addr := l.filterMap (·.frame)
abbrev Cx.fs (X : Cx) : List Addr := frs X.outer
def Vis (sc : Scope) (x : Str) : Prop := sc.names.lookup x = some .local \/ sc.names.lookup x = some .cell \/ sc.names.lookup x = some .free
def Loc (sc : Scope) (x : Str) : Prop := sc.names.lookup x = some .local \/ sc.names.lookup x = some .cell
def Look (env : Env) (h : Heap) (m : Str -> Option Value) (x : Str) (u : Value) : Prop :=
  (env.kindOf x = some .local /\ m x = some u) \/ ((env.kindOf x = some .cell \/ env.kindOf x = some .free) /\ ∃ c, env.cells.lookup x = some c /\ h.IsCell c (some u))
structure Cx.Ok (X : Cx) : Prop where
  mod : Mod X.K X.mg X.base
  kind : X.env.scope.kind = .function
  glob : X.env.globals = mainGlobals
  blt : X.env.builtins = builtinsNs
  above : X.s₀.heap.objs.size <= X.env.locals
  inj : ∀ x y c, X.env.cells.lookup x = some c -> X.env.cells.lookup y = some c -> x = y
  has : ∀ x, (X.env.kindOf x = some .cell \/ X.env.kindOf x = some .free) -> ∃ c, X.env.cells.lookup x = some c
  cab : ∀ x c, X.fn x = true -> X.env.cells.lookup x = some c -> X.s₀.heap.objs.size <= c
  hd : X.calm = true -> X.A.handled = none
  frames : X.A.frames = some X.stack
  stk : X.stack = X.outer \/ (X.stack = X.env :: X.outer /\ X.env.frame = some X.env.locals)
  exf : ∀ b ∈ X.ex, b ≠ X.env.locals /\ ∀ x c, X.env.cells.lookup x = some c -> c ≠ b
  bs : ∀ b o, X.base.get? b = some o -> X.s₀.heap.get? b = some o /\ X.H₀ b = none
  bsz : X.base.objs.size <= X.s₀.heap.objs.size
  noex : ∀ b o, X.base.get? b = some o -> b ∉ X.ex
  exfs : ∀ b ∈ X.ex, b ∉ X.fs
  funs : X.s₀.heap.FunFrames X.base X.outer
  frf : ∀ b ∈ X.fs, X.H₀ b = none
structure Inv (X : Cx) (pins : List (Addr × Obj)) (σ : List (Option V)) (H : Hp) (s : Shared) : Prop where
  ok : X.Ok
  os : s.os = X.s₀.os
  bare : AllBare s.gens
  base : Un X.fs X.ex X.H₀ H X.s₀.heap s.heap
  loc : ∃ m, s.heap.Ns X.env.locals m /\ ∀ (i : Nat) (x : Str) (v : V), X.N[i]? = some x -> σ[i]? = some (some v) -> Vis X.env.scope x -> ∃ u, RelV v u /\ Look X.env s.heap m x u
  cell : ∀ x c, X.env.cells.lookup x = some c -> ∃ v, s.heap.IsCell c v
  free : H X.env.locals = none
  freeC : ∀ x c, X.env.cells.lookup x = some c -> H c = none
  pin : ∀ p ∈ X.pn ++ pins, s.heap.get? p.1 = some p.2 /\ H p.1 = none /\ p.1 ≠ X.env.locals /\ p.1 ∉ X.fs /\ ∀ v, p.2.data ≠ .cell v
  hok : HOk X.prog X.w H s.heap
  len : σ.length = X.N.length
section
variable {X : Cx} {pins : List (Addr × Obj)} {σ : List (Option V)} {H H' : Hp} {s : Shared} {h' : Heap}
theorem Cx.Ok.nofr (ok : X.Ok) {b : Addr} {o : Obj} (e : X.base.get? b = some o) : b ∉ X.fs := fun hb => by
  have := (ok.funs.mem hb).1
  rw [e] at this; cases this
theorem Inv.bs (I : Inv X pins σ H s) : ∀ b o, X.base.get? b = some o -> s.heap.get? b = some o /\ H b = none := fun b o e =>
  ⟨I.base.keep b o (I.ok.bs b o e).1 (I.ok.bs b o e).2 (I.ok.nofr e) (I.ok.noex b o e), I.base.free b o (I.ok.bs b o e).1 (I.ok.bs b o e).2 (I.ok.noex b o e)⟩
theorem Inv.bk (I : Inv X pins σ H s) : ∀ b o, X.base.get? b = some o -> s.heap.get? b = some o := fun b o e => (I.bs b o e).1
theorem Inv.mod (I : Inv X pins σ H s) : Mod X.K X.mg X.base := I.ok.mod
theorem Inv.kIn (I : Inv X pins σ H s) : X.K.In s.heap := I.ok.mod.kin.keeps I.bk
theorem Inv.lt (I : Inv X pins σ H s) : X.env.locals < s.heap.objs.size := let ⟨_, hn, _⟩ := I.loc; hn.lt
theorem Inv.sz (I : Inv X pins σ H s) : X.s₀.heap.objs.size <= s.heap.objs.size := Nat.le_trans I.ok.above (Nat.le_of_lt I.lt)
theorem Inv.nofs (I : Inv X pins σ H s) {a : Addr} (h : s.heap.objs.size <= a) : a ∉ X.fs := fun hb => by
  obtain ⟨_, o, ho, _⟩ := I.ok.funs.mem hb
  exact absurd (Nat.lt_of_lt_of_le (Heap.lt_size ho) (Nat.le_trans I.sz h)) (Nat.lt_irrefl _)
theorem Inv.cne (I : Inv X pins σ H s) : ∀ x c, X.env.cells.lookup x = some c -> c ≠ X.env.locals := fun x c e z => by
  obtain ⟨v, o, ho, hd⟩ := I.cell x c e
  obtain ⟨m, ⟨o', es, ep, ho', hd', _⟩, _⟩ := I.loc
  rw [z, ho'] at ho; cases ho; rw [hd'] at hd; cases hd
theorem Inv.funs (I : Inv X pins σ H s) : s.heap.FunFrames X.base X.outer := by
  have all : ∀ (l : List Env), (∀ b ∈ frs l, b ∈ X.fs) -> X.s₀.heap.FunFrames X.base l -> s.heap.FunFrames X.base l := by
    intro l
    induction l with
    | nil => intro _ _; trivial
    | cons env r ih =>
      intro hs hl
      obtain ⟨hk, ⟨L, o, hf, hn, ho, hd⟩, hr⟩ := hl
      have hL : L ∈ X.fs := hs L (by unfold frs; rw [List.filterMap_cons, hf]; exact List.mem_cons_self)
      obtain ⟨sl, e⟩ := I.base.slot L o ho (I.ok.frf L hL) hL fun z => I.ok.exfs L z hL
      exact ⟨hk, ⟨L, _, hf, hn, e, hd⟩, ih (fun b hb => hs b (by unfold frs; rw [List.filterMap_cons, hf]; exact List.mem_cons_of_mem _ hb)) hr⟩
  exact all X.outer (fun _ hb => hb) I.ok.funs
theorem Inv.stack (I : Inv X pins σ H s) : s.heap.FunFrames X.base X.stack := by
  rcases I.ok.stk with e | ⟨e, hf⟩
  · rw [e]; exact I.funs
  · rw [e]
    obtain ⟨m, hn, _⟩ := I.loc
    refine .cons (by rw [I.ok.kind]; decide) hf hn ?_ I.funs
    exact Heap.get?_none_of_le (Nat.le_trans I.ok.bsz I.ok.above)
theorem Inv.stkSub (I : Inv X pins σ H s) : ∀ b ∈ frs X.stack, b ∈ X.env.locals :: X.fs := fun b hb => by
  rcases I.ok.stk with e | ⟨e, hf⟩
  · rw [e] at hb; exact List.mem_cons_of_mem _ hb
  · rw [e] at hb
    unfold frs at hb
    rw [List.filterMap_cons, hf] at hb
    exact hb
theorem Inv.stkFree (I : Inv X pins σ H s) : ∀ b ∈ frs X.stack, H b = none := fun b hb => by
  rcases List.mem_cons.mp (I.stkSub b hb) with e | hb
  · rw [e]; exact I.free
  · obtain ⟨_, o, ho, _⟩ := I.ok.funs.mem hb
    exact I.base.free b o ho (I.ok.frf b hb) fun z => I.ok.exfs b z hb
theorem Inv.step {g' : Array GenState} {t' : Nat} {d' : Drawn} {ch : List Addr} (I : Inv X pins σ H s)
    (hch : ∀ b ∈ ch, (b ∈ X.ex \/ X.s₀.heap.objs.size <= b) /\ b ≠ X.env.locals /\ (∀ x c, X.env.cells.lookup x = some c -> c ≠ b) /\ ∀ p ∈ X.pn ++ pins, p.1 ≠ b)
    (keep : ∀ b o, b ≠ X.env.locals -> b ∉ X.fs -> b ∉ ch -> s.heap.get? b = some o -> H b = none -> h'.get? b = some o)
    (slot : ∀ b o, b ≠ X.env.locals -> b ∈ X.fs -> b ∉ ch -> s.heap.get? b = some o -> H b = none -> ∃ sl, h'.get? b = some { o with slots := sl }) (free : ∀ b o, b ∉ ch -> s.heap.get? b = some o -> H b = none -> H' b = none)
    (there : ∀ b o, b ∉ ch -> s.heap.get? b = some o -> ∃ o', h'.get? b = some o')
    (tups : ∀ b xs, H b = some (.tup xs) -> H' b = some (.tup xs)) (frzs : ∀ b o u, H b = some (.frz o u) -> H' b = some (.frz o u)) (tbls : ∀ b ps, H b = some (.tbl ps) -> ∃ more, H' b = some (.tbl (ps ++ more)))
    (ns : ∀ m, s.heap.Ns X.env.locals m -> h'.Ns X.env.locals m) (hok : HOk X.prog X.w H' h') (hg : AllBare g') :
    Inv X pins σ H' { s with heap := h', gens := g', drawn := d', toks := t' } := by
  have neL : ∀ b o, X.s₀.heap.get? b = some o -> b ≠ X.env.locals := fun b o e => Nat.ne_of_lt (Nat.lt_of_lt_of_le (Heap.lt_size e) I.ok.above)
  have neC : ∀ b o, X.s₀.heap.get? b = some o -> b ∉ X.ex -> b ∉ ch := fun b o e hx hb => by
    rcases (hch b hb).1 with z | z
    · exact hx z
    · exact absurd (Nat.lt_of_lt_of_le (Heap.lt_size e) z) (Nat.lt_irrefl _)
  have cellK : ∀ x c, X.env.cells.lookup x = some c -> ∀ v, s.heap.IsCell c v -> h'.IsCell c v := fun x c e v ⟨o, ho, hd⟩ => by
    have nch : c ∉ ch := fun z => (hch c z).2.2.1 x c e rfl
    by_cases hc : c ∈ X.fs
    · obtain ⟨sl, q⟩ := slot c o (I.cne x c e) hc nch ho (I.freeC x c e)
      exact ⟨_, q, hd⟩
    · exact ⟨o, keep c o (I.cne x c e) hc nch ho (I.freeC x c e), hd⟩
  refine ⟨I.ok, I.os, hg, ⟨fun b o e n hb hx => ?_, fun b o e n hb hx => ?_, fun b o e n hx => ?_, fun b o e hx => ?_, fun b xs e => tups b xs (I.base.tups b xs e), fun b o xs e => frzs b o xs (I.base.frzs b o xs e), fun b ps e => ?_⟩, ?_, fun x c e => ?_, ?_, fun x c e => ?_, fun p hp => ?_, hok, I.len⟩
  · exact keep b o (neL b o e) hb (neC b o e hx) (I.base.keep b o e n hb hx) (I.base.free b o e n hx)
  · obtain ⟨sl, e1⟩ := I.base.slot b o e n hb hx
    obtain ⟨sl', e2⟩ := slot b _ (neL b o e) hb (neC b o e hx) e1 (I.base.free b o e n hx)
    exact ⟨sl', e2⟩
  · obtain ⟨o', e1⟩ := I.base.there b o e hx
    exact free b o' (neC b o e hx) e1 (I.base.free b o e n hx)
  · obtain ⟨o', e1⟩ := I.base.there b o e hx
    exact there b o' (neC b o e hx) e1
  · obtain ⟨m1, e1⟩ := I.base.tbls b ps e
    obtain ⟨m2, e2⟩ := tbls b _ e1
    exact ⟨m1 ++ m2, by rw [e2, Array.append_assoc]⟩
  · obtain ⟨m, hn, hl⟩ := I.loc
    refine ⟨m, ns m hn, fun i x v e1 e2 e3 => ?_⟩
    obtain ⟨u, r, l⟩ := hl i x v e1 e2 e3
    refine ⟨u, r, ?_⟩
    rcases l with l | ⟨k, c, e, z⟩
    · exact .inl l
    · exact .inr ⟨k, c, e, cellK x c e _ z⟩
  · obtain ⟨v, z⟩ := I.cell x c e
    exact ⟨v, cellK x c e v z⟩
  · obtain ⟨m, ⟨o, _, _, ho, _⟩, _⟩ := I.loc
    exact free _ o (fun z => (hch _ z).2.1 rfl) ho I.free
  · obtain ⟨v, o, ho, hd⟩ := I.cell x c e
    exact free c o (fun z => (hch c z).2.2.1 x c e rfl) ho (I.freeC x c e)
  · obtain ⟨e, n, ne, nf, d⟩ := I.pin p hp
    have nch : p.1 ∉ ch := fun z => (hch p.1 z).2.2.2 p hp rfl
    exact ⟨keep p.1 p.2 ne nf nch e n, free p.1 p.2 nch e n, ne, nf, d⟩
theorem Inv.un {t' : Nat} (I : Inv X pins σ H s) (u : Un X.fs [] H H' s.heap h') (hok : HOk X.prog X.w H' h') : Inv X pins σ H' { s with heap := h', toks := t' } := by
  obtain ⟨m, ⟨o, es, ep, ho, r⟩, _⟩ := id I.loc
  obtain ⟨sl, hL⟩ := u.any ho I.free (by simp)
  exact I.step (g' := s.gens) (d' := s.drawn) (ch := []) (fun _ z => nomatch z) (fun b o _ hb _ e n => u.keep b o e n hb (by simp)) (fun b o _ hb _ e n => u.slot b o e n hb (by simp)) (fun b o _ e n => u.free b o e n (by simp)) (fun b o _ e => u.there b o e (by simp)) u.tups u.frzs u.tbls (fun m' hm => by
    obtain ⟨o', es', ep', ho', r'⟩ := hm
    rw [ho] at ho'; cases ho'
    exact ⟨_, es', ep', hL, r'⟩) hok I.bare
theorem Inv.call {g' : Array GenState} {t' : Nat} {d' : Drawn} {ch : List Addr} (I : Inv X pins σ H s) (u : Un (frs X.stack) ch H H' s.heap h') (hok : HOk X.prog X.w H' h') (hg : AllBare g')
    (hch : ∀ b ∈ ch, (b ∈ X.ex \/ X.s₀.heap.objs.size <= b) /\ b ≠ X.env.locals /\ (∀ x c, X.env.cells.lookup x = some c -> c ≠ b) /\ ∀ p ∈ X.pn ++ pins, p.1 ≠ b) :
    Inv X pins σ H' { s with heap := h', gens := g', drawn := d', toks := t' } := by
  obtain ⟨m, ⟨o, es, ep, ho, r⟩, _⟩ := id I.loc
  obtain ⟨sl, hL⟩ := u.any ho I.free fun z => (hch _ z).2.1 rfl
  exact I.step (ch := ch) hch (fun b o hL hb hc e n => u.keep b o e n (fun z => (List.mem_cons.mp (I.stkSub b z)).elim hL hb) hc) (fun b o _ _ hc e n => u.any e n hc) (fun b o hc e n => u.free b o e n hc) (fun b o hc e => u.there b o e hc) u.tups u.frzs u.tbls (fun m' hm => by
    obtain ⟨o', es', ep', ho', r'⟩ := hm
    rw [ho] at ho'; cases ho'
    exact ⟨_, es', ep', hL, r'⟩) hok hg
theorem Inv.turned {t' : Nat} {it : Addr} (I : Inv X pins σ H s) (k : ∀ b o, b ≠ it -> s.heap.get? b = some o -> h'.get? b = some o) (hn : H it = none) (hL : it ≠ X.env.locals)
    (h1 : it ∈ X.ex \/ X.s₀.heap.objs.size <= it) (h2 : ∀ x c, X.env.cells.lookup x = some c -> c ≠ it) (h3 : ∀ p ∈ X.pn ++ pins, p.1 ≠ it) : Inv X pins σ H { s with heap := h', toks := t' } := by
  have nit : ∀ b u, H b = some u -> b ≠ it := fun b u e z => by rw [z, hn] at e; cases e
  refine I.step (g' := s.gens) (d' := s.drawn) (ch := [it]) (fun b hb => ?_) (fun b o _ _ hc e _ => k b o (fun z => hc (by simp [z])) e) (fun b o _ _ hc e _ => ⟨o.slots, k b o (fun z => hc (by simp [z])) e⟩) (fun _ _ _ _ n => n)
    (fun b o hc e => ⟨o, k b o (fun z => hc (by simp [z])) e⟩) (fun _ _ e => e) (fun _ _ _ e => e) (fun b ps e => ⟨#[], by rw [e]; simp⟩) (fun m hm => ?_) (fun b u e => ?_) I.bare
  · have e : b = it := by simpa using hb
    subst e
    exact ⟨h1, hL, h2, h3⟩
  · obtain ⟨o, es, ep, ho, r⟩ := hm
    exact ⟨o, es, ep, k _ o (Ne.symm hL) ho, r⟩
  · refine (I.hok b u e).stay (fun c v hc q => k c v ?_ q) (fun _ q => q) fun _ _ q => q
    rcases hc with z | z
    · rw [z]; exact nit b u e
    · exact nit c _ z
theorem Inv.tok (I : Inv X pins σ H s) (t : Nat) : Inv X pins σ H { s with toks := t } := I.un (h' := s.heap) (t' := t) Un.refl I.hok
theorem Inv.kept {t' : Nat} (I : Inv X pins σ H s) (k : ∀ b u, s.heap.get? b = some u -> h'.get? b = some u) : Inv X pins σ H { s with heap := h', toks := t' } := I.un (Un.kept k) (I.hok.kept k)
theorem Inv.laid {a : Addr} {o : HO} {t' : Nat} (I : Inv X pins σ H s) (k : ∀ b u, s.heap.get? b = some u -> h'.get? b = some u) (hp : s.heap.objs.size <= a) (new : ObjOk X.prog X.w (upd H a o) h' a o) :
    Inv X pins σ (upd H a o) { s with heap := h', toks := t' } := I.un (Un.laid k hp (I.hok.fresh hp)) (I.hok.laid k hp new)
theorem Inv.write {x e : Addr} {o : HO} {t' : Nat} (I : Inv X pins σ H s) (mu : Mut (H x)) (he : e = x \/ H e = some (.own x)) (k : ∀ b u, b ≠ e -> s.heap.get? b = some u -> h'.get? b = some u) (heo : ∃ u, h'.get? e = some u)
    (new : ObjOk X.prog X.w (upd H x o) h' x o) : Inv X pins σ (upd H x o) { s with heap := h', toks := t' } := I.un (Un.write mu he k heo) (I.hok.write mu he k heo new)
theorem Inv.pins_of {pins' : List (Addr × Obj)} (I : Inv X pins σ H s) (h : ∀ p ∈ pins', s.heap.get? p.1 = some p.2 /\ H p.1 = none /\ p.1 ≠ X.env.locals /\ p.1 ∉ X.fs /\ ∀ v, p.2.data ≠ .cell v) : Inv X pins' σ H s :=
  ⟨I.ok, I.os, I.bare, I.base, I.loc, I.cell, I.free, I.freeC, fun p hp => (List.mem_append.mp hp).elim (fun z => I.pin p (List.mem_append_left _ z)) (h p), I.hok, I.len⟩
theorem nodup_ix {N : List Str} (hN : N.Nodup) {i j : Nat} {x : Str} (a : N[i]? = some x) (b : N[j]? = some x) : i = j := by
  obtain ⟨h1, e1⟩ := List.getElem?_eq_some_iff.mp a
  obtain ⟨h2, e2⟩ := List.getElem?_eq_some_iff.mp b
  exact (List.getElem_inj hN).mp (e1.trans e2.symm)
theorem store_ok2 {M : Model} {A : Around} {E : Value -> Shared -> Prop} {i : Nat} {x : Str} {v : V} {u : Value} {Q : Unit -> Shared -> Prop} (I : Inv X pins σ H s) (hN : X.N.Nodup) (hi : X.N[i]? = some x) (hx : Loc X.env.scope x) (r : RelV v u)
    (h : ∀ s', Inv X pins (σ.set i (some v)) H s' -> (∃ a, Heap.SameBut a s.heap s'.heap /\ (a = X.env.locals \/ X.env.cells.lookup x = some a)) -> Q () s') (hf : X.fn x = true \/ X.env.scope.names.lookup x = some .local := by first | exact .inl rfl | exact .inr rfl | assumption) : wpAny M A (storeName X.env x u) Q E s := by
  obtain ⟨m, hn, hl⟩ := id I.loc
  have hcls : (X.env.scope.kind == .class || (X.env.scope.kind == .module && X.env.locals != X.env.globals)) = false := by rw [I.ok.kind]; rfl
  have hiσ : i < σ.length := by rw [I.len]; exact (List.getElem?_eq_some_iff.mp hi).1
  have cne := I.cne
  have tracked : ∀ {a : Addr} {h' : Heap}, (∃ o, s.heap.get? a = some o /\ H a = none) -> Heap.SameBut a s.heap h' -> HOk X.prog X.w H h' := fun {a h'} ha hs b ob e => by
    obtain ⟨_, _, hfree⟩ := ha
    refine (I.hok b ob e).stay (fun c w' hc q => (hs.2 c ?_).trans q) (fun _ q => q) fun _ _ q => q
    rintro rfl
    rcases hc with rfl | hc
    · rw [hfree] at e; cases e
    · rw [hfree] at hc; cases hc
  rcases hx with hk | hk
  · refine wpAny_storeName_local hk hn (fun h' hn' hs => ?_) hcls
    obtain ⟨oL, _, _, hoL, _⟩ := id hn
    refine h _ ⟨I.ok, I.os, I.bare, ⟨fun b o e n hb hx => ?_, fun b o e n hb hx => ?_, I.base.free, fun b o e hx => ?_, I.base.tups, I.base.frzs, I.base.tbls⟩, ⟨_, hn', fun j y v' e1 e2 e3 => ?_⟩, fun y c e => ?_, I.free, I.freeC, fun p hp => ?_, tracked ⟨oL, hoL, I.free⟩ hs, by simpa using I.len⟩ ⟨_, hs, .inl rfl⟩
    · exact (hs.2 b (Nat.ne_of_lt (Nat.lt_of_lt_of_le (Heap.lt_size e) I.ok.above))).trans (I.base.keep b o e n hb hx)
    · obtain ⟨sl, e1⟩ := I.base.slot b o e n hb hx
      exact ⟨sl, (hs.2 b (Nat.ne_of_lt (Nat.lt_of_lt_of_le (Heap.lt_size e) I.ok.above))).trans e1⟩
    · obtain ⟨o', e1⟩ := I.base.there b o e hx
      exact ⟨o', (hs.2 b (Nat.ne_of_lt (Nat.lt_of_lt_of_le (Heap.lt_size e) I.ok.above))).trans e1⟩
    · by_cases hj : j = i
      · subst hj
        rw [hi] at e1; cases e1
        rw [List.getElem?_set_self hiσ] at e2
        cases e2
        exact ⟨u, r, .inl ⟨hk, by simp⟩⟩
      · rw [List.getElem?_set_ne (Ne.symm hj)] at e2
        obtain ⟨u', r', q⟩ := hl j y v' e1 e2 e3
        refine ⟨u', r', ?_⟩
        rcases q with ⟨k, e⟩ | ⟨k, c, e, z⟩
        · refine .inl ⟨k, ?_⟩
          have : y ≠ x := fun e => hj (nodup_ix hN e1 (e ▸ hi))
          simp [this, e]
        · exact .inr ⟨k, c, e, z.sameBut hs (cne y c e)⟩
    · obtain ⟨w', z⟩ := I.cell y c e
      exact ⟨w', z.sameBut hs (cne y c e)⟩
    · obtain ⟨e, n, ne, nf, d⟩ := I.pin p hp
      exact ⟨(hs.2 p.1 ne).trans e, n, ne, nf, d⟩
  · have hfn : X.fn x = true := by
      rcases hf with z | z
      · exact z
      · rw [z] at hk; cases hk
    obtain ⟨c, hc⟩ := I.ok.has x (.inl hk)
    obtain ⟨w', z⟩ := I.cell x c hc
    refine wpAny_storeName_cell I.ok.kind hk hc z (fun h' hc' hs => ?_)
    obtain ⟨oc, hoc, hocd⟩ := id z
    refine h { s with heap := h' } ⟨I.ok, I.os, I.bare, ⟨fun b o e n hb hx => ?_, fun b o e n hb hx => ?_, I.base.free, fun b o e hx => ?_, I.base.tups, I.base.frzs, I.base.tbls⟩, ⟨m, hn.sameBut hs (Ne.symm (cne x c hc)), fun j y v' e1 e2 e3 => ?_⟩, fun y c' e => ?_, I.free, I.freeC, fun p hp => ?_, tracked ⟨oc, hoc, I.freeC x c hc⟩ hs, by simpa using I.len⟩ ⟨c, hs, .inr hc⟩
    · exact (hs.2 b (Nat.ne_of_lt (Nat.lt_of_lt_of_le (Heap.lt_size e) (I.ok.cab x c hfn hc)))).trans (I.base.keep b o e n hb hx)
    · obtain ⟨sl, e1⟩ := I.base.slot b o e n hb hx
      exact ⟨sl, (hs.2 b (Nat.ne_of_lt (Nat.lt_of_lt_of_le (Heap.lt_size e) (I.ok.cab x c hfn hc)))).trans e1⟩
    · obtain ⟨o', e1⟩ := I.base.there b o e hx
      exact ⟨o', (hs.2 b (Nat.ne_of_lt (Nat.lt_of_lt_of_le (Heap.lt_size e) (I.ok.cab x c hfn hc)))).trans e1⟩
    · by_cases hj : j = i
      · subst hj
        rw [hi] at e1; cases e1
        rw [List.getElem?_set_self hiσ] at e2
        cases e2
        exact ⟨u, r, .inr ⟨.inl hk, c, hc, hc'⟩⟩
      · rw [List.getElem?_set_ne (Ne.symm hj)] at e2
        obtain ⟨u', r', q⟩ := hl j y v' e1 e2 e3
        refine ⟨u', r', ?_⟩
        rcases q with q | ⟨k, c', e, z'⟩
        · exact .inl q
        · refine .inr ⟨k, c', e, z'.sameBut hs ?_⟩
          rintro rfl
          exact hj (nodup_ix hN e1 (I.ok.inj _ _ _ e hc ▸ hi))
    · by_cases hcc : c' = c
      · subst hcc; exact ⟨_, hc'⟩
      · obtain ⟨w2, z2⟩ := I.cell y c' e
        exact ⟨w2, z2.sameBut hs hcc⟩
    · obtain ⟨e, n, ne, nf, d⟩ := I.pin p hp
      refine ⟨(hs.2 p.1 ?_).trans e, n, ne, nf, d⟩
      intro q
      rw [q, hoc] at e
      have q' : oc = p.2 := Option.some.inj e
      exact d w' (by rw [← q']; exact hocd)
theorem store_ok {M : Model} {A : Around} {E : Value -> Shared -> Prop} {i : Nat} {x : Str} {v : V} {u : Value} {Q : Unit -> Shared -> Prop} (I : Inv X pins σ H s) (hN : X.N.Nodup) (hi : X.N[i]? = some x) (hx : Loc X.env.scope x) (r : RelV v u)
    (h : ∀ s', Inv X pins (σ.set i (some v)) H s' -> Q () s') (hf : X.fn x = true \/ X.env.scope.names.lookup x = some .local := by first | exact .inl rfl | exact .inr rfl | assumption) : wpAny M A (storeName X.env x u) Q E s :=
  store_ok2 I hN hi hx r (fun s' I' _ => h s' I') hf
theorem Inv.call' {s' : Shared} {ch : List Addr} (I : Inv X pins σ H s) (ho : s'.os = s.os) (u : Un (frs X.stack) ch H H' s.heap s'.heap) (hok : HOk X.prog X.w H' s'.heap) (hg : AllBare s'.gens)
    (hch : ∀ b ∈ ch, (b ∈ X.ex \/ X.s₀.heap.objs.size <= b) /\ b ≠ X.env.locals /\ (∀ x c, X.env.cells.lookup x = some c -> c ≠ b) /\ ∀ p ∈ X.pn ++ pins, p.1 ≠ b) : Inv X pins σ H' s' := by
  obtain ⟨h', g', d', t', o'⟩ := s'
  have e : o' = s.os := ho
  subst e
  exact I.call (g' := g') (t' := t') (d' := d') u hok hg hch
end
abbrev XK := Value -> Option Addr -> Hp -> Prop
abbrev St := List (Option V)
abbrev VK := V -> Hp -> Prop
abbrev TE := St -> Hp -> VK -> Prop
abbrev TT := St -> Hp -> (Bool -> Hp -> Prop) -> Prop
abbrev TA := St -> Hp -> (List V -> Hp -> Prop) -> Prop
structure Ends where
  nx : St -> Hp -> Prop
  rt : VK
  bk : St -> Hp -> Prop := fun _ _ => False
  ct : St -> Hp -> Prop := fun _ _ => False
abbrev TS := Ends -> St -> Hp -> Prop
def EP (X : Cx) (pins : List (Addr × Obj)) (σ : St) (Q : VK) (u : Value) (s' : Shared) : Prop := ∃ v H', Inv X pins σ H' s' /\ RelV v u /\ Q v H'
def TP (X : Cx) (pins : List (Addr × Obj)) (σ : St) (Q : Bool -> Hp -> Prop) (b : Bool) (s' : Shared) : Prop := ∃ H', Inv X pins σ H' s' /\ Q b H'
def AP (X : Cx) (pins : List (Addr × Obj)) (σ : St) (Q : List V -> Hp -> Prop) (us : List Value) (s' : Shared) : Prop := ∃ vs H', Inv X pins σ H' s' /\ Vals vs us /\ Q vs H'
def SP (X : Cx) (pins : List (Addr × Obj)) (D : Ends) (f : Flow) (s' : Shared) : Prop :=
  match f with
  | .next => ∃ σ' H', Inv X pins σ' H' s' /\ D.nx σ' H'
  | .brk => ∃ σ' H', Inv X pins σ' H' s' /\ D.bk σ' H'
  | .cont => ∃ σ' H', Inv X pins σ' H' s' /\ D.ct σ' H'
  | .ret u => ∃ v σ' H', Inv X pins σ' H' s' /\ RelV v u /\ D.rt v H'
def PE (X : Cx) (e : Expr) (t : TE) : Prop :=
  ∀ (pins : List (Addr × Obj)) (s : Shared) (σ : St) (H : Hp) (Q : VK), Inv X pins σ H s -> t σ H Q -> wpAny (model X.prog X.w) X.A (eval e X.env) (EP X pins σ Q) X.xe s
def PT (X : Cx) (e : Expr) (t : TT) : Prop :=
  ∀ (pins : List (Addr × Obj)) (s : Shared) (σ : St) (H : Hp) (Q : Bool -> Hp -> Prop), Inv X pins σ H s -> t σ H Q -> wpAny (model X.prog X.w) X.A (isTrue e X.env (eval e X.env)) (TP X pins σ Q) X.xe s
def PW (X : Cx) (e : Expr) (t : TT) : Prop :=
  ∀ (whole : Sem Value) (pins : List (Addr × Obj)) (s : Shared) (σ : St) (H : Hp) (Q : Bool -> Hp -> Prop), Inv X pins σ H s -> t σ H Q -> wpAny (model X.prog X.w) X.A (isTrue e X.env whole) (TP X pins σ Q) X.xe s
theorem PW.pt {X : Cx} {e : Expr} {t : TT} (h : PW X e t) : PT X e t := h _
def PA (X : Cx) (es : List Expr) (t : TA) : Prop :=
  ∀ (pos : Pos) (pins : List (Addr × Obj)) (s : Shared) (σ : St) (H : Hp) (Q : List V -> Hp -> Prop), Inv X pins σ H s -> t σ H Q -> wpAny (model X.prog X.w) X.A (spliced (backTo pos (starEach es X.env))) (AP X pins σ Q) X.xe s
def PS (X : Cx) (st : Stmt) (t : TS) : Prop :=
  ∀ (pins : List (Addr × Obj)) (s : Shared) (σ : St) (H : Hp) (D : Ends), Inv X pins σ H s -> t D σ H -> wpAny (model X.prog X.w) X.A (exec st X.env) (SP X pins D) X.xe s
def PSs (X : Cx) (st : List Stmt) (t : TS) : Prop :=
  ∀ (pins : List (Addr × Obj)) (s : Shared) (σ : St) (H : Hp) (D : Ends), Inv X pins σ H s -> t D σ H -> wpAny (model X.prog X.w) X.A (execs st X.env) (SP X pins D) X.xe s
theorem thn {α : Type} {t : Sem α} {Q Q' : α -> Shared -> Prop} {M : Model} {A : Around} {E : Value -> Shared -> Prop} {s : Shared} (h : wpAny M A t Q E s) (hQ : ∀ a s, Q a s -> Q' a s) : wpAny M A t Q' E s := wpAny_mono h hQ fun _ _ x => x
end L2
namespace L2
open PySem PySem.Spec PyProof.Rows
section
variable {X : Cx}
def tVar (i : Nat) : TE := fun σ H Q => ∃ v, σ[i]? = some (some v) /\ Q v H
def tC (v : V) : TE := fun _ H Q => Q v H
theorem pe_var {i : Nat} {x : Str} {pos : Pos} (hN : X.N[i]? = some x) (hv : Vis X.env.scope x) (hd : (x == ("__debug__" : Str)) = false := by decide) (hcd : (x == ("__classdict__" : Str)) = false := by decide) : PE X (.Name x pos) (tVar i) := by
  intro pins s σ H Q I h
  obtain ⟨v, e, h⟩ := h
  obtain ⟨m, hn, hl⟩ := I.loc
  obtain ⟨u, r, l⟩ := hl i x v hN e hv
  have fin : EP X pins σ Q u s := ⟨v, H, I, r, h⟩
  rcases l with ⟨hk, hm⟩ | ⟨hk, c, hc, hcell⟩
  · exact wpAny_Name (wpAny_loadName_local I.ok.kind hk hn hm fin) hd
  · rcases hk with hk | hk
    · exact wpAny_Name (wpAny_loadName_cell I.ok.kind hk hc hcell fin) hd
    · exact wpAny_Name (wpAny_loadName_free I.ok.kind hk hc hcell fin hcd) hd
theorem pe_int {i j pos} : PE X (.Constant (.int i) j pos) (tC (.int i)) := fun _ _ _ H _ I h => wpAny_Constant_int ⟨.int i, H, I.tok _, ⟨_, rfl⟩, h⟩
theorem pe_bl {b j pos} : PE X (.Constant (.bool b) j pos) (tC (.bl b)) := fun _ _ _ H _ I h => Constant_bool ⟨.bl b, H, I, rfl, h⟩
theorem pe_non {j pos} : PE X (.Constant .none j pos) (tC .non) := fun _ _ _ H _ I h => Constant_none ⟨.non, H, I, rfl, h⟩
theorem pe_str {x j pos} : PE X (.Constant (.str x) j pos) (tC (.str x)) := fun _ _ _ H _ I h => Calls.Constant_str ⟨.str x, H, I.tok _, ⟨_, rfl⟩, h⟩
def Gl (X : Cx) (x : Str) : Prop := X.env.kindOf x = some .globalImplicit
theorem ld_glob {E : Value -> Shared -> Prop} {pins : List (Addr × Obj)} {s : Shared} {σ : St} {H : Hp} {x : Str} {u : Value} {pos : Pos} {Q : Value -> Shared -> Prop} (I : Inv X pins σ H s) (hg : Gl X x) (hm : X.mg x = some u) (h : Q u s)
    (hd : (x == ("__debug__" : Str)) = false := by decide) : wpAny (model X.prog X.w) X.A (eval (.Name x pos) X.env) Q E s :=
  Calls.Name_function_global I.ok.kind hg (Calls.loadGlobal_global (by rw [I.ok.glob]; exact I.mod.glob.keeps I.bk) hm h) hd
theorem ld_blt {E : Value -> Shared -> Prop} {pins : List (Addr × Obj)} {s : Shared} {σ : St} {H : Hp} {x : Str} {u : Value} {pos : Pos} {Q : Value -> Shared -> Prop} (I : Inv X pins σ H s) (hg : Gl X x) (hm : X.mg x = none) (hv : bootBuiltins x = some u) (h : Q u s)
    (hn : x ≠ "__name__" := by decide) (hd : (x == ("__debug__" : Str)) = false := by decide) : wpAny (model X.prog X.w) X.A (eval (.Name x pos) X.env) Q E s := by
  obtain ⟨mb, h1, h2⟩ := I.mod.blt
  exact Calls.Name_function_global I.ok.kind hg (Calls.loadGlobal_builtin (by rw [I.ok.glob]; exact I.mod.glob.keeps I.bk) hm (by rw [I.ok.blt]; exact h1.keeps I.bk) ((h2 x hn).trans hv) h) hd
theorem pe_glob {x : Str} {v : V} {u : Value} {pos : Pos} (hg : Gl X x) (hm : X.mg x = some u) (r : RelV v u) (hd : (x == ("__debug__" : Str)) = false := by decide) : PE X (.Name x pos) (tC v) :=
  fun _ _ _ H _ I h => ld_glob I hg hm ⟨v, H, I, r, h⟩ hd
theorem pe_bltn {x : Str} {v : V} {u : Value} {pos : Pos} (hg : Gl X x) (hm : X.mg x = none) (hv : bootBuiltins x = some u) (r : RelV v u) (hn : x ≠ "__name__" := by decide) (hd : (x == ("__debug__" : Str)) = false := by decide) : PE X (.Name x pos) (tC v) :=
  fun _ _ _ H _ I h => ld_blt I hg hm hv ⟨v, H, I, r, h⟩ hn hd
variable {a b : Expr} {ta tb : TE} {pos : Pos}
def tB (t : TE) : TT := fun σ H Q => t σ H fun x H1 => ∃ c, x = .bl c /\ Q c H1
theorem pt_val {e : Expr} {t : TE} (h : PE X e t) (he : ∀ whole, isTrue e X.env whole = (do let v ← whole; standAt e.pos; holding [v] (truthy v)) := by intro _; rfl) : PT X e (tB t) := by
  intro pins s σ H Q I hw
  refine isTrue_plain (thn (h pins s σ H _ I hw) fun v s1 ⟨x, H1, I1, r1, q1⟩ => ?_) (he _)
  obtain ⟨d, rfl, q⟩ := q1
  cases r1
  exact wpAny_truthy_bool ⟨H1, I1, q⟩
variable {tA tB' : TT} {rest : List Expr}
def tAnd (t u : TT) : TT := fun σ H Q => t σ H fun c H1 => if c = true then u σ H1 Q else Q false H1
def tOr (t u : TT) : TT := fun σ H Q => t σ H fun c H1 => if c = true then Q true H1 else u σ H1 Q
def tNot (t : TT) : TT := fun σ H Q => t σ H fun c H1 => Q (!c) H1
theorem pw_and1 (ha : PT X a tA) : PW X (.BoolOp .And [a] pos) tA := by
  intro wh pins s σ H Q I h
  refine isTrue_and (thn (ha pins s σ H Q I h) fun c s1 e => ?_)
  cases c with
  | true => exact isTrue_and_nil e
  | false => exact e
theorem pw_or1 (ha : PT X a tA) : PW X (.BoolOp .Or [a] pos) tA := by
  intro wh pins s σ H Q I h
  refine isTrue_or (thn (ha pins s σ H Q I h) fun c s1 e => ?_)
  cases c with
  | false => exact isTrue_or_nil e
  | true => exact e
theorem pw_and (ha : PT X a tA) (hb : PW X (.BoolOp .And (b :: rest) pos) tB') : PW X (.BoolOp .And (a :: b :: rest) pos) (tAnd tA tB') := by
  intro wh pins s σ H Q I h
  refine isTrue_and (thn (ha pins s σ H _ I h) fun c s1 ⟨H1, I1, q1⟩ => ?_)
  cases c with
  | true => exact hb wh pins s1 σ H1 Q I1 q1
  | false => exact ⟨H1, I1, q1⟩
theorem pw_or (ha : PT X a tA) (hb : PW X (.BoolOp .Or (b :: rest) pos) tB') : PW X (.BoolOp .Or (a :: b :: rest) pos) (tOr tA tB') := by
  intro wh pins s σ H Q I h
  refine isTrue_or (thn (ha pins s σ H _ I h) fun c s1 ⟨H1, I1, q1⟩ => ?_)
  cases c with
  | true => exact ⟨H1, I1, q1⟩
  | false => exact hb wh pins s1 σ H1 Q I1 q1
theorem pt_not (ha : PT X a tA) : PT X (.UnaryOp .Not a pos) (tNot tA) := by
  intro pins s σ H Q I h
  exact isTrue_not (ha pins s σ H (fun c H1 => Q (!c) H1) I h)
def tAndV (ta tb : TE) : TE := fun σ H Q => ta σ H fun x H1 => ∃ c, x = .bl c /\ if c = true then tb σ H1 Q else Q (.bl false) H1
def tNotV (ta : TE) : TE := fun σ H Q => ta σ H fun x H1 => ∃ c, x = .bl c /\ Q (.bl (!c)) H1
theorem pe_one {op} {t : TE} (h : PE X a t) : PE X (.BoolOp op [a] pos) t := fun pins s σ H Q I hw => BoolOp_one (h pins s σ H Q I hw)
theorem pe_and (ha : PE X a ta) (hb : PE X (.BoolOp .And (b :: rest) pos) tb) : PE X (.BoolOp .And (a :: b :: rest) pos) (tAndV ta tb) := by
  intro pins s σ H Q I h
  refine BoolOp_and (thn (ha pins s σ H _ I h) fun v s1 ⟨x, H1, I1, r1, q1⟩ => ?_)
  obtain ⟨c, rfl, q1⟩ := q1
  cases r1
  refine wpAny_truthy_bool ?_
  cases c with
  | true => exact hb pins s1 σ H1 Q I1 q1
  | false => exact ⟨.bl false, H1, I1, rfl, q1⟩
theorem pe_not (ha : PE X a ta) : PE X (.UnaryOp .Not a pos) (tNotV ta) := by
  intro pins s σ H Q I h
  refine UnaryOp_ (thn (ha pins s σ H _ I h) fun v s1 ⟨x, H1, I1, r1, q1⟩ => ?_)
  obtain ⟨c, rfl, q1⟩ := q1
  cases r1
  exact not_of (wpAny_truthy_bool ⟨.bl (!c), H1, I1, rfl, q1⟩)
end
end L2
namespace L2
open PySem PySem.Spec PyProof.Rows
def SqL (K : PySem.W.Frag) (H : Hp) (a : Addr) (xs : List V) : Prop :=
  Rd H a (.lst xs) \/
    ∃ (o : Obj) (its : Array Value) (n : Nat), K.lookup a = some o /\ o.cls = .type "list" /\ o.dict = none /\ o.data = .seq its n /\ its.size <= sizeLine /\ Vals xs its.toList
def SqT (K : PySem.W.Frag) (H : Hp) (a : Addr) (xs : List V) : Prop :=
  Rd H a (.tup xs) \/
    ∃ (o : Obj) (its : Array Value) (n : Nat), K.lookup a = some o /\ o.cls = .type "tuple" /\ o.data = .seq its n /\ its.size <= sizeLine /\ Vals xs its.toList
def absV : Value -> Option V
  | .none => some .non
  | .bool b => some (.bl b)
  | .int i _ => some (.int i)
  | .str x _ => some (.str x)
  | .bytes b _ => some (.byt b)
  | .float b _ => some (.flt b)
  | .ref a => some (.ref a)
  | .type n => some (.ty n)
  | _ => none
theorem RelV.abs {x : V} {u : Value} (r : RelV x u) : absV u = some x := by
  cases x with
  | non => cases r; rfl
  | bl _ => cases r; rfl
  | int _ => obtain ⟨t, rfl⟩ := r; rfl
  | str _ => obtain ⟨t, rfl⟩ := r; rfl
  | byt _ => obtain ⟨t, rfl⟩ := r; rfl
  | flt _ => obtain ⟨t, rfl⟩ := r; rfl
  | ref _ => cases r; rfl
  | ty _ => cases r; rfl
theorem RelV.inj {x y : V} {u : Value} (r : RelV x u) (q : RelV y u) : x = y := Option.some.inj (r.abs.symm.trans q.abs)
theorem Vals.inj : ∀ {xs ys : List V} {us : List Value}, Vals xs us -> Vals ys us -> xs = ys
  | _, _, _, .nil, .nil => rfl
  | _, _, _, .cons r t, .cons r' t' => by rw [r.inj r', Vals.inj t t']
section
variable {X : Cx} {pins : List (Addr × Obj)} {σ : St} {H : Hp} {s : Shared} {a : Addr} {xs ys : List V}
theorem SqL.of {K : PySem.W.Frag} (h : H a = some (.lst xs)) : SqL K H a xs := .inl (.inl h)
theorem SqT.of {K : PySem.W.Frag} (h : H a = some (.tup xs)) : SqT K H a xs := .inl (.inl h)
theorem Inv.list (I : Inv X pins σ H s) (h : SqL X.K H a xs) : ∃ its : List Value, Vals xs its /\ PlainL s.heap a its.toArray /\ xs.length <= sizeLine := by
  rcases h with h | ⟨o, its, n, hk, hc, hd, hs, hz, r⟩
  · obtain ⟨z, its, n, r, e⟩ := h.ok I.hok
    exact ⟨its, r, ⟨_, n, e, rfl, rfl, rfl⟩, z⟩
  · refine ⟨its.toList, r, ⟨o, n, I.kIn a o hk, hc, hd, by simpa using hs⟩, ?_⟩
    have e := r.length
    simp only [Array.length_toList] at e
    lia
theorem Inv.tuple (I : Inv X pins σ H s) (h : SqT X.K H a xs) : ∃ its : List Value, Vals xs its /\ IsTup s.heap a its.toArray /\ xs.length <= sizeLine := by
  rcases h with h | ⟨o, its, n, hk, hc, hs, hz, r⟩
  · obtain ⟨z, its, r, p⟩ := h.ok I.hok
    exact ⟨its, r, p, z⟩
  · refine ⟨its.toList, r, ⟨o, I.kIn a o hk, hc, n, by simpa using hs⟩, ?_⟩
    have e := r.length
    simp only [Array.length_toList] at e
    lia
theorem Inv.list_inj (I : Inv X pins σ H s) (h : SqL X.K H a xs) (h' : SqL X.K H a ys) : xs = ys := by
  obtain ⟨its, r, ⟨o, n, e, _, _, d⟩, _⟩ := I.list h
  obtain ⟨its', r', ⟨o', n', e', _, _, d'⟩, _⟩ := I.list h'
  rw [e] at e'; cases e'
  rw [d] at d'
  injection d' with d1 _
  have : its = its' := by simpa using congrArg Array.toList d1
  subst this
  exact r.inj r'
theorem Inv.tuple_inj (I : Inv X pins σ H s) (h : SqT X.K H a xs) (h' : SqT X.K H a ys) : xs = ys := by
  obtain ⟨its, r, ⟨o, e, _, n, d⟩, _⟩ := I.tuple h
  obtain ⟨its', r', ⟨o', e', _, n', d'⟩, _⟩ := I.tuple h'
  rw [e] at e'; cases e'
  rw [d] at d'
  injection d' with d1 _
  have : its = its' := by simpa using congrArg Array.toList d1
  subst this
  exact r.inj r'
end
abbrev Cx.wish (X : Cx) (E : Value -> Shared -> Prop) : Cx := { X with xe := E }
abbrev Cx.nox (X : Cx) : Cx := X.wish fun _ _ => False
theorem Cx.Ok.wish {X : Cx} (ok : X.Ok) (E : Value -> Shared -> Prop) : (X.wish E).Ok :=
  ⟨ok.mod, ok.kind, ok.glob, ok.blt, ok.above, ok.inj, ok.has, ok.cab, ok.hd, ok.frames, ok.stk, ok.exf, ok.bs, ok.bsz, ok.noex, ok.exfs, ok.funs, ok.frf⟩
theorem Cx.Ok.unwish {X : Cx} {E : Value -> Shared -> Prop} (ok : (X.wish E).Ok) : X.Ok :=
  ⟨ok.mod, ok.kind, ok.glob, ok.blt, ok.above, ok.inj, ok.has, ok.cab, ok.hd, ok.frames, ok.stk, ok.exf, ok.bs, ok.bsz, ok.noex, ok.exfs, ok.funs, ok.frf⟩
section
variable {X : Cx} {pins : List (Addr × Obj)} {σ : St} {H : Hp} {s : Shared} {E : Value -> Shared -> Prop}
theorem Inv.wish (I : Inv X pins σ H s) (E : Value -> Shared -> Prop) : Inv (X.wish E) pins σ H s := ⟨I.ok.wish E, I.os, I.bare, I.base, I.loc, I.cell, I.free, I.freeC, I.pin, I.hok, I.len⟩
theorem Inv.unwish (I : Inv (X.wish E) pins σ H s) : Inv X pins σ H s := ⟨I.ok.unwish, I.os, I.bare, I.base, I.loc, I.cell, I.free, I.freeC, I.pin, I.hok, I.len⟩
theorem SP.unwish {D : Ends} {f : Flow} {s' : Shared} (h : SP (X.wish E) pins D f s') : SP X pins D f s' := by
  cases f with
  | next => obtain ⟨σ', H', I, q⟩ := h; exact ⟨σ', H', I.unwish, q⟩
  | brk => obtain ⟨σ', H', I, q⟩ := h; exact ⟨σ', H', I.unwish, q⟩
  | cont => obtain ⟨σ', H', I, q⟩ := h; exact ⟨σ', H', I.unwish, q⟩
  | ret u => obtain ⟨v, σ', H', I, r, q⟩ := h; exact ⟨v, σ', H', I.unwish, r, q⟩
theorem PSs.nox {st : List Stmt} {t : TS} (h : PSs X.nox st t) : PSs X st t := fun pins s σ H D I hw =>
  wpAny_mono (h pins s σ H D (I.wish _) hw) (fun _ _ q => q.unwish) fun _ _ z => False.elim z
end
section
variable {X : Cx} {st : Stmt} {rest : List Stmt} {t u : TS} {e : Expr} {te : TE} {pos : Pos}
def Zq62 : TS := fun D σ H => D.nx σ H
def tSeq (t u : TS) : TS := fun D σ H => t { D with nx := u D } σ H
theorem pss_nil : PSs X [] Zq62 := fun _ _ σ H _ I h => wpAny_execs_nil ⟨σ, H, I, h⟩
theorem pss_cons (h1 : PS X st t) (h2 : PSs X rest u) : PSs X (st :: rest) (tSeq t u) := by
  intro pins s σ H D I h
  refine wpAny_execs_cons (thn (h1 pins s σ H { D with nx := u D } I h) fun f s1 q => ?_)
  cases f with
  | next =>
    obtain ⟨σ', H', I', q⟩ := q
    exact h2 pins s1 σ' H' D I' q
  | ret v => exact q
  | brk => exact q
  | cont => exact q
theorem pss_one (h1 : PS X st t) : PSs X [st] t := by
  intro pins s σ H D I h
  refine wpAny_execs_cons (thn (h1 pins s σ H D I h) fun f s1 q => ?_)
  cases f with
  | next => exact wpAny_execs_nil q
  | ret v => exact q
  | brk => exact q
  | cont => exact q
theorem Inv.quiet {pins : List (Addr × Obj)} {σ : St} {H : Hp} {s : Shared} (I : Inv X pins σ H s) : interactive X.env = false := by simp [interactive, I.ok.kind]
def tDrop (te : TE) : TS := fun D σ H => te σ H fun _ H1 => D.nx σ H1
theorem ps_expr (he : PE X e te) (hs : swapsWith e none pos.line X.env = pure false := by rfl) : PS X (.Expr e pos) (tDrop te) := by
  intro pins s σ H D I h
  exact wpAny_Expr_any (thn (he pins s σ H _ I h) fun v s1 ⟨x, H1, I1, r1, q1⟩ => ⟨σ, H1, I1, q1⟩) I.quiet hs
def tRet (te : TE) : TS := fun D σ H => te σ H D.rt
theorem ps_ret (he : PE X e te) : PS X (.Return (some e) pos) (tRet te) := by
  intro pins s σ H D I h
  exact wpAny_Return_some (thn (he pins s σ H _ I h) fun v s1 ⟨x, H1, I1, r1, q1⟩ => ⟨x, σ, H1, I1, r1, q1⟩)
def tIfS (c : TT) (t u : TS) : TS := fun D σ H => c σ H fun b H1 => if b = true then t D σ H1 else u D σ H1
theorem ps_if {c : Expr} {a b : List Stmt} {tc : TT} (hc : PT X c tc) (ha : PSs X a t) (hb : PSs X b u) : PS X (.If c a b pos) (tIfS tc t u) := by
  intro pins s σ H D I h
  refine wpAny_If (thn (hc pins s σ H _ I h) fun d s1 ⟨H1, I1, q1⟩ => ?_)
  cases d with
  | true => exact ha pins s1 σ H1 D I1 q1
  | false => exact hb pins s1 σ H1 D I1 q1
end
abbrev TG := V -> St -> Hp -> (St -> Hp -> Prop) -> Prop
abbrev TGs := List V -> St -> Hp -> (St -> Hp -> Prop) -> Prop
def PG (X : Cx) (target : Expr) (t : TG) : Prop :=
  ∀ (pins : List (Addr × Obj)) (s : Shared) (σ : St) (H : Hp) (v : V) (u : Value) (Q : St -> Hp -> Prop), Inv X pins σ H s -> RelV v u -> t v σ H Q ->
    wpAny (model X.prog X.w) X.A (assign target X.env u) (fun _ s' => ∃ σ' H', Inv X pins σ' H' s' /\ Q σ' H') X.xe s
def PGs (X : Cx) (ts : List Expr) (t : TGs) : Prop :=
  ∀ (pins : List (Addr × Obj)) (s : Shared) (σ : St) (H : Hp) (vs : List V) (us : List Value) (Q : St -> Hp -> Prop), Inv X pins σ H s -> Vals vs us -> t vs σ H Q ->
    wpAny (model X.prog X.w) X.A (assignInOrder ((assignEach ts X.env).map (·.2)) us) (fun _ s' => ∃ σ' H', Inv X pins σ' H' s' /\ Q σ' H') X.xe s
abbrev TSet := V -> V -> V -> Hp -> (Hp -> Prop) -> Prop
def PSet (X : Cx) (t : TSet) : Prop :=
  ∀ (pins : List (Addr × Obj)) (s : Shared) (σ : St) (H : Hp) (o i v : V) (ov iv u : Value) (Q : Hp -> Prop), Inv X pins σ H s -> RelV o ov -> RelV i iv -> RelV v u -> t o i v H Q ->
    wpAny (model X.prog X.w) X.A (setItem ov iv u) (fun _ s' => ∃ H', Inv X pins σ H' s' /\ Q H') X.xe s
abbrev TIp := V -> V -> Hp -> VK -> Prop
def PIp (X : Cx) (op : Operator) (t : TIp) : Prop :=
  ∀ (pins : List (Addr × Obj)) (s : Shared) (σ : St) (H : Hp) (x y : V) (v u : Value) (Q : VK), Inv X pins σ H s -> RelV x v -> RelV y u -> t x y H Q ->
    wpAny (model X.prog X.w) X.A (inplaceOp op v u) (EP X pins σ Q) X.xe s
section
variable {X : Cx} {pos : Pos}
def Zq135 (i : Nat) : TG := fun v σ H Q => Q (σ.set i (some v)) H
theorem pg_name {i : Nat} {x : Str} (hN : X.N.Nodup) (hi : X.N[i]? = some x) (hx : Loc X.env.scope x) (hf : X.fn x = true \/ X.env.scope.names.lookup x = some .local := by first | exact .inl rfl | exact .inr rfl | assumption) : PG X (.Name x pos) (Zq135 i) := by
  intro pins s σ H v u Q I r h
  exact wpAny_assign_Name (store_ok I hN hi hx r (fun s' I' => ⟨_, H, I', h⟩) hf)
def gNil : TGs := fun vs σ H Q => vs = [] /\ Q σ H
def gCons (t : TG) (u : TGs) : TGs := fun vs σ H Q => ∃ v r, vs = v :: r /\ t v σ H fun σ' H' => u r σ' H' Q
theorem pgs_nil : PGs X [] gNil := by
  intro pins s σ H vs us Q I r h
  obtain ⟨e, h⟩ := h
  subst e
  cases r
  exact assignInOrder_nil ⟨σ, H, I, h⟩
theorem pgs_cons {e : Expr} {es : List Expr} {t : TG} {u : TGs} (h1 : PG X e t) (h2 : PGs X es u)
    (hs : (assignEach (e :: es) X.env).map (·.2) = assign e X.env :: (assignEach es X.env).map (·.2) := by rfl) : PGs X (e :: es) (gCons t u) := by
  intro pins s σ H vs us Q I r h
  obtain ⟨v, vr, e1, h⟩ := h
  subst e1
  cases r with
  | cons r rr =>
    rw [hs]
    refine assignInOrder_cons (thn (h1 pins s σ H _ _ _ I r h) fun _ s1 ⟨σ1, H1, I1, q1⟩ => ?_)
    exact h2 pins s1 σ1 H1 _ _ Q I1 rr q1
def gTup (K : PySem.W.Frag) (n : Nat) (t : TGs) : TG := fun v σ H Q => ∃ a xs, v = .ref a /\ SqT K H a xs /\ xs.length = n /\ t xs σ H Q
theorem pg_tup {es : List Expr} {k : Nat} {t : TGs} {n : Nat} (hc : X.calm = true) (h : PGs X es t)
    (hn : (assignEach es X.env).length = n := by rfl) (hst : (assignEach es X.env).findIdx? (·.1) = none := by rfl) : PG X (.Tuple es k pos) (gTup X.K n t) := by
  intro pins s σ H v u Q I r hw
  obtain ⟨a, xs, e1, hq, hl, hw⟩ := hw
  subst e1
  cases r
  obtain ⟨its, rv, ht, hz⟩ := I.tuple hq
  refine assign_Tuple_tuple (I.ok.hd hc) ht (by simp [hn, ← hl, rv.length]) hst fun h' hx => ?_
  have I1 : Inv X pins σ H { s with heap := h' } := I.kept (t' := s.toks) fun b o e => hx b o (Nat.ne_of_lt (Heap.lt_size e)) e
  exact h pins _ σ H xs _ Q I1 (by simpa using rv) hw
def gSub (to ti : TE) (t : TSet) : TG := fun v σ H Q => to σ H fun o H1 => ti σ H1 fun i H2 => t o i v H2 fun H3 => Q σ H3
theorem pg_sub {o i : Expr} {to ti : TE} {t : TSet} (ho : PE X o to) (hi : PE X i ti) (hs : PSet X t)
    (ha : ∀ v, assign (.Subscript o i pos) X.env v = (do
      let ov ← holding [v] (eval o X.env)
      let iv ← holding [v, ov] (eval i X.env)
      standAt pos
      holding [v, ov, iv] (setItem ov iv v)
      release [v, ov, iv] []) := by intro _; rfl) : PG X (.Subscript o i pos) (gSub to ti t) := by
  intro pins s σ H v u Q I r h
  rw [ha]
  refine wpAny_bind (wpAny_holding (thn (ho pins s σ H _ I h) fun ov s1 ⟨x, H1, I1, r1, q1⟩ => ?_))
  refine wpAny_bind (wpAny_holding (thn (hi pins s1 σ H1 _ I1 q1) fun iv s2 ⟨y, H2, I2, r2, q2⟩ => ?_))
  refine wpAny_bind (wpAny_standAt (wpAny_bind (wpAny_holding (thn (hs pins s2 σ H2 x y v ov iv u _ I2 r1 r2 r q2) fun _ s3 ⟨H3, I3, q3⟩ => ?_))))
  exact wpAny_release ⟨σ, H3, I3, q3⟩
def tAsg (te : TE) (g : TG) : TS := fun D σ H => te σ H fun x H1 => g x σ H1 D.nx
theorem ps_asg {tg e : Expr} {te : TE} {g : TG} (he : PE X e te) (hg : PG X tg g) (hs : swapsWithSole [tg] e pos.line X.env = pure false := by rfl) (hw : swappedStores [tg] e X.env = pure none := by rfl)
    (h1 : (assignEach [tg] X.env).map (·.2) = [assign tg X.env] := by rfl) : PS X (.Assign [tg] e pos) (tAsg te g) := by
  intro pins s σ H D I h
  refine wpAny_Assign_stores (thn (he pins s σ H _ I h) fun v s1 ⟨x, H1, I1, r1, q1⟩ => ?_) hs hw
  rw [h1]
  exact thn (hg pins s1 σ H1 x v _ I1 r1 q1) fun _ s2 q => q
theorem ps_set {i : Nat} {x : Str} {e : Expr} {te : TE} {pos' : Pos} (hN : X.N.Nodup) (hi : X.N[i]? = some x) (hx : Loc X.env.scope x) (he : PE X e te) (hs : swapsWith e (some (.Name x pos')) pos.line X.env = pure false := by rfl) (hf : X.fn x = true \/ X.env.scope.names.lookup x = some .local := by first | exact .inl rfl | exact .inr rfl | assumption) :
    PS X (.Assign [.Name x pos'] e pos) (tAsg te (Zq135 i)) := by
  intro pins s σ H D I h
  refine wpAny_Assign_Name (thn (he pins s σ H _ I h) fun v s1 ⟨y, H1, I1, r1, q1⟩ => ?_) hs
  exact store_ok I1 hN hi hx r1 (fun s2 I2 => ⟨_, H1, I2, q1⟩) hf
end
section
variable {X : Cx} {pos : Pos}
def tWhile (c : TT) (tb : TS) : TS := fun D σ H => ∃ W : Nat -> St -> Hp -> Prop, (∃ m, W m σ H) /\ ∀ m σ H, W m σ H ->
  c σ H fun b H1 => if b = true then ∃ N : St -> Hp -> Prop, (∀ σ' H', N σ' H' -> ∃ m', m' < m /\ W m' σ' H') /\ tb { D with nx := N, ct := N, bk := D.nx } σ H1 else D.nx σ H1
theorem ps_while {c : Expr} {body : List Stmt} {tc : TT} {tb : TS} (hp : PassesOwn (model X.prog X.w) X.A X.env X.xe) (hc : PT X c tc) (hb : PSs X body tb) : PS X (.While c body [] pos) (tWhile tc tb) := by
  intro pins s σ H D I h
  obtain ⟨W, ⟨m0, w0⟩, turn⟩ := h
  refine wpAny_While (codeAny_whileLoop (fun n s' => ∃ σ' H', Inv X pins σ' H' s' /\ W n σ' H') ?_ m0 ⟨σ, H, I, w0⟩)
  rintro n s1 ⟨σ1, H1, I1, w1⟩
  refine wpAny_passesOwn hp (thn (hc pins s1 σ1 H1 _ I1 (turn n σ1 H1 w1)) fun b s2 ⟨H2, I2, q2⟩ => ?_)
  cases b with
  | true =>
    obtain ⟨N, hN, q2⟩ := q2
    rw [if_pos rfl]
    refine wpAny_passesOwn hp (thn (hb pins s2 σ1 H2 _ I2 q2) fun f s3 q3 => ?_)
    cases f with
    | next =>
      obtain ⟨σ3, H3, I3, n3⟩ := q3
      obtain ⟨m', hm, w3⟩ := hN σ3 H3 n3
      exact ⟨m', hm, σ3, H3, I3, w3⟩
    | cont =>
      obtain ⟨σ3, H3, I3, n3⟩ := q3
      obtain ⟨m', hm, w3⟩ := hN σ3 H3 n3
      exact ⟨m', hm, σ3, H3, I3, w3⟩
    | brk => exact q3
    | ret v => exact q3
  | false =>
    rw [if_neg Bool.false_ne_true]
    exact wpAny_execs_nil ⟨σ1, H2, I2, q2⟩
end
structure It where
  go : Nat -> Hp -> Prop
  yld : Nat -> Hp -> V -> Hp -> Prop
  stop : Nat -> Hp -> Prop
def FpOk (X : Cx) (pins : List (Addr × Obj)) (H : Hp) (b : Addr) : Prop :=
  H b = none /\ b ≠ X.env.locals /\ b ∉ X.fs /\ (b ∈ X.ex \/ X.s₀.heap.objs.size <= b) /\ (∀ x c, X.env.cells.lookup x = some c -> c ≠ b) /\ ∀ p ∈ X.pn ++ pins, p.1 ≠ b
theorem Inv.fpOk {X : Cx} {pins : List (Addr × Obj)} {σ : St} {H H' : Hp} {s : Shared} {b : Addr} (I : Inv X pins σ H s) (hb : s.heap.objs.size <= b) (hn : H' b = none) : FpOk X pins H' b := by
  refine ⟨hn, Nat.ne_of_gt (Nat.lt_of_lt_of_le I.lt hb), I.nofs hb, .inr (Nat.le_trans I.sz hb), fun x c e z => ?_, fun p hp z => ?_⟩
  · obtain ⟨v, q⟩ := I.cell x c e
    exact absurd (Nat.lt_of_lt_of_le q.lt (by rw [z]; exact hb)) (Nat.lt_irrefl _)
  · exact absurd (Nat.lt_of_lt_of_le (Heap.lt_size (I.pin p hp).1) (by rw [z]; exact hb)) (Nat.lt_irrefl _)
structure Turn (P : Program) (w : World) (K : PySem.W.Frag) (tg : Expr) (J : It) (fp : List Addr) (it : Addr) (tn : Nat -> Heap -> Prop) : Prop where
  mem : it ∈ fp
  obj : ∀ i h, tn i h -> ∀ b ∈ fp, ∃ o, h.get? b = some o /\ ∀ v, o.data ≠ .cell v
  keep : ∀ i h h', tn i h -> (∀ b ∈ fp, ∀ o, h.get? b = some o -> h'.get? b = some o) -> tn i h'
  item : ∀ (X : Cx), X.prog = P -> X.w = w -> X.K = K -> X.calm = true -> ∀ (i : Nat) (pins : List (Addr × Obj)) (s : Shared) (σ : St) (H : Hp) (E : Value -> Shared -> Prop), Inv X pins σ H s -> (∀ b ∈ fp, FpOk X pins H b) -> tn i s.heap -> J.go i H ->
    wpAny (model P w) X.A (pyNext (.ref it)) (fun r s1 => ∃ u, r = some u /\
      wpAny (model P w) X.A (letOwnedTupleGo tg (.ref it) u) (fun _ s2 => ∃ x H', Inv X pins σ H' s2 /\ RelV x u /\ J.yld i H x H' /\ tn (i + 1) s2.heap /\ ∀ b ∈ fp, H' b = none) E s1) E s
  done : ∀ (X : Cx), X.prog = P -> X.w = w -> X.K = K -> X.calm = true -> ∀ (i : Nat) (pins : List (Addr × Obj)) (s : Shared) (σ : St) (H : Hp) (E : Value -> Shared -> Prop), Inv X pins σ H s -> (∀ b ∈ fp, FpOk X pins H b) -> tn i s.heap -> J.stop i H ->
    wpAny (model P w) X.A (pyNext (.ref it)) (fun r s1 => r = none /\ Inv X pins σ H s1) E s
  self : ∀ (A : Around) (i : Nat) (s : Shared) (Q : Value -> Shared -> Prop) (E : Value -> Shared -> Prop), tn i s.heap -> Q (.ref it) s -> wpAny (model P w) A (pyIter (.ref it)) Q E s
abbrev TI := St -> Hp -> (It -> Hp -> Prop) -> Prop
def PIE (X : Cx) (pins : List (Addr × Obj)) (σ : St) (tg : Expr) (R : It -> Hp -> Prop) (itv : Value) (s2 : Shared) : Prop :=
  ∃ (it : Addr) (fp : List Addr) (tn : Nat -> Heap -> Prop) (J : It) (H' : Hp), itv = .ref it /\ Inv X pins σ H' s2 /\ Turn X.prog X.w X.K tg J fp it tn /\ tn 0 s2.heap /\ (∀ b ∈ fp, FpOk X pins H' b) /\ R J H'
def PI (X : Cx) (tg iter : Expr) (wi : TI) : Prop :=
  ∀ (pins : List (Addr × Obj)) (s : Shared) (σ : St) (H : Hp) (R : It -> Hp -> Prop), Inv X pins σ H s -> wi σ H R ->
    wpAny (model X.prog X.w) X.A (eval iter X.env) (fun v s1 => wpAny (model X.prog X.w) X.A (pyIter v) (PIE X pins σ tg R) X.xe s1) X.xe s
theorem go_of {M : Model} {A : Around} {E : Value -> Shared -> Prop} {s : Shared} {tg : Expr} {it : Addr} {u : Value} {o : Obj} {n : String} {vs : Array Value} {Q : Unit -> Shared -> Prop} (ho : s.heap.get? it = some o) (hc : o.cls = .type n) (hd : o.data = .fields vs)
    (hn : ["enumerate", "zip", "dict_itemiterator", "dict_reverseitemiterator", "odict_iterator", "itertools.zip_longest", "itertools.pairwise"].contains n = false) (hQ : Q () s) : wpAny M A (letOwnedTupleGo tg (.ref it) u) Q E s := by
  unfold letOwnedTupleGo
  cases tg <;> first
    | exact wpAny_pure hQ
    | (cases u <;> first
        | exact wpAny_pure hQ
        | (refine wpAny_bind (wpAny_load ho ?_)
           rw [hc, hd]
           show wpAny M A (if (["enumerate", "zip", "dict_itemiterator", "dict_reverseitemiterator", "odict_iterator", "itertools.zip_longest", "itertools.pairwise"].contains n && vs[0]? == some (rawInt _)) = true then _ else _) Q E s
           rw [if_neg (by intro h; rw [hn, Bool.false_and] at h; cases h)]
           exact wpAny_pure hQ))
def Itl (K : PySem.W.Frag) (a : Addr) : It :=
  ⟨fun i H => ∃ xs x, SqL K H a xs /\ xs[i]? = some x, fun i H x H' => H' = H /\ ∀ xs, SqL K H a xs -> xs[i]? = some x, fun i H => ∃ xs, SqL K H a xs /\ xs.length <= i⟩
def Itr (lo : Int) (n : Nat) : It := ⟨fun i _ => i < n, fun i H x H' => H' = H /\ x = .int (lo + i), fun i _ => n <= i⟩
theorem turn_list {P : Program} {w : World} {K : PySem.W.Frag} {tg : Expr} (a it : Addr) : Turn P w K tg (Itl K a) [it] it (fun i h => h.IsListIter it a i) where
  mem := by simp
  obj := fun i h st b hb => by
    have e : b = it := by simpa using hb
    subst e
    obtain ⟨o, e, c, d⟩ := st
    exact ⟨o, e, fun v z => by rw [d] at z; cases z⟩
  keep := fun i h h' st k => st.at fun o e => k it (by simp) o e
  item := by
    intro X hP hw hK hc i pins s σ H E I hf st hg
    subst hP hw hK
    obtain ⟨xs, x, hq, hx⟩ := hg
    obtain ⟨its, rv, p, hz⟩ := I.list hq
    obtain ⟨u, hu, ru⟩ := rv.get hx
    obtain ⟨f0, f1, f2, f3, f4, f5⟩ := hf it (by simp)
    refine wpAny_pyNext_list_item st p.isList (x := u) (by simpa using hu) fun h' st' sb => ?_
    have I1 : Inv X pins σ H { s with heap := h' } := I.turned (t' := s.toks) (fun b o hb e => (sb.2 b hb).trans e) f0 f1 f3 f4 f5
    obtain ⟨o, e, c, d⟩ := id st'
    exact ⟨u, rfl, go_of (s := { s with heap := h' }) e c d (by decide) ⟨x, H, I1, ru, ⟨rfl, fun ys hy => by rw [I.list_inj hy hq]; exact hx⟩, st', fun b hb => (hf b hb).1⟩⟩
  done := by
    intro X hP hw hK hc i pins s σ H E I hf st hg
    subst hP hw hK
    obtain ⟨xs, hq, hx⟩ := hg
    obtain ⟨its, rv, p, hz⟩ := I.list hq
    obtain ⟨f0, f1, f2, f3, f4, f5⟩ := hf it (by simp)
    have hl := rv.length
    exact wpAny_pyNext_list_end (I.ok.hd hc) st p.isList (by simp; lia) fun h' eb => ⟨rfl, I.turned (t' := s.toks) (fun b o hb e => eb b o hb e) f0 f1 f3 f4 f5⟩
  self := fun _ _ _ _ _ st h => wpAny_pyIter_listiter st h
theorem turn_range {P : Program} {w : World} {K : PySem.W.Frag} {tg : Expr} (it : Addr) (lo : Int) (n : Nat) : Turn P w K tg (Itr lo n) [it] it (fun i h => IsRangeIter h it (lo + (i : Nat) * 1) ((n : Int) - (i : Nat)) 1) where
  mem := by simp
  obj := fun i h st b hb => by
    have e : b = it := by simpa using hb
    subst e
    exact ⟨_, st, fun v z => by
      have z' : Data.fields _ = Data.cell v := z
      cases z'⟩
  keep := fun i h h' st k => k it (by simp) _ st
  item := by
    intro X hP hw hK hc i pins s σ H E I hf st hg
    subst hP hw hK
    obtain ⟨f0, f1, f2, f3, f4, f5⟩ := hf it (by simp)
    have W := Walks.range (prog := X.prog) (w := X.w) (I.ok.hd hc) it lo 1 n
    refine W.item i s _ _ hg st fun v h' tk hv st' kk => ?_
    obtain ⟨t, rfl⟩ := hv
    have I1 : Inv X pins σ H { s with heap := h', toks := tk } := I.turned (fun b o hb e => kk b o (by simpa using hb) e) f0 f1 f3 f4 f5
    refine ⟨_, rfl, go_of (s := { s with heap := h', toks := tk }) (n := "range_iterator") st' rfl rfl (by decide) ⟨.int (lo + i), H, I1, ⟨t, ?_⟩, ⟨rfl, rfl⟩, st', fun b hb => (hf b hb).1⟩⟩
    rw [Int.mul_one]
  done := by
    intro X hP hw hK hc i pins s σ H E I hf st hg
    subst hP hw hK
    obtain ⟨f0, f1, f2, f3, f4, f5⟩ := hf it (by simp)
    exact wpAny_pyNext_range_end (I.ok.hd hc) st (by have : n <= i := hg; lia) fun h' eb => ⟨rfl, I.turned (t' := s.toks) (fun b o hb e => eb b o hb e) f0 f1 f3 f4 f5⟩
  self := fun _ _ _ _ _ st h => wpAny_pyIter_rangeiter st h
end L2
namespace L2
open PySem PySem.Spec PyProof.Rows
section
variable {X : Cx} {tg : Expr}
def iList (K : PySem.W.Frag) (tl : TE) : TI := fun σ H R => tl σ H fun x H1 => ∃ a, x = .ref a /\ (∃ xs, SqL K H1 a xs) /\ R (Itl K a) H1
theorem pi_list {l : Expr} {tl : TE} (hl : PE X l tl) : PI X tg l (iList X.K tl) := by
  intro pins s σ H R I h
  refine thn (hl pins s σ H _ I h) fun v s1 ⟨x, H1, I1, r1, q1⟩ => ?_
  obtain ⟨a, e, ⟨xs, hq⟩, q⟩ := q1
  subst e
  cases r1
  obtain ⟨its, rv, p, hz⟩ := I1.list hq
  refine wpAny_pyIter_list p.isList ?_
  refine ⟨s1.heap.objs.size, [s1.heap.objs.size], _, _, H1, rfl, I1.kept (t' := s1.toks) fun b o e => Heap.get?_push_of_some _ e, turn_list a _, ⟨_, Heap.get?_push_size _ rfl, rfl, rfl⟩, fun b hb => ?_, q⟩
  have e : b = s1.heap.objs.size := by simpa using hb
  subst e
  exact I1.fpOk (Nat.le_refl _) (I1.hok.fresh (Nat.le_refl _))
theorem range_it {pins : List (Addr × Obj)} {σ : St} {H : Hp} {s : Shared} {R : It -> Hp -> Prop} {E : Value -> Shared -> Prop} {lo hi : Int} {t u v : Tok} {tk : Nat} (I : Inv X pins σ H s) (h1 : -(2 ^ 62) <= lo) (h2 : lo < 2 ^ 62) (h3 : -(2 ^ 62) <= hi) (h4 : hi < 2 ^ 62)
    (q : R (Itr lo (hi - lo).toNat) H) : wpAny (model X.prog X.w) X.A (pyIter (.ref s.heap.objs.size)) (PIE X pins σ tg R) E { s with heap := s.heap.push { cls := .type "range", data := .fields #[.int lo t, .int hi u, .int 1 v] }, toks := tk } := by
  refine wpAny_pyIter_range (IsRange.new ..) (small_one h1 h2 h3 h4) ?_
  have I1 : Inv X pins σ H { s with heap := s.heap.push { cls := .type "range", data := .fields #[.int lo t, .int hi u, .int 1 v] }, toks := tk } := I.kept fun b o e => Heap.get?_push_of_some _ e
  refine ⟨(s.heap.push { cls := .type "range", data := .fields #[.int lo t, .int hi u, .int 1 v] }).objs.size, [(s.heap.push { cls := .type "range", data := .fields #[.int lo t, .int hi u, .int 1 v] }).objs.size], _, _, H, rfl,
    I1.kept (t' := tk) fun b o e => Heap.get?_push_of_some _ e, turn_range _ lo (hi - lo).toNat, ?_, fun b hb => ?_, q⟩
  · have e1 : lo + ((0 : Nat) : Int) * 1 = lo := by simp
    have e2 : (((hi - lo).toNat : Nat) : Int) - ((0 : Nat) : Int) = Builtin.Range.rangeSize lo hi 1 := by rw [rangeSize_one]; split <;> lia
    show IsRangeIter _ _ (lo + ((0 : Nat) : Int) * 1) ((((hi - lo).toNat : Nat) : Int) - ((0 : Nat) : Int)) 1
    rw [e1, e2]
    exact Heap.get?_push_size _ rfl
  · have e : b = (s.heap.push { cls := .type "range", data := .fields #[.int lo t, .int hi u, .int 1 v] }).objs.size := by simpa using hb
    subst e
    exact I1.fpOk (Nat.le_refl _) (I1.hok.fresh (Nat.le_refl _))
def iRng1 (ta : TA) : TI := fun σ H R => ta σ H fun vs H1 => ∃ j : Int, vs = [.int j] /\ -(2 ^ 62) <= j /\ j < 2 ^ 62 /\ R (Itr 0 j.toNat) H1
theorem pi_range1 {a : Expr} {ta : TA} {p pos : Pos} (hg : Gl X "range") (hm : X.mg "range" = none) (ha : PA X [a] ta) (hs : starEach [a] X.env = [(false, eval a X.env)] := by rfl) : PI X tg (.Call (.Name "range" p) [a] [] pos) (iRng1 ta) := by
  intro pins s σ H R I h
  refine Call_ (ld_blt I hg hm boot_range (PyProof.Rows.callWith_type1 (thn (ha pos pins s σ H _ I h) fun us s1 ⟨vs, H1, I1, r1, q1⟩ => ?_) hs rfl))
  obtain ⟨j, e, q1, q2, q⟩ := q1
  subst e
  cases r1 with
  | cons r rr =>
    cases rr
    obtain ⟨t, rfl⟩ := r
    exact call_range_1 (range_it I1 (by lia) (by lia) q1 q2 (by simpa using q))
def tFor (wi : TI) (g : TG) (tb : TS) : TS := fun D σ H => wi σ H fun J H1 => ∃ W : Nat -> Nat -> St -> Hp -> Prop, (∃ m, W 0 m σ H1) /\ ∀ i m σ H, W i m σ H ->
  (J.stop i H /\ D.nx σ H) \/ (J.go i H /\ ∃ N : St -> Hp -> Prop, (∀ σ' H', N σ' H' -> ∃ m', m' < m /\ W (i + 1) m' σ' H') /\ ∀ x H', J.yld i H x H' -> g x σ H' fun σ2 H2 => tb { D with nx := N, ct := N, bk := D.nx } σ2 H2)
def Zq226 (fp : List Addr) (h : Heap) : List (Addr × Obj) := fp.filterMap fun b => (h.get? b).map fun o => (b, o)
theorem mem_pinsAt {fp : List Addr} {h : Heap} {b : Addr} {o : Obj} (hb : b ∈ fp) (e : h.get? b = some o) : (b, o) ∈ Zq226 fp h := List.mem_filterMap.mpr ⟨b, hb, by rw [e]; rfl⟩
theorem of_pinsAt {fp : List Addr} {h : Heap} {p : Addr × Obj} (hp : p ∈ Zq226 fp h) : p.1 ∈ fp /\ h.get? p.1 = some p.2 := by
  obtain ⟨b, hb, e⟩ := List.mem_filterMap.mp hp
  cases q : h.get? b with
  | none => rw [q] at e; cases e
  | some o =>
    rw [q] at e
    have e' : (b, o) = p := Option.some.inj e
    subst e'
    exact ⟨hb, q⟩
theorem Inv.pinned {pins : List (Addr × Obj)} {σ : St} {H : Hp} {s : Shared} {fp : List Addr} (I : Inv X pins σ H s) (hf : ∀ b ∈ fp, FpOk X pins H b) (ho : ∀ b ∈ fp, ∃ o, s.heap.get? b = some o /\ ∀ v, o.data ≠ .cell v) : Inv X (pins ++ Zq226 fp s.heap) σ H s :=
  I.pins_of fun p hp => (List.mem_append.mp hp).elim (fun z => I.pin p (List.mem_append_right _ z)) fun z => by
    obtain ⟨hb, e⟩ := of_pinsAt z
    obtain ⟨f0, f1, f2, _⟩ := hf p.1 hb
    obtain ⟨o, e', d⟩ := ho p.1 hb
    rw [e] at e'; cases e'
    exact ⟨e, f0, f1, f2, d⟩
theorem Inv.unpinned {pins pl : List (Addr × Obj)} {σ : St} {H : Hp} {s : Shared} (I : Inv X (pins ++ pl) σ H s) : Inv X pins σ H s := I.pins_of fun p hp => I.pin p (List.mem_append_right _ (List.mem_append_left _ hp))
theorem ps_for {iter : Expr} {body : List Stmt} {wi : TI} {g : TG} {tb : TS} {pos : Pos} (hp : PassesOwn (model X.prog X.w) X.A X.env X.xe) (hc : X.calm = true) (hi : PI X tg iter wi) (hg : PG X tg g) (hb : PSs X body tb)
    (hs : ∀ x, foldedSetIterable iter X.env x = pure x := by intro _; rfl) : PS X (.For tg iter body [] pos) (tFor wi g tb) := by
  intro pins s σ H D I h
  refine wpAny_For (thn (hi pins s σ H _ I h) fun v s1 h1 => thn h1 fun itv s2 h2 => ?_) hs
  obtain ⟨it, fp, tn, J, H2, e, I2, T, st2, f2, W, ⟨m0, w0⟩, turn⟩ := h2
  subst e
  have stat : ∀ {H' : Hp}, (∀ b ∈ fp, H' b = none) -> ∀ b ∈ fp, FpOk X pins H' b := fun hn b hb => ⟨hn b hb, (f2 b hb).2⟩
  refine codeAny_forLoop_any (fun n s' => ∃ i σ' H', Inv X pins σ' H' s' /\ tn i s'.heap /\ (∀ b ∈ fp, H' b = none) /\ W i n σ' H') ?_ m0 ⟨0, σ, H2, I2, st2, fun b hb => (f2 b hb).1, w0⟩
  rintro n s3 ⟨i, σ3, H3, I3, st3, fr3, w3⟩
  rcases turn i n σ3 H3 w3 with ⟨stop, qn⟩ | ⟨go, N, hN, step⟩
  · refine wpAny_passesOwn hp (thn (T.done X rfl rfl rfl hc i pins s3 σ3 H3 X.xe I3 (stat fr3) st3 stop) fun r s4 ⟨hr, I4⟩ => ?_)
    subst hr
    exact wpAny_execs_nil ⟨σ3, H3, I4, qn⟩
  · refine wpAny_passesOwn hp (thn (T.item X rfl rfl rfl hc i pins s3 σ3 H3 X.xe I3 (stat fr3) st3 go) fun r s4 ⟨u, hr, h4⟩ => ?_)
    subst hr
    refine wpAny_passesOwn hp (thn h4 fun _ s5 ⟨x, H5, I5, r5, y5, st5, fr5⟩ => ?_)
    have I5' := I5.pinned (stat fr5) (T.obj _ _ st5)
    refine wpAny_passesOwn hp (thn (hg _ s5 σ3 H5 x u _ I5' r5 (step x H5 y5)) fun _ s6 ⟨σ6, H6, I6, q6⟩ => ?_)
    refine wpAny_passesOwn hp (thn (hb _ s6 σ6 H6 _ I6 q6) fun f s7 q7 => ?_)
    have again : ∀ {σ7 : St} {H7 : Hp}, Inv X (pins ++ Zq226 fp s5.heap) σ7 H7 s7 -> N σ7 H7 -> ∃ m, m < n /\ ∃ i σ' H', Inv X pins σ' H' s7 /\ tn i s7.heap /\ (∀ b ∈ fp, H' b = none) /\ W i m σ' H' := fun {σ7 H7} I7 n7 => by
      obtain ⟨m', hm, w7⟩ := hN σ7 H7 n7
      refine ⟨m', hm, i + 1, σ7, H7, I7.unpinned, T.keep _ _ _ st5 fun b hb o e => (I7.pin (b, o) (List.mem_append_right _ (List.mem_append_right _ (mem_pinsAt hb e)))).1, fun b hb => ?_, w7⟩
      obtain ⟨o, e, d⟩ := T.obj _ _ st5 b hb
      exact (I7.pin (b, o) (List.mem_append_right _ (List.mem_append_right _ (mem_pinsAt hb e)))).2.1
    cases f with
    | next => obtain ⟨σ7, H7, I7, n7⟩ := q7; exact again I7 n7
    | cont => obtain ⟨σ7, H7, I7, n7⟩ := q7; exact again I7 n7
    | brk => obtain ⟨σ7, H7, I7, q7⟩ := q7; exact ⟨σ7, H7, I7.unpinned, q7⟩
    | ret v => obtain ⟨x7, σ7, H7, I7, r7, q7⟩ := q7; exact ⟨x7, σ7, H7, I7.unpinned, r7, q7⟩
end
theorem for_list {K : PySem.W.Frag} {a : Addr} {xs : List V} {g : TG} {tb : TS} {D : Ends} {σ : St} {H : Hp} (Pv : Nat -> St -> Hp -> Prop) (h0 : Pv 0 σ H) (hl : ∀ i σ H, i <= xs.length -> Pv i σ H -> SqL K H a xs)
    (hs : ∀ i x σ H, xs[i]? = some x -> Pv i σ H -> g x σ H fun σ2 H2 => tb { D with nx := Pv (i + 1), ct := Pv (i + 1), bk := D.nx } σ2 H2) (hd : ∀ σ H, Pv xs.length σ H -> D.nx σ H) :
    ∃ W : Nat -> Nat -> St -> Hp -> Prop, (∃ m, W 0 m σ H) /\ ∀ i m σ H, W i m σ H ->
      ((Itl K a).stop i H /\ D.nx σ H) \/ ((Itl K a).go i H /\ ∃ N : St -> Hp -> Prop, (∀ σ' H', N σ' H' -> ∃ m', m' < m /\ W (i + 1) m' σ' H') /\ ∀ x H', (Itl K a).yld i H x H' -> g x σ H' fun σ2 H2 => tb { D with nx := N, ct := N, bk := D.nx } σ2 H2) := by
  refine ⟨fun i m σ H => m = xs.length - i /\ i <= xs.length /\ Pv i σ H, ⟨xs.length, by simp, Nat.zero_le _, h0⟩, ?_⟩
  rintro i m σ H ⟨rfl, hi, p⟩
  have q := hl i σ H hi p
  by_cases hlt : i < xs.length
  · refine .inr ⟨⟨xs, xs[i], q, by simp [hlt]⟩, Pv (i + 1), fun σ' H' p' => ⟨xs.length - (i + 1), by lia, rfl, hlt, p'⟩, fun x H' y => ?_⟩
    obtain ⟨e, y⟩ := y
    subst e
    exact hs i x σ _ (y xs q) p
  · have e : i = xs.length := by lia
    subst e
    exact .inl ⟨⟨xs, q, Nat.le_refl _⟩, hd σ H p⟩
theorem for_range {lo : Int} {n : Nat} {g : TG} {tb : TS} {D : Ends} {σ : St} {H : Hp} (Pv : Nat -> St -> Hp -> Prop) (h0 : Pv 0 σ H)
    (hs : ∀ i σ H, i < n -> Pv i σ H -> g (.int (lo + i)) σ H fun σ2 H2 => tb { D with nx := Pv (i + 1), ct := Pv (i + 1), bk := D.nx } σ2 H2) (hd : ∀ σ H, Pv n σ H -> D.nx σ H) :
    ∃ W : Nat -> Nat -> St -> Hp -> Prop, (∃ m, W 0 m σ H) /\ ∀ i m σ H, W i m σ H ->
      ((Itr lo n).stop i H /\ D.nx σ H) \/ ((Itr lo n).go i H /\ ∃ N : St -> Hp -> Prop, (∀ σ' H', N σ' H' -> ∃ m', m' < m /\ W (i + 1) m' σ' H') /\ ∀ x H', (Itr lo n).yld i H x H' -> g x σ H' fun σ2 H2 => tb { D with nx := N, ct := N, bk := D.nx } σ2 H2) := by
  refine ⟨fun i m σ H => m = n - i /\ i <= n /\ Pv i σ H, ⟨n, by simp, Nat.zero_le _, h0⟩, ?_⟩
  rintro i m σ H ⟨rfl, hi, p⟩
  by_cases hlt : i < n
  · refine .inr ⟨hlt, Pv (i + 1), fun σ' H' p' => ⟨n - (i + 1), by lia, rfl, hlt, p'⟩, fun x H' y => ?_⟩
    obtain ⟨e, y⟩ := y
    subst e y
    exact hs i σ _ hlt p
  · have e : i = n := by lia
    subst e
    exact .inl ⟨Nat.le_refl _, hd σ H p⟩
end L2
namespace L2
open PySem PySem.Spec PyProof.Rows
abbrev R2 := V -> V -> Hp -> VK -> Prop
def OpR (X : Cx) (f : Value -> Value -> Sem Value) (r : R2) : Prop :=
  ∀ (pins : List (Addr × Obj)) (s : Shared) (σ : St) (H : Hp) (x y : V) (v u : Value) (Q : VK), Inv X pins σ H s -> RelV x v -> RelV y u -> r x y H Q ->
    wpAny (model X.prog X.w) X.A (f v u) (EP X pins σ Q) X.xe s
def UnR (X : Cx) (f : Value -> Sem Value) (r : V -> Hp -> VK -> Prop) : Prop :=
  ∀ (pins : List (Addr × Obj)) (s : Shared) (σ : St) (H : Hp) (x : V) (v : Value) (Q : VK), Inv X pins σ H s -> RelV x v -> r x H Q ->
    wpAny (model X.prog X.w) X.A (f v) (EP X pins σ Q) X.xe s
def Zq167 (X : Cx) (f : Value) (r : List V -> Hp -> VK -> Prop) : Prop :=
  ∀ (pins : List (Addr × Obj)) (s : Shared) (σ : St) (H : Hp) (xs : List V) (us : List Value) (Q : VK), Inv X pins σ H s -> Vals xs us -> r xs H Q ->
    wpAny (model X.prog X.w) X.A (call f us) (EP X pins σ Q) X.xe s
def tOp (r : R2) (ta tb : TE) : TE := fun σ H Q => ta σ H fun x H1 => tb σ H1 fun y H2 => r x y H2 Q
def tUn (r : V -> Hp -> VK -> Prop) (ta : TE) : TE := fun σ H Q => ta σ H fun x H1 => r x H1 Q
def rI (C : Int -> Int -> Prop) (g : Int -> Int -> V) : R2 := fun x y H Q => ∃ i j, x = .int i /\ y = .int j /\ C i j /\ Q (g i j) H
def rI0 (g : Int -> Int -> V) : R2 := fun x y H Q => ∃ i j, x = .int i /\ y = .int j /\ Q (g i j) H
def rU (g : Int -> V) : V -> Hp -> VK -> Prop := fun x H Q => ∃ i, x = .int i /\ Q (g i) H
section
variable {X : Cx} {a b c : Expr} {ta tb tc : TE} {pos : Pos}
theorem binT (ha : PE X a ta) (hb : PE X b tb) {pins : List (Addr × Obj)} {s : Shared} {σ : St} {H : Hp} {R : V -> V -> Hp -> Prop} (I : Inv X pins σ H s)
    (h : ta σ H fun x H1 => tb σ H1 fun y H2 => R x y H2) {Q : Value -> Shared -> Prop} {f : Value -> Value -> Sem Value}
    (hf : ∀ v u s2 x y H2, Inv X pins σ H2 s2 -> RelV x v -> RelV y u -> R x y H2 -> wpAny (model X.prog X.w) X.A (f v u) Q X.xe s2) :
    wpAny (model X.prog X.w) X.A (eval a X.env) (fun v s₁ => wpAny (model X.prog X.w) X.A (eval b X.env) (fun u s₂ => wpAny (model X.prog X.w) X.A (f v u) Q X.xe s₂) X.xe s₁) X.xe s := by
  refine thn (ha pins s σ H _ I h) fun v s1 ⟨x, H1, I1, r1, q1⟩ => ?_
  refine thn (hb pins s1 σ H1 _ I1 q1) fun u s2 ⟨y, H2, I2, r2, q2⟩ => ?_
  exact hf v u s2 x y H2 I2 r1 r2 q2
theorem pe_op {op : Operator} {r : R2} (ho : OpR X (binaryOp op) r) (ha : PE X a ta) (hb : PE X b tb) : PE X (.BinOp a op b pos) (tOp r ta tb) := by
  intro pins s σ H Q I h
  exact wpAny_BinOp (binT ha hb I h fun v u s2 x y H2 I2 rx ry q => ho pins s2 σ H2 x y v u Q I2 rx ry q)
theorem pe_un {op : UnaryOp} {r : V -> Hp -> VK -> Prop} (ho : UnR X (unaryOp op) r) (ha : PE X a ta) : PE X (.UnaryOp op a pos) (tUn r ta) := by
  intro pins s σ H Q I h
  exact UnaryOp_ (thn (ha pins s σ H _ I h) fun v s1 ⟨x, H1, I1, r1, q1⟩ => ho pins s1 σ H1 x v Q I1 r1 q1)
theorem opI {f : Value -> Value -> Sem Value} {C : Int -> Int -> Prop} {g : Int -> Int -> Int}
    (rule : ∀ (i j : Int) (t u : Tok) (s : Shared) (Q : Value -> Shared -> Prop) (E : Value -> Shared -> Prop), C i j -> Q (.int (g i j) s.toks) { s with toks := s.toks + 1 } -> wpAny (model X.prog X.w) X.A (f (.int i t) (.int j u)) Q E s) :
    OpR X f (rI C fun i j => .int (g i j)) := by
  intro pins s σ H x y v u Q I rx ry h
  obtain ⟨i, j, rfl, rfl, hc, q⟩ := h
  obtain ⟨t, rfl⟩ := rx
  obtain ⟨t', rfl⟩ := ry
  exact rule i j t t' s _ _ hc ⟨.int (g i j), H, I.tok _, ⟨_, rfl⟩, q⟩
theorem opI0 {f : Value -> Value -> Sem Value} {g : Int -> Int -> Int}
    (rule : ∀ (i j : Int) (t u : Tok) (s : Shared) (Q : Value -> Shared -> Prop) (E : Value -> Shared -> Prop), Q (.int (g i j) s.toks) { s with toks := s.toks + 1 } -> wpAny (model X.prog X.w) X.A (f (.int i t) (.int j u)) Q E s) :
    OpR X f (rI0 fun i j => .int (g i j)) := by
  intro pins s σ H x y v u Q I rx ry h
  obtain ⟨i, j, rfl, rfl, q⟩ := h
  obtain ⟨t, rfl⟩ := rx
  obtain ⟨t', rfl⟩ := ry
  exact rule i j t t' s _ _ ⟨.int (g i j), H, I.tok _, ⟨_, rfl⟩, q⟩
theorem opB0 {f : Value -> Value -> Sem Value} {g : Int -> Int -> Bool}
    (rule : ∀ (i j : Int) (t u : Tok) (s : Shared) (Q : Value -> Shared -> Prop) (E : Value -> Shared -> Prop), Q (.bool (g i j)) s -> wpAny (model X.prog X.w) X.A (f (.int i t) (.int j u)) Q E s) :
    OpR X f (rI0 fun i j => .bl (g i j)) := by
  intro pins s σ H x y v u Q I rx ry h
  obtain ⟨i, j, rfl, rfl, q⟩ := h
  obtain ⟨t, rfl⟩ := rx
  obtain ⟨t', rfl⟩ := ry
  exact rule i j t t' s _ _ ⟨.bl (g i j), H, I, rfl, q⟩
def CDiv (i j : Int) : Prop := 0 < j /\ j < 1073741824
def CPow (i j : Int) : Prop := 0 <= j /\ j <= 1000000 /\ i.natAbs < 2 ^ 64
def CMul (i j : Int) : Prop := (-(2 ^ 64) < i /\ i < 2 ^ 64) \/ (-(2 ^ 64) < j /\ j < 2 ^ 64)
theorem CMul.ok {i j : Int} (h : CMul i j) : IntMulOk i j := by
  rcases h with ⟨h1, h2⟩ | ⟨h1, h2⟩
  · exact .of_left (intBits_le_64 h1 h2)
  · exact .of_right (intBits_le_64 h1 h2)
theorem op_add : OpR X (binaryOp .Add) (rI0 fun i j => .int (i + j)) := opI0 fun _ _ _ _ _ _ _ q => add_int q
theorem op_mul : OpR X (binaryOp .Mult) (rI CMul fun i j => .int (i * j)) := opI fun _ _ _ _ _ _ _ hc q => mul_int q hc.ok
theorem op_fdiv : OpR X (binaryOp .FloorDiv) (rI CDiv fun i j => .int (i / j)) := opI fun i j _ _ _ _ _ hc q => by
  have h1 : (0 : Int) < j := hc.1
  have h2 : j < 1073741824 := hc.2
  exact floordiv_int (by lia) (by rw [Int.fdiv_eq_ediv_of_nonneg i (by lia)]; exact q) (.inl (PyProof.noPylong_small (by lia)))
theorem op_mod : OpR X (binaryOp .Mod) (rI (fun _ j => 0 < j) fun i j => .int (i % j)) := opI fun i j _ _ _ _ _ hc q => by
  have h1 : (0 : Int) < j := hc
  exact mod_int' (by lia) (by rw [Int.fmod_eq_emod_of_nonneg i (by lia)]; exact q)
theorem op_pow : OpR X (binaryOp .Pow) (rI CPow fun i j => .int (i ^ j.toNat)) := opI fun _ _ _ _ _ _ _ hc q => pow_int_small hc.1 hc.2.1 hc.2.2 q
end
def scal : V -> V -> Bool
  | .non, .non => true | .non, .int _ => true | .int _, .non => true | .non, .bl _ => true | .bl _, .non => true | .non, .str _ => true | .str _, .non => true
  | .int _, .int _ => true | .bl _, .bl _ => true | .str _, .str _ => true | .byt _, .byt _ => true
  | .int _, .str _ => true | .str _, .int _ => true | .bl _, .str _ => true | .str _, .bl _ => true
  | _, _ => false
def rEq : R2 := fun x y H Q => scal x y = true /\ Q (.bl (decide (x = y))) H
def rNe : R2 := fun x y H Q => scal x y = true /\ Q (.bl (!decide (x = y))) H
theorem dec_int {i j : Int} : decide (V.int i = V.int j) = (i == j) := by
  rw [Bool.eq_iff_iff]
  simp
theorem dec_bl {i j : Bool} : decide (V.bl i = V.bl j) = (i == j) := by
  rw [Bool.eq_iff_iff]
  simp
theorem dec_str {i j : Str} : decide (V.str i = V.str j) = (i == j) := by
  rw [Bool.eq_iff_iff]
  simp
theorem dec_byt {i j : Array UInt8} : decide (V.byt i = V.byt j) = (i.toList == j.toList) := by
  rw [Bool.eq_iff_iff]
  cases i
  cases j
  simp
section
variable {X : Cx} {a b c : Expr} {ta tb tc : TE} {pos : Pos}
theorem Zq38 {pins : List (Addr × Obj)} {σ : St} {H : Hp} {s : Shared} {Q : VK} {k k' : Bool} (I : Inv X pins σ H s) (q : Q (.bl k) H) (e : k = k') : EP X pins σ Q (.bool k') s := by
  subst e
  exact ⟨.bl k, H, I, rfl, q⟩
theorem op_eq : OpR X (compareOp .Eq) rEq := by
  intro pins s σ H x y v u Q I rx ry h
  obtain ⟨hs, q⟩ := h
  cases x with
  | non =>
    cases rx
    cases y with
    | non => cases ry; exact PySem.EqNone.eq_none_none (Zq38 I q (by simp))
    | bl j => cases ry; exact PySem.EqNone.eq_none_bool (Zq38 I q (by simp))
    | int j => obtain ⟨t', rfl⟩ := ry; exact PySem.EqNone.eq_none_int (Zq38 I q (by simp))
    | str j => obtain ⟨t', rfl⟩ := ry; exact PySem.EqNone.eq_none_str (Zq38 I q (by simp))
    | _ => exact absurd (show false = true from hs) Bool.false_ne_true
  | bl i =>
    cases rx
    cases y with
    | non => cases ry; exact PySem.EqNone.eq_bool_none (Zq38 I q (by simp))
    | bl j => cases ry; exact eq_bool (Zq38 I q dec_bl)
    | str j => obtain ⟨t', rfl⟩ := ry; exact PySem.EqMixed.eq_bool_str (Zq38 I q (by simp))
    | _ => exact absurd (show false = true from hs) Bool.false_ne_true
  | int i =>
    obtain ⟨t, rfl⟩ := rx
    cases y with
    | non => cases ry; exact PySem.EqNone.eq_int_none (Zq38 I q (by simp))
    | int j => obtain ⟨t', rfl⟩ := ry; exact eq_int (Zq38 I q dec_int)
    | str j => obtain ⟨t', rfl⟩ := ry; exact PySem.EqMixed.eq_int_str (Zq38 I q (by simp))
    | _ => exact absurd (show false = true from hs) Bool.false_ne_true
  | str i =>
    obtain ⟨t, rfl⟩ := rx
    cases y with
    | non => cases ry; exact PySem.EqNone.eq_str_none (Zq38 I q (by simp))
    | bl j => cases ry; exact PySem.EqMixed.eq_str_bool (Zq38 I q (by simp))
    | int j => obtain ⟨t', rfl⟩ := ry; exact PySem.EqMixed.eq_str_int (Zq38 I q (by simp))
    | str j => obtain ⟨t', rfl⟩ := ry; exact eq_str (Zq38 I q dec_str)
    | _ => exact absurd (show false = true from hs) Bool.false_ne_true
  | byt i =>
    obtain ⟨t, rfl⟩ := rx
    cases y with
    | byt j => obtain ⟨t', rfl⟩ := ry; exact PySem.W.eq_bytes (Zq38 I q dec_byt)
    | _ => exact absurd (show false = true from hs) Bool.false_ne_true
  | _ => cases y <;> exact absurd (show false = true from hs) Bool.false_ne_true
theorem op_ne : OpR X (compareOp .NotEq) rNe := by
  intro pins s σ H x y v u Q I rx ry h
  obtain ⟨hs, q⟩ := h
  cases x with
  | non =>
    cases rx
    cases y with
    | non => cases ry; exact PySem.EqNone.ne_none_none (Zq38 I q (by simp))
    | bl j => cases ry; exact PySem.EqNone.ne_none_bool (Zq38 I q (by simp))
    | int j => obtain ⟨t', rfl⟩ := ry; exact PySem.EqNone.ne_none_int (Zq38 I q (by simp))
    | str j => obtain ⟨t', rfl⟩ := ry; exact PySem.EqNone.ne_none_str (Zq38 I q (by simp))
    | _ => exact absurd (show false = true from hs) Bool.false_ne_true
  | bl i =>
    cases rx
    cases y with
    | non => cases ry; exact PySem.EqNone.ne_bool_none (Zq38 I q (by simp))
    | bl j => cases ry; exact ne_bool (Zq38 I q (congrArg not dec_bl))
    | str j => obtain ⟨t', rfl⟩ := ry; exact PySem.EqMixed.ne_bool_str (Zq38 I q (by simp))
    | _ => exact absurd (show false = true from hs) Bool.false_ne_true
  | int i =>
    obtain ⟨t, rfl⟩ := rx
    cases y with
    | non => cases ry; exact PySem.EqNone.ne_int_none (Zq38 I q (by simp))
    | int j => obtain ⟨t', rfl⟩ := ry; exact ne_int (Zq38 I q (congrArg not dec_int))
    | str j => obtain ⟨t', rfl⟩ := ry; exact PySem.EqMixed.ne_int_str (Zq38 I q (by simp))
    | _ => exact absurd (show false = true from hs) Bool.false_ne_true
  | str i =>
    obtain ⟨t, rfl⟩ := rx
    cases y with
    | non => cases ry; exact PySem.EqNone.ne_str_none (Zq38 I q (by simp))
    | bl j => cases ry; exact PySem.EqMixed.ne_str_bool (Zq38 I q (by simp))
    | int j => obtain ⟨t', rfl⟩ := ry; exact PySem.EqMixed.ne_str_int (Zq38 I q (by simp))
    | str j => obtain ⟨t', rfl⟩ := ry; exact ne_str (Zq38 I q (congrArg not dec_str))
    | _ => exact absurd (show false = true from hs) Bool.false_ne_true
  | byt i =>
    obtain ⟨t, rfl⟩ := rx
    cases y with
    | byt j => obtain ⟨t', rfl⟩ := ry; exact PySem.W.ne_bytes (Zq38 I q (congrArg not dec_byt))
    | _ => exact absurd (show false = true from hs) Bool.false_ne_true
  | _ => cases y <;> exact absurd (show false = true from hs) Bool.false_ne_true
theorem op_lt : OpR X (compareOp .Lt) (rI0 fun i j => .bl (decide (i < j))) := opB0 fun _ _ _ _ _ _ _ q => lt_int q
theorem op_le : OpR X (compareOp .LtE) (rI0 fun i j => .bl (decide (i <= j))) := opB0 fun _ _ _ _ _ _ _ q => le_int q
theorem op_gt : OpR X (compareOp .Gt) (rI0 fun i j => .bl (decide (j < i))) := opB0 fun _ _ _ _ _ _ _ q => gt_int q
theorem op_ge : OpR X (compareOp .GtE) (rI0 fun i j => .bl (decide (j <= i))) := opB0 fun _ _ _ _ _ _ _ q => ge_int q
theorem op_isN : OpR X (compareOp .Is) (fun x y H Q => y = .non /\ Q (.bl (decide (x = .non))) H) := by
  intro pins s σ H x y v u Q I rx ry h
  obtain ⟨rfl, q⟩ := h
  cases ry
  refine is_none_gen (Zq38 I q ?_)
  cases x <;> first
    | (cases rx; rfl)
    | (obtain ⟨t, rfl⟩ := rx; rfl)
theorem op_notN : OpR X (compareOp .IsNot) (fun x y H Q => y = .non /\ Q (.bl (!decide (x = .non))) H) := by
  intro pins s σ H x y v u Q I rx ry h
  obtain ⟨rfl, q⟩ := h
  cases ry
  refine isnot_none_gen (Zq38 I q ?_)
  cases x <;> first
    | (cases rx; rfl)
    | (obtain ⟨t, rfl⟩ := rx; rfl)
theorem Zq12 (b : Expr) {op : CmpOp} (h : op ≠ .In := by decide) (h2 : op ≠ .NotIn := by decide) : behindInMarks op b = false := by
  have e1 : (op == CmpOp.In) = false := by cases op <;> first | rfl | exact absurd rfl h
  have e2 : (op == CmpOp.NotIn) = false := by cases op <;> first | rfl | exact absurd rfl h2
  cases b <;> simp [behindInMarks, e1, e2]
theorem pe_cmpR {op : CmpOp} {r : R2} (ho : OpR X (compareOp op) r) (ha : PE X a ta) (hb : PE X b tb) (hm : behindInMarks op b = false) : PE X (.Compare a [op] [b] pos) (tOp r ta tb) := by
  intro pins s σ H Q I h
  exact wpAny_Compare1 (binT ha hb I h fun v u s2 x y H2 I2 rx ry q => ho pins s2 σ H2 x y v u Q I2 rx ry q) hm
def tTest (t : TE) : TT := fun σ H Q => t σ H fun x H' => ∃ k, x = .bl k /\ Q k H'
theorem pt_cmpR {op : CmpOp} {r : R2} (ho : OpR X (compareOp op) r) (ha : PE X a ta) (hb : PE X b tb) (hm : behindInMarks op b = false) : PT X (.Compare a [op] [b] pos) (tTest (tOp r ta tb)) := by
  intro pins s σ H Q I h
  refine wpAny_isTrue_Compare1 (thn (ha pins s σ H _ I h) fun v s1 ⟨x, H1, I1, r1, q1⟩ => thn (hb pins s1 σ H1 _ I1 q1) fun u s2 ⟨y, H2, I2, r2, q2⟩ =>
    thn (ho pins s2 σ H2 x y v u _ I2 r1 r2 q2) fun c s3 ⟨z, H3, I3, r3, k, e, q3⟩ => ?_) hm
  subst e
  cases r3
  exact wpAny_truthy_bool ⟨H3, I3, q3⟩
def tChain (r r' : R2) (ta tb tc : TE) : TE := fun σ H Q => ta σ H fun x H1 => tb σ H1 fun y H2 => r x y H2 fun z H3 => ∃ k, z = .bl k /\
  (if k = true then tc σ H3 fun w' H4 => r' y w' H4 Q else Q (.bl false) H3)
theorem pe_chain {op op' : CmpOp} {r r' : R2} (ho : OpR X (compareOp op) r) (ho' : OpR X (compareOp op') r') (ha : PE X a ta) (hb : PE X b tb) (hc : PE X c tc)
    (hm : lastMarks [op, op'] [b, c] = false := by with_unfolding_all rfl) : PE X (.Compare a [op, op'] [b, c] pos) (tChain r r' ta tb tc) := by
  intro pins s σ H Q I h
  refine Compare_chain (thn (ha pins s σ H _ I h) fun v s1 ⟨x, H1, I1, r1, q1⟩ => chain_link (thn (hb pins s1 σ H1 _ I1 q1) fun u s2 ⟨y, H2, I2, r2, q2⟩ =>
    thn (ho pins s2 σ H2 x y v u _ I2 r1 r2 q2) fun d s3 ⟨z, H3, I3, r3, k, e, q3⟩ => ?_)) hm
  subst e
  cases r3
  refine wpAny_truthy_bool ?_
  cases k with
  | false => exact ite_ff ⟨.bl false, H3, I3, rfl, q3⟩
  | true => exact ite_tt (chain_last (thn (hc pins s3 σ H3 _ I3 q3) fun w' s4 ⟨z', H4, I4, r4, q4⟩ => ho' pins s4 σ H4 y z' u w' Q I4 r2 r4 q4))
theorem pt_chain {op op' : CmpOp} {r r' : R2} (ho : OpR X (compareOp op) r) (ho' : OpR X (compareOp op') r') (ha : PE X a ta) (hb : PE X b tb) (hc : PE X c tc)
    (hm : lastMarks [op, op'] [b, c] = false := by with_unfolding_all rfl) : PT X (.Compare a [op, op'] [b, c] pos) (tTest (tChain r r' ta tb tc)) := by
  intro pins s σ H Q I h
  refine isTrue_chain (thn (ha pins s σ H _ I h) fun v s1 ⟨x, H1, I1, r1, q1⟩ => test_link (thn (hb pins s1 σ H1 _ I1 q1) fun u s2 ⟨y, H2, I2, r2, q2⟩ =>
    thn (ho pins s2 σ H2 x y v u _ I2 r1 r2 q2) fun d s3 ⟨z, H3, I3, r3, k, e, q3⟩ => ?_)) hm
  subst e
  cases r3
  refine wpAny_truthy_bool ?_
  cases k with
  | false =>
    obtain ⟨k', e', q'⟩ := q3
    cases e'
    exact ite_ff ⟨H3, I3, q'⟩
  | true =>
    refine ite_tt (test_last (thn (hc pins s3 σ H3 _ I3 q3) fun w' s4 ⟨z', H4, I4, r4, q4⟩ => thn (ho' pins s4 σ H4 y z' u w' _ I4 r2 r4 q4) fun d' s5 ⟨z2, H5, I5, r5, k2, e2, q5⟩ => ?_))
    subst e2
    cases r5
    exact wpAny_truthy_bool ⟨H5, I5, q5⟩
theorem line63 : (sizeLine : Nat) < 2 ^ 63 := by rw [sizeLine_eq]; decide
theorem op_add_str : OpR X (binaryOp .Add) (fun x y H Q => ∃ i j, x = .str i /\ y = .str j /\ i.length + j.length <= sizeLine /\ Q (.str (i ++ j)) H) := by
  intro pins s σ H x y v u Q I rx ry h
  obtain ⟨i, j, rfl, rfl, hz, q⟩ := h
  obtain ⟨t, rfl⟩ := rx
  obtain ⟨t', rfl⟩ := ry
  exact add_str (fun t' tk => ⟨.str (i ++ j), H, I.tok _, ⟨_, rfl⟩, q⟩) hz
theorem Zq236 {x : V} {us : List Value} (r : Vals [x] us) : ∃ u, us = [u] /\ RelV x u := by
  cases r with
  | cons r1 r2 => cases r2; exact ⟨_, rfl, r1⟩
theorem vals2 {x y : V} {us : List Value} (r : Vals [x, y] us) : ∃ u w', us = [u, w'] /\ RelV x u /\ RelV y w' := by
  cases r with
  | cons r1 r2 =>
    cases r2 with
    | cons r3 r4 => cases r4; exact ⟨_, _, rfl, r1, r3⟩
end
end L2
namespace L2
open PySem PySem.Spec PyProof.Rows
structure ObjM (h : Heap) (x dx C : Addr) (mA : Str -> Option Value) : Prop where
  obj : h.get? x = some (PySem.W.instObj C dx)
  ns : h.Ns1 dx mA
  ne : dx ≠ x
theorem lookIn_ns {h : Heap} {dx : Addr} {mA : Str -> Option Value} (n : h.Ns1 dx mA) : ∃ od, h.get? dx = some od /\ ∀ name, PySem.W.lookIn name od = some (mA name) := by
  obtain ⟨o, es, ep, ho, hd, hk, _, hm⟩ := n
  refine ⟨o, ho, fun name => ?_⟩
  have e := hm name
  unfold nsFind findBy at e
  rw [← Array.find?_toList] at e
  unfold PySem.W.lookIn
  rw [hd]
  dsimp only
  split
  · rename_i y q
    rw [q] at e
    exact congrArg some e
  · rename_i q
    rw [q] at e
    have a : es.toList.any (·.refKey) = false := by
      rw [List.any_eq_false]
      intro y hy
      obtain ⟨z, t, hkey⟩ := hk y (Array.mem_toList_iff.mp hy)
      simp [DictEntry.refKey, hkey]
    have a' : ¬ es.toList.any (·.refKey) = true := by rw [a]; exact Bool.false_ne_true
    rw [if_neg a']
    exact congrArg some e
theorem ObjM.look {h : Heap} {x dx C : Addr} {mA : Str -> Option Value} (I : ObjM h x dx C mA) : ∃ od, PySem.W.InstAt h x (PySem.W.instObj C dx) C (some od) /\ ∀ name, PySem.W.lookIn name od = some (mA name) :=
  let ⟨od, ho, hl⟩ := lookIn_ns I.ns
  ⟨od, ⟨I.obj, rfl, rfl, ho⟩, hl⟩
section
variable {prog : Program} {w : World} {A : Around} {E : Value -> Shared -> Prop} {s : Shared} {K : PySem.W.Frag} {x dx C f : Addr} {mA : Str -> Option Value} {name : Str} {v : Value}
theorem get_map {expr : Bool} {Q : Value -> Shared -> Prop} (X : K.In s.heap) (I : ObjM s.heap x dx C mA) (hg : PySem.W.plainGet K C name = true) (hh : PySem.W.hasDictIn K C = true)
    (ha : PySem.W.findIn K (.ref C) name = some none) (hv : mA name = some v) (hv' : PySem.W.handedIn v = true) (h : Q v { s with toks := s.toks + 1 }) :
    wpAny (model prog w) A (getAttr (.ref x) name expr) Q E s := by
  obtain ⟨od, J, hl⟩ := I.look
  exact PySem.W.get_value X J (PySem.W.plainGet_of hg).1 (PySem.W.findObj_own hh ha rfl (by rw [hl, hv])) hv' h
theorem get_meth {pl : Sem Bool} {Q : Value × List Value -> Shared -> Prop} (X : K.In s.heap) (I : ObjM s.heap x dx C mA) (hg : PySem.W.plainGet K C name = true)
    (hf : PySem.W.findIn K (.ref C) name = some (some (.ref f))) (ht : PySem.W.isFn K (.ref f) = true) (hv : mA name = none) (h : Q (.ref f, [.ref x]) s) :
    wpAny (model prog w) A (getMethod (.ref x) name pl) Q E s := by
  obtain ⟨od, J, hl⟩ := I.look
  exact PySem.W.method_fn X J (PySem.W.plainGet_of hg).1 (PySem.W.plainGet_of hg).2 hf (beq_iff_eq.mp ht) (by show (PySem.W.lookIn name od).map (·.isSome) = some false; rw [hl, hv]; rfl) h
theorem set_map {ns : List Str} {Q : Unit -> Shared -> Prop} (X : K.In s.heap) (I : ObjM s.heap x dx C mA)
    (hs : PySem.W.findIn K (.ref C) "__setattr__" = some (some (.builtin "object.__setattr__"))) (hp : PySem.W.plainOver K C = true) (ht : PySem.W.takerIn K C name = some none) (hh : PySem.W.hasDictIn K C = true)
    (hw : PySem.Within mA ns) (hsz : ns.length <= sizeLine)
    (h : ∀ h', ObjM h' x dx C (fun y => if y = name then some v else mA y) -> Heap.SameBut dx s.heap h' -> Q () { s with heap := h', toks := s.toks + 2 }) :
    wpAny (model prog w) A (setAttr (.ref x) name v) Q E s := by
  obtain ⟨od, J, hl⟩ := I.look
  refine PySem.W.set_plain X J hs (PySem.W.osa_open (s := { s with toks := s.toks + 1 }) (r := none) X J hp ht fun b => ?_)
  obtain ⟨cd, hc, hd'⟩ := PySem.W.any_some hh
  have hx : s.heap.get? x = some ⟨.ref C, some dx, .plain, #[]⟩ := I.obj
  refine wpAny_bind (wpAny_pure (wpAny_bind (wpAny_bind (wpAny_loadPart hx (wpAny_bind (PySem.W.Looks.here (s := { s with toks := s.toks + 1 }) (PySem.W.looks_clsIn X hc) ?_))))))
  rw [hd']
  refine wpAny_pure (a := some dx) (wpAny_bind (wpAny_pure (wpAny_bind ?_)))
  refine wpAny_nsSet1 (s := { s with toks := s.toks + 1 }) I.ns fun h' hn2 hs2 => ?_
  obtain ⟨oD, esD, epD, hoD, hdD, hcD⟩ := hn2.count (PySem.Within.cons name v hw)
  refine wpAny_bind (wpAny_lookBehind hoD (by rw [hdD]; exact pastItsLine_dict (Nat.le_trans hcD (by rw [List.length_cons]; lia))) ?_)
  exact wpAny_pure (h _ ⟨(hs2.2 _ (Ne.symm I.ne)).trans I.obj, hn2, I.ne⟩ hs2)
theorem make_map {R : Result -> Shared -> Prop} {vs : List Value} {kw : List (Str × Value)} (X : K.In s.heap) (hm : PySem.W.makesIn K C = true)
    (hi : PySem.W.findIn K (.ref C) "__init__" = some (some (.ref f))) (hf : PySem.W.typeIn K (.ref f) = some (.type "function"))
    (h : codeAny (model prog w) (A.under (.builtin "type.__call__" ⟨.ref C :: vs, kw⟩)) (.call (.ref f) ⟨.ref (s.heap.objs.size + 1) :: vs, kw⟩) (PySem.W.InitBack (s.heap.objs.size + 1) R)
      { s with heap := (s.heap.push PySem.W.emptyDict).push (PySem.W.instObj C s.heap.objs.size) }) :
    codeAny (model prog w) A (.call (.ref C) ⟨vs, kw⟩) R s := by
  obtain ⟨hh, g, d, t, os⟩ := s
  exact PySem.W.make_core (PySem.W.makes_of X hm) (PySem.W.looks_findIn X hi) (fun self => PySem.W.bind_fn X self hf) (.inl rfl) h
end
def putF (f : Str) (v : V) : List (Str × V) -> List (Str × V)
  | [] => [(f, v)]
  | (g, x) :: r => if g = f then (g, v) :: r else (g, x) :: putF f v r
theorem Zq40 (f g : Str) (v : V) : ∀ fs : List (Str × V), (putF f v fs).lookup g = if g = f then some v else fs.lookup g
  | [] => by
    show List.lookup g [(f, v)] = _
    by_cases h : g = f
    · have hb : (g == f) = true := beq_iff_eq.mpr h
      simp only [List.lookup, hb, if_pos h]
    · have hb : (g == f) = false := beq_eq_false_iff_ne.mpr h
      simp only [List.lookup, hb, if_neg h]
  | (k, x) :: r => by
    have ih := Zq40 f g v r
    rw [show putF f v ((k, x) :: r) = (if k = f then (k, v) :: r else (k, x) :: putF f v r) from rfl]
    by_cases hk : k = f
    · rw [if_pos hk]
      by_cases h : g = k
      · have hb : (g == k) = true := beq_iff_eq.mpr h
        simp only [List.lookup, hb, if_pos (h.trans hk)]
      · have hb : (g == k) = false := beq_eq_false_iff_ne.mpr h
        simp only [List.lookup, hb, if_neg (fun e : g = f => h (e.trans hk.symm))]
    · rw [if_neg hk]
      by_cases h : g = k
      · have hb : (g == k) = true := beq_iff_eq.mpr h
        simp only [List.lookup, hb, if_neg (fun e : g = f => hk (h.symm.trans e))]
      · have hb : (g == k) = false := beq_eq_false_iff_ne.mpr h
        simp only [List.lookup, hb]
        exact ih
theorem keys_putF (f : Str) (v : V) : ∀ fs : List (Str × V), f ∈ (putF f v fs).map (·.1) /\ ∀ g, g ∈ fs.map (·.1) -> g ∈ (putF f v fs).map (·.1)
  | [] => ⟨by simp [putF], fun g h => by simp at h⟩
  | (k, x) :: r => by
    obtain ⟨i1, i2⟩ := keys_putF f v r
    rw [show putF f v ((k, x) :: r) = (if k = f then (k, v) :: r else (k, x) :: putF f v r) from rfl]
    by_cases hk : k = f
    · rw [if_pos hk]
      subst hk
      exact ⟨by simp, fun g h => by simpa using h⟩
    · rw [if_neg hk]
      refine ⟨?_, fun g h => ?_⟩
      · rw [List.map_cons]
        exact List.mem_cons_of_mem _ i1
      · rw [List.map_cons] at h ⊢
        rcases List.mem_cons.mp h with e | e
        · exact List.mem_cons.mpr (.inl e)
        · exact List.mem_cons_of_mem _ (i2 g e)
theorem length_putF (f : Str) (v : V) : ∀ fs : List (Str × V), (putF f v fs).length <= fs.length + 1
  | [] => by simp [putF]
  | (k, x) :: r => by
    have ih := length_putF f v r
    rw [show putF f v ((k, x) :: r) = (if k = f then (k, v) :: r else (k, x) :: putF f v r) from rfl]
    by_cases hk : k = f
    · rw [if_pos hk, List.length_cons, List.length_cons]; lia
    · rw [if_neg hk, List.length_cons, List.length_cons]; lia
theorem RelO.some_of {v : V} {o : Option Value} (r : RelO (some v) o) : ∃ u, o = some u /\ RelV v u := by
  cases o with
  | none => exact (show False from r).elim
  | some u => exact ⟨u, rfl, r⟩
theorem RelO.none_of {o : Option Value} (r : RelO none o) : o = none := by
  cases o with
  | none => rfl
  | some u => exact (show False from r).elim
theorem handed_of {v : V} {u : Value} (r : RelV v u) : PySem.W.handedIn u = true := by
  cases v with
  | non => cases (show u = Value.none from r); rfl
  | bl b => cases (show u = Value.bool b from r); rfl
  | int i => obtain ⟨t, e⟩ := (show ∃ t, u = Value.int i t from r); cases e; rfl
  | str x => obtain ⟨t, e⟩ := (show ∃ t, u = Value.str x t from r); cases e; rfl
  | byt b => obtain ⟨t, e⟩ := (show ∃ t, u = Value.bytes b t from r); cases e; rfl
  | flt b => obtain ⟨t, e⟩ := (show ∃ t, u = Value.float b t from r); cases e; rfl
  | ref a => cases (show u = Value.ref a from r); rfl
  | ty n => cases (show u = Value.type n from r); rfl
section
variable {P : Program} {w : World} {H H' : Hp} {h h' : Heap} {a C dx : Addr} {fs fs' : List (Str × V)}
theorem ins_get (hok : HOk P w H h) (e : H a = some (.ins C dx fs)) : ∃ mA, ObjM h a dx C mA /\ (∀ f, RelO (fs.lookup f) (mA f)) /\ PySem.Within mA (fs.map (·.1)) /\ fs.length <= 1000 /\ H dx = some (.own a) := by
  obtain ⟨d, z, ne, ob, mA, n, r, q⟩ := (show ObjOk P w H h a (.ins C dx fs) from hok a _ e)
  exact ⟨mA, ⟨ob, n, ne⟩, r, q, z, d⟩
end
structure Cls (K : PySem.W.Frag) (C : Addr) : Prop where
  pg : PySem.W.plainGet K C Str.empty = true
  hd : PySem.W.hasDictIn K C = true
  po : PySem.W.plainOver K C = true
  sa : PySem.W.findIn K (.ref C) "__setattr__" = some (some (.builtin "object.__setattr__"))
theorem Cls.get {K : PySem.W.Frag} {C : Addr} (c : Cls K C) (f : Str) : PySem.W.plainGet K C f = true := c.pg
def NoAttr (K : PySem.W.Frag) (C : Addr) (f : Str) : Prop := PySem.W.findIn K (.ref C) f = some none
theorem NoAttr.taker {K : PySem.W.Frag} {C : Addr} {f : Str} (n : NoAttr K C f) : PySem.W.takerIn K C f = some none := by
  unfold PySem.W.takerIn
  rw [show PySem.W.findIn K (.ref C) f = some none from n]
  rfl
structure Con (K : PySem.W.Frag) (C : Addr) (f : Str) (v : V) (u : Value) : Prop where
  at_ : PySem.W.findIn K (.ref C) f = some (some u)
  rel : RelV v u
  get : PySem.W.specialIn K u "__get__" = some none
  cp : PySem.W.copiedNames.contains f = false
structure Meth (K : PySem.W.Frag) (C : Addr) (m : Str) (f : Addr) : Prop where
  at_ : PySem.W.findIn K (.ref C) m = some (some (.ref f))
  fn : PySem.W.isFn K (.ref f) = true
  kp : PySem.W.keepIn K (.ref f) = true
section
variable {X : Cx} {pins : List (Addr × Obj)} {σ : St} {H : Hp} {s : Shared} {a C dx : Addr} {fs : List (Str × V)} {f : Str} {v : V} {A : Around} {E : Value -> Shared -> Prop}
theorem getattr_ok {b : Bool} {Q : Value -> Shared -> Prop} (I : Inv X pins σ H s) (e : H a = some (.ins C dx fs)) (c : Cls X.K C) (n : NoAttr X.K C f) (l : fs.lookup f = some v)
    (h : ∀ u s', Inv X pins σ H s' -> RelV v u -> Q u s') : wpAny (model X.prog X.w) A (getAttr (.ref a) f b) Q E s := by
  obtain ⟨mA, O, r, _, _, _⟩ := ins_get I.hok e
  obtain ⟨u, hu, ru⟩ := RelO.some_of (v := v) (o := mA f) (by rw [← l]; exact r f)
  exact get_map I.kIn O (c.get f) c.hd n hu (handed_of ru) (h u _ (I.tok _) ru)
theorem getmeth_ok {m : Str} {g : Addr} {pl : Sem Bool} {Q : Value × List Value -> Shared -> Prop} (I : Inv X pins σ H s) (e : H a = some (.ins C dx fs)) (c : Cls X.K C) (k : Meth X.K C m g) (l : fs.lookup m = none)
    (h : Q (.ref g, [.ref a]) s) : wpAny (model X.prog X.w) A (getMethod (.ref a) m pl) Q E s := by
  obtain ⟨mA, O, r, _, _, _⟩ := ins_get I.hok e
  have hn : mA m = none := RelO.none_of (by rw [← l]; exact r m)
  exact get_meth I.kIn O (c.get m) k.at_ k.fn hn h
theorem setattr_ok {y : V} {u : Value} {Q : Unit -> Shared -> Prop} (I : Inv X pins σ H s) (e : H a = some (.ins C dx fs)) (c : Cls X.K C) (n : NoAttr X.K C f) (hl : fs.length < 1000) (ry : RelV y u)
    (h : ∀ s', Inv X pins σ (upd H a (.ins C dx (putF f y fs))) s' -> Q () s') : wpAny (model X.prog X.w) A (setAttr (.ref a) f u) Q E s := by
  obtain ⟨mA, O, r, wi, _, ho⟩ := ins_get I.hok e
  have hz : (fs.map (·.1)).length <= sizeLine := by rw [List.length_map, sizeLine_eq]; lia
  refine set_map I.kIn O c.sa c.po n.taker c.hd wi hz fun h' O' sb => h _ ?_
  have hd : ∃ o, h'.get? dx = some o := let ⟨o, _, _, e', _⟩ := O'.ns; ⟨o, e'⟩
  refine I.write (x := a) (e := dx) (by rw [e]; exact True.intro) (.inr ho) (fun b q hb z => (sb.2 b hb).trans z) hd ?_
  refine ⟨by rw [Zq6 O.ne]; exact ho, ?_, O.ne, O'.obj, _, O'.ns, fun g => ?_, fun g hg => ?_⟩
  · have := length_putF f y fs; lia
  · show RelO ((putF f y fs).lookup g) (if g = f then some u else mA g)
    rw [Zq40]
    by_cases q : g = f
    · rw [if_pos q, if_pos q]; exact ry
    · rw [if_neg q, if_neg q]; exact r g
  · by_cases q : g = f
    · rw [q]; exact (keys_putF f y fs).1
    · refine (keys_putF f y fs).2 g (wi g fun z => hg ?_)
      show (if g = f then some u else mA g) = none
      rw [if_neg q]; exact z
theorem Inv.made (I : Inv X pins σ H s) : Inv X pins σ (upd (upd H s.heap.objs.size (.own (s.heap.objs.size + 1))) (s.heap.objs.size + 1) (.ins C s.heap.objs.size []))
    { s with heap := (s.heap.push PySem.W.emptyDict).push (PySem.W.instObj C s.heap.objs.size) } := by
  have e1 : (s.heap.push PySem.W.emptyDict).get? s.heap.objs.size = some PySem.W.emptyDict := Heap.get?_push_size s.heap rfl
  have e2 : ((s.heap.push PySem.W.emptyDict).push (PySem.W.instObj C s.heap.objs.size)).get? (s.heap.objs.size + 1) = some (PySem.W.instObj C s.heap.objs.size) := by
    have := Heap.get?_push_size (s.heap.push PySem.W.emptyDict) (o := PySem.W.instObj C s.heap.objs.size) rfl
    rwa [Heap.size_push] at this
  have e3 : (s.heap.push PySem.W.emptyDict).Ns s.heap.objs.size (fun _ => none) := ⟨PySem.W.emptyDict, #[], _, e1, rfl, (fun e he => absurd he (by simp)), fun _ => rfl⟩
  have I1 := I.laid (a := s.heap.objs.size) (o := .own (s.heap.objs.size + 1)) (h' := s.heap.push PySem.W.emptyDict) (t' := s.toks) (fun b u q => Heap.get?_push_of_some _ q) (Nat.le_refl _) ⟨_, e1⟩
  refine I1.laid (a := s.heap.objs.size + 1) (o := .ins C s.heap.objs.size []) (t' := s.toks) (fun b u q => Heap.get?_push_of_some _ q) (Nat.le_of_eq (Heap.size_push _ _)) ?_
  have ne : s.heap.objs.size ≠ s.heap.objs.size + 1 := Nat.ne_of_lt (Nat.lt_succ_self _)
  refine ⟨by rw [Zq6 ne, Zq7], Nat.zero_le _, ne, e2, fun _ => none, (Heap.Ns1.of_empty e3).at fun o q => Heap.get?_push_of_some _ q, fun _ => True.intro, fun y hy => absurd rfl hy⟩
theorem attr_of {prog : Program} {w : World} {env : Env} {e : Expr} {f : Str} {pos : Pos} {s : Shared} {Q : Value -> Shared -> Prop} (hb : attributeBase e f env (eval e env) = eval e env)
    (h : wpAny (model prog w) A (eval e env) (fun o s₁ => wpAny (model prog w) A (getAttr o f true) Q E s₁) E s) : wpAny (model prog w) A (eval (.Attribute e f pos) env) Q E s :=
  Attribute_any_ h (by rw [arm_eval_Attribute, hb])
end
def tFld (K : PySem.W.Frag) (ta : TE) (f : Str) : TE := fun σ H Q => ta σ H fun x H1 => ∃ a C dx fs v, x = .ref a /\ H1 a = some (.ins C dx fs) /\ Cls K C /\ NoAttr K C f /\ fs.lookup f = some v /\ Q v H1
def sFld (K : PySem.W.Frag) (ta tv : TE) (f : Str) : TS := fun D σ H => tv σ H fun y H1 => ta σ H1 fun x H2 => ∃ a C dx fs, x = .ref a /\ H2 a = some (.ins C dx fs) /\ Cls K C /\ NoAttr K C f /\ fs.length < 1000 /\
  D.nx σ (upd H2 a (.ins C dx (putF f y fs)))
section
variable {X : Cx} {o e value : Expr} {f : Str} {pos pos' tpos : Pos} {ta tv : TE}
theorem pe_fld (he : PE X e ta) (hb : attributeBase e f X.env (eval e X.env) = eval e X.env) : PE X (.Attribute e f pos) (tFld X.K ta f) := by
  intro pins s σ H Q I h
  refine attr_of hb (thn (he pins s σ H _ I h) fun u s1 ⟨x, H1, I1, rx, a, C, dx, fs, v, ex, ea, c, n, l, q⟩ => ?_)
  subst ex
  obtain rfl : u = Value.ref a := rx
  exact getattr_ok I1 ea c n l fun u' s2 I2 ru => ⟨v, H1, I2, ru, q⟩
theorem ps_fld (ha : PE X o ta) (hv : PE X value tv) (hs : swapsWith value (some (.Attribute o f pos')) pos.line X.env = pure false) : PS X (.Assign [.Attribute o f pos'] value pos) (sFld X.K ta tv f) := by
  intro pins s σ H D I h
  refine plainObj_wpAny_Assign_Attribute (thn (hv pins s σ H _ I h) fun u s1 ⟨y, H1, I1, ry, q⟩ => thn (ha pins s1 σ H1 _ I1 q) fun ov s2 ⟨x, H2, I2, rx, a, C, dx, fs, ex, ea, c, n, l, q2⟩ => ?_) hs
  subst ex
  obtain rfl : ov = Value.ref a := rx
  exact setattr_ok I2 ea c n l ry fun s3 I3 => ⟨σ, _, I3, q2⟩
end
section
variable {X : Cx} {pins : List (Addr × Obj)} {σ : St} {H : Hp} {s : Shared} {A : Around} {E : Value -> Shared -> Prop} {Q : Value -> Shared -> Prop} {c : Value} {b : Bool}
inductive TyOf (K : PySem.W.Frag) (H : Hp) : V -> Value -> Prop where
  | non : TyOf K H .non (.type "NoneType")
  | bl (x : Bool) : TyOf K H (.bl x) (.type "bool")
  | int (i : Int) : TyOf K H (.int i) (.type "int")
  | str (x : Str) : TyOf K H (.str x) (.type "str")
  | flt (x : UInt64) : TyOf K H (.flt x) (.type "float")
  | lst {a : Addr} {xs : List V} (e : H a = some (.lst xs)) : TyOf K H (.ref a) (.type "list")
  | frz {a : Addr} {o : Obj} {xs : List V} (e : H a = some (.frz o (.lst xs))) : TyOf K H (.ref a) (.type "list")
  | tup {a : Addr} {xs : List V} (e : H a = some (.tup xs)) : TyOf K H (.ref a) (.type "tuple")
  | dK {a : Addr} {kvs : List (Key × V)} (e : H a = some (.dK kvs)) : TyOf K H (.ref a) (.type "dict")
  | dT {a : Addr} {kvs : List (List Key × V)} (e : H a = some (.dT kvs)) : TyOf K H (.ref a) (.type "dict")
  | ins {a C dx : Addr} {fs : List (Str × V)} (e : H a = some (.ins C dx fs)) (cl : Cls K C) (ha : PySem.W.findIn K (.ref C) "__class__" = some (some (.builtin "object.__class__")))
      (hn : PySem.W.specialIn K (.builtin "object.__class__") "__get__" = some (some (.builtin "getset_descriptor.__get__"))) (htk : PySem.W.takesIn K (.builtin "object.__class__") = some true)
      (hm : PySem.W.mroIn K C (.type "object") = some true) : TyOf K H (.ref a) (.ref C)
theorem isinst_ok {x : V} {u t : Value} (I : Inv X pins σ H s) (rx : RelV x u) (ty : TyOf X.K H x t) (e : PySem.W.kitOne X.K t c = some b) (h : ∀ tk, Q (.bool b) { s with toks := tk }) :
    wpAny (model X.prog X.w) A (call (.builtin "isinstance") [u, c]) Q E s := by
  cases ty with
  | non => cases (show u = Value.none from rx); exact PySem.W.kia_one PySem.W.kitx_none I.kIn True.intro e (fun z => nomatch z) h
  | bl y => cases (show u = Value.bool y from rx); exact PySem.W.kia_one PySem.W.kitx_bool I.kIn True.intro e (fun z => nomatch z) h
  | int i => obtain ⟨t, q⟩ := (show ∃ t, u = Value.int i t from rx); cases q; exact PySem.W.kia_one PySem.W.kitx_int I.kIn True.intro e (fun z => nomatch z) h
  | str y => obtain ⟨t, q⟩ := (show ∃ t, u = Value.str y t from rx); cases q; exact PySem.W.kia_one PySem.W.kitx_str I.kIn True.intro e (fun z => nomatch z) h
  | flt y => obtain ⟨t, q⟩ := (show ∃ t, u = Value.float y t from rx); cases q; exact PySem.W.kia_one PySem.W.kitx_float I.kIn True.intro e (fun z => nomatch z) h
  | @lst a xs ea =>
    cases (show u = Value.ref a from rx)
    obtain ⟨_, _, n, _, h1⟩ := (show ObjOk X.prog X.w H s.heap a (.lst xs) from I.hok a _ ea)
    exact PySem.W.kia_one PySem.W.kitx_list I.kIn ⟨_, h1, rfl⟩ e (fun z => nomatch z) h
  | @frz a ob xs ea =>
    cases (show u = Value.ref a from rx)
    obtain ⟨_, _, _, n, _, h1⟩ := (show ObjOk X.prog X.w H s.heap a (.frz ob (.lst xs)) from I.hok a _ ea)
    exact PySem.W.kia_one PySem.W.kitx_list I.kIn ⟨_, h1, rfl⟩ e (fun z => nomatch z) h
  | @tup a xs ea =>
    cases (show u = Value.ref a from rx)
    obtain ⟨_, _, _, p⟩ := (show ObjOk X.prog X.w H s.heap a (.tup xs) from I.hok a _ ea)
    obtain ⟨o, h1, h2, _⟩ := p
    exact PySem.W.kia_one PySem.W.kitx_tuple I.kIn ⟨o, h1, h2⟩ e (fun z => nomatch z) h
  | @dK a kvs ea =>
    cases (show u = Value.ref a from rx)
    obtain ⟨_, _, vs, _, p⟩ := (show ObjOk X.prog X.w H s.heap a (.dK kvs) from I.hok a _ ea)
    obtain ⟨o, es, ep, h1, h2, _⟩ := p
    exact PySem.W.kia_one PySem.W.kitx_dict I.kIn ⟨o, h1, h2.1⟩ e (fun z => nomatch z) h
  | @dT a kvs ea =>
    cases (show u = Value.ref a from rx)
    obtain ⟨_, _, xs, _, o, es, ep, h1, h2, _⟩ := (show ObjOk X.prog X.w H s.heap a (.dT kvs) from I.hok a _ ea)
    exact PySem.W.kia_one PySem.W.kitx_dict I.kIn ⟨o, h1, h2.1⟩ e (fun z => nomatch z) h
  | @ins a C dx fs ea cl ha hn htk hm =>
    cases (show u = Value.ref a from rx)
    obtain ⟨mA, O, _⟩ := ins_get I.hok ea
    obtain ⟨od, J, _⟩ := O.look
    exact PySem.W.kia_one (PySem.W.kitx_own (cl.get _) cl.hd ha hn htk hm) I.kIn J e (fun z => nomatch z) h
end
end L2
namespace L2
open PySem PySem.Spec PyProof.Rows
structure Room (k : Nat) (A : Around) : Prop where
  hd : A.handled = none
  dp : A.depth + 3 * k + 5 < recursionLimit
  un : A.units + 16 * k + 200 < cLine
theorem Room.mono {j k : Nat} {A : Around} (r : Room k A) (h : j <= k) : Room j A := ⟨r.hd, by have := r.dp; lia, by have := r.un; lia⟩
theorem Room.deeper {k : Nat} {A : Around} (r : Room (k + 1) A) (env : Env) : Room k (A.deeper env) :=
  ⟨r.hd, by have := r.dp; show A.depth + 1 + 3 * k + 5 < _; lia, by have := r.un; show A.units + 3 + 16 * k + 200 < _; lia⟩
theorem make_depth {A : Around} {C : Addr} {us : List Value} {kw : List (Str × Value)} : (A.under (.builtin "type.__call__" ⟨.ref C :: us, kw⟩)).depth = A.depth + 1 := by
  first | rfl | simp [Around.under, Code.weight, Code.isCreation, Code.isGuard, Code.isCaller, Code.frames, Code.isFrame, guardIds]
theorem make_units {A : Around} {C : Addr} {us : List Value} {kw : List (Str × Value)} : (A.under (.builtin "type.__call__" ⟨.ref C :: us, kw⟩)).units = A.units + 1 := by
  first | rfl | simp [Around.under, Code.cUnits, Code.frames, Code.isFrame]
theorem Room.make {k : Nat} {A : Around} (r : Room (k + 1) A) (C : Addr) (us : List Value) (kw : List (Str × Value)) : Room k (A.under (.builtin "type.__call__" ⟨.ref C :: us, kw⟩)) :=
  ⟨r.hd, by have := r.dp; rw [make_depth]; lia, by have := r.un; rw [make_units]; lia⟩
theorem Room.depth {k : Nat} {A : Around} (r : Room k A) : A.depth < recursionLimit := by have := r.dp; lia
theorem Room.units {k : Nat} {A : Around} (r : Room k A) : A.units + 64 < cLine := by have := r.un; lia
theorem Room.units0 {k : Nat} {A : Around} (r : Room k A) : A.units < cLine := by have := r.un; lia
def tNil : TA := fun _ H Q => Q [] H
def Zq183 (ta : TE) (tr : TA) : TA := fun σ H Q => ta σ H fun x H1 => tr σ H1 fun xs H2 => Q (x :: xs) H2
section
variable {X : Cx} {e : Expr} {es : List Expr} {te : TE} {t : TA} {pos : Pos}
theorem pa_nil : PA X [] tNil := fun _ _ _ _ H Q I h => Calls.spliced_nil ⟨[], H, I, .nil, h⟩
theorem pa_cons (ha : PE X e te) (hr : PA X es t) (hs : starEach (e :: es) X.env = (false, eval e X.env) :: starEach es X.env := by rfl) : PA X (e :: es) (Zq183 te t) := by
  intro pos pins s σ H Q I h
  rw [hs]
  show wpAny _ _ (spliced ((false, eval e X.env) :: backTo pos (starEach es X.env))) _ _ s
  refine Calls.spliced_cons (thn (ha pins s σ H _ I h) fun u s1 ⟨x, H1, I1, r1, q1⟩ => ?_)
  exact thn (hr pos pins s1 σ H1 _ I1 q1) fun us s2 ⟨xs, H2, I2, r2, q2⟩ => ⟨x :: xs, H2, I2, .cons r1 r2, q2⟩
def tTup (t : TA) : TE := fun σ H Q => t σ H fun xs H1 => xs.length <= sizeLine /\ ∀ p, H1 p = none -> Q (.ref p) (upd H1 p (.tup xs))
def tLst (t : TA) : TE := fun σ H Q => t σ H fun xs H1 => xs.length <= sizeLine /\ ∀ p, H1 p = none -> Q (.ref p) (upd H1 p (.lst xs))
theorem pe_tup {x1} (h : PA X es t) : PE X (.Tuple es x1 pos) (tTup t) := by
  intro pins s σ H Q I hq
  refine wpAny_Tuple_spliced (thn (h pos pins s σ H _ I hq) fun us s1 ⟨xs, H1, I1, r, z, q⟩ => ⟨by rw [← r.length]; exact z, ?_⟩)
  have hf : H1 s1.heap.objs.size = none := I1.hok.fresh (Nat.le_refl _)
  refine ⟨.ref s1.heap.objs.size, upd H1 s1.heap.objs.size (.tup xs), I1.laid (t' := s1.toks) (fun b u e => Heap.get?_push_of_some _ e) (Nat.le_refl _) ?_, rfl, q _ hf⟩
  exact ⟨z, us, r, ⟨_, Heap.get?_push_size _ rfl, rfl, _, rfl⟩⟩
theorem pe_lst (h : PA X es t) : PE X (.List es pos) (tLst t) := by
  intro pins s σ H Q I hq
  refine wpAny_List_spliced (thn (h pos pins s σ H _ I hq) fun us s1 ⟨xs, H1, I1, r, z, q⟩ => ⟨by rw [← r.length]; exact z, ?_⟩)
  have hf : H1 s1.heap.objs.size = none := I1.hok.fresh (Nat.le_refl _)
  refine ⟨.ref s1.heap.objs.size, upd H1 s1.heap.objs.size (.lst xs), I1.laid (t' := s1.toks) (fun b u e => Heap.get?_push_of_some _ e) (Nat.le_refl _) ?_, rfl, q _ hf⟩
  exact ⟨z, us, 0, r, Heap.get?_push_size _ rfl⟩
end
abbrev Sp := List V -> Hp -> VK -> XK -> Prop
abbrev CXT := List Env -> Hp -> Shared -> XK -> Value -> Shared -> Prop
structure Env0 (P : Program) (w : World) (K : PySem.W.Frag) (mg : Str -> Option Value) (base : Heap) (A : Around) (outer : List Env) (s : Shared) (H : Hp) : Prop where
  frames : A.frames = some outer
  mod : Mod K mg base
  bs : ∀ b o, base.get? b = some o -> s.heap.get? b = some o /\ H b = none
  bsz : base.objs.size <= s.heap.objs.size
  funs : s.heap.FunFrames base outer
  frf : ∀ b ∈ frs outer, H b = none
  hok : HOk P w H s.heap
  bare : AllBare s.gens
def CE (outer : List Env) (P : Program) (w : World) (H : Hp) (s : Shared) (Q : VK) (u : Value) (s' : Shared) : Prop :=
  ∃ v H', s'.os = s.os /\ AllBare s'.gens /\ Un (frs outer) [] H H' s.heap s'.heap /\ HOk P w H' s'.heap /\ RelV v u /\ Q v H'
def CR (CX : CXT) (outer : List Env) (P : Program) (w : World) (H : Hp) (s : Shared) (Q : VK) (E : XK) (r : Result) (s' : Shared) : Prop :=
  match r with
  | .ok (.ret u) => CE outer P w H s Q u s'
  | .ok _ => False
  | .error e => CX outer H s E e s'
structure FnOk (P : Program) (w : World) (K : PySem.W.Frag) (mg : Str -> Option Value) (base : Heap) (CX : CXT) (k : Nat) (f : Addr) (fd : FuncData) (ps : List Str) (sp : Sp) : Prop where
  len : ∀ vs H Q E, sp vs H Q E -> vs.length = ps.length
  run : ∀ (A : Around) (outer : List Env) (s : Shared) (H : Hp) (args : Args) (us : List Value) (vs : List V) (Q : VK) (E : XK), Room k A -> Env0 P w K mg base A outer s H -> BindsTo s fd args (ps.zip us) -> Vals vs us -> sp vs H Q E ->
    codeAny (model P w) A (.call (.ref f) args) (CR CX outer P w H s Q E) s
theorem FnOk.mono {P : Program} {w : World} {K : PySem.W.Frag} {mg : Str -> Option Value} {base : Heap} {CX : CXT} {j k : Nat} {f : Addr} {fd : FuncData} {ps : List Str} {sp : Sp} (F : FnOk P w K mg base CX j f fd ps sp) (h : j <= k) :
    FnOk P w K mg base CX k f fd ps sp := ⟨F.len, fun A outer s H args us vs Q E hr => F.run A outer s H args us vs Q E (hr.mono h)⟩
theorem FnOk.imp {P : Program} {w : World} {K : PySem.W.Frag} {mg : Str -> Option Value} {base : Heap} {CX : CXT} {k : Nat} {f : Addr} {fd : FuncData} {ps : List Str} {sp sp' : Sp} (F : FnOk P w K mg base CX k f fd ps sp)
    (h : ∀ vs H Q E, sp' vs H Q E -> sp vs H Q E) : FnOk P w K mg base CX k f fd ps sp' :=
  ⟨fun vs H Q E q => F.len vs H Q E (h _ _ _ _ q), fun A outer s H args us vs Q E hr he hb hv hs => F.run A outer s H args us vs Q E hr he hb hv (h _ _ _ _ hs)⟩
theorem Env0.make {P : Program} {w : World} {K : PySem.W.Frag} {mg : Str -> Option Value} {base : Heap} {A : Around} {outer : List Env} {s : Shared} {H : Hp} (e : Env0 P w K mg base A outer s H) (C : Addr) (us : List Value) (kw : List (Str × Value)) :
    Env0 P w K mg base (A.under (.builtin "type.__call__" ⟨.ref C :: us, kw⟩)) outer s H := ⟨by first | exact e.frames | (simpa [Around.under, Code.envs, Code.isFrame, pushEnvs] using e.frames), e.mod, e.bs, e.bsz, e.funs, e.frf, e.hok, e.bare⟩
section
variable {X : Cx} {pins : List (Addr × Obj)} {σ : St} {H : Hp} {s s' : Shared}
theorem Inv.env0 (I : Inv X pins σ H s) : Env0 X.prog X.w X.K X.mg X.base X.A X.stack s H :=
  ⟨I.ok.frames, I.ok.mod, I.bs, Nat.le_trans I.ok.bsz I.sz, I.stack, I.stkFree, I.hok, I.bare⟩
theorem Inv.after {Q : VK} {u : Value} (I : Inv X pins σ H s) (h : CE X.stack X.prog X.w H s Q u s') : EP X pins σ Q u s' := by
  obtain ⟨v, H', os, bare, un, hok, r, q⟩ := h
  obtain ⟨hh, g, d, t, os'⟩ := s'
  obtain rfl : os' = s.os := os
  exact ⟨v, H', I.call (h' := hh) (g' := g) (d' := d) (t' := t) (ch := []) un hok bare (fun b z => absurd z (by simp)), r, q⟩
end
def tCall (sp : Sp) (dvs : List V) (E : XK) (t : TA) : TE := fun σ H Q => t σ H fun vs H1 => sp (vs ++ dvs) H1 Q E
def tMeth (C : Addr) (m : Str) (sp : Sp) (dvs : List V) (E : XK) (ta : TE) (t : TA) : TE := fun σ H Q => ta σ H fun x H1 => ∃ a dx fs, x = .ref a /\ H1 a = some (.ins C dx fs) /\ fs.lookup m = none /\
  t σ H1 fun vs H2 => sp (x :: (vs ++ dvs)) H2 Q E
def tMake (C : Addr) (sp : Sp) (dvs : List V) (E : XK) (t : TA) : TE := fun σ H Q => t σ H fun vs H1 => ∀ x dx, H1 x = none -> H1 dx = none -> dx ≠ x ->
  sp (.ref x :: (vs ++ dvs)) (upd (upd H1 dx (.own x)) x (.ins C dx [])) (fun v H2 => v = .non /\ Q (.ref x) H2) E
def Binds (K : PySem.W.Frag) (fd : FuncData) (ps : List Str) (ds : List Value) : Prop :=
  ∀ (s : Shared) (us : List Value), K.In s.heap -> (us ++ ds).length = ps.length -> BindsTo s fd ⟨us, []⟩ (ps.zip (us ++ ds))
theorem Binds.all {K : PySem.W.Frag} {fd : FuncData} {ps : List Str} (h : ∀ us : List Value, us.length = ps.length -> bindArgs fd ⟨us, []⟩ = pure (ps.zip us)) : Binds K fd ps [] := fun s us _ hl => by
  rw [List.append_nil] at hl ⊢
  exact .of_eq (h us hl)
def Zq227 (CX : CXT) (X : Cx) (E : XK) : Prop := ∀ (pins : List (Addr × Obj)) (σ : St) (H : Hp) (s : Shared) (e : Value) (s' : Shared), Inv X pins σ H s -> CX X.stack H s E e s' -> X.xe e s'
section
variable {X : Cx} {CX : CXT} {k : Nat} {f C : Addr} {fd : FuncData} {ps : List Str} {sp : Sp} {dvs : List V} {ds : List Value} {E : XK} {x m : Str} {p pos apos : Pos} {e o : Expr} {es : List Expr} {ta : TE} {t : TA}
theorem run_fn {pins : List (Addr × Obj)} {σ : St} {H : Hp} {s : Shared} {Q : VK} {us : List Value} {vs : List V} (F : FnOk X.prog X.w X.K X.mg X.base CX k f fd ps sp) (hr : Room k X.A) (hb : Binds X.K fd ps ds) (hd : Vals dvs ds) (hx : Zq227 CX X E)
    (I : Inv X pins σ H s) (r : Vals vs us) (h : sp (vs ++ dvs) H Q E) : wpAny (model X.prog X.w) X.A (call (.ref f) us) (EP X pins σ Q) X.xe s := by
  have r2 : Vals (vs ++ dvs) (us ++ ds) := r.append hd
  have hl : (us ++ ds).length = ps.length := by rw [← r2.length]; exact F.len _ _ _ _ h
  refine wpAny_call (codeAny_mono (F.run X.A X.stack s H ⟨us, []⟩ (us ++ ds) (vs ++ dvs) Q E hr I.env0 (hb s us I.kIn hl) r2 h) fun r s' hq => ?_)
  cases r with
  | error e => exact hx pins σ H s e s' I hq
  | ok fl =>
    cases fl with
    | ret u => exact I.after hq
    | next => exact False.elim hq
    | brk => exact False.elim hq
    | cont => exact False.elim hq
theorem pe_call (F : FnOk X.prog X.w X.K X.mg X.base CX k f fd ps sp) (hr : Room k X.A) (hg : Gl X x) (hm : X.mg x = some (.ref f)) (hk : PySem.W.keepIn X.K (.ref f) = true) (hb : Binds X.K fd ps ds) (hd : Vals dvs ds) (hx : Zq227 CX X E)
    (ha : PA X (e :: es) t) (hdb : (x == ("__debug__" : Str)) = false := by decide) (he : starEach (e :: es) X.env = (false, eval e X.env) :: starEach es X.env := by rfl) (hpl : (backTo pos (starEach es X.env)).any (·.1) = false := by rfl) :
    PE X (.Call (.Name x p) (e :: es) [] pos) (tCall sp dvs E t) := by
  intro pins s σ H Q I h
  refine wpAny_Call_Name_kw (ld_glob I hg hm ?_ hdb)
  refine PySem.W.callWith_K (h₀ := X.base) I.ok.mod.kin hk (thn (ha pos pins s σ H _ I h) fun us s1 ⟨vs, H1, I1, r, q⟩ => ⟨I1.kIn, ?_⟩) he hpl
  exact run_fn F hr hb hd hx I1 r q
theorem pe_meth {pl : Sem Bool} (he : PE X o ta) (c : Cls X.K C) (hm : Meth X.K C m f) (F : FnOk X.prog X.w X.K X.mg X.base CX k f fd ps sp) (hr : Room k X.A) (hb : Binds X.K fd ps ds) (hd : Vals dvs ds) (hx : Zq227 CX X E) (ha : PA X (e :: es) t)
    (hst : starEach (e :: es) X.env = (false, eval e X.env) :: starEach es X.env := by rfl) (hpl : (backTo pos (starEach es X.env)).any (·.1) = false := by rfl)
    (ht : eval (.Call (.Attribute o m apos) (e :: es) [] pos) X.env = (do
      let ov ← eval o X.env
      standAt apos.atName
      let (f, first) ← holding [ov] (getMethod ov m pl)
      callWith pos f first (backTo pos (starEach (e :: es) X.env)) (backToKw pos (keywordEach [] X.env))) := by rfl) :
    PE X (.Call (.Attribute o m apos) (e :: es) [] pos) (tMeth C m sp dvs E ta t) := by
  intro pins s σ H Q I h
  refine PySem.W.methodCall_KW (pl := pl) (thn (he pins s σ H _ I h) fun u s1 ⟨x, H1, I1, rx, a, dx, fs, ex, ea, l, q⟩ => ?_) ht
  subst ex
  obtain rfl : u = Value.ref a := rx
  refine getmeth_ok I1 ea c hm l ?_
  refine PySem.W.callWith_K (first := [.ref a]) (h₀ := X.base) I.ok.mod.kin hm.kp (thn (ha pos pins s1 σ H1 _ I1 q) fun us s2 ⟨vs, H2, I2, r, q2⟩ => ⟨I2.kIn, ?_⟩) hst hpl
  exact run_fn (us := .ref a :: us) (vs := .ref a :: vs) F hr hb hd hx I2 (.cons rfl r) q2
theorem pe_meth0 {pl : Sem Bool} (he : PE X o ta) (c : Cls X.K C) (hm : Meth X.K C m f) (F : FnOk X.prog X.w X.K X.mg X.base CX k f fd ps sp) (hr : Room k X.A) (hb : Binds X.K fd ps ds) (hd : Vals dvs ds) (hx : Zq227 CX X E)
    (ht : eval (.Call (.Attribute o m apos) [] [] pos) X.env = (do
      let ov ← eval o X.env
      standAt apos.atName
      let (f, first) ← holding [ov] (getMethod ov m pl)
      callWith pos f first (backTo pos (starEach [] X.env)) (backToKw pos (keywordEach [] X.env))) := by rfl) :
    PE X (.Call (.Attribute o m apos) [] [] pos) (tMeth C m sp dvs E ta tNil) := by
  intro pins s σ H Q I h
  refine PySem.W.methodCall_KW (pl := pl) (thn (he pins s σ H _ I h) fun u s1 ⟨x, H1, I1, rx, a, dx, fs, ex, ea, l, q⟩ => ?_) ht
  subst ex
  obtain rfl : u = Value.ref a := rx
  refine getmeth_ok I1 ea c hm l ?_
  exact PySem.W.callWith_K0 (first := [.ref a]) I1.kIn hm.kp (run_fn (us := [.ref a]) (vs := [.ref a]) F hr hb hd hx I1 (.cons rfl .nil) q)
structure Mk (K : PySem.W.Frag) (C f : Addr) : Prop where
  makes : PySem.W.makesIn K C = true
  init : PySem.W.findIn K (.ref C) "__init__" = some (some (.ref f))
  fn : PySem.W.isFn K (.ref f) = true
  kp : PySem.W.keepIn K (.ref C) = true
theorem run_make {pins : List (Addr × Obj)} {σ : St} {H : Hp} {s : Shared} {Q : VK} {us : List Value} {vs : List V} (M : Mk X.K C f) (F : FnOk X.prog X.w X.K X.mg X.base CX k f fd ps sp) (hr : Room (k + 1) X.A) (hb : Binds X.K fd ps ds) (hd : Vals dvs ds)
    (hx : Zq227 CX X E) (I : Inv X pins σ H s) (r : Vals vs us)
    (h : ∀ x dx, H x = none -> H dx = none -> dx ≠ x -> sp (.ref x :: (vs ++ dvs)) (upd (upd H dx (.own x)) x (.ins C dx [])) (fun v H2 => v = .non /\ Q (.ref x) H2) E) :
    wpAny (model X.prog X.w) X.A (call (.ref C) us) (EP X pins σ Q) X.xe s := by
  have hq := h (s.heap.objs.size + 1) s.heap.objs.size (I.hok.fresh (Nat.le_succ _)) (I.hok.fresh (Nat.le_refl _)) (Nat.ne_of_lt (Nat.lt_succ_self _))
  have I2 := Inv.made (C := C) I
  have r2 : Vals (V.ref (s.heap.objs.size + 1) :: (vs ++ dvs)) (Value.ref (s.heap.objs.size + 1) :: (us ++ ds)) := .cons rfl (r.append hd)
  have hl : (Value.ref (s.heap.objs.size + 1) :: us ++ ds).length = ps.length := by
    have e := r2.length
    rw [F.len _ _ _ _ hq] at e
    exact e.symm
  refine wpAny_call (make_map (f := f) I.kIn M.makes M.init (beq_iff_eq.mp M.fn) (codeAny_mono (F.run _ X.stack _ _ ⟨Value.ref (s.heap.objs.size + 1) :: us, []⟩ (Value.ref (s.heap.objs.size + 1) :: (us ++ ds)) _ _ E (hr.make C us [])
    (I2.env0.make C us []) (hb _ (Value.ref (s.heap.objs.size + 1) :: us) I2.kIn hl) r2 hq) fun r s' hq' => ?_))
  cases r with
  | error e => exact hx pins σ _ _ e s' I2 hq'
  | ok fl =>
    cases fl with
    | ret u =>
      obtain ⟨v, H', I3, rv, ev, q3⟩ := I2.after hq'
      subst ev
      exact ⟨rv, ⟨V.ref (s.heap.objs.size + 1), H', I3, rfl, q3⟩⟩
    | next => exact False.elim hq'
    | brk => exact False.elim hq'
    | cont => exact False.elim hq'
theorem pe_make0 (M : Mk X.K C f) (F : FnOk X.prog X.w X.K X.mg X.base CX k f fd ps sp) (hr : Room (k + 1) X.A) (hg : Gl X x) (hm : X.mg x = some (.ref C)) (hb : Binds X.K fd ps ds) (hd : Vals dvs ds) (hx : Zq227 CX X E)
    (hdb : (x == ("__debug__" : Str)) = false := by decide) : PE X (.Call (.Name x p) [] [] pos) (tMake C sp dvs E tNil) := by
  intro pins s σ H Q I h
  refine wpAny_Call_Name_kw (ld_glob I hg hm ?_ hdb)
  exact PySem.W.callWith_K0 I.kIn M.kp (run_make (us := []) M F hr hb hd hx I .nil h)
end
section
variable {X : Cx} {CX : CXT} {k : Nat} {f C : Addr} {fd : FuncData} {ps ks : List Str} {sp : Sp} {E : XK} {x m : Str} {p pos apos kpos : Pos} {e o : Expr} {es : List Expr} {kws : List Keyword} {te ta : TE} {t tk : TA} {nm : Option Str}
structure KBinds (K : PySem.W.Frag) (fd : FuncData) (ps ks : List Str) (g : List Value -> List Value -> List Value) (gV : List V -> List V -> List V) : Prop where
  to : ∀ (s : Shared) (us ws : List Value), K.In s.heap -> (g us ws).length = ps.length -> BindsTo s fd ⟨us, ks.zip ws⟩ (ps.zip (g us ws))
  rel : ∀ {vs : List V} {us : List Value} {zs : List V} {ws : List Value}, Vals vs us -> Vals zs ws -> Vals (gV vs zs) (g us ws)
variable {g : List Value -> List Value -> List Value} {gV : List V -> List V -> List V}
end
structure FnScope (N P : List Str) (sc : Scope) : Prop where
  kind : sc.kind = .function
  co : sc.isCoroutine = false
  gen : sc.isGenerator = false
  nd : N.Nodup
  pre : N.take P.length = P
  par : ∀ x ∈ P, sc.names.lookup x = some .local \/ sc.names.lookup x = some .cell
  nofree : ∀ y ∈ sc.names, y.2 ≠ .free
theorem bindL_out {kindOf : Str -> Option NameKind} {x : Str} : ∀ {binds : List (Str × Value)} {m : Str -> Option Value}, (∀ v, (x, v) ∉ binds) -> bindL kindOf binds m x = m x
  | [], _, _ => rfl
  | (n, v) :: r, m, h => by
    unfold bindL
    rw [bindL_out fun w hw => h w (List.mem_cons_of_mem _ hw)]
    split
    · have : x ≠ n := by rintro rfl; exact h v List.mem_cons_self
      simp [this]
    · rfl
theorem bindC_out {kindOf : Str -> Option NameKind} {x : Str} : ∀ {binds : List (Str × Value)} {m : Str -> Option Value}, (∀ v, (x, v) ∉ binds) -> bindC kindOf binds m x = m x
  | [], _, _ => rfl
  | (n, v) :: r, m, h => by
    unfold bindC
    rw [bindC_out fun w hw => h w (List.mem_cons_of_mem _ hw)]
    split
    · rfl
    · have : x ≠ n := by rintro rfl; exact h v List.mem_cons_self
      simp [this]
theorem bindL_get {kindOf : Str -> Option NameKind} {x : Str} {v : Value} : ∀ {P : List Str} {vs : List Value} {i : Nat} {m : Str -> Option Value}, P.Nodup -> P[i]? = some x -> vs[i]? = some v -> kindOf x = some .local ->
    bindL kindOf (P.zip vs) m x = some v
  | [], _, _, _, _, h, _, _ => by simp at h
  | _ :: _, [], _, _, _, _, h, _ => by simp at h
  | p :: P, w :: vs, 0, m, nd, h1, h2, hk => by
    simp at h1 h2; subst h1; subst h2
    show bindL kindOf ((p, w) :: P.zip vs) m p = _
    unfold bindL
    rw [bindL_out fun v hv => (List.nodup_cons.mp nd).1 (List.of_mem_zip hv).1, if_pos hk]
    simp
  | p :: P, w :: vs, i + 1, m, nd, h1, h2, hk => by
    show bindL kindOf ((p, w) :: P.zip vs) m x = _
    unfold bindL
    exact bindL_get (i := i) (List.nodup_cons.mp nd).2 (by simpa using h1) (by simpa using h2) hk
theorem bindC_get {kindOf : Str -> Option NameKind} {x : Str} {v : Value} : ∀ {P : List Str} {vs : List Value} {i : Nat} {m : Str -> Option Value}, P.Nodup -> P[i]? = some x -> vs[i]? = some v -> kindOf x ≠ some .local ->
    bindC kindOf (P.zip vs) m x = some v
  | [], _, _, _, _, h, _, _ => by simp at h
  | _ :: _, [], _, _, _, _, h, _ => by simp at h
  | p :: P, w :: vs, 0, m, nd, h1, h2, hk => by
    simp at h1 h2; subst h1; subst h2
    show bindC kindOf ((p, w) :: P.zip vs) m p = _
    unfold bindC
    rw [bindC_out fun v hv => (List.nodup_cons.mp nd).1 (List.of_mem_zip hv).1, if_neg hk]
    simp
  | p :: P, w :: vs, i + 1, m, nd, h1, h2, hk => by
    show bindC kindOf ((p, w) :: P.zip vs) m x = _
    unfold bindC
    exact bindC_get (i := i) (List.nodup_cons.mp nd).2 (by simpa using h1) (by simpa using h2) hk
def start (N : List Str) (vs : List V) : St := vs.map some ++ List.replicate (N.length - vs.length) none
def cxOf (CX : CXT) (P : Program) (w : World) (K : PySem.W.Frag) (mg : Str -> Option Value) (base : Heap) (N : List Str) (qual : Str) (scope : Scope) (f : Addr) (cd : Value) (A : Around) (outer : List Env) (s : Shared) (H : Hp) (E : XK) : Cx where
  prog := P
  w := w
  K := K
  mg := mg
  base := base
  A := A.deeper (envOfC qual scope s.heap.objs.size f cd)
  N := N
  s₀ := s
  H₀ := H
  env := envOfC qual scope s.heap.objs.size f cd
  outer := outer
  stack := envOfC qual scope s.heap.objs.size f cd :: outer
  ex := []
  calm := true
  fn := fun _ => true
  pn := []
  xe := fun e s' => wpAny (model P w) (A.deeper (envOfC qual scope s.heap.objs.size f cd)) (leaving (envOfC qual scope s.heap.objs.size f cd) e) (fun _ s'' => CX outer H s E e s'') (fun e' s'' => CX outer H s E e' s'') s'
theorem cell_has {sc : Scope} {n : Nat} {x : Str} (h : sc.names.lookup x = some .cell) : ∃ c, (cellsFrom n sc.names []).lookup x = some c := by
  have q := PySem.W.cellsFrom_some sc.names n [] (.inl h)
  exact Option.isSome_iff_exists.mp q
theorem inv_start {CX : CXT} {P : Program} {w : World} {K : PySem.W.Frag} {mg : Str -> Option Value} {base : Heap} {N ps : List Str} {qual : Str} {scope : Scope} {f : Addr} {cd : Value} {A : Around} {outer : List Env} {s s1 : Shared} {H : Hp} {E : XK} {us : List Value} {vs : List V}
    (S : FnScope N ps scope) (hd : A.handled = none) (e0 : Env0 P w K mg base A outer s H) (hl : vs.length = ps.length) (r : Vals vs us)
    (x : InCallC s s.heap.objs.size (bindL (envOfC qual scope s.heap.objs.size f cd).kindOf (ps.zip us) fun _ => none) (cellsFrom (s.heap.objs.size + 1) scope.names []) (bindC (envOfC qual scope s.heap.objs.size f cd).kindOf (ps.zip us) fun _ => none) s1) :
    Inv (cxOf CX P w K mg base N qual scope f cd A outer s H E) [] (start N vs) H s1 := by
  have hpl : ps.length <= N.length := by have := congrArg List.length S.pre; rw [List.length_take] at this; lia
  obtain ⟨h1, tk, rfl, hk⟩ := x.done
  have noA : ∀ b : Addr, b ∉ (cxOf CX P w K mg base N qual scope f cd A outer s H E).ex := fun b z => absurd (show b ∈ ([] : List Addr) from z) (by simp)
  refine ⟨⟨e0.mod, S.kind, rfl, rfl, Nat.le_refl _, fun y z c h1 h2 => ?_, fun y hy => ?_, fun y c _ h => ?_, fun _ => hd, Around.frames_deeper e0.frames, .inr ⟨rfl, rfl⟩, fun b z => absurd z (noA b), e0.bs, e0.bsz, fun b _ _ => noA b, fun b z => absurd z (noA b), e0.funs, e0.frf⟩,
    rfl, e0.bare, Un.kept hk, ⟨_, x.toInCall.ns, fun i y v h1 h2 h3 => ?_⟩, fun y c h => ⟨_, x.cell y c h⟩, e0.hok.fresh (Nat.le_refl _), fun y c h => ?_, fun p hp => absurd (show p ∈ ([] : List (Addr × Obj)) from hp) (by simp), e0.hok.kept hk, ?_⟩
  · exact name_of_addr x.apart (PySem.mem_of_lookup h1) (PySem.mem_of_lookup h2)
  · have hy : scope.names.lookup y = some .cell \/ scope.names.lookup y = some .free := hy
    rcases hy with hy | hy
    · exact cell_has hy
    · exact absurd rfl (S.nofree _ (PySem.mem_of_lookup hy))
  · exact Nat.le_of_lt (x.above y c (PySem.mem_of_lookup h))
  · have hi : i < vs.length := by
      unfold start at h2
      by_cases hi : i < vs.length
      · exact hi
      · rw [List.getElem?_append_right (by simpa using hi)] at h2
        rw [List.getElem?_replicate] at h2
        split at h2 <;> cases h2
    have ha : vs[i]? = some v := by
      unfold start at h2
      rw [List.getElem?_append_left (by simpa using hi), List.getElem?_map] at h2
      cases e : vs[i]? with
      | none => rw [e] at h2; cases h2
      | some a => rw [e] at h2; cases h2; rfl
    obtain ⟨u, hu, rv⟩ := r.get ha
    have hp : ps[i]? = some y := by
      rw [← S.pre, List.getElem?_take_of_lt (by lia)]; exact h1
    have ndP : ps.Nodup := by rw [← S.pre]; exact S.nd.sublist (List.take_sublist _ _)
    refine ⟨u, rv, ?_⟩
    rcases S.par y (List.mem_of_getElem? hp) with k | k
    · exact .inl ⟨k, bindL_get ndP hp hu k⟩
    · obtain ⟨c, e⟩ := cell_has (n := s.heap.objs.size + 1) k
      refine .inr ⟨.inl k, c, e, ?_⟩
      have q := x.cell y c e
      rw [bindC_get ndP hp hu (by show scope.names.lookup y ≠ _; rw [k]; decide)] at q
      exact q
  · exact e0.hok.fresh (Nat.le_of_lt (x.above y c (PySem.mem_of_lookup h)))
  · unfold start
    show _ = N.length
    rw [List.length_append, List.length_map, List.length_replicate]
    lia
theorem fn_of {CX : CXT} {P : Program} {w : World} {K : PySem.W.Frag} {mg : Str -> Option Value} {base : Heap} {k : Nat} {f : Addr} {name qual : Str} {params : Arguments} {body : List Stmt} {scope : Scope} {dV kV doc pm cdv ct oc : Value} {an od : Option Addr}
    {osl : Array (Option Value)} {N ps : List Str} {sp : Sp} (lk : K.lookup f = some ⟨oc, od, .func (PySem.W.fnOf name qual params body scope dV kV doc pm an cdv ct), osl⟩) (hcd : PySem.W.codeIn K cdv qual = true) (S : FnScope N ps scope)
    (len : ∀ vs H Q E, sp vs H Q E -> vs.length = ps.length)
    (hbody : ∀ (A : Around) (outer : List Env) (s : Shared) (H : Hp) (vs : List V) (Q : VK) (E : XK), Room k (A.deeper (envOfC qual scope s.heap.objs.size f cdv)) -> sp vs H Q E ->
      ∃ t, PSs (cxOf CX P w K mg base N qual scope f cdv A outer s H E) body t /\ t { nx := fun _ H' => Q .non H', rt := Q } (start N vs) H) :
    FnOk P w K mg base CX (k + 1) f (PySem.W.fnOf name qual params body scope dV kV doc pm an cdv ct) ps sp := by
  refine ⟨len, fun A outer s H args us vs Q E hr e0 hb r hsp => ?_⟩
  have hl := len _ _ _ _ hsp
  have KX : K.In s.heap := e0.mod.kin.keeps fun b o e => (e0.bs b o e).1
  have lim : s.heap.NoLimit := e0.mod.nolimit.keeps fun b o e => (e0.bs b o e).1
  have hkind : ∀ y ∈ ps.zip us, scope.names.lookup y.1 = some .local \/ (scope.names.lookup y.1 = some .cell /\ ((cellsFrom (s.heap.objs.size + 1) scope.names []).lookup y.1).isSome = true) := fun ⟨n, v⟩ hy => by
    rcases S.par n (List.of_mem_zip hy).1 with q | q
    · exact .inl q
    · exact .inr ⟨q, PySem.W.cellsFrom_some _ _ _ (.inl q)⟩
  refine codeAny_call_function hr.depth (KX _ _ lk) rfl S.co S.gen rfl (PySem.W.codeRec_of KX hcd) (hb _ _ _ _ ?_)
  refine wpAny_newFunctionEnv_cells S.kind hkind fun env he s1 x => ?_
  subst he
  refine ⟨lim.keeps x.toInCall.keep, codeAny_func ?_⟩
  obtain ⟨t, ht, hq⟩ := hbody A outer s H vs Q E (hr.deeper _) hsp
  have I : Inv (cxOf CX P w K mg base N qual scope f cdv A outer s H E) [] (start N vs) H s1 := inv_start S hr.hd e0 hl r x
  refine wpAny_mono (ht [] s1 (start N vs) H _ I hq) (fun fl s' hs => ?_) fun e s' hs => hs
  have fin : ∀ {σ' : St} {H' : Hp} {v : V} {u : Value}, Inv (cxOf CX P w K mg base N qual scope f cdv A outer s H E) [] σ' H' s' -> RelV v u -> Q v H' -> CE outer P w H s Q u s' :=
    fun {σ' H' v u} J rv q => ⟨v, H', J.os, J.bare, J.base, J.hok, rv, q⟩
  cases fl with
  | ret u =>
    obtain ⟨v, σ', H', J, rv, q⟩ := hs
    exact fin J rv q
  | next =>
    obtain ⟨σ', H', J, q⟩ := hs
    exact fin (v := V.non) (u := Value.none) J rfl q
  | brk =>
    obtain ⟨_, _, _, q⟩ := hs
    exact False.elim q
  | cont =>
    obtain ⟨_, _, _, q⟩ := hs
    exact False.elim q
end L2
namespace L2
open PySem PySem.Spec PyProof.Rows
section
variable {X : Cx} {x : Str} {p pos : Pos} {e : Expr} {es : List Expr} {t : TA} {id T : String} {r : List V -> Hp -> VK -> Prop}
def tCB (r : List V -> Hp -> VK -> Prop) (t : TA) : TE := fun σ H Q => t σ H fun vs H1 => r vs H1 Q
theorem pe_callB (hc : Zq167 X (.builtin id) r) (hg : Gl X x) (hm : X.mg x = none) (hv : bootBuiltins x = some (.builtin id)) (ha : PA X (e :: es) t) (hn : x ≠ "__name__" := by decide) (hdb : (x == ("__debug__" : Str)) = false := by decide)
    (he : starEach (e :: es) X.env = (false, eval e X.env) :: starEach es X.env := by rfl) (hpl : (backTo pos (starEach es X.env)).any (·.1) = false := by rfl) : PE X (.Call (.Name x p) (e :: es) [] pos) (tCB r t) := by
  intro pins s σ H Q I h
  refine wpAny_Call_Name_kw (ld_blt I hg hm hv ?_ hn hdb)
  exact PyProof.Rows.callWith_builtin1 (thn (ha pos pins s σ H _ I h) fun us s1 ⟨vs, H1, I1, r1, q1⟩ => hc pins s1 σ H1 vs us Q I1 r1 q1) he hpl
theorem pe_callTy (hc : Zq167 X (.type T) r) (hg : Gl X x) (hm : X.mg x = none) (hv : bootBuiltins x = some (.type T)) (ha : PA X (e :: es) t) (hn : x ≠ "__name__" := by decide) (hdb : (x == ("__debug__" : Str)) = false := by decide)
    (he : starEach (e :: es) X.env = (false, eval e X.env) :: starEach es X.env := by rfl) (hpl : (backTo pos (starEach es X.env)).any (·.1) = false := by rfl) : PE X (.Call (.Name x p) (e :: es) [] pos) (tCB r t) := by
  intro pins s σ H Q I h
  refine wpAny_Call_Name_kw (ld_blt I hg hm hv ?_ hn hdb)
  exact PyProof.Rows.callWith_type1 (thn (ha pos pins s σ H _ I h) fun us s1 ⟨vs, H1, I1, r1, q1⟩ => hc pins s1 σ H1 vs us Q I1 r1 q1) he hpl
end
end L2
namespace HT
open PySem PyProof.Rows
section
open PySem.SeqAt
open PySem.AutoSeq1 (wpAny_loadPart')
open PySem.MeetsSeq PySem.MeetsSeq2 PySem.MeetsSeq3
end
section
variable {prog : Program} {w : World} {A : Around} {E : Value -> Shared -> Prop} {s : Shared}
def sIx (n d : Nat) : Option Int -> Nat
  | none => d
  | some v => if v < 0 then (v + (n : Int)).toNat else min v.toNat n
end
end HT
namespace L2
open PySem PySem.Spec PyProof.Rows
abbrev TO := St -> Hp -> (Option Int -> Hp -> Prop) -> Prop
def PO (X : Cx) (e : Option Expr) (t : TO) : Prop :=
  ∀ (pins : List (Addr × Obj)) (s : Shared) (σ : St) (H : Hp) (Q : Option Int -> Hp -> Prop), Inv X pins σ H s -> t σ H Q ->
    wpAny (model X.prog X.w) X.A (evalPart e X.env) (fun u s' => ∃ o H', Inv X pins σ H' s' /\ IsPart u o /\ Q o H') X.xe s
def tNoPart : TO := fun _ H Q => Q none H
def tPart (t : TE) : TO := fun σ H Q => t σ H fun x H1 => ∃ i, x = .int i /\ Q (some i) H1
section
variable {X : Cx} {e : Expr} {te : TE} {lo hi : Option Expr} {tl th : TO} {pos p2 : Pos}
theorem po_none : PO X none tNoPart := by
  intro pins s σ H Q I h
  rw [evalPart_none]
  exact wpAny_pure ⟨none, H, I, .none, h⟩
theorem po_some (h : PE X e te) : PO X (some e) (tPart te) := by
  intro pins s σ H Q I hw
  rw [evalPart_some]
  refine thn (h pins s σ H _ I hw) fun u s1 ⟨x, H1, I1, r1, q1⟩ => ?_
  obtain ⟨i, rfl, q⟩ := q1
  obtain ⟨t, rfl⟩ := r1
  exact ⟨some i, H1, I1, .int i t, q⟩
def SlR (X : Cx) (r : V -> Option Int -> Option Int -> Hp -> VK -> Prop) : Prop :=
  ∀ (pins : List (Addr × Obj)) (s : Shared) (σ : St) (H : Hp) (x : V) (v vl vu : Value) (lo hi : Option Int) (sl : Addr) (Q : VK), Inv X pins σ H s -> RelV x v -> s.heap.IsSliceOf sl vl vu .none -> IsPart vl lo -> IsPart vu hi -> r x lo hi H Q ->
    ∃ T id, typeLookup (.type T) "__getitem__" = pure (some (.builtin id)) /\ s.TypeIs v T /\ wpAny (model X.prog X.w) X.A (getItem v (.ref sl)) (EP X pins σ Q) X.xe s
def tSl (r : V -> Option Int -> Option Int -> Hp -> VK -> Prop) (te : TE) (tl th : TO) : TE := fun σ H Q => te σ H fun x H1 => tl σ H1 fun l H2 => th σ H2 fun u H3 => r x l u H3 Q
theorem pe_slice {r : V -> Option Int -> Option Int -> Hp -> VK -> Prop} (hr : SlR X r) (he : PE X e te) (hl : PO X lo tl) (hu : PO X hi th) : PE X (.Subscript e (.Slice lo hi none p2) pos) (tSl r te tl th) := by
  intro pins s σ H Q I h
  refine Subscript_ (thn (he pins s σ H _ I h) fun v s1 ⟨x, H1, I1, r1, q1⟩ => ?_)
  refine wpAny_Slice (thn (hl pins s1 σ H1 _ I1 q1) fun vl s2 ⟨l, H2, I2, pl, q2⟩ => thn (hu pins s2 σ H2 _ I2 q2) fun vu s3 ⟨u, H3, I3, pu, q3⟩ => ?_)
  rw [evalPart_none]
  refine wpAny_pure ?_
  have I4 : Inv X pins σ H3 { s3 with heap := s3.heap.push { cls := .type "slice", data := .fields #[vl, vu, .none] } } := I3.kept (t' := s3.toks) fun b ob q => Heap.get?_push_of_some _ q
  obtain ⟨T, id, hT, ht, hg⟩ := hr pins { s3 with heap := s3.heap.push { cls := .type "slice", data := .fields #[vl, vu, .none] } } σ H3 x v vl vu l u s3.heap.objs.size Q I4 r1 (Heap.IsSliceOf.new ..) pl pu q3
  show wpAny (model X.prog X.w) X.A (subscriptTail e (.Slice lo hi none p2) v (.ref s3.heap.objs.size)) (EP X pins σ Q) X.xe { s3 with heap := s3.heap.push { cls := .type "slice", data := .fields #[vl, vu, .none] } }
  exact tail_any (ops := [.ref s3.heap.objs.size, v]) ht hT hg (by with_unfolding_all rfl)
def cutV (xs : List V) (lo hi : Option Int) : List V := (xs.drop (HT.sIx xs.length 0 lo)).take (HT.sIx xs.length xs.length hi - HT.sIx xs.length 0 lo)
theorem cutV_length (xs : List V) (lo hi : Option Int) : (cutV xs lo hi).length <= xs.length := by
  unfold cutV
  rw [List.length_take, List.length_drop]
  lia
end
end L2
namespace L2
open PySem PySem.Spec PyProof.Rows
def ixN (n : Nat) (i : Int) : Option Nat := if 0 <= i then (if i < n then some i.toNat else none) else if -(n : Int) <= i then some (i + n).toNat else none
def atI {α : Type} (xs : List α) (i : Int) : Option α := (ixN xs.length i).bind fun j => xs[j]?
theorem ixN_seq {n : Nat} {i : Int} {j : Nat} (h : ixN n i = some j) : seqIndex? i n = some j /\ j < n /\ -(n : Int) <= i /\ i < n := by
  unfold ixN at h
  by_cases h0 : 0 <= i
  · rw [if_pos h0] at h
    by_cases h1 : i < n
    · rw [if_pos h1] at h
      have e : i.toNat = j := Option.some.inj h
      exact ⟨by rw [seqIndex_of h0 h1, e], by lia, by lia, h1⟩
    · rw [if_neg h1] at h; cases h
  · rw [if_neg h0] at h
    by_cases h1 : -(n : Int) <= i
    · rw [if_pos h1] at h
      have e : (i + n).toNat = j := Option.some.inj h
      exact ⟨by rw [seqIndex_neg (by lia) h1, e], by lia, h1, by lia⟩
    · rw [if_neg h1] at h; cases h
theorem atI_get {α : Type} {xs : List α} {i : Int} {v : α} (h : atI xs i = some v) : ∃ j, seqIndex? i xs.length = some j /\ xs[j]? = some v /\ j < xs.length /\ -(xs.length : Int) <= i /\ i < xs.length := by
  unfold atI at h
  cases e : ixN xs.length i with
  | none => rw [e] at h; cases h
  | some j =>
    rw [e] at h
    obtain ⟨h1, h2, h3, h4⟩ := ixN_seq e
    exact ⟨j, h1, h, h2, h3, h4⟩
theorem atI_nat {α : Type} {xs : List α} {j : Nat} {v : α} (h : xs[j]? = some v) : atI xs (j : Int) = some v := by
  have hj : j < xs.length := (List.getElem?_eq_some_iff.mp h).1
  have e : ixN xs.length (j : Int) = some j := by
    unfold ixN
    rw [if_pos (by lia), if_pos (by lia)]; simp
  unfold atI; rw [e]; exact h
def PlainIx (b : Expr) : Prop := ∀ o i, subscripted b false o i = operate [o, i] (getItem o i)
def IxR (X : Cx) (r : R2) : Prop :=
  ∀ (value slice : Expr) (pins : List (Addr × Obj)) (s : Shared) (σ : St) (H : Hp) (x y : V) (v u : Value) (Q : VK), Inv X pins σ H s -> RelV x v -> RelV y u -> r x y H Q ->
    subscripted slice false v u = operate [v, u] (getItem v u) -> wpAny (model X.prog X.w) X.A (subscriptTail value slice v u) (EP X pins σ Q) X.xe s
def MtR (X : Cx) (id : String) (r : V -> List V -> Hp -> VK -> Prop) : Prop :=
  ∀ (pins : List (Addr × Obj)) (s : Shared) (σ : St) (H : Hp) (x : V) (xs : List V) (v : Value) (us : List Value) (Q : VK), Inv X pins σ H s -> RelV x v -> Vals xs us -> r x xs H Q ->
    wpAny (model X.prog X.w) X.A (call (.builtin id) (v :: us)) (EP X pins σ Q) X.xe s
section
variable {X : Cx} {a b : Expr} {ta tb : TE} {pos : Pos}
theorem pe_ix {r : R2} (hr : IxR X r) (ha : PE X a ta) (hb : PE X b tb) (hs : PlainIx b) : PE X (.Subscript a b pos) (tOp r ta tb) := by
  intro pins s σ H Q I h
  exact Subscript_ (binT ha hb I h fun v u s2 x y H2 I2 rx ry q => hr a b pins s2 σ H2 x y v u Q I2 rx ry q (hs _ _))
def rIxL (K : PySem.W.Frag) : R2 := fun x y H Q => ∃ p xs i v, x = .ref p /\ y = .int i /\ SqL K H p xs /\ atI xs i = some v /\ Q v H
def rIxT (K : PySem.W.Frag) : R2 := fun x y H Q => ∃ p xs i v, x = .ref p /\ y = .int i /\ SqT K H p xs /\ atI xs i = some v /\ Q v H
def rIxS : R2 := fun x y H Q => ∃ z i c, x = .str z /\ y = .int i /\ z.length <= sizeLine /\ atI z.cps.toList i = some c /\ Q (.str ⟨#[c]⟩) H
theorem ix_list : IxR X (rIxL X.K) := by
  intro value slice pins s σ H x y v u Q I rx ry h hs
  obtain ⟨p, xs, i, z, rfl, rfl, hq, he, q⟩ := h
  cases rx
  obtain ⟨t, rfl⟩ := ry
  obtain ⟨its, r, pl, hz⟩ := I.list hq
  obtain ⟨j, h1, h2, h3, h4, h5⟩ := atI_get he
  obtain ⟨w, ew, rw'⟩ := r.get h2
  have hl := r.length
  have hn := line63
  have fin : EP X pins σ Q w s := ⟨z, H, I, rw', q⟩
  by_cases h0 : 0 <= i
  · have hj : i.toNat = j := by
      rw [seqIndex_of h0 h5] at h1
      exact Option.some.inj h1
    exact item_listR pl.isList h0 (by lia) (by rw [hj]; simpa using ew) fin hs
  · have hj : (i + (its.toArray.size : Int)).toNat = j := by
      rw [seqIndex_neg (by lia) h4] at h1
      rw [List.size_toArray, ← hl]
      exact Option.some.inj h1
    exact subscriptTail_builtinR (x := w) pl.isList.typeIs slot_list_getitem.lookup
      (wpAny_getItem_list_neg (Q := fun r s' => r = w /\ EP X pins σ Q r s') pl.isList (by lia) (by rw [List.size_toArray] <;> lia) (by lia) (by rw [hj]; simpa using ew) ⟨rfl, fin⟩) hs
theorem ix_tup : IxR X (rIxT X.K) := by
  intro value slice pins s σ H x y v u Q I rx ry h hs
  obtain ⟨p, xs, i, z, rfl, rfl, hq, he, q⟩ := h
  cases rx
  obtain ⟨t, rfl⟩ := ry
  obtain ⟨its, r, pl, hz⟩ := I.tuple hq
  obtain ⟨j, h1, h2, h3, h4, h5⟩ := atI_get he
  obtain ⟨w, ew, rw'⟩ := r.get h2
  have hl := r.length
  have hn := line63
  have fin : EP X pins σ Q w s := ⟨z, H, I, rw', q⟩
  exact subscriptTail_builtinR (x := w) pl.typeIs slot_tuple_getitem.lookup
    (getItem_tuple (j := j) (Q := fun r s' => r = w /\ EP X pins σ Q r s') pl (by lia) (by lia) (by rw [List.size_toArray, ← hl]; exact h1) (by simpa using ew) ⟨rfl, fin⟩) hs
theorem ix_str : IxR X rIxS := by
  intro value slice pins s σ H x y v u Q I rx ry h hs
  obtain ⟨z, i, c, rfl, rfl, hz, he, q⟩ := h
  obtain ⟨t, rfl⟩ := rx
  obtain ⟨t', rfl⟩ := ry
  obtain ⟨j, h1, h2, h3, h4, h5⟩ := atI_get he
  have hl : z.cps.toList.length = z.length := by simp [Str.length]
  rw [hl] at h1 h4 h5
  have hn := line63
  exact tail_any (typeIs_str s z t) slot_str_getitem.lookup (getItem_str (c := c) (by
    have e1 : decide (i < -(2 ^ 63 : Int)) = false := decide_eq_false (by lia)
    have e2 : decide (i >= 2 ^ 63) = false := decide_eq_false (by lia)
    rw [e1, e2, Bool.or_false]) (by rw [h1]; simpa using h2) ⟨.str ⟨#[c]⟩, H, I.tok _, ⟨_, rfl⟩, q⟩) hs
theorem mapSeq_set (its : List Value) (n j : Nat) (u : Value) : Obj.mapSeq (·.setIfInBounds j u) { cls := .type "list", data := .seq its.toArray n } = { cls := .type "list", data := .seq (its.set j u).toArray n } := by
  simp [Obj.mapSeq]
theorem Inv.lst {pins : List (Addr × Obj)} {σ : St} {H : Hp} {s : Shared} {p : Addr} {xs : List V} (I : Inv X pins σ H s) (h : H p = some (.lst xs)) :
    ∃ (its : List Value) (n : Nat), Vals xs its /\ s.heap.get? p = some { cls := .type "list", data := .seq its.toArray n } /\ xs.length <= sizeLine := by
  obtain ⟨z, its, n, r, e⟩ := I.hok p _ h
  exact ⟨its, n, r, e, z⟩
theorem Inv.lstUpd {pins : List (Addr × Obj)} {σ : St} {H : Hp} {s : Shared} {p : Addr} {xs ys : List V} {its its' : List Value} {n n' : Nat} {f : Obj -> Obj} (I : Inv X pins σ H s) (h : H p = some (.lst xs))
    (ho : s.heap.get? p = some { cls := .type "list", data := .seq its.toArray n }) (hf : f { cls := .type "list", data := .seq its.toArray n } = { cls := .type "list", data := .seq its'.toArray n' }) (r : Vals ys its') (hz : ys.length <= sizeLine) (t : Nat) :
    Inv X pins σ (upd H p (.lst ys)) { s with heap := s.heap.update p f, toks := t } := by
  have e : (s.heap.update p f).get? p = some { cls := .type "list", data := .seq its'.toArray n' } := by
    rw [Heap.get?_update_self f ho (by rw [hf] <;> rfl), hf]
  refine I.write (x := p) (e := p) (by rw [h]; trivial) (.inl rfl) (fun b u hb q => (Heap.get?_update_other _ _ (Ne.symm hb)).trans q) ⟨_, e⟩ ?_
  exact ⟨hz, its', n', r, e⟩
def rSetL : V -> V -> V -> Hp -> (Hp -> Prop) -> Prop := fun o i v H Q => ∃ p xs k j, o = .ref p /\ i = .int k /\ H p = some (.lst xs) /\ ixN xs.length k = some j /\ Q (upd H p (.lst (xs.set j v)))
theorem set_list : PSet X rSetL := by
  intro pins s σ H o i v ov iv u Q I ro ri rv h
  obtain ⟨p, xs, k, j, rfl, rfl, hp, hj, q⟩ := h
  cases ro
  obtain ⟨t, rfl⟩ := ri
  obtain ⟨its, n, r, ho, hz⟩ := I.lst hp
  obtain ⟨h1, h2, h3, h4⟩ := ixN_seq hj
  have hl := r.length
  have hn := line63
  have I' : Inv X pins σ (upd H p (.lst (xs.set j v))) { s with heap := s.heap.update p (Obj.mapSeq (·.setIfInBounds j u)) } :=
    I.lstUpd hp ho (mapSeq_set its n j u) (r.set rv j) (by rw [List.length_set]; exact hz) s.toks
  by_cases h0 : 0 <= k
  · have hk : k.toNat = j := by
      rw [seqIndex_of h0 h4] at h1
      exact Option.some.inj h1
    exact PySem.W.ki_setAt ho h0 (by lia) (by rw [List.size_toArray, ← hl]; exact h4) (by rw [hk]; exact ⟨_, I', q⟩)
  · have hk : (k + (its.toArray.size : Int)).toNat = j := by
      rw [seqIndex_neg (by lia) h3] at h1
      rw [List.size_toArray, ← hl]
      exact Option.some.inj h1
    exact PySem.W.ki_setBack ho (by lia) (by rw [List.size_toArray, ← hl]; exact h3) (by lia) (by rw [hk]; exact ⟨_, I', q⟩)
theorem slice_bounds (lo hi : Option Int) (n : Nat) : (sliceBounds lo hi none n).1 = ((HT.sIx n 0 lo : Nat) : Int) /\ (sliceBounds lo hi none n).2.1 = ((HT.sIx n n hi : Nat) : Int) /\ (sliceBounds lo hi none n).2.2 = 1 := by
  refine ⟨?_, ?_, rfl⟩
  · cases lo with
    | none => simp [sliceBounds, HT.sIx]
    | some i =>
      simp only [sliceBounds, HT.sIx, Option.getD_none, show (1 : Int) > 0 by decide, if_true]
      by_cases h : i < 0
      · simp only [h, if_true] <;> lia
      · simp only [h, if_false] <;> lia
  · cases hi with
    | none => simp [sliceBounds, HT.sIx]
    | some i =>
      simp only [sliceBounds, HT.sIx, Option.getD_none, show (1 : Int) > 0 by decide, if_true]
      by_cases h : i < 0
      · simp only [h, if_true] <;> lia
      · simp only [h, if_false] <;> lia
theorem slicePick_cut (its : List Value) (lo hi : Option Int) : slicePick its.toArray lo hi none = ((its.drop (HT.sIx its.length 0 lo)).take (HT.sIx its.length its.length hi - HT.sIx its.length 0 lo)).toArray := by
  obtain ⟨h1, h2, h3⟩ := slice_bounds lo hi its.toArray.size
  unfold slicePick
  rw [h1, h2, h3]
  simp only [sliceRange_one, pick_run, List.size_toArray] <;> rfl
def rSlL (K : PySem.W.Frag) : V -> Option Int -> Option Int -> Hp -> VK -> Prop := fun x lo hi H Q => ∃ a xs, x = .ref a /\ SqL K H a xs /\ ∀ p, H p = none -> Q (.ref p) (upd H p (.lst (cutV xs lo hi)))
theorem sl_list : SlR X (rSlL X.K) := by
  intro pins s σ H x v vl vu lo hi sl Q I rx hs pl pu h
  obtain ⟨a, xs, rfl, hx, q⟩ := h
  cases rx
  obtain ⟨its, r, ht, hz⟩ := I.list hx
  have hlen := r.length
  refine ⟨"list", _, slot_list_getitem.lookup, ht.isList.typeIs, ?_⟩
  refine wpAny_getItem_list_slice ht.isList hs pl pu .none (by simp) ?_ (by rw [List.size_toArray] <;> lia)
  rw [slicePick_cut, ← hlen]
  refine ⟨.ref s.heap.objs.size, _, I.laid (t' := s.toks) (o := .lst (cutV xs lo hi)) (fun b ob q => Heap.get?_push_of_some _ q) (Nat.le_refl _) ?_, rfl, q _ (I.hok.fresh (Nat.le_refl _))⟩
  exact ⟨Nat.le_trans (cutV_length xs lo hi) hz, _, 0, (r.drop (HT.sIx xs.length 0 lo)).take (HT.sIx xs.length xs.length hi - HT.sIx xs.length 0 lo), Heap.get?_push_size _ rfl⟩
def Zq224 : V -> Bool
  | .non => true
  | .bl _ => true
  | .int _ => true
  | .str _ => true
  | _ => false
def eqV : V -> V -> Bool
  | .non, .non => true
  | .bl a, .bl b => a == b
  | .bl a, .int b => (if a then 1 else 0) == b
  | .int a, .bl b => a == (if b then 1 else 0)
  | .int a, .int b => a == b
  | .str a, .str b => a == b
  | _, _ => false
theorem eqAt_V {A : Around} {s : Shared} {y x : V} {u v : Value} (ry : RelV y u) (rx : RelV x v) (fy : Zq224 y = true) (fx : Zq224 x = true) : SeqAt.EqAt A s u v (eqV y x) := by
  cases y with
  | non =>
    cases ry
    cases x with
    | non => cases rx; exact SeqAt.EqAt.same _
    | bl b => cases rx; exact SeqAt.EqAt.none_bool b
    | int b => obtain ⟨t, rfl⟩ := rx; exact SeqAt.EqAt.none_int b t
    | str b => obtain ⟨t, rfl⟩ := rx; exact SeqAt.EqAt.none_str b t
    | _ => exact absurd (show false = true from fx) Bool.false_ne_true
  | bl a =>
    cases ry
    cases x with
    | non => cases rx; exact SeqAt.EqAt.bool_none a
    | bl b => cases rx; exact SeqAt.EqAt.bool_bool a b
    | int b => obtain ⟨t, rfl⟩ := rx; exact SeqAt.EqAt.bool_int a b t
    | str b => obtain ⟨t, rfl⟩ := rx; exact SeqAt.EqAt.bool_str a b t
    | _ => exact absurd (show false = true from fx) Bool.false_ne_true
  | int a =>
    obtain ⟨t', rfl⟩ := ry
    cases x with
    | non => cases rx; exact SeqAt.EqAt.int_none a t'
    | bl b => cases rx; exact SeqAt.EqAt.int_bool a t' b
    | int b => obtain ⟨t, rfl⟩ := rx; exact SeqAt.EqAt.int_int a t' b t
    | str b => obtain ⟨t, rfl⟩ := rx; exact SeqAt.EqAt.int_str a t' b t
    | _ => exact absurd (show false = true from fx) Bool.false_ne_true
  | str a =>
    obtain ⟨t', rfl⟩ := ry
    cases x with
    | non => cases rx; exact SeqAt.EqAt.str_none a t'
    | bl b => cases rx; exact SeqAt.EqAt.str_bool a t' b
    | int b => obtain ⟨t, rfl⟩ := rx; exact SeqAt.EqAt.str_int a t' b t
    | str b => obtain ⟨t, rfl⟩ := rx; exact SeqAt.EqAt.str_str a t' b t
    | _ => exact absurd (show false = true from fx) Bool.false_ne_true
  | _ => exact absurd (show false = true from fy) Bool.false_ne_true
def eqU (x : V) (u : Value) : Bool := match u with
  | .none => eqV .non x
  | .bool b => eqV (.bl b) x
  | .int i _ => eqV (.int i) x
  | .str z _ => eqV (.str z) x
  | _ => false
theorem eqU_of {x y : V} {u : Value} (r : RelV y u) (f : Zq224 y = true) : eqU x u = eqV y x := by
  cases y with
  | non => cases r; rfl
  | bl b => cases r; rfl
  | int i => obtain ⟨t, rfl⟩ := r; rfl
  | str z => obtain ⟨t, rfl⟩ := r; rfl
  | _ => exact absurd (show false = true from f) Bool.false_ne_true
theorem any_eqU {x : V} : ∀ {xs : List V} {us : List Value}, Vals xs us -> xs.all Zq224 = true -> us.any (eqU x) = xs.any fun y => eqV y x
  | _, _, .nil, _ => rfl
  | y :: xs, u :: us, .cons r t, f => by
    rw [List.all_cons, Bool.and_eq_true] at f
    rw [List.any_cons, List.any_cons, eqU_of r f.1, any_eqU t f.2]
theorem mem_eqAt {A : Around} {s : Shared} {x : V} {v : Value} (rx : RelV x v) (fx : Zq224 x = true) : ∀ {xs : List V} {us : List Value}, Vals xs us -> xs.all Zq224 = true -> ∀ u ∈ us, SeqAt.EqAt A s u v (eqU x u)
  | _, _, .nil, _ => fun u hu => by cases hu
  | y :: xs, u :: us, .cons r t, f => fun u' hu => by
    rw [List.all_cons, Bool.and_eq_true] at f
    rcases List.mem_cons.mp hu with rfl | hu
    · rw [eqU_of r f.1]; exact eqAt_V r rx f.1 fx
    · exact mem_eqAt rx fx t f.2 u' hu
def inV (x : V) (xs : List V) : Bool := xs.any fun y => eqV y x
def rIn (K : PySem.W.Frag) (neg : Bool) : R2 := fun x y H Q => ∃ p xs, y = .ref p /\ (SqL K H p xs \/ SqT K H p xs) /\ Zq224 x = true /\ xs.all Zq224 = true /\ Q (.bl (if neg then !inV x xs else inV x xs)) H
theorem op_in_seq : OpR X (compareOp .In) (rIn X.K false) := by
  intro pins s σ H x y v u Q I rx ry h
  obtain ⟨p, xs, rfl, hq, fx, fs, q⟩ := h
  cases ry
  rcases hq with hq | hq
  · obtain ⟨its, r, pl, hz⟩ := I.list hq
    refine SeqAt.in_listAt (eqU x) pl.isList (fun w hw => mem_eqAt rx fx r fs w (by simpa using hw)) ⟨.bl _, H, I, rfl, ?_⟩
    rw [show its.toArray.any (eqU x) = its.any (eqU x) by simp, any_eqU r fs]
    exact q
  · obtain ⟨its, r, pl, hz⟩ := I.tuple hq
    refine SeqAt.in_tupleAt (eqU x) pl (fun w hw => mem_eqAt rx fx r fs w (by simpa using hw)) ⟨.bl _, H, I, rfl, ?_⟩
    rw [show its.toArray.any (eqU x) = its.any (eqU x) by simp, any_eqU r fs]
    exact q
theorem op_notIn_seq : OpR X (compareOp .NotIn) (rIn X.K true) := by
  intro pins s σ H x y v u Q I rx ry h
  obtain ⟨p, xs, rfl, hq, fx, fs, q⟩ := h
  cases ry
  rcases hq with hq | hq
  · obtain ⟨its, r, pl, hz⟩ := I.list hq
    refine SeqAt.notIn_listAt (eqU x) pl.isList (fun w hw => mem_eqAt rx fx r fs w (by simpa using hw)) ⟨.bl _, H, I, rfl, ?_⟩
    rw [show its.toArray.any (eqU x) = its.any (eqU x) by simp, any_eqU r fs]
    exact q
  · obtain ⟨its, r, pl, hz⟩ := I.tuple hq
    refine SeqAt.notIn_tupleAt (eqU x) pl (fun w hw => mem_eqAt rx fx r fs w (by simpa using hw)) ⟨.bl _, H, I, rfl, ?_⟩
    rw [show its.toArray.any (eqU x) = its.any (eqU x) by simp, any_eqU r fs]
    exact q
theorem call_len_seq : Zq167 X (.builtin "len") (fun xs H Q => ∃ p ys, xs = [.ref p] /\ (SqL X.K H p ys \/ SqT X.K H p ys) /\ Q (.int ys.length) H) := by
  intro pins s σ H xs us Q I r h
  obtain ⟨p, ys, rfl, hq, q⟩ := h
  obtain ⟨u, rfl, rx⟩ := Zq236 r
  cases rx
  have hn := line63
  rcases hq with hq | hq
  · obtain ⟨its, r', pl, hz⟩ := I.list hq
    have hlen := r'.length
    exact Calls.call_len_list pl.isList (by simp only [List.size_toArray] <;> lia) ⟨.int ys.length, H, I.tok _, ⟨s.toks + 1, by rw [List.size_toArray, hlen]⟩, q⟩
  · obtain ⟨its, r', pl, hz⟩ := I.tuple hq
    have hlen := r'.length
    exact len_tuple pl (by simp only [List.size_toArray] <;> lia) ⟨.int ys.length, H, I.tok _, ⟨s.toks + 1, by rw [List.size_toArray, hlen]⟩, q⟩
theorem call_len_str : Zq167 X (.builtin "len") (fun xs H Q => ∃ z, xs = [.str z] /\ z.length <= sizeLine /\ Q (.int z.length) H) := by
  intro pins s σ H xs us Q I r h
  obtain ⟨z, rfl, hz, q⟩ := h
  obtain ⟨u, rfl, t, rfl⟩ := Zq236 r
  have hn := line63
  exact len_str (by lia) ⟨.int z.length, H, I.tok _, ⟨_, rfl⟩, q⟩
theorem call_list_of : Zq167 X (.type "list") (fun xs H Q => ∃ p ys, xs = [.ref p] /\ (SqL X.K H p ys \/ SqT X.K H p ys) /\ ∀ l, H l = none -> Q (.ref l) (upd H l (.lst ys))) := by
  intro pins s σ H xs us Q I r h
  obtain ⟨p, ys, rfl, hq, q⟩ := h
  obtain ⟨u, rfl, rx⟩ := Zq236 r
  cases rx
  have fin : ∀ (its : List Value), Vals ys its -> ys.length <= sizeLine -> ∀ (h' : Heap) (c' : Nat), (∀ b o', s.heap.get? b = some o' -> h'.get? b = some o') ->
      h'.get? s.heap.objs.size = some { cls := .type "list", dict := none, data := .seq its.toArray c', slots := #[] } -> EP X pins σ Q (.ref s.heap.objs.size) { s with heap := h' } := fun its r' hz h' c' kp e =>
    ⟨.ref s.heap.objs.size, _, I.laid (t' := s.toks) kp (Nat.le_refl _) (show ObjOk X.prog X.w _ h' _ (.lst ys) from ⟨hz, its, c', r', e⟩), rfl, q _ (I.hok.fresh (Nat.le_refl _))⟩
  rcases hq with hq | hq
  · obtain ⟨its, r', pl, hz⟩ := I.list hq
    have hlen := r'.length
    obtain ⟨o, ho, hc, n, hd⟩ := pl.isList
    exact call_list_seq p (.inl rfl) ho hc hd (fun h' c' kp e => fin its r' hz h' c' kp e) (by simp only [List.size_toArray] <;> lia)
  · obtain ⟨its, r', pl, hz⟩ := I.tuple hq
    have hlen := r'.length
    obtain ⟨o, ho, hc, n, hd⟩ := pl
    exact call_list_seq p (.inr rfl) ho hc hd (fun h' c' kp e => fin its r' hz h' c' kp e) (by simp only [List.size_toArray] <;> lia)
def tyV (K : PySem.W.Frag) (T : String) (x : V) (H : Hp) : Prop := match x with
  | .str _ => T = "str"
  | .int _ => T = "int"
  | .ref p => (T = "list" /\ ∃ xs, SqL K H p xs) \/ (T = "tuple" /\ ∃ o, K.lookup p = some o /\ o.cls = .type "tuple" /\ o.dict = none) \/
      (T = "dict" /\ ((∃ kvs, H p = some (.dK kvs)) \/ ∃ kvs, H p = some (.dT kvs))) \/ (T = "set" /\ ∃ S n, H p = some (.set S n))
  | _ => False
theorem tyV_is {pins : List (Addr × Obj)} {σ : St} {H : Hp} {s : Shared} {T : String} {x : V} {v : Value} (I : Inv X pins σ H s) (r : RelV x v) (ty : tyV X.K T x H) :
    s.TypeIs v T /\ ∀ a, v = .ref a -> ∃ ob, s.heap.get? a = some ob /\ ob.dict = none := by
  cases x with
  | str z =>
    obtain ⟨t, rfl⟩ := r
    cases (show T = "str" from ty)
    exact ⟨typeIs_str s z t, fun _ e => nomatch e⟩
  | int i =>
    obtain ⟨t, rfl⟩ := r
    cases (show T = "int" from ty)
    exact ⟨typeIs_int s i t, fun _ e => nomatch e⟩
  | ref p =>
    cases r
    rcases ty with ⟨rfl, xs, hq⟩ | ⟨rfl, o, hk, hc, hd⟩ | ⟨rfl, hk⟩ | ⟨rfl, S, n, hk⟩
    · obtain ⟨its, _, pl, _⟩ := I.list hq
      refine ⟨pl.isList.typeIs, fun a e => ?_⟩
      cases e
      obtain ⟨o, n, e, c, hd, _⟩ := pl
      exact ⟨o, e, hd⟩
    · refine ⟨⟨o, I.kIn p o hk, hc⟩, fun a e => ?_⟩
      cases e
      exact ⟨o, I.kIn _ o hk, hd⟩
    · have z : ∃ o, s.heap.get? p = some o /\ o.ExactDict := by
        rcases hk with ⟨kvs, hk⟩ | ⟨kvs, hk⟩
        · obtain ⟨_, _, _, _, o, _, _, e, ex, _⟩ := I.hok p _ hk
          exact ⟨o, e, ex⟩
        · obtain ⟨_, _, _, _, o, _, _, e, ex, _⟩ := I.hok p _ hk
          exact ⟨o, e, ex⟩
      obtain ⟨o, e, ex⟩ := z
      refine ⟨⟨o, e, ex.1⟩, fun a e2 => ?_⟩
      cases e2
      exact ⟨o, e, ex.2.1⟩
    · obtain ⟨o, _, _, _, e, ex, _⟩ := I.hok p _ hk
      refine ⟨⟨o, e, ex.1⟩, fun a e2 => ?_⟩
      cases e2
      exact ⟨o, e, ex.2.1⟩
  | _ => exact False.elim ty
def tBM (K : PySem.W.Frag) (T : String) (r : V -> List V -> Hp -> VK -> Prop) (to : TE) (t : TA) : TE := fun σ H Q => to σ H fun x H1 => tyV K T x H1 /\ t σ H1 fun xs H2 => r x xs H2 Q
variable {o e : Expr} {es : List Expr} {to : TE} {t : TA} {name : Str} {apos cpos : Pos} {T id : String} {r : V -> List V -> Hp -> VK -> Prop}
theorem pe_bm (pa : PlainAttrs T) (slot : Slot T name id) (hty : typeOf (.builtin id) = pure (.type "method_descriptor")) (hm : MtR X id r) (ho : PE X o to) (ha : PA X (e :: es) t)
    (hbase : attributeBase o name X.env (eval o X.env) = eval o X.env := by rfl)
    (hfew : ((backTo cpos (starEach (e :: es) X.env)).all (fun x => !x.1) && (backToKw cpos (keywordEach [] X.env)).all (fun x => x.1.isSome)
      && decide ((e :: es).length + ([] : List Keyword).length + (if ([] : List Keyword).isEmpty then 0 else 1) < 30)) = true := by rfl)
    (hline : (apos.endLine == cpos.line) = true := by rfl) (hs : starEach (e :: es) X.env = (false, eval e X.env) :: starEach es X.env := by rfl) (hplain : (backTo cpos (starEach es X.env)).any (·.1) = false := by rfl) :
    PE X (.Call (.Attribute o name apos) (e :: es) [] cpos) (tBM X.K T r to t) := by
  intro pins s σ H Q I h
  refine wpAny_Call_method_late hbase hfew hline rfl (thn (ho pins s σ H _ I h) fun v s1 ⟨x, H1, I1, r1, ty, q1⟩ => ?_)
  obtain ⟨h1, h2⟩ := tyV_is I1 r1 ty
  refine ⟨T, id, pa, slot, hty, h1, h2, ?_⟩
  have hA := ha cpos pins s1 σ H1 _ I1 q1
  rw [hs] at hA ⊢
  refine Calls.callWith_builtin (by show (false || (backTo cpos (starEach es X.env)).any (·.1)) = false; rw [hplain] <;> rfl) (Calls.evalArgs_plain ?_)
  exact thn hA fun us s2 ⟨vs, H2, I2, r2, q2⟩ => hm pins s2 σ H2 x vs v us Q I2 r1 r2 q2
/- xs.append(e), list.index on a module's tuple .. are MtR facts of 06m -/
end
end L2
namespace L2
open PySem PySem.Spec PyProof.Rows
def MtM (X : Cx) (id : String) (r : V -> List V -> Hp -> VK -> Prop) : Prop :=
  ∀ (pins : List (Addr × Obj)) (s : Shared) (σ : St) (H : Hp) (x : V) (xs : List V) (v : Value) (us : List Value) (Q : VK), Inv X pins σ H s -> RelV x v -> Vals xs us -> r x xs H Q ->
    wpAny (model X.prog X.w) X.A (call (.builtin id) (v :: us)) (EP X pins σ Q) X.xe s
theorem Vals.one : ∀ {x : V} {us : List Value}, Vals [x] us -> ∃ u, us = [u] /\ RelV x u
  | _, _, .cons r .nil => ⟨_, rfl, r⟩
section
variable {X : Cx} {pins : List (Addr × Obj)} {σ : St} {H : Hp} {s : Shared} {l b : Addr} {xs ys zs : List V}
theorem Inv.lset {its its' : List Value} {n : Nat} {f : Array Value -> Array Value} {t' : Nat} (I : Inv X pins σ H s) (hH : H l = some (.lst xs))
    (e : s.heap.get? l = some { cls := .type "list", data := .seq its.toArray n }) (hf : f its.toArray = its'.toArray) (hv : Vals ys its') (hz : ys.length <= sizeLine) :
    Inv X pins σ (upd H l (.lst ys)) { s with heap := s.heap.update l (Obj.mapSeq f), toks := t' } := by
  have q := PySem.IsL.update e f
  rw [hf] at q
  refine I.write (x := l) (e := l) (by rw [hH]; exact trivial) (.inl rfl) (fun b' u hb hu => (Heap.get?_update_other s.heap (Obj.mapSeq f) (Ne.symm hb)).trans hu) ⟨_, q⟩ ?_
  exact ⟨hz, its', _, hv, q⟩
theorem Inv.lnew {its : List Value} {t' : Nat} (I : Inv X pins σ H s) (hv : Vals ys its) (hz : ys.length <= sizeLine) :
    Inv X pins σ (upd H s.heap.objs.size (.lst ys)) { s with heap := s.heap.push { cls := .type "list", data := .seq its.toArray }, toks := t' } :=
  I.laid (fun _ _ q => Heap.get?_push_of_some _ q) (Nat.le_refl _) ⟨hz, its, 0, hv, Heap.get?_push_size _ rfl⟩
theorem Inv.fresh (I : Inv X pins σ H s) : H s.heap.objs.size = none := I.hok.fresh (Nat.le_refl _)
theorem Inv.lstM (I : Inv X pins σ H s) (hH : H l = some (.lst xs)) : xs.length <= sizeLine /\ ∃ (its : List Value) (n : Nat), Vals xs its /\ xs.length = its.length /\ s.heap.get? l = some { cls := .type "list", data := .seq its.toArray n } := by
  obtain ⟨z, its, n, r, e⟩ := I.hok l _ hH
  exact ⟨z, its, n, r, r.length, e⟩
end
section
variable {X : Cx}
def rAppend : V -> List V -> Hp -> VK -> Prop := fun x vs H Q => ∃ l xs y, x = .ref l /\ vs = [y] /\ H l = some (.lst xs) /\ xs.length < sizeLine /\ Q .non (upd H l (.lst (xs ++ [y])))
theorem mt_append : MtM X "list.append" rAppend := by
  intro pins s σ H x vs v us Q I rx rv h
  obtain ⟨l, xs, y, rfl, rfl, hH, hz, q⟩ := h
  cases rx
  obtain ⟨u, rfl, ru⟩ := rv.one
  obtain ⟨z, its, n, r, hl, e⟩ := I.lstM hH
  refine call_meets F.slot_list_append ⟨_, e, rfl⟩ F.entry_list_append (F.args_list_append_2 _ _) (PySem.list_append l its.toArray n u (by rw [List.size_toArray]; lia)) ⟨e, ?_⟩
  refine ⟨.non, _, I.lset (its' := its ++ [u]) hH e (by simp) (r.append (.cons ru .nil)) ?_, rfl, q⟩
  rw [List.length_append, List.length_singleton]
  lia
def rCat : R2 := fun x y H Q => ∃ l b xs zs, x = .ref l /\ y = .ref b /\ H l = some (.lst xs) /\ H b = some (.lst zs) /\ xs.length + zs.length <= sizeLine /\ ∀ p, H p = none -> Q (.ref p) (upd H p (.lst (xs ++ zs)))
theorem op_cat : OpR X (binaryOp .Add) rCat := by
  intro pins s σ H x y v u Q I rx ry h
  obtain ⟨l, b, xs, zs, rfl, rfl, hH, hB, hz, q⟩ := h
  cases rx
  cases ry
  obtain ⟨z, its, n, r, hl, e⟩ := I.lstM hH
  obtain ⟨z2, its2, n2, r2, hl2, e2⟩ := I.lstM hB
  refine PySem.P.add_list e e2 ?_ (by rw [List.size_toArray, List.size_toArray]; lia)
  have ea : its.toArray ++ its2.toArray = (its ++ its2).toArray := by simp
  rw [ea]
  exact ⟨.ref _, _, I.lnew (t' := s.toks) (r.append r2) (by rw [List.length_append]; lia), rfl, q _ I.fresh⟩
end
section
variable {prog : Program} {w : World} {A : Around} {E : Value -> Shared -> Prop} {s : Shared}
set_option maxRecDepth 100000 in
end
section
variable {X : Cx}
end
end L2
namespace L2
open PySem PySem.Spec PyProof.Rows
section
variable {κ : Type} [DecidableEq κ]
def valV (kvs : List (κ × V)) (k : κ) : Option V := (kvs.find? fun kv => decide (kv.1 = k)).map (·.2)
def putK (kvs : List (κ × V)) (k : κ) (v : V) : List (κ × V) :=
  if (kvs.any fun kv => decide (kv.1 = k)) = true then kvs.map (fun kv => if kv.1 = k then (kv.1, v) else kv) else kvs ++ [(k, v)]
theorem Zq104 {p : κ × V} {r : List (κ × V)} {k : κ} (e : p.1 = k) : valV (p :: r) k = some p.2 := by simp [valV, List.find?_cons, e]
theorem Zq117 {p : κ × V} {r : List (κ × V)} {k : κ} (e : ¬ p.1 = k) : valV (p :: r) k = valV r k := by simp [valV, List.find?_cons, e]
theorem valV_any (k : κ) : ∀ kvs : List (κ × V), (kvs.any fun kv => decide (kv.1 = k)) = (valV kvs k).isSome
  | [] => rfl
  | p :: r => by
    rw [List.any_cons]
    by_cases e : p.1 = k
    · simp only [Zq104 e, decide_eq_true e, Bool.true_or, Option.isSome_some]
    · rw [Zq117 e, decide_eq_false e, Bool.false_or]; exact valV_any k r
theorem valV_map (k j : κ) (y : V) : ∀ kvs : List (κ × V), valV (kvs.map fun kv => if kv.1 = k then (kv.1, y) else kv) j = (valV kvs j).map fun x => if j = k then y else x
  | [] => rfl
  | p :: r => by
    have ih := valV_map k j y r
    rw [List.map_cons]
    by_cases h : p.1 = k
    · rw [if_pos h]
      by_cases e : p.1 = j
      · rw [Zq104 (p := (p.1, y)) e, Zq104 e, Option.map_some, if_pos (e.symm.trans h)]
      · rw [Zq117 (p := (p.1, y)) e, Zq117 e, ih]
    · rw [if_neg h]
      by_cases e : p.1 = j
      · rw [Zq104 (p := p) e, Zq104 e, Option.map_some, if_neg (fun z => h (e.trans z))]
      · rw [Zq117 (p := p) e, Zq117 e, ih]
theorem valV_snoc (k j : κ) (y : V) : ∀ kvs : List (κ × V), valV kvs k = none -> valV (kvs ++ [(k, y)]) j = if j = k then some y else valV kvs j
  | [], _ => by
    by_cases e : k = j
    · rw [if_pos e.symm]; exact Zq104 (p := (k, y)) e
    · rw [if_neg (fun z => e z.symm)]; exact Zq117 (p := (k, y)) e
  | p :: r, hn => by
    rw [List.cons_append]
    have hk : ¬ p.1 = k := fun z => by rw [Zq104 z] at hn; cases hn
    rw [Zq117 hk] at hn
    have ih := valV_snoc k j y r hn
    by_cases e : p.1 = j
    · rw [Zq104 e, Zq104 e, if_neg (fun z => hk (e.trans z))]
    · rw [Zq117 e, Zq117 e, ih]
theorem valV_put (kvs : List (κ × V)) (k j : κ) (y : V) : valV (putK kvs k y) j = if j = k then some y else valV kvs j := by
  unfold putK
  by_cases a : (kvs.any fun kv => decide (kv.1 = k)) = true
  · rw [if_pos a, valV_map]
    rw [valV_any] at a
    by_cases e : j = k
    · obtain ⟨x, hx⟩ := Option.isSome_iff_exists.mp a
      rw [if_pos e, e, hx, Option.map_some, if_pos rfl]
    · rw [if_neg e]
      cases valV kvs j with
      | none => rfl
      | some x => rw [Option.map_some, if_neg e]
  · rw [if_neg a]
    refine valV_snoc k j y kvs ?_
    rw [valV_any] at a
    cases q : valV kvs k with
    | none => rfl
    | some x => rw [q] at a; exact (a rfl).elim
theorem Zq106 (kvs : List (κ × V)) (k : κ) (v : V) : (putK kvs k v).length <= kvs.length + 1 := by
  unfold putK
  split
  · rw [List.length_map]; lia
  · rw [List.length_append, List.length_cons, List.length_nil]; lia
theorem putK_new {kvs : List (κ × V)} {k : κ} (v : V) (h : valV kvs k = none) : putK kvs k v = kvs ++ [(k, v)] := by
  unfold putK
  rw [valV_any, h]
  exact if_neg (by decide)
theorem RelO.isSome_eq {o : Option V} {u : Option Value} (r : RelO o u) : o.isSome = u.isSome := by
  cases o with
  | none => cases u with
    | none => rfl
    | some _ => exact (show False from r).elim
  | some _ => cases u with
    | none => exact (show False from r).elim
    | some _ => rfl
theorem KV.val {kvs : List (κ × V)} {vs : List (κ × Value)} (r : KV kvs vs) (k : κ) : RelO (valV kvs k) (valueAt vs k) := by
  unfold KV at r
  induction r with
  | nil => exact True.intro
  | @cons p q ps qs h t ih =>
    obtain ⟨h1, h2⟩ := h
    by_cases e : p.1 = k
    · have e' : q.1 = k := h1.symm.trans e
      have b : valueAt (q :: qs) k = some q.2 := by simp [valueAt, List.find?_cons, e']
      rw [Zq104 e, b]; exact h2
    · have e' : ¬ q.1 = k := fun z => e (h1.trans z)
      have b : valueAt (q :: qs) k = valueAt qs k := by simp [valueAt, List.find?_cons, e']
      rw [Zq117 e, b]; exact ih
theorem KV.any {kvs : List (κ × V)} {vs : List (κ × Value)} (r : KV kvs vs) (k : κ) : (kvs.any fun kv => decide (kv.1 = k)) = vs.any fun kv => decide (kv.1 = k) := by
  unfold KV at r
  induction r with
  | nil => rfl
  | cons h t ih => rw [List.any_cons, List.any_cons, ih, h.1]
theorem KV.repl {kvs : List (κ × V)} {vs : List (κ × Value)} (r : KV kvs vs) (k : κ) {y : V} {u : Value} (ry : RelV y u) :
    KV (kvs.map fun kv => if kv.1 = k then (kv.1, y) else kv) (vs.map fun kv => if kv.1 = k then (kv.1, u) else kv) := by
  unfold KV at r ⊢
  induction r with
  | nil => exact .nil
  | @cons p q ps qs h t ih =>
    rw [List.map_cons, List.map_cons]
    refine .cons ?_ ih
    obtain ⟨h1, h2⟩ := h
    by_cases e : p.1 = k
    · rw [if_pos e, if_pos (h1.symm.trans e)]; exact ⟨h1, ry⟩
    · rw [if_neg e, if_neg (fun z => e (h1.trans z))]; exact ⟨h1, h2⟩
theorem KV.put {kvs : List (κ × V)} {vs : List (κ × Value)} (r : KV kvs vs) (k : κ) {y : V} {u : Value} (ry : RelV y u) : KV (putK kvs k y) (stored vs k u) := by
  unfold putK stored
  rw [r.any k]
  by_cases e : (vs.any fun kv => decide (kv.1 = k)) = true
  · rw [if_pos e, if_pos e]; exact r.repl k ry
  · rw [if_neg e, if_neg e]; exact Paired.snoc r ⟨rfl, ry⟩
theorem KV.length {kvs : List (κ × V)} {vs : List (κ × Value)} (r : KV kvs vs) : kvs.length = vs.length := Paired.length r
end
theorem kV_is {P : Program} {w : World} {k : Key} {u : Value} (r : RelV (kV k) u) : (Zq51 P w).is k u = true := by
  cases k with
  | inl i => obtain ⟨t, e⟩ := (show ∃ t, u = Value.int i t from r); subst e; exact mixKind_int P w i t
  | inr x => obtain ⟨t, e⟩ := (show ∃ t, u = Value.str x t from r); subst e; exact mixKind_str P w x t
theorem items_are {P : Program} {w : World} : ∀ {ks : List Key} {us : List Value}, Vals (ks.map kV) us -> ItemsAre (Zq51 P w) ks us
  | [], _, r => by rw [List.map_nil] at r; cases r; exact .nil
  | k :: ks, _, r => by
    rw [List.map_cons] at r
    cases r with
    | cons h t => exact .cons (kV_is h) (items_are t)
abbrev KT (H : Hp) : List (List Key × V) -> List (List Key × Addr × Value) -> Prop := Paired fun p q => p.1 = q.1 /\ H q.2.1 = some (.tup (p.1.map kV)) /\ RelV p.2 q.2.2
theorem KT.val {H : Hp} {kvs : List (List Key × V)} {xs : List (List Key × Addr × Value)} (r : KT H kvs xs) (k : List Key) : RelO (valV kvs k) ((atKey xs k).map (·.2)) := by
  induction r with
  | nil => exact True.intro
  | @cons p q ps qs h t ih =>
    obtain ⟨h1, _, h2⟩ := h
    by_cases e : p.1 = k
    · have e' : q.1 = k := h1.symm.trans e
      have b : atKey (q :: qs) k = some q.2 := by simp [atKey, List.find?_cons, e']
      rw [Zq104 e, b]; exact h2
    · have e' : ¬ q.1 = k := fun z => e (h1.trans z)
      have b : atKey (q :: qs) k = atKey qs k := by simp [atKey, List.find?_cons, e']
      rw [Zq117 e, b]; exact ih
theorem KT.repl {H : Hp} {kvs : List (List Key × V)} {xs : List (List Key × Addr × Value)} (r : KT H kvs xs) (k : List Key) {y : V} {u : Value} (ry : RelV y u) :
    KT H (kvs.map fun kv => if kv.1 = k then (kv.1, y) else kv) (xs.map (putAt k u)) := by
  induction r with
  | nil => exact .nil
  | @cons p q ps qs h t ih =>
    rw [List.map_cons, List.map_cons]
    refine .cons ?_ ih
    obtain ⟨h1, h2, h3⟩ := h
    unfold putAt
    by_cases e : p.1 = k
    · rw [if_pos e, if_pos (h1.symm.trans e)]; exact ⟨h1, h2, ry⟩
    · rw [if_neg e, if_neg (fun z => e (h1.trans z))]; exact ⟨h1, h2, h3⟩
theorem KT.put {H : Hp} {kvs : List (List Key × V)} {xs : List (List Key × Addr × Value)} (r : KT H kvs xs) (k : List Key) {b : Addr} {y : V} {u : Value} (hb : H b = some (.tup (k.map kV))) (ry : RelV y u) :
    KT H (putK kvs k y) (storedH xs k b u) := by
  have e : (kvs.any fun kv => decide (kv.1 = k)) = (atKey xs k).isSome := by
    rw [valV_any, (r.val k).isSome_eq, Option.isSome_map]
  unfold putK storedH
  rw [e]
  by_cases q : (atKey xs k).isSome = true
  · rw [if_pos q, if_pos q]; exact r.repl k ry
  · rw [if_neg q, if_neg q]; exact Paired.snoc r ⟨rfl, hb, ry⟩
theorem KT.keeps {H H' : Hp} {kvs : List (List Key × V)} {xs : List (List Key × Addr × Value)} (r : KT H kvs xs) (ht : ∀ b ys, H b = some (.tup ys) -> H' b = some (.tup ys)) : KT H' kvs xs :=
  Paired.mapP r fun _ _ z => ⟨z.1, ht _ _ z.2.1, z.2.2⟩
section
variable {P : Program} {w : World} {H : Hp} {h : Heap} {a : Addr}
theorem rd_of {u : HO} (ok : HOk P w H h) (e : Rd H a u) : ObjOk P w H h a u := e.ok ok
theorem dk_rd {kvs : List (Key × V)} (ok : HOk P w H h) (e : Rd H a (.dK kvs)) : kvs.length <= sizeLine /\ (a == sysModules) = false /\ ∃ vs, KV kvs vs /\ h.DictOf (Zq51 P w) a vs :=
  show ObjOk P w H h a (.dK kvs) from rd_of ok e
theorem dk_of {kvs : List (Key × V)} (ok : HOk P w H h) (e : H a = some (.dK kvs)) : kvs.length <= sizeLine /\ (a == sysModules) = false /\ ∃ vs, KV kvs vs /\ h.DictOf (Zq51 P w) a vs := dk_rd ok (.inl e)
theorem key_of {ks : List Key} (ok : HOk P w H h) (e : H a = some (.tup (ks.map kV))) : (tupleKind (Zq51 P w)).is h ks a := by
  obtain ⟨_, its, r, o, h1, h2, n, h3⟩ := (show ObjOk P w H h a (.tup (ks.map kV)) from ok a _ e)
  exact ⟨o, its.toArray, n, h1, h2, h3, by simpa using items_are r⟩
theorem dt_rd {kvs : List (List Key × V)} (ok : HOk P w H h) (e : Rd H a (.dT kvs)) : kvs.length <= sizeLine /\ (a == sysModules) = false /\
    ∃ xs, KT H kvs xs /\ h.DictOfH (tupleKind (Zq51 P w)) a xs := by
  obtain ⟨z, y, xs, r, o, es, ep, h1, h2, h3, h4, h5⟩ := (show ObjOk P w H h a (.dT kvs) from rd_of ok e)
  refine ⟨z, y, xs, r, o, es, ep, h1, h2, h3, h4, fun x hx => ?_, h5⟩
  have all : ∀ {l : List (List Key × V)} {m : List (List Key × Addr × Value)}, KT H l m -> ∀ x ∈ m, (tupleKind (Zq51 P w)).is h x.1 x.2.1 := by
    intro l m q
    induction q with
    | nil => intro x hx; exact nomatch hx
    | @cons p q ps qs hq t ih =>
      intro x hx
      rcases List.mem_cons.mp hx with e | hx
      · subst e
        exact key_of ok (by rw [← hq.1]; exact hq.2.1)
      · exact ih x hx
  exact all r x hx
theorem dt_of {kvs : List (List Key × V)} (ok : HOk P w H h) (e : H a = some (.dT kvs)) : kvs.length <= sizeLine /\ (a == sysModules) = false /\
    ∃ xs, KT H kvs xs /\ h.DictOfH (tupleKind (Zq51 P w)) a xs := dt_rd ok (.inl e)
end
def DGet (H : Hp) (a : Addr) (y : V) (r : Option V) : Prop :=
  (∃ kvs k, Rd H a (.dK kvs) /\ y = kV k /\ r = valV kvs k) \/ ∃ kvs k b, Rd H a (.dT kvs) /\ y = .ref b /\ H b = some (.tup (k.map kV)) /\ r = valV kvs k
def DPut (H : Hp) (a : Addr) (y v : V) (H' : Hp) : Prop :=
  (∃ kvs k, H a = some (.dK kvs) /\ y = kV k /\ kvs.length < sizeLine /\ H' = upd H a (.dK (putK kvs k v))) \/
  ∃ kvs k b, H a = some (.dT kvs) /\ y = .ref b /\ H b = some (.tup (k.map kV)) /\ kvs.length < sizeLine /\ H' = upd H a (.dT (putK kvs k v))
theorem DGet.k {H : Hp} {a : Addr} {kvs : List (Key × V)} {k : Key} (e : H a = some (.dK kvs)) : DGet H a (kV k) (valV kvs k) := .inl ⟨kvs, k, .inl e, rfl, rfl⟩
theorem DPut.k {H : Hp} {a : Addr} {kvs : List (Key × V)} {k : Key} {v : V} (e : H a = some (.dK kvs)) (hl : kvs.length < sizeLine) : DPut H a (kV k) v (upd H a (.dK (putK kvs k v))) := .inl ⟨kvs, k, e, rfl, hl, rfl⟩
section
variable {X : Cx} {pins : List (Addr × Obj)} {σ : St} {H : Hp} {s : Shared} {a : Addr} {y v : V} {u r : Value} {o : Option V} {A : Around} {E : Value -> Shared -> Prop}
theorem Inv.big (I : Inv X pins σ H s) : sysModules < s.heap.objs.size := by
  have h : mainGlobals < s.heap.objs.size := (I.mod.glob.keeps I.bk).lt
  exact Nat.lt_trans (by decide) h
theorem d_getItem {Q : Value -> Shared -> Prop} (hu : A.units + 1 < cLine) (I : Inv X pins σ H s) (g : DGet H a y (some v)) (ry : RelV y u) (h : ∀ w' s', Inv X pins σ H s' -> RelV v w' -> Q w' s') :
    wpAny (model X.prog X.w) A (getItem (.ref a) u) Q E s := by
  rcases g with ⟨kvs, k, e, ey, l⟩ | ⟨kvs, k, b, e, ey, eb, l⟩
  · subst ey
    obtain ⟨z, hd, vs, rel, dd⟩ := dk_rd I.hok e
    obtain ⟨w', hw, rw'⟩ := RelO.some_of (v := v) (o := valueAt vs k) (by rw [l]; exact rel.val k)
    exact wpAny_getItem_of (kV_is ry) dd.mapOf hw (h w' _ (I.tok _) rw')
  · subst ey
    cases (show u = Value.ref b from ry)
    obtain ⟨z, hd, xs, rel, dd⟩ := dt_rd I.hok e
    obtain ⟨w', hw, rw'⟩ := RelO.some_of (v := v) (o := (atKey xs k).map (·.2)) (by rw [l]; exact rel.val k)
    obtain ⟨p, hp, hp2⟩ := Option.map_eq_some_iff.mp hw
    refine wpAny_getItem_heap (tupleKind_room_in1 hu) (key_of I.hok eb) dd hp ?_
    rw [hp2]
    exact h w' _ (I.tok _) rw'
theorem d_in {Q : Value -> Shared -> Prop} (hu : A.units + 1 < cLine) (I : Inv X pins σ H s) (g : DGet H a y o) (ry : RelV y u) (h : ∀ s', Inv X pins σ H s' -> Q (.bool o.isSome) s') :
    wpAny (model X.prog X.w) A (compareOp .In u (.ref a)) Q E s := by
  rcases g with ⟨kvs, k, e, ey, l⟩ | ⟨kvs, k, b, e, ey, eb, l⟩
  · subst ey
    obtain ⟨z, hd, vs, rel, dd⟩ := dk_rd I.hok e
    refine wpAny_in_of (kV_is ry) hd dd.mapOf ?_
    rw [← (rel.val k).isSome_eq, ← l]
    exact h _ (I.tok _)
  · subst ey
    cases (show u = Value.ref b from ry)
    obtain ⟨z, hd, xs, rel, dd⟩ := dt_rd I.hok e
    refine wpAny_in_heap (tupleKind_room_in1 hu) (key_of I.hok eb) hd dd ?_
    have q := (rel.val k).isSome_eq
    rw [Option.isSome_map] at q
    rw [← q, ← l]
    exact h _ (I.tok _)
theorem d_notIn {Q : Value -> Shared -> Prop} (hu : A.units + 1 < cLine) (I : Inv X pins σ H s) (g : DGet H a y o) (ry : RelV y u) (h : ∀ s', Inv X pins σ H s' -> Q (.bool (!o.isSome)) s') :
    wpAny (model X.prog X.w) A (compareOp .NotIn u (.ref a)) Q E s := by
  rcases g with ⟨kvs, k, e, ey, l⟩ | ⟨kvs, k, b, e, ey, eb, l⟩
  · subst ey
    obtain ⟨z, hd, vs, rel, dd⟩ := dk_rd I.hok e
    refine wpAny_notIn_of (kV_is ry) hd dd.mapOf ?_
    rw [← (rel.val k).isSome_eq, ← l]
    exact h _ (I.tok _)
  · subst ey
    cases (show u = Value.ref b from ry)
    obtain ⟨z, hd, xs, rel, dd⟩ := dt_rd I.hok e
    refine wpAny_notIn_heap (tupleKind_room_in1 hu) (key_of I.hok eb) hd dd ?_
    have q := (rel.val k).isSome_eq
    rw [Option.isSome_map] at q
    rw [← q, ← l]
    exact h _ (I.tok _)
theorem d_write {h' : Heap} {t' : Nat} {ob : HO} (I : Inv X pins σ H s) (mu : Mut (H a)) (hs : Heap.SameBut a s.heap h') (he : ∃ q, h'.get? a = some q) (new : ObjOk X.prog X.w (upd H a ob) h' a ob) :
    Inv X pins σ (upd H a ob) { s with heap := h', toks := t' } :=
  I.write (x := a) (e := a) mu (.inl rfl) (fun b q hb z => (hs.2 b hb).trans z) he new
theorem dk_new {P : Program} {w : World} {H' : Hp} {h' : Heap} {kvs : List (Key × V)} {vs : List (Key × Value)} (z : kvs.length <= sizeLine) (hd : (a == sysModules) = false) (rel : KV kvs vs) (dd : h'.DictOf (Zq51 P w) a vs) :
    ObjOk P w H' h' a (.dK kvs) := ⟨z, hd, vs, rel, dd⟩
theorem d_setItem {H' : Hp} {Q : Unit -> Shared -> Prop} (hu : A.units + 1 < cLine) (I : Inv X pins σ H s) (g : DPut H a y v H') (ry : RelV y u) (rv : RelV v r) (h : ∀ s', Inv X pins σ H' s' -> Q () s') :
    wpAny (model X.prog X.w) A (setItem (.ref a) u r) Q E s := by
  rcases g with ⟨kvs, k, e, ey, l, eH⟩ | ⟨kvs, k, b, e, ey, eb, l, eH⟩
  · subst ey eH
    obtain ⟨z, hd, vs, rel, dd⟩ := dk_of I.hok e
    have hz : vs.length <= sizeLine := by rw [← rel.length]; exact z
    have hl : (putK kvs k v).length <= sizeLine := by have := Zq106 kvs k v; lia
    refine wpAny_setItem_pairs (hsz := hz) (kV_is ry) dd fun h' dd' hs => h _ ?_
    have he : ∃ q, h'.get? a = some q := let ⟨q, _, _, hq, _⟩ := dd'; ⟨q, hq⟩
    exact d_write I (by rw [e]; exact True.intro) hs he (dk_new hl hd (rel.put k rv) dd')
  · subst ey eH
    cases (show u = Value.ref b from ry)
    obtain ⟨z, hd, xs, rel, dd⟩ := dt_of I.hok e
    have hz : xs.length <= sizeLine := by rw [← Paired.length rel]; exact z
    have hl : (putK kvs k v).length <= sizeLine := by have := Zq106 kvs k v; lia
    refine wpAny_setItem_heap (hsz := hz) (tupleKind_room_in1 hu) (key_of I.hok eb) dd fun h' dd' hs => h _ ?_
    obtain ⟨q, es, ep, hq, h2, h3, h4, _, h5⟩ := dd'
    refine d_write I (by rw [e]; exact True.intro) hs ⟨q, hq⟩ ⟨hl, hd, _, (rel.put k eb rv).keeps fun c ys ec => ?_, q, es, ep, hq, h2, h3, h4, h5⟩
    rw [Zq6 (ne_of ec e (fun z => nomatch z))]
    exact ec
end
section
variable {X : Cx} {pins : List (Addr × Obj)} {σ : St} {H : Hp} {s : Shared} {a : Addr} {kvs : List (Key × V)} {k : Key} {u : Value} {A : Around} {E : Value -> Shared -> Prop}
theorem d_len {Q : Value -> Shared -> Prop} (I : Inv X pins σ H s) (e : Rd H a (.dK kvs)) (h : ∀ t s', Inv X pins σ H s' -> Q (.int kvs.length t) s') : wpAny (model X.prog X.w) A (call (.builtin "len") [.ref a]) Q E s := by
  obtain ⟨z, hd, vs, rel, dd⟩ := dk_rd I.hok e
  refine call_len_dict hd dd (by rw [← rel.length]; rw [sizeLine_eq] at z; lia) ?_
  rw [← rel.length]
  exact h _ _ (I.tok _)
end
def NoSl (i : Expr) : Prop := ∀ ov iv, subscripted i false ov iv = operate [ov, iv] (getItem ov iv)
theorem subD_of {prog : Program} {w : World} {A : Around} {E : Value -> Shared -> Prop} {s : Shared} {env : Env} {value slice : Expr} {pos : Pos} {T id : String} {Q : Value -> Shared -> Prop}
    (hl : typeLookup (.type T) "__getitem__" = pure (some (.builtin id))) (hs : NoSl slice)
    (h : wpAny (model prog w) A (eval value env) (fun o s₁ => wpAny (model prog w) A (eval slice env) (fun i s₂ => s₂.TypeIs o T /\ wpAny (model prog w) A (getItem o i) Q E s₂) E s₁) E s) :
    wpAny (model prog w) A (eval (.Subscript value slice pos) env) Q E s := by
  refine Subscript_ (wpAny_mono h (fun o s₁ h₁ => wpAny_mono h₁ (fun i s₂ h₂ => ?_) fun _ _ x => x) fun _ _ x => x)
  obtain ⟨hT, h₂⟩ := h₂
  unfold subscriptTail
  refine wpAny_bind ?_
  rw [getitemInPython_of_ne hT.not_modules]
  refine wpAny_bind (wpAny_specialOf hT hl ?_)
  have fin : wpAny (model prog w) A (subscripted slice false o i) (fun r s₃ => wpAny (model prog w) A (letTemporaryGo value o r >>= fun _ => pure r) Q E s₃) E s₂ := by
    rw [hs o i]
    exact wpAny_operating (wpAny_mono h₂ (fun r s₃ h₃ => wpAny_bind (wpAny_letTemporaryGo (wpAny_pure h₃))) fun _ _ x => x)
  first
    | exact wpAny_pure (wpAny_bind fin)
    | exact wpAny_bind (wpAny_pure (wpAny_bind fin))
    | exact wpAny_bind fin
theorem dict_typeIs {X : Cx} {pins : List (Addr × Obj)} {σ : St} {H : Hp} {s : Shared} {a : Addr} {y : V} {o : Option V} (I : Inv X pins σ H s) (g : DGet H a y o) : s.TypeIs (.ref a) "dict" := by
  rcases g with ⟨kvs, k, e, _, _⟩ | ⟨kvs, k, b, e, _, _, _⟩
  · obtain ⟨_, _, vs, _, dd⟩ := dk_rd I.hok e
    exact dd.typeIs
  · obtain ⟨_, _, xs, _, dd⟩ := dt_rd I.hok e
    exact dd.typeIs
def tDGet (td ty : TE) : TE := fun σ H Q => td σ H fun x H1 => ty σ H1 fun y H2 => ∃ a v, x = .ref a /\ DGet H2 a y (some v) /\ Q v H2
def sDPut (td ty tv : TE) : TS := fun D σ H => tv σ H fun v H1 => td σ H1 fun x H2 => ty σ H2 fun y H3 => ∃ a H4, x = .ref a /\ DPut H3 a y v H4 /\ D.nx σ H4
section
variable {X : Cx} {o i e value : Expr} {pos pos' tpos : Pos} {td ty tv : TE}
theorem pe_dget (hu : X.A.units + 1 < cLine) (ho : PE X o td) (hi : PE X i ty) (hs : NoSl i) : PE X (.Subscript o i pos) (tDGet td ty) := by
  intro pins s σ H Q I h
  refine subD_of PySem.F.slot_dict_getitem.lookup hs (thn (ho pins s σ H _ I h) fun u s1 ⟨x, H1, I1, rx, q1⟩ => thn (hi pins s1 σ H1 _ I1 q1) fun iv s2 ⟨y, H2, I2, ry, a, v, ex, g, q2⟩ => ?_)
  subst ex
  obtain rfl : u = Value.ref a := rx
  exact ⟨dict_typeIs I2 g, d_getItem hu I2 g ry fun w' s3 I3 rw' => ⟨v, H2, I3, rw', q2⟩⟩
theorem ps_dput (hu : X.A.units + 1 < cLine) (ho : PE X o td) (hi : PE X i ty) (hv : PE X value tv) (hs : swapsWith value (some (.Subscript o i pos')) pos.line X.env = pure false) :
    PS X (.Assign [.Subscript o i pos'] value pos) (sDPut td ty tv) := by
  intro pins s σ H D I h
  refine wpAny_Assign_Subscript (thn (hv pins s σ H _ I h) fun r s1 ⟨v, H1, I1, rv, q1⟩ => thn (ho pins s1 σ H1 _ I1 q1) fun u s2 ⟨x, H2, I2, rx, q2⟩ => thn (hi pins s2 σ H2 _ I2 q2) fun iv s3 ⟨y, H3, I3, ry, a, H4, ex, g, q3⟩ => ?_) hs
  subst ex
  obtain rfl : u = Value.ref a := rx
  exact d_setItem hu I3 g ry rv fun s4 I4 => ⟨σ, H4, I4, q3⟩
end
theorem dk_empty {P : Program} {w : World} {H : Hp} (h : Heap) (hb : sysModules < h.objs.size) : ObjOk P w H (h.push { cls := .type "dict", data := .dict #[] }) h.objs.size (.dK []) :=
  ⟨Nat.zero_le _, beq_eq_false_iff_ne.mpr (Ne.symm (Nat.ne_of_lt hb)), [], .nil, Heap.DictOf.new h⟩
def tDNewK : TE := fun _ H Q => ∀ p, H p = none -> Q (.ref p) (upd H p (.dK []))
section
variable {X : Cx} {pos : Pos}
theorem pe_dnewK : PE X (.Dict [] [] pos) tDNewK := fun pins s σ H Q I h =>
  wpAny_Dict_empty ⟨.ref s.heap.objs.size, _, I.laid (a := s.heap.objs.size) (o := .dK []) (t' := s.toks) (fun _ _ q => Heap.get?_push_of_some _ q) (Nat.le_refl _) (dk_empty s.heap I.big), rfl, h _ (I.hok.fresh (Nat.le_refl _))⟩
end
def tPairs : List (TE × TE) -> St -> Hp -> (List (V × V) -> Hp -> Prop) -> Prop
  | [], _, H, Q => Q [] H
  | (tk, tv) :: r, σ, H, Q => tk σ H fun x H1 => tv σ H1 fun y H2 => tPairs r σ H2 fun ps H3 => Q ((x, y) :: ps) H3
abbrev VV : List (V × V) -> List (Value × Value) -> Prop := Paired fun p q => RelV p.1 q.1 /\ RelV p.2 q.2
def PPs (X : Cx) (pos : Pos) (keys : List (Option Expr)) (values : List Expr) (trs : List (TE × TE)) : Prop :=
  ∀ (pins : List (Addr × Obj)) (s : Shared) (σ : St) (H : Hp) (Q : List (V × V) -> Hp -> Prop), Inv X pins σ H s -> tPairs trs σ H Q ->
    wpAny (model X.prog X.w) X.A (evalPairs (pairTrees keys values X.env pos)) (fun vs s' => ∃ ps H', Inv X pins σ H' s' /\ VV ps vs /\ Q ps H') X.xe s
theorem pps_nil {X : Cx} {pos : Pos} : PPs X pos [] [] [] := fun pins s σ H Q I h => pairTrees_nil_walk ⟨[], H, I, .nil, h⟩
theorem pps_cons {X : Cx} {pos : Pos} {k v : Expr} {ks : List (Option Expr)} {vs : List Expr} {tk tv : TE} {trs : List (TE × TE)} (hk : PE X k tk) (hv : PE X v tv) (hr : PPs X pos ks vs trs) :
    PPs X pos (some k :: ks) (v :: vs) ((tk, tv) :: trs) := fun pins s σ H Q I h =>
  pairTrees_cons_walk (thn (hk pins s σ H _ I h) fun u s1 ⟨x, H1, I1, rx, q1⟩ => thn (hv pins s1 σ H1 _ I1 q1) fun w2 s2 ⟨y, H2, I2, ry, q2⟩ =>
    thn (hr pins s2 σ H2 _ I2 q2) fun ws s3 ⟨ps, H3, I3, rel, q3⟩ => ⟨(x, y) :: ps, H3, I3, .cons ⟨rx, ry⟩ rel, q3⟩)
def Zq212 (kvs more : List (Key × V)) : List (Key × V) := more.foldl (fun acc kv => putK acc kv.1 kv.2) kvs
theorem KV.merge : ∀ {more : List (Key × V)} {rs : List (Key × Value)} {kvs : List (Key × V)} {vs : List (Key × Value)}, KV more rs -> KV kvs vs -> KV (Zq212 kvs more) (merged vs rs) := by
  intro more rs kvs vs r
  unfold KV at r
  induction r generalizing kvs vs with
  | nil => intro q; exact q
  | @cons p q ps qs h t ih =>
    intro r0
    have e : KV (putK kvs p.1 p.2) (stored vs q.1 q.2) := by
      have := r0.put p.1 h.2
      rw [← h.1]; exact this
    exact ih e
theorem length_mergeK : ∀ (more kvs : List (Key × V)), (Zq212 kvs more).length <= kvs.length + more.length
  | [], kvs => by show kvs.length <= kvs.length + 0; lia
  | p :: r, kvs => by
    have h1 := length_mergeK r (putK kvs p.1 p.2)
    have h2 := Zq106 kvs p.1 p.2
    show (Zq212 (putK kvs p.1 p.2) r).length <= _
    rw [List.length_cons]; lia
theorem carries_of {P : Program} {w : World} : ∀ {kvs : List (Key × V)} {ws : List (Value × Value)}, VV (kvs.map fun kv => (kV kv.1, kv.2)) ws -> ∃ rs, Carries (Zq51 P w) ws rs /\ KV kvs rs
  | [], _, r => by rw [List.map_nil] at r; cases r; exact ⟨[], True.intro, .nil⟩
  | p :: kvs, _, r => by
    rw [List.map_cons] at r
    cases r with
    | @cons a b as bs h t =>
      obtain ⟨rs, c, q⟩ := carries_of (P := P) (w := w) t
      obtain ⟨b1, b2⟩ := b
      exact ⟨(p.1, b2) :: rs, ⟨kV_is h.1, rfl, c⟩, .cons ⟨rfl, h.2⟩ q⟩
def tDisp (trs : List (TE × TE)) : TE := fun σ H Q => ∀ p, H p = none -> tPairs trs σ (upd H p (.dK [])) fun ps H2 => H2 p = some (.dK []) /\ ∃ kvs : List (Key × V), ps = kvs.map (fun kv => (kV kv.1, kv.2)) /\ kvs.length <= 15 /\ Q (.ref p) (upd H2 p (.dK (Zq212 [] kvs)))
theorem pe_disp {X : Cx} {pos : Pos} {keys : List (Option Expr)} {values : List Expr} {trs : List (TE × TE)} (h : PPs X pos keys values trs) (hall : keys.all (·.isSome) = true) (hl : keys.length = values.length) (h0 : keys ≠ [])
    (h15 : keys.length <= 15) : PE X (.Dict keys values pos) (tDisp trs) := by
  intro pins s σ H Q I q
  have hn := I.hok.fresh (Nat.le_refl s.heap.objs.size)
  have I1 := I.laid (a := s.heap.objs.size) (o := .dK []) (h' := s.heap.push { cls := .type "dict", data := .dict #[] }) (t' := s.toks) (fun _ _ q => Heap.get?_push_of_some _ q) (Nat.le_refl _) (dk_empty s.heap I.big)
  refine wpAny_Dict_walk (knd := Zq51 X.prog X.w) hall hl h0 h15 (thn (h pins _ σ _ _ I1 (q _ hn)) fun ws s2 ⟨ps, H2, I2, rel, e, kvs, ep, lk, q2⟩ => ?_)
  subst ep
  obtain ⟨rs, c, rk⟩ := carries_of (P := X.prog) (w := X.w) rel
  obtain ⟨z, hd, vs0, r0, dd⟩ := dk_of I2.hok e
  cases r0
  refine ⟨rs, c, dd, fun h' dd' hs => ⟨.ref s.heap.objs.size, _, ?_, rfl, q2⟩⟩
  have hz : (Zq212 [] kvs).length <= sizeLine := by
    have h1 := length_mergeK kvs []
    rw [List.length_nil] at h1
    rw [sizeLine_eq]; lia
  have he : ∃ q, h'.get? s.heap.objs.size = some q := let ⟨q, _, _, hq, _⟩ := dd'; ⟨q, hq⟩
  exact d_write I2 (by rw [e]; exact True.intro) hs he (dk_new hz hd (rk.merge .nil) dd')
structure M1 (X : Cx) (o : Expr) (m : Str) (apos : Pos) (e : Expr) (cpos : Pos) : Prop where
  base : attributeBase o m X.env (eval o X.env) = eval o X.env
  few : ((backTo cpos (starEach [e] X.env)).all (fun x => !x.1) && (backToKw cpos (keywordEach [] X.env)).all (fun x => x.1.isSome)
    && decide (([e] : List Expr).length + ([] : List Keyword).length + (if ([] : List Keyword).isEmpty then 0 else 1) < 30)) = true
  line : (apos.endLine == cpos.line) = true
  trees : backTo cpos (starEach [e] X.env) = [(false, eval e X.env)]
structure M2 (X : Cx) (o : Expr) (m : Str) (apos : Pos) (e f : Expr) (cpos : Pos) : Prop where
  base : attributeBase o m X.env (eval o X.env) = eval o X.env
  few : ((backTo cpos (starEach [e, f] X.env)).all (fun x => !x.1) && (backToKw cpos (keywordEach [] X.env)).all (fun x => x.1.isSome)
    && decide (([e, f] : List Expr).length + ([] : List Keyword).length + (if ([] : List Keyword).isEmpty then 0 else 1) < 30)) = true
  line : (apos.endLine == cpos.line) = true
  trees : backTo cpos (starEach [e, f] X.env) = [(false, eval e X.env), (false, eval f X.env)]
section
variable {X : Cx} {pins : List (Addr × Obj)} {σ : St} {H : Hp} {s : Shared} {a : Addr} {y d : V} {u r : Value} {o : Option V} {A : Around} {E : Value -> Shared -> Prop}
end
section
variable {X : Cx} {o e f : Expr} {apos cpos : Pos} {td ty tx : TE}
end
section
variable {X : Cx} {pins : List (Addr × Obj)} {σ : St} {H : Hp} {s : Shared} {a : Addr} {kvs : List (Key × V)} {A : Around} {E : Value -> Shared -> Prop}
end
section
variable {X : Cx} {pins : List (Addr × Obj)} {σ : St} {H : Hp} {s : Shared} {a : Addr} {y : V} {u : Value} {A : Around} {E : Value -> Shared -> Prop}
end
end L2
namespace Att
open PySem PySem.W PySem.Calls PyProof.Rows
theorem ints_of_wellAll {P : Params} {h : Heap} : ∀ (ns : List Int) (vs : List Value), WellAll P h vs (ns.map WData.int) -> IntsAre vs ns := by
  intro ns
  induction ns with
  | nil =>
    intro vs w
    rw [List.map_nil] at w
    cases w
    exact .nil
  | cons n ns ih =>
    intro vs w
    rw [List.map_cons] at w
    cases w with
    | cons a b =>
      cases a
      exact .cons _ _ (ih _ b)
theorem script_of {l : OpenLaw} {n : Nat} (hn : l.most = some n) {P : Params} {h : Heap} {args : List WData} {vals : List Value}
    (hpre : l.row.toRowW.claim.pre args = true) (hwl : WellAll P h vals args) :
    ∃ a vs ns, vals = [Value.ref a] /\ args = [WData.list (ns.map WData.int)] /\ h.get? a = some { cls := .type "list", data := .seq vs.toArray } /\ IntsAre vs ns /\ ns.length <= n := by
  have hsh : WShape.hasAll [] args [.list .int] = true := (pre_splitW hpre).1
  have hc : l.pre.holds [] { args := args } = true := (pre_splitW hpre).2
  obtain ⟨d, r, rfl, h1, h2⟩ := hasAllW_cons hsh
  obtain rfl := hasAllW_nil h2
  obtain ⟨xs, rfl, h3⟩ := hasW_list h1
  obtain ⟨ns, rfl⟩ := items_int h3
  have hlen : ns.length <= n := by
    unfold OpenLaw.pre at hc
    have h4 : (WTm.not (.lt (.lit (.int (n : Int))) (.len (.arg 0)))).holds [] { args := [.list (ns.map .int)] } = true := by
      have h4 := (holds_andW hc).1
      rw [hn] at h4
      exact h4
    have h5 := condW_of h4 (w_not (w_lt w_lit (w_len_list (w_arg rfl))))
    rw [List.length_map] at h5
    refine Nat.le_of_not_lt fun q => ?_
    have q' : (n : Int) < ((ns.length : Nat) : Int) := by lia
    first
      | (rw [decide_eq_true q'] at h5; exact absurd h5 (by decide))
      | (simp at h5; lia)
  cases hwl with
  | cons w1 w2 =>
    cases w2
    cases w1 with
    | list ho hall => exact ⟨_, _, ns, rfl, rfl, ho, ints_of_wellAll ns _ hall, hlen⟩
theorem post_true (l : OpenLaw) (args : List WData) : l.row.toRowW.claim.post args (.bool true) args = true :=
  postW_of (r := l.row.toRowW) (X := (true == true))
    (show WShape.has [] (.bool true) .bool = true by first | rfl | decide | simp [WShape.has, WShape.arms, WShape.armsAll])
    (show (WTm.eq .res (.lit (.bool true))).value [] { args := args, res := some (.bool true), after := args } = some (.bool (true == true)) from w_eq_bool (w_res rfl) w_lit) rfl
theorem attach_call {l : OpenLaw} {n : Nat} {q : Program} {loose : List Str} {XP : (Str -> Option Value) -> Heap -> Prop} {YP : World -> Heap -> Prop} {d : DefRec}
    (hn : l.most = some n) (hdf : d.params.defaults = [])
    (call : ∀ (w : World) (s₀ s₁ : Shared) (mg mb : Str -> Option Value) (fa : Addr) (o : Obj) (pm cd doc : Value) (a : Addr) (vs : List Value) (ns : List Int),
      Ground q loose [] XP w s₀ mg mb s₁.heap -> YP w s₁.heap ->
      s₁.heap.get? fa = some o -> o.data = .func (docDef d.name d.params d.body d.scope pm cd doc) -> s₁.heap.CodeRec cd d.name -> mg d.name = some (.ref fa) ->
      s₁.heap.get? a = some { cls := .type "list", data := .seq vs.toArray } -> IntsAre vs ns -> ns.length <= n -> s₁.gens = #[] ->
      codeAny (model l.prog w) callerA (.call (.ref fa) ⟨[.ref a], []⟩) (fun r s' => r = .ok (.ret (.bool true)) /\ OldK s₁.heap s'.heap /\ s'.os = s₁.os /\ AllBare s'.gens) s₁) :
    WalkO q loose XP YP l.row.toRowW d [] (fun f vs => PySem.call f vs) := by
  intro w s₀ s₁ mg mb G Y fa o pm cd doc dV kV ho hd hcd hD hmg hg args vals as hpre hlay hrd hwl hlo
  obtain rfl : dV = .none := Dflts.none hD hdf
  obtain rfl : kV = .none := Dflts.noKw hD
  obtain ⟨a, vs, ns, rfl, rfl, hobj, hints, hlen⟩ := script_of hn hpre hwl
  refine enter_call (codeAny_mono (call w s₀ s₁ mg mb fa o pm cd doc a vs ns G Y ho (fd_plain hd) hcd hmg hobj hints hlen hg) fun r s' hq => ?_)
  obtain ⟨rfl, h2, h3, h4⟩ := hq
  exact ⟨.inl ⟨.bool true, .bool true, [], rfl, fun _ => rfl, .bool true, post_true l _, fun _ => ⟨List.Pairwise.nil, fun _ hm => (nomatch hm)⟩⟩, h2, h3, h4⟩
section
variable {prog : Program} {w : World} {A : Around} {E : Value -> Shared -> Prop} {s : Shared} {K : Frag}
end
end Att
namespace L2
open PySem PySem.Spec PyProof.Rows
theorem vals_ints : ∀ {vs : List Value} {ns : List Int}, IntsAre vs ns -> Vals (ns.map V.int) vs
  | _, _, .nil => .nil
  | _, _, .cons n t h => .cons ⟨t, rfl⟩ (vals_ints h)
def Only (H : Hp) : Prop := ∀ b, H b = none \/ ∃ o xs, H b = some (.frz o (.lst xs))
theorem law_call {P : Program} {w : World} {K : PySem.W.Frag} {mg mb : Str -> Option Value} {CX : CXT} {k : Nat} {fa a : Addr} {fd : FuncData} {x : Str} {sp : Sp} {s₁ : Shared} {vs : List Value} {ns : List Int}
    (KX : K.In s₁.heap) (hns : s₁.heap.Ns mainGlobals mg) (hb : s₁.heap.Ns builtinsNs mb) (hbb : ∀ x : Str, x ≠ "__name__" -> mb x = bootBuiltins x) (hlim : s₁.heap.NoLimit) (hg : s₁.gens = #[])
    (ha : s₁.heap.get? a = some { cls := .type "list", data := .seq vs.toArray }) (hi : IntsAre vs ns) (hl : ns.length <= sizeLine) (hr : Room k callerA)
    (F : ∀ base : Heap, K.In base -> base.Ns mainGlobals mg -> FnOk P w K mg base CX k fa fd [x] sp) (hbind : ∀ (s : Shared) (u : Value), BindsTo s fd ⟨[u], []⟩ [(x, u)])
    (hsp : ∀ H : Hp, Only H -> SqL K H a (ns.map V.int) -> sp [.ref a] H (fun v _ => v = .bl true) fun _ _ _ => False)
    (hCX : ∀ H e s', CX [] H s₁ (fun _ _ _ => False) e s' -> False) :
    codeAny (model P w) callerA (.call (.ref fa) ⟨[.ref a], []⟩) (fun r s' => r = .ok (.ret (.bool true)) /\ OldK s₁.heap s'.heap /\ s'.os = s₁.os /\ AllBare s'.gens) s₁ := by
  have rv := vals_ints hi
  have lenV := hi.length
  have core : ∀ H : Hp, Only H -> SqL K H a (ns.map V.int) -> HOk P w H s₁.heap -> (∀ b, H b ≠ none -> b = a) -> (H a ≠ none -> K.lookup a = none) ->
      codeAny (model P w) callerA (.call (.ref fa) ⟨[.ref a], []⟩) (fun r s' => r = .ok (.ret (.bool true)) /\ OldK s₁.heap s'.heap /\ s'.os = s₁.os /\ AllBare s'.gens) s₁ := by
    intro H hO hS hok hA hK
    have base_of : ∀ {b : Addr} {o : Obj}, s₁.heap.get? b = some o -> H b = none -> (hidT s₁.heap H).get? b = some o := fun e n => hidT_get e n
    have noA : ∀ {b : Addr} {o : Obj} {es : Array DictEntry} {ep : Nat}, s₁.heap.get? b = some o -> o.data = .dict es ep -> H b = none := fun {b o es ep} e d => by
      cases q : H b with
      | none => rfl
      | some u =>
        have e' : b = a := hA b (by rw [q]; simp)
        subst e'
        rw [ha] at e; cases e
        have d' : Data.seq vs.toArray _ = Data.dict es ep := d
        cases d'
    have nsK : ∀ {b : Addr} {m : Str -> Option Value}, s₁.heap.Ns b m -> (hidT s₁.heap H).Ns b m := fun {b m} ⟨o, es, ep, e, d, r⟩ => ⟨o, es, ep, base_of e (noA e d), d, r⟩
    have hKb : K.In (hidT s₁.heap H) := fun b o e => base_of (KX b o e) (by
      cases q : H b with
      | none => rfl
      | some u =>
        have e' : b = a := hA b (by rw [q]; simp)
        subst e'
        rw [hK (by rw [q]; simp)] at e; cases e)
    have hM : Mod K mg (hidT s₁.heap H) := ⟨hKb, nsK hns, ⟨mb, nsK hb, hbb⟩, let ⟨mc, h1, h2⟩ := hlim; ⟨mc, nsK h1, h2⟩⟩
    have e0 : Env0 P w K mg (hidT s₁.heap H) callerA [] s₁ H := ⟨rfl, hM, fun b o e => of_hidT e, Nat.le_of_eq (hidT_size _ _), trivial, fun b hb => absurd (show b ∈ ([] : List Addr) from hb) (by simp), hok, .of_eq hg⟩
    refine codeAny_mono ((F _ hKb (nsK hns)).run callerA [] s₁ H ⟨[.ref a], []⟩ [.ref a] [.ref a] _ _ hr e0 (hbind s₁ (.ref a)) (.cons rfl .nil) (hsp H hO hS)) fun r s' h => ?_
    cases r with
    | error e => exact (hCX H e s' h).elim
    | ok fl =>
      cases fl with
      | next => exact False.elim h
      | brk => exact False.elim h
      | cont => exact False.elim h
      | ret u =>
        obtain ⟨v, H', os, bare, un, hok', r', q⟩ := h
        have q' : v = .bl true := q
        subst q'
        obtain rfl : u = Value.bool true := r'
        refine ⟨rfl, OldK.of_keep fun b o e => ?_, os, bare⟩
        cases q : H b with
        | none => exact un.keep b o e q (by intro z; exact absurd (show b ∈ ([] : List Addr) from z) (by simp)) (by simp)
        | some u =>
          rcases hO b with z | ⟨ob, xs, z⟩
          · rw [q] at z; cases z
          · have z2 := un.frzs b ob _ z
            obtain ⟨e1, _⟩ := hok b _ z
            obtain ⟨e2, _⟩ := hok' b _ z2
            rw [e] at e1; cases e1
            exact e2
  cases hk : K.lookup a with
  | some o =>
    have e := KX a o hk
    rw [ha] at e
    cases e
    refine core (fun _ => none) (fun _ => .inl rfl) (.inr ⟨_, vs.toArray, _, hk, rfl, rfl, rfl, by rw [List.size_toArray, lenV]; exact hl, by simpa using rv⟩) (fun b u z => by have z' : (none : Option HO) = some u := z; cases z') (fun b z => absurd rfl z) fun z => absurd rfl z
  | none =>
    refine core (fun b => if b = a then some (.frz { cls := .type "list", data := .seq vs.toArray } (.lst (ns.map V.int))) else none) (fun b => ?_) (.inl (.inr ⟨{ cls := .type "list", data := .seq vs.toArray }, if_pos rfl⟩)) (fun b u z => ?_) (fun b z => ?_) fun _ => hk
    · by_cases hb : b = a
      · exact .inr ⟨_, _, if_pos hb⟩
      · exact .inl (if_neg hb)
    · by_cases hb : b = a
      · have z' := (if_pos hb).symm.trans z
        cases z'
        subst hb
        exact ⟨ha, by rw [List.length_map]; exact hl, vs, _, rv, ha⟩
      · have z' := (if_neg hb).symm.trans z
        cases z'
    · by_cases hb : b = a
      · exact hb
      · exact absurd (if_neg hb) z
end L2
namespace L2
open PySem PySem.Spec PyProof.Rows
theorem walk_of {l : PySem.W.OpenLaw} {n k : Nat} {q : Program} {loose : List Str} {XP : (Str -> Option Value) -> Heap -> Prop} {YP : World -> Heap -> Prop} {d : DefRec} {K : Params -> PySem.W.Frag} {CX : World -> CXT} {sp : World -> Sp} {x : Str}
    (hn : l.most = some n) (hn2 : n <= sizeLine) (hdf : d.params.defaults = []) (hr : Room k callerA)
    (hY : ∀ (w : World) (h : Heap), YP w h -> (K w.params).In h)
    (F : ∀ (w : World) (mg : Str -> Option Value) (fa : Addr) (h : Heap), (K w.params).In h -> h.Ns mainGlobals mg -> mg d.name = some (.ref fa) ->
      ∃ fd : FuncData, (∀ (s : Shared) (u : Value), BindsTo s fd ⟨[u], []⟩ [(x, u)]) /\
        ∀ base : Heap, (K w.params).In base -> base.Ns mainGlobals mg -> FnOk l.prog w (K w.params) mg base (CX w) k fa fd [x] (sp w))
    (hsp : ∀ (w : World) (H : Hp) (a : Addr) (ns : List Int), ns.length <= n -> Only H -> SqL (K w.params) H a (ns.map V.int) -> sp w [.ref a] H (fun v _ => v = .bl true) fun _ _ _ => False)
    (hCX : ∀ (w : World) (H : Hp) (s : Shared) (e : Value) (s' : Shared), CX w [] H s (fun _ _ _ => False) e s' -> False) :
    PySem.W.WalkO q loose XP YP l.row.toRowW d [] (fun f vs => PySem.call f vs) := by
  refine Att.attach_call hn hdf fun w s₀ s₁ mg mb fa o pm cd doc a vs ns G Y ho hd hcd hmg hobj hints hlen hg => ?_
  have KX := hY w _ Y
  obtain ⟨fd, hb, hF⟩ := F w mg fa _ KX G.T.g hmg
  exact law_call KX G.T.g G.T.b G.T.builtins G.T.nolimit hg hobj hints (Nat.le_trans hlen hn2) hr hF hb (fun H hO hS => hsp w H a ns hlen hO hS) fun H e s' => hCX w H s₁ e s'
end L2
/- THE LAST THEOREM (shape; LID, My.* are yours):
   My.Adr: a structure of the addresses that your layer names (classes, functions); My.Txt K t: a structure (Prop) of the equations over K;
   My.txt_mk : {K} {implicit addresses ..} (e1 : nsIn K mainGlobals "law" = some (some (.ref f))) (e2 : K.lookup f = some ⟨oc, od, .func (fnOf "law" "law" params body scope dV kV doc pm an cdv ct), sl⟩) (e3 : codeIn K cdv "law" = true) .. : ∃ t, My.Txt K t
set_option maxRecDepth 100000 in
set_option maxHeartbeats 0 in
theorem PySem.Challenge.cw_LID_holds : PySem.Challenge.rw_LID.Holds := by
  w_on; o_law; k_head; (case hw => w_witness2)
  k_fill
  refine L2.walk_of (l := PySem.Challenge.rw_LID) (n := 63) (k := 40) (x := "script") (CX := fun w => ..) (sp := fun _ => My.sp_law) rfl (by decide) rfl ⟨rfl, by decide, by decide⟩ (fun w h Y => PySem.W.kIn_of Y) ?F ?S ?C
  case F =>
    intro w mg fa h KX G hmg
    have T : ∃ t, My.Txt (L2.KOf KX) t := by
      dsimp only [L2.KOf]                          -- K must stand as «<heap const> w.params» for k_is
      refine' My.txt_mk ?e1 ?e2 ?e3 ..
      (case e1 => PySem.W.k_is)                    -- in the order: a name -> its address -> its object -> its parts
      (case e2 => PySem.W.k_is)
      ..
    obtain ⟨t, T⟩ := T
    have e0 := hmg.symm.trans (PySem.W.mg_of KX G T.law)
    cases e0                                       -- fa is the law's own address
    exact ⟨_, fun s u => .of_eq rfl, fun base kb nb => My.law_fn T kb nb⟩     -- if «.of_eq rfl» comes too early: refine' ⟨_, ?b, fun base kb nb => My.law_fn T kb nb⟩; exact fun s u => .of_eq rfl
  case S => exact fun w H a ns hl hO hS => ..
  case C => exact ..
(the tactic k_is has no namespace: write k_is) -/
namespace L2
open PySem PySem.Spec PyProof.Rows
def Zq63 (s : Stmt) (j : Nat) : Stmt := match s with
  | .ClassDef _ _ _ body _ _ _ _ _ _ _ => body.getD j (.Pass ⟨0, 0, 0, 0⟩)
  | _ => .Pass ⟨0, 0, 0, 0⟩
def Zq112 (s : Stmt) : Arguments := match s with
  | .FunctionDef _ a _ _ _ _ _ _ _ _ => a
  | _ => { posonlyargs := [], args := [], vararg := none, kwonlyargs := [], kw_defaults := [], kwarg := none, defaults := [] }
def Zq47 (s : Stmt) : List Stmt := match s with
  | .FunctionDef _ _ b _ _ _ _ _ _ _ => b
  | _ => []
def Zq1 (s : Stmt) : Scope := match s with
  | .FunctionDef _ _ _ _ _ _ sc _ _ _ => sc
  | _ => { kind := .function, names := [], isGenerator := false, isCoroutine := false }
abbrev CX0 : CXT := fun _ _ _ _ _ _ => False
abbrev E0 : XK := fun _ _ _ => False
theorem pass0 {X : Cx} : Zq227 CX0 X E0 := fun _ _ _ _ _ _ _ h => h.elim
structure Fun (K : PySem.W.Frag) (x qual : Str) (st : Stmt) (f : Addr) (fd : FuncData) : Prop where
  ex : ∃ (oc : Value) (od : Option Addr) (kV doc pm : Value) (an : Option Addr) (cdv ct : Value) (osl : Array (Option Value)),
    fd = PySem.W.fnOf x qual (Zq112 st) (Zq47 st) (Zq1 st) .none kV doc pm an cdv ct /\ K.lookup f = some ⟨oc, od, .func fd, osl⟩ /\ PySem.W.codeIn K cdv qual = true
  kp : PySem.W.keepIn K (.ref f) = true
section
variable {P : Program} {w : World} {K : PySem.W.Frag} {mg : Str -> Option Value} {base : Heap}
theorem Fun.ok {x qual : Str} {st : Stmt} {f : Addr} {fd : FuncData} {N ps : List Str} {k : Nat} {sp : Sp} (F : Fun K x qual st f fd) (S : FnScope N ps (Zq1 st)) (len : ∀ vs H Q E, sp vs H Q E -> vs.length = ps.length)
    (hbody : ∀ (cdv : Value) (A : Around) (outer : List Env) (s : Shared) (H : Hp) (vs : List V) (Q : VK) (E : XK), Room k (A.deeper (envOfC qual (Zq1 st) s.heap.objs.size f cdv)) -> sp vs H Q E ->
      ∃ t, PSs (cxOf CX0 P w K mg base N qual (Zq1 st) f cdv A outer s H E).nox (Zq47 st) t /\ t { nx := fun _ H' => Q .non H', rt := Q } (start N vs) H) : FnOk P w K mg base CX0 (k + 1) f fd ps sp := by
  obtain ⟨oc, od, kV, doc, pm, an, cdv, ct, osl, rfl, lk, hcd⟩ := F.ex
  refine fn_of lk hcd S len fun A outer s H vs Q E hr hsp => ?_
  obtain ⟨t, h, q⟩ := hbody cdv A outer s H vs Q E hr hsp
  exact ⟨t, h.nox, q⟩
theorem Fun.binds {x qual : Str} {st : Stmt} {f : Addr} {fd : FuncData} {ps : List Str} (F : Fun K x qual st f fd)
    (h : ∀ (kV doc pm : Value) (an : Option Addr) (cdv ct : Value) (us : List Value), us.length = ps.length -> bindArgs (PySem.W.fnOf x qual (Zq112 st) (Zq47 st) (Zq1 st) .none kV doc pm an cdv ct) ⟨us, []⟩ = pure (ps.zip us)) : Binds K fd ps [] := by
  obtain ⟨oc, od, kV, doc, pm, an, cdv, ct, osl, rfl, lk, hcd⟩ := F.ex
  exact .all (h kV doc pm an cdv ct)
theorem fun_mk {x qual : Str} {st : Stmt} {f : Addr} {oc : Value} {od an : Option Addr} {osl : Array (Option Value)} {kV doc pm cdv ct : Value} (l : K.lookup f = some ⟨oc, od, .func (PySem.W.fnOf x qual (Zq112 st) (Zq47 st) (Zq1 st) .none kV doc pm an cdv ct), osl⟩)
    (c : PySem.W.codeIn K cdv qual = true) (k : PySem.W.keepIn K (.ref f) = true) : Fun K x qual st f (PySem.W.fnOf x qual (Zq112 st) (Zq47 st) (Zq1 st) .none kV doc pm an cdv ct) := ⟨⟨oc, od, kV, doc, pm, an, cdv, ct, osl, rfl, l, c⟩, k⟩
end
section
variable {X : Cx}
end
theorem iteF {A B : Prop} (h : B) : if false = true then A else B := by
  rw [if_neg Bool.false_ne_true]
  exact h
theorem iteT {A B : Prop} (h : A) : if true = true then A else B := by
  rw [if_pos rfl]
  exact h
def Same (H H' : Hp) : Prop := ∀ b o, H b = some o -> H' b = some o
theorem Same.refl (H : Hp) : Same H H := fun _ _ h => h
theorem Same.trans {H H1 H2 : Hp} (a : Same H H1) (b : Same H1 H2) : Same H H2 := fun c o h => b c o (a c o h)
theorem Same.free {H H' : Hp} (e : Same H H') {l : Addr} (h : H' l = Option.none) : H l = Option.none := by
  cases q : H l with
  | none => rfl
  | some o =>
    rw [e l o q] at h
    cases h
end L2
namespace L2
open PySem PySem.Spec PyProof.Rows
section
variable {X : Cx}
theorem call_lenD : Zq167 X (.builtin "len") (fun xs H Q => ∃ a kvs, xs = [V.ref a] /\ H a = some (.dK kvs) /\ Q (.int kvs.length) H) := by
  intro pins s σ H xs us Q I r h
  obtain ⟨a, kvs, rfl, ha, q⟩ := h
  obtain ⟨u, rfl, ru⟩ := Zq236 r
  cases ru
  exact d_len I (.inl ha) fun t s' I' => ⟨.int kvs.length, H, I', ⟨t, rfl⟩, q⟩
end
section
variable {κ : Type} [DecidableEq κ]
theorem nd_snoc : ∀ {l : List κ} {k : κ}, l.Nodup -> ¬ k ∈ l -> (l ++ [k]).Nodup
  | [], k, _, _ => by simp
  | a :: r, k, h, hk => by
    obtain ⟨h1, h2⟩ := List.nodup_cons.mp h
    show (a :: (r ++ [k])).Nodup
    refine List.nodup_cons.mpr ⟨fun m => ?_, nd_snoc h2 fun m => hk (List.mem_cons.mpr (Or.inr m))⟩
    rcases List.mem_append.mp m with q | q
    · exact h1 q
    · exact hk (List.mem_cons.mpr (Or.inl (List.mem_singleton.mp q).symm))
end
end L2
end
section
set_option Elab.async false
set_option linter.all false
set_option maxRecDepth 100000
set_option maxHeartbeats 4000000
namespace L2
open PySem PySem.Spec PyProof.Rows
abbrev ccx (X : Cx) (scope : Scope) (cl : List (Str × Addr)) (C : Addr) (N' : List Str) (s2 : Shared) (H2 : Hp) (ex : List Addr) (pn : List (Addr × Obj)) : Cx where
  prog := X.prog
  w := X.w
  K := X.K
  mg := X.mg
  base := X.base
  A := X.A
  N := N'
  s₀ := s2
  H₀ := H2
  env := compEnvC scope cl C X.env
  outer := X.stack
  stack := X.stack
  ex := ex
  fn := fun _ => false
  calm := X.calm
  pn := pn
  xe := fun _ _ => False
theorem closure_go (env : Env) : ∀ (l : List (Str × NameKind)) (cs : List (Str × Addr)), (∀ p ∈ l, p.2 = .free -> ∃ c, env.cells.lookup p.1 = some c) ->
    ∃ cl, (forIn l cs (fun (x : Str × NameKind) (r : List (Str × Addr)) => if (x.2 == NameKind.free) = true then (do let a ← cellOf env x.1; pure (ForInStep.yield ((x.1, a) :: r)) : Sem (ForInStep (List (Str × Addr)))) else pure (ForInStep.yield r)) : Sem _) = pure cl /\
      (∀ x c, cl.lookup x = some c -> env.cells.lookup x = some c \/ cs.lookup x = some c) /\ (∀ x, ((x, NameKind.free) ∈ l \/ ∃ c, cs.lookup x = some c) -> ∃ c, cl.lookup x = some c)
  | [], cs, _ => ⟨cs, rfl, fun x c h => .inr h, fun x h => h.elim (fun z => nomatch z) id⟩
  | (n, k) :: r, cs, h => by
    have hr : ∀ p ∈ r, p.2 = .free -> ∃ c, env.cells.lookup p.1 = some c := fun p hp => h p (List.mem_cons_of_mem _ hp)
    by_cases hk : k = .free
    · subst hk
      obtain ⟨c, hc⟩ := h (n, .free) List.mem_cons_self rfl
      obtain ⟨cl, e, h1, h2⟩ := closure_go env r ((n, c) :: cs) hr
      refine ⟨cl, ?_, fun x d hx => ?_, fun x hx => ?_⟩
      · rw [List.forIn_cons]
        have e2 : cellOf env n = pure c := by unfold cellOf; rw [hc]
        simp only [beq_self_eq_true, if_true, e2, pure_bind]
        exact e
      · rcases h1 x d hx with z | z
        · exact .inl z
        · rw [List.lookup_cons] at z
          cases q : x == n with
          | true =>
            rw [q] at z
            cases z
            have : x = n := by simpa using q
            subst this
            exact .inl hc
          | false =>
            rw [q] at z
            exact .inr z
      · apply h2
        rcases hx with hx | ⟨d, hx⟩
        · rcases List.mem_cons.mp hx with z | z
          · cases z
            exact .inr ⟨c, by rw [List.lookup_cons]; simp⟩
          · exact .inl z
        · right
          rw [List.lookup_cons]
          cases q : x == n with
          | true => exact ⟨c, rfl⟩
          | false => exact ⟨d, hx⟩
    · obtain ⟨cl, e, h1, h2⟩ := closure_go env r cs hr
      refine ⟨cl, ?_, h1, fun x hx => h2 x ?_⟩
      · rw [List.forIn_cons]
        have e2 : (k == NameKind.free) = false := by simpa using hk
        simp only [e2, Bool.false_eq_true, if_false, pure_bind]
        exact e
      · rcases hx with hx | hx
        · rcases List.mem_cons.mp hx with z | z
          · cases z
            exact absurd rfl hk
          · exact .inl z
        · exact .inr hx
theorem closure_of {scope : Scope} {env : Env} (h : ∀ p ∈ scope.names, p.2 = .free -> ∃ c, env.cells.lookup p.1 = some c) :
    ∃ cl, closureFor scope env = pure cl /\ (∀ x c, cl.lookup x = some c -> env.cells.lookup x = some c) /\ (∀ x, (x, NameKind.free) ∈ scope.names -> ∃ c, cl.lookup x = some c) := by
  obtain ⟨cl, e, h1, h2⟩ := closure_go env scope.names [] h
  refine ⟨cl, ?_, fun x c hx => (h1 x c hx).elim id (fun z => nomatch z), fun x hx => h2 x (.inl hx)⟩
  unfold closureFor
  have e' := congrArg (fun m : Sem (List (Str × Addr)) => m >>= fun r => pure r) e
  simp only [pure_bind] at e'
  exact e'
theorem lookup_relabel {env : Env} {kk : NameKind} (hkk : kk ≠ .free) : ∀ {names : List (Str × NameKind)} {x : Str}, names.lookup x = some kk ->
    (names.map fun (n, k) => if (k == NameKind.free && env.scope.kind == .function && env.kindOf n == some .cell) then (n, NameKind.cell) else (n, k)).lookup x = some kk
  | [], _, h => by simp at h
  | (n, k) :: r, x, h => by
    have ih := @lookup_relabel env kk hkk r x
    show List.lookup x ((if (k == NameKind.free && env.scope.kind == .function && env.kindOf n == some .cell) = true then (n, NameKind.cell) else (n, k)) :: _) = _
    cases hx : x == n with
    | true =>
      simp only [List.lookup_cons, hx] at h
      have h : some k = some kk := h
      have h' : k = kk := Option.some.inj h
      subst h'
      have e : (k == NameKind.free) = false := by simpa using hkk
      rw [e, Bool.false_and, Bool.false_and, if_neg Bool.false_ne_true, List.lookup_cons, hx]
    | false =>
      simp only [List.lookup_cons, hx] at h
      by_cases hc : (k == NameKind.free && env.scope.kind == .function && env.kindOf n == some .cell) = true
      · rw [if_pos hc]; simp only [List.lookup_cons, hx]; exact ih h
      · rw [if_neg hc]; simp only [List.lookup_cons, hx]; exact ih h
theorem lookup_relabel_free {env : Env} : ∀ {names : List (Str × NameKind)} {x : Str}, names.lookup x = some .free ->
    ((names.map fun (n, k) => if (k == NameKind.free && env.scope.kind == .function && env.kindOf n == some .cell) then (n, NameKind.cell) else (n, k)).lookup x = some .cell) \/
    ((names.map fun (n, k) => if (k == NameKind.free && env.scope.kind == .function && env.kindOf n == some .cell) then (n, NameKind.cell) else (n, k)).lookup x = some .free)
  | [], _, h => by simp at h
  | (n, k) :: r, x, h => by
    have ih := @lookup_relabel_free env r x
    show (List.lookup x ((if (k == NameKind.free && env.scope.kind == .function && env.kindOf n == some .cell) = true then (n, NameKind.cell) else (n, k)) :: _) = _) \/ (List.lookup x ((if (k == NameKind.free && env.scope.kind == .function && env.kindOf n == some .cell) = true then (n, NameKind.cell) else (n, k)) :: _) = _)
    cases hx : x == n with
    | true =>
      simp only [List.lookup_cons, hx] at h
      cases h
      by_cases hc : (NameKind.free == NameKind.free && env.scope.kind == .function && env.kindOf n == some .cell) = true
      · rw [if_pos hc]; simp [List.lookup_cons, hx]
      · rw [if_neg hc]; simp [List.lookup_cons, hx]
    | false =>
      simp only [List.lookup_cons, hx] at h
      by_cases hc : (k == NameKind.free && env.scope.kind == .function && env.kindOf n == some .cell) = true
      · rw [if_pos hc]; simp only [List.lookup_cons, hx]; exact ih h
      · rw [if_neg hc]; simp only [List.lookup_cons, hx]; exact ih h
theorem relabel_mem {env : Env} {scope : Scope} {x : Str} (hcell : ∀ y ∈ scope.names, y.2 ≠ .cell) (h : (relabel scope env).names.lookup x = some .cell \/ (relabel scope env).names.lookup x = some .free) : (x, NameKind.free) ∈ scope.names := by
  have m : ∃ k', (k' = NameKind.cell \/ k' = NameKind.free) /\ (x, k') ∈ (relabel scope env).names := by
    rcases h with h | h
    · exact ⟨_, .inl rfl, PySem.mem_of_lookup h⟩
    · exact ⟨_, .inr rfl, PySem.mem_of_lookup h⟩
  obtain ⟨k', hk, m⟩ := m
  obtain ⟨⟨n, k⟩, hm, e⟩ := List.mem_map.mp m
  have e : (if (k == NameKind.free && env.scope.kind == .function && env.kindOf n == some .cell) = true then (n, NameKind.cell) else (n, k)) = (x, k') := e
  by_cases hc : (k == NameKind.free && env.scope.kind == .function && env.kindOf n == some .cell) = true
  · rw [if_pos hc] at e
    cases e
    have : k = .free := by
      cases k <;> simp at hc ⊢
    rw [← this]; exact hm
  · rw [if_neg hc] at e
    cases e
    rcases hk with z | z
    · exact absurd z (hcell _ hm)
    · rw [← z]; exact hm
section
variable {prog : Program} {w : World} {A : Around} {E : Value -> Shared -> Prop} {R : Result -> Shared -> Prop} {s : Shared}
theorem codeAny_compLoop_go {elt target iter : Expr} {ifs : List Expr} {scope : Scope} {pos : Pos} {it acc : Value} {env : Env} (I : Nat -> Shared -> Prop)
    (turn : ∀ n s, I n s -> wpAny (model prog w) A (pyNext it) (fun r s₁ => match r with
      | none => R (.ok .next) s₁
      | some v => wpAny (model prog w) A (letOwnedTupleGo target it v) (fun _ s1 => wpAny (model prog w) A (assign target env v) (fun _ s₂ =>
          wpAny (model prog w) A (forIn ifs true fun c r => if r = true then do let ok ← isTrue c env (eval c env); pure (ForInStep.yield ok) else pure (ForInStep.yield r)) (fun ok s₃ =>
            if ok = true then wpAny (model prog w) A (eval elt env) (fun x s₄ =>
              wpAny (model prog w) A (call (.builtin "list.append") [acc, x]) (fun _ s₅ => ∃ m, m < n /\ I m s₅) (fun _ _ => False) s₄) (fun _ _ => False) s₃
            else ∃ m, m < n /\ I m s₃) (fun _ _ => False) s₂) (fun _ _ => False) s1) (fun _ _ => False) s₁) (fun _ _ => False) s)
    (n : Nat) (h : I n s) :
    codeAny (model prog w) A (.compLoop (.ListComp elt [⟨target, iter, ifs, 0⟩] scope pos) 0 it acc env) R s := by
  refine codeAny_loop rfl I (fun n s hI => ?_) n h
  show wpAny _ A ((compTurn (.ListComp elt [⟨target, iter, ifs, 0⟩] scope pos) 0 it acc env).onRaise (fun x => do noteFrame x env; theTreesLotGoes x)) _ _ s
  refine wpAny_noted ?_
  rw [compTurn_list]
  refine wpAny_bind (wpAny_standAt (wpAny_bind (wpAny_mono (turn n s hI) (fun r s₁ h₁ => ?_) fun _ _ h' => h'.elim)))
  cases r with
  | none => exact wpAny_pure h₁
  | some v =>
    refine wpAny_bind (wpAny_mono h₁ (fun _ s1 h1 => ?_) fun _ _ h' => h'.elim)
    refine wpAny_bind (wpAny_mono h1 (fun _ s₂ h₂ => wpAny_bind (wpAny_mono h₂ (fun ok s₃ h₃ => ?_) fun _ _ h' => h'.elim)) fun _ _ h' => h'.elim)
    cases ok with
    | false => exact wpAny_pure ⟨rfl, h₃⟩
    | true =>
      exact wpAny_bind (wpAny_bind (wpAny_mono h₃ (fun x s₄ h₄ => wpAny_bind (wpAny_mono h₄ (fun _ s₅ h₅ => wpAny_pure (wpAny_pure ⟨rfl, h₅⟩)) fun _ _ h' => h'.elim)) fun _ _ h' => h'.elim))
end
abbrev TTs := St -> Hp -> (Bool -> Hp -> Prop) -> Prop
def PTs (X : Cx) (ifs : List Expr) (t : TTs) : Prop :=
  ∀ (pins : List (Addr × Obj)) (s : Shared) (σ : St) (H : Hp) (Q : Bool -> Hp -> Prop), Inv X pins σ H s -> t σ H Q ->
    wpAny (model X.prog X.w) X.A (forIn ifs true fun c r => if r = true then do let ok ← isTrue c X.env (eval c X.env); pure (ForInStep.yield ok) else pure (ForInStep.yield r)) (TP X pins σ Q) X.xe s
theorem pts_nil {X : Cx} : PTs X [] (fun _ H Q => Q true H) := fun _ _ _ H _ I h => wpAny_tests_nil ⟨H, I, h⟩
theorem pts_one {X : Cx} {c : Expr} {t : TT} (h : PT X c t) : PTs X [c] t := fun pins s σ H Q I hw => wpAny_tests_one (h pins s σ H Q I hw)
structure FrOk (X : Cx) (scope : Scope) (fr : List (Str × Nat)) : Prop where
  slots : ∀ p ∈ fr, X.N[p.2]? = some p.1 /\ (X.env.kindOf p.1 = some .cell \/ X.env.kindOf p.1 = some .free)
  kind : ∀ p ∈ fr, scope.names.lookup p.1 = some .free
def inN (locs : List Str) (fr : List (Str × Nat)) : List Str := locs ++ fr.map (·.1)
def inS (locs : List Str) (fr : List (Str × Nat)) (σ : St) : St := List.replicate locs.length none ++ fr.map fun p => (σ[p.2]?).join
def inF (fr : List (Str × Nat)) (σ : St) : St := fr.map fun p => (σ[p.2]?).join
def Zq225 (n : Nat) (fv : St) (g : TG) (tt : TTs) (te : TE) (x : V) (H : Hp) (Y : V -> Hp -> Prop) (N : Hp -> Prop) : Prop :=
  ∀ ls : St, ls.length = n -> g x (ls ++ fv) H fun σ2 H2 => (∃ l2 : St, l2.length = n /\ σ2 = l2 ++ fv) /\ tt σ2 H2 fun b H3 => if b = true then te σ2 H3 Y else N H3
def tCompW (J : It) (n : Nat) (fv : St) (g : TG) (tt : TTs) (te : TE) (Q : VK) (H1 : Hp) : Prop := ∃ W : Nat -> Nat -> List V -> Hp -> Prop, (∃ m, W 0 m [] H1) /\ ∀ i m ys H, W i m ys H ->
  (J.stop i H /\ ys.length <= sizeLine /\ ∀ l, H l = none -> Q (.ref l) (upd H l (.lst ys))) \/
  (J.go i H /\ ys.length < sizeLine /\ ∃ m', m' < m /\ ∀ x H', J.yld i H x H' -> Zq225 n fv g tt te x H' (fun y H4 => W (i + 1) m' (ys ++ [y]) H4) fun H3 => W (i + 1) m' ys H3)
def tComp (n : Nat) (fr : List (Str × Nat)) (wi : TI) (g : TG) (tt : TTs) (te : TE) : TE := fun σ H Q => wi σ H fun J H1 => tCompW J n (inF fr σ) g tt te Q H1
theorem hok_add {P : Program} {w : World} {H : Hp} {h : Heap} {D : Addr} {o : HO} (ok : HOk P w H h) (hn : H D = none) (new : ObjOk P w (upd H D o) h D o) : HOk P w (upd H D o) h := fun b u e => by
  by_cases hb : b = D
  · subst hb; rw [Zq7] at e; cases e; exact new
  · rw [Zq6 hb] at e
    exact (ok b u e).stay (fun _ _ _ q => q) (fun c q => by rw [Zq6 (Zq13 q hn)]; exact q) fun c xs q => by rw [Zq6 (Zq13 q hn)]; exact q
section
variable {X : Cx} {tg elt iter : Expr} {ifs : List Expr} {scope : Scope} {pos : Pos} {locs : List Str} {fr : List (Str × Nat)} {g : TG} {tt : TTs} {te : TE}
theorem comp_core {pins : List (Addr × Obj)} {σ : St} {H1 : Hp} {s2 : Shared} {it : Addr} {fp : List Addr} {tn : Nat -> Heap -> Prop} {J : It} {cl : List (Str × Addr)} {E : Value -> Shared -> Prop}
    {RR : Value -> Addr -> Result -> Shared -> Prop} {QQ : List V -> Hp -> Prop}
    (hc : X.calm = true) (hkind : scope.kind = .function) (hcell : ∀ y ∈ scope.names, y.2 ≠ .cell) (hlo : ∀ x ∈ locs, scope.names.lookup x = some .local) (F : FrOk X scope fr) (hnd : (inN locs fr).Nodup)
    (cl1 : ∀ x c, cl.lookup x = some c -> X.env.cells.lookup x = some c) (cl2 : ∀ x, (x, NameKind.free) ∈ scope.names -> ∃ c, cl.lookup x = some c)
    (inner : ∀ (C : Addr) (s0 : Shared) (H0 : Hp) (ex : List Addr) (pn : List (Addr × Obj)), PG (ccx X scope cl C (inN locs fr) s0 H0 ex pn) tg g /\ PTs (ccx X scope cl C (inN locs fr) s0 H0 ex pn) ifs tt /\ PE (ccx X scope cl C (inN locs fr) s0 H0 ex pn) elt te)
    (I : Inv X pins σ H1 s2) (T : Turn X.prog X.w X.K tg J fp it tn) (st0 : tn 0 s2.heap) (hf : ∀ b ∈ fp, FpOk X pins H1 b)
    {W : Nat -> Nat -> List V -> Hp -> Prop} (w0 : ∃ m, W 0 m [] H1) (turn : ∀ i m ys H, W i m ys H ->
      (J.stop i H /\ ys.length <= sizeLine /\ QQ ys H) \/
      (J.go i H /\ ys.length < sizeLine /\ ∃ m', m' < m /\ ∀ x H', J.yld i H x H' -> Zq225 locs.length (inF fr σ) g tt te x H' (fun y H4 => W (i + 1) m' (ys ++ [y]) H4) fun H3 => W (i + 1) m' ys H3))
    (hRR : ∀ (D C : Addr) (ys : List V) (H' : Hp) (s' : Shared) (m : Str -> Option Value), H' D = none -> D ≠ C -> Inv X pins σ (upd H' D (.lst ys)) s' -> FpOk X pins (upd H' D (.lst ys)) C -> s'.heap.Ns C m -> QQ ys H' -> RR (.ref D) C (.ok .next) s') :
    wpAny (model X.prog X.w) X.A (newList []) (fun acc s₃ => wpAny (model X.prog X.w) X.A (newFunctionEnv scope X.env.globals cl [] X.env.qual none .none (some X.env)) (fun cenv s₄ =>
      codeAny (model X.prog X.w) X.A (.compStart (.ListComp elt [⟨tg, iter, ifs, 0⟩] scope pos) 0 (.ref it) acc { cenv with scope := relabel scope X.env }) (RR acc cenv.locals) s₄) E s₃) E s2 := by
  refine wpAny_newObj_type (wpAny_newFunctionEnv hcell (by intro y hy; simp at hy) (fun h₁ hns₁ hsb₁ => ?_) hkind)
  dsimp only at hns₁ hsb₁ ⊢
  generalize hH2 : s2.heap.push { cls := .type "list", dict := none, data := .seq ([] : List Value).toArray } = Hq at hns₁ hsb₁ ⊢
  have hC : Hq.objs.size = s2.heap.objs.size + 1 := by rw [← hH2, Heap.size_push]
  generalize hDe : s2.heap.objs.size = D at hC ⊢
  generalize hCe : Hq.objs.size = C at hC hns₁ hsb₁ ⊢
  have hDC : D ≠ C := by lia
  have below : ∀ b, b < D -> b ≠ C /\ b ≠ D := fun b hb => ⟨by lia, by lia⟩
  have ltD : ∀ {b : Addr} {o : Obj}, s2.heap.get? b = some o -> b < D := fun e => hDe ▸ Heap.lt_size e
  have old : ∀ b o, s2.heap.get? b = some o -> h₁.get? b = some o := fun b o e => hsb₁.extBut b o (below b (ltD e)).1 (Heap.get?_push_of_some _ (hH2 ▸ Heap.get?_push_of_some _ e))
  have hacc : h₁.PlainList D #[] := ⟨_, hsb₁.extBut _ _ hDC (Heap.get?_push_of_some _ (by subst hDe; exact hH2 ▸ Heap.get?_push_size _ rfl))⟩
  let X' : Cx := ccx X scope cl C (inN locs fr) s2 H1 fp (X.pn ++ pins)
  have ltC : s2.heap.objs.size <= C := by rw [hDe, hC]; exact Nat.le_succ _
  have fpC : FpOk X pins H1 C := I.fpOk ltC (I.hok.fresh ltC)
  have fpD : FpOk X pins H1 D := I.fpOk (Nat.le_of_eq hDe) (I.hok.fresh (Nat.le_of_eq hDe))
  have stkN : ∀ b, b ≠ X.env.locals -> b ∉ X.fs -> b ∉ frs X.stack := fun b h1 h2 z => (List.mem_cons.mp (I.stkSub b z)).elim h1 h2
  have ok' : X'.Ok := by
    refine ⟨I.ok.mod, hkind, I.ok.glob, I.ok.blt, ltC, fun x y c h1 h2 => I.ok.inj x y c (cl1 x c h1) (cl1 y c h2), fun x hx => ?_, fun x c h => ?_, I.ok.hd, I.ok.frames, .inl rfl, fun b hb => ?_, fun b o e => I.bs b o e, Nat.le_trans I.ok.bsz I.sz, fun b o e hb => ?_, fun b hb => ?_, I.stack, I.stkFree⟩
    · obtain ⟨c, hcc⟩ := cl2 x (relabel_mem hcell hx)
      exact ⟨c, hcc⟩
    · cases h
    · refine ⟨fun z => ?_, fun x c e => (hf b hb).2.2.2.2.1 x c (cl1 x c e)⟩
      obtain ⟨o, ho, _⟩ := T.obj _ _ st0 b hb
      have z' : b = C := z
      exact (below b (ltD ho)).1 z'
    · have hb' := hf b hb
      rcases hb'.2.2.2.1 with z | z
      · exact I.ok.noex b o e z
      · exact absurd (Nat.lt_of_lt_of_le (Heap.lt_size e) (Nat.le_trans I.ok.bsz z)) (Nat.lt_irrefl _)
    · exact stkN b (hf b hb).2.1 (hf b hb).2.2.1
  have I1 : Inv X' [] (inS locs fr σ) H1 { s2 with heap := h₁, toks := s2.toks + ([] : List (Str × Value)).length } := by
    refine ⟨ok', I.os.symm ▸ rfl, I.bare, Un.kept old, ⟨_, hns₁, fun i x v h1 h2 h3 => ?_⟩, fun x c e => ?_, I.hok.fresh ltC, fun x c e => I.freeC x c (cl1 x c e), fun p hp => ?_, I.hok.kept old, ?_⟩
    · -- a slot of the block that has a value is a free name's
      have hge : locs.length <= i := by
        by_cases hi : i < locs.length
        · unfold inS at h2
          rw [List.getElem?_append_left (by simpa using hi), List.getElem?_replicate, if_pos hi] at h2
          cases h2
        · lia
      have h1' : (fr.map (·.1))[i - locs.length]? = some x := by
        have h1 : (inN locs fr)[i]? = some x := h1
        unfold inN at h1
        rw [List.getElem?_append_right hge] at h1
        exact h1
      have h2' : (fr.map fun p => (σ[p.2]?).join)[i - locs.length]? = some (some v) := by
        unfold inS at h2
        rw [List.getElem?_append_right (by simpa using hge), List.length_replicate] at h2
        exact h2
      rw [List.getElem?_map] at h1' h2'
      cases e : fr[i - locs.length]? with
      | none => rw [e] at h1'; cases h1'
      | some p =>
        rw [e] at h1' h2'
        have ex : p.1 = x := Option.some.inj h1'
        have ev : (σ[p.2]?).join = some v := Option.some.inj h2'
        obtain ⟨f1, f2⟩ := F.slots p (List.mem_of_getElem? e)
        have ev' : σ[p.2]? = some (some v) := by
          cases q : σ[p.2]? with
          | none => rw [q] at ev; cases ev
          | some o => rw [q] at ev; cases o with
            | none => cases ev
            | some v' => cases ev; rfl
        obtain ⟨m0, hn0, hl0⟩ := I.loc
        have vis0 : Vis X.env.scope p.1 := by
          rcases f2 with z | z
          · exact .inr (.inl z)
          · exact .inr (.inr z)
        obtain ⟨u, ru, lk⟩ := hl0 p.2 p.1 v f1 ev' vis0
        have hxm : x ∉ locs := fun z => by
          have hnd' := hnd
          unfold inN at hnd'
          exact (List.nodup_append.mp hnd').2.2 x z x (List.mem_map.mpr ⟨p, List.mem_of_getElem? e, ex⟩) rfl
        refine ⟨u, ru, ?_⟩
        rcases lk with ⟨hk, _⟩ | ⟨hk, c, hcc, hce⟩
        · rcases f2 with z | z
          · rw [z] at hk; cases hk
          · rw [z] at hk; cases hk
        · -- in the block it is a cell or free name
          have h3 : Vis (relabel scope X.env) x := h3
          have hk' : (compEnvC scope cl C X.env).kindOf x = some .cell \/ (compEnvC scope cl C X.env).kindOf x = some .free := by
            rcases h3 with z | z | z
            · exfalso
              have q := lookup_relabel_free (env := X.env) (F.kind p (List.mem_of_getElem? e))
              rw [ex] at q
              rcases q with q | q
              · have z' : some NameKind.local = some NameKind.cell := z.symm.trans q
                cases z'
              · have z' : some NameKind.local = some NameKind.free := z.symm.trans q
                cases z'
            · exact .inl z
            · exact .inr z
          obtain ⟨c', hc'⟩ := cl2 x (relabel_mem hcell hk')
          have := cl1 x c' hc'
          rw [← ex, hcc] at this
          cases this
          refine .inr ⟨hk', c, hc', ?_⟩
          obtain ⟨o, ho, hd⟩ := hce
          exact ⟨o, old _ _ ho, hd⟩
    · obtain ⟨v, o, ho, hd⟩ := I.cell x c (cl1 x c e)
      exact ⟨v, o, old _ _ ho, hd⟩
    · have hp' : p ∈ X.pn ++ pins := (List.mem_append.mp hp).elim id fun z => nomatch z
      obtain ⟨e, n, ne, nf, d⟩ := I.pin p hp'
      exact ⟨old _ _ e, n, (below _ (ltD e)).1, stkN _ ne nf, d⟩
    · show (inS locs fr σ).length = (inN locs fr).length
      unfold inS inN
      simp
  have fpLt : ∀ b ∈ fp, b < D := fun b hb => by
    obtain ⟨o, ho, _⟩ := T.obj _ _ st0 b hb
    exact ltD ho
  obtain ⟨m0, w0⟩ := w0
  let oD : List Value -> Nat -> Obj := fun its k => { cls := .type "list", data := .seq its.toArray k }
  have stat : ∀ {H' : Hp} {ob : Obj}, (∀ b ∈ fp, H' b = none) -> ∀ b ∈ fp, FpOk X' [(D, ob)] H' b := fun {H' ob} hn b hb => by
    obtain ⟨f0, f1, f2, f3, f4, f5⟩ := hf b hb
    refine ⟨hn b hb, (below b (fpLt b hb)).1, stkN b f1 f2, .inl hb, fun x c e => f4 x c (cl1 x c e), fun p hp z => ?_⟩
    rcases List.mem_append.mp hp with q | q
    · exact f5 p q z
    · have e : p = (D, ob) := by simpa using q
      subst e
      exact (below b (fpLt b hb)).2 z.symm
  have loop : ∀ s₃ : Shared, s₃ = { s2 with heap := h₁, toks := s2.toks + ([] : List (Str × Value)).length } ->
      codeAny (model X.prog X.w) X.A (.compLoop (.ListComp elt [⟨tg, iter, ifs, 0⟩] scope pos) 0 (.ref it) (.ref D) (compEnvC scope cl C X.env)) (RR (.ref D) C) s₃ := by
    rintro s₃ rfl
    refine codeAny_compLoop_go (fun n s' => ∃ (i : Nat) (ls : St) (H' : Hp) (ys : List V) (its : List Value) (k : Nat), ls.length = locs.length /\ Inv X' [(D, oD its k)] (ls ++ inF fr σ) H' s' /\ tn i s'.heap /\ (∀ b ∈ fp, H' b = none) /\ Vals ys its /\ W i n ys H') ?_ m0 ?_
    · rintro n s3 ⟨i, ls, H3, ys, its, k, hls, I3, st3, fr3, rv, w3⟩
      rcases turn i n ys H3 w3 with ⟨stop, hz, q⟩ | ⟨go, hz, m', hm, step⟩
      · refine thn (T.done X' rfl rfl rfl hc i _ s3 _ H3 (fun _ _ => False) I3 (stat fr3) st3 stop) fun r s4 ⟨hr, I4⟩ => ?_
        subst hr
        obtain ⟨pD, nD, _, _, _⟩ := I4.pin (D, oD its k) (List.mem_append_right _ List.mem_cons_self)
        have nD : H3 D = none := nD
        obtain ⟨mC, hnC, _⟩ := I4.loc
        have hnC : s4.heap.Ns C mC := hnC
        have nC : H3 C = none := I4.free
        have new : ObjOk X.prog X.w (upd H3 D (.lst ys)) s4.heap D (.lst ys) := ⟨hz, its, k, rv, pD⟩
        have hok4 : HOk X.prog X.w (upd H3 D (.lst ys)) s4.heap := hok_add I4.hok nD new
        have u4 : Un (frs X.stack) fp H1 H3 s2.heap s4.heap := I4.base
        have u5 : Un (frs X.stack) fp H1 (upd H3 D (.lst ys)) s2.heap s4.heap := by
          refine ⟨u4.keep, u4.slot, fun b o e n hx => ?_, u4.there, fun b xs e => ?_, fun b o u e => ?_, fun b ps e => ?_⟩
          · rw [Zq6 (below b (ltD e)).2]; exact u4.free b o e n hx
          · rw [Zq6 (Zq13 e fpD.1)]; exact u4.tups b xs e
          · rw [Zq6 (Zq13 e fpD.1)]; exact u4.frzs b o u e
          · rw [Zq6 (Zq13 e fpD.1)]; exact u4.tbls b ps e
        have I5 : Inv X pins σ (upd H3 D (.lst ys)) s4 := by
          refine I.call' (ch := fp) ?_ u5 hok4 I4.bare fun b hb => ?_
          · have : s4.os = s2.os := I4.os
            exact this
          · obtain ⟨f0, f1, f2, f3, f4, f5⟩ := hf b hb
            exact ⟨f3, f1, f4, f5⟩
        have fpC' : FpOk X pins (upd H3 D (.lst ys)) C := I.fpOk ltC (by rw [Zq6 hDC.symm]; exact nC)
        exact hRR D C ys H3 s4 mC nD hDC I5 fpC' hnC q
      · refine thn (T.item X' rfl rfl rfl hc i _ s3 _ H3 (fun _ _ => False) I3 (stat fr3) st3 go) fun r s4 ⟨u, hr, h4⟩ => ?_
        subst hr
        refine thn h4 fun _ s5 ⟨x, H5, I5, r5, y5, st5, fr5⟩ => ?_
        obtain ⟨hg, htt, hte⟩ := inner C s2 H1 fp (X.pn ++ pins)
        have I5' := I5.pinned (stat fr5) (T.obj _ _ st5)
        refine thn (hg _ s5 _ H5 x u _ I5' r5 (step x H5 y5 ls hls)) fun _ s6 ⟨σ6, H6, I6, ⟨l6, hl6, e6⟩, q6⟩ => ?_
        subst e6
        refine thn (htt _ s6 _ H6 _ I6 q6) fun ok s7 ⟨H7, I7, q7⟩ => ?_
        have again : ∀ {H8 : Hp} {s8 : Shared}, Inv X' ([(D, oD its k)] ++ Zq226 fp s5.heap) (l6 ++ inF fr σ) H8 s8 -> tn (i + 1) s8.heap /\ ∀ b ∈ fp, H8 b = none := fun {H8 s8} I8 => by
          refine ⟨T.keep _ _ _ st5 fun b hb o e => (I8.pin (b, o) (List.mem_append_right _ (List.mem_append_right _ (mem_pinsAt hb e)))).1, fun b hb => ?_⟩
          obtain ⟨o, e, d⟩ := T.obj _ _ st5 b hb
          exact (I8.pin (b, o) (List.mem_append_right _ (List.mem_append_right _ (mem_pinsAt hb e)))).2.1
        cases ok with
        | false =>
          rw [if_neg Bool.false_ne_true] at q7 ⊢
          obtain ⟨a1, a2⟩ := again I7
          exact ⟨m', hm, i + 1, l6, H7, ys, its, k, hl6, I7.unpinned, a1, a2, rv, q7⟩
        | true =>
          rw [if_pos rfl] at q7 ⊢
          refine thn (hte _ s7 _ H7 _ I7 q7) fun yv s8 ⟨y, H8, I8, r8, q8⟩ => ?_
          obtain ⟨a1, a2⟩ := again I8
          obtain ⟨pD, nD, _, nfD, _⟩ := I8.pin (D, oD its k) (List.mem_append_right _ (List.mem_append_left _ List.mem_cons_self))
          have nD : H8 D = none := nD
          have hl8 : s8.heap.PlainList D its.toArray := ⟨k, pD⟩
          have hlen : its.toArray.size <= sizeLine := by
            rw [List.size_toArray, ← rv.length]; lia
          refine wpAny_list_append_plain (hsz := hlen) hl8 fun h9 hl9 hs9 => ?_
          obtain ⟨k9, e9⟩ := hl9
          have I9 : Inv X' (Zq226 fp s5.heap) (l6 ++ inF fr σ) H8 s8 := I8.pins_of fun p hp => I8.pin p (List.mem_append_right _ (List.mem_append_right _ hp))
          have I10 : Inv X' (Zq226 fp s5.heap) (l6 ++ inF fr σ) H8 { s8 with heap := h9 } := by
            refine I9.turned (it := D) (t' := s8.toks) (fun b o hb e => (hs9.2 b hb).trans e) nD ?_ ?_ ?_ ?_
            · exact hDC
            · exact .inr (Nat.le_of_eq hDe)
            · exact fun x c e => fpD.2.2.2.2.1 x c (cl1 x c e)
            · intro p hp z
              rcases List.mem_append.mp hp with q | q
              · exact fpD.2.2.2.2.2 p q z
              · have := fpLt p.1 (of_pinsAt q).1
                exact (below p.1 this).2 z
          have e9' : h9.get? D = some (oD (its ++ [yv]) k9) := by
            rw [e9]; simp [oD]
          have I11 : Inv X' [(D, oD (its ++ [yv]) k9)] (l6 ++ inF fr σ) H8 { s8 with heap := h9 } := I10.pins_of fun p hp => by
            have e : p = (D, oD (its ++ [yv]) k9) := by simpa using hp
            subst e
            exact ⟨e9', nD, hDC, nfD, fun v z => by cases z⟩
          refine ⟨m', hm, i + 1, l6, H8, ys ++ [y], its ++ [yv], k9, hl6, I11, ?_, a2, Vals.append rv (.cons r8 .nil), q8⟩
          exact T.keep _ _ _ a1 fun b hb o e => (hs9.2 b (below b (fpLt b hb)).2).trans e
    · have e0 : List.replicate locs.length none ++ inF fr σ = inS locs fr σ := rfl
      obtain ⟨k0, eD⟩ := hacc
      refine ⟨0, List.replicate locs.length none, H1, [], [], k0, by simp, ?_, T.keep _ _ _ st0 fun b _ o e => old b o e, fun b hb => (hf b hb).1, .nil, w0⟩
      rw [e0]
      refine I1.pins_of fun p hp => ?_
      have e : p = (D, oD [] k0) := by simpa using hp
      subst e
      exact ⟨eD, fpD.1, hDC, stkN D fpD.2.1 fpD.2.2.1, fun v z => by cases z⟩
  exact codeAny_compStart_list (loop _ rfl) (T.self _ 0 _ _ _ (T.keep _ _ _ st0 fun b _ o e => old b o e) (loop _ rfl))
structure CompOk (X : Cx) (scope : Scope) (locs : List Str) (fr : List (Str × Nat)) : Prop where
  kind : scope.kind = .function
  nocell : ∀ y ∈ scope.names, y.2 ≠ .cell
  names : ∀ y ∈ scope.names, y.2 = .local -> scope.names.lookup y.1 = some .local
  own : ∀ x ∈ locs, scope.names.lookup x = some .local
  free : ∀ y ∈ scope.names, y.2 = .free -> y.1 ∈ fr.map (·.1)
  nd : (inN locs fr).Nodup
theorem FrOk.nil : FrOk X scope [] := ⟨(fun _ h => nomatch h), (fun _ h => nomatch h)⟩
theorem FrOk.cons {x : Str} {j : Nat} {fr : List (Str × Nat)} (h1 : X.N[j]? = some x) (h2 : X.env.kindOf x = some .cell \/ X.env.kindOf x = some .free) (h3 : scope.names.lookup x = some .free) (t : FrOk X scope fr) : FrOk X scope ((x, j) :: fr) :=
  ⟨fun p hp => (List.mem_cons.mp hp).elim (fun e => by subst e; exact ⟨h1, h2⟩) (t.slots p), fun p hp => (List.mem_cons.mp hp).elim (fun e => by subst e; exact h3) (t.kind p)⟩
theorem CompOk.clos {pins : List (Addr × Obj)} {σ : St} {H : Hp} {s : Shared} (S : CompOk X scope locs fr) (F : FrOk X scope fr) (I : Inv X pins σ H s) :
    ∃ cl, closureFor scope X.env = pure cl /\ (∀ x c, cl.lookup x = some c -> X.env.cells.lookup x = some c) /\ (∀ x, (x, NameKind.free) ∈ scope.names -> ∃ c, cl.lookup x = some c) := by
  refine closure_of fun p hp hk => ?_
  obtain ⟨q, hq, e⟩ := List.mem_map.mp (S.free p hp hk)
  obtain ⟨c, hc⟩ := I.ok.has q.1 (F.slots q hq).2
  exact ⟨c, e ▸ hc⟩
theorem pe_lcomp {wi : TI} (S : CompOk X scope locs fr) (F : FrOk X scope fr) (hc : X.calm = true) (hi : PI X tg iter wi)
    (inner : ∀ (cl : List (Str × Addr)) (C : Addr) (s0 : Shared) (H0 : Hp) (ex : List Addr) (pn : List (Addr × Obj)), PG (ccx X scope cl C (inN locs fr) s0 H0 ex pn) tg g /\ PTs (ccx X scope cl C (inN locs fr) s0 H0 ex pn) ifs tt /\ PE (ccx X scope cl C (inN locs fr) s0 H0 ex pn) elt te)
    (hs : ∀ x, foldedSetIterable iter X.env x = pure x := by intro _; rfl) : PE X (.ListComp elt [⟨tg, iter, ifs, 0⟩] scope pos) (tComp locs.length fr wi g tt te) := by
  intro pins s σ H Q I h
  obtain ⟨cl, hcl, cl1, cl2⟩ := S.clos F I
  rw [eval_ListComp]
  refine wpAny_comprehension_free (use := none) rfl hs hcl S.kind S.names (thn (hi pins s σ H _ I h) fun v s1 h1 => thn h1 fun itv s2 h2 => ?_)
  obtain ⟨it, fp, tn, J, H1, e, I2, T, st2, f2, W, w0, turn⟩ := h2
  subst e
  refine comp_core (QQ := fun ys H' => ∀ l, H' l = none -> Q (.ref l) (upd H' l (.lst ys))) hc S.kind S.nocell S.own F S.nd cl1 cl2 (inner cl) I2 T st2 f2 w0 turn fun D C ys H' s' m nD hDC I' fC hn q => ?_
  refine ⟨m, hn, fun h' hs' => ?_⟩
  obtain ⟨f0, f1, f2, f3, f4, f5⟩ := fC
  exact ⟨.ref D, _, I'.turned (it := C) (t' := s'.toks) (fun b o hb e => (hs'.2 b hb).trans e) f0 f1 f3 f4 f5, rfl, q D nD⟩
theorem ps_setC {wi : TI} {i : Nat} {x : Str} {pos' spos : Pos} (S : CompOk X scope locs fr) (F : FrOk X scope fr) (hc : X.calm = true) (hi : PI X tg iter wi)
    (inner : ∀ (cl : List (Str × Addr)) (C : Addr) (s0 : Shared) (H0 : Hp) (ex : List Addr) (pn : List (Addr × Obj)), PG (ccx X scope cl C (inN locs fr) s0 H0 ex pn) tg g /\ PTs (ccx X scope cl C (inN locs fr) s0 H0 ex pn) ifs tt /\ PE (ccx X scope cl C (inN locs fr) s0 H0 ex pn) elt te)
    (hN : X.N.Nodup) (hi0 : X.N[i]? = some x) (hx : X.env.scope.names.lookup x = some .local) (hsw : swapsWith (.ListComp elt [⟨tg, iter, ifs, 0⟩] scope pos) (some (.Name x pos')) spos.line X.env = pure true)
    (hs : ∀ x, foldedSetIterable iter X.env x = pure x := by intro _; rfl) : PS X (.Assign [.Name x pos'] (.ListComp elt [⟨tg, iter, ifs, 0⟩] scope pos) spos) (tAsg (tComp locs.length fr wi g tt te) (Zq135 i)) := by
  intro pins s σ H D0 I h
  obtain ⟨cl, hcl, cl1, cl2⟩ := S.clos F I
  rw [exec_Assign_Name_used _ _ _ _ hsw]
  refine wpAny_bind (wpAny_standAt (wpAny_bind ?_))
  show wpAny _ X.A (do let _ ← comprehension (.ListComp elt [⟨tg, iter, ifs, 0⟩] scope pos) scope X.env _ (newList []) false (eval iter X.env) (some (assign (.Name x pos') X.env))) _ _ s
  refine wpAny_bind (wpAny_mono (wpAny_comprehension_free (use := some (assign (.Name x pos') X.env)) (Q := fun _ s' => SP X pins D0 .next s') rfl hs hcl S.kind S.names (thn (hi pins s σ H _ I h) fun v s1 h1 => thn h1 fun itv s2 h2 => ?_)) (fun _ s' hq => wpAny_pure (wpAny_pure hq)) fun _ _ e => e)
  obtain ⟨it, fp, tn, J, H1, e, I2, T, st2, f2, W, w0, turn⟩ := h2
  subst e
  refine comp_core (QQ := fun ys H' => ∀ l, H' l = none -> Zq135 i (.ref l) σ (upd H' l (.lst ys)) D0.nx) hc S.kind S.nocell S.own F S.nd cl1 cl2 (inner cl) I2 T st2 f2 w0 turn fun D C ys H' s' m nD hDC I' fC hn q => ?_
  obtain ⟨f0, f1, f2, f3, f4, f5⟩ := fC
  obtain ⟨oC, es, ep, hoC, hdC, hrC⟩ := id hn
  have I6 : Inv X (pins ++ [(C, oC)]) σ (upd H' D (.lst ys)) s' := I'.pins_of fun p hp => (List.mem_append.mp hp).elim (fun z => I'.pin p (List.mem_append_right _ z)) fun z => by
    have e : p = (C, oC) := by simpa using z
    subst e
    exact ⟨hoC, f0, f1, f2, fun v z => by rw [hdC] at z; cases z⟩
  refine wpAny_assign_Name (store_ok (v := .ref D) I6 hN hi0 (.inl hx) rfl (fun s'' I'' => ?_) (.inr hx))
  obtain ⟨p1, p2, p3, p4, p5⟩ := I''.pin (C, oC) (List.mem_append_right _ (List.mem_append_right _ List.mem_cons_self))
  refine ⟨m, ⟨oC, es, ep, p1, hdC, hrC⟩, fun h' hs' => ?_⟩
  have I7 : Inv X pins (σ.set i (some (.ref D))) (upd H' D (.lst ys)) s'' := I''.unpinned
  exact ⟨_, _, I7.turned (it := C) (t' := s''.toks) (fun b o hb e => (hs'.2 b hb).trans e) p2 p3 f3 f4 f5, q D nD⟩
end
section
variable {X : Cx} {scope : Scope} {cl : List (Str × Addr)} {C : Addr} {N' : List Str} {s0 : Shared} {H0 : Hp} {ex : List Addr} {pn : List (Addr × Obj)}
theorem pvL (i : Nat) {x : Str} {pos : Pos} (hN : N'[i]? = some x := by rfl) (h : scope.names.lookup x = some .local := by rfl) (hd : (x == ("__debug__" : Str)) = false := by decide) (hcd : (x == ("__classdict__" : Str)) = false := by decide) :
    PE (ccx X scope cl C N' s0 H0 ex pn) (.Name x pos) (tVar i) := pe_var hN (.inl (lookup_relabel_local h)) hd hcd
theorem pvF (i : Nat) {x : Str} {pos : Pos} (hN : N'[i]? = some x := by rfl) (h : scope.names.lookup x = some .free := by rfl) (hd : (x == ("__debug__" : Str)) = false := by decide) (hcd : (x == ("__classdict__" : Str)) = false := by decide) :
    PE (ccx X scope cl C N' s0 H0 ex pn) (.Name x pos) (tVar i) := pe_var hN ((lookup_relabel_free h).elim (fun z => .inr (.inl z)) fun z => .inr (.inr z)) hd hcd
theorem pgL (i : Nat) {x : Str} {pos : Pos} (hnd : N'.Nodup) (hN : N'[i]? = some x := by rfl) (h : scope.names.lookup x = some .local := by rfl) : PG (ccx X scope cl C N' s0 H0 ex pn) (.Name x pos) (Zq135 i) :=
  pg_name (X := ccx X scope cl C N' s0 H0 ex pn) hnd hN (.inl (lookup_relabel_local h)) (.inr (lookup_relabel_local h))
end
end L2
end
section
set_option Elab.async false
set_option linter.all false
set_option maxRecDepth 100000
set_option maxHeartbeats 4000000
namespace L2
open PySem PySem.Spec PyProof.Rows
def sgn (x : Str) (i : Nat) : V := .str ⟨#[x.cps.getD i 0]⟩
def Its (x : Str) : It := ⟨fun i _ => i < x.length, fun i H v H' => H' = H /\ v = sgn x i, fun i _ => i = x.length⟩
theorem strIter_next {P : Program} {w : World} {A : Around} (hh : A.handled = none) (I : Addr) (x : Str) (t : Tok) :
    Walks P w A I [I] [I] x.cps.size (SignAt x) (fun i h => h.IsStrIter I (strIterType x) x t i) := by
  unfold strIterType
  cases ha : x.cps.all (· < 128)
  · exact Walks.strWide hh I x t
  · exact Walks.strAscii hh I x t
theorem turn_str {P : Program} {w : World} {K : PySem.W.Frag} {tg : Expr} (it : Addr) (x : Str) (t : Tok) : Turn P w K tg (Its x) [it] it (fun i h => h.IsStrIter it (strIterType x) x t i) where
  mem := by simp
  obj := fun i h st b hb => by
    have e : b = it := by simpa using hb
    subst e
    obtain ⟨o, e, c, d⟩ := st
    exact ⟨o, e, fun v z => by rw [d] at z; cases z⟩
  keep := fun i h h' st k => let ⟨o, ho, r⟩ := st; ⟨o, k it (by simp) o ho, r⟩
  item := by
    intro X hP hw hK hc i pins s σ H E I hf st hg
    subst hP hw hK
    obtain ⟨f0, f1, f2, f3, f4, f5⟩ := hf it (by simp)
    refine (strIter_next (I.ok.hd hc) it x t).item i s _ _ hg st fun v h' tk hv st' kk => ?_
    obtain ⟨c, u, hcx, rfl⟩ := hv
    have I1 : Inv X pins σ H { s with heap := h', toks := tk } := I.turned (fun b o hb e => kk b o (by simpa using hb) e) f0 f1 f3 f4 f5
    obtain ⟨o, e, cc, d⟩ := id st'
    have hn : ["enumerate", "zip", "dict_itemiterator", "dict_reverseitemiterator", "odict_iterator", "itertools.zip_longest", "itertools.pairwise"].contains (strIterType x) = false := by
      unfold strIterType
      split <;> decide
    refine ⟨_, rfl, go_of (s := { s with heap := h', toks := tk }) e cc d hn ⟨sgn x i, H, I1, ⟨u, ?_⟩, ⟨rfl, rfl⟩, st', fun b hb => (hf b hb).1⟩⟩
    rw [Array.getD_eq_getD_getElem?, hcx]
    all_goals rfl
  done := by
    intro X hP hw hK hc i pins s σ H E I hf st hg
    subst hP hw hK
    obtain ⟨f0, f1, f2, f3, f4, f5⟩ := hf it (by simp)
    have e : i = x.cps.size := hg
    subst e
    exact (strIter_next (I.ok.hd hc) it x t).done s _ _ st fun h' tk kk => ⟨rfl, I.turned (fun b o hb e => kk b o (by simpa using hb) e) f0 f1 f3 f4 f5⟩
  self := fun A i s Q E st h => by
    have st : s.heap.IsStrIter it (strIterType x) x t i := st
    unfold strIterType at st
    split at st
    · exact wpAny_pyIter_striter_ascii st h
    · exact wpAny_pyIter_striter_wide st h
def iStr (te : TE) : TI := fun σ H R => te σ H fun v H1 => ∃ x, v = .str x /\ R (Its x) H1
theorem pi_str {X : Cx} {tg l : Expr} {tl : TE} (hl : PE X l tl) : PI X tg l (iStr tl) := by
  intro pins s σ H R I h
  refine thn (hl pins s σ H _ I h) fun v s1 ⟨y, H1, I1, r1, q1⟩ => ?_
  obtain ⟨x, e, q⟩ := q1
  subst e
  obtain ⟨t, rfl⟩ := r1
  refine wpAny_pyIter_strU ?_
  refine ⟨s1.heap.objs.size, [s1.heap.objs.size], _, _, H1, rfl, I1.kept (t' := s1.toks) fun b o e => Heap.get?_push_of_some _ e, turn_str _ x t, ⟨_, Heap.get?_push_size _ rfl, rfl, rfl⟩, fun b hb => ?_, q⟩
  have e : b = s1.heap.objs.size := by simpa using hb
  subst e
  exact I1.fpOk (Nat.le_refl _) (I1.hok.fresh (Nat.le_refl _))
section
variable {X : Cx}
theorem op_le_str : OpR X (compareOp .LtE) (fun x y H Q => ∃ i j, x = .str i /\ y = .str j /\ Q (.bl (!decide (j.cps.toList < i.cps.toList))) H) := by
  intro pins s σ H x y v u Q I rx ry h
  obtain ⟨i, j, rfl, rfl, q⟩ := h
  obtain ⟨t, rfl⟩ := rx
  obtain ⟨t', rfl⟩ := ry
  exact P.le_str ⟨.bl _, H, I, rfl, q⟩
end
theorem isPart_opt {v : Value} {o : Option Int} (h : IsPart v o) : ∃ l : Option (Int × Tok), v = partValue l /\ l.map (·.1) = o := by
  cases h with
  | none => exact ⟨none, rfl, rfl⟩
  | int i t => exact ⟨some (i, t), rfl, rfl⟩
section
variable {X : Cx}
theorem sl_str : SlR X (fun x lo hi H Q => ∃ z, x = .str z /\ z.length <= sizeLine /\ Q (.str (Txt.slice z lo hi)) H) := by
  intro pins s σ H x v vl vu lo hi sl Q I rx hs pl pu h
  obtain ⟨z, rfl, hz, q⟩ := h
  obtain ⟨t, rfl⟩ := rx
  obtain ⟨l, rfl, rfl⟩ := isPart_opt pl
  obtain ⟨u, rfl, rfl⟩ := isPart_opt pu
  refine ⟨"str", _, F.slot_str_getitem.lookup, typeIs_str _ _ _, ?_⟩
  refine wpAny_getItem_str_slice (l := l) (u := u) (st := none) hs rfl (post_val_or_str ⟨Nat.le_trans (Txt.slice_le z _ _) hz, fun t' k => ?_⟩)
  exact ⟨.str _, H, I.tok _, ⟨t', rfl⟩, q⟩
end
theorem strsAre_of {ys : List Str} : ∀ {us : List Value}, Vals (ys.map V.str) us -> StrsAre us ys := by
  induction ys with
  | nil => intro us r; rw [List.map_nil] at r; cases r; exact .nil
  | cons n ns ih =>
    intro us r
    rw [List.map_cons] at r
    cases r with
    | cons r1 r2 =>
      obtain ⟨t, e⟩ := r1
      subst e
      exact .cons n t (ih r2)
section
variable {X : Cx}
theorem mt_join : MtR X "str.join" (fun x xs H Q => ∃ sep a ys, x = .str sep /\ xs = [.ref a] /\ SqL X.K H a (ys.map V.str) /\ (ys.map (·.length)).sum + ys.length * sep.length <= 16777216 /\ Q (.str (Txt.join sep ys)) H) := by
  intro pins s σ H x xs v us Q I rx rs h
  obtain ⟨sep, a, ys, rfl, rfl, ha, hz, q⟩ := h
  obtain ⟨t, rfl⟩ := rx
  obtain ⟨u, rfl, ru⟩ := Zq236 rs
  cases ru
  obtain ⟨its, r, p, _⟩ := I.list ha
  exact join_list p.isList (strsAre_of r) hz fun t' k => ⟨.str _, H, I.tok _, ⟨t', rfl⟩, q⟩
theorem call_all (hc : X.calm = true) : Zq167 X (.builtin "all") (fun xs H Q => ∃ (a : Addr) (bs : List Bool), xs = [.ref a] /\ SqL X.K H a (bs.map V.bl) /\ Q (.bl (bs.all id)) H) := by
  intro pins s σ H xs us Q I r h
  obtain ⟨a, bs, rfl, ha, q⟩ := h
  obtain ⟨u, rfl, ru⟩ := Zq236 r
  cases ru
  obtain ⟨its, rv, p, _⟩ := I.list ha
  have hlt : a < s.heap.objs.size := by obtain ⟨o, n, e, _⟩ := p; exact Heap.lt_size e
  refine call_all_walk (wpAny_pyIter_list p.isList ?_)
  refine ⟨s.heap.objs.size, _, _, _, _, _, fun i => bs.getD i true, rfl, Walks.list (A := X.A.in1) (I.ok.hd hc) _ a (Nat.ne_of_lt hlt) its.toArray, ⟨⟨_, Heap.get?_push_size _ rfl, rfl, rfl⟩, p.isList.push _⟩, ?_, fun h' tk hk => ?_⟩
  · intro i v s' Q' E' hv hq
    have hv : its.toArray[i]? = some v := hv
    have hv' : its[i]? = some v := by simpa using hv
    have hlen : bs.length = its.length := by have := rv.length; simpa using this
    have hi : i < its.length := (List.getElem?_eq_some_iff.mp hv').1
    have hb : (bs.map V.bl)[i]? = some (V.bl (bs.getD i true)) := by
      rw [List.getElem?_map, List.getD_eq_getElem?_getD, List.getElem?_eq_getElem (by lia)]
      rfl
    obtain ⟨u, hu, ru⟩ := rv.get hb
    rw [hv'] at hu
    cases hu
    cases ru
    exact wpAny_truthy_bool hq
  · have hlen : its.toArray.size = bs.length := by have := rv.length; simp at this ⊢; lia
    have e : (List.range its.toArray.size).all (fun i => bs.getD i true) = bs.all id := by
      rw [hlen, Bool.eq_iff_iff, List.all_eq_true, List.all_eq_true]
      constructor
      · intro h b hb
        obtain ⟨i, hi, e⟩ := List.mem_iff_getElem.mp hb
        have := h i (List.mem_range.mpr hi)
        rw [List.getD_eq_getElem?_getD, List.getElem?_eq_getElem hi, e] at this
        exact this
      · intro h i hi
        have hi := List.mem_range.mp hi
        rw [List.getD_eq_getElem?_getD, List.getElem?_eq_getElem hi]
        exact h _ (List.getElem_mem hi)
    refine ⟨.bl (bs.all id), H, I.kept (h' := h') (t' := tk) (fun b o eb => hk b o ?_ (Heap.get?_push_of_some _ eb)), by rw [e]; rfl, q⟩
    intro z
    have : b = s.heap.objs.size := by simpa using z
    exact absurd (Heap.lt_size eb) (by rw [this]; exact Nat.lt_irrefl _)
theorem call_isinst : Zq167 X (.builtin "isinstance") (fun xs H Q => ∃ x n t b, xs = [x, .ty n] /\ TyOf X.K H x t /\ PySem.W.kitOne X.K t (.type n) = some b /\ Q (.bl b) H) := by
  intro pins s σ H xs us Q I r h
  obtain ⟨x, n, t, b, rfl, ty, e, q⟩ := h
  obtain ⟨u, w', rfl, ru, rw'⟩ := vals2 r
  cases rw'
  exact isinst_ok I ru ty e fun tk => ⟨.bl b, H, I.tok _, rfl, q⟩
def CallK (X : Cx) (f : Value) (kw : Str) (r : List V -> V -> Hp -> VK -> Prop) : Prop :=
  ∀ (pins : List (Addr × Obj)) (s : Shared) (σ : St) (H : Hp) (xs : List V) (us : List Value) (k : V) (ku : Value) (Q : VK), Inv X pins σ H s -> Vals xs us -> RelV k ku -> r xs k H Q ->
    wpAny (model X.prog X.w) X.A (call f us [(kw, ku)]) (EP X pins σ Q) X.xe s
end
section
variable {K : PySem.W.Frag}
end
end L2
end
section
set_option Elab.async false
set_option linter.all false
set_option maxRecDepth 100000
set_option maxHeartbeats 4000000
namespace L2
open PySem PySem.Spec PyProof.Rows
def Has (K : PySem.W.Frag) (mg : Str -> Option Value) (x : Str) (st : Stmt) : Prop := ∃ f fd, Fun K x x st f fd /\ mg x = some (.ref f)
def Fn (P : Program) (w : World) (K : PySem.W.Frag) (mg : Str -> Option Value) (base : Heap) (x : Str) (ps : List Str) (k : Nat) (sp : Sp) : Prop :=
  ∃ f fd, mg x = some (.ref f) /\ PySem.W.keepIn K (.ref f) = true /\ Binds K fd ps [] /\ FnOk P w K mg base CX0 k f fd ps sp
theorem Fn.imp {P : Program} {w : World} {K : PySem.W.Frag} {mg : Str -> Option Value} {base : Heap} {x : Str} {ps : List Str} {k : Nat} {sp sp' : Sp} (F : Fn P w K mg base x ps k sp) (h : ∀ vs H Q E, sp' vs H Q E -> sp vs H Q E) : Fn P w K mg base x ps k sp' :=
  let ⟨f, fd, a, b, c, d⟩ := F; ⟨f, fd, a, b, c, d.imp h⟩
section
variable {P : Program} {w : World} {K : PySem.W.Frag} {mg : Str -> Option Value} {base : Heap}
theorem Has.fn {x : Str} {st : Stmt} {N ps : List Str} {k : Nat} {sp : Sp} (h : Has K mg x st) (S : FnScope N ps (Zq1 st))
    (hb : ∀ (kV doc pm : Value) (an : Option Addr) (cdv ct : Value) (us : List Value), us.length = ps.length -> bindArgs (PySem.W.fnOf x x (Zq112 st) (Zq47 st) (Zq1 st) .none kV doc pm an cdv ct) ⟨us, []⟩ = pure (ps.zip us))
    (len : ∀ vs H Q E, sp vs H Q E -> vs.length = ps.length)
    (hbody : ∀ (f : Addr) (cdv : Value) (A : Around) (outer : List Env) (s : Shared) (H : Hp) (vs : List V) (Q : VK) (E : XK), Room k (A.deeper (envOfC x (Zq1 st) s.heap.objs.size f cdv)) -> sp vs H Q E ->
      ∃ t, PSs (cxOf CX0 P w K mg base N x (Zq1 st) f cdv A outer s H E).nox (Zq47 st) t /\ t { nx := fun _ H' => Q .non H', rt := Q } (start N vs) H) : Fn P w K mg base x ps (k + 1) sp := by
  obtain ⟨f, fd, F, hm⟩ := h
  exact ⟨f, fd, hm, F.kp, F.binds hb, F.ok S len fun cdv A outer s H vs Q E hr q => hbody f cdv A outer s H vs Q E hr q⟩
theorem Zq48 {h : Heap} {x : Str} {st : Stmt} {f : Addr} {oc : Value} {od an : Option Addr} {osl : Array (Option Value)} {kV doc pm cdv ct : Value} (KX : K.In h) (G : h.Ns mainGlobals mg)
    (a : PySem.W.nsIn K mainGlobals x = some (some (.ref f))) (l : K.lookup f = some ⟨oc, od, .func (PySem.W.fnOf x x (Zq112 st) (Zq47 st) (Zq1 st) .none kV doc pm an cdv ct), osl⟩)
    (c : PySem.W.codeIn K cdv x = true) (k : PySem.W.keepIn K (.ref f) = true) : Has K mg x st := ⟨f, _, fun_mk l c k, PySem.W.mg_of KX G a⟩
end
def tFn (sp : Sp) (t : TA) : TE := fun σ H Q => t σ H fun vs H1 => sp vs H1 Q E0
section
variable {X : Cx}
theorem pe_fn {k : Nat} {ps : List Str} {sp : Sp} {x : Str} {p pos : Pos} {e : Expr} {es : List Expr} {t : TA} (F : Fn X.prog X.w X.K X.mg X.base x ps k sp) (hr : Room k X.A) (hg : Gl X x) (ha : PA X (e :: es) t)
    (hdb : (x == ("__debug__" : Str)) = false := by decide) (he : starEach (e :: es) X.env = (false, eval e X.env) :: starEach es X.env := by rfl) (hpl : (backTo pos (starEach es X.env)).any (·.1) = false := by rfl) :
    PE X (.Call (.Name x p) (e :: es) [] pos) (tFn sp t) := by
  obtain ⟨f, fd, hm, hk, hb, G⟩ := F
  intro pins s σ H Q I h
  refine pe_call G hr hg hm hk hb .nil pass0 ha hdb he hpl pins s σ H Q I ?_
  have e : tCall sp [] E0 t = tFn sp t := by
    unfold tCall tFn
    simp only [List.append_nil]
  rw [e]
  exact h
theorem op_neg : UnR X (unaryOp .USub) (rU fun i => .int (-i)) := by
  intro pins s σ H x v Q I rx h
  obtain ⟨i, rfl, q⟩ := h
  obtain ⟨t, rfl⟩ := rx
  exact neg_int ⟨.int (-i), H, I.tok _, ⟨_, rfl⟩, q⟩
end
theorem Zq143 : bootBuiltins "len" = some (.builtin "len") := by decide +kernel
theorem b_max : bootBuiltins "max" = some (.builtin "max") := by decide +kernel
theorem b_all : bootBuiltins "all" = some (.builtin "all") := by decide +kernel
theorem Zq22 : bootBuiltins "isinstance" = some (.builtin "isinstance") := by decide +kernel
theorem b_list : bootBuiltins "list" = some (.type "list") := by decide +kernel
theorem b_bool : bootBuiltins "bool" = some (.type "bool") := by decide +kernel
theorem b_int : bootBuiltins "int" = some (.type "int") := by decide +kernel
theorem b_str : bootBuiltins "str" = some (.type "str") := by decide +kernel
theorem b_tuple : bootBuiltins "tuple" = some (.type "tuple") := by decide +kernel
def SameX (s : Addr) (H H' : Hp) : Prop := ∀ b o, b ≠ s -> H b = some o -> H' b = some o
theorem SameX.refl {s : Addr} {H : Hp} : SameX s H H := fun _ _ _ e => e
theorem SameX.trans {s : Addr} {H H1 H2 : Hp} (a : SameX s H H1) (b : SameX s H1 H2) : SameX s H H2 := fun c o n e => b c o n (a c o n e)
theorem SameX.upd {s : Addr} {H : Hp} {o : HO} : SameX s H (upd H s o) := fun b _ n e => by rw [Zq6 n]; exact e
theorem SameX.new {s l : Addr} {H : Hp} {o : HO} (h : H l = none) : SameX s H (L2.upd H l o) := fun b _ _ e => by rw [Zq6 (Zq13 e h)]; exact e
theorem Same.new {l : Addr} {H : Hp} {o : HO} (h : H l = none) : Same H (L2.upd H l o) := fun b _ e => by rw [Zq6 (Zq13 e h)]; exact e
theorem Same.x {s : Addr} {H H' : Hp} (h : Same H H') : SameX s H H' := fun b o _ e => h b o e
def SrcAt (H : Hp) (s la : Addr) : Prop := ∃ (ns : List Int) (i big st cnt : Int), H s = some (.lst [.ref la, .int i, .int big, .int st, .int cnt]) /\ H la = some (.lst (ns.map V.int)) /\ 0 <= i /\ la ≠ s
theorem SrcAt.keep {H H' : Hp} {s la : Addr} (h : SrcAt H s la) (k : Same H H') : SrcAt H' s la := by
  obtain ⟨ns, i, big, st, cnt, h1, h2, h3, h4⟩ := h
  exact ⟨ns, i, big, st, cnt, k _ _ h1, k _ _ h2, h3, h4⟩
theorem SrcAt.keepX {H H' : Hp} {s la l : Addr} (h : SrcAt H s la) (k : SameX l H H') (n1 : l ≠ s) (n2 : l ≠ la) : SrcAt H' s la := by
  obtain ⟨ns, i, big, st, cnt, h1, h2, h3, h4⟩ := h
  exact ⟨ns, i, big, st, cnt, k _ _ n1.symm h1, k _ _ n2.symm h2, h3, h4⟩
theorem SrcAt.ne {H : Hp} {s la l : Addr} (h : SrcAt H s la) (hl : H l = none) : l ≠ s /\ l ≠ la := by
  obtain ⟨ns, i, big, st, cnt, h1, h2, h3, h4⟩ := h
  exact ⟨(Zq13 h1 hl).symm, (Zq13 h2 hl).symm⟩
end L2
namespace L2
open PySem PySem.Spec PyProof.Rows
theorem iteD {c A B : Prop} [Decidable c] (h1 : c -> A) (h2 : ¬ c -> B) : if decide c = true then A else B := by
  by_cases h : c
  · rw [if_pos (decide_eq_true h)]; exact h1 h
  · rw [if_neg (by rw [decide_eq_false h]; exact Bool.false_ne_true)]; exact h2 h
theorem Zq99 {c A B : Prop} [Decidable c] (h1 : ¬ c -> A) (h2 : c -> B) : if (!decide c) = true then A else B := by
  by_cases h : c
  · rw [if_neg (by rw [decide_eq_true h]; exact Bool.false_ne_true)]; exact h2 h
  · rw [if_pos (by rw [decide_eq_false h]; rfl)]; exact h1 h
theorem iteB {b : Bool} {A B : Prop} (h1 : b = true -> A) (h2 : b = false -> B) : if b = true then A else B := by
  cases b
  · rw [if_neg Bool.false_ne_true]; exact h2 rfl
  · rw [if_pos rfl]; exact h1 rfl
theorem iteNB {b : Bool} {A B : Prop} (h1 : b = false -> A) (h2 : b = true -> B) : if (!b) = true then A else B := by
  cases b
  · exact h1 rfl
  · exact h2 rfl
theorem at_ints {ns : List Int} {i : Int} (h0 : 0 <= i) (h1 : i < (ns.map V.int).length) : atI (ns.map V.int) i = some (.int (ns.getD i.toNat 0)) := by
  obtain ⟨j, rfl⟩ := Int.eq_ofNat_of_zero_le h0
  rw [List.length_map] at h1
  refine atI_nat ?_
  rw [List.getElem?_map, Int.toNat_natCast, List.getD_eq_getElem?_getD, List.getElem?_eq_getElem (by lia)]
  rfl
end L2
namespace L2
open PySem PySem.Spec PyProof.Rows
def Nm (sc : Scope) (x : Str) (k : NameKind) : Prop := sc.names.lookup x = some k /\ (x == ("__debug__" : Str)) = false /\ (x == ("__classdict__" : Str)) = false /\ x ≠ "__name__"
instance (sc : Scope) (x : Str) (k : NameKind) : Decidable (Nm sc x k) := by unfold Nm; exact inferInstance
section
variable {X : Cx} {x : Str} {pos : Pos}
theorem pvN (i : Nat) (n : Nm X.env.scope x .local) (hN : X.N[i]? = some x := by rfl) : PE X (.Name x pos) (tVar i) := pe_var hN (.inl n.1) n.2.1 n.2.2.1
theorem pvC (i : Nat) (n : Nm X.env.scope x .cell) (hN : X.N[i]? = some x := by rfl) : PE X (.Name x pos) (tVar i) := pe_var hN (.inr (.inl n.1)) n.2.1 n.2.2.1
theorem pe_globN {v : V} {u : Value} (n : Nm X.env.scope x .globalImplicit) (hm : X.mg x = some u) (r : RelV v u) : PE X (.Name x pos) (tC v) := pe_glob n.1 hm r n.2.1
theorem pe_bltnN {v : V} {u : Value} (n : Nm X.env.scope x .globalImplicit) (hm : X.mg x = none) (hv : bootBuiltins x = some u) (r : RelV v u) : PE X (.Name x pos) (tC v) := pe_bltn n.1 hm hv r n.2.2.2 n.2.1
theorem pe_fnN {k : Nat} {ps : List Str} {sp : Sp} {p : Pos} {e : Expr} {es : List Expr} {t : TA} (F : Fn X.prog X.w X.K X.mg X.base x ps k sp) (hr : Room k X.A) (n : Nm X.env.scope x .globalImplicit) (ha : PA X (e :: es) t)
    (he : starEach (e :: es) X.env = (false, eval e X.env) :: starEach es X.env := by rfl) (hpl : (backTo pos (starEach es X.env)).any (·.1) = false := by rfl) :
    PE X (.Call (.Name x p) (e :: es) [] pos) (tFn sp t) := pe_fn F hr n.1 ha n.2.1 he hpl
theorem pe_callBN {p : Pos} {e : Expr} {es : List Expr} {t : TA} {id : String} {r : List V -> Hp -> VK -> Prop} (hc : Zq167 X (.builtin id) r) (n : Nm X.env.scope x .globalImplicit) (hm : X.mg x = none) (hv : bootBuiltins x = some (.builtin id)) (ha : PA X (e :: es) t)
    (he : starEach (e :: es) X.env = (false, eval e X.env) :: starEach es X.env := by rfl) (hpl : (backTo pos (starEach es X.env)).any (·.1) = false := by rfl) : PE X (.Call (.Name x p) (e :: es) [] pos) (tCB r t) := pe_callB hc n.1 hm hv ha n.2.2.2 n.2.1 he hpl
theorem pe_callTyN {p : Pos} {e : Expr} {es : List Expr} {t : TA} {T : String} {r : List V -> Hp -> VK -> Prop} (hc : Zq167 X (.type T) r) (n : Nm X.env.scope x .globalImplicit) (hm : X.mg x = none) (hv : bootBuiltins x = some (.type T)) (ha : PA X (e :: es) t)
    (he : starEach (e :: es) X.env = (false, eval e X.env) :: starEach es X.env := by rfl) (hpl : (backTo pos (starEach es X.env)).any (·.1) = false := by rfl) : PE X (.Call (.Name x p) (e :: es) [] pos) (tCB r t) := pe_callTy hc n.1 hm hv ha n.2.2.2 n.2.1 he hpl
theorem ps_setN {i : Nat} {e : Expr} {te : TE} {pos' : Pos} (hN : X.N.Nodup) (n : Nm X.env.scope x .local) (he : PE X e te) (hi : X.N[i]? = some x := by rfl) (hs : swapsWith e (some (.Name x pos')) pos.line X.env = pure false := by rfl) :
    PS X (.Assign [.Name x pos'] e pos) (tAsg te (Zq135 i)) := ps_set hN hi (.inl n.1) he hs (.inr n.1)
theorem ps_setNC {i : Nat} {e : Expr} {te : TE} {pos' : Pos} (hN : X.N.Nodup) (n : Nm X.env.scope x .cell) (he : PE X e te) (hf : X.fn x = true := by rfl) (hi : X.N[i]? = some x := by rfl) (hs : swapsWith e (some (.Name x pos')) pos.line X.env = pure false := by rfl) :
    PS X (.Assign [.Name x pos'] e pos) (tAsg te (Zq135 i)) := ps_set hN hi (.inr n.1) he hs (.inl hf)
theorem pg_nameN {i : Nat} (hN : X.N.Nodup) (n : Nm X.env.scope x .local) (hi : X.N[i]? = some x := by rfl) : PG X (.Name x pos) (Zq135 i) := pg_name hN hi (.inl n.1) (.inr n.1)
end
section
variable {X : Cx} {scope : Scope} {cl : List (Str × Addr)} {C : Addr} {N' : List Str} {s0 : Shared} {H0 : Hp} {ex : List Addr} {pn : List (Addr × Obj)} {x : Str} {pos : Pos}
theorem pvLN (i : Nat) (n : Nm scope x .local := by decide +kernel) (hN : N'[i]? = some x := by rfl) : PE (ccx X scope cl C N' s0 H0 ex pn) (.Name x pos) (tVar i) := pvL i hN n.1 n.2.1 n.2.2.1
theorem pvFN (i : Nat) (n : Nm scope x .free := by decide +kernel) (hN : N'[i]? = some x := by rfl) : PE (ccx X scope cl C N' s0 H0 ex pn) (.Name x pos) (tVar i) := pvF i hN n.1 n.2.1 n.2.2.1
theorem pgLN (i : Nat) (hnd : N'.Nodup) (n : Nm scope x .local := by decide +kernel) (hN : N'[i]? = some x := by rfl) : PG (ccx X scope cl C N' s0 H0 ex pn) (.Name x pos) (Zq135 i) := pgL i hnd hN n.1
theorem nmC (n : Nm scope x .globalImplicit := by decide +kernel) : Nm (ccx X scope cl C N' s0 H0 ex pn).env.scope x .globalImplicit := ⟨lookup_relabel (by decide) n.1, n.2⟩
theorem FrOk.consN {j : Nat} {fr : List (Str × Nat)} (n : Nm X.env.scope x .cell) (t : FrOk X scope fr) (m : Nm scope x .free := by decide +kernel) (h1 : X.N[j]? = some x := by rfl) : FrOk X scope ((x, j) :: fr) := .cons h1 (.inl n.1) m.1 t
end
end L2
end
section
set_option Elab.async false
set_option linter.all false
set_option maxRecDepth 100000
set_option maxHeartbeats 4000000
namespace L2
open PySem PySem.Spec PyProof.Rows
def cs (x : Str) : List Nat := x.cps.toList
theorem Zq90 (x : Str) : (cs x).length = x.length := by unfold cs; exact Array.length_toList
theorem cs_app (x y : Str) : cs (x ++ y) = cs x ++ cs y := by unfold cs; rw [PySem.Str.cps_append, Array.toList_append]
theorem cs_mk (l : List Nat) : cs ⟨l.toArray⟩ = l := by unfold cs; simp
theorem pick_range (xs : List Nat) (lo : Nat) : ∀ m, lo + m <= xs.length -> ((List.range m).map (lo + ·)).filterMap (xs[·]?) = (xs.drop lo).take m := by
  intro m
  induction m with
  | zero => intro _; simp
  | succ m ih =>
    intro h
    rw [List.range_succ, List.map_append, List.filterMap_append, ih (by lia), List.take_add_one, List.getElem?_drop]
    have : lo + m < xs.length := by lia
    simp [List.getElem?_eq_getElem this]
theorem cs_upto (x : Str) {i : Int} (h : 0 <= i) : cs (Txt.slice x none (some i)) = (cs x).take i.toNat := by
  have hl := Zq90 x
  have e : Builtin.Str.strSliceIndices none (some i) 1 x.length = (List.range (min i.toNat x.length)).map (0 + ·) := by
    unfold Builtin.Str.strSliceIndices sliceRange
    simp only [show (1 : Int) > 0 by decide, if_true]
    have e1 : (if i < 0 then i + (x.length : Int) else i) = i := if_neg (by lia)
    rw [e1]
    have e2 : (if (0 : Int) < max 0 (min i (x.length : Int)) then (max 0 (min i (x.length : Int)) - 0 + 1 - 1) / 1 else 0).toNat = min i.toNat x.length := by
      split <;> (try simp only [Int.ediv_one]) <;> lia
    rw [e2]
    apply List.map_congr_left
    intro k _
    lia
  unfold Txt.slice
  rw [e]
  split
  · rename_i hc
    have hc : ((List.range (min i.toNat x.length)).map (0 + ·)).length = x.length := by simpa using hc
    rw [List.length_map, List.length_range] at hc
    rw [List.take_of_length_le (by lia)]
  · rw [cs_mk]
    have := pick_range (cs x) 0 (min i.toNat x.length) (by lia)
    rw [List.drop_zero] at this
    have e3 : (cs x).take (min i.toNat x.length) = (cs x).take i.toNat := by
      rw [← hl]
      by_cases h1 : i.toNat <= (cs x).length
      · rw [Nat.min_eq_left h1]
      · rw [Nat.min_eq_right (by lia), List.take_of_length_le (by lia), List.take_of_length_le (by lia)]
    rw [← e3, ← this]
    congr 1
    funext k
    unfold cs
    simp
theorem cs_from (x : Str) {i : Int} (h : 0 <= i) : cs (Txt.slice x (some i) none) = (cs x).drop i.toNat := by
  have hl := Zq90 x
  have e : Builtin.Str.strSliceIndices (some i) none 1 x.length = (List.range (x.length - min i.toNat x.length)).map (min i.toNat x.length + ·) := by
    unfold Builtin.Str.strSliceIndices sliceRange
    simp only [show (1 : Int) > 0 by decide, if_true]
    have e1 : (if i < 0 then i + (x.length : Int) else i) = i := if_neg (by lia)
    rw [e1]
    have e2 : (if max 0 (min i (x.length : Int)) < (x.length : Int) then ((x.length : Int) - max 0 (min i (x.length : Int)) + 1 - 1) / 1 else 0).toNat = x.length - min i.toNat x.length := by
      split <;> (try simp only [Int.ediv_one]) <;> lia
    rw [e2]
    apply List.map_congr_left
    intro k _
    lia
  unfold Txt.slice
  rw [e]
  split
  · rename_i hc
    have hc : ((List.range (x.length - min i.toNat x.length)).map (min i.toNat x.length + ·)).length = x.length := by simpa using hc
    rw [List.length_map, List.length_range] at hc
    by_cases h0 : i.toNat = 0
    · rw [h0, List.drop_zero]
    · have : x.length = 0 := by lia
      rw [List.drop_of_length_le (by lia)]
      exact List.length_eq_zero_iff.mp (by lia)
  · rw [cs_mk]
    have := pick_range (cs x) (min i.toNat x.length) (x.length - min i.toNat x.length) (by lia)
    have e3 : ((cs x).drop (min i.toNat x.length)).take (x.length - min i.toNat x.length) = (cs x).drop i.toNat := by
      rw [List.take_of_length_le (by rw [List.length_drop]; lia)]
      by_cases h1 : i.toNat <= x.length
      · rw [Nat.min_eq_left h1]
      · rw [Nat.min_eq_right (by lia), List.drop_of_length_le (by lia), List.drop_of_length_le (by lia)]
    rw [← e3, ← this]
    congr 1
    funext k
    unfold cs
    simp
theorem cs_join0 : ∀ ys : List Str, cs (Txt.join "" ys) = (ys.map cs).flatten := by
  have go : ∀ (ys : List Str) (a : Array Nat), (ys.foldl (fun acc p => acc ++ (("" : Str)).cps ++ p.cps) a).toList = a.toList ++ (ys.map cs).flatten := by
    intro ys
    induction ys with
    | nil => intro a; simp
    | cons y r ih =>
      intro a
      rw [List.foldl_cons, ih]
      have : (("" : Str)).cps = #[] := by decide +kernel
      rw [this]
      simp [cs]
  intro ys
  show (cs (Builtin.Str.glued "" ys)) = _
  unfold Builtin.Str.glued
  cases ys with
  | nil => decide +kernel
  | cons y r =>
    show (List.foldl _ y.cps r).toList = _
    rw [go]
    rfl
def Low (x : Str) : Prop := ∀ c ∈ cs x, 97 <= c /\ c <= 122
def letters : Str := "abcdefghijklmnopqrstuvwxyz"
theorem letters_cs : cs letters = (List.range 26).map (97 + ·) := by decide +kernel
theorem letters_at {d : Int} (h0 : 0 <= d) (h1 : d < 26) : atI letters.cps.toList d = some (97 + d.toNat) := by
  obtain ⟨j, rfl⟩ := Int.eq_ofNat_of_zero_le h0
  refine atI_nat ?_
  show (cs letters)[j]? = _
  rw [letters_cs, List.getElem?_map, List.getElem?_range (by lia)]
  rfl
theorem comp_by {J : It} {nl : Nat} {fv : St} {g : TG} {tt : TTs} {te : TE} {Q : VK} {H : Hp} {xs : List V} (Pv : Nat -> List V -> Hp -> Prop) (h0 : Pv 0 [] H) (hn : xs.length <= 1000000)
    (hgo : ∀ i H ys, i < xs.length -> Pv i ys H -> J.go i H) (hy : ∀ i H x H' ys, i < xs.length -> Pv i ys H -> J.yld i H x H' -> H' = H /\ xs[i]? = some x) (hst : ∀ H ys, Pv xs.length ys H -> J.stop xs.length H)
    (hlen : ∀ i ys H, Pv i ys H -> ys.length <= i)
    (step : ∀ i x ys H, xs[i]? = some x -> Pv i ys H -> Zq225 nl fv g tt te x H (fun y H' => Pv (i + 1) (ys ++ [y]) H') fun H' => Pv (i + 1) ys H')
    (hd : ∀ ys H, Pv xs.length ys H -> ∀ l, H l = none -> Q (.ref l) (upd H l (.lst ys))) :
    tCompW J nl fv g tt te Q H := by
  have mono : ∀ {x : V} {H : Hp} {Y Y' : V -> Hp -> Prop} {N N' : Hp -> Prop}, Zq225 nl fv g tt te x H Y N -> Y = Y' -> N = N' -> Zq225 nl fv g tt te x H Y' N' := fun h e1 e2 => by subst e1; subst e2; exact h
  refine ⟨fun i m ys H => m = xs.length - i /\ i <= xs.length /\ Pv i ys H, ⟨xs.length, by simp, Nat.zero_le _, h0⟩, ?_⟩
  rintro i m ys H ⟨rfl, hi, p⟩
  have hl := hlen i ys H p
  have hz : (1000000 : Nat) < sizeLine := by decide
  by_cases hlt : i < xs.length
  · refine .inr ⟨hgo i H ys hlt p, by lia, xs.length - (i + 1), by lia, fun x H' y => ?_⟩
    obtain ⟨e, ex⟩ := hy i H x H' ys hlt p y
    subst e
    refine mono (step i x ys _ ex p) ?_ ?_
    · funext y H4
      apply propext
      exact ⟨fun q => ⟨rfl, hlt, q⟩, fun q => q.2.2⟩
    · funext H3
      apply propext
      exact ⟨fun q => ⟨rfl, hlt, q⟩, fun q => q.2.2⟩
  · have e : i = xs.length := by lia
    subst e
    exact .inl ⟨hst H ys p, by lia, hd ys H p⟩
def rngV (lo : Int) (n : Nat) : List V := (List.range n).map fun k => V.int (lo + (k : Nat))
theorem rngV_len (lo : Int) (n : Nat) : (rngV lo n).length = n := by simp [rngV]
theorem rngV_get {lo : Int} {n i : Nat} {x : V} (h : (rngV lo n)[i]? = some x) : i < n /\ x = .int (lo + (i : Nat)) := by
  have hi : i < n := by have := (List.getElem?_eq_some_iff.mp h).1; rwa [rngV_len] at this
  refine ⟨hi, ?_⟩
  unfold rngV at h
  rw [List.getElem?_map, List.getElem?_range hi] at h
  exact (Option.some.inj h).symm
theorem comp_range {lo : Int} {n : Nat} {nl : Nat} {fv : St} {g : TG} {tt : TTs} {te : TE} {Q : VK} {H : Hp} (Pv : Nat -> List V -> Hp -> Prop) (h0 : Pv 0 [] H) (hn : n <= 1000000)
    (hlen : ∀ i ys H, Pv i ys H -> ys.length <= i)
    (step : ∀ i ys H, i < n -> Pv i ys H -> Zq225 nl fv g tt te (.int (lo + (i : Nat))) H (fun y H' => Pv (i + 1) (ys ++ [y]) H') fun H' => Pv (i + 1) ys H')
    (hd : ∀ ys H, Pv n ys H -> ∀ l, H l = none -> Q (.ref l) (upd H l (.lst ys))) :
    tCompW (Itr lo n) nl fv g tt te Q H := by
  refine comp_by (xs := rngV lo n) Pv h0 (by rw [rngV_len]; exact hn) ?_ ?_ ?_ hlen ?_ ?_
  · intro i H ys hi _
    rw [rngV_len] at hi
    exact hi
  · rintro i H x H' ys hi _ ⟨rfl, rfl⟩
    rw [rngV_len] at hi
    refine ⟨rfl, ?_⟩
    unfold rngV
    rw [List.getElem?_map, List.getElem?_range hi]
    rfl
  · intro H ys _
    rw [rngV_len]
    exact Nat.le_refl _
  · intro i x ys H hx p
    obtain ⟨hi, rfl⟩ := rngV_get hx
    exact step i ys H hi p
  · intro ys H p
    rw [rngV_len] at p
    exact hd ys H p
theorem comp_list {K : PySem.W.Frag} {a : Addr} {xs : List V} {nl : Nat} {fv : St} {g : TG} {tt : TTs} {te : TE} {Q : VK} {H : Hp} (Pv : Nat -> List V -> Hp -> Prop) (h0 : Pv 0 [] H) (hn : xs.length <= 1000000)
    (hl : ∀ i ys H, i <= xs.length -> Pv i ys H -> SqL K H a xs)
    (hlen : ∀ i ys H, Pv i ys H -> ys.length <= i)
    (step : ∀ i x ys H, xs[i]? = some x -> Pv i ys H -> Zq225 nl fv g tt te x H (fun y H' => Pv (i + 1) (ys ++ [y]) H') fun H' => Pv (i + 1) ys H')
    (hd : ∀ ys H, Pv xs.length ys H -> ∀ l, H l = none -> Q (.ref l) (upd H l (.lst ys))) :
    tCompW (Itl K a) nl fv g tt te Q H := by
  refine comp_by (xs := xs) Pv h0 hn ?_ ?_ ?_ hlen step hd
  · intro i H ys hi p
    exact ⟨xs, xs[i], hl i ys H (Nat.le_of_lt hi) p, by simp [hi]⟩
  · rintro i H x H' ys hi p ⟨rfl, y⟩
    exact ⟨rfl, y xs (hl i ys _ (Nat.le_of_lt hi) p)⟩
  · intro H ys p
    exact ⟨xs, hl _ ys H (Nat.le_refl _) p, Nat.le_refl _⟩
theorem comp_str {x : Str} {nl : Nat} {fv : St} {g : TG} {tt : TTs} {te : TE} {Q : VK} {H : Hp} (Pv : Nat -> List V -> Hp -> Prop) (h0 : Pv 0 [] H) (hn : x.length <= 1000000)
    (hlen : ∀ i ys H, Pv i ys H -> ys.length <= i)
    (step : ∀ i ys H, i < x.length -> Pv i ys H -> Zq225 nl fv g tt te (sgn x i) H (fun y H' => Pv (i + 1) (ys ++ [y]) H') fun H' => Pv (i + 1) ys H')
    (hd : ∀ ys H, Pv x.length ys H -> ∀ l, H l = none -> Q (.ref l) (upd H l (.lst ys))) :
    tCompW (Its x) nl fv g tt te Q H := by
  have ln : ((List.range x.length).map fun i => sgn x i).length = x.length := by simp
  refine comp_by (xs := (List.range x.length).map fun i => sgn x i) Pv h0 (by rw [ln]; exact hn) ?_ ?_ ?_ hlen ?_ ?_
  · intro i H ys hi _
    rw [ln] at hi
    exact hi
  · rintro i H v H' ys hi _ ⟨rfl, rfl⟩
    rw [ln] at hi
    refine ⟨rfl, ?_⟩
    rw [List.getElem?_map, List.getElem?_range hi]
    rfl
  · intro H ys _
    rw [ln]
    exact rfl
  · intro i v ys H hx p
    have hi : i < x.length := by have := (List.getElem?_eq_some_iff.mp hx).1; rwa [ln] at this
    rw [List.getElem?_map, List.getElem?_range hi] at hx
    cases hx
    exact step i ys H hi p
  · intro ys H p
    rw [ln] at p
    exact hd ys H p
theorem for_str {x : Str} {g : TG} {tb : TS} {D : Ends} {σ : St} {H : Hp} (Pv : Nat -> St -> Hp -> Prop) (h0 : Pv 0 σ H)
    (hs : ∀ i σ H, i < x.length -> Pv i σ H -> g (sgn x i) σ H fun σ2 H2 => tb { D with nx := Pv (i + 1), ct := Pv (i + 1), bk := D.nx } σ2 H2) (hd : ∀ σ H, Pv x.length σ H -> D.nx σ H) :
    ∃ W : Nat -> Nat -> St -> Hp -> Prop, (∃ m, W 0 m σ H) /\ ∀ i m σ H, W i m σ H ->
      ((Its x).stop i H /\ D.nx σ H) \/ ((Its x).go i H /\ ∃ N : St -> Hp -> Prop, (∀ σ' H', N σ' H' -> ∃ m', m' < m /\ W (i + 1) m' σ' H') /\ ∀ v H', (Its x).yld i H v H' -> g v σ H' fun σ2 H2 => tb { D with nx := N, ct := N, bk := D.nx } σ2 H2) := by
  refine ⟨fun i m σ H => m = x.length - i /\ i <= x.length /\ Pv i σ H, ⟨x.length, by simp, Nat.zero_le _, h0⟩, ?_⟩
  rintro i m σ H ⟨rfl, hi, p⟩
  by_cases hlt : i < x.length
  · refine .inr ⟨hlt, Pv (i + 1), fun σ' H' p' => ⟨x.length - (i + 1), by lia, rfl, hlt, p'⟩, fun v H' y => ?_⟩
    obtain ⟨e, y⟩ := y
    subst e y
    exact hs i σ _ hlt p
  · have e : i = x.length := by lia
    subst e
    exact .inl ⟨rfl, hd σ H p⟩
theorem len1 {ls : St} (h : ls.length = 1) : ∃ a, ls = [a] := by
  match ls, h with
  | [a], _ => exact ⟨a, rfl⟩
end L2
end
section
set_option Elab.async false
set_option linter.all false
set_option maxRecDepth 100000
set_option maxHeartbeats 4000000
namespace L2
open PySem PySem.Spec PyProof.Rows
structure QE (X : Cx) (e : Expr) (t : TE) : Prop where
  h : PE X e t
structure QT (X : Cx) (e : Expr) (t : TT) : Prop where
  h : PT X e t
structure QW (X : Cx) (e : Expr) (t : TT) : Prop where
  h : PW X e t
structure QS (X : Cx) (s : Stmt) (t : TS) : Prop where
  h : PS X s t
structure QSs (X : Cx) (s : List Stmt) (t : TS) : Prop where
  h : PSs X s t
structure QA (X : Cx) (es : List Expr) (t : TA) : Prop where
  h : PA X es t
structure QG (X : Cx) (e : Expr) (t : TG) : Prop where
  h : PG X e t
structure QGs (X : Cx) (es : List Expr) (t : TGs) : Prop where
  h : PGs X es t
structure QI (X : Cx) (tg iter : Expr) (t : TI) : Prop where
  h : PI X tg iter t
structure QO (X : Cx) (e : Option Expr) (t : TO) : Prop where
  h : PO X e t
structure QTs (X : Cx) (es : List Expr) (t : TTs) : Prop where
  h : PTs X es t
structure QOp (X : Cx) (f : Value -> Value -> Sem Value) (r : R2) : Prop where
  h : OpR X f r
structure QUn (X : Cx) (f : Value -> Sem Value) (r : V -> Hp -> VK -> Prop) : Prop where
  h : UnR X f r
structure QC (X : Cx) (f : Value) (r : List V -> Hp -> VK -> Prop) : Prop where
  h : Zq167 X f r
structure QCk (X : Cx) (f : Value) (kw : Str) (r : List V -> V -> Hp -> VK -> Prop) : Prop where
  h : CallK X f kw r
structure QIx (X : Cx) (r : R2) : Prop where
  h : IxR X r
structure QSl (X : Cx) (r : V -> Option Int -> Option Int -> Hp -> VK -> Prop) : Prop where
  h : SlR X r
structure QM (X : Cx) (id : String) (r : V -> List V -> Hp -> VK -> Prop) : Prop where
  h : MtR X id r
structure QSet (X : Cx) (t : TSet) : Prop where
  h : PSet X t
structure QIp (X : Cx) (op : Operator) (t : TIp) : Prop where
  h : PIp X op t
section
variable {X : Cx} {a b c : Expr} {ta tb tc te : TE} {tA tB' : TT} {pos p p2 pos' : Pos} {st : Stmt} {rest : List Stmt} {t u : TS} {x : Str} {es : List Expr} {e : Expr}
theorem Zq10 : QSs X [] Zq62 := ⟨pss_nil⟩
theorem Zq3 (h1 : QS X st t) (h2 : QSs X rest u) : QSs X (st :: rest) (tSeq t u) := ⟨pss_cons h1.h h2.h⟩
theorem Zq5 (h1 : QS X st t) : QSs X [st] t := ⟨pss_one h1.h⟩
theorem Zq11 (h : QE X e te) : QS X (.Return (some e) pos) (tRet te) := ⟨ps_ret h.h⟩
theorem Zq19 {c : Expr} {a b : List Stmt} {tc : TT} (hc : QT X c tc) (ha : QSs X a t) (hb : QSs X b u) : QS X (.If c a b pos) (tIfS tc t u) := ⟨ps_if hc.h ha.h hb.h⟩
theorem Zq23 (he : QE X e te) (hs : swapsWith e none pos.line X.env = pure false := by rfl) : QS X (.Expr e pos) (tDrop te) := ⟨ps_expr he.h hs⟩
theorem Zq26 {i : Nat} (hN : X.N.Nodup) (n : Nm X.env.scope x .local) (he : QE X e te) (hi : X.N[i]? = some x := by rfl) (hs : swapsWith e (some (.Name x pos')) pos.line X.env = pure false := by rfl) :
    QS X (.Assign [.Name x pos'] e pos) (tAsg te (Zq135 i)) := ⟨ps_setN hN n he.h hi hs⟩
theorem qs_setNC {i : Nat} (hN : X.N.Nodup) (n : Nm X.env.scope x .cell) (he : QE X e te) (hf : X.fn x = true := by rfl) (hi : X.N[i]? = some x := by rfl) (hs : swapsWith e (some (.Name x pos')) pos.line X.env = pure false := by rfl) :
    QS X (.Assign [.Name x pos'] e pos) (tAsg te (Zq135 i)) := ⟨ps_setNC hN n he.h hf hi hs⟩
theorem qs_asg {tg : Expr} {g : TG} (he : QE X e te) (hg : QG X tg g) (hs : swapsWithSole [tg] e pos.line X.env = pure false := by rfl) (hw : swappedStores [tg] e X.env = pure none := by rfl)
    (h1 : (assignEach [tg] X.env).map (·.2) = [assign tg X.env] := by rfl) : QS X (.Assign [tg] e pos) (tAsg te g) := ⟨ps_asg he.h hg.h hs hw h1⟩
def tForW (J : It) (g : TG) (tb : TS) (D : Ends) (σ : St) (H1 : Hp) : Prop := ∃ W : Nat -> Nat -> St -> Hp -> Prop, (∃ m, W 0 m σ H1) /\ ∀ i m σ H, W i m σ H ->
  (J.stop i H /\ D.nx σ H) \/ (J.go i H /\ ∃ N : St -> Hp -> Prop, (∀ σ' H', N σ' H' -> ∃ m', m' < m /\ W (i + 1) m' σ' H') /\ ∀ x H', J.yld i H x H' -> g x σ H' fun σ2 H2 => tb { D with nx := N, ct := N, bk := D.nx } σ2 H2)
def tForQ (wi : TI) (g : TG) (tb : TS) : TS := fun D σ H => wi σ H fun J H1 => tForW J g tb D σ H1
theorem Zq178 {tg iter : Expr} {body : List Stmt} {wi : TI} {g : TG} (hp : PassesOwn (model X.prog X.w) X.A X.env X.xe) (hc : X.calm = true) (hi : QI X tg iter wi) (hg : QG X tg g) (hb : QSs X body t)
    (hs : ∀ x, foldedSetIterable iter X.env x = pure x := by intro _; rfl) : QS X (.For tg iter body [] pos) (tForQ wi g t) := ⟨ps_for hp hc hi.h hg.h hb.h hs⟩
theorem qs_while {c : Expr} {body : List Stmt} {tc : TT} (hp : PassesOwn (model X.prog X.w) X.A X.env X.xe) (hc : QT X c tc) (hb : QSs X body t) : QS X (.While c body [] pos) (tWhile tc t) := ⟨ps_while hp hc.h hb.h⟩
theorem Zq118 {i : Nat} (hN : X.N.Nodup) (n : Nm X.env.scope x .local) (hi : X.N[i]? = some x := by rfl) : QG X (.Name x pos) (Zq135 i) := ⟨pg_nameN hN n hi⟩
theorem qgs_nil : QGs X [] gNil := ⟨pgs_nil⟩
theorem Zq300 {t : TG} {u : TGs} (h1 : QG X e t) (h2 : QGs X es u) (hs : (assignEach (e :: es) X.env).map (·.2) = assign e X.env :: (assignEach es X.env).map (·.2) := by rfl) : QGs X (e :: es) (gCons t u) := ⟨pgs_cons h1.h h2.h hs⟩
theorem qg_tup {k : Nat} {t : TGs} {n : Nat} (hc : X.calm = true) (h : QGs X es t) (hn : (assignEach es X.env).length = n := by rfl) (hst : (assignEach es X.env).findIdx? (·.1) = none := by rfl) : QG X (.Tuple es k pos) (gTup X.K n t) := ⟨pg_tup hc h.h hn hst⟩
theorem qg_sub {o i : Expr} {to ti : TE} {t : TSet} (ho : QE X o to) (hi : QE X i ti) (hs : QSet X t)
    (ha : ∀ v, assign (.Subscript o i pos) X.env v = (do
      let ov ← holding [v] (eval o X.env)
      let iv ← holding [v, ov] (eval i X.env)
      standAt pos
      holding [v, ov, iv] (setItem ov iv v)
      release [v, ov, iv] []) := by intro _; rfl) : QG X (.Subscript o i pos) (gSub to ti t) := ⟨pg_sub ho.h hi.h hs.h ha⟩
theorem qset_list : QSet X rSetL := ⟨set_list⟩
variable {tg : Expr}
theorem Zq168 {l : Expr} (hl : QE X l te) : QI X tg l (iList X.K te) := ⟨pi_list hl.h⟩
theorem qi_str {l : Expr} (hl : QE X l te) : QI X tg l (iStr te) := ⟨pi_str hl.h⟩
theorem qi_range1 {a : Expr} {ta : TA} (hg : Gl X "range") (hm : X.mg "range" = none) (ha : QA X [a] ta) (hs : starEach [a] X.env = [(false, eval a X.env)] := by rfl) : QI X tg (.Call (.Name "range" p) [a] [] pos) (iRng1 ta) := ⟨pi_range1 hg hm ha.h hs⟩
theorem Zq2 : QA X [] tNil := ⟨pa_nil⟩
theorem Zq0 {t : TA} (ha : QE X e te) (hr : QA X es t) (hs : starEach (e :: es) X.env = (false, eval e X.env) :: starEach es X.env := by rfl) : QA X (e :: es) (Zq183 te t) := ⟨pa_cons ha.h hr.h hs⟩
theorem qe_tup {x1} {t : TA} (h : QA X es t) : QE X (.Tuple es x1 pos) (tTup t) := ⟨pe_tup h.h⟩
theorem Zq49 {t : TA} (h : QA X es t) : QE X (.List es pos) (tLst t) := ⟨pe_lst h.h⟩
theorem Zq145 (ha : QT X a tA) : QT X (.UnaryOp .Not a pos) (tNot tA) := ⟨pt_not ha.h⟩
theorem QW.pt (h : QW X e tA) : QT X e tA := ⟨PW.pt h.h⟩
theorem Zq92 (ha : QT X a tA) : QW X (.BoolOp .And [a] pos) tA := ⟨pw_and1 ha.h⟩
theorem Zq213 (ha : QT X a tA) : QW X (.BoolOp .Or [a] pos) tA := ⟨pw_or1 ha.h⟩
theorem Zq102 {rest : List Expr} (ha : QT X a tA) (hb : QW X (.BoolOp .And (b :: rest) pos) tB') : QW X (.BoolOp .And (a :: b :: rest) pos) (tAnd tA tB') := ⟨pw_and ha.h hb.h⟩
theorem Zq237 {rest : List Expr} (ha : QT X a tA) (hb : QW X (.BoolOp .Or (b :: rest) pos) tB') : QW X (.BoolOp .Or (a :: b :: rest) pos) (tOr tA tB') := ⟨pw_or ha.h hb.h⟩
theorem Zq8 {op : CmpOp} {r : R2} (ho : QOp X (compareOp op) r) (ha : QE X a ta) (hb : QE X b tb) (hm : behindInMarks op b = false) : QT X (.Compare a [op] [b] pos) (tTest (tOp r ta tb)) := ⟨pt_cmpR ho.h ha.h hb.h hm⟩
theorem Zq136 {op : CmpOp} {r : R2} (ho : QOp X (compareOp op) r) (ha : QE X a ta) (hb : QE X b tb) (hm : behindInMarks op b = false) : QE X (.Compare a [op] [b] pos) (tOp r ta tb) := ⟨pe_cmpR ho.h ha.h hb.h hm⟩
theorem qe_chain {op op' : CmpOp} {r r' : R2} (ho : QOp X (compareOp op) r) (ho' : QOp X (compareOp op') r') (ha : QE X a ta) (hb : QE X b tb) (hc : QE X c tc)
    (hm : lastMarks [op, op'] [b, c] = false := by with_unfolding_all rfl) : QE X (.Compare a [op, op'] [b, c] pos) (tChain r r' ta tb tc) := ⟨pe_chain ho.h ho'.h ha.h hb.h hc.h hm⟩
theorem qt_chain {op op' : CmpOp} {r r' : R2} (ho : QOp X (compareOp op) r) (ho' : QOp X (compareOp op') r') (ha : QE X a ta) (hb : QE X b tb) (hc : QE X c tc)
    (hm : lastMarks [op, op'] [b, c] = false := by with_unfolding_all rfl) : QT X (.Compare a [op, op'] [b, c] pos) (tTest (tChain r r' ta tb tc)) := ⟨pt_chain ho.h ho'.h ha.h hb.h hc.h hm⟩
theorem Zq126 (h : QE X e te) (he : ∀ whole, isTrue e X.env whole = (do let v ← whole; standAt e.pos; holding [v] (truthy v)) := by intro _; rfl) : QT X e (tB te) := ⟨pt_val h.h he⟩
theorem Zq4 {i j pos} : QE X (.Constant (.int i) j pos) (tC (.int i)) := ⟨pe_int⟩
theorem Zq169 {b j pos} : QE X (.Constant (.bool b) j pos) (tC (.bl b)) := ⟨pe_bl⟩
theorem Zq119 {j pos} : QE X (.Constant .none j pos) (tC .non) := ⟨pe_non⟩
theorem Zq14 {x j pos} : QE X (.Constant (.str x) j pos) (tC (.str x)) := ⟨pe_str⟩
theorem qvN (i : Nat) (n : Nm X.env.scope x .local) (hN : X.N[i]? = some x := by rfl) : QE X (.Name x pos) (tVar i) := ⟨pvN i n hN⟩
theorem qvC (i : Nat) (n : Nm X.env.scope x .cell) (hN : X.N[i]? = some x := by rfl) : QE X (.Name x pos) (tVar i) := ⟨pvC i n hN⟩
theorem Zq34 {v : V} {u : Value} (n : Nm X.env.scope x .globalImplicit) (hm : X.mg x = some u) (r : RelV v u) : QE X (.Name x pos) (tC v) := ⟨pe_globN n hm r⟩
theorem Zq93 {v : V} {u : Value} (n : Nm X.env.scope x .globalImplicit) (hm : X.mg x = none) (hv : bootBuiltins x = some u) (r : RelV v u) : QE X (.Name x pos) (tC v) := ⟨pe_bltnN n hm hv r⟩
theorem Zq35 {op : Operator} {r : R2} (ho : QOp X (binaryOp op) r) (ha : QE X a ta) (hb : QE X b tb) : QE X (.BinOp a op b pos) (tOp r ta tb) := ⟨pe_op ho.h ha.h hb.h⟩
theorem qe_un {op : UnaryOp} {r : V -> Hp -> VK -> Prop} (ho : QUn X (unaryOp op) r) (ha : QE X a ta) : QE X (.UnaryOp op a pos) (tUn r ta) := ⟨pe_un ho.h ha.h⟩
theorem qe_not (ha : QE X a ta) : QE X (.UnaryOp .Not a pos) (tNotV ta) := ⟨pe_not ha.h⟩
theorem Zq214 {op} (h : QE X a ta) : QE X (.BoolOp op [a] pos) ta := ⟨pe_one h.h⟩
theorem Zq215 {rest : List Expr} (ha : QE X a ta) (hb : QE X (.BoolOp .And (b :: rest) pos) tb) : QE X (.BoolOp .And (a :: b :: rest) pos) (tAndV ta tb) := ⟨pe_and ha.h hb.h⟩
theorem qo_none : QO X none tNoPart := ⟨po_none⟩
theorem qo_some (h : QE X e te) : QO X (some e) (tPart te) := ⟨po_some h.h⟩
theorem qe_slice {lo hi : Option Expr} {tl th : TO} {r : V -> Option Int -> Option Int -> Hp -> VK -> Prop} (hr : QSl X r) (he : QE X e te) (hl : QO X lo tl) (hu : QO X hi th) : QE X (.Subscript e (.Slice lo hi none p2) pos) (tSl r te tl th) := ⟨pe_slice hr.h he.h hl.h hu.h⟩
theorem Zq15 {r : R2} (hr : QIx X r) (ha : QE X a ta) (hb : QE X b tb) (hs : PlainIx b) : QE X (.Subscript a b pos) (tOp r ta tb) := ⟨pe_ix hr.h ha.h hb.h hs⟩
theorem Zq17 {k : Nat} {ps : List Str} {sp : Sp} {t : TA} (F : Fn X.prog X.w X.K X.mg X.base x ps k sp) (hr : Room k X.A) (n : Nm X.env.scope x .globalImplicit) (ha : QA X (e :: es) t)
    (he : starEach (e :: es) X.env = (false, eval e X.env) :: starEach es X.env := by rfl) (hpl : (backTo pos (starEach es X.env)).any (·.1) = false := by rfl) :
    QE X (.Call (.Name x p) (e :: es) [] pos) (tFn sp t) := ⟨pe_fnN F hr n ha.h he hpl⟩
theorem Zq18 {t : TA} {id : String} {r : List V -> Hp -> VK -> Prop} (hc : QC X (.builtin id) r) (n : Nm X.env.scope x .globalImplicit) (hm : X.mg x = none) (hv : bootBuiltins x = some (.builtin id)) (ha : QA X (e :: es) t)
    (he : starEach (e :: es) X.env = (false, eval e X.env) :: starEach es X.env := by rfl) (hpl : (backTo pos (starEach es X.env)).any (·.1) = false := by rfl) : QE X (.Call (.Name x p) (e :: es) [] pos) (tCB r t) := ⟨pe_callBN hc.h n hm hv ha.h he hpl⟩
theorem qe_callTyN {t : TA} {T : String} {r : List V -> Hp -> VK -> Prop} (hc : QC X (.type T) r) (n : Nm X.env.scope x .globalImplicit) (hm : X.mg x = none) (hv : bootBuiltins x = some (.type T)) (ha : QA X (e :: es) t)
    (he : starEach (e :: es) X.env = (false, eval e X.env) :: starEach es X.env := by rfl) (hpl : (backTo pos (starEach es X.env)).any (·.1) = false := by rfl) : QE X (.Call (.Name x p) (e :: es) [] pos) (tCB r t) := ⟨pe_callTyN hc.h n hm hv ha.h he hpl⟩
theorem qe_bm {o : Expr} {to : TE} {t : TA} {name : Str} {apos cpos : Pos} {T id : String} {r : V -> List V -> Hp -> VK -> Prop} (pa : PlainAttrs T) (slot : Slot T name id) (hty : typeOf (.builtin id) = pure (.type "method_descriptor")) (hm : QM X id r) (ho : QE X o to) (ha : QA X (e :: es) t)
    (hbase : attributeBase o name X.env (eval o X.env) = eval o X.env := by rfl)
    (hfew : ((backTo cpos (starEach (e :: es) X.env)).all (fun x => !x.1) && (backToKw cpos (keywordEach [] X.env)).all (fun x => x.1.isSome)
      && decide ((e :: es).length + ([] : List Keyword).length + (if ([] : List Keyword).isEmpty then 0 else 1) < 30)) = true := by rfl)
    (hline : (apos.endLine == cpos.line) = true := by rfl) (hs : starEach (e :: es) X.env = (false, eval e X.env) :: starEach es X.env := by rfl) (hplain : (backTo cpos (starEach es X.env)).any (·.1) = false := by rfl) :
    QE X (.Call (.Attribute o name apos) (e :: es) [] cpos) (tBM X.K T r to t) := ⟨pe_bm pa slot hty hm.h ho.h ha.h hbase hfew hline hs hplain⟩
theorem Zq122 : QOp X (binaryOp .Add) (rI0 fun i j => .int (i + j)) := ⟨op_add⟩
theorem qop_mul : QOp X (binaryOp .Mult) (rI CMul fun i j => .int (i * j)) := ⟨op_mul⟩
theorem qop_fdiv : QOp X (binaryOp .FloorDiv) (rI CDiv fun i j => .int (i / j)) := ⟨op_fdiv⟩
theorem qop_mod : QOp X (binaryOp .Mod) (rI (fun _ j => 0 < j) fun i j => .int (i % j)) := ⟨op_mod⟩
theorem qop_pow : QOp X (binaryOp .Pow) (rI CPow fun i j => .int (i ^ j.toNat)) := ⟨op_pow⟩
theorem qop_neg : QUn X (unaryOp .USub) (rU fun i => .int (-i)) := ⟨op_neg⟩
def rStr2 (g : Str -> Str -> V) : R2 := fun x y H Q => ∃ i j, x = .str i /\ y = .str j /\ Q (g i j) H
theorem qop_le_str : QOp X (compareOp .LtE) (rStr2 fun i j => .bl (!decide (j.cps.toList < i.cps.toList))) := ⟨op_le_str⟩
def rCatS : R2 := fun x y H Q => ∃ i j, x = .str i /\ y = .str j /\ i.length + j.length <= sizeLine /\ Q (.str (i ++ j)) H
theorem qop_add_str : QOp X (binaryOp .Add) rCatS := ⟨op_add_str⟩
theorem Zq205 : QOp X (binaryOp .Add) rCat := ⟨op_cat⟩
theorem Zq30 : QOp X (compareOp .Eq) rEq := ⟨op_eq⟩
theorem qop_ne : QOp X (compareOp .NotEq) rNe := ⟨op_ne⟩
theorem Zq192 : QOp X (compareOp .Lt) (rI0 fun i j => .bl (decide (i < j))) := ⟨op_lt⟩
theorem Zq80 : QOp X (compareOp .LtE) (rI0 fun i j => .bl (decide (i <= j))) := ⟨op_le⟩
theorem qop_gt : QOp X (compareOp .Gt) (rI0 fun i j => .bl (decide (j < i))) := ⟨op_gt⟩
theorem qop_ge : QOp X (compareOp .GtE) (rI0 fun i j => .bl (decide (j <= i))) := ⟨op_ge⟩
def rIsN : R2 := fun x y H Q => y = .non /\ Q (.bl (decide (x = .non))) H
def rNotN : R2 := fun x y H Q => y = .non /\ Q (.bl (!decide (x = .non))) H
theorem qop_isN : QOp X (compareOp .Is) rIsN := ⟨op_isN⟩
theorem qop_notN : QOp X (compareOp .IsNot) rNotN := ⟨op_notN⟩
theorem qop_in_seq : QOp X (compareOp .In) (rIn X.K false) := ⟨op_in_seq⟩
theorem qop_notIn_seq : QOp X (compareOp .NotIn) (rIn X.K true) := ⟨op_notIn_seq⟩
theorem Zq36 : QIx X (rIxL X.K) := ⟨ix_list⟩
theorem Zq16 : QIx X (rIxT X.K) := ⟨ix_tup⟩
theorem qix_str : QIx X rIxS := ⟨ix_str⟩
theorem qsl_list : QSl X (rSlL X.K) := ⟨sl_list⟩
def rSlS : V -> Option Int -> Option Int -> Hp -> VK -> Prop := fun x lo hi H Q => ∃ z, x = .str z /\ z.length <= sizeLine /\ Q (.str (Txt.slice z lo hi)) H
theorem qsl_str : QSl X rSlS := ⟨sl_str⟩
def rLenSeq (K : PySem.W.Frag) : List V -> Hp -> VK -> Prop := fun xs H Q => ∃ p ys, xs = [.ref p] /\ (SqL K H p ys \/ SqT K H p ys) /\ Q (.int ys.length) H
theorem Zq87 : QC X (.builtin "len") (rLenSeq X.K) := ⟨call_len_seq⟩
def rLenS : List V -> Hp -> VK -> Prop := fun xs H Q => ∃ z, xs = [.str z] /\ z.length <= sizeLine /\ Q (.int z.length) H
theorem qcall_len_str : QC X (.builtin "len") rLenS := ⟨call_len_str⟩
def rAll (K : PySem.W.Frag) : List V -> Hp -> VK -> Prop := fun xs H Q => ∃ (a : Addr) (bs : List Bool), xs = [.ref a] /\ SqL K H a (bs.map V.bl) /\ Q (.bl (bs.all id)) H
theorem qcall_all (hc : X.calm = true) : QC X (.builtin "all") (rAll X.K) := ⟨call_all hc⟩
def rIsInst (K : PySem.W.Frag) : List V -> Hp -> VK -> Prop := fun xs H Q => ∃ x n t b, xs = [x, .ty n] /\ TyOf K H x t /\ PySem.W.kitOne K t (.type n) = some b /\ Q (.bl b) H
theorem Zq59 : QC X (.builtin "isinstance") (rIsInst X.K) := ⟨call_isinst⟩
def rListOf (K : PySem.W.Frag) : List V -> Hp -> VK -> Prop := fun xs H Q => ∃ p ys, xs = [.ref p] /\ (SqL K H p ys \/ SqT K H p ys) /\ ∀ l, H l = none -> Q (.ref l) (upd H l (.lst ys))
theorem qcall_list_of : QC X (.type "list") (rListOf X.K) := ⟨call_list_of⟩
def rJoin (K : PySem.W.Frag) : V -> List V -> Hp -> VK -> Prop := fun x xs H Q => ∃ sep a ys, x = .str sep /\ xs = [.ref a] /\ SqL K H a (ys.map V.str) /\ (ys.map (·.length)).sum + ys.length * sep.length <= 16777216 /\ Q (.str (Txt.join sep ys)) H
theorem qmt_join : QM X "str.join" (rJoin X.K) := ⟨mt_join⟩
theorem qmt_append : QM X "list.append" rAppend := ⟨mt_append⟩
end
section
variable {g : TG} {tb : TS} {D : Ends} {σ : St} {H : Hp}
theorem forW_range {lo : Int} {n : Nat} (m : Nat) (hm : n = m) (Pv : Nat -> St -> Hp -> Prop) (h0 : Pv 0 σ H)
    (hs : ∀ i σ H, i < m -> Pv i σ H -> g (.int (lo + i)) σ H fun σ2 H2 => tb { D with nx := Pv (i + 1), ct := Pv (i + 1), bk := D.nx } σ2 H2) (hd : ∀ σ H, Pv m σ H -> D.nx σ H) : tForW (Itr lo n) g tb D σ H := by
  subst hm
  exact for_range Pv h0 hs hd
theorem forW_list {K : PySem.W.Frag} {a : Addr} (xs : List V) (Pv : Nat -> St -> Hp -> Prop) (h0 : Pv 0 σ H) (hl : ∀ i σ H, i <= xs.length -> Pv i σ H -> SqL K H a xs)
    (hs : ∀ i x σ H, xs[i]? = some x -> Pv i σ H -> g x σ H fun σ2 H2 => tb { D with nx := Pv (i + 1), ct := Pv (i + 1), bk := D.nx } σ2 H2) (hd : ∀ σ H, Pv xs.length σ H -> D.nx σ H) : tForW (Itl K a) g tb D σ H := for_list Pv h0 hl hs hd
theorem forW_str {x : Str} (Pv : Nat -> St -> Hp -> Prop) (h0 : Pv 0 σ H)
    (hs : ∀ i σ H, i < x.length -> Pv i σ H -> g (sgn x i) σ H fun σ2 H2 => tb { D with nx := Pv (i + 1), ct := Pv (i + 1), bk := D.nx } σ2 H2) (hd : ∀ σ H, Pv x.length σ H -> D.nx σ H) : tForW (Its x) g tb D σ H := for_str Pv h0 hs hd
end
section
variable {X : Cx} {tg elt iter : Expr} {ifs : List Expr} {scope : Scope} {pos : Pos} {locs : List Str} {fr : List (Str × Nat)} {g : TG} {tt : TTs} {te : TE}
theorem qts_nil : QTs X [] (fun _ H Q => Q true H) := ⟨pts_nil⟩
theorem qts_one {c : Expr} {t : TT} (h : QT X c t) : QTs X [c] t := ⟨pts_one h.h⟩
structure Inn (X : Cx) (scope : Scope) (N' : List Str) (tg : Expr) (ifs : List Expr) (elt : Expr) (g : TG) (tt : TTs) (te : TE) : Prop where
  h : ∀ (cl : List (Str × Addr)) (C : Addr) (s0 : Shared) (H0 : Hp) (ex : List Addr) (pn : List (Addr × Obj)), QG (ccx X scope cl C N' s0 H0 ex pn) tg g /\ QTs (ccx X scope cl C N' s0 H0 ex pn) ifs tt /\ QE (ccx X scope cl C N' s0 H0 ex pn) elt te
theorem Zq158 {wi : TI} (S : CompOk X scope locs fr) (F : FrOk X scope fr) (hc : X.calm = true) (hi : QI X tg iter wi) (inner : Inn X scope (inN locs fr) tg ifs elt g tt te)
    (hs : ∀ x, foldedSetIterable iter X.env x = pure x := by intro _; rfl) : QE X (.ListComp elt [⟨tg, iter, ifs, 0⟩] scope pos) (tComp locs.length fr wi g tt te) :=
  ⟨pe_lcomp S F hc hi.h (fun cl C s0 H0 ex pn => let ⟨a, b, c⟩ := inner.h cl C s0 H0 ex pn; ⟨a.h, b.h, c.h⟩) hs⟩
theorem qs_setC {wi : TI} {i : Nat} {x : Str} {pos' spos : Pos} (S : CompOk X scope locs fr) (F : FrOk X scope fr) (hc : X.calm = true) (hi : QI X tg iter wi) (inner : Inn X scope (inN locs fr) tg ifs elt g tt te)
    (hN : X.N.Nodup) (n : Nm X.env.scope x .local) (hsw : swapsWith (.ListComp elt [⟨tg, iter, ifs, 0⟩] scope pos) (some (.Name x pos')) spos.line X.env = pure true) (hi0 : X.N[i]? = some x := by rfl)
    (hs : ∀ x, foldedSetIterable iter X.env x = pure x := by intro _; rfl) : QS X (.Assign [.Name x pos'] (.ListComp elt [⟨tg, iter, ifs, 0⟩] scope pos) spos) (tAsg (tComp locs.length fr wi g tt te) (Zq135 i)) :=
  ⟨ps_setC S F hc hi.h (fun cl C s0 H0 ex pn => let ⟨a, b, c⟩ := inner.h cl C s0 H0 ex pn; ⟨a.h, b.h, c.h⟩) hN hi0 n.1 hsw hs⟩
end
section
variable {X : Cx} {scope : Scope} {cl : List (Str × Addr)} {C : Addr} {N' : List Str} {s0 : Shared} {H0 : Hp} {ex : List Addr} {pn : List (Addr × Obj)} {x : Str} {pos : Pos}
theorem qvLN (i : Nat) (n : Nm scope x .local := by decide +kernel) (hN : N'[i]? = some x := by rfl) : QE (ccx X scope cl C N' s0 H0 ex pn) (.Name x pos) (tVar i) := ⟨pvLN i n hN⟩
theorem qvFN (i : Nat) (n : Nm scope x .free := by decide +kernel) (hN : N'[i]? = some x := by rfl) : QE (ccx X scope cl C N' s0 H0 ex pn) (.Name x pos) (tVar i) := ⟨pvFN i n hN⟩
theorem qgLN (i : Nat) (hnd : N'.Nodup) (n : Nm scope x .local := by decide +kernel) (hN : N'[i]? = some x := by rfl) : QG (ccx X scope cl C N' s0 H0 ex pn) (.Name x pos) (Zq135 i) := ⟨pgLN i hnd n hN⟩
end
section
variable {P : Program} {w : World} {K : PySem.W.Frag} {mg : Str -> Option Value} {base : Heap}
theorem Has.fnQ {x : Str} {st : Stmt} {N ps : List Str} {k : Nat} {sp : Sp} (h : Has K mg x st) (S : FnScope N ps (Zq1 st))
    (hb : ∀ (kV doc pm : Value) (an : Option Addr) (cdv ct : Value) (us : List Value), us.length = ps.length -> bindArgs (PySem.W.fnOf x x (Zq112 st) (Zq47 st) (Zq1 st) .none kV doc pm an cdv ct) ⟨us, []⟩ = pure (ps.zip us))
    (len : ∀ vs H Q E, sp vs H Q E -> vs.length = ps.length)
    (hbody : ∀ (f : Addr) (cdv : Value) (A : Around) (outer : List Env) (s : Shared) (H : Hp) (vs : List V) (Q : VK) (E : XK), Room k (A.deeper (envOfC x (Zq1 st) s.heap.objs.size f cdv)) -> sp vs H Q E ->
      ∃ t, QSs (cxOf CX0 P w K mg base N x (Zq1 st) f cdv A outer s H E).nox (Zq47 st) t /\ t { nx := fun _ H' => Q .non H', rt := Q } (start N vs) H) : Fn P w K mg base x ps (k + 1) sp :=
  h.fn S hb len fun f cdv A outer s H vs Q E hr q => let ⟨t, a, b⟩ := hbody f cdv A outer s H vs Q E hr q; ⟨t, a.h, b⟩
end
end L2
namespace L2
open PySem PySem.Spec PyProof.Rows
theorem seq_cut {t u : TS} {D : Ends} {σ : St} {H : Hp} (R : St -> Hp -> Prop) (hu : ∀ σ' H', R σ' H' -> u D σ' H')
    (ht : ∀ D' : Ends, (∀ σ' H', R σ' H' -> D'.nx σ' H') -> (∀ v H', D.rt v H' -> D'.rt v H') -> (∀ σ' H', D.bk σ' H' -> D'.bk σ' H') -> (∀ σ' H', D.ct σ' H' -> D'.ct σ' H') -> t D' σ H) : tSeq t u D σ H :=
  ht { D with nx := u D } hu (fun _ _ h => h) (fun _ _ h => h) (fun _ _ h => h)
theorem one_lt_one {a b : Nat} : (([a] : List Nat) < [b]) ↔ a < b := by
  constructor
  · intro h
    rcases List.cons_lt_cons_iff.mp h with z | ⟨_, z⟩
    · exact z
    · exact absurd z (by simp)
  · intro h
    exact List.cons_lt_cons_iff.mpr (.inl h)
end L2
namespace L2
theorem gset {i : Nat} {v : V} {σ : St} {H : Hp} {Q : St -> Hp -> Prop} (h : Q (σ.set i (some v)) H) : Zq135 i v σ H Q := h
end L2
namespace L2
open PySem PySem.Spec PyProof.Rows
theorem Fun.okQ {P : Program} {w : World} {K : PySem.W.Frag} {mg : Str -> Option Value} {base : Heap} {x qual : Str} {st : Stmt} {f : Addr} {fd : FuncData} {N ps : List Str} {k : Nat} {sp : Sp} (F : Fun K x qual st f fd) (S : FnScope N ps (Zq1 st)) (len : ∀ vs H Q E, sp vs H Q E -> vs.length = ps.length)
    (hbody : ∀ (cdv : Value) (A : Around) (outer : List Env) (s : Shared) (H : Hp) (vs : List V) (Q : VK) (E : XK), Room k (A.deeper (envOfC qual (Zq1 st) s.heap.objs.size f cdv)) -> sp vs H Q E ->
      ∃ t, QSs (cxOf CX0 P w K mg base N qual (Zq1 st) f cdv A outer s H E).nox (Zq47 st) t /\ t { nx := fun _ H' => Q .non H', rt := Q } (start N vs) H) : FnOk P w K mg base CX0 (k + 1) f fd ps sp :=
  F.ok S len fun cdv A outer s H vs Q E hr q => let ⟨t, a, b⟩ := hbody cdv A outer s H vs Q E hr q; ⟨t, a.h, b⟩
def spLaw (K : PySem.W.Frag) : Sp := fun vs H Q _ => ∃ (a : Addr) (ns : List Int), vs = [.ref a] /\ SqL K H a (ns.map V.int) /\ ns.length <= 63 /\ ∀ H', Q (.bl true) H'
theorem walkLaw {l : PySem.W.OpenLaw} {q : Program} {loose : List Str} {XP : (Str -> Option Value) -> Heap -> Prop} {YP : World -> Heap -> Prop} {d : DefRec} {K : Params -> PySem.W.Frag} (hn : l.most = some 63) (hdf : d.params.defaults = [])
    (hY : ∀ (w : World) (h : Heap), YP w h -> (K w.params).In h)
    (F : ∀ (w : World) (mg : Str -> Option Value) (fa : Addr) (h : Heap), (K w.params).In h -> h.Ns mainGlobals mg -> mg d.name = some (.ref fa) ->
      ∃ fd : FuncData, (∀ (s : Shared) (u : Value), BindsTo s fd ⟨[u], []⟩ [("_law_script", u)]) /\ ∀ base : Heap, (K w.params).In base -> base.Ns mainGlobals mg -> FnOk l.prog w (K w.params) mg base CX0 40 fa fd ["_law_script"] (spLaw (K w.params))) :
    PySem.W.WalkO q loose XP YP l.row.toRowW d [] (fun f vs => PySem.call f vs) :=
  L2.walk_of (n := 63) (k := 40) (x := "_law_script") (CX := fun _ => CX0) (sp := fun w => spLaw (K w.params)) hn (by decide) hdf ⟨rfl, by decide, by decide⟩ hY F (fun _ _ a ns hl _ hS => ⟨a, ns, rfl, hS, hl, fun _ => rfl⟩) fun _ _ _ _ _ z => z
end L2
namespace L2
open PySem PySem.Spec PyProof.Rows
section
variable {X : Cx} {scope : Scope} {cl : List (Str × Addr)} {C : Addr} {N' : List Str} {s0 : Shared} {H0 : Hp} {ex : List Addr} {pn : List (Addr × Obj)} {x : Str} {pos : Pos} {es : List Expr} {k : Nat} {t : TGs}
theorem qix_tupC : QIx (ccx X scope cl C N' s0 H0 ex pn) (rIxT X.K) := ⟨ix_tup (X := ccx X scope cl C N' s0 H0 ex pn)⟩
end
end L2
end
section
set_option Elab.async false
set_option linter.all false
set_option maxRecDepth 100000
set_option maxHeartbeats 4000000
namespace L2
open PySem PySem.Spec PyProof.Rows
structure Drw (P : Program) (w : World) (it l : Addr) (St : Nat -> Heap -> Prop) (Hs : Heap -> List Value -> Prop) : Prop where
  obj : ∀ k h, St k h -> ∃ o, h.get? it = some o /\ ∀ v, o.data ≠ .cell v
  keep : ∀ k h h', St k h -> (∀ o, h.get? it = some o -> h'.get? it = some o) -> St k h'
  src : ∀ h h' its, Hs h its -> (∀ o, h.get? l = some o -> h'.get? l = some o) -> Hs h' its
  item : ∀ (A : Around) (k : Nat) (s : Shared) (its : List Value) (x : Value) (Q : Value -> Shared -> Prop) (E : Value -> Shared -> Prop), St k s.heap -> Hs s.heap its -> its[k]? = some x ->
    (∀ h', St (k + 1) h' -> Heap.SameBut it s.heap h' -> Q x { s with heap := h' }) -> wpAny (model P w) A (Builtin.SmallTypes.nextOf (.ref it)) Q E s
  done : ∀ (A : Around) (k : Nat) (s : Shared) (its : List Value) (Q : Value -> Shared -> Prop) (E : Value -> Shared -> Prop), A.handled = none -> St k s.heap -> Hs s.heap its -> its[k]? = none ->
    (∀ h' e, Heap.ExtBut it s.heap h' -> (∃ o, h'.get? e = some o /\ o.cls = .type "StopIteration") -> E (.ref e) { s with heap := h' }) -> wpAny (model P w) A (Builtin.SmallTypes.nextOf (.ref it)) Q E s
theorem drw_list {P : Program} {w : World} (it l : Addr) : Drw P w it l (fun k h => h.IsListIter it l k) (fun h its => h.IsList l its.toArray) where
  obj := fun k h st => by
    obtain ⟨o, e, c, d⟩ := st
    exact ⟨o, e, fun v z => by rw [d] at z; cases z⟩
  keep := fun k h h' st kk => st.at kk
  src := fun h h' its hl kk => hl.at kk
  item := fun A k s its x Q E st hl hx hQ => wpAny_nextOf_list_item st hl (by simpa using hx) hQ
  done := fun A k s its Q E hh st hl hx hE => wpAny_nextOf_list_end hh st hl (by simpa using hx) hE
section
variable {P : Program} {w : World} {A : Around} {E : Value -> Shared -> Prop} {s : Shared}
theorem nextT_item {it t : Addr} {k : Nat} {its : List Value} {x : Value} {Q : Value -> Shared -> Prop} (st : s.heap.IsTupleIter it t k) (ht : s.heap.IsTuple t its.toArray) (hx : its[k]? = some x)
    (hQ : ∀ h', h'.IsTupleIter it t (k + 1) -> Heap.SameBut it s.heap h' -> Q x { s with heap := h' }) : wpAny (model P w) A (Builtin.SmallTypes.nextOf (.ref it)) Q E s := by
  obtain ⟨o, ho, hc, hd⟩ := id st
  obtain ⟨ot, hot, _, nt, hdt⟩ := id ht
  unfold Builtin.SmallTypes.nextOf
  refine wpAny_bind (wpAny_callSpecial?_slot (name := Str.ofString "__next__") st.typeIs F.slot_tuple_iterator_next (wpAny_call_entry F.slot_tuple_iterator_next st.typeIs F.entry_tuple_iterator_next ?_ (F.args_tuple_iterator_next_1 _)))
  show wpAny _ _ (field (.ref it) 0 >>= _) _ _ s
  refine wpAny_bind (wpAny_field ho hd (x := .ref t) rfl ?_)
  show wpAny _ _ (if (Value.ref t == Value.none) = true then _ else _) _ _ s
  rw [if_neg (show ¬ ((Value.ref t == Value.none) = true) from Bool.false_ne_true)]
  show wpAny _ _ (field (.ref it) 1 >>= _) _ _ s
  refine wpAny_bind (wpAny_field ho hd (x := .int k 0) rfl ?_)
  show wpAny _ _ (seqItems? (.ref t) >>= _) _ _ s
  refine wpAny_bind (wpAny_seqItems hot hdt ?_)
  have hx' : its.toArray[k]? = some x := by simpa using hx
  simp only [Int.toNat_natCast, hx']
  refine wpAny_bind (wpAny_setField ho hd (by simp) ?_)
  refine wpAny_pure ⟨_, rfl, wpAny_pure (hQ _ ?_ (Heap.SameBut.update ..))⟩
  refine ⟨_, Heap.get?_update_self _ ho ?_, ?_, ?_⟩
  · obtain ⟨c, d, dt, sl⟩ := o; subst hd; rfl
  · obtain ⟨c, d, dt, sl⟩ := o; subst hd; exact hc
  · obtain ⟨c, d, dt, sl⟩ := o; subst hd; rfl
theorem nextT_end {it t : Addr} {k : Nat} {its : List Value} {Q : Value -> Shared -> Prop} (hh : A.handled = none) (st : s.heap.IsTupleIter it t k) (ht : s.heap.IsTuple t its.toArray) (hx : its[k]? = none)
    (hE : ∀ h' e, Heap.ExtBut it s.heap h' -> (∃ o, h'.get? e = some o /\ o.cls = .type "StopIteration") -> E (.ref e) { s with heap := h' }) : wpAny (model P w) A (Builtin.SmallTypes.nextOf (.ref it)) Q E s := by
  obtain ⟨o, ho, hc, hd⟩ := id st
  obtain ⟨ot, hot, _, nt, hdt⟩ := id ht
  unfold Builtin.SmallTypes.nextOf
  refine wpAny_bind (wpAny_callSpecial?_slot (name := Str.ofString "__next__") st.typeIs F.slot_tuple_iterator_next (wpAny_call_entry F.slot_tuple_iterator_next st.typeIs F.entry_tuple_iterator_next ?_ (F.args_tuple_iterator_next_1 _)))
  show wpAny _ _ (field (.ref it) 0 >>= _) _ _ s
  refine wpAny_bind (wpAny_field ho hd (x := .ref t) rfl ?_)
  show wpAny _ _ (if (Value.ref t == Value.none) = true then _ else _) _ _ s
  rw [if_neg (show ¬ ((Value.ref t == Value.none) = true) from Bool.false_ne_true)]
  show wpAny _ _ (field (.ref it) 1 >>= _) _ _ s
  refine wpAny_bind (wpAny_field ho hd (x := .int k 0) rfl ?_)
  show wpAny _ _ (seqItems? (.ref t) >>= _) _ _ s
  refine wpAny_bind (wpAny_seqItems hot hdt ?_)
  have hx' : its.toArray[k]? = none := by simpa using hx
  simp only [Int.toNat_natCast, hx']
  refine wpAny_bind (wpAny_rule (wpAny_bind (wpAny_setField ho hd (by simp) ?_)))
  show wpAny _ _ (newExc (.type "StopIteration") [] >>= _) _ _ _
  refine wpAny_bind ?_
  simp only [newExc, newTuple]
  refine wpAny_bind (wpAny_newObj_type ?_ (by size_fits))
  refine wpAny_bind (m := firstArgMember _ _) (wpAny_of_eq (a := Value.none) (by first | rfl | (simp only [firstArgMember]; rfl)) ?_)
  refine wpAny_newObj_type ?_ (by size_fits)
  simp only [raiseNew]
  refine wpAny_bind (wpAny_handled ?_)
  first | rw [show A.in1.handled = none from hh] | rw [hh]
  refine wpAny_bind (wpAny_pure (wpAny_throw ?_))
  exact hE _ _ (((Heap.SameBut.update ..).extBut.push _).push _) ⟨_, Heap.get?_push_size _ rfl, rfl⟩
end
theorem drw_tuple {P : Program} {w : World} (it l : Addr) : Drw P w it l (fun k h => h.IsTupleIter it l k) (fun h its => h.IsTuple l its.toArray) where
  obj := fun k h st => by
    obtain ⟨o, e, c, d⟩ := st
    exact ⟨o, e, fun v z => by rw [d] at z; cases z⟩
  keep := fun k h h' st kk => st.at kk
  src := fun h h' its hl kk => let ⟨o, e, r⟩ := hl; ⟨o, kk o e, r⟩
  item := fun A k s its x Q E st hl hx hQ => nextT_item st hl hx hQ
  done := fun A k s its Q E hh st hl hx hE => nextT_end hh st hl hx hE
structure ZA (z TI TO i1 i2 l1 l2 : Addr) : Prop where
  a1 : TI ≠ z
  a2 : TO ≠ z
  a3 : i1 ≠ z
  a4 : i2 ≠ z
  a5 : TI ≠ TO
  a6 : TI ≠ i1
  a7 : TI ≠ i2
  a8 : TO ≠ i1
  a9 : TO ≠ i2
  a10 : i1 ≠ i2
  b1 : l1 ≠ z
  b2 : l1 ≠ TO
  b3 : l1 ≠ i1
  b4 : l1 ≠ i2
  b5 : l2 ≠ z
  b6 : l2 ≠ TO
  b7 : l2 ≠ i1
  b8 : l2 ≠ i2
section
variable {P : Program} {w : World} {A : Around} {E : Value -> Shared -> Prop} {s : Shared} {z TI TO i1 i2 l1 l2 : Addr} {S1 S2 : Nat -> Heap -> Prop} {H1 H2 : Heap -> List Value -> Prop} {k : Nat} {xs ys : List Value} {x y a b : Value}
theorem zipD_item {Q : Value -> Shared -> Prop} (Z : ZA z TI TO i1 i2 l1 l2) (D1 : Drw P w i1 l1 S1 H1) (D2 : Drw P w i2 l2 S2 H2) (hz : IsZip s.heap z TI TO .none) (hTI : IsPair s.heap TI (.ref i1) (.ref i2)) (hTO : IsPair s.heap TO a b)
    (st1 : S1 k s.heap) (st2 : S2 k s.heap) (h1 : H1 s.heap xs) (h2 : H2 s.heap ys) (hx : xs[k]? = some x) (hy : ys[k]? = some y)
    (hQ : ∀ h', IsZip h' z TI TO (rawInt s.heap.objs.size) -> IsPair h' TO x y -> S1 (k + 1) h' -> S2 (k + 1) h' -> IsPair h' s.heap.objs.size x y ->
      (∀ c o, c ≠ z -> c ≠ TO -> c ≠ i1 -> c ≠ i2 -> s.heap.get? c = some o -> h'.get? c = some o) -> Q (.ref s.heap.objs.size) { s with heap := h' }) :
    wpAny (model P w) A (Builtin.«zip.__next__» ⟨[.ref z], []⟩) (fun fin s' => ∃ v, fin = .done (.ret v) /\ Q v s') E s := by
  show wpAny _ _ (field (.ref z) 2 >>= _) _ _ _
  refine wpAny_bind (wpAny_field hz rfl (x := .bool false) rfl ?_)
  show wpAny _ _ (field (.ref z) 3 >>= _) _ _ _
  refine wpAny_bind (wpAny_field hz rfl (x := .ref TI) rfl (wpAny_bind (wpAny_seqItems hTI rfl ?_)))
  show wpAny _ _ (Builtin.SmallTypes.ownedTupleIsFree (.ref z) >>= _) _ _ _
  refine wpAny_bind ?_
  unfold Builtin.SmallTypes.ownedTupleIsFree
  refine wpAny_bind (wpAny_field hz rfl (x := .none) rfl (wpAny_pure ?_))
  simp only [if_true]
  refine wpAny_bind (wpAny_rule (wpAny_bind (wpAny_field hz rfl (x := .ref TO) rfl (wpAny_bind (wpAny_setField_rec hz (by simp) fun g1 z1 e1 => ?_)))))
  replace z1 : IsZip g1 z TI TO .ellipsis := z1
  refine wpAny_bind ?_
  simp only [List.zipIdx_cons, List.zipIdx_nil, List.forIn_cons, List.forIn_nil]
  refine wpAny_bind (wpAny_bind (wpAny_onRaise ?_))
  show wpAny _ _ (Builtin.SmallTypes.nextOf (.ref i1) >>= _) _ _ _
  refine wpAny_bind (D1.item _ k _ xs x _ _ (D1.keep _ _ _ st1 fun o e => e1.extBut _ _ Z.a3 e) (D1.src _ _ _ h1 fun o e => e1.extBut _ _ Z.b1 e) hx fun g2 s12 e2 => wpAny_pure ?_)
  have t2 : IsPair g2 TO a b := e2.extBut _ _ Z.a8 (e1.extBut _ _ Z.a2 hTO)
  refine wpAny_bind (wpAny_seqItems t2 rfl (wpAny_bind (wpAny_updateSeq_pair t2 fun g3 t3 e3 => ?_)))
  replace t3 : IsPair g3 TO x b := t3
  refine wpAny_bind (wpAny_letGo (wpAny_pure (wpAny_bind (wpAny_bind (wpAny_onRaise ?_)))))
  show wpAny _ _ (Builtin.SmallTypes.nextOf (.ref i2) >>= _) _ _ _
  have up3 : ∀ c o, c ≠ z -> c ≠ TO -> c ≠ i1 -> s.heap.get? c = some o -> g3.get? c = some o := fun c o c1 c2 c3 e => e3.extBut _ _ c2 (e2.extBut _ _ c3 (e1.extBut _ _ c1 e))
  refine wpAny_bind (D2.item _ k _ ys y _ _ (D2.keep _ _ _ st2 fun o e => up3 _ _ Z.a4 Z.a9.symm Z.a10.symm e) (D2.src _ _ _ h2 fun o e => up3 _ _ Z.b5 Z.b6 Z.b7 e) hy fun g4 s24 e4 => wpAny_pure ?_)
  have t4 : IsPair g4 TO x b := e4.extBut _ _ Z.a9 t3
  refine wpAny_bind (wpAny_seqItems t4 rfl (wpAny_bind (wpAny_updateSeq_pair t4 fun g5 t5 e5 => ?_)))
  replace t5 : IsPair g5 TO x y := t5
  refine wpAny_bind (wpAny_letGo (wpAny_pure (wpAny_pure (wpAny_bind (wpAny_seqItems t5 rfl (wpAny_bind (wpAny_newTuple ?_)))))))
  have size5 : g5.objs.size = s.heap.objs.size := by rw [e5.1, e4.1, e3.1, e2.1, e1.1]
  have z5 : IsZip g5 z TI TO .ellipsis := e5.extBut _ _ Z.a2.symm (e4.extBut _ _ Z.a4.symm (e3.extBut _ _ Z.a2.symm (e2.extBut _ _ Z.a3.symm z1)))
  have up5 : ∀ c o, c ≠ z -> c ≠ TO -> c ≠ i1 -> c ≠ i2 -> s.heap.get? c = some o -> g5.get? c = some o := fun c o c1 c2 c3 c4 e => e5.extBut _ _ c2 (e4.extBut _ _ c4 (up3 c o c1 c2 c3 e))
  have s15 : S1 (k + 1) g5 := D1.keep _ _ _ s12 fun o e => e5.extBut _ _ Z.a8.symm (e4.extBut _ _ Z.a10 (e3.extBut _ _ Z.a8.symm e))
  have s25 : S2 (k + 1) g5 := D2.keep _ _ _ s24 fun o e => e5.extBut _ _ Z.a9.symm e
  have zlt : z < g5.objs.size := Heap.lt_size z5
  show wpAny _ _ (Builtin.SmallTypes.ownedTupleHandOut (.ref z) (.ref g5.objs.size) >>= _) _ _ _
  refine wpAny_bind ?_
  unfold Builtin.SmallTypes.ownedTupleHandOut
  have z6 : IsZip (g5.push { cls := .type "tuple", data := .seq #[x, y] }) z TI TO .ellipsis := Heap.get?_push_of_some _ z5
  refine wpAny_bind (wpAny_setField_rec z6 (by simp) fun g7 z7 e7 => ?_)
  replace z7 : IsZip g7 z TI TO (rawInt g5.objs.size) := z7
  refine wpAny_setField_rec z7 (by simp) fun g8 z8 e8 => ?_
  replace z8 : IsZip g8 z TI TO (rawInt g5.objs.size) := z8
  have up8 : ∀ c o, c ≠ z -> g5.get? c = some o -> g8.get? c = some o := fun c o c1 e => e8.extBut _ _ c1 (e7.extBut _ _ c1 (Heap.get?_push_of_some _ e))
  have p8 : IsPair g8 g5.objs.size x y := e8.extBut _ _ (Nat.ne_of_gt zlt) (e7.extBut _ _ (Nat.ne_of_gt zlt) (Heap.get?_push_size _ rfl))
  rw [size5] at z8 p8
  refine wpAny_pure ⟨_, rfl, ?_⟩
  show Q (.ref g5.objs.size) _
  rw [size5]
  exact hQ g8 z8 (up8 _ _ Z.a2 t5) (D1.keep _ _ _ s15 fun o e => up8 _ _ Z.a3 e) (D2.keep _ _ _ s25 fun o e => up8 _ _ Z.a4 e) p8 fun c o c1 c2 c3 c4 e => up8 c o c1 (up5 c o c1 c2 c3 c4 e)
theorem zipD_end {Q : PySem.Fin -> Shared -> Prop} (hh : A.handled = none) (Z : ZA z TI TO i1 i2 l1 l2) (D1 : Drw P w i1 l1 S1 H1) (D2 : Drw P w i2 l2 S2 H2) (hz : IsZip s.heap z TI TO .none) (hTI : IsPair s.heap TI (.ref i1) (.ref i2)) (hTO : IsPair s.heap TO a b)
    (st1 : S1 k s.heap) (st2 : S2 k s.heap) (h1 : H1 s.heap xs) (h2 : H2 s.heap ys) (hend : xs[k]? = none \/ ys[k]? = none)
    (hE : ∀ h' e, (∀ c o, c ≠ z -> c ≠ TO -> c ≠ i1 -> c ≠ i2 -> s.heap.get? c = some o -> h'.get? c = some o) -> (∃ o, h'.get? e = some o /\ o.cls = .type "StopIteration") -> E (.ref e) { s with heap := h' }) :
    wpAny (model P w) A (Builtin.«zip.__next__» ⟨[.ref z], []⟩) Q E s := by
  show wpAny _ _ (field (.ref z) 2 >>= _) _ _ _
  refine wpAny_bind (wpAny_field hz rfl (x := .bool false) rfl ?_)
  show wpAny _ _ (field (.ref z) 3 >>= _) _ _ _
  refine wpAny_bind (wpAny_field hz rfl (x := .ref TI) rfl (wpAny_bind (wpAny_seqItems hTI rfl ?_)))
  show wpAny _ _ (Builtin.SmallTypes.ownedTupleIsFree (.ref z) >>= _) _ _ _
  refine wpAny_bind ?_
  unfold Builtin.SmallTypes.ownedTupleIsFree
  refine wpAny_bind (wpAny_field hz rfl (x := .none) rfl (wpAny_pure ?_))
  simp only [if_true]
  refine wpAny_bind (wpAny_rule (wpAny_bind (wpAny_field hz rfl (x := .ref TO) rfl (wpAny_bind (wpAny_setField_rec hz (by simp) fun g1 z1 e1 => ?_)))))
  replace z1 : IsZip g1 z TI TO .ellipsis := z1
  refine wpAny_bind ?_
  simp only [List.zipIdx_cons, List.zipIdx_nil, List.forIn_cons, List.forIn_nil]
  refine wpAny_bind (wpAny_bind (wpAny_onRaise ?_))
  show wpAny _ _ (Builtin.SmallTypes.nextOf (.ref i1) >>= _) _ _ _
  have st1' := D1.keep _ _ _ st1 fun o e => e1.extBut _ _ Z.a3 e
  have h1' := D1.src _ _ _ h1 fun o e => e1.extBut _ _ Z.b1 e
  cases hx : xs[k]? with
  | none =>
    refine wpAny_bind (D1.done _ k _ xs _ _ hh st1' h1' hx fun g2 e e2 ⟨oe, hoe, hce⟩ => ?_)
    have z2 : IsZip g2 z TI TO .ellipsis := e2 _ _ Z.a3.symm z1
    have ne : e ≠ z := fun q => by subst q; rw [z2] at hoe; cases hoe; simp at hce
    exact wpAny_setField_rec z2 (by simp) fun g3 _ e3 => hE g3 e (fun c o c1 _ c3 _ q => e3.extBut _ _ c1 (e2 _ _ c3 (e1.extBut _ _ c1 q))) ⟨oe, e3.extBut _ _ ne hoe, hce⟩
  | some x =>
    have hy : ys[k]? = none := hend.elim (fun q => by rw [hx] at q; cases q) id
    refine wpAny_bind (D1.item _ k _ xs x _ _ st1' h1' hx fun g2 s12 e2 => wpAny_pure ?_)
    have t2 : IsPair g2 TO a b := e2.extBut _ _ Z.a8 (e1.extBut _ _ Z.a2 hTO)
    refine wpAny_bind (wpAny_seqItems t2 rfl (wpAny_bind (wpAny_updateSeq_pair t2 fun g3 t3 e3 => ?_)))
    refine wpAny_bind (wpAny_letGo (wpAny_pure (wpAny_bind (wpAny_bind (wpAny_onRaise ?_)))))
    show wpAny _ _ (Builtin.SmallTypes.nextOf (.ref i2) >>= _) _ _ _
    have up3 : ∀ c o, c ≠ z -> c ≠ TO -> c ≠ i1 -> s.heap.get? c = some o -> g3.get? c = some o := fun c o c1 c2 c3 e => e3.extBut _ _ c2 (e2.extBut _ _ c3 (e1.extBut _ _ c1 e))
    refine wpAny_bind (D2.done _ k _ ys _ _ hh (D2.keep _ _ _ st2 fun o e => up3 _ _ Z.a4 Z.a9.symm Z.a10.symm e) (D2.src _ _ _ h2 fun o e => up3 _ _ Z.b5 Z.b6 Z.b7 e) hy fun g4 e e4 ⟨oe, hoe, hce⟩ => ?_)
    have z4 : IsZip g4 z TI TO .ellipsis := e4 _ _ Z.a4.symm (e3.extBut _ _ Z.a2.symm (e2.extBut _ _ Z.a3.symm z1))
    have ne : e ≠ z := fun q => by subst q; rw [z4] at hoe; cases hoe; simp at hce
    exact wpAny_setField_rec z4 (by simp) fun g5 _ e5 => hE g5 e (fun c o c1 c2 c3 c4 q => e5.extBut _ _ c1 (e4 _ _ c4 (up3 c o c1 c2 c3 q))) ⟨oe, e5.extBut _ _ ne hoe, hce⟩
end
structure SqK (sq : PySem.W.Frag -> Hp -> Addr -> List V -> Prop) (Hs : Addr -> Heap -> List Value -> Prop) : Prop where
  get : ∀ {X : Cx} {pins : List (Addr × Obj)} {σ : St} {H : Hp} {s : Shared} {l : Addr} {xs : List V}, Inv X pins σ H s -> sq X.K H l xs -> ∃ its, Vals xs its /\ Hs l s.heap its
  inj : ∀ {X : Cx} {pins : List (Addr × Obj)} {σ : St} {H : Hp} {s : Shared} {l : Addr} {xs ys : List V}, Inv X pins σ H s -> sq X.K H l xs -> sq X.K H l ys -> xs = ys
theorem sqk_list : SqK SqL (fun l h its => h.IsList l its.toArray) := ⟨fun I h => let ⟨its, r, p, _⟩ := I.list h; ⟨its, r, p.isList⟩, fun I h h' => I.list_inj h h'⟩
theorem sqk_tup : SqK SqT (fun l h its => h.IsTuple l its.toArray) := ⟨fun I h => let ⟨its, r, p, _⟩ := I.tuple h; ⟨its, r, p⟩, fun I h h' => I.tuple_inj h h'⟩
def Itz (sq : PySem.W.Frag -> Hp -> Addr -> List V -> Prop) (K : PySem.W.Frag) (l1 l2 : Addr) : It :=
  ⟨fun i H => ∃ xs ys, sq K H l1 xs /\ sq K H l2 ys /\ i < xs.length /\ i < ys.length, fun i H v H' => ∃ p a b, v = .ref p /\ H p = none /\ H' = upd H p (.tup [a, b]) /\ ∀ xs ys, sq K H l1 xs -> sq K H l2 ys -> xs[i]? = some a /\ ys[i]? = some b,
    fun i H => ∃ xs ys, sq K H l1 xs /\ sq K H l2 ys /\ (xs.length <= i \/ ys.length <= i)⟩
theorem turn_zip {P : Program} {w : World} {K : PySem.W.Frag} {elts : List Expr} {ek : Nat} {epos : Pos} {sq : PySem.W.Frag -> Hp -> Addr -> List V -> Prop} {Hs : Addr -> Heap -> List Value -> Prop} {z TI TO i1 i2 l1 l2 : Addr} {S1 S2 : Nat -> Heap -> Prop}
    (SK : SqK sq Hs) (Z : ZA z TI TO i1 i2 l1 l2) (D1 : Drw P w i1 l1 S1 (Hs l1)) (D2 : Drw P w i2 l2 S2 (Hs l2)) :
    Turn P w K (.Tuple elts ek epos) (Itz sq K l1 l2) [z, TI, TO, i1, i2] z (fun i h => IsZip h z TI TO .none /\ IsPair h TI (.ref i1) (.ref i2) /\ (∃ a b, IsPair h TO a b) /\ S1 i h /\ S2 i h) where
  mem := by simp
  obj := fun i h st b hb => by
    obtain ⟨hz, hTI, ⟨a, c, hTO⟩, s1, s2⟩ := st
    simp only [List.mem_cons, List.not_mem_nil, or_false] at hb
    rcases hb with rfl | rfl | rfl | rfl | rfl
    · exact ⟨_, hz, fun v q => by cases q⟩
    · exact ⟨_, hTI, fun v q => by cases q⟩
    · exact ⟨_, hTO, fun v q => by cases q⟩
    · exact D1.obj _ _ s1
    · exact D2.obj _ _ s2
  keep := fun i h h' st k => by
    obtain ⟨hz, hTI, ⟨a, c, hTO⟩, s1, s2⟩ := st
    exact ⟨k z (by simp) _ hz, k TI (by simp) _ hTI, ⟨a, c, k TO (by simp) _ hTO⟩, D1.keep _ _ _ s1 fun o e => k i1 (by simp) o e, D2.keep _ _ _ s2 fun o e => k i2 (by simp) o e⟩
  item := by
    intro X hP hw hK hc i pins s σ H E I hf st hg
    subst hP hw hK
    obtain ⟨hz, hTI, ⟨a, b, hTO⟩, s1, s2⟩ := st
    obtain ⟨xs, ys, q1, q2, hx, hy⟩ := hg
    obtain ⟨its1, r1, w1⟩ := SK.get I q1
    obtain ⟨its2, r2, w2⟩ := SK.get I q2
    have gx : xs[i]? = some xs[i] := List.getElem?_eq_getElem hx
    have gy : ys[i]? = some ys[i] := List.getElem?_eq_getElem hy
    obtain ⟨u1, hu1, ru1⟩ := r1.get gx
    obtain ⟨u2, hu2, ru2⟩ := r2.get gy
    have hT : s.TypeIs (.ref z) "zip" := ⟨_, hz, rfl⟩
    unfold pyNext
    refine wpAny_bind (wpAny_attempt (wpAny_callSpecial?_slot (name := Str.ofString "__next__") hT F.slot_zip_next (wpAny_call_entry F.slot_zip_next hT F.entry_zip_next
      (zipD_item Z D1 D2 hz hTI hTO s1 s2 w1 w2 hu1 hu2 fun h' z1 t1 n1 n2 p1 kp => wpAny_pure ?_) (F.args_zip_next_1 _))))
    refine ⟨_, rfl, ?_⟩
    have nfp : ∀ c, c ∈ [z, TO, i1, i2] -> c ∈ [z, TI, TO, i1, i2] := fun c hc => by
      simp only [List.mem_cons, List.not_mem_nil, or_false] at hc ⊢
      rcases hc with q | q | q | q
      · exact .inl q
      · exact .inr (.inr (.inl q))
      · exact .inr (.inr (.inr (.inl q)))
      · exact .inr (.inr (.inr (.inr q)))
    have kp' : ∀ c o, c ∉ [z, TO, i1, i2] -> s.heap.get? c = some o -> h'.get? c = some o := fun c o hc e => kp c o (fun q => hc (by simp [q])) (fun q => hc (by simp [q])) (fun q => hc (by simp [q])) (fun q => hc (by simp [q])) e
    have hp : H s.heap.objs.size = none := I.hok.fresh (Nat.le_refl _)
    have ltp : ∀ c o, s.heap.get? c = some o -> c ≠ s.heap.objs.size := fun c o e => Nat.ne_of_lt (Heap.lt_size e)
    have ntr : ∀ c u, H c = some u -> c ∉ [z, TO, i1, i2] := fun c u e hc => by
      have := (hf c (nfp c hc)).1
      rw [this] at e; cases e
    have there4 : ∀ c, c ∈ [z, TO, i1, i2] -> ∃ o', h'.get? c = some o' := fun c hc => by
      simp only [List.mem_cons, List.not_mem_nil, or_false] at hc
      rcases hc with rfl | rfl | rfl | rfl
      · exact ⟨_, z1⟩
      · exact ⟨_, t1⟩
      · obtain ⟨o, e, _⟩ := D1.obj _ _ n1; exact ⟨o, e⟩
      · obtain ⟨o, e, _⟩ := D2.obj _ _ n2; exact ⟨o, e⟩
    have I1 : Inv X pins σ (upd H s.heap.objs.size (.tup [xs[i], ys[i]])) { s with heap := h' } := by
      refine I.step (g' := s.gens) (d' := s.drawn) (t' := s.toks) (ch := [z, TO, i1, i2]) (fun c hc => ?_) (fun c o _ _ hc e _ => kp' c o hc e) (fun c o _ _ hc e _ => ⟨o.slots, kp' c o hc e⟩) (fun c o hc e n => by rw [Zq6 (ltp c o e)]; exact n)
        (fun c o hc e => ⟨o, kp' c o hc e⟩) (fun c us e => by rw [Zq6 (Zq13 e hp)]; exact e) (fun c o u e => by rw [Zq6 (Zq13 e hp)]; exact e) (fun c ps e => ⟨#[], by rw [Zq6 (Zq13 e hp), e]; simp⟩) (fun m hm => ?_) ?_ I.bare
      · obtain ⟨f0, f1, f2, f3, f4, f5⟩ := hf c (nfp c hc)
        exact ⟨f3, f1, f4, f5⟩
      · refine hm.at fun o e => kp' _ o (fun hc => ?_) e
        exact (hf _ (nfp _ hc)).2.1 rfl
      · intro c u e
        by_cases hcp : c = s.heap.objs.size
        · subst hcp
          rw [Zq7] at e
          cases e
          exact ⟨by show 2 <= sizeLine; decide, [u1, u2], .cons ru1 (.cons ru2 .nil), ⟨_, p1, rfl, _, rfl⟩⟩
        · rw [Zq6 hcp] at e
          refine (I.hok c u e).stay (fun d v hd q => kp' d v ?_ q) (fun d q => by rw [Zq6 (Zq13 q hp)]; exact q) fun d us q => by rw [Zq6 (Zq13 q hp)]; exact q
          rcases hd with rfl | hd
          · exact ntr _ u e
          · exact ntr _ _ hd
    refine wpAny_letOwnedTupleGo_zip (s := { s with heap := h' }) z1 fun h2 z2 e2 => ?_
    obtain ⟨f0, f1, f2, f3, f4, f5⟩ := hf z (by simp)
    have nz : z ≠ s.heap.objs.size := ltp z _ hz
    have I2 : Inv X pins σ (upd H s.heap.objs.size (.tup [xs[i], ys[i]])) { s with heap := h2 } := I1.turned (s := { s with heap := h' }) (it := z) (t' := s.toks) (fun c o hc e => (e2.2 c hc).trans e) (by rw [Zq6 nz]; exact f0) f1 f3 f4 f5
    refine ⟨.ref s.heap.objs.size, _, I2, rfl, ⟨s.heap.objs.size, xs[i], ys[i], rfl, hp, rfl, fun xs' ys' q1' q2' => ?_⟩, ⟨z2, (e2.2 _ Z.a1).trans (kp' TI _ (fun hc => ?_) hTI), ⟨_, _, (e2.2 _ Z.a2).trans t1⟩, D1.keep _ _ _ n1 fun o e => (e2.2 _ Z.a3).trans e, D2.keep _ _ _ n2 fun o e => (e2.2 _ Z.a4).trans e⟩, fun c hc => ?_⟩
    · rw [SK.inj I q1' q1, SK.inj I q2' q2]
      exact ⟨gx, gy⟩
    · simp only [List.mem_cons, List.not_mem_nil, or_false] at hc
      rcases hc with q | q | q | q
      · exact Z.a1 q
      · exact Z.a5 q
      · exact Z.a6 q
      · exact Z.a7 q
    · obtain ⟨o, ho⟩ : ∃ o, s.heap.get? c = some o := by
        simp only [List.mem_cons, List.not_mem_nil, or_false] at hc
        rcases hc with rfl | rfl | rfl | rfl | rfl
        · exact ⟨_, hz⟩
        · exact ⟨_, hTI⟩
        · exact ⟨_, hTO⟩
        · obtain ⟨o, e, _⟩ := D1.obj _ _ s1; exact ⟨o, e⟩
        · obtain ⟨o, e, _⟩ := D2.obj _ _ s2; exact ⟨o, e⟩
      rw [Zq6 (ltp c o ho)]
      exact (hf c hc).1
  done := by
    intro X hP hw hK hc i pins s σ H E I hf st hg
    subst hP hw hK
    obtain ⟨hz, hTI, ⟨a, b, hTO⟩, s1, s2⟩ := st
    obtain ⟨xs, ys, q1, q2, hend⟩ := hg
    obtain ⟨its1, r1, w1⟩ := SK.get I q1
    obtain ⟨its2, r2, w2⟩ := SK.get I q2
    have hT : s.TypeIs (.ref z) "zip" := ⟨_, hz, rfl⟩
    have hend' : its1[i]? = none \/ its2[i]? = none := by
      have e1 := r1.length
      have e2 := r2.length
      rcases hend with q | q
      · exact .inl (List.getElem?_eq_none (by lia))
      · exact .inr (List.getElem?_eq_none (by lia))
    unfold pyNext
    refine wpAny_bind (wpAny_attempt (wpAny_callSpecial?_slot (name := Str.ofString "__next__") hT F.slot_zip_next (wpAny_call_entry F.slot_zip_next hT F.entry_zip_next (zipD_end (I.ok.hd hc) Z D1 D2 hz hTI hTO s1 s2 w1 w2 hend' fun h' e kp ⟨o, ho, hcl⟩ => ?_) (F.args_zip_next_1 _))))
    refine wpAny_bind (wpAny_isInstance (T := "StopIteration") (b := true) ⟨o, ho, hcl⟩ isSubtype_stop (wpAny_pure ⟨rfl, ?_⟩))
    have nfp : ∀ c, c ∈ [z, TO, i1, i2] -> c ∈ [z, TI, TO, i1, i2] := fun c hc => by
      simp only [List.mem_cons, List.not_mem_nil, or_false] at hc ⊢
      rcases hc with q | q | q | q
      · exact .inl q
      · exact .inr (.inr (.inl q))
      · exact .inr (.inr (.inr (.inl q)))
      · exact .inr (.inr (.inr (.inr q)))
    have kp' : ∀ c o, c ∉ [z, TO, i1, i2] -> s.heap.get? c = some o -> h'.get? c = some o := fun c o hc e => kp c o (fun q => hc (by simp [q])) (fun q => hc (by simp [q])) (fun q => hc (by simp [q])) (fun q => hc (by simp [q])) e
    have ntr : ∀ c u, H c = some u -> c ∉ [z, TO, i1, i2] := fun c u e hc => by
      have := (hf c (nfp c hc)).1
      rw [this] at e; cases e
    refine I.step (g' := s.gens) (d' := s.drawn) (t' := s.toks) (ch := [z, TO, i1, i2]) (fun c hc => ?_) (fun c o _ _ hc e _ => kp' c o hc e) (fun c o _ _ hc e _ => ⟨o.slots, kp' c o hc e⟩) (fun c o hc e n => n)
      (fun c o hc e => ⟨o, kp' c o hc e⟩) (fun c us e => e) (fun c o u e => e) (fun c ps e => ⟨#[], by rw [e]; simp⟩) (fun m hm => ?_) ?_ I.bare
    · obtain ⟨f0, f1, f2, f3, f4, f5⟩ := hf c (nfp c hc)
      exact ⟨f3, f1, f4, f5⟩
    · refine hm.at fun o e => kp' _ o (fun hc => ?_) e
      exact (hf _ (nfp _ hc)).2.1 rfl
    · intro c u e
      refine (I.hok c u e).stay (fun d v hd q => kp' d v ?_ q) (fun d q => q) fun d us q => q
      rcases hd with rfl | hd
      · exact ntr _ u e
      · exact ntr _ _ hd
  self := fun A i s Q E st h => wpAny_pyIter_zip st.1 h
abbrev tzA (h : Heap) (t1 : Addr) : Heap := h.push { cls := .type "tuple_iterator", data := .fields #[.ref t1, .int 0 0] }
abbrev tzB (h : Heap) (t1 t2 : Addr) : Heap := (tzA h t1).push { cls := .type "tuple_iterator", data := .fields #[.ref t2, .int 0 0] }
abbrev tzC (h : Heap) (t1 t2 : Addr) : Heap := (tzB h t1 t2).push { cls := .type "tuple", data := .seq #[.ref h.objs.size, .ref (tzA h t1).objs.size] }
abbrev tzD (h : Heap) (t1 t2 : Addr) : Heap := (tzC h t1 t2).push { cls := .type "tuple", data := .seq #[.none, .none] }
abbrev tzE (h : Heap) (t1 t2 : Addr) : Heap := (tzD h t1 t2).push { cls := .type "zip", data := .fields #[.none, .bool false, .bool false, .ref (tzB h t1 t2).objs.size, .ref (tzC h t1 t2).objs.size] }
theorem meets_zipT (l1 l2 : Addr) (xs ys : Array Value) : Meets (Builtin.«zip.__new__» ⟨[.type "zip", .ref l1, .ref l2], []⟩) (fun _ R s => s.heap.IsTuple l1 xs /\ s.heap.IsTuple l2 ys /\ R (.ok (.ret (.ref (tzD s.heap l1 l2).objs.size))) { s with heap := tzE s.heap l1 l2 }) :=
  .of_wp fun prog w A R s h => by
    obtain ⟨hp, g, d, tk, os⟩ := s; obtain ⟨hl1, hl2, h⟩ := h
    have hsub := sub_zip
    have hL1 : Heap.IsTuple (Shared.heap ⟨hp, g, d, tk, os⟩) l1 xs := hl1
    have hL2 : Heap.IsTuple (Shared.heap ⟨tzA hp l1, g, d, tk, os⟩) l2 ys := let ⟨o, e, r⟩ := hl2; ⟨o, Heap.get?_push_of_some _ e, r⟩
    wp_walk using wpAny_pyIter_tuple hL1, wpAny_pyIter_tuple hL2
    exact ⟨_, rfl, h⟩
section
variable {P : Program} {w : World} {A : Around} {E : Value -> Shared -> Prop} {s : Shared}
theorem call_zipT {l1 l2 : Addr} {xs ys : Array Value} {Q : Value -> Shared -> Prop} (hl1 : s.heap.IsTuple l1 xs) (hl2 : s.heap.IsTuple l2 ys)
    (h : ∀ h', IsZip h' (s.heap.objs.size + 4) (s.heap.objs.size + 2) (s.heap.objs.size + 3) .none -> IsPair h' (s.heap.objs.size + 2) (.ref s.heap.objs.size) (.ref (s.heap.objs.size + 1)) ->
      IsPair h' (s.heap.objs.size + 3) .none .none -> h'.IsTupleIter s.heap.objs.size l1 0 -> h'.IsTupleIter (s.heap.objs.size + 1) l2 0 ->
      (∀ c o, s.heap.get? c = some o -> h'.get? c = some o) -> Q (.ref (s.heap.objs.size + 4)) { s with heap := h' }) : wpAny (model P w) A (call (.type "zip") [.ref l1, .ref l2]) Q E s := by
  refine callType_new F.called_zip (by decide) (F.typeCall_zip_2 _ _) (F.newCall_zip_2 _ _) (fun obj => F.args_object_init_3 obj _ _) F.entry_zip_new (meets_zipT l1 l2 xs ys) ⟨hl1, hl2, ?_⟩
  have n1 : (tzA s.heap l1).objs.size = s.heap.objs.size + 1 := Heap.size_push ..
  have n2 : (tzB s.heap l1 l2).objs.size = s.heap.objs.size + 2 := by rw [Heap.size_push, n1]
  have n3 : (tzC s.heap l1 l2).objs.size = s.heap.objs.size + 3 := by rw [Heap.size_push, n2]
  have n4 : (tzD s.heap l1 l2).objs.size = s.heap.objs.size + 4 := by rw [Heap.size_push, n3]
  have q5 : (tzE s.heap l1 l2).get? (tzD s.heap l1 l2).objs.size = some _ := Heap.get?_push_size _ rfl
  have q4 : (tzE s.heap l1 l2).get? (tzC s.heap l1 l2).objs.size = some _ := Heap.get?_push_of_some _ (Heap.get?_push_size _ rfl)
  have q3 : (tzE s.heap l1 l2).get? (tzB s.heap l1 l2).objs.size = some _ := Heap.get?_push_of_some _ (Heap.get?_push_of_some _ (Heap.get?_push_size _ rfl))
  have q2 : (tzE s.heap l1 l2).get? (tzA s.heap l1).objs.size = some _ := Heap.get?_push_of_some _ (Heap.get?_push_of_some _ (Heap.get?_push_of_some _ (Heap.get?_push_size _ rfl)))
  have q1 : (tzE s.heap l1 l2).get? s.heap.objs.size = some _ := Heap.get?_push_of_some _ (Heap.get?_push_of_some _ (Heap.get?_push_of_some _ (Heap.get?_push_of_some _ (Heap.get?_push_size _ rfl))))
  show _ /\ _
  rw [n2, n3, n4] at q5
  rw [n1, n2] at q3
  rw [n3] at q4
  rw [n1] at q2
  rw [n4]
  exact ⟨⟨_, q5, rfl⟩, h _ q5 q3 q4 ⟨_, q1, rfl, rfl⟩ ⟨_, q2, rfl, rfl⟩ fun c o x => Heap.get?_push_of_some _ (Heap.get?_push_of_some _ (Heap.get?_push_of_some _ (Heap.get?_push_of_some _ (Heap.get?_push_of_some _ x))))⟩
end
theorem za_of {n l1 l2 : Addr} (h1 : l1 < n) (h2 : l2 < n) : ZA (n + 4) (n + 2) (n + 3) n (n + 1) l1 l2 := by
  have h1 : @LT.lt Nat _ l1 n := h1
  have h2 : @LT.lt Nat _ l2 n := h2
  have key : ∀ (a b : Nat), (a < b \/ b < a) -> ¬ (@Eq Nat a b) := fun a b h q => by lia
  exact ⟨key _ _ (by lia), key _ _ (by lia), key _ _ (by lia), key _ _ (by lia), key _ _ (by lia), key _ _ (by lia), key _ _ (by lia), key _ _ (by lia), key _ _ (by lia), key _ _ (by lia),
    key _ _ (by lia), key _ _ (by lia), key _ _ (by lia), key _ _ (by lia), key _ _ (by lia), key _ _ (by lia), key _ _ (by lia), key _ _ (by lia)⟩
def iZip (K : PySem.W.Frag) (ta : TA) : TI := fun σ H R => ta σ H fun vs H1 => ∃ l1 l2, vs = [.ref l1, .ref l2] /\
  ((∃ xs ys, SqL K H1 l1 xs /\ SqL K H1 l2 ys /\ R (Itz SqL K l1 l2) H1) \/ (∃ xs ys, SqT K H1 l1 xs /\ SqT K H1 l2 ys /\ R (Itz SqT K l1 l2) H1))
theorem pi_zip {X : Cx} {a b : Expr} {ta : TA} {p pos : Pos} {elts : List Expr} {ek : Nat} {epos : Pos} (hg : Gl X "zip") (hm : X.mg "zip" = none) (ha : PA X [a, b] ta) (hs : starEach [a, b] X.env = [(false, eval a X.env), (false, eval b X.env)] := by rfl) (hs2 : starEach [b] X.env = [(false, eval b X.env)] := by rfl) :
    PI X (.Tuple elts ek epos) (.Call (.Name "zip" p) [a, b] [] pos) (iZip X.K ta) := by
  intro pins s σ H R I h
  refine Call_ (ld_blt I hg hm boot_zip (PyProof.Rows.callWith_type1 (thn (ha pos pins s σ H _ I h) fun us s1 ⟨vs, H1, I1, r1, q1⟩ => ?_) (by rw [hs, hs2]) (by rw [hs2]; rfl)))
  obtain ⟨l1, l2, e, q1⟩ := q1
  subst e
  obtain ⟨u1, u2, rfl, ru1, ru2⟩ := vals2 r1
  cases ru1
  cases ru2
  have fin : ∀ {sq : PySem.W.Frag -> Hp -> Addr -> List V -> Prop} {Hs : Addr -> Heap -> List Value -> Prop} {S1 S2 : Nat -> Heap -> Prop} {h' : Heap}, SqK sq Hs -> l1 < s1.heap.objs.size -> l2 < s1.heap.objs.size -> Drw X.prog X.w s1.heap.objs.size l1 S1 (Hs l1) -> Drw X.prog X.w (s1.heap.objs.size + 1) l2 S2 (Hs l2) ->
      IsZip h' (s1.heap.objs.size + 4) (s1.heap.objs.size + 2) (s1.heap.objs.size + 3) .none -> IsPair h' (s1.heap.objs.size + 2) (.ref s1.heap.objs.size) (.ref (s1.heap.objs.size + 1)) -> IsPair h' (s1.heap.objs.size + 3) .none .none -> S1 0 h' -> S2 0 h' -> (∀ c o, s1.heap.get? c = some o -> h'.get? c = some o) -> R (Itz sq X.K l1 l2) H1 ->
      wpAny (model X.prog X.w) X.A (pyIter (.ref (s1.heap.objs.size + 4))) (PIE X pins σ (.Tuple elts ek epos) R) X.xe { s1 with heap := h' } := by
    intro sq Hs S1 S2 h' SK b1 b2 D1 D2 z0 t1 t0 st1 st2 kp q
    refine wpAny_pyIter_zip z0 ?_
    refine ⟨s1.heap.objs.size + 4, _, _, _, H1, rfl, I1.kept (h' := h') (t' := s1.toks) kp, turn_zip SK (za_of b1 b2) D1 D2, ⟨z0, t1, ⟨_, _, t0⟩, st1, st2⟩, fun c hc => ?_, q⟩
    have hle : s1.heap.objs.size <= c := by
      simp only [List.mem_cons, List.not_mem_nil, or_false] at hc
      have : (s1.heap.objs.size : Nat) <= (c : Nat) := by rcases hc with rfl | rfl | rfl | rfl | rfl <;> lia
      exact this
    exact I1.fpOk hle (I1.hok.fresh hle)
  rcases q1 with ⟨xs, ys, h1, h2, q⟩ | ⟨xs, ys, h1, h2, q⟩
  · obtain ⟨its1, r1, p1, _⟩ := I1.list h1
    obtain ⟨its2, r2, p2, _⟩ := I1.list h2
    have b1 : l1 < s1.heap.objs.size := by obtain ⟨o, n, e, _⟩ := p1; exact Heap.lt_size e
    have b2 : l2 < s1.heap.objs.size := by obtain ⟨o, n, e, _⟩ := p2; exact Heap.lt_size e
    exact call_zip_2 p1.isList p2.isList fun h' z0 t1 t0 st1 st2 _ kp => fin sqk_list b1 b2 (drw_list _ _) (drw_list _ _) z0 t1 t0 st1 st2 kp q
  · obtain ⟨its1, r1, p1, _⟩ := I1.tuple h1
    obtain ⟨its2, r2, p2, _⟩ := I1.tuple h2
    have b1 : l1 < s1.heap.objs.size := by obtain ⟨o, e, _⟩ := p1; exact Heap.lt_size e
    have b2 : l2 < s1.heap.objs.size := by obtain ⟨o, e, _⟩ := p2; exact Heap.lt_size e
    exact call_zipT p1 p2 fun h' z0 t1 t0 st1 st2 kp => fin sqk_tup b1 b2 (drw_tuple _ _) (drw_tuple _ _) z0 t1 t0 st1 st2 kp q
theorem qi_zip {X : Cx} {a b : Expr} {ta : TA} {p pos : Pos} {elts : List Expr} {ek : Nat} {epos : Pos} (hg : Gl X "zip") (hm : X.mg "zip" = none) (ha : QA X [a, b] ta) (hs : starEach [a, b] X.env = [(false, eval a X.env), (false, eval b X.env)] := by rfl) (hs2 : starEach [b] X.env = [(false, eval b X.env)] := by rfl) :
    QI X (.Tuple elts ek epos) (.Call (.Name "zip" p) [a, b] [] pos) (iZip X.K ta) := ⟨pi_zip hg hm ha.h hs hs2⟩
theorem forW_zip {sq : PySem.W.Frag -> Hp -> Addr -> List V -> Prop} {K : PySem.W.Frag} {l1 l2 : Addr} {g : TG} {tb : TS} {D : Ends} {σ : St} {H : Hp} (xs ys : List V) (hxy : xs.length = ys.length) (Pv : Nat -> St -> Hp -> Prop) (h0 : Pv 0 σ H) (hl : ∀ i σ H, i <= xs.length -> Pv i σ H -> sq K H l1 xs /\ sq K H l2 ys)
    (hs : ∀ i x y p σ H, xs[i]? = some x -> ys[i]? = some y -> Pv i σ H -> H p = none -> g (.ref p) σ (upd H p (.tup [x, y])) fun σ2 H2 => tb { D with nx := Pv (i + 1), ct := Pv (i + 1), bk := D.nx } σ2 H2) (hd : ∀ σ H, Pv xs.length σ H -> D.nx σ H) : tForW (Itz sq K l1 l2) g tb D σ H := by
  refine ⟨fun i m σ H => m = xs.length - i /\ i <= xs.length /\ Pv i σ H, ⟨xs.length, by simp, Nat.zero_le _, h0⟩, ?_⟩
  rintro i m σ H ⟨rfl, hi, p⟩
  obtain ⟨q1, q2⟩ := hl i σ H hi p
  by_cases hlt : i < xs.length
  · refine .inr ⟨⟨xs, ys, q1, q2, hlt, by lia⟩, Pv (i + 1), fun σ' H' p' => ⟨xs.length - (i + 1), by lia, rfl, hlt, p'⟩, fun v H' y => ?_⟩
    obtain ⟨pp, a, b, rfl, hp, rfl, hv⟩ := y
    obtain ⟨e1, e2⟩ := hv xs ys q1 q2
    exact hs i a b pp σ H e1 e2 p hp
  · have e : i = xs.length := by lia
    subst e
    exact .inl ⟨⟨xs, ys, q1, q2, .inl (Nat.le_refl _)⟩, hd σ H p⟩
end L2
end
section
set_option Elab.async false
set_option linter.all false
set_option maxRecDepth 100000
set_option maxHeartbeats 4000000
namespace L2
open PySem PySem.Spec PyProof.Rows
inductive D where
  | non | bl (b : Bool) | int (i : Int) | str (x : Str) | tup (xs : List D) | lst (xs : List D)
mutual
def Rep (H : Hp) : D -> V -> Prop
  | .non, v => v = .non
  | .bl b, v => v = .bl b
  | .int i, v => v = .int i
  | .str x, v => v = .str x
  | .tup ds, v => ∃ a vs, v = .ref a /\ H a = some (.tup vs) /\ RepL H ds vs
  | .lst ds, v => ∃ a vs, v = .ref a /\ H a = some (.lst vs) /\ RepL H ds vs
def RepL (H : Hp) : List D -> List V -> Prop
  | [], vs => vs = []
  | d :: ds, vs => ∃ v r, vs = v :: r /\ Rep H d v /\ RepL H ds r
end
mutual
theorem Rep.mono {H H' : Hp} (k : Same H H') : ∀ (d : D) (v : V), Rep H d v -> Rep H' d v
  | .non, v, h => h
  | .bl b, v, h => h
  | .int i, v, h => h
  | .str x, v, h => h
  | .tup ds, v, h => by
    obtain ⟨a, vs, e, h1, h2⟩ := h
    exact ⟨a, vs, e, k _ _ h1, RepL.mono k ds vs h2⟩
  | .lst ds, v, h => by
    obtain ⟨a, vs, e, h1, h2⟩ := h
    exact ⟨a, vs, e, k _ _ h1, RepL.mono k ds vs h2⟩
theorem RepL.mono {H H' : Hp} (k : Same H H') : ∀ (ds : List D) (vs : List V), RepL H ds vs -> RepL H' ds vs
  | [], vs, h => h
  | d :: ds, vs, h => by
    obtain ⟨v, r, e, h1, h2⟩ := h
    exact ⟨v, r, e, Rep.mono k d v h1, RepL.mono k ds r h2⟩
end
theorem RepL.length {H : Hp} : ∀ {ds : List D} {vs : List V}, RepL H ds vs -> vs.length = ds.length
  | [], vs, h => by cases h; rfl
  | d :: ds, vs, h => by
    obtain ⟨v, r, rfl, h1, h2⟩ := h
    rw [List.length_cons, List.length_cons, RepL.length h2]
theorem RepL.get {H : Hp} : ∀ {ds : List D} {vs : List V} {i : Nat} {v : V}, RepL H ds vs -> vs[i]? = some v -> ∃ d, ds[i]? = some d /\ Rep H d v
  | [], vs, i, v, h, e => by cases h; simp at e
  | d :: ds, vs, i, v, h, e => by
    obtain ⟨w, r, rfl, h1, h2⟩ := h
    cases i with
    | zero => simp at e; subst e; exact ⟨d, rfl, h1⟩
    | succ i => simp at e; exact RepL.get (i := i) h2 e
mutual
def Zq77 : D -> D -> Bool
  | .non, .non => true
  | .bl a, .bl b => a == b
  | .int a, .int b => a == b
  | .str a, .str b => a == b
  | .tup a, .tup b => Zq127 a b
  | .lst a, .lst b => Zq127 a b
  | _, _ => false
def Zq127 : List D -> List D -> Bool
  | [], [] => true
  | a :: r, b :: s => Zq77 a b && Zq127 r s
  | _, _ => false
end
mutual
theorem sameD_refl : ∀ d : D, Zq77 d d = true
  | .non => rfl
  | .bl _ => by simp [Zq77]
  | .int _ => by simp [Zq77]
  | .str _ => by simp [Zq77]
  | .tup ds => by rw [Zq77]; exact sameL_refl ds
  | .lst ds => by rw [Zq77]; exact sameL_refl ds
theorem sameL_refl : ∀ ds : List D, Zq127 ds ds = true
  | [] => rfl
  | d :: ds => by rw [Zq127, sameD_refl d, sameL_refl ds]; rfl
end
mutual
def D.deep : D -> Nat
  | .tup ds => Zq193 ds + 1
  | .lst ds => Zq193 ds + 1
  | _ => 0
def Zq193 : List D -> Nat
  | [] => 0
  | d :: ds => max d.deep (Zq193 ds)
end
theorem deep_get : ∀ {ds : List D} {i : Nat} {d : D}, ds[i]? = some d -> d.deep <= Zq193 ds
  | [], i, d, h => by simp at h
  | e :: ds, 0, d, h => by simp at h; subst h; rw [Zq193]; lia
  | e :: ds, i + 1, d, h => by
    simp at h
    have := deep_get h
    rw [Zq193]; lia
def isI : D -> String -> Bool
  | .non, _ => false
  | .bl _, c => c == "bool" || c == "int"
  | .int _, c => c == "int"
  | .str _, c => c == "str"
  | .tup _, c => c == "tuple"
  | .lst _, c => c == "list"
def fiveT : List String := ["bool", "int", "str", "list", "tuple"]
theorem isi {K : PySem.W.Frag} {H : Hp} {d : D} {v : V} (r : Rep H d v) (c : String) (hc : c ∈ fiveT) : ∃ t, TyOf K H v t /\ PySem.W.kitOne K t (.type c) = some (isI d c) := by
  unfold fiveT at hc
  simp only [List.mem_cons, List.not_mem_nil, or_false] at hc
  cases d with
  | non => cases r; refine ⟨_, .non, ?_⟩; rcases hc with rfl | rfl | rfl | rfl | rfl <;> rfl
  | bl b => cases r; refine ⟨_, .bl b, ?_⟩; rcases hc with rfl | rfl | rfl | rfl | rfl <;> rfl
  | int i => cases r; refine ⟨_, .int i, ?_⟩; rcases hc with rfl | rfl | rfl | rfl | rfl <;> rfl
  | str x => cases r; refine ⟨_, .str x, ?_⟩; rcases hc with rfl | rfl | rfl | rfl | rfl <;> rfl
  | tup ds => obtain ⟨a, vs, rfl, h1, h2⟩ := r; refine ⟨_, .tup h1, ?_⟩; rcases hc with rfl | rfl | rfl | rfl | rfl <;> rfl
  | lst ds => obtain ⟨a, vs, rfl, h1, h2⟩ := r; refine ⟨_, .lst h1, ?_⟩; rcases hc with rfl | rfl | rfl | rfl | rfl <;> rfl
theorem Rep.none_iff {H : Hp} {d : D} {v : V} (r : Rep H d v) : decide (v = .non) = (match d with | .non => true | _ => false) := by
  cases d with
  | non => cases r; rfl
  | bl b => cases r; rfl
  | int i => cases r; rfl
  | str x => cases r; rfl
  | tup ds => obtain ⟨a, vs, rfl, h1, h2⟩ := r; rfl
  | lst ds => obtain ⟨a, vs, rfl, h1, h2⟩ := r; rfl
theorem sameL_take {as bs : List D} : ∀ {i : Nat} {a b : D}, as[i]? = some a -> bs[i]? = some b -> Zq127 (as.take (i + 1)) (bs.take (i + 1)) = (Zq127 (as.take i) (bs.take i) && Zq77 a b) := by
  induction as generalizing bs with
  | nil => intro i a b h; simp at h
  | cons x as ih =>
    intro i a b h1 h2
    cases bs with
    | nil => simp at h2
    | cons y bs =>
      cases i with
      | zero => simp at h1 h2; subst h1; subst h2; simp [Zq127]
      | succ i =>
        simp at h1 h2
        have := ih h1 h2
        rw [List.take_succ_cons, List.take_succ_cons, Zq127, this, List.take_succ_cons, List.take_succ_cons, Zq127, Bool.and_assoc]
theorem sameL_false_len {as bs : List D} (h : as.length ≠ bs.length) : Zq127 as bs = false := by
  induction as generalizing bs with
  | nil => cases bs with
    | nil => exact absurd rfl h
    | cons y bs => rfl
  | cons x as ih => cases bs with
    | nil => rfl
    | cons y bs => rw [Zq127, ih (fun e => h (by rw [List.length_cons, List.length_cons, e])), Bool.and_false]
theorem sameL_false_at {as bs : List D} {i : Nat} {a b : D} (h1 : as[i]? = some a) (h2 : bs[i]? = some b) (h : Zq77 a b = false) : Zq127 as bs = false := by
  induction as generalizing bs i with
  | nil => simp at h1
  | cons x as ih =>
    cases bs with
    | nil => simp at h2
    | cons y bs =>
      cases i with
      | zero => simp at h1 h2; subst h1; subst h2; rw [Zq127, h, Bool.false_and]
      | succ i => simp at h1 h2; rw [Zq127, ih h1 h2, Bool.and_false]
end L2
namespace L2
theorem Rep.mono' {H H' : Hp} {d : D} {v : V} (h : Rep H d v) (k : Same H H') : Rep H' d v := Rep.mono k d v h
end L2
end
section
set_option Elab.async false
set_option linter.all false
set_option maxRecDepth 100000
set_option maxHeartbeats 4000000
namespace L2
open PySem PySem.Spec PyProof.Rows
section
variable {X : Cx} {tg : Expr}
end
section
variable {g : TG} {tb : TS} {D : Ends} {σ : St} {H : Hp}
end
section
variable {X : Cx} {o i value : Expr} {pos pos' : Pos} {td ty tv : TE}
def rDNotIn : R2 := fun y x H Q => ∃ a o, x = .ref a /\ DGet H a y o /\ Q (.bl (!o.isSome)) H
def rDIn : R2 := fun y x H Q => ∃ a o, x = .ref a /\ DGet H a y o /\ Q (.bl o.isSome) H
theorem op_dnotin (hu : X.A.units + 1 < cLine) : OpR X (compareOp .NotIn) rDNotIn := by
  intro pins s σ H y x iv u Q I ry rx ⟨a, ov, ex, g, q⟩
  subst ex
  obtain rfl : u = Value.ref a := rx
  exact d_notIn hu I g ry fun s3 I3 => ⟨.bl (!ov.isSome), H, I3, rfl, q⟩
theorem op_din (hu : X.A.units + 1 < cLine) : OpR X (compareOp .In) rDIn := by
  intro pins s σ H y x iv u Q I ry rx ⟨a, ov, ex, g, q⟩
  subst ex
  obtain rfl : u = Value.ref a := rx
  exact d_in hu I g ry fun s3 I3 => ⟨.bl ov.isSome, H, I3, rfl, q⟩
theorem qop_dnotin {k : Nat} (hr : Room k X.A) : QOp X (compareOp .NotIn) rDNotIn := ⟨op_dnotin (by have := hr.units; lia)⟩
theorem Zq206 {k : Nat} (hr : Room k X.A) : QOp X (compareOp .In) rDIn := ⟨op_din (by have := hr.units; lia)⟩
theorem Zq147 {k : Nat} (hr : Room k X.A) (ho : QE X o td) (hi : QE X i ty) (hv : QE X value tv) (hs : swapsWith value (some (.Subscript o i pos')) pos.line X.env = pure false := by rfl) :
    QS X (.Assign [.Subscript o i pos'] value pos) (sDPut td ty tv) := ⟨ps_dput (by have := hr.units; lia) ho.h hi.h hv.h hs⟩
end
end L2
end
section
set_option Elab.async false
set_option linter.all false
set_option maxRecDepth 100000
set_option maxHeartbeats 4000000
namespace L2
open PySem PySem.Spec PyProof.Rows
section
variable {X : Cx}
end
end L2
end
section
set_option Elab.async false
set_option linter.all false
set_option maxRecDepth 100000
set_option maxHeartbeats 4000000
namespace L2
open PySem PySem.Spec PyProof.Rows
section
variable {X : Cx}
end
end L2
end
section
set_option Elab.async false
set_option linter.all false
namespace L2
open PySem PySem.Spec PyProof.Rows
theorem Zq131 {X : Cx} {st : Stmt} : QS X st (fun _ _ _ => False) := ⟨fun _ _ _ _ _ _ h => h.elim⟩
end L2
end
section
set_option Elab.async false
set_option linter.all false
set_option maxRecDepth 100000
set_option maxHeartbeats 4000000
namespace L2
open PySem PySem.Spec PyProof.Rows
end L2
end
section
set_option Elab.async false
set_option linter.all false
set_option maxRecDepth 100000
set_option maxHeartbeats 4000000
namespace L2
open PySem PySem.Spec PyProof.Rows
structure HasM (K : PySem.W.Frag) (C : Addr) (m qual : Str) (st : Stmt) : Prop where
  ex : ∃ (f : Addr) (fd : FuncData), Fun K m qual st f fd /\ Meth K C m f
structure Mt (P : Program) (w : World) (K : PySem.W.Frag) (mg : Str -> Option Value) (base : Heap) (C : Addr) (m : Str) (ps : List Str) (k : Nat) (sp : Sp) : Prop where
  ex : ∃ (f : Addr) (fd : FuncData), Meth K C m f /\ FnOk P w K mg base CX0 k f fd ps sp /\ Binds K fd ps []
section
variable {P : Program} {w : World} {K : PySem.W.Frag} {mg : Str -> Option Value} {base : Heap} {C : Addr} {m qual : Str} {st : Stmt} {N ps : List Str} {k : Nat} {sp : Sp}
theorem HasM.mtQ (h : HasM K C m qual st) (S : FnScope N ps (Zq1 st))
    (hb : ∀ (kV doc pm : Value) (an : Option Addr) (cdv ct : Value) (us : List Value), us.length = ps.length -> bindArgs (PySem.W.fnOf m qual (Zq112 st) (Zq47 st) (Zq1 st) .none kV doc pm an cdv ct) ⟨us, []⟩ = pure (ps.zip us))
    (len : ∀ vs H Q E, sp vs H Q E -> vs.length = ps.length)
    (hbody : ∀ (f : Addr) (cdv : Value) (A : Around) (outer : List Env) (s : Shared) (H : Hp) (vs : List V) (Q : VK) (E : XK), Room k (A.deeper (envOfC qual (Zq1 st) s.heap.objs.size f cdv)) -> sp vs H Q E ->
      ∃ t, QSs (cxOf CX0 P w K mg base N qual (Zq1 st) f cdv A outer s H E).nox (Zq47 st) t /\ t { nx := fun _ H' => Q .non H', rt := Q } (start N vs) H) : Mt P w K mg base C m ps (k + 1) sp := by
  obtain ⟨f, fd, F, M⟩ := h.ex
  exact ⟨f, fd, M, F.okQ S len (hbody f), F.binds hb⟩
theorem Zq64 {f : Addr} {oc : Value} {od an : Option Addr} {osl : Array (Option Value)} {kV doc pm cdv ct : Value} (a : PySem.W.findIn K (.ref C) m = some (some (.ref f))) (i : PySem.W.isFn K (.ref f) = true) (l : K.lookup f = some ⟨oc, od, .func (PySem.W.fnOf m qual (Zq112 st) (Zq47 st) (Zq1 st) .none kV doc pm an cdv ct), osl⟩)
    (c : PySem.W.codeIn K cdv qual = true) (kp : PySem.W.keepIn K (.ref f) = true) : HasM K C m qual st := ⟨f, _, fun_mk l c kp, ⟨a, i, kp⟩⟩
structure Mks (P : Program) (w : World) (K : PySem.W.Frag) (mg : Str -> Option Value) (base : Heap) (C : Addr) (x : Str) (k : Nat) (sp : Sp) : Prop where
  ex : ∃ (f : Addr) (fd : FuncData), Mk K C f /\ FnOk P w K mg base CX0 k f fd ["self"] sp /\ Binds K fd ["self"] [] /\ mg x = some (.ref C)
theorem Mt.mks {x : Str} (h : Mt P w K mg base C "__init__" ["self"] k sp) (mk : PySem.W.makesIn K C = true) (kc : PySem.W.keepIn K (.ref C) = true) (g : mg x = some (.ref C)) : Mks P w K mg base C x k sp := by
  obtain ⟨f, fd, M, F, B⟩ := h.ex
  exact ⟨f, fd, ⟨mk, M.at_, M.fn, kc⟩, F, B, g⟩
end
section
variable {X : Cx} {C : Addr} {m x f : Str} {ps : List Str} {k : Nat} {sp : Sp} {o e value i : Expr} {es : List Expr} {ta td ty tv : TE} {t : TA} {apos pos pos' p : Pos}
theorem Zq70 {pl : Sem Bool} (he : QE X o ta) (c : Cls X.K C) (M : Mt X.prog X.w X.K X.mg X.base C m ps k sp) (hr : Room k X.A) (ha : QA X (e :: es) t)
    (hst : starEach (e :: es) X.env = (false, eval e X.env) :: starEach es X.env := by rfl) (hpl : (backTo pos (starEach es X.env)).any (·.1) = false := by rfl)
    (ht : eval (.Call (.Attribute o m apos) (e :: es) [] pos) X.env = (do
      let ov ← eval o X.env
      standAt apos.atName
      let (f, first) ← holding [ov] (getMethod ov m pl)
      callWith pos f first (backTo pos (starEach (e :: es) X.env)) (backToKw pos (keywordEach [] X.env))) := by rfl) :
    QE X (.Call (.Attribute o m apos) (e :: es) [] pos) (tMeth C m sp [] E0 ta t) := by
  obtain ⟨f, fd, M, F, B⟩ := M.ex
  exact ⟨pe_meth he.h c M F hr B .nil pass0 ha.h hst hpl ht⟩
theorem qe_mt0 {pl : Sem Bool} (he : QE X o ta) (c : Cls X.K C) (M : Mt X.prog X.w X.K X.mg X.base C m ps k sp) (hr : Room k X.A)
    (ht : eval (.Call (.Attribute o m apos) [] [] pos) X.env = (do
      let ov ← eval o X.env
      standAt apos.atName
      let (f, first) ← holding [ov] (getMethod ov m pl)
      callWith pos f first (backTo pos (starEach [] X.env)) (backToKw pos (keywordEach [] X.env))) := by rfl) :
    QE X (.Call (.Attribute o m apos) [] [] pos) (tMeth C m sp [] E0 ta tNil) := by
  obtain ⟨f, fd, M, F, B⟩ := M.ex
  exact ⟨pe_meth0 he.h c M F hr B .nil pass0 ht⟩
theorem qe_mks (M : Mks X.prog X.w X.K X.mg X.base C x k sp) (hr : Room (k + 1) X.A) (n : Nm X.env.scope x .globalImplicit) : QE X (.Call (.Name x p) [] [] pos) (tMake C sp [] E0 tNil) := by
  obtain ⟨f, fd, M, F, B, g⟩ := M.ex
  exact ⟨pe_make0 M F hr n.1 g B .nil pass0 n.2.1⟩
theorem Zq43 (he : QE X e ta) (hb : attributeBase e f X.env (eval e X.env) = eval e X.env := by rfl) : QE X (.Attribute e f pos) (tFld X.K ta f) := ⟨pe_fld he.h hb⟩
theorem qs_fld (ha : QE X o ta) (hv : QE X value tv) (hs : swapsWith value (some (.Attribute o f pos')) pos.line X.env = pure false := by rfl) : QS X (.Assign [.Attribute o f pos'] value pos) (sFld X.K ta tv f) := ⟨ps_fld ha.h hv.h hs⟩
theorem qe_dnewK : QE X (.Dict [] [] pos) tDNewK := ⟨pe_dnewK⟩
theorem Zq123 (hr : Room k X.A) (ho : QE X o td) (hi : QE X i ty) (hs : NoSl i) : QE X (.Subscript o i pos) (tDGet td ty) := ⟨pe_dget (by have := hr.units; lia) ho.h hi.h hs⟩
theorem qe_disp1 {ek ev : Expr} {tk tw : TE} (hk : QE X ek tk) (hv : QE X ev tw) : QE X (.Dict [some ek] [ev] pos) (tDisp [(tk, tw)]) := ⟨pe_disp (pps_cons hk.h hv.h pps_nil) rfl rfl (by simp) (by show 1 <= 15; decide)⟩
def rLenD : List V -> Hp -> VK -> Prop := fun xs H Q => ∃ a kvs, xs = [V.ref a] /\ H a = some (.dK kvs) /\ Q (.int kvs.length) H
theorem qcall_lenD : QC X (.builtin "len") rLenD := ⟨call_lenD⟩
end
end L2
end
section
set_option Elab.async false
set_option linter.all false
set_option maxRecDepth 100000
set_option maxHeartbeats 4000000
namespace L2
open PySem PySem.Spec PyProof.Rows
section
variable {X : Cx} {pins : List (Addr × Obj)} {σ : St} {H : Hp} {s : Shared}
theorem Inv.freeze {d : Addr} {o : Obj} {kvs : List (Key × V)} (I : Inv X pins σ H s) (e : H d = some (.dK kvs)) (ho : s.heap.get? d = some o) : Inv X pins σ (upd H d (.frz o (.dK kvs))) s := by
  have h := I.write (h' := s.heap) (t' := s.toks) (x := d) (e := d) (o := .frz o (.dK kvs)) (by rw [e]; exact True.intro) (.inl rfl) (fun _ _ _ q => q) ⟨o, ho⟩ ⟨ho, ?_⟩
  · exact h
  · obtain ⟨z, y, vs, r, q⟩ := (show ObjOk X.prog X.w H s.heap d (.dK kvs) from I.hok d _ e)
    exact ⟨z, y, vs, r, q⟩
theorem Inv.nofrz {d : Addr} {kvs : List (Key × V)} (I : Inv X pins σ H s) (e : H d = some (.dK kvs)) : ∀ o u, X.H₀ d ≠ some (.frz o u) := fun o u z => by
  have := I.base.frzs d o u z
  rw [e] at this; cases this
theorem Inv.thaw {d : Addr} {o : Obj} {kvs : List (Key × V)} (I : Inv X pins σ H s) (e : H d = some (.frz o (.dK kvs))) (nf : ∀ o u, X.H₀ d ≠ some (.frz o u)) : Inv X pins σ (upd H d (.dK kvs)) s := by
  have hne : ∀ b u, H b = some u -> (∀ x, u ≠ .frz o x) -> b ≠ d := fun b u q n z => by rw [z, e] at q; exact n _ (Option.some.inj q).symm
  have hnn : ∀ b, H b = none -> b ≠ d := fun b q z => by rw [z, e] at q; cases q
  refine ⟨I.ok, I.os, I.bare, ⟨I.base.keep, I.base.slot, fun b ob q n hx => ?_, I.base.there, fun b xs q => ?_, fun b ob u q => ?_, fun b ps q => ?_⟩, I.loc, I.cell, ?_, fun x c q => ?_, fun p hp => ?_, fun b u q => ?_, I.len⟩
  · have := I.base.free b ob q n hx
    rw [Zq6 (hnn b this)]; exact this
  · have := I.base.tups b xs q
    rw [Zq6 (hne b _ this fun _ z => nomatch z)]; exact this
  · have := I.base.frzs b ob u q
    rw [Zq6 (fun z => nf ob u (by rw [← z]; exact q))]; exact this
  · obtain ⟨m, hm⟩ := I.base.tbls b ps q
    exact ⟨m, by rw [Zq6 (hne b _ hm fun _ z => nomatch z)]; exact hm⟩
  · rw [Zq6 (hnn _ I.free)]; exact I.free
  · rw [Zq6 (hnn _ (I.freeC x c q))]; exact I.freeC x c q
  · obtain ⟨p1, p2, p3, p4, p5⟩ := I.pin p hp
    exact ⟨p1, by rw [Zq6 (hnn _ p2)]; exact p2, p3, p4, p5⟩
  · by_cases hb : b = d
    · subst hb
      rw [Zq7] at q
      cases q
      obtain ⟨_, z, y, vs, r, c⟩ := (show ObjOk X.prog X.w H s.heap b (.frz o (.dK kvs)) from I.hok b _ e)
      exact ⟨z, y, vs, r, c⟩
    · rw [Zq6 hb] at q
      refine (I.hok b u q).stay (fun _ _ _ z => z) (fun c z => ?_) fun c xs z => ?_
      · rw [Zq6 (hne c _ z fun _ y => nomatch y)]; exact z
      · rw [Zq6 (hne c _ z fun _ y => nomatch y)]; exact z
end
section
variable {X : Cx} {e : Expr} {te : TE}
def tIced (te : TE) : TE := fun σ H Q => ∃ d kvs, H d = some (.dK kvs) /\ ∀ o, te σ (upd H d (.frz o (.dK kvs))) fun v H' => H' d = some (.frz o (.dK kvs)) /\ Q v (upd H' d (.dK kvs))
theorem qe_iced (h : QE X e te) : QE X e (tIced te) := ⟨by
  intro pins s σ H Q I q
  obtain ⟨d, kvs, ed, q⟩ := q
  obtain ⟨z, y, vs, r, o, es, ep, ho, c⟩ := (show ObjOk X.prog X.w H s.heap d (.dK kvs) from I.hok d _ ed)
  have nf := I.nofrz ed
  exact thn (h.h pins s σ _ _ (I.freeze ed ho) (q o)) fun u s1 ⟨x, H1, I1, r1, e1, q1⟩ => ⟨x, _, I1.thaw e1 nf, r1, q1⟩⟩
end
def Itk (d : Addr) (o : Obj) (kvs : List (Key × V)) : It :=
  ⟨fun i H => H d = some (.frz o (.dK kvs)) /\ i < kvs.length, fun i H v H' => H' = H /\ ∃ p, kvs[i]? = some p /\ v = kV p.1, fun i H => H d = some (.frz o (.dK kvs)) /\ kvs.length <= i⟩
theorem rel_is {P : Program} {w : World} {k : Key} {v : Value} (h : (Zq51 P w).is k v = true) : RelV (kV k) v := by
  cases k with
  | inl i =>
    cases v <;> first
      | exact absurd (show false = true from h) Bool.false_ne_true
      | skip
    rename_i j t
    have e : j = i := by
      have h : (j == i) = true := h
      exact eq_of_beq h
    exact ⟨t, by rw [e]⟩
  | inr x =>
    cases v <;> first
      | exact absurd (show false = true from h) Bool.false_ne_true
      | skip
    rename_i j t
    have e : j = x := by
      have h : (j == x) = true := h
      exact eq_of_beq h
    exact ⟨t, by rw [e]⟩
theorem KV.get {κ : Type} : ∀ {kvs : List (κ × V)} {vs : List (κ × Value)} {i : Nat} {p : κ × V} {q : κ × Value}, KV kvs vs -> kvs[i]? = some p -> vs[i]? = some q -> p.1 = q.1 /\ RelV p.2 q.2 := by
  intro kvs vs i p q r
  unfold KV at r
  induction r generalizing i with
  | nil => intro h; simp at h
  | cons h t ih =>
    intro e1 e2
    cases i with
    | zero =>
      have e1 : some _ = some p := e1
      have e2 : some _ = some q := e2
      cases e1
      cases e2
      exact h
    | succ i => exact ih (i := i) e1 e2
theorem turn_keys {P : Program} {w : World} {K : PySem.W.Frag} {tg : Expr} (it d : Addr) (o : Obj) (kvs : List (Key × V)) (vs : List (Key × Value)) (ep : Nat) (hne : d ≠ it) (rel : KV kvs vs) (hD : ∀ h : Heap, h.get? d = some o -> h.DictAt (Zq51 P w) d vs ep) :
    Turn P w K tg (Itk d o kvs) [it] it (fun i h => h.IsKeyIter it d i vs.length ep) where
  mem := by simp
  obj := fun i h st b hb => by
    have e : b = it := by simpa using hb
    subst e
    obtain ⟨ob, ho, hc, hd⟩ := st
    exact ⟨ob, ho, fun v q => by rw [hd] at q; cases q⟩
  keep := fun i h h' st k => st.at fun ob q => k it (by simp) ob q
  item := by
    intro X hP hw hK hc i pins s σ H E I hf st hg
    subst hP hw hK
    obtain ⟨f0, f1, f2, f3, f4, f5⟩ := hf it (by simp)
    obtain ⟨ed, hi⟩ := hg
    obtain ⟨hod, _⟩ := (show ObjOk X.prog X.w H s.heap d (.frz o (.dK kvs)) from I.hok d _ ed)
    have W := Walks.dictKeys (prog := X.prog) (w := X.w) (A := X.A) (knd := Zq51 X.prog X.w) (I.ok.hd hc) it d hne vs ep
    refine W.item i s _ _ (by rw [← rel.length]; exact hi) ⟨st, hD _ hod⟩ fun v h' tk hv st' kk => ?_
    obtain ⟨k, x, hx, hk⟩ := hv
    have I1 : Inv X pins σ H { s with heap := h', toks := tk } := I.turned (fun b ob hb e => kk b ob (by simpa using hb) e) f0 f1 f3 f4 f5
    obtain ⟨ob, ho, hcl, hdt⟩ := id st'.1
    obtain ⟨p, hp⟩ : ∃ p, kvs[i]? = some p := ⟨_, List.getElem?_eq_getElem hi⟩
    have hpk : p.1 = k := (KV.get rel hp hx).1
    refine ⟨_, rfl, go_of (s := { s with heap := h', toks := tk }) (n := "dict_keyiterator") ho hcl hdt (by decide) ⟨kV p.1, H, I1, by rw [hpk]; exact rel_is hk, ⟨rfl, p, hp, rfl⟩, st'.1, fun b hb => (hf b hb).1⟩⟩
  done := by
    intro X hP hw hK hc i pins s σ H E I hf st hg
    subst hP hw hK
    obtain ⟨f0, f1, f2, f3, f4, f5⟩ := hf it (by simp)
    obtain ⟨ed, hi⟩ := hg
    obtain ⟨hod, _⟩ := (show ObjOk X.prog X.w H s.heap d (.frz o (.dK kvs)) from I.hok d _ ed)
    exact wpAny_pyNext_dict_end (I.ok.hd hc) st (hD _ hod) (List.getElem?_eq_none (by rw [← rel.length]; exact hi)) fun h' eb => ⟨rfl, I.turned (t' := s.toks) (fun b ob hb e => eb b ob hb e) f0 f1 f3 f4 f5⟩
  self := fun _ _ _ _ _ st h => wpAny_pyIter_keyiter st h
section
variable {X : Cx} {tg l : Expr} {te : TE}
def iKeys (te : TE) : TI := fun σ H R => te σ H fun x H1 => ∃ d o kvs, x = .ref d /\ H1 d = some (.frz o (.dK kvs)) /\ R (Itk d o kvs) H1
theorem qi_keys (hl : QE X l te) : QI X tg l (iKeys te) := ⟨by
  intro pins s σ H R I h
  refine thn (hl.h pins s σ H _ I h) fun u s1 ⟨x, H1, I1, r1, d, o, kvs, ex, ed, q⟩ => ?_
  subst ex
  obtain rfl : u = Value.ref d := r1
  obtain ⟨hod, z, hsys, vs, rel, o', es, ep, ho', c⟩ := (show ObjOk X.prog X.w H1 s1.heap d (.frz o (.dK kvs)) from I1.hok d _ ed)
  rw [hod] at ho'
  cases ho'
  have hD : ∀ h : Heap, h.get? d = some o -> h.DictAt (Zq51 X.prog X.w) d vs ep := fun h e => ⟨o, es, e, c⟩
  refine wpAny_pyIter_dict hsys (hD _ hod) ?_
  have lt : d < s1.heap.objs.size := Heap.lt_size hod
  refine ⟨s1.heap.objs.size, [s1.heap.objs.size], _, _, H1, rfl, I1.kept (t' := s1.toks) fun b ob e => Heap.get?_push_of_some _ e, turn_keys s1.heap.objs.size d o kvs vs ep (Nat.ne_of_lt lt) rel hD, ⟨_, Heap.get?_push_size _ rfl, rfl, rfl⟩, fun b hb => ?_, q⟩
  have e : b = s1.heap.objs.size := by simpa using hb
  subst e
  exact I1.fpOk (Nat.le_refl _) (I1.hok.fresh (Nat.le_refl _))⟩
end
theorem comp_keys {d : Addr} {o : Obj} {kvs : List (Key × V)} {nl : Nat} {fv : St} {g : TG} {tt : TTs} {te : TE} {Q : VK} {H : Hp} (Pv : Nat -> List V -> Hp -> Prop) (h0 : Pv 0 [] H) (hn : kvs.length <= 1000000)
    (hl : ∀ i ys H, i <= kvs.length -> Pv i ys H -> H d = some (.frz o (.dK kvs)))
    (hlen : ∀ i ys H, Pv i ys H -> ys.length <= i)
    (step : ∀ i p ys H, kvs[i]? = some p -> Pv i ys H -> Zq225 nl fv g tt te (kV p.1) H (fun y H' => Pv (i + 1) (ys ++ [y]) H') fun H' => Pv (i + 1) ys H')
    (hd : ∀ ys H, Pv kvs.length ys H -> ∀ l, H l = none -> Q (.ref l) (upd H l (.lst ys))) :
    tCompW (Itk d o kvs) nl fv g tt te Q H := by
  have hml : (kvs.map fun p => kV p.1).length = kvs.length := List.length_map ..
  refine comp_by (xs := kvs.map fun p => kV p.1) Pv h0 (by rw [hml]; exact hn) ?_ ?_ ?_ hlen ?_ ?_
  · intro i H ys hi p
    rw [hml] at hi
    exact ⟨hl i ys H (Nat.le_of_lt hi) p, hi⟩
  · rintro i H x H' ys hi p ⟨rfl, q, hq, rfl⟩
    exact ⟨rfl, by rw [List.getElem?_map, hq]; rfl⟩
  · intro H ys p
    rw [hml] at p ⊢
    exact ⟨hl _ ys H (Nat.le_refl _) p, Nat.le_refl _⟩
  · intro i x ys H hx p
    rw [List.getElem?_map] at hx
    cases e : kvs[i]? with
    | none => rw [e] at hx; cases hx
    | some q => rw [e] at hx; cases hx; exact step i q ys H e p
  · intro ys H p
    rw [hml] at p
    exact hd ys H p
section
variable {X : Cx}
def rMaxL (K : PySem.W.Frag) : List V -> Hp -> VK -> Prop := fun xs H Q => ∃ (a : Addr) (ns : List Int), xs = [.ref a] /\ SqL K H a (ns.map V.int) /\ ns ≠ [] /\ ∀ m, m ∈ ns -> (∀ x ∈ ns, x <= m) -> Q (.int m) H
theorem ints_items {ns : List Int} : ∀ {us : List Value}, Vals (ns.map V.int) us -> ∃ xs : List (Int × Tok), xs.map (·.1) = ns /\ us = xs.map fun p => Value.int p.1 p.2 := by
  induction ns with
  | nil => intro us r; cases r; exact ⟨[], rfl, rfl⟩
  | cons n ns ih =>
    intro us r
    cases r with
    | cons r1 r2 =>
      obtain ⟨t, rfl⟩ := r1
      obtain ⟨xs, e1, e2⟩ := ih r2
      exact ⟨(n, t) :: xs, by rw [List.map_cons, e1], by rw [List.map_cons, e2]⟩
theorem call_maxL (hc : X.calm = true) : Zq167 X (.builtin "max") (rMaxL X.K) := by
  intro pins s σ H xs us Q I r h
  obtain ⟨a, ns, rfl, ha, hne, q⟩ := h
  obtain ⟨u, rfl, ru⟩ := Zq236 r
  cases ru
  obtain ⟨its, rv, p, _⟩ := I.list ha
  obtain ⟨ps, e1, e2⟩ := ints_items rv
  subst e2
  have hl : s.heap.IsList a (intItems ps.toArray) := by
    have := p.isList
    have e : intItems ps.toArray = (ps.map fun p => Value.int p.1 p.2).toArray := by unfold intItems; simp
    rw [e]; exact this
  have hps : 0 < ps.toArray.size := by
    rw [List.size_toArray]
    cases ps with
    | nil => exact absurd e1.symm hne
    | cons x r => simp
  refine max_intList (I.ok.hd hc) hl hps fun v h' tk hv k => ?_
  obtain ⟨b1, b2⟩ := argBest_gt (numAt ps.toArray) (ps.toArray.size - 1)
  generalize argBest (fun i j => decide (numAt ps.toArray i > numAt ps.toArray j)) (ps.toArray.size - 1) = j at hv b1 b2
  obtain ⟨t, rfl⟩ := intItems_at hv
  have num : ∀ i : Nat, i < ps.length -> ns[i]? = some (numAt ps.toArray i) := fun i hi => by
    rw [← e1, List.getElem?_map]
    unfold numAt
    rw [List.getElem?_toArray, List.getElem?_eq_getElem hi]
    rfl
  have hsz : ps.toArray.size = ps.length := List.size_toArray ..
  have hnl : ns.length = ps.length := by rw [← e1, List.length_map]
  refine ⟨.int (numAt ps.toArray j), H, I.kept k, ⟨t, rfl⟩, q _ (List.mem_of_getElem? (num j (by lia))) fun x hx => ?_⟩
  obtain ⟨i, hi⟩ := List.getElem?_of_mem hx
  have hil : i < ps.length := by have := (List.getElem?_eq_some_iff.mp hi).1; lia
  rw [num i hil] at hi
  cases hi
  exact b2 i (by lia)
theorem qcall_maxL (hc : X.calm = true) : QC X (.builtin "max") (rMaxL X.K) := ⟨call_maxL hc⟩
def rListD : List V -> Hp -> VK -> Prop := fun xs H Q => ∃ (d : Addr) (kvs : List (Key × V)), xs = [.ref d] /\ H d = some (.dK kvs) /\ ∀ l, H l = none -> Q (.ref l) (upd H l (.lst (kvs.map fun p => kV p.1)))
theorem vals_keys {P : Program} {w : World} {kvs : List (Key × V)} {vs : List (Key × Value)} (rel : KV kvs vs) {us : List Value} (hl : us.length = vs.length) (h : ∀ (j : Nat) (v : Value), us[j]? = some v -> ∃ k x, vs[j]? = some (k, x) /\ (Zq51 P w).is k v = true) : Vals (kvs.map fun p => kV p.1) us := by
  unfold KV at rel
  induction rel generalizing us with
  | nil => cases us with
    | nil => exact .nil
    | cons u us => simp at hl
  | @cons a b as bs r t ih =>
    cases us with
    | nil => simp at hl
    | cons u us =>
      obtain ⟨k, x, e, hk⟩ := h 0 u rfl
      have e : some b = some (k, x) := e
      cases e
      rw [List.map_cons]
      refine .cons ?_ (ih (by simpa using hl) fun j v hj => h (j + 1) v hj)
      rw [show a.1 = k from r.1]
      exact rel_is hk
theorem call_listD (hc : X.calm = true) : Zq167 X (.type "list") rListD := by
  intro pins s σ H xs us Q I r h
  obtain ⟨d, kvs, rfl, ed, q⟩ := h
  obtain ⟨u, rfl, ru⟩ := Zq236 r
  cases ru
  obtain ⟨z, hsys, vs, rel, o, es, ep, ho, c⟩ := (show ObjOk X.prog X.w H s.heap d (.dK kvs) from I.hok d _ ed)
  have hD : s.heap.DictAt (Zq51 X.prog X.w) d vs ep := ⟨o, es, ho, c⟩
  have hlen : kvs.length = vs.length := rel.length
  refine PySem.W.kdl_call (PySem.W.kdl_dict (knd := Zq51 X.prog X.w) (kvs := vs) (ep := ep) hsys) (I.ok.hd hc) hD (by rw [← hlen]; exact z) fun h' tk acc c' hk hS hacc => ?_
  have hv : Vals (kvs.map fun p => kV p.1) acc.toList := vals_keys (P := X.prog) (w := X.w) rel (by rw [Array.length_toList]; exact hacc.1) fun j v e => hacc.2 j v (by rw [← Array.getElem?_toList]; exact e)
  refine ⟨.ref s.heap.objs.size, _, I.laid (t' := tk) (o := .lst (kvs.map fun p => kV p.1)) hk (Nat.le_refl _) ⟨by rw [List.length_map]; exact z, acc.toList, c', hv, by rw [Array.toArray_toList]; exact hS⟩, rfl, q _ (I.hok.fresh (Nat.le_refl _))⟩
theorem qcall_listD (hc : X.calm = true) : QC X (.type "list") rListD := ⟨call_listD hc⟩
end
end L2
end
section
set_option Elab.async false
set_option linter.all false
set_option maxRecDepth 100000
set_option maxHeartbeats 4000000
namespace L2
open PySem PySem.Spec PyProof.Rows
section
variable {X : Cx} {o : Expr} {te : TE}
end
end L2
end
section
set_option Elab.async false
set_option linter.all false
set_option maxRecDepth 100000
set_option maxHeartbeats 4000000
namespace L2
open PySem PySem.Spec PyProof.Rows
def XAt (h0 : Heap) (H : Hp) (h : Heap) (a C : Addr) : Prop := H a = none /\ h0.get? a = none /\ ∃ oe vs a0, h.get? a = some oe /\ oe.cls = .ref C /\ oe.data = .fields vs /\ vs[0]? = some a0 /\
  (vs[1]? = some .none \/ ∃ T oT ts, vs[1]? = some (.ref T) /\ T ≠ a /\ h.get? T = some oT /\ oT.data = .fields ts /\ ts[3]? = some .none /\ H T = none /\ h0.get? T = none)
def CXE (P : Program) (w : World) : CXT := fun outer H s E e s' => ∃ a C H', e = .ref a /\ s'.os = s.os /\ AllBare s'.gens /\ Un (frs outer) [] H H' s.heap s'.heap /\ HOk P w H' s'.heap /\ XAt s.heap H' s'.heap a C /\ E (.ref C) none H'
structure Xp (X : Cx) (E : St -> XK) : Prop where
  h : ∀ pins σ H s a C, Inv X pins σ H s -> XAt X.s₀.heap H s.heap a C -> E σ (.ref C) none H -> X.xe (.ref a) s
theorem ObjOk.ex {P : Program} {w : World} {H : Hp} {h : Heap} {a : Addr} {o : HO} (x : ObjOk P w H h a o) : ∃ u, h.get? a = some u := by
  cases o with
  | lst xs => obtain ⟨_, _, _, _, e⟩ := x; exact ⟨_, e⟩
  | tup xs => obtain ⟨_, _, _, _, e, _⟩ := x; exact ⟨_, e⟩
  | dK kvs => obtain ⟨_, _, _, _, o, _, _, e, _⟩ := x; exact ⟨_, e⟩
  | dT kvs => obtain ⟨_, _, _, _, o, _, _, e, _⟩ := x; exact ⟨_, e⟩
  | set S n => obtain ⟨o, _, _, _, e, _⟩ := x; exact ⟨_, e⟩
  | ins C dx fs => obtain ⟨_, _, _, e, _⟩ := x; exact ⟨_, e⟩
  | own y => exact x
  | xd fs => obtain ⟨_, ⟨_, _, _, e, _⟩, _⟩ := x; exact ⟨_, e⟩
  | rng lo hi => obtain ⟨_, _, _, e⟩ := x; exact ⟨_, e⟩
  | frz ob u => obtain ⟨e, _⟩ := x; exact ⟨_, e⟩
  | tbl ps => obtain ⟨_, _, _, e, _⟩ := x; exact ⟨_, e⟩
  | met f y => exact ⟨_, x⟩
  | ext φ => obtain ⟨_, e, _⟩ := x; exact e
section
variable {X : Cx} {σ : List (Option V)} {H H' : Hp} {s : Shared} {h' : Heap}
theorem Inv.stepN {g' : Array GenState} {t' : Nat} {d' : Drawn} {ch : List Addr} (I : Inv X [] σ H s) (hpn : X.pn = [])
    (hch : ∀ b ∈ ch, X.s₀.heap.get? b = none /\ b ≠ X.env.locals /\ ∀ x c, X.env.cells.lookup x = some c -> c ≠ b)
    (keep : ∀ b o, b ≠ X.env.locals -> b ∉ X.fs -> b ∉ ch -> s.heap.get? b = some o -> H b = none -> h'.get? b = some o)
    (slot : ∀ b o, b ≠ X.env.locals -> b ∈ X.fs -> b ∉ ch -> s.heap.get? b = some o -> H b = none -> ∃ sl, h'.get? b = some { o with slots := sl })
    (there : ∀ b o, b ∉ ch -> s.heap.get? b = some o -> ∃ o', h'.get? b = some o')
    (ns : ∀ m, s.heap.Ns X.env.locals m -> h'.Ns X.env.locals m) (hok : HOk X.prog X.w H h') (hg : AllBare g') :
    Inv X [] σ H { s with heap := h', gens := g', drawn := d', toks := t' } := by
  have neL : ∀ b o, X.s₀.heap.get? b = some o -> b ≠ X.env.locals := fun b o e => Nat.ne_of_lt (Nat.lt_of_lt_of_le (Heap.lt_size e) I.ok.above)
  have neC : ∀ b o, X.s₀.heap.get? b = some o -> b ∉ ch := fun b o e hb => by
    have := (hch b hb).1
    rw [e] at this; cases this
  have cellK : ∀ x c, X.env.cells.lookup x = some c -> ∀ v, s.heap.IsCell c v -> h'.IsCell c v := fun x c e v ⟨o, ho, hd⟩ => by
    have nch : c ∉ ch := fun z => (hch c z).2.2 x c e rfl
    by_cases hc : c ∈ X.fs
    · obtain ⟨sl, q⟩ := slot c o (I.cne x c e) hc nch ho (I.freeC x c e)
      exact ⟨_, q, hd⟩
    · exact ⟨o, keep c o (I.cne x c e) hc nch ho (I.freeC x c e), hd⟩
  refine ⟨I.ok, I.os, hg, ⟨fun b o e n hb hx => ?_, fun b o e n hb hx => ?_, fun b o e n hx => I.base.free b o e n hx, fun b o e hx => ?_, I.base.tups, I.base.frzs, I.base.tbls⟩, ?_, fun x c e => ?_, I.free, I.freeC, fun p hp => ?_, hok, I.len⟩
  · exact keep b o (neL b o e) hb (neC b o e) (I.base.keep b o e n hb hx) (I.base.free b o e n hx)
  · obtain ⟨sl, e1⟩ := I.base.slot b o e n hb hx
    obtain ⟨sl', e2⟩ := slot b _ (neL b o e) hb (neC b o e) e1 (I.base.free b o e n hx)
    exact ⟨sl', e2⟩
  · obtain ⟨o', e1⟩ := I.base.there b o e hx
    exact there b o' (neC b o e) e1
  · obtain ⟨m, hn, hl⟩ := I.loc
    refine ⟨m, ns m hn, fun i x v e1 e2 e3 => ?_⟩
    obtain ⟨u, r, l⟩ := hl i x v e1 e2 e3
    refine ⟨u, r, ?_⟩
    rcases l with l | ⟨k, c, e, z⟩
    · exact .inl l
    · exact .inr ⟨k, c, e, cellK x c e _ z⟩
  · obtain ⟨v, z⟩ := I.cell x c e
    exact ⟨v, cellK x c e v z⟩
  · rw [hpn] at hp; cases hp
theorem Inv.noted {hs : List Addr} (I : Inv X [] σ H s) (hpn : X.pn = []) (hh : ∀ b ∈ hs, X.s₀.heap.get? b = none /\ H b = none /\ ∃ o vs, s.heap.get? b = some o /\ o.data = .fields vs)
    (st : (PySem.W.hideAll s.heap (hs ++ frs X.stack)).StaysIn h') (up : ∀ b o, s.heap.get? b = some o -> (∀ vs, o.data ≠ .fields vs) -> ∃ sl, h'.get? b = some { o with slots := sl }) : Inv X [] σ H { s with heap := h' } := by
  obtain ⟨m, ⟨oL, esL, epL, hoL, hdL, rL⟩, _⟩ := id I.loc
  have kp : ∀ b o, b ∉ hs -> b ∉ frs X.stack -> s.heap.get? b = some o -> h'.get? b = some o := fun b o n1 n2 e => st b o (PySem.W.hideAll_get _ e fun hm => (List.mem_append.mp hm).elim n1 n2)
  have fr : ∀ b, b ∈ frs X.stack -> ∃ o, s.heap.get? b = some o /\ ∀ vs, o.data ≠ .fields vs := fun b hb => (I.stack.mem hb).2
  refine I.stepN (g' := s.gens) (d' := s.drawn) (t' := s.toks) (ch := hs) hpn (fun b hb => ?_) (fun b o hL hf hc e _ => kp b o hc (fun z => (List.mem_cons.mp (I.stkSub b z)).elim hL hf) e) (fun b o hL hf _ e _ => ?_) (fun b o hc e => ?_) (fun m' hm => ?_) (fun b u e => ?_) I.bare
  · obtain ⟨h1, h2, o, vs, e, d⟩ := hh b hb
    refine ⟨h1, fun z => ?_, fun x c ec z => ?_⟩
    · rw [z, hoL] at e; cases e; rw [hdL] at d; cases d
    · obtain ⟨v, oc, ho, hd⟩ := I.cell x c ec
      rw [z, e] at ho; cases ho; rw [d] at hd; cases hd
  · obtain ⟨o', e', d⟩ := (I.funs.mem (show b ∈ X.outer.filterMap (·.frame) from hf)).2
    rw [e] at e'; cases e'
    exact up b o e d
  · by_cases hb : b ∈ frs X.stack
    · obtain ⟨o', e', d⟩ := fr b hb
      rw [e] at e'; cases e'
      obtain ⟨sl, q⟩ := up b o e d
      exact ⟨_, q⟩
    · exact ⟨o, kp b o hc hb e⟩
  · obtain ⟨o, es, ep, ho, d, r⟩ := hm
    obtain ⟨sl, q⟩ := up _ o ho fun vs z => by rw [d] at z; cases z
    exact ⟨_, es, ep, q, d, r⟩
  · have nh : ∀ c v, H c = some v -> c ∉ hs /\ c ∉ frs X.stack := fun c v ec => ⟨(fun z => by rw [(hh c z).2.1] at ec; cases ec), (fun z => by rw [I.stkFree c z] at ec; cases ec)⟩
    refine (I.hok b u e).stay (fun c v hc q => ?_) (fun _ q => q) fun _ _ q => q
    rcases hc with rfl | hc
    · exact kp c v (nh c _ e).1 (nh c _ e).2 q
    · exact kp c v (nh c _ hc).1 (nh c _ hc).2 q
end
section
variable {X : Cx} {σ : List (Option V)} {H : Hp} {s : Shared} {a C : Addr} {M : Model} {E : Value -> Shared -> Prop} {Q : Unit -> Shared -> Prop}
theorem note_land (I : Inv X [] σ H s) (hpn : X.pn = []) (hex : X.ex = []) (stk : X.stack = X.env :: X.outer) (hf : X.env.frame = some X.env.locals) (x : XAt X.s₀.heap H s.heap a C)
    (k : ∀ h', Inv X [] σ H { s with heap := h' } -> XAt X.s₀.heap H h' a C -> Q () { s with heap := h' }) :
    wpAny M X.A (noteFrame (.ref a) X.env) (fun _ s₂ => wpAny M X.A (setFlight (.ref a) none) Q E s₂) E s := by
  obtain ⟨ha, h0a, oe, vs, a0, he, hc, hd, v0, tr⟩ := x
  have fin : ∀ (hs : List Addr), a ∈ hs -> (∀ b ∈ hs, X.s₀.heap.get? b = none /\ H b = none /\ ∃ o vs, s.heap.get? b = some o /\ o.data = .fields vs) ->
      ∀ h1, Heap.NotedW (PySem.W.hideAll s.heap (hs ++ frs X.stack)) (X.env :: X.outer) a (.ref C) a0 (rawInt X.env.locals) s.heap h1 -> wpAny M X.A (setFlight (.ref a) none) Q E { s with heap := h1 } := by
    intro hs has hh h1 N
    refine wpAny_setFlight_noneW (s := { s with heap := h1 }) N.1 N.2.1 N.2.2.1 fun h2 k1 k2 k3 k4 => ?_
    refine k h2 (I.noted hpn hh k1 fun b o e hn => ?_) ?_
    · obtain ⟨sl, e1⟩ := N.2.2.2 b o e hn
      exact ⟨sl, k4 b _ e1 hn⟩
    · obtain ⟨oe', vs', T, oT, ts, he', ⟨hc', v0'⟩, hd', h1', hnT, hTe, hT, hdT, h3⟩ := k3
      have no : ∀ o, s.heap.get? T = some o -> T ∉ hs -> T ∉ frs X.stack -> False := fun o e n1 n2 => by
        have := PySem.W.hideAll_get (hs ++ frs X.stack) e fun hm => (List.mem_append.mp hm).elim n1 n2
        rw [this] at hnT; cases hnT
      have nfr : T ∉ frs X.stack := fun z => by
        rw [stk] at z
        obtain ⟨_, o, e, d⟩ := k2.mem (show T ∈ (X.env :: X.outer).filterMap (·.frame) from z)
        rw [hT] at e; cases e; exact d ts hdT
      refine ⟨ha, h0a, oe', vs', a0, he', hc', hd', v0', .inr ⟨T, oT, ts, h1', hTe, hT, hdT, h3, ?_, ?_⟩⟩
      · cases q : H T with
        | none => rfl
        | some u =>
          obtain ⟨o, e⟩ := (I.hok T u q).ex
          exact (no o e (fun z => by rw [(hh T z).2.1] at q; cases q) nfr).elim
      · cases q : X.s₀.heap.get? T with
        | none => rfl
        | some o =>
          obtain ⟨o', e⟩ := I.base.there T o q (by rw [hex]; simp)
          exact (no o' e (fun z => by rw [(hh T z).1] at q; cases q) nfr).elim
  have hfr : X.A.frames = some (X.env :: X.outer) := by rw [← stk]; exact I.ok.frames
  have hl : ∀ hs : List Addr, s.heap.FunFrames (PySem.W.hideAll s.heap (hs ++ frs X.stack)) (X.env :: X.outer) := fun hs => by
    rw [← stk]
    exact PySem.W.funFrames_hide I.stack fun env he b hb => List.mem_append_right _ (List.mem_filterMap.mpr ⟨env, he, hb⟩)
  have hkb : ∀ hs : List Addr, (PySem.W.hideAll s.heap (hs ++ frs X.stack)).StaysIn s.heap := fun hs b o q => PySem.W.of_hideAll _ q
  rcases tr with v1 | ⟨T, oT, ts, v1, hTe, hT, hdT, h3, hHT, h0T⟩
  · have hh : ∀ b ∈ [a], X.s₀.heap.get? b = none /\ H b = none /\ ∃ o vs, s.heap.get? b = some o /\ o.data = .fields vs := fun b hb => by
      rw [List.mem_singleton] at hb; subst hb; exact ⟨h0a, ha, oe, vs, he, hd⟩
    unfold noteFrame
    simp only [hf]
    refine wpAny_bind (wpAny_field he hd v1 ?_)
    rw [if_neg (by decide)]
    refine wpAny_entryW (base := PySem.W.hideAll s.heap ([a] ++ frs X.stack)) hfr (hl _) hf he (hkb _) (PySem.W.hideAll_none _ (by simp)) hd (Array.getElem?_eq_some_iff.mp v1).1 v0 fun h1 N => ?_
    rw [hc] at N
    exact fin [a] (by simp) hh h1 N
  · have hh : ∀ b ∈ [a, T], X.s₀.heap.get? b = none /\ H b = none /\ ∃ o vs, s.heap.get? b = some o /\ o.data = .fields vs := fun b hb => by
      rcases List.mem_cons.mp hb with rfl | hb
      · exact ⟨h0a, ha, oe, vs, he, hd⟩
      · rw [List.mem_singleton] at hb; subst hb; exact ⟨h0T, hHT, oT, ts, hT, hdT⟩
    refine wpAny_noteFrame_onW (base := PySem.W.hideAll s.heap ([a, T] ++ frs X.stack)) (cls := .ref C) (a0 := a0) hfr (hl _) hf ⟨oe, vs, T, oT, ts, he, ⟨hc, v0⟩, hd, v1, PySem.W.hideAll_none _ (by simp), hTe, hT, hdT, h3⟩ (hkb _) (PySem.W.hideAll_none _ (by simp)) fun h1 N => ?_
    exact fin [a, T] (by simp) hh h1 N
end
end L2
namespace L2
open PySem PySem.Spec PyProof.Rows
theorem XAt.mono {h0 h1 h : Heap} {H : Hp} {a C : Addr} (x : XAt h0 H h a C) (k : ∀ b, h0.get? b = none -> h1.get? b = none) : XAt h1 H h a C := by
  obtain ⟨ha, h0a, oe, vs, a0, he, hc, hd, v0, tr⟩ := x
  refine ⟨ha, k a h0a, oe, vs, a0, he, hc, hd, v0, ?_⟩
  rcases tr with v1 | ⟨T, oT, ts, v1, hTe, hT, hdT, h3, hHT, h0T⟩
  · exact .inl v1
  · exact .inr ⟨T, oT, ts, v1, hTe, hT, hdT, h3, hHT, k T h0T⟩
theorem Zq159 {P : Program} {w : World} {K : PySem.W.Frag} {mg : Str -> Option Value} {base : Heap} {N : List Str} {qual : Str} {scope : Scope} {f : Addr} {cd : Value} {A : Around} {outer : List Env} {s : Shared} {H : Hp} {E : XK} :
    Xp (cxOf (CXE P w) P w K mg base N qual scope f cd A outer s H E) fun _ => E := ⟨fun pins σ H1 s1 a C I x hE => by
  have I' := I.pins_of (pins' := []) (fun p hp => nomatch hp)
  show wpAny _ _ (noteFrame _ _ >>= fun _ => setFlight _ none) _ _ _
  refine wpAny_bind (note_land (X := cxOf (CXE P w) P w K mg base N qual scope f cd A outer s H E) I' rfl rfl rfl rfl x fun h' J y => ?_)
  exact ⟨a, C, H1, rfl, J.os, J.bare, J.base, J.hok, y, hE⟩⟩
section
variable {X : Cx} {E : St -> XK}
theorem Inv.newer {pins : List (Addr × Obj)} {σ : St} {H : Hp} {s : Shared} (I : Inv X pins σ H s) (hex : X.ex = []) : ∀ b, s.heap.get? b = none -> X.s₀.heap.get? b = none := fun b e => by
  cases q : X.s₀.heap.get? b with
  | none => rfl
  | some o =>
    obtain ⟨o', e'⟩ := I.base.there b o q (by rw [hex]; simp)
    rw [e] at e'; cases e'
structure Xq (X : Cx) (E : St -> XK) : Prop where
  h : (∀ σ c d H, ¬ E σ c d H) \/ (X.ex = [] /\ Xp X E)
theorem Xq.pass {pins : List (Addr × Obj)} {σ : St} {H : Hp} {s s' : Shared} {e : Value} (hx : Xq X E) (I : Inv X pins σ H s) (h : CXE X.prog X.w X.stack H s (E σ) e s') : X.xe e s' := by
  obtain ⟨a, C, H', rfl, os, bare, un, hok, x, hE⟩ := h
  rcases hx.h with z | ⟨hex, hx⟩
  · exact (z _ _ _ _ hE).elim
  obtain ⟨hh, g, d, t, os'⟩ := s'
  obtain rfl : os' = s.os := os
  have J := I.call (h' := hh) (g' := g) (d' := d) (t' := t) (ch := []) un hok bare (fun b z => absurd z (by simp))
  exact hx.h pins σ H' _ a C J (x.mono (I.newer hex)) hE
theorem Zq33 {P : Program} {w : World} {K : PySem.W.Frag} {mg : Str -> Option Value} {base : Heap} {N : List Str} {qual : Str} {scope : Scope} {f : Addr} {cd : Value} {A : Around} {outer : List Env} {s : Shared} {H : Hp} {E : XK} :
    Xq (cxOf (CXE P w) P w K mg base N qual scope f cd A outer s H E) fun _ => E := ⟨.inr ⟨rfl, Zq159⟩⟩
end
structure Run (P : Program) (w : World) (K : PySem.W.Frag) (mg : Str -> Option Value) (base : Heap) (k : Nat) (f : Addr) (sp : Sp) : Prop where
  run : ∀ (A : Around) (outer : List Env) (s : Shared) (H : Hp) (us : List Value) (vs : List V) (Q : VK) (E : XK), Room k A -> Env0 P w K mg base A outer s H -> Vals vs us -> sp vs H Q E -> codeAny (model P w) A (.call (.ref f) ⟨us, []⟩) (CR (CXE P w) outer P w H s Q E) s
theorem FnOk.runX {P : Program} {w : World} {K : PySem.W.Frag} {mg : Str -> Option Value} {base : Heap} {k : Nat} {f : Addr} {fd : FuncData} {ps : List Str} {sp : Sp} (F : FnOk P w K mg base (CXE P w) k f fd ps sp) (hb : Binds K fd ps []) : Run P w K mg base k f sp :=
  ⟨fun A outer s H us vs Q E hr e0 r h => by
    have KX : K.In s.heap := e0.mod.kin.keeps fun b o e => (e0.bs b o e).1
    have hl : us.length = ps.length := by rw [← r.length]; exact F.len _ _ _ _ h
    have hb' : BindsTo s fd ⟨us, []⟩ (ps.zip us) := by
      have := hb s us KX (by rw [List.append_nil]; exact hl)
      rw [List.append_nil] at this
      exact this
    exact F.run A outer s H ⟨us, []⟩ us vs Q E hr e0 hb' r h⟩
def FnX (P : Program) (w : World) (K : PySem.W.Frag) (mg : Str -> Option Value) (base : Heap) (x : Str) (k : Nat) (sp : Sp) : Prop :=
  ∃ f, mg x = some (.ref f) /\ PySem.W.keepIn K (.ref f) = true /\ Run P w K mg base k f sp
structure MtX (P : Program) (w : World) (K : PySem.W.Frag) (mg : Str -> Option Value) (base : Heap) (C : Addr) (m : Str) (k : Nat) (sp : Sp) : Prop where
  ex : ∃ (f : Addr), Meth K C m f /\ Run P w K mg base k f sp
theorem FnOk.cxe {P : Program} {w : World} {K : PySem.W.Frag} {mg : Str -> Option Value} {base : Heap} {k : Nat} {f : Addr} {fd : FuncData} {ps : List Str} {sp : Sp} (F : FnOk P w K mg base CX0 k f fd ps sp) : FnOk P w K mg base (CXE P w) k f fd ps sp :=
  ⟨F.len, fun A outer s H args us vs Q E hr e0 hb r h => codeAny_mono (F.run A outer s H args us vs Q E hr e0 hb r h) fun r s' q => by
    cases r with
    | error e => exact False.elim q
    | ok fl => cases fl <;> exact q⟩
section
variable {P : Program} {w : World} {K : PySem.W.Frag} {mg : Str -> Option Value} {base : Heap} {C : Addr} {x : Str} {ps : List Str} {k k' : Nat} {sp sp' : Sp}
theorem Fn.toX (F : Fn P w K mg base x ps k sp) : FnX P w K mg base x k sp := let ⟨f, fd, a, b, c, d⟩ := F; ⟨f, a, b, d.cxe.runX c⟩
theorem Mt.toX (F : Mt P w K mg base C x ps k sp) : MtX P w K mg base C x k sp := let ⟨f, fd, a, b, c⟩ := F.ex; ⟨f, a, b.cxe.runX c⟩
def Sp.or (a b : Sp) : Sp := fun vs H Q E => a vs H Q E \/ b vs H Q E
theorem Run.or {f : Addr} (F : Run P w K mg base k f sp) (G : Run P w K mg base k' f sp') : Run P w K mg base (max k k') f (sp.or sp') :=
  ⟨fun A outer s H us vs Q E hr e0 r h => h.elim (fun h => F.run A outer s H us vs Q E (hr.mono (Nat.le_max_left _ _)) e0 r h) fun h => G.run A outer s H us vs Q E (hr.mono (Nat.le_max_right _ _)) e0 r h⟩
theorem FnX.or (F : FnX P w K mg base x k sp) (G : FnX P w K mg base x k' sp') : FnX P w K mg base x (max k k') (sp.or sp') := by
  obtain ⟨f, a, b, d⟩ := F
  obtain ⟨f', a', b', d'⟩ := G
  rw [a] at a'; cases a'
  exact ⟨f, a, b, d.or d'⟩
theorem MtX.or (F : MtX P w K mg base C x k sp) (G : MtX P w K mg base C x k' sp') : MtX P w K mg base C x (max k k') (sp.or sp') := by
  obtain ⟨f, a, d⟩ := F.ex
  obtain ⟨f', a', d'⟩ := G.ex
  have e := a.at_.symm.trans a'.at_
  cases e
  exact ⟨f, a, d.or d'⟩
end
def tFnX (sp : Sp) (E : St -> XK) (t : TA) : TE := fun σ H Q => t σ H fun vs H1 => sp vs H1 Q (E σ)
def tMtX (C : Addr) (m : Str) (sp : Sp) (E : St -> XK) (ta : TE) (t : TA) : TE := fun σ H Q => ta σ H fun x H1 => ∃ a dx fs, x = .ref a /\ H1 a = some (.ins C dx fs) /\ fs.lookup m = none /\ t σ H1 fun vs H2 => sp (x :: vs) H2 Q (E σ)
section
variable {X : Cx} {E : St -> XK} {k : Nat} {f C : Addr} {sp : Sp} {x m : Str} {p pos apos : Pos} {e o : Expr} {es : List Expr} {ta : TE} {t : TA}
theorem run_fnX {pins : List (Addr × Obj)} {σ : St} {H : Hp} {s : Shared} {Q : VK} {us : List Value} {vs : List V} (F : Run X.prog X.w X.K X.mg X.base k f sp) (hr : Room k X.A) (hx : Xq X E)
    (I : Inv X pins σ H s) (r : Vals vs us) (h : sp vs H Q (E σ)) : wpAny (model X.prog X.w) X.A (call (.ref f) us) (EP X pins σ Q) X.xe s := by
  refine wpAny_call (codeAny_mono (F.run X.A X.stack s H us vs Q (E σ) hr I.env0 r h) fun r s' hq => ?_)
  cases r with
  | error e => exact hx.pass I hq
  | ok fl =>
    cases fl with
    | ret u => exact I.after hq
    | next => exact False.elim hq
    | brk => exact False.elim hq
    | cont => exact False.elim hq
theorem Zq179 (hx : Xq X E) (F : FnX X.prog X.w X.K X.mg X.base x k sp) (hr : Room k X.A) (n : Nm X.env.scope x .globalImplicit) (ha : QA X (e :: es) t)
    (he : starEach (e :: es) X.env = (false, eval e X.env) :: starEach es X.env := by rfl) (hpl : (backTo pos (starEach es X.env)).any (·.1) = false := by rfl) :
    QE X (.Call (.Name x p) (e :: es) [] pos) (tFnX sp E t) := ⟨by
  obtain ⟨f, hm, hk, G⟩ := F
  intro pins s σ H Q I h
  refine wpAny_Call_Name_kw (ld_glob I n.1 hm ?_ n.2.1)
  refine PySem.W.callWith_K (h₀ := X.base) I.ok.mod.kin hk (thn (ha.h pos pins s σ H _ I h) fun us s1 ⟨vs, H1, I1, r, q⟩ => ⟨I1.kIn, ?_⟩) he hpl
  exact run_fnX G hr hx I1 r q⟩
theorem Zq44 {pl : Sem Bool} (hx : Xq X E) (he : QE X o ta) (c : Cls X.K C) (M : MtX X.prog X.w X.K X.mg X.base C m k sp) (hr : Room k X.A) (ha : QA X (e :: es) t)
    (hst : starEach (e :: es) X.env = (false, eval e X.env) :: starEach es X.env := by rfl) (hpl : (backTo pos (starEach es X.env)).any (·.1) = false := by rfl)
    (ht : eval (.Call (.Attribute o m apos) (e :: es) [] pos) X.env = (do
      let ov ← eval o X.env
      standAt apos.atName
      let (f, first) ← holding [ov] (getMethod ov m pl)
      callWith pos f first (backTo pos (starEach (e :: es) X.env)) (backToKw pos (keywordEach [] X.env))) := by rfl) :
    QE X (.Call (.Attribute o m apos) (e :: es) [] pos) (tMtX C m sp E ta t) := ⟨by
  obtain ⟨f, hm, F⟩ := M.ex
  intro pins s σ H Q I h
  refine PySem.W.methodCall_KW (pl := pl) (thn (he.h pins s σ H _ I h) fun u s1 ⟨x, H1, I1, rx, a, dx, fs, ex, ea, l, q⟩ => ?_) ht
  subst ex
  obtain rfl : u = Value.ref a := rx
  refine getmeth_ok I1 ea c hm l ?_
  refine PySem.W.callWith_K (first := [.ref a]) (h₀ := X.base) I.ok.mod.kin hm.kp (thn (ha.h pos pins s1 σ H1 _ I1 q) fun us s2 ⟨vs, H2, I2, r, q2⟩ => ⟨I2.kIn, ?_⟩) hst hpl
  exact run_fnX (us := .ref a :: us) (vs := .ref a :: vs) F hr hx I2 (.cons rfl r) q2⟩
end
section
variable {P : Program} {w : World} {K : PySem.W.Frag} {mg : Str -> Option Value} {base : Heap}
theorem Fun.okX {x qual : Str} {st : Stmt} {f : Addr} {fd : FuncData} {N ps : List Str} {k : Nat} {sp : Sp} (F : Fun K x qual st f fd) (S : FnScope N ps (Zq1 st)) (len : ∀ vs H Q E, sp vs H Q E -> vs.length = ps.length)
    (hbody : ∀ (cdv : Value) (A : Around) (outer : List Env) (s : Shared) (H : Hp) (vs : List V) (Q : VK) (E : XK), Room k (A.deeper (envOfC qual (Zq1 st) s.heap.objs.size f cdv)) -> sp vs H Q E ->
      ∃ t, QSs (cxOf (CXE P w) P w K mg base N qual (Zq1 st) f cdv A outer s H E) (Zq47 st) t /\ t { nx := fun _ H' => Q .non H', rt := Q } (start N vs) H) : FnOk P w K mg base (CXE P w) (k + 1) f fd ps sp := by
  obtain ⟨oc, od, kV, doc, pm, an, cdv, ct, osl, rfl, lk, hcd⟩ := F.ex
  refine fn_of lk hcd S len fun A outer s H vs Q E hr hsp => ?_
  obtain ⟨t, h, q⟩ := hbody cdv A outer s H vs Q E hr hsp
  exact ⟨t, h.h, q⟩
theorem Has.fnX {x : Str} {st : Stmt} {N ps : List Str} {k : Nat} {sp : Sp} (h : Has K mg x st) (S : FnScope N ps (Zq1 st))
    (hb : ∀ (kV doc pm : Value) (an : Option Addr) (cdv ct : Value) (us : List Value), us.length = ps.length -> bindArgs (PySem.W.fnOf x x (Zq112 st) (Zq47 st) (Zq1 st) .none kV doc pm an cdv ct) ⟨us, []⟩ = pure (ps.zip us))
    (len : ∀ vs H Q E, sp vs H Q E -> vs.length = ps.length)
    (hbody : ∀ (f : Addr) (cdv : Value) (A : Around) (outer : List Env) (s : Shared) (H : Hp) (vs : List V) (Q : VK) (E : XK), Room k (A.deeper (envOfC x (Zq1 st) s.heap.objs.size f cdv)) -> sp vs H Q E ->
      ∃ t, QSs (cxOf (CXE P w) P w K mg base N x (Zq1 st) f cdv A outer s H E) (Zq47 st) t /\ t { nx := fun _ H' => Q .non H', rt := Q } (start N vs) H) : FnX P w K mg base x (k + 1) sp := by
  obtain ⟨f, fd, F, hm⟩ := h
  exact ⟨f, hm, F.kp, (F.okX S len (hbody f)).runX (F.binds hb)⟩
theorem HasM.mtX {C : Addr} {m qual : Str} {st : Stmt} {N ps : List Str} {k : Nat} {sp : Sp} (h : HasM K C m qual st) (S : FnScope N ps (Zq1 st))
    (hb : ∀ (kV doc pm : Value) (an : Option Addr) (cdv ct : Value) (us : List Value), us.length = ps.length -> bindArgs (PySem.W.fnOf m qual (Zq112 st) (Zq47 st) (Zq1 st) .none kV doc pm an cdv ct) ⟨us, []⟩ = pure (ps.zip us))
    (len : ∀ vs H Q E, sp vs H Q E -> vs.length = ps.length)
    (hbody : ∀ (f : Addr) (cdv : Value) (A : Around) (outer : List Env) (s : Shared) (H : Hp) (vs : List V) (Q : VK) (E : XK), Room k (A.deeper (envOfC qual (Zq1 st) s.heap.objs.size f cdv)) -> sp vs H Q E ->
      ∃ t, QSs (cxOf (CXE P w) P w K mg base N qual (Zq1 st) f cdv A outer s H E) (Zq47 st) t /\ t { nx := fun _ H' => Q .non H', rt := Q } (start N vs) H) : MtX P w K mg base C m (k + 1) sp := by
  obtain ⟨f, fd, F, M⟩ := h.ex
  exact ⟨f, M, (F.okX S len (hbody f)).runX (F.binds hb)⟩
end
end L2
namespace L2
open PySem PySem.Spec PyProof.Rows
def nsX (K : PySem.W.Frag) (N : Addr) : Bool := match K.lookup N with
  | some ⟨_, _, .dict es _, _⟩ => (es.toList.all fun e => match e.key with | .str _ _ => true | _ => false) && (nsFind es "__init__").isNone
  | _ => false
def vE : List Value := [.type "ValueError", .type "Exception", .type "BaseException", .type "object"]
def newX : List (Option Value) -> Bool
  | [_, _, _, _, some v, _] => v == .builtin "ValueError.__new__"
  | _ => false
def clsX (K : PySem.W.Frag) : List Value -> Bool
  | .ref M :: r => r == vE && (match K.lookup M with | some ⟨_, _, .cls cd, _⟩ => nsX K cd.ns | _ => false)
  | _ => false
def xcIn (K : PySem.W.Frag) (C : Addr) : Bool := match K.lookup C with
  | some ⟨c, _, .cls cd, sl⟩ => (c == .type "type") && (cd.hasDel == false) && nsX K cd.ns && newX sl.toList && (match cd.mro with | v :: r => (v == .ref C) && clsX K r | _ => false)
  | _ => false
theorem nsX_of {K : PySem.W.Frag} {h : Heap} {N : Addr} (X : K.In h) (e : nsX K N = true) : ∃ mN, h.Ns N mN /\ mN "__init__" = none := by
  unfold nsX at e
  split at e
  · rename_i c d es n sl q
    rw [Bool.and_eq_true] at e
    refine ⟨nsFind es, ⟨_, es, n, X _ _ q, rfl, fun en hen => ?_, fun _ => rfl⟩, Option.isNone_iff_eq_none.mp e.2⟩
    have z := List.all_eq_true.mp e.1 en (Array.mem_toList_iff.mpr hen)
    cases k : en.key with
    | str x t => exact ⟨x, t, rfl⟩
    | _ => rw [k] at z; cases z
  · cases e
theorem newX_of : ∀ {l : List (Option Value)}, newX l = true -> ∃ k0 k1 k2 k3 k5, l = [k0, k1, k2, k3, some (.builtin "ValueError.__new__"), k5] := by
  intro l e
  unfold newX at e
  split at e
  · exact ⟨_, _, _, _, _, by rw [beq_iff_eq.mp e]⟩
  · exact Bool.noConfusion e
theorem xc_of {K : PySem.W.Frag} {h : Heap} {C : Addr} (X : K.In h) (e : xcIn K C = true) :
    ∃ nm q N bs bm hdct sn sub ab col dd k0 k1 k2 k3 k5 mN, h.get? C = some (excClassObj nm q C N bs bm hdct sn sub ab col dd k0 k1 k2 k3 k5 "ValueError.__new__") /\ h.Ns N mN /\ mN "__init__" = none /\ OwnTail h vE bm := by
  unfold xcIn at e
  split at e
  · rename_i c d cd sl q
    simp only [Bool.and_eq_true] at e
    obtain ⟨⟨⟨⟨e1, e2⟩, e3⟩, e4⟩, e5⟩ := e
    have e1 := beq_iff_eq.mp e1
    subst e1
    obtain ⟨mN, hn, hi⟩ := nsX_of X e3
    obtain ⟨nm, bs, mro, N, qn, hdc, sn, sub, ab, col, hdl⟩ := cd
    have e2 : hdl = false := beq_iff_eq.mp e2
    subst e2
    cases mro with
    | nil => cases e5
    | cons v r =>
      dsimp only at e5
      rw [Bool.and_eq_true] at e5
      have e6 := beq_iff_eq.mp e5.1
      subst e6
      have e7 := e5.2
      unfold clsX at e7
      split at e7
      · rename_i M r
        rw [Bool.and_eq_true] at e7
        have e8 := beq_iff_eq.mp e7.1
        subst e8
        have e9 := e7.2
        split at e9
        · rename_i c2 d2 cd2 sl2 q2
          obtain ⟨mM, hM, hMi⟩ := nsX_of X e9
          obtain ⟨sl⟩ := sl
          obtain ⟨k0, k1, k2, k3, k5, rfl⟩ := newX_of (l := sl) e4
          · exact ⟨nm, qn, N, bs, .ref M :: vE, hdc, sn, sub, ab, col, d, k0, k1, k2, k3, k5, mN, X _ _ q, hn, hi, .own (X _ _ q2) hM hMi .base⟩
        · cases e9
      · cases e7
  · cases e
def tRaise (E : St -> XK) (C : Addr) (te : TE) : TS := fun _ σ H => te σ H fun _ H1 => E σ (.ref C) none H1
section
variable {X : Cx} {E : St -> XK} {C : Addr} {x : Str} {np cpos pos : Pos} {e : Expr} {te : TE}
theorem Zq132 (hx : Xp X E) (hcl : X.calm = true) (hex : X.ex = []) (xc : xcIn X.K C = true) (n : Nm X.env.scope x .globalImplicit) (hm : X.mg x = some (.ref C)) (he : QE X e te)
    (hs : starEach [e] X.env = [(false, eval e X.env)] := by rfl) : QS X (.Raise (some (.Call (.Name x np) [e] [] cpos)) none pos) (tRaise E C te) := ⟨by
  intro pins s σ H D I h
  obtain ⟨nm, q, N, bs, bm, hdct, sn, sub, ab, col, dd, k0, k1, k2, k3, k5, mN, hC, hn, hi, T⟩ := xc_of I.kIn xc
  refine wpAny_Raise_call_subU (C := C) (N := N) (nm := nm) (q := q) (bs := bs) (bm := bm) (bmB := vE) (hdct := hdct) (sn := sn) (sub := sub) (ab := ab) (col := col) (dd := dd) (k0 := k0) (k1 := k1) (k2 := k2) (k3 := k3) (k5 := k5) (mN := mN)
    F.excBase_ValueError (by decide) F.excBase_ValueError (T.hasType (by decide)) (I.ok.hd hcl) (by rw [hs]; rfl) hi (ld_glob I n.1 hm ⟨rfl, ?_⟩ n.2.1)
  rw [hs]
  refine Calls.evalArgs_plain (Calls.spliced_cons (thn (he.h pins s σ H _ I h) fun u s1 ⟨v, H1, I1, r1, q1⟩ => Calls.spliced_nil ?_))
  have K1 : ∀ b o, X.base.get? b = some o -> s1.heap.get? b = some o := I1.bk
  obtain ⟨nm', q', N', bs', bm', hdct', sn', sub', ab', col', dd', k0', k1', k2', k3', k5', mN', hC', hn', hi', T'⟩ := xc_of I1.kIn xc
  have lk : ∃ o, X.K.lookup C = some o := by
    unfold xcIn at xc
    split at xc
    · rename_i z; exact ⟨_, z⟩
    · cases xc
  obtain ⟨oC, hoC⟩ := lk
  have z1 := (I.kIn _ _ hoC).symm.trans hC
  have z2 := (I1.kIn _ _ hoC).symm.trans hC'
  have hC1 : s1.heap.get? C = some (excClassObj nm q C N bs bm hdct sn sub ab col dd k0 k1 k2 k3 k5 "ValueError.__new__") := by rw [hC', ← z2, z1]
  have zz := hC1.symm.trans hC'
  have eN : N = N' := by
    have := congrArg (fun o : Option Obj => match o with | some ⟨_, _, .cls cd, _⟩ => cd.ns | _ => 0) zz
    exact this
  have ebm : bm = bm' := by
    have := congrArg (fun o : Option Obj => match o with | some ⟨_, _, .cls cd, _⟩ => cd.mro | _ => []) zz
    exact (List.cons.inj this).2
  subst eN ebm
  refine ⟨rfl, by show 1 <= sizeLine; decide, hC1, ?_, T', fun h' a hx' => ?_⟩
  · -- the namespace is the same object
    have lkN : ∃ o, X.K.lookup N = some o := by
      unfold xcIn at xc
      rw [hoC] at xc
      obtain ⟨c, d, dt, sl⟩ := oC
      cases dt with
      | cls cd =>
        simp only [Bool.and_eq_true] at xc
        have e3 := xc.1.1.2
        have eN : cd.ns = N := by
          have := congrArg (fun o : Option Obj => match o with | some ⟨_, _, .cls cd, _⟩ => cd.ns | _ => 0) z1
          exact this
        rw [eN] at e3
        unfold nsX at e3
        split at e3
        · rename_i z; exact ⟨_, z⟩
        · cases e3
      | _ => cases xc
    obtain ⟨oN, hoN⟩ := lkN
    obtain ⟨o1, es1, ep1, ho1, r1⟩ := hn
    have := (I.kIn _ _ hoN).symm.trans ho1
    cases this
    exact ⟨_, es1, ep1, I1.kIn _ _ hoN, r1⟩
  · obtain ⟨t, e1, e2, e3⟩ := hx'.there
    have I2 : Inv X pins σ H1 { s1 with heap := h' } := I1.kept (t' := s1.toks) hx'.keeps
    have fr : ∀ b, s1.heap.get? b = none -> H1 b = none := fun b z => by
      cases q : H1 b with
      | none => rfl
      | some u => obtain ⟨o, e⟩ := (I1.hok b u q).ex; rw [z] at e; cases e
    refine hx.h pins σ H1 { s1 with heap := h' } a C I2 ⟨fr a hx'.new, ?_, _, _, _, e1, rfl, rfl, rfl, .inl rfl⟩ q1
    cases q : X.s₀.heap.get? a with
    | none => rfl
    | some o =>
      obtain ⟨o', e'⟩ := I1.base.there a o q (by rw [hex]; simp)
      rw [hx'.new] at e'; cases e'⟩
end
end L2
end
section
set_option Elab.async false
set_option linter.all false
set_option maxRecDepth 100000
set_option maxHeartbeats 4000000
namespace L2
open PySem PySem.Spec PyProof.Rows
abbrev TJ := St -> Hp -> (Hp -> Prop) -> Prop
def PJ (X : Cx) (es : List Expr) (t : TJ) : Prop := ∀ (pins : List (Addr × Obj)) (s : Shared) (σ : St) (H : Hp) (Q : Hp -> Prop) (acc : Str), Inv X pins σ H s -> acc.length + es.length * 1000000 <= sizeLine -> t σ H Q ->
  Joins (model X.prog X.w) X.A X.xe (evalEach es X.env) acc (fun out s₁ => out.length <= sizeLine /\ ∃ H', Inv X pins σ H' s₁ /\ Q H') s
structure QJ (X : Cx) (es : List Expr) (t : TJ) : Prop where
  h : PJ X es t
def tJt (n : Nat) (t : TJ) : TJ := fun σ H Q => n <= 1000000 /\ t σ H Q
def tJf (te : TE) (t : TJ) : TJ := fun σ H Q => te σ H fun v H1 => ((∃ x, v = .str x /\ x.length <= 1000000) \/ (∃ i, v = .int i /\ i.natAbs.log2 < 1920)) /\ t σ H1 Q
def tJr (te : TE) (t : TJ) : TJ := fun σ H Q => te σ H fun v H1 => (∃ x, v = .str x /\ x.length <= 10000 /\ ∀ c ∈ x.cps.toList, c < 16 ^ 8) /\ t σ H1 Q
def tJ0 : TJ := fun _ H Q => Q H
def tJoin (t : TJ) : TE := fun σ H Q => t σ H fun H1 => ∀ x : Str, Q (.str x) H1
section
variable {X : Cx} {es : List Expr} {e : Expr} {te : TE} {t : TJ} {pos : Pos}
theorem Zq180 : QJ X [] tJ0 := ⟨fun pins s σ H Q acc I hl h => ⟨by simpa using hl, H, I, h⟩⟩
theorem Zq188 (a b : Str) : (a ++ b).length = a.length + b.length := strLen_append a b
theorem Zq137 {x : Str} {j : Nat} (h : QJ X es t) (he : evalEach (.Constant (.str x) j pos :: es) X.env = eval (.Constant (.str x) j pos) X.env :: evalEach es X.env := by rfl) : QJ X (.Constant (.str x) j pos :: es) (tJt x.length t) := ⟨by
  intro pins s σ H Q acc I hl hq
  obtain ⟨hx, hq⟩ := hq
  rw [List.length_cons] at hl
  rw [he]
  refine Calls.Constant_str ⟨x, _, rfl, ?_, h.h pins _ σ H Q (acc ++ x) (I.tok _) ?_ hq⟩
  · rw [Zq188]; lia
  · rw [Zq188]; lia⟩
theorem Zq146 (h1 : QE X e te) (h : QJ X es t) (he : evalEach (.FormattedValue e (-1) none pos :: es) X.env = eval (.FormattedValue e (-1) none pos) X.env :: evalEach es X.env := by rfl) : QJ X (.FormattedValue e (-1) none pos :: es) (tJf te t) := ⟨by
  intro pins s σ H Q acc I hl hq
  rw [List.length_cons] at hl
  rw [he]
  refine wpAny_FormattedValue_plain (thn (h1.h pins s σ H _ I hq) fun u s1 ⟨v, H1, I1, rv, hv, q⟩ => ?_)
  rcases hv with ⟨x, rfl, hx⟩ | ⟨i, rfl, hi⟩
  · obtain ⟨tk, rfl⟩ := rv
    refine formatField_str (fun t' tk' => ⟨x, t', rfl, ?_, h.h pins _ σ H1 Q (acc ++ x) (I1.tok _) ?_ q⟩) (by rw [sizeLine_eq]; lia)
    · rw [Zq188]; lia
    · rw [Zq188]; lia
  · obtain ⟨tk, rfl⟩ := rv
    have hn : (Str.ofString (toString i)).length <= 1921 := by rw [PySem.ofString_length]; exact int_text_length_le (by decide) hi
    refine wpAny_formatField_int hi ⟨_, _, rfl, ?_, h.h pins _ σ H1 Q _ (I1.tok _) ?_ q⟩
    · rw [Zq188]; lia
    · rw [Zq188]; lia⟩
theorem qj_rep (h1 : QE X e te) (h : QJ X es t) (he : evalEach (.FormattedValue e 114 none pos :: es) X.env = eval (.FormattedValue e 114 none pos) X.env :: evalEach es X.env := by rfl) : QJ X (.FormattedValue e 114 none pos :: es) (tJr te t) := ⟨by
  intro pins s σ H Q acc I hl hq
  rw [List.length_cons] at hl
  rw [he]
  refine wpAny_FormattedValue_repr (thn (h1.h pins s σ H _ I hq) fun u s1 ⟨v, H1, I1, rv, hv, q⟩ => ?_)
  obtain ⟨x, rfl, hx, hc⟩ := hv
  obtain ⟨tk, rfl⟩ := rv
  have hn := StrLaws.reprText_len x hc
  have hz : (reprText x).length <= sizeLine := by rw [sizeLine_eq]; lia
  refine wpAny_pyReprObj_gives (x := reprText x) (typeIs_str _ _ _) F.slot_str_repr F.entry_str_repr (F.args_str_repr_1 _) (gives_str_repr x tk) ?_ rfl hz
  refine formatField_str (fun t' tk' => ⟨_, t', rfl, ?_, h.h pins _ σ H1 Q _ ((I1.tok _).tok _) ?_ q⟩) hz
  · rw [Zq188]; lia
  · rw [Zq188]; lia⟩
theorem joins_mono {M : Model} {A : Around} {E : Value -> Shared -> Prop} {Q Q' : Str -> Shared -> Prop} (hQ : ∀ o s, Q o s -> Q' o s) : ∀ {l : List (Sem Value)} {acc : Str} {s : Shared}, Joins M A E l acc Q s -> Joins M A E l acc Q' s
  | [], _, _, h => hQ _ _ h
  | _ :: _, _, _, h => wpAny_mono h (fun _ _ ⟨y, t, a, b, c⟩ => ⟨y, t, a, b, joins_mono hQ c⟩) fun _ _ z => z
theorem Zq107 {e1 e2 : Expr} (h : QJ X (e1 :: e2 :: es) t) (hn : es.length <= 8 := by decide) : QE X (.JoinedStr (e1 :: e2 :: es) pos) (tJoin t) := ⟨by
  intro pins s σ H Q I hq
  have hs : (Str.empty).length + (e1 :: e2 :: es).length * 1000000 <= sizeLine := by
    have : Str.empty.length = 0 := rfl
    rw [this, List.length_cons, List.length_cons, sizeLine_eq]; lia
  refine wpAny_JoinedStr ?_
  have key := h.h pins s σ H _ Str.empty I hs hq
  refine joins_mono (fun out s1 ⟨h1, H1, I1, q⟩ => ⟨h1, .str out, H1, I1.tok _, ⟨_, rfl⟩, q out⟩) key⟩
end
end L2
end
section
set_option Elab.async false
set_option linter.all false
set_option maxRecDepth 100000
set_option maxHeartbeats 4000000
namespace L2
open PySem PySem.Spec PyProof.Rows PySem.W PySem.Calls PySem.Builtin PySem.Builtin.ObjectAttr PySem.Builtin.Getset_descriptor
def kcIn (K : Frag) (C : Addr) : Bool := (clsIn K C).isSome && (findIn K (.ref C) "__getattribute__" == some (some (.builtin "BaseException.__getattribute__"))) && (findIn K (.ref C) "__getattr__" == some none) && (findIn K (.ref C) "__class__" == some (some (.builtin "object.__class__"))) &&
  (mroIn K C (.type "object") == some true) && (mroIn K C (.type "BaseException") == some true)
section
variable {prog : Program} {w : World} {A : Around} {E : Value -> Shared -> Prop} {h : Heap} {g : Array GenState} {d : Drawn} {t : Nat} {os : OsState} {a C : Addr} {o : Obj} {K : Frag}
theorem class_getX {tp : Value} {R : Result -> Shared -> Prop} {s : Shared} (X : K.In s.heap) (L0 : Looks (model prog w) s.heap (typeOf (.ref a)) (.ref C)) (hm : mroIn K C (.type "object") = some true)
    (h : R (.ok (.ret (.ref C))) s) : codeAny (model prog w) A (.call (.builtin "getset_descriptor.__get__") ⟨[.builtin "object.__class__", .ref a, tp], []⟩) R s := by
  obtain ⟨hh, g, dr, t, os⟩ := s
  have L1 := looks_mroIn (M := model prog w) X hm
  refine codeAny_call_builtin KF.slot_gs.plain KF.entry_gs (KF.slot_gs.check _ _ _ _ _ _ _ _ KF.type_class (KF.args_gs _ _ _) ?_)
  unfold Builtin.«getset_descriptor.__get__» descrGet
  rw [dga_obj]
  refine wpAny_bind (wpAny_pure ?_)
  unfold descrGetter descrCheckInstance descrNameAndClass isInstance
  simp only [KF.owner_class]
  repeat lk
  refine ⟨Code.quiet_builtin _ (by decide +kernel), codeAny_builtin KF.entry_class ?_⟩
  unfold Builtin.«object.__class__» shownTypeOf
  repeat lk
  exact h
structure ExA (h : Heap) (a : Addr) (o : Obj) (C : Addr) : Prop where
  at_ : h.get? a = some o
  cls : o.cls = .ref C
theorem ExA.type {M : Model} (I : ExA h a o C) : Looks M h (typeOf (.ref a)) (.ref C) := I.cls ▸ (Looks.ld I.at_).andThen .now
theorem class_entry_exc {tk : Tok} {Q : Fin -> Shared -> Prop} (X : K.In h) (I : ExA h a o C) (k1 : findIn K (.ref C) "__class__" = some (some (.builtin "object.__class__"))) (k2 : mroIn K C (.type "object") = some true)
    (hq : Q (.done (.ret (.ref C))) ⟨h, g, d, t, os⟩) : wpAny (model prog w) A (Builtin.«object.__getattribute__» ⟨[.ref a, .str "__class__" tk], []⟩) Q E ⟨h, g, d, t, os⟩ := by
  have hT5 : (⟨h, g, d, t, os⟩ : Shared).TypeIs (.builtin "object.__class__") "getset_descriptor" := F.typeOf_object_class
  have f5 := F.typeOf_object_class
  have f6 := F.slot_gs_get.lookup
  have f7 := F.slot_gs_set.lookup
  have hx := I.at_
  have hc := I.cls
  have L1 := looks_findIn (M := model prog w) X k1
  repeat (any_goals (first | assumption | (with_reducible refine wpAny_loadPart_at hx ?_; rw [hc]) | with_reducible refine L1.at ?_ | wp_step))
  refine class_getX (s := ⟨h, g, d, t, os⟩) X I.type k2 ?_
  repeat (any_goals (first | assumption | wp_step))
theorem check_ga_exc {M : Model} {nameV : Value} {Q : Unit -> Shared -> Prop} (X : K.In h) (I : ExA h a o C) (k3 : mroIn K C (.type "BaseException") = some true) (hq : Q () ⟨h, g, d, t, os⟩) :
    wpAny M A (checkBuiltinCall "BaseException.__getattribute__" ⟨[.ref a, nameV], []⟩) Q E ⟨h, g, d, t, os⟩ := by
  have hk : builtinKind "BaseException.__getattribute__" = some .slot := by decide +kernel
  have hsplit : splitId "BaseException.__getattribute__" = some ("BaseException", "__getattribute__") := by decide +kernel
  have ha := F.args_bexc_ga (.ref a) nameV
  have hx := I.at_
  have hc := I.cls
  have L1 := looks_mroIn (M := M) X k3
  simp only [checkBuiltinCall, hk, hsplit]
  refine wpAny_bind ?_
  · unfold isInstance
    repeat (first | (with_reducible refine wpAny_loadPart_at hx ?_; rw [hc]) | with_reducible refine L1.at ?_ | wp_step)
    exact hq
theorem class_by_exc {tk : Tok} {fill expr : Bool} {Q : Value -> Shared -> Prop} (X : K.In h) (I : ExA h a o C) (kc : kcIn K C = true) (hq : Q (.ref C) ⟨h, g, d, t, os⟩) :
    wpAny (model prog w) A (getAttrBy (.ref a) (.str "__class__" tk) fill expr) Q E ⟨h, g, d, t, os⟩ := by
  unfold kcIn at kc
  simp only [Bool.and_eq_true] at kc
  obtain ⟨⟨⟨⟨⟨_, k1⟩, k2⟩, k3⟩, k4⟩, k5⟩ := kc
  have k1 := beq_iff_eq.mp k1
  have k2 := beq_iff_eq.mp k2
  have k3 := beq_iff_eq.mp k3
  have k4 := beq_iff_eq.mp k4
  have k5 := beq_iff_eq.mp k5
  have f3 := F.attr_ValueError.ga.bind (.ref a)
  have hx := I.at_
  have hc := I.cls
  have hx0 : (expr && onTheHeap (Value.builtin "BaseException.__getattribute__")) = false := by cases expr <;> rfl
  have hx2 : (Value.builtin "BaseException.__getattribute__" == Value.builtin "object.__getattribute__") = false := by decide +kernel
  have hx1 : (onTheHeap (Value.ref C) && Value.builtin "BaseException.__getattribute__" == Value.builtin "object.__getattribute__") = false := by rw [hx2]; rfl
  have L1 := looks_findIn (M := model prog w) X k1
  have L2' := looks_findIn (M := model prog w) X k2
  repeat (any_goals (first | assumption | (with_reducible refine wpAny_loadPart_at hx ?_; rw [hc]) | with_reducible refine L1.at ?_ | with_reducible refine L2'.at ?_ | wp_step))
  refine codeAny_call_builtin F.attr_ValueError.ga.plain F.entry_bexc_ga (check_ga_exc X I k5 (class_entry_exc X I k3 k4 ?_))
  repeat (any_goals (first | assumption | wp_step))
theorem class_attr_exc {Q : Option Value -> Shared -> Prop} (X : K.In h) (I : ExA h a o C) (kc : kcIn K C = true) (hq : Q (some (.ref C)) ⟨h, g, d, t + 1, os⟩) :
    wpAny (model prog w) A (getAttr? (.ref a) "__class__") Q E ⟨h, g, d, t, os⟩ := by
  unfold getAttr? getAttrBy?
  refine wpAny_bind (wpAny_mkText (wpAny_bind (wpAny_attempt (class_by_exc X I kc ?_))))
  exact wpAny_pure hq
end
section
variable {K : Frag} {a C : Addr} {o : Obj}
theorem kitx_exc (kc : kcIn K C = true) : KitX K (.ref a) (.ref C) (fun h => ExA h a o C) where
  ty := fun _ _ _ I => I.type
  it := fun _ _ X _ => by
    unfold kcIn at kc
    simp only [Bool.and_eq_true] at kc
    obtain ⟨cdD, hcD⟩ := Option.isSome_iff_exists.mp kc.1.1.1.1.1
    unfold clsIn at hcD
    split at hcD
    · rename_i c' d' cd' sl' ho
      intro A' Q' E' s' k q
      unfold isType loadHead
      exact wpAny_bind (wpAny_loadPart (k _ _ (X _ _ ho)) (wpAny_pure q))
    · cases hcD
  ne := fun h tp dd its n sl X htp => by
    unfold kcIn at kc
    simp only [Bool.and_eq_true] at kc
    obtain ⟨cdD, hcD⟩ := Option.isSome_iff_exists.mp kc.1.1.1.1.1
    refine Bool.eq_false_iff.mpr fun q => ?_
    have e : C = tp := Value.ref.inj (beq_iff_eq.mp q)
    subst e
    unfold clsIn at hcD
    split at hcD
    · rename_i c' d' cd' sl' ho
      have z := (X _ _ ho).symm.trans htp
      cases z
    · cases hcD
  ca := fun {_ _ _ _ _ s} X I k => by
    obtain ⟨h, g, d, t, os⟩ := s
    exact class_attr_exc X I kc k
end
end L2
end
section
set_option Elab.async false
set_option linter.all false
set_option maxRecDepth 100000
set_option maxHeartbeats 4000000
namespace L2
open PySem PySem.Spec PyProof.Rows
abbrev Cx.hnd (X : Cx) (a : Addr) (o : Obj) : Cx := { X with A := X.A.mark (some (.ref a)), calm := false, pn := [(a, o)], xe := fun _ _ => False }
section
variable {X : Cx} {σ : St} {H : Hp} {s : Shared} {a C : Addr} {o : Obj}
theorem Inv.hnd (I : Inv X [] σ H s) (ho : s.heap.get? a = some o) (hH : H a = none) (hd : ∃ vs, o.data = .fields vs) : Inv (X.hnd a o) [] σ H s := by
  obtain ⟨vs, hd⟩ := hd
  obtain ⟨m, ⟨oL, esL, epL, hoL, hdL, rL⟩, _⟩ := id I.loc
  refine ⟨⟨I.ok.mod, I.ok.kind, I.ok.glob, I.ok.blt, I.ok.above, I.ok.inj, I.ok.has, I.ok.cab, fun z => Bool.noConfusion z, I.ok.frames, I.ok.stk, I.ok.exf, I.ok.bs, I.ok.bsz, I.ok.noex, I.ok.exfs, I.ok.funs, I.ok.frf⟩, I.os, I.bare, I.base, I.loc, I.cell, I.free, I.freeC, fun p hp => ?_, I.hok, I.len⟩
  have e : p = (a, o) := by simpa using hp
  subst e
  refine ⟨ho, hH, fun z => ?_, fun z => ?_, fun v z => ?_⟩
  · have z : a = X.env.locals := z
    rw [z, hoL] at ho; cases ho; rw [hdL] at hd; cases hd
  · obtain ⟨_, o', e', d⟩ := I.funs.mem (show a ∈ X.outer.filterMap (·.frame) from z)
    rw [ho] at e'; cases e'; exact d vs hd
  · have z : o.data = .cell v := z
    rw [hd] at z; cases z
theorem Inv.unhnd (I : Inv (X.hnd a o) [] σ H s) (ok : X.Ok) (hpn : X.pn = []) : Inv X [] σ H s :=
  ⟨ok, I.os, I.bare, I.base, I.loc, I.cell, I.free, I.freeC, (fun p hp => by rw [hpn] at hp; cases hp), I.hok, I.len⟩
theorem land_any {M : Model} {A : Around} {E : Value -> Shared -> Prop} {Q : Unit -> Shared -> Prop} (I : Inv X [] σ H s) (hpn : X.pn = []) (hex : X.ex = []) (stk : X.stack = X.env :: X.outer) (x : XAt X.s₀.heap H s.heap a C)
    (k : ∀ h', Inv X [] σ H { s with heap := h' } -> XAt X.s₀.heap H h' a C -> Q () { s with heap := h' }) : wpAny M A (setFlight (.ref a) none) Q E s := by
  obtain ⟨ha, h0a, oe, vs, a0, he, hc, hd, v0, tr⟩ := id x
  rcases tr with v1 | ⟨T, oT, ts, v1, hTe, hT, hdT, h3, hHT, h0T⟩
  · unfold setFlight
    refine wpAny_bind (wpAny_field he hd v1 ?_)
    rw [if_neg (by decide)]
    exact wpAny_pure (k s.heap I x)
  · have hh : ∀ b ∈ [a, T], X.s₀.heap.get? b = none /\ H b = none /\ ∃ o vs, s.heap.get? b = some o /\ o.data = .fields vs := fun b hb => by
      rcases List.mem_cons.mp hb with rfl | hb
      · exact ⟨h0a, ha, oe, vs, he, hd⟩
      · rw [List.mem_singleton] at hb; subst hb; exact ⟨h0T, hHT, oT, ts, hT, hdT⟩
    have hl : s.heap.FunFrames (PySem.W.hideAll s.heap ([a, T] ++ frs X.stack)) X.stack := PySem.W.funFrames_hide I.stack fun env he b hb => List.mem_append_right _ (List.mem_filterMap.mpr ⟨env, he, hb⟩)
    refine wpAny_setFlight_noneW (base := PySem.W.hideAll s.heap ([a, T] ++ frs X.stack)) (cls := .ref C) (a0 := a0) (fl := .none) (fun b o q => PySem.W.of_hideAll _ q) hl
      ⟨oe, vs, T, oT, ts, he, ⟨hc, v0⟩, hd, v1, PySem.W.hideAll_none _ (by simp), hTe, hT, hdT, h3⟩ fun h2 k1 k2 k3 k4 => ?_
    refine k h2 (I.noted hpn hh k1 fun b o e hn => ⟨o.slots, k4 b o e hn⟩) ?_
    obtain ⟨oe', vs', T', oT', ts', he', ⟨hc', v0'⟩, hd', h1', hnT, hTe', hT', hdT', h3'⟩ := k3
    have no : ∀ o, s.heap.get? T' = some o -> T' ∉ [a, T] -> T' ∉ frs X.stack -> False := fun o e n1 n2 => by
      have := PySem.W.hideAll_get ([a, T] ++ frs X.stack) e fun hm => (List.mem_append.mp hm).elim n1 n2
      rw [this] at hnT; cases hnT
    have nfr : T' ∉ frs X.stack := fun z => by
      obtain ⟨_, o, e, d⟩ := k2.mem (show T' ∈ X.stack.filterMap (·.frame) from z)
      rw [hT'] at e; cases e; exact d ts' hdT'
    refine ⟨ha, h0a, oe', vs', a0, he', hc', hd', v0', .inr ⟨T', oT', ts', h1', hTe', hT', hdT', h3', ?_, ?_⟩⟩
    · cases q : H T' with
      | none => rfl
      | some u =>
        obtain ⟨o, e⟩ := (I.hok T' u q).ex
        exact (no o e (fun z => by rw [(hh T' z).2.1] at q; cases q) nfr).elim
    · cases q : X.s₀.heap.get? T' with
      | none => rfl
      | some o =>
        obtain ⟨o', e⟩ := I.base.there T' o q (by rw [hex]; simp)
        exact (no o' e (fun z => by rw [(hh T' z).1] at q; cases q) nfr).elim
end
def exIn (K : PySem.W.Frag) (C D : Addr) : Option Bool := if ((PySem.W.clsIn K D).isSome && (PySem.W.typeIn K (.ref D) == some (.type "type")) && (PySem.W.subIn K (.ref D) (.type "BaseException") == some true)) = true then PySem.W.subIn K (.ref C) (.ref D) else none
theorem excMatches_of {M : Model} {A : Around} {E : Value -> Shared -> Prop} {s : Shared} {K : PySem.W.Frag} {a C D : Addr} {oe : Obj} {b : Bool} {Q : Bool -> Shared -> Prop} (X : K.In s.heap) (he : s.heap.get? a = some oe) (hc : oe.cls = .ref C)
    (e : exIn K C D = some b) (q : Q b s) : wpAny M A (excMatches (.ref a) (.ref D)) Q E s := by
  unfold exIn at e
  split at e
  · rename_i z
    simp only [Bool.and_eq_true] at z
    obtain ⟨⟨z0, z1⟩, z2⟩ := z
    have L0 := PySem.W.looks_typeIn (M := M) X (beq_iff_eq.mp z1)
    have L1 := PySem.W.looks_subIn (M := M) X (beq_iff_eq.mp z2)
    have L2 := PySem.W.looks_subIn (M := M) X e
    have LI : PySem.W.Looks M s.heap (isInstance (.ref D) (.type "tuple")) false := L0.andThen (PySem.W.Looks.of_pure tc_notTuple)
    obtain ⟨cdD, hcD⟩ := Option.isSome_iff_exists.mp z0
    have LT : PySem.W.Looks M s.heap (isType (.ref D)) true := by
      unfold PySem.W.clsIn at hcD
      split at hcD
      · rename_i c' d' cd' sl' ho
        intro A' Q' E' s' k q
        unfold isType loadHead
        exact wpAny_bind (wpAny_loadPart (k _ _ (X _ _ ho)) (wpAny_pure q))
      · cases hcD
    have LE : PySem.W.Looks M s.heap (isExcClass (.ref D)) true := LT.andThen L1
    have Lt : PySem.W.Looks M s.heap (typeOf (.ref a)) (.ref C) := hc ▸ (PySem.W.Looks.ld he).andThen .now
    obtain ⟨h0, g, d, t, os⟩ := s
    unfold excMatches
    refine wpAny_bind (LI.at ?_)
    simp only [Bool.false_eq_true, if_false]
    refine wpAny_bind (wpAny_pure ?_)
    simp only [List.forIn_cons, List.forIn_nil]
    refine wpAny_bind (wpAny_bind (wpAny_bind (LE.at ?_)))
    simp only [Bool.not_true, Bool.false_eq_true, if_false]
    refine wpAny_pure (wpAny_pure ?_)
    refine wpAny_bind (Lt.at (wpAny_bind (wpAny_bind (wpAny_bind (L2.at ?_)))))
    cases b with
    | true => simp only [if_true]; exact wpAny_pure (wpAny_pure (wpAny_pure q))
    | false => simp only [Bool.false_eq_true, if_false]; exact wpAny_pure (wpAny_pure (wpAny_pure q))
  · cases e
def PH (X : Cx) (hs : List ExceptHandler) (t : Addr -> TS) : Prop := ∀ (a C : Addr) (s : Shared) (σ : St) (H : Hp) (D : Ends), Inv X [] σ H s -> XAt X.s₀.heap H s.heap a C -> t C D σ H -> wpAny (model X.prog X.w) X.A (handleBy (.ref a) X.env hs) (SP X [] D) X.xe s
structure QH (X : Cx) (hs : List ExceptHandler) (t : Addr -> TS) : Prop where
  h : PH X hs t
def tH0 : Addr -> TS := fun _ _ _ _ => False
def Ends.off (D : Ends) (i : Nat) : Ends := { nx := fun σ H => D.nx (σ.set i none) H, rt := D.rt, bk := fun σ H => D.bk (σ.set i none) H, ct := fun σ H => D.ct (σ.set i none) H }
def tHas (K : PySem.W.Frag) (Dc : Addr) (i : Nat) (ts : Addr -> Addr -> TS) (tr : Addr -> TS) : Addr -> TS := fun C D σ H => ∃ b, exIn K C Dc = some b /\ if b = true then ∀ a, ts a C (D.off i) (σ.set i (some (.ref a))) H else tr C D σ H
structure Pl (X : Cx) : Prop where
  pn : X.pn = []
  ex : X.ex = []
  stk : X.stack = X.env :: X.outer
  fr : X.env.frame = some X.env.locals
section
variable {X : Cx} {x n : Str} {np pos : Pos} {b₀ : Stmt} {suite : List Stmt} {rest : List ExceptHandler} {Dc : Addr} {tr : Addr -> TS}
theorem qh_nil : QH X [] tH0 := ⟨fun _ _ _ _ _ _ _ _ h => h.elim⟩
theorem sp_unhnd {a : Addr} {o : Obj} {D : Ends} {f : Flow} {s : Shared} (ok : X.Ok) (hpn : X.pn = []) (h : SP (X.hnd a o) [] D f s) : SP X [] D f s := by
  cases f with
  | next => obtain ⟨σ, H, I, q⟩ := h; exact ⟨σ, H, I.unhnd ok hpn, q⟩
  | brk => obtain ⟨σ, H, I, q⟩ := h; exact ⟨σ, H, I.unhnd ok hpn, q⟩
  | cont => obtain ⟨σ, H, I, q⟩ := h; exact ⟨σ, H, I.unhnd ok hpn, q⟩
  | ret u => obtain ⟨v, σ, H, I, r, q⟩ := h; exact ⟨v, σ, H, I.unhnd ok hpn, r, q⟩
theorem Inv.unset {i : Nat} {σ : St} {H : Hp} {s : Shared} {h' : Heap} {tk : Nat} {m : Str -> Option Value} {v : Option Value} (I : Inv X [] σ H s) (hpn : X.pn = []) (hN : X.N.Nodup) (hi : X.N[i]? = some n) (hn : s.heap.Ns X.env.locals m)
    (hn' : h'.Ns X.env.locals (fun y => if y = n then v else m y)) (hs : Heap.SameBut X.env.locals s.heap h') : Inv X [] (σ.set i none) H { s with heap := h', toks := tk } := by
  obtain ⟨m0, hn0, hl⟩ := id I.loc
  have em : ∀ y, m0 y = m y := by
    obtain ⟨o1, e1, p1, g1, d1, _, f1⟩ := hn0
    obtain ⟨o2, e2, p2, g2, d2, _, f2⟩ := hn
    rw [g1] at g2; cases g2
    rw [d1] at d2; cases d2
    intro y; rw [← f1, ← f2]
  have cne := I.cne
  have tracked : HOk X.prog X.w H h' := fun b ob e => by
    refine (I.hok b ob e).stay (fun c w' hc q => (hs.2 c ?_).trans q) (fun _ q => q) fun _ _ q => q
    rintro rfl
    rcases hc with rfl | hc
    · rw [I.free] at e; cases e
    · rw [I.free] at hc; cases hc
  have neL : ∀ b o, X.s₀.heap.get? b = some o -> b ≠ X.env.locals := fun b o e => Nat.ne_of_lt (Nat.lt_of_lt_of_le (Heap.lt_size e) I.ok.above)
  refine ⟨I.ok, I.os, I.bare, ⟨fun b o e nn hb hx => (hs.2 b (neL b o e)).trans (I.base.keep b o e nn hb hx), fun b o e nn hb hx => ?_, I.base.free, fun b o e hx => ?_, I.base.tups, I.base.frzs, I.base.tbls⟩, ⟨_, hn', fun j y v' e1 e2 e3 => ?_⟩, fun y c e => ?_, I.free, I.freeC, (fun q hq => by rw [hpn] at hq; cases hq), tracked, by rw [List.length_set]; exact I.len⟩
  · obtain ⟨sl, e1⟩ := I.base.slot b o e nn hb hx
    exact ⟨sl, (hs.2 b (neL b o e)).trans e1⟩
  · obtain ⟨o', e1⟩ := I.base.there b o e hx
    exact ⟨o', (hs.2 b (neL b o e)).trans e1⟩
  · by_cases hj : j = i
    · subst hj
      rw [List.getElem?_set] at e2
      split at e2
      · split at e2 <;> cases e2
      · rename_i z; exact absurd rfl z
    · rw [List.getElem?_set_ne (Ne.symm hj)] at e2
      obtain ⟨u', r', q⟩ := hl j y v' e1 e2 e3
      refine ⟨u', r', ?_⟩
      rcases q with ⟨k, e⟩ | ⟨k, c, e, z⟩
      · refine .inl ⟨k, ?_⟩
        have ne : y ≠ n := fun e => hj (nodup_ix hN e1 (e ▸ hi))
        show (if y = n then v else m y) = some u'
        rw [if_neg ne, ← em]; exact e
      · exact .inr ⟨k, c, e, z.sameBut hs (cne y c e)⟩
  · obtain ⟨w', z⟩ := I.cell y c e
    exact ⟨w', z.sameBut hs (cne y c e)⟩
theorem qh_as {i : Nat} {ts : Addr -> Addr -> TS} (p : Pl X) (nm : Nm X.env.scope x .globalImplicit) (hm : X.mg x = some (.ref Dc)) (hN : X.N.Nodup) (ne : Nm X.env.scope n .local) (hb : ∀ a C o, o.cls = .ref C -> QSs (X.hnd a o) (b₀ :: suite) (ts a C)) (hr : QH X rest tr)
    (hi : X.N[i]? = some n := by rfl) : QH X (.ExceptHandler (some (.Name x np)) (some n) (b₀ :: suite) pos :: rest) (tHas X.K Dc i ts tr) := ⟨by
  intro a C s σ H D I xa h
  obtain ⟨b, eb, h⟩ := h
  obtain ⟨ha, h0a, oe, vs, a0, he, hc, hd, v0, _⟩ := id xa
  have J := I.hnd he ha ⟨vs, hd⟩
  refine wpAny_handleBy_cons (codeAny_handlers_test (ld_glob (X := X.hnd a oe) J nm.1 hm ?_ nm.2.1)) (by intro q; cases q)
  refine excMatches_of J.kIn he hc eb ?_
  cases b with
  | false => exact hr.h a C s σ H D I xa h
  | true =>
    refine codeAny_handlers_suite_as (land_any I p.pn p.ex p.stk xa fun h' I' xa' => ?_)
    obtain ⟨ha', _, oe', vs', _, he', hc', hd', _⟩ := xa'
    refine store_ok (X := X.hnd a oe') (I'.hnd he' ha' ⟨vs', hd'⟩) hN hi (.inl ne.1) (v := .ref a) rfl (fun s1 I1 => ?_) (.inr ne.1)
    refine wpAny_mono ((hb a C oe' hc').h [] _ _ H (D.off i) I1 (h a)) (fun f s2 q => ?_) fun _ _ z => z.elim
    have q := sp_unhnd I.ok p.pn q
    have hp : (X.env.scope.kind == .class || (X.env.scope.kind == .module && X.env.locals != X.env.globals)) = false := by rw [I.ok.kind]; rfl
    cases f with
    | next =>
      obtain ⟨σ2, H2, I2, q⟩ := q
      obtain ⟨m, hn, _⟩ := id I2.loc
      exact wpAny_nameGoes_keeps ne.1 hn hp fun h3 v hn3 hs3 => ⟨_, H2, I2.unset p.pn hN hi hn hn3 hs3, q⟩
    | brk =>
      obtain ⟨σ2, H2, I2, q⟩ := q
      obtain ⟨m, hn, _⟩ := id I2.loc
      exact wpAny_nameGoes_keeps ne.1 hn hp fun h3 v hn3 hs3 => ⟨_, H2, I2.unset p.pn hN hi hn hn3 hs3, q⟩
    | cont =>
      obtain ⟨σ2, H2, I2, q⟩ := q
      obtain ⟨m, hn, _⟩ := id I2.loc
      exact wpAny_nameGoes_keeps ne.1 hn hp fun h3 v hn3 hs3 => ⟨_, H2, I2.unset p.pn hN hi hn hn3 hs3, q⟩
    | ret u =>
      obtain ⟨v, σ2, H2, I2, r, q⟩ := q
      obtain ⟨m, hn, _⟩ := id I2.loc
      exact wpAny_nameGoes_keeps ne.1 hn hp fun h3 v' hn3 hs3 => ⟨v, _, H2, I2.unset p.pn hN hi hn hn3 hs3, r, q⟩⟩
end
end L2
namespace L2
open PySem PySem.Spec PyProof.Rows
def PS0 (X : Cx) (st : Stmt) (t : TS) : Prop := ∀ (s : Shared) (σ : St) (H : Hp) (D : Ends), Inv X [] σ H s -> t D σ H -> wpAny (model X.prog X.w) X.A (exec st X.env) (SP X [] D) X.xe s
def PSs0 (X : Cx) (st : List Stmt) (t : TS) : Prop := ∀ (s : Shared) (σ : St) (H : Hp) (D : Ends), Inv X [] σ H s -> t D σ H -> wpAny (model X.prog X.w) X.A (execs st X.env) (SP X [] D) X.xe s
structure QS0 (X : Cx) (st : Stmt) (t : TS) : Prop where
  h : PS0 X st t
structure QSs0 (X : Cx) (st : List Stmt) (t : TS) : Prop where
  h : PSs0 X st t
def tTry (tb : (St -> XK) -> TS) (th : Addr -> TS) : TS := fun D σ H => tb (fun σ' c _ H' => ∃ C, c = .ref C /\ th C D σ' H') D σ H
section
variable {X : Cx} {st : Stmt} {rest body : List Stmt} {t u : TS} {h₀ : ExceptHandler} {hs : List ExceptHandler} {tb : (St -> XK) -> TS} {th : Addr -> TS} {pos : Pos}
theorem QS.q0 (h : QS X st t) : QS0 X st t := ⟨fun s σ H D I q => h.h [] s σ H D I q⟩
theorem QSs.q0 (h : QSs X rest t) : QSs0 X rest t := ⟨fun s σ H D I q => h.h [] s σ H D I q⟩
theorem Zq108 (h1 : QS0 X st t) (h2 : QSs0 X rest u) : QSs0 X (st :: rest) (tSeq t u) := ⟨by
  intro s σ H D I h
  rw [execs]
  refine wpAny_bind (thn (h1.h s σ H _ I h) fun f s1 q => ?_)
  cases f with
  | next =>
    obtain ⟨σ1, H1, I1, q⟩ := q
    exact h2.h s1 σ1 H1 D I1 q
  | brk => exact wpAny_pure q
  | cont => exact wpAny_pure q
  | ret u => exact wpAny_pure q⟩
theorem qs_try (p : Pl X) (hb : ∀ (E' : Value -> Shared -> Prop) (EH : St -> XK), Xq (X.wish E') EH -> QSs (X.wish E') body (tb EH)) (hh : QH X (h₀ :: hs) th) : QS0 X (.Try body (h₀ :: hs) [] [] pos) (tTry tb th) := ⟨by
  intro s σ H D I h
  refine wpAny_Try_except ?_
  have wish : ∀ {E'} {σ : St} {H : Hp} {s : Shared}, Inv X [] σ H s -> Inv (X.wish E') [] σ H s := fun I => ⟨⟨I.ok.mod, I.ok.kind, I.ok.glob, I.ok.blt, I.ok.above, I.ok.inj, I.ok.has, I.ok.cab, I.ok.hd, I.ok.frames, I.ok.stk, I.ok.exf, I.ok.bs, I.ok.bsz, I.ok.noex, I.ok.exfs, I.ok.funs, I.ok.frf⟩, I.os, I.bare, I.base, I.loc, I.cell, I.free, I.freeC, I.pin, I.hok, I.len⟩
  have unw : ∀ {E'} {σ : St} {H : Hp} {s : Shared} {pins : List (Addr × Obj)}, Inv (X.wish E') pins σ H s -> Inv X pins σ H s := fun I => ⟨⟨I.ok.mod, I.ok.kind, I.ok.glob, I.ok.blt, I.ok.above, I.ok.inj, I.ok.has, I.ok.cab, I.ok.hd, I.ok.frames, I.ok.stk, I.ok.exf, I.ok.bs, I.ok.bsz, I.ok.noex, I.ok.exfs, I.ok.funs, I.ok.frf⟩, I.os, I.bare, I.base, I.loc, I.cell, I.free, I.freeC, I.pin, I.hok, I.len⟩
  have hx : Xq (X.wish fun e s₁ => wpAny (model X.prog X.w) X.A (noteFrame e X.env) (fun _ s₂ => wpAny (model X.prog X.w) X.A (setFlight e none) (fun _ s₃ => wpAny (model X.prog X.w) X.A (handleBy e X.env (h₀ :: hs)) (SP X [] D) X.xe s₃) X.xe s₂) X.xe s₁)
      fun σ' c _ H' => ∃ C, c = .ref C /\ th C D σ' H' := ⟨.inr ⟨p.ex, ⟨fun pins σ1 H1 s1 a C I1 x q => by
    obtain ⟨C', eC, q⟩ := q
    cases eC
    have I2 := (unw I1).pins_of (pins' := []) (fun p hp => nomatch hp)
    exact note_land I2 p.pn p.ex p.stk p.fr x fun h' J y => hh.h a C _ σ1 H1 D J y q⟩⟩⟩
  refine wpAny_mono ((hb _ _ hx).h [] s σ H D (wish I) h) (fun f s1 q => ?_) fun _ _ z => z
  have q' : SP X [] D f s1 := by
    cases f with
    | next => obtain ⟨σ, H, I, q⟩ := q; exact ⟨σ, H, unw I, q⟩
    | brk => obtain ⟨σ, H, I, q⟩ := q; exact ⟨σ, H, unw I, q⟩
    | cont => obtain ⟨σ, H, I, q⟩ := q; exact ⟨σ, H, unw I, q⟩
    | ret u => obtain ⟨v, σ, H, I, r, q⟩ := q; exact ⟨v, σ, H, unw I, r, q⟩
  cases f with
  | next => exact wpAny_pure q'
  | brk => exact q'
  | cont => exact q'
  | ret u => exact q'⟩
end
def rIsE (K : PySem.W.Frag) (a C : Addr) : List V -> Hp -> VK -> Prop := fun xs H Q => kcIn K C = true /\ ∃ b, ((∃ D, xs = [.ref a, .ref D] /\ PySem.W.kitOne K (.ref C) (.ref D) = some b) \/ (∃ n, xs = [.ref a, .ty n] /\ PySem.W.kitOne K (.ref C) (.type n) = some b)) /\ Q (.bl b) H
theorem Zq32 {X : Cx} {a C : Addr} {o : Obj} (hc : o.cls = .ref C) : QC (X.hnd a o) (.builtin "isinstance") (rIsE X.K a C) := ⟨by
  intro pins s σ H xs us Q I r h
  obtain ⟨kc, b, hv, q⟩ := h
  have hp := I.pin (a, o) (List.mem_append_left _ (by simp))
  have hA : ExA s.heap a o C := ⟨hp.1, hc⟩
  have fin : ∀ tk, EP (X.hnd a o) pins σ Q (.bool b) { s with toks := tk } := fun tk => ⟨.bl b, H, I.tok tk, rfl, q⟩
  rcases hv with ⟨D, rfl, e⟩ | ⟨n, rfl, e⟩
  · cases r with
    | cons r1 r => cases r with
      | cons r2 r =>
        cases r
        obtain rfl := r1
        obtain rfl := r2
        exact PySem.W.kia_one (kitx_exc kc) I.kIn hA e (by intro z; cases z) fin
  · cases r with
    | cons r1 r => cases r with
      | cons r2 r =>
        cases r
        obtain rfl := r1
        obtain rfl := r2
        exact PySem.W.kia_one (kitx_exc kc) I.kIn hA e (by intro z; cases z) fin⟩
section
variable {P : Program} {w : World} {K : PySem.W.Frag} {mg : Str -> Option Value} {base : Heap}
theorem Fun.ok0 {x qual : Str} {st : Stmt} {f : Addr} {fd : FuncData} {N ps : List Str} {k : Nat} {sp : Sp} (F : Fun K x qual st f fd) (S : FnScope N ps (Zq1 st)) (len : ∀ vs H Q E, sp vs H Q E -> vs.length = ps.length)
    (hbody : ∀ (cdv : Value) (A : Around) (outer : List Env) (s : Shared) (H : Hp) (vs : List V) (Q : VK) (E : XK), Room k (A.deeper (envOfC qual (Zq1 st) s.heap.objs.size f cdv)) -> sp vs H Q E ->
      ∃ t, QSs0 (cxOf CX0 P w K mg base N qual (Zq1 st) f cdv A outer s H E).nox (Zq47 st) t /\ t { nx := fun _ H' => Q .non H', rt := Q } (start N vs) H) : FnOk P w K mg base CX0 (k + 1) f fd ps sp := by
  obtain ⟨oc, od, kV, doc, pm, an, cdv, ct, osl, rfl, lk, hcd⟩ := F.ex
  refine ⟨len, fun A outer s H args us vs Q E hr e0 hb r hsp => ?_⟩
  have hl := len _ _ _ _ hsp
  have KX : K.In s.heap := e0.mod.kin.keeps fun b o e => (e0.bs b o e).1
  have lim : s.heap.NoLimit := e0.mod.nolimit.keeps fun b o e => (e0.bs b o e).1
  have hkind : ∀ y ∈ ps.zip us, (Zq1 st).names.lookup y.1 = some .local \/ ((Zq1 st).names.lookup y.1 = some .cell /\ ((cellsFrom (s.heap.objs.size + 1) (Zq1 st).names []).lookup y.1).isSome = true) := fun ⟨n, v⟩ hy => by
    rcases S.par n (List.of_mem_zip hy).1 with q | q
    · exact .inl q
    · exact .inr ⟨q, PySem.W.cellsFrom_some _ _ _ (.inl q)⟩
  refine codeAny_call_function hr.depth (KX _ _ lk) rfl S.co S.gen rfl (PySem.W.codeRec_of KX hcd) (hb _ _ _ _ ?_)
  refine wpAny_newFunctionEnv_cells S.kind hkind fun env he s1 x => ?_
  subst he
  refine ⟨lim.keeps x.toInCall.keep, codeAny_func ?_⟩
  obtain ⟨t, ht, hq⟩ := hbody cdv A outer s H vs Q E (hr.deeper _) hsp
  have I0 : Inv (cxOf CX0 P w K mg base N qual (Zq1 st) f cdv A outer s H E) [] (start N vs) H s1 := inv_start S hr.hd e0 hl r x
  have I : Inv (cxOf CX0 P w K mg base N qual (Zq1 st) f cdv A outer s H E).nox [] (start N vs) H s1 := ⟨⟨I0.ok.mod, I0.ok.kind, I0.ok.glob, I0.ok.blt, I0.ok.above, I0.ok.inj, I0.ok.has, I0.ok.cab, I0.ok.hd, I0.ok.frames, I0.ok.stk, I0.ok.exf, I0.ok.bs, I0.ok.bsz, I0.ok.noex, I0.ok.exfs, I0.ok.funs, I0.ok.frf⟩, I0.os, I0.bare, I0.base, I0.loc, I0.cell, I0.free, I0.freeC, I0.pin, I0.hok, I0.len⟩
  refine wpAny_mono (ht.h s1 (start N vs) H _ I hq) (fun fl s' hs => ?_) fun e s' hs => hs.elim
  have fin : ∀ {σ' : St} {H' : Hp} {v : V} {u : Value}, Inv (cxOf CX0 P w K mg base N qual (Zq1 st) f cdv A outer s H E).nox [] σ' H' s' -> RelV v u -> Q v H' -> CE outer P w H s Q u s' :=
    fun {σ' H' v u} J rv q => ⟨v, H', J.os, J.bare, J.base, J.hok, rv, q⟩
  cases fl with
  | ret u =>
    obtain ⟨v, σ', H', J, rv, q⟩ := hs
    exact fin J rv q
  | next =>
    obtain ⟨σ', H', J, q⟩ := hs
    exact fin (v := V.non) (u := Value.none) J rfl q
  | brk => obtain ⟨_, _, _, z⟩ := hs; exact z.elim
  | cont => obtain ⟨_, _, _, z⟩ := hs; exact z.elim
theorem Has.fn0 {x : Str} {st : Stmt} {N ps : List Str} {k : Nat} {sp : Sp} (h : Has K mg x st) (S : FnScope N ps (Zq1 st))
    (hb : ∀ (kV doc pm : Value) (an : Option Addr) (cdv ct : Value) (us : List Value), us.length = ps.length -> bindArgs (PySem.W.fnOf x x (Zq112 st) (Zq47 st) (Zq1 st) .none kV doc pm an cdv ct) ⟨us, []⟩ = pure (ps.zip us))
    (len : ∀ vs H Q E, sp vs H Q E -> vs.length = ps.length)
    (hbody : ∀ (f : Addr) (cdv : Value) (A : Around) (outer : List Env) (s : Shared) (H : Hp) (vs : List V) (Q : VK) (E : XK), Room k (A.deeper (envOfC x (Zq1 st) s.heap.objs.size f cdv)) -> sp vs H Q E ->
      ∃ t, QSs0 (cxOf CX0 P w K mg base N x (Zq1 st) f cdv A outer s H E).nox (Zq47 st) t /\ t { nx := fun _ H' => Q .non H', rt := Q } (start N vs) H) : Fn P w K mg base x ps (k + 1) sp := by
  obtain ⟨f, fd, F, hm⟩ := h
  exact ⟨f, fd, hm, F.kp, F.binds hb, F.ok0 S len (hbody f)⟩
end
theorem pl_def {CX : CXT} {P : Program} {w : World} {K : PySem.W.Frag} {mg : Str -> Option Value} {base : Heap} {N : List Str} {qual : Str} {scope : Scope} {f : Addr} {cd : Value} {A : Around} {outer : List Env} {s : Shared} {H : Hp} {E : XK} :
    Pl (cxOf CX P w K mg base N qual scope f cd A outer s H E).nox := ⟨rfl, rfl, rfl, rfl⟩
structure Er (K : PySem.W.Frag) (mg : Str -> Option Value) (c : Str -> Addr) (errs : List Str) : Prop where
  g : ∀ x, x ∈ errs -> mg x = some (.ref (c x))
  x : ∀ x, x ∈ errs -> xcIn K (c x) = true
  k : ∀ x, x ∈ errs -> kcIn K (c x) = true
  m : mg "MootError" = some (.ref (c "MootError"))
  e : ∀ x, x ∈ errs -> exIn K (c x) (c "MootError") = some true
  s : ∀ x, x ∈ errs -> ∀ y, y ∈ errs -> exIn K (c x) (c y) = some (decide (x = y))
  i : ∀ x, x ∈ errs -> ∀ y, y ∈ errs -> PySem.W.kitOne K (.ref (c x)) (.ref (c y)) = some (decide (x = y))
  v : ∀ x, x ∈ errs -> PySem.W.kitOne K (.ref (c x)) (.type "ValueError") = some true
end L2
end
section
set_option Elab.async false
set_option linter.all false
set_option maxRecDepth 100000
set_option maxHeartbeats 4000000
namespace L2
open PySem PySem.Spec PyProof.Rows
section
variable {X : Cx}
def rNeBls (K : PySem.W.Frag) : R2 := fun x y H Q => ∃ (a b : Addr) (is : List Bool), x = .ref a /\ y = .ref b /\ SqL K H a (is.map V.bl) /\ SqL K H b (is.map V.bl) /\ Q (.bl false) H
theorem bls_at : ∀ {is : List Bool} {its : List Value}, Vals (is.map V.bl) its -> its = is.map Value.bool
  | [], _, .nil => rfl
  | i :: is, _, .cons r rr => by
    have h := bls_at rr
    obtain rfl := r
    rw [h]; rfl
theorem op_neBls (hu : X.A.units < cLine) : OpR X (compareOp .NotEq) (rNeBls X.K) := by
  intro pins s σ H x y v u Q I rx ry ⟨a, b, is, ex, ey, ha, hb, q⟩
  subst ex ey
  obtain rfl : v = Value.ref a := rx
  obtain rfl : u = Value.ref b := ry
  obtain ⟨i1, r1, p1, _⟩ := I.list ha
  obtain ⟨i2, r2, p2, _⟩ := I.list hb
  obtain rfl := bls_at r1
  obtain rfl := bls_at r2
  have h := SeqAt.RcNeAt.lists (A := X.A) (e := fun _ => true) p1.isList p2.isList rfl hu (fun j h1 h2 => by
    show SeqAt.EqAt _ _ _ _ true
    have hj : j < is.length := by simpa using h1
    have f1 : (is.map Value.bool).toArray[j] = .bool is[j] := by simp
    rw [f1]
    rw [← beq_self_eq_true is[j]]
    exact SeqAt.EqAt.bool_bool _ _)
  rw [show (!(List.range (is.map Value.bool).toArray.size).all fun _ => true) = false by simp] at h
  exact h X.prog X.w _ _ ⟨.bl false, H, I, rfl, q⟩
theorem qop_neBls {k : Nat} (hr : Room k X.A) : QOp X (compareOp .NotEq) (rNeBls X.K) := ⟨op_neBls hr.units0⟩
end
end L2
end
section
set_option Elab.async false
set_option linter.all false
set_option maxRecDepth 100000
set_option maxHeartbeats 4000000
namespace L2
open PySem PySem.Spec PyProof.Rows
def erB (K : PySem.W.Frag) (c : Str -> Addr) (errs : List Str) : Bool :=
  decide (PySem.W.nsIn K mainGlobals "MootError" = some (some (.ref (c "MootError")))) && errs.all fun x => decide (PySem.W.nsIn K mainGlobals x = some (some (.ref (c x)))) && xcIn K (c x) && kcIn K (c x) && decide (exIn K (c x) (c "MootError") = some true) && decide (PySem.W.kitOne K (.ref (c x)) (.type "ValueError") = some true) &&
    errs.all fun y => decide (exIn K (c x) (c y) = some (decide (x = y))) && decide (PySem.W.kitOne K (.ref (c x)) (.ref (c y)) = some (decide (x = y)))
theorem er_mk {K : PySem.W.Frag} {h : Heap} {mg : Str -> Option Value} {c : Str -> Addr} {errs : List Str} (X : K.In h) (G : h.Ns mainGlobals mg) (e : erB K c errs = true) : Er K mg c errs := by
  unfold erB at e
  rw [Bool.and_eq_true, List.all_eq_true] at e
  obtain ⟨e0, e⟩ := e
  have e1 : ∀ x, x ∈ errs -> (((((PySem.W.nsIn K mainGlobals x = some (some (.ref (c x))) /\ xcIn K (c x) = true) /\ kcIn K (c x) = true) /\ exIn K (c x) (c "MootError") = some true) /\ PySem.W.kitOne K (.ref (c x)) (.type "ValueError") = some true) /\ ∀ y, y ∈ errs -> exIn K (c x) (c y) = some (decide (x = y)) /\ PySem.W.kitOne K (.ref (c x)) (.ref (c y)) = some (decide (x = y))) := fun x hx => by
    have := e x hx
    simp only [Bool.and_eq_true, decide_eq_true_eq, List.all_eq_true] at this
    exact this
  exact ⟨fun x hx => PySem.W.mg_of X G (e1 x hx).1.1.1.1.1, fun x hx => (e1 x hx).1.1.1.1.2, fun x hx => (e1 x hx).1.1.1.2, PySem.W.mg_of X G (of_decide_eq_true e0), fun x hx => (e1 x hx).1.1.2, fun x hx y hy => ((e1 x hx).2 y hy).1, fun x hx y hy => ((e1 x hx).2 y hy).2, fun x hx => (e1 x hx).1.2⟩
end L2
end
set_option Elab.async false
set_option linter.all false
set_option maxRecDepth 100000
set_option maxHeartbeats 4000000
namespace Law
open PySem L2
local macro_rules | `(tactic| walk_at "hp") => `(tactic| first | exact Zq7 | assumption | (rw [Zq6 (by first | assumption | (apply Ne.symm; assumption))]; walk_at "hp"))
local macro_rules | `(tactic| walk_at "sq") => `(tactic| first | assumption | exact SqL.of (by walk_at "hp"))
local macro_rules | `(tactic| walk_at "dc") => `(tactic| first | decide | assumption | lia)
local macro_rules | `(tactic| walk_at "rd1") => `(tactic| first | refine iteT ?_ | refine iteF ?_ | refine iteD (fun _ => ?_) (fun _ => ?_) | refine Zq99 (fun _ => ?_) (fun _ => ?_) | refine iteB (fun _ => ?_) (fun _ => ?_) | refine ⟨_, rfl, ?_⟩ | refine ⟨_, _, rfl, rfl, ?_⟩ | refine ⟨(.inr ⟨by decide, by decide⟩ : CMul _ _), ?_⟩ | refine ⟨(⟨by walk_at "dc", by walk_at "dc"⟩ : CDiv _ _), ?_⟩ | refine ⟨(⟨by decide, by decide, by decide⟩ : CPow _ _), ?_⟩ | refine ⟨(show (0 : Int) < _ by walk_at "dc"), ?_⟩ | refine ⟨_, _, _, _, rfl, rfl, (by walk_at "sq"), (by rfl), ?_⟩ | refine ⟨_, _, _, _, rfl, rfl, (by walk_at "sq"), at_ints (by lia) (by lia), ?_⟩ | refine ⟨_, _, _, _, rfl, rfl, (by walk_at "hp"), (by rfl), ?_⟩ | refine ⟨_, _, rfl, .inl (by walk_at "sq"), ?_⟩ | fail "rd")
local macro_rules | `(tactic| walk_at "rd") => `(tactic| repeat' walk_at "rd1")
def top (i : Nat) : Stmt := PySem.Challenge.pw_forsworn_k23_folk_refused.main.body.getD i (.Pass ⟨0, 0, 0, 0⟩)
structure Txt (mg : Str -> Option Value) : Prop where
  len : mg "len" = none
  list : mg "list" = none
  range : mg "range" = none
  isinstance : mg "isinstance" = none
  bool : mg "bool" = none
  int : mg "int" = none
  str : mg "str" = none
  tuple : mg "tuple" = none
  zip : mg "zip" = none
  min : mg "min" = none
  max : mg "max" = none
  all : mg "all" = none
  ValueError : mg "ValueError" = none
section
variable {P : Program} {w : World} {K : PySem.W.Frag} {mg : Str -> Option Value} {base : Heap}
def isInt : D -> Bool
  | .int _ => true
  | _ => false
def spWhole : Sp := fun vs H Q _ => ∃ (v : V) (d : D), vs = [v] /\ Rep H d v /\ Q (.bl (isInt d)) H
abbrev Zq133 : Stmt := top 25
theorem Zq289 : FnScope ["_law_found"] ["_law_found"] (Zq1 Zq133) := ⟨rfl, rfl, rfl, by decide +kernel, rfl, by decide +kernel, by decide +kernel⟩
theorem Nq109 : Nm (Zq1 Zq133) "_law_found" .local := by decide +kernel
theorem Nq181 : Nm (Zq1 Zq133) "bool" .globalImplicit := by decide +kernel
theorem Nq182 : Nm (Zq1 Zq133) "int" .globalImplicit := by decide +kernel
theorem Nq110 : Nm (Zq1 Zq133) "isinstance" .globalImplicit := by decide +kernel
theorem Zq301 (Zq228 : Has K mg "_law_whole" Zq133) (T : Txt mg) : Fn P w K mg base "_law_whole" ["_law_found"] 1 spWhole := by
  refine Zq228.fnQ Zq289 (fun _ _ _ _ _ _ us hl => match us, hl with | [_], _ => rfl) (fun vs H Q E h => ?_) (fun f cdv A outer s H vs Q E hr h => ?_)
  · obtain ⟨v, d, rfl, _⟩ := h
    rfl
  · obtain ⟨v, d, rfl, r, k⟩ := h
    refine ⟨_, (Zq5 (Zq11 (Zq215 (Zq18 Zq59 Nq110 T.isinstance Zq22 (Zq0 (qvN 0 Nq109) (Zq0 (Zq93 (v := .ty "int") Nq182 T.int b_int rfl) Zq2))) (Zq214 (qe_not (Zq18 Zq59 Nq110 T.isinstance Zq22 (Zq0 (qvN 0 Nq109) (Zq0 (Zq93 (v := .ty "bool") Nq181 T.bool b_bool rfl) Zq2)))))))), ?_⟩
    obtain ⟨t1, ty1, e1⟩ := isi (K := K) r "int" (by decide)
    obtain ⟨t2, ty2, e2⟩ := isi (K := K) r "bool" (by decide)
    refine ⟨_, rfl, v, "int", t1, _, rfl, ty1, e1, _, rfl, iteB (fun h1 => ?_) (fun h1 => ?_)⟩
    · refine ⟨_, rfl, v, "bool", t2, _, rfl, ty2, e2, _, rfl, ?_⟩
      have e : (!isI d "bool") = isInt d := by cases d <;> first | rfl | (simp [isI] at h1)
      rw [e]
      exact k
    · have e : false = isInt d := by cases d <;> first | rfl | (simp [isI] at h1)
      rw [e]
      exact k
def spSame (n : Nat) : Sp := fun vs H Q _ => ∃ (v1 v2 : V) (d1 d2 : D), vs = [v1, v2] /\ Rep H d1 v1 /\ Rep H d2 v2 /\ d2.deep <= n /\ ∀ H', Same H H' -> Q (.bl (Zq77 d1 d2)) H'
abbrev Zq37 : Stmt := top 26
theorem Zq229 : FnScope ["_law_found", "_law_due", "_law_one", "_law_other"] ["_law_found", "_law_due"] (Zq1 Zq37) := ⟨rfl, rfl, rfl, by decide +kernel, rfl, by decide +kernel, by decide +kernel⟩
theorem Nq10 : Nm (Zq1 Zq37) "_law_due" .local := by decide +kernel
theorem Nq11 : Nm (Zq1 Zq37) "_law_found" .local := by decide +kernel
theorem Nq111 : Nm (Zq1 Zq37) "_law_one" .local := by decide +kernel
theorem Nq112 : Nm (Zq1 Zq37) "_law_other" .local := by decide +kernel
theorem Nq183 : Nm (Zq1 Zq37) "_law_same" .globalImplicit := by decide +kernel
theorem Nq184 : Nm (Zq1 Zq37) "_law_whole" .globalImplicit := by decide +kernel
theorem Nq113 : Nm (Zq1 Zq37) "bool" .globalImplicit := by decide +kernel
theorem Nq185 : Nm (Zq1 Zq37) "int" .globalImplicit := by decide +kernel
theorem Nq13 : Nm (Zq1 Zq37) "isinstance" .globalImplicit := by decide +kernel
theorem Nq114 : Nm (Zq1 Zq37) "len" .globalImplicit := by decide +kernel
theorem Nq115 : Nm (Zq1 Zq37) "list" .globalImplicit := by decide +kernel
theorem Nq116 : Nm (Zq1 Zq37) "str" .globalImplicit := by decide +kernel
theorem Nq117 : Nm (Zq1 Zq37) "tuple" .globalImplicit := by decide +kernel
theorem Nq186 : Nm (Zq1 Zq37) "zip" .globalImplicit := by decide +kernel
theorem same_step {n k : Nat} (Zq79 : Has K mg "_law_same" Zq37) (T : Txt mg) (Zq160 : Fn P w K mg base "_law_whole" ["_law_found"] 1 spWhole)
    (Zq181 : Fn P w K mg base "_law_same" ["_law_found", "_law_due"] (k + 1) (fun vs H Q E => 0 < n /\ spSame (n - 1) vs H Q E)) : Fn P w K mg base "_law_same" ["_law_found", "_law_due"] (k + 2) (spSame n) := by
  refine Zq79.fnQ Zq229 (fun _ _ _ _ _ _ us hl => match us, hl with | [_, _], _ => rfl) (fun vs H Q E h => ?_) (fun f cdv A outer s H vs Q E hr h => ?_)
  · obtain ⟨v1, v2, d1, d2, rfl, _⟩ := h
    rfl
  · obtain ⟨v1, v2, d1, d2, rfl, r1, r2, hn, q⟩ := h
    have hk : 1 <= k + 1 := Nat.le_add_left _ _
    refine ⟨_, (Zq3 (Zq19 (Zq8 qop_isN (qvN 1 Nq10) Zq119 (Zq12 _)) (Zq5 (Zq11 (Zq136 qop_isN (qvN 0 Nq11) Zq119 (Zq12 _)))) Zq10)
 (Zq3 (Zq19 (Zq126 (Zq18 Zq59 Nq13 T.isinstance Zq22 (Zq0 (qvN 1 Nq10) (Zq0 (Zq93 (v := .ty "bool") Nq113 T.bool b_bool rfl) Zq2)))) (Zq5 (Zq11 (Zq215 (Zq18 Zq59 Nq13 T.isinstance Zq22 (Zq0 (qvN 0 Nq11) (Zq0 (Zq93 (v := .ty "bool") Nq113 T.bool b_bool rfl) Zq2))) (Zq214 (Zq136 Zq30 (qvN 0 Nq11) (qvN 1 Nq10) (Zq12 _)))))) Zq10)
 (Zq3 (Zq19 (Zq126 (Zq18 Zq59 Nq13 T.isinstance Zq22 (Zq0 (qvN 1 Nq10) (Zq0 (Zq93 (v := .ty "int") Nq185 T.int b_int rfl) Zq2)))) (Zq5 (Zq11 (Zq215 (Zq17 Zq160 (hr.mono (by lia)) Nq184 (Zq0 (qvN 0 Nq11) Zq2)) (Zq214 (Zq136 Zq30 (qvN 0 Nq11) (qvN 1 Nq10) (Zq12 _)))))) Zq10)
 (Zq3 (Zq19 (Zq126 (Zq18 Zq59 Nq13 T.isinstance Zq22 (Zq0 (qvN 1 Nq10) (Zq0 (Zq93 (v := .ty "str") Nq116 T.str b_str rfl) Zq2)))) (Zq5 (Zq11 (Zq215 (Zq18 Zq59 Nq13 T.isinstance Zq22 (Zq0 (qvN 0 Nq11) (Zq0 (Zq93 (v := .ty "str") Nq116 T.str b_str rfl) Zq2))) (Zq214 (Zq136 Zq30 (qvN 0 Nq11) (qvN 1 Nq10) (Zq12 _)))))) Zq10)
 (Zq3 (Zq19 (QW.pt (Zq237 (Zq8 qop_ne (Zq18 Zq59 Nq13 T.isinstance Zq22 (Zq0 (qvN 1 Nq10) (Zq0 (Zq93 (v := .ty "list") Nq115 T.list b_list rfl) Zq2))) (Zq18 Zq59 Nq13 T.isinstance Zq22 (Zq0 (qvN 0 Nq11) (Zq0 (Zq93 (v := .ty "list") Nq115 T.list b_list rfl) Zq2))) (Zq12 _)) (Zq213 (Zq8 qop_ne (Zq18 Zq59 Nq13 T.isinstance Zq22 (Zq0 (qvN 1 Nq10) (Zq0 (Zq93 (v := .ty "tuple") Nq117 T.tuple b_tuple rfl) Zq2))) (Zq18 Zq59 Nq13 T.isinstance Zq22 (Zq0 (qvN 0 Nq11) (Zq0 (Zq93 (v := .ty "tuple") Nq117 T.tuple b_tuple rfl) Zq2))) (Zq12 _))))) (Zq5 (Zq11 Zq169)) Zq10)
 (Zq3 (Zq19 (Zq8 qop_ne (Zq18 Zq87 Nq114 T.len Zq143 (Zq0 (qvN 0 Nq11) Zq2)) (Zq18 Zq87 Nq114 T.len Zq143 (Zq0 (qvN 1 Nq10) Zq2)) (Zq12 _)) (Zq5 (Zq11 Zq169)) Zq10)
 (Zq3 (Zq178 PassesOwn.never rfl (qi_zip Nq186.1 T.zip (Zq0 (qvN 0 Nq11) (Zq0 (qvN 1 Nq10) Zq2))) (qg_tup (by rfl) (Zq300 (Zq118 (i := 2) Zq229.nd Nq111) (Zq300 (Zq118 (i := 3) Zq229.nd Nq112) qgs_nil)))
  (Zq5 (Zq19 (Zq145 (Zq126 (Zq17 Zq181 (hr.mono (by lia)) Nq183 (Zq0 (qvN 2 Nq111) (Zq0 (qvN 3 Nq112) Zq2))))) (Zq5 (Zq11 Zq169)) Zq10)))
 (Zq5 (Zq11 Zq169))))))))), ?_⟩
    have q0 : Q (.bl (Zq77 d1 d2)) H := q H (Same.refl _)
    obtain ⟨tb2, yb2, eb2⟩ := isi (K := K) r2 "bool" (by decide)
    obtain ⟨ti2, yi2, ei2⟩ := isi (K := K) r2 "int" (by decide)
    obtain ⟨ts2, ys2, es2⟩ := isi (K := K) r2 "str" (by decide)
    obtain ⟨tl2, yl2, el2⟩ := isi (K := K) r2 "list" (by decide)
    obtain ⟨tt2, yt2, et2⟩ := isi (K := K) r2 "tuple" (by decide)
    obtain ⟨tb1, yb1, eb1⟩ := isi (K := K) r1 "bool" (by decide)
    obtain ⟨ts1, ys1, es1⟩ := isi (K := K) r1 "str" (by decide)
    obtain ⟨tl1, yl1, el1⟩ := isi (K := K) r1 "list" (by decide)
    obtain ⟨tt1, yt1, et1⟩ := isi (K := K) r1 "tuple" (by decide)
    refine ⟨_, rfl, rfl, _, rfl, ?_⟩
    rw [r2.none_iff]
    cases d2 with
    | non =>
      refine iteT ⟨_, rfl, rfl, ?_⟩
      rw [r1.none_iff]
      cases d1 <;> exact q0
    | bl b2 =>
      refine iteF ?_
      refine ⟨_, rfl, v2, "bool", tb2, _, rfl, yb2, eb2, _, rfl, iteT ?_⟩
      refine ⟨_, rfl, v1, "bool", tb1, _, rfl, yb1, eb1, _, rfl, ?_⟩
      cases r2
      cases d1 with
      | bl b1 =>
        cases r1
        refine iteT ⟨_, rfl, _, rfl, rfl, ?_⟩
        rw [dec_bl]
        exact q0
      | non => exact iteF q0
      | int _ => exact iteF q0
      | str _ => exact iteF q0
      | tup _ => exact iteF q0
      | lst _ => exact iteF q0
    | int i2 =>
      refine iteF ?_
      refine ⟨_, rfl, v2, "bool", tb2, _, rfl, yb2, eb2, _, rfl, iteF ?_⟩
      refine ⟨_, rfl, v2, "int", ti2, _, rfl, yi2, ei2, _, rfl, iteT ?_⟩
      refine ⟨_, rfl, v1, d1, rfl, r1, _, rfl, ?_⟩
      cases r2
      cases d1 with
      | int i1 =>
        cases r1
        refine iteT ⟨_, rfl, _, rfl, rfl, ?_⟩
        rw [dec_int]
        exact q0
      | non => exact iteF q0
      | bl _ => exact iteF q0
      | str _ => exact iteF q0
      | tup _ => exact iteF q0
      | lst _ => exact iteF q0
    | str x2 =>
      refine iteF ?_
      refine ⟨_, rfl, v2, "bool", tb2, _, rfl, yb2, eb2, _, rfl, iteF ?_⟩
      refine ⟨_, rfl, v2, "int", ti2, _, rfl, yi2, ei2, _, rfl, iteF ?_⟩
      refine ⟨_, rfl, v2, "str", ts2, _, rfl, ys2, es2, _, rfl, iteT ?_⟩
      refine ⟨_, rfl, v1, "str", ts1, _, rfl, ys1, es1, _, rfl, ?_⟩
      cases r2
      cases d1 with
      | str x1 =>
        cases r1
        refine iteT ⟨_, rfl, _, rfl, rfl, ?_⟩
        rw [dec_str]
        exact q0
      | non => exact iteF q0
      | bl _ => exact iteF q0
      | int _ => exact iteF q0
      | tup _ => exact iteF q0
      | lst _ => exact iteF q0
    | lst ds2 =>
      refine iteF ?_
      refine ⟨_, rfl, v2, "bool", tb2, _, rfl, yb2, eb2, _, rfl, iteF ?_⟩
      refine ⟨_, rfl, v2, "int", ti2, _, rfl, yi2, ei2, _, rfl, iteF ?_⟩
      refine ⟨_, rfl, v2, "str", ts2, _, rfl, ys2, es2, _, rfl, iteF ?_⟩
      refine ⟨_, rfl, v2, "list", tl2, _, rfl, yl2, el2, _, rfl, v1, "list", tl1, _, rfl, yl1, el1, rfl, _, rfl, ?_⟩
      have ne1 : ∀ {A B : Prop}, B -> if (!decide (V.bl true = V.bl true)) = true then A else B := fun h => Zq99 (fun z => absurd rfl z) fun _ => h
      have ne2 : ∀ {A B : Prop}, B -> if (!decide (V.bl false = V.bl false)) = true then A else B := fun h => Zq99 (fun z => absurd rfl z) fun _ => h
      have nt1 : ∀ {A B : Prop}, A -> if (!decide (V.bl true = V.bl false)) = true then A else B := fun h => Zq99 (fun _ => h) fun z => by cases z
      have nt2 : ∀ {A B : Prop}, A -> if (!decide (V.bl false = V.bl true)) = true then A else B := fun h => Zq99 (fun _ => h) fun z => by cases z
      have two : ∀ {R : Prop}, R -> R := id
      cases d1 with
      | lst ds1 =>
        refine ne1 ?_
        refine ⟨_, rfl, v2, "tuple", tt2, _, rfl, yt2, et2, _, rfl, v1, "tuple", tt1, _, rfl, yt1, et1, rfl, _, rfl, ?_⟩
        refine ne2 ?_
        obtain ⟨a1, vs1, rfl, g1, p1⟩ := r1
        obtain ⟨a2, vs2, rfl, g2, p2⟩ := r2
        refine ⟨_, rfl, a1, vs1, rfl, .inl (SqL.of g1), _, rfl, a2, vs2, rfl, .inl (SqL.of g2), rfl, _, rfl, Zq99 (fun hne => ?_) (fun heq => ?_)⟩
        · have : ds1.length ≠ ds2.length := fun z => hne (by rw [p1.length, p2.length, z])
          have e : Zq77 (.lst ds1) (.lst ds2) = false := by rw [Zq77]; exact sameL_false_len this
          rw [e] at q0
          exact q0
        · have hl : vs1.length = vs2.length := by injection heq with z; lia
          have hl1 := p1.length
          have hl2 := p2.length
          refine ⟨_, rfl, _, rfl, a1, a2, rfl, .inl ⟨vs1, vs2, SqL.of g1, SqL.of g2, ?_⟩⟩
          refine forW_zip vs1 vs2 hl (fun i σ H' => Same H H' /\ ∃ w3 w4, σ = [some (.ref a1), some (.ref a2), w3, w4] /\ Zq127 (ds1.take i) (ds2.take i) = true) ⟨Same.refl _, none, none, rfl, rfl⟩ (fun i σ H' _ ⟨sm, _⟩ => ⟨SqL.of (sm _ _ g1), SqL.of (sm _ _ g2)⟩) ?_ ?_
          · rintro i x y p σ H' hx hy ⟨sm, w3, w4, rfl, hs⟩ hp
            obtain ⟨dx, ex, rx⟩ := p1.get hx
            obtain ⟨dy, ey, ry⟩ := p2.get hy
            have sm' := sm.trans (Same.new (o := .tup [x, y]) hp)
            have dd := deep_get ey
            have hn' : Zq193 ds2 + 1 <= n := hn
            refine ⟨p, _, rfl, SqT.of Zq7, rfl, x, [y], rfl, y, [], rfl, rfl, ?_⟩
            refine ⟨_, rfl, _, rfl, by lia, x, y, dx, dy, rfl, rx.mono' sm', ry.mono' sm', by lia, fun H2 sm2 => ⟨_, rfl, iteNB (fun hf => ?_) (fun ht => ?_)⟩⟩
            · have e : Zq77 (.lst ds1) (.lst ds2) = false := by rw [Zq77]; exact sameL_false_at ex ey hf
              have qq := q H2 (sm'.trans sm2)
              rw [e] at qq
              exact qq
            · exact ⟨sm'.trans sm2, _, _, rfl, by rw [sameL_take ex ey, hs, ht]; rfl⟩
          · rintro σ H' ⟨sm, w3, w4, rfl, hs⟩
            have e : Zq77 (.lst ds1) (.lst ds2) = true := by
              rw [Zq77]
              rw [List.take_of_length_le (by lia), List.take_of_length_le (by lia)] at hs
              exact hs
            have qq := q H' sm
            rw [e] at qq
            exact qq
      | tup _ => exact nt1 (iteT q0)
      | non => exact nt1 (iteT q0)
      | bl _ => exact nt1 (iteT q0)
      | int _ => exact nt1 (iteT q0)
      | str _ => exact nt1 (iteT q0)
    | tup ds2 =>
      refine iteF ?_
      refine ⟨_, rfl, v2, "bool", tb2, _, rfl, yb2, eb2, _, rfl, iteF ?_⟩
      refine ⟨_, rfl, v2, "int", ti2, _, rfl, yi2, ei2, _, rfl, iteF ?_⟩
      refine ⟨_, rfl, v2, "str", ts2, _, rfl, ys2, es2, _, rfl, iteF ?_⟩
      refine ⟨_, rfl, v2, "list", tl2, _, rfl, yl2, el2, _, rfl, v1, "list", tl1, _, rfl, yl1, el1, rfl, _, rfl, ?_⟩
      have ne1 : ∀ {A B : Prop}, B -> if (!decide (V.bl true = V.bl true)) = true then A else B := fun h => Zq99 (fun z => absurd rfl z) fun _ => h
      have ne2 : ∀ {A B : Prop}, B -> if (!decide (V.bl false = V.bl false)) = true then A else B := fun h => Zq99 (fun z => absurd rfl z) fun _ => h
      have nt1 : ∀ {A B : Prop}, A -> if (!decide (V.bl true = V.bl false)) = true then A else B := fun h => Zq99 (fun _ => h) fun z => by cases z
      have nt2 : ∀ {A B : Prop}, A -> if (!decide (V.bl false = V.bl true)) = true then A else B := fun h => Zq99 (fun _ => h) fun z => by cases z
      have two : ∀ {R : Prop}, R -> R := id
      cases d1 with
      | tup ds1 =>
        refine ne2 ?_
        refine ⟨_, rfl, v2, "tuple", tt2, _, rfl, yt2, et2, _, rfl, v1, "tuple", tt1, _, rfl, yt1, et1, rfl, _, rfl, ?_⟩
        refine ne1 ?_
        obtain ⟨a1, vs1, rfl, g1, p1⟩ := r1
        obtain ⟨a2, vs2, rfl, g2, p2⟩ := r2
        refine ⟨_, rfl, a1, vs1, rfl, .inr (SqT.of g1), _, rfl, a2, vs2, rfl, .inr (SqT.of g2), rfl, _, rfl, Zq99 (fun hne => ?_) (fun heq => ?_)⟩
        · have : ds1.length ≠ ds2.length := fun z => hne (by rw [p1.length, p2.length, z])
          have e : Zq77 (.tup ds1) (.tup ds2) = false := by rw [Zq77]; exact sameL_false_len this
          rw [e] at q0
          exact q0
        · have hl : vs1.length = vs2.length := by injection heq with z; lia
          have hl1 := p1.length
          have hl2 := p2.length
          refine ⟨_, rfl, _, rfl, a1, a2, rfl, .inr ⟨vs1, vs2, SqT.of g1, SqT.of g2, ?_⟩⟩
          refine forW_zip vs1 vs2 hl (fun i σ H' => Same H H' /\ ∃ w3 w4, σ = [some (.ref a1), some (.ref a2), w3, w4] /\ Zq127 (ds1.take i) (ds2.take i) = true) ⟨Same.refl _, none, none, rfl, rfl⟩ (fun i σ H' _ ⟨sm, _⟩ => ⟨SqT.of (sm _ _ g1), SqT.of (sm _ _ g2)⟩) ?_ ?_
          · rintro i x y p σ H' hx hy ⟨sm, w3, w4, rfl, hs⟩ hp
            obtain ⟨dx, ex, rx⟩ := p1.get hx
            obtain ⟨dy, ey, ry⟩ := p2.get hy
            have sm' := sm.trans (Same.new (o := .tup [x, y]) hp)
            have dd := deep_get ey
            have hn' : Zq193 ds2 + 1 <= n := hn
            refine ⟨p, _, rfl, SqT.of Zq7, rfl, x, [y], rfl, y, [], rfl, rfl, ?_⟩
            refine ⟨_, rfl, _, rfl, by lia, x, y, dx, dy, rfl, rx.mono' sm', ry.mono' sm', by lia, fun H2 sm2 => ⟨_, rfl, iteNB (fun hf => ?_) (fun ht => ?_)⟩⟩
            · have e : Zq77 (.tup ds1) (.tup ds2) = false := by rw [Zq77]; exact sameL_false_at ex ey hf
              have qq := q H2 (sm'.trans sm2)
              rw [e] at qq
              exact qq
            · exact ⟨sm'.trans sm2, _, _, rfl, by rw [sameL_take ex ey, hs, ht]; rfl⟩
          · rintro σ H' ⟨sm, w3, w4, rfl, hs⟩
            have e : Zq77 (.tup ds1) (.tup ds2) = true := by
              rw [Zq77]
              rw [List.take_of_length_le (by lia), List.take_of_length_le (by lia)] at hs
              exact hs
            have qq := q H' sm
            rw [e] at qq
            exact qq
      | lst _ => exact nt2 (iteT q0)
      | non => exact ne2 ⟨_, rfl, v2, "tuple", tt2, _, rfl, yt2, et2, _, rfl, v1, "tuple", tt1, _, rfl, yt1, et1, rfl, _, rfl, nt1 q0⟩
      | bl _ => exact ne2 ⟨_, rfl, v2, "tuple", tt2, _, rfl, yt2, et2, _, rfl, v1, "tuple", tt1, _, rfl, yt1, et1, rfl, _, rfl, nt1 q0⟩
      | int _ => exact ne2 ⟨_, rfl, v2, "tuple", tt2, _, rfl, yt2, et2, _, rfl, v1, "tuple", tt1, _, rfl, yt1, et1, rfl, _, rfl, nt1 q0⟩
      | str _ => exact ne2 ⟨_, rfl, v2, "tuple", tt2, _, rfl, yt2, et2, _, rfl, v1, "tuple", tt1, _, rfl, yt1, et1, rfl, _, rfl, nt1 q0⟩
theorem same_never {k : Nat} (Zq79 : Has K mg "_law_same" Zq37) : Fn P w K mg base "_law_same" ["_law_found", "_law_due"] k (fun _ _ _ _ => False) := by
  obtain ⟨f, fd, F, hm⟩ := Zq79
  exact ⟨f, fd, hm, F.kp, F.binds fun _ _ _ _ _ _ us hl => match us, hl with | [_, _], _ => rfl, ⟨fun _ _ _ _ h => h.elim, fun _ _ _ _ _ _ _ _ _ _ _ _ _ h => h.elim⟩⟩
theorem Zq265 (Zq79 : Has K mg "_law_same" Zq37) (T : Txt mg) (Zq160 : Fn P w K mg base "_law_whole" ["_law_found"] 1 spWhole) : ∀ n : Nat, Fn P w K mg base "_law_same" ["_law_found", "_law_due"] (n + 2) (spSame n)
  | 0 => same_step (k := 0) Zq79 T Zq160 ((same_never Zq79).imp fun _ _ _ _ h => absurd h.1 (Nat.lt_irrefl _))
  | n + 1 => same_step (k := n + 1) Zq79 T Zq160 ((Zq265 Zq79 T Zq160 n).imp fun _ _ _ _ h => h.2)
end
section
variable {P : Program} {w : World} {K : PySem.W.Frag} {mg : Str -> Option Value} {base : Heap}
def spSrc (K : PySem.W.Frag) : Sp := fun vs H Q _ => ∃ (a : Addr) (ns : List Int), vs = [.ref a] /\ SqL K H a (ns.map V.int) /\ ∀ (s la : Addr) (H' : Hp), H s = none -> H la = none -> SrcAt H' s la -> Same H H' -> Q (.ref s) H'
abbrev Zq216 : Stmt := top 23
theorem Zq307 : FnScope ["_law_script"] ["_law_script"] (Zq1 Zq216) := ⟨rfl, rfl, rfl, by decide +kernel, rfl, by decide +kernel, by decide +kernel⟩
theorem Nq187 : Nm (Zq1 Zq216) "_law_script" .local := by decide +kernel
theorem Nq188 : Nm (Zq1 Zq216) "list" .globalImplicit := by decide +kernel
theorem Zq314 (Zq248 : Has K mg "_law_src" Zq216) (T : Txt mg) : Fn P w K mg base "_law_src" ["_law_script"] 1 (spSrc K) := by
  refine Zq248.fnQ Zq307 (fun _ _ _ _ _ _ us hl => match us, hl with | [_], _ => rfl) (fun vs H Q E h => ?_) (fun f cdv A outer s H vs Q E hr h => ?_)
  · obtain ⟨a, ns, rfl, _⟩ := h
    rfl
  · obtain ⟨a, ns, rfl, hS, k⟩ := h
    refine ⟨_, (Zq5 (Zq11 (Zq49 (Zq0 (qe_callTyN qcall_list_of Nq188 T.list b_list (Zq0 (qe_slice qsl_list (qvN 0 Nq187) qo_none (qo_some Zq4)) Zq2)) (Zq0 Zq4 (Zq0 Zq4 (Zq0 Zq4 (Zq0 Zq4 Zq2)))))))), ?_⟩
    refine ⟨_, rfl, _, rfl, a, _, rfl, hS, fun l hl => ?_⟩
    have hc : ∃ ms : List Int, cutV (ns.map V.int) none (some 63) = ms.map V.int := by
      unfold cutV
      rw [← List.map_drop, ← List.map_take]
      exact ⟨_, rfl⟩
    obtain ⟨ms, ec⟩ := hc
    refine ⟨l, _, rfl, .inl (SqL.of Zq7), fun l2 hl2 => ⟨by show 5 <= sizeLine; decide, fun s hs => ?_⟩⟩
    have n1 : l2 ≠ l := fun z => by rw [z, Zq7] at hl2; cases hl2
    have s1 : Same H (upd H l (.lst (cutV (ns.map V.int) none (some 63)))) := Same.new hl
    have s2 := s1.trans (Same.new (o := .lst (cutV (ns.map V.int) none (some 63))) hl2)
    have n2 : l2 ≠ s := fun z => by rw [← z, Zq7] at hs; cases hs
    refine k s l2 _ (s2.free hs) (s1.free hl2) ⟨ms, 0, 0, 1, 0, Zq7, by rw [Zq6 n2, Zq7, ec], by decide, n2⟩ (s2.trans (Same.new hs))
def Zq182 : Sp := fun vs H Q _ => ∃ (s la : Addr) (b : Int), vs = [.ref s, .int b] /\ SrcAt H s la /\ 0 < b /\ b < 1073741824 /\ ∀ (d : Int) (H' : Hp), 0 <= d -> d < b -> SrcAt H' s la -> SameX s H H' -> Q (.int d) H'
abbrev Zq128 : Stmt := top 24
theorem Zq194 : FnScope ["_law_src_here", "_law_base", "_law_cell", "_law_digit"] ["_law_src_here", "_law_base"] (Zq1 Zq128) := ⟨rfl, rfl, rfl, by decide +kernel, rfl, by decide +kernel, by decide +kernel⟩
theorem Nq80 : Nm (Zq1 Zq128) "_law_base" .local := by decide +kernel
theorem Nq38 : Nm (Zq1 Zq128) "_law_cell" .local := by decide +kernel
theorem Nq118 : Nm (Zq1 Zq128) "_law_digit" .local := by decide +kernel
theorem Nq2 : Nm (Zq1 Zq128) "_law_src_here" .local := by decide +kernel
theorem Nq189 : Nm (Zq1 Zq128) "len" .globalImplicit := by decide +kernel
theorem Zq308 (Zq242 : Has K mg "_law_next" Zq128) (T : Txt mg) : Fn P w K mg base "_law_next" ["_law_src_here", "_law_base"] 1 Zq182 := by
  refine Zq242.fnQ Zq194 (fun _ _ _ _ _ _ us hl => match us, hl with | [_, _], _ => rfl) (fun vs H Q E h => ?_) (fun f cdv A outer s H vs Q E hr h => ?_)
  · obtain ⟨s, la, b, rfl, _⟩ := h
    rfl
  · obtain ⟨s, la, b, rfl, ⟨ns, i, big, st, cnt, hs, hla, hi, hne⟩, hb0, hb1, k⟩ := h
    refine ⟨_, (Zq3 (qs_asg (Zq35 Zq122 (Zq15 Zq36 (qvN 0 Nq2) Zq4 (fun _ _ => rfl)) Zq4) (qg_sub (qvN 0 Nq2) Zq4 qset_list))
 (Zq3 (Zq19 (Zq8 Zq80 (Zq15 Zq36 (qvN 0 Nq2) Zq4 (fun _ _ => rfl)) Zq4 (Zq12 _)) (Zq3 (Zq26 (i := 2) Zq194.nd Nq38 Zq4)
 (Zq3 (Zq19 (Zq8 Zq192 (Zq15 Zq36 (qvN 0 Nq2) Zq4 (fun _ _ => rfl)) (Zq18 Zq87 Nq189 T.len Zq143 (Zq0 (Zq15 Zq36 (qvN 0 Nq2) Zq4 (fun _ _ => rfl)) Zq2)) (Zq12 _)) (Zq3 (Zq26 (i := 2) Zq194.nd Nq38 (Zq15 Zq36 (Zq15 Zq36 (qvN 0 Nq2) Zq4 (fun _ _ => rfl)) (Zq15 Zq36 (qvN 0 Nq2) Zq4 (fun _ _ => rfl)) (fun _ _ => rfl)))
 (Zq5 (qs_asg (Zq35 Zq122 (Zq15 Zq36 (qvN 0 Nq2) Zq4 (fun _ _ => rfl)) Zq4) (qg_sub (qvN 0 Nq2) Zq4 qset_list)))) Zq10)
 (Zq3 (qs_asg (Zq35 qop_mod (Zq35 Zq122 (Zq35 Zq122 (Zq35 qop_mul (Zq15 Zq36 (qvN 0 Nq2) Zq4 (fun _ _ => rfl)) Zq4) (Zq35 qop_mod (qvN 2 Nq38) Zq4)) (Zq15 Zq36 (qvN 0 Nq2) Zq4 (fun _ _ => rfl))) Zq4) (qg_sub (qvN 0 Nq2) Zq4 qset_list))
 (Zq5 (Zq19 (Zq8 qop_ge (qvN 2 Nq38) (Zq35 qop_pow Zq4 Zq4) (Zq12 _)) (Zq5 (qs_asg (qvN 2 Nq38) (qg_sub (qvN 0 Nq2) Zq4 qset_list))) Zq10))))) Zq10)
 (Zq3 (Zq19 (Zq8 qop_gt (Zq15 Zq36 (qvN 0 Nq2) Zq4 (fun _ _ => rfl)) Zq4 (Zq12 _)) (Zq3 (Zq26 (i := 3) Zq194.nd Nq118 (Zq35 qop_mod (Zq15 Zq36 (qvN 0 Nq2) Zq4 (fun _ _ => rfl)) (qvN 1 Nq80)))
 (Zq3 (qs_asg (Zq35 qop_fdiv (Zq15 Zq36 (qvN 0 Nq2) Zq4 (fun _ _ => rfl)) (qvN 1 Nq80)) (qg_sub (qvN 0 Nq2) Zq4 qset_list))
 (Zq5 (Zq11 (qvN 3 Nq118))))) Zq10)
 (Zq5 (Zq11 (Zq35 qop_mod (Zq35 qop_fdiv (Zq35 qop_mod (Zq35 qop_mul (Zq15 Zq36 (qvN 0 Nq2) Zq4 (fun _ _ => rfl)) Zq4) Zq4) Zq4) (qvN 1 Nq80))))))), ?_⟩
    have fin : ∀ (H1 : Hp) (i' big st cnt d : Int), 0 <= d -> d < b -> SameX s H H1 -> H1 s = some (.lst [.ref la, .int i', .int big, .int st, .int cnt]) -> 0 <= i' -> Q (.int d) H1 := fun H1 i' big st cnt d h0 h1 sx hs1 hi1 =>
      k d H1 h0 h1 ⟨ns, i', big, st, cnt, hs1, sx _ _ hne hla, hi1, hne⟩ sx
    walk_at "rd"
    all_goals refine fin _ _ _ _ _ _ (Int.emod_nonneg _ (by lia)) (Int.emod_lt_of_pos _ hb0) ?_ Zq7 (by lia)
    all_goals repeat (first | exact SameX.refl | refine SameX.trans ?_ SameX.upd)
end
section
variable {P : Program} {w : World} {K : PySem.W.Frag} {mg : Str -> Option Value} {base : Heap}
def spWord : Sp := fun vs H Q _ => ∃ (s la : Addr) (n : Int), vs = [.ref s, .int n] /\ SrcAt H s la /\ 0 <= n /\ n <= 100 /\ ∀ (x : Str) (H' : Hp), (x.length : Int) = n -> Low x -> SrcAt H' s la -> SameX s H H' -> Q (.str x) H'
theorem flat_singles (cl : List Nat) : (List.map cs (cl.map fun c => (⟨#[c]⟩ : Str))).flatten = cl := by
  induction cl with
  | nil => rfl
  | cons c r ih => rw [List.map_cons, List.map_cons, List.flatten_cons, ih]; rfl
abbrev Zq144 : Stmt := top 28
theorem Zq253 : FnScope ["_law_src_here", "_law_many", "_law_letters"] ["_law_src_here", "_law_many"] (Zq1 Zq144) := ⟨rfl, rfl, rfl, by decide +kernel, rfl, by decide +kernel, by decide +kernel⟩
theorem Nq119 : Nm (Zq1 Zq144) "_law_letters" .cell := by decide +kernel
theorem Nq190 : Nm (Zq1 Zq144) "_law_many" .local := by decide +kernel
theorem Nq191 : Nm (Zq1 Zq144) "_law_src_here" .cell := by decide +kernel
theorem Nq192 : Nm (Zq1 Zq144) "range" .globalImplicit := by decide +kernel
theorem Zq309 (Zq243 : Has K mg "_law_word" Zq144) (T : Txt mg) (Zq25 : Fn P w K mg base "_law_next" ["_law_src_here", "_law_base"] 1 Zq182) : Fn P w K mg base "_law_word" ["_law_src_here", "_law_many"] 2 spWord := by
  refine Zq243.fnQ Zq253 (fun _ _ _ _ _ _ us hl => match us, hl with | [_, _], _ => rfl) (fun vs H Q E h => ?_) (fun f cdv A outer s H vs Q E hr h => ?_)
  · obtain ⟨s, la, n, rfl, _⟩ := h
    rfl
  · obtain ⟨s, la, n, rfl, hsrc, hn0, hn1, k⟩ := h
    refine ⟨_, (Zq3 (qs_setNC (i := 2) Zq253.nd Nq119 Zq14)
 (Zq5 (Zq11 (qe_bm F.plainAttrs_str F.slot_str_join F.type_str_join qmt_join Zq14 (Zq0 (Zq158 (locs := ["_law_k"]) (fr := [("_law_src_here", 0), ("_law_letters", 2)]) ⟨rfl, by decide +kernel, by decide +kernel, by decide +kernel, by decide +kernel, by decide +kernel⟩ (.consN Nq191 (.consN Nq119 .nil)) rfl (qi_range1 Nq192.1 T.range (Zq0 (qvN 1 Nq190) Zq2)) ⟨fun _ _ _ _ _ _ => by
    have cnd : (inN ["_law_k"] [("_law_src_here", 0), ("_law_letters", 2)]).Nodup := by decide +kernel
    exact ⟨(qgLN 0 cnd), qts_nil, (Zq15 qix_str (qvFN 2) (Zq17 Zq25 (hr.mono (by lia)) nmC (Zq0 (qvFN 1) (Zq0 Zq4 Zq2))) (fun _ _ => rfl))⟩⟩) Zq2))))), ?_⟩
    refine ⟨rfl, _, rfl, n, rfl, by lia, by lia, ?_⟩
    refine comp_range (n := n.toNat) (fun i ys H2 => SrcAt H2 s la /\ SameX s H H2 /\ ∃ cl : List Nat, cl.length = i /\ ys = cl.map (fun c => V.str ⟨#[c]⟩) /\ ∀ c ∈ cl, 97 <= c /\ c <= 122) ⟨hsrc, SameX.refl, [], rfl, rfl, (fun _ z => nomatch z)⟩ (by lia) ?_ ?_ ?_
    · rintro i ys H2 ⟨_, _, cl, h1, rfl, _⟩
      rw [List.length_map]; lia
    · rintro i ys H2 hi ⟨hs2, sx2, cl, h1, rfl, hc⟩ ls hls
      obtain ⟨a, rfl⟩ := len1 hls
      refine ⟨⟨[_], rfl, rfl⟩, ?_⟩
      walk_at "rd"
      refine ⟨s, la, 26, rfl, hs2, by decide, by decide, fun d H3 d0 d1 hs3 sx3 => ?_⟩
      refine ⟨letters, d, _, rfl, rfl, by decide, letters_at d0 d1, hs3, sx2.trans sx3, cl ++ [97 + d.toNat], by rw [List.length_append, h1]; rfl, by rw [List.map_append]; rfl, fun c hc' => ?_⟩
      rcases List.mem_append.mp hc' with z | z
      · exact hc c z
      · have : c = 97 + d.toNat := by simpa using z
        lia
    · rintro ys H2 ⟨hs2, sx2, cl, h1, rfl, hc⟩ l hl
      have e : (cl.map fun c => V.str ⟨#[c]⟩) = (cl.map fun c => (⟨#[c]⟩ : Str)).map V.str := by rw [List.map_map]; rfl
      have sumlen : ∀ l : List Nat, ((l.map fun c => (⟨#[c]⟩ : Str)).map (·.length)).sum = l.length := by
        intro l
        induction l with
        | nil => rfl
        | cons c r ih => rw [List.map_cons, List.map_cons, List.sum_cons, ih, List.length_cons]; show 1 + r.length = _; lia
      refine ⟨_, l, cl.map fun c => (⟨#[c]⟩ : Str), rfl, rfl, SqL.of (by rw [Zq7, e]), ?_, ?_⟩
      · rw [sumlen, List.length_map]
        show cl.length + cl.length * 0 <= 16777216
        lia
      · have ej : cs (Txt.join "" (cl.map fun c => (⟨#[c]⟩ : Str))) = cl := by rw [cs_join0, flat_singles]
        refine k _ _ ?_ (fun c hc' => hc c (by rw [ej] at hc'; exact hc')) (hs2.keep (Same.new hl)) (sx2.trans (SameX.new hl))
        rw [← Zq90, ej, h1]
        lia
end
theorem ph {α : Type} [DecidableEq α] : ∀ (L M : List α), L.Nodup -> (∀ a ∈ L, a ∈ M) -> L.length <= M.length
  | [], _, _, _ => Nat.zero_le _
  | a :: L, M, nd, h => by
    obtain ⟨n1, n2⟩ := List.nodup_cons.mp nd
    have ha := h a List.mem_cons_self
    have := ph L (M.erase a) n2 fun b hb => (List.mem_erase_of_ne (fun (e : b = a) => n1 (by rw [← e]; exact hb))).mpr (h b (List.mem_cons_of_mem _ hb))
    rw [List.length_erase_of_mem ha] at this
    have hp : 0 < M.length := List.length_pos_of_mem ha
    rw [List.length_cons]
    lia
def cand (stem : Str) (j : Nat) : Str := stem ++ ⟨#[97 + j % 26]⟩ ++ ⟨#[97 + j / 26]⟩
theorem cs_cand (stem : Str) (j : Nat) : cs (cand stem j) = cs stem ++ [97 + j % 26, 97 + j / 26] := by
  unfold cand
  rw [cs_app, cs_app]
  simp [cs]
theorem cand_inj {stem : Str} {i j : Nat} (h : cand stem i = cand stem j) : i = j := by
  have e : cs (cand stem i) = cs (cand stem j) := by rw [h]
  rw [cs_cand, cs_cand] at e
  have e2 := List.append_cancel_left e
  injection e2 with e3 e4
  injection e4 with e5 _
  lia
theorem cand_len (stem : Str) (j : Nat) : (cand stem j).length = stem.length + 2 := by
  rw [← Zq90, cs_cand, List.length_append, Zq90]
  rfl
theorem cand_low {stem : Str} {j : Nat} (h : Low stem) (hj : j < 676) : Low (cand stem j) := by
  intro c hc
  rw [cs_cand] at hc
  rcases List.mem_append.mp hc with z | z
  · exact h c z
  · simp at z
    lia
theorem not_all_cands {names : List Str} {stem : Str} (h : ∀ j, j < names.length -> cand stem j ∈ names) : cand stem names.length ∉ names := by
  intro hm
  have nd : ((List.range (names.length + 1)).map (cand stem)).Nodup := by
    rw [List.nodup_iff_pairwise_ne, List.pairwise_map]
    exact List.Pairwise.imp (fun h e => h (cand_inj e)) (List.nodup_iff_pairwise_ne.mp List.nodup_range)
  have := ph _ names nd fun a ha => by
    obtain ⟨j, hj, rfl⟩ := List.mem_map.mp ha
    have hj := List.mem_range.mp hj
    by_cases e : j = names.length
    · rw [e]; exact hm
    · exact h j (by lia)
  rw [List.length_map, List.length_range] at this
  lia
theorem inV_str (x : Str) (names : List Str) : inV (.str x) (names.map V.str) = decide (x ∈ names) := by
  unfold inV
  rw [List.any_map, Bool.eq_iff_iff, List.any_eq_true, decide_eq_true_iff]
  constructor
  · rintro ⟨y, hy, e⟩
    have : y = x := by simpa [eqV] using e
    rw [← this]; exact hy
  · intro h
    exact ⟨x, h, by simp [eqV]⟩
theorem flat_strs (names : List Str) : (names.map V.str).all Zq224 = true := by
  rw [List.all_map, List.all_eq_true]
  intro x _
  rfl
def Zq138 (x : Str) : Prop := Low x /\ 1 <= x.length /\ x.length <= 12
section
variable {P : Program} {w : World} {K : PySem.W.Frag} {mg : Str -> Option Value} {base : Heap}
def spUnlike (K : PySem.W.Frag) : Sp := fun vs H Q _ => ∃ (a : Addr) (names : List Str) (x : Str), vs = [.ref a, .str x] /\ SqL K H a (names.map V.str) /\ names.length <= 600 /\ Zq138 x /\ ∀ y : Str, Zq138 y -> y ∉ names -> Q (.str y) H
abbrev Zq69 : Stmt := top 27
theorem Zq139 : FnScope ["_law_names_here", "_law_name", "_law_letters", "_law_stem", "_law_tries"] ["_law_names_here", "_law_name"] (Zq1 Zq69) := ⟨rfl, rfl, rfl, by decide +kernel, rfl, by decide +kernel, by decide +kernel⟩
theorem Nq81 : Nm (Zq1 Zq69) "_law_letters" .local := by decide +kernel
theorem Nq39 : Nm (Zq1 Zq69) "_law_name" .local := by decide +kernel
theorem Nq120 : Nm (Zq1 Zq69) "_law_names_here" .local := by decide +kernel
theorem Nq121 : Nm (Zq1 Zq69) "_law_stem" .local := by decide +kernel
theorem Nq82 : Nm (Zq1 Zq69) "_law_tries" .local := by decide +kernel
theorem Nq193 : Nm (Zq1 Zq69) "len" .globalImplicit := by decide +kernel
theorem Nq194 : Nm (Zq1 Zq69) "range" .globalImplicit := by decide +kernel
theorem Zq290 (Zq220 : Has K mg "_law_unlike" Zq69) (T : Txt mg) : Fn P w K mg base "_law_unlike" ["_law_names_here", "_law_name"] 1 (spUnlike K) := by
  refine Zq220.fnQ Zq139 (fun _ _ _ _ _ _ us hl => match us, hl with | [_, _], _ => rfl) (fun vs H Q E h => ?_) (fun f cdv A outer s H vs Q E hr h => ?_)
  · obtain ⟨a, names, x, rfl, _⟩ := h
    rfl
  · obtain ⟨a, names, x, rfl, hS, hn, ⟨hx1, hx2, hx3⟩, k⟩ := h
    refine ⟨_, (Zq3 (Zq26 (i := 2) Zq139.nd Nq81 Zq14)
 (Zq3 (Zq26 (i := 3) Zq139.nd Nq121 (qe_slice qsl_str (qvN 1 Nq39) qo_none (qo_some Zq4)))
 (Zq3 (Zq178 PassesOwn.never rfl (qi_range1 Nq194.1 T.range (Zq0 (Zq35 Zq122 (Zq18 Zq87 Nq193 T.len Zq143 (Zq0 (qvN 0 Nq120) Zq2)) Zq4) Zq2)) (Zq118 (i := 4) Zq139.nd Nq82)
  (Zq3 (Zq19 (Zq8 qop_notIn_seq (qvN 1 Nq39) (qvN 0 Nq120) rfl) (Zq5 (Zq11 (qvN 1 Nq39))) Zq10)
 (Zq5 (Zq26 (i := 1) Zq139.nd Nq39 (Zq35 qop_add_str (Zq35 qop_add_str (qvN 3 Nq121) (Zq15 qix_str (qvN 2 Nq81) (Zq35 qop_mod (qvN 4 Nq82) Zq4) (fun _ _ => rfl))) (Zq15 qix_str (qvN 2 Nq81) (Zq35 qop_fdiv (qvN 4 Nq82) Zq4) (fun _ _ => rfl)))))))
 (Zq5 (Zq11 (qvN 1 Nq39)))))), ?_⟩
    have hz : (13 : Nat) <= sizeLine := by decide
    refine ⟨_, rfl, 10, rfl, x, rfl, by lia, ?_⟩
    have hst : cs (Txt.slice x none (some 10)) = (cs x).take 10 := cs_upto x (by decide)
    have hstl : (Txt.slice x none (some 10)).length <= 10 := by rw [← Zq90, hst, List.length_take]; lia
    have hsto : Low (Txt.slice x none (some 10)) := fun c hc => hx1 c (by rw [hst] at hc; exact List.mem_of_mem_take hc)
    show tSeq _ _ _ [some (.ref a), some (.str x), some (.str letters), some (.str (Txt.slice x none (some 10))), none] H
    generalize Txt.slice x none (some 10) = stem at hstl hsto
    refine ⟨_, rfl, a, _, rfl, .inl hS, _, _, rfl, rfl, _, rfl, by lia, by rw [List.length_map]; lia, ?_⟩
    refine forW_range (names.length + 1) (by rw [List.length_map]; lia) (fun i σ H' => H' = H /\ ∃ (cur : Str) (v : Option V), σ = [some (.ref a), some (.str cur), some (.str letters), some (.str stem), v] /\ Zq138 cur /\ (i = 0 \/ cur = cand stem (i - 1)) /\ ∀ j, j + 1 < i -> cand stem j ∈ names)
      ⟨rfl, x, none, rfl, ⟨hx1, hx2, hx3⟩, .inl rfl, fun j hj => by lia⟩ ?_ ?_
    · rintro i σ H' hi ⟨rfl, cur, v, rfl, hc, hci, hal⟩
      refine ⟨_, rfl, _, rfl, a, _, rfl, .inl hS, rfl, flat_strs names, _, rfl, ?_⟩
      rw [inV_str]
      refine Zq99 (fun hnin => ?_) (fun hin => ?_)
      · exact ⟨_, rfl, k cur hc hnin⟩
      · have hi' : i <= 600 := by lia
        refine ⟨_, rfl, _, rfl, _, rfl, _, _, rfl, rfl, by show (0 : Int) < 26; decide, letters, _, _, rfl, rfl, by decide, letters_at (Int.emod_nonneg _ (by decide)) (Int.emod_lt_of_pos _ (by decide)), stem, _, rfl, rfl, ?_, ?_⟩
        · show stem.length + 1 <= sizeLine
          lia
        refine ⟨_, rfl, _, rfl, _, _, rfl, rfl, ⟨by decide, by decide⟩, letters, _, _, rfl, rfl, by decide, letters_at (Int.ediv_nonneg (by lia) (by decide)) (by lia), _, _, rfl, rfl, ?_, ?_⟩
        · show (stem ++ _).length + 1 <= sizeLine
          rw [PySem.Str.length_append]
          show stem.length + 1 + 1 <= sizeLine
          lia
        have e1 : ((0 : Int) + (i : Nat)) % 26 = ((i % 26 : Nat) : Int) := by lia
        have e2 : ((0 : Int) + (i : Nat)) / 26 = ((i / 26 : Nat) : Int) := by lia
        refine ⟨rfl, cand stem i, some (.int (0 + (i : Nat))), ?_, ⟨cand_low hsto (by lia), by rw [cand_len]; lia, by rw [cand_len]; lia⟩, .inr rfl, fun j hj => ?_⟩
        · show [some (V.ref a), some (V.str _), some (V.str letters), some (V.str stem), some (V.int _)] = _
          unfold cand
          rw [e1, e2]
          rfl
        · by_cases e : j + 1 = i
          · rcases hci with z | z
            · lia
            · have : j = i - 1 := by lia
              rw [this, ← z]; exact hin
          · exact hal j (by lia)
    · rintro σ H' ⟨rfl, cur, v, rfl, hc, hci, hal⟩
      refine ⟨_, rfl, k cur hc ?_⟩
      rcases hci with z | z
      · lia
      · rw [z]
        exact not_all_cands fun j hj => hal j (by lia)
def spNames : Sp := fun vs H Q _ => ∃ (s la : Addr) (n : Int), vs = [.ref s, .int n] /\ SrcAt H s la /\ 0 <= n /\ n <= 100 /\
  ∀ (l : Addr) (names : List Str) (H' : Hp), (names.length : Int) = n -> names.Nodup -> (∀ x ∈ names, Zq138 x) -> H l = none -> H' l = some (.lst (names.map V.str)) -> SrcAt H' s la -> SameX s H H' -> Q (.ref l) H'
abbrev Zq41 : Stmt := top 29
theorem Zq71 : FnScope ["_law_src_here", "_law_many", "_law_style", "_law_stem", "_law_at", "_law_names_here", "_law_k", "_law_name"] ["_law_src_here", "_law_many"] (Zq1 Zq41) := ⟨rfl, rfl, rfl, by decide +kernel, rfl, by decide +kernel, by decide +kernel⟩
theorem Nq83 : Nm (Zq1 Zq41) "_law_at" .local := by decide +kernel
theorem Nq195 : Nm (Zq1 Zq41) "_law_k" .local := by decide +kernel
theorem Nq196 : Nm (Zq1 Zq41) "_law_many" .local := by decide +kernel
theorem Nq47 : Nm (Zq1 Zq41) "_law_name" .local := by decide +kernel
theorem Nq48 : Nm (Zq1 Zq41) "_law_names_here" .local := by decide +kernel
theorem Nq40 : Nm (Zq1 Zq41) "_law_next" .globalImplicit := by decide +kernel
theorem Nq16 : Nm (Zq1 Zq41) "_law_src_here" .local := by decide +kernel
theorem Nq20 : Nm (Zq1 Zq41) "_law_stem" .local := by decide +kernel
theorem Nq84 : Nm (Zq1 Zq41) "_law_style" .local := by decide +kernel
theorem Nq197 : Nm (Zq1 Zq41) "_law_unlike" .globalImplicit := by decide +kernel
theorem Nq85 : Nm (Zq1 Zq41) "_law_word" .globalImplicit := by decide +kernel
theorem Nq122 : Nm (Zq1 Zq41) "len" .globalImplicit := by decide +kernel
theorem Nq198 : Nm (Zq1 Zq41) "range" .globalImplicit := by decide +kernel
theorem Zq302 (Zq230 : Has K mg "_law_names" Zq41) (T : Txt mg) (Zq25 : Fn P w K mg base "_law_next" ["_law_src_here", "_law_base"] 1 Zq182) (Zq244 : Fn P w K mg base "_law_word" ["_law_src_here", "_law_many"] 2 spWord)
    (Zq291 : Fn P w K mg base "_law_unlike" ["_law_names_here", "_law_name"] 1 (spUnlike K)) : Fn P w K mg base "_law_names" ["_law_src_here", "_law_many"] 3 spNames := by
  refine Zq230.fnQ Zq71 (fun _ _ _ _ _ _ us hl => match us, hl with | [_, _], _ => rfl) (fun vs H Q E h => ?_) (fun f cdv A outer s H vs Q E hr h => ?_)
  · obtain ⟨s, la, n, rfl, _⟩ := h
    rfl
  · obtain ⟨s, la, n, rfl, hsrc, hn0, hn1, k⟩ := h
    refine ⟨_, (Zq3 (Zq26 (i := 2) Zq71.nd Nq84 (Zq17 Zq25 (hr.mono (by lia)) Nq40 (Zq0 (qvN 0 Nq16) (Zq0 Zq4 Zq2))))
 (Zq3 (Zq26 (i := 3) Zq71.nd Nq20 (Zq17 Zq244 (hr.mono (by lia)) Nq85 (Zq0 (qvN 0 Nq16) (Zq0 (Zq35 Zq122 Zq4 (Zq17 Zq25 (hr.mono (by lia)) Nq40 (Zq0 (qvN 0 Nq16) (Zq0 Zq4 Zq2)))) Zq2))))
 (Zq3 (Zq26 (i := 4) Zq71.nd Nq83 (Zq17 Zq25 (hr.mono (by lia)) Nq40 (Zq0 (qvN 0 Nq16) (Zq0 (Zq18 qcall_len_str Nq122 T.len Zq143 (Zq0 (qvN 3 Nq20) Zq2)) Zq2))))
 (Zq3 (Zq26 (i := 5) Zq71.nd Nq48 (Zq49 Zq2))
 (Zq3 (Zq178 PassesOwn.never rfl (qi_range1 Nq198.1 T.range (Zq0 (qvN 1 Nq196) Zq2)) (Zq118 (i := 6) Zq71.nd Nq195)
  (Zq3 (Zq26 (i := 7) Zq71.nd Nq47 (Zq35 qop_add_str (Zq35 qop_add_str (qe_slice qsl_str (qvN 3 Nq20) qo_none (qo_some (qvN 4 Nq83))) (Zq17 Zq244 (hr.mono (by lia)) Nq85 (Zq0 (qvN 0 Nq16) (Zq0 Zq4 Zq2)))) (qe_slice qsl_str (qvN 3 Nq20) (qo_some (Zq35 Zq122 (qvN 4 Nq83) Zq4)) qo_none)))
 (Zq3 (Zq19 (Zq8 Zq30 (qvN 2 Nq84) Zq4 (Zq12 _)) (Zq5 (Zq26 (i := 7) Zq71.nd Nq47 (qe_slice qsl_str (qvN 3 Nq20) qo_none (qo_some (Zq35 Zq122 Zq4 (Zq17 Zq25 (hr.mono (by lia)) Nq40 (Zq0 (qvN 0 Nq16) (Zq0 (Zq18 qcall_len_str Nq122 T.len Zq143 (Zq0 (qvN 3 Nq20) Zq2)) Zq2)))))))) Zq10)
 (Zq3 (Zq19 (Zq8 Zq30 (qvN 2 Nq84) Zq4 (Zq12 _)) (Zq5 (Zq26 (i := 7) Zq71.nd Nq47 (Zq17 Zq244 (hr.mono (by lia)) Nq85 (Zq0 (qvN 0 Nq16) (Zq0 (Zq35 Zq122 Zq4 (Zq17 Zq25 (hr.mono (by lia)) Nq40 (Zq0 (qvN 0 Nq16) (Zq0 Zq4 Zq2)))) Zq2))))) Zq10)
 (Zq5 (Zq23 (qe_bm F.plainAttrs_list F.slot_list_append F.type_list_append qmt_append (qvN 5 Nq48) (Zq0 (Zq17 Zq291 (hr.mono (by lia)) Nq197 (Zq0 (qvN 5 Nq48) (Zq0 (qvN 7 Nq47) Zq2))) Zq2))))))))
 (Zq5 (Zq11 (qvN 5 Nq48)))))))), ?_⟩
    have hz : (200 : Nat) <= sizeLine := by decide
    refine ⟨_, rfl, s, la, 3, rfl, hsrc, by decide, by decide, fun style H1 st0 st1 hs1 sx1 => ?_⟩
    refine ⟨_, rfl, _, rfl, s, la, 11, rfl, hs1, by decide, by decide, fun d1 H2 d10 d11 hs2 sx2 => ?_⟩
    refine ⟨_, _, rfl, rfl, s, la, _, rfl, hs2, by lia, by lia, fun stem H3 hl3 hlow3 hs3 sx3 => ?_⟩
    refine ⟨_, rfl, _, rfl, stem, rfl, by lia, s, la, _, rfl, hs3, by lia, by lia, fun at_ H4 at0 at1 hs4 sx4 => ?_⟩
    refine ⟨by show 0 <= sizeLine; lia, fun l hl4 => ?_⟩
    have sx : SameX s H H4 := ((sx1.trans sx2).trans sx3).trans sx4
    obtain ⟨nls, nlla⟩ := hs4.ne hl4
    have hlH : H l = none := by
      cases e : H l with
      | none => rfl
      | some o => exact absurd (sx l o nls e) (by rw [hl4]; simp)
    refine ⟨_, rfl, n, rfl, by lia, by lia, ?_⟩
    show tForW _ _ _ _ [some (.ref s), some (.int n), some (.int style), some (.str stem), some (.int at_), some (.ref l), none, none] (upd H4 l (.lst []))
    have mkn : ∀ x : Str, Low x -> 1 <= x.length -> x.length <= 12 -> Zq138 x := fun x a b c => ⟨a, b, c⟩
    refine forW_range n.toNat rfl (fun i σ H' => ∃ (names : List Str) (v1 v2 : Option V), σ = [some (.ref s), some (.int n), some (.int style), some (.str stem), some (.int at_), some (.ref l), v1, v2] /\ names.length = i /\ names.Nodup /\ (∀ x ∈ names, Zq138 x) /\ H' l = some (.lst (names.map V.str)) /\ SrcAt H' s la /\ SameX s H H')
      ⟨[], none, none, rfl, rfl, List.nodup_nil, (fun _ z => nomatch z), Zq7, hs4.keep (Same.new hl4), sx.trans (SameX.new hl4)⟩ ?_ ?_
    · rintro i σ H5 hi ⟨names, v1, v2, rfl, hlen, hnd, hall, hl5, hs5, sx5⟩
      have e1 : cs (Txt.slice stem none (some at_)) = (cs stem).take at_.toNat := cs_upto stem at0
      have e2 : cs (Txt.slice stem (some (at_ + 1)) none) = (cs stem).drop (at_ + 1).toNat := cs_from stem (by lia)
      have l1 : (Txt.slice stem none (some at_)).length <= 11 := by rw [← Zq90, e1, List.length_take, Zq90]; lia
      have l2 : (Txt.slice stem (some (at_ + 1)) none).length + (at_ + 1).toNat = stem.length := by rw [← Zq90, e2, List.length_drop, Zq90]; lia
      have l1' : (Txt.slice stem none (some at_)).length = at_.toNat := by rw [← Zq90, e1, List.length_take, Zq90]; lia
      refine ⟨_, rfl, _, rfl, at_, rfl, stem, rfl, by lia, _, rfl, s, la, 1, rfl, hs5, by decide, by decide, fun x1 H6 hx1 hlow1 hs6 sx6 => ?_⟩
      have hl6 : H6 l = some (.lst (names.map V.str)) := sx6 l _ nls hl5
      refine ⟨_, _, rfl, rfl, by lia, ?_⟩
      refine ⟨_, rfl, _, rfl, _, _, rfl, rfl, _, rfl, stem, rfl, by lia, ?_⟩
      have l3 : (Txt.slice stem none (some at_) ++ x1).length = at_.toNat + 1 := by rw [PySem.Str.length_append, l1']; lia
      refine ⟨_, _, rfl, rfl, by rw [l3]; lia, ?_⟩
      have hname : Zq138 (Txt.slice stem none (some at_) ++ x1 ++ Txt.slice stem (some (at_ + 1)) none) := by
        refine mkn _ (fun c hc => ?_) ?_ ?_
        · rw [cs_app, cs_app, e1, e2] at hc
          rcases List.mem_append.mp hc with hc | hc
          · rcases List.mem_append.mp hc with hc | hc
            · exact hlow3 c (List.mem_of_mem_take hc)
            · exact hlow1 c hc
          · exact hlow3 c (List.mem_of_mem_drop hc)
        · rw [PySem.Str.length_append, l3]; lia
        · rw [PySem.Str.length_append, l3]; lia
      generalize Txt.slice stem none (some at_) ++ x1 ++ Txt.slice stem (some (at_ + 1)) none = nm0 at hname
      show tSeq _ _ _ [some (.ref s), some (.int n), some (.int style), some (.str stem), some (.int at_), some (.ref l), some (.int (0 + (i : Nat))), some (.str nm0)] H6
      have app : ∀ (D : Ends), (∀ σ H', (∃ (names : List Str) (v1 v2 : Option V), σ = [some (.ref s), some (.int n), some (.int style), some (.str stem), some (.int at_), some (.ref l), v1, v2] /\ names.length = i + 1 /\ names.Nodup /\ (∀ x ∈ names, Zq138 x) /\ H' l = some (.lst (names.map V.str)) /\ SrcAt H' s la /\ SameX s H H') -> D.nx σ H') ->
          ∀ (x : Str) (H6 : Hp), Zq138 x -> H6 l = some (.lst (names.map V.str)) -> SrcAt H6 s la -> SameX s H H6 ->
          tDrop (tBM K "list" rAppend (tVar 5) (Zq183 (tFn (spUnlike K) (Zq183 (tVar 5) (Zq183 (tVar 7) tNil))) tNil)) D
            [some (.ref s), some (.int n), some (.int style), some (.str stem), some (.int at_), some (.ref l), some (.int (0 + (i : Nat))), some (.str x)] H6 := by
        intro D hD x H6 hx hl6 hs6 sx6
        refine ⟨_, rfl, .inl ⟨rfl, _, SqL.of hl6⟩, _, rfl, _, rfl, l, names, x, rfl, SqL.of hl6, by lia, hx, fun y hy hny => ?_⟩
        refine ⟨l, _, _, rfl, rfl, hl6, by rw [List.length_map]; lia, hD _ _ ⟨names ++ [y], _, _, rfl, by rw [List.length_append, hlen]; rfl, nd_snoc hnd hny, fun z hz => ?_, ?_, ?_, ?_⟩⟩
        · rcases List.mem_append.mp hz with q | q
          · exact hall z q
          · have : z = y := by simpa using q
            rw [this]; exact hy
        · rw [Zq7, List.map_append]; rfl
        · exact hs6.keepX SameX.upd nls nlla
        · intro b o hb e
          have : b ≠ l := fun z => by rw [z, hlH] at e; cases e
          rw [Zq6 this]
          exact sx6 b o hb e
      have step2 : ∀ (D : Ends), (∀ σ H', (∃ (names : List Str) (v1 v2 : Option V), σ = [some (.ref s), some (.int n), some (.int style), some (.str stem), some (.int at_), some (.ref l), v1, v2] /\ names.length = i + 1 /\ names.Nodup /\ (∀ x ∈ names, Zq138 x) /\ H' l = some (.lst (names.map V.str)) /\ SrcAt H' s la /\ SameX s H H') -> D.nx σ H') ->
          ∀ (x : Str) (H6 : Hp), Zq138 x -> H6 l = some (.lst (names.map V.str)) -> SrcAt H6 s la -> SameX s H H6 ->
          tSeq (tIfS (tTest (tOp rEq (tVar 2) (tC (.int 2)))) (tAsg (tFn spWord (Zq183 (tVar 0) (Zq183 (tOp (rI0 fun i j => .int (i + j)) (tC (.int 1)) (tFn Zq182 (Zq183 (tVar 0) (Zq183 (tC (.int 12)) tNil)))) tNil))) (Zq135 7)) Zq62)
            (tDrop (tBM K "list" rAppend (tVar 5) (Zq183 (tFn (spUnlike K) (Zq183 (tVar 5) (Zq183 (tVar 7) tNil))) tNil))) D
            [some (.ref s), some (.int n), some (.int style), some (.str stem), some (.int at_), some (.ref l), some (.int (0 + (i : Nat))), some (.str x)] H6 := by
        intro D hD x H6 hx hl6 hs6 sx6
        refine ⟨_, rfl, rfl, _, rfl, iteD (fun _ => ?_) (fun _ => ?_)⟩
        · refine ⟨_, rfl, _, rfl, s, la, 12, rfl, hs6, by decide, by decide, fun d H7 d0 d1 hs7 sx7 => ?_⟩
          refine ⟨_, _, rfl, rfl, s, la, _, rfl, hs7, by lia, by lia, fun y H8 hy1 hy2 hs8 sx8 => ?_⟩
          exact app D hD y H8 ⟨hy2, by lia, by lia⟩ (sx8 l _ nls (sx7 l _ nls hl6)) hs8 ((sx6.trans sx7).trans sx8)
        · exact app D hD x H6 hx hl6 hs6 sx6
      refine ⟨_, rfl, rfl, _, rfl, iteD (fun _ => ?_) (fun _ => ?_)⟩
      · refine ⟨_, rfl, _, rfl, _, rfl, stem, rfl, by lia, s, la, _, rfl, hs6, by lia, by lia, fun d H7 d0 d1 hs7 sx7 => ?_⟩
        refine ⟨_, _, rfl, rfl, _, rfl, stem, rfl, by lia, ?_⟩
        have e3 : cs (Txt.slice stem none (some (1 + d))) = (cs stem).take (1 + d).toNat := cs_upto stem (by lia)
        refine step2 _ (fun σ H' h => h) _ H7 ⟨fun c hc => hlow3 c (by rw [e3] at hc; exact List.mem_of_mem_take hc), ?_, ?_⟩ (sx7 l _ nls hl6) hs7 ((sx5.trans sx6).trans sx7)
        · rw [← Zq90, e3, List.length_take, Zq90]; lia
        · rw [← Zq90, e3, List.length_take, Zq90]; lia
      · exact step2 _ (fun σ H' h => h) nm0 H6 hname hl6 hs6 (sx5.trans sx6)
    · rintro σ H5 ⟨names, v1, v2, rfl, hlen, hnd, hall, hl5, hs5, sx5⟩
      exact ⟨_, rfl, k l names H5 (by lia) hnd hall hlH hl5 hs5 sx5⟩
end
section
variable {P : Program} {w : World} {K : PySem.W.Frag} {mg : Str -> Option Value} {base : Heap}
def okc (c : Nat) : Bool := decide (97 <= c) && decide (c <= 122)
def Zq65 (x : Str) : Bool := (decide (1 <= x.length) && decide (x.length <= 12)) && (cs x).all okc
def spIsName : Sp := fun vs H Q _ => ∃ x : Str, vs = [.str x] /\ x.length <= 1000 /\ ∀ H', Same H H' -> Q (.bl (Zq65 x)) H'
theorem sgn_at {x : Str} {i : Nat} (hi : i < x.length) : (cs x)[i]? = some (x.cps.getD i 0) := by
  unfold cs
  have : i < x.cps.size := hi
  rw [Array.getD_eq_getD_getElem?, Array.getElem?_eq_getElem this, Array.getElem?_toList, Array.getElem?_eq_getElem this]
  rfl
theorem leA (c : Nat) : (!decide ((⟨#[c]⟩ : Str).cps.toList < ("a" : Str).cps.toList)) = decide (97 <= c) := by
  have e : ("a" : Str).cps.toList = [97] := by decide +kernel
  rw [e]
  show (!decide (([c] : List Nat) < [97])) = _
  rw [Bool.eq_iff_iff, Bool.not_eq_true', decide_eq_false_iff_not, decide_eq_true_iff, one_lt_one]
  lia
theorem leZ (c : Nat) : (!decide (("z" : Str).cps.toList < (⟨#[c]⟩ : Str).cps.toList)) = decide (c <= 122) := by
  have e : ("z" : Str).cps.toList = [122] := by decide +kernel
  rw [e]
  show (!decide (([122] : List Nat) < [c])) = _
  rw [Bool.eq_iff_iff, Bool.not_eq_true', decide_eq_false_iff_not, decide_eq_true_iff, one_lt_one]
  lia
theorem take_map_snoc {α β : Type} {l : List α} {i : Nat} {a : α} (f : α -> β) (h : l[i]? = some a) : (l.take (i + 1)).map f = (l.take i).map f ++ [f a] := by
  rw [List.take_add_one, h, List.map_append]
  rfl
abbrev Zq161 : Stmt := top 18
theorem Zq315 : FnScope ["text"] ["text"] (Zq1 Zq161) := ⟨rfl, rfl, rfl, by decide +kernel, rfl, by decide +kernel, by decide +kernel⟩
theorem Nq199 : Nm (Zq1 Zq161) "LONGEST_NAME" .globalImplicit := by decide +kernel
theorem Nq200 : Nm (Zq1 Zq161) "all" .globalImplicit := by decide +kernel
theorem Nq201 : Nm (Zq1 Zq161) "len" .globalImplicit := by decide +kernel
theorem Nq123 : Nm (Zq1 Zq161) "text" .local := by decide +kernel
theorem Zq319 (Zq254 : Has K mg "is_name" Zq161) (T : Txt mg) (hL : ∃ t, mg "LONGEST_NAME" = some (.int 12 t)) : Fn P w K mg base "is_name" ["text"] 1 spIsName := by
  obtain ⟨tL, c_LONGEST_NAME⟩ := hL
  have r_LONGEST_NAME : RelV (.int 12) (.int 12 tL) := ⟨tL, rfl⟩
  refine Zq254.fnQ Zq315 (fun _ _ _ _ _ _ us hl => match us, hl with | [_], _ => rfl) (fun vs H Q E h => ?_) (fun f cdv A outer s H vs Q E hr h => ?_)
  · obtain ⟨x, rfl, _⟩ := h
    rfl
  · obtain ⟨x, rfl, hx, k⟩ := h
    refine ⟨_, (Zq5 (Zq11 (Zq215 (qe_chain Zq80 Zq80 Zq4 (Zq18 qcall_len_str Nq201 T.len Zq143 (Zq0 (qvN 0 Nq123) Zq2)) (Zq34 Nq199 c_LONGEST_NAME r_LONGEST_NAME)) (Zq214 (Zq18 (qcall_all (by rfl)) Nq200 T.all b_all (Zq0 (Zq158 (locs := ["sign"]) (fr := []) ⟨rfl, by decide +kernel, by decide +kernel, by decide +kernel, by decide +kernel, by decide +kernel⟩ .nil rfl (qi_str (qvN 0 Nq123)) ⟨fun _ _ _ _ _ _ => by
    have cnd : (inN ["sign"] []).Nodup := by decide +kernel
    exact ⟨(qgLN 0 cnd), qts_nil, (qe_chain qop_le_str qop_le_str Zq14 (qvLN 0) Zq14)⟩⟩) Zq2)))))), ?_⟩
    have hz : (1000 : Nat) <= sizeLine := by decide
    refine ⟨_, rfl, x, rfl, by lia, _, _, rfl, rfl, _, rfl, iteD (fun h1 => ?_) (fun h1 => ?_)⟩
    · refine ⟨_, _, rfl, rfl, _, rfl, iteD (fun h2 => ?_) (fun h2 => ?_)⟩
      · refine ⟨_, rfl, x, rfl, ?_⟩
        refine comp_str (fun i ys H' => H' = H /\ ys = ((cs x).take i).map fun c => V.bl (okc c)) ⟨rfl, rfl⟩ (by lia) ?_ ?_ ?_
        · rintro i ys H' ⟨_, rfl⟩
          rw [List.length_map, List.length_take]; lia
        · rintro i ys H' hi ⟨rfl, rfl⟩ ls hls
          obtain ⟨a, rfl⟩ := len1 hls
          refine ⟨⟨[_], rfl, rfl⟩, iteT ?_⟩
          refine ⟨_, rfl, _, _, rfl, rfl, _, rfl, ?_⟩
          rw [leA]
          refine iteD (fun h3 => ?_) (fun h3 => ?_)
          · refine ⟨_, _, rfl, rfl, rfl, ?_⟩
            dsimp only
            rw [leZ, take_map_snoc _ (sgn_at hi)]
            unfold okc
            rw [decide_eq_true h3, Bool.true_and]
          · refine ⟨rfl, ?_⟩
            rw [take_map_snoc _ (sgn_at hi)]
            unfold okc
            rw [decide_eq_false h3, Bool.false_and]
        · rintro ys H' ⟨rfl, rfl⟩ l hl
          refine ⟨l, (cs x).map okc, rfl, SqL.of (by rw [Zq7, ← Zq90, List.take_length, List.map_map]; rfl), ?_⟩
          have e : ((cs x).map okc).all id = Zq65 x := by
            unfold Zq65
            rw [List.all_map, decide_eq_true (show 1 <= x.length by lia), decide_eq_true (show x.length <= 12 by lia)]
            rfl
          rw [e]
          exact k _ (Same.new hl)
      · refine (?_ : Q (.bl false) H)
        have e : Zq65 x = false := by
          unfold Zq65
          rw [decide_eq_false (show ¬ x.length <= 12 by lia), Bool.and_false, Bool.false_and]
        rw [← e]
        exact k H (Same.refl _)
    · refine ⟨_, rfl, iteF ?_⟩
      have e : Zq65 x = false := by
        unfold Zq65
        rw [decide_eq_false (show ¬ 1 <= x.length by lia), Bool.false_and, Bool.false_and]
      rw [← e]
      exact k H (Same.refl _)
end
section
variable {P : Program} {w : World} {K : PySem.W.Frag} {mg : Str -> Option Value} {base : Heap}
inductive Deed where
  | come (n : Str) (d w : Int) | rise (n : Str) (d w : Int) | die (n : Str) (d : Int) (h : Str)
def Zq9 : List Deed -> Str -> Option Int
  | [], _ => none
  | .come m d _ :: r, n => if m = n then some d else Zq9 r n
  | .rise _ _ _ :: r, n => Zq9 r n
  | .die _ _ _ :: r, n => Zq9 r n
def Zq20 : List Deed -> Str -> Option (Int × Str)
  | [], _ => none
  | .die m d h :: r, n => if m = n then some (d, h) else Zq20 r n
  | .come _ _ _ :: r, n => Zq20 r n
  | .rise _ _ _ :: r, n => Zq20 r n
theorem Zq162 (a b : List Deed) (n : Str) : Zq9 (a ++ b) n = (Zq9 a n).or (Zq9 b n) := by
  induction a with
  | nil => rfl
  | cons x r ih =>
    cases x with
    | come m d w =>
      rw [List.cons_append, Zq9, Zq9]
      by_cases e : m = n
      · rw [if_pos e, if_pos e]; rfl
      · rw [if_neg e, if_neg e, ih]
    | rise m d w => rw [List.cons_append, Zq9, Zq9, ih]
    | die m d h => rw [List.cons_append, Zq9, Zq9, ih]
theorem dieOf_app (a b : List Deed) (n : Str) : Zq20 (a ++ b) n = (Zq20 a n).or (Zq20 b n) := by
  induction a with
  | nil => rfl
  | cons x r ih =>
    cases x with
    | come m d w => rw [List.cons_append, Zq20, Zq20, ih]
    | rise m d w => rw [List.cons_append, Zq20, Zq20, ih]
    | die m d h =>
      rw [List.cons_append, Zq20, Zq20]
      by_cases e : m = n
      · rw [if_pos e, if_pos e]; rfl
      · rw [if_neg e, if_neg e, ih]
theorem comOf_come {ds : List Deed} {n : Str} {d w : Int} (h : Zq9 ds n = none) (x : Str) : Zq9 (ds ++ [.come n d w]) x = if x = n then some d else Zq9 ds x := by
  rw [Zq162, Zq9, Zq9]
  by_cases e : x = n
  · subst e
    rw [if_pos rfl, if_pos rfl, h]; rfl
  · rw [if_neg (Ne.symm e), if_neg e]
    cases Zq9 ds x <;> rfl
theorem comOf_die {ds : List Deed} {n h : Str} {d : Int} (x : Str) : Zq9 (ds ++ [.die n d h]) x = Zq9 ds x := by
  rw [Zq162, Zq9, Zq9]
  cases Zq9 ds x <;> rfl
theorem dieOf_come {ds : List Deed} {n : Str} {d w : Int} (x : Str) : Zq20 (ds ++ [.come n d w]) x = Zq20 ds x := by
  rw [dieOf_app, Zq20, Zq20]
  cases Zq20 ds x <;> rfl
theorem dieOf_die {ds : List Deed} {n h : Str} {d : Int} (hn : Zq20 ds n = none) (x : Str) : Zq20 (ds ++ [.die n d h]) x = if x = n then some (d, h) else Zq20 ds x := by
  rw [dieOf_app, Zq20, Zq20]
  by_cases e : x = n
  · subst e
    rw [if_pos rfl, if_pos rfl, hn]; rfl
  · rw [if_neg (Ne.symm e), if_neg e]
    cases Zq20 ds x <;> rfl
def Zq72 (ds : List Deed) (n : Str) (day : Int) : Bool := match Zq20 ds n with
  | some x => decide (x.1 <= day)
  | none => false
inductive Stands (ds : List Deed) (day : Int) : Nat -> Str -> Str -> Prop where
  | here {n : Str} : Zq72 ds n day = false -> Stands ds day 0 n n
  | step {n m : Str} {x : Int × Str} {k : Nat} : Zq20 ds n = some x -> Zq72 ds n day = true -> Stands ds day k x.2 m -> Stands ds day (k + 1) n m
theorem stands_ex {ds : List Deed} {r : Str -> Nat} (h : ∀ n x, Zq20 ds n = some x -> r x.2 < r n) (day : Int) : ∀ (b : Nat) (n : Str), r n <= b -> ∃ k m, Stands ds day k n m /\ k <= b := by
  intro b
  induction b with
  | zero =>
    intro n hn
    cases e : Zq72 ds n day with
    | false => exact ⟨0, n, .here e, Nat.zero_le _⟩
    | true =>
      unfold Zq72 at e
      cases e2 : Zq20 ds n with
      | none => rw [e2] at e; cases e
      | some x => have := h n x e2; lia
  | succ b ih =>
    intro n hn
    cases e : Zq72 ds n day with
    | false => exact ⟨0, n, .here e, Nat.zero_le _⟩
    | true =>
      have e' := e
      unfold Zq72 at e
      cases e2 : Zq20 ds n with
      | none => rw [e2] at e; cases e
      | some x =>
        have := h n x e2
        obtain ⟨k, m, a1, a2⟩ := ih x.2 (by lia)
        exact ⟨k + 1, m, .step e2 e' a1, by lia⟩
def Zq121 (dc dw dd dh : Addr) : List (Str × V) := putF "heirs" (.ref dh) (putF "deaths" (.ref dd) (putF "weights" (.ref dw) (putF "comings" (.ref dc) [])))
theorem ff_c (dc dw dd dh : Addr) : (Zq121 dc dw dd dh).lookup ("comings" : Str) = some (.ref dc) := by
  unfold Zq121
  rw [Zq40, if_neg (by decide +kernel), Zq40, if_neg (by decide +kernel), Zq40, if_neg (by decide +kernel), Zq40, if_pos rfl]
theorem ff_w (dc dw dd dh : Addr) : (Zq121 dc dw dd dh).lookup ("weights" : Str) = some (.ref dw) := by
  unfold Zq121
  rw [Zq40, if_neg (by decide +kernel), Zq40, if_neg (by decide +kernel), Zq40, if_pos rfl]
theorem ff_d (dc dw dd dh : Addr) : (Zq121 dc dw dd dh).lookup ("deaths" : Str) = some (.ref dd) := by
  unfold Zq121
  rw [Zq40, if_neg (by decide +kernel), Zq40, if_pos rfl]
theorem ff_h (dc dw dd dh : Addr) : (Zq121 dc dw dd dh).lookup ("heirs" : Str) = some (.ref dh) := by
  unfold Zq121
  rw [Zq40, if_pos rfl]
def notF (m : Str) : Prop := ¬ m = "heirs" /\ ¬ m = "deaths" /\ ¬ m = "weights" /\ ¬ m = "comings"
instance (m : Str) : Decidable (notF m) := by unfold notF; exact inferInstance
theorem Zq52 (dc dw dd dh : Addr) {m : Str} (h : notF m) : (Zq121 dc dw dd dh).lookup m = none := by
  obtain ⟨a, b, c, d⟩ := h
  unfold Zq121
  rw [Zq40, if_neg a, Zq40, if_neg b, Zq40, if_neg c, Zq40, if_neg d]
  rfl
structure FL where
  p : Addr
  dc : Addr
  dw : Addr
  dd : Addr
  dh : Addr
structure FolkAt (C : Addr) (H : Hp) (L : FL) (ds : List Deed) : Prop where
  ob : ∃ dx, H L.p = some (.ins C dx (Zq121 L.dc L.dw L.dd L.dh))
  c : ∃ kvs : List (Key × V), H L.dc = some (.dK kvs) /\ kvs.length <= ds.length /\ ∀ n : Str, valV kvs (.inr n) = (Zq9 ds n).map V.int
  w : ∃ kvs : List (Key × V), H L.dw = some (.dK kvs) /\ kvs.length <= ds.length
  d : ∃ kvs : List (Key × V), H L.dd = some (.dK kvs) /\ kvs.length <= ds.length /\ ∀ n : Str, valV kvs (.inr n) = (Zq20 ds n).map fun x => V.int x.1
  h : ∃ kvs : List (Key × V), H L.dh = some (.dK kvs) /\ kvs.length <= ds.length /\ ∀ n : Str, valV kvs (.inr n) = (Zq20 ds n).map fun x => V.str x.2
  a1 : L.dc ≠ L.dw
  a2 : L.dc ≠ L.dd
  a3 : L.dc ≠ L.dh
  a4 : L.dw ≠ L.dd
  a5 : L.dw ≠ L.dh
  a6 : L.dd ≠ L.dh
def SameN (H H' : Hp) : Prop := ∀ b o, (∀ xs, o ≠ .lst xs) -> H b = some o -> H' b = some o
theorem Same.n {H H' : Hp} (h : Same H H') : SameN H H' := fun b o _ e => h b o e
theorem SameX.n {s : Addr} {H H' : Hp} {xs : List V} (h : SameX s H H') (hs : H s = some (.lst xs)) : SameN H H' := fun b o n e => h b o (fun z => by rw [z, hs] at e; exact n xs (Option.some.inj e).symm) e
theorem SrcAt.n {s la : Addr} {H H' : Hp} (hs : SrcAt H s la) (h : SameX s H H') : SameN H H' := let ⟨_, _, _, _, _, a, _⟩ := hs; SameX.n h a
theorem SameN.upd {H : Hp} {l : Addr} {xs : List V} {o : HO} (h : H l = some (.lst xs)) : SameN H (upd H l o) := fun b o n e => by
  rw [Zq6 (fun z => by rw [z, h] at e; exact n xs (Option.some.inj e).symm)]; exact e
theorem FolkAt.keep {C : Addr} {H H' : Hp} {L : FL} {ds : List Deed} (h : FolkAt C H L ds) (k : SameN H H') : FolkAt C H' L ds := by
  obtain ⟨⟨dx, ob⟩, ⟨k1, c1, c2⟩, ⟨k2, w1, w2⟩, ⟨k3, d1, d2⟩, ⟨k4, h1, h2⟩, a1, a2, a3, a4, a5, a6⟩ := h
  exact ⟨⟨dx, k _ _ (fun _ z => nomatch z) ob⟩, ⟨k1, k _ _ (fun _ z => nomatch z) c1, c2⟩, ⟨k2, k _ _ (fun _ z => nomatch z) w1, w2⟩, ⟨k3, k _ _ (fun _ z => nomatch z) d1, d2⟩, ⟨k4, k _ _ (fun _ z => nomatch z) h1, h2⟩, a1, a2, a3, a4, a5, a6⟩
def SameLT (H H' : Hp) : Prop := (∀ b xs, H b = some (.lst xs) -> H' b = some (.lst xs)) /\ ∀ b xs, H b = some (.tup xs) -> H' b = some (.tup xs)
theorem Same.lt {H H' : Hp} (h : Same H H') : SameLT H H' := ⟨fun b xs e => h _ _ e, fun b xs e => h _ _ e⟩
theorem SameLT.updD {H : Hp} {l : Addr} {kvs kvs' : List (Key × V)} (h : H l = some (.dK kvs)) : SameLT H (upd H l (.dK kvs')) :=
  ⟨fun b xs e => by rw [Zq6 (fun z => by rw [z, h] at e; cases e)]; exact e, fun b xs e => by rw [Zq6 (fun z => by rw [z, h] at e; cases e)]; exact e⟩
theorem SrcAt.lt {H H' : Hp} {s la : Addr} (h : SrcAt H s la) (k : SameLT H H') : SrcAt H' s la := by
  obtain ⟨ns, i, big, st, cnt, h1, h2, h3, h4⟩ := h
  exact ⟨ns, i, big, st, cnt, k.1 _ _ h1, k.1 _ _ h2, h3, h4⟩
structure TxC (K : PySem.W.Frag) (C : Addr) : Prop where
  cl : Cls K C
  nc : NoAttr K C "comings"
  nw : NoAttr K C "weights"
  nd : NoAttr K C "deaths"
  nh : NoAttr K C "heirs"
variable {C : Addr}
def Zq238 : Sp := fun vs H Q _ => ∃ d : Int, vs = [.int d] /\ 0 <= d /\ d <= 9999 /\ Q .non H
abbrev Zq134 : Stmt := top 14
theorem Zq255 : FnScope ["day"] ["day"] (Zq1 Zq134) := ⟨rfl, rfl, rfl, by decide +kernel, rfl, by decide +kernel, by decide +kernel⟩
theorem Nq124 : Nm (Zq1 Zq134) "LAST_DAY" .globalImplicit := by decide +kernel
theorem Nq202 : Nm (Zq1 Zq134) "NoMeasure" .globalImplicit := by decide +kernel
theorem Nq86 : Nm (Zq1 Zq134) "day" .local := by decide +kernel
theorem Zq310 (Zq148 : Has K mg "check_day" Zq134) (C0 : ∃ t, mg "LAST_DAY" = some (.int 9999 t)) : Fn P w K mg base "check_day" ["day"] 1 Zq238 := by
  obtain ⟨t0, c_LAST_DAY⟩ := C0
  have r_LAST_DAY : RelV (.int 9999) (.int 9999 t0) := ⟨t0, rfl⟩
  refine Zq148.fnQ Zq255 (fun _ _ _ _ _ _ us hl => match us, hl with | [_], _ => rfl) (fun vs H Q E h => ?_) (fun f cdv A outer s H vs Q E hr h => ?_)
  · obtain ⟨d, rfl, _⟩ := h
    rfl
  · obtain ⟨d, rfl, h0, h1, k⟩ := h
    refine ⟨_, (Zq5 (Zq19 (Zq145 (qt_chain Zq80 Zq80 Zq4 (qvN 0 Nq86) (Zq34 Nq124 c_LAST_DAY r_LAST_DAY))) (Zq5 Zq131) Zq10)), ?_⟩
    refine ⟨_, rfl, _, _, rfl, rfl, _, rfl, iteD (fun _ => ?_) (fun z => absurd h0 z)⟩
    refine ⟨_, _, rfl, rfl, _, rfl, Zq99 (fun z => absurd h1 z) (fun _ => k)⟩
def spWt : Sp := fun vs H Q _ => ∃ d : Int, vs = [.int d] /\ 1 <= d /\ d <= 1000 /\ Q .non H
abbrev Zq94 : Stmt := top 15
theorem Zq239 : FnScope ["weight"] ["weight"] (Zq1 Zq94) := ⟨rfl, rfl, rfl, by decide +kernel, rfl, by decide +kernel, by decide +kernel⟩
theorem Nq125 : Nm (Zq1 Zq94) "MOST_WEIGHT" .globalImplicit := by decide +kernel
theorem Nq203 : Nm (Zq1 Zq94) "NoMeasure" .globalImplicit := by decide +kernel
theorem Nq87 : Nm (Zq1 Zq94) "weight" .local := by decide +kernel
theorem Zq279 (Zq113 : Has K mg "check_weight" Zq94) (C0 : ∃ t, mg "MOST_WEIGHT" = some (.int 1000 t)) : Fn P w K mg base "check_weight" ["weight"] 1 spWt := by
  obtain ⟨t0, c_MOST_WEIGHT⟩ := C0
  have r_MOST_WEIGHT : RelV (.int 1000) (.int 1000 t0) := ⟨t0, rfl⟩
  refine Zq113.fnQ Zq239 (fun _ _ _ _ _ _ us hl => match us, hl with | [_], _ => rfl) (fun vs H Q E h => ?_) (fun f cdv A outer s H vs Q E hr h => ?_)
  · obtain ⟨d, rfl, _⟩ := h
    rfl
  · obtain ⟨d, rfl, h0, h1, k⟩ := h
    refine ⟨_, (Zq5 (Zq19 (Zq145 (qt_chain Zq80 Zq80 Zq4 (qvN 0 Nq87) (Zq34 Nq125 c_MOST_WEIGHT r_MOST_WEIGHT))) (Zq5 Zq131) Zq10)), ?_⟩
    refine ⟨_, rfl, _, _, rfl, rfl, _, rfl, iteD (fun _ => ?_) (fun z => absurd h0 z)⟩
    refine ⟨_, _, rfl, rfl, _, rfl, Zq99 (fun z => absurd h1 z) (fun _ => k)⟩
def Zq189 (C : Addr) : Sp := fun vs H Q _ => ∃ (L : FL) (ds : List Deed) (n : Str) (d : Int), vs = [.ref L.p, .str n] /\ FolkAt C H L ds /\ Zq9 ds n = some d /\ Q .non H
abbrev Zq60 : Stmt := Zq63 (top 21) 17
theorem Zq202 : FnScope ["self", "name"] ["self", "name"] (Zq1 Zq60) := ⟨rfl, rfl, rfl, by decide +kernel, rfl, by decide +kernel, by decide +kernel⟩
theorem Nq204 : Nm (Zq1 Zq60) "Unknown" .globalImplicit := by decide +kernel
theorem Nq88 : Nm (Zq1 Zq60) "name" .local := by decide +kernel
theorem Nq126 : Nm (Zq1 Zq60) "self" .local := by decide +kernel
theorem Zq292 (Zq73 : HasM K C "check_known" "Folk.check_known" Zq60) (Tc : TxC K C) : Mt P w K mg base C "check_known" ["self", "name"] 1 (Zq189 C) := by
  refine Zq73.mtQ Zq202 (fun _ _ _ _ _ _ us hl => match us, hl with | [_, _], _ => rfl) (fun vs H Q E h => ?_) (fun f cdv A outer s H vs Q E hr h => ?_)
  · obtain ⟨L, ds, n, d, rfl, _⟩ := h
    rfl
  · obtain ⟨L, ds, n, d, rfl, F, hn, k⟩ := h
    refine ⟨_, (Zq5 (Zq19 (Zq8 (qop_dnotin hr) (qvN 1 Nq88) (Zq43 (qvN 0 Nq126)) rfl) (Zq5 Zq131) Zq10)), ?_⟩
    obtain ⟨dx, ob⟩ := F.ob
    obtain ⟨kvs, c1, c2, c3⟩ := F.c
    refine ⟨_, rfl, _, rfl, L.p, C, dx, _, _, rfl, ob, Tc.cl, Tc.nc, ff_c _ _ _ _, L.dc, _, rfl, DGet.k (k := Sum.inr n) c1, _, rfl, ?_⟩
    rw [c3, hn]
    exact iteF k
def spThere (C : Addr) : Sp := fun vs H Q _ => ∃ (L : FL) (ds : List Deed) (n : Str) (d day : Int), vs = [.ref L.p, .str n, .int day] /\ FolkAt C H L ds /\ Zq9 ds n = some d /\ d <= day /\ Q .non H
abbrev Zq50 : Stmt := Zq63 (top 21) 18
theorem Zq203 : FnScope ["self", "name", "day"] ["self", "name", "day"] (Zq1 Zq50) := ⟨rfl, rfl, rfl, by decide +kernel, rfl, by decide +kernel, by decide +kernel⟩
theorem Nq205 : Nm (Zq1 Zq50) "NotYet" .globalImplicit := by decide +kernel
theorem Nq89 : Nm (Zq1 Zq50) "day" .local := by decide +kernel
theorem Nq90 : Nm (Zq1 Zq50) "name" .local := by decide +kernel
theorem Nq127 : Nm (Zq1 Zq50) "self" .local := by decide +kernel
theorem Zq293 (Zq74 : HasM K C "check_there" "Folk.check_there" Zq50) (Tc : TxC K C) : Mt P w K mg base C "check_there" ["self", "name", "day"] 1 (spThere C) := by
  refine Zq74.mtQ Zq203 (fun _ _ _ _ _ _ us hl => match us, hl with | [_, _, _], _ => rfl) (fun vs H Q E h => ?_) (fun f cdv A outer s H vs Q E hr h => ?_)
  · obtain ⟨L, ds, n, d, day, rfl, _⟩ := h
    rfl
  · obtain ⟨L, ds, n, d, day, rfl, F, hn, hd, k⟩ := h
    refine ⟨_, (Zq5 (Zq19 (Zq8 Zq192 (qvN 2 Nq89) (Zq123 hr (Zq43 (qvN 0 Nq127)) (qvN 1 Nq90) (fun _ _ => rfl)) (Zq12 _)) (Zq5 Zq131) Zq10)), ?_⟩
    obtain ⟨dx, ob⟩ := F.ob
    obtain ⟨kvs, c1, c2, c3⟩ := F.c
    have g := DGet.k (k := Sum.inr n) c1
    rw [c3, hn] at g
    refine ⟨_, rfl, _, rfl, L.p, C, dx, _, _, rfl, ob, Tc.cl, Tc.nc, ff_c _ _ _ _, _, rfl, L.dc, .int d, rfl, g, ?_⟩
    exact ⟨_, _, rfl, rfl, _, rfl, iteD (fun z => absurd z (by lia)) (fun _ => k)⟩
def spDiedBy (C : Addr) : Sp := fun vs H Q _ => ∃ (L : FL) (ds : List Deed) (n : Str) (day : Int), vs = [.ref L.p, .str n, .int day] /\ FolkAt C H L ds /\ Q (.bl (Zq72 ds n day)) H
abbrev Zq114 : Stmt := Zq63 (top 21) 11
theorem Zq272 : FnScope ["self", "name", "day"] ["self", "name", "day"] (Zq1 Zq114) := ⟨rfl, rfl, rfl, by decide +kernel, rfl, by decide +kernel, by decide +kernel⟩
theorem Nq206 : Nm (Zq1 Zq114) "day" .local := by decide +kernel
theorem Nq128 : Nm (Zq1 Zq114) "name" .local := by decide +kernel
theorem Nq129 : Nm (Zq1 Zq114) "self" .local := by decide +kernel
theorem Zq320 (Zq207 : HasM K C "died_by" "Folk.died_by" Zq114) (Tc : TxC K C) : Mt P w K mg base C "died_by" ["self", "name", "day"] 1 (spDiedBy C) := by
  refine Zq207.mtQ Zq272 (fun _ _ _ _ _ _ us hl => match us, hl with | [_, _, _], _ => rfl) (fun vs H Q E h => ?_) (fun f cdv A outer s H vs Q E hr h => ?_)
  · obtain ⟨L, ds, n, day, rfl, _⟩ := h
    rfl
  · obtain ⟨L, ds, n, day, rfl, F, k⟩ := h
    refine ⟨_, (Zq5 (Zq11 (Zq215 (Zq136 (Zq206 hr) (qvN 1 Nq128) (Zq43 (qvN 0 Nq129)) rfl) (Zq214 (Zq136 Zq80 (Zq123 hr (Zq43 (qvN 0 Nq129)) (qvN 1 Nq128) (fun _ _ => rfl)) (qvN 2 Nq206) (Zq12 _)))))), ?_⟩
    obtain ⟨dx, ob⟩ := F.ob
    obtain ⟨kvs, c1, c2, c3⟩ := F.d
    have g := DGet.k (k := Sum.inr n) c1
    rw [c3] at g
    unfold Zq72 at k
    refine ⟨_, rfl, _, rfl, L.p, C, dx, _, _, rfl, ob, Tc.cl, Tc.nd, ff_d _ _ _ _, L.dd, _, rfl, g, _, rfl, ?_⟩
    cases e : Zq20 ds n with
    | none =>
      rw [e] at k
      exact iteF k
    | some x =>
      rw [e] at k g
      refine iteT ?_
      exact ⟨_, rfl, L.p, C, dx, _, _, rfl, ob, Tc.cl, Tc.nd, ff_d _ _ _ _, _, rfl, L.dd, .int x.1, rfl, g, _, rfl, _, _, rfl, rfl, k⟩
def spDead (C : Addr) : Sp := fun vs H Q _ => ∃ (L : FL) (ds : List Deed) (n : Str) (d day : Int), vs = [.ref L.p, .str n, .int day] /\ FolkAt C H L ds /\ Zq9 ds n = some d /\ 0 <= day /\ day <= 9999 /\ Q (.bl (Zq72 ds n day)) H
abbrev Zq109 : Stmt := Zq63 (top 21) 7
theorem Zq256 : FnScope ["self", "name", "day"] ["self", "name", "day"] (Zq1 Zq109) := ⟨rfl, rfl, rfl, by decide +kernel, rfl, by decide +kernel, by decide +kernel⟩
theorem Nq130 : Nm (Zq1 Zq109) "check_day" .globalImplicit := by decide +kernel
theorem Nq49 : Nm (Zq1 Zq109) "day" .local := by decide +kernel
theorem Nq50 : Nm (Zq1 Zq109) "name" .local := by decide +kernel
theorem Nq51 : Nm (Zq1 Zq109) "self" .local := by decide +kernel
theorem Zq335 (Zq149 : HasM K C "dead" "Folk.dead" Zq109) (Tc : TxC K C) (Zq31 : Fn P w K mg base "check_day" ["day"] 1 Zq238) (M_check_known : Mt P w K mg base C "check_known" ["self", "name"] 1 (Zq189 C)) (M_died_by : Mt P w K mg base C "died_by" ["self", "name", "day"] 1 (spDiedBy C)) :
    Mt P w K mg base C "dead" ["self", "name", "day"] 2 (spDead C) := by
  refine Zq149.mtQ Zq256 (fun _ _ _ _ _ _ us hl => match us, hl with | [_, _, _], _ => rfl) (fun vs H Q E h => ?_) (fun f cdv A outer s H vs Q E hr h => ?_)
  · obtain ⟨L, ds, n, d, day, rfl, _⟩ := h
    rfl
  · obtain ⟨L, ds, n, d, day, rfl, F, hn, d0, d1, k⟩ := h
    refine ⟨_, (Zq3 (Zq23 (Zq17 Zq31 (hr.mono (by lia)) Nq130 (Zq0 (qvN 2 Nq49) Zq2)))
 (Zq3 (Zq23 (Zq70 (qvN 0 Nq51) Tc.cl M_check_known (hr.mono (by lia)) (Zq0 (qvN 1 Nq50) Zq2)))
 (Zq5 (Zq11 (Zq70 (qvN 0 Nq51) Tc.cl M_died_by (hr.mono (by lia)) (Zq0 (qvN 1 Nq50) (Zq0 (qvN 2 Nq49) Zq2))))))), ?_⟩
    obtain ⟨dx, ob⟩ := F.ob
    refine ⟨_, rfl, day, rfl, d0, d1, ?_⟩
    refine ⟨_, rfl, L.p, dx, _, rfl, ob, Zq52 _ _ _ _ (by decide +kernel), _, rfl, L, ds, n, d, rfl, F, hn, ?_⟩
    exact ⟨_, rfl, L.p, dx, _, rfl, ob, Zq52 _ _ _ _ (by decide +kernel), _, rfl, _, rfl, L, ds, n, day, rfl, F, k⟩
def spStandIn (C : Addr) : Sp := fun vs H Q _ => ∃ (L : FL) (ds : List Deed) (n m : Str) (day : Int) (b : Nat), vs = [.ref L.p, .str n, .int day] /\ FolkAt C H L ds /\ Stands ds day b n m /\ Q (.str m) H
abbrev Zq103 : Stmt := Zq63 (top 21) 10
theorem Zq231 : FnScope ["self", "name", "day"] ["self", "name", "day"] (Zq1 Zq103) := ⟨rfl, rfl, rfl, by decide +kernel, rfl, by decide +kernel, by decide +kernel⟩
theorem Nq207 : Nm (Zq1 Zq103) "day" .local := by decide +kernel
theorem Nq52 : Nm (Zq1 Zq103) "name" .local := by decide +kernel
theorem Nq131 : Nm (Zq1 Zq103) "self" .local := by decide +kernel
theorem Zq316 (Zq195 : HasM K C "stand_in" "Folk.stand_in" Zq103) (Tc : TxC K C) (M_died_by : Mt P w K mg base C "died_by" ["self", "name", "day"] 1 (spDiedBy C)) :
    Mt P w K mg base C "stand_in" ["self", "name", "day"] 2 (spStandIn C) := by
  refine Zq195.mtQ Zq231 (fun _ _ _ _ _ _ us hl => match us, hl with | [_, _, _], _ => rfl) (fun vs H Q E h => ?_) (fun f cdv A outer s H vs Q E hr h => ?_)
  · obtain ⟨L, ds, n, m, day, b, rfl, _⟩ := h
    rfl
  · obtain ⟨L, ds, n, m, day, b, rfl, F, hst, k⟩ := h
    refine ⟨_, (Zq3 (qs_while PassesOwn.never (Zq126 (Zq70 (qvN 0 Nq131) Tc.cl M_died_by (hr.mono (by lia)) (Zq0 (qvN 1 Nq52) (Zq0 (qvN 2 Nq207) Zq2))))
  (Zq5 (Zq26 (i := 1) Zq231.nd Nq52 (Zq123 hr (Zq43 (qvN 0 Nq131)) (qvN 1 Nq52) (fun _ _ => rfl)))))
 (Zq5 (Zq11 (qvN 1 Nq52)))), ?_⟩
    obtain ⟨dx, ob⟩ := F.ob
    obtain ⟨kvs, c1, c2, c3⟩ := F.h
    refine ⟨fun j σ H' => ∃ x, σ = [some (.ref L.p), some (.str x), some (.int day)] /\ H' = H /\ Stands ds day j x m, ⟨b, n, rfl, rfl, hst⟩, ?_⟩
    rintro j σ H' ⟨x, rfl, rfl, hx⟩
    refine ⟨_, rfl, L.p, dx, _, rfl, ob, Zq52 _ _ _ _ (by decide +kernel), _, rfl, _, rfl, L, ds, x, day, rfl, F, ?_⟩
    refine ⟨_, rfl, ?_⟩
    cases hx with
    | here e =>
      rw [e]
      exact iteF ⟨_, rfl, k⟩
    | step e1 e2 e3 =>
      rename_i y j'
      rw [e2]
      have g := DGet.k (k := Sum.inr x) c1
      rw [c3, e1] at g
      refine iteT ⟨fun σ' H'' => ∃ m', m' < j' + 1 /\ ∃ x, σ' = [some (.ref L.p), some (.str x), some (.int day)] /\ H'' = H' /\ Stands ds day m' x m, fun _ _ h => h, ?_⟩
      exact ⟨_, rfl, L.p, C, dx, _, _, rfl, ob, Tc.cl, Tc.nh, ff_h _ _ _ _, _, rfl, L.dh, .str y.2, rfl, g, j', by lia, y.2, rfl, rfl, e3⟩
def spStands (C : Addr) : Sp := fun vs H Q _ => ∃ (L : FL) (ds : List Deed) (n m : Str) (d day : Int) (b : Nat), vs = [.ref L.p, .str n, .int day] /\ FolkAt C H L ds /\ Zq9 ds n = some d /\ 0 <= day /\ day <= 9999 /\ Stands ds day b n m /\ Q (.str m) H
abbrev Zq54 : Stmt := Zq63 (top 21) 8
theorem Zq217 : FnScope ["self", "name", "day"] ["self", "name", "day"] (Zq1 Zq54) := ⟨rfl, rfl, rfl, by decide +kernel, rfl, by decide +kernel, by decide +kernel⟩
theorem Nq132 : Nm (Zq1 Zq54) "check_day" .globalImplicit := by decide +kernel
theorem Nq53 : Nm (Zq1 Zq54) "day" .local := by decide +kernel
theorem Nq54 : Nm (Zq1 Zq54) "name" .local := by decide +kernel
theorem Nq55 : Nm (Zq1 Zq54) "self" .local := by decide +kernel
theorem Zq303 (Zq84 : HasM K C "stands_for" "Folk.stands_for" Zq54) (Tc : TxC K C) (Zq31 : Fn P w K mg base "check_day" ["day"] 1 Zq238) (M_check_known : Mt P w K mg base C "check_known" ["self", "name"] 1 (Zq189 C)) (M_stand_in : Mt P w K mg base C "stand_in" ["self", "name", "day"] 2 (spStandIn C)) :
    Mt P w K mg base C "stands_for" ["self", "name", "day"] 3 (spStands C) := by
  refine Zq84.mtQ Zq217 (fun _ _ _ _ _ _ us hl => match us, hl with | [_, _, _], _ => rfl) (fun vs H Q E h => ?_) (fun f cdv A outer s H vs Q E hr h => ?_)
  · obtain ⟨L, ds, n, m, d, day, b, rfl, _⟩ := h
    rfl
  · obtain ⟨L, ds, n, m, d, day, b, rfl, F, hn, d0, d1, hst, k⟩ := h
    refine ⟨_, (Zq3 (Zq23 (Zq17 Zq31 (hr.mono (by lia)) Nq132 (Zq0 (qvN 2 Nq53) Zq2)))
 (Zq3 (Zq23 (Zq70 (qvN 0 Nq55) Tc.cl M_check_known (hr.mono (by lia)) (Zq0 (qvN 1 Nq54) Zq2)))
 (Zq5 (Zq11 (Zq70 (qvN 0 Nq55) Tc.cl M_stand_in (hr.mono (by lia)) (Zq0 (qvN 1 Nq54) (Zq0 (qvN 2 Nq53) Zq2))))))), ?_⟩
    obtain ⟨dx, ob⟩ := F.ob
    refine ⟨_, rfl, day, rfl, d0, d1, ?_⟩
    refine ⟨_, rfl, L.p, dx, _, rfl, ob, Zq52 _ _ _ _ (by decide +kernel), _, rfl, L, ds, n, d, rfl, F, hn, ?_⟩
    exact ⟨_, rfl, L.p, dx, _, rfl, ob, Zq52 _ _ _ _ (by decide +kernel), _, rfl, _, rfl, L, ds, n, m, day, b, rfl, F, hst, k⟩
end
section
variable {P : Program} {w : World} {K : PySem.W.Frag} {mg : Str -> Option Value} {base : Heap} {C : Addr}
def spInit (C : Addr) : Sp := fun vs H Q _ => ∃ (p dx : Addr), vs = [.ref p] /\ H p = some (.ins C dx []) /\ ∀ (L : FL) (H' : Hp), L.p = p -> FolkAt C H' L [] -> (∀ b o, H b = some o -> b ≠ p -> H' b = some o) -> Q .non H'
abbrev Zq156 : Stmt := Zq63 (top 21) 0
theorem Zq268 : FnScope ["self"] ["self"] (Zq1 Zq156) := ⟨rfl, rfl, rfl, by decide +kernel, rfl, by decide +kernel, by decide +kernel⟩
theorem Nq56 : Nm (Zq1 Zq156) "self" .local := by decide +kernel
theorem Zq336 (Zq196 : HasM K C "__init__" "Folk.__init__" Zq156) (Tc : TxC K C) : Mt P w K mg base C "__init__" ["self"] 1 (spInit C) := by
  refine Zq196.mtQ Zq268 (fun _ _ _ _ _ _ us hl => match us, hl with | [_], _ => rfl) (fun vs H Q E h => ?_) (fun f cdv A outer s H vs Q E hr h => ?_)
  · obtain ⟨p, dx, rfl, _⟩ := h
    rfl
  · obtain ⟨p, dx, rfl, hp, k⟩ := h
    refine ⟨_, (Zq3 (qs_fld (qvN 0 Nq56) qe_dnewK)
 (Zq3 (qs_fld (qvN 0 Nq56) qe_dnewK)
 (Zq3 (qs_fld (qvN 0 Nq56) qe_dnewK)
 (Zq5 (qs_fld (qvN 0 Nq56) qe_dnewK))))), ?_⟩
    intro dc hdc
    have p1 : p ≠ dc := Zq13 hp hdc
    refine ⟨_, rfl, p, C, dx, [], rfl, (by rw [Zq6 p1]; exact hp), Tc.cl, Tc.nc, (by show 0 < 1000; decide), ?_⟩
    have g1 : (upd (upd H dc (.dK [])) p (.ins C dx (putF "comings" (.ref dc) []))) p = some (.ins C dx (putF "comings" (.ref dc) [])) := Zq7
    have c1 : (upd (upd H dc (.dK [])) p (.ins C dx (putF "comings" (.ref dc) []))) dc = some (.dK []) := by rw [Zq6 p1.symm, Zq7]
    have s1 : ∀ b o, H b = some o -> b ≠ p -> (upd (upd H dc (.dK [])) p (.ins C dx (putF "comings" (.ref dc) []))) b = some o := fun b o e n => by rw [Zq6 n, Zq6 (Zq13 e hdc)]; exact e
    generalize (upd (upd H dc (.dK [])) p (.ins C dx (putF "comings" (.ref dc) []))) = H1 at g1 c1 s1 ⊢
    intro dw hdw
    have p2 : p ≠ dw := Zq13 g1 hdw
    have q1 : dc ≠ dw := Zq13 c1 hdw
    refine ⟨_, rfl, p, C, dx, _, rfl, (by rw [Zq6 p2]; exact g1), Tc.cl, Tc.nw, (by show 1 < 1000; decide), ?_⟩
    have g2 : (upd (upd H1 dw (.dK [])) p (.ins C dx (putF "weights" (.ref dw) (putF "comings" (.ref dc) [])))) p = some (.ins C dx (putF "weights" (.ref dw) (putF "comings" (.ref dc) []))) := Zq7
    have c2 : (upd (upd H1 dw (.dK [])) p (.ins C dx (putF "weights" (.ref dw) (putF "comings" (.ref dc) [])))) dc = some (.dK []) := by rw [Zq6 p1.symm, Zq6 q1]; exact c1
    have w2 : (upd (upd H1 dw (.dK [])) p (.ins C dx (putF "weights" (.ref dw) (putF "comings" (.ref dc) [])))) dw = some (.dK []) := by rw [Zq6 p2.symm, Zq7]
    have s2 : ∀ b o, H b = some o -> b ≠ p -> (upd (upd H1 dw (.dK [])) p (.ins C dx (putF "weights" (.ref dw) (putF "comings" (.ref dc) [])))) b = some o := fun b o e n => by rw [Zq6 n, Zq6 (Zq13 (s1 b o e n) hdw)]; exact s1 b o e n
    generalize (upd (upd H1 dw (.dK [])) p (.ins C dx (putF "weights" (.ref dw) (putF "comings" (.ref dc) [])))) = H2 at g2 c2 w2 s2 ⊢
    intro dd hdd
    have p3 : p ≠ dd := Zq13 g2 hdd
    have q2 : dc ≠ dd := Zq13 c2 hdd
    have q3 : dw ≠ dd := Zq13 w2 hdd
    have z1 : (putF "comings" (V.ref dc) []).length <= 0 + 1 := length_putF "comings" (V.ref dc) []
    have z2 := length_putF "weights" (V.ref dw) (putF "comings" (V.ref dc) [])
    have z3 := length_putF "deaths" (V.ref dd) (putF "weights" (V.ref dw) (putF "comings" (V.ref dc) []))
    refine ⟨_, rfl, p, C, dx, _, rfl, (by rw [Zq6 p3]; exact g2), Tc.cl, Tc.nd, (by lia), ?_⟩
    have g3 : (upd (upd H2 dd (.dK [])) p (.ins C dx (putF "deaths" (.ref dd) (putF "weights" (.ref dw) (putF "comings" (.ref dc) []))))) p = some (.ins C dx (putF "deaths" (.ref dd) (putF "weights" (.ref dw) (putF "comings" (.ref dc) [])))) := Zq7
    have c3 : (upd (upd H2 dd (.dK [])) p (.ins C dx (putF "deaths" (.ref dd) (putF "weights" (.ref dw) (putF "comings" (.ref dc) []))))) dc = some (.dK []) := by rw [Zq6 p1.symm, Zq6 q2]; exact c2
    have w3 : (upd (upd H2 dd (.dK [])) p (.ins C dx (putF "deaths" (.ref dd) (putF "weights" (.ref dw) (putF "comings" (.ref dc) []))))) dw = some (.dK []) := by rw [Zq6 p2.symm, Zq6 q3]; exact w2
    have d3 : (upd (upd H2 dd (.dK [])) p (.ins C dx (putF "deaths" (.ref dd) (putF "weights" (.ref dw) (putF "comings" (.ref dc) []))))) dd = some (.dK []) := by rw [Zq6 p3.symm, Zq7]
    have s3 : ∀ b o, H b = some o -> b ≠ p -> (upd (upd H2 dd (.dK [])) p (.ins C dx (putF "deaths" (.ref dd) (putF "weights" (.ref dw) (putF "comings" (.ref dc) []))))) b = some o := fun b o e n => by rw [Zq6 n, Zq6 (Zq13 (s2 b o e n) hdd)]; exact s2 b o e n
    generalize (upd (upd H2 dd (.dK [])) p (.ins C dx (putF "deaths" (.ref dd) (putF "weights" (.ref dw) (putF "comings" (.ref dc) []))))) = H3 at g3 c3 w3 d3 s3 ⊢
    intro dh hdh
    have p4 : p ≠ dh := Zq13 g3 hdh
    have q4 : dc ≠ dh := Zq13 c3 hdh
    have q5 : dw ≠ dh := Zq13 w3 hdh
    have q6 : dd ≠ dh := Zq13 d3 hdh
    refine ⟨_, rfl, p, C, dx, _, rfl, (by rw [Zq6 p4]; exact g3), Tc.cl, Tc.nh, (by lia), ?_⟩
    refine k ⟨p, dc, dw, dd, dh⟩ _ rfl ⟨⟨dx, Zq7⟩, ⟨[], ?_, Nat.le_refl _, fun n => rfl⟩, ⟨[], ?_, Nat.le_refl _⟩, ⟨[], ?_, Nat.le_refl _, fun n => rfl⟩, ⟨[], ?_, Nat.le_refl _, fun n => rfl⟩, q1, q2, q4, q3, q5, q6⟩ fun b o e n => ?_
    · show (upd (upd H3 dh _) p _) dc = _
      rw [Zq6 p1.symm, Zq6 q4]; exact c3
    · show (upd (upd H3 dh _) p _) dw = _
      rw [Zq6 p2.symm, Zq6 q5]; exact w3
    · show (upd (upd H3 dh _) p _) dd = _
      rw [Zq6 p3.symm, Zq6 q6]; exact d3
    · show (upd (upd H3 dh _) p _) dh = _
      rw [Zq6 p4.symm, Zq7]
    · rw [Zq6 n, Zq6 (Zq13 (s3 b o e n) hdh)]; exact s3 b o e n
end
section
variable {P : Program} {w : World} {K : PySem.W.Frag} {mg : Str -> Option Value} {base : Heap} {C : Addr}
def spCameF (C : Addr) : Sp := fun vs H Q _ => ∃ (L : FL) (ds : List Deed) (n : Str) (d : Int), vs = [.ref L.p, .str n] /\ FolkAt C H L ds /\ Zq9 ds n = some d /\ Q (.int d) H
abbrev Zq150 : Stmt := Zq63 (top 21) 5
theorem Zq257 : FnScope ["self", "name"] ["self", "name"] (Zq1 Zq150) := ⟨rfl, rfl, rfl, by decide +kernel, rfl, by decide +kernel, by decide +kernel⟩
theorem Nq57 : Nm (Zq1 Zq150) "name" .local := by decide +kernel
theorem Nq58 : Nm (Zq1 Zq150) "self" .local := by decide +kernel
theorem Zq337 (Zq151 : HasM K C "came" "Folk.came" Zq150) (Tc : TxC K C) (M_check_known : Mt P w K mg base C "check_known" ["self", "name"] 1 (Zq189 C)) : Mt P w K mg base C "came" ["self", "name"] 2 (spCameF C) := by
  refine Zq151.mtQ Zq257 (fun _ _ _ _ _ _ us hl => match us, hl with | [_, _], _ => rfl) (fun vs H Q E h => ?_) (fun f cdv A outer s H vs Q E hr h => ?_)
  · obtain ⟨L, ds, n, d, rfl, _⟩ := h
    rfl
  · obtain ⟨L, ds, n, d, rfl, F, hn, k⟩ := h
    refine ⟨_, (Zq3 (Zq23 (Zq70 (qvN 0 Nq58) Tc.cl M_check_known (hr.mono (by lia)) (Zq0 (qvN 1 Nq57) Zq2)))
 (Zq5 (Zq11 (Zq123 hr (Zq43 (qvN 0 Nq58)) (qvN 1 Nq57) (fun _ _ => rfl))))), ?_⟩
    obtain ⟨dx, ob⟩ := F.ob
    obtain ⟨kvs, c1, c2, c3⟩ := F.c
    have g := DGet.k (k := Sum.inr n) c1
    rw [c3, hn] at g
    refine ⟨_, rfl, L.p, dx, _, rfl, ob, Zq52 _ _ _ _ (by decide +kernel), _, rfl, L, ds, n, d, rfl, F, hn, ?_⟩
    exact ⟨_, rfl, L.p, C, dx, _, _, rfl, ob, Tc.cl, Tc.nc, ff_c _ _ _ _, _, rfl, L.dc, .int d, rfl, g, k⟩
end
section
variable {P : Program} {w : World} {K : PySem.W.Frag} {mg : Str -> Option Value} {base : Heap} {C : Addr}
def Zq58 (f : Str -> Option (List (Key × V))) : Deed -> Str -> Option (List (Key × V))
  | .come n d w, m => if m = n then some [(.inl d, .int w)] else f m
  | .rise n d w, m => if m = n then (f m).map fun l => putK l (.inl d) (.int w) else f m
  | .die _ _ _, m => f m
def kw (ds : List Deed) : Str -> Option (List (Key × V)) := ds.foldl Zq58 fun _ => none
theorem Zq140 (ds : List Deed) (x : Deed) : kw (ds ++ [x]) = Zq58 (kw ds) x := by
  unfold kw
  rw [List.foldl_append]
  rfl
theorem kw_take {ds : List Deed} {i : Nat} {x : Deed} (h : ds[i]? = some x) : kw (ds.take (i + 1)) = Zq58 (kw (ds.take i)) x := by
  rw [List.take_add_one, h]
  exact Zq140 _ _
def Zq29 : List Deed -> List Str
  | [] => []
  | .come n _ _ :: r => n :: Zq29 r
  | .rise _ _ _ :: r => Zq29 r
  | .die _ _ _ :: r => Zq29 r
theorem Zq129 (a b : List Deed) : Zq29 (a ++ b) = Zq29 a ++ Zq29 b := by
  induction a with
  | nil => rfl
  | cons x r ih => cases x <;> simp [Zq29, ih]
theorem comOf_rise {ds : List Deed} {n : Str} {d w : Int} (x : Str) : Zq9 (ds ++ [.rise n d w]) x = Zq9 ds x := by
  rw [Zq162, Zq9, Zq9]
  cases Zq9 ds x <;> rfl
theorem dieOf_rise {ds : List Deed} {n : Str} {d w : Int} (x : Str) : Zq20 (ds ++ [.rise n d w]) x = Zq20 ds x := by
  rw [dieOf_app, Zq20, Zq20]
  cases Zq20 ds x <;> rfl
theorem mem_putK {l : List (Key × V)} {k : Key} {v : V} {p : Key × V} (h : p ∈ putK l k v) : p = (k, v) \/ p ∈ l := by
  unfold putK at h
  split at h
  · obtain ⟨q, hq, e⟩ := List.mem_map.mp h
    split at e
    · rename_i e2
      rw [← e, e2]; exact .inl rfl
    · rw [← e]; exact .inr hq
  · rcases List.mem_append.mp h with z | z
    · exact .inr z
    · exact .inl (List.mem_singleton.mp z)
def IntsK (l : List (Key × V)) : Prop := ∀ p ∈ l, ∃ (d w : Int), p = (.inl d, .int w)
theorem kw_ints : ∀ (ds : List Deed) (f : Str -> Option (List (Key × V))), (∀ n l, f n = some l -> IntsK l) -> ∀ n l, ds.foldl Zq58 f n = some l -> IntsK l
  | [], f, h, n, l, e => h n l e
  | x :: r, f, h, n, l, e => by
    refine kw_ints r (Zq58 f x) (fun m l' e' => ?_) n l e
    cases x with
    | come n' d w' =>
      rw [Zq58] at e'
      split at e'
      · cases e'; intro p hp; exact ⟨d, w', List.mem_singleton.mp hp⟩
      · exact h m l' e'
    | rise n' d w' =>
      rw [Zq58] at e'
      split at e'
      · cases e2 : f m with
        | none => rw [e2] at e'; cases e'
        | some l0 =>
          rw [e2] at e'
          cases e'
          intro p hp
          rcases mem_putK hp with rfl | hp
          · exact ⟨d, w', rfl⟩
          · exact h m l0 e2 p hp
      · exact h m l' e'
    | die n' d h' => exact h m l' e'
theorem kw_int {ds : List Deed} {n : Str} {l : List (Key × V)} (h : kw ds n = some l) : IntsK l := kw_ints ds _ (fun _ _ z => by cases z) n l h
def IsW (kv : Option (List (Key × V))) (day wt : Int) : Prop := ∃ l m, kv = some l /\ valV l (.inl m) = some (.int wt) /\ m <= day /\ ∀ d v, valV l (.inl d) = some v -> d <= day -> d <= m
def Bst (kv : Option (List (Key × V))) (day last found : Int) : Prop := (kv = none /\ last = -1 /\ found = 0) \/ ∃ l, kv = some l /\ ((last = -1 /\ found = 0 /\ ∀ d v, valV l (.inl d) = some v -> ¬ d <= day) \/
  (0 <= last /\ last <= day /\ valV l (.inl last) = some (.int found) /\ ∀ d v, valV l (.inl d) = some v -> d <= day -> d <= last))
theorem val1 {d : Int} {v : V} {j : Int} : valV [((.inl d : Key), v)] (.inl j) = if j = d then some v else none := by
  by_cases e : j = d
  · subst e; rw [if_pos rfl]; exact Zq104 rfl
  · rw [if_neg e]; simp [valV, List.find?_cons, Ne.symm e]
theorem valP {l : List (Key × V)} {d j : Int} {v : V} : valV (putK l (.inl d) v) (.inl j) = if j = d then some v else valV l (.inl j) := by
  rw [valV_put]
  by_cases e : j = d
  · rw [if_pos e, if_pos (by rw [e])]
  · rw [if_neg e, if_neg (fun z => e (Sum.inl.inj z))]
theorem bst_come {f : Str -> Option (List (Key × V))} {n : Str} {d w day last found : Int} (h : Bst (f n) day last found) (hf : f n = none) (hd : 0 <= d) :
    (last <= d -> d <= day -> Bst (Zq58 f (.come n d w) n) day d w) /\ (¬ (last <= d /\ d <= day) -> Bst (Zq58 f (.come n d w) n) day last found) := by
  rw [Zq58, if_pos rfl]
  rcases h with ⟨_, h1, h2⟩ | ⟨l, e, _⟩
  · refine ⟨fun _ a => .inr ⟨_, rfl, .inr ⟨hd, a, by rw [val1, if_pos rfl], fun d' v e _ => ?_⟩⟩, fun a => .inr ⟨_, rfl, .inl ⟨h1, h2, fun d' v e a2 => ?_⟩⟩⟩
    · rw [val1] at e
      by_cases z : d' = d
      · lia
      · rw [if_neg z] at e; cases e
    · rw [val1] at e
      by_cases z : d' = d
      · exact a ⟨by lia, by lia⟩
      · rw [if_neg z] at e; cases e
  · rw [hf] at e; cases e
theorem bst_rise {f : Str -> Option (List (Key × V))} {n : Str} {l0 : List (Key × V)} {d w day last found : Int} (h : Bst (f n) day last found) (hf : f n = some l0) (hd : 0 <= d) :
    (last <= d -> d <= day -> Bst (Zq58 f (.rise n d w) n) day d w) /\ (¬ (last <= d /\ d <= day) -> Bst (Zq58 f (.rise n d w) n) day last found) := by
  rw [Zq58, if_pos rfl, hf]
  rw [hf] at h
  rcases h with ⟨e, _⟩ | ⟨l, e, h⟩
  · cases e
  cases e
  refine ⟨fun a b => .inr ⟨_, rfl, .inr ⟨hd, b, by rw [valP, if_pos rfl], fun d' v e c => ?_⟩⟩, fun a => .inr ⟨_, rfl, ?_⟩⟩
  · rw [valP] at e
    by_cases z : d' = d
    · lia
    · rw [if_neg z] at e
      rcases h with ⟨_, _, h⟩ | ⟨_, _, _, h⟩
      · exact absurd c (h d' v e)
      · have := h d' v e c; lia
  · rcases h with ⟨h1, h2, h3⟩ | ⟨h1, h2, h3, h4⟩
    · refine .inl ⟨h1, h2, fun d' v e c => ?_⟩
      rw [valP] at e
      by_cases z : d' = d
      · exact a ⟨by lia, by lia⟩
      · rw [if_neg z] at e; exact h3 d' v e c
    · refine .inr ⟨h1, h2, ?_, fun d' v e c => ?_⟩
      · rw [valP, if_neg (fun z => a ⟨by lia, by lia⟩)]; exact h3
      · rw [valP] at e
        by_cases z : d' = d
        · rcases Int.lt_or_le d last with y | y
          · lia
          · exact absurd ⟨y, by lia⟩ a
        · rw [if_neg z] at e; exact h4 d' v e c
theorem bst_isW {kv : Option (List (Key × V))} {day last found d0 : Int} {l : List (Key × V)} {v : V} (h : Bst kv day last found) (e : kv = some l) (hv : valV l (.inl d0) = some v) (hd : d0 <= day) : IsW kv day found := by
  rcases h with ⟨z, _⟩ | ⟨l', e', h⟩
  · rw [e] at z; cases z
  · rw [e] at e'
    cases e'
    rcases h with ⟨_, _, h⟩ | ⟨_, h2, h3, h4⟩
    · exact absurd hd (h d0 v hv)
    · exact ⟨l, last, e, h3, h2, h4⟩
theorem isW_det {kv : Option (List (Key × V))} {day a b : Int} (h : IsW kv day a) (h' : IsW kv day b) : a = b := by
  obtain ⟨l, m, e, h1, h2, h3⟩ := h
  obtain ⟨l', m', e', h1', h2', h3'⟩ := h'
  rw [e] at e'
  cases e'
  have x1 := h3 m' _ h1' h2'
  have x2 := h3' m _ h1 h2
  have em : m = m' := by lia
  subst em
  rw [h1] at h1'
  cases h1'
  rfl
theorem kw_some : ∀ (ds : List Deed) (f : Str -> Option (List (Key × V))) (g : Str -> Option Int), (∀ m, (f m).isSome = (g m).isSome) -> ∀ m, (ds.foldl Zq58 f m).isSome = ((g m).or (Zq9 ds m)).isSome
  | [], f, g, h, m => by rw [Zq9]; show (f m).isSome = _; rw [h m]; cases g m <;> rfl
  | x :: r, f, g, h, m => by
    have e : Zq9 (x :: r) m = (Zq9 [x] m).or (Zq9 r m) := Zq162 [x] r m
    have ih := kw_some r (Zq58 f x) (fun m => (g m).or (Zq9 [x] m)) (fun m => ?_) m
    · rw [List.foldl_cons, ih, e]
      cases g m <;> rfl
    · cases x with
      | come n d w =>
        rw [Zq58, Zq9, Zq9]
        by_cases z : m = n
        · rw [if_pos z, if_pos z.symm]; cases g m <;> rfl
        · rw [if_neg z, if_neg (Ne.symm z), h m]; cases g m <;> rfl
      | rise n d w =>
        rw [Zq58, Zq9, Zq9]
        have hm := h m
        by_cases z : m = n
        · rw [if_pos z]; cases e1 : f m <;> cases e2 : g m <;> rw [e1, e2] at hm <;> first | rfl | cases hm
        · rw [if_neg z]; cases e1 : f m <;> cases e2 : g m <;> rw [e1, e2] at hm <;> first | rfl | cases hm
      | die n d w => rw [Zq58, Zq9, Zq9, h m]; cases g m <;> rfl
theorem kw_com (ds : List Deed) (n : Str) : (kw ds n).isSome = (Zq9 ds n).isSome := by
  have := kw_some ds (fun _ => none) (fun _ => none) (fun _ => rfl) n
  exact this
structure WtsAt (H : Hp) (L : FL) (ds : List Deed) (wa : Str -> Addr) : Prop where
  w : ∃ kvs : List (Key × V), H L.dw = some (.dK kvs) /\ kvs.length <= ds.length /\ ∀ n l, kw ds n = some l -> valV kvs (.inr n) = some (.ref (wa n)) /\ H (wa n) = some (.dK l) /\ l.length <= ds.length
  ord : ∃ kvs : List (Key × V), H L.dc = some (.dK kvs) /\ (kvs.map fun p => kV p.1) = (Zq29 ds).map V.str
  ap : ∀ n l, kw ds n = some l -> wa n ≠ L.dc /\ wa n ≠ L.dw /\ wa n ≠ L.dd /\ wa n ≠ L.dh
  inj : ∀ n m l l', kw ds n = some l -> kw ds m = some l' -> wa n = wa m -> n = m
theorem WtsAt.keep {H H' : Hp} {L : FL} {ds : List Deed} {wa : Str -> Addr} (h : WtsAt H L ds wa) (k : SameN H H') : WtsAt H' L ds wa := by
  obtain ⟨⟨k1, w1, w2, w3⟩, ⟨k2, o1, o2⟩, ap, inj⟩ := h
  exact ⟨⟨k1, k _ _ (fun _ z => nomatch z) w1, w2, fun n l e => let ⟨a, b, c⟩ := w3 n l e; ⟨a, k _ _ (fun _ z => nomatch z) b, c⟩⟩, ⟨k2, k _ _ (fun _ z => nomatch z) o1, o2⟩, ap, inj⟩
theorem WtsAt.start {H : Hp} {L : FL} {wa : Str -> Addr} (h : FolkAt C H L []) : WtsAt H L [] wa := by
  obtain ⟨k, w1, w2⟩ := h.w
  obtain ⟨k2, c1, c2, _⟩ := h.c
  exact ⟨⟨k, w1, w2, (fun n l e => by cases e)⟩, ⟨k2, c1, by rw [List.eq_nil_of_length_eq_zero (Nat.le_zero.mp c2)]; rfl⟩, (fun n l e => by cases e), (fun n m l l' e => by cases e)⟩
def WAll (H : Hp) (L : FL) (ds : List Deed) (wa : Str -> Addr) : Prop := ∃ kvs : List (Key × V), H L.dw = some (.dK kvs) /\ ∀ p ∈ kvs, ∃ n l, kw ds n = some l /\ p = (Sum.inr n, V.ref (wa n))
def own (L : FL) (ds : List Deed) (wa : Str -> Addr) (b : Addr) : Prop := b = L.p \/ b = L.dc \/ b = L.dw \/ b = L.dd \/ b = L.dh \/ ∃ n l, kw ds n = some l /\ b = wa n
structure Fk (C : Addr) (H : Hp) (L : FL) (ds : List Deed) (wa : Str -> Addr) : Prop where
  f : FolkAt C H L ds
  w : WtsAt H L ds wa
  all : WAll H L ds wa
def Touch (L : FL) (ds : List Deed) (wa : Str -> Addr) (H H' : Hp) : Prop := ∀ b o, H b = some o -> ¬ own L ds wa b -> H' b = some o
def Fresh (L : FL) (ds : List Deed) (wa : Str -> Addr) (ds' : List Deed) (wa' : Str -> Addr) (H : Hp) : Prop := ∀ b, own L ds' wa' b -> own L ds wa b \/ H b = none
theorem Fk.at {H H' : Hp} {L : FL} {ds : List Deed} {wa : Str -> Addr} (h : Fk C H L ds wa) (k : ∀ b o, own L ds wa b -> H b = some o -> H' b = some o) : Fk C H' L ds wa := by
  obtain ⟨⟨⟨dx, ob⟩, ⟨k1, c1, c2⟩, ⟨k2, w1, w2⟩, ⟨k3, d1, d2⟩, ⟨k4, h1, h2⟩, a1, a2, a3, a4, a5, a6⟩, ⟨⟨k5, x1, x2, x3⟩, ⟨k6, o1, o2⟩, ap, inj⟩, ⟨k7, y1, y2⟩⟩ := h
  have kp := k L.p _ (.inl rfl) ob
  have kc := fun o => k L.dc o (.inr (.inl rfl))
  have kw' := fun o => k L.dw o (.inr (.inr (.inl rfl)))
  exact ⟨⟨⟨dx, kp⟩, ⟨k1, kc _ c1, c2⟩, ⟨k2, kw' _ w1, w2⟩, ⟨k3, k L.dd _ (.inr (.inr (.inr (.inl rfl)))) d1, d2⟩, ⟨k4, k L.dh _ (.inr (.inr (.inr (.inr (.inl rfl))))) h1, h2⟩, a1, a2, a3, a4, a5, a6⟩,
    ⟨⟨k5, kw' _ x1, x2, fun n l e => let ⟨a, b, c⟩ := x3 n l e; ⟨a, k _ _ (.inr (.inr (.inr (.inr (.inr ⟨n, l, e, rfl⟩))))) b, c⟩⟩, ⟨k6, kc _ o1, o2⟩, ap, inj⟩, ⟨k7, kw' _ y1, y2⟩⟩
theorem Fk.there {H : Hp} {L : FL} {ds : List Deed} {wa : Str -> Addr} (h : Fk C H L ds wa) {b : Addr} (hb : own L ds wa b) : ∃ o, H b = some o /\ (∀ xs, o ≠ .lst xs) /\ ∀ xs, o ≠ .tup xs := by
  obtain ⟨⟨⟨dx, ob⟩, ⟨k1, c1, c2⟩, ⟨k2, w1, w2⟩, ⟨k3, d1, d2⟩, ⟨k4, h1, h2⟩, _⟩, ⟨⟨k5, x1, x2, x3⟩, _⟩, _⟩ := h
  rcases hb with rfl | rfl | rfl | rfl | rfl | ⟨n, l, e, rfl⟩
  · exact ⟨_, ob, (fun _ z => nomatch z), (fun _ z => nomatch z)⟩
  · exact ⟨_, c1, (fun _ z => nomatch z), (fun _ z => nomatch z)⟩
  · exact ⟨_, w1, (fun _ z => nomatch z), (fun _ z => nomatch z)⟩
  · exact ⟨_, d1, (fun _ z => nomatch z), (fun _ z => nomatch z)⟩
  · exact ⟨_, h1, (fun _ z => nomatch z), (fun _ z => nomatch z)⟩
  · exact ⟨_, (x3 n l e).2.1, (fun _ z => nomatch z), (fun _ z => nomatch z)⟩
theorem Fk.keep {H H' : Hp} {L : FL} {ds : List Deed} {wa : Str -> Addr} (h : Fk C H L ds wa) (k : SameN H H') : Fk C H' L ds wa := h.at fun b o hb e => by
  obtain ⟨o', e', n1, _⟩ := h.there hb
  rw [e] at e'
  cases e'
  exact k b o n1 e
theorem Touch.lt {H H' : Hp} {L : FL} {ds : List Deed} {wa : Str -> Addr} (h : Fk C H L ds wa) (k : Touch L ds wa H H') : SameLT H H' :=
  ⟨fun b xs e => k b _ e fun hb => by obtain ⟨o', e', n1, _⟩ := h.there hb; rw [e] at e'; cases e'; exact n1 xs rfl, fun b xs e => k b _ e fun hb => by obtain ⟨o', e', _, n2⟩ := h.there hb; rw [e] at e'; cases e'; exact n2 xs rfl⟩
theorem ord_len {H : Hp} {L : FL} {ds : List Deed} {wa : Str -> Addr} (W : WtsAt H L ds wa) {kvs : List (Key × V)} (h : H L.dc = some (.dK kvs)) : kvs.length = (Zq29 ds).length := by
  obtain ⟨k2, o1, o2⟩ := W.ord
  rw [h] at o1
  cases o1
  have := congrArg List.length o2
  rwa [List.length_map, List.length_map] at this
def spChkCome (C : Addr) : Sp := fun vs H Q _ => ∃ (L : FL) (ds : List Deed) (wa : Str -> Addr) (n : Str) (day wt : Int), vs = [.ref L.p, .str n, .int day, .int wt] /\ FolkAt C H L ds /\ WtsAt H L ds wa /\ (Zq29 ds).length < 40 /\ n.length <= 1000 /\ Zq65 n = true /\ 0 <= day /\ day <= 9999 /\ 1 <= wt /\ wt <= 1000 /\ Zq9 ds n = none /\ ∀ H', Same H H' -> Q .non H'
abbrev Zq27 : Stmt := Zq63 (top 21) 14
theorem Zq197 : FnScope ["self", "name", "day", "weight"] ["self", "name", "day", "weight"] (Zq1 Zq27) := ⟨rfl, rfl, rfl, by decide +kernel, rfl, by decide +kernel, by decide +kernel⟩
theorem Nq91 : Nm (Zq1 Zq27) "MOST_FOLK" .globalImplicit := by decide +kernel
theorem Nq208 : Nm (Zq1 Zq27) "NoName" .globalImplicit := by decide +kernel
theorem Nq209 : Nm (Zq1 Zq27) "Taken" .globalImplicit := by decide +kernel
theorem Nq210 : Nm (Zq1 Zq27) "TooMany" .globalImplicit := by decide +kernel
theorem Nq133 : Nm (Zq1 Zq27) "check_day" .globalImplicit := by decide +kernel
theorem Nq134 : Nm (Zq1 Zq27) "check_weight" .globalImplicit := by decide +kernel
theorem Nq135 : Nm (Zq1 Zq27) "day" .local := by decide +kernel
theorem Nq136 : Nm (Zq1 Zq27) "is_name" .globalImplicit := by decide +kernel
theorem Nq137 : Nm (Zq1 Zq27) "len" .globalImplicit := by decide +kernel
theorem Nq21 : Nm (Zq1 Zq27) "name" .local := by decide +kernel
theorem Nq59 : Nm (Zq1 Zq27) "self" .local := by decide +kernel
theorem Nq138 : Nm (Zq1 Zq27) "weight" .local := by decide +kernel
theorem Zq280 (Zq66 : HasM K C "check_coming" "Folk.check_coming" Zq27) (T : Txt mg) (Tc : TxC K C) (C0 : ∃ t, mg "MOST_FOLK" = some (.int 40 t)) (Zq258 : Fn P w K mg base "is_name" ["text"] 1 spIsName) (Zq31 : Fn P w K mg base "check_day" ["day"] 1 Zq238) (Zq95 : Fn P w K mg base "check_weight" ["weight"] 1 spWt) :
    Mt P w K mg base C "check_coming" ["self", "name", "day", "weight"] 2 (spChkCome C) := by
  obtain ⟨t0, c_MOST_FOLK⟩ := C0
  have r_MOST_FOLK : RelV (.int 40) (.int 40 t0) := ⟨t0, rfl⟩
  refine Zq66.mtQ Zq197 (fun _ _ _ _ _ _ us hl => match us, hl with | [_, _, _, _], _ => rfl) (fun vs H Q E h => ?_) (fun f cdv A outer s H vs Q E hr h => ?_)
  · obtain ⟨L, ds, wa, n, day, wt, rfl, _⟩ := h
    rfl
  · obtain ⟨L, ds, wa, n, day, wt, rfl, F0, W0, h40, hln, hnm, d0, d1, w0, w1, hc, k⟩ := h
    refine ⟨_, (Zq3 (Zq19 (Zq145 (Zq126 (Zq17 Zq258 (hr.mono (by lia)) Nq136 (Zq0 (qvN 1 Nq21) Zq2)))) (Zq5 Zq131) Zq10)
 (Zq3 (Zq23 (Zq17 Zq31 (hr.mono (by lia)) Nq133 (Zq0 (qvN 2 Nq135) Zq2)))
 (Zq3 (Zq23 (Zq17 Zq95 (hr.mono (by lia)) Nq134 (Zq0 (qvN 3 Nq138) Zq2)))
 (Zq3 (Zq19 (Zq8 (Zq206 hr) (qvN 1 Nq21) (Zq43 (qvN 0 Nq59)) rfl) (Zq5 Zq131) Zq10)
 (Zq5 (Zq19 (Zq8 qop_ge (Zq18 qcall_lenD Nq137 T.len Zq143 (Zq0 (Zq43 (qvN 0 Nq59)) Zq2)) (Zq34 Nq91 c_MOST_FOLK r_MOST_FOLK) (Zq12 _)) (Zq5 Zq131) Zq10)))))), ?_⟩
    refine ⟨_, rfl, n, rfl, hln, fun H1 s1 => ⟨_, rfl, ?_⟩⟩
    rw [hnm]
    refine iteF ?_
    have F := F0.keep (Same.n s1)
    obtain ⟨dx, ob⟩ := F.ob
    obtain ⟨kvs, c1, c2, c3⟩ := F.c
    have g := DGet.k (k := Sum.inr n) c1
    rw [c3, hc] at g
    have hk := ord_len (W0.keep (Same.n s1)) c1
    refine ⟨_, rfl, day, rfl, d0, d1, ?_⟩
    refine ⟨_, rfl, wt, rfl, w0, w1, ?_⟩
    refine ⟨_, rfl, _, rfl, L.p, C, dx, _, _, rfl, ob, Tc.cl, Tc.nc, ff_c _ _ _ _, L.dc, _, rfl, g, _, rfl, iteF ?_⟩
    refine ⟨_, rfl, L.p, C, dx, _, _, rfl, ob, Tc.cl, Tc.nc, ff_c _ _ _ _, L.dc, kvs, rfl, c1, _, _, rfl, rfl, _, rfl, iteD (fun z => absurd z (by lia)) (fun _ => ?_)⟩
    exact k H1 s1
def spComeW (C : Addr) : Sp := fun vs H Q _ => ∃ (L : FL) (ds : List Deed) (wa : Str -> Addr) (n : Str) (day wt : Int), vs = [.ref L.p, .str n, .int day, .int wt] /\ Fk C H L ds wa /\ (Zq29 ds).length < 40 /\ ds.length <= 1000 /\ n.length <= 1000 /\ Zq65 n = true /\ 0 <= day /\ day <= 9999 /\ 1 <= wt /\ wt <= 1000 /\ Zq9 ds n = none /\
  ∀ (wa' : Str -> Addr) (H' : Hp), Fk C H' L (ds ++ [.come n day wt]) wa' -> Touch L ds wa H H' -> Fresh L ds wa (ds ++ [.come n day wt]) wa' H -> Q .non H'
abbrev Zq110 : Stmt := Zq63 (top 21) 1
theorem Zq259 : FnScope ["self", "name", "day", "weight"] ["self", "name", "day", "weight"] (Zq1 Zq110) := ⟨rfl, rfl, rfl, by decide +kernel, rfl, by decide +kernel, by decide +kernel⟩
theorem Nq22 : Nm (Zq1 Zq110) "day" .local := by decide +kernel
theorem Nq23 : Nm (Zq1 Zq110) "name" .local := by decide +kernel
theorem Nq24 : Nm (Zq1 Zq110) "self" .local := by decide +kernel
theorem Nq60 : Nm (Zq1 Zq110) "weight" .local := by decide +kernel
theorem Zq338 (Zq152 : HasM K C "come" "Folk.come" Zq110) (Tc : TxC K C) (M_check_coming : Mt P w K mg base C "check_coming" ["self", "name", "day", "weight"] 2 (spChkCome C)) :
    Mt P w K mg base C "come" ["self", "name", "day", "weight"] 3 (spComeW C) := by
  refine Zq152.mtQ Zq259 (fun _ _ _ _ _ _ us hl => match us, hl with | [_, _, _, _], _ => rfl) (fun vs H Q E h => ?_) (fun f cdv A outer s H vs Q E hr h => ?_)
  · obtain ⟨L, ds, wa, n, day, wt, rfl, _⟩ := h
    rfl
  · obtain ⟨L, ds, wa, n, day, wt, rfl, K0, h40, hl, hln, hnm, d0, d1, w0, w1, hc, k⟩ := h
    refine ⟨_, (Zq3 (Zq23 (Zq70 (qvN 0 Nq24) Tc.cl M_check_coming (hr.mono (by lia)) (Zq0 (qvN 1 Nq23) (Zq0 (qvN 2 Nq22) (Zq0 (qvN 3 Nq60) Zq2)))))
 (Zq3 (Zq147 hr (Zq43 (qvN 0 Nq24)) (qvN 1 Nq23) (qvN 2 Nq22))
 (Zq5 (Zq147 hr (Zq43 (qvN 0 Nq24)) (qvN 1 Nq23) (qe_disp1 (qvN 2 Nq22) (qvN 3 Nq60)))))), ?_⟩
    have F0 := K0.f
    have W0 := K0.w
    have hz : (5000 : Nat) <= sizeLine := by decide
    obtain ⟨dx0, ob0⟩ := F0.ob
    refine ⟨_, rfl, L.p, dx0, _, rfl, ob0, Zq52 _ _ _ _ (by decide +kernel), _, rfl, _, rfl, _, rfl, L, ds, wa, n, day, wt, rfl, F0, W0, h40, hln, hnm, d0, d1, w0, w1, hc, fun H1 s1 => ?_⟩
    have F := F0.keep (Same.n s1)
    have W := W0.keep (Same.n s1)
    obtain ⟨k9, y8, y9⟩ := K0.all
    have y7 := s1 _ _ y8
    have hkn : kw ds n = none := by
      have := kw_com ds n
      rw [hc] at this
      cases e : kw ds n with
      | none => rfl
      | some l => rw [e] at this; cases this
    obtain ⟨⟨dx, ob⟩, ⟨k1, c1, c2, c3⟩, _, ⟨k3, e1, e2, e3⟩, ⟨k4, h1, h2, h3⟩, a1, a2, a3, a4, a5, a6⟩ := F
    obtain ⟨⟨k2, w2, w3, w4⟩, ⟨k1', o1, o2⟩, wap, winj⟩ := W
    rw [c1] at o1
    cases o1
    have np : L.p ≠ L.dc := fun z => by rw [z, c1] at ob; cases ob
    have np2 : L.p ≠ L.dw := fun z => by rw [z, w2] at ob; cases ob
    refine ⟨_, rfl, _, rfl, L.p, C, dx, _, _, rfl, ob, Tc.cl, Tc.nc, ff_c _ _ _ _, _, rfl, L.dc, _, rfl, DPut.k (k := Sum.inr n) c1 (by lia), ?_⟩
    have T1 := SameLT.updD (kvs' := putK k1 (Sum.inr n) (.int day)) c1
    have g0 : ∀ b o, b ≠ L.dc -> H1 b = some o -> (upd H1 L.dc (.dK (putK k1 (Sum.inr n) (.int day)))) b = some o := fun b o nb e => by rw [Zq6 nb]; exact e
    have g2 : (upd H1 L.dc (.dK (putK k1 (Sum.inr n) (.int day)))) L.dc = some (.dK (putK k1 (Sum.inr n) (.int day))) := Zq7
    generalize (upd H1 L.dc (.dK (putK k1 (Sum.inr n) (.int day)))) = H2 at T1 g0 g2 ⊢
    have g1 := g0 _ _ np ob
    have g3 := g0 _ _ a1.symm w2
    have g4 := g0 _ _ a2.symm e1
    have g5 := g0 _ _ a3.symm h1
    intro q hq
    refine ⟨_, rfl, _, rfl, Zq7, [(Sum.inl day, .int wt)], rfl, by show 1 <= 15; decide, ?_⟩
    have S3 : Same H2 (upd (upd H2 q (.dK [])) q (.dK (Zq212 [] [(Sum.inl day, .int wt)]))) := fun b o e => by rw [Zq6 (Zq13 e hq), Zq6 (Zq13 e hq)]; exact e
    have kq : (upd (upd H2 q (.dK [])) q (.dK (Zq212 [] [(Sum.inl day, .int wt)]))) q = some (.dK [(Sum.inl day, .int wt)]) := Zq7
    generalize (upd (upd H2 q (.dK [])) q (.dK (Zq212 [] [(Sum.inl day, .int wt)]))) = H3 at S3 kq ⊢
    refine ⟨_, rfl, L.p, C, dx, _, _, rfl, S3 _ _ g1, Tc.cl, Tc.nw, ff_w _ _ _ _, _, rfl, L.dw, _, rfl, DPut.k (k := Sum.inr n) (S3 _ _ g3) (by lia), ?_⟩
    have T4 := SameLT.updD (kvs' := putK k2 (Sum.inr n) (.ref q)) (S3 _ _ g3)
    have ll := Zq106 k1 (Sum.inr n : Key) (V.int day)
    have ll2 := Zq106 k2 (Sum.inr n : Key) (V.ref q)
    have lapp : (ds ++ [Deed.come n day wt]).length = ds.length + 1 := by rw [List.length_append]; rfl
    have q1 : q ≠ L.dc := fun z => by rw [z, g2] at hq; cases hq
    have q2 : q ≠ L.dw := fun z => by rw [z, g3] at hq; cases hq
    have q3 : q ≠ L.dd := fun z => by rw [z, g4] at hq; cases hq
    have q4 : q ≠ L.dh := fun z => by rw [z, g5] at hq; cases hq
    have old : ∀ m l, kw ds m = some l -> H3 (wa m) = some (.dK l) /\ wa m ≠ q := fun m l e => by
      have hh := g0 _ _ (wap m l e).1 (w4 m l e).2.1
      exact ⟨S3 _ _ hh, Zq13 hh hq⟩
    have hkw : ∀ m l, kw (ds ++ [.come n day wt]) m = some l -> (m = n /\ l = [(Sum.inl day, .int wt)]) \/ (m ≠ n /\ kw ds m = some l) := fun m l e => by
      rw [Zq140, Zq58] at e
      split at e
      · rename_i z; cases e; exact .inl ⟨z, rfl⟩
      · rename_i z; exact .inr ⟨z, e⟩
    refine k (fun m => if m = n then q else wa m) _ ⟨⟨⟨dx, by rw [Zq6 np2]; exact S3 _ _ g1⟩, ⟨_, by rw [Zq6 a1]; exact S3 _ _ g2, by lia, fun x => ?_⟩, ⟨_, Zq7, by lia⟩, ⟨k3, by rw [Zq6 a4.symm]; exact S3 _ _ g4, by lia, fun x => ?_⟩, ⟨k4, by rw [Zq6 a5.symm]; exact S3 _ _ g5, by lia, fun x => ?_⟩, a1, a2, a3, a4, a5, a6⟩,
      ⟨⟨_, Zq7, by lia, fun m l e => ?_⟩, ⟨_, by rw [Zq6 a1]; exact S3 _ _ g2, ?_⟩, fun m l e => ?_, fun m m' l l' e e' z => ?_⟩, ⟨_, Zq7, fun p hp => ?_⟩⟩ (fun b o e hn => ?_) (fun b hb => ?_)
    · rw [valV_put, comOf_come hc]
      by_cases e : x = n
      · subst e; rw [if_pos rfl, if_pos rfl]; rfl
      · rw [if_neg (fun z => e (Sum.inr.inj z)), if_neg e]; exact c3 x
    · rw [dieOf_come]; exact e3 x
    · rw [dieOf_come]; exact h3 x
    · (try dsimp only)
      rcases hkw m l e with ⟨rfl, rfl⟩ | ⟨hm, e'⟩
      · rw [if_pos rfl]
        exact ⟨by rw [valV_put, if_pos rfl], by rw [Zq6 q2]; exact kq, by rw [lapp]; show 1 <= _; lia⟩
      · rw [if_neg hm]
        obtain ⟨y1, y2, y3⟩ := w4 m l e'
        exact ⟨by rw [valV_put, if_neg (fun z => hm (Sum.inr.inj z))]; exact y1, by rw [Zq6 (wap m l e').2.1]; exact (old m l e').1, by lia⟩
    · have hv : valV k1 (Sum.inr n : Key) = none := by rw [c3, hc]; rfl
      rw [putK_new _ hv, List.map_append, Zq129, List.map_append, o2]
      rfl
    · (try dsimp only)
      rcases hkw m l e with ⟨rfl, rfl⟩ | ⟨hm, e'⟩
      · rw [if_pos rfl]; exact ⟨q1, q2, q3, q4⟩
      · rw [if_neg hm]; exact wap m l e'
    · (try dsimp only at z)
      rcases hkw m l e with ⟨rfl, rfl⟩ | ⟨hm, y⟩
      · rcases hkw m' l' e' with ⟨rfl, rfl⟩ | ⟨hm', y'⟩
        · rfl
        · rw [if_pos rfl, if_neg hm'] at z
          exact absurd z.symm (old m' l' y').2
      · rcases hkw m' l' e' with ⟨rfl, rfl⟩ | ⟨hm', y'⟩
        · rw [if_neg hm, if_pos rfl] at z
          exact absurd z (old m l y).2
        · rw [if_neg hm, if_neg hm'] at z
          exact winj m m' l l' y y' z
    · rw [w2] at y7
      cases y7
      rcases mem_putK hp with rfl | hp
      · exact ⟨n, [(Sum.inl day, .int wt)], by rw [Zq140, Zq58, if_pos rfl], by (try dsimp only); rw [if_pos rfl]⟩
      · obtain ⟨m, l, e, rfl⟩ := y9 p hp
        have hm : m ≠ n := fun z => by rw [z, hkn] at e; cases e
        exact ⟨m, l, by rw [Zq140, Zq58, if_neg hm]; exact e, by (try dsimp only); rw [if_neg hm]⟩
    · rw [Zq6 (fun z => hn (.inr (.inr (.inl z))))]
      exact S3 _ _ (g0 b o (fun z => hn (.inr (.inl z))) (s1 _ _ e))
    · rcases hb with z | z | z | z | z | ⟨m, l, e, z⟩
      · exact .inl (.inl z)
      · exact .inl (.inr (.inl z))
      · exact .inl (.inr (.inr (.inl z)))
      · exact .inl (.inr (.inr (.inr (.inl z))))
      · exact .inl (.inr (.inr (.inr (.inr (.inl z)))))
      · (try dsimp only at z)
        rcases hkw m l e with ⟨rfl, rfl⟩ | ⟨hm, y⟩
        · rw [if_pos rfl] at z
          refine .inr ?_
          cases eq : H b with
          | none => rfl
          | some o =>
            have := g0 _ _ (by rw [z]; exact q1) (s1 _ _ eq)
            rw [z, hq] at this
            cases this
        · rw [if_neg hm] at z
          exact .inl (.inr (.inr (.inr (.inr (.inr ⟨m, l, y, z⟩)))))
end
section
variable {P : Program} {w : World} {K : PySem.W.Frag} {mg : Str -> Option Value} {base : Heap} {C : Addr}
def spLiving (C : Addr) : Sp := fun vs H Q _ => ∃ (L : FL) (ds : List Deed) (n : Str) (day : Int), vs = [.ref L.p, .str n, .int day] /\ FolkAt C H L ds /\ Zq72 ds n day = false /\ Q .non H
abbrev Zq46 : Stmt := Zq63 (top 21) 19
theorem Zq198 : FnScope ["self", "name", "day"] ["self", "name", "day"] (Zq1 Zq46) := ⟨rfl, rfl, rfl, by decide +kernel, rfl, by decide +kernel, by decide +kernel⟩
theorem Nq211 : Nm (Zq1 Zq46) "Dead" .globalImplicit := by decide +kernel
theorem Nq92 : Nm (Zq1 Zq46) "day" .local := by decide +kernel
theorem Nq93 : Nm (Zq1 Zq46) "name" .local := by decide +kernel
theorem Nq139 : Nm (Zq1 Zq46) "self" .local := by decide +kernel
theorem Zq281 (Zq67 : HasM K C "check_living" "Folk.check_living" Zq46) (Tc : TxC K C) (M_died_by : Mt P w K mg base C "died_by" ["self", "name", "day"] 1 (spDiedBy C)) : Mt P w K mg base C "check_living" ["self", "name", "day"] 2 (spLiving C) := by
  refine Zq67.mtQ Zq198 (fun _ _ _ _ _ _ us hl => match us, hl with | [_, _, _], _ => rfl) (fun vs H Q E h => ?_) (fun f cdv A outer s H vs Q E hr h => ?_)
  · obtain ⟨L, ds, n, day, rfl, _⟩ := h
    rfl
  · obtain ⟨L, ds, n, day, rfl, F, hd, k⟩ := h
    refine ⟨_, (Zq5 (Zq19 (Zq126 (Zq70 (qvN 0 Nq139) Tc.cl M_died_by (hr.mono (by lia)) (Zq0 (qvN 1 Nq93) (Zq0 (qvN 2 Nq92) Zq2)))) (Zq5 Zq131) Zq10)), ?_⟩
    obtain ⟨dx, ob⟩ := F.ob
    refine ⟨_, rfl, L.p, dx, _, rfl, ob, Zq52 _ _ _ _ (by decide +kernel), _, rfl, _, rfl, L, ds, n, day, rfl, F, _, rfl, ?_⟩
    rw [hd]
    exact iteF k
def spChkRise (C : Addr) : Sp := fun vs H Q _ => ∃ (L : FL) (ds : List Deed) (n : Str) (day wt d0 : Int), vs = [.ref L.p, .str n, .int day, .int wt] /\ FolkAt C H L ds /\ 0 <= day /\ day <= 9999 /\ 1 <= wt /\ wt <= 1000 /\ Zq9 ds n = some d0 /\ d0 <= day /\ Zq72 ds n day = false /\ Q .non H
abbrev Zq42 : Stmt := Zq63 (top 21) 15
theorem Zq218 : FnScope ["self", "name", "day", "weight"] ["self", "name", "day", "weight"] (Zq1 Zq42) := ⟨rfl, rfl, rfl, by decide +kernel, rfl, by decide +kernel, by decide +kernel⟩
theorem Nq140 : Nm (Zq1 Zq42) "check_day" .globalImplicit := by decide +kernel
theorem Nq141 : Nm (Zq1 Zq42) "check_weight" .globalImplicit := by decide +kernel
theorem Nq25 : Nm (Zq1 Zq42) "day" .local := by decide +kernel
theorem Nq26 : Nm (Zq1 Zq42) "name" .local := by decide +kernel
theorem Nq27 : Nm (Zq1 Zq42) "self" .local := by decide +kernel
theorem Nq142 : Nm (Zq1 Zq42) "weight" .local := by decide +kernel
theorem Zq304 (Zq85 : HasM K C "check_rise" "Folk.check_rise" Zq42) (Tc : TxC K C) (Zq31 : Fn P w K mg base "check_day" ["day"] 1 Zq238) (Zq95 : Fn P w K mg base "check_weight" ["weight"] 1 spWt) (M_check_known : Mt P w K mg base C "check_known" ["self", "name"] 1 (Zq189 C)) (M_check_there : Mt P w K mg base C "check_there" ["self", "name", "day"] 1 (spThere C))
    (M_check_living : Mt P w K mg base C "check_living" ["self", "name", "day"] 2 (spLiving C)) : Mt P w K mg base C "check_rise" ["self", "name", "day", "weight"] 3 (spChkRise C) := by
  refine Zq85.mtQ Zq218 (fun _ _ _ _ _ _ us hl => match us, hl with | [_, _, _, _], _ => rfl) (fun vs H Q E h => ?_) (fun f cdv A outer s H vs Q E hr h => ?_)
  · obtain ⟨L, ds, n, day, wt, d0, rfl, _⟩ := h
    rfl
  · obtain ⟨L, ds, n, day, wt, e0, rfl, F, d0, d1, w0, w1, hc, hd, hv, k⟩ := h
    refine ⟨_, (Zq3 (Zq23 (Zq17 Zq31 (hr.mono (by lia)) Nq140 (Zq0 (qvN 2 Nq25) Zq2)))
 (Zq3 (Zq23 (Zq17 Zq95 (hr.mono (by lia)) Nq141 (Zq0 (qvN 3 Nq142) Zq2)))
 (Zq3 (Zq23 (Zq70 (qvN 0 Nq27) Tc.cl M_check_known (hr.mono (by lia)) (Zq0 (qvN 1 Nq26) Zq2)))
 (Zq3 (Zq23 (Zq70 (qvN 0 Nq27) Tc.cl M_check_there (hr.mono (by lia)) (Zq0 (qvN 1 Nq26) (Zq0 (qvN 2 Nq25) Zq2))))
 (Zq5 (Zq23 (Zq70 (qvN 0 Nq27) Tc.cl M_check_living (hr.mono (by lia)) (Zq0 (qvN 1 Nq26) (Zq0 (qvN 2 Nq25) Zq2))))))))), ?_⟩
    obtain ⟨dx, ob⟩ := F.ob
    refine ⟨_, rfl, day, rfl, d0, d1, ?_⟩
    refine ⟨_, rfl, wt, rfl, w0, w1, ?_⟩
    refine ⟨_, rfl, L.p, dx, _, rfl, ob, Zq52 _ _ _ _ (by decide +kernel), _, rfl, L, ds, n, e0, rfl, F, hc, ?_⟩
    refine ⟨_, rfl, L.p, dx, _, rfl, ob, Zq52 _ _ _ _ (by decide +kernel), _, rfl, _, rfl, L, ds, n, e0, day, rfl, F, hc, hd, ?_⟩
    exact ⟨_, rfl, L.p, dx, _, rfl, ob, Zq52 _ _ _ _ (by decide +kernel), _, rfl, _, rfl, L, ds, n, day, rfl, F, hv, k⟩
def spRise (C : Addr) : Sp := fun vs H Q _ => ∃ (L : FL) (ds : List Deed) (wa : Str -> Addr) (n : Str) (day wt d0 : Int), vs = [.ref L.p, .str n, .int day, .int wt] /\ Fk C H L ds wa /\ ds.length <= 1000 /\ 0 <= day /\ day <= 9999 /\ 1 <= wt /\ wt <= 1000 /\ Zq9 ds n = some d0 /\ d0 <= day /\ Zq72 ds n day = false /\
  ∀ H', Fk C H' L (ds ++ [.rise n day wt]) wa -> Touch L ds wa H H' -> Fresh L ds wa (ds ++ [.rise n day wt]) wa H -> Q .non H'
abbrev Zq111 : Stmt := Zq63 (top 21) 2
theorem Zq260 : FnScope ["self", "name", "day", "weight"] ["self", "name", "day", "weight"] (Zq1 Zq111) := ⟨rfl, rfl, rfl, by decide +kernel, rfl, by decide +kernel, by decide +kernel⟩
theorem Nq61 : Nm (Zq1 Zq111) "day" .local := by decide +kernel
theorem Nq62 : Nm (Zq1 Zq111) "name" .local := by decide +kernel
theorem Nq63 : Nm (Zq1 Zq111) "self" .local := by decide +kernel
theorem Nq64 : Nm (Zq1 Zq111) "weight" .local := by decide +kernel
theorem Zq339 (Zq153 : HasM K C "rise" "Folk.rise" Zq111) (Tc : TxC K C) (M_check_rise : Mt P w K mg base C "check_rise" ["self", "name", "day", "weight"] 3 (spChkRise C)) : Mt P w K mg base C "rise" ["self", "name", "day", "weight"] 4 (spRise C) := by
  refine Zq153.mtQ Zq260 (fun _ _ _ _ _ _ us hl => match us, hl with | [_, _, _, _], _ => rfl) (fun vs H Q E h => ?_) (fun f cdv A outer s H vs Q E hr h => ?_)
  · obtain ⟨L, ds, wa, n, day, wt, d0, rfl, _⟩ := h
    rfl
  · obtain ⟨L, ds, wa, n, day, wt, e0, rfl, K0, hl, d0, d1, w0, w1, hc, hd, hv, k⟩ := h
    refine ⟨_, (Zq3 (Zq23 (Zq70 (qvN 0 Nq63) Tc.cl M_check_rise (hr.mono (by lia)) (Zq0 (qvN 1 Nq62) (Zq0 (qvN 2 Nq61) (Zq0 (qvN 3 Nq64) Zq2)))))
 (Zq5 (Zq147 hr (Zq123 hr (Zq43 (qvN 0 Nq63)) (qvN 1 Nq62) (fun _ _ => rfl)) (qvN 2 Nq61) (qvN 3 Nq64)))), ?_⟩
    have F := K0.f
    have W := K0.w
    obtain ⟨k9, y8, y9⟩ := K0.all
    have hz : (5000 : Nat) <= sizeLine := by decide
    obtain ⟨dx0, ob0⟩ := F.ob
    refine ⟨_, rfl, L.p, dx0, _, rfl, ob0, Zq52 _ _ _ _ (by decide +kernel), _, rfl, _, rfl, _, rfl, L, ds, n, day, wt, e0, rfl, F, d0, d1, w0, w1, hc, hd, hv, ?_⟩
    obtain ⟨l, hkl⟩ : ∃ l, kw ds n = some l := by
      have := kw_com ds n
      rw [hc] at this
      cases e : kw ds n with
      | none => rw [e] at this; cases this
      | some l => exact ⟨l, rfl⟩
    obtain ⟨⟨dx, ob⟩, ⟨k1, c1, c2, c3⟩, _, ⟨k3, e1, e2, e3⟩, ⟨k4, h1, h2, h3⟩, a1, a2, a3, a4, a5, a6⟩ := F
    obtain ⟨⟨k2, w2, w3, w4⟩, ⟨k1', o1, o2⟩, wap, winj⟩ := W
    rw [c1] at o1
    cases o1
    obtain ⟨y1, y2, y3⟩ := w4 n l hkl
    obtain ⟨z1, z2, z3, z4⟩ := wap n l hkl
    have zp : L.p ≠ wa n := fun z => by rw [z, y2] at ob; cases ob
    have g := DGet.k (k := Sum.inr n) w2
    rw [y1] at g
    refine ⟨_, rfl, _, rfl, L.p, C, dx, _, _, rfl, ob, Tc.cl, Tc.nw, ff_w _ _ _ _, _, rfl, L.dw, .ref (wa n), rfl, g, _, rfl, wa n, _, rfl, DPut.k (k := Sum.inl day) y2 (by lia), ?_⟩
    have T1 := SameLT.updD (kvs' := putK l (Sum.inl day) (.int wt)) y2
    have ll := Zq106 l (Sum.inl day : Key) (V.int wt)
    have lapp : (ds ++ [Deed.rise n day wt]).length = ds.length + 1 := by rw [List.length_append]; rfl
    have hkw : ∀ m l', kw (ds ++ [.rise n day wt]) m = some l' -> (m = n /\ l' = putK l (Sum.inl day) (.int wt)) \/ (m ≠ n /\ kw ds m = some l') := fun m l' e => by
      rw [Zq140, Zq58] at e
      split at e
      · rename_i z
        subst z
        rw [hkl] at e
        cases e
        exact .inl ⟨rfl, rfl⟩
      · rename_i z; exact .inr ⟨z, e⟩
    have old : ∀ m l', kw (ds ++ [.rise n day wt]) m = some l' -> ∃ l'', kw ds m = some l'' := fun m l' e => by
      rcases hkw m l' e with ⟨rfl, _⟩ | ⟨_, y⟩
      · exact ⟨l, hkl⟩
      · exact ⟨l', y⟩
    refine k _ ⟨⟨⟨dx, by rw [Zq6 zp]; exact ob⟩, ⟨k1, by rw [Zq6 z1.symm]; exact c1, by lia, fun x => by rw [comOf_rise]; exact c3 x⟩, ⟨k2, by rw [Zq6 z2.symm]; exact w2, by lia⟩, ⟨k3, by rw [Zq6 z3.symm]; exact e1, by lia, fun x => by rw [dieOf_rise]; exact e3 x⟩, ⟨k4, by rw [Zq6 z4.symm]; exact h1, by lia, fun x => by rw [dieOf_rise]; exact h3 x⟩, a1, a2, a3, a4, a5, a6⟩,
      ⟨⟨k2, by rw [Zq6 z2.symm]; exact w2, by lia, fun m l' e => ?_⟩, ⟨k1, by rw [Zq6 z1.symm]; exact c1, ?_⟩, fun m l' e => ?_, fun m m' l1 l2 e e' z => ?_⟩, ⟨k9, by rw [Zq6 z2.symm]; exact y8, fun p hp => ?_⟩⟩ (fun b o e hn => ?_) (fun b hb => ?_)
    · rcases hkw m l' e with ⟨rfl, rfl⟩ | ⟨hm, y⟩
      · exact ⟨y1, Zq7, by lia⟩
      · obtain ⟨x1, x2, x3⟩ := w4 m l' y
        exact ⟨x1, by rw [Zq6 (fun z => hm (winj m n l' l y hkl z))]; exact x2, by lia⟩
    · rw [Zq129, o2]
      show _ = ((Zq29 ds) ++ []).map V.str
      rw [List.append_nil]
    · obtain ⟨l'', y⟩ := old m l' e
      exact wap m l'' y
    · obtain ⟨x1, y⟩ := old m l1 e
      obtain ⟨x2, y'⟩ := old m' l2 e'
      exact winj m m' x1 x2 y y' z
    · obtain ⟨m, l', e, rfl⟩ := y9 p hp
      by_cases hm : m = n
      · subst hm
        exact ⟨m, putK l (Sum.inl day) (.int wt), by rw [Zq140, Zq58, if_pos rfl, hkl]; rfl, rfl⟩
      · exact ⟨m, l', by rw [Zq140, Zq58, if_neg hm]; exact e, rfl⟩
    · rw [Zq6 (fun z => hn (.inr (.inr (.inr (.inr (.inr ⟨n, l, hkl, z⟩))))))]
      exact e
    · rcases hb with z | z | z | z | z | ⟨m, l', e, z⟩
      · exact .inl (.inl z)
      · exact .inl (.inr (.inl z))
      · exact .inl (.inr (.inr (.inl z)))
      · exact .inl (.inr (.inr (.inr (.inl z))))
      · exact .inl (.inr (.inr (.inr (.inr (.inl z)))))
      · obtain ⟨l'', y⟩ := old m l' e
        exact .inl (.inr (.inr (.inr (.inr (.inr ⟨m, l'', y, z⟩)))))
def upTo (l : List (Key × V)) (day : Int) : List Int := l.filterMap fun p => match p.1 with
  | .inl d => if d <= day then some d else none
  | .inr _ => none
theorem upTo_take {l : List (Key × V)} {i : Nat} {d wt day : Int} (h : l[i]? = some (.inl d, .int wt)) : upTo (l.take (i + 1)) day = upTo (l.take i) day ++ (if d <= day then [d] else []) := by
  unfold upTo
  rw [List.take_add_one, h, List.filterMap_append]
  congr 1
  by_cases e : d <= day
  · simp [e]
  · simp [e]
theorem upTo_mem {l : List (Key × V)} {day x : Int} : x ∈ upTo l day ↔ (∃ v, (.inl x, v) ∈ l) /\ x <= day := by
  unfold upTo
  rw [List.mem_filterMap]
  constructor
  · rintro ⟨⟨k, v⟩, hp, e⟩
    cases k with
    | inl d =>
      have e : (if d <= day then some d else none) = some x := e
      split at e
      · cases e; exact ⟨⟨v, hp⟩, by assumption⟩
      · cases e
    | inr y => cases e
  · rintro ⟨⟨v, hp⟩, hx⟩
    exact ⟨(.inl x, v), hp, by show (if x <= day then some x else none) = _; rw [if_pos hx]⟩
theorem valV_mem {l : List (Key × V)} {k : Key} {v : V} (h : valV l k = some v) : (k, v) ∈ l := by
  unfold valV at h
  cases e : l.find? fun kv => decide (kv.1 = k) with
  | none => rw [e] at h; cases h
  | some p =>
    rw [e] at h
    cases h
    have h1 := List.mem_of_find?_eq_some e
    have h2 := List.find?_some e
    have h2 : p.1 = k := by simpa using h2
    rw [← h2]
    exact h1
theorem mem_valV {l : List (Key × V)} {k : Key} {v : V} (h : (k, v) ∈ l) : ∃ u, valV l k = some u := by
  unfold valV
  cases e : l.find? fun kv => decide (kv.1 = k) with
  | none =>
    have := List.find?_eq_none.mp e (k, v) h
    exact absurd (decide_eq_true rfl) this
  | some p => exact ⟨p.2, rfl⟩
def spWeigh (C : Addr) : Sp := fun vs H Q _ => ∃ (L : FL) (ds : List Deed) (wa : Str -> Addr) (n : Str) (day d0 wt : Int), vs = [.ref L.p, .str n, .int day] /\ FolkAt C H L ds /\ WtsAt H L ds wa /\ ds.length <= 1000 /\ 0 <= day /\ day <= 9999 /\ Zq9 ds n = some d0 /\ d0 <= day /\ IsW (kw ds n) day wt /\ ∀ H', Same H H' -> Q (.int wt) H'
abbrev Zq61 : Stmt := Zq63 (top 21) 6
theorem Zq170 : FnScope ["self", "name", "day", "told"] ["self", "name", "day"] (Zq1 Zq61) := ⟨rfl, rfl, rfl, by decide +kernel, rfl, by decide +kernel, by decide +kernel⟩
theorem Nq143 : Nm (Zq1 Zq61) "check_day" .globalImplicit := by decide +kernel
theorem Nq28 : Nm (Zq1 Zq61) "day" .cell := by decide +kernel
theorem Nq144 : Nm (Zq1 Zq61) "max" .globalImplicit := by decide +kernel
theorem Nq29 : Nm (Zq1 Zq61) "name" .local := by decide +kernel
theorem Nq30 : Nm (Zq1 Zq61) "self" .local := by decide +kernel
theorem Nq31 : Nm (Zq1 Zq61) "told" .local := by decide +kernel
theorem Zq322 (Zq124 : HasM K C "weight" "Folk.weight" Zq61) (T : Txt mg) (Tc : TxC K C) (Zq31 : Fn P w K mg base "check_day" ["day"] 1 Zq238) (M_check_known : Mt P w K mg base C "check_known" ["self", "name"] 1 (Zq189 C)) (M_check_there : Mt P w K mg base C "check_there" ["self", "name", "day"] 1 (spThere C)) :
    Mt P w K mg base C "weight" ["self", "name", "day"] 2 (spWeigh C) := by
  refine Zq124.mtQ Zq170 (fun _ _ _ _ _ _ us hl => match us, hl with | [_, _, _], _ => rfl) (fun vs H Q E h => ?_) (fun f cdv A outer s H vs Q E hr h => ?_)
  · obtain ⟨L, ds, wa, n, day, d0, wt, rfl, _⟩ := h
    rfl
  · obtain ⟨L, ds, wa, n, day, e0, wt, rfl, F, W, hl, d0, d1, hc, hd, hw, k⟩ := h
    refine ⟨_, (Zq3 (Zq23 (Zq17 Zq31 (hr.mono (by lia)) Nq143 (Zq0 (qvC 2 Nq28) Zq2)))
 (Zq3 (Zq23 (Zq70 (qvN 0 Nq30) Tc.cl M_check_known (hr.mono (by lia)) (Zq0 (qvN 1 Nq29) Zq2)))
 (Zq3 (Zq23 (Zq70 (qvN 0 Nq30) Tc.cl M_check_there (hr.mono (by lia)) (Zq0 (qvN 1 Nq29) (Zq0 (qvC 2 Nq28) Zq2))))
 (Zq3 (Zq26 (i := 3) Zq170.nd Nq31 (Zq123 hr (Zq43 (qvN 0 Nq30)) (qvN 1 Nq29) (fun _ _ => rfl)))
 (Zq5 (Zq11 (Zq123 hr (qvN 3 Nq31) (Zq18 (qcall_maxL (by rfl)) Nq144 T.max b_max (Zq0 (qe_iced (Zq158 (locs := ["since"]) (fr := [("day", 2)]) ⟨rfl, by decide +kernel, by decide +kernel, by decide +kernel, by decide +kernel, by decide +kernel⟩ (.consN Nq28 .nil) rfl (qi_keys (qvN 3 Nq31)) ⟨fun _ _ _ _ _ _ => by
    have cnd : (inN ["since"] [("day", 2)]).Nodup := by decide +kernel
    exact ⟨(qgLN 0 cnd), (qts_one (Zq8 Zq80 (qvLN 0) (qvFN 1) (Zq12 _))), (qvLN 0)⟩⟩)) Zq2)) (fun _ _ => rfl)))))))), ?_⟩
    have hz : (5000 : Nat) <= sizeLine := by decide
    obtain ⟨dx, ob⟩ := F.ob
    refine ⟨_, rfl, day, rfl, d0, d1, ?_⟩
    refine ⟨_, rfl, L.p, dx, _, rfl, ob, Zq52 _ _ _ _ (by decide +kernel), _, rfl, L, ds, n, e0, rfl, F, hc, ?_⟩
    refine ⟨_, rfl, L.p, dx, _, rfl, ob, Zq52 _ _ _ _ (by decide +kernel), _, rfl, _, rfl, L, ds, n, e0, day, rfl, F, hc, hd, ?_⟩
    obtain ⟨l, m0, hkl, hm0, hm1, hm2⟩ := hw
    obtain ⟨k2, w2, w3, w4⟩ := W.w
    obtain ⟨y1, y2, y3⟩ := w4 n l hkl
    have hint := kw_int hkl
    have g := DGet.k (k := Sum.inr n) w2
    rw [y1] at g
    refine ⟨_, rfl, L.p, C, dx, _, _, rfl, ob, Tc.cl, Tc.nw, ff_w _ _ _ _, _, rfl, L.dw, .ref (wa n), rfl, g, ?_⟩
    refine ⟨_, rfl, wa n, l, y2, fun o => ?_⟩
    refine ⟨_, rfl, wa n, o, l, rfl, Zq7, ?_⟩
    refine comp_keys (fun i ys H' => H' = upd H (wa n) (.frz o (.dK l)) /\ ys = (upTo (l.take i) day).map V.int) ⟨rfl, rfl⟩ (by lia) (fun i ys H' _ ⟨e, _⟩ => by rw [e]; exact Zq7) ?_ ?_ ?_
    · rintro i ys H' ⟨_, rfl⟩
      rw [List.length_map]
      unfold upTo
      refine Nat.le_trans (List.length_filterMap_le _ _) ?_
      rw [List.length_take]; lia
    · rintro i p ys H' hp ⟨rfl, rfl⟩ ls hls
      obtain ⟨w0, rfl⟩ := len1 hls
      obtain ⟨d, wt', rfl⟩ := hint p (List.mem_of_getElem? hp)
      refine ⟨⟨[_], rfl, rfl⟩, ?_⟩
      refine ⟨_, rfl, _, rfl, d, day, rfl, rfl, _, rfl, ?_⟩
      rw [upTo_take hp]
      refine iteD (fun e => ?_) (fun e => ?_)
      · refine ⟨_, rfl, rfl, ?_⟩
        rw [if_pos e, List.map_append]
        rfl
      · exact ⟨rfl, by rw [if_neg e, List.append_nil]⟩
    · rintro ys H' ⟨rfl, rfl⟩ q hq
      rw [List.take_length]
      have nq : q ≠ wa n := fun z => by rw [z, Zq7] at hq; cases hq
      refine ⟨by rw [Zq6 nq.symm]; exact Zq7, ?_⟩
      have hqH : H q = none := by rw [Zq6 nq] at hq; exact hq
      have S : Same H (upd (upd (upd H (wa n) (.frz o (.dK l))) q (.lst ((upTo l day).map V.int))) (wa n) (.dK l)) := fun b ob e => by
        by_cases z : b = wa n
        · rw [z, Zq7]; rw [z, y2] at e; exact e
        · rw [Zq6 z, Zq6 (Zq13 e hqH), Zq6 z]; exact e
      have kq : (upd (upd (upd H (wa n) (.frz o (.dK l))) q (.lst ((upTo l day).map V.int))) (wa n) (.dK l)) q = some (.lst ((upTo l day).map V.int)) := by rw [Zq6 nq, Zq7]
      generalize (upd (upd (upd H (wa n) (.frz o (.dK l))) q (.lst ((upTo l day).map V.int))) (wa n) (.dK l)) = H2 at S kq ⊢
      have hin : m0 ∈ upTo l day := upTo_mem.mpr ⟨⟨_, valV_mem hm0⟩, hm1⟩
      refine ⟨q, upTo l day, rfl, SqL.of kq, (fun z => by rw [z] at hin; cases hin), fun m hm hmx => ?_⟩
      obtain ⟨⟨v, hv⟩, hmd⟩ := upTo_mem.mp hm
      obtain ⟨u, hu⟩ := mem_valV hv
      have e1 := hm2 m u hu hmd
      have e2 := hmx m0 hin
      have em : m = m0 := by lia
      subst em
      have g2 := DGet.k (k := Sum.inl m) (S _ _ y2)
      rw [hm0] at g2
      exact ⟨wa n, .int wt, rfl, g2, k H2 S⟩
def spNamesF (C : Addr) : Sp := fun vs H Q _ => ∃ (L : FL) (ds : List Deed) (wa : Str -> Addr), vs = [.ref L.p] /\ FolkAt C H L ds /\ WtsAt H L ds wa /\ ∀ l, H l = none -> Q (.ref l) (upd H l (.lst ((Zq29 ds).map V.str)))
abbrev Zq163 : Stmt := Zq63 (top 21) 4
theorem Zq294 : FnScope ["self"] ["self"] (Zq1 Zq163) := ⟨rfl, rfl, rfl, by decide +kernel, rfl, by decide +kernel, by decide +kernel⟩
theorem Nq212 : Nm (Zq1 Zq163) "list" .globalImplicit := by decide +kernel
theorem Nq213 : Nm (Zq1 Zq163) "self" .local := by decide +kernel
theorem Zq324 (Zq232 : HasM K C "names" "Folk.names" Zq163) (T : Txt mg) (Tc : TxC K C) : Mt P w K mg base C "names" ["self"] 1 (spNamesF C) := by
  refine Zq232.mtQ Zq294 (fun _ _ _ _ _ _ us hl => match us, hl with | [_], _ => rfl) (fun vs H Q E h => ?_) (fun f cdv A outer s H vs Q E hr h => ?_)
  · obtain ⟨L, ds, wa, rfl, _⟩ := h
    rfl
  · obtain ⟨L, ds, wa, rfl, F, W, k⟩ := h
    refine ⟨_, (Zq5 (Zq11 (qe_callTyN (qcall_listD (by rfl)) Nq212 T.list b_list (Zq0 (Zq43 (qvN 0 Nq213)) Zq2)))), ?_⟩
    obtain ⟨dx, ob⟩ := F.ob
    obtain ⟨kvs, o1, o2⟩ := W.ord
    refine ⟨_, rfl, L.p, C, dx, _, _, rfl, ob, Tc.cl, Tc.nc, ff_c _ _ _ _, L.dc, kvs, rfl, o1, fun l hl => ?_⟩
    rw [o2]
    exact k l hl
def spUntold (C : Addr) : Sp := fun vs H Q _ => ∃ (L : FL) (ds : List Deed) (n : Str), vs = [.ref L.p, .str n] /\ FolkAt C H L ds /\ Zq20 ds n = none /\ Q .non H
abbrev Zq55 : Stmt := Zq63 (top 21) 20
theorem Zq199 : FnScope ["self", "name"] ["self", "name"] (Zq1 Zq55) := ⟨rfl, rfl, rfl, by decide +kernel, rfl, by decide +kernel, by decide +kernel⟩
theorem Nq214 : Nm (Zq1 Zq55) "Dead" .globalImplicit := by decide +kernel
theorem Nq94 : Nm (Zq1 Zq55) "name" .local := by decide +kernel
theorem Nq145 : Nm (Zq1 Zq55) "self" .local := by decide +kernel
theorem Zq282 (Zq68 : HasM K C "check_untold" "Folk.check_untold" Zq55) (Tc : TxC K C) : Mt P w K mg base C "check_untold" ["self", "name"] 1 (spUntold C) := by
  refine Zq68.mtQ Zq199 (fun _ _ _ _ _ _ us hl => match us, hl with | [_, _], _ => rfl) (fun vs H Q E h => ?_) (fun f cdv A outer s H vs Q E hr h => ?_)
  · obtain ⟨L, ds, n, rfl, _⟩ := h
    rfl
  · obtain ⟨L, ds, n, rfl, F, c5, k⟩ := h
    refine ⟨_, (Zq5 (Zq19 (Zq8 (Zq206 hr) (qvN 1 Nq94) (Zq43 (qvN 0 Nq145)) rfl) (Zq5 Zq131) Zq10)), ?_⟩
    obtain ⟨dx, ob⟩ := F.ob
    obtain ⟨kvs, e1, e2, e3⟩ := F.d
    have g := DGet.k (k := Sum.inr n) e1
    rw [e3, c5] at g
    exact ⟨_, rfl, _, rfl, L.p, C, dx, _, _, rfl, ob, Tc.cl, Tc.nd, ff_d _ _ _ _, L.dd, _, rfl, g, _, rfl, iteF k⟩
def spChkDie (C : Addr) : Sp := fun vs H Q _ => ∃ (L : FL) (ds : List Deed) (n hr : Str) (day dn dr : Int), vs = [.ref L.p, .str n, .int day, .str hr] /\ FolkAt C H L ds /\ 0 <= day /\ day <= 9999 /\ Zq9 ds n = some dn /\ dn <= day /\ Zq9 ds hr = some dr /\ dr <= day /\ Zq20 ds n = none /\ Zq20 ds hr = none /\ hr ≠ n /\ Q .non H
abbrev Zq39 : Stmt := Zq63 (top 21) 16
theorem Zq204 : FnScope ["self", "name", "day", "heir"] ["self", "name", "day", "heir"] (Zq1 Zq39) := ⟨rfl, rfl, rfl, by decide +kernel, rfl, by decide +kernel, by decide +kernel⟩
theorem Nq215 : Nm (Zq1 Zq39) "NoHeir" .globalImplicit := by decide +kernel
theorem Nq146 : Nm (Zq1 Zq39) "check_day" .globalImplicit := by decide +kernel
theorem Nq32 : Nm (Zq1 Zq39) "day" .local := by decide +kernel
theorem Nq14 : Nm (Zq1 Zq39) "heir" .local := by decide +kernel
theorem Nq15 : Nm (Zq1 Zq39) "name" .local := by decide +kernel
theorem Nq8 : Nm (Zq1 Zq39) "self" .local := by decide +kernel
theorem Zq295 (Zq75 : HasM K C "check_death" "Folk.check_death" Zq39) (Tc : TxC K C) (Zq31 : Fn P w K mg base "check_day" ["day"] 1 Zq238) (M_check_known : Mt P w K mg base C "check_known" ["self", "name"] 1 (Zq189 C)) (M_check_there : Mt P w K mg base C "check_there" ["self", "name", "day"] 1 (spThere C)) (M_check_untold : Mt P w K mg base C "check_untold" ["self", "name"] 1 (spUntold C)) :
    Mt P w K mg base C "check_death" ["self", "name", "day", "heir"] 2 (spChkDie C) := by
  refine Zq75.mtQ Zq204 (fun _ _ _ _ _ _ us hl => match us, hl with | [_, _, _, _], _ => rfl) (fun vs H Q E h => ?_) (fun f cdv A outer s H vs Q E hr h => ?_)
  · obtain ⟨L, ds, n, hr, day, dn, dr, rfl, _⟩ := h
    rfl
  · obtain ⟨L, ds, n, he, day, dn, dr, rfl, F, d0, d1, c1, c2, c3, c4, c5, c6, c7, k⟩ := h
    refine ⟨_, (Zq3 (Zq23 (Zq17 Zq31 (hr.mono (by lia)) Nq146 (Zq0 (qvN 2 Nq32) Zq2)))
 (Zq3 (Zq23 (Zq70 (qvN 0 Nq8) Tc.cl M_check_known (hr.mono (by lia)) (Zq0 (qvN 1 Nq15) Zq2)))
 (Zq3 (Zq23 (Zq70 (qvN 0 Nq8) Tc.cl M_check_known (hr.mono (by lia)) (Zq0 (qvN 3 Nq14) Zq2)))
 (Zq3 (Zq23 (Zq70 (qvN 0 Nq8) Tc.cl M_check_there (hr.mono (by lia)) (Zq0 (qvN 1 Nq15) (Zq0 (qvN 2 Nq32) Zq2))))
 (Zq3 (Zq23 (Zq70 (qvN 0 Nq8) Tc.cl M_check_there (hr.mono (by lia)) (Zq0 (qvN 3 Nq14) (Zq0 (qvN 2 Nq32) Zq2))))
 (Zq3 (Zq23 (Zq70 (qvN 0 Nq8) Tc.cl M_check_untold (hr.mono (by lia)) (Zq0 (qvN 1 Nq15) Zq2)))
 (Zq5 (Zq19 (QW.pt (Zq237 (Zq8 Zq30 (qvN 3 Nq14) (qvN 1 Nq15) (Zq12 _)) (Zq213 (Zq8 (Zq206 hr) (qvN 3 Nq14) (Zq43 (qvN 0 Nq8)) rfl)))) (Zq5 Zq131) Zq10)))))))), ?_⟩
    obtain ⟨dx, ob⟩ := F.ob
    obtain ⟨kvs, e1, e2, e3⟩ := F.d
    have g := DGet.k (k := Sum.inr n) e1
    rw [e3, c5] at g
    have g' := DGet.k (k := Sum.inr he) e1
    rw [e3, c6] at g'
    have no : ∀ {m : Str}, notF m -> (Zq121 L.dc L.dw L.dd L.dh).lookup m = none := fun h => Zq52 _ _ _ _ h
    refine ⟨_, rfl, day, rfl, d0, d1, ?_⟩
    refine ⟨_, rfl, L.p, dx, _, rfl, ob, no (by decide +kernel), _, rfl, L, ds, n, dn, rfl, F, c1, ?_⟩
    refine ⟨_, rfl, L.p, dx, _, rfl, ob, no (by decide +kernel), _, rfl, L, ds, he, dr, rfl, F, c3, ?_⟩
    refine ⟨_, rfl, L.p, dx, _, rfl, ob, no (by decide +kernel), _, rfl, _, rfl, L, ds, n, dn, day, rfl, F, c1, c2, ?_⟩
    refine ⟨_, rfl, L.p, dx, _, rfl, ob, no (by decide +kernel), _, rfl, _, rfl, L, ds, he, dr, day, rfl, F, c3, c4, ?_⟩
    refine ⟨_, rfl, L.p, dx, _, rfl, ob, no (by decide +kernel), _, rfl, L, ds, n, rfl, F, c5, ?_⟩
    refine ⟨_, rfl, _, rfl, rfl, _, rfl, iteD (fun z => absurd (by injection z) c7) (fun _ => ?_)⟩
    exact ⟨_, rfl, _, rfl, L.p, C, dx, _, _, rfl, ob, Tc.cl, Tc.nd, ff_d _ _ _ _, L.dd, _, rfl, g', _, rfl, iteF k⟩
def spDie (C : Addr) : Sp := fun vs H Q _ => ∃ (L : FL) (ds : List Deed) (wa : Str -> Addr) (n hr : Str) (day dn dr : Int), vs = [.ref L.p, .str n, .int day, .str hr] /\ Fk C H L ds wa /\ ds.length <= 1000 /\ 0 <= day /\ day <= 9999 /\ Zq9 ds n = some dn /\ dn <= day /\ Zq9 ds hr = some dr /\ dr <= day /\ Zq20 ds n = none /\ Zq20 ds hr = none /\ hr ≠ n /\
  ∀ H', Fk C H' L (ds ++ [.die n day hr]) wa -> Touch L ds wa H H' -> Fresh L ds wa (ds ++ [.die n day hr]) wa H -> Q .non H'
abbrev Zq130 : Stmt := Zq63 (top 21) 3
theorem Zq266 : FnScope ["self", "name", "day", "heir"] ["self", "name", "day", "heir"] (Zq1 Zq130) := ⟨rfl, rfl, rfl, by decide +kernel, rfl, by decide +kernel, by decide +kernel⟩
theorem Nq65 : Nm (Zq1 Zq130) "day" .local := by decide +kernel
theorem Nq66 : Nm (Zq1 Zq130) "heir" .local := by decide +kernel
theorem Nq33 : Nm (Zq1 Zq130) "name" .local := by decide +kernel
theorem Nq34 : Nm (Zq1 Zq130) "self" .local := by decide +kernel
theorem f_die (Zq171 : HasM K C "die" "Folk.die" Zq130) (Tc : TxC K C) (M_check_death : Mt P w K mg base C "check_death" ["self", "name", "day", "heir"] 2 (spChkDie C)) :
    Mt P w K mg base C "die" ["self", "name", "day", "heir"] 3 (spDie C) := by
  refine Zq171.mtQ Zq266 (fun _ _ _ _ _ _ us hl => match us, hl with | [_, _, _, _], _ => rfl) (fun vs H Q E h => ?_) (fun f cdv A outer s H vs Q E hr h => ?_)
  · obtain ⟨L, ds, wa, n, hr, day, dn, dr, rfl, _⟩ := h
    rfl
  · obtain ⟨L, ds, wa, n, he, day, dn, dr, rfl, K0, hl, d0, d1, b1, b2, b3, b4, b5, b6, b7, k⟩ := h
    refine ⟨_, (Zq3 (Zq23 (Zq70 (qvN 0 Nq34) Tc.cl M_check_death (hr.mono (by lia)) (Zq0 (qvN 1 Nq33) (Zq0 (qvN 2 Nq65) (Zq0 (qvN 3 Nq66) Zq2)))))
 (Zq3 (Zq147 hr (Zq43 (qvN 0 Nq34)) (qvN 1 Nq33) (qvN 2 Nq65))
 (Zq5 (Zq147 hr (Zq43 (qvN 0 Nq34)) (qvN 1 Nq33) (qvN 3 Nq66))))), ?_⟩
    have F := K0.f
    obtain ⟨⟨k5, x1, x2, x3⟩, ⟨k6, o1, o2⟩, wap, winj⟩ := K0.w
    obtain ⟨k9, y8, y9⟩ := K0.all
    have hkw : kw (ds ++ [.die n day he]) = kw ds := by rw [Zq140]; rfl
    have hz : (5000 : Nat) <= sizeLine := by decide
    obtain ⟨dx0, ob0⟩ := F.ob
    refine ⟨_, rfl, L.p, dx0, _, rfl, ob0, Zq52 _ _ _ _ (by decide +kernel), _, rfl, _, rfl, _, rfl, L, ds, n, he, day, dn, dr, rfl, F, d0, d1, b1, b2, b3, b4, b5, b6, b7, ?_⟩
    obtain ⟨⟨dx, ob⟩, ⟨k1, c1, c2, c3⟩, ⟨k2, w2, w3⟩, ⟨k3, e1, e2, e3⟩, ⟨k4, h1, h2, h3⟩, a1, a2, a3, a4, a5, a6⟩ := F
    have np : L.p ≠ L.dd := fun z => by rw [z, e1] at ob; cases ob
    have np2 : L.p ≠ L.dh := fun z => by rw [z, h1] at ob; cases ob
    refine ⟨_, rfl, _, rfl, L.p, C, dx, _, _, rfl, ob, Tc.cl, Tc.nd, ff_d _ _ _ _, _, rfl, L.dd, _, rfl, DPut.k (k := Sum.inr n) e1 (by lia), ?_⟩
    have T1 := SameLT.updD (kvs' := putK k3 (Sum.inr n) (.int day)) e1
    have g1 : (upd H L.dd (.dK (putK k3 (Sum.inr n) (.int day)))) L.p = some (.ins C dx (Zq121 L.dc L.dw L.dd L.dh)) := by rw [Zq6 np]; exact ob
    have g0 : ∀ b o, b ≠ L.dd -> H b = some o -> (upd H L.dd (.dK (putK k3 (Sum.inr n) (.int day)))) b = some o := fun b o nb e => by rw [Zq6 nb]; exact e
    have g2 : (upd H L.dd (.dK (putK k3 (Sum.inr n) (.int day)))) L.dd = some (.dK (putK k3 (Sum.inr n) (.int day))) := Zq7
    have g3 : (upd H L.dd (.dK (putK k3 (Sum.inr n) (.int day)))) L.dw = some (.dK k2) := by rw [Zq6 a4]; exact w2
    have g4 : (upd H L.dd (.dK (putK k3 (Sum.inr n) (.int day)))) L.dc = some (.dK k1) := by rw [Zq6 a2]; exact c1
    have g5 : (upd H L.dd (.dK (putK k3 (Sum.inr n) (.int day)))) L.dh = some (.dK k4) := by rw [Zq6 a6.symm]; exact h1
    generalize (upd H L.dd (.dK (putK k3 (Sum.inr n) (.int day)))) = H2 at T1 g0 g1 g2 g3 g4 g5 ⊢
    refine ⟨_, rfl, _, rfl, L.p, C, dx, _, _, rfl, g1, Tc.cl, Tc.nh, ff_h _ _ _ _, _, rfl, L.dh, _, rfl, DPut.k (k := Sum.inr n) g5 (by lia), ?_⟩
    have T4 := SameLT.updD (kvs' := putK k4 (Sum.inr n) (.str he)) g5
    have ll := Zq106 k3 (Sum.inr n : Key) (V.int day)
    have ll2 := Zq106 k4 (Sum.inr n : Key) (V.str he)
    have lapp : (ds ++ [Deed.die n day he]).length = ds.length + 1 := by rw [List.length_append]; rfl
    refine k _ ⟨⟨⟨dx, by rw [Zq6 np2]; exact g1⟩, ⟨k1, by rw [Zq6 a3]; exact g4, by lia, fun x => ?_⟩, ⟨k2, by rw [Zq6 a5]; exact g3, by lia⟩, ⟨_, by rw [Zq6 a6]; exact g2, by lia, fun x => ?_⟩, ⟨_, Zq7, by lia, fun x => ?_⟩, a1, a2, a3, a4, a5, a6⟩,
      ⟨⟨k5, by rw [Zq6 a5]; exact g0 _ _ a4 x1, by lia, fun m l e => ?_⟩, ⟨k6, by rw [Zq6 a3]; exact g0 _ _ a2 o1, ?_⟩, fun m l e => wap m l (by rw [← hkw]; exact e), fun m m' l l' e e' z => winj m m' l l' (by rw [← hkw]; exact e) (by rw [← hkw]; exact e') z⟩, ⟨k9, by rw [Zq6 a5]; exact g0 _ _ a4 y8, fun p hp => ?_⟩⟩ (fun b o e hn => ?_) (fun b hb => ?_)
    · rw [comOf_die]; exact c3 x
    · rw [valV_put, dieOf_die b5]
      by_cases e : x = n
      · subst e; rw [if_pos rfl, if_pos rfl]; rfl
      · rw [if_neg (fun z => e (Sum.inr.inj z)), if_neg e]; exact e3 x
    · rw [valV_put, dieOf_die b5]
      by_cases e : x = n
      · subst e; rw [if_pos rfl, if_pos rfl]; rfl
      · rw [if_neg (fun z => e (Sum.inr.inj z)), if_neg e]; exact h3 x
    · rw [hkw] at e
      obtain ⟨q1, q2, q3⟩ := x3 m l e
      obtain ⟨_, _, z3, z4⟩ := wap m l e
      exact ⟨q1, by rw [Zq6 z4]; exact g0 _ _ z3 q2, by lia⟩
    · rw [Zq129, o2]
      show _ = ((Zq29 ds) ++ []).map V.str
      rw [List.append_nil]
    · obtain ⟨m, l, e, q⟩ := y9 p hp
      exact ⟨m, l, by rw [hkw]; exact e, q⟩
    · rw [Zq6 (fun z => hn (.inr (.inr (.inr (.inr (.inl z))))))]
      exact g0 b o (fun z => hn (.inr (.inr (.inr (.inl z))))) e
    · refine .inl ?_
      unfold own at hb ⊢
      rw [hkw] at hb
      exact hb
end
section
variable {P : Program} {w : World} {K : PySem.W.Frag} {mg : Str -> Option Value} {base : Heap} {C : Addr}
def Zq172 : Deed -> List V
  | .come n d w => [.str "come", .str n, .int d, .int w]
  | .rise n d w => [.str "rise", .str n, .int d, .int w]
  | .die n d h => [.str "die", .str n, .int d, .str h]
def DR (H : Hp) : List Deed -> List V -> Prop
  | [], vs => vs = []
  | x :: r, vs => ∃ a vs', vs = .ref a :: vs' /\ H a = some (.tup (Zq172 x)) /\ DR H r vs'
theorem DR.mono {H H' : Hp} (k : ∀ b xs, H b = some (.tup xs) -> H' b = some (.tup xs)) : ∀ {ds : List Deed} {vs : List V}, DR H ds vs -> DR H' ds vs
  | [], _, h => h
  | _ :: _, _, ⟨a, vs', e, h1, h2⟩ => ⟨a, vs', e, k _ _ h1, DR.mono k h2⟩
theorem DR.length {H : Hp} : ∀ {ds : List Deed} {vs : List V}, DR H ds vs -> vs.length = ds.length
  | [], _, h => by cases h; rfl
  | _ :: _, _, ⟨a, vs', e, h1, h2⟩ => by rw [e, List.length_cons, List.length_cons, DR.length h2]
theorem DR.snoc {H : Hp} {x : Deed} {a : Addr} (hx : H a = some (.tup (Zq172 x))) : ∀ {ds : List Deed} {vs : List V}, DR H ds vs -> DR H (ds ++ [x]) (vs ++ [.ref a])
  | [], vs, h => by cases h; exact ⟨a, [], rfl, hx, rfl⟩
  | y :: ds, vs, ⟨b, vs', e, h1, h2⟩ => by subst e; exact ⟨b, vs' ++ [.ref a], rfl, h1, DR.snoc hx h2⟩
theorem Zq184 {H : Hp} : ∀ {ds : List Deed} {vs : List V} {i : Nat} {v : V}, DR H ds vs -> vs[i]? = some v -> ∃ x a, ds[i]? = some x /\ v = .ref a /\ H a = some (.tup (Zq172 x))
  | [], vs, i, v, h, e => by cases h; simp at e
  | x :: ds, vs, i, v, ⟨a, vs', e1, h1, h2⟩, e => by
    subst e1
    cases i with
    | zero => simp at e; subst e; exact ⟨x, a, rfl, rfl, h1⟩
    | succ i => simp at e; exact Zq184 (i := i) h2 e
def DeedsAt (H : Hp) (q : Addr) (ds : List Deed) : Prop := ∃ vs, H q = some (.lst vs) /\ DR H ds vs
theorem DeedsAt.lt {H H' : Hp} {q : Addr} {ds : List Deed} (h : DeedsAt H q ds) (k : SameLT H H') : DeedsAt H' q ds := let ⟨vs, a, b⟩ := h; ⟨vs, k.1 _ _ a, b.mono k.2⟩
theorem DeedsAt.mono {H H' : Hp} {q : Addr} {ds : List Deed} (h : DeedsAt H q ds) (k : Same H H') : DeedsAt H' q ds := h.lt (Same.lt k)
theorem comOf_take {ds : List Deed} {i : Nat} {x : Deed} (h : ds[i]? = some x) (n : Str) : Zq9 (ds.take (i + 1)) n = (Zq9 (ds.take i) n).or (Zq9 [x] n) := by
  rw [List.take_add_one, h, Zq162]; rfl
theorem dieOf_take {ds : List Deed} {i : Nat} {x : Deed} (h : ds[i]? = some x) (n : Str) : Zq20 (ds.take (i + 1)) n = (Zq20 (ds.take i) n).or (Zq20 [x] n) := by
  rw [List.take_add_one, h, dieOf_app]; rfl
theorem comOf_more {ds : List Deed} {i : Nat} {n : Str} {d : Int} (h : Zq9 (ds.take i) n = some d) : Zq9 ds n = some d := by
  have e := Zq162 (ds.take i) (ds.drop i) n
  rw [List.take_append_drop, h] at e
  exact e
theorem dieOf_more {ds : List Deed} {i : Nat} {n : Str} {x : Int × Str} (h : Zq20 (ds.take i) n = some x) : Zq20 ds n = some x := by
  have e := dieOf_app (ds.take i) (ds.drop i) n
  rw [List.take_append_drop, h] at e
  exact e
theorem Zq76 {a b : Str} (h : a ≠ b) : ¬ (V.str a = V.str b) := fun z => h (by injection z)
def spDeath : Sp := fun vs H Q _ => ∃ (q : Addr) (ds : List Deed) (n : Str), vs = [.ref q, .str n] /\ DeedsAt H q ds /\ ((Zq20 ds n = none -> Q .non H) /\ ∀ x p H', Zq20 ds n = some x -> H' p = some (.tup [.int x.1, .str x.2]) -> Same H H' -> Q (.ref p) H')
abbrev Zq154 : Stmt := top 32
theorem Zq251 : FnScope ["_law_deeds", "_law_name", "_law_deed"] ["_law_deeds", "_law_name"] (Zq1 Zq154) := ⟨rfl, rfl, rfl, by decide +kernel, rfl, by decide +kernel, by decide +kernel⟩
theorem Nq41 : Nm (Zq1 Zq154) "_law_deed" .local := by decide +kernel
theorem Nq216 : Nm (Zq1 Zq154) "_law_deeds" .local := by decide +kernel
theorem Nq217 : Nm (Zq1 Zq154) "_law_name" .local := by decide +kernel
theorem Zq305 (Zq233 : Has K mg "_law_death" Zq154) (T : Txt mg) : Fn P w K mg base "_law_death" ["_law_deeds", "_law_name"] 1 spDeath := by
  refine Zq233.fnQ Zq251 (fun _ _ _ _ _ _ us hl => match us, hl with | [_, _], _ => rfl) (fun vs H Q E h => ?_) (fun f cdv A outer s H vs Q E hr h => ?_)
  · obtain ⟨q, ds, n, rfl, _⟩ := h
    rfl
  · obtain ⟨q, ds, n, rfl, ⟨vs, hq, hrep⟩, k0, k⟩ := h
    refine ⟨_, (Zq3 (Zq178 PassesOwn.never rfl (Zq168 (qvN 0 Nq216)) (Zq118 (i := 2) Zq251.nd Nq41)
  (Zq5 (Zq19 (QW.pt (Zq102 (Zq8 Zq30 (Zq15 Zq16 (qvN 2 Nq41) Zq4 (fun _ _ => rfl)) Zq14 (Zq12 _)) (Zq92 (Zq8 Zq30 (Zq15 Zq16 (qvN 2 Nq41) Zq4 (fun _ _ => rfl)) (qvN 1 Nq217) (Zq12 _))))) (Zq5 (Zq11 (qe_tup (Zq0 (Zq15 Zq16 (qvN 2 Nq41) Zq4 (fun _ _ => rfl)) (Zq0 (Zq15 Zq16 (qvN 2 Nq41) Zq4 (fun _ _ => rfl)) Zq2))))) Zq10)))
 (Zq5 (Zq11 Zq119))), ?_⟩
    have hz : (5000 : Nat) <= sizeLine := by decide
    have hvl : vs.length = ds.length := hrep.length
    refine ⟨_, rfl, q, rfl, ⟨_, SqL.of hq⟩, ?_⟩
    refine forW_list vs (fun i σ H' => ∃ v2, σ = [some (.ref q), some (.str n), v2] /\ H' = H /\ Zq20 (ds.take i) n = none) ⟨none, rfl, rfl, rfl⟩ (fun i σ H' _ ⟨_, _, e, _⟩ => by rw [e]; exact SqL.of hq) ?_ ?_
    · rintro i v σ H' hv ⟨v2, rfl, rfl, hno⟩
      obtain ⟨x, a, hx, rfl, ha⟩ := Zq184 hrep hv
      have et := dieOf_take hx n
      rw [hno] at et
      cases x with
      | die m d' h' =>
        refine ⟨_, rfl, a, _, 0, .str "die", rfl, rfl, SqT.of ha, rfl, rfl, _, rfl, iteD (fun _ => ?_) (fun z => absurd rfl z)⟩
        refine ⟨_, rfl, a, _, 1, .str m, rfl, rfl, SqT.of ha, rfl, _, rfl, rfl, _, rfl, iteD (fun z => ?_) (fun z => ?_)⟩
        · have em : m = n := by injection z
          subst em
          have e2 : Zq20 (ds.take (i + 1)) m = some (d', h') := by rw [et, Zq20, if_pos rfl]; rfl
          have e3 := dieOf_more e2
          refine ⟨_, rfl, a, _, 2, .int d', rfl, rfl, SqT.of ha, rfl, _, rfl, a, _, 3, .str h', rfl, rfl, SqT.of ha, rfl, by show 2 <= sizeLine; lia, fun p hp => ?_⟩
          exact k (d', h') p _ e3 Zq7 (Same.new hp)
        · refine ⟨_, rfl, rfl, ?_⟩
          rw [et, Zq20, if_neg (fun e => z (by rw [e]))]; rfl
      | rise m d' w' =>
        refine ⟨_, rfl, a, _, 0, .str "rise", rfl, rfl, SqT.of ha, rfl, rfl, _, rfl, iteD (fun z => absurd z (Zq76 (by decide +kernel))) (fun _ => iteF ?_)⟩
        exact ⟨_, rfl, rfl, by rw [et]; rfl⟩
      | come m d' w' =>
        refine ⟨_, rfl, a, _, 0, .str "come", rfl, rfl, SqT.of ha, rfl, rfl, _, rfl, iteD (fun z => absurd z (Zq76 (by decide +kernel))) (fun _ => iteF ?_)⟩
        exact ⟨_, rfl, rfl, by rw [et]; rfl⟩
    · rintro σ H' ⟨v2, rfl, rfl, hno⟩
      rw [hvl, List.take_length] at hno
      exact k0 hno
def spIsDead : Sp := fun vs H Q _ => ∃ (q : Addr) (ds : List Deed) (n : Str) (day : Int), vs = [.ref q, .str n, .int day] /\ DeedsAt H q ds /\ ∀ H', Same H H' -> Q (.bl (Zq72 ds n day)) H'
abbrev Zq88 : Stmt := top 33
theorem Zq240 : FnScope ["_law_deeds", "_law_name", "_law_day_here", "_law_death_here"] ["_law_deeds", "_law_name", "_law_day_here"] (Zq1 Zq88) := ⟨rfl, rfl, rfl, by decide +kernel, rfl, by decide +kernel, by decide +kernel⟩
theorem Nq218 : Nm (Zq1 Zq88) "_law_day_here" .local := by decide +kernel
theorem Nq219 : Nm (Zq1 Zq88) "_law_death" .globalImplicit := by decide +kernel
theorem Nq95 : Nm (Zq1 Zq88) "_law_death_here" .local := by decide +kernel
theorem Nq220 : Nm (Zq1 Zq88) "_law_deeds" .local := by decide +kernel
theorem Nq221 : Nm (Zq1 Zq88) "_law_name" .local := by decide +kernel
theorem Zq283 (Zq208 : Has K mg "_law_is_dead" Zq88) (T : Txt mg) (Zq141 : Fn P w K mg base "_law_death" ["_law_deeds", "_law_name"] 1 spDeath) : Fn P w K mg base "_law_is_dead" ["_law_deeds", "_law_name", "_law_day_here"] 2 spIsDead := by
  refine Zq208.fnQ Zq240 (fun _ _ _ _ _ _ us hl => match us, hl with | [_, _, _], _ => rfl) (fun vs H Q E h => ?_) (fun f cdv A outer s H vs Q E hr h => ?_)
  · obtain ⟨q, ds, n, day, rfl, _⟩ := h
    rfl
  · obtain ⟨q, ds, n, day, rfl, hq, k⟩ := h
    refine ⟨_, (Zq3 (Zq26 (i := 3) Zq240.nd Nq95 (Zq17 Zq141 (hr.mono (by lia)) Nq219 (Zq0 (qvN 0 Nq220) (Zq0 (qvN 1 Nq221) Zq2))))
 (Zq5 (Zq11 (Zq215 (Zq136 qop_notN (qvN 3 Nq95) Zq119 (Zq12 _)) (Zq214 (Zq136 Zq80 (Zq15 Zq16 (qvN 3 Nq95) Zq4 (fun _ _ => rfl)) (qvN 2 Nq218) (Zq12 _))))))), ?_⟩
    unfold Zq72 at k
    refine ⟨_, rfl, _, rfl, q, ds, n, rfl, hq, fun e => ?_, fun x p H' e hp sm => ?_⟩
    · rw [e] at k
      exact ⟨_, rfl, rfl, _, rfl, iteF (k H fun _ _ z => z)⟩
    · rw [e] at k
      refine ⟨_, rfl, rfl, _, rfl, iteT ?_⟩
      exact ⟨_, rfl, p, _, 0, .int x.1, rfl, rfl, SqT.of hp, rfl, _, rfl, _, _, rfl, rfl, k H' sm⟩
def spHeir : Sp := fun vs H Q _ => ∃ (q : Addr) (ds : List Deed) (n m : Str) (day : Int) (b : Nat), vs = [.ref q, .str n, .int day] /\ DeedsAt H q ds /\ Stands ds day b n m /\ b <= 40 /\ ∀ H', Same H H' -> Q (.str m) H'
abbrev Zq100 : Stmt := top 35
theorem Zq234 : FnScope ["_law_deeds", "_law_name", "_law_day_here", "_law_k"] ["_law_deeds", "_law_name", "_law_day_here"] (Zq1 Zq100) := ⟨rfl, rfl, rfl, by decide +kernel, rfl, by decide +kernel, by decide +kernel⟩
theorem Nq222 : Nm (Zq1 Zq100) "_law_day_here" .local := by decide +kernel
theorem Nq223 : Nm (Zq1 Zq100) "_law_death" .globalImplicit := by decide +kernel
theorem Nq147 : Nm (Zq1 Zq100) "_law_deeds" .local := by decide +kernel
theorem Nq224 : Nm (Zq1 Zq100) "_law_is_dead" .globalImplicit := by decide +kernel
theorem Nq225 : Nm (Zq1 Zq100) "_law_k" .local := by decide +kernel
theorem Nq42 : Nm (Zq1 Zq100) "_law_name" .local := by decide +kernel
theorem Nq226 : Nm (Zq1 Zq100) "range" .globalImplicit := by decide +kernel
theorem Zq311 (Zq245 : Has K mg "_law_heir" Zq100) (T : Txt mg) (Zq141 : Fn P w K mg base "_law_death" ["_law_deeds", "_law_name"] 1 spDeath) (Zq209 : Fn P w K mg base "_law_is_dead" ["_law_deeds", "_law_name", "_law_day_here"] 2 spIsDead) :
    Fn P w K mg base "_law_heir" ["_law_deeds", "_law_name", "_law_day_here"] 3 spHeir := by
  refine Zq245.fnQ Zq234 (fun _ _ _ _ _ _ us hl => match us, hl with | [_, _, _], _ => rfl) (fun vs H Q E h => ?_) (fun f cdv A outer s H vs Q E hr h => ?_)
  · obtain ⟨q, ds, n, m, day, b, rfl, _⟩ := h
    rfl
  · obtain ⟨q, ds, n, m, day, b, rfl, hq, hst, hb, k⟩ := h
    refine ⟨_, (Zq3 (Zq178 PassesOwn.never rfl (qi_range1 Nq226.1 T.range (Zq0 Zq4 Zq2)) (Zq118 (i := 3) Zq234.nd Nq225)
  (Zq3 (Zq19 (Zq145 (Zq126 (Zq17 Zq209 (hr.mono (by lia)) Nq224 (Zq0 (qvN 0 Nq147) (Zq0 (qvN 1 Nq42) (Zq0 (qvN 2 Nq222) Zq2)))))) (Zq5 (Zq11 (qvN 1 Nq42))) Zq10)
 (Zq5 (Zq26 (i := 1) Zq234.nd Nq42 (Zq15 Zq16 (Zq17 Zq141 (hr.mono (by lia)) Nq223 (Zq0 (qvN 0 Nq147) (Zq0 (qvN 1 Nq42) Zq2))) Zq4 (fun _ _ => rfl))))))
 (Zq5 (Zq11 (qvN 1 Nq42)))), ?_⟩
    refine ⟨_, rfl, by decide, by decide, ?_⟩
    refine forW_range 41 (by decide) (fun i σ H' => ∃ x j v3, σ = [some (.ref q), some (.str x), some (.int day), v3] /\ Same H H' /\ Stands ds day j x m /\ i + j <= 40) ⟨n, b, none, rfl, fun _ _ e => e, hst, by lia⟩ ?_ ?_
    · rintro i σ H' hi ⟨x, j, v3, rfl, sm, hx, hij⟩
      refine ⟨_, rfl, _, rfl, _, rfl, q, ds, x, day, rfl, hq.mono sm, fun H1 s1 => ⟨_, rfl, ?_⟩⟩
      cases hx with
      | here e =>
        rw [e]
        exact iteT ⟨_, rfl, k H1 (sm.trans s1)⟩
      | step e1 e2 e3 =>
        rename_i y j'
        rw [e2]
        refine iteF ?_
        refine ⟨_, rfl, _, rfl, q, ds, x, rfl, hq.mono (sm.trans s1), (fun e => by rw [e1] at e; cases e), fun y' p H2 e hp s2 => ?_⟩
        rw [e1] at e
        cases e
        exact ⟨p, _, 1, .str y.2, rfl, rfl, SqT.of hp, rfl, y.2, j', _, rfl, (sm.trans s1).trans s2, e3, by lia⟩
    · rintro σ H' ⟨x, j, v3, rfl, sm, hx, hij⟩
      lia
theorem max_ex : ∀ (xs : List Int), xs ≠ [] -> ∃ m ∈ xs, ∀ x ∈ xs, x <= m
  | [], h => absurd rfl h
  | [a], _ => ⟨a, List.mem_singleton.mpr rfl, fun x hx => by rw [List.mem_singleton.mp hx]; exact Int.le_refl _⟩
  | a :: b :: r, _ => by
    obtain ⟨m, h1, h2⟩ := max_ex (b :: r) (by simp)
    rcases Int.le_total a m with z | z
    · exact ⟨m, List.mem_cons_of_mem _ h1, fun x hx => by rcases List.mem_cons.mp hx with rfl | hx; exact z; exact h2 x hx⟩
    · exact ⟨a, List.mem_cons_self, fun x hx => by rcases List.mem_cons.mp hx with rfl | hx; exact Int.le_refl _; exact Int.le_trans (h2 x hx) z⟩
theorem isW_ex {ds : List Deed} {n : Str} {l : List (Key × V)} {v : V} {d0 day : Int} (h : kw ds n = some l) (hv : valV l (.inl d0) = some v) (hd : d0 <= day) : ∃ wt, IsW (kw ds n) day wt := by
  have hin : d0 ∈ upTo l day := upTo_mem.mpr ⟨⟨_, valV_mem hv⟩, hd⟩
  obtain ⟨m, h1, h2⟩ := max_ex (upTo l day) (fun z => by rw [z] at hin; cases hin)
  obtain ⟨⟨u, hu⟩, hm⟩ := upTo_mem.mp h1
  obtain ⟨y, hy⟩ := mem_valV hu
  obtain ⟨d, wt, e⟩ := kw_int h _ (valV_mem hy)
  cases e
  exact ⟨wt, l, m, h, hy, hm, fun d' v' e' c => h2 d' (upTo_mem.mpr ⟨⟨v', valV_mem e'⟩, c⟩)⟩
def WfAt (ds : List Deed) (i : Nat) : Deed -> Prop
  | .come n d _ => Zq9 (ds.take i) n = none /\ 0 <= d
  | .rise n d _ => (∃ d0, Zq9 (ds.take i) n = some d0) /\ 0 <= d
  | .die _ _ _ => True
structure Told (ds : List Deed) : Prop where
  wf : ∀ (i : Nat) (x : Deed), ds[i]? = some x -> WfAt ds i x
  key : ∀ n d, Zq9 ds n = some d -> ∃ l v, kw ds n = some l /\ valV l (.inl d) = some v
theorem Told.nil : Told [] := ⟨fun i x h => by simp at h, fun n d h => by cases h⟩
theorem wf_snoc {ds : List Deed} {x : Deed} (h : ∀ (i : Nat) (y : Deed), ds[i]? = some y -> WfAt ds i y) (hx : WfAt ds ds.length x) : ∀ (i : Nat) (y : Deed), (ds ++ [x])[i]? = some y -> WfAt (ds ++ [x]) i y := by
  intro i y hy
  by_cases hi : i < ds.length
  · rw [List.getElem?_append_left hi] at hy
    have := h i y hy
    have e : (ds ++ [x]).take i = ds.take i := List.take_append_of_le_length (Nat.le_of_lt hi)
    cases y <;> simp only [WfAt, e] at this ⊢ <;> exact this
  · rw [List.getElem?_append_right (by lia)] at hy
    have e0 : i - ds.length = 0 := by
      rcases Nat.eq_zero_or_pos (i - ds.length) with z | z
      · exact z
      · rw [List.getElem?_eq_none (by rw [List.length_singleton]; exact z)] at hy; cases hy
    rw [e0] at hy
    cases hy
    have hi' : i = ds.length := by lia
    subst hi'
    have e : (ds ++ [x]).take ds.length = ds.take ds.length := List.take_append_of_le_length (Nat.le_refl _)
    cases x <;> simp only [WfAt, e] at hx ⊢ <;> exact hx
theorem Told.come {ds : List Deed} {n : Str} {d w : Int} (h : Told ds) (hn : Zq9 ds n = none) (hd : 0 <= d) : Told (ds ++ [.come n d w]) := by
  refine ⟨wf_snoc h.wf ⟨by rw [List.take_length]; exact hn, hd⟩, fun m e he => ?_⟩
  rw [comOf_come hn] at he
  rw [Zq140, Zq58]
  by_cases z : m = n
  · rw [if_pos z] at he ⊢
    cases he
    exact ⟨_, _, rfl, by rw [val1, if_pos rfl]⟩
  · rw [if_neg z] at he ⊢
    exact h.key m e he
theorem Told.rise {ds : List Deed} {n : Str} {d w d0 : Int} (h : Told ds) (hn : Zq9 ds n = some d0) (hd : 0 <= d) : Told (ds ++ [.rise n d w]) := by
  refine ⟨wf_snoc h.wf ⟨⟨d0, by rw [List.take_length]; exact hn⟩, hd⟩, fun m e he => ?_⟩
  rw [comOf_rise] at he
  obtain ⟨l, v, h1, h2⟩ := h.key m e he
  rw [Zq140, Zq58]
  by_cases z : m = n
  · rw [if_pos z, h1]
    by_cases y : e = d
    · exact ⟨_, .int w, rfl, by rw [valP, if_pos y]⟩
    · exact ⟨_, v, rfl, by rw [valP, if_neg y]; exact h2⟩
  · rw [if_neg z]; exact ⟨l, v, h1, h2⟩
theorem in_come : inV (.str "come") [.str "come", .str "rise"] = true := by decide +kernel
theorem in_rise : inV (.str "rise") [.str "come", .str "rise"] = true := by decide +kernel
theorem in_die : inV (.str "die") [.str "come", .str "rise"] = false := by decide +kernel
def spWeighs : Sp := fun vs H Q _ => ∃ (q : Addr) (ds : List Deed) (n : Str) (day : Int), vs = [.ref q, .str n, .int day] /\ DeedsAt H q ds /\ Told ds /\ ∀ (last found : Int) (H' : Hp), Bst (kw ds n) day last found -> Same H H' -> Q (.int found) H'
abbrev Zq81 : Stmt := top 34
theorem Zq115 : FnScope ["_law_deeds", "_law_name", "_law_day_here", "_law_last", "_law_found", "_law_deed"] ["_law_deeds", "_law_name", "_law_day_here"] (Zq1 Zq81) := ⟨rfl, rfl, rfl, by decide +kernel, rfl, by decide +kernel, by decide +kernel⟩
theorem Nq227 : Nm (Zq1 Zq81) "_law_day_here" .local := by decide +kernel
theorem Nq19 : Nm (Zq1 Zq81) "_law_deed" .local := by decide +kernel
theorem Nq228 : Nm (Zq1 Zq81) "_law_deeds" .local := by decide +kernel
theorem Nq96 : Nm (Zq1 Zq81) "_law_found" .local := by decide +kernel
theorem Nq97 : Nm (Zq1 Zq81) "_law_last" .local := by decide +kernel
theorem Nq229 : Nm (Zq1 Zq81) "_law_name" .local := by decide +kernel
theorem Zq296 (Zq221 : Has K mg "_law_weighs" Zq81) (T : Txt mg) : Fn P w K mg base "_law_weighs" ["_law_deeds", "_law_name", "_law_day_here"] 1 spWeighs := by
  refine Zq221.fnQ Zq115 (fun _ _ _ _ _ _ us hl => match us, hl with | [_, _, _], _ => rfl) (fun vs H Q E h => ?_) (fun f cdv A outer s H vs Q E hr h => ?_)
  · obtain ⟨q, ds, n, day, rfl, _⟩ := h
    rfl
  · obtain ⟨q, ds, n, day, rfl, ⟨vs, hq, hrep⟩, hT, k⟩ := h
    refine ⟨_, (Zq3 (Zq26 (i := 3) Zq115.nd Nq97 (qe_un qop_neg Zq4))
 (Zq3 (Zq26 (i := 4) Zq115.nd Nq96 Zq4)
 (Zq3 (Zq178 PassesOwn.never rfl (Zq168 (qvN 0 Nq228)) (Zq118 (i := 5) Zq115.nd Nq19)
  (Zq5 (Zq19 (QW.pt (Zq102 (Zq8 qop_in_seq (Zq15 Zq16 (qvN 5 Nq19) Zq4 (fun _ _ => rfl)) (Zq49 (Zq0 Zq14 (Zq0 Zq14 Zq2))) rfl) (Zq102 (Zq8 Zq30 (Zq15 Zq16 (qvN 5 Nq19) Zq4 (fun _ _ => rfl)) (qvN 1 Nq229) (Zq12 _)) (Zq102 (Zq8 Zq80 (qvN 3 Nq97) (Zq15 Zq16 (qvN 5 Nq19) Zq4 (fun _ _ => rfl)) (Zq12 _)) (Zq92 (Zq8 Zq80 (Zq15 Zq16 (qvN 5 Nq19) Zq4 (fun _ _ => rfl)) (qvN 2 Nq227) (Zq12 _))))))) (Zq3 (Zq26 (i := 3) Zq115.nd Nq97 (Zq15 Zq16 (qvN 5 Nq19) Zq4 (fun _ _ => rfl)))
 (Zq5 (Zq26 (i := 4) Zq115.nd Nq96 (Zq15 Zq16 (qvN 5 Nq19) Zq4 (fun _ _ => rfl))))) Zq10)))
 (Zq5 (Zq11 (qvN 4 Nq96)))))), ?_⟩
    have hz : (5000 : Nat) <= sizeLine := by decide
    have hvl : vs.length = ds.length := hrep.length
    refine ⟨_, rfl, ?_⟩
    refine ⟨_, rfl, q, rfl, ⟨_, SqL.of hq⟩, ?_⟩
    refine forW_list vs (fun i σ H' => ∃ (last found : Int) (v5 : Option V), σ = [some (.ref q), some (.str n), some (.int day), some (.int last), some (.int found), v5] /\ Same H H' /\ Bst (kw (ds.take i) n) day last found) ⟨-1, 0, none, rfl, fun _ _ e => e, .inl ⟨rfl, rfl, rfl⟩⟩ (fun i σ H' _ ⟨_, _, _, _, e, _⟩ => SqL.of (e _ _ hq)) ?_ ?_
    · rintro i v σ H' hv ⟨last, found, v5, rfl, sm, hb⟩
      obtain ⟨x, a, hx, rfl, ha0⟩ := Zq184 hrep hv
      have ha := sm _ _ ha0
      have hwf := hT.wf i x hx
      have hkt := kw_take hx
      obtain ⟨wd, m, d, w', hdv, hin, hyes, hno⟩ | ⟨wd, m, d, w', hdv, hin, hbn⟩ : (∃ (wd m : Str) (d w' : Int), Zq172 x = [.str wd, .str m, .int d, .int w'] /\ inV (.str wd) [.str "come", .str "rise"] = true /\
            (m = n -> (last <= d -> d <= day -> Bst (kw (ds.take (i + 1)) n) day d w') /\ (¬ (last <= d /\ d <= day) -> Bst (kw (ds.take (i + 1)) n) day last found)) /\ (m ≠ n -> Bst (kw (ds.take (i + 1)) n) day last found)) \/
          (∃ (wd m : Str) (d : Int) (w' : Str), Zq172 x = [.str wd, .str m, .int d, .str w'] /\ inV (.str wd) [.str "come", .str "rise"] = false /\ Bst (kw (ds.take (i + 1)) n) day last found) := by
        rw [hkt]
        cases x with
        | come m d w' =>
          refine .inl ⟨_, m, d, w', rfl, in_come, fun e => ?_, fun e => by rw [Zq58, if_neg (Ne.symm e)]; exact hb⟩
          subst e
          refine bst_come hb ?_ hwf.2
          have := kw_com (ds.take i) m
          rw [hwf.1] at this
          cases e : kw (ds.take i) m with
          | none => rfl
          | some l => rw [e] at this; cases this
        | rise m d w' =>
          refine .inl ⟨_, m, d, w', rfl, in_rise, fun e => ?_, fun e => by rw [Zq58, if_neg (Ne.symm e)]; exact hb⟩
          subst e
          obtain ⟨⟨d0, hc⟩, hd⟩ := hwf
          have := kw_com (ds.take i) m
          rw [hc] at this
          cases e : kw (ds.take i) m with
          | none => rw [e] at this; cases this
          | some l => exact bst_rise hb e hd
        | die m d h' => exact .inr ⟨_, m, d, h', rfl, in_die, hb⟩
      · rw [hdv] at ha
        refine ⟨_, rfl, a, _, 0, .str wd, rfl, rfl, SqT.of ha, rfl, by show 2 <= sizeLine; lia, fun lq hlq => ?_⟩
        have S := Same.new (o := .lst [.str "come", .str "rise"]) hlq
        have kl : (upd H' lq (.lst [.str "come", .str "rise"])) lq = some (.lst [.str "come", .str "rise"]) := Zq7
        generalize (upd H' lq (.lst [.str "come", .str "rise"])) = H1 at S kl ⊢
        have ha1 := S _ _ ha
        have sm1 := sm.trans S
        refine ⟨lq, _, rfl, .inl (SqL.of kl), rfl, rfl, _, rfl, ?_⟩
        show if inV _ _ = true then _ else _
        rw [hin]
        refine iteT ?_
        refine ⟨_, rfl, a, _, 1, .str m, rfl, rfl, SqT.of ha1, rfl, _, rfl, rfl, _, rfl, iteD (fun z => ?_) (fun z => iteF ?_)⟩
        · have em : m = n := by injection z
          obtain ⟨y1, y2⟩ := hyes em
          refine ⟨_, rfl, _, rfl, a, _, 2, .int d, rfl, rfl, SqT.of ha1, rfl, last, d, rfl, rfl, _, rfl, iteD (fun z1 => ?_) (fun z1 => iteF ?_)⟩
          · refine ⟨_, rfl, a, _, 2, .int d, rfl, rfl, SqT.of ha1, rfl, _, rfl, d, day, rfl, rfl, _, rfl, iteD (fun z2 => ?_) (fun z2 => ?_)⟩
            · exact ⟨_, rfl, a, _, 2, .int d, rfl, rfl, SqT.of ha1, rfl, _, rfl, a, _, 3, .int w', rfl, rfl, SqT.of ha1, rfl, d, w', _, rfl, sm1, y1 z1 z2⟩
            · exact ⟨last, found, _, rfl, sm1, y2 fun z => z2 z.2⟩
          · exact ⟨last, found, _, rfl, sm1, y2 fun z => z1 z.1⟩
        · exact ⟨last, found, _, rfl, sm1, hno fun e => z (by rw [e])⟩
      · rw [hdv] at ha
        refine ⟨_, rfl, a, _, 0, .str wd, rfl, rfl, SqT.of ha, rfl, by show 2 <= sizeLine; lia, fun lq hlq => ?_⟩
        have S := Same.new (o := .lst [.str "come", .str "rise"]) hlq
        have kl : (upd H' lq (.lst [.str "come", .str "rise"])) lq = some (.lst [.str "come", .str "rise"]) := Zq7
        generalize (upd H' lq (.lst [.str "come", .str "rise"])) = H1 at S kl ⊢
        refine ⟨lq, _, rfl, .inl (SqL.of kl), rfl, rfl, _, rfl, ?_⟩
        show if inV _ _ = true then _ else _
        rw [hin]
        exact iteF (iteF ⟨last, found, _, rfl, sm.trans S, hbn⟩)
    · rintro σ H' ⟨last, found, v5, rfl, sm, hb⟩
      rw [hvl, List.take_length] at hb
      exact ⟨_, rfl, k last found H' hb sm⟩
theorem Told.die {ds : List Deed} {n h : Str} {d : Int} (t : Told ds) : Told (ds ++ [.die n d h]) := by
  refine ⟨wf_snoc t.wf True.intro, fun m e he => ?_⟩
  rw [comOf_die] at he
  rw [Zq140]
  exact t.key m e he
theorem comers_mem : ∀ {ds : List Deed} {n : Str}, n ∈ Zq29 ds ↔ ∃ d, Zq9 ds n = some d := by
  intro ds
  induction ds with
  | nil => intro n; exact ⟨(fun z => nomatch z), (fun ⟨d, z⟩ => nomatch z)⟩
  | cons x r ih =>
    intro n
    have e1 : Zq29 (x :: r) = Zq29 [x] ++ Zq29 r := Zq129 [x] r
    have e2 : Zq9 (x :: r) n = (Zq9 [x] n).or (Zq9 r n) := Zq162 [x] r n
    rw [e1, e2, List.mem_append, ih]
    cases x with
    | come m d w =>
      show n ∈ [m] \/ _ ↔ _
      have e3 : Zq9 [Deed.come m d w] n = if n = m then some d else none := by
        have := comOf_come (ds := []) (n := m) (d := d) (w := w) rfl n
        exact this
      rw [e3, List.mem_singleton]
      by_cases h : n = m
      · rw [if_pos h]; exact ⟨fun _ => ⟨d, rfl⟩, fun _ => .inl h⟩
      · rw [if_neg h]; exact ⟨fun z => z.resolve_left h, fun z => .inr z⟩
    | rise m d w => exact ⟨fun z => z.resolve_left (fun y => nomatch y), fun z => .inr z⟩
    | die m d h' => exact ⟨fun z => z.resolve_left (fun y => nomatch y), fun z => .inr z⟩
end
section
variable {P : Program} {w : World} {K : PySem.W.Frag} {mg : Str -> Option Value} {base : Heap} {C : Addr}
structure W22 (C : Addr) (L : FL) (q na s la : Addr) (names : List Str) (H : Hp) (dF dQ : List Deed) : Prop where
  fk : FolkAt C H L dF
  dd : DeedsAt H q dQ
  nm : H na = some (.lst (names.map V.str))
  sr : SrcAt H s la
structure Coms (ds : List Deed) (ns : List Str) : Prop where
  iff : ∀ n, n ∈ ns ↔ ∃ d, Zq9 ds n = some d
  day : ∀ n d, Zq9 ds n = some d -> 0 <= d /\ d <= 9999
def Ranked (ds : List Deed) (i : Nat) : Prop := ∃ r : Str -> Nat, (∀ n x, Zq20 ds n = some x -> r x.2 < r n) /\ (∀ n, Zq20 ds n = none -> r n = 0) /\ ∀ n, r n <= i
theorem Ranked.die {ds : List Deed} {i : Nat} {n h : Str} {d : Int} (R : Ranked ds i) (hn : Zq20 ds n = none) (hh : Zq20 ds h = none) (hne : h ≠ n) : Ranked (ds ++ [.die n d h]) (i + 1) := by
  obtain ⟨r, r1, r2, r3⟩ := R
  refine ⟨fun x => if x = n then 1 else match Zq20 ds x with | some _ => r x + 1 | none => 0, fun m x hm => ?_, fun m hm => ?_, fun m => ?_⟩
  · rw [dieOf_die hn] at hm
    by_cases e : m = n
    · rw [if_pos e] at hm
      cases hm
      dsimp only
      rw [if_pos e, if_neg hne, hh]
      exact Nat.zero_lt_one
    · rw [if_neg e] at hm
      have h1 := r1 m x hm
      dsimp only
      rw [if_neg e, hm]
      by_cases e2 : x.2 = n
      · rw [if_pos e2]; show 1 < r m + 1; lia
      · rw [if_neg e2]
        cases e3 : Zq20 ds x.2 with
        | none => show 0 < r m + 1; lia
        | some y => show r x.2 + 1 < r m + 1; lia
  · rw [dieOf_die hn] at hm
    by_cases e : m = n
    · rw [if_pos e] at hm; cases hm
    · rw [if_neg e] at hm
      dsimp only
      rw [if_neg e, hm]
  · dsimp only
    have h3 := r3 m
    by_cases e : m = n
    · rw [if_pos e]; lia
    · rw [if_neg e]
      cases Zq20 ds m with
      | none => show 0 <= i + 1; lia
      | some y => show r m + 1 <= i + 1; lia
theorem Ranked.stands {ds : List Deed} {i : Nat} (R : Ranked ds i) (hi : i <= 40) (n : Str) (day : Int) : ∃ k m, Stands ds day k n m /\ k <= 40 := by
  obtain ⟨r, r1, r2, r3⟩ := R
  obtain ⟨k, m, a, b⟩ := stands_ex r1 day i n (r3 n)
  exact ⟨k, m, a, by lia⟩
end
section
variable {P : Program} {w : World} {K : PySem.W.Frag} {mg : Str -> Option Value} {base : Heap} {C : Addr} {c : Str -> Addr}
abbrev errs : List Str := ["NoName", "NoMeasure", "Unknown", "Taken", "NotYet", "Dead", "NoHeir", "TooMany"]
theorem small_of {d : Int} (h : d.natAbs <= 1000000000000000000) : d.natAbs.log2 < 1920 := by
  by_cases z : d.natAbs = 0
  · rw [z]; decide +kernel
  · rw [Nat.log2_lt z]
    exact Nat.lt_of_le_of_lt h (by decide +kernel)
def okN (n : Str) : Prop := n.length <= 100 /\ ∀ x ∈ n.cps.toList, x < 16 ^ 8
def okI (d : Int) : Prop := d.natAbs <= 1000000000000000000
def spDayB (c : Str -> Addr) : Sp := fun vs H _ E => ∃ d : Int, vs = [.int d] /\ ¬ (0 <= d /\ d <= 9999) /\ okI d /\ E (.ref (c "NoMeasure")) none H
theorem Zq306 (Zq148 : Has K mg "check_day" Zq134) (C0 : ∃ t, mg "LAST_DAY" = some (.int 9999 t)) (er : Er K mg c errs) : FnX P w K mg base "check_day" 1 (spDayB c) := by
  obtain ⟨t0, c_LAST_DAY⟩ := C0
  have r_LAST_DAY : RelV (.int 9999) (.int 9999 t0) := ⟨t0, rfl⟩
  refine Zq148.fnX Zq255 (fun _ _ _ _ _ _ us hl => match us, hl with | [_], _ => rfl) (fun vs H Q E h => ?_) (fun f cdv A outer s H vs Q E hr h => ?_)
  · obtain ⟨d, rfl, _⟩ := h
    rfl
  · obtain ⟨d, rfl, hb, hs, k⟩ := h
    refine ⟨_, (Zq5 (Zq19 (Zq145 (qt_chain Zq80 Zq80 Zq4 (qvN 0 Nq86) (Zq34 Nq124 c_LAST_DAY r_LAST_DAY))) (Zq5 (Zq132 Zq159 rfl rfl (er.x "NoMeasure" (by decide +kernel)) Nq202 (er.g "NoMeasure" (by decide +kernel)) (Zq107 (Zq146 (qvN 0 Nq86) (Zq137 Zq180))))) Zq10)), ?_⟩
    have up : ∃ v, v = V.int d /\ True := ⟨_, rfl, trivial⟩
    refine ⟨_, rfl, _, _, rfl, rfl, _, rfl, iteD (fun h0 => ?_) (fun z => ?_)⟩
    · exact ⟨_, _, rfl, rfl, _, rfl, Zq99 (fun _ => ⟨_, rfl, .inr ⟨d, rfl, small_of hs⟩, by decide +kernel, fun _ => k⟩) (fun z => absurd ⟨h0, z⟩ hb)⟩
    · exact ⟨false, rfl, iteT ⟨_, rfl, .inr ⟨d, rfl, small_of hs⟩, by decide +kernel, fun _ => k⟩⟩
def spWtB (c : Str -> Addr) : Sp := fun vs H _ E => ∃ d : Int, vs = [.int d] /\ ¬ (1 <= d /\ d <= 1000) /\ okI d /\ E (.ref (c "NoMeasure")) none H
theorem Zq273 (Zq113 : Has K mg "check_weight" Zq94) (C0 : ∃ t, mg "MOST_WEIGHT" = some (.int 1000 t)) (er : Er K mg c errs) : FnX P w K mg base "check_weight" 1 (spWtB c) := by
  obtain ⟨t0, c_MOST_WEIGHT⟩ := C0
  have r_MOST_WEIGHT : RelV (.int 1000) (.int 1000 t0) := ⟨t0, rfl⟩
  refine Zq113.fnX Zq239 (fun _ _ _ _ _ _ us hl => match us, hl with | [_], _ => rfl) (fun vs H Q E h => ?_) (fun f cdv A outer s H vs Q E hr h => ?_)
  · obtain ⟨d, rfl, _⟩ := h
    rfl
  · obtain ⟨d, rfl, hb, hs, k⟩ := h
    refine ⟨_, (Zq5 (Zq19 (Zq145 (qt_chain Zq80 Zq80 Zq4 (qvN 0 Nq87) (Zq34 Nq125 c_MOST_WEIGHT r_MOST_WEIGHT))) (Zq5 (Zq132 Zq159 rfl rfl (er.x "NoMeasure" (by decide +kernel)) Nq203 (er.g "NoMeasure" (by decide +kernel)) (Zq107 (Zq146 (qvN 0 Nq87) (Zq137 Zq180))))) Zq10)), ?_⟩
    refine ⟨_, rfl, _, _, rfl, rfl, _, rfl, iteD (fun h0 => ?_) (fun z => ?_)⟩
    · exact ⟨_, _, rfl, rfl, _, rfl, Zq99 (fun _ => ⟨_, rfl, .inr ⟨d, rfl, small_of hs⟩, by decide +kernel, fun _ => k⟩) (fun z => absurd ⟨h0, z⟩ hb)⟩
    · exact ⟨false, rfl, iteT ⟨_, rfl, .inr ⟨d, rfl, small_of hs⟩, by decide +kernel, fun _ => k⟩⟩
def spKnownB (C : Addr) (c : Str -> Addr) : Sp := fun vs H _ E => ∃ (L : FL) (ds : List Deed) (n : Str), vs = [.ref L.p, .str n] /\ FolkAt C H L ds /\ Zq9 ds n = none /\ okN n /\ E (.ref (c "Unknown")) none H
theorem Zq284 (Zq73 : HasM K C "check_known" "Folk.check_known" Zq60) (Tc : TxC K C) (er : Er K mg c errs) : MtX P w K mg base C "check_known" 1 (spKnownB C c) := by
  refine Zq73.mtX Zq202 (fun _ _ _ _ _ _ us hl => match us, hl with | [_, _], _ => rfl) (fun vs H Q E h => ?_) (fun f cdv A outer s H vs Q E hr h => ?_)
  · obtain ⟨L, ds, n, rfl, _⟩ := h
    rfl
  · obtain ⟨L, ds, n, rfl, F, hn, ho, k⟩ := h
    refine ⟨_, (Zq5 (Zq19 (Zq8 (qop_dnotin hr) (qvN 1 Nq88) (Zq43 (qvN 0 Nq126)) rfl) (Zq5 (Zq132 Zq159 rfl rfl (er.x "Unknown" (by decide +kernel)) Nq204 (er.g "Unknown" (by decide +kernel)) (Zq107 (Zq137 (Zq146 (qvN 1 Nq88) Zq180))))) Zq10)), ?_⟩
    obtain ⟨dx, ob⟩ := F.ob
    obtain ⟨kvs, c1, c2, c3⟩ := F.c
    refine ⟨_, rfl, _, rfl, L.p, C, dx, _, _, rfl, ob, Tc.cl, Tc.nc, ff_c _ _ _ _, L.dc, _, rfl, DGet.k (k := Sum.inr n) c1, _, rfl, ?_⟩
    rw [c3, hn]
    exact iteT ⟨by decide +kernel, _, rfl, .inl ⟨n, rfl, by have := ho.1; lia⟩, fun _ => k⟩
def spThereB (C : Addr) (c : Str -> Addr) : Sp := fun vs H _ E => ∃ (L : FL) (ds : List Deed) (n : Str) (d day : Int), vs = [.ref L.p, .str n, .int day] /\ FolkAt C H L ds /\ Zq9 ds n = some d /\ day < d /\ okN n /\ okI day /\ E (.ref (c "NotYet")) none H
theorem Zq285 (Zq74 : HasM K C "check_there" "Folk.check_there" Zq50) (Tc : TxC K C) (er : Er K mg c errs) : MtX P w K mg base C "check_there" 1 (spThereB C c) := by
  refine Zq74.mtX Zq203 (fun _ _ _ _ _ _ us hl => match us, hl with | [_, _, _], _ => rfl) (fun vs H Q E h => ?_) (fun f cdv A outer s H vs Q E hr h => ?_)
  · obtain ⟨L, ds, n, d, day, rfl, _⟩ := h
    rfl
  · obtain ⟨L, ds, n, d, day, rfl, F, hn, hd, ho, hi, k⟩ := h
    refine ⟨_, (Zq5 (Zq19 (Zq8 Zq192 (qvN 2 Nq89) (Zq123 hr (Zq43 (qvN 0 Nq127)) (qvN 1 Nq90) (fun _ _ => rfl)) (Zq12 _)) (Zq5 (Zq132 Zq159 rfl rfl (er.x "NotYet" (by decide +kernel)) Nq205 (er.g "NotYet" (by decide +kernel)) (Zq107 (Zq146 (qvN 1 Nq90) (Zq137 (Zq146 (qvN 2 Nq89) Zq180)))))) Zq10)), ?_⟩
    obtain ⟨dx, ob⟩ := F.ob
    obtain ⟨kvs, c1, c2, c3⟩ := F.c
    have g := DGet.k (k := Sum.inr n) c1
    rw [c3, hn] at g
    refine ⟨_, rfl, _, rfl, L.p, C, dx, _, _, rfl, ob, Tc.cl, Tc.nc, ff_c _ _ _ _, _, rfl, L.dc, .int d, rfl, g, ?_⟩
    exact ⟨_, _, rfl, rfl, _, rfl, iteD (fun _ => ⟨_, rfl, .inl ⟨n, rfl, by have := ho.1; lia⟩, by decide +kernel, _, rfl, .inr ⟨day, rfl, small_of hi⟩, fun _ => k⟩) (fun z => absurd hd z)⟩
def spLivingB (C : Addr) (c : Str -> Addr) : Sp := fun vs H _ E => ∃ (L : FL) (ds : List Deed) (n : Str) (day : Int), vs = [.ref L.p, .str n, .int day] /\ FolkAt C H L ds /\ Zq72 ds n day = true /\ okN n /\ okI day /\ E (.ref (c "Dead")) none H
theorem Zq274 (Zq67 : HasM K C "check_living" "Folk.check_living" Zq46) (Tc : TxC K C) (er : Er K mg c errs) (M_died_by : Mt P w K mg base C "died_by" ["self", "name", "day"] 1 (spDiedBy C)) : MtX P w K mg base C "check_living" 2 (spLivingB C c) := by
  refine Zq67.mtX Zq198 (fun _ _ _ _ _ _ us hl => match us, hl with | [_, _, _], _ => rfl) (fun vs H Q E h => ?_) (fun f cdv A outer s H vs Q E hr h => ?_)
  · obtain ⟨L, ds, n, day, rfl, _⟩ := h
    rfl
  · obtain ⟨L, ds, n, day, rfl, F, hd, ho, hi, k⟩ := h
    refine ⟨_, (Zq5 (Zq19 (Zq126 (Zq70 (qvN 0 Nq139) Tc.cl M_died_by (hr.mono (by lia)) (Zq0 (qvN 1 Nq93) (Zq0 (qvN 2 Nq92) Zq2)))) (Zq5 (Zq132 Zq159 rfl rfl (er.x "Dead" (by decide +kernel)) Nq211 (er.g "Dead" (by decide +kernel)) (Zq107 (Zq146 (qvN 1 Nq93) (Zq137 (Zq146 (qvN 2 Nq92) Zq180)))))) Zq10)), ?_⟩
    obtain ⟨dx, ob⟩ := F.ob
    refine ⟨_, rfl, L.p, dx, _, rfl, ob, Zq52 _ _ _ _ (by decide +kernel), _, rfl, _, rfl, L, ds, n, day, rfl, F, _, rfl, ?_⟩
    rw [hd]
    exact iteT ⟨_, rfl, .inl ⟨n, rfl, by have := ho.1; lia⟩, by decide +kernel, _, rfl, .inr ⟨day, rfl, small_of hi⟩, fun _ => k⟩
def spUntoldB (C : Addr) (c : Str -> Addr) : Sp := fun vs H _ E => ∃ (L : FL) (ds : List Deed) (n : Str) (x : Int × Str), vs = [.ref L.p, .str n] /\ FolkAt C H L ds /\ Zq20 ds n = some x /\ okN n /\ E (.ref (c "Dead")) none H
theorem Zq275 (Zq68 : HasM K C "check_untold" "Folk.check_untold" Zq55) (Tc : TxC K C) (er : Er K mg c errs) : MtX P w K mg base C "check_untold" 1 (spUntoldB C c) := by
  refine Zq68.mtX Zq199 (fun _ _ _ _ _ _ us hl => match us, hl with | [_, _], _ => rfl) (fun vs H Q E h => ?_) (fun f cdv A outer s H vs Q E hr h => ?_)
  · obtain ⟨L, ds, n, x, rfl, _⟩ := h
    rfl
  · obtain ⟨L, ds, n, x, rfl, F, c5, ho, k⟩ := h
    refine ⟨_, (Zq5 (Zq19 (Zq8 (Zq206 hr) (qvN 1 Nq94) (Zq43 (qvN 0 Nq145)) rfl) (Zq5 (Zq132 Zq159 rfl rfl (er.x "Dead" (by decide +kernel)) Nq214 (er.g "Dead" (by decide +kernel)) (Zq107 (Zq137 (Zq146 (qvN 1 Nq94) (Zq137 Zq180)))))) Zq10)), ?_⟩
    obtain ⟨dx, ob⟩ := F.ob
    obtain ⟨kvs, e1, e2, e3⟩ := F.d
    have g := DGet.k (k := Sum.inr n) e1
    rw [e3, c5] at g
    exact ⟨_, rfl, _, rfl, L.p, C, dx, _, _, rfl, ob, Tc.cl, Tc.nd, ff_d _ _ _ _, L.dd, _, rfl, g, _, rfl, iteT ⟨by decide +kernel, _, rfl, .inl ⟨n, rfl, by have := ho.1; lia⟩, by decide +kernel, fun _ => k⟩⟩
end
section
variable {P : Program} {w : World} {K : PySem.W.Frag} {mg : Str -> Option Value} {base : Heap} {C : Addr} {c : Str -> Addr}
def Zq155 (ds : List Deed) (n : Str) (day wt : Int) : Str := if Zq65 n = false then "NoName" else if ¬ (0 <= day /\ day <= 9999) then "NoMeasure" else if ¬ (1 <= wt /\ wt <= 1000) then "NoMeasure" else if (Zq9 ds n).isSome = true then "Taken" else if 40 <= (Zq29 ds).length then "TooMany" else ""
def Zq142 (ds : List Deed) (n : Str) (day wt : Int) : Str := if ¬ (0 <= day /\ day <= 9999) then "NoMeasure" else if ¬ (1 <= wt /\ wt <= 1000) then "NoMeasure" else match Zq9 ds n with
  | none => "Unknown"
  | some d => if day < d then "NotYet" else if Zq72 ds n day = true then "Dead" else ""
def Zq164 (ds : List Deed) (n : Str) (day : Int) (he : Str) : Str := if ¬ (0 <= day /\ day <= 9999) then "NoMeasure" else match Zq9 ds n, Zq9 ds he with
  | none, _ => "Unknown"
  | some _, none => "Unknown"
  | some d, some d' => if day < d \/ day < d' then "NotYet" else if (Zq20 ds n).isSome = true then "Dead" else if he = n \/ (Zq20 ds he).isSome = true then "NoHeir" else ""
def Zq56 (wd : Str) (ds : List Deed) (n : Str) (day : Int) : Str := if wd ≠ "came" /\ ¬ (0 <= day /\ day <= 9999) then "NoMeasure" else match Zq9 ds n with
  | none => "Unknown"
  | some d => if wd = "weight" /\ day < d then "NotYet" else ""
abbrev sDay (c : Str -> Addr) : Sp := Sp.or Zq238 (spDayB c)
abbrev sWt (c : Str -> Addr) : Sp := Sp.or spWt (spWtB c)
abbrev sKnown (C : Addr) (c : Str -> Addr) : Sp := Sp.or (Zq189 C) (spKnownB C c)
abbrev sThere (C : Addr) (c : Str -> Addr) : Sp := Sp.or (spThere C) (spThereB C c)
abbrev sLiving (C : Addr) (c : Str -> Addr) : Sp := Sp.or (spLiving C) (spLivingB C c)
abbrev sUntold (C : Addr) (c : Str -> Addr) : Sp := Sp.or (spUntold C) (spUntoldB C c)
structure Chk (P : Program) (w : World) (K : PySem.W.Frag) (mg : Str -> Option Value) (base : Heap) (C : Addr) (c : Str -> Addr) : Prop where
  day : FnX P w K mg base "check_day" 1 (sDay c)
  wt : FnX P w K mg base "check_weight" 1 (sWt c)
  known : MtX P w K mg base C "check_known" 1 (sKnown C c)
  there : MtX P w K mg base C "check_there" 1 (sThere C c)
  living : MtX P w K mg base C "check_living" 2 (sLiving C c)
  untold : MtX P w K mg base C "check_untold" 1 (sUntold C c)
def spChkComeB (C : Addr) (c : Str -> Addr) : Sp := fun vs H _ E => ∃ (L : FL) (ds : List Deed) (wa : Str -> Addr) (n : Str) (day wt : Int), vs = [.ref L.p, .str n, .int day, .int wt] /\ FolkAt C H L ds /\ WtsAt H L ds wa /\ okN n /\ okI day /\ okI wt /\ Zq155 ds n day wt ≠ "" /\ ∀ H', Same H H' -> E (.ref (c (Zq155 ds n day wt))) none H'
theorem Zq276 (Zq66 : HasM K C "check_coming" "Folk.check_coming" Zq27) (T : Txt mg) (Tc : TxC K C) (C0 : ∃ t, mg "MOST_FOLK" = some (.int 40 t)) (er : Er K mg c errs) (Zq258 : Fn P w K mg base "is_name" ["text"] 1 spIsName) (ck : Chk P w K mg base C c) :
    MtX P w K mg base C "check_coming" 2 (spChkComeB C c) := by
  obtain ⟨t0, c_MOST_FOLK⟩ := C0
  have r_MOST_FOLK : RelV (.int 40) (.int 40 t0) := ⟨t0, rfl⟩
  have Zq31 := ck.day
  have Zq95 := ck.wt
  refine Zq66.mtX Zq197 (fun _ _ _ _ _ _ us hl => match us, hl with | [_, _, _, _], _ => rfl) (fun vs H Q E h => ?_) (fun f cdv A outer s H vs Q E hr h => ?_)
  · obtain ⟨L, ds, wa, n, day, wt, rfl, _⟩ := h
    rfl
  · obtain ⟨L, ds, wa, n, day, wt, rfl, F0, W0, ho, hi, hw, hdu, k⟩ := h
    refine ⟨_, (Zq3 (Zq19 (Zq145 (Zq126 (Zq17 Zq258 (hr.mono (by lia)) Nq136 (Zq0 (qvN 1 Nq21) Zq2)))) (Zq5 (Zq132 Zq159 rfl rfl (er.x "NoName" (by decide +kernel)) Nq208 (er.g "NoName" (by decide +kernel)) (Zq107 (qj_rep (qvN 1 Nq21) (Zq137 Zq180))))) Zq10)
 (Zq3 (Zq23 (Zq179 Zq33 Zq31 (hr.mono (by lia)) Nq133 (Zq0 (qvN 2 Nq135) Zq2)))
 (Zq3 (Zq23 (Zq179 Zq33 Zq95 (hr.mono (by lia)) Nq134 (Zq0 (qvN 3 Nq138) Zq2)))
 (Zq3 (Zq19 (Zq8 (Zq206 hr) (qvN 1 Nq21) (Zq43 (qvN 0 Nq59)) rfl) (Zq5 (Zq132 Zq159 rfl rfl (er.x "Taken" (by decide +kernel)) Nq209 (er.g "Taken" (by decide +kernel)) (Zq107 (Zq137 (Zq146 (qvN 1 Nq21) (Zq137 Zq180)))))) Zq10)
 (Zq5 (Zq19 (Zq8 qop_ge (Zq18 qcall_lenD Nq137 T.len Zq143 (Zq0 (Zq43 (qvN 0 Nq59)) Zq2)) (Zq34 Nq91 c_MOST_FOLK r_MOST_FOLK) (Zq12 _)) (Zq5 (Zq132 Zq159 rfl rfl (er.x "TooMany" (by decide +kernel)) Nq210 (er.g "TooMany" (by decide +kernel)) (Zq107 (Zq137 (Zq146 (Zq34 Nq91 c_MOST_FOLK r_MOST_FOLK) (Zq137 Zq180)))))) Zq10)))))), ?_⟩
    have hl := ho.1
    refine ⟨_, rfl, n, rfl, by lia, fun H1 s1 => ⟨_, rfl, ?_⟩⟩
    have k := k H1 s1
    unfold Zq155 at k hdu
    cases e : Zq65 n with
    | false =>
      rw [if_pos e] at k
      exact iteT ⟨_, rfl, ⟨n, rfl, by lia, ho.2⟩, by decide +kernel, fun _ => k⟩
    | true =>
      rw [if_neg (by rw [e]; decide)] at k hdu
      refine iteF ?_
      have F := F0.keep (Same.n s1)
      have W := W0.keep (Same.n s1)
      obtain ⟨dx, ob⟩ := F.ob
      obtain ⟨kvs, c1, c2, c3⟩ := F.c
      have g := DGet.k (k := Sum.inr n) c1
      by_cases hd : 0 <= day /\ day <= 9999
      · rw [if_neg (fun z => z hd)] at k hdu
        refine ⟨_, rfl, .inl ⟨day, rfl, hd.1, hd.2, ?_⟩⟩
        by_cases hw' : 1 <= wt /\ wt <= 1000
        · rw [if_neg (fun z => z hw')] at k hdu
          refine ⟨_, rfl, .inl ⟨wt, rfl, hw'.1, hw'.2, ?_⟩⟩
          refine ⟨_, rfl, _, rfl, L.p, C, dx, _, _, rfl, ob, Tc.cl, Tc.nc, ff_c _ _ _ _, L.dc, _, rfl, g, _, rfl, ?_⟩
          rw [c3]
          cases hc : Zq9 ds n with
          | some d0 =>
            rw [hc, if_pos (show (some d0).isSome = true from rfl)] at k
            exact iteT ⟨by decide +kernel, _, rfl, .inl ⟨n, rfl, by lia⟩, by decide +kernel, fun _ => k⟩
          | none =>
            rw [hc, if_neg (by decide)] at k hdu
            refine iteF ?_
            have hk := ord_len W c1
            by_cases h40 : 40 <= (Zq29 ds).length
            · rw [if_pos h40] at k
              exact ⟨_, rfl, L.p, C, dx, _, _, rfl, ob, Tc.cl, Tc.nc, ff_c _ _ _ _, L.dc, kvs, rfl, c1, _, _, rfl, rfl, _, rfl, iteD (fun _ => ⟨by decide +kernel, .inr ⟨40, rfl, by decide +kernel⟩, by decide +kernel, fun _ => k⟩) (fun z => absurd (show (40 : Int) <= kvs.length by lia) z)⟩
            · rw [if_neg h40] at hdu
              exact absurd rfl hdu
        · rw [if_pos hw'] at k
          exact ⟨_, rfl, .inr ⟨wt, rfl, hw', hw, k⟩⟩
      · rw [if_pos hd] at k
        exact ⟨_, rfl, .inr ⟨day, rfl, hd, hi, k⟩⟩
def spChkRiseB (C : Addr) (c : Str -> Addr) : Sp := fun vs H _ E => ∃ (L : FL) (ds : List Deed) (n : Str) (day wt : Int), vs = [.ref L.p, .str n, .int day, .int wt] /\ FolkAt C H L ds /\ okN n /\ okI day /\ okI wt /\ Zq142 ds n day wt ≠ "" /\ E (.ref (c (Zq142 ds n day wt))) none H
theorem Zq297 (Zq85 : HasM K C "check_rise" "Folk.check_rise" Zq42) (Tc : TxC K C) (er : Er K mg c errs) (ck : Chk P w K mg base C c) : MtX P w K mg base C "check_rise" 3 (spChkRiseB C c) := by
  have Zq31 := ck.day
  have Zq95 := ck.wt
  have M_check_known := ck.known
  have M_check_there := ck.there
  have M_check_living := ck.living
  refine Zq85.mtX Zq218 (fun _ _ _ _ _ _ us hl => match us, hl with | [_, _, _, _], _ => rfl) (fun vs H Q E h => ?_) (fun f cdv A outer s H vs Q E hr h => ?_)
  · obtain ⟨L, ds, n, day, wt, rfl, _⟩ := h
    rfl
  · obtain ⟨L, ds, n, day, wt, rfl, F, ho, hi, hw, hdu, k⟩ := h
    refine ⟨_, (Zq3 (Zq23 (Zq179 Zq33 Zq31 (hr.mono (by lia)) Nq140 (Zq0 (qvN 2 Nq25) Zq2)))
 (Zq3 (Zq23 (Zq179 Zq33 Zq95 (hr.mono (by lia)) Nq141 (Zq0 (qvN 3 Nq142) Zq2)))
 (Zq3 (Zq23 (Zq44 Zq33 (qvN 0 Nq27) Tc.cl M_check_known (hr.mono (by lia)) (Zq0 (qvN 1 Nq26) Zq2)))
 (Zq3 (Zq23 (Zq44 Zq33 (qvN 0 Nq27) Tc.cl M_check_there (hr.mono (by lia)) (Zq0 (qvN 1 Nq26) (Zq0 (qvN 2 Nq25) Zq2))))
 (Zq5 (Zq23 (Zq44 Zq33 (qvN 0 Nq27) Tc.cl M_check_living (hr.mono (by lia)) (Zq0 (qvN 1 Nq26) (Zq0 (qvN 2 Nq25) Zq2))))))))), ?_⟩
    obtain ⟨dx, ob⟩ := F.ob
    have no : ∀ {m : Str}, notF m -> (Zq121 L.dc L.dw L.dd L.dh).lookup m = none := fun h => Zq52 _ _ _ _ h
    unfold Zq142 at k hdu
    by_cases hd : 0 <= day /\ day <= 9999
    · rw [if_neg (fun z => z hd)] at k hdu
      refine ⟨_, rfl, .inl ⟨day, rfl, hd.1, hd.2, ?_⟩⟩
      by_cases hw' : 1 <= wt /\ wt <= 1000
      · rw [if_neg (fun z => z hw')] at k hdu
        refine ⟨_, rfl, .inl ⟨wt, rfl, hw'.1, hw'.2, ?_⟩⟩
        cases hc : Zq9 ds n with
        | none =>
          rw [hc] at k
          exact ⟨_, rfl, L.p, dx, _, rfl, ob, no (by decide +kernel), _, rfl, .inr ⟨L, ds, n, rfl, F, hc, ho, k⟩⟩
        | some d0 =>
          rw [hc] at k hdu
          dsimp only at k hdu
          refine ⟨_, rfl, L.p, dx, _, rfl, ob, no (by decide +kernel), _, rfl, .inl ⟨L, ds, n, d0, rfl, F, hc, ?_⟩⟩
          by_cases ht : day < d0
          · rw [if_pos ht] at k
            exact ⟨_, rfl, L.p, dx, _, rfl, ob, no (by decide +kernel), _, rfl, _, rfl, .inr ⟨L, ds, n, d0, day, rfl, F, hc, ht, ho, hi, k⟩⟩
          · rw [if_neg ht] at k hdu
            refine ⟨_, rfl, L.p, dx, _, rfl, ob, no (by decide +kernel), _, rfl, _, rfl, .inl ⟨L, ds, n, d0, day, rfl, F, hc, by lia, ?_⟩⟩
            by_cases hv : Zq72 ds n day = true
            · rw [if_pos hv] at k
              exact ⟨_, rfl, L.p, dx, _, rfl, ob, no (by decide +kernel), _, rfl, _, rfl, .inr ⟨L, ds, n, day, rfl, F, hv, ho, hi, k⟩⟩
            · rw [if_neg hv] at hdu
              exact absurd rfl hdu
      · rw [if_pos hw'] at k
        exact ⟨_, rfl, .inr ⟨wt, rfl, hw', hw, k⟩⟩
    · rw [if_pos hd] at k
      exact ⟨_, rfl, .inr ⟨day, rfl, hd, hi, k⟩⟩
def spChkDieB (C : Addr) (c : Str -> Addr) : Sp := fun vs H _ E => ∃ (L : FL) (ds : List Deed) (n he : Str) (day : Int), vs = [.ref L.p, .str n, .int day, .str he] /\ FolkAt C H L ds /\ okN n /\ okN he /\ okI day /\ Zq164 ds n day he ≠ "" /\ E (.ref (c (Zq164 ds n day he))) none H
theorem Zq286 (Zq75 : HasM K C "check_death" "Folk.check_death" Zq39) (Tc : TxC K C) (er : Er K mg c errs) (ck : Chk P w K mg base C c) : MtX P w K mg base C "check_death" 2 (spChkDieB C c) := by
  have Zq31 := ck.day
  have M_check_known := ck.known
  have M_check_there := ck.there
  have M_check_untold := ck.untold
  refine Zq75.mtX Zq204 (fun _ _ _ _ _ _ us hl => match us, hl with | [_, _, _, _], _ => rfl) (fun vs H Q E h => ?_) (fun f cdv A outer s H vs Q E hr h => ?_)
  · obtain ⟨L, ds, n, he, day, rfl, _⟩ := h
    rfl
  · obtain ⟨L, ds, n, he, day, rfl, F, ho, ho', hi, hdu, k⟩ := h
    refine ⟨_, (Zq3 (Zq23 (Zq179 Zq33 Zq31 (hr.mono (by lia)) Nq146 (Zq0 (qvN 2 Nq32) Zq2)))
 (Zq3 (Zq23 (Zq44 Zq33 (qvN 0 Nq8) Tc.cl M_check_known (hr.mono (by lia)) (Zq0 (qvN 1 Nq15) Zq2)))
 (Zq3 (Zq23 (Zq44 Zq33 (qvN 0 Nq8) Tc.cl M_check_known (hr.mono (by lia)) (Zq0 (qvN 3 Nq14) Zq2)))
 (Zq3 (Zq23 (Zq44 Zq33 (qvN 0 Nq8) Tc.cl M_check_there (hr.mono (by lia)) (Zq0 (qvN 1 Nq15) (Zq0 (qvN 2 Nq32) Zq2))))
 (Zq3 (Zq23 (Zq44 Zq33 (qvN 0 Nq8) Tc.cl M_check_there (hr.mono (by lia)) (Zq0 (qvN 3 Nq14) (Zq0 (qvN 2 Nq32) Zq2))))
 (Zq3 (Zq23 (Zq44 Zq33 (qvN 0 Nq8) Tc.cl M_check_untold (hr.mono (by lia)) (Zq0 (qvN 1 Nq15) Zq2)))
 (Zq5 (Zq19 (QW.pt (Zq237 (Zq8 Zq30 (qvN 3 Nq14) (qvN 1 Nq15) (Zq12 _)) (Zq213 (Zq8 (Zq206 hr) (qvN 3 Nq14) (Zq43 (qvN 0 Nq8)) rfl)))) (Zq5 (Zq132 Zq159 rfl rfl (er.x "NoHeir" (by decide +kernel)) Nq215 (er.g "NoHeir" (by decide +kernel)) (Zq107 (Zq146 (qvN 3 Nq14) (Zq137 (Zq146 (qvN 1 Nq15) Zq180)))))) Zq10)))))))), ?_⟩
    obtain ⟨dx, ob⟩ := F.ob
    have no : ∀ {m : Str}, notF m -> (Zq121 L.dc L.dw L.dd L.dh).lookup m = none := fun h => Zq52 _ _ _ _ h
    unfold Zq164 at k hdu
    by_cases hd : 0 <= day /\ day <= 9999
    · rw [if_neg (fun z => z hd)] at k hdu
      refine ⟨_, rfl, .inl ⟨day, rfl, hd.1, hd.2, ?_⟩⟩
      cases hc : Zq9 ds n with
      | none =>
        rw [hc] at k
        exact ⟨_, rfl, L.p, dx, _, rfl, ob, no (by decide +kernel), _, rfl, .inr ⟨L, ds, n, rfl, F, hc, ho, k⟩⟩
      | some d1 =>
        rw [hc] at k hdu
        refine ⟨_, rfl, L.p, dx, _, rfl, ob, no (by decide +kernel), _, rfl, .inl ⟨L, ds, n, d1, rfl, F, hc, ?_⟩⟩
        cases hc2 : Zq9 ds he with
        | none =>
          rw [hc2] at k
          exact ⟨_, rfl, L.p, dx, _, rfl, ob, no (by decide +kernel), _, rfl, .inr ⟨L, ds, he, rfl, F, hc2, ho', k⟩⟩
        | some d2 =>
          rw [hc2] at k hdu
          dsimp only at k hdu
          refine ⟨_, rfl, L.p, dx, _, rfl, ob, no (by decide +kernel), _, rfl, .inl ⟨L, ds, he, d2, rfl, F, hc2, ?_⟩⟩
          by_cases t1 : day < d1
          · rw [if_pos (.inl t1)] at k
            exact ⟨_, rfl, L.p, dx, _, rfl, ob, no (by decide +kernel), _, rfl, _, rfl, .inr ⟨L, ds, n, d1, day, rfl, F, hc, t1, ho, hi, k⟩⟩
          · refine ⟨_, rfl, L.p, dx, _, rfl, ob, no (by decide +kernel), _, rfl, _, rfl, .inl ⟨L, ds, n, d1, day, rfl, F, hc, by lia, ?_⟩⟩
            by_cases t2 : day < d2
            · rw [if_pos (.inr t2)] at k
              exact ⟨_, rfl, L.p, dx, _, rfl, ob, no (by decide +kernel), _, rfl, _, rfl, .inr ⟨L, ds, he, d2, day, rfl, F, hc2, t2, ho', hi, k⟩⟩
            · rw [if_neg (fun z => z.elim t1 t2)] at k hdu
              refine ⟨_, rfl, L.p, dx, _, rfl, ob, no (by decide +kernel), _, rfl, _, rfl, .inl ⟨L, ds, he, d2, day, rfl, F, hc2, by lia, ?_⟩⟩
              cases hn : Zq20 ds n with
              | some x =>
                rw [hn, if_pos (show (some x).isSome = true from rfl)] at k
                exact ⟨_, rfl, L.p, dx, _, rfl, ob, no (by decide +kernel), _, rfl, .inr ⟨L, ds, n, x, rfl, F, hn, ho, k⟩⟩
              | none =>
                rw [hn, if_neg (by decide)] at k hdu
                refine ⟨_, rfl, L.p, dx, _, rfl, ob, no (by decide +kernel), _, rfl, .inl ⟨L, ds, n, rfl, F, hn, ?_⟩⟩
                have R : ∀ (z : he = n \/ (Zq20 ds he).isSome = true), E (.ref (c "NoHeir")) none H := fun z => by rw [if_pos z] at k; exact k
                obtain ⟨kvs, e1, e2, e3⟩ := F.d
                have g' := DGet.k (k := Sum.inr he) e1
                have l1 := ho.1
                have l2 := ho'.1
                refine ⟨_, rfl, _, rfl, rfl, _, rfl, iteD (fun z => ?_) (fun z => ?_)⟩
                · exact iteT ⟨_, rfl, .inl ⟨he, rfl, by lia⟩, by decide +kernel, _, rfl, .inl ⟨n, rfl, by lia⟩, fun _ => R (.inl (by injection z))⟩
                · refine ⟨_, rfl, _, rfl, L.p, C, dx, _, _, rfl, ob, Tc.cl, Tc.nd, ff_d _ _ _ _, L.dd, _, rfl, g', _, rfl, ?_⟩
                  rw [e3]
                  cases hh : Zq20 ds he with
                  | some y => exact iteT ⟨_, rfl, .inl ⟨he, rfl, by lia⟩, by decide +kernel, _, rfl, .inl ⟨n, rfl, by lia⟩, fun _ => R (.inr (by rw [hh]; rfl))⟩
                  | none =>
                    rw [if_neg (fun q => q.elim (fun q => z (by rw [q])) fun q => by rw [hh] at q; cases q)] at hdu
                    exact absurd rfl hdu
    · rw [if_pos hd] at k
      exact ⟨_, rfl, .inr ⟨day, rfl, hd, hi, k⟩⟩
end
section
variable {P : Program} {w : World} {K : PySem.W.Frag} {mg : Str -> Option Value} {base : Heap} {C : Addr} {c : Str -> Addr}
def dueD (ds : List Deed) : Deed -> Str
  | .come n d w => Zq155 ds n d w
  | .rise n d w => Zq142 ds n d w
  | .die n d h => Zq164 ds n d h
def wdD : Deed -> Str
  | .come _ _ _ => "come"
  | .rise _ _ _ => "rise"
  | .die _ _ _ => "die"
def okD : Deed -> Prop
  | .come n d w => okN n /\ okI d /\ okI w
  | .rise n d w => okN n /\ okI d /\ okI w
  | .die n d h => okN n /\ okN h /\ okI d
def spComeB (C : Addr) (c : Str -> Addr) : Sp := fun vs H _ E => ∃ (L : FL) (ds : List Deed) (wa : Str -> Addr) (n : Str) (day wt : Int), vs = [.ref L.p, .str n, .int day, .int wt] /\ Fk C H L ds wa /\ okN n /\ okI day /\ okI wt /\ Zq155 ds n day wt ≠ "" /\ ∀ H', Same H H' -> E (.ref (c (Zq155 ds n day wt))) none H'
theorem Zq325 (Zq152 : HasM K C "come" "Folk.come" Zq110) (Tc : TxC K C) (M_check_coming : MtX P w K mg base C "check_coming" 2 (spChkComeB C c)) : MtX P w K mg base C "come" 3 (spComeB C c) := by
  refine Zq152.mtX Zq259 (fun _ _ _ _ _ _ us hl => match us, hl with | [_, _, _, _], _ => rfl) (fun vs H Q E h => ?_) (fun f cdv A outer s H vs Q E hr h => ?_)
  · obtain ⟨L, ds, wa, n, day, wt, rfl, _⟩ := h
    rfl
  · obtain ⟨L, ds, wa, n, day, wt, rfl, K0, ho, hi, hw, hdu, k⟩ := h
    refine ⟨_, (Zq3 (Zq23 (Zq44 Zq33 (qvN 0 Nq24) Tc.cl M_check_coming (hr.mono (by lia)) (Zq0 (qvN 1 Nq23) (Zq0 (qvN 2 Nq22) (Zq0 (qvN 3 Nq60) Zq2)))))
 (Zq3 (Zq147 hr (Zq43 (qvN 0 Nq24)) (qvN 1 Nq23) (qvN 2 Nq22))
 (Zq5 (Zq147 hr (Zq43 (qvN 0 Nq24)) (qvN 1 Nq23) (qe_disp1 (qvN 2 Nq22) (qvN 3 Nq60)))))), ?_⟩
    obtain ⟨dx0, ob0⟩ := K0.f.ob
    exact ⟨_, rfl, L.p, dx0, _, rfl, ob0, Zq52 _ _ _ _ (by decide +kernel), _, rfl, _, rfl, _, rfl, L, ds, wa, n, day, wt, rfl, K0.f, K0.w, ho, hi, hw, hdu, k⟩
def spRiseB (C : Addr) (c : Str -> Addr) : Sp := fun vs H _ E => ∃ (L : FL) (ds : List Deed) (n : Str) (day wt : Int), vs = [.ref L.p, .str n, .int day, .int wt] /\ FolkAt C H L ds /\ okN n /\ okI day /\ okI wt /\ Zq142 ds n day wt ≠ "" /\ E (.ref (c (Zq142 ds n day wt))) none H
theorem Zq326 (Zq153 : HasM K C "rise" "Folk.rise" Zq111) (Tc : TxC K C) (M_check_rise : MtX P w K mg base C "check_rise" 3 (spChkRiseB C c)) : MtX P w K mg base C "rise" 4 (spRiseB C c) := by
  refine Zq153.mtX Zq260 (fun _ _ _ _ _ _ us hl => match us, hl with | [_, _, _, _], _ => rfl) (fun vs H Q E h => ?_) (fun f cdv A outer s H vs Q E hr h => ?_)
  · obtain ⟨L, ds, n, day, wt, rfl, _⟩ := h
    rfl
  · obtain ⟨L, ds, n, day, wt, rfl, F0, r⟩ := h
    refine ⟨_, (Zq3 (Zq23 (Zq44 Zq33 (qvN 0 Nq63) Tc.cl M_check_rise (hr.mono (by lia)) (Zq0 (qvN 1 Nq62) (Zq0 (qvN 2 Nq61) (Zq0 (qvN 3 Nq64) Zq2)))))
 (Zq5 (Zq147 hr (Zq123 hr (Zq43 (qvN 0 Nq63)) (qvN 1 Nq62) (fun _ _ => rfl)) (qvN 2 Nq61) (qvN 3 Nq64)))), ?_⟩
    obtain ⟨dx0, ob0⟩ := F0.ob
    exact ⟨_, rfl, L.p, dx0, _, rfl, ob0, Zq52 _ _ _ _ (by decide +kernel), _, rfl, _, rfl, _, rfl, L, ds, n, day, wt, rfl, F0, r⟩
def spDieB (C : Addr) (c : Str -> Addr) : Sp := fun vs H _ E => ∃ (L : FL) (ds : List Deed) (n he : Str) (day : Int), vs = [.ref L.p, .str n, .int day, .str he] /\ FolkAt C H L ds /\ okN n /\ okN he /\ okI day /\ Zq164 ds n day he ≠ "" /\ E (.ref (c (Zq164 ds n day he))) none H
theorem Zq340 (Zq171 : HasM K C "die" "Folk.die" Zq130) (Tc : TxC K C) (M_check_death : MtX P w K mg base C "check_death" 2 (spChkDieB C c)) : MtX P w K mg base C "die" 3 (spDieB C c) := by
  refine Zq171.mtX Zq266 (fun _ _ _ _ _ _ us hl => match us, hl with | [_, _, _, _], _ => rfl) (fun vs H Q E h => ?_) (fun f cdv A outer s H vs Q E hr h => ?_)
  · obtain ⟨L, ds, n, he, day, rfl, _⟩ := h
    rfl
  · obtain ⟨L, ds, n, he, day, rfl, F0, r⟩ := h
    refine ⟨_, (Zq3 (Zq23 (Zq44 Zq33 (qvN 0 Nq34) Tc.cl M_check_death (hr.mono (by lia)) (Zq0 (qvN 1 Nq33) (Zq0 (qvN 2 Nq65) (Zq0 (qvN 3 Nq66) Zq2)))))
 (Zq3 (Zq147 hr (Zq43 (qvN 0 Nq34)) (qvN 1 Nq33) (qvN 2 Nq65))
 (Zq5 (Zq147 hr (Zq43 (qvN 0 Nq34)) (qvN 1 Nq33) (qvN 3 Nq66))))), ?_⟩
    obtain ⟨dx0, ob0⟩ := F0.ob
    exact ⟨_, rfl, L.p, dx0, _, rfl, ob0, Zq52 _ _ _ _ (by decide +kernel), _, rfl, _, rfl, _, rfl, L, ds, n, he, day, rfl, F0, r⟩
def spAskB (wd : Str) (C : Addr) (c : Str -> Addr) : Sp := fun vs H _ E => ∃ (L : FL) (ds : List Deed) (n : Str) (day : Int), vs = [.ref L.p, .str n, .int day] /\ FolkAt C H L ds /\ okN n /\ okI day /\ Zq56 wd ds n day ≠ "" /\ E (.ref (c (Zq56 wd ds n day))) none H
theorem Zq321 (Zq124 : HasM K C "weight" "Folk.weight" Zq61) (T : Txt mg) (Tc : TxC K C) (ck : Chk P w K mg base C c) : MtX P w K mg base C "weight" 2 (spAskB "weight" C c) := by
  have Zq31 := ck.day
  have M_check_known := ck.known
  have M_check_there := ck.there
  refine Zq124.mtX Zq170 (fun _ _ _ _ _ _ us hl => match us, hl with | [_, _, _], _ => rfl) (fun vs H Q E h => ?_) (fun f cdv A outer s H vs Q E hr h => ?_)
  · obtain ⟨L, ds, n, day, rfl, _⟩ := h
    rfl
  · obtain ⟨L, ds, n, day, rfl, F, ho, hi, hdu, k⟩ := h
    refine ⟨_, (Zq3 (Zq23 (Zq179 Zq33 Zq31 (hr.mono (by lia)) Nq143 (Zq0 (qvC 2 Nq28) Zq2)))
 (Zq3 (Zq23 (Zq44 Zq33 (qvN 0 Nq30) Tc.cl M_check_known (hr.mono (by lia)) (Zq0 (qvN 1 Nq29) Zq2)))
 (Zq3 (Zq23 (Zq44 Zq33 (qvN 0 Nq30) Tc.cl M_check_there (hr.mono (by lia)) (Zq0 (qvN 1 Nq29) (Zq0 (qvC 2 Nq28) Zq2))))
 (Zq3 (Zq26 (i := 3) Zq170.nd Nq31 (Zq123 hr (Zq43 (qvN 0 Nq30)) (qvN 1 Nq29) (fun _ _ => rfl)))
 (Zq5 (Zq11 (Zq123 hr (qvN 3 Nq31) (Zq18 (qcall_maxL (by rfl)) Nq144 T.max b_max (Zq0 (qe_iced (Zq158 (locs := ["since"]) (fr := [("day", 2)]) ⟨rfl, by decide +kernel, by decide +kernel, by decide +kernel, by decide +kernel, by decide +kernel⟩ (.consN Nq28 .nil) rfl (qi_keys (qvN 3 Nq31)) ⟨fun _ _ _ _ _ _ => by
    have cnd : (inN ["since"] [("day", 2)]).Nodup := by decide +kernel
    exact ⟨(qgLN 0 cnd), (qts_one (Zq8 Zq80 (qvLN 0) (qvFN 1) (Zq12 _))), (qvLN 0)⟩⟩)) Zq2)) (fun _ _ => rfl)))))))), ?_⟩
    obtain ⟨dx, ob⟩ := F.ob
    have no : ∀ {m : Str}, notF m -> (Zq121 L.dc L.dw L.dd L.dh).lookup m = none := fun h => Zq52 _ _ _ _ h
    unfold Zq56 at k hdu
    by_cases hd : 0 <= day /\ day <= 9999
    · rw [if_neg (fun z => z.2 hd)] at k hdu
      refine ⟨_, rfl, .inl ⟨day, rfl, hd.1, hd.2, ?_⟩⟩
      cases hc : Zq9 ds n with
      | none =>
        rw [hc] at k
        exact ⟨_, rfl, L.p, dx, _, rfl, ob, no (by decide +kernel), _, rfl, .inr ⟨L, ds, n, rfl, F, hc, ho, k⟩⟩
      | some d0 =>
        rw [hc] at k hdu
        dsimp only at k hdu
        refine ⟨_, rfl, L.p, dx, _, rfl, ob, no (by decide +kernel), _, rfl, .inl ⟨L, ds, n, d0, rfl, F, hc, ?_⟩⟩
        by_cases ht : day < d0
        · rw [if_pos ⟨rfl, ht⟩] at k
          exact ⟨_, rfl, L.p, dx, _, rfl, ob, no (by decide +kernel), _, rfl, _, rfl, .inr ⟨L, ds, n, d0, day, rfl, F, hc, ht, ho, hi, k⟩⟩
        · rw [if_neg (fun z => ht z.2)] at hdu
          exact absurd rfl hdu
    · rw [if_pos ⟨by decide +kernel, hd⟩] at k
      exact ⟨_, rfl, .inr ⟨day, rfl, hd, hi, k⟩⟩
theorem Zq327 (Zq149 : HasM K C "dead" "Folk.dead" Zq109) (Tc : TxC K C) (ck : Chk P w K mg base C c) (M_died_by : Mt P w K mg base C "died_by" ["self", "name", "day"] 1 (spDiedBy C)) : MtX P w K mg base C "dead" 2 (spAskB "dead" C c) := by
  have Zq31 := ck.day
  have M_check_known := ck.known
  refine Zq149.mtX Zq256 (fun _ _ _ _ _ _ us hl => match us, hl with | [_, _, _], _ => rfl) (fun vs H Q E h => ?_) (fun f cdv A outer s H vs Q E hr h => ?_)
  · obtain ⟨L, ds, n, day, rfl, _⟩ := h
    rfl
  · obtain ⟨L, ds, n, day, rfl, F, ho, hi, hdu, k⟩ := h
    refine ⟨_, (Zq3 (Zq23 (Zq179 Zq33 Zq31 (hr.mono (by lia)) Nq130 (Zq0 (qvN 2 Nq49) Zq2)))
 (Zq3 (Zq23 (Zq44 Zq33 (qvN 0 Nq51) Tc.cl M_check_known (hr.mono (by lia)) (Zq0 (qvN 1 Nq50) Zq2)))
 (Zq5 (Zq11 (Zq70 (qvN 0 Nq51) Tc.cl M_died_by (hr.mono (by lia)) (Zq0 (qvN 1 Nq50) (Zq0 (qvN 2 Nq49) Zq2))))))), ?_⟩
    obtain ⟨dx, ob⟩ := F.ob
    unfold Zq56 at k hdu
    by_cases hd : 0 <= day /\ day <= 9999
    · rw [if_neg (fun z => z.2 hd)] at k hdu
      refine ⟨_, rfl, .inl ⟨day, rfl, hd.1, hd.2, ?_⟩⟩
      cases hc : Zq9 ds n with
      | none =>
        rw [hc] at k
        exact ⟨_, rfl, L.p, dx, _, rfl, ob, Zq52 _ _ _ _ (by decide +kernel), _, rfl, .inr ⟨L, ds, n, rfl, F, hc, ho, k⟩⟩
      | some d0 =>
        rw [hc] at hdu
        dsimp only at hdu
        rw [if_neg (fun z => absurd z.1 (by decide +kernel))] at hdu
        exact absurd rfl hdu
    · rw [if_pos ⟨by decide +kernel, hd⟩] at k
      exact ⟨_, rfl, .inr ⟨day, rfl, hd, hi, k⟩⟩
theorem Zq298 (Zq84 : HasM K C "stands_for" "Folk.stands_for" Zq54) (Tc : TxC K C) (ck : Chk P w K mg base C c) (M_stand_in : Mt P w K mg base C "stand_in" ["self", "name", "day"] 2 (spStandIn C)) : MtX P w K mg base C "stands_for" 3 (spAskB "stands_for" C c) := by
  have Zq31 := ck.day
  have M_check_known := ck.known
  refine Zq84.mtX Zq217 (fun _ _ _ _ _ _ us hl => match us, hl with | [_, _, _], _ => rfl) (fun vs H Q E h => ?_) (fun f cdv A outer s H vs Q E hr h => ?_)
  · obtain ⟨L, ds, n, day, rfl, _⟩ := h
    rfl
  · obtain ⟨L, ds, n, day, rfl, F, ho, hi, hdu, k⟩ := h
    refine ⟨_, (Zq3 (Zq23 (Zq179 Zq33 Zq31 (hr.mono (by lia)) Nq132 (Zq0 (qvN 2 Nq53) Zq2)))
 (Zq3 (Zq23 (Zq44 Zq33 (qvN 0 Nq55) Tc.cl M_check_known (hr.mono (by lia)) (Zq0 (qvN 1 Nq54) Zq2)))
 (Zq5 (Zq11 (Zq70 (qvN 0 Nq55) Tc.cl M_stand_in (hr.mono (by lia)) (Zq0 (qvN 1 Nq54) (Zq0 (qvN 2 Nq53) Zq2))))))), ?_⟩
    obtain ⟨dx, ob⟩ := F.ob
    unfold Zq56 at k hdu
    by_cases hd : 0 <= day /\ day <= 9999
    · rw [if_neg (fun z => z.2 hd)] at k hdu
      refine ⟨_, rfl, .inl ⟨day, rfl, hd.1, hd.2, ?_⟩⟩
      cases hc : Zq9 ds n with
      | none =>
        rw [hc] at k
        exact ⟨_, rfl, L.p, dx, _, rfl, ob, Zq52 _ _ _ _ (by decide +kernel), _, rfl, .inr ⟨L, ds, n, rfl, F, hc, ho, k⟩⟩
      | some d0 =>
        rw [hc] at hdu
        dsimp only at hdu
        rw [if_neg (fun z => absurd z.1 (by decide +kernel))] at hdu
        exact absurd rfl hdu
    · rw [if_pos ⟨by decide +kernel, hd⟩] at k
      exact ⟨_, rfl, .inr ⟨day, rfl, hd, hi, k⟩⟩
def spCameB (C : Addr) (c : Str -> Addr) : Sp := fun vs H _ E => ∃ (L : FL) (ds : List Deed) (n : Str), vs = [.ref L.p, .str n] /\ FolkAt C H L ds /\ okN n /\ Zq9 ds n = none /\ E (.ref (c "Unknown")) none H
theorem Zq328 (Zq151 : HasM K C "came" "Folk.came" Zq150) (Tc : TxC K C) (ck : Chk P w K mg base C c) : MtX P w K mg base C "came" 2 (spCameB C c) := by
  have M_check_known := ck.known
  refine Zq151.mtX Zq257 (fun _ _ _ _ _ _ us hl => match us, hl with | [_, _], _ => rfl) (fun vs H Q E h => ?_) (fun f cdv A outer s H vs Q E hr h => ?_)
  · obtain ⟨L, ds, n, rfl, _⟩ := h
    rfl
  · obtain ⟨L, ds, n, rfl, F, ho, hc, k⟩ := h
    refine ⟨_, (Zq3 (Zq23 (Zq44 Zq33 (qvN 0 Nq58) Tc.cl M_check_known (hr.mono (by lia)) (Zq0 (qvN 1 Nq57) Zq2)))
 (Zq5 (Zq11 (Zq123 hr (Zq43 (qvN 0 Nq58)) (qvN 1 Nq57) (fun _ _ => rfl))))), ?_⟩
    obtain ⟨dx, ob⟩ := F.ob
    exact ⟨_, rfl, L.p, dx, _, rfl, ob, Zq52 _ _ _ _ (by decide +kernel), _, rfl, .inr ⟨L, ds, n, rfl, F, hc, ho, k⟩⟩
theorem come_ok {ds : List Deed} {n : Str} {day wt : Int} (h : Zq155 ds n day wt = "") : Zq65 n = true /\ 0 <= day /\ day <= 9999 /\ 1 <= wt /\ wt <= 1000 /\ Zq9 ds n = none /\ (Zq29 ds).length < 40 := by
  unfold Zq155 at h
  by_cases a : Zq65 n = false
  · rw [if_pos a] at h; exact absurd h (by decide +kernel)
  rw [if_neg a] at h
  by_cases b : 0 <= day /\ day <= 9999
  · rw [if_neg (fun z => z b)] at h
    by_cases d : 1 <= wt /\ wt <= 1000
    · rw [if_neg (fun z => z d)] at h
      cases e : Zq9 ds n with
      | some x => rw [e, if_pos (show (some x).isSome = true from rfl)] at h; exact absurd h (by decide +kernel)
      | none =>
        rw [e, if_neg (by decide)] at h
        by_cases f : 40 <= (Zq29 ds).length
        · rw [if_pos f] at h; exact absurd h (by decide +kernel)
        · exact ⟨by simpa using a, b.1, b.2, d.1, d.2, rfl, by lia⟩
    · rw [if_pos d] at h; exact absurd h (by decide +kernel)
  · rw [if_pos b] at h; exact absurd h (by decide +kernel)
theorem rise_ok {ds : List Deed} {n : Str} {day wt : Int} (h : Zq142 ds n day wt = "") : ∃ d0, 0 <= day /\ day <= 9999 /\ 1 <= wt /\ wt <= 1000 /\ Zq9 ds n = some d0 /\ d0 <= day /\ Zq72 ds n day = false := by
  unfold Zq142 at h
  by_cases b : 0 <= day /\ day <= 9999
  · rw [if_neg (fun z => z b)] at h
    by_cases d : 1 <= wt /\ wt <= 1000
    · rw [if_neg (fun z => z d)] at h
      cases e : Zq9 ds n with
      | none => rw [e] at h; exact absurd (show ("Unknown" : Str) = "" from h) (by decide +kernel)
      | some x =>
        rw [e] at h
        dsimp only at h
        by_cases f : day < x
        · rw [if_pos f] at h; exact absurd h (by decide +kernel)
        rw [if_neg f] at h
        by_cases g : Zq72 ds n day = true
        · rw [if_pos g] at h; exact absurd h (by decide +kernel)
        · exact ⟨x, b.1, b.2, d.1, d.2, rfl, by lia, by simpa using g⟩
    · rw [if_pos d] at h; exact absurd h (by decide +kernel)
  · rw [if_pos b] at h; exact absurd h (by decide +kernel)
theorem die_ok {ds : List Deed} {n he : Str} {day : Int} (h : Zq164 ds n day he = "") : ∃ d1 d2, 0 <= day /\ day <= 9999 /\ Zq9 ds n = some d1 /\ d1 <= day /\ Zq9 ds he = some d2 /\ d2 <= day /\ Zq20 ds n = none /\ Zq20 ds he = none /\ he ≠ n := by
  unfold Zq164 at h
  by_cases b : 0 <= day /\ day <= 9999
  · rw [if_neg (fun z => z b)] at h
    cases e : Zq9 ds n with
    | none => rw [e] at h; exact absurd (show ("Unknown" : Str) = "" from h) (by decide +kernel)
    | some x =>
      cases e2 : Zq9 ds he with
      | none => rw [e, e2] at h; exact absurd (show ("Unknown" : Str) = "" from h) (by decide +kernel)
      | some y =>
        rw [e, e2] at h
        dsimp only at h
        by_cases f : day < x \/ day < y
        · rw [if_pos f] at h; exact absurd h (by decide +kernel)
        rw [if_neg f] at h
        cases g : Zq20 ds n with
        | some z => rw [g, if_pos (show (some z).isSome = true from rfl)] at h; exact absurd h (by decide +kernel)
        | none =>
          rw [g, if_neg (by decide)] at h
          by_cases i : he = n \/ (Zq20 ds he).isSome = true
          · rw [if_pos i] at h; exact absurd h (by decide +kernel)
          · refine ⟨x, y, b.1, b.2, rfl, (by have : ¬ day < x := fun z => f (.inl z); lia), rfl, (by have : ¬ day < y := fun z => f (.inr z); lia), rfl, ?_, fun z => i (.inl z)⟩
            cases j : Zq20 ds he with
            | none => rfl
            | some q => exact absurd (.inr (by rw [j]; rfl)) i
  · rw [if_pos b] at h; exact absurd h (by decide +kernel)
theorem ask_ok {wd : Str} {ds : List Deed} {n : Str} {day : Int} (h : Zq56 wd ds n day = "") : ∃ d0, (wd ≠ "came" -> 0 <= day /\ day <= 9999) /\ Zq9 ds n = some d0 /\ (wd = "weight" -> d0 <= day) := by
  unfold Zq56 at h
  by_cases b : wd ≠ "came" /\ ¬ (0 <= day /\ day <= 9999)
  · rw [if_pos b] at h; exact absurd h (by decide +kernel)
  rw [if_neg b] at h
  cases e : Zq9 ds n with
  | none => rw [e] at h; exact absurd (show ("Unknown" : Str) = "" from h) (by decide +kernel)
  | some x =>
    rw [e] at h
    dsimp only at h
    by_cases f : wd = "weight" /\ day < x
    · rw [if_pos f] at h; exact absurd h (by decide +kernel)
    · refine ⟨x, fun z => ?_, rfl, fun z => ?_⟩
      · by_cases y : 0 <= day /\ day <= 9999
        · exact y
        · exact absurd ⟨z, y⟩ b
      · by_cases y : day < x
        · exact absurd ⟨z, y⟩ f
        · lia
end
section
variable {P : Program} {w : World} {K : PySem.W.Frag} {mg : Str -> Option Value} {base : Heap} {C : Addr} {c : Str -> Addr}
structure Mts (P : Program) (w : World) (K : PySem.W.Frag) (mg : Str -> Option Value) (base : Heap) (C : Addr) (c : Str -> Addr) : Prop where
  come : MtX P w K mg base C "come" 3 (Sp.or (spComeW C) (spComeB C c))
  rise : MtX P w K mg base C "rise" 4 (Sp.or (spRise C) (spRiseB C c))
  die : MtX P w K mg base C "die" 3 (Sp.or (spDie C) (spDieB C c))
  weight : MtX P w K mg base C "weight" 2 (Sp.or (spWeigh C) (spAskB "weight" C c))
  dead : MtX P w K mg base C "dead" 2 (Sp.or (spDead C) (spAskB "dead" C c))
  stands : MtX P w K mg base C "stands_for" 3 (Sp.or (spStands C) (spAskB "stands_for" C c))
  came : MtX P w K mg base C "came" 2 (Sp.or (spCameF C) (spCameB C c))
structure Hs (ds : List Deed) : Prop where
  told : Told ds
  rank : ∃ i, Ranked ds i /\ i <= ((Zq29 ds).filter fun n => (Zq20 ds n).isSome).length
  few : (Zq29 ds).length <= 40
  len : ds.length <= 1000
  c0 : ∀ n d, Zq9 ds n = some d -> 0 <= d
theorem Hs.stands {ds : List Deed} (h : Hs ds) (n : Str) (day : Int) : ∃ k m, Stands ds day k n m /\ k <= 40 := by
  obtain ⟨i, R, hi⟩ := h.rank
  exact R.stands (Nat.le_trans hi (Nat.le_trans (List.length_filter_le _ _) h.few)) n day
theorem Hs.weight {ds : List Deed} (h : Hs ds) {n : Str} {day d0 : Int} (hc : Zq9 ds n = some d0) (hd : d0 <= day) : ∃ wt, IsW (kw ds n) day wt := by
  obtain ⟨l, v, e1, e2⟩ := h.told.2 n d0 hc
  exact isW_ex e1 e2 hd
def spDoD (C : Addr) (c : Str -> Addr) : Sp := fun vs H Q E => ∃ (L : FL) (ds : List Deed) (wa : Str -> Addr) (x : Deed) (t : Addr), vs = [.str (wdD x), .ref L.p, .ref t] /\ H t = some (.tup (Zq172 x)) /\ Fk C H L ds wa /\ Hs ds /\ okD x /\
  (dueD ds x = "" -> ∀ (wa' : Str -> Addr) (H' : Hp), Fk C H' L (ds ++ [x]) wa' -> Touch L ds wa H H' -> Q .non H') /\ (dueD ds x ≠ "" -> ∀ H', Same H H' -> E (.ref (c (dueD ds x))) none H')
def spDoA (C : Addr) (c : Str -> Addr) : Sp := fun vs H Q E => ∃ (L : FL) (ds : List Deed) (wa : Str -> Addr) (wd n : Str) (day : Int) (t : Addr), vs = [.str wd, .ref L.p, .ref t] /\ H t = some (.tup [.str wd, .str n, .int day]) /\ Fk C H L ds wa /\ Hs ds /\ okN n /\ okI day /\ (wd = "weight" \/ wd = "dead" \/ wd = "stands_for" \/ wd = "came") /\
  (Zq56 wd ds n day = "" -> ∀ v H', Same H H' -> Q v H') /\ (Zq56 wd ds n day ≠ "" -> E (.ref (c (Zq56 wd ds n day))) none H)
abbrev Zq82 : Stmt := top 45
theorem Zq222 : FnScope ["_law_word_here", "_law_folk", "_law_deed"] ["_law_word_here", "_law_folk", "_law_deed"] (Zq1 Zq82) := ⟨rfl, rfl, rfl, by decide +kernel, rfl, by decide +kernel, by decide +kernel⟩
theorem Nq0 : Nm (Zq1 Zq82) "_law_deed" .local := by decide +kernel
theorem Nq4 : Nm (Zq1 Zq82) "_law_folk" .local := by decide +kernel
theorem Nq9 : Nm (Zq1 Zq82) "_law_word_here" .local := by decide +kernel
theorem Zq329 (Zq96 : Has K mg "_law_folk_does" Zq82) (Tc : TxC K C) (M : Mts P w K mg base C c) : FnX P w K mg base "_law_folk_does" 5 (spDoD C c) := by
  have M_come := M.come
  have M_rise := M.rise
  have M_die := M.die
  have M_weight := M.weight
  have M_dead := M.dead
  have M_stands_for := M.stands
  have M_came := M.came
  refine Zq96.fnX Zq222 (fun _ _ _ _ _ _ us hl => match us, hl with | [_, _, _], _ => rfl) (fun vs H Q E h => ?_) (fun f cdv A outer s H vs Q E hr h => ?_)
  · obtain ⟨L, ds, wa, x, t, rfl, _⟩ := h
    rfl
  · obtain ⟨L, ds, wa, x, t, rfl, ht, K0, hs, ho, kq, ke⟩ := h
    refine ⟨_, (Zq3 (Zq19 (Zq8 Zq30 (qvN 0 Nq9) Zq14 (Zq12 _)) (Zq5 (Zq11 (Zq44 Zq33 (qvN 1 Nq4) Tc.cl M_come (hr.mono (by lia)) (Zq0 (Zq15 Zq16 (qvN 2 Nq0) Zq4 (fun _ _ => rfl)) (Zq0 (Zq15 Zq16 (qvN 2 Nq0) Zq4 (fun _ _ => rfl)) (Zq0 (Zq15 Zq16 (qvN 2 Nq0) Zq4 (fun _ _ => rfl)) Zq2)))))) Zq10)
 (Zq3 (Zq19 (Zq8 Zq30 (qvN 0 Nq9) Zq14 (Zq12 _)) (Zq5 (Zq11 (Zq44 Zq33 (qvN 1 Nq4) Tc.cl M_rise (hr.mono (by lia)) (Zq0 (Zq15 Zq16 (qvN 2 Nq0) Zq4 (fun _ _ => rfl)) (Zq0 (Zq15 Zq16 (qvN 2 Nq0) Zq4 (fun _ _ => rfl)) (Zq0 (Zq15 Zq16 (qvN 2 Nq0) Zq4 (fun _ _ => rfl)) Zq2)))))) Zq10)
 (Zq3 (Zq19 (Zq8 Zq30 (qvN 0 Nq9) Zq14 (Zq12 _)) (Zq5 (Zq11 (Zq44 Zq33 (qvN 1 Nq4) Tc.cl M_die (hr.mono (by lia)) (Zq0 (Zq15 Zq16 (qvN 2 Nq0) Zq4 (fun _ _ => rfl)) (Zq0 (Zq15 Zq16 (qvN 2 Nq0) Zq4 (fun _ _ => rfl)) (Zq0 (Zq15 Zq16 (qvN 2 Nq0) Zq4 (fun _ _ => rfl)) Zq2)))))) Zq10)
 (Zq3 (Zq19 (Zq8 Zq30 (qvN 0 Nq9) Zq14 (Zq12 _)) (Zq5 (Zq11 (Zq44 Zq33 (qvN 1 Nq4) Tc.cl M_weight (hr.mono (by lia)) (Zq0 (Zq15 Zq16 (qvN 2 Nq0) Zq4 (fun _ _ => rfl)) (Zq0 (Zq15 Zq16 (qvN 2 Nq0) Zq4 (fun _ _ => rfl)) Zq2))))) Zq10)
 (Zq3 (Zq19 (Zq8 Zq30 (qvN 0 Nq9) Zq14 (Zq12 _)) (Zq5 (Zq11 (Zq44 Zq33 (qvN 1 Nq4) Tc.cl M_dead (hr.mono (by lia)) (Zq0 (Zq15 Zq16 (qvN 2 Nq0) Zq4 (fun _ _ => rfl)) (Zq0 (Zq15 Zq16 (qvN 2 Nq0) Zq4 (fun _ _ => rfl)) Zq2))))) Zq10)
 (Zq3 (Zq19 (Zq8 Zq30 (qvN 0 Nq9) Zq14 (Zq12 _)) (Zq5 (Zq11 (Zq44 Zq33 (qvN 1 Nq4) Tc.cl M_stands_for (hr.mono (by lia)) (Zq0 (Zq15 Zq16 (qvN 2 Nq0) Zq4 (fun _ _ => rfl)) (Zq0 (Zq15 Zq16 (qvN 2 Nq0) Zq4 (fun _ _ => rfl)) Zq2))))) Zq10)
 (Zq5 (Zq11 (Zq44 Zq33 (qvN 1 Nq4) Tc.cl M_came (hr.mono (by lia)) (Zq0 (Zq15 Zq16 (qvN 2 Nq0) Zq4 (fun _ _ => rfl)) Zq2)))))))))), ?_⟩
    obtain ⟨dx, ob⟩ := K0.f.ob
    have no : ∀ {m : Str}, notF m -> (Zq121 L.dc L.dw L.dd L.dh).lookup m = none := fun h => Zq52 _ _ _ _ h
    have hl := hs.len
    cases x with
    | come n d w =>
      obtain ⟨h1, h2, h3⟩ := ho
      have ln := h1.1
      refine ⟨_, rfl, rfl, _, rfl, iteT ?_⟩
      refine ⟨_, rfl, L.p, dx, _, rfl, ob, no (by decide +kernel), _, rfl, t, _, _, _, rfl, rfl, SqT.of ht, rfl, _, rfl, t, _, _, _, rfl, rfl, SqT.of ht, rfl, _, rfl, t, _, _, _, rfl, rfl, SqT.of ht, rfl, ?_⟩
      by_cases hd : dueD ds (.come n d w) = ""
      · obtain ⟨a1, a2, a3, a4, a5, a6, a7⟩ := come_ok hd
        exact .inl ⟨L, ds, wa, n, d, w, rfl, K0, a7, hl, by lia, a1, a2, a3, a4, a5, a6, fun wa' H' f t _ => kq hd wa' H' f t⟩
      · exact .inr ⟨L, ds, wa, n, d, w, rfl, K0, h1, h2, h3, hd, ke hd⟩
    | rise n d w =>
      obtain ⟨h1, h2, h3⟩ := ho
      refine ⟨_, rfl, rfl, _, rfl, iteF ?_⟩
      refine ⟨_, rfl, rfl, _, rfl, iteT ?_⟩
      refine ⟨_, rfl, L.p, dx, _, rfl, ob, no (by decide +kernel), _, rfl, t, _, _, _, rfl, rfl, SqT.of ht, rfl, _, rfl, t, _, _, _, rfl, rfl, SqT.of ht, rfl, _, rfl, t, _, _, _, rfl, rfl, SqT.of ht, rfl, ?_⟩
      by_cases hd : dueD ds (.rise n d w) = ""
      · obtain ⟨d0, a1, a2, a3, a4, a5, a6, a7⟩ := rise_ok hd
        exact .inl ⟨L, ds, wa, n, d, w, d0, rfl, K0, hl, a1, a2, a3, a4, a5, a6, a7, fun H' f t _ => kq hd wa H' f t⟩
      · exact .inr ⟨L, ds, n, d, w, rfl, K0.f, h1, h2, h3, hd, ke hd H (fun _ _ e => e)⟩
    | die n d he =>
      obtain ⟨h1, h2, h3⟩ := ho
      refine ⟨_, rfl, rfl, _, rfl, iteF ?_⟩
      refine ⟨_, rfl, rfl, _, rfl, iteF ?_⟩
      refine ⟨_, rfl, rfl, _, rfl, iteT ?_⟩
      refine ⟨_, rfl, L.p, dx, _, rfl, ob, no (by decide +kernel), _, rfl, t, _, _, _, rfl, rfl, SqT.of ht, rfl, _, rfl, t, _, _, _, rfl, rfl, SqT.of ht, rfl, _, rfl, t, _, _, _, rfl, rfl, SqT.of ht, rfl, ?_⟩
      by_cases hd : dueD ds (.die n d he) = ""
      · obtain ⟨d1, d2, a1, a2, a3, a4, a5, a6, a7, a8, a9⟩ := die_ok hd
        exact .inl ⟨L, ds, wa, n, he, d, d1, d2, rfl, K0, hl, a1, a2, a3, a4, a5, a6, a7, a8, a9, fun H' f t _ => kq hd wa H' f t⟩
      · exact .inr ⟨L, ds, n, he, d, rfl, K0.f, h1, h2, h3, hd, ke hd H (fun _ _ e => e)⟩
theorem Zq330 (Zq96 : Has K mg "_law_folk_does" Zq82) (Tc : TxC K C) (M : Mts P w K mg base C c) : FnX P w K mg base "_law_folk_does" 5 (spDoA C c) := by
  have M_come := M.come
  have M_rise := M.rise
  have M_die := M.die
  have M_weight := M.weight
  have M_dead := M.dead
  have M_stands_for := M.stands
  have M_came := M.came
  refine Zq96.fnX Zq222 (fun _ _ _ _ _ _ us hl => match us, hl with | [_, _, _], _ => rfl) (fun vs H Q E h => ?_) (fun f cdv A outer s H vs Q E hr h => ?_)
  · obtain ⟨L, ds, wa, wd, n, day, t, rfl, _⟩ := h
    rfl
  · obtain ⟨L, ds, wa, wd, n, day, t, rfl, ht, K0, hs, h1, h2, hw, kq, ke⟩ := h
    refine ⟨_, (Zq3 (Zq19 (Zq8 Zq30 (qvN 0 Nq9) Zq14 (Zq12 _)) (Zq5 (Zq11 (Zq44 Zq33 (qvN 1 Nq4) Tc.cl M_come (hr.mono (by lia)) (Zq0 (Zq15 Zq16 (qvN 2 Nq0) Zq4 (fun _ _ => rfl)) (Zq0 (Zq15 Zq16 (qvN 2 Nq0) Zq4 (fun _ _ => rfl)) (Zq0 (Zq15 Zq16 (qvN 2 Nq0) Zq4 (fun _ _ => rfl)) Zq2)))))) Zq10)
 (Zq3 (Zq19 (Zq8 Zq30 (qvN 0 Nq9) Zq14 (Zq12 _)) (Zq5 (Zq11 (Zq44 Zq33 (qvN 1 Nq4) Tc.cl M_rise (hr.mono (by lia)) (Zq0 (Zq15 Zq16 (qvN 2 Nq0) Zq4 (fun _ _ => rfl)) (Zq0 (Zq15 Zq16 (qvN 2 Nq0) Zq4 (fun _ _ => rfl)) (Zq0 (Zq15 Zq16 (qvN 2 Nq0) Zq4 (fun _ _ => rfl)) Zq2)))))) Zq10)
 (Zq3 (Zq19 (Zq8 Zq30 (qvN 0 Nq9) Zq14 (Zq12 _)) (Zq5 (Zq11 (Zq44 Zq33 (qvN 1 Nq4) Tc.cl M_die (hr.mono (by lia)) (Zq0 (Zq15 Zq16 (qvN 2 Nq0) Zq4 (fun _ _ => rfl)) (Zq0 (Zq15 Zq16 (qvN 2 Nq0) Zq4 (fun _ _ => rfl)) (Zq0 (Zq15 Zq16 (qvN 2 Nq0) Zq4 (fun _ _ => rfl)) Zq2)))))) Zq10)
 (Zq3 (Zq19 (Zq8 Zq30 (qvN 0 Nq9) Zq14 (Zq12 _)) (Zq5 (Zq11 (Zq44 Zq33 (qvN 1 Nq4) Tc.cl M_weight (hr.mono (by lia)) (Zq0 (Zq15 Zq16 (qvN 2 Nq0) Zq4 (fun _ _ => rfl)) (Zq0 (Zq15 Zq16 (qvN 2 Nq0) Zq4 (fun _ _ => rfl)) Zq2))))) Zq10)
 (Zq3 (Zq19 (Zq8 Zq30 (qvN 0 Nq9) Zq14 (Zq12 _)) (Zq5 (Zq11 (Zq44 Zq33 (qvN 1 Nq4) Tc.cl M_dead (hr.mono (by lia)) (Zq0 (Zq15 Zq16 (qvN 2 Nq0) Zq4 (fun _ _ => rfl)) (Zq0 (Zq15 Zq16 (qvN 2 Nq0) Zq4 (fun _ _ => rfl)) Zq2))))) Zq10)
 (Zq3 (Zq19 (Zq8 Zq30 (qvN 0 Nq9) Zq14 (Zq12 _)) (Zq5 (Zq11 (Zq44 Zq33 (qvN 1 Nq4) Tc.cl M_stands_for (hr.mono (by lia)) (Zq0 (Zq15 Zq16 (qvN 2 Nq0) Zq4 (fun _ _ => rfl)) (Zq0 (Zq15 Zq16 (qvN 2 Nq0) Zq4 (fun _ _ => rfl)) Zq2))))) Zq10)
 (Zq5 (Zq11 (Zq44 Zq33 (qvN 1 Nq4) Tc.cl M_came (hr.mono (by lia)) (Zq0 (Zq15 Zq16 (qvN 2 Nq0) Zq4 (fun _ _ => rfl)) Zq2)))))))))), ?_⟩
    obtain ⟨dx, ob⟩ := K0.f.ob
    have no : ∀ {m : Str}, notF m -> (Zq121 L.dc L.dw L.dd L.dh).lookup m = none := fun h => Zq52 _ _ _ _ h
    have hl := hs.len
    rcases hw with rfl | rfl | rfl | rfl
    · refine ⟨_, rfl, rfl, _, rfl, iteF ⟨_, rfl, rfl, _, rfl, iteF ⟨_, rfl, rfl, _, rfl, iteF ⟨_, rfl, rfl, _, rfl, iteT ?_⟩⟩⟩⟩
      refine ⟨_, rfl, L.p, dx, _, rfl, ob, no (by decide +kernel), _, rfl, t, _, _, _, rfl, rfl, SqT.of ht, rfl, _, rfl, t, _, _, _, rfl, rfl, SqT.of ht, rfl, ?_⟩
      by_cases hd : Zq56 "weight" ds n day = ""
      · obtain ⟨d0, a1, a2, a3⟩ := ask_ok hd
        obtain ⟨wt, hwt⟩ := hs.weight a2 (a3 rfl)
        have b := a1 (by decide +kernel)
        exact .inl ⟨L, ds, wa, n, day, d0, wt, rfl, K0.f, K0.w, hl, b.1, b.2, a2, a3 rfl, hwt, fun H' s => kq hd _ H' s⟩
      · exact .inr ⟨L, ds, n, day, rfl, K0.f, h1, h2, hd, ke hd⟩
    · refine ⟨_, rfl, rfl, _, rfl, iteF ⟨_, rfl, rfl, _, rfl, iteF ⟨_, rfl, rfl, _, rfl, iteF ⟨_, rfl, rfl, _, rfl, iteF ⟨_, rfl, rfl, _, rfl, iteT ?_⟩⟩⟩⟩⟩
      refine ⟨_, rfl, L.p, dx, _, rfl, ob, no (by decide +kernel), _, rfl, t, _, _, _, rfl, rfl, SqT.of ht, rfl, _, rfl, t, _, _, _, rfl, rfl, SqT.of ht, rfl, ?_⟩
      by_cases hd : Zq56 "dead" ds n day = ""
      · obtain ⟨d0, a1, a2, a3⟩ := ask_ok hd
        have b := a1 (by decide +kernel)
        exact .inl ⟨L, ds, n, d0, day, rfl, K0.f, a2, b.1, b.2, kq hd _ H (fun _ _ e => e)⟩
      · exact .inr ⟨L, ds, n, day, rfl, K0.f, h1, h2, hd, ke hd⟩
    · refine ⟨_, rfl, rfl, _, rfl, iteF ⟨_, rfl, rfl, _, rfl, iteF ⟨_, rfl, rfl, _, rfl, iteF ⟨_, rfl, rfl, _, rfl, iteF ⟨_, rfl, rfl, _, rfl, iteF ⟨_, rfl, rfl, _, rfl, iteT ?_⟩⟩⟩⟩⟩⟩
      refine ⟨_, rfl, L.p, dx, _, rfl, ob, no (by decide +kernel), _, rfl, t, _, _, _, rfl, rfl, SqT.of ht, rfl, _, rfl, t, _, _, _, rfl, rfl, SqT.of ht, rfl, ?_⟩
      by_cases hd : Zq56 "stands_for" ds n day = ""
      · obtain ⟨d0, a1, a2, a3⟩ := ask_ok hd
        have b := a1 (by decide +kernel)
        obtain ⟨k, m, st, _⟩ := hs.stands n day
        exact .inl ⟨L, ds, n, m, d0, day, k, rfl, K0.f, a2, b.1, b.2, st, kq hd _ H (fun _ _ e => e)⟩
      · exact .inr ⟨L, ds, n, day, rfl, K0.f, h1, h2, hd, ke hd⟩
    · refine ⟨_, rfl, rfl, _, rfl, iteF ⟨_, rfl, rfl, _, rfl, iteF ⟨_, rfl, rfl, _, rfl, iteF ⟨_, rfl, rfl, _, rfl, iteF ⟨_, rfl, rfl, _, rfl, iteF ⟨_, rfl, rfl, _, rfl, iteF ?_⟩⟩⟩⟩⟩⟩
      refine ⟨_, rfl, L.p, dx, _, rfl, ob, no (by decide +kernel), _, rfl, t, _, _, _, rfl, rfl, SqT.of ht, rfl, ?_⟩
      by_cases hd : Zq56 "came" ds n day = ""
      · obtain ⟨d0, a1, a2, a3⟩ := ask_ok hd
        exact .inl ⟨L, ds, n, d0, rfl, K0.f, a2, kq hd _ H (fun _ _ e => e)⟩
      · have e : Zq9 ds n = none := by
          cases e : Zq9 ds n with
          | none => rfl
          | some d =>
            refine absurd ?_ hd
            unfold Zq56
            rw [if_neg (fun z => z.1 rfl), e]
            dsimp only
            rw [if_neg (fun z => absurd z.1 (by decide +kernel))]
        have e2 : Zq56 "came" ds n day = "Unknown" := by
          unfold Zq56
          rw [if_neg (fun z => z.1 rfl), e]
        have k := ke hd
        rw [e2] at k
        exact .inr ⟨L, ds, n, rfl, K0.f, h1, e, k⟩
end
section
variable {P : Program} {w : World} {K : PySem.W.Frag} {mg : Str -> Option Value} {base : Heap} {C : Addr} {c : Str -> Addr}
def kindB (x : Str) : List Bool := [decide (x = "NoName"), decide (x = "NoMeasure"), decide (x = "Unknown"), decide (x = "Taken"), decide (x = "NotYet"), decide (x = "Dead"), decide (x = "NoHeir"), decide (x = "TooMany"), true]
def kindL (s : Str) : List Bool := if s = "" then [] else kindB s
theorem kindL_ne {s : Str} (h : s ≠ "") : kindL s = kindB s := if_neg h
theorem kindL_nil : kindL "" = [] := if_pos rfl
def okE (s : Str) : Prop := s = "" \/ s ∈ errs
theorem Zq97 {p : Prop} [Decidable p] {a b : Str} (ha : okE a) (hb : okE b) : okE (if p then a else b) := by
  by_cases h : p
  · rw [if_pos h]; exact ha
  · rw [if_neg h]; exact hb
theorem Zq83 {a : Str} (h : a ∈ errs) : okE a := .inr h
theorem due_okE (ds : List Deed) (x : Deed) : okE (dueD ds x) := by
  cases x with
  | come n d w => exact Zq97 (Zq83 (by decide +kernel)) (Zq97 (Zq83 (by decide +kernel)) (Zq97 (Zq83 (by decide +kernel)) (Zq97 (Zq83 (by decide +kernel)) (Zq97 (Zq83 (by decide +kernel)) (.inl rfl)))))
  | rise n d w =>
    refine Zq97 (Zq83 (by decide +kernel)) (Zq97 (Zq83 (by decide +kernel)) ?_)
    cases Zq9 ds n with
    | none => exact (show okE "Unknown" from Zq83 (by decide +kernel))
    | some d0 => exact Zq97 (Zq83 (by decide +kernel)) (Zq97 (Zq83 (by decide +kernel)) (.inl rfl))
  | die n d he =>
    refine Zq97 (Zq83 (by decide +kernel)) ?_
    cases Zq9 ds n with
    | none => exact (show okE "Unknown" from Zq83 (by decide +kernel))
    | some d0 =>
      cases Zq9 ds he with
      | none => exact (show okE "Unknown" from Zq83 (by decide +kernel))
      | some d1 => exact Zq97 (Zq83 (by decide +kernel)) (Zq97 (Zq83 (by decide +kernel)) (Zq97 (Zq83 (by decide +kernel)) (.inl rfl)))
theorem ask_okE (wd : Str) (ds : List Deed) (n : Str) (day : Int) : okE (Zq56 wd ds n day) := by
  refine Zq97 (Zq83 (by decide +kernel)) ?_
  cases Zq9 ds n with
  | none => exact (show okE "Unknown" from Zq83 (by decide +kernel))
  | some d0 => exact Zq97 (Zq83 (by decide +kernel)) (.inl rfl)
theorem due_mem {ds : List Deed} {x : Deed} (h : dueD ds x ≠ "") : dueD ds x ∈ errs := (due_okE ds x).resolve_left h
theorem ask_mem {wd : Str} {ds : List Deed} {n : Str} {day : Int} (h : Zq56 wd ds n day ≠ "") : Zq56 wd ds n day ∈ errs := (ask_okE wd ds n day).resolve_left h
theorem b_ValueError : bootBuiltins "ValueError" = some (.type "ValueError") := by decide +kernel
theorem in3_come : inV (.str "come") [.str "come", .str "rise", .str "die"] = true := by decide +kernel
theorem in3_rise : inV (.str "rise") [.str "come", .str "rise", .str "die"] = true := by decide +kernel
theorem in3_die : inV (.str "die") [.str "come", .str "rise", .str "die"] = true := by decide +kernel
theorem in3_wd (x : Deed) : inV (.str (wdD x)) [.str "come", .str "rise", .str "die"] = true := match x with
  | .come _ _ _ => in3_come
  | .rise _ _ _ => in3_rise
  | .die _ _ _ => in3_die
theorem Zq190 {H : Hp} {l : Addr} {o : HO} {Pr : Hp -> Prop} (hl : H l = none) (h : ∀ G, Same H G -> G l = some o -> Pr G) : Pr (upd H l o) := h _ (Same.new hl) Zq7
def spKindD (C : Addr) : Sp := fun vs H Q _ => ∃ (L : FL) (ds : List Deed) (wa : Str -> Addr) (x : Deed) (t : Addr), vs = [.str (wdD x), .ref L.p, .ref t] /\ H t = some (.tup (Zq172 x)) /\ Fk C H L ds wa /\ Hs ds /\ okD x /\
  (dueD ds x = "" -> ∀ (wa' : Str -> Addr) (H' : Hp) (l : Addr), Fk C H' L (ds ++ [x]) wa' -> Touch L ds wa H H' -> H' l = some (.lst []) -> Q (.ref l) H') /\ (dueD ds x ≠ "" -> ∀ H' l, Same H H' -> H' l = some (.lst ((kindB (dueD ds x)).map V.bl)) -> Q (.ref l) H')
abbrev Zq21 : Stmt := top 43
theorem Zq28 : FnScope ["_law_word_here", "_law_folk", "_law_deed", "_law_kinds", "_law_answer", "e"] ["_law_word_here", "_law_folk", "_law_deed"] (Zq1 Zq21) := ⟨rfl, rfl, rfl, by decide +kernel, rfl, by decide +kernel, by decide +kernel⟩
theorem Nq148 : Nm (Zq1 Zq21) "Dead" .globalImplicit := by decide +kernel
theorem Nq149 : Nm (Zq1 Zq21) "MootError" .globalImplicit := by decide +kernel
theorem Nq150 : Nm (Zq1 Zq21) "NoHeir" .globalImplicit := by decide +kernel
theorem Nq151 : Nm (Zq1 Zq21) "NoMeasure" .globalImplicit := by decide +kernel
theorem Nq152 : Nm (Zq1 Zq21) "NoName" .globalImplicit := by decide +kernel
theorem Nq153 : Nm (Zq1 Zq21) "NotYet" .globalImplicit := by decide +kernel
theorem Nq154 : Nm (Zq1 Zq21) "Taken" .globalImplicit := by decide +kernel
theorem Nq155 : Nm (Zq1 Zq21) "TooMany" .globalImplicit := by decide +kernel
theorem Nq156 : Nm (Zq1 Zq21) "Unknown" .globalImplicit := by decide +kernel
theorem Nq157 : Nm (Zq1 Zq21) "ValueError" .globalImplicit := by decide +kernel
theorem Nq35 : Nm (Zq1 Zq21) "_law_answer" .local := by decide +kernel
theorem Nq158 : Nm (Zq1 Zq21) "_law_deed" .local := by decide +kernel
theorem Nq159 : Nm (Zq1 Zq21) "_law_folk" .local := by decide +kernel
theorem Nq160 : Nm (Zq1 Zq21) "_law_folk_does" .globalImplicit := by decide +kernel
theorem Nq5 : Nm (Zq1 Zq21) "_law_kinds" .local := by decide +kernel
theorem Nq67 : Nm (Zq1 Zq21) "_law_word_here" .local := by decide +kernel
theorem Nq1 : Nm (Zq1 Zq21) "e" .local := by decide +kernel
theorem Nq3 : Nm (Zq1 Zq21) "isinstance" .globalImplicit := by decide +kernel
theorem Zq331 (Zq86 : Has K mg "_law_folk_kinds" Zq21) (T : Txt mg) (er : Er K mg c errs) (Zq185 : FnX P w K mg base "_law_folk_does" 5 (spDoD C c)) : Fn P w K mg base "_law_folk_kinds" ["_law_word_here", "_law_folk", "_law_deed"] 6 (spKindD C) := by
  refine Zq86.fn0 Zq28 (fun _ _ _ _ _ _ us hl => match us, hl with | [_, _, _], _ => rfl) (fun vs H Q E h => ?_) (fun f cdv A outer s H vs Q E hr h => ?_)
  · obtain ⟨L, ds, wa, x, t, rfl, _⟩ := h
    rfl
  · obtain ⟨L, ds, wa, x, t, rfl, ht, K0, hs, ho, kq, ke⟩ := h
    refine ⟨_, (Zq108 (QS.q0 (Zq26 (i := 3) Zq28.nd Nq5 (Zq49 Zq2)))
 (Zq108 (QS.q0 (Zq26 (i := 4) Zq28.nd Nq35 Zq119))
 (Zq108 (qs_try pl_def (fun _ _ hx => (Zq5 (Zq26 (i := 4) Zq28.nd Nq35 (Zq179 hx Zq185 (hr.mono (by lia)) Nq160 (Zq0 (qvN 0 Nq67) (Zq0 (qvN 1 Nq159) (Zq0 (qvN 2 Nq158) Zq2)))))))
  (qh_as (i := 5) pl_def Nq149 (er.m) Zq28.nd Nq1 (fun a C o hc => (Zq3 (Zq26 (i := 3) Zq28.nd Nq5 (Zq49 (Zq0 (Zq18 (Zq32 hc) Nq3 T.isinstance Zq22 (Zq0 (qvN 5 Nq1) (Zq0 (Zq34 (v := .ref (c "NoName")) Nq152 (er.g "NoName" (by decide +kernel)) rfl) Zq2))) (Zq0 (Zq18 (Zq32 hc) Nq3 T.isinstance Zq22 (Zq0 (qvN 5 Nq1) (Zq0 (Zq34 (v := .ref (c "NoMeasure")) Nq151 (er.g "NoMeasure" (by decide +kernel)) rfl) Zq2))) (Zq0 (Zq18 (Zq32 hc) Nq3 T.isinstance Zq22 (Zq0 (qvN 5 Nq1) (Zq0 (Zq34 (v := .ref (c "Unknown")) Nq156 (er.g "Unknown" (by decide +kernel)) rfl) Zq2))) (Zq0 (Zq18 (Zq32 hc) Nq3 T.isinstance Zq22 (Zq0 (qvN 5 Nq1) (Zq0 (Zq34 (v := .ref (c "Taken")) Nq154 (er.g "Taken" (by decide +kernel)) rfl) Zq2))) Zq2))))))
 (Zq3 (Zq26 (i := 3) Zq28.nd Nq5 (Zq35 Zq205 (qvN 3 Nq5) (Zq49 (Zq0 (Zq18 (Zq32 hc) Nq3 T.isinstance Zq22 (Zq0 (qvN 5 Nq1) (Zq0 (Zq34 (v := .ref (c "NotYet")) Nq153 (er.g "NotYet" (by decide +kernel)) rfl) Zq2))) (Zq0 (Zq18 (Zq32 hc) Nq3 T.isinstance Zq22 (Zq0 (qvN 5 Nq1) (Zq0 (Zq34 (v := .ref (c "Dead")) Nq148 (er.g "Dead" (by decide +kernel)) rfl) Zq2))) (Zq0 (Zq18 (Zq32 hc) Nq3 T.isinstance Zq22 (Zq0 (qvN 5 Nq1) (Zq0 (Zq34 (v := .ref (c "NoHeir")) Nq150 (er.g "NoHeir" (by decide +kernel)) rfl) Zq2))) (Zq0 (Zq18 (Zq32 hc) Nq3 T.isinstance Zq22 (Zq0 (qvN 5 Nq1) (Zq0 (Zq34 (v := .ref (c "TooMany")) Nq155 (er.g "TooMany" (by decide +kernel)) rfl) Zq2))) Zq2)))))))
 (Zq5 (Zq26 (i := 3) Zq28.nd Nq5 (Zq35 Zq205 (qvN 3 Nq5) (Zq49 (Zq0 (Zq18 (Zq32 hc) Nq3 T.isinstance Zq22 (Zq0 (qvN 5 Nq1) (Zq0 (Zq93 (v := .ty "ValueError") Nq157 T.ValueError b_ValueError rfl) Zq2))) Zq2)))))))) qh_nil))
 (Zq108 (QS.q0 (Zq19 (QW.pt (Zq102 (Zq8 qop_in_seq (qvN 0 Nq67) (Zq49 (Zq0 Zq14 (Zq0 Zq14 (Zq0 Zq14 Zq2)))) rfl) (Zq92 (Zq8 qop_notN (qvN 4 Nq35) Zq119 (Zq12 _))))) (Zq5 (Zq11 (Zq49 (Zq0 Zq169 Zq2)))) Zq10))
 (Zq108 (QS.q0 (Zq11 (qvN 3 Nq5)))
 (QSs.q0 Zq10)))))), ?_⟩
    have hz : (20 : Nat) <= sizeLine := by decide
    refine ⟨by show 0 <= sizeLine; lia, fun l hl => ?_⟩
    have s0 := Same.new (o := .lst []) hl
    have hl0 : (upd H l (.lst [])) l = some (.lst []) := Zq7
    generalize (upd H l (.lst [])) = H1 at s0 hl0 ⊢
    refine gset ?_
    dsimp only [Zq62]
    refine gset ?_
    dsimp only [Zq62]
    refine ⟨_, rfl, _, rfl, _, rfl, L, ds, wa, x, t, rfl, s0 _ _ ht, K0.keep (Same.n s0), hs, ho, fun hd wa' H' fk tch => ?_, fun hd H' sm => ?_⟩
    · refine gset ?_
      dsimp only [Zq62]
      refine ⟨_, rfl, by show 3 <= sizeLine; lia, fun lq hlq => ?_⟩
      have S := Same.new (o := .lst [.str "come", .str "rise", .str "die"]) hlq
      have kl : (upd H' lq (.lst [.str "come", .str "rise", .str "die"])) lq = some (.lst [.str "come", .str "rise", .str "die"]) := Zq7
      generalize (upd H' lq (.lst [.str "come", .str "rise", .str "die"])) = H2 at S kl ⊢
      refine ⟨lq, _, rfl, .inl (SqL.of kl), rfl, rfl, _, rfl, ?_⟩
      show if inV _ _ = true then _ else _
      rw [in3_wd]
      refine iteT ⟨_, rfl, rfl, _, rfl, iteF ?_⟩
      have nl : ¬ own L ds wa l := fun z => by
        obtain ⟨o, e, _⟩ := K0.there z
        rw [hl] at e; cases e
      exact ⟨_, rfl, kq hd wa' H2 l (fk.keep (Same.n S)) (fun b o e hn => S _ _ (tch b o (s0 _ _ e) hn)) (S _ _ (tch l _ hl0 nl))⟩
    · have hm := due_mem hd
      refine ⟨_, rfl, true, er.e _ hm, iteT fun a => ?_⟩
      refine ⟨_, rfl, er.k _ hm, _, .inl ⟨_, rfl, er.i _ hm _ (by decide +kernel)⟩, _, rfl, er.k _ hm, _, .inl ⟨_, rfl, er.i _ hm _ (by decide +kernel)⟩, _, rfl, er.k _ hm, _, .inl ⟨_, rfl, er.i _ hm _ (by decide +kernel)⟩, _, rfl, er.k _ hm, _, .inl ⟨_, rfl, er.i _ hm _ (by decide +kernel)⟩, by show 4 <= sizeLine; lia, fun l1 hl1 => ?_⟩
      refine gset ?_
      dsimp only [Zq62]
      refine Zq190 hl1 fun G1 S1 k1 => ?_
      refine ⟨_, rfl, _, rfl, er.k _ hm, _, .inl ⟨_, rfl, er.i _ hm _ (by decide +kernel)⟩, _, rfl, er.k _ hm, _, .inl ⟨_, rfl, er.i _ hm _ (by decide +kernel)⟩, _, rfl, er.k _ hm, _, .inl ⟨_, rfl, er.i _ hm _ (by decide +kernel)⟩, _, rfl, er.k _ hm, _, .inl ⟨_, rfl, er.i _ hm _ (by decide +kernel)⟩, by show 4 <= sizeLine; lia, fun l2 hl2 => ?_⟩
      refine ⟨l1, l2, _, _, rfl, rfl, by rw [Zq6 (Zq13 k1 hl2)]; exact k1, Zq7, by show 4 + 4 <= sizeLine; lia, fun l3 hl3 => ?_⟩
      refine gset ?_
      dsimp only [Zq62]
      refine Zq190 hl3 fun G3 S3 k3 => ?_
      refine ⟨_, rfl, _, rfl, er.k _ hm, _, .inr ⟨_, rfl, er.v _ hm⟩, by show 1 <= sizeLine; lia, fun l4 hl4 => ?_⟩
      refine ⟨l3, l4, _, _, rfl, rfl, by rw [Zq6 (Zq13 k3 hl4)]; exact k3, Zq7, by show 8 + 1 <= sizeLine; lia, fun l5 hl5 => ?_⟩
      refine gset ?_
      refine Zq190 hl5 fun G5 S5 k5 => ?_
      have S : Same H G5 := ((((s0.trans sm).trans S1).trans (fun b o e => S3 b o (by rw [Zq6 (Zq13 e hl2)]; exact e))).trans (fun b o e => S5 b o (by rw [Zq6 (Zq13 e hl4)]; exact e)))
      refine ⟨_, rfl, by show 3 <= sizeLine; lia, fun lq hlq => ?_⟩
      have Sq := Same.new (o := .lst [.str "come", .str "rise", .str "die"]) hlq
      have kl : (upd G5 lq (.lst [.str "come", .str "rise", .str "die"])) lq = some (.lst [.str "come", .str "rise", .str "die"]) := Zq7
      generalize (upd G5 lq (.lst [.str "come", .str "rise", .str "die"])) = H2 at Sq kl ⊢
      refine ⟨lq, _, rfl, .inl (SqL.of kl), rfl, rfl, _, rfl, ?_⟩
      show if inV _ _ = true then _ else _
      rw [in3_wd]
      refine iteT ⟨_, rfl, rfl, _, rfl, iteF ?_⟩
      exact ⟨_, rfl, ke hd H2 l5 (S.trans Sq) (Sq _ _ k5)⟩
end
section
variable {P : Program} {w : World} {K : PySem.W.Frag} {mg : Str -> Option Value} {base : Heap} {C : Addr} {c : Str -> Addr}
theorem in3_no {wd : Str} (h : wd = "weight" \/ wd = "dead" \/ wd = "stands_for" \/ wd = "came") : inV (.str wd) [.str "come", .str "rise", .str "die"] = false := by
  rcases h with rfl | rfl | rfl | rfl <;> decide +kernel
def spKindA (C : Addr) : Sp := fun vs H Q _ => ∃ (L : FL) (ds : List Deed) (wa : Str -> Addr) (wd n : Str) (day : Int) (t : Addr), vs = [.str wd, .ref L.p, .ref t] /\ H t = some (.tup [.str wd, .str n, .int day]) /\ Fk C H L ds wa /\ Hs ds /\ okN n /\ okI day /\ (wd = "weight" \/ wd = "dead" \/ wd = "stands_for" \/ wd = "came") /\
  ∀ H' l, Same H H' -> H' l = some (.lst ((kindL (Zq56 wd ds n day)).map V.bl)) -> Q (.ref l) H'
theorem Zq332 (Zq86 : Has K mg "_law_folk_kinds" Zq21) (T : Txt mg) (er : Er K mg c errs) (Zq185 : FnX P w K mg base "_law_folk_does" 5 (spDoA C c)) : Fn P w K mg base "_law_folk_kinds" ["_law_word_here", "_law_folk", "_law_deed"] 6 (spKindA C) := by
  refine Zq86.fn0 Zq28 (fun _ _ _ _ _ _ us hl => match us, hl with | [_, _, _], _ => rfl) (fun vs H Q E h => ?_) (fun f cdv A outer s H vs Q E hr h => ?_)
  · obtain ⟨L, ds, wa, wd, n, day, t, rfl, _⟩ := h
    rfl
  · obtain ⟨L, ds, wa, wd, n, day, t, rfl, ht, K0, hs, ho, hi, hw, k⟩ := h
    have n3 := in3_no hw
    refine ⟨_, (Zq108 (QS.q0 (Zq26 (i := 3) Zq28.nd Nq5 (Zq49 Zq2)))
 (Zq108 (QS.q0 (Zq26 (i := 4) Zq28.nd Nq35 Zq119))
 (Zq108 (qs_try pl_def (fun _ _ hx => (Zq5 (Zq26 (i := 4) Zq28.nd Nq35 (Zq179 hx Zq185 (hr.mono (by lia)) Nq160 (Zq0 (qvN 0 Nq67) (Zq0 (qvN 1 Nq159) (Zq0 (qvN 2 Nq158) Zq2)))))))
  (qh_as (i := 5) pl_def Nq149 (er.m) Zq28.nd Nq1 (fun a C o hc => (Zq3 (Zq26 (i := 3) Zq28.nd Nq5 (Zq49 (Zq0 (Zq18 (Zq32 hc) Nq3 T.isinstance Zq22 (Zq0 (qvN 5 Nq1) (Zq0 (Zq34 (v := .ref (c "NoName")) Nq152 (er.g "NoName" (by decide +kernel)) rfl) Zq2))) (Zq0 (Zq18 (Zq32 hc) Nq3 T.isinstance Zq22 (Zq0 (qvN 5 Nq1) (Zq0 (Zq34 (v := .ref (c "NoMeasure")) Nq151 (er.g "NoMeasure" (by decide +kernel)) rfl) Zq2))) (Zq0 (Zq18 (Zq32 hc) Nq3 T.isinstance Zq22 (Zq0 (qvN 5 Nq1) (Zq0 (Zq34 (v := .ref (c "Unknown")) Nq156 (er.g "Unknown" (by decide +kernel)) rfl) Zq2))) (Zq0 (Zq18 (Zq32 hc) Nq3 T.isinstance Zq22 (Zq0 (qvN 5 Nq1) (Zq0 (Zq34 (v := .ref (c "Taken")) Nq154 (er.g "Taken" (by decide +kernel)) rfl) Zq2))) Zq2))))))
 (Zq3 (Zq26 (i := 3) Zq28.nd Nq5 (Zq35 Zq205 (qvN 3 Nq5) (Zq49 (Zq0 (Zq18 (Zq32 hc) Nq3 T.isinstance Zq22 (Zq0 (qvN 5 Nq1) (Zq0 (Zq34 (v := .ref (c "NotYet")) Nq153 (er.g "NotYet" (by decide +kernel)) rfl) Zq2))) (Zq0 (Zq18 (Zq32 hc) Nq3 T.isinstance Zq22 (Zq0 (qvN 5 Nq1) (Zq0 (Zq34 (v := .ref (c "Dead")) Nq148 (er.g "Dead" (by decide +kernel)) rfl) Zq2))) (Zq0 (Zq18 (Zq32 hc) Nq3 T.isinstance Zq22 (Zq0 (qvN 5 Nq1) (Zq0 (Zq34 (v := .ref (c "NoHeir")) Nq150 (er.g "NoHeir" (by decide +kernel)) rfl) Zq2))) (Zq0 (Zq18 (Zq32 hc) Nq3 T.isinstance Zq22 (Zq0 (qvN 5 Nq1) (Zq0 (Zq34 (v := .ref (c "TooMany")) Nq155 (er.g "TooMany" (by decide +kernel)) rfl) Zq2))) Zq2)))))))
 (Zq5 (Zq26 (i := 3) Zq28.nd Nq5 (Zq35 Zq205 (qvN 3 Nq5) (Zq49 (Zq0 (Zq18 (Zq32 hc) Nq3 T.isinstance Zq22 (Zq0 (qvN 5 Nq1) (Zq0 (Zq93 (v := .ty "ValueError") Nq157 T.ValueError b_ValueError rfl) Zq2))) Zq2)))))))) qh_nil))
 (Zq108 (QS.q0 (Zq19 (QW.pt (Zq102 (Zq8 qop_in_seq (qvN 0 Nq67) (Zq49 (Zq0 Zq14 (Zq0 Zq14 (Zq0 Zq14 Zq2)))) rfl) (Zq92 (Zq8 qop_notN (qvN 4 Nq35) Zq119 (Zq12 _))))) (Zq5 (Zq11 (Zq49 (Zq0 Zq169 Zq2)))) Zq10))
 (Zq108 (QS.q0 (Zq11 (qvN 3 Nq5)))
 (QSs.q0 Zq10)))))), ?_⟩
    have hz : (20 : Nat) <= sizeLine := by decide
    refine ⟨by show 0 <= sizeLine; lia, fun l hl => ?_⟩
    have s0 := Same.new (o := .lst []) hl
    have hl0 : (upd H l (.lst [])) l = some (.lst []) := Zq7
    generalize (upd H l (.lst [])) = H1 at s0 hl0 ⊢
    refine gset ?_
    dsimp only [Zq62]
    refine gset ?_
    dsimp only [Zq62]
    refine ⟨_, rfl, _, rfl, _, rfl, L, ds, wa, wd, n, day, t, rfl, s0 _ _ ht, K0.keep (Same.n s0), hs, ho, hi, hw, fun hd v H' sm => ?_, fun hd => ?_⟩
    · refine gset ?_
      dsimp only [Zq62]
      refine ⟨_, rfl, by show 3 <= sizeLine; lia, fun lq hlq => ?_⟩
      have S := Same.new (o := .lst [.str "come", .str "rise", .str "die"]) hlq
      have kl : (upd H' lq (.lst [.str "come", .str "rise", .str "die"])) lq = some (.lst [.str "come", .str "rise", .str "die"]) := Zq7
      generalize (upd H' lq (.lst [.str "come", .str "rise", .str "die"])) = H2 at S kl ⊢
      refine ⟨lq, _, rfl, .inl (SqL.of kl), rfl, rfl, _, rfl, ?_⟩
      show if inV _ _ = true then _ else _
      rw [n3]
      refine iteF ?_
      exact ⟨_, rfl, k H2 l ((s0.trans sm).trans S) (by rw [hd, kindL_nil]; exact S _ _ (sm _ _ hl0))⟩
    · have hm := ask_mem hd
      refine ⟨_, rfl, true, er.e _ hm, iteT fun a => ?_⟩
      refine ⟨_, rfl, er.k _ hm, _, .inl ⟨_, rfl, er.i _ hm _ (by decide +kernel)⟩, _, rfl, er.k _ hm, _, .inl ⟨_, rfl, er.i _ hm _ (by decide +kernel)⟩, _, rfl, er.k _ hm, _, .inl ⟨_, rfl, er.i _ hm _ (by decide +kernel)⟩, _, rfl, er.k _ hm, _, .inl ⟨_, rfl, er.i _ hm _ (by decide +kernel)⟩, by show 4 <= sizeLine; lia, fun l1 hl1 => ?_⟩
      refine gset ?_
      dsimp only [Zq62]
      refine Zq190 hl1 fun G1 S1 k1 => ?_
      refine ⟨_, rfl, _, rfl, er.k _ hm, _, .inl ⟨_, rfl, er.i _ hm _ (by decide +kernel)⟩, _, rfl, er.k _ hm, _, .inl ⟨_, rfl, er.i _ hm _ (by decide +kernel)⟩, _, rfl, er.k _ hm, _, .inl ⟨_, rfl, er.i _ hm _ (by decide +kernel)⟩, _, rfl, er.k _ hm, _, .inl ⟨_, rfl, er.i _ hm _ (by decide +kernel)⟩, by show 4 <= sizeLine; lia, fun l2 hl2 => ?_⟩
      refine ⟨l1, l2, _, _, rfl, rfl, by rw [Zq6 (Zq13 k1 hl2)]; exact k1, Zq7, by show 4 + 4 <= sizeLine; lia, fun l3 hl3 => ?_⟩
      refine gset ?_
      dsimp only [Zq62]
      refine Zq190 hl3 fun G3 S3 k3 => ?_
      refine ⟨_, rfl, _, rfl, er.k _ hm, _, .inr ⟨_, rfl, er.v _ hm⟩, by show 1 <= sizeLine; lia, fun l4 hl4 => ?_⟩
      refine ⟨l3, l4, _, _, rfl, rfl, by rw [Zq6 (Zq13 k3 hl4)]; exact k3, Zq7, by show 8 + 1 <= sizeLine; lia, fun l5 hl5 => ?_⟩
      refine gset ?_
      refine Zq190 hl5 fun G5 S5 k5 => ?_
      have S : Same H G5 := (((s0.trans S1).trans (fun b o e => S3 b o (by rw [Zq6 (Zq13 e hl2)]; exact e))).trans (fun b o e => S5 b o (by rw [Zq6 (Zq13 e hl4)]; exact e)))
      refine ⟨_, rfl, by show 3 <= sizeLine; lia, fun lq hlq => ?_⟩
      have Sq := Same.new (o := .lst [.str "come", .str "rise", .str "die"]) hlq
      have kl : (upd G5 lq (.lst [.str "come", .str "rise", .str "die"])) lq = some (.lst [.str "come", .str "rise", .str "die"]) := Zq7
      generalize (upd G5 lq (.lst [.str "come", .str "rise", .str "die"])) = H2 at Sq kl ⊢
      refine ⟨lq, _, rfl, .inl (SqL.of kl), rfl, rfl, _, rfl, ?_⟩
      show if inV _ _ = true then _ else _
      rw [n3]
      refine iteF ?_
      exact ⟨_, rfl, k H2 l5 (S.trans Sq) (by rw [kindL_ne hd]; exact Sq _ _ k5)⟩
abbrev ns8 : List Str := ["NoName", "NoMeasure", "Unknown", "Taken", "NotYet", "Dead", "NoHeir", "TooMany"]
def spNms : Sp := fun vs H Q _ => ∃ s : Str, vs = [.str s] /\ ∀ H' l, Same H H' -> H' l = some (.lst ((kindL s).map V.bl)) -> Q (.ref l) H'
abbrev Zq120 : Stmt := top 44
theorem Zq219 : FnScope ["_law_name", "_law_names_here"] ["_law_name"] (Zq1 Zq120) := ⟨rfl, rfl, rfl, by decide +kernel, rfl, by decide +kernel, by decide +kernel⟩
theorem Nq161 : Nm (Zq1 Zq120) "_law_name" .cell := by decide +kernel
theorem Nq162 : Nm (Zq1 Zq120) "_law_names_here" .local := by decide +kernel
theorem f_nms (Zq174 : Has K mg "_law_folk_names" Zq120) (T : Txt mg) : Fn P w K mg base "_law_folk_names" ["_law_name"] 1 spNms := by
  refine Zq174.fnQ Zq219 (fun _ _ _ _ _ _ us hl => match us, hl with | [_], _ => rfl) (fun vs H Q E h => ?_) (fun f cdv A outer s H vs Q E hr h => ?_)
  · obtain ⟨s, rfl, _⟩ := h
    rfl
  · obtain ⟨s, rfl, k⟩ := h
    refine ⟨_, (Zq3 (Zq19 (Zq8 Zq30 (qvC 0 Nq161) Zq14 (Zq12 _)) (Zq5 (Zq11 (Zq49 Zq2))) Zq10)
 (Zq3 (Zq26 (i := 1) Zq219.nd Nq162 (Zq49 (Zq0 Zq14 (Zq0 Zq14 (Zq0 Zq14 (Zq0 Zq14 (Zq0 Zq14 (Zq0 Zq14 (Zq0 Zq14 (Zq0 Zq14 Zq2))))))))))
 (Zq5 (Zq11 (Zq35 Zq205 (Zq158 (locs := ["_law_one"]) (fr := [("_law_name", 0)]) ⟨rfl, by decide +kernel, by decide +kernel, by decide +kernel, by decide +kernel, by decide +kernel⟩ (.consN Nq161 .nil) rfl (Zq168 (qvN 1 Nq162)) ⟨fun _ _ _ _ _ _ => by
    have cnd : (inN ["_law_one"] [("_law_name", 0)]).Nodup := by decide +kernel
    exact ⟨(qgLN 0 cnd), qts_nil, (Zq136 Zq30 (qvLN 0) (qvFN 1) (Zq12 _))⟩⟩) (Zq49 (Zq0 Zq169 Zq2))))))), ?_⟩
    have hz : (20 : Nat) <= sizeLine := by decide
    refine ⟨_, rfl, rfl, _, rfl, iteD (fun z => ?_) (fun z => ?_)⟩
    · have z : s = "" := by injection z
      subst z
      exact ⟨by show 0 <= sizeLine; lia, fun l hl => k _ l (Same.new hl) (by rw [kindL_nil]; exact Zq7)⟩
    · have z : s ≠ "" := fun e => z (by rw [e])
      refine ⟨by show 8 <= sizeLine; lia, fun l hl => ?_⟩
      refine gset ?_
      dsimp only [Zq62]
      refine Zq190 hl fun G1 S1 k1 => ?_
      refine ⟨_, rfl, l, rfl, ⟨_, SqL.of k1⟩, ?_⟩
      refine comp_list (xs := ns8.map V.str) (fun i ys H' => H' = G1 /\ ys = (ns8.take i).map fun y => V.bl (decide (y = s))) ⟨rfl, rfl⟩ (by decide) (fun i ys H' _ ⟨e, _⟩ => by rw [e]; exact SqL.of k1) (fun i ys H' ⟨_, e⟩ => by rw [e, List.length_map, List.length_take]; lia) ?_ ?_
      · rintro i x ys H' hx ⟨rfl, rfl⟩ ls hls
        obtain ⟨w0, rfl⟩ := len1 hls
        rw [List.getElem?_map] at hx
        cases e : ns8[i]? with
        | none => rw [e] at hx; cases hx
        | some y =>
          rw [e] at hx
          cases hx
          refine ⟨⟨[_], rfl, rfl⟩, ?_⟩
          refine ⟨_, rfl, _, rfl, rfl, rfl, ?_⟩
          rw [List.take_add_one, e, List.map_append]
          have : decide (V.str y = V.str s) = decide (y = s) := by
            by_cases h : y = s
            · rw [decide_eq_true h, decide_eq_true (by rw [h])]
            · rw [decide_eq_false h, decide_eq_false (fun z => h (by injection z))]
          rw [this]
          rfl
      · rintro ys H' ⟨rfl, rfl⟩ l2 hl2
        refine ⟨by show 1 <= sizeLine; lia, fun l3 hl3 => ?_⟩
        refine ⟨l2, l3, _, _, rfl, rfl, by rw [Zq6 (Zq13 (show _ = _ from Zq7) hl3)]; exact Zq7, Zq7, by show 8 + 1 <= sizeLine; lia, fun l4 hl4 => ?_⟩
        refine k _ l4 (((S1.trans (Same.new hl2)).trans (Same.new hl3)).trans (Same.new hl4)) ?_
        rw [Zq7, kindL_ne z]
        have e : ∀ y : Str, decide (y = s) = decide (s = y) := fun y => decide_eq_decide.mpr ⟨Eq.symm, Eq.symm⟩
        show some (HO.lst (List.map (fun y => V.bl (decide (y = s))) ns8 ++ [V.bl true])) = _
        unfold kindB
        simp only [List.map_cons, List.map_nil, e, List.cons_append, List.nil_append]
end
section
variable {P : Program} {w : World} {K : PySem.W.Frag} {mg : Str -> Option Value} {base : Heap}
def spLDay : Sp := fun vs H Q _ => ∃ (s la : Addr), vs = [.ref s] /\ SrcAt H s la /\ ∀ (d : Int) (H' : Hp), 0 <= d -> d <= 9999 -> SrcAt H' s la -> SameX s H H' -> Q (.int d) H'
abbrev Zq191 : Stmt := top 36
theorem Zq267 : FnScope ["_law_src_here", "_law_kind"] ["_law_src_here"] (Zq1 Zq191) := ⟨rfl, rfl, rfl, by decide +kernel, rfl, by decide +kernel, by decide +kernel⟩
theorem Nq98 : Nm (Zq1 Zq191) "_law_kind" .local := by decide +kernel
theorem Nq68 : Nm (Zq1 Zq191) "_law_next" .globalImplicit := by decide +kernel
theorem Nq69 : Nm (Zq1 Zq191) "_law_src_here" .local := by decide +kernel
theorem Zq317 (Zq249 : Has K mg "_law_day" Zq191) (T : Txt mg) (Zq25 : Fn P w K mg base "_law_next" ["_law_src_here", "_law_base"] 1 Zq182) : Fn P w K mg base "_law_day" ["_law_src_here"] 2 spLDay := by
  refine Zq249.fnQ Zq267 (fun _ _ _ _ _ _ us hl => match us, hl with | [_], _ => rfl) (fun vs H Q E h => ?_) (fun f cdv A outer s H vs Q E hr h => ?_)
  · obtain ⟨s, la, rfl, _⟩ := h
    rfl
  · obtain ⟨s, la, rfl, hs, k⟩ := h
    refine ⟨_, (Zq3 (Zq26 (i := 1) Zq267.nd Nq98 (Zq17 Zq25 (hr.mono (by lia)) Nq68 (Zq0 (qvN 0 Nq69) (Zq0 Zq4 Zq2))))
 (Zq3 (Zq19 (Zq8 Zq30 (qvN 1 Nq98) Zq4 (Zq12 _)) (Zq5 (Zq11 (Zq15 Zq36 (Zq49 (Zq0 Zq4 (Zq0 Zq4 (Zq0 Zq4 (Zq0 Zq4 Zq2))))) (Zq17 Zq25 (hr.mono (by lia)) Nq68 (Zq0 (qvN 0 Nq69) (Zq0 Zq4 Zq2))) (fun _ _ => rfl)))) Zq10)
 (Zq3 (Zq19 (Zq8 Zq30 (qvN 1 Nq98) Zq4 (Zq12 _)) (Zq5 (Zq11 (Zq17 Zq25 (hr.mono (by lia)) Nq68 (Zq0 (qvN 0 Nq69) (Zq0 Zq4 Zq2))))) Zq10)
 (Zq5 (Zq11 (Zq35 Zq122 Zq4 (Zq17 Zq25 (hr.mono (by lia)) Nq68 (Zq0 (qvN 0 Nq69) (Zq0 Zq4 Zq2))))))))), ?_⟩
    have hz : (5000 : Nat) <= sizeLine := by decide
    refine ⟨_, rfl, s, la, 8, rfl, hs, by decide, by decide, fun d H1 _ _ hs1 sx1 => ?_⟩
    refine ⟨_, rfl, rfl, _, rfl, iteD (fun _ => ?_) (fun _ => ?_)⟩
    · refine ⟨by show 4 <= sizeLine; lia, fun q hq => ?_⟩
      have S := Same.new (o := .lst [.int 0, .int 9999, .int 9998, .int 1]) hq
      have kq : (upd H1 q (.lst [.int 0, .int 9999, .int 9998, .int 1])) q = some (.lst [.int 0, .int 9999, .int 9998, .int 1]) := Zq7
      have nq : q ≠ s := (hs1.ne hq).1
      generalize (upd H1 q (.lst [.int 0, .int 9999, .int 9998, .int 1])) = H2 at S kq ⊢
      refine ⟨_, rfl, s, la, 4, rfl, hs1.keep S, by decide, by decide, fun d2 H3 e0 e1 hs3 sx3 => ?_⟩
      have hk := sx3 q _ nq kq
      have at4 : ∃ z : Int, atI [V.int 0, .int 9999, .int 9998, .int 1] d2 = some (.int z) /\ 0 <= z /\ z <= 9999 := by
        have : d2 = 0 \/ d2 = 1 \/ d2 = 2 \/ d2 = 3 := by lia
        rcases this with rfl | rfl | rfl | rfl
        · exact ⟨0, rfl, by decide, by decide⟩
        · exact ⟨9999, rfl, by decide, by decide⟩
        · exact ⟨9998, rfl, by decide, by decide⟩
        · exact ⟨1, rfl, by decide, by decide⟩
      obtain ⟨z, hz1, hz2, hz3⟩ := at4
      exact ⟨q, _, d2, .int z, rfl, rfl, SqL.of hk, hz1, k z H3 hz2 hz3 hs3 ((sx1.trans S.x).trans sx3)⟩
    · refine ⟨_, rfl, rfl, _, rfl, iteD (fun _ => ?_) (fun _ => ?_)⟩
      · exact ⟨_, rfl, s, la, 10000, rfl, hs1, by decide, by decide, fun d2 H3 e0 e1 hs3 sx3 => k d2 H3 e0 (by lia) hs3 (sx1.trans sx3)⟩
      · exact ⟨_, rfl, s, la, 12, rfl, hs1, by decide, by decide, fun d2 H3 e0 e1 hs3 sx3 => ⟨_, _, rfl, rfl, k (10 + d2) H3 (by lia) (by lia) hs3 (sx1.trans sx3)⟩⟩
end
section
variable {P : Program} {w : World} {K : PySem.W.Frag} {mg : Str -> Option Value} {base : Heap} {C : Addr} {c : Str -> Addr}
def spLIsN : Sp := fun vs H Q _ => ∃ x : Str, vs = [.str x] /\ x.length <= 1000 /\ Q (.bl (Zq65 x)) H
abbrev Zq125 : Stmt := top 30
theorem Zq241 : FnScope ["_law_text", "_law_sign"] ["_law_text"] (Zq1 Zq125) := ⟨rfl, rfl, rfl, by decide +kernel, rfl, by decide +kernel, by decide +kernel⟩
theorem Nq99 : Nm (Zq1 Zq125) "_law_sign" .local := by decide +kernel
theorem Nq100 : Nm (Zq1 Zq125) "_law_text" .local := by decide +kernel
theorem Nq163 : Nm (Zq1 Zq125) "len" .globalImplicit := by decide +kernel
theorem Zq287 (Zq210 : Has K mg "_law_is_name" Zq125) (T : Txt mg) : Fn P w K mg base "_law_is_name" ["_law_text"] 1 spLIsN := by
  refine Zq210.fnQ Zq241 (fun _ _ _ _ _ _ us hl => match us, hl with | [_], _ => rfl) (fun vs H Q E h => ?_) (fun f cdv A outer s H vs Q E hr h => ?_)
  · obtain ⟨x, rfl, _⟩ := h
    rfl
  · obtain ⟨x, rfl, hx, k⟩ := h
    refine ⟨_, (Zq3 (Zq178 PassesOwn.never rfl (qi_str (qvN 0 Nq100)) (Zq118 (i := 1) Zq241.nd Nq99)
  (Zq5 (Zq19 (Zq145 (QW.pt (Zq102 (Zq8 qop_le_str Zq14 (qvN 1 Nq99) (Zq12 _)) (Zq92 (Zq8 qop_le_str (qvN 1 Nq99) Zq14 (Zq12 _)))))) (Zq5 (Zq11 Zq169)) Zq10)))
 (Zq5 (Zq11 (Zq215 (Zq136 Zq80 Zq4 (Zq18 qcall_len_str Nq163 T.len Zq143 (Zq0 (qvN 0 Nq100) Zq2)) (Zq12 _)) (Zq214 (Zq136 Zq80 (Zq18 qcall_len_str Nq163 T.len Zq143 (Zq0 (qvN 0 Nq100) Zq2)) Zq4 (Zq12 _))))))), ?_⟩
    have hz : (1000 : Nat) <= sizeLine := by decide
    refine ⟨_, rfl, x, rfl, ?_⟩
    refine forW_str (fun i σ H' => H' = H /\ ∃ v1, σ = [some (.str x), v1] /\ ((cs x).take i).all okc = true) ⟨rfl, none, rfl, by simp⟩ ?_ ?_
    · rintro i σ H' hi ⟨rfl, v1, rfl, hall⟩
      have bad : okc (x.cps.getD i 0) = false -> Q (.bl false) H' := fun h => by
        have : Zq65 x = false := by
          unfold Zq65
          have : (cs x).all okc = false := by
            rw [List.all_eq_false]
            exact ⟨_, List.mem_of_getElem? (sgn_at hi), by rw [h]; decide⟩
          rw [this, Bool.and_false]
        rw [← this]; exact k
      have step : ((cs x).take (i + 1)).all okc = (((cs x).take i).all okc && okc (x.cps.getD i 0)) := by
        rw [List.take_add_one, sgn_at hi, List.all_append]
        simp
      refine ⟨_, rfl, _, _, rfl, rfl, _, rfl, ?_⟩
      dsimp only
      rw [leA]
      refine iteD (fun h3 => ?_) (fun h3 => ?_)
      · refine ⟨_, rfl, _, _, rfl, rfl, _, rfl, ?_⟩
        dsimp only
        rw [leZ]
        refine Zq99 (fun h4 => bad (by unfold okc; rw [decide_eq_false h4, Bool.and_false])) (fun h4 => ?_)
        refine ⟨rfl, _, rfl, ?_⟩
        rw [step, hall]
        unfold okc; rw [decide_eq_true h3, decide_eq_true h4]; rfl
      · exact iteT (bad (by unfold okc; rw [decide_eq_false h3, Bool.false_and]))
    · rintro σ H' ⟨rfl, v1, rfl, hall⟩
      have e : Zq65 x = (decide (1 <= x.length) && decide (x.length <= 12)) := by
        rw [← Zq90, List.take_length] at hall
        unfold Zq65; rw [hall, Bool.and_true]
      rw [e] at k
      refine ⟨_, rfl, x, rfl, by lia, _, _, rfl, rfl, _, rfl, iteD (fun h1 => ?_) (fun h1 => ?_)⟩
      · refine ⟨_, rfl, x, rfl, by lia, _, _, rfl, rfl, ?_⟩
        rw [decide_eq_true (show 1 <= x.length by lia), Bool.true_and] at k
        have e2 : decide ((x.length : Int) <= 12) = decide (x.length <= 12) := decide_eq_decide.mpr (by lia)
        dsimp only
        rw [e2]; exact k
      · rw [decide_eq_false (show ¬ 1 <= x.length by lia), Bool.false_and] at k
        exact k
def comV : Option Int -> V
  | none => .non
  | some d => .int d
def spCame2 : Sp := fun vs H Q _ => ∃ (q : Addr) (ds : List Deed) (n : Str), vs = [.ref q, .str n] /\ DeedsAt H q ds /\ Q (comV (Zq9 ds n)) H
abbrev Zq173 : Stmt := top 31
theorem Zq261 : FnScope ["_law_deeds", "_law_name", "_law_deed"] ["_law_deeds", "_law_name"] (Zq1 Zq173) := ⟨rfl, rfl, rfl, by decide +kernel, rfl, by decide +kernel, by decide +kernel⟩
theorem Nq70 : Nm (Zq1 Zq173) "_law_deed" .local := by decide +kernel
theorem Nq230 : Nm (Zq1 Zq173) "_law_deeds" .local := by decide +kernel
theorem Nq231 : Nm (Zq1 Zq173) "_law_name" .local := by decide +kernel
theorem Zq312 (Zq246 : Has K mg "_law_came" Zq173) (T : Txt mg) : Fn P w K mg base "_law_came" ["_law_deeds", "_law_name"] 1 spCame2 := by
  refine Zq246.fnQ Zq261 (fun _ _ _ _ _ _ us hl => match us, hl with | [_, _], _ => rfl) (fun vs H Q E h => ?_) (fun f cdv A outer s H vs Q E hr h => ?_)
  · obtain ⟨q, ds, n, rfl, _⟩ := h
    rfl
  · obtain ⟨q, ds, n, rfl, ⟨vs, hq, hrep⟩, k⟩ := h
    refine ⟨_, (Zq3 (Zq178 PassesOwn.never rfl (Zq168 (qvN 0 Nq230)) (Zq118 (i := 2) Zq261.nd Nq70)
  (Zq5 (Zq19 (QW.pt (Zq102 (Zq8 Zq30 (Zq15 Zq16 (qvN 2 Nq70) Zq4 (fun _ _ => rfl)) Zq14 (Zq12 _)) (Zq92 (Zq8 Zq30 (Zq15 Zq16 (qvN 2 Nq70) Zq4 (fun _ _ => rfl)) (qvN 1 Nq231) (Zq12 _))))) (Zq5 (Zq11 (Zq15 Zq16 (qvN 2 Nq70) Zq4 (fun _ _ => rfl)))) Zq10)))
 (Zq5 (Zq11 Zq119))), ?_⟩
    have hvl : vs.length = ds.length := hrep.length
    refine ⟨_, rfl, q, rfl, ⟨_, SqL.of hq⟩, ?_⟩
    refine forW_list vs (fun i σ H' => ∃ v2, σ = [some (.ref q), some (.str n), v2] /\ H' = H /\ Zq9 (ds.take i) n = none) ⟨none, rfl, rfl, rfl⟩ (fun i σ H' _ ⟨_, _, e, _⟩ => by rw [e]; exact SqL.of hq) ?_ ?_
    · rintro i v σ H' hv ⟨v2, rfl, rfl, hno⟩
      obtain ⟨x, a, hx, rfl, ha⟩ := Zq184 hrep hv
      have et := comOf_take hx n
      rw [hno] at et
      cases x with
      | come m d' w' =>
        refine ⟨_, rfl, a, _, 0, .str "come", rfl, rfl, SqT.of ha, rfl, rfl, _, rfl, iteD (fun _ => ?_) (fun z => absurd rfl z)⟩
        refine ⟨_, rfl, a, _, 1, .str m, rfl, rfl, SqT.of ha, rfl, _, rfl, rfl, _, rfl, iteD (fun z => ?_) (fun z => ?_)⟩
        · have em : m = n := by injection z
          subst em
          have e2 : Zq9 (ds.take (i + 1)) m = some d' := by rw [et, Zq9, if_pos rfl]; rfl
          have e3 := comOf_more e2
          rw [e3] at k
          exact ⟨_, rfl, a, _, 2, .int d', rfl, rfl, SqT.of ha, rfl, k⟩
        · refine ⟨_, rfl, rfl, ?_⟩
          rw [et, Zq9, if_neg (fun e => z (by rw [e]))]; rfl
      | rise m d' w' =>
        refine ⟨_, rfl, a, _, 0, .str "rise", rfl, rfl, SqT.of ha, rfl, rfl, _, rfl, iteD (fun z => absurd z (Zq76 (by decide +kernel))) (fun _ => iteF ?_)⟩
        exact ⟨_, rfl, rfl, by rw [et]; rfl⟩
      | die m d' h' =>
        refine ⟨_, rfl, a, _, 0, .str "die", rfl, rfl, SqT.of ha, rfl, rfl, _, rfl, iteD (fun z => absurd z (Zq76 (by decide +kernel))) (fun _ => iteF ?_)⟩
        exact ⟨_, rfl, rfl, by rw [et]; rfl⟩
    · rintro σ H' ⟨v2, rfl, rfl, hno⟩
      rw [hvl, List.take_length] at hno
      rw [hno] at k
      exact k
def late : List Deed -> Deed -> Str
  | _, .come _ _ _ => ""
  | ds, .rise n d _ => match Zq9 ds n with
    | none => ""
    | some d0 => if d < d0 then "NotYet" else if Zq72 ds n d = true then "Dead" else ""
  | ds, .die n d he => match Zq9 ds n, Zq9 ds he with
    | some d0, some d1 => if d < d0 \/ d < d1 then "NotYet" else if (Zq20 ds n).isSome = true then "Dead" else if he = n \/ (Zq20 ds he).isSome = true then "NoHeir" else ""
    | _, _ => ""
def Knows (ds : List Deed) : Deed -> Prop
  | .come _ _ _ => False
  | .rise n _ _ => ∃ d0, Zq9 ds n = some d0
  | .die n _ he => ∃ d0 d1, Zq9 ds n = some d0 /\ Zq9 ds he = some d1
def spLate : Sp := fun vs H Q _ => ∃ (q t : Addr) (ds : List Deed) (x : Deed), vs = [.ref q, .ref t] /\ DeedsAt H q ds /\ H t = some (.tup (Zq172 x)) /\ Knows ds x /\ ∀ H', Same H H' -> Q (.str (late ds x)) H'
abbrev Zq57 : Stmt := top 37
theorem Zq223 : FnScope ["_law_deeds", "_law_deed", "_law_came_here"] ["_law_deeds", "_law_deed"] (Zq1 Zq57) := ⟨rfl, rfl, rfl, by decide +kernel, rfl, by decide +kernel, by decide +kernel⟩
theorem Nq164 : Nm (Zq1 Zq57) "_law_came" .globalImplicit := by decide +kernel
theorem Nq165 : Nm (Zq1 Zq57) "_law_came_here" .local := by decide +kernel
theorem Nq166 : Nm (Zq1 Zq57) "_law_death" .globalImplicit := by decide +kernel
theorem Nq6 : Nm (Zq1 Zq57) "_law_deed" .local := by decide +kernel
theorem Nq43 : Nm (Zq1 Zq57) "_law_deeds" .local := by decide +kernel
theorem Nq232 : Nm (Zq1 Zq57) "_law_is_dead" .globalImplicit := by decide +kernel
theorem Zq341 (Zq186 : Has K mg "_law_folk_late" Zq57) (T : Txt mg) (Zq101 : Fn P w K mg base "_law_came" ["_law_deeds", "_law_name"] 1 spCame2) (Zq141 : Fn P w K mg base "_law_death" ["_law_deeds", "_law_name"] 1 spDeath)
    (Zq209 : Fn P w K mg base "_law_is_dead" ["_law_deeds", "_law_name", "_law_day_here"] 2 spIsDead) : Fn P w K mg base "_law_folk_late" ["_law_deeds", "_law_deed"] 3 spLate := by
  refine Zq186.fnQ Zq223 (fun _ _ _ _ _ _ us hl => match us, hl with | [_, _], _ => rfl) (fun vs H Q E h => ?_) (fun f cdv A outer s H vs Q E hr h => ?_)
  · obtain ⟨q, t, ds, x, rfl, _⟩ := h
    rfl
  · obtain ⟨q, t, ds, x, rfl, hq, ht, hk, k⟩ := h
    refine ⟨_, (Zq3 (Zq26 (i := 2) Zq223.nd Nq165 (Zq17 Zq101 (hr.mono (by lia)) Nq164 (Zq0 (qvN 0 Nq43) (Zq0 (Zq15 Zq16 (qvN 1 Nq6) Zq4 (fun _ _ => rfl)) Zq2))))
 (Zq3 (Zq19 (QW.pt (Zq237 (Zq8 Zq192 (Zq15 Zq16 (qvN 1 Nq6) Zq4 (fun _ _ => rfl)) (qvN 2 Nq165) (Zq12 _)) (Zq213 (QW.pt (Zq102 (Zq8 Zq30 (Zq15 Zq16 (qvN 1 Nq6) Zq4 (fun _ _ => rfl)) Zq14 (Zq12 _)) (Zq92 (Zq8 Zq192 (Zq15 Zq16 (qvN 1 Nq6) Zq4 (fun _ _ => rfl)) (Zq17 Zq101 (hr.mono (by lia)) Nq164 (Zq0 (qvN 0 Nq43) (Zq0 (Zq15 Zq16 (qvN 1 Nq6) Zq4 (fun _ _ => rfl)) Zq2))) (Zq12 _)))))))) (Zq5 (Zq11 Zq14)) Zq10)
 (Zq3 (Zq19 (QW.pt (Zq102 (Zq8 Zq30 (Zq15 Zq16 (qvN 1 Nq6) Zq4 (fun _ _ => rfl)) Zq14 (Zq12 _)) (Zq92 (Zq126 (Zq17 Zq209 (hr.mono (by lia)) Nq232 (Zq0 (qvN 0 Nq43) (Zq0 (Zq15 Zq16 (qvN 1 Nq6) Zq4 (fun _ _ => rfl)) (Zq0 (Zq15 Zq16 (qvN 1 Nq6) Zq4 (fun _ _ => rfl)) Zq2)))))))) (Zq5 (Zq11 Zq14)) Zq10)
 (Zq3 (Zq19 (QW.pt (Zq102 (Zq8 Zq30 (Zq15 Zq16 (qvN 1 Nq6) Zq4 (fun _ _ => rfl)) Zq14 (Zq12 _)) (Zq92 (Zq8 qop_notN (Zq17 Zq141 (hr.mono (by lia)) Nq166 (Zq0 (qvN 0 Nq43) (Zq0 (Zq15 Zq16 (qvN 1 Nq6) Zq4 (fun _ _ => rfl)) Zq2))) Zq119 (Zq12 _))))) (Zq5 (Zq11 Zq14)) Zq10)
 (Zq3 (Zq19 (QW.pt (Zq102 (Zq8 Zq30 (Zq15 Zq16 (qvN 1 Nq6) Zq4 (fun _ _ => rfl)) Zq14 (Zq12 _)) (Zq92 (QW.pt (Zq237 (Zq8 Zq30 (Zq15 Zq16 (qvN 1 Nq6) Zq4 (fun _ _ => rfl)) (Zq15 Zq16 (qvN 1 Nq6) Zq4 (fun _ _ => rfl)) (Zq12 _)) (Zq213 (Zq8 qop_notN (Zq17 Zq141 (hr.mono (by lia)) Nq166 (Zq0 (qvN 0 Nq43) (Zq0 (Zq15 Zq16 (qvN 1 Nq6) Zq4 (fun _ _ => rfl)) Zq2))) Zq119 (Zq12 _)))))))) (Zq5 (Zq11 Zq14)) Zq10)
 (Zq5 (Zq11 Zq14))))))), ?_⟩
    cases x with
    | come n d w => exact hk.elim
    | rise n d w =>
      obtain ⟨d0, hc⟩ := hk
      unfold late at k
      dsimp only at k
      rw [hc] at k
      dsimp only at k
      refine ⟨_, rfl, _, rfl, t, _, 1, .str n, rfl, rfl, SqT.of ht, rfl, q, ds, n, rfl, hq, ?_⟩
      rw [hc]
      refine gset ?_
      dsimp only [Zq62]
      refine ⟨_, rfl, t, _, 2, .int d, rfl, rfl, SqT.of ht, rfl, _, rfl, _, _, rfl, rfl, _, rfl, iteD (fun z => ?_) (fun z => ?_)⟩
      · rw [if_pos z] at k
        exact k H fun _ _ e => e
      rw [if_neg z] at k
      refine ⟨_, rfl, t, _, 0, .str "rise", rfl, rfl, SqT.of ht, rfl, rfl, _, rfl, iteD (fun z => absurd z (Zq76 (by decide +kernel))) (fun _ => iteF ?_)⟩
      refine ⟨_, rfl, t, _, 0, .str "rise", rfl, rfl, SqT.of ht, rfl, rfl, _, rfl, iteD (fun _ => ?_) (fun z => absurd rfl z)⟩
      refine ⟨_, rfl, _, rfl, t, _, 1, .str n, rfl, rfl, SqT.of ht, rfl, _, rfl, t, _, 2, .int d, rfl, rfl, SqT.of ht, rfl, q, ds, n, d, rfl, hq, fun H1 s1 => ⟨_, rfl, ?_⟩⟩
      have ht1 := s1 _ _ ht
      refine iteB (fun e => ?_) (fun e => ?_)
      · rw [if_pos e] at k
        exact k H1 s1
      · rw [if_neg (by rw [e]; decide)] at k
        refine ⟨_, rfl, t, _, 0, .str "rise", rfl, rfl, SqT.of ht1, rfl, rfl, _, rfl, iteD (fun z => absurd z (Zq76 (by decide +kernel))) (fun _ => iteF ?_)⟩
        refine ⟨_, rfl, t, _, 0, .str "rise", rfl, rfl, SqT.of ht1, rfl, rfl, _, rfl, iteD (fun z => absurd z (Zq76 (by decide +kernel))) (fun _ => iteF ?_)⟩
        exact k H1 s1
    | die n d he =>
      obtain ⟨d0, d1, hc, hc2⟩ := hk
      unfold late at k
      dsimp only at k
      rw [hc, hc2] at k
      dsimp only at k
      refine ⟨_, rfl, _, rfl, t, _, 1, .str n, rfl, rfl, SqT.of ht, rfl, q, ds, n, rfl, hq, ?_⟩
      rw [hc]
      refine gset ?_
      dsimp only [Zq62]
      have go : ∀ {A : Prop}, d < d0 \/ d < d1 -> Q (.str "NotYet") H := fun {_} z => by rw [if_pos z] at k; exact k H fun _ _ e => e
      refine ⟨_, rfl, t, _, 2, .int d, rfl, rfl, SqT.of ht, rfl, _, rfl, _, _, rfl, rfl, _, rfl, iteD (fun z => go (A := True) (.inl z)) (fun z => ?_)⟩
      refine ⟨_, rfl, t, _, 0, .str "die", rfl, rfl, SqT.of ht, rfl, rfl, _, rfl, iteD (fun _ => ?_) (fun z => absurd rfl z)⟩
      refine ⟨_, rfl, t, _, 2, .int d, rfl, rfl, SqT.of ht, rfl, _, rfl, _, rfl, t, _, 3, .str he, rfl, rfl, SqT.of ht, rfl, q, ds, he, rfl, hq, ?_⟩
      rw [hc2]
      refine ⟨_, _, rfl, rfl, _, rfl, iteD (fun z => go (A := True) (.inr z)) (fun z2 => ?_)⟩
      rw [if_neg (fun y => y.elim z z2)] at k
      refine ⟨_, rfl, t, _, 0, .str "die", rfl, rfl, SqT.of ht, rfl, rfl, _, rfl, iteD (fun z => absurd z (Zq76 (by decide +kernel))) (fun _ => iteF ?_)⟩
      refine ⟨_, rfl, t, _, 0, .str "die", rfl, rfl, SqT.of ht, rfl, rfl, _, rfl, iteD (fun _ => ?_) (fun z => absurd rfl z)⟩
      refine ⟨_, rfl, _, rfl, t, _, 1, .str n, rfl, rfl, SqT.of ht, rfl, q, ds, n, rfl, hq, fun e => ?_, fun x p H' e hp sm => ?_⟩
      · rw [e, if_neg (by decide)] at k
        refine ⟨rfl, _, rfl, iteF ?_⟩
        refine ⟨_, rfl, t, _, 0, .str "die", rfl, rfl, SqT.of ht, rfl, rfl, _, rfl, iteD (fun _ => ?_) (fun z => absurd rfl z)⟩
        refine ⟨_, rfl, t, _, 3, .str he, rfl, rfl, SqT.of ht, rfl, _, rfl, t, _, 1, .str n, rfl, rfl, SqT.of ht, rfl, rfl, _, rfl, iteD (fun y => ?_) (fun y => ?_)⟩
        · rw [if_pos (.inl (by injection y))] at k
          exact k H fun _ _ e => e
        · refine ⟨_, rfl, _, rfl, t, _, 3, .str he, rfl, rfl, SqT.of ht, rfl, q, ds, he, rfl, hq, fun e2 => ?_, fun x p H' e2 hp sm => ?_⟩
          · rw [if_neg (fun z => z.elim (fun z => y (by rw [z])) fun z => by rw [e2] at z; cases z)] at k
            exact ⟨rfl, _, rfl, iteF (k H fun _ _ e => e)⟩
          · rw [if_pos (.inr (by rw [e2]; rfl))] at k
            exact ⟨rfl, _, rfl, iteT (k H' sm)⟩
      · rw [e, if_pos (show (some x).isSome = true from rfl)] at k
        exact ⟨rfl, _, rfl, iteT (k H' sm)⟩
end
section
variable {P : Program} {w : World} {K : PySem.W.Frag} {mg : Str -> Option Value} {base : Heap} {C : Addr} {c : Str -> Addr}
theorem comers_take' {ds : List Deed} {i : Nat} {x : Deed} (h : ds[i]? = some x) : Zq29 (ds.take (i + 1)) = Zq29 (ds.take i) ++ Zq29 [x] := by
  rw [List.take_add_one, h, Zq129]; rfl
theorem comers_len' : ∀ ds : List Deed, (Zq29 ds).length <= ds.length
  | [] => Nat.le_refl _
  | .come _ _ _ :: r => by have := comers_len' r; simp [Zq29]; lia
  | .rise _ _ _ :: r => by have := comers_len' r; simp [Zq29]; lia
  | .die _ _ _ :: r => by have := comers_len' r; simp [Zq29]; lia
def spDue : Sp := fun vs H Q _ => ∃ (q t : Addr) (ds : List Deed) (x : Deed), vs = [.ref q, .ref t] /\ DeedsAt H q ds /\ H t = some (.tup (Zq172 x)) /\ okD x /\ ds.length <= 1000 /\ ∀ H', Same H H' -> Q (.str (dueD ds x)) H'
abbrev Zq53 : Stmt := top 38
theorem Zq235 : FnScope ["_law_deeds", "_law_deed", "_law_count"] ["_law_deeds", "_law_deed"] (Zq1 Zq53) := ⟨rfl, rfl, rfl, by decide +kernel, rfl, by decide +kernel, by decide +kernel⟩
theorem Nq101 : Nm (Zq1 Zq53) "_law_came" .globalImplicit := by decide +kernel
theorem Nq167 : Nm (Zq1 Zq53) "_law_count" .local := by decide +kernel
theorem Nq7 : Nm (Zq1 Zq53) "_law_deed" .local := by decide +kernel
theorem Nq44 : Nm (Zq1 Zq53) "_law_deeds" .local := by decide +kernel
theorem Nq233 : Nm (Zq1 Zq53) "_law_folk_late" .globalImplicit := by decide +kernel
theorem Nq234 : Nm (Zq1 Zq53) "_law_is_name" .globalImplicit := by decide +kernel
theorem Nq235 : Nm (Zq1 Zq53) "len" .globalImplicit := by decide +kernel
theorem f_due (Zq200 : Has K mg "_law_folk_due" Zq53) (T : Txt mg) (Zq101 : Fn P w K mg base "_law_came" ["_law_deeds", "_law_name"] 1 spCame2) (Zq288 : Fn P w K mg base "_law_is_name" ["_law_text"] 1 spLIsN)
    (Zq269 : Fn P w K mg base "_law_folk_late" ["_law_deeds", "_law_deed"] 3 spLate) : Fn P w K mg base "_law_folk_due" ["_law_deeds", "_law_deed"] 4 spDue := by
  refine Zq200.fnQ Zq235 (fun _ _ _ _ _ _ us hl => match us, hl with | [_, _], _ => rfl) (fun vs H Q E h => ?_) (fun f cdv A outer s H vs Q E hr h => ?_)
  · obtain ⟨q, t, ds, x, rfl, _⟩ := h
    rfl
  · obtain ⟨q, t, ds, x, rfl, hq0, ht0, ho, hl, k0⟩ := h
    refine ⟨_, (Zq3 (Zq26 (i := 2) Zq235.nd Nq167 (Zq18 Zq87 Nq235 T.len Zq143 (Zq0 (Zq158 (locs := ["_law_one"]) (fr := []) ⟨rfl, by decide +kernel, by decide +kernel, by decide +kernel, by decide +kernel, by decide +kernel⟩ .nil rfl (Zq168 (qvN 0 Nq44)) ⟨fun _ _ _ _ _ _ => by
    have cnd : (inN ["_law_one"] []).Nodup := by decide +kernel
    exact ⟨(qgLN 0 cnd), (qts_one (Zq8 Zq30 (Zq15 qix_tupC (qvLN 0) Zq4 (fun _ _ => rfl)) Zq14 (Zq12 _))), (qvLN 0)⟩⟩) Zq2)))
 (Zq3 (Zq19 (QW.pt (Zq102 (Zq8 Zq30 (Zq15 Zq16 (qvN 1 Nq7) Zq4 (fun _ _ => rfl)) Zq14 (Zq12 _)) (Zq92 (Zq145 (Zq126 (Zq17 Zq288 (hr.mono (by lia)) Nq234 (Zq0 (Zq15 Zq16 (qvN 1 Nq7) Zq4 (fun _ _ => rfl)) Zq2))))))) (Zq5 (Zq11 Zq14)) Zq10)
 (Zq3 (Zq19 (QW.pt (Zq237 (Zq8 Zq192 (Zq15 Zq16 (qvN 1 Nq7) Zq4 (fun _ _ => rfl)) Zq4 (Zq12 _)) (Zq213 (Zq8 qop_gt (Zq15 Zq16 (qvN 1 Nq7) Zq4 (fun _ _ => rfl)) Zq4 (Zq12 _))))) (Zq5 (Zq11 Zq14)) Zq10)
 (Zq3 (Zq19 (QW.pt (Zq102 (Zq8 qop_ne (Zq15 Zq16 (qvN 1 Nq7) Zq4 (fun _ _ => rfl)) Zq14 (Zq12 _)) (Zq92 (QW.pt (Zq237 (Zq8 Zq192 (Zq15 Zq16 (qvN 1 Nq7) Zq4 (fun _ _ => rfl)) Zq4 (Zq12 _)) (Zq213 (Zq8 qop_gt (Zq15 Zq16 (qvN 1 Nq7) Zq4 (fun _ _ => rfl)) Zq4 (Zq12 _)))))))) (Zq5 (Zq11 Zq14)) Zq10)
 (Zq3 (Zq19 (Zq8 Zq30 (Zq15 Zq16 (qvN 1 Nq7) Zq4 (fun _ _ => rfl)) Zq14 (Zq12 _)) (Zq3 (Zq19 (Zq8 qop_notN (Zq17 Zq101 (hr.mono (by lia)) Nq101 (Zq0 (qvN 0 Nq44) (Zq0 (Zq15 Zq16 (qvN 1 Nq7) Zq4 (fun _ _ => rfl)) Zq2))) Zq119 (Zq12 _)) (Zq5 (Zq11 Zq14)) Zq10)
 (Zq3 (Zq19 (Zq8 qop_ge (qvN 2 Nq167) Zq4 (Zq12 _)) (Zq5 (Zq11 Zq14)) Zq10)
 (Zq5 (Zq11 Zq14)))) Zq10)
 (Zq3 (Zq19 (Zq8 qop_isN (Zq17 Zq101 (hr.mono (by lia)) Nq101 (Zq0 (qvN 0 Nq44) (Zq0 (Zq15 Zq16 (qvN 1 Nq7) Zq4 (fun _ _ => rfl)) Zq2))) Zq119 (Zq12 _)) (Zq5 (Zq11 Zq14)) Zq10)
 (Zq3 (Zq19 (QW.pt (Zq102 (Zq8 Zq30 (Zq15 Zq16 (qvN 1 Nq7) Zq4 (fun _ _ => rfl)) Zq14 (Zq12 _)) (Zq92 (Zq8 qop_isN (Zq17 Zq101 (hr.mono (by lia)) Nq101 (Zq0 (qvN 0 Nq44) (Zq0 (Zq15 Zq16 (qvN 1 Nq7) Zq4 (fun _ _ => rfl)) Zq2))) Zq119 (Zq12 _))))) (Zq5 (Zq11 Zq14)) Zq10)
 (Zq5 (Zq11 (Zq17 Zq269 (hr.mono (by lia)) Nq233 (Zq0 (qvN 0 Nq44) (Zq0 (qvN 1 Nq7) Zq2)))))))))))), ?_⟩
    obtain ⟨vs, hq, hrep⟩ := hq0
    have hvl : vs.length = ds.length := hrep.length
    have hz : (5000 : Nat) <= sizeLine := by decide
    refine ⟨_, rfl, q, rfl, ⟨_, SqL.of hq⟩, ?_⟩
    refine comp_list (xs := vs) (fun i ys H' => H' = H /\ ys.length = (Zq29 (ds.take i)).length) ⟨rfl, rfl⟩ (by lia) (fun i ys H' _ ⟨e, _⟩ => by rw [e]; exact SqL.of hq) (fun i ys H' ⟨_, e⟩ => by rw [e]; have := comers_len' (ds.take i); rw [List.length_take] at this; lia) ?_ ?_
    · rintro i x ys H' hx ⟨rfl, hy⟩ ls hls
      obtain ⟨w0, rfl⟩ := len1 hls
      obtain ⟨y, a, hy', rfl, ha⟩ := Zq184 hrep hx
      have et := comers_take' hy'
      refine ⟨⟨[_], rfl, rfl⟩, ?_⟩
      cases y with
      | come m d w' =>
        refine ⟨_, rfl, a, _, 0, .str "come", rfl, rfl, SqT.of ha, rfl, rfl, _, rfl, iteD (fun _ => ?_) (fun z => absurd rfl z)⟩
        refine ⟨_, rfl, rfl, ?_⟩
        rw [et, List.length_append, List.length_append, hy]; rfl
      | rise m d w' =>
        refine ⟨_, rfl, a, _, 0, .str "rise", rfl, rfl, SqT.of ha, rfl, rfl, _, rfl, iteD (fun z => absurd z (Zq76 (by decide +kernel))) (fun _ => ⟨rfl, ?_⟩)⟩
        rw [et, List.length_append, hy]; rfl
      | die m d w' =>
        refine ⟨_, rfl, a, _, 0, .str "die", rfl, rfl, SqT.of ha, rfl, rfl, _, rfl, iteD (fun z => absurd z (Zq76 (by decide +kernel))) (fun _ => ⟨rfl, ?_⟩)⟩
        rw [et, List.length_append, hy]; rfl
    rintro ys H' ⟨rfl, hy⟩ lc hlc
    rw [hvl, List.take_length] at hy
    refine ⟨lc, ys, rfl, .inl (SqL.of Zq7), ?_⟩
    refine gset ?_
    dsimp only [Zq62]
    refine Zq190 hlc fun G S kG => ?_
    have hqG : DeedsAt G q ds := DeedsAt.mono ⟨vs, hq, hrep⟩ S
    have ht := S _ _ ht0
    have k : Q (.str (dueD ds x)) G := k0 G S
    have kk : ∀ G', Same G G' -> Q (.str (dueD ds x)) G' := fun G' s => k0 G' (S.trans s)
    rw [hy]
    have day : ∀ {d : Int} {A B : Prop}, (¬ (0 <= d /\ d <= 9999) -> A) -> (0 <= d /\ d <= 9999 -> B) -> (d < 0 -> A) /\ (¬ d < 0 -> 9999 < d -> A) /\ (¬ d < 0 -> ¬ 9999 < d -> B) := fun a b => ⟨fun z => a (by lia), fun _ z => a (by lia), fun y z => b (by lia)⟩
    cases x with
    | come n d wt =>
      obtain ⟨h1, h2, h3⟩ := ho
      have hln := h1.1
      refine ⟨_, rfl, t, _, 0, .str "come", rfl, rfl, SqT.of ht, rfl, rfl, _, rfl, iteD (fun _ => ?_) (fun z => absurd rfl z)⟩
      refine ⟨_, rfl, t, _, 1, .str n, rfl, rfl, SqT.of ht, rfl, n, rfl, by lia, _, rfl, ?_⟩
      have kd : dueD ds (.come n d wt) = Zq155 ds n d wt := rfl
      rw [kd] at k
      unfold Zq155 at k
      refine iteNB (fun e => ?_) (fun e => ?_)
      · rw [if_pos e] at k; exact k
      rw [if_neg (by rw [e]; decide)] at k
      refine ⟨_, rfl, t, _, 2, .int d, rfl, rfl, SqT.of ht, rfl, _, _, rfl, rfl, _, rfl, iteD (fun z => ?_) (fun z => ?_)⟩
      · rw [if_pos (by lia)] at k; exact k
      refine ⟨_, rfl, t, _, 2, .int d, rfl, rfl, SqT.of ht, rfl, _, _, rfl, rfl, _, rfl, iteD (fun z => ?_) (fun z2 => ?_)⟩
      · rw [if_pos (by lia)] at k; exact k
      rw [if_neg (by lia)] at k
      refine ⟨_, rfl, t, _, 0, .str "come", rfl, rfl, SqT.of ht, rfl, rfl, _, rfl, Zq99 (fun _ => ?_) (fun z => absurd z (Zq76 (by decide +kernel)))⟩
      refine ⟨_, rfl, t, _, 3, .int wt, rfl, rfl, SqT.of ht, rfl, _, _, rfl, rfl, _, rfl, iteD (fun z => ?_) (fun z => ?_)⟩
      · rw [if_pos (by lia)] at k; exact k
      refine ⟨_, rfl, t, _, 3, .int wt, rfl, rfl, SqT.of ht, rfl, _, _, rfl, rfl, _, rfl, iteD (fun z => ?_) (fun z2 => ?_)⟩
      · rw [if_pos (by lia)] at k; exact k
      rw [if_neg (by lia)] at k
      refine ⟨_, rfl, t, _, 0, .str "come", rfl, rfl, SqT.of ht, rfl, rfl, _, rfl, iteD (fun _ => ?_) (fun z => absurd rfl z)⟩
      refine ⟨_, rfl, _, rfl, t, _, 1, .str n, rfl, rfl, SqT.of ht, rfl, q, ds, n, rfl, hqG, ?_⟩
      cases hc : Zq9 ds n with
      | some d0 =>
        rw [hc, if_pos (show (some d0).isSome = true from rfl)] at k
        exact ⟨rfl, _, rfl, iteT k⟩
      | none =>
        rw [hc, if_neg (by decide)] at k
        refine ⟨rfl, _, rfl, iteF ?_⟩
        refine ⟨_, rfl, _, _, rfl, rfl, _, rfl, iteD (fun z => ?_) (fun z => ?_)⟩
        · rw [if_pos (by lia)] at k; exact k
        · rw [if_neg (by lia)] at k; exact k
    | rise n d wt =>
      refine ⟨_, rfl, t, _, 0, .str "rise", rfl, rfl, SqT.of ht, rfl, rfl, _, rfl, iteD (fun z => absurd z (Zq76 (by decide +kernel))) (fun _ => iteF ?_)⟩
      have kd : dueD ds (.rise n d wt) = Zq142 ds n d wt := rfl
      rw [kd] at k
      unfold Zq142 at k
      refine ⟨_, rfl, t, _, 2, .int d, rfl, rfl, SqT.of ht, rfl, _, _, rfl, rfl, _, rfl, iteD (fun z => ?_) (fun z => ?_)⟩
      · rw [if_pos (by lia)] at k; exact k
      refine ⟨_, rfl, t, _, 2, .int d, rfl, rfl, SqT.of ht, rfl, _, _, rfl, rfl, _, rfl, iteD (fun z => ?_) (fun z2 => ?_)⟩
      · rw [if_pos (by lia)] at k; exact k
      rw [if_neg (by lia)] at k
      refine ⟨_, rfl, t, _, 0, .str "rise", rfl, rfl, SqT.of ht, rfl, rfl, _, rfl, Zq99 (fun _ => ?_) (fun z => absurd z (Zq76 (by decide +kernel)))⟩
      refine ⟨_, rfl, t, _, 3, .int wt, rfl, rfl, SqT.of ht, rfl, _, _, rfl, rfl, _, rfl, iteD (fun z => ?_) (fun z3 => ?_)⟩
      · rw [if_pos (by lia)] at k; exact k
      refine ⟨_, rfl, t, _, 3, .int wt, rfl, rfl, SqT.of ht, rfl, _, _, rfl, rfl, _, rfl, iteD (fun z => ?_) (fun z4 => ?_)⟩
      · rw [if_pos (by lia)] at k; exact k
      rw [if_neg (by lia)] at k
      refine ⟨_, rfl, t, _, 0, .str "rise", rfl, rfl, SqT.of ht, rfl, rfl, _, rfl, iteD (fun z => absurd z (Zq76 (by decide +kernel))) (fun _ => ?_)⟩
      refine ⟨_, rfl, _, rfl, t, _, 1, .str n, rfl, rfl, SqT.of ht, rfl, q, ds, n, rfl, hqG, ?_⟩
      cases hc : Zq9 ds n with
      | none =>
        rw [hc] at k
        exact ⟨rfl, _, rfl, iteT k⟩
      | some d0 =>
        refine ⟨rfl, _, rfl, iteF ?_⟩
        refine ⟨_, rfl, t, _, 0, .str "rise", rfl, rfl, SqT.of ht, rfl, rfl, _, rfl, iteD (fun z => absurd z (Zq76 (by decide +kernel))) (fun _ => iteF ?_)⟩
        refine ⟨_, rfl, _, rfl, q, t, ds, .rise n d wt, rfl, hqG, ht, ⟨d0, hc⟩, fun G2 s2 => ?_⟩
        have k2 := kk G2 s2
        rw [kd] at k2
        unfold Zq142 at k2
        rw [if_neg (by lia), if_neg (by lia)] at k2
        unfold late
        dsimp only
        rw [hc] at k2 ⊢
        exact k2
    | die n d he =>
      refine ⟨_, rfl, t, _, 0, .str "die", rfl, rfl, SqT.of ht, rfl, rfl, _, rfl, iteD (fun z => absurd z (Zq76 (by decide +kernel))) (fun _ => iteF ?_)⟩
      have kd : dueD ds (.die n d he) = Zq164 ds n d he := rfl
      rw [kd] at k
      unfold Zq164 at k
      refine ⟨_, rfl, t, _, 2, .int d, rfl, rfl, SqT.of ht, rfl, _, _, rfl, rfl, _, rfl, iteD (fun z => ?_) (fun z => ?_)⟩
      · rw [if_pos (by lia)] at k; exact k
      refine ⟨_, rfl, t, _, 2, .int d, rfl, rfl, SqT.of ht, rfl, _, _, rfl, rfl, _, rfl, iteD (fun z => ?_) (fun z2 => ?_)⟩
      · rw [if_pos (by lia)] at k; exact k
      rw [if_neg (by lia)] at k
      refine ⟨_, rfl, t, _, 0, .str "die", rfl, rfl, SqT.of ht, rfl, rfl, _, rfl, Zq99 (fun z => absurd rfl z) (fun _ => iteF ?_)⟩
      refine ⟨_, rfl, t, _, 0, .str "die", rfl, rfl, SqT.of ht, rfl, rfl, _, rfl, iteD (fun z => absurd z (Zq76 (by decide +kernel))) (fun _ => ?_)⟩
      refine ⟨_, rfl, _, rfl, t, _, 1, .str n, rfl, rfl, SqT.of ht, rfl, q, ds, n, rfl, hqG, ?_⟩
      cases hc : Zq9 ds n with
      | none =>
        rw [hc] at k
        exact ⟨rfl, _, rfl, iteT k⟩
      | some d0 =>
        refine ⟨rfl, _, rfl, iteF ?_⟩
        refine ⟨_, rfl, t, _, 0, .str "die", rfl, rfl, SqT.of ht, rfl, rfl, _, rfl, iteD (fun _ => ?_) (fun z => absurd rfl z)⟩
        refine ⟨_, rfl, _, rfl, t, _, 3, .str he, rfl, rfl, SqT.of ht, rfl, q, ds, he, rfl, hqG, ?_⟩
        cases hc2 : Zq9 ds he with
        | none =>
          rw [hc, hc2] at k
          exact ⟨rfl, _, rfl, iteT k⟩
        | some d1 =>
          refine ⟨rfl, _, rfl, iteF ?_⟩
          refine ⟨_, rfl, _, rfl, q, t, ds, .die n d he, rfl, hqG, ht, ⟨d0, d1, hc, hc2⟩, fun G2 s2 => ?_⟩
          have k2 := kk G2 s2
          rw [kd] at k2
          unfold Zq164 at k2
          rw [if_neg (by lia)] at k2
          unfold late
          dsimp only
          rw [hc, hc2] at k2 ⊢
          exact k2
def spAsk : Sp := fun vs H Q _ => ∃ (q : Addr) (ds : List Deed) (wd n : Str) (day : Int), vs = [.ref q, .str wd, .str n, .int day] /\ DeedsAt H q ds /\ Q (.str (Zq56 wd ds n day)) H
abbrev Zq89 : Stmt := top 39
theorem Zq277 : FnScope ["_law_deeds", "_law_word_here", "_law_name", "_law_day_here"] ["_law_deeds", "_law_word_here", "_law_name", "_law_day_here"] (Zq1 Zq89) := ⟨rfl, rfl, rfl, by decide +kernel, rfl, by decide +kernel, by decide +kernel⟩
theorem Nq168 : Nm (Zq1 Zq89) "_law_came" .globalImplicit := by decide +kernel
theorem Nq102 : Nm (Zq1 Zq89) "_law_day_here" .local := by decide +kernel
theorem Nq169 : Nm (Zq1 Zq89) "_law_deeds" .local := by decide +kernel
theorem Nq170 : Nm (Zq1 Zq89) "_law_name" .local := by decide +kernel
theorem Nq171 : Nm (Zq1 Zq89) "_law_word_here" .local := by decide +kernel
theorem Zq323 (Zq211 : Has K mg "_law_ask_due" Zq89) (T : Txt mg) (Zq101 : Fn P w K mg base "_law_came" ["_law_deeds", "_law_name"] 1 spCame2) : Fn P w K mg base "_law_ask_due" ["_law_deeds", "_law_word_here", "_law_name", "_law_day_here"] 2 spAsk := by
  refine Zq211.fnQ Zq277 (fun _ _ _ _ _ _ us hl => match us, hl with | [_, _, _, _], _ => rfl) (fun vs H Q E h => ?_) (fun f cdv A outer s H vs Q E hr h => ?_)
  · obtain ⟨q, ds, wd, n, day, rfl, _⟩ := h
    rfl
  · obtain ⟨q, ds, wd, n, day, rfl, hq, k⟩ := h
    refine ⟨_, (Zq3 (Zq19 (QW.pt (Zq102 (Zq8 qop_ne (qvN 1 Nq171) Zq14 (Zq12 _)) (Zq92 (QW.pt (Zq237 (Zq8 Zq192 (qvN 3 Nq102) Zq4 (Zq12 _)) (Zq213 (Zq8 qop_gt (qvN 3 Nq102) Zq4 (Zq12 _)))))))) (Zq5 (Zq11 Zq14)) Zq10)
 (Zq3 (Zq19 (Zq8 qop_isN (Zq17 Zq101 (hr.mono (by lia)) Nq168 (Zq0 (qvN 0 Nq169) (Zq0 (qvN 2 Nq170) Zq2))) Zq119 (Zq12 _)) (Zq5 (Zq11 Zq14)) Zq10)
 (Zq3 (Zq19 (QW.pt (Zq102 (Zq8 Zq30 (qvN 1 Nq171) Zq14 (Zq12 _)) (Zq92 (Zq8 Zq192 (qvN 3 Nq102) (Zq17 Zq101 (hr.mono (by lia)) Nq168 (Zq0 (qvN 0 Nq169) (Zq0 (qvN 2 Nq170) Zq2))) (Zq12 _))))) (Zq5 (Zq11 Zq14)) Zq10)
 (Zq5 (Zq11 Zq14))))), ?_⟩
    unfold Zq56 at k
    have two : ¬ (wd ≠ "came" /\ ¬ (0 <= day /\ day <= 9999)) -> (Q (.str (match Zq9 ds n with | none => "Unknown" | some d => if wd = "weight" /\ day < d then "NotYet" else "")) H) := fun h => by rw [if_neg h] at k; exact k
    refine (?_ : tSeq _ _ _ _ _)
    refine seq_cut (fun σ' H' => σ' = [some (.ref q), some (.str wd), some (.str n), some (.int day)] /\ H' = H /\ ¬ (wd ≠ "came" /\ ¬ (0 <= day /\ day <= 9999))) ?_ ?_
    · rintro σ' H' ⟨rfl, rfl, hno⟩
      have k := two hno
      refine ⟨_, rfl, _, rfl, q, ds, n, rfl, hq, ?_⟩
      cases hc : Zq9 ds n with
      | none =>
        rw [hc] at k
        exact ⟨rfl, _, rfl, iteT k⟩
      | some d0 =>
        rw [hc] at k
        dsimp only at k
        refine ⟨rfl, _, rfl, iteF ?_⟩
        refine ⟨_, rfl, rfl, _, rfl, iteD (fun z => ?_) (fun z => ?_)⟩
        · have z : wd = "weight" := by injection z
          refine ⟨_, rfl, _, rfl, _, rfl, q, ds, n, rfl, hq, ?_⟩
          rw [hc]
          refine ⟨_, _, rfl, rfl, _, rfl, iteD (fun y => ?_) (fun y => ?_)⟩
          · rw [if_pos ⟨z, y⟩] at k; exact k
          · rw [if_neg (fun q => y q.2)] at k; exact k
        · rw [if_neg (fun q => z (by rw [q.1]))] at k
          exact iteF k
    · intro D' hn hrt _ _
      refine ⟨_, rfl, rfl, _, rfl, Zq99 (fun z => ?_) (fun z => ?_)⟩
      · have z : wd ≠ "came" := fun e => z (by rw [e])
        have bad : ¬ (0 <= day /\ day <= 9999) -> D'.rt (.str "NoMeasure") H := fun y => by
          rw [if_pos ⟨z, y⟩] at k; exact hrt _ _ k
        refine ⟨_, rfl, _, _, rfl, rfl, _, rfl, iteD (fun y => bad (by lia)) (fun y => ?_)⟩
        exact ⟨_, rfl, _, _, rfl, rfl, _, rfl, iteD (fun y => bad (by lia)) (fun y2 => hn _ _ ⟨rfl, rfl, fun q => q.2 (by lia)⟩)⟩
      · exact iteF (hn _ _ ⟨rfl, rfl, fun q => q.1 (by injection z)⟩)
end
section
variable {P : Program} {w : World} {K : PySem.W.Frag} {mg : Str -> Option Value} {base : Heap} {C : Addr} {c : Str -> Addr}
instance (d : Int) : Decidable (okI d) := by unfold okI; exact inferInstance
def spWild : Sp := fun vs H Q _ => ∃ (s la : Addr), vs = [.ref s] /\ SrcAt H s la /\ ∀ (d : Int) (H' : Hp), okI d -> SrcAt H' s la -> SameX s H H' -> Q (.int d) H'
abbrev Zq116 : Stmt := top 40
theorem Zq270 : FnScope ["_law_src_here"] ["_law_src_here"] (Zq1 Zq116) := ⟨rfl, rfl, rfl, by decide +kernel, rfl, by decide +kernel, by decide +kernel⟩
theorem Nq236 : Nm (Zq1 Zq116) "_law_day" .globalImplicit := by decide +kernel
theorem Nq172 : Nm (Zq1 Zq116) "_law_next" .globalImplicit := by decide +kernel
theorem Nq103 : Nm (Zq1 Zq116) "_law_src_here" .local := by decide +kernel
theorem Zq342 (Zq201 : Has K mg "_law_wild_day" Zq116) (T : Txt mg) (Zq25 : Fn P w K mg base "_law_next" ["_law_src_here", "_law_base"] 1 Zq182) (Zq250 : Fn P w K mg base "_law_day" ["_law_src_here"] 2 spLDay) : Fn P w K mg base "_law_wild_day" ["_law_src_here"] 3 spWild := by
  refine Zq201.fnQ Zq270 (fun _ _ _ _ _ _ us hl => match us, hl with | [_], _ => rfl) (fun vs H Q E h => ?_) (fun f cdv A outer s H vs Q E hr h => ?_)
  · obtain ⟨s, la, rfl, _⟩ := h
    rfl
  · obtain ⟨s, la, rfl, hs, k⟩ := h
    refine ⟨_, (Zq3 (Zq19 (Zq8 Zq30 (Zq17 Zq25 (hr.mono (by lia)) Nq172 (Zq0 (qvN 0 Nq103) (Zq0 Zq4 Zq2))) Zq4 (Zq12 _)) (Zq5 (Zq11 (Zq15 Zq36 (Zq49 (Zq0 (qe_un qop_neg Zq4) (Zq0 Zq4 (Zq0 (Zq35 qop_pow Zq4 Zq4) (Zq0 (qe_un qop_neg (Zq35 qop_pow Zq4 Zq4)) Zq2))))) (Zq17 Zq25 (hr.mono (by lia)) Nq172 (Zq0 (qvN 0 Nq103) (Zq0 Zq4 Zq2))) (fun _ _ => rfl)))) Zq10)
 (Zq5 (Zq11 (Zq17 Zq250 (hr.mono (by lia)) Nq236 (Zq0 (qvN 0 Nq103) Zq2))))), ?_⟩
    have hz : (5000 : Nat) <= sizeLine := by decide
    refine ⟨_, rfl, s, la, 7, rfl, hs, by decide, by decide, fun d H1 _ _ hs1 sx1 => ?_⟩
    refine ⟨rfl, _, rfl, iteD (fun _ => ?_) (fun _ => ?_)⟩
    · refine ⟨_, rfl, _, _, rfl, rfl, ⟨by decide, by decide, by decide⟩, _, _, rfl, rfl, ⟨by decide, by decide, by decide⟩, _, rfl, by show 4 <= sizeLine; lia, fun q hq => ?_⟩
      have nq : q ≠ s := (hs1.ne hq).1
      refine ⟨_, rfl, s, la, 4, rfl, hs1.keep (Same.new hq), by decide, by decide, fun d2 H3 e0 e1 hs3 sx3 => ?_⟩
      have hk := sx3 q _ nq Zq7
      have sx := (sx1.trans (Same.new (o := _) hq).x).trans sx3
      have : d2 = 0 \/ d2 = 1 \/ d2 = 2 \/ d2 = 3 := by lia
      rcases this with rfl | rfl | rfl | rfl
      · exact ⟨q, _, 0, _, rfl, rfl, SqL.of hk, rfl, k _ H3 (by decide) hs3 sx⟩
      · exact ⟨q, _, 1, _, rfl, rfl, SqL.of hk, rfl, k _ H3 (by decide) hs3 sx⟩
      · exact ⟨q, _, 2, _, rfl, rfl, SqL.of hk, rfl, k _ H3 (by decide +kernel) hs3 sx⟩
      · exact ⟨q, _, 3, _, rfl, rfl, SqL.of hk, rfl, k _ H3 (by decide +kernel) hs3 sx⟩
    · exact ⟨_, rfl, s, la, rfl, hs1, fun d2 H3 e0 e1 hs3 sx3 => k d2 H3 (by unfold okI; lia) hs3 (sx1.trans sx3)⟩
abbrev Zq105 : Stmt := top 41
theorem Zq252 : FnScope ["_law_src_here"] ["_law_src_here"] (Zq1 Zq105) := ⟨rfl, rfl, rfl, by decide +kernel, rfl, by decide +kernel, by decide +kernel⟩
theorem Nq71 : Nm (Zq1 Zq105) "_law_next" .globalImplicit := by decide +kernel
theorem Nq72 : Nm (Zq1 Zq105) "_law_src_here" .local := by decide +kernel
theorem f_wwt (Zq165 : Has K mg "_law_wild_weight" Zq105) (T : Txt mg) (Zq25 : Fn P w K mg base "_law_next" ["_law_src_here", "_law_base"] 1 Zq182) : Fn P w K mg base "_law_wild_weight" ["_law_src_here"] 2 spWild := by
  refine Zq165.fnQ Zq252 (fun _ _ _ _ _ _ us hl => match us, hl with | [_], _ => rfl) (fun vs H Q E h => ?_) (fun f cdv A outer s H vs Q E hr h => ?_)
  · obtain ⟨s, la, rfl, _⟩ := h
    rfl
  · obtain ⟨s, la, rfl, hs, k⟩ := h
    refine ⟨_, (Zq3 (Zq19 (Zq8 Zq30 (Zq17 Zq25 (hr.mono (by lia)) Nq71 (Zq0 (qvN 0 Nq72) (Zq0 Zq4 Zq2))) Zq4 (Zq12 _)) (Zq5 (Zq11 (Zq15 Zq36 (Zq49 (Zq0 Zq4 (Zq0 Zq4 (Zq0 (qe_un qop_neg Zq4) (Zq0 (Zq35 qop_pow Zq4 Zq4) Zq2))))) (Zq17 Zq25 (hr.mono (by lia)) Nq71 (Zq0 (qvN 0 Nq72) (Zq0 Zq4 Zq2))) (fun _ _ => rfl)))) Zq10)
 (Zq5 (Zq11 (Zq15 Zq36 (Zq49 (Zq0 Zq4 (Zq0 Zq4 (Zq0 (Zq35 Zq122 Zq4 (Zq17 Zq25 (hr.mono (by lia)) Nq71 (Zq0 (qvN 0 Nq72) (Zq0 Zq4 Zq2)))) Zq2)))) (Zq17 Zq25 (hr.mono (by lia)) Nq71 (Zq0 (qvN 0 Nq72) (Zq0 Zq4 Zq2))) (fun _ _ => rfl))))), ?_⟩
    have hz : (5000 : Nat) <= sizeLine := by decide
    refine ⟨_, rfl, s, la, 7, rfl, hs, by decide, by decide, fun d H1 _ _ hs1 sx1 => ?_⟩
    refine ⟨rfl, _, rfl, iteD (fun _ => ?_) (fun _ => ?_)⟩
    · refine ⟨_, rfl, _, _, rfl, rfl, ⟨by decide, by decide, by decide⟩, by show 4 <= sizeLine; lia, fun q hq => ?_⟩
      have nq : q ≠ s := (hs1.ne hq).1
      refine ⟨_, rfl, s, la, 4, rfl, hs1.keep (Same.new hq), by decide, by decide, fun d2 H3 e0 e1 hs3 sx3 => ?_⟩
      have hk := sx3 q _ nq Zq7
      have sx := (sx1.trans (Same.new (o := _) hq).x).trans sx3
      have : d2 = 0 \/ d2 = 1 \/ d2 = 2 \/ d2 = 3 := by lia
      rcases this with rfl | rfl | rfl | rfl
      · exact ⟨q, _, 0, _, rfl, rfl, SqL.of hk, rfl, k _ H3 (by decide) hs3 sx⟩
      · exact ⟨q, _, 1, _, rfl, rfl, SqL.of hk, rfl, k _ H3 (by decide) hs3 sx⟩
      · exact ⟨q, _, 2, _, rfl, rfl, SqL.of hk, rfl, k _ H3 (by decide +kernel) hs3 sx⟩
      · exact ⟨q, _, 3, _, rfl, rfl, SqL.of hk, rfl, k _ H3 (by decide +kernel) hs3 sx⟩
    · refine ⟨_, rfl, s, la, 9, rfl, hs1, by decide, by decide, fun d3 H2 f0 f1 hs2 sx2 => ?_⟩
      refine ⟨_, _, rfl, rfl, by show 3 <= sizeLine; lia, fun q hq => ?_⟩
      have nq : q ≠ s := (hs2.ne hq).1
      refine ⟨_, rfl, s, la, 3, rfl, hs2.keep (Same.new hq), by decide, by decide, fun d2 H3 e0 e1 hs3 sx3 => ?_⟩
      have hk := sx3 q _ nq Zq7
      have sx := ((sx1.trans sx2).trans (Same.new (o := _) hq).x).trans sx3
      have : d2 = 0 \/ d2 = 1 \/ d2 = 2 := by lia
      rcases this with rfl | rfl | rfl
      · exact ⟨q, _, 0, _, rfl, rfl, SqL.of hk, rfl, k _ H3 (by decide) hs3 sx⟩
      · exact ⟨q, _, 1, _, rfl, rfl, SqL.of hk, rfl, k _ H3 (by decide) hs3 sx⟩
      · exact ⟨q, _, 2, _, rfl, rfl, SqL.of hk, rfl, k _ H3 (by unfold okI; lia) hs3 sx⟩
def spFDeed : Sp := fun vs H Q _ => ∃ (s la na : Addr) (names : List Str), vs = [.ref s, .ref na] /\ SrcAt H s la /\ H na = some (.lst (names.map V.str)) /\ na ≠ s /\ 1 <= names.length /\ names.length <= 100 /\ (∀ n ∈ names, okN n) /\
  ∀ (x : Deed) (t : Addr) (H' : Hp), okD x -> H' t = some (.tup (Zq172 x)) -> SrcAt H' s la -> SameX s H H' -> Q (.ref t) H'
abbrev Zq45 : Stmt := top 42
theorem Zq175 : FnScope ["_law_src_here", "_law_names_here", "_law_word_here", "_law_name"] ["_law_src_here", "_law_names_here"] (Zq1 Zq45) := ⟨rfl, rfl, rfl, by decide +kernel, rfl, by decide +kernel, by decide +kernel⟩
theorem Nq104 : Nm (Zq1 Zq45) "_law_name" .local := by decide +kernel
theorem Nq73 : Nm (Zq1 Zq45) "_law_names_here" .local := by decide +kernel
theorem Nq105 : Nm (Zq1 Zq45) "_law_next" .globalImplicit := by decide +kernel
theorem Nq36 : Nm (Zq1 Zq45) "_law_src_here" .local := by decide +kernel
theorem Nq173 : Nm (Zq1 Zq45) "_law_wild_day" .globalImplicit := by decide +kernel
theorem Nq237 : Nm (Zq1 Zq45) "_law_wild_weight" .globalImplicit := by decide +kernel
theorem Nq74 : Nm (Zq1 Zq45) "_law_word_here" .local := by decide +kernel
theorem Nq174 : Nm (Zq1 Zq45) "len" .globalImplicit := by decide +kernel
theorem Zq333 (Zq187 : Has K mg "_law_folk_deed" Zq45) (T : Txt mg) (Zq25 : Fn P w K mg base "_law_next" ["_law_src_here", "_law_base"] 1 Zq182) (Zq157 : Fn P w K mg base "_law_wild_day" ["_law_src_here"] 3 spWild) (Zq262 : Fn P w K mg base "_law_wild_weight" ["_law_src_here"] 2 spWild) :
    Fn P w K mg base "_law_folk_deed" ["_law_src_here", "_law_names_here"] 4 spFDeed := by
  refine Zq187.fnQ Zq175 (fun _ _ _ _ _ _ us hl => match us, hl with | [_, _], _ => rfl) (fun vs H Q E h => ?_) (fun f cdv A outer s H vs Q E hr h => ?_)
  · obtain ⟨s, la, na, names, rfl, _⟩ := h
    rfl
  · obtain ⟨s, la, na, names, rfl, hs, hna, nns, l0, l1, hok, k⟩ := h
    refine ⟨_, (Zq3 (Zq26 (i := 2) Zq175.nd Nq74 (Zq15 Zq36 (Zq49 (Zq0 Zq14 (Zq0 Zq14 (Zq0 Zq14 (Zq0 Zq14 Zq2))))) (Zq17 Zq25 (hr.mono (by lia)) Nq105 (Zq0 (qvN 0 Nq36) (Zq0 Zq4 Zq2))) (fun _ _ => rfl)))
 (Zq3 (Zq26 (i := 3) Zq175.nd Nq104 (Zq15 Zq36 (qvN 1 Nq73) (Zq17 Zq25 (hr.mono (by lia)) Nq105 (Zq0 (qvN 0 Nq36) (Zq0 (Zq18 Zq87 Nq174 T.len Zq143 (Zq0 (qvN 1 Nq73) Zq2)) Zq2))) (fun _ _ => rfl)))
 (Zq3 (Zq19 (Zq8 Zq30 (qvN 2 Nq74) Zq14 (Zq12 _)) (Zq5 (Zq11 (qe_tup (Zq0 (qvN 2 Nq74) (Zq0 (qvN 3 Nq104) (Zq0 (Zq17 Zq157 (hr.mono (by lia)) Nq173 (Zq0 (qvN 0 Nq36) Zq2)) (Zq0 (Zq15 Zq36 (qvN 1 Nq73) (Zq17 Zq25 (hr.mono (by lia)) Nq105 (Zq0 (qvN 0 Nq36) (Zq0 (Zq18 Zq87 Nq174 T.len Zq143 (Zq0 (qvN 1 Nq73) Zq2)) Zq2))) (fun _ _ => rfl)) Zq2))))))) Zq10)
 (Zq5 (Zq11 (qe_tup (Zq0 (qvN 2 Nq74) (Zq0 (qvN 3 Nq104) (Zq0 (Zq17 Zq157 (hr.mono (by lia)) Nq173 (Zq0 (qvN 0 Nq36) Zq2)) (Zq0 (Zq17 Zq262 (hr.mono (by lia)) Nq237 (Zq0 (qvN 0 Nq36) Zq2)) Zq2)))))))))), ?_⟩
    have hz : (5000 : Nat) <= sizeLine := by decide
    have pick : ∀ d : Int, 0 <= d -> d < names.length -> ∃ m, m ∈ names /\ atI (names.map V.str) d = some (.str m) := fun d a b => by
      obtain ⟨j, rfl⟩ := Int.eq_ofNat_of_zero_le a
      have hj : j < names.length := by lia
      exact ⟨names[j], List.getElem_mem hj, atI_nat (by rw [List.getElem?_map, List.getElem?_eq_getElem hj]; rfl)⟩
    refine ⟨by show 4 <= sizeLine; lia, fun q hq => ?_⟩
    have nq : q ≠ s := (hs.ne hq).1
    refine ⟨_, rfl, s, la, 4, rfl, hs.keep (Same.new hq), by decide, by decide, fun d H1 e0 e1 hs1 sx1 => ?_⟩
    have hk := sx1 q _ nq Zq7
    have sxA := (Same.new (o := _) hq).x.trans sx1
    have word : ∃ wd : Str, atI [V.str "come", .str "come", .str "rise", .str "die"] d = some (.str wd) /\ (wd = "come" \/ wd = "rise" \/ wd = "die") := by
      have : d = 0 \/ d = 1 \/ d = 2 \/ d = 3 := by lia
      rcases this with rfl | rfl | rfl | rfl
      · exact ⟨"come", rfl, .inl rfl⟩
      · exact ⟨"come", rfl, .inl rfl⟩
      · exact ⟨"rise", rfl, .inr (.inl rfl)⟩
      · exact ⟨"die", rfl, .inr (.inr rfl)⟩
    obtain ⟨wd, hw, hwd⟩ := word
    refine ⟨q, _, d, .str wd, rfl, rfl, SqL.of hk, hw, ?_⟩
    refine gset ?_
    dsimp only [Zq62]
    have hna1 := sxA na _ nns hna
    refine ⟨_, rfl, _, rfl, _, rfl, na, _, rfl, .inl (SqL.of hna1), s, la, _, rfl, hs1, by rw [List.length_map]; lia, by rw [List.length_map]; lia, fun d2 H2 f0 f1 hs2 sx2 => ?_⟩
    have hna2 := sx2 na _ nns hna1
    rw [List.length_map] at f1
    obtain ⟨m, hm, em⟩ := pick d2 f0 f1
    refine ⟨na, _, d2, .str m, rfl, rfl, SqL.of hna2, em, ?_⟩
    refine gset ?_
    dsimp only [Zq62]
    have sxB := sxA.trans sx2
    refine ⟨_, rfl, rfl, _, rfl, iteD (fun z => ?_) (fun z => ?_)⟩
    · have z : wd = "die" := by injection z
      subst z
      refine ⟨_, rfl, _, rfl, _, rfl, s, la, rfl, hs2, fun dd H3 od hs3 sx3 => ?_⟩
      have hna3 := sx3 na _ nns hna2
      refine ⟨_, rfl, _, rfl, _, rfl, na, _, rfl, .inl (SqL.of hna3), s, la, _, rfl, hs3, by rw [List.length_map]; lia, by rw [List.length_map]; lia, fun d4 H4 g0 g1 hs4 sx4 => ?_⟩
      have hna4 := sx4 na _ nns hna3
      rw [List.length_map] at g1
      obtain ⟨m2, hm2, em2⟩ := pick d4 g0 g1
      refine ⟨na, _, d4, .str m2, rfl, rfl, SqL.of hna4, em2, by show 4 <= sizeLine; lia, fun t ht => ?_⟩
      exact k (.die m dd m2) t _ ⟨hok m hm, hok m2 hm2, od⟩ Zq7 (hs4.keep (Same.new ht)) (((sxB.trans sx3).trans sx4).trans (Same.new ht).x)
    · have z : wd ≠ "die" := fun e => z (by rw [e])
      refine ⟨_, rfl, _, rfl, _, rfl, s, la, rfl, hs2, fun dd H3 od hs3 sx3 => ?_⟩
      refine ⟨_, rfl, s, la, rfl, hs3, fun wt H4 ow hs4 sx4 => ?_⟩
      refine ⟨by show 4 <= sizeLine; lia, fun t ht => ?_⟩
      rcases hwd with rfl | rfl | rfl
      · exact k (.come m dd wt) t _ ⟨hok m hm, od, ow⟩ Zq7 (hs4.keep (Same.new ht)) (((sxB.trans sx3).trans sx4).trans (Same.new ht).x)
      · exact k (.rise m dd wt) t _ ⟨hok m hm, od, ow⟩ Zq7 (hs4.keep (Same.new ht)) (((sxB.trans sx3).trans sx4).trans (Same.new ht).x)
      · exact absurd rfl z
end
section
variable {P : Program} {w : World} {K : PySem.W.Frag} {mg : Str -> Option Value} {base : Heap} {C : Addr} {c : Str -> Addr}
theorem strs_mk {H : Hp} : ∀ ns : List Str, RepL H (ns.map D.str) (ns.map V.str)
  | [] => rfl
  | n :: ns => ⟨.str n, ns.map V.str, rfl, rfl, strs_mk ns⟩
theorem deep_strs (bs : List Str) : (D.lst (bs.map D.str)).deep <= 4 := by
  have : ∀ bs : List Str, Zq193 (bs.map D.str) = 0 := by
    intro bs
    induction bs with
    | nil => rfl
    | cons b r ih => rw [List.map_cons, Zq193, ih]; rfl
  show Zq193 (bs.map D.str) + 1 <= 4
  rw [this]
  decide
theorem DeedsAt.x {H H' : Hp} {q s la : Addr} {ds : List Deed} (h : DeedsAt H q ds) (hs : SrcAt H s la) (n : q ≠ s) (k : SameX s H H') : DeedsAt H' q ds := by
  obtain ⟨_, _, _, _, _, h1, _⟩ := hs
  obtain ⟨vs, a, r⟩ := h
  exact ⟨vs, k _ _ n a, r.mono fun b xs e => k _ _ (fun z => by rw [z, h1] at e; cases e) e⟩
def spAsked (C : Addr) : Sp := fun vs H Q _ => ∃ (s la q na : Addr) (L : FL) (ds : List Deed) (wa : Str -> Addr) (names : List Str), vs = [.ref s, .ref L.p, .ref q, .ref na] /\ SrcAt H s la /\ Fk C H L ds wa /\ DeedsAt H q ds /\ Hs ds /\ H na = some (.lst (names.map V.str)) /\ na ≠ s /\ q ≠ s /\
  1 <= names.length /\ names.length <= 100 /\ (∀ n ∈ names, okN n) /\ ∀ H', SrcAt H' s la -> SameX s H H' -> Q (.bl true) H'
abbrev ws4 : List Str := ["weight", "dead", "stands_for", "came"]
theorem ws4_mem {x : Str} (h : x ∈ ws4) : x = "weight" \/ x = "dead" \/ x = "stands_for" \/ x = "came" := by
  simp only [ws4, List.mem_cons, List.not_mem_nil, or_false] at h
  exact h
abbrev Zq24 : Stmt := top 46
theorem Zq91 : FnScope ["_law_src_here", "_law_folk", "_law_deeds", "_law_names_here", "_law_name", "_law_day_here", "_law_word_here", "_law_due"] ["_law_src_here", "_law_folk", "_law_deeds", "_law_names_here"] (Zq1 Zq24) := ⟨rfl, rfl, rfl, by decide +kernel, rfl, by decide +kernel, by decide +kernel⟩
theorem Nq175 : Nm (Zq1 Zq24) "_law_ask_due" .globalImplicit := by decide +kernel
theorem Nq17 : Nm (Zq1 Zq24) "_law_day_here" .local := by decide +kernel
theorem Nq45 : Nm (Zq1 Zq24) "_law_deeds" .local := by decide +kernel
theorem Nq176 : Nm (Zq1 Zq24) "_law_due" .local := by decide +kernel
theorem Nq75 : Nm (Zq1 Zq24) "_law_folk" .local := by decide +kernel
theorem Nq238 : Nm (Zq1 Zq24) "_law_folk_kinds" .globalImplicit := by decide +kernel
theorem Nq239 : Nm (Zq1 Zq24) "_law_folk_names" .globalImplicit := by decide +kernel
theorem Nq240 : Nm (Zq1 Zq24) "_law_heir" .globalImplicit := by decide +kernel
theorem Nq18 : Nm (Zq1 Zq24) "_law_name" .local := by decide +kernel
theorem Nq177 : Nm (Zq1 Zq24) "_law_names_here" .local := by decide +kernel
theorem Nq241 : Nm (Zq1 Zq24) "_law_next" .globalImplicit := by decide +kernel
theorem Nq106 : Nm (Zq1 Zq24) "_law_same" .globalImplicit := by decide +kernel
theorem Nq178 : Nm (Zq1 Zq24) "_law_src_here" .local := by decide +kernel
theorem Nq242 : Nm (Zq1 Zq24) "_law_weighs" .globalImplicit := by decide +kernel
theorem Nq243 : Nm (Zq1 Zq24) "_law_wild_day" .globalImplicit := by decide +kernel
theorem Nq76 : Nm (Zq1 Zq24) "_law_word_here" .local := by decide +kernel
theorem Nq244 : Nm (Zq1 Zq24) "len" .globalImplicit := by decide +kernel
theorem Zq334 (Zq166 : Has K mg "_law_asked_right" Zq24) (T : Txt mg) (Tc : TxC K C) (Zq25 : Fn P w K mg base "_law_next" ["_law_src_here", "_law_base"] 1 Zq182) (Zq157 : Fn P w K mg base "_law_wild_day" ["_law_src_here"] 3 spWild)
    (Zq247 : Fn P w K mg base "_law_ask_due" ["_law_deeds", "_law_word_here", "_law_name", "_law_day_here"] 2 spAsk) (Zq176 : Fn P w K mg base "_law_folk_kinds" ["_law_word_here", "_law_folk", "_law_deed"] 6 (spKindA C)) (Zq177 : Fn P w K mg base "_law_folk_names" ["_law_name"] 1 spNms)
    (Zq181 : Fn P w K mg base "_law_same" ["_law_found", "_law_due"] 6 (spSame 4)) (M_weight : Mt P w K mg base C "weight" ["self", "name", "day"] 2 (spWeigh C)) (M_names : Mt P w K mg base C "names" ["self"] 1 (spNamesF C))
    (M_stands_for : Mt P w K mg base C "stands_for" ["self", "name", "day"] 3 (spStands C)) (Zq299 : Fn P w K mg base "_law_weighs" ["_law_deeds", "_law_name", "_law_day_here"] 1 spWeighs)
    (Zq313 : Fn P w K mg base "_law_heir" ["_law_deeds", "_law_name", "_law_day_here"] 3 spHeir) :
    Fn P w K mg base "_law_asked_right" ["_law_src_here", "_law_folk", "_law_deeds", "_law_names_here"] 7 (spAsked C) := by
  refine Zq166.fnQ Zq91 (fun _ _ _ _ _ _ us hl => match us, hl with | [_, _, _, _], _ => rfl) (fun vs H Q E h => ?_) (fun f cdv A outer s H vs Q E hr h => ?_)
  · obtain ⟨s, la, q, na, L, ds, wa, names, rfl, _⟩ := h
    rfl
  · obtain ⟨s, la, q, na, L, ds, wa, names, rfl, hs, F0, D0, hh, hna, nns, nqs, l0, l1, hok, k⟩ := h
    refine ⟨_, (Zq3 (Zq26 (i := 4) Zq91.nd Nq18 (Zq15 Zq36 (qvN 3 Nq177) (Zq17 Zq25 (hr.mono (by lia)) Nq241 (Zq0 (qvN 0 Nq178) (Zq0 (Zq18 Zq87 Nq244 T.len Zq143 (Zq0 (qvN 3 Nq177) Zq2)) Zq2))) (fun _ _ => rfl)))
 (Zq3 (Zq26 (i := 5) Zq91.nd Nq17 (Zq17 Zq157 (hr.mono (by lia)) Nq243 (Zq0 (qvN 0 Nq178) Zq2)))
 (Zq3 (Zq178 PassesOwn.never rfl (Zq168 (Zq49 (Zq0 Zq14 (Zq0 Zq14 (Zq0 Zq14 (Zq0 Zq14 Zq2)))))) (Zq118 (i := 6) Zq91.nd Nq76)
  (Zq3 (Zq26 (i := 7) Zq91.nd Nq176 (Zq17 Zq247 (hr.mono (by lia)) Nq175 (Zq0 (qvN 2 Nq45) (Zq0 (qvN 6 Nq76) (Zq0 (qvN 4 Nq18) (Zq0 (qvN 5 Nq17) Zq2))))))
 (Zq5 (Zq19 (Zq8 (qop_neBls hr) (Zq17 Zq176 (hr.mono (by lia)) Nq238 (Zq0 (qvN 6 Nq76) (Zq0 (qvN 1 Nq75) (Zq0 (qe_tup (Zq0 (qvN 6 Nq76) (Zq0 (qvN 4 Nq18) (Zq0 (qvN 5 Nq17) Zq2)))) Zq2)))) (Zq17 Zq177 (hr.mono (by lia)) Nq239 (Zq0 (qvN 7 Nq176) Zq2)) (Zq12 _)) (Zq5 (Zq11 Zq169)) Zq10))))
 (Zq3 (Zq19 (Zq8 Zq30 (Zq17 Zq247 (hr.mono (by lia)) Nq175 (Zq0 (qvN 2 Nq45) (Zq0 Zq14 (Zq0 (qvN 4 Nq18) (Zq0 (qvN 5 Nq17) Zq2))))) Zq14 (Zq12 _)) (Zq3 (Zq19 (Zq145 (Zq126 (Zq17 Zq181 (hr.mono (by lia)) Nq106 (Zq0 (Zq70 (qvN 1 Nq75) Tc.cl M_weight (hr.mono (by lia)) (Zq0 (qvN 4 Nq18) (Zq0 (qvN 5 Nq17) Zq2))) (Zq0 (Zq17 Zq299 (hr.mono (by lia)) Nq242 (Zq0 (qvN 2 Nq45) (Zq0 (qvN 4 Nq18) (Zq0 (qvN 5 Nq17) Zq2)))) Zq2))))) (Zq5 (Zq11 Zq169)) Zq10)
 (Zq5 (Zq11 (Zq17 Zq181 (hr.mono (by lia)) Nq106 (Zq0 (Zq70 (qvN 1 Nq75) Tc.cl M_stands_for (hr.mono (by lia)) (Zq0 (qvN 4 Nq18) (Zq0 (qvN 5 Nq17) Zq2))) (Zq0 (Zq17 Zq313 (hr.mono (by lia)) Nq240 (Zq0 (qvN 2 Nq45) (Zq0 (qvN 4 Nq18) (Zq0 (qvN 5 Nq17) Zq2)))) Zq2)))))) Zq10)
 (Zq5 (Zq11 (Zq17 Zq181 (hr.mono (by lia)) Nq106 (Zq0 (qe_mt0 (qvN 1 Nq75) Tc.cl M_names (hr.mono (by lia))) (Zq0 (Zq158 (locs := ["_law_deed"]) (fr := []) ⟨rfl, by decide +kernel, by decide +kernel, by decide +kernel, by decide +kernel, by decide +kernel⟩ .nil rfl (Zq168 (qvN 2 Nq45)) ⟨fun _ _ _ _ _ _ => by
    have cnd : (inN ["_law_deed"] []).Nodup := by decide +kernel
    exact ⟨(qgLN 0 cnd), (qts_one (Zq8 Zq30 (Zq15 qix_tupC (qvLN 0) Zq4 (fun _ _ => rfl)) Zq14 (Zq12 _))), (Zq15 qix_tupC (qvLN 0) Zq4 (fun _ _ => rfl))⟩⟩) Zq2))))))))), ?_⟩
    have hz : (5000 : Nat) <= sizeLine := by decide
    have ok : ∀ {d : D} {A B : Prop}, B -> if (!Zq77 d d) = true then A else B := fun h => iteNB (fun z => by rw [sameD_refl] at z; cases z) fun _ => h
    refine ⟨_, rfl, _, rfl, _, rfl, na, _, rfl, .inl (SqL.of hna), s, la, _, rfl, hs, by rw [List.length_map]; lia, by rw [List.length_map]; lia, fun d H1 e0 e1 hs1 sx1 => ?_⟩
    rw [List.length_map] at e1
    obtain ⟨j, rfl⟩ := Int.eq_ofNat_of_zero_le e0
    have hj : j < names.length := by lia
    have on := hok _ (List.getElem_mem hj)
    have hna1 := sx1 _ _ nns hna
    refine ⟨na, _, (j : Int), .str names[j], rfl, rfl, SqL.of hna1, atI_nat (by rw [List.getElem?_map, List.getElem?_eq_getElem hj]; rfl), ?_⟩
    generalize names[j] = n at on ⊢
    refine gset ?_
    dsimp only [Zq62]
    refine ⟨_, rfl, s, la, rfl, hs1, fun day H2 od hs2 sx2 => ?_⟩
    refine gset ?_
    dsimp only [Zq62]
    have sxA := sx1.trans sx2
    have F2 := F0.keep (SrcAt.n hs sxA)
    have D2 := D0.x hs nqs sxA
    clear F0 D0
    refine ⟨by show 4 <= sizeLine; lia, fun wl hwl => ?_⟩
    have S3 := Same.new (o := .lst [.str "weight", .str "dead", .str "stands_for", .str "came"]) hwl
    have k3 : (upd H2 wl (.lst [.str "weight", .str "dead", .str "stands_for", .str "came"])) wl = some (.lst [.str "weight", .str "dead", .str "stands_for", .str "came"]) := Zq7
    generalize (upd H2 wl (.lst [.str "weight", .str "dead", .str "stands_for", .str "came"])) = H3 at S3 k3 ⊢
    refine ⟨wl, rfl, ⟨_, SqL.of k3⟩, ?_⟩
    refine forW_list (ws4.map V.str) (fun i σ H' => ∃ v6 v7, σ = [some (.ref s), some (.ref L.p), some (.ref q), some (.ref na), some (.str n), some (.int day), v6, v7] /\ Same H3 H') ⟨none, none, rfl, Same.refl _⟩ (fun i σ H' _ ⟨_, _, _, e⟩ => SqL.of (e _ _ k3)) ?_ ?_
    · rintro i v σ H' hv ⟨v6, v7, rfl, sm⟩
      obtain ⟨wd, hw, rfl⟩ : ∃ wd, wd ∈ ws4 /\ v = .str wd := by
        obtain ⟨n, a, b⟩ := List.mem_map.mp (List.mem_of_getElem? hv)
        exact ⟨n, a, b.symm⟩
      have hw := ws4_mem hw
      have S := S3.trans sm
      refine ⟨_, rfl, _, rfl, _, rfl, _, rfl, q, ds, wd, n, day, rfl, D2.mono S, ?_⟩
      refine gset ?_
      dsimp only [Zq62]
      refine ⟨_, rfl, _, rfl, _, rfl, _, rfl, _, rfl, by show 3 <= sizeLine; lia, fun t ht => ?_⟩
      have S5 := Same.new (o := .tup [.str wd, .str n, .int day]) ht
      have k5 : (upd H' t (.tup [.str wd, .str n, .int day])) t = some (.tup [.str wd, .str n, .int day]) := Zq7
      generalize (upd H' t (.tup [.str wd, .str n, .int day])) = H5 at S5 k5 ⊢
      refine ⟨L, ds, wa, wd, n, day, t, rfl, k5, F2.keep (Same.n (S.trans S5)), hh, on, od, hw, fun H6 l6 S6 k6 => ?_⟩
      refine ⟨_, rfl, _, rfl, fun H7 l7 S7 k7 => ?_⟩
      refine ⟨l6, l7, _, rfl, rfl, SqL.of (S7 _ _ k6), SqL.of k7, ?_⟩
      exact ⟨_, rfl, iteF ⟨_, _, rfl, ((sm.trans S5).trans S6).trans S7⟩⟩
    · rintro σ H4 ⟨v6, v7, rfl, sm⟩
      have S := S3.trans sm
      have fin : ∀ {H'}, Same H4 H' -> SrcAt H' s la /\ SameX s H H' := fun h => ⟨hs2.keep (S.trans h), sxA.trans (S.trans h).x⟩
      have F4 := F2.keep (Same.n S)
      have D4 := D2.mono S
      refine ⟨_, rfl, _, rfl, _, rfl, q, ds, "weight", n, day, rfl, D4, rfl, _, rfl, iteD (fun z => ?_) (fun z => ?_)⟩
      · have z : Zq56 "weight" ds n day = "" := by injection z
        obtain ⟨d0, a1, hc, a3⟩ := ask_ok z
        obtain ⟨y00, y1⟩ := a1 (by decide +kernel)
        have hle := a3 rfl
        obtain ⟨wt, hw⟩ := hh.weight hc hle
        obtain ⟨l, v0, hk1, hk2⟩ := hh.told.key n d0 hc
        obtain ⟨dx6, ob6⟩ := F4.f.ob
        refine ⟨_, rfl, L.p, dx6, _, rfl, ob6, Zq52 _ _ _ _ (by decide +kernel), _, rfl, _, rfl, L, ds, wa, n, day, d0, wt, rfl, F4.f, F4.w, hh.len, y00, y1, hc, hle, hw, fun H7 s7 => ?_⟩
        refine ⟨_, rfl, _, rfl, _, rfl, q, ds, n, day, rfl, D4.mono s7, hh.told, fun last found H8 hb s8 => ?_⟩
        have hw2 := bst_isW hb hk1 hk2 hle
        have ew : found = wt := isW_det hw2 hw
        subst ew
        refine ⟨.int found, .int found, .int found, .int found, rfl, rfl, rfl, Nat.zero_le _, fun H9 s9 => ⟨_, rfl, ok ?_⟩⟩
        have T9 := (s7.trans s8).trans s9
        have F9 := F4.keep (Same.n T9)
        obtain ⟨dx9, ob9⟩ := F9.f.ob
        obtain ⟨j, m, hs1, hs2'⟩ := hh.stands n day
        refine ⟨_, rfl, L.p, dx9, _, rfl, ob9, Zq52 _ _ _ _ (by decide +kernel), _, rfl, _, rfl, L, ds, n, m, d0, day, j, rfl, F9.f, hc, y00, y1, hs1, ?_⟩
        refine ⟨_, rfl, _, rfl, _, rfl, q, ds, n, m, day, j, rfl, D4.mono T9, hs1, hs2', fun H10 s10 => ?_⟩
        refine ⟨.str m, .str m, .str m, .str m, rfl, rfl, rfl, Nat.zero_le _, fun H11 s11 => ?_⟩
        rw [sameD_refl]
        exact k _ (fin ((T9.trans s10).trans s11)).1 (fin ((T9.trans s10).trans s11)).2
      · obtain ⟨dx6, ob6⟩ := F4.f.ob
        have hcl := comers_len' ds
        have hdl := hh.len
        refine ⟨_, rfl, L.p, dx6, _, rfl, ob6, Zq52 _ _ _ _ (by decide +kernel), L, ds, wa, rfl, F4.f, F4.w, fun fl hfl => ?_⟩
        have S5 := Same.new (o := .lst ((Zq29 ds).map V.str)) hfl
        have k5 : (upd H4 fl (.lst ((Zq29 ds).map V.str))) fl = some (.lst ((Zq29 ds).map V.str)) := Zq7
        generalize (upd H4 fl (.lst ((Zq29 ds).map V.str))) = H5 at S5 k5 ⊢
        obtain ⟨vs, hq, hrep⟩ := D4.mono S5
        have hvl : vs.length = ds.length := hrep.length
        refine ⟨_, rfl, q, rfl, ⟨_, SqL.of hq⟩, ?_⟩
        refine comp_list (xs := vs) (fun i ys H' => H' = H5 /\ ys = (Zq29 (ds.take i)).map V.str) ⟨rfl, rfl⟩ (by lia) (fun i ys H' _ ⟨e, _⟩ => by rw [e]; exact SqL.of hq) (fun i ys H' ⟨_, e⟩ => by rw [e, List.length_map]; have := comers_len' (ds.take i); rw [List.length_take] at this; lia) ?_ ?_
        · rintro i x ys H' hx ⟨rfl, rfl⟩ ls hls
          obtain ⟨w0, rfl⟩ := len1 hls
          obtain ⟨y, a, hy, rfl, ha⟩ := Zq184 hrep hx
          have et := comers_take' hy
          refine ⟨⟨[_], rfl, rfl⟩, ?_⟩
          cases y with
          | come m d w' =>
            refine ⟨_, rfl, a, _, 0, .str "come", rfl, rfl, SqT.of ha, rfl, rfl, _, rfl, iteD (fun _ => ?_) (fun z => absurd rfl z)⟩
            refine ⟨_, rfl, a, _, 1, .str m, rfl, rfl, SqT.of ha, rfl, rfl, ?_⟩
            rw [et, List.map_append]
            rfl
          | rise m d w' =>
            refine ⟨_, rfl, a, _, 0, .str "rise", rfl, rfl, SqT.of ha, rfl, rfl, _, rfl, iteD (fun z => absurd z (by decide +kernel)) (fun _ => ?_)⟩
            refine ⟨rfl, ?_⟩
            rw [et, List.map_append]
            exact (List.append_nil _).symm
          | die m d w' =>
            refine ⟨_, rfl, a, _, 0, .str "die", rfl, rfl, SqT.of ha, rfl, rfl, _, rfl, iteD (fun z => absurd z (by decide +kernel)) (fun _ => ?_)⟩
            refine ⟨rfl, ?_⟩
            rw [et, List.map_append]
            exact (List.append_nil _).symm
        · rintro ys H' ⟨rfl, rfl⟩ nh hnh
          rw [hvl, List.take_length]
          have S7 := Same.new (o := .lst ((Zq29 ds).map V.str)) hnh
          have k7 : (upd H' nh (.lst ((Zq29 ds).map V.str))) nh = some (.lst ((Zq29 ds).map V.str)) := Zq7
          generalize (upd H' nh (.lst ((Zq29 ds).map V.str))) = H7 at S7 k7 ⊢
          refine ⟨.ref fl, .ref nh, .lst ((Zq29 ds).map D.str), .lst ((Zq29 ds).map D.str), rfl, ⟨fl, _, rfl, S7 _ _ k5, strs_mk _⟩, ⟨nh, _, rfl, k7, strs_mk _⟩, deep_strs _, fun H8 s8 => ?_⟩
          rw [sameD_refl]
          exact k _ (fin ((S5.trans S7).trans s8)).1 (fin ((S5.trans S7).trans s8)).2
end
section
variable {P : Program} {w : World} {K : PySem.W.Frag} {mg : Str -> Option Value} {base : Heap} {C : Addr} {c : Str -> Addr}
instance (n : Str) : Decidable (okN n) := by unfold okN; exact inferInstance
theorem okN_name {n : Str} (h : Zq138 n) : okN n := ⟨by have := h.2.2; lia, fun x hx => by have := h.1 x hx; lia⟩
theorem okN_more {n : Str} (h : Zq138 n) : okN (n ++ " ") := by
  refine ⟨by rw [PySem.Str.length_append]; have := h.2.2; show n.length + 1 <= 100; lia, fun x hx => ?_⟩
  have e : (n ++ (" " : Str)).cps.toList = cs n ++ cs " " := cs_app n " "
  rw [e] at hx
  rcases List.mem_append.mp hx with z | z
  · have := h.1 x z; lia
  · have : x = 32 := by
      have e2 : cs " " = [32] := by decide +kernel
      rw [e2] at z
      exact List.mem_singleton.mp z
    lia
theorem filter_grow {α : Type} {p q : α -> Bool} {n : α} : ∀ {l : List α}, (∀ x, p x = true -> q x = true) -> n ∈ l -> p n = false -> q n = true -> (l.filter p).length + 1 <= (l.filter q).length
  | [], _, h, _, _ => nomatch h
  | a :: l, hpq, h, h1, h2 => by
    have le : ∀ l : List α, (l.filter p).length <= (l.filter q).length := fun l => by
      induction l with
      | nil => exact Nat.le_refl _
      | cons b r ih =>
        by_cases e : p b = true
        · rw [List.filter_cons_of_pos e, List.filter_cons_of_pos (hpq b e), List.length_cons, List.length_cons]; lia
        · rw [List.filter_cons_of_neg e]
          by_cases e2 : q b = true
          · rw [List.filter_cons_of_pos e2, List.length_cons]; lia
          · rw [List.filter_cons_of_neg e2]; exact ih
    rcases List.mem_cons.mp h with rfl | h
    · rw [List.filter_cons_of_neg (by rw [h1]; decide), List.filter_cons_of_pos h2, List.length_cons]
      exact Nat.succ_le_succ (le l)
    · have ih := filter_grow hpq h h1 h2
      by_cases e : p a = true
      · rw [List.filter_cons_of_pos e, List.filter_cons_of_pos (hpq a e), List.length_cons, List.length_cons]; lia
      · rw [List.filter_cons_of_neg e]
        by_cases e2 : q a = true
        · rw [List.filter_cons_of_pos e2, List.length_cons]; lia
        · rw [List.filter_cons_of_neg e2]; exact ih
theorem Hs.nil : Hs [] := ⟨Told.nil, ⟨0, ⟨fun _ => 0, (fun n x h => by cases h), fun _ _ => rfl, fun _ => Nat.le_refl _⟩, Nat.zero_le _⟩, Nat.zero_le _, Nat.zero_le _, fun n d h => by cases h⟩
theorem Ranked.same {ds ds' : List Deed} {i : Nat} (R : Ranked ds i) (h : ∀ n, Zq20 ds' n = Zq20 ds n) : Ranked ds' i := by
  obtain ⟨r, a, b, c⟩ := R
  exact ⟨r, fun n x e => a n x (by rw [← h]; exact e), fun n e => b n (by rw [← h]; exact e), c⟩
theorem Hs.snoc {ds : List Deed} {x : Deed} (h : Hs ds) (hd : dueD ds x = "") (hl : ds.length + 1 <= 1000) : Hs (ds ++ [x]) := by
  obtain ⟨i, R, hi⟩ := h.rank
  have ll : (ds ++ [x]).length <= 1000 := by rw [List.length_append]; exact hl
  cases x with
  | come n d w =>
    obtain ⟨a1, a2, a3, a4, a5, a6, a7⟩ := come_ok hd
    have e : Zq29 (ds ++ [.come n d w]) = Zq29 ds ++ [n] := Zq129 _ _
    refine ⟨h.told.come a6 a2, ⟨i, R.same fun m => dieOf_come m, ?_⟩, by rw [e, List.length_append]; exact a7, ll, fun m y hm => ?_⟩
    · have e2 : (fun m => (Zq20 (ds ++ [.come n d w]) m).isSome) = fun m => (Zq20 ds m).isSome := funext fun m => by rw [dieOf_come]
      rw [e2, e, List.filter_append, List.length_append]; lia
    · rw [comOf_come a6] at hm
      by_cases z : m = n
      · rw [if_pos z] at hm; cases hm; exact a2
      · rw [if_neg z] at hm; exact h.c0 m y hm
  | rise n d w =>
    obtain ⟨d0, a1, a2, a3, a4, a5, a6, a7⟩ := rise_ok hd
    have e : Zq29 (ds ++ [.rise n d w]) = Zq29 ds := by rw [Zq129]; exact List.append_nil _
    refine ⟨h.told.rise a5 a1, ⟨i, R.same fun m => dieOf_rise m, ?_⟩, by rw [e]; exact h.few, ll, fun m y hm => h.c0 m y (by rw [comOf_rise] at hm; exact hm)⟩
    have e2 : (fun m => (Zq20 (ds ++ [.rise n d w]) m).isSome) = fun m => (Zq20 ds m).isSome := funext fun m => by rw [dieOf_rise]
    rw [e2, e]; exact hi
  | die n d he =>
    obtain ⟨d1, d2, a1, a2, a3, a4, a5, a6, a7, a8, a9⟩ := die_ok hd
    have e : Zq29 (ds ++ [.die n d he]) = Zq29 ds := by rw [Zq129]; exact List.append_nil _
    refine ⟨h.told.die, ⟨i + 1, R.die a7 a8 a9, ?_⟩, by rw [e]; exact h.few, ll, fun m y hm => h.c0 m y (by rw [comOf_die] at hm; exact hm)⟩
    rw [e]
    refine Nat.le_trans (Nat.succ_le_succ hi) (filter_grow (n := n) (fun m hm => ?_) (comers_mem.mpr ⟨_, a3⟩) (by rw [a7]; rfl) (by rw [dieOf_die a7, if_pos rfl]; rfl))
    rw [dieOf_die a7]
    by_cases z : m = n
    · rw [if_pos z]; rfl
    · rw [if_neg z]; exact hm
theorem DR.app {H : Hp} {b : List Deed} {vb : List V} (hb : DR H b vb) : ∀ {a : List Deed} {va : List V}, DR H a va -> DR H (a ++ b) (va ++ vb)
  | [], va, h => by cases h; exact hb
  | x :: a, va, ⟨p, vs', e, h1, h2⟩ => by subst e; exact ⟨p, vs' ++ vb, rfl, h1, DR.app hb h2⟩
structure W23 (C : Addr) (H : Hp) (s la na q rl : Addr) (names : List Str) (rows : List Deed) (vs : List V) (L : FL) (ds : List Deed) (wa : Str -> Addr) : Prop where
  sr : SrcAt H s la
  nm : H na = some (.lst (names.map V.str))
  fk : Fk C H L ds wa
  dd : DeedsAt H q ds
  rl : H rl = some (.lst vs)
  rr : DR H rows vs
theorem W23.x {H H' : Hp} {s la na q rl : Addr} {names : List Str} {rows : List Deed} {vs : List V} {L : FL} {ds : List Deed} {wa : Str -> Addr} (W : W23 C H s la na q rl names rows vs L ds wa) (n1 : na ≠ s) (n2 : q ≠ s) (n3 : rl ≠ s) (k : SameX s H H') (hs : SrcAt H' s la) : W23 C H' s la na q rl names rows vs L ds wa := by
  obtain ⟨_, _, _, _, _, h1, _⟩ := id W.sr
  exact ⟨hs, k _ _ n1 W.nm, W.fk.keep (SrcAt.n W.sr k), W.dd.x W.sr n2 k, k _ _ n3 W.rl, W.rr.mono fun b xs e => k _ _ (fun z => by rw [z, h1] at e; cases e) e⟩
theorem W23.same {H H' : Hp} {s la na q rl : Addr} {names : List Str} {rows : List Deed} {vs : List V} {L : FL} {ds : List Deed} {wa : Str -> Addr} (W : W23 C H s la na q rl names rows vs L ds wa) (k : Same H H') : W23 C H' s la na q rl names rows vs L ds wa :=
  ⟨W.sr.keep k, k _ _ W.nm, W.fk.keep (Same.n k), W.dd.mono k, k _ _ W.rl, W.rr.mono fun b xs e => k _ _ e⟩
theorem W23.down {H H' : Hp} {s la na q rl t : Addr} {names : List Str} {rows : List Deed} {vs us : List V} {L : FL} {ds : List Deed} {x : Deed} {wa wa' : Str -> Addr} (W : W23 C H s la na q rl names rows vs L ds wa) (k : SameLT H H') (f : Fk C H' L (ds ++ [x]) wa')
    (n1 : q ≠ s) (n2 : q ≠ la) (n3 : q ≠ na) (n4 : q ≠ rl) (hq : H' q = some (.lst us)) (hr : DR H' ds us) (ht : H' t = some (.tup (Zq172 x))) : W23 C (L2.upd H' q (.lst (us ++ [.ref t]))) s la na q rl names rows vs L (ds ++ [x]) wa' := by
  have kt : ∀ b xs, H' b = some (.tup xs) -> (L2.upd H' q (.lst (us ++ [.ref t]))) b = some (.tup xs) := fun b xs e => by rw [Zq6 (fun z => by rw [z, hq] at e; cases e)]; exact e
  exact ⟨(SrcAt.lt W.sr k).keepX SameX.upd n1 n2, by rw [Zq6 n3.symm]; exact k.1 _ _ W.nm, f.keep (SameN.upd hq), ⟨_, Zq7, DR.snoc (kt _ _ ht) (hr.mono kt)⟩, by rw [Zq6 n4.symm]; exact k.1 _ _ W.rl, (W.rr.mono k.2).mono kt⟩
theorem deed0 (x : Deed) : atI (Zq172 x) 0 = some (.str (wdD x)) := by cases x <;> rfl
abbrev Zq78 : Stmt := top 47
theorem sc_law : FnScope ["_law_script", "_law_src_here", "_law_names_here", "_law_odd", "_law_folk", "_law_deeds", "_law_rows", "_law_deed", "_law_due"] ["_law_script"] (Zq1 Zq78) := ⟨rfl, rfl, rfl, by decide +kernel, rfl, by decide +kernel, by decide +kernel⟩
theorem Nq245 : Nm (Zq1 Zq78) "Folk" .globalImplicit := by decide +kernel
theorem Nq246 : Nm (Zq1 Zq78) "_law_asked_right" .globalImplicit := by decide +kernel
theorem Nq46 : Nm (Zq1 Zq78) "_law_deed" .local := by decide +kernel
theorem Nq77 : Nm (Zq1 Zq78) "_law_deeds" .local := by decide +kernel
theorem Nq107 : Nm (Zq1 Zq78) "_law_due" .local := by decide +kernel
theorem Nq108 : Nm (Zq1 Zq78) "_law_folk" .local := by decide +kernel
theorem Nq247 : Nm (Zq1 Zq78) "_law_folk_due" .globalImplicit := by decide +kernel
theorem Nq248 : Nm (Zq1 Zq78) "_law_folk_kinds" .globalImplicit := by decide +kernel
theorem Nq249 : Nm (Zq1 Zq78) "_law_folk_names" .globalImplicit := by decide +kernel
theorem Nq179 : Nm (Zq1 Zq78) "_law_names" .globalImplicit := by decide +kernel
theorem Nq37 : Nm (Zq1 Zq78) "_law_names_here" .cell := by decide +kernel
theorem Nq78 : Nm (Zq1 Zq78) "_law_next" .globalImplicit := by decide +kernel
theorem Nq180 : Nm (Zq1 Zq78) "_law_odd" .local := by decide +kernel
theorem Nq79 : Nm (Zq1 Zq78) "_law_rows" .local := by decide +kernel
theorem Nq250 : Nm (Zq1 Zq78) "_law_script" .local := by decide +kernel
theorem Nq251 : Nm (Zq1 Zq78) "_law_src" .globalImplicit := by decide +kernel
theorem Nq12 : Nm (Zq1 Zq78) "_law_src_here" .cell := by decide +kernel
theorem Nq252 : Nm (Zq1 Zq78) "range" .globalImplicit := by decide +kernel
theorem f_law {f : Addr} {fd : FuncData} (F_law : Fun K "law" "law" Zq78 f fd) (T : Txt mg) (Tc : TxC K C) (Zq318 : Fn P w K mg base "_law_src" ["_law_script"] 1 (spSrc K)) (Zq25 : Fn P w K mg base "_law_next" ["_law_src_here", "_law_base"] 1 Zq182)
    (Zq263 : Fn P w K mg base "_law_names" ["_law_src_here", "_law_many"] 3 spNames) (M_Folk : Mks P w K mg base C "Folk" 1 (spInit C)) (Zq271 : Fn P w K mg base "_law_folk_deed" ["_law_src_here", "_law_names_here"] 4 spFDeed)
    (Zq250 : Fn P w K mg base "_law_day" ["_law_src_here"] 2 spLDay) (Zq278 : Fn P w K mg base "_law_folk_due" ["_law_deeds", "_law_deed"] 4 spDue) (Zq176 : Fn P w K mg base "_law_folk_kinds" ["_law_word_here", "_law_folk", "_law_deed"] 6 (spKindD C))
    (Zq177 : Fn P w K mg base "_law_folk_names" ["_law_name"] 1 spNms) (Zq264 : Fn P w K mg base "_law_asked_right" ["_law_src_here", "_law_folk", "_law_deeds", "_law_names_here"] 7 (spAsked C)) :
    FnOk P w K mg base CX0 9 f fd ["_law_script"] (spLaw K) := by
  refine F_law.okQ sc_law (fun vs H Q E h => ?_) (fun cdv A outer s H vs Q E hr h => ?_)
  · obtain ⟨a, ns, rfl, _⟩ := h
    rfl
  · obtain ⟨a, ns, rfl, hS, hlen, k⟩ := h
    refine ⟨_, (Zq3 (qs_setNC (i := 1) sc_law.nd Nq12 (Zq17 Zq318 (hr.mono (by lia)) Nq251 (Zq0 (qvN 0 Nq250) Zq2)))
 (Zq3 (qs_setNC (i := 2) sc_law.nd Nq37 (Zq17 Zq263 (hr.mono (by lia)) Nq179 (Zq0 (qvC 1 Nq12) (Zq0 (Zq35 Zq122 Zq4 (Zq17 Zq25 (hr.mono (by lia)) Nq78 (Zq0 (qvC 1 Nq12) (Zq0 Zq4 Zq2)))) Zq2))))
 (Zq3 (Zq26 (i := 3) sc_law.nd Nq180 (Zq15 Zq36 (Zq49 (Zq0 Zq14 (Zq0 Zq14 (Zq0 Zq14 (Zq0 (Zq35 qop_add_str (Zq15 Zq36 (qvC 2 Nq37) Zq4 (fun _ _ => rfl)) Zq14) (Zq0 Zq14 (Zq0 Zq14 (Zq0 Zq14 Zq2)))))))) (Zq17 Zq25 (hr.mono (by lia)) Nq78 (Zq0 (qvC 1 Nq12) (Zq0 Zq4 Zq2))) (fun _ _ => rfl)))
 (Zq3 (qs_setNC (i := 2) sc_law.nd Nq37 (Zq35 Zq205 (qvC 2 Nq37) (Zq49 (Zq0 (qvN 3 Nq180) Zq2))))
 (Zq3 (Zq26 (i := 4) sc_law.nd Nq108 (qe_mks M_Folk (hr.mono (by lia)) Nq245))
 (Zq3 (Zq26 (i := 5) sc_law.nd Nq77 (Zq49 Zq2))
 (Zq3 (qs_setC (locs := ["_law_k"]) (fr := [("_law_src_here", 1), ("_law_names_here", 2)]) ⟨rfl, by decide +kernel, by decide +kernel, by decide +kernel, by decide +kernel, by decide +kernel⟩ (.consN Nq12 (.consN Nq37 .nil)) rfl (qi_range1 Nq252.1 T.range (Zq0 (Zq17 Zq25 (hr.mono (by lia)) Nq78 (Zq0 (qvC 1 Nq12) (Zq0 Zq4 Zq2))) Zq2)) ⟨fun _ _ _ _ _ _ => by
    have cnd : (inN ["_law_k"] [("_law_src_here", 1), ("_law_names_here", 2)]).Nodup := by decide +kernel
    exact ⟨(qgLN 0 cnd), qts_nil, (Zq17 Zq271 (hr.mono (by lia)) nmC (Zq0 (qvFN 1) (Zq0 (qvFN 2) Zq2)))⟩⟩ sc_law.nd Nq79 (by rfl) (i := 6))
 (Zq3 (Zq19 (Zq8 Zq30 (Zq17 Zq25 (hr.mono (by lia)) Nq78 (Zq0 (qvC 1 Nq12) (Zq0 Zq4 Zq2))) Zq4 (Zq12 _)) (Zq5 (Zq26 (i := 6) sc_law.nd Nq79 (Zq35 Zq205 (qvN 6 Nq79) (Zq158 (locs := ["_law_name"]) (fr := [("_law_src_here", 1)]) ⟨rfl, by decide +kernel, by decide +kernel, by decide +kernel, by decide +kernel, by decide +kernel⟩ (.consN Nq12 .nil) rfl (Zq168 (Zq17 Zq263 (hr.mono (by lia)) Nq179 (Zq0 (qvC 1 Nq12) (Zq0 Zq4 Zq2)))) ⟨fun _ _ _ _ _ _ => by
    have cnd : (inN ["_law_name"] [("_law_src_here", 1)]).Nodup := by decide +kernel
    exact ⟨(qgLN 0 cnd), qts_nil, (qe_tup (Zq0 Zq14 (Zq0 (qvLN 0) (Zq0 (Zq17 Zq250 (hr.mono (by lia)) nmC (Zq0 (qvFN 1) Zq2)) (Zq0 Zq4 Zq2)))))⟩⟩)))) Zq10)
 (Zq3 (Zq178 PassesOwn.never rfl (Zq168 (qvN 6 Nq79)) (Zq118 (i := 7) sc_law.nd Nq46)
  (Zq3 (Zq26 (i := 8) sc_law.nd Nq107 (Zq17 Zq278 (hr.mono (by lia)) Nq247 (Zq0 (qvN 5 Nq77) (Zq0 (qvN 7 Nq46) Zq2))))
 (Zq3 (Zq19 (Zq8 (qop_neBls hr) (Zq17 Zq176 (hr.mono (by lia)) Nq248 (Zq0 (Zq15 Zq16 (qvN 7 Nq46) Zq4 (fun _ _ => rfl)) (Zq0 (qvN 4 Nq108) (Zq0 (qvN 7 Nq46) Zq2)))) (Zq17 Zq177 (hr.mono (by lia)) Nq249 (Zq0 (qvN 8 Nq107) Zq2)) (Zq12 _)) (Zq5 (Zq11 Zq169)) Zq10)
 (Zq3 (Zq19 (Zq8 Zq30 (qvN 8 Nq107) Zq14 (Zq12 _)) (Zq5 (Zq23 (qe_bm F.plainAttrs_list F.slot_list_append F.type_list_append qmt_append (qvN 5 Nq77) (Zq0 (qvN 7 Nq46) Zq2)))) Zq10)
 (Zq5 (Zq19 (Zq145 (Zq126 (Zq17 Zq264 (hr.mono (by lia)) Nq246 (Zq0 (qvC 1 Nq12) (Zq0 (qvN 4 Nq108) (Zq0 (qvN 5 Nq77) (Zq0 (qvC 2 Nq37) Zq2))))))) (Zq5 (Zq11 Zq169)) Zq10))))))
 (Zq5 (Zq11 Zq169))))))))))), ?_⟩
    have hz : (5000 : Nat) <= sizeLine := by decide
    refine ⟨_, rfl, a, ns, rfl, hS, fun s la H1 hs hla hs1 sm1 => ?_⟩
    refine ⟨_, rfl, _, rfl, s, la, 4, rfl, hs1, by decide, by decide, fun d H2 d0 d1 hs2 sx2 => ?_⟩
    refine ⟨_, _, rfl, rfl, s, la, _, rfl, hs2, by lia, by lia, fun nb names H3 hnl hnd hnm hnf hnb hs3 sx3 => ?_⟩
    have nnb := (hs2.ne hnf).1
    have hl4 : 4 <= names.length := by lia
    have hl8 : names.length <= 8 := by lia
    obtain ⟨n0, hn0⟩ : ∃ n0, names[0]? = some n0 := ⟨_, List.getElem?_eq_getElem (by lia)⟩
    have in0 := hnm n0 (List.mem_of_getElem? hn0)
    refine ⟨_, rfl, nb, _, 0, .str n0, rfl, rfl, SqL.of hnb, atI_nat (j := 0) (by rw [List.getElem?_map, hn0]; rfl), n0, " ", rfl, rfl, ?_, ?_, fun ol hol => ?_⟩
    · have := in0.2.2
      show n0.length + 1 <= sizeLine
      lia
    · show 7 <= sizeLine
      lia
    have odd7 : ∀ d : Int, 0 <= d -> d < 7 -> ∃ o : Str, atI [V.str "", .str "Ann", .str "a b", .str (n0 ++ " "), .str "abcdefghijklm", .str "a1", .str "~"] d = some (.str o) /\ okN o := fun d e0 e1 => by
      have : d = 0 \/ d = 1 \/ d = 2 \/ d = 3 \/ d = 4 \/ d = 5 \/ d = 6 := by lia
      rcases this with rfl | rfl | rfl | rfl | rfl | rfl | rfl
      · exact ⟨"", rfl, by decide +kernel⟩
      · exact ⟨"Ann", rfl, by decide +kernel⟩
      · exact ⟨"a b", rfl, by decide +kernel⟩
      · exact ⟨n0 ++ " ", rfl, okN_more in0⟩
      · exact ⟨"abcdefghijklm", rfl, by decide +kernel⟩
      · exact ⟨"a1", rfl, by decide +kernel⟩
      · exact ⟨"~", rfl, by decide +kernel⟩
    have nos := (hs3.ne hol).1
    refine ⟨_, rfl, s, la, 7, rfl, hs3.keep (Same.new hol), by decide, by decide, fun d5 H5 e50 e51 hs5 sx5 => ?_⟩
    have k5 := sx5 ol _ nos Zq7
    obtain ⟨odd, ho1, ho2⟩ := odd7 d5 e50 e51
    have hnb5 := sx5 _ _ nnb (Same.new (o := .lst [V.str "", .str "Ann", .str "a b", .str (n0 ++ " "), .str "abcdefghijklm", .str "a1", .str "~"]) hol _ _ hnb)
    refine ⟨ol, _, d5, .str odd, rfl, rfl, SqL.of k5, ho1, ?_⟩
    refine gset ?_
    dsimp only [Zq62]
    clear ho1 odd7 k5 sx5
    refine ⟨_, rfl, _, rfl, by show 1 <= sizeLine; lia, fun l1 hl1 => ?_⟩
    refine ⟨nb, l1, _, _, rfl, rfl, Same.new (o := .lst [.str odd]) hl1 _ _ hnb5, Zq7, by rw [List.length_map]; show names.length + 1 <= sizeLine; lia, fun na hna0 => ?_⟩
    have e8 : names.map V.str ++ [V.str odd] = (names ++ [odd]).map V.str := by rw [List.map_append]; rfl
    rw [e8]
    have hs7 := hs5.keep (Same.new (o := .lst [.str odd]) hl1)
    have nns := (hs7.ne hna0).1
    have S8 := Same.new (o := .lst ((names ++ [odd]).map V.str)) hna0
    have hna : (upd (upd H5 l1 (.lst [.str odd])) na (.lst ((names ++ [odd]).map V.str))) na = some (.lst ((names ++ [odd]).map V.str)) := Zq7
    generalize (upd (upd H5 l1 (.lst [.str odd])) na (.lst ((names ++ [odd]).map V.str))) = H8 at S8 hna ⊢
    have hs8 := hs7.keep S8
    have hok : ∀ n ∈ names ++ [odd], okN n := fun n hn => by
      rcases List.mem_append.mp hn with z | z
      · exact okN_name (hnm n z)
      · rw [List.mem_singleton.mp z]; exact ho2
    have hl1' : 1 <= (names ++ [odd]).length := by rw [List.length_append]; lia
    have hl2' : (names ++ [odd]).length <= 100 := by rw [List.length_append, List.length_singleton]; lia
    generalize names ++ [odd] = nm at hok hl1' hl2' hna
    refine gset ?_
    dsimp only [Zq62]
    intro x dx nx ndx nex
    refine ⟨x, dx, rfl, Zq7, fun L H9 eL F9 kp => ⟨rfl, ?_⟩⟩
    subst eL
    have sm9 : Same H8 H9 := fun b o e => kp b o (by rw [Zq6 (Zq13 e nx), Zq6 (Zq13 e ndx)]; exact e) (Zq13 e nx)
    have K9 : Fk C H9 L [] (fun _ => 0) := by
      obtain ⟨kv, w1, w2⟩ := F9.w
      exact ⟨F9, WtsAt.start F9, kv, w1, fun p hp => by rw [List.eq_nil_of_length_eq_zero (Nat.le_zero.mp w2)] at hp; cases hp⟩
    refine ⟨by show 0 <= sizeLine; lia, fun q hq => ?_⟩
    have S10 := Same.new (o := .lst []) hq
    have k10 : (upd H9 q (.lst [])) q = some (.lst []) := Zq7
    have hs9 := hs8.keep sm9
    obtain ⟨nq1, nq2⟩ := hs9.ne hq
    have nqn : q ≠ na := (Zq13 (sm9 _ _ hna) hq).symm
    generalize (upd H9 q (.lst [])) = H10 at S10 k10 ⊢
    have hs10 := hs9.keep S10
    have hna10 := S10 _ _ (sm9 _ _ hna)
    have K10 := K9.keep (Same.n S10)
    clear K9 F9 kp
    refine gset ?_
    dsimp only [Zq62]
    refine ⟨_, rfl, s, la, 25, rfl, hs10, by decide, by decide, fun d11 H11 f0 f1 hs11 sx11 => ?_⟩
    refine ⟨_, rfl, by lia, by lia, ?_⟩
    refine comp_range (n := d11.toNat) (fun i ys H' => SrcAt H' s la /\ SameX s H10 H' /\ ∃ rows, DR H' rows ys /\ rows.length = i /\ ∀ x ∈ rows, okD x) ⟨hs11, sx11, [], rfl, rfl, fun x hx => nomatch hx⟩ (by lia) ?_ ?_ ?_
    · rintro i ys H' ⟨_, _, rows, h1, h2, _⟩
      rw [h1.length, h2]; exact Nat.le_refl _
    · rintro i ys H' hi ⟨hs', sx', rows, h1, h2, h3⟩ ls hls
      obtain ⟨w0, rfl⟩ := len1 hls
      refine ⟨⟨[_], rfl, rfl⟩, ?_⟩
      refine ⟨_, rfl, _, rfl, s, la, na, nm, rfl, hs', sx' _ _ nns hna10, nns, hl1', hl2', hok, fun x t H2' ox ht hs2' sx2' => ?_⟩
      have hs'' := hs'
      obtain ⟨_, _, _, _, _, hsl, _⟩ := hs''
      refine ⟨hs2', sx'.trans sx2', rows ++ [x], DR.snoc ht (h1.mono fun b xs e => sx2' _ _ (fun z => by rw [z, hsl] at e; cases e) e), by rw [List.length_append, h2]; rfl, fun y hy => ?_⟩
      rcases List.mem_append.mp hy with z | z
      · exact h3 y z
      · rw [List.mem_singleton.mp z]; exact ox
    · rintro ys H12 ⟨hs12, sx12, rows, hr12, hrl, hro⟩ rl hrl0
      have hrl24 : rows.length <= 24 := by lia
      have S13 := Same.new (o := .lst ys) hrl0
      have k13 : (upd H12 rl (.lst ys)) rl = some (.lst ys) := Zq7
      have hq12 := sx12 _ _ nq1 k10
      have hna12 := sx12 _ _ nns hna10
      have nrs := (hs12.ne hrl0).1
      generalize (upd H12 rl (.lst ys)) = H13 at S13 k13 ⊢
      have hs13 := hs12.keep S13
      have hr13 := hr12.mono fun b xs e => S13 _ _ e
      have K13 := (K10.keep (SrcAt.n hs10 sx12)).keep (Same.n S13)
      have hq13 := S13 _ _ hq12
      have hna13 := S13 _ _ hna12
      refine gset ?_
      dsimp only [Zq62]
      refine (?_ : tSeq _ _ _ _ _)
      refine seq_cut (fun σ' H' => ∃ (rl : Addr) (rows : List Deed) (vs : List V), σ' = [some (.ref a), some (.ref s), some (.ref na), some (.str odd), some (.ref L.p), some (.ref q), some (.ref rl), none, none] /\ W23 C H' s la na q rl nm rows vs L [] (fun _ => 0) /\ rl ≠ s /\ rl ≠ q /\ rows.length <= 65 /\ ∀ x ∈ rows, okD x) ?_ ?_
      · rintro σ' H14 ⟨rl, rows, vs, rfl, W0, nrs, nrq, hrl65, hro⟩
        have hvl : vs.length = rows.length := W0.rr.length
        refine ⟨_, rfl, rl, rfl, ⟨_, SqL.of W0.rl⟩, ?_⟩
        refine forW_list vs (fun i σ H' => ∃ v7 v8 ds wa, σ = [some (.ref a), some (.ref s), some (.ref na), some (.str odd), some (.ref L.p), some (.ref q), some (.ref rl), v7, v8] /\ W23 C H' s la na q rl nm rows vs L ds wa /\ Hs ds /\ ds.length <= i) ⟨none, none, [], _, rfl, W0, Hs.nil, Nat.le_refl _⟩ (fun i σ H' _ ⟨_, _, _, _, _, W, _⟩ => SqL.of W.rl) ?_ ?_
        · rintro i v σ H' hv ⟨v7, v8, ds, wa, rfl, W, hh, hdl⟩
          obtain ⟨x, t, hx, rfl, ht⟩ := Zq184 W.rr hv
          have hi : i < rows.length := (List.getElem?_eq_some_iff.mp hx).1
          have ox := hro x (List.mem_of_getElem? hx)
          refine ⟨_, rfl, _, rfl, q, t, ds, x, rfl, W.dd, ht, ox, by lia, fun H1 S1 => ?_⟩
          refine gset ?_
          dsimp only [Zq62]
          have W1 := W.same S1
          have ht1 := S1 _ _ ht
          refine ⟨_, rfl, t, _, 0, .str (wdD x), rfl, rfl, SqT.of ht1, deed0 x, _, rfl, _, rfl, L, ds, wa, x, t, rfl, ht1, W1.fk, hh, ox, fun hd wa' H2 l F2 T2 k2 => ?_, fun hd H2 l S2 k2 => ?_⟩
          · refine ⟨_, rfl, _, rfl, fun H3 l3 S3 k3 => ?_⟩
            rw [hd, kindL_nil] at k3
            refine ⟨l, l3, [], rfl, rfl, SqL.of (S3 _ _ k2), SqL.of k3, _, rfl, iteF ?_⟩
            have lt := Touch.lt W1.fk T2
            have lt3 : SameLT H1 H3 := ⟨fun b xs e => S3 _ _ (lt.1 b xs e), fun b xs e => S3 _ _ (lt.2 b xs e)⟩
            obtain ⟨us, hq, hr⟩ := id W1.dd
            have hq3 := lt3.1 _ _ hq
            have hul := hr.length
            refine ⟨_, rfl, rfl, _, rfl, iteD (fun _ => ?_) (fun z => absurd (by rw [hd]) z)⟩
            refine ⟨_, rfl, .inl ⟨rfl, _, SqL.of hq3⟩, _, rfl, q, us, _, rfl, rfl, hq3, by lia, ?_⟩
            have W4 := W1.down lt3 (F2.keep (Same.n S3)) nq1 nq2 nqn nrq.symm hq3 (hr.mono lt3.2) (lt3.2 _ _ ht1)
            have h4 := hh.snoc hd (by lia)
            generalize (upd H3 q (.lst (us ++ [.ref t]))) = H4 at W4 ⊢
            refine ⟨_, rfl, _, rfl, _, rfl, _, rfl, s, la, q, na, L, ds ++ [x], wa', nm, rfl, W4.sr, W4.fk, W4.dd, h4, W4.nm, nns, nq1, hl1', hl2', hok, fun H5 hs5 sx5 => ?_⟩
            exact ⟨_, rfl, iteF ⟨_, _, _, _, rfl, W4.x nns nq1 nrs sx5 hs5, h4, by rw [List.length_append, List.length_singleton]; lia⟩⟩
          · refine ⟨_, rfl, _, rfl, fun H3 l3 S3 k3 => ?_⟩
            rw [kindL_ne hd] at k3
            refine ⟨l, l3, kindB (dueD ds x), rfl, rfl, SqL.of (S3 _ _ k2), SqL.of k3, _, rfl, iteF ?_⟩
            have W4 := W1.same (S2.trans S3)
            refine ⟨_, rfl, rfl, _, rfl, iteD (fun z => absurd (by injection z) hd) (fun _ => ?_)⟩
            refine ⟨_, rfl, _, rfl, _, rfl, _, rfl, s, la, q, na, L, ds, wa, nm, rfl, W4.sr, W4.fk, W4.dd, hh, W4.nm, nns, nq1, hl1', hl2', hok, fun H5 hs5 sx5 => ?_⟩
            exact ⟨_, rfl, iteF ⟨_, _, _, _, rfl, W4.x nns nq1 nrs sx5 hs5, hh, by lia⟩⟩
        · rintro σ H' _
          exact k H'
      · intro D' hD _ _ _
        have W13 : W23 C H13 s la na q rl nm rows ys L [] (fun _ => 0) := ⟨hs13, hna13, K13, ⟨[], hq13, rfl⟩, k13, hr13⟩
        have nrq : rl ≠ q := (Zq13 hq12 hrl0).symm
        refine ⟨_, rfl, s, la, 4, rfl, hs13, by decide, by decide, fun d14 H14 _ _ hs14 sx14 => ?_⟩
        have W14 := W13.x nns nq1 nrs sx14 hs14
        refine ⟨rfl, _, rfl, iteD (fun _ => ?_) (fun _ => hD _ _ ⟨rl, rows, ys, rfl, W14, nrs, nrq, by lia, hro⟩)⟩
        refine ⟨_, rfl, _, rfl, s, la, 41, rfl, hs14, by decide, by decide, fun nc names2 H15 hn1 _ hnm2 hncf hnc hs15 sx15 => ?_⟩
        have W15 := W14.x nns nq1 nrs sx15 hs15
        have nnc := (hs14.ne hncf).1
        have h41 : names2.length = 41 := by lia
        refine ⟨nc, rfl, ⟨_, SqL.of hnc⟩, ?_⟩
        refine comp_list (xs := names2.map V.str) (fun i ys H' => SrcAt H' s la /\ SameX s H15 H' /\ ∃ more, DR H' more ys /\ more.length = i /\ ∀ x ∈ more, okD x) ⟨hs15, SameX.refl, [], rfl, rfl, fun x hx => nomatch hx⟩ (by rw [List.length_map]; lia) (fun i ys H' _ ⟨_, sx, _⟩ => SqL.of (sx _ _ nnc hnc)) ?_ ?_ ?_
        · rintro i ys H' ⟨_, _, rows, h1, h2, _⟩
          rw [h1.length, h2]; exact Nat.le_refl _
        · rintro i v ys H' hv ⟨hs', sx', more, h1, h2, h3⟩ ls hls
          obtain ⟨w0, rfl⟩ := len1 hls
          rw [List.getElem?_map] at hv
          obtain ⟨n, hn, rfl⟩ := Option.map_eq_some_iff.mp hv
          have on := okN_name (hnm2 n (List.mem_of_getElem? hn))
          refine ⟨⟨[_], rfl, rfl⟩, ?_⟩
          refine ⟨_, rfl, _, rfl, s, la, rfl, hs', fun dd H2' dd0 dd1 hs2' sx2' => ?_⟩
          refine ⟨by show 4 <= sizeLine; lia, fun t ht => ?_⟩
          obtain ⟨_, _, _, _, _, hsl, _⟩ := id hs'
          have S' := Same.new (o := .tup [.str "come", .str n, .int dd, .int 5]) ht
          have kt : (upd H2' t (.tup [.str "come", .str n, .int dd, .int 5])) t = some (.tup (Zq172 (.come n dd 5))) := Zq7
          generalize (upd H2' t (.tup [.str "come", .str n, .int dd, .int 5])) = H3' at S' kt ⊢
          refine ⟨hs2'.keep S', (sx'.trans sx2').trans S'.x, more ++ [Deed.come n dd 5], DR.snoc kt (h1.mono fun b xs e => S' _ _ (sx2' _ _ (fun z => by rw [z, hsl] at e; cases e) e)), by rw [List.length_append, h2]; rfl, fun y hy => ?_⟩
          rcases List.mem_append.mp hy with z | z
          · exact h3 y z
          · rw [List.mem_singleton.mp z]; exact ⟨on, by unfold okI; lia, by decide⟩
        · rintro ys2 H16 ⟨hs16, sx16, more, hm16, hml, hmo⟩ l2 hl2
          have W16 := W15.x nns nq1 nrs sx16 hs16
          have S17 := Same.new (o := .lst ys2) hl2
          have k17 : (upd H16 l2 (.lst ys2)) l2 = some (.lst ys2) := Zq7
          generalize (upd H16 l2 (.lst ys2)) = H17 at S17 k17 ⊢
          have W17 := W16.same S17
          have hyl := hr12.length
          have hyl2 := hm16.length
          rw [List.length_map] at hml
          refine ⟨rl, l2, ys, ys2, rfl, rfl, W17.rl, k17, by lia, fun l3 hl3 => ?_⟩
          have S18 := Same.new (o := .lst (ys ++ ys2)) hl3
          have k18 : (upd H17 l3 (.lst (ys ++ ys2))) l3 = some (.lst (ys ++ ys2)) := Zq7
          generalize (upd H17 l3 (.lst (ys ++ ys2))) = H18 at S18 k18 ⊢
          have W18 := W17.same S18
          obtain ⟨n1, _⟩ := W17.sr.ne hl3
          have n2 : l3 ≠ q := by obtain ⟨vs, h, _⟩ := W17.dd; exact (Zq13 h hl3).symm
          refine hD _ _ ⟨l3, rows ++ more, ys ++ ys2, rfl, ⟨W18.sr, W18.nm, W18.fk, W18.dd, k18, DR.app (hm16.mono fun b xs e => S18 _ _ (S17 _ _ e)) W18.rr⟩, n1, n2, by rw [List.length_append]; lia, fun y hy => ?_⟩
          rcases List.mem_append.mp hy with z | z
          · exact hro y z
          · exact hmo y z
end
def cE (x : Str) : Addr := (([("MootError", 38), ("NoName", 58), ("NoMeasure", 77), ("Unknown", 96), ("Taken", 115), ("NotYet", 134), ("Dead", 153), ("NoHeir", 172), ("TooMany", 191)] : List (Str × Addr)).lookup x).getD 0
theorem all_mk {w : World} {h : Heap} {mg : Str -> Option Value} {fa : Addr} (X : (KK w.params).In h) (G : h.Ns mainGlobals mg) (hfa : mg "law" = some (.ref fa)) :
    ∃ fd : FuncData, (∀ (s : Shared) (v : Value), BindsTo s fd ⟨[v], []⟩ [("_law_script", v)]) /\ ∀ base : Heap, (KK w.params).In base -> base.Ns mainGlobals mg -> FnOk (PySem.Challenge.rw_forsworn_k23_folk_refused).prog w (KK w.params) mg base CX0 40 fa fd ["_law_script"] (spLaw (KK w.params)) := by
  have e : some (Value.ref fa) = some (.ref 536) := hfa.symm.trans (PySem.W.mg_of X G (by kernel_rfl))
  cases e
  have Zq148 : Has (KK w.params) mg "check_day" Zq134 := Zq48 (f := 200) (oc := .type "function") (od := none) (an := none) (osl := #[]) (kV := .none) (doc := .none) (pm := (.str "forsworn.measures" 405)) (cdv := (.ref 199)) (ct := .none) X G (by kernel_rfl) (by kernel_rfl) (by kernel_rfl) (by kernel_rfl)
  have Zq113 : Has (KK w.params) mg "check_weight" Zq94 := Zq48 (f := 207) (oc := .type "function") (od := none) (an := none) (osl := #[]) (kV := .none) (doc := .none) (pm := (.str "forsworn.measures" 405)) (cdv := (.ref 206)) (ct := .none) X G (by kernel_rfl) (by kernel_rfl) (by kernel_rfl) (by kernel_rfl)
  have Zq254 : Has (KK w.params) mg "is_name" Zq161 := Zq48 (f := 212) (oc := .type "function") (od := none) (an := none) (osl := #[]) (kV := .none) (doc := .none) (pm := (.str "forsworn.oaths" 425)) (cdv := (.ref 211)) (ct := .none) X G (by kernel_rfl) (by kernel_rfl) (by kernel_rfl) (by kernel_rfl)
  have Zq248 : Has (KK w.params) mg "_law_src" Zq216 := Zq48 (f := 378) (oc := .type "function") (od := none) (an := none) (osl := #[]) (kV := .none) (doc := .none) (pm := (.str "law_forsworn_k23_folk_refused" 644)) (cdv := (.ref 377)) (ct := .none) X G (by kernel_rfl) (by kernel_rfl) (by kernel_rfl) (by kernel_rfl)
  have Zq242 : Has (KK w.params) mg "_law_next" Zq128 := Zq48 (f := 385) (oc := .type "function") (od := none) (an := none) (osl := #[]) (kV := .none) (doc := .none) (pm := (.str "law_forsworn_k23_folk_refused" 644)) (cdv := (.ref 384)) (ct := .none) X G (by kernel_rfl) (by kernel_rfl) (by kernel_rfl) (by kernel_rfl)
  have Zq228 : Has (KK w.params) mg "_law_whole" Zq133 := Zq48 (f := 392) (oc := .type "function") (od := none) (an := none) (osl := #[]) (kV := .none) (doc := .none) (pm := (.str "law_forsworn_k23_folk_refused" 644)) (cdv := (.ref 391)) (ct := .none) X G (by kernel_rfl) (by kernel_rfl) (by kernel_rfl) (by kernel_rfl)
  have Zq79 : Has (KK w.params) mg "_law_same" Zq37 := Zq48 (f := 399) (oc := .type "function") (od := none) (an := none) (osl := #[]) (kV := .none) (doc := .none) (pm := (.str "law_forsworn_k23_folk_refused" 644)) (cdv := (.ref 398)) (ct := .none) X G (by kernel_rfl) (by kernel_rfl) (by kernel_rfl) (by kernel_rfl)
  have Zq220 : Has (KK w.params) mg "_law_unlike" Zq69 := Zq48 (f := 406) (oc := .type "function") (od := none) (an := none) (osl := #[]) (kV := .none) (doc := .none) (pm := (.str "law_forsworn_k23_folk_refused" 644)) (cdv := (.ref 405)) (ct := .none) X G (by kernel_rfl) (by kernel_rfl) (by kernel_rfl) (by kernel_rfl)
  have Zq243 : Has (KK w.params) mg "_law_word" Zq144 := Zq48 (f := 411) (oc := .type "function") (od := none) (an := none) (osl := #[]) (kV := .none) (doc := .none) (pm := (.str "law_forsworn_k23_folk_refused" 644)) (cdv := (.ref 410)) (ct := .none) X G (by kernel_rfl) (by kernel_rfl) (by kernel_rfl) (by kernel_rfl)
  have Zq230 : Has (KK w.params) mg "_law_names" Zq41 := Zq48 (f := 418) (oc := .type "function") (od := none) (an := none) (osl := #[]) (kV := .none) (doc := .none) (pm := (.str "law_forsworn_k23_folk_refused" 644)) (cdv := (.ref 417)) (ct := .none) X G (by kernel_rfl) (by kernel_rfl) (by kernel_rfl) (by kernel_rfl)
  have Zq210 : Has (KK w.params) mg "_law_is_name" Zq125 := Zq48 (f := 425) (oc := .type "function") (od := none) (an := none) (osl := #[]) (kV := .none) (doc := .none) (pm := (.str "law_forsworn_k23_folk_refused" 644)) (cdv := (.ref 424)) (ct := .none) X G (by kernel_rfl) (by kernel_rfl) (by kernel_rfl) (by kernel_rfl)
  have Zq246 : Has (KK w.params) mg "_law_came" Zq173 := Zq48 (f := 432) (oc := .type "function") (od := none) (an := none) (osl := #[]) (kV := .none) (doc := .none) (pm := (.str "law_forsworn_k23_folk_refused" 644)) (cdv := (.ref 431)) (ct := .none) X G (by kernel_rfl) (by kernel_rfl) (by kernel_rfl) (by kernel_rfl)
  have Zq233 : Has (KK w.params) mg "_law_death" Zq154 := Zq48 (f := 439) (oc := .type "function") (od := none) (an := none) (osl := #[]) (kV := .none) (doc := .none) (pm := (.str "law_forsworn_k23_folk_refused" 644)) (cdv := (.ref 438)) (ct := .none) X G (by kernel_rfl) (by kernel_rfl) (by kernel_rfl) (by kernel_rfl)
  have Zq208 : Has (KK w.params) mg "_law_is_dead" Zq88 := Zq48 (f := 446) (oc := .type "function") (od := none) (an := none) (osl := #[]) (kV := .none) (doc := .none) (pm := (.str "law_forsworn_k23_folk_refused" 644)) (cdv := (.ref 445)) (ct := .none) X G (by kernel_rfl) (by kernel_rfl) (by kernel_rfl) (by kernel_rfl)
  have Zq221 : Has (KK w.params) mg "_law_weighs" Zq81 := Zq48 (f := 453) (oc := .type "function") (od := none) (an := none) (osl := #[]) (kV := .none) (doc := .none) (pm := (.str "law_forsworn_k23_folk_refused" 644)) (cdv := (.ref 452)) (ct := .none) X G (by kernel_rfl) (by kernel_rfl) (by kernel_rfl) (by kernel_rfl)
  have Zq245 : Has (KK w.params) mg "_law_heir" Zq100 := Zq48 (f := 460) (oc := .type "function") (od := none) (an := none) (osl := #[]) (kV := .none) (doc := .none) (pm := (.str "law_forsworn_k23_folk_refused" 644)) (cdv := (.ref 459)) (ct := .none) X G (by kernel_rfl) (by kernel_rfl) (by kernel_rfl) (by kernel_rfl)
  have Zq249 : Has (KK w.params) mg "_law_day" Zq191 := Zq48 (f := 467) (oc := .type "function") (od := none) (an := none) (osl := #[]) (kV := .none) (doc := .none) (pm := (.str "law_forsworn_k23_folk_refused" 644)) (cdv := (.ref 466)) (ct := .none) X G (by kernel_rfl) (by kernel_rfl) (by kernel_rfl) (by kernel_rfl)
  have Zq186 : Has (KK w.params) mg "_law_folk_late" Zq57 := Zq48 (f := 474) (oc := .type "function") (od := none) (an := none) (osl := #[]) (kV := .none) (doc := .none) (pm := (.str "law_forsworn_k23_folk_refused" 644)) (cdv := (.ref 473)) (ct := .none) X G (by kernel_rfl) (by kernel_rfl) (by kernel_rfl) (by kernel_rfl)
  have Zq200 : Has (KK w.params) mg "_law_folk_due" Zq53 := Zq48 (f := 479) (oc := .type "function") (od := none) (an := none) (osl := #[]) (kV := .none) (doc := .none) (pm := (.str "law_forsworn_k23_folk_refused" 644)) (cdv := (.ref 478)) (ct := .none) X G (by kernel_rfl) (by kernel_rfl) (by kernel_rfl) (by kernel_rfl)
  have Zq211 : Has (KK w.params) mg "_law_ask_due" Zq89 := Zq48 (f := 486) (oc := .type "function") (od := none) (an := none) (osl := #[]) (kV := .none) (doc := .none) (pm := (.str "law_forsworn_k23_folk_refused" 644)) (cdv := (.ref 485)) (ct := .none) X G (by kernel_rfl) (by kernel_rfl) (by kernel_rfl) (by kernel_rfl)
  have Zq201 : Has (KK w.params) mg "_law_wild_day" Zq116 := Zq48 (f := 493) (oc := .type "function") (od := none) (an := none) (osl := #[]) (kV := .none) (doc := .none) (pm := (.str "law_forsworn_k23_folk_refused" 644)) (cdv := (.ref 492)) (ct := .none) X G (by kernel_rfl) (by kernel_rfl) (by kernel_rfl) (by kernel_rfl)
  have Zq165 : Has (KK w.params) mg "_law_wild_weight" Zq105 := Zq48 (f := 500) (oc := .type "function") (od := none) (an := none) (osl := #[]) (kV := .none) (doc := .none) (pm := (.str "law_forsworn_k23_folk_refused" 644)) (cdv := (.ref 499)) (ct := .none) X G (by kernel_rfl) (by kernel_rfl) (by kernel_rfl) (by kernel_rfl)
  have Zq187 : Has (KK w.params) mg "_law_folk_deed" Zq45 := Zq48 (f := 507) (oc := .type "function") (od := none) (an := none) (osl := #[]) (kV := .none) (doc := .none) (pm := (.str "law_forsworn_k23_folk_refused" 644)) (cdv := (.ref 506)) (ct := .none) X G (by kernel_rfl) (by kernel_rfl) (by kernel_rfl) (by kernel_rfl)
  have Zq86 : Has (KK w.params) mg "_law_folk_kinds" Zq21 := Zq48 (f := 514) (oc := .type "function") (od := none) (an := none) (osl := #[]) (kV := .none) (doc := .none) (pm := (.str "law_forsworn_k23_folk_refused" 644)) (cdv := (.ref 513)) (ct := .none) X G (by kernel_rfl) (by kernel_rfl) (by kernel_rfl) (by kernel_rfl)
  have Zq174 : Has (KK w.params) mg "_law_folk_names" Zq120 := Zq48 (f := 519) (oc := .type "function") (od := none) (an := none) (osl := #[]) (kV := .none) (doc := .none) (pm := (.str "law_forsworn_k23_folk_refused" 644)) (cdv := (.ref 518)) (ct := .none) X G (by kernel_rfl) (by kernel_rfl) (by kernel_rfl) (by kernel_rfl)
  have Zq96 : Has (KK w.params) mg "_law_folk_does" Zq82 := Zq48 (f := 526) (oc := .type "function") (od := none) (an := none) (osl := #[]) (kV := .none) (doc := .none) (pm := (.str "law_forsworn_k23_folk_refused" 644)) (cdv := (.ref 525)) (ct := .none) X G (by kernel_rfl) (by kernel_rfl) (by kernel_rfl) (by kernel_rfl)
  have Zq166 : Has (KK w.params) mg "_law_asked_right" Zq24 := Zq48 (f := 531) (oc := .type "function") (od := none) (an := none) (osl := #[]) (kV := .none) (doc := .none) (pm := (.str "law_forsworn_k23_folk_refused" 644)) (cdv := (.ref 530)) (ct := .none) X G (by kernel_rfl) (by kernel_rfl) (by kernel_rfl) (by kernel_rfl)
  have F_law := fun_mk (K := KK w.params) (x := "law") (qual := "law") (st := Zq78) (f := 536) (oc := .type "function") (od := none) (an := none) (osl := #[]) (kV := .none) (doc := .none) (pm := (.str "law_forsworn_k23_folk_refused" 644)) (cdv := (.ref 535)) (ct := .none) (by kernel_rfl) (by kernel_rfl) (by kernel_rfl)
  have Zq196 : HasM (KK w.params) 367 "__init__" "Folk.__init__" Zq156 := Zq64 (f := 226) (oc := .type "function") (od := none) (an := none) (osl := #[]) (kV := .none) (doc := .none) (pm := (.str "forsworn.folk" 435)) (cdv := (.ref 225)) (ct := .none) (by kernel_rfl) (by kernel_rfl) (by kernel_rfl) (by kernel_rfl) (by kernel_rfl)
  have Zq152 : HasM (KK w.params) 367 "come" "Folk.come" Zq110 := Zq64 (f := 233) (oc := .type "function") (od := none) (an := none) (osl := #[]) (kV := .none) (doc := .none) (pm := (.str "forsworn.folk" 435)) (cdv := (.ref 232)) (ct := .none) (by kernel_rfl) (by kernel_rfl) (by kernel_rfl) (by kernel_rfl) (by kernel_rfl)
  have Zq153 : HasM (KK w.params) 367 "rise" "Folk.rise" Zq111 := Zq64 (f := 240) (oc := .type "function") (od := none) (an := none) (osl := #[]) (kV := .none) (doc := .none) (pm := (.str "forsworn.folk" 435)) (cdv := (.ref 239)) (ct := .none) (by kernel_rfl) (by kernel_rfl) (by kernel_rfl) (by kernel_rfl) (by kernel_rfl)
  have Zq171 : HasM (KK w.params) 367 "die" "Folk.die" Zq130 := Zq64 (f := 247) (oc := .type "function") (od := none) (an := none) (osl := #[]) (kV := .none) (doc := .none) (pm := (.str "forsworn.folk" 435)) (cdv := (.ref 246)) (ct := .none) (by kernel_rfl) (by kernel_rfl) (by kernel_rfl) (by kernel_rfl) (by kernel_rfl)
  have Zq232 : HasM (KK w.params) 367 "names" "Folk.names" Zq163 := Zq64 (f := 254) (oc := .type "function") (od := none) (an := none) (osl := #[]) (kV := .none) (doc := .none) (pm := (.str "forsworn.folk" 435)) (cdv := (.ref 253)) (ct := .none) (by kernel_rfl) (by kernel_rfl) (by kernel_rfl) (by kernel_rfl) (by kernel_rfl)
  have Zq151 : HasM (KK w.params) 367 "came" "Folk.came" Zq150 := Zq64 (f := 261) (oc := .type "function") (od := none) (an := none) (osl := #[]) (kV := .none) (doc := .none) (pm := (.str "forsworn.folk" 435)) (cdv := (.ref 260)) (ct := .none) (by kernel_rfl) (by kernel_rfl) (by kernel_rfl) (by kernel_rfl) (by kernel_rfl)
  have Zq124 : HasM (KK w.params) 367 "weight" "Folk.weight" Zq61 := Zq64 (f := 266) (oc := .type "function") (od := none) (an := none) (osl := #[]) (kV := .none) (doc := .none) (pm := (.str "forsworn.folk" 435)) (cdv := (.ref 265)) (ct := .none) (by kernel_rfl) (by kernel_rfl) (by kernel_rfl) (by kernel_rfl) (by kernel_rfl)
  have Zq149 : HasM (KK w.params) 367 "dead" "Folk.dead" Zq109 := Zq64 (f := 273) (oc := .type "function") (od := none) (an := none) (osl := #[]) (kV := .none) (doc := .none) (pm := (.str "forsworn.folk" 435)) (cdv := (.ref 272)) (ct := .none) (by kernel_rfl) (by kernel_rfl) (by kernel_rfl) (by kernel_rfl) (by kernel_rfl)
  have Zq84 : HasM (KK w.params) 367 "stands_for" "Folk.stands_for" Zq54 := Zq64 (f := 280) (oc := .type "function") (od := none) (an := none) (osl := #[]) (kV := .none) (doc := .none) (pm := (.str "forsworn.folk" 435)) (cdv := (.ref 279)) (ct := .none) (by kernel_rfl) (by kernel_rfl) (by kernel_rfl) (by kernel_rfl) (by kernel_rfl)
  have Zq195 : HasM (KK w.params) 367 "stand_in" "Folk.stand_in" Zq103 := Zq64 (f := 294) (oc := .type "function") (od := none) (an := none) (osl := #[]) (kV := .none) (doc := .none) (pm := (.str "forsworn.folk" 435)) (cdv := (.ref 293)) (ct := .none) (by kernel_rfl) (by kernel_rfl) (by kernel_rfl) (by kernel_rfl) (by kernel_rfl)
  have Zq207 : HasM (KK w.params) 367 "died_by" "Folk.died_by" Zq114 := Zq64 (f := 301) (oc := .type "function") (od := none) (an := none) (osl := #[]) (kV := .none) (doc := .none) (pm := (.str "forsworn.folk" 435)) (cdv := (.ref 300)) (ct := .none) (by kernel_rfl) (by kernel_rfl) (by kernel_rfl) (by kernel_rfl) (by kernel_rfl)
  have Zq66 : HasM (KK w.params) 367 "check_coming" "Folk.check_coming" Zq27 := Zq64 (f := 322) (oc := .type "function") (od := none) (an := none) (osl := #[]) (kV := .none) (doc := .none) (pm := (.str "forsworn.folk" 435)) (cdv := (.ref 321)) (ct := .none) (by kernel_rfl) (by kernel_rfl) (by kernel_rfl) (by kernel_rfl) (by kernel_rfl)
  have Zq85 : HasM (KK w.params) 367 "check_rise" "Folk.check_rise" Zq42 := Zq64 (f := 329) (oc := .type "function") (od := none) (an := none) (osl := #[]) (kV := .none) (doc := .none) (pm := (.str "forsworn.folk" 435)) (cdv := (.ref 328)) (ct := .none) (by kernel_rfl) (by kernel_rfl) (by kernel_rfl) (by kernel_rfl) (by kernel_rfl)
  have Zq75 : HasM (KK w.params) 367 "check_death" "Folk.check_death" Zq39 := Zq64 (f := 336) (oc := .type "function") (od := none) (an := none) (osl := #[]) (kV := .none) (doc := .none) (pm := (.str "forsworn.folk" 435)) (cdv := (.ref 335)) (ct := .none) (by kernel_rfl) (by kernel_rfl) (by kernel_rfl) (by kernel_rfl) (by kernel_rfl)
  have Zq73 : HasM (KK w.params) 367 "check_known" "Folk.check_known" Zq60 := Zq64 (f := 343) (oc := .type "function") (od := none) (an := none) (osl := #[]) (kV := .none) (doc := .none) (pm := (.str "forsworn.folk" 435)) (cdv := (.ref 342)) (ct := .none) (by kernel_rfl) (by kernel_rfl) (by kernel_rfl) (by kernel_rfl) (by kernel_rfl)
  have Zq74 : HasM (KK w.params) 367 "check_there" "Folk.check_there" Zq50 := Zq64 (f := 350) (oc := .type "function") (od := none) (an := none) (osl := #[]) (kV := .none) (doc := .none) (pm := (.str "forsworn.folk" 435)) (cdv := (.ref 349)) (ct := .none) (by kernel_rfl) (by kernel_rfl) (by kernel_rfl) (by kernel_rfl) (by kernel_rfl)
  have Zq67 : HasM (KK w.params) 367 "check_living" "Folk.check_living" Zq46 := Zq64 (f := 357) (oc := .type "function") (od := none) (an := none) (osl := #[]) (kV := .none) (doc := .none) (pm := (.str "forsworn.folk" 435)) (cdv := (.ref 356)) (ct := .none) (by kernel_rfl) (by kernel_rfl) (by kernel_rfl) (by kernel_rfl) (by kernel_rfl)
  have Zq68 : HasM (KK w.params) 367 "check_untold" "Folk.check_untold" Zq55 := Zq64 (f := 364) (oc := .type "function") (od := none) (an := none) (osl := #[]) (kV := .none) (doc := .none) (pm := (.str "forsworn.folk" 435)) (cdv := (.ref 363)) (ct := .none) (by kernel_rfl) (by kernel_rfl) (by kernel_rfl) (by kernel_rfl) (by kernel_rfl)
  have pg : PySem.W.plainGet (KK w.params) 367 Str.empty = true := by kernel_rfl
  have hd : PySem.W.hasDictIn (KK w.params) 367 = true := by kernel_rfl
  have po : PySem.W.plainOver (KK w.params) 367 = true := by kernel_rfl
  have sa : PySem.W.findIn (KK w.params) (.ref 367) "__setattr__" = some (some (.builtin "object.__setattr__")) := by kernel_rfl
  have n_comings : PySem.W.findIn (KK w.params) (.ref 367) "comings" = some none := by kernel_rfl
  have n_weights : PySem.W.findIn (KK w.params) (.ref 367) "weights" = some none := by kernel_rfl
  have n_deaths : PySem.W.findIn (KK w.params) (.ref 367) "deaths" = some none := by kernel_rfl
  have n_heirs : PySem.W.findIn (KK w.params) (.ref 367) "heirs" = some none := by kernel_rfl
  have Tc : TxC (KK w.params) 367 := ⟨⟨pg, hd, po, sa⟩, n_comings, n_weights, n_deaths, n_heirs⟩
  have mk : PySem.W.makesIn (KK w.params) 367 = true := by kernel_rfl
  have kc : PySem.W.keepIn (KK w.params) (.ref 367) = true := by kernel_rfl
  have gC : mg "Folk" = some (.ref 367) := PySem.W.mg_of X G (by kernel_rfl)
  have er : Er (KK w.params) mg cE errs := er_mk X G (by kernel_rfl)
  have c_LAST_DAY : mg "LAST_DAY" = some (.int 9999 407) := PySem.W.mg_of X G (by kernel_rfl)
  have c_MOST_WEIGHT : mg "MOST_WEIGHT" = some (.int 1000 409) := PySem.W.mg_of X G (by kernel_rfl)
  have c_LONGEST_NAME : mg "LONGEST_NAME" = some (.int 12 427) := PySem.W.mg_of X G (by kernel_rfl)
  have c_MOST_FOLK : mg "MOST_FOLK" = some (.int 40 437) := PySem.W.mg_of X G (by kernel_rfl)
  have T : Txt mg := ⟨PySem.W.mg_none_of X G (by kernel_rfl), PySem.W.mg_none_of X G (by kernel_rfl), PySem.W.mg_none_of X G (by kernel_rfl), PySem.W.mg_none_of X G (by kernel_rfl), PySem.W.mg_none_of X G (by kernel_rfl), PySem.W.mg_none_of X G (by kernel_rfl), PySem.W.mg_none_of X G (by kernel_rfl), PySem.W.mg_none_of X G (by kernel_rfl), PySem.W.mg_none_of X G (by kernel_rfl), PySem.W.mg_none_of X G (by kernel_rfl), PySem.W.mg_none_of X G (by kernel_rfl), PySem.W.mg_none_of X G (by kernel_rfl), PySem.W.mg_none_of X G (by kernel_rfl)⟩
  exact ⟨PySem.W.fnOf "law" "law" (Zq112 Zq78) (Zq47 Zq78) (Zq1 Zq78) .none .none .none (.str "law_forsworn_k23_folk_refused" 644) none (.ref 535) .none, fun s v => .of_eq rfl, fun base _ _ => by
    have F1 := Zq314 (P := (PySem.Challenge.rw_forsworn_k23_folk_refused).prog) (w := w) (base := base) Zq248 T
    have F2 := Zq308 (P := (PySem.Challenge.rw_forsworn_k23_folk_refused).prog) (w := w) (base := base) Zq242 T
    have F3 := Zq309 Zq243 T F2
    have F4 := Zq290 (P := (PySem.Challenge.rw_forsworn_k23_folk_refused).prog) (w := w) (base := base) Zq220 T
    have F5 := Zq302 Zq230 T F2 F3 F4
    have F8 := Zq265 Zq79 T (Zq301 (P := (PySem.Challenge.rw_forsworn_k23_folk_refused).prog) (w := w) (base := base) Zq228 T) 4
    have F9 := Zq319 (P := (PySem.Challenge.rw_forsworn_k23_folk_refused).prog) (w := w) (base := base) Zq254 T ⟨_, c_LONGEST_NAME⟩
    have F10 := Zq310 (P := (PySem.Challenge.rw_forsworn_k23_folk_refused).prog) (w := w) (base := base) Zq148 ⟨_, c_LAST_DAY⟩
    have F11 := Zq279 (P := (PySem.Challenge.rw_forsworn_k23_folk_refused).prog) (w := w) (base := base) Zq113 ⟨_, c_MOST_WEIGHT⟩
    have M1 := Zq292 (P := (PySem.Challenge.rw_forsworn_k23_folk_refused).prog) (w := w) (mg := mg) (base := base) Zq73 Tc
    have M2 := Zq293 (P := (PySem.Challenge.rw_forsworn_k23_folk_refused).prog) (w := w) (mg := mg) (base := base) Zq74 Tc
    have M3 := Zq320 (P := (PySem.Challenge.rw_forsworn_k23_folk_refused).prog) (w := w) (mg := mg) (base := base) Zq207 Tc
    have M4 := Zq335 Zq149 Tc F10 M1 M3
    have M3b := Zq316 Zq195 Tc M3
    have M5 := Zq303 Zq84 Tc F10 M1 M3b
    have M6 := Zq280 Zq66 T Tc ⟨_, c_MOST_FOLK⟩ F9 F10 F11
    have M7 := Zq338 Zq152 Tc M6
    have M7b := Zq281 Zq67 Tc M3
    have M7c := Zq304 Zq85 Tc F10 F11 M1 M2 M7b
    have M7d := Zq339 Zq153 Tc M7c
    have M2b := Zq282 (P := (PySem.Challenge.rw_forsworn_k23_folk_refused).prog) (w := w) (mg := mg) (base := base) Zq68 Tc
    have M8 := Zq295 Zq75 Tc F10 M1 M2 M2b
    have M9 := f_die Zq171 Tc M8
    have M0 := (Zq336 (P := (PySem.Challenge.rw_forsworn_k23_folk_refused).prog) (w := w) (mg := mg) (base := base) Zq196 Tc).mks mk kc gC
    have M10 := Zq322 Zq124 T Tc F10 M1 M2
    have M11 := Zq324 (P := (PySem.Challenge.rw_forsworn_k23_folk_refused).prog) (w := w) (base := base) Zq232 T Tc
    have M13 := Zq337 Zq151 Tc M1
    have F13 := Zq305 (P := (PySem.Challenge.rw_forsworn_k23_folk_refused).prog) (w := w) (base := base) Zq233 T
    have F14 := Zq283 Zq208 T F13
    have F15 := Zq311 Zq245 T F13 F14
    have F16 := Zq296 (P := (PySem.Challenge.rw_forsworn_k23_folk_refused).prog) (w := w) (base := base) Zq221 T
    have ck : Chk ((PySem.Challenge.rw_forsworn_k23_folk_refused).prog) w (KK w.params) mg base _ cE := ⟨F10.toX.or (Zq306 Zq148 ⟨_, c_LAST_DAY⟩ er), F11.toX.or (Zq273 Zq113 ⟨_, c_MOST_WEIGHT⟩ er), M1.toX.or (Zq284 Zq73 Tc er), M2.toX.or (Zq285 Zq74 Tc er), M7b.toX.or (Zq274 Zq67 Tc er M3), M2b.toX.or (Zq275 Zq68 Tc er)⟩
    have ms : Mts ((PySem.Challenge.rw_forsworn_k23_folk_refused).prog) w (KK w.params) mg base _ cE := ⟨M7.toX.or (Zq325 Zq152 Tc (Zq276 Zq66 T Tc ⟨_, c_MOST_FOLK⟩ er F9 ck)), M7d.toX.or (Zq326 Zq153 Tc (Zq297 Zq85 Tc er ck)), M9.toX.or (Zq340 Zq171 Tc (Zq286 Zq75 Tc er ck)), M10.toX.or (Zq321 Zq124 T Tc ck), M4.toX.or (Zq327 Zq149 Tc ck M3), M5.toX.or (Zq298 Zq84 Tc ck M3b), M13.toX.or (Zq328 Zq151 Tc ck)⟩
    have F17 := Zq331 Zq86 T er (Zq329 Zq96 Tc ms)
    have F18 := Zq332 Zq86 T er (Zq330 Zq96 Tc ms)
    have F19 := f_nms (P := (PySem.Challenge.rw_forsworn_k23_folk_refused).prog) (w := w) (base := base) Zq174 T
    have F20 := Zq317 Zq249 T F2
    have F21 := Zq342 Zq201 T F2 F20
    have F22 := f_wwt Zq165 T F2
    have F23 := Zq333 Zq187 T F2 F21 F22
    have F24 := Zq312 (P := (PySem.Challenge.rw_forsworn_k23_folk_refused).prog) (w := w) (base := base) Zq246 T
    have F25 := f_due Zq200 T F24 (Zq287 (P := (PySem.Challenge.rw_forsworn_k23_folk_refused).prog) (w := w) (base := base) Zq210 T) (Zq341 Zq186 T F24 F13 F14)
    have F26 := Zq323 Zq211 T F24
    have F27 := Zq334 Zq166 T Tc F2 F21 F26 F18 F19 F8 M10 M11 M5 F16 F15
    exact (f_law F_law T Tc F1 F2 F5 M0 F23 F20 F25 F17 F19 F27).mono (by decide)⟩
end Law
open PySem PySem.W PyProof.Rows
set_option maxRecDepth 100000 in
set_option maxHeartbeats 0 in
theorem PySem.Challenge.cw_forsworn_k23_folk_refused_holds : PySem.Challenge.rw_forsworn_k23_folk_refused.Holds := by
  w_on; o_law
  refine holds_open (q := Law.q) (loose := []) (Xt := fun s => xlAt Law.q [] s && recOk (RowW.records PySem.Challenge.rw_forsworn_k23_folk_refused.row.toRowW) s) (XP := XL Law.q []) (Yf := Law.HK.obs) (Ya := Law.HK.val) (YP := Law.HK.says) (N := 8104) Law.left Law.HK.of Law.HK.keeps (fun s e => xl_of s (Bool.and_eq_true_iff.mp e).1) XL.keeps (by rfl) (by rfl) (by rfl) (fun s e => recFacts_of (Bool.and_eq_true_iff.mp e).2) (by rfl) (by first | assumption | decide +kernel) (by decide +kernel) ⟨rfl, rfl, rfl, rfl, rfl, by decide +kernel⟩ ?hw ?hc
  case hw => w_witness2
  refine L2.walkLaw (l := PySem.Challenge.rw_forsworn_k23_folk_refused) rfl rfl (fun w h Y => PySem.W.kIn_of (K := Law.KK) Y) fun w mg fa h KX G hmg => Law.all_mk KX G hmg
namespace Law
end Law
