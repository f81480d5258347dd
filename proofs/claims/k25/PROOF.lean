import PyProof.Rows.All
import Wide.All
import OpenK.AllK
import Wide.FinOn
import Lean
import PyProof.EqAt
import PyProof.EqKinds
import PyProof.TupleCall
import KE.KSortTup
import PyProof.NeKinds
import KE.KDictSum
import KE.KLam
import KE.KSortKey
import PySem.Challenge.RW_forsworn_k25_whole_roads_walked
section
set_option Elab.async false
set_option linter.all false
set_option maxRecDepth 100000
set_option maxHeartbeats 4000000
/-! THE TEXT RUN AT ONCE, over a tree of objects. -/
namespace L2
open PySem PySem.W
def topRunT (tb : String → Option Builtin) (p : Program) (w : World) (m : Nat) (ann : Option Value) : Nat → SharedT → Thread → Option SharedT
  | 0, _, _ => none
  | n + 1, s, t => match through t with
    | true => some s
    | false => match stepOk m ann t with
      | false => none
      | true => match stepT (denote tb) p w s t with
        | some x => topRunT tb p w m ann n x.1 x.2
        | none => none
theorem topRunT_of {tb : String → Option Builtin} {p : Program} {w : World} {m : Nat} {ann : Option Value} : ∀ {n : Nat} {s r : SharedT} {t : Thread}, topRunT tb p w m ann n s t = some r → topRun tb p w m ann n s.abs t = some r.abs
  | 0, s, r, t, h => by cases h
  | n + 1, s, r, t, h => by
    unfold topRunT at h
    unfold topRun
    cases a : through t with
    | true => rw [a] at h; cases h; rfl
    | false =>
      rw [a] at h
      cases b : stepOk m ann t with
      | false => rw [b] at h; cases h
      | true =>
        rw [b] at h
        cases c : stepT (denote tb) p w s t with
        | none => rw [c] at h; cases h
        | some x => obtain ⟨s2, t2⟩ := x; rw [c] at h; dsimp only at h ⊢; rw [stepT_spec c]; exact topRunT_of h
def btOf : List Obj → Nat → BT → BT
  | [], _, t => t
  | o :: r, i, t => btOf r (i + 1) (t.ins i o)
/-- the boot's heap as a tree -/
noncomputable def s0T (P : Params) (os : OsState) : SharedT := ⟨btOf (boot_heap P).objs.toList 0 .nil, 11, (boot_heap P).life, #[], boot_drawn, boot_toks, os⟩
noncomputable def seenT {α : Type} (p q : Program) (loose : List Str) (Xt : Shared → Bool) (Yf : Shared → α) (P : Params) (s : Shared) :=
  (staticsOk (importedModules p.main.body) (boot_heap P) s.heap && namesBound p s.heap && gensDone s && laidKept (boot_heap P) s.heap, openSeen q loose (importedModules p.main.body) Xt true s, Yf s)
theorem s0T_abs (P : Params) (os : OsState) : (s0T P os).abs = ⟨boot_heap P, #[], boot_drawn, boot_toks, os⟩ := by kernel_rfl
theorem boot_size (P : Params) : ((boot_heap P).isNs mainGlobals && (#[] : Array GenState).size == 0, (boot_heap P).objs.size, (boot_heap P).nsMap mainGlobals "__annotations__") = (true, 11, some (.ref 6)) := by kernel_rfl
theorem left_of {p q : Program} {loose : List Str} {Xt : Shared → Bool} {α : Type} {Yf : Shared → α} {Ya : World → α} {N : Nat} (e : opening p = plainProg p.main.scope.names) (hN : Nat.ble 600 N = true) (f : ∀ s, fenceModules? p s = some s)
    (run : ∀ (w : World) (os : OsState), (topRunT treeTable p w 11 (some (.ref 6)) N (s0T w.params os) (topStub p)).map (fun s => seenT p q loose Xt Yf w.params s.abs) = some (true, openGood q loose, Ya w)) : LeftO p q loose Xt Yf Ya N := fun w => by
  obtain ⟨⟨h, gs, d, k, os⟩, e1, e2⟩ := Option.map_eq_some_iff.mp (boot_open e hN f w)
  obtain ⟨rfl, rfl, rfl, rfl⟩ : h = boot_heap w.params ∧ gs = #[] ∧ d = boot_drawn ∧ k = boot_toks := by simpa using e2
  obtain ⟨s, r1, r2⟩ := Option.map_eq_some_iff.mp (run w os)
  unfold seenT at r2
  obtain ⟨l1, l2, l3⟩ : _ ∧ _ ∧ _ := by simpa only [Prod.mk.injEq] using r2
  have r := topRunT_of r1
  rw [s0T_abs] at r
  obtain ⟨z1, z2, z3⟩ : _ ∧ _ ∧ _ := by simpa only [Prod.mk.injEq] using boot_size w.params
  have t : topFrom treeTable p w N ⟨boot_heap w.params, #[], boot_drawn, boot_toks, os⟩ = some s.abs := by
    unfold topFrom
    dsimp only
    rw [z1, z2, z3, r]
    show (match staticsOk (importedModules p.main.body) (boot_heap w.params) s.abs.heap && namesBound p s.abs.heap && gensDone s.abs && laidKept (boot_heap w.params) s.abs.heap with | true => some s.abs | false => none) = _
    rw [l1]
  unfold openEnds
  rw [e1]
  show (topFrom treeTable p w N _).map _ = _
  rw [t]
  exact congrArg some (Prod.ext l2 l3)
/-! defs of the text, by their places -/
def topP (p : Program) (i : Nat) : Stmt := p.main.body.getD i (.Pass ⟨0, 0, 0, 0⟩)
def hIn (s : Stmt) (j : Nat) : Stmt := match s with
  | .ClassDef _ _ _ b _ _ _ _ _ _ _ => b.getD j (.Pass ⟨0, 0, 0, 0⟩)
  | _ => s
def hArgs (s : Stmt) : Arguments := match s with
  | .FunctionDef _ a _ _ _ _ _ _ _ _ => a
  | _ => ⟨[], [], none, [], [], none, []⟩
def hBody (s : Stmt) : List Stmt := match s with
  | .FunctionDef _ _ b _ _ _ _ _ _ _ => b
  | _ => []
def hScope (s : Stmt) : Scope := match s with
  | .FunctionDef _ _ _ _ _ _ c _ _ _ => c
  | _ => { kind := .function, names := [], isGenerator := false, isCoroutine := false }
def de (P : Params) (n : Str) (t : Tok) (v : Value) : DictEntry := ⟨PyData.keyHash P n, .str n t, v⟩
def kFn (n q : Str) (st : Stmt) (pm : Value) (c : Addr) : Obj := ⟨.type "function", none, .func (PySem.W.fnOf n q (hArgs st) (hBody st) (hScope st) .none .none .none pm none (.ref c) .none), #[]⟩
end L2
lay_quick L2.topRunT L2.s0T L2.seenT

end
set_option Elab.async false
set_option linter.all false
set_option maxRecDepth 100000
set_option maxHeartbeats 4000000
namespace Law
open PySem L2
/-! the heap behind the text, as far as it is asked -/
def Kp (p : Program) (P : Params) : PySem.W.Frag := [
  (3, ⟨(.type "dict"), none, (.dict #[de P "__name__" 165 (.str "law_forsworn_k25_whole_roads_walked" 698), de P "__doc__" 166 .none, de P "__package__" 167 .none, de P "__loader__" 168 (.builtin "__main__.__loader__#opaque"), de P "__spec__" 169 .none, de P "__annotations__" 170 (.ref 6), de P "__builtins__" 171 (.ref 4), de P "__file__" 173 (.str "/claim/cut.py" 172), de P "__cached__" 174 .none, de P "_wall" 193 (.ref 21), de P "DAY" 197 (.int (0) 196), de P "WORD" 199 (.int (1) 198), de P "GIVER" 201 (.int (2) 200), de P "TAKER" 203 (.int (3) 202), de P "road" 209 (.ref 26), de P "holder" 220 (.ref 33), de P "by_day" 227 (.ref 40), de P "leave_on" 238 (.ref 47), de P "pass_on" 247 (.ref 54), de P "MootError" 274 (.ref 71), de P "NoName" 297 (.ref 91), de P "NoMeasure" 320 (.ref 110), de P "Unknown" 343 (.ref 129), de P "Taken" 366 (.ref 148), de P "NotYet" 389 (.ref 167), de P "Dead" 412 (.ref 186), de P "NoHeir" 435 (.ref 205), de P "TooMany" 458 (.ref 224), de P "LAST_DAY" 462 (.int (9999) 461), de P "MOST_WEIGHT" 464 (.int (1000) 463), de P "check_day" 471 (.ref 233), de P "check_weight" 478 (.ref 240), de P "LONGEST_NAME" 482 (.int (12) 481), de P "is_name" 488 (.ref 245), de P "MOST_FOLK" 492 (.int (40) 491), de P "Folk" 697 (.ref 400), de P "_law_src" 706 (.ref 411), de P "_law_next" 716 (.ref 418), de P "_law_whole" 723 (.ref 425), de P "_law_same" 733 (.ref 432), de P "_law_unlike" 744 (.ref 439), de P "_law_word" 750 (.ref 444), de P "_law_names" 764 (.ref 451), de P "_law_death" 773 (.ref 458), de P "_law_is_dead" 783 (.ref 465), de P "_law_heir" 793 (.ref 472), de P "_law_folk" 808 (.ref 479), de P "_law_events" 814 (.ref 484), de P "_law_step_fits" 830 (.ref 491), de P "_law_walks" 842 (.ref 498), de P "law" 858 (.ref 505)] 51), #[]⟩),
  (4, ⟨(.type "module"), (some 0), .plain, #[]⟩),
  (25, ⟨(.type "code"), none, (.fields #[(.str "road" 204), (.str "road" 205), (.str "/claim/cut.py" 206), (.int (9) 0), (.int (4) 0), (.int (0) 0), (.int (0) 0), (.int (3) 0), (.ref 22), (.bool true), (.int (181) 0), (.ref 23), .none, .none, .none, (.ref 24), (.int (207) 0), (.int (9) 0), (.str "/claim/cut.py" 208)]), #[]⟩),
  (26, kFn "road" "road" (topP p 6) (.str "forsworn.goods" 194) 25),
  (32, ⟨(.type "code"), none, (.fields #[(.str "holder" 210), (.str "holder" 211), (.str "/claim/cut.py" 212), (.int (19) 0), (.int (4) 0), (.int (0) 0), (.int (0) 0), (.int (3) 0), (.ref 27), (.bool true), (.int (181) 0), (.ref 28), .none, (.ref 29), (.ref 30), (.ref 31), (.int (218) 0), (.int (19) 0), (.str "/claim/cut.py" 219)]), #[]⟩),
  (33, kFn "holder" "holder" (topP p 7) (.str "forsworn.goods" 194) 32),
  (39, ⟨(.type "code"), none, (.fields #[(.str "by_day" 221), (.str "by_day" 222), (.str "/claim/cut.py" 223), (.int (22) 0), (.int (1) 0), (.int (0) 0), (.int (0) 0), (.int (3) 0), (.ref 34), (.bool true), (.int (181) 0), (.ref 35), .none, (.ref 36), (.ref 37), (.ref 38), (.int (225) 0), (.int (22) 0), (.str "/claim/cut.py" 226)]), #[]⟩),
  (40, kFn "by_day" "by_day" (topP p 8) (.str "forsworn.goods" 194) 39),
  (46, ⟨(.type "code"), none, (.fields #[(.str "leave_on" 228), (.str "leave_on" 229), (.str "/claim/cut.py" 230), (.int (24) 0), (.int (3) 0), (.int (0) 0), (.int (0) 0), (.int (3) 0), (.ref 41), (.bool true), (.int (181) 0), (.ref 42), .none, (.ref 43), (.ref 44), (.ref 45), (.int (236) 0), (.int (24) 0), (.str "/claim/cut.py" 237)]), #[]⟩),
  (47, kFn "leave_on" "leave_on" (topP p 9) (.str "forsworn.goods" 194) 46),
  (53, ⟨(.type "code"), none, (.fields #[(.str "pass_on" 239), (.str "pass_on" 240), (.str "/claim/cut.py" 241), (.int (29) 0), (.int (2) 0), (.int (0) 0), (.int (0) 0), (.int (3) 0), (.ref 48), (.bool true), (.int (181) 0), (.ref 49), .none, (.ref 50), (.ref 51), (.ref 52), (.int (245) 0), (.int (29) 0), (.str "/claim/cut.py" 246)]), #[]⟩),
  (54, kFn "pass_on" "pass_on" (topP p 10) (.str "forsworn.goods" 194) 53),
  (232, ⟨(.type "code"), none, (.fields #[(.str "check_day" 465), (.str "check_day" 466), (.str "/claim/cut.py" 467), (.int (73) 0), (.int (1) 0), (.int (0) 0), (.int (0) 0), (.int (3) 0), (.ref 227), (.bool true), (.int (181) 0), (.ref 228), .none, (.ref 229), (.ref 230), (.ref 231), (.int (469) 0), (.int (73) 0), (.str "/claim/cut.py" 470)]), #[]⟩),
  (233, kFn "check_day" "check_day" (topP p 24) (.str "forsworn.measures" 459) 232),
  (239, ⟨(.type "code"), none, (.fields #[(.str "check_weight" 472), (.str "check_weight" 473), (.str "/claim/cut.py" 474), (.int (76) 0), (.int (1) 0), (.int (0) 0), (.int (0) 0), (.int (3) 0), (.ref 234), (.bool true), (.int (181) 0), (.ref 235), .none, (.ref 236), (.ref 237), (.ref 238), (.int (476) 0), (.int (76) 0), (.str "/claim/cut.py" 477)]), #[]⟩),
  (240, kFn "check_weight" "check_weight" (topP p 25) (.str "forsworn.measures" 459) 239),
  (244, ⟨(.type "code"), none, (.fields #[(.str "is_name" 483), (.str "is_name" 484), (.str "/claim/cut.py" 485), (.int (81) 0), (.int (1) 0), (.int (0) 0), (.int (0) 0), (.int (3) 0), (.ref 241), (.bool true), (.int (181) 0), (.ref 242), .none, .none, .none, (.ref 243), (.int (486) 0), (.int (81) 0), (.str "/claim/cut.py" 487)]), #[]⟩),
  (245, kFn "is_name" "is_name" (topP p 28) (.str "forsworn.oaths" 479) 244),
  (258, ⟨(.type "code"), none, (.fields #[(.str "__init__" 505), (.str "Folk.__init__" 506), (.str "/claim/cut.py" 507), (.int (87) 0), (.int (1) 0), (.int (0) 0), (.int (0) 0), (.int (3) 0), (.ref 253), (.bool true), (.int (181) 0), (.ref 254), .none, (.ref 255), (.ref 256), (.ref 257), (.int (509) 0), (.int (87) 0), (.str "/claim/cut.py" 510)]), #[]⟩),
  (259, kFn "__init__" "Folk.__init__" (hIn (topP p 31) 0) (.str "forsworn.folk" 489) 258),
  (265, ⟨(.type "code"), none, (.fields #[(.str "come" 512), (.str "Folk.come" 513), (.str "/claim/cut.py" 514), (.int (93) 0), (.int (4) 0), (.int (0) 0), (.int (0) 0), (.int (3) 0), (.ref 260), (.bool true), (.int (181) 0), (.ref 261), .none, (.ref 262), (.ref 263), (.ref 264), (.int (519) 0), (.int (93) 0), (.str "/claim/cut.py" 520)]), #[]⟩),
  (266, kFn "come" "Folk.come" (hIn (topP p 31) 1) (.str "forsworn.folk" 489) 265),
  (279, ⟨(.type "code"), none, (.fields #[(.str "die" 532), (.str "Folk.die" 533), (.str "/claim/cut.py" 534), (.int (101) 0), (.int (4) 0), (.int (0) 0), (.int (0) 0), (.int (3) 0), (.ref 274), (.bool true), (.int (181) 0), (.ref 275), .none, (.ref 276), (.ref 277), (.ref 278), (.int (539) 0), (.int (101) 0), (.str "/claim/cut.py" 540)]), #[]⟩),
  (280, kFn "die" "Folk.die" (hIn (topP p 31) 3) (.str "forsworn.folk" 489) 279),
  (333, ⟨(.type "code"), none, (.fields #[(.str "died_by" 597), (.str "Folk.died_by" 598), (.str "/claim/cut.py" 599), (.int (131) 0), (.int (3) 0), (.int (0) 0), (.int (0) 0), (.int (3) 0), (.ref 328), (.bool true), (.int (181) 0), (.ref 329), .none, (.ref 330), (.ref 331), (.ref 332), (.int (603) 0), (.int (131) 0), (.str "/claim/cut.py" 604)]), #[]⟩),
  (334, kFn "died_by" "Folk.died_by" (hIn (topP p 31) 11) (.str "forsworn.folk" 489) 333),
  (340, ⟨(.type "code"), none, (.fields #[(.str "death_day" 606), (.str "Folk.death_day" 607), (.str "/claim/cut.py" 608), (.int (134) 0), (.int (2) 0), (.int (0) 0), (.int (0) 0), (.int (3) 0), (.ref 335), (.bool true), (.int (181) 0), (.ref 336), .none, (.ref 337), (.ref 338), (.ref 339), (.int (611) 0), (.int (134) 0), (.str "/claim/cut.py" 612)]), #[]⟩),
  (341, kFn "death_day" "Folk.death_day" (hIn (topP p 31) 12) (.str "forsworn.folk" 489) 340),
  (347, ⟨(.type "code"), none, (.fields #[(.str "heir_of" 614), (.str "Folk.heir_of" 615), (.str "/claim/cut.py" 616), (.int (137) 0), (.int (2) 0), (.int (0) 0), (.int (0) 0), (.int (3) 0), (.ref 342), (.bool true), (.int (181) 0), (.ref 343), .none, (.ref 344), (.ref 345), (.ref 346), (.int (619) 0), (.int (137) 0), (.str "/claim/cut.py" 620)]), #[]⟩),
  (348, kFn "heir_of" "Folk.heir_of" (hIn (topP p 31) 13) (.str "forsworn.folk" 489) 347),
  (354, ⟨(.type "code"), none, (.fields #[(.str "check_coming" 622), (.str "Folk.check_coming" 623), (.str "/claim/cut.py" 624), (.int (140) 0), (.int (4) 0), (.int (0) 0), (.int (0) 0), (.int (3) 0), (.ref 349), (.bool true), (.int (181) 0), (.ref 350), .none, (.ref 351), (.ref 352), (.ref 353), (.int (629) 0), (.int (140) 0), (.str "/claim/cut.py" 630)]), #[]⟩),
  (355, kFn "check_coming" "Folk.check_coming" (hIn (topP p 31) 14) (.str "forsworn.folk" 489) 354),
  (368, ⟨(.type "code"), none, (.fields #[(.str "check_death" 642), (.str "Folk.check_death" 643), (.str "/claim/cut.py" 644), (.int (153) 0), (.int (4) 0), (.int (0) 0), (.int (0) 0), (.int (3) 0), (.ref 363), (.bool true), (.int (181) 0), (.ref 364), .none, (.ref 365), (.ref 366), (.ref 367), (.int (649) 0), (.int (153) 0), (.str "/claim/cut.py" 650)]), #[]⟩),
  (369, kFn "check_death" "Folk.check_death" (hIn (topP p 31) 16) (.str "forsworn.folk" 489) 368),
  (375, ⟨(.type "code"), none, (.fields #[(.str "check_known" 652), (.str "Folk.check_known" 653), (.str "/claim/cut.py" 654), (.int (163) 0), (.int (2) 0), (.int (0) 0), (.int (0) 0), (.int (3) 0), (.ref 370), (.bool true), (.int (181) 0), (.ref 371), .none, (.ref 372), (.ref 373), (.ref 374), (.int (657) 0), (.int (163) 0), (.str "/claim/cut.py" 658)]), #[]⟩),
  (376, kFn "check_known" "Folk.check_known" (hIn (topP p 31) 17) (.str "forsworn.folk" 489) 375),
  (382, ⟨(.type "code"), none, (.fields #[(.str "check_there" 660), (.str "Folk.check_there" 661), (.str "/claim/cut.py" 662), (.int (167) 0), (.int (3) 0), (.int (0) 0), (.int (0) 0), (.int (3) 0), (.ref 377), (.bool true), (.int (181) 0), (.ref 378), .none, (.ref 379), (.ref 380), (.ref 381), (.int (666) 0), (.int (167) 0), (.str "/claim/cut.py" 667)]), #[]⟩),
  (383, kFn "check_there" "Folk.check_there" (hIn (topP p 31) 18) (.str "forsworn.folk" 489) 382),
  (396, ⟨(.type "code"), none, (.fields #[(.str "check_untold" 678), (.str "Folk.check_untold" 679), (.str "/claim/cut.py" 680), (.int (174) 0), (.int (2) 0), (.int (0) 0), (.int (0) 0), (.int (3) 0), (.ref 391), (.bool true), (.int (181) 0), (.ref 392), .none, (.ref 393), (.ref 394), (.ref 395), (.int (683) 0), (.int (174) 0), (.str "/claim/cut.py" 684)]), #[]⟩),
  (397, kFn "check_untold" "Folk.check_untold" (hIn (topP p 31) 20) (.str "forsworn.folk" 489) 396),
  (399, ⟨(.type "dict"), none, (.dict #[de P "__module__" 500 (.str "forsworn.folk" 489), de P "__firstlineno__" 504 (.int (85) 503), de P "__init__" 511 (.ref 259), de P "come" 521 (.ref 266), de P "rise" 531 (.ref 273), de P "die" 541 (.ref 280), de P "names" 548 (.ref 287), de P "came" 556 (.ref 294), de P "weight" 562 (.ref 299), de P "dead" 571 (.ref 306), de P "stands_for" 580 (.ref 313), de P "twin" 587 (.ref 320), de P "stand_in" 596 (.ref 327), de P "died_by" 605 (.ref 334), de P "death_day" 613 (.ref 341), de P "heir_of" 621 (.ref 348), de P "check_coming" 631 (.ref 355), de P "check_rise" 641 (.ref 362), de P "check_death" 651 (.ref 369), de P "check_known" 659 (.ref 376), de P "check_there" 668 (.ref 383), de P "check_living" 677 (.ref 390), de P "check_untold" 685 (.ref 397), de P "__static_attributes__" 690 (.ref 398), de P "__dict__" 692 (.ref 401), de P "__weakref__" 694 (.ref 402), de P "__doc__" 695 .none] 4), #[]⟩),
  (400, ⟨(.type "type"), none, (.cls { name := "Folk", bases := [(.type "object")], mro := [(.ref 400), (.type "object")], ns := 399, qualname := "Folk", hasDict := true, slotNames := [], subclasses := [], abstract := false, collection := none, hasDel := false }), #[none, none, some (.str "Folk" 493), some (.str "Folk" 501), some (.builtin "object.__new__"), some (.bool true)]⟩),
  (410, ⟨(.type "code"), none, (.fields #[(.str "_law_src" 700), (.str "_law_src" 701), (.str "/claim/cut.py" 702), (.int (178) 0), (.int (1) 0), (.int (0) 0), (.int (0) 0), (.int (3) 0), (.ref 405), (.bool true), (.int (181) 0), (.ref 406), .none, (.ref 407), (.ref 408), (.ref 409), (.int (704) 0), (.int (178) 0), (.str "/claim/cut.py" 705)]), #[]⟩),
  (411, kFn "_law_src" "_law_src" (topP p 33) (.str "law_forsworn_k25_whole_roads_walked" 698) 410),
  (417, ⟨(.type "code"), none, (.fields #[(.str "_law_next" 707), (.str "_law_next" 708), (.str "/claim/cut.py" 709), (.int (180) 0), (.int (2) 0), (.int (0) 0), (.int (0) 0), (.int (3) 0), (.ref 412), (.bool true), (.int (181) 0), (.ref 413), .none, (.ref 414), (.ref 415), (.ref 416), (.int (714) 0), (.int (180) 0), (.str "/claim/cut.py" 715)]), #[]⟩),
  (418, kFn "_law_next" "_law_next" (topP p 34) (.str "law_forsworn_k25_whole_roads_walked" 698) 417),
  (424, ⟨(.type "code"), none, (.fields #[(.str "_law_whole" 717), (.str "_law_whole" 718), (.str "/claim/cut.py" 719), (.int (195) 0), (.int (1) 0), (.int (0) 0), (.int (0) 0), (.int (3) 0), (.ref 419), (.bool true), (.int (181) 0), (.ref 420), .none, (.ref 421), (.ref 422), (.ref 423), (.int (721) 0), (.int (195) 0), (.str "/claim/cut.py" 722)]), #[]⟩),
  (425, kFn "_law_whole" "_law_whole" (topP p 35) (.str "law_forsworn_k25_whole_roads_walked" 698) 424),
  (431, ⟨(.type "code"), none, (.fields #[(.str "_law_same" 724), (.str "_law_same" 725), (.str "/claim/cut.py" 726), (.int (197) 0), (.int (2) 0), (.int (0) 0), (.int (0) 0), (.int (3) 0), (.ref 426), (.bool true), (.int (181) 0), (.ref 427), .none, (.ref 428), (.ref 429), (.ref 430), (.int (731) 0), (.int (197) 0), (.str "/claim/cut.py" 732)]), #[]⟩),
  (432, kFn "_law_same" "_law_same" (topP p 36) (.str "law_forsworn_k25_whole_roads_walked" 698) 431),
  (438, ⟨(.type "code"), none, (.fields #[(.str "_law_unlike" 734), (.str "_law_unlike" 735), (.str "/claim/cut.py" 736), (.int (214) 0), (.int (2) 0), (.int (0) 0), (.int (0) 0), (.int (3) 0), (.ref 433), (.bool true), (.int (181) 0), (.ref 434), .none, (.ref 435), (.ref 436), (.ref 437), (.int (742) 0), (.int (214) 0), (.str "/claim/cut.py" 743)]), #[]⟩),
  (439, kFn "_law_unlike" "_law_unlike" (topP p 37) (.str "law_forsworn_k25_whole_roads_walked" 698) 438),
  (443, ⟨(.type "code"), none, (.fields #[(.str "_law_word" 745), (.str "_law_word" 746), (.str "/claim/cut.py" 747), (.int (222) 0), (.int (2) 0), (.int (0) 0), (.int (0) 0), (.int (3) 0), (.ref 440), (.bool true), (.int (181) 0), (.ref 441), .none, .none, .none, (.ref 442), (.int (748) 0), (.int (222) 0), (.str "/claim/cut.py" 749)]), #[]⟩),
  (444, kFn "_law_word" "_law_word" (topP p 38) (.str "law_forsworn_k25_whole_roads_walked" 698) 443),
  (450, ⟨(.type "code"), none, (.fields #[(.str "_law_names" 751), (.str "_law_names" 752), (.str "/claim/cut.py" 753), (.int (225) 0), (.int (2) 0), (.int (0) 0), (.int (0) 0), (.int (3) 0), (.ref 445), (.bool true), (.int (181) 0), (.ref 446), .none, (.ref 447), (.ref 448), (.ref 449), (.int (762) 0), (.int (225) 0), (.str "/claim/cut.py" 763)]), #[]⟩),
  (451, kFn "_law_names" "_law_names" (topP p 39) (.str "law_forsworn_k25_whole_roads_walked" 698) 450),
  (457, ⟨(.type "code"), none, (.fields #[(.str "_law_death" 765), (.str "_law_death" 766), (.str "/claim/cut.py" 767), (.int (238) 0), (.int (2) 0), (.int (0) 0), (.int (0) 0), (.int (3) 0), (.ref 452), (.bool true), (.int (181) 0), (.ref 453), .none, (.ref 454), (.ref 455), (.ref 456), (.int (771) 0), (.int (238) 0), (.str "/claim/cut.py" 772)]), #[]⟩),
  (458, kFn "_law_death" "_law_death" (topP p 40) (.str "law_forsworn_k25_whole_roads_walked" 698) 457),
  (464, ⟨(.type "code"), none, (.fields #[(.str "_law_is_dead" 774), (.str "_law_is_dead" 775), (.str "/claim/cut.py" 776), (.int (243) 0), (.int (3) 0), (.int (0) 0), (.int (0) 0), (.int (3) 0), (.ref 459), (.bool true), (.int (181) 0), (.ref 460), .none, (.ref 461), (.ref 462), (.ref 463), (.int (781) 0), (.int (243) 0), (.str "/claim/cut.py" 782)]), #[]⟩),
  (465, kFn "_law_is_dead" "_law_is_dead" (topP p 41) (.str "law_forsworn_k25_whole_roads_walked" 698) 464),
  (471, ⟨(.type "code"), none, (.fields #[(.str "_law_heir" 784), (.str "_law_heir" 785), (.str "/claim/cut.py" 786), (.int (246) 0), (.int (3) 0), (.int (0) 0), (.int (0) 0), (.int (3) 0), (.ref 466), (.bool true), (.int (181) 0), (.ref 467), .none, (.ref 468), (.ref 469), (.ref 470), (.int (791) 0), (.int (246) 0), (.str "/claim/cut.py" 792)]), #[]⟩),
  (472, kFn "_law_heir" "_law_heir" (topP p 42) (.str "law_forsworn_k25_whole_roads_walked" 698) 471),
  (478, ⟨(.type "code"), none, (.fields #[(.str "_law_folk" 794), (.str "_law_folk" 795), (.str "/claim/cut.py" 796), (.int (252) 0), (.int (3) 0), (.int (0) 0), (.int (0) 0), (.int (3) 0), (.ref 473), (.bool true), (.int (181) 0), (.ref 474), .none, (.ref 475), (.ref 476), (.ref 477), (.int (806) 0), (.int (252) 0), (.str "/claim/cut.py" 807)]), #[]⟩),
  (479, kFn "_law_folk" "_law_folk" (topP p 43) (.str "law_forsworn_k25_whole_roads_walked" 698) 478),
  (483, ⟨(.type "code"), none, (.fields #[(.str "_law_events" 809), (.str "_law_events" 810), (.str "/claim/cut.py" 811), (.int (267) 0), (.int (5) 0), (.int (0) 0), (.int (0) 0), (.int (3) 0), (.ref 480), (.bool true), (.int (181) 0), (.ref 481), .none, .none, .none, (.ref 482), (.int (812) 0), (.int (267) 0), (.str "/claim/cut.py" 813)]), #[]⟩),
  (484, kFn "_law_events" "_law_events" (topP p 44) (.str "law_forsworn_k25_whole_roads_walked" 698) 483),
  (490, ⟨(.type "code"), none, (.fields #[(.str "_law_step_fits" 815), (.str "_law_step_fits" 816), (.str "/claim/cut.py" 817), (.int (287) 0), (.int (4) 0), (.int (0) 0), (.int (0) 0), (.int (3) 0), (.ref 485), (.bool true), (.int (181) 0), (.ref 486), .none, (.ref 487), (.ref 488), (.ref 489), (.int (828) 0), (.int (287) 0), (.str "/claim/cut.py" 829)]), #[]⟩),
  (491, kFn "_law_step_fits" "_law_step_fits" (topP p 45) (.str "law_forsworn_k25_whole_roads_walked" 698) 490),
  (497, ⟨(.type "code"), none, (.fields #[(.str "_law_walks" 831), (.str "_law_walks" 832), (.str "/claim/cut.py" 833), (.int (301) 0), (.int (5) 0), (.int (0) 0), (.int (0) 0), (.int (3) 0), (.ref 492), (.bool true), (.int (181) 0), (.ref 493), .none, (.ref 494), (.ref 495), (.ref 496), (.int (840) 0), (.int (301) 0), (.str "/claim/cut.py" 841)]), #[]⟩),
  (498, kFn "_law_walks" "_law_walks" (topP p 46) (.str "law_forsworn_k25_whole_roads_walked" 698) 497),
  (504, ⟨(.type "code"), none, (.fields #[(.str "law" 843), (.str "law" 844), (.str "/claim/cut.py" 845), (.int (310) 0), (.int (1) 0), (.int (0) 0), (.int (0) 0), (.int (3) 0), (.ref 499), (.bool true), (.int (181) 0), (.ref 500), .none, (.ref 501), (.ref 502), (.ref 503), (.int (856) 0), (.int (310) 0), (.str "/claim/cut.py" 857)]), #[]⟩),
  (505, kFn "law" "law" (topP p 47) (.str "law_forsworn_k25_whole_roads_walked" 698) 504)]
def KK (P : Params) : PySem.W.Frag := Kp PySem.Challenge.pw_forsworn_k25_whole_roads_walked P
def tabl : PySem.W.Frag := [(35, ⟨.none, none, .fields #[], #[]⟩)]
def KTp (p : Program) (P : Params) : PySem.W.Frag := (Kp p P ++ tabl : List (Addr × Obj))
def KTK (P : Params) : PySem.W.Frag := KTp PySem.Challenge.pw_forsworn_k25_whole_roads_walked P
def askd : List Addr := [3, 4, 25, 26, 32, 33, 39, 40, 46, 47, 53, 54, 232, 233, 239, 240, 244, 245, 258, 259, 265, 266, 279, 280, 333, 334, 340, 341, 347, 348, 354, 355, 368, 369, 375, 376, 382, 383, 396, 397, 399, 400, 410, 411, 417, 418, 424, 425, 431, 432, 438, 439, 443, 444, 450, 451, 457, 458, 464, 465, 471, 472, 478, 479, 483, 484, 490, 491, 497, 498, 504, 505, 35]
def HK : PySem.W.Hook := PySem.W.kHook KTK askd fun _ => by kernel_rfl
def q : Program := PySem.W.view PySem.Challenge.pw_forsworn_k25_whole_roads_walked [0, 2, 3, 4, 5, 6, 7, 8, 9, 10, 12, 13, 14, 15, 16, 17, 18, 19, 20, 22, 23, 24, 25, 27, 28, 30, 31, 33, 34, 35, 36, 37, 38, 39, 40, 41, 42, 43, 44, 45, 46, 47]
end Law
lay_quick PySem.Challenge.rw_forsworn_k25_whole_roads_walked Law.q
namespace Law
open PySem L2
set_option maxRecDepth 1000000 in
theorem runQ (w : World) (os : PySem.OsState) : Option.map (fun s => PySem.W.Fast.tw12071799914241796487 (PySem.W.Fast.tw2368527892694137696 PySem.W.Fast.tw16882492433145086763).prog PySem.W.Fast.tw2797900513057943271 [] (fun s => PySem.W.xlAt PySem.W.Fast.tw2797900513057943271 [] s && PySem.W.recOk (PySem.W.Fast.tw2368527892694137696 PySem.W.Fast.tw16882492433145086763).records s) (fun s => askd.map s.heap.get?) w.params s.abs)
    (PySem.W.Fast.tw4652649595001227023 PySem.W.Fast.tw14364793385576792824 (PySem.W.Fast.tw2368527892694137696 PySem.W.Fast.tw16882492433145086763).prog w 11 (some (.ref 6)) 7950 (PySem.W.Fast.tw15095419895629540892 w.params os) (PySem.W.topStub (PySem.W.Fast.tw2368527892694137696 PySem.W.Fast.tw16882492433145086763).prog)) = some (true, PySem.W.openGood PySem.W.Fast.tw2797900513057943271 [], (KTp PySem.W.Fast.tw7713479842140888226 w.params).map fun p => some p.2) := by
  kernel_rfl
theorem left : PySem.W.LeftO PySem.Challenge.rw_forsworn_k25_whole_roads_walked.row.prog q [] (fun s => PySem.W.xlAt q [] s && PySem.W.recOk (PySem.W.RowW.records PySem.Challenge.rw_forsworn_k25_whole_roads_walked.row.toRowW) s) HK.obs HK.val 7950 := by
  refine left_of (by kernel_rfl) (by decide) (fun s => by kernel_rfl) fun w os => ?_
  have h := runQ w os
  rw [← PySem.W.Fast.te12071799914241796487, ← PySem.W.Fast.te4652649595001227023, ← PySem.W.Fast.te15095419895629540892, ← PySem.W.Fast.te2797900513057943271, ← PySem.W.Fast.te2368527892694137696, ← PySem.W.Fast.te16882492433145086763, ← PySem.W.Fast.te14364793385576792824, ← PySem.W.Fast.te7713479842140888226] at h
  exact h
end Law

section
set_option Elab.async false
set_option linter.all false
set_option maxRecDepth 100000
/-! THE HAND LAYER, for ints, bools, texts, own classes, LISTS and tuples (index, slices, in, append, pop ..), calls, loops. Paste it whole ahead of your own text; what your proof does not reach may be deleted. -/
namespace L2
open PySem PySem.Spec PyProof.Rows

/-- a key: an int or a str -/
abbrev Key := Sum Int Str
def keyIs : Key → Value → Bool
  | .inl k, v => Value.isInt k v
  | .inr x, v => Value.isStrOf x v
def keyH (w : World) : Key → Int
  | .inl k => hashInt k
  | .inr x => hashStr w x
theorem keyIs_shape : ∀ {k : Key} {v : Value}, keyIs k v = true → (∃ i t, k = Sum.inl i ∧ v = Value.int i t) ∨ (∃ x t, k = Sum.inr x ∧ v = Value.str x t)
  | .inl i, v, h => by
    obtain ⟨t, e⟩ := Value.isInt_shape (k := i) (v := v) h
    exact .inl ⟨i, t, rfl, e⟩
  | .inr x, v, h => by
    obtain ⟨t, e⟩ := Value.isStrOf_shape (x := x) (v := v) h
    exact .inr ⟨x, t, rfl, e⟩
theorem keyIs_int (i : Int) (t : Tok) : keyIs (.inl i) (.int i t) = true := by simp [keyIs, Value.isInt]
theorem keyIs_str (x : Str) (t : Tok) : keyIs (.inr x) (.str x t) = true := by simp [keyIs, Value.isStrOf]
theorem key_ll (a b : Int) : decide ((Sum.inl a : Key) = Sum.inl b) = (a == b) := by
  by_cases e : a = b
  · subst e; simp
  · have h : ¬ (Sum.inl a : Key) = Sum.inl b := fun q => e (Sum.inl.inj q)
    rw [decide_eq_false h]
    exact (beq_eq_false_iff_ne.mpr e).symm
theorem key_rr (a b : Str) : decide ((Sum.inr a : Key) = Sum.inr b) = decide (a = b) := by
  by_cases e : a = b
  · subst e; simp
  · have h : ¬ (Sum.inr a : Key) = Sum.inr b := fun q => e (Sum.inr.inj q)
    rw [decide_eq_false h, decide_eq_false e]
theorem key_lr (a : Int) (b : Str) : decide ((Sum.inl a : Key) = Sum.inr b) = false := decide_eq_false (fun q => nomatch q)
theorem key_rl (a : Str) (b : Int) : decide ((Sum.inr a : Key) = Sum.inl b) = false := decide_eq_false (fun q => nomatch q)

def mixKind (prog : Program) (w : World) : PySem.KeyKind prog w Key where
  is := keyIs
  hash := keyH w
  inj := fun v a b ha hb => by
    rcases keyIs_shape ha with ⟨i, t, rfl, rfl⟩ | ⟨x, t, rfl, rfl⟩
    · rcases keyIs_shape hb with ⟨j, u, rfl, e⟩ | ⟨y, u, rfl, e⟩
      · injection e with e1 _; rw [e1]
      · exact nomatch e
    · rcases keyIs_shape hb with ⟨j, u, rfl, e⟩ | ⟨y, u, rfl, e⟩
      · exact nomatch e
      · injection e with e1 _; rw [e1]
  byValue := fun k v h => by
    rcases keyIs_shape h with ⟨i, t, rfl, rfl⟩ | ⟨x, t, rfl, rfl⟩ <;> rfl
  pyHash := fun hv h => by
    rcases keyIs_shape hv with ⟨i, t, rfl, rfl⟩ | ⟨x, t, rfl, rfl⟩
    · exact wpAny_pyHash_int h
    · exact wpAny_pyHash_str h
  eqBool := fun hu hv h => by
    rcases keyIs_shape hu with ⟨i, t, rfl, rfl⟩ | ⟨x, t, rfl, rfl⟩
    · rcases keyIs_shape hv with ⟨j, u, rfl, rfl⟩ | ⟨y, u, rfl, rfl⟩
      · rw [key_ll] at h; exact wpAny_eqBool_int h
      · rw [key_lr] at h; exact SeqAt.EqAt.int_str i t y u _ _ _ _ h
    · rcases keyIs_shape hv with ⟨j, u, rfl, rfl⟩ | ⟨y, u, rfl, rfl⟩
      · rw [key_rl] at h; exact SeqAt.EqAt.str_int x t j u _ _ _ _ h
      · rw [key_rr] at h; exact wpAny_eqBool_str h
  «strs» := fun k x t v h => by
    rcases keyIs_shape h with ⟨i, u, rfl, e⟩ | ⟨y, u, rfl, e⟩
    · exact nomatch e
    · injection e with e1 _
      subst e1
      cases v <;> rfl

theorem mixKind_int (prog : Program) (w : World) (i : Int) (t : Tok) : (mixKind prog w).is (.inl i) (.int i t) = true := keyIs_int i t
theorem mixKind_str (prog : Program) (w : World) (x : Str) (t : Tok) : (mixKind prog w).is (.inr x) (.str x t) = true := keyIs_str x t
end L2

namespace L2
open PySem PySem.Spec PyProof.Rows

/-- a value, without the heap -/
inductive V where
  | non | bl (b : Bool) | int (i : Int) | str (x : Str) | byt (b : Array UInt8) | flt (b : UInt64) | ref (a : Addr) | ty (n : String)
  deriving DecidableEq

def RelV : V → Value → Prop
  | .non, u => u = Value.none
  | .bl b, u => u = Value.bool b
  | .int i, u => ∃ t, u = Value.int i t
  | .str x, u => ∃ t, u = Value.str x t
  | .byt b, u => ∃ t, u = Value.bytes b t
  | .flt b, u => ∃ t, u = Value.float b t
  | .ref a, u => u = Value.ref a
  | .ty n, u => u = Value.type n

abbrev Vals : List V → List Value → Prop := Paired RelV
theorem Vals.length {xs : List V} {us : List Value} (r : Vals xs us) : xs.length = us.length := Paired.length r
theorem Vals.get : ∀ {xs : List V} {us : List Value} {i : Nat} {x : V}, Vals xs us → xs[i]? = some x → ∃ u, us[i]? = some u ∧ RelV x u
  | _, _, _, _, .nil, e => by simp at e
  | _, _, 0, _, .cons r _, e => by simp at e; subst e; exact ⟨_, rfl, r⟩
  | _, _, i + 1, x, .cons _ t, e => by
    obtain ⟨u, h1, h2⟩ := Vals.get (i := i) (x := x) t (by simpa using e)
    exact ⟨u, by simpa using h1, h2⟩
theorem Vals.set {x : V} {u : Value} (r : RelV x u) : ∀ {xs : List V} {us : List Value} (i : Nat), Vals xs us → Vals (xs.set i x) (us.set i u)
  | _, _, _, .nil => .nil
  | _, _, 0, .cons _ t => .cons r t
  | _, _, i + 1, .cons q t => .cons q (Vals.set r i t)
theorem Vals.append : ∀ {xs ys : List V} {us ws : List Value}, Vals xs us → Vals ys ws → Vals (xs ++ ys) (us ++ ws)
  | _, _, _, _, .nil, s => s
  | _, _, _, _, .cons r t, s => .cons r (Vals.append t s)
theorem Vals.take : ∀ {xs : List V} {us : List Value} (n : Nat), Vals xs us → Vals (xs.take n) (us.take n)
  | _, _, 0, _ => .nil
  | _, _, _ + 1, .nil => .nil
  | _, _, n + 1, .cons r t => .cons r (Vals.take n t)
theorem Vals.drop : ∀ {xs : List V} {us : List Value} (n : Nat), Vals xs us → Vals (xs.drop n) (us.drop n)
  | _, _, 0, r => r
  | _, _, _ + 1, .nil => .nil
  | _, _, n + 1, .cons _ t => Vals.drop n t
theorem Vals.none_of : ∀ {xs : List V} {us : List Value} {i : Nat}, Vals xs us → xs[i]? = none → us[i]? = none := fun {xs us i} r e => by
  have h1 := r.length
  have h2 : xs.length ≤ i := List.getElem?_eq_none_iff.mp e
  exact List.getElem?_eq_none_iff.mpr (by omega)

def RelO : Option V → Option Value → Prop
  | some v, some u => RelV v u
  | none, none => True
  | _, _ => False
def KV {κ : Type} : List (κ × V) → List (κ × Value) → Prop := Paired fun (p : κ × V) (q : κ × Value) => p.1 = q.1 ∧ RelV p.2 q.2

/-- a key of a dict (00_mix): an int or a text -/
def kV : Key → V
  | .inl i => .int i
  | .inr x => .str x

/-- what stands at a tracked address -/
inductive HO where
  /-- a list -/
  | lst (xs : List V)
  /-- a tuple (never changes) -/
  | tup (xs : List V)
  /-- a dict whose keys are ints and texts; one whose keys are tuples of ints and texts (the empty one is both) -/
  | dK (kvs : List (Key × V)) | dT (kvs : List (List Key × V))
  /-- a set of ints: its members, its size -/
  | set (S : Int → Bool) (n : Nat)
  /-- an instance of the class at C, its dict at dx, its attributes -/
  | ins (C dx : Addr) (fs : List (Str × V))
  /-- the dict of the instance at x -/
  | own (x : Addr)
  /-- the dict of an exception -/
  | xd (fs : List (Str × V))
  /-- a bound method, f of x -/
  | met (f x : Addr)
  /-- a range object lo, lo + 1, .. below hi -/
  | rng (lo hi : Int)
  /-- a thing that is known to the object (the script; a dict while a loop walks it): read, never written while it is so -/
  | frz (o : Obj) (u : HO)
  /-- a code object's table -/
  | tbl (ps : Array Value)
  /-- any other thing, by what is true of its one object (a def of one's own: SetO a S n := HO.ext fun h => ..) -/
  | ext (φ : Heap → Prop)

abbrev Hp := Addr → Option HO
def upd (H : Hp) (a : Addr) (o : HO) : Hp := fun b => if b = a then some o else H b
theorem upd_same {H : Hp} {a : Addr} {o : HO} : upd H a o a = some o := by unfold upd; rw [if_pos rfl]
theorem upd_ne {H : Hp} {a b : Addr} {o : HO} (h : b ≠ a) : upd H a o b = H b := by unfold upd; rw [if_neg h]
/-- two objects of different content stand apart -/
theorem ne_of {H : Hp} {a b : Addr} {o u : HO} (h : H a = some o) (h' : H b = some u) (d : o ≠ u) : a ≠ b := by
  intro e; subst e; rw [h] at h'; exact d (Option.some.inj h')
theorem ne_of_none {H : Hp} {a b : Addr} {o : HO} (h : H a = some o) (h' : H b = none) : a ≠ b := by
  intro e; subst e; rw [h] at h'; cases h'

section
variable (P : Program) (w : World)
def ObjOk (H : Hp) (h : Heap) (a : Addr) : HO → Prop
  | .lst xs => xs.length ≤ sizeLine ∧ ∃ (its : List Value) (n : Nat), Vals xs its ∧ h.get? a = some { cls := .type "list", data := .seq its.toArray n }
  | .tup xs => xs.length ≤ sizeLine ∧ ∃ its : List Value, Vals xs its ∧ IsTup h a its.toArray
  | .dK kvs => kvs.length ≤ sizeLine ∧ (a == sysModules) = false ∧ ∃ vs, KV kvs vs ∧ h.DictOf (mixKind P w) a vs
  | .dT kvs => kvs.length ≤ sizeLine ∧ (a == sysModules) = false ∧ ∃ xs : List (List Key × Addr × Value),
      Paired (fun (p : List Key × V) (q : List Key × Addr × Value) => p.1 = q.1 ∧ H q.2.1 = some (.tup (p.1.map kV)) ∧ RelV p.2 q.2.2) kvs xs ∧
      ∃ o es ep, h.get? a = some o ∧ o.ExactDict ∧ o.data = .dict es ep ∧ es.toList = xs.map (entryOfKey (tupleKind (mixKind P w))) ∧ (xs.map (·.1)).Nodup
  | .set S n => h.SetOf (intKind P w) a S n
  | .ins C dx fs => H dx = some (.own a) ∧ fs.length ≤ 1000 ∧ dx ≠ a ∧ h.get? a = some (PySem.W.instObj C dx) ∧
      ∃ mA, h.Ns1 dx mA ∧ (∀ f, RelO (fs.lookup f) (mA f)) ∧ PySem.Within mA (fs.map (·.1))
  | .own _ => ∃ o, h.get? a = some o
  | .xd fs => ∃ mA, h.Ns1 a mA ∧ ∀ f, RelO (fs.lookup f) (mA f)
  | .rng lo hi => ∃ t u v, h.get? a = some { cls := .type "range", data := .fields #[.int lo t, .int hi u, .int 1 v] }
  | .frz o u => h.get? a = some o ∧ ObjOk H h a u
  | .tbl ps => ∃ (qs : Array Value) (nm : Str) (t : Tok), h.get? a = some { cls := .none, data := .fields qs } ∧ TriplesOk qs.toList ∧ ps[0]? = some (.str nm t) ∧ ∀ pos cv, codeAmong pos qs.toList = some cv → ∃ c, cv = .ref c ∧ H c = some (.own a) ∧ h.CodeRec (.ref c) nm
  | .met f x => h.get? a = some (PySem.W.methodObj (.ref f) (.ref x))
  | .ext φ => φ h ∧ (∃ o, h.get? a = some o) ∧ ∀ h1 h2 : Heap, φ h1 → (∀ o, h1.get? a = some o → h2.get? a = some o) → φ h2
/-- the abstract heap is held -/
def HOk (H : Hp) (h : Heap) : Prop := ∀ a o, H a = some o → ObjOk P w H h a o
end

section
variable {P : Program} {w : World} {H H' : Hp} {h h' : Heap} {a : Addr} {o : HO}
theorem ObjOk.lt (x : ObjOk P w H h a o) : a < h.objs.size := by
  cases o with
  | lst xs => obtain ⟨_, _, _, _, e⟩ := x; exact Heap.lt_size e
  | tup xs => obtain ⟨_, _, _, p⟩ := x; exact p.lt
  | dK kvs => obtain ⟨_, _, _, _, o, _, _, e, _⟩ := x; exact Heap.lt_size e
  | dT kvs => obtain ⟨_, _, _, _, o, _, _, e, _⟩ := x; exact Heap.lt_size e
  | set S n => obtain ⟨o, _, _, _, e, _⟩ := x; exact Heap.lt_size e
  | ins C dx fs => obtain ⟨_, _, _, e, _⟩ := x; exact Heap.lt_size e
  | own y => obtain ⟨_, e⟩ := x; exact Heap.lt_size e
  | xd fs => obtain ⟨_, ⟨_, _, _, e, _⟩, _⟩ := x; exact Heap.lt_size e
  | rng lo hi => obtain ⟨_, _, _, e⟩ := x; exact Heap.lt_size e
  | frz ob u => obtain ⟨e, _⟩ := x; exact Heap.lt_size e
  | tbl ps => obtain ⟨_, _, _, e, _⟩ := x; exact Heap.lt_size e
  | met f y => exact Heap.lt_size (show h.get? a = some _ from x)
  | ext φ => obtain ⟨_, ⟨_, e⟩, _⟩ := x; exact Heap.lt_size e
theorem Paired.mapP {α β : Type} {F G : α → β → Prop} : ∀ {l₁ : List α} {l₂ : List β}, Paired F l₁ l₂ → (∀ a b, F a b → G a b) → Paired G l₁ l₂
  | _, _, .nil, _ => .nil
  | _, _, .cons r t, f => .cons (f _ _ r) (Paired.mapP t f)
/-- what an object's description leans on: its own object, its own dict, the tuples -/
theorem ObjOk.stay (x : ObjOk P w H h a o) (k : ∀ b u, (b = a ∨ H b = some (.own a)) → h.get? b = some u → h'.get? b = some u)
    (ho : ∀ b, H b = some (.own a) → H' b = some (.own a)) (ht : ∀ b xs, H b = some (.tup xs) → H' b = some (.tup xs)) : ObjOk P w H' h' a o := by
  induction o with
  | lst xs => obtain ⟨z, its, n, r, e⟩ := x; exact ⟨z, its, n, r, k _ _ (.inl rfl) e⟩
  | tup xs => obtain ⟨z, its, r, ob, e, c⟩ := x; exact ⟨z, its, r, ob, k _ _ (.inl rfl) e, c⟩
  | dK kvs => obtain ⟨z, y, vs, r, ob, es, ep, e, c⟩ := x; exact ⟨z, y, vs, r, ob, es, ep, k _ _ (.inl rfl) e, c⟩
  | dT kvs =>
    obtain ⟨z, y, xs, r, ob, es, ep, e, c⟩ := x
    exact ⟨z, y, xs, Paired.mapP r fun p q z => ⟨z.1, ht _ _ z.2.1, z.2.2⟩, ob, es, ep, k _ _ (.inl rfl) e, c⟩
  | set S n => obtain ⟨ob, es, ep, t, e, c⟩ := x; exact ⟨ob, es, ep, t, k _ _ (.inl rfl) e, c⟩
  | ins C dx fs =>
    obtain ⟨d, z, ne, e, mA, ⟨od, es, ep, e2, c⟩, r⟩ := x
    exact ⟨ho _ d, z, ne, k _ _ (.inl rfl) e, mA, ⟨od, es, ep, k _ _ (.inr d) e2, c⟩, r⟩
  | own y => obtain ⟨ob, e⟩ := x; exact ⟨ob, k _ _ (.inl rfl) e⟩
  | xd fs => obtain ⟨mA, ⟨od, es, ep, e, c⟩, r⟩ := x; exact ⟨mA, ⟨od, es, ep, k _ _ (.inl rfl) e, c⟩, r⟩
  | rng lo hi => obtain ⟨t, u, v, e⟩ := x; exact ⟨t, u, v, k _ _ (.inl rfl) e⟩
  | frz ob u ih => obtain ⟨e, q⟩ := x; exact ⟨k _ _ (.inl rfl) e, ih q⟩
  | tbl ps =>
    obtain ⟨qs, nm, t, e, z1, z2, z3⟩ := x
    refine ⟨qs, nm, t, k a _ (.inl rfl) e, z1, z2, fun pos cv ec => ?_⟩
    obtain ⟨c, e1, e2, c2, oc, vs, tt, e3, e4, e5⟩ := z3 pos cv ec
    cases e3
    exact ⟨c, e1, ho _ e2, c, oc, vs, tt, rfl, k _ _ (.inr e2) e4, e5⟩
  | met f y =>
    have e : h.get? a = some (PySem.W.methodObj (.ref f) (.ref y)) := x
    show h'.get? a = some (PySem.W.methodObj (.ref f) (.ref y))
    exact k a _ (.inl rfl) e
  | ext φ => obtain ⟨p, ⟨o, e⟩, st⟩ := x; exact ⟨st _ _ p fun o q => k _ _ (.inl rfl) q, ⟨o, k _ _ (.inl rfl) e⟩, st⟩
theorem HOk.lt (x : HOk P w H h) (e : H a = some o) : a < h.objs.size := (x a o e).lt
theorem HOk.fresh (x : HOk P w H h) (e : h.objs.size ≤ a) : H a = none := by
  cases q : H a with
  | none => rfl
  | some u => exact absurd (Nat.lt_of_lt_of_le (x.lt q) e) (Nat.lt_irrefl _)
/-- every object of the heap is kept -/
theorem HOk.kept (x : HOk P w H h) (k : ∀ b u, h.get? b = some u → h'.get? b = some u) : HOk P w H h' := fun a o e =>
  (x a o e).stay (fun b u _ q => k b u q) (fun _ q => q) fun _ _ q => q
/-- a new object is laid and tracked -/
theorem HOk.laid (x : HOk P w H h) (k : ∀ b u, h.get? b = some u → h'.get? b = some u) (hp : h.objs.size ≤ a) (new : ObjOk P w (upd H a o) h' a o) : HOk P w (upd H a o) h' := fun b u e => by
  have hn := x.fresh hp
  by_cases hb : b = a
  · subst hb; rw [upd_same] at e; cases e; exact new
  · rw [upd_ne hb] at e
    exact (x b u e).stay (fun c v _ q => k c v q) (fun c q => by rw [upd_ne (ne_of_none q hn)]; exact q) fun c xs q => by rw [upd_ne (ne_of_none q hn)]; exact q
end

/-- what may be read as u: it is u, or a known u -/
def Rd (H : Hp) (a : Addr) (u : HO) : Prop := H a = some u ∨ ∃ o, H a = some (.frz o u)
theorem Rd.ok {P : Program} {w : World} {H : Hp} {h : Heap} {a : Addr} {u : HO} (r : Rd H a u) (x : HOk P w H h) : ObjOk P w H h a u := by
  rcases r with r | ⟨o, r⟩
  · exact x a u r
  · obtain ⟨_, q⟩ := x a _ r
    exact q
/-- what may be written -/
def Mut : Option HO → Prop
  | some (.lst _) => True
  | some (.dK _) => True
  | some (.dT _) => True
  | some (.set _ _) => True
  | some (.ins _ _ _) => True
  | some (.ext _) => True
  | _ => False
section
variable {P : Program} {w : World} {H : Hp} {h h' : Heap} {x e : Addr} {o' : HO}
/-- the object at e is changed: x itself, or the dict of the instance x -/
theorem HOk.write (ok : HOk P w H h) (mu : Mut (H x)) (he : e = x ∨ H e = some (.own x)) (k : ∀ b u, b ≠ e → h.get? b = some u → h'.get? b = some u) (heo : ∃ u, h'.get? e = some u)
    (new : ObjOk P w (upd H x o') h' x o') : HOk P w (upd H x o') h' := fun b u q => by
  have nown : ∀ c y, H c = some (.own y) → c ≠ x := fun c y r z => by subst z; rw [r] at mu; exact mu
  have ntup : ∀ c xs, H c = some (.tup xs) → c ≠ x := fun c xs r z => by subst z; rw [r] at mu; exact mu
  by_cases hb : b = x
  · subst hb; rw [upd_same] at q; cases q; exact new
  · rw [upd_ne hb] at q
    by_cases hbe : b = e
    · have q' : H b = some (.own x) := by
        rcases he with z | z
        · exact absurd (hbe.trans z) hb
        · rw [hbe]; exact z
      rw [q] at q'; cases q'
      obtain ⟨v, hv⟩ := heo
      exact ⟨v, by rw [hbe]; exact hv⟩
    · refine (ok b u q).stay (fun c v hc r => k c v ?_ r) (fun c r => by rw [upd_ne (nown c b r)]; exact r) fun c xs r => by rw [upd_ne (ntup c xs r)]; exact r
      rcases hc with rfl | hc
      · exact hbe
      · rintro rfl
        rcases he with z | z
        · exact nown c b hc z
        · rw [hc] at z; cases z; exact hb rfl
end

/-! ### kept unless tracked; of the frames at fs (the callers') the slots may change (an exception that passes writes there); of the records at ex (iterators) nothing is said -/
structure Un (fs ex : List Addr) (H H' : Hp) (h h' : Heap) : Prop where
  keep : ∀ b o, h.get? b = some o → H b = none → b ∉ fs → b ∉ ex → h'.get? b = some o
  slot : ∀ b o, h.get? b = some o → H b = none → b ∈ fs → b ∉ ex → ∃ sl, h'.get? b = some { o with slots := sl }
  free : ∀ b o, h.get? b = some o → H b = none → b ∉ ex → H' b = none
  there : ∀ b o, h.get? b = some o → b ∉ ex → ∃ o', h'.get? b = some o'
  tups : ∀ b xs, H b = some (.tup xs) → H' b = some (.tup xs)
  frzs : ∀ b o u, H b = some (.frz o u) → H' b = some (.frz o u)
  tbls : ∀ b ps, H b = some (.tbl ps) → ∃ more, H' b = some (.tbl (ps ++ more))
section
variable {fs fs' ex ex' : List Addr} {H H1 H2 : Hp} {h h1 h2 h' : Heap} {a x e : Addr} {o : HO}
theorem Un.any (u : Un fs ex H H1 h h1) {b : Addr} {ob : Obj} (q : h.get? b = some ob) (n : H b = none) (hx : b ∉ ex) : ∃ sl, h1.get? b = some { ob with slots := sl } := by
  by_cases hb : b ∈ fs
  · exact u.slot b ob q n hb hx
  · exact ⟨ob.slots, u.keep b ob q n hb hx⟩
theorem Un.kept (k : ∀ b u, h.get? b = some u → h'.get? b = some u) : Un fs ex H H h h' :=
  ⟨fun b ob q _ _ _ => k b ob q, fun b ob q _ _ _ => ⟨ob.slots, k b ob q⟩, fun _ _ _ n _ => n, fun b ob q _ => ⟨ob, k b ob q⟩, fun _ _ q => q, fun _ _ _ q => q, fun _ ps q => ⟨#[], by rw [q]; simp⟩⟩
theorem Un.refl : Un fs ex H H h h := Un.kept fun _ _ q => q
theorem Un.laid (k : ∀ b u, h.get? b = some u → h'.get? b = some u) (hp : h.objs.size ≤ a) (hn : H a = none) : Un fs ex H (upd H a o) h h' where
  keep := fun b u q _ _ _ => k b u q
  slot := fun b u q _ _ _ => ⟨u.slots, k b u q⟩
  free := fun b u q n _ => by rw [upd_ne (Nat.ne_of_lt (Nat.lt_of_lt_of_le (Heap.lt_size q) hp))]; exact n
  there := fun b u q _ => ⟨u, k b u q⟩
  tups := fun b xs q => by rw [upd_ne (ne_of_none q hn)]; exact q
  frzs := fun b u xs q => by rw [upd_ne (ne_of_none q hn)]; exact q
  tbls := fun b ps q => ⟨#[], by rw [upd_ne (ne_of_none q hn), q]; simp⟩
theorem Un.write (mu : Mut (H x)) (he : e = x ∨ H e = some (.own x)) (k : ∀ b u, b ≠ e → h.get? b = some u → h'.get? b = some u) (heo : ∃ u, h'.get? e = some u) : Un fs ex H (upd H x o) h h' := by
  have hx : ∀ b, H b = none → b ≠ x := fun b n z => by subst z; rw [n] at mu; exact mu
  have hb : ∀ b, H b = none → b ≠ e := fun b n z => by
    subst z
    rcases he with r | r
    · exact hx b n r
    · rw [n] at r; cases r
  have hm : ∀ b u, H b = some u → ¬ Mut (some u) → b ≠ x := fun b u q nm z => by subst z; rw [q] at mu; exact nm mu
  refine ⟨fun b u q n _ _ => k b u (hb b n) q, fun b u q n _ _ => ⟨u.slots, k b u (hb b n) q⟩, fun b u q n _ => by rw [upd_ne (hx b n)]; exact n, fun b u q _ => ?_,
    fun b xs q => by rw [upd_ne (hm b _ q fun z => z)]; exact q, fun b u xs q => by rw [upd_ne (hm b _ q fun z => z)]; exact q, fun b ps q => ⟨#[], by rw [upd_ne (hm b _ q fun z => z), q]; simp⟩⟩
  by_cases hbe : b = e
  · subst hbe; exact heo
  · exact ⟨u, k b u hbe q⟩
end

/-! ### the heap without what is tracked -/
def trk (h : Heap) (H : Hp) : List Addr := (List.range h.objs.size).filter fun a => (H a).isSome
def hidT (h : Heap) (H : Hp) : Heap := PySem.W.hideAll h (trk h H)
theorem hidT_size (h : Heap) (H : Hp) : (hidT h H).objs.size = h.objs.size := PySem.W.hideAll_size _ _
theorem hidT_get {h : Heap} {H : Hp} {b : Addr} {o : Obj} (e : h.get? b = some o) (n : H b = none) : (hidT h H).get? b = some o :=
  PySem.W.hideAll_get _ e fun hm => by
    have q : (H b).isSome = true := (List.mem_filter.mp hm).2
    rw [n] at q; simp at q
theorem of_hidT {h : Heap} {H : Hp} {b : Addr} {o : Obj} (e : (hidT h H).get? b = some o) : h.get? b = some o ∧ H b = none := by
  have e' : h.get? b = some o := PySem.W.of_hideAll (trk h H) e
  refine ⟨e', ?_⟩
  cases q : H b with
  | none => rfl
  | some x =>
    have hm : b ∈ trk h H := List.mem_filter.mpr ⟨List.mem_range.mpr (Heap.lt_size e'), by simp [q]⟩
    have z : (hidT h H).get? b = none := PySem.W.hideAll_none (trk h H) hm
    rw [z] at e; cases e

/-! ### OpenK's ledger, filled with every new object but one -/
end L2

namespace L2
open PySem PySem.Spec PyProof.Rows

/-- the module's facts, over the base: the heap at the law's entry without what is tracked there -/
structure Mod (K : PySem.W.Frag) (mg : Str → Option Value) (base : Heap) : Prop where
  kin : K.In base
  glob : base.Ns mainGlobals mg
  blt : ∃ mb, base.Ns builtinsNs mb ∧ ∀ x : Str, x ≠ "__name__" → mb x = bootBuiltins x
  nolimit : base.NoLimit

/-- the context: a def's body (or a comprehension's block) running. base: fixed through the whole law; s₀, H₀: the entry; outer: the frames whose slots others may change (a def's callers); stack: all frames that run;
   ex: iterators that were made ahead of the entry and are walked here (a comprehension's); fn: the names whose cells were made at the entry (a def: all; a comprehension's block: its own); calm: not within an except suite; pn: pins that every state bears; xe: what is wanted of an exception that leaves the code -/
structure Cx where
  prog : Program
  w : World
  K : PySem.W.Frag
  mg : Str → Option Value
  base : Heap
  A : Around
  N : List Str
  s₀ : Shared
  H₀ : Hp
  env : Env
  outer : List Env
  stack : List Env
  ex : List Addr
  fn : Str → Bool
  calm : Bool
  pn : List (Addr × Obj)
  xe : Value → Shared → Prop
/-- the callers' frames -/
def frs (l : List Env) : List Addr := l.filterMap (·.frame)
abbrev Cx.fs (X : Cx) : List Addr := frs X.outer

def Vis (sc : Scope) (x : Str) : Prop := sc.names.lookup x = some .local ∨ sc.names.lookup x = some .cell ∨ sc.names.lookup x = some .free
def Loc (sc : Scope) (x : Str) : Prop := sc.names.lookup x = some .local ∨ sc.names.lookup x = some .cell
def Look (env : Env) (h : Heap) (m : Str → Option Value) (x : Str) (u : Value) : Prop :=
  (env.kindOf x = some .local ∧ m x = some u) ∨ ((env.kindOf x = some .cell ∨ env.kindOf x = some .free) ∧ ∃ c, env.cells.lookup x = some c ∧ h.IsCell c (some u))

structure Cx.Ok (X : Cx) : Prop where
  mod : Mod X.K X.mg X.base
  kind : X.env.scope.kind = .function
  glob : X.env.globals = mainGlobals
  blt : X.env.builtins = builtinsNs
  above : X.s₀.heap.objs.size ≤ X.env.locals
  inj : ∀ x y c, X.env.cells.lookup x = some c → X.env.cells.lookup y = some c → x = y
  has : ∀ x, (X.env.kindOf x = some .cell ∨ X.env.kindOf x = some .free) → ∃ c, X.env.cells.lookup x = some c
  cab : ∀ x c, X.fn x = true → X.env.cells.lookup x = some c → X.s₀.heap.objs.size ≤ c
  hd : X.calm = true → X.A.handled = none
  frames : X.A.frames = some X.stack
  stk : X.stack = X.outer ∨ (X.stack = X.env :: X.outer ∧ X.env.frame = some X.env.locals)
  exf : ∀ b ∈ X.ex, b ≠ X.env.locals ∧ ∀ x c, X.env.cells.lookup x = some c → c ≠ b
  bs : ∀ b o, X.base.get? b = some o → X.s₀.heap.get? b = some o ∧ X.H₀ b = none
  bsz : X.base.objs.size ≤ X.s₀.heap.objs.size
  noex : ∀ b o, X.base.get? b = some o → b ∉ X.ex
  exfs : ∀ b ∈ X.ex, b ∉ X.fs
  funs : X.s₀.heap.FunFrames X.base X.outer
  frf : ∀ b ∈ X.fs, X.H₀ b = none

structure Inv (X : Cx) (pins : List (Addr × Obj)) (σ : List (Option V)) (H : Hp) (s : Shared) : Prop where
  ok : X.Ok
  os : s.os = X.s₀.os
  bare : AllBare s.gens
  base : Un X.fs X.ex X.H₀ H X.s₀.heap s.heap
  loc : ∃ m, s.heap.Ns X.env.locals m ∧ ∀ (i : Nat) (x : Str) (v : V), X.N[i]? = some x → σ[i]? = some (some v) → Vis X.env.scope x → ∃ u, RelV v u ∧ Look X.env s.heap m x u
  cell : ∀ x c, X.env.cells.lookup x = some c → ∃ v, s.heap.IsCell c v
  free : H X.env.locals = none
  freeC : ∀ x c, X.env.cells.lookup x = some c → H c = none
  pin : ∀ p ∈ X.pn ++ pins, s.heap.get? p.1 = some p.2 ∧ H p.1 = none ∧ p.1 ≠ X.env.locals ∧ p.1 ∉ X.fs ∧ ∀ v, p.2.data ≠ .cell v
  hok : HOk X.prog X.w H s.heap
  len : σ.length = X.N.length

section
variable {X : Cx} {pins : List (Addr × Obj)} {σ : List (Option V)} {H H' : Hp} {s : Shared} {h' : Heap}

theorem Cx.Ok.nofr (ok : X.Ok) {b : Addr} {o : Obj} (e : X.base.get? b = some o) : b ∉ X.fs := fun hb => by
  have := (ok.funs.mem hb).1
  rw [e] at this; cases this
theorem Inv.bs (I : Inv X pins σ H s) : ∀ b o, X.base.get? b = some o → s.heap.get? b = some o ∧ H b = none := fun b o e =>
  ⟨I.base.keep b o (I.ok.bs b o e).1 (I.ok.bs b o e).2 (I.ok.nofr e) (I.ok.noex b o e), I.base.free b o (I.ok.bs b o e).1 (I.ok.bs b o e).2 (I.ok.noex b o e)⟩
theorem Inv.bk (I : Inv X pins σ H s) : ∀ b o, X.base.get? b = some o → s.heap.get? b = some o := fun b o e => (I.bs b o e).1
theorem Inv.mod (I : Inv X pins σ H s) : Mod X.K X.mg X.base := I.ok.mod
theorem Inv.kIn (I : Inv X pins σ H s) : X.K.In s.heap := I.ok.mod.kin.keeps I.bk
theorem Inv.lt (I : Inv X pins σ H s) : X.env.locals < s.heap.objs.size := let ⟨_, hn, _⟩ := I.loc; hn.lt
theorem Inv.sz (I : Inv X pins σ H s) : X.s₀.heap.objs.size ≤ s.heap.objs.size := Nat.le_trans I.ok.above (Nat.le_of_lt I.lt)
theorem Inv.nofs (I : Inv X pins σ H s) {a : Addr} (h : s.heap.objs.size ≤ a) : a ∉ X.fs := fun hb => by
  obtain ⟨_, o, ho, _⟩ := I.ok.funs.mem hb
  exact absurd (Nat.lt_of_lt_of_le (Heap.lt_size ho) (Nat.le_trans I.sz h)) (Nat.lt_irrefl _)
theorem Inv.cne (I : Inv X pins σ H s) : ∀ x c, X.env.cells.lookup x = some c → c ≠ X.env.locals := fun x c e z => by
  obtain ⟨v, o, ho, hd⟩ := I.cell x c e
  obtain ⟨m, ⟨o', es, ep, ho', hd', _⟩, _⟩ := I.loc
  rw [z, ho'] at ho; cases ho; rw [hd'] at hd; cases hd
theorem Inv.funs (I : Inv X pins σ H s) : s.heap.FunFrames X.base X.outer := by
  have all : ∀ (l : List Env), (∀ b ∈ frs l, b ∈ X.fs) → X.s₀.heap.FunFrames X.base l → s.heap.FunFrames X.base l := by
    intro l
    induction l with
    | nil => intro _ _; trivial
    | cons env r ih =>
      intro hs hl
      obtain ⟨hk, ⟨L, o, hf, hn, ho, hd⟩, hr⟩ := hl
      have hL : L ∈ X.fs := hs L (by unfold frs; rw [List.filterMap_cons, hf]; exact List.mem_cons_self)
      obtain ⟨sl, e⟩ := I.base.slot L o ho (I.ok.frf L hL) hL fun z => I.ok.exfs L z hL
      exact ⟨hk, ⟨L, _, hf, hn, e, hd⟩, ih (fun b hb => hs b (by unfold frs; rw [List.filterMap_cons, hf]; exact List.mem_cons_of_mem _ hb)) hr⟩
  exact all X.outer (fun _ hb => hb) I.ok.funs

/-- the frames that run, for a call -/
theorem Inv.stack (I : Inv X pins σ H s) : s.heap.FunFrames X.base X.stack := by
  rcases I.ok.stk with e | ⟨e, hf⟩
  · rw [e]; exact I.funs
  · rw [e]
    obtain ⟨m, hn, _⟩ := I.loc
    refine .cons (by rw [I.ok.kind]; decide) hf hn ?_ I.funs
    exact Heap.get?_none_of_le (Nat.le_trans I.ok.bsz I.ok.above)
theorem Inv.stkSub (I : Inv X pins σ H s) : ∀ b ∈ frs X.stack, b ∈ X.env.locals :: X.fs := fun b hb => by
  rcases I.ok.stk with e | ⟨e, hf⟩
  · rw [e] at hb; exact List.mem_cons_of_mem _ hb
  · rw [e] at hb
    unfold frs at hb
    rw [List.filterMap_cons, hf] at hb
    exact hb
theorem Inv.stkFree (I : Inv X pins σ H s) : ∀ b ∈ frs X.stack, H b = none := fun b hb => by
  rcases List.mem_cons.mp (I.stkSub b hb) with e | hb
  · rw [e]; exact I.free
  · obtain ⟨_, o, ho, _⟩ := I.ok.funs.mem hb
    exact I.base.free b o ho (I.ok.frf b hb) fun z => I.ok.exfs b z hb

/-- THE STEP: the untracked objects but the frame and the records at ch are kept (the callers' frames up to slots), the frame's map is kept, the new abstract heap is held -/
theorem Inv.step {g' : Array GenState} {t' : Nat} {d' : Drawn} {ch : List Addr} (I : Inv X pins σ H s)
    (hch : ∀ b ∈ ch, (b ∈ X.ex ∨ X.s₀.heap.objs.size ≤ b) ∧ b ≠ X.env.locals ∧ (∀ x c, X.env.cells.lookup x = some c → c ≠ b) ∧ ∀ p ∈ X.pn ++ pins, p.1 ≠ b)
    (keep : ∀ b o, b ≠ X.env.locals → b ∉ X.fs → b ∉ ch → s.heap.get? b = some o → H b = none → h'.get? b = some o)
    (slot : ∀ b o, b ≠ X.env.locals → b ∈ X.fs → b ∉ ch → s.heap.get? b = some o → H b = none → ∃ sl, h'.get? b = some { o with slots := sl }) (free : ∀ b o, b ∉ ch → s.heap.get? b = some o → H b = none → H' b = none)
    (there : ∀ b o, b ∉ ch → s.heap.get? b = some o → ∃ o', h'.get? b = some o')
    (tups : ∀ b xs, H b = some (.tup xs) → H' b = some (.tup xs)) (frzs : ∀ b o u, H b = some (.frz o u) → H' b = some (.frz o u)) (tbls : ∀ b ps, H b = some (.tbl ps) → ∃ more, H' b = some (.tbl (ps ++ more)))
    (ns : ∀ m, s.heap.Ns X.env.locals m → h'.Ns X.env.locals m) (hok : HOk X.prog X.w H' h') (hg : AllBare g') :
    Inv X pins σ H' { s with heap := h', gens := g', drawn := d', toks := t' } := by
  have neL : ∀ b o, X.s₀.heap.get? b = some o → b ≠ X.env.locals := fun b o e => Nat.ne_of_lt (Nat.lt_of_lt_of_le (Heap.lt_size e) I.ok.above)
  have neC : ∀ b o, X.s₀.heap.get? b = some o → b ∉ X.ex → b ∉ ch := fun b o e hx hb => by
    rcases (hch b hb).1 with z | z
    · exact hx z
    · exact absurd (Nat.lt_of_lt_of_le (Heap.lt_size e) z) (Nat.lt_irrefl _)
  have cellK : ∀ x c, X.env.cells.lookup x = some c → ∀ v, s.heap.IsCell c v → h'.IsCell c v := fun x c e v ⟨o, ho, hd⟩ => by
    have nch : c ∉ ch := fun z => (hch c z).2.2.1 x c e rfl
    by_cases hc : c ∈ X.fs
    · obtain ⟨sl, q⟩ := slot c o (I.cne x c e) hc nch ho (I.freeC x c e)
      exact ⟨_, q, hd⟩
    · exact ⟨o, keep c o (I.cne x c e) hc nch ho (I.freeC x c e), hd⟩
  refine ⟨I.ok, I.os, hg, ⟨fun b o e n hb hx => ?_, fun b o e n hb hx => ?_, fun b o e n hx => ?_, fun b o e hx => ?_, fun b xs e => tups b xs (I.base.tups b xs e), fun b o xs e => frzs b o xs (I.base.frzs b o xs e), fun b ps e => ?_⟩, ?_, fun x c e => ?_, ?_, fun x c e => ?_, fun p hp => ?_, hok, I.len⟩
  · exact keep b o (neL b o e) hb (neC b o e hx) (I.base.keep b o e n hb hx) (I.base.free b o e n hx)
  · obtain ⟨sl, e1⟩ := I.base.slot b o e n hb hx
    obtain ⟨sl', e2⟩ := slot b _ (neL b o e) hb (neC b o e hx) e1 (I.base.free b o e n hx)
    exact ⟨sl', e2⟩
  · obtain ⟨o', e1⟩ := I.base.there b o e hx
    exact free b o' (neC b o e hx) e1 (I.base.free b o e n hx)
  · obtain ⟨o', e1⟩ := I.base.there b o e hx
    exact there b o' (neC b o e hx) e1
  · obtain ⟨m1, e1⟩ := I.base.tbls b ps e
    obtain ⟨m2, e2⟩ := tbls b _ e1
    exact ⟨m1 ++ m2, by rw [e2, Array.append_assoc]⟩
  · obtain ⟨m, hn, hl⟩ := I.loc
    refine ⟨m, ns m hn, fun i x v e1 e2 e3 => ?_⟩
    obtain ⟨u, r, l⟩ := hl i x v e1 e2 e3
    refine ⟨u, r, ?_⟩
    rcases l with l | ⟨k, c, e, z⟩
    · exact .inl l
    · exact .inr ⟨k, c, e, cellK x c e _ z⟩
  · obtain ⟨v, z⟩ := I.cell x c e
    exact ⟨v, cellK x c e v z⟩
  · obtain ⟨m, ⟨o, _, _, ho, _⟩, _⟩ := I.loc
    exact free _ o (fun z => (hch _ z).2.1 rfl) ho I.free
  · obtain ⟨v, o, ho, hd⟩ := I.cell x c e
    exact free c o (fun z => (hch c z).2.2.1 x c e rfl) ho (I.freeC x c e)
  · obtain ⟨e, n, ne, nf, d⟩ := I.pin p hp
    have nch : p.1 ∉ ch := fun z => (hch p.1 z).2.2.2 p hp rfl
    exact ⟨keep p.1 p.2 ne nf nch e n, free p.1 p.2 nch e n, ne, nf, d⟩
/-- .. where the frame's own object is kept too -/
theorem Inv.un {t' : Nat} (I : Inv X pins σ H s) (u : Un X.fs [] H H' s.heap h') (hok : HOk X.prog X.w H' h') : Inv X pins σ H' { s with heap := h', toks := t' } := by
  obtain ⟨m, ⟨o, es, ep, ho, r⟩, _⟩ := id I.loc
  obtain ⟨sl, hL⟩ := u.any ho I.free (by simp)
  exact I.step (g' := s.gens) (d' := s.drawn) (ch := []) (fun _ z => nomatch z) (fun b o _ hb _ e n => u.keep b o e n hb (by simp)) (fun b o _ hb _ e n => u.slot b o e n hb (by simp)) (fun b o _ e n => u.free b o e n (by simp)) (fun b o _ e => u.there b o e (by simp)) u.tups u.frzs u.tbls (fun m' hm => by
    obtain ⟨o', es', ep', ho', r'⟩ := hm
    rw [ho] at ho'; cases ho'
    exact ⟨_, es', ep', hL, r'⟩) hok I.bare
/-- behind a call (or a comprehension's block): the slots of this frame may have changed too, the records at ch may have turned -/
theorem Inv.call {g' : Array GenState} {t' : Nat} {d' : Drawn} {ch : List Addr} (I : Inv X pins σ H s) (u : Un (frs X.stack) ch H H' s.heap h') (hok : HOk X.prog X.w H' h') (hg : AllBare g')
    (hch : ∀ b ∈ ch, (b ∈ X.ex ∨ X.s₀.heap.objs.size ≤ b) ∧ b ≠ X.env.locals ∧ (∀ x c, X.env.cells.lookup x = some c → c ≠ b) ∧ ∀ p ∈ X.pn ++ pins, p.1 ≠ b) :
    Inv X pins σ H' { s with heap := h', gens := g', drawn := d', toks := t' } := by
  obtain ⟨m, ⟨o, es, ep, ho, r⟩, _⟩ := id I.loc
  obtain ⟨sl, hL⟩ := u.any ho I.free fun z => (hch _ z).2.1 rfl
  exact I.step (ch := ch) hch (fun b o hL hb hc e n => u.keep b o e n (fun z => (List.mem_cons.mp (I.stkSub b z)).elim hL hb) hc) (fun b o _ _ hc e n => u.any e n hc) (fun b o hc e n => u.free b o e n hc) (fun b o hc e => u.there b o e hc) u.tups u.frzs u.tbls (fun m' hm => by
    obtain ⟨o', es', ep', ho', r'⟩ := hm
    rw [ho] at ho'; cases ho'
    exact ⟨_, es', ep', hL, r'⟩) hok hg
/-- an untracked record of ours (an iterator) has turned -/
theorem Inv.turned {t' : Nat} {it : Addr} (I : Inv X pins σ H s) (k : ∀ b o, b ≠ it → s.heap.get? b = some o → h'.get? b = some o) (hn : H it = none) (hL : it ≠ X.env.locals)
    (h1 : it ∈ X.ex ∨ X.s₀.heap.objs.size ≤ it) (h2 : ∀ x c, X.env.cells.lookup x = some c → c ≠ it) (h3 : ∀ p ∈ X.pn ++ pins, p.1 ≠ it) : Inv X pins σ H { s with heap := h', toks := t' } := by
  have nit : ∀ b u, H b = some u → b ≠ it := fun b u e z => by rw [z, hn] at e; cases e
  refine I.step (g' := s.gens) (d' := s.drawn) (ch := [it]) (fun b hb => ?_) (fun b o _ _ hc e _ => k b o (fun z => hc (by simp [z])) e) (fun b o _ _ hc e _ => ⟨o.slots, k b o (fun z => hc (by simp [z])) e⟩) (fun _ _ _ _ n => n)
    (fun b o hc e => ⟨o, k b o (fun z => hc (by simp [z])) e⟩) (fun _ _ e => e) (fun _ _ _ e => e) (fun b ps e => ⟨#[], by rw [e]; simp⟩) (fun m hm => ?_) (fun b u e => ?_) I.bare
  · have e : b = it := by simpa using hb
    subst e
    exact ⟨h1, hL, h2, h3⟩
  · obtain ⟨o, es, ep, ho, r⟩ := hm
    exact ⟨o, es, ep, k _ o (Ne.symm hL) ho, r⟩
  · refine (I.hok b u e).stay (fun c v hc q => k c v ?_ q) (fun _ q => q) fun _ _ q => q
    rcases hc with z | z
    · rw [z]; exact nit b u e
    · exact nit c _ z
theorem Inv.tok (I : Inv X pins σ H s) (t : Nat) : Inv X pins σ H { s with toks := t } := I.un (h' := s.heap) (t' := t) Un.refl I.hok
/-- all objects kept -/
theorem Inv.kept {t' : Nat} (I : Inv X pins σ H s) (k : ∀ b u, s.heap.get? b = some u → h'.get? b = some u) : Inv X pins σ H { s with heap := h', toks := t' } := I.un (Un.kept k) (I.hok.kept k)
/-- a new object laid and tracked -/
theorem Inv.laid {a : Addr} {o : HO} {t' : Nat} (I : Inv X pins σ H s) (k : ∀ b u, s.heap.get? b = some u → h'.get? b = some u) (hp : s.heap.objs.size ≤ a) (new : ObjOk X.prog X.w (upd H a o) h' a o) :
    Inv X pins σ (upd H a o) { s with heap := h', toks := t' } := I.un (Un.laid k hp (I.hok.fresh hp)) (I.hok.laid k hp new)
/-- an object written -/
theorem Inv.write {x e : Addr} {o : HO} {t' : Nat} (I : Inv X pins σ H s) (mu : Mut (H x)) (he : e = x ∨ H e = some (.own x)) (k : ∀ b u, b ≠ e → s.heap.get? b = some u → h'.get? b = some u) (heo : ∃ u, h'.get? e = some u)
    (new : ObjOk X.prog X.w (upd H x o) h' x o) : Inv X pins σ (upd H x o) { s with heap := h', toks := t' } := I.un (Un.write mu he k heo) (I.hok.write mu he k heo new)
theorem Inv.pins_of {pins' : List (Addr × Obj)} (I : Inv X pins σ H s) (h : ∀ p ∈ pins', s.heap.get? p.1 = some p.2 ∧ H p.1 = none ∧ p.1 ≠ X.env.locals ∧ p.1 ∉ X.fs ∧ ∀ v, p.2.data ≠ .cell v) : Inv X pins' σ H s :=
  ⟨I.ok, I.os, I.bare, I.base, I.loc, I.cell, I.free, I.freeC, fun p hp => (List.mem_append.mp hp).elim (fun z => I.pin p (List.mem_append_left _ z)) (h p), I.hok, I.len⟩

theorem nodup_ix {N : List Str} (hN : N.Nodup) {i j : Nat} {x : Str} (a : N[i]? = some x) (b : N[j]? = some x) : i = j := by
  obtain ⟨h1, e1⟩ := List.getElem?_eq_some_iff.mp a
  obtain ⟨h2, e2⟩ := List.getElem?_eq_some_iff.mp b
  exact (List.getElem_inj hN).mp (e1.trans e2.symm)

/-- a name is stored; what changed -/
theorem store_ok2 {M : Model} {A : Around} {E : Value → Shared → Prop} {i : Nat} {x : Str} {v : V} {u : Value} {Q : Unit → Shared → Prop} (I : Inv X pins σ H s) (hN : X.N.Nodup) (hi : X.N[i]? = some x) (hx : Loc X.env.scope x) (r : RelV v u)
    (h : ∀ s', Inv X pins (σ.set i (some v)) H s' → (∃ a, Heap.SameBut a s.heap s'.heap ∧ (a = X.env.locals ∨ X.env.cells.lookup x = some a)) → Q () s') (hf : X.fn x = true ∨ X.env.scope.names.lookup x = some .local := by first | exact .inl rfl | exact .inr rfl | assumption) : wpAny M A (storeName X.env x u) Q E s := by
  obtain ⟨m, hn, hl⟩ := id I.loc
  have hcls : (X.env.scope.kind == .class || (X.env.scope.kind == .module && X.env.locals != X.env.globals)) = false := by rw [I.ok.kind]; rfl
  have hiσ : i < σ.length := by rw [I.len]; exact (List.getElem?_eq_some_iff.mp hi).1
  have cne := I.cne
  have tracked : ∀ {a : Addr} {h' : Heap}, (∃ o, s.heap.get? a = some o ∧ H a = none) → Heap.SameBut a s.heap h' → HOk X.prog X.w H h' := fun {a h'} ha hs b ob e => by
    obtain ⟨_, _, hfree⟩ := ha
    refine (I.hok b ob e).stay (fun c w' hc q => (hs.2 c ?_).trans q) (fun _ q => q) fun _ _ q => q
    rintro rfl
    rcases hc with rfl | hc
    · rw [hfree] at e; cases e
    · rw [hfree] at hc; cases hc
  rcases hx with hk | hk
  · refine wpAny_storeName_local hk hn (fun h' hn' hs => ?_) hcls
    obtain ⟨oL, _, _, hoL, _⟩ := id hn
    refine h _ ⟨I.ok, I.os, I.bare, ⟨fun b o e n hb hx => ?_, fun b o e n hb hx => ?_, I.base.free, fun b o e hx => ?_, I.base.tups, I.base.frzs, I.base.tbls⟩, ⟨_, hn', fun j y v' e1 e2 e3 => ?_⟩, fun y c e => ?_, I.free, I.freeC, fun p hp => ?_, tracked ⟨oL, hoL, I.free⟩ hs, by simpa using I.len⟩ ⟨_, hs, .inl rfl⟩
    · exact (hs.2 b (Nat.ne_of_lt (Nat.lt_of_lt_of_le (Heap.lt_size e) I.ok.above))).trans (I.base.keep b o e n hb hx)
    · obtain ⟨sl, e1⟩ := I.base.slot b o e n hb hx
      exact ⟨sl, (hs.2 b (Nat.ne_of_lt (Nat.lt_of_lt_of_le (Heap.lt_size e) I.ok.above))).trans e1⟩
    · obtain ⟨o', e1⟩ := I.base.there b o e hx
      exact ⟨o', (hs.2 b (Nat.ne_of_lt (Nat.lt_of_lt_of_le (Heap.lt_size e) I.ok.above))).trans e1⟩
    · by_cases hj : j = i
      · subst hj
        rw [hi] at e1; cases e1
        rw [List.getElem?_set_self hiσ] at e2
        cases e2
        exact ⟨u, r, .inl ⟨hk, by simp⟩⟩
      · rw [List.getElem?_set_ne (Ne.symm hj)] at e2
        obtain ⟨u', r', q⟩ := hl j y v' e1 e2 e3
        refine ⟨u', r', ?_⟩
        rcases q with ⟨k, e⟩ | ⟨k, c, e, z⟩
        · refine .inl ⟨k, ?_⟩
          have : y ≠ x := fun e => hj (nodup_ix hN e1 (e ▸ hi))
          simp [this, e]
        · exact .inr ⟨k, c, e, z.sameBut hs (cne y c e)⟩
    · obtain ⟨w', z⟩ := I.cell y c e
      exact ⟨w', z.sameBut hs (cne y c e)⟩
    · obtain ⟨e, n, ne, nf, d⟩ := I.pin p hp
      exact ⟨(hs.2 p.1 ne).trans e, n, ne, nf, d⟩
  · have hfn : X.fn x = true := by
      rcases hf with z | z
      · exact z
      · rw [z] at hk; cases hk
    obtain ⟨c, hc⟩ := I.ok.has x (.inl hk)
    obtain ⟨w', z⟩ := I.cell x c hc
    refine wpAny_storeName_cell I.ok.kind hk hc z (fun h' hc' hs => ?_)
    obtain ⟨oc, hoc, hocd⟩ := id z
    refine h { s with heap := h' } ⟨I.ok, I.os, I.bare, ⟨fun b o e n hb hx => ?_, fun b o e n hb hx => ?_, I.base.free, fun b o e hx => ?_, I.base.tups, I.base.frzs, I.base.tbls⟩, ⟨m, hn.sameBut hs (Ne.symm (cne x c hc)), fun j y v' e1 e2 e3 => ?_⟩, fun y c' e => ?_, I.free, I.freeC, fun p hp => ?_, tracked ⟨oc, hoc, I.freeC x c hc⟩ hs, by simpa using I.len⟩ ⟨c, hs, .inr hc⟩
    · exact (hs.2 b (Nat.ne_of_lt (Nat.lt_of_lt_of_le (Heap.lt_size e) (I.ok.cab x c hfn hc)))).trans (I.base.keep b o e n hb hx)
    · obtain ⟨sl, e1⟩ := I.base.slot b o e n hb hx
      exact ⟨sl, (hs.2 b (Nat.ne_of_lt (Nat.lt_of_lt_of_le (Heap.lt_size e) (I.ok.cab x c hfn hc)))).trans e1⟩
    · obtain ⟨o', e1⟩ := I.base.there b o e hx
      exact ⟨o', (hs.2 b (Nat.ne_of_lt (Nat.lt_of_lt_of_le (Heap.lt_size e) (I.ok.cab x c hfn hc)))).trans e1⟩
    · by_cases hj : j = i
      · subst hj
        rw [hi] at e1; cases e1
        rw [List.getElem?_set_self hiσ] at e2
        cases e2
        exact ⟨u, r, .inr ⟨.inl hk, c, hc, hc'⟩⟩
      · rw [List.getElem?_set_ne (Ne.symm hj)] at e2
        obtain ⟨u', r', q⟩ := hl j y v' e1 e2 e3
        refine ⟨u', r', ?_⟩
        rcases q with q | ⟨k, c', e, z'⟩
        · exact .inl q
        · refine .inr ⟨k, c', e, z'.sameBut hs ?_⟩
          rintro rfl
          exact hj (nodup_ix hN e1 (I.ok.inj _ _ _ e hc ▸ hi))
    · by_cases hcc : c' = c
      · subst hcc; exact ⟨_, hc'⟩
      · obtain ⟨w2, z2⟩ := I.cell y c' e
        exact ⟨w2, z2.sameBut hs hcc⟩
    · obtain ⟨e, n, ne, nf, d⟩ := I.pin p hp
      refine ⟨(hs.2 p.1 ?_).trans e, n, ne, nf, d⟩
      intro q
      rw [q, hoc] at e
      have q' : oc = p.2 := Option.some.inj e
      exact d w' (by rw [← q']; exact hocd)
theorem store_ok {M : Model} {A : Around} {E : Value → Shared → Prop} {i : Nat} {x : Str} {v : V} {u : Value} {Q : Unit → Shared → Prop} (I : Inv X pins σ H s) (hN : X.N.Nodup) (hi : X.N[i]? = some x) (hx : Loc X.env.scope x) (r : RelV v u)
    (h : ∀ s', Inv X pins (σ.set i (some v)) H s' → Q () s') (hf : X.fn x = true ∨ X.env.scope.names.lookup x = some .local := by first | exact .inl rfl | exact .inr rfl | assumption) : wpAny M A (storeName X.env x u) Q E s :=
  store_ok2 I hN hi hx r (fun s' I' _ => h s' I') hf
/-- behind a call or a block, the state as it is -/
theorem Inv.call' {s' : Shared} {ch : List Addr} (I : Inv X pins σ H s) (ho : s'.os = s.os) (u : Un (frs X.stack) ch H H' s.heap s'.heap) (hok : HOk X.prog X.w H' s'.heap) (hg : AllBare s'.gens)
    (hch : ∀ b ∈ ch, (b ∈ X.ex ∨ X.s₀.heap.objs.size ≤ b) ∧ b ≠ X.env.locals ∧ (∀ x c, X.env.cells.lookup x = some c → c ≠ b) ∧ ∀ p ∈ X.pn ++ pins, p.1 ≠ b) : Inv X pins σ H' s' := by
  obtain ⟨h', g', d', t', o'⟩ := s'
  have e : o' = s.os := ho
  subst e
  exact I.call (g' := g') (t' := t') (d' := d') u hok hg hch
end

/-! ### the judgements -/
/-- an exception: its class, its own dict's address (where it has one), the abstract heap behind it -/
abbrev XK := Value → Option Addr → Hp → Prop
abbrev St := List (Option V)
abbrev VK := V → Hp → Prop
/-- an expression's reading; a test's; an argument list's -/
abbrev TE := St → Hp → VK → Prop
abbrev TT := St → Hp → (Bool → Hp → Prop) → Prop
abbrev TA := St → Hp → (List V → Hp → Prop) → Prop
/-- what is wanted behind a statement -/
structure Ends where
  nx : St → Hp → Prop
  rt : VK
  bk : St → Hp → Prop := fun _ _ => False
  ct : St → Hp → Prop := fun _ _ => False
abbrev TS := Ends → St → Hp → Prop

def EP (X : Cx) (pins : List (Addr × Obj)) (σ : St) (Q : VK) (u : Value) (s' : Shared) : Prop := ∃ v H', Inv X pins σ H' s' ∧ RelV v u ∧ Q v H'
def TP (X : Cx) (pins : List (Addr × Obj)) (σ : St) (Q : Bool → Hp → Prop) (b : Bool) (s' : Shared) : Prop := ∃ H', Inv X pins σ H' s' ∧ Q b H'
def AP (X : Cx) (pins : List (Addr × Obj)) (σ : St) (Q : List V → Hp → Prop) (us : List Value) (s' : Shared) : Prop := ∃ vs H', Inv X pins σ H' s' ∧ Vals vs us ∧ Q vs H'
def SP (X : Cx) (pins : List (Addr × Obj)) (D : Ends) (f : Flow) (s' : Shared) : Prop :=
  match f with
  | .next => ∃ σ' H', Inv X pins σ' H' s' ∧ D.nx σ' H'
  | .brk => ∃ σ' H', Inv X pins σ' H' s' ∧ D.bk σ' H'
  | .cont => ∃ σ' H', Inv X pins σ' H' s' ∧ D.ct σ' H'
  | .ret u => ∃ v σ' H', Inv X pins σ' H' s' ∧ RelV v u ∧ D.rt v H'

def PE (X : Cx) (e : Expr) (t : TE) : Prop :=
  ∀ (pins : List (Addr × Obj)) (s : Shared) (σ : St) (H : Hp) (Q : VK), Inv X pins σ H s → t σ H Q → wpAny (model X.prog X.w) X.A (eval e X.env) (EP X pins σ Q) X.xe s
def PT (X : Cx) (e : Expr) (t : TT) : Prop :=
  ∀ (pins : List (Addr × Obj)) (s : Shared) (σ : St) (H : Hp) (Q : Bool → Hp → Prop), Inv X pins σ H s → t σ H Q → wpAny (model X.prog X.w) X.A (isTrue e X.env (eval e X.env)) (TP X pins σ Q) X.xe s
/-- a test whatever its 'whole' is (and, or) -/
def PW (X : Cx) (e : Expr) (t : TT) : Prop :=
  ∀ (whole : Sem Value) (pins : List (Addr × Obj)) (s : Shared) (σ : St) (H : Hp) (Q : Bool → Hp → Prop), Inv X pins σ H s → t σ H Q → wpAny (model X.prog X.w) X.A (isTrue e X.env whole) (TP X pins σ Q) X.xe s
theorem PW.pt {X : Cx} {e : Expr} {t : TT} (h : PW X e t) : PT X e t := h _
/-- an argument list (no star), from the left -/
def PA (X : Cx) (es : List Expr) (t : TA) : Prop :=
  ∀ (pos : Pos) (pins : List (Addr × Obj)) (s : Shared) (σ : St) (H : Hp) (Q : List V → Hp → Prop), Inv X pins σ H s → t σ H Q → wpAny (model X.prog X.w) X.A (spliced (backTo pos (starEach es X.env))) (AP X pins σ Q) X.xe s
def PS (X : Cx) (st : Stmt) (t : TS) : Prop :=
  ∀ (pins : List (Addr × Obj)) (s : Shared) (σ : St) (H : Hp) (D : Ends), Inv X pins σ H s → t D σ H → wpAny (model X.prog X.w) X.A (exec st X.env) (SP X pins D) X.xe s
def PSs (X : Cx) (st : List Stmt) (t : TS) : Prop :=
  ∀ (pins : List (Addr × Obj)) (s : Shared) (σ : St) (H : Hp) (D : Ends), Inv X pins σ H s → t D σ H → wpAny (model X.prog X.w) X.A (execs st X.env) (SP X pins D) X.xe s
/-- weaken the end -/
theorem thn {α : Type} {t : Sem α} {Q Q' : α → Shared → Prop} {M : Model} {A : Around} {E : Value → Shared → Prop} {s : Shared} (h : wpAny M A t Q E s) (hQ : ∀ a s, Q a s → Q' a s) : wpAny M A t Q' E s := wpAny_mono h hQ fun _ _ x => x
end L2

namespace L2
open PySem PySem.Spec PyProof.Rows
section
variable {X : Cx}


/-! ### names and constants -/
def tVar (i : Nat) : TE := fun σ H Q => ∃ v, σ[i]? = some (some v) ∧ Q v H
def tC (v : V) : TE := fun _ H Q => Q v H
theorem pe_var {i : Nat} {x : Str} {pos : Pos} (hN : X.N[i]? = some x) (hv : Vis X.env.scope x) (hd : (x == ("__debug__" : Str)) = false := by decide) (hcd : (x == ("__classdict__" : Str)) = false := by decide) : PE X (.Name x pos) (tVar i) := by
  intro pins s σ H Q I h
  obtain ⟨v, e, h⟩ := h
  obtain ⟨m, hn, hl⟩ := I.loc
  obtain ⟨u, r, l⟩ := hl i x v hN e hv
  have fin : EP X pins σ Q u s := ⟨v, H, I, r, h⟩
  rcases l with ⟨hk, hm⟩ | ⟨hk, c, hc, hcell⟩
  · exact wpAny_Name (wpAny_loadName_local I.ok.kind hk hn hm fin) hd
  · rcases hk with hk | hk
    · exact wpAny_Name (wpAny_loadName_cell I.ok.kind hk hc hcell fin) hd
    · exact wpAny_Name (wpAny_loadName_free I.ok.kind hk hc hcell fin hcd) hd
theorem pe_int {i j pos} : PE X (.Constant (.int i) j pos) (tC (.int i)) := fun _ _ _ H _ I h => wpAny_Constant_int ⟨.int i, H, I.tok _, ⟨_, rfl⟩, h⟩
theorem pe_bl {b j pos} : PE X (.Constant (.bool b) j pos) (tC (.bl b)) := fun _ _ _ H _ I h => Constant_bool ⟨.bl b, H, I, rfl, h⟩
theorem pe_non {j pos} : PE X (.Constant .none j pos) (tC .non) := fun _ _ _ H _ I h => Constant_none ⟨.non, H, I, rfl, h⟩
theorem pe_str {x j pos} : PE X (.Constant (.str x) j pos) (tC (.str x)) := fun _ _ _ H _ I h => Calls.Constant_str ⟨.str x, H, I.tok _, ⟨_, rfl⟩, h⟩

/-- a global name of the def -/
def Gl (X : Cx) (x : Str) : Prop := X.env.kindOf x = some .globalImplicit
theorem ld_glob {E : Value → Shared → Prop} {pins : List (Addr × Obj)} {s : Shared} {σ : St} {H : Hp} {x : Str} {u : Value} {pos : Pos} {Q : Value → Shared → Prop} (I : Inv X pins σ H s) (hg : Gl X x) (hm : X.mg x = some u) (h : Q u s)
    (hd : (x == ("__debug__" : Str)) = false := by decide) : wpAny (model X.prog X.w) X.A (eval (.Name x pos) X.env) Q E s :=
  Calls.Name_function_global I.ok.kind hg (Calls.loadGlobal_global (by rw [I.ok.glob]; exact I.mod.glob.keeps I.bk) hm h) hd
theorem ld_blt {E : Value → Shared → Prop} {pins : List (Addr × Obj)} {s : Shared} {σ : St} {H : Hp} {x : Str} {u : Value} {pos : Pos} {Q : Value → Shared → Prop} (I : Inv X pins σ H s) (hg : Gl X x) (hm : X.mg x = none) (hv : bootBuiltins x = some u) (h : Q u s)
    (hn : x ≠ "__name__" := by decide) (hd : (x == ("__debug__" : Str)) = false := by decide) : wpAny (model X.prog X.w) X.A (eval (.Name x pos) X.env) Q E s := by
  obtain ⟨mb, h1, h2⟩ := I.mod.blt
  exact Calls.Name_function_global I.ok.kind hg (Calls.loadGlobal_builtin (by rw [I.ok.glob]; exact I.mod.glob.keeps I.bk) hm (by rw [I.ok.blt]; exact h1.keeps I.bk) ((h2 x hn).trans hv) h) hd
/-- a module's constant, a class, a function, as a value -/
theorem pe_glob {x : Str} {v : V} {u : Value} {pos : Pos} (hg : Gl X x) (hm : X.mg x = some u) (r : RelV v u) (hd : (x == ("__debug__" : Str)) = false := by decide) : PE X (.Name x pos) (tC v) :=
  fun _ _ _ H _ I h => ld_glob I hg hm ⟨v, H, I, r, h⟩ hd
theorem pe_bltn {x : Str} {v : V} {u : Value} {pos : Pos} (hg : Gl X x) (hm : X.mg x = none) (hv : bootBuiltins x = some u) (r : RelV v u) (hn : x ≠ "__name__" := by decide) (hd : (x == ("__debug__" : Str)) = false := by decide) : PE X (.Name x pos) (tC v) :=
  fun _ _ _ H _ I h => ld_blt I hg hm hv ⟨v, H, I, r, h⟩ hn hd

/-! ### arithmetic -/
variable {a b : Expr} {ta tb : TE} {pos : Pos}

/-! ### comparisons -/
/-- a comparison as a value, as a test -/
def tB (t : TE) : TT := fun σ H Q => t σ H fun x H1 => ∃ c, x = .bl c ∧ Q c H1
/-- an expression whose value is a bool, as a test -/
theorem pt_val {e : Expr} {t : TE} (h : PE X e t) (he : ∀ whole, isTrue e X.env whole = (do let v ← whole; standAt e.pos; holding [v] (truthy v)) := by intro _; rfl) : PT X e (tB t) := by
  intro pins s σ H Q I hw
  refine isTrue_plain (thn (h pins s σ H _ I hw) fun v s1 ⟨x, H1, I1, r1, q1⟩ => ?_) (he _)
  obtain ⟨d, rfl, q⟩ := q1
  cases r1
  exact wpAny_truthy_bool ⟨H1, I1, q⟩

/-! ### and, or, not -/
variable {tA tB' : TT} {rest : List Expr}
def tAnd (t u : TT) : TT := fun σ H Q => t σ H fun c H1 => if c = true then u σ H1 Q else Q false H1
def tOr (t u : TT) : TT := fun σ H Q => t σ H fun c H1 => if c = true then Q true H1 else u σ H1 Q
def tNot (t : TT) : TT := fun σ H Q => t σ H fun c H1 => Q (!c) H1
theorem pw_and1 (ha : PT X a tA) : PW X (.BoolOp .And [a] pos) tA := by
  intro wh pins s σ H Q I h
  refine isTrue_and (thn (ha pins s σ H Q I h) fun c s1 e => ?_)
  cases c with
  | true => exact isTrue_and_nil e
  | false => exact e
theorem pw_or1 (ha : PT X a tA) : PW X (.BoolOp .Or [a] pos) tA := by
  intro wh pins s σ H Q I h
  refine isTrue_or (thn (ha pins s σ H Q I h) fun c s1 e => ?_)
  cases c with
  | false => exact isTrue_or_nil e
  | true => exact e
theorem pw_and (ha : PT X a tA) (hb : PW X (.BoolOp .And (b :: rest) pos) tB') : PW X (.BoolOp .And (a :: b :: rest) pos) (tAnd tA tB') := by
  intro wh pins s σ H Q I h
  refine isTrue_and (thn (ha pins s σ H _ I h) fun c s1 ⟨H1, I1, q1⟩ => ?_)
  cases c with
  | true => exact hb wh pins s1 σ H1 Q I1 q1
  | false => exact ⟨H1, I1, q1⟩
theorem pw_or (ha : PT X a tA) (hb : PW X (.BoolOp .Or (b :: rest) pos) tB') : PW X (.BoolOp .Or (a :: b :: rest) pos) (tOr tA tB') := by
  intro wh pins s σ H Q I h
  refine isTrue_or (thn (ha pins s σ H _ I h) fun c s1 ⟨H1, I1, q1⟩ => ?_)
  cases c with
  | true => exact ⟨H1, I1, q1⟩
  | false => exact hb wh pins s1 σ H1 Q I1 q1
theorem pt_not (ha : PT X a tA) : PT X (.UnaryOp .Not a pos) (tNot tA) := by
  intro pins s σ H Q I h
  exact isTrue_not (ha pins s σ H (fun c H1 => Q (!c) H1) I h)
/-- .. as values (bools) -/
def tAndV (ta tb : TE) : TE := fun σ H Q => ta σ H fun x H1 => ∃ c, x = .bl c ∧ if c = true then tb σ H1 Q else Q (.bl false) H1
def tOrV (ta tb : TE) : TE := fun σ H Q => ta σ H fun x H1 => ∃ c, x = .bl c ∧ if c = true then Q (.bl true) H1 else tb σ H1 Q
def tNotV (ta : TE) : TE := fun σ H Q => ta σ H fun x H1 => ∃ c, x = .bl c ∧ Q (.bl (!c)) H1
theorem pe_one {op} {t : TE} (h : PE X a t) : PE X (.BoolOp op [a] pos) t := fun pins s σ H Q I hw => BoolOp_one (h pins s σ H Q I hw)
theorem pe_and (ha : PE X a ta) (hb : PE X (.BoolOp .And (b :: rest) pos) tb) : PE X (.BoolOp .And (a :: b :: rest) pos) (tAndV ta tb) := by
  intro pins s σ H Q I h
  refine BoolOp_and (thn (ha pins s σ H _ I h) fun v s1 ⟨x, H1, I1, r1, q1⟩ => ?_)
  obtain ⟨c, rfl, q1⟩ := q1
  cases r1
  refine wpAny_truthy_bool ?_
  cases c with
  | true => exact hb pins s1 σ H1 Q I1 q1
  | false => exact ⟨.bl false, H1, I1, rfl, q1⟩
theorem pe_or (ha : PE X a ta) (hb : PE X (.BoolOp .Or (b :: rest) pos) tb) : PE X (.BoolOp .Or (a :: b :: rest) pos) (tOrV ta tb) := by
  intro pins s σ H Q I h
  refine BoolOp_or (thn (ha pins s σ H _ I h) fun v s1 ⟨x, H1, I1, r1, q1⟩ => ?_)
  obtain ⟨c, rfl, q1⟩ := q1
  cases r1
  refine wpAny_truthy_bool ?_
  cases c with
  | false => exact hb pins s1 σ H1 Q I1 q1
  | true => exact ⟨.bl true, H1, I1, rfl, q1⟩
theorem pe_not (ha : PE X a ta) : PE X (.UnaryOp .Not a pos) (tNotV ta) := by
  intro pins s σ H Q I h
  refine UnaryOp_ (thn (ha pins s σ H _ I h) fun v s1 ⟨x, H1, I1, r1, q1⟩ => ?_)
  obtain ⟨c, rfl, q1⟩ := q1
  cases r1
  exact not_of (wpAny_truthy_bool ⟨.bl (!c), H1, I1, rfl, q1⟩)
/-- a if t else b -/
def tIf (t : TT) (ta tb : TE) : TE := fun σ H Q => t σ H fun c H1 => if c = true then ta σ H1 Q else tb σ H1 Q
theorem pe_ifExp {c : Expr} (hc : PT X c tA) (ha : PE X a ta) (hb : PE X b tb) : PE X (.IfExp c a b pos) (tIf tA ta tb) := by
  intro pins s σ H Q I h
  refine wpAny_IfExp (thn (hc pins s σ H _ I h) fun d s1 ⟨H1, I1, q1⟩ => ?_)
  cases d with
  | true => exact ha pins s1 σ H1 Q I1 q1
  | false => exact hb pins s1 σ H1 Q I1 q1
end
end L2

namespace L2
open PySem PySem.Spec PyProof.Rows

/-! ### a list, a tuple that is read: tracked, frozen, or an object of the module -/
def SqL (K : PySem.W.Frag) (H : Hp) (a : Addr) (xs : List V) : Prop :=
  Rd H a (.lst xs) ∨
    ∃ (o : Obj) (its : Array Value) (n : Nat), K.lookup a = some o ∧ o.cls = .type "list" ∧ o.dict = none ∧ o.data = .seq its n ∧ its.size ≤ sizeLine ∧ Vals xs its.toList
def SqT (K : PySem.W.Frag) (H : Hp) (a : Addr) (xs : List V) : Prop :=
  Rd H a (.tup xs) ∨
    ∃ (o : Obj) (its : Array Value) (n : Nat), K.lookup a = some o ∧ o.cls = .type "tuple" ∧ o.data = .seq its n ∧ its.size ≤ sizeLine ∧ Vals xs its.toList
def absV : Value → Option V
  | .none => some .non
  | .bool b => some (.bl b)
  | .int i _ => some (.int i)
  | .str x _ => some (.str x)
  | .bytes b _ => some (.byt b)
  | .float b _ => some (.flt b)
  | .ref a => some (.ref a)
  | .type n => some (.ty n)
  | _ => none
theorem RelV.abs {x : V} {u : Value} (r : RelV x u) : absV u = some x := by
  cases x with
  | non => cases r; rfl
  | bl _ => cases r; rfl
  | int _ => obtain ⟨t, rfl⟩ := r; rfl
  | str _ => obtain ⟨t, rfl⟩ := r; rfl
  | byt _ => obtain ⟨t, rfl⟩ := r; rfl
  | flt _ => obtain ⟨t, rfl⟩ := r; rfl
  | ref _ => cases r; rfl
  | ty _ => cases r; rfl
theorem RelV.inj {x y : V} {u : Value} (r : RelV x u) (q : RelV y u) : x = y := Option.some.inj (r.abs.symm.trans q.abs)
theorem Vals.inj : ∀ {xs ys : List V} {us : List Value}, Vals xs us → Vals ys us → xs = ys
  | _, _, _, .nil, .nil => rfl
  | _, _, _, .cons r t, .cons r' t' => by rw [r.inj r', Vals.inj t t']
section
variable {X : Cx} {pins : List (Addr × Obj)} {σ : St} {H : Hp} {s : Shared} {a : Addr} {xs ys : List V}
theorem SqL.of {K : PySem.W.Frag} (h : H a = some (.lst xs)) : SqL K H a xs := .inl (.inl h)
theorem SqT.of {K : PySem.W.Frag} (h : H a = some (.tup xs)) : SqT K H a xs := .inl (.inl h)
theorem Inv.list (I : Inv X pins σ H s) (h : SqL X.K H a xs) : ∃ its : List Value, Vals xs its ∧ PlainL s.heap a its.toArray ∧ xs.length ≤ sizeLine := by
  rcases h with h | ⟨o, its, n, hk, hc, hd, hs, hz, r⟩
  · obtain ⟨z, its, n, r, e⟩ := h.ok I.hok
    exact ⟨its, r, ⟨_, n, e, rfl, rfl, rfl⟩, z⟩
  · refine ⟨its.toList, r, ⟨o, n, I.kIn a o hk, hc, hd, by simpa using hs⟩, ?_⟩
    have e := r.length
    simp only [Array.length_toList] at e
    omega
theorem Inv.tuple (I : Inv X pins σ H s) (h : SqT X.K H a xs) : ∃ its : List Value, Vals xs its ∧ IsTup s.heap a its.toArray ∧ xs.length ≤ sizeLine := by
  rcases h with h | ⟨o, its, n, hk, hc, hs, hz, r⟩
  · obtain ⟨z, its, r, p⟩ := h.ok I.hok
    exact ⟨its, r, p, z⟩
  · refine ⟨its.toList, r, ⟨o, I.kIn a o hk, hc, n, by simpa using hs⟩, ?_⟩
    have e := r.length
    simp only [Array.length_toList] at e
    omega
theorem Inv.list_inj (I : Inv X pins σ H s) (h : SqL X.K H a xs) (h' : SqL X.K H a ys) : xs = ys := by
  obtain ⟨its, r, ⟨o, n, e, _, _, d⟩, _⟩ := I.list h
  obtain ⟨its', r', ⟨o', n', e', _, _, d'⟩, _⟩ := I.list h'
  rw [e] at e'; cases e'
  rw [d] at d'
  injection d' with d1 _
  have : its = its' := by simpa using congrArg Array.toList d1
  subst this
  exact r.inj r'
theorem Inv.tuple_inj (I : Inv X pins σ H s) (h : SqT X.K H a xs) (h' : SqT X.K H a ys) : xs = ys := by
  obtain ⟨its, r, ⟨o, e, _, n, d⟩, _⟩ := I.tuple h
  obtain ⟨its', r', ⟨o', e', _, n', d'⟩, _⟩ := I.tuple h'
  rw [e] at e'; cases e'
  rw [d] at d'
  injection d' with d1 _
  have : its = its' := by simpa using congrArg Array.toList d1
  subst this
  exact r.inj r'
end

/-! ### another wish about exceptions -/
abbrev Cx.wish (X : Cx) (E : Value → Shared → Prop) : Cx := { X with xe := E }
/-- no exception leaves -/
abbrev Cx.nox (X : Cx) : Cx := X.wish fun _ _ => False
theorem Cx.Ok.wish {X : Cx} (ok : X.Ok) (E : Value → Shared → Prop) : (X.wish E).Ok :=
  ⟨ok.mod, ok.kind, ok.glob, ok.blt, ok.above, ok.inj, ok.has, ok.cab, ok.hd, ok.frames, ok.stk, ok.exf, ok.bs, ok.bsz, ok.noex, ok.exfs, ok.funs, ok.frf⟩
theorem Cx.Ok.unwish {X : Cx} {E : Value → Shared → Prop} (ok : (X.wish E).Ok) : X.Ok :=
  ⟨ok.mod, ok.kind, ok.glob, ok.blt, ok.above, ok.inj, ok.has, ok.cab, ok.hd, ok.frames, ok.stk, ok.exf, ok.bs, ok.bsz, ok.noex, ok.exfs, ok.funs, ok.frf⟩
section
variable {X : Cx} {pins : List (Addr × Obj)} {σ : St} {H : Hp} {s : Shared} {E : Value → Shared → Prop}
theorem Inv.wish (I : Inv X pins σ H s) (E : Value → Shared → Prop) : Inv (X.wish E) pins σ H s := ⟨I.ok.wish E, I.os, I.bare, I.base, I.loc, I.cell, I.free, I.freeC, I.pin, I.hok, I.len⟩
theorem Inv.unwish (I : Inv (X.wish E) pins σ H s) : Inv X pins σ H s := ⟨I.ok.unwish, I.os, I.bare, I.base, I.loc, I.cell, I.free, I.freeC, I.pin, I.hok, I.len⟩
theorem SP.unwish {D : Ends} {f : Flow} {s' : Shared} (h : SP (X.wish E) pins D f s') : SP X pins D f s' := by
  cases f with
  | next => obtain ⟨σ', H', I, q⟩ := h; exact ⟨σ', H', I.unwish, q⟩
  | brk => obtain ⟨σ', H', I, q⟩ := h; exact ⟨σ', H', I.unwish, q⟩
  | cont => obtain ⟨σ', H', I, q⟩ := h; exact ⟨σ', H', I.unwish, q⟩
  | ret u => obtain ⟨v, σ', H', I, r, q⟩ := h; exact ⟨v, σ', H', I.unwish, r, q⟩
theorem PSs.nox {st : List Stmt} {t : TS} (h : PSs X.nox st t) : PSs X st t := fun pins s σ H D I hw =>
  wpAny_mono (h pins s σ H D (I.wish _) hw) (fun _ _ q => q.unwish) fun _ _ z => False.elim z
end

/-! ### blocks and small statements -/
section
variable {X : Cx} {st : Stmt} {rest : List Stmt} {t u : TS} {e : Expr} {te : TE} {pos : Pos}
def tNext : TS := fun D σ H => D.nx σ H
def tSeq (t u : TS) : TS := fun D σ H => t { D with nx := u D } σ H
theorem pss_nil : PSs X [] tNext := fun _ _ σ H _ I h => wpAny_execs_nil ⟨σ, H, I, h⟩
theorem pss_cons (h1 : PS X st t) (h2 : PSs X rest u) : PSs X (st :: rest) (tSeq t u) := by
  intro pins s σ H D I h
  refine wpAny_execs_cons (thn (h1 pins s σ H { D with nx := u D } I h) fun f s1 q => ?_)
  cases f with
  | next =>
    obtain ⟨σ', H', I', q⟩ := q
    exact h2 pins s1 σ' H' D I' q
  | ret v => exact q
  | brk => exact q
  | cont => exact q
theorem pss_one (h1 : PS X st t) : PSs X [st] t := by
  intro pins s σ H D I h
  refine wpAny_execs_cons (thn (h1 pins s σ H D I h) fun f s1 q => ?_)
  cases f with
  | next => exact wpAny_execs_nil q
  | ret v => exact q
  | brk => exact q
  | cont => exact q
/-- in a def's body nothing is shown -/
theorem Inv.quiet {pins : List (Addr × Obj)} {σ : St} {H : Hp} {s : Shared} (I : Inv X pins σ H s) : interactive X.env = false := by simp [interactive, I.ok.kind]
/-- an expression whose value is dropped -/
def tDrop (te : TE) : TS := fun D σ H => te σ H fun _ H1 => D.nx σ H1
theorem ps_expr (he : PE X e te) (hs : swapsWith e none pos.line X.env = pure false := by rfl) : PS X (.Expr e pos) (tDrop te) := by
  intro pins s σ H D I h
  exact wpAny_Expr_any (thn (he pins s σ H _ I h) fun v s1 ⟨x, H1, I1, r1, q1⟩ => ⟨σ, H1, I1, q1⟩) I.quiet hs
def tRet (te : TE) : TS := fun D σ H => te σ H D.rt
theorem ps_ret (he : PE X e te) : PS X (.Return (some e) pos) (tRet te) := by
  intro pins s σ H D I h
  exact wpAny_Return_some (thn (he pins s σ H _ I h) fun v s1 ⟨x, H1, I1, r1, q1⟩ => ⟨x, σ, H1, I1, r1, q1⟩)
def tIfS (c : TT) (t u : TS) : TS := fun D σ H => c σ H fun b H1 => if b = true then t D σ H1 else u D σ H1
theorem ps_if {c : Expr} {a b : List Stmt} {tc : TT} (hc : PT X c tc) (ha : PSs X a t) (hb : PSs X b u) : PS X (.If c a b pos) (tIfS tc t u) := by
  intro pins s σ H D I h
  refine wpAny_If (thn (hc pins s σ H _ I h) fun d s1 ⟨H1, I1, q1⟩ => ?_)
  cases d with
  | true => exact ha pins s1 σ H1 D I1 q1
  | false => exact hb pins s1 σ H1 D I1 q1
end

/-! ### targets -/
abbrev TG := V → St → Hp → (St → Hp → Prop) → Prop
abbrev TGs := List V → St → Hp → (St → Hp → Prop) → Prop
def PG (X : Cx) (target : Expr) (t : TG) : Prop :=
  ∀ (pins : List (Addr × Obj)) (s : Shared) (σ : St) (H : Hp) (v : V) (u : Value) (Q : St → Hp → Prop), Inv X pins σ H s → RelV v u → t v σ H Q →
    wpAny (model X.prog X.w) X.A (assign target X.env u) (fun _ s' => ∃ σ' H', Inv X pins σ' H' s' ∧ Q σ' H') X.xe s
/-- several targets, one after another -/
def PGs (X : Cx) (ts : List Expr) (t : TGs) : Prop :=
  ∀ (pins : List (Addr × Obj)) (s : Shared) (σ : St) (H : Hp) (vs : List V) (us : List Value) (Q : St → Hp → Prop), Inv X pins σ H s → Vals vs us → t vs σ H Q →
    wpAny (model X.prog X.w) X.A (assignInOrder ((assignEach ts X.env).map (·.2)) us) (fun _ s' => ∃ σ' H', Inv X pins σ' H' s' ∧ Q σ' H') X.xe s
/-- o[i] = v, by values -/
abbrev TSet := V → V → V → Hp → (Hp → Prop) → Prop
def PSet (X : Cx) (t : TSet) : Prop :=
  ∀ (pins : List (Addr × Obj)) (s : Shared) (σ : St) (H : Hp) (o i v : V) (ov iv u : Value) (Q : Hp → Prop), Inv X pins σ H s → RelV o ov → RelV i iv → RelV v u → t o i v H Q →
    wpAny (model X.prog X.w) X.A (setItem ov iv u) (fun _ s' => ∃ H', Inv X pins σ H' s' ∧ Q H') X.xe s
/-- a op= b, by values -/
abbrev TIp := V → V → Hp → VK → Prop
def PIp (X : Cx) (op : Operator) (t : TIp) : Prop :=
  ∀ (pins : List (Addr × Obj)) (s : Shared) (σ : St) (H : Hp) (x y : V) (v u : Value) (Q : VK), Inv X pins σ H s → RelV x v → RelV y u → t x y H Q →
    wpAny (model X.prog X.w) X.A (inplaceOp op v u) (EP X pins σ Q) X.xe s
section
variable {X : Cx} {pos : Pos}
def gName (i : Nat) : TG := fun v σ H Q => Q (σ.set i (some v)) H
theorem pg_name {i : Nat} {x : Str} (hN : X.N.Nodup) (hi : X.N[i]? = some x) (hx : Loc X.env.scope x) (hf : X.fn x = true ∨ X.env.scope.names.lookup x = some .local := by first | exact .inl rfl | exact .inr rfl | assumption) : PG X (.Name x pos) (gName i) := by
  intro pins s σ H v u Q I r h
  exact wpAny_assign_Name (store_ok I hN hi hx r (fun s' I' => ⟨_, H, I', h⟩) hf)
def gNil : TGs := fun vs σ H Q => vs = [] ∧ Q σ H
def gCons (t : TG) (u : TGs) : TGs := fun vs σ H Q => ∃ v r, vs = v :: r ∧ t v σ H fun σ' H' => u r σ' H' Q
theorem pgs_nil : PGs X [] gNil := by
  intro pins s σ H vs us Q I r h
  obtain ⟨e, h⟩ := h
  subst e
  cases r
  exact assignInOrder_nil ⟨σ, H, I, h⟩
theorem pgs_cons {e : Expr} {es : List Expr} {t : TG} {u : TGs} (h1 : PG X e t) (h2 : PGs X es u)
    (hs : (assignEach (e :: es) X.env).map (·.2) = assign e X.env :: (assignEach es X.env).map (·.2) := by rfl) : PGs X (e :: es) (gCons t u) := by
  intro pins s σ H vs us Q I r h
  obtain ⟨v, vr, e1, h⟩ := h
  subst e1
  cases r with
  | cons r rr =>
    rw [hs]
    refine assignInOrder_cons (thn (h1 pins s σ H _ _ _ I r h) fun _ s1 ⟨σ1, H1, I1, q1⟩ => ?_)
    exact h2 pins s1 σ1 H1 _ _ Q I1 rr q1
/-- (a, b, ..) = a tuple of that length -/
def gTup (K : PySem.W.Frag) (n : Nat) (t : TGs) : TG := fun v σ H Q => ∃ a xs, v = .ref a ∧ SqT K H a xs ∧ xs.length = n ∧ t xs σ H Q
theorem pg_tup {es : List Expr} {k : Nat} {t : TGs} {n : Nat} (hc : X.calm = true) (h : PGs X es t)
    (hn : (assignEach es X.env).length = n := by rfl) (hst : (assignEach es X.env).findIdx? (·.1) = none := by rfl) : PG X (.Tuple es k pos) (gTup X.K n t) := by
  intro pins s σ H v u Q I r hw
  obtain ⟨a, xs, e1, hq, hl, hw⟩ := hw
  subst e1
  cases r
  obtain ⟨its, rv, ht, hz⟩ := I.tuple hq
  refine assign_Tuple_tuple (I.ok.hd hc) ht (by simp [hn, ← hl, rv.length]) hst fun h' hx => ?_
  have I1 : Inv X pins σ H { s with heap := h' } := I.kept (t' := s.toks) fun b o e => hx b o (Nat.ne_of_lt (Heap.lt_size e)) e
  exact h pins _ σ H xs _ Q I1 (by simpa using rv) hw
/-- o[i] = .. -/
def gSub (to ti : TE) (t : TSet) : TG := fun v σ H Q => to σ H fun o H1 => ti σ H1 fun i H2 => t o i v H2 fun H3 => Q σ H3
theorem pg_sub {o i : Expr} {to ti : TE} {t : TSet} (ho : PE X o to) (hi : PE X i ti) (hs : PSet X t)
    (ha : ∀ v, assign (.Subscript o i pos) X.env v = (do
      let ov ← holding [v] (eval o X.env)
      let iv ← holding [v, ov] (eval i X.env)
      standAt pos
      holding [v, ov, iv] (setItem ov iv v)
      release [v, ov, iv] []) := by intro _; rfl) : PG X (.Subscript o i pos) (gSub to ti t) := by
  intro pins s σ H v u Q I r h
  rw [ha]
  refine wpAny_bind (wpAny_holding (thn (ho pins s σ H _ I h) fun ov s1 ⟨x, H1, I1, r1, q1⟩ => ?_))
  refine wpAny_bind (wpAny_holding (thn (hi pins s1 σ H1 _ I1 q1) fun iv s2 ⟨y, H2, I2, r2, q2⟩ => ?_))
  refine wpAny_bind (wpAny_standAt (wpAny_bind (wpAny_holding (thn (hs pins s2 σ H2 x y v ov iv u _ I2 r1 r2 r q2) fun _ s3 ⟨H3, I3, q3⟩ => ?_))))
  exact wpAny_release ⟨σ, H3, I3, q3⟩
/-- target = value -/
def tAsg (te : TE) (g : TG) : TS := fun D σ H => te σ H fun x H1 => g x σ H1 D.nx
theorem ps_asg {tg e : Expr} {te : TE} {g : TG} (he : PE X e te) (hg : PG X tg g) (hs : swapsWithSole [tg] e pos.line X.env = pure false := by rfl) (hw : swappedStores [tg] e X.env = pure none := by rfl)
    (h1 : (assignEach [tg] X.env).map (·.2) = [assign tg X.env] := by rfl) : PS X (.Assign [tg] e pos) (tAsg te g) := by
  intro pins s σ H D I h
  refine wpAny_Assign_stores (thn (he pins s σ H _ I h) fun v s1 ⟨x, H1, I1, r1, q1⟩ => ?_) hs hw
  rw [h1]
  exact thn (hg pins s1 σ H1 x v _ I1 r1 q1) fun _ s2 q => q
/-- name = value -/
theorem ps_set {i : Nat} {x : Str} {e : Expr} {te : TE} {pos' : Pos} (hN : X.N.Nodup) (hi : X.N[i]? = some x) (hx : Loc X.env.scope x) (he : PE X e te) (hs : swapsWith e (some (.Name x pos')) pos.line X.env = pure false := by rfl) (hf : X.fn x = true ∨ X.env.scope.names.lookup x = some .local := by first | exact .inl rfl | exact .inr rfl | assumption) :
    PS X (.Assign [.Name x pos'] e pos) (tAsg te (gName i)) := by
  intro pins s σ H D I h
  refine wpAny_Assign_Name (thn (he pins s σ H _ I h) fun v s1 ⟨y, H1, I1, r1, q1⟩ => ?_) hs
  exact store_ok I1 hN hi hx r1 (fun s2 I2 => ⟨_, H1, I2, q1⟩) hf
end

/-! ### while -/
section
variable {X : Cx} {pos : Pos}
/-- the invariant W with its measure -/
def tWhile (c : TT) (tb : TS) : TS := fun D σ H => ∃ W : Nat → St → Hp → Prop, (∃ m, W m σ H) ∧ ∀ m σ H, W m σ H →
  c σ H fun b H1 => if b = true then ∃ N : St → Hp → Prop, (∀ σ' H', N σ' H' → ∃ m', m' < m ∧ W m' σ' H') ∧ tb { D with nx := N, ct := N, bk := D.nx } σ H1 else D.nx σ H1
theorem ps_while {c : Expr} {body : List Stmt} {tc : TT} {tb : TS} (hp : PassesOwn (model X.prog X.w) X.A X.env X.xe) (hc : PT X c tc) (hb : PSs X body tb) : PS X (.While c body [] pos) (tWhile tc tb) := by
  intro pins s σ H D I h
  obtain ⟨W, ⟨m0, w0⟩, turn⟩ := h
  refine wpAny_While (codeAny_whileLoop (fun n s' => ∃ σ' H', Inv X pins σ' H' s' ∧ W n σ' H') ?_ m0 ⟨σ, H, I, w0⟩)
  rintro n s1 ⟨σ1, H1, I1, w1⟩
  refine wpAny_passesOwn hp (thn (hc pins s1 σ1 H1 _ I1 (turn n σ1 H1 w1)) fun b s2 ⟨H2, I2, q2⟩ => ?_)
  cases b with
  | true =>
    obtain ⟨N, hN, q2⟩ := q2
    rw [if_pos rfl]
    refine wpAny_passesOwn hp (thn (hb pins s2 σ1 H2 _ I2 q2) fun f s3 q3 => ?_)
    cases f with
    | next =>
      obtain ⟨σ3, H3, I3, n3⟩ := q3
      obtain ⟨m', hm, w3⟩ := hN σ3 H3 n3
      exact ⟨m', hm, σ3, H3, I3, w3⟩
    | cont =>
      obtain ⟨σ3, H3, I3, n3⟩ := q3
      obtain ⟨m', hm, w3⟩ := hN σ3 H3 n3
      exact ⟨m', hm, σ3, H3, I3, w3⟩
    | brk => exact q3
    | ret v => exact q3
  | false =>
    rw [if_neg Bool.false_ne_true]
    exact wpAny_execs_nil ⟨σ1, H2, I2, q2⟩
end

/-! ### what a loop or a comprehension walks -/
/-- at turn i: it yields x (the heap may grow), or it stops -/
structure It where
  go : Nat → Hp → Prop
  yld : Nat → Hp → V → Hp → Prop
  stop : Nat → Hp → Prop
/-- the iterator's own objects may turn: they are not the frame's, not pinned, younger than the entry (or a comprehension's own) -/
def FpOk (X : Cx) (pins : List (Addr × Obj)) (H : Hp) (b : Addr) : Prop :=
  H b = none ∧ b ≠ X.env.locals ∧ b ∉ X.fs ∧ (b ∈ X.ex ∨ X.s₀.heap.objs.size ≤ b) ∧ (∀ x c, X.env.cells.lookup x = some c → c ≠ b) ∧ ∀ p ∈ X.pn ++ pins, p.1 ≠ b
theorem Inv.fpOk {X : Cx} {pins : List (Addr × Obj)} {σ : St} {H H' : Hp} {s : Shared} {b : Addr} (I : Inv X pins σ H s) (hb : s.heap.objs.size ≤ b) (hn : H' b = none) : FpOk X pins H' b := by
  refine ⟨hn, Nat.ne_of_gt (Nat.lt_of_lt_of_le I.lt hb), I.nofs hb, .inr (Nat.le_trans I.sz hb), fun x c e z => ?_, fun p hp z => ?_⟩
  · obtain ⟨v, q⟩ := I.cell x c e
    exact absurd (Nat.lt_of_lt_of_le q.lt (by rw [z]; exact hb)) (Nat.lt_irrefl _)
  · exact absurd (Nat.lt_of_lt_of_le (Heap.lt_size (I.pin p hp).1) (by rw [z]; exact hb)) (Nat.lt_irrefl _)
structure Turn (P : Program) (w : World) (K : PySem.W.Frag) (tg : Expr) (J : It) (fp : List Addr) (it : Addr) (tn : Nat → Heap → Prop) : Prop where
  mem : it ∈ fp
  obj : ∀ i h, tn i h → ∀ b ∈ fp, ∃ o, h.get? b = some o ∧ ∀ v, o.data ≠ .cell v
  keep : ∀ i h h', tn i h → (∀ b ∈ fp, ∀ o, h.get? b = some o → h'.get? b = some o) → tn i h'
  item : ∀ (X : Cx), X.prog = P → X.w = w → X.K = K → X.calm = true → ∀ (i : Nat) (pins : List (Addr × Obj)) (s : Shared) (σ : St) (H : Hp) (E : Value → Shared → Prop), Inv X pins σ H s → (∀ b ∈ fp, FpOk X pins H b) → tn i s.heap → J.go i H →
    wpAny (model P w) X.A (pyNext (.ref it)) (fun r s1 => ∃ u, r = some u ∧
      wpAny (model P w) X.A (letOwnedTupleGo tg (.ref it) u) (fun _ s2 => ∃ x H', Inv X pins σ H' s2 ∧ RelV x u ∧ J.yld i H x H' ∧ tn (i + 1) s2.heap ∧ ∀ b ∈ fp, H' b = none) E s1) E s
  done : ∀ (X : Cx), X.prog = P → X.w = w → X.K = K → X.calm = true → ∀ (i : Nat) (pins : List (Addr × Obj)) (s : Shared) (σ : St) (H : Hp) (E : Value → Shared → Prop), Inv X pins σ H s → (∀ b ∈ fp, FpOk X pins H b) → tn i s.heap → J.stop i H →
    wpAny (model P w) X.A (pyNext (.ref it)) (fun r s1 => r = none ∧ Inv X pins σ H s1) E s
  self : ∀ (A : Around) (i : Nat) (s : Shared) (Q : Value → Shared → Prop) (E : Value → Shared → Prop), tn i s.heap → Q (.ref it) s → wpAny (model P w) A (pyIter (.ref it)) Q E s
abbrev TI := St → Hp → (It → Hp → Prop) → Prop
/-- an iterator has come -/
def PIE (X : Cx) (pins : List (Addr × Obj)) (σ : St) (tg : Expr) (R : It → Hp → Prop) (itv : Value) (s2 : Shared) : Prop :=
  ∃ (it : Addr) (fp : List Addr) (tn : Nat → Heap → Prop) (J : It) (H' : Hp), itv = .ref it ∧ Inv X pins σ H' s2 ∧ Turn X.prog X.w X.K tg J fp it tn ∧ tn 0 s2.heap ∧ (∀ b ∈ fp, FpOk X pins H' b) ∧ R J H'
def PI (X : Cx) (tg iter : Expr) (wi : TI) : Prop :=
  ∀ (pins : List (Addr × Obj)) (s : Shared) (σ : St) (H : Hp) (R : It → Hp → Prop), Inv X pins σ H s → wi σ H R →
    wpAny (model X.prog X.w) X.A (eval iter X.env) (fun v s1 => wpAny (model X.prog X.w) X.A (pyIter v) (PIE X pins σ tg R) X.xe s1) X.xe s

/-- the step ahead of the store is nothing for an iterator that keeps no tuple -/
theorem go_of {M : Model} {A : Around} {E : Value → Shared → Prop} {s : Shared} {tg : Expr} {it : Addr} {u : Value} {o : Obj} {n : String} {vs : Array Value} {Q : Unit → Shared → Prop} (ho : s.heap.get? it = some o) (hc : o.cls = .type n) (hd : o.data = .fields vs)
    (hn : ["enumerate", "zip", "dict_itemiterator", "dict_reverseitemiterator", "odict_iterator", "itertools.zip_longest", "itertools.pairwise"].contains n = false) (hQ : Q () s) : wpAny M A (letOwnedTupleGo tg (.ref it) u) Q E s := by
  unfold letOwnedTupleGo
  cases tg <;> first
    | exact wpAny_pure hQ
    | (cases u <;> first
        | exact wpAny_pure hQ
        | (refine wpAny_bind (wpAny_load ho ?_)
           rw [hc, hd]
           show wpAny M A (if (["enumerate", "zip", "dict_itemiterator", "dict_reverseitemiterator", "odict_iterator", "itertools.zip_longest", "itertools.pairwise"].contains n && vs[0]? == some (rawInt _)) = true then _ else _) Q E s
           rw [if_neg (by intro h; rw [hn, Bool.false_and] at h; cases h)]
           exact wpAny_pure hQ))

/-- the list at a, as it stands at each turn (a loop may append to it) -/
def Itl (K : PySem.W.Frag) (a : Addr) : It :=
  ⟨fun i H => ∃ xs x, SqL K H a xs ∧ xs[i]? = some x, fun i H x H' => H' = H ∧ ∀ xs, SqL K H a xs → xs[i]? = some x, fun i H => ∃ xs, SqL K H a xs ∧ xs.length ≤ i⟩
/-- lo, lo + 1, .. (n of them) -/
def Itr (lo : Int) (n : Nat) : It := ⟨fun i _ => i < n, fun i H x H' => H' = H ∧ x = .int (lo + i), fun i _ => n ≤ i⟩
theorem turn_list {P : Program} {w : World} {K : PySem.W.Frag} {tg : Expr} (a it : Addr) : Turn P w K tg (Itl K a) [it] it (fun i h => h.IsListIter it a i) where
  mem := by simp
  obj := fun i h st b hb => by
    have e : b = it := by simpa using hb
    subst e
    obtain ⟨o, e, c, d⟩ := st
    exact ⟨o, e, fun v z => by rw [d] at z; cases z⟩
  keep := fun i h h' st k => st.at fun o e => k it (by simp) o e
  item := by
    intro X hP hw hK hc i pins s σ H E I hf st hg
    subst hP hw hK
    obtain ⟨xs, x, hq, hx⟩ := hg
    obtain ⟨its, rv, p, hz⟩ := I.list hq
    obtain ⟨u, hu, ru⟩ := rv.get hx
    obtain ⟨f0, f1, f2, f3, f4, f5⟩ := hf it (by simp)
    refine wpAny_pyNext_list_item st p.isList (x := u) (by simpa using hu) fun h' st' sb => ?_
    have I1 : Inv X pins σ H { s with heap := h' } := I.turned (t' := s.toks) (fun b o hb e => (sb.2 b hb).trans e) f0 f1 f3 f4 f5
    obtain ⟨o, e, c, d⟩ := id st'
    exact ⟨u, rfl, go_of (s := { s with heap := h' }) e c d (by decide) ⟨x, H, I1, ru, ⟨rfl, fun ys hy => by rw [I.list_inj hy hq]; exact hx⟩, st', fun b hb => (hf b hb).1⟩⟩
  done := by
    intro X hP hw hK hc i pins s σ H E I hf st hg
    subst hP hw hK
    obtain ⟨xs, hq, hx⟩ := hg
    obtain ⟨its, rv, p, hz⟩ := I.list hq
    obtain ⟨f0, f1, f2, f3, f4, f5⟩ := hf it (by simp)
    have hl := rv.length
    exact wpAny_pyNext_list_end (I.ok.hd hc) st p.isList (by simp; omega) fun h' eb => ⟨rfl, I.turned (t' := s.toks) (fun b o hb e => eb b o hb e) f0 f1 f3 f4 f5⟩
  self := fun _ _ _ _ _ st h => wpAny_pyIter_listiter st h
theorem turn_range {P : Program} {w : World} {K : PySem.W.Frag} {tg : Expr} (it : Addr) (lo : Int) (n : Nat) : Turn P w K tg (Itr lo n) [it] it (fun i h => IsRangeIter h it (lo + (i : Nat) * 1) ((n : Int) - (i : Nat)) 1) where
  mem := by simp
  obj := fun i h st b hb => by
    have e : b = it := by simpa using hb
    subst e
    exact ⟨_, st, fun v z => by
      have z' : Data.fields _ = Data.cell v := z
      cases z'⟩
  keep := fun i h h' st k => k it (by simp) _ st
  item := by
    intro X hP hw hK hc i pins s σ H E I hf st hg
    subst hP hw hK
    obtain ⟨f0, f1, f2, f3, f4, f5⟩ := hf it (by simp)
    have W := Walks.range (prog := X.prog) (w := X.w) (I.ok.hd hc) it lo 1 n
    refine W.item i s _ _ hg st fun v h' tk hv st' kk => ?_
    obtain ⟨t, rfl⟩ := hv
    have I1 : Inv X pins σ H { s with heap := h', toks := tk } := I.turned (fun b o hb e => kk b o (by simpa using hb) e) f0 f1 f3 f4 f5
    refine ⟨_, rfl, go_of (s := { s with heap := h', toks := tk }) (n := "range_iterator") st' rfl rfl (by decide) ⟨.int (lo + i), H, I1, ⟨t, ?_⟩, ⟨rfl, rfl⟩, st', fun b hb => (hf b hb).1⟩⟩
    rw [Int.mul_one]
  done := by
    intro X hP hw hK hc i pins s σ H E I hf st hg
    subst hP hw hK
    obtain ⟨f0, f1, f2, f3, f4, f5⟩ := hf it (by simp)
    exact wpAny_pyNext_range_end (I.ok.hd hc) st (by have : n ≤ i := hg; omega) fun h' eb => ⟨rfl, I.turned (t' := s.toks) (fun b o hb e => eb b o hb e) f0 f1 f3 f4 f5⟩
  self := fun _ _ _ _ _ st h => wpAny_pyIter_rangeiter st h
end L2

namespace L2
open PySem PySem.Spec PyProof.Rows
section
variable {X : Cx} {tg : Expr}
def iList (K : PySem.W.Frag) (tl : TE) : TI := fun σ H R => tl σ H fun x H1 => ∃ a, x = .ref a ∧ (∃ xs, SqL K H1 a xs) ∧ R (Itl K a) H1
theorem pi_list {l : Expr} {tl : TE} (hl : PE X l tl) : PI X tg l (iList X.K tl) := by
  intro pins s σ H R I h
  refine thn (hl pins s σ H _ I h) fun v s1 ⟨x, H1, I1, r1, q1⟩ => ?_
  obtain ⟨a, e, ⟨xs, hq⟩, q⟩ := q1
  subst e
  cases r1
  obtain ⟨its, rv, p, hz⟩ := I1.list hq
  refine wpAny_pyIter_list p.isList ?_
  refine ⟨s1.heap.objs.size, [s1.heap.objs.size], _, _, H1, rfl, I1.kept (t' := s1.toks) fun b o e => Heap.get?_push_of_some _ e, turn_list a _, ⟨_, Heap.get?_push_size _ rfl, rfl, rfl⟩, fun b hb => ?_, q⟩
  have e : b = s1.heap.objs.size := by simpa using hb
  subst e
  exact I1.fpOk (Nat.le_refl _) (I1.hok.fresh (Nat.le_refl _))
/-- a range object just made, walked -/
theorem range_it {pins : List (Addr × Obj)} {σ : St} {H : Hp} {s : Shared} {R : It → Hp → Prop} {E : Value → Shared → Prop} {lo hi : Int} {t u v : Tok} {tk : Nat} (I : Inv X pins σ H s) (h1 : -(2 ^ 62) ≤ lo) (h2 : lo < 2 ^ 62) (h3 : -(2 ^ 62) ≤ hi) (h4 : hi < 2 ^ 62)
    (q : R (Itr lo (hi - lo).toNat) H) : wpAny (model X.prog X.w) X.A (pyIter (.ref s.heap.objs.size)) (PIE X pins σ tg R) E { s with heap := s.heap.push { cls := .type "range", data := .fields #[.int lo t, .int hi u, .int 1 v] }, toks := tk } := by
  refine wpAny_pyIter_range (IsRange.new ..) (small_one h1 h2 h3 h4) ?_
  have I1 : Inv X pins σ H { s with heap := s.heap.push { cls := .type "range", data := .fields #[.int lo t, .int hi u, .int 1 v] }, toks := tk } := I.kept fun b o e => Heap.get?_push_of_some _ e
  refine ⟨(s.heap.push { cls := .type "range", data := .fields #[.int lo t, .int hi u, .int 1 v] }).objs.size, [(s.heap.push { cls := .type "range", data := .fields #[.int lo t, .int hi u, .int 1 v] }).objs.size], _, _, H, rfl,
    I1.kept (t' := tk) fun b o e => Heap.get?_push_of_some _ e, turn_range _ lo (hi - lo).toNat, ?_, fun b hb => ?_, q⟩
  · have e1 : lo + ((0 : Nat) : Int) * 1 = lo := by simp
    have e2 : (((hi - lo).toNat : Nat) : Int) - ((0 : Nat) : Int) = Builtin.Range.rangeSize lo hi 1 := by rw [rangeSize_one]; split <;> omega
    show IsRangeIter _ _ (lo + ((0 : Nat) : Int) * 1) ((((hi - lo).toNat : Nat) : Int) - ((0 : Nat) : Int)) 1
    rw [e1, e2]
    exact Heap.get?_push_size _ rfl
  · have e : b = (s.heap.push { cls := .type "range", data := .fields #[.int lo t, .int hi u, .int 1 v] }).objs.size := by simpa using hb
    subst e
    exact I1.fpOk (Nat.le_refl _) (I1.hok.fresh (Nat.le_refl _))
def iRng1 (ta : TA) : TI := fun σ H R => ta σ H fun vs H1 => ∃ j : Int, vs = [.int j] ∧ -(2 ^ 62) ≤ j ∧ j < 2 ^ 62 ∧ R (Itr 0 j.toNat) H1
def iRng2 (ta : TA) : TI := fun σ H R => ta σ H fun vs H1 => ∃ i j : Int, vs = [.int i, .int j] ∧ (-(2 ^ 62) ≤ i ∧ i < 2 ^ 62 ∧ -(2 ^ 62) ≤ j ∧ j < 2 ^ 62) ∧ R (Itr i (j - i).toNat) H1
theorem pi_range1 {a : Expr} {ta : TA} {p pos : Pos} (hg : Gl X "range") (hm : X.mg "range" = none) (ha : PA X [a] ta) (hs : starEach [a] X.env = [(false, eval a X.env)] := by rfl) : PI X tg (.Call (.Name "range" p) [a] [] pos) (iRng1 ta) := by
  intro pins s σ H R I h
  refine Call_ (ld_blt I hg hm boot_range (PyProof.Rows.callWith_type1 (thn (ha pos pins s σ H _ I h) fun us s1 ⟨vs, H1, I1, r1, q1⟩ => ?_) hs rfl))
  obtain ⟨j, e, q1, q2, q⟩ := q1
  subst e
  cases r1 with
  | cons r rr =>
    cases rr
    obtain ⟨t, rfl⟩ := r
    exact call_range_1 (range_it I1 (by omega) (by omega) q1 q2 (by simpa using q))
theorem pi_range2 {a b : Expr} {ta : TA} {p pos : Pos} (hg : Gl X "range") (hm : X.mg "range" = none) (ha : PA X [a, b] ta) (hs : starEach [a, b] X.env = [(false, eval a X.env), (false, eval b X.env)] := by rfl) (hs2 : starEach [b] X.env = [(false, eval b X.env)] := by rfl) :
    PI X tg (.Call (.Name "range" p) [a, b] [] pos) (iRng2 ta) := by
  intro pins s σ H R I h
  refine Call_ (ld_blt I hg hm boot_range (PyProof.Rows.callWith_type1 (thn (ha pos pins s σ H _ I h) fun us s1 ⟨vs, H1, I1, r1, q1⟩ => ?_) (by rw [hs, hs2]) (by rw [hs2]; rfl)))
  obtain ⟨i, j, e, ⟨q1, q2, q3, q4⟩, q⟩ := q1
  subst e
  cases r1 with
  | cons r rr =>
    cases rr with
    | cons r' rr =>
      cases rr
      obtain ⟨t, rfl⟩ := r
      obtain ⟨t', rfl⟩ := r'
      exact call_range_2 (range_it I1 q1 q2 q3 q4 q)

/-! ### for -/
/-- W: the invariant by the turn and a measure; N: what the body is to reach -/
def tFor (wi : TI) (g : TG) (tb : TS) : TS := fun D σ H => wi σ H fun J H1 => ∃ W : Nat → Nat → St → Hp → Prop, (∃ m, W 0 m σ H1) ∧ ∀ i m σ H, W i m σ H →
  (J.stop i H ∧ D.nx σ H) ∨ (J.go i H ∧ ∃ N : St → Hp → Prop, (∀ σ' H', N σ' H' → ∃ m', m' < m ∧ W (i + 1) m' σ' H') ∧ ∀ x H', J.yld i H x H' → g x σ H' fun σ2 H2 => tb { D with nx := N, ct := N, bk := D.nx } σ2 H2)
/-- the records at fp as they stand -/
def pinsAt (fp : List Addr) (h : Heap) : List (Addr × Obj) := fp.filterMap fun b => (h.get? b).map fun o => (b, o)
theorem mem_pinsAt {fp : List Addr} {h : Heap} {b : Addr} {o : Obj} (hb : b ∈ fp) (e : h.get? b = some o) : (b, o) ∈ pinsAt fp h := List.mem_filterMap.mpr ⟨b, hb, by rw [e]; rfl⟩
theorem of_pinsAt {fp : List Addr} {h : Heap} {p : Addr × Obj} (hp : p ∈ pinsAt fp h) : p.1 ∈ fp ∧ h.get? p.1 = some p.2 := by
  obtain ⟨b, hb, e⟩ := List.mem_filterMap.mp hp
  cases q : h.get? b with
  | none => rw [q] at e; cases e
  | some o =>
    rw [q] at e
    have e' : (b, o) = p := Option.some.inj e
    subst e'
    exact ⟨hb, q⟩
theorem Inv.pinned {pins : List (Addr × Obj)} {σ : St} {H : Hp} {s : Shared} {fp : List Addr} (I : Inv X pins σ H s) (hf : ∀ b ∈ fp, FpOk X pins H b) (ho : ∀ b ∈ fp, ∃ o, s.heap.get? b = some o ∧ ∀ v, o.data ≠ .cell v) : Inv X (pins ++ pinsAt fp s.heap) σ H s :=
  I.pins_of fun p hp => (List.mem_append.mp hp).elim (fun z => I.pin p (List.mem_append_right _ z)) fun z => by
    obtain ⟨hb, e⟩ := of_pinsAt z
    obtain ⟨f0, f1, f2, _⟩ := hf p.1 hb
    obtain ⟨o, e', d⟩ := ho p.1 hb
    rw [e] at e'; cases e'
    exact ⟨e, f0, f1, f2, d⟩
theorem Inv.unpinned {pins pl : List (Addr × Obj)} {σ : St} {H : Hp} {s : Shared} (I : Inv X (pins ++ pl) σ H s) : Inv X pins σ H s := I.pins_of fun p hp => I.pin p (List.mem_append_right _ (List.mem_append_left _ hp))
theorem ps_for {iter : Expr} {body : List Stmt} {wi : TI} {g : TG} {tb : TS} {pos : Pos} (hp : PassesOwn (model X.prog X.w) X.A X.env X.xe) (hc : X.calm = true) (hi : PI X tg iter wi) (hg : PG X tg g) (hb : PSs X body tb)
    (hs : ∀ x, foldedSetIterable iter X.env x = pure x := by intro _; rfl) : PS X (.For tg iter body [] pos) (tFor wi g tb) := by
  intro pins s σ H D I h
  refine wpAny_For (thn (hi pins s σ H _ I h) fun v s1 h1 => thn h1 fun itv s2 h2 => ?_) hs
  obtain ⟨it, fp, tn, J, H2, e, I2, T, st2, f2, W, ⟨m0, w0⟩, turn⟩ := h2
  subst e
  -- what stays true of the iterator's objects through the loop
  have stat : ∀ {H' : Hp}, (∀ b ∈ fp, H' b = none) → ∀ b ∈ fp, FpOk X pins H' b := fun hn b hb => ⟨hn b hb, (f2 b hb).2⟩
  refine codeAny_forLoop_any (fun n s' => ∃ i σ' H', Inv X pins σ' H' s' ∧ tn i s'.heap ∧ (∀ b ∈ fp, H' b = none) ∧ W i n σ' H') ?_ m0 ⟨0, σ, H2, I2, st2, fun b hb => (f2 b hb).1, w0⟩
  rintro n s3 ⟨i, σ3, H3, I3, st3, fr3, w3⟩
  rcases turn i n σ3 H3 w3 with ⟨stop, qn⟩ | ⟨go, N, hN, step⟩
  · refine wpAny_passesOwn hp (thn (T.done X rfl rfl rfl hc i pins s3 σ3 H3 X.xe I3 (stat fr3) st3 stop) fun r s4 ⟨hr, I4⟩ => ?_)
    subst hr
    exact wpAny_execs_nil ⟨σ3, H3, I4, qn⟩
  · refine wpAny_passesOwn hp (thn (T.item X rfl rfl rfl hc i pins s3 σ3 H3 X.xe I3 (stat fr3) st3 go) fun r s4 ⟨u, hr, h4⟩ => ?_)
    subst hr
    refine wpAny_passesOwn hp (thn h4 fun _ s5 ⟨x, H5, I5, r5, y5, st5, fr5⟩ => ?_)
    have I5' := I5.pinned (stat fr5) (T.obj _ _ st5)
    refine wpAny_passesOwn hp (thn (hg _ s5 σ3 H5 x u _ I5' r5 (step x H5 y5)) fun _ s6 ⟨σ6, H6, I6, q6⟩ => ?_)
    refine wpAny_passesOwn hp (thn (hb _ s6 σ6 H6 _ I6 q6) fun f s7 q7 => ?_)
    have again : ∀ {σ7 : St} {H7 : Hp}, Inv X (pins ++ pinsAt fp s5.heap) σ7 H7 s7 → N σ7 H7 → ∃ m, m < n ∧ ∃ i σ' H', Inv X pins σ' H' s7 ∧ tn i s7.heap ∧ (∀ b ∈ fp, H' b = none) ∧ W i m σ' H' := fun {σ7 H7} I7 n7 => by
      obtain ⟨m', hm, w7⟩ := hN σ7 H7 n7
      refine ⟨m', hm, i + 1, σ7, H7, I7.unpinned, T.keep _ _ _ st5 fun b hb o e => (I7.pin (b, o) (List.mem_append_right _ (List.mem_append_right _ (mem_pinsAt hb e)))).1, fun b hb => ?_, w7⟩
      obtain ⟨o, e, d⟩ := T.obj _ _ st5 b hb
      exact (I7.pin (b, o) (List.mem_append_right _ (List.mem_append_right _ (mem_pinsAt hb e)))).2.1
    cases f with
    | next => obtain ⟨σ7, H7, I7, n7⟩ := q7; exact again I7 n7
    | cont => obtain ⟨σ7, H7, I7, n7⟩ := q7; exact again I7 n7
    | brk => obtain ⟨σ7, H7, I7, q7⟩ := q7; exact ⟨σ7, H7, I7.unpinned, q7⟩
    | ret v => obtain ⟨x7, σ7, H7, I7, r7, q7⟩ := q7; exact ⟨x7, σ7, H7, I7.unpinned, r7, q7⟩
end

/-! ### the forms one uses -/
/-- over a list that the body leaves as it is -/
theorem for_list {K : PySem.W.Frag} {a : Addr} {xs : List V} {g : TG} {tb : TS} {D : Ends} {σ : St} {H : Hp} (Pv : Nat → St → Hp → Prop) (h0 : Pv 0 σ H) (hl : ∀ i σ H, i ≤ xs.length → Pv i σ H → SqL K H a xs)
    (hs : ∀ i x σ H, xs[i]? = some x → Pv i σ H → g x σ H fun σ2 H2 => tb { D with nx := Pv (i + 1), ct := Pv (i + 1), bk := D.nx } σ2 H2) (hd : ∀ σ H, Pv xs.length σ H → D.nx σ H) :
    ∃ W : Nat → Nat → St → Hp → Prop, (∃ m, W 0 m σ H) ∧ ∀ i m σ H, W i m σ H →
      ((Itl K a).stop i H ∧ D.nx σ H) ∨ ((Itl K a).go i H ∧ ∃ N : St → Hp → Prop, (∀ σ' H', N σ' H' → ∃ m', m' < m ∧ W (i + 1) m' σ' H') ∧ ∀ x H', (Itl K a).yld i H x H' → g x σ H' fun σ2 H2 => tb { D with nx := N, ct := N, bk := D.nx } σ2 H2) := by
  refine ⟨fun i m σ H => m = xs.length - i ∧ i ≤ xs.length ∧ Pv i σ H, ⟨xs.length, by simp, Nat.zero_le _, h0⟩, ?_⟩
  rintro i m σ H ⟨rfl, hi, p⟩
  have q := hl i σ H hi p
  by_cases hlt : i < xs.length
  · refine .inr ⟨⟨xs, xs[i], q, by simp [hlt]⟩, Pv (i + 1), fun σ' H' p' => ⟨xs.length - (i + 1), by omega, rfl, hlt, p'⟩, fun x H' y => ?_⟩
    obtain ⟨e, y⟩ := y
    subst e
    exact hs i x σ _ (y xs q) p
  · have e : i = xs.length := by omega
    subst e
    exact .inl ⟨⟨xs, q, Nat.le_refl _⟩, hd σ H p⟩
theorem for_range {lo : Int} {n : Nat} {g : TG} {tb : TS} {D : Ends} {σ : St} {H : Hp} (Pv : Nat → St → Hp → Prop) (h0 : Pv 0 σ H)
    (hs : ∀ i σ H, i < n → Pv i σ H → g (.int (lo + i)) σ H fun σ2 H2 => tb { D with nx := Pv (i + 1), ct := Pv (i + 1), bk := D.nx } σ2 H2) (hd : ∀ σ H, Pv n σ H → D.nx σ H) :
    ∃ W : Nat → Nat → St → Hp → Prop, (∃ m, W 0 m σ H) ∧ ∀ i m σ H, W i m σ H →
      ((Itr lo n).stop i H ∧ D.nx σ H) ∨ ((Itr lo n).go i H ∧ ∃ N : St → Hp → Prop, (∀ σ' H', N σ' H' → ∃ m', m' < m ∧ W (i + 1) m' σ' H') ∧ ∀ x H', (Itr lo n).yld i H x H' → g x σ H' fun σ2 H2 => tb { D with nx := N, ct := N, bk := D.nx } σ2 H2) := by
  refine ⟨fun i m σ H => m = n - i ∧ i ≤ n ∧ Pv i σ H, ⟨n, by simp, Nat.zero_le _, h0⟩, ?_⟩
  rintro i m σ H ⟨rfl, hi, p⟩
  by_cases hlt : i < n
  · refine .inr ⟨hlt, Pv (i + 1), fun σ' H' p' => ⟨n - (i + 1), by omega, rfl, hlt, p'⟩, fun x H' y => ?_⟩
    obtain ⟨e, y⟩ := y
    subst e y
    exact hs i σ _ hlt p
  · have e : i = n := by omega
    subst e
    exact .inl ⟨Nat.le_refl _, hd σ H p⟩
end L2

namespace L2
open PySem PySem.Spec PyProof.Rows

abbrev R2 := V → V → Hp → VK → Prop
/-- a two-place operation on values: f is binaryOp op, inplaceOp op or compareOp op -/
def OpR (X : Cx) (f : Value → Value → Sem Value) (r : R2) : Prop :=
  ∀ (pins : List (Addr × Obj)) (s : Shared) (σ : St) (H : Hp) (x y : V) (v u : Value) (Q : VK), Inv X pins σ H s → RelV x v → RelV y u → r x y H Q →
    wpAny (model X.prog X.w) X.A (f v u) (EP X pins σ Q) X.xe s
/-- a one-place operation -/
def UnR (X : Cx) (f : Value → Sem Value) (r : V → Hp → VK → Prop) : Prop :=
  ∀ (pins : List (Addr × Obj)) (s : Shared) (σ : St) (H : Hp) (x : V) (v : Value) (Q : VK), Inv X pins σ H s → RelV x v → r x H Q →
    wpAny (model X.prog X.w) X.A (f v) (EP X pins σ Q) X.xe s
/-- a call of a value that is known (a builtin, a type) with values -/
def CallR (X : Cx) (f : Value) (r : List V → Hp → VK → Prop) : Prop :=
  ∀ (pins : List (Addr × Obj)) (s : Shared) (σ : St) (H : Hp) (xs : List V) (us : List Value) (Q : VK), Inv X pins σ H s → Vals xs us → r xs H Q →
    wpAny (model X.prog X.w) X.A (call f us) (EP X pins σ Q) X.xe s
/-- a value's truth -/
def TruR (X : Cx) (r : V → Hp → (Bool → Hp → Prop) → Prop) : Prop :=
  ∀ (pins : List (Addr × Obj)) (s : Shared) (σ : St) (H : Hp) (x : V) (v : Value) (Q : Bool → Hp → Prop), Inv X pins σ H s → RelV x v → r x H Q →
    wpAny (model X.prog X.w) X.A (truthy v) (TP X pins σ Q) X.xe s

def tOp (r : R2) (ta tb : TE) : TE := fun σ H Q => ta σ H fun x H1 => tb σ H1 fun y H2 => r x y H2 Q
def tUn (r : V → Hp → VK → Prop) (ta : TE) : TE := fun σ H Q => ta σ H fun x H1 => r x H1 Q
/-- ints in, under C, and a value out -/
def rI (C : Int → Int → Prop) (g : Int → Int → V) : R2 := fun x y H Q => ∃ i j, x = .int i ∧ y = .int j ∧ C i j ∧ Q (g i j) H
def rI0 (g : Int → Int → V) : R2 := fun x y H Q => ∃ i j, x = .int i ∧ y = .int j ∧ Q (g i j) H
def rU (g : Int → V) : V → Hp → VK → Prop := fun x H Q => ∃ i, x = .int i ∧ Q (g i) H

section
variable {X : Cx} {a b c : Expr} {ta tb tc : TE} {pos : Pos}

theorem binT (ha : PE X a ta) (hb : PE X b tb) {pins : List (Addr × Obj)} {s : Shared} {σ : St} {H : Hp} {R : V → V → Hp → Prop} (I : Inv X pins σ H s)
    (h : ta σ H fun x H1 => tb σ H1 fun y H2 => R x y H2) {Q : Value → Shared → Prop} {f : Value → Value → Sem Value}
    (hf : ∀ v u s2 x y H2, Inv X pins σ H2 s2 → RelV x v → RelV y u → R x y H2 → wpAny (model X.prog X.w) X.A (f v u) Q X.xe s2) :
    wpAny (model X.prog X.w) X.A (eval a X.env) (fun v s₁ => wpAny (model X.prog X.w) X.A (eval b X.env) (fun u s₂ => wpAny (model X.prog X.w) X.A (f v u) Q X.xe s₂) X.xe s₁) X.xe s := by
  refine thn (ha pins s σ H _ I h) fun v s1 ⟨x, H1, I1, r1, q1⟩ => ?_
  refine thn (hb pins s1 σ H1 _ I1 q1) fun u s2 ⟨y, H2, I2, r2, q2⟩ => ?_
  exact hf v u s2 x y H2 I2 r1 r2 q2

theorem pe_op {op : Operator} {r : R2} (ho : OpR X (binaryOp op) r) (ha : PE X a ta) (hb : PE X b tb) : PE X (.BinOp a op b pos) (tOp r ta tb) := by
  intro pins s σ H Q I h
  exact wpAny_BinOp (binT ha hb I h fun v u s2 x y H2 I2 rx ry q => ho pins s2 σ H2 x y v u Q I2 rx ry q)
theorem pe_un {op : UnaryOp} {r : V → Hp → VK → Prop} (ho : UnR X (unaryOp op) r) (ha : PE X a ta) : PE X (.UnaryOp op a pos) (tUn r ta) := by
  intro pins s σ H Q I h
  exact UnaryOp_ (thn (ha pins s σ H _ I h) fun v s1 ⟨x, H1, I1, r1, q1⟩ => ho pins s1 σ H1 x v Q I1 r1 q1)

/-! ### ints -/
theorem opI {f : Value → Value → Sem Value} {C : Int → Int → Prop} {g : Int → Int → Int}
    (rule : ∀ (i j : Int) (t u : Tok) (s : Shared) (Q : Value → Shared → Prop) (E : Value → Shared → Prop), C i j → Q (.int (g i j) s.toks) { s with toks := s.toks + 1 } → wpAny (model X.prog X.w) X.A (f (.int i t) (.int j u)) Q E s) :
    OpR X f (rI C fun i j => .int (g i j)) := by
  intro pins s σ H x y v u Q I rx ry h
  obtain ⟨i, j, rfl, rfl, hc, q⟩ := h
  obtain ⟨t, rfl⟩ := rx
  obtain ⟨t', rfl⟩ := ry
  exact rule i j t t' s _ _ hc ⟨.int (g i j), H, I.tok _, ⟨_, rfl⟩, q⟩
theorem opI0 {f : Value → Value → Sem Value} {g : Int → Int → Int}
    (rule : ∀ (i j : Int) (t u : Tok) (s : Shared) (Q : Value → Shared → Prop) (E : Value → Shared → Prop), Q (.int (g i j) s.toks) { s with toks := s.toks + 1 } → wpAny (model X.prog X.w) X.A (f (.int i t) (.int j u)) Q E s) :
    OpR X f (rI0 fun i j => .int (g i j)) := by
  intro pins s σ H x y v u Q I rx ry h
  obtain ⟨i, j, rfl, rfl, q⟩ := h
  obtain ⟨t, rfl⟩ := rx
  obtain ⟨t', rfl⟩ := ry
  exact rule i j t t' s _ _ ⟨.int (g i j), H, I.tok _, ⟨_, rfl⟩, q⟩
theorem opB0 {f : Value → Value → Sem Value} {g : Int → Int → Bool}
    (rule : ∀ (i j : Int) (t u : Tok) (s : Shared) (Q : Value → Shared → Prop) (E : Value → Shared → Prop), Q (.bool (g i j)) s → wpAny (model X.prog X.w) X.A (f (.int i t) (.int j u)) Q E s) :
    OpR X f (rI0 fun i j => .bl (g i j)) := by
  intro pins s σ H x y v u Q I rx ry h
  obtain ⟨i, j, rfl, rfl, q⟩ := h
  obtain ⟨t, rfl⟩ := rx
  obtain ⟨t', rfl⟩ := ry
  exact rule i j t t' s _ _ ⟨.bl (g i j), H, I, rfl, q⟩

def CDiv (i j : Int) : Prop := 0 < j ∧ j < 1073741824
def CPow (i j : Int) : Prop := 0 ≤ j ∧ j ≤ 1000000 ∧ i.natAbs < 2 ^ 64
def CMul (i j : Int) : Prop := (-(2 ^ 64) < i ∧ i < 2 ^ 64) ∨ (-(2 ^ 64) < j ∧ j < 2 ^ 64)
theorem CMul.ok {i j : Int} (h : CMul i j) : IntMulOk i j := by
  rcases h with ⟨h1, h2⟩ | ⟨h1, h2⟩
  · exact .of_left (intBits_le_64 h1 h2)
  · exact .of_right (intBits_le_64 h1 h2)

theorem op_add : OpR X (binaryOp .Add) (rI0 fun i j => .int (i + j)) := opI0 fun _ _ _ _ _ _ _ q => add_int q
theorem op_sub : OpR X (binaryOp .Sub) (rI0 fun i j => .int (i - j)) := opI0 fun _ _ _ _ _ _ _ q => sub_int q
theorem op_mul : OpR X (binaryOp .Mult) (rI CMul fun i j => .int (i * j)) := opI fun _ _ _ _ _ _ _ hc q => mul_int q hc.ok
/-- // by a positive divisor -/
theorem op_fdiv : OpR X (binaryOp .FloorDiv) (rI CDiv fun i j => .int (i / j)) := opI fun i j _ _ _ _ _ hc q => by
  have h1 : (0 : Int) < j := hc.1
  have h2 : j < 1073741824 := hc.2
  exact floordiv_int (by omega) (by rw [Int.fdiv_eq_ediv_of_nonneg i (by omega)]; exact q) (.inl (PyProof.noPylong_small (by omega)))
/-- % by a positive divisor of any size -/
theorem op_mod : OpR X (binaryOp .Mod) (rI (fun _ j => 0 < j) fun i j => .int (i % j)) := opI fun i j _ _ _ _ _ hc q => by
  have h1 : (0 : Int) < j := hc
  exact mod_int' (by omega) (by rw [Int.fmod_eq_emod_of_nonneg i (by omega)]; exact q)
theorem op_pow : OpR X (binaryOp .Pow) (rI CPow fun i j => .int (i ^ j.toNat)) := opI fun _ _ _ _ _ _ _ hc q => pow_int_small hc.1 hc.2.1 hc.2.2 q



/-! ### bools among ints: n += (a < b) -/
end

/-! ### comparisons -/
/-- the scalars that == tells apart as data does -/
def scal : V → V → Bool
  | .non, .non => true | .non, .int _ => true | .int _, .non => true | .non, .bl _ => true | .bl _, .non => true | .non, .str _ => true | .str _, .non => true
  | .int _, .int _ => true | .bl _, .bl _ => true | .str _, .str _ => true | .byt _, .byt _ => true
  | .int _, .str _ => true | .str _, .int _ => true | .bl _, .str _ => true | .str _, .bl _ => true
  | _, _ => false
def rEq : R2 := fun x y H Q => scal x y = true ∧ Q (.bl (decide (x = y))) H
def rNe : R2 := fun x y H Q => scal x y = true ∧ Q (.bl (!decide (x = y))) H

theorem dec_int {i j : Int} : decide (V.int i = V.int j) = (i == j) := by
  rw [Bool.eq_iff_iff]
  simp
theorem dec_bl {i j : Bool} : decide (V.bl i = V.bl j) = (i == j) := by
  rw [Bool.eq_iff_iff]
  simp
theorem dec_str {i j : Str} : decide (V.str i = V.str j) = (i == j) := by
  rw [Bool.eq_iff_iff]
  simp
theorem dec_byt {i j : Array UInt8} : decide (V.byt i = V.byt j) = (i.toList == j.toList) := by
  rw [Bool.eq_iff_iff]
  cases i
  cases j
  simp

section
variable {X : Cx} {a b c : Expr} {ta tb tc : TE} {pos : Pos}
theorem fin_bl {pins : List (Addr × Obj)} {σ : St} {H : Hp} {s : Shared} {Q : VK} {k k' : Bool} (I : Inv X pins σ H s) (q : Q (.bl k) H) (e : k = k') : EP X pins σ Q (.bool k') s := by
  subst e
  exact ⟨.bl k, H, I, rfl, q⟩
theorem op_eq : OpR X (compareOp .Eq) rEq := by
  intro pins s σ H x y v u Q I rx ry h
  obtain ⟨hs, q⟩ := h
  cases x with
  | non =>
    cases rx
    cases y with
    | non => cases ry; exact PySem.EqNone.eq_none_none (fin_bl I q (by simp))
    | bl j => cases ry; exact PySem.EqNone.eq_none_bool (fin_bl I q (by simp))
    | int j => obtain ⟨t', rfl⟩ := ry; exact PySem.EqNone.eq_none_int (fin_bl I q (by simp))
    | str j => obtain ⟨t', rfl⟩ := ry; exact PySem.EqNone.eq_none_str (fin_bl I q (by simp))
    | _ => exact absurd (show false = true from hs) Bool.false_ne_true
  | bl i =>
    cases rx
    cases y with
    | non => cases ry; exact PySem.EqNone.eq_bool_none (fin_bl I q (by simp))
    | bl j => cases ry; exact eq_bool (fin_bl I q dec_bl)
    | str j => obtain ⟨t', rfl⟩ := ry; exact PySem.EqMixed.eq_bool_str (fin_bl I q (by simp))
    | _ => exact absurd (show false = true from hs) Bool.false_ne_true
  | int i =>
    obtain ⟨t, rfl⟩ := rx
    cases y with
    | non => cases ry; exact PySem.EqNone.eq_int_none (fin_bl I q (by simp))
    | int j => obtain ⟨t', rfl⟩ := ry; exact eq_int (fin_bl I q dec_int)
    | str j => obtain ⟨t', rfl⟩ := ry; exact PySem.EqMixed.eq_int_str (fin_bl I q (by simp))
    | _ => exact absurd (show false = true from hs) Bool.false_ne_true
  | str i =>
    obtain ⟨t, rfl⟩ := rx
    cases y with
    | non => cases ry; exact PySem.EqNone.eq_str_none (fin_bl I q (by simp))
    | bl j => cases ry; exact PySem.EqMixed.eq_str_bool (fin_bl I q (by simp))
    | int j => obtain ⟨t', rfl⟩ := ry; exact PySem.EqMixed.eq_str_int (fin_bl I q (by simp))
    | str j => obtain ⟨t', rfl⟩ := ry; exact eq_str (fin_bl I q dec_str)
    | _ => exact absurd (show false = true from hs) Bool.false_ne_true
  | byt i =>
    obtain ⟨t, rfl⟩ := rx
    cases y with
    | byt j => obtain ⟨t', rfl⟩ := ry; exact PySem.W.eq_bytes (fin_bl I q dec_byt)
    | _ => exact absurd (show false = true from hs) Bool.false_ne_true
  | _ => cases y <;> exact absurd (show false = true from hs) Bool.false_ne_true
theorem op_ne : OpR X (compareOp .NotEq) rNe := by
  intro pins s σ H x y v u Q I rx ry h
  obtain ⟨hs, q⟩ := h
  cases x with
  | non =>
    cases rx
    cases y with
    | non => cases ry; exact PySem.EqNone.ne_none_none (fin_bl I q (by simp))
    | bl j => cases ry; exact PySem.EqNone.ne_none_bool (fin_bl I q (by simp))
    | int j => obtain ⟨t', rfl⟩ := ry; exact PySem.EqNone.ne_none_int (fin_bl I q (by simp))
    | str j => obtain ⟨t', rfl⟩ := ry; exact PySem.EqNone.ne_none_str (fin_bl I q (by simp))
    | _ => exact absurd (show false = true from hs) Bool.false_ne_true
  | bl i =>
    cases rx
    cases y with
    | non => cases ry; exact PySem.EqNone.ne_bool_none (fin_bl I q (by simp))
    | bl j => cases ry; exact ne_bool (fin_bl I q (congrArg not dec_bl))
    | str j => obtain ⟨t', rfl⟩ := ry; exact PySem.EqMixed.ne_bool_str (fin_bl I q (by simp))
    | _ => exact absurd (show false = true from hs) Bool.false_ne_true
  | int i =>
    obtain ⟨t, rfl⟩ := rx
    cases y with
    | non => cases ry; exact PySem.EqNone.ne_int_none (fin_bl I q (by simp))
    | int j => obtain ⟨t', rfl⟩ := ry; exact ne_int (fin_bl I q (congrArg not dec_int))
    | str j => obtain ⟨t', rfl⟩ := ry; exact PySem.EqMixed.ne_int_str (fin_bl I q (by simp))
    | _ => exact absurd (show false = true from hs) Bool.false_ne_true
  | str i =>
    obtain ⟨t, rfl⟩ := rx
    cases y with
    | non => cases ry; exact PySem.EqNone.ne_str_none (fin_bl I q (by simp))
    | bl j => cases ry; exact PySem.EqMixed.ne_str_bool (fin_bl I q (by simp))
    | int j => obtain ⟨t', rfl⟩ := ry; exact PySem.EqMixed.ne_str_int (fin_bl I q (by simp))
    | str j => obtain ⟨t', rfl⟩ := ry; exact ne_str (fin_bl I q (congrArg not dec_str))
    | _ => exact absurd (show false = true from hs) Bool.false_ne_true
  | byt i =>
    obtain ⟨t, rfl⟩ := rx
    cases y with
    | byt j => obtain ⟨t', rfl⟩ := ry; exact PySem.W.ne_bytes (fin_bl I q (congrArg not dec_byt))
    | _ => exact absurd (show false = true from hs) Bool.false_ne_true
  | _ => cases y <;> exact absurd (show false = true from hs) Bool.false_ne_true

theorem op_lt : OpR X (compareOp .Lt) (rI0 fun i j => .bl (decide (i < j))) := opB0 fun _ _ _ _ _ _ _ q => lt_int q
theorem op_le : OpR X (compareOp .LtE) (rI0 fun i j => .bl (decide (i ≤ j))) := opB0 fun _ _ _ _ _ _ _ q => le_int q
theorem op_gt : OpR X (compareOp .Gt) (rI0 fun i j => .bl (decide (j < i))) := opB0 fun _ _ _ _ _ _ _ q => gt_int q
theorem op_ge : OpR X (compareOp .GtE) (rI0 fun i j => .bl (decide (j ≤ i))) := opB0 fun _ _ _ _ _ _ _ q => ge_int q

/-- is None, is not None: the right side a value none -/
theorem op_isN : OpR X (compareOp .Is) (fun x y H Q => y = .non ∧ Q (.bl (decide (x = .non))) H) := by
  intro pins s σ H x y v u Q I rx ry h
  obtain ⟨rfl, q⟩ := h
  cases ry
  refine is_none_gen (fin_bl I q ?_)
  cases x <;> first
    | (cases rx; rfl)
    | (obtain ⟨t, rfl⟩ := rx; rfl)
theorem op_notN : OpR X (compareOp .IsNot) (fun x y H Q => y = .non ∧ Q (.bl (!decide (x = .non))) H) := by
  intro pins s σ H x y v u Q I rx ry h
  obtain ⟨rfl, q⟩ := h
  cases ry
  refine isnot_none_gen (fin_bl I q ?_)
  cases x <;> first
    | (cases rx; rfl)
    | (obtain ⟨t, rfl⟩ := rx; rfl)



theorem nomark (b : Expr) {op : CmpOp} (h : op ≠ .In := by decide) (h2 : op ≠ .NotIn := by decide) : behindInMarks op b = false := by
  have e1 : (op == CmpOp.In) = false := by cases op <;> first | rfl | exact absurd rfl h
  have e2 : (op == CmpOp.NotIn) = false := by cases op <;> first | rfl | exact absurd rfl h2
  cases b <;> simp [behindInMarks, e1, e2]
/-- a comparison as a value; hm: nomark b, or (for in, not in) by with_unfolding_all rfl -/
theorem pe_cmpR {op : CmpOp} {r : R2} (ho : OpR X (compareOp op) r) (ha : PE X a ta) (hb : PE X b tb) (hm : behindInMarks op b = false) : PE X (.Compare a [op] [b] pos) (tOp r ta tb) := by
  intro pins s σ H Q I h
  exact wpAny_Compare1 (binT ha hb I h fun v u s2 x y H2 I2 rx ry q => ho pins s2 σ H2 x y v u Q I2 rx ry q) hm
/-- a reading of a value as a test -/
def tTest (t : TE) : TT := fun σ H Q => t σ H fun x H' => ∃ k, x = .bl k ∧ Q k H'
theorem pt_cmpR {op : CmpOp} {r : R2} (ho : OpR X (compareOp op) r) (ha : PE X a ta) (hb : PE X b tb) (hm : behindInMarks op b = false) : PT X (.Compare a [op] [b] pos) (tTest (tOp r ta tb)) := by
  intro pins s σ H Q I h
  refine wpAny_isTrue_Compare1 (thn (ha pins s σ H _ I h) fun v s1 ⟨x, H1, I1, r1, q1⟩ => thn (hb pins s1 σ H1 _ I1 q1) fun u s2 ⟨y, H2, I2, r2, q2⟩ =>
    thn (ho pins s2 σ H2 x y v u _ I2 r1 r2 q2) fun c s3 ⟨z, H3, I3, r3, k, e, q3⟩ => ?_) hm
  subst e
  cases r3
  exact wpAny_truthy_bool ⟨H3, I3, q3⟩
/-- a op1 b op2 c -/
def tChain (r r' : R2) (ta tb tc : TE) : TE := fun σ H Q => ta σ H fun x H1 => tb σ H1 fun y H2 => r x y H2 fun z H3 => ∃ k, z = .bl k ∧
  (if k = true then tc σ H3 fun w' H4 => r' y w' H4 Q else Q (.bl false) H3)
theorem pe_chain {op op' : CmpOp} {r r' : R2} (ho : OpR X (compareOp op) r) (ho' : OpR X (compareOp op') r') (ha : PE X a ta) (hb : PE X b tb) (hc : PE X c tc)
    (hm : lastMarks [op, op'] [b, c] = false := by with_unfolding_all rfl) : PE X (.Compare a [op, op'] [b, c] pos) (tChain r r' ta tb tc) := by
  intro pins s σ H Q I h
  refine Compare_chain (thn (ha pins s σ H _ I h) fun v s1 ⟨x, H1, I1, r1, q1⟩ => chain_link (thn (hb pins s1 σ H1 _ I1 q1) fun u s2 ⟨y, H2, I2, r2, q2⟩ =>
    thn (ho pins s2 σ H2 x y v u _ I2 r1 r2 q2) fun d s3 ⟨z, H3, I3, r3, k, e, q3⟩ => ?_)) hm
  subst e
  cases r3
  refine wpAny_truthy_bool ?_
  cases k with
  | false => exact ite_ff ⟨.bl false, H3, I3, rfl, q3⟩
  | true => exact ite_tt (chain_last (thn (hc pins s3 σ H3 _ I3 q3) fun w' s4 ⟨z', H4, I4, r4, q4⟩ => ho' pins s4 σ H4 y z' u w' Q I4 r2 r4 q4))
theorem pt_chain {op op' : CmpOp} {r r' : R2} (ho : OpR X (compareOp op) r) (ho' : OpR X (compareOp op') r') (ha : PE X a ta) (hb : PE X b tb) (hc : PE X c tc)
    (hm : lastMarks [op, op'] [b, c] = false := by with_unfolding_all rfl) : PT X (.Compare a [op, op'] [b, c] pos) (tTest (tChain r r' ta tb tc)) := by
  intro pins s σ H Q I h
  refine isTrue_chain (thn (ha pins s σ H _ I h) fun v s1 ⟨x, H1, I1, r1, q1⟩ => test_link (thn (hb pins s1 σ H1 _ I1 q1) fun u s2 ⟨y, H2, I2, r2, q2⟩ =>
    thn (ho pins s2 σ H2 x y v u _ I2 r1 r2 q2) fun d s3 ⟨z, H3, I3, r3, k, e, q3⟩ => ?_)) hm
  subst e
  cases r3
  refine wpAny_truthy_bool ?_
  cases k with
  | false =>
    obtain ⟨k', e', q'⟩ := q3
    cases e'
    exact ite_ff ⟨H3, I3, q'⟩
  | true =>
    refine ite_tt (test_last (thn (hc pins s3 σ H3 _ I3 q3) fun w' s4 ⟨z', H4, I4, r4, q4⟩ => thn (ho' pins s4 σ H4 y z' u w' _ I4 r2 r4 q4) fun d' s5 ⟨z2, H5, I5, r5, k2, e2, q5⟩ => ?_))
    subst e2
    cases r5
    exact wpAny_truthy_bool ⟨H5, I5, q5⟩

/-! ### truth -/
/-- a value's truth by the abstract heap -/
def TruV (K : PySem.W.Frag) (x : V) (H : Hp) (k : Bool) : Prop :=
  match x with
  | .non => k = false
  | .bl b => k = b
  | .int i => k = (i != 0)
  | .str y => y.length ≤ sizeLine ∧ k = ((y.length : Int) != 0)
  | .byt y => y.size ≤ sizeLine ∧ k = ((y.size : Int) != 0)
  | .ref p => (∃ xs, SqL K H p xs ∧ k = !xs.isEmpty) ∨ (∃ xs, SqT K H p xs ∧ k = !xs.isEmpty) ∨ ∃ kvs, H p = some (.dK kvs) ∧ k = !kvs.isEmpty
  | _ => False
theorem isEmpty_kv {κ : Type} {kvs : List (κ × V)} {vs : List (κ × Value)} (r : KV kvs vs) : (!vs.isEmpty) = !kvs.isEmpty := by
  cases r <;> rfl
theorem isEmpty_of {xs : List V} {its : List Value} (r : Vals xs its) : (!its.toArray.isEmpty) = !xs.isEmpty := by
  cases r <;> simp
theorem line63 : (sizeLine : Nat) < 2 ^ 63 := by rw [sizeLine_eq]; decide
theorem tru_ok : TruR X (fun x H Q => ∃ k, TruV X.K x H k ∧ Q k H) := by
  intro pins s σ H x v Q I rx h
  obtain ⟨k, e, q⟩ := h
  have hl := line63
  have hs : sizeLine = 16777216 := sizeLine_eq
  cases x with
  | non =>
    cases rx
    have e' : k = false := e
    subst e'
    exact truthy_none ⟨H, I, q⟩
  | bl b =>
    cases rx
    have e' : k = b := e
    subst e'
    exact wpAny_truthy_bool ⟨H, I, q⟩
  | int i =>
    obtain ⟨t, rfl⟩ := rx
    have e' : k = (i != 0) := e
    subst e'
    exact PySem.P.truthy_int ⟨H, I, q⟩
  | str y =>
    obtain ⟨t, rfl⟩ := rx
    obtain ⟨hy, e'⟩ : y.length ≤ sizeLine ∧ k = ((y.length : Int) != 0) := e
    subst e'
    exact PySem.P.truthy_str (by omega) ⟨H, I.tok _, q⟩
  | byt y =>
    obtain ⟨t, rfl⟩ := rx
    obtain ⟨hy, e'⟩ : y.size ≤ sizeLine ∧ k = ((y.size : Int) != 0) := e
    subst e'
    exact PySem.W.truthy_bytes (by omega) ⟨H, I.tok _, q⟩
  | ref p =>
    cases rx
    have e' : (∃ xs, SqL X.K H p xs ∧ k = !xs.isEmpty) ∨ (∃ xs, SqT X.K H p xs ∧ k = !xs.isEmpty) ∨ ∃ kvs, H p = some (.dK kvs) ∧ k = !kvs.isEmpty := e
    rcases e' with ⟨xs, hx, e'⟩ | ⟨xs, hx, e'⟩ | ⟨kvs, hx, e'⟩
    · subst e'
      obtain ⟨its, r, pl, hz⟩ := I.list hx
      have hlen := r.length
      exact wpAny_truthy_list pl.isList (by simp only [List.size_toArray]; omega) ⟨H, I.tok _, by rw [isEmpty_of r]; exact q⟩
    · subst e'
      obtain ⟨its, r, pl, hz⟩ := I.tuple hx
      have hlen := r.length
      exact truthy_tuple pl (by simp only [List.size_toArray]; omega) ⟨H, I.tok _, by rw [isEmpty_of r]; exact q⟩
    · subst e'
      obtain ⟨hz, hS, vs, r, m⟩ : kvs.length ≤ sizeLine ∧ (p == sysModules) = false ∧ ∃ vs, KV kvs vs ∧ s.heap.DictOf (mixKind X.prog X.w) p vs := I.hok p _ hx
      have hlen : kvs.length = vs.length := Paired.length r
      exact wpAny_truthy_dict hS m (by omega) ⟨H, I.tok _, by rw [isEmpty_kv r]; exact q⟩
  | _ => exact (show False from e).elim
/-- any expression whose test is its value's truth (a name, a call, a subscript, a field ..: he by fun _ => rfl) -/
theorem pt_truth (ha : PE X a ta) (he : ∀ whole, isTrue a X.env whole = (do let v ← whole; standAt a.pos; holding [v] (truthy v))) :
    PT X a (fun σ H Q => ta σ H fun x H' => ∃ k, TruV X.K x H' k ∧ Q k H') := by
  intro pins s σ H Q I h
  exact isTrue_plain (thn (ha pins s σ H _ I h) fun v s1 ⟨x, H1, I1, r1, q1⟩ => tru_ok pins s1 σ H1 x v Q I1 r1 q1) (he _)

/-! ### strs and bytes -/
theorem op_add_str : OpR X (binaryOp .Add) (fun x y H Q => ∃ i j, x = .str i ∧ y = .str j ∧ i.length + j.length ≤ sizeLine ∧ Q (.str (i ++ j)) H) := by
  intro pins s σ H x y v u Q I rx ry h
  obtain ⟨i, j, rfl, rfl, hz, q⟩ := h
  obtain ⟨t, rfl⟩ := rx
  obtain ⟨t', rfl⟩ := ry
  exact add_str (fun t' tk => ⟨.str (i ++ j), H, I.tok _, ⟨_, rfl⟩, q⟩) hz


/-! ### scalar builtins, by CallR -/
theorem vals1 {x : V} {us : List Value} (r : Vals [x] us) : ∃ u, us = [u] ∧ RelV x u := by
  cases r with
  | cons r1 r2 => cases r2; exact ⟨_, rfl, r1⟩
theorem vals2 {x y : V} {us : List Value} (r : Vals [x, y] us) : ∃ u w', us = [u, w'] ∧ RelV x u ∧ RelV y w' := by
  cases r with
  | cons r1 r2 =>
    cases r2 with
    | cons r3 r4 => cases r4; exact ⟨_, _, rfl, r1, r3⟩
theorem call_max2 (hc : X.calm = true) : CallR X (.builtin "max") (fun xs H Q => ∃ i j, xs = [.int i, .int j] ∧ Q (.int (if j > i then j else i)) H) := by
  intro pins s σ H xs us Q I r h
  obtain ⟨i, j, rfl, q⟩ := h
  obtain ⟨u, w', rfl, ⟨t, rfl⟩, ⟨t', rfl⟩⟩ := vals2 r
  refine max_two_ints (I.ok.hd hc) fun h' tk k => ⟨_, H, I.kept k, ?_, q⟩
  by_cases hj : j > i
  · rw [if_pos hj, if_pos hj]; exact ⟨_, rfl⟩
  · rw [if_neg hj, if_neg hj]; exact ⟨_, rfl⟩
end
end L2

namespace L2
open PySem PySem.Spec PyProof.Rows

/-! ### an instance, its attributes a map -/
structure ObjM (h : Heap) (x dx C : Addr) (mA : Str → Option Value) : Prop where
  obj : h.get? x = some (PySem.W.instObj C dx)
  ns : h.Ns1 dx mA
  ne : dx ≠ x

theorem lookIn_ns {h : Heap} {dx : Addr} {mA : Str → Option Value} (n : h.Ns1 dx mA) : ∃ od, h.get? dx = some od ∧ ∀ name, PySem.W.lookIn name od = some (mA name) := by
  obtain ⟨o, es, ep, ho, hd, hk, _, hm⟩ := n
  refine ⟨o, ho, fun name => ?_⟩
  have e := hm name
  unfold nsFind findBy at e
  rw [← Array.find?_toList] at e
  unfold PySem.W.lookIn
  rw [hd]
  dsimp only
  split
  · rename_i y q
    rw [q] at e
    exact congrArg some e
  · rename_i q
    rw [q] at e
    have a : es.toList.any (·.refKey) = false := by
      rw [List.any_eq_false]
      intro y hy
      obtain ⟨z, t, hkey⟩ := hk y (Array.mem_toList_iff.mp hy)
      simp [DictEntry.refKey, hkey]
    have a' : ¬ es.toList.any (·.refKey) = true := by rw [a]; exact Bool.false_ne_true
    rw [if_neg a']
    exact congrArg some e

theorem ObjM.look {h : Heap} {x dx C : Addr} {mA : Str → Option Value} (I : ObjM h x dx C mA) : ∃ od, PySem.W.InstAt h x (PySem.W.instObj C dx) C (some od) ∧ ∀ name, PySem.W.lookIn name od = some (mA name) :=
  let ⟨od, ho, hl⟩ := lookIn_ns I.ns
  ⟨od, ⟨I.obj, rfl, rfl, ho⟩, hl⟩

section
variable {prog : Program} {w : World} {A : Around} {E : Value → Shared → Prop} {s : Shared} {K : PySem.W.Frag} {x dx C f : Addr} {mA : Str → Option Value} {name : Str} {v : Value}

theorem get_map {expr : Bool} {Q : Value → Shared → Prop} (X : K.In s.heap) (I : ObjM s.heap x dx C mA) (hg : PySem.W.plainGet K C name = true) (hh : PySem.W.hasDictIn K C = true)
    (ha : PySem.W.findIn K (.ref C) name = some none) (hv : mA name = some v) (hv' : PySem.W.handedIn v = true) (h : Q v { s with toks := s.toks + 1 }) :
    wpAny (model prog w) A (getAttr (.ref x) name expr) Q E s := by
  obtain ⟨od, J, hl⟩ := I.look
  exact PySem.W.get_value X J (PySem.W.plainGet_of hg).1 (PySem.W.findObj_own hh ha rfl (by rw [hl, hv])) hv' h


theorem get_meth {pl : Sem Bool} {Q : Value × List Value → Shared → Prop} (X : K.In s.heap) (I : ObjM s.heap x dx C mA) (hg : PySem.W.plainGet K C name = true)
    (hf : PySem.W.findIn K (.ref C) name = some (some (.ref f))) (ht : PySem.W.isFn K (.ref f) = true) (hv : mA name = none) (h : Q (.ref f, [.ref x]) s) :
    wpAny (model prog w) A (getMethod (.ref x) name pl) Q E s := by
  obtain ⟨od, J, hl⟩ := I.look
  exact PySem.W.method_fn X J (PySem.W.plainGet_of hg).1 (PySem.W.plainGet_of hg).2 hf (beq_iff_eq.mp ht) (by show (PySem.W.lookIn name od).map (·.isSome) = some false; rw [hl, hv]; rfl) h

theorem set_map {ns : List Str} {Q : Unit → Shared → Prop} (X : K.In s.heap) (I : ObjM s.heap x dx C mA)
    (hs : PySem.W.findIn K (.ref C) "__setattr__" = some (some (.builtin "object.__setattr__"))) (hp : PySem.W.plainOver K C = true) (ht : PySem.W.takerIn K C name = some none) (hh : PySem.W.hasDictIn K C = true)
    (hw : PySem.Within mA ns) (hsz : ns.length ≤ sizeLine)
    (h : ∀ h', ObjM h' x dx C (fun y => if y = name then some v else mA y) → Heap.SameBut dx s.heap h' → Q () { s with heap := h', toks := s.toks + 2 }) :
    wpAny (model prog w) A (setAttr (.ref x) name v) Q E s := by
  obtain ⟨od, J, hl⟩ := I.look
  refine PySem.W.set_plain X J hs (PySem.W.osa_open (s := { s with toks := s.toks + 1 }) (r := none) X J hp ht fun b => ?_)
  obtain ⟨cd, hc, hd'⟩ := PySem.W.any_some hh
  have hx : s.heap.get? x = some ⟨.ref C, some dx, .plain, #[]⟩ := I.obj
  refine wpAny_bind (wpAny_pure (wpAny_bind (wpAny_bind (wpAny_loadPart hx (wpAny_bind (PySem.W.Looks.here (s := { s with toks := s.toks + 1 }) (PySem.W.looks_clsIn X hc) ?_))))))
  rw [hd']
  refine wpAny_pure (a := some dx) (wpAny_bind (wpAny_pure (wpAny_bind ?_)))
  refine wpAny_nsSet1 (s := { s with toks := s.toks + 1 }) I.ns fun h' hn2 hs2 => ?_
  obtain ⟨oD, esD, epD, hoD, hdD, hcD⟩ := hn2.count (PySem.Within.cons name v hw)
  refine wpAny_bind (wpAny_lookBehind hoD (by rw [hdD]; exact pastItsLine_dict (Nat.le_trans hcD (by rw [List.length_cons]; omega))) ?_)
  exact wpAny_pure (h _ ⟨(hs2.2 _ (Ne.symm I.ne)).trans I.obj, hn2, I.ne⟩ hs2)

/-- C(..): the dict at the heap's end, the instance behind it; then its __init__ -/
theorem make_map {R : Result → Shared → Prop} {vs : List Value} {kw : List (Str × Value)} (X : K.In s.heap) (hm : PySem.W.makesIn K C = true)
    (hi : PySem.W.findIn K (.ref C) "__init__" = some (some (.ref f))) (hf : PySem.W.typeIn K (.ref f) = some (.type "function"))
    (h : codeAny (model prog w) (A.under (.builtin "type.__call__" ⟨.ref C :: vs, kw⟩)) (.call (.ref f) ⟨.ref (s.heap.objs.size + 1) :: vs, kw⟩) (PySem.W.InitBack (s.heap.objs.size + 1) R)
      { s with heap := (s.heap.push PySem.W.emptyDict).push (PySem.W.instObj C s.heap.objs.size) }) :
    codeAny (model prog w) A (.call (.ref C) ⟨vs, kw⟩) R s := by
  obtain ⟨hh, g, d, t, os⟩ := s
  exact PySem.W.make_core (PySem.W.makes_of X hm) (PySem.W.looks_findIn X hi) (fun self => PySem.W.bind_fn X self hf) (.inl rfl) h
end

/-! ### the attributes as a list of pairs -/
def putF (f : Str) (v : V) : List (Str × V) → List (Str × V)
  | [] => [(f, v)]
  | (g, x) :: r => if g = f then (g, v) :: r else (g, x) :: putF f v r
theorem lookup_putF (f g : Str) (v : V) : ∀ fs : List (Str × V), (putF f v fs).lookup g = if g = f then some v else fs.lookup g
  | [] => by
    show List.lookup g [(f, v)] = _
    by_cases h : g = f
    · have hb : (g == f) = true := beq_iff_eq.mpr h
      simp only [List.lookup, hb, if_pos h]
    · have hb : (g == f) = false := beq_eq_false_iff_ne.mpr h
      simp only [List.lookup, hb, if_neg h]
  | (k, x) :: r => by
    have ih := lookup_putF f g v r
    rw [show putF f v ((k, x) :: r) = (if k = f then (k, v) :: r else (k, x) :: putF f v r) from rfl]
    by_cases hk : k = f
    · rw [if_pos hk]
      by_cases h : g = k
      · have hb : (g == k) = true := beq_iff_eq.mpr h
        simp only [List.lookup, hb, if_pos (h.trans hk)]
      · have hb : (g == k) = false := beq_eq_false_iff_ne.mpr h
        simp only [List.lookup, hb, if_neg (fun e : g = f => h (e.trans hk.symm))]
    · rw [if_neg hk]
      by_cases h : g = k
      · have hb : (g == k) = true := beq_iff_eq.mpr h
        simp only [List.lookup, hb, if_neg (fun e : g = f => hk (h.symm.trans e))]
      · have hb : (g == k) = false := beq_eq_false_iff_ne.mpr h
        simp only [List.lookup, hb]
        exact ih
theorem keys_putF (f : Str) (v : V) : ∀ fs : List (Str × V), f ∈ (putF f v fs).map (·.1) ∧ ∀ g, g ∈ fs.map (·.1) → g ∈ (putF f v fs).map (·.1)
  | [] => ⟨by simp [putF], fun g h => by simp at h⟩
  | (k, x) :: r => by
    obtain ⟨i1, i2⟩ := keys_putF f v r
    rw [show putF f v ((k, x) :: r) = (if k = f then (k, v) :: r else (k, x) :: putF f v r) from rfl]
    by_cases hk : k = f
    · rw [if_pos hk]
      subst hk
      exact ⟨by simp, fun g h => by simpa using h⟩
    · rw [if_neg hk]
      refine ⟨?_, fun g h => ?_⟩
      · rw [List.map_cons]
        exact List.mem_cons_of_mem _ i1
      · rw [List.map_cons] at h ⊢
        rcases List.mem_cons.mp h with e | e
        · exact List.mem_cons.mpr (.inl e)
        · exact List.mem_cons_of_mem _ (i2 g e)
theorem length_putF (f : Str) (v : V) : ∀ fs : List (Str × V), (putF f v fs).length ≤ fs.length + 1
  | [] => by simp [putF]
  | (k, x) :: r => by
    have ih := length_putF f v r
    rw [show putF f v ((k, x) :: r) = (if k = f then (k, v) :: r else (k, x) :: putF f v r) from rfl]
    by_cases hk : k = f
    · rw [if_pos hk, List.length_cons, List.length_cons]; omega
    · rw [if_neg hk, List.length_cons, List.length_cons]; omega

theorem RelO.some_of {v : V} {o : Option Value} (r : RelO (some v) o) : ∃ u, o = some u ∧ RelV v u := by
  cases o with
  | none => exact (show False from r).elim
  | some u => exact ⟨u, rfl, r⟩
theorem RelO.none_of {o : Option Value} (r : RelO none o) : o = none := by
  cases o with
  | none => rfl
  | some u => exact (show False from r).elim
theorem handed_of {v : V} {u : Value} (r : RelV v u) : PySem.W.handedIn u = true := by
  cases v with
  | non => cases (show u = Value.none from r); rfl
  | bl b => cases (show u = Value.bool b from r); rfl
  | int i => obtain ⟨t, e⟩ := (show ∃ t, u = Value.int i t from r); cases e; rfl
  | str x => obtain ⟨t, e⟩ := (show ∃ t, u = Value.str x t from r); cases e; rfl
  | byt b => obtain ⟨t, e⟩ := (show ∃ t, u = Value.bytes b t from r); cases e; rfl
  | flt b => obtain ⟨t, e⟩ := (show ∃ t, u = Value.float b t from r); cases e; rfl
  | ref a => cases (show u = Value.ref a from r); rfl
  | ty n => cases (show u = Value.type n from r); rfl

section
variable {P : Program} {w : World} {H H' : Hp} {h h' : Heap} {a C dx : Addr} {fs fs' : List (Str × V)}
theorem ins_get (hok : HOk P w H h) (e : H a = some (.ins C dx fs)) : ∃ mA, ObjM h a dx C mA ∧ (∀ f, RelO (fs.lookup f) (mA f)) ∧ PySem.Within mA (fs.map (·.1)) ∧ fs.length ≤ 1000 ∧ H dx = some (.own a) := by
  obtain ⟨d, z, ne, ob, mA, n, r, q⟩ := (show ObjOk P w H h a (.ins C dx fs) from hok a _ e)
  exact ⟨mA, ⟨ob, n, ne⟩, r, q, z, d⟩
end

/-! ### what of the text a class must have -/
structure Cls (K : PySem.W.Frag) (C : Addr) : Prop where
  pg : PySem.W.plainGet K C Str.empty = true
  hd : PySem.W.hasDictIn K C = true
  po : PySem.W.plainOver K C = true
  sa : PySem.W.findIn K (.ref C) "__setattr__" = some (some (.builtin "object.__setattr__"))
theorem Cls.get {K : PySem.W.Frag} {C : Addr} (c : Cls K C) (f : Str) : PySem.W.plainGet K C f = true := c.pg
/-- no class of it has the name -/
def NoAttr (K : PySem.W.Frag) (C : Addr) (f : Str) : Prop := PySem.W.findIn K (.ref C) f = some none
theorem NoAttr.taker {K : PySem.W.Frag} {C : Addr} {f : Str} (n : NoAttr K C f) : PySem.W.takerIn K C f = some none := by
  unfold PySem.W.takerIn
  rw [show PySem.W.findIn K (.ref C) f = some none from n]
  rfl
/-- a constant of the class -/
structure Con (K : PySem.W.Frag) (C : Addr) (f : Str) (v : V) (u : Value) : Prop where
  at_ : PySem.W.findIn K (.ref C) f = some (some u)
  rel : RelV v u
  get : PySem.W.specialIn K u "__get__" = some none
  cp : PySem.W.copiedNames.contains f = false
/-- a method: a plain def of the class or of one above it -/
structure Meth (K : PySem.W.Frag) (C : Addr) (m : Str) (f : Addr) : Prop where
  at_ : PySem.W.findIn K (.ref C) m = some (some (.ref f))
  fn : PySem.W.isFn K (.ref f) = true
  kp : PySem.W.keepIn K (.ref f) = true

section
variable {X : Cx} {pins : List (Addr × Obj)} {σ : St} {H : Hp} {s : Shared} {a C dx : Addr} {fs : List (Str × V)} {f : Str} {v : V} {A : Around} {E : Value → Shared → Prop}

theorem getattr_ok {b : Bool} {Q : Value → Shared → Prop} (I : Inv X pins σ H s) (e : H a = some (.ins C dx fs)) (c : Cls X.K C) (n : NoAttr X.K C f) (l : fs.lookup f = some v)
    (h : ∀ u s', Inv X pins σ H s' → RelV v u → Q u s') : wpAny (model X.prog X.w) A (getAttr (.ref a) f b) Q E s := by
  obtain ⟨mA, O, r, _, _, _⟩ := ins_get I.hok e
  obtain ⟨u, hu, ru⟩ := RelO.some_of (v := v) (o := mA f) (by rw [← l]; exact r f)
  exact get_map I.kIn O (c.get f) c.hd n hu (handed_of ru) (h u _ (I.tok _) ru)


theorem getmeth_ok {m : Str} {g : Addr} {pl : Sem Bool} {Q : Value × List Value → Shared → Prop} (I : Inv X pins σ H s) (e : H a = some (.ins C dx fs)) (c : Cls X.K C) (k : Meth X.K C m g) (l : fs.lookup m = none)
    (h : Q (.ref g, [.ref a]) s) : wpAny (model X.prog X.w) A (getMethod (.ref a) m pl) Q E s := by
  obtain ⟨mA, O, r, _, _, _⟩ := ins_get I.hok e
  have hn : mA m = none := RelO.none_of (by rw [← l]; exact r m)
  exact get_meth I.kIn O (c.get m) k.at_ k.fn hn h

theorem setattr_ok {y : V} {u : Value} {Q : Unit → Shared → Prop} (I : Inv X pins σ H s) (e : H a = some (.ins C dx fs)) (c : Cls X.K C) (n : NoAttr X.K C f) (hl : fs.length < 1000) (ry : RelV y u)
    (h : ∀ s', Inv X pins σ (upd H a (.ins C dx (putF f y fs))) s' → Q () s') : wpAny (model X.prog X.w) A (setAttr (.ref a) f u) Q E s := by
  obtain ⟨mA, O, r, wi, _, ho⟩ := ins_get I.hok e
  have hz : (fs.map (·.1)).length ≤ sizeLine := by rw [List.length_map, sizeLine_eq]; omega
  refine set_map I.kIn O c.sa c.po n.taker c.hd wi hz fun h' O' sb => h _ ?_
  have hd : ∃ o, h'.get? dx = some o := let ⟨o, _, _, e', _⟩ := O'.ns; ⟨o, e'⟩
  refine I.write (x := a) (e := dx) (by rw [e]; exact True.intro) (.inr ho) (fun b q hb z => (sb.2 b hb).trans z) hd ?_
  refine ⟨by rw [upd_ne O.ne]; exact ho, ?_, O.ne, O'.obj, _, O'.ns, fun g => ?_, fun g hg => ?_⟩
  · have := length_putF f y fs; omega
  · show RelO ((putF f y fs).lookup g) (if g = f then some u else mA g)
    rw [lookup_putF]
    by_cases q : g = f
    · rw [if_pos q, if_pos q]; exact ry
    · rw [if_neg q, if_neg q]; exact r g
  · by_cases q : g = f
    · rw [q]; exact (keys_putF f y fs).1
    · refine (keys_putF f y fs).2 g (wi g fun z => hg ?_)
      show (if g = f then some u else mA g) = none
      rw [if_neg q]; exact z

/-- a new instance, tracked, without attributes -/
theorem Inv.made (I : Inv X pins σ H s) : Inv X pins σ (upd (upd H s.heap.objs.size (.own (s.heap.objs.size + 1))) (s.heap.objs.size + 1) (.ins C s.heap.objs.size []))
    { s with heap := (s.heap.push PySem.W.emptyDict).push (PySem.W.instObj C s.heap.objs.size) } := by
  have e1 : (s.heap.push PySem.W.emptyDict).get? s.heap.objs.size = some PySem.W.emptyDict := Heap.get?_push_size s.heap rfl
  have e2 : ((s.heap.push PySem.W.emptyDict).push (PySem.W.instObj C s.heap.objs.size)).get? (s.heap.objs.size + 1) = some (PySem.W.instObj C s.heap.objs.size) := by
    have := Heap.get?_push_size (s.heap.push PySem.W.emptyDict) (o := PySem.W.instObj C s.heap.objs.size) rfl
    rwa [Heap.size_push] at this
  have e3 : (s.heap.push PySem.W.emptyDict).Ns s.heap.objs.size (fun _ => none) := ⟨PySem.W.emptyDict, #[], _, e1, rfl, (fun e he => absurd he (by simp)), fun _ => rfl⟩
  have I1 := I.laid (a := s.heap.objs.size) (o := .own (s.heap.objs.size + 1)) (h' := s.heap.push PySem.W.emptyDict) (t' := s.toks) (fun b u q => Heap.get?_push_of_some _ q) (Nat.le_refl _) ⟨_, e1⟩
  refine I1.laid (a := s.heap.objs.size + 1) (o := .ins C s.heap.objs.size []) (t' := s.toks) (fun b u q => Heap.get?_push_of_some _ q) (Nat.le_of_eq (Heap.size_push _ _)) ?_
  have ne : s.heap.objs.size ≠ s.heap.objs.size + 1 := Nat.ne_of_lt (Nat.lt_succ_self _)
  refine ⟨by rw [upd_ne ne, upd_same], Nat.zero_le _, ne, e2, fun _ => none, (Heap.Ns1.of_empty e3).at fun o q => Heap.get?_push_of_some _ q, fun _ => True.intro, fun y hy => absurd rfl hy⟩

/-- e.f where nothing but the object is asked: through attributeBase (super) and the last hold -/
theorem attr_of {prog : Program} {w : World} {env : Env} {e : Expr} {f : Str} {pos : Pos} {s : Shared} {Q : Value → Shared → Prop} (hb : attributeBase e f env (eval e env) = eval e env)
    (h : wpAny (model prog w) A (eval e env) (fun o s₁ => wpAny (model prog w) A (getAttr o f true) Q E s₁) E s) : wpAny (model prog w) A (eval (.Attribute e f pos) env) Q E s :=
  Attribute_any_ h (by rw [arm_eval_Attribute, hb])
end

/-! ### readings and rules -/
/-- e.f, an attribute of the instance -/
def tFld (K : PySem.W.Frag) (ta : TE) (f : Str) : TE := fun σ H Q => ta σ H fun x H1 => ∃ a C dx fs v, x = .ref a ∧ H1 a = some (.ins C dx fs) ∧ Cls K C ∧ NoAttr K C f ∧ fs.lookup f = some v ∧ Q v H1
/-- e.f = value -/
def sFld (K : PySem.W.Frag) (ta tv : TE) (f : Str) : TS := fun D σ H => tv σ H fun y H1 => ta σ H1 fun x H2 => ∃ a C dx fs, x = .ref a ∧ H2 a = some (.ins C dx fs) ∧ Cls K C ∧ NoAttr K C f ∧ fs.length < 1000 ∧
  D.nx σ (upd H2 a (.ins C dx (putF f y fs)))

section
variable {X : Cx} {o e value : Expr} {f : Str} {pos pos' tpos : Pos} {ta tv : TE}
theorem pe_fld (he : PE X e ta) (hb : attributeBase e f X.env (eval e X.env) = eval e X.env) : PE X (.Attribute e f pos) (tFld X.K ta f) := by
  intro pins s σ H Q I h
  refine attr_of hb (thn (he pins s σ H _ I h) fun u s1 ⟨x, H1, I1, rx, a, C, dx, fs, v, ex, ea, c, n, l, q⟩ => ?_)
  subst ex
  obtain rfl : u = Value.ref a := rx
  exact getattr_ok I1 ea c n l fun u' s2 I2 ru => ⟨v, H1, I2, ru, q⟩
theorem ps_fld (ha : PE X o ta) (hv : PE X value tv) (hs : swapsWith value (some (.Attribute o f pos')) pos.line X.env = pure false) : PS X (.Assign [.Attribute o f pos'] value pos) (sFld X.K ta tv f) := by
  intro pins s σ H D I h
  refine plainObj_wpAny_Assign_Attribute (thn (hv pins s σ H _ I h) fun u s1 ⟨y, H1, I1, ry, q⟩ => thn (ha pins s1 σ H1 _ I1 q) fun ov s2 ⟨x, H2, I2, rx, a, C, dx, fs, ex, ea, c, n, l, q2⟩ => ?_) hs
  subst ex
  obtain rfl : ov = Value.ref a := rx
  exact setattr_ok I2 ea c n l ry fun s3 I3 => ⟨σ, _, I3, q2⟩

end

/-! ### isinstance -/
section
variable {X : Cx} {pins : List (Addr × Obj)} {σ : St} {H : Hp} {s : Shared} {A : Around} {E : Value → Shared → Prop} {Q : Value → Shared → Prop} {c : Value} {b : Bool}
/-- the type of a value, as the fragment's deciders take it; for an instance its class -/
inductive TyOf (K : PySem.W.Frag) (H : Hp) : V → Value → Prop where
  | non : TyOf K H .non (.type "NoneType")
  | bl (x : Bool) : TyOf K H (.bl x) (.type "bool")
  | int (i : Int) : TyOf K H (.int i) (.type "int")
  | str (x : Str) : TyOf K H (.str x) (.type "str")
  | flt (x : UInt64) : TyOf K H (.flt x) (.type "float")
  | lst {a : Addr} {xs : List V} (e : H a = some (.lst xs)) : TyOf K H (.ref a) (.type "list")
  | frz {a : Addr} {o : Obj} {xs : List V} (e : H a = some (.frz o (.lst xs))) : TyOf K H (.ref a) (.type "list")
  | tup {a : Addr} {xs : List V} (e : H a = some (.tup xs)) : TyOf K H (.ref a) (.type "tuple")
  | dK {a : Addr} {kvs : List (Key × V)} (e : H a = some (.dK kvs)) : TyOf K H (.ref a) (.type "dict")
  | dT {a : Addr} {kvs : List (List Key × V)} (e : H a = some (.dT kvs)) : TyOf K H (.ref a) (.type "dict")
  | ins {a C dx : Addr} {fs : List (Str × V)} (e : H a = some (.ins C dx fs)) (cl : Cls K C) (ha : PySem.W.findIn K (.ref C) "__class__" = some (some (.builtin "object.__class__")))
      (hn : PySem.W.specialIn K (.builtin "object.__class__") "__get__" = some (some (.builtin "getset_descriptor.__get__"))) (htk : PySem.W.takesIn K (.builtin "object.__class__") = some true)
      (hm : PySem.W.mroIn K C (.type "object") = some true) : TyOf K H (.ref a) (.ref C)
/-- isinstance(x, c) for one class c, a built-in or an own one: kitOne's answer -/
theorem isinst_ok {x : V} {u t : Value} (I : Inv X pins σ H s) (rx : RelV x u) (ty : TyOf X.K H x t) (e : PySem.W.kitOne X.K t c = some b) (h : ∀ tk, Q (.bool b) { s with toks := tk }) :
    wpAny (model X.prog X.w) A (call (.builtin "isinstance") [u, c]) Q E s := by
  cases ty with
  | non => cases (show u = Value.none from rx); exact PySem.W.kia_one PySem.W.kitx_none I.kIn True.intro e (fun z => nomatch z) h
  | bl y => cases (show u = Value.bool y from rx); exact PySem.W.kia_one PySem.W.kitx_bool I.kIn True.intro e (fun z => nomatch z) h
  | int i => obtain ⟨t, q⟩ := (show ∃ t, u = Value.int i t from rx); cases q; exact PySem.W.kia_one PySem.W.kitx_int I.kIn True.intro e (fun z => nomatch z) h
  | str y => obtain ⟨t, q⟩ := (show ∃ t, u = Value.str y t from rx); cases q; exact PySem.W.kia_one PySem.W.kitx_str I.kIn True.intro e (fun z => nomatch z) h
  | flt y => obtain ⟨t, q⟩ := (show ∃ t, u = Value.float y t from rx); cases q; exact PySem.W.kia_one PySem.W.kitx_float I.kIn True.intro e (fun z => nomatch z) h
  | @lst a xs ea =>
    cases (show u = Value.ref a from rx)
    obtain ⟨_, _, n, _, h1⟩ := (show ObjOk X.prog X.w H s.heap a (.lst xs) from I.hok a _ ea)
    exact PySem.W.kia_one PySem.W.kitx_list I.kIn ⟨_, h1, rfl⟩ e (fun z => nomatch z) h
  | @frz a ob xs ea =>
    cases (show u = Value.ref a from rx)
    obtain ⟨_, _, _, n, _, h1⟩ := (show ObjOk X.prog X.w H s.heap a (.frz ob (.lst xs)) from I.hok a _ ea)
    exact PySem.W.kia_one PySem.W.kitx_list I.kIn ⟨_, h1, rfl⟩ e (fun z => nomatch z) h
  | @tup a xs ea =>
    cases (show u = Value.ref a from rx)
    obtain ⟨_, _, _, p⟩ := (show ObjOk X.prog X.w H s.heap a (.tup xs) from I.hok a _ ea)
    obtain ⟨o, h1, h2, _⟩ := p
    exact PySem.W.kia_one PySem.W.kitx_tuple I.kIn ⟨o, h1, h2⟩ e (fun z => nomatch z) h
  | @dK a kvs ea =>
    cases (show u = Value.ref a from rx)
    obtain ⟨_, _, vs, _, p⟩ := (show ObjOk X.prog X.w H s.heap a (.dK kvs) from I.hok a _ ea)
    obtain ⟨o, es, ep, h1, h2, _⟩ := p
    exact PySem.W.kia_one PySem.W.kitx_dict I.kIn ⟨o, h1, h2.1⟩ e (fun z => nomatch z) h
  | @dT a kvs ea =>
    cases (show u = Value.ref a from rx)
    obtain ⟨_, _, xs, _, o, es, ep, h1, h2, _⟩ := (show ObjOk X.prog X.w H s.heap a (.dT kvs) from I.hok a _ ea)
    exact PySem.W.kia_one PySem.W.kitx_dict I.kIn ⟨o, h1, h2.1⟩ e (fun z => nomatch z) h
  | @ins a C dx fs ea cl ha hn htk hm =>
    cases (show u = Value.ref a from rx)
    obtain ⟨mA, O, _⟩ := ins_get I.hok ea
    obtain ⟨od, J, _⟩ := O.look
    exact PySem.W.kia_one (PySem.W.kitx_own (cl.get _) cl.hd ha hn htk hm) I.kIn J e (fun z => nomatch z) h
end
end L2

namespace L2
open PySem PySem.Spec PyProof.Rows

/-! ### room -/
structure Room (k : Nat) (A : Around) : Prop where
  hd : A.handled = none
  dp : A.depth + 3 * k + 5 < recursionLimit
  un : A.units + 16 * k + 200 < cLine
theorem Room.mono {j k : Nat} {A : Around} (r : Room k A) (h : j ≤ k) : Room j A := ⟨r.hd, by have := r.dp; omega, by have := r.un; omega⟩
theorem Room.deeper {k : Nat} {A : Around} (r : Room (k + 1) A) (env : Env) : Room k (A.deeper env) :=
  ⟨r.hd, by have := r.dp; show A.depth + 1 + 3 * k + 5 < _; omega, by have := r.un; show A.units + 3 + 16 * k + 200 < _; omega⟩
theorem Room.in1 {k : Nat} {A : Around} (r : Room (k + 1) A) : Room k A.in1 :=
  ⟨r.hd, by have := r.dp; show A.depth + 3 * k + 5 < _; omega, by have := r.un; show A.units + 1 + 16 * k + 200 < _; omega⟩
theorem make_depth {A : Around} {C : Addr} {us : List Value} {kw : List (Str × Value)} : (A.under (.builtin "type.__call__" ⟨.ref C :: us, kw⟩)).depth = A.depth + 1 := by
  first | rfl | simp [Around.under, Code.weight, Code.isCreation, Code.isGuard, Code.isCaller, Code.frames, Code.isFrame, guardIds]
theorem make_units {A : Around} {C : Addr} {us : List Value} {kw : List (Str × Value)} : (A.under (.builtin "type.__call__" ⟨.ref C :: us, kw⟩)).units = A.units + 1 := by
  first | rfl | simp [Around.under, Code.cUnits, Code.frames, Code.isFrame]
theorem Room.make {k : Nat} {A : Around} (r : Room (k + 1) A) (C : Addr) (us : List Value) (kw : List (Str × Value)) : Room k (A.under (.builtin "type.__call__" ⟨.ref C :: us, kw⟩)) :=
  ⟨r.hd, by have := r.dp; rw [make_depth]; omega, by have := r.un; rw [make_units]; omega⟩
theorem Room.depth {k : Nat} {A : Around} (r : Room k A) : A.depth < recursionLimit := by have := r.dp; omega
theorem Room.units {k : Nat} {A : Around} (r : Room k A) : A.units + 64 < cLine := by have := r.un; omega
theorem Room.units0 {k : Nat} {A : Around} (r : Room k A) : A.units < cLine := by have := r.un; omega

/-! ### argument lists and displays -/
def tNil : TA := fun _ H Q => Q [] H
def tCons (ta : TE) (tr : TA) : TA := fun σ H Q => ta σ H fun x H1 => tr σ H1 fun xs H2 => Q (x :: xs) H2
section
variable {X : Cx} {e : Expr} {es : List Expr} {te : TE} {t : TA} {pos : Pos}
theorem pa_nil : PA X [] tNil := fun _ _ _ _ H Q I h => Calls.spliced_nil ⟨[], H, I, .nil, h⟩
theorem pa_cons (ha : PE X e te) (hr : PA X es t) (hs : starEach (e :: es) X.env = (false, eval e X.env) :: starEach es X.env := by rfl) : PA X (e :: es) (tCons te t) := by
  intro pos pins s σ H Q I h
  rw [hs]
  show wpAny _ _ (spliced ((false, eval e X.env) :: backTo pos (starEach es X.env))) _ _ s
  refine Calls.spliced_cons (thn (ha pins s σ H _ I h) fun u s1 ⟨x, H1, I1, r1, q1⟩ => ?_)
  exact thn (hr pos pins s1 σ H1 _ I1 q1) fun us s2 ⟨xs, H2, I2, r2, q2⟩ => ⟨x :: xs, H2, I2, .cons r1 r2, q2⟩

/-- a tuple, a list of written items -/
def tTup (t : TA) : TE := fun σ H Q => t σ H fun xs H1 => xs.length ≤ sizeLine ∧ ∀ p, H1 p = none → Q (.ref p) (upd H1 p (.tup xs))
def tLst (t : TA) : TE := fun σ H Q => t σ H fun xs H1 => xs.length ≤ sizeLine ∧ ∀ p, H1 p = none → Q (.ref p) (upd H1 p (.lst xs))
theorem pe_tup {x1} (h : PA X es t) : PE X (.Tuple es x1 pos) (tTup t) := by
  intro pins s σ H Q I hq
  refine wpAny_Tuple_spliced (thn (h pos pins s σ H _ I hq) fun us s1 ⟨xs, H1, I1, r, z, q⟩ => ⟨by rw [← r.length]; exact z, ?_⟩)
  have hf : H1 s1.heap.objs.size = none := I1.hok.fresh (Nat.le_refl _)
  refine ⟨.ref s1.heap.objs.size, upd H1 s1.heap.objs.size (.tup xs), I1.laid (t' := s1.toks) (fun b u e => Heap.get?_push_of_some _ e) (Nat.le_refl _) ?_, rfl, q _ hf⟩
  exact ⟨z, us, r, ⟨_, Heap.get?_push_size _ rfl, rfl, _, rfl⟩⟩
theorem pe_lst (h : PA X es t) : PE X (.List es pos) (tLst t) := by
  intro pins s σ H Q I hq
  refine wpAny_List_spliced (thn (h pos pins s σ H _ I hq) fun us s1 ⟨xs, H1, I1, r, z, q⟩ => ⟨by rw [← r.length]; exact z, ?_⟩)
  have hf : H1 s1.heap.objs.size = none := I1.hok.fresh (Nat.le_refl _)
  refine ⟨.ref s1.heap.objs.size, upd H1 s1.heap.objs.size (.lst xs), I1.laid (t' := s1.toks) (fun b u e => Heap.get?_push_of_some _ e) (Nat.le_refl _) ?_, rfl, q _ hf⟩
  exact ⟨z, us, 0, r, Heap.get?_push_size _ rfl⟩
end

/-! ### what a def promises -/
/-- a def's promise: the bound arguments in the parameters' order, the heap, the wanted end, the wanted exception -/
abbrev Sp := List V → Hp → VK → XK → Prop
/-- how an exception lies behind a call (file 08 gives it): the callers' frames, abstract heap and state ahead of the call, the wish, the exception, the state -/
abbrev CXT := List Env → Hp → Shared → XK → Value → Shared → Prop

/-- the state at a call -/
structure Env0 (P : Program) (w : World) (K : PySem.W.Frag) (mg : Str → Option Value) (base : Heap) (A : Around) (outer : List Env) (s : Shared) (H : Hp) : Prop where
  frames : A.frames = some outer
  mod : Mod K mg base
  bs : ∀ b o, base.get? b = some o → s.heap.get? b = some o ∧ H b = none
  bsz : base.objs.size ≤ s.heap.objs.size
  funs : s.heap.FunFrames base outer
  frf : ∀ b ∈ frs outer, H b = none
  hok : HOk P w H s.heap
  bare : AllBare s.gens
/-- a call's end -/
def CE (outer : List Env) (P : Program) (w : World) (H : Hp) (s : Shared) (Q : VK) (u : Value) (s' : Shared) : Prop :=
  ∃ v H', s'.os = s.os ∧ AllBare s'.gens ∧ Un (frs outer) [] H H' s.heap s'.heap ∧ HOk P w H' s'.heap ∧ RelV v u ∧ Q v H'
def CR (CX : CXT) (outer : List Env) (P : Program) (w : World) (H : Hp) (s : Shared) (Q : VK) (E : XK) (r : Result) (s' : Shared) : Prop :=
  match r with
  | .ok (.ret u) => CE outer P w H s Q u s'
  | .ok _ => False
  | .error e => CX outer H s E e s'
structure FnOk (P : Program) (w : World) (K : PySem.W.Frag) (mg : Str → Option Value) (base : Heap) (CX : CXT) (k : Nat) (f : Addr) (fd : FuncData) (ps : List Str) (sp : Sp) : Prop where
  len : ∀ vs H Q E, sp vs H Q E → vs.length = ps.length
  run : ∀ (A : Around) (outer : List Env) (s : Shared) (H : Hp) (args : Args) (us : List Value) (vs : List V) (Q : VK) (E : XK), Room k A → Env0 P w K mg base A outer s H → BindsTo s fd args (ps.zip us) → Vals vs us → sp vs H Q E →
    codeAny (model P w) A (.call (.ref f) args) (CR CX outer P w H s Q E) s
theorem FnOk.mono {P : Program} {w : World} {K : PySem.W.Frag} {mg : Str → Option Value} {base : Heap} {CX : CXT} {j k : Nat} {f : Addr} {fd : FuncData} {ps : List Str} {sp : Sp} (F : FnOk P w K mg base CX j f fd ps sp) (h : j ≤ k) :
    FnOk P w K mg base CX k f fd ps sp := ⟨F.len, fun A outer s H args us vs Q E hr => F.run A outer s H args us vs Q E (hr.mono h)⟩
/-- a weaker promise -/
theorem FnOk.imp {P : Program} {w : World} {K : PySem.W.Frag} {mg : Str → Option Value} {base : Heap} {CX : CXT} {k : Nat} {f : Addr} {fd : FuncData} {ps : List Str} {sp sp' : Sp} (F : FnOk P w K mg base CX k f fd ps sp)
    (h : ∀ vs H Q E, sp' vs H Q E → sp vs H Q E) : FnOk P w K mg base CX k f fd ps sp' :=
  ⟨fun vs H Q E q => F.len vs H Q E (h _ _ _ _ q), fun A outer s H args us vs Q E hr he hb hv hs => F.run A outer s H args us vs Q E hr he hb hv (h _ _ _ _ hs)⟩

theorem Env0.make {P : Program} {w : World} {K : PySem.W.Frag} {mg : Str → Option Value} {base : Heap} {A : Around} {outer : List Env} {s : Shared} {H : Hp} (e : Env0 P w K mg base A outer s H) (C : Addr) (us : List Value) (kw : List (Str × Value)) :
    Env0 P w K mg base (A.under (.builtin "type.__call__" ⟨.ref C :: us, kw⟩)) outer s H := ⟨by first | exact e.frames | (simpa [Around.under, Code.envs, Code.isFrame, pushEnvs] using e.frames), e.mod, e.bs, e.bsz, e.funs, e.frf, e.hok, e.bare⟩

section
variable {X : Cx} {pins : List (Addr × Obj)} {σ : St} {H : Hp} {s s' : Shared}
/-- from a body: what a callee wants -/
theorem Inv.env0 (I : Inv X pins σ H s) : Env0 X.prog X.w X.K X.mg X.base X.A X.stack s H :=
  ⟨I.ok.frames, I.ok.mod, I.bs, Nat.le_trans I.ok.bsz I.sz, I.stack, I.stkFree, I.hok, I.bare⟩
/-- behind a call -/
theorem Inv.after {Q : VK} {u : Value} (I : Inv X pins σ H s) (h : CE X.stack X.prog X.w H s Q u s') : EP X pins σ Q u s' := by
  obtain ⟨v, H', os, bare, un, hok, r, q⟩ := h
  obtain ⟨hh, g, d, t, os'⟩ := s'
  obtain rfl : os' = s.os := os
  exact ⟨v, H', I.call (h' := hh) (g' := g) (d' := d) (t' := t) (ch := []) un hok bare (fun b z => absurd z (by simp)), r, q⟩
end

/-! ### calls -/
/-- f(..): the written arguments, then the defaults dvs; E: what is wanted of an exception -/
def tCall (sp : Sp) (dvs : List V) (E : XK) (t : TA) : TE := fun σ H Q => t σ H fun vs H1 => sp (vs ++ dvs) H1 Q E
/-- o.m(..) of an instance of the class at C -/
def tMeth (C : Addr) (m : Str) (sp : Sp) (dvs : List V) (E : XK) (ta : TE) (t : TA) : TE := fun σ H Q => ta σ H fun x H1 => ∃ a dx fs, x = .ref a ∧ H1 a = some (.ins C dx fs) ∧ fs.lookup m = none ∧
  t σ H1 fun vs H2 => sp (x :: (vs ++ dvs)) H2 Q E
/-- C(..): a new instance and its dict, then __init__ -/
def tMake (C : Addr) (sp : Sp) (dvs : List V) (E : XK) (t : TA) : TE := fun σ H Q => t σ H fun vs H1 => ∀ x dx, H1 x = none → H1 dx = none → dx ≠ x →
  sp (.ref x :: (vs ++ dvs)) (upd (upd H1 dx (.own x)) x (.ins C dx [])) (fun v H2 => v = .non ∧ Q (.ref x) H2) E

/-- how the parameters are bound: us the positional arguments, kw the keywords' values by name, ds the defaults that fill up -/
def Binds (K : PySem.W.Frag) (fd : FuncData) (ps : List Str) (ds : List Value) : Prop :=
  ∀ (s : Shared) (us : List Value), K.In s.heap → (us ++ ds).length = ps.length → BindsTo s fd ⟨us, []⟩ (ps.zip (us ++ ds))
/-- every parameter is given -/
theorem Binds.all {K : PySem.W.Frag} {fd : FuncData} {ps : List Str} (h : ∀ us : List Value, us.length = ps.length → bindArgs fd ⟨us, []⟩ = pure (ps.zip us)) : Binds K fd ps [] := fun s us _ hl => by
  rw [List.append_nil] at hl ⊢
  exact .of_eq (h us hl)

/-- an exception of a callee reaches what this body wants of exceptions -/
def Passes (CX : CXT) (X : Cx) (E : XK) : Prop := ∀ (pins : List (Addr × Obj)) (σ : St) (H : Hp) (s : Shared) (e : Value) (s' : Shared), Inv X pins σ H s → CX X.stack H s E e s' → X.xe e s'

section
variable {X : Cx} {CX : CXT} {k : Nat} {f C : Addr} {fd : FuncData} {ps : List Str} {sp : Sp} {dvs : List V} {ds : List Value} {E : XK} {x m : Str} {p pos apos : Pos} {e o : Expr} {es : List Expr} {ta : TE} {t : TA}

/-- the callee runs -/
theorem run_fn {pins : List (Addr × Obj)} {σ : St} {H : Hp} {s : Shared} {Q : VK} {us : List Value} {vs : List V} (F : FnOk X.prog X.w X.K X.mg X.base CX k f fd ps sp) (hr : Room k X.A) (hb : Binds X.K fd ps ds) (hd : Vals dvs ds) (hx : Passes CX X E)
    (I : Inv X pins σ H s) (r : Vals vs us) (h : sp (vs ++ dvs) H Q E) : wpAny (model X.prog X.w) X.A (call (.ref f) us) (EP X pins σ Q) X.xe s := by
  have r2 : Vals (vs ++ dvs) (us ++ ds) := r.append hd
  have hl : (us ++ ds).length = ps.length := by rw [← r2.length]; exact F.len _ _ _ _ h
  refine wpAny_call (codeAny_mono (F.run X.A X.stack s H ⟨us, []⟩ (us ++ ds) (vs ++ dvs) Q E hr I.env0 (hb s us I.kIn hl) r2 h) fun r s' hq => ?_)
  cases r with
  | error e => exact hx pins σ H s e s' I hq
  | ok fl =>
    cases fl with
    | ret u => exact I.after hq
    | next => exact False.elim hq
    | brk => exact False.elim hq
    | cont => exact False.elim hq

theorem pe_call (F : FnOk X.prog X.w X.K X.mg X.base CX k f fd ps sp) (hr : Room k X.A) (hg : Gl X x) (hm : X.mg x = some (.ref f)) (hk : PySem.W.keepIn X.K (.ref f) = true) (hb : Binds X.K fd ps ds) (hd : Vals dvs ds) (hx : Passes CX X E)
    (ha : PA X (e :: es) t) (hdb : (x == ("__debug__" : Str)) = false := by decide) (he : starEach (e :: es) X.env = (false, eval e X.env) :: starEach es X.env := by rfl) (hpl : (backTo pos (starEach es X.env)).any (·.1) = false := by rfl) :
    PE X (.Call (.Name x p) (e :: es) [] pos) (tCall sp dvs E t) := by
  intro pins s σ H Q I h
  refine wpAny_Call_Name_kw (ld_glob I hg hm ?_ hdb)
  refine PySem.W.callWith_K (h₀ := X.base) I.ok.mod.kin hk (thn (ha pos pins s σ H _ I h) fun us s1 ⟨vs, H1, I1, r, q⟩ => ⟨I1.kIn, ?_⟩) he hpl
  exact run_fn F hr hb hd hx I1 r q

/-- o.m(e, ..) -/
theorem pe_meth {pl : Sem Bool} (he : PE X o ta) (c : Cls X.K C) (hm : Meth X.K C m f) (F : FnOk X.prog X.w X.K X.mg X.base CX k f fd ps sp) (hr : Room k X.A) (hb : Binds X.K fd ps ds) (hd : Vals dvs ds) (hx : Passes CX X E) (ha : PA X (e :: es) t)
    (hst : starEach (e :: es) X.env = (false, eval e X.env) :: starEach es X.env := by rfl) (hpl : (backTo pos (starEach es X.env)).any (·.1) = false := by rfl)
    (ht : eval (.Call (.Attribute o m apos) (e :: es) [] pos) X.env = (do
      let ov ← eval o X.env
      standAt apos.atName
      let (f, first) ← holding [ov] (getMethod ov m pl)
      callWith pos f first (backTo pos (starEach (e :: es) X.env)) (backToKw pos (keywordEach [] X.env))) := by rfl) :
    PE X (.Call (.Attribute o m apos) (e :: es) [] pos) (tMeth C m sp dvs E ta t) := by
  intro pins s σ H Q I h
  refine PySem.W.methodCall_KW (pl := pl) (thn (he pins s σ H _ I h) fun u s1 ⟨x, H1, I1, rx, a, dx, fs, ex, ea, l, q⟩ => ?_) ht
  subst ex
  obtain rfl : u = Value.ref a := rx
  refine getmeth_ok I1 ea c hm l ?_
  refine PySem.W.callWith_K (first := [.ref a]) (h₀ := X.base) I.ok.mod.kin hm.kp (thn (ha pos pins s1 σ H1 _ I1 q) fun us s2 ⟨vs, H2, I2, r, q2⟩ => ⟨I2.kIn, ?_⟩) hst hpl
  exact run_fn (us := .ref a :: us) (vs := .ref a :: vs) F hr hb hd hx I2 (.cons rfl r) q2

/-- what a class must have to be made -/
structure Mk (K : PySem.W.Frag) (C f : Addr) : Prop where
  makes : PySem.W.makesIn K C = true
  init : PySem.W.findIn K (.ref C) "__init__" = some (some (.ref f))
  fn : PySem.W.isFn K (.ref f) = true
  kp : PySem.W.keepIn K (.ref C) = true

theorem run_make {pins : List (Addr × Obj)} {σ : St} {H : Hp} {s : Shared} {Q : VK} {us : List Value} {vs : List V} (M : Mk X.K C f) (F : FnOk X.prog X.w X.K X.mg X.base CX k f fd ps sp) (hr : Room (k + 1) X.A) (hb : Binds X.K fd ps ds) (hd : Vals dvs ds)
    (hx : Passes CX X E) (I : Inv X pins σ H s) (r : Vals vs us)
    (h : ∀ x dx, H x = none → H dx = none → dx ≠ x → sp (.ref x :: (vs ++ dvs)) (upd (upd H dx (.own x)) x (.ins C dx [])) (fun v H2 => v = .non ∧ Q (.ref x) H2) E) :
    wpAny (model X.prog X.w) X.A (call (.ref C) us) (EP X pins σ Q) X.xe s := by
  have hq := h (s.heap.objs.size + 1) s.heap.objs.size (I.hok.fresh (Nat.le_succ _)) (I.hok.fresh (Nat.le_refl _)) (Nat.ne_of_lt (Nat.lt_succ_self _))
  have I2 := Inv.made (C := C) I
  have r2 : Vals (V.ref (s.heap.objs.size + 1) :: (vs ++ dvs)) (Value.ref (s.heap.objs.size + 1) :: (us ++ ds)) := .cons rfl (r.append hd)
  have hl : (Value.ref (s.heap.objs.size + 1) :: us ++ ds).length = ps.length := by
    have e := r2.length
    rw [F.len _ _ _ _ hq] at e
    exact e.symm
  refine wpAny_call (make_map (f := f) I.kIn M.makes M.init (beq_iff_eq.mp M.fn) (codeAny_mono (F.run _ X.stack _ _ ⟨Value.ref (s.heap.objs.size + 1) :: us, []⟩ (Value.ref (s.heap.objs.size + 1) :: (us ++ ds)) _ _ E (hr.make C us [])
    (I2.env0.make C us []) (hb _ (Value.ref (s.heap.objs.size + 1) :: us) I2.kIn hl) r2 hq) fun r s' hq' => ?_))
  cases r with
  | error e => exact hx pins σ _ _ e s' I2 hq'
  | ok fl =>
    cases fl with
    | ret u =>
      obtain ⟨v, H', I3, rv, ev, q3⟩ := I2.after hq'
      subst ev
      exact ⟨rv, ⟨V.ref (s.heap.objs.size + 1), H', I3, rfl, q3⟩⟩
    | next => exact False.elim hq'
    | brk => exact False.elim hq'
    | cont => exact False.elim hq'
theorem pe_make0 (M : Mk X.K C f) (F : FnOk X.prog X.w X.K X.mg X.base CX k f fd ps sp) (hr : Room (k + 1) X.A) (hg : Gl X x) (hm : X.mg x = some (.ref C)) (hb : Binds X.K fd ps ds) (hd : Vals dvs ds) (hx : Passes CX X E)
    (hdb : (x == ("__debug__" : Str)) = false := by decide) : PE X (.Call (.Name x p) [] [] pos) (tMake C sp dvs E tNil) := by
  intro pins s σ H Q I h
  refine wpAny_Call_Name_kw (ld_glob I hg hm ?_ hdb)
  exact PySem.W.callWith_K0 I.kIn M.kp (run_make (us := []) M F hr hb hd hx I .nil h)
end

/-! ### keywords -/
section
variable {X : Cx} {CX : CXT} {k : Nat} {f C : Addr} {fd : FuncData} {ps ks : List Str} {sp : Sp} {E : XK} {x m : Str} {p pos apos kpos : Pos} {e o : Expr} {es : List Expr} {kws : List Keyword} {te ta : TE} {t tk : TA} {nm : Option Str}

/-- how a call with keywords binds: g puts the positional values us and the keywords' values ws (names ks) in the parameters' order, defaults among them -/
structure KBinds (K : PySem.W.Frag) (fd : FuncData) (ps ks : List Str) (g : List Value → List Value → List Value) (gV : List V → List V → List V) : Prop where
  to : ∀ (s : Shared) (us ws : List Value), K.In s.heap → (g us ws).length = ps.length → BindsTo s fd ⟨us, ks.zip ws⟩ (ps.zip (g us ws))
  rel : ∀ {vs : List V} {us : List Value} {zs : List V} {ws : List Value}, Vals vs us → Vals zs ws → Vals (gV vs zs) (g us ws)
variable {g : List Value → List Value → List Value} {gV : List V → List V → List V}
end

/-! ### a def's body keeps its promise -/
/-- names: the parameters first -/
structure FnScope (N P : List Str) (sc : Scope) : Prop where
  kind : sc.kind = .function
  co : sc.isCoroutine = false
  gen : sc.isGenerator = false
  nd : N.Nodup
  pre : N.take P.length = P
  par : ∀ x ∈ P, sc.names.lookup x = some .local ∨ sc.names.lookup x = some .cell
  nofree : ∀ y ∈ sc.names, y.2 ≠ .free

theorem bindL_out {kindOf : Str → Option NameKind} {x : Str} : ∀ {binds : List (Str × Value)} {m : Str → Option Value}, (∀ v, (x, v) ∉ binds) → bindL kindOf binds m x = m x
  | [], _, _ => rfl
  | (n, v) :: r, m, h => by
    unfold bindL
    rw [bindL_out fun w hw => h w (List.mem_cons_of_mem _ hw)]
    split
    · have : x ≠ n := by rintro rfl; exact h v List.mem_cons_self
      simp [this]
    · rfl
theorem bindC_out {kindOf : Str → Option NameKind} {x : Str} : ∀ {binds : List (Str × Value)} {m : Str → Option Value}, (∀ v, (x, v) ∉ binds) → bindC kindOf binds m x = m x
  | [], _, _ => rfl
  | (n, v) :: r, m, h => by
    unfold bindC
    rw [bindC_out fun w hw => h w (List.mem_cons_of_mem _ hw)]
    split
    · rfl
    · have : x ≠ n := by rintro rfl; exact h v List.mem_cons_self
      simp [this]
theorem bindL_get {kindOf : Str → Option NameKind} {x : Str} {v : Value} : ∀ {P : List Str} {vs : List Value} {i : Nat} {m : Str → Option Value}, P.Nodup → P[i]? = some x → vs[i]? = some v → kindOf x = some .local →
    bindL kindOf (P.zip vs) m x = some v
  | [], _, _, _, _, h, _, _ => by simp at h
  | _ :: _, [], _, _, _, _, h, _ => by simp at h
  | p :: P, w :: vs, 0, m, nd, h1, h2, hk => by
    simp at h1 h2; subst h1; subst h2
    show bindL kindOf ((p, w) :: P.zip vs) m p = _
    unfold bindL
    rw [bindL_out fun v hv => (List.nodup_cons.mp nd).1 (List.of_mem_zip hv).1, if_pos hk]
    simp
  | p :: P, w :: vs, i + 1, m, nd, h1, h2, hk => by
    show bindL kindOf ((p, w) :: P.zip vs) m x = _
    unfold bindL
    exact bindL_get (i := i) (List.nodup_cons.mp nd).2 (by simpa using h1) (by simpa using h2) hk
theorem bindC_get {kindOf : Str → Option NameKind} {x : Str} {v : Value} : ∀ {P : List Str} {vs : List Value} {i : Nat} {m : Str → Option Value}, P.Nodup → P[i]? = some x → vs[i]? = some v → kindOf x ≠ some .local →
    bindC kindOf (P.zip vs) m x = some v
  | [], _, _, _, _, h, _, _ => by simp at h
  | _ :: _, [], _, _, _, _, h, _ => by simp at h
  | p :: P, w :: vs, 0, m, nd, h1, h2, hk => by
    simp at h1 h2; subst h1; subst h2
    show bindC kindOf ((p, w) :: P.zip vs) m p = _
    unfold bindC
    rw [bindC_out fun v hv => (List.nodup_cons.mp nd).1 (List.of_mem_zip hv).1, if_neg hk]
    simp
  | p :: P, w :: vs, i + 1, m, nd, h1, h2, hk => by
    show bindC kindOf ((p, w) :: P.zip vs) m x = _
    unfold bindC
    exact bindC_get (i := i) (List.nodup_cons.mp nd).2 (by simpa using h1) (by simpa using h2) hk

/-- the names' values at the entry -/
def start (N : List Str) (vs : List V) : St := vs.map some ++ List.replicate (N.length - vs.length) none

/-- the context of a def's body, at its entry; an exception leaves the frame, then lies as CX says -/
def cxOf (CX : CXT) (P : Program) (w : World) (K : PySem.W.Frag) (mg : Str → Option Value) (base : Heap) (N : List Str) (qual : Str) (scope : Scope) (f : Addr) (cd : Value) (A : Around) (outer : List Env) (s : Shared) (H : Hp) (E : XK) : Cx where
  prog := P
  w := w
  K := K
  mg := mg
  base := base
  A := A.deeper (envOfC qual scope s.heap.objs.size f cd)
  N := N
  s₀ := s
  H₀ := H
  env := envOfC qual scope s.heap.objs.size f cd
  outer := outer
  stack := envOfC qual scope s.heap.objs.size f cd :: outer
  ex := []
  calm := true
  fn := fun _ => true
  pn := []
  xe := fun e s' => wpAny (model P w) (A.deeper (envOfC qual scope s.heap.objs.size f cd)) (leaving (envOfC qual scope s.heap.objs.size f cd) e) (fun _ s'' => CX outer H s E e s'') (fun e' s'' => CX outer H s E e' s'') s'

theorem cell_has {sc : Scope} {n : Nat} {x : Str} (h : sc.names.lookup x = some .cell) : ∃ c, (cellsFrom n sc.names []).lookup x = some c := by
  have q := PySem.W.cellsFrom_some sc.names n [] (.inl h)
  exact Option.isSome_iff_exists.mp q

theorem inv_start {CX : CXT} {P : Program} {w : World} {K : PySem.W.Frag} {mg : Str → Option Value} {base : Heap} {N ps : List Str} {qual : Str} {scope : Scope} {f : Addr} {cd : Value} {A : Around} {outer : List Env} {s s1 : Shared} {H : Hp} {E : XK} {us : List Value} {vs : List V}
    (S : FnScope N ps scope) (hd : A.handled = none) (e0 : Env0 P w K mg base A outer s H) (hl : vs.length = ps.length) (r : Vals vs us)
    (x : InCallC s s.heap.objs.size (bindL (envOfC qual scope s.heap.objs.size f cd).kindOf (ps.zip us) fun _ => none) (cellsFrom (s.heap.objs.size + 1) scope.names []) (bindC (envOfC qual scope s.heap.objs.size f cd).kindOf (ps.zip us) fun _ => none) s1) :
    Inv (cxOf CX P w K mg base N qual scope f cd A outer s H E) [] (start N vs) H s1 := by
  have hpl : ps.length ≤ N.length := by have := congrArg List.length S.pre; rw [List.length_take] at this; omega
  obtain ⟨h1, tk, rfl, hk⟩ := x.done
  have noA : ∀ b : Addr, b ∉ (cxOf CX P w K mg base N qual scope f cd A outer s H E).ex := fun b z => absurd (show b ∈ ([] : List Addr) from z) (by simp)
  refine ⟨⟨e0.mod, S.kind, rfl, rfl, Nat.le_refl _, fun y z c h1 h2 => ?_, fun y hy => ?_, fun y c _ h => ?_, fun _ => hd, Around.frames_deeper e0.frames, .inr ⟨rfl, rfl⟩, fun b z => absurd z (noA b), e0.bs, e0.bsz, fun b _ _ => noA b, fun b z => absurd z (noA b), e0.funs, e0.frf⟩,
    rfl, e0.bare, Un.kept hk, ⟨_, x.toInCall.ns, fun i y v h1 h2 h3 => ?_⟩, fun y c h => ⟨_, x.cell y c h⟩, e0.hok.fresh (Nat.le_refl _), fun y c h => ?_, fun p hp => absurd (show p ∈ ([] : List (Addr × Obj)) from hp) (by simp), e0.hok.kept hk, ?_⟩
  · exact name_of_addr x.apart (PySem.mem_of_lookup h1) (PySem.mem_of_lookup h2)
  · have hy : scope.names.lookup y = some .cell ∨ scope.names.lookup y = some .free := hy
    rcases hy with hy | hy
    · exact cell_has hy
    · exact absurd rfl (S.nofree _ (PySem.mem_of_lookup hy))
  · exact Nat.le_of_lt (x.above y c (PySem.mem_of_lookup h))
  · have hi : i < vs.length := by
      unfold start at h2
      by_cases hi : i < vs.length
      · exact hi
      · rw [List.getElem?_append_right (by simpa using hi)] at h2
        rw [List.getElem?_replicate] at h2
        split at h2 <;> cases h2
    have ha : vs[i]? = some v := by
      unfold start at h2
      rw [List.getElem?_append_left (by simpa using hi), List.getElem?_map] at h2
      cases e : vs[i]? with
      | none => rw [e] at h2; cases h2
      | some a => rw [e] at h2; cases h2; rfl
    obtain ⟨u, hu, rv⟩ := r.get ha
    have hp : ps[i]? = some y := by
      rw [← S.pre, List.getElem?_take_of_lt (by omega)]; exact h1
    have ndP : ps.Nodup := by rw [← S.pre]; exact S.nd.sublist (List.take_sublist _ _)
    refine ⟨u, rv, ?_⟩
    rcases S.par y (List.mem_of_getElem? hp) with k | k
    · exact .inl ⟨k, bindL_get ndP hp hu k⟩
    · obtain ⟨c, e⟩ := cell_has (n := s.heap.objs.size + 1) k
      refine .inr ⟨.inl k, c, e, ?_⟩
      have q := x.cell y c e
      rw [bindC_get ndP hp hu (by show scope.names.lookup y ≠ _; rw [k]; decide)] at q
      exact q
  · exact e0.hok.fresh (Nat.le_of_lt (x.above y c (PySem.mem_of_lookup h)))
  · unfold start
    show _ = N.length
    rw [List.length_append, List.length_map, List.length_replicate]
    omega

/-- THE RULE: a def (or a method) of the text, by its body. The body's reading t is chosen for each entry; it is run at the parameters' values -/
theorem fn_of {CX : CXT} {P : Program} {w : World} {K : PySem.W.Frag} {mg : Str → Option Value} {base : Heap} {k : Nat} {f : Addr} {name qual : Str} {params : Arguments} {body : List Stmt} {scope : Scope} {dV kV doc pm cdv ct oc : Value} {an od : Option Addr}
    {osl : Array (Option Value)} {N ps : List Str} {sp : Sp} (lk : K.lookup f = some ⟨oc, od, .func (PySem.W.fnOf name qual params body scope dV kV doc pm an cdv ct), osl⟩) (hcd : PySem.W.codeIn K cdv qual = true) (S : FnScope N ps scope)
    (len : ∀ vs H Q E, sp vs H Q E → vs.length = ps.length)
    (hbody : ∀ (A : Around) (outer : List Env) (s : Shared) (H : Hp) (vs : List V) (Q : VK) (E : XK), Room k (A.deeper (envOfC qual scope s.heap.objs.size f cdv)) → sp vs H Q E →
      ∃ t, PSs (cxOf CX P w K mg base N qual scope f cdv A outer s H E) body t ∧ t { nx := fun _ H' => Q .non H', rt := Q } (start N vs) H) :
    FnOk P w K mg base CX (k + 1) f (PySem.W.fnOf name qual params body scope dV kV doc pm an cdv ct) ps sp := by
  refine ⟨len, fun A outer s H args us vs Q E hr e0 hb r hsp => ?_⟩
  have hl := len _ _ _ _ hsp
  have KX : K.In s.heap := e0.mod.kin.keeps fun b o e => (e0.bs b o e).1
  have lim : s.heap.NoLimit := e0.mod.nolimit.keeps fun b o e => (e0.bs b o e).1
  have hkind : ∀ y ∈ ps.zip us, scope.names.lookup y.1 = some .local ∨ (scope.names.lookup y.1 = some .cell ∧ ((cellsFrom (s.heap.objs.size + 1) scope.names []).lookup y.1).isSome = true) := fun ⟨n, v⟩ hy => by
    rcases S.par n (List.of_mem_zip hy).1 with q | q
    · exact .inl q
    · exact .inr ⟨q, PySem.W.cellsFrom_some _ _ _ (.inl q)⟩
  refine codeAny_call_function hr.depth (KX _ _ lk) rfl S.co S.gen rfl (PySem.W.codeRec_of KX hcd) (hb _ _ _ _ ?_)
  refine wpAny_newFunctionEnv_cells S.kind hkind fun env he s1 x => ?_
  subst he
  refine ⟨lim.keeps x.toInCall.keep, codeAny_func ?_⟩
  obtain ⟨t, ht, hq⟩ := hbody A outer s H vs Q E (hr.deeper _) hsp
  have I : Inv (cxOf CX P w K mg base N qual scope f cdv A outer s H E) [] (start N vs) H s1 := inv_start S hr.hd e0 hl r x
  refine wpAny_mono (ht [] s1 (start N vs) H _ I hq) (fun fl s' hs => ?_) fun e s' hs => hs
  have fin : ∀ {σ' : St} {H' : Hp} {v : V} {u : Value}, Inv (cxOf CX P w K mg base N qual scope f cdv A outer s H E) [] σ' H' s' → RelV v u → Q v H' → CE outer P w H s Q u s' :=
    fun {σ' H' v u} J rv q => ⟨v, H', J.os, J.bare, J.base, J.hok, rv, q⟩
  cases fl with
  | ret u =>
    obtain ⟨v, σ', H', J, rv, q⟩ := hs
    exact fin J rv q
  | next =>
    obtain ⟨σ', H', J, q⟩ := hs
    exact fin (v := V.non) (u := Value.none) J rfl q
  | brk =>
    obtain ⟨_, _, _, q⟩ := hs
    exact False.elim q
  | cont =>
    obtain ⟨_, _, _, q⟩ := hs
    exact False.elim q
end L2

namespace L2
open PySem PySem.Spec PyProof.Rows
section
variable {X : Cx} {x : Str} {p pos : Pos} {e : Expr} {es : List Expr} {t : TA} {id T : String} {r : List V → Hp → VK → Prop}

def tCB (r : List V → Hp → VK → Prop) (t : TA) : TE := fun σ H Q => t σ H fun vs H1 => r vs H1 Q
/-- f(e, ..), f a built-in function -/
theorem pe_callB (hc : CallR X (.builtin id) r) (hg : Gl X x) (hm : X.mg x = none) (hv : bootBuiltins x = some (.builtin id)) (ha : PA X (e :: es) t) (hn : x ≠ "__name__" := by decide) (hdb : (x == ("__debug__" : Str)) = false := by decide)
    (he : starEach (e :: es) X.env = (false, eval e X.env) :: starEach es X.env := by rfl) (hpl : (backTo pos (starEach es X.env)).any (·.1) = false := by rfl) : PE X (.Call (.Name x p) (e :: es) [] pos) (tCB r t) := by
  intro pins s σ H Q I h
  refine wpAny_Call_Name_kw (ld_blt I hg hm hv ?_ hn hdb)
  exact PyProof.Rows.callWith_builtin1 (thn (ha pos pins s σ H _ I h) fun us s1 ⟨vs, H1, I1, r1, q1⟩ => hc pins s1 σ H1 vs us Q I1 r1 q1) he hpl
/-- T(e, ..), T a built-in type -/
theorem pe_callTy (hc : CallR X (.type T) r) (hg : Gl X x) (hm : X.mg x = none) (hv : bootBuiltins x = some (.type T)) (ha : PA X (e :: es) t) (hn : x ≠ "__name__" := by decide) (hdb : (x == ("__debug__" : Str)) = false := by decide)
    (he : starEach (e :: es) X.env = (false, eval e X.env) :: starEach es X.env := by rfl) (hpl : (backTo pos (starEach es X.env)).any (·.1) = false := by rfl) : PE X (.Call (.Name x p) (e :: es) [] pos) (tCB r t) := by
  intro pins s σ H Q I h
  refine wpAny_Call_Name_kw (ld_blt I hg hm hv ?_ hn hdb)
  exact PyProof.Rows.callWith_type1 (thn (ha pos pins s σ H _ I h) fun us s1 ⟨vs, H1, I1, r1, q1⟩ => hc pins s1 σ H1 vs us Q I1 r1 q1) he hpl
end
end L2

namespace HT
open PySem PyProof.Rows



section
open PySem.SeqAt
open PySem.AutoSeq1 (wpAny_loadPart')
open PySem.MeetsSeq PySem.MeetsSeq2 PySem.MeetsSeq3

end

section
variable {prog : Program} {w : World} {A : Around} {E : Value → Shared → Prop} {s : Shared}



/-! ### t[a:b], not the whole -/
/-- a slice's bound as a place among n (d where it is left out) -/
def sIx (n d : Nat) : Option Int → Nat
  | none => d
  | some v => if v < 0 then (v + (n : Int)).toNat else min v.toNat n

end
end HT

namespace L2
open PySem PySem.Spec PyProof.Rows

/-! ### the parts of a slice -/
abbrev TO := St → Hp → (Option Int → Hp → Prop) → Prop
/-- a slice's part (left out, or an int) -/
def PO (X : Cx) (e : Option Expr) (t : TO) : Prop :=
  ∀ (pins : List (Addr × Obj)) (s : Shared) (σ : St) (H : Hp) (Q : Option Int → Hp → Prop), Inv X pins σ H s → t σ H Q →
    wpAny (model X.prog X.w) X.A (evalPart e X.env) (fun u s' => ∃ o H', Inv X pins σ H' s' ∧ IsPart u o ∧ Q o H') X.xe s
def tNoPart : TO := fun _ H Q => Q none H
def tPart (t : TE) : TO := fun σ H Q => t σ H fun x H1 => ∃ i, x = .int i ∧ Q (some i) H1


section
variable {X : Cx} {e : Expr} {te : TE} {lo hi : Option Expr} {tl th : TO} {pos p2 : Pos}

theorem po_none : PO X none tNoPart := by
  intro pins s σ H Q I h
  rw [evalPart_none]
  exact wpAny_pure ⟨none, H, I, .none, h⟩
theorem po_some (h : PE X e te) : PO X (some e) (tPart te) := by
  intro pins s σ H Q I hw
  rw [evalPart_some]
  refine thn (h pins s σ H _ I hw) fun u s1 ⟨x, H1, I1, r1, q1⟩ => ?_
  obtain ⟨i, rfl, q⟩ := q1
  obtain ⟨t, rfl⟩ := r1
  exact ⟨some i, H1, I1, .int i t, q⟩

/-- what a slice of a value is, by values: the slice object stands at sl -/
def SlR (X : Cx) (r : V → Option Int → Option Int → Hp → VK → Prop) : Prop :=
  ∀ (pins : List (Addr × Obj)) (s : Shared) (σ : St) (H : Hp) (x : V) (v vl vu : Value) (lo hi : Option Int) (sl : Addr) (Q : VK), Inv X pins σ H s → RelV x v → s.heap.IsSliceOf sl vl vu .none → IsPart vl lo → IsPart vu hi → r x lo hi H Q →
    ∃ T id, typeLookup (.type T) "__getitem__" = pure (some (.builtin id)) ∧ s.TypeIs v T ∧ wpAny (model X.prog X.w) X.A (getItem v (.ref sl)) (EP X pins σ Q) X.xe s
def tSl (r : V → Option Int → Option Int → Hp → VK → Prop) (te : TE) (tl th : TO) : TE := fun σ H Q => te σ H fun x H1 => tl σ H1 fun l H2 => th σ H2 fun u H3 => r x l u H3 Q
/-- a[lo:hi], any a -/
theorem pe_slice {r : V → Option Int → Option Int → Hp → VK → Prop} (hr : SlR X r) (he : PE X e te) (hl : PO X lo tl) (hu : PO X hi th) : PE X (.Subscript e (.Slice lo hi none p2) pos) (tSl r te tl th) := by
  intro pins s σ H Q I h
  refine Subscript_ (thn (he pins s σ H _ I h) fun v s1 ⟨x, H1, I1, r1, q1⟩ => ?_)
  refine wpAny_Slice (thn (hl pins s1 σ H1 _ I1 q1) fun vl s2 ⟨l, H2, I2, pl, q2⟩ => thn (hu pins s2 σ H2 _ I2 q2) fun vu s3 ⟨u, H3, I3, pu, q3⟩ => ?_)
  rw [evalPart_none]
  refine wpAny_pure ?_
  have I4 : Inv X pins σ H3 { s3 with heap := s3.heap.push { cls := .type "slice", data := .fields #[vl, vu, .none] } } := I3.kept (t' := s3.toks) fun b ob q => Heap.get?_push_of_some _ q
  obtain ⟨T, id, hT, ht, hg⟩ := hr pins { s3 with heap := s3.heap.push { cls := .type "slice", data := .fields #[vl, vu, .none] } } σ H3 x v vl vu l u s3.heap.objs.size Q I4 r1 (Heap.IsSliceOf.new ..) pl pu q3
  show wpAny (model X.prog X.w) X.A (subscriptTail e (.Slice lo hi none p2) v (.ref s3.heap.objs.size)) (EP X pins σ Q) X.xe { s3 with heap := s3.heap.push { cls := .type "slice", data := .fields #[vl, vu, .none] } }
  exact tail_any (ops := [.ref s3.heap.objs.size, v]) ht hT hg (by with_unfolding_all rfl)

/-- the items of xs[lo:hi] -/
def cutV (xs : List V) (lo hi : Option Int) : List V := (xs.drop (HT.sIx xs.length 0 lo)).take (HT.sIx xs.length xs.length hi - HT.sIx xs.length 0 lo)
theorem cutV_length (xs : List V) (lo hi : Option Int) : (cutV xs lo hi).length ≤ xs.length := by
  unfold cutV
  rw [List.length_take, List.length_drop]
  omega

/-! ### t < u, t + u -/
end
end L2

namespace L2
open PySem PySem.Spec PyProof.Rows

/-! ### places -/
/-- the place that an index of any sign means -/
def ixN (n : Nat) (i : Int) : Option Nat := if 0 ≤ i then (if i < n then some i.toNat else none) else if -(n : Int) ≤ i then some (i + n).toNat else none
def atI {α : Type} (xs : List α) (i : Int) : Option α := (ixN xs.length i).bind fun j => xs[j]?
theorem ixN_seq {n : Nat} {i : Int} {j : Nat} (h : ixN n i = some j) : seqIndex? i n = some j ∧ j < n ∧ -(n : Int) ≤ i ∧ i < n := by
  unfold ixN at h
  by_cases h0 : 0 ≤ i
  · rw [if_pos h0] at h
    by_cases h1 : i < n
    · rw [if_pos h1] at h
      have e : i.toNat = j := Option.some.inj h
      exact ⟨by rw [seqIndex_of h0 h1, e], by omega, by omega, h1⟩
    · rw [if_neg h1] at h; cases h
  · rw [if_neg h0] at h
    by_cases h1 : -(n : Int) ≤ i
    · rw [if_pos h1] at h
      have e : (i + n).toNat = j := Option.some.inj h
      exact ⟨by rw [seqIndex_neg (by omega) h1, e], by omega, h1, by omega⟩
    · rw [if_neg h1] at h; cases h
theorem atI_get {α : Type} {xs : List α} {i : Int} {v : α} (h : atI xs i = some v) : ∃ j, seqIndex? i xs.length = some j ∧ xs[j]? = some v ∧ j < xs.length ∧ -(xs.length : Int) ≤ i ∧ i < xs.length := by
  unfold atI at h
  cases e : ixN xs.length i with
  | none => rw [e] at h; cases h
  | some j =>
    rw [e] at h
    obtain ⟨h1, h2, h3, h4⟩ := ixN_seq e
    exact ⟨j, h1, h, h2, h3, h4⟩
theorem atI_nat {α : Type} {xs : List α} {j : Nat} {v : α} (h : xs[j]? = some v) : atI xs (j : Int) = some v := by
  have hj : j < xs.length := (List.getElem?_eq_some_iff.mp h).1
  have e : ixN xs.length (j : Int) = some j := by
    unfold ixN
    rw [if_pos (by omega), if_pos (by omega)]; simp
  unfold atI; rw [e]; exact h

/-! ### what may be subscripted -/
/-- what stands as an index of a plain subscript -/
def PlainIx (b : Expr) : Prop := ∀ o i, subscripted b false o i = operate [o, i] (getItem o i)
/-- a subscript by values -/
def IxR (X : Cx) (r : R2) : Prop :=
  ∀ (value slice : Expr) (pins : List (Addr × Obj)) (s : Shared) (σ : St) (H : Hp) (x y : V) (v u : Value) (Q : VK), Inv X pins σ H s → RelV x v → RelV y u → r x y H Q →
    subscripted slice false v u = operate [v, u] (getItem v u) → wpAny (model X.prog X.w) X.A (subscriptTail value slice v u) (EP X pins σ Q) X.xe s
/-- a call of a builtin's method by values: the receiver, the arguments -/
def MtR (X : Cx) (id : String) (r : V → List V → Hp → VK → Prop) : Prop :=
  ∀ (pins : List (Addr × Obj)) (s : Shared) (σ : St) (H : Hp) (x : V) (xs : List V) (v : Value) (us : List Value) (Q : VK), Inv X pins σ H s → RelV x v → Vals xs us → r x xs H Q →
    wpAny (model X.prog X.w) X.A (call (.builtin id) (v :: us)) (EP X pins σ Q) X.xe s
section
variable {X : Cx} {a b : Expr} {ta tb : TE} {pos : Pos}
/-- a[b] -/
theorem pe_ix {r : R2} (hr : IxR X r) (ha : PE X a ta) (hb : PE X b tb) (hs : PlainIx b) : PE X (.Subscript a b pos) (tOp r ta tb) := by
  intro pins s σ H Q I h
  exact Subscript_ (binT ha hb I h fun v u s2 x y H2 I2 rx ry q => hr a b pins s2 σ H2 x y v u Q I2 rx ry q (hs _ _))

def rIxL (K : PySem.W.Frag) : R2 := fun x y H Q => ∃ p xs i v, x = .ref p ∧ y = .int i ∧ SqL K H p xs ∧ atI xs i = some v ∧ Q v H
def rIxT (K : PySem.W.Frag) : R2 := fun x y H Q => ∃ p xs i v, x = .ref p ∧ y = .int i ∧ SqT K H p xs ∧ atI xs i = some v ∧ Q v H
def rIxS : R2 := fun x y H Q => ∃ z i c, x = .str z ∧ y = .int i ∧ z.length ≤ sizeLine ∧ atI z.cps.toList i = some c ∧ Q (.str ⟨#[c]⟩) H
theorem ix_list : IxR X (rIxL X.K) := by
  intro value slice pins s σ H x y v u Q I rx ry h hs
  obtain ⟨p, xs, i, z, rfl, rfl, hq, he, q⟩ := h
  cases rx
  obtain ⟨t, rfl⟩ := ry
  obtain ⟨its, r, pl, hz⟩ := I.list hq
  obtain ⟨j, h1, h2, h3, h4, h5⟩ := atI_get he
  obtain ⟨w, ew, rw'⟩ := r.get h2
  have hl := r.length
  have hn := line63
  have fin : EP X pins σ Q w s := ⟨z, H, I, rw', q⟩
  by_cases h0 : 0 ≤ i
  · have hj : i.toNat = j := by
      rw [seqIndex_of h0 h5] at h1
      exact Option.some.inj h1
    exact item_listR pl.isList h0 (by omega) (by rw [hj]; simpa using ew) fin hs
  · have hj : (i + (its.toArray.size : Int)).toNat = j := by
      rw [seqIndex_neg (by omega) h4] at h1
      rw [List.size_toArray, ← hl]
      exact Option.some.inj h1
    exact subscriptTail_builtinR (x := w) pl.isList.typeIs slot_list_getitem.lookup
      (wpAny_getItem_list_neg (Q := fun r s' => r = w ∧ EP X pins σ Q r s') pl.isList (by omega) (by rw [List.size_toArray] <;> omega) (by omega) (by rw [hj]; simpa using ew) ⟨rfl, fin⟩) hs
theorem ix_tup : IxR X (rIxT X.K) := by
  intro value slice pins s σ H x y v u Q I rx ry h hs
  obtain ⟨p, xs, i, z, rfl, rfl, hq, he, q⟩ := h
  cases rx
  obtain ⟨t, rfl⟩ := ry
  obtain ⟨its, r, pl, hz⟩ := I.tuple hq
  obtain ⟨j, h1, h2, h3, h4, h5⟩ := atI_get he
  obtain ⟨w, ew, rw'⟩ := r.get h2
  have hl := r.length
  have hn := line63
  have fin : EP X pins σ Q w s := ⟨z, H, I, rw', q⟩
  exact subscriptTail_builtinR (x := w) pl.typeIs slot_tuple_getitem.lookup
    (getItem_tuple (j := j) (Q := fun r s' => r = w ∧ EP X pins σ Q r s') pl (by omega) (by omega) (by rw [List.size_toArray, ← hl]; exact h1) (by simpa using ew) ⟨rfl, fin⟩) hs
theorem ix_str : IxR X rIxS := by
  intro value slice pins s σ H x y v u Q I rx ry h hs
  obtain ⟨z, i, c, rfl, rfl, hz, he, q⟩ := h
  obtain ⟨t, rfl⟩ := rx
  obtain ⟨t', rfl⟩ := ry
  obtain ⟨j, h1, h2, h3, h4, h5⟩ := atI_get he
  have hl : z.cps.toList.length = z.length := by simp [Str.length]
  rw [hl] at h1 h4 h5
  have hn := line63
  exact tail_any (typeIs_str s z t) slot_str_getitem.lookup (getItem_str (c := c) (by
    have e1 : decide (i < -(2 ^ 63 : Int)) = false := decide_eq_false (by omega)
    have e2 : decide (i ≥ 2 ^ 63) = false := decide_eq_false (by omega)
    rw [e1, e2, Bool.or_false]) (by rw [h1]; simpa using h2) ⟨.str ⟨#[c]⟩, H, I.tok _, ⟨_, rfl⟩, q⟩) hs

/-! ### xs[i] = v, any sign -/
/-- the list's object behind a store -/
theorem mapSeq_set (its : List Value) (n j : Nat) (u : Value) : Obj.mapSeq (·.setIfInBounds j u) { cls := .type "list", data := .seq its.toArray n } = { cls := .type "list", data := .seq (its.set j u).toArray n } := by
  simp [Obj.mapSeq]
theorem Inv.lst {pins : List (Addr × Obj)} {σ : St} {H : Hp} {s : Shared} {p : Addr} {xs : List V} (I : Inv X pins σ H s) (h : H p = some (.lst xs)) :
    ∃ (its : List Value) (n : Nat), Vals xs its ∧ s.heap.get? p = some { cls := .type "list", data := .seq its.toArray n } ∧ xs.length ≤ sizeLine := by
  obtain ⟨z, its, n, r, e⟩ := I.hok p _ h
  exact ⟨its, n, r, e, z⟩
/-- the list at p is written by an update of its object -/
theorem Inv.lstUpd {pins : List (Addr × Obj)} {σ : St} {H : Hp} {s : Shared} {p : Addr} {xs ys : List V} {its its' : List Value} {n n' : Nat} {f : Obj → Obj} (I : Inv X pins σ H s) (h : H p = some (.lst xs))
    (ho : s.heap.get? p = some { cls := .type "list", data := .seq its.toArray n }) (hf : f { cls := .type "list", data := .seq its.toArray n } = { cls := .type "list", data := .seq its'.toArray n' }) (r : Vals ys its') (hz : ys.length ≤ sizeLine) (t : Nat) :
    Inv X pins σ (upd H p (.lst ys)) { s with heap := s.heap.update p f, toks := t } := by
  have e : (s.heap.update p f).get? p = some { cls := .type "list", data := .seq its'.toArray n' } := by
    rw [Heap.get?_update_self f ho (by rw [hf] <;> rfl), hf]
  refine I.write (x := p) (e := p) (by rw [h]; trivial) (.inl rfl) (fun b u hb q => (Heap.get?_update_other _ _ (Ne.symm hb)).trans q) ⟨_, e⟩ ?_
  exact ⟨hz, its', n', r, e⟩
def rSetL : V → V → V → Hp → (Hp → Prop) → Prop := fun o i v H Q => ∃ p xs k j, o = .ref p ∧ i = .int k ∧ H p = some (.lst xs) ∧ ixN xs.length k = some j ∧ Q (upd H p (.lst (xs.set j v)))
theorem set_list : PSet X rSetL := by
  intro pins s σ H o i v ov iv u Q I ro ri rv h
  obtain ⟨p, xs, k, j, rfl, rfl, hp, hj, q⟩ := h
  cases ro
  obtain ⟨t, rfl⟩ := ri
  obtain ⟨its, n, r, ho, hz⟩ := I.lst hp
  obtain ⟨h1, h2, h3, h4⟩ := ixN_seq hj
  have hl := r.length
  have hn := line63
  have I' : Inv X pins σ (upd H p (.lst (xs.set j v))) { s with heap := s.heap.update p (Obj.mapSeq (·.setIfInBounds j u)) } :=
    I.lstUpd hp ho (mapSeq_set its n j u) (r.set rv j) (by rw [List.length_set]; exact hz) s.toks
  by_cases h0 : 0 ≤ k
  · have hk : k.toNat = j := by
      rw [seqIndex_of h0 h4] at h1
      exact Option.some.inj h1
    exact PySem.W.ki_setAt ho h0 (by omega) (by rw [List.size_toArray, ← hl]; exact h4) (by rw [hk]; exact ⟨_, I', q⟩)
  · have hk : (k + (its.toArray.size : Int)).toNat = j := by
      rw [seqIndex_neg (by omega) h3] at h1
      rw [List.size_toArray, ← hl]
      exact Option.some.inj h1
    exact PySem.W.ki_setBack ho (by omega) (by rw [List.size_toArray, ← hl]; exact h3) (by omega) (by rw [hk]; exact ⟨_, I', q⟩)

/-! ### slices -/
theorem slice_bounds (lo hi : Option Int) (n : Nat) : (sliceBounds lo hi none n).1 = ((HT.sIx n 0 lo : Nat) : Int) ∧ (sliceBounds lo hi none n).2.1 = ((HT.sIx n n hi : Nat) : Int) ∧ (sliceBounds lo hi none n).2.2 = 1 := by
  refine ⟨?_, ?_, rfl⟩
  · cases lo with
    | none => simp [sliceBounds, HT.sIx]
    | some i =>
      simp only [sliceBounds, HT.sIx, Option.getD_none, show (1 : Int) > 0 by decide, if_true]
      by_cases h : i < 0
      · simp only [h, if_true] <;> omega
      · simp only [h, if_false] <;> omega
  · cases hi with
    | none => simp [sliceBounds, HT.sIx]
    | some i =>
      simp only [sliceBounds, HT.sIx, Option.getD_none, show (1 : Int) > 0 by decide, if_true]
      by_cases h : i < 0
      · simp only [h, if_true] <;> omega
      · simp only [h, if_false] <;> omega
theorem slicePick_cut (its : List Value) (lo hi : Option Int) : slicePick its.toArray lo hi none = ((its.drop (HT.sIx its.length 0 lo)).take (HT.sIx its.length its.length hi - HT.sIx its.length 0 lo)).toArray := by
  obtain ⟨h1, h2, h3⟩ := slice_bounds lo hi its.toArray.size
  unfold slicePick
  rw [h1, h2, h3]
  simp only [sliceRange_one, pick_run, List.size_toArray] <;> rfl
/-- xs[lo:hi] of a list: a new list -/
def rSlL (K : PySem.W.Frag) : V → Option Int → Option Int → Hp → VK → Prop := fun x lo hi H Q => ∃ a xs, x = .ref a ∧ SqL K H a xs ∧ ∀ p, H p = none → Q (.ref p) (upd H p (.lst (cutV xs lo hi)))
theorem sl_list : SlR X (rSlL X.K) := by
  intro pins s σ H x v vl vu lo hi sl Q I rx hs pl pu h
  obtain ⟨a, xs, rfl, hx, q⟩ := h
  cases rx
  obtain ⟨its, r, ht, hz⟩ := I.list hx
  have hlen := r.length
  refine ⟨"list", _, slot_list_getitem.lookup, ht.isList.typeIs, ?_⟩
  refine wpAny_getItem_list_slice ht.isList hs pl pu .none (by simp) ?_ (by rw [List.size_toArray] <;> omega)
  rw [slicePick_cut, ← hlen]
  refine ⟨.ref s.heap.objs.size, _, I.laid (t' := s.toks) (o := .lst (cutV xs lo hi)) (fun b ob q => Heap.get?_push_of_some _ q) (Nat.le_refl _) ?_, rfl, q _ (I.hok.fresh (Nat.le_refl _))⟩
  exact ⟨Nat.le_trans (cutV_length xs lo hi) hz, _, 0, (r.drop (HT.sIx xs.length 0 lo)).take (HT.sIx xs.length xs.length hi - HT.sIx xs.length 0 lo), Heap.get?_push_size _ rfl⟩

/-! ### in, not in: flat items -/
def flatV : V → Bool
  | .non => true
  | .bl _ => true
  | .int _ => true
  | .str _ => true
  | _ => false
/-- == of flat values -/
def eqV : V → V → Bool
  | .non, .non => true
  | .bl a, .bl b => a == b
  | .bl a, .int b => (if a then 1 else 0) == b
  | .int a, .bl b => a == (if b then 1 else 0)
  | .int a, .int b => a == b
  | .str a, .str b => a == b
  | _, _ => false
theorem eqAt_V {A : Around} {s : Shared} {y x : V} {u v : Value} (ry : RelV y u) (rx : RelV x v) (fy : flatV y = true) (fx : flatV x = true) : SeqAt.EqAt A s u v (eqV y x) := by
  cases y with
  | non =>
    cases ry
    cases x with
    | non => cases rx; exact SeqAt.EqAt.same _
    | bl b => cases rx; exact SeqAt.EqAt.none_bool b
    | int b => obtain ⟨t, rfl⟩ := rx; exact SeqAt.EqAt.none_int b t
    | str b => obtain ⟨t, rfl⟩ := rx; exact SeqAt.EqAt.none_str b t
    | _ => exact absurd (show false = true from fx) Bool.false_ne_true
  | bl a =>
    cases ry
    cases x with
    | non => cases rx; exact SeqAt.EqAt.bool_none a
    | bl b => cases rx; exact SeqAt.EqAt.bool_bool a b
    | int b => obtain ⟨t, rfl⟩ := rx; exact SeqAt.EqAt.bool_int a b t
    | str b => obtain ⟨t, rfl⟩ := rx; exact SeqAt.EqAt.bool_str a b t
    | _ => exact absurd (show false = true from fx) Bool.false_ne_true
  | int a =>
    obtain ⟨t', rfl⟩ := ry
    cases x with
    | non => cases rx; exact SeqAt.EqAt.int_none a t'
    | bl b => cases rx; exact SeqAt.EqAt.int_bool a t' b
    | int b => obtain ⟨t, rfl⟩ := rx; exact SeqAt.EqAt.int_int a t' b t
    | str b => obtain ⟨t, rfl⟩ := rx; exact SeqAt.EqAt.int_str a t' b t
    | _ => exact absurd (show false = true from fx) Bool.false_ne_true
  | str a =>
    obtain ⟨t', rfl⟩ := ry
    cases x with
    | non => cases rx; exact SeqAt.EqAt.str_none a t'
    | bl b => cases rx; exact SeqAt.EqAt.str_bool a t' b
    | int b => obtain ⟨t, rfl⟩ := rx; exact SeqAt.EqAt.str_int a t' b t
    | str b => obtain ⟨t, rfl⟩ := rx; exact SeqAt.EqAt.str_str a t' b t
    | _ => exact absurd (show false = true from fx) Bool.false_ne_true
  | _ => exact absurd (show false = true from fy) Bool.false_ne_true
/-- the items' answers, read off the values (a value's own answer does not lean on its token) -/
def eqU (x : V) (u : Value) : Bool := match u with
  | .none => eqV .non x
  | .bool b => eqV (.bl b) x
  | .int i _ => eqV (.int i) x
  | .str z _ => eqV (.str z) x
  | _ => false
theorem eqU_of {x y : V} {u : Value} (r : RelV y u) (f : flatV y = true) : eqU x u = eqV y x := by
  cases y with
  | non => cases r; rfl
  | bl b => cases r; rfl
  | int i => obtain ⟨t, rfl⟩ := r; rfl
  | str z => obtain ⟨t, rfl⟩ := r; rfl
  | _ => exact absurd (show false = true from f) Bool.false_ne_true
theorem any_eqU {x : V} : ∀ {xs : List V} {us : List Value}, Vals xs us → xs.all flatV = true → us.any (eqU x) = xs.any fun y => eqV y x
  | _, _, .nil, _ => rfl
  | y :: xs, u :: us, .cons r t, f => by
    rw [List.all_cons, Bool.and_eq_true] at f
    rw [List.any_cons, List.any_cons, eqU_of r f.1, any_eqU t f.2]
theorem mem_eqAt {A : Around} {s : Shared} {x : V} {v : Value} (rx : RelV x v) (fx : flatV x = true) : ∀ {xs : List V} {us : List Value}, Vals xs us → xs.all flatV = true → ∀ u ∈ us, SeqAt.EqAt A s u v (eqU x u)
  | _, _, .nil, _ => fun u hu => by cases hu
  | y :: xs, u :: us, .cons r t, f => fun u' hu => by
    rw [List.all_cons, Bool.and_eq_true] at f
    rcases List.mem_cons.mp hu with rfl | hu
    · rw [eqU_of r f.1]; exact eqAt_V r rx f.1 fx
    · exact mem_eqAt rx fx t f.2 u' hu
def inV (x : V) (xs : List V) : Bool := xs.any fun y => eqV y x
/-- x in a list or tuple of flat items -/
def rIn (K : PySem.W.Frag) (neg : Bool) : R2 := fun x y H Q => ∃ p xs, y = .ref p ∧ (SqL K H p xs ∨ SqT K H p xs) ∧ flatV x = true ∧ xs.all flatV = true ∧ Q (.bl (if neg then !inV x xs else inV x xs)) H
theorem op_notIn_seq : OpR X (compareOp .NotIn) (rIn X.K true) := by
  intro pins s σ H x y v u Q I rx ry h
  obtain ⟨p, xs, rfl, hq, fx, fs, q⟩ := h
  cases ry
  rcases hq with hq | hq
  · obtain ⟨its, r, pl, hz⟩ := I.list hq
    refine SeqAt.notIn_listAt (eqU x) pl.isList (fun w hw => mem_eqAt rx fx r fs w (by simpa using hw)) ⟨.bl _, H, I, rfl, ?_⟩
    rw [show its.toArray.any (eqU x) = its.any (eqU x) by simp, any_eqU r fs]
    exact q
  · obtain ⟨its, r, pl, hz⟩ := I.tuple hq
    refine SeqAt.notIn_tupleAt (eqU x) pl (fun w hw => mem_eqAt rx fx r fs w (by simpa using hw)) ⟨.bl _, H, I, rfl, ?_⟩
    rw [show its.toArray.any (eqU x) = its.any (eqU x) by simp, any_eqU r fs]
    exact q

/-! ### len, list(x), tuple(x) of any list or tuple that is read -/
theorem call_len_seq : CallR X (.builtin "len") (fun xs H Q => ∃ p ys, xs = [.ref p] ∧ (SqL X.K H p ys ∨ SqT X.K H p ys) ∧ Q (.int ys.length) H) := by
  intro pins s σ H xs us Q I r h
  obtain ⟨p, ys, rfl, hq, q⟩ := h
  obtain ⟨u, rfl, rx⟩ := vals1 r
  cases rx
  have hn := line63
  rcases hq with hq | hq
  · obtain ⟨its, r', pl, hz⟩ := I.list hq
    have hlen := r'.length
    exact Calls.call_len_list pl.isList (by simp only [List.size_toArray] <;> omega) ⟨.int ys.length, H, I.tok _, ⟨s.toks + 1, by rw [List.size_toArray, hlen]⟩, q⟩
  · obtain ⟨its, r', pl, hz⟩ := I.tuple hq
    have hlen := r'.length
    exact len_tuple pl (by simp only [List.size_toArray] <;> omega) ⟨.int ys.length, H, I.tok _, ⟨s.toks + 1, by rw [List.size_toArray, hlen]⟩, q⟩
theorem call_len_str : CallR X (.builtin "len") (fun xs H Q => ∃ z, xs = [.str z] ∧ z.length ≤ sizeLine ∧ Q (.int z.length) H) := by
  intro pins s σ H xs us Q I r h
  obtain ⟨z, rfl, hz, q⟩ := h
  obtain ⟨u, rfl, t, rfl⟩ := vals1 r
  have hn := line63
  exact len_str (by omega) ⟨.int z.length, H, I.tok _, ⟨_, rfl⟩, q⟩
theorem call_list_of : CallR X (.type "list") (fun xs H Q => ∃ p ys, xs = [.ref p] ∧ (SqL X.K H p ys ∨ SqT X.K H p ys) ∧ ∀ l, H l = none → Q (.ref l) (upd H l (.lst ys))) := by
  intro pins s σ H xs us Q I r h
  obtain ⟨p, ys, rfl, hq, q⟩ := h
  obtain ⟨u, rfl, rx⟩ := vals1 r
  cases rx
  have fin : ∀ (its : List Value), Vals ys its → ys.length ≤ sizeLine → ∀ (h' : Heap) (c' : Nat), (∀ b o', s.heap.get? b = some o' → h'.get? b = some o') →
      h'.get? s.heap.objs.size = some { cls := .type "list", dict := none, data := .seq its.toArray c', slots := #[] } → EP X pins σ Q (.ref s.heap.objs.size) { s with heap := h' } := fun its r' hz h' c' kp e =>
    ⟨.ref s.heap.objs.size, _, I.laid (t' := s.toks) kp (Nat.le_refl _) (show ObjOk X.prog X.w _ h' _ (.lst ys) from ⟨hz, its, c', r', e⟩), rfl, q _ (I.hok.fresh (Nat.le_refl _))⟩
  rcases hq with hq | hq
  · obtain ⟨its, r', pl, hz⟩ := I.list hq
    have hlen := r'.length
    obtain ⟨o, ho, hc, n, hd⟩ := pl.isList
    exact call_list_seq p (.inl rfl) ho hc hd (fun h' c' kp e => fin its r' hz h' c' kp e) (by simp only [List.size_toArray] <;> omega)
  · obtain ⟨its, r', pl, hz⟩ := I.tuple hq
    have hlen := r'.length
    obtain ⟨o, ho, hc, n, hd⟩ := pl
    exact call_list_seq p (.inr rfl) ho hc hd (fun h' c' kp e => fin its r' hz h' c' kp e) (by simp only [List.size_toArray] <;> omega)

/-! ### the call of a builtin's method: o.m(..) -/
/-- the value is of that builtin type -/
def tyV (K : PySem.W.Frag) (T : String) (x : V) (H : Hp) : Prop := match x with
  | .str _ => T = "str"
  | .int _ => T = "int"
  | .ref p => (T = "list" ∧ ∃ xs, SqL K H p xs) ∨ (T = "tuple" ∧ ∃ o, K.lookup p = some o ∧ o.cls = .type "tuple" ∧ o.dict = none) ∨
      (T = "dict" ∧ ((∃ kvs, H p = some (.dK kvs)) ∨ ∃ kvs, H p = some (.dT kvs))) ∨ (T = "set" ∧ ∃ S n, H p = some (.set S n))
  | _ => False
theorem tyV_is {pins : List (Addr × Obj)} {σ : St} {H : Hp} {s : Shared} {T : String} {x : V} {v : Value} (I : Inv X pins σ H s) (r : RelV x v) (ty : tyV X.K T x H) :
    s.TypeIs v T ∧ ∀ a, v = .ref a → ∃ ob, s.heap.get? a = some ob ∧ ob.dict = none := by
  cases x with
  | str z =>
    obtain ⟨t, rfl⟩ := r
    cases (show T = "str" from ty)
    exact ⟨typeIs_str s z t, fun _ e => nomatch e⟩
  | int i =>
    obtain ⟨t, rfl⟩ := r
    cases (show T = "int" from ty)
    exact ⟨typeIs_int s i t, fun _ e => nomatch e⟩
  | ref p =>
    cases r
    rcases ty with ⟨rfl, xs, hq⟩ | ⟨rfl, o, hk, hc, hd⟩ | ⟨rfl, hk⟩ | ⟨rfl, S, n, hk⟩
    · obtain ⟨its, _, pl, _⟩ := I.list hq
      refine ⟨pl.isList.typeIs, fun a e => ?_⟩
      cases e
      obtain ⟨o, n, e, c, hd, _⟩ := pl
      exact ⟨o, e, hd⟩
    · refine ⟨⟨o, I.kIn p o hk, hc⟩, fun a e => ?_⟩
      cases e
      exact ⟨o, I.kIn _ o hk, hd⟩
    · have z : ∃ o, s.heap.get? p = some o ∧ o.ExactDict := by
        rcases hk with ⟨kvs, hk⟩ | ⟨kvs, hk⟩
        · obtain ⟨_, _, _, _, o, _, _, e, ex, _⟩ := I.hok p _ hk
          exact ⟨o, e, ex⟩
        · obtain ⟨_, _, _, _, o, _, _, e, ex, _⟩ := I.hok p _ hk
          exact ⟨o, e, ex⟩
      obtain ⟨o, e, ex⟩ := z
      refine ⟨⟨o, e, ex.1⟩, fun a e2 => ?_⟩
      cases e2
      exact ⟨o, e, ex.2.1⟩
    · obtain ⟨o, _, _, _, e, ex, _⟩ := I.hok p _ hk
      refine ⟨⟨o, e, ex.1⟩, fun a e2 => ?_⟩
      cases e2
      exact ⟨o, e, ex.2.1⟩
  | _ => exact False.elim ty
def tBM (K : PySem.W.Frag) (T : String) (r : V → List V → Hp → VK → Prop) (to : TE) (t : TA) : TE := fun σ H Q => to σ H fun x H1 => tyV K T x H1 ∧ t σ H1 fun xs H2 => r x xs H2 Q
variable {o e : Expr} {es : List Expr} {to : TE} {t : TA} {name : Str} {apos cpos : Pos} {T id : String} {r : V → List V → Hp → VK → Prop}
theorem pe_bm (pa : PlainAttrs T) (slot : Slot T name id) (hty : typeOf (.builtin id) = pure (.type "method_descriptor")) (hm : MtR X id r) (ho : PE X o to) (ha : PA X (e :: es) t)
    (hbase : attributeBase o name X.env (eval o X.env) = eval o X.env := by rfl)
    (hfew : ((backTo cpos (starEach (e :: es) X.env)).all (fun x => !x.1) && (backToKw cpos (keywordEach [] X.env)).all (fun x => x.1.isSome)
      && decide ((e :: es).length + ([] : List Keyword).length + (if ([] : List Keyword).isEmpty then 0 else 1) < 30)) = true := by rfl)
    (hline : (apos.endLine == cpos.line) = true := by rfl) (hs : starEach (e :: es) X.env = (false, eval e X.env) :: starEach es X.env := by rfl) (hplain : (backTo cpos (starEach es X.env)).any (·.1) = false := by rfl) :
    PE X (.Call (.Attribute o name apos) (e :: es) [] cpos) (tBM X.K T r to t) := by
  intro pins s σ H Q I h
  refine wpAny_Call_method_late hbase hfew hline rfl (thn (ho pins s σ H _ I h) fun v s1 ⟨x, H1, I1, r1, ty, q1⟩ => ?_)
  obtain ⟨h1, h2⟩ := tyV_is I1 r1 ty
  refine ⟨T, id, pa, slot, hty, h1, h2, ?_⟩
  have hA := ha cpos pins s1 σ H1 _ I1 q1
  rw [hs] at hA ⊢
  refine Calls.callWith_builtin (by show (false || (backTo cpos (starEach es X.env)).any (·.1)) = false; rw [hplain] <;> rfl) (Calls.evalArgs_plain ?_)
  exact thn hA fun us s2 ⟨vs, H2, I2, r2, q2⟩ => hm pins s2 σ H2 x vs v us Q I2 r1 r2 q2
/- xs.append(e), list.index on a module's tuple .. are MtR facts of 06m -/
end
end L2

namespace L2
open PySem PySem.Spec PyProof.Rows

def MtM (X : Cx) (id : String) (r : V → List V → Hp → VK → Prop) : Prop :=
  ∀ (pins : List (Addr × Obj)) (s : Shared) (σ : St) (H : Hp) (x : V) (xs : List V) (v : Value) (us : List Value) (Q : VK), Inv X pins σ H s → RelV x v → Vals xs us → r x xs H Q →
    wpAny (model X.prog X.w) X.A (call (.builtin id) (v :: us)) (EP X pins σ Q) X.xe s

/-! ### lists of values -/
theorem Vals.one : ∀ {x : V} {us : List Value}, Vals [x] us → ∃ u, us = [u] ∧ RelV x u
  | _, _, .cons r .nil => ⟨_, rfl, r⟩
theorem Vals.eraseIdx : ∀ {xs : List V} {us : List Value} (i : Nat), Vals xs us → Vals (xs.eraseIdx i) (us.eraseIdx i)
  | _, _, _, .nil => .nil
  | _, _, 0, .cons _ t => t
  | _, _, i + 1, .cons r t => .cons r (Vals.eraseIdx i t)
theorem len_erase {α : Type} : ∀ (l : List α) (i : Nat), (l.eraseIdx i).length ≤ l.length
  | [], _ => Nat.le_refl _
  | _ :: _, 0 => Nat.le_succ _
  | _ :: r, i + 1 => Nat.succ_le_succ (len_erase r i)

section
variable {X : Cx} {pins : List (Addr × Obj)} {σ : St} {H : Hp} {s : Shared} {l b : Addr} {xs ys zs : List V}

/-! ### the two steps: a tracked list is rewritten, a new list is laid -/
theorem Inv.lset {its its' : List Value} {n : Nat} {f : Array Value → Array Value} {t' : Nat} (I : Inv X pins σ H s) (hH : H l = some (.lst xs))
    (e : s.heap.get? l = some { cls := .type "list", data := .seq its.toArray n }) (hf : f its.toArray = its'.toArray) (hv : Vals ys its') (hz : ys.length ≤ sizeLine) :
    Inv X pins σ (upd H l (.lst ys)) { s with heap := s.heap.update l (Obj.mapSeq f), toks := t' } := by
  have q := PySem.IsL.update e f
  rw [hf] at q
  refine I.write (x := l) (e := l) (by rw [hH]; exact trivial) (.inl rfl) (fun b' u hb hu => (Heap.get?_update_other s.heap (Obj.mapSeq f) (Ne.symm hb)).trans hu) ⟨_, q⟩ ?_
  exact ⟨hz, its', _, hv, q⟩
theorem Inv.lstM (I : Inv X pins σ H s) (hH : H l = some (.lst xs)) : xs.length ≤ sizeLine ∧ ∃ (its : List Value) (n : Nat), Vals xs its ∧ xs.length = its.length ∧ s.heap.get? l = some { cls := .type "list", data := .seq its.toArray n } := by
  obtain ⟨z, its, n, r, e⟩ := I.hok l _ hH
  exact ⟨z, its, n, r, r.length, e⟩

theorem notLongL {n : Nat} (h : n ≤ sizeLine) : Builtin.List.listTooLong n = false := by
  unfold Builtin.List.listTooLong
  exact decide_eq_false (by omega)
end

section
variable {X : Cx}

/-! ### methods -/
def rAppend : V → List V → Hp → VK → Prop := fun x vs H Q => ∃ l xs y, x = .ref l ∧ vs = [y] ∧ H l = some (.lst xs) ∧ xs.length < sizeLine ∧ Q .non (upd H l (.lst (xs ++ [y])))
theorem mt_append : MtM X "list.append" rAppend := by
  intro pins s σ H x vs v us Q I rx rv h
  obtain ⟨l, xs, y, rfl, rfl, hH, hz, q⟩ := h
  cases rx
  obtain ⟨u, rfl, ru⟩ := rv.one
  obtain ⟨z, its, n, r, hl, e⟩ := I.lstM hH
  refine call_meets F.slot_list_append ⟨_, e, rfl⟩ F.entry_list_append (F.args_list_append_2 _ _) (PySem.list_append l its.toArray n u (by rw [List.size_toArray]; omega)) ⟨e, ?_⟩
  refine ⟨.non, _, I.lset (its' := its ++ [u]) hH e (by simp) (r.append (.cons ru .nil)) ?_, rfl, q⟩
  rw [List.length_append, List.length_singleton]
  omega

def rExtend : V → List V → Hp → VK → Prop := fun x vs H Q => ∃ l b xs zs, x = .ref l ∧ vs = [.ref b] ∧ H l = some (.lst xs) ∧ H b = some (.lst zs) ∧ xs.length + zs.length ≤ sizeLine ∧ Q .non (upd H l (.lst (xs ++ zs)))
theorem mt_extend : MtM X "list.extend" rExtend := by
  intro pins s σ H x vs v us Q I rx rv h
  obtain ⟨l, b, xs, zs, rfl, rfl, hH, hB, hz, q⟩ := h
  cases rx
  obtain ⟨u, rfl, ru⟩ := rv.one
  cases ru
  obtain ⟨z, its, n, r, hl, e⟩ := I.lstM hH
  obtain ⟨z2, its2, n2, r2, hl2, e2⟩ := I.lstM hB
  have hsz : its.toArray.size + its2.toArray.size ≤ sizeLine := by rw [List.size_toArray, List.size_toArray]; omega
  have hlong : ¬ (!its.toArray.isEmpty && Builtin.List.listTooLong (its.toArray.size + its2.toArray.size)) = true := by
    rw [notLongL hsz, Bool.and_false]
    exact Bool.false_ne_true
  refine call_meets F.slot_list_extend ⟨_, e, rfl⟩ F.entry_list_extend (F.args_list_extend_2 _ _)
    (AutoSeq1.list_extend_list_list_0 l its.toArray n b its2.toArray n2 hlong (by rw [List.size_toArray]; omega) (by omega)) ⟨e, e2, ?_⟩
  refine ⟨.non, _, I.lset (its' := its ++ its2) hH e (by simp) (r.append r2) ?_, rfl, q⟩
  rw [List.length_append]
  omega


def rPopAt : V → List V → Hp → VK → Prop := fun x vs H Q => ∃ l xs i k y, x = .ref l ∧ vs = [.int i] ∧ H l = some (.lst xs) ∧ -(2 ^ 63) ≤ i ∧ i < 2 ^ 63 ∧ seqIndex? i xs.length = some k ∧ xs[k]? = some y ∧ Q y (upd H l (.lst (xs.eraseIdx k)))
theorem mt_popAt : MtM X "list.pop" rPopAt := by
  intro pins s σ H x vs v us Q I rx rv h
  obtain ⟨l, xs, i, k, y, rfl, rfl, hH, h1, h2, hk, hy, q⟩ := h
  cases rx
  obtain ⟨u, rfl, ru⟩ := rv.one
  obtain ⟨t, rfl⟩ := ru
  obtain ⟨z, its, n, r, hl, e⟩ := I.lstM hH
  obtain ⟨w, hw, rw'⟩ := r.get hy
  refine call_meets F.slot_list_pop ⟨_, e, rfl⟩ F.entry_list_pop (F.args_list_pop_2 _ _)
    (MeetsSeq.list_pop_at l its.toArray n i t k w (fitsIndex_both h1 h2) (by rw [List.size_toArray, ← hl]; exact hk) (by rw [← Array.getElem?_toList]; exact hw) (by rw [List.size_toArray]; omega)) ⟨e, ?_⟩
  refine ⟨y, _, I.lset (its' := its.eraseIdx k) hH e ?_ (r.eraseIdx k) ?_, rw', q⟩
  · show its.toArray.eraseIdxIfInBounds k = (its.eraseIdx k).toArray
    rw [List.eraseIdxIfInBounds_toArray]
  · have := len_erase xs k
    omega



/-! ### list + list, list += list, list * int -/

/-! ### del xs[i] -/
end

/-! ### xs[a:b] = ys -/
section
variable {prog : Program} {w : World} {A : Around} {E : Value → Shared → Prop} {s : Shared}
set_option maxRecDepth 100000 in
end

section
variable {X : Cx}
end
end L2

namespace L2
open PySem PySem.Spec PyProof.Rows

/-! ### lists of pairs as tables -/
section
variable {κ : Type} [DecidableEq κ]
def valV (kvs : List (κ × V)) (k : κ) : Option V := (kvs.find? fun kv => decide (kv.1 = k)).map (·.2)
/-- in its place, or at the end -/
def putK (kvs : List (κ × V)) (k : κ) (v : V) : List (κ × V) :=
  if (kvs.any fun kv => decide (kv.1 = k)) = true then kvs.map (fun kv => if kv.1 = k then (kv.1, v) else kv) else kvs ++ [(k, v)]

theorem valV_pos {p : κ × V} {r : List (κ × V)} {k : κ} (e : p.1 = k) : valV (p :: r) k = some p.2 := by simp [valV, List.find?_cons, e]
theorem valV_neg {p : κ × V} {r : List (κ × V)} {k : κ} (e : ¬ p.1 = k) : valV (p :: r) k = valV r k := by simp [valV, List.find?_cons, e]
theorem valV_any (k : κ) : ∀ kvs : List (κ × V), (kvs.any fun kv => decide (kv.1 = k)) = (valV kvs k).isSome
  | [] => rfl
  | p :: r => by
    rw [List.any_cons]
    by_cases e : p.1 = k
    · simp only [valV_pos e, decide_eq_true e, Bool.true_or, Option.isSome_some]
    · rw [valV_neg e, decide_eq_false e, Bool.false_or]; exact valV_any k r
theorem valV_map (k j : κ) (y : V) : ∀ kvs : List (κ × V), valV (kvs.map fun kv => if kv.1 = k then (kv.1, y) else kv) j = (valV kvs j).map fun x => if j = k then y else x
  | [] => rfl
  | p :: r => by
    have ih := valV_map k j y r
    rw [List.map_cons]
    by_cases h : p.1 = k
    · rw [if_pos h]
      by_cases e : p.1 = j
      · rw [valV_pos (p := (p.1, y)) e, valV_pos e, Option.map_some, if_pos (e.symm.trans h)]
      · rw [valV_neg (p := (p.1, y)) e, valV_neg e, ih]
    · rw [if_neg h]
      by_cases e : p.1 = j
      · rw [valV_pos (p := p) e, valV_pos e, Option.map_some, if_neg (fun z => h (e.trans z))]
      · rw [valV_neg (p := p) e, valV_neg e, ih]
theorem valV_snoc (k j : κ) (y : V) : ∀ kvs : List (κ × V), valV kvs k = none → valV (kvs ++ [(k, y)]) j = if j = k then some y else valV kvs j
  | [], _ => by
    by_cases e : k = j
    · rw [if_pos e.symm]; exact valV_pos (p := (k, y)) e
    · rw [if_neg (fun z => e z.symm)]; exact valV_neg (p := (k, y)) e
  | p :: r, hn => by
    rw [List.cons_append]
    have hk : ¬ p.1 = k := fun z => by rw [valV_pos z] at hn; cases hn
    rw [valV_neg hk] at hn
    have ih := valV_snoc k j y r hn
    by_cases e : p.1 = j
    · rw [valV_pos e, valV_pos e, if_neg (fun z => hk (e.trans z))]
    · rw [valV_neg e, valV_neg e, ih]
theorem valV_put (kvs : List (κ × V)) (k j : κ) (y : V) : valV (putK kvs k y) j = if j = k then some y else valV kvs j := by
  unfold putK
  by_cases a : (kvs.any fun kv => decide (kv.1 = k)) = true
  · rw [if_pos a, valV_map]
    rw [valV_any] at a
    by_cases e : j = k
    · obtain ⟨x, hx⟩ := Option.isSome_iff_exists.mp a
      rw [if_pos e, e, hx, Option.map_some, if_pos rfl]
    · rw [if_neg e]
      cases valV kvs j with
      | none => rfl
      | some x => rw [Option.map_some, if_neg e]
  · rw [if_neg a]
    refine valV_snoc k j y kvs ?_
    rw [valV_any] at a
    cases q : valV kvs k with
    | none => rfl
    | some x => rw [q] at a; exact (a rfl).elim
theorem length_putK (kvs : List (κ × V)) (k : κ) (v : V) : (putK kvs k v).length ≤ kvs.length + 1 := by
  unfold putK
  split
  · rw [List.length_map]; omega
  · rw [List.length_append, List.length_cons, List.length_nil]; omega

theorem RelO.isSome_eq {o : Option V} {u : Option Value} (r : RelO o u) : o.isSome = u.isSome := by
  cases o with
  | none => cases u with
    | none => rfl
    | some _ => exact (show False from r).elim
  | some _ => cases u with
    | none => exact (show False from r).elim
    | some _ => rfl

/-- raw tables of the same keys -/
theorem KV.val {kvs : List (κ × V)} {vs : List (κ × Value)} (r : KV kvs vs) (k : κ) : RelO (valV kvs k) (valueAt vs k) := by
  unfold KV at r
  induction r with
  | nil => exact True.intro
  | @cons p q ps qs h t ih =>
    obtain ⟨h1, h2⟩ := h
    by_cases e : p.1 = k
    · have e' : q.1 = k := h1.symm.trans e
      have b : valueAt (q :: qs) k = some q.2 := by simp [valueAt, List.find?_cons, e']
      rw [valV_pos e, b]; exact h2
    · have e' : ¬ q.1 = k := fun z => e (h1.trans z)
      have b : valueAt (q :: qs) k = valueAt qs k := by simp [valueAt, List.find?_cons, e']
      rw [valV_neg e, b]; exact ih
theorem KV.any {kvs : List (κ × V)} {vs : List (κ × Value)} (r : KV kvs vs) (k : κ) : (kvs.any fun kv => decide (kv.1 = k)) = vs.any fun kv => decide (kv.1 = k) := by
  unfold KV at r
  induction r with
  | nil => rfl
  | cons h t ih => rw [List.any_cons, List.any_cons, ih, h.1]
theorem KV.repl {kvs : List (κ × V)} {vs : List (κ × Value)} (r : KV kvs vs) (k : κ) {y : V} {u : Value} (ry : RelV y u) :
    KV (kvs.map fun kv => if kv.1 = k then (kv.1, y) else kv) (vs.map fun kv => if kv.1 = k then (kv.1, u) else kv) := by
  unfold KV at r ⊢
  induction r with
  | nil => exact .nil
  | @cons p q ps qs h t ih =>
    rw [List.map_cons, List.map_cons]
    refine .cons ?_ ih
    obtain ⟨h1, h2⟩ := h
    by_cases e : p.1 = k
    · rw [if_pos e, if_pos (h1.symm.trans e)]; exact ⟨h1, ry⟩
    · rw [if_neg e, if_neg (fun z => e (h1.trans z))]; exact ⟨h1, h2⟩
theorem KV.put {kvs : List (κ × V)} {vs : List (κ × Value)} (r : KV kvs vs) (k : κ) {y : V} {u : Value} (ry : RelV y u) : KV (putK kvs k y) (stored vs k u) := by
  unfold putK stored
  rw [r.any k]
  by_cases e : (vs.any fun kv => decide (kv.1 = k)) = true
  · rw [if_pos e, if_pos e]; exact r.repl k ry
  · rw [if_neg e, if_neg e]; exact Paired.snoc r ⟨rfl, ry⟩
theorem KV.length {kvs : List (κ × V)} {vs : List (κ × Value)} (r : KV kvs vs) : kvs.length = vs.length := Paired.length r
end


/-! ### a tracked dict, its keys ints and texts or tuples of these -/
theorem kV_is {P : Program} {w : World} {k : Key} {u : Value} (r : RelV (kV k) u) : (mixKind P w).is k u = true := by
  cases k with
  | inl i => obtain ⟨t, e⟩ := (show ∃ t, u = Value.int i t from r); subst e; exact mixKind_int P w i t
  | inr x => obtain ⟨t, e⟩ := (show ∃ t, u = Value.str x t from r); subst e; exact mixKind_str P w x t
theorem items_are {P : Program} {w : World} : ∀ {ks : List Key} {us : List Value}, Vals (ks.map kV) us → ItemsAre (mixKind P w) ks us
  | [], _, r => by rw [List.map_nil] at r; cases r; exact .nil
  | k :: ks, _, r => by
    rw [List.map_cons] at r
    cases r with
    | cons h t => exact .cons (kV_is h) (items_are t)

/-- raw entries of a dict with tuple keys -/
abbrev KT (H : Hp) : List (List Key × V) → List (List Key × Addr × Value) → Prop := Paired fun p q => p.1 = q.1 ∧ H q.2.1 = some (.tup (p.1.map kV)) ∧ RelV p.2 q.2.2
theorem KT.val {H : Hp} {kvs : List (List Key × V)} {xs : List (List Key × Addr × Value)} (r : KT H kvs xs) (k : List Key) : RelO (valV kvs k) ((atKey xs k).map (·.2)) := by
  induction r with
  | nil => exact True.intro
  | @cons p q ps qs h t ih =>
    obtain ⟨h1, _, h2⟩ := h
    by_cases e : p.1 = k
    · have e' : q.1 = k := h1.symm.trans e
      have b : atKey (q :: qs) k = some q.2 := by simp [atKey, List.find?_cons, e']
      rw [valV_pos e, b]; exact h2
    · have e' : ¬ q.1 = k := fun z => e (h1.trans z)
      have b : atKey (q :: qs) k = atKey qs k := by simp [atKey, List.find?_cons, e']
      rw [valV_neg e, b]; exact ih
theorem KT.repl {H : Hp} {kvs : List (List Key × V)} {xs : List (List Key × Addr × Value)} (r : KT H kvs xs) (k : List Key) {y : V} {u : Value} (ry : RelV y u) :
    KT H (kvs.map fun kv => if kv.1 = k then (kv.1, y) else kv) (xs.map (putAt k u)) := by
  induction r with
  | nil => exact .nil
  | @cons p q ps qs h t ih =>
    rw [List.map_cons, List.map_cons]
    refine .cons ?_ ih
    obtain ⟨h1, h2, h3⟩ := h
    unfold putAt
    by_cases e : p.1 = k
    · rw [if_pos e, if_pos (h1.symm.trans e)]; exact ⟨h1, h2, ry⟩
    · rw [if_neg e, if_neg (fun z => e (h1.trans z))]; exact ⟨h1, h2, h3⟩
theorem KT.put {H : Hp} {kvs : List (List Key × V)} {xs : List (List Key × Addr × Value)} (r : KT H kvs xs) (k : List Key) {b : Addr} {y : V} {u : Value} (hb : H b = some (.tup (k.map kV))) (ry : RelV y u) :
    KT H (putK kvs k y) (storedH xs k b u) := by
  have e : (kvs.any fun kv => decide (kv.1 = k)) = (atKey xs k).isSome := by
    rw [valV_any, (r.val k).isSome_eq, Option.isSome_map]
  unfold putK storedH
  rw [e]
  by_cases q : (atKey xs k).isSome = true
  · rw [if_pos q, if_pos q]; exact r.repl k ry
  · rw [if_neg q, if_neg q]; exact Paired.snoc r ⟨rfl, hb, ry⟩
theorem KT.keeps {H H' : Hp} {kvs : List (List Key × V)} {xs : List (List Key × Addr × Value)} (r : KT H kvs xs) (ht : ∀ b ys, H b = some (.tup ys) → H' b = some (.tup ys)) : KT H' kvs xs :=
  Paired.mapP r fun _ _ z => ⟨z.1, ht _ _ z.2.1, z.2.2⟩

section
variable {P : Program} {w : World} {H : Hp} {h : Heap} {a : Addr}
theorem rd_of {u : HO} (ok : HOk P w H h) (e : Rd H a u) : ObjOk P w H h a u := e.ok ok
theorem dk_rd {kvs : List (Key × V)} (ok : HOk P w H h) (e : Rd H a (.dK kvs)) : kvs.length ≤ sizeLine ∧ (a == sysModules) = false ∧ ∃ vs, KV kvs vs ∧ h.DictOf (mixKind P w) a vs :=
  show ObjOk P w H h a (.dK kvs) from rd_of ok e
theorem dk_of {kvs : List (Key × V)} (ok : HOk P w H h) (e : H a = some (.dK kvs)) : kvs.length ≤ sizeLine ∧ (a == sysModules) = false ∧ ∃ vs, KV kvs vs ∧ h.DictOf (mixKind P w) a vs := dk_rd ok (.inl e)
/-- a tracked tuple of ints and texts is a key -/
theorem key_of {ks : List Key} (ok : HOk P w H h) (e : H a = some (.tup (ks.map kV))) : (tupleKind (mixKind P w)).is h ks a := by
  obtain ⟨_, its, r, o, h1, h2, n, h3⟩ := (show ObjOk P w H h a (.tup (ks.map kV)) from ok a _ e)
  exact ⟨o, its.toArray, n, h1, h2, h3, by simpa using items_are r⟩
theorem dt_rd {kvs : List (List Key × V)} (ok : HOk P w H h) (e : Rd H a (.dT kvs)) : kvs.length ≤ sizeLine ∧ (a == sysModules) = false ∧
    ∃ xs, KT H kvs xs ∧ h.DictOfH (tupleKind (mixKind P w)) a xs := by
  obtain ⟨z, y, xs, r, o, es, ep, h1, h2, h3, h4, h5⟩ := (show ObjOk P w H h a (.dT kvs) from rd_of ok e)
  refine ⟨z, y, xs, r, o, es, ep, h1, h2, h3, h4, fun x hx => ?_, h5⟩
  have all : ∀ {l : List (List Key × V)} {m : List (List Key × Addr × Value)}, KT H l m → ∀ x ∈ m, (tupleKind (mixKind P w)).is h x.1 x.2.1 := by
    intro l m q
    induction q with
    | nil => intro x hx; exact nomatch hx
    | @cons p q ps qs hq t ih =>
      intro x hx
      rcases List.mem_cons.mp hx with e | hx
      · subst e
        exact key_of ok (by rw [← hq.1]; exact hq.2.1)
      · exact ih x hx
  exact all r x hx
theorem dt_of {kvs : List (List Key × V)} (ok : HOk P w H h) (e : H a = some (.dT kvs)) : kvs.length ≤ sizeLine ∧ (a == sysModules) = false ∧
    ∃ xs, KT H kvs xs ∧ h.DictOfH (tupleKind (mixKind P w)) a xs := dt_rd ok (.inl e)
end

/-- what the dict at a holds at the key y -/
def DGet (H : Hp) (a : Addr) (y : V) (r : Option V) : Prop :=
  (∃ kvs k, Rd H a (.dK kvs) ∧ y = kV k ∧ r = valV kvs k) ∨ ∃ kvs k b, Rd H a (.dT kvs) ∧ y = .ref b ∧ H b = some (.tup (k.map kV)) ∧ r = valV kvs k
/-- the heap behind a[y] = v -/
def DPut (H : Hp) (a : Addr) (y v : V) (H' : Hp) : Prop :=
  (∃ kvs k, H a = some (.dK kvs) ∧ y = kV k ∧ kvs.length < sizeLine ∧ H' = upd H a (.dK (putK kvs k v))) ∨
  ∃ kvs k b, H a = some (.dT kvs) ∧ y = .ref b ∧ H b = some (.tup (k.map kV)) ∧ kvs.length < sizeLine ∧ H' = upd H a (.dT (putK kvs k v))
theorem DGet.k {H : Hp} {a : Addr} {kvs : List (Key × V)} {k : Key} (e : H a = some (.dK kvs)) : DGet H a (kV k) (valV kvs k) := .inl ⟨kvs, k, .inl e, rfl, rfl⟩
theorem DPut.k {H : Hp} {a : Addr} {kvs : List (Key × V)} {k : Key} {v : V} (e : H a = some (.dK kvs)) (hl : kvs.length < sizeLine) : DPut H a (kV k) v (upd H a (.dK (putK kvs k v))) := .inl ⟨kvs, k, e, rfl, hl, rfl⟩


section
variable {X : Cx} {pins : List (Addr × Obj)} {σ : St} {H : Hp} {s : Shared} {a : Addr} {y v : V} {u r : Value} {o : Option V} {A : Around} {E : Value → Shared → Prop}

theorem Inv.big (I : Inv X pins σ H s) : sysModules < s.heap.objs.size := by
  have h : mainGlobals < s.heap.objs.size := (I.mod.glob.keeps I.bk).lt
  exact Nat.lt_trans (by decide) h

/-- d[y], there -/
theorem d_getItem {Q : Value → Shared → Prop} (hu : A.units + 1 < cLine) (I : Inv X pins σ H s) (g : DGet H a y (some v)) (ry : RelV y u) (h : ∀ w' s', Inv X pins σ H s' → RelV v w' → Q w' s') :
    wpAny (model X.prog X.w) A (getItem (.ref a) u) Q E s := by
  rcases g with ⟨kvs, k, e, ey, l⟩ | ⟨kvs, k, b, e, ey, eb, l⟩
  · subst ey
    obtain ⟨z, hd, vs, rel, dd⟩ := dk_rd I.hok e
    obtain ⟨w', hw, rw'⟩ := RelO.some_of (v := v) (o := valueAt vs k) (by rw [l]; exact rel.val k)
    exact wpAny_getItem_of (kV_is ry) dd.mapOf hw (h w' _ (I.tok _) rw')
  · subst ey
    cases (show u = Value.ref b from ry)
    obtain ⟨z, hd, xs, rel, dd⟩ := dt_rd I.hok e
    obtain ⟨w', hw, rw'⟩ := RelO.some_of (v := v) (o := (atKey xs k).map (·.2)) (by rw [l]; exact rel.val k)
    obtain ⟨p, hp, hp2⟩ := Option.map_eq_some_iff.mp hw
    refine wpAny_getItem_heap (tupleKind_room_in1 hu) (key_of I.hok eb) dd hp ?_
    rw [hp2]
    exact h w' _ (I.tok _) rw'
/-- y in d -/
theorem d_in {Q : Value → Shared → Prop} (hu : A.units + 1 < cLine) (I : Inv X pins σ H s) (g : DGet H a y o) (ry : RelV y u) (h : ∀ s', Inv X pins σ H s' → Q (.bool o.isSome) s') :
    wpAny (model X.prog X.w) A (compareOp .In u (.ref a)) Q E s := by
  rcases g with ⟨kvs, k, e, ey, l⟩ | ⟨kvs, k, b, e, ey, eb, l⟩
  · subst ey
    obtain ⟨z, hd, vs, rel, dd⟩ := dk_rd I.hok e
    refine wpAny_in_of (kV_is ry) hd dd.mapOf ?_
    rw [← (rel.val k).isSome_eq, ← l]
    exact h _ (I.tok _)
  · subst ey
    cases (show u = Value.ref b from ry)
    obtain ⟨z, hd, xs, rel, dd⟩ := dt_rd I.hok e
    refine wpAny_in_heap (tupleKind_room_in1 hu) (key_of I.hok eb) hd dd ?_
    have q := (rel.val k).isSome_eq
    rw [Option.isSome_map] at q
    rw [← q, ← l]
    exact h _ (I.tok _)
theorem d_notIn {Q : Value → Shared → Prop} (hu : A.units + 1 < cLine) (I : Inv X pins σ H s) (g : DGet H a y o) (ry : RelV y u) (h : ∀ s', Inv X pins σ H s' → Q (.bool (!o.isSome)) s') :
    wpAny (model X.prog X.w) A (compareOp .NotIn u (.ref a)) Q E s := by
  rcases g with ⟨kvs, k, e, ey, l⟩ | ⟨kvs, k, b, e, ey, eb, l⟩
  · subst ey
    obtain ⟨z, hd, vs, rel, dd⟩ := dk_rd I.hok e
    refine wpAny_notIn_of (kV_is ry) hd dd.mapOf ?_
    rw [← (rel.val k).isSome_eq, ← l]
    exact h _ (I.tok _)
  · subst ey
    cases (show u = Value.ref b from ry)
    obtain ⟨z, hd, xs, rel, dd⟩ := dt_rd I.hok e
    refine wpAny_notIn_heap (tupleKind_room_in1 hu) (key_of I.hok eb) hd dd ?_
    have q := (rel.val k).isSome_eq
    rw [Option.isSome_map] at q
    rw [← q, ← l]
    exact h _ (I.tok _)
/-- a dict's object is replaced -/
theorem d_write {h' : Heap} {t' : Nat} {ob : HO} (I : Inv X pins σ H s) (mu : Mut (H a)) (hs : Heap.SameBut a s.heap h') (he : ∃ q, h'.get? a = some q) (new : ObjOk X.prog X.w (upd H a ob) h' a ob) :
    Inv X pins σ (upd H a ob) { s with heap := h', toks := t' } :=
  I.write (x := a) (e := a) mu (.inl rfl) (fun b q hb z => (hs.2 b hb).trans z) he new
theorem dk_new {P : Program} {w : World} {H' : Hp} {h' : Heap} {kvs : List (Key × V)} {vs : List (Key × Value)} (z : kvs.length ≤ sizeLine) (hd : (a == sysModules) = false) (rel : KV kvs vs) (dd : h'.DictOf (mixKind P w) a vs) :
    ObjOk P w H' h' a (.dK kvs) := ⟨z, hd, vs, rel, dd⟩
/-- d[y] = v -/
theorem d_setItem {H' : Hp} {Q : Unit → Shared → Prop} (hu : A.units + 1 < cLine) (I : Inv X pins σ H s) (g : DPut H a y v H') (ry : RelV y u) (rv : RelV v r) (h : ∀ s', Inv X pins σ H' s' → Q () s') :
    wpAny (model X.prog X.w) A (setItem (.ref a) u r) Q E s := by
  rcases g with ⟨kvs, k, e, ey, l, eH⟩ | ⟨kvs, k, b, e, ey, eb, l, eH⟩
  · subst ey eH
    obtain ⟨z, hd, vs, rel, dd⟩ := dk_of I.hok e
    have hz : vs.length ≤ sizeLine := by rw [← rel.length]; exact z
    have hl : (putK kvs k v).length ≤ sizeLine := by have := length_putK kvs k v; omega
    refine wpAny_setItem_pairs (hsz := hz) (kV_is ry) dd fun h' dd' hs => h _ ?_
    have he : ∃ q, h'.get? a = some q := let ⟨q, _, _, hq, _⟩ := dd'; ⟨q, hq⟩
    exact d_write I (by rw [e]; exact True.intro) hs he (dk_new hl hd (rel.put k rv) dd')
  · subst ey eH
    cases (show u = Value.ref b from ry)
    obtain ⟨z, hd, xs, rel, dd⟩ := dt_of I.hok e
    have hz : xs.length ≤ sizeLine := by rw [← Paired.length rel]; exact z
    have hl : (putK kvs k v).length ≤ sizeLine := by have := length_putK kvs k v; omega
    refine wpAny_setItem_heap (hsz := hz) (tupleKind_room_in1 hu) (key_of I.hok eb) dd fun h' dd' hs => h _ ?_
    obtain ⟨q, es, ep, hq, h2, h3, h4, _, h5⟩ := dd'
    refine d_write I (by rw [e]; exact True.intro) hs ⟨q, hq⟩ ⟨hl, hd, _, (rel.put k eb rv).keeps fun c ys ec => ?_, q, es, ep, hq, h2, h3, h4, h5⟩
    rw [upd_ne (ne_of ec e (fun z => nomatch z))]
    exact ec
end

section
variable {X : Cx} {pins : List (Addr × Obj)} {σ : St} {H : Hp} {s : Shared} {a : Addr} {kvs : List (Key × V)} {k : Key} {u : Value} {A : Around} {E : Value → Shared → Prop}
/-- len(d) -/
theorem d_len {Q : Value → Shared → Prop} (I : Inv X pins σ H s) (e : Rd H a (.dK kvs)) (h : ∀ t s', Inv X pins σ H s' → Q (.int kvs.length t) s') : wpAny (model X.prog X.w) A (call (.builtin "len") [.ref a]) Q E s := by
  obtain ⟨z, hd, vs, rel, dd⟩ := dk_rd I.hok e
  refine call_len_dict hd dd (by rw [← rel.length]; rw [sizeLine_eq] at z; omega) ?_
  rw [← rel.length]
  exact h _ _ (I.tok _)
end


/-! ### readings and rules -/
/-- the element of a subscription, not a slice -/
def NoSl (i : Expr) : Prop := ∀ ov iv, subscripted i false ov iv = operate [ov, iv] (getItem ov iv)
theorem subD_of {prog : Program} {w : World} {A : Around} {E : Value → Shared → Prop} {s : Shared} {env : Env} {value slice : Expr} {pos : Pos} {T id : String} {Q : Value → Shared → Prop}
    (hl : typeLookup (.type T) "__getitem__" = pure (some (.builtin id))) (hs : NoSl slice)
    (h : wpAny (model prog w) A (eval value env) (fun o s₁ => wpAny (model prog w) A (eval slice env) (fun i s₂ => s₂.TypeIs o T ∧ wpAny (model prog w) A (getItem o i) Q E s₂) E s₁) E s) :
    wpAny (model prog w) A (eval (.Subscript value slice pos) env) Q E s := by
  refine Subscript_ (wpAny_mono h (fun o s₁ h₁ => wpAny_mono h₁ (fun i s₂ h₂ => ?_) fun _ _ x => x) fun _ _ x => x)
  obtain ⟨hT, h₂⟩ := h₂
  unfold subscriptTail
  refine wpAny_bind ?_
  rw [getitemInPython_of_ne hT.not_modules]
  refine wpAny_bind (wpAny_specialOf hT hl ?_)
  have fin : wpAny (model prog w) A (subscripted slice false o i) (fun r s₃ => wpAny (model prog w) A (letTemporaryGo value o r >>= fun _ => pure r) Q E s₃) E s₂ := by
    rw [hs o i]
    exact wpAny_operating (wpAny_mono h₂ (fun r s₃ h₃ => wpAny_bind (wpAny_letTemporaryGo (wpAny_pure h₃))) fun _ _ x => x)
  first
    | exact wpAny_pure (wpAny_bind fin)
    | exact wpAny_bind (wpAny_pure (wpAny_bind fin))
    | exact wpAny_bind fin

theorem dict_typeIs {X : Cx} {pins : List (Addr × Obj)} {σ : St} {H : Hp} {s : Shared} {a : Addr} {y : V} {o : Option V} (I : Inv X pins σ H s) (g : DGet H a y o) : s.TypeIs (.ref a) "dict" := by
  rcases g with ⟨kvs, k, e, _, _⟩ | ⟨kvs, k, b, e, _, _, _⟩
  · obtain ⟨_, _, vs, _, dd⟩ := dk_rd I.hok e
    exact dd.typeIs
  · obtain ⟨_, _, xs, _, dd⟩ := dt_rd I.hok e
    exact dd.typeIs

/-- d[y] -/
def tDGet (td ty : TE) : TE := fun σ H Q => td σ H fun x H1 => ty σ H1 fun y H2 => ∃ a v, x = .ref a ∧ DGet H2 a y (some v) ∧ Q v H2
/-- d[y] = v -/
def sDPut (td ty tv : TE) : TS := fun D σ H => tv σ H fun v H1 => td σ H1 fun x H2 => ty σ H2 fun y H3 => ∃ a H4, x = .ref a ∧ DPut H3 a y v H4 ∧ D.nx σ H4

section
variable {X : Cx} {o i e value : Expr} {pos pos' tpos : Pos} {td ty tv : TE}
theorem pe_dget (hu : X.A.units + 1 < cLine) (ho : PE X o td) (hi : PE X i ty) (hs : NoSl i) : PE X (.Subscript o i pos) (tDGet td ty) := by
  intro pins s σ H Q I h
  refine subD_of PySem.F.slot_dict_getitem.lookup hs (thn (ho pins s σ H _ I h) fun u s1 ⟨x, H1, I1, rx, q1⟩ => thn (hi pins s1 σ H1 _ I1 q1) fun iv s2 ⟨y, H2, I2, ry, a, v, ex, g, q2⟩ => ?_)
  subst ex
  obtain rfl : u = Value.ref a := rx
  exact ⟨dict_typeIs I2 g, d_getItem hu I2 g ry fun w' s3 I3 rw' => ⟨v, H2, I3, rw', q2⟩⟩
theorem ps_dput (hu : X.A.units + 1 < cLine) (ho : PE X o td) (hi : PE X i ty) (hv : PE X value tv) (hs : swapsWith value (some (.Subscript o i pos')) pos.line X.env = pure false) :
    PS X (.Assign [.Subscript o i pos'] value pos) (sDPut td ty tv) := by
  intro pins s σ H D I h
  refine wpAny_Assign_Subscript (thn (hv pins s σ H _ I h) fun r s1 ⟨v, H1, I1, rv, q1⟩ => thn (ho pins s1 σ H1 _ I1 q1) fun u s2 ⟨x, H2, I2, rx, q2⟩ => thn (hi pins s2 σ H2 _ I2 q2) fun iv s3 ⟨y, H3, I3, ry, a, H4, ex, g, q3⟩ => ?_) hs
  subst ex
  obtain rfl : u = Value.ref a := rx
  exact d_setItem hu I3 g ry rv fun s4 I4 => ⟨σ, H4, I4, q3⟩
end


/-! ### displays -/
theorem dk_empty {P : Program} {w : World} {H : Hp} (h : Heap) (hb : sysModules < h.objs.size) : ObjOk P w H (h.push { cls := .type "dict", data := .dict #[] }) h.objs.size (.dK []) :=
  ⟨Nat.zero_le _, beq_eq_false_iff_ne.mpr (Ne.symm (Nat.ne_of_lt hb)), [], .nil, Heap.DictOf.new h⟩
/-- {}, to be a dict of the kind that is wanted -/
def tDNewK : TE := fun _ H Q => ∀ p, H p = none → Q (.ref p) (upd H p (.dK []))
section
variable {X : Cx} {pos : Pos}
theorem pe_dnewK : PE X (.Dict [] [] pos) tDNewK := fun pins s σ H Q I h =>
  wpAny_Dict_empty ⟨.ref s.heap.objs.size, _, I.laid (a := s.heap.objs.size) (o := .dK []) (t' := s.toks) (fun _ _ q => Heap.get?_push_of_some _ q) (Nat.le_refl _) (dk_empty s.heap I.big), rfl, h _ (I.hok.fresh (Nat.le_refl _))⟩
end

/-- the pairs of a display, from the left -/
def tPairs : List (TE × TE) → St → Hp → (List (V × V) → Hp → Prop) → Prop
  | [], _, H, Q => Q [] H
  | (tk, tv) :: r, σ, H, Q => tk σ H fun x H1 => tv σ H1 fun y H2 => tPairs r σ H2 fun ps H3 => Q ((x, y) :: ps) H3
abbrev VV : List (V × V) → List (Value × Value) → Prop := Paired fun p q => RelV p.1 q.1 ∧ RelV p.2 q.2
def PPs (X : Cx) (pos : Pos) (keys : List (Option Expr)) (values : List Expr) (trs : List (TE × TE)) : Prop :=
  ∀ (pins : List (Addr × Obj)) (s : Shared) (σ : St) (H : Hp) (Q : List (V × V) → Hp → Prop), Inv X pins σ H s → tPairs trs σ H Q →
    wpAny (model X.prog X.w) X.A (evalPairs (pairTrees keys values X.env pos)) (fun vs s' => ∃ ps H', Inv X pins σ H' s' ∧ VV ps vs ∧ Q ps H') X.xe s
theorem pps_nil {X : Cx} {pos : Pos} : PPs X pos [] [] [] := fun pins s σ H Q I h => pairTrees_nil_walk ⟨[], H, I, .nil, h⟩
theorem pps_cons {X : Cx} {pos : Pos} {k v : Expr} {ks : List (Option Expr)} {vs : List Expr} {tk tv : TE} {trs : List (TE × TE)} (hk : PE X k tk) (hv : PE X v tv) (hr : PPs X pos ks vs trs) :
    PPs X pos (some k :: ks) (v :: vs) ((tk, tv) :: trs) := fun pins s σ H Q I h =>
  pairTrees_cons_walk (thn (hk pins s σ H _ I h) fun u s1 ⟨x, H1, I1, rx, q1⟩ => thn (hv pins s1 σ H1 _ I1 q1) fun w2 s2 ⟨y, H2, I2, ry, q2⟩ =>
    thn (hr pins s2 σ H2 _ I2 q2) fun ws s3 ⟨ps, H3, I3, rel, q3⟩ => ⟨(x, y) :: ps, H3, I3, .cons ⟨rx, ry⟩ rel, q3⟩)

def mergeK (kvs more : List (Key × V)) : List (Key × V) := more.foldl (fun acc kv => putK acc kv.1 kv.2) kvs
theorem KV.merge : ∀ {more : List (Key × V)} {rs : List (Key × Value)} {kvs : List (Key × V)} {vs : List (Key × Value)}, KV more rs → KV kvs vs → KV (mergeK kvs more) (merged vs rs) := by
  intro more rs kvs vs r
  unfold KV at r
  induction r generalizing kvs vs with
  | nil => intro q; exact q
  | @cons p q ps qs h t ih =>
    intro r0
    have e : KV (putK kvs p.1 p.2) (stored vs q.1 q.2) := by
      have := r0.put p.1 h.2
      rw [← h.1]; exact this
    exact ih e
theorem length_mergeK : ∀ (more kvs : List (Key × V)), (mergeK kvs more).length ≤ kvs.length + more.length
  | [], kvs => by show kvs.length ≤ kvs.length + 0; omega
  | p :: r, kvs => by
    have h1 := length_mergeK r (putK kvs p.1 p.2)
    have h2 := length_putK kvs p.1 p.2
    show (mergeK (putK kvs p.1 p.2) r).length ≤ _
    rw [List.length_cons]; omega
theorem carries_of {P : Program} {w : World} : ∀ {kvs : List (Key × V)} {ws : List (Value × Value)}, VV (kvs.map fun kv => (kV kv.1, kv.2)) ws → ∃ rs, Carries (mixKind P w) ws rs ∧ KV kvs rs
  | [], _, r => by rw [List.map_nil] at r; cases r; exact ⟨[], True.intro, .nil⟩
  | p :: kvs, _, r => by
    rw [List.map_cons] at r
    cases r with
    | @cons a b as bs h t =>
      obtain ⟨rs, c, q⟩ := carries_of (P := P) (w := w) t
      obtain ⟨b1, b2⟩ := b
      exact ⟨(p.1, b2) :: rs, ⟨kV_is h.1, rfl, c⟩, .cons ⟨rfl, h.2⟩ q⟩
/-- {k: v, ..} with keys ints and texts; the new dict stands empty while the pairs are made -/
def tDisp (trs : List (TE × TE)) : TE := fun σ H Q => ∀ p, H p = none → tPairs trs σ (upd H p (.dK [])) fun ps H2 => H2 p = some (.dK []) ∧ ∃ kvs : List (Key × V), ps = kvs.map (fun kv => (kV kv.1, kv.2)) ∧ kvs.length ≤ 15 ∧ Q (.ref p) (upd H2 p (.dK (mergeK [] kvs)))
theorem pe_disp {X : Cx} {pos : Pos} {keys : List (Option Expr)} {values : List Expr} {trs : List (TE × TE)} (h : PPs X pos keys values trs) (hall : keys.all (·.isSome) = true) (hl : keys.length = values.length) (h0 : keys ≠ [])
    (h15 : keys.length ≤ 15) : PE X (.Dict keys values pos) (tDisp trs) := by
  intro pins s σ H Q I q
  have hn := I.hok.fresh (Nat.le_refl s.heap.objs.size)
  have I1 := I.laid (a := s.heap.objs.size) (o := .dK []) (h' := s.heap.push { cls := .type "dict", data := .dict #[] }) (t' := s.toks) (fun _ _ q => Heap.get?_push_of_some _ q) (Nat.le_refl _) (dk_empty s.heap I.big)
  refine wpAny_Dict_walk (knd := mixKind X.prog X.w) hall hl h0 h15 (thn (h pins _ σ _ _ I1 (q _ hn)) fun ws s2 ⟨ps, H2, I2, rel, e, kvs, ep, lk, q2⟩ => ?_)
  subst ep
  obtain ⟨rs, c, rk⟩ := carries_of (P := X.prog) (w := X.w) rel
  obtain ⟨z, hd, vs0, r0, dd⟩ := dk_of I2.hok e
  cases r0
  refine ⟨rs, c, dd, fun h' dd' hs => ⟨.ref s.heap.objs.size, _, ?_, rfl, q2⟩⟩
  have hz : (mergeK [] kvs).length ≤ sizeLine := by
    have h1 := length_mergeK kvs []
    rw [List.length_nil] at h1
    rw [sizeLine_eq]; omega
  have he : ∃ q, h'.get? s.heap.objs.size = some q := let ⟨q, _, _, hq, _⟩ := dd'; ⟨q, hq⟩
  exact d_write I2 (by rw [e]; exact True.intro) hs he (dk_new hz hd (rk.merge .nil) dd')


/-! ### methods -/
/-- a method call o.m(e) of a built-in, with one argument: what must be seen of the text -/
structure M1 (X : Cx) (o : Expr) (m : Str) (apos : Pos) (e : Expr) (cpos : Pos) : Prop where
  base : attributeBase o m X.env (eval o X.env) = eval o X.env
  few : ((backTo cpos (starEach [e] X.env)).all (fun x => !x.1) && (backToKw cpos (keywordEach [] X.env)).all (fun x => x.1.isSome)
    && decide (([e] : List Expr).length + ([] : List Keyword).length + (if ([] : List Keyword).isEmpty then 0 else 1) < 30)) = true
  line : (apos.endLine == cpos.line) = true
  trees : backTo cpos (starEach [e] X.env) = [(false, eval e X.env)]
structure M2 (X : Cx) (o : Expr) (m : Str) (apos : Pos) (e f : Expr) (cpos : Pos) : Prop where
  base : attributeBase o m X.env (eval o X.env) = eval o X.env
  few : ((backTo cpos (starEach [e, f] X.env)).all (fun x => !x.1) && (backToKw cpos (keywordEach [] X.env)).all (fun x => x.1.isSome)
    && decide (([e, f] : List Expr).length + ([] : List Keyword).length + (if ([] : List Keyword).isEmpty then 0 else 1) < 30)) = true
  line : (apos.endLine == cpos.line) = true
  trees : backTo cpos (starEach [e, f] X.env) = [(false, eval e X.env), (false, eval f X.env)]


section
variable {X : Cx} {pins : List (Addr × Obj)} {σ : St} {H : Hp} {s : Shared} {a : Addr} {y d : V} {u r : Value} {o : Option V} {A : Around} {E : Value → Shared → Prop}
end

section
variable {X : Cx} {o e f : Expr} {apos cpos : Pos} {td ty tx : TE}
end

/-! ### dict(d): a copy -/
section
variable {X : Cx} {pins : List (Addr × Obj)} {σ : St} {H : Hp} {s : Shared} {a : Addr} {kvs : List (Key × V)} {A : Around} {E : Value → Shared → Prop}
end


section
variable {X : Cx} {pins : List (Addr × Obj)} {σ : St} {H : Hp} {s : Shared} {a : Addr} {y : V} {u : Value} {A : Around} {E : Value → Shared → Prop}
end
end L2

namespace Att
open PySem PySem.W PySem.Calls PyProof.Rows

/-! ### the script -/
theorem ints_of_wellAll {P : Params} {h : Heap} : ∀ (ns : List Int) (vs : List Value), WellAll P h vs (ns.map WData.int) → IntsAre vs ns := by
  intro ns
  induction ns with
  | nil =>
    intro vs w
    rw [List.map_nil] at w
    cases w
    exact .nil
  | cons n ns ih =>
    intro vs w
    rw [List.map_cons] at w
    cases w with
    | cons a b =>
      cases a
      exact .cons _ _ (ih _ b)

theorem script_of {l : OpenLaw} {n : Nat} (hn : l.most = some n) {P : Params} {h : Heap} {args : List WData} {vals : List Value}
    (hpre : l.row.toRowW.claim.pre args = true) (hwl : WellAll P h vals args) :
    ∃ a vs ns, vals = [Value.ref a] ∧ args = [WData.list (ns.map WData.int)] ∧ h.get? a = some { cls := .type "list", data := .seq vs.toArray } ∧ IntsAre vs ns ∧ ns.length ≤ n := by
  have hsh : WShape.hasAll [] args [.list .int] = true := (pre_splitW hpre).1
  have hc : l.pre.holds [] { args := args } = true := (pre_splitW hpre).2
  obtain ⟨d, r, rfl, h1, h2⟩ := hasAllW_cons hsh
  obtain rfl := hasAllW_nil h2
  obtain ⟨xs, rfl, h3⟩ := hasW_list h1
  obtain ⟨ns, rfl⟩ := items_int h3
  have hlen : ns.length ≤ n := by
    unfold OpenLaw.pre at hc
    have h4 : (WTm.not (.lt (.lit (.int (n : Int))) (.len (.arg 0)))).holds [] { args := [.list (ns.map .int)] } = true := by
      have h4 := (holds_andW hc).1
      rw [hn] at h4
      exact h4
    have h5 := condW_of h4 (w_not (w_lt w_lit (w_len_list (w_arg rfl))))
    rw [List.length_map] at h5
    refine Nat.le_of_not_lt fun q => ?_
    have q' : (n : Int) < ((ns.length : Nat) : Int) := by omega
    first
      | (rw [decide_eq_true q'] at h5; exact absurd h5 (by decide))
      | (simp at h5; omega)
  cases hwl with
  | cons w1 w2 =>
    cases w2
    cases w1 with
    | list ho hall => exact ⟨_, _, ns, rfl, rfl, ho, ints_of_wellAll ns _ hall, hlen⟩

theorem post_true (l : OpenLaw) (args : List WData) : l.row.toRowW.claim.post args (.bool true) args = true :=
  postW_of (r := l.row.toRowW) (X := (true == true))
    (show WShape.has [] (.bool true) .bool = true by first | rfl | decide | simp [WShape.has, WShape.arms, WShape.armsAll])
    (show (WTm.eq .res (.lit (.bool true))).value [] { args := args, res := some (.bool true), after := args } = some (.bool (true == true)) from w_eq_bool (w_res rfl) w_lit) rfl

/-! ### the attachment: holds_open's last premise (the goal 'hc' behind k_head) from a wpAny of the law's body -/

/-- the same from a codeAny of the CALL (for a layer whose function contracts speak of calls) -/
theorem attach_call {l : OpenLaw} {n : Nat} {q : Program} {loose : List Str} {XP : (Str → Option Value) → Heap → Prop} {YP : World → Heap → Prop} {d : DefRec}
    (hn : l.most = some n) (hdf : d.params.defaults = [])
    (call : ∀ (w : World) (s₀ s₁ : Shared) (mg mb : Str → Option Value) (fa : Addr) (o : Obj) (pm cd doc : Value) (a : Addr) (vs : List Value) (ns : List Int),
      Ground q loose [] XP w s₀ mg mb s₁.heap → YP w s₁.heap →
      s₁.heap.get? fa = some o → o.data = .func (docDef d.name d.params d.body d.scope pm cd doc) → s₁.heap.CodeRec cd d.name → mg d.name = some (.ref fa) →
      s₁.heap.get? a = some { cls := .type "list", data := .seq vs.toArray } → IntsAre vs ns → ns.length ≤ n → s₁.gens = #[] →
      codeAny (model l.prog w) callerA (.call (.ref fa) ⟨[.ref a], []⟩) (fun r s' => r = .ok (.ret (.bool true)) ∧ OldK s₁.heap s'.heap ∧ s'.os = s₁.os ∧ AllBare s'.gens) s₁) :
    WalkO q loose XP YP l.row.toRowW d [] (fun f vs => PySem.call f vs) := by
  intro w s₀ s₁ mg mb G Y fa o pm cd doc dV kV ho hd hcd hD hmg hg args vals as hpre hlay hrd hwl hlo
  obtain rfl : dV = .none := Dflts.none hD hdf
  obtain rfl : kV = .none := Dflts.noKw hD
  obtain ⟨a, vs, ns, rfl, rfl, hobj, hints, hlen⟩ := script_of hn hpre hwl
  refine enter_call (codeAny_mono (call w s₀ s₁ mg mb fa o pm cd doc a vs ns G Y ho (fd_plain hd) hcd hmg hobj hints hlen hg) fun r s' hq => ?_)
  obtain ⟨rfl, h2, h3, h4⟩ := hq
  exact ⟨.inl ⟨.bool true, .bool true, [], rfl, fun _ => rfl, .bool true, post_true l _, fun _ => ⟨List.Pairwise.nil, fun _ hm => (nomatch hm)⟩⟩, h2, h3, h4⟩


/-! ### rules over ANY heap (no ledger) from facts about the written part K: the library's own take a ledger (News) for what they write -/
section
variable {prog : Program} {w : World} {A : Around} {E : Value → Shared → Prop} {s : Shared} {K : Frag}





/-! the whole heap as the ledger: makes every rule that writes through a ledger a rule over any heap -/

end
end Att

namespace L2
open PySem PySem.Spec PyProof.Rows

theorem vals_ints : ∀ {vs : List Value} {ns : List Int}, IntsAre vs ns → Vals (ns.map V.int) vs
  | _, _, .nil => .nil
  | _, _, .cons n t h => .cons ⟨t, rfl⟩ (vals_ints h)


end L2

namespace L2
open PySem PySem.Spec PyProof.Rows


end L2

/- THE LAST THEOREM (shape; LID, My.* are yours):
   My.Adr: a structure of the addresses that your layer names (classes, functions); My.Txt K t: a structure (Prop) of the equations over K;
   My.txt_mk : {K} {implicit addresses ..} (e1 : nsIn K mainGlobals "law" = some (some (.ref f))) (e2 : K.lookup f = some ⟨oc, od, .func (fnOf "law" "law" params body scope dV kV doc pm an cdv ct), sl⟩) (e3 : codeIn K cdv "law" = true) .. : ∃ t, My.Txt K t

set_option maxRecDepth 100000 in
set_option maxHeartbeats 0 in
theorem PySem.Challenge.cw_LID_holds : PySem.Challenge.rw_LID.Holds := by
  w_on; o_law; k_head; (case hw => w_witness2)
  k_fill
  refine L2.walk_of (l := PySem.Challenge.rw_LID) (n := 63) (k := 40) (x := "script") (CX := fun w => ..) (sp := fun _ => My.sp_law) rfl (by decide) rfl ⟨rfl, by decide, by decide⟩ (fun w h Y => PySem.W.kIn_of Y) ?F ?S ?C
  case F =>
    intro w mg fa h KX G hmg
    have T : ∃ t, My.Txt (L2.KOf KX) t := by
      dsimp only [L2.KOf]                          -- K must stand as «<heap const> w.params» for k_is
      refine' My.txt_mk ?e1 ?e2 ?e3 ..
      (case e1 => PySem.W.k_is)                    -- in the order: a name -> its address -> its object -> its parts
      (case e2 => PySem.W.k_is)
      ..
    obtain ⟨t, T⟩ := T
    have e0 := hmg.symm.trans (PySem.W.mg_of KX G T.law)
    cases e0                                       -- fa is the law's own address
    exact ⟨_, fun s u => .of_eq rfl, fun base kb nb => My.law_fn T kb nb⟩     -- if «.of_eq rfl» comes too early: refine' ⟨_, ?b, fun base kb nb => My.law_fn T kb nb⟩; exact fun s u => .of_eq rfl
  case S => exact fun w H a ns hl hO hS => ..
  case C => exact ..
(the tactic k_is has no namespace: write k_is) -/

/-! SHORT WORDS over the layer: a def of the text, its body, what a loop and a test want. -/
namespace L2
open PySem PySem.Spec PyProof.Rows

/-! ### the text by places -/
/-- the j-th statement of a class's body -/
def inClass (s : Stmt) (j : Nat) : Stmt := match s with
  | .ClassDef _ _ _ body _ _ _ _ _ _ _ => body.getD j (.Pass ⟨0, 0, 0, 0⟩)
  | _ => .Pass ⟨0, 0, 0, 0⟩
def defArgs (s : Stmt) : Arguments := match s with
  | .FunctionDef _ a _ _ _ _ _ _ _ _ => a
  | _ => { posonlyargs := [], args := [], vararg := none, kwonlyargs := [], kw_defaults := [], kwarg := none, defaults := [] }
def defBody (s : Stmt) : List Stmt := match s with
  | .FunctionDef _ _ b _ _ _ _ _ _ _ => b
  | _ => []
def defScope (s : Stmt) : Scope := match s with
  | .FunctionDef _ _ _ _ _ _ sc _ _ _ => sc
  | _ => { kind := .function, names := [], isGenerator := false, isCoroutine := false }

/-! ### no exception leaves a def -/
abbrev CX0 : CXT := fun _ _ _ _ _ _ => False
abbrev E0 : XK := fun _ _ _ => False
theorem pass0 {X : Cx} : Passes CX0 X E0 := fun _ _ _ _ _ _ _ h => h.elim

/-! ### a def (or method) of the text as it stands behind the top -/
structure Fun (K : PySem.W.Frag) (x qual : Str) (st : Stmt) (f : Addr) (fd : FuncData) : Prop where
  ex : ∃ (oc : Value) (od : Option Addr) (kV doc pm : Value) (an : Option Addr) (cdv ct : Value) (osl : Array (Option Value)),
    fd = PySem.W.fnOf x qual (defArgs st) (defBody st) (defScope st) .none kV doc pm an cdv ct ∧ K.lookup f = some ⟨oc, od, .func fd, osl⟩ ∧ PySem.W.codeIn K cdv qual = true
  kp : PySem.W.keepIn K (.ref f) = true
section
variable {P : Program} {w : World} {K : PySem.W.Frag} {mg : Str → Option Value} {base : Heap}
/-- THE RULE for a def: its body as a term of rules, and the reading of that term -/
theorem Fun.ok {x qual : Str} {st : Stmt} {f : Addr} {fd : FuncData} {N ps : List Str} {k : Nat} {sp : Sp} (F : Fun K x qual st f fd) (S : FnScope N ps (defScope st)) (len : ∀ vs H Q E, sp vs H Q E → vs.length = ps.length)
    (hbody : ∀ (cdv : Value) (A : Around) (outer : List Env) (s : Shared) (H : Hp) (vs : List V) (Q : VK) (E : XK), Room k (A.deeper (envOfC qual (defScope st) s.heap.objs.size f cdv)) → sp vs H Q E →
      ∃ t, PSs (cxOf CX0 P w K mg base N qual (defScope st) f cdv A outer s H E).nox (defBody st) t ∧ t { nx := fun _ H' => Q .non H', rt := Q } (start N vs) H) : FnOk P w K mg base CX0 (k + 1) f fd ps sp := by
  obtain ⟨oc, od, kV, doc, pm, an, cdv, ct, osl, rfl, lk, hcd⟩ := F.ex
  refine fn_of lk hcd S len fun A outer s H vs Q E hr hsp => ?_
  obtain ⟨t, h, q⟩ := hbody cdv A outer s H vs Q E hr hsp
  exact ⟨t, h.nox, q⟩
/-- how its arguments bind (no defaults): h is «fun _ _ _ _ _ _ us hl => match us, hl with | [_, _], _ => rfl», one _ a parameter -/
theorem Fun.binds {x qual : Str} {st : Stmt} {f : Addr} {fd : FuncData} {ps : List Str} (F : Fun K x qual st f fd)
    (h : ∀ (kV doc pm : Value) (an : Option Addr) (cdv ct : Value) (us : List Value), us.length = ps.length → bindArgs (PySem.W.fnOf x qual (defArgs st) (defBody st) (defScope st) .none kV doc pm an cdv ct) ⟨us, []⟩ = pure (ps.zip us)) : Binds K fd ps [] := by
  obtain ⟨oc, od, kV, doc, pm, an, cdv, ct, osl, rfl, lk, hcd⟩ := F.ex
  exact .all (h kV doc pm an cdv ct)
theorem fun_mk {x qual : Str} {st : Stmt} {f : Addr} {oc : Value} {od an : Option Addr} {osl : Array (Option Value)} {kV doc pm cdv ct : Value} (l : K.lookup f = some ⟨oc, od, .func (PySem.W.fnOf x qual (defArgs st) (defBody st) (defScope st) .none kV doc pm an cdv ct), osl⟩)
    (c : PySem.W.codeIn K cdv qual = true) (k : PySem.W.keepIn K (.ref f) = true) : Fun K x qual st f (PySem.W.fnOf x qual (defArgs st) (defBody st) (defScope st) .none kV doc pm an cdv ct) := ⟨⟨oc, od, kV, doc, pm, an, cdv, ct, osl, rfl, l, c⟩, k⟩
end

/-! ### expressions in short: the name that stands in the i-th slot -/
section
variable {X : Cx}
end

/-! ### tests -/
theorem iteF {A B : Prop} (h : B) : if false = true then A else B := by
  rw [if_neg Bool.false_ne_true]
  exact h
theorem iteT {A B : Prop} (h : A) : if true = true then A else B := by
  rw [if_pos rfl]
  exact h

/-! ### heaps -/
/-- all that was tracked is as it was -/
def Same (H H' : Hp) : Prop := ∀ b o, H b = some o → H' b = some o
theorem Same.refl (H : Hp) : Same H H := fun _ _ h => h
theorem Same.trans {H H1 H2 : Hp} (a : Same H H1) (b : Same H1 H2) : Same H H2 := fun c o h => b c o (a c o h)
theorem Same.free {H H' : Hp} (e : Same H H') {l : Addr} (h : H' l = Option.none) : H l = Option.none := by
  cases q : H l with
  | none => rfl
  | some o =>
    rw [e l o q] at h
    cases h

end L2

namespace L2
open PySem PySem.Spec PyProof.Rows
section
variable {X : Cx}
/-- len of a dict -/
theorem call_lenD : CallR X (.builtin "len") (fun xs H Q => ∃ a kvs, xs = [V.ref a] ∧ H a = some (.dK kvs) ∧ Q (.int kvs.length) H) := by
  intro pins s σ H xs us Q I r h
  obtain ⟨a, kvs, rfl, ha, q⟩ := h
  obtain ⟨u, rfl, ru⟩ := vals1 r
  cases ru
  exact d_len I (.inl ha) fun t s' I' => ⟨.int kvs.length, H, I', ⟨t, rfl⟩, q⟩
end

/-! ### a dict's pairs: keys that differ -/
section
variable {κ : Type} [DecidableEq κ]
theorem nd_snoc : ∀ {l : List κ} {k : κ}, l.Nodup → ¬ k ∈ l → (l ++ [k]).Nodup
  | [], k, _, _ => by simp
  | a :: r, k, h, hk => by
    obtain ⟨h1, h2⟩ := List.nodup_cons.mp h
    show (a :: (r ++ [k])).Nodup
    refine List.nodup_cons.mpr ⟨fun m => ?_, nd_snoc h2 fun m => hk (List.mem_cons.mpr (Or.inr m))⟩
    rcases List.mem_append.mp m with q | q
    · exact h1 q
    · exact hk (List.mem_cons.mpr (Or.inl (List.mem_singleton.mp q).symm))
end
end L2

end
section
set_option Elab.async false
set_option linter.all false
set_option maxRecDepth 100000
set_option maxHeartbeats 4000000
/-! LIST COMPREHENSIONS with one clause, over the layer. -/
namespace L2
open PySem PySem.Spec PyProof.Rows

/-- a comprehension's block as a context -/
abbrev ccx (X : Cx) (scope : Scope) (cl : List (Str × Addr)) (C : Addr) (N' : List Str) (s2 : Shared) (H2 : Hp) (ex : List Addr) (pn : List (Addr × Obj)) : Cx where
  prog := X.prog
  w := X.w
  K := X.K
  mg := X.mg
  base := X.base
  A := X.A
  N := N'
  s₀ := s2
  H₀ := H2
  env := compEnvC scope cl C X.env
  outer := X.stack
  stack := X.stack
  ex := ex
  fn := fun _ => false
  calm := X.calm
  pn := pn
  xe := fun _ _ => False

theorem closure_go (env : Env) : ∀ (l : List (Str × NameKind)) (cs : List (Str × Addr)), (∀ p ∈ l, p.2 = .free → ∃ c, env.cells.lookup p.1 = some c) →
    ∃ cl, (forIn l cs (fun (x : Str × NameKind) (r : List (Str × Addr)) => if (x.2 == NameKind.free) = true then (do let a ← cellOf env x.1; pure (ForInStep.yield ((x.1, a) :: r)) : Sem (ForInStep (List (Str × Addr)))) else pure (ForInStep.yield r)) : Sem _) = pure cl ∧
      (∀ x c, cl.lookup x = some c → env.cells.lookup x = some c ∨ cs.lookup x = some c) ∧ (∀ x, ((x, NameKind.free) ∈ l ∨ ∃ c, cs.lookup x = some c) → ∃ c, cl.lookup x = some c)
  | [], cs, _ => ⟨cs, rfl, fun x c h => .inr h, fun x h => h.elim (fun z => nomatch z) id⟩
  | (n, k) :: r, cs, h => by
    have hr : ∀ p ∈ r, p.2 = .free → ∃ c, env.cells.lookup p.1 = some c := fun p hp => h p (List.mem_cons_of_mem _ hp)
    by_cases hk : k = .free
    · subst hk
      obtain ⟨c, hc⟩ := h (n, .free) List.mem_cons_self rfl
      obtain ⟨cl, e, h1, h2⟩ := closure_go env r ((n, c) :: cs) hr
      refine ⟨cl, ?_, fun x d hx => ?_, fun x hx => ?_⟩
      · rw [List.forIn_cons]
        have e2 : cellOf env n = pure c := by unfold cellOf; rw [hc]
        simp only [beq_self_eq_true, if_true, e2, pure_bind]
        exact e
      · rcases h1 x d hx with z | z
        · exact .inl z
        · rw [List.lookup_cons] at z
          cases q : x == n with
          | true =>
            rw [q] at z
            cases z
            have : x = n := by simpa using q
            subst this
            exact .inl hc
          | false =>
            rw [q] at z
            exact .inr z
      · apply h2
        rcases hx with hx | ⟨d, hx⟩
        · rcases List.mem_cons.mp hx with z | z
          · cases z
            exact .inr ⟨c, by rw [List.lookup_cons]; simp⟩
          · exact .inl z
        · right
          rw [List.lookup_cons]
          cases q : x == n with
          | true => exact ⟨c, rfl⟩
          | false => exact ⟨d, hx⟩
    · obtain ⟨cl, e, h1, h2⟩ := closure_go env r cs hr
      refine ⟨cl, ?_, h1, fun x hx => h2 x ?_⟩
      · rw [List.forIn_cons]
        have e2 : (k == NameKind.free) = false := by simpa using hk
        simp only [e2, Bool.false_eq_true, if_false, pure_bind]
        exact e
      · rcases hx with hx | hx
        · rcases List.mem_cons.mp hx with z | z
          · cases z
            exact absurd rfl hk
          · exact .inl z
        · exact .inr hx
theorem closure_of {scope : Scope} {env : Env} (h : ∀ p ∈ scope.names, p.2 = .free → ∃ c, env.cells.lookup p.1 = some c) :
    ∃ cl, closureFor scope env = pure cl ∧ (∀ x c, cl.lookup x = some c → env.cells.lookup x = some c) ∧ (∀ x, (x, NameKind.free) ∈ scope.names → ∃ c, cl.lookup x = some c) := by
  obtain ⟨cl, e, h1, h2⟩ := closure_go env scope.names [] h
  refine ⟨cl, ?_, fun x c hx => (h1 x c hx).elim id (fun z => nomatch z), fun x hx => h2 x (.inl hx)⟩
  unfold closureFor
  have e' := congrArg (fun m : Sem (List (Str × Addr)) => m >>= fun r => pure r) e
  simp only [pure_bind] at e'
  exact e'

theorem lookup_relabel {env : Env} {kk : NameKind} (hkk : kk ≠ .free) : ∀ {names : List (Str × NameKind)} {x : Str}, names.lookup x = some kk →
    (names.map fun (n, k) => if (k == NameKind.free && env.scope.kind == .function && env.kindOf n == some .cell) then (n, NameKind.cell) else (n, k)).lookup x = some kk
  | [], _, h => by simp at h
  | (n, k) :: r, x, h => by
    have ih := @lookup_relabel env kk hkk r x
    show List.lookup x ((if (k == NameKind.free && env.scope.kind == .function && env.kindOf n == some .cell) = true then (n, NameKind.cell) else (n, k)) :: _) = _
    cases hx : x == n with
    | true =>
      simp only [List.lookup_cons, hx] at h
      have h : some k = some kk := h
      have h' : k = kk := Option.some.inj h
      subst h'
      have e : (k == NameKind.free) = false := by simpa using hkk
      rw [e, Bool.false_and, Bool.false_and, if_neg Bool.false_ne_true, List.lookup_cons, hx]
    | false =>
      simp only [List.lookup_cons, hx] at h
      by_cases hc : (k == NameKind.free && env.scope.kind == .function && env.kindOf n == some .cell) = true
      · rw [if_pos hc]; simp only [List.lookup_cons, hx]; exact ih h
      · rw [if_neg hc]; simp only [List.lookup_cons, hx]; exact ih h
theorem lookup_relabel_free {env : Env} : ∀ {names : List (Str × NameKind)} {x : Str}, names.lookup x = some .free →
    ((names.map fun (n, k) => if (k == NameKind.free && env.scope.kind == .function && env.kindOf n == some .cell) then (n, NameKind.cell) else (n, k)).lookup x = some .cell) ∨
    ((names.map fun (n, k) => if (k == NameKind.free && env.scope.kind == .function && env.kindOf n == some .cell) then (n, NameKind.cell) else (n, k)).lookup x = some .free)
  | [], _, h => by simp at h
  | (n, k) :: r, x, h => by
    have ih := @lookup_relabel_free env r x
    show (List.lookup x ((if (k == NameKind.free && env.scope.kind == .function && env.kindOf n == some .cell) = true then (n, NameKind.cell) else (n, k)) :: _) = _) ∨ (List.lookup x ((if (k == NameKind.free && env.scope.kind == .function && env.kindOf n == some .cell) = true then (n, NameKind.cell) else (n, k)) :: _) = _)
    cases hx : x == n with
    | true =>
      simp only [List.lookup_cons, hx] at h
      cases h
      by_cases hc : (NameKind.free == NameKind.free && env.scope.kind == .function && env.kindOf n == some .cell) = true
      · rw [if_pos hc]; simp [List.lookup_cons, hx]
      · rw [if_neg hc]; simp [List.lookup_cons, hx]
    | false =>
      simp only [List.lookup_cons, hx] at h
      by_cases hc : (k == NameKind.free && env.scope.kind == .function && env.kindOf n == some .cell) = true
      · rw [if_pos hc]; simp only [List.lookup_cons, hx]; exact ih h
      · rw [if_neg hc]; simp only [List.lookup_cons, hx]; exact ih h
theorem relabel_mem {env : Env} {scope : Scope} {x : Str} (hcell : ∀ y ∈ scope.names, y.2 ≠ .cell) (h : (relabel scope env).names.lookup x = some .cell ∨ (relabel scope env).names.lookup x = some .free) : (x, NameKind.free) ∈ scope.names := by
  have m : ∃ k', (k' = NameKind.cell ∨ k' = NameKind.free) ∧ (x, k') ∈ (relabel scope env).names := by
    rcases h with h | h
    · exact ⟨_, .inl rfl, PySem.mem_of_lookup h⟩
    · exact ⟨_, .inr rfl, PySem.mem_of_lookup h⟩
  obtain ⟨k', hk, m⟩ := m
  obtain ⟨⟨n, k⟩, hm, e⟩ := List.mem_map.mp m
  have e : (if (k == NameKind.free && env.scope.kind == .function && env.kindOf n == some .cell) = true then (n, NameKind.cell) else (n, k)) = (x, k') := e
  by_cases hc : (k == NameKind.free && env.scope.kind == .function && env.kindOf n == some .cell) = true
  · rw [if_pos hc] at e
    cases e
    have : k = .free := by
      cases k <;> simp at hc ⊢
    rw [← this]; exact hm
  · rw [if_neg hc] at e
    cases e
    rcases hk with z | z
    · exact absurd z (hcell _ hm)
    · rw [← z]; exact hm

section
variable {prog : Program} {w : World} {A : Around} {E : Value → Shared → Prop} {R : Result → Shared → Prop} {s : Shared}
theorem codeAny_compLoop_go {elt target iter : Expr} {ifs : List Expr} {scope : Scope} {pos : Pos} {it acc : Value} {env : Env} (I : Nat → Shared → Prop)
    (turn : ∀ n s, I n s → wpAny (model prog w) A (pyNext it) (fun r s₁ => match r with
      | none => R (.ok .next) s₁
      | some v => wpAny (model prog w) A (letOwnedTupleGo target it v) (fun _ s1 => wpAny (model prog w) A (assign target env v) (fun _ s₂ =>
          wpAny (model prog w) A (forIn ifs true fun c r => if r = true then do let ok ← isTrue c env (eval c env); pure (ForInStep.yield ok) else pure (ForInStep.yield r)) (fun ok s₃ =>
            if ok = true then wpAny (model prog w) A (eval elt env) (fun x s₄ =>
              wpAny (model prog w) A (call (.builtin "list.append") [acc, x]) (fun _ s₅ => ∃ m, m < n ∧ I m s₅) (fun _ _ => False) s₄) (fun _ _ => False) s₃
            else ∃ m, m < n ∧ I m s₃) (fun _ _ => False) s₂) (fun _ _ => False) s1) (fun _ _ => False) s₁) (fun _ _ => False) s)
    (n : Nat) (h : I n s) :
    codeAny (model prog w) A (.compLoop (.ListComp elt [⟨target, iter, ifs, 0⟩] scope pos) 0 it acc env) R s := by
  refine codeAny_loop rfl I (fun n s hI => ?_) n h
  show wpAny _ A ((compTurn (.ListComp elt [⟨target, iter, ifs, 0⟩] scope pos) 0 it acc env).onRaise (fun x => do noteFrame x env; theTreesLotGoes x)) _ _ s
  refine wpAny_noted ?_
  rw [compTurn_list]
  refine wpAny_bind (wpAny_standAt (wpAny_bind (wpAny_mono (turn n s hI) (fun r s₁ h₁ => ?_) fun _ _ h' => h'.elim)))
  cases r with
  | none => exact wpAny_pure h₁
  | some v =>
    refine wpAny_bind (wpAny_mono h₁ (fun _ s1 h1 => ?_) fun _ _ h' => h'.elim)
    refine wpAny_bind (wpAny_mono h1 (fun _ s₂ h₂ => wpAny_bind (wpAny_mono h₂ (fun ok s₃ h₃ => ?_) fun _ _ h' => h'.elim)) fun _ _ h' => h'.elim)
    cases ok with
    | false => exact wpAny_pure ⟨rfl, h₃⟩
    | true =>
      exact wpAny_bind (wpAny_bind (wpAny_mono h₃ (fun x s₄ h₄ => wpAny_bind (wpAny_mono h₄ (fun _ s₅ h₅ => wpAny_pure (wpAny_pure ⟨rfl, h₅⟩)) fun _ _ h' => h'.elim)) fun _ _ h' => h'.elim))
end

/-- the tests of a clause -/
abbrev TTs := St → Hp → (Bool → Hp → Prop) → Prop
def PTs (X : Cx) (ifs : List Expr) (t : TTs) : Prop :=
  ∀ (pins : List (Addr × Obj)) (s : Shared) (σ : St) (H : Hp) (Q : Bool → Hp → Prop), Inv X pins σ H s → t σ H Q →
    wpAny (model X.prog X.w) X.A (forIn ifs true fun c r => if r = true then do let ok ← isTrue c X.env (eval c X.env); pure (ForInStep.yield ok) else pure (ForInStep.yield r)) (TP X pins σ Q) X.xe s
theorem pts_nil {X : Cx} : PTs X [] (fun _ H Q => Q true H) := fun _ _ _ H _ I h => wpAny_tests_nil ⟨H, I, h⟩
theorem pts_one {X : Cx} {c : Expr} {t : TT} (h : PT X c t) : PTs X [c] t := fun pins s σ H Q I hw => wpAny_tests_one (h pins s σ H Q I hw)

/-- the free names of a block: name, slot in the outer frame -/
structure FrOk (X : Cx) (scope : Scope) (fr : List (Str × Nat)) : Prop where
  slots : ∀ p ∈ fr, X.N[p.2]? = some p.1 ∧ (X.env.kindOf p.1 = some .cell ∨ X.env.kindOf p.1 = some .free)
  kind : ∀ p ∈ fr, scope.names.lookup p.1 = some .free
/-- the block's slots: its own names, then the free ones -/
def inN (locs : List Str) (fr : List (Str × Nat)) : List Str := locs ++ fr.map (·.1)
def inS (locs : List Str) (fr : List (Str × Nat)) (σ : St) : St := List.replicate locs.length none ++ fr.map fun p => (σ[p.2]?).join

/-- the free names' values -/
def inF (fr : List (Str × Nat)) (σ : St) : St := fr.map fun p => (σ[p.2]?).join
/-- one turn of a block: ls are the block's own slots as the turn before has left them -/
def tTurn (n : Nat) (fv : St) (g : TG) (tt : TTs) (te : TE) (x : V) (H : Hp) (Y : V → Hp → Prop) (N : Hp → Prop) : Prop :=
  ∀ ls : St, ls.length = n → g x (ls ++ fv) H fun σ2 H2 => (∃ l2 : St, l2.length = n ∧ σ2 = l2 ++ fv) ∧ tt σ2 H2 fun b H3 => if b = true then te σ2 H3 Y else N H3
/-- W: by the turn, a measure, the items so far -/
def tCompW (J : It) (n : Nat) (fv : St) (g : TG) (tt : TTs) (te : TE) (Q : VK) (H1 : Hp) : Prop := ∃ W : Nat → Nat → List V → Hp → Prop, (∃ m, W 0 m [] H1) ∧ ∀ i m ys H, W i m ys H →
  (J.stop i H ∧ ys.length ≤ sizeLine ∧ ∀ l, H l = none → Q (.ref l) (upd H l (.lst ys))) ∨
  (J.go i H ∧ ys.length < sizeLine ∧ ∃ m', m' < m ∧ ∀ x H', J.yld i H x H' → tTurn n fv g tt te x H' (fun y H4 => W (i + 1) m' (ys ++ [y]) H4) fun H3 => W (i + 1) m' ys H3)
def tComp (n : Nat) (fr : List (Str × Nat)) (wi : TI) (g : TG) (tt : TTs) (te : TE) : TE := fun σ H Q => wi σ H fun J H1 => tCompW J n (inF fr σ) g tt te Q H1

theorem hok_add {P : Program} {w : World} {H : Hp} {h : Heap} {D : Addr} {o : HO} (ok : HOk P w H h) (hn : H D = none) (new : ObjOk P w (upd H D o) h D o) : HOk P w (upd H D o) h := fun b u e => by
  by_cases hb : b = D
  · subst hb; rw [upd_same] at e; cases e; exact new
  · rw [upd_ne hb] at e
    exact (ok b u e).stay (fun _ _ _ q => q) (fun c q => by rw [upd_ne (ne_of_none q hn)]; exact q) fun c xs q => by rw [upd_ne (ne_of_none q hn)]; exact q

section
variable {X : Cx} {tg elt iter : Expr} {ifs : List Expr} {scope : Scope} {pos : Pos} {locs : List Str} {fr : List (Str × Nat)} {g : TG} {tt : TTs} {te : TE}

/-- the block, from the iterator on; RR: what is wanted of its list, its frame, its end -/
theorem comp_core {pins : List (Addr × Obj)} {σ : St} {H1 : Hp} {s2 : Shared} {it : Addr} {fp : List Addr} {tn : Nat → Heap → Prop} {J : It} {cl : List (Str × Addr)} {E : Value → Shared → Prop}
    {RR : Value → Addr → Result → Shared → Prop} {QQ : List V → Hp → Prop}
    (hc : X.calm = true) (hkind : scope.kind = .function) (hcell : ∀ y ∈ scope.names, y.2 ≠ .cell) (hlo : ∀ x ∈ locs, scope.names.lookup x = some .local) (F : FrOk X scope fr) (hnd : (inN locs fr).Nodup)
    (cl1 : ∀ x c, cl.lookup x = some c → X.env.cells.lookup x = some c) (cl2 : ∀ x, (x, NameKind.free) ∈ scope.names → ∃ c, cl.lookup x = some c)
    (inner : ∀ (C : Addr) (s0 : Shared) (H0 : Hp) (ex : List Addr) (pn : List (Addr × Obj)), PG (ccx X scope cl C (inN locs fr) s0 H0 ex pn) tg g ∧ PTs (ccx X scope cl C (inN locs fr) s0 H0 ex pn) ifs tt ∧ PE (ccx X scope cl C (inN locs fr) s0 H0 ex pn) elt te)
    (I : Inv X pins σ H1 s2) (T : Turn X.prog X.w X.K tg J fp it tn) (st0 : tn 0 s2.heap) (hf : ∀ b ∈ fp, FpOk X pins H1 b)
    {W : Nat → Nat → List V → Hp → Prop} (w0 : ∃ m, W 0 m [] H1) (turn : ∀ i m ys H, W i m ys H →
      (J.stop i H ∧ ys.length ≤ sizeLine ∧ QQ ys H) ∨
      (J.go i H ∧ ys.length < sizeLine ∧ ∃ m', m' < m ∧ ∀ x H', J.yld i H x H' → tTurn locs.length (inF fr σ) g tt te x H' (fun y H4 => W (i + 1) m' (ys ++ [y]) H4) fun H3 => W (i + 1) m' ys H3))
    (hRR : ∀ (D C : Addr) (ys : List V) (H' : Hp) (s' : Shared) (m : Str → Option Value), H' D = none → D ≠ C → Inv X pins σ (upd H' D (.lst ys)) s' → FpOk X pins (upd H' D (.lst ys)) C → s'.heap.Ns C m → QQ ys H' → RR (.ref D) C (.ok .next) s') :
    wpAny (model X.prog X.w) X.A (newList []) (fun acc s₃ => wpAny (model X.prog X.w) X.A (newFunctionEnv scope X.env.globals cl [] X.env.qual none .none (some X.env)) (fun cenv s₄ =>
      codeAny (model X.prog X.w) X.A (.compStart (.ListComp elt [⟨tg, iter, ifs, 0⟩] scope pos) 0 (.ref it) acc { cenv with scope := relabel scope X.env }) (RR acc cenv.locals) s₄) E s₃) E s2 := by
  refine wpAny_newObj_type (wpAny_newFunctionEnv hcell (by intro y hy; simp at hy) (fun h₁ hns₁ hsb₁ => ?_) hkind)
  dsimp only at hns₁ hsb₁ ⊢
  generalize hH2 : s2.heap.push { cls := .type "list", dict := none, data := .seq ([] : List Value).toArray } = Hq at hns₁ hsb₁ ⊢
  have hC : Hq.objs.size = s2.heap.objs.size + 1 := by rw [← hH2, Heap.size_push]
  generalize hDe : s2.heap.objs.size = D at hC ⊢
  generalize hCe : Hq.objs.size = C at hC hns₁ hsb₁ ⊢
  have hDC : D ≠ C := by omega
  have below : ∀ b, b < D → b ≠ C ∧ b ≠ D := fun b hb => ⟨by omega, by omega⟩
  have ltD : ∀ {b : Addr} {o : Obj}, s2.heap.get? b = some o → b < D := fun e => hDe ▸ Heap.lt_size e
  have old : ∀ b o, s2.heap.get? b = some o → h₁.get? b = some o := fun b o e => hsb₁.extBut b o (below b (ltD e)).1 (Heap.get?_push_of_some _ (hH2 ▸ Heap.get?_push_of_some _ e))
  have hacc : h₁.PlainList D #[] := ⟨_, hsb₁.extBut _ _ hDC (Heap.get?_push_of_some _ (by subst hDe; exact hH2 ▸ Heap.get?_push_size _ rfl))⟩
  -- the block's context
  let X' : Cx := ccx X scope cl C (inN locs fr) s2 H1 fp (X.pn ++ pins)
  have ltC : s2.heap.objs.size ≤ C := by rw [hDe, hC]; exact Nat.le_succ _
  have fpC : FpOk X pins H1 C := I.fpOk ltC (I.hok.fresh ltC)
  have fpD : FpOk X pins H1 D := I.fpOk (Nat.le_of_eq hDe) (I.hok.fresh (Nat.le_of_eq hDe))
  have stkN : ∀ b, b ≠ X.env.locals → b ∉ X.fs → b ∉ frs X.stack := fun b h1 h2 z => (List.mem_cons.mp (I.stkSub b z)).elim h1 h2
  have ok' : X'.Ok := by
    refine ⟨I.ok.mod, hkind, I.ok.glob, I.ok.blt, ltC, fun x y c h1 h2 => I.ok.inj x y c (cl1 x c h1) (cl1 y c h2), fun x hx => ?_, fun x c h => ?_, I.ok.hd, I.ok.frames, .inl rfl, fun b hb => ?_, fun b o e => I.bs b o e, Nat.le_trans I.ok.bsz I.sz, fun b o e hb => ?_, fun b hb => ?_, I.stack, I.stkFree⟩
    · obtain ⟨c, hcc⟩ := cl2 x (relabel_mem hcell hx)
      exact ⟨c, hcc⟩
    · cases h
    · refine ⟨fun z => ?_, fun x c e => (hf b hb).2.2.2.2.1 x c (cl1 x c e)⟩
      obtain ⟨o, ho, _⟩ := T.obj _ _ st0 b hb
      have z' : b = C := z
      exact (below b (ltD ho)).1 z'
    · have hb' := hf b hb
      rcases hb'.2.2.2.1 with z | z
      · exact I.ok.noex b o e z
      · exact absurd (Nat.lt_of_lt_of_le (Heap.lt_size e) (Nat.le_trans I.ok.bsz z)) (Nat.lt_irrefl _)
    · exact stkN b (hf b hb).2.1 (hf b hb).2.2.1
  have I1 : Inv X' [] (inS locs fr σ) H1 { s2 with heap := h₁, toks := s2.toks + ([] : List (Str × Value)).length } := by
    refine ⟨ok', I.os.symm ▸ rfl, I.bare, Un.kept old, ⟨_, hns₁, fun i x v h1 h2 h3 => ?_⟩, fun x c e => ?_, I.hok.fresh ltC, fun x c e => I.freeC x c (cl1 x c e), fun p hp => ?_, I.hok.kept old, ?_⟩
    · -- a slot of the block that has a value is a free name's
      have hge : locs.length ≤ i := by
        by_cases hi : i < locs.length
        · unfold inS at h2
          rw [List.getElem?_append_left (by simpa using hi), List.getElem?_replicate, if_pos hi] at h2
          cases h2
        · omega
      have h1' : (fr.map (·.1))[i - locs.length]? = some x := by
        have h1 : (inN locs fr)[i]? = some x := h1
        unfold inN at h1
        rw [List.getElem?_append_right hge] at h1
        exact h1
      have h2' : (fr.map fun p => (σ[p.2]?).join)[i - locs.length]? = some (some v) := by
        unfold inS at h2
        rw [List.getElem?_append_right (by simpa using hge), List.length_replicate] at h2
        exact h2
      rw [List.getElem?_map] at h1' h2'
      cases e : fr[i - locs.length]? with
      | none => rw [e] at h1'; cases h1'
      | some p =>
        rw [e] at h1' h2'
        have ex : p.1 = x := Option.some.inj h1'
        have ev : (σ[p.2]?).join = some v := Option.some.inj h2'
        obtain ⟨f1, f2⟩ := F.slots p (List.mem_of_getElem? e)
        have ev' : σ[p.2]? = some (some v) := by
          cases q : σ[p.2]? with
          | none => rw [q] at ev; cases ev
          | some o => rw [q] at ev; cases o with
            | none => cases ev
            | some v' => cases ev; rfl
        obtain ⟨m0, hn0, hl0⟩ := I.loc
        have vis0 : Vis X.env.scope p.1 := by
          rcases f2 with z | z
          · exact .inr (.inl z)
          · exact .inr (.inr z)
        obtain ⟨u, ru, lk⟩ := hl0 p.2 p.1 v f1 ev' vis0
        have hxm : x ∉ locs := fun z => by
          have hnd' := hnd
          unfold inN at hnd'
          exact (List.nodup_append.mp hnd').2.2 x z x (List.mem_map.mpr ⟨p, List.mem_of_getElem? e, ex⟩) rfl
        refine ⟨u, ru, ?_⟩
        rcases lk with ⟨hk, _⟩ | ⟨hk, c, hcc, hce⟩
        · rcases f2 with z | z
          · rw [z] at hk; cases hk
          · rw [z] at hk; cases hk
        · -- in the block it is a cell or free name
          have h3 : Vis (relabel scope X.env) x := h3
          have hk' : (compEnvC scope cl C X.env).kindOf x = some .cell ∨ (compEnvC scope cl C X.env).kindOf x = some .free := by
            rcases h3 with z | z | z
            · exfalso
              have q := lookup_relabel_free (env := X.env) (F.kind p (List.mem_of_getElem? e))
              rw [ex] at q
              rcases q with q | q
              · have z' : some NameKind.local = some NameKind.cell := z.symm.trans q
                cases z'
              · have z' : some NameKind.local = some NameKind.free := z.symm.trans q
                cases z'
            · exact .inl z
            · exact .inr z
          obtain ⟨c', hc'⟩ := cl2 x (relabel_mem hcell hk')
          have := cl1 x c' hc'
          rw [← ex, hcc] at this
          cases this
          refine .inr ⟨hk', c, hc', ?_⟩
          obtain ⟨o, ho, hd⟩ := hce
          exact ⟨o, old _ _ ho, hd⟩
    · obtain ⟨v, o, ho, hd⟩ := I.cell x c (cl1 x c e)
      exact ⟨v, o, old _ _ ho, hd⟩
    · have hp' : p ∈ X.pn ++ pins := (List.mem_append.mp hp).elim id fun z => nomatch z
      obtain ⟨e, n, ne, nf, d⟩ := I.pin p hp'
      exact ⟨old _ _ e, n, (below _ (ltD e)).1, stkN _ ne nf, d⟩
    · show (inS locs fr σ).length = (inN locs fr).length
      unfold inS inN
      simp
  have fpLt : ∀ b ∈ fp, b < D := fun b hb => by
    obtain ⟨o, ho, _⟩ := T.obj _ _ st0 b hb
    exact ltD ho
  obtain ⟨m0, w0⟩ := w0
  let oD : List Value → Nat → Obj := fun its k => { cls := .type "list", data := .seq its.toArray k }
  have stat : ∀ {H' : Hp} {ob : Obj}, (∀ b ∈ fp, H' b = none) → ∀ b ∈ fp, FpOk X' [(D, ob)] H' b := fun {H' ob} hn b hb => by
    obtain ⟨f0, f1, f2, f3, f4, f5⟩ := hf b hb
    refine ⟨hn b hb, (below b (fpLt b hb)).1, stkN b f1 f2, .inl hb, fun x c e => f4 x c (cl1 x c e), fun p hp z => ?_⟩
    rcases List.mem_append.mp hp with q | q
    · exact f5 p q z
    · have e : p = (D, ob) := by simpa using q
      subst e
      exact (below b (fpLt b hb)).2 z.symm
  have loop : ∀ s₃ : Shared, s₃ = { s2 with heap := h₁, toks := s2.toks + ([] : List (Str × Value)).length } →
      codeAny (model X.prog X.w) X.A (.compLoop (.ListComp elt [⟨tg, iter, ifs, 0⟩] scope pos) 0 (.ref it) (.ref D) (compEnvC scope cl C X.env)) (RR (.ref D) C) s₃ := by
    rintro s₃ rfl
    refine codeAny_compLoop_go (fun n s' => ∃ (i : Nat) (ls : St) (H' : Hp) (ys : List V) (its : List Value) (k : Nat), ls.length = locs.length ∧ Inv X' [(D, oD its k)] (ls ++ inF fr σ) H' s' ∧ tn i s'.heap ∧ (∀ b ∈ fp, H' b = none) ∧ Vals ys its ∧ W i n ys H') ?_ m0 ?_
    · rintro n s3 ⟨i, ls, H3, ys, its, k, hls, I3, st3, fr3, rv, w3⟩
      rcases turn i n ys H3 w3 with ⟨stop, hz, q⟩ | ⟨go, hz, m', hm, step⟩
      · refine thn (T.done X' rfl rfl rfl hc i _ s3 _ H3 (fun _ _ => False) I3 (stat fr3) st3 stop) fun r s4 ⟨hr, I4⟩ => ?_
        subst hr
        obtain ⟨pD, nD, _, _, _⟩ := I4.pin (D, oD its k) (List.mem_append_right _ List.mem_cons_self)
        have nD : H3 D = none := nD
        obtain ⟨mC, hnC, _⟩ := I4.loc
        have hnC : s4.heap.Ns C mC := hnC
        have nC : H3 C = none := I4.free
        have new : ObjOk X.prog X.w (upd H3 D (.lst ys)) s4.heap D (.lst ys) := ⟨hz, its, k, rv, pD⟩
        have hok4 : HOk X.prog X.w (upd H3 D (.lst ys)) s4.heap := hok_add I4.hok nD new
        have u4 : Un (frs X.stack) fp H1 H3 s2.heap s4.heap := I4.base
        have u5 : Un (frs X.stack) fp H1 (upd H3 D (.lst ys)) s2.heap s4.heap := by
          refine ⟨u4.keep, u4.slot, fun b o e n hx => ?_, u4.there, fun b xs e => ?_, fun b o u e => ?_, fun b ps e => ?_⟩
          · rw [upd_ne (below b (ltD e)).2]; exact u4.free b o e n hx
          · rw [upd_ne (ne_of_none e fpD.1)]; exact u4.tups b xs e
          · rw [upd_ne (ne_of_none e fpD.1)]; exact u4.frzs b o u e
          · rw [upd_ne (ne_of_none e fpD.1)]; exact u4.tbls b ps e
        have I5 : Inv X pins σ (upd H3 D (.lst ys)) s4 := by
          refine I.call' (ch := fp) ?_ u5 hok4 I4.bare fun b hb => ?_
          · have : s4.os = s2.os := I4.os
            exact this
          · obtain ⟨f0, f1, f2, f3, f4, f5⟩ := hf b hb
            exact ⟨f3, f1, f4, f5⟩
        have fpC' : FpOk X pins (upd H3 D (.lst ys)) C := I.fpOk ltC (by rw [upd_ne hDC.symm]; exact nC)
        exact hRR D C ys H3 s4 mC nD hDC I5 fpC' hnC q
      · refine thn (T.item X' rfl rfl rfl hc i _ s3 _ H3 (fun _ _ => False) I3 (stat fr3) st3 go) fun r s4 ⟨u, hr, h4⟩ => ?_
        subst hr
        refine thn h4 fun _ s5 ⟨x, H5, I5, r5, y5, st5, fr5⟩ => ?_
        obtain ⟨hg, htt, hte⟩ := inner C s2 H1 fp (X.pn ++ pins)
        have I5' := I5.pinned (stat fr5) (T.obj _ _ st5)
        refine thn (hg _ s5 _ H5 x u _ I5' r5 (step x H5 y5 ls hls)) fun _ s6 ⟨σ6, H6, I6, ⟨l6, hl6, e6⟩, q6⟩ => ?_
        subst e6
        refine thn (htt _ s6 _ H6 _ I6 q6) fun ok s7 ⟨H7, I7, q7⟩ => ?_
        have again : ∀ {H8 : Hp} {s8 : Shared}, Inv X' ([(D, oD its k)] ++ pinsAt fp s5.heap) (l6 ++ inF fr σ) H8 s8 → tn (i + 1) s8.heap ∧ ∀ b ∈ fp, H8 b = none := fun {H8 s8} I8 => by
          refine ⟨T.keep _ _ _ st5 fun b hb o e => (I8.pin (b, o) (List.mem_append_right _ (List.mem_append_right _ (mem_pinsAt hb e)))).1, fun b hb => ?_⟩
          obtain ⟨o, e, d⟩ := T.obj _ _ st5 b hb
          exact (I8.pin (b, o) (List.mem_append_right _ (List.mem_append_right _ (mem_pinsAt hb e)))).2.1
        cases ok with
        | false =>
          rw [if_neg Bool.false_ne_true] at q7 ⊢
          obtain ⟨a1, a2⟩ := again I7
          exact ⟨m', hm, i + 1, l6, H7, ys, its, k, hl6, I7.unpinned, a1, a2, rv, q7⟩
        | true =>
          rw [if_pos rfl] at q7 ⊢
          refine thn (hte _ s7 _ H7 _ I7 q7) fun yv s8 ⟨y, H8, I8, r8, q8⟩ => ?_
          obtain ⟨a1, a2⟩ := again I8
          obtain ⟨pD, nD, _, nfD, _⟩ := I8.pin (D, oD its k) (List.mem_append_right _ (List.mem_append_left _ List.mem_cons_self))
          have nD : H8 D = none := nD
          have hl8 : s8.heap.PlainList D its.toArray := ⟨k, pD⟩
          have hlen : its.toArray.size ≤ sizeLine := by
            rw [List.size_toArray, ← rv.length]; omega
          refine wpAny_list_append_plain (hsz := hlen) hl8 fun h9 hl9 hs9 => ?_
          obtain ⟨k9, e9⟩ := hl9
          have I9 : Inv X' (pinsAt fp s5.heap) (l6 ++ inF fr σ) H8 s8 := I8.pins_of fun p hp => I8.pin p (List.mem_append_right _ (List.mem_append_right _ hp))
          have I10 : Inv X' (pinsAt fp s5.heap) (l6 ++ inF fr σ) H8 { s8 with heap := h9 } := by
            refine I9.turned (it := D) (t' := s8.toks) (fun b o hb e => (hs9.2 b hb).trans e) nD ?_ ?_ ?_ ?_
            · exact hDC
            · exact .inr (Nat.le_of_eq hDe)
            · exact fun x c e => fpD.2.2.2.2.1 x c (cl1 x c e)
            · intro p hp z
              rcases List.mem_append.mp hp with q | q
              · exact fpD.2.2.2.2.2 p q z
              · have := fpLt p.1 (of_pinsAt q).1
                exact (below p.1 this).2 z
          have e9' : h9.get? D = some (oD (its ++ [yv]) k9) := by
            rw [e9]; simp [oD]
          have I11 : Inv X' [(D, oD (its ++ [yv]) k9)] (l6 ++ inF fr σ) H8 { s8 with heap := h9 } := I10.pins_of fun p hp => by
            have e : p = (D, oD (its ++ [yv]) k9) := by simpa using hp
            subst e
            exact ⟨e9', nD, hDC, nfD, fun v z => by cases z⟩
          refine ⟨m', hm, i + 1, l6, H8, ys ++ [y], its ++ [yv], k9, hl6, I11, ?_, a2, Vals.append rv (.cons r8 .nil), q8⟩
          exact T.keep _ _ _ a1 fun b hb o e => (hs9.2 b (below b (fpLt b hb)).2).trans e
    · have e0 : List.replicate locs.length none ++ inF fr σ = inS locs fr σ := rfl
      obtain ⟨k0, eD⟩ := hacc
      refine ⟨0, List.replicate locs.length none, H1, [], [], k0, by simp, ?_, T.keep _ _ _ st0 fun b _ o e => old b o e, fun b hb => (hf b hb).1, .nil, w0⟩
      rw [e0]
      refine I1.pins_of fun p hp => ?_
      have e : p = (D, oD [] k0) := by simpa using hp
      subst e
      exact ⟨eD, fpD.1, hDC, stkN D fpD.2.1 fpD.2.2.1, fun v z => by cases z⟩
  exact codeAny_compStart_list (loop _ rfl) (T.self _ 0 _ _ _ (T.keep _ _ _ st0 fun b _ o e => old b o e) (loop _ rfl))

/-- what a block's text must have -/
structure CompOk (X : Cx) (scope : Scope) (locs : List Str) (fr : List (Str × Nat)) : Prop where
  kind : scope.kind = .function
  nocell : ∀ y ∈ scope.names, y.2 ≠ .cell
  names : ∀ y ∈ scope.names, y.2 = .local → scope.names.lookup y.1 = some .local
  own : ∀ x ∈ locs, scope.names.lookup x = some .local
  free : ∀ y ∈ scope.names, y.2 = .free → y.1 ∈ fr.map (·.1)
  nd : (inN locs fr).Nodup
theorem FrOk.nil : FrOk X scope [] := ⟨(fun _ h => nomatch h), (fun _ h => nomatch h)⟩
theorem FrOk.cons {x : Str} {j : Nat} {fr : List (Str × Nat)} (h1 : X.N[j]? = some x) (h2 : X.env.kindOf x = some .cell ∨ X.env.kindOf x = some .free) (h3 : scope.names.lookup x = some .free) (t : FrOk X scope fr) : FrOk X scope ((x, j) :: fr) :=
  ⟨fun p hp => (List.mem_cons.mp hp).elim (fun e => by subst e; exact ⟨h1, h2⟩) (t.slots p), fun p hp => (List.mem_cons.mp hp).elim (fun e => by subst e; exact h3) (t.kind p)⟩
theorem CompOk.clos {pins : List (Addr × Obj)} {σ : St} {H : Hp} {s : Shared} (S : CompOk X scope locs fr) (F : FrOk X scope fr) (I : Inv X pins σ H s) :
    ∃ cl, closureFor scope X.env = pure cl ∧ (∀ x c, cl.lookup x = some c → X.env.cells.lookup x = some c) ∧ (∀ x, (x, NameKind.free) ∈ scope.names → ∃ c, cl.lookup x = some c) := by
  refine closure_of fun p hp hk => ?_
  obtain ⟨q, hq, e⟩ := List.mem_map.mp (S.free p hp hk)
  obtain ⟨c, hc⟩ := I.ok.has q.1 (F.slots q hq).2
  exact ⟨c, e ▸ hc⟩

theorem pe_lcomp {wi : TI} (S : CompOk X scope locs fr) (F : FrOk X scope fr) (hc : X.calm = true) (hi : PI X tg iter wi)
    (inner : ∀ (cl : List (Str × Addr)) (C : Addr) (s0 : Shared) (H0 : Hp) (ex : List Addr) (pn : List (Addr × Obj)), PG (ccx X scope cl C (inN locs fr) s0 H0 ex pn) tg g ∧ PTs (ccx X scope cl C (inN locs fr) s0 H0 ex pn) ifs tt ∧ PE (ccx X scope cl C (inN locs fr) s0 H0 ex pn) elt te)
    (hs : ∀ x, foldedSetIterable iter X.env x = pure x := by intro _; rfl) : PE X (.ListComp elt [⟨tg, iter, ifs, 0⟩] scope pos) (tComp locs.length fr wi g tt te) := by
  intro pins s σ H Q I h
  obtain ⟨cl, hcl, cl1, cl2⟩ := S.clos F I
  rw [eval_ListComp]
  refine wpAny_comprehension_free (use := none) rfl hs hcl S.kind S.names (thn (hi pins s σ H _ I h) fun v s1 h1 => thn h1 fun itv s2 h2 => ?_)
  obtain ⟨it, fp, tn, J, H1, e, I2, T, st2, f2, W, w0, turn⟩ := h2
  subst e
  refine comp_core (QQ := fun ys H' => ∀ l, H' l = none → Q (.ref l) (upd H' l (.lst ys))) hc S.kind S.nocell S.own F S.nd cl1 cl2 (inner cl) I2 T st2 f2 w0 turn fun D C ys H' s' m nD hDC I' fC hn q => ?_
  refine ⟨m, hn, fun h' hs' => ?_⟩
  obtain ⟨f0, f1, f2, f3, f4, f5⟩ := fC
  exact ⟨.ref D, _, I'.turned (it := C) (t' := s'.toks) (fun b o hb e => (hs'.2 b hb).trans e) f0 f1 f3 f4 f5, rfl, q D nD⟩

end

/-! ### within a block -/
section
variable {X : Cx} {scope : Scope} {cl : List (Str × Addr)} {C : Addr} {N' : List Str} {s0 : Shared} {H0 : Hp} {ex : List Addr} {pn : List (Addr × Obj)}
theorem pvL (i : Nat) {x : Str} {pos : Pos} (hN : N'[i]? = some x := by rfl) (h : scope.names.lookup x = some .local := by rfl) (hd : (x == ("__debug__" : Str)) = false := by decide) (hcd : (x == ("__classdict__" : Str)) = false := by decide) :
    PE (ccx X scope cl C N' s0 H0 ex pn) (.Name x pos) (tVar i) := pe_var hN (.inl (lookup_relabel_local h)) hd hcd
theorem pvF (i : Nat) {x : Str} {pos : Pos} (hN : N'[i]? = some x := by rfl) (h : scope.names.lookup x = some .free := by rfl) (hd : (x == ("__debug__" : Str)) = false := by decide) (hcd : (x == ("__classdict__" : Str)) = false := by decide) :
    PE (ccx X scope cl C N' s0 H0 ex pn) (.Name x pos) (tVar i) := pe_var hN ((lookup_relabel_free h).elim (fun z => .inr (.inl z)) fun z => .inr (.inr z)) hd hcd
theorem pgL (i : Nat) {x : Str} {pos : Pos} (hnd : N'.Nodup) (hN : N'[i]? = some x := by rfl) (h : scope.names.lookup x = some .local := by rfl) : PG (ccx X scope cl C N' s0 H0 ex pn) (.Name x pos) (gName i) :=
  pg_name (X := ccx X scope cl C N' s0 H0 ex pn) hnd hN (.inl (lookup_relabel_local h)) (.inr (lookup_relabel_local h))
end
end L2

end
section
set_option Elab.async false
set_option linter.all false
set_option maxRecDepth 100000
set_option maxHeartbeats 4000000
/-! MORE RULES over the layer: texts walked and cut, join, all, sum, sorted, zip, isinstance, is. -/
namespace L2
open PySem PySem.Spec PyProof.Rows

/-! ### the signs of a text -/
def sgn (x : Str) (i : Nat) : V := .str ⟨#[x.cps.getD i 0]⟩
def Its (x : Str) : It := ⟨fun i _ => i < x.length, fun i H v H' => H' = H ∧ v = sgn x i, fun i _ => i = x.length⟩
theorem strIter_next {P : Program} {w : World} {A : Around} (hh : A.handled = none) (I : Addr) (x : Str) (t : Tok) :
    Walks P w A I [I] [I] x.cps.size (SignAt x) (fun i h => h.IsStrIter I (strIterType x) x t i) := by
  unfold strIterType
  cases ha : x.cps.all (· < 128)
  · exact Walks.strWide hh I x t
  · exact Walks.strAscii hh I x t
theorem turn_str {P : Program} {w : World} {K : PySem.W.Frag} {tg : Expr} (it : Addr) (x : Str) (t : Tok) : Turn P w K tg (Its x) [it] it (fun i h => h.IsStrIter it (strIterType x) x t i) where
  mem := by simp
  obj := fun i h st b hb => by
    have e : b = it := by simpa using hb
    subst e
    obtain ⟨o, e, c, d⟩ := st
    exact ⟨o, e, fun v z => by rw [d] at z; cases z⟩
  keep := fun i h h' st k => let ⟨o, ho, r⟩ := st; ⟨o, k it (by simp) o ho, r⟩
  item := by
    intro X hP hw hK hc i pins s σ H E I hf st hg
    subst hP hw hK
    obtain ⟨f0, f1, f2, f3, f4, f5⟩ := hf it (by simp)
    refine (strIter_next (I.ok.hd hc) it x t).item i s _ _ hg st fun v h' tk hv st' kk => ?_
    obtain ⟨c, u, hcx, rfl⟩ := hv
    have I1 : Inv X pins σ H { s with heap := h', toks := tk } := I.turned (fun b o hb e => kk b o (by simpa using hb) e) f0 f1 f3 f4 f5
    obtain ⟨o, e, cc, d⟩ := id st'
    have hn : ["enumerate", "zip", "dict_itemiterator", "dict_reverseitemiterator", "odict_iterator", "itertools.zip_longest", "itertools.pairwise"].contains (strIterType x) = false := by
      unfold strIterType
      split <;> decide
    refine ⟨_, rfl, go_of (s := { s with heap := h', toks := tk }) e cc d hn ⟨sgn x i, H, I1, ⟨u, ?_⟩, ⟨rfl, rfl⟩, st', fun b hb => (hf b hb).1⟩⟩
    rw [Array.getD_eq_getD_getElem?, hcx]
    all_goals rfl
  done := by
    intro X hP hw hK hc i pins s σ H E I hf st hg
    subst hP hw hK
    obtain ⟨f0, f1, f2, f3, f4, f5⟩ := hf it (by simp)
    have e : i = x.cps.size := hg
    subst e
    exact (strIter_next (I.ok.hd hc) it x t).done s _ _ st fun h' tk kk => ⟨rfl, I.turned (fun b o hb e => kk b o (by simpa using hb) e) f0 f1 f3 f4 f5⟩
  self := fun A i s Q E st h => by
    have st : s.heap.IsStrIter it (strIterType x) x t i := st
    unfold strIterType at st
    split at st
    · exact wpAny_pyIter_striter_ascii st h
    · exact wpAny_pyIter_striter_wide st h
def iStr (te : TE) : TI := fun σ H R => te σ H fun v H1 => ∃ x, v = .str x ∧ R (Its x) H1
theorem pi_str {X : Cx} {tg l : Expr} {tl : TE} (hl : PE X l tl) : PI X tg l (iStr tl) := by
  intro pins s σ H R I h
  refine thn (hl pins s σ H _ I h) fun v s1 ⟨y, H1, I1, r1, q1⟩ => ?_
  obtain ⟨x, e, q⟩ := q1
  subst e
  obtain ⟨t, rfl⟩ := r1
  refine wpAny_pyIter_strU ?_
  refine ⟨s1.heap.objs.size, [s1.heap.objs.size], _, _, H1, rfl, I1.kept (t' := s1.toks) fun b o e => Heap.get?_push_of_some _ e, turn_str _ x t, ⟨_, Heap.get?_push_size _ rfl, rfl, rfl⟩, fun b hb => ?_, q⟩
  have e : b = s1.heap.objs.size := by simpa using hb
  subst e
  exact I1.fpOk (Nat.le_refl _) (I1.hok.fresh (Nat.le_refl _))

/-! ### comparisons of texts, is -/
section
variable {X : Cx}
theorem op_le_str : OpR X (compareOp .LtE) (fun x y H Q => ∃ i j, x = .str i ∧ y = .str j ∧ Q (.bl (!decide (j.cps.toList < i.cps.toList))) H) := by
  intro pins s σ H x y v u Q I rx ry h
  obtain ⟨i, j, rfl, rfl, q⟩ := h
  obtain ⟨t, rfl⟩ := rx
  obtain ⟨t', rfl⟩ := ry
  exact P.le_str ⟨.bl _, H, I, rfl, q⟩
end

/-! ### a cut of a text -/
theorem isPart_opt {v : Value} {o : Option Int} (h : IsPart v o) : ∃ l : Option (Int × Tok), v = partValue l ∧ l.map (·.1) = o := by
  cases h with
  | none => exact ⟨none, rfl, rfl⟩
  | int i t => exact ⟨some (i, t), rfl, rfl⟩
section
variable {X : Cx}
theorem sl_str : SlR X (fun x lo hi H Q => ∃ z, x = .str z ∧ z.length ≤ sizeLine ∧ Q (.str (Txt.slice z lo hi)) H) := by
  intro pins s σ H x v vl vu lo hi sl Q I rx hs pl pu h
  obtain ⟨z, rfl, hz, q⟩ := h
  obtain ⟨t, rfl⟩ := rx
  obtain ⟨l, rfl, rfl⟩ := isPart_opt pl
  obtain ⟨u, rfl, rfl⟩ := isPart_opt pu
  refine ⟨"str", _, F.slot_str_getitem.lookup, typeIs_str _ _ _, ?_⟩
  refine wpAny_getItem_str_slice (l := l) (u := u) (st := none) hs rfl (post_val_or_str ⟨Nat.le_trans (Txt.slice_le z _ _) hz, fun t' k => ?_⟩)
  exact ⟨.str _, H, I.tok _, ⟨t', rfl⟩, q⟩
end

/-! ### join -/
theorem strsAre_of {ys : List Str} : ∀ {us : List Value}, Vals (ys.map V.str) us → StrsAre us ys := by
  induction ys with
  | nil => intro us r; rw [List.map_nil] at r; cases r; exact .nil
  | cons n ns ih =>
    intro us r
    rw [List.map_cons] at r
    cases r with
    | cons r1 r2 =>
      obtain ⟨t, e⟩ := r1
      subst e
      exact .cons n t (ih r2)
section
variable {X : Cx}
theorem mt_join : MtR X "str.join" (fun x xs H Q => ∃ sep a ys, x = .str sep ∧ xs = [.ref a] ∧ SqL X.K H a (ys.map V.str) ∧ (ys.map (·.length)).sum + ys.length * sep.length ≤ 16777216 ∧ Q (.str (Txt.join sep ys)) H) := by
  intro pins s σ H x xs v us Q I rx rs h
  obtain ⟨sep, a, ys, rfl, rfl, ha, hz, q⟩ := h
  obtain ⟨t, rfl⟩ := rx
  obtain ⟨u, rfl, ru⟩ := vals1 rs
  cases ru
  obtain ⟨its, r, p, _⟩ := I.list ha
  exact join_list p.isList (strsAre_of r) hz fun t' k => ⟨.str _, H, I.tok _, ⟨t', rfl⟩, q⟩

/-! ### all, sum, sorted -/
theorem call_all (hc : X.calm = true) : CallR X (.builtin "all") (fun xs H Q => ∃ (a : Addr) (bs : List Bool), xs = [.ref a] ∧ SqL X.K H a (bs.map V.bl) ∧ Q (.bl (bs.all id)) H) := by
  intro pins s σ H xs us Q I r h
  obtain ⟨a, bs, rfl, ha, q⟩ := h
  obtain ⟨u, rfl, ru⟩ := vals1 r
  cases ru
  obtain ⟨its, rv, p, _⟩ := I.list ha
  have hlt : a < s.heap.objs.size := by obtain ⟨o, n, e, _⟩ := p; exact Heap.lt_size e
  refine call_all_walk (wpAny_pyIter_list p.isList ?_)
  refine ⟨s.heap.objs.size, _, _, _, _, _, fun i => bs.getD i true, rfl, Walks.list (A := X.A.in1) (I.ok.hd hc) _ a (Nat.ne_of_lt hlt) its.toArray, ⟨⟨_, Heap.get?_push_size _ rfl, rfl, rfl⟩, p.isList.push _⟩, ?_, fun h' tk hk => ?_⟩
  · intro i v s' Q' E' hv hq
    have hv : its.toArray[i]? = some v := hv
    have hv' : its[i]? = some v := by simpa using hv
    have hlen : bs.length = its.length := by have := rv.length; simpa using this
    have hi : i < its.length := (List.getElem?_eq_some_iff.mp hv').1
    have hb : (bs.map V.bl)[i]? = some (V.bl (bs.getD i true)) := by
      rw [List.getElem?_map, List.getD_eq_getElem?_getD, List.getElem?_eq_getElem (by omega)]
      rfl
    obtain ⟨u, hu, ru⟩ := rv.get hb
    rw [hv'] at hu
    cases hu
    cases ru
    exact wpAny_truthy_bool hq
  · have hlen : its.toArray.size = bs.length := by have := rv.length; simp at this ⊢; omega
    have e : (List.range its.toArray.size).all (fun i => bs.getD i true) = bs.all id := by
      rw [hlen, Bool.eq_iff_iff, List.all_eq_true, List.all_eq_true]
      constructor
      · intro h b hb
        obtain ⟨i, hi, e⟩ := List.mem_iff_getElem.mp hb
        have := h i (List.mem_range.mpr hi)
        rw [List.getD_eq_getElem?_getD, List.getElem?_eq_getElem hi, e] at this
        exact this
      · intro h i hi
        have hi := List.mem_range.mp hi
        rw [List.getD_eq_getElem?_getD, List.getElem?_eq_getElem hi]
        exact h _ (List.getElem_mem hi)
    refine ⟨.bl (bs.all id), H, I.kept (h' := h') (t' := tk) (fun b o eb => hk b o ?_ (Heap.get?_push_of_some _ eb)), by rw [e]; rfl, q⟩
    intro z
    have : b = s.heap.objs.size := by simpa using z
    exact absurd (Heap.lt_size eb) (by rw [this]; exact Nat.lt_irrefl _)

theorem call_isinst : CallR X (.builtin "isinstance") (fun xs H Q => ∃ x n t b, xs = [x, .ty n] ∧ TyOf X.K H x t ∧ PySem.W.kitOne X.K t (.type n) = some b ∧ Q (.bl b) H) := by
  intro pins s σ H xs us Q I r h
  obtain ⟨x, n, t, b, rfl, ty, e, q⟩ := h
  obtain ⟨u, w', rfl, ru, rw'⟩ := vals2 r
  cases rw'
  exact isinst_ok I ru ty e fun tk => ⟨.bl b, H, I.tok _, rfl, q⟩
/-- a built-in function with one keyword, a constant -/
def CallK (X : Cx) (f : Value) (kw : Str) (r : List V → V → Hp → VK → Prop) : Prop :=
  ∀ (pins : List (Addr × Obj)) (s : Shared) (σ : St) (H : Hp) (xs : List V) (us : List Value) (k : V) (ku : Value) (Q : VK), Inv X pins σ H s → Vals xs us → RelV k ku → r xs k H Q →
    wpAny (model X.prog X.w) X.A (call f us [(kw, ku)]) (EP X pins σ Q) X.xe s
end
/-! isinstance of built-in kinds -/
section
variable {K : PySem.W.Frag}
theorem ii_same (n : String) : PySem.W.kitOne K (.type n) (.type n) = some true := by unfold PySem.W.kitOne; simp
end
end L2

end
section
set_option Elab.async false
set_option linter.all false
set_option maxRecDepth 100000
set_option maxHeartbeats 4000000
/-! THE FRAME of our proofs: a def by its name, heaps without some addresses, data as trees. -/
namespace L2
open PySem PySem.Spec PyProof.Rows

/-- a def of the text under its own name -/
def Has (K : PySem.W.Frag) (mg : Str → Option Value) (x : Str) (st : Stmt) : Prop := ∃ f fd, Fun K x x st f fd ∧ mg x = some (.ref f)
/-- .. and what it promises -/
def Fn (P : Program) (w : World) (K : PySem.W.Frag) (mg : Str → Option Value) (base : Heap) (x : Str) (ps : List Str) (k : Nat) (sp : Sp) : Prop :=
  ∃ f fd, mg x = some (.ref f) ∧ PySem.W.keepIn K (.ref f) = true ∧ Binds K fd ps [] ∧ FnOk P w K mg base CX0 k f fd ps sp
theorem Fn.imp {P : Program} {w : World} {K : PySem.W.Frag} {mg : Str → Option Value} {base : Heap} {x : Str} {ps : List Str} {k : Nat} {sp sp' : Sp} (F : Fn P w K mg base x ps k sp) (h : ∀ vs H Q E, sp' vs H Q E → sp vs H Q E) : Fn P w K mg base x ps k sp' :=
  let ⟨f, fd, a, b, c, d⟩ := F; ⟨f, fd, a, b, c, d.imp h⟩
section
variable {P : Program} {w : World} {K : PySem.W.Frag} {mg : Str → Option Value} {base : Heap}
theorem Has.fn {x : Str} {st : Stmt} {N ps : List Str} {k : Nat} {sp : Sp} (h : Has K mg x st) (S : FnScope N ps (defScope st))
    (hb : ∀ (kV doc pm : Value) (an : Option Addr) (cdv ct : Value) (us : List Value), us.length = ps.length → bindArgs (PySem.W.fnOf x x (defArgs st) (defBody st) (defScope st) .none kV doc pm an cdv ct) ⟨us, []⟩ = pure (ps.zip us))
    (len : ∀ vs H Q E, sp vs H Q E → vs.length = ps.length)
    (hbody : ∀ (f : Addr) (cdv : Value) (A : Around) (outer : List Env) (s : Shared) (H : Hp) (vs : List V) (Q : VK) (E : XK), Room k (A.deeper (envOfC x (defScope st) s.heap.objs.size f cdv)) → sp vs H Q E →
      ∃ t, PSs (cxOf CX0 P w K mg base N x (defScope st) f cdv A outer s H E).nox (defBody st) t ∧ t { nx := fun _ H' => Q .non H', rt := Q } (start N vs) H) : Fn P w K mg base x ps (k + 1) sp := by
  obtain ⟨f, fd, F, hm⟩ := h
  exact ⟨f, fd, hm, F.kp, F.binds hb, F.ok S len fun cdv A outer s H vs Q E hr q => hbody f cdv A outer s H vs Q E hr q⟩
theorem has_mk {h : Heap} {x : Str} {st : Stmt} {f : Addr} {oc : Value} {od an : Option Addr} {osl : Array (Option Value)} {kV doc pm cdv ct : Value} (KX : K.In h) (G : h.Ns mainGlobals mg)
    (a : PySem.W.nsIn K mainGlobals x = some (some (.ref f))) (l : K.lookup f = some ⟨oc, od, .func (PySem.W.fnOf x x (defArgs st) (defBody st) (defScope st) .none kV doc pm an cdv ct), osl⟩)
    (c : PySem.W.codeIn K cdv x = true) (k : PySem.W.keepIn K (.ref f) = true) : Has K mg x st := ⟨f, _, fun_mk l c k, PySem.W.mg_of KX G a⟩
end
/-- a call of a def -/
def tFn (sp : Sp) (t : TA) : TE := fun σ H Q => t σ H fun vs H1 => sp vs H1 Q E0
section
variable {X : Cx}
theorem pe_fn {k : Nat} {ps : List Str} {sp : Sp} {x : Str} {p pos : Pos} {e : Expr} {es : List Expr} {t : TA} (F : Fn X.prog X.w X.K X.mg X.base x ps k sp) (hr : Room k X.A) (hg : Gl X x) (ha : PA X (e :: es) t)
    (hdb : (x == ("__debug__" : Str)) = false := by decide) (he : starEach (e :: es) X.env = (false, eval e X.env) :: starEach es X.env := by rfl) (hpl : (backTo pos (starEach es X.env)).any (·.1) = false := by rfl) :
    PE X (.Call (.Name x p) (e :: es) [] pos) (tFn sp t) := by
  obtain ⟨f, fd, hm, hk, hb, G⟩ := F
  intro pins s σ H Q I h
  refine pe_call G hr hg hm hk hb .nil pass0 ha hdb he hpl pins s σ H Q I ?_
  have e : tCall sp [] E0 t = tFn sp t := by
    unfold tCall tFn
    simp only [List.append_nil]
  rw [e]
  exact h
theorem op_neg : UnR X (unaryOp .USub) (rU fun i => .int (-i)) := by
  intro pins s σ H x v Q I rx h
  obtain ⟨i, rfl, q⟩ := h
  obtain ⟨t, rfl⟩ := rx
  exact neg_int ⟨.int (-i), H, I.tok _, ⟨_, rfl⟩, q⟩
end
theorem b_len : bootBuiltins "len" = some (.builtin "len") := by decide +kernel
theorem b_max : bootBuiltins "max" = some (.builtin "max") := by decide +kernel
theorem b_all : bootBuiltins "all" = some (.builtin "all") := by decide +kernel
theorem b_sorted : bootBuiltins "sorted" = some (.builtin "sorted") := by decide +kernel
theorem b_isinstance : bootBuiltins "isinstance" = some (.builtin "isinstance") := by decide +kernel
theorem b_list : bootBuiltins "list" = some (.type "list") := by decide +kernel
theorem b_bool : bootBuiltins "bool" = some (.type "bool") := by decide +kernel
theorem b_int : bootBuiltins "int" = some (.type "int") := by decide +kernel
theorem b_str : bootBuiltins "str" = some (.type "str") := by decide +kernel
theorem b_tuple : bootBuiltins "tuple" = some (.type "tuple") := by decide +kernel

/-! ### the heap without some addresses -/
/-- all but s is as it was -/
def SameX (s : Addr) (H H' : Hp) : Prop := ∀ b o, b ≠ s → H b = some o → H' b = some o
theorem SameX.refl {s : Addr} {H : Hp} : SameX s H H := fun _ _ _ e => e
theorem SameX.trans {s : Addr} {H H1 H2 : Hp} (a : SameX s H H1) (b : SameX s H1 H2) : SameX s H H2 := fun c o n e => b c o n (a c o n e)
theorem SameX.upd {s : Addr} {H : Hp} {o : HO} : SameX s H (upd H s o) := fun b _ n e => by rw [upd_ne n]; exact e
theorem SameX.new {s l : Addr} {H : Hp} {o : HO} (h : H l = none) : SameX s H (L2.upd H l o) := fun b _ _ e => by rw [upd_ne (ne_of_none e h)]; exact e
theorem Same.new {l : Addr} {H : Hp} {o : HO} (h : H l = none) : Same H (L2.upd H l o) := fun b _ e => by rw [upd_ne (ne_of_none e h)]; exact e
theorem Same.x {s : Addr} {H H' : Hp} (h : Same H H') : SameX s H H' := fun b o _ e => h b o e
/-- the source of the draws, at s, its cells at la -/
def SrcAt (H : Hp) (s la : Addr) : Prop := ∃ (ns : List Int) (i big st cnt : Int), H s = some (.lst [.ref la, .int i, .int big, .int st, .int cnt]) ∧ H la = some (.lst (ns.map V.int)) ∧ 0 ≤ i ∧ la ≠ s
theorem SrcAt.keep {H H' : Hp} {s la : Addr} (h : SrcAt H s la) (k : Same H H') : SrcAt H' s la := by
  obtain ⟨ns, i, big, st, cnt, h1, h2, h3, h4⟩ := h
  exact ⟨ns, i, big, st, cnt, k _ _ h1, k _ _ h2, h3, h4⟩
theorem SrcAt.keepX {H H' : Hp} {s la l : Addr} (h : SrcAt H s la) (k : SameX l H H') (n1 : l ≠ s) (n2 : l ≠ la) : SrcAt H' s la := by
  obtain ⟨ns, i, big, st, cnt, h1, h2, h3, h4⟩ := h
  exact ⟨ns, i, big, st, cnt, k _ _ n1.symm h1, k _ _ n2.symm h2, h3, h4⟩
theorem SrcAt.ne {H : Hp} {s la l : Addr} (h : SrcAt H s la) (hl : H l = none) : l ≠ s ∧ l ≠ la := by
  obtain ⟨ns, i, big, st, cnt, h1, h2, h3, h4⟩ := h
  exact ⟨(ne_of_none h1 hl).symm, (ne_of_none h2 hl).symm⟩
end L2
namespace L2
open PySem PySem.Spec PyProof.Rows
theorem iteD {c A B : Prop} [Decidable c] (h1 : c → A) (h2 : ¬ c → B) : if decide c = true then A else B := by
  by_cases h : c
  · rw [if_pos (decide_eq_true h)]; exact h1 h
  · rw [if_neg (by rw [decide_eq_false h]; exact Bool.false_ne_true)]; exact h2 h
theorem iteND {c A B : Prop} [Decidable c] (h1 : ¬ c → A) (h2 : c → B) : if (!decide c) = true then A else B := by
  by_cases h : c
  · rw [if_neg (by rw [decide_eq_true h]; exact Bool.false_ne_true)]; exact h2 h
  · rw [if_pos (by rw [decide_eq_false h]; rfl)]; exact h1 h
theorem iteB {b : Bool} {A B : Prop} (h1 : b = true → A) (h2 : b = false → B) : if b = true then A else B := by
  cases b
  · rw [if_neg Bool.false_ne_true]; exact h2 rfl
  · rw [if_pos rfl]; exact h1 rfl
theorem iteNB {b : Bool} {A B : Prop} (h1 : b = false → A) (h2 : b = true → B) : if (!b) = true then A else B := by
  cases b
  · exact h1 rfl
  · exact h2 rfl
theorem at_ints {ns : List Int} {i : Int} (h0 : 0 ≤ i) (h1 : i < (ns.map V.int).length) : atI (ns.map V.int) i = some (.int (ns.getD i.toNat 0)) := by
  obtain ⟨j, rfl⟩ := Int.eq_ofNat_of_zero_le h0
  rw [List.length_map] at h1
  refine atI_nat ?_
  rw [List.getElem?_map, Int.toNat_natCast, List.getD_eq_getElem?_getD, List.getElem?_eq_getElem (by omega)]
  rfl
end L2
/-! ### names, their kinds told ahead (so that nothing is looked up while a term is built) -/
namespace L2
open PySem PySem.Spec PyProof.Rows
def Nm (sc : Scope) (x : Str) (k : NameKind) : Prop := sc.names.lookup x = some k ∧ (x == ("__debug__" : Str)) = false ∧ (x == ("__classdict__" : Str)) = false ∧ x ≠ "__name__"
instance (sc : Scope) (x : Str) (k : NameKind) : Decidable (Nm sc x k) := by unfold Nm; exact inferInstance
section
variable {X : Cx} {x : Str} {pos : Pos}
theorem pvN (i : Nat) (n : Nm X.env.scope x .local) (hN : X.N[i]? = some x := by rfl) : PE X (.Name x pos) (tVar i) := pe_var hN (.inl n.1) n.2.1 n.2.2.1
theorem pvC (i : Nat) (n : Nm X.env.scope x .cell) (hN : X.N[i]? = some x := by rfl) : PE X (.Name x pos) (tVar i) := pe_var hN (.inr (.inl n.1)) n.2.1 n.2.2.1
theorem pe_globN {v : V} {u : Value} (n : Nm X.env.scope x .globalImplicit) (hm : X.mg x = some u) (r : RelV v u) : PE X (.Name x pos) (tC v) := pe_glob n.1 hm r n.2.1
theorem pe_bltnN {v : V} {u : Value} (n : Nm X.env.scope x .globalImplicit) (hm : X.mg x = none) (hv : bootBuiltins x = some u) (r : RelV v u) : PE X (.Name x pos) (tC v) := pe_bltn n.1 hm hv r n.2.2.2 n.2.1
theorem pe_fnN {k : Nat} {ps : List Str} {sp : Sp} {p : Pos} {e : Expr} {es : List Expr} {t : TA} (F : Fn X.prog X.w X.K X.mg X.base x ps k sp) (hr : Room k X.A) (n : Nm X.env.scope x .globalImplicit) (ha : PA X (e :: es) t)
    (he : starEach (e :: es) X.env = (false, eval e X.env) :: starEach es X.env := by rfl) (hpl : (backTo pos (starEach es X.env)).any (·.1) = false := by rfl) :
    PE X (.Call (.Name x p) (e :: es) [] pos) (tFn sp t) := pe_fn F hr n.1 ha n.2.1 he hpl
theorem pe_callBN {p : Pos} {e : Expr} {es : List Expr} {t : TA} {id : String} {r : List V → Hp → VK → Prop} (hc : CallR X (.builtin id) r) (n : Nm X.env.scope x .globalImplicit) (hm : X.mg x = none) (hv : bootBuiltins x = some (.builtin id)) (ha : PA X (e :: es) t)
    (he : starEach (e :: es) X.env = (false, eval e X.env) :: starEach es X.env := by rfl) (hpl : (backTo pos (starEach es X.env)).any (·.1) = false := by rfl) : PE X (.Call (.Name x p) (e :: es) [] pos) (tCB r t) := pe_callB hc n.1 hm hv ha n.2.2.2 n.2.1 he hpl
theorem pe_callTyN {p : Pos} {e : Expr} {es : List Expr} {t : TA} {T : String} {r : List V → Hp → VK → Prop} (hc : CallR X (.type T) r) (n : Nm X.env.scope x .globalImplicit) (hm : X.mg x = none) (hv : bootBuiltins x = some (.type T)) (ha : PA X (e :: es) t)
    (he : starEach (e :: es) X.env = (false, eval e X.env) :: starEach es X.env := by rfl) (hpl : (backTo pos (starEach es X.env)).any (·.1) = false := by rfl) : PE X (.Call (.Name x p) (e :: es) [] pos) (tCB r t) := pe_callTy hc n.1 hm hv ha n.2.2.2 n.2.1 he hpl
theorem ps_setN {i : Nat} {e : Expr} {te : TE} {pos' : Pos} (hN : X.N.Nodup) (n : Nm X.env.scope x .local) (he : PE X e te) (hi : X.N[i]? = some x := by rfl) (hs : swapsWith e (some (.Name x pos')) pos.line X.env = pure false := by rfl) :
    PS X (.Assign [.Name x pos'] e pos) (tAsg te (gName i)) := ps_set hN hi (.inl n.1) he hs (.inr n.1)
theorem ps_setNC {i : Nat} {e : Expr} {te : TE} {pos' : Pos} (hN : X.N.Nodup) (n : Nm X.env.scope x .cell) (he : PE X e te) (hf : X.fn x = true := by rfl) (hi : X.N[i]? = some x := by rfl) (hs : swapsWith e (some (.Name x pos')) pos.line X.env = pure false := by rfl) :
    PS X (.Assign [.Name x pos'] e pos) (tAsg te (gName i)) := ps_set hN hi (.inr n.1) he hs (.inl hf)
theorem pg_nameN {i : Nat} (hN : X.N.Nodup) (n : Nm X.env.scope x .local) (hi : X.N[i]? = some x := by rfl) : PG X (.Name x pos) (gName i) := pg_name hN hi (.inl n.1) (.inr n.1)
theorem pg_nameNC {i : Nat} (hN : X.N.Nodup) (n : Nm X.env.scope x .cell) (hf : X.fn x = true := by rfl) (hi : X.N[i]? = some x := by rfl) : PG X (.Name x pos) (gName i) := pg_name hN hi (.inr n.1) (.inl hf)
end
section
variable {X : Cx} {scope : Scope} {cl : List (Str × Addr)} {C : Addr} {N' : List Str} {s0 : Shared} {H0 : Hp} {ex : List Addr} {pn : List (Addr × Obj)} {x : Str} {pos : Pos}
theorem pvLN (i : Nat) (n : Nm scope x .local := by decide +kernel) (hN : N'[i]? = some x := by rfl) : PE (ccx X scope cl C N' s0 H0 ex pn) (.Name x pos) (tVar i) := pvL i hN n.1 n.2.1 n.2.2.1
theorem pvFN (i : Nat) (n : Nm scope x .free := by decide +kernel) (hN : N'[i]? = some x := by rfl) : PE (ccx X scope cl C N' s0 H0 ex pn) (.Name x pos) (tVar i) := pvF i hN n.1 n.2.1 n.2.2.1
theorem pgLN (i : Nat) (hnd : N'.Nodup) (n : Nm scope x .local := by decide +kernel) (hN : N'[i]? = some x := by rfl) : PG (ccx X scope cl C N' s0 H0 ex pn) (.Name x pos) (gName i) := pgL i hnd hN n.1
/-- a global name within a block -/
theorem nmC (n : Nm scope x .globalImplicit := by decide +kernel) : Nm (ccx X scope cl C N' s0 H0 ex pn).env.scope x .globalImplicit := ⟨lookup_relabel (by decide) n.1, n.2⟩
theorem FrOk.consN {j : Nat} {fr : List (Str × Nat)} (n : Nm X.env.scope x .cell) (t : FrOk X scope fr) (m : Nm scope x .free := by decide +kernel) (h1 : X.N[j]? = some x := by rfl) : FrOk X scope ((x, j) :: fr) := .cons h1 (.inl n.1) m.1 t
end
end L2

end
section
set_option Elab.async false
set_option linter.all false
set_option maxRecDepth 100000
set_option maxHeartbeats 4000000
/-! TEXTS as lists of codes; comprehensions by an invariant. -/
namespace L2
open PySem PySem.Spec PyProof.Rows

/-- the codes of a text -/
def cs (x : Str) : List Nat := x.cps.toList
theorem cs_len (x : Str) : (cs x).length = x.length := by unfold cs; exact Array.length_toList
theorem cs_app (x y : Str) : cs (x ++ y) = cs x ++ cs y := by unfold cs; rw [PySem.Str.cps_append, Array.toList_append]
theorem cs_mk (l : List Nat) : cs ⟨l.toArray⟩ = l := by unfold cs; simp
theorem pick_range (xs : List Nat) (lo : Nat) : ∀ m, lo + m ≤ xs.length → ((List.range m).map (lo + ·)).filterMap (xs[·]?) = (xs.drop lo).take m := by
  intro m
  induction m with
  | zero => intro _; simp
  | succ m ih =>
    intro h
    rw [List.range_succ, List.map_append, List.filterMap_append, ih (by omega), List.take_add_one, List.getElem?_drop]
    have : lo + m < xs.length := by omega
    simp [List.getElem?_eq_getElem this]
theorem cs_upto (x : Str) {i : Int} (h : 0 ≤ i) : cs (Txt.slice x none (some i)) = (cs x).take i.toNat := by
  have hl := cs_len x
  have e : Builtin.Str.strSliceIndices none (some i) 1 x.length = (List.range (min i.toNat x.length)).map (0 + ·) := by
    unfold Builtin.Str.strSliceIndices sliceRange
    simp only [show (1 : Int) > 0 by decide, if_true]
    have e1 : (if i < 0 then i + (x.length : Int) else i) = i := if_neg (by omega)
    rw [e1]
    have e2 : (if (0 : Int) < max 0 (min i (x.length : Int)) then (max 0 (min i (x.length : Int)) - 0 + 1 - 1) / 1 else 0).toNat = min i.toNat x.length := by
      split <;> (try simp only [Int.ediv_one]) <;> omega
    rw [e2]
    apply List.map_congr_left
    intro k _
    omega
  unfold Txt.slice
  rw [e]
  split
  · rename_i hc
    have hc : ((List.range (min i.toNat x.length)).map (0 + ·)).length = x.length := by simpa using hc
    rw [List.length_map, List.length_range] at hc
    rw [List.take_of_length_le (by omega)]
  · rw [cs_mk]
    have := pick_range (cs x) 0 (min i.toNat x.length) (by omega)
    rw [List.drop_zero] at this
    have e3 : (cs x).take (min i.toNat x.length) = (cs x).take i.toNat := by
      rw [← hl]
      by_cases h1 : i.toNat ≤ (cs x).length
      · rw [Nat.min_eq_left h1]
      · rw [Nat.min_eq_right (by omega), List.take_of_length_le (by omega), List.take_of_length_le (by omega)]
    rw [← e3, ← this]
    congr 1
    funext k
    unfold cs
    simp
theorem cs_from (x : Str) {i : Int} (h : 0 ≤ i) : cs (Txt.slice x (some i) none) = (cs x).drop i.toNat := by
  have hl := cs_len x
  have e : Builtin.Str.strSliceIndices (some i) none 1 x.length = (List.range (x.length - min i.toNat x.length)).map (min i.toNat x.length + ·) := by
    unfold Builtin.Str.strSliceIndices sliceRange
    simp only [show (1 : Int) > 0 by decide, if_true]
    have e1 : (if i < 0 then i + (x.length : Int) else i) = i := if_neg (by omega)
    rw [e1]
    have e2 : (if max 0 (min i (x.length : Int)) < (x.length : Int) then ((x.length : Int) - max 0 (min i (x.length : Int)) + 1 - 1) / 1 else 0).toNat = x.length - min i.toNat x.length := by
      split <;> (try simp only [Int.ediv_one]) <;> omega
    rw [e2]
    apply List.map_congr_left
    intro k _
    omega
  unfold Txt.slice
  rw [e]
  split
  · rename_i hc
    have hc : ((List.range (x.length - min i.toNat x.length)).map (min i.toNat x.length + ·)).length = x.length := by simpa using hc
    rw [List.length_map, List.length_range] at hc
    by_cases h0 : i.toNat = 0
    · rw [h0, List.drop_zero]
    · have : x.length = 0 := by omega
      rw [List.drop_of_length_le (by omega)]
      exact List.length_eq_zero_iff.mp (by omega)
  · rw [cs_mk]
    have := pick_range (cs x) (min i.toNat x.length) (x.length - min i.toNat x.length) (by omega)
    have e3 : ((cs x).drop (min i.toNat x.length)).take (x.length - min i.toNat x.length) = (cs x).drop i.toNat := by
      rw [List.take_of_length_le (by rw [List.length_drop]; omega)]
      by_cases h1 : i.toNat ≤ x.length
      · rw [Nat.min_eq_left h1]
      · rw [Nat.min_eq_right (by omega), List.drop_of_length_le (by omega), List.drop_of_length_le (by omega)]
    rw [← e3, ← this]
    congr 1
    funext k
    unfold cs
    simp
theorem cs_join0 : ∀ ys : List Str, cs (Txt.join "" ys) = (ys.map cs).flatten := by
  have go : ∀ (ys : List Str) (a : Array Nat), (ys.foldl (fun acc p => acc ++ (("" : Str)).cps ++ p.cps) a).toList = a.toList ++ (ys.map cs).flatten := by
    intro ys
    induction ys with
    | nil => intro a; simp
    | cons y r ih =>
      intro a
      rw [List.foldl_cons, ih]
      have : (("" : Str)).cps = #[] := by decide +kernel
      rw [this]
      simp [cs]
  intro ys
  show (cs (Builtin.Str.glued "" ys)) = _
  unfold Builtin.Str.glued
  cases ys with
  | nil => decide +kernel
  | cons y r =>
    show (List.foldl _ y.cps r).toList = _
    rw [go]
    rfl
/-- only small letters -/
def Low (x : Str) : Prop := ∀ c ∈ cs x, 97 ≤ c ∧ c ≤ 122
def letters : Str := "abcdefghijklmnopqrstuvwxyz"
theorem letters_cs : cs letters = (List.range 26).map (97 + ·) := by decide +kernel
theorem letters_at {d : Int} (h0 : 0 ≤ d) (h1 : d < 26) : atI letters.cps.toList d = some (97 + d.toNat) := by
  obtain ⟨j, rfl⟩ := Int.eq_ofNat_of_zero_le h0
  refine atI_nat ?_
  show (cs letters)[j]? = _
  rw [letters_cs, List.getElem?_map, List.getElem?_range (by omega)]
  rfl

/-! ### comprehensions by an invariant -/
/-- behind k of the items xs (as the iterator yields them) -/
theorem comp_by {J : It} {nl : Nat} {fv : St} {g : TG} {tt : TTs} {te : TE} {Q : VK} {H : Hp} {xs : List V} (Pv : Nat → List V → Hp → Prop) (h0 : Pv 0 [] H) (hn : xs.length ≤ 1000000)
    (hgo : ∀ i H ys, i < xs.length → Pv i ys H → J.go i H) (hy : ∀ i H x H' ys, i < xs.length → Pv i ys H → J.yld i H x H' → H' = H ∧ xs[i]? = some x) (hst : ∀ H ys, Pv xs.length ys H → J.stop xs.length H)
    (hlen : ∀ i ys H, Pv i ys H → ys.length ≤ i)
    (step : ∀ i x ys H, xs[i]? = some x → Pv i ys H → tTurn nl fv g tt te x H (fun y H' => Pv (i + 1) (ys ++ [y]) H') fun H' => Pv (i + 1) ys H')
    (hd : ∀ ys H, Pv xs.length ys H → ∀ l, H l = none → Q (.ref l) (upd H l (.lst ys))) :
    tCompW J nl fv g tt te Q H := by
  have mono : ∀ {x : V} {H : Hp} {Y Y' : V → Hp → Prop} {N N' : Hp → Prop}, tTurn nl fv g tt te x H Y N → Y = Y' → N = N' → tTurn nl fv g tt te x H Y' N' := fun h e1 e2 => by subst e1; subst e2; exact h
  refine ⟨fun i m ys H => m = xs.length - i ∧ i ≤ xs.length ∧ Pv i ys H, ⟨xs.length, by simp, Nat.zero_le _, h0⟩, ?_⟩
  rintro i m ys H ⟨rfl, hi, p⟩
  have hl := hlen i ys H p
  have hz : (1000000 : Nat) < sizeLine := by decide
  by_cases hlt : i < xs.length
  · refine .inr ⟨hgo i H ys hlt p, by omega, xs.length - (i + 1), by omega, fun x H' y => ?_⟩
    obtain ⟨e, ex⟩ := hy i H x H' ys hlt p y
    subst e
    refine mono (step i x ys _ ex p) ?_ ?_
    · funext y H4
      apply propext
      exact ⟨fun q => ⟨rfl, hlt, q⟩, fun q => q.2.2⟩
    · funext H3
      apply propext
      exact ⟨fun q => ⟨rfl, hlt, q⟩, fun q => q.2.2⟩
  · have e : i = xs.length := by omega
    subst e
    exact .inl ⟨hst H ys p, by omega, hd ys H p⟩
/-- the ints of a range -/
def rngV (lo : Int) (n : Nat) : List V := (List.range n).map fun k => V.int (lo + (k : Nat))
theorem rngV_len (lo : Int) (n : Nat) : (rngV lo n).length = n := by simp [rngV]
theorem rngV_get {lo : Int} {n i : Nat} {x : V} (h : (rngV lo n)[i]? = some x) : i < n ∧ x = .int (lo + (i : Nat)) := by
  have hi : i < n := by have := (List.getElem?_eq_some_iff.mp h).1; rwa [rngV_len] at this
  refine ⟨hi, ?_⟩
  unfold rngV at h
  rw [List.getElem?_map, List.getElem?_range hi] at h
  exact (Option.some.inj h).symm
theorem comp_range {lo : Int} {n : Nat} {nl : Nat} {fv : St} {g : TG} {tt : TTs} {te : TE} {Q : VK} {H : Hp} (Pv : Nat → List V → Hp → Prop) (h0 : Pv 0 [] H) (hn : n ≤ 1000000)
    (hlen : ∀ i ys H, Pv i ys H → ys.length ≤ i)
    (step : ∀ i ys H, i < n → Pv i ys H → tTurn nl fv g tt te (.int (lo + (i : Nat))) H (fun y H' => Pv (i + 1) (ys ++ [y]) H') fun H' => Pv (i + 1) ys H')
    (hd : ∀ ys H, Pv n ys H → ∀ l, H l = none → Q (.ref l) (upd H l (.lst ys))) :
    tCompW (Itr lo n) nl fv g tt te Q H := by
  refine comp_by (xs := rngV lo n) Pv h0 (by rw [rngV_len]; exact hn) ?_ ?_ ?_ hlen ?_ ?_
  · intro i H ys hi _
    rw [rngV_len] at hi
    exact hi
  · rintro i H x H' ys hi _ ⟨rfl, rfl⟩
    rw [rngV_len] at hi
    refine ⟨rfl, ?_⟩
    unfold rngV
    rw [List.getElem?_map, List.getElem?_range hi]
    rfl
  · intro H ys _
    rw [rngV_len]
    exact Nat.le_refl _
  · intro i x ys H hx p
    obtain ⟨hi, rfl⟩ := rngV_get hx
    exact step i ys H hi p
  · intro ys H p
    rw [rngV_len] at p
    exact hd ys H p
theorem comp_list {K : PySem.W.Frag} {a : Addr} {xs : List V} {nl : Nat} {fv : St} {g : TG} {tt : TTs} {te : TE} {Q : VK} {H : Hp} (Pv : Nat → List V → Hp → Prop) (h0 : Pv 0 [] H) (hn : xs.length ≤ 1000000)
    (hl : ∀ i ys H, i ≤ xs.length → Pv i ys H → SqL K H a xs)
    (hlen : ∀ i ys H, Pv i ys H → ys.length ≤ i)
    (step : ∀ i x ys H, xs[i]? = some x → Pv i ys H → tTurn nl fv g tt te x H (fun y H' => Pv (i + 1) (ys ++ [y]) H') fun H' => Pv (i + 1) ys H')
    (hd : ∀ ys H, Pv xs.length ys H → ∀ l, H l = none → Q (.ref l) (upd H l (.lst ys))) :
    tCompW (Itl K a) nl fv g tt te Q H := by
  refine comp_by (xs := xs) Pv h0 hn ?_ ?_ ?_ hlen step hd
  · intro i H ys hi p
    exact ⟨xs, xs[i], hl i ys H (Nat.le_of_lt hi) p, by simp [hi]⟩
  · rintro i H x H' ys hi p ⟨rfl, y⟩
    exact ⟨rfl, y xs (hl i ys _ (Nat.le_of_lt hi) p)⟩
  · intro H ys p
    exact ⟨xs, hl _ ys H (Nat.le_refl _) p, Nat.le_refl _⟩
theorem comp_str {x : Str} {nl : Nat} {fv : St} {g : TG} {tt : TTs} {te : TE} {Q : VK} {H : Hp} (Pv : Nat → List V → Hp → Prop) (h0 : Pv 0 [] H) (hn : x.length ≤ 1000000)
    (hlen : ∀ i ys H, Pv i ys H → ys.length ≤ i)
    (step : ∀ i ys H, i < x.length → Pv i ys H → tTurn nl fv g tt te (sgn x i) H (fun y H' => Pv (i + 1) (ys ++ [y]) H') fun H' => Pv (i + 1) ys H')
    (hd : ∀ ys H, Pv x.length ys H → ∀ l, H l = none → Q (.ref l) (upd H l (.lst ys))) :
    tCompW (Its x) nl fv g tt te Q H := by
  have ln : ((List.range x.length).map fun i => sgn x i).length = x.length := by simp
  refine comp_by (xs := (List.range x.length).map fun i => sgn x i) Pv h0 (by rw [ln]; exact hn) ?_ ?_ ?_ hlen ?_ ?_
  · intro i H ys hi _
    rw [ln] at hi
    exact hi
  · rintro i H v H' ys hi _ ⟨rfl, rfl⟩
    rw [ln] at hi
    refine ⟨rfl, ?_⟩
    rw [List.getElem?_map, List.getElem?_range hi]
    rfl
  · intro H ys _
    rw [ln]
    exact rfl
  · intro i v ys H hx p
    have hi : i < x.length := by have := (List.getElem?_eq_some_iff.mp hx).1; rwa [ln] at this
    rw [List.getElem?_map, List.getElem?_range hi] at hx
    cases hx
    exact step i ys H hi p
  · intro ys H p
    rw [ln] at p
    exact hd ys H p
theorem len1 {ls : St} (h : ls.length = 1) : ∃ a, ls = [a] := by
  match ls, h with
  | [a], _ => exact ⟨a, rfl⟩
end L2

end
section
set_option Elab.async false
set_option linter.all false
set_option maxRecDepth 100000
set_option maxHeartbeats 4000000
/-! THE JUDGEMENTS as structures: so that a term of rules is elaborated without a look into the semantics. -/
namespace L2
open PySem PySem.Spec PyProof.Rows
structure QE (X : Cx) (e : Expr) (t : TE) : Prop where
  h : PE X e t
structure QT (X : Cx) (e : Expr) (t : TT) : Prop where
  h : PT X e t
structure QW (X : Cx) (e : Expr) (t : TT) : Prop where
  h : PW X e t
structure QS (X : Cx) (s : Stmt) (t : TS) : Prop where
  h : PS X s t
structure QSs (X : Cx) (s : List Stmt) (t : TS) : Prop where
  h : PSs X s t
structure QA (X : Cx) (es : List Expr) (t : TA) : Prop where
  h : PA X es t
structure QG (X : Cx) (e : Expr) (t : TG) : Prop where
  h : PG X e t
structure QGs (X : Cx) (es : List Expr) (t : TGs) : Prop where
  h : PGs X es t
structure QI (X : Cx) (tg iter : Expr) (t : TI) : Prop where
  h : PI X tg iter t
structure QO (X : Cx) (e : Option Expr) (t : TO) : Prop where
  h : PO X e t
structure QTs (X : Cx) (es : List Expr) (t : TTs) : Prop where
  h : PTs X es t
structure QOp (X : Cx) (f : Value → Value → Sem Value) (r : R2) : Prop where
  h : OpR X f r
structure QUn (X : Cx) (f : Value → Sem Value) (r : V → Hp → VK → Prop) : Prop where
  h : UnR X f r
structure QC (X : Cx) (f : Value) (r : List V → Hp → VK → Prop) : Prop where
  h : CallR X f r
structure QCk (X : Cx) (f : Value) (kw : Str) (r : List V → V → Hp → VK → Prop) : Prop where
  h : CallK X f kw r
structure QIx (X : Cx) (r : R2) : Prop where
  h : IxR X r
structure QSl (X : Cx) (r : V → Option Int → Option Int → Hp → VK → Prop) : Prop where
  h : SlR X r
structure QM (X : Cx) (id : String) (r : V → List V → Hp → VK → Prop) : Prop where
  h : MtR X id r
structure QSet (X : Cx) (t : TSet) : Prop where
  h : PSet X t
structure QIp (X : Cx) (op : Operator) (t : TIp) : Prop where
  h : PIp X op t

section
variable {X : Cx} {a b c : Expr} {ta tb tc te : TE} {tA tB' : TT} {pos p p2 pos' : Pos} {st : Stmt} {rest : List Stmt} {t u : TS} {x : Str} {es : List Expr} {e : Expr}
theorem qss_nil : QSs X [] tNext := ⟨pss_nil⟩
theorem qss_cons (h1 : QS X st t) (h2 : QSs X rest u) : QSs X (st :: rest) (tSeq t u) := ⟨pss_cons h1.h h2.h⟩
theorem qss_one (h1 : QS X st t) : QSs X [st] t := ⟨pss_one h1.h⟩
theorem qs_ret (h : QE X e te) : QS X (.Return (some e) pos) (tRet te) := ⟨ps_ret h.h⟩
theorem qs_if {c : Expr} {a b : List Stmt} {tc : TT} (hc : QT X c tc) (ha : QSs X a t) (hb : QSs X b u) : QS X (.If c a b pos) (tIfS tc t u) := ⟨ps_if hc.h ha.h hb.h⟩
theorem qs_expr (he : QE X e te) (hs : swapsWith e none pos.line X.env = pure false := by rfl) : QS X (.Expr e pos) (tDrop te) := ⟨ps_expr he.h hs⟩
theorem qs_setN {i : Nat} (hN : X.N.Nodup) (n : Nm X.env.scope x .local) (he : QE X e te) (hi : X.N[i]? = some x := by rfl) (hs : swapsWith e (some (.Name x pos')) pos.line X.env = pure false := by rfl) :
    QS X (.Assign [.Name x pos'] e pos) (tAsg te (gName i)) := ⟨ps_setN hN n he.h hi hs⟩
theorem qs_setNC {i : Nat} (hN : X.N.Nodup) (n : Nm X.env.scope x .cell) (he : QE X e te) (hf : X.fn x = true := by rfl) (hi : X.N[i]? = some x := by rfl) (hs : swapsWith e (some (.Name x pos')) pos.line X.env = pure false := by rfl) :
    QS X (.Assign [.Name x pos'] e pos) (tAsg te (gName i)) := ⟨ps_setNC hN n he.h hf hi hs⟩
theorem qs_asg {tg : Expr} {g : TG} (he : QE X e te) (hg : QG X tg g) (hs : swapsWithSole [tg] e pos.line X.env = pure false := by rfl) (hw : swappedStores [tg] e X.env = pure none := by rfl)
    (h1 : (assignEach [tg] X.env).map (·.2) = [assign tg X.env] := by rfl) : QS X (.Assign [tg] e pos) (tAsg te g) := ⟨ps_asg he.h hg.h hs hw h1⟩
def tForW (J : It) (g : TG) (tb : TS) (D : Ends) (σ : St) (H1 : Hp) : Prop := ∃ W : Nat → Nat → St → Hp → Prop, (∃ m, W 0 m σ H1) ∧ ∀ i m σ H, W i m σ H →
  (J.stop i H ∧ D.nx σ H) ∨ (J.go i H ∧ ∃ N : St → Hp → Prop, (∀ σ' H', N σ' H' → ∃ m', m' < m ∧ W (i + 1) m' σ' H') ∧ ∀ x H', J.yld i H x H' → g x σ H' fun σ2 H2 => tb { D with nx := N, ct := N, bk := D.nx } σ2 H2)
def tForQ (wi : TI) (g : TG) (tb : TS) : TS := fun D σ H => wi σ H fun J H1 => tForW J g tb D σ H1
theorem qs_for {tg iter : Expr} {body : List Stmt} {wi : TI} {g : TG} (hp : PassesOwn (model X.prog X.w) X.A X.env X.xe) (hc : X.calm = true) (hi : QI X tg iter wi) (hg : QG X tg g) (hb : QSs X body t)
    (hs : ∀ x, foldedSetIterable iter X.env x = pure x := by intro _; rfl) : QS X (.For tg iter body [] pos) (tForQ wi g t) := ⟨ps_for hp hc hi.h hg.h hb.h hs⟩
theorem qs_while {c : Expr} {body : List Stmt} {tc : TT} (hp : PassesOwn (model X.prog X.w) X.A X.env X.xe) (hc : QT X c tc) (hb : QSs X body t) : QS X (.While c body [] pos) (tWhile tc t) := ⟨ps_while hp hc.h hb.h⟩
/-! targets -/
theorem qg_nameN {i : Nat} (hN : X.N.Nodup) (n : Nm X.env.scope x .local) (hi : X.N[i]? = some x := by rfl) : QG X (.Name x pos) (gName i) := ⟨pg_nameN hN n hi⟩
theorem qg_nameNC {i : Nat} (hN : X.N.Nodup) (n : Nm X.env.scope x .cell) (hf : X.fn x = true := by rfl) (hi : X.N[i]? = some x := by rfl) : QG X (.Name x pos) (gName i) := ⟨pg_nameNC hN n hf hi⟩
theorem qgs_nil : QGs X [] gNil := ⟨pgs_nil⟩
theorem qgs_cons {t : TG} {u : TGs} (h1 : QG X e t) (h2 : QGs X es u) (hs : (assignEach (e :: es) X.env).map (·.2) = assign e X.env :: (assignEach es X.env).map (·.2) := by rfl) : QGs X (e :: es) (gCons t u) := ⟨pgs_cons h1.h h2.h hs⟩
theorem qg_tup {k : Nat} {t : TGs} {n : Nat} (hc : X.calm = true) (h : QGs X es t) (hn : (assignEach es X.env).length = n := by rfl) (hst : (assignEach es X.env).findIdx? (·.1) = none := by rfl) : QG X (.Tuple es k pos) (gTup X.K n t) := ⟨pg_tup hc h.h hn hst⟩
theorem qg_sub {o i : Expr} {to ti : TE} {t : TSet} (ho : QE X o to) (hi : QE X i ti) (hs : QSet X t)
    (ha : ∀ v, assign (.Subscript o i pos) X.env v = (do
      let ov ← holding [v] (eval o X.env)
      let iv ← holding [v, ov] (eval i X.env)
      standAt pos
      holding [v, ov, iv] (setItem ov iv v)
      release [v, ov, iv] []) := by intro _; rfl) : QG X (.Subscript o i pos) (gSub to ti t) := ⟨pg_sub ho.h hi.h hs.h ha⟩
theorem qset_list : QSet X rSetL := ⟨set_list⟩
/-! what is walked -/
variable {tg : Expr}
theorem qi_list {l : Expr} (hl : QE X l te) : QI X tg l (iList X.K te) := ⟨pi_list hl.h⟩
theorem qi_str {l : Expr} (hl : QE X l te) : QI X tg l (iStr te) := ⟨pi_str hl.h⟩
theorem qi_range1 {a : Expr} {ta : TA} (hg : Gl X "range") (hm : X.mg "range" = none) (ha : QA X [a] ta) (hs : starEach [a] X.env = [(false, eval a X.env)] := by rfl) : QI X tg (.Call (.Name "range" p) [a] [] pos) (iRng1 ta) := ⟨pi_range1 hg hm ha.h hs⟩
theorem qi_range2 {a b : Expr} {ta : TA} (hg : Gl X "range") (hm : X.mg "range" = none) (ha : QA X [a, b] ta) (hs : starEach [a, b] X.env = [(false, eval a X.env), (false, eval b X.env)] := by rfl) (hs2 : starEach [b] X.env = [(false, eval b X.env)] := by rfl) :
    QI X tg (.Call (.Name "range" p) [a, b] [] pos) (iRng2 ta) := ⟨pi_range2 hg hm ha.h hs hs2⟩
/-! arguments, displays -/
theorem qa_nil : QA X [] tNil := ⟨pa_nil⟩
theorem qa_cons {t : TA} (ha : QE X e te) (hr : QA X es t) (hs : starEach (e :: es) X.env = (false, eval e X.env) :: starEach es X.env := by rfl) : QA X (e :: es) (tCons te t) := ⟨pa_cons ha.h hr.h hs⟩
theorem qe_tup {x1} {t : TA} (h : QA X es t) : QE X (.Tuple es x1 pos) (tTup t) := ⟨pe_tup h.h⟩
theorem qe_lst {t : TA} (h : QA X es t) : QE X (.List es pos) (tLst t) := ⟨pe_lst h.h⟩
/-! tests -/
theorem qt_not (ha : QT X a tA) : QT X (.UnaryOp .Not a pos) (tNot tA) := ⟨pt_not ha.h⟩
theorem QW.pt (h : QW X e tA) : QT X e tA := ⟨PW.pt h.h⟩
theorem qw_and1 (ha : QT X a tA) : QW X (.BoolOp .And [a] pos) tA := ⟨pw_and1 ha.h⟩
theorem qw_or1 (ha : QT X a tA) : QW X (.BoolOp .Or [a] pos) tA := ⟨pw_or1 ha.h⟩
theorem qw_and {rest : List Expr} (ha : QT X a tA) (hb : QW X (.BoolOp .And (b :: rest) pos) tB') : QW X (.BoolOp .And (a :: b :: rest) pos) (tAnd tA tB') := ⟨pw_and ha.h hb.h⟩
theorem qw_or {rest : List Expr} (ha : QT X a tA) (hb : QW X (.BoolOp .Or (b :: rest) pos) tB') : QW X (.BoolOp .Or (a :: b :: rest) pos) (tOr tA tB') := ⟨pw_or ha.h hb.h⟩
theorem qt_cmpR {op : CmpOp} {r : R2} (ho : QOp X (compareOp op) r) (ha : QE X a ta) (hb : QE X b tb) (hm : behindInMarks op b = false) : QT X (.Compare a [op] [b] pos) (tTest (tOp r ta tb)) := ⟨pt_cmpR ho.h ha.h hb.h hm⟩
theorem qe_cmpR {op : CmpOp} {r : R2} (ho : QOp X (compareOp op) r) (ha : QE X a ta) (hb : QE X b tb) (hm : behindInMarks op b = false) : QE X (.Compare a [op] [b] pos) (tOp r ta tb) := ⟨pe_cmpR ho.h ha.h hb.h hm⟩
theorem qe_chain {op op' : CmpOp} {r r' : R2} (ho : QOp X (compareOp op) r) (ho' : QOp X (compareOp op') r') (ha : QE X a ta) (hb : QE X b tb) (hc : QE X c tc)
    (hm : lastMarks [op, op'] [b, c] = false := by with_unfolding_all rfl) : QE X (.Compare a [op, op'] [b, c] pos) (tChain r r' ta tb tc) := ⟨pe_chain ho.h ho'.h ha.h hb.h hc.h hm⟩
theorem qt_chain {op op' : CmpOp} {r r' : R2} (ho : QOp X (compareOp op) r) (ho' : QOp X (compareOp op') r') (ha : QE X a ta) (hb : QE X b tb) (hc : QE X c tc)
    (hm : lastMarks [op, op'] [b, c] = false := by with_unfolding_all rfl) : QT X (.Compare a [op, op'] [b, c] pos) (tTest (tChain r r' ta tb tc)) := ⟨pt_chain ho.h ho'.h ha.h hb.h hc.h hm⟩
theorem qt_val (h : QE X e te) (he : ∀ whole, isTrue e X.env whole = (do let v ← whole; standAt e.pos; holding [v] (truthy v)) := by intro _; rfl) : QT X e (tB te) := ⟨pt_val h.h he⟩
/-! expressions -/
theorem qe_int {i j pos} : QE X (.Constant (.int i) j pos) (tC (.int i)) := ⟨pe_int⟩
theorem qe_bl {b j pos} : QE X (.Constant (.bool b) j pos) (tC (.bl b)) := ⟨pe_bl⟩
theorem qe_non {j pos} : QE X (.Constant .none j pos) (tC .non) := ⟨pe_non⟩
theorem qe_str {x j pos} : QE X (.Constant (.str x) j pos) (tC (.str x)) := ⟨pe_str⟩
theorem qvN (i : Nat) (n : Nm X.env.scope x .local) (hN : X.N[i]? = some x := by rfl) : QE X (.Name x pos) (tVar i) := ⟨pvN i n hN⟩
theorem qvC (i : Nat) (n : Nm X.env.scope x .cell) (hN : X.N[i]? = some x := by rfl) : QE X (.Name x pos) (tVar i) := ⟨pvC i n hN⟩
theorem qe_globN {v : V} {u : Value} (n : Nm X.env.scope x .globalImplicit) (hm : X.mg x = some u) (r : RelV v u) : QE X (.Name x pos) (tC v) := ⟨pe_globN n hm r⟩
theorem qe_bltnN {v : V} {u : Value} (n : Nm X.env.scope x .globalImplicit) (hm : X.mg x = none) (hv : bootBuiltins x = some u) (r : RelV v u) : QE X (.Name x pos) (tC v) := ⟨pe_bltnN n hm hv r⟩
theorem qe_op {op : Operator} {r : R2} (ho : QOp X (binaryOp op) r) (ha : QE X a ta) (hb : QE X b tb) : QE X (.BinOp a op b pos) (tOp r ta tb) := ⟨pe_op ho.h ha.h hb.h⟩
theorem qe_un {op : UnaryOp} {r : V → Hp → VK → Prop} (ho : QUn X (unaryOp op) r) (ha : QE X a ta) : QE X (.UnaryOp op a pos) (tUn r ta) := ⟨pe_un ho.h ha.h⟩
theorem qe_not (ha : QE X a ta) : QE X (.UnaryOp .Not a pos) (tNotV ta) := ⟨pe_not ha.h⟩
theorem qe_one {op} (h : QE X a ta) : QE X (.BoolOp op [a] pos) ta := ⟨pe_one h.h⟩
theorem qe_and {rest : List Expr} (ha : QE X a ta) (hb : QE X (.BoolOp .And (b :: rest) pos) tb) : QE X (.BoolOp .And (a :: b :: rest) pos) (tAndV ta tb) := ⟨pe_and ha.h hb.h⟩
theorem qe_or {rest : List Expr} (ha : QE X a ta) (hb : QE X (.BoolOp .Or (b :: rest) pos) tb) : QE X (.BoolOp .Or (a :: b :: rest) pos) (tOrV ta tb) := ⟨pe_or ha.h hb.h⟩
theorem qe_ifExp (hc : QT X c tA) (ha : QE X a ta) (hb : QE X b tb) : QE X (.IfExp c a b pos) (tIf tA ta tb) := ⟨pe_ifExp hc.h ha.h hb.h⟩
theorem qo_none : QO X none tNoPart := ⟨po_none⟩
theorem qo_some (h : QE X e te) : QO X (some e) (tPart te) := ⟨po_some h.h⟩
theorem qe_slice {lo hi : Option Expr} {tl th : TO} {r : V → Option Int → Option Int → Hp → VK → Prop} (hr : QSl X r) (he : QE X e te) (hl : QO X lo tl) (hu : QO X hi th) : QE X (.Subscript e (.Slice lo hi none p2) pos) (tSl r te tl th) := ⟨pe_slice hr.h he.h hl.h hu.h⟩
theorem qe_ix {r : R2} (hr : QIx X r) (ha : QE X a ta) (hb : QE X b tb) (hs : PlainIx b) : QE X (.Subscript a b pos) (tOp r ta tb) := ⟨pe_ix hr.h ha.h hb.h hs⟩
theorem qe_fnN {k : Nat} {ps : List Str} {sp : Sp} {t : TA} (F : Fn X.prog X.w X.K X.mg X.base x ps k sp) (hr : Room k X.A) (n : Nm X.env.scope x .globalImplicit) (ha : QA X (e :: es) t)
    (he : starEach (e :: es) X.env = (false, eval e X.env) :: starEach es X.env := by rfl) (hpl : (backTo pos (starEach es X.env)).any (·.1) = false := by rfl) :
    QE X (.Call (.Name x p) (e :: es) [] pos) (tFn sp t) := ⟨pe_fnN F hr n ha.h he hpl⟩
theorem qe_callBN {t : TA} {id : String} {r : List V → Hp → VK → Prop} (hc : QC X (.builtin id) r) (n : Nm X.env.scope x .globalImplicit) (hm : X.mg x = none) (hv : bootBuiltins x = some (.builtin id)) (ha : QA X (e :: es) t)
    (he : starEach (e :: es) X.env = (false, eval e X.env) :: starEach es X.env := by rfl) (hpl : (backTo pos (starEach es X.env)).any (·.1) = false := by rfl) : QE X (.Call (.Name x p) (e :: es) [] pos) (tCB r t) := ⟨pe_callBN hc.h n hm hv ha.h he hpl⟩
theorem qe_callTyN {t : TA} {T : String} {r : List V → Hp → VK → Prop} (hc : QC X (.type T) r) (n : Nm X.env.scope x .globalImplicit) (hm : X.mg x = none) (hv : bootBuiltins x = some (.type T)) (ha : QA X (e :: es) t)
    (he : starEach (e :: es) X.env = (false, eval e X.env) :: starEach es X.env := by rfl) (hpl : (backTo pos (starEach es X.env)).any (·.1) = false := by rfl) : QE X (.Call (.Name x p) (e :: es) [] pos) (tCB r t) := ⟨pe_callTyN hc.h n hm hv ha.h he hpl⟩
theorem qe_bm {o : Expr} {to : TE} {t : TA} {name : Str} {apos cpos : Pos} {T id : String} {r : V → List V → Hp → VK → Prop} (pa : PlainAttrs T) (slot : Slot T name id) (hty : typeOf (.builtin id) = pure (.type "method_descriptor")) (hm : QM X id r) (ho : QE X o to) (ha : QA X (e :: es) t)
    (hbase : attributeBase o name X.env (eval o X.env) = eval o X.env := by rfl)
    (hfew : ((backTo cpos (starEach (e :: es) X.env)).all (fun x => !x.1) && (backToKw cpos (keywordEach [] X.env)).all (fun x => x.1.isSome)
      && decide ((e :: es).length + ([] : List Keyword).length + (if ([] : List Keyword).isEmpty then 0 else 1) < 30)) = true := by rfl)
    (hline : (apos.endLine == cpos.line) = true := by rfl) (hs : starEach (e :: es) X.env = (false, eval e X.env) :: starEach es X.env := by rfl) (hplain : (backTo cpos (starEach es X.env)).any (·.1) = false := by rfl) :
    QE X (.Call (.Attribute o name apos) (e :: es) [] cpos) (tBM X.K T r to t) := ⟨pe_bm pa slot hty hm.h ho.h ha.h hbase hfew hline hs hplain⟩
/-! operations -/
theorem qop_add : QOp X (binaryOp .Add) (rI0 fun i j => .int (i + j)) := ⟨op_add⟩
theorem qop_sub : QOp X (binaryOp .Sub) (rI0 fun i j => .int (i - j)) := ⟨op_sub⟩
theorem qop_mul : QOp X (binaryOp .Mult) (rI CMul fun i j => .int (i * j)) := ⟨op_mul⟩
theorem qop_fdiv : QOp X (binaryOp .FloorDiv) (rI CDiv fun i j => .int (i / j)) := ⟨op_fdiv⟩
theorem qop_mod : QOp X (binaryOp .Mod) (rI (fun _ j => 0 < j) fun i j => .int (i % j)) := ⟨op_mod⟩
theorem qop_pow : QOp X (binaryOp .Pow) (rI CPow fun i j => .int (i ^ j.toNat)) := ⟨op_pow⟩
theorem qop_neg : QUn X (unaryOp .USub) (rU fun i => .int (-i)) := ⟨op_neg⟩
def rStr2 (g : Str → Str → V) : R2 := fun x y H Q => ∃ i j, x = .str i ∧ y = .str j ∧ Q (g i j) H
theorem qop_le_str : QOp X (compareOp .LtE) (rStr2 fun i j => .bl (!decide (j.cps.toList < i.cps.toList))) := ⟨op_le_str⟩
def rCatS : R2 := fun x y H Q => ∃ i j, x = .str i ∧ y = .str j ∧ i.length + j.length ≤ sizeLine ∧ Q (.str (i ++ j)) H
theorem qop_add_str : QOp X (binaryOp .Add) rCatS := ⟨op_add_str⟩
theorem qop_eq : QOp X (compareOp .Eq) rEq := ⟨op_eq⟩
theorem qop_ne : QOp X (compareOp .NotEq) rNe := ⟨op_ne⟩
theorem qop_lt : QOp X (compareOp .Lt) (rI0 fun i j => .bl (decide (i < j))) := ⟨op_lt⟩
theorem qop_le : QOp X (compareOp .LtE) (rI0 fun i j => .bl (decide (i ≤ j))) := ⟨op_le⟩
theorem qop_gt : QOp X (compareOp .Gt) (rI0 fun i j => .bl (decide (j < i))) := ⟨op_gt⟩
theorem qop_ge : QOp X (compareOp .GtE) (rI0 fun i j => .bl (decide (j ≤ i))) := ⟨op_ge⟩
def rIsN : R2 := fun x y H Q => y = .non ∧ Q (.bl (decide (x = .non))) H
def rNotN : R2 := fun x y H Q => y = .non ∧ Q (.bl (!decide (x = .non))) H
theorem qop_isN : QOp X (compareOp .Is) rIsN := ⟨op_isN⟩
theorem qop_notN : QOp X (compareOp .IsNot) rNotN := ⟨op_notN⟩
theorem qop_notIn_seq : QOp X (compareOp .NotIn) (rIn X.K true) := ⟨op_notIn_seq⟩
theorem qix_list : QIx X (rIxL X.K) := ⟨ix_list⟩
theorem qix_tup : QIx X (rIxT X.K) := ⟨ix_tup⟩
theorem qix_str : QIx X rIxS := ⟨ix_str⟩
theorem qsl_list : QSl X (rSlL X.K) := ⟨sl_list⟩
def rSlS : V → Option Int → Option Int → Hp → VK → Prop := fun x lo hi H Q => ∃ z, x = .str z ∧ z.length ≤ sizeLine ∧ Q (.str (Txt.slice z lo hi)) H
theorem qsl_str : QSl X rSlS := ⟨sl_str⟩
def rLenSeq (K : PySem.W.Frag) : List V → Hp → VK → Prop := fun xs H Q => ∃ p ys, xs = [.ref p] ∧ (SqL K H p ys ∨ SqT K H p ys) ∧ Q (.int ys.length) H
theorem qcall_len_seq : QC X (.builtin "len") (rLenSeq X.K) := ⟨call_len_seq⟩
def rLenS : List V → Hp → VK → Prop := fun xs H Q => ∃ z, xs = [.str z] ∧ z.length ≤ sizeLine ∧ Q (.int z.length) H
theorem qcall_len_str : QC X (.builtin "len") rLenS := ⟨call_len_str⟩
def rMax2 : List V → Hp → VK → Prop := fun xs H Q => ∃ i j, xs = [.int i, .int j] ∧ Q (.int (if j > i then j else i)) H
theorem qcall_max2 (hc : X.calm = true) : QC X (.builtin "max") rMax2 := ⟨call_max2 hc⟩
def rAll (K : PySem.W.Frag) : List V → Hp → VK → Prop := fun xs H Q => ∃ (a : Addr) (bs : List Bool), xs = [.ref a] ∧ SqL K H a (bs.map V.bl) ∧ Q (.bl (bs.all id)) H
theorem qcall_all (hc : X.calm = true) : QC X (.builtin "all") (rAll X.K) := ⟨call_all hc⟩
def rIsInst (K : PySem.W.Frag) : List V → Hp → VK → Prop := fun xs H Q => ∃ x n t b, xs = [x, .ty n] ∧ TyOf K H x t ∧ PySem.W.kitOne K t (.type n) = some b ∧ Q (.bl b) H
theorem qcall_isinst : QC X (.builtin "isinstance") (rIsInst X.K) := ⟨call_isinst⟩
def rListOf (K : PySem.W.Frag) : List V → Hp → VK → Prop := fun xs H Q => ∃ p ys, xs = [.ref p] ∧ (SqL K H p ys ∨ SqT K H p ys) ∧ ∀ l, H l = none → Q (.ref l) (upd H l (.lst ys))
theorem qcall_list_of : QC X (.type "list") (rListOf X.K) := ⟨call_list_of⟩
def rJoin (K : PySem.W.Frag) : V → List V → Hp → VK → Prop := fun x xs H Q => ∃ sep a ys, x = .str sep ∧ xs = [.ref a] ∧ SqL K H a (ys.map V.str) ∧ (ys.map (·.length)).sum + ys.length * sep.length ≤ 16777216 ∧ Q (.str (Txt.join sep ys)) H
theorem qmt_join : QM X "str.join" (rJoin X.K) := ⟨mt_join⟩
theorem qmt_append : QM X "list.append" rAppend := ⟨mt_append⟩
theorem qmt_popAt : QM X "list.pop" rPopAt := ⟨mt_popAt⟩
end
section
variable {g : TG} {tb : TS} {D : Ends} {σ : St} {H : Hp}
theorem forW_range {lo : Int} {n : Nat} (m : Nat) (hm : n = m) (Pv : Nat → St → Hp → Prop) (h0 : Pv 0 σ H)
    (hs : ∀ i σ H, i < m → Pv i σ H → g (.int (lo + i)) σ H fun σ2 H2 => tb { D with nx := Pv (i + 1), ct := Pv (i + 1), bk := D.nx } σ2 H2) (hd : ∀ σ H, Pv m σ H → D.nx σ H) : tForW (Itr lo n) g tb D σ H := by
  subst hm
  exact for_range Pv h0 hs hd
theorem forW_list {K : PySem.W.Frag} {a : Addr} (xs : List V) (Pv : Nat → St → Hp → Prop) (h0 : Pv 0 σ H) (hl : ∀ i σ H, i ≤ xs.length → Pv i σ H → SqL K H a xs)
    (hs : ∀ i x σ H, xs[i]? = some x → Pv i σ H → g x σ H fun σ2 H2 => tb { D with nx := Pv (i + 1), ct := Pv (i + 1), bk := D.nx } σ2 H2) (hd : ∀ σ H, Pv xs.length σ H → D.nx σ H) : tForW (Itl K a) g tb D σ H := for_list Pv h0 hl hs hd
end
/-! comprehensions -/
section
variable {X : Cx} {tg elt iter : Expr} {ifs : List Expr} {scope : Scope} {pos : Pos} {locs : List Str} {fr : List (Str × Nat)} {g : TG} {tt : TTs} {te : TE}
theorem qts_nil : QTs X [] (fun _ H Q => Q true H) := ⟨pts_nil⟩
theorem qts_one {c : Expr} {t : TT} (h : QT X c t) : QTs X [c] t := ⟨pts_one h.h⟩
/-- the parts of a block, in every context that it may have -/
structure Inn (X : Cx) (scope : Scope) (N' : List Str) (tg : Expr) (ifs : List Expr) (elt : Expr) (g : TG) (tt : TTs) (te : TE) : Prop where
  h : ∀ (cl : List (Str × Addr)) (C : Addr) (s0 : Shared) (H0 : Hp) (ex : List Addr) (pn : List (Addr × Obj)), QG (ccx X scope cl C N' s0 H0 ex pn) tg g ∧ QTs (ccx X scope cl C N' s0 H0 ex pn) ifs tt ∧ QE (ccx X scope cl C N' s0 H0 ex pn) elt te
theorem qe_lcomp {wi : TI} (S : CompOk X scope locs fr) (F : FrOk X scope fr) (hc : X.calm = true) (hi : QI X tg iter wi) (inner : Inn X scope (inN locs fr) tg ifs elt g tt te)
    (hs : ∀ x, foldedSetIterable iter X.env x = pure x := by intro _; rfl) : QE X (.ListComp elt [⟨tg, iter, ifs, 0⟩] scope pos) (tComp locs.length fr wi g tt te) :=
  ⟨pe_lcomp S F hc hi.h (fun cl C s0 H0 ex pn => let ⟨a, b, c⟩ := inner.h cl C s0 H0 ex pn; ⟨a.h, b.h, c.h⟩) hs⟩
end
section
variable {X : Cx} {scope : Scope} {cl : List (Str × Addr)} {C : Addr} {N' : List Str} {s0 : Shared} {H0 : Hp} {ex : List Addr} {pn : List (Addr × Obj)} {x : Str} {pos : Pos}
theorem qvLN (i : Nat) (n : Nm scope x .local := by decide +kernel) (hN : N'[i]? = some x := by rfl) : QE (ccx X scope cl C N' s0 H0 ex pn) (.Name x pos) (tVar i) := ⟨pvLN i n hN⟩
theorem qvFN (i : Nat) (n : Nm scope x .free := by decide +kernel) (hN : N'[i]? = some x := by rfl) : QE (ccx X scope cl C N' s0 H0 ex pn) (.Name x pos) (tVar i) := ⟨pvFN i n hN⟩
theorem qgLN (i : Nat) (hnd : N'.Nodup) (n : Nm scope x .local := by decide +kernel) (hN : N'[i]? = some x := by rfl) : QG (ccx X scope cl C N' s0 H0 ex pn) (.Name x pos) (gName i) := ⟨pgLN i hnd n hN⟩
end
section
variable {P : Program} {w : World} {K : PySem.W.Frag} {mg : Str → Option Value} {base : Heap}
theorem Has.fnQ {x : Str} {st : Stmt} {N ps : List Str} {k : Nat} {sp : Sp} (h : Has K mg x st) (S : FnScope N ps (defScope st))
    (hb : ∀ (kV doc pm : Value) (an : Option Addr) (cdv ct : Value) (us : List Value), us.length = ps.length → bindArgs (PySem.W.fnOf x x (defArgs st) (defBody st) (defScope st) .none kV doc pm an cdv ct) ⟨us, []⟩ = pure (ps.zip us))
    (len : ∀ vs H Q E, sp vs H Q E → vs.length = ps.length)
    (hbody : ∀ (f : Addr) (cdv : Value) (A : Around) (outer : List Env) (s : Shared) (H : Hp) (vs : List V) (Q : VK) (E : XK), Room k (A.deeper (envOfC x (defScope st) s.heap.objs.size f cdv)) → sp vs H Q E →
      ∃ t, QSs (cxOf CX0 P w K mg base N x (defScope st) f cdv A outer s H E).nox (defBody st) t ∧ t { nx := fun _ H' => Q .non H', rt := Q } (start N vs) H) : Fn P w K mg base x ps (k + 1) sp :=
  h.fn S hb len fun f cdv A outer s H vs Q E hr q => let ⟨t, a, b⟩ := hbody f cdv A outer s H vs Q E hr q; ⟨t, a.h, b⟩
end
end L2
namespace L2
open PySem PySem.Spec PyProof.Rows
/-- a cut between two parts of a block: R is what the first part is to reach -/
theorem seq_cut {t u : TS} {D : Ends} {σ : St} {H : Hp} (R : St → Hp → Prop) (hu : ∀ σ' H', R σ' H' → u D σ' H')
    (ht : ∀ D' : Ends, (∀ σ' H', R σ' H' → D'.nx σ' H') → (∀ v H', D.rt v H' → D'.rt v H') → (∀ σ' H', D.bk σ' H' → D'.bk σ' H') → (∀ σ' H', D.ct σ' H' → D'.ct σ' H') → t D' σ H) : tSeq t u D σ H :=
  ht { D with nx := u D } hu (fun _ _ h => h) (fun _ _ h => h) (fun _ _ h => h)
theorem one_lt_one {a b : Nat} : (([a] : List Nat) < [b]) ↔ a < b := by
  constructor
  · intro h
    rcases List.cons_lt_cons_iff.mp h with z | ⟨_, z⟩
    · exact z
    · exact absurd z (by simp)
  · intro h
    exact List.cons_lt_cons_iff.mpr (.inl h)
end L2
namespace L2
theorem gset {i : Nat} {v : V} {σ : St} {H : Hp} {Q : St → Hp → Prop} (h : Q (σ.set i (some v)) H) : gName i v σ H Q := h
end L2
namespace L2
open PySem PySem.Spec PyProof.Rows
theorem Fun.okQ {P : Program} {w : World} {K : PySem.W.Frag} {mg : Str → Option Value} {base : Heap} {x qual : Str} {st : Stmt} {f : Addr} {fd : FuncData} {N ps : List Str} {k : Nat} {sp : Sp} (F : Fun K x qual st f fd) (S : FnScope N ps (defScope st)) (len : ∀ vs H Q E, sp vs H Q E → vs.length = ps.length)
    (hbody : ∀ (cdv : Value) (A : Around) (outer : List Env) (s : Shared) (H : Hp) (vs : List V) (Q : VK) (E : XK), Room k (A.deeper (envOfC qual (defScope st) s.heap.objs.size f cdv)) → sp vs H Q E →
      ∃ t, QSs (cxOf CX0 P w K mg base N qual (defScope st) f cdv A outer s H E).nox (defBody st) t ∧ t { nx := fun _ H' => Q .non H', rt := Q } (start N vs) H) : FnOk P w K mg base CX0 (k + 1) f fd ps sp :=
  F.ok S len fun cdv A outer s H vs Q E hr q => let ⟨t, a, b⟩ := hbody cdv A outer s H vs Q E hr q; ⟨t, a.h, b⟩
end L2
/-! within a block: what names the fragment names the outer one's -/
namespace L2
open PySem PySem.Spec PyProof.Rows
section
variable {X : Cx} {scope : Scope} {cl : List (Str × Addr)} {C : Addr} {N' : List Str} {s0 : Shared} {H0 : Hp} {ex : List Addr} {pn : List (Addr × Obj)} {x : Str} {pos : Pos} {es : List Expr} {k : Nat} {t : TGs}
theorem qix_tupC : QIx (ccx X scope cl C N' s0 H0 ex pn) (rIxT X.K) := ⟨ix_tup (X := ccx X scope cl C N' s0 H0 ex pn)⟩
end
end L2

end
section
set_option Elab.async false
set_option linter.all false
set_option maxRecDepth 100000
set_option maxHeartbeats 4000000
/-! ZIP of two lists, or of two tuples, walked by a pair of names. -/
namespace L2
open PySem PySem.Spec PyProof.Rows

/-- an iterator at it over what stands at l, drawn from by zip -/
structure Drw (P : Program) (w : World) (it l : Addr) (St : Nat → Heap → Prop) (Hs : Heap → List Value → Prop) : Prop where
  obj : ∀ k h, St k h → ∃ o, h.get? it = some o ∧ ∀ v, o.data ≠ .cell v
  keep : ∀ k h h', St k h → (∀ o, h.get? it = some o → h'.get? it = some o) → St k h'
  src : ∀ h h' its, Hs h its → (∀ o, h.get? l = some o → h'.get? l = some o) → Hs h' its
  item : ∀ (A : Around) (k : Nat) (s : Shared) (its : List Value) (x : Value) (Q : Value → Shared → Prop) (E : Value → Shared → Prop), St k s.heap → Hs s.heap its → its[k]? = some x →
    (∀ h', St (k + 1) h' → Heap.SameBut it s.heap h' → Q x { s with heap := h' }) → wpAny (model P w) A (Builtin.SmallTypes.nextOf (.ref it)) Q E s
  done : ∀ (A : Around) (k : Nat) (s : Shared) (its : List Value) (Q : Value → Shared → Prop) (E : Value → Shared → Prop), A.handled = none → St k s.heap → Hs s.heap its → its[k]? = none →
    (∀ h' e, Heap.ExtBut it s.heap h' → (∃ o, h'.get? e = some o ∧ o.cls = .type "StopIteration") → E (.ref e) { s with heap := h' }) → wpAny (model P w) A (Builtin.SmallTypes.nextOf (.ref it)) Q E s
theorem drw_list {P : Program} {w : World} (it l : Addr) : Drw P w it l (fun k h => h.IsListIter it l k) (fun h its => h.IsList l its.toArray) where
  obj := fun k h st => by
    obtain ⟨o, e, c, d⟩ := st
    exact ⟨o, e, fun v z => by rw [d] at z; cases z⟩
  keep := fun k h h' st kk => st.at kk
  src := fun h h' its hl kk => hl.at kk
  item := fun A k s its x Q E st hl hx hQ => wpAny_nextOf_list_item st hl (by simpa using hx) hQ
  done := fun A k s its Q E hh st hl hx hE => wpAny_nextOf_list_end hh st hl (by simpa using hx) hE
section
variable {P : Program} {w : World} {A : Around} {E : Value → Shared → Prop} {s : Shared}
theorem nextT_item {it t : Addr} {k : Nat} {its : List Value} {x : Value} {Q : Value → Shared → Prop} (st : s.heap.IsTupleIter it t k) (ht : s.heap.IsTuple t its.toArray) (hx : its[k]? = some x)
    (hQ : ∀ h', h'.IsTupleIter it t (k + 1) → Heap.SameBut it s.heap h' → Q x { s with heap := h' }) : wpAny (model P w) A (Builtin.SmallTypes.nextOf (.ref it)) Q E s := by
  obtain ⟨o, ho, hc, hd⟩ := id st
  obtain ⟨ot, hot, _, nt, hdt⟩ := id ht
  unfold Builtin.SmallTypes.nextOf
  refine wpAny_bind (wpAny_callSpecial?_slot (name := Str.ofString "__next__") st.typeIs F.slot_tuple_iterator_next (wpAny_call_entry F.slot_tuple_iterator_next st.typeIs F.entry_tuple_iterator_next ?_ (F.args_tuple_iterator_next_1 _)))
  show wpAny _ _ (field (.ref it) 0 >>= _) _ _ s
  refine wpAny_bind (wpAny_field ho hd (x := .ref t) rfl ?_)
  show wpAny _ _ (if (Value.ref t == Value.none) = true then _ else _) _ _ s
  rw [if_neg (show ¬ ((Value.ref t == Value.none) = true) from Bool.false_ne_true)]
  show wpAny _ _ (field (.ref it) 1 >>= _) _ _ s
  refine wpAny_bind (wpAny_field ho hd (x := .int k 0) rfl ?_)
  show wpAny _ _ (seqItems? (.ref t) >>= _) _ _ s
  refine wpAny_bind (wpAny_seqItems hot hdt ?_)
  have hx' : its.toArray[k]? = some x := by simpa using hx
  simp only [Int.toNat_natCast, hx']
  refine wpAny_bind (wpAny_setField ho hd (by simp) ?_)
  refine wpAny_pure ⟨_, rfl, wpAny_pure (hQ _ ?_ (Heap.SameBut.update ..))⟩
  refine ⟨_, Heap.get?_update_self _ ho ?_, ?_, ?_⟩
  · obtain ⟨c, d, dt, sl⟩ := o; subst hd; rfl
  · obtain ⟨c, d, dt, sl⟩ := o; subst hd; exact hc
  · obtain ⟨c, d, dt, sl⟩ := o; subst hd; rfl
theorem nextT_end {it t : Addr} {k : Nat} {its : List Value} {Q : Value → Shared → Prop} (hh : A.handled = none) (st : s.heap.IsTupleIter it t k) (ht : s.heap.IsTuple t its.toArray) (hx : its[k]? = none)
    (hE : ∀ h' e, Heap.ExtBut it s.heap h' → (∃ o, h'.get? e = some o ∧ o.cls = .type "StopIteration") → E (.ref e) { s with heap := h' }) : wpAny (model P w) A (Builtin.SmallTypes.nextOf (.ref it)) Q E s := by
  obtain ⟨o, ho, hc, hd⟩ := id st
  obtain ⟨ot, hot, _, nt, hdt⟩ := id ht
  unfold Builtin.SmallTypes.nextOf
  refine wpAny_bind (wpAny_callSpecial?_slot (name := Str.ofString "__next__") st.typeIs F.slot_tuple_iterator_next (wpAny_call_entry F.slot_tuple_iterator_next st.typeIs F.entry_tuple_iterator_next ?_ (F.args_tuple_iterator_next_1 _)))
  show wpAny _ _ (field (.ref it) 0 >>= _) _ _ s
  refine wpAny_bind (wpAny_field ho hd (x := .ref t) rfl ?_)
  show wpAny _ _ (if (Value.ref t == Value.none) = true then _ else _) _ _ s
  rw [if_neg (show ¬ ((Value.ref t == Value.none) = true) from Bool.false_ne_true)]
  show wpAny _ _ (field (.ref it) 1 >>= _) _ _ s
  refine wpAny_bind (wpAny_field ho hd (x := .int k 0) rfl ?_)
  show wpAny _ _ (seqItems? (.ref t) >>= _) _ _ s
  refine wpAny_bind (wpAny_seqItems hot hdt ?_)
  have hx' : its.toArray[k]? = none := by simpa using hx
  simp only [Int.toNat_natCast, hx']
  refine wpAny_bind (wpAny_rule (wpAny_bind (wpAny_setField ho hd (by simp) ?_)))
  show wpAny _ _ (newExc (.type "StopIteration") [] >>= _) _ _ _
  refine wpAny_bind ?_
  simp only [newExc, newTuple]
  refine wpAny_bind (wpAny_newObj_type ?_ (by size_fits))
  refine wpAny_bind (m := firstArgMember _ _) (wpAny_of_eq (a := Value.none) (by first | rfl | (simp only [firstArgMember]; rfl)) ?_)
  refine wpAny_newObj_type ?_ (by size_fits)
  simp only [raiseNew]
  refine wpAny_bind (wpAny_handled ?_)
  first | rw [show A.in1.handled = none from hh] | rw [hh]
  refine wpAny_bind (wpAny_pure (wpAny_throw ?_))
  exact hE _ _ (((Heap.SameBut.update ..).extBut.push _).push _) ⟨_, Heap.get?_push_size _ rfl, rfl⟩
end
theorem drw_tuple {P : Program} {w : World} (it l : Addr) : Drw P w it l (fun k h => h.IsTupleIter it l k) (fun h its => h.IsTuple l its.toArray) where
  obj := fun k h st => by
    obtain ⟨o, e, c, d⟩ := st
    exact ⟨o, e, fun v z => by rw [d] at z; cases z⟩
  keep := fun k h h' st kk => st.at kk
  src := fun h h' its hl kk => let ⟨o, e, r⟩ := hl; ⟨o, kk o e, r⟩
  item := fun A k s its x Q E st hl hx hQ => nextT_item st hl hx hQ
  done := fun A k s its Q E hh st hl hx hE => nextT_end hh st hl hx hE

/-- the parts of a zip lie apart -/
structure ZA (z TI TO i1 i2 l1 l2 : Addr) : Prop where
  a1 : TI ≠ z
  a2 : TO ≠ z
  a3 : i1 ≠ z
  a4 : i2 ≠ z
  a5 : TI ≠ TO
  a6 : TI ≠ i1
  a7 : TI ≠ i2
  a8 : TO ≠ i1
  a9 : TO ≠ i2
  a10 : i1 ≠ i2
  b1 : l1 ≠ z
  b2 : l1 ≠ TO
  b3 : l1 ≠ i1
  b4 : l1 ≠ i2
  b5 : l2 ≠ z
  b6 : l2 ≠ TO
  b7 : l2 ≠ i1
  b8 : l2 ≠ i2
section
variable {P : Program} {w : World} {A : Around} {E : Value → Shared → Prop} {s : Shared} {z TI TO i1 i2 l1 l2 : Addr} {S1 S2 : Nat → Heap → Prop} {H1 H2 : Heap → List Value → Prop} {k : Nat} {xs ys : List Value} {x y a b : Value}
theorem zipD_item {Q : Value → Shared → Prop} (Z : ZA z TI TO i1 i2 l1 l2) (D1 : Drw P w i1 l1 S1 H1) (D2 : Drw P w i2 l2 S2 H2) (hz : IsZip s.heap z TI TO .none) (hTI : IsPair s.heap TI (.ref i1) (.ref i2)) (hTO : IsPair s.heap TO a b)
    (st1 : S1 k s.heap) (st2 : S2 k s.heap) (h1 : H1 s.heap xs) (h2 : H2 s.heap ys) (hx : xs[k]? = some x) (hy : ys[k]? = some y)
    (hQ : ∀ h', IsZip h' z TI TO (rawInt s.heap.objs.size) → IsPair h' TO x y → S1 (k + 1) h' → S2 (k + 1) h' → IsPair h' s.heap.objs.size x y →
      (∀ c o, c ≠ z → c ≠ TO → c ≠ i1 → c ≠ i2 → s.heap.get? c = some o → h'.get? c = some o) → Q (.ref s.heap.objs.size) { s with heap := h' }) :
    wpAny (model P w) A (Builtin.«zip.__next__» ⟨[.ref z], []⟩) (fun fin s' => ∃ v, fin = .done (.ret v) ∧ Q v s') E s := by
  show wpAny _ _ (field (.ref z) 2 >>= _) _ _ _
  refine wpAny_bind (wpAny_field hz rfl (x := .bool false) rfl ?_)
  show wpAny _ _ (field (.ref z) 3 >>= _) _ _ _
  refine wpAny_bind (wpAny_field hz rfl (x := .ref TI) rfl (wpAny_bind (wpAny_seqItems hTI rfl ?_)))
  show wpAny _ _ (Builtin.SmallTypes.ownedTupleIsFree (.ref z) >>= _) _ _ _
  refine wpAny_bind ?_
  unfold Builtin.SmallTypes.ownedTupleIsFree
  refine wpAny_bind (wpAny_field hz rfl (x := .none) rfl (wpAny_pure ?_))
  simp only [if_true]
  refine wpAny_bind (wpAny_rule (wpAny_bind (wpAny_field hz rfl (x := .ref TO) rfl (wpAny_bind (wpAny_setField_rec hz (by simp) fun g1 z1 e1 => ?_)))))
  replace z1 : IsZip g1 z TI TO .ellipsis := z1
  refine wpAny_bind ?_
  simp only [List.zipIdx_cons, List.zipIdx_nil, List.forIn_cons, List.forIn_nil]
  refine wpAny_bind (wpAny_bind (wpAny_onRaise ?_))
  show wpAny _ _ (Builtin.SmallTypes.nextOf (.ref i1) >>= _) _ _ _
  refine wpAny_bind (D1.item _ k _ xs x _ _ (D1.keep _ _ _ st1 fun o e => e1.extBut _ _ Z.a3 e) (D1.src _ _ _ h1 fun o e => e1.extBut _ _ Z.b1 e) hx fun g2 s12 e2 => wpAny_pure ?_)
  have t2 : IsPair g2 TO a b := e2.extBut _ _ Z.a8 (e1.extBut _ _ Z.a2 hTO)
  refine wpAny_bind (wpAny_seqItems t2 rfl (wpAny_bind (wpAny_updateSeq_pair t2 fun g3 t3 e3 => ?_)))
  replace t3 : IsPair g3 TO x b := t3
  refine wpAny_bind (wpAny_letGo (wpAny_pure (wpAny_bind (wpAny_bind (wpAny_onRaise ?_)))))
  show wpAny _ _ (Builtin.SmallTypes.nextOf (.ref i2) >>= _) _ _ _
  have up3 : ∀ c o, c ≠ z → c ≠ TO → c ≠ i1 → s.heap.get? c = some o → g3.get? c = some o := fun c o c1 c2 c3 e => e3.extBut _ _ c2 (e2.extBut _ _ c3 (e1.extBut _ _ c1 e))
  refine wpAny_bind (D2.item _ k _ ys y _ _ (D2.keep _ _ _ st2 fun o e => up3 _ _ Z.a4 Z.a9.symm Z.a10.symm e) (D2.src _ _ _ h2 fun o e => up3 _ _ Z.b5 Z.b6 Z.b7 e) hy fun g4 s24 e4 => wpAny_pure ?_)
  have t4 : IsPair g4 TO x b := e4.extBut _ _ Z.a9 t3
  refine wpAny_bind (wpAny_seqItems t4 rfl (wpAny_bind (wpAny_updateSeq_pair t4 fun g5 t5 e5 => ?_)))
  replace t5 : IsPair g5 TO x y := t5
  refine wpAny_bind (wpAny_letGo (wpAny_pure (wpAny_pure (wpAny_bind (wpAny_seqItems t5 rfl (wpAny_bind (wpAny_newTuple ?_)))))))
  have size5 : g5.objs.size = s.heap.objs.size := by rw [e5.1, e4.1, e3.1, e2.1, e1.1]
  have z5 : IsZip g5 z TI TO .ellipsis := e5.extBut _ _ Z.a2.symm (e4.extBut _ _ Z.a4.symm (e3.extBut _ _ Z.a2.symm (e2.extBut _ _ Z.a3.symm z1)))
  have up5 : ∀ c o, c ≠ z → c ≠ TO → c ≠ i1 → c ≠ i2 → s.heap.get? c = some o → g5.get? c = some o := fun c o c1 c2 c3 c4 e => e5.extBut _ _ c2 (e4.extBut _ _ c4 (up3 c o c1 c2 c3 e))
  have s15 : S1 (k + 1) g5 := D1.keep _ _ _ s12 fun o e => e5.extBut _ _ Z.a8.symm (e4.extBut _ _ Z.a10 (e3.extBut _ _ Z.a8.symm e))
  have s25 : S2 (k + 1) g5 := D2.keep _ _ _ s24 fun o e => e5.extBut _ _ Z.a9.symm e
  have zlt : z < g5.objs.size := Heap.lt_size z5
  show wpAny _ _ (Builtin.SmallTypes.ownedTupleHandOut (.ref z) (.ref g5.objs.size) >>= _) _ _ _
  refine wpAny_bind ?_
  unfold Builtin.SmallTypes.ownedTupleHandOut
  have z6 : IsZip (g5.push { cls := .type "tuple", data := .seq #[x, y] }) z TI TO .ellipsis := Heap.get?_push_of_some _ z5
  refine wpAny_bind (wpAny_setField_rec z6 (by simp) fun g7 z7 e7 => ?_)
  replace z7 : IsZip g7 z TI TO (rawInt g5.objs.size) := z7
  refine wpAny_setField_rec z7 (by simp) fun g8 z8 e8 => ?_
  replace z8 : IsZip g8 z TI TO (rawInt g5.objs.size) := z8
  have up8 : ∀ c o, c ≠ z → g5.get? c = some o → g8.get? c = some o := fun c o c1 e => e8.extBut _ _ c1 (e7.extBut _ _ c1 (Heap.get?_push_of_some _ e))
  have p8 : IsPair g8 g5.objs.size x y := e8.extBut _ _ (Nat.ne_of_gt zlt) (e7.extBut _ _ (Nat.ne_of_gt zlt) (Heap.get?_push_size _ rfl))
  rw [size5] at z8 p8
  refine wpAny_pure ⟨_, rfl, ?_⟩
  show Q (.ref g5.objs.size) _
  rw [size5]
  exact hQ g8 z8 (up8 _ _ Z.a2 t5) (D1.keep _ _ _ s15 fun o e => up8 _ _ Z.a3 e) (D2.keep _ _ _ s25 fun o e => up8 _ _ Z.a4 e) p8 fun c o c1 c2 c3 c4 e => up8 c o c1 (up5 c o c1 c2 c3 c4 e)
theorem zipD_end {Q : PySem.Fin → Shared → Prop} (hh : A.handled = none) (Z : ZA z TI TO i1 i2 l1 l2) (D1 : Drw P w i1 l1 S1 H1) (D2 : Drw P w i2 l2 S2 H2) (hz : IsZip s.heap z TI TO .none) (hTI : IsPair s.heap TI (.ref i1) (.ref i2)) (hTO : IsPair s.heap TO a b)
    (st1 : S1 k s.heap) (st2 : S2 k s.heap) (h1 : H1 s.heap xs) (h2 : H2 s.heap ys) (hend : xs[k]? = none ∨ ys[k]? = none)
    (hE : ∀ h' e, (∀ c o, c ≠ z → c ≠ TO → c ≠ i1 → c ≠ i2 → s.heap.get? c = some o → h'.get? c = some o) → (∃ o, h'.get? e = some o ∧ o.cls = .type "StopIteration") → E (.ref e) { s with heap := h' }) :
    wpAny (model P w) A (Builtin.«zip.__next__» ⟨[.ref z], []⟩) Q E s := by
  show wpAny _ _ (field (.ref z) 2 >>= _) _ _ _
  refine wpAny_bind (wpAny_field hz rfl (x := .bool false) rfl ?_)
  show wpAny _ _ (field (.ref z) 3 >>= _) _ _ _
  refine wpAny_bind (wpAny_field hz rfl (x := .ref TI) rfl (wpAny_bind (wpAny_seqItems hTI rfl ?_)))
  show wpAny _ _ (Builtin.SmallTypes.ownedTupleIsFree (.ref z) >>= _) _ _ _
  refine wpAny_bind ?_
  unfold Builtin.SmallTypes.ownedTupleIsFree
  refine wpAny_bind (wpAny_field hz rfl (x := .none) rfl (wpAny_pure ?_))
  simp only [if_true]
  refine wpAny_bind (wpAny_rule (wpAny_bind (wpAny_field hz rfl (x := .ref TO) rfl (wpAny_bind (wpAny_setField_rec hz (by simp) fun g1 z1 e1 => ?_)))))
  replace z1 : IsZip g1 z TI TO .ellipsis := z1
  refine wpAny_bind ?_
  simp only [List.zipIdx_cons, List.zipIdx_nil, List.forIn_cons, List.forIn_nil]
  refine wpAny_bind (wpAny_bind (wpAny_onRaise ?_))
  show wpAny _ _ (Builtin.SmallTypes.nextOf (.ref i1) >>= _) _ _ _
  have st1' := D1.keep _ _ _ st1 fun o e => e1.extBut _ _ Z.a3 e
  have h1' := D1.src _ _ _ h1 fun o e => e1.extBut _ _ Z.b1 e
  cases hx : xs[k]? with
  | none =>
    refine wpAny_bind (D1.done _ k _ xs _ _ hh st1' h1' hx fun g2 e e2 ⟨oe, hoe, hce⟩ => ?_)
    have z2 : IsZip g2 z TI TO .ellipsis := e2 _ _ Z.a3.symm z1
    have ne : e ≠ z := fun q => by subst q; rw [z2] at hoe; cases hoe; simp at hce
    exact wpAny_setField_rec z2 (by simp) fun g3 _ e3 => hE g3 e (fun c o c1 _ c3 _ q => e3.extBut _ _ c1 (e2 _ _ c3 (e1.extBut _ _ c1 q))) ⟨oe, e3.extBut _ _ ne hoe, hce⟩
  | some x =>
    have hy : ys[k]? = none := hend.elim (fun q => by rw [hx] at q; cases q) id
    refine wpAny_bind (D1.item _ k _ xs x _ _ st1' h1' hx fun g2 s12 e2 => wpAny_pure ?_)
    have t2 : IsPair g2 TO a b := e2.extBut _ _ Z.a8 (e1.extBut _ _ Z.a2 hTO)
    refine wpAny_bind (wpAny_seqItems t2 rfl (wpAny_bind (wpAny_updateSeq_pair t2 fun g3 t3 e3 => ?_)))
    refine wpAny_bind (wpAny_letGo (wpAny_pure (wpAny_bind (wpAny_bind (wpAny_onRaise ?_)))))
    show wpAny _ _ (Builtin.SmallTypes.nextOf (.ref i2) >>= _) _ _ _
    have up3 : ∀ c o, c ≠ z → c ≠ TO → c ≠ i1 → s.heap.get? c = some o → g3.get? c = some o := fun c o c1 c2 c3 e => e3.extBut _ _ c2 (e2.extBut _ _ c3 (e1.extBut _ _ c1 e))
    refine wpAny_bind (D2.done _ k _ ys _ _ hh (D2.keep _ _ _ st2 fun o e => up3 _ _ Z.a4 Z.a9.symm Z.a10.symm e) (D2.src _ _ _ h2 fun o e => up3 _ _ Z.b5 Z.b6 Z.b7 e) hy fun g4 e e4 ⟨oe, hoe, hce⟩ => ?_)
    have z4 : IsZip g4 z TI TO .ellipsis := e4 _ _ Z.a4.symm (e3.extBut _ _ Z.a2.symm (e2.extBut _ _ Z.a3.symm z1))
    have ne : e ≠ z := fun q => by subst q; rw [z4] at hoe; cases hoe; simp at hce
    exact wpAny_setField_rec z4 (by simp) fun g5 _ e5 => hE g5 e (fun c o c1 c2 c3 c4 q => e5.extBut _ _ c1 (e4 _ _ c4 (up3 c o c1 c2 c3 q))) ⟨oe, e5.extBut _ _ ne hoe, hce⟩
end

/-- what stands at l, as a row of values, and how the heap bears it -/
structure SqK (sq : PySem.W.Frag → Hp → Addr → List V → Prop) (Hs : Addr → Heap → List Value → Prop) : Prop where
  get : ∀ {X : Cx} {pins : List (Addr × Obj)} {σ : St} {H : Hp} {s : Shared} {l : Addr} {xs : List V}, Inv X pins σ H s → sq X.K H l xs → ∃ its, Vals xs its ∧ Hs l s.heap its
  inj : ∀ {X : Cx} {pins : List (Addr × Obj)} {σ : St} {H : Hp} {s : Shared} {l : Addr} {xs ys : List V}, Inv X pins σ H s → sq X.K H l xs → sq X.K H l ys → xs = ys
theorem sqk_list : SqK SqL (fun l h its => h.IsList l its.toArray) := ⟨fun I h => let ⟨its, r, p, _⟩ := I.list h; ⟨its, r, p.isList⟩, fun I h h' => I.list_inj h h'⟩
theorem sqk_tup : SqK SqT (fun l h its => h.IsTuple l its.toArray) := ⟨fun I h => let ⟨its, r, p, _⟩ := I.tuple h; ⟨its, r, p⟩, fun I h h' => I.tuple_inj h h'⟩
def Itz (sq : PySem.W.Frag → Hp → Addr → List V → Prop) (K : PySem.W.Frag) (l1 l2 : Addr) : It :=
  ⟨fun i H => ∃ xs ys, sq K H l1 xs ∧ sq K H l2 ys ∧ i < xs.length ∧ i < ys.length, fun i H v H' => ∃ p a b, v = .ref p ∧ H p = none ∧ H' = upd H p (.tup [a, b]) ∧ ∀ xs ys, sq K H l1 xs → sq K H l2 ys → xs[i]? = some a ∧ ys[i]? = some b,
    fun i H => ∃ xs ys, sq K H l1 xs ∧ sq K H l2 ys ∧ (xs.length ≤ i ∨ ys.length ≤ i)⟩
theorem turn_zip {P : Program} {w : World} {K : PySem.W.Frag} {elts : List Expr} {ek : Nat} {epos : Pos} {sq : PySem.W.Frag → Hp → Addr → List V → Prop} {Hs : Addr → Heap → List Value → Prop} {z TI TO i1 i2 l1 l2 : Addr} {S1 S2 : Nat → Heap → Prop}
    (SK : SqK sq Hs) (Z : ZA z TI TO i1 i2 l1 l2) (D1 : Drw P w i1 l1 S1 (Hs l1)) (D2 : Drw P w i2 l2 S2 (Hs l2)) :
    Turn P w K (.Tuple elts ek epos) (Itz sq K l1 l2) [z, TI, TO, i1, i2] z (fun i h => IsZip h z TI TO .none ∧ IsPair h TI (.ref i1) (.ref i2) ∧ (∃ a b, IsPair h TO a b) ∧ S1 i h ∧ S2 i h) where
  mem := by simp
  obj := fun i h st b hb => by
    obtain ⟨hz, hTI, ⟨a, c, hTO⟩, s1, s2⟩ := st
    simp only [List.mem_cons, List.not_mem_nil, or_false] at hb
    rcases hb with rfl | rfl | rfl | rfl | rfl
    · exact ⟨_, hz, fun v q => by cases q⟩
    · exact ⟨_, hTI, fun v q => by cases q⟩
    · exact ⟨_, hTO, fun v q => by cases q⟩
    · exact D1.obj _ _ s1
    · exact D2.obj _ _ s2
  keep := fun i h h' st k => by
    obtain ⟨hz, hTI, ⟨a, c, hTO⟩, s1, s2⟩ := st
    exact ⟨k z (by simp) _ hz, k TI (by simp) _ hTI, ⟨a, c, k TO (by simp) _ hTO⟩, D1.keep _ _ _ s1 fun o e => k i1 (by simp) o e, D2.keep _ _ _ s2 fun o e => k i2 (by simp) o e⟩
  item := by
    intro X hP hw hK hc i pins s σ H E I hf st hg
    subst hP hw hK
    obtain ⟨hz, hTI, ⟨a, b, hTO⟩, s1, s2⟩ := st
    obtain ⟨xs, ys, q1, q2, hx, hy⟩ := hg
    obtain ⟨its1, r1, w1⟩ := SK.get I q1
    obtain ⟨its2, r2, w2⟩ := SK.get I q2
    have gx : xs[i]? = some xs[i] := List.getElem?_eq_getElem hx
    have gy : ys[i]? = some ys[i] := List.getElem?_eq_getElem hy
    obtain ⟨u1, hu1, ru1⟩ := r1.get gx
    obtain ⟨u2, hu2, ru2⟩ := r2.get gy
    have hT : s.TypeIs (.ref z) "zip" := ⟨_, hz, rfl⟩
    unfold pyNext
    refine wpAny_bind (wpAny_attempt (wpAny_callSpecial?_slot (name := Str.ofString "__next__") hT F.slot_zip_next (wpAny_call_entry F.slot_zip_next hT F.entry_zip_next
      (zipD_item Z D1 D2 hz hTI hTO s1 s2 w1 w2 hu1 hu2 fun h' z1 t1 n1 n2 p1 kp => wpAny_pure ?_) (F.args_zip_next_1 _))))
    refine ⟨_, rfl, ?_⟩
    have nfp : ∀ c, c ∈ [z, TO, i1, i2] → c ∈ [z, TI, TO, i1, i2] := fun c hc => by
      simp only [List.mem_cons, List.not_mem_nil, or_false] at hc ⊢
      rcases hc with q | q | q | q
      · exact .inl q
      · exact .inr (.inr (.inl q))
      · exact .inr (.inr (.inr (.inl q)))
      · exact .inr (.inr (.inr (.inr q)))
    have kp' : ∀ c o, c ∉ [z, TO, i1, i2] → s.heap.get? c = some o → h'.get? c = some o := fun c o hc e => kp c o (fun q => hc (by simp [q])) (fun q => hc (by simp [q])) (fun q => hc (by simp [q])) (fun q => hc (by simp [q])) e
    have hp : H s.heap.objs.size = none := I.hok.fresh (Nat.le_refl _)
    have ltp : ∀ c o, s.heap.get? c = some o → c ≠ s.heap.objs.size := fun c o e => Nat.ne_of_lt (Heap.lt_size e)
    have ntr : ∀ c u, H c = some u → c ∉ [z, TO, i1, i2] := fun c u e hc => by
      have := (hf c (nfp c hc)).1
      rw [this] at e; cases e
    have there4 : ∀ c, c ∈ [z, TO, i1, i2] → ∃ o', h'.get? c = some o' := fun c hc => by
      simp only [List.mem_cons, List.not_mem_nil, or_false] at hc
      rcases hc with rfl | rfl | rfl | rfl
      · exact ⟨_, z1⟩
      · exact ⟨_, t1⟩
      · obtain ⟨o, e, _⟩ := D1.obj _ _ n1; exact ⟨o, e⟩
      · obtain ⟨o, e, _⟩ := D2.obj _ _ n2; exact ⟨o, e⟩
    have I1 : Inv X pins σ (upd H s.heap.objs.size (.tup [xs[i], ys[i]])) { s with heap := h' } := by
      refine I.step (g' := s.gens) (d' := s.drawn) (t' := s.toks) (ch := [z, TO, i1, i2]) (fun c hc => ?_) (fun c o _ _ hc e _ => kp' c o hc e) (fun c o _ _ hc e _ => ⟨o.slots, kp' c o hc e⟩) (fun c o hc e n => by rw [upd_ne (ltp c o e)]; exact n)
        (fun c o hc e => ⟨o, kp' c o hc e⟩) (fun c us e => by rw [upd_ne (ne_of_none e hp)]; exact e) (fun c o u e => by rw [upd_ne (ne_of_none e hp)]; exact e) (fun c ps e => ⟨#[], by rw [upd_ne (ne_of_none e hp), e]; simp⟩) (fun m hm => ?_) ?_ I.bare
      · obtain ⟨f0, f1, f2, f3, f4, f5⟩ := hf c (nfp c hc)
        exact ⟨f3, f1, f4, f5⟩
      · refine hm.at fun o e => kp' _ o (fun hc => ?_) e
        exact (hf _ (nfp _ hc)).2.1 rfl
      · intro c u e
        by_cases hcp : c = s.heap.objs.size
        · subst hcp
          rw [upd_same] at e
          cases e
          exact ⟨by show 2 ≤ sizeLine; decide, [u1, u2], .cons ru1 (.cons ru2 .nil), ⟨_, p1, rfl, _, rfl⟩⟩
        · rw [upd_ne hcp] at e
          refine (I.hok c u e).stay (fun d v hd q => kp' d v ?_ q) (fun d q => by rw [upd_ne (ne_of_none q hp)]; exact q) fun d us q => by rw [upd_ne (ne_of_none q hp)]; exact q
          rcases hd with rfl | hd
          · exact ntr _ u e
          · exact ntr _ _ hd
    refine wpAny_letOwnedTupleGo_zip (s := { s with heap := h' }) z1 fun h2 z2 e2 => ?_
    obtain ⟨f0, f1, f2, f3, f4, f5⟩ := hf z (by simp)
    have nz : z ≠ s.heap.objs.size := ltp z _ hz
    have I2 : Inv X pins σ (upd H s.heap.objs.size (.tup [xs[i], ys[i]])) { s with heap := h2 } := I1.turned (s := { s with heap := h' }) (it := z) (t' := s.toks) (fun c o hc e => (e2.2 c hc).trans e) (by rw [upd_ne nz]; exact f0) f1 f3 f4 f5
    refine ⟨.ref s.heap.objs.size, _, I2, rfl, ⟨s.heap.objs.size, xs[i], ys[i], rfl, hp, rfl, fun xs' ys' q1' q2' => ?_⟩, ⟨z2, (e2.2 _ Z.a1).trans (kp' TI _ (fun hc => ?_) hTI), ⟨_, _, (e2.2 _ Z.a2).trans t1⟩, D1.keep _ _ _ n1 fun o e => (e2.2 _ Z.a3).trans e, D2.keep _ _ _ n2 fun o e => (e2.2 _ Z.a4).trans e⟩, fun c hc => ?_⟩
    · rw [SK.inj I q1' q1, SK.inj I q2' q2]
      exact ⟨gx, gy⟩
    · simp only [List.mem_cons, List.not_mem_nil, or_false] at hc
      rcases hc with q | q | q | q
      · exact Z.a1 q
      · exact Z.a5 q
      · exact Z.a6 q
      · exact Z.a7 q
    · obtain ⟨o, ho⟩ : ∃ o, s.heap.get? c = some o := by
        simp only [List.mem_cons, List.not_mem_nil, or_false] at hc
        rcases hc with rfl | rfl | rfl | rfl | rfl
        · exact ⟨_, hz⟩
        · exact ⟨_, hTI⟩
        · exact ⟨_, hTO⟩
        · obtain ⟨o, e, _⟩ := D1.obj _ _ s1; exact ⟨o, e⟩
        · obtain ⟨o, e, _⟩ := D2.obj _ _ s2; exact ⟨o, e⟩
      rw [upd_ne (ltp c o ho)]
      exact (hf c hc).1
  done := by
    intro X hP hw hK hc i pins s σ H E I hf st hg
    subst hP hw hK
    obtain ⟨hz, hTI, ⟨a, b, hTO⟩, s1, s2⟩ := st
    obtain ⟨xs, ys, q1, q2, hend⟩ := hg
    obtain ⟨its1, r1, w1⟩ := SK.get I q1
    obtain ⟨its2, r2, w2⟩ := SK.get I q2
    have hT : s.TypeIs (.ref z) "zip" := ⟨_, hz, rfl⟩
    have hend' : its1[i]? = none ∨ its2[i]? = none := by
      have e1 := r1.length
      have e2 := r2.length
      rcases hend with q | q
      · exact .inl (List.getElem?_eq_none (by omega))
      · exact .inr (List.getElem?_eq_none (by omega))
    unfold pyNext
    refine wpAny_bind (wpAny_attempt (wpAny_callSpecial?_slot (name := Str.ofString "__next__") hT F.slot_zip_next (wpAny_call_entry F.slot_zip_next hT F.entry_zip_next (zipD_end (I.ok.hd hc) Z D1 D2 hz hTI hTO s1 s2 w1 w2 hend' fun h' e kp ⟨o, ho, hcl⟩ => ?_) (F.args_zip_next_1 _))))
    refine wpAny_bind (wpAny_isInstance (T := "StopIteration") (b := true) ⟨o, ho, hcl⟩ isSubtype_stop (wpAny_pure ⟨rfl, ?_⟩))
    have nfp : ∀ c, c ∈ [z, TO, i1, i2] → c ∈ [z, TI, TO, i1, i2] := fun c hc => by
      simp only [List.mem_cons, List.not_mem_nil, or_false] at hc ⊢
      rcases hc with q | q | q | q
      · exact .inl q
      · exact .inr (.inr (.inl q))
      · exact .inr (.inr (.inr (.inl q)))
      · exact .inr (.inr (.inr (.inr q)))
    have kp' : ∀ c o, c ∉ [z, TO, i1, i2] → s.heap.get? c = some o → h'.get? c = some o := fun c o hc e => kp c o (fun q => hc (by simp [q])) (fun q => hc (by simp [q])) (fun q => hc (by simp [q])) (fun q => hc (by simp [q])) e
    have ntr : ∀ c u, H c = some u → c ∉ [z, TO, i1, i2] := fun c u e hc => by
      have := (hf c (nfp c hc)).1
      rw [this] at e; cases e
    refine I.step (g' := s.gens) (d' := s.drawn) (t' := s.toks) (ch := [z, TO, i1, i2]) (fun c hc => ?_) (fun c o _ _ hc e _ => kp' c o hc e) (fun c o _ _ hc e _ => ⟨o.slots, kp' c o hc e⟩) (fun c o hc e n => n)
      (fun c o hc e => ⟨o, kp' c o hc e⟩) (fun c us e => e) (fun c o u e => e) (fun c ps e => ⟨#[], by rw [e]; simp⟩) (fun m hm => ?_) ?_ I.bare
    · obtain ⟨f0, f1, f2, f3, f4, f5⟩ := hf c (nfp c hc)
      exact ⟨f3, f1, f4, f5⟩
    · refine hm.at fun o e => kp' _ o (fun hc => ?_) e
      exact (hf _ (nfp _ hc)).2.1 rfl
    · intro c u e
      refine (I.hok c u e).stay (fun d v hd q => kp' d v ?_ q) (fun d q => q) fun d us q => q
      rcases hd with rfl | hd
      · exact ntr _ u e
      · exact ntr _ _ hd
  self := fun A i s Q E st h => wpAny_pyIter_zip st.1 h

/-! ### making it -/
abbrev tzA (h : Heap) (t1 : Addr) : Heap := h.push { cls := .type "tuple_iterator", data := .fields #[.ref t1, .int 0 0] }
abbrev tzB (h : Heap) (t1 t2 : Addr) : Heap := (tzA h t1).push { cls := .type "tuple_iterator", data := .fields #[.ref t2, .int 0 0] }
abbrev tzC (h : Heap) (t1 t2 : Addr) : Heap := (tzB h t1 t2).push { cls := .type "tuple", data := .seq #[.ref h.objs.size, .ref (tzA h t1).objs.size] }
abbrev tzD (h : Heap) (t1 t2 : Addr) : Heap := (tzC h t1 t2).push { cls := .type "tuple", data := .seq #[.none, .none] }
abbrev tzE (h : Heap) (t1 t2 : Addr) : Heap := (tzD h t1 t2).push { cls := .type "zip", data := .fields #[.none, .bool false, .bool false, .ref (tzB h t1 t2).objs.size, .ref (tzC h t1 t2).objs.size] }
theorem meets_zipT (l1 l2 : Addr) (xs ys : Array Value) : Meets (Builtin.«zip.__new__» ⟨[.type "zip", .ref l1, .ref l2], []⟩) (fun _ R s => s.heap.IsTuple l1 xs ∧ s.heap.IsTuple l2 ys ∧ R (.ok (.ret (.ref (tzD s.heap l1 l2).objs.size))) { s with heap := tzE s.heap l1 l2 }) :=
  .of_wp fun prog w A R s h => by
    obtain ⟨hp, g, d, tk, os⟩ := s; obtain ⟨hl1, hl2, h⟩ := h
    have hsub := sub_zip
    have hL1 : Heap.IsTuple (Shared.heap ⟨hp, g, d, tk, os⟩) l1 xs := hl1
    have hL2 : Heap.IsTuple (Shared.heap ⟨tzA hp l1, g, d, tk, os⟩) l2 ys := let ⟨o, e, r⟩ := hl2; ⟨o, Heap.get?_push_of_some _ e, r⟩
    wp_walk using wpAny_pyIter_tuple hL1, wpAny_pyIter_tuple hL2
    exact ⟨_, rfl, h⟩
section
variable {P : Program} {w : World} {A : Around} {E : Value → Shared → Prop} {s : Shared}
theorem call_zipT {l1 l2 : Addr} {xs ys : Array Value} {Q : Value → Shared → Prop} (hl1 : s.heap.IsTuple l1 xs) (hl2 : s.heap.IsTuple l2 ys)
    (h : ∀ h', IsZip h' (s.heap.objs.size + 4) (s.heap.objs.size + 2) (s.heap.objs.size + 3) .none → IsPair h' (s.heap.objs.size + 2) (.ref s.heap.objs.size) (.ref (s.heap.objs.size + 1)) →
      IsPair h' (s.heap.objs.size + 3) .none .none → h'.IsTupleIter s.heap.objs.size l1 0 → h'.IsTupleIter (s.heap.objs.size + 1) l2 0 →
      (∀ c o, s.heap.get? c = some o → h'.get? c = some o) → Q (.ref (s.heap.objs.size + 4)) { s with heap := h' }) : wpAny (model P w) A (call (.type "zip") [.ref l1, .ref l2]) Q E s := by
  refine callType_new F.called_zip (by decide) (F.typeCall_zip_2 _ _) (F.newCall_zip_2 _ _) (fun obj => F.args_object_init_3 obj _ _) F.entry_zip_new (meets_zipT l1 l2 xs ys) ⟨hl1, hl2, ?_⟩
  have n1 : (tzA s.heap l1).objs.size = s.heap.objs.size + 1 := Heap.size_push ..
  have n2 : (tzB s.heap l1 l2).objs.size = s.heap.objs.size + 2 := by rw [Heap.size_push, n1]
  have n3 : (tzC s.heap l1 l2).objs.size = s.heap.objs.size + 3 := by rw [Heap.size_push, n2]
  have n4 : (tzD s.heap l1 l2).objs.size = s.heap.objs.size + 4 := by rw [Heap.size_push, n3]
  have q5 : (tzE s.heap l1 l2).get? (tzD s.heap l1 l2).objs.size = some _ := Heap.get?_push_size _ rfl
  have q4 : (tzE s.heap l1 l2).get? (tzC s.heap l1 l2).objs.size = some _ := Heap.get?_push_of_some _ (Heap.get?_push_size _ rfl)
  have q3 : (tzE s.heap l1 l2).get? (tzB s.heap l1 l2).objs.size = some _ := Heap.get?_push_of_some _ (Heap.get?_push_of_some _ (Heap.get?_push_size _ rfl))
  have q2 : (tzE s.heap l1 l2).get? (tzA s.heap l1).objs.size = some _ := Heap.get?_push_of_some _ (Heap.get?_push_of_some _ (Heap.get?_push_of_some _ (Heap.get?_push_size _ rfl)))
  have q1 : (tzE s.heap l1 l2).get? s.heap.objs.size = some _ := Heap.get?_push_of_some _ (Heap.get?_push_of_some _ (Heap.get?_push_of_some _ (Heap.get?_push_of_some _ (Heap.get?_push_size _ rfl))))
  show _ ∧ _
  rw [n2, n3, n4] at q5
  rw [n1, n2] at q3
  rw [n3] at q4
  rw [n1] at q2
  rw [n4]
  exact ⟨⟨_, q5, rfl⟩, h _ q5 q3 q4 ⟨_, q1, rfl, rfl⟩ ⟨_, q2, rfl, rfl⟩ fun c o x => Heap.get?_push_of_some _ (Heap.get?_push_of_some _ (Heap.get?_push_of_some _ (Heap.get?_push_of_some _ (Heap.get?_push_of_some _ x))))⟩
end
theorem za_of {n l1 l2 : Addr} (h1 : l1 < n) (h2 : l2 < n) : ZA (n + 4) (n + 2) (n + 3) n (n + 1) l1 l2 := by
  have h1 : @LT.lt Nat _ l1 n := h1
  have h2 : @LT.lt Nat _ l2 n := h2
  have key : ∀ (a b : Nat), (a < b ∨ b < a) → ¬ (@Eq Nat a b) := fun a b h q => by omega
  exact ⟨key _ _ (by omega), key _ _ (by omega), key _ _ (by omega), key _ _ (by omega), key _ _ (by omega), key _ _ (by omega), key _ _ (by omega), key _ _ (by omega), key _ _ (by omega), key _ _ (by omega),
    key _ _ (by omega), key _ _ (by omega), key _ _ (by omega), key _ _ (by omega), key _ _ (by omega), key _ _ (by omega), key _ _ (by omega), key _ _ (by omega)⟩
/-- zip(a, b) of two lists, or of two tuples -/
def iZip (K : PySem.W.Frag) (ta : TA) : TI := fun σ H R => ta σ H fun vs H1 => ∃ l1 l2, vs = [.ref l1, .ref l2] ∧
  ((∃ xs ys, SqL K H1 l1 xs ∧ SqL K H1 l2 ys ∧ R (Itz SqL K l1 l2) H1) ∨ (∃ xs ys, SqT K H1 l1 xs ∧ SqT K H1 l2 ys ∧ R (Itz SqT K l1 l2) H1))
theorem pi_zip {X : Cx} {a b : Expr} {ta : TA} {p pos : Pos} {elts : List Expr} {ek : Nat} {epos : Pos} (hg : Gl X "zip") (hm : X.mg "zip" = none) (ha : PA X [a, b] ta) (hs : starEach [a, b] X.env = [(false, eval a X.env), (false, eval b X.env)] := by rfl) (hs2 : starEach [b] X.env = [(false, eval b X.env)] := by rfl) :
    PI X (.Tuple elts ek epos) (.Call (.Name "zip" p) [a, b] [] pos) (iZip X.K ta) := by
  intro pins s σ H R I h
  refine Call_ (ld_blt I hg hm boot_zip (PyProof.Rows.callWith_type1 (thn (ha pos pins s σ H _ I h) fun us s1 ⟨vs, H1, I1, r1, q1⟩ => ?_) (by rw [hs, hs2]) (by rw [hs2]; rfl)))
  obtain ⟨l1, l2, e, q1⟩ := q1
  subst e
  obtain ⟨u1, u2, rfl, ru1, ru2⟩ := vals2 r1
  cases ru1
  cases ru2
  have fin : ∀ {sq : PySem.W.Frag → Hp → Addr → List V → Prop} {Hs : Addr → Heap → List Value → Prop} {S1 S2 : Nat → Heap → Prop} {h' : Heap}, SqK sq Hs → l1 < s1.heap.objs.size → l2 < s1.heap.objs.size → Drw X.prog X.w s1.heap.objs.size l1 S1 (Hs l1) → Drw X.prog X.w (s1.heap.objs.size + 1) l2 S2 (Hs l2) →
      IsZip h' (s1.heap.objs.size + 4) (s1.heap.objs.size + 2) (s1.heap.objs.size + 3) .none → IsPair h' (s1.heap.objs.size + 2) (.ref s1.heap.objs.size) (.ref (s1.heap.objs.size + 1)) → IsPair h' (s1.heap.objs.size + 3) .none .none → S1 0 h' → S2 0 h' → (∀ c o, s1.heap.get? c = some o → h'.get? c = some o) → R (Itz sq X.K l1 l2) H1 →
      wpAny (model X.prog X.w) X.A (pyIter (.ref (s1.heap.objs.size + 4))) (PIE X pins σ (.Tuple elts ek epos) R) X.xe { s1 with heap := h' } := by
    intro sq Hs S1 S2 h' SK b1 b2 D1 D2 z0 t1 t0 st1 st2 kp q
    refine wpAny_pyIter_zip z0 ?_
    refine ⟨s1.heap.objs.size + 4, _, _, _, H1, rfl, I1.kept (h' := h') (t' := s1.toks) kp, turn_zip SK (za_of b1 b2) D1 D2, ⟨z0, t1, ⟨_, _, t0⟩, st1, st2⟩, fun c hc => ?_, q⟩
    have hle : s1.heap.objs.size ≤ c := by
      simp only [List.mem_cons, List.not_mem_nil, or_false] at hc
      have : (s1.heap.objs.size : Nat) ≤ (c : Nat) := by rcases hc with rfl | rfl | rfl | rfl | rfl <;> omega
      exact this
    exact I1.fpOk hle (I1.hok.fresh hle)
  rcases q1 with ⟨xs, ys, h1, h2, q⟩ | ⟨xs, ys, h1, h2, q⟩
  · obtain ⟨its1, r1, p1, _⟩ := I1.list h1
    obtain ⟨its2, r2, p2, _⟩ := I1.list h2
    have b1 : l1 < s1.heap.objs.size := by obtain ⟨o, n, e, _⟩ := p1; exact Heap.lt_size e
    have b2 : l2 < s1.heap.objs.size := by obtain ⟨o, n, e, _⟩ := p2; exact Heap.lt_size e
    exact call_zip_2 p1.isList p2.isList fun h' z0 t1 t0 st1 st2 _ kp => fin sqk_list b1 b2 (drw_list _ _) (drw_list _ _) z0 t1 t0 st1 st2 kp q
  · obtain ⟨its1, r1, p1, _⟩ := I1.tuple h1
    obtain ⟨its2, r2, p2, _⟩ := I1.tuple h2
    have b1 : l1 < s1.heap.objs.size := by obtain ⟨o, e, _⟩ := p1; exact Heap.lt_size e
    have b2 : l2 < s1.heap.objs.size := by obtain ⟨o, e, _⟩ := p2; exact Heap.lt_size e
    exact call_zipT p1 p2 fun h' z0 t1 t0 st1 st2 kp => fin sqk_tup b1 b2 (drw_tuple _ _) (drw_tuple _ _) z0 t1 t0 st1 st2 kp q
theorem qi_zip {X : Cx} {a b : Expr} {ta : TA} {p pos : Pos} {elts : List Expr} {ek : Nat} {epos : Pos} (hg : Gl X "zip") (hm : X.mg "zip" = none) (ha : QA X [a, b] ta) (hs : starEach [a, b] X.env = [(false, eval a X.env), (false, eval b X.env)] := by rfl) (hs2 : starEach [b] X.env = [(false, eval b X.env)] := by rfl) :
    QI X (.Tuple elts ek epos) (.Call (.Name "zip" p) [a, b] [] pos) (iZip X.K ta) := ⟨pi_zip hg hm ha.h hs hs2⟩
/-- a loop over a zip of two rows that stay -/
theorem forW_zip {sq : PySem.W.Frag → Hp → Addr → List V → Prop} {K : PySem.W.Frag} {l1 l2 : Addr} {g : TG} {tb : TS} {D : Ends} {σ : St} {H : Hp} (xs ys : List V) (hxy : xs.length = ys.length) (Pv : Nat → St → Hp → Prop) (h0 : Pv 0 σ H) (hl : ∀ i σ H, i ≤ xs.length → Pv i σ H → sq K H l1 xs ∧ sq K H l2 ys)
    (hs : ∀ i x y p σ H, xs[i]? = some x → ys[i]? = some y → Pv i σ H → H p = none → g (.ref p) σ (upd H p (.tup [x, y])) fun σ2 H2 => tb { D with nx := Pv (i + 1), ct := Pv (i + 1), bk := D.nx } σ2 H2) (hd : ∀ σ H, Pv xs.length σ H → D.nx σ H) : tForW (Itz sq K l1 l2) g tb D σ H := by
  refine ⟨fun i m σ H => m = xs.length - i ∧ i ≤ xs.length ∧ Pv i σ H, ⟨xs.length, by simp, Nat.zero_le _, h0⟩, ?_⟩
  rintro i m σ H ⟨rfl, hi, p⟩
  obtain ⟨q1, q2⟩ := hl i σ H hi p
  by_cases hlt : i < xs.length
  · refine .inr ⟨⟨xs, ys, q1, q2, hlt, by omega⟩, Pv (i + 1), fun σ' H' p' => ⟨xs.length - (i + 1), by omega, rfl, hlt, p'⟩, fun v H' y => ?_⟩
    obtain ⟨pp, a, b, rfl, hp, rfl, hv⟩ := y
    obtain ⟨e1, e2⟩ := hv xs ys q1 q2
    exact hs i a b pp σ H e1 e2 p hp
  · have e : i = xs.length := by omega
    subst e
    exact .inl ⟨⟨xs, ys, q1, q2, .inl (Nat.le_refl _)⟩, hd σ H p⟩
end L2

end
section
set_option Elab.async false
set_option linter.all false
set_option maxRecDepth 100000
set_option maxHeartbeats 4000000
/-! DATA as trees, and how a heap bears them. -/
namespace L2
open PySem PySem.Spec PyProof.Rows
inductive D where
  | non | bl (b : Bool) | int (i : Int) | str (x : Str) | tup (xs : List D) | lst (xs : List D)
mutual
def Rep (H : Hp) : D → V → Prop
  | .non, v => v = .non
  | .bl b, v => v = .bl b
  | .int i, v => v = .int i
  | .str x, v => v = .str x
  | .tup ds, v => ∃ a vs, v = .ref a ∧ H a = some (.tup vs) ∧ RepL H ds vs
  | .lst ds, v => ∃ a vs, v = .ref a ∧ H a = some (.lst vs) ∧ RepL H ds vs
def RepL (H : Hp) : List D → List V → Prop
  | [], vs => vs = []
  | d :: ds, vs => ∃ v r, vs = v :: r ∧ Rep H d v ∧ RepL H ds r
end
mutual
theorem Rep.mono {H H' : Hp} (k : Same H H') : ∀ (d : D) (v : V), Rep H d v → Rep H' d v
  | .non, v, h => h
  | .bl b, v, h => h
  | .int i, v, h => h
  | .str x, v, h => h
  | .tup ds, v, h => by
    obtain ⟨a, vs, e, h1, h2⟩ := h
    exact ⟨a, vs, e, k _ _ h1, RepL.mono k ds vs h2⟩
  | .lst ds, v, h => by
    obtain ⟨a, vs, e, h1, h2⟩ := h
    exact ⟨a, vs, e, k _ _ h1, RepL.mono k ds vs h2⟩
theorem RepL.mono {H H' : Hp} (k : Same H H') : ∀ (ds : List D) (vs : List V), RepL H ds vs → RepL H' ds vs
  | [], vs, h => h
  | d :: ds, vs, h => by
    obtain ⟨v, r, e, h1, h2⟩ := h
    exact ⟨v, r, e, Rep.mono k d v h1, RepL.mono k ds r h2⟩
end
theorem RepL.length {H : Hp} : ∀ {ds : List D} {vs : List V}, RepL H ds vs → vs.length = ds.length
  | [], vs, h => by cases h; rfl
  | d :: ds, vs, h => by
    obtain ⟨v, r, rfl, h1, h2⟩ := h
    rw [List.length_cons, List.length_cons, RepL.length h2]
theorem RepL.get {H : Hp} : ∀ {ds : List D} {vs : List V} {i : Nat} {v : V}, RepL H ds vs → vs[i]? = some v → ∃ d, ds[i]? = some d ∧ Rep H d v
  | [], vs, i, v, h, e => by cases h; simp at e
  | d :: ds, vs, i, v, h, e => by
    obtain ⟨w, r, rfl, h1, h2⟩ := h
    cases i with
    | zero => simp at e; subst e; exact ⟨d, rfl, h1⟩
    | succ i => simp at e; exact RepL.get (i := i) h2 e
mutual
def sameD : D → D → Bool
  | .non, .non => true
  | .bl a, .bl b => a == b
  | .int a, .int b => a == b
  | .str a, .str b => a == b
  | .tup a, .tup b => sameL a b
  | .lst a, .lst b => sameL a b
  | _, _ => false
def sameL : List D → List D → Bool
  | [], [] => true
  | a :: r, b :: s => sameD a b && sameL r s
  | _, _ => false
end
mutual
theorem sameD_refl : ∀ d : D, sameD d d = true
  | .non => rfl
  | .bl _ => by simp [sameD]
  | .int _ => by simp [sameD]
  | .str _ => by simp [sameD]
  | .tup ds => by rw [sameD]; exact sameL_refl ds
  | .lst ds => by rw [sameD]; exact sameL_refl ds
theorem sameL_refl : ∀ ds : List D, sameL ds ds = true
  | [] => rfl
  | d :: ds => by rw [sameL, sameD_refl d, sameL_refl ds]; rfl
end
mutual
def D.deep : D → Nat
  | .tup ds => deepL ds + 1
  | .lst ds => deepL ds + 1
  | _ => 0
def deepL : List D → Nat
  | [] => 0
  | d :: ds => max d.deep (deepL ds)
end
theorem deep_get : ∀ {ds : List D} {i : Nat} {d : D}, ds[i]? = some d → d.deep ≤ deepL ds
  | [], i, d, h => by simp at h
  | e :: ds, 0, d, h => by simp at h; subst h; rw [deepL]; omega
  | e :: ds, i + 1, d, h => by
    simp at h
    have := deep_get h
    rw [deepL]; omega
/-- what isinstance says -/
def isI : D → String → Bool
  | .non, _ => false
  | .bl _, c => c == "bool" || c == "int"
  | .int _, c => c == "int"
  | .str _, c => c == "str"
  | .tup _, c => c == "tuple"
  | .lst _, c => c == "list"
def fiveT : List String := ["bool", "int", "str", "list", "tuple"]
theorem isi {K : PySem.W.Frag} {H : Hp} {d : D} {v : V} (r : Rep H d v) (c : String) (hc : c ∈ fiveT) : ∃ t, TyOf K H v t ∧ PySem.W.kitOne K t (.type c) = some (isI d c) := by
  unfold fiveT at hc
  simp only [List.mem_cons, List.not_mem_nil, or_false] at hc
  cases d with
  | non => cases r; refine ⟨_, .non, ?_⟩; rcases hc with rfl | rfl | rfl | rfl | rfl <;> rfl
  | bl b => cases r; refine ⟨_, .bl b, ?_⟩; rcases hc with rfl | rfl | rfl | rfl | rfl <;> rfl
  | int i => cases r; refine ⟨_, .int i, ?_⟩; rcases hc with rfl | rfl | rfl | rfl | rfl <;> rfl
  | str x => cases r; refine ⟨_, .str x, ?_⟩; rcases hc with rfl | rfl | rfl | rfl | rfl <;> rfl
  | tup ds => obtain ⟨a, vs, rfl, h1, h2⟩ := r; refine ⟨_, .tup h1, ?_⟩; rcases hc with rfl | rfl | rfl | rfl | rfl <;> rfl
  | lst ds => obtain ⟨a, vs, rfl, h1, h2⟩ := r; refine ⟨_, .lst h1, ?_⟩; rcases hc with rfl | rfl | rfl | rfl | rfl <;> rfl
theorem Rep.none_iff {H : Hp} {d : D} {v : V} (r : Rep H d v) : decide (v = .non) = (match d with | .non => true | _ => false) := by
  cases d with
  | non => cases r; rfl
  | bl b => cases r; rfl
  | int i => cases r; rfl
  | str x => cases r; rfl
  | tup ds => obtain ⟨a, vs, rfl, h1, h2⟩ := r; rfl
  | lst ds => obtain ⟨a, vs, rfl, h1, h2⟩ := r; rfl
theorem sameL_take {as bs : List D} : ∀ {i : Nat} {a b : D}, as[i]? = some a → bs[i]? = some b → sameL (as.take (i + 1)) (bs.take (i + 1)) = (sameL (as.take i) (bs.take i) && sameD a b) := by
  induction as generalizing bs with
  | nil => intro i a b h; simp at h
  | cons x as ih =>
    intro i a b h1 h2
    cases bs with
    | nil => simp at h2
    | cons y bs =>
      cases i with
      | zero => simp at h1 h2; subst h1; subst h2; simp [sameL]
      | succ i =>
        simp at h1 h2
        have := ih h1 h2
        rw [List.take_succ_cons, List.take_succ_cons, sameL, this, List.take_succ_cons, List.take_succ_cons, sameL, Bool.and_assoc]
theorem sameL_false_len {as bs : List D} (h : as.length ≠ bs.length) : sameL as bs = false := by
  induction as generalizing bs with
  | nil => cases bs with
    | nil => exact absurd rfl h
    | cons y bs => rfl
  | cons x as ih => cases bs with
    | nil => rfl
    | cons y bs => rw [sameL, ih (fun e => h (by rw [List.length_cons, List.length_cons, e])), Bool.and_false]
theorem sameL_false_at {as bs : List D} {i : Nat} {a b : D} (h1 : as[i]? = some a) (h2 : bs[i]? = some b) (h : sameD a b = false) : sameL as bs = false := by
  induction as generalizing bs i with
  | nil => simp at h1
  | cons x as ih =>
    cases bs with
    | nil => simp at h2
    | cons y bs =>
      cases i with
      | zero => simp at h1 h2; subst h1; subst h2; rw [sameL, h, Bool.false_and]
      | succ i => simp at h1 h2; rw [sameL, ih h1 h2, Bool.and_false]
end L2
namespace L2
theorem Rep.mono' {H H' : Hp} {d : D} {v : V} (h : Rep H d v) (k : Same H H') : Rep H' d v := Rep.mono k d v h
end L2

end
section
set_option Elab.async false
set_option linter.all false
set_option maxRecDepth 100000
set_option maxHeartbeats 4000000
/-! DOWNWARD RANGES, and dicts keyed by tuples. -/
namespace L2
open PySem PySem.Spec PyProof.Rows
section
variable {X : Cx} {tg : Expr}
end
section
variable {g : TG} {tb : TS} {D : Ends} {σ : St} {H : Hp}
end
section
variable {X : Cx} {o i value : Expr} {pos pos' : Pos} {td ty tv : TE}
def rDNotIn : R2 := fun y x H Q => ∃ a o, x = .ref a ∧ DGet H a y o ∧ Q (.bl (!o.isSome)) H
def rDIn : R2 := fun y x H Q => ∃ a o, x = .ref a ∧ DGet H a y o ∧ Q (.bl o.isSome) H
theorem op_dnotin (hu : X.A.units + 1 < cLine) : OpR X (compareOp .NotIn) rDNotIn := by
  intro pins s σ H y x iv u Q I ry rx ⟨a, ov, ex, g, q⟩
  subst ex
  obtain rfl : u = Value.ref a := rx
  exact d_notIn hu I g ry fun s3 I3 => ⟨.bl (!ov.isSome), H, I3, rfl, q⟩
theorem op_din (hu : X.A.units + 1 < cLine) : OpR X (compareOp .In) rDIn := by
  intro pins s σ H y x iv u Q I ry rx ⟨a, ov, ex, g, q⟩
  subst ex
  obtain rfl : u = Value.ref a := rx
  exact d_in hu I g ry fun s3 I3 => ⟨.bl ov.isSome, H, I3, rfl, q⟩
theorem qop_dnotin {k : Nat} (hr : Room k X.A) : QOp X (compareOp .NotIn) rDNotIn := ⟨op_dnotin (by have := hr.units; omega)⟩
theorem qop_din {k : Nat} (hr : Room k X.A) : QOp X (compareOp .In) rDIn := ⟨op_din (by have := hr.units; omega)⟩
theorem qs_dput {k : Nat} (hr : Room k X.A) (ho : QE X o td) (hi : QE X i ty) (hv : QE X value tv) (hs : swapsWith value (some (.Subscript o i pos')) pos.line X.env = pure false := by rfl) :
    QS X (.Assign [.Subscript o i pos'] value pos) (sDPut td ty tv) := ⟨ps_dput (by have := hr.units; omega) ho.h hi.h hv.h hs⟩
end
end L2

end
section
set_option Elab.async false
set_option linter.all false
set_option maxRecDepth 100000
set_option maxHeartbeats 4000000
/-! == of pairs, and pairs looked up in a list. -/
namespace L2
open PySem PySem.Spec PyProof.Rows
section
variable {X : Cx}
end
end L2

end
section
set_option Elab.async false
set_option linter.all false
set_option maxRecDepth 100000
set_option maxHeartbeats 4000000
/-! a pair in a list of pairs -/
namespace L2
open PySem PySem.Spec PyProof.Rows
section
variable {X : Cx}
end
end L2

end
section
set_option Elab.async false
set_option linter.all false
set_option maxRecDepth 100000
set_option maxHeartbeats 4000000
/-! A SORT of fewer than 64 items whose questions are answered by ranks: a rising rearrangement comes out. -/
namespace L2
open PySem PySem.Spec PyProof.Rows PySem.W
def Ranks (cmp : Nat → Nat → (Bool → Shared → Prop) → Shared → Prop) (r : Nat → Nat) (N : Nat) (s : Shared) : Prop := ∀ (i j : Nat) (C : Bool → Shared → Prop), i < N → j < N → C (decide (r i < r j)) s → cmp i j C s
def kp (r : Nat → Nat) (p : Array Nat) (i : Nat) : Nat := r (p.getD i 0)
def Pm (N : Nat) (p : Array Nat) : Prop := p.toList.Perm (List.range N)
def UpTo (r : Nat → Nat) (p : Array Nat) (m : Nat) : Prop := ∀ i, i + 1 < m → kp r p i ≤ kp r p (i + 1)
section
variable {s : Shared} {cmp : Nat → Nat → (Bool → Shared → Prop) → Shared → Prop} {r : Nat → Nat} {N : Nat} {p : Array Nat}
theorem Pm.size (h : Pm N p) : p.size = N := by
  have := h.length_eq
  rw [List.length_range] at this
  simpa using this
theorem Pm.lt (h : Pm N p) {i : Nat} (hi : i < N) : p.getD i 0 < N := by
  have hs : i < p.size := by rw [h.size]; exact hi
  have e : p.getD i 0 = p[i] := by simp [Array.getD, hs]
  have m : p[i] ∈ p.toList := by simp
  rw [e]
  exact List.mem_range.mp (h.mem_iff.mp m)
theorem Pm.rev (h : Pm N p) (i j : Nat) : Pm N (kas_rev p i j) := (Array.perm_iff_toList_perm.mp (mirror_perm p i j _)).trans h
theorem Pm.bub (h : Pm N p) (i d : Nat) : Pm N (bubble p i d) := (Array.perm_iff_toList_perm.mp (bubble_perm p i d)).trans h
theorem kp_of {p q : Array Nat} {i j : Nat} (h : p[i]? = q[j]?) : kp r p i = kp r q j := by
  unfold kp
  rw [Array.getD_eq_getD_getElem?, Array.getD_eq_getD_getElem?, h]
theorem kp_rev (h : Pm N p) {i j k : Nat} (hj : j ≤ N) : kp r (kas_rev p i j) k = if i ≤ k ∧ k < j then kp r p (i + j - 1 - k) else kp r p k := by
  have e := getElem?_mirror_all (xs := p) (i := i) (j := j) (by rw [h.size]; exact hj) k
  by_cases c : i ≤ k ∧ k < j
  · rw [if_pos c] at e ⊢; exact kp_of e
  · rw [if_neg c] at e ⊢; exact kp_of e
theorem kp_bub (h : Pm N p) {k l i : Nat} (hk : k < N) (hl : l ≤ k) : kp r (bubble p k (k - l)) i = if i = l then kp r p k else if l < i ∧ i ≤ k then kp r p (i - 1) else kp r p i := by
  have e := getElem?_bubble (xs := p) (src := k) (by rw [h.size]; exact hk) (k - l) (by omega) i
  have x : k - (k - l) = l := by omega
  rw [x] at e
  by_cases c : i = l
  · rw [if_pos c] at e ⊢; exact kp_of e
  · rw [if_neg c] at e ⊢
    by_cases d : l < i ∧ i ≤ k
    · rw [if_pos d] at e ⊢; exact kp_of e
    · rw [if_neg d] at e ⊢; exact kp_of e
theorem up_le (h : UpTo r p m) : ∀ (d i : Nat), i + d < m → kp r p i ≤ kp r p (i + d)
  | 0, i, _ => Nat.le_refl _
  | d + 1, i, hi => Nat.le_trans (up_le h d i (by omega)) (h (i + d) (by omega))
end
end L2

namespace L2
/-! ranks by counting -/
structure Weak (lt : Nat → Nat → Bool) : Prop where
  irr : ∀ i, lt i i = false
  tr : ∀ i j k, lt i j = true → lt j k = true → lt i k = true
  neg : ∀ i j k, lt i j = true → lt i k = true ∨ lt k j = true
def rk (lt : Nat → Nat → Bool) (N i : Nat) : Nat := (List.range N).countP fun k => lt k i
theorem countP_less {p q : Nat → Bool} (h : ∀ k, p k = true → q k = true) {i : Nat} (hp : p i = false) (hq : q i = true) : ∀ l : List Nat, i ∈ l → l.countP p < l.countP q
  | [], m => nomatch m
  | x :: l, m => by
    have le := List.countP_mono_left (l := l) (p := p) (q := q) fun k _ => h k
    rw [List.countP_cons, List.countP_cons]
    rcases List.mem_cons.mp m with rfl | m
    · rw [hp, hq]
      simp
      omega
    · have := countP_less h hp hq l m
      by_cases z : p x = true
      · rw [z, h x z]; simp; omega
      · cases e : q x with
        | true => simp [z]; omega
        | false => simp [z]; omega
theorem rk_iff {lt : Nat → Nat → Bool} (W : Weak lt) {N i j : Nat} (hi : i < N) : decide (rk lt N i < rk lt N j) = lt i j := by
  unfold rk
  cases e : lt i j with
  | true => exact decide_eq_true (countP_less (fun k h => W.tr k i j h e) (W.irr i) e _ (List.mem_range.mpr hi))
  | false =>
    refine decide_eq_false (Nat.not_lt.mpr (List.countP_mono_left fun k _ h => ?_))
    rcases W.neg k j i h with z | z
    · exact z
    · rw [e] at z; cases z
end L2

namespace L2
open PySem PySem.Spec PyProof.Rows
/-! tuples of keys, place by place -/
end L2

namespace L2
open PySem PySem.Spec PyProof.Rows PySem.W
section
variable {prog : Program} {w : World} {A : Around} {E : Value → Shared → Prop} {s : Shared}
end
section
variable {X : Cx}
end
end L2

end
section
set_option Elab.async false
set_option linter.all false
set_option maxRecDepth 100000
set_option maxHeartbeats 4000000
/-! setdefault on a dict keyed by tuples; d.get; list.count. -/
namespace L2
open PySem PySem.Spec PyProof.Rows
section
variable {prog : Program} {w : World} {K : Type} [DecidableEq K] {knd : HeapKind prog w K} {A : Around} {E : Value → Shared → Prop} {s : Shared}
end
section
variable {X : Cx} {pins : List (Addr × Obj)} {σ : St} {H : Hp} {s : Shared} {a b : Addr} {z : V} {r : Value} {kvs : List (List Key × V)} {k : List Key} {A : Around} {E : Value → Shared → Prop}
end
section
variable {X : Cx} {o e f : Expr} {apos cpos : Pos} {td ty tx : TE} {n : Nat}
end
end L2

end
section
set_option Elab.async false
set_option linter.all false
namespace L2
open PySem PySem.Spec PyProof.Rows
/-- a statement that is never reached -/

theorem qs_never {X : Cx} {st : Stmt} : QS X st (fun _ _ _ => False) := ⟨fun _ _ _ _ _ _ h => h.elim⟩
end L2

end
section
set_option Elab.async false
set_option linter.all false
set_option maxRecDepth 100000
set_option maxHeartbeats 4000000
/-! ENUMERATE of a list, walked by a pair. -/
namespace L2
open PySem PySem.Spec PyProof.Rows
end L2

end
section
set_option Elab.async false
set_option linter.all false
set_option maxRecDepth 100000
set_option maxHeartbeats 4000000
/-! OWN CLASSES: fields, methods, dicts keyed by ints and texts. -/
namespace L2
open PySem PySem.Spec PyProof.Rows
/-- a method of the class as the top has made it -/
structure HasM (K : PySem.W.Frag) (C : Addr) (m qual : Str) (st : Stmt) : Prop where
  ex : ∃ (f : Addr) (fd : FuncData), Fun K m qual st f fd ∧ Meth K C m f
/-- a method with its promise -/
structure Mt (P : Program) (w : World) (K : PySem.W.Frag) (mg : Str → Option Value) (base : Heap) (C : Addr) (m : Str) (ps : List Str) (k : Nat) (sp : Sp) : Prop where
  ex : ∃ (f : Addr) (fd : FuncData), Meth K C m f ∧ FnOk P w K mg base CX0 k f fd ps sp ∧ Binds K fd ps []
section
variable {P : Program} {w : World} {K : PySem.W.Frag} {mg : Str → Option Value} {base : Heap} {C : Addr} {m qual : Str} {st : Stmt} {N ps : List Str} {k : Nat} {sp : Sp}
theorem HasM.mtQ (h : HasM K C m qual st) (S : FnScope N ps (defScope st))
    (hb : ∀ (kV doc pm : Value) (an : Option Addr) (cdv ct : Value) (us : List Value), us.length = ps.length → bindArgs (PySem.W.fnOf m qual (defArgs st) (defBody st) (defScope st) .none kV doc pm an cdv ct) ⟨us, []⟩ = pure (ps.zip us))
    (len : ∀ vs H Q E, sp vs H Q E → vs.length = ps.length)
    (hbody : ∀ (f : Addr) (cdv : Value) (A : Around) (outer : List Env) (s : Shared) (H : Hp) (vs : List V) (Q : VK) (E : XK), Room k (A.deeper (envOfC qual (defScope st) s.heap.objs.size f cdv)) → sp vs H Q E →
      ∃ t, QSs (cxOf CX0 P w K mg base N qual (defScope st) f cdv A outer s H E).nox (defBody st) t ∧ t { nx := fun _ H' => Q .non H', rt := Q } (start N vs) H) : Mt P w K mg base C m ps (k + 1) sp := by
  obtain ⟨f, fd, F, M⟩ := h.ex
  exact ⟨f, fd, M, F.okQ S len (hbody f), F.binds hb⟩
theorem hasM_mk {f : Addr} {oc : Value} {od an : Option Addr} {osl : Array (Option Value)} {kV doc pm cdv ct : Value} (a : PySem.W.findIn K (.ref C) m = some (some (.ref f))) (i : PySem.W.isFn K (.ref f) = true) (l : K.lookup f = some ⟨oc, od, .func (PySem.W.fnOf m qual (defArgs st) (defBody st) (defScope st) .none kV doc pm an cdv ct), osl⟩)
    (c : PySem.W.codeIn K cdv qual = true) (kp : PySem.W.keepIn K (.ref f) = true) : HasM K C m qual st := ⟨f, _, fun_mk l c kp, ⟨a, i, kp⟩⟩
/-- a class that is made by a call without arguments -/
structure Mks (P : Program) (w : World) (K : PySem.W.Frag) (mg : Str → Option Value) (base : Heap) (C : Addr) (x : Str) (k : Nat) (sp : Sp) : Prop where
  ex : ∃ (f : Addr) (fd : FuncData), Mk K C f ∧ FnOk P w K mg base CX0 k f fd ["self"] sp ∧ Binds K fd ["self"] [] ∧ mg x = some (.ref C)
theorem Mt.mks {x : Str} (h : Mt P w K mg base C "__init__" ["self"] k sp) (mk : PySem.W.makesIn K C = true) (kc : PySem.W.keepIn K (.ref C) = true) (g : mg x = some (.ref C)) : Mks P w K mg base C x k sp := by
  obtain ⟨f, fd, M, F, B⟩ := h.ex
  exact ⟨f, fd, ⟨mk, M.at_, M.fn, kc⟩, F, B, g⟩
end
section
variable {X : Cx} {C : Addr} {m x f : Str} {ps : List Str} {k : Nat} {sp : Sp} {o e value i : Expr} {es : List Expr} {ta td ty tv : TE} {t : TA} {apos pos pos' p : Pos}
theorem qe_mt {pl : Sem Bool} (he : QE X o ta) (c : Cls X.K C) (M : Mt X.prog X.w X.K X.mg X.base C m ps k sp) (hr : Room k X.A) (ha : QA X (e :: es) t)
    (hst : starEach (e :: es) X.env = (false, eval e X.env) :: starEach es X.env := by rfl) (hpl : (backTo pos (starEach es X.env)).any (·.1) = false := by rfl)
    (ht : eval (.Call (.Attribute o m apos) (e :: es) [] pos) X.env = (do
      let ov ← eval o X.env
      standAt apos.atName
      let (f, first) ← holding [ov] (getMethod ov m pl)
      callWith pos f first (backTo pos (starEach (e :: es) X.env)) (backToKw pos (keywordEach [] X.env))) := by rfl) :
    QE X (.Call (.Attribute o m apos) (e :: es) [] pos) (tMeth C m sp [] E0 ta t) := by
  obtain ⟨f, fd, M, F, B⟩ := M.ex
  exact ⟨pe_meth he.h c M F hr B .nil pass0 ha.h hst hpl ht⟩
theorem qe_mks (M : Mks X.prog X.w X.K X.mg X.base C x k sp) (hr : Room (k + 1) X.A) (n : Nm X.env.scope x .globalImplicit) : QE X (.Call (.Name x p) [] [] pos) (tMake C sp [] E0 tNil) := by
  obtain ⟨f, fd, M, F, B, g⟩ := M.ex
  exact ⟨pe_make0 M F hr n.1 g B .nil pass0 n.2.1⟩
theorem qe_fld (he : QE X e ta) (hb : attributeBase e f X.env (eval e X.env) = eval e X.env := by rfl) : QE X (.Attribute e f pos) (tFld X.K ta f) := ⟨pe_fld he.h hb⟩
theorem qs_fld (ha : QE X o ta) (hv : QE X value tv) (hs : swapsWith value (some (.Attribute o f pos')) pos.line X.env = pure false := by rfl) : QS X (.Assign [.Attribute o f pos'] value pos) (sFld X.K ta tv f) := ⟨ps_fld ha.h hv.h hs⟩
theorem qe_dnewK : QE X (.Dict [] [] pos) tDNewK := ⟨pe_dnewK⟩
theorem qe_dget (hr : Room k X.A) (ho : QE X o td) (hi : QE X i ty) (hs : NoSl i) : QE X (.Subscript o i pos) (tDGet td ty) := ⟨pe_dget (by have := hr.units; omega) ho.h hi.h hs⟩
/-- {k: v} -/
theorem qe_disp1 {ek ev : Expr} {tk tw : TE} (hk : QE X ek tk) (hv : QE X ev tw) : QE X (.Dict [some ek] [ev] pos) (tDisp [(tk, tw)]) := ⟨pe_disp (pps_cons hk.h hv.h pps_nil) rfl rfl (by simp) (by show 1 ≤ 15; decide)⟩
def rLenD : List V → Hp → VK → Prop := fun xs H Q => ∃ a kvs, xs = [V.ref a] ∧ H a = some (.dK kvs) ∧ Q (.int kvs.length) H
theorem qcall_lenD : QC X (.builtin "len") rLenD := ⟨call_lenD⟩
end
end L2

end
section
set_option Elab.async false
set_option linter.all false
set_option maxRecDepth 100000
set_option maxHeartbeats 4000000
/-! A DICT WALKED by its keys (frozen while it is walked), its keys as a list, the greatest of a list. -/
namespace L2
open PySem PySem.Spec PyProof.Rows
section
variable {X : Cx} {pins : List (Addr × Obj)} {σ : St} {H : Hp} {s : Shared}
end
section
variable {X : Cx} {e : Expr} {te : TE}
end
section
variable {X : Cx} {tg l : Expr} {te : TE}
end
/-! the greatest of a list of ints -/
section
variable {X : Cx}
end
end L2

end
section
set_option Elab.async false
set_option linter.all false
set_option maxRecDepth 100000
set_option maxHeartbeats 4000000
/-! A DICT WALKED by its pairs (frozen while it is walked), and copied. -/
namespace L2
open PySem PySem.Spec PyProof.Rows
section
variable {X : Cx} {o : Expr} {te : TE}
end
end L2

end
section
set_option Elab.async false
set_option linter.all false
set_option maxRecDepth 100000
set_option maxHeartbeats 4000000
/-! COMPREHENSIONS over an enumerated list, and over a frozen dict's pairs: each turn makes a tuple. -/
namespace L2
open PySem PySem.Spec PyProof.Rows
end L2

end
section
set_option Elab.async false
set_option linter.all false
set_option maxRecDepth 100000
set_option maxHeartbeats 4000000
/-! sorted(d) of a dict keyed by tuples: its keys walked as they lie, then sorted by ranks. -/
namespace L2
open PySem PySem.Spec PyProof.Rows PySem.W
section
variable {prog : Program} {w : World} {A : Around} {E : Value → Shared → Prop} {s : Shared} {d it : Addr} {es : Array DictEntry} {ep i : Nat}
end
section
variable {X : Cx}
end
end L2

end
section
set_option Elab.async false
set_option linter.all false
set_option maxRecDepth 100000
set_option maxHeartbeats 4000000
/-! sorted of a list of texts, by ranks: a rising rearrangement. -/
namespace L2
open PySem PySem.Spec PyProof.Rows PySem.W
def e0 : Str := ⟨#[]⟩
section
variable {X : Cx}
end
end L2

end
section
set_option Elab.async false
set_option linter.all false
set_option maxRecDepth 100000
set_option maxHeartbeats 4000000
/-! A DICT KEYED BY TUPLES walked by its pairs (frozen while it is walked). -/
namespace L2
open PySem PySem.Spec PyProof.Rows PySem.W
section
variable {prog : Program} {w : World} {A : Around} {E : Value → Shared → Prop} {s : Shared} {d it : Addr} {es : Array DictEntry} {ep i : Nat}
end
section
variable {X : Cx} {pins : List (Addr × Obj)} {σ : St} {H : Hp} {s : Shared}
end
section
variable {X : Cx} {e : Expr} {te : TE}
end
section
variable {X : Cx} {o : Expr} {te : TE}
end
end L2

end
section
set_option Elab.async false
set_option linter.all false
set_option maxRecDepth 100000
set_option maxHeartbeats 4000000
/-! A SORT of fewer than 64 items is STABLE: by rank, and of one rank in the order in which they stood. -/
namespace L2
open PySem PySem.Spec PyProof.Rows PySem.W
def LL (r : Nat → Nat) (a b : Nat) : Prop := r a < r b ∨ (r a = r b ∧ a < b)
theorem LL.le {r : Nat → Nat} {a b : Nat} (h : LL r a b) : r a ≤ r b := by rcases h with h | h <;> omega
structure Tl (N m : Nat) (p : Array Nat) : Prop where
  pm : Pm N p
  tl : ∀ j, m ≤ j → j < N → p.getD j 0 = j
  hd : ∀ j, j < m → p.getD j 0 < m
def UpS (r : Nat → Nat) (p : Array Nat) (m : Nat) : Prop := ∀ i, i + 1 < m → LL r (p.getD i 0) (p.getD (i + 1) 0)
def DnS (r : Nat → Nat) (p : Array Nat) (m : Nat) : Prop := ∀ i, i + 1 < m → LL r (p.getD (i + 1) 0) (p.getD i 0)
section
variable {s : Shared} {cmp : Nat → Nat → (Bool → Shared → Prop) → Shared → Prop} {r : Nat → Nat} {N : Nat} {p : Array Nat}
theorem UpS.up {m : Nat} (h : UpS r p m) : UpTo r p m := fun i hi => (h i hi).le
theorem at_rev (h : Pm N p) {i j k : Nat} (hj : j ≤ N) : (kas_rev p i j).getD k 0 = if i ≤ k ∧ k < j then p.getD (i + j - 1 - k) 0 else p.getD k 0 := kp_rev (r := id) h hj
theorem at_bub (h : Pm N p) {k l i : Nat} (hk : k < N) (hl : l ≤ k) : (bubble p k (k - l)).getD i 0 = if i = l then p.getD k 0 else if l < i ∧ i ≤ k then p.getD (i - 1) 0 else p.getD i 0 := kp_bub (r := id) h hk hl
theorem Tl.step {n : Nat} (h : Tl N n p) (hn : n < N) : Tl N (n + 1) p := ⟨h.pm, fun j a b => h.tl j (by omega) b, fun j hj => by
  by_cases e : j < n
  · have := h.hd j e; omega
  · have : j = n := by omega
    subst this
    rw [h.tl j (Nat.le_refl _) hn]; omega⟩
theorem Tl.rev {n i j : Nat} (h : Tl N n p) (hj : j ≤ n) (hn : n ≤ N) : Tl N n (kas_rev p i j) := ⟨h.pm.rev i j, fun k a b => by rw [at_rev h.pm (by omega), if_neg (by omega)]; exact h.tl k a b, fun k hk => by
  rw [at_rev h.pm (by omega)]
  by_cases c : i ≤ k ∧ k < j
  · rw [if_pos c]; exact h.hd _ (by omega)
  · rw [if_neg c]; exact h.hd k hk⟩
theorem asc_okS (hR : Ranks cmp r N s) {Q : Nat → Shared → Prop} : ∀ (f n : Nat), 1 ≤ n → n + f ≤ N → Tl N n p → UpS r p n → (∀ m, n ≤ m → m ≤ n + f → Tl N m p → UpS r p m → (m < n + f → r (p.getD m 0) < r (p.getD (m - 1) 0)) → Q m s) → (kas_asc p f n).kasWp cmp Q s
  | 0, n, h1, h2, ht, hu, k => k n (Nat.le_refl _) (Nat.le_refl _) ht hu (fun z => by omega)
  | f + 1, n, h1, h2, ht, hu, k => by
    refine hR _ _ _ (ht.pm.lt (by omega)) (ht.pm.lt (by omega)) ?_
    by_cases c : r (p.getD n 0) < r (p.getD (n - 1) 0)
    · rw [decide_eq_true c]
      exact k n (Nat.le_refl _) (by omega) ht hu fun _ => c
    · rw [decide_eq_false c]
      refine asc_okS hR f (n + 1) (by omega) (by omega) (ht.step (by omega)) (fun i hi => ?_) fun m a b t u d => k m (by omega) (by omega) t u (fun z => d (by omega))
      by_cases e : i + 1 < n
      · exact hu i e
      · have : i = n - 1 := by omega
        subst this
        rw [show n - 1 + 1 = n by omega]
        have e1 := ht.tl n (Nat.le_refl _) (by omega)
        have e2 := ht.hd (n - 1) (by omega)
        rw [e1] at c ⊢
        unfold LL
        omega
/-- a run that goes down; its last items, from b on, are of one rank and still stand as they came -/
structure Dn (r : Nat → Nat) (p : Array Nat) (z n : Nat) : Prop where
  a : ∀ i, i + 1 ≤ z → LL r (p.getD (i + 1) 0) (p.getD i 0)
  b : ∀ i, i + 1 = z → r (p.getD (i + 1) 0) < r (p.getD i 0)
  c : ∀ i, z ≤ i → i + 1 < n → r (p.getD i 0) = r (p.getD (i + 1) 0) ∧ p.getD i 0 < p.getD (i + 1) 0
theorem Dn.eq {b n : Nat} (h : Dn r p b n) : ∀ d, b + d < n → r (p.getD b 0) = r (p.getD (b + d) 0)
  | 0, _ => rfl
  | d + 1, hd => (h.eq d (by omega)).trans (h.c (b + d) (by omega) (by omega)).1
theorem Dn.flip {b n : Nat} (h : Dn r p b n) (hp : Pm N p) (hb : b < n) (hn : n ≤ N) : DnS r (kas_rev p b n) n := fun i hi => by
  rw [at_rev hp hn, at_rev hp hn]
  by_cases c1 : i + 1 < b
  · rw [if_neg (by omega), if_neg (by omega)]; exact h.a i (by omega)
  · by_cases c2 : i + 1 = b
    · rw [if_pos (by omega), if_neg (by omega), show b + n - 1 - (i + 1) = n - 1 by omega]
      have e := h.eq (n - 1 - b) (by omega)
      rw [show b + (n - 1 - b) = n - 1 by omega] at e
      have e2 := h.b i c2
      rw [c2] at e2
      exact .inl (by omega)
    · rw [if_pos (by omega), if_pos (by omega)]
      have e := h.c (b + n - 1 - (i + 1)) (by omega) (by omega)
      rw [show b + n - 1 - (i + 1) + 1 = b + n - 1 - i by omega] at e
      exact .inr e
theorem desc_okS (hR : Ranks cmp r N s) {Q : Array Nat × Nat × Nat → Shared → Prop} : ∀ (f : Nat) (p : Array Nat) (n q : Nat), Tl N n p → 1 ≤ n → n + f ≤ N → q + 1 ≤ n → Dn r p (n - (q + 1)) n →
    (∀ (p' : Array Nat) (m q' : Nat), Tl N m p' → n ≤ m → m ≤ n + f → q' + 1 ≤ m → Dn r p' (m - (q' + 1)) m → Q (p', m, q') s) → (kas_desc f p n q).kasWp cmp Q s
  | 0, p, n, q, hp, h1, h2, hq, hd, k => k p n q hp (Nat.le_refl _) (Nat.le_refl _) hq hd
  | f + 1, p, n, q, hp, h1, h2, hq, hd, k => by
    refine hR _ _ _ (hp.pm.lt (by omega)) (hp.pm.lt (by omega)) ?_
    by_cases c : r (p.getD n 0) < r (p.getD (n - 1) 0)
    · rw [decide_eq_true c]
      show (if true = true then (if q > 0 then kas_desc f (kas_rev p (n - (q + 1)) n) (n + 1) 0 else kas_desc f p (n + 1) 0) else _).kasWp cmp Q s
      rw [if_pos rfl]
      by_cases z : q > 0
      · rw [if_pos z]
        have fl := hd.flip hp.pm (by omega) (by omega)
        have last : r ((kas_rev p (n - (q + 1)) n).getD n 0) < r ((kas_rev p (n - (q + 1)) n).getD (n - 1) 0) := by
          rw [at_rev hp.pm (by omega), at_rev hp.pm (by omega), if_neg (by omega), if_pos (by omega), show n - (q + 1) + n - 1 - (n - 1) = n - (q + 1) by omega]
          have e := hd.eq q (by omega)
          rw [show n - (q + 1) + q = n - 1 by omega] at e
          omega
        refine desc_okS hR f _ (n + 1) 0 ((hp.rev (by omega) (by omega)).step (by omega)) (by omega) (by omega) (by omega) ⟨fun i hi => ?_, fun i hi => ?_, fun i a b => by omega⟩ fun p' m q' a b c' d e => k p' m q' a (by omega) (by omega) d e
        · by_cases e : i + 1 < n
          · exact fl i e
          · have : i = n - 1 := by omega
            subst this
            rw [show n - 1 + 1 = n by omega]
            exact .inl last
        · have : i = n - 1 := by omega
          subst this
          rw [show n - 1 + 1 = n by omega]
          exact last
      · rw [if_neg z]
        have q0 : q = 0 := by omega
        subst q0
        refine desc_okS hR f p (n + 1) 0 (hp.step (by omega)) (by omega) (by omega) (by omega) ⟨fun i hi => ?_, fun i hi => ?_, fun i a b => by omega⟩ fun p' m q' a b c' d e => k p' m q' a (by omega) (by omega) d e
        · by_cases e : i + 1 < n
          · exact hd.a i (by omega)
          · have : i = n - 1 := by omega
            subst this
            rw [show n - 1 + 1 = n by omega]
            exact .inl c
        · have : i = n - 1 := by omega
          subst this
          rw [show n - 1 + 1 = n by omega]
          exact c
    · rw [decide_eq_false c]
      show (if false = true then _ else KasT.ask (p.getD (n - 1) 0) (p.getD n 0) fun d => if d = true then .ret (p, n, q) else kas_desc f p (n + 1) (q + 1)).kasWp cmp Q s
      rw [if_neg Bool.false_ne_true]
      refine hR _ _ _ (hp.pm.lt (by omega)) (hp.pm.lt (by omega)) ?_
      by_cases d : r (p.getD (n - 1) 0) < r (p.getD n 0)
      · rw [decide_eq_true d]
        exact k p n q hp (Nat.le_refl _) (by omega) hq hd
      · rw [decide_eq_false d]
        have e1 := hp.tl n (Nat.le_refl _) (by omega)
        have e2 := hp.hd (n - 1) (by omega)
        have eb : n + 1 - (q + 1 + 1) = n - (q + 1) := by omega
        refine desc_okS hR f p (n + 1) (q + 1) (hp.step (by omega)) (by omega) (by omega) (by omega) (by
          rw [eb]
          refine ⟨hd.a, hd.b, fun i a b => ?_⟩
          by_cases e : i + 1 < n
          · exact hd.c i a e
          · have : i = n - 1 := by omega
            subst this
            rw [show n - 1 + 1 = n by omega]
            exact ⟨by omega, by omega⟩) fun p' m q' a b c' d e => k p' m q' a (by omega) (by omega) d e
theorem rev_upS (h : Pm N p) {n : Nat} (hn : n ≤ N) (hd : DnS r p n) : UpS r (kas_rev p 0 n) n := fun i hi => by
  rw [at_rev h hn, at_rev h hn, if_pos (by omega), if_pos (by omega)]
  have := hd (0 + n - 1 - (i + 1)) (by omega)
  rw [show 0 + n - 1 - (i + 1) + 1 = 0 + n - 1 - i by omega] at this
  exact this
def RunsS (r : Nat → Nat) (N : Nat) (Q : Nat × Array Nat → Shared → Prop) (s : Shared) : Prop := ∀ (m : Nat) (p : Array Nat), 1 ≤ m → m ≤ N → Tl N m p → UpS r p m → Q (m, p) s
theorem tail_okS (hR : Ranks cmp r N s) {n : Nat} (h : Tl N n p) {Q : Nat × Array Nat → Shared → Prop} (k : RunsS r N Q s) (h1 : 1 ≤ n) (hn : n ≤ N) (hd : DnS r p n) : (kas_tail3 n N p).kasWp cmp Q s := by
  unfold kas_tail3
  rw [KasT.kasWp_bind]
  exact asc_okS hR (N - n) n h1 (by omega) (h.rev (Nat.le_refl _) hn) (rev_upS h.pm hn hd) fun m a b t u _ => k m _ (by omega) (by omega) t u
theorem part_okS (hR : Ranks cmp r N s) {n : Nat} (h : Tl N (n + 1) p) {Q : Nat × Array Nat → Shared → Prop} (k : RunsS r N Q s) (hn : n + 1 ≤ N) (hd : Dn r p n (n + 1)) : (kas_descPart n N p).kasWp cmp Q s := by
  unfold kas_descPart
  rw [KasT.kasWp_bind]
  refine desc_okS hR (N - (n + 1)) p (n + 1) 0 h (by omega) (by omega) (by omega) hd fun p' m q' a b c d e => ?_
  dsimp only
  by_cases z : q' > 0
  · rw [if_pos z]
    exact tail_okS hR (a.rev (Nat.le_refl _) (by omega)) k (by omega) (by omega) (e.flip a.pm (by omega) (by omega))
  · rw [if_neg z]
    exact tail_okS hR a k (by omega) (by omega) fun i hi => e.a i (by omega)
theorem count_okS (hR : Ranks cmp r N s) (h : Tl N 1 p) (h1 : 1 ≤ N) {Q : Nat × Array Nat → Shared → Prop} (k : RunsS r N Q s) : (kas_count N p).kasWp cmp Q s := by
  unfold kas_count
  rw [KasT.kasWp_bind]
  refine asc_okS hR (N - 1) 1 (Nat.le_refl _) (by omega) h (fun i hi => by omega) fun m a b t u d => ?_
  by_cases z : m = N
  · rw [if_pos (by rw [z]; exact beq_self_eq_true N)]
    exact k m p a (by omega) t u
  · rw [if_neg (fun e => z (eq_of_beq e))]
    have dm := d (by omega)
    by_cases y : m > 1
    · rw [if_pos y]
      refine hR _ _ _ (h.pm.lt (by omega)) (h.pm.lt (by omega)) ?_
      by_cases c : r (p.getD 0 0) < r (p.getD (m - 1) 0)
      · rw [decide_eq_true c]
        exact k m p a (by omega) t u
      · rw [decide_eq_false c]
        have all : ∀ i, i < m → r (p.getD i 0) = r (p.getD (m - 1) 0) := fun i hi => by
          have h0 := up_le u.up i 0 (by omega)
          have h2 := up_le u.up (m - 1 - i) i (by omega)
          rw [show 0 + i = i by omega] at h0
          rw [show i + (m - 1 - i) = m - 1 by omega] at h2
          unfold kp at h0 h2
          omega
        refine part_okS hR ((t.rev (Nat.le_refl _) (by omega)).step (by omega)) k (by omega) ⟨fun i hi => ?_, fun i hi => ?_, fun i a b => by omega⟩
        · rw [at_rev h.pm (by omega), at_rev h.pm (by omega)]
          by_cases e : i + 1 < m
          · rw [if_pos (by omega), if_pos (by omega)]
            have e2 := u (0 + m - 1 - (i + 1)) (by omega)
            rw [show 0 + m - 1 - (i + 1) + 1 = 0 + m - 1 - i by omega] at e2
            have a1 := all (0 + m - 1 - (i + 1)) (by omega)
            have a2 := all (0 + m - 1 - i) (by omega)
            rcases e2 with e2 | e2
            · omega
            · exact .inr ⟨by omega, e2.2⟩
          · rw [if_neg (by omega), if_pos (by omega)]
            have e3 : i + 1 = m := by omega
            rw [e3, show 0 + m - 1 - i = 0 by omega]
            have := all 0 (by omega)
            exact .inl (by omega)
        · rw [at_rev h.pm (by omega), at_rev h.pm (by omega), if_neg (by omega), if_pos (by omega), hi, show 0 + m - 1 - i = 0 by omega]
          have := all 0 (by omega)
          omega
    · rw [if_neg y]
      have m1 : m = 1 := by omega
      subst m1
      refine part_okS hR (t.step (by omega)) k (by omega) ⟨fun i hi => ?_, fun i hi => ?_, fun i a b => by omega⟩
      · have : i = 0 := by omega
        subst this
        exact .inl dm
      · have : i = 0 := by omega
        subst this
        exact dm
theorem place_okS (hR : Ranks cmp r N s) (h : Pm N p) {Q : Nat → Shared → Prop} {k : Nat} (hk : k < N) (hu : UpTo r p k) (q : ∀ l, l ≤ k → (∀ i, i < l → kp r p i ≤ kp r p k) → (∀ i, l ≤ i → i < k → kp r p k < kp r p i) → Q l s) :
    ∀ (f l m : Nat), l ≤ m → m ≤ k → m - l ≤ f → (∀ i, i < l → kp r p i ≤ kp r p k) → (∀ i, m ≤ i → i < k → kp r p k < kp r p i) → (kas_place p k f l m).kasWp cmp Q s
  | 0, l, m, a, b, c, lo, hi => q l (by omega) lo fun i x y => hi i (by omega) y
  | f + 1, l, m, a, b, c, lo, hi => by
    show (if l ≥ m then KasT.ret l else _).kasWp cmp Q s
    by_cases z : l ≥ m
    · rw [if_pos z]
      exact q l (by omega) lo fun i x y => hi i (by omega) y
    · rw [if_neg z]
      refine hR _ _ _ (h.lt hk) (h.lt (by omega)) ?_
      by_cases y : r (p.getD k 0) < r (p.getD ((l + m) / 2) 0)
      · rw [decide_eq_true y]
        refine place_okS hR h hk hu q f l ((l + m) / 2) (by omega) (by omega) (by omega) lo fun i x w => ?_
        have := up_le hu (i - (l + m) / 2) ((l + m) / 2) (by omega)
        rw [show (l + m) / 2 + (i - (l + m) / 2) = i by omega] at this
        exact Nat.lt_of_lt_of_le y this
      · rw [decide_eq_false y]
        refine place_okS hR h hk hu q f ((l + m) / 2 + 1) m (by omega) b (by omega) (fun i x => ?_) hi
        have := up_le hu ((l + m) / 2 - i) i (by omega)
        rw [show i + ((l + m) / 2 - i) = (l + m) / 2 by omega] at this
        exact Nat.le_trans this (Nat.le_of_not_lt y)
theorem bin_okS (hR : Ranks cmp r N s) {Q : Array Nat → Shared → Prop} : ∀ (f : Nat) (p : Array Nat) (k : Nat), Tl N k p → k + f ≤ N → UpS r p k → (∀ p', Pm N p' → UpS r p' (k + f) → Q p' s) → (kas_bin f p k).kasWp cmp Q s
  | 0, p, k, h, hk, hu, q => q p h.pm hu
  | f + 1, p, k, h, hk, hu, q => by
    show ((kas_place p k k 0 k).bind fun l => kas_bin f (bubble p k (k - l)) (k + 1)).kasWp cmp Q s
    rw [KasT.kasWp_bind]
    refine place_okS hR h.pm (by omega) hu.up (fun l a lo hi => ?_) k 0 k (by omega) (by omega) (by omega) (fun i x => by omega) fun i x y => by omega
    have ek := h.tl k (Nat.le_refl _) (by omega)
    refine bin_okS hR f _ (k + 1) ⟨h.pm.bub _ _, fun j x y => ?_, fun j x => ?_⟩ (by omega) (fun i x => ?_) fun p' a b => q p' a (by rw [show k + (f + 1) = k + 1 + f by omega]; exact b)
    · rw [at_bub h.pm (by omega) a, if_neg (by omega), if_neg (by omega)]; exact h.tl j (by omega) y
    · rw [at_bub h.pm (by omega) a]
      by_cases c : j = l
      · rw [if_pos c, ek]; omega
      · rw [if_neg c]
        by_cases d : l < j ∧ j ≤ k
        · rw [if_pos d]; have := h.hd (j - 1) (by omega); omega
        · rw [if_neg d]; have := h.hd j (by omega); omega
    · rw [at_bub h.pm (by omega) a, at_bub h.pm (by omega) a]
      by_cases c : i = l
      · rw [if_pos c, if_neg (by omega), if_pos (by omega), show i + 1 - 1 = l by omega]
        exact .inl (hi l (by omega) (by omega))
      · rw [if_neg c]
        by_cases d : i + 1 = l
        · rw [if_pos d, if_neg (by omega)]
          have e1 := lo i (by omega)
          have e2 := h.hd i (by omega)
          unfold kp at e1
          rw [ek] at e1 ⊢
          unfold LL
          omega
        · rw [if_neg d]
          by_cases e : l < i
          · rw [if_pos (by omega), if_pos (by omega), show i + 1 - 1 = i - 1 + 1 by omega]
            exact hu (i - 1) (by omega)
          · rw [if_neg (by omega), if_neg (by omega)]
            exact hu i (by omega)
theorem sort_okS (hR : Ranks cmp r N s) (h2 : 1 ≤ N) {Q : Array Nat → Shared → Prop} (q : ∀ p, Pm N p → UpS r p N → Q p s) : (kas_sort N).kasWp cmp Q s := by
  unfold kas_sort
  rw [KasT.kasWp_bind]
  have id0 : ∀ j, j < N → (List.toArray (List.range N)).getD j 0 = j := fun j hj => by simp [Array.getD, hj]
  refine count_okS hR ⟨by show (List.toArray (List.range N)).toList.Perm _; exact List.Perm.refl _, fun j _ hj => id0 j hj, fun j hj => by rw [id0 j (by omega)]; exact hj⟩ h2 fun m p a b hp u => ?_
  by_cases c : m < N
  · rw [if_pos c]
    refine bin_okS hR _ p _ (by rw [Nat.max_eq_left a]; exact hp) (by omega) (by rw [Nat.max_eq_left a]; exact u) fun p' x y => q p' x ?_
    rw [show max m 1 + (N - max m 1) = N by omega] at y
    exact y
  · rw [if_neg c]
    exact q p hp.pm (by rw [show N = m by omega]; exact u)
theorem LL.tr {a b c : Nat} (h : LL r a b) (g : LL r b c) : LL r a c := by unfold LL at *; omega
theorem UpS.lt {m : Nat} (h : UpS r p m) : ∀ (d i : Nat), i + d + 1 < m → LL r (p.getD i 0) (p.getD (i + d + 1) 0)
  | 0, i, hi => h i hi
  | d + 1, i, hi => (UpS.lt h d i (by omega)).tr (h (i + d + 1) (by omega))
theorem UpS.pair (hp : Pm N p) (u : UpS r p N) : p.toList.Pairwise (LL r) := by
  rw [List.pairwise_iff_getElem]
  intro i j hi hj hij
  have hs := hp.size
  have hi' : i < p.size := by simpa using hi
  have hj' : j < p.size := by simpa using hj
  have := u.lt (j - i - 1) i (by omega)
  rw [show i + (j - i - 1) + 1 = j by omega] at this
  simpa [Array.getD, hi', hj'] using this
end
/-! keys that are ints -/
def kI (ks : List Int) (i : Nat) : Int := ks.getD i 0
/-- by key, and of one key by place -/
def LK (ks : List Int) (a b : Nat) : Prop := kI ks a < kI ks b ∨ (kI ks a = kI ks b ∧ a < b)
theorem weak_ints (ks : List Int) : Weak fun i j => decide (kI ks i < kI ks j) := ⟨fun i => decide_eq_false (Int.lt_irrefl _), fun i j k a b => by have := of_decide_eq_true a; have := of_decide_eq_true b; exact decide_eq_true (by omega),
  fun i j k a => by
    have := of_decide_eq_true a
    by_cases c : kI ks i < kI ks k
    · exact .inl (decide_eq_true c)
    · exact .inr (decide_eq_true (by omega))⟩
def rI' (ks : List Int) : Nat → Nat := rk (fun i j => decide (kI ks i < kI ks j)) ks.length
theorem rI_iff {ks : List Int} {i j : Nat} (hi : i < ks.length) : (rI' ks i < rI' ks j) ↔ kI ks i < kI ks j := by
  have := rk_iff (weak_ints ks) (i := i) (j := j) hi
  unfold rI'
  by_cases c : kI ks i < kI ks j
  · rw [decide_eq_true c] at this
    exact ⟨fun _ => c, fun _ => of_decide_eq_true this⟩
  · rw [decide_eq_false c] at this
    exact ⟨fun z => absurd z (of_decide_eq_false this), fun z => absurd z c⟩
theorem LL.key {ks : List Int} {i j : Nat} (hi : i < ks.length) (hj : j < ks.length) (h : LL (rI' ks) i j) : LK ks i j := by
  have a := rI_iff (ks := ks) (i := i) (j := j) hi
  have b := rI_iff (ks := ks) (i := j) (j := i) hj
  rcases h with h | ⟨h1, h2⟩
  · exact .inl (a.mp h)
  · refine .inr ⟨?_, h2⟩
    have : ¬ kI ks i < kI ks j := fun z => by have := a.mpr z; omega
    have : ¬ kI ks j < kI ks i := fun z => by have := b.mpr z; omega
    omega
theorem UpS.keys {ks : List Int} {p : Array Nat} (hp : Pm ks.length p) (u : UpS (rI' ks) p ks.length) : p.toList.Pairwise (LK ks) := by
  have hm : ∀ i ∈ p.toList, i < ks.length := fun i hi => List.mem_range.mp (hp.mem_iff.mp hi)
  exact List.Pairwise.imp_of_mem (fun hi hj h => LL.key (hm _ hi) (hm _ hj) h) (u.pair hp)
end L2

end
section
set_option Elab.async false
set_option linter.all false
set_option maxRecDepth 100000
set_option maxHeartbeats 4000000
/-! A LAMBDA as sorted's key: sorted(l, key=lambda x: ..), also with reverse=True. The code's table is tracked; its rows are loose. -/
namespace L2
open PySem PySem.Spec PyProof.Rows PySem.W
def IsTab (H : Hp) (P : Addr) (nm : Str) : Prop := ∃ ps t, H P = some (.tbl ps) ∧ ps[0]? = some (.str nm t)
theorem IsTab.same {H H' : Hp} {P : Addr} {nm : Str} (h : IsTab H P nm) (k : Same H H') : IsTab H' P nm := let ⟨ps, t, a, b⟩ := h; ⟨ps, t, k _ _ a, b⟩
theorem IsTab.x {H H' : Hp} {P s : Addr} {xs : List V} {nm : Str} (h : IsTab H P nm) (hs : H s = some (.lst xs)) (k : SameX s H H') : IsTab H' P nm := let ⟨ps, t, a, b⟩ := h; ⟨ps, t, k _ _ (fun z => by rw [z, hs] at a; cases a) a, b⟩
/-- what a call leaves of tables -/
def Tabs (H H' : Hp) : Prop := ∀ b ps, H b = some (.tbl ps) → ∃ more, H' b = some (.tbl (ps ++ more))
theorem IsTab.call {H H' : Hp} {P : Addr} {nm : Str} (h : IsTab H P nm) (k : Tabs H H') : IsTab H' P nm := by
  obtain ⟨ps, t, a, b⟩ := h
  obtain ⟨m, e⟩ := k _ _ a
  refine ⟨_, t, e, ?_⟩
  have h0 : 0 < ps.size := by
    rcases Nat.eq_zero_or_pos ps.size with z | z
    · rw [Array.getElem?_eq_none (by omega)] at b; cases b
    · exact z
  rw [Array.getElem?_append_left h0]; exact b
theorem FnOk.tabs {P : Program} {w : World} {K : Frag} {mg : Str → Option Value} {base : Heap} {k : Nat} {f : Addr} {fd : FuncData} {ps : List Str} {sp : Sp} (F : FnOk P w K mg base CX0 k f fd ps sp) :
    FnOk P w K mg base CX0 k f fd ps (fun vs H Q E => sp vs H (fun v H' => Tabs H H' → Q v H') E) :=
  ⟨fun vs H Q E h => F.len _ _ _ _ h, fun A outer s H args us vs Q E hr e0 hb hv hs => codeAny_mono (F.run A outer s H args us vs _ E hr e0 hb hv hs) fun r s' h => by
    cases r with
    | error e => exact h
    | ok fl =>
      cases fl with
      | ret u => obtain ⟨v, H', a, b, un, c, d, q⟩ := h; exact ⟨v, H', a, b, un, c, d, q un.tbls⟩
      | next => exact h
      | brk => exact h
      | cont => exact h⟩
theorem Fn.tabs {P : Program} {w : World} {K : Frag} {mg : Str → Option Value} {base : Heap} {x : Str} {ps : List Str} {k : Nat} {sp : Sp} (F : Fn P w K mg base x ps k sp) :
    Fn P w K mg base x ps k (fun vs H Q E => sp vs H (fun v H' => Tabs H H' → Q v H') E) := let ⟨f, fd, a, b, c, d⟩ := F; ⟨f, fd, a, b, c, d.tabs⟩
section
variable {P : Program} {w : World} {K : Frag} {mg : Str → Option Value} {base : Heap}
/-- a lambda of one argument is called -/
theorem lam_run {A : Around} {outer : List Env} {s : Shared} {H : Hp} {k : Nat} {name qual : Str} {params : Arguments} {body : Expr} {scope : Scope} {pm ctv : Value} {c f : Addr} {x : Str} {u : Value} {v : V} {te : TE} {Q : VK}
    (hr : Room k A) (e0 : Env0 P w K mg base A outer s H) (ho : s.heap.get? f = some (kla_obj name qual params body scope [] pm c ctv)) (hcd : s.heap.CodeRec (.ref c) qual) (S : FnScope [x] [x] scope)
    (hb : bindArgs (kla_fn name qual params body scope [] pm (.ref c) ctv) ⟨[u], []⟩ = pure [(x, u)]) (r : RelV v u)
    (hbody : PE (cxOf CX0 P w K mg base [x] qual scope f (.ref c) A outer s H E0) body te) (hq : te (start [x] [v]) H Q) :
    codeAny (model P w) A (.call (.ref f) ⟨[u], []⟩) (CR CX0 outer P w H s Q E0) s := by
  have lim : s.heap.NoLimit := e0.mod.nolimit.keeps fun b o e => (e0.bs b o e).1
  have hkind : ∀ y ∈ [(x, u)], scope.names.lookup y.1 = some .local ∨ (scope.names.lookup y.1 = some .cell ∧ ((cellsFrom (s.heap.objs.size + 1) scope.names []).lookup y.1).isSome = true) := fun ⟨n, v⟩ hy => by
    have e : (n, v) = (x, u) := by simpa using hy
    cases e
    rcases S.par x List.mem_cons_self with q | q
    · exact .inl q
    · exact .inr ⟨q, PySem.W.cellsFrom_some _ _ _ (.inl q)⟩
  refine kla_callFunE hr.depth ho rfl S.co S.gen rfl hcd ?_
  rw [hb]
  refine wpAny_pure (wpAny_newFunctionEnv_cells S.kind hkind fun env he s1 xx => ?_)
  subst he
  refine ⟨lim.keeps xx.toInCall.keep, kla_codeExpr ?_⟩
  have I : Inv (cxOf CX0 P w K mg base [x] qual scope f (.ref c) A outer s H E0) [] (start [x] [v]) H s1 := inv_start (ps := [x]) S hr.hd e0 rfl (.cons r .nil) xx
  exact wpAny_mono (hbody [] s1 _ H _ I hq) (fun v s' ⟨v', H', J, rv, q⟩ => ⟨v', H', J.os, J.bare, J.base, J.hok, rv, q⟩) fun e s' hs => hs
end
theorem among_snoc {pos p2 : Pos} {c cv : Value} (l : List Value) (h : TriplesOk l) (e : codeAmong pos (l ++ [rawInt p2.line, rawInt p2.col, c]) = some cv) : codeAmong pos l = some cv ∨ cv = c := by
  fun_induction TriplesOk l with
  | case1 =>
    simp only [List.nil_append, codeAmong, rawInt] at e
    split at e
    · cases e; exact .inr rfl
    · cases e
  | case2 a t b u x rest ih =>
    simp only [List.cons_append, codeAmong] at e ⊢
    split at e
    · rename_i hc; rw [if_pos hc]; exact .inl e
    · rename_i hc; rw [if_neg hc]; exact ih h e
  | case3 l h1 h2 => exact h.elim
/-- what a def that makes a lambda must have -/
structure LamX (X : Cx) (c P : Addr) (nm : Str) : Prop where
  code : X.env.code = .ref c
  hd : CodeHd X.base c P
  blt : X.base.BuiltinsAt X.mg P
  nmq : X.env.qual ++ "<lambda>" = nm
  gl : mainGlobals ≠ P
section
variable {X : Cx} {pins : List (Addr × Obj)} {σ : St} {H : Hp} {s : Shared} {c P : Addr} {nm : Str} {params : Arguments} {body : Expr} {scope : Scope} {lpos : Pos}
theorem Inv.pin1 {f : Addr} {o : Obj} (I : Inv X pins σ H s) (fp : FpOk X pins H f) (ho : s.heap.get? f = some o) (hc : ∀ v, o.data ≠ .cell v) : Inv X (pins ++ [(f, o)]) σ H s := I.pins_of fun p hp => (List.mem_append.mp hp).elim (fun z => I.pin p (List.mem_append_right _ z)) fun z => by
  have e : p = (f, o) := by simpa using z
  subst e
  exact ⟨ho, fp.1, fp.2.1, fp.2.2.1, hc⟩
theorem lam_make {Q : Value → Shared → Prop} (I : Inv X pins σ H s) (L : LamX X c P nm) (hT : IsTab X.H₀ P nm) (hcl : closureFor scope X.env = pure []) (hdef : defaultsOf params X.env = ([], []))
    (k : ∀ (f c' : Addr) (ctv : Value) (oc : Obj) (vs : Array Value) (t : Tok) (H' : Hp) (s' : Shared), Inv X (pins ++ [(f, kla_obj "<lambda>" nm params body scope [] ((X.mg "__name__").getD .none) c' ctv)]) σ H' s' → s'.heap.get? c' = some oc → oc.data = .fields vs → vs[1]? = some (.str nm t) → H' c' = some (.own P) → IsTab H' P nm → Same H H' → Q (.ref f) s') :
    wpAny (model X.prog X.w) X.A (eval (.Lambda params body scope lpos) X.env) Q X.xe s := by
  have hTH := hT.call I.base.tbls
  obtain ⟨ps, tp, hP, hps⟩ := hTH
  obtain ⟨qs, nm', t', eP, tr, hps', rows⟩ := I.hok P _ hP
  rw [hps] at hps'
  cases hps'
  have C := L.hd.keeps I.bk
  have G : s.heap.Ns mainGlobals X.mg := let ⟨o, es, ep, e, r⟩ := I.ok.mod.glob; ⟨o, es, ep, I.bk _ _ e, r⟩
  have B : s.heap.BuiltinsAt X.mg P := let ⟨bm, o, a1, a2, a3, a4, a5, a6⟩ := L.blt; ⟨bm, o, a1, a2, a3, a4, I.bk _ _ a5, a6⟩
  refine kla_eval hdef ?_
  rw [L.nmq]
  cases hf : codeAmong lpos qs.toList with
  | some cv =>
    obtain ⟨c', rfl, own, c2, oc, vs, t2, e3, e4, e5, e6⟩ := rows _ _ hf
    cases e3
    refine kla_makeFunctionHit (mg := X.mg) hcl I.ok.glob G L.code C eP tr hf B fun ctv h' tk hk hsz => ?_
    have hk2 : ∀ b u, s.heap.get? b = some u → (h'.push (kla_obj "<lambda>" nm params body scope [] ((X.mg "__name__").getD .none) c' ctv)).get? b = some u := fun b u e => Heap.get?_push_of_some _ (hk b u e)
    have I2 : Inv X pins σ H { s with heap := h'.push (kla_obj "<lambda>" nm params body scope [] ((X.mg "__name__").getD .none) c' ctv), toks := tk } := I.kept hk2
    exact k h'.objs.size c' ctv oc vs t2 H _ (I2.pin1 (I.fpOk hsz (I.hok.fresh hsz)) (Heap.get?_push_size _ rfl) (fun v z => by cases z)) (hk2 _ _ e4) e5 e6 own ⟨ps, tp, hP, hps⟩ fun _ _ e => e
  | none =>
    refine kla_makeFunction (mg := X.mg) hcl I.ok.glob G L.code C eP tr hf L.gl B fun c' ctv h' tk hx hge hlt hrec htb => ?_
    obtain ⟨c2, oc, vs, t2, e3, e4, e5, e6⟩ := hrec
    cases e3
    have hcn : H c' = none := I.hok.fresh hge
    have hcP : c' ≠ P := fun z => by rw [z] at hge; exact absurd (Nat.lt_of_lt_of_le (Heap.lt_size eP) hge) (Nat.lt_irrefl _)
    have ext : ∀ b u, b ≠ P → s.heap.get? b = some u → (h'.push (kla_obj "<lambda>" nm params body scope [] ((X.mg "__name__").getD .none) c' ctv)).get? b = some u := fun b u n e => Heap.get?_push_of_some _ (hx b u n e)
    have hoc := Heap.get?_push_of_some (kla_obj "<lambda>" nm params body scope [] ((X.mg "__name__").getD .none) c' ctv) e4
    have hPt := Heap.get?_push_of_some (kla_obj "<lambda>" nm params body scope [] ((X.mg "__name__").getD .none) c' ctv) htb
    have hszz : s.heap.objs.size ≤ h'.objs.size := Nat.le_of_lt (Nat.lt_of_le_of_lt hge hlt)
    have hfo := Heap.get?_push_size h' (o := kla_obj "<lambda>" nm params body scope [] ((X.mg "__name__").getD .none) c' ctv) rfl
    generalize (h'.push (kla_obj "<lambda>" nm params body scope [] ((X.mg "__name__").getD .none) c' ctv)) = h2 at ext hoc hPt hfo ⊢
    have hPu : upd H c' (.own P) P = some (.tbl ps) := by rw [upd_ne hcP.symm]; exact hP
    have hok : HOk X.prog X.w (upd H c' (.own P)) h2 := fun b u e => by
      by_cases b1 : b = c'
      · subst b1; rw [upd_same] at e; cases e; exact ⟨oc, hoc⟩
      · rw [upd_ne b1] at e
        by_cases b2 : b = P
        · subst b2
          rw [hP] at e
          cases e
          refine ⟨_, nm, tp, hPt, by rw [Array.toList_append]; exact TriplesOk_snoc _ _ _ _ tr, hps, fun pos cv ec => ?_⟩
          rw [Array.toList_append] at ec
          rcases among_snoc _ tr ec with z | z
          · obtain ⟨c3, f1, f2, c4, o4, v4, t4, f3, f4, f5⟩ := rows _ _ z
            cases f3
            have nb : c3 ≠ b := fun y => by rw [y, hP] at f2; cases f2
            exact ⟨c3, f1, by rw [upd_ne (fun y => by rw [y, hcn] at f2; cases f2)]; exact f2, c3, o4, v4, t4, rfl, ext _ _ nb f4, f5⟩
          · exact ⟨c', z, upd_same, c', oc, vs, t2, rfl, hoc, e5, e6⟩
        · refine (I.hok b u e).stay (fun d v hd q => ext d v ?_ q) (fun d q => by rw [upd_ne (ne_of_none q hcn)]; exact q) fun d xs q => by rw [upd_ne (ne_of_none q hcn)]; exact q
          rcases hd with z | z
          · rw [z]; exact b2
          · intro y; rw [y, hP] at z; cases z
    have un : Un X.fs [] H (upd H c' (.own P)) s.heap h2 := by
      have nP : ∀ b, H b = none → b ≠ P := fun b n z => by rw [z, hP] at n; cases n
      have lt : ∀ b o, s.heap.get? b = some o → b ≠ c' := fun b o e z => by rw [z] at e; exact absurd (Nat.lt_of_lt_of_le (Heap.lt_size e) hge) (Nat.lt_irrefl _)
      refine ⟨fun b o e n _ _ => ext b o (nP b n) e, fun b o e n _ _ => ⟨o.slots, ext b o (nP b n) e⟩, fun b o e n _ => by rw [upd_ne (lt b o e)]; exact n, fun b o e _ => ?_, fun b xs e => by rw [upd_ne (ne_of_none e hcn)]; exact e, fun b o u e => by rw [upd_ne (ne_of_none e hcn)]; exact e, fun b ps e => ⟨#[], by rw [upd_ne (ne_of_none e hcn), e]; simp⟩⟩
      by_cases b2 : b = P
      · exact ⟨_, by rw [b2]; exact hPt⟩
      · exact ⟨o, ext b o b2 e⟩
    have I2 : Inv X pins σ (upd H c' (.own P)) { s with heap := h2, toks := tk } := I.un un hok
    have hfn : (upd H c' (.own P)) h'.objs.size = none := by rw [upd_ne (Nat.ne_of_gt hlt)]; exact I.hok.fresh hszz
    exact k h'.objs.size c' ctv oc vs t2 _ _ (I2.pin1 (I.fpOk hszz hfn) hfo (fun v z => by cases z)) hoc e5 e6 upd_same ⟨ps, tp, hPu, hps⟩ (Same.new hcn)
/-- .. and called, under an abstract heap that does not track the table -/
theorem lam_call {k : Nat} {A : Around} {f c' : Addr} {ctv pm : Value} {oc : Obj} {vs : Array Value} {t : Tok} {x : Str} {u : Value} {v w : V} {te : TE} (I : Inv X pins σ H s) (hA : A.frames = X.A.frames) (hr : Room k A) (hf : s.heap.get? f = some (kla_obj "<lambda>" nm params body scope [] pm c' ctv))
    (ho : s.heap.get? c' = some oc) (e1 : oc.data = .fields vs) (e2 : vs[1]? = some (.str nm t)) (hc : H c' = some (.own P)) (hT : IsTab H P nm) (S : FnScope [x] [x] scope)
    (hb : bindArgs (kla_fn "<lambda>" nm params body scope [] pm (.ref c') ctv) ⟨[u], []⟩ = pure [(x, u)]) (r : RelV v u)
    (hbody : ∀ H2 : Hp, PE (cxOf CX0 X.prog X.w X.K X.mg X.base [x] nm scope f (.ref c') A X.stack s H2 E0) body te)
    (hq : ∀ H2 : Hp, (∀ b ys, H b = some (.tup ys) → H2 b = some (.tup ys)) → te [some v] H2 fun z H3 => z = w ∧ H3 = H2) :
    wpAny (model X.prog X.w) A (call (.ref f) [u]) (fun r s' => RelV w r ∧ Inv X pins σ H s' ∧ s'.heap.get? c' = some oc) (fun _ _ => False) s := by
  classical
  obtain ⟨ps, tp, hP, hps⟩ := hT
  let H2 : Hp := fun b => if b = P ∨ H b = some (.own P) then none else H b
  have sub : ∀ b o, H2 b = some o → H b = some o ∧ b ≠ P ∧ o ≠ .own P := fun b o e => by
    by_cases z : b = P ∨ H b = some (.own P)
    · have : H2 b = none := if_pos z
      rw [this] at e; cases e
    · have e' : H2 b = H b := if_neg z
      rw [e'] at e
      exact ⟨e, fun y => z (.inl y), fun y => z (.inr (by rw [e, y]))⟩
  have up : ∀ b o, H b = some o → b ≠ P → o ≠ .own P → H2 b = some o := fun b o e n1 n2 => by
    have z : ¬ (b = P ∨ H b = some (.own P)) := fun z => z.elim n1 fun y => n2 (by rw [e] at y; exact Option.some.inj y)
    have e' : H2 b = H b := if_neg z
    rw [e']; exact e
  have non : ∀ b, H b = none → H2 b = none := fun b e => by
    cases q : H2 b with
    | none => rfl
    | some o => rw [(sub b o q).1] at e; cases e
  have tup2 : ∀ b ys, H b = some (.tup ys) → H2 b = some (.tup ys) := fun b ys e => up b _ e (fun z => by rw [z, hP] at e; cases e) (fun z => by cases z)
  have hok2 : HOk X.prog X.w H2 s.heap := fun b o e => by
    obtain ⟨h1, h2, h3⟩ := sub b o e
    refine (I.hok b o h1).stay (fun _ _ _ q => q) (fun d q => up d _ q (fun z => by rw [z, hP] at q; cases q) (fun z => by cases z; exact h2 rfl)) tup2
  have e0 := I.env0
  have e02 : Env0 X.prog X.w X.K X.mg X.base A X.stack s H2 := ⟨hA.trans e0.frames, e0.mod, fun b o e => ⟨(e0.bs b o e).1, non b (e0.bs b o e).2⟩, e0.bsz, e0.funs, fun b hb => non b (e0.frf b hb), hok2, e0.bare⟩
  refine wpAny_call (codeAny_mono (lam_run (Q := fun z H3 => z = w ∧ H3 = H2) hr e02 hf ⟨c', oc, vs, t, rfl, ho, e1, e2⟩ S hb r (hbody H2) (hq H2 tup2)) fun rr s' h => ?_)
  cases rr with
  | error e => exact h.elim
  | ok fl =>
    cases fl with
    | next => exact False.elim h
    | brk => exact False.elim h
    | cont => exact False.elim h
    | ret uu =>
      obtain ⟨z, H3, os, bare, un, hok3, rz, ez, eH⟩ := h
      subst ez eH
      have hc2 : H2 c' = none := if_pos (.inr hc)
      have hP2 : H2 P = none := if_pos (.inl rfl)
      have nfr : ∀ b o, H b = some o → b ∉ frs X.stack := fun b o e z => by rw [I.stkFree b z] at e; cases e
      have own2 : ∀ d, H d = some (.own P) → H2 d = none := fun d q => if_pos (.inr q)
      have hokH : HOk X.prog X.w H s'.heap := fun b o e => by
        by_cases b0 : o = .own P
        · subst b0
          obtain ⟨ob, eb⟩ := I.hok b _ e
          exact ⟨ob, un.keep _ _ eb (own2 _ e) (nfr _ _ e) (by simp)⟩
        by_cases b1 : b = P
        · subst b1
          refine (I.hok b o e).stay (fun d v hd q => ?_) (fun _ q => q) fun _ _ q => q
          rcases hd with z | z
          · subst z; exact un.keep _ _ q hP2 (nfr _ _ e) (by simp)
          · exact un.keep _ _ q (own2 _ z) (nfr _ _ z) (by simp)
        · have b1' : b ≠ P ∧ o ≠ .own P := ⟨b1, b0⟩
          refine (hok3 b o (up b o e b1'.1 b1'.2)).stay (fun _ _ _ q => q) (fun d q => (sub d _ q).1) fun d xs q => (sub d _ q).1
      refine ⟨rz, I.call' (ch := []) os ⟨fun b o e n hb hx => un.keep b o e (non b n) hb hx, fun b o e n hb hx => un.slot b o e (non b n) hb hx, fun b o e n hx => n, fun b o e hx => un.there b o e hx, fun _ _ e => e, fun _ _ _ e => e, fun b ps e => ⟨#[], by rw [e]; simp⟩⟩ hokH bare (fun b z => absurd z (by simp)), un.keep _ _ ho hc2 (nfr _ _ hc) (by simp)⟩
end
end L2

end
section
set_option Elab.async false
set_option linter.all false
set_option maxRecDepth 100000
set_option maxHeartbeats 4000000
namespace L2
open PySem PySem.Spec PyProof.Rows PySem.W
/-- by key, and of one key by place; falling where b -/
def LKb (b : Bool) (ks : List Int) (x y : Nat) : Prop := (if b = true then kI ks y < kI ks x else kI ks x < kI ks y) ∨ (kI ks x = kI ks y ∧ x < y)
def KeyOut (b : Bool) (ks : List Int) (vs out : List Value) : Prop := ∃ p : List Nat, p.Perm (List.range vs.length) ∧ p.Pairwise (LKb b ks) ∧ out = p.map fun i => vs.getD i Value.none
theorem getD_rev {α : Type} {l : List α} {d : α} {i : Nat} (h : i < l.length) : l.reverse.getD i d = l.getD (l.length - 1 - i) d := by
  rw [List.getD_eq_getElem?_getD, List.getD_eq_getElem?_getD, List.getElem?_reverse h]
theorem keyOut_up {ks : List Int} {vs : List Value} {p : Array Nat} (hl : ks.length = vs.length) (hp : Pm vs.length p) (u : UpS (rI' ks) p vs.length) : KeyOut false ks vs (p.toList.map fun i => vs.getD i Value.none) :=
  ⟨p.toList, hp, by rw [← hl] at hp u; exact (u.keys hp).imp fun h => by unfold LKb; rw [if_neg Bool.false_ne_true]; exact h, rfl⟩
theorem keyOut_down {ks : List Int} {vs : List Value} {p : Array Nat} (hl : ks.length = vs.length) (hp : Pm vs.length p) (u : UpS (rI' ks.reverse) p vs.length) : KeyOut true ks vs (p.toList.map fun i => vs.reverse.getD i Value.none).reverse := by
  have hm : ∀ i ∈ p.toList, i < vs.length := fun i hi => List.mem_range.mp (hp.mem_iff.mp hi)
  have e1 : (List.range vs.length).map (fun i => vs.length - 1 - i) = (List.range vs.length).reverse := by
    apply List.ext_getElem
    · simp
    · intro i h1 h2
      simp
  refine ⟨(p.toList.map fun i => vs.length - 1 - i).reverse, (List.reverse_perm _).trans ?_, ?_, ?_⟩
  · have := hp.map fun i => vs.length - 1 - i
    rw [e1] at this
    exact this.trans (List.reverse_perm _)
  · rw [List.pairwise_reverse, List.pairwise_map]
    have hp' : Pm ks.reverse.length p := by rw [List.length_reverse, hl]; exact hp
    have u' : UpS (rI' ks.reverse) p ks.reverse.length := by rw [List.length_reverse, hl]; exact u
    refine List.Pairwise.imp_of_mem ?_ (u'.keys hp')
    intro i j hi hj h
    have hi := hm i hi
    have hj := hm j hj
    unfold LK kI at h
    rw [getD_rev (by omega), getD_rev (by omega), hl] at h
    unfold LKb kI
    rw [if_pos rfl]
    rcases h with h | ⟨h1, h2⟩
    · exact .inl h
    · exact .inr ⟨h1.symm, by omega⟩
  · rw [List.map_reverse, List.map_map]
    congr 1
    refine List.map_congr_left fun i hi => ?_
    exact getD_rev (hm i hi)
section
variable {X : Cx} {pins : List (Addr × Obj)} {σ : St} {H : Hp} {s : Shared}
theorem Inv.track {D : Addr} {u : HO} (I : Inv X pins σ H s) (fp : FpOk X pins H D) (h0 : X.s₀.heap.objs.size ≤ D) (new : ObjOk X.prog X.w (upd H D u) s.heap D u) : Inv X pins σ (upd H D u) s := by
  obtain ⟨f0, f1, f2, f3, f4, f5⟩ := fp
  refine ⟨I.ok, I.os, I.bare, ⟨I.base.keep, I.base.slot, fun b o e n hx => ?_, I.base.there, fun b xs e => ?_, fun b o v e => ?_, fun b ps e => ?_⟩, I.loc, I.cell, ?_, fun x c e => ?_, fun p hp => ?_, hok_add I.hok f0 new, I.len⟩
  · rw [upd_ne (fun z => by rw [z] at e; exact absurd (Nat.lt_of_lt_of_le (Heap.lt_size e) h0) (Nat.lt_irrefl _))]; exact I.base.free b o e n hx
  · have := I.base.tups b xs e
    rw [upd_ne (ne_of_none this f0)]; exact this
  · have := I.base.frzs b o v e
    rw [upd_ne (ne_of_none this f0)]; exact this
  · obtain ⟨m, e2⟩ := I.base.tbls b ps e
    exact ⟨m, by rw [upd_ne (ne_of_none e2 f0)]; exact e2⟩
  · rw [upd_ne f1.symm]; exact I.free
  · rw [upd_ne (f4 x c e)]; exact I.freeC x c e
  · obtain ⟨a1, a2, a3⟩ := I.pin p hp
    exact ⟨a1, by rw [upd_ne (f5 p hp)]; exact a2, a3⟩
theorem Inv.reup {D : Addr} {g : Array Value → Array Value} (I : Inv X pins σ H s) (fp : FpOk X pins H D) : Inv X pins σ H { s with heap := s.heap.update D (Obj.mapSeq g) } :=
  I.turned (it := D) (t' := s.toks) (fun b o hb e => by rw [Heap.get?_update_ne _ _ _ _ hb]; exact e) fp.1 fp.2.1 fp.2.2.2.1 fp.2.2.2.2.1 fp.2.2.2.2.2
theorem Inv.pin2 {a b : Addr} {oa ob : Obj} (I : Inv X pins σ H s) (fa : FpOk X pins H a) (fb : FpOk X pins H b) (ha : s.heap.get? a = some oa) (hb : s.heap.get? b = some ob) (ca : ∀ v, oa.data ≠ .cell v) (cb : ∀ v, ob.data ≠ .cell v) : Inv X (pins ++ [(a, oa), (b, ob)]) σ H s :=
  I.pins_of fun p hp => (List.mem_append.mp hp).elim (fun z => I.pin p (List.mem_append_right _ z)) fun z => by
    rcases List.mem_cons.mp z with e | z
    · subst e; exact ⟨ha, fa.1, fa.2.1, fa.2.2.1, ca⟩
    · have e : p = (b, ob) := by simpa using z
      subst e; exact ⟨hb, fb.1, fb.2.1, fb.2.2.1, cb⟩
theorem Inv.at1 {pl : List (Addr × Obj)} {p : Addr × Obj} (I : Inv X (pins ++ pl) σ H s) (h : p ∈ pl) : s.heap.get? p.1 = some p.2 := (I.pin p (List.mem_append_right _ (List.mem_append_right _ h))).1
/-- the key of each item, by calls -/
def TurnOk (X : Cx) (pins : List (Addr × Obj)) (σ : St) (H : Hp) (f : Value) (c' : Addr) (oc : Obj) (vs : List Value) (ks : List Int) : Prop := ∀ (i : Nat) (v : Value) (k : Int), vs[i]? = some v → ks[i]? = some k → ∀ (pl : List (Addr × Obj)) (s : Shared), Inv X (pins ++ pl) σ H s → s.heap.get? c' = some oc →
  wpAny (model X.prog X.w) X.A.in1.in1 (call f [v]) (fun r s' => (∃ t, r = .int k t) ∧ Inv X (pins ++ pl) σ H s' ∧ s'.heap.get? c' = some oc) (fun _ _ => False) s
variable {f : Value} {c' a kS : Addr} {oc : Obj} {vs : List Value} {ks : List Int} {keys : Array Value} {b : Bool} {e e1 : Nat} {Pf : PySem.Fin → Shared → Prop} {E : Value → Shared → Prop}
theorem key_tail {st : SortSt} {o : List Value} (I : Inv X (pins ++ [(kS, seqObj "list" keys e), (a, seqObj "list" #[] e1)]) σ H s) (fk : FpOk X pins H kS) (fa : FpOk X pins H a) (hka : kS ≠ a) (hz1 : keys.size < 64) (ho : o.length < 64)
    (hs : (arrOf st).map (·.2) = List.toArray o) (hfl : failedOf st = none)
    (h : ∀ (s' : Shared) (c : Nat), Inv X pins σ H s' → s'.heap.get? a = some (seqObj "list" (List.toArray (if b then o.reverse else o)) c) → Pf (.done (.ret .none)) s') :
    wpAny (model X.prog X.w) X.A.in1.in1 (ksk_tail a b e1 (.ref kS) st) Pf E s := by
  have nk := I.at1 (p := (kS, seqObj "list" keys e)) (.head _)
  have na := I.at1 (p := (a, seqObj "list" #[] e1)) (.tail _ (.head _))
  have na1 : (s.heap.update kS (Obj.mapSeq fun _ => (#[] : Array Value))).get? a = some (seqObj "list" #[] e1) := by rw [Heap.get?_update_ne _ _ _ _ hka.symm]; exact na
  have I1 := (I.unpinned).reup (g := fun _ => (#[] : Array Value)) fk
  have hout : (if b then ((arrOf st).map (·.2)).reverse else (arrOf st).map (·.2)) = List.toArray (if b then o.reverse else o) := by
    rw [hs]; cases b <;> simp
  unfold ksk_tail
  try dsimp only
  refine wpAny_bind (listUpdate_at nk rfl ?_ (by rw [sizeLine_eq]; omega) (Nat.zero_le _))
  refine wpAny_bind (wpAny_letGo ?_)
  refine wpAny_bind (seqEpoch_at na1 rfl ?_)
  rw [hout]
  have hz : (List.toArray (if b then o.reverse else o)).size ≤ sizeLine + 1 := by
    rw [sizeLine_eq]
    cases b <;> simp <;> omega
  refine wpAny_bind (listUpdate_at na1 rfl ?_ (Nat.zero_le _) hz)
  rw [hfl]
  simp only [bne_self_eq_false, Bool.false_eq_true, if_false]
  have I2 := I1.reup (g := fun _ => List.toArray (if b then o.reverse else o)) fa
  exact wpAny_pure (h _ _ I2 (get?_update_seq na1 fun _ => List.toArray (if b then o.reverse else o)))
theorem zip_rev {α β : Type} {l : List α} {m : List β} (h : l.length = m.length) : (l.zip m).reverse = l.reverse.zip m.reverse := by
  unfold List.zip
  rw [List.reverse_zipWith h]
theorem ints_rev {kv : List Value} {ks : List Int} (h : IntsAre kv ks) : IntsAre kv.reverse ks.reverse := by
  induction h with
  | nil => exact .nil
  | cons n t _ ih => rw [List.reverse_cons, List.reverse_cons]; exact ksk_snoc ih
theorem ints_get {kv : List Value} {ks : List Int} (h : IntsAre kv ks) : ∀ {i : Nat}, i < ks.length → ∃ t, kv.getD i Value.none = .int (kI ks i) t := by
  induction h with
  | nil => intro i hi; simp at hi
  | cons n t _ ih =>
    intro i hi
    cases i with
    | zero => exact ⟨t, rfl⟩
    | succ i =>
      obtain ⟨t', e⟩ := ih (i := i) (by simpa using hi)
      exact ⟨t', by unfold kI at e ⊢; simpa using e⟩
theorem ranks_ints {A : Around} {kv : List Value} {ks : List Int} (h : IntsAre kv ks) (s : Shared) : Ranks (kas_ask X.prog X.w A oneType' kv) (rI' ks) ks.length s := by
  intro i j C hi hj hC
  obtain ⟨t, ei⟩ := ints_get h hi
  obtain ⟨u, ej⟩ := ints_get h hj
  unfold kas_ask
  rw [ei, ej, keyLt'_oneType]
  refine oneLt_int ?_
  have := rI_iff (ks := ks) (i := i) (j := j) hi
  by_cases c : kI ks i < kI ks j
  · rw [decide_eq_true c]; rw [decide_eq_true (this.mpr c)] at hC; exact hC
  · rw [decide_eq_false c]; rw [decide_eq_false (fun z => c (this.mp z))] at hC; exact hC
theorem key_end (I : Inv X (pins ++ [(kS, seqObj "list" keys e), (a, seqObj "list" #[] e1)]) σ H s) (fk : FpOk X pins H kS) (fa : FpOk X pins H a) (hka : kS ≠ a) (hk : IntsAre keys.toList ks) (hlen : ks.length = vs.length) (h64 : vs.length < 64)
    (h : ∀ (s' : Shared) (out : List Value) (c : Nat), Inv X pins σ H s' → s'.heap.get? a = some (seqObj "list" (List.toArray out) c) → KeyOut b ks vs out → Pf (.done (.ret .none)) s') :
    wpAny (model X.prog X.w) X.A.in1.in1 (ksk_end a b vs.toArray e1 (.ref kS) keys) Pf E s := by
  have hsz : keys.size = vs.length := by
    have h1 := hk.length
    rw [Array.length_toList] at h1
    omega
  have step : ∀ t : Sem PySem.Fin, wpAny (model X.prog X.w) X.A.in1.in1 t Pf E s → wpAny (model X.prog X.w) X.A.in1.in1 (if b = true then (do let _ ← rule "list.sort.reverse"; t) else t) Pf E s := by
    intro t ht
    split
    · exact wpAny_bind (wpAny_rule ht)
    · exact ht
  -- the pairs, as two lists
  obtain ⟨kv, ks2, v2, hpr, hi2, hl2, hl3, fin⟩ : ∃ (kv : List Value) (ks2 : List Int) (v2 : List Value), (if b = true then (keys.zip vs.toArray).reverse else keys.zip vs.toArray) = kv.toArray.zip v2.toArray ∧ IntsAre kv ks2 ∧ ks2.length = v2.length ∧ v2.length = vs.length ∧
      ∀ p : Array Nat, Pm v2.length p → UpS (rI' ks2) p v2.length → KeyOut b ks vs (if b then (p.toList.map fun i => v2.getD i Value.none).reverse else p.toList.map fun i => v2.getD i Value.none) := by
    cases b with
    | false =>
      refine ⟨keys.toList, ks, vs, by rw [if_neg Bool.false_ne_true, Array.toArray_toList], hk, hlen, rfl, fun p hp u => ?_⟩
      rw [if_neg Bool.false_ne_true]
      exact keyOut_up hlen hp u
    | true =>
      refine ⟨keys.toList.reverse, ks.reverse, vs.reverse, ?_, ints_rev hk, by rw [List.length_reverse, List.length_reverse, hlen], List.length_reverse, fun p hp u => ?_⟩
      · rw [if_pos rfl]
        apply Array.toList_inj.mp
        rw [Array.toList_reverse, ksk_zip, zip_rev (by rw [Array.length_toList]; exact hsz)]
        simp
      · rw [if_pos rfl]
        rw [List.length_reverse] at hp u
        exact keyOut_down hlen hp u
  have hkl : kv.length = v2.length := by have := hi2.length; omega
  unfold ksk_end
  try dsimp only
  refine step _ ?_
  rw [hpr]
  by_cases h2 : vs.toArray.size < 2
  · rw [if_pos h2, if_pos h2]
    refine wpAny_bind (wpAny_pure ?_)
    rw [StateT.run_pure]
    refine wpAny_bind (wpAny_pure ?_)
    try dsimp only
    have l2 : v2.length < 2 := by simp at h2; omega
    have pm : Pm v2.length (List.toArray (List.range v2.length)) := List.Perm.refl _
    have ko := fin _ pm fun i hi => by omega
    have eo : ((List.toArray (List.range v2.length)).toList.map fun i => v2.getD i Value.none) = v2 := by
      apply List.ext_getElem
      · simp
      · intro i h1 h2
        simp at h1
        simp [h1]
    rw [eo] at ko
    refine key_tail (o := v2) (b := b) I fk fa hka (by omega) (by omega) ?_ rfl fun s' c I' e' => h s' _ c I' e' ko
    show Array.map (fun x => x.2) (kv.toArray.zip v2.toArray) = _
    apply Array.toList_inj.mp
    rw [Array.toList_map, ksk_zip]
    simp only [List.toList_toArray]
    rw [List.map_snd_zip (by omega)]
  · rw [if_neg h2, if_neg h2]
    have l2 : 2 ≤ v2.length := by simp at h2; omega
    rw [ksk_kind hk (by omega)]
    refine wpAny_bind (wpAny_pure ?_)
    refine wpAny_bind (wpAny_mono (kat_run (ks := kv) (vs := v2) (κ := oneType') (G := fun p s' => s' = s ∧ Pm v2.length p ∧ UpS (rI' ks2) p v2.length)
      (Q := fun st' s' => s' = s ∧ ∃ p : Array Nat, (arrOf st').map (·.2) = List.toArray (p.toList.map fun i => v2.getD i Value.none) ∧ failedOf st' = none ∧ Pm v2.length p ∧ UpS (rI' ks2) p v2.length)
      hkl l2 (by omega) (fun p st' s' a1 a2 a3 a4 => ⟨a4.1, p, kat_snds hkl a2, a3, a4.2⟩) (sort_okS (by have := ranks_ints (X := X) (A := X.A.in1.in1) hi2 s; rw [hl2] at this; exact this) (by omega) fun p a b => ⟨rfl, a, b⟩)) ?_ fun _ _ e => e)
    rintro ⟨⟨⟩, st'⟩ s' ⟨rfl, p, ho', hf, hp, hu⟩
    try dsimp only
    have hpl : (p.toList.map fun i => v2.getD i Value.none).length = v2.length := by rw [List.length_map, Array.length_toList, hp.size]
    exact key_tail (o := p.toList.map fun i => v2.getD i Value.none) (b := b) I fk fa hka (by omega) (by omega) ho' hf fun s' c I' e' => h s' _ c I' e' (fin p hp hu)
theorem key_rest (I : Inv X (pins ++ [(kS, seqObj "list" #[] 0), (a, seqObj "list" #[] e1)]) σ H s) (hc : s.heap.get? c' = some oc) (fk : FpOk X pins H kS) (fa : FpOk X pins H a) (hka : kS ≠ a) (nck : c' ≠ kS) (hlen : ks.length = vs.length) (h64 : vs.length < 64)
    (turn : TurnOk X pins σ H f c' oc vs ks)
    (h : ∀ (s' : Shared) (out : List Value) (c : Nat), Inv X pins σ H s' → s'.heap.get? a = some (seqObj "list" (List.toArray out) c) → KeyOut b ks vs out → Pf (.done (.ret .none)) s') :
    wpAny (model X.prog X.w) X.A.in1.in1 (ksk_rest a f b vs.toArray e1 (.ref kS)) Pf E s := by
  unfold ksk_rest
  refine wpAny_bind (wpAny_rule ?_)
  first
    | rw [List.forIn_toArray]
    | (rw [← Array.forIn_toList]; simp only [List.toList_toArray])
    | rw [← Array.forIn_toList]
  refine wpAny_bind (ksk_fold (fun i s' => ∃ kA e, Inv X (pins ++ [(kS, seqObj "list" kA e), (a, seqObj "list" #[] e1)]) σ H s' ∧ s'.heap.get? c' = some oc ∧ IntsAre kA.toList (ks.take i)) vs 0 s
    ⟨#[], 0, I, hc, by simpa using IntsAre.nil⟩ ?step ?done)
  case step =>
    rintro j x s' hx ⟨kA, e, I', hc', hk⟩
    simp only [Nat.zero_add] at hk ⊢
    have hj : j < vs.length := (List.getElem?_eq_some_iff.mp hx).1
    obtain ⟨k, hkj⟩ : ∃ k, ks[j]? = some k := ⟨_, List.getElem?_eq_getElem (by omega)⟩
    have hz : kA.size ≤ vs.length := by
      have h1 := hk.length
      rw [Array.length_toList, List.length_take] at h1
      omega
    refine wpAny_bind (wpAny_attempt (wpAny_mono (turn j x k hx hkj _ s' I' hc') (fun v s'' he => ?_) fun _ _ hF => hF.elim))
    obtain ⟨⟨t2, rfl⟩, I2, hc2⟩ := he
    try dsimp only
    have nk := I2.at1 (p := (kS, seqObj "list" kA e)) (.head _)
    have na := I2.at1 (p := (a, seqObj "list" #[] e1)) (.tail _ (.head _))
    have ek : ks.take (j + 1) = ks.take j ++ [k] := by rw [List.take_add_one, hkj]; simp
    have ea : (kA.push (Value.int k t2)).toList = kA.toList ++ [Value.int k t2] := by simp
    refine wpAny_bind (listUpdate_at nk rfl ?_ (by rw [sizeLine_eq]; omega) (Nat.le_trans (Nat.le_of_eq (Array.size_push ..)) (by rw [sizeLine_eq]; omega)))
    have I3 := (I2.unpinned).reup (g := (·.push (.int k t2))) fk
    refine wpAny_pure ⟨rfl, kA.push (.int k t2), _, I3.pin2 fk fa (get?_update_seq nk (·.push (.int k t2))) (by rw [Heap.get?_update_ne _ _ _ _ hka.symm]; exact na) (fun v z => by cases z) (fun v z => by cases z), ?_, by rw [ea, ek]; exact ksk_snoc hk⟩
    show (s''.heap.update kS _).get? c' = _
    rw [Heap.get?_update_ne _ _ _ _ nck]; exact hc2
  case done =>
    rintro s' ⟨kA, e, I', hc', hk⟩
    have hk' : IntsAre kA.toList ks := by
      have e3 : ks.take (0 + vs.length) = ks := List.take_of_length_le (by omega)
      rw [e3] at hk
      exact hk
    have nk := I'.at1 (p := (kS, seqObj "list" kA e)) (.head _)
    try dsimp only
    refine wpAny_bind (listItems_at nk rfl ?_)
    exact key_end I' fk fa hka hk' hlen h64 h
theorem key_sort {n : Nat} (I : Inv X pins σ H s) (hc : s.heap.get? c' = some oc) (fa : FpOk X pins H a) (ho : s.heap.get? a = some (seqObj "list" vs.toArray n)) (nca : c' ≠ a) (hlen : ks.length = vs.length) (h64 : vs.length < 64) (turn : TurnOk X pins σ H f c' oc vs ks)
    (h : ∀ (s' : Shared) (out : List Value) (c : Nat), Inv X pins σ H s' → s'.heap.get? a = some (seqObj "list" (List.toArray out) c) → KeyOut b ks vs out → Pf (.done (.ret .none)) s') :
    wpAny (model X.prog X.w) X.A.in1.in1 (ksk_tree a f b) Pf E s := by
  have ha : a < s.heap.objs.size := Heap.lt_size ho
  obtain ⟨e1, ho1⟩ : ∃ e1, (s.heap.update a (Obj.mapSeq fun _ => (#[] : Array Value))).get? a = some (seqObj "list" #[] e1) := ⟨_, get?_update_seq ho fun _ => #[]⟩
  have hkS : ((s.heap.update a (Obj.mapSeq fun _ => (#[] : Array Value))).push (seqObj "tuple" vs.toArray 0)).objs.size = s.heap.objs.size + 1 := by rw [size_push', Heap.size_update]
  have I1 := I.reup (g := fun _ => (#[] : Array Value)) fa
  have I2 : Inv X pins σ H { s with heap := ((s.heap.update a (Obj.mapSeq fun _ => (#[] : Array Value))).push (seqObj "tuple" vs.toArray 0)).push (seqObj "list" #[] 0) } := I1.kept (t' := s.toks) fun b u e => Heap.get?_push_of_some _ (Heap.get?_push_of_some _ e)
  have fk : FpOk X pins H ((s.heap.update a (Obj.mapSeq fun _ => (#[] : Array Value))).push (seqObj "tuple" vs.toArray 0)).objs.size := I.fpOk (by rw [hkS]; omega) (I.hok.fresh (by rw [hkS]; omega))
  unfold ksk_tree
  refine wpAny_bind (listItems_at ho rfl ?_)
  refine wpAny_bind (listUpdate_at ho rfl ?_ (by rw [List.size_toArray, sizeLine_eq]; omega) (Nat.zero_le _))
  refine wpAny_bind (seqEpoch_at ho1 rfl ?_)
  refine wpAny_bind (wpAny_newTuple ?_ (by show vs.length ≤ _; rw [sizeLine_eq]; omega))
  refine wpAny_bind (wpAny_newList ?_ (Nat.zero_le _))
  refine wpAny_holding ?_
  refine key_rest (s := { s with heap := ((s.heap.update a (Obj.mapSeq fun _ => (#[] : Array Value))).push (seqObj "tuple" vs.toArray 0)).push (seqObj "list" #[] 0) }) (kS := ((s.heap.update a (Obj.mapSeq fun _ => (#[] : Array Value))).push (seqObj "tuple" vs.toArray 0)).objs.size)
    (I2.pin2 fk fa (Heap.get?_push_size _ rfl) (Heap.get?_push_of_some _ (Heap.get?_push_of_some _ ho1)) (fun v z => by cases z) (fun v z => by cases z)) ?_ fk fa (by rw [hkS]; exact Nat.ne_of_gt (Nat.lt_succ_of_lt ha)) (by rw [hkS]; exact Nat.ne_of_lt (Nat.lt_succ_of_lt (Heap.lt_size hc))) hlen h64 turn h
  refine Heap.get?_push_of_some _ (Heap.get?_push_of_some _ ?_)
  rw [Heap.get?_update_ne _ _ _ _ nca]; exact hc
theorem key_sorted {l : Addr} {kw : List (Str × Value)} {Q : Value → Shared → Prop} (I : Inv X pins σ H s) (hc : s.heap.get? c' = some oc) (hl : s.heap.IsList l vs.toArray) (hlen : ks.length = vs.length) (h64 : vs.length < 64)
    (ha1 : argsOk "sorted" ⟨[.ref l], kw⟩) (ha2 : ∀ x, argsOk "list.sort" ⟨[.ref x], kw⟩) (ht : ∀ x, Builtin.«list.sort» ⟨[.ref x], kw⟩ = ksk_tree x f b) (turn : TurnOk X pins σ H f c' oc vs ks)
    (h : ∀ (D : Addr) (s' : Shared) (out : List Value) (c : Nat), Inv X pins σ H s' → FpOk X pins H D → X.s₀.heap.objs.size ≤ D → s'.heap.get? D = some (seqObj "list" (List.toArray out) c) → KeyOut b ks vs out → Q (.ref D) s') :
    wpAny (model X.prog X.w) X.A (call (.builtin "sorted") [.ref l] kw) Q E s := by
  refine call_function_entry_kw kind_sorted plain_sorted entry_sorted ha1 ?_
  unfold Builtin.«sorted»
  refine wpAny_bind (m := checkCount "sorted" 1 1 _) (wpAny_pure ?_)
  refine wpAny_bind (collect_list hl ?_ (by rw [sizeLine_eq]; omega))
  refine wpAny_bind (wpAny_newList ?_ (by rw [sizeLine_eq]; omega))
  have hsz : ((s.heap.push (seqObj "list" #[] 0)).update s.heap.objs.size (Obj.mapSeq (· ++ vs.toArray))).objs.size = s.heap.objs.size + 1 := by
    rw [Heap.size_update, size_push']
  have hoL : (((s.heap.push (seqObj "list" #[] 0)).update s.heap.objs.size (Obj.mapSeq (· ++ vs.toArray))).push (seqObj "list" vs.toArray 0)).get? (s.heap.objs.size + 1) = some (seqObj "list" vs.toArray 0) := by
    rw [← hsz]; exact Heap.get?_push_size _ rfl
  have keep : ∀ b o, s.heap.get? b = some o → (((s.heap.push (seqObj "list" #[] 0)).update s.heap.objs.size (Obj.mapSeq (· ++ vs.toArray))).push (seqObj "list" vs.toArray 0)).get? b = some o := fun b o q => by
    have hlt : b < s.heap.objs.size := Heap.lt_size q
    rw [Heap.get?_push_ne _ _ _ (by rw [hsz]; exact Nat.ne_of_lt (Nat.lt_succ_of_lt hlt)), Heap.get?_update_ne _ _ _ _ (Nat.ne_of_lt hlt), Heap.get?_push_ne _ _ _ (Nat.ne_of_lt hlt)]
    exact q
  show wpAny _ _ _ _ _ { s with heap := ((s.heap.push (seqObj "list" #[] 0)).update s.heap.objs.size (Obj.mapSeq (· ++ vs.toArray))).push (seqObj "list" vs.toArray 0) }
  rw [hsz]
  refine wpAny_bind (wpAny_holding (wpAny_call_entry_kw slot_list_sort ⟨_, hoL, rfl⟩ entry_list_sort ?body (ha2 _)))
  case body =>
    have ht' := ht (s.heap.objs.size + 1)
    show wpAny (model X.prog X.w) X.A.in1.in1 (Builtin.«list.sort» ⟨[.ref (s.heap.objs.size + 1)], kw⟩) _ _ _
    rw [ht']
    have I1 : Inv X pins σ H { s with heap := ((s.heap.push (seqObj "list" #[] 0)).update s.heap.objs.size (Obj.mapSeq (· ++ vs.toArray))).push (seqObj "list" vs.toArray 0) } := I.kept (t' := s.toks) keep
    have fa : FpOk X pins H (s.heap.objs.size + 1) := I.fpOk (by omega) (I.hok.fresh (by omega))
    refine key_sort (s := { s with heap := ((s.heap.push (seqObj "list" #[] 0)).update s.heap.objs.size (Obj.mapSeq (· ++ vs.toArray))).push (seqObj "list" vs.toArray 0) }) I1 (keep _ _ hc) fa hoL (Nat.ne_of_lt (Nat.lt_succ_of_lt (Heap.lt_size hc))) hlen h64 turn fun s' out c I' ho' ko => ⟨_, rfl, ?_⟩
    exact wpAny_pure ⟨_, rfl, h _ s' out c I' fa (Nat.le_succ_of_le I.sz) ho' ko⟩
end
end L2

end
section
set_option Elab.async false
set_option linter.all false
set_option maxRecDepth 100000
set_option maxHeartbeats 4000000
namespace L2
open PySem PySem.Spec PyProof.Rows PySem.W
/-- sorted by a key -/
def rSortK (K : Frag) (b : Bool) (te : TE) : List V → Hp → VK → Prop := fun vs H Q => ∃ (a : Addr) (xs : List V) (ks : List Int), vs = [.ref a] ∧ SqL K H a xs ∧ xs.length < 64 ∧ ks.length = xs.length ∧
  (∀ (i : Nat) (x : V) (k : Int), xs[i]? = some x → ks[i]? = some k → ∀ H2 : Hp, (∀ b ys, H b = some (.tup ys) → H2 b = some (.tup ys)) → te [some x] H2 fun z H3 => z = .int k ∧ H3 = H2) ∧
  ∀ (l : Addr) (p : List Nat) (H' : Hp), Same H H' → H' l = none → p.Perm (List.range xs.length) → p.Pairwise (LKb b ks) → Q (.ref l) (upd H' l (.lst (p.map fun i => xs.getD i .non)))
theorem vals_pick {xs : List V} {vs : List Value} (r : Vals xs vs) : ∀ p : List Nat, Vals (p.map fun i => xs.getD i .non) (p.map fun i => vs.getD i Value.none)
  | [] => .nil
  | i :: p => .cons (by
      show RelV (xs.getD i .non) (vs.getD i Value.none)
      rw [List.getD_eq_getElem?_getD, List.getD_eq_getElem?_getD]
      cases e : xs[i]? with
      | none => rw [r.none_of e]; rfl
      | some x => obtain ⟨u, e2, r2⟩ := r.get e; rw [e2]; exact r2) (vals_pick r p)
section
variable {X : Cx} {c P : Addr} {nm x : Str} {params : Arguments} {body : Expr} {scope : Scope} {lpos p kp kp2 pos : Pos} {e : Expr} {te1 te : TE} {k : Nat}
/-- what the lambda's text must have -/
structure LamOk (X : Cx) (nm x : Str) (params : Arguments) (body : Expr) (scope : Scope) (te : TE) : Prop where
  cl : closureFor scope X.env = pure []
  df : defaultsOf params X.env = ([], [])
  S : FnScope [x] [x] scope
  bd : ∀ (pm cv ctv u : Value), bindArgs (kla_fn "<lambda>" nm params body scope [] pm cv ctv) ⟨[u], []⟩ = pure [(x, u)]
  bo : ∀ (f : Addr) (cv : Value) (A : Around) (s : Shared) (H2 : Hp), QE (cxOf CX0 X.prog X.w X.K X.mg X.base [x] nm scope f cv A X.stack s H2 E0) body te
theorem sortK_core {b : Bool} {kw : Addr → List (Str × Value)} {pins : List (Addr × Obj)} {σ : St} {H : Hp} {s : Shared} {Q : VK} {a f c' : Addr} {ctv pm : Value} {oc : Obj} {vs : Array Value} {t : Tok} {H1 : Hp} (Lo : LamOk X nm x params body scope te) (hr : Room k X.A) (hk : 3 ≤ k)
    (ha1 : ∀ l f, argsOk "sorted" ⟨[.ref l], kw f⟩) (ha2 : ∀ x f, argsOk "list.sort" ⟨[.ref x], kw f⟩) (ht : ∀ x f, Builtin.«list.sort» ⟨[.ref x], kw f⟩ = ksk_tree x (.ref f) b)
    (I : Inv X (pins ++ [(f, kla_obj "<lambda>" nm params body scope [] pm c' ctv)]) σ H s) (ho : s.heap.get? c' = some oc) (e1 : oc.data = .fields vs) (e2 : vs[1]? = some (.str nm t)) (own : H c' = some (.own P)) (hT : IsTab H P nm) (sm : Same H1 H)
    (h : rSortK X.K b te [.ref a] H1 Q) : wpAny (model X.prog X.w) X.A (call (.builtin "sorted") [.ref a] (kw f)) (EP X pins σ Q) X.xe s := by
  obtain ⟨a', xs, ks, ea, hS, h64, hlen, hkey, q⟩ := h
  cases ea
  have hS' : SqL X.K H a xs := by
    rcases hS with (z | ⟨o, z⟩) | z
    · exact .inl (.inl (sm _ _ z))
    · exact .inl (.inr ⟨o, sm _ _ z⟩)
    · exact .inr z
  obtain ⟨its, rv, pl, _⟩ := I.list hS'
  have hl := rv.length
  have hr2 : Room (k - 2) X.A.in1.in1 := (Room.in1 (k := k - 2) (Room.in1 (k := k - 2 + 1) (hr.mono (by omega))))
  refine key_sorted (f := .ref f) (oc := oc) (ks := ks) (b := b) I ho pl.isList (by omega) (by omega) (ha1 a f) (fun x => ha2 x f) (fun x => ht x f) (fun i v kk hv hkk pl2 s2 I2 ho2 => ?_) fun D s' out cc I' fp hD hdo ko => ?_
  · have hx : ∃ xv, xs[i]? = some xv ∧ RelV xv v := by
      have hi : i < xs.length := by have := (List.getElem?_eq_some_iff.mp hv).1; omega
      obtain ⟨u, e3, r3⟩ := rv.get (List.getElem?_eq_getElem hi)
      rw [hv] at e3
      cases e3
      exact ⟨_, List.getElem?_eq_getElem hi, r3⟩
    obtain ⟨xv, hxv, rxv⟩ := hx
    refine wpAny_mono (lam_call (P := P) (pm := pm) (ctv := ctv) (te := te) (w := .int kk) I2 rfl hr2 ?_ ho2 e1 e2 own hT Lo.S (Lo.bd _ _ _ _) rxv (fun H2 => (Lo.bo _ _ _ _ _).h) fun H2 hH2 => hkey i xv kk hxv hkk H2 fun b ys e => hH2 b ys (sm _ _ e)) (fun r s3 ⟨r1, r2, r3⟩ => ⟨r1, r2, r3⟩) fun _ _ z => z
    exact (I2.pin _ (List.mem_append_right _ (List.mem_append_left _ (List.mem_append_right _ List.mem_cons_self)))).1
  · obtain ⟨pp, hp1, hp2, rfl⟩ := ko
    have hl3 : xs.length = its.length := hl
    have hpl : pp.length = xs.length := by have := hp1.length_eq; rw [List.length_range] at this; omega
    refine ⟨.ref D, _, (I'.track (u := .lst (pp.map fun i => xs.getD i .non)) fp hD ⟨?_, pp.map fun i => its.getD i Value.none, cc, vals_pick rv pp, hdo⟩).unpinned, rfl, q D pp H sm fp.1 (by rw [hl3]; exact hp1) hp2⟩
    rw [List.length_map, hpl]
    exact Nat.le_trans (Nat.le_of_lt h64) (by decide)
/-- sorted(e, key=lambda x: ..) -/
theorem qe_sortedKey {t : TA} (L : LamX X c P nm) (hT : IsTab X.H₀ P nm) (hr : Room k X.A) (hk : 3 ≤ k) (n : Nm X.env.scope "sorted" .globalImplicit) (hm : X.mg "sorted" = none) (ha : QA X [e] t) (Lo : LamOk X nm x params body scope te)
    (hs : backTo pos (starEach [e] X.env) = (false, eval e X.env) :: backTo pos (starEach [] X.env) := by rfl) (hpl : (backTo pos (starEach [e] X.env)).any (·.1) = false := by rfl) :
    QE X (.Call (.Name "sorted" p) [e] [⟨some "key", .Lambda params body scope lpos, kp⟩] pos) (tCB (rSortK X.K false te) t) := ⟨by
  intro pins s σ H Q I h
  refine wpAny_Call_Name_kw (ld_blt I n.1 hm b_sorted ?_ n.2.2.2 n.2.1)
  refine PyProof.Rows.callWith_kw (thn (ha.h pos pins s σ H _ I h) fun us s1 ⟨vs, H1, I1, r1, q1⟩ => ?_) hs hpl rfl rfl
  obtain ⟨a, xs, ks, ea, rest⟩ := id q1
  subst ea
  obtain ⟨u, rfl, ru⟩ := vals1 r1
  cases ru
  refine PyProof.Rows.kws_cons (lam_make I1 L hT Lo.cl Lo.df fun f c' ctv oc vs t H' s' I2 ho e1 e2 own hT' sm => PyProof.Rows.kws_nil ?_)
  exact sortK_core (kw := fun f => [(Str.ofString "key", .ref f)]) Lo hr hk (fun l f => ksk_s1 _ _) (fun x f => ksk_l1 _ _) (fun x f => ksk_t1 _ _) I2 ho e1 e2 own hT' sm q1⟩
end
end L2

end
section
set_option Elab.async false
set_option linter.all false
set_option maxRecDepth 100000
set_option maxHeartbeats 4000000
namespace L2
open PySem PySem.Spec PyProof.Rows PySem.W
/-! a def that makes a lambda -/
def codeHdIn (K : Frag) (c P : Addr) : Bool := match K.lookup c with
  | some ⟨.type t, _, .fields vs, _⟩ => t == "code" && (match vs.toList with
    | [_, _, _, _, _, _, _, .int _ _, _, .bool _, .int _ _, .ref p, _, _, _, _, _, _, .str _ _] => p == P && !(c == P)
    | _ => false)
  | _ => false
theorem codeHd_of {K : Frag} {h : Heap} {c P : Addr} (X : K.In h) (e : codeHdIn K c P = true) : CodeHd h c P := by
  unfold codeHdIn at e
  split at e
  · rename_i t d vs sl hl
    rw [Bool.and_eq_true] at e
    obtain ⟨e1, e2⟩ := e
    have et : t = "code" := by simpa using e1
    subst et
    split at e2
    · rename_i x0 x1 x2 x3 x4 x5 x6 i7 t7 x8 b9 i10 t10 p x12 x13 x14 x15 x16 x17 f18 t18 hv
      rw [Bool.and_eq_true] at e2
      obtain ⟨e3, e4⟩ := e2
      have ep : p = P := by simpa using e3
      subst ep
      have hne : c ≠ p := by simpa using e4
      have ev : vs = List.toArray [x0, x1, x2, x3, x4, x5, x6, .int i7 t7, x8, .bool b9, .int i10 t10, .ref p, x12, x13, x14, x15, x16, x17, .str f18 t18] := by rw [← hv, Array.toArray_toList]
      subst ev
      exact ⟨_, _, f18, t18, i7, t7, b9, i10, t10, X c _ hl, rfl, rfl, rfl, rfl, rfl, rfl, rfl, rfl, hne⟩
    · cases e2
  · cases e
def HasL (K : Frag) (mg : Str → Option Value) (x : Str) (st : Stmt) (c : Addr) : Prop := ∃ (f : Addr) (oc : Value) (od : Option Addr) (kV doc pm : Value) (an : Option Addr) (ct : Value) (osl : Array (Option Value)),
  K.lookup f = some ⟨oc, od, .func (PySem.W.fnOf x x (defArgs st) (defBody st) (defScope st) .none kV doc pm an (.ref c) ct), osl⟩ ∧ PySem.W.codeIn K (.ref c) x = true ∧ PySem.W.keepIn K (.ref f) = true ∧ mg x = some (.ref f)
theorem hasL_mk {K : Frag} {mg : Str → Option Value} {h : Heap} {x : Str} {st : Stmt} {f c : Addr} {oc : Value} {od an : Option Addr} {osl : Array (Option Value)} {kV doc pm ct : Value} (KX : K.In h) (G : h.Ns mainGlobals mg)
    (a : PySem.W.nsIn K mainGlobals x = some (some (.ref f))) (l : K.lookup f = some ⟨oc, od, .func (PySem.W.fnOf x x (defArgs st) (defBody st) (defScope st) .none kV doc pm an (.ref c) ct), osl⟩)
    (cc : PySem.W.codeIn K (.ref c) x = true) (k : PySem.W.keepIn K (.ref f) = true) : HasL K mg x st c := ⟨f, oc, od, kV, doc, pm, an, ct, osl, l, cc, k, PySem.W.mg_of KX G a⟩
/-- what the module must have where lambdas are made -/
structure LamB (K : Frag) (mg : Str → Option Value) (c P : Addr) : Prop where
  hd : codeHdIn K c P = true
  bm : ∃ bm o, mg "__builtins__" = some (.ref bm) ∧ bm ≠ builtinsNs ∧ bm ≠ mainGlobals ∧ bm ≠ P ∧ K.lookup bm = some o ∧ o.cls = .type "module" ∧ o.dict = some builtinsNs ∧ o.data = .plain
  gl : mainGlobals ≠ P
section
variable {P : Program} {w : World} {K : PySem.W.Frag} {mg : Str → Option Value} {base : Heap}
theorem HasL.fnQ {x : Str} {st : Stmt} {N ps : List Str} {k : Nat} {sp : Sp} {c T : Addr} (h : HasL K mg x st c) (B : LamB K mg c T) (kb : K.In base) (S : FnScope N ps (defScope st))
    (hb : ∀ (kV doc pm : Value) (an : Option Addr) (cdv ct : Value) (us : List Value), us.length = ps.length → bindArgs (PySem.W.fnOf x x (defArgs st) (defBody st) (defScope st) .none kV doc pm an cdv ct) ⟨us, []⟩ = pure (ps.zip us))
    (len : ∀ vs H Q E, sp vs H Q E → vs.length = ps.length)
    (hbody : ∀ (f : Addr) (A : Around) (outer : List Env) (s : Shared) (H : Hp) (vs : List V) (Q : VK) (E : XK), Room k (A.deeper (envOfC x (defScope st) s.heap.objs.size f (.ref c))) → LamX (cxOf CX0 P w K mg base N x (defScope st) f (.ref c) A outer s H E).nox c T (x ++ ".<locals>." ++ "<lambda>") → sp vs H Q E →
      ∃ t, QSs (cxOf CX0 P w K mg base N x (defScope st) f (.ref c) A outer s H E).nox (defBody st) t ∧ t { nx := fun _ H' => Q .non H', rt := Q } (start N vs) H) : Fn P w K mg base x ps (k + 1) sp := by
  obtain ⟨f, oc, od, kV, doc, pm, an, ct, osl, lk, hcd, kp, hm⟩ := h
  refine ⟨f, _, hm, kp, .all (hb kV doc pm an (.ref c) ct), fn_of lk hcd S len fun A outer s H vs Q E hr hsp => ?_⟩
  have L : LamX (cxOf CX0 P w K mg base N x (defScope st) f (.ref c) A outer s H E).nox c T (x ++ ".<locals>." ++ "<lambda>") :=
    ⟨rfl, codeHd_of kb B.hd, let ⟨bm, o, a1, a2, a3, a4, a5, a6⟩ := B.bm; ⟨bm, o, a1, a2, a3, a4, kb _ _ a5, a6⟩, rfl, B.gl⟩
  obtain ⟨t, h, q⟩ := hbody f A outer s H vs Q E hr L hsp
  exact ⟨t, h.h.nox, q⟩
end
/-! within a lambda's body -/
section
variable {P : Program} {w : World} {K : PySem.W.Frag} {mg : Str → Option Value} {base : Heap} {x nm : Str} {scope : Scope} {f : Addr} {cv : Value} {A : Around} {outer : List Env} {s : Shared} {H : Hp} {E : XK} {pos : Pos}
theorem qix_tupL : QIx (cxOf CX0 P w K mg base [x] nm scope f cv A outer s H E) (rIxT K) := ⟨ix_tup (X := cxOf CX0 P w K mg base [x] nm scope f cv A outer s H E)⟩
theorem qvLm (n : Nm scope x .local := by decide +kernel) : QE (cxOf CX0 P w K mg base [x] nm scope f cv A outer s H E) (.Name x pos) (tVar 0) := qvN 0 n
theorem qe_globLm {y : Str} {v : V} {u : Value} (hm : mg y = some u) (r : RelV v u) (n : Nm scope y .globalImplicit := by decide +kernel) : QE (cxOf CX0 P w K mg base [x] nm scope f cv A outer s H E) (.Name y pos) (tC v) := qe_globN n hm r
end
/-! ### the head, where tables are tracked -/
structure Tb where
  c : Addr
  P : Addr
  nm : Str
def tabH (ts : List Tb) (b : Addr) : Option HO := (ts.find? fun t => t.P == b).map fun t => .tbl #[.str t.nm 0]
def TabsIn (ts : List Tb) (H : Hp) : Prop := ∀ t ∈ ts, IsTab H t.P t.nm
/-- law's promise: a list of at most 63 ints is handed in, True comes out -/
def spLawT (K : PySem.W.Frag) (ts : List Tb) : Sp := fun vs H Q _ => ∃ (a : Addr) (ns : List Int), vs = [.ref a] ∧ SqL K H a (ns.map V.int) ∧ ns.length ≤ 63 ∧ TabsIn ts H ∧ ∀ H', Q (.bl true) H'
theorem law_callT {P : Program} {w : World} {K : PySem.W.Frag} {mg mb : Str → Option Value} {k : Nat} {fa a : Addr} {fd : FuncData} {x : Str} {s₁ : Shared} {vs : List Value} {ns : List Int} {ts : List Tb}
    (KX : K.In s₁.heap) (hns : s₁.heap.Ns mainGlobals mg) (hb : s₁.heap.Ns builtinsNs mb) (hbb : ∀ x : Str, x ≠ "__name__" → mb x = bootBuiltins x) (hlim : s₁.heap.NoLimit) (hg : s₁.gens = #[])
    (ha : s₁.heap.get? a = some { cls := .type "list", data := .seq vs.toArray }) (hi : IntsAre vs ns) (hl : ns.length ≤ 63) (hr : Room k callerA)
    (hts : ∀ t ∈ ts, s₁.heap.get? t.P = some { cls := .none, data := .fields #[] } ∧ codeHdIn K t.c t.P = true ∧ K.lookup t.P = none) (hnd : (ts.map (·.P)).Nodup)
    (F : ∀ base : Heap, K.In base → base.Ns mainGlobals mg → FnOk P w K mg base CX0 k fa fd [x] (spLawT K ts)) (hbind : ∀ (s : Shared) (u : Value), BindsTo s fd ⟨[u], []⟩ [(x, u)]) :
    codeAny (model P w) callerA (.call (.ref fa) ⟨[.ref a], []⟩) (fun r s' => r = .ok (.ret (.bool true)) ∧ OldK s₁.heap s'.heap ∧ s'.os = s₁.os ∧ AllBare s'.gens) s₁ := by
  have rv := vals_ints hi
  have lenV := hi.length
  have hl' : ns.length ≤ sizeLine := Nat.le_trans hl (by decide)
  have tabS : ∀ b u, tabH ts b = some u → ∃ t ∈ ts, t.P = b ∧ u = .tbl #[.str t.nm 0] := fun b u e => by
    unfold tabH at e
    obtain ⟨t, h1, h2⟩ := Option.map_eq_some_iff.mp e
    exact ⟨t, List.mem_of_find?_eq_some h1, by simpa using List.find?_some h1, h2.symm⟩
  have tabN : ∀ t ∈ ts, ∃ u, tabH ts t.P = some u := fun t ht => by
    unfold tabH
    cases e : ts.find? (fun t' => t'.P == t.P) with
    | none => have := List.find?_eq_none.mp e t ht; simp at this
    | some t' => exact ⟨_, rfl⟩
  have tabE : ∀ t ∈ ts, tabH ts t.P = some (.tbl #[.str t.nm 0]) := fun t ht => by
    obtain ⟨u, e⟩ := tabN t ht
    obtain ⟨t', h1, h2, h3⟩ := tabS _ _ e
    have : t' = t := by
      have e1 : ∀ {l : List Tb} {t t' : Tb}, (l.map (·.P)).Nodup → t ∈ l → t' ∈ l → t'.P = t.P → t' = t := by
        intro l
        induction l with
        | nil => intro t t' _ h; cases h
        | cons y l ih =>
          intro t t' hn h h' hp
          rw [List.map_cons, List.nodup_cons] at hn
          rcases List.mem_cons.mp h with z | z
          · rcases List.mem_cons.mp h' with z' | z'
            · rw [z, z']
            · rw [z] at hp; exact absurd (List.mem_map.mpr ⟨t', z', hp⟩) hn.1
          · rcases List.mem_cons.mp h' with z' | z'
            · rw [z'] at hp; exact absurd (List.mem_map.mpr ⟨t, z, hp.symm⟩) hn.1
            · exact ih hn.2 z z' hp
      exact e1 hnd ht h1 h2
    rw [e, h3, this]
  -- from an abstract heap in which nothing but the script and the tables may be tracked
  have core : ∀ H : Hp, (∀ b u, H b = some u → (b = a ∧ ∃ o xs, u = .frz o (.lst xs)) ∨ tabH ts b = some u) → TabsIn ts H → SqL K H a (ns.map V.int) → HOk P w H s₁.heap → (H a ≠ none → K.lookup a = none) →
      codeAny (model P w) callerA (.call (.ref fa) ⟨[.ref a], []⟩) (fun r s' => r = .ok (.ret (.bool true)) ∧ OldK s₁.heap s'.heap ∧ s'.os = s₁.os ∧ AllBare s'.gens) s₁ := by
    intro H hO hT hS hok hK
    have base_of : ∀ {b : Addr} {o : Obj}, s₁.heap.get? b = some o → H b = none → (hidT s₁.heap H).get? b = some o := fun e n => hidT_get e n
    have noA : ∀ {b : Addr} {o : Obj} {es : Array DictEntry} {ep : Nat}, s₁.heap.get? b = some o → o.data = .dict es ep → H b = none := fun {b o es ep} e d => by
      cases q : H b with
      | none => rfl
      | some u =>
        rcases hO b u q with ⟨e', _⟩ | e'
        · subst e'
          rw [ha] at e; cases e
          have d' : Data.seq vs.toArray _ = Data.dict es ep := d
          cases d'
        · obtain ⟨t, h1, h2, _⟩ := tabS b u e'
          subst h2
          rw [(hts t h1).1] at e; cases e; cases d
    have nsK : ∀ {b : Addr} {m : Str → Option Value}, s₁.heap.Ns b m → (hidT s₁.heap H).Ns b m := fun {b m} ⟨o, es, ep, e, d, r⟩ => ⟨o, es, ep, base_of e (noA e d), d, r⟩
    have hKb : K.In (hidT s₁.heap H) := fun b o e => base_of (KX b o e) (by
      cases q : H b with
      | none => rfl
      | some u =>
        rcases hO b u q with ⟨e', _⟩ | e'
        · subst e'
          rw [hK (by rw [q]; simp)] at e; cases e
        · obtain ⟨t, h1, h2, _⟩ := tabS b u e'
          subst h2
          rw [(hts t h1).2.2] at e; cases e)
    have hM : Mod K mg (hidT s₁.heap H) := ⟨hKb, nsK hns, ⟨mb, nsK hb, hbb⟩, let ⟨mc, h1, h2⟩ := hlim; ⟨mc, nsK h1, h2⟩⟩
    have e0 : Env0 P w K mg (hidT s₁.heap H) callerA [] s₁ H := ⟨rfl, hM, fun b o e => of_hidT e, Nat.le_of_eq (hidT_size _ _), trivial, fun b hb => absurd (show b ∈ ([] : List Addr) from hb) (by simp), hok, .of_eq hg⟩
    refine codeAny_mono ((F _ hKb (nsK hns)).run callerA [] s₁ H ⟨[.ref a], []⟩ [.ref a] [.ref a] (fun v _ => v = .bl true) E0 hr e0 (hbind s₁ (.ref a)) (.cons rfl .nil) ⟨a, ns, rfl, hS, hl, hT, fun _ => rfl⟩) fun r s' h => ?_
    cases r with
    | error e => exact h.elim
    | ok fl =>
      cases fl with
      | next => exact False.elim h
      | brk => exact False.elim h
      | cont => exact False.elim h
      | ret u =>
        obtain ⟨v, H', os, bare, un, hok', r', q⟩ := h
        have q' : v = .bl true := q
        subst q'
        obtain rfl : u = Value.bool true := r'
        have nfs : ∀ b : Addr, b ∉ frs [] := fun b z => absurd (show b ∈ ([] : List Addr) from z) (by simp)
        refine ⟨rfl, ⟨fun b o e => ?_, fun b o e => un.there b o e (by simp)⟩, os, bare⟩
        cases q : H b with
        | none => exact .inl (un.keep b o e q (nfs b) (by simp))
        | some u =>
          rcases hO b u q with ⟨_, ob, xs, z⟩ | z
          · subst z
            have z2 := un.frzs b ob _ q
            obtain ⟨e1, _⟩ := hok b _ q
            obtain ⟨e2, _⟩ := hok' b _ z2
            rw [e] at e1; cases e1
            exact .inl e2
          · obtain ⟨t, h1, h2, h3⟩ := tabS b u z
            subst h2 h3
            obtain ⟨e1, e2, _⟩ := hts t h1
            rw [e1] at e
            cases e
            obtain ⟨more, z2⟩ := un.tbls _ _ q
            obtain ⟨qs, _, _, e3, _⟩ := hok' _ _ z2
            obtain ⟨oc, vv, _, _, _, _, _, _, _, f1, f2, f3, f4, _⟩ := codeHd_of KX e2
            exact .inr (.inl ⟨⟨t.c, oc, vv, f1, f2, f3, f4⟩, rfl, #[], qs, rfl, by rw [e3]; simp⟩)
  have tabOk : ∀ (H : Hp), (∀ t ∈ ts, H t.P = some (.tbl #[.str t.nm 0])) → ∀ b u, tabH ts b = some u → ObjOk P w H s₁.heap b u := fun H hH b u z => by
    obtain ⟨t, h1, h2, h3⟩ := tabS b u z
    subst h2 h3
    exact ⟨#[], t.nm, 0, (hts t h1).1, trivial, rfl, fun pos cv e => by cases e⟩
  have nPa : ∀ t ∈ ts, t.P ≠ a := fun t ht z => by
    have := (hts t ht).1
    rw [z, ha] at this; cases this
  cases hk : K.lookup a with
  | some o =>
    have e := KX a o hk
    rw [ha] at e
    cases e
    refine core (tabH ts) (fun b u z => .inr z) (fun t ht => ⟨_, _, tabE t ht, rfl⟩) (.inr ⟨_, vs.toArray, _, hk, rfl, rfl, rfl, by rw [List.size_toArray, lenV]; exact hl', by simpa using rv⟩) (fun b u z => tabOk _ tabE b u z) fun z => ?_
    exfalso
    cases q : tabH ts a with
    | none => exact z q
    | some u => obtain ⟨t, h1, h2, _⟩ := tabS a u q; exact nPa t h1 h2
  | none =>
    have hH : ∀ t ∈ ts, (fun b => if b = a then some (HO.frz { cls := .type "list", data := .seq vs.toArray } (.lst (ns.map V.int))) else tabH ts b) t.P = some (.tbl #[.str t.nm 0]) := fun t ht => by
      show (if t.P = a then _ else _) = _
      rw [if_neg (nPa t ht)]; exact tabE t ht
    refine core (fun b => if b = a then some (.frz { cls := .type "list", data := .seq vs.toArray } (.lst (ns.map V.int))) else tabH ts b) (fun b u z => ?_) (fun t ht => ⟨_, _, hH t ht, rfl⟩) (.inl (.inr ⟨{ cls := .type "list", data := .seq vs.toArray }, if_pos rfl⟩)) (fun b u z => ?_) fun _ => hk
    · by_cases hb : b = a
      · have z' := (if_pos hb).symm.trans z
        cases z'
        exact .inl ⟨hb, _, _, rfl⟩
      · exact .inr ((if_neg hb).symm.trans z)
    · by_cases hb : b = a
      · have z' := (if_pos hb).symm.trans z
        cases z'
        subst hb
        exact ⟨ha, by rw [List.length_map]; exact hl', vs, _, rv, ha⟩
      · exact tabOk _ hH b u ((if_neg hb).symm.trans z)
/-- K: what is asked of the module; KT: that, and the tables -/
theorem walkLawT {l : PySem.W.OpenLaw} {q : Program} {loose : List Str} {XP : (Str → Option Value) → Heap → Prop} {YP : World → Heap → Prop} {d : DefRec} {K KT : Params → PySem.W.Frag} {ts : List Tb} (hn : l.most = some 63) (hdf : d.params.defaults = [])
    (hY : ∀ (w : World) (h : Heap), YP w h → (KT w.params).In h) (hsub : ∀ (p : Params) (h : Heap), (KT p).In h → (K p).In h)
    (hts : ∀ (p : Params), ∀ t ∈ ts, (KT p).lookup t.P = some { cls := .none, data := .fields #[] } ∧ codeHdIn (K p) t.c t.P = true ∧ (K p).lookup t.P = none) (hnd : (ts.map (·.P)).Nodup)
    (F : ∀ (w : World) (mg : Str → Option Value) (fa : Addr) (h : Heap), (K w.params).In h → h.Ns mainGlobals mg → mg d.name = some (.ref fa) →
      ∃ fd : FuncData, (∀ (s : Shared) (u : Value), BindsTo s fd ⟨[u], []⟩ [("_law_script", u)]) ∧ ∀ base : Heap, (K w.params).In base → base.Ns mainGlobals mg → FnOk l.prog w (K w.params) mg base CX0 40 fa fd ["_law_script"] (spLawT (K w.params) ts)) :
    PySem.W.WalkO q loose XP YP l.row.toRowW d [] (fun f vs => PySem.call f vs) := by
  refine Att.attach_call hn hdf fun w s₀ s₁ mg mb fa o pm cd doc a vs ns G Y ho hd hcd hmg hobj hints hlen hg => ?_
  have KT' := hY w _ Y
  have KX := hsub _ _ KT'
  obtain ⟨fd, hb, hF⟩ := F w mg fa _ KX G.T.g hmg
  exact law_callT KX G.T.g G.T.b G.T.builtins G.T.nolimit hg hobj hints hlen ⟨rfl, by decide, by decide⟩ (fun t ht => ⟨KT' _ _ (hts w.params t ht).1, (hts w.params t ht).2⟩) hnd hF hb
end L2
namespace L2
open PySem PySem.Spec PyProof.Rows PySem.W
theorem closure_nil {scope : Scope} {env : Env} (h : ∀ p ∈ scope.names, p.2 ≠ .free) : closureFor scope env = pure [] := by
  have go : ∀ (l : List (Str × NameKind)) (cs : List (Str × Addr)), (∀ p ∈ l, p.2 ≠ .free) →
      (forIn l cs (fun (x : Str × NameKind) (r : List (Str × Addr)) => if (x.2 == NameKind.free) = true then (do let a ← cellOf env x.1; pure (ForInStep.yield ((x.1, a) :: r)) : Sem (ForInStep (List (Str × Addr)))) else pure (ForInStep.yield r)) : Sem _) = pure cs := by
    intro l
    induction l with
    | nil => intro cs _; rfl
    | cons p l ih =>
      intro cs hp
      rw [List.forIn_cons]
      have e2 : (p.2 == NameKind.free) = false := by simpa using hp p List.mem_cons_self
      simp only [e2, Bool.false_eq_true, if_false, pure_bind]
      exact ih cs fun q hq => hp q (List.mem_cons_of_mem _ hq)
  unfold closureFor
  have e' := congrArg (fun m : Sem (List (Str × Addr)) => m >>= fun r => pure r) (go scope.names [] h)
  simp only [pure_bind] at e'
  exact e'
theorem Frag.In.left {K T : Frag} {h : Heap} (x : Frag.In (K ++ T : List (Addr × Obj)) h) : K.In h := fun a o e => x a o (by
  show List.lookup a (K ++ T) = some o
  rw [List.lookup_append]
  have : List.lookup a K = some o := e
  rw [this]; rfl)
end L2
namespace L2
open PySem PySem.Spec PyProof.Rows PySem.W
section
variable {X : Cx} {a : Expr} {ta : TE}
def tTru (K : Frag) (ta : TE) : TT := fun σ H Q => ta σ H fun x H' => ∃ k, TruV K x H' k ∧ Q k H'
theorem qt_truth (ha : QE X a ta) (he : ∀ whole, isTrue a X.env whole = (do let v ← whole; standAt a.pos; holding [v] (truthy v))) : QT X a (tTru X.K ta) := ⟨pt_truth ha.h he⟩
theorem qmt_extend : QM X "list.extend" rExtend := ⟨mt_extend⟩
end
end L2

end
section
set_option Elab.async false
set_option linter.all false
set_option maxRecDepth 100000
set_option maxHeartbeats 4000000
/-! a tuple of ints, texts and None in a list of such tuples; == of two empty lists -/
namespace L2
open PySem PySem.Spec PyProof.Rows
def sc : V → Bool
  | .non => true
  | .int _ => true
  | .str _ => true
  | _ => false
theorem eqAt_sc {A : Around} {s : Shared} {x y : V} {u v : Value} (hx : sc x = true) (hy : sc y = true) (rx : RelV x u) (ry : RelV y v) : SeqAt.EqAt A s u v (decide (x = y)) := by
  cases x <;> first | cases hx | skip
  · cases rx
    cases y <;> first | cases hy | skip
    · cases ry; exact SeqAt.EqAt.same _
    · obtain ⟨t, rfl⟩ := ry; rw [decide_eq_false (fun z => nomatch z)]; exact SeqAt.EqAt.none_int _ _
    · obtain ⟨t, rfl⟩ := ry; rw [decide_eq_false (fun z => nomatch z)]; exact SeqAt.EqAt.none_str _ _
  · rename_i i
    obtain ⟨t1, rfl⟩ := rx
    cases y <;> first | cases hy | skip
    · cases ry; rw [decide_eq_false (fun z => nomatch z)]; exact SeqAt.EqAt.int_none _ _
    · rename_i j
      obtain ⟨t, rfl⟩ := ry
      have e : decide (V.int i = V.int j) = (i == j) := by rw [Bool.eq_iff_iff, decide_eq_true_iff, beq_iff_eq]; exact ⟨fun z => by injection z, fun z => by rw [z]⟩
      rw [e]; exact SeqAt.EqAt.int_int _ _ _ _
    · obtain ⟨t, rfl⟩ := ry; rw [decide_eq_false (fun z => nomatch z)]; exact SeqAt.EqAt.int_str _ _ _ _
  · rename_i i
    obtain ⟨t1, rfl⟩ := rx
    cases y <;> first | cases hy | skip
    · cases ry; rw [decide_eq_false (fun z => nomatch z)]; exact SeqAt.EqAt.str_none _ _
    · obtain ⟨t, rfl⟩ := ry; rw [decide_eq_false (fun z => nomatch z)]; exact SeqAt.EqAt.str_int _ _ _ _
    · rename_i j
      obtain ⟨t, rfl⟩ := ry
      have e : decide (V.str i = V.str j) = (i == j) := by rw [Bool.eq_iff_iff, decide_eq_true_iff, beq_iff_eq]; exact ⟨fun z => by injection z, fun z => by rw [z]⟩
      rw [e]; exact SeqAt.EqAt.str_str _ _ _ _
theorem all_same (xs ys : List V) : ((List.range (min xs.length ys.length)).all (fun j => decide (xs[j]? = ys[j]?)) && xs.length == ys.length) = decide (xs = ys) := by
  rw [Bool.eq_iff_iff, Bool.and_eq_true, decide_eq_true_iff, List.all_eq_true, beq_iff_eq]
  constructor
  · rintro ⟨h1, h2⟩
    apply List.ext_getElem?
    intro j
    by_cases c : j < xs.length
    · exact of_decide_eq_true (h1 j (List.mem_range.mpr (by omega)))
    · rw [List.getElem?_eq_none (by omega), List.getElem?_eq_none (by omega)]
  · rintro rfl
    exact ⟨fun j _ => decide_eq_true rfl, rfl⟩
/-- tuples, as a list bears them -/
def TupsL (H : Hp) : List (List V) → List V → Prop
  | [], vs => vs = []
  | x :: r, vs => ∃ a vs', vs = .ref a :: vs' ∧ H a = some (.tup x) ∧ TupsL H r vs'
def tupU (H : Hp) (xs : List V) : Value → Bool
  | .ref a => match H a with
    | some (.tup ys) => decide (ys = xs)
    | _ => false
  | _ => false
section
variable {X : Cx}
theorem eqAt_tup {pins : List (Addr × Obj)} {σ : St} {H : Hp} {s : Shared} {A : Around} {a b : Addr} {xs ys : List V} (I : Inv X pins σ H s) (hu : A.units < cLine) (ha : H a = some (.tup xs)) (hb : H b = some (.tup ys)) (sx : ∀ x ∈ xs, sc x = true) (sy : ∀ x ∈ ys, sc x = true) :
    SeqAt.EqAt A s (.ref a) (.ref b) (decide (xs = ys)) := by
  by_cases e : a = b
  · subst e
    rw [ha] at hb
    injection hb with hb
    injection hb with hb
    rw [decide_eq_true hb]
    exact SeqAt.EqAt.same _
  · obtain ⟨us, rx, px, _⟩ := I.tuple (SqT.of ha)
    obtain ⟨vs, ry, py, _⟩ := I.tuple (SqT.of hb)
    have l1 := rx.length
    have l2 := ry.length
    have h := SeqAt.RcAt.tuples (A := A) (e := fun j => decide (xs[j]? = ys[j]?)) (show s.heap.IsTuple a _ from px) (show s.heap.IsTuple b _ from py) hu (fun j h1 h2 => by
      have j1 : j < xs.length := by rw [List.size_toArray] at h1; omega
      have j2 : j < ys.length := by rw [List.size_toArray] at h2; omega
      obtain ⟨u, e1, r1⟩ := rx.get (List.getElem?_eq_getElem j1)
      obtain ⟨v, e2, r2⟩ := ry.get (List.getElem?_eq_getElem j2)
      have k1 : us[j]'(by omega) = u := by rw [List.getElem?_eq_getElem (by omega)] at e1; exact Option.some.inj e1
      have k2 : vs[j]'(by omega) = v := by rw [List.getElem?_eq_getElem (by omega)] at e2; exact Option.some.inj e2
      have e3 : decide (xs[j]? = ys[j]?) = decide (xs[j] = ys[j]) := by
        rw [List.getElem?_eq_getElem j1, List.getElem?_eq_getElem j2, Bool.eq_iff_iff, decide_eq_true_iff, decide_eq_true_iff, Option.some.injEq]
      show SeqAt.EqAt A.in1 s (us.toArray[j]) (vs.toArray[j]) (decide (xs[j]? = ys[j]?))
      rw [e3]
      simp only [List.getElem_toArray]
      rw [k1, k2]
      exact eqAt_sc (sx _ (List.getElem_mem j1)) (sy _ (List.getElem_mem j2)) r1 r2)
    rw [List.size_toArray, List.size_toArray, ← l1, ← l2, all_same] at h
    exact SeqAt.EqAt.of_refs e h
theorem tups_eqAt {pins : List (Addr × Obj)} {σ : St} {H : Hp} {s : Shared} {A : Around} {b : Addr} {xs : List V} (I : Inv X pins σ H s) (hu : A.units < cLine) (hb : H b = some (.tup xs)) (sx : ∀ x ∈ xs, sc x = true) :
    ∀ {ps : List (List V)} {vs : List V} {us : List Value}, TupsL H ps vs → (∀ p ∈ ps, ∀ x ∈ p, sc x = true) → Vals vs us → (∀ u ∈ us, SeqAt.EqAt A s u (.ref b) (tupU H xs u)) ∧ us.any (tupU H xs) = decide (xs ∈ ps)
  | [], vs, us, h, _, r => by
    cases h
    cases r
    exact ⟨(fun u hu => nomatch hu), (by simp)⟩
  | p :: ps, vs, us, ⟨a, vs', e, h1, h2⟩, sp, r => by
    subst e
    cases r with
    | cons r1 r2 =>
      rename_i u0 us'
      obtain rfl : u0 = Value.ref a := r1
      obtain ⟨g1, g2⟩ := tups_eqAt I hu hb sx h2 (fun q hq => sp q (List.mem_cons_of_mem _ hq)) r2
      have e : tupU H xs (.ref a) = decide (p = xs) := by
        show (match H a with | some (.tup ys) => decide (ys = xs) | _ => false) = _
        rw [h1]
      refine ⟨fun u hm => ?_, ?_⟩
      · rcases List.mem_cons.mp hm with rfl | hm
        · rw [e]; exact eqAt_tup I hu h1 hb (sp p List.mem_cons_self) sx
        · exact g1 u hm
      · rw [List.any_cons, e, g2, Bool.eq_iff_iff, Bool.or_eq_true, decide_eq_true_iff, decide_eq_true_iff, decide_eq_true_iff, List.mem_cons]
        exact ⟨fun z => z.imp (fun y => y.symm) id, fun z => z.imp (fun y => y.symm) id⟩
def rInT (K : PySem.W.Frag) : R2 := fun x y H Q => ∃ (b p : Addr) (xs : List V) (ps : List (List V)) (vs : List V), x = .ref b ∧ H b = some (.tup xs) ∧ y = .ref p ∧ SqL K H p vs ∧ TupsL H ps vs ∧ (∀ x ∈ xs, sc x = true) ∧ (∀ p ∈ ps, ∀ x ∈ p, sc x = true) ∧ Q (.bl (decide (xs ∈ ps))) H
theorem op_inT (hu : X.A.units + 1 < cLine) : OpR X (compareOp .In) (rInT X.K) := by
  intro pins s σ H x y v u Q I rx ry ⟨b, p, xs, ps, vs, ex, hb, ey, hq, hp, sx, sp, q⟩
  subst ex ey
  obtain rfl : v = Value.ref b := rx
  obtain rfl : u = Value.ref p := ry
  obtain ⟨its, r, pl, hz⟩ := I.list hq
  obtain ⟨g1, g2⟩ := tups_eqAt (A := X.A.in1) I (by show X.A.units + 1 < cLine; exact hu) hb sx hp sp r
  refine SeqAt.in_listAt (tupU H xs) pl.isList (fun w hw => g1 w (by simpa using hw)) ⟨.bl _, H, I, rfl, ?_⟩
  rw [show its.toArray.any (tupU H xs) = its.any (tupU H xs) by simp, g2]
  exact q
theorem qop_inT {k : Nat} (hr : Room k X.A) : QOp X (compareOp .In) (rInT X.K) := ⟨op_inT (by have := hr.units; omega)⟩
/-- [] == [] -/
def rEqNil (K : PySem.W.Frag) : R2 := fun x y H Q => ∃ (a b : Addr), x = .ref a ∧ y = .ref b ∧ SqL K H a [] ∧ SqL K H b [] ∧ Q (.bl true) H
theorem op_eqNil (hu : X.A.units < cLine) : OpR X (compareOp .Eq) (rEqNil X.K) := by
  intro pins s σ H x y v u Q I rx ry ⟨a, b, ex, ey, ha, hb, q⟩
  subst ex ey
  obtain rfl : v = Value.ref a := rx
  obtain rfl : u = Value.ref b := ry
  obtain ⟨i1, r1, p1, _⟩ := I.list ha
  obtain ⟨i2, r2, p2, _⟩ := I.list hb
  cases r1
  cases r2
  have h := SeqAt.RcAt.lists (A := X.A) (e := fun _ => true) p1.isList p2.isList rfl hu (fun j h1 h2 => by simp at h1)
  rw [show ((List.range ([] : List Value).toArray.size).all fun _ => true) = true by simp] at h
  exact h X.prog X.w _ _ ⟨.bl true, H, I, rfl, q⟩
theorem qop_eqNil {k : Nat} (hr : Room k X.A) : QOp X (compareOp .Eq) (rEqNil X.K) := ⟨op_eqNil hr.units0⟩
end
end L2

end
set_option Elab.async false
set_option linter.all false
set_option maxRecDepth 100000
set_option maxHeartbeats 4000000
namespace Law
open PySem L2
local macro_rules | `(tactic| walk_at "hp") => `(tactic| first | exact upd_same | assumption | (rw [upd_ne (by first | assumption | (apply Ne.symm; assumption))]; walk_at "hp"))
local macro_rules | `(tactic| walk_at "sq") => `(tactic| first | assumption | exact SqL.of (by walk_at "hp"))
local macro_rules | `(tactic| walk_at "dc") => `(tactic| first | decide | assumption | omega)
local macro_rules | `(tactic| walk_at "rd1") => `(tactic| first | refine iteT ?_ | refine iteF ?_ | refine iteD (fun _ => ?_) (fun _ => ?_) | refine iteND (fun _ => ?_) (fun _ => ?_) | refine iteB (fun _ => ?_) (fun _ => ?_) | refine ⟨_, rfl, ?_⟩ | refine ⟨_, _, rfl, rfl, ?_⟩ | refine ⟨(.inr ⟨by decide, by decide⟩ : CMul _ _), ?_⟩ | refine ⟨(⟨by walk_at "dc", by walk_at "dc"⟩ : CDiv _ _), ?_⟩ | refine ⟨(⟨by decide, by decide, by decide⟩ : CPow _ _), ?_⟩ | refine ⟨(show (0 : Int) < _ by walk_at "dc"), ?_⟩ | refine ⟨_, _, _, _, rfl, rfl, (by walk_at "sq"), (by rfl), ?_⟩ | refine ⟨_, _, _, _, rfl, rfl, (by walk_at "sq"), at_ints (by omega) (by omega), ?_⟩ | refine ⟨_, _, _, _, rfl, rfl, (by walk_at "hp"), (by rfl), ?_⟩ | refine ⟨_, _, rfl, .inl (by walk_at "sq"), ?_⟩ | fail "rd")
local macro_rules | `(tactic| walk_at "rd") => `(tactic| repeat' walk_at "rd1")
def top (i : Nat) : Stmt := PySem.Challenge.pw_forsworn_k25_whole_roads_walked.main.body.getD i (.Pass ⟨0, 0, 0, 0⟩)

/-- the built-in names that nothing hides -/
structure Txt (mg : Str → Option Value) : Prop where
  len : mg "len" = none
  list : mg "list" = none
  range : mg "range" = none
  isinstance : mg "isinstance" = none
  bool : mg "bool" = none
  int : mg "int" = none
  str : mg "str" = none
  tuple : mg "tuple" = none
  zip : mg "zip" = none
  all : mg "all" = none
  sorted : mg "sorted" = none
  max : mg "max" = none
  min : mg "min" = none

section
variable {P : Program} {w : World} {K : PySem.W.Frag} {mg : Str → Option Value} {base : Heap}
/-! ### _law_whole, _law_same -/
def isInt : D → Bool
  | .int _ => true
  | _ => false
def spWhole : Sp := fun vs H Q _ => ∃ (v : V) (d : D), vs = [v] ∧ Rep H d v ∧ Q (.bl (isInt d)) H
abbrev s_law_whole : Stmt := top 35
theorem sc__law_whole : FnScope ["_law_found"] ["_law_found"] (defScope s_law_whole) := ⟨rfl, rfl, rfl, by decide +kernel, rfl, by decide +kernel, by decide +kernel⟩
theorem nm__law_whole__law_found : Nm (defScope s_law_whole) "_law_found" .local := by decide +kernel
theorem nm__law_whole_bool : Nm (defScope s_law_whole) "bool" .globalImplicit := by decide +kernel
theorem nm__law_whole_int : Nm (defScope s_law_whole) "int" .globalImplicit := by decide +kernel
theorem nm__law_whole_isinstance : Nm (defScope s_law_whole) "isinstance" .globalImplicit := by decide +kernel
theorem f__law_whole (h__law_whole : Has K mg "_law_whole" s_law_whole) (T : Txt mg) : Fn P w K mg base "_law_whole" ["_law_found"] 1 spWhole := by
  refine h__law_whole.fnQ sc__law_whole (fun _ _ _ _ _ _ us hl => match us, hl with | [_], _ => rfl) (fun vs H Q E h => ?_) (fun f cdv A outer s H vs Q E hr h => ?_)
  · obtain ⟨v, d, rfl, _⟩ := h
    rfl
  · obtain ⟨v, d, rfl, r, k⟩ := h
    refine ⟨_, (qss_one (qs_ret (qe_and (qe_callBN qcall_isinst nm__law_whole_isinstance T.isinstance b_isinstance (qa_cons (qvN 0 nm__law_whole__law_found) (qa_cons (qe_bltnN (v := .ty "int") nm__law_whole_int T.int b_int rfl) qa_nil))) (qe_one (qe_not (qe_callBN qcall_isinst nm__law_whole_isinstance T.isinstance b_isinstance (qa_cons (qvN 0 nm__law_whole__law_found) (qa_cons (qe_bltnN (v := .ty "bool") nm__law_whole_bool T.bool b_bool rfl) qa_nil)))))))), ?_⟩
    obtain ⟨t1, ty1, e1⟩ := isi (K := K) r "int" (by decide)
    obtain ⟨t2, ty2, e2⟩ := isi (K := K) r "bool" (by decide)
    refine ⟨_, rfl, v, "int", t1, _, rfl, ty1, e1, _, rfl, iteB (fun h1 => ?_) (fun h1 => ?_)⟩
    · refine ⟨_, rfl, v, "bool", t2, _, rfl, ty2, e2, _, rfl, ?_⟩
      have e : (!isI d "bool") = isInt d := by cases d <;> first | rfl | (simp [isI] at h1)
      rw [e]
      exact k
    · have e : false = isInt d := by cases d <;> first | rfl | (simp [isI] at h1)
      rw [e]
      exact k
def spSame (n : Nat) : Sp := fun vs H Q _ => ∃ (v1 v2 : V) (d1 d2 : D), vs = [v1, v2] ∧ Rep H d1 v1 ∧ Rep H d2 v2 ∧ d2.deep ≤ n ∧ ∀ H', Same H H' → Q (.bl (sameD d1 d2)) H'
abbrev s_law_same : Stmt := top 36
theorem sc__law_same : FnScope ["_law_found", "_law_due", "_law_one", "_law_other"] ["_law_found", "_law_due"] (defScope s_law_same) := ⟨rfl, rfl, rfl, by decide +kernel, rfl, by decide +kernel, by decide +kernel⟩
theorem nm__law_same__law_due : Nm (defScope s_law_same) "_law_due" .local := by decide +kernel
theorem nm__law_same__law_found : Nm (defScope s_law_same) "_law_found" .local := by decide +kernel
theorem nm__law_same__law_one : Nm (defScope s_law_same) "_law_one" .local := by decide +kernel
theorem nm__law_same__law_other : Nm (defScope s_law_same) "_law_other" .local := by decide +kernel
theorem nm__law_same__law_same : Nm (defScope s_law_same) "_law_same" .globalImplicit := by decide +kernel
theorem nm__law_same__law_whole : Nm (defScope s_law_same) "_law_whole" .globalImplicit := by decide +kernel
theorem nm__law_same_bool : Nm (defScope s_law_same) "bool" .globalImplicit := by decide +kernel
theorem nm__law_same_int : Nm (defScope s_law_same) "int" .globalImplicit := by decide +kernel
theorem nm__law_same_isinstance : Nm (defScope s_law_same) "isinstance" .globalImplicit := by decide +kernel
theorem nm__law_same_len : Nm (defScope s_law_same) "len" .globalImplicit := by decide +kernel
theorem nm__law_same_list : Nm (defScope s_law_same) "list" .globalImplicit := by decide +kernel
theorem nm__law_same_str : Nm (defScope s_law_same) "str" .globalImplicit := by decide +kernel
theorem nm__law_same_tuple : Nm (defScope s_law_same) "tuple" .globalImplicit := by decide +kernel
theorem nm__law_same_zip : Nm (defScope s_law_same) "zip" .globalImplicit := by decide +kernel
/-- the body, given itself for what is less deep (depth nought: nothing is asked of it) -/
theorem same_step {n k : Nat} (h__law_same : Has K mg "_law_same" s_law_same) (T : Txt mg) (F__law_whole : Fn P w K mg base "_law_whole" ["_law_found"] 1 spWhole)
    (F__law_same : Fn P w K mg base "_law_same" ["_law_found", "_law_due"] (k + 1) (fun vs H Q E => 0 < n ∧ spSame (n - 1) vs H Q E)) : Fn P w K mg base "_law_same" ["_law_found", "_law_due"] (k + 2) (spSame n) := by
  refine h__law_same.fnQ sc__law_same (fun _ _ _ _ _ _ us hl => match us, hl with | [_, _], _ => rfl) (fun vs H Q E h => ?_) (fun f cdv A outer s H vs Q E hr h => ?_)
  · obtain ⟨v1, v2, d1, d2, rfl, _⟩ := h
    rfl
  · obtain ⟨v1, v2, d1, d2, rfl, r1, r2, hn, q⟩ := h
    have hk : 1 ≤ k + 1 := Nat.le_add_left _ _
    refine ⟨_, (qss_cons (qs_if (qt_cmpR qop_isN (qvN 1 nm__law_same__law_due) qe_non (nomark _)) (qss_one (qs_ret (qe_cmpR qop_isN (qvN 0 nm__law_same__law_found) qe_non (nomark _)))) qss_nil)
 (qss_cons (qs_if (qt_val (qe_callBN qcall_isinst nm__law_same_isinstance T.isinstance b_isinstance (qa_cons (qvN 1 nm__law_same__law_due) (qa_cons (qe_bltnN (v := .ty "bool") nm__law_same_bool T.bool b_bool rfl) qa_nil)))) (qss_one (qs_ret (qe_and (qe_callBN qcall_isinst nm__law_same_isinstance T.isinstance b_isinstance (qa_cons (qvN 0 nm__law_same__law_found) (qa_cons (qe_bltnN (v := .ty "bool") nm__law_same_bool T.bool b_bool rfl) qa_nil))) (qe_one (qe_cmpR qop_eq (qvN 0 nm__law_same__law_found) (qvN 1 nm__law_same__law_due) (nomark _)))))) qss_nil)
 (qss_cons (qs_if (qt_val (qe_callBN qcall_isinst nm__law_same_isinstance T.isinstance b_isinstance (qa_cons (qvN 1 nm__law_same__law_due) (qa_cons (qe_bltnN (v := .ty "int") nm__law_same_int T.int b_int rfl) qa_nil)))) (qss_one (qs_ret (qe_and (qe_fnN F__law_whole (hr.mono (by omega)) nm__law_same__law_whole (qa_cons (qvN 0 nm__law_same__law_found) qa_nil)) (qe_one (qe_cmpR qop_eq (qvN 0 nm__law_same__law_found) (qvN 1 nm__law_same__law_due) (nomark _)))))) qss_nil)
 (qss_cons (qs_if (qt_val (qe_callBN qcall_isinst nm__law_same_isinstance T.isinstance b_isinstance (qa_cons (qvN 1 nm__law_same__law_due) (qa_cons (qe_bltnN (v := .ty "str") nm__law_same_str T.str b_str rfl) qa_nil)))) (qss_one (qs_ret (qe_and (qe_callBN qcall_isinst nm__law_same_isinstance T.isinstance b_isinstance (qa_cons (qvN 0 nm__law_same__law_found) (qa_cons (qe_bltnN (v := .ty "str") nm__law_same_str T.str b_str rfl) qa_nil))) (qe_one (qe_cmpR qop_eq (qvN 0 nm__law_same__law_found) (qvN 1 nm__law_same__law_due) (nomark _)))))) qss_nil)
 (qss_cons (qs_if (QW.pt (qw_or (qt_cmpR qop_ne (qe_callBN qcall_isinst nm__law_same_isinstance T.isinstance b_isinstance (qa_cons (qvN 1 nm__law_same__law_due) (qa_cons (qe_bltnN (v := .ty "list") nm__law_same_list T.list b_list rfl) qa_nil))) (qe_callBN qcall_isinst nm__law_same_isinstance T.isinstance b_isinstance (qa_cons (qvN 0 nm__law_same__law_found) (qa_cons (qe_bltnN (v := .ty "list") nm__law_same_list T.list b_list rfl) qa_nil))) (nomark _)) (qw_or1 (qt_cmpR qop_ne (qe_callBN qcall_isinst nm__law_same_isinstance T.isinstance b_isinstance (qa_cons (qvN 1 nm__law_same__law_due) (qa_cons (qe_bltnN (v := .ty "tuple") nm__law_same_tuple T.tuple b_tuple rfl) qa_nil))) (qe_callBN qcall_isinst nm__law_same_isinstance T.isinstance b_isinstance (qa_cons (qvN 0 nm__law_same__law_found) (qa_cons (qe_bltnN (v := .ty "tuple") nm__law_same_tuple T.tuple b_tuple rfl) qa_nil))) (nomark _))))) (qss_one (qs_ret qe_bl)) qss_nil)
 (qss_cons (qs_if (qt_cmpR qop_ne (qe_callBN qcall_len_seq nm__law_same_len T.len b_len (qa_cons (qvN 0 nm__law_same__law_found) qa_nil)) (qe_callBN qcall_len_seq nm__law_same_len T.len b_len (qa_cons (qvN 1 nm__law_same__law_due) qa_nil)) (nomark _)) (qss_one (qs_ret qe_bl)) qss_nil)
 (qss_cons (qs_for PassesOwn.never rfl (qi_zip nm__law_same_zip.1 T.zip (qa_cons (qvN 0 nm__law_same__law_found) (qa_cons (qvN 1 nm__law_same__law_due) qa_nil))) (qg_tup (by rfl) (qgs_cons (qg_nameN (i := 2) sc__law_same.nd nm__law_same__law_one) (qgs_cons (qg_nameN (i := 3) sc__law_same.nd nm__law_same__law_other) qgs_nil)))
  (qss_one (qs_if (qt_not (qt_val (qe_fnN F__law_same (hr.mono (by omega)) nm__law_same__law_same (qa_cons (qvN 2 nm__law_same__law_one) (qa_cons (qvN 3 nm__law_same__law_other) qa_nil))))) (qss_one (qs_ret qe_bl)) qss_nil)))
 (qss_one (qs_ret qe_bl))))))))), ?_⟩
    have q0 : Q (.bl (sameD d1 d2)) H := q H (Same.refl _)
    obtain ⟨tb2, yb2, eb2⟩ := isi (K := K) r2 "bool" (by decide)
    obtain ⟨ti2, yi2, ei2⟩ := isi (K := K) r2 "int" (by decide)
    obtain ⟨ts2, ys2, es2⟩ := isi (K := K) r2 "str" (by decide)
    obtain ⟨tl2, yl2, el2⟩ := isi (K := K) r2 "list" (by decide)
    obtain ⟨tt2, yt2, et2⟩ := isi (K := K) r2 "tuple" (by decide)
    obtain ⟨tb1, yb1, eb1⟩ := isi (K := K) r1 "bool" (by decide)
    obtain ⟨ts1, ys1, es1⟩ := isi (K := K) r1 "str" (by decide)
    obtain ⟨tl1, yl1, el1⟩ := isi (K := K) r1 "list" (by decide)
    obtain ⟨tt1, yt1, et1⟩ := isi (K := K) r1 "tuple" (by decide)
    -- if due is None
    refine ⟨_, rfl, rfl, _, rfl, ?_⟩
    rw [r2.none_iff]
    cases d2 with
    | non =>
      refine iteT ⟨_, rfl, rfl, ?_⟩
      rw [r1.none_iff]
      cases d1 <;> exact q0
    | bl b2 =>
      refine iteF ?_
      refine ⟨_, rfl, v2, "bool", tb2, _, rfl, yb2, eb2, _, rfl, iteT ?_⟩
      refine ⟨_, rfl, v1, "bool", tb1, _, rfl, yb1, eb1, _, rfl, ?_⟩
      cases r2
      cases d1 with
      | bl b1 =>
        cases r1
        refine iteT ⟨_, rfl, _, rfl, rfl, ?_⟩
        rw [dec_bl]
        exact q0
      | non => exact iteF q0
      | int _ => exact iteF q0
      | str _ => exact iteF q0
      | tup _ => exact iteF q0
      | lst _ => exact iteF q0
    | int i2 =>
      refine iteF ?_
      refine ⟨_, rfl, v2, "bool", tb2, _, rfl, yb2, eb2, _, rfl, iteF ?_⟩
      refine ⟨_, rfl, v2, "int", ti2, _, rfl, yi2, ei2, _, rfl, iteT ?_⟩
      refine ⟨_, rfl, v1, d1, rfl, r1, _, rfl, ?_⟩
      cases r2
      cases d1 with
      | int i1 =>
        cases r1
        refine iteT ⟨_, rfl, _, rfl, rfl, ?_⟩
        rw [dec_int]
        exact q0
      | non => exact iteF q0
      | bl _ => exact iteF q0
      | str _ => exact iteF q0
      | tup _ => exact iteF q0
      | lst _ => exact iteF q0
    | str x2 =>
      refine iteF ?_
      refine ⟨_, rfl, v2, "bool", tb2, _, rfl, yb2, eb2, _, rfl, iteF ?_⟩
      refine ⟨_, rfl, v2, "int", ti2, _, rfl, yi2, ei2, _, rfl, iteF ?_⟩
      refine ⟨_, rfl, v2, "str", ts2, _, rfl, ys2, es2, _, rfl, iteT ?_⟩
      refine ⟨_, rfl, v1, "str", ts1, _, rfl, ys1, es1, _, rfl, ?_⟩
      cases r2
      cases d1 with
      | str x1 =>
        cases r1
        refine iteT ⟨_, rfl, _, rfl, rfl, ?_⟩
        rw [dec_str]
        exact q0
      | non => exact iteF q0
      | bl _ => exact iteF q0
      | int _ => exact iteF q0
      | tup _ => exact iteF q0
      | lst _ => exact iteF q0
    | lst ds2 =>
      refine iteF ?_
      refine ⟨_, rfl, v2, "bool", tb2, _, rfl, yb2, eb2, _, rfl, iteF ?_⟩
      refine ⟨_, rfl, v2, "int", ti2, _, rfl, yi2, ei2, _, rfl, iteF ?_⟩
      refine ⟨_, rfl, v2, "str", ts2, _, rfl, ys2, es2, _, rfl, iteF ?_⟩
      refine ⟨_, rfl, v2, "list", tl2, _, rfl, yl2, el2, _, rfl, v1, "list", tl1, _, rfl, yl1, el1, rfl, _, rfl, ?_⟩
      have ne1 : ∀ {A B : Prop}, B → if (!decide (V.bl true = V.bl true)) = true then A else B := fun h => iteND (fun z => absurd rfl z) fun _ => h
      have ne2 : ∀ {A B : Prop}, B → if (!decide (V.bl false = V.bl false)) = true then A else B := fun h => iteND (fun z => absurd rfl z) fun _ => h
      have nt1 : ∀ {A B : Prop}, A → if (!decide (V.bl true = V.bl false)) = true then A else B := fun h => iteND (fun _ => h) fun z => by cases z
      have nt2 : ∀ {A B : Prop}, A → if (!decide (V.bl false = V.bl true)) = true then A else B := fun h => iteND (fun _ => h) fun z => by cases z
      have two : ∀ {R : Prop}, R → R := id
      cases d1 with
      | lst ds1 =>
        refine ne1 ?_
        refine ⟨_, rfl, v2, "tuple", tt2, _, rfl, yt2, et2, _, rfl, v1, "tuple", tt1, _, rfl, yt1, et1, rfl, _, rfl, ?_⟩
        refine ne2 ?_
        obtain ⟨a1, vs1, rfl, g1, p1⟩ := r1
        obtain ⟨a2, vs2, rfl, g2, p2⟩ := r2
        refine ⟨_, rfl, a1, vs1, rfl, .inl (SqL.of g1), _, rfl, a2, vs2, rfl, .inl (SqL.of g2), rfl, _, rfl, iteND (fun hne => ?_) (fun heq => ?_)⟩
        · have : ds1.length ≠ ds2.length := fun z => hne (by rw [p1.length, p2.length, z])
          have e : sameD (.lst ds1) (.lst ds2) = false := by rw [sameD]; exact sameL_false_len this
          rw [e] at q0
          exact q0
        · have hl : vs1.length = vs2.length := by injection heq with z; omega
          have hl1 := p1.length
          have hl2 := p2.length
          refine ⟨_, rfl, _, rfl, a1, a2, rfl, .inl ⟨vs1, vs2, SqL.of g1, SqL.of g2, ?_⟩⟩
          refine forW_zip vs1 vs2 hl (fun i σ H' => Same H H' ∧ ∃ w3 w4, σ = [some (.ref a1), some (.ref a2), w3, w4] ∧ sameL (ds1.take i) (ds2.take i) = true) ⟨Same.refl _, none, none, rfl, rfl⟩ (fun i σ H' _ ⟨sm, _⟩ => ⟨SqL.of (sm _ _ g1), SqL.of (sm _ _ g2)⟩) ?_ ?_
          · rintro i x y p σ H' hx hy ⟨sm, w3, w4, rfl, hs⟩ hp
            obtain ⟨dx, ex, rx⟩ := p1.get hx
            obtain ⟨dy, ey, ry⟩ := p2.get hy
            have sm' := sm.trans (Same.new (o := .tup [x, y]) hp)
            have dd := deep_get ey
            have hn' : deepL ds2 + 1 ≤ n := hn
            refine ⟨p, _, rfl, SqT.of upd_same, rfl, x, [y], rfl, y, [], rfl, rfl, ?_⟩
            refine ⟨_, rfl, _, rfl, by omega, x, y, dx, dy, rfl, rx.mono' sm', ry.mono' sm', by omega, fun H2 sm2 => ⟨_, rfl, iteNB (fun hf => ?_) (fun ht => ?_)⟩⟩
            · have e : sameD (.lst ds1) (.lst ds2) = false := by rw [sameD]; exact sameL_false_at ex ey hf
              have qq := q H2 (sm'.trans sm2)
              rw [e] at qq
              exact qq
            · exact ⟨sm'.trans sm2, _, _, rfl, by rw [sameL_take ex ey, hs, ht]; rfl⟩
          · rintro σ H' ⟨sm, w3, w4, rfl, hs⟩
            have e : sameD (.lst ds1) (.lst ds2) = true := by
              rw [sameD]
              rw [List.take_of_length_le (by omega), List.take_of_length_le (by omega)] at hs
              exact hs
            have qq := q H' sm
            rw [e] at qq
            exact qq
      | tup _ => exact nt1 (iteT q0)
      | non => exact nt1 (iteT q0)
      | bl _ => exact nt1 (iteT q0)
      | int _ => exact nt1 (iteT q0)
      | str _ => exact nt1 (iteT q0)
    | tup ds2 =>
      refine iteF ?_
      refine ⟨_, rfl, v2, "bool", tb2, _, rfl, yb2, eb2, _, rfl, iteF ?_⟩
      refine ⟨_, rfl, v2, "int", ti2, _, rfl, yi2, ei2, _, rfl, iteF ?_⟩
      refine ⟨_, rfl, v2, "str", ts2, _, rfl, ys2, es2, _, rfl, iteF ?_⟩
      refine ⟨_, rfl, v2, "list", tl2, _, rfl, yl2, el2, _, rfl, v1, "list", tl1, _, rfl, yl1, el1, rfl, _, rfl, ?_⟩
      have ne1 : ∀ {A B : Prop}, B → if (!decide (V.bl true = V.bl true)) = true then A else B := fun h => iteND (fun z => absurd rfl z) fun _ => h
      have ne2 : ∀ {A B : Prop}, B → if (!decide (V.bl false = V.bl false)) = true then A else B := fun h => iteND (fun z => absurd rfl z) fun _ => h
      have nt1 : ∀ {A B : Prop}, A → if (!decide (V.bl true = V.bl false)) = true then A else B := fun h => iteND (fun _ => h) fun z => by cases z
      have nt2 : ∀ {A B : Prop}, A → if (!decide (V.bl false = V.bl true)) = true then A else B := fun h => iteND (fun _ => h) fun z => by cases z
      have two : ∀ {R : Prop}, R → R := id
      cases d1 with
      | tup ds1 =>
        refine ne2 ?_
        refine ⟨_, rfl, v2, "tuple", tt2, _, rfl, yt2, et2, _, rfl, v1, "tuple", tt1, _, rfl, yt1, et1, rfl, _, rfl, ?_⟩
        refine ne1 ?_
        obtain ⟨a1, vs1, rfl, g1, p1⟩ := r1
        obtain ⟨a2, vs2, rfl, g2, p2⟩ := r2
        refine ⟨_, rfl, a1, vs1, rfl, .inr (SqT.of g1), _, rfl, a2, vs2, rfl, .inr (SqT.of g2), rfl, _, rfl, iteND (fun hne => ?_) (fun heq => ?_)⟩
        · have : ds1.length ≠ ds2.length := fun z => hne (by rw [p1.length, p2.length, z])
          have e : sameD (.tup ds1) (.tup ds2) = false := by rw [sameD]; exact sameL_false_len this
          rw [e] at q0
          exact q0
        · have hl : vs1.length = vs2.length := by injection heq with z; omega
          have hl1 := p1.length
          have hl2 := p2.length
          refine ⟨_, rfl, _, rfl, a1, a2, rfl, .inr ⟨vs1, vs2, SqT.of g1, SqT.of g2, ?_⟩⟩
          refine forW_zip vs1 vs2 hl (fun i σ H' => Same H H' ∧ ∃ w3 w4, σ = [some (.ref a1), some (.ref a2), w3, w4] ∧ sameL (ds1.take i) (ds2.take i) = true) ⟨Same.refl _, none, none, rfl, rfl⟩ (fun i σ H' _ ⟨sm, _⟩ => ⟨SqT.of (sm _ _ g1), SqT.of (sm _ _ g2)⟩) ?_ ?_
          · rintro i x y p σ H' hx hy ⟨sm, w3, w4, rfl, hs⟩ hp
            obtain ⟨dx, ex, rx⟩ := p1.get hx
            obtain ⟨dy, ey, ry⟩ := p2.get hy
            have sm' := sm.trans (Same.new (o := .tup [x, y]) hp)
            have dd := deep_get ey
            have hn' : deepL ds2 + 1 ≤ n := hn
            refine ⟨p, _, rfl, SqT.of upd_same, rfl, x, [y], rfl, y, [], rfl, rfl, ?_⟩
            refine ⟨_, rfl, _, rfl, by omega, x, y, dx, dy, rfl, rx.mono' sm', ry.mono' sm', by omega, fun H2 sm2 => ⟨_, rfl, iteNB (fun hf => ?_) (fun ht => ?_)⟩⟩
            · have e : sameD (.tup ds1) (.tup ds2) = false := by rw [sameD]; exact sameL_false_at ex ey hf
              have qq := q H2 (sm'.trans sm2)
              rw [e] at qq
              exact qq
            · exact ⟨sm'.trans sm2, _, _, rfl, by rw [sameL_take ex ey, hs, ht]; rfl⟩
          · rintro σ H' ⟨sm, w3, w4, rfl, hs⟩
            have e : sameD (.tup ds1) (.tup ds2) = true := by
              rw [sameD]
              rw [List.take_of_length_le (by omega), List.take_of_length_le (by omega)] at hs
              exact hs
            have qq := q H' sm
            rw [e] at qq
            exact qq
      | lst _ => exact nt2 (iteT q0)
      | non => exact ne2 ⟨_, rfl, v2, "tuple", tt2, _, rfl, yt2, et2, _, rfl, v1, "tuple", tt1, _, rfl, yt1, et1, rfl, _, rfl, nt1 q0⟩
      | bl _ => exact ne2 ⟨_, rfl, v2, "tuple", tt2, _, rfl, yt2, et2, _, rfl, v1, "tuple", tt1, _, rfl, yt1, et1, rfl, _, rfl, nt1 q0⟩
      | int _ => exact ne2 ⟨_, rfl, v2, "tuple", tt2, _, rfl, yt2, et2, _, rfl, v1, "tuple", tt1, _, rfl, yt1, et1, rfl, _, rfl, nt1 q0⟩
      | str _ => exact ne2 ⟨_, rfl, v2, "tuple", tt2, _, rfl, yt2, et2, _, rfl, v1, "tuple", tt1, _, rfl, yt1, et1, rfl, _, rfl, nt1 q0⟩
theorem same_never {k : Nat} (h__law_same : Has K mg "_law_same" s_law_same) : Fn P w K mg base "_law_same" ["_law_found", "_law_due"] k (fun _ _ _ _ => False) := by
  obtain ⟨f, fd, F, hm⟩ := h__law_same
  exact ⟨f, fd, hm, F.kp, F.binds fun _ _ _ _ _ _ us hl => match us, hl with | [_, _], _ => rfl, ⟨fun _ _ _ _ h => h.elim, fun _ _ _ _ _ _ _ _ _ _ _ _ _ h => h.elim⟩⟩
theorem f__law_same (h__law_same : Has K mg "_law_same" s_law_same) (T : Txt mg) (F__law_whole : Fn P w K mg base "_law_whole" ["_law_found"] 1 spWhole) : ∀ n : Nat, Fn P w K mg base "_law_same" ["_law_found", "_law_due"] (n + 2) (spSame n)
  | 0 => same_step (k := 0) h__law_same T F__law_whole ((same_never h__law_same).imp fun _ _ _ _ h => absurd h.1 (Nat.lt_irrefl _))
  | n + 1 => same_step (k := n + 1) h__law_same T F__law_whole ((f__law_same h__law_same T F__law_whole n).imp fun _ _ _ _ h => h.2)
end

section
variable {P : Program} {w : World} {K : PySem.W.Frag} {mg : Str → Option Value} {base : Heap}
/-! ### the source of the draws -/
def spSrc (K : PySem.W.Frag) : Sp := fun vs H Q _ => ∃ (a : Addr) (ns : List Int), vs = [.ref a] ∧ SqL K H a (ns.map V.int) ∧ ∀ (s la : Addr) (H' : Hp), H s = none → H la = none → SrcAt H' s la → Same H H' → Q (.ref s) H'
abbrev s_law_src : Stmt := top 33
theorem sc__law_src : FnScope ["_law_script"] ["_law_script"] (defScope s_law_src) := ⟨rfl, rfl, rfl, by decide +kernel, rfl, by decide +kernel, by decide +kernel⟩
theorem nm__law_src__law_script : Nm (defScope s_law_src) "_law_script" .local := by decide +kernel
theorem nm__law_src_list : Nm (defScope s_law_src) "list" .globalImplicit := by decide +kernel
theorem f__law_src (h__law_src : Has K mg "_law_src" s_law_src) (T : Txt mg) : Fn P w K mg base "_law_src" ["_law_script"] 1 (spSrc K) := by
  refine h__law_src.fnQ sc__law_src (fun _ _ _ _ _ _ us hl => match us, hl with | [_], _ => rfl) (fun vs H Q E h => ?_) (fun f cdv A outer s H vs Q E hr h => ?_)
  · obtain ⟨a, ns, rfl, _⟩ := h
    rfl
  · obtain ⟨a, ns, rfl, hS, k⟩ := h
    refine ⟨_, (qss_one (qs_ret (qe_lst (qa_cons (qe_callTyN qcall_list_of nm__law_src_list T.list b_list (qa_cons (qe_slice qsl_list (qvN 0 nm__law_src__law_script) qo_none (qo_some qe_int)) qa_nil)) (qa_cons qe_int (qa_cons qe_int (qa_cons qe_int (qa_cons qe_int qa_nil)))))))), ?_⟩
    refine ⟨_, rfl, _, rfl, a, _, rfl, hS, fun l hl => ?_⟩
    have hc : ∃ ms : List Int, cutV (ns.map V.int) none (some 63) = ms.map V.int := by
      unfold cutV
      rw [← List.map_drop, ← List.map_take]
      exact ⟨_, rfl⟩
    obtain ⟨ms, ec⟩ := hc
    refine ⟨l, _, rfl, .inl (SqL.of upd_same), fun l2 hl2 => ⟨by show 5 ≤ sizeLine; decide, fun s hs => ?_⟩⟩
    have n1 : l2 ≠ l := fun z => by rw [z, upd_same] at hl2; cases hl2
    have s1 : Same H (upd H l (.lst (cutV (ns.map V.int) none (some 63)))) := Same.new hl
    have s2 := s1.trans (Same.new (o := .lst (cutV (ns.map V.int) none (some 63))) hl2)
    have n2 : l2 ≠ s := fun z => by rw [← z, upd_same] at hs; cases hs
    refine k s l2 _ (s2.free hs) (s1.free hl2) ⟨ms, 0, 0, 1, 0, upd_same, by rw [upd_ne n2, upd_same, ec], by decide, n2⟩ (s2.trans (Same.new hs))
def spNext : Sp := fun vs H Q _ => ∃ (s la : Addr) (b : Int), vs = [.ref s, .int b] ∧ SrcAt H s la ∧ 0 < b ∧ b < 1073741824 ∧ ∀ (d : Int) (H' : Hp), 0 ≤ d → d < b → SrcAt H' s la → SameX s H H' → Q (.int d) H'
abbrev s_law_next : Stmt := top 34
theorem sc__law_next : FnScope ["_law_src_here", "_law_base", "_law_cell", "_law_digit"] ["_law_src_here", "_law_base"] (defScope s_law_next) := ⟨rfl, rfl, rfl, by decide +kernel, rfl, by decide +kernel, by decide +kernel⟩
theorem nm__law_next__law_base : Nm (defScope s_law_next) "_law_base" .local := by decide +kernel
theorem nm__law_next__law_cell : Nm (defScope s_law_next) "_law_cell" .local := by decide +kernel
theorem nm__law_next__law_digit : Nm (defScope s_law_next) "_law_digit" .local := by decide +kernel
theorem nm__law_next__law_src_here : Nm (defScope s_law_next) "_law_src_here" .local := by decide +kernel
theorem nm__law_next_len : Nm (defScope s_law_next) "len" .globalImplicit := by decide +kernel
theorem f__law_next (h__law_next : Has K mg "_law_next" s_law_next) (T : Txt mg) : Fn P w K mg base "_law_next" ["_law_src_here", "_law_base"] 1 spNext := by
  refine h__law_next.fnQ sc__law_next (fun _ _ _ _ _ _ us hl => match us, hl with | [_, _], _ => rfl) (fun vs H Q E h => ?_) (fun f cdv A outer s H vs Q E hr h => ?_)
  · obtain ⟨s, la, b, rfl, _⟩ := h
    rfl
  · obtain ⟨s, la, b, rfl, ⟨ns, i, big, st, cnt, hs, hla, hi, hne⟩, hb0, hb1, k⟩ := h
    refine ⟨_, (qss_cons (qs_asg (qe_op qop_add (qe_ix qix_list (qvN 0 nm__law_next__law_src_here) qe_int (fun _ _ => rfl)) qe_int) (qg_sub (qvN 0 nm__law_next__law_src_here) qe_int qset_list))
 (qss_cons (qs_if (qt_cmpR qop_le (qe_ix qix_list (qvN 0 nm__law_next__law_src_here) qe_int (fun _ _ => rfl)) qe_int (nomark _)) (qss_cons (qs_setN (i := 2) sc__law_next.nd nm__law_next__law_cell qe_int)
 (qss_cons (qs_if (qt_cmpR qop_lt (qe_ix qix_list (qvN 0 nm__law_next__law_src_here) qe_int (fun _ _ => rfl)) (qe_callBN qcall_len_seq nm__law_next_len T.len b_len (qa_cons (qe_ix qix_list (qvN 0 nm__law_next__law_src_here) qe_int (fun _ _ => rfl)) qa_nil)) (nomark _)) (qss_cons (qs_setN (i := 2) sc__law_next.nd nm__law_next__law_cell (qe_ix qix_list (qe_ix qix_list (qvN 0 nm__law_next__law_src_here) qe_int (fun _ _ => rfl)) (qe_ix qix_list (qvN 0 nm__law_next__law_src_here) qe_int (fun _ _ => rfl)) (fun _ _ => rfl)))
 (qss_one (qs_asg (qe_op qop_add (qe_ix qix_list (qvN 0 nm__law_next__law_src_here) qe_int (fun _ _ => rfl)) qe_int) (qg_sub (qvN 0 nm__law_next__law_src_here) qe_int qset_list)))) qss_nil)
 (qss_cons (qs_asg (qe_op qop_mod (qe_op qop_add (qe_op qop_add (qe_op qop_mul (qe_ix qix_list (qvN 0 nm__law_next__law_src_here) qe_int (fun _ _ => rfl)) qe_int) (qe_op qop_mod (qvN 2 nm__law_next__law_cell) qe_int)) (qe_ix qix_list (qvN 0 nm__law_next__law_src_here) qe_int (fun _ _ => rfl))) qe_int) (qg_sub (qvN 0 nm__law_next__law_src_here) qe_int qset_list))
 (qss_one (qs_if (qt_cmpR qop_ge (qvN 2 nm__law_next__law_cell) (qe_op qop_pow qe_int qe_int) (nomark _)) (qss_one (qs_asg (qvN 2 nm__law_next__law_cell) (qg_sub (qvN 0 nm__law_next__law_src_here) qe_int qset_list))) qss_nil))))) qss_nil)
 (qss_cons (qs_if (qt_cmpR qop_gt (qe_ix qix_list (qvN 0 nm__law_next__law_src_here) qe_int (fun _ _ => rfl)) qe_int (nomark _)) (qss_cons (qs_setN (i := 3) sc__law_next.nd nm__law_next__law_digit (qe_op qop_mod (qe_ix qix_list (qvN 0 nm__law_next__law_src_here) qe_int (fun _ _ => rfl)) (qvN 1 nm__law_next__law_base)))
 (qss_cons (qs_asg (qe_op qop_fdiv (qe_ix qix_list (qvN 0 nm__law_next__law_src_here) qe_int (fun _ _ => rfl)) (qvN 1 nm__law_next__law_base)) (qg_sub (qvN 0 nm__law_next__law_src_here) qe_int qset_list))
 (qss_one (qs_ret (qvN 3 nm__law_next__law_digit))))) qss_nil)
 (qss_one (qs_ret (qe_op qop_mod (qe_op qop_fdiv (qe_op qop_mod (qe_op qop_mul (qe_ix qix_list (qvN 0 nm__law_next__law_src_here) qe_int (fun _ _ => rfl)) qe_int) qe_int) qe_int) (qvN 1 nm__law_next__law_base))))))), ?_⟩
    have fin : ∀ (H1 : Hp) (i' big st cnt d : Int), 0 ≤ d → d < b → SameX s H H1 → H1 s = some (.lst [.ref la, .int i', .int big, .int st, .int cnt]) → 0 ≤ i' → Q (.int d) H1 := fun H1 i' big st cnt d h0 h1 sx hs1 hi1 =>
      k d H1 h0 h1 ⟨ns, i', big, st, cnt, hs1, sx _ _ hne hla, hi1, hne⟩ sx
    walk_at "rd"
    all_goals refine fin _ _ _ _ _ _ (Int.emod_nonneg _ (by omega)) (Int.emod_lt_of_pos _ hb0) ?_ upd_same (by omega)
    all_goals repeat (first | exact SameX.refl | refine SameX.trans ?_ SameX.upd)
end

section
variable {P : Program} {w : World} {K : PySem.W.Frag} {mg : Str → Option Value} {base : Heap}
/-! ### words and names -/
def spWord : Sp := fun vs H Q _ => ∃ (s la : Addr) (n : Int), vs = [.ref s, .int n] ∧ SrcAt H s la ∧ 0 ≤ n ∧ n ≤ 100 ∧ ∀ (x : Str) (H' : Hp), (x.length : Int) = n → Low x → SrcAt H' s la → SameX s H H' → Q (.str x) H'
theorem flat_singles (cl : List Nat) : (List.map cs (cl.map fun c => (⟨#[c]⟩ : Str))).flatten = cl := by
  induction cl with
  | nil => rfl
  | cons c r ih => rw [List.map_cons, List.map_cons, List.flatten_cons, ih]; rfl
abbrev s_law_word : Stmt := top 38
theorem sc__law_word : FnScope ["_law_src_here", "_law_many", "_law_letters"] ["_law_src_here", "_law_many"] (defScope s_law_word) := ⟨rfl, rfl, rfl, by decide +kernel, rfl, by decide +kernel, by decide +kernel⟩
theorem nm__law_word__law_letters : Nm (defScope s_law_word) "_law_letters" .cell := by decide +kernel
theorem nm__law_word__law_many : Nm (defScope s_law_word) "_law_many" .local := by decide +kernel
theorem nm__law_word__law_src_here : Nm (defScope s_law_word) "_law_src_here" .cell := by decide +kernel
theorem nm__law_word_range : Nm (defScope s_law_word) "range" .globalImplicit := by decide +kernel
theorem f__law_word (h__law_word : Has K mg "_law_word" s_law_word) (T : Txt mg) (F__law_next : Fn P w K mg base "_law_next" ["_law_src_here", "_law_base"] 1 spNext) : Fn P w K mg base "_law_word" ["_law_src_here", "_law_many"] 2 spWord := by
  refine h__law_word.fnQ sc__law_word (fun _ _ _ _ _ _ us hl => match us, hl with | [_, _], _ => rfl) (fun vs H Q E h => ?_) (fun f cdv A outer s H vs Q E hr h => ?_)
  · obtain ⟨s, la, n, rfl, _⟩ := h
    rfl
  · obtain ⟨s, la, n, rfl, hsrc, hn0, hn1, k⟩ := h
    refine ⟨_, (qss_cons (qs_setNC (i := 2) sc__law_word.nd nm__law_word__law_letters qe_str)
 (qss_one (qs_ret (qe_bm F.plainAttrs_str F.slot_str_join F.type_str_join qmt_join qe_str (qa_cons (qe_lcomp (locs := ["_law_k"]) (fr := [("_law_src_here", 0), ("_law_letters", 2)]) ⟨rfl, by decide +kernel, by decide +kernel, by decide +kernel, by decide +kernel, by decide +kernel⟩ (.consN nm__law_word__law_src_here (.consN nm__law_word__law_letters .nil)) rfl (qi_range1 nm__law_word_range.1 T.range (qa_cons (qvN 1 nm__law_word__law_many) qa_nil)) ⟨fun _ _ _ _ _ _ => by
    have cnd : (inN ["_law_k"] [("_law_src_here", 0), ("_law_letters", 2)]).Nodup := by decide +kernel
    exact ⟨(qgLN 0 cnd), qts_nil, (qe_ix qix_str (qvFN 2) (qe_fnN F__law_next (hr.mono (by omega)) nmC (qa_cons (qvFN 1) (qa_cons qe_int qa_nil))) (fun _ _ => rfl))⟩⟩) qa_nil))))), ?_⟩
    refine ⟨rfl, _, rfl, n, rfl, by omega, by omega, ?_⟩
    refine comp_range (n := n.toNat) (fun i ys H2 => SrcAt H2 s la ∧ SameX s H H2 ∧ ∃ cl : List Nat, cl.length = i ∧ ys = cl.map (fun c => V.str ⟨#[c]⟩) ∧ ∀ c ∈ cl, 97 ≤ c ∧ c ≤ 122) ⟨hsrc, SameX.refl, [], rfl, rfl, (fun _ z => nomatch z)⟩ (by omega) ?_ ?_ ?_
    · rintro i ys H2 ⟨_, _, cl, h1, rfl, _⟩
      rw [List.length_map]; omega
    · rintro i ys H2 hi ⟨hs2, sx2, cl, h1, rfl, hc⟩ ls hls
      obtain ⟨a, rfl⟩ := len1 hls
      refine ⟨⟨[_], rfl, rfl⟩, ?_⟩
      walk_at "rd"
      refine ⟨s, la, 26, rfl, hs2, by decide, by decide, fun d H3 d0 d1 hs3 sx3 => ?_⟩
      refine ⟨letters, d, _, rfl, rfl, by decide, letters_at d0 d1, hs3, sx2.trans sx3, cl ++ [97 + d.toNat], by rw [List.length_append, h1]; rfl, by rw [List.map_append]; rfl, fun c hc' => ?_⟩
      rcases List.mem_append.mp hc' with z | z
      · exact hc c z
      · have : c = 97 + d.toNat := by simpa using z
        omega
    · rintro ys H2 ⟨hs2, sx2, cl, h1, rfl, hc⟩ l hl
      have e : (cl.map fun c => V.str ⟨#[c]⟩) = (cl.map fun c => (⟨#[c]⟩ : Str)).map V.str := by rw [List.map_map]; rfl
      have sumlen : ∀ l : List Nat, ((l.map fun c => (⟨#[c]⟩ : Str)).map (·.length)).sum = l.length := by
        intro l
        induction l with
        | nil => rfl
        | cons c r ih => rw [List.map_cons, List.map_cons, List.sum_cons, ih, List.length_cons]; show 1 + r.length = _; omega
      refine ⟨_, l, cl.map fun c => (⟨#[c]⟩ : Str), rfl, rfl, SqL.of (by rw [upd_same, e]), ?_, ?_⟩
      · rw [sumlen, List.length_map]
        show cl.length + cl.length * 0 ≤ 16777216
        omega
      · have ej : cs (Txt.join "" (cl.map fun c => (⟨#[c]⟩ : Str))) = cl := by rw [cs_join0, flat_singles]
        refine k _ _ ?_ (fun c hc' => hc c (by rw [ej] at hc'; exact hc')) (hs2.keep (Same.new hl)) (sx2.trans (SameX.new hl))
        rw [← cs_len, ej, h1]
        omega
end

/-! ### lists: as many unlike items as there is room for -/
theorem ph {α : Type} [DecidableEq α] : ∀ (L M : List α), L.Nodup → (∀ a ∈ L, a ∈ M) → L.length ≤ M.length
  | [], _, _, _ => Nat.zero_le _
  | a :: L, M, nd, h => by
    obtain ⟨n1, n2⟩ := List.nodup_cons.mp nd
    have ha := h a List.mem_cons_self
    have := ph L (M.erase a) n2 fun b hb => (List.mem_erase_of_ne (fun (e : b = a) => n1 (by rw [← e]; exact hb))).mpr (h b (List.mem_cons_of_mem _ hb))
    rw [List.length_erase_of_mem ha] at this
    have hp : 0 < M.length := List.length_pos_of_mem ha
    rw [List.length_cons]
    omega
/-- the j-th candidate behind a stem -/
def cand (stem : Str) (j : Nat) : Str := stem ++ ⟨#[97 + j % 26]⟩ ++ ⟨#[97 + j / 26]⟩
theorem cs_cand (stem : Str) (j : Nat) : cs (cand stem j) = cs stem ++ [97 + j % 26, 97 + j / 26] := by
  unfold cand
  rw [cs_app, cs_app]
  simp [cs]
theorem cand_inj {stem : Str} {i j : Nat} (h : cand stem i = cand stem j) : i = j := by
  have e : cs (cand stem i) = cs (cand stem j) := by rw [h]
  rw [cs_cand, cs_cand] at e
  have e2 := List.append_cancel_left e
  injection e2 with e3 e4
  injection e4 with e5 _
  omega
theorem cand_len (stem : Str) (j : Nat) : (cand stem j).length = stem.length + 2 := by
  rw [← cs_len, cs_cand, List.length_append, cs_len]
  rfl
theorem cand_low {stem : Str} {j : Nat} (h : Low stem) (hj : j < 676) : Low (cand stem j) := by
  intro c hc
  rw [cs_cand] at hc
  rcases List.mem_append.mp hc with z | z
  · exact h c z
  · simp at z
    omega
theorem not_all_cands {names : List Str} {stem : Str} (h : ∀ j, j < names.length → cand stem j ∈ names) : cand stem names.length ∉ names := by
  intro hm
  have nd : ((List.range (names.length + 1)).map (cand stem)).Nodup := by
    rw [List.nodup_iff_pairwise_ne, List.pairwise_map]
    exact List.Pairwise.imp (fun h e => h (cand_inj e)) (List.nodup_iff_pairwise_ne.mp List.nodup_range)
  have := ph _ names nd fun a ha => by
    obtain ⟨j, hj, rfl⟩ := List.mem_map.mp ha
    have hj := List.mem_range.mp hj
    by_cases e : j = names.length
    · rw [e]; exact hm
    · exact h j (by omega)
  rw [List.length_map, List.length_range] at this
  omega
theorem inV_str (x : Str) (names : List Str) : inV (.str x) (names.map V.str) = decide (x ∈ names) := by
  unfold inV
  rw [List.any_map, Bool.eq_iff_iff, List.any_eq_true, decide_eq_true_iff]
  constructor
  · rintro ⟨y, hy, e⟩
    have : y = x := by simpa [eqV] using e
    rw [← this]; exact hy
  · intro h
    exact ⟨x, h, by simp [eqV]⟩
theorem flat_strs (names : List Str) : (names.map V.str).all flatV = true := by
  rw [List.all_map, List.all_eq_true]
  intro x _
  rfl
/-- a name -/
def IsName (x : Str) : Prop := Low x ∧ 1 ≤ x.length ∧ x.length ≤ 12

section
variable {P : Program} {w : World} {K : PySem.W.Frag} {mg : Str → Option Value} {base : Heap}
def spUnlike (K : PySem.W.Frag) : Sp := fun vs H Q _ => ∃ (a : Addr) (names : List Str) (x : Str), vs = [.ref a, .str x] ∧ SqL K H a (names.map V.str) ∧ names.length ≤ 600 ∧ IsName x ∧ ∀ y : Str, IsName y → y ∉ names → Q (.str y) H
abbrev s_law_unlike : Stmt := top 37
theorem sc__law_unlike : FnScope ["_law_names_here", "_law_name", "_law_letters", "_law_stem", "_law_tries"] ["_law_names_here", "_law_name"] (defScope s_law_unlike) := ⟨rfl, rfl, rfl, by decide +kernel, rfl, by decide +kernel, by decide +kernel⟩
theorem nm__law_unlike__law_letters : Nm (defScope s_law_unlike) "_law_letters" .local := by decide +kernel
theorem nm__law_unlike__law_name : Nm (defScope s_law_unlike) "_law_name" .local := by decide +kernel
theorem nm__law_unlike__law_names_here : Nm (defScope s_law_unlike) "_law_names_here" .local := by decide +kernel
theorem nm__law_unlike__law_stem : Nm (defScope s_law_unlike) "_law_stem" .local := by decide +kernel
theorem nm__law_unlike__law_tries : Nm (defScope s_law_unlike) "_law_tries" .local := by decide +kernel
theorem nm__law_unlike_len : Nm (defScope s_law_unlike) "len" .globalImplicit := by decide +kernel
theorem nm__law_unlike_range : Nm (defScope s_law_unlike) "range" .globalImplicit := by decide +kernel
theorem f__law_unlike (h__law_unlike : Has K mg "_law_unlike" s_law_unlike) (T : Txt mg) : Fn P w K mg base "_law_unlike" ["_law_names_here", "_law_name"] 1 (spUnlike K) := by
  refine h__law_unlike.fnQ sc__law_unlike (fun _ _ _ _ _ _ us hl => match us, hl with | [_, _], _ => rfl) (fun vs H Q E h => ?_) (fun f cdv A outer s H vs Q E hr h => ?_)
  · obtain ⟨a, names, x, rfl, _⟩ := h
    rfl
  · obtain ⟨a, names, x, rfl, hS, hn, ⟨hx1, hx2, hx3⟩, k⟩ := h
    refine ⟨_, (qss_cons (qs_setN (i := 2) sc__law_unlike.nd nm__law_unlike__law_letters qe_str)
 (qss_cons (qs_setN (i := 3) sc__law_unlike.nd nm__law_unlike__law_stem (qe_slice qsl_str (qvN 1 nm__law_unlike__law_name) qo_none (qo_some qe_int)))
 (qss_cons (qs_for PassesOwn.never rfl (qi_range1 nm__law_unlike_range.1 T.range (qa_cons (qe_op qop_add (qe_callBN qcall_len_seq nm__law_unlike_len T.len b_len (qa_cons (qvN 0 nm__law_unlike__law_names_here) qa_nil)) qe_int) qa_nil)) (qg_nameN (i := 4) sc__law_unlike.nd nm__law_unlike__law_tries)
  (qss_cons (qs_if (qt_cmpR qop_notIn_seq (qvN 1 nm__law_unlike__law_name) (qvN 0 nm__law_unlike__law_names_here) rfl) (qss_one (qs_ret (qvN 1 nm__law_unlike__law_name))) qss_nil)
 (qss_one (qs_setN (i := 1) sc__law_unlike.nd nm__law_unlike__law_name (qe_op qop_add_str (qe_op qop_add_str (qvN 3 nm__law_unlike__law_stem) (qe_ix qix_str (qvN 2 nm__law_unlike__law_letters) (qe_op qop_mod (qvN 4 nm__law_unlike__law_tries) qe_int) (fun _ _ => rfl))) (qe_ix qix_str (qvN 2 nm__law_unlike__law_letters) (qe_op qop_fdiv (qvN 4 nm__law_unlike__law_tries) qe_int) (fun _ _ => rfl)))))))
 (qss_one (qs_ret (qvN 1 nm__law_unlike__law_name)))))), ?_⟩
    have hz : (13 : Nat) ≤ sizeLine := by decide
    refine ⟨_, rfl, 10, rfl, x, rfl, by omega, ?_⟩
    have hst : cs (Txt.slice x none (some 10)) = (cs x).take 10 := cs_upto x (by decide)
    have hstl : (Txt.slice x none (some 10)).length ≤ 10 := by rw [← cs_len, hst, List.length_take]; omega
    have hsto : Low (Txt.slice x none (some 10)) := fun c hc => hx1 c (by rw [hst] at hc; exact List.mem_of_mem_take hc)
    show tSeq _ _ _ [some (.ref a), some (.str x), some (.str letters), some (.str (Txt.slice x none (some 10))), none] H
    generalize Txt.slice x none (some 10) = stem at hstl hsto
    refine ⟨_, rfl, a, _, rfl, .inl hS, _, _, rfl, rfl, _, rfl, by omega, by rw [List.length_map]; omega, ?_⟩
    refine forW_range (names.length + 1) (by rw [List.length_map]; omega) (fun i σ H' => H' = H ∧ ∃ (cur : Str) (v : Option V), σ = [some (.ref a), some (.str cur), some (.str letters), some (.str stem), v] ∧ IsName cur ∧ (i = 0 ∨ cur = cand stem (i - 1)) ∧ ∀ j, j + 1 < i → cand stem j ∈ names)
      ⟨rfl, x, none, rfl, ⟨hx1, hx2, hx3⟩, .inl rfl, fun j hj => by omega⟩ ?_ ?_
    · rintro i σ H' hi ⟨rfl, cur, v, rfl, hc, hci, hal⟩
      refine ⟨_, rfl, _, rfl, a, _, rfl, .inl hS, rfl, flat_strs names, _, rfl, ?_⟩
      rw [inV_str]
      refine iteND (fun hnin => ?_) (fun hin => ?_)
      · exact ⟨_, rfl, k cur hc hnin⟩
      · have hi' : i ≤ 600 := by omega
        refine ⟨_, rfl, _, rfl, _, rfl, _, _, rfl, rfl, by show (0 : Int) < 26; decide, letters, _, _, rfl, rfl, by decide, letters_at (Int.emod_nonneg _ (by decide)) (Int.emod_lt_of_pos _ (by decide)), stem, _, rfl, rfl, ?_, ?_⟩
        · show stem.length + 1 ≤ sizeLine
          omega
        refine ⟨_, rfl, _, rfl, _, _, rfl, rfl, ⟨by decide, by decide⟩, letters, _, _, rfl, rfl, by decide, letters_at (Int.ediv_nonneg (by omega) (by decide)) (by omega), _, _, rfl, rfl, ?_, ?_⟩
        · show (stem ++ _).length + 1 ≤ sizeLine
          rw [PySem.Str.length_append]
          show stem.length + 1 + 1 ≤ sizeLine
          omega
        have e1 : ((0 : Int) + (i : Nat)) % 26 = ((i % 26 : Nat) : Int) := by omega
        have e2 : ((0 : Int) + (i : Nat)) / 26 = ((i / 26 : Nat) : Int) := by omega
        refine ⟨rfl, cand stem i, some (.int (0 + (i : Nat))), ?_, ⟨cand_low hsto (by omega), by rw [cand_len]; omega, by rw [cand_len]; omega⟩, .inr rfl, fun j hj => ?_⟩
        · show [some (V.ref a), some (V.str _), some (V.str letters), some (V.str stem), some (V.int _)] = _
          unfold cand
          rw [e1, e2]
          rfl
        · by_cases e : j + 1 = i
          · rcases hci with z | z
            · omega
            · have : j = i - 1 := by omega
              rw [this, ← z]; exact hin
          · exact hal j (by omega)
    · rintro σ H' ⟨rfl, cur, v, rfl, hc, hci, hal⟩
      refine ⟨_, rfl, k cur hc ?_⟩
      rcases hci with z | z
      · omega
      · rw [z]
        exact not_all_cands fun j hj => hal j (by omega)

def spNames : Sp := fun vs H Q _ => ∃ (s la : Addr) (n : Int), vs = [.ref s, .int n] ∧ SrcAt H s la ∧ 0 ≤ n ∧ n ≤ 100 ∧
  ∀ (l : Addr) (names : List Str) (H' : Hp), (names.length : Int) = n → names.Nodup → (∀ x ∈ names, IsName x) → H l = none → H' l = some (.lst (names.map V.str)) → SrcAt H' s la → SameX s H H' → Q (.ref l) H'
abbrev s_law_names : Stmt := top 39
theorem sc__law_names : FnScope ["_law_src_here", "_law_many", "_law_style", "_law_stem", "_law_at", "_law_names_here", "_law_k", "_law_name"] ["_law_src_here", "_law_many"] (defScope s_law_names) := ⟨rfl, rfl, rfl, by decide +kernel, rfl, by decide +kernel, by decide +kernel⟩
theorem nm__law_names__law_at : Nm (defScope s_law_names) "_law_at" .local := by decide +kernel
theorem nm__law_names__law_k : Nm (defScope s_law_names) "_law_k" .local := by decide +kernel
theorem nm__law_names__law_many : Nm (defScope s_law_names) "_law_many" .local := by decide +kernel
theorem nm__law_names__law_name : Nm (defScope s_law_names) "_law_name" .local := by decide +kernel
theorem nm__law_names__law_names_here : Nm (defScope s_law_names) "_law_names_here" .local := by decide +kernel
theorem nm__law_names__law_next : Nm (defScope s_law_names) "_law_next" .globalImplicit := by decide +kernel
theorem nm__law_names__law_src_here : Nm (defScope s_law_names) "_law_src_here" .local := by decide +kernel
theorem nm__law_names__law_stem : Nm (defScope s_law_names) "_law_stem" .local := by decide +kernel
theorem nm__law_names__law_style : Nm (defScope s_law_names) "_law_style" .local := by decide +kernel
theorem nm__law_names__law_unlike : Nm (defScope s_law_names) "_law_unlike" .globalImplicit := by decide +kernel
theorem nm__law_names__law_word : Nm (defScope s_law_names) "_law_word" .globalImplicit := by decide +kernel
theorem nm__law_names_len : Nm (defScope s_law_names) "len" .globalImplicit := by decide +kernel
theorem nm__law_names_range : Nm (defScope s_law_names) "range" .globalImplicit := by decide +kernel
theorem f__law_names (h__law_names : Has K mg "_law_names" s_law_names) (T : Txt mg) (F__law_next : Fn P w K mg base "_law_next" ["_law_src_here", "_law_base"] 1 spNext) (F__law_word : Fn P w K mg base "_law_word" ["_law_src_here", "_law_many"] 2 spWord)
    (F__law_unlike : Fn P w K mg base "_law_unlike" ["_law_names_here", "_law_name"] 1 (spUnlike K)) : Fn P w K mg base "_law_names" ["_law_src_here", "_law_many"] 3 spNames := by
  refine h__law_names.fnQ sc__law_names (fun _ _ _ _ _ _ us hl => match us, hl with | [_, _], _ => rfl) (fun vs H Q E h => ?_) (fun f cdv A outer s H vs Q E hr h => ?_)
  · obtain ⟨s, la, n, rfl, _⟩ := h
    rfl
  · obtain ⟨s, la, n, rfl, hsrc, hn0, hn1, k⟩ := h
    refine ⟨_, (qss_cons (qs_setN (i := 2) sc__law_names.nd nm__law_names__law_style (qe_fnN F__law_next (hr.mono (by omega)) nm__law_names__law_next (qa_cons (qvN 0 nm__law_names__law_src_here) (qa_cons qe_int qa_nil))))
 (qss_cons (qs_setN (i := 3) sc__law_names.nd nm__law_names__law_stem (qe_fnN F__law_word (hr.mono (by omega)) nm__law_names__law_word (qa_cons (qvN 0 nm__law_names__law_src_here) (qa_cons (qe_op qop_add qe_int (qe_fnN F__law_next (hr.mono (by omega)) nm__law_names__law_next (qa_cons (qvN 0 nm__law_names__law_src_here) (qa_cons qe_int qa_nil)))) qa_nil))))
 (qss_cons (qs_setN (i := 4) sc__law_names.nd nm__law_names__law_at (qe_fnN F__law_next (hr.mono (by omega)) nm__law_names__law_next (qa_cons (qvN 0 nm__law_names__law_src_here) (qa_cons (qe_callBN qcall_len_str nm__law_names_len T.len b_len (qa_cons (qvN 3 nm__law_names__law_stem) qa_nil)) qa_nil))))
 (qss_cons (qs_setN (i := 5) sc__law_names.nd nm__law_names__law_names_here (qe_lst qa_nil))
 (qss_cons (qs_for PassesOwn.never rfl (qi_range1 nm__law_names_range.1 T.range (qa_cons (qvN 1 nm__law_names__law_many) qa_nil)) (qg_nameN (i := 6) sc__law_names.nd nm__law_names__law_k)
  (qss_cons (qs_setN (i := 7) sc__law_names.nd nm__law_names__law_name (qe_op qop_add_str (qe_op qop_add_str (qe_slice qsl_str (qvN 3 nm__law_names__law_stem) qo_none (qo_some (qvN 4 nm__law_names__law_at))) (qe_fnN F__law_word (hr.mono (by omega)) nm__law_names__law_word (qa_cons (qvN 0 nm__law_names__law_src_here) (qa_cons qe_int qa_nil)))) (qe_slice qsl_str (qvN 3 nm__law_names__law_stem) (qo_some (qe_op qop_add (qvN 4 nm__law_names__law_at) qe_int)) qo_none)))
 (qss_cons (qs_if (qt_cmpR qop_eq (qvN 2 nm__law_names__law_style) qe_int (nomark _)) (qss_one (qs_setN (i := 7) sc__law_names.nd nm__law_names__law_name (qe_slice qsl_str (qvN 3 nm__law_names__law_stem) qo_none (qo_some (qe_op qop_add qe_int (qe_fnN F__law_next (hr.mono (by omega)) nm__law_names__law_next (qa_cons (qvN 0 nm__law_names__law_src_here) (qa_cons (qe_callBN qcall_len_str nm__law_names_len T.len b_len (qa_cons (qvN 3 nm__law_names__law_stem) qa_nil)) qa_nil)))))))) qss_nil)
 (qss_cons (qs_if (qt_cmpR qop_eq (qvN 2 nm__law_names__law_style) qe_int (nomark _)) (qss_one (qs_setN (i := 7) sc__law_names.nd nm__law_names__law_name (qe_fnN F__law_word (hr.mono (by omega)) nm__law_names__law_word (qa_cons (qvN 0 nm__law_names__law_src_here) (qa_cons (qe_op qop_add qe_int (qe_fnN F__law_next (hr.mono (by omega)) nm__law_names__law_next (qa_cons (qvN 0 nm__law_names__law_src_here) (qa_cons qe_int qa_nil)))) qa_nil))))) qss_nil)
 (qss_one (qs_expr (qe_bm F.plainAttrs_list F.slot_list_append F.type_list_append qmt_append (qvN 5 nm__law_names__law_names_here) (qa_cons (qe_fnN F__law_unlike (hr.mono (by omega)) nm__law_names__law_unlike (qa_cons (qvN 5 nm__law_names__law_names_here) (qa_cons (qvN 7 nm__law_names__law_name) qa_nil))) qa_nil))))))))
 (qss_one (qs_ret (qvN 5 nm__law_names__law_names_here)))))))), ?_⟩
    have hz : (200 : Nat) ≤ sizeLine := by decide
    refine ⟨_, rfl, s, la, 3, rfl, hsrc, by decide, by decide, fun style H1 st0 st1 hs1 sx1 => ?_⟩
    refine ⟨_, rfl, _, rfl, s, la, 11, rfl, hs1, by decide, by decide, fun d1 H2 d10 d11 hs2 sx2 => ?_⟩
    refine ⟨_, _, rfl, rfl, s, la, _, rfl, hs2, by omega, by omega, fun stem H3 hl3 hlow3 hs3 sx3 => ?_⟩
    refine ⟨_, rfl, _, rfl, stem, rfl, by omega, s, la, _, rfl, hs3, by omega, by omega, fun at_ H4 at0 at1 hs4 sx4 => ?_⟩
    refine ⟨by show 0 ≤ sizeLine; omega, fun l hl4 => ?_⟩
    have sx : SameX s H H4 := ((sx1.trans sx2).trans sx3).trans sx4
    obtain ⟨nls, nlla⟩ := hs4.ne hl4
    have hlH : H l = none := by
      cases e : H l with
      | none => rfl
      | some o => exact absurd (sx l o nls e) (by rw [hl4]; simp)
    refine ⟨_, rfl, n, rfl, by omega, by omega, ?_⟩
    show tForW _ _ _ _ [some (.ref s), some (.int n), some (.int style), some (.str stem), some (.int at_), some (.ref l), none, none] (upd H4 l (.lst []))
    have mkn : ∀ x : Str, Low x → 1 ≤ x.length → x.length ≤ 12 → IsName x := fun x a b c => ⟨a, b, c⟩
    refine forW_range n.toNat rfl (fun i σ H' => ∃ (names : List Str) (v1 v2 : Option V), σ = [some (.ref s), some (.int n), some (.int style), some (.str stem), some (.int at_), some (.ref l), v1, v2] ∧ names.length = i ∧ names.Nodup ∧ (∀ x ∈ names, IsName x) ∧ H' l = some (.lst (names.map V.str)) ∧ SrcAt H' s la ∧ SameX s H H')
      ⟨[], none, none, rfl, rfl, List.nodup_nil, (fun _ z => nomatch z), upd_same, hs4.keep (Same.new hl4), sx.trans (SameX.new hl4)⟩ ?_ ?_
    · rintro i σ H5 hi ⟨names, v1, v2, rfl, hlen, hnd, hall, hl5, hs5, sx5⟩
      -- stem[:at] + word(1) + stem[at + 1:]
      have e1 : cs (Txt.slice stem none (some at_)) = (cs stem).take at_.toNat := cs_upto stem at0
      have e2 : cs (Txt.slice stem (some (at_ + 1)) none) = (cs stem).drop (at_ + 1).toNat := cs_from stem (by omega)
      have l1 : (Txt.slice stem none (some at_)).length ≤ 11 := by rw [← cs_len, e1, List.length_take, cs_len]; omega
      have l2 : (Txt.slice stem (some (at_ + 1)) none).length + (at_ + 1).toNat = stem.length := by rw [← cs_len, e2, List.length_drop, cs_len]; omega
      have l1' : (Txt.slice stem none (some at_)).length = at_.toNat := by rw [← cs_len, e1, List.length_take, cs_len]; omega
      refine ⟨_, rfl, _, rfl, at_, rfl, stem, rfl, by omega, _, rfl, s, la, 1, rfl, hs5, by decide, by decide, fun x1 H6 hx1 hlow1 hs6 sx6 => ?_⟩
      have hl6 : H6 l = some (.lst (names.map V.str)) := sx6 l _ nls hl5
      refine ⟨_, _, rfl, rfl, by omega, ?_⟩
      refine ⟨_, rfl, _, rfl, _, _, rfl, rfl, _, rfl, stem, rfl, by omega, ?_⟩
      have l3 : (Txt.slice stem none (some at_) ++ x1).length = at_.toNat + 1 := by rw [PySem.Str.length_append, l1']; omega
      refine ⟨_, _, rfl, rfl, by rw [l3]; omega, ?_⟩
      have hname : IsName (Txt.slice stem none (some at_) ++ x1 ++ Txt.slice stem (some (at_ + 1)) none) := by
        refine mkn _ (fun c hc => ?_) ?_ ?_
        · rw [cs_app, cs_app, e1, e2] at hc
          rcases List.mem_append.mp hc with hc | hc
          · rcases List.mem_append.mp hc with hc | hc
            · exact hlow3 c (List.mem_of_mem_take hc)
            · exact hlow1 c hc
          · exact hlow3 c (List.mem_of_mem_drop hc)
        · rw [PySem.Str.length_append, l3]; omega
        · rw [PySem.Str.length_append, l3]; omega
      generalize Txt.slice stem none (some at_) ++ x1 ++ Txt.slice stem (some (at_ + 1)) none = nm0 at hname
      show tSeq _ _ _ [some (.ref s), some (.int n), some (.int style), some (.str stem), some (.int at_), some (.ref l), some (.int (0 + (i : Nat))), some (.str nm0)] H6
      -- if style == 1
      have app : ∀ (D : Ends), (∀ σ H', (∃ (names : List Str) (v1 v2 : Option V), σ = [some (.ref s), some (.int n), some (.int style), some (.str stem), some (.int at_), some (.ref l), v1, v2] ∧ names.length = i + 1 ∧ names.Nodup ∧ (∀ x ∈ names, IsName x) ∧ H' l = some (.lst (names.map V.str)) ∧ SrcAt H' s la ∧ SameX s H H') → D.nx σ H') →
          ∀ (x : Str) (H6 : Hp), IsName x → H6 l = some (.lst (names.map V.str)) → SrcAt H6 s la → SameX s H H6 →
          tDrop (tBM K "list" rAppend (tVar 5) (tCons (tFn (spUnlike K) (tCons (tVar 5) (tCons (tVar 7) tNil))) tNil)) D
            [some (.ref s), some (.int n), some (.int style), some (.str stem), some (.int at_), some (.ref l), some (.int (0 + (i : Nat))), some (.str x)] H6 := by
        intro D hD x H6 hx hl6 hs6 sx6
        refine ⟨_, rfl, .inl ⟨rfl, _, SqL.of hl6⟩, _, rfl, _, rfl, l, names, x, rfl, SqL.of hl6, by omega, hx, fun y hy hny => ?_⟩
        refine ⟨l, _, _, rfl, rfl, hl6, by rw [List.length_map]; omega, hD _ _ ⟨names ++ [y], _, _, rfl, by rw [List.length_append, hlen]; rfl, nd_snoc hnd hny, fun z hz => ?_, ?_, ?_, ?_⟩⟩
        · rcases List.mem_append.mp hz with q | q
          · exact hall z q
          · have : z = y := by simpa using q
            rw [this]; exact hy
        · rw [upd_same, List.map_append]; rfl
        · exact hs6.keepX SameX.upd nls nlla
        · intro b o hb e
          have : b ≠ l := fun z => by rw [z, hlH] at e; cases e
          rw [upd_ne this]
          exact sx6 b o hb e
      have step2 : ∀ (D : Ends), (∀ σ H', (∃ (names : List Str) (v1 v2 : Option V), σ = [some (.ref s), some (.int n), some (.int style), some (.str stem), some (.int at_), some (.ref l), v1, v2] ∧ names.length = i + 1 ∧ names.Nodup ∧ (∀ x ∈ names, IsName x) ∧ H' l = some (.lst (names.map V.str)) ∧ SrcAt H' s la ∧ SameX s H H') → D.nx σ H') →
          ∀ (x : Str) (H6 : Hp), IsName x → H6 l = some (.lst (names.map V.str)) → SrcAt H6 s la → SameX s H H6 →
          tSeq (tIfS (tTest (tOp rEq (tVar 2) (tC (.int 2)))) (tAsg (tFn spWord (tCons (tVar 0) (tCons (tOp (rI0 fun i j => .int (i + j)) (tC (.int 1)) (tFn spNext (tCons (tVar 0) (tCons (tC (.int 12)) tNil)))) tNil))) (gName 7)) tNext)
            (tDrop (tBM K "list" rAppend (tVar 5) (tCons (tFn (spUnlike K) (tCons (tVar 5) (tCons (tVar 7) tNil))) tNil))) D
            [some (.ref s), some (.int n), some (.int style), some (.str stem), some (.int at_), some (.ref l), some (.int (0 + (i : Nat))), some (.str x)] H6 := by
        intro D hD x H6 hx hl6 hs6 sx6
        refine ⟨_, rfl, rfl, _, rfl, iteD (fun _ => ?_) (fun _ => ?_)⟩
        · refine ⟨_, rfl, _, rfl, s, la, 12, rfl, hs6, by decide, by decide, fun d H7 d0 d1 hs7 sx7 => ?_⟩
          refine ⟨_, _, rfl, rfl, s, la, _, rfl, hs7, by omega, by omega, fun y H8 hy1 hy2 hs8 sx8 => ?_⟩
          exact app D hD y H8 ⟨hy2, by omega, by omega⟩ (sx8 l _ nls (sx7 l _ nls hl6)) hs8 ((sx6.trans sx7).trans sx8)
        · exact app D hD x H6 hx hl6 hs6 sx6
      refine ⟨_, rfl, rfl, _, rfl, iteD (fun _ => ?_) (fun _ => ?_)⟩
      · refine ⟨_, rfl, _, rfl, _, rfl, stem, rfl, by omega, s, la, _, rfl, hs6, by omega, by omega, fun d H7 d0 d1 hs7 sx7 => ?_⟩
        refine ⟨_, _, rfl, rfl, _, rfl, stem, rfl, by omega, ?_⟩
        have e3 : cs (Txt.slice stem none (some (1 + d))) = (cs stem).take (1 + d).toNat := cs_upto stem (by omega)
        refine step2 _ (fun σ H' h => h) _ H7 ⟨fun c hc => hlow3 c (by rw [e3] at hc; exact List.mem_of_mem_take hc), ?_, ?_⟩ (sx7 l _ nls hl6) hs7 ((sx5.trans sx6).trans sx7)
        · rw [← cs_len, e3, List.length_take, cs_len]; omega
        · rw [← cs_len, e3, List.length_take, cs_len]; omega
      · exact step2 _ (fun σ H' h => h) nm0 H6 hname hl6 hs6 (sx5.trans sx6)
    · rintro σ H5 ⟨names, v1, v2, rfl, hlen, hnd, hall, hl5, hs5, sx5⟩
      exact ⟨_, rfl, k l names H5 (by omega) hnd hall hlH hl5 hs5 sx5⟩
end

section
variable {P : Program} {w : World} {K : PySem.W.Frag} {mg : Str → Option Value} {base : Heap}
/-! ### is_name -/
def okc (c : Nat) : Bool := decide (97 ≤ c) && decide (c ≤ 122)
def isNameB (x : Str) : Bool := (decide (1 ≤ x.length) && decide (x.length ≤ 12)) && (cs x).all okc
theorem isNameB_of {x : Str} (h : IsName x) : isNameB x = true := by
  obtain ⟨h1, h2, h3⟩ := h
  unfold isNameB
  rw [decide_eq_true h2, decide_eq_true h3, Bool.true_and, Bool.true_and, List.all_eq_true]
  intro c hc
  obtain ⟨a, b⟩ := h1 c hc
  unfold okc
  rw [decide_eq_true a, decide_eq_true b]
  rfl
def spIsName : Sp := fun vs H Q _ => ∃ x : Str, vs = [.str x] ∧ x.length ≤ 1000 ∧ ∀ H', Same H H' → Q (.bl (isNameB x)) H'
theorem sgn_at {x : Str} {i : Nat} (hi : i < x.length) : (cs x)[i]? = some (x.cps.getD i 0) := by
  unfold cs
  have : i < x.cps.size := hi
  rw [Array.getD_eq_getD_getElem?, Array.getElem?_eq_getElem this, Array.getElem?_toList, Array.getElem?_eq_getElem this]
  rfl
theorem leA (c : Nat) : (!decide ((⟨#[c]⟩ : Str).cps.toList < ("a" : Str).cps.toList)) = decide (97 ≤ c) := by
  have e : ("a" : Str).cps.toList = [97] := by decide +kernel
  rw [e]
  show (!decide (([c] : List Nat) < [97])) = _
  rw [Bool.eq_iff_iff, Bool.not_eq_true', decide_eq_false_iff_not, decide_eq_true_iff, one_lt_one]
  omega
theorem leZ (c : Nat) : (!decide (("z" : Str).cps.toList < (⟨#[c]⟩ : Str).cps.toList)) = decide (c ≤ 122) := by
  have e : ("z" : Str).cps.toList = [122] := by decide +kernel
  rw [e]
  show (!decide (([122] : List Nat) < [c])) = _
  rw [Bool.eq_iff_iff, Bool.not_eq_true', decide_eq_false_iff_not, decide_eq_true_iff, one_lt_one]
  omega
theorem take_map_snoc {α β : Type} {l : List α} {i : Nat} {a : α} (f : α → β) (h : l[i]? = some a) : (l.take (i + 1)).map f = (l.take i).map f ++ [f a] := by
  rw [List.take_add_one, h, List.map_append]
  rfl
abbrev s_is_name : Stmt := top 28
theorem sc_is_name : FnScope ["text"] ["text"] (defScope s_is_name) := ⟨rfl, rfl, rfl, by decide +kernel, rfl, by decide +kernel, by decide +kernel⟩
theorem nm_is_name_LONGEST_NAME : Nm (defScope s_is_name) "LONGEST_NAME" .globalImplicit := by decide +kernel
theorem nm_is_name_all : Nm (defScope s_is_name) "all" .globalImplicit := by decide +kernel
theorem nm_is_name_len : Nm (defScope s_is_name) "len" .globalImplicit := by decide +kernel
theorem nm_is_name_text : Nm (defScope s_is_name) "text" .local := by decide +kernel
theorem f_is_name (h_is_name : Has K mg "is_name" s_is_name) (T : Txt mg) (hL : ∃ t, mg "LONGEST_NAME" = some (.int 12 t)) : Fn P w K mg base "is_name" ["text"] 1 spIsName := by
  obtain ⟨tL, c_LONGEST_NAME⟩ := hL
  have r_LONGEST_NAME : RelV (.int 12) (.int 12 tL) := ⟨tL, rfl⟩
  refine h_is_name.fnQ sc_is_name (fun _ _ _ _ _ _ us hl => match us, hl with | [_], _ => rfl) (fun vs H Q E h => ?_) (fun f cdv A outer s H vs Q E hr h => ?_)
  · obtain ⟨x, rfl, _⟩ := h
    rfl
  · obtain ⟨x, rfl, hx, k⟩ := h
    refine ⟨_, (qss_one (qs_ret (qe_and (qe_chain qop_le qop_le qe_int (qe_callBN qcall_len_str nm_is_name_len T.len b_len (qa_cons (qvN 0 nm_is_name_text) qa_nil)) (qe_globN nm_is_name_LONGEST_NAME c_LONGEST_NAME r_LONGEST_NAME)) (qe_one (qe_callBN (qcall_all (by rfl)) nm_is_name_all T.all b_all (qa_cons (qe_lcomp (locs := ["sign"]) (fr := []) ⟨rfl, by decide +kernel, by decide +kernel, by decide +kernel, by decide +kernel, by decide +kernel⟩ .nil rfl (qi_str (qvN 0 nm_is_name_text)) ⟨fun _ _ _ _ _ _ => by
    have cnd : (inN ["sign"] []).Nodup := by decide +kernel
    exact ⟨(qgLN 0 cnd), qts_nil, (qe_chain qop_le_str qop_le_str qe_str (qvLN 0) qe_str)⟩⟩) qa_nil)))))), ?_⟩
    have hz : (1000 : Nat) ≤ sizeLine := by decide
    refine ⟨_, rfl, x, rfl, by omega, _, _, rfl, rfl, _, rfl, iteD (fun h1 => ?_) (fun h1 => ?_)⟩
    · refine ⟨_, _, rfl, rfl, _, rfl, iteD (fun h2 => ?_) (fun h2 => ?_)⟩
      · refine ⟨_, rfl, x, rfl, ?_⟩
        refine comp_str (fun i ys H' => H' = H ∧ ys = ((cs x).take i).map fun c => V.bl (okc c)) ⟨rfl, rfl⟩ (by omega) ?_ ?_ ?_
        · rintro i ys H' ⟨_, rfl⟩
          rw [List.length_map, List.length_take]; omega
        · rintro i ys H' hi ⟨rfl, rfl⟩ ls hls
          obtain ⟨a, rfl⟩ := len1 hls
          refine ⟨⟨[_], rfl, rfl⟩, iteT ?_⟩
          refine ⟨_, rfl, _, _, rfl, rfl, _, rfl, ?_⟩
          rw [leA]
          refine iteD (fun h3 => ?_) (fun h3 => ?_)
          · refine ⟨_, _, rfl, rfl, rfl, ?_⟩
            dsimp only
            rw [leZ, take_map_snoc _ (sgn_at hi)]
            unfold okc
            rw [decide_eq_true h3, Bool.true_and]
          · refine ⟨rfl, ?_⟩
            rw [take_map_snoc _ (sgn_at hi)]
            unfold okc
            rw [decide_eq_false h3, Bool.false_and]
        · rintro ys H' ⟨rfl, rfl⟩ l hl
          refine ⟨l, (cs x).map okc, rfl, SqL.of (by rw [upd_same, ← cs_len, List.take_length, List.map_map]; rfl), ?_⟩
          have e : ((cs x).map okc).all id = isNameB x := by
            unfold isNameB
            rw [List.all_map, decide_eq_true (show 1 ≤ x.length by omega), decide_eq_true (show x.length ≤ 12 by omega)]
            rfl
          rw [e]
          exact k _ (Same.new hl)
      · refine (?_ : Q (.bl false) H)
        have e : isNameB x = false := by
          unfold isNameB
          rw [decide_eq_false (show ¬ x.length ≤ 12 by omega), Bool.and_false, Bool.false_and]
        rw [← e]
        exact k H (Same.refl _)
    · refine ⟨_, rfl, iteF ?_⟩
      have e : isNameB x = false := by
        unfold isNameB
        rw [decide_eq_false (show ¬ 1 ≤ x.length by omega), Bool.false_and, Bool.false_and]
      rw [← e]
      exact k H (Same.refl _)
end

section
variable {P : Program} {w : World} {K : PySem.W.Frag} {mg : Str → Option Value} {base : Heap}
/-! ### deeds as they are told, and a Folk that knows them -/
inductive Deed where
  | come (n : Str) (d w : Int) | rise (n : Str) (d w : Int) | die (n : Str) (d : Int) (h : Str)
def comOf : List Deed → Str → Option Int
  | [], _ => none
  | .come m d _ :: r, n => if m = n then some d else comOf r n
  | .rise _ _ _ :: r, n => comOf r n
  | .die _ _ _ :: r, n => comOf r n
def dieOf : List Deed → Str → Option (Int × Str)
  | [], _ => none
  | .die m d h :: r, n => if m = n then some (d, h) else dieOf r n
  | .come _ _ _ :: r, n => dieOf r n
  | .rise _ _ _ :: r, n => dieOf r n
theorem comOf_app (a b : List Deed) (n : Str) : comOf (a ++ b) n = (comOf a n).or (comOf b n) := by
  induction a with
  | nil => rfl
  | cons x r ih =>
    cases x with
    | come m d w =>
      rw [List.cons_append, comOf, comOf]
      by_cases e : m = n
      · rw [if_pos e, if_pos e]; rfl
      · rw [if_neg e, if_neg e, ih]
    | rise m d w => rw [List.cons_append, comOf, comOf, ih]
    | die m d h => rw [List.cons_append, comOf, comOf, ih]
theorem dieOf_app (a b : List Deed) (n : Str) : dieOf (a ++ b) n = (dieOf a n).or (dieOf b n) := by
  induction a with
  | nil => rfl
  | cons x r ih =>
    cases x with
    | come m d w => rw [List.cons_append, dieOf, dieOf, ih]
    | rise m d w => rw [List.cons_append, dieOf, dieOf, ih]
    | die m d h =>
      rw [List.cons_append, dieOf, dieOf]
      by_cases e : m = n
      · rw [if_pos e, if_pos e]; rfl
      · rw [if_neg e, if_neg e, ih]
theorem comOf_come {ds : List Deed} {n : Str} {d w : Int} (h : comOf ds n = none) (x : Str) : comOf (ds ++ [.come n d w]) x = if x = n then some d else comOf ds x := by
  rw [comOf_app, comOf, comOf]
  by_cases e : x = n
  · subst e
    rw [if_pos rfl, if_pos rfl, h]; rfl
  · rw [if_neg (Ne.symm e), if_neg e]
    cases comOf ds x <;> rfl
theorem comOf_die {ds : List Deed} {n h : Str} {d : Int} (x : Str) : comOf (ds ++ [.die n d h]) x = comOf ds x := by
  rw [comOf_app, comOf, comOf]
  cases comOf ds x <;> rfl
theorem dieOf_come {ds : List Deed} {n : Str} {d w : Int} (x : Str) : dieOf (ds ++ [.come n d w]) x = dieOf ds x := by
  rw [dieOf_app, dieOf, dieOf]
  cases dieOf ds x <;> rfl
theorem dieOf_die {ds : List Deed} {n h : Str} {d : Int} (hn : dieOf ds n = none) (x : Str) : dieOf (ds ++ [.die n d h]) x = if x = n then some (d, h) else dieOf ds x := by
  rw [dieOf_app, dieOf, dieOf]
  by_cases e : x = n
  · subst e
    rw [if_pos rfl, if_pos rfl, hn]; rfl
  · rw [if_neg (Ne.symm e), if_neg e]
    cases dieOf ds x <;> rfl
def deadOn (ds : List Deed) (n : Str) (day : Int) : Bool := match dieOf ds n with
  | some x => decide (x.1 ≤ day)
  | none => false
inductive Stands (ds : List Deed) (day : Int) : Nat → Str → Str → Prop where
  | here {n : Str} : deadOn ds n day = false → Stands ds day 0 n n
  | step {n m : Str} {x : Int × Str} {k : Nat} : dieOf ds n = some x → deadOn ds n day = true → Stands ds day k x.2 m → Stands ds day (k + 1) n m
theorem stands_ex {ds : List Deed} {r : Str → Nat} (h : ∀ n x, dieOf ds n = some x → r x.2 < r n) (day : Int) : ∀ (b : Nat) (n : Str), r n ≤ b → ∃ k m, Stands ds day k n m ∧ k ≤ b := by
  intro b
  induction b with
  | zero =>
    intro n hn
    cases e : deadOn ds n day with
    | false => exact ⟨0, n, .here e, Nat.zero_le _⟩
    | true =>
      unfold deadOn at e
      cases e2 : dieOf ds n with
      | none => rw [e2] at e; cases e
      | some x => have := h n x e2; omega
  | succ b ih =>
    intro n hn
    cases e : deadOn ds n day with
    | false => exact ⟨0, n, .here e, Nat.zero_le _⟩
    | true =>
      have e' := e
      unfold deadOn at e
      cases e2 : dieOf ds n with
      | none => rw [e2] at e; cases e
      | some x =>
        have := h n x e2
        obtain ⟨k, m, a1, a2⟩ := ih x.2 (by omega)
        exact ⟨k + 1, m, .step e2 e' a1, by omega⟩
/-! ### the object -/
def fflds (dc dw dd dh : Addr) : List (Str × V) := putF "heirs" (.ref dh) (putF "deaths" (.ref dd) (putF "weights" (.ref dw) (putF "comings" (.ref dc) [])))
theorem ff_c (dc dw dd dh : Addr) : (fflds dc dw dd dh).lookup ("comings" : Str) = some (.ref dc) := by
  unfold fflds
  rw [lookup_putF, if_neg (by decide +kernel), lookup_putF, if_neg (by decide +kernel), lookup_putF, if_neg (by decide +kernel), lookup_putF, if_pos rfl]
theorem ff_w (dc dw dd dh : Addr) : (fflds dc dw dd dh).lookup ("weights" : Str) = some (.ref dw) := by
  unfold fflds
  rw [lookup_putF, if_neg (by decide +kernel), lookup_putF, if_neg (by decide +kernel), lookup_putF, if_pos rfl]
theorem ff_d (dc dw dd dh : Addr) : (fflds dc dw dd dh).lookup ("deaths" : Str) = some (.ref dd) := by
  unfold fflds
  rw [lookup_putF, if_neg (by decide +kernel), lookup_putF, if_pos rfl]
theorem ff_h (dc dw dd dh : Addr) : (fflds dc dw dd dh).lookup ("heirs" : Str) = some (.ref dh) := by
  unfold fflds
  rw [lookup_putF, if_pos rfl]
def notF (m : Str) : Prop := ¬ m = "heirs" ∧ ¬ m = "deaths" ∧ ¬ m = "weights" ∧ ¬ m = "comings"
instance (m : Str) : Decidable (notF m) := by unfold notF; exact inferInstance
theorem ff_no (dc dw dd dh : Addr) {m : Str} (h : notF m) : (fflds dc dw dd dh).lookup m = none := by
  obtain ⟨a, b, c, d⟩ := h
  unfold fflds
  rw [lookup_putF, if_neg a, lookup_putF, if_neg b, lookup_putF, if_neg c, lookup_putF, if_neg d]
  rfl
/-- the places of a Folk -/
structure FL where
  p : Addr
  dc : Addr
  dw : Addr
  dd : Addr
  dh : Addr
structure FolkAt (C : Addr) (H : Hp) (L : FL) (ds : List Deed) : Prop where
  ob : ∃ dx, H L.p = some (.ins C dx (fflds L.dc L.dw L.dd L.dh))
  c : ∃ kvs : List (Key × V), H L.dc = some (.dK kvs) ∧ kvs.length ≤ ds.length ∧ ∀ n : Str, valV kvs (.inr n) = (comOf ds n).map V.int
  w : ∃ kvs : List (Key × V), H L.dw = some (.dK kvs) ∧ kvs.length ≤ ds.length
  d : ∃ kvs : List (Key × V), H L.dd = some (.dK kvs) ∧ kvs.length ≤ ds.length ∧ ∀ n : Str, valV kvs (.inr n) = (dieOf ds n).map fun x => V.int x.1
  h : ∃ kvs : List (Key × V), H L.dh = some (.dK kvs) ∧ kvs.length ≤ ds.length ∧ ∀ n : Str, valV kvs (.inr n) = (dieOf ds n).map fun x => V.str x.2
  a1 : L.dc ≠ L.dw
  a2 : L.dc ≠ L.dd
  a3 : L.dc ≠ L.dh
  a4 : L.dw ≠ L.dd
  a5 : L.dw ≠ L.dh
  a6 : L.dd ≠ L.dh
/-- all but lists is as it was -/
def SameN (H H' : Hp) : Prop := ∀ b o, (∀ xs, o ≠ .lst xs) → H b = some o → H' b = some o
theorem Same.n {H H' : Hp} (h : Same H H') : SameN H H' := fun b o _ e => h b o e
theorem SameX.n {s : Addr} {H H' : Hp} {xs : List V} (h : SameX s H H') (hs : H s = some (.lst xs)) : SameN H H' := fun b o n e => h b o (fun z => by rw [z, hs] at e; exact n xs (Option.some.inj e).symm) e
theorem SrcAt.n {s la : Addr} {H H' : Hp} (hs : SrcAt H s la) (h : SameX s H H') : SameN H H' := let ⟨_, _, _, _, _, a, _⟩ := hs; SameX.n h a
theorem SameN.trans {H H1 H2 : Hp} (a : SameN H H1) (b : SameN H1 H2) : SameN H H2 := fun c o n e => b c o n (a c o n e)
theorem SameN.upd {H : Hp} {l : Addr} {xs : List V} {o : HO} (h : H l = some (.lst xs)) : SameN H (upd H l o) := fun b o n e => by
  rw [upd_ne (fun z => by rw [z, h] at e; exact n xs (Option.some.inj e).symm)]; exact e
theorem FolkAt.keep {C : Addr} {H H' : Hp} {L : FL} {ds : List Deed} (h : FolkAt C H L ds) (k : SameN H H') : FolkAt C H' L ds := by
  obtain ⟨⟨dx, ob⟩, ⟨k1, c1, c2⟩, ⟨k2, w1, w2⟩, ⟨k3, d1, d2⟩, ⟨k4, h1, h2⟩, a1, a2, a3, a4, a5, a6⟩ := h
  exact ⟨⟨dx, k _ _ (fun _ z => nomatch z) ob⟩, ⟨k1, k _ _ (fun _ z => nomatch z) c1, c2⟩, ⟨k2, k _ _ (fun _ z => nomatch z) w1, w2⟩, ⟨k3, k _ _ (fun _ z => nomatch z) d1, d2⟩, ⟨k4, k _ _ (fun _ z => nomatch z) h1, h2⟩, a1, a2, a3, a4, a5, a6⟩
/-- lists and tuples are as they were -/
def SameLT (H H' : Hp) : Prop := (∀ b xs, H b = some (.lst xs) → H' b = some (.lst xs)) ∧ ∀ b xs, H b = some (.tup xs) → H' b = some (.tup xs)
theorem Same.lt {H H' : Hp} (h : Same H H') : SameLT H H' := ⟨fun b xs e => h _ _ e, fun b xs e => h _ _ e⟩
theorem SameLT.trans {H H1 H2 : Hp} (a : SameLT H H1) (b : SameLT H1 H2) : SameLT H H2 := ⟨fun c xs e => b.1 c xs (a.1 c xs e), fun c xs e => b.2 c xs (a.2 c xs e)⟩
theorem SameLT.updD {H : Hp} {l : Addr} {kvs kvs' : List (Key × V)} (h : H l = some (.dK kvs)) : SameLT H (upd H l (.dK kvs')) :=
  ⟨fun b xs e => by rw [upd_ne (fun z => by rw [z, h] at e; cases e)]; exact e, fun b xs e => by rw [upd_ne (fun z => by rw [z, h] at e; cases e)]; exact e⟩
theorem SrcAt.lt {H H' : Hp} {s la : Addr} (h : SrcAt H s la) (k : SameLT H H') : SrcAt H' s la := by
  obtain ⟨ns, i, big, st, cnt, h1, h2, h3, h4⟩ := h
  exact ⟨ns, i, big, st, cnt, k.1 _ _ h1, k.1 _ _ h2, h3, h4⟩
/-- the class as the top has made it -/
structure TxC (K : PySem.W.Frag) (C : Addr) : Prop where
  cl : Cls K C
  nc : NoAttr K C "comings"
  nw : NoAttr K C "weights"
  nd : NoAttr K C "deaths"
  nh : NoAttr K C "heirs"
variable {C : Addr}
/-! ### checks -/
def spDay : Sp := fun vs H Q _ => ∃ d : Int, vs = [.int d] ∧ 0 ≤ d ∧ d ≤ 9999 ∧ Q .non H
abbrev s_check_day : Stmt := top 24
theorem sc_check_day : FnScope ["day"] ["day"] (defScope s_check_day) := ⟨rfl, rfl, rfl, by decide +kernel, rfl, by decide +kernel, by decide +kernel⟩
theorem nm_check_day_LAST_DAY : Nm (defScope s_check_day) "LAST_DAY" .globalImplicit := by decide +kernel
theorem nm_check_day_day : Nm (defScope s_check_day) "day" .local := by decide +kernel
theorem f_check_day (h_check_day : Has K mg "check_day" s_check_day) (C0 : ∃ t, mg "LAST_DAY" = some (.int 9999 t)) : Fn P w K mg base "check_day" ["day"] 1 spDay := by
  obtain ⟨t0, c_LAST_DAY⟩ := C0
  have r_LAST_DAY : RelV (.int 9999) (.int 9999 t0) := ⟨t0, rfl⟩
  refine h_check_day.fnQ sc_check_day (fun _ _ _ _ _ _ us hl => match us, hl with | [_], _ => rfl) (fun vs H Q E h => ?_) (fun f cdv A outer s H vs Q E hr h => ?_)
  · obtain ⟨d, rfl, _⟩ := h
    rfl
  · obtain ⟨d, rfl, h0, h1, k⟩ := h
    refine ⟨_, (qss_one (qs_if (qt_not (qt_chain qop_le qop_le qe_int (qvN 0 nm_check_day_day) (qe_globN nm_check_day_LAST_DAY c_LAST_DAY r_LAST_DAY))) (qss_one qs_never) qss_nil)), ?_⟩
    refine ⟨_, rfl, _, _, rfl, rfl, _, rfl, iteD (fun _ => ?_) (fun z => absurd h0 z)⟩
    refine ⟨_, _, rfl, rfl, _, rfl, iteND (fun z => absurd h1 z) (fun _ => k)⟩
def spWt : Sp := fun vs H Q _ => ∃ d : Int, vs = [.int d] ∧ 1 ≤ d ∧ d ≤ 1000 ∧ Q .non H
abbrev s_check_weight : Stmt := top 25
theorem sc_check_weight : FnScope ["weight"] ["weight"] (defScope s_check_weight) := ⟨rfl, rfl, rfl, by decide +kernel, rfl, by decide +kernel, by decide +kernel⟩
theorem nm_check_weight_MOST_WEIGHT : Nm (defScope s_check_weight) "MOST_WEIGHT" .globalImplicit := by decide +kernel
theorem nm_check_weight_weight : Nm (defScope s_check_weight) "weight" .local := by decide +kernel
theorem f_check_weight (h_check_weight : Has K mg "check_weight" s_check_weight) (C0 : ∃ t, mg "MOST_WEIGHT" = some (.int 1000 t)) : Fn P w K mg base "check_weight" ["weight"] 1 spWt := by
  obtain ⟨t0, c_MOST_WEIGHT⟩ := C0
  have r_MOST_WEIGHT : RelV (.int 1000) (.int 1000 t0) := ⟨t0, rfl⟩
  refine h_check_weight.fnQ sc_check_weight (fun _ _ _ _ _ _ us hl => match us, hl with | [_], _ => rfl) (fun vs H Q E h => ?_) (fun f cdv A outer s H vs Q E hr h => ?_)
  · obtain ⟨d, rfl, _⟩ := h
    rfl
  · obtain ⟨d, rfl, h0, h1, k⟩ := h
    refine ⟨_, (qss_one (qs_if (qt_not (qt_chain qop_le qop_le qe_int (qvN 0 nm_check_weight_weight) (qe_globN nm_check_weight_MOST_WEIGHT c_MOST_WEIGHT r_MOST_WEIGHT))) (qss_one qs_never) qss_nil)), ?_⟩
    refine ⟨_, rfl, _, _, rfl, rfl, _, rfl, iteD (fun _ => ?_) (fun z => absurd h0 z)⟩
    refine ⟨_, _, rfl, rfl, _, rfl, iteND (fun z => absurd h1 z) (fun _ => k)⟩
def spKnown (C : Addr) : Sp := fun vs H Q _ => ∃ (L : FL) (ds : List Deed) (n : Str) (d : Int), vs = [.ref L.p, .str n] ∧ FolkAt C H L ds ∧ comOf ds n = some d ∧ Q .non H
abbrev s_Folk_check_known : Stmt := inClass (top 31) 17
theorem sc_Folk_check_known : FnScope ["self", "name"] ["self", "name"] (defScope s_Folk_check_known) := ⟨rfl, rfl, rfl, by decide +kernel, rfl, by decide +kernel, by decide +kernel⟩
theorem nm_Folk_check_known_name : Nm (defScope s_Folk_check_known) "name" .local := by decide +kernel
theorem nm_Folk_check_known_self : Nm (defScope s_Folk_check_known) "self" .local := by decide +kernel
theorem f_check_known (h_Folk_check_known : HasM K C "check_known" "Folk.check_known" s_Folk_check_known) (Tc : TxC K C) : Mt P w K mg base C "check_known" ["self", "name"] 1 (spKnown C) := by
  refine h_Folk_check_known.mtQ sc_Folk_check_known (fun _ _ _ _ _ _ us hl => match us, hl with | [_, _], _ => rfl) (fun vs H Q E h => ?_) (fun f cdv A outer s H vs Q E hr h => ?_)
  · obtain ⟨L, ds, n, d, rfl, _⟩ := h
    rfl
  · obtain ⟨L, ds, n, d, rfl, F, hn, k⟩ := h
    refine ⟨_, (qss_one (qs_if (qt_cmpR (qop_dnotin hr) (qvN 1 nm_Folk_check_known_name) (qe_fld (qvN 0 nm_Folk_check_known_self)) rfl) (qss_one qs_never) qss_nil)), ?_⟩
    obtain ⟨dx, ob⟩ := F.ob
    obtain ⟨kvs, c1, c2, c3⟩ := F.c
    refine ⟨_, rfl, _, rfl, L.p, C, dx, _, _, rfl, ob, Tc.cl, Tc.nc, ff_c _ _ _ _, L.dc, _, rfl, DGet.k (k := Sum.inr n) c1, _, rfl, ?_⟩
    rw [c3, hn]
    exact iteF k
def spThere (C : Addr) : Sp := fun vs H Q _ => ∃ (L : FL) (ds : List Deed) (n : Str) (d day : Int), vs = [.ref L.p, .str n, .int day] ∧ FolkAt C H L ds ∧ comOf ds n = some d ∧ d ≤ day ∧ Q .non H
abbrev s_Folk_check_there : Stmt := inClass (top 31) 18
theorem sc_Folk_check_there : FnScope ["self", "name", "day"] ["self", "name", "day"] (defScope s_Folk_check_there) := ⟨rfl, rfl, rfl, by decide +kernel, rfl, by decide +kernel, by decide +kernel⟩
theorem nm_Folk_check_there_day : Nm (defScope s_Folk_check_there) "day" .local := by decide +kernel
theorem nm_Folk_check_there_name : Nm (defScope s_Folk_check_there) "name" .local := by decide +kernel
theorem nm_Folk_check_there_self : Nm (defScope s_Folk_check_there) "self" .local := by decide +kernel
theorem f_check_there (h_Folk_check_there : HasM K C "check_there" "Folk.check_there" s_Folk_check_there) (Tc : TxC K C) : Mt P w K mg base C "check_there" ["self", "name", "day"] 1 (spThere C) := by
  refine h_Folk_check_there.mtQ sc_Folk_check_there (fun _ _ _ _ _ _ us hl => match us, hl with | [_, _, _], _ => rfl) (fun vs H Q E h => ?_) (fun f cdv A outer s H vs Q E hr h => ?_)
  · obtain ⟨L, ds, n, d, day, rfl, _⟩ := h
    rfl
  · obtain ⟨L, ds, n, d, day, rfl, F, hn, hd, k⟩ := h
    refine ⟨_, (qss_one (qs_if (qt_cmpR qop_lt (qvN 2 nm_Folk_check_there_day) (qe_dget hr (qe_fld (qvN 0 nm_Folk_check_there_self)) (qvN 1 nm_Folk_check_there_name) (fun _ _ => rfl)) (nomark _)) (qss_one qs_never) qss_nil)), ?_⟩
    obtain ⟨dx, ob⟩ := F.ob
    obtain ⟨kvs, c1, c2, c3⟩ := F.c
    have g := DGet.k (k := Sum.inr n) c1
    rw [c3, hn] at g
    refine ⟨_, rfl, _, rfl, L.p, C, dx, _, _, rfl, ob, Tc.cl, Tc.nc, ff_c _ _ _ _, _, rfl, L.dc, .int d, rfl, g, ?_⟩
    exact ⟨_, _, rfl, rfl, _, rfl, iteD (fun z => absurd z (by omega)) (fun _ => k)⟩
def spDiedBy (C : Addr) : Sp := fun vs H Q _ => ∃ (L : FL) (ds : List Deed) (n : Str) (day : Int), vs = [.ref L.p, .str n, .int day] ∧ FolkAt C H L ds ∧ Q (.bl (deadOn ds n day)) H
abbrev s_Folk_died_by : Stmt := inClass (top 31) 11
theorem sc_Folk_died_by : FnScope ["self", "name", "day"] ["self", "name", "day"] (defScope s_Folk_died_by) := ⟨rfl, rfl, rfl, by decide +kernel, rfl, by decide +kernel, by decide +kernel⟩
theorem nm_Folk_died_by_day : Nm (defScope s_Folk_died_by) "day" .local := by decide +kernel
theorem nm_Folk_died_by_name : Nm (defScope s_Folk_died_by) "name" .local := by decide +kernel
theorem nm_Folk_died_by_self : Nm (defScope s_Folk_died_by) "self" .local := by decide +kernel
theorem f_died_by (h_Folk_died_by : HasM K C "died_by" "Folk.died_by" s_Folk_died_by) (Tc : TxC K C) : Mt P w K mg base C "died_by" ["self", "name", "day"] 1 (spDiedBy C) := by
  refine h_Folk_died_by.mtQ sc_Folk_died_by (fun _ _ _ _ _ _ us hl => match us, hl with | [_, _, _], _ => rfl) (fun vs H Q E h => ?_) (fun f cdv A outer s H vs Q E hr h => ?_)
  · obtain ⟨L, ds, n, day, rfl, _⟩ := h
    rfl
  · obtain ⟨L, ds, n, day, rfl, F, k⟩ := h
    refine ⟨_, (qss_one (qs_ret (qe_and (qe_cmpR (qop_din hr) (qvN 1 nm_Folk_died_by_name) (qe_fld (qvN 0 nm_Folk_died_by_self)) rfl) (qe_one (qe_cmpR qop_le (qe_dget hr (qe_fld (qvN 0 nm_Folk_died_by_self)) (qvN 1 nm_Folk_died_by_name) (fun _ _ => rfl)) (qvN 2 nm_Folk_died_by_day) (nomark _)))))), ?_⟩
    obtain ⟨dx, ob⟩ := F.ob
    obtain ⟨kvs, c1, c2, c3⟩ := F.d
    have g := DGet.k (k := Sum.inr n) c1
    rw [c3] at g
    unfold deadOn at k
    refine ⟨_, rfl, _, rfl, L.p, C, dx, _, _, rfl, ob, Tc.cl, Tc.nd, ff_d _ _ _ _, L.dd, _, rfl, g, _, rfl, ?_⟩
    cases e : dieOf ds n with
    | none =>
      rw [e] at k
      exact iteF k
    | some x =>
      rw [e] at k g
      refine iteT ?_
      exact ⟨_, rfl, L.p, C, dx, _, _, rfl, ob, Tc.cl, Tc.nd, ff_d _ _ _ _, _, rfl, L.dd, .int x.1, rfl, g, _, rfl, _, _, rfl, rfl, k⟩
def spDDay (C : Addr) : Sp := fun vs H Q _ => ∃ (L : FL) (ds : List Deed) (n : Str) (x : Int × Str), vs = [.ref L.p, .str n] ∧ FolkAt C H L ds ∧ dieOf ds n = some x ∧ Q (.int x.1) H
abbrev s_Folk_death_day : Stmt := inClass (top 31) 12
theorem sc_Folk_death_day : FnScope ["self", "name"] ["self", "name"] (defScope s_Folk_death_day) := ⟨rfl, rfl, rfl, by decide +kernel, rfl, by decide +kernel, by decide +kernel⟩
theorem nm_Folk_death_day_name : Nm (defScope s_Folk_death_day) "name" .local := by decide +kernel
theorem nm_Folk_death_day_self : Nm (defScope s_Folk_death_day) "self" .local := by decide +kernel
theorem f_death_day (h_Folk_death_day : HasM K C "death_day" "Folk.death_day" s_Folk_death_day) (Tc : TxC K C) : Mt P w K mg base C "death_day" ["self", "name"] 1 (spDDay C) := by
  refine h_Folk_death_day.mtQ sc_Folk_death_day (fun _ _ _ _ _ _ us hl => match us, hl with | [_, _], _ => rfl) (fun vs H Q E h => ?_) (fun f cdv A outer s H vs Q E hr h => ?_)
  · obtain ⟨L, ds, n, x, rfl, _⟩ := h
    rfl
  · obtain ⟨L, ds, n, x, rfl, F, hx, k⟩ := h
    refine ⟨_, (qss_one (qs_ret (qe_dget hr (qe_fld (qvN 0 nm_Folk_death_day_self)) (qvN 1 nm_Folk_death_day_name) (fun _ _ => rfl)))), ?_⟩
    obtain ⟨dx, ob⟩ := F.ob
    obtain ⟨kvs, c1, c2, c3⟩ := F.d
    have g := DGet.k (k := Sum.inr n) c1
    rw [c3, hx] at g
    exact ⟨_, rfl, L.p, C, dx, _, _, rfl, ob, Tc.cl, Tc.nd, ff_d _ _ _ _, _, rfl, L.dd, .int x.1, rfl, g, k⟩
def spHeirOf (C : Addr) : Sp := fun vs H Q _ => ∃ (L : FL) (ds : List Deed) (n : Str) (x : Int × Str), vs = [.ref L.p, .str n] ∧ FolkAt C H L ds ∧ dieOf ds n = some x ∧ Q (.str x.2) H
abbrev s_Folk_heir_of : Stmt := inClass (top 31) 13
theorem sc_Folk_heir_of : FnScope ["self", "name"] ["self", "name"] (defScope s_Folk_heir_of) := ⟨rfl, rfl, rfl, by decide +kernel, rfl, by decide +kernel, by decide +kernel⟩
theorem nm_Folk_heir_of_name : Nm (defScope s_Folk_heir_of) "name" .local := by decide +kernel
theorem nm_Folk_heir_of_self : Nm (defScope s_Folk_heir_of) "self" .local := by decide +kernel
theorem f_heir_of (h_Folk_heir_of : HasM K C "heir_of" "Folk.heir_of" s_Folk_heir_of) (Tc : TxC K C) : Mt P w K mg base C "heir_of" ["self", "name"] 1 (spHeirOf C) := by
  refine h_Folk_heir_of.mtQ sc_Folk_heir_of (fun _ _ _ _ _ _ us hl => match us, hl with | [_, _], _ => rfl) (fun vs H Q E h => ?_) (fun f cdv A outer s H vs Q E hr h => ?_)
  · obtain ⟨L, ds, n, x, rfl, _⟩ := h
    rfl
  · obtain ⟨L, ds, n, x, rfl, F, hx, k⟩ := h
    refine ⟨_, (qss_one (qs_ret (qe_dget hr (qe_fld (qvN 0 nm_Folk_heir_of_self)) (qvN 1 nm_Folk_heir_of_name) (fun _ _ => rfl)))), ?_⟩
    obtain ⟨dx, ob⟩ := F.ob
    obtain ⟨kvs, c1, c2, c3⟩ := F.h
    have g := DGet.k (k := Sum.inr n) c1
    rw [c3, hx] at g
    exact ⟨_, rfl, L.p, C, dx, _, _, rfl, ob, Tc.cl, Tc.nh, ff_h _ _ _ _, _, rfl, L.dh, .str x.2, rfl, g, k⟩
end

section
variable {P : Program} {w : World} {K : PySem.W.Frag} {mg : Str → Option Value} {base : Heap} {C : Addr}
def spInit (C : Addr) : Sp := fun vs H Q _ => ∃ (p dx : Addr), vs = [.ref p] ∧ H p = some (.ins C dx []) ∧ ∀ (L : FL) (H' : Hp), L.p = p → FolkAt C H' L [] → (∀ b o, H b = some o → b ≠ p → H' b = some o) → Q .non H'
abbrev s_Folk___init__ : Stmt := inClass (top 31) 0
theorem sc_Folk___init__ : FnScope ["self"] ["self"] (defScope s_Folk___init__) := ⟨rfl, rfl, rfl, by decide +kernel, rfl, by decide +kernel, by decide +kernel⟩
theorem nm_Folk___init___self : Nm (defScope s_Folk___init__) "self" .local := by decide +kernel
theorem f_init (h_Folk___init__ : HasM K C "__init__" "Folk.__init__" s_Folk___init__) (Tc : TxC K C) : Mt P w K mg base C "__init__" ["self"] 1 (spInit C) := by
  refine h_Folk___init__.mtQ sc_Folk___init__ (fun _ _ _ _ _ _ us hl => match us, hl with | [_], _ => rfl) (fun vs H Q E h => ?_) (fun f cdv A outer s H vs Q E hr h => ?_)
  · obtain ⟨p, dx, rfl, _⟩ := h
    rfl
  · obtain ⟨p, dx, rfl, hp, k⟩ := h
    refine ⟨_, (qss_cons (qs_fld (qvN 0 nm_Folk___init___self) qe_dnewK)
 (qss_cons (qs_fld (qvN 0 nm_Folk___init___self) qe_dnewK)
 (qss_cons (qs_fld (qvN 0 nm_Folk___init___self) qe_dnewK)
 (qss_one (qs_fld (qvN 0 nm_Folk___init___self) qe_dnewK))))), ?_⟩
    intro dc hdc
    have p1 : p ≠ dc := ne_of_none hp hdc
    refine ⟨_, rfl, p, C, dx, [], rfl, (by rw [upd_ne p1]; exact hp), Tc.cl, Tc.nc, (by show 0 < 1000; decide), ?_⟩
    have g1 : (upd (upd H dc (.dK [])) p (.ins C dx (putF "comings" (.ref dc) []))) p = some (.ins C dx (putF "comings" (.ref dc) [])) := upd_same
    have c1 : (upd (upd H dc (.dK [])) p (.ins C dx (putF "comings" (.ref dc) []))) dc = some (.dK []) := by rw [upd_ne p1.symm, upd_same]
    have s1 : ∀ b o, H b = some o → b ≠ p → (upd (upd H dc (.dK [])) p (.ins C dx (putF "comings" (.ref dc) []))) b = some o := fun b o e n => by rw [upd_ne n, upd_ne (ne_of_none e hdc)]; exact e
    generalize (upd (upd H dc (.dK [])) p (.ins C dx (putF "comings" (.ref dc) []))) = H1 at g1 c1 s1 ⊢
    intro dw hdw
    have p2 : p ≠ dw := ne_of_none g1 hdw
    have q1 : dc ≠ dw := ne_of_none c1 hdw
    refine ⟨_, rfl, p, C, dx, _, rfl, (by rw [upd_ne p2]; exact g1), Tc.cl, Tc.nw, (by show 1 < 1000; decide), ?_⟩
    have g2 : (upd (upd H1 dw (.dK [])) p (.ins C dx (putF "weights" (.ref dw) (putF "comings" (.ref dc) [])))) p = some (.ins C dx (putF "weights" (.ref dw) (putF "comings" (.ref dc) []))) := upd_same
    have c2 : (upd (upd H1 dw (.dK [])) p (.ins C dx (putF "weights" (.ref dw) (putF "comings" (.ref dc) [])))) dc = some (.dK []) := by rw [upd_ne p1.symm, upd_ne q1]; exact c1
    have w2 : (upd (upd H1 dw (.dK [])) p (.ins C dx (putF "weights" (.ref dw) (putF "comings" (.ref dc) [])))) dw = some (.dK []) := by rw [upd_ne p2.symm, upd_same]
    have s2 : ∀ b o, H b = some o → b ≠ p → (upd (upd H1 dw (.dK [])) p (.ins C dx (putF "weights" (.ref dw) (putF "comings" (.ref dc) [])))) b = some o := fun b o e n => by rw [upd_ne n, upd_ne (ne_of_none (s1 b o e n) hdw)]; exact s1 b o e n
    generalize (upd (upd H1 dw (.dK [])) p (.ins C dx (putF "weights" (.ref dw) (putF "comings" (.ref dc) [])))) = H2 at g2 c2 w2 s2 ⊢
    intro dd hdd
    have p3 : p ≠ dd := ne_of_none g2 hdd
    have q2 : dc ≠ dd := ne_of_none c2 hdd
    have q3 : dw ≠ dd := ne_of_none w2 hdd
    have z1 : (putF "comings" (V.ref dc) []).length ≤ 0 + 1 := length_putF "comings" (V.ref dc) []
    have z2 := length_putF "weights" (V.ref dw) (putF "comings" (V.ref dc) [])
    have z3 := length_putF "deaths" (V.ref dd) (putF "weights" (V.ref dw) (putF "comings" (V.ref dc) []))
    refine ⟨_, rfl, p, C, dx, _, rfl, (by rw [upd_ne p3]; exact g2), Tc.cl, Tc.nd, (by omega), ?_⟩
    have g3 : (upd (upd H2 dd (.dK [])) p (.ins C dx (putF "deaths" (.ref dd) (putF "weights" (.ref dw) (putF "comings" (.ref dc) []))))) p = some (.ins C dx (putF "deaths" (.ref dd) (putF "weights" (.ref dw) (putF "comings" (.ref dc) [])))) := upd_same
    have c3 : (upd (upd H2 dd (.dK [])) p (.ins C dx (putF "deaths" (.ref dd) (putF "weights" (.ref dw) (putF "comings" (.ref dc) []))))) dc = some (.dK []) := by rw [upd_ne p1.symm, upd_ne q2]; exact c2
    have w3 : (upd (upd H2 dd (.dK [])) p (.ins C dx (putF "deaths" (.ref dd) (putF "weights" (.ref dw) (putF "comings" (.ref dc) []))))) dw = some (.dK []) := by rw [upd_ne p2.symm, upd_ne q3]; exact w2
    have d3 : (upd (upd H2 dd (.dK [])) p (.ins C dx (putF "deaths" (.ref dd) (putF "weights" (.ref dw) (putF "comings" (.ref dc) []))))) dd = some (.dK []) := by rw [upd_ne p3.symm, upd_same]
    have s3 : ∀ b o, H b = some o → b ≠ p → (upd (upd H2 dd (.dK [])) p (.ins C dx (putF "deaths" (.ref dd) (putF "weights" (.ref dw) (putF "comings" (.ref dc) []))))) b = some o := fun b o e n => by rw [upd_ne n, upd_ne (ne_of_none (s2 b o e n) hdd)]; exact s2 b o e n
    generalize (upd (upd H2 dd (.dK [])) p (.ins C dx (putF "deaths" (.ref dd) (putF "weights" (.ref dw) (putF "comings" (.ref dc) []))))) = H3 at g3 c3 w3 d3 s3 ⊢
    intro dh hdh
    have p4 : p ≠ dh := ne_of_none g3 hdh
    have q4 : dc ≠ dh := ne_of_none c3 hdh
    have q5 : dw ≠ dh := ne_of_none w3 hdh
    have q6 : dd ≠ dh := ne_of_none d3 hdh
    refine ⟨_, rfl, p, C, dx, _, rfl, (by rw [upd_ne p4]; exact g3), Tc.cl, Tc.nh, (by omega), ?_⟩
    refine k ⟨p, dc, dw, dd, dh⟩ _ rfl ⟨⟨dx, upd_same⟩, ⟨[], ?_, Nat.le_refl _, fun n => rfl⟩, ⟨[], ?_, Nat.le_refl _⟩, ⟨[], ?_, Nat.le_refl _, fun n => rfl⟩, ⟨[], ?_, Nat.le_refl _, fun n => rfl⟩, q1, q2, q4, q3, q5, q6⟩ fun b o e n => ?_
    · show (upd (upd H3 dh _) p _) dc = _
      rw [upd_ne p1.symm, upd_ne q4]; exact c3
    · show (upd (upd H3 dh _) p _) dw = _
      rw [upd_ne p2.symm, upd_ne q5]; exact w3
    · show (upd (upd H3 dh _) p _) dd = _
      rw [upd_ne p3.symm, upd_ne q6]; exact d3
    · show (upd (upd H3 dh _) p _) dh = _
      rw [upd_ne p4.symm, upd_same]
    · rw [upd_ne n, upd_ne (ne_of_none (s3 b o e n) hdh)]; exact s3 b o e n
def spChkCome (C : Addr) : Sp := fun vs H Q _ => ∃ (L : FL) (ds : List Deed) (n : Str) (day wt : Int), vs = [.ref L.p, .str n, .int day, .int wt] ∧ FolkAt C H L ds ∧ ds.length < 40 ∧ IsName n ∧ 0 ≤ day ∧ day ≤ 9999 ∧ 1 ≤ wt ∧ wt ≤ 1000 ∧ comOf ds n = none ∧ ∀ H', Same H H' → Q .non H'
abbrev s_Folk_check_coming : Stmt := inClass (top 31) 14
theorem sc_Folk_check_coming : FnScope ["self", "name", "day", "weight"] ["self", "name", "day", "weight"] (defScope s_Folk_check_coming) := ⟨rfl, rfl, rfl, by decide +kernel, rfl, by decide +kernel, by decide +kernel⟩
theorem nm_Folk_check_coming_MOST_FOLK : Nm (defScope s_Folk_check_coming) "MOST_FOLK" .globalImplicit := by decide +kernel
theorem nm_Folk_check_coming_check_day : Nm (defScope s_Folk_check_coming) "check_day" .globalImplicit := by decide +kernel
theorem nm_Folk_check_coming_check_weight : Nm (defScope s_Folk_check_coming) "check_weight" .globalImplicit := by decide +kernel
theorem nm_Folk_check_coming_day : Nm (defScope s_Folk_check_coming) "day" .local := by decide +kernel
theorem nm_Folk_check_coming_is_name : Nm (defScope s_Folk_check_coming) "is_name" .globalImplicit := by decide +kernel
theorem nm_Folk_check_coming_len : Nm (defScope s_Folk_check_coming) "len" .globalImplicit := by decide +kernel
theorem nm_Folk_check_coming_name : Nm (defScope s_Folk_check_coming) "name" .local := by decide +kernel
theorem nm_Folk_check_coming_self : Nm (defScope s_Folk_check_coming) "self" .local := by decide +kernel
theorem nm_Folk_check_coming_weight : Nm (defScope s_Folk_check_coming) "weight" .local := by decide +kernel
theorem f_check_coming (h_Folk_check_coming : HasM K C "check_coming" "Folk.check_coming" s_Folk_check_coming) (T : Txt mg) (Tc : TxC K C) (C0 : ∃ t, mg "MOST_FOLK" = some (.int 40 t)) (F_is_name : Fn P w K mg base "is_name" ["text"] 1 spIsName) (F_check_day : Fn P w K mg base "check_day" ["day"] 1 spDay) (F_check_weight : Fn P w K mg base "check_weight" ["weight"] 1 spWt) :
    Mt P w K mg base C "check_coming" ["self", "name", "day", "weight"] 2 (spChkCome C) := by
  obtain ⟨t0, c_MOST_FOLK⟩ := C0
  have r_MOST_FOLK : RelV (.int 40) (.int 40 t0) := ⟨t0, rfl⟩
  refine h_Folk_check_coming.mtQ sc_Folk_check_coming (fun _ _ _ _ _ _ us hl => match us, hl with | [_, _, _, _], _ => rfl) (fun vs H Q E h => ?_) (fun f cdv A outer s H vs Q E hr h => ?_)
  · obtain ⟨L, ds, n, day, wt, rfl, _⟩ := h
    rfl
  · obtain ⟨L, ds, n, day, wt, rfl, F0, hl, hnm, d0, d1, w0, w1, hc, k⟩ := h
    refine ⟨_, (qss_cons (qs_if (qt_not (qt_val (qe_fnN F_is_name (hr.mono (by omega)) nm_Folk_check_coming_is_name (qa_cons (qvN 1 nm_Folk_check_coming_name) qa_nil)))) (qss_one qs_never) qss_nil)
 (qss_cons (qs_expr (qe_fnN F_check_day (hr.mono (by omega)) nm_Folk_check_coming_check_day (qa_cons (qvN 2 nm_Folk_check_coming_day) qa_nil)))
 (qss_cons (qs_expr (qe_fnN F_check_weight (hr.mono (by omega)) nm_Folk_check_coming_check_weight (qa_cons (qvN 3 nm_Folk_check_coming_weight) qa_nil)))
 (qss_cons (qs_if (qt_cmpR (qop_din hr) (qvN 1 nm_Folk_check_coming_name) (qe_fld (qvN 0 nm_Folk_check_coming_self)) rfl) (qss_one qs_never) qss_nil)
 (qss_one (qs_if (qt_cmpR qop_ge (qe_callBN qcall_lenD nm_Folk_check_coming_len T.len b_len (qa_cons (qe_fld (qvN 0 nm_Folk_check_coming_self)) qa_nil)) (qe_globN nm_Folk_check_coming_MOST_FOLK c_MOST_FOLK r_MOST_FOLK) (nomark _)) (qss_one qs_never) qss_nil)))))), ?_⟩
    refine ⟨_, rfl, n, rfl, by have := hnm.2.2; omega, fun H1 s1 => ⟨_, rfl, ?_⟩⟩
    rw [isNameB_of hnm]
    refine iteF ?_
    have F := F0.keep (Same.n s1)
    obtain ⟨dx, ob⟩ := F.ob
    obtain ⟨kvs, c1, c2, c3⟩ := F.c
    have g := DGet.k (k := Sum.inr n) c1
    rw [c3, hc] at g
    refine ⟨_, rfl, day, rfl, d0, d1, ?_⟩
    refine ⟨_, rfl, wt, rfl, w0, w1, ?_⟩
    refine ⟨_, rfl, _, rfl, L.p, C, dx, _, _, rfl, ob, Tc.cl, Tc.nc, ff_c _ _ _ _, L.dc, _, rfl, g, _, rfl, iteF ?_⟩
    refine ⟨_, rfl, L.p, C, dx, _, _, rfl, ob, Tc.cl, Tc.nc, ff_c _ _ _ _, L.dc, kvs, rfl, c1, _, _, rfl, rfl, _, rfl, iteD (fun z => absurd z (by omega)) (fun _ => ?_)⟩
    exact k H1 s1
def spCome (C : Addr) : Sp := fun vs H Q _ => ∃ (L : FL) (ds : List Deed) (n : Str) (day wt : Int), vs = [.ref L.p, .str n, .int day, .int wt] ∧ FolkAt C H L ds ∧ ds.length < 40 ∧ IsName n ∧ 0 ≤ day ∧ day ≤ 9999 ∧ 1 ≤ wt ∧ wt ≤ 1000 ∧ comOf ds n = none ∧
  ∀ H', FolkAt C H' L (ds ++ [.come n day wt]) → SameLT H H' → Q .non H'
abbrev s_Folk_come : Stmt := inClass (top 31) 1
theorem sc_Folk_come : FnScope ["self", "name", "day", "weight"] ["self", "name", "day", "weight"] (defScope s_Folk_come) := ⟨rfl, rfl, rfl, by decide +kernel, rfl, by decide +kernel, by decide +kernel⟩
theorem nm_Folk_come_day : Nm (defScope s_Folk_come) "day" .local := by decide +kernel
theorem nm_Folk_come_name : Nm (defScope s_Folk_come) "name" .local := by decide +kernel
theorem nm_Folk_come_self : Nm (defScope s_Folk_come) "self" .local := by decide +kernel
theorem nm_Folk_come_weight : Nm (defScope s_Folk_come) "weight" .local := by decide +kernel
theorem f_come (h_Folk_come : HasM K C "come" "Folk.come" s_Folk_come) (Tc : TxC K C) (M_check_coming : Mt P w K mg base C "check_coming" ["self", "name", "day", "weight"] 2 (spChkCome C)) :
    Mt P w K mg base C "come" ["self", "name", "day", "weight"] 3 (spCome C) := by
  refine h_Folk_come.mtQ sc_Folk_come (fun _ _ _ _ _ _ us hl => match us, hl with | [_, _, _, _], _ => rfl) (fun vs H Q E h => ?_) (fun f cdv A outer s H vs Q E hr h => ?_)
  · obtain ⟨L, ds, n, day, wt, rfl, _⟩ := h
    rfl
  · obtain ⟨L, ds, n, day, wt, rfl, F0, hl, hnm, d0, d1, w0, w1, hc, k⟩ := h
    refine ⟨_, (qss_cons (qs_expr (qe_mt (qvN 0 nm_Folk_come_self) Tc.cl M_check_coming (hr.mono (by omega)) (qa_cons (qvN 1 nm_Folk_come_name) (qa_cons (qvN 2 nm_Folk_come_day) (qa_cons (qvN 3 nm_Folk_come_weight) qa_nil)))))
 (qss_cons (qs_dput hr (qe_fld (qvN 0 nm_Folk_come_self)) (qvN 1 nm_Folk_come_name) (qvN 2 nm_Folk_come_day))
 (qss_one (qs_dput hr (qe_fld (qvN 0 nm_Folk_come_self)) (qvN 1 nm_Folk_come_name) (qe_disp1 (qvN 2 nm_Folk_come_day) (qvN 3 nm_Folk_come_weight)))))), ?_⟩
    have hz : (5000 : Nat) ≤ sizeLine := by decide
    obtain ⟨dx0, ob0⟩ := F0.ob
    refine ⟨_, rfl, L.p, dx0, _, rfl, ob0, ff_no _ _ _ _ (by decide +kernel), _, rfl, _, rfl, _, rfl, L, ds, n, day, wt, rfl, F0, hl, hnm, d0, d1, w0, w1, hc, fun H1 s1 => ?_⟩
    have F := F0.keep (Same.n s1)
    obtain ⟨⟨dx, ob⟩, ⟨k1, c1, c2, c3⟩, ⟨k2, w2, w3⟩, ⟨k3, e1, e2, e3⟩, ⟨k4, h1, h2, h3⟩, a1, a2, a3, a4, a5, a6⟩ := F
    have np : L.p ≠ L.dc := fun z => by rw [z, c1] at ob; cases ob
    have np2 : L.p ≠ L.dw := fun z => by rw [z, w2] at ob; cases ob
    refine ⟨_, rfl, _, rfl, L.p, C, dx, _, _, rfl, ob, Tc.cl, Tc.nc, ff_c _ _ _ _, _, rfl, L.dc, _, rfl, DPut.k (k := Sum.inr n) c1 (by omega), ?_⟩
    have T1 := SameLT.updD (kvs' := putK k1 (Sum.inr n) (.int day)) c1
    have g1 : (upd H1 L.dc (.dK (putK k1 (Sum.inr n) (.int day)))) L.p = some (.ins C dx (fflds L.dc L.dw L.dd L.dh)) := by rw [upd_ne np]; exact ob
    have g2 : (upd H1 L.dc (.dK (putK k1 (Sum.inr n) (.int day)))) L.dc = some (.dK (putK k1 (Sum.inr n) (.int day))) := upd_same
    have g3 : (upd H1 L.dc (.dK (putK k1 (Sum.inr n) (.int day)))) L.dw = some (.dK k2) := by rw [upd_ne a1.symm]; exact w2
    have g4 : (upd H1 L.dc (.dK (putK k1 (Sum.inr n) (.int day)))) L.dd = some (.dK k3) := by rw [upd_ne a2.symm]; exact e1
    have g5 : (upd H1 L.dc (.dK (putK k1 (Sum.inr n) (.int day)))) L.dh = some (.dK k4) := by rw [upd_ne a3.symm]; exact h1
    generalize (upd H1 L.dc (.dK (putK k1 (Sum.inr n) (.int day)))) = H2 at T1 g1 g2 g3 g4 g5 ⊢
    intro q hq
    refine ⟨_, rfl, _, rfl, upd_same, [(Sum.inl day, .int wt)], rfl, by show 1 ≤ 15; decide, ?_⟩
    have S3 : Same H2 (upd (upd H2 q (.dK [])) q (.dK (mergeK [] [(Sum.inl day, .int wt)]))) := fun b o e => by rw [upd_ne (ne_of_none e hq), upd_ne (ne_of_none e hq)]; exact e
    generalize (upd (upd H2 q (.dK [])) q (.dK (mergeK [] [(Sum.inl day, .int wt)]))) = H3 at S3 ⊢
    refine ⟨_, rfl, L.p, C, dx, _, _, rfl, S3 _ _ g1, Tc.cl, Tc.nw, ff_w _ _ _ _, _, rfl, L.dw, _, rfl, DPut.k (k := Sum.inr n) (S3 _ _ g3) (by omega), ?_⟩
    have T4 := SameLT.updD (kvs' := putK k2 (Sum.inr n) (.ref q)) (S3 _ _ g3)
    have ll := length_putK k1 (Sum.inr n : Key) (V.int day)
    have ll2 := length_putK k2 (Sum.inr n : Key) (V.ref q)
    have lapp : (ds ++ [Deed.come n day wt]).length = ds.length + 1 := by rw [List.length_append]; rfl
    refine k _ ⟨⟨dx, by rw [upd_ne np2]; exact S3 _ _ g1⟩, ⟨_, by rw [upd_ne a1]; exact S3 _ _ g2, by omega, fun x => ?_⟩, ⟨_, upd_same, by omega⟩, ⟨k3, by rw [upd_ne a4.symm]; exact S3 _ _ g4, by omega, fun x => ?_⟩, ⟨k4, by rw [upd_ne a5.symm]; exact S3 _ _ g5, by omega, fun x => ?_⟩, a1, a2, a3, a4, a5, a6⟩ (((Same.lt s1).trans T1).trans ((Same.lt S3).trans T4))
    · rw [valV_put, comOf_come hc]
      by_cases e : x = n
      · subst e; rw [if_pos rfl, if_pos rfl]; rfl
      · rw [if_neg (fun z => e (Sum.inr.inj z)), if_neg e]; exact c3 x
    · rw [dieOf_come]; exact e3 x
    · rw [dieOf_come]; exact h3 x
def spUntold (C : Addr) : Sp := fun vs H Q _ => ∃ (L : FL) (ds : List Deed) (n : Str), vs = [.ref L.p, .str n] ∧ FolkAt C H L ds ∧ dieOf ds n = none ∧ Q .non H
abbrev s_Folk_check_untold : Stmt := inClass (top 31) 20
theorem sc_Folk_check_untold : FnScope ["self", "name"] ["self", "name"] (defScope s_Folk_check_untold) := ⟨rfl, rfl, rfl, by decide +kernel, rfl, by decide +kernel, by decide +kernel⟩
theorem nm_Folk_check_untold_name : Nm (defScope s_Folk_check_untold) "name" .local := by decide +kernel
theorem nm_Folk_check_untold_self : Nm (defScope s_Folk_check_untold) "self" .local := by decide +kernel
theorem f_check_untold (h_Folk_check_untold : HasM K C "check_untold" "Folk.check_untold" s_Folk_check_untold) (Tc : TxC K C) : Mt P w K mg base C "check_untold" ["self", "name"] 1 (spUntold C) := by
  refine h_Folk_check_untold.mtQ sc_Folk_check_untold (fun _ _ _ _ _ _ us hl => match us, hl with | [_, _], _ => rfl) (fun vs H Q E h => ?_) (fun f cdv A outer s H vs Q E hr h => ?_)
  · obtain ⟨L, ds, n, rfl, _⟩ := h
    rfl
  · obtain ⟨L, ds, n, rfl, F, c5, k⟩ := h
    refine ⟨_, (qss_one (qs_if (qt_cmpR (qop_din hr) (qvN 1 nm_Folk_check_untold_name) (qe_fld (qvN 0 nm_Folk_check_untold_self)) rfl) (qss_one qs_never) qss_nil)), ?_⟩
    obtain ⟨dx, ob⟩ := F.ob
    obtain ⟨kvs, e1, e2, e3⟩ := F.d
    have g := DGet.k (k := Sum.inr n) e1
    rw [e3, c5] at g
    exact ⟨_, rfl, _, rfl, L.p, C, dx, _, _, rfl, ob, Tc.cl, Tc.nd, ff_d _ _ _ _, L.dd, _, rfl, g, _, rfl, iteF k⟩
def spChkDie (C : Addr) : Sp := fun vs H Q _ => ∃ (L : FL) (ds : List Deed) (n hr : Str) (day dn dr : Int), vs = [.ref L.p, .str n, .int day, .str hr] ∧ FolkAt C H L ds ∧ 0 ≤ day ∧ day ≤ 9999 ∧ comOf ds n = some dn ∧ dn ≤ day ∧ comOf ds hr = some dr ∧ dr ≤ day ∧ dieOf ds n = none ∧ dieOf ds hr = none ∧ hr ≠ n ∧ Q .non H
abbrev s_Folk_check_death : Stmt := inClass (top 31) 16
theorem sc_Folk_check_death : FnScope ["self", "name", "day", "heir"] ["self", "name", "day", "heir"] (defScope s_Folk_check_death) := ⟨rfl, rfl, rfl, by decide +kernel, rfl, by decide +kernel, by decide +kernel⟩
theorem nm_Folk_check_death_check_day : Nm (defScope s_Folk_check_death) "check_day" .globalImplicit := by decide +kernel
theorem nm_Folk_check_death_day : Nm (defScope s_Folk_check_death) "day" .local := by decide +kernel
theorem nm_Folk_check_death_heir : Nm (defScope s_Folk_check_death) "heir" .local := by decide +kernel
theorem nm_Folk_check_death_name : Nm (defScope s_Folk_check_death) "name" .local := by decide +kernel
theorem nm_Folk_check_death_self : Nm (defScope s_Folk_check_death) "self" .local := by decide +kernel
theorem f_check_death (h_Folk_check_death : HasM K C "check_death" "Folk.check_death" s_Folk_check_death) (Tc : TxC K C) (F_check_day : Fn P w K mg base "check_day" ["day"] 1 spDay) (M_check_known : Mt P w K mg base C "check_known" ["self", "name"] 1 (spKnown C)) (M_check_there : Mt P w K mg base C "check_there" ["self", "name", "day"] 1 (spThere C)) (M_check_untold : Mt P w K mg base C "check_untold" ["self", "name"] 1 (spUntold C)) :
    Mt P w K mg base C "check_death" ["self", "name", "day", "heir"] 2 (spChkDie C) := by
  refine h_Folk_check_death.mtQ sc_Folk_check_death (fun _ _ _ _ _ _ us hl => match us, hl with | [_, _, _, _], _ => rfl) (fun vs H Q E h => ?_) (fun f cdv A outer s H vs Q E hr h => ?_)
  · obtain ⟨L, ds, n, hr, day, dn, dr, rfl, _⟩ := h
    rfl
  · obtain ⟨L, ds, n, he, day, dn, dr, rfl, F, d0, d1, c1, c2, c3, c4, c5, c6, c7, k⟩ := h
    refine ⟨_, (qss_cons (qs_expr (qe_fnN F_check_day (hr.mono (by omega)) nm_Folk_check_death_check_day (qa_cons (qvN 2 nm_Folk_check_death_day) qa_nil)))
 (qss_cons (qs_expr (qe_mt (qvN 0 nm_Folk_check_death_self) Tc.cl M_check_known (hr.mono (by omega)) (qa_cons (qvN 1 nm_Folk_check_death_name) qa_nil)))
 (qss_cons (qs_expr (qe_mt (qvN 0 nm_Folk_check_death_self) Tc.cl M_check_known (hr.mono (by omega)) (qa_cons (qvN 3 nm_Folk_check_death_heir) qa_nil)))
 (qss_cons (qs_expr (qe_mt (qvN 0 nm_Folk_check_death_self) Tc.cl M_check_there (hr.mono (by omega)) (qa_cons (qvN 1 nm_Folk_check_death_name) (qa_cons (qvN 2 nm_Folk_check_death_day) qa_nil))))
 (qss_cons (qs_expr (qe_mt (qvN 0 nm_Folk_check_death_self) Tc.cl M_check_there (hr.mono (by omega)) (qa_cons (qvN 3 nm_Folk_check_death_heir) (qa_cons (qvN 2 nm_Folk_check_death_day) qa_nil))))
 (qss_cons (qs_expr (qe_mt (qvN 0 nm_Folk_check_death_self) Tc.cl M_check_untold (hr.mono (by omega)) (qa_cons (qvN 1 nm_Folk_check_death_name) qa_nil)))
 (qss_one (qs_if (QW.pt (qw_or (qt_cmpR qop_eq (qvN 3 nm_Folk_check_death_heir) (qvN 1 nm_Folk_check_death_name) (nomark _)) (qw_or1 (qt_cmpR (qop_din hr) (qvN 3 nm_Folk_check_death_heir) (qe_fld (qvN 0 nm_Folk_check_death_self)) rfl)))) (qss_one qs_never) qss_nil)))))))), ?_⟩
    obtain ⟨dx, ob⟩ := F.ob
    obtain ⟨kvs, e1, e2, e3⟩ := F.d
    have g := DGet.k (k := Sum.inr n) e1
    rw [e3, c5] at g
    have g' := DGet.k (k := Sum.inr he) e1
    rw [e3, c6] at g'
    have no : ∀ {m : Str}, notF m → (fflds L.dc L.dw L.dd L.dh).lookup m = none := fun h => ff_no _ _ _ _ h
    refine ⟨_, rfl, day, rfl, d0, d1, ?_⟩
    refine ⟨_, rfl, L.p, dx, _, rfl, ob, no (by decide +kernel), _, rfl, L, ds, n, dn, rfl, F, c1, ?_⟩
    refine ⟨_, rfl, L.p, dx, _, rfl, ob, no (by decide +kernel), _, rfl, L, ds, he, dr, rfl, F, c3, ?_⟩
    refine ⟨_, rfl, L.p, dx, _, rfl, ob, no (by decide +kernel), _, rfl, _, rfl, L, ds, n, dn, day, rfl, F, c1, c2, ?_⟩
    refine ⟨_, rfl, L.p, dx, _, rfl, ob, no (by decide +kernel), _, rfl, _, rfl, L, ds, he, dr, day, rfl, F, c3, c4, ?_⟩
    refine ⟨_, rfl, L.p, dx, _, rfl, ob, no (by decide +kernel), _, rfl, L, ds, n, rfl, F, c5, ?_⟩
    refine ⟨_, rfl, _, rfl, rfl, _, rfl, iteD (fun z => absurd (by injection z) c7) (fun _ => ?_)⟩
    exact ⟨_, rfl, _, rfl, L.p, C, dx, _, _, rfl, ob, Tc.cl, Tc.nd, ff_d _ _ _ _, L.dd, _, rfl, g', _, rfl, iteF k⟩
def spDie (C : Addr) : Sp := fun vs H Q _ => ∃ (L : FL) (ds : List Deed) (n hr : Str) (day dn dr : Int), vs = [.ref L.p, .str n, .int day, .str hr] ∧ FolkAt C H L ds ∧ ds.length ≤ 1000 ∧ 0 ≤ day ∧ day ≤ 9999 ∧ comOf ds n = some dn ∧ dn ≤ day ∧ comOf ds hr = some dr ∧ dr ≤ day ∧ dieOf ds n = none ∧ dieOf ds hr = none ∧ hr ≠ n ∧
  ∀ H', FolkAt C H' L (ds ++ [.die n day hr]) → SameLT H H' → Q .non H'
abbrev s_Folk_die : Stmt := inClass (top 31) 3
theorem sc_Folk_die : FnScope ["self", "name", "day", "heir"] ["self", "name", "day", "heir"] (defScope s_Folk_die) := ⟨rfl, rfl, rfl, by decide +kernel, rfl, by decide +kernel, by decide +kernel⟩
theorem nm_Folk_die_day : Nm (defScope s_Folk_die) "day" .local := by decide +kernel
theorem nm_Folk_die_heir : Nm (defScope s_Folk_die) "heir" .local := by decide +kernel
theorem nm_Folk_die_name : Nm (defScope s_Folk_die) "name" .local := by decide +kernel
theorem nm_Folk_die_self : Nm (defScope s_Folk_die) "self" .local := by decide +kernel
theorem f_die (h_Folk_die : HasM K C "die" "Folk.die" s_Folk_die) (Tc : TxC K C) (M_check_death : Mt P w K mg base C "check_death" ["self", "name", "day", "heir"] 2 (spChkDie C)) :
    Mt P w K mg base C "die" ["self", "name", "day", "heir"] 3 (spDie C) := by
  refine h_Folk_die.mtQ sc_Folk_die (fun _ _ _ _ _ _ us hl => match us, hl with | [_, _, _, _], _ => rfl) (fun vs H Q E h => ?_) (fun f cdv A outer s H vs Q E hr h => ?_)
  · obtain ⟨L, ds, n, hr, day, dn, dr, rfl, _⟩ := h
    rfl
  · obtain ⟨L, ds, n, he, day, dn, dr, rfl, F, hl, d0, d1, b1, b2, b3, b4, b5, b6, b7, k⟩ := h
    refine ⟨_, (qss_cons (qs_expr (qe_mt (qvN 0 nm_Folk_die_self) Tc.cl M_check_death (hr.mono (by omega)) (qa_cons (qvN 1 nm_Folk_die_name) (qa_cons (qvN 2 nm_Folk_die_day) (qa_cons (qvN 3 nm_Folk_die_heir) qa_nil)))))
 (qss_cons (qs_dput hr (qe_fld (qvN 0 nm_Folk_die_self)) (qvN 1 nm_Folk_die_name) (qvN 2 nm_Folk_die_day))
 (qss_one (qs_dput hr (qe_fld (qvN 0 nm_Folk_die_self)) (qvN 1 nm_Folk_die_name) (qvN 3 nm_Folk_die_heir))))), ?_⟩
    have hz : (5000 : Nat) ≤ sizeLine := by decide
    obtain ⟨dx0, ob0⟩ := F.ob
    refine ⟨_, rfl, L.p, dx0, _, rfl, ob0, ff_no _ _ _ _ (by decide +kernel), _, rfl, _, rfl, _, rfl, L, ds, n, he, day, dn, dr, rfl, F, d0, d1, b1, b2, b3, b4, b5, b6, b7, ?_⟩
    obtain ⟨⟨dx, ob⟩, ⟨k1, c1, c2, c3⟩, ⟨k2, w2, w3⟩, ⟨k3, e1, e2, e3⟩, ⟨k4, h1, h2, h3⟩, a1, a2, a3, a4, a5, a6⟩ := F
    have np : L.p ≠ L.dd := fun z => by rw [z, e1] at ob; cases ob
    have np2 : L.p ≠ L.dh := fun z => by rw [z, h1] at ob; cases ob
    refine ⟨_, rfl, _, rfl, L.p, C, dx, _, _, rfl, ob, Tc.cl, Tc.nd, ff_d _ _ _ _, _, rfl, L.dd, _, rfl, DPut.k (k := Sum.inr n) e1 (by omega), ?_⟩
    have T1 := SameLT.updD (kvs' := putK k3 (Sum.inr n) (.int day)) e1
    have g1 : (upd H L.dd (.dK (putK k3 (Sum.inr n) (.int day)))) L.p = some (.ins C dx (fflds L.dc L.dw L.dd L.dh)) := by rw [upd_ne np]; exact ob
    have g2 : (upd H L.dd (.dK (putK k3 (Sum.inr n) (.int day)))) L.dd = some (.dK (putK k3 (Sum.inr n) (.int day))) := upd_same
    have g3 : (upd H L.dd (.dK (putK k3 (Sum.inr n) (.int day)))) L.dw = some (.dK k2) := by rw [upd_ne a4]; exact w2
    have g4 : (upd H L.dd (.dK (putK k3 (Sum.inr n) (.int day)))) L.dc = some (.dK k1) := by rw [upd_ne a2]; exact c1
    have g5 : (upd H L.dd (.dK (putK k3 (Sum.inr n) (.int day)))) L.dh = some (.dK k4) := by rw [upd_ne a6.symm]; exact h1
    generalize (upd H L.dd (.dK (putK k3 (Sum.inr n) (.int day)))) = H2 at T1 g1 g2 g3 g4 g5 ⊢
    refine ⟨_, rfl, _, rfl, L.p, C, dx, _, _, rfl, g1, Tc.cl, Tc.nh, ff_h _ _ _ _, _, rfl, L.dh, _, rfl, DPut.k (k := Sum.inr n) g5 (by omega), ?_⟩
    have T4 := SameLT.updD (kvs' := putK k4 (Sum.inr n) (.str he)) g5
    have ll := length_putK k3 (Sum.inr n : Key) (V.int day)
    have ll2 := length_putK k4 (Sum.inr n : Key) (V.str he)
    have lapp : (ds ++ [Deed.die n day he]).length = ds.length + 1 := by rw [List.length_append]; rfl
    refine k _ ⟨⟨dx, by rw [upd_ne np2]; exact g1⟩, ⟨k1, by rw [upd_ne a3]; exact g4, by omega, fun x => ?_⟩, ⟨k2, by rw [upd_ne a5]; exact g3, by omega⟩, ⟨_, by rw [upd_ne a6]; exact g2, by omega, fun x => ?_⟩, ⟨_, upd_same, by omega, fun x => ?_⟩, a1, a2, a3, a4, a5, a6⟩ (T1.trans T4)
    · rw [comOf_die]; exact c3 x
    · rw [valV_put, dieOf_die b5]
      by_cases e : x = n
      · subst e; rw [if_pos rfl, if_pos rfl]; rfl
      · rw [if_neg (fun z => e (Sum.inr.inj z)), if_neg e]; exact e3 x
    · rw [valV_put, dieOf_die b5]
      by_cases e : x = n
      · subst e; rw [if_pos rfl, if_pos rfl]; rfl
      · rw [if_neg (fun z => e (Sum.inr.inj z)), if_neg e]; exact h3 x
end

section
variable {P : Program} {w : World} {K : PySem.W.Frag} {mg : Str → Option Value} {base : Heap} {C : Addr}
def deedV : Deed → List V
  | .come n d w => [.str "come", .str n, .int d, .int w]
  | .rise n d w => [.str "rise", .str n, .int d, .int w]
  | .die n d h => [.str "die", .str n, .int d, .str h]
/-- the deeds, as a list bears them -/
def DR (H : Hp) : List Deed → List V → Prop
  | [], vs => vs = []
  | x :: r, vs => ∃ a vs', vs = .ref a :: vs' ∧ H a = some (.tup (deedV x)) ∧ DR H r vs'
theorem DR.mono {H H' : Hp} (k : ∀ b xs, H b = some (.tup xs) → H' b = some (.tup xs)) : ∀ {ds : List Deed} {vs : List V}, DR H ds vs → DR H' ds vs
  | [], _, h => h
  | _ :: _, _, ⟨a, vs', e, h1, h2⟩ => ⟨a, vs', e, k _ _ h1, DR.mono k h2⟩
theorem DR.length {H : Hp} : ∀ {ds : List Deed} {vs : List V}, DR H ds vs → vs.length = ds.length
  | [], _, h => by cases h; rfl
  | _ :: _, _, ⟨a, vs', e, h1, h2⟩ => by rw [e, List.length_cons, List.length_cons, DR.length h2]
theorem DR.snoc {H : Hp} {x : Deed} {a : Addr} (hx : H a = some (.tup (deedV x))) : ∀ {ds : List Deed} {vs : List V}, DR H ds vs → DR H (ds ++ [x]) (vs ++ [.ref a])
  | [], vs, h => by cases h; exact ⟨a, [], rfl, hx, rfl⟩
  | y :: ds, vs, ⟨b, vs', e, h1, h2⟩ => by subst e; exact ⟨b, vs' ++ [.ref a], rfl, h1, DR.snoc hx h2⟩
theorem deed_get {H : Hp} : ∀ {ds : List Deed} {vs : List V} {i : Nat} {v : V}, DR H ds vs → vs[i]? = some v → ∃ x a, ds[i]? = some x ∧ v = .ref a ∧ H a = some (.tup (deedV x))
  | [], vs, i, v, h, e => by cases h; simp at e
  | x :: ds, vs, i, v, ⟨a, vs', e1, h1, h2⟩, e => by
    subst e1
    cases i with
    | zero => simp at e; subst e; exact ⟨x, a, rfl, rfl, h1⟩
    | succ i => simp at e; exact deed_get (i := i) h2 e
def DeedsAt (H : Hp) (q : Addr) (ds : List Deed) : Prop := ∃ vs, H q = some (.lst vs) ∧ DR H ds vs
theorem DeedsAt.lt {H H' : Hp} {q : Addr} {ds : List Deed} (h : DeedsAt H q ds) (k : SameLT H H') : DeedsAt H' q ds := let ⟨vs, a, b⟩ := h; ⟨vs, k.1 _ _ a, b.mono k.2⟩
theorem DeedsAt.mono {H H' : Hp} {q : Addr} {ds : List Deed} (h : DeedsAt H q ds) (k : Same H H') : DeedsAt H' q ds := h.lt (Same.lt k)
theorem comOf_take {ds : List Deed} {i : Nat} {x : Deed} (h : ds[i]? = some x) (n : Str) : comOf (ds.take (i + 1)) n = (comOf (ds.take i) n).or (comOf [x] n) := by
  rw [List.take_add_one, h, comOf_app]; rfl
theorem dieOf_take {ds : List Deed} {i : Nat} {x : Deed} (h : ds[i]? = some x) (n : Str) : dieOf (ds.take (i + 1)) n = (dieOf (ds.take i) n).or (dieOf [x] n) := by
  rw [List.take_add_one, h, dieOf_app]; rfl
theorem comOf_more {ds : List Deed} {i : Nat} {n : Str} {d : Int} (h : comOf (ds.take i) n = some d) : comOf ds n = some d := by
  have e := comOf_app (ds.take i) (ds.drop i) n
  rw [List.take_append_drop, h] at e
  exact e
theorem dieOf_more {ds : List Deed} {i : Nat} {n : Str} {x : Int × Str} (h : dieOf (ds.take i) n = some x) : dieOf ds n = some x := by
  have e := dieOf_app (ds.take i) (ds.drop i) n
  rw [List.take_append_drop, h] at e
  exact e
theorem ne_word {a b : Str} (h : a ≠ b) : ¬ (V.str a = V.str b) := fun z => h (by injection z)
def spDeath : Sp := fun vs H Q _ => ∃ (q : Addr) (ds : List Deed) (n : Str), vs = [.ref q, .str n] ∧ DeedsAt H q ds ∧ ((dieOf ds n = none → Q .non H) ∧ ∀ x p H', dieOf ds n = some x → H' p = some (.tup [.int x.1, .str x.2]) → Same H H' → Q (.ref p) H')
abbrev s_law_death : Stmt := top 40
theorem sc__law_death : FnScope ["_law_deeds", "_law_name", "_law_deed"] ["_law_deeds", "_law_name"] (defScope s_law_death) := ⟨rfl, rfl, rfl, by decide +kernel, rfl, by decide +kernel, by decide +kernel⟩
theorem nm__law_death__law_deed : Nm (defScope s_law_death) "_law_deed" .local := by decide +kernel
theorem nm__law_death__law_deeds : Nm (defScope s_law_death) "_law_deeds" .local := by decide +kernel
theorem nm__law_death__law_name : Nm (defScope s_law_death) "_law_name" .local := by decide +kernel
theorem f__law_death (h__law_death : Has K mg "_law_death" s_law_death) (T : Txt mg) : Fn P w K mg base "_law_death" ["_law_deeds", "_law_name"] 1 spDeath := by
  refine h__law_death.fnQ sc__law_death (fun _ _ _ _ _ _ us hl => match us, hl with | [_, _], _ => rfl) (fun vs H Q E h => ?_) (fun f cdv A outer s H vs Q E hr h => ?_)
  · obtain ⟨q, ds, n, rfl, _⟩ := h
    rfl
  · obtain ⟨q, ds, n, rfl, ⟨vs, hq, hrep⟩, k0, k⟩ := h
    refine ⟨_, (qss_cons (qs_for PassesOwn.never rfl (qi_list (qvN 0 nm__law_death__law_deeds)) (qg_nameN (i := 2) sc__law_death.nd nm__law_death__law_deed)
  (qss_one (qs_if (QW.pt (qw_and (qt_cmpR qop_eq (qe_ix qix_tup (qvN 2 nm__law_death__law_deed) qe_int (fun _ _ => rfl)) qe_str (nomark _)) (qw_and1 (qt_cmpR qop_eq (qe_ix qix_tup (qvN 2 nm__law_death__law_deed) qe_int (fun _ _ => rfl)) (qvN 1 nm__law_death__law_name) (nomark _))))) (qss_one (qs_ret (qe_tup (qa_cons (qe_ix qix_tup (qvN 2 nm__law_death__law_deed) qe_int (fun _ _ => rfl)) (qa_cons (qe_ix qix_tup (qvN 2 nm__law_death__law_deed) qe_int (fun _ _ => rfl)) qa_nil))))) qss_nil)))
 (qss_one (qs_ret qe_non))), ?_⟩
    have hz : (5000 : Nat) ≤ sizeLine := by decide
    have hvl : vs.length = ds.length := hrep.length
    refine ⟨_, rfl, q, rfl, ⟨_, SqL.of hq⟩, ?_⟩
    refine forW_list vs (fun i σ H' => ∃ v2, σ = [some (.ref q), some (.str n), v2] ∧ H' = H ∧ dieOf (ds.take i) n = none) ⟨none, rfl, rfl, rfl⟩ (fun i σ H' _ ⟨_, _, e, _⟩ => by rw [e]; exact SqL.of hq) ?_ ?_
    · rintro i v σ H' hv ⟨v2, rfl, rfl, hno⟩
      obtain ⟨x, a, hx, rfl, ha⟩ := deed_get hrep hv
      have et := dieOf_take hx n
      rw [hno] at et
      cases x with
      | die m d' h' =>
        refine ⟨_, rfl, a, _, 0, .str "die", rfl, rfl, SqT.of ha, rfl, rfl, _, rfl, iteD (fun _ => ?_) (fun z => absurd rfl z)⟩
        refine ⟨_, rfl, a, _, 1, .str m, rfl, rfl, SqT.of ha, rfl, _, rfl, rfl, _, rfl, iteD (fun z => ?_) (fun z => ?_)⟩
        · have em : m = n := by injection z
          subst em
          have e2 : dieOf (ds.take (i + 1)) m = some (d', h') := by rw [et, dieOf, if_pos rfl]; rfl
          have e3 := dieOf_more e2
          refine ⟨_, rfl, a, _, 2, .int d', rfl, rfl, SqT.of ha, rfl, _, rfl, a, _, 3, .str h', rfl, rfl, SqT.of ha, rfl, by show 2 ≤ sizeLine; omega, fun p hp => ?_⟩
          exact k (d', h') p _ e3 upd_same (Same.new hp)
        · refine ⟨_, rfl, rfl, ?_⟩
          rw [et, dieOf, if_neg (fun e => z (by rw [e]))]; rfl
      | rise m d' w' =>
        refine ⟨_, rfl, a, _, 0, .str "rise", rfl, rfl, SqT.of ha, rfl, rfl, _, rfl, iteD (fun z => absurd z (ne_word (by decide +kernel))) (fun _ => iteF ?_)⟩
        exact ⟨_, rfl, rfl, by rw [et]; rfl⟩
      | come m d' w' =>
        refine ⟨_, rfl, a, _, 0, .str "come", rfl, rfl, SqT.of ha, rfl, rfl, _, rfl, iteD (fun z => absurd z (ne_word (by decide +kernel))) (fun _ => iteF ?_)⟩
        exact ⟨_, rfl, rfl, by rw [et]; rfl⟩
    · rintro σ H' ⟨v2, rfl, rfl, hno⟩
      rw [hvl, List.take_length] at hno
      exact k0 hno
def spIsDead : Sp := fun vs H Q _ => ∃ (q : Addr) (ds : List Deed) (n : Str) (day : Int), vs = [.ref q, .str n, .int day] ∧ DeedsAt H q ds ∧ ∀ H', Same H H' → Q (.bl (deadOn ds n day)) H'
abbrev s_law_is_dead : Stmt := top 41
theorem sc__law_is_dead : FnScope ["_law_deeds", "_law_name", "_law_day", "_law_death_here"] ["_law_deeds", "_law_name", "_law_day"] (defScope s_law_is_dead) := ⟨rfl, rfl, rfl, by decide +kernel, rfl, by decide +kernel, by decide +kernel⟩
theorem nm__law_is_dead__law_day : Nm (defScope s_law_is_dead) "_law_day" .local := by decide +kernel
theorem nm__law_is_dead__law_death : Nm (defScope s_law_is_dead) "_law_death" .globalImplicit := by decide +kernel
theorem nm__law_is_dead__law_death_here : Nm (defScope s_law_is_dead) "_law_death_here" .local := by decide +kernel
theorem nm__law_is_dead__law_deeds : Nm (defScope s_law_is_dead) "_law_deeds" .local := by decide +kernel
theorem nm__law_is_dead__law_name : Nm (defScope s_law_is_dead) "_law_name" .local := by decide +kernel
theorem f__law_is_dead (h__law_is_dead : Has K mg "_law_is_dead" s_law_is_dead) (T : Txt mg) (F__law_death : Fn P w K mg base "_law_death" ["_law_deeds", "_law_name"] 1 spDeath) : Fn P w K mg base "_law_is_dead" ["_law_deeds", "_law_name", "_law_day"] 2 spIsDead := by
  refine h__law_is_dead.fnQ sc__law_is_dead (fun _ _ _ _ _ _ us hl => match us, hl with | [_, _, _], _ => rfl) (fun vs H Q E h => ?_) (fun f cdv A outer s H vs Q E hr h => ?_)
  · obtain ⟨q, ds, n, day, rfl, _⟩ := h
    rfl
  · obtain ⟨q, ds, n, day, rfl, hq, k⟩ := h
    refine ⟨_, (qss_cons (qs_setN (i := 3) sc__law_is_dead.nd nm__law_is_dead__law_death_here (qe_fnN F__law_death (hr.mono (by omega)) nm__law_is_dead__law_death (qa_cons (qvN 0 nm__law_is_dead__law_deeds) (qa_cons (qvN 1 nm__law_is_dead__law_name) qa_nil))))
 (qss_one (qs_ret (qe_and (qe_cmpR qop_notN (qvN 3 nm__law_is_dead__law_death_here) qe_non (nomark _)) (qe_one (qe_cmpR qop_le (qe_ix qix_tup (qvN 3 nm__law_is_dead__law_death_here) qe_int (fun _ _ => rfl)) (qvN 2 nm__law_is_dead__law_day) (nomark _))))))), ?_⟩
    unfold deadOn at k
    refine ⟨_, rfl, _, rfl, q, ds, n, rfl, hq, fun e => ?_, fun x p H' e hp sm => ?_⟩
    · rw [e] at k
      exact ⟨_, rfl, rfl, _, rfl, iteF (k H fun _ _ z => z)⟩
    · rw [e] at k
      refine ⟨_, rfl, rfl, _, rfl, iteT ?_⟩
      exact ⟨_, rfl, p, _, 0, .int x.1, rfl, rfl, SqT.of hp, rfl, _, rfl, _, _, rfl, rfl, k H' sm⟩
def spHeir : Sp := fun vs H Q _ => ∃ (q : Addr) (ds : List Deed) (n m : Str) (day : Int) (b : Nat), vs = [.ref q, .str n, .int day] ∧ DeedsAt H q ds ∧ Stands ds day b n m ∧ b ≤ 40 ∧ ∀ H', Same H H' → Q (.str m) H'
abbrev s_law_heir : Stmt := top 42
theorem sc__law_heir : FnScope ["_law_deeds", "_law_name", "_law_day", "_law_k"] ["_law_deeds", "_law_name", "_law_day"] (defScope s_law_heir) := ⟨rfl, rfl, rfl, by decide +kernel, rfl, by decide +kernel, by decide +kernel⟩
theorem nm__law_heir__law_day : Nm (defScope s_law_heir) "_law_day" .local := by decide +kernel
theorem nm__law_heir__law_death : Nm (defScope s_law_heir) "_law_death" .globalImplicit := by decide +kernel
theorem nm__law_heir__law_deeds : Nm (defScope s_law_heir) "_law_deeds" .local := by decide +kernel
theorem nm__law_heir__law_is_dead : Nm (defScope s_law_heir) "_law_is_dead" .globalImplicit := by decide +kernel
theorem nm__law_heir__law_k : Nm (defScope s_law_heir) "_law_k" .local := by decide +kernel
theorem nm__law_heir__law_name : Nm (defScope s_law_heir) "_law_name" .local := by decide +kernel
theorem nm__law_heir_range : Nm (defScope s_law_heir) "range" .globalImplicit := by decide +kernel
theorem f__law_heir (h__law_heir : Has K mg "_law_heir" s_law_heir) (T : Txt mg) (F__law_death : Fn P w K mg base "_law_death" ["_law_deeds", "_law_name"] 1 spDeath) (F__law_is_dead : Fn P w K mg base "_law_is_dead" ["_law_deeds", "_law_name", "_law_day"] 2 spIsDead) :
    Fn P w K mg base "_law_heir" ["_law_deeds", "_law_name", "_law_day"] 3 spHeir := by
  refine h__law_heir.fnQ sc__law_heir (fun _ _ _ _ _ _ us hl => match us, hl with | [_, _, _], _ => rfl) (fun vs H Q E h => ?_) (fun f cdv A outer s H vs Q E hr h => ?_)
  · obtain ⟨q, ds, n, m, day, b, rfl, _⟩ := h
    rfl
  · obtain ⟨q, ds, n, m, day, b, rfl, hq, hst, hb, k⟩ := h
    refine ⟨_, (qss_cons (qs_for PassesOwn.never rfl (qi_range1 nm__law_heir_range.1 T.range (qa_cons qe_int qa_nil)) (qg_nameN (i := 3) sc__law_heir.nd nm__law_heir__law_k)
  (qss_cons (qs_if (qt_not (qt_val (qe_fnN F__law_is_dead (hr.mono (by omega)) nm__law_heir__law_is_dead (qa_cons (qvN 0 nm__law_heir__law_deeds) (qa_cons (qvN 1 nm__law_heir__law_name) (qa_cons (qvN 2 nm__law_heir__law_day) qa_nil)))))) (qss_one (qs_ret (qvN 1 nm__law_heir__law_name))) qss_nil)
 (qss_one (qs_setN (i := 1) sc__law_heir.nd nm__law_heir__law_name (qe_ix qix_tup (qe_fnN F__law_death (hr.mono (by omega)) nm__law_heir__law_death (qa_cons (qvN 0 nm__law_heir__law_deeds) (qa_cons (qvN 1 nm__law_heir__law_name) qa_nil))) qe_int (fun _ _ => rfl))))))
 (qss_one (qs_ret (qvN 1 nm__law_heir__law_name)))), ?_⟩
    refine ⟨_, rfl, by decide, by decide, ?_⟩
    refine forW_range 41 (by decide) (fun i σ H' => ∃ x j v3, σ = [some (.ref q), some (.str x), some (.int day), v3] ∧ Same H H' ∧ Stands ds day j x m ∧ i + j ≤ 40) ⟨n, b, none, rfl, fun _ _ e => e, hst, by omega⟩ ?_ ?_
    · rintro i σ H' hi ⟨x, j, v3, rfl, sm, hx, hij⟩
      refine ⟨_, rfl, _, rfl, _, rfl, q, ds, x, day, rfl, hq.mono sm, fun H1 s1 => ⟨_, rfl, ?_⟩⟩
      cases hx with
      | here e =>
        rw [e]
        exact iteT ⟨_, rfl, k H1 (sm.trans s1)⟩
      | step e1 e2 e3 =>
        rename_i y j'
        rw [e2]
        refine iteF ?_
        refine ⟨_, rfl, _, rfl, q, ds, x, rfl, hq.mono (sm.trans s1), (fun e => by rw [e1] at e; cases e), fun y' p H2 e hp s2 => ?_⟩
        rw [e1] at e
        cases e
        exact ⟨p, _, 1, .str y.2, rfl, rfl, SqT.of hp, rfl, y.2, j', _, rfl, (sm.trans s1).trans s2, e3, by omega⟩
    · rintro σ H' ⟨x, j, v3, rfl, sm, hx, hij⟩
      omega
end

section
variable {P : Program} {w : World} {K : PySem.W.Frag} {mg : Str → Option Value} {base : Heap} {C : Addr}
theorem erase_map {α β : Type} (f : α → β) : ∀ (l : List α) (i : Nat), (l.map f).eraseIdx i = (l.eraseIdx i).map f
  | [], _ => rfl
  | _ :: _, 0 => rfl
  | a :: l, i + 1 => by show f a :: (l.map f).eraseIdx i = f a :: (l.eraseIdx i).map f; rw [erase_map f l i]
theorem erase_perm {α : Type} : ∀ {l : List α} {i : Nat} (h : i < l.length), (l[i] :: l.eraseIdx i).Perm l
  | a :: l, 0, _ => List.Perm.refl _
  | a :: l, i + 1, h => by
    have h' : i < l.length := by simpa using h
    exact (List.Perm.swap a l[i] (l.eraseIdx i)).trans (List.Perm.cons a (erase_perm h'))
theorem cut_ints (days : List Int) (lo hi : Option Int) : ∃ ms : List Int, cutV (days.map V.int) lo hi = ms.map V.int ∧ ∀ m ∈ ms, m ∈ days := by
  unfold cutV
  rw [← List.map_drop, ← List.map_take]
  exact ⟨_, rfl, fun m hm => List.mem_of_mem_drop (List.mem_of_mem_take hm)⟩
/-- what the law holds between two of its steps: dF the deeds that the Folk was told, dQ those that the list has -/
structure W22 (C : Addr) (L : FL) (q na s la : Addr) (names : List Str) (H : Hp) (dF dQ : List Deed) : Prop where
  fk : FolkAt C H L dF
  dd : DeedsAt H q dQ
  nm : H na = some (.lst (names.map V.str))
  sr : SrcAt H s la
theorem W22.x {L : FL} {q na s la : Addr} {names : List Str} {H H' : Hp} {dF dQ : List Deed} (W : W22 C L q na s la names H dF dQ) (hq : q ≠ s) (hn : na ≠ s) (k : SameX s H H') (hs : SrcAt H' s la) : W22 C L q na s la names H' dF dQ := by
  obtain ⟨ns, i, b, st, c, h1, _⟩ := id W.sr
  obtain ⟨vs, a, r⟩ := W.dd
  exact ⟨W.fk.keep (SameX.n k h1), ⟨vs, k _ _ hq a, r.mono fun b xs e => k _ _ (fun z => by rw [z, h1] at e; cases e) e⟩, k _ _ hn W.nm, hs⟩
theorem W22.same {L : FL} {q na s la : Addr} {names : List Str} {H H' : Hp} {dF dQ : List Deed} (W : W22 C L q na s la names H dF dQ) (k : Same H H') : W22 C L q na s la names H' dF dQ :=
  ⟨W.fk.keep (Same.n k), W.dd.mono k, k _ _ W.nm, W.sr.keep k⟩
theorem W22.told {L : FL} {q na s la : Addr} {names : List Str} {H H' : Hp} {dF dF' dQ : List Deed} (W : W22 C L q na s la names H dF dQ) (F : FolkAt C H' L dF') (k : SameLT H H') : W22 C L q na s la names H' dF' dQ :=
  ⟨F, W.dd.lt k, k.1 _ _ W.nm, SrcAt.lt W.sr k⟩
/-- a list is changed that is none of these -/
theorem W22.upd {L : FL} {q na s la l : Addr} {names : List Str} {H : Hp} {dF dQ : List Deed} {xs : List V} {o : HO} (W : W22 C L q na s la names H dF dQ) (hl : H l = some (.lst xs)) (n1 : l ≠ q) (n2 : l ≠ na) (n3 : l ≠ s) (n4 : l ≠ la) : W22 C L q na s la names (upd H l o) dF dQ := by
  obtain ⟨vs, a, r⟩ := W.dd
  exact ⟨W.fk.keep (SameN.upd hl), ⟨vs, by rw [upd_ne n1.symm]; exact a, r.mono fun b xs e => by rw [upd_ne (fun z => by rw [z, hl] at e; cases e)]; exact e⟩, by rw [upd_ne n2.symm]; exact W.nm, W.sr.keepX SameX.upd n3 n4⟩
/-- the deed is put down -/
theorem W22.down {L : FL} {q na s la p : Addr} {names : List Str} {H : Hp} {dF dQ : List Deed} {vs : List V} {x : Deed} (W : W22 C L q na s la names H dF dQ) (hq : H q = some (.lst vs)) (hr : DR H dQ vs) (hp : H p = some (.tup (deedV x))) (n2 : q ≠ na) (n3 : q ≠ s) (n4 : q ≠ la) :
    W22 C L q na s la names (L2.upd H q (.lst (vs ++ [.ref p]))) dF (dQ ++ [x]) := by
  have np : p ≠ q := fun z => by rw [z, hq] at hp; cases hp
  have kt : ∀ b xs, H b = some (.tup xs) → (L2.upd H q (.lst (vs ++ [.ref p]))) b = some (.tup xs) := fun b xs e => by rw [upd_ne (fun z => by rw [z, hq] at e; cases e)]; exact e
  exact ⟨W.fk.keep (SameN.upd hq), ⟨_, upd_same, DR.snoc (kt _ _ hp) (hr.mono kt)⟩, by rw [upd_ne n2.symm]; exact W.nm, W.sr.keepX SameX.upd n3 n4⟩
/-- the comings are told of the names alone, on days that are days -/
structure Coms (ds : List Deed) (ns : List Str) : Prop where
  iff : ∀ n, n ∈ ns ↔ ∃ d, comOf ds n = some d
  day : ∀ n d, comOf ds n = some d → 0 ≤ d ∧ d ≤ 9999
/-- heirs go down by rank -/
def Ranked (ds : List Deed) (i : Nat) : Prop := ∃ r : Str → Nat, (∀ n x, dieOf ds n = some x → r x.2 < r n) ∧ (∀ n, dieOf ds n = none → r n = 0) ∧ ∀ n, r n ≤ i
theorem Ranked.die {ds : List Deed} {i : Nat} {n h : Str} {d : Int} (R : Ranked ds i) (hn : dieOf ds n = none) (hh : dieOf ds h = none) (hne : h ≠ n) : Ranked (ds ++ [.die n d h]) (i + 1) := by
  obtain ⟨r, r1, r2, r3⟩ := R
  refine ⟨fun x => if x = n then 1 else match dieOf ds x with | some _ => r x + 1 | none => 0, fun m x hm => ?_, fun m hm => ?_, fun m => ?_⟩
  · rw [dieOf_die hn] at hm
    by_cases e : m = n
    · rw [if_pos e] at hm
      cases hm
      dsimp only
      rw [if_pos e, if_neg hne, hh]
      exact Nat.zero_lt_one
    · rw [if_neg e] at hm
      have h1 := r1 m x hm
      dsimp only
      rw [if_neg e, hm]
      by_cases e2 : x.2 = n
      · rw [if_pos e2]; show 1 < r m + 1; omega
      · rw [if_neg e2]
        cases e3 : dieOf ds x.2 with
        | none => show 0 < r m + 1; omega
        | some y => show r x.2 + 1 < r m + 1; omega
  · rw [dieOf_die hn] at hm
    by_cases e : m = n
    · rw [if_pos e] at hm; cases hm
    · rw [if_neg e] at hm
      dsimp only
      rw [if_neg e, hm]
  · dsimp only
    have h3 := r3 m
    by_cases e : m = n
    · rw [if_pos e]; omega
    · rw [if_neg e]
      cases dieOf ds m with
      | none => show 0 ≤ i + 1; omega
      | some y => show r m + 1 ≤ i + 1; omega
theorem Ranked.stands {ds : List Deed} {i : Nat} (R : Ranked ds i) (hi : i ≤ 40) (n : Str) (day : Int) : ∃ k m, Stands ds day k n m ∧ k ≤ 40 := by
  obtain ⟨r, r1, r2, r3⟩ := R
  obtain ⟨k, m, a, b⟩ := stands_ex r1 day i n (r3 n)
  exact ⟨k, m, a, by omega⟩
theorem Coms.die {ds : List Deed} {ns : List Str} {n h : Str} {d : Int} (K : Coms ds ns) : Coms (ds ++ [.die n d h]) ns :=
  ⟨fun x => by rw [K.iff x]; exact ⟨fun ⟨d, e⟩ => ⟨d, by rw [comOf_die]; exact e⟩, fun ⟨d, e⟩ => ⟨d, by rw [comOf_die] at e; exact e⟩⟩, fun x y e => K.day x y (by rw [comOf_die] at e; exact e)⟩
theorem Coms.come {ds : List Deed} {ns : List Str} {n : Str} {d w : Int} (K : Coms ds ns) (hn : n ∉ ns) (d0 : 0 ≤ d) (d1 : d ≤ 9999) : comOf ds n = none ∧ Coms (ds ++ [.come n d w]) (ns ++ [n]) := by
  have hc : comOf ds n = none := by
    cases e : comOf ds n with
    | none => rfl
    | some y => exact absurd ((K.iff n).mpr ⟨y, e⟩) hn
  refine ⟨hc, fun x => ?_, fun x y e => ?_⟩
  · rw [List.mem_append, List.mem_singleton, K.iff x]
    constructor
    · rintro (⟨y, e⟩ | rfl)
      · by_cases h : x = n
        · subst h; rw [hc] at e; cases e
        · exact ⟨y, by rw [comOf_come hc, if_neg h]; exact e⟩
      · exact ⟨d, by rw [comOf_come hc, if_pos rfl]⟩
    · rintro ⟨y, e⟩
      rw [comOf_come hc] at e
      by_cases h : x = n
      · exact .inr h
      · rw [if_neg h] at e; exact .inl ⟨y, e⟩
  · rw [comOf_come hc] at e
    by_cases h : x = n
    · rw [if_pos h] at e; cases e; exact ⟨d0, d1⟩
    · rw [if_neg h] at e; exact K.day x y e
end

section
variable {P : Program} {w : World} {K : PySem.W.Frag} {mg : Str → Option Value} {base : Heap} {C : Addr}
/-! ### the folk and the entries of the law -/
def FrL (q s : Addr) (H H' : Hp) : Prop := (∀ b xs, b ≠ q → b ≠ s → H b = some (.lst xs) → H' b = some (.lst xs)) ∧ ∀ b xs, H b = some (.tup xs) → H' b = some (.tup xs)
theorem FrL.refl {q s : Addr} {H : Hp} : FrL q s H H := ⟨fun _ _ _ _ e => e, fun _ _ e => e⟩
theorem FrL.trans {q s : Addr} {H H1 H2 : Hp} (a : FrL q s H H1) (b : FrL q s H1 H2) : FrL q s H H2 := ⟨fun c xs n1 n2 e => b.1 c xs n1 n2 (a.1 c xs n1 n2 e), fun c xs e => b.2 c xs (a.2 c xs e)⟩
theorem FrL.same {q s : Addr} {H H1 H2 : Hp} (a : FrL q s H H1) (b : Same H1 H2) : FrL q s H H2 := ⟨fun c xs n1 n2 e => b _ _ (a.1 c xs n1 n2 e), fun c xs e => b _ _ (a.2 c xs e)⟩
theorem FrL.lt {q s : Addr} {H H1 H2 : Hp} (a : FrL q s H H1) (b : SameLT H1 H2) : FrL q s H H2 := ⟨fun c xs n1 n2 e => b.1 _ _ (a.1 c xs n1 n2 e), fun c xs e => b.2 _ _ (a.2 c xs e)⟩
/-- what the law holds, and what it left of the heap that it began with -/
structure V26 (C : Addr) (L : FL) (q na s la : Addr) (names : List Str) (H0 H : Hp) (dF dQ : List Deed) : Prop where
  w : W22 C L q na s la names H dF dQ
  fr : FrL q s H0 H
theorem V26.x {L : FL} {q na s la : Addr} {names : List Str} {H0 H H' : Hp} {dF dQ : List Deed} (W : V26 C L q na s la names H0 H dF dQ) (hq : q ≠ s) (hn : na ≠ s) (k : SameX s H H') (hs : SrcAt H' s la) : V26 C L q na s la names H0 H' dF dQ := by
  obtain ⟨ns, i, b, st, c, h1, _⟩ := id W.w.sr
  exact ⟨W.w.x hq hn k hs, W.fr.trans ⟨fun b xs _ n2 e => k b _ n2 e, fun b xs e => k b _ (fun z => by rw [z, h1] at e; cases e) e⟩⟩
theorem V26.same {L : FL} {q na s la : Addr} {names : List Str} {H0 H H' : Hp} {dF dQ : List Deed} (W : V26 C L q na s la names H0 H dF dQ) (k : Same H H') : V26 C L q na s la names H0 H' dF dQ := ⟨W.w.same k, W.fr.same k⟩
theorem V26.told {L : FL} {q na s la : Addr} {names : List Str} {H0 H H' : Hp} {dF dF' dQ : List Deed} (W : V26 C L q na s la names H0 H dF dQ) (F : FolkAt C H' L dF') (k : SameLT H H') : V26 C L q na s la names H0 H' dF' dQ := ⟨W.w.told F k, W.fr.lt k⟩
theorem V26.upd {L : FL} {q na s la l : Addr} {names : List Str} {H0 H : Hp} {dF dQ : List Deed} {xs : List V} {o : HO} (W : V26 C L q na s la names H0 H dF dQ) (h0 : H0 l = none) (hl : H l = some (.lst xs)) (n1 : l ≠ q) (n2 : l ≠ na) (n3 : l ≠ s) (n4 : l ≠ la) : V26 C L q na s la names H0 (L2.upd H l o) dF dQ :=
  ⟨W.w.upd hl n1 n2 n3 n4, ⟨fun b ys m1 m2 e => by rw [upd_ne (ne_of_none e h0)]; exact W.fr.1 b ys m1 m2 e, fun b ys e => by rw [upd_ne (ne_of_none e h0)]; exact W.fr.2 b ys e⟩⟩
theorem V26.down {L : FL} {q na s la p : Addr} {names : List Str} {H0 H : Hp} {dF dQ : List Deed} {vs : List V} {x : Deed} (W : V26 C L q na s la names H0 H dF dQ) (hq : H q = some (.lst vs)) (hr : DR H dQ vs) (hp : H p = some (.tup (deedV x))) (n2 : q ≠ na) (n3 : q ≠ s) (n4 : q ≠ la) :
    V26 C L q na s la names H0 (L2.upd H q (.lst (vs ++ [.ref p]))) dF (dQ ++ [x]) :=
  ⟨W.w.down hq hr hp n2 n3 n4, W.fr.trans ⟨fun b ys m1 m2 e => by rw [upd_ne m1]; exact e, fun b ys e => by rw [upd_ne (fun z => by rw [z, hq] at e; cases e)]; exact e⟩⟩
structure G26 (ds : List Deed) (names : List Str) (i : Nat) : Prop where
  cm : Coms ds names
  e5 : ∀ n d, comOf ds n = some d → d ≤ 5
  rk : Ranked ds i
  hr : ∀ n x, dieOf ds n = some x → x.2 ∈ names
  dd : ∀ n x, dieOf ds n = some x → x.1 ≤ 25
theorem G26.die {ds : List Deed} {names : List Str} {i : Nat} {n h : Str} {d : Int} (G : G26 ds names i) (hn : dieOf ds n = none) (hh : dieOf ds h = none) (hne : h ≠ n) (hm : h ∈ names) (hd : d ≤ 25) : G26 (ds ++ [.die n d h]) names (i + 1) := by
  refine ⟨G.cm.die, fun m x e => G.e5 m x (by rw [comOf_die] at e; exact e), G.rk.die hn hh hne, fun m x e => ?_, fun m x e => ?_⟩
  · rw [dieOf_die hn] at e
    by_cases c : m = n
    · rw [if_pos c] at e; cases e; exact hm
    · rw [if_neg c] at e; exact G.hr m x e
  · rw [dieOf_die hn] at e
    by_cases c : m = n
    · rw [if_pos c] at e; cases e; exact hd
    · rw [if_neg c] at e; exact G.dd m x e
theorem stands_in {ds : List Deed} {names : List Str} (h : ∀ n x, dieOf ds n = some x → x.2 ∈ names) {day : Int} {k : Nat} {n m : Str} (s : Stands ds day k n m) : n ∈ names → m ∈ names := by
  induction s with
  | here _ => exact id
  | step e _ _ ih => exact fun _ => ih (h _ _ e)
def spFolk (C : Addr) : Sp := fun vs H Q _ => ∃ (L : FL) (s la na : Addr) (names : List Str), vs = [.ref s, .ref na, .ref L.p] ∧ FolkAt C H L [] ∧ SrcAt H s la ∧ H na = some (.lst (names.map V.str)) ∧ na ≠ s ∧ names.Nodup ∧ (∀ n ∈ names, IsName n) ∧ names.length ≤ 8 ∧
  ∀ (q : Addr) (ds : List Deed) (i : Nat) (H' : Hp), q ≠ s → q ≠ na → q ≠ la → V26 C L q na s la names H H' ds ds → G26 ds names i → i ≤ 6 → ds.length ≤ 14 → Q (.ref q) H'
abbrev s_law_folk : Stmt := top 43
theorem sc__law_folk : FnScope ["_law_src_here", "_law_names_here", "_law_folk_here", "_law_deeds", "_law_name", "_law_day", "_law_living", "_law_k", "_law_heir_here"] ["_law_src_here", "_law_names_here", "_law_folk_here"] (defScope s_law_folk) := ⟨rfl, rfl, rfl, by decide +kernel, rfl, by decide +kernel, by decide +kernel⟩
theorem nm__law_folk__law_day : Nm (defScope s_law_folk) "_law_day" .local := by decide +kernel
theorem nm__law_folk__law_deeds : Nm (defScope s_law_folk) "_law_deeds" .local := by decide +kernel
theorem nm__law_folk__law_folk_here : Nm (defScope s_law_folk) "_law_folk_here" .local := by decide +kernel
theorem nm__law_folk__law_heir_here : Nm (defScope s_law_folk) "_law_heir_here" .local := by decide +kernel
theorem nm__law_folk__law_k : Nm (defScope s_law_folk) "_law_k" .local := by decide +kernel
theorem nm__law_folk__law_living : Nm (defScope s_law_folk) "_law_living" .local := by decide +kernel
theorem nm__law_folk__law_name : Nm (defScope s_law_folk) "_law_name" .local := by decide +kernel
theorem nm__law_folk__law_names_here : Nm (defScope s_law_folk) "_law_names_here" .local := by decide +kernel
theorem nm__law_folk__law_next : Nm (defScope s_law_folk) "_law_next" .globalImplicit := by decide +kernel
theorem nm__law_folk__law_src_here : Nm (defScope s_law_folk) "_law_src_here" .local := by decide +kernel
theorem nm__law_folk_len : Nm (defScope s_law_folk) "len" .globalImplicit := by decide +kernel
theorem nm__law_folk_list : Nm (defScope s_law_folk) "list" .globalImplicit := by decide +kernel
theorem nm__law_folk_range : Nm (defScope s_law_folk) "range" .globalImplicit := by decide +kernel
theorem f__law_folk (h__law_folk : Has K mg "_law_folk" s_law_folk) (T : Txt mg) (Tc : TxC K C) (F__law_next : Fn P w K mg base "_law_next" ["_law_src_here", "_law_base"] 1 spNext)
    (M_come : Mt P w K mg base C "come" ["self", "name", "day", "weight"] 3 (spCome C)) (M_die : Mt P w K mg base C "die" ["self", "name", "day", "heir"] 3 (spDie C)) : Fn P w K mg base "_law_folk" ["_law_src_here", "_law_names_here", "_law_folk_here"] 4 (spFolk C) := by
  refine h__law_folk.fnQ sc__law_folk (fun _ _ _ _ _ _ us hl => match us, hl with | [_, _, _], _ => rfl) (fun vs H Q E h => ?_) (fun f cdv A outer s H vs Q E hr h => ?_)
  · obtain ⟨L, s, la, na, names, rfl, _⟩ := h
    rfl
  · obtain ⟨L, s, la, na, names, rfl, F0, hs0, hna, nn1, hnd, hnm, hnl8, k⟩ := h
    refine ⟨_, (qss_cons (qs_setN (i := 3) sc__law_folk.nd nm__law_folk__law_deeds (qe_lst qa_nil))
 (qss_cons (qs_for PassesOwn.never rfl (qi_list (qvN 1 nm__law_folk__law_names_here)) (qg_nameN (i := 4) sc__law_folk.nd nm__law_folk__law_name)
  (qss_cons (qs_setN (i := 5) sc__law_folk.nd nm__law_folk__law_day (qe_fnN F__law_next (hr.mono (by omega)) nm__law_folk__law_next (qa_cons (qvN 0 nm__law_folk__law_src_here) (qa_cons qe_int qa_nil))))
 (qss_cons (qs_expr (qe_mt (qvN 2 nm__law_folk__law_folk_here) Tc.cl M_come (hr.mono (by omega)) (qa_cons (qvN 4 nm__law_folk__law_name) (qa_cons (qvN 5 nm__law_folk__law_day) (qa_cons qe_int qa_nil)))))
 (qss_one (qs_expr (qe_bm F.plainAttrs_list F.slot_list_append F.type_list_append qmt_append (qvN 3 nm__law_folk__law_deeds) (qa_cons (qe_tup (qa_cons qe_str (qa_cons (qvN 4 nm__law_folk__law_name) (qa_cons (qvN 5 nm__law_folk__law_day) (qa_cons qe_int qa_nil))))) qa_nil)))))))
 (qss_cons (qs_setN (i := 6) sc__law_folk.nd nm__law_folk__law_living (qe_callTyN qcall_list_of nm__law_folk_list T.list b_list (qa_cons (qvN 1 nm__law_folk__law_names_here) qa_nil)))
 (qss_cons (qs_for PassesOwn.never rfl (qi_range1 nm__law_folk_range.1 T.range (qa_cons (qe_fnN F__law_next (hr.mono (by omega)) nm__law_folk__law_next (qa_cons (qvN 0 nm__law_folk__law_src_here) (qa_cons qe_int qa_nil))) qa_nil)) (qg_nameN (i := 7) sc__law_folk.nd nm__law_folk__law_k)
  (qss_one (qs_if (qt_cmpR qop_gt (qe_callBN qcall_len_seq nm__law_folk_len T.len b_len (qa_cons (qvN 6 nm__law_folk__law_living) qa_nil)) qe_int (nomark _)) (qss_cons (qs_setN (i := 4) sc__law_folk.nd nm__law_folk__law_name (qe_bm F.plainAttrs_list F.slot_list_pop F.type_list_pop qmt_popAt (qvN 6 nm__law_folk__law_living) (qa_cons (qe_fnN F__law_next (hr.mono (by omega)) nm__law_folk__law_next (qa_cons (qvN 0 nm__law_folk__law_src_here) (qa_cons (qe_callBN qcall_len_seq nm__law_folk_len T.len b_len (qa_cons (qvN 6 nm__law_folk__law_living) qa_nil)) qa_nil))) qa_nil)))
 (qss_cons (qs_setN (i := 8) sc__law_folk.nd nm__law_folk__law_heir_here (qe_ix qix_list (qvN 6 nm__law_folk__law_living) (qe_fnN F__law_next (hr.mono (by omega)) nm__law_folk__law_next (qa_cons (qvN 0 nm__law_folk__law_src_here) (qa_cons (qe_callBN qcall_len_seq nm__law_folk_len T.len b_len (qa_cons (qvN 6 nm__law_folk__law_living) qa_nil)) qa_nil))) (fun _ _ => rfl)))
 (qss_cons (qs_setN (i := 5) sc__law_folk.nd nm__law_folk__law_day (qe_op qop_add qe_int (qe_fnN F__law_next (hr.mono (by omega)) nm__law_folk__law_next (qa_cons (qvN 0 nm__law_folk__law_src_here) (qa_cons qe_int qa_nil)))))
 (qss_cons (qs_expr (qe_mt (qvN 2 nm__law_folk__law_folk_here) Tc.cl M_die (hr.mono (by omega)) (qa_cons (qvN 4 nm__law_folk__law_name) (qa_cons (qvN 5 nm__law_folk__law_day) (qa_cons (qvN 8 nm__law_folk__law_heir_here) qa_nil)))))
 (qss_one (qs_expr (qe_bm F.plainAttrs_list F.slot_list_append F.type_list_append qmt_append (qvN 3 nm__law_folk__law_deeds) (qa_cons (qe_tup (qa_cons qe_str (qa_cons (qvN 4 nm__law_folk__law_name) (qa_cons (qvN 5 nm__law_folk__law_day) (qa_cons (qvN 8 nm__law_folk__law_heir_here) qa_nil))))) qa_nil)))))))) qss_nil)))
 (qss_one (qs_ret (qvN 3 nm__law_folk__law_deeds))))))), ?_⟩
    have hz : (5000 : Nat) ≤ sizeLine := by decide
    refine ⟨by show 0 ≤ sizeLine; omega, fun q hq => ?_⟩
    have S1 := Same.new (o := .lst []) hq
    have k1 : (upd H q (.lst [])) q = some (.lst []) := upd_same
    obtain ⟨nq1, nq2⟩ := hs0.ne hq
    have nqn : q ≠ na := fun z => by rw [z, hna] at hq; cases hq
    have W1 : V26 C L q na s la names H (upd H q (.lst [])) [] [] := ⟨⟨F0.keep (Same.n S1), ⟨[], k1, rfl⟩, S1 _ _ hna, hs0.keep S1⟩, FrL.refl.same S1⟩
    generalize (upd H q (.lst [])) = H1 at S1 k1 W1 ⊢
    refine ⟨_, rfl, na, rfl, ⟨_, SqL.of W1.w.nm⟩, ?_⟩
    refine forW_list (names.map V.str) (fun i σ H' => ∃ (v4 v5 : Option V) (ds : List Deed), σ = [some (.ref s), some (.ref na), some (.ref L.p), some (.ref q), v4, v5, none, none, none] ∧ V26 C L q na s la names H H' ds ds ∧ ds.length = i ∧ Coms ds (names.take i) ∧ (∀ n d, comOf ds n = some d → d ≤ 5) ∧ ∀ n, dieOf ds n = none)
      ⟨none, none, [], rfl, W1, rfl, ⟨fun n => ⟨fun z => by simp at z, fun ⟨d, e⟩ => by cases e⟩, fun n d e => by cases e⟩, (fun n d e => by cases e), fun n => rfl⟩ (fun i σ H' _ ⟨_, _, _, _, W, _⟩ => SqL.of W.w.nm) ?_ ?_
    · rintro i v σ H' hv ⟨v4, v5, ds, rfl, W, hdl, hcom, he5, hdie⟩
      have hi : i < names.length := by have := (List.getElem?_eq_some_iff.mp hv).1; rw [List.length_map] at this; exact this
      obtain ⟨n, hn, rfl⟩ : ∃ a, names[i]? = some a ∧ v = .str a := by
        rw [List.getElem?_map] at hv
        obtain ⟨a, h1, h2⟩ := Option.map_eq_some_iff.mp hv
        exact ⟨a, h1, h2.symm⟩
      have hnin : n ∉ names.take i := fun z => by
        have e0 : (names.take i ++ names.drop i).Nodup := by rw [List.take_append_drop]; exact hnd
        refine (List.nodup_append.mp e0).2.2 n z n ?_ rfl
        rw [List.mem_iff_getElem?]
        exact ⟨0, by rw [List.getElem?_drop, Nat.add_zero]; exact hn⟩
      refine ⟨_, rfl, s, la, 6, rfl, W.w.sr, by decide, by decide, fun d H8 d0 d1 hs8 sx8 => ?_⟩
      have W9 := W.x nq1 nn1 sx8 hs8
      refine gset ?_
      dsimp only
      obtain ⟨hc, hcom'⟩ := hcom.come (w := 1) hnin d0 (show d ≤ 9999 by omega)
      obtain ⟨dy, ob⟩ := W9.w.fk.ob
      refine ⟨_, rfl, L.p, dy, _, rfl, ob, ff_no _ _ _ _ (by decide +kernel), _, rfl, _, rfl, L, ds, n, d, 1, rfl, W9.w.fk, by omega, hnm n (List.mem_of_getElem? hn), d0, by omega, by decide, by decide, hc, fun H10 F10 T10 => ?_⟩
      have W10 := W9.told F10 T10
      obtain ⟨dvs, hq10, hdr10⟩ := W10.w.dd
      have hdvl := hdr10.length
      refine ⟨_, rfl, .inl ⟨rfl, _, SqL.of hq10⟩, _, rfl, _, rfl, by show 4 ≤ sizeLine; omega, fun p hp => ?_⟩
      have S11 := Same.new (o := .tup [.str "come", .str n, .int d, .int 1]) hp
      have k11 : (upd H10 p (.tup [.str "come", .str n, .int d, .int 1])) p = some (.tup (deedV (.come n d 1))) := upd_same
      have W11 := W10.same S11
      generalize (upd H10 p (.tup [.str "come", .str n, .int d, .int 1])) = H11 at S11 k11 W11 ⊢
      refine ⟨q, dvs, .ref p, rfl, rfl, S11 _ _ hq10, by omega, ?_⟩
      refine ⟨_, _, ds ++ [.come n d 1], rfl, W11.down (S11 _ _ hq10) (hdr10.mono fun b xs e => S11 _ _ e) k11 nqn nq1 nq2, by rw [List.length_append, hdl]; rfl, ?_, fun m x e => ?_, fun m => by rw [dieOf_come]; exact hdie m⟩
      · rw [List.take_add_one, hn]
        exact hcom'
      · rw [comOf_come hc] at e
        by_cases c : m = n
        · rw [if_pos c] at e; cases e; omega
        · rw [if_neg c] at e; exact he5 m x e
    · rintro σ H8 ⟨v4, v5, ds, rfl, W8, hdl, hcom, he5, hdie⟩
      rw [List.length_map, List.take_length] at hcom
      rw [List.length_map] at hdl
      refine ⟨_, rfl, na, _, rfl, .inl (SqL.of W8.w.nm), fun lv hlv => ?_⟩
      have S9 := Same.new (o := .lst (names.map V.str)) hlv
      have k9 : (upd H8 lv (.lst (names.map V.str))) lv = some (.lst (names.map V.str)) := upd_same
      have W9 := W8.same S9
      obtain ⟨nl1, nl2⟩ := W8.w.sr.ne hlv
      have nl3 : lv ≠ q := fun z => by obtain ⟨vs, a, _⟩ := W8.w.dd; rw [z, a] at hlv; cases hlv
      have nl4 : lv ≠ na := fun z => by rw [z, W8.w.nm] at hlv; cases hlv
      generalize (upd H8 lv (.lst (names.map V.str))) = H9 at S9 k9 W9 ⊢
      refine gset ?_
      dsimp only
      refine ⟨_, rfl, s, la, 6, rfl, W9.w.sr, by decide, by decide, fun d10 H10 d100 d101 hs10 sx10 => ?_⟩
      have G0 : G26 ds names 0 := ⟨hcom, he5, ⟨fun _ => 0, (fun n x e => by rw [hdie] at e; cases e), fun _ _ => rfl, fun _ => Nat.le_refl _⟩, (fun n x e => by rw [hdie] at e; cases e), (fun n x e => by rw [hdie] at e; cases e)⟩
      -- from here on the heap with the list of the living is the one to go by
      have W10 : V26 C L q na s la names H10 H10 ds ds := ⟨(W9.x nq1 nn1 sx10 hs10).w, FrL.refl⟩
      have fr10 := (W9.x nq1 nn1 sx10 hs10).fr
      have k10 := sx10 lv _ nl1 k9
      refine ⟨_, rfl, by omega, by omega, ?_⟩
      refine forW_range d10.toNat (by omega) (fun i σ H' => ∃ (v4 v5 v7 v8 : Option V) (ds : List Deed) (living : List Str), σ = [some (.ref s), some (.ref na), some (.ref L.p), some (.ref q), v4, v5, some (.ref lv), v7, v8] ∧ W22 C L q na s la names H' ds ds ∧ FrL q s H8 H' ∧ G26 ds names i ∧
          H' lv = some (.lst (living.map V.str)) ∧ living.Nodup ∧ (∀ n ∈ living, n ∈ names ∧ dieOf ds n = none) ∧ living.length ≤ 8 ∧ ds.length ≤ 8 + i)
        ⟨v4, v5, none, none, ds, names, rfl, W10.w, ?_, G0, k10, hnd, fun n hn => ⟨hn, hdie n⟩, hnl8, by omega⟩ ?_ ?_
      · obtain ⟨ns, i, b, st, c, h1, _⟩ := id W9.w.sr
        exact ⟨fun b xs n1 n2 e => sx10 b _ n2 (S9 _ _ e), fun b xs e => sx10 b _ (fun z => by have e2 := S9 _ _ e; rw [z, h1] at e2; cases e2) (S9 _ _ e)⟩
      · rintro i σ H' hi ⟨v4, v5, v7, v8, ds, living, rfl, W0, fr0, G, klv, hlnd, hliv, hlvle, hdsl⟩
        have W : V26 C L q na s la names H8 H' ds ds := ⟨W0, fr0⟩
        refine ⟨_, rfl, lv, _, rfl, .inl (SqL.of klv), _, _, rfl, rfl, _, rfl, iteD (fun h2 => ?_) (fun h2 => ?_)⟩
        · rw [List.length_map] at h2
          have hlv2 : 2 ≤ living.length := by omega
          refine ⟨_, rfl, .inl ⟨rfl, _, SqL.of klv⟩, _, rfl, _, rfl, lv, _, rfl, .inl (SqL.of klv), s, la, _, rfl, W.w.sr, by rw [List.length_map]; omega, by rw [List.length_map]; omega, fun j H1 j0 j1 hs1 sx1 => ?_⟩
          rw [List.length_map] at j1
          obtain ⟨j, rfl⟩ := Int.eq_ofNat_of_zero_le j0
          have hj : j < living.length := by omega
          have W1 := W.x nq1 nn1 sx1 hs1
          have klv1 := sx1 lv _ nl1 klv
          refine ⟨lv, _, _, j, .str living[j], rfl, rfl, klv1, by omega, by omega, seqIndex_of (by omega) (by rw [List.length_map]; omega), by rw [List.getElem?_map, List.getElem?_eq_getElem hj]; rfl, ?_⟩
          have em2 : ((living.map V.str).eraseIdx j) = (living.eraseIdx j).map V.str := erase_map _ _ _
          rw [em2]
          have hperm := erase_perm hj
          have hlnd' : (living[j] :: living.eraseIdx j).Nodup := hperm.symm.nodup hlnd
          have hnj : dieOf ds living[j] = none := (hliv _ (List.getElem_mem hj)).2
          have hnj' : living[j] ∈ names := (hliv _ (List.getElem_mem hj)).1
          have hsub : ∀ n ∈ living.eraseIdx j, n ∈ living := fun n hn => hperm.subset (List.mem_cons_of_mem _ hn)
          have hll : (living.eraseIdx j).length = living.length - 1 := List.length_eraseIdx_of_lt hj
          generalize living[j] = nm at hlnd' hnj hnj' ⊢
          generalize living.eraseIdx j = lft at hlnd' hsub hll ⊢
          rw [List.nodup_cons] at hlnd'
          have W2 := W1.upd (o := .lst (lft.map V.str)) hlv klv1 nl3 nl4 nl1 nl2
          have klv2 : (upd H1 lv (.lst (lft.map V.str))) lv = some (.lst (lft.map V.str)) := upd_same
          generalize (upd H1 lv (.lst (lft.map V.str))) = H2 at W2 klv2 ⊢
          refine ⟨_, rfl, _, rfl, _, rfl, lv, _, rfl, .inl (SqL.of klv2), s, la, _, rfl, W2.w.sr, by rw [List.length_map]; omega, by rw [List.length_map]; omega, fun g H3 g0 g1 hs3 sx3 => ?_⟩
          rw [List.length_map] at g1
          obtain ⟨g, rfl⟩ := Int.eq_ofNat_of_zero_le g0
          have hg : g < lft.length := by omega
          have W3 := W2.x nq1 nn1 sx3 hs3
          have klv3 := sx3 lv _ nl1 klv2
          refine ⟨lv, _, g, .str lft[g], rfl, rfl, SqL.of klv3, atI_nat (by rw [List.getElem?_map, List.getElem?_eq_getElem hg]; rfl), ?_⟩
          have hgm : lft[g] ∈ lft := List.getElem_mem hg
          generalize lft[g] = hh at hgm ⊢
          obtain ⟨hh1, hh2⟩ := hliv hh (hsub hh hgm)
          have hne : hh ≠ nm := fun z => hlnd'.1 (z ▸ hgm)
          obtain ⟨dn, hdn⟩ := (G.cm.iff nm).mp hnj'
          obtain ⟨dr, hdr⟩ := (G.cm.iff hh).mp hh1
          have dn1 := G.e5 _ _ hdn
          have dr1 := G.e5 _ _ hdr
          refine ⟨_, rfl, s, la, 20, rfl, W3.w.sr, by decide, by decide, fun e H4 e0 e1 hs4 sx4 => ?_⟩
          have W4 := W3.x nq1 nn1 sx4 hs4
          have klv4 := sx4 lv _ nl1 klv3
          refine ⟨_, _, rfl, rfl, ?_⟩
          refine gset ?_
          dsimp only
          obtain ⟨day, hday⟩ : ∃ day : Int, day = 6 + e := ⟨_, rfl⟩
          rw [← hday]
          obtain ⟨dy, ob⟩ := W4.w.fk.ob
          refine ⟨_, rfl, L.p, dy, _, rfl, ob, ff_no _ _ _ _ (by decide +kernel), _, rfl, _, rfl, _, rfl, L, ds, nm, hh, day, dn, dr, rfl, W4.w.fk, by omega, by omega, by omega, hdn, by omega, hdr, by omega, hnj, hh2, hne, fun H5 F5 T5 => ?_⟩
          have W5 := W4.told F5 T5
          have klv5 := T5.1 _ _ klv4
          obtain ⟨dvs, hq5, hdr5⟩ := W5.w.dd
          have hdvl := hdr5.length
          refine ⟨_, rfl, .inl ⟨rfl, _, SqL.of hq5⟩, _, rfl, _, rfl, _, rfl, by show 4 ≤ sizeLine; omega, fun p hp => ?_⟩
          have S6 := Same.new (o := .tup [.str "die", .str nm, .int day, .str hh]) hp
          have k6 : (upd H5 p (.tup [.str "die", .str nm, .int day, .str hh])) p = some (.tup (deedV (.die nm day hh))) := upd_same
          have W6 := W5.same S6
          generalize (upd H5 p (.tup [.str "die", .str nm, .int day, .str hh])) = H6' at S6 k6 W6 ⊢
          refine ⟨q, dvs, .ref p, rfl, rfl, S6 _ _ hq5, by omega, ?_⟩
          have W7' := W6.down (S6 _ _ hq5) (hdr5.mono fun b xs e => S6 _ _ e) k6 nqn nq1 nq2
          have klv7 : (upd H6' q (.lst (dvs ++ [.ref p]))) lv = some (.lst (lft.map V.str)) := by rw [upd_ne nl3]; exact S6 _ _ klv5
          refine ⟨_, _, _, _, ds ++ [.die nm day hh], lft, rfl, W7'.w, W7'.fr, G.die hnj hh2 hne hh1 (by omega), klv7, hlnd'.2, fun n hn => ?_, by omega, by rw [List.length_append]; show _ + 1 ≤ _; omega⟩
          obtain ⟨z1, z2⟩ := hliv n (hsub n hn)
          refine ⟨z1, ?_⟩
          rw [dieOf_die hnj, if_neg (fun z : n = nm => hlnd'.1 (z ▸ hn))]
          exact z2
        · refine ⟨_, _, _, _, ds, living, rfl, W0, fr0, ⟨G.cm, G.e5, ?_, G.hr, G.dd⟩, klv, hlnd, hliv, hlvle, by omega⟩
          obtain ⟨r, r1, r2, r3⟩ := G.rk
          exact ⟨r, r1, r2, fun n => Nat.le_succ_of_le (r3 n)⟩
      · rintro σ H' ⟨v4, v5, v7, v8, ds, living, rfl, W0, fr0, G, klv, hlnd, hliv, hlvle, hdsl⟩
        exact ⟨_, rfl, k q ds _ H' nq1 nqn nq2 ⟨W0, W8.fr.trans fr0⟩ G (by omega) (by omega)⟩
end

section
variable {P : Program} {w : World} {K : PySem.W.Frag} {mg : Str → Option Value} {base : Heap} {C : Addr}
def SameT (H H' : Hp) : Prop := ∀ b xs, H b = some (.tup xs) → H' b = some (.tup xs)
theorem upd_tt {l : Addr} {H : Hp} {xs : List V} {o : HO} (hl : H l = some (.lst xs)) : SameT H (upd H l o) := fun b ys e => by
  rw [upd_ne (fun z => by rw [z, hl] at e; cases e)]; exact e
theorem srcT {s la : Addr} {H H' : Hp} (hs : SrcAt H s la) (k : SameX s H H') : SameT H H' := fun b xs e => by
  obtain ⟨ns, i, bg, st, c, h1, _⟩ := hs
  exact k b _ (fun z => by rw [z, h1] at e; cases e) e
end

section
variable {P : Program} {w : World} {K : PySem.W.Frag} {mg : Str → Option Value} {base : Heap} {C : Addr}
/-! ### lists of tuples by what these hold -/
def TR (H : Hp) : List (List V) → List V → Prop
  | [], vs => vs = []
  | x :: r, vs => ∃ a vs', vs = .ref a :: vs' ∧ H a = some (.tup x) ∧ TR H r vs'
theorem TR.mono {H H' : Hp} (k : SameT H H') : ∀ {xs : List (List V)} {vs : List V}, TR H xs vs → TR H' xs vs
  | [], _, h => h
  | _ :: _, _, ⟨a, vs', e, h1, h2⟩ => ⟨a, vs', e, k _ _ h1, TR.mono k h2⟩
theorem TR.length {H : Hp} : ∀ {xs : List (List V)} {vs : List V}, TR H xs vs → vs.length = xs.length
  | [], _, h => by cases h; rfl
  | _ :: _, _, ⟨a, vs', e, h1, h2⟩ => by rw [e, List.length_cons, List.length_cons, TR.length h2]
theorem TR.app {H : Hp} : ∀ {xs ys : List (List V)} {vs us : List V}, TR H xs vs → TR H ys us → TR H (xs ++ ys) (vs ++ us)
  | [], _, _, _, h, g => by cases h; exact g
  | _ :: _, _, _, _, ⟨a, vs', e, h1, h2⟩, g => by subst e; exact ⟨a, _, rfl, h1, TR.app h2 g⟩
theorem TR.snoc {H : Hp} {x : List V} {a : Addr} (hx : H a = some (.tup x)) {xs : List (List V)} {vs : List V} (h : TR H xs vs) : TR H (xs ++ [x]) (vs ++ [.ref a]) := h.app ⟨a, [], rfl, hx, rfl⟩
theorem TR.get {H : Hp} : ∀ {xs : List (List V)} {vs : List V} {i : Nat} {v : V}, TR H xs vs → vs[i]? = some v → ∃ x a, xs[i]? = some x ∧ v = .ref a ∧ H a = some (.tup x)
  | [], vs, i, v, h, e => by cases h; simp at e
  | x :: xs, vs, i, v, ⟨a, vs', e1, h1, h2⟩, e => by
    subst e1
    cases i with
    | zero => simp at e; subst e; exact ⟨x, a, rfl, rfl, h1⟩
    | succ i => simp at e; exact TR.get (i := i) h2 e
theorem TR.split {H : Hp} : ∀ {xs ys : List (List V)} {vs : List V}, TR H (xs ++ ys) vs → ∃ us ws, vs = us ++ ws ∧ TR H xs us ∧ TR H ys ws
  | [], _, vs, h => ⟨[], vs, rfl, rfl, h⟩
  | x :: xs, ys, vs, ⟨a, vs', e, h1, h2⟩ => by
    obtain ⟨us, ws, e2, h3, h4⟩ := TR.split h2
    exact ⟨.ref a :: us, ws, by rw [e, e2]; rfl, ⟨a, us, rfl, h1, h3⟩, h4⟩
theorem TR.last {H : Hp} {xs : List (List V)} {x : List V} {vs : List V} (h : TR H (xs ++ [x]) vs) : ∃ us a, vs = us ++ [.ref a] ∧ TR H xs us ∧ H a = some (.tup x) := by
  obtain ⟨us, ws, e, h1, a, w2, e2, h2, h3⟩ := h.split
  cases h3
  subst e2
  exact ⟨us, a, e, h1, h2⟩
theorem TR.pick {H : Hp} {xs : List (List V)} {vs : List V} (h : TR H xs vs) : ∀ p : List Nat, (∀ i ∈ p, i < xs.length) → TR H (p.map fun i => xs.getD i []) (p.map fun i => vs.getD i .non)
  | [], _ => rfl
  | i :: p, hp => by
    have hi := hp i List.mem_cons_self
    have hl := h.length
    obtain ⟨x, a, e1, e2, e3⟩ := h.get (List.getElem?_eq_getElem (show i < vs.length by omega))
    refine ⟨a, _, ?_, ?_, TR.pick h p fun j hj => hp j (List.mem_cons_of_mem _ hj)⟩
    · show vs.getD i .non :: _ = _
      rw [List.getD_eq_getElem?_getD, List.getElem?_eq_getElem (show i < vs.length by omega), e2]
      rfl
    · show H a = some (.tup (xs.getD i []))
      rw [List.getD_eq_getElem?_getD, e1]; exact e3
theorem atI_last {us : List V} {v : V} : atI (us ++ [v]) (-1) = some v := by
  unfold atI ixN
  have hl : (us ++ [v]).length = us.length + 1 := by rw [List.length_append]; rfl
  rw [hl, if_neg (by omega), if_pos (by omega)]
  show (us ++ [v])[((-1 : Int) + ((us.length + 1 : Nat) : Int)).toNat]? = some v
  rw [show ((-1 : Int) + ((us.length + 1 : Nat) : Int)).toNat = us.length by omega, List.getElem?_append_right (Nat.le_refl _)]
  simp
/-! ### events and steps -/
structure Ev where
  at_ : Int
  g : Option Str
  t : Str
structure Stp where
  at_ : Int
  wd : Str
  g : Option Str
  t : Str
def oV : Option Str → V
  | none => .non
  | some x => .str x
def oD : Option Str → D
  | none => .non
  | some x => .str x
def Ev.wd (e : Ev) : Str := match e.g with
  | none => "won"
  | some _ => "given"
def evV (e : Ev) : List V := [.int e.at_, .str e.wd, oV e.g, .str e.t]
def stV (s : Stp) : List V := [.int s.at_, .str s.wd, oV s.g, .str s.t]
def evD (e : Ev) : D := .tup [.int e.at_, .str e.wd, oD e.g, .str e.t]
def stD (s : Stp) : D := .tup [.int s.at_, .str s.wd, oD s.g, .str s.t]
theorem rep_oD {H : Hp} (o : Option Str) : Rep H (oD o) (oV o) := by cases o <;> rfl
theorem rep_st {H : Hp} {s : Stp} {a : Addr} (h : H a = some (.tup (stV s))) : Rep H (stD s) (.ref a) := ⟨a, _, rfl, h, ⟨_, _, rfl, rfl, ⟨_, _, rfl, rfl, ⟨_, _, rfl, rep_oD _, ⟨_, _, rfl, rfl, rfl⟩⟩⟩⟩⟩
theorem rep_ev {H : Hp} {s : Ev} {a : Addr} (h : H a = some (.tup (evV s))) : Rep H (evD s) (.ref a) := ⟨a, _, rfl, h, ⟨_, _, rfl, rfl, ⟨_, _, rfl, rfl, ⟨_, _, rfl, rep_oD _, ⟨_, _, rfl, rfl, rfl⟩⟩⟩⟩⟩
theorem TR.sts {H : Hp} : ∀ {ss : List Stp} {vs : List V}, TR H (ss.map stV) vs → RepL H (ss.map stD) vs
  | [], _, h => h
  | _ :: _, _, ⟨a, vs', e, h1, h2⟩ => ⟨.ref a, vs', e, rep_st h1, TR.sts h2⟩
theorem TR.evs {H : Hp} : ∀ {ss : List Ev} {vs : List V}, TR H (ss.map evV) vs → RepL H (ss.map evD) vs
  | [], _, h => h
  | _ :: _, _, ⟨a, vs', e, h1, h2⟩ => ⟨.ref a, vs', e, rep_ev h1, TR.evs h2⟩
theorem TR.evGet {H : Hp} {es : List Ev} {vs : List V} {i : Nat} {v : V} (h : TR H (es.map evV) vs) (hv : vs[i]? = some v) : ∃ e a, es[i]? = some e ∧ v = .ref a ∧ H a = some (.tup (evV e)) := by
  obtain ⟨x, a, e1, e2, e3⟩ := h.get hv
  rw [List.getElem?_map] at e1
  obtain ⟨e, h1, h2⟩ := Option.map_eq_some_iff.mp e1
  subst h2
  exact ⟨e, a, h1, e2, e3⟩
/-! ### what is left on -/
def leftS (s : Stp) (x : Int × Str) : Stp := ⟨if s.at_ > x.1 then s.at_ else x.1, "left", some s.t, x.2⟩
def lvF (ds : List Deed) (day : Int) : Nat → Stp → List Stp
  | 0, _ => []
  | n + 1, s => match dieOf ds s.t with
    | some x => if x.1 ≤ day then leftS s x :: lvF ds day n (leftS s x) else []
    | none => []
inductive Lv (ds : List Deed) (day : Int) : Nat → Stp → List Stp → Prop where
  | here {s : Stp} : deadOn ds s.t day = false → Lv ds day 0 s []
  | step {s : Stp} {x : Int × Str} {k : Nat} {l : List Stp} : dieOf ds s.t = some x → deadOn ds s.t day = true → Lv ds day k (leftS s x) l → Lv ds day (k + 1) s (leftS s x :: l)
theorem Lv.len {ds : List Deed} {day : Int} {k : Nat} {s : Stp} {l : List Stp} (h : Lv ds day k s l) : l.length = k := by
  induction h with
  | here _ => rfl
  | step _ _ _ ih => rw [List.length_cons, ih]
theorem Lv.fn {ds : List Deed} {day : Int} {k : Nat} {s : Stp} {l : List Stp} (h : Lv ds day k s l) : ∀ n, k ≤ n → lvF ds day n s = l := by
  induction h with
  | @here s e =>
    intro n _
    cases n with
    | zero => rfl
    | succ n =>
      rw [lvF]
      unfold deadOn at e
      cases e2 : dieOf ds s.t with
      | none => rfl
      | some x => rw [e2] at e; dsimp only at e ⊢; rw [if_neg (of_decide_eq_false e)]
  | @step s x k l e1 e2 _ ih =>
    intro n hn
    cases n with
    | zero => omega
    | succ n =>
      rw [lvF, e1]
      unfold deadOn at e2
      rw [e1] at e2
      dsimp only at e2 ⊢
      rw [if_pos (of_decide_eq_true e2), ih n (by omega)]
theorem lv_ex {ds : List Deed} {day : Int} {k : Nat} {n m : Str} (h : Stands ds day k n m) : ∀ s : Stp, s.t = n → ∃ l, Lv ds day k s l := by
  induction h with
  | here e => intro s hs; subst hs; exact ⟨[], .here e⟩
  | step e1 e2 _ ih => intro s hs; subst hs; obtain ⟨l, hl⟩ := ih (leftS s _) rfl; exact ⟨_, .step e1 e2 hl⟩
/-- heirs' lines end -/
def Ends' (ds : List Deed) : Prop := ∀ (n : Str) (day : Int), ∃ k m, Stands ds day k n m ∧ k ≤ 40
def lv (ds : List Deed) (day : Int) (s : Stp) : List Stp := lvF ds day 40 s
theorem Ends'.lv {ds : List Deed} (h : Ends' ds) (day : Int) (s : Stp) : ∃ k, Lv ds day k s (lv ds day s) ∧ k ≤ 40 := by
  obtain ⟨k, m, a, b⟩ := h s.t day
  obtain ⟨l, hl⟩ := lv_ex a s rfl
  exact ⟨k, by unfold Law.lv; rw [hl.fn 40 b]; exact hl, b⟩
theorem lv_days {ds : List Deed} {d1 d2 : Int} (h : ∀ n x, dieOf ds n = some x → (x.1 ≤ d1 ↔ x.1 ≤ d2)) (s : Stp) : lv ds d1 s = lv ds d2 s := by
  have go : ∀ (n : Nat) (s : Stp), lvF ds d1 n s = lvF ds d2 n s := by
    intro n
    induction n with
    | zero => intro s; rfl
    | succ n ih =>
      intro s
      rw [lvF, lvF]
      cases e : dieOf ds s.t with
      | none => rfl
      | some x =>
        dsimp only
        by_cases c : x.1 ≤ d1
        · rw [if_pos c, if_pos ((h _ _ e).mp c), ih]
        · rw [if_neg c, if_neg (fun z => c ((h _ _ e).mpr z))]
  exact go 40 s
/-! ### the road -/
def s00 : Stp := ⟨0, ⟨#[]⟩, none, ⟨#[]⟩⟩
def lastS (st : List Stp) : Stp := st.getLastD s00
theorem lastS_snoc (st : List Stp) (s : Stp) : lastS (st ++ [s]) = s := by unfold lastS; simp
theorem lastS_ne {st : List Stp} (h : st ≠ []) : ∃ ss, st = ss ++ [lastS st] := ⟨st.dropLast, by
  unfold lastS
  rw [List.getLastD_eq_getLast?, List.getLast?_eq_some_getLast h]
  exact (List.dropLast_concat_getLast h).symm⟩
/-- an event that passes the thing on -/
def passS (st : List Stp) (e : Ev) : List Stp := if e.g = none ∨ e.g = some (lastS st).t then st ++ [⟨e.at_, e.wd, some (lastS st).t, e.t⟩] else st
def leave (ds : List Deed) (day : Int) (st : List Stp) : List Stp := st ++ lv ds day (lastS st)
def stepS (ds : List Deed) (st : List Stp) (e : Ev) : List Stp := passS (leave ds e.at_ st) e
theorem leave_ne {ds : List Deed} {day : Int} {st : List Stp} (h : st ≠ []) : leave ds day st ≠ [] := by unfold leave; simp [h]
theorem passS_ne {st : List Stp} {e : Ev} (h : st ≠ []) : passS st e ≠ [] := by unfold passS; split <;> simp [h]
theorem stepS_ne {ds : List Deed} {st : List Stp} {e : Ev} (h : st ≠ []) : stepS ds st e ≠ [] := passS_ne (leave_ne h)
theorem fold_ne {ds : List Deed} : ∀ {es : List Ev} {st : List Stp}, st ≠ [] → es.foldl (stepS ds) st ≠ []
  | [], _, h => h
  | _ :: r, _, h => fold_ne (es := r) (stepS_ne h)
theorem lv_len {ds : List Deed} (E : Ends' ds) (day : Int) (s : Stp) : (lv ds day s).length ≤ 40 := by
  obtain ⟨k, h, hk⟩ := E.lv day s
  rw [h.len]; exact hk
theorem leave_len {ds : List Deed} (E : Ends' ds) (day : Int) (st : List Stp) : (leave ds day st).length ≤ st.length + 40 := by
  unfold leave
  rw [List.length_append]
  have := lv_len E day (lastS st)
  omega
theorem passS_len (st : List Stp) (e : Ev) : (passS st e).length ≤ st.length + 1 := by
  unfold passS
  split
  · rw [List.length_append]; exact Nat.le_refl _
  · omega
theorem stepS_len {ds : List Deed} (E : Ends' ds) (st : List Stp) (e : Ev) : (stepS ds st e).length ≤ st.length + 41 := by
  have := leave_len E e.at_ st
  have := passS_len (leave ds e.at_ st) e
  unfold stepS
  omega
theorem fold_len {ds : List Deed} (E : Ends' ds) : ∀ (es : List Ev) (st : List Stp), (es.foldl (stepS ds) st).length ≤ st.length + 41 * es.length
  | [], st => by simp
  | e :: r, st => by
    have h1 := fold_len E r (stepS ds st e)
    have h2 := stepS_len E st e
    rw [List.foldl_cons, List.length_cons]
    omega
/-- the events of n days from lo on, day by day -/
def byD (lo : Int) (n : Nat) (es : List Ev) : List Ev := (List.range n).flatMap fun (i : Nat) => es.filter fun e => decide (e.at_ = lo + i)
theorem byD_succ {lo : Int} {n : Nat} {es : List Ev} : byD lo (n + 1) es = byD lo n es ++ es.filter fun e => decide (e.at_ = lo + n) := by
  unfold byD
  rw [List.range_succ, List.flatMap_append]
  simp
def road0 (n : Str) (d0 : Int) : Stp := ⟨d0, "brought", none, n⟩
def roadM (ds : List Deed) (n : Str) (d0 : Int) (es : List Ev) (day : Int) : List Stp :=
  if day < d0 then [] else leave ds day ((byD d0 (day + 1 - d0).toNat es).foldl (stepS ds) [road0 n d0])
/-! a stable sort by the day is the walk day by day -/
theorem pick_all {α : Type} (l : List α) (d : α) : (List.range l.length).map (fun i => l.getD i d) = l := by
  apply List.ext_getElem
  · simp
  · intro i h1 h2
    simp [h2]
theorem pick_filter {α : Type} (l : List α) (d : α) (f : α → Bool) : ((List.range l.length).filter fun i => f (l.getD i d)).map (fun i => l.getD i d) = l.filter f := by
  have e : l.filter f = ((List.range l.length).map fun i => l.getD i d).filter f := by rw [pick_all]
  rw [e, List.filter_map]
  rfl
theorem stable_days {es : List Ev} {e0 : Ev} {lo : Int} {n : Nat} {p : List Nat} (hp : p.Perm (List.range es.length)) (hs : p.Pairwise (LKb false (es.map (·.at_)))) (hd : ∀ e ∈ es, lo ≤ e.at_ ∧ e.at_ < lo + n) : (p.map fun i => es.getD i e0) = byD lo n es := by
  have key : ∀ i, i < es.length → kI (es.map (·.at_)) i = (es.getD i e0).at_ := fun i hi => by
    unfold kI
    rw [List.getD_eq_getElem?_getD, List.getD_eq_getElem?_getD, List.getElem?_map, List.getElem?_eq_getElem hi]
    rfl
  have q : p = (List.range n).flatMap fun (i : Nat) => (List.range es.length).filter fun j => decide ((es.getD j e0).at_ = lo + i) := by
    have memq : ∀ j, j ∈ ((List.range n).flatMap fun (i : Nat) => (List.range es.length).filter fun j => decide ((es.getD j e0).at_ = lo + i)) ↔ j < es.length := fun j => by
      rw [List.mem_flatMap]
      constructor
      · rintro ⟨i, _, h⟩
        exact List.mem_range.mp (List.mem_filter.mp h).1
      · intro h
        have hm : es.getD j e0 ∈ es := by rw [List.getD_eq_getElem?_getD, List.getElem?_eq_getElem h]; exact List.getElem_mem h
        obtain ⟨a, b⟩ := hd _ hm
        refine ⟨((es.getD j e0).at_ - lo).toNat, List.mem_range.mpr (by omega), List.mem_filter.mpr ⟨List.mem_range.mpr h, decide_eq_true (by omega)⟩⟩
    have pwq : ((List.range n).flatMap fun (i : Nat) => (List.range es.length).filter fun j => decide ((es.getD j e0).at_ = lo + i)).Pairwise (LKb false (es.map (·.at_))) := by
      have mem : ∀ {i j : Nat}, j ∈ ((List.range es.length).filter fun j => decide ((es.getD j e0).at_ = lo + i)) → j < es.length ∧ (es.getD j e0).at_ = lo + i := fun {i j} h =>
        ⟨List.mem_range.mp (List.mem_filter.mp h).1, of_decide_eq_true (List.mem_filter.mp h).2⟩
      rw [List.pairwise_flatMap]
      refine ⟨fun i _ => ?_, ?_⟩
      · refine List.Pairwise.imp_of_mem ?_ (List.Pairwise.filter _ List.pairwise_lt_range)
        intro a b ha hb hab
        obtain ⟨a1, a2⟩ := mem ha
        obtain ⟨b1, b2⟩ := mem hb
        exact .inr ⟨by rw [key a a1, key b b1, a2, b2], hab⟩
      · refine List.Pairwise.imp ?_ List.pairwise_lt_range
        intro i1 i2 h12 a ha b hb
        obtain ⟨a1, a2⟩ := mem ha
        obtain ⟨b1, b2⟩ := mem hb
        refine .inl ?_
        rw [if_neg Bool.false_ne_true, key a a1, key b b1, a2, b2]
        omega
    have irr : ∀ a b, LKb false (es.map (·.at_)) a b → LKb false (es.map (·.at_)) b a → a = b := fun a b h g => by
      unfold LKb at h g
      rw [if_neg Bool.false_ne_true] at h g
      omega
    have ndq : ((List.range n).flatMap fun (i : Nat) => (List.range es.length).filter fun j => decide ((es.getD j e0).at_ = lo + i)).Nodup := pwq.imp fun {a b} h z => by
      subst z
      unfold LKb at h
      rw [if_neg Bool.false_ne_true] at h
      omega
    have ndp : p.Nodup := hp.symm.nodup List.nodup_range
    refine List.Perm.eq_of_pairwise (fun a b _ _ => irr a b) hs pwq ((List.perm_ext_iff_of_nodup ndp ndq).mpr fun j => ?_)
    rw [memq, hp.mem_iff, List.mem_range]
  rw [q, List.map_flatMap]
  unfold byD
  congr 1
  funext i
  exact pick_filter es e0 fun e => decide (e.at_ = lo + i)
theorem byD_late {lo hi : Int} {n : Nat} {es : List Ev} (h : lo + n ≤ hi + 1) : byD lo n (es.filter fun e => decide (e.at_ ≤ hi)) = byD lo n es := by
  unfold byD
  have : ∀ i ∈ List.range n, (es.filter fun e => decide (e.at_ ≤ hi)).filter (fun e => decide (e.at_ = lo + i)) = es.filter fun e => decide (e.at_ = lo + i) := fun i hi' => by
    rw [List.filter_filter]
    refine List.filter_congr fun e _ => ?_
    have := List.mem_range.mp hi'
    by_cases c : e.at_ = lo + i
    · rw [decide_eq_true c, decide_eq_true (by omega)]; rfl
    · rw [decide_eq_false c]; rfl
  rw [List.flatMap_def, List.flatMap_def, List.map_congr_left this]
/-- beyond the last event and the last death nothing changes -/
theorem roadM_far {ds : List Deed} {n : Str} {d0 d1 d2 : Int} {es : List Ev} (h1 : d0 ≤ d1) (h12 : d1 ≤ d2) (he : ∀ e ∈ es, e.at_ ≤ d1) (hd : ∀ n x, dieOf ds n = some x → x.1 ≤ d1) : roadM ds n d0 es d2 = roadM ds n d0 es d1 := by
  unfold roadM
  rw [if_neg (by omega), if_neg (by omega)]
  have e1 : byD d0 (d2 + 1 - d0).toNat es = byD d0 (d1 + 1 - d0).toNat es := by
    have go : ∀ m : Nat, byD d0 ((d1 + 1 - d0).toNat + m) es = byD d0 (d1 + 1 - d0).toNat es := by
      intro m
      induction m with
      | zero => rfl
      | succ m ih =>
        rw [← Nat.add_assoc, byD_succ, ih]
        have : (es.filter fun e => decide (e.at_ = d0 + (((d1 + 1 - d0).toNat + m : Nat) : Int))) = [] := by
          rw [List.filter_eq_nil_iff]
          intro e hm z
          have := he e hm
          have := of_decide_eq_true z
          omega
        rw [this, List.append_nil]
    have := go ((d2 + 1 - d0).toNat - (d1 + 1 - d0).toNat)
    rw [show (d1 + 1 - d0).toNat + ((d2 + 1 - d0).toNat - (d1 + 1 - d0).toNat) = (d2 + 1 - d0).toNat by omega] at this
    exact this
  rw [e1]
  unfold leave
  rw [lv_days (d1 := d2) (d2 := d1) fun n x e => by have := hd n x e; constructor <;> intro <;> omega]
/-! ### the program's own walk -/
abbrev dayNm : Str := "by_day" ++ ".<locals>." ++ "<lambda>"
def spByDay (T : Addr) : Sp := fun vs H Q _ => ∃ (q : Addr) (us : List V) (es : List Ev), vs = [.ref q] ∧ H q = some (.lst us) ∧ TR H (es.map evV) us ∧ es.length < 64 ∧ IsTab H T dayNm ∧
  ∀ (l : Addr) (us' : List V) (p : List Nat) (H' : Hp), H l = none → H' l = some (.lst us') → TR H' ((p.map fun i => es.getD i ⟨0, none, ⟨#[]⟩⟩).map evV) us' → p.Perm (List.range es.length) → p.Pairwise (LKb false (es.map (·.at_))) → Same H H' → Q (.ref l) H'
abbrev s_by_day : Stmt := top 8
theorem sc_by_day : FnScope ["events"] ["events"] (defScope s_by_day) := ⟨rfl, rfl, rfl, by decide +kernel, rfl, by decide +kernel, by decide +kernel⟩
theorem nm_by_day_events : Nm (defScope s_by_day) "events" .local := by decide +kernel
theorem nm_by_day_sorted : Nm (defScope s_by_day) "sorted" .globalImplicit := by decide +kernel
theorem f_by_day {c T : Addr} (h_by_day : HasL K mg "by_day" s_by_day c) (B_by_day : LamB K mg c T) (kb : K.In base) (T0 : Txt mg) (C0 : ∃ t, mg "DAY" = some (.int 0 t)) : Fn P w K mg base "by_day" ["events"] 4 (spByDay T) := by
  obtain ⟨t0, c_DAY⟩ := C0
  have r_DAY : RelV (.int 0) (.int 0 t0) := ⟨t0, rfl⟩
  refine h_by_day.fnQ B_by_day kb sc_by_day (fun _ _ _ _ _ _ us hl => match us, hl with | [_], _ => rfl) (fun vs H Q E h => ?_) (fun f A outer s H vs Q E hr hL h => ?_)
  · obtain ⟨q, us, es, rfl, _⟩ := h
    rfl
  · obtain ⟨q, us, es, rfl, hq, hr', h64, hT, k⟩ := h
    have T := T0
    refine ⟨_, (qss_one (qs_ret (qe_sortedKey (x := "event") hL hT hr (by omega) nm_by_day_sorted T.sorted (qa_cons (qvN 0 nm_by_day_events) qa_nil) ⟨closure_nil (by decide +kernel), rfl, ⟨rfl, rfl, rfl, by decide +kernel, rfl, by decide +kernel, by decide +kernel⟩, fun _ _ _ _ => rfl, fun _ _ _ _ _ => (qe_ix qix_tupL (qvLm) (qe_globLm c_DAY r_DAY) (fun _ _ => rfl))⟩))), ?_⟩
    have hl := hr'.length
    rw [List.length_map] at hl
    refine ⟨_, rfl, q, us, es.map (·.at_), rfl, SqL.of hq, by omega, by rw [List.length_map]; omega, fun i x kk hx hk H2 t2 => ?_, fun l p H' sm hln hp hpw => ?_⟩
    · obtain ⟨e, a, he, rfl, ha⟩ := hr'.evGet hx
      rw [List.getElem?_map, he] at hk
      cases hk
      exact ⟨_, rfl, a, _, 0, .int e.at_, rfl, rfl, SqT.of (t2 _ _ ha), rfl, rfl, rfl⟩
    · have S1 := sm.trans (Same.new (o := .lst (p.map fun i => us.getD i .non)) hln)
      rw [hl] at hp
      refine k l _ p _ (sm.free hln) upd_same ?_ hp hpw S1
      have hm : ∀ i ∈ p, i < (es.map evV).length := fun i hi => by rw [List.length_map]; exact List.mem_range.mp (hp.mem_iff.mp hi)
      have := (hr'.mono (fun b xs e => S1 _ _ e)).pick p hm
      rw [List.map_map]
      have e2 : (p.map fun i => (es.map evV).getD i []) = p.map (evV ∘ fun i => es.getD i ⟨0, none, ⟨#[]⟩⟩) := List.map_congr_left fun i hi => by
        have := hm i hi
        rw [List.length_map] at this
        show (es.map evV).getD i [] = evV (es.getD i _)
        rw [List.getD_eq_getElem?_getD, List.getD_eq_getElem?_getD, List.getElem?_map, List.getElem?_eq_getElem this]
        rfl
      rw [e2] at this
      exact this
def spLeave (C : Addr) : Sp := fun vs H Q _ => ∃ (L : FL) (ds : List Deed) (q : Addr) (us : List V) (st : List Stp) (day : Int), vs = [.ref q, .ref L.p, .int day] ∧ FolkAt C H L ds ∧ H q = some (.lst us) ∧ TR H (st.map stV) us ∧ st ≠ [] ∧ Ends' ds ∧ st.length ≤ 4000 ∧
  ∀ (us' : List V) (H' : Hp), H' q = some (.lst us') → TR H' ((leave ds day st).map stV) us' → SameX q H H' → Q .non H'
abbrev s_leave_on : Stmt := top 9
theorem sc_leave_on : FnScope ["steps", "folk", "day", "dead_one", "left_day"] ["steps", "folk", "day"] (defScope s_leave_on) := ⟨rfl, rfl, rfl, by decide +kernel, rfl, by decide +kernel, by decide +kernel⟩
theorem nm_leave_on_DAY : Nm (defScope s_leave_on) "DAY" .globalImplicit := by decide +kernel
theorem nm_leave_on_TAKER : Nm (defScope s_leave_on) "TAKER" .globalImplicit := by decide +kernel
theorem nm_leave_on_day : Nm (defScope s_leave_on) "day" .local := by decide +kernel
theorem nm_leave_on_dead_one : Nm (defScope s_leave_on) "dead_one" .local := by decide +kernel
theorem nm_leave_on_folk : Nm (defScope s_leave_on) "folk" .local := by decide +kernel
theorem nm_leave_on_left_day : Nm (defScope s_leave_on) "left_day" .local := by decide +kernel
theorem nm_leave_on_max : Nm (defScope s_leave_on) "max" .globalImplicit := by decide +kernel
theorem nm_leave_on_steps : Nm (defScope s_leave_on) "steps" .local := by decide +kernel
theorem f_leave_on (h_leave_on : Has K mg "leave_on" s_leave_on) (T : Txt mg) (Tc : TxC K C) (C0 : ∃ t, mg "DAY" = some (.int 0 t)) (C1 : ∃ t, mg "TAKER" = some (.int 3 t)) (M_died_by : Mt P w K mg base C "died_by" ["self", "name", "day"] 1 (spDiedBy C)) (M_death_day : Mt P w K mg base C "death_day" ["self", "name"] 1 (spDDay C)) (M_heir_of : Mt P w K mg base C "heir_of" ["self", "name"] 1 (spHeirOf C)) :
    Fn P w K mg base "leave_on" ["steps", "folk", "day"] 2 (spLeave C) := by
  obtain ⟨t0, c_DAY⟩ := C0
  have r_DAY : RelV (.int 0) (.int 0 t0) := ⟨t0, rfl⟩
  obtain ⟨t1, c_TAKER⟩ := C1
  have r_TAKER : RelV (.int 3) (.int 3 t1) := ⟨t1, rfl⟩
  refine h_leave_on.fnQ sc_leave_on (fun _ _ _ _ _ _ us hl => match us, hl with | [_, _, _], _ => rfl) (fun vs H Q E h => ?_) (fun f cdv A outer s H vs Q E hr h => ?_)
  · obtain ⟨L, ds, q, us, st, day, rfl, _⟩ := h
    rfl
  · obtain ⟨L, ds, q, us, st, day, rfl, F0, hq, htr, hne, hE, hlen, k⟩ := h
    refine ⟨_, (qss_one (qs_while PassesOwn.never (qt_val (qe_mt (qvN 1 nm_leave_on_folk) Tc.cl M_died_by (hr.mono (by omega)) (qa_cons (qe_ix qix_tup (qe_ix qix_list (qvN 0 nm_leave_on_steps) (qe_un qop_neg qe_int) (fun _ _ => rfl)) (qe_globN nm_leave_on_TAKER c_TAKER r_TAKER) (fun _ _ => rfl)) (qa_cons (qvN 2 nm_leave_on_day) qa_nil))))
  (qss_cons (qs_setN (i := 3) sc_leave_on.nd nm_leave_on_dead_one (qe_ix qix_tup (qe_ix qix_list (qvN 0 nm_leave_on_steps) (qe_un qop_neg qe_int) (fun _ _ => rfl)) (qe_globN nm_leave_on_TAKER c_TAKER r_TAKER) (fun _ _ => rfl)))
 (qss_cons (qs_setN (i := 4) sc_leave_on.nd nm_leave_on_left_day (qe_callBN (qcall_max2 (by rfl)) nm_leave_on_max T.max b_max (qa_cons (qe_mt (qvN 1 nm_leave_on_folk) Tc.cl M_death_day (hr.mono (by omega)) (qa_cons (qvN 3 nm_leave_on_dead_one) qa_nil)) (qa_cons (qe_ix qix_tup (qe_ix qix_list (qvN 0 nm_leave_on_steps) (qe_un qop_neg qe_int) (fun _ _ => rfl)) (qe_globN nm_leave_on_DAY c_DAY r_DAY) (fun _ _ => rfl)) qa_nil))))
 (qss_one (qs_expr (qe_bm F.plainAttrs_list F.slot_list_append F.type_list_append qmt_append (qvN 0 nm_leave_on_steps) (qa_cons (qe_tup (qa_cons (qvN 4 nm_leave_on_left_day) (qa_cons qe_str (qa_cons (qvN 3 nm_leave_on_dead_one) (qa_cons (qe_mt (qvN 1 nm_leave_on_folk) Tc.cl M_heir_of (hr.mono (by omega)) (qa_cons (qvN 3 nm_leave_on_dead_one) qa_nil)) qa_nil))))) qa_nil)))))))), ?_⟩
    have hz : (5000 : Nat) ≤ sizeLine := by decide
    obtain ⟨ss, ess⟩ := lastS_ne hne
    obtain ⟨k0, hlv, hk0⟩ := hE.lv day (lastS st)
    refine ⟨fun j σ H' => ∃ (v3 v4 : Option V) (ss : List Stp) (s : Stp) (l : List Stp) (us : List V), σ = [some (.ref q), some (.ref L.p), some (.int day), v3, v4] ∧ SameX q H H' ∧ H' q = some (.lst us) ∧ TR H' ((ss ++ [s]).map stV) us ∧ Lv ds day j s l ∧ ss ++ [s] ++ l = leave ds day st ∧ us.length + j ≤ 4040,
      ⟨k0, none, none, ss, lastS st, lv ds day (lastS st), us, rfl, SameX.refl, hq, by rw [← ess]; exact htr, hlv, by unfold leave; rw [← ess], by have := htr.length; rw [List.length_map] at this; omega⟩, ?_⟩
    rintro j σ H' ⟨v3, v4, ss, s, l, us, rfl, sx, hq', htr', hl, hall, hln⟩
    have F' := F0.keep (SameX.n sx hq)
    obtain ⟨dx, ob⟩ := F'.ob
    rw [List.map_append] at htr'
    obtain ⟨us0, a, eus, htr0, ha⟩ := TR.last htr'
    have at1 : atI us (-1) = some (.ref a) := by rw [eus]; exact atI_last
    refine ⟨_, rfl, L.p, dx, _, rfl, ob, ff_no _ _ _ _ (by decide +kernel), _, rfl, _, rfl, q, us, -1, .ref a, rfl, rfl, SqL.of hq', at1, a, _, 3, .str s.t, rfl, rfl, SqT.of ha, rfl, _, rfl, L, ds, s.t, day, rfl, F', ?_⟩
    refine ⟨_, rfl, ?_⟩
    cases hl with
    | here e =>
      rw [e]
      refine iteF (k us H' hq' ?_ sx)
      rw [← hall, List.append_nil, List.map_append]
      exact htr'
    | step e1 e2 e3 =>
      rename_i x j' l'
      rw [e2]
      refine iteT ⟨fun σ' H'' => ∃ m', m' < j' + 1 ∧ ∃ (v3 v4 : Option V) (ss : List Stp) (s : Stp) (l : List Stp) (us : List V), σ' = [some (.ref q), some (.ref L.p), some (.int day), v3, v4] ∧ SameX q H H'' ∧ H'' q = some (.lst us) ∧ TR H'' ((ss ++ [s]).map stV) us ∧ Lv ds day m' s l ∧ ss ++ [s] ++ l = leave ds day st ∧ us.length + m' ≤ 4040, fun _ _ h => h, ?_⟩
      refine ⟨_, rfl, _, rfl, q, us, -1, .ref a, rfl, rfl, SqL.of hq', at1, a, _, 3, .str s.t, rfl, rfl, SqT.of ha, rfl, ?_⟩
      refine gset ?_
      dsimp only
      refine ⟨_, rfl, L.p, dx, _, rfl, ob, ff_no _ _ _ _ (by decide +kernel), _, rfl, L, ds, s.t, x, rfl, F', e1, ?_⟩
      refine ⟨_, rfl, _, rfl, q, us, -1, .ref a, rfl, rfl, SqL.of hq', at1, a, _, 0, .int s.at_, rfl, rfl, SqT.of ha, rfl, _, _, rfl, ?_⟩
      refine gset ?_
      dsimp only
      refine ⟨_, rfl, .inl ⟨rfl, _, SqL.of hq'⟩, _, rfl, _, rfl, _, rfl, L.p, dx, _, rfl, ob, ff_no _ _ _ _ (by decide +kernel), _, rfl, L, ds, s.t, x, rfl, F', e1, by show 4 ≤ sizeLine; omega, fun p hp => ?_⟩
      have S1 := Same.new (o := (.tup [.int (if s.at_ > x.1 then s.at_ else x.1), .str "left", .str s.t, .str x.2])) hp
      have k1 : (upd H' p (.tup [.int (if s.at_ > x.1 then s.at_ else x.1), .str "left", .str s.t, .str x.2])) p = some (.tup (stV (leftS s x))) := upd_same
      generalize (upd H' p (.tup [.int (if s.at_ > x.1 then s.at_ else x.1), .str "left", .str s.t, .str x.2])) = H1 at S1 k1 ⊢
      have hq1 := S1 _ _ hq'
      refine ⟨q, us, .ref p, rfl, rfl, hq1, by omega, j', by omega, _, _, ss ++ [s], leftS s x, l', us ++ [.ref p], rfl, (sx.trans S1.x).trans SameX.upd, upd_same, ?_, e3, ?_, by rw [List.length_append]; show us.length + 1 + j' ≤ 4040; omega⟩
      · rw [List.map_append]
        refine TR.snoc (upd_tt hq1 _ _ k1) ?_
        rw [List.map_append]
        exact htr'.mono fun b xs e => upd_tt hq1 _ _ (S1 _ _ e)
      · rw [← hall]; simp
def spPass : Sp := fun vs H Q _ => ∃ (q a : Addr) (us : List V) (st : List Stp) (e : Ev), vs = [.ref q, .ref a] ∧ H q = some (.lst us) ∧ TR H (st.map stV) us ∧ st ≠ [] ∧ H a = some (.tup (evV e)) ∧ st.length ≤ 4900 ∧
  ∀ (us' : List V) (H' : Hp), H' q = some (.lst us') → TR H' ((passS st e).map stV) us' → SameX q H H' → Q .non H'
abbrev s_pass_on : Stmt := top 10
theorem sc_pass_on : FnScope ["steps", "event", "keeper"] ["steps", "event"] (defScope s_pass_on) := ⟨rfl, rfl, rfl, by decide +kernel, rfl, by decide +kernel, by decide +kernel⟩
theorem nm_pass_on_DAY : Nm (defScope s_pass_on) "DAY" .globalImplicit := by decide +kernel
theorem nm_pass_on_GIVER : Nm (defScope s_pass_on) "GIVER" .globalImplicit := by decide +kernel
theorem nm_pass_on_TAKER : Nm (defScope s_pass_on) "TAKER" .globalImplicit := by decide +kernel
theorem nm_pass_on_WORD : Nm (defScope s_pass_on) "WORD" .globalImplicit := by decide +kernel
theorem nm_pass_on_event : Nm (defScope s_pass_on) "event" .local := by decide +kernel
theorem nm_pass_on_keeper : Nm (defScope s_pass_on) "keeper" .local := by decide +kernel
theorem nm_pass_on_steps : Nm (defScope s_pass_on) "steps" .local := by decide +kernel
theorem f_pass_on (h_pass_on : Has K mg "pass_on" s_pass_on) (T : Txt mg) (C0 : ∃ t, mg "DAY" = some (.int 0 t)) (C1 : ∃ t, mg "WORD" = some (.int 1 t)) (C2 : ∃ t, mg "GIVER" = some (.int 2 t)) (C3 : ∃ t, mg "TAKER" = some (.int 3 t)) : Fn P w K mg base "pass_on" ["steps", "event"] 1 spPass := by
  obtain ⟨t0, c_DAY⟩ := C0
  have r_DAY : RelV (.int 0) (.int 0 t0) := ⟨t0, rfl⟩
  obtain ⟨t1, c_WORD⟩ := C1
  have r_WORD : RelV (.int 1) (.int 1 t1) := ⟨t1, rfl⟩
  obtain ⟨t2, c_GIVER⟩ := C2
  have r_GIVER : RelV (.int 2) (.int 2 t2) := ⟨t2, rfl⟩
  obtain ⟨t3, c_TAKER⟩ := C3
  have r_TAKER : RelV (.int 3) (.int 3 t3) := ⟨t3, rfl⟩
  refine h_pass_on.fnQ sc_pass_on (fun _ _ _ _ _ _ us hl => match us, hl with | [_, _], _ => rfl) (fun vs H Q E h => ?_) (fun f cdv A outer s H vs Q E hr h => ?_)
  · obtain ⟨q, a, us, st, e, rfl, _⟩ := h
    rfl
  · obtain ⟨q, a, us, st, e, rfl, hq, htr, hne, ha, hlen, k⟩ := h
    refine ⟨_, (qss_cons (qs_setN (i := 2) sc_pass_on.nd nm_pass_on_keeper (qe_ix qix_tup (qe_ix qix_list (qvN 0 nm_pass_on_steps) (qe_un qop_neg qe_int) (fun _ _ => rfl)) (qe_globN nm_pass_on_TAKER c_TAKER r_TAKER) (fun _ _ => rfl)))
 (qss_one (qs_if (QW.pt (qw_or (qt_cmpR qop_eq (qe_ix qix_tup (qvN 1 nm_pass_on_event) (qe_globN nm_pass_on_WORD c_WORD r_WORD) (fun _ _ => rfl)) qe_str (nomark _)) (qw_or1 (qt_cmpR qop_eq (qe_ix qix_tup (qvN 1 nm_pass_on_event) (qe_globN nm_pass_on_GIVER c_GIVER r_GIVER) (fun _ _ => rfl)) (qvN 2 nm_pass_on_keeper) (nomark _))))) (qss_one (qs_expr (qe_bm F.plainAttrs_list F.slot_list_append F.type_list_append qmt_append (qvN 0 nm_pass_on_steps) (qa_cons (qe_tup (qa_cons (qe_ix qix_tup (qvN 1 nm_pass_on_event) (qe_globN nm_pass_on_DAY c_DAY r_DAY) (fun _ _ => rfl)) (qa_cons (qe_ix qix_tup (qvN 1 nm_pass_on_event) (qe_globN nm_pass_on_WORD c_WORD r_WORD) (fun _ _ => rfl)) (qa_cons (qvN 2 nm_pass_on_keeper) (qa_cons (qe_ix qix_tup (qvN 1 nm_pass_on_event) (qe_globN nm_pass_on_TAKER c_TAKER r_TAKER) (fun _ _ => rfl)) qa_nil))))) qa_nil)))) qss_nil))), ?_⟩
    have hz : (5000 : Nat) ≤ sizeLine := by decide
    obtain ⟨ss, ess⟩ := lastS_ne hne
    have htr2 := htr
    rw [ess, List.map_append] at htr2
    obtain ⟨us0, b, eus, htr0, hb⟩ := TR.last htr2
    have at1 : atI us (-1) = some (.ref b) := by rw [eus]; exact atI_last
    have hul : us.length = st.length := by have := htr.length; rw [List.length_map] at this; exact this
    refine ⟨_, rfl, _, rfl, q, us, -1, .ref b, rfl, rfl, SqL.of hq, at1, b, _, 3, .str (lastS st).t, rfl, rfl, SqT.of hb, rfl, ?_⟩
    refine gset ?_
    dsimp only
    -- the thing passes
    have yes : (e.g = none ∨ e.g = some (lastS st).t) → ∀ (p : Addr), H p = none → ∀ us' H', H' q = some (.lst us') → us' = us ++ [.ref p] → H' = upd (upd H p (.tup (stV ⟨e.at_, e.wd, some (lastS st).t, e.t⟩))) q (.lst us') → Q .non H' := fun hc p hp us' H' e1 e2 e3 => by
      have S1 := Same.new (o := .tup (stV ⟨e.at_, e.wd, some (lastS st).t, e.t⟩)) hp
      have hq1 := S1 _ _ hq
      subst e2 e3
      refine k _ _ e1 ?_ (S1.x.trans SameX.upd)
      unfold passS
      rw [if_pos hc, List.map_append]
      exact TR.snoc (upd_tt hq1 _ _ upd_same) (htr.mono fun b xs e => upd_tt hq1 _ _ (S1 _ _ e))
    cases eg : e.g with
    | none =>
      have ew : e.wd = "won" := by unfold Ev.wd; rw [eg]
      refine ⟨_, rfl, a, _, 1, .str e.wd, rfl, rfl, SqT.of ha, rfl, rfl, _, rfl, ?_⟩
      rw [ew]
      refine iteD (fun _ => iteT ?_) (fun z => absurd rfl z)
      refine ⟨_, rfl, .inl ⟨rfl, _, SqL.of hq⟩, _, rfl, a, _, 0, .int e.at_, rfl, rfl, SqT.of ha, rfl, _, rfl, a, _, 1, .str e.wd, rfl, rfl, SqT.of ha, rfl, _, rfl, _, rfl, a, _, 3, .str e.t, rfl, rfl, SqT.of ha, rfl, by show 4 ≤ sizeLine; omega, fun p hp => ?_⟩
      exact ⟨q, us, .ref p, rfl, rfl, Same.new hp _ _ hq, by omega, yes (.inl eg) p hp _ _ upd_same rfl rfl⟩
    | some g =>
      have ew : e.wd = "given" := by unfold Ev.wd; rw [eg]
      refine ⟨_, rfl, a, _, 1, .str e.wd, rfl, rfl, SqT.of ha, rfl, rfl, _, rfl, ?_⟩
      rw [ew]
      refine iteD (fun z => absurd z (ne_word (by decide +kernel))) (fun _ => ?_)
      have h2 : (evV e)[2]? = some (V.str g) := by unfold evV; rw [eg]; rfl
      refine ⟨_, rfl, a, _, 2, .str g, rfl, rfl, SqT.of ha, h2, _, rfl, rfl, _, rfl, iteD (fun z => ?_) (fun z => ?_)⟩
      · have eg2 : g = (lastS st).t := by injection z
        refine ⟨_, rfl, .inl ⟨rfl, _, SqL.of hq⟩, _, rfl, a, _, 0, .int e.at_, rfl, rfl, SqT.of ha, rfl, _, rfl, a, _, 1, .str e.wd, rfl, rfl, SqT.of ha, rfl, _, rfl, _, rfl, a, _, 3, .str e.t, rfl, rfl, SqT.of ha, rfl, by show 4 ≤ sizeLine; omega, fun p hp => ?_⟩
        exact ⟨q, us, .ref p, rfl, rfl, Same.new hp _ _ hq, by omega, yes (.inr (by rw [eg, eg2])) p hp _ _ upd_same rfl rfl⟩
      · refine k us H hq ?_ SameX.refl
        unfold passS
        rw [if_neg (fun y => by rcases y with y | y <;> rw [eg] at y <;> cases y; exact z rfl)]
        exact htr
def spRoad (C T : Addr) : Sp := fun vs H Q _ => ∃ (L : FL) (ds : List Deed) (b le : Addr) (us : List V) (es : List Ev) (n : Str) (d0 day : Int), vs = [.ref b, .ref le, .ref L.p, .int day] ∧ FolkAt C H L ds ∧ H b = some (.tup [.str n, .int d0]) ∧ H le = some (.lst us) ∧ TR H (es.map evV) us ∧ es.length ≤ 60 ∧ Ends' ds ∧ (∀ e ∈ es, d0 ≤ e.at_) ∧ IsTab H T dayNm ∧
  ∀ (l : Addr) (us' : List V) (H' : Hp), H l = none → H' l = some (.lst us') → TR H' ((roadM ds n d0 es day).map stV) us' → Same H H' → Q (.ref l) H'
abbrev s_road : Stmt := top 6
theorem sc_road : FnScope ["brought", "events", "folk", "day", "first_day", "steps", "event"] ["brought", "events", "folk", "day"] (defScope s_road) := ⟨rfl, rfl, rfl, by decide +kernel, rfl, by decide +kernel, by decide +kernel⟩
theorem nm_road_DAY : Nm (defScope s_road) "DAY" .globalImplicit := by decide +kernel
theorem nm_road_brought : Nm (defScope s_road) "brought" .local := by decide +kernel
theorem nm_road_by_day : Nm (defScope s_road) "by_day" .globalImplicit := by decide +kernel
theorem nm_road_day : Nm (defScope s_road) "day" .cell := by decide +kernel
theorem nm_road_event : Nm (defScope s_road) "event" .local := by decide +kernel
theorem nm_road_events : Nm (defScope s_road) "events" .local := by decide +kernel
theorem nm_road_first_day : Nm (defScope s_road) "first_day" .local := by decide +kernel
theorem nm_road_folk : Nm (defScope s_road) "folk" .local := by decide +kernel
theorem nm_road_leave_on : Nm (defScope s_road) "leave_on" .globalImplicit := by decide +kernel
theorem nm_road_pass_on : Nm (defScope s_road) "pass_on" .globalImplicit := by decide +kernel
theorem nm_road_steps : Nm (defScope s_road) "steps" .local := by decide +kernel
theorem f_road {T : Addr} (h_road : Has K mg "road" s_road) (T0 : Txt mg) (C0 : ∃ t, mg "DAY" = some (.int 0 t)) (F_by_day : Fn P w K mg base "by_day" ["events"] 4 (spByDay T)) (F_leave_on : Fn P w K mg base "leave_on" ["steps", "folk", "day"] 2 (spLeave C)) (F_pass_on : Fn P w K mg base "pass_on" ["steps", "event"] 1 spPass) :
    Fn P w K mg base "road" ["brought", "events", "folk", "day"] 5 (spRoad C T) := by
  obtain ⟨t0, c_DAY⟩ := C0
  have r_DAY : RelV (.int 0) (.int 0 t0) := ⟨t0, rfl⟩
  refine h_road.fnQ sc_road (fun _ _ _ _ _ _ us hl => match us, hl with | [_, _, _, _], _ => rfl) (fun vs H Q E h => ?_) (fun f cdv A outer s H vs Q E hr h => ?_)
  · obtain ⟨L, ds, b, le, us, es, n, d0, day, rfl, _⟩ := h
    rfl
  · obtain ⟨L, ds, b, le, us, es, n, d0, day, rfl, F0, hb, hle, htr, hel, hE, hed, hT, k⟩ := h
    have T1 := T0
    refine ⟨_, (qss_cons (qs_setN (i := 4) sc_road.nd nm_road_first_day (qe_ix qix_tup (qvN 0 nm_road_brought) qe_int (fun _ _ => rfl)))
 (qss_cons (qs_if (qt_cmpR qop_lt (qvC 3 nm_road_day) (qvN 4 nm_road_first_day) (nomark _)) (qss_one (qs_ret (qe_lst qa_nil))) qss_nil)
 (qss_cons (qs_setN (i := 5) sc_road.nd nm_road_steps (qe_lst (qa_cons (qe_tup (qa_cons (qvN 4 nm_road_first_day) (qa_cons qe_str (qa_cons qe_non (qa_cons (qe_ix qix_tup (qvN 0 nm_road_brought) qe_int (fun _ _ => rfl)) qa_nil))))) qa_nil)))
 (qss_cons (qs_for PassesOwn.never rfl (qi_list (qe_fnN F_by_day (hr.mono (by omega)) nm_road_by_day (qa_cons (qe_lcomp (locs := ["event"]) (fr := [("day", 3)]) ⟨rfl, by decide +kernel, by decide +kernel, by decide +kernel, by decide +kernel, by decide +kernel⟩ (.consN nm_road_day .nil) rfl (qi_list (qvN 1 nm_road_events)) ⟨fun _ _ _ _ _ _ => by
    have cnd : (inN ["event"] [("day", 3)]).Nodup := by decide +kernel
    exact ⟨(qgLN 0 cnd), (qts_one (qt_cmpR qop_le (qe_ix qix_tupC (qvLN 0) (qe_globN nmC c_DAY r_DAY) (fun _ _ => rfl)) (qvFN 1) (nomark _))), (qvLN 0)⟩⟩) qa_nil))) (qg_nameN (i := 6) sc_road.nd nm_road_event)
  (qss_cons (qs_expr (qe_fnN F_leave_on (hr.mono (by omega)) nm_road_leave_on (qa_cons (qvN 5 nm_road_steps) (qa_cons (qvN 2 nm_road_folk) (qa_cons (qe_ix qix_tup (qvN 6 nm_road_event) (qe_globN nm_road_DAY c_DAY r_DAY) (fun _ _ => rfl)) qa_nil)))))
 (qss_one (qs_expr (qe_fnN F_pass_on (hr.mono (by omega)) nm_road_pass_on (qa_cons (qvN 5 nm_road_steps) (qa_cons (qvN 6 nm_road_event) qa_nil)))))))
 (qss_cons (qs_expr (qe_fnN F_leave_on (hr.mono (by omega)) nm_road_leave_on (qa_cons (qvN 5 nm_road_steps) (qa_cons (qvN 2 nm_road_folk) (qa_cons (qvC 3 nm_road_day) qa_nil)))))
 (qss_one (qs_ret (qvN 5 nm_road_steps)))))))), ?_⟩
    have hz : (5000 : Nat) ≤ sizeLine := by decide
    have hul : us.length = es.length := by have := htr.length; rw [List.length_map] at this; exact this
    refine ⟨_, rfl, b, _, 1, .int d0, rfl, rfl, SqT.of hb, rfl, ?_⟩
    refine gset ?_
    dsimp only
    refine ⟨_, rfl, _, rfl, _, _, rfl, rfl, _, rfl, iteD (fun c => ?_) (fun c => ?_)⟩
    · refine ⟨by show 0 ≤ sizeLine; omega, fun l hl => ?_⟩
      refine k l [] _ hl upd_same ?_ (Same.new hl)
      unfold roadM
      rw [if_pos c]
      rfl
    · refine ⟨_, rfl, _, rfl, b, _, 0, .str n, rfl, rfl, SqT.of hb, rfl, by show 4 ≤ sizeLine; omega, fun p hp => ?_⟩
      have S1 := Same.new (o := .tup [.int d0, .str "brought", .non, .str n]) hp
      have k1 : (upd H p (.tup [.int d0, .str "brought", .non, .str n])) p = some (.tup (stV (road0 n d0))) := upd_same
      generalize (upd H p (.tup [.int d0, .str "brought", .non, .str n])) = H1 at S1 k1 ⊢
      refine ⟨by show 1 ≤ sizeLine; omega, fun q hq => ?_⟩
      have hqH := S1.free hq
      have S2 := S1.trans (Same.new (o := .lst [.ref p]) hq)
      have k2 : (upd H1 q (.lst [.ref p])) q = some (.lst [.ref p]) := upd_same
      have p2 := Same.new (o := .lst [.ref p]) hq _ _ k1
      generalize (upd H1 q (.lst [.ref p])) = H2 at S2 k2 p2 ⊢
      refine gset ?_
      dsimp only
      have htr2 := htr.mono fun b xs e => S2 _ _ e
      refine ⟨_, rfl, le, rfl, ⟨_, SqL.of (S2 _ _ hle)⟩, ?_⟩
      refine comp_list (xs := us) (fun i ys H' => H' = H2 ∧ TR H2 (((es.take i).filter fun e => decide (e.at_ ≤ day)).map evV) ys) ⟨rfl, rfl⟩ (by omega) (fun i ys H' _ ⟨e, _⟩ => by rw [e]; exact SqL.of (S2 _ _ hle))
        (fun i ys H' ⟨_, e⟩ => by have := e.length; rw [List.length_map] at this; rw [this]; exact Nat.le_trans (List.length_filter_le _ _) (by rw [List.length_take]; omega)) ?_ ?_
      · rintro i x ys H' hx ⟨rfl, hys⟩ ls hls
        obtain ⟨w0, rfl⟩ := len1 hls
        obtain ⟨e, a, he, rfl, ha⟩ := htr2.evGet hx
        refine ⟨⟨[_], rfl, rfl⟩, ?_⟩
        refine ⟨_, rfl, a, _, 0, .int e.at_, rfl, rfl, SqT.of ha, rfl, _, rfl, _, _, rfl, rfl, _, rfl, iteD (fun c2 => ?_) (fun c2 => ?_)⟩
        · refine ⟨_, rfl, rfl, ?_⟩
          rw [List.take_add_one, he, List.filter_append, List.map_append]
          have : ([e].filter fun e => decide (e.at_ ≤ day)) = [e] := by simp [c2]
          show TR _ (_ ++ ([e].filter _).map evV) _
          rw [this]
          exact TR.snoc ha hys
        · refine ⟨rfl, ?_⟩
          rw [List.take_add_one, he, List.filter_append, List.map_append]
          have : ([e].filter fun e => decide (e.at_ ≤ day)) = [] := by simp [c2]
          show TR _ (_ ++ ([e].filter _).map evV) _
          rw [this, List.map_nil, List.append_nil]
          exact hys
      · rintro ys H0 ⟨rfl, hys⟩ lq hlq
        rw [hul, List.take_length] at hys
        have S3 := S2.trans (Same.new (o := .lst ys) hlq)
        have k3 : (upd H0 lq (.lst ys)) lq = some (.lst ys) := upd_same
        have q3 := Same.new (o := .lst ys) hlq _ _ k2
        have p3 := Same.new (o := .lst ys) hlq _ _ p2
        have hys3 := hys.mono (H' := upd H0 lq (.lst ys)) fun b xs e => Same.new hlq _ _ e
        generalize (upd H0 lq (.lst ys)) = H3 at S3 k3 q3 p3 hys3 ⊢
        have hfl : (es.filter fun e => decide (e.at_ ≤ day)).length ≤ 60 := Nat.le_trans (List.length_filter_le _ _) hel
        refine ⟨lq, ys, es.filter fun e => decide (e.at_ ≤ day), rfl, k3, hys3, by omega, hT.same S3, fun l us' pp H4 hlf hl htr4 hp4 hpw4 sm4 => ?_⟩
        have nlq : l ≠ q := fun z => by rw [z, q3] at hlf; cases hlf
        have esort : (pp.map fun i => (es.filter fun e => decide (e.at_ ≤ day)).getD i ⟨0, none, ⟨#[]⟩⟩) = byD d0 (day + 1 - d0).toNat es := by
          rw [stable_days hp4 hpw4 (lo := d0) (n := (day + 1 - d0).toNat) fun e he => ?_, byD_late (by omega)]
          obtain ⟨h1, h2⟩ := List.mem_filter.mp he
          have := hed e h1
          have := of_decide_eq_true h2
          exact ⟨by omega, by omega⟩
        have hln4 : (byD d0 (day + 1 - d0).toNat es).length ≤ 60 := by
          rw [← esort, List.length_map]
          have := hp4.length_eq
          rw [List.length_range] at this
          omega
        rw [esort] at htr4
        generalize hEv : byD d0 (day + 1 - d0).toNat es = ev at htr4 hln4
        have hul4 : us'.length = ev.length := by have := htr4.length; rw [List.length_map] at this; exact this
        have S4 := S3.trans sm4
        have q4 := sm4 _ _ q3
        have p4 := sm4 _ _ p3
        refine ⟨l, rfl, ⟨_, SqL.of hl⟩, ?_⟩
        refine forW_list us' (fun i σ H' => ∃ (v6 : Option V) (ws : List V), σ = [some (.ref b), some (.ref le), some (.ref L.p), some (.int day), some (.int d0), some (.ref q), v6] ∧ SameX q H4 H' ∧ H' q = some (.lst ws) ∧ TR H' (((ev.take i).foldl (stepS ds) [road0 n d0]).map stV) ws)
          ⟨none, [.ref p], rfl, SameX.refl, q4, ⟨p, [], rfl, p4, rfl⟩⟩ (fun i σ H' _ ⟨_, _, _, sx, _⟩ => SqL.of (sx _ _ nlq hl)) ?_ ?_
        · rintro i x σ H' hx ⟨v6, ws, rfl, sx, hqw, htw⟩
          obtain ⟨e, a, he, rfl, ha⟩ := htr4.evGet hx
          have ha' : H' a = some (.tup (evV e)) := sx _ _ (fun z => by rw [z, q4] at ha; cases ha) ha
          have hi := (List.getElem?_eq_some_iff.mp he).1
          have hfn := fold_len hE (ev.take i) [road0 n d0]
          have hfe : (ev.take i).foldl (stepS ds) [road0 n d0] ≠ [] := fold_ne (by simp)
          rw [List.length_take] at hfn
          have F' := (F0.keep (Same.n S4)).keep (SameX.n sx q4)
          have estep : (ev.take (i + 1)).foldl (stepS ds) [road0 n d0] = passS (leave ds e.at_ ((ev.take i).foldl (stepS ds) [road0 n d0])) e := by
            rw [List.take_add_one, he, List.foldl_append]; rfl
          have hfn' : ((ev.take i).foldl (stepS ds) [road0 n d0]).length ≤ 2500 := by show _ ≤ 2500; have : ([road0 n d0] : List Stp).length = 1 := rfl; omega
          have hlen' := leave_len hE e.at_ ((ev.take i).foldl (stepS ds) [road0 n d0])
          rw [estep]
          generalize (ev.take i).foldl (stepS ds) [road0 n d0] = st at htw hfe hfn' hlen' ⊢
          refine ⟨_, rfl, _, rfl, _, rfl, a, _, 0, .int e.at_, rfl, rfl, SqT.of ha', rfl, L, ds, q, ws, st, e.at_, rfl, F', hqw, htw, hfe, hE, by omega, fun ws1 H5 hq5 ht5 sx5 => ?_⟩
          refine ⟨_, rfl, _, rfl, q, a, ws1, leave ds e.at_ st, e, rfl, hq5, ht5, leave_ne hfe, sx5 _ _ (fun z => by rw [z, hqw] at ha'; cases ha') ha', by omega, fun ws2 H6 hq6 ht6 sx6 => ?_⟩
          exact ⟨_, ws2, rfl, (sx.trans sx5).trans sx6, hq6, ht6⟩
        · rintro σ H' ⟨v6, ws, rfl, sx, hqw, htw⟩
          rw [hul4, List.take_length] at htw
          have F' := (F0.keep (Same.n S4)).keep (SameX.n sx q4)
          have hfn := fold_len hE ev [road0 n d0]
          have h1 : ([road0 n d0] : List Stp).length = 1 := rfl
          refine ⟨_, rfl, _, rfl, _, rfl, L, ds, q, ws, ev.foldl (stepS ds) [road0 n d0], day, rfl, F', hqw, htw, fold_ne (by simp), hE, by omega, fun ws1 H5 hq5 ht5 sx5 => ?_⟩
          refine ⟨_, rfl, k q ws1 H5 hqH hq5 ?_ fun b o e => (sx.trans sx5) b o (ne_of_none e hqH) (S4 _ _ e)⟩
          unfold roadM
          rw [if_neg c, hEv]
          exact ht5
def lastO (st : List Stp) : Option Str := if st = [] then none else some (lastS st).t
def spHolder (C T : Addr) : Sp := fun vs H Q _ => ∃ (L : FL) (ds : List Deed) (b le : Addr) (us : List V) (es : List Ev) (n : Str) (d0 day : Int), vs = [.ref b, .ref le, .ref L.p, .int day] ∧ FolkAt C H L ds ∧ H b = some (.tup [.str n, .int d0]) ∧ H le = some (.lst us) ∧ TR H (es.map evV) us ∧ es.length ≤ 60 ∧ Ends' ds ∧ (∀ e ∈ es, d0 ≤ e.at_) ∧ IsTab H T dayNm ∧
  ∀ (H' : Hp), Same H H' → Q (oV (lastO (roadM ds n d0 es day))) H'
abbrev s_holder : Stmt := top 7
theorem sc_holder : FnScope ["brought", "events", "folk", "day", "steps"] ["brought", "events", "folk", "day"] (defScope s_holder) := ⟨rfl, rfl, rfl, by decide +kernel, rfl, by decide +kernel, by decide +kernel⟩
theorem nm_holder_TAKER : Nm (defScope s_holder) "TAKER" .globalImplicit := by decide +kernel
theorem nm_holder_brought : Nm (defScope s_holder) "brought" .local := by decide +kernel
theorem nm_holder_day : Nm (defScope s_holder) "day" .local := by decide +kernel
theorem nm_holder_events : Nm (defScope s_holder) "events" .local := by decide +kernel
theorem nm_holder_folk : Nm (defScope s_holder) "folk" .local := by decide +kernel
theorem nm_holder_road : Nm (defScope s_holder) "road" .globalImplicit := by decide +kernel
theorem nm_holder_steps : Nm (defScope s_holder) "steps" .local := by decide +kernel
theorem f_holder {T : Addr} (h_holder : Has K mg "holder" s_holder) (C3 : ∃ t, mg "TAKER" = some (.int 3 t)) (F_road : Fn P w K mg base "road" ["brought", "events", "folk", "day"] 5 (spRoad C T)) :
    Fn P w K mg base "holder" ["brought", "events", "folk", "day"] 6 (spHolder C T) := by
  obtain ⟨t3, c_TAKER⟩ := C3
  have r_TAKER : RelV (.int 3) (.int 3 t3) := ⟨t3, rfl⟩
  refine h_holder.fnQ sc_holder (fun _ _ _ _ _ _ us hl => match us, hl with | [_, _, _, _], _ => rfl) (fun vs H Q E h => ?_) (fun f cdv A outer s H vs Q E hr h => ?_)
  · obtain ⟨L, ds, b, le, us, es, n, d0, day, rfl, _⟩ := h
    rfl
  · obtain ⟨L, ds, b, le, us, es, n, d0, day, rfl, F0, hb, hle, htr, hel, hE, hed, hT, k⟩ := h
    refine ⟨_, (qss_cons (qs_setN (i := 4) sc_holder.nd nm_holder_steps (qe_fnN F_road (hr.mono (by omega)) nm_holder_road (qa_cons (qvN 0 nm_holder_brought) (qa_cons (qvN 1 nm_holder_events) (qa_cons (qvN 2 nm_holder_folk) (qa_cons (qvN 3 nm_holder_day) qa_nil))))))
 (qss_one (qs_ret (qe_ifExp (qt_truth (qvN 4 nm_holder_steps) (fun _ => rfl)) (qe_ix qix_tup (qe_ix qix_list (qvN 4 nm_holder_steps) (qe_un qop_neg qe_int) (fun _ _ => rfl)) (qe_globN nm_holder_TAKER c_TAKER r_TAKER) (fun _ _ => rfl)) qe_non)))), ?_⟩
    refine ⟨_, rfl, _, rfl, _, rfl, _, rfl, L, ds, b, le, us, es, n, d0, day, rfl, F0, hb, hle, htr, hel, hE, hed, hT, fun l us' H' hlf hl ht sm => ?_⟩
    refine gset ?_
    dsimp only
    generalize roadM ds n d0 es day = st at ht k
    refine ⟨_, rfl, _, .inl ⟨us', SqL.of hl, rfl⟩, ?_⟩
    by_cases c : st = []
    · subst c
      cases ht
      exact iteF (k H' sm)
    · obtain ⟨ss, ess⟩ := lastS_ne c
      have ht2 := ht
      rw [ess, List.map_append] at ht2
      obtain ⟨us0, a, eus, _, ha⟩ := TR.last ht2
      have at1 : atI us' (-1) = some (.ref a) := by rw [eus]; exact atI_last
      have hne : (!us'.isEmpty) = true := by rw [eus]; simp
      rw [hne]
      refine iteT ?_
      refine ⟨_, rfl, _, rfl, l, us', -1, .ref a, rfl, rfl, SqL.of hl, at1, a, _, 3, .str (lastS st).t, rfl, rfl, SqT.of ha, rfl, ?_⟩
      have := k H' sm
      unfold lastO at this
      rw [if_neg c] at this
      exact this
end

section
variable {P : Program} {w : World} {K : PySem.W.Frag} {mg : Str → Option Value} {base : Heap} {C : Addr}
theorem byD_len {lo : Int} {n : Nat} {es : List Ev} : (byD lo n es).length ≤ es.length := by
  -- a day's events, each once
  have go : ∀ (n : Nat), (byD lo n es).length = (es.filter fun e => decide (lo ≤ e.at_ ∧ e.at_ < lo + n)).length := by
    intro n
    induction n with
    | zero =>
      have : (es.filter fun e => decide (lo ≤ e.at_ ∧ e.at_ < lo + ((0 : Nat) : Int))) = [] := by
        rw [List.filter_eq_nil_iff]
        intro e _ z
        have := of_decide_eq_true z
        omega
      rw [this]; rfl
    | succ n ih =>
      rw [byD_succ, List.length_append, ih]
      clear ih
      induction es with
      | nil => rfl
      | cons e r ih =>
        rw [List.filter_cons, List.filter_cons, List.filter_cons]
        by_cases c1 : e.at_ = lo + n
        · rw [if_neg (by simp; omega), if_pos (by simpa using c1), if_pos (by simp; omega), List.length_cons, List.length_cons, ← ih]; omega
        · by_cases c2 : lo ≤ e.at_ ∧ e.at_ < lo + n
          · rw [if_pos (by simpa using c2), if_neg (by simpa using c1), if_pos (by simp; omega), List.length_cons, List.length_cons, ← ih]; omega
          · rw [if_neg (by simpa using c2), if_neg (by simpa using c1), if_neg (by simp; omega), ← ih]
  rw [go]
  exact List.length_filter_le _ _
end

section
variable {P : Program} {w : World} {K : PySem.W.Frag} {mg : Str → Option Value} {base : Heap} {C : Addr}
/-! ### the law's events -/
structure Ex (s la l : Addr) (lo : Int) (H H' : Hp) (es : List Ev) (us : List V) : Prop where
  at_ : H' l = some (.lst us)
  rep : TR H' (es.map evV) us
  bd : ∀ e ∈ es, lo ≤ e.at_ ∧ e.at_ < lo + 20
  sr : SrcAt H' s la
  sx : SameX s H H'
theorem Ex.x {s la l : Addr} {lo : Int} {H H1 H2 : Hp} {es : List Ev} {us : List V} (E : Ex s la l lo H H1 es us) (hl : l ≠ s) (k : SameX s H1 H2) (hs : SrcAt H2 s la) : Ex s la l lo H H2 es us :=
  ⟨k _ _ hl E.at_, E.rep.mono (srcT E.sr k), E.bd, hs, E.sx.trans k⟩
theorem Ex.same {s la l : Addr} {lo : Int} {H H1 H2 : Hp} {es : List Ev} {us : List V} (E : Ex s la l lo H H1 es us) (k : Same H1 H2) : Ex s la l lo H H2 es us :=
  ⟨k _ _ E.at_, E.rep.mono fun b xs e => k _ _ e, E.bd, E.sr.keep k, E.sx.trans k.x⟩
theorem Ex.add {s la l p : Addr} {lo : Int} {H H1 : Hp} {es : List Ev} {us : List V} {e : Ev} (E : Ex s la l lo H H1 es us) (h0 : H l = none) (hl : l ≠ s) (hla : l ≠ la) (hp : H1 p = some (.tup (evV e))) (hb : lo ≤ e.at_ ∧ e.at_ < lo + 20) : Ex s la l lo H (upd H1 l (.lst (us ++ [.ref p]))) (es ++ [e]) (us ++ [.ref p]) := by
  refine ⟨upd_same, ?_, fun x hx => ?_, E.sr.keepX SameX.upd hl hla, fun b o nb e' => ?_⟩
  · rw [List.map_append]
    exact TR.snoc (upd_tt E.at_ _ _ hp) (E.rep.mono (upd_tt E.at_))
  · rcases List.mem_append.mp hx with z | z
    · exact E.bd x z
    · rw [List.mem_singleton.mp z]; exact hb
  · rw [upd_ne (ne_of_none e' h0)]
    exact E.sx b o nb e'
theorem free_x {s b : Addr} {H H' : Hp} (k : SameX s H H') (hb : b ≠ s) (h : H' b = none) : H b = none := by
  cases e : H b with
  | none => rfl
  | some o => rw [k b o hb e] at h; cases h
theorem DeedsAt.x {s la q : Addr} {H H' : Hp} {ds : List Deed} (h : DeedsAt H q ds) (hs : SrcAt H s la) (nq : q ≠ s) (k : SameX s H H') : DeedsAt H' q ds := by
  obtain ⟨ns, i, b, st, c, h1, _⟩ := hs
  obtain ⟨vs, a, r⟩ := h
  exact ⟨vs, k _ _ nq a, r.mono fun b xs e => k _ _ (fun z => by rw [z, h1] at e; cases e) e⟩
theorem mem_byD {lo : Int} {n : Nat} {es : List Ev} {e : Ev} (h : e ∈ byD lo n es) : e ∈ es := by
  obtain ⟨i, _, h⟩ := List.mem_flatMap.mp h
  exact (List.mem_filter.mp h).1
def spEvents : Sp := fun vs H Q _ => ∃ (s la q na b : Addr) (ds : List Deed) (names : List Str) (n : Str) (d0 m : Int), vs = [.ref s, .ref q, .ref na, .ref b, .int m] ∧ SrcAt H s la ∧ DeedsAt H q ds ∧ q ≠ s ∧ H na = some (.lst (names.map V.str)) ∧ na ≠ s ∧ names ≠ [] ∧ names.length ≤ 100 ∧ H b = some (.tup [.str n, .int d0]) ∧ Ends' ds ∧ 0 ≤ m ∧ m ≤ 14 ∧ 0 ≤ d0 ∧ d0 ≤ 100 ∧
  ∀ (l : Addr) (us : List V) (es : List Ev) (H' : Hp), H l = none → l ≠ s → H' l = some (.lst us) → TR H' (es.map evV) us → es.length ≤ 14 → (∀ e ∈ es, d0 ≤ e.at_ ∧ e.at_ < d0 + 20) → SrcAt H' s la → SameX s H H' → Q (.ref l) H'
abbrev s_law_events : Stmt := top 44
theorem sc__law_events : FnScope ["_law_src_here", "_law_deeds", "_law_names_here", "_law_brought", "_law_many", "_law_events_here", "_law_last", "_law_start", "_law_k", "_law_day", "_law_taker", "_law_giver", "_law_row", "_law_now"] ["_law_src_here", "_law_deeds", "_law_names_here", "_law_brought", "_law_many"] (defScope s_law_events) := ⟨rfl, rfl, rfl, by decide +kernel, rfl, by decide +kernel, by decide +kernel⟩
theorem nm__law_events__law_brought : Nm (defScope s_law_events) "_law_brought" .local := by decide +kernel
theorem nm__law_events__law_day : Nm (defScope s_law_events) "_law_day" .local := by decide +kernel
theorem nm__law_events__law_deeds : Nm (defScope s_law_events) "_law_deeds" .local := by decide +kernel
theorem nm__law_events__law_events_here : Nm (defScope s_law_events) "_law_events_here" .local := by decide +kernel
theorem nm__law_events__law_giver : Nm (defScope s_law_events) "_law_giver" .local := by decide +kernel
theorem nm__law_events__law_heir : Nm (defScope s_law_events) "_law_heir" .globalImplicit := by decide +kernel
theorem nm__law_events__law_k : Nm (defScope s_law_events) "_law_k" .local := by decide +kernel
theorem nm__law_events__law_last : Nm (defScope s_law_events) "_law_last" .local := by decide +kernel
theorem nm__law_events__law_many : Nm (defScope s_law_events) "_law_many" .local := by decide +kernel
theorem nm__law_events__law_names_here : Nm (defScope s_law_events) "_law_names_here" .local := by decide +kernel
theorem nm__law_events__law_next : Nm (defScope s_law_events) "_law_next" .globalImplicit := by decide +kernel
theorem nm__law_events__law_now : Nm (defScope s_law_events) "_law_now" .cell := by decide +kernel
theorem nm__law_events__law_row : Nm (defScope s_law_events) "_law_row" .local := by decide +kernel
theorem nm__law_events__law_src_here : Nm (defScope s_law_events) "_law_src_here" .local := by decide +kernel
theorem nm__law_events__law_start : Nm (defScope s_law_events) "_law_start" .local := by decide +kernel
theorem nm__law_events__law_taker : Nm (defScope s_law_events) "_law_taker" .local := by decide +kernel
theorem nm__law_events_len : Nm (defScope s_law_events) "len" .globalImplicit := by decide +kernel
theorem nm__law_events_range : Nm (defScope s_law_events) "range" .globalImplicit := by decide +kernel
theorem f__law_events (h__law_events : Has K mg "_law_events" s_law_events) (T : Txt mg) (F__law_next : Fn P w K mg base "_law_next" ["_law_src_here", "_law_base"] 1 spNext) (F__law_heir : Fn P w K mg base "_law_heir" ["_law_deeds", "_law_name", "_law_day"] 3 spHeir) :
    Fn P w K mg base "_law_events" ["_law_src_here", "_law_deeds", "_law_names_here", "_law_brought", "_law_many"] 4 spEvents := by
  refine h__law_events.fnQ sc__law_events (fun _ _ _ _ _ _ us hl => match us, hl with | [_, _, _, _, _], _ => rfl) (fun vs H Q E h => ?_) (fun f cdv A outer s H vs Q E hr h => ?_)
  · obtain ⟨s, la, q, na, b, ds, names, n, d0, m, rfl, _⟩ := h
    rfl
  · obtain ⟨s, la, q, na, b, ds, names, n, d0, m, rfl, hs0, hd, nq, hna, nn1, hne, hnl, hb, hE, m0, m1, d00, d01, k⟩ := h
    refine ⟨_, (qss_cons (qs_setN (i := 5) sc__law_events.nd nm__law_events__law_events_here (qe_lst qa_nil))
 (qss_cons (qs_asg (qvN 3 nm__law_events__law_brought) (qg_tup (by rfl) (qgs_cons (qg_nameN (i := 6) sc__law_events.nd nm__law_events__law_last) (qgs_cons (qg_nameN (i := 7) sc__law_events.nd nm__law_events__law_start) qgs_nil))))
 (qss_cons (qs_for PassesOwn.never rfl (qi_range1 nm__law_events_range.1 T.range (qa_cons (qvN 4 nm__law_events__law_many) qa_nil)) (qg_nameN (i := 8) sc__law_events.nd nm__law_events__law_k)
  (qss_cons (qs_setN (i := 9) sc__law_events.nd nm__law_events__law_day (qe_op qop_add (qvN 7 nm__law_events__law_start) (qe_fnN F__law_next (hr.mono (by omega)) nm__law_events__law_next (qa_cons (qvN 0 nm__law_events__law_src_here) (qa_cons qe_int qa_nil)))))
 (qss_cons (qs_setN (i := 10) sc__law_events.nd nm__law_events__law_taker (qe_ix qix_list (qvN 2 nm__law_events__law_names_here) (qe_fnN F__law_next (hr.mono (by omega)) nm__law_events__law_next (qa_cons (qvN 0 nm__law_events__law_src_here) (qa_cons (qe_callBN qcall_len_seq nm__law_events_len T.len b_len (qa_cons (qvN 2 nm__law_events__law_names_here) qa_nil)) qa_nil))) (fun _ _ => rfl)))
 (qss_cons (qs_setN (i := 11) sc__law_events.nd nm__law_events__law_giver (qe_ix qix_list (qvN 2 nm__law_events__law_names_here) (qe_fnN F__law_next (hr.mono (by omega)) nm__law_events__law_next (qa_cons (qvN 0 nm__law_events__law_src_here) (qa_cons (qe_callBN qcall_len_seq nm__law_events_len T.len b_len (qa_cons (qvN 2 nm__law_events__law_names_here) qa_nil)) qa_nil))) (fun _ _ => rfl)))
 (qss_cons (qs_if (qt_cmpR qop_gt (qe_fnN F__law_next (hr.mono (by omega)) nm__law_events__law_next (qa_cons (qvN 0 nm__law_events__law_src_here) (qa_cons qe_int qa_nil))) qe_int (nomark _)) (qss_one (qs_setN (i := 11) sc__law_events.nd nm__law_events__law_giver (qe_fnN F__law_heir (hr.mono (by omega)) nm__law_events__law_heir (qa_cons (qvN 1 nm__law_events__law_deeds) (qa_cons (qvN 6 nm__law_events__law_last) (qa_cons (qvN 9 nm__law_events__law_day) qa_nil)))))) qss_nil)
 (qss_cons (qs_if (qt_cmpR qop_eq (qe_fnN F__law_next (hr.mono (by omega)) nm__law_events__law_next (qa_cons (qvN 0 nm__law_events__law_src_here) (qa_cons qe_int qa_nil))) qe_int (nomark _)) (qss_one (qs_expr (qe_bm F.plainAttrs_list F.slot_list_append F.type_list_append qmt_append (qvN 5 nm__law_events__law_events_here) (qa_cons (qe_tup (qa_cons (qvN 9 nm__law_events__law_day) (qa_cons qe_str (qa_cons qe_non (qa_cons (qvN 10 nm__law_events__law_taker) qa_nil))))) qa_nil)))) (qss_one (qs_expr (qe_bm F.plainAttrs_list F.slot_list_append F.type_list_append qmt_append (qvN 5 nm__law_events__law_events_here) (qa_cons (qe_tup (qa_cons (qvN 9 nm__law_events__law_day) (qa_cons qe_str (qa_cons (qvN 11 nm__law_events__law_giver) (qa_cons (qvN 10 nm__law_events__law_taker) qa_nil))))) qa_nil)))))
 (qss_one (qs_setN (i := 6) sc__law_events.nd nm__law_events__law_last (qvN 10 nm__law_events__law_taker)))))))))
 (qss_cons (qs_if (qt_cmpR qop_eq (qe_fnN F__law_next (hr.mono (by omega)) nm__law_events__law_next (qa_cons (qvN 0 nm__law_events__law_src_here) (qa_cons qe_int qa_nil))) qe_int (nomark _)) (qss_one (qs_ret (qvN 5 nm__law_events__law_events_here))) qss_nil)
 (qss_cons (qs_setN (i := 12) sc__law_events.nd nm__law_events__law_row (qe_lst qa_nil))
 (qss_cons (qs_for PassesOwn.never rfl (qi_range2 nm__law_events_range.1 T.range (qa_cons (qvN 7 nm__law_events__law_start) (qa_cons (qe_op qop_add (qvN 7 nm__law_events__law_start) qe_int) qa_nil))) (qg_nameNC (i := 13) sc__law_events.nd nm__law_events__law_now)
  (qss_one (qs_expr (qe_bm F.plainAttrs_list F.slot_list_extend F.type_list_extend qmt_extend (qvN 12 nm__law_events__law_row) (qa_cons (qe_lcomp (locs := ["_law_event"]) (fr := [("_law_now", 13)]) ⟨rfl, by decide +kernel, by decide +kernel, by decide +kernel, by decide +kernel, by decide +kernel⟩ (.consN nm__law_events__law_now .nil) rfl (qi_list (qvN 5 nm__law_events__law_events_here)) ⟨fun _ _ _ _ _ _ => by
    have cnd : (inN ["_law_event"] [("_law_now", 13)]).Nodup := by decide +kernel
    exact ⟨(qgLN 0 cnd), (qts_one (qt_cmpR qop_eq (qe_ix qix_tupC (qvLN 0) qe_int (fun _ _ => rfl)) (qvFN 1) (nomark _))), (qvLN 0)⟩⟩) qa_nil)))))
 (qss_one (qs_ret (qvN 12 nm__law_events__law_row))))))))), ?_⟩
    have hz : (5000 : Nat) ≤ sizeLine := by decide
    have hpos : 0 < names.length := List.length_pos_iff.mpr hne
    refine ⟨by show 0 ≤ sizeLine; omega, fun l hl => ?_⟩
    have S1 := Same.new (o := .lst []) hl
    obtain ⟨nl1, nl2⟩ := hs0.ne hl
    have E1 : Ex s la l d0 H (upd H l (.lst [])) [] [] := ⟨upd_same, rfl, (fun _ z => nomatch z), hs0.keep S1, S1.x⟩
    generalize (upd H l (.lst [])) = H1 at S1 E1 ⊢
    have nb : b ≠ s := fun z => by obtain ⟨_, _, _, _, _, a, _⟩ := hs0; rw [z, a] at hb; cases hb
    refine gset ?_
    dsimp only
    refine ⟨_, rfl, b, _, rfl, SqT.of (S1 _ _ hb), rfl, _, _, rfl, _, _, rfl, rfl, ?_⟩
    dsimp only
    refine ⟨_, rfl, _, rfl, by omega, by omega, ?_⟩
    refine forW_range m.toNat (by omega) (fun i σ H' => ∃ (v8 v9 v10 v11 : Option V) (x : Str) (es : List Ev) (us : List V), σ = [some (.ref s), some (.ref q), some (.ref na), some (.ref b), some (.int m), some (.ref l), some (.str x), some (.int d0), v8, v9, v10, v11, none, none] ∧ Ex s la l d0 H H' es us ∧ es.length = i)
      ⟨none, none, none, none, n, [], [], rfl, E1, rfl⟩ ?_ ?_
    · rintro i σ H' hi ⟨v8, v9, v10, v11, x, es, us, rfl, E0, hel⟩
      have hul : us.length = es.length := by have := E0.rep.length; rw [List.length_map] at this; exact this
      have pick : ∀ {H' : Hp} {g : Nat}, Ex s la l d0 H H' es us → g < names.length → H' na = some (.lst (names.map V.str)) ∧ (names.map V.str)[g]? = some (.str (names.getD g e0)) := fun {H' g} E hg => by
        refine ⟨E.sx _ _ nn1 hna, ?_⟩
        rw [List.getElem?_map, List.getD_eq_getElem?_getD, List.getElem?_eq_getElem hg]; rfl
      refine ⟨_, rfl, _, rfl, s, la, 20, rfl, E0.sr, by decide, by decide, fun d H2 dd0 dd1 hs2 sx2 => ⟨_, _, rfl, rfl, ?_⟩⟩
      have E2 := E0.x nl1 sx2 hs2
      refine gset ?_
      dsimp only
      refine ⟨_, rfl, _, rfl, _, rfl, na, _, rfl, .inl (SqL.of (E2.sx _ _ nn1 hna)), s, la, _, rfl, E2.sr, by rw [List.length_map]; omega, by rw [List.length_map]; omega, fun g1 H3 a0 a1 hs3 sx3 => ?_⟩
      rw [List.length_map] at a1
      obtain ⟨g1, rfl⟩ := Int.eq_ofNat_of_zero_le a0
      have E3 := E2.x nl1 sx3 hs3
      obtain ⟨p1, p2⟩ := pick E3 (g := g1) (by omega)
      refine ⟨na, _, g1, _, rfl, rfl, SqL.of p1, atI_nat p2, ?_⟩
      generalize names.getD g1 e0 = tk
      refine gset ?_
      dsimp only
      refine ⟨_, rfl, _, rfl, _, rfl, na, _, rfl, .inl (SqL.of (E3.sx _ _ nn1 hna)), s, la, _, rfl, E3.sr, by rw [List.length_map]; omega, by rw [List.length_map]; omega, fun g2 H4 b0 b1 hs4 sx4 => ?_⟩
      rw [List.length_map] at b1
      obtain ⟨g2, rfl⟩ := Int.eq_ofNat_of_zero_le b0
      have E4 := E3.x nl1 sx4 hs4
      obtain ⟨p3, p4⟩ := pick E4 (g := g2) (by omega)
      refine ⟨na, _, g2, _, rfl, rfl, SqL.of p3, atI_nat p4, ?_⟩
      generalize names.getD g2 e0 = gv
      refine gset ?_
      dsimp only
      refine seq_cut (fun σ' H' => ∃ gv : Str, σ' = [some (.ref s), some (.ref q), some (.ref na), some (.ref b), some (.int m), some (.ref l), some (.str x), some (.int d0), some (.int (0 + (i : Nat))), some (.int (d0 + d)), some (.str tk), some (.str gv), none, none] ∧ Ex s la l d0 H H' es us) ?_ fun D' hn _ _ _ => ?_
      · rintro σ' H5 ⟨gv, rfl, E5⟩
        refine ⟨_, rfl, s, la, 3, rfl, E5.sr, by decide, by decide, fun r H6 r0 r1 hs6 sx6 => ?_⟩
        have E6 := E5.x nl1 sx6 hs6
        refine ⟨rfl, _, rfl, iteD (fun _ => ?_) (fun _ => ?_)⟩
        · refine ⟨_, rfl, .inl ⟨rfl, _, SqL.of E6.at_⟩, _, rfl, _, rfl, by show 4 ≤ sizeLine; omega, fun p hp => ?_⟩
          have S7 := Same.new (o := .tup [.int (d0 + d), .str "won", .non, .str tk]) hp
          have k7 : (upd H6 p (.tup [.int (d0 + d), .str "won", .non, .str tk])) p = some (.tup (evV ⟨d0 + d, none, tk⟩)) := upd_same
          have E7 := E6.same S7
          generalize (upd H6 p (.tup [.int (d0 + d), .str "won", .non, .str tk])) = H7 at S7 k7 E7 ⊢
          refine ⟨l, us, .ref p, rfl, rfl, E7.at_, by omega, ?_⟩
          refine ⟨_, rfl, _, _, _, _, tk, es ++ [⟨d0 + d, none, tk⟩], us ++ [.ref p], rfl, E7.add (e := ⟨d0 + d, none, tk⟩) hl nl1 nl2 k7 ⟨by dsimp only; omega, by dsimp only; omega⟩, by rw [List.length_append, hel]; rfl⟩
        · refine ⟨_, rfl, .inl ⟨rfl, _, SqL.of E6.at_⟩, _, rfl, _, rfl, _, rfl, by show 4 ≤ sizeLine; omega, fun p hp => ?_⟩
          have S7 := Same.new (o := .tup [.int (d0 + d), .str "given", .str gv, .str tk]) hp
          have k7 : (upd H6 p (.tup [.int (d0 + d), .str "given", .str gv, .str tk])) p = some (.tup (evV ⟨d0 + d, some gv, tk⟩)) := upd_same
          have E7 := E6.same S7
          generalize (upd H6 p (.tup [.int (d0 + d), .str "given", .str gv, .str tk])) = H7 at S7 k7 E7 ⊢
          refine ⟨l, us, .ref p, rfl, rfl, E7.at_, by omega, ?_⟩
          refine ⟨_, rfl, _, _, _, _, tk, es ++ [⟨d0 + d, some gv, tk⟩], us ++ [.ref p], rfl, E7.add (e := ⟨d0 + d, some gv, tk⟩) hl nl1 nl2 k7 ⟨by dsimp only; omega, by dsimp only; omega⟩, by rw [List.length_append, hel]; rfl⟩
      · refine ⟨_, rfl, s, la, 3, rfl, E4.sr, by decide, by decide, fun r H5 r0 r1 hs5 sx5 => ?_⟩
        have E5 := E4.x nl1 sx5 hs5
        refine ⟨_, _, rfl, rfl, _, rfl, iteD (fun _ => ?_) (fun _ => ?_)⟩
        · obtain ⟨kk, mm, st, hk⟩ := hE x (d0 + d)
          refine ⟨_, rfl, _, rfl, _, rfl, q, ds, x, mm, d0 + d, kk, rfl, hd.x hs0 nq E5.sx, st, hk, fun H6 sm6 => ?_⟩
          exact hn _ _ ⟨mm, rfl, E5.same sm6⟩
        · exact hn _ _ ⟨gv, rfl, E5⟩
    · rintro σ H' ⟨v8, v9, v10, v11, x, es, us, rfl, E0, hel⟩
      have hul : us.length = es.length := by have := E0.rep.length; rw [List.length_map] at this; exact this
      refine ⟨_, rfl, s, la, 2, rfl, E0.sr, by decide, by decide, fun r H2 r0 r1 hs2 sx2 => ?_⟩
      have E2 := E0.x nl1 sx2 hs2
      refine ⟨rfl, _, rfl, iteD (fun _ => ?_) (fun _ => ?_)⟩
      · exact ⟨_, rfl, k l us es H2 hl nl1 E2.at_ E2.rep (by omega) E2.bd E2.sr E2.sx⟩
      · refine ⟨by show 0 ≤ sizeLine; omega, fun rw' hrw => ?_⟩
        have hrH : H rw' = none := free_x E2.sx (E2.sr.ne hrw).1 hrw
        obtain ⟨nr1, nr2⟩ := E2.sr.ne hrw
        have nrl : rw' ≠ l := fun z => by rw [z, E2.at_] at hrw; cases hrw
        have S3 := Same.new (o := .lst []) hrw
        have E3 := E2.same S3
        have k3 : (upd H2 rw' (.lst [])) rw' = some (.lst []) := upd_same
        generalize (upd H2 rw' (.lst [])) = H3 at S3 E3 k3 ⊢
        refine gset ?_
        dsimp only
        refine ⟨_, rfl, _, rfl, _, _, rfl, rfl, _, _, rfl, ⟨by omega, by omega, by omega, by omega⟩, ?_⟩
        refine forW_range 20 (by omega) (fun j σ H' => ∃ (v13 : Option V) (ws : List V), σ = [some (.ref s), some (.ref q), some (.ref na), some (.ref b), some (.int m), some (.ref l), some (.str x), some (.int d0), v8, v9, v10, v11, some (.ref rw'), v13] ∧ Ex s la l d0 H H' es us ∧ H' rw' = some (.lst ws) ∧ TR H' ((byD d0 j es).map evV) ws)
          ⟨none, [], rfl, E3, k3, rfl⟩ ?_ ?_
        · rintro j σ H' hj ⟨v13, ws, rfl, E4, hw4, ht4⟩
          have hwl : ws.length ≤ 14 := by have := ht4.length; rw [List.length_map] at this; have := byD_len (lo := d0) (n := j) (es := es); omega
          refine ⟨_, rfl, .inl ⟨rfl, _, SqL.of hw4⟩, _, rfl, l, rfl, ⟨_, SqL.of E4.at_⟩, ?_⟩
          refine comp_list (xs := us) (fun i ys H'' => H'' = H' ∧ TR H' (((es.take i).filter fun e => decide (e.at_ = d0 + j)).map evV) ys) ⟨rfl, rfl⟩ (by omega) (fun i ys H'' _ ⟨e, _⟩ => by rw [e]; exact SqL.of E4.at_)
            (fun i ys H'' ⟨_, e⟩ => by have := e.length; rw [List.length_map] at this; rw [this]; exact Nat.le_trans (List.length_filter_le _ _) (by rw [List.length_take]; omega)) ?_ ?_
          · rintro i y ys H'' hy ⟨rfl, hys⟩ ls hls
            obtain ⟨w0, rfl⟩ := len1 hls
            obtain ⟨e, a, he, rfl, ha⟩ := E4.rep.evGet hy
            have efil : ((es.take (i + 1)).filter fun e => decide (e.at_ = d0 + j)) = ((es.take i).filter fun e => decide (e.at_ = d0 + j)) ++ [e].filter fun e => decide (e.at_ = d0 + j) := by rw [List.take_add_one, he, List.filter_append]; rfl
            refine ⟨⟨[_], rfl, rfl⟩, ?_⟩
            refine ⟨_, rfl, a, _, 0, .int e.at_, rfl, rfl, SqT.of ha, rfl, _, rfl, rfl, _, rfl, iteD (fun c2 => ?_) (fun c2 => ?_)⟩
            · have c3 : e.at_ = d0 + j := by injection c2
              refine ⟨_, rfl, rfl, ?_⟩
              have e1 : ([e].filter fun e => decide (e.at_ = d0 + j)) = [e] := by simp [c3]
              rw [efil, e1, List.map_append]
              exact TR.snoc ha hys
            · refine ⟨rfl, ?_⟩
              have e1 : ([e].filter fun e => decide (e.at_ = d0 + j)) = [] := by simp; exact fun y => c2 (by rw [y])
              rw [efil, e1, List.append_nil]
              exact hys
          · rintro ys H5 ⟨rfl, hys⟩ lq hlq
            rw [hul, List.take_length] at hys
            have S6 := Same.new (o := .lst ys) hlq
            have E6 := E4.same S6
            have k6 : (upd H5 lq (.lst ys)) lq = some (.lst ys) := upd_same
            have hys6 := hys.mono (H' := upd H5 lq (.lst ys)) fun b xs e => S6 _ _ e
            have ht6 := ht4.mono (H' := upd H5 lq (.lst ys)) fun b xs e => S6 _ _ e
            have hw6 := S6 _ _ hw4
            generalize (upd H5 lq (.lst ys)) = H6 at S6 E6 k6 hys6 ht6 hw6 ⊢
            have hyl : ys.length ≤ 14 := by have := hys.length; rw [List.length_map] at this; rw [this]; exact Nat.le_trans (List.length_filter_le _ _) (by omega)
            refine ⟨rw', lq, ws, ys, rfl, rfl, hw6, k6, by omega, ?_⟩
            refine ⟨_, ws ++ ys, rfl, ⟨by rw [upd_ne nrl.symm]; exact E6.at_, E6.rep.mono (upd_tt hw6), E6.bd, E6.sr.keepX SameX.upd nr1 nr2, fun b o nb e => by rw [upd_ne (ne_of_none e hrH)]; exact E6.sx b o nb e⟩, upd_same, ?_⟩
            rw [byD_succ, List.map_append]
            exact (ht6.app hys6).mono (upd_tt hw6)
        · rintro σ H' ⟨v13, ws, rfl, E4, hw4, ht4⟩
          have hbl := byD_len (lo := d0) (n := 20) (es := es)
          exact ⟨_, rfl, k rw' ws (byD d0 20 es) H' hrH nr1 hw4 ht4 (by omega) (fun e he => E4.bd e (mem_byD he)) E4.sr E4.sx⟩
end

section
variable {P : Program} {w : World} {K : PySem.W.Frag} {mg : Str → Option Value} {base : Heap} {C : Addr}
/-! ### a road, step by step -/
structure Fits (ds : List Deed) (es : List Ev) (a s : Stp) : Prop where
  le : a.at_ ≤ s.at_
  gv : s.g = some a.t
  wd : (s.wd = "given" ∧ (⟨s.at_, some a.t, s.t⟩ : Ev) ∈ es) ∨ (s.wd = "won" ∧ (⟨s.at_, none, s.t⟩ : Ev) ∈ es) ∨ (s.wd = "left" ∧ ∃ x, dieOf ds a.t = some x ∧ x.1 ≤ s.at_ ∧ s.t = x.2 ∧ (s.at_ = x.1 ∨ s.at_ = a.at_))
def Chn (ds : List Deed) (es : List Ev) : List Stp → Prop
  | [] => True
  | [_] => True
  | a :: b :: r => Fits ds es a b ∧ Chn ds es (b :: r)
theorem Chn.snoc {ds : List Deed} {es : List Ev} {s : Stp} : ∀ {st : List Stp}, st ≠ [] → Chn ds es st → Fits ds es (lastS st) s → Chn ds es (st ++ [s])
  | [], h, _, _ => absurd rfl h
  | [a], _, _, f => ⟨f, trivial⟩
  | a :: b :: r, _, ⟨h1, h2⟩, f => ⟨h1, Chn.snoc (st := b :: r) (by simp) h2 (by
      have : lastS (a :: b :: r) = lastS (b :: r) := by unfold lastS; simp [List.getLastD]
      rw [this] at f; exact f)⟩
theorem Chn.get {ds : List Deed} {es : List Ev} : ∀ {st : List Stp} {i : Nat} {a b : Stp}, Chn ds es st → st[i]? = some a → st[i + 1]? = some b → Fits ds es a b
  | [], _, _, _, _, e, _ => by simp at e
  | [_], i, _, _, _, _, e => by simp at e
  | x :: y :: r, 0, a, b, h, e1, e2 => by simp at e1 e2; subst e1 e2; exact h.1
  | x :: y :: r, i + 1, a, b, h, e1, e2 => Chn.get (st := y :: r) (i := i) h.2 (by simpa using e1) (by simpa using e2)
/-- what is held of a road whose last event was by day D -/
structure Rd5 (ds : List Deed) (es : List Ev) (n : Str) (d0 D : Int) (st : List Stp) : Prop where
  ne : st ≠ []
  hd : st.head? = some (road0 n d0)
  ch : Chn ds es st
  le : (lastS st).at_ ≤ D
theorem Rd5.snoc {ds : List Deed} {es : List Ev} {n : Str} {d0 D D' : Int} {st : List Stp} {s : Stp} (h : Rd5 ds es n d0 D st) (f : Fits ds es (lastS st) s) (hs : s.at_ ≤ D') : Rd5 ds es n d0 D' (st ++ [s]) := by
  refine ⟨by simp, ?_, h.ch.snoc h.ne f, by rw [lastS_snoc]; exact hs⟩
  obtain ⟨a, r, e⟩ := List.exists_cons_of_ne_nil h.ne
  have := h.hd
  rw [e] at this ⊢
  exact this
theorem Rd5.lv {ds : List Deed} {es : List Ev} {n : Str} {d0 D : Int} {k : Nat} {s : Stp} {l : List Stp} (hl : Lv ds D k s l) : ∀ {st : List Stp}, Rd5 ds es n d0 D st → lastS st = s → Rd5 ds es n d0 D (st ++ l) ∧ deadOn ds (lastS (st ++ l)).t D = false := by
  induction hl with
  | here e => intro st h hs; rw [List.append_nil]; exact ⟨h, by rw [hs]; exact e⟩
  | @step s x k l e1 e2 _ ih =>
    intro st h hs
    have hx : x.1 ≤ D := by unfold deadOn at e2; rw [e1] at e2; exact of_decide_eq_true e2
    have hle := h.le
    rw [hs] at hle
    have f : Fits ds es (lastS st) (leftS s x) := by
      rw [hs]
      unfold leftS
      refine ⟨by dsimp only; split <;> omega, rfl, .inr (.inr ⟨rfl, x, e1, by dsimp only; split <;> omega, rfl, by dsimp only; split <;> omega⟩)⟩
    have h2 := h.snoc (D' := D) f (by unfold leftS; dsimp only; split <;> omega)
    have := ih h2 (lastS_snoc _ _)
    rw [List.append_assoc] at this
    exact this
theorem Rd5.leave {ds : List Deed} {es : List Ev} {n : Str} {d0 D D' : Int} {st : List Stp} (hE : Ends' ds) (h : Rd5 ds es n d0 D st) (hD : D ≤ D') : Rd5 ds es n d0 D' (leave ds D' st) ∧ deadOn ds (lastS (leave ds D' st)).t D' = false := by
  obtain ⟨k, hl, _⟩ := hE.lv D' (lastS st)
  exact Rd5.lv hl ⟨h.ne, h.hd, h.ch, Int.le_trans h.le hD⟩ rfl
theorem Rd5.step {ds : List Deed} {es : List Ev} {n : Str} {d0 D : Int} {st : List Stp} {e : Ev} (hE : Ends' ds) (h : Rd5 ds es n d0 D st) (hD : D ≤ e.at_) (he : e ∈ es) : Rd5 ds es n d0 e.at_ (stepS ds st e) := by
  obtain ⟨h1, _⟩ := h.leave hE hD
  unfold stepS passS
  split
  · rename_i c
    refine h1.snoc ⟨h1.le, rfl, ?_⟩ (Int.le_refl _)
    obtain ⟨ea, eg, et⟩ := e
    cases eg with
    | none => exact .inr (.inl ⟨rfl, he⟩)
    | some g =>
      have : g = (lastS (Law.leave ds ea st)).t := by
        rcases c with c | c
        · cases c
        · exact Option.some.inj c
      exact .inl ⟨rfl, by dsimp only at this ⊢; rw [← this]; exact he⟩
  · exact h1
theorem Rd5.fold {ds : List Deed} {es : List Ev} {n : Str} {d0 : Int} (hE : Ends' ds) : ∀ (ev : List Ev) {D : Int} {st : List Stp}, Rd5 ds es n d0 D st → (∀ e ∈ ev, D = e.at_ ∨ D < e.at_) → (∀ e ∈ ev, e ∈ es) → ∀ D', (∀ e ∈ ev, e.at_ = D') → D ≤ D' → Rd5 ds es n d0 D' (ev.foldl (stepS ds) st)
  | [], D, st, h, _, _, D', _, hD => ⟨h.ne, h.hd, h.ch, Int.le_trans h.le hD⟩
  | e :: r, D, st, h, h1, h2, D', h3, hD => by
    have e3 := h3 e List.mem_cons_self
    have := h.step hE (e := e) (by omega) (h2 e List.mem_cons_self)
    rw [e3] at this
    exact Rd5.fold hE r this (fun x hx => .inl (h3 x (List.mem_cons_of_mem _ hx)).symm) (fun x hx => h2 x (List.mem_cons_of_mem _ hx)) D' (fun x hx => h3 x (List.mem_cons_of_mem _ hx)) (Int.le_refl _)
theorem Rd5.byD {ds : List Deed} {es : List Ev} {n : Str} {d0 : Int} (hE : Ends' ds) : ∀ m : Nat, Rd5 ds es n d0 (d0 + m) ((byD d0 (m + 1) es).foldl (stepS ds) [road0 n d0]) := by
  have h0 : Rd5 ds es n d0 d0 [road0 n d0] := ⟨by simp, rfl, trivial, Int.le_refl _⟩
  have one : ∀ (m : Nat) (D : Int) (st : List Stp), Rd5 ds es n d0 D st → D ≤ d0 + m → Rd5 ds es n d0 (d0 + m) ((es.filter fun e => decide (e.at_ = d0 + m)).foldl (stepS ds) st) := fun m D st h hD => by
    refine Rd5.fold hE _ h (fun e he => ?_) (fun e he => (List.mem_filter.mp he).1) _ (fun e he => of_decide_eq_true (List.mem_filter.mp he).2) hD
    have := of_decide_eq_true (List.mem_filter.mp he).2
    omega
  intro m
  induction m with
  | zero =>
    rw [byD_succ, List.foldl_append]
    exact one 0 d0 _ h0 (by omega)
  | succ m ih =>
    rw [byD_succ, List.foldl_append]
    exact one (m + 1) _ _ ih (by omega)
theorem roadM_ok {ds : List Deed} {es : List Ev} {n : Str} {d0 : Int} (hE : Ends' ds) (m : Nat) : Rd5 ds es n d0 (d0 + m) (roadM ds n d0 es (d0 + m)) ∧ deadOn ds (lastS (roadM ds n d0 es (d0 + m))).t (d0 + m) = false := by
  unfold roadM
  rw [if_neg (by omega), show (d0 + (m : Int) + 1 - d0).toNat = m + 1 by omega]
  exact (Rd5.byD hE m).leave hE (Int.le_refl _)
/-! the road to a day begins the road to the next one -/
theorem pre_leave (ds : List Deed) (D : Int) (st : List Stp) : st <+: leave ds D st := List.prefix_append _ _
theorem pre_step (ds : List Deed) (st : List Stp) (e : Ev) : leave ds e.at_ st <+: stepS ds st e := by
  unfold stepS passS
  split
  · exact List.prefix_append _ _
  · exact List.prefix_rfl
theorem pre_fold (ds : List Deed) : ∀ (ev : List Ev) (st : List Stp), st <+: ev.foldl (stepS ds) st
  | [], st => List.prefix_rfl
  | e :: r, st => ((pre_leave ds e.at_ st).trans (pre_step ds st e)).trans (pre_fold ds r _)
theorem pre_lv {ds : List Deed} {D D' : Int} (h : D ≤ D') : ∀ (n : Nat) (s : Stp), lvF ds D n s <+: lvF ds D' n s
  | 0, _ => List.prefix_rfl
  | n + 1, s => by
    rw [lvF, lvF]
    cases e : dieOf ds s.t with
    | none => exact List.prefix_rfl
    | some x =>
      dsimp only
      by_cases c : x.1 ≤ D
      · rw [if_pos c, if_pos (by omega)]
        exact (List.prefix_cons_inj _).mpr (pre_lv h n _)
      · rw [if_neg c]; exact List.nil_prefix
theorem pre_leave2 {ds : List Deed} {D D' : Int} (h : D ≤ D') (st : List Stp) : leave ds D st <+: leave ds D' st := (List.prefix_append_right_inj _).mpr (pre_lv h _ _)
theorem roadM_pre {ds : List Deed} {es : List Ev} {n : Str} {d0 : Int} (m : Nat) : roadM ds n d0 es (d0 + m) <+: roadM ds n d0 es (d0 + (m + 1 : Nat)) := by
  unfold roadM
  rw [if_neg (by omega), if_neg (by omega), show (d0 + (m : Int) + 1 - d0).toNat = m + 1 by omega, show (d0 + ((m + 1 : Nat) : Int) + 1 - d0).toNat = m + 1 + 1 by omega, byD_succ (n := m + 1), List.foldl_append]
  generalize (byD d0 (m + 1) es).foldl (stepS ds) [road0 n d0] = st
  have hev : ∀ e ∈ es.filter (fun e => decide (e.at_ = d0 + ((m + 1 : Nat) : Int))), e.at_ = d0 + ((m + 1 : Nat) : Int) := fun e he => of_decide_eq_true (List.mem_filter.mp he).2
  generalize es.filter (fun e => decide (e.at_ = d0 + ((m + 1 : Nat) : Int))) = ev at hev
  cases ev with
  | nil => exact pre_leave2 (by omega) st
  | cons e r =>
    have e1 := hev e List.mem_cons_self
    refine (((pre_leave2 (D' := e.at_) (by omega) st).trans (pre_step ds st e)).trans (pre_fold ds r _)).trans (pre_leave ds _ _)
end

section
variable {P : Program} {w : World} {K : PySem.W.Frag} {mg : Str → Option Value} {base : Heap} {C : Addr}
theorem deep_oD (o : Option Str) : (oD o).deep = 0 := by cases o <;> rfl
theorem deep_st (b : Stp) : (stD b).deep ≤ 4 := by
  show max 0 (max 0 (max (oD b.g).deep (max 0 0))) + 1 ≤ 4
  rw [deep_oD]; omega
theorem deep_sts (rs : List Stp) : (D.lst (rs.map stD)).deep ≤ 4 := by
  have : ∀ rs : List Stp, deepL (rs.map stD) ≤ 1 := by
    intro rs
    induction rs with
    | nil => exact Nat.zero_le _
    | cons b r ih =>
      rw [List.map_cons, deepL]
      show max (max 0 (max 0 (max (oD b.g).deep (max 0 0))) + 1) _ ≤ 1
      rw [deep_oD]; omega
  show deepL _ + 1 ≤ 4
  have := this rs
  omega
theorem roadM_len {ds : List Deed} (hE : Ends' ds) {n : Str} {d0 day : Int} {es : List Ev} (h : es.length ≤ 60) : (roadM ds n d0 es day).length ≤ 4000 := by
  unfold roadM
  split
  · exact Nat.zero_le _
  · have h1 := leave_len hE day ((byD d0 (day + 1 - d0).toNat es).foldl (stepS ds) [road0 n d0])
    have h2 := fold_len hE (byD d0 (day + 1 - d0).toNat es) [road0 n d0]
    have h3 := byD_len (lo := d0) (n := (day + 1 - d0).toNat) (es := es)
    have h4 : ([road0 n d0] : List Stp).length = 1 := rfl
    omega
theorem IsTab.src {H H' : Hp} {T s la : Addr} {nm : Str} (h : IsTab H T nm) (hs : SrcAt H s la) (k : SameX s H H') : IsTab H' T nm := by
  obtain ⟨_, _, _, _, _, a, _⟩ := hs
  exact h.x a k
theorem TR.tups {H : Hp} : ∀ {xs : List (List V)} {vs : List V}, TR H xs vs → TupsL H xs vs
  | [], _, h => h
  | _ :: _, _, ⟨a, vs', e, h1, h2⟩ => ⟨a, vs', e, h1, TR.tups h2⟩
theorem sc_ev (e : Ev) : ∀ x ∈ evV e, sc x = true := by
  intro x hx
  obtain ⟨ea, eg, et⟩ := e
  unfold evV at hx
  simp only [List.mem_cons, List.not_mem_nil, or_false] at hx
  rcases hx with rfl | rfl | rfl | rfl
  · rfl
  · rfl
  · cases eg <;> rfl
  · rfl
theorem sc_evs (es : List Ev) : ∀ p ∈ es.map evV, ∀ x ∈ p, sc x = true := by
  intro p hp
  obtain ⟨e, _, rfl⟩ := List.mem_map.mp hp
  exact sc_ev e
def spFits : Sp := fun vs H Q _ => ∃ (q le a2 a1 : Addr) (ds : List Deed) (us : List V) (es : List Ev) (s a : Stp), vs = [.ref q, .ref le, .ref a2, .ref a1] ∧ DeedsAt H q ds ∧ H le = some (.lst us) ∧ TR H (es.map evV) us ∧ H a2 = some (.tup (stV s)) ∧ H a1 = some (.tup (stV a)) ∧ Fits ds es a s ∧ ∀ H', Same H H' → Q (.bl true) H'
abbrev s_law_step_fits : Stmt := top 45
theorem sc__law_step_fits : FnScope ["_law_deeds", "_law_events_here", "_law_step", "_law_ahead", "_law_day", "_law_word_here", "_law_giver", "_law_taker", "_law_died", "_law_heir_here"] ["_law_deeds", "_law_events_here", "_law_step", "_law_ahead"] (defScope s_law_step_fits) := ⟨rfl, rfl, rfl, by decide +kernel, rfl, by decide +kernel, by decide +kernel⟩
theorem nm__law_step_fits__law_ahead : Nm (defScope s_law_step_fits) "_law_ahead" .local := by decide +kernel
theorem nm__law_step_fits__law_day : Nm (defScope s_law_step_fits) "_law_day" .local := by decide +kernel
theorem nm__law_step_fits__law_death : Nm (defScope s_law_step_fits) "_law_death" .globalImplicit := by decide +kernel
theorem nm__law_step_fits__law_deeds : Nm (defScope s_law_step_fits) "_law_deeds" .local := by decide +kernel
theorem nm__law_step_fits__law_died : Nm (defScope s_law_step_fits) "_law_died" .local := by decide +kernel
theorem nm__law_step_fits__law_events_here : Nm (defScope s_law_step_fits) "_law_events_here" .local := by decide +kernel
theorem nm__law_step_fits__law_giver : Nm (defScope s_law_step_fits) "_law_giver" .local := by decide +kernel
theorem nm__law_step_fits__law_heir_here : Nm (defScope s_law_step_fits) "_law_heir_here" .local := by decide +kernel
theorem nm__law_step_fits__law_is_dead : Nm (defScope s_law_step_fits) "_law_is_dead" .globalImplicit := by decide +kernel
theorem nm__law_step_fits__law_same : Nm (defScope s_law_step_fits) "_law_same" .globalImplicit := by decide +kernel
theorem nm__law_step_fits__law_step : Nm (defScope s_law_step_fits) "_law_step" .local := by decide +kernel
theorem nm__law_step_fits__law_taker : Nm (defScope s_law_step_fits) "_law_taker" .local := by decide +kernel
theorem nm__law_step_fits__law_whole : Nm (defScope s_law_step_fits) "_law_whole" .globalImplicit := by decide +kernel
theorem nm__law_step_fits__law_word_here : Nm (defScope s_law_step_fits) "_law_word_here" .local := by decide +kernel
theorem nm__law_step_fits_isinstance : Nm (defScope s_law_step_fits) "isinstance" .globalImplicit := by decide +kernel
theorem nm__law_step_fits_len : Nm (defScope s_law_step_fits) "len" .globalImplicit := by decide +kernel
theorem nm__law_step_fits_tuple : Nm (defScope s_law_step_fits) "tuple" .globalImplicit := by decide +kernel
theorem f__law_step_fits (h__law_step_fits : Has K mg "_law_step_fits" s_law_step_fits) (T : Txt mg) (F__law_whole : Fn P w K mg base "_law_whole" ["_law_found"] 1 spWhole) (F__law_same : Fn P w K mg base "_law_same" ["_law_found", "_law_due"] 6 (spSame 4)) (F__law_death : Fn P w K mg base "_law_death" ["_law_deeds", "_law_name"] 1 spDeath) (F__law_is_dead : Fn P w K mg base "_law_is_dead" ["_law_deeds", "_law_name", "_law_day"] 2 spIsDead) :
    Fn P w K mg base "_law_step_fits" ["_law_deeds", "_law_events_here", "_law_step", "_law_ahead"] 7 spFits := by
  refine h__law_step_fits.fnQ sc__law_step_fits (fun _ _ _ _ _ _ us hl => match us, hl with | [_, _, _, _], _ => rfl) (fun vs H Q E h => ?_) (fun f cdv A outer s H vs Q E hr h => ?_)
  · obtain ⟨q, le, a2, a1, ds, us, es, s, a, rfl, _⟩ := h
    rfl
  · obtain ⟨q, le, a2, a1, ds, us, es, s, a, rfl, hd, hle, htr, h2, h1, hF, k⟩ := h
    refine ⟨_, (qss_cons (qs_if (QW.pt (qw_or (qt_not (qt_val (qe_callBN qcall_isinst nm__law_step_fits_isinstance T.isinstance b_isinstance (qa_cons (qvN 2 nm__law_step_fits__law_step) (qa_cons (qe_bltnN (v := .ty "tuple") nm__law_step_fits_tuple T.tuple b_tuple rfl) qa_nil))))) (qw_or (qt_cmpR qop_ne (qe_callBN qcall_len_seq nm__law_step_fits_len T.len b_len (qa_cons (qvN 2 nm__law_step_fits__law_step) qa_nil)) qe_int (nomark _)) (qw_or1 (qt_not (qt_val (qe_fnN F__law_whole (hr.mono (by omega)) nm__law_step_fits__law_whole (qa_cons (qe_ix qix_tup (qvN 2 nm__law_step_fits__law_step) qe_int (fun _ _ => rfl)) qa_nil)))))))) (qss_one (qs_ret qe_bl)) qss_nil)
 (qss_cons (qs_asg (qvN 2 nm__law_step_fits__law_step) (qg_tup (by rfl) (qgs_cons (qg_nameN (i := 4) sc__law_step_fits.nd nm__law_step_fits__law_day) (qgs_cons (qg_nameN (i := 5) sc__law_step_fits.nd nm__law_step_fits__law_word_here) (qgs_cons (qg_nameN (i := 6) sc__law_step_fits.nd nm__law_step_fits__law_giver) (qgs_cons (qg_nameN (i := 7) sc__law_step_fits.nd nm__law_step_fits__law_taker) qgs_nil))))))
 (qss_cons (qs_if (QW.pt (qw_or (qt_cmpR qop_lt (qvN 4 nm__law_step_fits__law_day) (qe_ix qix_tup (qvN 3 nm__law_step_fits__law_ahead) qe_int (fun _ _ => rfl)) (nomark _)) (qw_or1 (qt_not (qt_val (qe_fnN F__law_same (hr.mono (by omega)) nm__law_step_fits__law_same (qa_cons (qvN 6 nm__law_step_fits__law_giver) (qa_cons (qe_ix qix_tup (qvN 3 nm__law_step_fits__law_ahead) qe_int (fun _ _ => rfl)) qa_nil)))))))) (qss_one (qs_ret qe_bl)) qss_nil)
 (qss_cons (qs_if (qt_cmpR qop_eq (qvN 5 nm__law_step_fits__law_word_here) qe_str (nomark _)) (qss_one (qs_ret (qe_cmpR (qop_inT hr) (qe_tup (qa_cons (qvN 4 nm__law_step_fits__law_day) (qa_cons qe_str (qa_cons (qvN 6 nm__law_step_fits__law_giver) (qa_cons (qvN 7 nm__law_step_fits__law_taker) qa_nil))))) (qvN 1 nm__law_step_fits__law_events_here) rfl))) qss_nil)
 (qss_cons (qs_if (qt_cmpR qop_eq (qvN 5 nm__law_step_fits__law_word_here) qe_str (nomark _)) (qss_one (qs_ret (qe_cmpR (qop_inT hr) (qe_tup (qa_cons (qvN 4 nm__law_step_fits__law_day) (qa_cons qe_str (qa_cons qe_non (qa_cons (qvN 7 nm__law_step_fits__law_taker) qa_nil))))) (qvN 1 nm__law_step_fits__law_events_here) rfl))) qss_nil)
 (qss_cons (qs_if (QW.pt (qw_or (qt_cmpR qop_ne (qvN 5 nm__law_step_fits__law_word_here) qe_str (nomark _)) (qw_or1 (qt_not (qt_val (qe_fnN F__law_is_dead (hr.mono (by omega)) nm__law_step_fits__law_is_dead (qa_cons (qvN 0 nm__law_step_fits__law_deeds) (qa_cons (qvN 6 nm__law_step_fits__law_giver) (qa_cons (qvN 4 nm__law_step_fits__law_day) qa_nil))))))))) (qss_one (qs_ret qe_bl)) qss_nil)
 (qss_cons (qs_asg (qe_fnN F__law_death (hr.mono (by omega)) nm__law_step_fits__law_death (qa_cons (qvN 0 nm__law_step_fits__law_deeds) (qa_cons (qvN 6 nm__law_step_fits__law_giver) qa_nil))) (qg_tup (by rfl) (qgs_cons (qg_nameN (i := 8) sc__law_step_fits.nd nm__law_step_fits__law_died) (qgs_cons (qg_nameN (i := 9) sc__law_step_fits.nd nm__law_step_fits__law_heir_here) qgs_nil))))
 (qss_one (qs_ret (qe_and (qe_fnN F__law_same (hr.mono (by omega)) nm__law_step_fits__law_same (qa_cons (qvN 7 nm__law_step_fits__law_taker) (qa_cons (qvN 9 nm__law_step_fits__law_heir_here) qa_nil))) (qe_one (qe_or (qe_cmpR qop_eq (qvN 4 nm__law_step_fits__law_day) (qvN 8 nm__law_step_fits__law_died) (nomark _)) (qe_one (qe_cmpR qop_eq (qvN 4 nm__law_step_fits__law_day) (qe_ix qix_tup (qvN 3 nm__law_step_fits__law_ahead) qe_int (fun _ _ => rfl)) (nomark _))))))))))))))), ?_⟩
    have hz : (5000 : Nat) ≤ sizeLine := by decide
    obtain ⟨sat, sw, sg, st⟩ := s
    obtain ⟨f1, f2, f3⟩ := hF
    dsimp only at f1 f2 f3
    subst f2
    refine ⟨_, rfl, .ref a2, "tuple", .type "tuple", true, rfl, .tup h2, ii_same "tuple", _, rfl, iteF ?_⟩
    refine ⟨_, rfl, a2, _, rfl, .inr (SqT.of h2), rfl, _, rfl, iteND (fun z => absurd rfl z) (fun _ => ?_)⟩
    refine ⟨_, rfl, a2, _, 0, .int sat, rfl, rfl, SqT.of h2, rfl, .int sat, .int sat, rfl, rfl, _, rfl, iteF ?_⟩
    refine ⟨_, rfl, a2, _, rfl, SqT.of h2, rfl, _, _, rfl, _, _, rfl, _, _, rfl, _, _, rfl, rfl, ?_⟩
    dsimp only
    refine ⟨_, rfl, _, rfl, a1, _, 0, .int a.at_, rfl, rfl, SqT.of h1, rfl, _, _, rfl, rfl, _, rfl, iteD (fun c => absurd c (by omega)) (fun _ => ?_)⟩
    refine ⟨_, rfl, _, rfl, a1, _, 3, .str a.t, rfl, rfl, SqT.of h1, rfl, .str a.t, .str a.t, .str a.t, .str a.t, rfl, rfl, rfl, Nat.zero_le _, fun H1 sm1 => ⟨_, rfl, ?_⟩⟩
    rw [sameD_refl]
    refine iteF ?_
    rcases f3 with ⟨rfl, hm⟩ | ⟨rfl, hm⟩ | ⟨rfl, x, hx, x1, rfl, x3⟩
    · refine ⟨_, rfl, rfl, _, rfl, iteD (fun _ => ?_) (fun z => absurd rfl z)⟩
      refine ⟨_, rfl, _, rfl, _, rfl, by show 4 ≤ sizeLine; omega, fun p hp => ?_⟩
      have S2 := sm1.trans (Same.new (o := .tup [.int sat, .str "given", .str a.t, .str st]) hp)
      refine ⟨_, rfl, p, le, evV ⟨sat, some a.t, st⟩, es.map evV, us, rfl, upd_same, rfl, SqL.of (S2 _ _ hle), (htr.mono (fun b xs e => S2 _ _ e)).tups, sc_ev _, sc_evs _, ?_⟩
      rw [decide_eq_true (List.mem_map.mpr ⟨_, hm, rfl⟩)]
      exact k _ S2
    · refine ⟨_, rfl, rfl, _, rfl, iteD (fun z => absurd z (ne_word (by decide +kernel))) (fun _ => ?_)⟩
      refine ⟨_, rfl, rfl, _, rfl, iteD (fun _ => ?_) (fun z => absurd rfl z)⟩
      refine ⟨_, rfl, _, rfl, by show 4 ≤ sizeLine; omega, fun p hp => ?_⟩
      have S2 := sm1.trans (Same.new (o := .tup [.int sat, .str "won", .non, .str st]) hp)
      refine ⟨_, rfl, p, le, evV ⟨sat, none, st⟩, es.map evV, us, rfl, upd_same, rfl, SqL.of (S2 _ _ hle), (htr.mono (fun b xs e => S2 _ _ e)).tups, sc_ev _, sc_evs _, ?_⟩
      rw [decide_eq_true (List.mem_map.mpr ⟨_, hm, rfl⟩)]
      exact k _ S2
    · refine ⟨_, rfl, rfl, _, rfl, iteD (fun z => absurd z (ne_word (by decide +kernel))) (fun _ => ?_)⟩
      refine ⟨_, rfl, rfl, _, rfl, iteD (fun z => absurd z (ne_word (by decide +kernel))) (fun _ => ?_)⟩
      refine ⟨_, rfl, rfl, _, rfl, iteND (fun z => absurd rfl z) (fun _ => ?_)⟩
      have hdead : deadOn ds a.t sat = true := by unfold deadOn; rw [hx]; exact decide_eq_true x1
      refine ⟨_, rfl, _, rfl, _, rfl, q, ds, a.t, sat, rfl, hd.mono sm1, fun H2 sm2 => ⟨_, rfl, ?_⟩⟩
      rw [hdead]
      refine iteF ?_
      refine ⟨_, rfl, _, rfl, q, ds, a.t, rfl, hd.mono (sm1.trans sm2), (fun e => by rw [hx] at e; cases e), fun y p H3 e hp sm3 => ?_⟩
      rw [hx] at e
      cases e
      refine ⟨p, _, rfl, SqT.of hp, rfl, _, _, rfl, _, _, rfl, rfl, ?_⟩
      dsimp only
      refine ⟨_, rfl, _, rfl, .str x.2, .str x.2, .str x.2, .str x.2, rfl, rfl, rfl, Nat.zero_le _, fun H4 sm4 => ?_⟩
      rw [sameD_refl]
      have S4 := ((sm1.trans sm2).trans sm3).trans sm4
      refine ⟨_, rfl, iteT ?_⟩
      refine ⟨_, rfl, _, rfl, rfl, _, rfl, iteD (fun _ => k H4 S4) (fun z => ?_)⟩
      have e2 : sat = a.at_ := x3.resolve_left fun y => z (by rw [y])
      refine ⟨_, rfl, _, rfl, a1, _, 0, .int a.at_, rfl, rfl, SqT.of (S4 _ _ h1), rfl, rfl, ?_⟩
      rw [decide_eq_true (by rw [e2])]
      exact k H4 S4
def spWalks : Sp := fun vs H Q _ => ∃ (q b le l : Addr) (ds : List Deed) (us ws : List V) (es : List Ev) (st : List Stp) (n : Str) (d0 day : Int), vs = [.ref q, .ref b, .ref le, .ref l, .int day] ∧ DeedsAt H q ds ∧ H b = some (.tup [.str n, .int d0]) ∧ H le = some (.lst us) ∧ TR H (es.map evV) us ∧ H l = some (.lst ws) ∧ TR H (st.map stV) ws ∧ Rd5 ds es n d0 day st ∧ deadOn ds (lastS st).t day = false ∧ st.length ≤ 4000 ∧
  ∀ H', Same H H' → Q (.bl true) H'
abbrev s_law_walks : Stmt := top 46
theorem sc__law_walks : FnScope ["_law_deeds", "_law_brought", "_law_events_here", "_law_found", "_law_day", "_law_at"] ["_law_deeds", "_law_brought", "_law_events_here", "_law_found", "_law_day"] (defScope s_law_walks) := ⟨rfl, rfl, rfl, by decide +kernel, rfl, by decide +kernel, by decide +kernel⟩
theorem nm__law_walks__law_at : Nm (defScope s_law_walks) "_law_at" .local := by decide +kernel
theorem nm__law_walks__law_brought : Nm (defScope s_law_walks) "_law_brought" .local := by decide +kernel
theorem nm__law_walks__law_day : Nm (defScope s_law_walks) "_law_day" .local := by decide +kernel
theorem nm__law_walks__law_deeds : Nm (defScope s_law_walks) "_law_deeds" .local := by decide +kernel
theorem nm__law_walks__law_events_here : Nm (defScope s_law_walks) "_law_events_here" .local := by decide +kernel
theorem nm__law_walks__law_found : Nm (defScope s_law_walks) "_law_found" .local := by decide +kernel
theorem nm__law_walks__law_is_dead : Nm (defScope s_law_walks) "_law_is_dead" .globalImplicit := by decide +kernel
theorem nm__law_walks__law_same : Nm (defScope s_law_walks) "_law_same" .globalImplicit := by decide +kernel
theorem nm__law_walks__law_step_fits : Nm (defScope s_law_walks) "_law_step_fits" .globalImplicit := by decide +kernel
theorem nm__law_walks_isinstance : Nm (defScope s_law_walks) "isinstance" .globalImplicit := by decide +kernel
theorem nm__law_walks_len : Nm (defScope s_law_walks) "len" .globalImplicit := by decide +kernel
theorem nm__law_walks_list : Nm (defScope s_law_walks) "list" .globalImplicit := by decide +kernel
theorem nm__law_walks_range : Nm (defScope s_law_walks) "range" .globalImplicit := by decide +kernel
theorem f__law_walks (h__law_walks : Has K mg "_law_walks" s_law_walks) (T : Txt mg) (F__law_same : Fn P w K mg base "_law_same" ["_law_found", "_law_due"] 6 (spSame 4)) (F__law_step_fits : Fn P w K mg base "_law_step_fits" ["_law_deeds", "_law_events_here", "_law_step", "_law_ahead"] 7 spFits) (F__law_is_dead : Fn P w K mg base "_law_is_dead" ["_law_deeds", "_law_name", "_law_day"] 2 spIsDead) :
    Fn P w K mg base "_law_walks" ["_law_deeds", "_law_brought", "_law_events_here", "_law_found", "_law_day"] 8 spWalks := by
  refine h__law_walks.fnQ sc__law_walks (fun _ _ _ _ _ _ us hl => match us, hl with | [_, _, _, _, _], _ => rfl) (fun vs H Q E h => ?_) (fun f cdv A outer s H vs Q E hr h => ?_)
  · obtain ⟨q, b, le, l, ds, us, ws, es, st, n, d0, day, rfl, _⟩ := h
    rfl
  · obtain ⟨q, b, le, l, ds, us, ws, es, st, n, d0, day, rfl, hd, hb, hle, htr, hl, htw, hR, hdead, hlen, k⟩ := h
    refine ⟨_, (qss_cons (qs_if (QW.pt (qw_or (qt_not (qt_val (qe_callBN qcall_isinst nm__law_walks_isinstance T.isinstance b_isinstance (qa_cons (qvN 3 nm__law_walks__law_found) (qa_cons (qe_bltnN (v := .ty "list") nm__law_walks_list T.list b_list rfl) qa_nil))))) (qw_or1 (qt_cmpR qop_eq (qe_callBN qcall_len_seq nm__law_walks_len T.len b_len (qa_cons (qvN 3 nm__law_walks__law_found) qa_nil)) qe_int (nomark _))))) (qss_one (qs_ret qe_bl)) qss_nil)
 (qss_cons (qs_if (qt_not (qt_val (qe_fnN F__law_same (hr.mono (by omega)) nm__law_walks__law_same (qa_cons (qe_ix qix_list (qvN 3 nm__law_walks__law_found) qe_int (fun _ _ => rfl)) (qa_cons (qe_tup (qa_cons (qe_ix qix_tup (qvN 1 nm__law_walks__law_brought) qe_int (fun _ _ => rfl)) (qa_cons qe_str (qa_cons qe_non (qa_cons (qe_ix qix_tup (qvN 1 nm__law_walks__law_brought) qe_int (fun _ _ => rfl)) qa_nil))))) qa_nil))))) (qss_one (qs_ret qe_bl)) qss_nil)
 (qss_cons (qs_for PassesOwn.never rfl (qi_range2 nm__law_walks_range.1 T.range (qa_cons qe_int (qa_cons (qe_callBN qcall_len_seq nm__law_walks_len T.len b_len (qa_cons (qvN 3 nm__law_walks__law_found) qa_nil)) qa_nil))) (qg_nameN (i := 5) sc__law_walks.nd nm__law_walks__law_at)
  (qss_one (qs_if (qt_not (qt_val (qe_fnN F__law_step_fits (hr.mono (by omega)) nm__law_walks__law_step_fits (qa_cons (qvN 0 nm__law_walks__law_deeds) (qa_cons (qvN 2 nm__law_walks__law_events_here) (qa_cons (qe_ix qix_list (qvN 3 nm__law_walks__law_found) (qvN 5 nm__law_walks__law_at) (fun _ _ => rfl)) (qa_cons (qe_ix qix_list (qvN 3 nm__law_walks__law_found) (qe_op qop_sub (qvN 5 nm__law_walks__law_at) qe_int) (fun _ _ => rfl)) qa_nil))))))) (qss_one (qs_ret qe_bl)) qss_nil)))
 (qss_one (qs_ret (qe_and (qe_cmpR qop_le (qe_ix qix_tup (qe_ix qix_list (qvN 3 nm__law_walks__law_found) (qe_un qop_neg qe_int) (fun _ _ => rfl)) qe_int (fun _ _ => rfl)) (qvN 4 nm__law_walks__law_day) (nomark _)) (qe_one (qe_not (qe_fnN F__law_is_dead (hr.mono (by omega)) nm__law_walks__law_is_dead (qa_cons (qvN 0 nm__law_walks__law_deeds) (qa_cons (qe_ix qix_tup (qe_ix qix_list (qvN 3 nm__law_walks__law_found) (qe_un qop_neg qe_int) (fun _ _ => rfl)) qe_int (fun _ _ => rfl)) (qa_cons (qvN 4 nm__law_walks__law_day) qa_nil)))))))))))), ?_⟩
    have hz : (5000 : Nat) ≤ sizeLine := by decide
    have hwl : ws.length = st.length := by have := htw.length; rw [List.length_map] at this; exact this
    have hne := List.length_pos_iff.mpr hR.ne
    refine ⟨_, rfl, .ref l, "list", .type "list", true, rfl, .lst hl, ii_same "list", _, rfl, iteF ?_⟩
    refine ⟨_, rfl, l, _, rfl, .inl (SqL.of hl), rfl, _, rfl, iteD (fun z => absurd z (fun y => by injection y with y; omega)) (fun _ => ?_)⟩
    have stGet : ∀ {H' : Hp} {i : Nat}, Same H H' → i < st.length → ∃ s a, st[i]? = some s ∧ ws[i]? = some (.ref a) ∧ H' a = some (.tup (stV s)) := fun {H' i} sm hi => by
      obtain ⟨x, a, e1, e2, e3⟩ := htw.get (List.getElem?_eq_getElem (show i < ws.length by omega))
      rw [List.getElem?_map] at e1
      obtain ⟨s, h1, h2⟩ := Option.map_eq_some_iff.mp e1
      subst h2
      exact ⟨s, a, h1, by rw [List.getElem?_eq_getElem (by omega), e2], sm _ _ e3⟩
    obtain ⟨s0, a0, e0, w0, h0⟩ := stGet (Same.refl H) hne
    have es0 : s0 = road0 n d0 := by
      have := hR.hd
      rw [List.head?_eq_getElem?, e0] at this
      exact Option.some.inj this
    subst es0
    refine ⟨_, rfl, l, ws, 0, .ref a0, rfl, rfl, SqL.of hl, atI_nat w0, ?_⟩
    refine ⟨_, rfl, b, _, 1, .int d0, rfl, rfl, SqT.of hb, rfl, _, rfl, b, _, 0, .str n, rfl, rfl, SqT.of hb, rfl, by show 4 ≤ sizeLine; omega, fun p hp => ?_⟩
    have S1 := Same.new (o := .tup [.int d0, .str "brought", .non, .str n]) hp
    have k1 : (upd H p (.tup [.int d0, .str "brought", .non, .str n])) p = some (.tup (stV (road0 n d0))) := upd_same
    generalize (upd H p (.tup [.int d0, .str "brought", .non, .str n])) = H1 at S1 k1 ⊢
    refine ⟨.ref a0, .ref p, stD (road0 n d0), stD (road0 n d0), rfl, rep_st (S1 _ _ h0), rep_st k1, deep_st _, fun H2 sm2 => ⟨_, rfl, ?_⟩⟩
    rw [sameD_refl]
    refine iteF ?_
    have S2 := S1.trans sm2
    refine ⟨_, rfl, l, _, rfl, .inl (SqL.of (S2 _ _ hl)), _, _, rfl, ⟨by omega, by omega, by omega, by omega⟩, ?_⟩
    refine forW_range (st.length - 1) (by omega) (fun i σ H' => ∃ v5 : Option V, σ = [some (.ref q), some (.ref b), some (.ref le), some (.ref l), some (.int day), v5] ∧ Same H H') ⟨none, rfl, S2⟩ ?_ ?_
    · rintro i σ H' hi ⟨v5, rfl, sm⟩
      obtain ⟨s1, a1, e1, w1, h1⟩ := stGet sm (i := i + 1) (by omega)
      obtain ⟨s2, a2, e2, w2, h2⟩ := stGet sm (i := i) (by omega)
      have i1 : atI ws (1 + (i : Nat)) = some (.ref a1) := by rw [show ((1 : Int) + (i : Nat)) = ((i + 1 : Nat) : Int) by omega]; exact atI_nat w1
      have i2 : atI ws (1 + (i : Nat) - 1) = some (.ref a2) := by rw [show ((1 : Int) + (i : Nat) - 1) = (i : Int) by omega]; exact atI_nat w2
      refine ⟨_, rfl, _, rfl, _, rfl, _, rfl, l, ws, _, .ref a1, rfl, rfl, SqL.of (sm _ _ hl), i1, _, rfl, _, rfl, _, _, rfl, rfl, l, ws, _, .ref a2, rfl, rfl, SqL.of (sm _ _ hl), i2, q, le, a1, a2, ds, us, es, s1, s2, rfl, hd.mono sm, sm _ _ hle, htr.mono (fun b xs e => sm _ _ e), h1, h2, hR.ch.get e2 e1, fun H3 sm3 => ⟨_, rfl, iteF ?_⟩⟩
      exact ⟨_, rfl, sm.trans sm3⟩
    · rintro σ H' ⟨v5, rfl, sm⟩
      obtain ⟨ss, ess⟩ := lastS_ne hR.ne
      have htw' := htw
      rw [ess, List.map_append] at htw'
      obtain ⟨us0, a, eus, _, ha⟩ := TR.last htw'
      have at1 : atI ws (-1) = some (.ref a) := by rw [eus]; exact atI_last
      refine ⟨_, rfl, _, rfl, l, ws, -1, .ref a, rfl, rfl, SqL.of (sm _ _ hl), at1, a, _, 0, .int (lastS st).at_, rfl, rfl, SqT.of (sm _ _ ha), rfl, _, rfl, _, _, rfl, rfl, _, rfl, iteD (fun _ => ?_) (fun c => absurd hR.le c)⟩
      refine ⟨_, rfl, _, rfl, _, rfl, l, ws, -1, .ref a, rfl, rfl, SqL.of (sm _ _ hl), at1, a, _, 3, .str (lastS st).t, rfl, rfl, SqT.of (sm _ _ ha), rfl, _, rfl, q, ds, (lastS st).t, day, rfl, hd.mono sm, fun H3 sm3 => ⟨_, rfl, ?_⟩⟩
      rw [hdead]
      exact k H3 (sm.trans sm3)
abbrev s_law : Stmt := top 47
theorem sc_law : FnScope ["_law_script", "_law_src_here", "_law_names_here", "_law_folk_here", "_law_deeds", "_law_brought", "_law_events_here", "_law_before", "_law_day", "_law_found"] ["_law_script"] (defScope s_law) := ⟨rfl, rfl, rfl, by decide +kernel, rfl, by decide +kernel, by decide +kernel⟩
theorem nm_law_Folk : Nm (defScope s_law) "Folk" .globalImplicit := by decide +kernel
theorem nm_law__law_before : Nm (defScope s_law) "_law_before" .local := by decide +kernel
theorem nm_law__law_brought : Nm (defScope s_law) "_law_brought" .local := by decide +kernel
theorem nm_law__law_day : Nm (defScope s_law) "_law_day" .local := by decide +kernel
theorem nm_law__law_deeds : Nm (defScope s_law) "_law_deeds" .local := by decide +kernel
theorem nm_law__law_events : Nm (defScope s_law) "_law_events" .globalImplicit := by decide +kernel
theorem nm_law__law_events_here : Nm (defScope s_law) "_law_events_here" .local := by decide +kernel
theorem nm_law__law_folk : Nm (defScope s_law) "_law_folk" .globalImplicit := by decide +kernel
theorem nm_law__law_folk_here : Nm (defScope s_law) "_law_folk_here" .local := by decide +kernel
theorem nm_law__law_found : Nm (defScope s_law) "_law_found" .local := by decide +kernel
theorem nm_law__law_names : Nm (defScope s_law) "_law_names" .globalImplicit := by decide +kernel
theorem nm_law__law_names_here : Nm (defScope s_law) "_law_names_here" .local := by decide +kernel
theorem nm_law__law_next : Nm (defScope s_law) "_law_next" .globalImplicit := by decide +kernel
theorem nm_law__law_same : Nm (defScope s_law) "_law_same" .globalImplicit := by decide +kernel
theorem nm_law__law_script : Nm (defScope s_law) "_law_script" .local := by decide +kernel
theorem nm_law__law_src : Nm (defScope s_law) "_law_src" .globalImplicit := by decide +kernel
theorem nm_law__law_src_here : Nm (defScope s_law) "_law_src_here" .local := by decide +kernel
theorem nm_law__law_walks : Nm (defScope s_law) "_law_walks" .globalImplicit := by decide +kernel
theorem nm_law_holder : Nm (defScope s_law) "holder" .globalImplicit := by decide +kernel
theorem nm_law_len : Nm (defScope s_law) "len" .globalImplicit := by decide +kernel
theorem nm_law_list : Nm (defScope s_law) "list" .globalImplicit := by decide +kernel
theorem nm_law_range : Nm (defScope s_law) "range" .globalImplicit := by decide +kernel
theorem nm_law_road : Nm (defScope s_law) "road" .globalImplicit := by decide +kernel
theorem f_law {f Tt : Addr} {fd : FuncData} {ts : List Tb} (hts : ∃ c, (⟨c, Tt, dayNm⟩ : Tb) ∈ ts) (F_law : Fun K "law" "law" s_law f fd) (T0 : Txt mg) (Tc : TxC K C) (F__law_src : Fn P w K mg base "_law_src" ["_law_script"] 1 (spSrc K)) (F__law_next : Fn P w K mg base "_law_next" ["_law_src_here", "_law_base"] 1 spNext)
    (F__law_names : Fn P w K mg base "_law_names" ["_law_src_here", "_law_many"] 3 spNames) (M_Folk : Mks P w K mg base C "Folk" 1 (spInit C)) (F__law_folk : Fn P w K mg base "_law_folk" ["_law_src_here", "_law_names_here", "_law_folk_here"] 4 (fun vs H Q E => spFolk C vs H (fun v H' => Tabs H H' → Q v H') E))
    (F__law_events : Fn P w K mg base "_law_events" ["_law_src_here", "_law_deeds", "_law_names_here", "_law_brought", "_law_many"] 4 spEvents) (F_road : Fn P w K mg base "road" ["brought", "events", "folk", "day"] 5 (spRoad C Tt)) (F_holder : Fn P w K mg base "holder" ["brought", "events", "folk", "day"] 6 (spHolder C Tt))
    (F__law_walks : Fn P w K mg base "_law_walks" ["_law_deeds", "_law_brought", "_law_events_here", "_law_found", "_law_day"] 8 spWalks) (F__law_same : Fn P w K mg base "_law_same" ["_law_found", "_law_due"] 6 (spSame 4)) :
    FnOk P w K mg base CX0 9 f fd ["_law_script"] (spLawT K ts) := by
  refine F_law.okQ sc_law (fun vs H Q E h => ?_) (fun cdv A outer s H vs Q E hr h => ?_)
  · obtain ⟨a, ns, rfl, _⟩ := h
    rfl
  · obtain ⟨a, ns, rfl, hS, hlen, hTs, k⟩ := h
    obtain ⟨cT, hcT⟩ := hts
    have hT0 : IsTab H Tt dayNm := hTs _ hcT
    have T := T0
    refine ⟨_, (qss_cons (qs_setN (i := 1) sc_law.nd nm_law__law_src_here (qe_fnN F__law_src (hr.mono (by omega)) nm_law__law_src (qa_cons (qvN 0 nm_law__law_script) qa_nil)))
 (qss_cons (qs_setN (i := 2) sc_law.nd nm_law__law_names_here (qe_fnN F__law_names (hr.mono (by omega)) nm_law__law_names (qa_cons (qvN 1 nm_law__law_src_here) (qa_cons (qe_op qop_add qe_int (qe_fnN F__law_next (hr.mono (by omega)) nm_law__law_next (qa_cons (qvN 1 nm_law__law_src_here) (qa_cons qe_int qa_nil)))) qa_nil))))
 (qss_cons (qs_setN (i := 3) sc_law.nd nm_law__law_folk_here (qe_mks M_Folk (hr.mono (by omega)) nm_law_Folk))
 (qss_cons (qs_setN (i := 4) sc_law.nd nm_law__law_deeds (qe_fnN F__law_folk (hr.mono (by omega)) nm_law__law_folk (qa_cons (qvN 1 nm_law__law_src_here) (qa_cons (qvN 2 nm_law__law_names_here) (qa_cons (qvN 3 nm_law__law_folk_here) qa_nil)))))
 (qss_cons (qs_setN (i := 5) sc_law.nd nm_law__law_brought (qe_tup (qa_cons (qe_ix qix_list (qvN 2 nm_law__law_names_here) (qe_fnN F__law_next (hr.mono (by omega)) nm_law__law_next (qa_cons (qvN 1 nm_law__law_src_here) (qa_cons (qe_callBN qcall_len_seq nm_law_len T.len b_len (qa_cons (qvN 2 nm_law__law_names_here) qa_nil)) qa_nil))) (fun _ _ => rfl)) (qa_cons (qe_op qop_add qe_int (qe_fnN F__law_next (hr.mono (by omega)) nm_law__law_next (qa_cons (qvN 1 nm_law__law_src_here) (qa_cons qe_int qa_nil)))) qa_nil))))
 (qss_cons (qs_setN (i := 6) sc_law.nd nm_law__law_events_here (qe_fnN F__law_events (hr.mono (by omega)) nm_law__law_events (qa_cons (qvN 1 nm_law__law_src_here) (qa_cons (qvN 4 nm_law__law_deeds) (qa_cons (qvN 2 nm_law__law_names_here) (qa_cons (qvN 5 nm_law__law_brought) (qa_cons (qe_fnN F__law_next (hr.mono (by omega)) nm_law__law_next (qa_cons (qvN 1 nm_law__law_src_here) (qa_cons qe_int qa_nil))) qa_nil)))))))
 (qss_cons (qs_setN (i := 7) sc_law.nd nm_law__law_before (qe_lst qa_nil))
 (qss_cons (qs_for PassesOwn.never rfl (qi_range2 nm_law_range.1 T.range (qa_cons (qe_ix qix_tup (qvN 5 nm_law__law_brought) qe_int (fun _ _ => rfl)) (qa_cons (qe_op qop_add (qe_ix qix_tup (qvN 5 nm_law__law_brought) qe_int (fun _ _ => rfl)) qe_int) qa_nil))) (qg_nameN (i := 8) sc_law.nd nm_law__law_day)
  (qss_cons (qs_setN (i := 9) sc_law.nd nm_law__law_found (qe_fnN F_road (hr.mono (by omega)) nm_law_road (qa_cons (qvN 5 nm_law__law_brought) (qa_cons (qe_callTyN qcall_list_of nm_law_list T.list b_list (qa_cons (qvN 6 nm_law__law_events_here) qa_nil)) (qa_cons (qvN 3 nm_law__law_folk_here) (qa_cons (qvN 8 nm_law__law_day) qa_nil))))))
 (qss_cons (qs_if (qt_not (qt_val (qe_fnN F__law_walks (hr.mono (by omega)) nm_law__law_walks (qa_cons (qvN 4 nm_law__law_deeds) (qa_cons (qvN 5 nm_law__law_brought) (qa_cons (qvN 6 nm_law__law_events_here) (qa_cons (qvN 9 nm_law__law_found) (qa_cons (qvN 8 nm_law__law_day) qa_nil)))))))) (qss_one (qs_ret qe_bl)) qss_nil)
 (qss_cons (qs_if (qt_not (qt_val (qe_fnN F__law_same (hr.mono (by omega)) nm_law__law_same (qa_cons (qe_slice qsl_list (qvN 9 nm_law__law_found) qo_none (qo_some (qe_callBN qcall_len_seq nm_law_len T.len b_len (qa_cons (qvN 7 nm_law__law_before) qa_nil)))) (qa_cons (qvN 7 nm_law__law_before) qa_nil))))) (qss_one (qs_ret qe_bl)) qss_nil)
 (qss_cons (qs_if (qt_not (qt_val (qe_fnN F__law_same (hr.mono (by omega)) nm_law__law_same (qa_cons (qe_fnN F_holder (hr.mono (by omega)) nm_law_holder (qa_cons (qvN 5 nm_law__law_brought) (qa_cons (qe_callTyN qcall_list_of nm_law_list T.list b_list (qa_cons (qvN 6 nm_law__law_events_here) qa_nil)) (qa_cons (qvN 3 nm_law__law_folk_here) (qa_cons (qvN 8 nm_law__law_day) qa_nil))))) (qa_cons (qe_ix qix_tup (qe_ix qix_list (qvN 9 nm_law__law_found) (qe_un qop_neg qe_int) (fun _ _ => rfl)) qe_int (fun _ _ => rfl)) qa_nil))))) (qss_one (qs_ret qe_bl)) qss_nil)
 (qss_one (qs_setN (i := 7) sc_law.nd nm_law__law_before (qvN 9 nm_law__law_found))))))))
 (qss_one (qs_ret (qe_cmpR (qop_eqNil hr) (qe_fnN F_road (hr.mono (by omega)) nm_law_road (qa_cons (qvN 5 nm_law__law_brought) (qa_cons (qe_callTyN qcall_list_of nm_law_list T.list b_list (qa_cons (qvN 6 nm_law__law_events_here) qa_nil)) (qa_cons (qvN 3 nm_law__law_folk_here) (qa_cons (qe_op qop_sub (qe_ix qix_tup (qvN 5 nm_law__law_brought) qe_int (fun _ _ => rfl)) qe_int) qa_nil))))) (qe_lst qa_nil) (nomark _)))))))))))), ?_⟩
    have hz : (5000 : Nat) ≤ sizeLine := by decide
    refine ⟨_, rfl, a, ns, rfl, hS, fun s la H1 hs hla hs1 sm1 => ?_⟩
    refine ⟨_, rfl, _, rfl, s, la, 5, rfl, hs1, by decide, by decide, fun d2 H2 d20 d21 hs2 sx2 => ?_⟩
    refine ⟨_, _, rfl, rfl, ?_⟩
    refine ⟨s, la, 2 + d2, rfl, hs2, by omega, by omega, fun na names H3 hnl hnd hnm hnf hna hs3 sx3 => ?_⟩
    have hT3 := IsTab.src (IsTab.src (hT0.same sm1) hs1 sx2) hs2 sx3
    have nn1 : na ≠ s := (hs2.ne hnf).1
    intro x dx nx ndx nex
    refine ⟨x, dx, rfl, upd_same, fun L H4 eL F4 kp => ⟨rfl, ?_⟩⟩
    subst eL
    have sm4 : Same H3 H4 := fun b o e => kp b o (by rw [upd_ne (ne_of_none e nx), upd_ne (ne_of_none e ndx)]; exact e) (ne_of_none e nx)
    refine ⟨_, rfl, _, rfl, _, rfl, L, s, la, na, names, rfl, F4, hs3.keep sm4, sm4 _ _ hna, nn1, hnd, hnm, by omega, fun q ds i H5 nq1 nqn nq2 V5 G5 hi5 hd5 tb5 => ?_⟩
    have W5 := V5.w
    have hT5 := (hT3.same sm4).call tb5
    clear V5 tb5
    refine gset ?_
    dsimp only
    have hpos : 0 < names.length := by omega
    refine ⟨_, rfl, _, rfl, _, rfl, na, _, rfl, .inl (SqL.of W5.nm), s, la, _, rfl, W5.sr, by rw [List.length_map]; omega, by rw [List.length_map]; omega, fun g H6 g0 g1 hs6 sx6 => ?_⟩
    rw [List.length_map] at g1
    obtain ⟨g, rfl⟩ := Int.eq_ofNat_of_zero_le g0
    have W6 := W5.x nq1 nn1 sx6 hs6
    have hT6 := IsTab.src hT5 W5.sr sx6
    have eg : (names.map V.str)[g]? = some (.str (names.getD g e0)) := by
      rw [List.getElem?_map, List.getD_eq_getElem?_getD, List.getElem?_eq_getElem (show g < names.length by omega)]; rfl
    refine ⟨na, _, g, _, rfl, rfl, SqL.of W6.nm, atI_nat eg, ?_⟩
    generalize names.getD g e0 = bn
    refine ⟨_, rfl, s, la, 8, rfl, W6.sr, by decide, by decide, fun d7 H7 d70 d71 hs7 sx7 => ⟨_, _, rfl, rfl, ?_⟩⟩
    have W7 := W6.x nq1 nn1 sx7 hs7
    have hT7 := IsTab.src hT6 W6.sr sx7
    refine ⟨by show 2 ≤ sizeLine; omega, fun b hb => ?_⟩
    have S8 := Same.new (o := .tup [.str bn, .int (5 + d7)]) hb
    have k8 : (upd H7 b (.tup [.str bn, .int (5 + d7)])) b = some (.tup [.str bn, .int (5 + d7)]) := upd_same
    have W8 := W7.same S8
    have hT8 := hT7.same S8
    generalize (upd H7 b (.tup [.str bn, .int (5 + d7)])) = H8 at S8 k8 W8 hT8 ⊢
    refine gset ?_
    dsimp only
    refine ⟨_, rfl, _, rfl, _, rfl, _, rfl, _, rfl, s, la, 15, rfl, W8.sr, by decide, by decide, fun m H9 m0 m1 hs9 sx9 => ?_⟩
    have W9 := W8.x nq1 nn1 sx9 hs9
    have hT9 := IsTab.src hT8 W8.sr sx9
    have k9 := srcT W8.sr sx9 _ _ k8
    have hE : Ends' ds := fun n day => G5.rk.stands (by omega) n day
    refine ⟨s, la, q, na, b, ds, names, bn, 5 + d7, m, rfl, W9.sr, W9.dd, nq1, W9.nm, nn1, (fun z => by rw [z] at hpos; simp at hpos), by omega, k9, hE, m0, by omega, by omega, by omega, fun l us es H10 hlf nls hl htr hel hbd hs10 sx10 => ?_⟩
    have W10 := W9.x nq1 nn1 sx10 hs10
    have hT10 := IsTab.src hT9 W9.sr sx10
    have k10 := srcT W9.sr sx10 _ _ k9
    have hlo : ∀ e ∈ es, 5 + d7 ≤ e.at_ := fun e he => (hbd e he).1
    refine gset ?_
    dsimp only
    generalize hd0 : 5 + d7 = d0 at k10 hlo
    refine ⟨by show 0 ≤ sizeLine; omega, fun lb hlb => ?_⟩
    have S11 := Same.new (o := .lst []) hlb
    have k11 : (upd H10 lb (.lst [])) lb = some (.lst []) := upd_same
    generalize (upd H10 lb (.lst [])) = H11 at S11 k11 ⊢
    refine gset ?_
    dsimp only
    -- a list handed in
    have mk : ∀ {H' : Hp}, Same H10 H' → ∀ lh, H' lh = none → Same H10 (upd H' lh (.lst us)) ∧ (upd H' lh (.lst us)) lh = some (.lst us) ∧ TR (upd H' lh (.lst us)) (es.map evV) us := fun {H'} sm lh hlh => by
      have S := sm.trans (Same.new (o := .lst us) hlh)
      exact ⟨S, upd_same, htr.mono fun b xs e => S _ _ e⟩
    refine ⟨_, rfl, b, _, 1, .int d0, rfl, rfl, SqT.of (S11 _ _ k10), rfl, _, rfl, b, _, 1, .int d0, rfl, rfl, SqT.of (S11 _ _ k10), rfl, _, _, rfl, rfl, _, _, rfl, ⟨by omega, by omega, by omega, by omega⟩, ?_⟩
    refine forW_range 22 (by omega) (fun j σ H' => ∃ (v8 v9 : Option V) (lb : Addr) (ws : List V) (st : List Stp), σ = [some (.ref a), some (.ref s), some (.ref na), some (.ref L.p), some (.ref q), some (.ref b), some (.ref l), some (.ref lb), v8, v9] ∧ Same H10 H' ∧ H' lb = some (.lst ws) ∧ TR H' (st.map stV) ws ∧ st <+: roadM ds bn d0 es (d0 + j) ∧ st.length ≤ 4000)
      ⟨none, none, lb, [], [], rfl, S11, k11, rfl, List.nil_prefix, Nat.zero_le _⟩ ?_ ?_
    · rintro j σ H' hj ⟨v8, v9, lb, ws, st, rfl, sm, hlb, htb, hpre, hsl⟩
      obtain ⟨hR, hdead⟩ := roadM_ok (es := es) (n := bn) (d0 := d0) hE j
      have hRl := roadM_len hE (n := bn) (d0 := d0) (day := d0 + j) (es := es) (by omega)
      refine ⟨_, rfl, _, rfl, l, _, rfl, .inl (SqL.of (sm _ _ hl)), fun lh hlh => ?_⟩
      obtain ⟨sA, kA, tA⟩ := mk sm lh hlh
      have SA := Same.new (o := .lst us) hlh
      generalize (upd H' lh (.lst us)) = HA at sA kA tA SA ⊢
      refine ⟨_, rfl, _, rfl, L, ds, b, lh, us, es, bn, d0, d0 + j, rfl, (W10.same sA).fk, sA _ _ k10, kA, tA, by omega, hE, hlo, hT10.same sA, fun l2 us2 H2 hl2 hl2' ht2 sm2 => ?_⟩
      have s2 := sA.trans sm2
      have sj2 := SA.trans sm2
      refine gset ?_
      dsimp only
      refine ⟨_, rfl, _, rfl, _, rfl, _, rfl, _, rfl, q, b, l, l2, ds, us, us2, es, _, bn, d0, d0 + j, rfl, (W10.same s2).dd, s2 _ _ k10, s2 _ _ hl, htr.mono (fun b xs e => s2 _ _ e), hl2', ht2, hR, hdead, hRl, fun H3 sm3 => ⟨_, rfl, iteF ?_⟩⟩
      have s3 := s2.trans sm3
      have sj3 := sj2.trans sm3
      have hul2 : us2.length = (roadM ds bn d0 es (d0 + j)).length := by have := ht2.length; rw [List.length_map] at this; exact this
      have hwl : ws.length = st.length := by have := htb.length; rw [List.length_map] at this; exact this
      have hpl := hpre.length_le
      obtain ⟨tl, etl⟩ := hpre
      have ecut : cutV us2 none (some (ws.length : Int)) = us2.take ws.length := by
        unfold cutV
        show (us2.drop (HT.sIx us2.length 0 none)).take (HT.sIx us2.length us2.length (some (ws.length : Int)) - HT.sIx us2.length 0 none) = _
        have e1 : HT.sIx us2.length 0 none = 0 := rfl
        have e2 : HT.sIx us2.length us2.length (some (ws.length : Int)) = ws.length := by
          unfold HT.sIx
          dsimp only
          split <;> (try split) <;> omega
        rw [e1, e2]
        simp
      refine ⟨_, rfl, _, rfl, lb, _, rfl, .inl (SqL.of (sj3 _ _ hlb)), _, rfl, l2, us2, rfl, SqL.of (sm3 _ _ hl2'), fun lc hlc => ?_⟩
      rw [ecut]
      have S4 := Same.new (o := .lst (us2.take ws.length)) hlc
      have k4 : (upd H3 lc (.lst (us2.take ws.length))) lc = some (.lst (us2.take ws.length)) := upd_same
      generalize (upd H3 lc (.lst (us2.take ws.length))) = H4 at S4 k4 ⊢
      have ht4 : TR H4 (st.map stV) (us2.take ws.length) := by
        have h0 := ht2.mono (H' := H4) fun b xs e => S4 _ _ (sm3 _ _ e)
        rw [← etl, List.map_append] at h0
        obtain ⟨u1, u2, eu, t1, t2⟩ := h0.split
        have l1 := t1.length
        rw [List.length_map] at l1
        have : us2.take ws.length = u1 := by
          rw [eu, hwl, ← l1]; simp
        rw [this]; exact t1
      have s4 := s3.trans S4
      have sj4 := sj3.trans S4
      refine ⟨_, rfl, .ref lc, .ref lb, .lst (st.map stD), .lst (st.map stD), rfl, ⟨lc, _, rfl, k4, ht4.sts⟩, ⟨lb, _, rfl, sj4 _ _ hlb, (htb.mono (fun b xs e => sj4 _ _ e)).sts⟩, deep_sts _, fun H5 sm5 => ⟨_, rfl, ?_⟩⟩
      rw [sameD_refl]
      refine iteF ?_
      have s5 := s4.trans sm5
      -- the holder
      refine ⟨_, rfl, _, rfl, l, _, rfl, .inl (SqL.of (s5 _ _ hl)), fun lk hlk => ?_⟩
      obtain ⟨sB, kB, tB⟩ := mk s5 lk hlk
      have SB := Same.new (o := .lst us) hlk
      generalize (upd H5 lk (.lst us)) = HB at sB kB tB SB ⊢
      have s25 := ((sm3.trans S4).trans sm5).trans SB
      refine ⟨_, rfl, _, rfl, L, ds, b, lk, us, es, bn, d0, d0 + j, rfl, (W10.same sB).fk, sB _ _ k10, kB, tB, by omega, hE, hlo, hT10.same sB, fun H6 sm6 => ?_⟩
      have s26 := s25.trans sm6
      obtain ⟨ss, ess⟩ := lastS_ne hR.ne
      have ht2' := ht2
      rw [ess, List.map_append] at ht2'
      obtain ⟨us0, aa, eus, _, haa⟩ := TR.last ht2'
      have at1 : atI us2 (-1) = some (.ref aa) := by rw [eus]; exact atI_last
      have eO : lastO (roadM ds bn d0 es (d0 + j)) = some (lastS (roadM ds bn d0 es (d0 + j))).t := by unfold lastO; rw [if_neg hR.ne]
      rw [eO]
      refine ⟨_, rfl, _, rfl, l2, us2, -1, .ref aa, rfl, rfl, SqL.of (s26 _ _ hl2'), at1, aa, _, 3, .str (lastS (roadM ds bn d0 es (d0 + j))).t, rfl, rfl, SqT.of (s26 _ _ haa), rfl, ?_⟩
      refine ⟨_, _, .str (lastS (roadM ds bn d0 es (d0 + j))).t, .str (lastS (roadM ds bn d0 es (d0 + j))).t, rfl, rfl, rfl, Nat.zero_le _, fun H7 sm7 => ⟨_, rfl, ?_⟩⟩
      rw [sameD_refl]
      refine iteF ?_
      have s27 := s26.trans sm7
      refine ⟨_, rfl, _, _, l2, us2, roadM ds bn d0 es (d0 + j), rfl, s2.trans s27, s27 _ _ hl2', ht2.mono (fun b xs e => s27 _ _ e), roadM_pre j, hRl⟩
    · rintro σ H' ⟨v8, v9, lb, ws, st, rfl, sm, hlb, htb, hpre, hsl⟩
      refine ⟨_, rfl, _, rfl, l, _, rfl, .inl (SqL.of (sm _ _ hl)), fun lh hlh => ?_⟩
      obtain ⟨sA, kA, tA⟩ := mk sm lh hlh
      generalize (upd H' lh (.lst us)) = HA at sA kA tA ⊢
      refine ⟨_, rfl, _, rfl, b, _, 1, .int d0, rfl, rfl, SqT.of (sA _ _ k10), rfl, _, _, rfl, rfl, L, ds, b, lh, us, es, bn, d0, d0 - 1, rfl, (W10.same sA).fk, sA _ _ k10, kA, tA, by omega, hE, hlo, hT10.same sA, fun l2 us2 H2 hl2 hl2' ht2 sm2 => ?_⟩
      have e0 : roadM ds bn d0 es (d0 - 1) = [] := by unfold roadM; rw [if_pos (by omega)]
      rw [e0] at ht2
      cases ht2
      refine ⟨by show 0 ≤ sizeLine; omega, fun ln hln => ?_⟩
      exact ⟨l2, ln, rfl, rfl, SqL.of (Same.new hln _ _ hl2'), SqL.of upd_same, k _⟩
end

def tabs : List Tb := [⟨39, 35, "by_day" ++ ".<locals>." ++ "<lambda>"⟩]
theorem tabs_ok (p : Params) : ∀ t ∈ tabs, (KTK p).lookup t.P = some { cls := .none, data := .fields #[] } ∧ codeHdIn (KK p) t.c t.P = true ∧ (KK p).lookup t.P = none := by
  intro t ht
  simp only [tabs, List.mem_cons, List.not_mem_nil, or_false] at ht
  rcases ht with rfl <;> exact ⟨by kernel_rfl, by kernel_rfl, by kernel_rfl⟩
theorem all_mk {w : World} {h : Heap} {mg : Str → Option Value} {fa : Addr} (X : (KK w.params).In h) (G : h.Ns mainGlobals mg) (hfa : mg "law" = some (.ref fa)) :
    ∃ fd : FuncData, (∀ (s : Shared) (v : Value), BindsTo s fd ⟨[v], []⟩ [("_law_script", v)]) ∧ ∀ base : Heap, (KK w.params).In base → base.Ns mainGlobals mg → FnOk (PySem.Challenge.rw_forsworn_k25_whole_roads_walked).prog w (KK w.params) mg base CX0 40 fa fd ["_law_script"] (spLawT (KK w.params) tabs) := by
  have e : some (Value.ref fa) = some (.ref 505) := hfa.symm.trans (PySem.W.mg_of X G (by kernel_rfl))
  cases e
  have h_road : Has (KK w.params) mg "road" s_road := has_mk (f := 26) (oc := .type "function") (od := none) (an := none) (osl := #[]) (kV := .none) (doc := .none) (pm := (.str "forsworn.goods" 194)) (cdv := (.ref 25)) (ct := .none) X G (by kernel_rfl) (by kernel_rfl) (by kernel_rfl) (by kernel_rfl)
  have h_holder : Has (KK w.params) mg "holder" s_holder := has_mk (f := 33) (oc := .type "function") (od := none) (an := none) (osl := #[]) (kV := .none) (doc := .none) (pm := (.str "forsworn.goods" 194)) (cdv := (.ref 32)) (ct := .none) X G (by kernel_rfl) (by kernel_rfl) (by kernel_rfl) (by kernel_rfl)
  have h_by_day : HasL (KK w.params) mg "by_day" s_by_day 39 := hasL_mk (f := 40) (oc := .type "function") (od := none) (an := none) (osl := #[]) (kV := .none) (doc := .none) (pm := (.str "forsworn.goods" 194)) (ct := .none) X G (by kernel_rfl) (by kernel_rfl) (by kernel_rfl) (by kernel_rfl)
  have B_by_day : LamB (KK w.params) mg 39 35 := ⟨by kernel_rfl, ⟨4, ⟨.type "module", some 0, .plain, #[]⟩, PySem.W.mg_of X G (by kernel_rfl), by decide, by decide, by decide, by kernel_rfl, rfl, rfl, rfl⟩, by decide⟩
  have h_leave_on : Has (KK w.params) mg "leave_on" s_leave_on := has_mk (f := 47) (oc := .type "function") (od := none) (an := none) (osl := #[]) (kV := .none) (doc := .none) (pm := (.str "forsworn.goods" 194)) (cdv := (.ref 46)) (ct := .none) X G (by kernel_rfl) (by kernel_rfl) (by kernel_rfl) (by kernel_rfl)
  have h_pass_on : Has (KK w.params) mg "pass_on" s_pass_on := has_mk (f := 54) (oc := .type "function") (od := none) (an := none) (osl := #[]) (kV := .none) (doc := .none) (pm := (.str "forsworn.goods" 194)) (cdv := (.ref 53)) (ct := .none) X G (by kernel_rfl) (by kernel_rfl) (by kernel_rfl) (by kernel_rfl)
  have h_check_day : Has (KK w.params) mg "check_day" s_check_day := has_mk (f := 233) (oc := .type "function") (od := none) (an := none) (osl := #[]) (kV := .none) (doc := .none) (pm := (.str "forsworn.measures" 459)) (cdv := (.ref 232)) (ct := .none) X G (by kernel_rfl) (by kernel_rfl) (by kernel_rfl) (by kernel_rfl)
  have h_check_weight : Has (KK w.params) mg "check_weight" s_check_weight := has_mk (f := 240) (oc := .type "function") (od := none) (an := none) (osl := #[]) (kV := .none) (doc := .none) (pm := (.str "forsworn.measures" 459)) (cdv := (.ref 239)) (ct := .none) X G (by kernel_rfl) (by kernel_rfl) (by kernel_rfl) (by kernel_rfl)
  have h_is_name : Has (KK w.params) mg "is_name" s_is_name := has_mk (f := 245) (oc := .type "function") (od := none) (an := none) (osl := #[]) (kV := .none) (doc := .none) (pm := (.str "forsworn.oaths" 479)) (cdv := (.ref 244)) (ct := .none) X G (by kernel_rfl) (by kernel_rfl) (by kernel_rfl) (by kernel_rfl)
  have h__law_src : Has (KK w.params) mg "_law_src" s_law_src := has_mk (f := 411) (oc := .type "function") (od := none) (an := none) (osl := #[]) (kV := .none) (doc := .none) (pm := (.str "law_forsworn_k25_whole_roads_walked" 698)) (cdv := (.ref 410)) (ct := .none) X G (by kernel_rfl) (by kernel_rfl) (by kernel_rfl) (by kernel_rfl)
  have h__law_next : Has (KK w.params) mg "_law_next" s_law_next := has_mk (f := 418) (oc := .type "function") (od := none) (an := none) (osl := #[]) (kV := .none) (doc := .none) (pm := (.str "law_forsworn_k25_whole_roads_walked" 698)) (cdv := (.ref 417)) (ct := .none) X G (by kernel_rfl) (by kernel_rfl) (by kernel_rfl) (by kernel_rfl)
  have h__law_whole : Has (KK w.params) mg "_law_whole" s_law_whole := has_mk (f := 425) (oc := .type "function") (od := none) (an := none) (osl := #[]) (kV := .none) (doc := .none) (pm := (.str "law_forsworn_k25_whole_roads_walked" 698)) (cdv := (.ref 424)) (ct := .none) X G (by kernel_rfl) (by kernel_rfl) (by kernel_rfl) (by kernel_rfl)
  have h__law_same : Has (KK w.params) mg "_law_same" s_law_same := has_mk (f := 432) (oc := .type "function") (od := none) (an := none) (osl := #[]) (kV := .none) (doc := .none) (pm := (.str "law_forsworn_k25_whole_roads_walked" 698)) (cdv := (.ref 431)) (ct := .none) X G (by kernel_rfl) (by kernel_rfl) (by kernel_rfl) (by kernel_rfl)
  have h__law_unlike : Has (KK w.params) mg "_law_unlike" s_law_unlike := has_mk (f := 439) (oc := .type "function") (od := none) (an := none) (osl := #[]) (kV := .none) (doc := .none) (pm := (.str "law_forsworn_k25_whole_roads_walked" 698)) (cdv := (.ref 438)) (ct := .none) X G (by kernel_rfl) (by kernel_rfl) (by kernel_rfl) (by kernel_rfl)
  have h__law_word : Has (KK w.params) mg "_law_word" s_law_word := has_mk (f := 444) (oc := .type "function") (od := none) (an := none) (osl := #[]) (kV := .none) (doc := .none) (pm := (.str "law_forsworn_k25_whole_roads_walked" 698)) (cdv := (.ref 443)) (ct := .none) X G (by kernel_rfl) (by kernel_rfl) (by kernel_rfl) (by kernel_rfl)
  have h__law_names : Has (KK w.params) mg "_law_names" s_law_names := has_mk (f := 451) (oc := .type "function") (od := none) (an := none) (osl := #[]) (kV := .none) (doc := .none) (pm := (.str "law_forsworn_k25_whole_roads_walked" 698)) (cdv := (.ref 450)) (ct := .none) X G (by kernel_rfl) (by kernel_rfl) (by kernel_rfl) (by kernel_rfl)
  have h__law_death : Has (KK w.params) mg "_law_death" s_law_death := has_mk (f := 458) (oc := .type "function") (od := none) (an := none) (osl := #[]) (kV := .none) (doc := .none) (pm := (.str "law_forsworn_k25_whole_roads_walked" 698)) (cdv := (.ref 457)) (ct := .none) X G (by kernel_rfl) (by kernel_rfl) (by kernel_rfl) (by kernel_rfl)
  have h__law_is_dead : Has (KK w.params) mg "_law_is_dead" s_law_is_dead := has_mk (f := 465) (oc := .type "function") (od := none) (an := none) (osl := #[]) (kV := .none) (doc := .none) (pm := (.str "law_forsworn_k25_whole_roads_walked" 698)) (cdv := (.ref 464)) (ct := .none) X G (by kernel_rfl) (by kernel_rfl) (by kernel_rfl) (by kernel_rfl)
  have h__law_heir : Has (KK w.params) mg "_law_heir" s_law_heir := has_mk (f := 472) (oc := .type "function") (od := none) (an := none) (osl := #[]) (kV := .none) (doc := .none) (pm := (.str "law_forsworn_k25_whole_roads_walked" 698)) (cdv := (.ref 471)) (ct := .none) X G (by kernel_rfl) (by kernel_rfl) (by kernel_rfl) (by kernel_rfl)
  have h__law_folk : Has (KK w.params) mg "_law_folk" s_law_folk := has_mk (f := 479) (oc := .type "function") (od := none) (an := none) (osl := #[]) (kV := .none) (doc := .none) (pm := (.str "law_forsworn_k25_whole_roads_walked" 698)) (cdv := (.ref 478)) (ct := .none) X G (by kernel_rfl) (by kernel_rfl) (by kernel_rfl) (by kernel_rfl)
  have h__law_events : Has (KK w.params) mg "_law_events" s_law_events := has_mk (f := 484) (oc := .type "function") (od := none) (an := none) (osl := #[]) (kV := .none) (doc := .none) (pm := (.str "law_forsworn_k25_whole_roads_walked" 698)) (cdv := (.ref 483)) (ct := .none) X G (by kernel_rfl) (by kernel_rfl) (by kernel_rfl) (by kernel_rfl)
  have h__law_step_fits : Has (KK w.params) mg "_law_step_fits" s_law_step_fits := has_mk (f := 491) (oc := .type "function") (od := none) (an := none) (osl := #[]) (kV := .none) (doc := .none) (pm := (.str "law_forsworn_k25_whole_roads_walked" 698)) (cdv := (.ref 490)) (ct := .none) X G (by kernel_rfl) (by kernel_rfl) (by kernel_rfl) (by kernel_rfl)
  have h__law_walks : Has (KK w.params) mg "_law_walks" s_law_walks := has_mk (f := 498) (oc := .type "function") (od := none) (an := none) (osl := #[]) (kV := .none) (doc := .none) (pm := (.str "law_forsworn_k25_whole_roads_walked" 698)) (cdv := (.ref 497)) (ct := .none) X G (by kernel_rfl) (by kernel_rfl) (by kernel_rfl) (by kernel_rfl)
  have F_law := fun_mk (K := KK w.params) (x := "law") (qual := "law") (st := s_law) (f := 505) (oc := .type "function") (od := none) (an := none) (osl := #[]) (kV := .none) (doc := .none) (pm := (.str "law_forsworn_k25_whole_roads_walked" 698)) (cdv := (.ref 504)) (ct := .none) (by kernel_rfl) (by kernel_rfl) (by kernel_rfl)
  have h_Folk___init__ : HasM (KK w.params) 400 "__init__" "Folk.__init__" s_Folk___init__ := hasM_mk (f := 259) (oc := .type "function") (od := none) (an := none) (osl := #[]) (kV := .none) (doc := .none) (pm := (.str "forsworn.folk" 489)) (cdv := (.ref 258)) (ct := .none) (by kernel_rfl) (by kernel_rfl) (by kernel_rfl) (by kernel_rfl) (by kernel_rfl)
  have h_Folk_come : HasM (KK w.params) 400 "come" "Folk.come" s_Folk_come := hasM_mk (f := 266) (oc := .type "function") (od := none) (an := none) (osl := #[]) (kV := .none) (doc := .none) (pm := (.str "forsworn.folk" 489)) (cdv := (.ref 265)) (ct := .none) (by kernel_rfl) (by kernel_rfl) (by kernel_rfl) (by kernel_rfl) (by kernel_rfl)
  have h_Folk_die : HasM (KK w.params) 400 "die" "Folk.die" s_Folk_die := hasM_mk (f := 280) (oc := .type "function") (od := none) (an := none) (osl := #[]) (kV := .none) (doc := .none) (pm := (.str "forsworn.folk" 489)) (cdv := (.ref 279)) (ct := .none) (by kernel_rfl) (by kernel_rfl) (by kernel_rfl) (by kernel_rfl) (by kernel_rfl)
  have h_Folk_died_by : HasM (KK w.params) 400 "died_by" "Folk.died_by" s_Folk_died_by := hasM_mk (f := 334) (oc := .type "function") (od := none) (an := none) (osl := #[]) (kV := .none) (doc := .none) (pm := (.str "forsworn.folk" 489)) (cdv := (.ref 333)) (ct := .none) (by kernel_rfl) (by kernel_rfl) (by kernel_rfl) (by kernel_rfl) (by kernel_rfl)
  have h_Folk_death_day : HasM (KK w.params) 400 "death_day" "Folk.death_day" s_Folk_death_day := hasM_mk (f := 341) (oc := .type "function") (od := none) (an := none) (osl := #[]) (kV := .none) (doc := .none) (pm := (.str "forsworn.folk" 489)) (cdv := (.ref 340)) (ct := .none) (by kernel_rfl) (by kernel_rfl) (by kernel_rfl) (by kernel_rfl) (by kernel_rfl)
  have h_Folk_heir_of : HasM (KK w.params) 400 "heir_of" "Folk.heir_of" s_Folk_heir_of := hasM_mk (f := 348) (oc := .type "function") (od := none) (an := none) (osl := #[]) (kV := .none) (doc := .none) (pm := (.str "forsworn.folk" 489)) (cdv := (.ref 347)) (ct := .none) (by kernel_rfl) (by kernel_rfl) (by kernel_rfl) (by kernel_rfl) (by kernel_rfl)
  have h_Folk_check_coming : HasM (KK w.params) 400 "check_coming" "Folk.check_coming" s_Folk_check_coming := hasM_mk (f := 355) (oc := .type "function") (od := none) (an := none) (osl := #[]) (kV := .none) (doc := .none) (pm := (.str "forsworn.folk" 489)) (cdv := (.ref 354)) (ct := .none) (by kernel_rfl) (by kernel_rfl) (by kernel_rfl) (by kernel_rfl) (by kernel_rfl)
  have h_Folk_check_death : HasM (KK w.params) 400 "check_death" "Folk.check_death" s_Folk_check_death := hasM_mk (f := 369) (oc := .type "function") (od := none) (an := none) (osl := #[]) (kV := .none) (doc := .none) (pm := (.str "forsworn.folk" 489)) (cdv := (.ref 368)) (ct := .none) (by kernel_rfl) (by kernel_rfl) (by kernel_rfl) (by kernel_rfl) (by kernel_rfl)
  have h_Folk_check_known : HasM (KK w.params) 400 "check_known" "Folk.check_known" s_Folk_check_known := hasM_mk (f := 376) (oc := .type "function") (od := none) (an := none) (osl := #[]) (kV := .none) (doc := .none) (pm := (.str "forsworn.folk" 489)) (cdv := (.ref 375)) (ct := .none) (by kernel_rfl) (by kernel_rfl) (by kernel_rfl) (by kernel_rfl) (by kernel_rfl)
  have h_Folk_check_there : HasM (KK w.params) 400 "check_there" "Folk.check_there" s_Folk_check_there := hasM_mk (f := 383) (oc := .type "function") (od := none) (an := none) (osl := #[]) (kV := .none) (doc := .none) (pm := (.str "forsworn.folk" 489)) (cdv := (.ref 382)) (ct := .none) (by kernel_rfl) (by kernel_rfl) (by kernel_rfl) (by kernel_rfl) (by kernel_rfl)
  have h_Folk_check_untold : HasM (KK w.params) 400 "check_untold" "Folk.check_untold" s_Folk_check_untold := hasM_mk (f := 397) (oc := .type "function") (od := none) (an := none) (osl := #[]) (kV := .none) (doc := .none) (pm := (.str "forsworn.folk" 489)) (cdv := (.ref 396)) (ct := .none) (by kernel_rfl) (by kernel_rfl) (by kernel_rfl) (by kernel_rfl) (by kernel_rfl)
  have pg : PySem.W.plainGet (KK w.params) 400 Str.empty = true := by kernel_rfl
  have hd : PySem.W.hasDictIn (KK w.params) 400 = true := by kernel_rfl
  have po : PySem.W.plainOver (KK w.params) 400 = true := by kernel_rfl
  have sa : PySem.W.findIn (KK w.params) (.ref 400) "__setattr__" = some (some (.builtin "object.__setattr__")) := by kernel_rfl
  have n_comings : PySem.W.findIn (KK w.params) (.ref 400) "comings" = some none := by kernel_rfl
  have n_weights : PySem.W.findIn (KK w.params) (.ref 400) "weights" = some none := by kernel_rfl
  have n_deaths : PySem.W.findIn (KK w.params) (.ref 400) "deaths" = some none := by kernel_rfl
  have n_heirs : PySem.W.findIn (KK w.params) (.ref 400) "heirs" = some none := by kernel_rfl
  have Tc : TxC (KK w.params) 400 := ⟨⟨pg, hd, po, sa⟩, n_comings, n_weights, n_deaths, n_heirs⟩
  have mk : PySem.W.makesIn (KK w.params) 400 = true := by kernel_rfl
  have kc : PySem.W.keepIn (KK w.params) (.ref 400) = true := by kernel_rfl
  have gC : mg "Folk" = some (.ref 400) := PySem.W.mg_of X G (by kernel_rfl)
  have c_DAY : mg "DAY" = some (.int 0 196) := PySem.W.mg_of X G (by kernel_rfl)
  have c_WORD : mg "WORD" = some (.int 1 198) := PySem.W.mg_of X G (by kernel_rfl)
  have c_GIVER : mg "GIVER" = some (.int 2 200) := PySem.W.mg_of X G (by kernel_rfl)
  have c_TAKER : mg "TAKER" = some (.int 3 202) := PySem.W.mg_of X G (by kernel_rfl)
  have c_LAST_DAY : mg "LAST_DAY" = some (.int 9999 461) := PySem.W.mg_of X G (by kernel_rfl)
  have c_MOST_WEIGHT : mg "MOST_WEIGHT" = some (.int 1000 463) := PySem.W.mg_of X G (by kernel_rfl)
  have c_LONGEST_NAME : mg "LONGEST_NAME" = some (.int 12 481) := PySem.W.mg_of X G (by kernel_rfl)
  have c_MOST_FOLK : mg "MOST_FOLK" = some (.int 40 491) := PySem.W.mg_of X G (by kernel_rfl)
  have T : Txt mg := ⟨PySem.W.mg_none_of X G (by kernel_rfl), PySem.W.mg_none_of X G (by kernel_rfl), PySem.W.mg_none_of X G (by kernel_rfl), PySem.W.mg_none_of X G (by kernel_rfl), PySem.W.mg_none_of X G (by kernel_rfl), PySem.W.mg_none_of X G (by kernel_rfl), PySem.W.mg_none_of X G (by kernel_rfl), PySem.W.mg_none_of X G (by kernel_rfl), PySem.W.mg_none_of X G (by kernel_rfl), PySem.W.mg_none_of X G (by kernel_rfl), PySem.W.mg_none_of X G (by kernel_rfl), PySem.W.mg_none_of X G (by kernel_rfl), PySem.W.mg_none_of X G (by kernel_rfl)⟩
  exact ⟨PySem.W.fnOf "law" "law" (defArgs s_law) (defBody s_law) (defScope s_law) .none .none .none (.str "law_forsworn_k25_whole_roads_walked" 698) none (.ref 504) .none, fun s v => .of_eq rfl, fun base kb _ => by
    have F1 := f__law_src (P := (PySem.Challenge.rw_forsworn_k25_whole_roads_walked).prog) (w := w) (base := base) h__law_src T
    have F2 := f__law_next (P := (PySem.Challenge.rw_forsworn_k25_whole_roads_walked).prog) (w := w) (base := base) h__law_next T
    have F3 := f__law_word h__law_word T F2
    have F4 := f__law_unlike (P := (PySem.Challenge.rw_forsworn_k25_whole_roads_walked).prog) (w := w) (base := base) h__law_unlike T
    have F5 := f__law_names h__law_names T F2 F3 F4
    have F8 := f__law_same h__law_same T (f__law_whole (P := (PySem.Challenge.rw_forsworn_k25_whole_roads_walked).prog) (w := w) (base := base) h__law_whole T) 4
    have F9 := f_is_name (P := (PySem.Challenge.rw_forsworn_k25_whole_roads_walked).prog) (w := w) (base := base) h_is_name T ⟨_, c_LONGEST_NAME⟩
    have F10 := f_check_day (P := (PySem.Challenge.rw_forsworn_k25_whole_roads_walked).prog) (w := w) (base := base) h_check_day ⟨_, c_LAST_DAY⟩
    have F11 := f_check_weight (P := (PySem.Challenge.rw_forsworn_k25_whole_roads_walked).prog) (w := w) (base := base) h_check_weight ⟨_, c_MOST_WEIGHT⟩
    have M1 := f_check_known (P := (PySem.Challenge.rw_forsworn_k25_whole_roads_walked).prog) (w := w) (mg := mg) (base := base) h_Folk_check_known Tc
    have M2 := f_check_there (P := (PySem.Challenge.rw_forsworn_k25_whole_roads_walked).prog) (w := w) (mg := mg) (base := base) h_Folk_check_there Tc
    have M3 := f_died_by (P := (PySem.Challenge.rw_forsworn_k25_whole_roads_walked).prog) (w := w) (mg := mg) (base := base) h_Folk_died_by Tc
    have M4 := f_death_day (P := (PySem.Challenge.rw_forsworn_k25_whole_roads_walked).prog) (w := w) (mg := mg) (base := base) h_Folk_death_day Tc
    have M5 := f_heir_of (P := (PySem.Challenge.rw_forsworn_k25_whole_roads_walked).prog) (w := w) (mg := mg) (base := base) h_Folk_heir_of Tc
    have M6 := f_check_coming h_Folk_check_coming T Tc ⟨_, c_MOST_FOLK⟩ F9 F10 F11
    have M7 := f_come h_Folk_come Tc M6
    have M2b := f_check_untold (P := (PySem.Challenge.rw_forsworn_k25_whole_roads_walked).prog) (w := w) (mg := mg) (base := base) h_Folk_check_untold Tc
    have M8 := f_check_death h_Folk_check_death Tc F10 M1 M2 M2b
    have M9 := f_die h_Folk_die Tc M8
    have M0 := (f_init (P := (PySem.Challenge.rw_forsworn_k25_whole_roads_walked).prog) (w := w) (mg := mg) (base := base) h_Folk___init__ Tc).mks mk kc gC
    have F13 := f__law_death (P := (PySem.Challenge.rw_forsworn_k25_whole_roads_walked).prog) (w := w) (base := base) h__law_death T
    have F14 := f__law_is_dead h__law_is_dead T F13
    have F15 := f__law_heir h__law_heir T F13 F14
    have F16 := f_by_day (P := (PySem.Challenge.rw_forsworn_k25_whole_roads_walked).prog) (w := w) h_by_day B_by_day kb T ⟨_, c_DAY⟩
    have F17 := f_leave_on h_leave_on T Tc ⟨_, c_DAY⟩ ⟨_, c_TAKER⟩ M3 M4 M5
    have F18 := f_pass_on (P := (PySem.Challenge.rw_forsworn_k25_whole_roads_walked).prog) (w := w) (base := base) h_pass_on T ⟨_, c_DAY⟩ ⟨_, c_WORD⟩ ⟨_, c_GIVER⟩ ⟨_, c_TAKER⟩
    have F19 := f_road h_road T ⟨_, c_DAY⟩ F16 F17 F18
    have F20 := f_holder h_holder ⟨_, c_TAKER⟩ F19
    have F21 := f__law_step_fits h__law_step_fits T (f__law_whole (P := (PySem.Challenge.rw_forsworn_k25_whole_roads_walked).prog) (w := w) (base := base) h__law_whole T) F8 F13 F14
    have F22 := f__law_walks h__law_walks T F8 F21 F14
    have F24 := f__law_folk h__law_folk T Tc F2 M7 M9
    have F25 := f__law_events h__law_events T F2 F15
    exact (f_law (ts := tabs) ⟨_, List.mem_cons_self⟩ F_law T Tc F1 F2 F5 M0 F24.tabs F25 F19 F20 F22 F8).mono (by decide)⟩
end Law
open PySem PySem.W PyProof.Rows
set_option maxRecDepth 100000 in
set_option maxHeartbeats 0 in
theorem PySem.Challenge.cw_forsworn_k25_whole_roads_walked_holds : PySem.Challenge.rw_forsworn_k25_whole_roads_walked.Holds := by
  w_on; o_law
  refine holds_open (q := Law.q) (loose := []) (Xt := fun s => xlAt Law.q [] s && recOk (RowW.records PySem.Challenge.rw_forsworn_k25_whole_roads_walked.row.toRowW) s) (XP := XL Law.q []) (Yf := Law.HK.obs) (Ya := Law.HK.val) (YP := Law.HK.says) (N := 7950) Law.left Law.HK.of Law.HK.keeps (fun s e => xl_of s (Bool.and_eq_true_iff.mp e).1) XL.keeps (by rfl) (by rfl) (by rfl) (fun s e => recFacts_of (Bool.and_eq_true_iff.mp e).2) (by rfl) (by first | assumption | decide +kernel) (by decide +kernel) ⟨rfl, rfl, rfl, rfl, rfl, by decide +kernel⟩ ?hw ?hc
  case hw => w_witness2
  refine L2.walkLawT (l := PySem.Challenge.rw_forsworn_k25_whole_roads_walked) (K := Law.KK) (KT := Law.KTK) (ts := Law.tabs) rfl rfl (fun w h Y => PySem.W.kIn_of (K := Law.KTK) Y) (fun p h x => L2.Frag.In.left x) (fun p t ht => Law.tabs_ok p t ht) (by decide) fun w mg fa h KX G hmg => Law.all_mk KX G hmg
namespace Law

end Law
