import PyProof.Rows.All
import Wide.All
import OpenK.AllK
import Wide.FinOn
import Lean
import PyProof.EqAt
import PyProof.EqKinds
import PyProof.TupleCall
import KE.KSortTup
import PyProof.NeKinds
import KE.KLam
import KE.KNestM
import KE.KSortKey
import PySem.Challenge.RW_forsworn_k14_papers_that_are_looked_at
section
set_option Elab.async false
set_option linter.all false
set_option maxRecDepth 100000
set_option maxHeartbeats 4000000
namespace L2
open PySem PySem.W
def topRunT (tb : String -> Option Builtin) (p : Program) (w : World) (m : Nat) (ann : Option Value) : Nat -> SharedT -> Thread -> Option SharedT
  | 0, _, _ => none
  | n + 1, s, t => match through t with
    | true => some s
    | false => match stepOk m ann t with
      | false => none
      | true => match stepT (denote tb) p w s t with
        | some x => topRunT tb p w m ann n x.1 x.2
        | none => none
theorem topRunT_of {tb : String -> Option Builtin} {p : Program} {w : World} {m : Nat} {ann : Option Value} : ∀ {n : Nat} {s r : SharedT} {t : Thread}, topRunT tb p w m ann n s t = some r -> topRun tb p w m ann n s.abs t = some r.abs
  | 0, s, r, t, h => by cases h
  | n + 1, s, r, t, h => by
    unfold topRunT at h
    unfold topRun
    cases a : through t with
    | true => rw [a] at h; cases h; rfl
    | false =>
      rw [a] at h
      cases b : stepOk m ann t with
      | false => rw [b] at h; cases h
      | true =>
        rw [b] at h
        cases c : stepT (denote tb) p w s t with
        | none => rw [c] at h; cases h
        | some x => obtain ⟨s2, t2⟩ := x; rw [c] at h; dsimp only at h ⊢; rw [stepT_spec c]; exact topRunT_of h
def btOf : List Obj -> Nat -> BT -> BT
  | [], _, t => t
  | o :: r, i, t => btOf r (i + 1) (t.ins i o)
noncomputable def s0T (P : Params) (os : OsState) : SharedT := ⟨btOf (boot_heap P).objs.toList 0 .nil, 11, (boot_heap P).life, #[], boot_drawn, boot_toks, os⟩
noncomputable def seenT {α : Type} (p q : Program) (loose : List Str) (Xt : Shared -> Bool) (Yf : Shared -> α) (P : Params) (s : Shared) :=
  (staticsOk (importedModules p.main.body) (boot_heap P) s.heap && namesBound p s.heap && gensDone s && laidKept (boot_heap P) s.heap, openSeen q loose (importedModules p.main.body) Xt true s, Yf s)
theorem s0T_abs (P : Params) (os : OsState) : (s0T P os).abs = ⟨boot_heap P, #[], boot_drawn, boot_toks, os⟩ := by kernel_rfl
theorem boot_size (P : Params) : ((boot_heap P).isNs mainGlobals && (#[] : Array GenState).size == 0, (boot_heap P).objs.size, (boot_heap P).nsMap mainGlobals "__annotations__") = (true, 11, some (.ref 6)) := by kernel_rfl
theorem left_of {p q : Program} {loose : List Str} {Xt : Shared -> Bool} {α : Type} {Yf : Shared -> α} {Ya : World -> α} {N : Nat} (e : opening p = plainProg p.main.scope.names) (hN : Nat.ble 600 N = true) (f : ∀ s, fenceModules? p s = some s)
    (run : ∀ (w : World) (os : OsState), (topRunT treeTable p w 11 (some (.ref 6)) N (s0T w.params os) (topStub p)).map (fun s => seenT p q loose Xt Yf w.params s.abs) = some (true, openGood q loose, Ya w)) : LeftO p q loose Xt Yf Ya N := fun w => by
  obtain ⟨⟨h, gs, d, k, os⟩, e1, e2⟩ := Option.map_eq_some_iff.mp (boot_open e hN f w)
  obtain ⟨rfl, rfl, rfl, rfl⟩ : h = boot_heap w.params /\ gs = #[] /\ d = boot_drawn /\ k = boot_toks := by simpa using e2
  obtain ⟨s, r1, r2⟩ := Option.map_eq_some_iff.mp (run w os)
  unfold seenT at r2
  obtain ⟨l1, l2, l3⟩ : _ /\ _ /\ _ := by simpa only [Prod.mk.injEq] using r2
  have r := topRunT_of r1
  rw [s0T_abs] at r
  obtain ⟨z1, z2, z3⟩ : _ /\ _ /\ _ := by simpa only [Prod.mk.injEq] using boot_size w.params
  have t : topFrom treeTable p w N ⟨boot_heap w.params, #[], boot_drawn, boot_toks, os⟩ = some s.abs := by
    unfold topFrom
    dsimp only
    rw [z1, z2, z3, r]
    show (match staticsOk (importedModules p.main.body) (boot_heap w.params) s.abs.heap && namesBound p s.abs.heap && gensDone s.abs && laidKept (boot_heap w.params) s.abs.heap with | true => some s.abs | false => none) = _
    rw [l1]
  unfold openEnds
  rw [e1]
  show (topFrom treeTable p w N _).map _ = _
  rw [t]
  exact congrArg some (Prod.ext l2 l3)
def topP (p : Program) (i : Nat) : Stmt := p.main.body.getD i (.Pass ⟨0, 0, 0, 0⟩)
def hIn (s : Stmt) (j : Nat) : Stmt := match s with
  | .ClassDef _ _ _ b _ _ _ _ _ _ _ => b.getD j (.Pass ⟨0, 0, 0, 0⟩)
  | _ => s
def hArgs (s : Stmt) : Arguments := match s with
  | .FunctionDef _ a _ _ _ _ _ _ _ _ => a
  | _ => ⟨[], [], none, [], [], none, []⟩
def hBody (s : Stmt) : List Stmt := match s with
  | .FunctionDef _ _ b _ _ _ _ _ _ _ => b
  | _ => []
def hScope (s : Stmt) : Scope := match s with
  | .FunctionDef _ _ _ _ _ _ c _ _ _ => c
  | _ => { kind := .function, names := [], isGenerator := false, isCoroutine := false }
def de (P : Params) (n : Str) (t : Tok) (v : Value) : DictEntry := ⟨PyData.keyHash P n, .str n t, v⟩
def kFn (n q : Str) (st : Stmt) (pm : Value) (c : Addr) : Obj := ⟨.type "function", none, .func (PySem.W.fnOf n q (hArgs st) (hBody st) (hScope st) .none .none .none pm none (.ref c) .none), #[]⟩
end L2
lay_quick L2.topRunT L2.s0T L2.seenT
end
set_option Elab.async false
set_option linter.all false
set_option maxRecDepth 100000
set_option maxHeartbeats 4000000
namespace Law
open PySem L2
def Kp (p : Program) (P : Params) : PySem.W.Frag := [
  (3, ⟨(.type "dict"), none, (.dict #[de P "__name__" 165 (.str "law_forsworn_k14_papers_that_are_looked_at" 416), de P "__doc__" 166 .none, de P "__package__" 167 .none, de P "__loader__" 168 (.builtin "__main__.__loader__#opaque"), de P "__spec__" 169 .none, de P "__annotations__" 170 (.ref 6), de P "__builtins__" 171 (.ref 4), de P "__file__" 173 (.str "/claim/cut.py" 172), de P "__cached__" 174 .none, de P "_wall" 193 (.ref 21), de P "total" 201 (.ref 26), de P "fewest_to" 213 (.ref 33), de P "MootError" 240 (.ref 50), de P "NoCase" 263 (.ref 70), de P "ONES" 267 (.int (0) 266), de P "OTHERS" 269 (.int (1) 268), de P "NEED" 271 (.int (2) 270), de P "NAMED" 273 (.int (3) 272), de P "settled" 280 (.ref 79), de P "settled_with" 292 (.ref 86), de P "namers" 299 (.ref 93), de P "breaking" 305 (.ref 98), de P "naming" 316 (.ref 105), de P "check_case" 324 (.ref 112), de P "margin_without" 334 (.ref 119), de P "kept_weight" 340 (.ref 124), de P "CASE" 344 (.int (0) 343), de P "STANDS" 346 (.int (1) 345), de P "NAMES" 348 (.int (2) 347), de P "paper" 364 (.ref 131), de P "good_paper" 370 (.ref 136), de P "fewest_names" 376 (.ref 141), de P "enough" 384 (.ref 148), de P "claims_broken" 390 (.ref 153), de P "asked_by" 403 (.ref 160), de P "is_sound" 409 (.ref 165), de P "is_backed" 415 (.ref 170), de P "_law_src" 424 (.ref 177), de P "_law_next" 434 (.ref 184), de P "_law_whole" 441 (.ref 191), de P "_law_same" 451 (.ref 198), de P "_law_unlike" 462 (.ref 205), de P "_law_word" 468 (.ref 210), de P "_law_names" 482 (.ref 217), de P "_law_weight" 490 (.ref 224), de P "_law_total" 500 (.ref 231), de P "_law_side" 512 (.ref 238), de P "_law_need" 522 (.ref 245), de P "_law_named" 528 (.ref 250), de P "_law_suits" 544 (.ref 257), de P "_law_copy" 550 (.ref 262), de P "_law_goal" 558 (.ref 269), de P "_law_namers" 564 (.ref 274), de P "_law_kept_claim" 570 (.ref 279), de P "_law_fair" 576 (.ref 284), de P "_law_borne" 582 (.ref 289), de P "_law_good" 594 (.ref 296), de P "_law_bent_entry" 600 (.ref 301), de P "_law_drawn_entry" 606 (.ref 306), de P "_law_bent" 612 (.ref 311), de P "_law_copied" 618 (.ref 316), de P "law" 634 (.ref 323)] 62), #[]⟩),
  (4, ⟨(.type "module"), (some 0), .plain, #[]⟩),
  (25, ⟨(.type "code"), none, (.fields #[(.str "total" 196), (.str "total" 197), (.str "/claim/cut.py" 198), (.int (5) 0), (.int (1) 0), (.int (0) 0), (.int (0) 0), (.int (3) 0), (.ref 22), (.bool true), (.int (181) 0), (.ref 23), .none, .none, .none, (.ref 24), (.int (199) 0), (.int (5) 0), (.str "/claim/cut.py" 200)]), #[]⟩),
  (26, kFn "total" "total" (topP p 2) (.str "forsworn.oaths" 194) 25),
  (32, ⟨(.type "code"), none, (.fields #[(.str "fewest_to" 202), (.str "fewest_to" 203), (.str "/claim/cut.py" 204), (.int (7) 0), (.int (2) 0), (.int (0) 0), (.int (0) 0), (.int (3) 0), (.ref 27), (.bool true), (.int (181) 0), (.ref 28), .none, (.ref 29), (.ref 30), (.ref 31), (.int (211) 0), (.int (7) 0), (.str "/claim/cut.py" 212)]), #[]⟩),
  (33, kFn "fewest_to" "fewest_to" (topP p 3) (.str "forsworn.oaths" 194) 32),
  (78, ⟨(.type "code"), none, (.fields #[(.str "settled" 274), (.str "settled" 275), (.str "/claim/cut.py" 276), (.int (30) 0), (.int (1) 0), (.int (0) 0), (.int (0) 0), (.int (3) 0), (.ref 73), (.bool true), (.int (181) 0), (.ref 74), .none, (.ref 75), (.ref 76), (.ref 77), (.int (278) 0), (.int (30) 0), (.str "/claim/cut.py" 279)]), #[]⟩),
  (79, kFn "settled" "settled" (topP p 12) (.str "forsworn.stands" 264) 78),
  (85, ⟨(.type "code"), none, (.fields #[(.str "settled_with" 281), (.str "settled_with" 282), (.str "/claim/cut.py" 283), (.int (32) 0), (.int (2) 0), (.int (0) 0), (.int (0) 0), (.int (3) 0), (.ref 80), (.bool true), (.int (181) 0), (.ref 81), .none, (.ref 82), (.ref 83), (.ref 84), (.int (290) 0), (.int (32) 0), (.str "/claim/cut.py" 291)]), #[]⟩),
  (86, kFn "settled_with" "settled_with" (topP p 13) (.str "forsworn.stands" 264) 85),
  (92, ⟨(.type "code"), none, (.fields #[(.str "namers" 293), (.str "namers" 294), (.str "/claim/cut.py" 295), (.int (42) 0), (.int (1) 0), (.int (0) 0), (.int (0) 0), (.int (3) 0), (.ref 87), (.bool true), (.int (181) 0), (.ref 88), .none, (.ref 89), (.ref 90), (.ref 91), (.int (297) 0), (.int (42) 0), (.str "/claim/cut.py" 298)]), #[]⟩),
  (93, kFn "namers" "namers" (topP p 14) (.str "forsworn.stands" 264) 92),
  (97, ⟨(.type "code"), none, (.fields #[(.str "breaking" 300), (.str "breaking" 301), (.str "/claim/cut.py" 302), (.int (44) 0), (.int (1) 0), (.int (0) 0), (.int (0) 0), (.int (3) 0), (.ref 94), (.bool true), (.int (181) 0), (.ref 95), .none, .none, .none, (.ref 96), (.int (303) 0), (.int (44) 0), (.str "/claim/cut.py" 304)]), #[]⟩),
  (98, kFn "breaking" "breaking" (topP p 15) (.str "forsworn.stands" 264) 97),
  (104, ⟨(.type "code"), none, (.fields #[(.str "naming" 306), (.str "naming" 307), (.str "/claim/cut.py" 308), (.int (46) 0), (.int (2) 0), (.int (0) 0), (.int (0) 0), (.int (3) 0), (.ref 99), (.bool true), (.int (181) 0), (.ref 100), .none, (.ref 101), (.ref 102), (.ref 103), (.int (314) 0), (.int (46) 0), (.str "/claim/cut.py" 315)]), #[]⟩),
  (105, kFn "naming" "naming" (topP p 16) (.str "forsworn.stands" 264) 104),
  (111, ⟨(.type "code"), none, (.fields #[(.str "check_case" 317), (.str "check_case" 318), (.str "/claim/cut.py" 319), (.int (53) 0), (.int (2) 0), (.int (0) 0), (.int (0) 0), (.int (3) 0), (.ref 106), (.bool true), (.int (181) 0), (.ref 107), .none, (.ref 108), (.ref 109), (.ref 110), (.int (322) 0), (.int (53) 0), (.str "/claim/cut.py" 323)]), #[]⟩),
  (112, kFn "check_case" "check_case" (topP p 17) (.str "forsworn.stands" 264) 111),
  (118, ⟨(.type "code"), none, (.fields #[(.str "margin_without" 325), (.str "margin_without" 326), (.str "/claim/cut.py" 327), (.int (56) 0), (.int (3) 0), (.int (0) 0), (.int (0) 0), (.int (3) 0), (.ref 113), (.bool true), (.int (181) 0), (.ref 114), .none, (.ref 115), (.ref 116), (.ref 117), (.int (332) 0), (.int (56) 0), (.str "/claim/cut.py" 333)]), #[]⟩),
  (119, kFn "margin_without" "margin_without" (topP p 18) (.str "forsworn.stands" 264) 118),
  (123, ⟨(.type "code"), none, (.fields #[(.str "kept_weight" 335), (.str "kept_weight" 336), (.str "/claim/cut.py" 337), (.int (59) 0), (.int (3) 0), (.int (0) 0), (.int (0) 0), (.int (3) 0), (.ref 120), (.bool true), (.int (181) 0), (.ref 121), .none, .none, .none, (.ref 122), (.int (338) 0), (.int (59) 0), (.str "/claim/cut.py" 339)]), #[]⟩),
  (124, kFn "kept_weight" "kept_weight" (topP p 19) (.str "forsworn.stands" 264) 123),
  (130, ⟨(.type "code"), none, (.fields #[(.str "paper" 349), (.str "paper" 350), (.str "/claim/cut.py" 351), (.int (65) 0), (.int (2) 0), (.int (0) 0), (.int (0) 0), (.int (3) 0), (.ref 125), (.bool true), (.int (181) 0), (.ref 126), .none, (.ref 127), (.ref 128), (.ref 129), (.int (362) 0), (.int (65) 0), (.str "/claim/cut.py" 363)]), #[]⟩),
  (131, kFn "paper" "paper" (topP p 24) (.str "forsworn.papers" 341) 130),
  (135, ⟨(.type "code"), none, (.fields #[(.str "good_paper" 365), (.str "good_paper" 366), (.str "/claim/cut.py" 367), (.int (79) 0), (.int (4) 0), (.int (0) 0), (.int (0) 0), (.int (3) 0), (.ref 132), (.bool true), (.int (181) 0), (.ref 133), .none, .none, .none, (.ref 134), (.int (368) 0), (.int (79) 0), (.str "/claim/cut.py" 369)]), #[]⟩),
  (136, kFn "good_paper" "good_paper" (topP p 25) (.str "forsworn.papers" 341) 135),
  (140, ⟨(.type "code"), none, (.fields #[(.str "fewest_names" 371), (.str "fewest_names" 372), (.str "/claim/cut.py" 373), (.int (87) 0), (.int (4) 0), (.int (0) 0), (.int (0) 0), (.int (3) 0), (.ref 137), (.bool true), (.int (181) 0), (.ref 138), .none, .none, .none, (.ref 139), (.int (374) 0), (.int (87) 0), (.str "/claim/cut.py" 375)]), #[]⟩),
  (141, kFn "fewest_names" "fewest_names" (topP p 26) (.str "forsworn.papers" 341) 140),
  (147, ⟨(.type "code"), none, (.fields #[(.str "enough" 377), (.str "enough" 378), (.str "/claim/cut.py" 379), (.int (92) 0), (.int (2) 0), (.int (0) 0), (.int (0) 0), (.int (3) 0), (.ref 142), (.bool true), (.int (181) 0), (.ref 143), .none, (.ref 144), (.ref 145), (.ref 146), (.int (382) 0), (.int (92) 0), (.str "/claim/cut.py" 383)]), #[]⟩),
  (148, kFn "enough" "enough" (topP p 27) (.str "forsworn.papers" 341) 147),
  (152, ⟨(.type "code"), none, (.fields #[(.str "claims_broken" 385), (.str "claims_broken" 386), (.str "/claim/cut.py" 387), (.int (96) 0), (.int (3) 0), (.int (0) 0), (.int (0) 0), (.int (3) 0), (.ref 149), (.bool true), (.int (181) 0), (.ref 150), .none, .none, .none, (.ref 151), (.int (388) 0), (.int (96) 0), (.str "/claim/cut.py" 389)]), #[]⟩),
  (153, kFn "claims_broken" "claims_broken" (topP p 28) (.str "forsworn.papers" 341) 152),
  (159, ⟨(.type "code"), none, (.fields #[(.str "asked_by" 391), (.str "asked_by" 392), (.str "/claim/cut.py" 393), (.int (98) 0), (.int (4) 0), (.int (0) 0), (.int (0) 0), (.int (3) 0), (.ref 154), (.bool true), (.int (181) 0), (.ref 155), .none, (.ref 156), (.ref 157), (.ref 158), (.int (401) 0), (.int (98) 0), (.str "/claim/cut.py" 402)]), #[]⟩),
  (160, kFn "asked_by" "asked_by" (topP p 29) (.str "forsworn.papers" 341) 159),
  (164, ⟨(.type "code"), none, (.fields #[(.str "is_sound" 404), (.str "is_sound" 405), (.str "/claim/cut.py" 406), (.int (107) 0), (.int (2) 0), (.int (0) 0), (.int (0) 0), (.int (3) 0), (.ref 161), (.bool true), (.int (181) 0), (.ref 162), .none, .none, .none, (.ref 163), (.int (407) 0), (.int (107) 0), (.str "/claim/cut.py" 408)]), #[]⟩),
  (165, kFn "is_sound" "is_sound" (topP p 30) (.str "forsworn.papers" 341) 164),
  (169, ⟨(.type "code"), none, (.fields #[(.str "is_backed" 410), (.str "is_backed" 411), (.str "/claim/cut.py" 412), (.int (113) 0), (.int (4) 0), (.int (0) 0), (.int (0) 0), (.int (3) 0), (.ref 166), (.bool true), (.int (181) 0), (.ref 167), .none, .none, .none, (.ref 168), (.int (413) 0), (.int (113) 0), (.str "/claim/cut.py" 414)]), #[]⟩),
  (170, kFn "is_backed" "is_backed" (topP p 31) (.str "forsworn.papers" 341) 169),
  (176, ⟨(.type "code"), none, (.fields #[(.str "_law_src" 418), (.str "_law_src" 419), (.str "/claim/cut.py" 420), (.int (123) 0), (.int (1) 0), (.int (0) 0), (.int (0) 0), (.int (3) 0), (.ref 171), (.bool true), (.int (181) 0), (.ref 172), .none, (.ref 173), (.ref 174), (.ref 175), (.int (422) 0), (.int (123) 0), (.str "/claim/cut.py" 423)]), #[]⟩),
  (177, kFn "_law_src" "_law_src" (topP p 33) (.str "law_forsworn_k14_papers_that_are_looked_at" 416) 176),
  (183, ⟨(.type "code"), none, (.fields #[(.str "_law_next" 425), (.str "_law_next" 426), (.str "/claim/cut.py" 427), (.int (125) 0), (.int (2) 0), (.int (0) 0), (.int (0) 0), (.int (3) 0), (.ref 178), (.bool true), (.int (181) 0), (.ref 179), .none, (.ref 180), (.ref 181), (.ref 182), (.int (432) 0), (.int (125) 0), (.str "/claim/cut.py" 433)]), #[]⟩),
  (184, kFn "_law_next" "_law_next" (topP p 34) (.str "law_forsworn_k14_papers_that_are_looked_at" 416) 183),
  (190, ⟨(.type "code"), none, (.fields #[(.str "_law_whole" 435), (.str "_law_whole" 436), (.str "/claim/cut.py" 437), (.int (140) 0), (.int (1) 0), (.int (0) 0), (.int (0) 0), (.int (3) 0), (.ref 185), (.bool true), (.int (181) 0), (.ref 186), .none, (.ref 187), (.ref 188), (.ref 189), (.int (439) 0), (.int (140) 0), (.str "/claim/cut.py" 440)]), #[]⟩),
  (191, kFn "_law_whole" "_law_whole" (topP p 35) (.str "law_forsworn_k14_papers_that_are_looked_at" 416) 190),
  (197, ⟨(.type "code"), none, (.fields #[(.str "_law_same" 442), (.str "_law_same" 443), (.str "/claim/cut.py" 444), (.int (142) 0), (.int (2) 0), (.int (0) 0), (.int (0) 0), (.int (3) 0), (.ref 192), (.bool true), (.int (181) 0), (.ref 193), .none, (.ref 194), (.ref 195), (.ref 196), (.int (449) 0), (.int (142) 0), (.str "/claim/cut.py" 450)]), #[]⟩),
  (198, kFn "_law_same" "_law_same" (topP p 36) (.str "law_forsworn_k14_papers_that_are_looked_at" 416) 197),
  (204, ⟨(.type "code"), none, (.fields #[(.str "_law_unlike" 452), (.str "_law_unlike" 453), (.str "/claim/cut.py" 454), (.int (159) 0), (.int (2) 0), (.int (0) 0), (.int (0) 0), (.int (3) 0), (.ref 199), (.bool true), (.int (181) 0), (.ref 200), .none, (.ref 201), (.ref 202), (.ref 203), (.int (460) 0), (.int (159) 0), (.str "/claim/cut.py" 461)]), #[]⟩),
  (205, kFn "_law_unlike" "_law_unlike" (topP p 37) (.str "law_forsworn_k14_papers_that_are_looked_at" 416) 204),
  (209, ⟨(.type "code"), none, (.fields #[(.str "_law_word" 463), (.str "_law_word" 464), (.str "/claim/cut.py" 465), (.int (167) 0), (.int (2) 0), (.int (0) 0), (.int (0) 0), (.int (3) 0), (.ref 206), (.bool true), (.int (181) 0), (.ref 207), .none, .none, .none, (.ref 208), (.int (466) 0), (.int (167) 0), (.str "/claim/cut.py" 467)]), #[]⟩),
  (210, kFn "_law_word" "_law_word" (topP p 38) (.str "law_forsworn_k14_papers_that_are_looked_at" 416) 209),
  (216, ⟨(.type "code"), none, (.fields #[(.str "_law_names" 469), (.str "_law_names" 470), (.str "/claim/cut.py" 471), (.int (170) 0), (.int (2) 0), (.int (0) 0), (.int (0) 0), (.int (3) 0), (.ref 211), (.bool true), (.int (181) 0), (.ref 212), .none, (.ref 213), (.ref 214), (.ref 215), (.int (480) 0), (.int (170) 0), (.str "/claim/cut.py" 481)]), #[]⟩),
  (217, kFn "_law_names" "_law_names" (topP p 39) (.str "law_forsworn_k14_papers_that_are_looked_at" 416) 216),
  (223, ⟨(.type "code"), none, (.fields #[(.str "_law_weight" 483), (.str "_law_weight" 484), (.str "/claim/cut.py" 485), (.int (183) 0), (.int (1) 0), (.int (0) 0), (.int (0) 0), (.int (3) 0), (.ref 218), (.bool true), (.int (181) 0), (.ref 219), .none, (.ref 220), (.ref 221), (.ref 222), (.int (488) 0), (.int (183) 0), (.str "/claim/cut.py" 489)]), #[]⟩),
  (224, kFn "_law_weight" "_law_weight" (topP p 40) (.str "law_forsworn_k14_papers_that_are_looked_at" 416) 223),
  (230, ⟨(.type "code"), none, (.fields #[(.str "_law_total" 491), (.str "_law_total" 492), (.str "/claim/cut.py" 493), (.int (190) 0), (.int (1) 0), (.int (0) 0), (.int (0) 0), (.int (3) 0), (.ref 225), (.bool true), (.int (181) 0), (.ref 226), .none, (.ref 227), (.ref 228), (.ref 229), (.int (498) 0), (.int (190) 0), (.str "/claim/cut.py" 499)]), #[]⟩),
  (231, kFn "_law_total" "_law_total" (topP p 41) (.str "law_forsworn_k14_papers_that_are_looked_at" 416) 230),
  (237, ⟨(.type "code"), none, (.fields #[(.str "_law_side" 501), (.str "_law_side" 502), (.str "/claim/cut.py" 503), (.int (195) 0), (.int (3) 0), (.int (0) 0), (.int (0) 0), (.int (3) 0), (.ref 232), (.bool true), (.int (181) 0), (.ref 233), .none, (.ref 234), (.ref 235), (.ref 236), (.int (510) 0), (.int (195) 0), (.str "/claim/cut.py" 511)]), #[]⟩),
  (238, kFn "_law_side" "_law_side" (topP p 42) (.str "law_forsworn_k14_papers_that_are_looked_at" 416) 237),
  (244, ⟨(.type "code"), none, (.fields #[(.str "_law_need" 513), (.str "_law_need" 514), (.str "/claim/cut.py" 515), (.int (201) 0), (.int (3) 0), (.int (0) 0), (.int (0) 0), (.int (3) 0), (.ref 239), (.bool true), (.int (181) 0), (.ref 240), .none, (.ref 241), (.ref 242), (.ref 243), (.int (520) 0), (.int (201) 0), (.str "/claim/cut.py" 521)]), #[]⟩),
  (245, kFn "_law_need" "_law_need" (topP p 43) (.str "law_forsworn_k14_papers_that_are_looked_at" 416) 244),
  (249, ⟨(.type "code"), none, (.fields #[(.str "_law_named" 523), (.str "_law_named" 524), (.str "/claim/cut.py" 525), (.int (206) 0), (.int (2) 0), (.int (0) 0), (.int (0) 0), (.int (3) 0), (.ref 246), (.bool true), (.int (181) 0), (.ref 247), .none, .none, .none, (.ref 248), (.int (526) 0), (.int (206) 0), (.str "/claim/cut.py" 527)]), #[]⟩),
  (250, kFn "_law_named" "_law_named" (topP p 44) (.str "law_forsworn_k14_papers_that_are_looked_at" 416) 249),
  (256, ⟨(.type "code"), none, (.fields #[(.str "_law_suits" 529), (.str "_law_suits" 530), (.str "/claim/cut.py" 531), (.int (217) 0), (.int (3) 0), (.int (0) 0), (.int (0) 0), (.int (3) 0), (.ref 251), (.bool true), (.int (181) 0), (.ref 252), .none, (.ref 253), (.ref 254), (.ref 255), (.int (542) 0), (.int (217) 0), (.str "/claim/cut.py" 543)]), #[]⟩),
  (257, kFn "_law_suits" "_law_suits" (topP p 45) (.str "law_forsworn_k14_papers_that_are_looked_at" 416) 256),
  (261, ⟨(.type "code"), none, (.fields #[(.str "_law_copy" 545), (.str "_law_copy" 546), (.str "/claim/cut.py" 547), (.int (229) 0), (.int (1) 0), (.int (0) 0), (.int (0) 0), (.int (3) 0), (.ref 258), (.bool true), (.int (181) 0), (.ref 259), .none, .none, .none, (.ref 260), (.int (548) 0), (.int (229) 0), (.str "/claim/cut.py" 549)]), #[]⟩),
  (262, kFn "_law_copy" "_law_copy" (topP p 46) (.str "law_forsworn_k14_papers_that_are_looked_at" 416) 261),
  (268, ⟨(.type "code"), none, (.fields #[(.str "_law_goal" 551), (.str "_law_goal" 552), (.str "/claim/cut.py" 553), (.int (231) 0), (.int (2) 0), (.int (0) 0), (.int (0) 0), (.int (3) 0), (.ref 263), (.bool true), (.int (181) 0), (.ref 264), .none, (.ref 265), (.ref 266), (.ref 267), (.int (556) 0), (.int (231) 0), (.str "/claim/cut.py" 557)]), #[]⟩),
  (269, kFn "_law_goal" "_law_goal" (topP p 47) (.str "law_forsworn_k14_papers_that_are_looked_at" 416) 268),
  (273, ⟨(.type "code"), none, (.fields #[(.str "_law_namers" 559), (.str "_law_namers" 560), (.str "/claim/cut.py" 561), (.int (235) 0), (.int (3) 0), (.int (0) 0), (.int (0) 0), (.int (3) 0), (.ref 270), (.bool true), (.int (181) 0), (.ref 271), .none, .none, .none, (.ref 272), (.int (562) 0), (.int (235) 0), (.str "/claim/cut.py" 563)]), #[]⟩),
  (274, kFn "_law_namers" "_law_namers" (topP p 48) (.str "law_forsworn_k14_papers_that_are_looked_at" 416) 273),
  (278, ⟨(.type "code"), none, (.fields #[(.str "_law_kept_claim" 565), (.str "_law_kept_claim" 566), (.str "/claim/cut.py" 567), (.int (237) 0), (.int (3) 0), (.int (0) 0), (.int (0) 0), (.int (3) 0), (.ref 275), (.bool true), (.int (181) 0), (.ref 276), .none, .none, .none, (.ref 277), (.int (568) 0), (.int (237) 0), (.str "/claim/cut.py" 569)]), #[]⟩),
  (279, kFn "_law_kept_claim" "_law_kept_claim" (topP p 49) (.str "law_forsworn_k14_papers_that_are_looked_at" 416) 278),
  (283, ⟨(.type "code"), none, (.fields #[(.str "_law_fair" 571), (.str "_law_fair" 572), (.str "/claim/cut.py" 573), (.int (239) 0), (.int (3) 0), (.int (0) 0), (.int (0) 0), (.int (3) 0), (.ref 280), (.bool true), (.int (181) 0), (.ref 281), .none, .none, .none, (.ref 282), (.int (574) 0), (.int (239) 0), (.str "/claim/cut.py" 575)]), #[]⟩),
  (284, kFn "_law_fair" "_law_fair" (topP p 50) (.str "law_forsworn_k14_papers_that_are_looked_at" 416) 283),
  (288, ⟨(.type "code"), none, (.fields #[(.str "_law_borne" 577), (.str "_law_borne" 578), (.str "/claim/cut.py" 579), (.int (246) 0), (.int (3) 0), (.int (0) 0), (.int (0) 0), (.int (3) 0), (.ref 285), (.bool true), (.int (181) 0), (.ref 286), .none, .none, .none, (.ref 287), (.int (580) 0), (.int (246) 0), (.str "/claim/cut.py" 581)]), #[]⟩),
  (289, kFn "_law_borne" "_law_borne" (topP p 51) (.str "law_forsworn_k14_papers_that_are_looked_at" 416) 288),
  (295, ⟨(.type "code"), none, (.fields #[(.str "_law_good" 583), (.str "_law_good" 584), (.str "/claim/cut.py" 585), (.int (256) 0), (.int (4) 0), (.int (0) 0), (.int (0) 0), (.int (3) 0), (.ref 290), (.bool true), (.int (181) 0), (.ref 291), .none, (.ref 292), (.ref 293), (.ref 294), (.int (592) 0), (.int (256) 0), (.str "/claim/cut.py" 593)]), #[]⟩),
  (296, kFn "_law_good" "_law_good" (topP p 52) (.str "law_forsworn_k14_papers_that_are_looked_at" 416) 295),
  (300, ⟨(.type "code"), none, (.fields #[(.str "_law_bent_entry" 595), (.str "_law_bent_entry" 596), (.str "/claim/cut.py" 597), (.int (268) 0), (.int (3) 0), (.int (0) 0), (.int (0) 0), (.int (3) 0), (.ref 297), (.bool true), (.int (181) 0), (.ref 298), .none, .none, .none, (.ref 299), (.int (598) 0), (.int (268) 0), (.str "/claim/cut.py" 599)]), #[]⟩),
  (301, kFn "_law_bent_entry" "_law_bent_entry" (topP p 53) (.str "law_forsworn_k14_papers_that_are_looked_at" 416) 300),
  (305, ⟨(.type "code"), none, (.fields #[(.str "_law_drawn_entry" 601), (.str "_law_drawn_entry" 602), (.str "/claim/cut.py" 603), (.int (287) 0), (.int (2) 0), (.int (0) 0), (.int (0) 0), (.int (3) 0), (.ref 302), (.bool true), (.int (181) 0), (.ref 303), .none, .none, .none, (.ref 304), (.int (604) 0), (.int (287) 0), (.str "/claim/cut.py" 605)]), #[]⟩),
  (306, kFn "_law_drawn_entry" "_law_drawn_entry" (topP p 54) (.str "law_forsworn_k14_papers_that_are_looked_at" 416) 305),
  (310, ⟨(.type "code"), none, (.fields #[(.str "_law_bent" 607), (.str "_law_bent" 608), (.str "/claim/cut.py" 609), (.int (292) 0), (.int (3) 0), (.int (0) 0), (.int (0) 0), (.int (3) 0), (.ref 307), (.bool true), (.int (181) 0), (.ref 308), .none, .none, .none, (.ref 309), (.int (610) 0), (.int (292) 0), (.str "/claim/cut.py" 611)]), #[]⟩),
  (311, kFn "_law_bent" "_law_bent" (topP p 55) (.str "law_forsworn_k14_papers_that_are_looked_at" 416) 310),
  (315, ⟨(.type "code"), none, (.fields #[(.str "_law_copied" 613), (.str "_law_copied" 614), (.str "/claim/cut.py" 615), (.int (307) 0), (.int (1) 0), (.int (0) 0), (.int (0) 0), (.int (3) 0), (.ref 312), (.bool true), (.int (181) 0), (.ref 313), .none, .none, .none, (.ref 314), (.int (616) 0), (.int (307) 0), (.str "/claim/cut.py" 617)]), #[]⟩),
  (316, kFn "_law_copied" "_law_copied" (topP p 56) (.str "law_forsworn_k14_papers_that_are_looked_at" 416) 315),
  (322, ⟨(.type "code"), none, (.fields #[(.str "law" 619), (.str "law" 620), (.str "/claim/cut.py" 621), (.int (309) 0), (.int (1) 0), (.int (0) 0), (.int (0) 0), (.int (3) 0), (.ref 317), (.bool true), (.int (181) 0), (.ref 318), .none, (.ref 319), (.ref 320), (.ref 321), (.int (632) 0), (.int (309) 0), (.str "/claim/cut.py" 633)]), #[]⟩),
  (323, kFn "law" "law" (topP p 57) (.str "law_forsworn_k14_papers_that_are_looked_at" 416) 322)]
def KK (P : Params) : PySem.W.Frag := Kp PySem.Challenge.pw_forsworn_k14_papers_that_are_looked_at P
def tabl : PySem.W.Frag := [(28, ⟨.none, none, .fields #[], #[]⟩)]
def KTp (p : Program) (P : Params) : PySem.W.Frag := (Kp p P ++ tabl : List (Addr × Obj))
def KTK (P : Params) : PySem.W.Frag := KTp PySem.Challenge.pw_forsworn_k14_papers_that_are_looked_at P
def askd : List Addr := [3, 4, 25, 26, 32, 33, 78, 79, 85, 86, 92, 93, 97, 98, 104, 105, 111, 112, 118, 119, 123, 124, 130, 131, 135, 136, 140, 141, 147, 148, 152, 153, 159, 160, 164, 165, 169, 170, 176, 177, 183, 184, 190, 191, 197, 198, 204, 205, 209, 210, 216, 217, 223, 224, 230, 231, 237, 238, 244, 245, 249, 250, 256, 257, 261, 262, 268, 269, 273, 274, 278, 279, 283, 284, 288, 289, 295, 296, 300, 301, 305, 306, 310, 311, 315, 316, 322, 323, 28]
def HK : PySem.W.Hook := PySem.W.kHook KTK askd fun _ => by kernel_rfl
def q : Program := PySem.W.view PySem.Challenge.pw_forsworn_k14_papers_that_are_looked_at [0, 2, 3, 5, 6, 8, 9, 10, 11, 12, 13, 14, 15, 16, 17, 18, 19, 21, 22, 23, 24, 25, 26, 27, 28, 29, 30, 31, 33, 34, 35, 36, 37, 38, 39, 40, 41, 42, 43, 44, 45, 46, 47, 48, 49, 50, 51, 52, 53, 54, 55, 56, 57]
end Law
lay_quick PySem.Challenge.rw_forsworn_k14_papers_that_are_looked_at Law.q
namespace Law
open PySem L2
set_option maxRecDepth 1000000 in
theorem runQ (w : World) (os : PySem.OsState) : Option.map (fun s => PySem.W.Fast.tw12071799914241796487 (PySem.W.Fast.tw2368527892694137696 PySem.W.Fast.tw2746994550322603099).prog PySem.W.Fast.tw2797900513057943271 [] (fun s => PySem.W.xlAt PySem.W.Fast.tw2797900513057943271 [] s && PySem.W.recOk (PySem.W.Fast.tw2368527892694137696 PySem.W.Fast.tw2746994550322603099).records s) (fun s => askd.map s.heap.get?) w.params s.abs)
    (PySem.W.Fast.tw4652649595001227023 PySem.W.Fast.tw14364793385576792824 (PySem.W.Fast.tw2368527892694137696 PySem.W.Fast.tw2746994550322603099).prog w 11 (some (.ref 6)) 3872 (PySem.W.Fast.tw15095419895629540892 w.params os) (PySem.W.topStub (PySem.W.Fast.tw2368527892694137696 PySem.W.Fast.tw2746994550322603099).prog)) = some (true, PySem.W.openGood PySem.W.Fast.tw2797900513057943271 [], (KTp PySem.W.Fast.tw7485101807948814263 w.params).map fun p => some p.2) := by
  kernel_rfl
theorem left : PySem.W.LeftO PySem.Challenge.rw_forsworn_k14_papers_that_are_looked_at.row.prog q [] (fun s => PySem.W.xlAt q [] s && PySem.W.recOk (PySem.W.RowW.records PySem.Challenge.rw_forsworn_k14_papers_that_are_looked_at.row.toRowW) s) HK.obs HK.val 3872 := by
  refine left_of (by kernel_rfl) (by decide) (fun s => by kernel_rfl) fun w os => ?_
  have h := runQ w os
  rw [← PySem.W.Fast.te12071799914241796487, ← PySem.W.Fast.te4652649595001227023, ← PySem.W.Fast.te15095419895629540892, ← PySem.W.Fast.te2797900513057943271, ← PySem.W.Fast.te2368527892694137696, ← PySem.W.Fast.te2746994550322603099, ← PySem.W.Fast.te14364793385576792824, ← PySem.W.Fast.te7485101807948814263] at h
  exact h
end Law
section
set_option Elab.async false
set_option linter.all false
set_option maxRecDepth 100000
namespace L2
open PySem PySem.Spec PyProof.Rows
abbrev Key := Sum Int Str
def keyIs : Key -> Value -> Bool
  | .inl k, v => Value.isInt k v
  | .inr x, v => Value.isStrOf x v
def keyH (w : World) : Key -> Int
  | .inl k => hashInt k
  | .inr x => hashStr w x
theorem Zq85 : ∀ {k : Key} {v : Value}, keyIs k v = true -> (∃ i t, k = Sum.inl i /\ v = Value.int i t) \/ (∃ x t, k = Sum.inr x /\ v = Value.str x t)
  | .inl i, v, h => by
    obtain ⟨t, e⟩ := Value.isInt_shape (k := i) (v := v) h
    exact .inl ⟨i, t, rfl, e⟩
  | .inr x, v, h => by
    obtain ⟨t, e⟩ := Value.isStrOf_shape (x := x) (v := v) h
    exact .inr ⟨x, t, rfl, e⟩
theorem keyIs_int (i : Int) (t : Tok) : keyIs (.inl i) (.int i t) = true := by simp [keyIs, Value.isInt]
theorem keyIs_str (x : Str) (t : Tok) : keyIs (.inr x) (.str x t) = true := by simp [keyIs, Value.isStrOf]
theorem key_ll (a b : Int) : decide ((Sum.inl a : Key) = Sum.inl b) = (a == b) := by
  by_cases e : a = b
  · subst e; simp
  · have h : ¬ (Sum.inl a : Key) = Sum.inl b := fun q => e (Sum.inl.inj q)
    rw [decide_eq_false h]
    exact (beq_eq_false_iff_ne.mpr e).symm
theorem key_rr (a b : Str) : decide ((Sum.inr a : Key) = Sum.inr b) = decide (a = b) := by
  by_cases e : a = b
  · subst e; simp
  · have h : ¬ (Sum.inr a : Key) = Sum.inr b := fun q => e (Sum.inr.inj q)
    rw [decide_eq_false h, decide_eq_false e]
theorem key_lr (a : Int) (b : Str) : decide ((Sum.inl a : Key) = Sum.inr b) = false := decide_eq_false (fun q => nomatch q)
theorem key_rl (a : Str) (b : Int) : decide ((Sum.inr a : Key) = Sum.inl b) = false := decide_eq_false (fun q => nomatch q)
def Zq55 (prog : Program) (w : World) : PySem.KeyKind prog w Key where
  is := keyIs
  hash := keyH w
  inj := fun v a b ha hb => by
    rcases Zq85 ha with ⟨i, t, rfl, rfl⟩ | ⟨x, t, rfl, rfl⟩
    · rcases Zq85 hb with ⟨j, u, rfl, e⟩ | ⟨y, u, rfl, e⟩
      · injection e with e1 _; rw [e1]
      · exact nomatch e
    · rcases Zq85 hb with ⟨j, u, rfl, e⟩ | ⟨y, u, rfl, e⟩
      · exact nomatch e
      · injection e with e1 _; rw [e1]
  byValue := fun k v h => by
    rcases Zq85 h with ⟨i, t, rfl, rfl⟩ | ⟨x, t, rfl, rfl⟩ <;> rfl
  pyHash := fun hv h => by
    rcases Zq85 hv with ⟨i, t, rfl, rfl⟩ | ⟨x, t, rfl, rfl⟩
    · exact wpAny_pyHash_int h
    · exact wpAny_pyHash_str h
  eqBool := fun hu hv h => by
    rcases Zq85 hu with ⟨i, t, rfl, rfl⟩ | ⟨x, t, rfl, rfl⟩
    · rcases Zq85 hv with ⟨j, u, rfl, rfl⟩ | ⟨y, u, rfl, rfl⟩
      · rw [key_ll] at h; exact wpAny_eqBool_int h
      · rw [key_lr] at h; exact SeqAt.EqAt.int_str i t y u _ _ _ _ h
    · rcases Zq85 hv with ⟨j, u, rfl, rfl⟩ | ⟨y, u, rfl, rfl⟩
      · rw [key_rl] at h; exact SeqAt.EqAt.str_int x t j u _ _ _ _ h
      · rw [key_rr] at h; exact wpAny_eqBool_str h
  «strs» := fun k x t v h => by
    rcases Zq85 h with ⟨i, u, rfl, e⟩ | ⟨y, u, rfl, e⟩
    · exact nomatch e
    · injection e with e1 _
      subst e1
      cases v <;> rfl
theorem mixKind_int (prog : Program) (w : World) (i : Int) (t : Tok) : (Zq55 prog w).is (.inl i) (.int i t) = true := keyIs_int i t
theorem mixKind_str (prog : Program) (w : World) (x : Str) (t : Tok) : (Zq55 prog w).is (.inr x) (.str x t) = true := keyIs_str x t
end L2
namespace L2
open PySem PySem.Spec PyProof.Rows
inductive V where
  | non | bl (b : Bool) | int (i : Int) | str (x : Str) | byt (b : Array UInt8) | flt (b : UInt64) | ref (a : Addr) | ty (n : String)
  deriving DecidableEq
def RelV : V -> Value -> Prop
  | .non, u => u = Value.none
  | .bl b, u => u = Value.bool b
  | .int i, u => ∃ t, u = Value.int i t
  | .str x, u => ∃ t, u = Value.str x t
  | .byt b, u => ∃ t, u = Value.bytes b t
  | .flt b, u => ∃ t, u = Value.float b t
  | .ref a, u => u = Value.ref a
  | .ty n, u => u = Value.type n
abbrev Vals : List V -> List Value -> Prop := Paired RelV
theorem Vals.length {xs : List V} {us : List Value} (r : Vals xs us) : xs.length = us.length := Paired.length r
theorem Vals.get : ∀ {xs : List V} {us : List Value} {i : Nat} {x : V}, Vals xs us -> xs[i]? = some x -> ∃ u, us[i]? = some u /\ RelV x u
  | _, _, _, _, .nil, e => by simp at e
  | _, _, 0, _, .cons r _, e => by simp at e; subst e; exact ⟨_, rfl, r⟩
  | _, _, i + 1, x, .cons _ t, e => by
    obtain ⟨u, h1, h2⟩ := Vals.get (i := i) (x := x) t (by simpa using e)
    exact ⟨u, by simpa using h1, h2⟩
theorem Vals.set {x : V} {u : Value} (r : RelV x u) : ∀ {xs : List V} {us : List Value} (i : Nat), Vals xs us -> Vals (xs.set i x) (us.set i u)
  | _, _, _, .nil => .nil
  | _, _, 0, .cons _ t => .cons r t
  | _, _, i + 1, .cons q t => .cons q (Vals.set r i t)
theorem Vals.append : ∀ {xs ys : List V} {us ws : List Value}, Vals xs us -> Vals ys ws -> Vals (xs ++ ys) (us ++ ws)
  | _, _, _, _, .nil, s => s
  | _, _, _, _, .cons r t, s => .cons r (Vals.append t s)
theorem Vals.take : ∀ {xs : List V} {us : List Value} (n : Nat), Vals xs us -> Vals (xs.take n) (us.take n)
  | _, _, 0, _ => .nil
  | _, _, _ + 1, .nil => .nil
  | _, _, n + 1, .cons r t => .cons r (Vals.take n t)
theorem Vals.drop : ∀ {xs : List V} {us : List Value} (n : Nat), Vals xs us -> Vals (xs.drop n) (us.drop n)
  | _, _, 0, r => r
  | _, _, _ + 1, .nil => .nil
  | _, _, n + 1, .cons _ t => Vals.drop n t
theorem Vals.none_of : ∀ {xs : List V} {us : List Value} {i : Nat}, Vals xs us -> xs[i]? = none -> us[i]? = none := fun {xs us i} r e => by
  have h1 := r.length
  have h2 : xs.length <= i := List.getElem?_eq_none_iff.mp e
  exact List.getElem?_eq_none_iff.mpr (by omega)
def RelO : Option V -> Option Value -> Prop
  | some v, some u => RelV v u
  | none, none => True
  | _, _ => False
def KV {κ : Type} : List (κ × V) -> List (κ × Value) -> Prop := Paired fun (p : κ × V) (q : κ × Value) => p.1 = q.1 /\ RelV p.2 q.2
def kV : Key -> V
  | .inl i => .int i
  | .inr x => .str x
inductive HO where
  | lst (xs : List V)
  | tup (xs : List V)
  | dK (kvs : List (Key × V)) | dT (kvs : List (List Key × V))
  | set (S : Int -> Bool) (n : Nat)
  | ins (C dx : Addr) (fs : List (Str × V))
  | own (x : Addr)
  | xd (fs : List (Str × V))
  | met (f x : Addr)
  | rng (lo hi : Int)
  | frz (o : Obj) (u : HO)
  | tbl (ps : Array Value)
  | ext (φ : Heap -> Prop)
abbrev Hp := Addr -> Option HO
def upd (H : Hp) (a : Addr) (o : HO) : Hp := fun b => if b = a then some o else H b
theorem Zq3 {H : Hp} {a : Addr} {o : HO} : upd H a o a = some o := by unfold upd; rw [if_pos rfl]
theorem Zq7 {H : Hp} {a b : Addr} {o : HO} (h : b ≠ a) : upd H a o b = H b := by unfold upd; rw [if_neg h]
theorem ne_of {H : Hp} {a b : Addr} {o u : HO} (h : H a = some o) (h' : H b = some u) (d : o ≠ u) : a ≠ b := by
  intro e; subst e; rw [h] at h'; exact d (Option.some.inj h')
theorem Zq16 {H : Hp} {a b : Addr} {o : HO} (h : H a = some o) (h' : H b = none) : a ≠ b := by
  intro e; subst e; rw [h] at h'; cases h'
section
variable (P : Program) (w : World)
def ObjOk (H : Hp) (h : Heap) (a : Addr) : HO -> Prop
  | .lst xs => xs.length <= sizeLine /\ ∃ (its : List Value) (n : Nat), Vals xs its /\ h.get? a = some { cls := .type "list", data := .seq its.toArray n }
  | .tup xs => xs.length <= sizeLine /\ ∃ its : List Value, Vals xs its /\ IsTup h a its.toArray
  | .dK kvs => kvs.length <= sizeLine /\ (a == sysModules) = false /\ ∃ vs, KV kvs vs /\ h.DictOf (Zq55 P w) a vs
  | .dT kvs => kvs.length <= sizeLine /\ (a == sysModules) = false /\ ∃ xs : List (List Key × Addr × Value),
      Paired (fun (p : List Key × V) (q : List Key × Addr × Value) => p.1 = q.1 /\ H q.2.1 = some (.tup (p.1.map kV)) /\ RelV p.2 q.2.2) kvs xs /\
      ∃ o es ep, h.get? a = some o /\ o.ExactDict /\ o.data = .dict es ep /\ es.toList = xs.map (entryOfKey (tupleKind (Zq55 P w))) /\ (xs.map (·.1)).Nodup
  | .set S n => h.SetOf (intKind P w) a S n
  | .ins C dx fs => H dx = some (.own a) /\ fs.length <= 1000 /\ dx ≠ a /\ h.get? a = some (PySem.W.instObj C dx) /\
      ∃ mA, h.Ns1 dx mA /\ (∀ f, RelO (fs.lookup f) (mA f)) /\ PySem.Within mA (fs.map (·.1))
  | .own _ => ∃ o, h.get? a = some o
  | .xd fs => ∃ mA, h.Ns1 a mA /\ ∀ f, RelO (fs.lookup f) (mA f)
  | .rng lo hi => ∃ t u v, h.get? a = some { cls := .type "range", data := .fields #[.int lo t, .int hi u, .int 1 v] }
  | .frz o u => h.get? a = some o /\ ObjOk H h a u
  | .tbl ps => ∃ (qs : Array Value) (nm : Str) (t : Tok), h.get? a = some { cls := .none, data := .fields qs } /\ TriplesOk qs.toList /\ ps[0]? = some (.str nm t) /\ ∀ pos cv, codeAmong pos qs.toList = some cv -> ∃ c, cv = .ref c /\ H c = some (.own a) /\ h.CodeRec (.ref c) nm
  | .met f x => h.get? a = some (PySem.W.methodObj (.ref f) (.ref x))
  | .ext φ => φ h /\ (∃ o, h.get? a = some o) /\ ∀ h1 h2 : Heap, φ h1 -> (∀ o, h1.get? a = some o -> h2.get? a = some o) -> φ h2
def HOk (H : Hp) (h : Heap) : Prop := ∀ a o, H a = some o -> ObjOk P w H h a o
end
section
variable {P : Program} {w : World} {H H' : Hp} {h h' : Heap} {a : Addr} {o : HO}
theorem ObjOk.lt (x : ObjOk P w H h a o) : a < h.objs.size := by
  cases o with
  | lst xs => obtain ⟨_, _, _, _, e⟩ := x; exact Heap.lt_size e
  | tup xs => obtain ⟨_, _, _, p⟩ := x; exact p.lt
  | dK kvs => obtain ⟨_, _, _, _, o, _, _, e, _⟩ := x; exact Heap.lt_size e
  | dT kvs => obtain ⟨_, _, _, _, o, _, _, e, _⟩ := x; exact Heap.lt_size e
  | set S n => obtain ⟨o, _, _, _, e, _⟩ := x; exact Heap.lt_size e
  | ins C dx fs => obtain ⟨_, _, _, e, _⟩ := x; exact Heap.lt_size e
  | own y => obtain ⟨_, e⟩ := x; exact Heap.lt_size e
  | xd fs => obtain ⟨_, ⟨_, _, _, e, _⟩, _⟩ := x; exact Heap.lt_size e
  | rng lo hi => obtain ⟨_, _, _, e⟩ := x; exact Heap.lt_size e
  | frz ob u => obtain ⟨e, _⟩ := x; exact Heap.lt_size e
  | tbl ps => obtain ⟨_, _, _, e, _⟩ := x; exact Heap.lt_size e
  | met f y => exact Heap.lt_size (show h.get? a = some _ from x)
  | ext φ => obtain ⟨_, ⟨_, e⟩, _⟩ := x; exact Heap.lt_size e
theorem Paired.mapP {α β : Type} {F G : α -> β -> Prop} : ∀ {l₁ : List α} {l₂ : List β}, Paired F l₁ l₂ -> (∀ a b, F a b -> G a b) -> Paired G l₁ l₂
  | _, _, .nil, _ => .nil
  | _, _, .cons r t, f => .cons (f _ _ r) (Paired.mapP t f)
theorem ObjOk.stay (x : ObjOk P w H h a o) (k : ∀ b u, (b = a \/ H b = some (.own a)) -> h.get? b = some u -> h'.get? b = some u)
    (ho : ∀ b, H b = some (.own a) -> H' b = some (.own a)) (ht : ∀ b xs, H b = some (.tup xs) -> H' b = some (.tup xs)) : ObjOk P w H' h' a o := by
  induction o with
  | lst xs => obtain ⟨z, its, n, r, e⟩ := x; exact ⟨z, its, n, r, k _ _ (.inl rfl) e⟩
  | tup xs => obtain ⟨z, its, r, ob, e, c⟩ := x; exact ⟨z, its, r, ob, k _ _ (.inl rfl) e, c⟩
  | dK kvs => obtain ⟨z, y, vs, r, ob, es, ep, e, c⟩ := x; exact ⟨z, y, vs, r, ob, es, ep, k _ _ (.inl rfl) e, c⟩
  | dT kvs =>
    obtain ⟨z, y, xs, r, ob, es, ep, e, c⟩ := x
    exact ⟨z, y, xs, Paired.mapP r fun p q z => ⟨z.1, ht _ _ z.2.1, z.2.2⟩, ob, es, ep, k _ _ (.inl rfl) e, c⟩
  | set S n => obtain ⟨ob, es, ep, t, e, c⟩ := x; exact ⟨ob, es, ep, t, k _ _ (.inl rfl) e, c⟩
  | ins C dx fs =>
    obtain ⟨d, z, ne, e, mA, ⟨od, es, ep, e2, c⟩, r⟩ := x
    exact ⟨ho _ d, z, ne, k _ _ (.inl rfl) e, mA, ⟨od, es, ep, k _ _ (.inr d) e2, c⟩, r⟩
  | own y => obtain ⟨ob, e⟩ := x; exact ⟨ob, k _ _ (.inl rfl) e⟩
  | xd fs => obtain ⟨mA, ⟨od, es, ep, e, c⟩, r⟩ := x; exact ⟨mA, ⟨od, es, ep, k _ _ (.inl rfl) e, c⟩, r⟩
  | rng lo hi => obtain ⟨t, u, v, e⟩ := x; exact ⟨t, u, v, k _ _ (.inl rfl) e⟩
  | frz ob u ih => obtain ⟨e, q⟩ := x; exact ⟨k _ _ (.inl rfl) e, ih q⟩
  | tbl ps =>
    obtain ⟨qs, nm, t, e, z1, z2, z3⟩ := x
    refine ⟨qs, nm, t, k a _ (.inl rfl) e, z1, z2, fun pos cv ec => ?_⟩
    obtain ⟨c, e1, e2, c2, oc, vs, tt, e3, e4, e5⟩ := z3 pos cv ec
    cases e3
    exact ⟨c, e1, ho _ e2, c, oc, vs, tt, rfl, k _ _ (.inr e2) e4, e5⟩
  | met f y =>
    have e : h.get? a = some (PySem.W.methodObj (.ref f) (.ref y)) := x
    show h'.get? a = some (PySem.W.methodObj (.ref f) (.ref y))
    exact k a _ (.inl rfl) e
  | ext φ => obtain ⟨p, ⟨o, e⟩, st⟩ := x; exact ⟨st _ _ p fun o q => k _ _ (.inl rfl) q, ⟨o, k _ _ (.inl rfl) e⟩, st⟩
theorem HOk.lt (x : HOk P w H h) (e : H a = some o) : a < h.objs.size := (x a o e).lt
theorem HOk.fresh (x : HOk P w H h) (e : h.objs.size <= a) : H a = none := by
  cases q : H a with
  | none => rfl
  | some u => exact absurd (Nat.lt_of_lt_of_le (x.lt q) e) (Nat.lt_irrefl _)
theorem HOk.kept (x : HOk P w H h) (k : ∀ b u, h.get? b = some u -> h'.get? b = some u) : HOk P w H h' := fun a o e =>
  (x a o e).stay (fun b u _ q => k b u q) (fun _ q => q) fun _ _ q => q
theorem HOk.laid (x : HOk P w H h) (k : ∀ b u, h.get? b = some u -> h'.get? b = some u) (hp : h.objs.size <= a) (new : ObjOk P w (upd H a o) h' a o) : HOk P w (upd H a o) h' := fun b u e => by
  have hn := x.fresh hp
  by_cases hb : b = a
  · subst hb; rw [Zq3] at e; cases e; exact new
  · rw [Zq7 hb] at e
    exact (x b u e).stay (fun c v _ q => k c v q) (fun c q => by rw [Zq7 (Zq16 q hn)]; exact q) fun c xs q => by rw [Zq7 (Zq16 q hn)]; exact q
end
def Rd (H : Hp) (a : Addr) (u : HO) : Prop := H a = some u \/ ∃ o, H a = some (.frz o u)
theorem Rd.ok {P : Program} {w : World} {H : Hp} {h : Heap} {a : Addr} {u : HO} (r : Rd H a u) (x : HOk P w H h) : ObjOk P w H h a u := by
  rcases r with r | ⟨o, r⟩
  · exact x a u r
  · obtain ⟨_, q⟩ := x a _ r
    exact q
def Mut : Option HO -> Prop
  | some (.lst _) => True
  | some (.dK _) => True
  | some (.dT _) => True
  | some (.set _ _) => True
  | some (.ins _ _ _) => True
  | some (.ext _) => True
  | _ => False
section
variable {P : Program} {w : World} {H : Hp} {h h' : Heap} {x e : Addr} {o' : HO}
theorem HOk.write (ok : HOk P w H h) (mu : Mut (H x)) (he : e = x \/ H e = some (.own x)) (k : ∀ b u, b ≠ e -> h.get? b = some u -> h'.get? b = some u) (heo : ∃ u, h'.get? e = some u)
    (new : ObjOk P w (upd H x o') h' x o') : HOk P w (upd H x o') h' := fun b u q => by
  have nown : ∀ c y, H c = some (.own y) -> c ≠ x := fun c y r z => by subst z; rw [r] at mu; exact mu
  have ntup : ∀ c xs, H c = some (.tup xs) -> c ≠ x := fun c xs r z => by subst z; rw [r] at mu; exact mu
  by_cases hb : b = x
  · subst hb; rw [Zq3] at q; cases q; exact new
  · rw [Zq7 hb] at q
    by_cases hbe : b = e
    · have q' : H b = some (.own x) := by
        rcases he with z | z
        · exact absurd (hbe.trans z) hb
        · rw [hbe]; exact z
      rw [q] at q'; cases q'
      obtain ⟨v, hv⟩ := heo
      exact ⟨v, by rw [hbe]; exact hv⟩
    · refine (ok b u q).stay (fun c v hc r => k c v ?_ r) (fun c r => by rw [Zq7 (nown c b r)]; exact r) fun c xs r => by rw [Zq7 (ntup c xs r)]; exact r
      rcases hc with rfl | hc
      · exact hbe
      · rintro rfl
        rcases he with z | z
        · exact nown c b hc z
        · rw [hc] at z; cases z; exact hb rfl
end
structure Un (fs ex : List Addr) (H H' : Hp) (h h' : Heap) : Prop where
  keep : ∀ b o, h.get? b = some o -> H b = none -> b ∉ fs -> b ∉ ex -> h'.get? b = some o
  slot : ∀ b o, h.get? b = some o -> H b = none -> b ∈ fs -> b ∉ ex -> ∃ sl, h'.get? b = some { o with slots := sl }
  free : ∀ b o, h.get? b = some o -> H b = none -> b ∉ ex -> H' b = none
  there : ∀ b o, h.get? b = some o -> b ∉ ex -> ∃ o', h'.get? b = some o'
  tups : ∀ b xs, H b = some (.tup xs) -> H' b = some (.tup xs)
  frzs : ∀ b o u, H b = some (.frz o u) -> H' b = some (.frz o u)
  tbls : ∀ b ps, H b = some (.tbl ps) -> ∃ more, H' b = some (.tbl (ps ++ more))
section
variable {fs fs' ex ex' : List Addr} {H H1 H2 : Hp} {h h1 h2 h' : Heap} {a x e : Addr} {o : HO}
theorem Un.any (u : Un fs ex H H1 h h1) {b : Addr} {ob : Obj} (q : h.get? b = some ob) (n : H b = none) (hx : b ∉ ex) : ∃ sl, h1.get? b = some { ob with slots := sl } := by
  by_cases hb : b ∈ fs
  · exact u.slot b ob q n hb hx
  · exact ⟨ob.slots, u.keep b ob q n hb hx⟩
theorem Un.kept (k : ∀ b u, h.get? b = some u -> h'.get? b = some u) : Un fs ex H H h h' :=
  ⟨fun b ob q _ _ _ => k b ob q, fun b ob q _ _ _ => ⟨ob.slots, k b ob q⟩, fun _ _ _ n _ => n, fun b ob q _ => ⟨ob, k b ob q⟩, fun _ _ q => q, fun _ _ _ q => q, fun _ ps q => ⟨#[], by rw [q]; simp⟩⟩
theorem Un.refl : Un fs ex H H h h := Un.kept fun _ _ q => q
theorem Un.laid (k : ∀ b u, h.get? b = some u -> h'.get? b = some u) (hp : h.objs.size <= a) (hn : H a = none) : Un fs ex H (upd H a o) h h' where
  keep := fun b u q _ _ _ => k b u q
  slot := fun b u q _ _ _ => ⟨u.slots, k b u q⟩
  free := fun b u q n _ => by rw [Zq7 (Nat.ne_of_lt (Nat.lt_of_lt_of_le (Heap.lt_size q) hp))]; exact n
  there := fun b u q _ => ⟨u, k b u q⟩
  tups := fun b xs q => by rw [Zq7 (Zq16 q hn)]; exact q
  frzs := fun b u xs q => by rw [Zq7 (Zq16 q hn)]; exact q
  tbls := fun b ps q => ⟨#[], by rw [Zq7 (Zq16 q hn), q]; simp⟩
theorem Un.write (mu : Mut (H x)) (he : e = x \/ H e = some (.own x)) (k : ∀ b u, b ≠ e -> h.get? b = some u -> h'.get? b = some u) (heo : ∃ u, h'.get? e = some u) : Un fs ex H (upd H x o) h h' := by
  have hx : ∀ b, H b = none -> b ≠ x := fun b n z => by subst z; rw [n] at mu; exact mu
  have hb : ∀ b, H b = none -> b ≠ e := fun b n z => by
    subst z
    rcases he with r | r
    · exact hx b n r
    · rw [n] at r; cases r
  have hm : ∀ b u, H b = some u -> ¬ Mut (some u) -> b ≠ x := fun b u q nm z => by subst z; rw [q] at mu; exact nm mu
  refine ⟨fun b u q n _ _ => k b u (hb b n) q, fun b u q n _ _ => ⟨u.slots, k b u (hb b n) q⟩, fun b u q n _ => by rw [Zq7 (hx b n)]; exact n, fun b u q _ => ?_,
    fun b xs q => by rw [Zq7 (hm b _ q fun z => z)]; exact q, fun b u xs q => by rw [Zq7 (hm b _ q fun z => z)]; exact q, fun b ps q => ⟨#[], by rw [Zq7 (hm b _ q fun z => z), q]; simp⟩⟩
  by_cases hbe : b = e
  · subst hbe; exact heo
  · exact ⟨u, k b u hbe q⟩
end
def trk (h : Heap) (H : Hp) : List Addr := (List.range h.objs.size).filter fun a => (H a).isSome
def hidT (h : Heap) (H : Hp) : Heap := PySem.W.hideAll h (trk h H)
theorem hidT_size (h : Heap) (H : Hp) : (hidT h H).objs.size = h.objs.size := PySem.W.hideAll_size _ _
theorem hidT_get {h : Heap} {H : Hp} {b : Addr} {o : Obj} (e : h.get? b = some o) (n : H b = none) : (hidT h H).get? b = some o :=
  PySem.W.hideAll_get _ e fun hm => by
    have q : (H b).isSome = true := (List.mem_filter.mp hm).2
    rw [n] at q; simp at q
theorem of_hidT {h : Heap} {H : Hp} {b : Addr} {o : Obj} (e : (hidT h H).get? b = some o) : h.get? b = some o /\ H b = none := by
  have e' : h.get? b = some o := PySem.W.of_hideAll (trk h H) e
  refine ⟨e', ?_⟩
  cases q : H b with
  | none => rfl
  | some x =>
    have hm : b ∈ trk h H := List.mem_filter.mpr ⟨List.mem_range.mpr (Heap.lt_size e'), by simp [q]⟩
    have z : (hidT h H).get? b = none := PySem.W.hideAll_none (trk h H) hm
    rw [z] at e; cases e
end L2
namespace L2
open PySem PySem.Spec PyProof.Rows
structure Mod (K : PySem.W.Frag) (mg : Str -> Option Value) (base : Heap) : Prop where
  kin : K.In base
  glob : base.Ns mainGlobals mg
  blt : ∃ mb, base.Ns builtinsNs mb /\ ∀ x : Str, x ≠ "__name__" -> mb x = bootBuiltins x
  nolimit : base.NoLimit
/-- the context: a def's body (or a comprehension's block) running. base: fixed through the whole law; s₀, H₀: the entry; outer: the frames whose slots others may change (a def's callers); stack: all frames that run;
   ex: iterators that were made ahead of the entry and are walked here (a comprehension's); fn: the names whose cells were made at the entry (a def: all; a comprehension's block: its own); calm: not within an except suite; pn: pins that every state bears; xe: what is wanted of an exception that leaves the code -/
structure Cx where
  prog : Program
  w : World
  K : PySem.W.Frag
  mg : Str -> Option Value
  base : Heap
  A : Around
  N : List Str
  s₀ : Shared
  H₀ : Hp
  env : Env
  outer : List Env
  stack : List Env
  ex : List Addr
  fn : Str -> Bool
  calm : Bool
  pn : List (Addr × Obj)
  xe : Value -> Shared -> Prop
def frs (l : List Env) : List Addr := l.filterMap (·.frame)
abbrev Cx.fs (X : Cx) : List Addr := frs X.outer
def Vis (sc : Scope) (x : Str) : Prop := sc.names.lookup x = some .local \/ sc.names.lookup x = some .cell \/ sc.names.lookup x = some .free
def Loc (sc : Scope) (x : Str) : Prop := sc.names.lookup x = some .local \/ sc.names.lookup x = some .cell
def Look (env : Env) (h : Heap) (m : Str -> Option Value) (x : Str) (u : Value) : Prop :=
  (env.kindOf x = some .local /\ m x = some u) \/ ((env.kindOf x = some .cell \/ env.kindOf x = some .free) /\ ∃ c, env.cells.lookup x = some c /\ h.IsCell c (some u))
structure Cx.Ok (X : Cx) : Prop where
  mod : Mod X.K X.mg X.base
  kind : X.env.scope.kind = .function
  glob : X.env.globals = mainGlobals
  blt : X.env.builtins = builtinsNs
  above : X.s₀.heap.objs.size <= X.env.locals
  inj : ∀ x y c, X.env.cells.lookup x = some c -> X.env.cells.lookup y = some c -> x = y
  has : ∀ x, (X.env.kindOf x = some .cell \/ X.env.kindOf x = some .free) -> ∃ c, X.env.cells.lookup x = some c
  cab : ∀ x c, X.fn x = true -> X.env.cells.lookup x = some c -> X.s₀.heap.objs.size <= c
  hd : X.calm = true -> X.A.handled = none
  frames : X.A.frames = some X.stack
  stk : X.stack = X.outer \/ (X.stack = X.env :: X.outer /\ X.env.frame = some X.env.locals)
  exf : ∀ b ∈ X.ex, b ≠ X.env.locals /\ ∀ x c, X.env.cells.lookup x = some c -> c ≠ b
  bs : ∀ b o, X.base.get? b = some o -> X.s₀.heap.get? b = some o /\ X.H₀ b = none
  bsz : X.base.objs.size <= X.s₀.heap.objs.size
  noex : ∀ b o, X.base.get? b = some o -> b ∉ X.ex
  exfs : ∀ b ∈ X.ex, b ∉ X.fs
  funs : X.s₀.heap.FunFrames X.base X.outer
  frf : ∀ b ∈ X.fs, X.H₀ b = none
structure Inv (X : Cx) (pins : List (Addr × Obj)) (σ : List (Option V)) (H : Hp) (s : Shared) : Prop where
  ok : X.Ok
  os : s.os = X.s₀.os
  bare : AllBare s.gens
  base : Un X.fs X.ex X.H₀ H X.s₀.heap s.heap
  loc : ∃ m, s.heap.Ns X.env.locals m /\ ∀ (i : Nat) (x : Str) (v : V), X.N[i]? = some x -> σ[i]? = some (some v) -> Vis X.env.scope x -> ∃ u, RelV v u /\ Look X.env s.heap m x u
  cell : ∀ x c, X.env.cells.lookup x = some c -> ∃ v, s.heap.IsCell c v
  free : H X.env.locals = none
  freeC : ∀ x c, X.env.cells.lookup x = some c -> H c = none
  pin : ∀ p ∈ X.pn ++ pins, s.heap.get? p.1 = some p.2 /\ H p.1 = none /\ p.1 ≠ X.env.locals /\ p.1 ∉ X.fs /\ ∀ v, p.2.data ≠ .cell v
  hok : HOk X.prog X.w H s.heap
  len : σ.length = X.N.length
section
variable {X : Cx} {pins : List (Addr × Obj)} {σ : List (Option V)} {H H' : Hp} {s : Shared} {h' : Heap}
theorem Cx.Ok.nofr (ok : X.Ok) {b : Addr} {o : Obj} (e : X.base.get? b = some o) : b ∉ X.fs := fun hb => by
  have := (ok.funs.mem hb).1
  rw [e] at this; cases this
theorem Inv.bs (I : Inv X pins σ H s) : ∀ b o, X.base.get? b = some o -> s.heap.get? b = some o /\ H b = none := fun b o e =>
  ⟨I.base.keep b o (I.ok.bs b o e).1 (I.ok.bs b o e).2 (I.ok.nofr e) (I.ok.noex b o e), I.base.free b o (I.ok.bs b o e).1 (I.ok.bs b o e).2 (I.ok.noex b o e)⟩
theorem Inv.bk (I : Inv X pins σ H s) : ∀ b o, X.base.get? b = some o -> s.heap.get? b = some o := fun b o e => (I.bs b o e).1
theorem Inv.mod (I : Inv X pins σ H s) : Mod X.K X.mg X.base := I.ok.mod
theorem Inv.kIn (I : Inv X pins σ H s) : X.K.In s.heap := I.ok.mod.kin.keeps I.bk
theorem Inv.lt (I : Inv X pins σ H s) : X.env.locals < s.heap.objs.size := let ⟨_, hn, _⟩ := I.loc; hn.lt
theorem Inv.sz (I : Inv X pins σ H s) : X.s₀.heap.objs.size <= s.heap.objs.size := Nat.le_trans I.ok.above (Nat.le_of_lt I.lt)
theorem Inv.nofs (I : Inv X pins σ H s) {a : Addr} (h : s.heap.objs.size <= a) : a ∉ X.fs := fun hb => by
  obtain ⟨_, o, ho, _⟩ := I.ok.funs.mem hb
  exact absurd (Nat.lt_of_lt_of_le (Heap.lt_size ho) (Nat.le_trans I.sz h)) (Nat.lt_irrefl _)
theorem Inv.cne (I : Inv X pins σ H s) : ∀ x c, X.env.cells.lookup x = some c -> c ≠ X.env.locals := fun x c e z => by
  obtain ⟨v, o, ho, hd⟩ := I.cell x c e
  obtain ⟨m, ⟨o', es, ep, ho', hd', _⟩, _⟩ := I.loc
  rw [z, ho'] at ho; cases ho; rw [hd'] at hd; cases hd
theorem Inv.funs (I : Inv X pins σ H s) : s.heap.FunFrames X.base X.outer := by
  have all : ∀ (l : List Env), (∀ b ∈ frs l, b ∈ X.fs) -> X.s₀.heap.FunFrames X.base l -> s.heap.FunFrames X.base l := by
    intro l
    induction l with
    | nil => intro _ _; trivial
    | cons env r ih =>
      intro hs hl
      obtain ⟨hk, ⟨L, o, hf, hn, ho, hd⟩, hr⟩ := hl
      have hL : L ∈ X.fs := hs L (by unfold frs; rw [List.filterMap_cons, hf]; exact List.mem_cons_self)
      obtain ⟨sl, e⟩ := I.base.slot L o ho (I.ok.frf L hL) hL fun z => I.ok.exfs L z hL
      exact ⟨hk, ⟨L, _, hf, hn, e, hd⟩, ih (fun b hb => hs b (by unfold frs; rw [List.filterMap_cons, hf]; exact List.mem_cons_of_mem _ hb)) hr⟩
  exact all X.outer (fun _ hb => hb) I.ok.funs
theorem Inv.stack (I : Inv X pins σ H s) : s.heap.FunFrames X.base X.stack := by
  rcases I.ok.stk with e | ⟨e, hf⟩
  · rw [e]; exact I.funs
  · rw [e]
    obtain ⟨m, hn, _⟩ := I.loc
    refine .cons (by rw [I.ok.kind]; decide) hf hn ?_ I.funs
    exact Heap.get?_none_of_le (Nat.le_trans I.ok.bsz I.ok.above)
theorem Inv.stkSub (I : Inv X pins σ H s) : ∀ b ∈ frs X.stack, b ∈ X.env.locals :: X.fs := fun b hb => by
  rcases I.ok.stk with e | ⟨e, hf⟩
  · rw [e] at hb; exact List.mem_cons_of_mem _ hb
  · rw [e] at hb
    unfold frs at hb
    rw [List.filterMap_cons, hf] at hb
    exact hb
theorem Inv.stkFree (I : Inv X pins σ H s) : ∀ b ∈ frs X.stack, H b = none := fun b hb => by
  rcases List.mem_cons.mp (I.stkSub b hb) with e | hb
  · rw [e]; exact I.free
  · obtain ⟨_, o, ho, _⟩ := I.ok.funs.mem hb
    exact I.base.free b o ho (I.ok.frf b hb) fun z => I.ok.exfs b z hb
theorem Inv.step {g' : Array GenState} {t' : Nat} {d' : Drawn} {ch : List Addr} (I : Inv X pins σ H s)
    (hch : ∀ b ∈ ch, (b ∈ X.ex \/ X.s₀.heap.objs.size <= b) /\ b ≠ X.env.locals /\ (∀ x c, X.env.cells.lookup x = some c -> c ≠ b) /\ ∀ p ∈ X.pn ++ pins, p.1 ≠ b)
    (keep : ∀ b o, b ≠ X.env.locals -> b ∉ X.fs -> b ∉ ch -> s.heap.get? b = some o -> H b = none -> h'.get? b = some o)
    (slot : ∀ b o, b ≠ X.env.locals -> b ∈ X.fs -> b ∉ ch -> s.heap.get? b = some o -> H b = none -> ∃ sl, h'.get? b = some { o with slots := sl }) (free : ∀ b o, b ∉ ch -> s.heap.get? b = some o -> H b = none -> H' b = none)
    (there : ∀ b o, b ∉ ch -> s.heap.get? b = some o -> ∃ o', h'.get? b = some o')
    (tups : ∀ b xs, H b = some (.tup xs) -> H' b = some (.tup xs)) (frzs : ∀ b o u, H b = some (.frz o u) -> H' b = some (.frz o u)) (tbls : ∀ b ps, H b = some (.tbl ps) -> ∃ more, H' b = some (.tbl (ps ++ more)))
    (ns : ∀ m, s.heap.Ns X.env.locals m -> h'.Ns X.env.locals m) (hok : HOk X.prog X.w H' h') (hg : AllBare g') :
    Inv X pins σ H' { s with heap := h', gens := g', drawn := d', toks := t' } := by
  have neL : ∀ b o, X.s₀.heap.get? b = some o -> b ≠ X.env.locals := fun b o e => Nat.ne_of_lt (Nat.lt_of_lt_of_le (Heap.lt_size e) I.ok.above)
  have neC : ∀ b o, X.s₀.heap.get? b = some o -> b ∉ X.ex -> b ∉ ch := fun b o e hx hb => by
    rcases (hch b hb).1 with z | z
    · exact hx z
    · exact absurd (Nat.lt_of_lt_of_le (Heap.lt_size e) z) (Nat.lt_irrefl _)
  have cellK : ∀ x c, X.env.cells.lookup x = some c -> ∀ v, s.heap.IsCell c v -> h'.IsCell c v := fun x c e v ⟨o, ho, hd⟩ => by
    have nch : c ∉ ch := fun z => (hch c z).2.2.1 x c e rfl
    by_cases hc : c ∈ X.fs
    · obtain ⟨sl, q⟩ := slot c o (I.cne x c e) hc nch ho (I.freeC x c e)
      exact ⟨_, q, hd⟩
    · exact ⟨o, keep c o (I.cne x c e) hc nch ho (I.freeC x c e), hd⟩
  refine ⟨I.ok, I.os, hg, ⟨fun b o e n hb hx => ?_, fun b o e n hb hx => ?_, fun b o e n hx => ?_, fun b o e hx => ?_, fun b xs e => tups b xs (I.base.tups b xs e), fun b o xs e => frzs b o xs (I.base.frzs b o xs e), fun b ps e => ?_⟩, ?_, fun x c e => ?_, ?_, fun x c e => ?_, fun p hp => ?_, hok, I.len⟩
  · exact keep b o (neL b o e) hb (neC b o e hx) (I.base.keep b o e n hb hx) (I.base.free b o e n hx)
  · obtain ⟨sl, e1⟩ := I.base.slot b o e n hb hx
    obtain ⟨sl', e2⟩ := slot b _ (neL b o e) hb (neC b o e hx) e1 (I.base.free b o e n hx)
    exact ⟨sl', e2⟩
  · obtain ⟨o', e1⟩ := I.base.there b o e hx
    exact free b o' (neC b o e hx) e1 (I.base.free b o e n hx)
  · obtain ⟨o', e1⟩ := I.base.there b o e hx
    exact there b o' (neC b o e hx) e1
  · obtain ⟨m1, e1⟩ := I.base.tbls b ps e
    obtain ⟨m2, e2⟩ := tbls b _ e1
    exact ⟨m1 ++ m2, by rw [e2, Array.append_assoc]⟩
  · obtain ⟨m, hn, hl⟩ := I.loc
    refine ⟨m, ns m hn, fun i x v e1 e2 e3 => ?_⟩
    obtain ⟨u, r, l⟩ := hl i x v e1 e2 e3
    refine ⟨u, r, ?_⟩
    rcases l with l | ⟨k, c, e, z⟩
    · exact .inl l
    · exact .inr ⟨k, c, e, cellK x c e _ z⟩
  · obtain ⟨v, z⟩ := I.cell x c e
    exact ⟨v, cellK x c e v z⟩
  · obtain ⟨m, ⟨o, _, _, ho, _⟩, _⟩ := I.loc
    exact free _ o (fun z => (hch _ z).2.1 rfl) ho I.free
  · obtain ⟨v, o, ho, hd⟩ := I.cell x c e
    exact free c o (fun z => (hch c z).2.2.1 x c e rfl) ho (I.freeC x c e)
  · obtain ⟨e, n, ne, nf, d⟩ := I.pin p hp
    have nch : p.1 ∉ ch := fun z => (hch p.1 z).2.2.2 p hp rfl
    exact ⟨keep p.1 p.2 ne nf nch e n, free p.1 p.2 nch e n, ne, nf, d⟩
theorem Inv.un {t' : Nat} (I : Inv X pins σ H s) (u : Un X.fs [] H H' s.heap h') (hok : HOk X.prog X.w H' h') : Inv X pins σ H' { s with heap := h', toks := t' } := by
  obtain ⟨m, ⟨o, es, ep, ho, r⟩, _⟩ := id I.loc
  obtain ⟨sl, hL⟩ := u.any ho I.free (by simp)
  exact I.step (g' := s.gens) (d' := s.drawn) (ch := []) (fun _ z => nomatch z) (fun b o _ hb _ e n => u.keep b o e n hb (by simp)) (fun b o _ hb _ e n => u.slot b o e n hb (by simp)) (fun b o _ e n => u.free b o e n (by simp)) (fun b o _ e => u.there b o e (by simp)) u.tups u.frzs u.tbls (fun m' hm => by
    obtain ⟨o', es', ep', ho', r'⟩ := hm
    rw [ho] at ho'; cases ho'
    exact ⟨_, es', ep', hL, r'⟩) hok I.bare
theorem Inv.call {g' : Array GenState} {t' : Nat} {d' : Drawn} {ch : List Addr} (I : Inv X pins σ H s) (u : Un (frs X.stack) ch H H' s.heap h') (hok : HOk X.prog X.w H' h') (hg : AllBare g')
    (hch : ∀ b ∈ ch, (b ∈ X.ex \/ X.s₀.heap.objs.size <= b) /\ b ≠ X.env.locals /\ (∀ x c, X.env.cells.lookup x = some c -> c ≠ b) /\ ∀ p ∈ X.pn ++ pins, p.1 ≠ b) :
    Inv X pins σ H' { s with heap := h', gens := g', drawn := d', toks := t' } := by
  obtain ⟨m, ⟨o, es, ep, ho, r⟩, _⟩ := id I.loc
  obtain ⟨sl, hL⟩ := u.any ho I.free fun z => (hch _ z).2.1 rfl
  exact I.step (ch := ch) hch (fun b o hL hb hc e n => u.keep b o e n (fun z => (List.mem_cons.mp (I.stkSub b z)).elim hL hb) hc) (fun b o _ _ hc e n => u.any e n hc) (fun b o hc e n => u.free b o e n hc) (fun b o hc e => u.there b o e hc) u.tups u.frzs u.tbls (fun m' hm => by
    obtain ⟨o', es', ep', ho', r'⟩ := hm
    rw [ho] at ho'; cases ho'
    exact ⟨_, es', ep', hL, r'⟩) hok hg
theorem Inv.turned {t' : Nat} {it : Addr} (I : Inv X pins σ H s) (k : ∀ b o, b ≠ it -> s.heap.get? b = some o -> h'.get? b = some o) (hn : H it = none) (hL : it ≠ X.env.locals)
    (h1 : it ∈ X.ex \/ X.s₀.heap.objs.size <= it) (h2 : ∀ x c, X.env.cells.lookup x = some c -> c ≠ it) (h3 : ∀ p ∈ X.pn ++ pins, p.1 ≠ it) : Inv X pins σ H { s with heap := h', toks := t' } := by
  have nit : ∀ b u, H b = some u -> b ≠ it := fun b u e z => by rw [z, hn] at e; cases e
  refine I.step (g' := s.gens) (d' := s.drawn) (ch := [it]) (fun b hb => ?_) (fun b o _ _ hc e _ => k b o (fun z => hc (by simp [z])) e) (fun b o _ _ hc e _ => ⟨o.slots, k b o (fun z => hc (by simp [z])) e⟩) (fun _ _ _ _ n => n)
    (fun b o hc e => ⟨o, k b o (fun z => hc (by simp [z])) e⟩) (fun _ _ e => e) (fun _ _ _ e => e) (fun b ps e => ⟨#[], by rw [e]; simp⟩) (fun m hm => ?_) (fun b u e => ?_) I.bare
  · have e : b = it := by simpa using hb
    subst e
    exact ⟨h1, hL, h2, h3⟩
  · obtain ⟨o, es, ep, ho, r⟩ := hm
    exact ⟨o, es, ep, k _ o (Ne.symm hL) ho, r⟩
  · refine (I.hok b u e).stay (fun c v hc q => k c v ?_ q) (fun _ q => q) fun _ _ q => q
    rcases hc with z | z
    · rw [z]; exact nit b u e
    · exact nit c _ z
theorem Inv.tok (I : Inv X pins σ H s) (t : Nat) : Inv X pins σ H { s with toks := t } := I.un (h' := s.heap) (t' := t) Un.refl I.hok
theorem Inv.kept {t' : Nat} (I : Inv X pins σ H s) (k : ∀ b u, s.heap.get? b = some u -> h'.get? b = some u) : Inv X pins σ H { s with heap := h', toks := t' } := I.un (Un.kept k) (I.hok.kept k)
theorem Inv.laid {a : Addr} {o : HO} {t' : Nat} (I : Inv X pins σ H s) (k : ∀ b u, s.heap.get? b = some u -> h'.get? b = some u) (hp : s.heap.objs.size <= a) (new : ObjOk X.prog X.w (upd H a o) h' a o) :
    Inv X pins σ (upd H a o) { s with heap := h', toks := t' } := I.un (Un.laid k hp (I.hok.fresh hp)) (I.hok.laid k hp new)
theorem Inv.write {x e : Addr} {o : HO} {t' : Nat} (I : Inv X pins σ H s) (mu : Mut (H x)) (he : e = x \/ H e = some (.own x)) (k : ∀ b u, b ≠ e -> s.heap.get? b = some u -> h'.get? b = some u) (heo : ∃ u, h'.get? e = some u)
    (new : ObjOk X.prog X.w (upd H x o) h' x o) : Inv X pins σ (upd H x o) { s with heap := h', toks := t' } := I.un (Un.write mu he k heo) (I.hok.write mu he k heo new)
theorem Inv.pins_of {pins' : List (Addr × Obj)} (I : Inv X pins σ H s) (h : ∀ p ∈ pins', s.heap.get? p.1 = some p.2 /\ H p.1 = none /\ p.1 ≠ X.env.locals /\ p.1 ∉ X.fs /\ ∀ v, p.2.data ≠ .cell v) : Inv X pins' σ H s :=
  ⟨I.ok, I.os, I.bare, I.base, I.loc, I.cell, I.free, I.freeC, fun p hp => (List.mem_append.mp hp).elim (fun z => I.pin p (List.mem_append_left _ z)) (h p), I.hok, I.len⟩
theorem nodup_ix {N : List Str} (hN : N.Nodup) {i j : Nat} {x : Str} (a : N[i]? = some x) (b : N[j]? = some x) : i = j := by
  obtain ⟨h1, e1⟩ := List.getElem?_eq_some_iff.mp a
  obtain ⟨h2, e2⟩ := List.getElem?_eq_some_iff.mp b
  exact (List.getElem_inj hN).mp (e1.trans e2.symm)
theorem store_ok2 {M : Model} {A : Around} {E : Value -> Shared -> Prop} {i : Nat} {x : Str} {v : V} {u : Value} {Q : Unit -> Shared -> Prop} (I : Inv X pins σ H s) (hN : X.N.Nodup) (hi : X.N[i]? = some x) (hx : Loc X.env.scope x) (r : RelV v u)
    (h : ∀ s', Inv X pins (σ.set i (some v)) H s' -> (∃ a, Heap.SameBut a s.heap s'.heap /\ (a = X.env.locals \/ X.env.cells.lookup x = some a)) -> Q () s') (hf : X.fn x = true \/ X.env.scope.names.lookup x = some .local := by first | exact .inl rfl | exact .inr rfl | assumption) : wpAny M A (storeName X.env x u) Q E s := by
  obtain ⟨m, hn, hl⟩ := id I.loc
  have hcls : (X.env.scope.kind == .class || (X.env.scope.kind == .module && X.env.locals != X.env.globals)) = false := by rw [I.ok.kind]; rfl
  have hiσ : i < σ.length := by rw [I.len]; exact (List.getElem?_eq_some_iff.mp hi).1
  have cne := I.cne
  have tracked : ∀ {a : Addr} {h' : Heap}, (∃ o, s.heap.get? a = some o /\ H a = none) -> Heap.SameBut a s.heap h' -> HOk X.prog X.w H h' := fun {a h'} ha hs b ob e => by
    obtain ⟨_, _, hfree⟩ := ha
    refine (I.hok b ob e).stay (fun c w' hc q => (hs.2 c ?_).trans q) (fun _ q => q) fun _ _ q => q
    rintro rfl
    rcases hc with rfl | hc
    · rw [hfree] at e; cases e
    · rw [hfree] at hc; cases hc
  rcases hx with hk | hk
  · refine wpAny_storeName_local hk hn (fun h' hn' hs => ?_) hcls
    obtain ⟨oL, _, _, hoL, _⟩ := id hn
    refine h _ ⟨I.ok, I.os, I.bare, ⟨fun b o e n hb hx => ?_, fun b o e n hb hx => ?_, I.base.free, fun b o e hx => ?_, I.base.tups, I.base.frzs, I.base.tbls⟩, ⟨_, hn', fun j y v' e1 e2 e3 => ?_⟩, fun y c e => ?_, I.free, I.freeC, fun p hp => ?_, tracked ⟨oL, hoL, I.free⟩ hs, by simpa using I.len⟩ ⟨_, hs, .inl rfl⟩
    · exact (hs.2 b (Nat.ne_of_lt (Nat.lt_of_lt_of_le (Heap.lt_size e) I.ok.above))).trans (I.base.keep b o e n hb hx)
    · obtain ⟨sl, e1⟩ := I.base.slot b o e n hb hx
      exact ⟨sl, (hs.2 b (Nat.ne_of_lt (Nat.lt_of_lt_of_le (Heap.lt_size e) I.ok.above))).trans e1⟩
    · obtain ⟨o', e1⟩ := I.base.there b o e hx
      exact ⟨o', (hs.2 b (Nat.ne_of_lt (Nat.lt_of_lt_of_le (Heap.lt_size e) I.ok.above))).trans e1⟩
    · by_cases hj : j = i
      · subst hj
        rw [hi] at e1; cases e1
        rw [List.getElem?_set_self hiσ] at e2
        cases e2
        exact ⟨u, r, .inl ⟨hk, by simp⟩⟩
      · rw [List.getElem?_set_ne (Ne.symm hj)] at e2
        obtain ⟨u', r', q⟩ := hl j y v' e1 e2 e3
        refine ⟨u', r', ?_⟩
        rcases q with ⟨k, e⟩ | ⟨k, c, e, z⟩
        · refine .inl ⟨k, ?_⟩
          have : y ≠ x := fun e => hj (nodup_ix hN e1 (e ▸ hi))
          simp [this, e]
        · exact .inr ⟨k, c, e, z.sameBut hs (cne y c e)⟩
    · obtain ⟨w', z⟩ := I.cell y c e
      exact ⟨w', z.sameBut hs (cne y c e)⟩
    · obtain ⟨e, n, ne, nf, d⟩ := I.pin p hp
      exact ⟨(hs.2 p.1 ne).trans e, n, ne, nf, d⟩
  · have hfn : X.fn x = true := by
      rcases hf with z | z
      · exact z
      · rw [z] at hk; cases hk
    obtain ⟨c, hc⟩ := I.ok.has x (.inl hk)
    obtain ⟨w', z⟩ := I.cell x c hc
    refine wpAny_storeName_cell I.ok.kind hk hc z (fun h' hc' hs => ?_)
    obtain ⟨oc, hoc, hocd⟩ := id z
    refine h { s with heap := h' } ⟨I.ok, I.os, I.bare, ⟨fun b o e n hb hx => ?_, fun b o e n hb hx => ?_, I.base.free, fun b o e hx => ?_, I.base.tups, I.base.frzs, I.base.tbls⟩, ⟨m, hn.sameBut hs (Ne.symm (cne x c hc)), fun j y v' e1 e2 e3 => ?_⟩, fun y c' e => ?_, I.free, I.freeC, fun p hp => ?_, tracked ⟨oc, hoc, I.freeC x c hc⟩ hs, by simpa using I.len⟩ ⟨c, hs, .inr hc⟩
    · exact (hs.2 b (Nat.ne_of_lt (Nat.lt_of_lt_of_le (Heap.lt_size e) (I.ok.cab x c hfn hc)))).trans (I.base.keep b o e n hb hx)
    · obtain ⟨sl, e1⟩ := I.base.slot b o e n hb hx
      exact ⟨sl, (hs.2 b (Nat.ne_of_lt (Nat.lt_of_lt_of_le (Heap.lt_size e) (I.ok.cab x c hfn hc)))).trans e1⟩
    · obtain ⟨o', e1⟩ := I.base.there b o e hx
      exact ⟨o', (hs.2 b (Nat.ne_of_lt (Nat.lt_of_lt_of_le (Heap.lt_size e) (I.ok.cab x c hfn hc)))).trans e1⟩
    · by_cases hj : j = i
      · subst hj
        rw [hi] at e1; cases e1
        rw [List.getElem?_set_self hiσ] at e2
        cases e2
        exact ⟨u, r, .inr ⟨.inl hk, c, hc, hc'⟩⟩
      · rw [List.getElem?_set_ne (Ne.symm hj)] at e2
        obtain ⟨u', r', q⟩ := hl j y v' e1 e2 e3
        refine ⟨u', r', ?_⟩
        rcases q with q | ⟨k, c', e, z'⟩
        · exact .inl q
        · refine .inr ⟨k, c', e, z'.sameBut hs ?_⟩
          rintro rfl
          exact hj (nodup_ix hN e1 (I.ok.inj _ _ _ e hc ▸ hi))
    · by_cases hcc : c' = c
      · subst hcc; exact ⟨_, hc'⟩
      · obtain ⟨w2, z2⟩ := I.cell y c' e
        exact ⟨w2, z2.sameBut hs hcc⟩
    · obtain ⟨e, n, ne, nf, d⟩ := I.pin p hp
      refine ⟨(hs.2 p.1 ?_).trans e, n, ne, nf, d⟩
      intro q
      rw [q, hoc] at e
      have q' : oc = p.2 := Option.some.inj e
      exact d w' (by rw [← q']; exact hocd)
theorem store_ok {M : Model} {A : Around} {E : Value -> Shared -> Prop} {i : Nat} {x : Str} {v : V} {u : Value} {Q : Unit -> Shared -> Prop} (I : Inv X pins σ H s) (hN : X.N.Nodup) (hi : X.N[i]? = some x) (hx : Loc X.env.scope x) (r : RelV v u)
    (h : ∀ s', Inv X pins (σ.set i (some v)) H s' -> Q () s') (hf : X.fn x = true \/ X.env.scope.names.lookup x = some .local := by first | exact .inl rfl | exact .inr rfl | assumption) : wpAny M A (storeName X.env x u) Q E s :=
  store_ok2 I hN hi hx r (fun s' I' _ => h s' I') hf
theorem Inv.call' {s' : Shared} {ch : List Addr} (I : Inv X pins σ H s) (ho : s'.os = s.os) (u : Un (frs X.stack) ch H H' s.heap s'.heap) (hok : HOk X.prog X.w H' s'.heap) (hg : AllBare s'.gens)
    (hch : ∀ b ∈ ch, (b ∈ X.ex \/ X.s₀.heap.objs.size <= b) /\ b ≠ X.env.locals /\ (∀ x c, X.env.cells.lookup x = some c -> c ≠ b) /\ ∀ p ∈ X.pn ++ pins, p.1 ≠ b) : Inv X pins σ H' s' := by
  obtain ⟨h', g', d', t', o'⟩ := s'
  have e : o' = s.os := ho
  subst e
  exact I.call (g' := g') (t' := t') (d' := d') u hok hg hch
end
abbrev XK := Value -> Option Addr -> Hp -> Prop
abbrev St := List (Option V)
abbrev VK := V -> Hp -> Prop
abbrev TE := St -> Hp -> VK -> Prop
abbrev TT := St -> Hp -> (Bool -> Hp -> Prop) -> Prop
abbrev TA := St -> Hp -> (List V -> Hp -> Prop) -> Prop
structure Ends where
  nx : St -> Hp -> Prop
  rt : VK
  bk : St -> Hp -> Prop := fun _ _ => False
  ct : St -> Hp -> Prop := fun _ _ => False
abbrev TS := Ends -> St -> Hp -> Prop
def EP (X : Cx) (pins : List (Addr × Obj)) (σ : St) (Q : VK) (u : Value) (s' : Shared) : Prop := ∃ v H', Inv X pins σ H' s' /\ RelV v u /\ Q v H'
def TP (X : Cx) (pins : List (Addr × Obj)) (σ : St) (Q : Bool -> Hp -> Prop) (b : Bool) (s' : Shared) : Prop := ∃ H', Inv X pins σ H' s' /\ Q b H'
def AP (X : Cx) (pins : List (Addr × Obj)) (σ : St) (Q : List V -> Hp -> Prop) (us : List Value) (s' : Shared) : Prop := ∃ vs H', Inv X pins σ H' s' /\ Vals vs us /\ Q vs H'
def SP (X : Cx) (pins : List (Addr × Obj)) (D : Ends) (f : Flow) (s' : Shared) : Prop :=
  match f with
  | .next => ∃ σ' H', Inv X pins σ' H' s' /\ D.nx σ' H'
  | .brk => ∃ σ' H', Inv X pins σ' H' s' /\ D.bk σ' H'
  | .cont => ∃ σ' H', Inv X pins σ' H' s' /\ D.ct σ' H'
  | .ret u => ∃ v σ' H', Inv X pins σ' H' s' /\ RelV v u /\ D.rt v H'
def PE (X : Cx) (e : Expr) (t : TE) : Prop :=
  ∀ (pins : List (Addr × Obj)) (s : Shared) (σ : St) (H : Hp) (Q : VK), Inv X pins σ H s -> t σ H Q -> wpAny (model X.prog X.w) X.A (eval e X.env) (EP X pins σ Q) X.xe s
def PT (X : Cx) (e : Expr) (t : TT) : Prop :=
  ∀ (pins : List (Addr × Obj)) (s : Shared) (σ : St) (H : Hp) (Q : Bool -> Hp -> Prop), Inv X pins σ H s -> t σ H Q -> wpAny (model X.prog X.w) X.A (isTrue e X.env (eval e X.env)) (TP X pins σ Q) X.xe s
def PW (X : Cx) (e : Expr) (t : TT) : Prop :=
  ∀ (whole : Sem Value) (pins : List (Addr × Obj)) (s : Shared) (σ : St) (H : Hp) (Q : Bool -> Hp -> Prop), Inv X pins σ H s -> t σ H Q -> wpAny (model X.prog X.w) X.A (isTrue e X.env whole) (TP X pins σ Q) X.xe s
theorem PW.pt {X : Cx} {e : Expr} {t : TT} (h : PW X e t) : PT X e t := h _
def PA (X : Cx) (es : List Expr) (t : TA) : Prop :=
  ∀ (pos : Pos) (pins : List (Addr × Obj)) (s : Shared) (σ : St) (H : Hp) (Q : List V -> Hp -> Prop), Inv X pins σ H s -> t σ H Q -> wpAny (model X.prog X.w) X.A (spliced (backTo pos (starEach es X.env))) (AP X pins σ Q) X.xe s
def PS (X : Cx) (st : Stmt) (t : TS) : Prop :=
  ∀ (pins : List (Addr × Obj)) (s : Shared) (σ : St) (H : Hp) (D : Ends), Inv X pins σ H s -> t D σ H -> wpAny (model X.prog X.w) X.A (exec st X.env) (SP X pins D) X.xe s
def PSs (X : Cx) (st : List Stmt) (t : TS) : Prop :=
  ∀ (pins : List (Addr × Obj)) (s : Shared) (σ : St) (H : Hp) (D : Ends), Inv X pins σ H s -> t D σ H -> wpAny (model X.prog X.w) X.A (execs st X.env) (SP X pins D) X.xe s
theorem thn {α : Type} {t : Sem α} {Q Q' : α -> Shared -> Prop} {M : Model} {A : Around} {E : Value -> Shared -> Prop} {s : Shared} (h : wpAny M A t Q E s) (hQ : ∀ a s, Q a s -> Q' a s) : wpAny M A t Q' E s := wpAny_mono h hQ fun _ _ x => x
end L2
namespace L2
open PySem PySem.Spec PyProof.Rows
section
variable {X : Cx}
def tVar (i : Nat) : TE := fun σ H Q => ∃ v, σ[i]? = some (some v) /\ Q v H
def tC (v : V) : TE := fun _ H Q => Q v H
theorem pe_var {i : Nat} {x : Str} {pos : Pos} (hN : X.N[i]? = some x) (hv : Vis X.env.scope x) (hd : (x == ("__debug__" : Str)) = false := by decide) (hcd : (x == ("__classdict__" : Str)) = false := by decide) : PE X (.Name x pos) (tVar i) := by
  intro pins s σ H Q I h
  obtain ⟨v, e, h⟩ := h
  obtain ⟨m, hn, hl⟩ := I.loc
  obtain ⟨u, r, l⟩ := hl i x v hN e hv
  have fin : EP X pins σ Q u s := ⟨v, H, I, r, h⟩
  rcases l with ⟨hk, hm⟩ | ⟨hk, c, hc, hcell⟩
  · exact wpAny_Name (wpAny_loadName_local I.ok.kind hk hn hm fin) hd
  · rcases hk with hk | hk
    · exact wpAny_Name (wpAny_loadName_cell I.ok.kind hk hc hcell fin) hd
    · exact wpAny_Name (wpAny_loadName_free I.ok.kind hk hc hcell fin hcd) hd
theorem pe_int {i j pos} : PE X (.Constant (.int i) j pos) (tC (.int i)) := fun _ _ _ H _ I h => wpAny_Constant_int ⟨.int i, H, I.tok _, ⟨_, rfl⟩, h⟩
theorem pe_bl {b j pos} : PE X (.Constant (.bool b) j pos) (tC (.bl b)) := fun _ _ _ H _ I h => Constant_bool ⟨.bl b, H, I, rfl, h⟩
theorem pe_non {j pos} : PE X (.Constant .none j pos) (tC .non) := fun _ _ _ H _ I h => Constant_none ⟨.non, H, I, rfl, h⟩
theorem pe_str {x j pos} : PE X (.Constant (.str x) j pos) (tC (.str x)) := fun _ _ _ H _ I h => Calls.Constant_str ⟨.str x, H, I.tok _, ⟨_, rfl⟩, h⟩
def Gl (X : Cx) (x : Str) : Prop := X.env.kindOf x = some .globalImplicit
theorem ld_glob {E : Value -> Shared -> Prop} {pins : List (Addr × Obj)} {s : Shared} {σ : St} {H : Hp} {x : Str} {u : Value} {pos : Pos} {Q : Value -> Shared -> Prop} (I : Inv X pins σ H s) (hg : Gl X x) (hm : X.mg x = some u) (h : Q u s)
    (hd : (x == ("__debug__" : Str)) = false := by decide) : wpAny (model X.prog X.w) X.A (eval (.Name x pos) X.env) Q E s :=
  Calls.Name_function_global I.ok.kind hg (Calls.loadGlobal_global (by rw [I.ok.glob]; exact I.mod.glob.keeps I.bk) hm h) hd
theorem Zq138 {E : Value -> Shared -> Prop} {pins : List (Addr × Obj)} {s : Shared} {σ : St} {H : Hp} {x : Str} {u : Value} {pos : Pos} {Q : Value -> Shared -> Prop} (I : Inv X pins σ H s) (hg : Gl X x) (hm : X.mg x = none) (hv : bootBuiltins x = some u) (h : Q u s)
    (hn : x ≠ "__name__" := by decide) (hd : (x == ("__debug__" : Str)) = false := by decide) : wpAny (model X.prog X.w) X.A (eval (.Name x pos) X.env) Q E s := by
  obtain ⟨mb, h1, h2⟩ := I.mod.blt
  exact Calls.Name_function_global I.ok.kind hg (Calls.loadGlobal_builtin (by rw [I.ok.glob]; exact I.mod.glob.keeps I.bk) hm (by rw [I.ok.blt]; exact h1.keeps I.bk) ((h2 x hn).trans hv) h) hd
theorem pe_glob {x : Str} {v : V} {u : Value} {pos : Pos} (hg : Gl X x) (hm : X.mg x = some u) (r : RelV v u) (hd : (x == ("__debug__" : Str)) = false := by decide) : PE X (.Name x pos) (tC v) :=
  fun _ _ _ H _ I h => ld_glob I hg hm ⟨v, H, I, r, h⟩ hd
theorem pe_bltn {x : Str} {v : V} {u : Value} {pos : Pos} (hg : Gl X x) (hm : X.mg x = none) (hv : bootBuiltins x = some u) (r : RelV v u) (hn : x ≠ "__name__" := by decide) (hd : (x == ("__debug__" : Str)) = false := by decide) : PE X (.Name x pos) (tC v) :=
  fun _ _ _ H _ I h => Zq138 I hg hm hv ⟨v, H, I, r, h⟩ hn hd
variable {a b : Expr} {ta tb : TE} {pos : Pos}
def tB (t : TE) : TT := fun σ H Q => t σ H fun x H1 => ∃ c, x = .bl c /\ Q c H1
theorem pt_val {e : Expr} {t : TE} (h : PE X e t) (he : ∀ whole, isTrue e X.env whole = (do let v ← whole; standAt e.pos; holding [v] (truthy v)) := by intro _; rfl) : PT X e (tB t) := by
  intro pins s σ H Q I hw
  refine isTrue_plain (thn (h pins s σ H _ I hw) fun v s1 ⟨x, H1, I1, r1, q1⟩ => ?_) (he _)
  obtain ⟨d, rfl, q⟩ := q1
  cases r1
  exact wpAny_truthy_bool ⟨H1, I1, q⟩
variable {tA tB' : TT} {rest : List Expr}
def tAnd (t u : TT) : TT := fun σ H Q => t σ H fun c H1 => if c = true then u σ H1 Q else Q false H1
def tOr (t u : TT) : TT := fun σ H Q => t σ H fun c H1 => if c = true then Q true H1 else u σ H1 Q
def tNot (t : TT) : TT := fun σ H Q => t σ H fun c H1 => Q (!c) H1
theorem pw_and1 (ha : PT X a tA) : PW X (.BoolOp .And [a] pos) tA := by
  intro wh pins s σ H Q I h
  refine isTrue_and (thn (ha pins s σ H Q I h) fun c s1 e => ?_)
  cases c with
  | true => exact isTrue_and_nil e
  | false => exact e
theorem pw_or1 (ha : PT X a tA) : PW X (.BoolOp .Or [a] pos) tA := by
  intro wh pins s σ H Q I h
  refine isTrue_or (thn (ha pins s σ H Q I h) fun c s1 e => ?_)
  cases c with
  | false => exact isTrue_or_nil e
  | true => exact e
theorem pw_and (ha : PT X a tA) (hb : PW X (.BoolOp .And (b :: rest) pos) tB') : PW X (.BoolOp .And (a :: b :: rest) pos) (tAnd tA tB') := by
  intro wh pins s σ H Q I h
  refine isTrue_and (thn (ha pins s σ H _ I h) fun c s1 ⟨H1, I1, q1⟩ => ?_)
  cases c with
  | true => exact hb wh pins s1 σ H1 Q I1 q1
  | false => exact ⟨H1, I1, q1⟩
theorem pw_or (ha : PT X a tA) (hb : PW X (.BoolOp .Or (b :: rest) pos) tB') : PW X (.BoolOp .Or (a :: b :: rest) pos) (tOr tA tB') := by
  intro wh pins s σ H Q I h
  refine isTrue_or (thn (ha pins s σ H _ I h) fun c s1 ⟨H1, I1, q1⟩ => ?_)
  cases c with
  | true => exact ⟨H1, I1, q1⟩
  | false => exact hb wh pins s1 σ H1 Q I1 q1
theorem pt_not (ha : PT X a tA) : PT X (.UnaryOp .Not a pos) (tNot tA) := by
  intro pins s σ H Q I h
  exact isTrue_not (ha pins s σ H (fun c H1 => Q (!c) H1) I h)
def tAndV (ta tb : TE) : TE := fun σ H Q => ta σ H fun x H1 => ∃ c, x = .bl c /\ if c = true then tb σ H1 Q else Q (.bl false) H1
def tNotV (ta : TE) : TE := fun σ H Q => ta σ H fun x H1 => ∃ c, x = .bl c /\ Q (.bl (!c)) H1
theorem pe_one {op} {t : TE} (h : PE X a t) : PE X (.BoolOp op [a] pos) t := fun pins s σ H Q I hw => BoolOp_one (h pins s σ H Q I hw)
theorem pe_and (ha : PE X a ta) (hb : PE X (.BoolOp .And (b :: rest) pos) tb) : PE X (.BoolOp .And (a :: b :: rest) pos) (tAndV ta tb) := by
  intro pins s σ H Q I h
  refine BoolOp_and (thn (ha pins s σ H _ I h) fun v s1 ⟨x, H1, I1, r1, q1⟩ => ?_)
  obtain ⟨c, rfl, q1⟩ := q1
  cases r1
  refine wpAny_truthy_bool ?_
  cases c with
  | true => exact hb pins s1 σ H1 Q I1 q1
  | false => exact ⟨.bl false, H1, I1, rfl, q1⟩
theorem pe_not (ha : PE X a ta) : PE X (.UnaryOp .Not a pos) (tNotV ta) := by
  intro pins s σ H Q I h
  refine UnaryOp_ (thn (ha pins s σ H _ I h) fun v s1 ⟨x, H1, I1, r1, q1⟩ => ?_)
  obtain ⟨c, rfl, q1⟩ := q1
  cases r1
  exact not_of (wpAny_truthy_bool ⟨.bl (!c), H1, I1, rfl, q1⟩)
def tIf (t : TT) (ta tb : TE) : TE := fun σ H Q => t σ H fun c H1 => if c = true then ta σ H1 Q else tb σ H1 Q
theorem pe_ifExp {c : Expr} (hc : PT X c tA) (ha : PE X a ta) (hb : PE X b tb) : PE X (.IfExp c a b pos) (tIf tA ta tb) := by
  intro pins s σ H Q I h
  refine wpAny_IfExp (thn (hc pins s σ H _ I h) fun d s1 ⟨H1, I1, q1⟩ => ?_)
  cases d with
  | true => exact ha pins s1 σ H1 Q I1 q1
  | false => exact hb pins s1 σ H1 Q I1 q1
end
end L2
namespace L2
open PySem PySem.Spec PyProof.Rows
def SqL (K : PySem.W.Frag) (H : Hp) (a : Addr) (xs : List V) : Prop :=
  Rd H a (.lst xs) \/
    ∃ (o : Obj) (its : Array Value) (n : Nat), K.lookup a = some o /\ o.cls = .type "list" /\ o.dict = none /\ o.data = .seq its n /\ its.size <= sizeLine /\ Vals xs its.toList
def SqT (K : PySem.W.Frag) (H : Hp) (a : Addr) (xs : List V) : Prop :=
  Rd H a (.tup xs) \/
    ∃ (o : Obj) (its : Array Value) (n : Nat), K.lookup a = some o /\ o.cls = .type "tuple" /\ o.data = .seq its n /\ its.size <= sizeLine /\ Vals xs its.toList
def absV : Value -> Option V
  | .none => some .non
  | .bool b => some (.bl b)
  | .int i _ => some (.int i)
  | .str x _ => some (.str x)
  | .bytes b _ => some (.byt b)
  | .float b _ => some (.flt b)
  | .ref a => some (.ref a)
  | .type n => some (.ty n)
  | _ => none
theorem RelV.abs {x : V} {u : Value} (r : RelV x u) : absV u = some x := by
  cases x with
  | non => cases r; rfl
  | bl _ => cases r; rfl
  | int _ => obtain ⟨t, rfl⟩ := r; rfl
  | str _ => obtain ⟨t, rfl⟩ := r; rfl
  | byt _ => obtain ⟨t, rfl⟩ := r; rfl
  | flt _ => obtain ⟨t, rfl⟩ := r; rfl
  | ref _ => cases r; rfl
  | ty _ => cases r; rfl
theorem RelV.inj {x y : V} {u : Value} (r : RelV x u) (q : RelV y u) : x = y := Option.some.inj (r.abs.symm.trans q.abs)
theorem Vals.inj : ∀ {xs ys : List V} {us : List Value}, Vals xs us -> Vals ys us -> xs = ys
  | _, _, _, .nil, .nil => rfl
  | _, _, _, .cons r t, .cons r' t' => by rw [r.inj r', Vals.inj t t']
section
variable {X : Cx} {pins : List (Addr × Obj)} {σ : St} {H : Hp} {s : Shared} {a : Addr} {xs ys : List V}
theorem SqL.of {K : PySem.W.Frag} (h : H a = some (.lst xs)) : SqL K H a xs := .inl (.inl h)
theorem SqT.of {K : PySem.W.Frag} (h : H a = some (.tup xs)) : SqT K H a xs := .inl (.inl h)
theorem Inv.list (I : Inv X pins σ H s) (h : SqL X.K H a xs) : ∃ its : List Value, Vals xs its /\ PlainL s.heap a its.toArray /\ xs.length <= sizeLine := by
  rcases h with h | ⟨o, its, n, hk, hc, hd, hs, hz, r⟩
  · obtain ⟨z, its, n, r, e⟩ := h.ok I.hok
    exact ⟨its, r, ⟨_, n, e, rfl, rfl, rfl⟩, z⟩
  · refine ⟨its.toList, r, ⟨o, n, I.kIn a o hk, hc, hd, by simpa using hs⟩, ?_⟩
    have e := r.length
    simp only [Array.length_toList] at e
    omega
theorem Inv.tuple (I : Inv X pins σ H s) (h : SqT X.K H a xs) : ∃ its : List Value, Vals xs its /\ IsTup s.heap a its.toArray /\ xs.length <= sizeLine := by
  rcases h with h | ⟨o, its, n, hk, hc, hs, hz, r⟩
  · obtain ⟨z, its, r, p⟩ := h.ok I.hok
    exact ⟨its, r, p, z⟩
  · refine ⟨its.toList, r, ⟨o, I.kIn a o hk, hc, n, by simpa using hs⟩, ?_⟩
    have e := r.length
    simp only [Array.length_toList] at e
    omega
theorem Inv.list_inj (I : Inv X pins σ H s) (h : SqL X.K H a xs) (h' : SqL X.K H a ys) : xs = ys := by
  obtain ⟨its, r, ⟨o, n, e, _, _, d⟩, _⟩ := I.list h
  obtain ⟨its', r', ⟨o', n', e', _, _, d'⟩, _⟩ := I.list h'
  rw [e] at e'; cases e'
  rw [d] at d'
  injection d' with d1 _
  have : its = its' := by simpa using congrArg Array.toList d1
  subst this
  exact r.inj r'
theorem Inv.tuple_inj (I : Inv X pins σ H s) (h : SqT X.K H a xs) (h' : SqT X.K H a ys) : xs = ys := by
  obtain ⟨its, r, ⟨o, e, _, n, d⟩, _⟩ := I.tuple h
  obtain ⟨its', r', ⟨o', e', _, n', d'⟩, _⟩ := I.tuple h'
  rw [e] at e'; cases e'
  rw [d] at d'
  injection d' with d1 _
  have : its = its' := by simpa using congrArg Array.toList d1
  subst this
  exact r.inj r'
end
abbrev Cx.wish (X : Cx) (E : Value -> Shared -> Prop) : Cx := { X with xe := E }
abbrev Cx.nox (X : Cx) : Cx := X.wish fun _ _ => False
theorem Cx.Ok.wish {X : Cx} (ok : X.Ok) (E : Value -> Shared -> Prop) : (X.wish E).Ok :=
  ⟨ok.mod, ok.kind, ok.glob, ok.blt, ok.above, ok.inj, ok.has, ok.cab, ok.hd, ok.frames, ok.stk, ok.exf, ok.bs, ok.bsz, ok.noex, ok.exfs, ok.funs, ok.frf⟩
theorem Cx.Ok.unwish {X : Cx} {E : Value -> Shared -> Prop} (ok : (X.wish E).Ok) : X.Ok :=
  ⟨ok.mod, ok.kind, ok.glob, ok.blt, ok.above, ok.inj, ok.has, ok.cab, ok.hd, ok.frames, ok.stk, ok.exf, ok.bs, ok.bsz, ok.noex, ok.exfs, ok.funs, ok.frf⟩
section
variable {X : Cx} {pins : List (Addr × Obj)} {σ : St} {H : Hp} {s : Shared} {E : Value -> Shared -> Prop}
theorem Inv.wish (I : Inv X pins σ H s) (E : Value -> Shared -> Prop) : Inv (X.wish E) pins σ H s := ⟨I.ok.wish E, I.os, I.bare, I.base, I.loc, I.cell, I.free, I.freeC, I.pin, I.hok, I.len⟩
theorem Inv.unwish (I : Inv (X.wish E) pins σ H s) : Inv X pins σ H s := ⟨I.ok.unwish, I.os, I.bare, I.base, I.loc, I.cell, I.free, I.freeC, I.pin, I.hok, I.len⟩
theorem SP.unwish {D : Ends} {f : Flow} {s' : Shared} (h : SP (X.wish E) pins D f s') : SP X pins D f s' := by
  cases f with
  | next => obtain ⟨σ', H', I, q⟩ := h; exact ⟨σ', H', I.unwish, q⟩
  | brk => obtain ⟨σ', H', I, q⟩ := h; exact ⟨σ', H', I.unwish, q⟩
  | cont => obtain ⟨σ', H', I, q⟩ := h; exact ⟨σ', H', I.unwish, q⟩
  | ret u => obtain ⟨v, σ', H', I, r, q⟩ := h; exact ⟨v, σ', H', I.unwish, r, q⟩
theorem PSs.nox {st : List Stmt} {t : TS} (h : PSs X.nox st t) : PSs X st t := fun pins s σ H D I hw =>
  wpAny_mono (h pins s σ H D (I.wish _) hw) (fun _ _ q => q.unwish) fun _ _ z => False.elim z
end
section
variable {X : Cx} {st : Stmt} {rest : List Stmt} {t u : TS} {e : Expr} {te : TE} {pos : Pos}
def Zq231 : TS := fun D σ H => D.nx σ H
def tSeq (t u : TS) : TS := fun D σ H => t { D with nx := u D } σ H
theorem pss_nil : PSs X [] Zq231 := fun _ _ σ H _ I h => wpAny_execs_nil ⟨σ, H, I, h⟩
theorem pss_cons (h1 : PS X st t) (h2 : PSs X rest u) : PSs X (st :: rest) (tSeq t u) := by
  intro pins s σ H D I h
  refine wpAny_execs_cons (thn (h1 pins s σ H { D with nx := u D } I h) fun f s1 q => ?_)
  cases f with
  | next =>
    obtain ⟨σ', H', I', q⟩ := q
    exact h2 pins s1 σ' H' D I' q
  | ret v => exact q
  | brk => exact q
  | cont => exact q
theorem pss_one (h1 : PS X st t) : PSs X [st] t := by
  intro pins s σ H D I h
  refine wpAny_execs_cons (thn (h1 pins s σ H D I h) fun f s1 q => ?_)
  cases f with
  | next => exact wpAny_execs_nil q
  | ret v => exact q
  | brk => exact q
  | cont => exact q
def tCont : TS := fun D σ H => D.ct σ H
theorem ps_continue : PS X (.Continue pos) tCont := fun _ _ σ H _ I h => wpAny_Continue ⟨σ, H, I, h⟩
theorem Inv.quiet {pins : List (Addr × Obj)} {σ : St} {H : Hp} {s : Shared} (I : Inv X pins σ H s) : interactive X.env = false := by simp [interactive, I.ok.kind]
def tDrop (te : TE) : TS := fun D σ H => te σ H fun _ H1 => D.nx σ H1
theorem ps_expr (he : PE X e te) (hs : swapsWith e none pos.line X.env = pure false := by rfl) : PS X (.Expr e pos) (tDrop te) := by
  intro pins s σ H D I h
  exact wpAny_Expr_any (thn (he pins s σ H _ I h) fun v s1 ⟨x, H1, I1, r1, q1⟩ => ⟨σ, H1, I1, q1⟩) I.quiet hs
def tRet (te : TE) : TS := fun D σ H => te σ H D.rt
theorem ps_ret (he : PE X e te) : PS X (.Return (some e) pos) (tRet te) := by
  intro pins s σ H D I h
  exact wpAny_Return_some (thn (he pins s σ H _ I h) fun v s1 ⟨x, H1, I1, r1, q1⟩ => ⟨x, σ, H1, I1, r1, q1⟩)
def tIfS (c : TT) (t u : TS) : TS := fun D σ H => c σ H fun b H1 => if b = true then t D σ H1 else u D σ H1
theorem ps_if {c : Expr} {a b : List Stmt} {tc : TT} (hc : PT X c tc) (ha : PSs X a t) (hb : PSs X b u) : PS X (.If c a b pos) (tIfS tc t u) := by
  intro pins s σ H D I h
  refine wpAny_If (thn (hc pins s σ H _ I h) fun d s1 ⟨H1, I1, q1⟩ => ?_)
  cases d with
  | true => exact ha pins s1 σ H1 D I1 q1
  | false => exact hb pins s1 σ H1 D I1 q1
end
abbrev TG := V -> St -> Hp -> (St -> Hp -> Prop) -> Prop
abbrev TGs := List V -> St -> Hp -> (St -> Hp -> Prop) -> Prop
def PG (X : Cx) (target : Expr) (t : TG) : Prop :=
  ∀ (pins : List (Addr × Obj)) (s : Shared) (σ : St) (H : Hp) (v : V) (u : Value) (Q : St -> Hp -> Prop), Inv X pins σ H s -> RelV v u -> t v σ H Q ->
    wpAny (model X.prog X.w) X.A (assign target X.env u) (fun _ s' => ∃ σ' H', Inv X pins σ' H' s' /\ Q σ' H') X.xe s
def PGs (X : Cx) (ts : List Expr) (t : TGs) : Prop :=
  ∀ (pins : List (Addr × Obj)) (s : Shared) (σ : St) (H : Hp) (vs : List V) (us : List Value) (Q : St -> Hp -> Prop), Inv X pins σ H s -> Vals vs us -> t vs σ H Q ->
    wpAny (model X.prog X.w) X.A (assignInOrder ((assignEach ts X.env).map (·.2)) us) (fun _ s' => ∃ σ' H', Inv X pins σ' H' s' /\ Q σ' H') X.xe s
abbrev TSet := V -> V -> V -> Hp -> (Hp -> Prop) -> Prop
def PSet (X : Cx) (t : TSet) : Prop :=
  ∀ (pins : List (Addr × Obj)) (s : Shared) (σ : St) (H : Hp) (o i v : V) (ov iv u : Value) (Q : Hp -> Prop), Inv X pins σ H s -> RelV o ov -> RelV i iv -> RelV v u -> t o i v H Q ->
    wpAny (model X.prog X.w) X.A (setItem ov iv u) (fun _ s' => ∃ H', Inv X pins σ H' s' /\ Q H') X.xe s
abbrev TIp := V -> V -> Hp -> VK -> Prop
def PIp (X : Cx) (op : Operator) (t : TIp) : Prop :=
  ∀ (pins : List (Addr × Obj)) (s : Shared) (σ : St) (H : Hp) (x y : V) (v u : Value) (Q : VK), Inv X pins σ H s -> RelV x v -> RelV y u -> t x y H Q ->
    wpAny (model X.prog X.w) X.A (inplaceOp op v u) (EP X pins σ Q) X.xe s
section
variable {X : Cx} {pos : Pos}
def Zq88 (i : Nat) : TG := fun v σ H Q => Q (σ.set i (some v)) H
theorem pg_name {i : Nat} {x : Str} (hN : X.N.Nodup) (hi : X.N[i]? = some x) (hx : Loc X.env.scope x) (hf : X.fn x = true \/ X.env.scope.names.lookup x = some .local := by first | exact .inl rfl | exact .inr rfl | assumption) : PG X (.Name x pos) (Zq88 i) := by
  intro pins s σ H v u Q I r h
  exact wpAny_assign_Name (store_ok I hN hi hx r (fun s' I' => ⟨_, H, I', h⟩) hf)
def gNil : TGs := fun vs σ H Q => vs = [] /\ Q σ H
def gCons (t : TG) (u : TGs) : TGs := fun vs σ H Q => ∃ v r, vs = v :: r /\ t v σ H fun σ' H' => u r σ' H' Q
theorem pgs_nil : PGs X [] gNil := by
  intro pins s σ H vs us Q I r h
  obtain ⟨e, h⟩ := h
  subst e
  cases r
  exact assignInOrder_nil ⟨σ, H, I, h⟩
theorem pgs_cons {e : Expr} {es : List Expr} {t : TG} {u : TGs} (h1 : PG X e t) (h2 : PGs X es u)
    (hs : (assignEach (e :: es) X.env).map (·.2) = assign e X.env :: (assignEach es X.env).map (·.2) := by rfl) : PGs X (e :: es) (gCons t u) := by
  intro pins s σ H vs us Q I r h
  obtain ⟨v, vr, e1, h⟩ := h
  subst e1
  cases r with
  | cons r rr =>
    rw [hs]
    refine assignInOrder_cons (thn (h1 pins s σ H _ _ _ I r h) fun _ s1 ⟨σ1, H1, I1, q1⟩ => ?_)
    exact h2 pins s1 σ1 H1 _ _ Q I1 rr q1
def gTup (K : PySem.W.Frag) (n : Nat) (t : TGs) : TG := fun v σ H Q => ∃ a xs, v = .ref a /\ SqT K H a xs /\ xs.length = n /\ t xs σ H Q
theorem pg_tup {es : List Expr} {k : Nat} {t : TGs} {n : Nat} (hc : X.calm = true) (h : PGs X es t)
    (hn : (assignEach es X.env).length = n := by rfl) (hst : (assignEach es X.env).findIdx? (·.1) = none := by rfl) : PG X (.Tuple es k pos) (gTup X.K n t) := by
  intro pins s σ H v u Q I r hw
  obtain ⟨a, xs, e1, hq, hl, hw⟩ := hw
  subst e1
  cases r
  obtain ⟨its, rv, ht, hz⟩ := I.tuple hq
  refine assign_Tuple_tuple (I.ok.hd hc) ht (by simp [hn, ← hl, rv.length]) hst fun h' hx => ?_
  have I1 : Inv X pins σ H { s with heap := h' } := I.kept (t' := s.toks) fun b o e => hx b o (Nat.ne_of_lt (Heap.lt_size e)) e
  exact h pins _ σ H xs _ Q I1 (by simpa using rv) hw
def gSub (to ti : TE) (t : TSet) : TG := fun v σ H Q => to σ H fun o H1 => ti σ H1 fun i H2 => t o i v H2 fun H3 => Q σ H3
theorem pg_sub {o i : Expr} {to ti : TE} {t : TSet} (ho : PE X o to) (hi : PE X i ti) (hs : PSet X t)
    (ha : ∀ v, assign (.Subscript o i pos) X.env v = (do
      let ov ← holding [v] (eval o X.env)
      let iv ← holding [v, ov] (eval i X.env)
      standAt pos
      holding [v, ov, iv] (setItem ov iv v)
      release [v, ov, iv] []) := by intro _; rfl) : PG X (.Subscript o i pos) (gSub to ti t) := by
  intro pins s σ H v u Q I r h
  rw [ha]
  refine wpAny_bind (wpAny_holding (thn (ho pins s σ H _ I h) fun ov s1 ⟨x, H1, I1, r1, q1⟩ => ?_))
  refine wpAny_bind (wpAny_holding (thn (hi pins s1 σ H1 _ I1 q1) fun iv s2 ⟨y, H2, I2, r2, q2⟩ => ?_))
  refine wpAny_bind (wpAny_standAt (wpAny_bind (wpAny_holding (thn (hs pins s2 σ H2 x y v ov iv u _ I2 r1 r2 r q2) fun _ s3 ⟨H3, I3, q3⟩ => ?_))))
  exact wpAny_release ⟨σ, H3, I3, q3⟩
def tAsg (te : TE) (g : TG) : TS := fun D σ H => te σ H fun x H1 => g x σ H1 D.nx
theorem ps_asg {tg e : Expr} {te : TE} {g : TG} (he : PE X e te) (hg : PG X tg g) (hs : swapsWithSole [tg] e pos.line X.env = pure false := by rfl) (hw : swappedStores [tg] e X.env = pure none := by rfl)
    (h1 : (assignEach [tg] X.env).map (·.2) = [assign tg X.env] := by rfl) : PS X (.Assign [tg] e pos) (tAsg te g) := by
  intro pins s σ H D I h
  refine wpAny_Assign_stores (thn (he pins s σ H _ I h) fun v s1 ⟨x, H1, I1, r1, q1⟩ => ?_) hs hw
  rw [h1]
  exact thn (hg pins s1 σ H1 x v _ I1 r1 q1) fun _ s2 q => q
theorem ps_set {i : Nat} {x : Str} {e : Expr} {te : TE} {pos' : Pos} (hN : X.N.Nodup) (hi : X.N[i]? = some x) (hx : Loc X.env.scope x) (he : PE X e te) (hs : swapsWith e (some (.Name x pos')) pos.line X.env = pure false := by rfl) (hf : X.fn x = true \/ X.env.scope.names.lookup x = some .local := by first | exact .inl rfl | exact .inr rfl | assumption) :
    PS X (.Assign [.Name x pos'] e pos) (tAsg te (Zq88 i)) := by
  intro pins s σ H D I h
  refine wpAny_Assign_Name (thn (he pins s σ H _ I h) fun v s1 ⟨y, H1, I1, r1, q1⟩ => ?_) hs
  exact store_ok I1 hN hi hx r1 (fun s2 I2 => ⟨_, H1, I2, q1⟩) hf
def tAug (i : Nat) (te : TE) (ti : TIp) : TS := fun D σ H => ∃ x, σ[i]? = some (some x) /\ te σ H fun y H1 => ti x y H1 fun z H2 => D.nx (σ.set i (some z)) H2
theorem ps_aug {i : Nat} {x : Str} {e : Expr} {te : TE} {op : Operator} {ti : TIp} {pos' : Pos} (hN : X.N.Nodup) (hi : X.N[i]? = some x) (hx : Loc X.env.scope x) (he : PE X e te) (ho : PIp X op ti) (hf : X.fn x = true \/ X.env.scope.names.lookup x = some .local := by first | exact .inl rfl | exact .inr rfl | assumption) :
    PS X (.AugAssign (.Name x pos') op e pos) (tAug i te ti) := by
  intro pins s σ H D I h
  obtain ⟨v, e1, h⟩ := h
  obtain ⟨m, hn, hl⟩ := I.loc
  have vis : Vis X.env.scope x := by rcases hx with k | k; exact .inl k; exact .inr (.inl k)
  obtain ⟨u, r, l⟩ := hl i x v hi e1 vis
  refine wpAny_AugAssign_Name ?_
  have go : wpAny (model X.prog X.w) X.A (eval e X.env) (fun w s₂ => wpAny (model X.prog X.w) X.A (inplaceOp op u w) (fun r s₃ => wpAny (model X.prog X.w) X.A (storeName X.env x r) (fun _ => SP X pins D .next) X.xe s₃) X.xe s₂) X.xe s := by
    refine thn (he pins s σ H _ I h) fun w s1 ⟨y, H1, I1, r1, q1⟩ => ?_
    refine thn (ho pins s1 σ H1 v y u w _ I1 r r1 q1) fun z s2 ⟨zv, H2, I2, r2, q2⟩ => ?_
    exact store_ok I2 hN hi hx r2 (fun s3 I3 => ⟨_, H2, I3, q2⟩) hf
  rcases l with ⟨hk, hm⟩ | ⟨hk, c, hc, hcell⟩
  · exact wpAny_loadName_local I.ok.kind hk hn hm go
  · rcases hk with hk | hk
    · exact wpAny_loadName_cell I.ok.kind hk hc hcell go
    · rcases hx with k | k
      · have : X.env.scope.names.lookup x = some .free := hk
        rw [k] at this; cases this
      · have : X.env.scope.names.lookup x = some .free := hk
        rw [k] at this; cases this
def ipI (f : Int -> Int -> Int) : TIp := fun x y H Q => ∃ i j, x = .int i /\ y = .int j /\ Q (.int (f i j)) H
theorem ip_sub : PIp X .Sub (ipI fun i j => i - j) := by
  intro pins s σ H x y v u Q I r1 r2 h
  obtain ⟨i, j, e1, e2, q⟩ := h
  subst e1; subst e2
  obtain ⟨t, rfl⟩ := r1
  obtain ⟨t', rfl⟩ := r2
  exact isub_int ⟨.int _, H, I.tok _, ⟨_, rfl⟩, q⟩
end
section
variable {X : Cx} {pos : Pos}
end
structure It where
  go : Nat -> Hp -> Prop
  yld : Nat -> Hp -> V -> Hp -> Prop
  stop : Nat -> Hp -> Prop
def FpOk (X : Cx) (pins : List (Addr × Obj)) (H : Hp) (b : Addr) : Prop :=
  H b = none /\ b ≠ X.env.locals /\ b ∉ X.fs /\ (b ∈ X.ex \/ X.s₀.heap.objs.size <= b) /\ (∀ x c, X.env.cells.lookup x = some c -> c ≠ b) /\ ∀ p ∈ X.pn ++ pins, p.1 ≠ b
theorem Inv.fpOk {X : Cx} {pins : List (Addr × Obj)} {σ : St} {H H' : Hp} {s : Shared} {b : Addr} (I : Inv X pins σ H s) (hb : s.heap.objs.size <= b) (hn : H' b = none) : FpOk X pins H' b := by
  refine ⟨hn, Nat.ne_of_gt (Nat.lt_of_lt_of_le I.lt hb), I.nofs hb, .inr (Nat.le_trans I.sz hb), fun x c e z => ?_, fun p hp z => ?_⟩
  · obtain ⟨v, q⟩ := I.cell x c e
    exact absurd (Nat.lt_of_lt_of_le q.lt (by rw [z]; exact hb)) (Nat.lt_irrefl _)
  · exact absurd (Nat.lt_of_lt_of_le (Heap.lt_size (I.pin p hp).1) (by rw [z]; exact hb)) (Nat.lt_irrefl _)
structure Turn (P : Program) (w : World) (K : PySem.W.Frag) (tg : Expr) (J : It) (fp : List Addr) (it : Addr) (tn : Nat -> Heap -> Prop) : Prop where
  mem : it ∈ fp
  obj : ∀ i h, tn i h -> ∀ b ∈ fp, ∃ o, h.get? b = some o /\ ∀ v, o.data ≠ .cell v
  keep : ∀ i h h', tn i h -> (∀ b ∈ fp, ∀ o, h.get? b = some o -> h'.get? b = some o) -> tn i h'
  item : ∀ (X : Cx), X.prog = P -> X.w = w -> X.K = K -> X.calm = true -> ∀ (i : Nat) (pins : List (Addr × Obj)) (s : Shared) (σ : St) (H : Hp) (E : Value -> Shared -> Prop), Inv X pins σ H s -> (∀ b ∈ fp, FpOk X pins H b) -> tn i s.heap -> J.go i H ->
    wpAny (model P w) X.A (pyNext (.ref it)) (fun r s1 => ∃ u, r = some u /\
      wpAny (model P w) X.A (letOwnedTupleGo tg (.ref it) u) (fun _ s2 => ∃ x H', Inv X pins σ H' s2 /\ RelV x u /\ J.yld i H x H' /\ tn (i + 1) s2.heap /\ ∀ b ∈ fp, H' b = none) E s1) E s
  done : ∀ (X : Cx), X.prog = P -> X.w = w -> X.K = K -> X.calm = true -> ∀ (i : Nat) (pins : List (Addr × Obj)) (s : Shared) (σ : St) (H : Hp) (E : Value -> Shared -> Prop), Inv X pins σ H s -> (∀ b ∈ fp, FpOk X pins H b) -> tn i s.heap -> J.stop i H ->
    wpAny (model P w) X.A (pyNext (.ref it)) (fun r s1 => r = none /\ Inv X pins σ H s1) E s
  self : ∀ (A : Around) (i : Nat) (s : Shared) (Q : Value -> Shared -> Prop) (E : Value -> Shared -> Prop), tn i s.heap -> Q (.ref it) s -> wpAny (model P w) A (pyIter (.ref it)) Q E s
abbrev TI := St -> Hp -> (It -> Hp -> Prop) -> Prop
def PIE (X : Cx) (pins : List (Addr × Obj)) (σ : St) (tg : Expr) (R : It -> Hp -> Prop) (itv : Value) (s2 : Shared) : Prop :=
  ∃ (it : Addr) (fp : List Addr) (tn : Nat -> Heap -> Prop) (J : It) (H' : Hp), itv = .ref it /\ Inv X pins σ H' s2 /\ Turn X.prog X.w X.K tg J fp it tn /\ tn 0 s2.heap /\ (∀ b ∈ fp, FpOk X pins H' b) /\ R J H'
def PI (X : Cx) (tg iter : Expr) (wi : TI) : Prop :=
  ∀ (pins : List (Addr × Obj)) (s : Shared) (σ : St) (H : Hp) (R : It -> Hp -> Prop), Inv X pins σ H s -> wi σ H R ->
    wpAny (model X.prog X.w) X.A (eval iter X.env) (fun v s1 => wpAny (model X.prog X.w) X.A (pyIter v) (PIE X pins σ tg R) X.xe s1) X.xe s
theorem go_of {M : Model} {A : Around} {E : Value -> Shared -> Prop} {s : Shared} {tg : Expr} {it : Addr} {u : Value} {o : Obj} {n : String} {vs : Array Value} {Q : Unit -> Shared -> Prop} (ho : s.heap.get? it = some o) (hc : o.cls = .type n) (hd : o.data = .fields vs)
    (hn : ["enumerate", "zip", "dict_itemiterator", "dict_reverseitemiterator", "odict_iterator", "itertools.zip_longest", "itertools.pairwise"].contains n = false) (hQ : Q () s) : wpAny M A (letOwnedTupleGo tg (.ref it) u) Q E s := by
  unfold letOwnedTupleGo
  cases tg <;> first
    | exact wpAny_pure hQ
    | (cases u <;> first
        | exact wpAny_pure hQ
        | (refine wpAny_bind (wpAny_load ho ?_)
           rw [hc, hd]
           show wpAny M A (if (["enumerate", "zip", "dict_itemiterator", "dict_reverseitemiterator", "odict_iterator", "itertools.zip_longest", "itertools.pairwise"].contains n && vs[0]? == some (rawInt _)) = true then _ else _) Q E s
           rw [if_neg (by intro h; rw [hn, Bool.false_and] at h; cases h)]
           exact wpAny_pure hQ))
def Itl (K : PySem.W.Frag) (a : Addr) : It :=
  ⟨fun i H => ∃ xs x, SqL K H a xs /\ xs[i]? = some x, fun i H x H' => H' = H /\ ∀ xs, SqL K H a xs -> xs[i]? = some x, fun i H => ∃ xs, SqL K H a xs /\ xs.length <= i⟩
def Itr (lo : Int) (n : Nat) : It := ⟨fun i _ => i < n, fun i H x H' => H' = H /\ x = .int (lo + i), fun i _ => n <= i⟩
theorem turn_list {P : Program} {w : World} {K : PySem.W.Frag} {tg : Expr} (a it : Addr) : Turn P w K tg (Itl K a) [it] it (fun i h => h.IsListIter it a i) where
  mem := by simp
  obj := fun i h st b hb => by
    have e : b = it := by simpa using hb
    subst e
    obtain ⟨o, e, c, d⟩ := st
    exact ⟨o, e, fun v z => by rw [d] at z; cases z⟩
  keep := fun i h h' st k => st.at fun o e => k it (by simp) o e
  item := by
    intro X hP hw hK hc i pins s σ H E I hf st hg
    subst hP hw hK
    obtain ⟨xs, x, hq, hx⟩ := hg
    obtain ⟨its, rv, p, hz⟩ := I.list hq
    obtain ⟨u, hu, ru⟩ := rv.get hx
    obtain ⟨f0, f1, f2, f3, f4, f5⟩ := hf it (by simp)
    refine wpAny_pyNext_list_item st p.isList (x := u) (by simpa using hu) fun h' st' sb => ?_
    have I1 : Inv X pins σ H { s with heap := h' } := I.turned (t' := s.toks) (fun b o hb e => (sb.2 b hb).trans e) f0 f1 f3 f4 f5
    obtain ⟨o, e, c, d⟩ := id st'
    exact ⟨u, rfl, go_of (s := { s with heap := h' }) e c d (by decide) ⟨x, H, I1, ru, ⟨rfl, fun ys hy => by rw [I.list_inj hy hq]; exact hx⟩, st', fun b hb => (hf b hb).1⟩⟩
  done := by
    intro X hP hw hK hc i pins s σ H E I hf st hg
    subst hP hw hK
    obtain ⟨xs, hq, hx⟩ := hg
    obtain ⟨its, rv, p, hz⟩ := I.list hq
    obtain ⟨f0, f1, f2, f3, f4, f5⟩ := hf it (by simp)
    have hl := rv.length
    exact wpAny_pyNext_list_end (I.ok.hd hc) st p.isList (by simp; omega) fun h' eb => ⟨rfl, I.turned (t' := s.toks) (fun b o hb e => eb b o hb e) f0 f1 f3 f4 f5⟩
  self := fun _ _ _ _ _ st h => wpAny_pyIter_listiter st h
theorem turn_range {P : Program} {w : World} {K : PySem.W.Frag} {tg : Expr} (it : Addr) (lo : Int) (n : Nat) : Turn P w K tg (Itr lo n) [it] it (fun i h => IsRangeIter h it (lo + (i : Nat) * 1) ((n : Int) - (i : Nat)) 1) where
  mem := by simp
  obj := fun i h st b hb => by
    have e : b = it := by simpa using hb
    subst e
    exact ⟨_, st, fun v z => by
      have z' : Data.fields _ = Data.cell v := z
      cases z'⟩
  keep := fun i h h' st k => k it (by simp) _ st
  item := by
    intro X hP hw hK hc i pins s σ H E I hf st hg
    subst hP hw hK
    obtain ⟨f0, f1, f2, f3, f4, f5⟩ := hf it (by simp)
    have W := Walks.range (prog := X.prog) (w := X.w) (I.ok.hd hc) it lo 1 n
    refine W.item i s _ _ hg st fun v h' tk hv st' kk => ?_
    obtain ⟨t, rfl⟩ := hv
    have I1 : Inv X pins σ H { s with heap := h', toks := tk } := I.turned (fun b o hb e => kk b o (by simpa using hb) e) f0 f1 f3 f4 f5
    refine ⟨_, rfl, go_of (s := { s with heap := h', toks := tk }) (n := "range_iterator") st' rfl rfl (by decide) ⟨.int (lo + i), H, I1, ⟨t, ?_⟩, ⟨rfl, rfl⟩, st', fun b hb => (hf b hb).1⟩⟩
    rw [Int.mul_one]
  done := by
    intro X hP hw hK hc i pins s σ H E I hf st hg
    subst hP hw hK
    obtain ⟨f0, f1, f2, f3, f4, f5⟩ := hf it (by simp)
    exact wpAny_pyNext_range_end (I.ok.hd hc) st (by have : n <= i := hg; omega) fun h' eb => ⟨rfl, I.turned (t' := s.toks) (fun b o hb e => eb b o hb e) f0 f1 f3 f4 f5⟩
  self := fun _ _ _ _ _ st h => wpAny_pyIter_rangeiter st h
end L2
namespace L2
open PySem PySem.Spec PyProof.Rows
section
variable {X : Cx} {tg : Expr}
def iList (K : PySem.W.Frag) (tl : TE) : TI := fun σ H R => tl σ H fun x H1 => ∃ a, x = .ref a /\ (∃ xs, SqL K H1 a xs) /\ R (Itl K a) H1
theorem pi_list {l : Expr} {tl : TE} (hl : PE X l tl) : PI X tg l (iList X.K tl) := by
  intro pins s σ H R I h
  refine thn (hl pins s σ H _ I h) fun v s1 ⟨x, H1, I1, r1, q1⟩ => ?_
  obtain ⟨a, e, ⟨xs, hq⟩, q⟩ := q1
  subst e
  cases r1
  obtain ⟨its, rv, p, hz⟩ := I1.list hq
  refine wpAny_pyIter_list p.isList ?_
  refine ⟨s1.heap.objs.size, [s1.heap.objs.size], _, _, H1, rfl, I1.kept (t' := s1.toks) fun b o e => Heap.get?_push_of_some _ e, turn_list a _, ⟨_, Heap.get?_push_size _ rfl, rfl, rfl⟩, fun b hb => ?_, q⟩
  have e : b = s1.heap.objs.size := by simpa using hb
  subst e
  exact I1.fpOk (Nat.le_refl _) (I1.hok.fresh (Nat.le_refl _))
theorem range_it {pins : List (Addr × Obj)} {σ : St} {H : Hp} {s : Shared} {R : It -> Hp -> Prop} {E : Value -> Shared -> Prop} {lo hi : Int} {t u v : Tok} {tk : Nat} (I : Inv X pins σ H s) (h1 : -(2 ^ 62) <= lo) (h2 : lo < 2 ^ 62) (h3 : -(2 ^ 62) <= hi) (h4 : hi < 2 ^ 62)
    (q : R (Itr lo (hi - lo).toNat) H) : wpAny (model X.prog X.w) X.A (pyIter (.ref s.heap.objs.size)) (PIE X pins σ tg R) E { s with heap := s.heap.push { cls := .type "range", data := .fields #[.int lo t, .int hi u, .int 1 v] }, toks := tk } := by
  refine wpAny_pyIter_range (IsRange.new ..) (small_one h1 h2 h3 h4) ?_
  have I1 : Inv X pins σ H { s with heap := s.heap.push { cls := .type "range", data := .fields #[.int lo t, .int hi u, .int 1 v] }, toks := tk } := I.kept fun b o e => Heap.get?_push_of_some _ e
  refine ⟨(s.heap.push { cls := .type "range", data := .fields #[.int lo t, .int hi u, .int 1 v] }).objs.size, [(s.heap.push { cls := .type "range", data := .fields #[.int lo t, .int hi u, .int 1 v] }).objs.size], _, _, H, rfl,
    I1.kept (t' := tk) fun b o e => Heap.get?_push_of_some _ e, turn_range _ lo (hi - lo).toNat, ?_, fun b hb => ?_, q⟩
  · have e1 : lo + ((0 : Nat) : Int) * 1 = lo := by simp
    have e2 : (((hi - lo).toNat : Nat) : Int) - ((0 : Nat) : Int) = Builtin.Range.rangeSize lo hi 1 := by rw [rangeSize_one]; split <;> omega
    show IsRangeIter _ _ (lo + ((0 : Nat) : Int) * 1) ((((hi - lo).toNat : Nat) : Int) - ((0 : Nat) : Int)) 1
    rw [e1, e2]
    exact Heap.get?_push_size _ rfl
  · have e : b = (s.heap.push { cls := .type "range", data := .fields #[.int lo t, .int hi u, .int 1 v] }).objs.size := by simpa using hb
    subst e
    exact I1.fpOk (Nat.le_refl _) (I1.hok.fresh (Nat.le_refl _))
def iRng1 (ta : TA) : TI := fun σ H R => ta σ H fun vs H1 => ∃ j : Int, vs = [.int j] /\ -(2 ^ 62) <= j /\ j < 2 ^ 62 /\ R (Itr 0 j.toNat) H1
def iRng2 (ta : TA) : TI := fun σ H R => ta σ H fun vs H1 => ∃ i j : Int, vs = [.int i, .int j] /\ (-(2 ^ 62) <= i /\ i < 2 ^ 62 /\ -(2 ^ 62) <= j /\ j < 2 ^ 62) /\ R (Itr i (j - i).toNat) H1
theorem pi_range1 {a : Expr} {ta : TA} {p pos : Pos} (hg : Gl X "range") (hm : X.mg "range" = none) (ha : PA X [a] ta) (hs : starEach [a] X.env = [(false, eval a X.env)] := by rfl) : PI X tg (.Call (.Name "range" p) [a] [] pos) (iRng1 ta) := by
  intro pins s σ H R I h
  refine Call_ (Zq138 I hg hm boot_range (PyProof.Rows.callWith_type1 (thn (ha pos pins s σ H _ I h) fun us s1 ⟨vs, H1, I1, r1, q1⟩ => ?_) hs rfl))
  obtain ⟨j, e, q1, q2, q⟩ := q1
  subst e
  cases r1 with
  | cons r rr =>
    cases rr
    obtain ⟨t, rfl⟩ := r
    exact call_range_1 (range_it I1 (by omega) (by omega) q1 q2 (by simpa using q))
theorem pi_range2 {a b : Expr} {ta : TA} {p pos : Pos} (hg : Gl X "range") (hm : X.mg "range" = none) (ha : PA X [a, b] ta) (hs : starEach [a, b] X.env = [(false, eval a X.env), (false, eval b X.env)] := by rfl) (hs2 : starEach [b] X.env = [(false, eval b X.env)] := by rfl) :
    PI X tg (.Call (.Name "range" p) [a, b] [] pos) (iRng2 ta) := by
  intro pins s σ H R I h
  refine Call_ (Zq138 I hg hm boot_range (PyProof.Rows.callWith_type1 (thn (ha pos pins s σ H _ I h) fun us s1 ⟨vs, H1, I1, r1, q1⟩ => ?_) (by rw [hs, hs2]) (by rw [hs2]; rfl)))
  obtain ⟨i, j, e, ⟨q1, q2, q3, q4⟩, q⟩ := q1
  subst e
  cases r1 with
  | cons r rr =>
    cases rr with
    | cons r' rr =>
      cases rr
      obtain ⟨t, rfl⟩ := r
      obtain ⟨t', rfl⟩ := r'
      exact call_range_2 (range_it I1 q1 q2 q3 q4 q)
def tFor (wi : TI) (g : TG) (tb : TS) : TS := fun D σ H => wi σ H fun J H1 => ∃ W : Nat -> Nat -> St -> Hp -> Prop, (∃ m, W 0 m σ H1) /\ ∀ i m σ H, W i m σ H ->
  (J.stop i H /\ D.nx σ H) \/ (J.go i H /\ ∃ N : St -> Hp -> Prop, (∀ σ' H', N σ' H' -> ∃ m', m' < m /\ W (i + 1) m' σ' H') /\ ∀ x H', J.yld i H x H' -> g x σ H' fun σ2 H2 => tb { D with nx := N, ct := N, bk := D.nx } σ2 H2)
def Zq195 (fp : List Addr) (h : Heap) : List (Addr × Obj) := fp.filterMap fun b => (h.get? b).map fun o => (b, o)
theorem mem_pinsAt {fp : List Addr} {h : Heap} {b : Addr} {o : Obj} (hb : b ∈ fp) (e : h.get? b = some o) : (b, o) ∈ Zq195 fp h := List.mem_filterMap.mpr ⟨b, hb, by rw [e]; rfl⟩
theorem of_pinsAt {fp : List Addr} {h : Heap} {p : Addr × Obj} (hp : p ∈ Zq195 fp h) : p.1 ∈ fp /\ h.get? p.1 = some p.2 := by
  obtain ⟨b, hb, e⟩ := List.mem_filterMap.mp hp
  cases q : h.get? b with
  | none => rw [q] at e; cases e
  | some o =>
    rw [q] at e
    have e' : (b, o) = p := Option.some.inj e
    subst e'
    exact ⟨hb, q⟩
theorem Inv.pinned {pins : List (Addr × Obj)} {σ : St} {H : Hp} {s : Shared} {fp : List Addr} (I : Inv X pins σ H s) (hf : ∀ b ∈ fp, FpOk X pins H b) (ho : ∀ b ∈ fp, ∃ o, s.heap.get? b = some o /\ ∀ v, o.data ≠ .cell v) : Inv X (pins ++ Zq195 fp s.heap) σ H s :=
  I.pins_of fun p hp => (List.mem_append.mp hp).elim (fun z => I.pin p (List.mem_append_right _ z)) fun z => by
    obtain ⟨hb, e⟩ := of_pinsAt z
    obtain ⟨f0, f1, f2, _⟩ := hf p.1 hb
    obtain ⟨o, e', d⟩ := ho p.1 hb
    rw [e] at e'; cases e'
    exact ⟨e, f0, f1, f2, d⟩
theorem Inv.unpinned {pins pl : List (Addr × Obj)} {σ : St} {H : Hp} {s : Shared} (I : Inv X (pins ++ pl) σ H s) : Inv X pins σ H s := I.pins_of fun p hp => I.pin p (List.mem_append_right _ (List.mem_append_left _ hp))
theorem ps_for {iter : Expr} {body : List Stmt} {wi : TI} {g : TG} {tb : TS} {pos : Pos} (hp : PassesOwn (model X.prog X.w) X.A X.env X.xe) (hc : X.calm = true) (hi : PI X tg iter wi) (hg : PG X tg g) (hb : PSs X body tb)
    (hs : ∀ x, foldedSetIterable iter X.env x = pure x := by intro _; rfl) : PS X (.For tg iter body [] pos) (tFor wi g tb) := by
  intro pins s σ H D I h
  refine wpAny_For (thn (hi pins s σ H _ I h) fun v s1 h1 => thn h1 fun itv s2 h2 => ?_) hs
  obtain ⟨it, fp, tn, J, H2, e, I2, T, st2, f2, W, ⟨m0, w0⟩, turn⟩ := h2
  subst e
  have stat : ∀ {H' : Hp}, (∀ b ∈ fp, H' b = none) -> ∀ b ∈ fp, FpOk X pins H' b := fun hn b hb => ⟨hn b hb, (f2 b hb).2⟩
  refine codeAny_forLoop_any (fun n s' => ∃ i σ' H', Inv X pins σ' H' s' /\ tn i s'.heap /\ (∀ b ∈ fp, H' b = none) /\ W i n σ' H') ?_ m0 ⟨0, σ, H2, I2, st2, fun b hb => (f2 b hb).1, w0⟩
  rintro n s3 ⟨i, σ3, H3, I3, st3, fr3, w3⟩
  rcases turn i n σ3 H3 w3 with ⟨stop, qn⟩ | ⟨go, N, hN, step⟩
  · refine wpAny_passesOwn hp (thn (T.done X rfl rfl rfl hc i pins s3 σ3 H3 X.xe I3 (stat fr3) st3 stop) fun r s4 ⟨hr, I4⟩ => ?_)
    subst hr
    exact wpAny_execs_nil ⟨σ3, H3, I4, qn⟩
  · refine wpAny_passesOwn hp (thn (T.item X rfl rfl rfl hc i pins s3 σ3 H3 X.xe I3 (stat fr3) st3 go) fun r s4 ⟨u, hr, h4⟩ => ?_)
    subst hr
    refine wpAny_passesOwn hp (thn h4 fun _ s5 ⟨x, H5, I5, r5, y5, st5, fr5⟩ => ?_)
    have I5' := I5.pinned (stat fr5) (T.obj _ _ st5)
    refine wpAny_passesOwn hp (thn (hg _ s5 σ3 H5 x u _ I5' r5 (step x H5 y5)) fun _ s6 ⟨σ6, H6, I6, q6⟩ => ?_)
    refine wpAny_passesOwn hp (thn (hb _ s6 σ6 H6 _ I6 q6) fun f s7 q7 => ?_)
    have again : ∀ {σ7 : St} {H7 : Hp}, Inv X (pins ++ Zq195 fp s5.heap) σ7 H7 s7 -> N σ7 H7 -> ∃ m, m < n /\ ∃ i σ' H', Inv X pins σ' H' s7 /\ tn i s7.heap /\ (∀ b ∈ fp, H' b = none) /\ W i m σ' H' := fun {σ7 H7} I7 n7 => by
      obtain ⟨m', hm, w7⟩ := hN σ7 H7 n7
      refine ⟨m', hm, i + 1, σ7, H7, I7.unpinned, T.keep _ _ _ st5 fun b hb o e => (I7.pin (b, o) (List.mem_append_right _ (List.mem_append_right _ (mem_pinsAt hb e)))).1, fun b hb => ?_, w7⟩
      obtain ⟨o, e, d⟩ := T.obj _ _ st5 b hb
      exact (I7.pin (b, o) (List.mem_append_right _ (List.mem_append_right _ (mem_pinsAt hb e)))).2.1
    cases f with
    | next => obtain ⟨σ7, H7, I7, n7⟩ := q7; exact again I7 n7
    | cont => obtain ⟨σ7, H7, I7, n7⟩ := q7; exact again I7 n7
    | brk => obtain ⟨σ7, H7, I7, q7⟩ := q7; exact ⟨σ7, H7, I7.unpinned, q7⟩
    | ret v => obtain ⟨x7, σ7, H7, I7, r7, q7⟩ := q7; exact ⟨x7, σ7, H7, I7.unpinned, r7, q7⟩
end
theorem for_list {K : PySem.W.Frag} {a : Addr} {xs : List V} {g : TG} {tb : TS} {D : Ends} {σ : St} {H : Hp} (Pv : Nat -> St -> Hp -> Prop) (h0 : Pv 0 σ H) (hl : ∀ i σ H, i <= xs.length -> Pv i σ H -> SqL K H a xs)
    (hs : ∀ i x σ H, xs[i]? = some x -> Pv i σ H -> g x σ H fun σ2 H2 => tb { D with nx := Pv (i + 1), ct := Pv (i + 1), bk := D.nx } σ2 H2) (hd : ∀ σ H, Pv xs.length σ H -> D.nx σ H) :
    ∃ W : Nat -> Nat -> St -> Hp -> Prop, (∃ m, W 0 m σ H) /\ ∀ i m σ H, W i m σ H ->
      ((Itl K a).stop i H /\ D.nx σ H) \/ ((Itl K a).go i H /\ ∃ N : St -> Hp -> Prop, (∀ σ' H', N σ' H' -> ∃ m', m' < m /\ W (i + 1) m' σ' H') /\ ∀ x H', (Itl K a).yld i H x H' -> g x σ H' fun σ2 H2 => tb { D with nx := N, ct := N, bk := D.nx } σ2 H2) := by
  refine ⟨fun i m σ H => m = xs.length - i /\ i <= xs.length /\ Pv i σ H, ⟨xs.length, by simp, Nat.zero_le _, h0⟩, ?_⟩
  rintro i m σ H ⟨rfl, hi, p⟩
  have q := hl i σ H hi p
  by_cases hlt : i < xs.length
  · refine .inr ⟨⟨xs, xs[i], q, by simp [hlt]⟩, Pv (i + 1), fun σ' H' p' => ⟨xs.length - (i + 1), by omega, rfl, hlt, p'⟩, fun x H' y => ?_⟩
    obtain ⟨e, y⟩ := y
    subst e
    exact hs i x σ _ (y xs q) p
  · have e : i = xs.length := by omega
    subst e
    exact .inl ⟨⟨xs, q, Nat.le_refl _⟩, hd σ H p⟩
theorem for_range {lo : Int} {n : Nat} {g : TG} {tb : TS} {D : Ends} {σ : St} {H : Hp} (Pv : Nat -> St -> Hp -> Prop) (h0 : Pv 0 σ H)
    (hs : ∀ i σ H, i < n -> Pv i σ H -> g (.int (lo + i)) σ H fun σ2 H2 => tb { D with nx := Pv (i + 1), ct := Pv (i + 1), bk := D.nx } σ2 H2) (hd : ∀ σ H, Pv n σ H -> D.nx σ H) :
    ∃ W : Nat -> Nat -> St -> Hp -> Prop, (∃ m, W 0 m σ H) /\ ∀ i m σ H, W i m σ H ->
      ((Itr lo n).stop i H /\ D.nx σ H) \/ ((Itr lo n).go i H /\ ∃ N : St -> Hp -> Prop, (∀ σ' H', N σ' H' -> ∃ m', m' < m /\ W (i + 1) m' σ' H') /\ ∀ x H', (Itr lo n).yld i H x H' -> g x σ H' fun σ2 H2 => tb { D with nx := N, ct := N, bk := D.nx } σ2 H2) := by
  refine ⟨fun i m σ H => m = n - i /\ i <= n /\ Pv i σ H, ⟨n, by simp, Nat.zero_le _, h0⟩, ?_⟩
  rintro i m σ H ⟨rfl, hi, p⟩
  by_cases hlt : i < n
  · refine .inr ⟨hlt, Pv (i + 1), fun σ' H' p' => ⟨n - (i + 1), by omega, rfl, hlt, p'⟩, fun x H' y => ?_⟩
    obtain ⟨e, y⟩ := y
    subst e y
    exact hs i σ _ hlt p
  · have e : i = n := by omega
    subst e
    exact .inl ⟨Nat.le_refl _, hd σ H p⟩
end L2
namespace L2
open PySem PySem.Spec PyProof.Rows
abbrev R2 := V -> V -> Hp -> VK -> Prop
def OpR (X : Cx) (f : Value -> Value -> Sem Value) (r : R2) : Prop :=
  ∀ (pins : List (Addr × Obj)) (s : Shared) (σ : St) (H : Hp) (x y : V) (v u : Value) (Q : VK), Inv X pins σ H s -> RelV x v -> RelV y u -> r x y H Q ->
    wpAny (model X.prog X.w) X.A (f v u) (EP X pins σ Q) X.xe s
def UnR (X : Cx) (f : Value -> Sem Value) (r : V -> Hp -> VK -> Prop) : Prop :=
  ∀ (pins : List (Addr × Obj)) (s : Shared) (σ : St) (H : Hp) (x : V) (v : Value) (Q : VK), Inv X pins σ H s -> RelV x v -> r x H Q ->
    wpAny (model X.prog X.w) X.A (f v) (EP X pins σ Q) X.xe s
def Zq146 (X : Cx) (f : Value) (r : List V -> Hp -> VK -> Prop) : Prop :=
  ∀ (pins : List (Addr × Obj)) (s : Shared) (σ : St) (H : Hp) (xs : List V) (us : List Value) (Q : VK), Inv X pins σ H s -> Vals xs us -> r xs H Q ->
    wpAny (model X.prog X.w) X.A (call f us) (EP X pins σ Q) X.xe s
def tOp (r : R2) (ta tb : TE) : TE := fun σ H Q => ta σ H fun x H1 => tb σ H1 fun y H2 => r x y H2 Q
def tUn (r : V -> Hp -> VK -> Prop) (ta : TE) : TE := fun σ H Q => ta σ H fun x H1 => r x H1 Q
def rI (C : Int -> Int -> Prop) (g : Int -> Int -> V) : R2 := fun x y H Q => ∃ i j, x = .int i /\ y = .int j /\ C i j /\ Q (g i j) H
def rI0 (g : Int -> Int -> V) : R2 := fun x y H Q => ∃ i j, x = .int i /\ y = .int j /\ Q (g i j) H
def rU (g : Int -> V) : V -> Hp -> VK -> Prop := fun x H Q => ∃ i, x = .int i /\ Q (g i) H
section
variable {X : Cx} {a b c : Expr} {ta tb tc : TE} {pos : Pos}
theorem binT (ha : PE X a ta) (hb : PE X b tb) {pins : List (Addr × Obj)} {s : Shared} {σ : St} {H : Hp} {R : V -> V -> Hp -> Prop} (I : Inv X pins σ H s)
    (h : ta σ H fun x H1 => tb σ H1 fun y H2 => R x y H2) {Q : Value -> Shared -> Prop} {f : Value -> Value -> Sem Value}
    (hf : ∀ v u s2 x y H2, Inv X pins σ H2 s2 -> RelV x v -> RelV y u -> R x y H2 -> wpAny (model X.prog X.w) X.A (f v u) Q X.xe s2) :
    wpAny (model X.prog X.w) X.A (eval a X.env) (fun v s₁ => wpAny (model X.prog X.w) X.A (eval b X.env) (fun u s₂ => wpAny (model X.prog X.w) X.A (f v u) Q X.xe s₂) X.xe s₁) X.xe s := by
  refine thn (ha pins s σ H _ I h) fun v s1 ⟨x, H1, I1, r1, q1⟩ => ?_
  refine thn (hb pins s1 σ H1 _ I1 q1) fun u s2 ⟨y, H2, I2, r2, q2⟩ => ?_
  exact hf v u s2 x y H2 I2 r1 r2 q2
theorem pe_op {op : Operator} {r : R2} (ho : OpR X (binaryOp op) r) (ha : PE X a ta) (hb : PE X b tb) : PE X (.BinOp a op b pos) (tOp r ta tb) := by
  intro pins s σ H Q I h
  exact wpAny_BinOp (binT ha hb I h fun v u s2 x y H2 I2 rx ry q => ho pins s2 σ H2 x y v u Q I2 rx ry q)
theorem pe_un {op : UnaryOp} {r : V -> Hp -> VK -> Prop} (ho : UnR X (unaryOp op) r) (ha : PE X a ta) : PE X (.UnaryOp op a pos) (tUn r ta) := by
  intro pins s σ H Q I h
  exact UnaryOp_ (thn (ha pins s σ H _ I h) fun v s1 ⟨x, H1, I1, r1, q1⟩ => ho pins s1 σ H1 x v Q I1 r1 q1)
theorem opI {f : Value -> Value -> Sem Value} {C : Int -> Int -> Prop} {g : Int -> Int -> Int}
    (rule : ∀ (i j : Int) (t u : Tok) (s : Shared) (Q : Value -> Shared -> Prop) (E : Value -> Shared -> Prop), C i j -> Q (.int (g i j) s.toks) { s with toks := s.toks + 1 } -> wpAny (model X.prog X.w) X.A (f (.int i t) (.int j u)) Q E s) :
    OpR X f (rI C fun i j => .int (g i j)) := by
  intro pins s σ H x y v u Q I rx ry h
  obtain ⟨i, j, rfl, rfl, hc, q⟩ := h
  obtain ⟨t, rfl⟩ := rx
  obtain ⟨t', rfl⟩ := ry
  exact rule i j t t' s _ _ hc ⟨.int (g i j), H, I.tok _, ⟨_, rfl⟩, q⟩
theorem opI0 {f : Value -> Value -> Sem Value} {g : Int -> Int -> Int}
    (rule : ∀ (i j : Int) (t u : Tok) (s : Shared) (Q : Value -> Shared -> Prop) (E : Value -> Shared -> Prop), Q (.int (g i j) s.toks) { s with toks := s.toks + 1 } -> wpAny (model X.prog X.w) X.A (f (.int i t) (.int j u)) Q E s) :
    OpR X f (rI0 fun i j => .int (g i j)) := by
  intro pins s σ H x y v u Q I rx ry h
  obtain ⟨i, j, rfl, rfl, q⟩ := h
  obtain ⟨t, rfl⟩ := rx
  obtain ⟨t', rfl⟩ := ry
  exact rule i j t t' s _ _ ⟨.int (g i j), H, I.tok _, ⟨_, rfl⟩, q⟩
theorem opB0 {f : Value -> Value -> Sem Value} {g : Int -> Int -> Bool}
    (rule : ∀ (i j : Int) (t u : Tok) (s : Shared) (Q : Value -> Shared -> Prop) (E : Value -> Shared -> Prop), Q (.bool (g i j)) s -> wpAny (model X.prog X.w) X.A (f (.int i t) (.int j u)) Q E s) :
    OpR X f (rI0 fun i j => .bl (g i j)) := by
  intro pins s σ H x y v u Q I rx ry h
  obtain ⟨i, j, rfl, rfl, q⟩ := h
  obtain ⟨t, rfl⟩ := rx
  obtain ⟨t', rfl⟩ := ry
  exact rule i j t t' s _ _ ⟨.bl (g i j), H, I, rfl, q⟩
def CDiv (i j : Int) : Prop := 0 < j /\ j < 1073741824
def CPow (i j : Int) : Prop := 0 <= j /\ j <= 1000000 /\ i.natAbs < 2 ^ 64
def CMul (i j : Int) : Prop := (-(2 ^ 64) < i /\ i < 2 ^ 64) \/ (-(2 ^ 64) < j /\ j < 2 ^ 64)
theorem CMul.ok {i j : Int} (h : CMul i j) : IntMulOk i j := by
  rcases h with ⟨h1, h2⟩ | ⟨h1, h2⟩
  · exact .of_left (intBits_le_64 h1 h2)
  · exact .of_right (intBits_le_64 h1 h2)
theorem op_add : OpR X (binaryOp .Add) (rI0 fun i j => .int (i + j)) := opI0 fun _ _ _ _ _ _ _ q => add_int q
theorem op_sub : OpR X (binaryOp .Sub) (rI0 fun i j => .int (i - j)) := opI0 fun _ _ _ _ _ _ _ q => sub_int q
theorem op_mul : OpR X (binaryOp .Mult) (rI CMul fun i j => .int (i * j)) := opI fun _ _ _ _ _ _ _ hc q => mul_int q hc.ok
theorem op_fdiv : OpR X (binaryOp .FloorDiv) (rI CDiv fun i j => .int (i / j)) := opI fun i j _ _ _ _ _ hc q => by
  have h1 : (0 : Int) < j := hc.1
  have h2 : j < 1073741824 := hc.2
  exact floordiv_int (by omega) (by rw [Int.fdiv_eq_ediv_of_nonneg i (by omega)]; exact q) (.inl (PyProof.noPylong_small (by omega)))
theorem op_mod : OpR X (binaryOp .Mod) (rI (fun _ j => 0 < j) fun i j => .int (i % j)) := opI fun i j _ _ _ _ _ hc q => by
  have h1 : (0 : Int) < j := hc
  exact mod_int' (by omega) (by rw [Int.fmod_eq_emod_of_nonneg i (by omega)]; exact q)
theorem op_pow : OpR X (binaryOp .Pow) (rI CPow fun i j => .int (i ^ j.toNat)) := opI fun _ _ _ _ _ _ _ hc q => pow_int_small hc.1 hc.2.1 hc.2.2 q
end
def scal : V -> V -> Bool
  | .non, .non => true | .non, .int _ => true | .int _, .non => true | .non, .bl _ => true | .bl _, .non => true | .non, .str _ => true | .str _, .non => true
  | .int _, .int _ => true | .bl _, .bl _ => true | .str _, .str _ => true | .byt _, .byt _ => true
  | .int _, .str _ => true | .str _, .int _ => true | .bl _, .str _ => true | .str _, .bl _ => true
  | _, _ => false
def rEq : R2 := fun x y H Q => scal x y = true /\ Q (.bl (decide (x = y))) H
def rNe : R2 := fun x y H Q => scal x y = true /\ Q (.bl (!decide (x = y))) H
theorem dec_int {i j : Int} : decide (V.int i = V.int j) = (i == j) := by
  rw [Bool.eq_iff_iff]
  simp
theorem dec_bl {i j : Bool} : decide (V.bl i = V.bl j) = (i == j) := by
  rw [Bool.eq_iff_iff]
  simp
theorem dec_str {i j : Str} : decide (V.str i = V.str j) = (i == j) := by
  rw [Bool.eq_iff_iff]
  simp
theorem dec_byt {i j : Array UInt8} : decide (V.byt i = V.byt j) = (i.toList == j.toList) := by
  rw [Bool.eq_iff_iff]
  cases i
  cases j
  simp
section
variable {X : Cx} {a b c : Expr} {ta tb tc : TE} {pos : Pos}
theorem Zq35 {pins : List (Addr × Obj)} {σ : St} {H : Hp} {s : Shared} {Q : VK} {k k' : Bool} (I : Inv X pins σ H s) (q : Q (.bl k) H) (e : k = k') : EP X pins σ Q (.bool k') s := by
  subst e
  exact ⟨.bl k, H, I, rfl, q⟩
theorem op_eq : OpR X (compareOp .Eq) rEq := by
  intro pins s σ H x y v u Q I rx ry h
  obtain ⟨hs, q⟩ := h
  cases x with
  | non =>
    cases rx
    cases y with
    | non => cases ry; exact PySem.EqNone.eq_none_none (Zq35 I q (by simp))
    | bl j => cases ry; exact PySem.EqNone.eq_none_bool (Zq35 I q (by simp))
    | int j => obtain ⟨t', rfl⟩ := ry; exact PySem.EqNone.eq_none_int (Zq35 I q (by simp))
    | str j => obtain ⟨t', rfl⟩ := ry; exact PySem.EqNone.eq_none_str (Zq35 I q (by simp))
    | _ => exact absurd (show false = true from hs) Bool.false_ne_true
  | bl i =>
    cases rx
    cases y with
    | non => cases ry; exact PySem.EqNone.eq_bool_none (Zq35 I q (by simp))
    | bl j => cases ry; exact eq_bool (Zq35 I q dec_bl)
    | str j => obtain ⟨t', rfl⟩ := ry; exact PySem.EqMixed.eq_bool_str (Zq35 I q (by simp))
    | _ => exact absurd (show false = true from hs) Bool.false_ne_true
  | int i =>
    obtain ⟨t, rfl⟩ := rx
    cases y with
    | non => cases ry; exact PySem.EqNone.eq_int_none (Zq35 I q (by simp))
    | int j => obtain ⟨t', rfl⟩ := ry; exact eq_int (Zq35 I q dec_int)
    | str j => obtain ⟨t', rfl⟩ := ry; exact PySem.EqMixed.eq_int_str (Zq35 I q (by simp))
    | _ => exact absurd (show false = true from hs) Bool.false_ne_true
  | str i =>
    obtain ⟨t, rfl⟩ := rx
    cases y with
    | non => cases ry; exact PySem.EqNone.eq_str_none (Zq35 I q (by simp))
    | bl j => cases ry; exact PySem.EqMixed.eq_str_bool (Zq35 I q (by simp))
    | int j => obtain ⟨t', rfl⟩ := ry; exact PySem.EqMixed.eq_str_int (Zq35 I q (by simp))
    | str j => obtain ⟨t', rfl⟩ := ry; exact eq_str (Zq35 I q dec_str)
    | _ => exact absurd (show false = true from hs) Bool.false_ne_true
  | byt i =>
    obtain ⟨t, rfl⟩ := rx
    cases y with
    | byt j => obtain ⟨t', rfl⟩ := ry; exact PySem.W.eq_bytes (Zq35 I q dec_byt)
    | _ => exact absurd (show false = true from hs) Bool.false_ne_true
  | _ => cases y <;> exact absurd (show false = true from hs) Bool.false_ne_true
theorem op_ne : OpR X (compareOp .NotEq) rNe := by
  intro pins s σ H x y v u Q I rx ry h
  obtain ⟨hs, q⟩ := h
  cases x with
  | non =>
    cases rx
    cases y with
    | non => cases ry; exact PySem.EqNone.ne_none_none (Zq35 I q (by simp))
    | bl j => cases ry; exact PySem.EqNone.ne_none_bool (Zq35 I q (by simp))
    | int j => obtain ⟨t', rfl⟩ := ry; exact PySem.EqNone.ne_none_int (Zq35 I q (by simp))
    | str j => obtain ⟨t', rfl⟩ := ry; exact PySem.EqNone.ne_none_str (Zq35 I q (by simp))
    | _ => exact absurd (show false = true from hs) Bool.false_ne_true
  | bl i =>
    cases rx
    cases y with
    | non => cases ry; exact PySem.EqNone.ne_bool_none (Zq35 I q (by simp))
    | bl j => cases ry; exact ne_bool (Zq35 I q (congrArg not dec_bl))
    | str j => obtain ⟨t', rfl⟩ := ry; exact PySem.EqMixed.ne_bool_str (Zq35 I q (by simp))
    | _ => exact absurd (show false = true from hs) Bool.false_ne_true
  | int i =>
    obtain ⟨t, rfl⟩ := rx
    cases y with
    | non => cases ry; exact PySem.EqNone.ne_int_none (Zq35 I q (by simp))
    | int j => obtain ⟨t', rfl⟩ := ry; exact ne_int (Zq35 I q (congrArg not dec_int))
    | str j => obtain ⟨t', rfl⟩ := ry; exact PySem.EqMixed.ne_int_str (Zq35 I q (by simp))
    | _ => exact absurd (show false = true from hs) Bool.false_ne_true
  | str i =>
    obtain ⟨t, rfl⟩ := rx
    cases y with
    | non => cases ry; exact PySem.EqNone.ne_str_none (Zq35 I q (by simp))
    | bl j => cases ry; exact PySem.EqMixed.ne_str_bool (Zq35 I q (by simp))
    | int j => obtain ⟨t', rfl⟩ := ry; exact PySem.EqMixed.ne_str_int (Zq35 I q (by simp))
    | str j => obtain ⟨t', rfl⟩ := ry; exact ne_str (Zq35 I q (congrArg not dec_str))
    | _ => exact absurd (show false = true from hs) Bool.false_ne_true
  | byt i =>
    obtain ⟨t, rfl⟩ := rx
    cases y with
    | byt j => obtain ⟨t', rfl⟩ := ry; exact PySem.W.ne_bytes (Zq35 I q (congrArg not dec_byt))
    | _ => exact absurd (show false = true from hs) Bool.false_ne_true
  | _ => cases y <;> exact absurd (show false = true from hs) Bool.false_ne_true
theorem op_lt : OpR X (compareOp .Lt) (rI0 fun i j => .bl (decide (i < j))) := opB0 fun _ _ _ _ _ _ _ q => lt_int q
theorem op_le : OpR X (compareOp .LtE) (rI0 fun i j => .bl (decide (i <= j))) := opB0 fun _ _ _ _ _ _ _ q => le_int q
theorem op_gt : OpR X (compareOp .Gt) (rI0 fun i j => .bl (decide (j < i))) := opB0 fun _ _ _ _ _ _ _ q => gt_int q
theorem op_ge : OpR X (compareOp .GtE) (rI0 fun i j => .bl (decide (j <= i))) := opB0 fun _ _ _ _ _ _ _ q => ge_int q
theorem op_isN : OpR X (compareOp .Is) (fun x y H Q => y = .non /\ Q (.bl (decide (x = .non))) H) := by
  intro pins s σ H x y v u Q I rx ry h
  obtain ⟨rfl, q⟩ := h
  cases ry
  refine is_none_gen (Zq35 I q ?_)
  cases x <;> first
    | (cases rx; rfl)
    | (obtain ⟨t, rfl⟩ := rx; rfl)
theorem op_notN : OpR X (compareOp .IsNot) (fun x y H Q => y = .non /\ Q (.bl (!decide (x = .non))) H) := by
  intro pins s σ H x y v u Q I rx ry h
  obtain ⟨rfl, q⟩ := h
  cases ry
  refine isnot_none_gen (Zq35 I q ?_)
  cases x <;> first
    | (cases rx; rfl)
    | (obtain ⟨t, rfl⟩ := rx; rfl)
theorem Zq19 (b : Expr) {op : CmpOp} (h : op ≠ .In := by decide) (h2 : op ≠ .NotIn := by decide) : behindInMarks op b = false := by
  have e1 : (op == CmpOp.In) = false := by cases op <;> first | rfl | exact absurd rfl h
  have e2 : (op == CmpOp.NotIn) = false := by cases op <;> first | rfl | exact absurd rfl h2
  cases b <;> simp [behindInMarks, e1, e2]
theorem pe_cmpR {op : CmpOp} {r : R2} (ho : OpR X (compareOp op) r) (ha : PE X a ta) (hb : PE X b tb) (hm : behindInMarks op b = false) : PE X (.Compare a [op] [b] pos) (tOp r ta tb) := by
  intro pins s σ H Q I h
  exact wpAny_Compare1 (binT ha hb I h fun v u s2 x y H2 I2 rx ry q => ho pins s2 σ H2 x y v u Q I2 rx ry q) hm
def tTest (t : TE) : TT := fun σ H Q => t σ H fun x H' => ∃ k, x = .bl k /\ Q k H'
theorem pt_cmpR {op : CmpOp} {r : R2} (ho : OpR X (compareOp op) r) (ha : PE X a ta) (hb : PE X b tb) (hm : behindInMarks op b = false) : PT X (.Compare a [op] [b] pos) (tTest (tOp r ta tb)) := by
  intro pins s σ H Q I h
  refine wpAny_isTrue_Compare1 (thn (ha pins s σ H _ I h) fun v s1 ⟨x, H1, I1, r1, q1⟩ => thn (hb pins s1 σ H1 _ I1 q1) fun u s2 ⟨y, H2, I2, r2, q2⟩ =>
    thn (ho pins s2 σ H2 x y v u _ I2 r1 r2 q2) fun c s3 ⟨z, H3, I3, r3, k, e, q3⟩ => ?_) hm
  subst e
  cases r3
  exact wpAny_truthy_bool ⟨H3, I3, q3⟩
def tChain (r r' : R2) (ta tb tc : TE) : TE := fun σ H Q => ta σ H fun x H1 => tb σ H1 fun y H2 => r x y H2 fun z H3 => ∃ k, z = .bl k /\
  (if k = true then tc σ H3 fun w' H4 => r' y w' H4 Q else Q (.bl false) H3)
theorem pt_chain {op op' : CmpOp} {r r' : R2} (ho : OpR X (compareOp op) r) (ho' : OpR X (compareOp op') r') (ha : PE X a ta) (hb : PE X b tb) (hc : PE X c tc)
    (hm : lastMarks [op, op'] [b, c] = false := by with_unfolding_all rfl) : PT X (.Compare a [op, op'] [b, c] pos) (tTest (tChain r r' ta tb tc)) := by
  intro pins s σ H Q I h
  refine isTrue_chain (thn (ha pins s σ H _ I h) fun v s1 ⟨x, H1, I1, r1, q1⟩ => test_link (thn (hb pins s1 σ H1 _ I1 q1) fun u s2 ⟨y, H2, I2, r2, q2⟩ =>
    thn (ho pins s2 σ H2 x y v u _ I2 r1 r2 q2) fun d s3 ⟨z, H3, I3, r3, k, e, q3⟩ => ?_)) hm
  subst e
  cases r3
  refine wpAny_truthy_bool ?_
  cases k with
  | false =>
    obtain ⟨k', e', q'⟩ := q3
    cases e'
    exact ite_ff ⟨H3, I3, q'⟩
  | true =>
    refine ite_tt (test_last (thn (hc pins s3 σ H3 _ I3 q3) fun w' s4 ⟨z', H4, I4, r4, q4⟩ => thn (ho' pins s4 σ H4 y z' u w' _ I4 r2 r4 q4) fun d' s5 ⟨z2, H5, I5, r5, k2, e2, q5⟩ => ?_))
    subst e2
    cases r5
    exact wpAny_truthy_bool ⟨H5, I5, q5⟩
theorem line63 : (sizeLine : Nat) < 2 ^ 63 := by rw [sizeLine_eq]; decide
theorem op_add_str : OpR X (binaryOp .Add) (fun x y H Q => ∃ i j, x = .str i /\ y = .str j /\ i.length + j.length <= sizeLine /\ Q (.str (i ++ j)) H) := by
  intro pins s σ H x y v u Q I rx ry h
  obtain ⟨i, j, rfl, rfl, hz, q⟩ := h
  obtain ⟨t, rfl⟩ := rx
  obtain ⟨t', rfl⟩ := ry
  exact add_str (fun t' tk => ⟨.str (i ++ j), H, I.tok _, ⟨_, rfl⟩, q⟩) hz
theorem Zq210 {x : V} {us : List Value} (r : Vals [x] us) : ∃ u, us = [u] /\ RelV x u := by
  cases r with
  | cons r1 r2 => cases r2; exact ⟨_, rfl, r1⟩
theorem vals2 {x y : V} {us : List Value} (r : Vals [x, y] us) : ∃ u w', us = [u, w'] /\ RelV x u /\ RelV y w' := by
  cases r with
  | cons r1 r2 =>
    cases r2 with
    | cons r3 r4 => cases r4; exact ⟨_, _, rfl, r1, r3⟩
theorem call_max2 (hc : X.calm = true) : Zq146 X (.builtin "max") (fun xs H Q => ∃ i j, xs = [.int i, .int j] /\ Q (.int (if j > i then j else i)) H) := by
  intro pins s σ H xs us Q I r h
  obtain ⟨i, j, rfl, q⟩ := h
  obtain ⟨u, w', rfl, ⟨t, rfl⟩, ⟨t', rfl⟩⟩ := vals2 r
  refine max_two_ints (I.ok.hd hc) fun h' tk k => ⟨_, H, I.kept k, ?_, q⟩
  by_cases hj : j > i
  · rw [if_pos hj, if_pos hj]; exact ⟨_, rfl⟩
  · rw [if_neg hj, if_neg hj]; exact ⟨_, rfl⟩
theorem call_min2 (hc : X.calm = true) : Zq146 X (.builtin "min") (fun xs H Q => ∃ i j, xs = [.int i, .int j] /\ Q (.int (if j < i then j else i)) H) := by
  intro pins s σ H xs us Q I r h
  obtain ⟨i, j, rfl, q⟩ := h
  obtain ⟨u, w', rfl, ⟨t, rfl⟩, ⟨t', rfl⟩⟩ := vals2 r
  refine min_two_ints (I.ok.hd hc) fun h' tk k => ⟨_, H, I.kept k, ?_, q⟩
  by_cases hj : j < i
  · rw [if_pos hj, if_pos hj]; exact ⟨_, rfl⟩
  · rw [if_neg hj, if_neg hj]; exact ⟨_, rfl⟩
end
end L2
namespace L2
open PySem PySem.Spec PyProof.Rows
structure ObjM (h : Heap) (x dx C : Addr) (mA : Str -> Option Value) : Prop where
  obj : h.get? x = some (PySem.W.instObj C dx)
  ns : h.Ns1 dx mA
  ne : dx ≠ x
theorem lookIn_ns {h : Heap} {dx : Addr} {mA : Str -> Option Value} (n : h.Ns1 dx mA) : ∃ od, h.get? dx = some od /\ ∀ name, PySem.W.lookIn name od = some (mA name) := by
  obtain ⟨o, es, ep, ho, hd, hk, _, hm⟩ := n
  refine ⟨o, ho, fun name => ?_⟩
  have e := hm name
  unfold nsFind findBy at e
  rw [← Array.find?_toList] at e
  unfold PySem.W.lookIn
  rw [hd]
  dsimp only
  split
  · rename_i y q
    rw [q] at e
    exact congrArg some e
  · rename_i q
    rw [q] at e
    have a : es.toList.any (·.refKey) = false := by
      rw [List.any_eq_false]
      intro y hy
      obtain ⟨z, t, hkey⟩ := hk y (Array.mem_toList_iff.mp hy)
      simp [DictEntry.refKey, hkey]
    have a' : ¬ es.toList.any (·.refKey) = true := by rw [a]; exact Bool.false_ne_true
    rw [if_neg a']
    exact congrArg some e
theorem ObjM.look {h : Heap} {x dx C : Addr} {mA : Str -> Option Value} (I : ObjM h x dx C mA) : ∃ od, PySem.W.InstAt h x (PySem.W.instObj C dx) C (some od) /\ ∀ name, PySem.W.lookIn name od = some (mA name) :=
  let ⟨od, ho, hl⟩ := lookIn_ns I.ns
  ⟨od, ⟨I.obj, rfl, rfl, ho⟩, hl⟩
section
variable {prog : Program} {w : World} {A : Around} {E : Value -> Shared -> Prop} {s : Shared} {K : PySem.W.Frag} {x dx C f : Addr} {mA : Str -> Option Value} {name : Str} {v : Value}
end
theorem RelO.some_of {v : V} {o : Option Value} (r : RelO (some v) o) : ∃ u, o = some u /\ RelV v u := by
  cases o with
  | none => exact (show False from r).elim
  | some u => exact ⟨u, rfl, r⟩
section
variable {P : Program} {w : World} {H H' : Hp} {h h' : Heap} {a C dx : Addr} {fs fs' : List (Str × V)}
theorem ins_get (hok : HOk P w H h) (e : H a = some (.ins C dx fs)) : ∃ mA, ObjM h a dx C mA /\ (∀ f, RelO (fs.lookup f) (mA f)) /\ PySem.Within mA (fs.map (·.1)) /\ fs.length <= 1000 /\ H dx = some (.own a) := by
  obtain ⟨d, z, ne, ob, mA, n, r, q⟩ := (show ObjOk P w H h a (.ins C dx fs) from hok a _ e)
  exact ⟨mA, ⟨ob, n, ne⟩, r, q, z, d⟩
end
structure Cls (K : PySem.W.Frag) (C : Addr) : Prop where
  pg : PySem.W.plainGet K C Str.empty = true
  hd : PySem.W.hasDictIn K C = true
  po : PySem.W.plainOver K C = true
  sa : PySem.W.findIn K (.ref C) "__setattr__" = some (some (.builtin "object.__setattr__"))
theorem Cls.get {K : PySem.W.Frag} {C : Addr} (c : Cls K C) (f : Str) : PySem.W.plainGet K C f = true := c.pg
structure Con (K : PySem.W.Frag) (C : Addr) (f : Str) (v : V) (u : Value) : Prop where
  at_ : PySem.W.findIn K (.ref C) f = some (some u)
  rel : RelV v u
  get : PySem.W.specialIn K u "__get__" = some none
  cp : PySem.W.copiedNames.contains f = false
structure Meth (K : PySem.W.Frag) (C : Addr) (m : Str) (f : Addr) : Prop where
  at_ : PySem.W.findIn K (.ref C) m = some (some (.ref f))
  fn : PySem.W.isFn K (.ref f) = true
  kp : PySem.W.keepIn K (.ref f) = true
section
variable {X : Cx} {pins : List (Addr × Obj)} {σ : St} {H : Hp} {s : Shared} {a C dx : Addr} {fs : List (Str × V)} {f : Str} {v : V} {A : Around} {E : Value -> Shared -> Prop}
end
section
variable {X : Cx} {o e value : Expr} {f : Str} {pos pos' tpos : Pos} {ta tv : TE}
end
section
variable {X : Cx} {pins : List (Addr × Obj)} {σ : St} {H : Hp} {s : Shared} {A : Around} {E : Value -> Shared -> Prop} {Q : Value -> Shared -> Prop} {c : Value} {b : Bool}
inductive TyOf (K : PySem.W.Frag) (H : Hp) : V -> Value -> Prop where
  | non : TyOf K H .non (.type "NoneType")
  | bl (x : Bool) : TyOf K H (.bl x) (.type "bool")
  | int (i : Int) : TyOf K H (.int i) (.type "int")
  | str (x : Str) : TyOf K H (.str x) (.type "str")
  | flt (x : UInt64) : TyOf K H (.flt x) (.type "float")
  | lst {a : Addr} {xs : List V} (e : H a = some (.lst xs)) : TyOf K H (.ref a) (.type "list")
  | frz {a : Addr} {o : Obj} {xs : List V} (e : H a = some (.frz o (.lst xs))) : TyOf K H (.ref a) (.type "list")
  | tup {a : Addr} {xs : List V} (e : H a = some (.tup xs)) : TyOf K H (.ref a) (.type "tuple")
  | dK {a : Addr} {kvs : List (Key × V)} (e : H a = some (.dK kvs)) : TyOf K H (.ref a) (.type "dict")
  | dT {a : Addr} {kvs : List (List Key × V)} (e : H a = some (.dT kvs)) : TyOf K H (.ref a) (.type "dict")
  | ins {a C dx : Addr} {fs : List (Str × V)} (e : H a = some (.ins C dx fs)) (cl : Cls K C) (ha : PySem.W.findIn K (.ref C) "__class__" = some (some (.builtin "object.__class__")))
      (hn : PySem.W.specialIn K (.builtin "object.__class__") "__get__" = some (some (.builtin "getset_descriptor.__get__"))) (htk : PySem.W.takesIn K (.builtin "object.__class__") = some true)
      (hm : PySem.W.mroIn K C (.type "object") = some true) : TyOf K H (.ref a) (.ref C)
theorem isinst_ok {x : V} {u t : Value} (I : Inv X pins σ H s) (rx : RelV x u) (ty : TyOf X.K H x t) (e : PySem.W.kitOne X.K t c = some b) (h : ∀ tk, Q (.bool b) { s with toks := tk }) :
    wpAny (model X.prog X.w) A (call (.builtin "isinstance") [u, c]) Q E s := by
  cases ty with
  | non => cases (show u = Value.none from rx); exact PySem.W.kia_one PySem.W.kitx_none I.kIn True.intro e (fun z => nomatch z) h
  | bl y => cases (show u = Value.bool y from rx); exact PySem.W.kia_one PySem.W.kitx_bool I.kIn True.intro e (fun z => nomatch z) h
  | int i => obtain ⟨t, q⟩ := (show ∃ t, u = Value.int i t from rx); cases q; exact PySem.W.kia_one PySem.W.kitx_int I.kIn True.intro e (fun z => nomatch z) h
  | str y => obtain ⟨t, q⟩ := (show ∃ t, u = Value.str y t from rx); cases q; exact PySem.W.kia_one PySem.W.kitx_str I.kIn True.intro e (fun z => nomatch z) h
  | flt y => obtain ⟨t, q⟩ := (show ∃ t, u = Value.float y t from rx); cases q; exact PySem.W.kia_one PySem.W.kitx_float I.kIn True.intro e (fun z => nomatch z) h
  | @lst a xs ea =>
    cases (show u = Value.ref a from rx)
    obtain ⟨_, _, n, _, h1⟩ := (show ObjOk X.prog X.w H s.heap a (.lst xs) from I.hok a _ ea)
    exact PySem.W.kia_one PySem.W.kitx_list I.kIn ⟨_, h1, rfl⟩ e (fun z => nomatch z) h
  | @frz a ob xs ea =>
    cases (show u = Value.ref a from rx)
    obtain ⟨_, _, _, n, _, h1⟩ := (show ObjOk X.prog X.w H s.heap a (.frz ob (.lst xs)) from I.hok a _ ea)
    exact PySem.W.kia_one PySem.W.kitx_list I.kIn ⟨_, h1, rfl⟩ e (fun z => nomatch z) h
  | @tup a xs ea =>
    cases (show u = Value.ref a from rx)
    obtain ⟨_, _, _, p⟩ := (show ObjOk X.prog X.w H s.heap a (.tup xs) from I.hok a _ ea)
    obtain ⟨o, h1, h2, _⟩ := p
    exact PySem.W.kia_one PySem.W.kitx_tuple I.kIn ⟨o, h1, h2⟩ e (fun z => nomatch z) h
  | @dK a kvs ea =>
    cases (show u = Value.ref a from rx)
    obtain ⟨_, _, vs, _, p⟩ := (show ObjOk X.prog X.w H s.heap a (.dK kvs) from I.hok a _ ea)
    obtain ⟨o, es, ep, h1, h2, _⟩ := p
    exact PySem.W.kia_one PySem.W.kitx_dict I.kIn ⟨o, h1, h2.1⟩ e (fun z => nomatch z) h
  | @dT a kvs ea =>
    cases (show u = Value.ref a from rx)
    obtain ⟨_, _, xs, _, o, es, ep, h1, h2, _⟩ := (show ObjOk X.prog X.w H s.heap a (.dT kvs) from I.hok a _ ea)
    exact PySem.W.kia_one PySem.W.kitx_dict I.kIn ⟨o, h1, h2.1⟩ e (fun z => nomatch z) h
  | @ins a C dx fs ea cl ha hn htk hm =>
    cases (show u = Value.ref a from rx)
    obtain ⟨mA, O, _⟩ := ins_get I.hok ea
    obtain ⟨od, J, _⟩ := O.look
    exact PySem.W.kia_one (PySem.W.kitx_own (cl.get _) cl.hd ha hn htk hm) I.kIn J e (fun z => nomatch z) h
end
end L2
namespace L2
open PySem PySem.Spec PyProof.Rows
structure Room (k : Nat) (A : Around) : Prop where
  hd : A.handled = none
  dp : A.depth + 3 * k + 5 < recursionLimit
  un : A.units + 16 * k + 200 < cLine
theorem Room.mono {j k : Nat} {A : Around} (r : Room k A) (h : j <= k) : Room j A := ⟨r.hd, by have := r.dp; omega, by have := r.un; omega⟩
theorem Room.deeper {k : Nat} {A : Around} (r : Room (k + 1) A) (env : Env) : Room k (A.deeper env) :=
  ⟨r.hd, by have := r.dp; show A.depth + 1 + 3 * k + 5 < _; omega, by have := r.un; show A.units + 3 + 16 * k + 200 < _; omega⟩
theorem Room.in1 {k : Nat} {A : Around} (r : Room (k + 1) A) : Room k A.in1 :=
  ⟨r.hd, by have := r.dp; show A.depth + 3 * k + 5 < _; omega, by have := r.un; show A.units + 1 + 16 * k + 200 < _; omega⟩
theorem Room.depth {k : Nat} {A : Around} (r : Room k A) : A.depth < recursionLimit := by have := r.dp; omega
theorem Room.units {k : Nat} {A : Around} (r : Room k A) : A.units + 64 < cLine := by have := r.un; omega
theorem Room.units0 {k : Nat} {A : Around} (r : Room k A) : A.units < cLine := by have := r.un; omega
def tNil : TA := fun _ H Q => Q [] H
def Zq154 (ta : TE) (tr : TA) : TA := fun σ H Q => ta σ H fun x H1 => tr σ H1 fun xs H2 => Q (x :: xs) H2
section
variable {X : Cx} {e : Expr} {es : List Expr} {te : TE} {t : TA} {pos : Pos}
theorem pa_nil : PA X [] tNil := fun _ _ _ _ H Q I h => Calls.spliced_nil ⟨[], H, I, .nil, h⟩
theorem pa_cons (ha : PE X e te) (hr : PA X es t) (hs : starEach (e :: es) X.env = (false, eval e X.env) :: starEach es X.env := by rfl) : PA X (e :: es) (Zq154 te t) := by
  intro pos pins s σ H Q I h
  rw [hs]
  show wpAny _ _ (spliced ((false, eval e X.env) :: backTo pos (starEach es X.env))) _ _ s
  refine Calls.spliced_cons (thn (ha pins s σ H _ I h) fun u s1 ⟨x, H1, I1, r1, q1⟩ => ?_)
  exact thn (hr pos pins s1 σ H1 _ I1 q1) fun us s2 ⟨xs, H2, I2, r2, q2⟩ => ⟨x :: xs, H2, I2, .cons r1 r2, q2⟩
def tTup (t : TA) : TE := fun σ H Q => t σ H fun xs H1 => xs.length <= sizeLine /\ ∀ p, H1 p = none -> Q (.ref p) (upd H1 p (.tup xs))
def tLst (t : TA) : TE := fun σ H Q => t σ H fun xs H1 => xs.length <= sizeLine /\ ∀ p, H1 p = none -> Q (.ref p) (upd H1 p (.lst xs))
theorem pe_tup {x1} (h : PA X es t) : PE X (.Tuple es x1 pos) (tTup t) := by
  intro pins s σ H Q I hq
  refine wpAny_Tuple_spliced (thn (h pos pins s σ H _ I hq) fun us s1 ⟨xs, H1, I1, r, z, q⟩ => ⟨by rw [← r.length]; exact z, ?_⟩)
  have hf : H1 s1.heap.objs.size = none := I1.hok.fresh (Nat.le_refl _)
  refine ⟨.ref s1.heap.objs.size, upd H1 s1.heap.objs.size (.tup xs), I1.laid (t' := s1.toks) (fun b u e => Heap.get?_push_of_some _ e) (Nat.le_refl _) ?_, rfl, q _ hf⟩
  exact ⟨z, us, r, ⟨_, Heap.get?_push_size _ rfl, rfl, _, rfl⟩⟩
theorem pe_lst (h : PA X es t) : PE X (.List es pos) (tLst t) := by
  intro pins s σ H Q I hq
  refine wpAny_List_spliced (thn (h pos pins s σ H _ I hq) fun us s1 ⟨xs, H1, I1, r, z, q⟩ => ⟨by rw [← r.length]; exact z, ?_⟩)
  have hf : H1 s1.heap.objs.size = none := I1.hok.fresh (Nat.le_refl _)
  refine ⟨.ref s1.heap.objs.size, upd H1 s1.heap.objs.size (.lst xs), I1.laid (t' := s1.toks) (fun b u e => Heap.get?_push_of_some _ e) (Nat.le_refl _) ?_, rfl, q _ hf⟩
  exact ⟨z, us, 0, r, Heap.get?_push_size _ rfl⟩
end
abbrev Sp := List V -> Hp -> VK -> XK -> Prop
abbrev CXT := List Env -> Hp -> Shared -> XK -> Value -> Shared -> Prop
structure Env0 (P : Program) (w : World) (K : PySem.W.Frag) (mg : Str -> Option Value) (base : Heap) (A : Around) (outer : List Env) (s : Shared) (H : Hp) : Prop where
  frames : A.frames = some outer
  mod : Mod K mg base
  bs : ∀ b o, base.get? b = some o -> s.heap.get? b = some o /\ H b = none
  bsz : base.objs.size <= s.heap.objs.size
  funs : s.heap.FunFrames base outer
  frf : ∀ b ∈ frs outer, H b = none
  hok : HOk P w H s.heap
  bare : AllBare s.gens
def CE (outer : List Env) (P : Program) (w : World) (H : Hp) (s : Shared) (Q : VK) (u : Value) (s' : Shared) : Prop :=
  ∃ v H', s'.os = s.os /\ AllBare s'.gens /\ Un (frs outer) [] H H' s.heap s'.heap /\ HOk P w H' s'.heap /\ RelV v u /\ Q v H'
def CR (CX : CXT) (outer : List Env) (P : Program) (w : World) (H : Hp) (s : Shared) (Q : VK) (E : XK) (r : Result) (s' : Shared) : Prop :=
  match r with
  | .ok (.ret u) => CE outer P w H s Q u s'
  | .ok _ => False
  | .error e => CX outer H s E e s'
structure FnOk (P : Program) (w : World) (K : PySem.W.Frag) (mg : Str -> Option Value) (base : Heap) (CX : CXT) (k : Nat) (f : Addr) (fd : FuncData) (ps : List Str) (sp : Sp) : Prop where
  len : ∀ vs H Q E, sp vs H Q E -> vs.length = ps.length
  run : ∀ (A : Around) (outer : List Env) (s : Shared) (H : Hp) (args : Args) (us : List Value) (vs : List V) (Q : VK) (E : XK), Room k A -> Env0 P w K mg base A outer s H -> BindsTo s fd args (ps.zip us) -> Vals vs us -> sp vs H Q E ->
    codeAny (model P w) A (.call (.ref f) args) (CR CX outer P w H s Q E) s
theorem FnOk.mono {P : Program} {w : World} {K : PySem.W.Frag} {mg : Str -> Option Value} {base : Heap} {CX : CXT} {j k : Nat} {f : Addr} {fd : FuncData} {ps : List Str} {sp : Sp} (F : FnOk P w K mg base CX j f fd ps sp) (h : j <= k) :
    FnOk P w K mg base CX k f fd ps sp := ⟨F.len, fun A outer s H args us vs Q E hr => F.run A outer s H args us vs Q E (hr.mono h)⟩
theorem FnOk.imp {P : Program} {w : World} {K : PySem.W.Frag} {mg : Str -> Option Value} {base : Heap} {CX : CXT} {k : Nat} {f : Addr} {fd : FuncData} {ps : List Str} {sp sp' : Sp} (F : FnOk P w K mg base CX k f fd ps sp)
    (h : ∀ vs H Q E, sp' vs H Q E -> sp vs H Q E) : FnOk P w K mg base CX k f fd ps sp' :=
  ⟨fun vs H Q E q => F.len vs H Q E (h _ _ _ _ q), fun A outer s H args us vs Q E hr he hb hv hs => F.run A outer s H args us vs Q E hr he hb hv (h _ _ _ _ hs)⟩
section
variable {X : Cx} {pins : List (Addr × Obj)} {σ : St} {H : Hp} {s s' : Shared}
theorem Inv.env0 (I : Inv X pins σ H s) : Env0 X.prog X.w X.K X.mg X.base X.A X.stack s H :=
  ⟨I.ok.frames, I.ok.mod, I.bs, Nat.le_trans I.ok.bsz I.sz, I.stack, I.stkFree, I.hok, I.bare⟩
theorem Inv.after {Q : VK} {u : Value} (I : Inv X pins σ H s) (h : CE X.stack X.prog X.w H s Q u s') : EP X pins σ Q u s' := by
  obtain ⟨v, H', os, bare, un, hok, r, q⟩ := h
  obtain ⟨hh, g, d, t, os'⟩ := s'
  obtain rfl : os' = s.os := os
  exact ⟨v, H', I.call (h' := hh) (g' := g) (d' := d) (t' := t) (ch := []) un hok bare (fun b z => absurd z (by simp)), r, q⟩
end
def tCall (sp : Sp) (dvs : List V) (E : XK) (t : TA) : TE := fun σ H Q => t σ H fun vs H1 => sp (vs ++ dvs) H1 Q E
def Binds (K : PySem.W.Frag) (fd : FuncData) (ps : List Str) (ds : List Value) : Prop :=
  ∀ (s : Shared) (us : List Value), K.In s.heap -> (us ++ ds).length = ps.length -> BindsTo s fd ⟨us, []⟩ (ps.zip (us ++ ds))
theorem Binds.all {K : PySem.W.Frag} {fd : FuncData} {ps : List Str} (h : ∀ us : List Value, us.length = ps.length -> bindArgs fd ⟨us, []⟩ = pure (ps.zip us)) : Binds K fd ps [] := fun s us _ hl => by
  rw [List.append_nil] at hl ⊢
  exact .of_eq (h us hl)
def Passes (CX : CXT) (X : Cx) (E : XK) : Prop := ∀ (pins : List (Addr × Obj)) (σ : St) (H : Hp) (s : Shared) (e : Value) (s' : Shared), Inv X pins σ H s -> CX X.stack H s E e s' -> X.xe e s'
section
variable {X : Cx} {CX : CXT} {k : Nat} {f C : Addr} {fd : FuncData} {ps : List Str} {sp : Sp} {dvs : List V} {ds : List Value} {E : XK} {x m : Str} {p pos apos : Pos} {e o : Expr} {es : List Expr} {ta : TE} {t : TA}
theorem run_fn {pins : List (Addr × Obj)} {σ : St} {H : Hp} {s : Shared} {Q : VK} {us : List Value} {vs : List V} (F : FnOk X.prog X.w X.K X.mg X.base CX k f fd ps sp) (hr : Room k X.A) (hb : Binds X.K fd ps ds) (hd : Vals dvs ds) (hx : Passes CX X E)
    (I : Inv X pins σ H s) (r : Vals vs us) (h : sp (vs ++ dvs) H Q E) : wpAny (model X.prog X.w) X.A (call (.ref f) us) (EP X pins σ Q) X.xe s := by
  have r2 : Vals (vs ++ dvs) (us ++ ds) := r.append hd
  have hl : (us ++ ds).length = ps.length := by rw [← r2.length]; exact F.len _ _ _ _ h
  refine wpAny_call (codeAny_mono (F.run X.A X.stack s H ⟨us, []⟩ (us ++ ds) (vs ++ dvs) Q E hr I.env0 (hb s us I.kIn hl) r2 h) fun r s' hq => ?_)
  cases r with
  | error e => exact hx pins σ H s e s' I hq
  | ok fl =>
    cases fl with
    | ret u => exact I.after hq
    | next => exact False.elim hq
    | brk => exact False.elim hq
    | cont => exact False.elim hq
theorem pe_call (F : FnOk X.prog X.w X.K X.mg X.base CX k f fd ps sp) (hr : Room k X.A) (hg : Gl X x) (hm : X.mg x = some (.ref f)) (hk : PySem.W.keepIn X.K (.ref f) = true) (hb : Binds X.K fd ps ds) (hd : Vals dvs ds) (hx : Passes CX X E)
    (ha : PA X (e :: es) t) (hdb : (x == ("__debug__" : Str)) = false := by decide) (he : starEach (e :: es) X.env = (false, eval e X.env) :: starEach es X.env := by rfl) (hpl : (backTo pos (starEach es X.env)).any (·.1) = false := by rfl) :
    PE X (.Call (.Name x p) (e :: es) [] pos) (tCall sp dvs E t) := by
  intro pins s σ H Q I h
  refine wpAny_Call_Name_kw (ld_glob I hg hm ?_ hdb)
  refine PySem.W.callWith_K (h₀ := X.base) I.ok.mod.kin hk (thn (ha pos pins s σ H _ I h) fun us s1 ⟨vs, H1, I1, r, q⟩ => ⟨I1.kIn, ?_⟩) he hpl
  exact run_fn F hr hb hd hx I1 r q
structure Mk (K : PySem.W.Frag) (C f : Addr) : Prop where
  makes : PySem.W.makesIn K C = true
  init : PySem.W.findIn K (.ref C) "__init__" = some (some (.ref f))
  fn : PySem.W.isFn K (.ref f) = true
  kp : PySem.W.keepIn K (.ref C) = true
end
section
variable {X : Cx} {CX : CXT} {k : Nat} {f C : Addr} {fd : FuncData} {ps ks : List Str} {sp : Sp} {E : XK} {x m : Str} {p pos apos kpos : Pos} {e o : Expr} {es : List Expr} {kws : List Keyword} {te ta : TE} {t tk : TA} {nm : Option Str}
structure KBinds (K : PySem.W.Frag) (fd : FuncData) (ps ks : List Str) (g : List Value -> List Value -> List Value) (gV : List V -> List V -> List V) : Prop where
  to : ∀ (s : Shared) (us ws : List Value), K.In s.heap -> (g us ws).length = ps.length -> BindsTo s fd ⟨us, ks.zip ws⟩ (ps.zip (g us ws))
  rel : ∀ {vs : List V} {us : List Value} {zs : List V} {ws : List Value}, Vals vs us -> Vals zs ws -> Vals (gV vs zs) (g us ws)
variable {g : List Value -> List Value -> List Value} {gV : List V -> List V -> List V}
end
structure FnScope (N P : List Str) (sc : Scope) : Prop where
  kind : sc.kind = .function
  co : sc.isCoroutine = false
  gen : sc.isGenerator = false
  nd : N.Nodup
  pre : N.take P.length = P
  par : ∀ x ∈ P, sc.names.lookup x = some .local \/ sc.names.lookup x = some .cell
  nofree : ∀ y ∈ sc.names, y.2 ≠ .free
theorem bindL_out {kindOf : Str -> Option NameKind} {x : Str} : ∀ {binds : List (Str × Value)} {m : Str -> Option Value}, (∀ v, (x, v) ∉ binds) -> bindL kindOf binds m x = m x
  | [], _, _ => rfl
  | (n, v) :: r, m, h => by
    unfold bindL
    rw [bindL_out fun w hw => h w (List.mem_cons_of_mem _ hw)]
    split
    · have : x ≠ n := by rintro rfl; exact h v List.mem_cons_self
      simp [this]
    · rfl
theorem bindC_out {kindOf : Str -> Option NameKind} {x : Str} : ∀ {binds : List (Str × Value)} {m : Str -> Option Value}, (∀ v, (x, v) ∉ binds) -> bindC kindOf binds m x = m x
  | [], _, _ => rfl
  | (n, v) :: r, m, h => by
    unfold bindC
    rw [bindC_out fun w hw => h w (List.mem_cons_of_mem _ hw)]
    split
    · rfl
    · have : x ≠ n := by rintro rfl; exact h v List.mem_cons_self
      simp [this]
theorem bindL_get {kindOf : Str -> Option NameKind} {x : Str} {v : Value} : ∀ {P : List Str} {vs : List Value} {i : Nat} {m : Str -> Option Value}, P.Nodup -> P[i]? = some x -> vs[i]? = some v -> kindOf x = some .local ->
    bindL kindOf (P.zip vs) m x = some v
  | [], _, _, _, _, h, _, _ => by simp at h
  | _ :: _, [], _, _, _, _, h, _ => by simp at h
  | p :: P, w :: vs, 0, m, nd, h1, h2, hk => by
    simp at h1 h2; subst h1; subst h2
    show bindL kindOf ((p, w) :: P.zip vs) m p = _
    unfold bindL
    rw [bindL_out fun v hv => (List.nodup_cons.mp nd).1 (List.of_mem_zip hv).1, if_pos hk]
    simp
  | p :: P, w :: vs, i + 1, m, nd, h1, h2, hk => by
    show bindL kindOf ((p, w) :: P.zip vs) m x = _
    unfold bindL
    exact bindL_get (i := i) (List.nodup_cons.mp nd).2 (by simpa using h1) (by simpa using h2) hk
theorem bindC_get {kindOf : Str -> Option NameKind} {x : Str} {v : Value} : ∀ {P : List Str} {vs : List Value} {i : Nat} {m : Str -> Option Value}, P.Nodup -> P[i]? = some x -> vs[i]? = some v -> kindOf x ≠ some .local ->
    bindC kindOf (P.zip vs) m x = some v
  | [], _, _, _, _, h, _, _ => by simp at h
  | _ :: _, [], _, _, _, _, h, _ => by simp at h
  | p :: P, w :: vs, 0, m, nd, h1, h2, hk => by
    simp at h1 h2; subst h1; subst h2
    show bindC kindOf ((p, w) :: P.zip vs) m p = _
    unfold bindC
    rw [bindC_out fun v hv => (List.nodup_cons.mp nd).1 (List.of_mem_zip hv).1, if_neg hk]
    simp
  | p :: P, w :: vs, i + 1, m, nd, h1, h2, hk => by
    show bindC kindOf ((p, w) :: P.zip vs) m x = _
    unfold bindC
    exact bindC_get (i := i) (List.nodup_cons.mp nd).2 (by simpa using h1) (by simpa using h2) hk
def Zq135 (N : List Str) (vs : List V) : St := vs.map some ++ List.replicate (N.length - vs.length) none
def cxOf (CX : CXT) (P : Program) (w : World) (K : PySem.W.Frag) (mg : Str -> Option Value) (base : Heap) (N : List Str) (qual : Str) (scope : Scope) (f : Addr) (cd : Value) (A : Around) (outer : List Env) (s : Shared) (H : Hp) (E : XK) : Cx where
  prog := P
  w := w
  K := K
  mg := mg
  base := base
  A := A.deeper (envOfC qual scope s.heap.objs.size f cd)
  N := N
  s₀ := s
  H₀ := H
  env := envOfC qual scope s.heap.objs.size f cd
  outer := outer
  stack := envOfC qual scope s.heap.objs.size f cd :: outer
  ex := []
  calm := true
  fn := fun _ => true
  pn := []
  xe := fun e s' => wpAny (model P w) (A.deeper (envOfC qual scope s.heap.objs.size f cd)) (leaving (envOfC qual scope s.heap.objs.size f cd) e) (fun _ s'' => CX outer H s E e s'') (fun e' s'' => CX outer H s E e' s'') s'
theorem cell_has {sc : Scope} {n : Nat} {x : Str} (h : sc.names.lookup x = some .cell) : ∃ c, (cellsFrom n sc.names []).lookup x = some c := by
  have q := PySem.W.cellsFrom_some sc.names n [] (.inl h)
  exact Option.isSome_iff_exists.mp q
theorem inv_start {CX : CXT} {P : Program} {w : World} {K : PySem.W.Frag} {mg : Str -> Option Value} {base : Heap} {N ps : List Str} {qual : Str} {scope : Scope} {f : Addr} {cd : Value} {A : Around} {outer : List Env} {s s1 : Shared} {H : Hp} {E : XK} {us : List Value} {vs : List V}
    (S : FnScope N ps scope) (hd : A.handled = none) (e0 : Env0 P w K mg base A outer s H) (hl : vs.length = ps.length) (r : Vals vs us)
    (x : InCallC s s.heap.objs.size (bindL (envOfC qual scope s.heap.objs.size f cd).kindOf (ps.zip us) fun _ => none) (cellsFrom (s.heap.objs.size + 1) scope.names []) (bindC (envOfC qual scope s.heap.objs.size f cd).kindOf (ps.zip us) fun _ => none) s1) :
    Inv (cxOf CX P w K mg base N qual scope f cd A outer s H E) [] (Zq135 N vs) H s1 := by
  have hpl : ps.length <= N.length := by have := congrArg List.length S.pre; rw [List.length_take] at this; omega
  obtain ⟨h1, tk, rfl, hk⟩ := x.done
  have noA : ∀ b : Addr, b ∉ (cxOf CX P w K mg base N qual scope f cd A outer s H E).ex := fun b z => absurd (show b ∈ ([] : List Addr) from z) (by simp)
  refine ⟨⟨e0.mod, S.kind, rfl, rfl, Nat.le_refl _, fun y z c h1 h2 => ?_, fun y hy => ?_, fun y c _ h => ?_, fun _ => hd, Around.frames_deeper e0.frames, .inr ⟨rfl, rfl⟩, fun b z => absurd z (noA b), e0.bs, e0.bsz, fun b _ _ => noA b, fun b z => absurd z (noA b), e0.funs, e0.frf⟩,
    rfl, e0.bare, Un.kept hk, ⟨_, x.toInCall.ns, fun i y v h1 h2 h3 => ?_⟩, fun y c h => ⟨_, x.cell y c h⟩, e0.hok.fresh (Nat.le_refl _), fun y c h => ?_, fun p hp => absurd (show p ∈ ([] : List (Addr × Obj)) from hp) (by simp), e0.hok.kept hk, ?_⟩
  · exact name_of_addr x.apart (PySem.mem_of_lookup h1) (PySem.mem_of_lookup h2)
  · have hy : scope.names.lookup y = some .cell \/ scope.names.lookup y = some .free := hy
    rcases hy with hy | hy
    · exact cell_has hy
    · exact absurd rfl (S.nofree _ (PySem.mem_of_lookup hy))
  · exact Nat.le_of_lt (x.above y c (PySem.mem_of_lookup h))
  · have hi : i < vs.length := by
      unfold Zq135 at h2
      by_cases hi : i < vs.length
      · exact hi
      · rw [List.getElem?_append_right (by simpa using hi)] at h2
        rw [List.getElem?_replicate] at h2
        split at h2 <;> cases h2
    have ha : vs[i]? = some v := by
      unfold Zq135 at h2
      rw [List.getElem?_append_left (by simpa using hi), List.getElem?_map] at h2
      cases e : vs[i]? with
      | none => rw [e] at h2; cases h2
      | some a => rw [e] at h2; cases h2; rfl
    obtain ⟨u, hu, rv⟩ := r.get ha
    have hp : ps[i]? = some y := by
      rw [← S.pre, List.getElem?_take_of_lt (by omega)]; exact h1
    have ndP : ps.Nodup := by rw [← S.pre]; exact S.nd.sublist (List.take_sublist _ _)
    refine ⟨u, rv, ?_⟩
    rcases S.par y (List.mem_of_getElem? hp) with k | k
    · exact .inl ⟨k, bindL_get ndP hp hu k⟩
    · obtain ⟨c, e⟩ := cell_has (n := s.heap.objs.size + 1) k
      refine .inr ⟨.inl k, c, e, ?_⟩
      have q := x.cell y c e
      rw [bindC_get ndP hp hu (by show scope.names.lookup y ≠ _; rw [k]; decide)] at q
      exact q
  · exact e0.hok.fresh (Nat.le_of_lt (x.above y c (PySem.mem_of_lookup h)))
  · unfold Zq135
    show _ = N.length
    rw [List.length_append, List.length_map, List.length_replicate]
    omega
theorem fn_of {CX : CXT} {P : Program} {w : World} {K : PySem.W.Frag} {mg : Str -> Option Value} {base : Heap} {k : Nat} {f : Addr} {name qual : Str} {params : Arguments} {body : List Stmt} {scope : Scope} {dV kV doc pm cdv ct oc : Value} {an od : Option Addr}
    {osl : Array (Option Value)} {N ps : List Str} {sp : Sp} (lk : K.lookup f = some ⟨oc, od, .func (PySem.W.fnOf name qual params body scope dV kV doc pm an cdv ct), osl⟩) (hcd : PySem.W.codeIn K cdv qual = true) (S : FnScope N ps scope)
    (len : ∀ vs H Q E, sp vs H Q E -> vs.length = ps.length)
    (hbody : ∀ (A : Around) (outer : List Env) (s : Shared) (H : Hp) (vs : List V) (Q : VK) (E : XK), Room k (A.deeper (envOfC qual scope s.heap.objs.size f cdv)) -> sp vs H Q E ->
      ∃ t, PSs (cxOf CX P w K mg base N qual scope f cdv A outer s H E) body t /\ t { nx := fun _ H' => Q .non H', rt := Q } (Zq135 N vs) H) :
    FnOk P w K mg base CX (k + 1) f (PySem.W.fnOf name qual params body scope dV kV doc pm an cdv ct) ps sp := by
  refine ⟨len, fun A outer s H args us vs Q E hr e0 hb r hsp => ?_⟩
  have hl := len _ _ _ _ hsp
  have KX : K.In s.heap := e0.mod.kin.keeps fun b o e => (e0.bs b o e).1
  have lim : s.heap.NoLimit := e0.mod.nolimit.keeps fun b o e => (e0.bs b o e).1
  have hkind : ∀ y ∈ ps.zip us, scope.names.lookup y.1 = some .local \/ (scope.names.lookup y.1 = some .cell /\ ((cellsFrom (s.heap.objs.size + 1) scope.names []).lookup y.1).isSome = true) := fun ⟨n, v⟩ hy => by
    rcases S.par n (List.of_mem_zip hy).1 with q | q
    · exact .inl q
    · exact .inr ⟨q, PySem.W.cellsFrom_some _ _ _ (.inl q)⟩
  refine codeAny_call_function hr.depth (KX _ _ lk) rfl S.co S.gen rfl (PySem.W.codeRec_of KX hcd) (hb _ _ _ _ ?_)
  refine wpAny_newFunctionEnv_cells S.kind hkind fun env he s1 x => ?_
  subst he
  refine ⟨lim.keeps x.toInCall.keep, codeAny_func ?_⟩
  obtain ⟨t, ht, hq⟩ := hbody A outer s H vs Q E (hr.deeper _) hsp
  have I : Inv (cxOf CX P w K mg base N qual scope f cdv A outer s H E) [] (Zq135 N vs) H s1 := inv_start S hr.hd e0 hl r x
  refine wpAny_mono (ht [] s1 (Zq135 N vs) H _ I hq) (fun fl s' hs => ?_) fun e s' hs => hs
  have fin : ∀ {σ' : St} {H' : Hp} {v : V} {u : Value}, Inv (cxOf CX P w K mg base N qual scope f cdv A outer s H E) [] σ' H' s' -> RelV v u -> Q v H' -> CE outer P w H s Q u s' :=
    fun {σ' H' v u} J rv q => ⟨v, H', J.os, J.bare, J.base, J.hok, rv, q⟩
  cases fl with
  | ret u =>
    obtain ⟨v, σ', H', J, rv, q⟩ := hs
    exact fin J rv q
  | next =>
    obtain ⟨σ', H', J, q⟩ := hs
    exact fin (v := V.non) (u := Value.none) J rfl q
  | brk =>
    obtain ⟨_, _, _, q⟩ := hs
    exact False.elim q
  | cont =>
    obtain ⟨_, _, _, q⟩ := hs
    exact False.elim q
end L2
namespace L2
open PySem PySem.Spec PyProof.Rows
section
variable {X : Cx} {x : Str} {p pos : Pos} {e : Expr} {es : List Expr} {t : TA} {id T : String} {r : List V -> Hp -> VK -> Prop}
def tCB (r : List V -> Hp -> VK -> Prop) (t : TA) : TE := fun σ H Q => t σ H fun vs H1 => r vs H1 Q
theorem pe_callB (hc : Zq146 X (.builtin id) r) (hg : Gl X x) (hm : X.mg x = none) (hv : bootBuiltins x = some (.builtin id)) (ha : PA X (e :: es) t) (hn : x ≠ "__name__" := by decide) (hdb : (x == ("__debug__" : Str)) = false := by decide)
    (he : starEach (e :: es) X.env = (false, eval e X.env) :: starEach es X.env := by rfl) (hpl : (backTo pos (starEach es X.env)).any (·.1) = false := by rfl) : PE X (.Call (.Name x p) (e :: es) [] pos) (tCB r t) := by
  intro pins s σ H Q I h
  refine wpAny_Call_Name_kw (Zq138 I hg hm hv ?_ hn hdb)
  exact PyProof.Rows.callWith_builtin1 (thn (ha pos pins s σ H _ I h) fun us s1 ⟨vs, H1, I1, r1, q1⟩ => hc pins s1 σ H1 vs us Q I1 r1 q1) he hpl
theorem pe_callTy (hc : Zq146 X (.type T) r) (hg : Gl X x) (hm : X.mg x = none) (hv : bootBuiltins x = some (.type T)) (ha : PA X (e :: es) t) (hn : x ≠ "__name__" := by decide) (hdb : (x == ("__debug__" : Str)) = false := by decide)
    (he : starEach (e :: es) X.env = (false, eval e X.env) :: starEach es X.env := by rfl) (hpl : (backTo pos (starEach es X.env)).any (·.1) = false := by rfl) : PE X (.Call (.Name x p) (e :: es) [] pos) (tCB r t) := by
  intro pins s σ H Q I h
  refine wpAny_Call_Name_kw (Zq138 I hg hm hv ?_ hn hdb)
  exact PyProof.Rows.callWith_type1 (thn (ha pos pins s σ H _ I h) fun us s1 ⟨vs, H1, I1, r1, q1⟩ => hc pins s1 σ H1 vs us Q I1 r1 q1) he hpl
end
end L2
namespace HT
open PySem PyProof.Rows
section
open PySem.SeqAt
open PySem.AutoSeq1 (wpAny_loadPart')
open PySem.MeetsSeq PySem.MeetsSeq2 PySem.MeetsSeq3
end
section
variable {prog : Program} {w : World} {A : Around} {E : Value -> Shared -> Prop} {s : Shared}
def sIx (n d : Nat) : Option Int -> Nat
  | none => d
  | some v => if v < 0 then (v + (n : Int)).toNat else min v.toNat n
theorem sIx_none (n d : Nat) : sIx n d none = d := rfl
theorem sIx_nat (n d k : Nat) : sIx n d (some (k : Int)) = min k n := by
  show (if (k : Int) < 0 then ((k : Int) + (n : Int)).toNat else min (k : Int).toNat n) = min k n
  rw [if_neg (by omega), Int.toNat_natCast]
end
end HT
namespace L2
open PySem PySem.Spec PyProof.Rows
abbrev TO := St -> Hp -> (Option Int -> Hp -> Prop) -> Prop
def PO (X : Cx) (e : Option Expr) (t : TO) : Prop :=
  ∀ (pins : List (Addr × Obj)) (s : Shared) (σ : St) (H : Hp) (Q : Option Int -> Hp -> Prop), Inv X pins σ H s -> t σ H Q ->
    wpAny (model X.prog X.w) X.A (evalPart e X.env) (fun u s' => ∃ o H', Inv X pins σ H' s' /\ IsPart u o /\ Q o H') X.xe s
def tNoPart : TO := fun _ H Q => Q none H
def tPart (t : TE) : TO := fun σ H Q => t σ H fun x H1 => ∃ i, x = .int i /\ Q (some i) H1
section
variable {X : Cx} {e : Expr} {te : TE} {lo hi : Option Expr} {tl th : TO} {pos p2 : Pos}
theorem po_none : PO X none tNoPart := by
  intro pins s σ H Q I h
  rw [evalPart_none]
  exact wpAny_pure ⟨none, H, I, .none, h⟩
theorem po_some (h : PE X e te) : PO X (some e) (tPart te) := by
  intro pins s σ H Q I hw
  rw [evalPart_some]
  refine thn (h pins s σ H _ I hw) fun u s1 ⟨x, H1, I1, r1, q1⟩ => ?_
  obtain ⟨i, rfl, q⟩ := q1
  obtain ⟨t, rfl⟩ := r1
  exact ⟨some i, H1, I1, .int i t, q⟩
def SlR (X : Cx) (r : V -> Option Int -> Option Int -> Hp -> VK -> Prop) : Prop :=
  ∀ (pins : List (Addr × Obj)) (s : Shared) (σ : St) (H : Hp) (x : V) (v vl vu : Value) (lo hi : Option Int) (sl : Addr) (Q : VK), Inv X pins σ H s -> RelV x v -> s.heap.IsSliceOf sl vl vu .none -> IsPart vl lo -> IsPart vu hi -> r x lo hi H Q ->
    ∃ T id, typeLookup (.type T) "__getitem__" = pure (some (.builtin id)) /\ s.TypeIs v T /\ wpAny (model X.prog X.w) X.A (getItem v (.ref sl)) (EP X pins σ Q) X.xe s
def tSl (r : V -> Option Int -> Option Int -> Hp -> VK -> Prop) (te : TE) (tl th : TO) : TE := fun σ H Q => te σ H fun x H1 => tl σ H1 fun l H2 => th σ H2 fun u H3 => r x l u H3 Q
theorem pe_slice {r : V -> Option Int -> Option Int -> Hp -> VK -> Prop} (hr : SlR X r) (he : PE X e te) (hl : PO X lo tl) (hu : PO X hi th) : PE X (.Subscript e (.Slice lo hi none p2) pos) (tSl r te tl th) := by
  intro pins s σ H Q I h
  refine Subscript_ (thn (he pins s σ H _ I h) fun v s1 ⟨x, H1, I1, r1, q1⟩ => ?_)
  refine wpAny_Slice (thn (hl pins s1 σ H1 _ I1 q1) fun vl s2 ⟨l, H2, I2, pl, q2⟩ => thn (hu pins s2 σ H2 _ I2 q2) fun vu s3 ⟨u, H3, I3, pu, q3⟩ => ?_)
  rw [evalPart_none]
  refine wpAny_pure ?_
  have I4 : Inv X pins σ H3 { s3 with heap := s3.heap.push { cls := .type "slice", data := .fields #[vl, vu, .none] } } := I3.kept (t' := s3.toks) fun b ob q => Heap.get?_push_of_some _ q
  obtain ⟨T, id, hT, ht, hg⟩ := hr pins { s3 with heap := s3.heap.push { cls := .type "slice", data := .fields #[vl, vu, .none] } } σ H3 x v vl vu l u s3.heap.objs.size Q I4 r1 (Heap.IsSliceOf.new ..) pl pu q3
  show wpAny (model X.prog X.w) X.A (subscriptTail e (.Slice lo hi none p2) v (.ref s3.heap.objs.size)) (EP X pins σ Q) X.xe { s3 with heap := s3.heap.push { cls := .type "slice", data := .fields #[vl, vu, .none] } }
  exact tail_any (ops := [.ref s3.heap.objs.size, v]) ht hT hg (by with_unfolding_all rfl)
def cutV (xs : List V) (lo hi : Option Int) : List V := (xs.drop (HT.sIx xs.length 0 lo)).take (HT.sIx xs.length xs.length hi - HT.sIx xs.length 0 lo)
theorem cutV_length (xs : List V) (lo hi : Option Int) : (cutV xs lo hi).length <= xs.length := by
  unfold cutV
  rw [List.length_take, List.length_drop]
  omega
end
end L2
namespace L2
open PySem PySem.Spec PyProof.Rows
def ixN (n : Nat) (i : Int) : Option Nat := if 0 <= i then (if i < n then some i.toNat else none) else if -(n : Int) <= i then some (i + n).toNat else none
def atI {α : Type} (xs : List α) (i : Int) : Option α := (ixN xs.length i).bind fun j => xs[j]?
theorem ixN_seq {n : Nat} {i : Int} {j : Nat} (h : ixN n i = some j) : seqIndex? i n = some j /\ j < n /\ -(n : Int) <= i /\ i < n := by
  unfold ixN at h
  by_cases h0 : 0 <= i
  · rw [if_pos h0] at h
    by_cases h1 : i < n
    · rw [if_pos h1] at h
      have e : i.toNat = j := Option.some.inj h
      exact ⟨by rw [seqIndex_of h0 h1, e], by omega, by omega, h1⟩
    · rw [if_neg h1] at h; cases h
  · rw [if_neg h0] at h
    by_cases h1 : -(n : Int) <= i
    · rw [if_pos h1] at h
      have e : (i + n).toNat = j := Option.some.inj h
      exact ⟨by rw [seqIndex_neg (by omega) h1, e], by omega, h1, by omega⟩
    · rw [if_neg h1] at h; cases h
theorem atI_get {α : Type} {xs : List α} {i : Int} {v : α} (h : atI xs i = some v) : ∃ j, seqIndex? i xs.length = some j /\ xs[j]? = some v /\ j < xs.length /\ -(xs.length : Int) <= i /\ i < xs.length := by
  unfold atI at h
  cases e : ixN xs.length i with
  | none => rw [e] at h; cases h
  | some j =>
    rw [e] at h
    obtain ⟨h1, h2, h3, h4⟩ := ixN_seq e
    exact ⟨j, h1, h, h2, h3, h4⟩
theorem Zq40 {α : Type} {xs : List α} {j : Nat} {v : α} (h : xs[j]? = some v) : atI xs (j : Int) = some v := by
  have hj : j < xs.length := (List.getElem?_eq_some_iff.mp h).1
  have e : ixN xs.length (j : Int) = some j := by
    unfold ixN
    rw [if_pos (by omega), if_pos (by omega)]; simp
  unfold atI; rw [e]; exact h
def PlainIx (b : Expr) : Prop := ∀ o i, subscripted b false o i = operate [o, i] (getItem o i)
def IxR (X : Cx) (r : R2) : Prop :=
  ∀ (value slice : Expr) (pins : List (Addr × Obj)) (s : Shared) (σ : St) (H : Hp) (x y : V) (v u : Value) (Q : VK), Inv X pins σ H s -> RelV x v -> RelV y u -> r x y H Q ->
    subscripted slice false v u = operate [v, u] (getItem v u) -> wpAny (model X.prog X.w) X.A (subscriptTail value slice v u) (EP X pins σ Q) X.xe s
def MtR (X : Cx) (id : String) (r : V -> List V -> Hp -> VK -> Prop) : Prop :=
  ∀ (pins : List (Addr × Obj)) (s : Shared) (σ : St) (H : Hp) (x : V) (xs : List V) (v : Value) (us : List Value) (Q : VK), Inv X pins σ H s -> RelV x v -> Vals xs us -> r x xs H Q ->
    wpAny (model X.prog X.w) X.A (call (.builtin id) (v :: us)) (EP X pins σ Q) X.xe s
section
variable {X : Cx} {a b : Expr} {ta tb : TE} {pos : Pos}
theorem pe_ix {r : R2} (hr : IxR X r) (ha : PE X a ta) (hb : PE X b tb) (hs : PlainIx b) : PE X (.Subscript a b pos) (tOp r ta tb) := by
  intro pins s σ H Q I h
  exact Subscript_ (binT ha hb I h fun v u s2 x y H2 I2 rx ry q => hr a b pins s2 σ H2 x y v u Q I2 rx ry q (hs _ _))
def rIxL (K : PySem.W.Frag) : R2 := fun x y H Q => ∃ p xs i v, x = .ref p /\ y = .int i /\ SqL K H p xs /\ atI xs i = some v /\ Q v H
def rIxT (K : PySem.W.Frag) : R2 := fun x y H Q => ∃ p xs i v, x = .ref p /\ y = .int i /\ SqT K H p xs /\ atI xs i = some v /\ Q v H
def rIxS : R2 := fun x y H Q => ∃ z i c, x = .str z /\ y = .int i /\ z.length <= sizeLine /\ atI z.cps.toList i = some c /\ Q (.str ⟨#[c]⟩) H
theorem ix_list : IxR X (rIxL X.K) := by
  intro value slice pins s σ H x y v u Q I rx ry h hs
  obtain ⟨p, xs, i, z, rfl, rfl, hq, he, q⟩ := h
  cases rx
  obtain ⟨t, rfl⟩ := ry
  obtain ⟨its, r, pl, hz⟩ := I.list hq
  obtain ⟨j, h1, h2, h3, h4, h5⟩ := atI_get he
  obtain ⟨w, ew, rw'⟩ := r.get h2
  have hl := r.length
  have hn := line63
  have fin : EP X pins σ Q w s := ⟨z, H, I, rw', q⟩
  by_cases h0 : 0 <= i
  · have hj : i.toNat = j := by
      rw [seqIndex_of h0 h5] at h1
      exact Option.some.inj h1
    exact item_listR pl.isList h0 (by omega) (by rw [hj]; simpa using ew) fin hs
  · have hj : (i + (its.toArray.size : Int)).toNat = j := by
      rw [seqIndex_neg (by omega) h4] at h1
      rw [List.size_toArray, ← hl]
      exact Option.some.inj h1
    exact subscriptTail_builtinR (x := w) pl.isList.typeIs slot_list_getitem.lookup
      (wpAny_getItem_list_neg (Q := fun r s' => r = w /\ EP X pins σ Q r s') pl.isList (by omega) (by rw [List.size_toArray] <;> omega) (by omega) (by rw [hj]; simpa using ew) ⟨rfl, fin⟩) hs
theorem ix_tup : IxR X (rIxT X.K) := by
  intro value slice pins s σ H x y v u Q I rx ry h hs
  obtain ⟨p, xs, i, z, rfl, rfl, hq, he, q⟩ := h
  cases rx
  obtain ⟨t, rfl⟩ := ry
  obtain ⟨its, r, pl, hz⟩ := I.tuple hq
  obtain ⟨j, h1, h2, h3, h4, h5⟩ := atI_get he
  obtain ⟨w, ew, rw'⟩ := r.get h2
  have hl := r.length
  have hn := line63
  have fin : EP X pins σ Q w s := ⟨z, H, I, rw', q⟩
  exact subscriptTail_builtinR (x := w) pl.typeIs slot_tuple_getitem.lookup
    (getItem_tuple (j := j) (Q := fun r s' => r = w /\ EP X pins σ Q r s') pl (by omega) (by omega) (by rw [List.size_toArray, ← hl]; exact h1) (by simpa using ew) ⟨rfl, fin⟩) hs
theorem ix_str : IxR X rIxS := by
  intro value slice pins s σ H x y v u Q I rx ry h hs
  obtain ⟨z, i, c, rfl, rfl, hz, he, q⟩ := h
  obtain ⟨t, rfl⟩ := rx
  obtain ⟨t', rfl⟩ := ry
  obtain ⟨j, h1, h2, h3, h4, h5⟩ := atI_get he
  have hl : z.cps.toList.length = z.length := by simp [Str.length]
  rw [hl] at h1 h4 h5
  have hn := line63
  exact tail_any (typeIs_str s z t) slot_str_getitem.lookup (getItem_str (c := c) (by
    have e1 : decide (i < -(2 ^ 63 : Int)) = false := decide_eq_false (by omega)
    have e2 : decide (i >= 2 ^ 63) = false := decide_eq_false (by omega)
    rw [e1, e2, Bool.or_false]) (by rw [h1]; simpa using h2) ⟨.str ⟨#[c]⟩, H, I.tok _, ⟨_, rfl⟩, q⟩) hs
theorem mapSeq_set (its : List Value) (n j : Nat) (u : Value) : Obj.mapSeq (·.setIfInBounds j u) { cls := .type "list", data := .seq its.toArray n } = { cls := .type "list", data := .seq (its.set j u).toArray n } := by
  simp [Obj.mapSeq]
theorem Inv.lst {pins : List (Addr × Obj)} {σ : St} {H : Hp} {s : Shared} {p : Addr} {xs : List V} (I : Inv X pins σ H s) (h : H p = some (.lst xs)) :
    ∃ (its : List Value) (n : Nat), Vals xs its /\ s.heap.get? p = some { cls := .type "list", data := .seq its.toArray n } /\ xs.length <= sizeLine := by
  obtain ⟨z, its, n, r, e⟩ := I.hok p _ h
  exact ⟨its, n, r, e, z⟩
theorem Inv.lstUpd {pins : List (Addr × Obj)} {σ : St} {H : Hp} {s : Shared} {p : Addr} {xs ys : List V} {its its' : List Value} {n n' : Nat} {f : Obj -> Obj} (I : Inv X pins σ H s) (h : H p = some (.lst xs))
    (ho : s.heap.get? p = some { cls := .type "list", data := .seq its.toArray n }) (hf : f { cls := .type "list", data := .seq its.toArray n } = { cls := .type "list", data := .seq its'.toArray n' }) (r : Vals ys its') (hz : ys.length <= sizeLine) (t : Nat) :
    Inv X pins σ (upd H p (.lst ys)) { s with heap := s.heap.update p f, toks := t } := by
  have e : (s.heap.update p f).get? p = some { cls := .type "list", data := .seq its'.toArray n' } := by
    rw [Heap.get?_update_self f ho (by rw [hf] <;> rfl), hf]
  refine I.write (x := p) (e := p) (by rw [h]; trivial) (.inl rfl) (fun b u hb q => (Heap.get?_update_other _ _ (Ne.symm hb)).trans q) ⟨_, e⟩ ?_
  exact ⟨hz, its', n', r, e⟩
def rSetL : V -> V -> V -> Hp -> (Hp -> Prop) -> Prop := fun o i v H Q => ∃ p xs k j, o = .ref p /\ i = .int k /\ H p = some (.lst xs) /\ ixN xs.length k = some j /\ Q (upd H p (.lst (xs.set j v)))
theorem set_list : PSet X rSetL := by
  intro pins s σ H o i v ov iv u Q I ro ri rv h
  obtain ⟨p, xs, k, j, rfl, rfl, hp, hj, q⟩ := h
  cases ro
  obtain ⟨t, rfl⟩ := ri
  obtain ⟨its, n, r, ho, hz⟩ := I.lst hp
  obtain ⟨h1, h2, h3, h4⟩ := ixN_seq hj
  have hl := r.length
  have hn := line63
  have I' : Inv X pins σ (upd H p (.lst (xs.set j v))) { s with heap := s.heap.update p (Obj.mapSeq (·.setIfInBounds j u)) } :=
    I.lstUpd hp ho (mapSeq_set its n j u) (r.set rv j) (by rw [List.length_set]; exact hz) s.toks
  by_cases h0 : 0 <= k
  · have hk : k.toNat = j := by
      rw [seqIndex_of h0 h4] at h1
      exact Option.some.inj h1
    exact PySem.W.ki_setAt ho h0 (by omega) (by rw [List.size_toArray, ← hl]; exact h4) (by rw [hk]; exact ⟨_, I', q⟩)
  · have hk : (k + (its.toArray.size : Int)).toNat = j := by
      rw [seqIndex_neg (by omega) h3] at h1
      rw [List.size_toArray, ← hl]
      exact Option.some.inj h1
    exact PySem.W.ki_setBack ho (by omega) (by rw [List.size_toArray, ← hl]; exact h3) (by omega) (by rw [hk]; exact ⟨_, I', q⟩)
theorem slice_bounds (lo hi : Option Int) (n : Nat) : (sliceBounds lo hi none n).1 = ((HT.sIx n 0 lo : Nat) : Int) /\ (sliceBounds lo hi none n).2.1 = ((HT.sIx n n hi : Nat) : Int) /\ (sliceBounds lo hi none n).2.2 = 1 := by
  refine ⟨?_, ?_, rfl⟩
  · cases lo with
    | none => simp [sliceBounds, HT.sIx]
    | some i =>
      simp only [sliceBounds, HT.sIx, Option.getD_none, show (1 : Int) > 0 by decide, if_true]
      by_cases h : i < 0
      · simp only [h, if_true] <;> omega
      · simp only [h, if_false] <;> omega
  · cases hi with
    | none => simp [sliceBounds, HT.sIx]
    | some i =>
      simp only [sliceBounds, HT.sIx, Option.getD_none, show (1 : Int) > 0 by decide, if_true]
      by_cases h : i < 0
      · simp only [h, if_true] <;> omega
      · simp only [h, if_false] <;> omega
theorem slicePick_cut (its : List Value) (lo hi : Option Int) : slicePick its.toArray lo hi none = ((its.drop (HT.sIx its.length 0 lo)).take (HT.sIx its.length its.length hi - HT.sIx its.length 0 lo)).toArray := by
  obtain ⟨h1, h2, h3⟩ := slice_bounds lo hi its.toArray.size
  unfold slicePick
  rw [h1, h2, h3]
  simp only [sliceRange_one, pick_run, List.size_toArray] <;> rfl
def rSlL (K : PySem.W.Frag) : V -> Option Int -> Option Int -> Hp -> VK -> Prop := fun x lo hi H Q => ∃ a xs, x = .ref a /\ SqL K H a xs /\ ∀ p, H p = none -> Q (.ref p) (upd H p (.lst (cutV xs lo hi)))
theorem sl_list : SlR X (rSlL X.K) := by
  intro pins s σ H x v vl vu lo hi sl Q I rx hs pl pu h
  obtain ⟨a, xs, rfl, hx, q⟩ := h
  cases rx
  obtain ⟨its, r, ht, hz⟩ := I.list hx
  have hlen := r.length
  refine ⟨"list", _, slot_list_getitem.lookup, ht.isList.typeIs, ?_⟩
  refine wpAny_getItem_list_slice ht.isList hs pl pu .none (by simp) ?_ (by rw [List.size_toArray] <;> omega)
  rw [slicePick_cut, ← hlen]
  refine ⟨.ref s.heap.objs.size, _, I.laid (t' := s.toks) (o := .lst (cutV xs lo hi)) (fun b ob q => Heap.get?_push_of_some _ q) (Nat.le_refl _) ?_, rfl, q _ (I.hok.fresh (Nat.le_refl _))⟩
  exact ⟨Nat.le_trans (cutV_length xs lo hi) hz, _, 0, (r.drop (HT.sIx xs.length 0 lo)).take (HT.sIx xs.length xs.length hi - HT.sIx xs.length 0 lo), Heap.get?_push_size _ rfl⟩
def Zq136 : V -> Bool
  | .non => true
  | .bl _ => true
  | .int _ => true
  | .str _ => true
  | _ => false
def eqV : V -> V -> Bool
  | .non, .non => true
  | .bl a, .bl b => a == b
  | .bl a, .int b => (if a then 1 else 0) == b
  | .int a, .bl b => a == (if b then 1 else 0)
  | .int a, .int b => a == b
  | .str a, .str b => a == b
  | _, _ => false
theorem eqAt_V {A : Around} {s : Shared} {y x : V} {u v : Value} (ry : RelV y u) (rx : RelV x v) (fy : Zq136 y = true) (fx : Zq136 x = true) : SeqAt.EqAt A s u v (eqV y x) := by
  cases y with
  | non =>
    cases ry
    cases x with
    | non => cases rx; exact SeqAt.EqAt.same _
    | bl b => cases rx; exact SeqAt.EqAt.none_bool b
    | int b => obtain ⟨t, rfl⟩ := rx; exact SeqAt.EqAt.none_int b t
    | str b => obtain ⟨t, rfl⟩ := rx; exact SeqAt.EqAt.none_str b t
    | _ => exact absurd (show false = true from fx) Bool.false_ne_true
  | bl a =>
    cases ry
    cases x with
    | non => cases rx; exact SeqAt.EqAt.bool_none a
    | bl b => cases rx; exact SeqAt.EqAt.bool_bool a b
    | int b => obtain ⟨t, rfl⟩ := rx; exact SeqAt.EqAt.bool_int a b t
    | str b => obtain ⟨t, rfl⟩ := rx; exact SeqAt.EqAt.bool_str a b t
    | _ => exact absurd (show false = true from fx) Bool.false_ne_true
  | int a =>
    obtain ⟨t', rfl⟩ := ry
    cases x with
    | non => cases rx; exact SeqAt.EqAt.int_none a t'
    | bl b => cases rx; exact SeqAt.EqAt.int_bool a t' b
    | int b => obtain ⟨t, rfl⟩ := rx; exact SeqAt.EqAt.int_int a t' b t
    | str b => obtain ⟨t, rfl⟩ := rx; exact SeqAt.EqAt.int_str a t' b t
    | _ => exact absurd (show false = true from fx) Bool.false_ne_true
  | str a =>
    obtain ⟨t', rfl⟩ := ry
    cases x with
    | non => cases rx; exact SeqAt.EqAt.str_none a t'
    | bl b => cases rx; exact SeqAt.EqAt.str_bool a t' b
    | int b => obtain ⟨t, rfl⟩ := rx; exact SeqAt.EqAt.str_int a t' b t
    | str b => obtain ⟨t, rfl⟩ := rx; exact SeqAt.EqAt.str_str a t' b t
    | _ => exact absurd (show false = true from fx) Bool.false_ne_true
  | _ => exact absurd (show false = true from fy) Bool.false_ne_true
def eqU (x : V) (u : Value) : Bool := match u with
  | .none => eqV .non x
  | .bool b => eqV (.bl b) x
  | .int i _ => eqV (.int i) x
  | .str z _ => eqV (.str z) x
  | _ => false
theorem eqU_of {x y : V} {u : Value} (r : RelV y u) (f : Zq136 y = true) : eqU x u = eqV y x := by
  cases y with
  | non => cases r; rfl
  | bl b => cases r; rfl
  | int i => obtain ⟨t, rfl⟩ := r; rfl
  | str z => obtain ⟨t, rfl⟩ := r; rfl
  | _ => exact absurd (show false = true from f) Bool.false_ne_true
theorem any_eqU {x : V} : ∀ {xs : List V} {us : List Value}, Vals xs us -> xs.all Zq136 = true -> us.any (eqU x) = xs.any fun y => eqV y x
  | _, _, .nil, _ => rfl
  | y :: xs, u :: us, .cons r t, f => by
    rw [List.all_cons, Bool.and_eq_true] at f
    rw [List.any_cons, List.any_cons, eqU_of r f.1, any_eqU t f.2]
theorem mem_eqAt {A : Around} {s : Shared} {x : V} {v : Value} (rx : RelV x v) (fx : Zq136 x = true) : ∀ {xs : List V} {us : List Value}, Vals xs us -> xs.all Zq136 = true -> ∀ u ∈ us, SeqAt.EqAt A s u v (eqU x u)
  | _, _, .nil, _ => fun u hu => by cases hu
  | y :: xs, u :: us, .cons r t, f => fun u' hu => by
    rw [List.all_cons, Bool.and_eq_true] at f
    rcases List.mem_cons.mp hu with rfl | hu
    · rw [eqU_of r f.1]; exact eqAt_V r rx f.1 fx
    · exact mem_eqAt rx fx t f.2 u' hu
def inV (x : V) (xs : List V) : Bool := xs.any fun y => eqV y x
def rIn (K : PySem.W.Frag) (neg : Bool) : R2 := fun x y H Q => ∃ p xs, y = .ref p /\ (SqL K H p xs \/ SqT K H p xs) /\ Zq136 x = true /\ xs.all Zq136 = true /\ Q (.bl (if neg then !inV x xs else inV x xs)) H
theorem op_in_seq : OpR X (compareOp .In) (rIn X.K false) := by
  intro pins s σ H x y v u Q I rx ry h
  obtain ⟨p, xs, rfl, hq, fx, fs, q⟩ := h
  cases ry
  rcases hq with hq | hq
  · obtain ⟨its, r, pl, hz⟩ := I.list hq
    refine SeqAt.in_listAt (eqU x) pl.isList (fun w hw => mem_eqAt rx fx r fs w (by simpa using hw)) ⟨.bl _, H, I, rfl, ?_⟩
    rw [show its.toArray.any (eqU x) = its.any (eqU x) by simp, any_eqU r fs]
    exact q
  · obtain ⟨its, r, pl, hz⟩ := I.tuple hq
    refine SeqAt.in_tupleAt (eqU x) pl (fun w hw => mem_eqAt rx fx r fs w (by simpa using hw)) ⟨.bl _, H, I, rfl, ?_⟩
    rw [show its.toArray.any (eqU x) = its.any (eqU x) by simp, any_eqU r fs]
    exact q
theorem op_notIn_seq : OpR X (compareOp .NotIn) (rIn X.K true) := by
  intro pins s σ H x y v u Q I rx ry h
  obtain ⟨p, xs, rfl, hq, fx, fs, q⟩ := h
  cases ry
  rcases hq with hq | hq
  · obtain ⟨its, r, pl, hz⟩ := I.list hq
    refine SeqAt.notIn_listAt (eqU x) pl.isList (fun w hw => mem_eqAt rx fx r fs w (by simpa using hw)) ⟨.bl _, H, I, rfl, ?_⟩
    rw [show its.toArray.any (eqU x) = its.any (eqU x) by simp, any_eqU r fs]
    exact q
  · obtain ⟨its, r, pl, hz⟩ := I.tuple hq
    refine SeqAt.notIn_tupleAt (eqU x) pl (fun w hw => mem_eqAt rx fx r fs w (by simpa using hw)) ⟨.bl _, H, I, rfl, ?_⟩
    rw [show its.toArray.any (eqU x) = its.any (eqU x) by simp, any_eqU r fs]
    exact q
theorem call_len_seq : Zq146 X (.builtin "len") (fun xs H Q => ∃ p ys, xs = [.ref p] /\ (SqL X.K H p ys \/ SqT X.K H p ys) /\ Q (.int ys.length) H) := by
  intro pins s σ H xs us Q I r h
  obtain ⟨p, ys, rfl, hq, q⟩ := h
  obtain ⟨u, rfl, rx⟩ := Zq210 r
  cases rx
  have hn := line63
  rcases hq with hq | hq
  · obtain ⟨its, r', pl, hz⟩ := I.list hq
    have hlen := r'.length
    exact Calls.call_len_list pl.isList (by simp only [List.size_toArray] <;> omega) ⟨.int ys.length, H, I.tok _, ⟨s.toks + 1, by rw [List.size_toArray, hlen]⟩, q⟩
  · obtain ⟨its, r', pl, hz⟩ := I.tuple hq
    have hlen := r'.length
    exact len_tuple pl (by simp only [List.size_toArray] <;> omega) ⟨.int ys.length, H, I.tok _, ⟨s.toks + 1, by rw [List.size_toArray, hlen]⟩, q⟩
theorem call_len_str : Zq146 X (.builtin "len") (fun xs H Q => ∃ z, xs = [.str z] /\ z.length <= sizeLine /\ Q (.int z.length) H) := by
  intro pins s σ H xs us Q I r h
  obtain ⟨z, rfl, hz, q⟩ := h
  obtain ⟨u, rfl, t, rfl⟩ := Zq210 r
  have hn := line63
  exact len_str (by omega) ⟨.int z.length, H, I.tok _, ⟨_, rfl⟩, q⟩
theorem call_list_of : Zq146 X (.type "list") (fun xs H Q => ∃ p ys, xs = [.ref p] /\ (SqL X.K H p ys \/ SqT X.K H p ys) /\ ∀ l, H l = none -> Q (.ref l) (upd H l (.lst ys))) := by
  intro pins s σ H xs us Q I r h
  obtain ⟨p, ys, rfl, hq, q⟩ := h
  obtain ⟨u, rfl, rx⟩ := Zq210 r
  cases rx
  have fin : ∀ (its : List Value), Vals ys its -> ys.length <= sizeLine -> ∀ (h' : Heap) (c' : Nat), (∀ b o', s.heap.get? b = some o' -> h'.get? b = some o') ->
      h'.get? s.heap.objs.size = some { cls := .type "list", dict := none, data := .seq its.toArray c', slots := #[] } -> EP X pins σ Q (.ref s.heap.objs.size) { s with heap := h' } := fun its r' hz h' c' kp e =>
    ⟨.ref s.heap.objs.size, _, I.laid (t' := s.toks) kp (Nat.le_refl _) (show ObjOk X.prog X.w _ h' _ (.lst ys) from ⟨hz, its, c', r', e⟩), rfl, q _ (I.hok.fresh (Nat.le_refl _))⟩
  rcases hq with hq | hq
  · obtain ⟨its, r', pl, hz⟩ := I.list hq
    have hlen := r'.length
    obtain ⟨o, ho, hc, n, hd⟩ := pl.isList
    exact call_list_seq p (.inl rfl) ho hc hd (fun h' c' kp e => fin its r' hz h' c' kp e) (by simp only [List.size_toArray] <;> omega)
  · obtain ⟨its, r', pl, hz⟩ := I.tuple hq
    have hlen := r'.length
    obtain ⟨o, ho, hc, n, hd⟩ := pl
    exact call_list_seq p (.inr rfl) ho hc hd (fun h' c' kp e => fin its r' hz h' c' kp e) (by simp only [List.size_toArray] <;> omega)
def tyV (K : PySem.W.Frag) (T : String) (x : V) (H : Hp) : Prop := match x with
  | .str _ => T = "str"
  | .int _ => T = "int"
  | .ref p => (T = "list" /\ ∃ xs, SqL K H p xs) \/ (T = "tuple" /\ ∃ o, K.lookup p = some o /\ o.cls = .type "tuple" /\ o.dict = none) \/
      (T = "dict" /\ ((∃ kvs, H p = some (.dK kvs)) \/ ∃ kvs, H p = some (.dT kvs))) \/ (T = "set" /\ ∃ S n, H p = some (.set S n))
  | _ => False
theorem tyV_is {pins : List (Addr × Obj)} {σ : St} {H : Hp} {s : Shared} {T : String} {x : V} {v : Value} (I : Inv X pins σ H s) (r : RelV x v) (ty : tyV X.K T x H) :
    s.TypeIs v T /\ ∀ a, v = .ref a -> ∃ ob, s.heap.get? a = some ob /\ ob.dict = none := by
  cases x with
  | str z =>
    obtain ⟨t, rfl⟩ := r
    cases (show T = "str" from ty)
    exact ⟨typeIs_str s z t, fun _ e => nomatch e⟩
  | int i =>
    obtain ⟨t, rfl⟩ := r
    cases (show T = "int" from ty)
    exact ⟨typeIs_int s i t, fun _ e => nomatch e⟩
  | ref p =>
    cases r
    rcases ty with ⟨rfl, xs, hq⟩ | ⟨rfl, o, hk, hc, hd⟩ | ⟨rfl, hk⟩ | ⟨rfl, S, n, hk⟩
    · obtain ⟨its, _, pl, _⟩ := I.list hq
      refine ⟨pl.isList.typeIs, fun a e => ?_⟩
      cases e
      obtain ⟨o, n, e, c, hd, _⟩ := pl
      exact ⟨o, e, hd⟩
    · refine ⟨⟨o, I.kIn p o hk, hc⟩, fun a e => ?_⟩
      cases e
      exact ⟨o, I.kIn _ o hk, hd⟩
    · have z : ∃ o, s.heap.get? p = some o /\ o.ExactDict := by
        rcases hk with ⟨kvs, hk⟩ | ⟨kvs, hk⟩
        · obtain ⟨_, _, _, _, o, _, _, e, ex, _⟩ := I.hok p _ hk
          exact ⟨o, e, ex⟩
        · obtain ⟨_, _, _, _, o, _, _, e, ex, _⟩ := I.hok p _ hk
          exact ⟨o, e, ex⟩
      obtain ⟨o, e, ex⟩ := z
      refine ⟨⟨o, e, ex.1⟩, fun a e2 => ?_⟩
      cases e2
      exact ⟨o, e, ex.2.1⟩
    · obtain ⟨o, _, _, _, e, ex, _⟩ := I.hok p _ hk
      refine ⟨⟨o, e, ex.1⟩, fun a e2 => ?_⟩
      cases e2
      exact ⟨o, e, ex.2.1⟩
  | _ => exact False.elim ty
def tBM (K : PySem.W.Frag) (T : String) (r : V -> List V -> Hp -> VK -> Prop) (to : TE) (t : TA) : TE := fun σ H Q => to σ H fun x H1 => tyV K T x H1 /\ t σ H1 fun xs H2 => r x xs H2 Q
variable {o e : Expr} {es : List Expr} {to : TE} {t : TA} {name : Str} {apos cpos : Pos} {T id : String} {r : V -> List V -> Hp -> VK -> Prop}
theorem pe_bm (pa : PlainAttrs T) (slot : Slot T name id) (hty : typeOf (.builtin id) = pure (.type "method_descriptor")) (hm : MtR X id r) (ho : PE X o to) (ha : PA X (e :: es) t)
    (hbase : attributeBase o name X.env (eval o X.env) = eval o X.env := by rfl)
    (hfew : ((backTo cpos (starEach (e :: es) X.env)).all (fun x => !x.1) && (backToKw cpos (keywordEach [] X.env)).all (fun x => x.1.isSome)
      && decide ((e :: es).length + ([] : List Keyword).length + (if ([] : List Keyword).isEmpty then 0 else 1) < 30)) = true := by rfl)
    (hline : (apos.endLine == cpos.line) = true := by rfl) (hs : starEach (e :: es) X.env = (false, eval e X.env) :: starEach es X.env := by rfl) (hplain : (backTo cpos (starEach es X.env)).any (·.1) = false := by rfl) :
    PE X (.Call (.Attribute o name apos) (e :: es) [] cpos) (tBM X.K T r to t) := by
  intro pins s σ H Q I h
  refine wpAny_Call_method_late hbase hfew hline rfl (thn (ho pins s σ H _ I h) fun v s1 ⟨x, H1, I1, r1, ty, q1⟩ => ?_)
  obtain ⟨h1, h2⟩ := tyV_is I1 r1 ty
  refine ⟨T, id, pa, slot, hty, h1, h2, ?_⟩
  have hA := ha cpos pins s1 σ H1 _ I1 q1
  rw [hs] at hA ⊢
  refine Calls.callWith_builtin (by show (false || (backTo cpos (starEach es X.env)).any (·.1)) = false; rw [hplain] <;> rfl) (Calls.evalArgs_plain ?_)
  exact thn hA fun us s2 ⟨vs, H2, I2, r2, q2⟩ => hm pins s2 σ H2 x vs v us Q I2 r1 r2 q2
/- xs.append(e), list.index on a module's tuple .. are MtR facts of 06m -/
end
end L2
namespace L2
open PySem PySem.Spec PyProof.Rows
def MtM (X : Cx) (id : String) (r : V -> List V -> Hp -> VK -> Prop) : Prop :=
  ∀ (pins : List (Addr × Obj)) (s : Shared) (σ : St) (H : Hp) (x : V) (xs : List V) (v : Value) (us : List Value) (Q : VK), Inv X pins σ H s -> RelV x v -> Vals xs us -> r x xs H Q ->
    wpAny (model X.prog X.w) X.A (call (.builtin id) (v :: us)) (EP X pins σ Q) X.xe s
theorem Vals.one : ∀ {x : V} {us : List Value}, Vals [x] us -> ∃ u, us = [u] /\ RelV x u
  | _, _, .cons r .nil => ⟨_, rfl, r⟩
theorem Vals.eraseIdx : ∀ {xs : List V} {us : List Value} (i : Nat), Vals xs us -> Vals (xs.eraseIdx i) (us.eraseIdx i)
  | _, _, _, .nil => .nil
  | _, _, 0, .cons _ t => t
  | _, _, i + 1, .cons r t => .cons r (Vals.eraseIdx i t)
theorem Vals.rep {xs : List V} {us : List Value} (h : Vals xs us) : ∀ k : Nat, Vals (List.replicate k xs).flatten (List.replicate k us).flatten
  | 0 => .nil
  | k + 1 => by
    rw [List.replicate_succ, List.replicate_succ, List.flatten_cons, List.flatten_cons]
    exact Vals.append h (Vals.rep h k)
theorem len_erase {α : Type} : ∀ (l : List α) (i : Nat), (l.eraseIdx i).length <= l.length
  | [], _ => Nat.le_refl _
  | _ :: _, 0 => Nat.le_succ _
  | _ :: r, i + 1 => Nat.succ_le_succ (len_erase r i)
theorem foldl_rep (its : List Value) : ∀ (k : Nat) (acc : List Value),
    List.foldl (fun x1 x2 => x1 ++ x2) acc.toArray (List.replicate k its.toArray) = (acc ++ (List.replicate k its).flatten).toArray
  | 0, acc => by simp
  | k + 1, acc => by
    have e : acc.toArray ++ its.toArray = (acc ++ its).toArray := by simp
    have e2 : (acc ++ its) ++ (List.replicate k its).flatten = acc ++ (List.replicate (k + 1) its).flatten := by
      rw [List.replicate_succ, List.flatten_cons, List.append_assoc]
    rw [← e2, ← foldl_rep its k (acc ++ its), ← e, List.replicate_succ, List.foldl_cons]
section
variable {X : Cx} {pins : List (Addr × Obj)} {σ : St} {H : Hp} {s : Shared} {l b : Addr} {xs ys zs : List V}
theorem Inv.lset {its its' : List Value} {n : Nat} {f : Array Value -> Array Value} {t' : Nat} (I : Inv X pins σ H s) (hH : H l = some (.lst xs))
    (e : s.heap.get? l = some { cls := .type "list", data := .seq its.toArray n }) (hf : f its.toArray = its'.toArray) (hv : Vals ys its') (hz : ys.length <= sizeLine) :
    Inv X pins σ (upd H l (.lst ys)) { s with heap := s.heap.update l (Obj.mapSeq f), toks := t' } := by
  have q := PySem.IsL.update e f
  rw [hf] at q
  refine I.write (x := l) (e := l) (by rw [hH]; exact trivial) (.inl rfl) (fun b' u hb hu => (Heap.get?_update_other s.heap (Obj.mapSeq f) (Ne.symm hb)).trans hu) ⟨_, q⟩ ?_
  exact ⟨hz, its', _, hv, q⟩
theorem Inv.lnew {its : List Value} {t' : Nat} (I : Inv X pins σ H s) (hv : Vals ys its) (hz : ys.length <= sizeLine) :
    Inv X pins σ (upd H s.heap.objs.size (.lst ys)) { s with heap := s.heap.push { cls := .type "list", data := .seq its.toArray }, toks := t' } :=
  I.laid (fun _ _ q => Heap.get?_push_of_some _ q) (Nat.le_refl _) ⟨hz, its, 0, hv, Heap.get?_push_size _ rfl⟩
theorem Inv.fresh (I : Inv X pins σ H s) : H s.heap.objs.size = none := I.hok.fresh (Nat.le_refl _)
theorem Inv.lstM (I : Inv X pins σ H s) (hH : H l = some (.lst xs)) : xs.length <= sizeLine /\ ∃ (its : List Value) (n : Nat), Vals xs its /\ xs.length = its.length /\ s.heap.get? l = some { cls := .type "list", data := .seq its.toArray n } := by
  obtain ⟨z, its, n, r, e⟩ := I.hok l _ hH
  exact ⟨z, its, n, r, r.length, e⟩
theorem notLongL {n : Nat} (h : n <= sizeLine) : Builtin.List.listTooLong n = false := by
  unfold Builtin.List.listTooLong
  exact decide_eq_false (by omega)
end
section
variable {X : Cx}
def rAppend : V -> List V -> Hp -> VK -> Prop := fun x vs H Q => ∃ l xs y, x = .ref l /\ vs = [y] /\ H l = some (.lst xs) /\ xs.length < sizeLine /\ Q .non (upd H l (.lst (xs ++ [y])))
theorem mt_append : MtM X "list.append" rAppend := by
  intro pins s σ H x vs v us Q I rx rv h
  obtain ⟨l, xs, y, rfl, rfl, hH, hz, q⟩ := h
  cases rx
  obtain ⟨u, rfl, ru⟩ := rv.one
  obtain ⟨z, its, n, r, hl, e⟩ := I.lstM hH
  refine call_meets F.slot_list_append ⟨_, e, rfl⟩ F.entry_list_append (F.args_list_append_2 _ _) (PySem.list_append l its.toArray n u (by rw [List.size_toArray]; omega)) ⟨e, ?_⟩
  refine ⟨.non, _, I.lset (its' := its ++ [u]) hH e (by simp) (r.append (.cons ru .nil)) ?_, rfl, q⟩
  rw [List.length_append, List.length_singleton]
  omega
def rExtend : V -> List V -> Hp -> VK -> Prop := fun x vs H Q => ∃ l b xs zs, x = .ref l /\ vs = [.ref b] /\ H l = some (.lst xs) /\ H b = some (.lst zs) /\ xs.length + zs.length <= sizeLine /\ Q .non (upd H l (.lst (xs ++ zs)))
theorem mt_extend : MtM X "list.extend" rExtend := by
  intro pins s σ H x vs v us Q I rx rv h
  obtain ⟨l, b, xs, zs, rfl, rfl, hH, hB, hz, q⟩ := h
  cases rx
  obtain ⟨u, rfl, ru⟩ := rv.one
  cases ru
  obtain ⟨z, its, n, r, hl, e⟩ := I.lstM hH
  obtain ⟨z2, its2, n2, r2, hl2, e2⟩ := I.lstM hB
  have hsz : its.toArray.size + its2.toArray.size <= sizeLine := by rw [List.size_toArray, List.size_toArray]; omega
  have hlong : ¬ (!its.toArray.isEmpty && Builtin.List.listTooLong (its.toArray.size + its2.toArray.size)) = true := by
    rw [notLongL hsz, Bool.and_false]
    exact Bool.false_ne_true
  refine call_meets F.slot_list_extend ⟨_, e, rfl⟩ F.entry_list_extend (F.args_list_extend_2 _ _)
    (AutoSeq1.list_extend_list_list_0 l its.toArray n b its2.toArray n2 hlong (by rw [List.size_toArray]; omega) (by omega)) ⟨e, e2, ?_⟩
  refine ⟨.non, _, I.lset (its' := its ++ its2) hH e (by simp) (r.append r2) ?_, rfl, q⟩
  rw [List.length_append]
  omega
def rPopAt : V -> List V -> Hp -> VK -> Prop := fun x vs H Q => ∃ l xs i k y, x = .ref l /\ vs = [.int i] /\ H l = some (.lst xs) /\ -(2 ^ 63) <= i /\ i < 2 ^ 63 /\ seqIndex? i xs.length = some k /\ xs[k]? = some y /\ Q y (upd H l (.lst (xs.eraseIdx k)))
theorem mt_popAt : MtM X "list.pop" rPopAt := by
  intro pins s σ H x vs v us Q I rx rv h
  obtain ⟨l, xs, i, k, y, rfl, rfl, hH, h1, h2, hk, hy, q⟩ := h
  cases rx
  obtain ⟨u, rfl, ru⟩ := rv.one
  obtain ⟨t, rfl⟩ := ru
  obtain ⟨z, its, n, r, hl, e⟩ := I.lstM hH
  obtain ⟨w, hw, rw'⟩ := r.get hy
  refine call_meets F.slot_list_pop ⟨_, e, rfl⟩ F.entry_list_pop (F.args_list_pop_2 _ _)
    (MeetsSeq.list_pop_at l its.toArray n i t k w (fitsIndex_both h1 h2) (by rw [List.size_toArray, ← hl]; exact hk) (by rw [← Array.getElem?_toList]; exact hw) (by rw [List.size_toArray]; omega)) ⟨e, ?_⟩
  refine ⟨y, _, I.lset (its' := its.eraseIdx k) hH e ?_ (r.eraseIdx k) ?_, rw', q⟩
  · show its.toArray.eraseIdxIfInBounds k = (its.eraseIdx k).toArray
    rw [List.eraseIdxIfInBounds_toArray]
  · have := len_erase xs k
    omega
def rCat : R2 := fun x y H Q => ∃ l b xs zs, x = .ref l /\ y = .ref b /\ H l = some (.lst xs) /\ H b = some (.lst zs) /\ xs.length + zs.length <= sizeLine /\ ∀ p, H p = none -> Q (.ref p) (upd H p (.lst (xs ++ zs)))
theorem op_cat : OpR X (binaryOp .Add) rCat := by
  intro pins s σ H x y v u Q I rx ry h
  obtain ⟨l, b, xs, zs, rfl, rfl, hH, hB, hz, q⟩ := h
  cases rx
  cases ry
  obtain ⟨z, its, n, r, hl, e⟩ := I.lstM hH
  obtain ⟨z2, its2, n2, r2, hl2, e2⟩ := I.lstM hB
  refine PySem.P.add_list e e2 ?_ (by rw [List.size_toArray, List.size_toArray]; omega)
  have ea : its.toArray ++ its2.toArray = (its ++ its2).toArray := by simp
  rw [ea]
  exact ⟨.ref _, _, I.lnew (t' := s.toks) (r.append r2) (by rw [List.length_append]; omega), rfl, q _ I.fresh⟩
def rRep : R2 := fun x y H Q => ∃ l k xs, x = .ref l /\ y = .int k /\ H l = some (.lst xs) /\ -(2 ^ 63) <= k /\ k < 2 ^ 63 /\ xs.length * k.toNat <= sizeLine /\
  ∀ p, H p = none -> Q (.ref p) (upd H p (.lst (List.replicate k.toNat xs).flatten))
theorem len_rep {α : Type} (xs : List α) (k : Nat) : (List.replicate k xs).flatten.length = k * xs.length := by
  induction k with
  | zero => simp
  | succ k ih => rw [List.replicate_succ, List.flatten_cons, List.length_append, ih, Nat.succ_mul, Nat.add_comm]
theorem op_rep : OpR X (binaryOp .Mult) rRep := by
  intro pins s σ H x y v u Q I rx ry h
  obtain ⟨l, k, xs, rfl, rfl, hH, h1, h2, hz, q⟩ := h
  cases rx
  obtain ⟨t, rfl⟩ := ry
  obtain ⟨z, its, n, r, hl, e⟩ := I.lstM hH
  have hlen : its.toArray.size * k.toNat <= sizeLine := by rw [List.size_toArray, ← hl]; exact hz
  have hcap : ¬ its.toArray.size * k.toNat > (2 ^ 63 - 1) / 8 := by
    have : (sizeLine : Nat) <= (2 ^ 63 - 1) / 8 := by decide
    omega
  have hfit : ¬ (!Builtin.List.listFitsIndex k) = true := by
    rw [fitsIndex_both h1 h2]
    exact Bool.false_ne_true
  have hlong : ¬ Builtin.List.listTooLong (its.toArray.size * k.toNat) = true := by
    rw [notLongL hlen]
    exact Bool.false_ne_true
  have hnew : List.foldl (fun x1 x2 => x1 ++ x2) #[] (List.replicate (if its.toArray.isEmpty = true then 0 else k.toNat) its.toArray) = (List.replicate k.toNat its).flatten.toArray := by
    have f0 : ∀ m : Nat, List.foldl (fun x1 x2 => x1 ++ x2) #[] (List.replicate m its.toArray) = (List.replicate m its).flatten.toArray := fun m => by
      have := foldl_rep its m []
      rw [List.nil_append] at this
      exact this
    rw [f0]
    cases its with
    | nil => simp
    | cons a r' => rw [if_neg (by simp)]
  refine wpAny_binaryOp_repeat_ref (T := "list") (U := "int") (by decide) ⟨_, e, rfl⟩ (fun s' => typeIs_int s' k t) noFill_list_mul F.fills_int_mul F.slot_int_rmul repeat_list F.slot_int_index.lookup
    (call_meets F.slot_int_rmul (typeIs_int s k t) F.entry_int_rmul (F.args_int_rmul_2 _ _) (int___rmul___int_list k t l its.toArray n)
      ⟨e, rfl, ⟨_, e, rfl⟩, call_meets F.slot_list_mul ⟨_, e, rfl⟩ F.entry_list_mul (F.args_list_mul_2 _ _) (AutoListH.list___mul___list_int_3 l its.toArray n k t hfit hcap hlong) ⟨e, ?_⟩⟩)
  rw [hnew]
  exact ⟨.ref _, _, I.lnew (t' := s.toks) (r.rep k.toNat) (by rw [len_rep, Nat.mul_comm]; exact hz), rfl, q _ I.fresh⟩
end
section
variable {prog : Program} {w : World} {A : Around} {E : Value -> Shared -> Prop} {s : Shared}
set_option maxRecDepth 100000 in
end
section
variable {X : Cx}
end
end L2
namespace L2
open PySem PySem.Spec PyProof.Rows
section
variable {κ : Type} [DecidableEq κ]
def valV (kvs : List (κ × V)) (k : κ) : Option V := (kvs.find? fun kv => decide (kv.1 = k)).map (·.2)
def putK (kvs : List (κ × V)) (k : κ) (v : V) : List (κ × V) :=
  if (kvs.any fun kv => decide (kv.1 = k)) = true then kvs.map (fun kv => if kv.1 = k then (kv.1, v) else kv) else kvs ++ [(k, v)]
theorem Zq98 {p : κ × V} {r : List (κ × V)} {k : κ} (e : p.1 = k) : valV (p :: r) k = some p.2 := by simp [valV, List.find?_cons, e]
theorem Zq99 {p : κ × V} {r : List (κ × V)} {k : κ} (e : ¬ p.1 = k) : valV (p :: r) k = valV r k := by simp [valV, List.find?_cons, e]
theorem valV_any (k : κ) : ∀ kvs : List (κ × V), (kvs.any fun kv => decide (kv.1 = k)) = (valV kvs k).isSome
  | [] => rfl
  | p :: r => by
    rw [List.any_cons]
    by_cases e : p.1 = k
    · simp only [Zq98 e, decide_eq_true e, Bool.true_or, Option.isSome_some]
    · rw [Zq99 e, decide_eq_false e, Bool.false_or]; exact valV_any k r
theorem valV_map (k j : κ) (y : V) : ∀ kvs : List (κ × V), valV (kvs.map fun kv => if kv.1 = k then (kv.1, y) else kv) j = (valV kvs j).map fun x => if j = k then y else x
  | [] => rfl
  | p :: r => by
    have ih := valV_map k j y r
    rw [List.map_cons]
    by_cases h : p.1 = k
    · rw [if_pos h]
      by_cases e : p.1 = j
      · rw [Zq98 (p := (p.1, y)) e, Zq98 e, Option.map_some, if_pos (e.symm.trans h)]
      · rw [Zq99 (p := (p.1, y)) e, Zq99 e, ih]
    · rw [if_neg h]
      by_cases e : p.1 = j
      · rw [Zq98 (p := p) e, Zq98 e, Option.map_some, if_neg (fun z => h (e.trans z))]
      · rw [Zq99 (p := p) e, Zq99 e, ih]
theorem valV_snoc (k j : κ) (y : V) : ∀ kvs : List (κ × V), valV kvs k = none -> valV (kvs ++ [(k, y)]) j = if j = k then some y else valV kvs j
  | [], _ => by
    by_cases e : k = j
    · rw [if_pos e.symm]; exact Zq98 (p := (k, y)) e
    · rw [if_neg (fun z => e z.symm)]; exact Zq99 (p := (k, y)) e
  | p :: r, hn => by
    rw [List.cons_append]
    have hk : ¬ p.1 = k := fun z => by rw [Zq98 z] at hn; cases hn
    rw [Zq99 hk] at hn
    have ih := valV_snoc k j y r hn
    by_cases e : p.1 = j
    · rw [Zq98 e, Zq98 e, if_neg (fun z => hk (e.trans z))]
    · rw [Zq99 e, Zq99 e, ih]
theorem Zq112 (kvs : List (κ × V)) (k j : κ) (y : V) : valV (putK kvs k y) j = if j = k then some y else valV kvs j := by
  unfold putK
  by_cases a : (kvs.any fun kv => decide (kv.1 = k)) = true
  · rw [if_pos a, valV_map]
    rw [valV_any] at a
    by_cases e : j = k
    · obtain ⟨x, hx⟩ := Option.isSome_iff_exists.mp a
      rw [if_pos e, e, hx, Option.map_some, if_pos rfl]
    · rw [if_neg e]
      cases valV kvs j with
      | none => rfl
      | some x => rw [Option.map_some, if_neg e]
  · rw [if_neg a]
    refine valV_snoc k j y kvs ?_
    rw [valV_any] at a
    cases q : valV kvs k with
    | none => rfl
    | some x => rw [q] at a; exact (a rfl).elim
theorem Zq72 (kvs : List (κ × V)) (k : κ) (v : V) : (putK kvs k v).length <= kvs.length + 1 := by
  unfold putK
  split
  · rw [List.length_map]; omega
  · rw [List.length_append, List.length_cons, List.length_nil]; omega
theorem RelO.isSome_eq {o : Option V} {u : Option Value} (r : RelO o u) : o.isSome = u.isSome := by
  cases o with
  | none => cases u with
    | none => rfl
    | some _ => exact (show False from r).elim
  | some _ => cases u with
    | none => exact (show False from r).elim
    | some _ => rfl
theorem RelO.getD {o : Option V} {u : Option Value} {d : V} {d' : Value} (r : RelO o u) (rd : RelV d d') : RelV (o.getD d) (u.getD d') := by
  cases o with
  | none => cases u with
    | none => exact rd
    | some _ => exact (show False from r).elim
  | some _ => cases u with
    | none => exact (show False from r).elim
    | some _ => exact r
theorem KV.val {kvs : List (κ × V)} {vs : List (κ × Value)} (r : KV kvs vs) (k : κ) : RelO (valV kvs k) (valueAt vs k) := by
  unfold KV at r
  induction r with
  | nil => exact True.intro
  | @cons p q ps qs h t ih =>
    obtain ⟨h1, h2⟩ := h
    by_cases e : p.1 = k
    · have e' : q.1 = k := h1.symm.trans e
      have b : valueAt (q :: qs) k = some q.2 := by simp [valueAt, List.find?_cons, e']
      rw [Zq98 e, b]; exact h2
    · have e' : ¬ q.1 = k := fun z => e (h1.trans z)
      have b : valueAt (q :: qs) k = valueAt qs k := by simp [valueAt, List.find?_cons, e']
      rw [Zq99 e, b]; exact ih
theorem KV.any {kvs : List (κ × V)} {vs : List (κ × Value)} (r : KV kvs vs) (k : κ) : (kvs.any fun kv => decide (kv.1 = k)) = vs.any fun kv => decide (kv.1 = k) := by
  unfold KV at r
  induction r with
  | nil => rfl
  | cons h t ih => rw [List.any_cons, List.any_cons, ih, h.1]
theorem KV.repl {kvs : List (κ × V)} {vs : List (κ × Value)} (r : KV kvs vs) (k : κ) {y : V} {u : Value} (ry : RelV y u) :
    KV (kvs.map fun kv => if kv.1 = k then (kv.1, y) else kv) (vs.map fun kv => if kv.1 = k then (kv.1, u) else kv) := by
  unfold KV at r ⊢
  induction r with
  | nil => exact .nil
  | @cons p q ps qs h t ih =>
    rw [List.map_cons, List.map_cons]
    refine .cons ?_ ih
    obtain ⟨h1, h2⟩ := h
    by_cases e : p.1 = k
    · rw [if_pos e, if_pos (h1.symm.trans e)]; exact ⟨h1, ry⟩
    · rw [if_neg e, if_neg (fun z => e (h1.trans z))]; exact ⟨h1, h2⟩
theorem KV.put {kvs : List (κ × V)} {vs : List (κ × Value)} (r : KV kvs vs) (k : κ) {y : V} {u : Value} (ry : RelV y u) : KV (putK kvs k y) (stored vs k u) := by
  unfold putK stored
  rw [r.any k]
  by_cases e : (vs.any fun kv => decide (kv.1 = k)) = true
  · rw [if_pos e, if_pos e]; exact r.repl k ry
  · rw [if_neg e, if_neg e]; exact Paired.snoc r ⟨rfl, ry⟩
theorem KV.length {kvs : List (κ × V)} {vs : List (κ × Value)} (r : KV kvs vs) : kvs.length = vs.length := Paired.length r
end
theorem Zq211 {P : Program} {w : World} {k : Key} {u : Value} (r : RelV (kV k) u) : (Zq55 P w).is k u = true := by
  cases k with
  | inl i => obtain ⟨t, e⟩ := (show ∃ t, u = Value.int i t from r); subst e; exact mixKind_int P w i t
  | inr x => obtain ⟨t, e⟩ := (show ∃ t, u = Value.str x t from r); subst e; exact mixKind_str P w x t
theorem items_are {P : Program} {w : World} : ∀ {ks : List Key} {us : List Value}, Vals (ks.map kV) us -> ItemsAre (Zq55 P w) ks us
  | [], _, r => by rw [List.map_nil] at r; cases r; exact .nil
  | k :: ks, _, r => by
    rw [List.map_cons] at r
    cases r with
    | cons h t => exact .cons (Zq211 h) (items_are t)
abbrev KT (H : Hp) : List (List Key × V) -> List (List Key × Addr × Value) -> Prop := Paired fun p q => p.1 = q.1 /\ H q.2.1 = some (.tup (p.1.map kV)) /\ RelV p.2 q.2.2
theorem KT.val {H : Hp} {kvs : List (List Key × V)} {xs : List (List Key × Addr × Value)} (r : KT H kvs xs) (k : List Key) : RelO (valV kvs k) ((atKey xs k).map (·.2)) := by
  induction r with
  | nil => exact True.intro
  | @cons p q ps qs h t ih =>
    obtain ⟨h1, _, h2⟩ := h
    by_cases e : p.1 = k
    · have e' : q.1 = k := h1.symm.trans e
      have b : atKey (q :: qs) k = some q.2 := by simp [atKey, List.find?_cons, e']
      rw [Zq98 e, b]; exact h2
    · have e' : ¬ q.1 = k := fun z => e (h1.trans z)
      have b : atKey (q :: qs) k = atKey qs k := by simp [atKey, List.find?_cons, e']
      rw [Zq99 e, b]; exact ih
theorem KT.repl {H : Hp} {kvs : List (List Key × V)} {xs : List (List Key × Addr × Value)} (r : KT H kvs xs) (k : List Key) {y : V} {u : Value} (ry : RelV y u) :
    KT H (kvs.map fun kv => if kv.1 = k then (kv.1, y) else kv) (xs.map (putAt k u)) := by
  induction r with
  | nil => exact .nil
  | @cons p q ps qs h t ih =>
    rw [List.map_cons, List.map_cons]
    refine .cons ?_ ih
    obtain ⟨h1, h2, h3⟩ := h
    unfold putAt
    by_cases e : p.1 = k
    · rw [if_pos e, if_pos (h1.symm.trans e)]; exact ⟨h1, h2, ry⟩
    · rw [if_neg e, if_neg (fun z => e (h1.trans z))]; exact ⟨h1, h2, h3⟩
theorem KT.put {H : Hp} {kvs : List (List Key × V)} {xs : List (List Key × Addr × Value)} (r : KT H kvs xs) (k : List Key) {b : Addr} {y : V} {u : Value} (hb : H b = some (.tup (k.map kV))) (ry : RelV y u) :
    KT H (putK kvs k y) (storedH xs k b u) := by
  have e : (kvs.any fun kv => decide (kv.1 = k)) = (atKey xs k).isSome := by
    rw [valV_any, (r.val k).isSome_eq, Option.isSome_map]
  unfold putK storedH
  rw [e]
  by_cases q : (atKey xs k).isSome = true
  · rw [if_pos q, if_pos q]; exact r.repl k ry
  · rw [if_neg q, if_neg q]; exact Paired.snoc r ⟨rfl, hb, ry⟩
theorem KT.keeps {H H' : Hp} {kvs : List (List Key × V)} {xs : List (List Key × Addr × Value)} (r : KT H kvs xs) (ht : ∀ b ys, H b = some (.tup ys) -> H' b = some (.tup ys)) : KT H' kvs xs :=
  Paired.mapP r fun _ _ z => ⟨z.1, ht _ _ z.2.1, z.2.2⟩
section
variable {P : Program} {w : World} {H : Hp} {h : Heap} {a : Addr}
theorem rd_of {u : HO} (ok : HOk P w H h) (e : Rd H a u) : ObjOk P w H h a u := e.ok ok
theorem Zq212 {kvs : List (Key × V)} (ok : HOk P w H h) (e : Rd H a (.dK kvs)) : kvs.length <= sizeLine /\ (a == sysModules) = false /\ ∃ vs, KV kvs vs /\ h.DictOf (Zq55 P w) a vs :=
  show ObjOk P w H h a (.dK kvs) from rd_of ok e
theorem dk_of {kvs : List (Key × V)} (ok : HOk P w H h) (e : H a = some (.dK kvs)) : kvs.length <= sizeLine /\ (a == sysModules) = false /\ ∃ vs, KV kvs vs /\ h.DictOf (Zq55 P w) a vs := Zq212 ok (.inl e)
theorem Zq151 {ks : List Key} (ok : HOk P w H h) (e : H a = some (.tup (ks.map kV))) : (tupleKind (Zq55 P w)).is h ks a := by
  obtain ⟨_, its, r, o, h1, h2, n, h3⟩ := (show ObjOk P w H h a (.tup (ks.map kV)) from ok a _ e)
  exact ⟨o, its.toArray, n, h1, h2, h3, by simpa using items_are r⟩
theorem Zq213 {kvs : List (List Key × V)} (ok : HOk P w H h) (e : Rd H a (.dT kvs)) : kvs.length <= sizeLine /\ (a == sysModules) = false /\
    ∃ xs, KT H kvs xs /\ h.DictOfH (tupleKind (Zq55 P w)) a xs := by
  obtain ⟨z, y, xs, r, o, es, ep, h1, h2, h3, h4, h5⟩ := (show ObjOk P w H h a (.dT kvs) from rd_of ok e)
  refine ⟨z, y, xs, r, o, es, ep, h1, h2, h3, h4, fun x hx => ?_, h5⟩
  have all : ∀ {l : List (List Key × V)} {m : List (List Key × Addr × Value)}, KT H l m -> ∀ x ∈ m, (tupleKind (Zq55 P w)).is h x.1 x.2.1 := by
    intro l m q
    induction q with
    | nil => intro x hx; exact nomatch hx
    | @cons p q ps qs hq t ih =>
      intro x hx
      rcases List.mem_cons.mp hx with e | hx
      · subst e
        exact Zq151 ok (by rw [← hq.1]; exact hq.2.1)
      · exact ih x hx
  exact all r x hx
theorem dt_of {kvs : List (List Key × V)} (ok : HOk P w H h) (e : H a = some (.dT kvs)) : kvs.length <= sizeLine /\ (a == sysModules) = false /\
    ∃ xs, KT H kvs xs /\ h.DictOfH (tupleKind (Zq55 P w)) a xs := Zq213 ok (.inl e)
end
def DGet (H : Hp) (a : Addr) (y : V) (r : Option V) : Prop :=
  (∃ kvs k, Rd H a (.dK kvs) /\ y = kV k /\ r = valV kvs k) \/ ∃ kvs k b, Rd H a (.dT kvs) /\ y = .ref b /\ H b = some (.tup (k.map kV)) /\ r = valV kvs k
def DPut (H : Hp) (a : Addr) (y v : V) (H' : Hp) : Prop :=
  (∃ kvs k, H a = some (.dK kvs) /\ y = kV k /\ kvs.length < sizeLine /\ H' = upd H a (.dK (putK kvs k v))) \/
  ∃ kvs k b, H a = some (.dT kvs) /\ y = .ref b /\ H b = some (.tup (k.map kV)) /\ kvs.length < sizeLine /\ H' = upd H a (.dT (putK kvs k v))
theorem DGet.k {H : Hp} {a : Addr} {kvs : List (Key × V)} {k : Key} (e : H a = some (.dK kvs)) : DGet H a (kV k) (valV kvs k) := .inl ⟨kvs, k, .inl e, rfl, rfl⟩
theorem DGet.t {H : Hp} {a b : Addr} {kvs : List (List Key × V)} {k : List Key} (e : H a = some (.dT kvs)) (eb : H b = some (.tup (k.map kV))) : DGet H a (.ref b) (valV kvs k) := .inr ⟨kvs, k, b, .inl e, rfl, eb, rfl⟩
theorem DPut.k {H : Hp} {a : Addr} {kvs : List (Key × V)} {k : Key} {v : V} (e : H a = some (.dK kvs)) (hl : kvs.length < sizeLine) : DPut H a (kV k) v (upd H a (.dK (putK kvs k v))) := .inl ⟨kvs, k, e, rfl, hl, rfl⟩
theorem DPut.t {H : Hp} {a b : Addr} {kvs : List (List Key × V)} {k : List Key} {v : V} (e : H a = some (.dT kvs)) (eb : H b = some (.tup (k.map kV))) (hl : kvs.length < sizeLine) :
    DPut H a (.ref b) v (upd H a (.dT (putK kvs k v))) := .inr ⟨kvs, k, b, e, rfl, eb, hl, rfl⟩
section
variable {X : Cx} {pins : List (Addr × Obj)} {σ : St} {H : Hp} {s : Shared} {a : Addr} {y v : V} {u r : Value} {o : Option V} {A : Around} {E : Value -> Shared -> Prop}
theorem Inv.big (I : Inv X pins σ H s) : sysModules < s.heap.objs.size := by
  have h : mainGlobals < s.heap.objs.size := (I.mod.glob.keeps I.bk).lt
  exact Nat.lt_trans (by decide) h
theorem d_getItem {Q : Value -> Shared -> Prop} (hu : A.units + 1 < cLine) (I : Inv X pins σ H s) (g : DGet H a y (some v)) (ry : RelV y u) (h : ∀ w' s', Inv X pins σ H s' -> RelV v w' -> Q w' s') :
    wpAny (model X.prog X.w) A (getItem (.ref a) u) Q E s := by
  rcases g with ⟨kvs, k, e, ey, l⟩ | ⟨kvs, k, b, e, ey, eb, l⟩
  · subst ey
    obtain ⟨z, hd, vs, rel, dd⟩ := Zq212 I.hok e
    obtain ⟨w', hw, rw'⟩ := RelO.some_of (v := v) (o := valueAt vs k) (by rw [l]; exact rel.val k)
    exact wpAny_getItem_of (Zq211 ry) dd.mapOf hw (h w' _ (I.tok _) rw')
  · subst ey
    cases (show u = Value.ref b from ry)
    obtain ⟨z, hd, xs, rel, dd⟩ := Zq213 I.hok e
    obtain ⟨w', hw, rw'⟩ := RelO.some_of (v := v) (o := (atKey xs k).map (·.2)) (by rw [l]; exact rel.val k)
    obtain ⟨p, hp, hp2⟩ := Option.map_eq_some_iff.mp hw
    refine wpAny_getItem_heap (tupleKind_room_in1 hu) (Zq151 I.hok eb) dd hp ?_
    rw [hp2]
    exact h w' _ (I.tok _) rw'
theorem d_in {Q : Value -> Shared -> Prop} (hu : A.units + 1 < cLine) (I : Inv X pins σ H s) (g : DGet H a y o) (ry : RelV y u) (h : ∀ s', Inv X pins σ H s' -> Q (.bool o.isSome) s') :
    wpAny (model X.prog X.w) A (compareOp .In u (.ref a)) Q E s := by
  rcases g with ⟨kvs, k, e, ey, l⟩ | ⟨kvs, k, b, e, ey, eb, l⟩
  · subst ey
    obtain ⟨z, hd, vs, rel, dd⟩ := Zq212 I.hok e
    refine wpAny_in_of (Zq211 ry) hd dd.mapOf ?_
    rw [← (rel.val k).isSome_eq, ← l]
    exact h _ (I.tok _)
  · subst ey
    cases (show u = Value.ref b from ry)
    obtain ⟨z, hd, xs, rel, dd⟩ := Zq213 I.hok e
    refine wpAny_in_heap (tupleKind_room_in1 hu) (Zq151 I.hok eb) hd dd ?_
    have q := (rel.val k).isSome_eq
    rw [Option.isSome_map] at q
    rw [← q, ← l]
    exact h _ (I.tok _)
theorem d_notIn {Q : Value -> Shared -> Prop} (hu : A.units + 1 < cLine) (I : Inv X pins σ H s) (g : DGet H a y o) (ry : RelV y u) (h : ∀ s', Inv X pins σ H s' -> Q (.bool (!o.isSome)) s') :
    wpAny (model X.prog X.w) A (compareOp .NotIn u (.ref a)) Q E s := by
  rcases g with ⟨kvs, k, e, ey, l⟩ | ⟨kvs, k, b, e, ey, eb, l⟩
  · subst ey
    obtain ⟨z, hd, vs, rel, dd⟩ := Zq212 I.hok e
    refine wpAny_notIn_of (Zq211 ry) hd dd.mapOf ?_
    rw [← (rel.val k).isSome_eq, ← l]
    exact h _ (I.tok _)
  · subst ey
    cases (show u = Value.ref b from ry)
    obtain ⟨z, hd, xs, rel, dd⟩ := Zq213 I.hok e
    refine wpAny_notIn_heap (tupleKind_room_in1 hu) (Zq151 I.hok eb) hd dd ?_
    have q := (rel.val k).isSome_eq
    rw [Option.isSome_map] at q
    rw [← q, ← l]
    exact h _ (I.tok _)
theorem d_write {h' : Heap} {t' : Nat} {ob : HO} (I : Inv X pins σ H s) (mu : Mut (H a)) (hs : Heap.SameBut a s.heap h') (he : ∃ q, h'.get? a = some q) (new : ObjOk X.prog X.w (upd H a ob) h' a ob) :
    Inv X pins σ (upd H a ob) { s with heap := h', toks := t' } :=
  I.write (x := a) (e := a) mu (.inl rfl) (fun b q hb z => (hs.2 b hb).trans z) he new
theorem dk_new {P : Program} {w : World} {H' : Hp} {h' : Heap} {kvs : List (Key × V)} {vs : List (Key × Value)} (z : kvs.length <= sizeLine) (hd : (a == sysModules) = false) (rel : KV kvs vs) (dd : h'.DictOf (Zq55 P w) a vs) :
    ObjOk P w H' h' a (.dK kvs) := ⟨z, hd, vs, rel, dd⟩
theorem d_setItem {H' : Hp} {Q : Unit -> Shared -> Prop} (hu : A.units + 1 < cLine) (I : Inv X pins σ H s) (g : DPut H a y v H') (ry : RelV y u) (rv : RelV v r) (h : ∀ s', Inv X pins σ H' s' -> Q () s') :
    wpAny (model X.prog X.w) A (setItem (.ref a) u r) Q E s := by
  rcases g with ⟨kvs, k, e, ey, l, eH⟩ | ⟨kvs, k, b, e, ey, eb, l, eH⟩
  · subst ey eH
    obtain ⟨z, hd, vs, rel, dd⟩ := dk_of I.hok e
    have hz : vs.length <= sizeLine := by rw [← rel.length]; exact z
    have hl : (putK kvs k v).length <= sizeLine := by have := Zq72 kvs k v; omega
    refine wpAny_setItem_pairs (hsz := hz) (Zq211 ry) dd fun h' dd' hs => h _ ?_
    have he : ∃ q, h'.get? a = some q := let ⟨q, _, _, hq, _⟩ := dd'; ⟨q, hq⟩
    exact d_write I (by rw [e]; exact True.intro) hs he (dk_new hl hd (rel.put k rv) dd')
  · subst ey eH
    cases (show u = Value.ref b from ry)
    obtain ⟨z, hd, xs, rel, dd⟩ := dt_of I.hok e
    have hz : xs.length <= sizeLine := by rw [← Paired.length rel]; exact z
    have hl : (putK kvs k v).length <= sizeLine := by have := Zq72 kvs k v; omega
    refine wpAny_setItem_heap (hsz := hz) (tupleKind_room_in1 hu) (Zq151 I.hok eb) dd fun h' dd' hs => h _ ?_
    obtain ⟨q, es, ep, hq, h2, h3, h4, _, h5⟩ := dd'
    refine d_write I (by rw [e]; exact True.intro) hs ⟨q, hq⟩ ⟨hl, hd, _, (rel.put k eb rv).keeps fun c ys ec => ?_, q, es, ep, hq, h2, h3, h4, h5⟩
    rw [Zq7 (ne_of ec e (fun z => nomatch z))]
    exact ec
end
section
variable {X : Cx} {pins : List (Addr × Obj)} {σ : St} {H : Hp} {s : Shared} {a : Addr} {kvs : List (Key × V)} {k : Key} {u : Value} {A : Around} {E : Value -> Shared -> Prop}
end
def NoSl (i : Expr) : Prop := ∀ ov iv, subscripted i false ov iv = operate [ov, iv] (getItem ov iv)
theorem subD_of {prog : Program} {w : World} {A : Around} {E : Value -> Shared -> Prop} {s : Shared} {env : Env} {value slice : Expr} {pos : Pos} {T id : String} {Q : Value -> Shared -> Prop}
    (hl : typeLookup (.type T) "__getitem__" = pure (some (.builtin id))) (hs : NoSl slice)
    (h : wpAny (model prog w) A (eval value env) (fun o s₁ => wpAny (model prog w) A (eval slice env) (fun i s₂ => s₂.TypeIs o T /\ wpAny (model prog w) A (getItem o i) Q E s₂) E s₁) E s) :
    wpAny (model prog w) A (eval (.Subscript value slice pos) env) Q E s := by
  refine Subscript_ (wpAny_mono h (fun o s₁ h₁ => wpAny_mono h₁ (fun i s₂ h₂ => ?_) fun _ _ x => x) fun _ _ x => x)
  obtain ⟨hT, h₂⟩ := h₂
  unfold subscriptTail
  refine wpAny_bind ?_
  rw [getitemInPython_of_ne hT.not_modules]
  refine wpAny_bind (wpAny_specialOf hT hl ?_)
  have fin : wpAny (model prog w) A (subscripted slice false o i) (fun r s₃ => wpAny (model prog w) A (letTemporaryGo value o r >>= fun _ => pure r) Q E s₃) E s₂ := by
    rw [hs o i]
    exact wpAny_operating (wpAny_mono h₂ (fun r s₃ h₃ => wpAny_bind (wpAny_letTemporaryGo (wpAny_pure h₃))) fun _ _ x => x)
  first
    | exact wpAny_pure (wpAny_bind fin)
    | exact wpAny_bind (wpAny_pure (wpAny_bind fin))
    | exact wpAny_bind fin
theorem dict_typeIs {X : Cx} {pins : List (Addr × Obj)} {σ : St} {H : Hp} {s : Shared} {a : Addr} {y : V} {o : Option V} (I : Inv X pins σ H s) (g : DGet H a y o) : s.TypeIs (.ref a) "dict" := by
  rcases g with ⟨kvs, k, e, _, _⟩ | ⟨kvs, k, b, e, _, _, _⟩
  · obtain ⟨_, _, vs, _, dd⟩ := Zq212 I.hok e
    exact dd.typeIs
  · obtain ⟨_, _, xs, _, dd⟩ := Zq213 I.hok e
    exact dd.typeIs
def tDGet (td ty : TE) : TE := fun σ H Q => td σ H fun x H1 => ty σ H1 fun y H2 => ∃ a v, x = .ref a /\ DGet H2 a y (some v) /\ Q v H2
def sDPut (td ty tv : TE) : TS := fun D σ H => tv σ H fun v H1 => td σ H1 fun x H2 => ty σ H2 fun y H3 => ∃ a H4, x = .ref a /\ DPut H3 a y v H4 /\ D.nx σ H4
section
variable {X : Cx} {o i e value : Expr} {pos pos' tpos : Pos} {td ty tv : TE}
theorem pe_dget (hu : X.A.units + 1 < cLine) (ho : PE X o td) (hi : PE X i ty) (hs : NoSl i) : PE X (.Subscript o i pos) (tDGet td ty) := by
  intro pins s σ H Q I h
  refine subD_of PySem.F.slot_dict_getitem.lookup hs (thn (ho pins s σ H _ I h) fun u s1 ⟨x, H1, I1, rx, q1⟩ => thn (hi pins s1 σ H1 _ I1 q1) fun iv s2 ⟨y, H2, I2, ry, a, v, ex, g, q2⟩ => ?_)
  subst ex
  obtain rfl : u = Value.ref a := rx
  exact ⟨dict_typeIs I2 g, d_getItem hu I2 g ry fun w' s3 I3 rw' => ⟨v, H2, I3, rw', q2⟩⟩
theorem ps_dput (hu : X.A.units + 1 < cLine) (ho : PE X o td) (hi : PE X i ty) (hv : PE X value tv) (hs : swapsWith value (some (.Subscript o i pos')) pos.line X.env = pure false) :
    PS X (.Assign [.Subscript o i pos'] value pos) (sDPut td ty tv) := by
  intro pins s σ H D I h
  refine wpAny_Assign_Subscript (thn (hv pins s σ H _ I h) fun r s1 ⟨v, H1, I1, rv, q1⟩ => thn (ho pins s1 σ H1 _ I1 q1) fun u s2 ⟨x, H2, I2, rx, q2⟩ => thn (hi pins s2 σ H2 _ I2 q2) fun iv s3 ⟨y, H3, I3, ry, a, H4, ex, g, q3⟩ => ?_) hs
  subst ex
  obtain rfl : u = Value.ref a := rx
  exact d_setItem hu I3 g ry rv fun s4 I4 => ⟨σ, H4, I4, q3⟩
end
theorem dk_empty {P : Program} {w : World} {H : Hp} (h : Heap) (hb : sysModules < h.objs.size) : ObjOk P w H (h.push { cls := .type "dict", data := .dict #[] }) h.objs.size (.dK []) :=
  ⟨Nat.zero_le _, beq_eq_false_iff_ne.mpr (Ne.symm (Nat.ne_of_lt hb)), [], .nil, Heap.DictOf.new h⟩
theorem dt_empty {P : Program} {w : World} {H : Hp} (h : Heap) (hb : sysModules < h.objs.size) : ObjOk P w H (h.push { cls := .type "dict", data := .dict #[] }) h.objs.size (.dT []) :=
  ⟨Nat.zero_le _, beq_eq_false_iff_ne.mpr (Ne.symm (Nat.ne_of_lt hb)), [], .nil, _, #[], 0, Heap.get?_push_size _ rfl, ⟨rfl, rfl, rfl⟩, rfl, rfl, List.nodup_nil⟩
def tDNewK : TE := fun _ H Q => ∀ p, H p = none -> Q (.ref p) (upd H p (.dK []))
def tDNewT : TE := fun _ H Q => ∀ p, H p = none -> Q (.ref p) (upd H p (.dT []))
section
variable {X : Cx} {pos : Pos}
theorem pe_dnewK : PE X (.Dict [] [] pos) tDNewK := fun pins s σ H Q I h =>
  wpAny_Dict_empty ⟨.ref s.heap.objs.size, _, I.laid (a := s.heap.objs.size) (o := .dK []) (t' := s.toks) (fun _ _ q => Heap.get?_push_of_some _ q) (Nat.le_refl _) (dk_empty s.heap I.big), rfl, h _ (I.hok.fresh (Nat.le_refl _))⟩
theorem pe_dnewT : PE X (.Dict [] [] pos) tDNewT := fun pins s σ H Q I h =>
  wpAny_Dict_empty ⟨.ref s.heap.objs.size, _, I.laid (a := s.heap.objs.size) (o := .dT []) (t' := s.toks) (fun _ _ q => Heap.get?_push_of_some _ q) (Nat.le_refl _) (dt_empty s.heap I.big), rfl, h _ (I.hok.fresh (Nat.le_refl _))⟩
end
def tPairs : List (TE × TE) -> St -> Hp -> (List (V × V) -> Hp -> Prop) -> Prop
  | [], _, H, Q => Q [] H
  | (tk, tv) :: r, σ, H, Q => tk σ H fun x H1 => tv σ H1 fun y H2 => tPairs r σ H2 fun ps H3 => Q ((x, y) :: ps) H3
abbrev VV : List (V × V) -> List (Value × Value) -> Prop := Paired fun p q => RelV p.1 q.1 /\ RelV p.2 q.2
def PPs (X : Cx) (pos : Pos) (keys : List (Option Expr)) (values : List Expr) (trs : List (TE × TE)) : Prop :=
  ∀ (pins : List (Addr × Obj)) (s : Shared) (σ : St) (H : Hp) (Q : List (V × V) -> Hp -> Prop), Inv X pins σ H s -> tPairs trs σ H Q ->
    wpAny (model X.prog X.w) X.A (evalPairs (pairTrees keys values X.env pos)) (fun vs s' => ∃ ps H', Inv X pins σ H' s' /\ VV ps vs /\ Q ps H') X.xe s
theorem pps_nil {X : Cx} {pos : Pos} : PPs X pos [] [] [] := fun pins s σ H Q I h => pairTrees_nil_walk ⟨[], H, I, .nil, h⟩
theorem pps_cons {X : Cx} {pos : Pos} {k v : Expr} {ks : List (Option Expr)} {vs : List Expr} {tk tv : TE} {trs : List (TE × TE)} (hk : PE X k tk) (hv : PE X v tv) (hr : PPs X pos ks vs trs) :
    PPs X pos (some k :: ks) (v :: vs) ((tk, tv) :: trs) := fun pins s σ H Q I h =>
  pairTrees_cons_walk (thn (hk pins s σ H _ I h) fun u s1 ⟨x, H1, I1, rx, q1⟩ => thn (hv pins s1 σ H1 _ I1 q1) fun w2 s2 ⟨y, H2, I2, ry, q2⟩ =>
    thn (hr pins s2 σ H2 _ I2 q2) fun ws s3 ⟨ps, H3, I3, rel, q3⟩ => ⟨(x, y) :: ps, H3, I3, .cons ⟨rx, ry⟩ rel, q3⟩)
def Zq174 (kvs more : List (Key × V)) : List (Key × V) := more.foldl (fun acc kv => putK acc kv.1 kv.2) kvs
theorem KV.merge : ∀ {more : List (Key × V)} {rs : List (Key × Value)} {kvs : List (Key × V)} {vs : List (Key × Value)}, KV more rs -> KV kvs vs -> KV (Zq174 kvs more) (merged vs rs) := by
  intro more rs kvs vs r
  unfold KV at r
  induction r generalizing kvs vs with
  | nil => intro q; exact q
  | @cons p q ps qs h t ih =>
    intro r0
    have e : KV (putK kvs p.1 p.2) (stored vs q.1 q.2) := by
      have := r0.put p.1 h.2
      rw [← h.1]; exact this
    exact ih e
theorem length_mergeK : ∀ (more kvs : List (Key × V)), (Zq174 kvs more).length <= kvs.length + more.length
  | [], kvs => by show kvs.length <= kvs.length + 0; omega
  | p :: r, kvs => by
    have h1 := length_mergeK r (putK kvs p.1 p.2)
    have h2 := Zq72 kvs p.1 p.2
    show (Zq174 (putK kvs p.1 p.2) r).length <= _
    rw [List.length_cons]; omega
theorem carries_of {P : Program} {w : World} : ∀ {kvs : List (Key × V)} {ws : List (Value × Value)}, VV (kvs.map fun kv => (kV kv.1, kv.2)) ws -> ∃ rs, Carries (Zq55 P w) ws rs /\ KV kvs rs
  | [], _, r => by rw [List.map_nil] at r; cases r; exact ⟨[], True.intro, .nil⟩
  | p :: kvs, _, r => by
    rw [List.map_cons] at r
    cases r with
    | @cons a b as bs h t =>
      obtain ⟨rs, c, q⟩ := carries_of (P := P) (w := w) t
      obtain ⟨b1, b2⟩ := b
      exact ⟨(p.1, b2) :: rs, ⟨Zq211 h.1, rfl, c⟩, .cons ⟨rfl, h.2⟩ q⟩
def tDisp (trs : List (TE × TE)) : TE := fun σ H Q => ∀ p, H p = none -> tPairs trs σ (upd H p (.dK [])) fun ps H2 => H2 p = some (.dK []) /\ ∃ kvs : List (Key × V), ps = kvs.map (fun kv => (kV kv.1, kv.2)) /\ kvs.length <= 15 /\ Q (.ref p) (upd H2 p (.dK (Zq174 [] kvs)))
theorem pe_disp {X : Cx} {pos : Pos} {keys : List (Option Expr)} {values : List Expr} {trs : List (TE × TE)} (h : PPs X pos keys values trs) (hall : keys.all (·.isSome) = true) (hl : keys.length = values.length) (h0 : keys ≠ [])
    (h15 : keys.length <= 15) : PE X (.Dict keys values pos) (tDisp trs) := by
  intro pins s σ H Q I q
  have hn := I.hok.fresh (Nat.le_refl s.heap.objs.size)
  have I1 := I.laid (a := s.heap.objs.size) (o := .dK []) (h' := s.heap.push { cls := .type "dict", data := .dict #[] }) (t' := s.toks) (fun _ _ q => Heap.get?_push_of_some _ q) (Nat.le_refl _) (dk_empty s.heap I.big)
  refine wpAny_Dict_walk (knd := Zq55 X.prog X.w) hall hl h0 h15 (thn (h pins _ σ _ _ I1 (q _ hn)) fun ws s2 ⟨ps, H2, I2, rel, e, kvs, ep, lk, q2⟩ => ?_)
  subst ep
  obtain ⟨rs, c, rk⟩ := carries_of (P := X.prog) (w := X.w) rel
  obtain ⟨z, hd, vs0, r0, dd⟩ := dk_of I2.hok e
  cases r0
  refine ⟨rs, c, dd, fun h' dd' hs => ⟨.ref s.heap.objs.size, _, ?_, rfl, q2⟩⟩
  have hz : (Zq174 [] kvs).length <= sizeLine := by
    have h1 := length_mergeK kvs []
    rw [List.length_nil] at h1
    rw [sizeLine_eq]; omega
  have he : ∃ q, h'.get? s.heap.objs.size = some q := let ⟨q, _, _, hq, _⟩ := dd'; ⟨q, hq⟩
  exact d_write I2 (by rw [e]; exact True.intro) hs he (dk_new hz hd (rk.merge .nil) dd')
structure M1 (X : Cx) (o : Expr) (m : Str) (apos : Pos) (e : Expr) (cpos : Pos) : Prop where
  base : attributeBase o m X.env (eval o X.env) = eval o X.env
  few : ((backTo cpos (starEach [e] X.env)).all (fun x => !x.1) && (backToKw cpos (keywordEach [] X.env)).all (fun x => x.1.isSome)
    && decide (([e] : List Expr).length + ([] : List Keyword).length + (if ([] : List Keyword).isEmpty then 0 else 1) < 30)) = true
  line : (apos.endLine == cpos.line) = true
  trees : backTo cpos (starEach [e] X.env) = [(false, eval e X.env)]
structure M2 (X : Cx) (o : Expr) (m : Str) (apos : Pos) (e f : Expr) (cpos : Pos) : Prop where
  base : attributeBase o m X.env (eval o X.env) = eval o X.env
  few : ((backTo cpos (starEach [e, f] X.env)).all (fun x => !x.1) && (backToKw cpos (keywordEach [] X.env)).all (fun x => x.1.isSome)
    && decide (([e, f] : List Expr).length + ([] : List Keyword).length + (if ([] : List Keyword).isEmpty then 0 else 1) < 30)) = true
  line : (apos.endLine == cpos.line) = true
  trees : backTo cpos (starEach [e, f] X.env) = [(false, eval e X.env), (false, eval f X.env)]
def IsD (H : Hp) (a : Addr) : Prop := (∃ kvs, Rd H a (.dK kvs)) \/ ∃ kvs, Rd H a (.dT kvs)
theorem isD_at {X : Cx} {pins : List (Addr × Obj)} {σ : St} {H : Hp} {s : Shared} {a : Addr} (I : Inv X pins σ H s) (d : IsD H a) :
    s.TypeIs (.ref a) "dict" /\ (∀ b, Value.ref a = .ref b -> ∃ ob, s.heap.get? b = some ob /\ ob.dict = none) /\ (a == sysModules) = false := by
  rcases d with ⟨kvs, e⟩ | ⟨kvs, e⟩
  · obtain ⟨_, hd, vs, _, dd⟩ := Zq212 I.hok e
    refine ⟨dd.typeIs, fun b q => ?_, hd⟩
    cases q
    obtain ⟨ob, _, _, h1, h2, _⟩ := dd
    exact ⟨ob, h1, h2.2.1⟩
  · obtain ⟨_, hd, xs, _, dd⟩ := Zq213 I.hok e
    refine ⟨dd.typeIs, fun b q => ?_, hd⟩
    cases q
    obtain ⟨ob, _, _, h1, h2, _⟩ := dd
    exact ⟨ob, h1, h2.2.1⟩
section
variable {X : Cx} {pins : List (Addr × Obj)} {σ : St} {H : Hp} {s : Shared} {a : Addr} {y d : V} {u r : Value} {o : Option V} {A : Around} {E : Value -> Shared -> Prop}
theorem d_get1 {Q : Value -> Shared -> Prop} (hu : A.units + 1 < cLine) (I : Inv X pins σ H s) (g : DGet H a y o) (ry : RelV y u) (h : ∀ w' s', Inv X pins σ H s' -> RelV (o.getD .non) w' -> Q w' s') :
    wpAny (model X.prog X.w) A (call (.builtin "dict.get") [.ref a, u]) Q E s := by
  rcases g with ⟨kvs, k, e, ey, l⟩ | ⟨kvs, k, b, e, ey, eb, l⟩
  · subst ey
    obtain ⟨z, hd, vs, rel, dd⟩ := Zq212 I.hok e
    refine call_meetsIn PySem.F.slot_dict_get dd.typeIs PySem.F.entry_dict_get (PySem.F.args_dict_get_2 _ _) (meets_dict_get (Zq55 X.prog X.w) a (Zq211 ry) hd) ⟨_, dd.mapOf, h _ _ (I.tok _) ?_⟩
    rw [l]
    exact (rel.val k).getD rfl
  · subst ey
    cases (show u = Value.ref b from ry)
    obtain ⟨z, hd, xs, rel, dd⟩ := Zq213 I.hok e
    refine call_meetsIn PySem.F.slot_dict_get dd.typeIs PySem.F.entry_dict_get (PySem.F.args_dict_get_2 _ _) (meetsH_dict_get (tupleKind (Zq55 X.prog X.w)) a b hd) ⟨tupleKind_room_in1 hu, k, xs, Zq151 I.hok eb, dd, h _ _ (I.tok _) ?_⟩
    rw [l]
    exact (rel.val k).getD rfl
theorem d_get2 {Q : Value -> Shared -> Prop} (hu : A.units + 1 < cLine) (I : Inv X pins σ H s) (g : DGet H a y o) (ry : RelV y u) (rd : RelV d r) (h : ∀ w' s', Inv X pins σ H s' -> RelV (o.getD d) w' -> Q w' s') :
    wpAny (model X.prog X.w) A (call (.builtin "dict.get") [.ref a, u, r]) Q E s := by
  rcases g with ⟨kvs, k, e, ey, l⟩ | ⟨kvs, k, b, e, ey, eb, l⟩
  · subst ey
    obtain ⟨z, hd, vs, rel, dd⟩ := Zq212 I.hok e
    refine call_meetsIn PySem.F.slot_dict_get dd.typeIs PySem.F.entry_dict_get (PySem.F.args_dict_get_3 _ _ _) (meets_dict_get_default (Zq55 X.prog X.w) a (Zq211 ry) hd r) ⟨_, dd.mapOf, h _ _ (I.tok _) ?_⟩
    rw [l]
    exact (rel.val k).getD rd
  · subst ey
    cases (show u = Value.ref b from ry)
    obtain ⟨z, hd, xs, rel, dd⟩ := Zq213 I.hok e
    refine call_meetsIn PySem.F.slot_dict_get dd.typeIs PySem.F.entry_dict_get (PySem.F.args_dict_get_3 _ _ _) (meetsH_dict_get_default (tupleKind (Zq55 X.prog X.w)) a b hd r) ⟨tupleKind_room_in1 hu, k, xs, Zq151 I.hok eb, dd, h _ _ (I.tok _) ?_⟩
    rw [l]
    exact (rel.val k).getD rd
end
def tDGet1 (td ty : TE) : TE := fun σ H Q => td σ H fun x H1 => ∃ a, x = .ref a /\ IsD H1 a /\ ty σ H1 fun y H2 => ∃ o, DGet H2 a y o /\ Q (o.getD .non) H2
def tDGet2 (td ty tx : TE) : TE := fun σ H Q => td σ H fun x H1 => ∃ a, x = .ref a /\ IsD H1 a /\ ty σ H1 fun y H2 => tx σ H2 fun z H3 => ∃ o, DGet H3 a y o /\ Q (o.getD z) H3
section
variable {X : Cx} {o e f : Expr} {apos cpos : Pos} {td ty tx : TE}
theorem pe_dget1 (hu : X.A.units + 1 < cLine) (ho : PE X o td) (he : PE X e ty) (m : M1 X o "get" apos e cpos) : PE X (.Call (.Attribute o "get" apos) [e] [] cpos) (tDGet1 td ty) := by
  intro pins s σ H Q I h
  refine wpAny_Call_method m.base m.few m.line PySem.F.plainAttrs_dict PySem.F.slot_dict_get PySem.F.type_dict_get (thn (ho pins s σ H _ I h) fun u s1 ⟨x, H1, I1, rx, a, ex, d, q1⟩ => ?_)
  subst ex
  obtain rfl : u = Value.ref a := rx
  obtain ⟨t1, t2, _⟩ := isD_at I1 d
  refine ⟨t1, t2, ?_⟩
  rw [m.trees]
  refine Calls.callWith_builtin rfl (Calls.evalArgs_plain (Calls.spliced_cons (thn (he pins s1 σ H1 _ I1 q1) fun iv s2 ⟨y, H2, I2, ry, ov, g, q2⟩ => Calls.spliced_nil ?_)))
  exact d_get1 hu I2 g ry fun w' s3 I3 rw' => ⟨_, H2, I3, rw', q2⟩
theorem pe_dget2 (hu : X.A.units + 1 < cLine) (ho : PE X o td) (he : PE X e ty) (hf : PE X f tx) (m : M2 X o "get" apos e f cpos) : PE X (.Call (.Attribute o "get" apos) [e, f] [] cpos) (tDGet2 td ty tx) := by
  intro pins s σ H Q I h
  refine wpAny_Call_method m.base m.few m.line PySem.F.plainAttrs_dict PySem.F.slot_dict_get PySem.F.type_dict_get (thn (ho pins s σ H _ I h) fun u s1 ⟨x, H1, I1, rx, a, ex, d, q1⟩ => ?_)
  subst ex
  obtain rfl : u = Value.ref a := rx
  obtain ⟨t1, t2, _⟩ := isD_at I1 d
  refine ⟨t1, t2, ?_⟩
  rw [m.trees]
  refine Calls.callWith_builtin rfl (Calls.evalArgs_plain (Calls.spliced_cons (thn (he pins s1 σ H1 _ I1 q1) fun iv s2 ⟨y, H2, I2, ry, q2⟩ =>
    Calls.spliced_cons (thn (hf pins s2 σ H2 _ I2 q2) fun fv s3 ⟨z, H3, I3, rz, ov, g, q3⟩ => Calls.spliced_nil ?_))))
  exact d_get2 hu I3 g ry rz fun w' s4 I4 rw' => ⟨_, H3, I4, rw', q3⟩
end
section
variable {X : Cx} {pins : List (Addr × Obj)} {σ : St} {H : Hp} {s : Shared} {a : Addr} {kvs : List (Key × V)} {A : Around} {E : Value -> Shared -> Prop}
end
section
variable {X : Cx} {pins : List (Addr × Obj)} {σ : St} {H : Hp} {s : Shared} {a : Addr} {y : V} {u : Value} {A : Around} {E : Value -> Shared -> Prop}
end
end L2
namespace Att
open PySem PySem.W PySem.Calls PyProof.Rows
theorem ints_of_wellAll {P : Params} {h : Heap} : ∀ (ns : List Int) (vs : List Value), WellAll P h vs (ns.map WData.int) -> IntsAre vs ns := by
  intro ns
  induction ns with
  | nil =>
    intro vs w
    rw [List.map_nil] at w
    cases w
    exact .nil
  | cons n ns ih =>
    intro vs w
    rw [List.map_cons] at w
    cases w with
    | cons a b =>
      cases a
      exact .cons _ _ (ih _ b)
theorem script_of {l : OpenLaw} {n : Nat} (hn : l.most = some n) {P : Params} {h : Heap} {args : List WData} {vals : List Value}
    (hpre : l.row.toRowW.claim.pre args = true) (hwl : WellAll P h vals args) :
    ∃ a vs ns, vals = [Value.ref a] /\ args = [WData.list (ns.map WData.int)] /\ h.get? a = some { cls := .type "list", data := .seq vs.toArray } /\ IntsAre vs ns /\ ns.length <= n := by
  have hsh : WShape.hasAll [] args [.list .int] = true := (pre_splitW hpre).1
  have hc : l.pre.holds [] { args := args } = true := (pre_splitW hpre).2
  obtain ⟨d, r, rfl, h1, h2⟩ := hasAllW_cons hsh
  obtain rfl := hasAllW_nil h2
  obtain ⟨xs, rfl, h3⟩ := hasW_list h1
  obtain ⟨ns, rfl⟩ := items_int h3
  have hlen : ns.length <= n := by
    unfold OpenLaw.pre at hc
    have h4 : (WTm.not (.lt (.lit (.int (n : Int))) (.len (.arg 0)))).holds [] { args := [.list (ns.map .int)] } = true := by
      have h4 := (holds_andW hc).1
      rw [hn] at h4
      exact h4
    have h5 := condW_of h4 (w_not (w_lt w_lit (w_len_list (w_arg rfl))))
    rw [List.length_map] at h5
    refine Nat.le_of_not_lt fun q => ?_
    have q' : (n : Int) < ((ns.length : Nat) : Int) := by omega
    first
      | (rw [decide_eq_true q'] at h5; exact absurd h5 (by decide))
      | (simp at h5; omega)
  cases hwl with
  | cons w1 w2 =>
    cases w2
    cases w1 with
    | list ho hall => exact ⟨_, _, ns, rfl, rfl, ho, ints_of_wellAll ns _ hall, hlen⟩
theorem post_true (l : OpenLaw) (args : List WData) : l.row.toRowW.claim.post args (.bool true) args = true :=
  postW_of (r := l.row.toRowW) (X := (true == true))
    (show WShape.has [] (.bool true) .bool = true by first | rfl | decide | simp [WShape.has, WShape.arms, WShape.armsAll])
    (show (WTm.eq .res (.lit (.bool true))).value [] { args := args, res := some (.bool true), after := args } = some (.bool (true == true)) from w_eq_bool (w_res rfl) w_lit) rfl
theorem attach_call {l : OpenLaw} {n : Nat} {q : Program} {loose : List Str} {XP : (Str -> Option Value) -> Heap -> Prop} {YP : World -> Heap -> Prop} {d : DefRec}
    (hn : l.most = some n) (hdf : d.params.defaults = [])
    (call : ∀ (w : World) (s₀ s₁ : Shared) (mg mb : Str -> Option Value) (fa : Addr) (o : Obj) (pm cd doc : Value) (a : Addr) (vs : List Value) (ns : List Int),
      Ground q loose [] XP w s₀ mg mb s₁.heap -> YP w s₁.heap ->
      s₁.heap.get? fa = some o -> o.data = .func (docDef d.name d.params d.body d.scope pm cd doc) -> s₁.heap.CodeRec cd d.name -> mg d.name = some (.ref fa) ->
      s₁.heap.get? a = some { cls := .type "list", data := .seq vs.toArray } -> IntsAre vs ns -> ns.length <= n -> s₁.gens = #[] ->
      codeAny (model l.prog w) callerA (.call (.ref fa) ⟨[.ref a], []⟩) (fun r s' => r = .ok (.ret (.bool true)) /\ OldK s₁.heap s'.heap /\ s'.os = s₁.os /\ AllBare s'.gens) s₁) :
    WalkO q loose XP YP l.row.toRowW d [] (fun f vs => PySem.call f vs) := by
  intro w s₀ s₁ mg mb G Y fa o pm cd doc dV kV ho hd hcd hD hmg hg args vals as hpre hlay hrd hwl hlo
  obtain rfl : dV = .none := Dflts.none hD hdf
  obtain rfl : kV = .none := Dflts.noKw hD
  obtain ⟨a, vs, ns, rfl, rfl, hobj, hints, hlen⟩ := script_of hn hpre hwl
  refine enter_call (codeAny_mono (call w s₀ s₁ mg mb fa o pm cd doc a vs ns G Y ho (fd_plain hd) hcd hmg hobj hints hlen hg) fun r s' hq => ?_)
  obtain ⟨rfl, h2, h3, h4⟩ := hq
  exact ⟨.inl ⟨.bool true, .bool true, [], rfl, fun _ => rfl, .bool true, post_true l _, fun _ => ⟨List.Pairwise.nil, fun _ hm => (nomatch hm)⟩⟩, h2, h3, h4⟩
section
variable {prog : Program} {w : World} {A : Around} {E : Value -> Shared -> Prop} {s : Shared} {K : Frag}
end
end Att
namespace L2
open PySem PySem.Spec PyProof.Rows
theorem vals_ints : ∀ {vs : List Value} {ns : List Int}, IntsAre vs ns -> Vals (ns.map V.int) vs
  | _, _, .nil => .nil
  | _, _, .cons n t h => .cons ⟨t, rfl⟩ (vals_ints h)
end L2
namespace L2
open PySem PySem.Spec PyProof.Rows
end L2
/- THE LAST THEOREM (shape; LID, My.* are yours):
   My.Adr: a structure of the addresses that your layer names (classes, functions); My.Txt K t: a structure (Prop) of the equations over K;
   My.txt_mk : {K} {implicit addresses ..} (e1 : nsIn K mainGlobals "law" = some (some (.ref f))) (e2 : K.lookup f = some ⟨oc, od, .func (fnOf "law" "law" params body scope dV kV doc pm an cdv ct), sl⟩) (e3 : codeIn K cdv "law" = true) .. : ∃ t, My.Txt K t
set_option maxRecDepth 100000 in
set_option maxHeartbeats 0 in
theorem PySem.Challenge.cw_LID_holds : PySem.Challenge.rw_LID.Holds := by
  w_on; o_law; k_head; (case hw => w_witness2)
  k_fill
  refine L2.walk_of (l := PySem.Challenge.rw_LID) (n := 63) (k := 40) (x := "script") (CX := fun w => ..) (sp := fun _ => My.sp_law) rfl (by decide) rfl ⟨rfl, by decide, by decide⟩ (fun w h Y => PySem.W.kIn_of Y) ?F ?S ?C
  case F =>
    intro w mg fa h KX G hmg
    have T : ∃ t, My.Txt (L2.KOf KX) t := by
      dsimp only [L2.KOf]                          -- K must stand as «<heap const> w.params» for k_is
      refine' My.txt_mk ?e1 ?e2 ?e3 ..
      (case e1 => PySem.W.k_is)                    -- in the order: a name -> its address -> its object -> its parts
      (case e2 => PySem.W.k_is)
      ..
    obtain ⟨t, T⟩ := T
    have e0 := hmg.symm.trans (PySem.W.mg_of KX G T.law)
    cases e0                                       -- fa is the law's own address
    exact ⟨_, fun s u => .of_eq rfl, fun base kb nb => My.law_fn T kb nb⟩     -- if «.of_eq rfl» comes too early: refine' ⟨_, ?b, fun base kb nb => My.law_fn T kb nb⟩; exact fun s u => .of_eq rfl
  case S => exact fun w H a ns hl hO hS => ..
  case C => exact ..
(the tactic k_is has no namespace: write k_is) -/
namespace L2
open PySem PySem.Spec PyProof.Rows
def Zq115 (s : Stmt) : Arguments := match s with
  | .FunctionDef _ a _ _ _ _ _ _ _ _ => a
  | _ => { posonlyargs := [], args := [], vararg := none, kwonlyargs := [], kw_defaults := [], kwarg := none, defaults := [] }
def Zq80 (s : Stmt) : List Stmt := match s with
  | .FunctionDef _ _ b _ _ _ _ _ _ _ => b
  | _ => []
def Zq0 (s : Stmt) : Scope := match s with
  | .FunctionDef _ _ _ _ _ _ sc _ _ _ => sc
  | _ => { kind := .function, names := [], isGenerator := false, isCoroutine := false }
abbrev CX0 : CXT := fun _ _ _ _ _ _ => False
abbrev E0 : XK := fun _ _ _ => False
theorem pass0 {X : Cx} : Passes CX0 X E0 := fun _ _ _ _ _ _ _ h => h.elim
structure Fun (K : PySem.W.Frag) (x qual : Str) (st : Stmt) (f : Addr) (fd : FuncData) : Prop where
  ex : ∃ (oc : Value) (od : Option Addr) (kV doc pm : Value) (an : Option Addr) (cdv ct : Value) (osl : Array (Option Value)),
    fd = PySem.W.fnOf x qual (Zq115 st) (Zq80 st) (Zq0 st) .none kV doc pm an cdv ct /\ K.lookup f = some ⟨oc, od, .func fd, osl⟩ /\ PySem.W.codeIn K cdv qual = true
  kp : PySem.W.keepIn K (.ref f) = true
section
variable {P : Program} {w : World} {K : PySem.W.Frag} {mg : Str -> Option Value} {base : Heap}
theorem Fun.ok {x qual : Str} {st : Stmt} {f : Addr} {fd : FuncData} {N ps : List Str} {k : Nat} {sp : Sp} (F : Fun K x qual st f fd) (S : FnScope N ps (Zq0 st)) (len : ∀ vs H Q E, sp vs H Q E -> vs.length = ps.length)
    (hbody : ∀ (cdv : Value) (A : Around) (outer : List Env) (s : Shared) (H : Hp) (vs : List V) (Q : VK) (E : XK), Room k (A.deeper (envOfC qual (Zq0 st) s.heap.objs.size f cdv)) -> sp vs H Q E ->
      ∃ t, PSs (cxOf CX0 P w K mg base N qual (Zq0 st) f cdv A outer s H E).nox (Zq80 st) t /\ t { nx := fun _ H' => Q .non H', rt := Q } (Zq135 N vs) H) : FnOk P w K mg base CX0 (k + 1) f fd ps sp := by
  obtain ⟨oc, od, kV, doc, pm, an, cdv, ct, osl, rfl, lk, hcd⟩ := F.ex
  refine fn_of lk hcd S len fun A outer s H vs Q E hr hsp => ?_
  obtain ⟨t, h, q⟩ := hbody cdv A outer s H vs Q E hr hsp
  exact ⟨t, h.nox, q⟩
theorem Fun.binds {x qual : Str} {st : Stmt} {f : Addr} {fd : FuncData} {ps : List Str} (F : Fun K x qual st f fd)
    (h : ∀ (kV doc pm : Value) (an : Option Addr) (cdv ct : Value) (us : List Value), us.length = ps.length -> bindArgs (PySem.W.fnOf x qual (Zq115 st) (Zq80 st) (Zq0 st) .none kV doc pm an cdv ct) ⟨us, []⟩ = pure (ps.zip us)) : Binds K fd ps [] := by
  obtain ⟨oc, od, kV, doc, pm, an, cdv, ct, osl, rfl, lk, hcd⟩ := F.ex
  exact .all (h kV doc pm an cdv ct)
theorem fun_mk {x qual : Str} {st : Stmt} {f : Addr} {oc : Value} {od an : Option Addr} {osl : Array (Option Value)} {kV doc pm cdv ct : Value} (l : K.lookup f = some ⟨oc, od, .func (PySem.W.fnOf x qual (Zq115 st) (Zq80 st) (Zq0 st) .none kV doc pm an cdv ct), osl⟩)
    (c : PySem.W.codeIn K cdv qual = true) (k : PySem.W.keepIn K (.ref f) = true) : Fun K x qual st f (PySem.W.fnOf x qual (Zq115 st) (Zq80 st) (Zq0 st) .none kV doc pm an cdv ct) := ⟨⟨oc, od, kV, doc, pm, an, cdv, ct, osl, rfl, l, c⟩, k⟩
end
section
variable {X : Cx}
end
theorem iteF {A B : Prop} (h : B) : if false = true then A else B := by
  rw [if_neg Bool.false_ne_true]
  exact h
theorem iteT {A B : Prop} (h : A) : if true = true then A else B := by
  rw [if_pos rfl]
  exact h
def Same (H H' : Hp) : Prop := ∀ b o, H b = some o -> H' b = some o
theorem Same.refl (H : Hp) : Same H H := fun _ _ h => h
theorem Same.trans {H H1 H2 : Hp} (a : Same H H1) (b : Same H1 H2) : Same H H2 := fun c o h => b c o (a c o h)
theorem Same.free {H H' : Hp} (e : Same H H') {l : Addr} (h : H' l = Option.none) : H l = Option.none := by
  cases q : H l with
  | none => rfl
  | some o =>
    rw [e l o q] at h
    cases h
end L2
namespace L2
open PySem PySem.Spec PyProof.Rows
section
variable {X : Cx}
end
section
variable {κ : Type} [DecidableEq κ]
theorem valV_in {kvs : List (κ × V)} {k : κ} {v : V} (h : valV kvs k = some v) : k ∈ kvs.map (·.1) := by
  have q : (kvs.any fun kv => decide (kv.1 = k)) = true := by
    rw [valV_any, h]
    all_goals rfl
  obtain ⟨p, hp, e⟩ := List.any_eq_true.mp q
  exact List.mem_map.mpr ⟨p, hp, of_decide_eq_true e⟩
theorem nd_snoc : ∀ {l : List κ} {k : κ}, l.Nodup -> ¬ k ∈ l -> (l ++ [k]).Nodup
  | [], k, _, _ => by simp
  | a :: r, k, h, hk => by
    obtain ⟨h1, h2⟩ := List.nodup_cons.mp h
    show (a :: (r ++ [k])).Nodup
    refine List.nodup_cons.mpr ⟨fun m => ?_, nd_snoc h2 fun m => hk (List.mem_cons.mpr (Or.inr m))⟩
    rcases List.mem_append.mp m with q | q
    · exact h1 q
    · exact hk (List.mem_cons.mpr (Or.inl (List.mem_singleton.mp q).symm))
end
end L2
end
section
set_option Elab.async false
set_option linter.all false
set_option maxRecDepth 100000
set_option maxHeartbeats 4000000
namespace L2
open PySem PySem.Spec PyProof.Rows
abbrev ccx (X : Cx) (scope : Scope) (cl : List (Str × Addr)) (C : Addr) (N' : List Str) (s2 : Shared) (H2 : Hp) (ex : List Addr) (pn : List (Addr × Obj)) : Cx where
  prog := X.prog
  w := X.w
  K := X.K
  mg := X.mg
  base := X.base
  A := X.A
  N := N'
  s₀ := s2
  H₀ := H2
  env := compEnvC scope cl C X.env
  outer := X.stack
  stack := X.stack
  ex := ex
  fn := fun _ => false
  calm := X.calm
  pn := pn
  xe := fun _ _ => False
theorem closure_go (env : Env) : ∀ (l : List (Str × NameKind)) (cs : List (Str × Addr)), (∀ p ∈ l, p.2 = .free -> ∃ c, env.cells.lookup p.1 = some c) ->
    ∃ cl, (forIn l cs (fun (x : Str × NameKind) (r : List (Str × Addr)) => if (x.2 == NameKind.free) = true then (do let a ← cellOf env x.1; pure (ForInStep.yield ((x.1, a) :: r)) : Sem (ForInStep (List (Str × Addr)))) else pure (ForInStep.yield r)) : Sem _) = pure cl /\
      (∀ x c, cl.lookup x = some c -> env.cells.lookup x = some c \/ cs.lookup x = some c) /\ (∀ x, ((x, NameKind.free) ∈ l \/ ∃ c, cs.lookup x = some c) -> ∃ c, cl.lookup x = some c)
  | [], cs, _ => ⟨cs, rfl, fun x c h => .inr h, fun x h => h.elim (fun z => nomatch z) id⟩
  | (n, k) :: r, cs, h => by
    have hr : ∀ p ∈ r, p.2 = .free -> ∃ c, env.cells.lookup p.1 = some c := fun p hp => h p (List.mem_cons_of_mem _ hp)
    by_cases hk : k = .free
    · subst hk
      obtain ⟨c, hc⟩ := h (n, .free) List.mem_cons_self rfl
      obtain ⟨cl, e, h1, h2⟩ := closure_go env r ((n, c) :: cs) hr
      refine ⟨cl, ?_, fun x d hx => ?_, fun x hx => ?_⟩
      · rw [List.forIn_cons]
        have e2 : cellOf env n = pure c := by unfold cellOf; rw [hc]
        simp only [beq_self_eq_true, if_true, e2, pure_bind]
        exact e
      · rcases h1 x d hx with z | z
        · exact .inl z
        · rw [List.lookup_cons] at z
          cases q : x == n with
          | true =>
            rw [q] at z
            cases z
            have : x = n := by simpa using q
            subst this
            exact .inl hc
          | false =>
            rw [q] at z
            exact .inr z
      · apply h2
        rcases hx with hx | ⟨d, hx⟩
        · rcases List.mem_cons.mp hx with z | z
          · cases z
            exact .inr ⟨c, by rw [List.lookup_cons]; simp⟩
          · exact .inl z
        · right
          rw [List.lookup_cons]
          cases q : x == n with
          | true => exact ⟨c, rfl⟩
          | false => exact ⟨d, hx⟩
    · obtain ⟨cl, e, h1, h2⟩ := closure_go env r cs hr
      refine ⟨cl, ?_, h1, fun x hx => h2 x ?_⟩
      · rw [List.forIn_cons]
        have e2 : (k == NameKind.free) = false := by simpa using hk
        simp only [e2, Bool.false_eq_true, if_false, pure_bind]
        exact e
      · rcases hx with hx | hx
        · rcases List.mem_cons.mp hx with z | z
          · cases z
            exact absurd rfl hk
          · exact .inl z
        · exact .inr hx
theorem closure_of {scope : Scope} {env : Env} (h : ∀ p ∈ scope.names, p.2 = .free -> ∃ c, env.cells.lookup p.1 = some c) :
    ∃ cl, closureFor scope env = pure cl /\ (∀ x c, cl.lookup x = some c -> env.cells.lookup x = some c) /\ (∀ x, (x, NameKind.free) ∈ scope.names -> ∃ c, cl.lookup x = some c) := by
  obtain ⟨cl, e, h1, h2⟩ := closure_go env scope.names [] h
  refine ⟨cl, ?_, fun x c hx => (h1 x c hx).elim id (fun z => nomatch z), fun x hx => h2 x (.inl hx)⟩
  unfold closureFor
  have e' := congrArg (fun m : Sem (List (Str × Addr)) => m >>= fun r => pure r) e
  simp only [pure_bind] at e'
  exact e'
theorem lookup_relabel {env : Env} {kk : NameKind} (hkk : kk ≠ .free) : ∀ {names : List (Str × NameKind)} {x : Str}, names.lookup x = some kk ->
    (names.map fun (n, k) => if (k == NameKind.free && env.scope.kind == .function && env.kindOf n == some .cell) then (n, NameKind.cell) else (n, k)).lookup x = some kk
  | [], _, h => by simp at h
  | (n, k) :: r, x, h => by
    have ih := @lookup_relabel env kk hkk r x
    show List.lookup x ((if (k == NameKind.free && env.scope.kind == .function && env.kindOf n == some .cell) = true then (n, NameKind.cell) else (n, k)) :: _) = _
    cases hx : x == n with
    | true =>
      simp only [List.lookup_cons, hx] at h
      have h : some k = some kk := h
      have h' : k = kk := Option.some.inj h
      subst h'
      have e : (k == NameKind.free) = false := by simpa using hkk
      rw [e, Bool.false_and, Bool.false_and, if_neg Bool.false_ne_true, List.lookup_cons, hx]
    | false =>
      simp only [List.lookup_cons, hx] at h
      by_cases hc : (k == NameKind.free && env.scope.kind == .function && env.kindOf n == some .cell) = true
      · rw [if_pos hc]; simp only [List.lookup_cons, hx]; exact ih h
      · rw [if_neg hc]; simp only [List.lookup_cons, hx]; exact ih h
theorem lookup_relabel_free {env : Env} : ∀ {names : List (Str × NameKind)} {x : Str}, names.lookup x = some .free ->
    ((names.map fun (n, k) => if (k == NameKind.free && env.scope.kind == .function && env.kindOf n == some .cell) then (n, NameKind.cell) else (n, k)).lookup x = some .cell) \/
    ((names.map fun (n, k) => if (k == NameKind.free && env.scope.kind == .function && env.kindOf n == some .cell) then (n, NameKind.cell) else (n, k)).lookup x = some .free)
  | [], _, h => by simp at h
  | (n, k) :: r, x, h => by
    have ih := @lookup_relabel_free env r x
    show (List.lookup x ((if (k == NameKind.free && env.scope.kind == .function && env.kindOf n == some .cell) = true then (n, NameKind.cell) else (n, k)) :: _) = _) \/ (List.lookup x ((if (k == NameKind.free && env.scope.kind == .function && env.kindOf n == some .cell) = true then (n, NameKind.cell) else (n, k)) :: _) = _)
    cases hx : x == n with
    | true =>
      simp only [List.lookup_cons, hx] at h
      cases h
      by_cases hc : (NameKind.free == NameKind.free && env.scope.kind == .function && env.kindOf n == some .cell) = true
      · rw [if_pos hc]; simp [List.lookup_cons, hx]
      · rw [if_neg hc]; simp [List.lookup_cons, hx]
    | false =>
      simp only [List.lookup_cons, hx] at h
      by_cases hc : (k == NameKind.free && env.scope.kind == .function && env.kindOf n == some .cell) = true
      · rw [if_pos hc]; simp only [List.lookup_cons, hx]; exact ih h
      · rw [if_neg hc]; simp only [List.lookup_cons, hx]; exact ih h
theorem relabel_mem {env : Env} {scope : Scope} {x : Str} (hcell : ∀ y ∈ scope.names, y.2 ≠ .cell) (h : (relabel scope env).names.lookup x = some .cell \/ (relabel scope env).names.lookup x = some .free) : (x, NameKind.free) ∈ scope.names := by
  have m : ∃ k', (k' = NameKind.cell \/ k' = NameKind.free) /\ (x, k') ∈ (relabel scope env).names := by
    rcases h with h | h
    · exact ⟨_, .inl rfl, PySem.mem_of_lookup h⟩
    · exact ⟨_, .inr rfl, PySem.mem_of_lookup h⟩
  obtain ⟨k', hk, m⟩ := m
  obtain ⟨⟨n, k⟩, hm, e⟩ := List.mem_map.mp m
  have e : (if (k == NameKind.free && env.scope.kind == .function && env.kindOf n == some .cell) = true then (n, NameKind.cell) else (n, k)) = (x, k') := e
  by_cases hc : (k == NameKind.free && env.scope.kind == .function && env.kindOf n == some .cell) = true
  · rw [if_pos hc] at e
    cases e
    have : k = .free := by
      cases k <;> simp at hc ⊢
    rw [← this]; exact hm
  · rw [if_neg hc] at e
    cases e
    rcases hk with z | z
    · exact absurd z (hcell _ hm)
    · rw [← z]; exact hm
section
variable {prog : Program} {w : World} {A : Around} {E : Value -> Shared -> Prop} {R : Result -> Shared -> Prop} {s : Shared}
theorem codeAny_compLoop_go {elt target iter : Expr} {ifs : List Expr} {scope : Scope} {pos : Pos} {it acc : Value} {env : Env} (I : Nat -> Shared -> Prop)
    (turn : ∀ n s, I n s -> wpAny (model prog w) A (pyNext it) (fun r s₁ => match r with
      | none => R (.ok .next) s₁
      | some v => wpAny (model prog w) A (letOwnedTupleGo target it v) (fun _ s1 => wpAny (model prog w) A (assign target env v) (fun _ s₂ =>
          wpAny (model prog w) A (forIn ifs true fun c r => if r = true then do let ok ← isTrue c env (eval c env); pure (ForInStep.yield ok) else pure (ForInStep.yield r)) (fun ok s₃ =>
            if ok = true then wpAny (model prog w) A (eval elt env) (fun x s₄ =>
              wpAny (model prog w) A (call (.builtin "list.append") [acc, x]) (fun _ s₅ => ∃ m, m < n /\ I m s₅) (fun _ _ => False) s₄) (fun _ _ => False) s₃
            else ∃ m, m < n /\ I m s₃) (fun _ _ => False) s₂) (fun _ _ => False) s1) (fun _ _ => False) s₁) (fun _ _ => False) s)
    (n : Nat) (h : I n s) :
    codeAny (model prog w) A (.compLoop (.ListComp elt [⟨target, iter, ifs, 0⟩] scope pos) 0 it acc env) R s := by
  refine codeAny_loop rfl I (fun n s hI => ?_) n h
  show wpAny _ A ((compTurn (.ListComp elt [⟨target, iter, ifs, 0⟩] scope pos) 0 it acc env).onRaise (fun x => do noteFrame x env; theTreesLotGoes x)) _ _ s
  refine wpAny_noted ?_
  rw [compTurn_list]
  refine wpAny_bind (wpAny_standAt (wpAny_bind (wpAny_mono (turn n s hI) (fun r s₁ h₁ => ?_) fun _ _ h' => h'.elim)))
  cases r with
  | none => exact wpAny_pure h₁
  | some v =>
    refine wpAny_bind (wpAny_mono h₁ (fun _ s1 h1 => ?_) fun _ _ h' => h'.elim)
    refine wpAny_bind (wpAny_mono h1 (fun _ s₂ h₂ => wpAny_bind (wpAny_mono h₂ (fun ok s₃ h₃ => ?_) fun _ _ h' => h'.elim)) fun _ _ h' => h'.elim)
    cases ok with
    | false => exact wpAny_pure ⟨rfl, h₃⟩
    | true =>
      exact wpAny_bind (wpAny_bind (wpAny_mono h₃ (fun x s₄ h₄ => wpAny_bind (wpAny_mono h₄ (fun _ s₅ h₅ => wpAny_pure (wpAny_pure ⟨rfl, h₅⟩)) fun _ _ h' => h'.elim)) fun _ _ h' => h'.elim))
end
abbrev TTs := St -> Hp -> (Bool -> Hp -> Prop) -> Prop
def PTs (X : Cx) (ifs : List Expr) (t : TTs) : Prop :=
  ∀ (pins : List (Addr × Obj)) (s : Shared) (σ : St) (H : Hp) (Q : Bool -> Hp -> Prop), Inv X pins σ H s -> t σ H Q ->
    wpAny (model X.prog X.w) X.A (forIn ifs true fun c r => if r = true then do let ok ← isTrue c X.env (eval c X.env); pure (ForInStep.yield ok) else pure (ForInStep.yield r)) (TP X pins σ Q) X.xe s
theorem pts_nil {X : Cx} : PTs X [] (fun _ H Q => Q true H) := fun _ _ _ H _ I h => wpAny_tests_nil ⟨H, I, h⟩
theorem pts_one {X : Cx} {c : Expr} {t : TT} (h : PT X c t) : PTs X [c] t := fun pins s σ H Q I hw => wpAny_tests_one (h pins s σ H Q I hw)
structure FrOk (X : Cx) (scope : Scope) (fr : List (Str × Nat)) : Prop where
  slots : ∀ p ∈ fr, X.N[p.2]? = some p.1 /\ (X.env.kindOf p.1 = some .cell \/ X.env.kindOf p.1 = some .free)
  kind : ∀ p ∈ fr, scope.names.lookup p.1 = some .free
def inN (locs : List Str) (fr : List (Str × Nat)) : List Str := locs ++ fr.map (·.1)
def inS (locs : List Str) (fr : List (Str × Nat)) (σ : St) : St := List.replicate locs.length none ++ fr.map fun p => (σ[p.2]?).join
def inF (fr : List (Str × Nat)) (σ : St) : St := fr.map fun p => (σ[p.2]?).join
def Zq159 (n : Nat) (fv : St) (g : TG) (tt : TTs) (te : TE) (x : V) (H : Hp) (Y : V -> Hp -> Prop) (N : Hp -> Prop) : Prop :=
  ∀ ls : St, ls.length = n -> g x (ls ++ fv) H fun σ2 H2 => (∃ l2 : St, l2.length = n /\ σ2 = l2 ++ fv) /\ tt σ2 H2 fun b H3 => if b = true then te σ2 H3 Y else N H3
def Zq175 (J : It) (n : Nat) (fv : St) (g : TG) (tt : TTs) (te : TE) (Q : VK) (H1 : Hp) : Prop := ∃ W : Nat -> Nat -> List V -> Hp -> Prop, (∃ m, W 0 m [] H1) /\ ∀ i m ys H, W i m ys H ->
  (J.stop i H /\ ys.length <= sizeLine /\ ∀ l, H l = none -> Q (.ref l) (upd H l (.lst ys))) \/
  (J.go i H /\ ys.length < sizeLine /\ ∃ m', m' < m /\ ∀ x H', J.yld i H x H' -> Zq159 n fv g tt te x H' (fun y H4 => W (i + 1) m' (ys ++ [y]) H4) fun H3 => W (i + 1) m' ys H3)
def tComp (n : Nat) (fr : List (Str × Nat)) (wi : TI) (g : TG) (tt : TTs) (te : TE) : TE := fun σ H Q => wi σ H fun J H1 => Zq175 J n (inF fr σ) g tt te Q H1
theorem hok_add {P : Program} {w : World} {H : Hp} {h : Heap} {D : Addr} {o : HO} (ok : HOk P w H h) (hn : H D = none) (new : ObjOk P w (upd H D o) h D o) : HOk P w (upd H D o) h := fun b u e => by
  by_cases hb : b = D
  · subst hb; rw [Zq3] at e; cases e; exact new
  · rw [Zq7 hb] at e
    exact (ok b u e).stay (fun _ _ _ q => q) (fun c q => by rw [Zq7 (Zq16 q hn)]; exact q) fun c xs q => by rw [Zq7 (Zq16 q hn)]; exact q
section
variable {X : Cx} {tg elt iter : Expr} {ifs : List Expr} {scope : Scope} {pos : Pos} {locs : List Str} {fr : List (Str × Nat)} {g : TG} {tt : TTs} {te : TE}
theorem comp_core {pins : List (Addr × Obj)} {σ : St} {H1 : Hp} {s2 : Shared} {it : Addr} {fp : List Addr} {tn : Nat -> Heap -> Prop} {J : It} {cl : List (Str × Addr)} {E : Value -> Shared -> Prop}
    {RR : Value -> Addr -> Result -> Shared -> Prop} {QQ : List V -> Hp -> Prop}
    (hc : X.calm = true) (hkind : scope.kind = .function) (hcell : ∀ y ∈ scope.names, y.2 ≠ .cell) (hlo : ∀ x ∈ locs, scope.names.lookup x = some .local) (F : FrOk X scope fr) (hnd : (inN locs fr).Nodup)
    (cl1 : ∀ x c, cl.lookup x = some c -> X.env.cells.lookup x = some c) (cl2 : ∀ x, (x, NameKind.free) ∈ scope.names -> ∃ c, cl.lookup x = some c)
    (inner : ∀ (C : Addr) (s0 : Shared) (H0 : Hp) (ex : List Addr) (pn : List (Addr × Obj)), PG (ccx X scope cl C (inN locs fr) s0 H0 ex pn) tg g /\ PTs (ccx X scope cl C (inN locs fr) s0 H0 ex pn) ifs tt /\ PE (ccx X scope cl C (inN locs fr) s0 H0 ex pn) elt te)
    (I : Inv X pins σ H1 s2) (T : Turn X.prog X.w X.K tg J fp it tn) (st0 : tn 0 s2.heap) (hf : ∀ b ∈ fp, FpOk X pins H1 b)
    {W : Nat -> Nat -> List V -> Hp -> Prop} (w0 : ∃ m, W 0 m [] H1) (turn : ∀ i m ys H, W i m ys H ->
      (J.stop i H /\ ys.length <= sizeLine /\ QQ ys H) \/
      (J.go i H /\ ys.length < sizeLine /\ ∃ m', m' < m /\ ∀ x H', J.yld i H x H' -> Zq159 locs.length (inF fr σ) g tt te x H' (fun y H4 => W (i + 1) m' (ys ++ [y]) H4) fun H3 => W (i + 1) m' ys H3))
    (hRR : ∀ (D C : Addr) (ys : List V) (H' : Hp) (s' : Shared) (m : Str -> Option Value), H' D = none -> D ≠ C -> Inv X pins σ (upd H' D (.lst ys)) s' -> FpOk X pins (upd H' D (.lst ys)) C -> s'.heap.Ns C m -> QQ ys H' -> RR (.ref D) C (.ok .next) s') :
    wpAny (model X.prog X.w) X.A (newList []) (fun acc s₃ => wpAny (model X.prog X.w) X.A (newFunctionEnv scope X.env.globals cl [] X.env.qual none .none (some X.env)) (fun cenv s₄ =>
      codeAny (model X.prog X.w) X.A (.compStart (.ListComp elt [⟨tg, iter, ifs, 0⟩] scope pos) 0 (.ref it) acc { cenv with scope := relabel scope X.env }) (RR acc cenv.locals) s₄) E s₃) E s2 := by
  refine wpAny_newObj_type (wpAny_newFunctionEnv hcell (by intro y hy; simp at hy) (fun h₁ hns₁ hsb₁ => ?_) hkind)
  dsimp only at hns₁ hsb₁ ⊢
  generalize hH2 : s2.heap.push { cls := .type "list", dict := none, data := .seq ([] : List Value).toArray } = Hq at hns₁ hsb₁ ⊢
  have hC : Hq.objs.size = s2.heap.objs.size + 1 := by rw [← hH2, Heap.size_push]
  generalize hDe : s2.heap.objs.size = D at hC ⊢
  generalize hCe : Hq.objs.size = C at hC hns₁ hsb₁ ⊢
  have hDC : D ≠ C := by omega
  have below : ∀ b, b < D -> b ≠ C /\ b ≠ D := fun b hb => ⟨by omega, by omega⟩
  have ltD : ∀ {b : Addr} {o : Obj}, s2.heap.get? b = some o -> b < D := fun e => hDe ▸ Heap.lt_size e
  have old : ∀ b o, s2.heap.get? b = some o -> h₁.get? b = some o := fun b o e => hsb₁.extBut b o (below b (ltD e)).1 (Heap.get?_push_of_some _ (hH2 ▸ Heap.get?_push_of_some _ e))
  have hacc : h₁.PlainList D #[] := ⟨_, hsb₁.extBut _ _ hDC (Heap.get?_push_of_some _ (by subst hDe; exact hH2 ▸ Heap.get?_push_size _ rfl))⟩
  let X' : Cx := ccx X scope cl C (inN locs fr) s2 H1 fp (X.pn ++ pins)
  have ltC : s2.heap.objs.size <= C := by rw [hDe, hC]; exact Nat.le_succ _
  have fpC : FpOk X pins H1 C := I.fpOk ltC (I.hok.fresh ltC)
  have fpD : FpOk X pins H1 D := I.fpOk (Nat.le_of_eq hDe) (I.hok.fresh (Nat.le_of_eq hDe))
  have stkN : ∀ b, b ≠ X.env.locals -> b ∉ X.fs -> b ∉ frs X.stack := fun b h1 h2 z => (List.mem_cons.mp (I.stkSub b z)).elim h1 h2
  have ok' : X'.Ok := by
    refine ⟨I.ok.mod, hkind, I.ok.glob, I.ok.blt, ltC, fun x y c h1 h2 => I.ok.inj x y c (cl1 x c h1) (cl1 y c h2), fun x hx => ?_, fun x c h => ?_, I.ok.hd, I.ok.frames, .inl rfl, fun b hb => ?_, fun b o e => I.bs b o e, Nat.le_trans I.ok.bsz I.sz, fun b o e hb => ?_, fun b hb => ?_, I.stack, I.stkFree⟩
    · obtain ⟨c, hcc⟩ := cl2 x (relabel_mem hcell hx)
      exact ⟨c, hcc⟩
    · cases h
    · refine ⟨fun z => ?_, fun x c e => (hf b hb).2.2.2.2.1 x c (cl1 x c e)⟩
      obtain ⟨o, ho, _⟩ := T.obj _ _ st0 b hb
      have z' : b = C := z
      exact (below b (ltD ho)).1 z'
    · have hb' := hf b hb
      rcases hb'.2.2.2.1 with z | z
      · exact I.ok.noex b o e z
      · exact absurd (Nat.lt_of_lt_of_le (Heap.lt_size e) (Nat.le_trans I.ok.bsz z)) (Nat.lt_irrefl _)
    · exact stkN b (hf b hb).2.1 (hf b hb).2.2.1
  have I1 : Inv X' [] (inS locs fr σ) H1 { s2 with heap := h₁, toks := s2.toks + ([] : List (Str × Value)).length } := by
    refine ⟨ok', I.os.symm ▸ rfl, I.bare, Un.kept old, ⟨_, hns₁, fun i x v h1 h2 h3 => ?_⟩, fun x c e => ?_, I.hok.fresh ltC, fun x c e => I.freeC x c (cl1 x c e), fun p hp => ?_, I.hok.kept old, ?_⟩
    · -- a slot of the block that has a value is a free name's
      have hge : locs.length <= i := by
        by_cases hi : i < locs.length
        · unfold inS at h2
          rw [List.getElem?_append_left (by simpa using hi), List.getElem?_replicate, if_pos hi] at h2
          cases h2
        · omega
      have h1' : (fr.map (·.1))[i - locs.length]? = some x := by
        have h1 : (inN locs fr)[i]? = some x := h1
        unfold inN at h1
        rw [List.getElem?_append_right hge] at h1
        exact h1
      have h2' : (fr.map fun p => (σ[p.2]?).join)[i - locs.length]? = some (some v) := by
        unfold inS at h2
        rw [List.getElem?_append_right (by simpa using hge), List.length_replicate] at h2
        exact h2
      rw [List.getElem?_map] at h1' h2'
      cases e : fr[i - locs.length]? with
      | none => rw [e] at h1'; cases h1'
      | some p =>
        rw [e] at h1' h2'
        have ex : p.1 = x := Option.some.inj h1'
        have ev : (σ[p.2]?).join = some v := Option.some.inj h2'
        obtain ⟨f1, f2⟩ := F.slots p (List.mem_of_getElem? e)
        have ev' : σ[p.2]? = some (some v) := by
          cases q : σ[p.2]? with
          | none => rw [q] at ev; cases ev
          | some o => rw [q] at ev; cases o with
            | none => cases ev
            | some v' => cases ev; rfl
        obtain ⟨m0, hn0, hl0⟩ := I.loc
        have vis0 : Vis X.env.scope p.1 := by
          rcases f2 with z | z
          · exact .inr (.inl z)
          · exact .inr (.inr z)
        obtain ⟨u, ru, lk⟩ := hl0 p.2 p.1 v f1 ev' vis0
        have hxm : x ∉ locs := fun z => by
          have hnd' := hnd
          unfold inN at hnd'
          exact (List.nodup_append.mp hnd').2.2 x z x (List.mem_map.mpr ⟨p, List.mem_of_getElem? e, ex⟩) rfl
        refine ⟨u, ru, ?_⟩
        rcases lk with ⟨hk, _⟩ | ⟨hk, c, hcc, hce⟩
        · rcases f2 with z | z
          · rw [z] at hk; cases hk
          · rw [z] at hk; cases hk
        · -- in the block it is a cell or free name
          have h3 : Vis (relabel scope X.env) x := h3
          have hk' : (compEnvC scope cl C X.env).kindOf x = some .cell \/ (compEnvC scope cl C X.env).kindOf x = some .free := by
            rcases h3 with z | z | z
            · exfalso
              have q := lookup_relabel_free (env := X.env) (F.kind p (List.mem_of_getElem? e))
              rw [ex] at q
              rcases q with q | q
              · have z' : some NameKind.local = some NameKind.cell := z.symm.trans q
                cases z'
              · have z' : some NameKind.local = some NameKind.free := z.symm.trans q
                cases z'
            · exact .inl z
            · exact .inr z
          obtain ⟨c', hc'⟩ := cl2 x (relabel_mem hcell hk')
          have := cl1 x c' hc'
          rw [← ex, hcc] at this
          cases this
          refine .inr ⟨hk', c, hc', ?_⟩
          obtain ⟨o, ho, hd⟩ := hce
          exact ⟨o, old _ _ ho, hd⟩
    · obtain ⟨v, o, ho, hd⟩ := I.cell x c (cl1 x c e)
      exact ⟨v, o, old _ _ ho, hd⟩
    · have hp' : p ∈ X.pn ++ pins := (List.mem_append.mp hp).elim id fun z => nomatch z
      obtain ⟨e, n, ne, nf, d⟩ := I.pin p hp'
      exact ⟨old _ _ e, n, (below _ (ltD e)).1, stkN _ ne nf, d⟩
    · show (inS locs fr σ).length = (inN locs fr).length
      unfold inS inN
      simp
  have fpLt : ∀ b ∈ fp, b < D := fun b hb => by
    obtain ⟨o, ho, _⟩ := T.obj _ _ st0 b hb
    exact ltD ho
  obtain ⟨m0, w0⟩ := w0
  let oD : List Value -> Nat -> Obj := fun its k => { cls := .type "list", data := .seq its.toArray k }
  have stat : ∀ {H' : Hp} {ob : Obj}, (∀ b ∈ fp, H' b = none) -> ∀ b ∈ fp, FpOk X' [(D, ob)] H' b := fun {H' ob} hn b hb => by
    obtain ⟨f0, f1, f2, f3, f4, f5⟩ := hf b hb
    refine ⟨hn b hb, (below b (fpLt b hb)).1, stkN b f1 f2, .inl hb, fun x c e => f4 x c (cl1 x c e), fun p hp z => ?_⟩
    rcases List.mem_append.mp hp with q | q
    · exact f5 p q z
    · have e : p = (D, ob) := by simpa using q
      subst e
      exact (below b (fpLt b hb)).2 z.symm
  have loop : ∀ s₃ : Shared, s₃ = { s2 with heap := h₁, toks := s2.toks + ([] : List (Str × Value)).length } ->
      codeAny (model X.prog X.w) X.A (.compLoop (.ListComp elt [⟨tg, iter, ifs, 0⟩] scope pos) 0 (.ref it) (.ref D) (compEnvC scope cl C X.env)) (RR (.ref D) C) s₃ := by
    rintro s₃ rfl
    refine codeAny_compLoop_go (fun n s' => ∃ (i : Nat) (ls : St) (H' : Hp) (ys : List V) (its : List Value) (k : Nat), ls.length = locs.length /\ Inv X' [(D, oD its k)] (ls ++ inF fr σ) H' s' /\ tn i s'.heap /\ (∀ b ∈ fp, H' b = none) /\ Vals ys its /\ W i n ys H') ?_ m0 ?_
    · rintro n s3 ⟨i, ls, H3, ys, its, k, hls, I3, st3, fr3, rv, w3⟩
      rcases turn i n ys H3 w3 with ⟨stop, hz, q⟩ | ⟨go, hz, m', hm, step⟩
      · refine thn (T.done X' rfl rfl rfl hc i _ s3 _ H3 (fun _ _ => False) I3 (stat fr3) st3 stop) fun r s4 ⟨hr, I4⟩ => ?_
        subst hr
        obtain ⟨pD, nD, _, _, _⟩ := I4.pin (D, oD its k) (List.mem_append_right _ List.mem_cons_self)
        have nD : H3 D = none := nD
        obtain ⟨mC, hnC, _⟩ := I4.loc
        have hnC : s4.heap.Ns C mC := hnC
        have nC : H3 C = none := I4.free
        have new : ObjOk X.prog X.w (upd H3 D (.lst ys)) s4.heap D (.lst ys) := ⟨hz, its, k, rv, pD⟩
        have hok4 : HOk X.prog X.w (upd H3 D (.lst ys)) s4.heap := hok_add I4.hok nD new
        have u4 : Un (frs X.stack) fp H1 H3 s2.heap s4.heap := I4.base
        have u5 : Un (frs X.stack) fp H1 (upd H3 D (.lst ys)) s2.heap s4.heap := by
          refine ⟨u4.keep, u4.slot, fun b o e n hx => ?_, u4.there, fun b xs e => ?_, fun b o u e => ?_, fun b ps e => ?_⟩
          · rw [Zq7 (below b (ltD e)).2]; exact u4.free b o e n hx
          · rw [Zq7 (Zq16 e fpD.1)]; exact u4.tups b xs e
          · rw [Zq7 (Zq16 e fpD.1)]; exact u4.frzs b o u e
          · rw [Zq7 (Zq16 e fpD.1)]; exact u4.tbls b ps e
        have I5 : Inv X pins σ (upd H3 D (.lst ys)) s4 := by
          refine I.call' (ch := fp) ?_ u5 hok4 I4.bare fun b hb => ?_
          · have : s4.os = s2.os := I4.os
            exact this
          · obtain ⟨f0, f1, f2, f3, f4, f5⟩ := hf b hb
            exact ⟨f3, f1, f4, f5⟩
        have fpC' : FpOk X pins (upd H3 D (.lst ys)) C := I.fpOk ltC (by rw [Zq7 hDC.symm]; exact nC)
        exact hRR D C ys H3 s4 mC nD hDC I5 fpC' hnC q
      · refine thn (T.item X' rfl rfl rfl hc i _ s3 _ H3 (fun _ _ => False) I3 (stat fr3) st3 go) fun r s4 ⟨u, hr, h4⟩ => ?_
        subst hr
        refine thn h4 fun _ s5 ⟨x, H5, I5, r5, y5, st5, fr5⟩ => ?_
        obtain ⟨hg, htt, hte⟩ := inner C s2 H1 fp (X.pn ++ pins)
        have I5' := I5.pinned (stat fr5) (T.obj _ _ st5)
        refine thn (hg _ s5 _ H5 x u _ I5' r5 (step x H5 y5 ls hls)) fun _ s6 ⟨σ6, H6, I6, ⟨l6, hl6, e6⟩, q6⟩ => ?_
        subst e6
        refine thn (htt _ s6 _ H6 _ I6 q6) fun ok s7 ⟨H7, I7, q7⟩ => ?_
        have again : ∀ {H8 : Hp} {s8 : Shared}, Inv X' ([(D, oD its k)] ++ Zq195 fp s5.heap) (l6 ++ inF fr σ) H8 s8 -> tn (i + 1) s8.heap /\ ∀ b ∈ fp, H8 b = none := fun {H8 s8} I8 => by
          refine ⟨T.keep _ _ _ st5 fun b hb o e => (I8.pin (b, o) (List.mem_append_right _ (List.mem_append_right _ (mem_pinsAt hb e)))).1, fun b hb => ?_⟩
          obtain ⟨o, e, d⟩ := T.obj _ _ st5 b hb
          exact (I8.pin (b, o) (List.mem_append_right _ (List.mem_append_right _ (mem_pinsAt hb e)))).2.1
        cases ok with
        | false =>
          rw [if_neg Bool.false_ne_true] at q7 ⊢
          obtain ⟨a1, a2⟩ := again I7
          exact ⟨m', hm, i + 1, l6, H7, ys, its, k, hl6, I7.unpinned, a1, a2, rv, q7⟩
        | true =>
          rw [if_pos rfl] at q7 ⊢
          refine thn (hte _ s7 _ H7 _ I7 q7) fun yv s8 ⟨y, H8, I8, r8, q8⟩ => ?_
          obtain ⟨a1, a2⟩ := again I8
          obtain ⟨pD, nD, _, nfD, _⟩ := I8.pin (D, oD its k) (List.mem_append_right _ (List.mem_append_left _ List.mem_cons_self))
          have nD : H8 D = none := nD
          have hl8 : s8.heap.PlainList D its.toArray := ⟨k, pD⟩
          have hlen : its.toArray.size <= sizeLine := by
            rw [List.size_toArray, ← rv.length]; omega
          refine wpAny_list_append_plain (hsz := hlen) hl8 fun h9 hl9 hs9 => ?_
          obtain ⟨k9, e9⟩ := hl9
          have I9 : Inv X' (Zq195 fp s5.heap) (l6 ++ inF fr σ) H8 s8 := I8.pins_of fun p hp => I8.pin p (List.mem_append_right _ (List.mem_append_right _ hp))
          have I10 : Inv X' (Zq195 fp s5.heap) (l6 ++ inF fr σ) H8 { s8 with heap := h9 } := by
            refine I9.turned (it := D) (t' := s8.toks) (fun b o hb e => (hs9.2 b hb).trans e) nD ?_ ?_ ?_ ?_
            · exact hDC
            · exact .inr (Nat.le_of_eq hDe)
            · exact fun x c e => fpD.2.2.2.2.1 x c (cl1 x c e)
            · intro p hp z
              rcases List.mem_append.mp hp with q | q
              · exact fpD.2.2.2.2.2 p q z
              · have := fpLt p.1 (of_pinsAt q).1
                exact (below p.1 this).2 z
          have e9' : h9.get? D = some (oD (its ++ [yv]) k9) := by
            rw [e9]; simp [oD]
          have I11 : Inv X' [(D, oD (its ++ [yv]) k9)] (l6 ++ inF fr σ) H8 { s8 with heap := h9 } := I10.pins_of fun p hp => by
            have e : p = (D, oD (its ++ [yv]) k9) := by simpa using hp
            subst e
            exact ⟨e9', nD, hDC, nfD, fun v z => by cases z⟩
          refine ⟨m', hm, i + 1, l6, H8, ys ++ [y], its ++ [yv], k9, hl6, I11, ?_, a2, Vals.append rv (.cons r8 .nil), q8⟩
          exact T.keep _ _ _ a1 fun b hb o e => (hs9.2 b (below b (fpLt b hb)).2).trans e
    · have e0 : List.replicate locs.length none ++ inF fr σ = inS locs fr σ := rfl
      obtain ⟨k0, eD⟩ := hacc
      refine ⟨0, List.replicate locs.length none, H1, [], [], k0, by simp, ?_, T.keep _ _ _ st0 fun b _ o e => old b o e, fun b hb => (hf b hb).1, .nil, w0⟩
      rw [e0]
      refine I1.pins_of fun p hp => ?_
      have e : p = (D, oD [] k0) := by simpa using hp
      subst e
      exact ⟨eD, fpD.1, hDC, stkN D fpD.2.1 fpD.2.2.1, fun v z => by cases z⟩
  exact codeAny_compStart_list (loop _ rfl) (T.self _ 0 _ _ _ (T.keep _ _ _ st0 fun b _ o e => old b o e) (loop _ rfl))
structure CompOk (X : Cx) (scope : Scope) (locs : List Str) (fr : List (Str × Nat)) : Prop where
  kind : scope.kind = .function
  nocell : ∀ y ∈ scope.names, y.2 ≠ .cell
  names : ∀ y ∈ scope.names, y.2 = .local -> scope.names.lookup y.1 = some .local
  own : ∀ x ∈ locs, scope.names.lookup x = some .local
  free : ∀ y ∈ scope.names, y.2 = .free -> y.1 ∈ fr.map (·.1)
  nd : (inN locs fr).Nodup
theorem FrOk.nil : FrOk X scope [] := ⟨(fun _ h => nomatch h), (fun _ h => nomatch h)⟩
theorem FrOk.cons {x : Str} {j : Nat} {fr : List (Str × Nat)} (h1 : X.N[j]? = some x) (h2 : X.env.kindOf x = some .cell \/ X.env.kindOf x = some .free) (h3 : scope.names.lookup x = some .free) (t : FrOk X scope fr) : FrOk X scope ((x, j) :: fr) :=
  ⟨fun p hp => (List.mem_cons.mp hp).elim (fun e => by subst e; exact ⟨h1, h2⟩) (t.slots p), fun p hp => (List.mem_cons.mp hp).elim (fun e => by subst e; exact h3) (t.kind p)⟩
theorem CompOk.clos {pins : List (Addr × Obj)} {σ : St} {H : Hp} {s : Shared} (S : CompOk X scope locs fr) (F : FrOk X scope fr) (I : Inv X pins σ H s) :
    ∃ cl, closureFor scope X.env = pure cl /\ (∀ x c, cl.lookup x = some c -> X.env.cells.lookup x = some c) /\ (∀ x, (x, NameKind.free) ∈ scope.names -> ∃ c, cl.lookup x = some c) := by
  refine closure_of fun p hp hk => ?_
  obtain ⟨q, hq, e⟩ := List.mem_map.mp (S.free p hp hk)
  obtain ⟨c, hc⟩ := I.ok.has q.1 (F.slots q hq).2
  exact ⟨c, e ▸ hc⟩
theorem pe_lcomp {wi : TI} (S : CompOk X scope locs fr) (F : FrOk X scope fr) (hc : X.calm = true) (hi : PI X tg iter wi)
    (inner : ∀ (cl : List (Str × Addr)) (C : Addr) (s0 : Shared) (H0 : Hp) (ex : List Addr) (pn : List (Addr × Obj)), PG (ccx X scope cl C (inN locs fr) s0 H0 ex pn) tg g /\ PTs (ccx X scope cl C (inN locs fr) s0 H0 ex pn) ifs tt /\ PE (ccx X scope cl C (inN locs fr) s0 H0 ex pn) elt te)
    (hs : ∀ x, foldedSetIterable iter X.env x = pure x := by intro _; rfl) : PE X (.ListComp elt [⟨tg, iter, ifs, 0⟩] scope pos) (tComp locs.length fr wi g tt te) := by
  intro pins s σ H Q I h
  obtain ⟨cl, hcl, cl1, cl2⟩ := S.clos F I
  rw [eval_ListComp]
  refine wpAny_comprehension_free (use := none) rfl hs hcl S.kind S.names (thn (hi pins s σ H _ I h) fun v s1 h1 => thn h1 fun itv s2 h2 => ?_)
  obtain ⟨it, fp, tn, J, H1, e, I2, T, st2, f2, W, w0, turn⟩ := h2
  subst e
  refine comp_core (QQ := fun ys H' => ∀ l, H' l = none -> Q (.ref l) (upd H' l (.lst ys))) hc S.kind S.nocell S.own F S.nd cl1 cl2 (inner cl) I2 T st2 f2 w0 turn fun D C ys H' s' m nD hDC I' fC hn q => ?_
  refine ⟨m, hn, fun h' hs' => ?_⟩
  obtain ⟨f0, f1, f2, f3, f4, f5⟩ := fC
  exact ⟨.ref D, _, I'.turned (it := C) (t' := s'.toks) (fun b o hb e => (hs'.2 b hb).trans e) f0 f1 f3 f4 f5, rfl, q D nD⟩
theorem ps_setC {wi : TI} {i : Nat} {x : Str} {pos' spos : Pos} (S : CompOk X scope locs fr) (F : FrOk X scope fr) (hc : X.calm = true) (hi : PI X tg iter wi)
    (inner : ∀ (cl : List (Str × Addr)) (C : Addr) (s0 : Shared) (H0 : Hp) (ex : List Addr) (pn : List (Addr × Obj)), PG (ccx X scope cl C (inN locs fr) s0 H0 ex pn) tg g /\ PTs (ccx X scope cl C (inN locs fr) s0 H0 ex pn) ifs tt /\ PE (ccx X scope cl C (inN locs fr) s0 H0 ex pn) elt te)
    (hN : X.N.Nodup) (hi0 : X.N[i]? = some x) (hx : X.env.scope.names.lookup x = some .local) (hsw : swapsWith (.ListComp elt [⟨tg, iter, ifs, 0⟩] scope pos) (some (.Name x pos')) spos.line X.env = pure true)
    (hs : ∀ x, foldedSetIterable iter X.env x = pure x := by intro _; rfl) : PS X (.Assign [.Name x pos'] (.ListComp elt [⟨tg, iter, ifs, 0⟩] scope pos) spos) (tAsg (tComp locs.length fr wi g tt te) (Zq88 i)) := by
  intro pins s σ H D0 I h
  obtain ⟨cl, hcl, cl1, cl2⟩ := S.clos F I
  rw [exec_Assign_Name_used _ _ _ _ hsw]
  refine wpAny_bind (wpAny_standAt (wpAny_bind ?_))
  show wpAny _ X.A (do let _ ← comprehension (.ListComp elt [⟨tg, iter, ifs, 0⟩] scope pos) scope X.env _ (newList []) false (eval iter X.env) (some (assign (.Name x pos') X.env))) _ _ s
  refine wpAny_bind (wpAny_mono (wpAny_comprehension_free (use := some (assign (.Name x pos') X.env)) (Q := fun _ s' => SP X pins D0 .next s') rfl hs hcl S.kind S.names (thn (hi pins s σ H _ I h) fun v s1 h1 => thn h1 fun itv s2 h2 => ?_)) (fun _ s' hq => wpAny_pure (wpAny_pure hq)) fun _ _ e => e)
  obtain ⟨it, fp, tn, J, H1, e, I2, T, st2, f2, W, w0, turn⟩ := h2
  subst e
  refine comp_core (QQ := fun ys H' => ∀ l, H' l = none -> Zq88 i (.ref l) σ (upd H' l (.lst ys)) D0.nx) hc S.kind S.nocell S.own F S.nd cl1 cl2 (inner cl) I2 T st2 f2 w0 turn fun D C ys H' s' m nD hDC I' fC hn q => ?_
  obtain ⟨f0, f1, f2, f3, f4, f5⟩ := fC
  obtain ⟨oC, es, ep, hoC, hdC, hrC⟩ := id hn
  have I6 : Inv X (pins ++ [(C, oC)]) σ (upd H' D (.lst ys)) s' := I'.pins_of fun p hp => (List.mem_append.mp hp).elim (fun z => I'.pin p (List.mem_append_right _ z)) fun z => by
    have e : p = (C, oC) := by simpa using z
    subst e
    exact ⟨hoC, f0, f1, f2, fun v z => by rw [hdC] at z; cases z⟩
  refine wpAny_assign_Name (store_ok (v := .ref D) I6 hN hi0 (.inl hx) rfl (fun s'' I'' => ?_) (.inr hx))
  obtain ⟨p1, p2, p3, p4, p5⟩ := I''.pin (C, oC) (List.mem_append_right _ (List.mem_append_right _ List.mem_cons_self))
  refine ⟨m, ⟨oC, es, ep, p1, hdC, hrC⟩, fun h' hs' => ?_⟩
  have I7 : Inv X pins (σ.set i (some (.ref D))) (upd H' D (.lst ys)) s'' := I''.unpinned
  exact ⟨_, _, I7.turned (it := C) (t' := s''.toks) (fun b o hb e => (hs'.2 b hb).trans e) p2 p3 f3 f4 f5, q D nD⟩
end
section
variable {X : Cx} {scope : Scope} {cl : List (Str × Addr)} {C : Addr} {N' : List Str} {s0 : Shared} {H0 : Hp} {ex : List Addr} {pn : List (Addr × Obj)}
theorem pvL (i : Nat) {x : Str} {pos : Pos} (hN : N'[i]? = some x := by rfl) (h : scope.names.lookup x = some .local := by rfl) (hd : (x == ("__debug__" : Str)) = false := by decide) (hcd : (x == ("__classdict__" : Str)) = false := by decide) :
    PE (ccx X scope cl C N' s0 H0 ex pn) (.Name x pos) (tVar i) := pe_var hN (.inl (lookup_relabel_local h)) hd hcd
theorem pvF (i : Nat) {x : Str} {pos : Pos} (hN : N'[i]? = some x := by rfl) (h : scope.names.lookup x = some .free := by rfl) (hd : (x == ("__debug__" : Str)) = false := by decide) (hcd : (x == ("__classdict__" : Str)) = false := by decide) :
    PE (ccx X scope cl C N' s0 H0 ex pn) (.Name x pos) (tVar i) := pe_var hN ((lookup_relabel_free h).elim (fun z => .inr (.inl z)) fun z => .inr (.inr z)) hd hcd
theorem pgL (i : Nat) {x : Str} {pos : Pos} (hnd : N'.Nodup) (hN : N'[i]? = some x := by rfl) (h : scope.names.lookup x = some .local := by rfl) : PG (ccx X scope cl C N' s0 H0 ex pn) (.Name x pos) (Zq88 i) :=
  pg_name (X := ccx X scope cl C N' s0 H0 ex pn) hnd hN (.inl (lookup_relabel_local h)) (.inr (lookup_relabel_local h))
end
end L2
end
section
set_option Elab.async false
set_option linter.all false
set_option maxRecDepth 100000
set_option maxHeartbeats 4000000
namespace L2
open PySem PySem.Spec PyProof.Rows
section
variable {X : Cx}
end
theorem isPart_opt {v : Value} {o : Option Int} (h : IsPart v o) : ∃ l : Option (Int × Tok), v = partValue l /\ l.map (·.1) = o := by
  cases h with
  | none => exact ⟨none, rfl, rfl⟩
  | int i t => exact ⟨some (i, t), rfl, rfl⟩
section
variable {X : Cx}
theorem sl_str : SlR X (fun x lo hi H Q => ∃ z, x = .str z /\ z.length <= sizeLine /\ Q (.str (Txt.slice z lo hi)) H) := by
  intro pins s σ H x v vl vu lo hi sl Q I rx hs pl pu h
  obtain ⟨z, rfl, hz, q⟩ := h
  obtain ⟨t, rfl⟩ := rx
  obtain ⟨l, rfl, rfl⟩ := isPart_opt pl
  obtain ⟨u, rfl, rfl⟩ := isPart_opt pu
  refine ⟨"str", _, F.slot_str_getitem.lookup, typeIs_str _ _ _, ?_⟩
  refine wpAny_getItem_str_slice (l := l) (u := u) (st := none) hs rfl (post_val_or_str ⟨Nat.le_trans (Txt.slice_le z _ _) hz, fun t' k => ?_⟩)
  exact ⟨.str _, H, I.tok _, ⟨t', rfl⟩, q⟩
end
theorem strsAre_of {ys : List Str} : ∀ {us : List Value}, Vals (ys.map V.str) us -> StrsAre us ys := by
  induction ys with
  | nil => intro us r; rw [List.map_nil] at r; cases r; exact .nil
  | cons n ns ih =>
    intro us r
    rw [List.map_cons] at r
    cases r with
    | cons r1 r2 =>
      obtain ⟨t, e⟩ := r1
      subst e
      exact .cons n t (ih r2)
section
variable {X : Cx}
theorem mt_join : MtR X "str.join" (fun x xs H Q => ∃ sep a ys, x = .str sep /\ xs = [.ref a] /\ SqL X.K H a (ys.map V.str) /\ (ys.map (·.length)).sum + ys.length * sep.length <= 16777216 /\ Q (.str (Txt.join sep ys)) H) := by
  intro pins s σ H x xs v us Q I rx rs h
  obtain ⟨sep, a, ys, rfl, rfl, ha, hz, q⟩ := h
  obtain ⟨t, rfl⟩ := rx
  obtain ⟨u, rfl, ru⟩ := Zq210 rs
  cases ru
  obtain ⟨its, r, p, _⟩ := I.list ha
  exact join_list p.isList (strsAre_of r) hz fun t' k => ⟨.str _, H, I.tok _, ⟨t', rfl⟩, q⟩
theorem call_all (hc : X.calm = true) : Zq146 X (.builtin "all") (fun xs H Q => ∃ (a : Addr) (bs : List Bool), xs = [.ref a] /\ SqL X.K H a (bs.map V.bl) /\ Q (.bl (bs.all id)) H) := by
  intro pins s σ H xs us Q I r h
  obtain ⟨a, bs, rfl, ha, q⟩ := h
  obtain ⟨u, rfl, ru⟩ := Zq210 r
  cases ru
  obtain ⟨its, rv, p, _⟩ := I.list ha
  have hlt : a < s.heap.objs.size := by obtain ⟨o, n, e, _⟩ := p; exact Heap.lt_size e
  refine call_all_walk (wpAny_pyIter_list p.isList ?_)
  refine ⟨s.heap.objs.size, _, _, _, _, _, fun i => bs.getD i true, rfl, Walks.list (A := X.A.in1) (I.ok.hd hc) _ a (Nat.ne_of_lt hlt) its.toArray, ⟨⟨_, Heap.get?_push_size _ rfl, rfl, rfl⟩, p.isList.push _⟩, ?_, fun h' tk hk => ?_⟩
  · intro i v s' Q' E' hv hq
    have hv : its.toArray[i]? = some v := hv
    have hv' : its[i]? = some v := by simpa using hv
    have hlen : bs.length = its.length := by have := rv.length; simpa using this
    have hi : i < its.length := (List.getElem?_eq_some_iff.mp hv').1
    have hb : (bs.map V.bl)[i]? = some (V.bl (bs.getD i true)) := by
      rw [List.getElem?_map, List.getD_eq_getElem?_getD, List.getElem?_eq_getElem (by omega)]
      rfl
    obtain ⟨u, hu, ru⟩ := rv.get hb
    rw [hv'] at hu
    cases hu
    cases ru
    exact wpAny_truthy_bool hq
  · have hlen : its.toArray.size = bs.length := by have := rv.length; simp at this ⊢; omega
    have e : (List.range its.toArray.size).all (fun i => bs.getD i true) = bs.all id := by
      rw [hlen, Bool.eq_iff_iff, List.all_eq_true, List.all_eq_true]
      constructor
      · intro h b hb
        obtain ⟨i, hi, e⟩ := List.mem_iff_getElem.mp hb
        have := h i (List.mem_range.mpr hi)
        rw [List.getD_eq_getElem?_getD, List.getElem?_eq_getElem hi, e] at this
        exact this
      · intro h i hi
        have hi := List.mem_range.mp hi
        rw [List.getD_eq_getElem?_getD, List.getElem?_eq_getElem hi]
        exact h _ (List.getElem_mem hi)
    refine ⟨.bl (bs.all id), H, I.kept (h' := h') (t' := tk) (fun b o eb => hk b o ?_ (Heap.get?_push_of_some _ eb)), by rw [e]; rfl, q⟩
    intro z
    have : b = s.heap.objs.size := by simpa using z
    exact absurd (Heap.lt_size eb) (by rw [this]; exact Nat.lt_irrefl _)
theorem call_isinst : Zq146 X (.builtin "isinstance") (fun xs H Q => ∃ x n t b, xs = [x, .ty n] /\ TyOf X.K H x t /\ PySem.W.kitOne X.K t (.type n) = some b /\ Q (.bl b) H) := by
  intro pins s σ H xs us Q I r h
  obtain ⟨x, n, t, b, rfl, ty, e, q⟩ := h
  obtain ⟨u, w', rfl, ru, rw'⟩ := vals2 r
  cases rw'
  exact isinst_ok I ru ty e fun tk => ⟨.bl b, H, I.tok _, rfl, q⟩
theorem call_sum (hc : X.calm = true) : Zq146 X (.builtin "sum") (fun xs H Q => ∃ (a : Addr) (ns : List Int), xs = [.ref a] /\ SqL X.K H a (ns.map V.int) /\ (∀ n ∈ ns, -1000000000 <= n /\ n <= 1000000000) /\ ns.length <= 1000000 /\ Q (.int ns.sum) H) := by
  intro pins s σ H xs us Q I r h
  obtain ⟨a, ns, rfl, ha, hb, hl, q⟩ := h
  obtain ⟨u, rfl, ru⟩ := Zq210 r
  cases ru
  obtain ⟨its, rv, p, _⟩ := I.list ha
  have hlt : a < s.heap.objs.size := by obtain ⟨o, n, e, _⟩ := p; exact Heap.lt_size e
  have hlen : ns.length = its.length := by have := rv.length; simpa using this
  have hpre : ∀ k, k <= ns.length -> preSum (fun i => ns.getD i 0) k = (ns.take k).sum := by
    intro k
    induction k with
    | zero => intro _; simp [preSum]
    | succ k ih =>
      intro hk
      have hk' : k < ns.length := hk
      rw [preSum, ih (Nat.le_of_lt hk'), List.take_add_one, List.sum_append, List.getD_eq_getElem?_getD, List.getElem?_eq_getElem hk']
      simp
  have bnd : ∀ l : List Int, (∀ n ∈ l, -1000000000 <= n /\ n <= 1000000000) -> -1000000000 * (l.length : Int) <= l.sum /\ l.sum <= 1000000000 * (l.length : Int) := by
    intro l
    induction l with
    | nil => intro _; simp
    | cons x l ih =>
      intro h
      have h1 := h x List.mem_cons_self
      have h2 := ih fun n hn => h n (List.mem_cons_of_mem _ hn)
      rw [List.sum_cons, List.length_cons]
      omega
  refine call_sum_walk (wpAny_pyIter_list p.isList ?_)
  refine ⟨s.heap.objs.size, _, _, _, _, _, fun i => ns.getD i 0, rfl, Walks.list (A := X.A.in1) (I.ok.hd hc) _ a (Nat.ne_of_lt hlt) its.toArray, ⟨⟨_, Heap.get?_push_size _ rfl, rfl, rfl⟩, p.isList.push _⟩, ?_, ?_, ?_, fun h' tk t' hk => ?_⟩
  · intro b hb
    show b < (s.heap.push _).objs.size
    rw [Heap.size_push]
    rcases List.mem_cons.mp hb with rfl | hb
    · exact Nat.lt_succ_self _
    · have : b = a := by simpa using hb
      subst this
      exact Nat.lt_succ_of_lt hlt
  · intro i v hv
    have hv : its.toArray[i]? = some v := hv
    have hv' : its[i]? = some v := by simpa using hv
    have hi : i < its.length := (List.getElem?_eq_some_iff.mp hv').1
    have hb : (ns.map V.int)[i]? = some (V.int (ns.getD i 0)) := by
      rw [List.getElem?_map, List.getD_eq_getElem?_getD, List.getElem?_eq_getElem (by omega)]
      rfl
    obtain ⟨u, hu, ru⟩ := rv.get hb
    rw [hv'] at hu
    cases hu
    exact ru
  · intro j hj
    have hj : j < its.toArray.size := hj
    rw [List.size_toArray] at hj
    have hj' : j < ns.length := by omega
    refine ⟨?_, ?_⟩
    · show InLong (ns.getD j 0)
      rw [List.getD_eq_getElem?_getD, List.getElem?_eq_getElem hj']
      have := hb _ (List.getElem_mem hj')
      show -(2 ^ 63) <= ns[j] /\ ns[j] < 2 ^ 63
      omega
    · rw [hpre (j + 1) hj']
      have := bnd (ns.take (j + 1)) fun n hn => hb n (List.mem_of_mem_take hn)
      have hl2 : (ns.take (j + 1)).length <= 1000000 := by rw [List.length_take]; omega
      show -(2 ^ 63) <= _ /\ _ < 2 ^ 63
      omega
  · have e : preSum (fun i => ns.getD i 0) its.toArray.size = ns.sum := by
      rw [List.size_toArray, ← hlen, hpre _ (Nat.le_refl _), List.take_length]
    refine ⟨.int ns.sum, H, I.kept (h' := h') (t' := tk) (fun b o eb => hk b o ?_ (Heap.get?_push_of_some _ eb)), ⟨t', by rw [e]⟩, q⟩
    intro z
    have : b = s.heap.objs.size := by simpa using z
    exact absurd (Heap.lt_size eb) (by rw [this]; exact Nat.lt_irrefl _)
def CallK (X : Cx) (f : Value) (kw : Str) (r : List V -> V -> Hp -> VK -> Prop) : Prop :=
  ∀ (pins : List (Addr × Obj)) (s : Shared) (σ : St) (H : Hp) (xs : List V) (us : List Value) (k : V) (ku : Value) (Q : VK), Inv X pins σ H s -> Vals xs us -> RelV k ku -> r xs k H Q ->
    wpAny (model X.prog X.w) X.A (call f us [(kw, ku)]) (EP X pins σ Q) X.xe s
end
section
variable {K : PySem.W.Frag}
end
end L2
end
section
set_option Elab.async false
set_option linter.all false
set_option maxRecDepth 100000
set_option maxHeartbeats 4000000
namespace L2
open PySem PySem.Spec PyProof.Rows
def Has (K : PySem.W.Frag) (mg : Str -> Option Value) (x : Str) (st : Stmt) : Prop := ∃ f fd, Fun K x x st f fd /\ mg x = some (.ref f)
def Fn (P : Program) (w : World) (K : PySem.W.Frag) (mg : Str -> Option Value) (base : Heap) (x : Str) (ps : List Str) (k : Nat) (sp : Sp) : Prop :=
  ∃ f fd, mg x = some (.ref f) /\ PySem.W.keepIn K (.ref f) = true /\ Binds K fd ps [] /\ FnOk P w K mg base CX0 k f fd ps sp
theorem Fn.imp {P : Program} {w : World} {K : PySem.W.Frag} {mg : Str -> Option Value} {base : Heap} {x : Str} {ps : List Str} {k : Nat} {sp sp' : Sp} (F : Fn P w K mg base x ps k sp) (h : ∀ vs H Q E, sp' vs H Q E -> sp vs H Q E) : Fn P w K mg base x ps k sp' :=
  let ⟨f, fd, a, b, c, d⟩ := F; ⟨f, fd, a, b, c, d.imp h⟩
section
variable {P : Program} {w : World} {K : PySem.W.Frag} {mg : Str -> Option Value} {base : Heap}
theorem Has.fn {x : Str} {st : Stmt} {N ps : List Str} {k : Nat} {sp : Sp} (h : Has K mg x st) (S : FnScope N ps (Zq0 st))
    (hb : ∀ (kV doc pm : Value) (an : Option Addr) (cdv ct : Value) (us : List Value), us.length = ps.length -> bindArgs (PySem.W.fnOf x x (Zq115 st) (Zq80 st) (Zq0 st) .none kV doc pm an cdv ct) ⟨us, []⟩ = pure (ps.zip us))
    (len : ∀ vs H Q E, sp vs H Q E -> vs.length = ps.length)
    (hbody : ∀ (f : Addr) (cdv : Value) (A : Around) (outer : List Env) (s : Shared) (H : Hp) (vs : List V) (Q : VK) (E : XK), Room k (A.deeper (envOfC x (Zq0 st) s.heap.objs.size f cdv)) -> sp vs H Q E ->
      ∃ t, PSs (cxOf CX0 P w K mg base N x (Zq0 st) f cdv A outer s H E).nox (Zq80 st) t /\ t { nx := fun _ H' => Q .non H', rt := Q } (Zq135 N vs) H) : Fn P w K mg base x ps (k + 1) sp := by
  obtain ⟨f, fd, F, hm⟩ := h
  exact ⟨f, fd, hm, F.kp, F.binds hb, F.ok S len fun cdv A outer s H vs Q E hr q => hbody f cdv A outer s H vs Q E hr q⟩
theorem Zq26 {h : Heap} {x : Str} {st : Stmt} {f : Addr} {oc : Value} {od an : Option Addr} {osl : Array (Option Value)} {kV doc pm cdv ct : Value} (KX : K.In h) (G : h.Ns mainGlobals mg)
    (a : PySem.W.nsIn K mainGlobals x = some (some (.ref f))) (l : K.lookup f = some ⟨oc, od, .func (PySem.W.fnOf x x (Zq115 st) (Zq80 st) (Zq0 st) .none kV doc pm an cdv ct), osl⟩)
    (c : PySem.W.codeIn K cdv x = true) (k : PySem.W.keepIn K (.ref f) = true) : Has K mg x st := ⟨f, _, fun_mk l c k, PySem.W.mg_of KX G a⟩
end
def tFn (sp : Sp) (t : TA) : TE := fun σ H Q => t σ H fun vs H1 => sp vs H1 Q E0
section
variable {X : Cx}
theorem pe_fn {k : Nat} {ps : List Str} {sp : Sp} {x : Str} {p pos : Pos} {e : Expr} {es : List Expr} {t : TA} (F : Fn X.prog X.w X.K X.mg X.base x ps k sp) (hr : Room k X.A) (hg : Gl X x) (ha : PA X (e :: es) t)
    (hdb : (x == ("__debug__" : Str)) = false := by decide) (he : starEach (e :: es) X.env = (false, eval e X.env) :: starEach es X.env := by rfl) (hpl : (backTo pos (starEach es X.env)).any (·.1) = false := by rfl) :
    PE X (.Call (.Name x p) (e :: es) [] pos) (tFn sp t) := by
  obtain ⟨f, fd, hm, hk, hb, G⟩ := F
  intro pins s σ H Q I h
  refine pe_call G hr hg hm hk hb .nil pass0 ha hdb he hpl pins s σ H Q I ?_
  have e : tCall sp [] E0 t = tFn sp t := by
    unfold tCall tFn
    simp only [List.append_nil]
  rw [e]
  exact h
theorem op_neg : UnR X (unaryOp .USub) (rU fun i => .int (-i)) := by
  intro pins s σ H x v Q I rx h
  obtain ⟨i, rfl, q⟩ := h
  obtain ⟨t, rfl⟩ := rx
  exact neg_int ⟨.int (-i), H, I.tok _, ⟨_, rfl⟩, q⟩
end
theorem Zq39 : bootBuiltins "len" = some (.builtin "len") := by decide +kernel
theorem b_max : bootBuiltins "max" = some (.builtin "max") := by decide +kernel
theorem b_min : bootBuiltins "min" = some (.builtin "min") := by decide +kernel
theorem b_sum : bootBuiltins "sum" = some (.builtin "sum") := by decide +kernel
theorem b_all : bootBuiltins "all" = some (.builtin "all") := by decide +kernel
theorem b_sorted : bootBuiltins "sorted" = some (.builtin "sorted") := by decide +kernel
theorem Zq58 : bootBuiltins "isinstance" = some (.builtin "isinstance") := by decide +kernel
theorem Zq176 : bootBuiltins "list" = some (.type "list") := by decide +kernel
theorem b_bool : bootBuiltins "bool" = some (.type "bool") := by decide +kernel
theorem b_int : bootBuiltins "int" = some (.type "int") := by decide +kernel
theorem b_str : bootBuiltins "str" = some (.type "str") := by decide +kernel
theorem b_tuple : bootBuiltins "tuple" = some (.type "tuple") := by decide +kernel
def SameX (s : Addr) (H H' : Hp) : Prop := ∀ b o, b ≠ s -> H b = some o -> H' b = some o
theorem SameX.refl {s : Addr} {H : Hp} : SameX s H H := fun _ _ _ e => e
theorem SameX.trans {s : Addr} {H H1 H2 : Hp} (a : SameX s H H1) (b : SameX s H1 H2) : SameX s H H2 := fun c o n e => b c o n (a c o n e)
theorem SameX.upd {s : Addr} {H : Hp} {o : HO} : SameX s H (upd H s o) := fun b _ n e => by rw [Zq7 n]; exact e
theorem SameX.new {s l : Addr} {H : Hp} {o : HO} (h : H l = none) : SameX s H (L2.upd H l o) := fun b _ _ e => by rw [Zq7 (Zq16 e h)]; exact e
theorem Same.new {l : Addr} {H : Hp} {o : HO} (h : H l = none) : Same H (L2.upd H l o) := fun b _ e => by rw [Zq7 (Zq16 e h)]; exact e
theorem Same.x {s : Addr} {H H' : Hp} (h : Same H H') : SameX s H H' := fun b o _ e => h b o e
def SrcAt (H : Hp) (s la : Addr) : Prop := ∃ (ns : List Int) (i big st cnt : Int), H s = some (.lst [.ref la, .int i, .int big, .int st, .int cnt]) /\ H la = some (.lst (ns.map V.int)) /\ 0 <= i /\ la ≠ s
theorem SrcAt.keep {H H' : Hp} {s la : Addr} (h : SrcAt H s la) (k : Same H H') : SrcAt H' s la := by
  obtain ⟨ns, i, big, st, cnt, h1, h2, h3, h4⟩ := h
  exact ⟨ns, i, big, st, cnt, k _ _ h1, k _ _ h2, h3, h4⟩
theorem SrcAt.keepX {H H' : Hp} {s la l : Addr} (h : SrcAt H s la) (k : SameX l H H') (n1 : l ≠ s) (n2 : l ≠ la) : SrcAt H' s la := by
  obtain ⟨ns, i, big, st, cnt, h1, h2, h3, h4⟩ := h
  exact ⟨ns, i, big, st, cnt, k _ _ n1.symm h1, k _ _ n2.symm h2, h3, h4⟩
theorem SrcAt.ne {H : Hp} {s la l : Addr} (h : SrcAt H s la) (hl : H l = none) : l ≠ s /\ l ≠ la := by
  obtain ⟨ns, i, big, st, cnt, h1, h2, h3, h4⟩ := h
  exact ⟨(Zq16 h1 hl).symm, (Zq16 h2 hl).symm⟩
end L2
namespace L2
open PySem PySem.Spec PyProof.Rows
theorem iteD {c A B : Prop} [Decidable c] (h1 : c -> A) (h2 : ¬ c -> B) : if decide c = true then A else B := by
  by_cases h : c
  · rw [if_pos (decide_eq_true h)]; exact h1 h
  · rw [if_neg (by rw [decide_eq_false h]; exact Bool.false_ne_true)]; exact h2 h
theorem Zq103 {c A B : Prop} [Decidable c] (h1 : ¬ c -> A) (h2 : c -> B) : if (!decide c) = true then A else B := by
  by_cases h : c
  · rw [if_neg (by rw [decide_eq_true h]; exact Bool.false_ne_true)]; exact h2 h
  · rw [if_pos (by rw [decide_eq_false h]; rfl)]; exact h1 h
theorem iteB {b : Bool} {A B : Prop} (h1 : b = true -> A) (h2 : b = false -> B) : if b = true then A else B := by
  cases b
  · rw [if_neg Bool.false_ne_true]; exact h2 rfl
  · rw [if_pos rfl]; exact h1 rfl
theorem iteNB {b : Bool} {A B : Prop} (h1 : b = false -> A) (h2 : b = true -> B) : if (!b) = true then A else B := by
  cases b
  · exact h1 rfl
  · exact h2 rfl
theorem at_ints {ns : List Int} {i : Int} (h0 : 0 <= i) (h1 : i < (ns.map V.int).length) : atI (ns.map V.int) i = some (.int (ns.getD i.toNat 0)) := by
  obtain ⟨j, rfl⟩ := Int.eq_ofNat_of_zero_le h0
  rw [List.length_map] at h1
  refine Zq40 ?_
  rw [List.getElem?_map, Int.toNat_natCast, List.getD_eq_getElem?_getD, List.getElem?_eq_getElem (by omega)]
  rfl
end L2
namespace L2
open PySem PySem.Spec PyProof.Rows
def Nm (sc : Scope) (x : Str) (k : NameKind) : Prop := sc.names.lookup x = some k /\ (x == ("__debug__" : Str)) = false /\ (x == ("__classdict__" : Str)) = false /\ x ≠ "__name__"
instance (sc : Scope) (x : Str) (k : NameKind) : Decidable (Nm sc x k) := by unfold Nm; exact inferInstance
section
variable {X : Cx} {x : Str} {pos : Pos}
theorem pvN (i : Nat) (n : Nm X.env.scope x .local) (hN : X.N[i]? = some x := by rfl) : PE X (.Name x pos) (tVar i) := pe_var hN (.inl n.1) n.2.1 n.2.2.1
theorem pvC (i : Nat) (n : Nm X.env.scope x .cell) (hN : X.N[i]? = some x := by rfl) : PE X (.Name x pos) (tVar i) := pe_var hN (.inr (.inl n.1)) n.2.1 n.2.2.1
theorem pe_globN {v : V} {u : Value} (n : Nm X.env.scope x .globalImplicit) (hm : X.mg x = some u) (r : RelV v u) : PE X (.Name x pos) (tC v) := pe_glob n.1 hm r n.2.1
theorem pe_bltnN {v : V} {u : Value} (n : Nm X.env.scope x .globalImplicit) (hm : X.mg x = none) (hv : bootBuiltins x = some u) (r : RelV v u) : PE X (.Name x pos) (tC v) := pe_bltn n.1 hm hv r n.2.2.2 n.2.1
theorem pe_fnN {k : Nat} {ps : List Str} {sp : Sp} {p : Pos} {e : Expr} {es : List Expr} {t : TA} (F : Fn X.prog X.w X.K X.mg X.base x ps k sp) (hr : Room k X.A) (n : Nm X.env.scope x .globalImplicit) (ha : PA X (e :: es) t)
    (he : starEach (e :: es) X.env = (false, eval e X.env) :: starEach es X.env := by rfl) (hpl : (backTo pos (starEach es X.env)).any (·.1) = false := by rfl) :
    PE X (.Call (.Name x p) (e :: es) [] pos) (tFn sp t) := pe_fn F hr n.1 ha n.2.1 he hpl
theorem pe_callBN {p : Pos} {e : Expr} {es : List Expr} {t : TA} {id : String} {r : List V -> Hp -> VK -> Prop} (hc : Zq146 X (.builtin id) r) (n : Nm X.env.scope x .globalImplicit) (hm : X.mg x = none) (hv : bootBuiltins x = some (.builtin id)) (ha : PA X (e :: es) t)
    (he : starEach (e :: es) X.env = (false, eval e X.env) :: starEach es X.env := by rfl) (hpl : (backTo pos (starEach es X.env)).any (·.1) = false := by rfl) : PE X (.Call (.Name x p) (e :: es) [] pos) (tCB r t) := pe_callB hc n.1 hm hv ha n.2.2.2 n.2.1 he hpl
theorem pe_callTyN {p : Pos} {e : Expr} {es : List Expr} {t : TA} {T : String} {r : List V -> Hp -> VK -> Prop} (hc : Zq146 X (.type T) r) (n : Nm X.env.scope x .globalImplicit) (hm : X.mg x = none) (hv : bootBuiltins x = some (.type T)) (ha : PA X (e :: es) t)
    (he : starEach (e :: es) X.env = (false, eval e X.env) :: starEach es X.env := by rfl) (hpl : (backTo pos (starEach es X.env)).any (·.1) = false := by rfl) : PE X (.Call (.Name x p) (e :: es) [] pos) (tCB r t) := pe_callTy hc n.1 hm hv ha n.2.2.2 n.2.1 he hpl
theorem ps_setN {i : Nat} {e : Expr} {te : TE} {pos' : Pos} (hN : X.N.Nodup) (n : Nm X.env.scope x .local) (he : PE X e te) (hi : X.N[i]? = some x := by rfl) (hs : swapsWith e (some (.Name x pos')) pos.line X.env = pure false := by rfl) :
    PS X (.Assign [.Name x pos'] e pos) (tAsg te (Zq88 i)) := ps_set hN hi (.inl n.1) he hs (.inr n.1)
theorem ps_setNC {i : Nat} {e : Expr} {te : TE} {pos' : Pos} (hN : X.N.Nodup) (n : Nm X.env.scope x .cell) (he : PE X e te) (hf : X.fn x = true := by rfl) (hi : X.N[i]? = some x := by rfl) (hs : swapsWith e (some (.Name x pos')) pos.line X.env = pure false := by rfl) :
    PS X (.Assign [.Name x pos'] e pos) (tAsg te (Zq88 i)) := ps_set hN hi (.inr n.1) he hs (.inl hf)
theorem ps_augN {i : Nat} {e : Expr} {te : TE} {op : Operator} {ti : TIp} {pos' : Pos} (hN : X.N.Nodup) (n : Nm X.env.scope x .local) (he : PE X e te) (ho : PIp X op ti) (hi : X.N[i]? = some x := by rfl) :
    PS X (.AugAssign (.Name x pos') op e pos) (tAug i te ti) := ps_aug hN hi (.inl n.1) he ho (.inr n.1)
theorem pg_nameN {i : Nat} (hN : X.N.Nodup) (n : Nm X.env.scope x .local) (hi : X.N[i]? = some x := by rfl) : PG X (.Name x pos) (Zq88 i) := pg_name hN hi (.inl n.1) (.inr n.1)
end
section
variable {X : Cx} {scope : Scope} {cl : List (Str × Addr)} {C : Addr} {N' : List Str} {s0 : Shared} {H0 : Hp} {ex : List Addr} {pn : List (Addr × Obj)} {x : Str} {pos : Pos}
theorem pvLN (i : Nat) (n : Nm scope x .local := by decide +kernel) (hN : N'[i]? = some x := by rfl) : PE (ccx X scope cl C N' s0 H0 ex pn) (.Name x pos) (tVar i) := pvL i hN n.1 n.2.1 n.2.2.1
theorem pvFN (i : Nat) (n : Nm scope x .free := by decide +kernel) (hN : N'[i]? = some x := by rfl) : PE (ccx X scope cl C N' s0 H0 ex pn) (.Name x pos) (tVar i) := pvF i hN n.1 n.2.1 n.2.2.1
theorem pgLN (i : Nat) (hnd : N'.Nodup) (n : Nm scope x .local := by decide +kernel) (hN : N'[i]? = some x := by rfl) : PG (ccx X scope cl C N' s0 H0 ex pn) (.Name x pos) (Zq88 i) := pgL i hnd hN n.1
theorem nmC (n : Nm scope x .globalImplicit := by decide +kernel) : Nm (ccx X scope cl C N' s0 H0 ex pn).env.scope x .globalImplicit := ⟨lookup_relabel (by decide) n.1, n.2⟩
theorem FrOk.consN {j : Nat} {fr : List (Str × Nat)} (n : Nm X.env.scope x .cell) (t : FrOk X scope fr) (m : Nm scope x .free := by decide +kernel) (h1 : X.N[j]? = some x := by rfl) : FrOk X scope ((x, j) :: fr) := .cons h1 (.inl n.1) m.1 t
end
end L2
end
section
set_option Elab.async false
set_option linter.all false
set_option maxRecDepth 100000
set_option maxHeartbeats 4000000
namespace L2
open PySem PySem.Spec PyProof.Rows
def cs (x : Str) : List Nat := x.cps.toList
theorem Zq94 (x : Str) : (cs x).length = x.length := by unfold cs; exact Array.length_toList
theorem cs_app (x y : Str) : cs (x ++ y) = cs x ++ cs y := by unfold cs; rw [PySem.Str.cps_append, Array.toList_append]
theorem cs_mk (l : List Nat) : cs ⟨l.toArray⟩ = l := by unfold cs; simp
theorem pick_range (xs : List Nat) (lo : Nat) : ∀ m, lo + m <= xs.length -> ((List.range m).map (lo + ·)).filterMap (xs[·]?) = (xs.drop lo).take m := by
  intro m
  induction m with
  | zero => intro _; simp
  | succ m ih =>
    intro h
    rw [List.range_succ, List.map_append, List.filterMap_append, ih (by omega), List.take_add_one, List.getElem?_drop]
    have : lo + m < xs.length := by omega
    simp [List.getElem?_eq_getElem this]
theorem cs_upto (x : Str) {i : Int} (h : 0 <= i) : cs (Txt.slice x none (some i)) = (cs x).take i.toNat := by
  have hl := Zq94 x
  have e : Builtin.Str.strSliceIndices none (some i) 1 x.length = (List.range (min i.toNat x.length)).map (0 + ·) := by
    unfold Builtin.Str.strSliceIndices sliceRange
    simp only [show (1 : Int) > 0 by decide, if_true]
    have e1 : (if i < 0 then i + (x.length : Int) else i) = i := if_neg (by omega)
    rw [e1]
    have e2 : (if (0 : Int) < max 0 (min i (x.length : Int)) then (max 0 (min i (x.length : Int)) - 0 + 1 - 1) / 1 else 0).toNat = min i.toNat x.length := by
      split <;> (try simp only [Int.ediv_one]) <;> omega
    rw [e2]
    apply List.map_congr_left
    intro k _
    omega
  unfold Txt.slice
  rw [e]
  split
  · rename_i hc
    have hc : ((List.range (min i.toNat x.length)).map (0 + ·)).length = x.length := by simpa using hc
    rw [List.length_map, List.length_range] at hc
    rw [List.take_of_length_le (by omega)]
  · rw [cs_mk]
    have := pick_range (cs x) 0 (min i.toNat x.length) (by omega)
    rw [List.drop_zero] at this
    have e3 : (cs x).take (min i.toNat x.length) = (cs x).take i.toNat := by
      rw [← hl]
      by_cases h1 : i.toNat <= (cs x).length
      · rw [Nat.min_eq_left h1]
      · rw [Nat.min_eq_right (by omega), List.take_of_length_le (by omega), List.take_of_length_le (by omega)]
    rw [← e3, ← this]
    congr 1
    funext k
    unfold cs
    simp
theorem cs_from (x : Str) {i : Int} (h : 0 <= i) : cs (Txt.slice x (some i) none) = (cs x).drop i.toNat := by
  have hl := Zq94 x
  have e : Builtin.Str.strSliceIndices (some i) none 1 x.length = (List.range (x.length - min i.toNat x.length)).map (min i.toNat x.length + ·) := by
    unfold Builtin.Str.strSliceIndices sliceRange
    simp only [show (1 : Int) > 0 by decide, if_true]
    have e1 : (if i < 0 then i + (x.length : Int) else i) = i := if_neg (by omega)
    rw [e1]
    have e2 : (if max 0 (min i (x.length : Int)) < (x.length : Int) then ((x.length : Int) - max 0 (min i (x.length : Int)) + 1 - 1) / 1 else 0).toNat = x.length - min i.toNat x.length := by
      split <;> (try simp only [Int.ediv_one]) <;> omega
    rw [e2]
    apply List.map_congr_left
    intro k _
    omega
  unfold Txt.slice
  rw [e]
  split
  · rename_i hc
    have hc : ((List.range (x.length - min i.toNat x.length)).map (min i.toNat x.length + ·)).length = x.length := by simpa using hc
    rw [List.length_map, List.length_range] at hc
    by_cases h0 : i.toNat = 0
    · rw [h0, List.drop_zero]
    · have : x.length = 0 := by omega
      rw [List.drop_of_length_le (by omega)]
      exact List.length_eq_zero_iff.mp (by omega)
  · rw [cs_mk]
    have := pick_range (cs x) (min i.toNat x.length) (x.length - min i.toNat x.length) (by omega)
    have e3 : ((cs x).drop (min i.toNat x.length)).take (x.length - min i.toNat x.length) = (cs x).drop i.toNat := by
      rw [List.take_of_length_le (by rw [List.length_drop]; omega)]
      by_cases h1 : i.toNat <= x.length
      · rw [Nat.min_eq_left h1]
      · rw [Nat.min_eq_right (by omega), List.drop_of_length_le (by omega), List.drop_of_length_le (by omega)]
    rw [← e3, ← this]
    congr 1
    funext k
    unfold cs
    simp
theorem cs_join0 : ∀ ys : List Str, cs (Txt.join "" ys) = (ys.map cs).flatten := by
  have go : ∀ (ys : List Str) (a : Array Nat), (ys.foldl (fun acc p => acc ++ (("" : Str)).cps ++ p.cps) a).toList = a.toList ++ (ys.map cs).flatten := by
    intro ys
    induction ys with
    | nil => intro a; simp
    | cons y r ih =>
      intro a
      rw [List.foldl_cons, ih]
      have : (("" : Str)).cps = #[] := by decide +kernel
      rw [this]
      simp [cs]
  intro ys
  show (cs (Builtin.Str.glued "" ys)) = _
  unfold Builtin.Str.glued
  cases ys with
  | nil => decide +kernel
  | cons y r =>
    show (List.foldl _ y.cps r).toList = _
    rw [go]
    rfl
def Low (x : Str) : Prop := ∀ c ∈ cs x, 97 <= c /\ c <= 122
def letters : Str := "abcdefghijklmnopqrstuvwxyz"
theorem letters_cs : cs letters = (List.range 26).map (97 + ·) := by decide +kernel
theorem letters_at {d : Int} (h0 : 0 <= d) (h1 : d < 26) : atI letters.cps.toList d = some (97 + d.toNat) := by
  obtain ⟨j, rfl⟩ := Int.eq_ofNat_of_zero_le h0
  refine Zq40 ?_
  show (cs letters)[j]? = _
  rw [letters_cs, List.getElem?_map, List.getElem?_range (by omega)]
  rfl
theorem comp_by {J : It} {nl : Nat} {fv : St} {g : TG} {tt : TTs} {te : TE} {Q : VK} {H : Hp} {xs : List V} (Pv : Nat -> List V -> Hp -> Prop) (h0 : Pv 0 [] H) (hn : xs.length <= 1000000)
    (hgo : ∀ i H ys, i < xs.length -> Pv i ys H -> J.go i H) (hy : ∀ i H x H' ys, i < xs.length -> Pv i ys H -> J.yld i H x H' -> H' = H /\ xs[i]? = some x) (hst : ∀ H ys, Pv xs.length ys H -> J.stop xs.length H)
    (hlen : ∀ i ys H, Pv i ys H -> ys.length <= i)
    (step : ∀ i x ys H, xs[i]? = some x -> Pv i ys H -> Zq159 nl fv g tt te x H (fun y H' => Pv (i + 1) (ys ++ [y]) H') fun H' => Pv (i + 1) ys H')
    (hd : ∀ ys H, Pv xs.length ys H -> ∀ l, H l = none -> Q (.ref l) (upd H l (.lst ys))) :
    Zq175 J nl fv g tt te Q H := by
  have mono : ∀ {x : V} {H : Hp} {Y Y' : V -> Hp -> Prop} {N N' : Hp -> Prop}, Zq159 nl fv g tt te x H Y N -> Y = Y' -> N = N' -> Zq159 nl fv g tt te x H Y' N' := fun h e1 e2 => by subst e1; subst e2; exact h
  refine ⟨fun i m ys H => m = xs.length - i /\ i <= xs.length /\ Pv i ys H, ⟨xs.length, by simp, Nat.zero_le _, h0⟩, ?_⟩
  rintro i m ys H ⟨rfl, hi, p⟩
  have hl := hlen i ys H p
  have hz : (1000000 : Nat) < sizeLine := by decide
  by_cases hlt : i < xs.length
  · refine .inr ⟨hgo i H ys hlt p, by omega, xs.length - (i + 1), by omega, fun x H' y => ?_⟩
    obtain ⟨e, ex⟩ := hy i H x H' ys hlt p y
    subst e
    refine mono (step i x ys _ ex p) ?_ ?_
    · funext y H4
      apply propext
      exact ⟨fun q => ⟨rfl, hlt, q⟩, fun q => q.2.2⟩
    · funext H3
      apply propext
      exact ⟨fun q => ⟨rfl, hlt, q⟩, fun q => q.2.2⟩
  · have e : i = xs.length := by omega
    subst e
    exact .inl ⟨hst H ys p, by omega, hd ys H p⟩
def rngV (lo : Int) (n : Nat) : List V := (List.range n).map fun k => V.int (lo + (k : Nat))
theorem rngV_len (lo : Int) (n : Nat) : (rngV lo n).length = n := by simp [rngV]
theorem rngV_get {lo : Int} {n i : Nat} {x : V} (h : (rngV lo n)[i]? = some x) : i < n /\ x = .int (lo + (i : Nat)) := by
  have hi : i < n := by have := (List.getElem?_eq_some_iff.mp h).1; rwa [rngV_len] at this
  refine ⟨hi, ?_⟩
  unfold rngV at h
  rw [List.getElem?_map, List.getElem?_range hi] at h
  exact (Option.some.inj h).symm
theorem comp_range {lo : Int} {n : Nat} {nl : Nat} {fv : St} {g : TG} {tt : TTs} {te : TE} {Q : VK} {H : Hp} (Pv : Nat -> List V -> Hp -> Prop) (h0 : Pv 0 [] H) (hn : n <= 1000000)
    (hlen : ∀ i ys H, Pv i ys H -> ys.length <= i)
    (step : ∀ i ys H, i < n -> Pv i ys H -> Zq159 nl fv g tt te (.int (lo + (i : Nat))) H (fun y H' => Pv (i + 1) (ys ++ [y]) H') fun H' => Pv (i + 1) ys H')
    (hd : ∀ ys H, Pv n ys H -> ∀ l, H l = none -> Q (.ref l) (upd H l (.lst ys))) :
    Zq175 (Itr lo n) nl fv g tt te Q H := by
  refine comp_by (xs := rngV lo n) Pv h0 (by rw [rngV_len]; exact hn) ?_ ?_ ?_ hlen ?_ ?_
  · intro i H ys hi _
    rw [rngV_len] at hi
    exact hi
  · rintro i H x H' ys hi _ ⟨rfl, rfl⟩
    rw [rngV_len] at hi
    refine ⟨rfl, ?_⟩
    unfold rngV
    rw [List.getElem?_map, List.getElem?_range hi]
    rfl
  · intro H ys _
    rw [rngV_len]
    exact Nat.le_refl _
  · intro i x ys H hx p
    obtain ⟨hi, rfl⟩ := rngV_get hx
    exact step i ys H hi p
  · intro ys H p
    rw [rngV_len] at p
    exact hd ys H p
theorem Zq61 {K : PySem.W.Frag} {a : Addr} {xs : List V} {nl : Nat} {fv : St} {g : TG} {tt : TTs} {te : TE} {Q : VK} {H : Hp} (Pv : Nat -> List V -> Hp -> Prop) (h0 : Pv 0 [] H) (hn : xs.length <= 1000000)
    (hl : ∀ i ys H, i <= xs.length -> Pv i ys H -> SqL K H a xs)
    (hlen : ∀ i ys H, Pv i ys H -> ys.length <= i)
    (step : ∀ i x ys H, xs[i]? = some x -> Pv i ys H -> Zq159 nl fv g tt te x H (fun y H' => Pv (i + 1) (ys ++ [y]) H') fun H' => Pv (i + 1) ys H')
    (hd : ∀ ys H, Pv xs.length ys H -> ∀ l, H l = none -> Q (.ref l) (upd H l (.lst ys))) :
    Zq175 (Itl K a) nl fv g tt te Q H := by
  refine comp_by (xs := xs) Pv h0 hn ?_ ?_ ?_ hlen step hd
  · intro i H ys hi p
    exact ⟨xs, xs[i], hl i ys H (Nat.le_of_lt hi) p, by simp [hi]⟩
  · rintro i H x H' ys hi p ⟨rfl, y⟩
    exact ⟨rfl, y xs (hl i ys _ (Nat.le_of_lt hi) p)⟩
  · intro H ys p
    exact ⟨xs, hl _ ys H (Nat.le_refl _) p, Nat.le_refl _⟩
theorem len1 {ls : St} (h : ls.length = 1) : ∃ a, ls = [a] := by
  match ls, h with
  | [a], _ => exact ⟨a, rfl⟩
theorem len2 {ls : St} (h : ls.length = 2) : ∃ a b, ls = [a, b] := by
  match ls, h with
  | [a, b], _ => exact ⟨a, b, rfl⟩
theorem len3 {ls : St} (h : ls.length = 3) : ∃ a b c, ls = [a, b, c] := by
  match ls, h with
  | [a, b, c], _ => exact ⟨a, b, c, rfl⟩
theorem len4 {ls : St} (h : ls.length = 4) : ∃ a b c d, ls = [a, b, c, d] := by
  match ls, h with
  | [a, b, c, d], _ => exact ⟨a, b, c, d, rfl⟩
end L2
end
section
set_option Elab.async false
set_option linter.all false
set_option maxRecDepth 100000
set_option maxHeartbeats 4000000
namespace L2
open PySem PySem.Spec PyProof.Rows
structure QE (X : Cx) (e : Expr) (t : TE) : Prop where
  h : PE X e t
structure QT (X : Cx) (e : Expr) (t : TT) : Prop where
  h : PT X e t
structure QW (X : Cx) (e : Expr) (t : TT) : Prop where
  h : PW X e t
structure QS (X : Cx) (s : Stmt) (t : TS) : Prop where
  h : PS X s t
structure QSs (X : Cx) (s : List Stmt) (t : TS) : Prop where
  h : PSs X s t
structure QA (X : Cx) (es : List Expr) (t : TA) : Prop where
  h : PA X es t
structure QG (X : Cx) (e : Expr) (t : TG) : Prop where
  h : PG X e t
structure QGs (X : Cx) (es : List Expr) (t : TGs) : Prop where
  h : PGs X es t
structure QI (X : Cx) (tg iter : Expr) (t : TI) : Prop where
  h : PI X tg iter t
structure QO (X : Cx) (e : Option Expr) (t : TO) : Prop where
  h : PO X e t
structure QTs (X : Cx) (es : List Expr) (t : TTs) : Prop where
  h : PTs X es t
structure QOp (X : Cx) (f : Value -> Value -> Sem Value) (r : R2) : Prop where
  h : OpR X f r
structure QUn (X : Cx) (f : Value -> Sem Value) (r : V -> Hp -> VK -> Prop) : Prop where
  h : UnR X f r
structure QC (X : Cx) (f : Value) (r : List V -> Hp -> VK -> Prop) : Prop where
  h : Zq146 X f r
structure QCk (X : Cx) (f : Value) (kw : Str) (r : List V -> V -> Hp -> VK -> Prop) : Prop where
  h : CallK X f kw r
structure QIx (X : Cx) (r : R2) : Prop where
  h : IxR X r
structure QSl (X : Cx) (r : V -> Option Int -> Option Int -> Hp -> VK -> Prop) : Prop where
  h : SlR X r
structure QM (X : Cx) (id : String) (r : V -> List V -> Hp -> VK -> Prop) : Prop where
  h : MtR X id r
structure QSet (X : Cx) (t : TSet) : Prop where
  h : PSet X t
structure QIp (X : Cx) (op : Operator) (t : TIp) : Prop where
  h : PIp X op t
section
variable {X : Cx} {a b c : Expr} {ta tb tc te : TE} {tA tB' : TT} {pos p p2 pos' : Pos} {st : Stmt} {rest : List Stmt} {t u : TS} {x : Str} {es : List Expr} {e : Expr}
theorem Zq20 : QSs X [] Zq231 := ⟨pss_nil⟩
theorem Zq4 (h1 : QS X st t) (h2 : QSs X rest u) : QSs X (st :: rest) (tSeq t u) := ⟨pss_cons h1.h h2.h⟩
theorem Zq6 (h1 : QS X st t) : QSs X [st] t := ⟨pss_one h1.h⟩
theorem Zq14 (h : QE X e te) : QS X (.Return (some e) pos) (tRet te) := ⟨ps_ret h.h⟩
theorem qs_continue : QS X (.Continue pos) tCont := ⟨ps_continue⟩
theorem Zq23 {c : Expr} {a b : List Stmt} {tc : TT} (hc : QT X c tc) (ha : QSs X a t) (hb : QSs X b u) : QS X (.If c a b pos) (tIfS tc t u) := ⟨ps_if hc.h ha.h hb.h⟩
theorem Zq132 (he : QE X e te) (hs : swapsWith e none pos.line X.env = pure false := by rfl) : QS X (.Expr e pos) (tDrop te) := ⟨ps_expr he.h hs⟩
theorem Zq12 {i : Nat} (hN : X.N.Nodup) (n : Nm X.env.scope x .local) (he : QE X e te) (hi : X.N[i]? = some x := by rfl) (hs : swapsWith e (some (.Name x pos')) pos.line X.env = pure false := by rfl) :
    QS X (.Assign [.Name x pos'] e pos) (tAsg te (Zq88 i)) := ⟨ps_setN hN n he.h hi hs⟩
theorem qs_setNC {i : Nat} (hN : X.N.Nodup) (n : Nm X.env.scope x .cell) (he : QE X e te) (hf : X.fn x = true := by rfl) (hi : X.N[i]? = some x := by rfl) (hs : swapsWith e (some (.Name x pos')) pos.line X.env = pure false := by rfl) :
    QS X (.Assign [.Name x pos'] e pos) (tAsg te (Zq88 i)) := ⟨ps_setNC hN n he.h hf hi hs⟩
theorem Zq160 {tg : Expr} {g : TG} (he : QE X e te) (hg : QG X tg g) (hs : swapsWithSole [tg] e pos.line X.env = pure false := by rfl) (hw : swappedStores [tg] e X.env = pure none := by rfl)
    (h1 : (assignEach [tg] X.env).map (·.2) = [assign tg X.env] := by rfl) : QS X (.Assign [tg] e pos) (tAsg te g) := ⟨ps_asg he.h hg.h hs hw h1⟩
theorem qs_augN {i : Nat} {op : Operator} {ti : TIp} (hN : X.N.Nodup) (n : Nm X.env.scope x .local) (he : QE X e te) (ho : QIp X op ti) (hi : X.N[i]? = some x := by rfl) :
    QS X (.AugAssign (.Name x pos') op e pos) (tAug i te ti) := ⟨ps_augN hN n he.h ho.h hi⟩
theorem qip_sub : QIp X .Sub (ipI fun i j => i - j) := ⟨ip_sub⟩
def tForW (J : It) (g : TG) (tb : TS) (D : Ends) (σ : St) (H1 : Hp) : Prop := ∃ W : Nat -> Nat -> St -> Hp -> Prop, (∃ m, W 0 m σ H1) /\ ∀ i m σ H, W i m σ H ->
  (J.stop i H /\ D.nx σ H) \/ (J.go i H /\ ∃ N : St -> Hp -> Prop, (∀ σ' H', N σ' H' -> ∃ m', m' < m /\ W (i + 1) m' σ' H') /\ ∀ x H', J.yld i H x H' -> g x σ H' fun σ2 H2 => tb { D with nx := N, ct := N, bk := D.nx } σ2 H2)
def tForQ (wi : TI) (g : TG) (tb : TS) : TS := fun D σ H => wi σ H fun J H1 => tForW J g tb D σ H1
theorem Zq64 {tg iter : Expr} {body : List Stmt} {wi : TI} {g : TG} (hp : PassesOwn (model X.prog X.w) X.A X.env X.xe) (hc : X.calm = true) (hi : QI X tg iter wi) (hg : QG X tg g) (hb : QSs X body t)
    (hs : ∀ x, foldedSetIterable iter X.env x = pure x := by intro _; rfl) : QS X (.For tg iter body [] pos) (tForQ wi g t) := ⟨ps_for hp hc hi.h hg.h hb.h hs⟩
theorem Zq27 {i : Nat} (hN : X.N.Nodup) (n : Nm X.env.scope x .local) (hi : X.N[i]? = some x := by rfl) : QG X (.Name x pos) (Zq88 i) := ⟨pg_nameN hN n hi⟩
theorem Zq69 : QGs X [] gNil := ⟨pgs_nil⟩
theorem Zq22 {t : TG} {u : TGs} (h1 : QG X e t) (h2 : QGs X es u) (hs : (assignEach (e :: es) X.env).map (·.2) = assign e X.env :: (assignEach es X.env).map (·.2) := by rfl) : QGs X (e :: es) (gCons t u) := ⟨pgs_cons h1.h h2.h hs⟩
theorem qg_tup {k : Nat} {t : TGs} {n : Nat} (hc : X.calm = true) (h : QGs X es t) (hn : (assignEach es X.env).length = n := by rfl) (hst : (assignEach es X.env).findIdx? (·.1) = none := by rfl) : QG X (.Tuple es k pos) (gTup X.K n t) := ⟨pg_tup hc h.h hn hst⟩
theorem Zq196 {o i : Expr} {to ti : TE} {t : TSet} (ho : QE X o to) (hi : QE X i ti) (hs : QSet X t)
    (ha : ∀ v, assign (.Subscript o i pos) X.env v = (do
      let ov ← holding [v] (eval o X.env)
      let iv ← holding [v, ov] (eval i X.env)
      standAt pos
      holding [v, ov, iv] (setItem ov iv v)
      release [v, ov, iv] []) := by intro _; rfl) : QG X (.Subscript o i pos) (gSub to ti t) := ⟨pg_sub ho.h hi.h hs.h ha⟩
theorem Zq139 : QSet X rSetL := ⟨set_list⟩
variable {tg : Expr}
theorem Zq28 {l : Expr} (hl : QE X l te) : QI X tg l (iList X.K te) := ⟨pi_list hl.h⟩
theorem Zq140 {a : Expr} {ta : TA} (hg : Gl X "range") (hm : X.mg "range" = none) (ha : QA X [a] ta) (hs : starEach [a] X.env = [(false, eval a X.env)] := by rfl) : QI X tg (.Call (.Name "range" p) [a] [] pos) (iRng1 ta) := ⟨pi_range1 hg hm ha.h hs⟩
theorem qi_range2 {a b : Expr} {ta : TA} (hg : Gl X "range") (hm : X.mg "range" = none) (ha : QA X [a, b] ta) (hs : starEach [a, b] X.env = [(false, eval a X.env), (false, eval b X.env)] := by rfl) (hs2 : starEach [b] X.env = [(false, eval b X.env)] := by rfl) :
    QI X tg (.Call (.Name "range" p) [a, b] [] pos) (iRng2 ta) := ⟨pi_range2 hg hm ha.h hs hs2⟩
theorem Zq2 : QA X [] tNil := ⟨pa_nil⟩
theorem Zq1 {t : TA} (ha : QE X e te) (hr : QA X es t) (hs : starEach (e :: es) X.env = (false, eval e X.env) :: starEach es X.env := by rfl) : QA X (e :: es) (Zq154 te t) := ⟨pa_cons ha.h hr.h hs⟩
theorem Zq70 {x1} {t : TA} (h : QA X es t) : QE X (.Tuple es x1 pos) (tTup t) := ⟨pe_tup h.h⟩
theorem Zq83 {t : TA} (h : QA X es t) : QE X (.List es pos) (tLst t) := ⟨pe_lst h.h⟩
theorem Zq177 (ha : QT X a tA) : QT X (.UnaryOp .Not a pos) (tNot tA) := ⟨pt_not ha.h⟩
theorem QW.pt (h : QW X e tA) : QT X e tA := ⟨PW.pt h.h⟩
theorem qw_and1 (ha : QT X a tA) : QW X (.BoolOp .And [a] pos) tA := ⟨pw_and1 ha.h⟩
theorem Zq197 (ha : QT X a tA) : QW X (.BoolOp .Or [a] pos) tA := ⟨pw_or1 ha.h⟩
theorem qw_and {rest : List Expr} (ha : QT X a tA) (hb : QW X (.BoolOp .And (b :: rest) pos) tB') : QW X (.BoolOp .And (a :: b :: rest) pos) (tAnd tA tB') := ⟨pw_and ha.h hb.h⟩
theorem Zq214 {rest : List Expr} (ha : QT X a tA) (hb : QW X (.BoolOp .Or (b :: rest) pos) tB') : QW X (.BoolOp .Or (a :: b :: rest) pos) (tOr tA tB') := ⟨pw_or ha.h hb.h⟩
theorem Zq15 {op : CmpOp} {r : R2} (ho : QOp X (compareOp op) r) (ha : QE X a ta) (hb : QE X b tb) (hm : behindInMarks op b = false) : QT X (.Compare a [op] [b] pos) (tTest (tOp r ta tb)) := ⟨pt_cmpR ho.h ha.h hb.h hm⟩
theorem Zq62 {op : CmpOp} {r : R2} (ho : QOp X (compareOp op) r) (ha : QE X a ta) (hb : QE X b tb) (hm : behindInMarks op b = false) : QE X (.Compare a [op] [b] pos) (tOp r ta tb) := ⟨pe_cmpR ho.h ha.h hb.h hm⟩
theorem qt_chain {op op' : CmpOp} {r r' : R2} (ho : QOp X (compareOp op) r) (ho' : QOp X (compareOp op') r') (ha : QE X a ta) (hb : QE X b tb) (hc : QE X c tc)
    (hm : lastMarks [op, op'] [b, c] = false := by with_unfolding_all rfl) : QT X (.Compare a [op, op'] [b, c] pos) (tTest (tChain r r' ta tb tc)) := ⟨pt_chain ho.h ho'.h ha.h hb.h hc.h hm⟩
theorem Zq95 (h : QE X e te) (he : ∀ whole, isTrue e X.env whole = (do let v ← whole; standAt e.pos; holding [v] (truthy v)) := by intro _; rfl) : QT X e (tB te) := ⟨pt_val h.h he⟩
theorem Zq5 {i j pos} : QE X (.Constant (.int i) j pos) (tC (.int i)) := ⟨pe_int⟩
theorem Zq56 {b j pos} : QE X (.Constant (.bool b) j pos) (tC (.bl b)) := ⟨pe_bl⟩
theorem Zq178 {j pos} : QE X (.Constant .none j pos) (tC .non) := ⟨pe_non⟩
theorem qe_str {x j pos} : QE X (.Constant (.str x) j pos) (tC (.str x)) := ⟨pe_str⟩
theorem qvN (i : Nat) (n : Nm X.env.scope x .local) (hN : X.N[i]? = some x := by rfl) : QE X (.Name x pos) (tVar i) := ⟨pvN i n hN⟩
theorem qvC (i : Nat) (n : Nm X.env.scope x .cell) (hN : X.N[i]? = some x := by rfl) : QE X (.Name x pos) (tVar i) := ⟨pvC i n hN⟩
theorem Zq24 {v : V} {u : Value} (n : Nm X.env.scope x .globalImplicit) (hm : X.mg x = some u) (r : RelV v u) : QE X (.Name x pos) (tC v) := ⟨pe_globN n hm r⟩
theorem Zq100 {v : V} {u : Value} (n : Nm X.env.scope x .globalImplicit) (hm : X.mg x = none) (hv : bootBuiltins x = some u) (r : RelV v u) : QE X (.Name x pos) (tC v) := ⟨pe_bltnN n hm hv r⟩
theorem Zq18 {op : Operator} {r : R2} (ho : QOp X (binaryOp op) r) (ha : QE X a ta) (hb : QE X b tb) : QE X (.BinOp a op b pos) (tOp r ta tb) := ⟨pe_op ho.h ha.h hb.h⟩
theorem qe_un {op : UnaryOp} {r : V -> Hp -> VK -> Prop} (ho : QUn X (unaryOp op) r) (ha : QE X a ta) : QE X (.UnaryOp op a pos) (tUn r ta) := ⟨pe_un ho.h ha.h⟩
theorem qe_not (ha : QE X a ta) : QE X (.UnaryOp .Not a pos) (tNotV ta) := ⟨pe_not ha.h⟩
theorem Zq179 {op} (h : QE X a ta) : QE X (.BoolOp op [a] pos) ta := ⟨pe_one h.h⟩
theorem Zq180 {rest : List Expr} (ha : QE X a ta) (hb : QE X (.BoolOp .And (b :: rest) pos) tb) : QE X (.BoolOp .And (a :: b :: rest) pos) (tAndV ta tb) := ⟨pe_and ha.h hb.h⟩
theorem qe_ifExp (hc : QT X c tA) (ha : QE X a ta) (hb : QE X b tb) : QE X (.IfExp c a b pos) (tIf tA ta tb) := ⟨pe_ifExp hc.h ha.h hb.h⟩
theorem Zq81 : QO X none tNoPart := ⟨po_none⟩
theorem Zq82 (h : QE X e te) : QO X (some e) (tPart te) := ⟨po_some h.h⟩
theorem Zq60 {lo hi : Option Expr} {tl th : TO} {r : V -> Option Int -> Option Int -> Hp -> VK -> Prop} (hr : QSl X r) (he : QE X e te) (hl : QO X lo tl) (hu : QO X hi th) : QE X (.Subscript e (.Slice lo hi none p2) pos) (tSl r te tl th) := ⟨pe_slice hr.h he.h hl.h hu.h⟩
theorem Zq10 {r : R2} (hr : QIx X r) (ha : QE X a ta) (hb : QE X b tb) (hs : PlainIx b) : QE X (.Subscript a b pos) (tOp r ta tb) := ⟨pe_ix hr.h ha.h hb.h hs⟩
theorem Zq8 {k : Nat} {ps : List Str} {sp : Sp} {t : TA} (F : Fn X.prog X.w X.K X.mg X.base x ps k sp) (hr : Room k X.A) (n : Nm X.env.scope x .globalImplicit) (ha : QA X (e :: es) t)
    (he : starEach (e :: es) X.env = (false, eval e X.env) :: starEach es X.env := by rfl) (hpl : (backTo pos (starEach es X.env)).any (·.1) = false := by rfl) :
    QE X (.Call (.Name x p) (e :: es) [] pos) (tFn sp t) := ⟨pe_fnN F hr n ha.h he hpl⟩
theorem Zq11 {t : TA} {id : String} {r : List V -> Hp -> VK -> Prop} (hc : QC X (.builtin id) r) (n : Nm X.env.scope x .globalImplicit) (hm : X.mg x = none) (hv : bootBuiltins x = some (.builtin id)) (ha : QA X (e :: es) t)
    (he : starEach (e :: es) X.env = (false, eval e X.env) :: starEach es X.env := by rfl) (hpl : (backTo pos (starEach es X.env)).any (·.1) = false := by rfl) : QE X (.Call (.Name x p) (e :: es) [] pos) (tCB r t) := ⟨pe_callBN hc.h n hm hv ha.h he hpl⟩
theorem qe_callTyN {t : TA} {T : String} {r : List V -> Hp -> VK -> Prop} (hc : QC X (.type T) r) (n : Nm X.env.scope x .globalImplicit) (hm : X.mg x = none) (hv : bootBuiltins x = some (.type T)) (ha : QA X (e :: es) t)
    (he : starEach (e :: es) X.env = (false, eval e X.env) :: starEach es X.env := by rfl) (hpl : (backTo pos (starEach es X.env)).any (·.1) = false := by rfl) : QE X (.Call (.Name x p) (e :: es) [] pos) (tCB r t) := ⟨pe_callTyN hc.h n hm hv ha.h he hpl⟩
theorem Zq147 {o : Expr} {to : TE} {t : TA} {name : Str} {apos cpos : Pos} {T id : String} {r : V -> List V -> Hp -> VK -> Prop} (pa : PlainAttrs T) (slot : Slot T name id) (hty : typeOf (.builtin id) = pure (.type "method_descriptor")) (hm : QM X id r) (ho : QE X o to) (ha : QA X (e :: es) t)
    (hbase : attributeBase o name X.env (eval o X.env) = eval o X.env := by rfl)
    (hfew : ((backTo cpos (starEach (e :: es) X.env)).all (fun x => !x.1) && (backToKw cpos (keywordEach [] X.env)).all (fun x => x.1.isSome)
      && decide ((e :: es).length + ([] : List Keyword).length + (if ([] : List Keyword).isEmpty then 0 else 1) < 30)) = true := by rfl)
    (hline : (apos.endLine == cpos.line) = true := by rfl) (hs : starEach (e :: es) X.env = (false, eval e X.env) :: starEach es X.env := by rfl) (hplain : (backTo cpos (starEach es X.env)).any (·.1) = false := by rfl) :
    QE X (.Call (.Attribute o name apos) (e :: es) [] cpos) (tBM X.K T r to t) := ⟨pe_bm pa slot hty hm.h ho.h ha.h hbase hfew hline hs hplain⟩
theorem Zq32 : QOp X (binaryOp .Add) (rI0 fun i j => .int (i + j)) := ⟨op_add⟩
theorem Zq105 : QOp X (binaryOp .Sub) (rI0 fun i j => .int (i - j)) := ⟨op_sub⟩
theorem qop_mul : QOp X (binaryOp .Mult) (rI CMul fun i j => .int (i * j)) := ⟨op_mul⟩
theorem qop_fdiv : QOp X (binaryOp .FloorDiv) (rI CDiv fun i j => .int (i / j)) := ⟨op_fdiv⟩
theorem qop_mod : QOp X (binaryOp .Mod) (rI (fun _ j => 0 < j) fun i j => .int (i % j)) := ⟨op_mod⟩
theorem qop_pow : QOp X (binaryOp .Pow) (rI CPow fun i j => .int (i ^ j.toNat)) := ⟨op_pow⟩
theorem qop_neg : QUn X (unaryOp .USub) (rU fun i => .int (-i)) := ⟨op_neg⟩
def rCatS : R2 := fun x y H Q => ∃ i j, x = .str i /\ y = .str j /\ i.length + j.length <= sizeLine /\ Q (.str (i ++ j)) H
theorem qop_add_str : QOp X (binaryOp .Add) rCatS := ⟨op_add_str⟩
theorem Zq89 : QOp X (binaryOp .Add) rCat := ⟨op_cat⟩
theorem qop_rep : QOp X (binaryOp .Mult) rRep := ⟨op_rep⟩
theorem Zq43 : QOp X (compareOp .Eq) rEq := ⟨op_eq⟩
theorem qop_ne : QOp X (compareOp .NotEq) rNe := ⟨op_ne⟩
theorem Zq181 : QOp X (compareOp .Lt) (rI0 fun i j => .bl (decide (i < j))) := ⟨op_lt⟩
theorem qop_le : QOp X (compareOp .LtE) (rI0 fun i j => .bl (decide (i <= j))) := ⟨op_le⟩
theorem qop_gt : QOp X (compareOp .Gt) (rI0 fun i j => .bl (decide (j < i))) := ⟨op_gt⟩
theorem qop_ge : QOp X (compareOp .GtE) (rI0 fun i j => .bl (decide (j <= i))) := ⟨op_ge⟩
def rIsN : R2 := fun x y H Q => y = .non /\ Q (.bl (decide (x = .non))) H
def rNotN : R2 := fun x y H Q => y = .non /\ Q (.bl (!decide (x = .non))) H
theorem qop_isN : QOp X (compareOp .Is) rIsN := ⟨op_isN⟩
theorem qop_notN : QOp X (compareOp .IsNot) rNotN := ⟨op_notN⟩
theorem qop_in_seq : QOp X (compareOp .In) (rIn X.K false) := ⟨op_in_seq⟩
theorem qop_notIn_seq : QOp X (compareOp .NotIn) (rIn X.K true) := ⟨op_notIn_seq⟩
theorem Zq21 : QIx X (rIxL X.K) := ⟨ix_list⟩
theorem Zq17 : QIx X (rIxT X.K) := ⟨ix_tup⟩
theorem qix_str : QIx X rIxS := ⟨ix_str⟩
theorem Zq91 : QSl X (rSlL X.K) := ⟨sl_list⟩
def rSlS : V -> Option Int -> Option Int -> Hp -> VK -> Prop := fun x lo hi H Q => ∃ z, x = .str z /\ z.length <= sizeLine /\ Q (.str (Txt.slice z lo hi)) H
theorem qsl_str : QSl X rSlS := ⟨sl_str⟩
def rLenSeq (K : PySem.W.Frag) : List V -> Hp -> VK -> Prop := fun xs H Q => ∃ p ys, xs = [.ref p] /\ (SqL K H p ys \/ SqT K H p ys) /\ Q (.int ys.length) H
theorem Zq13 : QC X (.builtin "len") (rLenSeq X.K) := ⟨call_len_seq⟩
def rLenS : List V -> Hp -> VK -> Prop := fun xs H Q => ∃ z, xs = [.str z] /\ z.length <= sizeLine /\ Q (.int z.length) H
theorem qcall_len_str : QC X (.builtin "len") rLenS := ⟨call_len_str⟩
def rMax2 : List V -> Hp -> VK -> Prop := fun xs H Q => ∃ i j, xs = [.int i, .int j] /\ Q (.int (if j > i then j else i)) H
def rMin2 : List V -> Hp -> VK -> Prop := fun xs H Q => ∃ i j, xs = [.int i, .int j] /\ Q (.int (if j < i then j else i)) H
theorem qcall_max2 (hc : X.calm = true) : QC X (.builtin "max") rMax2 := ⟨call_max2 hc⟩
theorem qcall_min2 (hc : X.calm = true) : QC X (.builtin "min") rMin2 := ⟨call_min2 hc⟩
def rAll (K : PySem.W.Frag) : List V -> Hp -> VK -> Prop := fun xs H Q => ∃ (a : Addr) (bs : List Bool), xs = [.ref a] /\ SqL K H a (bs.map V.bl) /\ Q (.bl (bs.all id)) H
theorem qcall_all (hc : X.calm = true) : QC X (.builtin "all") (rAll X.K) := ⟨call_all hc⟩
def rSum (K : PySem.W.Frag) : List V -> Hp -> VK -> Prop := fun xs H Q => ∃ (a : Addr) (ns : List Int), xs = [.ref a] /\ SqL K H a (ns.map V.int) /\ (∀ n ∈ ns, -1000000000 <= n /\ n <= 1000000000) /\ ns.length <= 1000000 /\ Q (.int ns.sum) H
theorem qcall_sum (hc : X.calm = true) : QC X (.builtin "sum") (rSum X.K) := ⟨call_sum hc⟩
def rIsInst (K : PySem.W.Frag) : List V -> Hp -> VK -> Prop := fun xs H Q => ∃ x n t b, xs = [x, .ty n] /\ TyOf K H x t /\ PySem.W.kitOne K t (.type n) = some b /\ Q (.bl b) H
theorem Zq59 : QC X (.builtin "isinstance") (rIsInst X.K) := ⟨call_isinst⟩
def rListOf (K : PySem.W.Frag) : List V -> Hp -> VK -> Prop := fun xs H Q => ∃ p ys, xs = [.ref p] /\ (SqL K H p ys \/ SqT K H p ys) /\ ∀ l, H l = none -> Q (.ref l) (upd H l (.lst ys))
theorem qcall_list_of : QC X (.type "list") (rListOf X.K) := ⟨call_list_of⟩
def rJoin (K : PySem.W.Frag) : V -> List V -> Hp -> VK -> Prop := fun x xs H Q => ∃ sep a ys, x = .str sep /\ xs = [.ref a] /\ SqL K H a (ys.map V.str) /\ (ys.map (·.length)).sum + ys.length * sep.length <= 16777216 /\ Q (.str (Txt.join sep ys)) H
theorem qmt_join : QM X "str.join" (rJoin X.K) := ⟨mt_join⟩
theorem Zq108 : QM X "list.append" rAppend := ⟨mt_append⟩
theorem qmt_popAt : QM X "list.pop" rPopAt := ⟨mt_popAt⟩
end
section
variable {g : TG} {tb : TS} {D : Ends} {σ : St} {H : Hp}
theorem forW_range {lo : Int} {n : Nat} (m : Nat) (hm : n = m) (Pv : Nat -> St -> Hp -> Prop) (h0 : Pv 0 σ H)
    (hs : ∀ i σ H, i < m -> Pv i σ H -> g (.int (lo + i)) σ H fun σ2 H2 => tb { D with nx := Pv (i + 1), ct := Pv (i + 1), bk := D.nx } σ2 H2) (hd : ∀ σ H, Pv m σ H -> D.nx σ H) : tForW (Itr lo n) g tb D σ H := by
  subst hm
  exact for_range Pv h0 hs hd
theorem Zq71 {K : PySem.W.Frag} {a : Addr} (xs : List V) (Pv : Nat -> St -> Hp -> Prop) (h0 : Pv 0 σ H) (hl : ∀ i σ H, i <= xs.length -> Pv i σ H -> SqL K H a xs)
    (hs : ∀ i x σ H, xs[i]? = some x -> Pv i σ H -> g x σ H fun σ2 H2 => tb { D with nx := Pv (i + 1), ct := Pv (i + 1), bk := D.nx } σ2 H2) (hd : ∀ σ H, Pv xs.length σ H -> D.nx σ H) : tForW (Itl K a) g tb D σ H := for_list Pv h0 hl hs hd
end
section
variable {X : Cx} {tg elt iter : Expr} {ifs : List Expr} {scope : Scope} {pos : Pos} {locs : List Str} {fr : List (Str × Nat)} {g : TG} {tt : TTs} {te : TE}
theorem Zq90 : QTs X [] (fun _ H Q => Q true H) := ⟨pts_nil⟩
theorem Zq158 {c : Expr} {t : TT} (h : QT X c t) : QTs X [c] t := ⟨pts_one h.h⟩
structure Inn (X : Cx) (scope : Scope) (N' : List Str) (tg : Expr) (ifs : List Expr) (elt : Expr) (g : TG) (tt : TTs) (te : TE) : Prop where
  h : ∀ (cl : List (Str × Addr)) (C : Addr) (s0 : Shared) (H0 : Hp) (ex : List Addr) (pn : List (Addr × Obj)), QG (ccx X scope cl C N' s0 H0 ex pn) tg g /\ QTs (ccx X scope cl C N' s0 H0 ex pn) ifs tt /\ QE (ccx X scope cl C N' s0 H0 ex pn) elt te
theorem Zq92 {wi : TI} (S : CompOk X scope locs fr) (F : FrOk X scope fr) (hc : X.calm = true) (hi : QI X tg iter wi) (inner : Inn X scope (inN locs fr) tg ifs elt g tt te)
    (hs : ∀ x, foldedSetIterable iter X.env x = pure x := by intro _; rfl) : QE X (.ListComp elt [⟨tg, iter, ifs, 0⟩] scope pos) (tComp locs.length fr wi g tt te) :=
  ⟨pe_lcomp S F hc hi.h (fun cl C s0 H0 ex pn => let ⟨a, b, c⟩ := inner.h cl C s0 H0 ex pn; ⟨a.h, b.h, c.h⟩) hs⟩
theorem Zq133 {wi : TI} {i : Nat} {x : Str} {pos' spos : Pos} (S : CompOk X scope locs fr) (F : FrOk X scope fr) (hc : X.calm = true) (hi : QI X tg iter wi) (inner : Inn X scope (inN locs fr) tg ifs elt g tt te)
    (hN : X.N.Nodup) (n : Nm X.env.scope x .local) (hsw : swapsWith (.ListComp elt [⟨tg, iter, ifs, 0⟩] scope pos) (some (.Name x pos')) spos.line X.env = pure true) (hi0 : X.N[i]? = some x := by rfl)
    (hs : ∀ x, foldedSetIterable iter X.env x = pure x := by intro _; rfl) : QS X (.Assign [.Name x pos'] (.ListComp elt [⟨tg, iter, ifs, 0⟩] scope pos) spos) (tAsg (tComp locs.length fr wi g tt te) (Zq88 i)) :=
  ⟨ps_setC S F hc hi.h (fun cl C s0 H0 ex pn => let ⟨a, b, c⟩ := inner.h cl C s0 H0 ex pn; ⟨a.h, b.h, c.h⟩) hN hi0 n.1 hsw hs⟩
end
section
variable {X : Cx} {scope : Scope} {cl : List (Str × Addr)} {C : Addr} {N' : List Str} {s0 : Shared} {H0 : Hp} {ex : List Addr} {pn : List (Addr × Obj)} {x : Str} {pos : Pos}
theorem qvLN (i : Nat) (n : Nm scope x .local := by decide +kernel) (hN : N'[i]? = some x := by rfl) : QE (ccx X scope cl C N' s0 H0 ex pn) (.Name x pos) (tVar i) := ⟨pvLN i n hN⟩
theorem qvFN (i : Nat) (n : Nm scope x .free := by decide +kernel) (hN : N'[i]? = some x := by rfl) : QE (ccx X scope cl C N' s0 H0 ex pn) (.Name x pos) (tVar i) := ⟨pvFN i n hN⟩
theorem qgLN (i : Nat) (hnd : N'.Nodup) (n : Nm scope x .local := by decide +kernel) (hN : N'[i]? = some x := by rfl) : QG (ccx X scope cl C N' s0 H0 ex pn) (.Name x pos) (Zq88 i) := ⟨pgLN i hnd n hN⟩
end
section
variable {P : Program} {w : World} {K : PySem.W.Frag} {mg : Str -> Option Value} {base : Heap}
theorem Has.fnQ {x : Str} {st : Stmt} {N ps : List Str} {k : Nat} {sp : Sp} (h : Has K mg x st) (S : FnScope N ps (Zq0 st))
    (hb : ∀ (kV doc pm : Value) (an : Option Addr) (cdv ct : Value) (us : List Value), us.length = ps.length -> bindArgs (PySem.W.fnOf x x (Zq115 st) (Zq80 st) (Zq0 st) .none kV doc pm an cdv ct) ⟨us, []⟩ = pure (ps.zip us))
    (len : ∀ vs H Q E, sp vs H Q E -> vs.length = ps.length)
    (hbody : ∀ (f : Addr) (cdv : Value) (A : Around) (outer : List Env) (s : Shared) (H : Hp) (vs : List V) (Q : VK) (E : XK), Room k (A.deeper (envOfC x (Zq0 st) s.heap.objs.size f cdv)) -> sp vs H Q E ->
      ∃ t, QSs (cxOf CX0 P w K mg base N x (Zq0 st) f cdv A outer s H E).nox (Zq80 st) t /\ t { nx := fun _ H' => Q .non H', rt := Q } (Zq135 N vs) H) : Fn P w K mg base x ps (k + 1) sp :=
  h.fn S hb len fun f cdv A outer s H vs Q E hr q => let ⟨t, a, b⟩ := hbody f cdv A outer s H vs Q E hr q; ⟨t, a.h, b⟩
end
end L2
namespace L2
open PySem PySem.Spec PyProof.Rows
theorem Zq170 {t u : TS} {D : Ends} {σ : St} {H : Hp} (R : St -> Hp -> Prop) (hu : ∀ σ' H', R σ' H' -> u D σ' H')
    (ht : ∀ D' : Ends, (∀ σ' H', R σ' H' -> D'.nx σ' H') -> (∀ v H', D.rt v H' -> D'.rt v H') -> (∀ σ' H', D.bk σ' H' -> D'.bk σ' H') -> (∀ σ' H', D.ct σ' H' -> D'.ct σ' H') -> t D' σ H) : tSeq t u D σ H :=
  ht { D with nx := u D } hu (fun _ _ h => h) (fun _ _ h => h) (fun _ _ h => h)
end L2
namespace L2
theorem gset {i : Nat} {v : V} {σ : St} {H : Hp} {Q : St -> Hp -> Prop} (h : Q (σ.set i (some v)) H) : Zq88 i v σ H Q := h
end L2
namespace L2
open PySem PySem.Spec PyProof.Rows
theorem Fun.okQ {P : Program} {w : World} {K : PySem.W.Frag} {mg : Str -> Option Value} {base : Heap} {x qual : Str} {st : Stmt} {f : Addr} {fd : FuncData} {N ps : List Str} {k : Nat} {sp : Sp} (F : Fun K x qual st f fd) (S : FnScope N ps (Zq0 st)) (len : ∀ vs H Q E, sp vs H Q E -> vs.length = ps.length)
    (hbody : ∀ (cdv : Value) (A : Around) (outer : List Env) (s : Shared) (H : Hp) (vs : List V) (Q : VK) (E : XK), Room k (A.deeper (envOfC qual (Zq0 st) s.heap.objs.size f cdv)) -> sp vs H Q E ->
      ∃ t, QSs (cxOf CX0 P w K mg base N qual (Zq0 st) f cdv A outer s H E).nox (Zq80 st) t /\ t { nx := fun _ H' => Q .non H', rt := Q } (Zq135 N vs) H) : FnOk P w K mg base CX0 (k + 1) f fd ps sp :=
  F.ok S len fun cdv A outer s H vs Q E hr q => let ⟨t, a, b⟩ := hbody cdv A outer s H vs Q E hr q; ⟨t, a.h, b⟩
end L2
namespace L2
open PySem PySem.Spec PyProof.Rows
section
variable {X : Cx} {scope : Scope} {cl : List (Str × Addr)} {C : Addr} {N' : List Str} {s0 : Shared} {H0 : Hp} {ex : List Addr} {pn : List (Addr × Obj)} {x : Str} {pos : Pos} {es : List Expr} {k : Nat} {t : TGs}
theorem Zq106 (n : Nat) (hc : X.calm = true) (h : QGs (ccx X scope cl C N' s0 H0 ex pn) es t) (hn : (assignEach es (ccx X scope cl C N' s0 H0 ex pn).env).length = n := by rfl) (hst : (assignEach es (ccx X scope cl C N' s0 H0 ex pn).env).findIdx? (·.1) = none := by rfl) :
    QG (ccx X scope cl C N' s0 H0 ex pn) (.Tuple es k pos) (gTup X.K n t) := ⟨pg_tup (X := ccx X scope cl C N' s0 H0 ex pn) hc h.h hn hst⟩
theorem qix_listC : QIx (ccx X scope cl C N' s0 H0 ex pn) (rIxL X.K) := ⟨ix_list (X := ccx X scope cl C N' s0 H0 ex pn)⟩
theorem qix_tupC : QIx (ccx X scope cl C N' s0 H0 ex pn) (rIxT X.K) := ⟨ix_tup (X := ccx X scope cl C N' s0 H0 ex pn)⟩
theorem qcall_list_ofC : QC (ccx X scope cl C N' s0 H0 ex pn) (.type "list") (rListOf X.K) := ⟨call_list_of (X := ccx X scope cl C N' s0 H0 ex pn)⟩
theorem qop_in_seqC : QOp (ccx X scope cl C N' s0 H0 ex pn) (compareOp .In) (rIn X.K false) := ⟨op_in_seq (X := ccx X scope cl C N' s0 H0 ex pn)⟩
end
end L2
end
section
set_option Elab.async false
set_option linter.all false
set_option maxRecDepth 100000
set_option maxHeartbeats 4000000
namespace L2
open PySem PySem.Spec PyProof.Rows
structure Drw (P : Program) (w : World) (it l : Addr) (St : Nat -> Heap -> Prop) (Hs : Heap -> List Value -> Prop) : Prop where
  obj : ∀ k h, St k h -> ∃ o, h.get? it = some o /\ ∀ v, o.data ≠ .cell v
  keep : ∀ k h h', St k h -> (∀ o, h.get? it = some o -> h'.get? it = some o) -> St k h'
  src : ∀ h h' its, Hs h its -> (∀ o, h.get? l = some o -> h'.get? l = some o) -> Hs h' its
  item : ∀ (A : Around) (k : Nat) (s : Shared) (its : List Value) (x : Value) (Q : Value -> Shared -> Prop) (E : Value -> Shared -> Prop), St k s.heap -> Hs s.heap its -> its[k]? = some x ->
    (∀ h', St (k + 1) h' -> Heap.SameBut it s.heap h' -> Q x { s with heap := h' }) -> wpAny (model P w) A (Builtin.SmallTypes.nextOf (.ref it)) Q E s
  done : ∀ (A : Around) (k : Nat) (s : Shared) (its : List Value) (Q : Value -> Shared -> Prop) (E : Value -> Shared -> Prop), A.handled = none -> St k s.heap -> Hs s.heap its -> its[k]? = none ->
    (∀ h' e, Heap.ExtBut it s.heap h' -> (∃ o, h'.get? e = some o /\ o.cls = .type "StopIteration") -> E (.ref e) { s with heap := h' }) -> wpAny (model P w) A (Builtin.SmallTypes.nextOf (.ref it)) Q E s
theorem drw_list {P : Program} {w : World} (it l : Addr) : Drw P w it l (fun k h => h.IsListIter it l k) (fun h its => h.IsList l its.toArray) where
  obj := fun k h st => by
    obtain ⟨o, e, c, d⟩ := st
    exact ⟨o, e, fun v z => by rw [d] at z; cases z⟩
  keep := fun k h h' st kk => st.at kk
  src := fun h h' its hl kk => hl.at kk
  item := fun A k s its x Q E st hl hx hQ => wpAny_nextOf_list_item st hl (by simpa using hx) hQ
  done := fun A k s its Q E hh st hl hx hE => wpAny_nextOf_list_end hh st hl (by simpa using hx) hE
section
variable {P : Program} {w : World} {A : Around} {E : Value -> Shared -> Prop} {s : Shared}
theorem nextT_item {it t : Addr} {k : Nat} {its : List Value} {x : Value} {Q : Value -> Shared -> Prop} (st : s.heap.IsTupleIter it t k) (ht : s.heap.IsTuple t its.toArray) (hx : its[k]? = some x)
    (hQ : ∀ h', h'.IsTupleIter it t (k + 1) -> Heap.SameBut it s.heap h' -> Q x { s with heap := h' }) : wpAny (model P w) A (Builtin.SmallTypes.nextOf (.ref it)) Q E s := by
  obtain ⟨o, ho, hc, hd⟩ := id st
  obtain ⟨ot, hot, _, nt, hdt⟩ := id ht
  unfold Builtin.SmallTypes.nextOf
  refine wpAny_bind (wpAny_callSpecial?_slot (name := Str.ofString "__next__") st.typeIs F.slot_tuple_iterator_next (wpAny_call_entry F.slot_tuple_iterator_next st.typeIs F.entry_tuple_iterator_next ?_ (F.args_tuple_iterator_next_1 _)))
  show wpAny _ _ (field (.ref it) 0 >>= _) _ _ s
  refine wpAny_bind (wpAny_field ho hd (x := .ref t) rfl ?_)
  show wpAny _ _ (if (Value.ref t == Value.none) = true then _ else _) _ _ s
  rw [if_neg (show ¬ ((Value.ref t == Value.none) = true) from Bool.false_ne_true)]
  show wpAny _ _ (field (.ref it) 1 >>= _) _ _ s
  refine wpAny_bind (wpAny_field ho hd (x := .int k 0) rfl ?_)
  show wpAny _ _ (seqItems? (.ref t) >>= _) _ _ s
  refine wpAny_bind (wpAny_seqItems hot hdt ?_)
  have hx' : its.toArray[k]? = some x := by simpa using hx
  simp only [Int.toNat_natCast, hx']
  refine wpAny_bind (wpAny_setField ho hd (by simp) ?_)
  refine wpAny_pure ⟨_, rfl, wpAny_pure (hQ _ ?_ (Heap.SameBut.update ..))⟩
  refine ⟨_, Heap.get?_update_self _ ho ?_, ?_, ?_⟩
  · obtain ⟨c, d, dt, sl⟩ := o; subst hd; rfl
  · obtain ⟨c, d, dt, sl⟩ := o; subst hd; exact hc
  · obtain ⟨c, d, dt, sl⟩ := o; subst hd; rfl
theorem nextT_end {it t : Addr} {k : Nat} {its : List Value} {Q : Value -> Shared -> Prop} (hh : A.handled = none) (st : s.heap.IsTupleIter it t k) (ht : s.heap.IsTuple t its.toArray) (hx : its[k]? = none)
    (hE : ∀ h' e, Heap.ExtBut it s.heap h' -> (∃ o, h'.get? e = some o /\ o.cls = .type "StopIteration") -> E (.ref e) { s with heap := h' }) : wpAny (model P w) A (Builtin.SmallTypes.nextOf (.ref it)) Q E s := by
  obtain ⟨o, ho, hc, hd⟩ := id st
  obtain ⟨ot, hot, _, nt, hdt⟩ := id ht
  unfold Builtin.SmallTypes.nextOf
  refine wpAny_bind (wpAny_callSpecial?_slot (name := Str.ofString "__next__") st.typeIs F.slot_tuple_iterator_next (wpAny_call_entry F.slot_tuple_iterator_next st.typeIs F.entry_tuple_iterator_next ?_ (F.args_tuple_iterator_next_1 _)))
  show wpAny _ _ (field (.ref it) 0 >>= _) _ _ s
  refine wpAny_bind (wpAny_field ho hd (x := .ref t) rfl ?_)
  show wpAny _ _ (if (Value.ref t == Value.none) = true then _ else _) _ _ s
  rw [if_neg (show ¬ ((Value.ref t == Value.none) = true) from Bool.false_ne_true)]
  show wpAny _ _ (field (.ref it) 1 >>= _) _ _ s
  refine wpAny_bind (wpAny_field ho hd (x := .int k 0) rfl ?_)
  show wpAny _ _ (seqItems? (.ref t) >>= _) _ _ s
  refine wpAny_bind (wpAny_seqItems hot hdt ?_)
  have hx' : its.toArray[k]? = none := by simpa using hx
  simp only [Int.toNat_natCast, hx']
  refine wpAny_bind (wpAny_rule (wpAny_bind (wpAny_setField ho hd (by simp) ?_)))
  show wpAny _ _ (newExc (.type "StopIteration") [] >>= _) _ _ _
  refine wpAny_bind ?_
  simp only [newExc, newTuple]
  refine wpAny_bind (wpAny_newObj_type ?_ (by size_fits))
  refine wpAny_bind (m := firstArgMember _ _) (wpAny_of_eq (a := Value.none) (by first | rfl | (simp only [firstArgMember]; rfl)) ?_)
  refine wpAny_newObj_type ?_ (by size_fits)
  simp only [raiseNew]
  refine wpAny_bind (wpAny_handled ?_)
  first | rw [show A.in1.handled = none from hh] | rw [hh]
  refine wpAny_bind (wpAny_pure (wpAny_throw ?_))
  exact hE _ _ (((Heap.SameBut.update ..).extBut.push _).push _) ⟨_, Heap.get?_push_size _ rfl, rfl⟩
end
theorem drw_tuple {P : Program} {w : World} (it l : Addr) : Drw P w it l (fun k h => h.IsTupleIter it l k) (fun h its => h.IsTuple l its.toArray) where
  obj := fun k h st => by
    obtain ⟨o, e, c, d⟩ := st
    exact ⟨o, e, fun v z => by rw [d] at z; cases z⟩
  keep := fun k h h' st kk => st.at kk
  src := fun h h' its hl kk => let ⟨o, e, r⟩ := hl; ⟨o, kk o e, r⟩
  item := fun A k s its x Q E st hl hx hQ => nextT_item st hl hx hQ
  done := fun A k s its Q E hh st hl hx hE => nextT_end hh st hl hx hE
structure ZA (z TI TO i1 i2 l1 l2 : Addr) : Prop where
  a1 : TI ≠ z
  a2 : TO ≠ z
  a3 : i1 ≠ z
  a4 : i2 ≠ z
  a5 : TI ≠ TO
  a6 : TI ≠ i1
  a7 : TI ≠ i2
  a8 : TO ≠ i1
  a9 : TO ≠ i2
  a10 : i1 ≠ i2
  b1 : l1 ≠ z
  b2 : l1 ≠ TO
  b3 : l1 ≠ i1
  b4 : l1 ≠ i2
  b5 : l2 ≠ z
  b6 : l2 ≠ TO
  b7 : l2 ≠ i1
  b8 : l2 ≠ i2
section
variable {P : Program} {w : World} {A : Around} {E : Value -> Shared -> Prop} {s : Shared} {z TI TO i1 i2 l1 l2 : Addr} {S1 S2 : Nat -> Heap -> Prop} {H1 H2 : Heap -> List Value -> Prop} {k : Nat} {xs ys : List Value} {x y a b : Value}
theorem zipD_item {Q : Value -> Shared -> Prop} (Z : ZA z TI TO i1 i2 l1 l2) (D1 : Drw P w i1 l1 S1 H1) (D2 : Drw P w i2 l2 S2 H2) (hz : IsZip s.heap z TI TO .none) (hTI : IsPair s.heap TI (.ref i1) (.ref i2)) (hTO : IsPair s.heap TO a b)
    (st1 : S1 k s.heap) (st2 : S2 k s.heap) (h1 : H1 s.heap xs) (h2 : H2 s.heap ys) (hx : xs[k]? = some x) (hy : ys[k]? = some y)
    (hQ : ∀ h', IsZip h' z TI TO (rawInt s.heap.objs.size) -> IsPair h' TO x y -> S1 (k + 1) h' -> S2 (k + 1) h' -> IsPair h' s.heap.objs.size x y ->
      (∀ c o, c ≠ z -> c ≠ TO -> c ≠ i1 -> c ≠ i2 -> s.heap.get? c = some o -> h'.get? c = some o) -> Q (.ref s.heap.objs.size) { s with heap := h' }) :
    wpAny (model P w) A (Builtin.«zip.__next__» ⟨[.ref z], []⟩) (fun fin s' => ∃ v, fin = .done (.ret v) /\ Q v s') E s := by
  show wpAny _ _ (field (.ref z) 2 >>= _) _ _ _
  refine wpAny_bind (wpAny_field hz rfl (x := .bool false) rfl ?_)
  show wpAny _ _ (field (.ref z) 3 >>= _) _ _ _
  refine wpAny_bind (wpAny_field hz rfl (x := .ref TI) rfl (wpAny_bind (wpAny_seqItems hTI rfl ?_)))
  show wpAny _ _ (Builtin.SmallTypes.ownedTupleIsFree (.ref z) >>= _) _ _ _
  refine wpAny_bind ?_
  unfold Builtin.SmallTypes.ownedTupleIsFree
  refine wpAny_bind (wpAny_field hz rfl (x := .none) rfl (wpAny_pure ?_))
  simp only [if_true]
  refine wpAny_bind (wpAny_rule (wpAny_bind (wpAny_field hz rfl (x := .ref TO) rfl (wpAny_bind (wpAny_setField_rec hz (by simp) fun g1 z1 e1 => ?_)))))
  replace z1 : IsZip g1 z TI TO .ellipsis := z1
  refine wpAny_bind ?_
  simp only [List.zipIdx_cons, List.zipIdx_nil, List.forIn_cons, List.forIn_nil]
  refine wpAny_bind (wpAny_bind (wpAny_onRaise ?_))
  show wpAny _ _ (Builtin.SmallTypes.nextOf (.ref i1) >>= _) _ _ _
  refine wpAny_bind (D1.item _ k _ xs x _ _ (D1.keep _ _ _ st1 fun o e => e1.extBut _ _ Z.a3 e) (D1.src _ _ _ h1 fun o e => e1.extBut _ _ Z.b1 e) hx fun g2 s12 e2 => wpAny_pure ?_)
  have t2 : IsPair g2 TO a b := e2.extBut _ _ Z.a8 (e1.extBut _ _ Z.a2 hTO)
  refine wpAny_bind (wpAny_seqItems t2 rfl (wpAny_bind (wpAny_updateSeq_pair t2 fun g3 t3 e3 => ?_)))
  replace t3 : IsPair g3 TO x b := t3
  refine wpAny_bind (wpAny_letGo (wpAny_pure (wpAny_bind (wpAny_bind (wpAny_onRaise ?_)))))
  show wpAny _ _ (Builtin.SmallTypes.nextOf (.ref i2) >>= _) _ _ _
  have up3 : ∀ c o, c ≠ z -> c ≠ TO -> c ≠ i1 -> s.heap.get? c = some o -> g3.get? c = some o := fun c o c1 c2 c3 e => e3.extBut _ _ c2 (e2.extBut _ _ c3 (e1.extBut _ _ c1 e))
  refine wpAny_bind (D2.item _ k _ ys y _ _ (D2.keep _ _ _ st2 fun o e => up3 _ _ Z.a4 Z.a9.symm Z.a10.symm e) (D2.src _ _ _ h2 fun o e => up3 _ _ Z.b5 Z.b6 Z.b7 e) hy fun g4 s24 e4 => wpAny_pure ?_)
  have t4 : IsPair g4 TO x b := e4.extBut _ _ Z.a9 t3
  refine wpAny_bind (wpAny_seqItems t4 rfl (wpAny_bind (wpAny_updateSeq_pair t4 fun g5 t5 e5 => ?_)))
  replace t5 : IsPair g5 TO x y := t5
  refine wpAny_bind (wpAny_letGo (wpAny_pure (wpAny_pure (wpAny_bind (wpAny_seqItems t5 rfl (wpAny_bind (wpAny_newTuple ?_)))))))
  have size5 : g5.objs.size = s.heap.objs.size := by rw [e5.1, e4.1, e3.1, e2.1, e1.1]
  have z5 : IsZip g5 z TI TO .ellipsis := e5.extBut _ _ Z.a2.symm (e4.extBut _ _ Z.a4.symm (e3.extBut _ _ Z.a2.symm (e2.extBut _ _ Z.a3.symm z1)))
  have up5 : ∀ c o, c ≠ z -> c ≠ TO -> c ≠ i1 -> c ≠ i2 -> s.heap.get? c = some o -> g5.get? c = some o := fun c o c1 c2 c3 c4 e => e5.extBut _ _ c2 (e4.extBut _ _ c4 (up3 c o c1 c2 c3 e))
  have s15 : S1 (k + 1) g5 := D1.keep _ _ _ s12 fun o e => e5.extBut _ _ Z.a8.symm (e4.extBut _ _ Z.a10 (e3.extBut _ _ Z.a8.symm e))
  have s25 : S2 (k + 1) g5 := D2.keep _ _ _ s24 fun o e => e5.extBut _ _ Z.a9.symm e
  have zlt : z < g5.objs.size := Heap.lt_size z5
  show wpAny _ _ (Builtin.SmallTypes.ownedTupleHandOut (.ref z) (.ref g5.objs.size) >>= _) _ _ _
  refine wpAny_bind ?_
  unfold Builtin.SmallTypes.ownedTupleHandOut
  have z6 : IsZip (g5.push { cls := .type "tuple", data := .seq #[x, y] }) z TI TO .ellipsis := Heap.get?_push_of_some _ z5
  refine wpAny_bind (wpAny_setField_rec z6 (by simp) fun g7 z7 e7 => ?_)
  replace z7 : IsZip g7 z TI TO (rawInt g5.objs.size) := z7
  refine wpAny_setField_rec z7 (by simp) fun g8 z8 e8 => ?_
  replace z8 : IsZip g8 z TI TO (rawInt g5.objs.size) := z8
  have up8 : ∀ c o, c ≠ z -> g5.get? c = some o -> g8.get? c = some o := fun c o c1 e => e8.extBut _ _ c1 (e7.extBut _ _ c1 (Heap.get?_push_of_some _ e))
  have p8 : IsPair g8 g5.objs.size x y := e8.extBut _ _ (Nat.ne_of_gt zlt) (e7.extBut _ _ (Nat.ne_of_gt zlt) (Heap.get?_push_size _ rfl))
  rw [size5] at z8 p8
  refine wpAny_pure ⟨_, rfl, ?_⟩
  show Q (.ref g5.objs.size) _
  rw [size5]
  exact hQ g8 z8 (up8 _ _ Z.a2 t5) (D1.keep _ _ _ s15 fun o e => up8 _ _ Z.a3 e) (D2.keep _ _ _ s25 fun o e => up8 _ _ Z.a4 e) p8 fun c o c1 c2 c3 c4 e => up8 c o c1 (up5 c o c1 c2 c3 c4 e)
theorem zipD_end {Q : PySem.Fin -> Shared -> Prop} (hh : A.handled = none) (Z : ZA z TI TO i1 i2 l1 l2) (D1 : Drw P w i1 l1 S1 H1) (D2 : Drw P w i2 l2 S2 H2) (hz : IsZip s.heap z TI TO .none) (hTI : IsPair s.heap TI (.ref i1) (.ref i2)) (hTO : IsPair s.heap TO a b)
    (st1 : S1 k s.heap) (st2 : S2 k s.heap) (h1 : H1 s.heap xs) (h2 : H2 s.heap ys) (hend : xs[k]? = none \/ ys[k]? = none)
    (hE : ∀ h' e, (∀ c o, c ≠ z -> c ≠ TO -> c ≠ i1 -> c ≠ i2 -> s.heap.get? c = some o -> h'.get? c = some o) -> (∃ o, h'.get? e = some o /\ o.cls = .type "StopIteration") -> E (.ref e) { s with heap := h' }) :
    wpAny (model P w) A (Builtin.«zip.__next__» ⟨[.ref z], []⟩) Q E s := by
  show wpAny _ _ (field (.ref z) 2 >>= _) _ _ _
  refine wpAny_bind (wpAny_field hz rfl (x := .bool false) rfl ?_)
  show wpAny _ _ (field (.ref z) 3 >>= _) _ _ _
  refine wpAny_bind (wpAny_field hz rfl (x := .ref TI) rfl (wpAny_bind (wpAny_seqItems hTI rfl ?_)))
  show wpAny _ _ (Builtin.SmallTypes.ownedTupleIsFree (.ref z) >>= _) _ _ _
  refine wpAny_bind ?_
  unfold Builtin.SmallTypes.ownedTupleIsFree
  refine wpAny_bind (wpAny_field hz rfl (x := .none) rfl (wpAny_pure ?_))
  simp only [if_true]
  refine wpAny_bind (wpAny_rule (wpAny_bind (wpAny_field hz rfl (x := .ref TO) rfl (wpAny_bind (wpAny_setField_rec hz (by simp) fun g1 z1 e1 => ?_)))))
  replace z1 : IsZip g1 z TI TO .ellipsis := z1
  refine wpAny_bind ?_
  simp only [List.zipIdx_cons, List.zipIdx_nil, List.forIn_cons, List.forIn_nil]
  refine wpAny_bind (wpAny_bind (wpAny_onRaise ?_))
  show wpAny _ _ (Builtin.SmallTypes.nextOf (.ref i1) >>= _) _ _ _
  have st1' := D1.keep _ _ _ st1 fun o e => e1.extBut _ _ Z.a3 e
  have h1' := D1.src _ _ _ h1 fun o e => e1.extBut _ _ Z.b1 e
  cases hx : xs[k]? with
  | none =>
    refine wpAny_bind (D1.done _ k _ xs _ _ hh st1' h1' hx fun g2 e e2 ⟨oe, hoe, hce⟩ => ?_)
    have z2 : IsZip g2 z TI TO .ellipsis := e2 _ _ Z.a3.symm z1
    have ne : e ≠ z := fun q => by subst q; rw [z2] at hoe; cases hoe; simp at hce
    exact wpAny_setField_rec z2 (by simp) fun g3 _ e3 => hE g3 e (fun c o c1 _ c3 _ q => e3.extBut _ _ c1 (e2 _ _ c3 (e1.extBut _ _ c1 q))) ⟨oe, e3.extBut _ _ ne hoe, hce⟩
  | some x =>
    have hy : ys[k]? = none := hend.elim (fun q => by rw [hx] at q; cases q) id
    refine wpAny_bind (D1.item _ k _ xs x _ _ st1' h1' hx fun g2 s12 e2 => wpAny_pure ?_)
    have t2 : IsPair g2 TO a b := e2.extBut _ _ Z.a8 (e1.extBut _ _ Z.a2 hTO)
    refine wpAny_bind (wpAny_seqItems t2 rfl (wpAny_bind (wpAny_updateSeq_pair t2 fun g3 t3 e3 => ?_)))
    refine wpAny_bind (wpAny_letGo (wpAny_pure (wpAny_bind (wpAny_bind (wpAny_onRaise ?_)))))
    show wpAny _ _ (Builtin.SmallTypes.nextOf (.ref i2) >>= _) _ _ _
    have up3 : ∀ c o, c ≠ z -> c ≠ TO -> c ≠ i1 -> s.heap.get? c = some o -> g3.get? c = some o := fun c o c1 c2 c3 e => e3.extBut _ _ c2 (e2.extBut _ _ c3 (e1.extBut _ _ c1 e))
    refine wpAny_bind (D2.done _ k _ ys _ _ hh (D2.keep _ _ _ st2 fun o e => up3 _ _ Z.a4 Z.a9.symm Z.a10.symm e) (D2.src _ _ _ h2 fun o e => up3 _ _ Z.b5 Z.b6 Z.b7 e) hy fun g4 e e4 ⟨oe, hoe, hce⟩ => ?_)
    have z4 : IsZip g4 z TI TO .ellipsis := e4 _ _ Z.a4.symm (e3.extBut _ _ Z.a2.symm (e2.extBut _ _ Z.a3.symm z1))
    have ne : e ≠ z := fun q => by subst q; rw [z4] at hoe; cases hoe; simp at hce
    exact wpAny_setField_rec z4 (by simp) fun g5 _ e5 => hE g5 e (fun c o c1 c2 c3 c4 q => e5.extBut _ _ c1 (e4 _ _ c4 (up3 c o c1 c2 c3 q))) ⟨oe, e5.extBut _ _ ne hoe, hce⟩
end
structure SqK (sq : PySem.W.Frag -> Hp -> Addr -> List V -> Prop) (Hs : Addr -> Heap -> List Value -> Prop) : Prop where
  get : ∀ {X : Cx} {pins : List (Addr × Obj)} {σ : St} {H : Hp} {s : Shared} {l : Addr} {xs : List V}, Inv X pins σ H s -> sq X.K H l xs -> ∃ its, Vals xs its /\ Hs l s.heap its
  inj : ∀ {X : Cx} {pins : List (Addr × Obj)} {σ : St} {H : Hp} {s : Shared} {l : Addr} {xs ys : List V}, Inv X pins σ H s -> sq X.K H l xs -> sq X.K H l ys -> xs = ys
theorem sqk_list : SqK SqL (fun l h its => h.IsList l its.toArray) := ⟨fun I h => let ⟨its, r, p, _⟩ := I.list h; ⟨its, r, p.isList⟩, fun I h h' => I.list_inj h h'⟩
theorem sqk_tup : SqK SqT (fun l h its => h.IsTuple l its.toArray) := ⟨fun I h => let ⟨its, r, p, _⟩ := I.tuple h; ⟨its, r, p⟩, fun I h h' => I.tuple_inj h h'⟩
def Itz (sq : PySem.W.Frag -> Hp -> Addr -> List V -> Prop) (K : PySem.W.Frag) (l1 l2 : Addr) : It :=
  ⟨fun i H => ∃ xs ys, sq K H l1 xs /\ sq K H l2 ys /\ i < xs.length /\ i < ys.length, fun i H v H' => ∃ p a b, v = .ref p /\ H p = none /\ H' = upd H p (.tup [a, b]) /\ ∀ xs ys, sq K H l1 xs -> sq K H l2 ys -> xs[i]? = some a /\ ys[i]? = some b,
    fun i H => ∃ xs ys, sq K H l1 xs /\ sq K H l2 ys /\ (xs.length <= i \/ ys.length <= i)⟩
theorem turn_zip {P : Program} {w : World} {K : PySem.W.Frag} {elts : List Expr} {ek : Nat} {epos : Pos} {sq : PySem.W.Frag -> Hp -> Addr -> List V -> Prop} {Hs : Addr -> Heap -> List Value -> Prop} {z TI TO i1 i2 l1 l2 : Addr} {S1 S2 : Nat -> Heap -> Prop}
    (SK : SqK sq Hs) (Z : ZA z TI TO i1 i2 l1 l2) (D1 : Drw P w i1 l1 S1 (Hs l1)) (D2 : Drw P w i2 l2 S2 (Hs l2)) :
    Turn P w K (.Tuple elts ek epos) (Itz sq K l1 l2) [z, TI, TO, i1, i2] z (fun i h => IsZip h z TI TO .none /\ IsPair h TI (.ref i1) (.ref i2) /\ (∃ a b, IsPair h TO a b) /\ S1 i h /\ S2 i h) where
  mem := by simp
  obj := fun i h st b hb => by
    obtain ⟨hz, hTI, ⟨a, c, hTO⟩, s1, s2⟩ := st
    simp only [List.mem_cons, List.not_mem_nil, or_false] at hb
    rcases hb with rfl | rfl | rfl | rfl | rfl
    · exact ⟨_, hz, fun v q => by cases q⟩
    · exact ⟨_, hTI, fun v q => by cases q⟩
    · exact ⟨_, hTO, fun v q => by cases q⟩
    · exact D1.obj _ _ s1
    · exact D2.obj _ _ s2
  keep := fun i h h' st k => by
    obtain ⟨hz, hTI, ⟨a, c, hTO⟩, s1, s2⟩ := st
    exact ⟨k z (by simp) _ hz, k TI (by simp) _ hTI, ⟨a, c, k TO (by simp) _ hTO⟩, D1.keep _ _ _ s1 fun o e => k i1 (by simp) o e, D2.keep _ _ _ s2 fun o e => k i2 (by simp) o e⟩
  item := by
    intro X hP hw hK hc i pins s σ H E I hf st hg
    subst hP hw hK
    obtain ⟨hz, hTI, ⟨a, b, hTO⟩, s1, s2⟩ := st
    obtain ⟨xs, ys, q1, q2, hx, hy⟩ := hg
    obtain ⟨its1, r1, w1⟩ := SK.get I q1
    obtain ⟨its2, r2, w2⟩ := SK.get I q2
    have gx : xs[i]? = some xs[i] := List.getElem?_eq_getElem hx
    have gy : ys[i]? = some ys[i] := List.getElem?_eq_getElem hy
    obtain ⟨u1, hu1, ru1⟩ := r1.get gx
    obtain ⟨u2, hu2, ru2⟩ := r2.get gy
    have hT : s.TypeIs (.ref z) "zip" := ⟨_, hz, rfl⟩
    unfold pyNext
    refine wpAny_bind (wpAny_attempt (wpAny_callSpecial?_slot (name := Str.ofString "__next__") hT F.slot_zip_next (wpAny_call_entry F.slot_zip_next hT F.entry_zip_next
      (zipD_item Z D1 D2 hz hTI hTO s1 s2 w1 w2 hu1 hu2 fun h' z1 t1 n1 n2 p1 kp => wpAny_pure ?_) (F.args_zip_next_1 _))))
    refine ⟨_, rfl, ?_⟩
    have nfp : ∀ c, c ∈ [z, TO, i1, i2] -> c ∈ [z, TI, TO, i1, i2] := fun c hc => by
      simp only [List.mem_cons, List.not_mem_nil, or_false] at hc ⊢
      rcases hc with q | q | q | q
      · exact .inl q
      · exact .inr (.inr (.inl q))
      · exact .inr (.inr (.inr (.inl q)))
      · exact .inr (.inr (.inr (.inr q)))
    have kp' : ∀ c o, c ∉ [z, TO, i1, i2] -> s.heap.get? c = some o -> h'.get? c = some o := fun c o hc e => kp c o (fun q => hc (by simp [q])) (fun q => hc (by simp [q])) (fun q => hc (by simp [q])) (fun q => hc (by simp [q])) e
    have hp : H s.heap.objs.size = none := I.hok.fresh (Nat.le_refl _)
    have ltp : ∀ c o, s.heap.get? c = some o -> c ≠ s.heap.objs.size := fun c o e => Nat.ne_of_lt (Heap.lt_size e)
    have ntr : ∀ c u, H c = some u -> c ∉ [z, TO, i1, i2] := fun c u e hc => by
      have := (hf c (nfp c hc)).1
      rw [this] at e; cases e
    have there4 : ∀ c, c ∈ [z, TO, i1, i2] -> ∃ o', h'.get? c = some o' := fun c hc => by
      simp only [List.mem_cons, List.not_mem_nil, or_false] at hc
      rcases hc with rfl | rfl | rfl | rfl
      · exact ⟨_, z1⟩
      · exact ⟨_, t1⟩
      · obtain ⟨o, e, _⟩ := D1.obj _ _ n1; exact ⟨o, e⟩
      · obtain ⟨o, e, _⟩ := D2.obj _ _ n2; exact ⟨o, e⟩
    have I1 : Inv X pins σ (upd H s.heap.objs.size (.tup [xs[i], ys[i]])) { s with heap := h' } := by
      refine I.step (g' := s.gens) (d' := s.drawn) (t' := s.toks) (ch := [z, TO, i1, i2]) (fun c hc => ?_) (fun c o _ _ hc e _ => kp' c o hc e) (fun c o _ _ hc e _ => ⟨o.slots, kp' c o hc e⟩) (fun c o hc e n => by rw [Zq7 (ltp c o e)]; exact n)
        (fun c o hc e => ⟨o, kp' c o hc e⟩) (fun c us e => by rw [Zq7 (Zq16 e hp)]; exact e) (fun c o u e => by rw [Zq7 (Zq16 e hp)]; exact e) (fun c ps e => ⟨#[], by rw [Zq7 (Zq16 e hp), e]; simp⟩) (fun m hm => ?_) ?_ I.bare
      · obtain ⟨f0, f1, f2, f3, f4, f5⟩ := hf c (nfp c hc)
        exact ⟨f3, f1, f4, f5⟩
      · refine hm.at fun o e => kp' _ o (fun hc => ?_) e
        exact (hf _ (nfp _ hc)).2.1 rfl
      · intro c u e
        by_cases hcp : c = s.heap.objs.size
        · subst hcp
          rw [Zq3] at e
          cases e
          exact ⟨by show 2 <= sizeLine; decide, [u1, u2], .cons ru1 (.cons ru2 .nil), ⟨_, p1, rfl, _, rfl⟩⟩
        · rw [Zq7 hcp] at e
          refine (I.hok c u e).stay (fun d v hd q => kp' d v ?_ q) (fun d q => by rw [Zq7 (Zq16 q hp)]; exact q) fun d us q => by rw [Zq7 (Zq16 q hp)]; exact q
          rcases hd with rfl | hd
          · exact ntr _ u e
          · exact ntr _ _ hd
    refine wpAny_letOwnedTupleGo_zip (s := { s with heap := h' }) z1 fun h2 z2 e2 => ?_
    obtain ⟨f0, f1, f2, f3, f4, f5⟩ := hf z (by simp)
    have nz : z ≠ s.heap.objs.size := ltp z _ hz
    have I2 : Inv X pins σ (upd H s.heap.objs.size (.tup [xs[i], ys[i]])) { s with heap := h2 } := I1.turned (s := { s with heap := h' }) (it := z) (t' := s.toks) (fun c o hc e => (e2.2 c hc).trans e) (by rw [Zq7 nz]; exact f0) f1 f3 f4 f5
    refine ⟨.ref s.heap.objs.size, _, I2, rfl, ⟨s.heap.objs.size, xs[i], ys[i], rfl, hp, rfl, fun xs' ys' q1' q2' => ?_⟩, ⟨z2, (e2.2 _ Z.a1).trans (kp' TI _ (fun hc => ?_) hTI), ⟨_, _, (e2.2 _ Z.a2).trans t1⟩, D1.keep _ _ _ n1 fun o e => (e2.2 _ Z.a3).trans e, D2.keep _ _ _ n2 fun o e => (e2.2 _ Z.a4).trans e⟩, fun c hc => ?_⟩
    · rw [SK.inj I q1' q1, SK.inj I q2' q2]
      exact ⟨gx, gy⟩
    · simp only [List.mem_cons, List.not_mem_nil, or_false] at hc
      rcases hc with q | q | q | q
      · exact Z.a1 q
      · exact Z.a5 q
      · exact Z.a6 q
      · exact Z.a7 q
    · obtain ⟨o, ho⟩ : ∃ o, s.heap.get? c = some o := by
        simp only [List.mem_cons, List.not_mem_nil, or_false] at hc
        rcases hc with rfl | rfl | rfl | rfl | rfl
        · exact ⟨_, hz⟩
        · exact ⟨_, hTI⟩
        · exact ⟨_, hTO⟩
        · obtain ⟨o, e, _⟩ := D1.obj _ _ s1; exact ⟨o, e⟩
        · obtain ⟨o, e, _⟩ := D2.obj _ _ s2; exact ⟨o, e⟩
      rw [Zq7 (ltp c o ho)]
      exact (hf c hc).1
  done := by
    intro X hP hw hK hc i pins s σ H E I hf st hg
    subst hP hw hK
    obtain ⟨hz, hTI, ⟨a, b, hTO⟩, s1, s2⟩ := st
    obtain ⟨xs, ys, q1, q2, hend⟩ := hg
    obtain ⟨its1, r1, w1⟩ := SK.get I q1
    obtain ⟨its2, r2, w2⟩ := SK.get I q2
    have hT : s.TypeIs (.ref z) "zip" := ⟨_, hz, rfl⟩
    have hend' : its1[i]? = none \/ its2[i]? = none := by
      have e1 := r1.length
      have e2 := r2.length
      rcases hend with q | q
      · exact .inl (List.getElem?_eq_none (by omega))
      · exact .inr (List.getElem?_eq_none (by omega))
    unfold pyNext
    refine wpAny_bind (wpAny_attempt (wpAny_callSpecial?_slot (name := Str.ofString "__next__") hT F.slot_zip_next (wpAny_call_entry F.slot_zip_next hT F.entry_zip_next (zipD_end (I.ok.hd hc) Z D1 D2 hz hTI hTO s1 s2 w1 w2 hend' fun h' e kp ⟨o, ho, hcl⟩ => ?_) (F.args_zip_next_1 _))))
    refine wpAny_bind (wpAny_isInstance (T := "StopIteration") (b := true) ⟨o, ho, hcl⟩ isSubtype_stop (wpAny_pure ⟨rfl, ?_⟩))
    have nfp : ∀ c, c ∈ [z, TO, i1, i2] -> c ∈ [z, TI, TO, i1, i2] := fun c hc => by
      simp only [List.mem_cons, List.not_mem_nil, or_false] at hc ⊢
      rcases hc with q | q | q | q
      · exact .inl q
      · exact .inr (.inr (.inl q))
      · exact .inr (.inr (.inr (.inl q)))
      · exact .inr (.inr (.inr (.inr q)))
    have kp' : ∀ c o, c ∉ [z, TO, i1, i2] -> s.heap.get? c = some o -> h'.get? c = some o := fun c o hc e => kp c o (fun q => hc (by simp [q])) (fun q => hc (by simp [q])) (fun q => hc (by simp [q])) (fun q => hc (by simp [q])) e
    have ntr : ∀ c u, H c = some u -> c ∉ [z, TO, i1, i2] := fun c u e hc => by
      have := (hf c (nfp c hc)).1
      rw [this] at e; cases e
    refine I.step (g' := s.gens) (d' := s.drawn) (t' := s.toks) (ch := [z, TO, i1, i2]) (fun c hc => ?_) (fun c o _ _ hc e _ => kp' c o hc e) (fun c o _ _ hc e _ => ⟨o.slots, kp' c o hc e⟩) (fun c o hc e n => n)
      (fun c o hc e => ⟨o, kp' c o hc e⟩) (fun c us e => e) (fun c o u e => e) (fun c ps e => ⟨#[], by rw [e]; simp⟩) (fun m hm => ?_) ?_ I.bare
    · obtain ⟨f0, f1, f2, f3, f4, f5⟩ := hf c (nfp c hc)
      exact ⟨f3, f1, f4, f5⟩
    · refine hm.at fun o e => kp' _ o (fun hc => ?_) e
      exact (hf _ (nfp _ hc)).2.1 rfl
    · intro c u e
      refine (I.hok c u e).stay (fun d v hd q => kp' d v ?_ q) (fun d q => q) fun d us q => q
      rcases hd with rfl | hd
      · exact ntr _ u e
      · exact ntr _ _ hd
  self := fun A i s Q E st h => wpAny_pyIter_zip st.1 h
abbrev tzA (h : Heap) (t1 : Addr) : Heap := h.push { cls := .type "tuple_iterator", data := .fields #[.ref t1, .int 0 0] }
abbrev tzB (h : Heap) (t1 t2 : Addr) : Heap := (tzA h t1).push { cls := .type "tuple_iterator", data := .fields #[.ref t2, .int 0 0] }
abbrev tzC (h : Heap) (t1 t2 : Addr) : Heap := (tzB h t1 t2).push { cls := .type "tuple", data := .seq #[.ref h.objs.size, .ref (tzA h t1).objs.size] }
abbrev tzD (h : Heap) (t1 t2 : Addr) : Heap := (tzC h t1 t2).push { cls := .type "tuple", data := .seq #[.none, .none] }
abbrev tzE (h : Heap) (t1 t2 : Addr) : Heap := (tzD h t1 t2).push { cls := .type "zip", data := .fields #[.none, .bool false, .bool false, .ref (tzB h t1 t2).objs.size, .ref (tzC h t1 t2).objs.size] }
theorem meets_zipT (l1 l2 : Addr) (xs ys : Array Value) : Meets (Builtin.«zip.__new__» ⟨[.type "zip", .ref l1, .ref l2], []⟩) (fun _ R s => s.heap.IsTuple l1 xs /\ s.heap.IsTuple l2 ys /\ R (.ok (.ret (.ref (tzD s.heap l1 l2).objs.size))) { s with heap := tzE s.heap l1 l2 }) :=
  .of_wp fun prog w A R s h => by
    obtain ⟨hp, g, d, tk, os⟩ := s; obtain ⟨hl1, hl2, h⟩ := h
    have hsub := sub_zip
    have hL1 : Heap.IsTuple (Shared.heap ⟨hp, g, d, tk, os⟩) l1 xs := hl1
    have hL2 : Heap.IsTuple (Shared.heap ⟨tzA hp l1, g, d, tk, os⟩) l2 ys := let ⟨o, e, r⟩ := hl2; ⟨o, Heap.get?_push_of_some _ e, r⟩
    wp_walk using wpAny_pyIter_tuple hL1, wpAny_pyIter_tuple hL2
    exact ⟨_, rfl, h⟩
section
variable {P : Program} {w : World} {A : Around} {E : Value -> Shared -> Prop} {s : Shared}
theorem call_zipT {l1 l2 : Addr} {xs ys : Array Value} {Q : Value -> Shared -> Prop} (hl1 : s.heap.IsTuple l1 xs) (hl2 : s.heap.IsTuple l2 ys)
    (h : ∀ h', IsZip h' (s.heap.objs.size + 4) (s.heap.objs.size + 2) (s.heap.objs.size + 3) .none -> IsPair h' (s.heap.objs.size + 2) (.ref s.heap.objs.size) (.ref (s.heap.objs.size + 1)) ->
      IsPair h' (s.heap.objs.size + 3) .none .none -> h'.IsTupleIter s.heap.objs.size l1 0 -> h'.IsTupleIter (s.heap.objs.size + 1) l2 0 ->
      (∀ c o, s.heap.get? c = some o -> h'.get? c = some o) -> Q (.ref (s.heap.objs.size + 4)) { s with heap := h' }) : wpAny (model P w) A (call (.type "zip") [.ref l1, .ref l2]) Q E s := by
  refine callType_new F.called_zip (by decide) (F.typeCall_zip_2 _ _) (F.newCall_zip_2 _ _) (fun obj => F.args_object_init_3 obj _ _) F.entry_zip_new (meets_zipT l1 l2 xs ys) ⟨hl1, hl2, ?_⟩
  have n1 : (tzA s.heap l1).objs.size = s.heap.objs.size + 1 := Heap.size_push ..
  have n2 : (tzB s.heap l1 l2).objs.size = s.heap.objs.size + 2 := by rw [Heap.size_push, n1]
  have n3 : (tzC s.heap l1 l2).objs.size = s.heap.objs.size + 3 := by rw [Heap.size_push, n2]
  have n4 : (tzD s.heap l1 l2).objs.size = s.heap.objs.size + 4 := by rw [Heap.size_push, n3]
  have q5 : (tzE s.heap l1 l2).get? (tzD s.heap l1 l2).objs.size = some _ := Heap.get?_push_size _ rfl
  have q4 : (tzE s.heap l1 l2).get? (tzC s.heap l1 l2).objs.size = some _ := Heap.get?_push_of_some _ (Heap.get?_push_size _ rfl)
  have q3 : (tzE s.heap l1 l2).get? (tzB s.heap l1 l2).objs.size = some _ := Heap.get?_push_of_some _ (Heap.get?_push_of_some _ (Heap.get?_push_size _ rfl))
  have q2 : (tzE s.heap l1 l2).get? (tzA s.heap l1).objs.size = some _ := Heap.get?_push_of_some _ (Heap.get?_push_of_some _ (Heap.get?_push_of_some _ (Heap.get?_push_size _ rfl)))
  have q1 : (tzE s.heap l1 l2).get? s.heap.objs.size = some _ := Heap.get?_push_of_some _ (Heap.get?_push_of_some _ (Heap.get?_push_of_some _ (Heap.get?_push_of_some _ (Heap.get?_push_size _ rfl))))
  show _ /\ _
  rw [n2, n3, n4] at q5
  rw [n1, n2] at q3
  rw [n3] at q4
  rw [n1] at q2
  rw [n4]
  exact ⟨⟨_, q5, rfl⟩, h _ q5 q3 q4 ⟨_, q1, rfl, rfl⟩ ⟨_, q2, rfl, rfl⟩ fun c o x => Heap.get?_push_of_some _ (Heap.get?_push_of_some _ (Heap.get?_push_of_some _ (Heap.get?_push_of_some _ (Heap.get?_push_of_some _ x))))⟩
end
theorem za_of {n l1 l2 : Addr} (h1 : l1 < n) (h2 : l2 < n) : ZA (n + 4) (n + 2) (n + 3) n (n + 1) l1 l2 := by
  have h1 : @LT.lt Nat _ l1 n := h1
  have h2 : @LT.lt Nat _ l2 n := h2
  have key : ∀ (a b : Nat), (a < b \/ b < a) -> ¬ (@Eq Nat a b) := fun a b h q => by omega
  exact ⟨key _ _ (by omega), key _ _ (by omega), key _ _ (by omega), key _ _ (by omega), key _ _ (by omega), key _ _ (by omega), key _ _ (by omega), key _ _ (by omega), key _ _ (by omega), key _ _ (by omega),
    key _ _ (by omega), key _ _ (by omega), key _ _ (by omega), key _ _ (by omega), key _ _ (by omega), key _ _ (by omega), key _ _ (by omega), key _ _ (by omega)⟩
def iZip (K : PySem.W.Frag) (ta : TA) : TI := fun σ H R => ta σ H fun vs H1 => ∃ l1 l2, vs = [.ref l1, .ref l2] /\
  ((∃ xs ys, SqL K H1 l1 xs /\ SqL K H1 l2 ys /\ R (Itz SqL K l1 l2) H1) \/ (∃ xs ys, SqT K H1 l1 xs /\ SqT K H1 l2 ys /\ R (Itz SqT K l1 l2) H1))
theorem pi_zip {X : Cx} {a b : Expr} {ta : TA} {p pos : Pos} {elts : List Expr} {ek : Nat} {epos : Pos} (hg : Gl X "zip") (hm : X.mg "zip" = none) (ha : PA X [a, b] ta) (hs : starEach [a, b] X.env = [(false, eval a X.env), (false, eval b X.env)] := by rfl) (hs2 : starEach [b] X.env = [(false, eval b X.env)] := by rfl) :
    PI X (.Tuple elts ek epos) (.Call (.Name "zip" p) [a, b] [] pos) (iZip X.K ta) := by
  intro pins s σ H R I h
  refine Call_ (Zq138 I hg hm boot_zip (PyProof.Rows.callWith_type1 (thn (ha pos pins s σ H _ I h) fun us s1 ⟨vs, H1, I1, r1, q1⟩ => ?_) (by rw [hs, hs2]) (by rw [hs2]; rfl)))
  obtain ⟨l1, l2, e, q1⟩ := q1
  subst e
  obtain ⟨u1, u2, rfl, ru1, ru2⟩ := vals2 r1
  cases ru1
  cases ru2
  have fin : ∀ {sq : PySem.W.Frag -> Hp -> Addr -> List V -> Prop} {Hs : Addr -> Heap -> List Value -> Prop} {S1 S2 : Nat -> Heap -> Prop} {h' : Heap}, SqK sq Hs -> l1 < s1.heap.objs.size -> l2 < s1.heap.objs.size -> Drw X.prog X.w s1.heap.objs.size l1 S1 (Hs l1) -> Drw X.prog X.w (s1.heap.objs.size + 1) l2 S2 (Hs l2) ->
      IsZip h' (s1.heap.objs.size + 4) (s1.heap.objs.size + 2) (s1.heap.objs.size + 3) .none -> IsPair h' (s1.heap.objs.size + 2) (.ref s1.heap.objs.size) (.ref (s1.heap.objs.size + 1)) -> IsPair h' (s1.heap.objs.size + 3) .none .none -> S1 0 h' -> S2 0 h' -> (∀ c o, s1.heap.get? c = some o -> h'.get? c = some o) -> R (Itz sq X.K l1 l2) H1 ->
      wpAny (model X.prog X.w) X.A (pyIter (.ref (s1.heap.objs.size + 4))) (PIE X pins σ (.Tuple elts ek epos) R) X.xe { s1 with heap := h' } := by
    intro sq Hs S1 S2 h' SK b1 b2 D1 D2 z0 t1 t0 st1 st2 kp q
    refine wpAny_pyIter_zip z0 ?_
    refine ⟨s1.heap.objs.size + 4, _, _, _, H1, rfl, I1.kept (h' := h') (t' := s1.toks) kp, turn_zip SK (za_of b1 b2) D1 D2, ⟨z0, t1, ⟨_, _, t0⟩, st1, st2⟩, fun c hc => ?_, q⟩
    have hle : s1.heap.objs.size <= c := by
      simp only [List.mem_cons, List.not_mem_nil, or_false] at hc
      have : (s1.heap.objs.size : Nat) <= (c : Nat) := by rcases hc with rfl | rfl | rfl | rfl | rfl <;> omega
      exact this
    exact I1.fpOk hle (I1.hok.fresh hle)
  rcases q1 with ⟨xs, ys, h1, h2, q⟩ | ⟨xs, ys, h1, h2, q⟩
  · obtain ⟨its1, r1, p1, _⟩ := I1.list h1
    obtain ⟨its2, r2, p2, _⟩ := I1.list h2
    have b1 : l1 < s1.heap.objs.size := by obtain ⟨o, n, e, _⟩ := p1; exact Heap.lt_size e
    have b2 : l2 < s1.heap.objs.size := by obtain ⟨o, n, e, _⟩ := p2; exact Heap.lt_size e
    exact call_zip_2 p1.isList p2.isList fun h' z0 t1 t0 st1 st2 _ kp => fin sqk_list b1 b2 (drw_list _ _) (drw_list _ _) z0 t1 t0 st1 st2 kp q
  · obtain ⟨its1, r1, p1, _⟩ := I1.tuple h1
    obtain ⟨its2, r2, p2, _⟩ := I1.tuple h2
    have b1 : l1 < s1.heap.objs.size := by obtain ⟨o, e, _⟩ := p1; exact Heap.lt_size e
    have b2 : l2 < s1.heap.objs.size := by obtain ⟨o, e, _⟩ := p2; exact Heap.lt_size e
    exact call_zipT p1 p2 fun h' z0 t1 t0 st1 st2 kp => fin sqk_tup b1 b2 (drw_tuple _ _) (drw_tuple _ _) z0 t1 t0 st1 st2 kp q
theorem qi_zip {X : Cx} {a b : Expr} {ta : TA} {p pos : Pos} {elts : List Expr} {ek : Nat} {epos : Pos} (hg : Gl X "zip") (hm : X.mg "zip" = none) (ha : QA X [a, b] ta) (hs : starEach [a, b] X.env = [(false, eval a X.env), (false, eval b X.env)] := by rfl) (hs2 : starEach [b] X.env = [(false, eval b X.env)] := by rfl) :
    QI X (.Tuple elts ek epos) (.Call (.Name "zip" p) [a, b] [] pos) (iZip X.K ta) := ⟨pi_zip hg hm ha.h hs hs2⟩
theorem forW_zip {sq : PySem.W.Frag -> Hp -> Addr -> List V -> Prop} {K : PySem.W.Frag} {l1 l2 : Addr} {g : TG} {tb : TS} {D : Ends} {σ : St} {H : Hp} (xs ys : List V) (hxy : xs.length = ys.length) (Pv : Nat -> St -> Hp -> Prop) (h0 : Pv 0 σ H) (hl : ∀ i σ H, i <= xs.length -> Pv i σ H -> sq K H l1 xs /\ sq K H l2 ys)
    (hs : ∀ i x y p σ H, xs[i]? = some x -> ys[i]? = some y -> Pv i σ H -> H p = none -> g (.ref p) σ (upd H p (.tup [x, y])) fun σ2 H2 => tb { D with nx := Pv (i + 1), ct := Pv (i + 1), bk := D.nx } σ2 H2) (hd : ∀ σ H, Pv xs.length σ H -> D.nx σ H) : tForW (Itz sq K l1 l2) g tb D σ H := by
  refine ⟨fun i m σ H => m = xs.length - i /\ i <= xs.length /\ Pv i σ H, ⟨xs.length, by simp, Nat.zero_le _, h0⟩, ?_⟩
  rintro i m σ H ⟨rfl, hi, p⟩
  obtain ⟨q1, q2⟩ := hl i σ H hi p
  by_cases hlt : i < xs.length
  · refine .inr ⟨⟨xs, ys, q1, q2, hlt, by omega⟩, Pv (i + 1), fun σ' H' p' => ⟨xs.length - (i + 1), by omega, rfl, hlt, p'⟩, fun v H' y => ?_⟩
    obtain ⟨pp, a, b, rfl, hp, rfl, hv⟩ := y
    obtain ⟨e1, e2⟩ := hv xs ys q1 q2
    exact hs i a b pp σ H e1 e2 p hp
  · have e : i = xs.length := by omega
    subst e
    exact .inl ⟨⟨xs, ys, q1, q2, .inl (Nat.le_refl _)⟩, hd σ H p⟩
end L2
end
section
set_option Elab.async false
set_option linter.all false
set_option maxRecDepth 100000
set_option maxHeartbeats 4000000
namespace L2
open PySem PySem.Spec PyProof.Rows
inductive D where
  | non | bl (b : Bool) | int (i : Int) | str (x : Str) | tup (xs : List D) | lst (xs : List D)
mutual
def Rep (H : Hp) : D -> V -> Prop
  | .non, v => v = .non
  | .bl b, v => v = .bl b
  | .int i, v => v = .int i
  | .str x, v => v = .str x
  | .tup ds, v => ∃ a vs, v = .ref a /\ H a = some (.tup vs) /\ RepL H ds vs
  | .lst ds, v => ∃ a vs, v = .ref a /\ H a = some (.lst vs) /\ RepL H ds vs
def RepL (H : Hp) : List D -> List V -> Prop
  | [], vs => vs = []
  | d :: ds, vs => ∃ v r, vs = v :: r /\ Rep H d v /\ RepL H ds r
end
mutual
theorem Rep.mono {H H' : Hp} (k : Same H H') : ∀ (d : D) (v : V), Rep H d v -> Rep H' d v
  | .non, v, h => h
  | .bl b, v, h => h
  | .int i, v, h => h
  | .str x, v, h => h
  | .tup ds, v, h => by
    obtain ⟨a, vs, e, h1, h2⟩ := h
    exact ⟨a, vs, e, k _ _ h1, RepL.mono k ds vs h2⟩
  | .lst ds, v, h => by
    obtain ⟨a, vs, e, h1, h2⟩ := h
    exact ⟨a, vs, e, k _ _ h1, RepL.mono k ds vs h2⟩
theorem RepL.mono {H H' : Hp} (k : Same H H') : ∀ (ds : List D) (vs : List V), RepL H ds vs -> RepL H' ds vs
  | [], vs, h => h
  | d :: ds, vs, h => by
    obtain ⟨v, r, e, h1, h2⟩ := h
    exact ⟨v, r, e, Rep.mono k d v h1, RepL.mono k ds r h2⟩
end
theorem RepL.length {H : Hp} : ∀ {ds : List D} {vs : List V}, RepL H ds vs -> vs.length = ds.length
  | [], vs, h => by cases h; rfl
  | d :: ds, vs, h => by
    obtain ⟨v, r, rfl, h1, h2⟩ := h
    rw [List.length_cons, List.length_cons, RepL.length h2]
theorem RepL.get {H : Hp} : ∀ {ds : List D} {vs : List V} {i : Nat} {v : V}, RepL H ds vs -> vs[i]? = some v -> ∃ d, ds[i]? = some d /\ Rep H d v
  | [], vs, i, v, h, e => by cases h; simp at e
  | d :: ds, vs, i, v, h, e => by
    obtain ⟨w, r, rfl, h1, h2⟩ := h
    cases i with
    | zero => simp at e; subst e; exact ⟨d, rfl, h1⟩
    | succ i => simp at e; exact RepL.get (i := i) h2 e
theorem RepL.snoc {H : Hp} {d : D} {v : V} (hd : Rep H d v) : ∀ {ds : List D} {vs : List V}, RepL H ds vs -> RepL H (ds ++ [d]) (vs ++ [v])
  | [], vs, h => by cases h; exact ⟨v, [], rfl, hd, rfl⟩
  | e :: ds, vs, h => by
    obtain ⟨w, r, rfl, h1, h2⟩ := h
    exact ⟨w, r ++ [v], rfl, h1, RepL.snoc hd h2⟩
mutual
def Zq76 : D -> D -> Bool
  | .non, .non => true
  | .bl a, .bl b => a == b
  | .int a, .int b => a == b
  | .str a, .str b => a == b
  | .tup a, .tup b => Zq109 a b
  | .lst a, .lst b => Zq109 a b
  | _, _ => false
def Zq109 : List D -> List D -> Bool
  | [], [] => true
  | a :: r, b :: s => Zq76 a b && Zq109 r s
  | _, _ => false
end
mutual
theorem sameD_refl : ∀ d : D, Zq76 d d = true
  | .non => rfl
  | .bl _ => by simp [Zq76]
  | .int _ => by simp [Zq76]
  | .str _ => by simp [Zq76]
  | .tup ds => by rw [Zq76]; exact sameL_refl ds
  | .lst ds => by rw [Zq76]; exact sameL_refl ds
theorem sameL_refl : ∀ ds : List D, Zq109 ds ds = true
  | [] => rfl
  | d :: ds => by rw [Zq109, sameD_refl d, sameL_refl ds]; rfl
end
mutual
def D.deep : D -> Nat
  | .tup ds => Zq97 ds + 1
  | .lst ds => Zq97 ds + 1
  | _ => 0
def Zq97 : List D -> Nat
  | [] => 0
  | d :: ds => max d.deep (Zq97 ds)
end
theorem deep_get : ∀ {ds : List D} {i : Nat} {d : D}, ds[i]? = some d -> d.deep <= Zq97 ds
  | [], i, d, h => by simp at h
  | e :: ds, 0, d, h => by simp at h; subst h; rw [Zq97]; omega
  | e :: ds, i + 1, d, h => by
    simp at h
    have := deep_get h
    rw [Zq97]; omega
def isI : D -> String -> Bool
  | .non, _ => false
  | .bl _, c => c == "bool" || c == "int"
  | .int _, c => c == "int"
  | .str _, c => c == "str"
  | .tup _, c => c == "tuple"
  | .lst _, c => c == "list"
def fiveT : List String := ["bool", "int", "str", "list", "tuple"]
theorem isi {K : PySem.W.Frag} {H : Hp} {d : D} {v : V} (r : Rep H d v) (c : String) (hc : c ∈ fiveT) : ∃ t, TyOf K H v t /\ PySem.W.kitOne K t (.type c) = some (isI d c) := by
  unfold fiveT at hc
  simp only [List.mem_cons, List.not_mem_nil, or_false] at hc
  cases d with
  | non => cases r; refine ⟨_, .non, ?_⟩; rcases hc with rfl | rfl | rfl | rfl | rfl <;> rfl
  | bl b => cases r; refine ⟨_, .bl b, ?_⟩; rcases hc with rfl | rfl | rfl | rfl | rfl <;> rfl
  | int i => cases r; refine ⟨_, .int i, ?_⟩; rcases hc with rfl | rfl | rfl | rfl | rfl <;> rfl
  | str x => cases r; refine ⟨_, .str x, ?_⟩; rcases hc with rfl | rfl | rfl | rfl | rfl <;> rfl
  | tup ds => obtain ⟨a, vs, rfl, h1, h2⟩ := r; refine ⟨_, .tup h1, ?_⟩; rcases hc with rfl | rfl | rfl | rfl | rfl <;> rfl
  | lst ds => obtain ⟨a, vs, rfl, h1, h2⟩ := r; refine ⟨_, .lst h1, ?_⟩; rcases hc with rfl | rfl | rfl | rfl | rfl <;> rfl
theorem Rep.none_iff {H : Hp} {d : D} {v : V} (r : Rep H d v) : decide (v = .non) = (match d with | .non => true | _ => false) := by
  cases d with
  | non => cases r; rfl
  | bl b => cases r; rfl
  | int i => cases r; rfl
  | str x => cases r; rfl
  | tup ds => obtain ⟨a, vs, rfl, h1, h2⟩ := r; rfl
  | lst ds => obtain ⟨a, vs, rfl, h1, h2⟩ := r; rfl
theorem sameL_take {as bs : List D} : ∀ {i : Nat} {a b : D}, as[i]? = some a -> bs[i]? = some b -> Zq109 (as.take (i + 1)) (bs.take (i + 1)) = (Zq109 (as.take i) (bs.take i) && Zq76 a b) := by
  induction as generalizing bs with
  | nil => intro i a b h; simp at h
  | cons x as ih =>
    intro i a b h1 h2
    cases bs with
    | nil => simp at h2
    | cons y bs =>
      cases i with
      | zero => simp at h1 h2; subst h1; subst h2; simp [Zq109]
      | succ i =>
        simp at h1 h2
        have := ih h1 h2
        rw [List.take_succ_cons, List.take_succ_cons, Zq109, this, List.take_succ_cons, List.take_succ_cons, Zq109, Bool.and_assoc]
theorem sameL_false_len {as bs : List D} (h : as.length ≠ bs.length) : Zq109 as bs = false := by
  induction as generalizing bs with
  | nil => cases bs with
    | nil => exact absurd rfl h
    | cons y bs => rfl
  | cons x as ih => cases bs with
    | nil => rfl
    | cons y bs => rw [Zq109, ih (fun e => h (by rw [List.length_cons, List.length_cons, e])), Bool.and_false]
theorem sameL_false_at {as bs : List D} {i : Nat} {a b : D} (h1 : as[i]? = some a) (h2 : bs[i]? = some b) (h : Zq76 a b = false) : Zq109 as bs = false := by
  induction as generalizing bs i with
  | nil => simp at h1
  | cons x as ih =>
    cases bs with
    | nil => simp at h2
    | cons y bs =>
      cases i with
      | zero => simp at h1 h2; subst h1; subst h2; rw [Zq109, h, Bool.false_and]
      | succ i => simp at h1 h2; rw [Zq109, ih h1 h2, Bool.and_false]
end L2
namespace L2
theorem Rep.mono' {H H' : Hp} {d : D} {v : V} (h : Rep H d v) (k : Same H H') : Rep H' d v := Rep.mono k d v h
theorem RepL.mono' {H H' : Hp} {ds : List D} {vs : List V} (h : RepL H ds vs) (k : Same H H') : RepL H' ds vs := RepL.mono k ds vs h
end L2
end
section
set_option Elab.async false
set_option linter.all false
set_option maxRecDepth 100000
set_option maxHeartbeats 4000000
namespace L2
open PySem PySem.Spec PyProof.Rows
def Itd (lo : Int) (n : Nat) : It := ⟨fun i _ => i < n, fun i H x H' => H' = H /\ x = .int (lo - i), fun i _ => n <= i⟩
theorem turn_down {P : Program} {w : World} {K : PySem.W.Frag} {tg : Expr} (it : Addr) (lo : Int) (n : Nat) : Turn P w K tg (Itd lo n) [it] it (fun i h => IsRangeIter h it (lo + (i : Nat) * (-1)) ((n : Int) - (i : Nat)) (-1)) where
  mem := by simp
  obj := fun i h st b hb => by
    have e : b = it := by simpa using hb
    subst e
    exact ⟨_, st, fun v z => by
      have z' : Data.fields _ = Data.cell v := z
      cases z'⟩
  keep := fun i h h' st k => k it (by simp) _ st
  item := by
    intro X hP hw hK hc i pins s σ H E I hf st hg
    subst hP hw hK
    obtain ⟨f0, f1, f2, f3, f4, f5⟩ := hf it (by simp)
    have W := Walks.range (prog := X.prog) (w := X.w) (I.ok.hd hc) it lo (-1) n
    refine W.item i s _ _ hg st fun v h' tk hv st' kk => ?_
    obtain ⟨t, rfl⟩ := hv
    have I1 : Inv X pins σ H { s with heap := h', toks := tk } := I.turned (fun b o hb e => kk b o (by simpa using hb) e) f0 f1 f3 f4 f5
    refine ⟨_, rfl, go_of (s := { s with heap := h', toks := tk }) (n := "range_iterator") st' rfl rfl (by decide) ⟨.int (lo - i), H, I1, ⟨t, ?_⟩, ⟨rfl, rfl⟩, st', fun b hb => (hf b hb).1⟩⟩
    have e : lo + (i : Int) * (-1) = lo - i := by omega
    rw [e]
  done := by
    intro X hP hw hK hc i pins s σ H E I hf st hg
    subst hP hw hK
    obtain ⟨f0, f1, f2, f3, f4, f5⟩ := hf it (by simp)
    exact wpAny_pyNext_range_end (I.ok.hd hc) st (by have : n <= i := hg; omega) fun h' eb => ⟨rfl, I.turned (t' := s.toks) (fun b o hb e => eb b o hb e) f0 f1 f3 f4 f5⟩
  self := fun _ _ _ _ _ st h => wpAny_pyIter_rangeiter st h
section
variable {X : Cx} {tg : Expr}
theorem range_itD {pins : List (Addr × Obj)} {σ : St} {H : Hp} {s : Shared} {R : It -> Hp -> Prop} {E : Value -> Shared -> Prop} {lo hi : Int} {t u v : Tok} {tk : Nat} (I : Inv X pins σ H s) (h1 : -(2 ^ 62) <= lo) (h2 : lo < 2 ^ 62) (h3 : -(2 ^ 62) <= hi) (h4 : hi < 2 ^ 62)
    (q : R (Itd lo (lo - hi).toNat) H) : wpAny (model X.prog X.w) X.A (pyIter (.ref s.heap.objs.size)) (PIE X pins σ tg R) E { s with heap := s.heap.push { cls := .type "range", data := .fields #[.int lo t, .int hi u, .int (-1) v] }, toks := tk } := by
  refine wpAny_pyIter_range (IsRange.new ..) (PySem.W.small_down h1 h2 h3 h4) ?_
  have I1 : Inv X pins σ H { s with heap := s.heap.push { cls := .type "range", data := .fields #[.int lo t, .int hi u, .int (-1) v] }, toks := tk } := I.kept fun b o e => Heap.get?_push_of_some _ e
  refine ⟨(s.heap.push { cls := .type "range", data := .fields #[.int lo t, .int hi u, .int (-1) v] }).objs.size, [(s.heap.push { cls := .type "range", data := .fields #[.int lo t, .int hi u, .int (-1) v] }).objs.size], _, _, H, rfl,
    I1.kept (t' := tk) fun b o e => Heap.get?_push_of_some _ e, turn_down _ lo (lo - hi).toNat, ?_, fun b hb => ?_, q⟩
  · have e1 : lo + ((0 : Nat) : Int) * (-1) = lo := by simp
    have e2 : (((lo - hi).toNat : Nat) : Int) - ((0 : Nat) : Int) = Builtin.Range.rangeSize lo hi (-1) := by rw [PySem.W.rangeSize_downNat]; omega
    show IsRangeIter _ _ (lo + ((0 : Nat) : Int) * (-1)) ((((lo - hi).toNat : Nat) : Int) - ((0 : Nat) : Int)) (-1)
    rw [e1, e2]
    exact Heap.get?_push_size _ rfl
  · have e : b = (s.heap.push { cls := .type "range", data := .fields #[.int lo t, .int hi u, .int (-1) v] }).objs.size := by simpa using hb
    subst e
    exact I1.fpOk (Nat.le_refl _) (I1.hok.fresh (Nat.le_refl _))
def iRngD (ta : TA) : TI := fun σ H R => ta σ H fun vs H1 => ∃ i j : Int, vs = [.int i, .int j, .int (-1)] /\ (-(2 ^ 62) <= i /\ i < 2 ^ 62 /\ -(2 ^ 62) <= j /\ j < 2 ^ 62) /\ R (Itd i (i - j).toNat) H1
theorem pi_rangeDown {a b c : Expr} {ta : TA} {p pos : Pos} (hg : Gl X "range") (hm : X.mg "range" = none) (ha : PA X [a, b, c] ta) (hs : starEach [a, b, c] X.env = (false, eval a X.env) :: starEach [b, c] X.env := by rfl) (hs2 : (backTo pos (starEach [b, c] X.env)).any (·.1) = false := by rfl) :
    PI X tg (.Call (.Name "range" p) [a, b, c] [] pos) (iRngD ta) := by
  intro pins s σ H R I h
  refine Call_ (Zq138 I hg hm boot_range (PyProof.Rows.callWith_type1 (thn (ha pos pins s σ H _ I h) fun us s1 ⟨vs, H1, I1, r1, q1⟩ => ?_) hs hs2))
  obtain ⟨i, j, e, ⟨q1, q2, q3, q4⟩, q⟩ := q1
  subst e
  cases r1 with
  | cons r rr =>
    cases rr with
    | cons r' rr =>
      cases rr with
      | cons r'' rr =>
        cases rr
        obtain ⟨t, rfl⟩ := r
        obtain ⟨t', rfl⟩ := r'
        obtain ⟨t'', rfl⟩ := r''
        exact call_range_3 (by decide) (range_itD I1 q1 q2 q3 q4 q) (.inl (PyProof.noPylong_small (by decide)))
theorem qi_rangeDown {a b c : Expr} {ta : TA} {p pos : Pos} (hg : Gl X "range") (hm : X.mg "range" = none) (ha : QA X [a, b, c] ta) (hs : starEach [a, b, c] X.env = (false, eval a X.env) :: starEach [b, c] X.env := by rfl) (hs2 : (backTo pos (starEach [b, c] X.env)).any (·.1) = false := by rfl) :
    QI X tg (.Call (.Name "range" p) [a, b, c] [] pos) (iRngD ta) := ⟨pi_rangeDown hg hm ha.h hs hs2⟩
end
section
variable {g : TG} {tb : TS} {D : Ends} {σ : St} {H : Hp}
theorem forW_down {lo : Int} {n : Nat} (m : Nat) (hm : n = m) (Pv : Nat -> St -> Hp -> Prop) (h0 : Pv 0 σ H)
    (hs : ∀ i σ H, i < m -> Pv i σ H -> g (.int (lo - i)) σ H fun σ2 H2 => tb { D with nx := Pv (i + 1), ct := Pv (i + 1), bk := D.nx } σ2 H2) (hd : ∀ σ H, Pv m σ H -> D.nx σ H) : tForW (Itd lo n) g tb D σ H := by
  subst hm
  refine ⟨fun i k σ H => k = n - i /\ i <= n /\ Pv i σ H, ⟨n, rfl, Nat.zero_le _, h0⟩, ?_⟩
  rintro i k σ H ⟨rfl, hi, p⟩
  by_cases e : i < n
  · refine .inr ⟨e, Pv (i + 1), fun σ' H' p' => ⟨n - (i + 1), by omega, rfl, by omega, p'⟩, ?_⟩
    rintro x H' ⟨rfl, rfl⟩
    exact hs i σ H' e p
  · have : i = n := by omega
    subst this
    exact .inl ⟨Nat.le_refl _, hd σ H p⟩
end
section
variable {X : Cx} {o i value : Expr} {pos pos' : Pos} {td ty tv : TE}
def rDNotIn : R2 := fun y x H Q => ∃ a o, x = .ref a /\ DGet H a y o /\ Q (.bl (!o.isSome)) H
def rDIn : R2 := fun y x H Q => ∃ a o, x = .ref a /\ DGet H a y o /\ Q (.bl o.isSome) H
theorem op_dnotin (hu : X.A.units + 1 < cLine) : OpR X (compareOp .NotIn) rDNotIn := by
  intro pins s σ H y x iv u Q I ry rx ⟨a, ov, ex, g, q⟩
  subst ex
  obtain rfl : u = Value.ref a := rx
  exact d_notIn hu I g ry fun s3 I3 => ⟨.bl (!ov.isSome), H, I3, rfl, q⟩
theorem op_din (hu : X.A.units + 1 < cLine) : OpR X (compareOp .In) rDIn := by
  intro pins s σ H y x iv u Q I ry rx ⟨a, ov, ex, g, q⟩
  subst ex
  obtain rfl : u = Value.ref a := rx
  exact d_in hu I g ry fun s3 I3 => ⟨.bl ov.isSome, H, I3, rfl, q⟩
theorem qop_dnotin {k : Nat} (hr : Room k X.A) : QOp X (compareOp .NotIn) rDNotIn := ⟨op_dnotin (by have := hr.units; omega)⟩
theorem qop_din {k : Nat} (hr : Room k X.A) : QOp X (compareOp .In) rDIn := ⟨op_din (by have := hr.units; omega)⟩
theorem qe_dnewT : QE X (.Dict [] [] pos) tDNewT := ⟨pe_dnewT⟩
theorem qs_dput {k : Nat} (hr : Room k X.A) (ho : QE X o td) (hi : QE X i ty) (hv : QE X value tv) (hs : swapsWith value (some (.Subscript o i pos')) pos.line X.env = pure false := by rfl) :
    QS X (.Assign [.Subscript o i pos'] value pos) (sDPut td ty tv) := ⟨ps_dput (by have := hr.units; omega) ho.h hi.h hv.h hs⟩
end
end L2
end
section
set_option Elab.async false
set_option linter.all false
set_option maxRecDepth 100000
set_option maxHeartbeats 4000000
namespace L2
open PySem PySem.Spec PyProof.Rows
section
variable {X : Cx}
def rEqK : R2 := fun x y H Q => ∃ (b : Addr) (k2 : List Key), y = .ref b /\ H b = some (.tup (k2.map kV)) /\ ((x = .non /\ Q (.bl false) H) \/ ∃ (a : Addr) (k1 : List Key), x = .ref a /\ H a = some (.tup (k1.map kV)) /\ Q (.bl (decide (k1 = k2))) H)
theorem op_eqK (hu : X.A.units < cLine) : OpR X (compareOp .Eq) rEqK := by
  intro pins s σ H x y v u Q I rx ry ⟨b, k2, ey, hb, h⟩
  subst ey
  obtain rfl : u = Value.ref b := ry
  have hy := Zq151 I.hok hb
  rcases h with ⟨rfl, q⟩ | ⟨a, k1, rfl, ha, q⟩
  · cases rx
    obtain ⟨its, rv, p, hz⟩ := I.tuple (SqT.of hb)
    exact SeqAt.RcAt.none_tuple (show s.heap.IsTuple b its.toArray from p) hu X.prog X.w _ _ ⟨.bl false, H, I, rfl, q⟩
  · obtain rfl : v = Value.ref a := rx
    have hx := Zq151 I.hok ha
    exact wpAny_richCompare_same_room (op := .Eq) hx.typeIs hy.typeIs F.slot_tuple_eq
      (wpAny_call_entry F.slot_tuple_eq hx.typeIs F.entry_tuple_eq (tuple_eq_tree hx hy ⟨_, rfl, (fun e => nomatch e), ⟨.bl _, H, I, rfl, q⟩⟩) (F.args_tuple_eq_2 _ _)) hu
theorem qop_eqK {k : Nat} (hr : Room k X.A) : QOp X (compareOp .Eq) rEqK := ⟨op_eqK hr.units0⟩
end
end L2
end
section
set_option Elab.async false
set_option linter.all false
set_option maxRecDepth 100000
set_option maxHeartbeats 4000000
namespace L2
open PySem PySem.Spec PyProof.Rows
section
variable {X : Cx}
end
end L2
end
section
set_option Elab.async false
set_option linter.all false
set_option maxRecDepth 100000
set_option maxHeartbeats 4000000
namespace L2
open PySem PySem.Spec PyProof.Rows PySem.W
def Zq192 (cmp : Nat -> Nat -> (Bool -> Shared -> Prop) -> Shared -> Prop) (r : Nat -> Nat) (N : Nat) (s : Shared) : Prop := ∀ (i j : Nat) (C : Bool -> Shared -> Prop), i < N -> j < N -> C (decide (r i < r j)) s -> cmp i j C s
def kp (r : Nat -> Nat) (p : Array Nat) (i : Nat) : Nat := r (p.getD i 0)
def Pm (N : Nat) (p : Array Nat) : Prop := p.toList.Perm (List.range N)
def UpTo (r : Nat -> Nat) (p : Array Nat) (m : Nat) : Prop := ∀ i, i + 1 < m -> kp r p i <= kp r p (i + 1)
section
variable {s : Shared} {cmp : Nat -> Nat -> (Bool -> Shared -> Prop) -> Shared -> Prop} {r : Nat -> Nat} {N : Nat} {p : Array Nat}
theorem Pm.size (h : Pm N p) : p.size = N := by
  have := h.length_eq
  rw [List.length_range] at this
  simpa using this
theorem Pm.lt (h : Pm N p) {i : Nat} (hi : i < N) : p.getD i 0 < N := by
  have hs : i < p.size := by rw [h.size]; exact hi
  have e : p.getD i 0 = p[i] := by simp [Array.getD, hs]
  have m : p[i] ∈ p.toList := by simp
  rw [e]
  exact List.mem_range.mp (h.mem_iff.mp m)
theorem Pm.rev (h : Pm N p) (i j : Nat) : Pm N (kas_rev p i j) := (Array.perm_iff_toList_perm.mp (mirror_perm p i j _)).trans h
theorem Pm.bub (h : Pm N p) (i d : Nat) : Pm N (bubble p i d) := (Array.perm_iff_toList_perm.mp (bubble_perm p i d)).trans h
theorem kp_of {p q : Array Nat} {i j : Nat} (h : p[i]? = q[j]?) : kp r p i = kp r q j := by
  unfold kp
  rw [Array.getD_eq_getD_getElem?, Array.getD_eq_getD_getElem?, h]
theorem kp_rev (h : Pm N p) {i j k : Nat} (hj : j <= N) : kp r (kas_rev p i j) k = if i <= k /\ k < j then kp r p (i + j - 1 - k) else kp r p k := by
  have e := getElem?_mirror_all (xs := p) (i := i) (j := j) (by rw [h.size]; exact hj) k
  by_cases c : i <= k /\ k < j
  · rw [if_pos c] at e ⊢; exact kp_of e
  · rw [if_neg c] at e ⊢; exact kp_of e
theorem kp_bub (h : Pm N p) {k l i : Nat} (hk : k < N) (hl : l <= k) : kp r (bubble p k (k - l)) i = if i = l then kp r p k else if l < i /\ i <= k then kp r p (i - 1) else kp r p i := by
  have e := getElem?_bubble (xs := p) (src := k) (by rw [h.size]; exact hk) (k - l) (by omega) i
  have x : k - (k - l) = l := by omega
  rw [x] at e
  by_cases c : i = l
  · rw [if_pos c] at e ⊢; exact kp_of e
  · rw [if_neg c] at e ⊢
    by_cases d : l < i /\ i <= k
    · rw [if_pos d] at e ⊢; exact kp_of e
    · rw [if_neg d] at e ⊢; exact kp_of e
theorem up_le (h : UpTo r p m) : ∀ (d i : Nat), i + d < m -> kp r p i <= kp r p (i + d)
  | 0, i, _ => Nat.le_refl _
  | d + 1, i, hi => Nat.le_trans (up_le h d i (by omega)) (h (i + d) (by omega))
end
end L2
namespace L2
structure Weak (lt : Nat -> Nat -> Bool) : Prop where
  irr : ∀ i, lt i i = false
  tr : ∀ i j k, lt i j = true -> lt j k = true -> lt i k = true
  neg : ∀ i j k, lt i j = true -> lt i k = true \/ lt k j = true
def rk (lt : Nat -> Nat -> Bool) (N i : Nat) : Nat := (List.range N).countP fun k => lt k i
theorem countP_less {p q : Nat -> Bool} (h : ∀ k, p k = true -> q k = true) {i : Nat} (hp : p i = false) (hq : q i = true) : ∀ l : List Nat, i ∈ l -> l.countP p < l.countP q
  | [], m => nomatch m
  | x :: l, m => by
    have le := List.countP_mono_left (l := l) (p := p) (q := q) fun k _ => h k
    rw [List.countP_cons, List.countP_cons]
    rcases List.mem_cons.mp m with rfl | m
    · rw [hp, hq]
      simp
      omega
    · have := countP_less h hp hq l m
      by_cases z : p x = true
      · rw [z, h x z]; simp; omega
      · cases e : q x with
        | true => simp [z]; omega
        | false => simp [z]; omega
theorem rk_iff {lt : Nat -> Nat -> Bool} (W : Weak lt) {N i j : Nat} (hi : i < N) : decide (rk lt N i < rk lt N j) = lt i j := by
  unfold rk
  cases e : lt i j with
  | true => exact decide_eq_true (countP_less (fun k h => W.tr k i j h e) (W.irr i) e _ (List.mem_range.mpr hi))
  | false =>
    refine decide_eq_false (Nat.not_lt.mpr (List.countP_mono_left fun k _ h => ?_))
    rcases W.neg k j i h with z | z
    · exact z
    · rw [e] at z; cases z
end L2
namespace L2
open PySem PySem.Spec PyProof.Rows
end L2
namespace L2
open PySem PySem.Spec PyProof.Rows PySem.W
section
variable {prog : Program} {w : World} {A : Around} {E : Value -> Shared -> Prop} {s : Shared}
end
section
variable {X : Cx}
end
end L2
end
section
set_option Elab.async false
set_option linter.all false
set_option maxRecDepth 100000
set_option maxHeartbeats 4000000
namespace L2
open PySem PySem.Spec PyProof.Rows
section
variable {prog : Program} {w : World} {K : Type} [DecidableEq K] {knd : HeapKind prog w K} {A : Around} {E : Value -> Shared -> Prop} {s : Shared}
theorem setDefault_heap {d a : Addr} {xs : List (K × Addr × Value)} {k : K} {v : Value} {Q : Value -> Shared -> Prop} (hu : knd.room A) (hkey : knd.is s.heap k a) (hm : s.heap.DictOfH knd d xs)
    (h1 : ∀ p, atKey xs k = some p -> Q p.2 { s with toks := s.toks + knd.draws k })
    (h2 : atKey xs k = none -> ∀ h', h'.DictOfH knd d (storedH xs k a v) -> Heap.SameBut d s.heap h' -> Q v { s with heap := h', toks := s.toks + knd.draws k })
    (hsz : xs.length <= sizeLine) : wpAny (model prog w) A (dictSetDefault d (.ref a) v) Q E s := by
  obtain ⟨o, es, ep, ho, hc, hd, he, his, hn⟩ := hm
  unfold dictSetDefault
  try with_reducible refine wpAny_holding ?_
  refine wpAny_bind (knd.pyHash hu hkey ?_)
  refine wpAny_bind (wpAny_dictFind_heap (s := { s with toks := s.toks + knd.draws k }) hu hkey ho hd he his hn ?_ ?_)
  · intro hno
    have hnot : k ∉ xs.map (·.1) := not_mem_keys_of_get hno
    refine wpAny_bind (wpAny_rule (wpAny_bind (wpAny_updateDictKeys (hz := by have e := size_of_entries he; omega) (s := { s with toks := s.toks + knd.draws k }) ho hd (wpAny_pure (h2 (atKey_none_of_get hno) _ ⟨_, _, ep + 1, Heap.get?_update_self _ ho (Obj.isFreed_of_dict (Obj.data_mapDictKeys hd _)),
      hc.mapDictKeys _, Obj.data_mapDictKeys hd _, ?_, ?_, ?_⟩ (Heap.SameBut.update ..))))))
    · rw [storedH_new (atKey_none_of_get hno)]
      simp [he, entryOfKey]
    · rw [storedH_new (atKey_none_of_get hno)]
      intro x hx
      rcases List.mem_append.mp hx with hx | hx
      · exact knd.keeps (his x hx) ho hd (Heap.SameBut.update ..)
      · simp only [List.mem_singleton] at hx
        subst hx
        exact knd.keeps hkey ho hd (Heap.SameBut.update ..)
    · rw [storedH_new (atKey_none_of_get hno)]
      rw [List.map_append, List.nodup_append]
      refine ⟨hn, by simp, ?_⟩
      intro x hx y hy
      simp only [List.map_cons, List.map_nil, List.mem_singleton] at hy
      subst hy
      exact fun e => hnot (e ▸ hx)
  · intro j p hj
    refine wpAny_bind (wpAny_dictEntries (s := { s with toks := s.toks + knd.draws k }) ho hd ?_)
    rw [entry_at he j, hj]
    exact wpAny_bind (wpAny_rule (wpAny_pure (h1 _ (atKey_of_get hn hj))))
theorem meetsH_setdefault (knd : HeapKind prog w K) (d a : Addr) (hd : (d == sysModules) = false) (dflt : Value) :
    MeetsIn prog w (Builtin.«dict.setdefault» ⟨[.ref d, .ref a, dflt], []⟩) (fun A R s => knd.room A.in1 /\ ∃ k xs, knd.is s.heap k a /\ s.heap.DictOfH knd d xs /\ xs.length <= sizeLine /\
      (∀ p, atKey xs k = some p -> R (.ok (.ret p.2)) { s with toks := s.toks + knd.draws k }) /\
      (atKey xs k = none -> ∀ h', h'.DictOfH knd d (storedH xs k a dflt) -> Heap.SameBut d s.heap h' -> R (.ok (.ret dflt)) { s with heap := h', toks := s.toks + knd.draws k })) :=
  .of_wp fun A R s ⟨hu, k, xs, hkey, hm, hz, h1, h2⟩ => by
    unfold Builtin.«dict.setdefault»
    refine wpAny_bind ?_
    unfold Builtin.Dict.keyAndDefault
    refine wpAny_bind (wpAny_notOrdered_dict hm.typeIs ?_)
    show wpAny _ _ (pure (d, Value.ref a, some dflt)) _ _ s
    refine wpAny_pure ?_
    show wpAny _ _ (if (d == sysModules) = true then _ else (dictSetDefault d (.ref a) dflt >>= _)) _ _ s
    rw [if_neg (by rw [hd]; exact Bool.false_ne_true)]
    exact wpAny_bind (setDefault_heap hu hkey hm (fun p hp => wpAny_pure ⟨p.2, rfl, h1 p hp⟩) (fun hn h' hm' hs' => wpAny_pure ⟨dflt, rfl, h2 hn h' hm' hs'⟩) hz)
end
section
variable {X : Cx} {pins : List (Addr × Obj)} {σ : St} {H : Hp} {s : Shared} {a b : Addr} {z : V} {r : Value} {kvs : List (List Key × V)} {k : List Key} {A : Around} {E : Value -> Shared -> Prop}
theorem d_setdef {Q : Value -> Shared -> Prop} (hu : A.units + 1 < cLine) (I : Inv X pins σ H s) (e : H a = some (.dT kvs)) (eb : H b = some (.tup (k.map kV))) (hl : kvs.length < sizeLine) (rz : RelV z r)
    (h1 : ∀ v, valV kvs k = some v -> ∀ w' s', Inv X pins σ H s' -> RelV v w' -> Q w' s')
    (h2 : valV kvs k = none -> ∀ s', Inv X pins σ (upd H a (.dT (putK kvs k z))) s' -> Q r s') : wpAny (model X.prog X.w) A (call (.builtin "dict.setdefault") [.ref a, .ref b, r]) Q E s := by
  obtain ⟨zl, hd, xs, rel, dd⟩ := dt_of I.hok e
  have hz : xs.length <= sizeLine := by rw [← Paired.length rel]; exact zl
  have hl' : (putK kvs k z).length <= sizeLine := by have := Zq72 kvs k z; omega
  refine call_meetsIn PySem.F.slot_dict_setdefault dd.typeIs PySem.F.entry_dict_setdefault (PySem.F.args_dict_setdefault_3 _ _ _) (meetsH_setdefault (tupleKind (Zq55 X.prog X.w)) a b hd r) ⟨tupleKind_room_in1 hu, k, xs, Zq151 I.hok eb, dd, hz, fun p hp => ?_, fun hn h' dd' hs => ?_⟩
  · have q := rel.val k
    rw [hp, Option.map_some] at q
    cases hv : valV kvs k with
    | none => rw [hv] at q; cases q
    | some v => rw [hv] at q; exact h1 v hv _ _ (I.tok _) q
  · have q := rel.val k
    rw [hn, Option.map_none] at q
    have hv : valV kvs k = none := by
      cases hv : valV kvs k with
      | none => rfl
      | some v => rw [hv] at q; exact (show False from q).elim
    refine h2 hv _ ?_
    obtain ⟨q, es, ep, hq, e2, e3, e4, _, e5⟩ := dd'
    refine d_write I (by rw [e]; exact True.intro) hs ⟨q, hq⟩ ⟨hl', hd, _, (rel.put k eb rz).keeps fun c ys ec => ?_, q, es, ep, hq, e2, e3, e4, e5⟩
    rw [Zq7 (ne_of ec e (fun z => nomatch z))]
    exact ec
end
def tSetDef (td ty tx : TE) : TE := fun σ H Q => td σ H fun x H1 => ∃ a, x = .ref a /\ IsD H1 a /\ ty σ H1 fun y H2 => tx σ H2 fun z H3 => ∃ kvs k b, H3 a = some (.dT kvs) /\ y = .ref b /\ H3 b = some (.tup (k.map kV)) /\ kvs.length < sizeLine /\
  (∀ v, valV kvs k = some v -> Q v H3) /\ (valV kvs k = none -> Q z (upd H3 a (.dT (putK kvs k z))))
section
variable {X : Cx} {o e f : Expr} {apos cpos : Pos} {td ty tx : TE} {n : Nat}
theorem pe_setdef (hu : X.A.units + 1 < cLine) (ho : PE X o td) (he : PE X e ty) (hf : PE X f tx) (m : M2 X o "setdefault" apos e f cpos) : PE X (.Call (.Attribute o "setdefault" apos) [e, f] [] cpos) (tSetDef td ty tx) := by
  intro pins s σ H Q I h
  refine wpAny_Call_method m.base m.few m.line PySem.F.plainAttrs_dict PySem.F.slot_dict_setdefault PySem.F.type_dict_setdefault (thn (ho pins s σ H _ I h) fun u s1 ⟨x, H1, I1, rx, a, ex, d, q1⟩ => ?_)
  subst ex
  obtain rfl : u = Value.ref a := rx
  obtain ⟨t1, t2, _⟩ := isD_at I1 d
  refine ⟨t1, t2, ?_⟩
  rw [m.trees]
  refine Calls.callWith_builtin rfl (Calls.evalArgs_plain (Calls.spliced_cons (thn (he pins s1 σ H1 _ I1 q1) fun iv s2 ⟨y, H2, I2, ry, q2⟩ =>
    Calls.spliced_cons (thn (hf pins s2 σ H2 _ I2 q2) fun fv s3 ⟨z, H3, I3, rz, kvs, k, b, ea, ey, eb, hl, q3, q4⟩ => Calls.spliced_nil ?_))))
  subst ey
  obtain rfl : iv = Value.ref b := ry
  exact d_setdef hu I3 ea eb hl rz (fun v hv w' s4 I4 rw' => ⟨_, _, I4, rw', q3 v hv⟩) fun hn s4 I4 => ⟨_, _, I4, rz, q4 hn⟩
theorem qe_setdef (hr : Room n X.A) (ho : QE X o td) (he : QE X e ty) (hf : QE X f tx) (m : M2 X o "setdefault" apos e f cpos := by exact ⟨rfl, rfl, rfl, rfl⟩) : QE X (.Call (.Attribute o "setdefault" apos) [e, f] [] cpos) (tSetDef td ty tx) := ⟨pe_setdef (by have := hr.units; omega) ho.h he.h hf.h m⟩
theorem qe_dget1 (hr : Room n X.A) (ho : QE X o td) (he : QE X e ty) (m : M1 X o "get" apos e cpos := by exact ⟨rfl, rfl, rfl, rfl⟩) : QE X (.Call (.Attribute o "get" apos) [e] [] cpos) (tDGet1 td ty) := ⟨pe_dget1 (by have := hr.units; omega) ho.h he.h m⟩
theorem qe_dget2 (hr : Room n X.A) (ho : QE X o td) (he : QE X e ty) (hf : QE X f tx) (m : M2 X o "get" apos e f cpos := by exact ⟨rfl, rfl, rfl, rfl⟩) : QE X (.Call (.Attribute o "get" apos) [e, f] [] cpos) (tDGet2 td ty tx) := ⟨pe_dget2 (by have := hr.units; omega) ho.h he.h hf.h m⟩
def rCount (K : PySem.W.Frag) : V -> List V -> Hp -> VK -> Prop := fun x vs H Q => ∃ l xs y, x = .ref l /\ vs = [y] /\ SqL K H l xs /\ Zq136 y = true /\ xs.all Zq136 = true /\ Q (.int (xs.countP fun z => eqV z y)) H
theorem countP_eqU {x : V} : ∀ {xs : List V} {us : List Value}, Vals xs us -> xs.all Zq136 = true -> us.countP (eqU x) = xs.countP fun y => eqV y x
  | _, _, .nil, _ => rfl
  | y :: xs, u :: us, .cons r t, f => by
    rw [List.all_cons, Bool.and_eq_true] at f
    rw [List.countP_cons, List.countP_cons, countP_eqU t f.2, eqU_of r f.1]
theorem mt_count : MtR X "list.count" (rCount X.K) := by
  intro pins s σ H x vs v us Q I rx rv h
  obtain ⟨l, xs, y, rfl, rfl, hL, fy, fs, q⟩ := h
  cases rx
  obtain ⟨u, rfl, ru⟩ := rv.one
  obtain ⟨its, r, pl, hz⟩ := I.list hL
  obtain ⟨o, n, e1, e2, e3, e4⟩ := pl
  obtain ⟨oc, od, odt, osl⟩ := o
  have e2' : oc = .type "list" := e2
  have e4' : odt = .seq its.toArray n := by first | exact e4 | exact e3
  subst e2' e4'
  refine call_meets F.slot_list_count ⟨_, e1, rfl⟩ F.entry_list_count (F.args_list_count_2 _ _) (SeqAt.list_countAt l its.toArray n od osl u (eqU y)) ⟨e1, fun w hw => mem_eqAt ru fy r fs w (by simpa using hw), ?_⟩
  rw [show its.toArray.toList = its by simp, countP_eqU r fs]
  exact ⟨.int (xs.countP fun z => eqV z y), H, I.tok _, ⟨_, rfl⟩, q⟩
theorem qmt_count : QM X "list.count" (rCount X.K) := ⟨mt_count⟩
theorem vals_rng : ∀ (n : Nat) (acc : List Value) (k : Nat), acc.length = n -> (∀ j v, acc[j]? = some v -> ∃ t, v = Value.int ((0 : Int) + ((k + j : Nat) : Int) * 1) t) -> Vals ((List.range' k n).map fun i : Nat => V.int (i : Int)) acc
  | 0, [], _, _, _ => .nil
  | n + 1, a :: acc, k, hl, h => by
    rw [List.range'_succ, List.map_cons]
    refine .cons ?_ (vals_rng n acc (k + 1) (by simpa using hl) fun j v hj => ?_)
    · obtain ⟨t, rfl⟩ := h 0 a rfl
      exact ⟨t, by rw [Int.mul_one, Int.zero_add]; rfl⟩
    · obtain ⟨t, rfl⟩ := h (j + 1) v (by simpa using hj)
      exact ⟨t, by rw [show k + (j + 1) = k + 1 + j by omega]⟩
def tLRng (ta : TA) : TE := fun σ H Q => ta σ H fun vs H1 => ∃ n : Nat, vs = [.int n] /\ n <= 1000000 /\ ∀ l, H1 l = none -> Q (.ref l) (upd H1 l (.lst ((List.range n).map fun i : Nat => V.int (i : Int))))
theorem pe_lrng {a : Expr} {ta : TA} {p q pos pos' : Pos} (hc : X.calm = true) (hgl : Nm X.env.scope "list" .globalImplicit) (hml : X.mg "list" = none) (hg : Gl X "range") (hm : X.mg "range" = none) (ha : PA X [a] ta)
    (hs : starEach [a] X.env = [(false, eval a X.env)] := by rfl) (hs2 : starEach [.Call (.Name "range" p) [a] [] pos] X.env = [(false, eval (.Call (.Name "range" p) [a] [] pos) X.env)] := by rfl) :
    PE X (.Call (.Name "list" q) [.Call (.Name "range" p) [a] [] pos] [] pos') (tLRng ta) := by
  intro pins s σ H Q I h
  refine wpAny_Call_Name_kw (Zq138 I hgl.1 hml boot_list ?_ hgl.2.2.2 hgl.2.1)
  refine PyProof.Rows.callWith_type1 ?_ hs2 rfl
  rw [hs2]
  refine Calls.spliced_cons ?_
  refine Call_ (Zq138 I hg hm boot_range (PyProof.Rows.callWith_type1 (thn (ha pos pins s σ H _ I h) fun us s1 ⟨vs, H1, I1, r1, n, e, hn, q1⟩ => ?_) hs rfl))
  subst e
  cases r1 with
  | cons r rr =>
    cases rr
    obtain ⟨t, rfl⟩ := r
    refine call_range_1 (Calls.spliced_nil ?_)
    have I2 : Inv X pins σ H1 { s1 with heap := s1.heap.push { cls := .type "range", data := .fields #[.int 0 s1.toks, .int (n : Int) t, .int 1 (s1.toks + 1)] }, toks := s1.toks + 1 + 1 } := I1.kept fun b o e => Heap.get?_push_of_some _ e
    refine call_list_range (n := n) (I2.ok.hd hc) (IsRange.new ..) (small_one (by decide) (by decide) (by omega) (by omega)) (by rw [rangeSize_one]; split <;> omega) (by omega) fun h' tk acc c' hk hS hacc => ?_
    refine ⟨.ref _, _, I2.laid (t' := tk) (o := .lst ((List.range n).map fun i : Nat => V.int (i : Int))) hk (Nat.le_refl _) ⟨?_, acc.toList, c', ?_, by rw [Array.toArray_toList]; exact hS⟩, rfl, q1 _ (I2.hok.fresh (Nat.le_refl _))⟩
    · rw [List.length_map, List.length_range]
      exact Nat.le_trans hn (by decide)
    · rw [List.range_eq_range']
      exact vals_rng n acc.toList 0 (by rw [Array.length_toList]; exact hacc.1) fun j v e => by
        obtain ⟨t, ht⟩ := hacc.2 j v (by rw [← Array.getElem?_toList]; exact e)
        exact ⟨t, by rw [ht, Nat.zero_add]⟩
theorem qe_lrng {a : Expr} {ta : TA} {p q pos pos' : Pos} (hc : X.calm = true) (hgl : Nm X.env.scope "list" .globalImplicit) (hml : X.mg "list" = none) (hg : Gl X "range") (hm : X.mg "range" = none) (ha : QA X [a] ta)
    (hs : starEach [a] X.env = [(false, eval a X.env)] := by rfl) (hs2 : starEach [.Call (.Name "range" p) [a] [] pos] X.env = [(false, eval (.Call (.Name "range" p) [a] [] pos) X.env)] := by rfl) :
    QE X (.Call (.Name "list" q) [.Call (.Name "range" p) [a] [] pos] [] pos') (tLRng ta) := ⟨pe_lrng hc hgl hml hg hm ha.h hs hs2⟩
end
end L2
end
section
set_option Elab.async false
set_option linter.all false
namespace L2
open PySem PySem.Spec PyProof.Rows
theorem qs_never {X : Cx} {st : Stmt} : QS X st (fun _ _ _ => False) := ⟨fun _ _ _ _ _ _ h => h.elim⟩
end L2
end
section
set_option Elab.async false
set_option linter.all false
set_option maxRecDepth 100000
set_option maxHeartbeats 4000000
namespace L2
open PySem PySem.Spec PyProof.Rows
def Ite (K : PySem.W.Frag) (l : Addr) : It :=
  ⟨fun i H => ∃ xs, SqL K H l xs /\ i < xs.length, fun i H v H' => ∃ p a, v = .ref p /\ H p = none /\ H' = upd H p (.tup [.int i, a]) /\ ∀ xs, SqL K H l xs -> xs[i]? = some a,
    fun i H => ∃ xs, SqL K H l xs /\ xs.length <= i⟩
theorem turn_enum {P : Program} {w : World} {K : PySem.W.Frag} {elts : List Expr} {ek : Nat} {epos : Pos} {e it l : Addr} (hei : e ≠ it) (hle : l ≠ e) (hli : l ≠ it) :
    Turn P w K (.Tuple elts ek epos) (Ite K l) [e, it] e (fun i h => (∃ old, IsEnum h e it i old) /\ h.IsListIter it l i) where
  mem := by simp
  obj := fun i h st b hb => by
    obtain ⟨⟨old, he⟩, ⟨o, ho, hc, hd⟩⟩ := st
    simp only [List.mem_cons, List.not_mem_nil, or_false] at hb
    rcases hb with rfl | rfl
    · exact ⟨_, he, fun v q => by cases q⟩
    · exact ⟨o, ho, fun v q => by rw [hd] at q; cases q⟩
  keep := fun i h h' st k => by
    obtain ⟨⟨old, he⟩, hit⟩ := st
    exact ⟨⟨old, k e (by simp) _ he⟩, hit.at fun o x => k it (by simp) o x⟩
  item := by
    intro X hP hw hK hc i pins s σ H E I hf st hg
    subst hP hw hK
    obtain ⟨⟨old, he⟩, hit⟩ := st
    obtain ⟨xs, q1, hx⟩ := hg
    obtain ⟨its, r1, w1, _⟩ := I.list q1
    have gx : xs[i]? = some xs[i] := List.getElem?_eq_getElem hx
    obtain ⟨u1, hu1, ru1⟩ := r1.get gx
    refine wpAny_pyNext_enum_item he hit w1.isList (by simpa using hu1) hei fun h' ho hit' hT hsz kp => ?_
    refine ⟨_, rfl, ?_⟩
    have hp : H s.heap.objs.size = none := I.hok.fresh (Nat.le_refl _)
    have ltp : ∀ c o, s.heap.get? c = some o -> c ≠ s.heap.objs.size := fun c o e => Nat.ne_of_lt (Heap.lt_size e)
    have kp' : ∀ c o, c ∉ [e, it] -> s.heap.get? c = some o -> h'.get? c = some o := fun c o hc e => kp c o (fun q => hc (by simp [q])) (fun q => hc (by simp [q])) e
    have ntr : ∀ c u, H c = some u -> c ∉ [e, it] := fun c u e hc => by
      have := (hf c hc).1
      rw [this] at e; cases e
    have I1 : Inv X pins σ (upd H s.heap.objs.size (.tup [.int i, xs[i]])) { s with heap := h', toks := s.toks + 1 } := by
      refine I.step (g' := s.gens) (d' := s.drawn) (t' := s.toks + 1) (ch := [e, it]) (fun c hc => ?_) (fun c o _ _ hc e _ => kp' c o hc e) (fun c o _ _ hc e _ => ⟨o.slots, kp' c o hc e⟩) (fun c o hc e n => by rw [Zq7 (ltp c o e)]; exact n)
        (fun c o hc e => ⟨o, kp' c o hc e⟩) (fun c us e => by rw [Zq7 (Zq16 e hp)]; exact e) (fun c o u e => by rw [Zq7 (Zq16 e hp)]; exact e) (fun c ps e => ⟨#[], by rw [Zq7 (Zq16 e hp), e]; simp⟩) (fun m hm => ?_) ?_ I.bare
      · obtain ⟨f0, f1, f2, f3, f4, f5⟩ := hf c hc
        exact ⟨f3, f1, f4, f5⟩
      · refine hm.at fun o e => kp' _ o (fun hc => ?_) e
        exact (hf _ hc).2.1 rfl
      · intro c u e
        by_cases hcp : c = s.heap.objs.size
        · subst hcp
          rw [Zq3] at e
          cases e
          exact ⟨by show 2 <= sizeLine; decide, [.int i s.toks, u1], .cons ⟨s.toks, rfl⟩ (.cons ru1 .nil), ⟨_, hT, rfl, _, rfl⟩⟩
        · rw [Zq7 hcp] at e
          refine (I.hok c u e).stay (fun d v hd q => kp' d v ?_ q) (fun d q => by rw [Zq7 (Zq16 q hp)]; exact q) fun d us q => by rw [Zq7 (Zq16 q hp)]; exact q
          rcases hd with rfl | hd
          · exact ntr _ u e
          · exact ntr _ _ hd
    refine wpAny_letOwnedTupleGo_enum (s := { s with heap := h', toks := s.toks + 1 }) ho fun h2 z2 e2 => ?_
    obtain ⟨f0, f1, f2, f3, f4, f5⟩ := hf e (by simp)
    have nz : e ≠ s.heap.objs.size := ltp e _ he
    have I2 : Inv X pins σ (upd H s.heap.objs.size (.tup [.int i, xs[i]])) { s with heap := h2, toks := s.toks + 1 } := I1.turned (s := { s with heap := h', toks := s.toks + 1 }) (it := e) (t' := s.toks + 1) (fun c o hc e => (e2.2 c hc).trans e) (by rw [Zq7 nz]; exact f0) f1 f3 f4 f5
    have z2' : IsEnum h2 e it ((i + 1 : Nat) : Int) u1 := by
      have e0 : ((i + 1 : Nat) : Int) = (i : Int) + 1 := by push_cast; rfl
      rw [e0]; exact z2
    refine ⟨.ref s.heap.objs.size, _, I2, rfl, ⟨s.heap.objs.size, xs[i], rfl, hp, rfl, fun xs' q1' => ?_⟩, ⟨⟨_, z2'⟩, hit'.at fun o x => (e2.2 it hei.symm).trans x⟩, fun c hc => ?_⟩
    · rw [I.list_inj q1' q1]
      exact gx
    · obtain ⟨o, ho⟩ : ∃ o, s.heap.get? c = some o := by
        simp only [List.mem_cons, List.not_mem_nil, or_false] at hc
        rcases hc with rfl | rfl
        · exact ⟨_, he⟩
        · obtain ⟨o, x, _⟩ := hit; exact ⟨o, x⟩
      rw [Zq7 (ltp c o ho)]
      exact (hf c hc).1
  done := by
    intro X hP hw hK hc i pins s σ H E I hf st hg
    subst hP hw hK
    obtain ⟨⟨old, he⟩, hit⟩ := st
    obtain ⟨xs, q1, hend⟩ := hg
    obtain ⟨its, r1, w1, _⟩ := I.list q1
    refine wpAny_pyNext_enum_end (I.ok.hd hc) he hit w1.isList (by have e1 := r1.length; simp; omega) fun h' kp => ⟨rfl, ?_⟩
    obtain ⟨f0, f1, f2, f3, f4, f5⟩ := hf it (by simp)
    exact I.turned (it := it) (t' := s.toks) (fun c o hc e => kp c o hc e) f0 f1 f3 f4 f5
  self := fun A i s Q E st h => by
    obtain ⟨⟨old, he⟩, _⟩ := st
    exact wpAny_pyIter_enum he h
def iEnum (K : PySem.W.Frag) (ta : TA) : TI := fun σ H R => ta σ H fun vs H1 => ∃ l xs, vs = [.ref l] /\ SqL K H1 l xs /\ R (Ite K l) H1
theorem bt_enumerate : bootBuiltins "enumerate" = some (.type "enumerate") := by decide +kernel
theorem pi_enum {X : Cx} {a : Expr} {ta : TA} {p pos : Pos} {elts : List Expr} {ek : Nat} {epos : Pos} (hg : Gl X "enumerate") (hm : X.mg "enumerate" = none) (ha : PA X [a] ta) (hs : starEach [a] X.env = [(false, eval a X.env)] := by rfl) :
    PI X (.Tuple elts ek epos) (.Call (.Name "enumerate" p) [a] [] pos) (iEnum X.K ta) := by
  intro pins s σ H R I h
  refine Call_ (Zq138 I hg hm bt_enumerate (PyProof.Rows.callWith_type1 (thn (ha pos pins s σ H _ I h) fun us s1 ⟨vs, H1, I1, r1, q1⟩ => ?_) hs rfl))
  obtain ⟨l, xs, e, h1, q⟩ := q1
  subst e
  obtain ⟨u1, rfl, ru1⟩ := Zq210 r1
  cases ru1
  obtain ⟨its, r1, p1, _⟩ := I1.list h1
  have b1 : l < s1.heap.objs.size := by obtain ⟨o, n, e, _⟩ := p1; exact Heap.lt_size e
  refine call_enumerate_list p1.isList fun h' z0 st1 _ kp => ?_
  refine wpAny_pyIter_enum z0 ?_
  have b1' : @LT.lt Nat _ l s1.heap.objs.size := b1
  have key : ∀ (a b : Nat), (a < b \/ b < a) -> ¬ (@Eq Nat a b) := fun a b h q => by omega
  refine ⟨s1.heap.objs.size + 1, _, _, _, H1, rfl, I1.kept (h' := h') (t' := s1.toks) kp, turn_enum (it := s1.heap.objs.size) (l := l) (key _ _ (by omega)) (key _ _ (by omega)) (key _ _ (by omega)), ⟨⟨_, z0⟩, st1⟩, fun c hc => ?_, q⟩
  have hle : s1.heap.objs.size <= c := by
    simp only [List.mem_cons, List.not_mem_nil, or_false] at hc
    have : (s1.heap.objs.size : Nat) <= (c : Nat) := by rcases hc with rfl | rfl <;> omega
    exact this
  exact I1.fpOk hle (I1.hok.fresh hle)
theorem qi_enum {X : Cx} {a : Expr} {ta : TA} {p pos : Pos} {elts : List Expr} {ek : Nat} {epos : Pos} (hg : Gl X "enumerate") (hm : X.mg "enumerate" = none) (ha : QA X [a] ta) (hs : starEach [a] X.env = [(false, eval a X.env)] := by rfl) :
    QI X (.Tuple elts ek epos) (.Call (.Name "enumerate" p) [a] [] pos) (iEnum X.K ta) := ⟨pi_enum hg hm ha.h hs⟩
end L2
end
section
set_option Elab.async false
set_option linter.all false
set_option maxRecDepth 100000
set_option maxHeartbeats 4000000
namespace L2
open PySem PySem.Spec PyProof.Rows
structure HasM (K : PySem.W.Frag) (C : Addr) (m qual : Str) (st : Stmt) : Prop where
  ex : ∃ (f : Addr) (fd : FuncData), Fun K m qual st f fd /\ Meth K C m f
structure Mt (P : Program) (w : World) (K : PySem.W.Frag) (mg : Str -> Option Value) (base : Heap) (C : Addr) (m : Str) (ps : List Str) (k : Nat) (sp : Sp) : Prop where
  ex : ∃ (f : Addr) (fd : FuncData), Meth K C m f /\ FnOk P w K mg base CX0 k f fd ps sp /\ Binds K fd ps []
section
variable {P : Program} {w : World} {K : PySem.W.Frag} {mg : Str -> Option Value} {base : Heap} {C : Addr} {m qual : Str} {st : Stmt} {N ps : List Str} {k : Nat} {sp : Sp}
structure Mks (P : Program) (w : World) (K : PySem.W.Frag) (mg : Str -> Option Value) (base : Heap) (C : Addr) (x : Str) (k : Nat) (sp : Sp) : Prop where
  ex : ∃ (f : Addr) (fd : FuncData), Mk K C f /\ FnOk P w K mg base CX0 k f fd ["self"] sp /\ Binds K fd ["self"] [] /\ mg x = some (.ref C)
end
section
variable {X : Cx} {C : Addr} {m x f : Str} {ps : List Str} {k : Nat} {sp : Sp} {o e value i : Expr} {es : List Expr} {ta td ty tv : TE} {t : TA} {apos pos pos' p : Pos}
theorem qe_dget (hr : Room k X.A) (ho : QE X o td) (hi : QE X i ty) (hs : NoSl i) : QE X (.Subscript o i pos) (tDGet td ty) := ⟨pe_dget (by have := hr.units; omega) ho.h hi.h hs⟩
theorem qe_disp1 {ek ev : Expr} {tk tw : TE} (hk : QE X ek tk) (hv : QE X ev tw) : QE X (.Dict [some ek] [ev] pos) (tDisp [(tk, tw)]) := ⟨pe_disp (pps_cons hk.h hv.h pps_nil) rfl rfl (by simp) (by show 1 <= 15; decide)⟩
end
end L2
end
section
set_option Elab.async false
set_option linter.all false
set_option maxRecDepth 100000
set_option maxHeartbeats 4000000
namespace L2
open PySem PySem.Spec PyProof.Rows
section
variable {X : Cx} {pins : List (Addr × Obj)} {σ : St} {H : Hp} {s : Shared}
end
section
variable {X : Cx} {e : Expr} {te : TE}
end
section
variable {X : Cx} {tg l : Expr} {te : TE}
end
section
variable {X : Cx}
end
end L2
end
section
set_option Elab.async false
set_option linter.all false
set_option maxRecDepth 100000
set_option maxHeartbeats 4000000
namespace L2
open PySem PySem.Spec PyProof.Rows
section
variable {X : Cx} {o : Expr} {te : TE}
end
end L2
end
section
set_option Elab.async false
set_option linter.all false
set_option maxRecDepth 100000
set_option maxHeartbeats 4000000
namespace L2
open PySem PySem.Spec PyProof.Rows
theorem comp_made {J : It} {nl : Nat} {fv : St} {g : TG} {tt : TTs} {te : TE} {Q : VK} {H : Hp} (n : Nat) (f : Nat -> Option (List V)) (Pv : Nat -> List V -> Hp -> Prop) (h0 : Pv 0 [] H) (hn : n <= 1000000)
    (hgo : ∀ i H ys, i < n -> Pv i ys H -> J.go i H) (hy : ∀ i H x H' ys, i < n -> Pv i ys H -> J.yld i H x H' -> ∃ p us, f i = some us /\ x = .ref p /\ H p = none /\ H' = upd H p (.tup us)) (hst : ∀ H ys, Pv n ys H -> J.stop n H)
    (hlen : ∀ i ys H, Pv i ys H -> ys.length <= i)
    (step : ∀ i us p ys H, i < n -> f i = some us -> Pv i ys H -> H p = none -> Zq159 nl fv g tt te (.ref p) (upd H p (.tup us)) (fun y H' => Pv (i + 1) (ys ++ [y]) H') fun H' => Pv (i + 1) ys H')
    (hd : ∀ ys H, Pv n ys H -> ∀ l, H l = none -> Q (.ref l) (upd H l (.lst ys))) :
    Zq175 J nl fv g tt te Q H := by
  have mono : ∀ {x : V} {H : Hp} {Y Y' : V -> Hp -> Prop} {N N' : Hp -> Prop}, Zq159 nl fv g tt te x H Y N -> Y = Y' -> N = N' -> Zq159 nl fv g tt te x H Y' N' := fun h e1 e2 => by subst e1; subst e2; exact h
  refine ⟨fun i m ys H => m = n - i /\ i <= n /\ Pv i ys H, ⟨n, by simp, Nat.zero_le _, h0⟩, ?_⟩
  rintro i m ys H ⟨rfl, hi, p⟩
  have hl := hlen i ys H p
  have hz : (1000000 : Nat) < sizeLine := by decide
  by_cases hlt : i < n
  · refine .inr ⟨hgo i H ys hlt p, by omega, n - (i + 1), by omega, fun x H' y => ?_⟩
    obtain ⟨q, us, hf, rfl, hq, rfl⟩ := hy i H x H' ys hlt p y
    refine mono (step i us q ys H hlt hf p hq) ?_ ?_
    · funext y H4
      apply propext
      exact ⟨fun q => ⟨rfl, hlt, q⟩, fun q => q.2.2⟩
    · funext H3
      apply propext
      exact ⟨fun q => ⟨rfl, hlt, q⟩, fun q => q.2.2⟩
  · have e : i = n := by omega
    subst e
    exact .inl ⟨hst H ys p, by omega, hd ys H p⟩
theorem comp_enum {K : PySem.W.Frag} {l : Addr} {nl : Nat} {fv : St} {g : TG} {tt : TTs} {te : TE} {Q : VK} {H : Hp} (xs : List V) (Pv : Nat -> List V -> Hp -> Prop) (h0 : Pv 0 [] H) (hn : xs.length <= 1000000)
    (hl : ∀ i ys H, i <= xs.length -> Pv i ys H -> SqL K H l xs) (hlen : ∀ i ys H, Pv i ys H -> ys.length <= i)
    (step : ∀ i x p ys H, xs[i]? = some x -> Pv i ys H -> H p = none -> Zq159 nl fv g tt te (.ref p) (upd H p (.tup [.int i, x])) (fun y H' => Pv (i + 1) (ys ++ [y]) H') fun H' => Pv (i + 1) ys H')
    (hd : ∀ ys H, Pv xs.length ys H -> ∀ l, H l = none -> Q (.ref l) (upd H l (.lst ys))) :
    Zq175 (Ite K l) nl fv g tt te Q H := by
  refine comp_made xs.length (fun i => (xs[i]?).map fun x => [.int i, x]) Pv h0 hn (fun i H ys hi p => ⟨xs, hl i ys H (Nat.le_of_lt hi) p, hi⟩) ?_ (fun H ys p => ⟨xs, hl _ ys H (Nat.le_refl _) p, Nat.le_refl _⟩) hlen ?_ hd
  · rintro i H x H' ys hi p ⟨q, a, rfl, hq, rfl, ha⟩
    exact ⟨q, _, by rw [ha xs (hl i ys H (Nat.le_of_lt hi) p)]; rfl, rfl, hq, rfl⟩
  · intro i us p ys H hi hf hp hq
    obtain ⟨x, hx, rfl⟩ := Option.map_eq_some_iff.mp hf
    exact step i x p ys H hx hp hq
end L2
end
section
set_option Elab.async false
set_option linter.all false
set_option maxRecDepth 100000
set_option maxHeartbeats 4000000
namespace L2
open PySem PySem.Spec PyProof.Rows PySem.W
def LL (r : Nat -> Nat) (a b : Nat) : Prop := r a < r b \/ (r a = r b /\ a < b)
theorem LL.le {r : Nat -> Nat} {a b : Nat} (h : LL r a b) : r a <= r b := by rcases h with h | h <;> omega
structure Tl (N m : Nat) (p : Array Nat) : Prop where
  pm : Pm N p
  tl : ∀ j, m <= j -> j < N -> p.getD j 0 = j
  hd : ∀ j, j < m -> p.getD j 0 < m
def UpS (r : Nat -> Nat) (p : Array Nat) (m : Nat) : Prop := ∀ i, i + 1 < m -> LL r (p.getD i 0) (p.getD (i + 1) 0)
def DnS (r : Nat -> Nat) (p : Array Nat) (m : Nat) : Prop := ∀ i, i + 1 < m -> LL r (p.getD (i + 1) 0) (p.getD i 0)
section
variable {s : Shared} {cmp : Nat -> Nat -> (Bool -> Shared -> Prop) -> Shared -> Prop} {r : Nat -> Nat} {N : Nat} {p : Array Nat}
theorem UpS.up {m : Nat} (h : UpS r p m) : UpTo r p m := fun i hi => (h i hi).le
theorem Zq128 (h : Pm N p) {i j k : Nat} (hj : j <= N) : (kas_rev p i j).getD k 0 = if i <= k /\ k < j then p.getD (i + j - 1 - k) 0 else p.getD k 0 := kp_rev (r := id) h hj
theorem at_bub (h : Pm N p) {k l i : Nat} (hk : k < N) (hl : l <= k) : (bubble p k (k - l)).getD i 0 = if i = l then p.getD k 0 else if l < i /\ i <= k then p.getD (i - 1) 0 else p.getD i 0 := kp_bub (r := id) h hk hl
theorem Tl.step {n : Nat} (h : Tl N n p) (hn : n < N) : Tl N (n + 1) p := ⟨h.pm, fun j a b => h.tl j (by omega) b, fun j hj => by
  by_cases e : j < n
  · have := h.hd j e; omega
  · have : j = n := by omega
    subst this
    rw [h.tl j (Nat.le_refl _) hn]; omega⟩
theorem Tl.rev {n i j : Nat} (h : Tl N n p) (hj : j <= n) (hn : n <= N) : Tl N n (kas_rev p i j) := ⟨h.pm.rev i j, fun k a b => by rw [Zq128 h.pm (by omega), if_neg (by omega)]; exact h.tl k a b, fun k hk => by
  rw [Zq128 h.pm (by omega)]
  by_cases c : i <= k /\ k < j
  · rw [if_pos c]; exact h.hd _ (by omega)
  · rw [if_neg c]; exact h.hd k hk⟩
theorem asc_okS (hR : Zq192 cmp r N s) {Q : Nat -> Shared -> Prop} : ∀ (f n : Nat), 1 <= n -> n + f <= N -> Tl N n p -> UpS r p n -> (∀ m, n <= m -> m <= n + f -> Tl N m p -> UpS r p m -> (m < n + f -> r (p.getD m 0) < r (p.getD (m - 1) 0)) -> Q m s) -> (kas_asc p f n).kasWp cmp Q s
  | 0, n, h1, h2, ht, hu, k => k n (Nat.le_refl _) (Nat.le_refl _) ht hu (fun z => by omega)
  | f + 1, n, h1, h2, ht, hu, k => by
    refine hR _ _ _ (ht.pm.lt (by omega)) (ht.pm.lt (by omega)) ?_
    by_cases c : r (p.getD n 0) < r (p.getD (n - 1) 0)
    · rw [decide_eq_true c]
      exact k n (Nat.le_refl _) (by omega) ht hu fun _ => c
    · rw [decide_eq_false c]
      refine asc_okS hR f (n + 1) (by omega) (by omega) (ht.step (by omega)) (fun i hi => ?_) fun m a b t u d => k m (by omega) (by omega) t u (fun z => d (by omega))
      by_cases e : i + 1 < n
      · exact hu i e
      · have : i = n - 1 := by omega
        subst this
        rw [show n - 1 + 1 = n by omega]
        have e1 := ht.tl n (Nat.le_refl _) (by omega)
        have e2 := ht.hd (n - 1) (by omega)
        rw [e1] at c ⊢
        unfold LL
        omega
structure Dn (r : Nat -> Nat) (p : Array Nat) (z n : Nat) : Prop where
  a : ∀ i, i + 1 <= z -> LL r (p.getD (i + 1) 0) (p.getD i 0)
  b : ∀ i, i + 1 = z -> r (p.getD (i + 1) 0) < r (p.getD i 0)
  c : ∀ i, z <= i -> i + 1 < n -> r (p.getD i 0) = r (p.getD (i + 1) 0) /\ p.getD i 0 < p.getD (i + 1) 0
theorem Dn.eq {b n : Nat} (h : Dn r p b n) : ∀ d, b + d < n -> r (p.getD b 0) = r (p.getD (b + d) 0)
  | 0, _ => rfl
  | d + 1, hd => (h.eq d (by omega)).trans (h.c (b + d) (by omega) (by omega)).1
theorem Dn.flip {b n : Nat} (h : Dn r p b n) (hp : Pm N p) (hb : b < n) (hn : n <= N) : DnS r (kas_rev p b n) n := fun i hi => by
  rw [Zq128 hp hn, Zq128 hp hn]
  by_cases c1 : i + 1 < b
  · rw [if_neg (by omega), if_neg (by omega)]; exact h.a i (by omega)
  · by_cases c2 : i + 1 = b
    · rw [if_pos (by omega), if_neg (by omega), show b + n - 1 - (i + 1) = n - 1 by omega]
      have e := h.eq (n - 1 - b) (by omega)
      rw [show b + (n - 1 - b) = n - 1 by omega] at e
      have e2 := h.b i c2
      rw [c2] at e2
      exact .inl (by omega)
    · rw [if_pos (by omega), if_pos (by omega)]
      have e := h.c (b + n - 1 - (i + 1)) (by omega) (by omega)
      rw [show b + n - 1 - (i + 1) + 1 = b + n - 1 - i by omega] at e
      exact .inr e
theorem desc_okS (hR : Zq192 cmp r N s) {Q : Array Nat × Nat × Nat -> Shared -> Prop} : ∀ (f : Nat) (p : Array Nat) (n q : Nat), Tl N n p -> 1 <= n -> n + f <= N -> q + 1 <= n -> Dn r p (n - (q + 1)) n ->
    (∀ (p' : Array Nat) (m q' : Nat), Tl N m p' -> n <= m -> m <= n + f -> q' + 1 <= m -> Dn r p' (m - (q' + 1)) m -> Q (p', m, q') s) -> (kas_desc f p n q).kasWp cmp Q s
  | 0, p, n, q, hp, h1, h2, hq, hd, k => k p n q hp (Nat.le_refl _) (Nat.le_refl _) hq hd
  | f + 1, p, n, q, hp, h1, h2, hq, hd, k => by
    refine hR _ _ _ (hp.pm.lt (by omega)) (hp.pm.lt (by omega)) ?_
    by_cases c : r (p.getD n 0) < r (p.getD (n - 1) 0)
    · rw [decide_eq_true c]
      show (if true = true then (if q > 0 then kas_desc f (kas_rev p (n - (q + 1)) n) (n + 1) 0 else kas_desc f p (n + 1) 0) else _).kasWp cmp Q s
      rw [if_pos rfl]
      by_cases z : q > 0
      · rw [if_pos z]
        have fl := hd.flip hp.pm (by omega) (by omega)
        have last : r ((kas_rev p (n - (q + 1)) n).getD n 0) < r ((kas_rev p (n - (q + 1)) n).getD (n - 1) 0) := by
          rw [Zq128 hp.pm (by omega), Zq128 hp.pm (by omega), if_neg (by omega), if_pos (by omega), show n - (q + 1) + n - 1 - (n - 1) = n - (q + 1) by omega]
          have e := hd.eq q (by omega)
          rw [show n - (q + 1) + q = n - 1 by omega] at e
          omega
        refine desc_okS hR f _ (n + 1) 0 ((hp.rev (by omega) (by omega)).step (by omega)) (by omega) (by omega) (by omega) ⟨fun i hi => ?_, fun i hi => ?_, fun i a b => by omega⟩ fun p' m q' a b c' d e => k p' m q' a (by omega) (by omega) d e
        · by_cases e : i + 1 < n
          · exact fl i e
          · have : i = n - 1 := by omega
            subst this
            rw [show n - 1 + 1 = n by omega]
            exact .inl last
        · have : i = n - 1 := by omega
          subst this
          rw [show n - 1 + 1 = n by omega]
          exact last
      · rw [if_neg z]
        have q0 : q = 0 := by omega
        subst q0
        refine desc_okS hR f p (n + 1) 0 (hp.step (by omega)) (by omega) (by omega) (by omega) ⟨fun i hi => ?_, fun i hi => ?_, fun i a b => by omega⟩ fun p' m q' a b c' d e => k p' m q' a (by omega) (by omega) d e
        · by_cases e : i + 1 < n
          · exact hd.a i (by omega)
          · have : i = n - 1 := by omega
            subst this
            rw [show n - 1 + 1 = n by omega]
            exact .inl c
        · have : i = n - 1 := by omega
          subst this
          rw [show n - 1 + 1 = n by omega]
          exact c
    · rw [decide_eq_false c]
      show (if false = true then _ else KasT.ask (p.getD (n - 1) 0) (p.getD n 0) fun d => if d = true then .ret (p, n, q) else kas_desc f p (n + 1) (q + 1)).kasWp cmp Q s
      rw [if_neg Bool.false_ne_true]
      refine hR _ _ _ (hp.pm.lt (by omega)) (hp.pm.lt (by omega)) ?_
      by_cases d : r (p.getD (n - 1) 0) < r (p.getD n 0)
      · rw [decide_eq_true d]
        exact k p n q hp (Nat.le_refl _) (by omega) hq hd
      · rw [decide_eq_false d]
        have e1 := hp.tl n (Nat.le_refl _) (by omega)
        have e2 := hp.hd (n - 1) (by omega)
        have eb : n + 1 - (q + 1 + 1) = n - (q + 1) := by omega
        refine desc_okS hR f p (n + 1) (q + 1) (hp.step (by omega)) (by omega) (by omega) (by omega) (by
          rw [eb]
          refine ⟨hd.a, hd.b, fun i a b => ?_⟩
          by_cases e : i + 1 < n
          · exact hd.c i a e
          · have : i = n - 1 := by omega
            subst this
            rw [show n - 1 + 1 = n by omega]
            exact ⟨by omega, by omega⟩) fun p' m q' a b c' d e => k p' m q' a (by omega) (by omega) d e
theorem rev_upS (h : Pm N p) {n : Nat} (hn : n <= N) (hd : DnS r p n) : UpS r (kas_rev p 0 n) n := fun i hi => by
  rw [Zq128 h hn, Zq128 h hn, if_pos (by omega), if_pos (by omega)]
  have := hd (0 + n - 1 - (i + 1)) (by omega)
  rw [show 0 + n - 1 - (i + 1) + 1 = 0 + n - 1 - i by omega] at this
  exact this
def RunsS (r : Nat -> Nat) (N : Nat) (Q : Nat × Array Nat -> Shared -> Prop) (s : Shared) : Prop := ∀ (m : Nat) (p : Array Nat), 1 <= m -> m <= N -> Tl N m p -> UpS r p m -> Q (m, p) s
theorem tail_okS (hR : Zq192 cmp r N s) {n : Nat} (h : Tl N n p) {Q : Nat × Array Nat -> Shared -> Prop} (k : RunsS r N Q s) (h1 : 1 <= n) (hn : n <= N) (hd : DnS r p n) : (kas_tail3 n N p).kasWp cmp Q s := by
  unfold kas_tail3
  rw [KasT.kasWp_bind]
  exact asc_okS hR (N - n) n h1 (by omega) (h.rev (Nat.le_refl _) hn) (rev_upS h.pm hn hd) fun m a b t u _ => k m _ (by omega) (by omega) t u
theorem part_okS (hR : Zq192 cmp r N s) {n : Nat} (h : Tl N (n + 1) p) {Q : Nat × Array Nat -> Shared -> Prop} (k : RunsS r N Q s) (hn : n + 1 <= N) (hd : Dn r p n (n + 1)) : (kas_descPart n N p).kasWp cmp Q s := by
  unfold kas_descPart
  rw [KasT.kasWp_bind]
  refine desc_okS hR (N - (n + 1)) p (n + 1) 0 h (by omega) (by omega) (by omega) hd fun p' m q' a b c d e => ?_
  dsimp only
  by_cases z : q' > 0
  · rw [if_pos z]
    exact tail_okS hR (a.rev (Nat.le_refl _) (by omega)) k (by omega) (by omega) (e.flip a.pm (by omega) (by omega))
  · rw [if_neg z]
    exact tail_okS hR a k (by omega) (by omega) fun i hi => e.a i (by omega)
theorem count_okS (hR : Zq192 cmp r N s) (h : Tl N 1 p) (h1 : 1 <= N) {Q : Nat × Array Nat -> Shared -> Prop} (k : RunsS r N Q s) : (kas_count N p).kasWp cmp Q s := by
  unfold kas_count
  rw [KasT.kasWp_bind]
  refine asc_okS hR (N - 1) 1 (Nat.le_refl _) (by omega) h (fun i hi => by omega) fun m a b t u d => ?_
  by_cases z : m = N
  · rw [if_pos (by rw [z]; exact beq_self_eq_true N)]
    exact k m p a (by omega) t u
  · rw [if_neg (fun e => z (eq_of_beq e))]
    have dm := d (by omega)
    by_cases y : m > 1
    · rw [if_pos y]
      refine hR _ _ _ (h.pm.lt (by omega)) (h.pm.lt (by omega)) ?_
      by_cases c : r (p.getD 0 0) < r (p.getD (m - 1) 0)
      · rw [decide_eq_true c]
        exact k m p a (by omega) t u
      · rw [decide_eq_false c]
        have all : ∀ i, i < m -> r (p.getD i 0) = r (p.getD (m - 1) 0) := fun i hi => by
          have h0 := up_le u.up i 0 (by omega)
          have h2 := up_le u.up (m - 1 - i) i (by omega)
          rw [show 0 + i = i by omega] at h0
          rw [show i + (m - 1 - i) = m - 1 by omega] at h2
          unfold kp at h0 h2
          omega
        refine part_okS hR ((t.rev (Nat.le_refl _) (by omega)).step (by omega)) k (by omega) ⟨fun i hi => ?_, fun i hi => ?_, fun i a b => by omega⟩
        · rw [Zq128 h.pm (by omega), Zq128 h.pm (by omega)]
          by_cases e : i + 1 < m
          · rw [if_pos (by omega), if_pos (by omega)]
            have e2 := u (0 + m - 1 - (i + 1)) (by omega)
            rw [show 0 + m - 1 - (i + 1) + 1 = 0 + m - 1 - i by omega] at e2
            have a1 := all (0 + m - 1 - (i + 1)) (by omega)
            have a2 := all (0 + m - 1 - i) (by omega)
            rcases e2 with e2 | e2
            · omega
            · exact .inr ⟨by omega, e2.2⟩
          · rw [if_neg (by omega), if_pos (by omega)]
            have e3 : i + 1 = m := by omega
            rw [e3, show 0 + m - 1 - i = 0 by omega]
            have := all 0 (by omega)
            exact .inl (by omega)
        · rw [Zq128 h.pm (by omega), Zq128 h.pm (by omega), if_neg (by omega), if_pos (by omega), hi, show 0 + m - 1 - i = 0 by omega]
          have := all 0 (by omega)
          omega
    · rw [if_neg y]
      have m1 : m = 1 := by omega
      subst m1
      refine part_okS hR (t.step (by omega)) k (by omega) ⟨fun i hi => ?_, fun i hi => ?_, fun i a b => by omega⟩
      · have : i = 0 := by omega
        subst this
        exact .inl dm
      · have : i = 0 := by omega
        subst this
        exact dm
theorem place_okS (hR : Zq192 cmp r N s) (h : Pm N p) {Q : Nat -> Shared -> Prop} {k : Nat} (hk : k < N) (hu : UpTo r p k) (q : ∀ l, l <= k -> (∀ i, i < l -> kp r p i <= kp r p k) -> (∀ i, l <= i -> i < k -> kp r p k < kp r p i) -> Q l s) :
    ∀ (f l m : Nat), l <= m -> m <= k -> m - l <= f -> (∀ i, i < l -> kp r p i <= kp r p k) -> (∀ i, m <= i -> i < k -> kp r p k < kp r p i) -> (kas_place p k f l m).kasWp cmp Q s
  | 0, l, m, a, b, c, lo, hi => q l (by omega) lo fun i x y => hi i (by omega) y
  | f + 1, l, m, a, b, c, lo, hi => by
    show (if l >= m then KasT.ret l else _).kasWp cmp Q s
    by_cases z : l >= m
    · rw [if_pos z]
      exact q l (by omega) lo fun i x y => hi i (by omega) y
    · rw [if_neg z]
      refine hR _ _ _ (h.lt hk) (h.lt (by omega)) ?_
      by_cases y : r (p.getD k 0) < r (p.getD ((l + m) / 2) 0)
      · rw [decide_eq_true y]
        refine place_okS hR h hk hu q f l ((l + m) / 2) (by omega) (by omega) (by omega) lo fun i x w => ?_
        have := up_le hu (i - (l + m) / 2) ((l + m) / 2) (by omega)
        rw [show (l + m) / 2 + (i - (l + m) / 2) = i by omega] at this
        exact Nat.lt_of_lt_of_le y this
      · rw [decide_eq_false y]
        refine place_okS hR h hk hu q f ((l + m) / 2 + 1) m (by omega) b (by omega) (fun i x => ?_) hi
        have := up_le hu ((l + m) / 2 - i) i (by omega)
        rw [show i + ((l + m) / 2 - i) = (l + m) / 2 by omega] at this
        exact Nat.le_trans this (Nat.le_of_not_lt y)
theorem bin_okS (hR : Zq192 cmp r N s) {Q : Array Nat -> Shared -> Prop} : ∀ (f : Nat) (p : Array Nat) (k : Nat), Tl N k p -> k + f <= N -> UpS r p k -> (∀ p', Pm N p' -> UpS r p' (k + f) -> Q p' s) -> (kas_bin f p k).kasWp cmp Q s
  | 0, p, k, h, hk, hu, q => q p h.pm hu
  | f + 1, p, k, h, hk, hu, q => by
    show ((kas_place p k k 0 k).bind fun l => kas_bin f (bubble p k (k - l)) (k + 1)).kasWp cmp Q s
    rw [KasT.kasWp_bind]
    refine place_okS hR h.pm (by omega) hu.up (fun l a lo hi => ?_) k 0 k (by omega) (by omega) (by omega) (fun i x => by omega) fun i x y => by omega
    have ek := h.tl k (Nat.le_refl _) (by omega)
    refine bin_okS hR f _ (k + 1) ⟨h.pm.bub _ _, fun j x y => ?_, fun j x => ?_⟩ (by omega) (fun i x => ?_) fun p' a b => q p' a (by rw [show k + (f + 1) = k + 1 + f by omega]; exact b)
    · rw [at_bub h.pm (by omega) a, if_neg (by omega), if_neg (by omega)]; exact h.tl j (by omega) y
    · rw [at_bub h.pm (by omega) a]
      by_cases c : j = l
      · rw [if_pos c, ek]; omega
      · rw [if_neg c]
        by_cases d : l < j /\ j <= k
        · rw [if_pos d]; have := h.hd (j - 1) (by omega); omega
        · rw [if_neg d]; have := h.hd j (by omega); omega
    · rw [at_bub h.pm (by omega) a, at_bub h.pm (by omega) a]
      by_cases c : i = l
      · rw [if_pos c, if_neg (by omega), if_pos (by omega), show i + 1 - 1 = l by omega]
        exact .inl (hi l (by omega) (by omega))
      · rw [if_neg c]
        by_cases d : i + 1 = l
        · rw [if_pos d, if_neg (by omega)]
          have e1 := lo i (by omega)
          have e2 := h.hd i (by omega)
          unfold kp at e1
          rw [ek] at e1 ⊢
          unfold LL
          omega
        · rw [if_neg d]
          by_cases e : l < i
          · rw [if_pos (by omega), if_pos (by omega), show i + 1 - 1 = i - 1 + 1 by omega]
            exact hu (i - 1) (by omega)
          · rw [if_neg (by omega), if_neg (by omega)]
            exact hu i (by omega)
theorem sort_okS (hR : Zq192 cmp r N s) (h2 : 1 <= N) {Q : Array Nat -> Shared -> Prop} (q : ∀ p, Pm N p -> UpS r p N -> Q p s) : (kas_sort N).kasWp cmp Q s := by
  unfold kas_sort
  rw [KasT.kasWp_bind]
  have id0 : ∀ j, j < N -> (List.toArray (List.range N)).getD j 0 = j := fun j hj => by simp [Array.getD, hj]
  refine count_okS hR ⟨by show (List.toArray (List.range N)).toList.Perm _; exact List.Perm.refl _, fun j _ hj => id0 j hj, fun j hj => by rw [id0 j (by omega)]; exact hj⟩ h2 fun m p a b hp u => ?_
  by_cases c : m < N
  · rw [if_pos c]
    refine bin_okS hR _ p _ (by rw [Nat.max_eq_left a]; exact hp) (by omega) (by rw [Nat.max_eq_left a]; exact u) fun p' x y => q p' x ?_
    rw [show max m 1 + (N - max m 1) = N by omega] at y
    exact y
  · rw [if_neg c]
    exact q p hp.pm (by rw [show N = m by omega]; exact u)
theorem LL.tr {a b c : Nat} (h : LL r a b) (g : LL r b c) : LL r a c := by unfold LL at *; omega
theorem UpS.lt {m : Nat} (h : UpS r p m) : ∀ (d i : Nat), i + d + 1 < m -> LL r (p.getD i 0) (p.getD (i + d + 1) 0)
  | 0, i, hi => h i hi
  | d + 1, i, hi => (UpS.lt h d i (by omega)).tr (h (i + d + 1) (by omega))
theorem UpS.pair (hp : Pm N p) (u : UpS r p N) : p.toList.Pairwise (LL r) := by
  rw [List.pairwise_iff_getElem]
  intro i j hi hj hij
  have hs := hp.size
  have hi' : i < p.size := by simpa using hi
  have hj' : j < p.size := by simpa using hj
  have := u.lt (j - i - 1) i (by omega)
  rw [show i + (j - i - 1) + 1 = j by omega] at this
  simpa [Array.getD, hi', hj'] using this
end
def kI (ks : List Int) (i : Nat) : Int := ks.getD i 0
def LK (ks : List Int) (a b : Nat) : Prop := kI ks a < kI ks b \/ (kI ks a = kI ks b /\ a < b)
theorem weak_ints (ks : List Int) : Weak fun i j => decide (kI ks i < kI ks j) := ⟨fun i => decide_eq_false (Int.lt_irrefl _), fun i j k a b => by have := of_decide_eq_true a; have := of_decide_eq_true b; exact decide_eq_true (by omega),
  fun i j k a => by
    have := of_decide_eq_true a
    by_cases c : kI ks i < kI ks k
    · exact .inl (decide_eq_true c)
    · exact .inr (decide_eq_true (by omega))⟩
def rI' (ks : List Int) : Nat -> Nat := rk (fun i j => decide (kI ks i < kI ks j)) ks.length
theorem rI_iff {ks : List Int} {i j : Nat} (hi : i < ks.length) : (rI' ks i < rI' ks j) ↔ kI ks i < kI ks j := by
  have := rk_iff (weak_ints ks) (i := i) (j := j) hi
  unfold rI'
  by_cases c : kI ks i < kI ks j
  · rw [decide_eq_true c] at this
    exact ⟨fun _ => c, fun _ => of_decide_eq_true this⟩
  · rw [decide_eq_false c] at this
    exact ⟨fun z => absurd z (of_decide_eq_false this), fun z => absurd z c⟩
theorem LL.key {ks : List Int} {i j : Nat} (hi : i < ks.length) (hj : j < ks.length) (h : LL (rI' ks) i j) : LK ks i j := by
  have a := rI_iff (ks := ks) (i := i) (j := j) hi
  have b := rI_iff (ks := ks) (i := j) (j := i) hj
  rcases h with h | ⟨h1, h2⟩
  · exact .inl (a.mp h)
  · refine .inr ⟨?_, h2⟩
    have : ¬ kI ks i < kI ks j := fun z => by have := a.mpr z; omega
    have : ¬ kI ks j < kI ks i := fun z => by have := b.mpr z; omega
    omega
theorem UpS.keys {ks : List Int} {p : Array Nat} (hp : Pm ks.length p) (u : UpS (rI' ks) p ks.length) : p.toList.Pairwise (LK ks) := by
  have hm : ∀ i ∈ p.toList, i < ks.length := fun i hi => List.mem_range.mp (hp.mem_iff.mp hi)
  exact List.Pairwise.imp_of_mem (fun hi hj h => LL.key (hm _ hi) (hm _ hj) h) (u.pair hp)
end L2
end
section
set_option Elab.async false
set_option linter.all false
set_option maxRecDepth 100000
set_option maxHeartbeats 4000000
namespace L2
open PySem PySem.Spec PyProof.Rows PySem.W
def IsTab (H : Hp) (P : Addr) (nm : Str) : Prop := ∃ ps t, H P = some (.tbl ps) /\ ps[0]? = some (.str nm t)
theorem IsTab.same {H H' : Hp} {P : Addr} {nm : Str} (h : IsTab H P nm) (k : Same H H') : IsTab H' P nm := let ⟨ps, t, a, b⟩ := h; ⟨ps, t, k _ _ a, b⟩
theorem IsTab.x {H H' : Hp} {P s : Addr} {xs : List V} {nm : Str} (h : IsTab H P nm) (hs : H s = some (.lst xs)) (k : SameX s H H') : IsTab H' P nm := let ⟨ps, t, a, b⟩ := h; ⟨ps, t, k _ _ (fun z => by rw [z, hs] at a; cases a) a, b⟩
def Tabs (H H' : Hp) : Prop := ∀ b ps, H b = some (.tbl ps) -> ∃ more, H' b = some (.tbl (ps ++ more))
theorem IsTab.call {H H' : Hp} {P : Addr} {nm : Str} (h : IsTab H P nm) (k : Tabs H H') : IsTab H' P nm := by
  obtain ⟨ps, t, a, b⟩ := h
  obtain ⟨m, e⟩ := k _ _ a
  refine ⟨_, t, e, ?_⟩
  have h0 : 0 < ps.size := by
    rcases Nat.eq_zero_or_pos ps.size with z | z
    · rw [Array.getElem?_eq_none (by omega)] at b; cases b
    · exact z
  rw [Array.getElem?_append_left h0]; exact b
section
variable {P : Program} {w : World} {K : Frag} {mg : Str -> Option Value} {base : Heap}
theorem lam_run {A : Around} {outer : List Env} {s : Shared} {H : Hp} {k : Nat} {name qual : Str} {params : Arguments} {body : Expr} {scope : Scope} {pm ctv : Value} {c f : Addr} {x : Str} {u : Value} {v : V} {te : TE} {Q : VK}
    (hr : Room k A) (e0 : Env0 P w K mg base A outer s H) (ho : s.heap.get? f = some (kla_obj name qual params body scope [] pm c ctv)) (hcd : s.heap.CodeRec (.ref c) qual) (S : FnScope [x] [x] scope)
    (hb : bindArgs (kla_fn name qual params body scope [] pm (.ref c) ctv) ⟨[u], []⟩ = pure [(x, u)]) (r : RelV v u)
    (hbody : PE (cxOf CX0 P w K mg base [x] qual scope f (.ref c) A outer s H E0) body te) (hq : te (Zq135 [x] [v]) H Q) :
    codeAny (model P w) A (.call (.ref f) ⟨[u], []⟩) (CR CX0 outer P w H s Q E0) s := by
  have lim : s.heap.NoLimit := e0.mod.nolimit.keeps fun b o e => (e0.bs b o e).1
  have hkind : ∀ y ∈ [(x, u)], scope.names.lookup y.1 = some .local \/ (scope.names.lookup y.1 = some .cell /\ ((cellsFrom (s.heap.objs.size + 1) scope.names []).lookup y.1).isSome = true) := fun ⟨n, v⟩ hy => by
    have e : (n, v) = (x, u) := by simpa using hy
    cases e
    rcases S.par x List.mem_cons_self with q | q
    · exact .inl q
    · exact .inr ⟨q, PySem.W.cellsFrom_some _ _ _ (.inl q)⟩
  refine kla_callFunE hr.depth ho rfl S.co S.gen rfl hcd ?_
  rw [hb]
  refine wpAny_pure (wpAny_newFunctionEnv_cells S.kind hkind fun env he s1 xx => ?_)
  subst he
  refine ⟨lim.keeps xx.toInCall.keep, kla_codeExpr ?_⟩
  have I : Inv (cxOf CX0 P w K mg base [x] qual scope f (.ref c) A outer s H E0) [] (Zq135 [x] [v]) H s1 := inv_start (ps := [x]) S hr.hd e0 rfl (.cons r .nil) xx
  exact wpAny_mono (hbody [] s1 _ H _ I hq) (fun v s' ⟨v', H', J, rv, q⟩ => ⟨v', H', J.os, J.bare, J.base, J.hok, rv, q⟩) fun e s' hs => hs
end
theorem among_snoc {pos p2 : Pos} {c cv : Value} (l : List Value) (h : TriplesOk l) (e : codeAmong pos (l ++ [rawInt p2.line, rawInt p2.col, c]) = some cv) : codeAmong pos l = some cv \/ cv = c := by
  fun_induction TriplesOk l with
  | case1 =>
    simp only [List.nil_append, codeAmong, rawInt] at e
    split at e
    · cases e; exact .inr rfl
    · cases e
  | case2 a t b u x rest ih =>
    simp only [List.cons_append, codeAmong] at e ⊢
    split at e
    · rename_i hc; rw [if_pos hc]; exact .inl e
    · rename_i hc; rw [if_neg hc]; exact ih h e
  | case3 l h1 h2 => exact h.elim
structure LamX (X : Cx) (c P : Addr) (nm : Str) : Prop where
  code : X.env.code = .ref c
  hd : CodeHd X.base c P
  blt : X.base.BuiltinsAt X.mg P
  nmq : X.env.qual ++ "<lambda>" = nm
  gl : mainGlobals ≠ P
section
variable {X : Cx} {pins : List (Addr × Obj)} {σ : St} {H : Hp} {s : Shared} {c P : Addr} {nm : Str} {params : Arguments} {body : Expr} {scope : Scope} {lpos : Pos}
theorem Inv.pin1 {f : Addr} {o : Obj} (I : Inv X pins σ H s) (fp : FpOk X pins H f) (ho : s.heap.get? f = some o) (hc : ∀ v, o.data ≠ .cell v) : Inv X (pins ++ [(f, o)]) σ H s := I.pins_of fun p hp => (List.mem_append.mp hp).elim (fun z => I.pin p (List.mem_append_right _ z)) fun z => by
  have e : p = (f, o) := by simpa using z
  subst e
  exact ⟨ho, fp.1, fp.2.1, fp.2.2.1, hc⟩
theorem lam_make {Q : Value -> Shared -> Prop} (I : Inv X pins σ H s) (L : LamX X c P nm) (hT : IsTab X.H₀ P nm) (hcl : closureFor scope X.env = pure []) (hdef : defaultsOf params X.env = ([], []))
    (k : ∀ (f c' : Addr) (ctv : Value) (oc : Obj) (vs : Array Value) (t : Tok) (H' : Hp) (s' : Shared), Inv X (pins ++ [(f, kla_obj "<lambda>" nm params body scope [] ((X.mg "__name__").getD .none) c' ctv)]) σ H' s' -> s'.heap.get? c' = some oc -> oc.data = .fields vs -> vs[1]? = some (.str nm t) -> H' c' = some (.own P) -> IsTab H' P nm -> Same H H' -> Q (.ref f) s') :
    wpAny (model X.prog X.w) X.A (eval (.Lambda params body scope lpos) X.env) Q X.xe s := by
  have hTH := hT.call I.base.tbls
  obtain ⟨ps, tp, hP, hps⟩ := hTH
  obtain ⟨qs, nm', t', eP, tr, hps', rows⟩ := I.hok P _ hP
  rw [hps] at hps'
  cases hps'
  have C := L.hd.keeps I.bk
  have G : s.heap.Ns mainGlobals X.mg := let ⟨o, es, ep, e, r⟩ := I.ok.mod.glob; ⟨o, es, ep, I.bk _ _ e, r⟩
  have B : s.heap.BuiltinsAt X.mg P := let ⟨bm, o, a1, a2, a3, a4, a5, a6⟩ := L.blt; ⟨bm, o, a1, a2, a3, a4, I.bk _ _ a5, a6⟩
  refine kla_eval hdef ?_
  rw [L.nmq]
  cases hf : codeAmong lpos qs.toList with
  | some cv =>
    obtain ⟨c', rfl, own, c2, oc, vs, t2, e3, e4, e5, e6⟩ := rows _ _ hf
    cases e3
    refine kla_makeFunctionHit (mg := X.mg) hcl I.ok.glob G L.code C eP tr hf B fun ctv h' tk hk hsz => ?_
    have hk2 : ∀ b u, s.heap.get? b = some u -> (h'.push (kla_obj "<lambda>" nm params body scope [] ((X.mg "__name__").getD .none) c' ctv)).get? b = some u := fun b u e => Heap.get?_push_of_some _ (hk b u e)
    have I2 : Inv X pins σ H { s with heap := h'.push (kla_obj "<lambda>" nm params body scope [] ((X.mg "__name__").getD .none) c' ctv), toks := tk } := I.kept hk2
    exact k h'.objs.size c' ctv oc vs t2 H _ (I2.pin1 (I.fpOk hsz (I.hok.fresh hsz)) (Heap.get?_push_size _ rfl) (fun v z => by cases z)) (hk2 _ _ e4) e5 e6 own ⟨ps, tp, hP, hps⟩ fun _ _ e => e
  | none =>
    refine kla_makeFunction (mg := X.mg) hcl I.ok.glob G L.code C eP tr hf L.gl B fun c' ctv h' tk hx hge hlt hrec htb => ?_
    obtain ⟨c2, oc, vs, t2, e3, e4, e5, e6⟩ := hrec
    cases e3
    have hcn : H c' = none := I.hok.fresh hge
    have hcP : c' ≠ P := fun z => by rw [z] at hge; exact absurd (Nat.lt_of_lt_of_le (Heap.lt_size eP) hge) (Nat.lt_irrefl _)
    have ext : ∀ b u, b ≠ P -> s.heap.get? b = some u -> (h'.push (kla_obj "<lambda>" nm params body scope [] ((X.mg "__name__").getD .none) c' ctv)).get? b = some u := fun b u n e => Heap.get?_push_of_some _ (hx b u n e)
    have hoc := Heap.get?_push_of_some (kla_obj "<lambda>" nm params body scope [] ((X.mg "__name__").getD .none) c' ctv) e4
    have hPt := Heap.get?_push_of_some (kla_obj "<lambda>" nm params body scope [] ((X.mg "__name__").getD .none) c' ctv) htb
    have hszz : s.heap.objs.size <= h'.objs.size := Nat.le_of_lt (Nat.lt_of_le_of_lt hge hlt)
    have hfo := Heap.get?_push_size h' (o := kla_obj "<lambda>" nm params body scope [] ((X.mg "__name__").getD .none) c' ctv) rfl
    generalize (h'.push (kla_obj "<lambda>" nm params body scope [] ((X.mg "__name__").getD .none) c' ctv)) = h2 at ext hoc hPt hfo ⊢
    have hPu : upd H c' (.own P) P = some (.tbl ps) := by rw [Zq7 hcP.symm]; exact hP
    have hok : HOk X.prog X.w (upd H c' (.own P)) h2 := fun b u e => by
      by_cases b1 : b = c'
      · subst b1; rw [Zq3] at e; cases e; exact ⟨oc, hoc⟩
      · rw [Zq7 b1] at e
        by_cases b2 : b = P
        · subst b2
          rw [hP] at e
          cases e
          refine ⟨_, nm, tp, hPt, by rw [Array.toList_append]; exact TriplesOk_snoc _ _ _ _ tr, hps, fun pos cv ec => ?_⟩
          rw [Array.toList_append] at ec
          rcases among_snoc _ tr ec with z | z
          · obtain ⟨c3, f1, f2, c4, o4, v4, t4, f3, f4, f5⟩ := rows _ _ z
            cases f3
            have nb : c3 ≠ b := fun y => by rw [y, hP] at f2; cases f2
            exact ⟨c3, f1, by rw [Zq7 (fun y => by rw [y, hcn] at f2; cases f2)]; exact f2, c3, o4, v4, t4, rfl, ext _ _ nb f4, f5⟩
          · exact ⟨c', z, Zq3, c', oc, vs, t2, rfl, hoc, e5, e6⟩
        · refine (I.hok b u e).stay (fun d v hd q => ext d v ?_ q) (fun d q => by rw [Zq7 (Zq16 q hcn)]; exact q) fun d xs q => by rw [Zq7 (Zq16 q hcn)]; exact q
          rcases hd with z | z
          · rw [z]; exact b2
          · intro y; rw [y, hP] at z; cases z
    have un : Un X.fs [] H (upd H c' (.own P)) s.heap h2 := by
      have nP : ∀ b, H b = none -> b ≠ P := fun b n z => by rw [z, hP] at n; cases n
      have lt : ∀ b o, s.heap.get? b = some o -> b ≠ c' := fun b o e z => by rw [z] at e; exact absurd (Nat.lt_of_lt_of_le (Heap.lt_size e) hge) (Nat.lt_irrefl _)
      refine ⟨fun b o e n _ _ => ext b o (nP b n) e, fun b o e n _ _ => ⟨o.slots, ext b o (nP b n) e⟩, fun b o e n _ => by rw [Zq7 (lt b o e)]; exact n, fun b o e _ => ?_, fun b xs e => by rw [Zq7 (Zq16 e hcn)]; exact e, fun b o u e => by rw [Zq7 (Zq16 e hcn)]; exact e, fun b ps e => ⟨#[], by rw [Zq7 (Zq16 e hcn), e]; simp⟩⟩
      by_cases b2 : b = P
      · exact ⟨_, by rw [b2]; exact hPt⟩
      · exact ⟨o, ext b o b2 e⟩
    have I2 : Inv X pins σ (upd H c' (.own P)) { s with heap := h2, toks := tk } := I.un un hok
    have hfn : (upd H c' (.own P)) h'.objs.size = none := by rw [Zq7 (Nat.ne_of_gt hlt)]; exact I.hok.fresh hszz
    exact k h'.objs.size c' ctv oc vs t2 _ _ (I2.pin1 (I.fpOk hszz hfn) hfo (fun v z => by cases z)) hoc e5 e6 Zq3 ⟨ps, tp, hPu, hps⟩ (Same.new hcn)
theorem lam_call {k : Nat} {A : Around} {f c' : Addr} {ctv pm : Value} {oc : Obj} {vs : Array Value} {t : Tok} {x : Str} {u : Value} {v w : V} {te : TE} (I : Inv X pins σ H s) (hA : A.frames = X.A.frames) (hr : Room k A) (hf : s.heap.get? f = some (kla_obj "<lambda>" nm params body scope [] pm c' ctv))
    (ho : s.heap.get? c' = some oc) (e1 : oc.data = .fields vs) (e2 : vs[1]? = some (.str nm t)) (hc : H c' = some (.own P)) (hT : IsTab H P nm) (S : FnScope [x] [x] scope)
    (hb : bindArgs (kla_fn "<lambda>" nm params body scope [] pm (.ref c') ctv) ⟨[u], []⟩ = pure [(x, u)]) (r : RelV v u)
    (hbody : ∀ H2 : Hp, PE (cxOf CX0 X.prog X.w X.K X.mg X.base [x] nm scope f (.ref c') A X.stack s H2 E0) body te)
    (hq : ∀ H2 : Hp, (∀ b ys, H b = some (.tup ys) -> H2 b = some (.tup ys)) -> te [some v] H2 fun z H3 => z = w /\ H3 = H2) :
    wpAny (model X.prog X.w) A (call (.ref f) [u]) (fun r s' => RelV w r /\ Inv X pins σ H s' /\ s'.heap.get? c' = some oc) (fun _ _ => False) s := by
  classical
  obtain ⟨ps, tp, hP, hps⟩ := hT
  let H2 : Hp := fun b => if b = P \/ H b = some (.own P) then none else H b
  have sub : ∀ b o, H2 b = some o -> H b = some o /\ b ≠ P /\ o ≠ .own P := fun b o e => by
    by_cases z : b = P \/ H b = some (.own P)
    · have : H2 b = none := if_pos z
      rw [this] at e; cases e
    · have e' : H2 b = H b := if_neg z
      rw [e'] at e
      exact ⟨e, fun y => z (.inl y), fun y => z (.inr (by rw [e, y]))⟩
  have up : ∀ b o, H b = some o -> b ≠ P -> o ≠ .own P -> H2 b = some o := fun b o e n1 n2 => by
    have z : ¬ (b = P \/ H b = some (.own P)) := fun z => z.elim n1 fun y => n2 (by rw [e] at y; exact Option.some.inj y)
    have e' : H2 b = H b := if_neg z
    rw [e']; exact e
  have non : ∀ b, H b = none -> H2 b = none := fun b e => by
    cases q : H2 b with
    | none => rfl
    | some o => rw [(sub b o q).1] at e; cases e
  have tup2 : ∀ b ys, H b = some (.tup ys) -> H2 b = some (.tup ys) := fun b ys e => up b _ e (fun z => by rw [z, hP] at e; cases e) (fun z => by cases z)
  have hok2 : HOk X.prog X.w H2 s.heap := fun b o e => by
    obtain ⟨h1, h2, h3⟩ := sub b o e
    refine (I.hok b o h1).stay (fun _ _ _ q => q) (fun d q => up d _ q (fun z => by rw [z, hP] at q; cases q) (fun z => by cases z; exact h2 rfl)) tup2
  have e0 := I.env0
  have e02 : Env0 X.prog X.w X.K X.mg X.base A X.stack s H2 := ⟨hA.trans e0.frames, e0.mod, fun b o e => ⟨(e0.bs b o e).1, non b (e0.bs b o e).2⟩, e0.bsz, e0.funs, fun b hb => non b (e0.frf b hb), hok2, e0.bare⟩
  refine wpAny_call (codeAny_mono (lam_run (Q := fun z H3 => z = w /\ H3 = H2) hr e02 hf ⟨c', oc, vs, t, rfl, ho, e1, e2⟩ S hb r (hbody H2) (hq H2 tup2)) fun rr s' h => ?_)
  cases rr with
  | error e => exact h.elim
  | ok fl =>
    cases fl with
    | next => exact False.elim h
    | brk => exact False.elim h
    | cont => exact False.elim h
    | ret uu =>
      obtain ⟨z, H3, os, bare, un, hok3, rz, ez, eH⟩ := h
      subst ez eH
      have hc2 : H2 c' = none := if_pos (.inr hc)
      have hP2 : H2 P = none := if_pos (.inl rfl)
      have nfr : ∀ b o, H b = some o -> b ∉ frs X.stack := fun b o e z => by rw [I.stkFree b z] at e; cases e
      have own2 : ∀ d, H d = some (.own P) -> H2 d = none := fun d q => if_pos (.inr q)
      have hokH : HOk X.prog X.w H s'.heap := fun b o e => by
        by_cases b0 : o = .own P
        · subst b0
          obtain ⟨ob, eb⟩ := I.hok b _ e
          exact ⟨ob, un.keep _ _ eb (own2 _ e) (nfr _ _ e) (by simp)⟩
        by_cases b1 : b = P
        · subst b1
          refine (I.hok b o e).stay (fun d v hd q => ?_) (fun _ q => q) fun _ _ q => q
          rcases hd with z | z
          · subst z; exact un.keep _ _ q hP2 (nfr _ _ e) (by simp)
          · exact un.keep _ _ q (own2 _ z) (nfr _ _ z) (by simp)
        · have b1' : b ≠ P /\ o ≠ .own P := ⟨b1, b0⟩
          refine (hok3 b o (up b o e b1'.1 b1'.2)).stay (fun _ _ _ q => q) (fun d q => (sub d _ q).1) fun d xs q => (sub d _ q).1
      refine ⟨rz, I.call' (ch := []) os ⟨fun b o e n hb hx => un.keep b o e (non b n) hb hx, fun b o e n hb hx => un.slot b o e (non b n) hb hx, fun b o e n hx => n, fun b o e hx => un.there b o e hx, fun _ _ e => e, fun _ _ _ e => e, fun b ps e => ⟨#[], by rw [e]; simp⟩⟩ hokH bare (fun b z => absurd z (by simp)), un.keep _ _ ho hc2 (nfr _ _ hc) (by simp)⟩
end
end L2
end
section
set_option Elab.async false
set_option linter.all false
set_option maxRecDepth 100000
set_option maxHeartbeats 4000000
namespace L2
open PySem PySem.Spec PyProof.Rows PySem.W
def LKb (b : Bool) (ks : List Int) (x y : Nat) : Prop := (if b = true then kI ks y < kI ks x else kI ks x < kI ks y) \/ (kI ks x = kI ks y /\ x < y)
def Zq198 (b : Bool) (ks : List Int) (vs out : List Value) : Prop := ∃ p : List Nat, p.Perm (List.range vs.length) /\ p.Pairwise (LKb b ks) /\ out = p.map fun i => vs.getD i Value.none
theorem getD_rev {α : Type} {l : List α} {d : α} {i : Nat} (h : i < l.length) : l.reverse.getD i d = l.getD (l.length - 1 - i) d := by
  rw [List.getD_eq_getElem?_getD, List.getD_eq_getElem?_getD, List.getElem?_reverse h]
theorem keyOut_up {ks : List Int} {vs : List Value} {p : Array Nat} (hl : ks.length = vs.length) (hp : Pm vs.length p) (u : UpS (rI' ks) p vs.length) : Zq198 false ks vs (p.toList.map fun i => vs.getD i Value.none) :=
  ⟨p.toList, hp, by rw [← hl] at hp u; exact (u.keys hp).imp fun h => by unfold LKb; rw [if_neg Bool.false_ne_true]; exact h, rfl⟩
theorem keyOut_down {ks : List Int} {vs : List Value} {p : Array Nat} (hl : ks.length = vs.length) (hp : Pm vs.length p) (u : UpS (rI' ks.reverse) p vs.length) : Zq198 true ks vs (p.toList.map fun i => vs.reverse.getD i Value.none).reverse := by
  have hm : ∀ i ∈ p.toList, i < vs.length := fun i hi => List.mem_range.mp (hp.mem_iff.mp hi)
  have e1 : (List.range vs.length).map (fun i => vs.length - 1 - i) = (List.range vs.length).reverse := by
    apply List.ext_getElem
    · simp
    · intro i h1 h2
      simp
  refine ⟨(p.toList.map fun i => vs.length - 1 - i).reverse, (List.reverse_perm _).trans ?_, ?_, ?_⟩
  · have := hp.map fun i => vs.length - 1 - i
    rw [e1] at this
    exact this.trans (List.reverse_perm _)
  · rw [List.pairwise_reverse, List.pairwise_map]
    have hp' : Pm ks.reverse.length p := by rw [List.length_reverse, hl]; exact hp
    have u' : UpS (rI' ks.reverse) p ks.reverse.length := by rw [List.length_reverse, hl]; exact u
    refine List.Pairwise.imp_of_mem ?_ (u'.keys hp')
    intro i j hi hj h
    have hi := hm i hi
    have hj := hm j hj
    unfold LK kI at h
    rw [getD_rev (by omega), getD_rev (by omega), hl] at h
    unfold LKb kI
    rw [if_pos rfl]
    rcases h with h | ⟨h1, h2⟩
    · exact .inl h
    · exact .inr ⟨h1.symm, by omega⟩
  · rw [List.map_reverse, List.map_map]
    congr 1
    refine List.map_congr_left fun i hi => ?_
    exact getD_rev (hm i hi)
section
variable {X : Cx} {pins : List (Addr × Obj)} {σ : St} {H : Hp} {s : Shared}
theorem Inv.track {D : Addr} {u : HO} (I : Inv X pins σ H s) (fp : FpOk X pins H D) (h0 : X.s₀.heap.objs.size <= D) (new : ObjOk X.prog X.w (upd H D u) s.heap D u) : Inv X pins σ (upd H D u) s := by
  obtain ⟨f0, f1, f2, f3, f4, f5⟩ := fp
  refine ⟨I.ok, I.os, I.bare, ⟨I.base.keep, I.base.slot, fun b o e n hx => ?_, I.base.there, fun b xs e => ?_, fun b o v e => ?_, fun b ps e => ?_⟩, I.loc, I.cell, ?_, fun x c e => ?_, fun p hp => ?_, hok_add I.hok f0 new, I.len⟩
  · rw [Zq7 (fun z => by rw [z] at e; exact absurd (Nat.lt_of_lt_of_le (Heap.lt_size e) h0) (Nat.lt_irrefl _))]; exact I.base.free b o e n hx
  · have := I.base.tups b xs e
    rw [Zq7 (Zq16 this f0)]; exact this
  · have := I.base.frzs b o v e
    rw [Zq7 (Zq16 this f0)]; exact this
  · obtain ⟨m, e2⟩ := I.base.tbls b ps e
    exact ⟨m, by rw [Zq7 (Zq16 e2 f0)]; exact e2⟩
  · rw [Zq7 f1.symm]; exact I.free
  · rw [Zq7 (f4 x c e)]; exact I.freeC x c e
  · obtain ⟨a1, a2, a3⟩ := I.pin p hp
    exact ⟨a1, by rw [Zq7 (f5 p hp)]; exact a2, a3⟩
theorem Inv.reup {D : Addr} {g : Array Value -> Array Value} (I : Inv X pins σ H s) (fp : FpOk X pins H D) : Inv X pins σ H { s with heap := s.heap.update D (Obj.mapSeq g) } :=
  I.turned (it := D) (t' := s.toks) (fun b o hb e => by rw [Heap.get?_update_ne _ _ _ _ hb]; exact e) fp.1 fp.2.1 fp.2.2.2.1 fp.2.2.2.2.1 fp.2.2.2.2.2
theorem Inv.pin2 {a b : Addr} {oa ob : Obj} (I : Inv X pins σ H s) (fa : FpOk X pins H a) (fb : FpOk X pins H b) (ha : s.heap.get? a = some oa) (hb : s.heap.get? b = some ob) (ca : ∀ v, oa.data ≠ .cell v) (cb : ∀ v, ob.data ≠ .cell v) : Inv X (pins ++ [(a, oa), (b, ob)]) σ H s :=
  I.pins_of fun p hp => (List.mem_append.mp hp).elim (fun z => I.pin p (List.mem_append_right _ z)) fun z => by
    rcases List.mem_cons.mp z with e | z
    · subst e; exact ⟨ha, fa.1, fa.2.1, fa.2.2.1, ca⟩
    · have e : p = (b, ob) := by simpa using z
      subst e; exact ⟨hb, fb.1, fb.2.1, fb.2.2.1, cb⟩
theorem Inv.at1 {pl : List (Addr × Obj)} {p : Addr × Obj} (I : Inv X (pins ++ pl) σ H s) (h : p ∈ pl) : s.heap.get? p.1 = some p.2 := (I.pin p (List.mem_append_right _ (List.mem_append_right _ h))).1
def TurnOk (X : Cx) (pins : List (Addr × Obj)) (σ : St) (H : Hp) (f : Value) (c' : Addr) (oc : Obj) (vs : List Value) (ks : List Int) : Prop := ∀ (i : Nat) (v : Value) (k : Int), vs[i]? = some v -> ks[i]? = some k -> ∀ (pl : List (Addr × Obj)) (s : Shared), Inv X (pins ++ pl) σ H s -> s.heap.get? c' = some oc ->
  wpAny (model X.prog X.w) X.A.in1.in1 (call f [v]) (fun r s' => (∃ t, r = .int k t) /\ Inv X (pins ++ pl) σ H s' /\ s'.heap.get? c' = some oc) (fun _ _ => False) s
variable {f : Value} {c' a kS : Addr} {oc : Obj} {vs : List Value} {ks : List Int} {keys : Array Value} {b : Bool} {e e1 : Nat} {Pf : PySem.Fin -> Shared -> Prop} {E : Value -> Shared -> Prop}
theorem key_tail {st : SortSt} {o : List Value} (I : Inv X (pins ++ [(kS, seqObj "list" keys e), (a, seqObj "list" #[] e1)]) σ H s) (fk : FpOk X pins H kS) (fa : FpOk X pins H a) (hka : kS ≠ a) (hz1 : keys.size < 64) (ho : o.length < 64)
    (hs : (arrOf st).map (·.2) = List.toArray o) (hfl : failedOf st = none)
    (h : ∀ (s' : Shared) (c : Nat), Inv X pins σ H s' -> s'.heap.get? a = some (seqObj "list" (List.toArray (if b then o.reverse else o)) c) -> Pf (.done (.ret .none)) s') :
    wpAny (model X.prog X.w) X.A.in1.in1 (ksk_tail a b e1 (.ref kS) st) Pf E s := by
  have nk := I.at1 (p := (kS, seqObj "list" keys e)) (.head _)
  have na := I.at1 (p := (a, seqObj "list" #[] e1)) (.tail _ (.head _))
  have na1 : (s.heap.update kS (Obj.mapSeq fun _ => (#[] : Array Value))).get? a = some (seqObj "list" #[] e1) := by rw [Heap.get?_update_ne _ _ _ _ hka.symm]; exact na
  have I1 := (I.unpinned).reup (g := fun _ => (#[] : Array Value)) fk
  have hout : (if b then ((arrOf st).map (·.2)).reverse else (arrOf st).map (·.2)) = List.toArray (if b then o.reverse else o) := by
    rw [hs]; cases b <;> simp
  unfold ksk_tail
  try dsimp only
  refine wpAny_bind (listUpdate_at nk rfl ?_ (by rw [sizeLine_eq]; omega) (Nat.zero_le _))
  refine wpAny_bind (wpAny_letGo ?_)
  refine wpAny_bind (seqEpoch_at na1 rfl ?_)
  rw [hout]
  have hz : (List.toArray (if b then o.reverse else o)).size <= sizeLine + 1 := by
    rw [sizeLine_eq]
    cases b <;> simp <;> omega
  refine wpAny_bind (listUpdate_at na1 rfl ?_ (Nat.zero_le _) hz)
  rw [hfl]
  simp only [bne_self_eq_false, Bool.false_eq_true, if_false]
  have I2 := I1.reup (g := fun _ => List.toArray (if b then o.reverse else o)) fa
  exact wpAny_pure (h _ _ I2 (get?_update_seq na1 fun _ => List.toArray (if b then o.reverse else o)))
theorem zip_rev {α β : Type} {l : List α} {m : List β} (h : l.length = m.length) : (l.zip m).reverse = l.reverse.zip m.reverse := by
  unfold List.zip
  rw [List.reverse_zipWith h]
theorem ints_rev {kv : List Value} {ks : List Int} (h : IntsAre kv ks) : IntsAre kv.reverse ks.reverse := by
  induction h with
  | nil => exact .nil
  | cons n t _ ih => rw [List.reverse_cons, List.reverse_cons]; exact ksk_snoc ih
theorem ints_get {kv : List Value} {ks : List Int} (h : IntsAre kv ks) : ∀ {i : Nat}, i < ks.length -> ∃ t, kv.getD i Value.none = .int (kI ks i) t := by
  induction h with
  | nil => intro i hi; simp at hi
  | cons n t _ ih =>
    intro i hi
    cases i with
    | zero => exact ⟨t, rfl⟩
    | succ i =>
      obtain ⟨t', e⟩ := ih (i := i) (by simpa using hi)
      exact ⟨t', by unfold kI at e ⊢; simpa using e⟩
theorem ranks_ints {A : Around} {kv : List Value} {ks : List Int} (h : IntsAre kv ks) (s : Shared) : Zq192 (kas_ask X.prog X.w A oneType' kv) (rI' ks) ks.length s := by
  intro i j C hi hj hC
  obtain ⟨t, ei⟩ := ints_get h hi
  obtain ⟨u, ej⟩ := ints_get h hj
  unfold kas_ask
  rw [ei, ej, keyLt'_oneType]
  refine oneLt_int ?_
  have := rI_iff (ks := ks) (i := i) (j := j) hi
  by_cases c : kI ks i < kI ks j
  · rw [decide_eq_true c]; rw [decide_eq_true (this.mpr c)] at hC; exact hC
  · rw [decide_eq_false c]; rw [decide_eq_false (fun z => c (this.mp z))] at hC; exact hC
theorem key_end (I : Inv X (pins ++ [(kS, seqObj "list" keys e), (a, seqObj "list" #[] e1)]) σ H s) (fk : FpOk X pins H kS) (fa : FpOk X pins H a) (hka : kS ≠ a) (hk : IntsAre keys.toList ks) (hlen : ks.length = vs.length) (h64 : vs.length < 64)
    (h : ∀ (s' : Shared) (out : List Value) (c : Nat), Inv X pins σ H s' -> s'.heap.get? a = some (seqObj "list" (List.toArray out) c) -> Zq198 b ks vs out -> Pf (.done (.ret .none)) s') :
    wpAny (model X.prog X.w) X.A.in1.in1 (ksk_end a b vs.toArray e1 (.ref kS) keys) Pf E s := by
  have hsz : keys.size = vs.length := by
    have h1 := hk.length
    rw [Array.length_toList] at h1
    omega
  have step : ∀ t : Sem PySem.Fin, wpAny (model X.prog X.w) X.A.in1.in1 t Pf E s -> wpAny (model X.prog X.w) X.A.in1.in1 (if b = true then (do let _ ← rule "list.sort.reverse"; t) else t) Pf E s := by
    intro t ht
    split
    · exact wpAny_bind (wpAny_rule ht)
    · exact ht
  obtain ⟨kv, ks2, v2, hpr, hi2, hl2, hl3, fin⟩ : ∃ (kv : List Value) (ks2 : List Int) (v2 : List Value), (if b = true then (keys.zip vs.toArray).reverse else keys.zip vs.toArray) = kv.toArray.zip v2.toArray /\ IntsAre kv ks2 /\ ks2.length = v2.length /\ v2.length = vs.length /\
      ∀ p : Array Nat, Pm v2.length p -> UpS (rI' ks2) p v2.length -> Zq198 b ks vs (if b then (p.toList.map fun i => v2.getD i Value.none).reverse else p.toList.map fun i => v2.getD i Value.none) := by
    cases b with
    | false =>
      refine ⟨keys.toList, ks, vs, by rw [if_neg Bool.false_ne_true, Array.toArray_toList], hk, hlen, rfl, fun p hp u => ?_⟩
      rw [if_neg Bool.false_ne_true]
      exact keyOut_up hlen hp u
    | true =>
      refine ⟨keys.toList.reverse, ks.reverse, vs.reverse, ?_, ints_rev hk, by rw [List.length_reverse, List.length_reverse, hlen], List.length_reverse, fun p hp u => ?_⟩
      · rw [if_pos rfl]
        apply Array.toList_inj.mp
        rw [Array.toList_reverse, ksk_zip, zip_rev (by rw [Array.length_toList]; exact hsz)]
        simp
      · rw [if_pos rfl]
        rw [List.length_reverse] at hp u
        exact keyOut_down hlen hp u
  have hkl : kv.length = v2.length := by have := hi2.length; omega
  unfold ksk_end
  try dsimp only
  refine step _ ?_
  rw [hpr]
  by_cases h2 : vs.toArray.size < 2
  · rw [if_pos h2, if_pos h2]
    refine wpAny_bind (wpAny_pure ?_)
    rw [StateT.run_pure]
    refine wpAny_bind (wpAny_pure ?_)
    try dsimp only
    have l2 : v2.length < 2 := by simp at h2; omega
    have pm : Pm v2.length (List.toArray (List.range v2.length)) := List.Perm.refl _
    have ko := fin _ pm fun i hi => by omega
    have eo : ((List.toArray (List.range v2.length)).toList.map fun i => v2.getD i Value.none) = v2 := by
      apply List.ext_getElem
      · simp
      · intro i h1 h2
        simp at h1
        simp [h1]
    rw [eo] at ko
    refine key_tail (o := v2) (b := b) I fk fa hka (by omega) (by omega) ?_ rfl fun s' c I' e' => h s' _ c I' e' ko
    show Array.map (fun x => x.2) (kv.toArray.zip v2.toArray) = _
    apply Array.toList_inj.mp
    rw [Array.toList_map, ksk_zip]
    simp only [List.toList_toArray]
    rw [List.map_snd_zip (by omega)]
  · rw [if_neg h2, if_neg h2]
    have l2 : 2 <= v2.length := by simp at h2; omega
    rw [ksk_kind hk (by omega)]
    refine wpAny_bind (wpAny_pure ?_)
    refine wpAny_bind (wpAny_mono (kat_run (ks := kv) (vs := v2) (κ := oneType') (G := fun p s' => s' = s /\ Pm v2.length p /\ UpS (rI' ks2) p v2.length)
      (Q := fun st' s' => s' = s /\ ∃ p : Array Nat, (arrOf st').map (·.2) = List.toArray (p.toList.map fun i => v2.getD i Value.none) /\ failedOf st' = none /\ Pm v2.length p /\ UpS (rI' ks2) p v2.length)
      hkl l2 (by omega) (fun p st' s' a1 a2 a3 a4 => ⟨a4.1, p, kat_snds hkl a2, a3, a4.2⟩) (sort_okS (by have := ranks_ints (X := X) (A := X.A.in1.in1) hi2 s; rw [hl2] at this; exact this) (by omega) fun p a b => ⟨rfl, a, b⟩)) ?_ fun _ _ e => e)
    rintro ⟨⟨⟩, st'⟩ s' ⟨rfl, p, ho', hf, hp, hu⟩
    try dsimp only
    have hpl : (p.toList.map fun i => v2.getD i Value.none).length = v2.length := by rw [List.length_map, Array.length_toList, hp.size]
    exact key_tail (o := p.toList.map fun i => v2.getD i Value.none) (b := b) I fk fa hka (by omega) (by omega) ho' hf fun s' c I' e' => h s' _ c I' e' (fin p hp hu)
theorem key_rest (I : Inv X (pins ++ [(kS, seqObj "list" #[] 0), (a, seqObj "list" #[] e1)]) σ H s) (hc : s.heap.get? c' = some oc) (fk : FpOk X pins H kS) (fa : FpOk X pins H a) (hka : kS ≠ a) (nck : c' ≠ kS) (hlen : ks.length = vs.length) (h64 : vs.length < 64)
    (turn : TurnOk X pins σ H f c' oc vs ks)
    (h : ∀ (s' : Shared) (out : List Value) (c : Nat), Inv X pins σ H s' -> s'.heap.get? a = some (seqObj "list" (List.toArray out) c) -> Zq198 b ks vs out -> Pf (.done (.ret .none)) s') :
    wpAny (model X.prog X.w) X.A.in1.in1 (ksk_rest a f b vs.toArray e1 (.ref kS)) Pf E s := by
  unfold ksk_rest
  refine wpAny_bind (wpAny_rule ?_)
  first
    | rw [List.forIn_toArray]
    | (rw [← Array.forIn_toList]; simp only [List.toList_toArray])
    | rw [← Array.forIn_toList]
  refine wpAny_bind (ksk_fold (fun i s' => ∃ kA e, Inv X (pins ++ [(kS, seqObj "list" kA e), (a, seqObj "list" #[] e1)]) σ H s' /\ s'.heap.get? c' = some oc /\ IntsAre kA.toList (ks.take i)) vs 0 s
    ⟨#[], 0, I, hc, by simpa using IntsAre.nil⟩ ?step ?done)
  case step =>
    rintro j x s' hx ⟨kA, e, I', hc', hk⟩
    simp only [Nat.zero_add] at hk ⊢
    have hj : j < vs.length := (List.getElem?_eq_some_iff.mp hx).1
    obtain ⟨k, hkj⟩ : ∃ k, ks[j]? = some k := ⟨_, List.getElem?_eq_getElem (by omega)⟩
    have hz : kA.size <= vs.length := by
      have h1 := hk.length
      rw [Array.length_toList, List.length_take] at h1
      omega
    refine wpAny_bind (wpAny_attempt (wpAny_mono (turn j x k hx hkj _ s' I' hc') (fun v s'' he => ?_) fun _ _ hF => hF.elim))
    obtain ⟨⟨t2, rfl⟩, I2, hc2⟩ := he
    try dsimp only
    have nk := I2.at1 (p := (kS, seqObj "list" kA e)) (.head _)
    have na := I2.at1 (p := (a, seqObj "list" #[] e1)) (.tail _ (.head _))
    have ek : ks.take (j + 1) = ks.take j ++ [k] := by rw [List.take_add_one, hkj]; simp
    have ea : (kA.push (Value.int k t2)).toList = kA.toList ++ [Value.int k t2] := by simp
    refine wpAny_bind (listUpdate_at nk rfl ?_ (by rw [sizeLine_eq]; omega) (Nat.le_trans (Nat.le_of_eq (Array.size_push ..)) (by rw [sizeLine_eq]; omega)))
    have I3 := (I2.unpinned).reup (g := (·.push (.int k t2))) fk
    refine wpAny_pure ⟨rfl, kA.push (.int k t2), _, I3.pin2 fk fa (get?_update_seq nk (·.push (.int k t2))) (by rw [Heap.get?_update_ne _ _ _ _ hka.symm]; exact na) (fun v z => by cases z) (fun v z => by cases z), ?_, by rw [ea, ek]; exact ksk_snoc hk⟩
    show (s''.heap.update kS _).get? c' = _
    rw [Heap.get?_update_ne _ _ _ _ nck]; exact hc2
  case done =>
    rintro s' ⟨kA, e, I', hc', hk⟩
    have hk' : IntsAre kA.toList ks := by
      have e3 : ks.take (0 + vs.length) = ks := List.take_of_length_le (by omega)
      rw [e3] at hk
      exact hk
    have nk := I'.at1 (p := (kS, seqObj "list" kA e)) (.head _)
    try dsimp only
    refine wpAny_bind (listItems_at nk rfl ?_)
    exact key_end I' fk fa hka hk' hlen h64 h
theorem key_sort {n : Nat} (I : Inv X pins σ H s) (hc : s.heap.get? c' = some oc) (fa : FpOk X pins H a) (ho : s.heap.get? a = some (seqObj "list" vs.toArray n)) (nca : c' ≠ a) (hlen : ks.length = vs.length) (h64 : vs.length < 64) (turn : TurnOk X pins σ H f c' oc vs ks)
    (h : ∀ (s' : Shared) (out : List Value) (c : Nat), Inv X pins σ H s' -> s'.heap.get? a = some (seqObj "list" (List.toArray out) c) -> Zq198 b ks vs out -> Pf (.done (.ret .none)) s') :
    wpAny (model X.prog X.w) X.A.in1.in1 (ksk_tree a f b) Pf E s := by
  have ha : a < s.heap.objs.size := Heap.lt_size ho
  obtain ⟨e1, ho1⟩ : ∃ e1, (s.heap.update a (Obj.mapSeq fun _ => (#[] : Array Value))).get? a = some (seqObj "list" #[] e1) := ⟨_, get?_update_seq ho fun _ => #[]⟩
  have hkS : ((s.heap.update a (Obj.mapSeq fun _ => (#[] : Array Value))).push (seqObj "tuple" vs.toArray 0)).objs.size = s.heap.objs.size + 1 := by rw [size_push', Heap.size_update]
  have I1 := I.reup (g := fun _ => (#[] : Array Value)) fa
  have I2 : Inv X pins σ H { s with heap := ((s.heap.update a (Obj.mapSeq fun _ => (#[] : Array Value))).push (seqObj "tuple" vs.toArray 0)).push (seqObj "list" #[] 0) } := I1.kept (t' := s.toks) fun b u e => Heap.get?_push_of_some _ (Heap.get?_push_of_some _ e)
  have fk : FpOk X pins H ((s.heap.update a (Obj.mapSeq fun _ => (#[] : Array Value))).push (seqObj "tuple" vs.toArray 0)).objs.size := I.fpOk (by rw [hkS]; omega) (I.hok.fresh (by rw [hkS]; omega))
  unfold ksk_tree
  refine wpAny_bind (listItems_at ho rfl ?_)
  refine wpAny_bind (listUpdate_at ho rfl ?_ (by rw [List.size_toArray, sizeLine_eq]; omega) (Nat.zero_le _))
  refine wpAny_bind (seqEpoch_at ho1 rfl ?_)
  refine wpAny_bind (wpAny_newTuple ?_ (by show vs.length <= _; rw [sizeLine_eq]; omega))
  refine wpAny_bind (wpAny_newList ?_ (Nat.zero_le _))
  refine wpAny_holding ?_
  refine key_rest (s := { s with heap := ((s.heap.update a (Obj.mapSeq fun _ => (#[] : Array Value))).push (seqObj "tuple" vs.toArray 0)).push (seqObj "list" #[] 0) }) (kS := ((s.heap.update a (Obj.mapSeq fun _ => (#[] : Array Value))).push (seqObj "tuple" vs.toArray 0)).objs.size)
    (I2.pin2 fk fa (Heap.get?_push_size _ rfl) (Heap.get?_push_of_some _ (Heap.get?_push_of_some _ ho1)) (fun v z => by cases z) (fun v z => by cases z)) ?_ fk fa (by rw [hkS]; exact Nat.ne_of_gt (Nat.lt_succ_of_lt ha)) (by rw [hkS]; exact Nat.ne_of_lt (Nat.lt_succ_of_lt (Heap.lt_size hc))) hlen h64 turn h
  refine Heap.get?_push_of_some _ (Heap.get?_push_of_some _ ?_)
  rw [Heap.get?_update_ne _ _ _ _ nca]; exact hc
theorem key_sorted {l : Addr} {kw : List (Str × Value)} {Q : Value -> Shared -> Prop} (I : Inv X pins σ H s) (hc : s.heap.get? c' = some oc) (hl : s.heap.IsList l vs.toArray) (hlen : ks.length = vs.length) (h64 : vs.length < 64)
    (ha1 : argsOk "sorted" ⟨[.ref l], kw⟩) (ha2 : ∀ x, argsOk "list.sort" ⟨[.ref x], kw⟩) (ht : ∀ x, Builtin.«list.sort» ⟨[.ref x], kw⟩ = ksk_tree x f b) (turn : TurnOk X pins σ H f c' oc vs ks)
    (h : ∀ (D : Addr) (s' : Shared) (out : List Value) (c : Nat), Inv X pins σ H s' -> FpOk X pins H D -> X.s₀.heap.objs.size <= D -> s'.heap.get? D = some (seqObj "list" (List.toArray out) c) -> Zq198 b ks vs out -> Q (.ref D) s') :
    wpAny (model X.prog X.w) X.A (call (.builtin "sorted") [.ref l] kw) Q E s := by
  refine call_function_entry_kw kind_sorted plain_sorted entry_sorted ha1 ?_
  unfold Builtin.«sorted»
  refine wpAny_bind (m := checkCount "sorted" 1 1 _) (wpAny_pure ?_)
  refine wpAny_bind (collect_list hl ?_ (by rw [sizeLine_eq]; omega))
  refine wpAny_bind (wpAny_newList ?_ (by rw [sizeLine_eq]; omega))
  have hsz : ((s.heap.push (seqObj "list" #[] 0)).update s.heap.objs.size (Obj.mapSeq (· ++ vs.toArray))).objs.size = s.heap.objs.size + 1 := by
    rw [Heap.size_update, size_push']
  have hoL : (((s.heap.push (seqObj "list" #[] 0)).update s.heap.objs.size (Obj.mapSeq (· ++ vs.toArray))).push (seqObj "list" vs.toArray 0)).get? (s.heap.objs.size + 1) = some (seqObj "list" vs.toArray 0) := by
    rw [← hsz]; exact Heap.get?_push_size _ rfl
  have keep : ∀ b o, s.heap.get? b = some o -> (((s.heap.push (seqObj "list" #[] 0)).update s.heap.objs.size (Obj.mapSeq (· ++ vs.toArray))).push (seqObj "list" vs.toArray 0)).get? b = some o := fun b o q => by
    have hlt : b < s.heap.objs.size := Heap.lt_size q
    rw [Heap.get?_push_ne _ _ _ (by rw [hsz]; exact Nat.ne_of_lt (Nat.lt_succ_of_lt hlt)), Heap.get?_update_ne _ _ _ _ (Nat.ne_of_lt hlt), Heap.get?_push_ne _ _ _ (Nat.ne_of_lt hlt)]
    exact q
  show wpAny _ _ _ _ _ { s with heap := ((s.heap.push (seqObj "list" #[] 0)).update s.heap.objs.size (Obj.mapSeq (· ++ vs.toArray))).push (seqObj "list" vs.toArray 0) }
  rw [hsz]
  refine wpAny_bind (wpAny_holding (wpAny_call_entry_kw slot_list_sort ⟨_, hoL, rfl⟩ entry_list_sort ?body (ha2 _)))
  case body =>
    have ht' := ht (s.heap.objs.size + 1)
    show wpAny (model X.prog X.w) X.A.in1.in1 (Builtin.«list.sort» ⟨[.ref (s.heap.objs.size + 1)], kw⟩) _ _ _
    rw [ht']
    have I1 : Inv X pins σ H { s with heap := ((s.heap.push (seqObj "list" #[] 0)).update s.heap.objs.size (Obj.mapSeq (· ++ vs.toArray))).push (seqObj "list" vs.toArray 0) } := I.kept (t' := s.toks) keep
    have fa : FpOk X pins H (s.heap.objs.size + 1) := I.fpOk (by omega) (I.hok.fresh (by omega))
    refine key_sort (s := { s with heap := ((s.heap.push (seqObj "list" #[] 0)).update s.heap.objs.size (Obj.mapSeq (· ++ vs.toArray))).push (seqObj "list" vs.toArray 0) }) I1 (keep _ _ hc) fa hoL (Nat.ne_of_lt (Nat.lt_succ_of_lt (Heap.lt_size hc))) hlen h64 turn fun s' out c I' ho' ko => ⟨_, rfl, ?_⟩
    exact wpAny_pure ⟨_, rfl, h _ s' out c I' fa (Nat.le_succ_of_le I.sz) ho' ko⟩
end
end L2
end
section
set_option Elab.async false
set_option linter.all false
set_option maxRecDepth 100000
set_option maxHeartbeats 4000000
namespace L2
open PySem PySem.Spec PyProof.Rows PySem.W
def rSortK (K : Frag) (b : Bool) (te : TE) : List V -> Hp -> VK -> Prop := fun vs H Q => ∃ (a : Addr) (xs : List V) (ks : List Int), vs = [.ref a] /\ SqL K H a xs /\ xs.length < 64 /\ ks.length = xs.length /\
  (∀ (i : Nat) (x : V) (k : Int), xs[i]? = some x -> ks[i]? = some k -> ∀ H2 : Hp, (∀ b ys, H b = some (.tup ys) -> H2 b = some (.tup ys)) -> te [some x] H2 fun z H3 => z = .int k /\ H3 = H2) /\
  ∀ (l : Addr) (p : List Nat) (H' : Hp), Same H H' -> H' l = none -> p.Perm (List.range xs.length) -> p.Pairwise (LKb b ks) -> Q (.ref l) (upd H' l (.lst (p.map fun i => xs.getD i .non)))
theorem vals_pick {xs : List V} {vs : List Value} (r : Vals xs vs) : ∀ p : List Nat, Vals (p.map fun i => xs.getD i .non) (p.map fun i => vs.getD i Value.none)
  | [] => .nil
  | i :: p => .cons (by
      show RelV (xs.getD i .non) (vs.getD i Value.none)
      rw [List.getD_eq_getElem?_getD, List.getD_eq_getElem?_getD]
      cases e : xs[i]? with
      | none => rw [r.none_of e]; rfl
      | some x => obtain ⟨u, e2, r2⟩ := r.get e; rw [e2]; exact r2) (vals_pick r p)
section
variable {X : Cx} {c P : Addr} {nm x : Str} {params : Arguments} {body : Expr} {scope : Scope} {lpos p kp kp2 pos : Pos} {e : Expr} {te1 te : TE} {k : Nat}
structure LamOk (X : Cx) (nm x : Str) (params : Arguments) (body : Expr) (scope : Scope) (te : TE) : Prop where
  cl : closureFor scope X.env = pure []
  df : defaultsOf params X.env = ([], [])
  S : FnScope [x] [x] scope
  bd : ∀ (pm cv ctv u : Value), bindArgs (kla_fn "<lambda>" nm params body scope [] pm cv ctv) ⟨[u], []⟩ = pure [(x, u)]
  bo : ∀ (f : Addr) (cv : Value) (A : Around) (s : Shared) (H2 : Hp), QE (cxOf CX0 X.prog X.w X.K X.mg X.base [x] nm scope f cv A X.stack s H2 E0) body te
theorem sortK_core {b : Bool} {kw : Addr -> List (Str × Value)} {pins : List (Addr × Obj)} {σ : St} {H : Hp} {s : Shared} {Q : VK} {a f c' : Addr} {ctv pm : Value} {oc : Obj} {vs : Array Value} {t : Tok} {H1 : Hp} (Lo : LamOk X nm x params body scope te) (hr : Room k X.A) (hk : 3 <= k)
    (ha1 : ∀ l f, argsOk "sorted" ⟨[.ref l], kw f⟩) (ha2 : ∀ x f, argsOk "list.sort" ⟨[.ref x], kw f⟩) (ht : ∀ x f, Builtin.«list.sort» ⟨[.ref x], kw f⟩ = ksk_tree x (.ref f) b)
    (I : Inv X (pins ++ [(f, kla_obj "<lambda>" nm params body scope [] pm c' ctv)]) σ H s) (ho : s.heap.get? c' = some oc) (e1 : oc.data = .fields vs) (e2 : vs[1]? = some (.str nm t)) (own : H c' = some (.own P)) (hT : IsTab H P nm) (sm : Same H1 H)
    (h : rSortK X.K b te [.ref a] H1 Q) : wpAny (model X.prog X.w) X.A (call (.builtin "sorted") [.ref a] (kw f)) (EP X pins σ Q) X.xe s := by
  obtain ⟨a', xs, ks, ea, hS, h64, hlen, hkey, q⟩ := h
  cases ea
  have hS' : SqL X.K H a xs := by
    rcases hS with (z | ⟨o, z⟩) | z
    · exact .inl (.inl (sm _ _ z))
    · exact .inl (.inr ⟨o, sm _ _ z⟩)
    · exact .inr z
  obtain ⟨its, rv, pl, _⟩ := I.list hS'
  have hl := rv.length
  have hr2 : Room (k - 2) X.A.in1.in1 := (Room.in1 (k := k - 2) (Room.in1 (k := k - 2 + 1) (hr.mono (by omega))))
  refine key_sorted (f := .ref f) (oc := oc) (ks := ks) (b := b) I ho pl.isList (by omega) (by omega) (ha1 a f) (fun x => ha2 x f) (fun x => ht x f) (fun i v kk hv hkk pl2 s2 I2 ho2 => ?_) fun D s' out cc I' fp hD hdo ko => ?_
  · have hx : ∃ xv, xs[i]? = some xv /\ RelV xv v := by
      have hi : i < xs.length := by have := (List.getElem?_eq_some_iff.mp hv).1; omega
      obtain ⟨u, e3, r3⟩ := rv.get (List.getElem?_eq_getElem hi)
      rw [hv] at e3
      cases e3
      exact ⟨_, List.getElem?_eq_getElem hi, r3⟩
    obtain ⟨xv, hxv, rxv⟩ := hx
    refine wpAny_mono (lam_call (P := P) (pm := pm) (ctv := ctv) (te := te) (w := .int kk) I2 rfl hr2 ?_ ho2 e1 e2 own hT Lo.S (Lo.bd _ _ _ _) rxv (fun H2 => (Lo.bo _ _ _ _ _).h) fun H2 hH2 => hkey i xv kk hxv hkk H2 fun b ys e => hH2 b ys (sm _ _ e)) (fun r s3 ⟨r1, r2, r3⟩ => ⟨r1, r2, r3⟩) fun _ _ z => z
    exact (I2.pin _ (List.mem_append_right _ (List.mem_append_left _ (List.mem_append_right _ List.mem_cons_self)))).1
  · obtain ⟨pp, hp1, hp2, rfl⟩ := ko
    have hl3 : xs.length = its.length := hl
    have hpl : pp.length = xs.length := by have := hp1.length_eq; rw [List.length_range] at this; omega
    refine ⟨.ref D, _, (I'.track (u := .lst (pp.map fun i => xs.getD i .non)) fp hD ⟨?_, pp.map fun i => its.getD i Value.none, cc, vals_pick rv pp, hdo⟩).unpinned, rfl, q D pp H sm fp.1 (by rw [hl3]; exact hp1) hp2⟩
    rw [List.length_map, hpl]
    exact Nat.le_trans (Nat.le_of_lt h64) (by decide)
theorem qe_sortedKeyRev {t : TA} {j : Nat} {vp : Pos} (L : LamX X c P nm) (hT : IsTab X.H₀ P nm) (hr : Room k X.A) (hk : 3 <= k) (n : Nm X.env.scope "sorted" .globalImplicit) (hm : X.mg "sorted" = none) (ha : QA X [e] t) (Lo : LamOk X nm x params body scope te)
    (hs : backTo pos (starEach [e] X.env) = (false, eval e X.env) :: backTo pos (starEach [] X.env) := by rfl) (hpl : (backTo pos (starEach [e] X.env)).any (·.1) = false := by rfl) :
    QE X (.Call (.Name "sorted" p) [e] [⟨some "key", .Lambda params body scope lpos, kp⟩, ⟨some "reverse", .Constant (.bool true) j vp, kp2⟩] pos) (tCB (rSortK X.K true te) t) := ⟨by
  intro pins s σ H Q I h
  refine wpAny_Call_Name_kw (Zq138 I n.1 hm b_sorted ?_ n.2.2.2 n.2.1)
  refine PyProof.Rows.callWith_kw (thn (ha.h pos pins s σ H _ I h) fun us s1 ⟨vs, H1, I1, r1, q1⟩ => ?_) hs hpl rfl rfl
  obtain ⟨a, xs, ks, ea, rest⟩ := id q1
  subst ea
  obtain ⟨u, rfl, ru⟩ := Zq210 r1
  cases ru
  refine PyProof.Rows.kws_cons (lam_make I1 L hT Lo.cl Lo.df fun f c' ctv oc vs t H' s' I2 ho e1 e2 own hT' sm => ?_)
  refine PyProof.Rows.kws_cons (Constant_bool (PyProof.Rows.kws_nil ?_))
  exact sortK_core (kw := fun f => [(Str.ofString "key", .ref f), (Str.ofString "reverse", .bool true)]) Lo hr hk (fun l f => ksk_s2 _ _ _) (fun x f => ksk_l2 _ _ _) (fun x f => ksk_t2 _ _ _) I2 ho e1 e2 own hT' sm q1⟩
end
end L2
end
section
set_option Elab.async false
set_option linter.all false
set_option maxRecDepth 100000
set_option maxHeartbeats 4000000
namespace L2
open PySem PySem.Spec PyProof.Rows PySem.W
theorem codeHd_of {K : Frag} {h : Heap} {c P : Addr} (X : K.In h) (e : PySem.W.codeHdIn K c P = true) : CodeHd h c P := PySem.W.codeHd_of_K X e
def HasL (K : Frag) (mg : Str -> Option Value) (x : Str) (st : Stmt) (c : Addr) : Prop := ∃ (f : Addr) (oc : Value) (od : Option Addr) (kV doc pm : Value) (an : Option Addr) (ct : Value) (osl : Array (Option Value)),
  K.lookup f = some ⟨oc, od, .func (PySem.W.fnOf x x (Zq115 st) (Zq80 st) (Zq0 st) .none kV doc pm an (.ref c) ct), osl⟩ /\ PySem.W.codeIn K (.ref c) x = true /\ PySem.W.keepIn K (.ref f) = true /\ mg x = some (.ref f)
theorem hasL_mk {K : Frag} {mg : Str -> Option Value} {h : Heap} {x : Str} {st : Stmt} {f c : Addr} {oc : Value} {od an : Option Addr} {osl : Array (Option Value)} {kV doc pm ct : Value} (KX : K.In h) (G : h.Ns mainGlobals mg)
    (a : PySem.W.nsIn K mainGlobals x = some (some (.ref f))) (l : K.lookup f = some ⟨oc, od, .func (PySem.W.fnOf x x (Zq115 st) (Zq80 st) (Zq0 st) .none kV doc pm an (.ref c) ct), osl⟩)
    (cc : PySem.W.codeIn K (.ref c) x = true) (k : PySem.W.keepIn K (.ref f) = true) : HasL K mg x st c := ⟨f, oc, od, kV, doc, pm, an, ct, osl, l, cc, k, PySem.W.mg_of KX G a⟩
structure LamB (K : Frag) (mg : Str -> Option Value) (c P : Addr) : Prop where
  hd : PySem.W.codeHdIn K c P = true
  bm : ∃ bm o, mg "__builtins__" = some (.ref bm) /\ bm ≠ builtinsNs /\ bm ≠ mainGlobals /\ bm ≠ P /\ K.lookup bm = some o /\ o.cls = .type "module" /\ o.dict = some builtinsNs /\ o.data = .plain
  gl : mainGlobals ≠ P
section
variable {P : Program} {w : World} {K : PySem.W.Frag} {mg : Str -> Option Value} {base : Heap}
theorem HasL.fnQ {x : Str} {st : Stmt} {N ps : List Str} {k : Nat} {sp : Sp} {c T : Addr} (h : HasL K mg x st c) (B : LamB K mg c T) (kb : K.In base) (S : FnScope N ps (Zq0 st))
    (hb : ∀ (kV doc pm : Value) (an : Option Addr) (cdv ct : Value) (us : List Value), us.length = ps.length -> bindArgs (PySem.W.fnOf x x (Zq115 st) (Zq80 st) (Zq0 st) .none kV doc pm an cdv ct) ⟨us, []⟩ = pure (ps.zip us))
    (len : ∀ vs H Q E, sp vs H Q E -> vs.length = ps.length)
    (hbody : ∀ (f : Addr) (A : Around) (outer : List Env) (s : Shared) (H : Hp) (vs : List V) (Q : VK) (E : XK), Room k (A.deeper (envOfC x (Zq0 st) s.heap.objs.size f (.ref c))) -> LamX (cxOf CX0 P w K mg base N x (Zq0 st) f (.ref c) A outer s H E).nox c T (x ++ ".<locals>." ++ "<lambda>") -> sp vs H Q E ->
      ∃ t, QSs (cxOf CX0 P w K mg base N x (Zq0 st) f (.ref c) A outer s H E).nox (Zq80 st) t /\ t { nx := fun _ H' => Q .non H', rt := Q } (Zq135 N vs) H) : Fn P w K mg base x ps (k + 1) sp := by
  obtain ⟨f, oc, od, kV, doc, pm, an, ct, osl, lk, hcd, kp, hm⟩ := h
  refine ⟨f, _, hm, kp, .all (hb kV doc pm an (.ref c) ct), fn_of lk hcd S len fun A outer s H vs Q E hr hsp => ?_⟩
  have L : LamX (cxOf CX0 P w K mg base N x (Zq0 st) f (.ref c) A outer s H E).nox c T (x ++ ".<locals>." ++ "<lambda>") :=
    ⟨rfl, codeHd_of kb B.hd, let ⟨bm, o, a1, a2, a3, a4, a5, a6⟩ := B.bm; ⟨bm, o, a1, a2, a3, a4, kb _ _ a5, a6⟩, rfl, B.gl⟩
  obtain ⟨t, h, q⟩ := hbody f A outer s H vs Q E hr L hsp
  exact ⟨t, h.h.nox, q⟩
end
section
variable {P : Program} {w : World} {K : PySem.W.Frag} {mg : Str -> Option Value} {base : Heap} {x nm : Str} {scope : Scope} {f : Addr} {cv : Value} {A : Around} {outer : List Env} {s : Shared} {H : Hp} {E : XK} {pos : Pos}
theorem qix_tupL : QIx (cxOf CX0 P w K mg base [x] nm scope f cv A outer s H E) (rIxT K) := ⟨ix_tup (X := cxOf CX0 P w K mg base [x] nm scope f cv A outer s H E)⟩
theorem qvLm (n : Nm scope x .local := by decide +kernel) : QE (cxOf CX0 P w K mg base [x] nm scope f cv A outer s H E) (.Name x pos) (tVar 0) := qvN 0 n
end
structure Tb where
  c : Addr
  P : Addr
  nm : Str
def tabH (ts : List Tb) (b : Addr) : Option HO := (ts.find? fun t => t.P == b).map fun t => .tbl #[.str t.nm 0]
def TabsIn (ts : List Tb) (H : Hp) : Prop := ∀ t ∈ ts, IsTab H t.P t.nm
def spLawT (K : PySem.W.Frag) (ts : List Tb) : Sp := fun vs H Q _ => ∃ (a : Addr) (ns : List Int), vs = [.ref a] /\ SqL K H a (ns.map V.int) /\ ns.length <= 63 /\ TabsIn ts H /\ ∀ H', Q (.bl true) H'
theorem law_callT {P : Program} {w : World} {K : PySem.W.Frag} {mg mb : Str -> Option Value} {k : Nat} {fa a : Addr} {fd : FuncData} {x : Str} {s₁ : Shared} {vs : List Value} {ns : List Int} {ts : List Tb}
    (KX : K.In s₁.heap) (hns : s₁.heap.Ns mainGlobals mg) (hb : s₁.heap.Ns builtinsNs mb) (hbb : ∀ x : Str, x ≠ "__name__" -> mb x = bootBuiltins x) (hlim : s₁.heap.NoLimit) (hg : s₁.gens = #[])
    (ha : s₁.heap.get? a = some { cls := .type "list", data := .seq vs.toArray }) (hi : IntsAre vs ns) (hl : ns.length <= 63) (hr : Room k callerA)
    (hts : ∀ t ∈ ts, s₁.heap.get? t.P = some { cls := .none, data := .fields #[] } /\ PySem.W.codeHdIn K t.c t.P = true /\ K.lookup t.P = none) (hnd : (ts.map (·.P)).Nodup)
    (F : ∀ base : Heap, K.In base -> base.Ns mainGlobals mg -> FnOk P w K mg base CX0 k fa fd [x] (spLawT K ts)) (hbind : ∀ (s : Shared) (u : Value), BindsTo s fd ⟨[u], []⟩ [(x, u)]) :
    codeAny (model P w) callerA (.call (.ref fa) ⟨[.ref a], []⟩) (fun r s' => r = .ok (.ret (.bool true)) /\ OldK s₁.heap s'.heap /\ s'.os = s₁.os /\ AllBare s'.gens) s₁ := by
  have rv := vals_ints hi
  have lenV := hi.length
  have hl' : ns.length <= sizeLine := Nat.le_trans hl (by decide)
  have tabS : ∀ b u, tabH ts b = some u -> ∃ t ∈ ts, t.P = b /\ u = .tbl #[.str t.nm 0] := fun b u e => by
    unfold tabH at e
    obtain ⟨t, h1, h2⟩ := Option.map_eq_some_iff.mp e
    exact ⟨t, List.mem_of_find?_eq_some h1, by simpa using List.find?_some h1, h2.symm⟩
  have tabN : ∀ t ∈ ts, ∃ u, tabH ts t.P = some u := fun t ht => by
    unfold tabH
    cases e : ts.find? (fun t' => t'.P == t.P) with
    | none => have := List.find?_eq_none.mp e t ht; simp at this
    | some t' => exact ⟨_, rfl⟩
  have tabE : ∀ t ∈ ts, tabH ts t.P = some (.tbl #[.str t.nm 0]) := fun t ht => by
    obtain ⟨u, e⟩ := tabN t ht
    obtain ⟨t', h1, h2, h3⟩ := tabS _ _ e
    have : t' = t := by
      have e1 : ∀ {l : List Tb} {t t' : Tb}, (l.map (·.P)).Nodup -> t ∈ l -> t' ∈ l -> t'.P = t.P -> t' = t := by
        intro l
        induction l with
        | nil => intro t t' _ h; cases h
        | cons y l ih =>
          intro t t' hn h h' hp
          rw [List.map_cons, List.nodup_cons] at hn
          rcases List.mem_cons.mp h with z | z
          · rcases List.mem_cons.mp h' with z' | z'
            · rw [z, z']
            · rw [z] at hp; exact absurd (List.mem_map.mpr ⟨t', z', hp⟩) hn.1
          · rcases List.mem_cons.mp h' with z' | z'
            · rw [z'] at hp; exact absurd (List.mem_map.mpr ⟨t, z, hp.symm⟩) hn.1
            · exact ih hn.2 z z' hp
      exact e1 hnd ht h1 h2
    rw [e, h3, this]
  have core : ∀ H : Hp, (∀ b u, H b = some u -> (b = a /\ ∃ o xs, u = .frz o (.lst xs)) \/ tabH ts b = some u) -> TabsIn ts H -> SqL K H a (ns.map V.int) -> HOk P w H s₁.heap -> (H a ≠ none -> K.lookup a = none) ->
      codeAny (model P w) callerA (.call (.ref fa) ⟨[.ref a], []⟩) (fun r s' => r = .ok (.ret (.bool true)) /\ OldK s₁.heap s'.heap /\ s'.os = s₁.os /\ AllBare s'.gens) s₁ := by
    intro H hO hT hS hok hK
    have base_of : ∀ {b : Addr} {o : Obj}, s₁.heap.get? b = some o -> H b = none -> (hidT s₁.heap H).get? b = some o := fun e n => hidT_get e n
    have noA : ∀ {b : Addr} {o : Obj} {es : Array DictEntry} {ep : Nat}, s₁.heap.get? b = some o -> o.data = .dict es ep -> H b = none := fun {b o es ep} e d => by
      cases q : H b with
      | none => rfl
      | some u =>
        rcases hO b u q with ⟨e', _⟩ | e'
        · subst e'
          rw [ha] at e; cases e
          have d' : Data.seq vs.toArray _ = Data.dict es ep := d
          cases d'
        · obtain ⟨t, h1, h2, _⟩ := tabS b u e'
          subst h2
          rw [(hts t h1).1] at e; cases e; cases d
    have nsK : ∀ {b : Addr} {m : Str -> Option Value}, s₁.heap.Ns b m -> (hidT s₁.heap H).Ns b m := fun {b m} ⟨o, es, ep, e, d, r⟩ => ⟨o, es, ep, base_of e (noA e d), d, r⟩
    have hKb : K.In (hidT s₁.heap H) := fun b o e => base_of (KX b o e) (by
      cases q : H b with
      | none => rfl
      | some u =>
        rcases hO b u q with ⟨e', _⟩ | e'
        · subst e'
          rw [hK (by rw [q]; simp)] at e; cases e
        · obtain ⟨t, h1, h2, _⟩ := tabS b u e'
          subst h2
          rw [(hts t h1).2.2] at e; cases e)
    have hM : Mod K mg (hidT s₁.heap H) := ⟨hKb, nsK hns, ⟨mb, nsK hb, hbb⟩, let ⟨mc, h1, h2⟩ := hlim; ⟨mc, nsK h1, h2⟩⟩
    have e0 : Env0 P w K mg (hidT s₁.heap H) callerA [] s₁ H := ⟨rfl, hM, fun b o e => of_hidT e, Nat.le_of_eq (hidT_size _ _), trivial, fun b hb => absurd (show b ∈ ([] : List Addr) from hb) (by simp), hok, .of_eq hg⟩
    refine codeAny_mono ((F _ hKb (nsK hns)).run callerA [] s₁ H ⟨[.ref a], []⟩ [.ref a] [.ref a] (fun v _ => v = .bl true) E0 hr e0 (hbind s₁ (.ref a)) (.cons rfl .nil) ⟨a, ns, rfl, hS, hl, hT, fun _ => rfl⟩) fun r s' h => ?_
    cases r with
    | error e => exact h.elim
    | ok fl =>
      cases fl with
      | next => exact False.elim h
      | brk => exact False.elim h
      | cont => exact False.elim h
      | ret u =>
        obtain ⟨v, H', os, bare, un, hok', r', q⟩ := h
        have q' : v = .bl true := q
        subst q'
        obtain rfl : u = Value.bool true := r'
        have nfs : ∀ b : Addr, b ∉ frs [] := fun b z => absurd (show b ∈ ([] : List Addr) from z) (by simp)
        refine ⟨rfl, ⟨fun b o e => ?_, fun b o e => un.there b o e (by simp)⟩, os, bare⟩
        cases q : H b with
        | none => exact .inl (un.keep b o e q (nfs b) (by simp))
        | some u =>
          rcases hO b u q with ⟨_, ob, xs, z⟩ | z
          · subst z
            have z2 := un.frzs b ob _ q
            obtain ⟨e1, _⟩ := hok b _ q
            obtain ⟨e2, _⟩ := hok' b _ z2
            rw [e] at e1; cases e1
            exact .inl e2
          · obtain ⟨t, h1, h2, h3⟩ := tabS b u z
            subst h2 h3
            obtain ⟨e1, e2, _⟩ := hts t h1
            rw [e1] at e
            cases e
            obtain ⟨more, z2⟩ := un.tbls _ _ q
            obtain ⟨qs, _, _, e3, _⟩ := hok' _ _ z2
            obtain ⟨oc, vv, _, _, _, _, _, _, _, f1, f2, f3, f4, _⟩ := codeHd_of KX e2
            exact .inr (.inl ⟨⟨t.c, oc, vv, f1, f2, f3, f4⟩, rfl, #[], qs, rfl, by rw [e3]; simp⟩)
  have tabOk : ∀ (H : Hp), (∀ t ∈ ts, H t.P = some (.tbl #[.str t.nm 0])) -> ∀ b u, tabH ts b = some u -> ObjOk P w H s₁.heap b u := fun H hH b u z => by
    obtain ⟨t, h1, h2, h3⟩ := tabS b u z
    subst h2 h3
    exact ⟨#[], t.nm, 0, (hts t h1).1, trivial, rfl, fun pos cv e => by cases e⟩
  have nPa : ∀ t ∈ ts, t.P ≠ a := fun t ht z => by
    have := (hts t ht).1
    rw [z, ha] at this; cases this
  cases hk : K.lookup a with
  | some o =>
    have e := KX a o hk
    rw [ha] at e
    cases e
    refine core (tabH ts) (fun b u z => .inr z) (fun t ht => ⟨_, _, tabE t ht, rfl⟩) (.inr ⟨_, vs.toArray, _, hk, rfl, rfl, rfl, by rw [List.size_toArray, lenV]; exact hl', by simpa using rv⟩) (fun b u z => tabOk _ tabE b u z) fun z => ?_
    exfalso
    cases q : tabH ts a with
    | none => exact z q
    | some u => obtain ⟨t, h1, h2, _⟩ := tabS a u q; exact nPa t h1 h2
  | none =>
    have hH : ∀ t ∈ ts, (fun b => if b = a then some (HO.frz { cls := .type "list", data := .seq vs.toArray } (.lst (ns.map V.int))) else tabH ts b) t.P = some (.tbl #[.str t.nm 0]) := fun t ht => by
      show (if t.P = a then _ else _) = _
      rw [if_neg (nPa t ht)]; exact tabE t ht
    refine core (fun b => if b = a then some (.frz { cls := .type "list", data := .seq vs.toArray } (.lst (ns.map V.int))) else tabH ts b) (fun b u z => ?_) (fun t ht => ⟨_, _, hH t ht, rfl⟩) (.inl (.inr ⟨{ cls := .type "list", data := .seq vs.toArray }, if_pos rfl⟩)) (fun b u z => ?_) fun _ => hk
    · by_cases hb : b = a
      · have z' := (if_pos hb).symm.trans z
        cases z'
        exact .inl ⟨hb, _, _, rfl⟩
      · exact .inr ((if_neg hb).symm.trans z)
    · by_cases hb : b = a
      · have z' := (if_pos hb).symm.trans z
        cases z'
        subst hb
        exact ⟨ha, by rw [List.length_map]; exact hl', vs, _, rv, ha⟩
      · exact tabOk _ hH b u ((if_neg hb).symm.trans z)
theorem walkLawT {l : PySem.W.OpenLaw} {q : Program} {loose : List Str} {XP : (Str -> Option Value) -> Heap -> Prop} {YP : World -> Heap -> Prop} {d : DefRec} {K KT : Params -> PySem.W.Frag} {ts : List Tb} (hn : l.most = some 63) (hdf : d.params.defaults = [])
    (hY : ∀ (w : World) (h : Heap), YP w h -> (KT w.params).In h) (hsub : ∀ (p : Params) (h : Heap), (KT p).In h -> (K p).In h)
    (hts : ∀ (p : Params), ∀ t ∈ ts, (KT p).lookup t.P = some { cls := .none, data := .fields #[] } /\ PySem.W.codeHdIn (K p) t.c t.P = true /\ (K p).lookup t.P = none) (hnd : (ts.map (·.P)).Nodup)
    (F : ∀ (w : World) (mg : Str -> Option Value) (fa : Addr) (h : Heap), (K w.params).In h -> h.Ns mainGlobals mg -> mg d.name = some (.ref fa) ->
      ∃ fd : FuncData, (∀ (s : Shared) (u : Value), BindsTo s fd ⟨[u], []⟩ [("_law_script", u)]) /\ ∀ base : Heap, (K w.params).In base -> base.Ns mainGlobals mg -> FnOk l.prog w (K w.params) mg base CX0 40 fa fd ["_law_script"] (spLawT (K w.params) ts)) :
    PySem.W.WalkO q loose XP YP l.row.toRowW d [] (fun f vs => PySem.call f vs) := by
  refine Att.attach_call hn hdf fun w s₀ s₁ mg mb fa o pm cd doc a vs ns G Y ho hd hcd hmg hobj hints hlen hg => ?_
  have KT' := hY w _ Y
  have KX := hsub _ _ KT'
  obtain ⟨fd, hb, hF⟩ := F w mg fa _ KX G.T.g hmg
  exact law_callT KX G.T.g G.T.b G.T.builtins G.T.nolimit hg hobj hints hlen ⟨rfl, by decide, by decide⟩ (fun t ht => ⟨KT' _ _ (hts w.params t ht).1, (hts w.params t ht).2⟩) hnd hF hb
end L2
namespace L2
open PySem PySem.Spec PyProof.Rows PySem.W
theorem closure_nil {scope : Scope} {env : Env} (h : ∀ p ∈ scope.names, p.2 ≠ .free) : closureFor scope env = pure [] := by
  have go : ∀ (l : List (Str × NameKind)) (cs : List (Str × Addr)), (∀ p ∈ l, p.2 ≠ .free) ->
      (forIn l cs (fun (x : Str × NameKind) (r : List (Str × Addr)) => if (x.2 == NameKind.free) = true then (do let a ← cellOf env x.1; pure (ForInStep.yield ((x.1, a) :: r)) : Sem (ForInStep (List (Str × Addr)))) else pure (ForInStep.yield r)) : Sem _) = pure cs := by
    intro l
    induction l with
    | nil => intro cs _; rfl
    | cons p l ih =>
      intro cs hp
      rw [List.forIn_cons]
      have e2 : (p.2 == NameKind.free) = false := by simpa using hp p List.mem_cons_self
      simp only [e2, Bool.false_eq_true, if_false, pure_bind]
      exact ih cs fun q hq => hp q (List.mem_cons_of_mem _ hq)
  unfold closureFor
  have e' := congrArg (fun m : Sem (List (Str × Addr)) => m >>= fun r => pure r) (go scope.names [] h)
  simp only [pure_bind] at e'
  exact e'
theorem Frag.In.left {K T : Frag} {h : Heap} (x : Frag.In (K ++ T : List (Addr × Obj)) h) : K.In h := fun a o e => x a o (by
  show List.lookup a (K ++ T) = some o
  rw [List.lookup_append]
  have : List.lookup a K = some o := e
  rw [this]; rfl)
end L2
namespace L2
open PySem PySem.Spec PyProof.Rows PySem.W
section
variable {X : Cx} {a : Expr} {ta : TE}
theorem qmt_extend : QM X "list.extend" rExtend := ⟨mt_extend⟩
end
end L2
end
section
set_option Elab.async false
set_option linter.all false
set_option maxRecDepth 100000
set_option maxHeartbeats 4000000
namespace L2
open PySem PySem.Spec PyProof.Rows
section
variable {X : Cx}
end
end L2
end
set_option Elab.async false
set_option linter.all false
set_option maxRecDepth 100000
set_option maxHeartbeats 4000000
namespace Law
open PySem L2
local macro_rules | `(tactic| walk_at "hp") => `(tactic| first | exact Zq3 | assumption | (rw [Zq7 (by first | assumption | (apply Ne.symm; assumption))]; walk_at "hp"))
local macro_rules | `(tactic| walk_at "sq") => `(tactic| first | assumption | exact SqL.of (by walk_at "hp"))
local macro_rules | `(tactic| walk_at "dc") => `(tactic| first | decide | assumption | omega)
local macro_rules | `(tactic| walk_at "rd1") => `(tactic| first | refine iteT ?_ | refine iteF ?_ | refine iteD (fun _ => ?_) (fun _ => ?_) | refine Zq103 (fun _ => ?_) (fun _ => ?_) | refine iteB (fun _ => ?_) (fun _ => ?_) | refine ⟨_, rfl, ?_⟩ | refine ⟨_, _, rfl, rfl, ?_⟩ | refine ⟨(.inr ⟨by decide, by decide⟩ : CMul _ _), ?_⟩ | refine ⟨(⟨by walk_at "dc", by walk_at "dc"⟩ : CDiv _ _), ?_⟩ | refine ⟨(⟨by decide, by decide, by decide⟩ : CPow _ _), ?_⟩ | refine ⟨(show (0 : Int) < _ by walk_at "dc"), ?_⟩ | refine ⟨_, _, _, _, rfl, rfl, (by walk_at "sq"), (by rfl), ?_⟩ | refine ⟨_, _, _, _, rfl, rfl, (by walk_at "sq"), at_ints (by omega) (by omega), ?_⟩ | refine ⟨_, _, _, _, rfl, rfl, (by walk_at "hp"), (by rfl), ?_⟩ | refine ⟨_, _, rfl, .inl (by walk_at "sq"), ?_⟩ | fail "rd")
local macro_rules | `(tactic| walk_at "rd") => `(tactic| repeat' walk_at "rd1")
def top (i : Nat) : Stmt := PySem.Challenge.pw_forsworn_k14_papers_that_are_looked_at.main.body.getD i (.Pass ⟨0, 0, 0, 0⟩)
structure Txt (mg : Str -> Option Value) : Prop where
  len : mg "len" = none
  list : mg "list" = none
  range : mg "range" = none
  isinstance : mg "isinstance" = none
  bool : mg "bool" = none
  int : mg "int" = none
  str : mg "str" = none
  tuple : mg "tuple" = none
  zip : mg "zip" = none
  min : mg "min" = none
  max : mg "max" = none
  sum : mg "sum" = none
  all : mg "all" = none
  sorted : mg "sorted" = none
  enumerate : mg "enumerate" = none
section
variable {P : Program} {w : World} {K : PySem.W.Frag} {mg : Str -> Option Value} {base : Heap}
def isInt : D -> Bool
  | .int _ => true
  | _ => false
def spWhole : Sp := fun vs H Q _ => ∃ (v : V) (d : D), vs = [v] /\ Rep H d v /\ Q (.bl (isInt d)) H
abbrev Zq113 : Stmt := top 35
theorem Zq270 : FnScope ["_law_found"] ["_law_found"] (Zq0 Zq113) := ⟨rfl, rfl, rfl, by decide +kernel, rfl, by decide +kernel, by decide +kernel⟩
theorem Nq114 : Nm (Zq0 Zq113) "_law_found" .local := by decide +kernel
theorem Nq178 : Nm (Zq0 Zq113) "bool" .globalImplicit := by decide +kernel
theorem Nq179 : Nm (Zq0 Zq113) "int" .globalImplicit := by decide +kernel
theorem Nq115 : Nm (Zq0 Zq113) "isinstance" .globalImplicit := by decide +kernel
theorem Zq281 (Zq199 : Has K mg "_law_whole" Zq113) (T : Txt mg) : Fn P w K mg base "_law_whole" ["_law_found"] 1 spWhole := by
  refine Zq199.fnQ Zq270 (fun _ _ _ _ _ _ us hl => match us, hl with | [_], _ => rfl) (fun vs H Q E h => ?_) (fun f cdv A outer s H vs Q E hr h => ?_)
  · obtain ⟨v, d, rfl, _⟩ := h
    rfl
  · obtain ⟨v, d, rfl, r, k⟩ := h
    refine ⟨_, (Zq6 (Zq14 (Zq180 (Zq11 Zq59 Nq115 T.isinstance Zq58 (Zq1 (qvN 0 Nq114) (Zq1 (Zq100 (v := .ty "int") Nq179 T.int b_int rfl) Zq2))) (Zq179 (qe_not (Zq11 Zq59 Nq115 T.isinstance Zq58 (Zq1 (qvN 0 Nq114) (Zq1 (Zq100 (v := .ty "bool") Nq178 T.bool b_bool rfl) Zq2)))))))), ?_⟩
    obtain ⟨t1, ty1, e1⟩ := isi (K := K) r "int" (by decide)
    obtain ⟨t2, ty2, e2⟩ := isi (K := K) r "bool" (by decide)
    refine ⟨_, rfl, v, "int", t1, _, rfl, ty1, e1, _, rfl, iteB (fun h1 => ?_) (fun h1 => ?_)⟩
    · refine ⟨_, rfl, v, "bool", t2, _, rfl, ty2, e2, _, rfl, ?_⟩
      have e : (!isI d "bool") = isInt d := by cases d <;> first | rfl | (simp [isI] at h1)
      rw [e]
      exact k
    · have e : false = isInt d := by cases d <;> first | rfl | (simp [isI] at h1)
      rw [e]
      exact k
def spSame (n : Nat) : Sp := fun vs H Q _ => ∃ (v1 v2 : V) (d1 d2 : D), vs = [v1, v2] /\ Rep H d1 v1 /\ Rep H d2 v2 /\ d2.deep <= n /\ ∀ H', Same H H' -> Q (.bl (Zq76 d1 d2)) H'
abbrev Zq33 : Stmt := top 36
theorem Zq200 : FnScope ["_law_found", "_law_due", "_law_one", "_law_other"] ["_law_found", "_law_due"] (Zq0 Zq33) := ⟨rfl, rfl, rfl, by decide +kernel, rfl, by decide +kernel, by decide +kernel⟩
theorem Nq3 : Nm (Zq0 Zq33) "_law_due" .local := by decide +kernel
theorem Nq4 : Nm (Zq0 Zq33) "_law_found" .local := by decide +kernel
theorem Nq116 : Nm (Zq0 Zq33) "_law_one" .local := by decide +kernel
theorem Nq117 : Nm (Zq0 Zq33) "_law_other" .local := by decide +kernel
theorem Nq180 : Nm (Zq0 Zq33) "_law_same" .globalImplicit := by decide +kernel
theorem Nq181 : Nm (Zq0 Zq33) "_law_whole" .globalImplicit := by decide +kernel
theorem Nq118 : Nm (Zq0 Zq33) "bool" .globalImplicit := by decide +kernel
theorem Nq182 : Nm (Zq0 Zq33) "int" .globalImplicit := by decide +kernel
theorem Nq7 : Nm (Zq0 Zq33) "isinstance" .globalImplicit := by decide +kernel
theorem Nq119 : Nm (Zq0 Zq33) "len" .globalImplicit := by decide +kernel
theorem Nq120 : Nm (Zq0 Zq33) "list" .globalImplicit := by decide +kernel
theorem Nq121 : Nm (Zq0 Zq33) "str" .globalImplicit := by decide +kernel
theorem Nq122 : Nm (Zq0 Zq33) "tuple" .globalImplicit := by decide +kernel
theorem Nq183 : Nm (Zq0 Zq33) "zip" .globalImplicit := by decide +kernel
theorem same_step {n k : Nat} (Zq73 : Has K mg "_law_same" Zq33) (T : Txt mg) (Zq141 : Fn P w K mg base "_law_whole" ["_law_found"] 1 spWhole)
    (Zq134 : Fn P w K mg base "_law_same" ["_law_found", "_law_due"] (k + 1) (fun vs H Q E => 0 < n /\ spSame (n - 1) vs H Q E)) : Fn P w K mg base "_law_same" ["_law_found", "_law_due"] (k + 2) (spSame n) := by
  refine Zq73.fnQ Zq200 (fun _ _ _ _ _ _ us hl => match us, hl with | [_, _], _ => rfl) (fun vs H Q E h => ?_) (fun f cdv A outer s H vs Q E hr h => ?_)
  · obtain ⟨v1, v2, d1, d2, rfl, _⟩ := h
    rfl
  · obtain ⟨v1, v2, d1, d2, rfl, r1, r2, hn, q⟩ := h
    have hk : 1 <= k + 1 := Nat.le_add_left _ _
    refine ⟨_, (Zq4 (Zq23 (Zq15 qop_isN (qvN 1 Nq3) Zq178 (Zq19 _)) (Zq6 (Zq14 (Zq62 qop_isN (qvN 0 Nq4) Zq178 (Zq19 _)))) Zq20)
 (Zq4 (Zq23 (Zq95 (Zq11 Zq59 Nq7 T.isinstance Zq58 (Zq1 (qvN 1 Nq3) (Zq1 (Zq100 (v := .ty "bool") Nq118 T.bool b_bool rfl) Zq2)))) (Zq6 (Zq14 (Zq180 (Zq11 Zq59 Nq7 T.isinstance Zq58 (Zq1 (qvN 0 Nq4) (Zq1 (Zq100 (v := .ty "bool") Nq118 T.bool b_bool rfl) Zq2))) (Zq179 (Zq62 Zq43 (qvN 0 Nq4) (qvN 1 Nq3) (Zq19 _)))))) Zq20)
 (Zq4 (Zq23 (Zq95 (Zq11 Zq59 Nq7 T.isinstance Zq58 (Zq1 (qvN 1 Nq3) (Zq1 (Zq100 (v := .ty "int") Nq182 T.int b_int rfl) Zq2)))) (Zq6 (Zq14 (Zq180 (Zq8 Zq141 (hr.mono (by omega)) Nq181 (Zq1 (qvN 0 Nq4) Zq2)) (Zq179 (Zq62 Zq43 (qvN 0 Nq4) (qvN 1 Nq3) (Zq19 _)))))) Zq20)
 (Zq4 (Zq23 (Zq95 (Zq11 Zq59 Nq7 T.isinstance Zq58 (Zq1 (qvN 1 Nq3) (Zq1 (Zq100 (v := .ty "str") Nq121 T.str b_str rfl) Zq2)))) (Zq6 (Zq14 (Zq180 (Zq11 Zq59 Nq7 T.isinstance Zq58 (Zq1 (qvN 0 Nq4) (Zq1 (Zq100 (v := .ty "str") Nq121 T.str b_str rfl) Zq2))) (Zq179 (Zq62 Zq43 (qvN 0 Nq4) (qvN 1 Nq3) (Zq19 _)))))) Zq20)
 (Zq4 (Zq23 (QW.pt (Zq214 (Zq15 qop_ne (Zq11 Zq59 Nq7 T.isinstance Zq58 (Zq1 (qvN 1 Nq3) (Zq1 (Zq100 (v := .ty "list") Nq120 T.list Zq176 rfl) Zq2))) (Zq11 Zq59 Nq7 T.isinstance Zq58 (Zq1 (qvN 0 Nq4) (Zq1 (Zq100 (v := .ty "list") Nq120 T.list Zq176 rfl) Zq2))) (Zq19 _)) (Zq197 (Zq15 qop_ne (Zq11 Zq59 Nq7 T.isinstance Zq58 (Zq1 (qvN 1 Nq3) (Zq1 (Zq100 (v := .ty "tuple") Nq122 T.tuple b_tuple rfl) Zq2))) (Zq11 Zq59 Nq7 T.isinstance Zq58 (Zq1 (qvN 0 Nq4) (Zq1 (Zq100 (v := .ty "tuple") Nq122 T.tuple b_tuple rfl) Zq2))) (Zq19 _))))) (Zq6 (Zq14 Zq56)) Zq20)
 (Zq4 (Zq23 (Zq15 qop_ne (Zq11 Zq13 Nq119 T.len Zq39 (Zq1 (qvN 0 Nq4) Zq2)) (Zq11 Zq13 Nq119 T.len Zq39 (Zq1 (qvN 1 Nq3) Zq2)) (Zq19 _)) (Zq6 (Zq14 Zq56)) Zq20)
 (Zq4 (Zq64 PassesOwn.never rfl (qi_zip Nq183.1 T.zip (Zq1 (qvN 0 Nq4) (Zq1 (qvN 1 Nq3) Zq2))) (qg_tup (by rfl) (Zq22 (Zq27 (i := 2) Zq200.nd Nq116) (Zq22 (Zq27 (i := 3) Zq200.nd Nq117) Zq69)))
  (Zq6 (Zq23 (Zq177 (Zq95 (Zq8 Zq134 (hr.mono (by omega)) Nq180 (Zq1 (qvN 2 Nq116) (Zq1 (qvN 3 Nq117) Zq2))))) (Zq6 (Zq14 Zq56)) Zq20)))
 (Zq6 (Zq14 Zq56))))))))), ?_⟩
    have q0 : Q (.bl (Zq76 d1 d2)) H := q H (Same.refl _)
    obtain ⟨tb2, yb2, eb2⟩ := isi (K := K) r2 "bool" (by decide)
    obtain ⟨ti2, yi2, ei2⟩ := isi (K := K) r2 "int" (by decide)
    obtain ⟨ts2, ys2, es2⟩ := isi (K := K) r2 "str" (by decide)
    obtain ⟨tl2, yl2, el2⟩ := isi (K := K) r2 "list" (by decide)
    obtain ⟨tt2, yt2, et2⟩ := isi (K := K) r2 "tuple" (by decide)
    obtain ⟨tb1, yb1, eb1⟩ := isi (K := K) r1 "bool" (by decide)
    obtain ⟨ts1, ys1, es1⟩ := isi (K := K) r1 "str" (by decide)
    obtain ⟨tl1, yl1, el1⟩ := isi (K := K) r1 "list" (by decide)
    obtain ⟨tt1, yt1, et1⟩ := isi (K := K) r1 "tuple" (by decide)
    refine ⟨_, rfl, rfl, _, rfl, ?_⟩
    rw [r2.none_iff]
    cases d2 with
    | non =>
      refine iteT ⟨_, rfl, rfl, ?_⟩
      rw [r1.none_iff]
      cases d1 <;> exact q0
    | bl b2 =>
      refine iteF ?_
      refine ⟨_, rfl, v2, "bool", tb2, _, rfl, yb2, eb2, _, rfl, iteT ?_⟩
      refine ⟨_, rfl, v1, "bool", tb1, _, rfl, yb1, eb1, _, rfl, ?_⟩
      cases r2
      cases d1 with
      | bl b1 =>
        cases r1
        refine iteT ⟨_, rfl, _, rfl, rfl, ?_⟩
        rw [dec_bl]
        exact q0
      | non => exact iteF q0
      | int _ => exact iteF q0
      | str _ => exact iteF q0
      | tup _ => exact iteF q0
      | lst _ => exact iteF q0
    | int i2 =>
      refine iteF ?_
      refine ⟨_, rfl, v2, "bool", tb2, _, rfl, yb2, eb2, _, rfl, iteF ?_⟩
      refine ⟨_, rfl, v2, "int", ti2, _, rfl, yi2, ei2, _, rfl, iteT ?_⟩
      refine ⟨_, rfl, v1, d1, rfl, r1, _, rfl, ?_⟩
      cases r2
      cases d1 with
      | int i1 =>
        cases r1
        refine iteT ⟨_, rfl, _, rfl, rfl, ?_⟩
        rw [dec_int]
        exact q0
      | non => exact iteF q0
      | bl _ => exact iteF q0
      | str _ => exact iteF q0
      | tup _ => exact iteF q0
      | lst _ => exact iteF q0
    | str x2 =>
      refine iteF ?_
      refine ⟨_, rfl, v2, "bool", tb2, _, rfl, yb2, eb2, _, rfl, iteF ?_⟩
      refine ⟨_, rfl, v2, "int", ti2, _, rfl, yi2, ei2, _, rfl, iteF ?_⟩
      refine ⟨_, rfl, v2, "str", ts2, _, rfl, ys2, es2, _, rfl, iteT ?_⟩
      refine ⟨_, rfl, v1, "str", ts1, _, rfl, ys1, es1, _, rfl, ?_⟩
      cases r2
      cases d1 with
      | str x1 =>
        cases r1
        refine iteT ⟨_, rfl, _, rfl, rfl, ?_⟩
        rw [dec_str]
        exact q0
      | non => exact iteF q0
      | bl _ => exact iteF q0
      | int _ => exact iteF q0
      | tup _ => exact iteF q0
      | lst _ => exact iteF q0
    | lst ds2 =>
      refine iteF ?_
      refine ⟨_, rfl, v2, "bool", tb2, _, rfl, yb2, eb2, _, rfl, iteF ?_⟩
      refine ⟨_, rfl, v2, "int", ti2, _, rfl, yi2, ei2, _, rfl, iteF ?_⟩
      refine ⟨_, rfl, v2, "str", ts2, _, rfl, ys2, es2, _, rfl, iteF ?_⟩
      refine ⟨_, rfl, v2, "list", tl2, _, rfl, yl2, el2, _, rfl, v1, "list", tl1, _, rfl, yl1, el1, rfl, _, rfl, ?_⟩
      have ne1 : ∀ {A B : Prop}, B -> if (!decide (V.bl true = V.bl true)) = true then A else B := fun h => Zq103 (fun z => absurd rfl z) fun _ => h
      have ne2 : ∀ {A B : Prop}, B -> if (!decide (V.bl false = V.bl false)) = true then A else B := fun h => Zq103 (fun z => absurd rfl z) fun _ => h
      have nt1 : ∀ {A B : Prop}, A -> if (!decide (V.bl true = V.bl false)) = true then A else B := fun h => Zq103 (fun _ => h) fun z => by cases z
      have nt2 : ∀ {A B : Prop}, A -> if (!decide (V.bl false = V.bl true)) = true then A else B := fun h => Zq103 (fun _ => h) fun z => by cases z
      have two : ∀ {R : Prop}, R -> R := id
      cases d1 with
      | lst ds1 =>
        refine ne1 ?_
        refine ⟨_, rfl, v2, "tuple", tt2, _, rfl, yt2, et2, _, rfl, v1, "tuple", tt1, _, rfl, yt1, et1, rfl, _, rfl, ?_⟩
        refine ne2 ?_
        obtain ⟨a1, vs1, rfl, g1, p1⟩ := r1
        obtain ⟨a2, vs2, rfl, g2, p2⟩ := r2
        refine ⟨_, rfl, a1, vs1, rfl, .inl (SqL.of g1), _, rfl, a2, vs2, rfl, .inl (SqL.of g2), rfl, _, rfl, Zq103 (fun hne => ?_) (fun heq => ?_)⟩
        · have : ds1.length ≠ ds2.length := fun z => hne (by rw [p1.length, p2.length, z])
          have e : Zq76 (.lst ds1) (.lst ds2) = false := by rw [Zq76]; exact sameL_false_len this
          rw [e] at q0
          exact q0
        · have hl : vs1.length = vs2.length := by injection heq with z; omega
          have hl1 := p1.length
          have hl2 := p2.length
          refine ⟨_, rfl, _, rfl, a1, a2, rfl, .inl ⟨vs1, vs2, SqL.of g1, SqL.of g2, ?_⟩⟩
          refine forW_zip vs1 vs2 hl (fun i σ H' => Same H H' /\ ∃ w3 w4, σ = [some (.ref a1), some (.ref a2), w3, w4] /\ Zq109 (ds1.take i) (ds2.take i) = true) ⟨Same.refl _, none, none, rfl, rfl⟩ (fun i σ H' _ ⟨sm, _⟩ => ⟨SqL.of (sm _ _ g1), SqL.of (sm _ _ g2)⟩) ?_ ?_
          · rintro i x y p σ H' hx hy ⟨sm, w3, w4, rfl, hs⟩ hp
            obtain ⟨dx, ex, rx⟩ := p1.get hx
            obtain ⟨dy, ey, ry⟩ := p2.get hy
            have sm' := sm.trans (Same.new (o := .tup [x, y]) hp)
            have dd := deep_get ey
            have hn' : Zq97 ds2 + 1 <= n := hn
            refine ⟨p, _, rfl, SqT.of Zq3, rfl, x, [y], rfl, y, [], rfl, rfl, ?_⟩
            refine ⟨_, rfl, _, rfl, by omega, x, y, dx, dy, rfl, rx.mono' sm', ry.mono' sm', by omega, fun H2 sm2 => ⟨_, rfl, iteNB (fun hf => ?_) (fun ht => ?_)⟩⟩
            · have e : Zq76 (.lst ds1) (.lst ds2) = false := by rw [Zq76]; exact sameL_false_at ex ey hf
              have qq := q H2 (sm'.trans sm2)
              rw [e] at qq
              exact qq
            · exact ⟨sm'.trans sm2, _, _, rfl, by rw [sameL_take ex ey, hs, ht]; rfl⟩
          · rintro σ H' ⟨sm, w3, w4, rfl, hs⟩
            have e : Zq76 (.lst ds1) (.lst ds2) = true := by
              rw [Zq76]
              rw [List.take_of_length_le (by omega), List.take_of_length_le (by omega)] at hs
              exact hs
            have qq := q H' sm
            rw [e] at qq
            exact qq
      | tup _ => exact nt1 (iteT q0)
      | non => exact nt1 (iteT q0)
      | bl _ => exact nt1 (iteT q0)
      | int _ => exact nt1 (iteT q0)
      | str _ => exact nt1 (iteT q0)
    | tup ds2 =>
      refine iteF ?_
      refine ⟨_, rfl, v2, "bool", tb2, _, rfl, yb2, eb2, _, rfl, iteF ?_⟩
      refine ⟨_, rfl, v2, "int", ti2, _, rfl, yi2, ei2, _, rfl, iteF ?_⟩
      refine ⟨_, rfl, v2, "str", ts2, _, rfl, ys2, es2, _, rfl, iteF ?_⟩
      refine ⟨_, rfl, v2, "list", tl2, _, rfl, yl2, el2, _, rfl, v1, "list", tl1, _, rfl, yl1, el1, rfl, _, rfl, ?_⟩
      have ne1 : ∀ {A B : Prop}, B -> if (!decide (V.bl true = V.bl true)) = true then A else B := fun h => Zq103 (fun z => absurd rfl z) fun _ => h
      have ne2 : ∀ {A B : Prop}, B -> if (!decide (V.bl false = V.bl false)) = true then A else B := fun h => Zq103 (fun z => absurd rfl z) fun _ => h
      have nt1 : ∀ {A B : Prop}, A -> if (!decide (V.bl true = V.bl false)) = true then A else B := fun h => Zq103 (fun _ => h) fun z => by cases z
      have nt2 : ∀ {A B : Prop}, A -> if (!decide (V.bl false = V.bl true)) = true then A else B := fun h => Zq103 (fun _ => h) fun z => by cases z
      have two : ∀ {R : Prop}, R -> R := id
      cases d1 with
      | tup ds1 =>
        refine ne2 ?_
        refine ⟨_, rfl, v2, "tuple", tt2, _, rfl, yt2, et2, _, rfl, v1, "tuple", tt1, _, rfl, yt1, et1, rfl, _, rfl, ?_⟩
        refine ne1 ?_
        obtain ⟨a1, vs1, rfl, g1, p1⟩ := r1
        obtain ⟨a2, vs2, rfl, g2, p2⟩ := r2
        refine ⟨_, rfl, a1, vs1, rfl, .inr (SqT.of g1), _, rfl, a2, vs2, rfl, .inr (SqT.of g2), rfl, _, rfl, Zq103 (fun hne => ?_) (fun heq => ?_)⟩
        · have : ds1.length ≠ ds2.length := fun z => hne (by rw [p1.length, p2.length, z])
          have e : Zq76 (.tup ds1) (.tup ds2) = false := by rw [Zq76]; exact sameL_false_len this
          rw [e] at q0
          exact q0
        · have hl : vs1.length = vs2.length := by injection heq with z; omega
          have hl1 := p1.length
          have hl2 := p2.length
          refine ⟨_, rfl, _, rfl, a1, a2, rfl, .inr ⟨vs1, vs2, SqT.of g1, SqT.of g2, ?_⟩⟩
          refine forW_zip vs1 vs2 hl (fun i σ H' => Same H H' /\ ∃ w3 w4, σ = [some (.ref a1), some (.ref a2), w3, w4] /\ Zq109 (ds1.take i) (ds2.take i) = true) ⟨Same.refl _, none, none, rfl, rfl⟩ (fun i σ H' _ ⟨sm, _⟩ => ⟨SqT.of (sm _ _ g1), SqT.of (sm _ _ g2)⟩) ?_ ?_
          · rintro i x y p σ H' hx hy ⟨sm, w3, w4, rfl, hs⟩ hp
            obtain ⟨dx, ex, rx⟩ := p1.get hx
            obtain ⟨dy, ey, ry⟩ := p2.get hy
            have sm' := sm.trans (Same.new (o := .tup [x, y]) hp)
            have dd := deep_get ey
            have hn' : Zq97 ds2 + 1 <= n := hn
            refine ⟨p, _, rfl, SqT.of Zq3, rfl, x, [y], rfl, y, [], rfl, rfl, ?_⟩
            refine ⟨_, rfl, _, rfl, by omega, x, y, dx, dy, rfl, rx.mono' sm', ry.mono' sm', by omega, fun H2 sm2 => ⟨_, rfl, iteNB (fun hf => ?_) (fun ht => ?_)⟩⟩
            · have e : Zq76 (.tup ds1) (.tup ds2) = false := by rw [Zq76]; exact sameL_false_at ex ey hf
              have qq := q H2 (sm'.trans sm2)
              rw [e] at qq
              exact qq
            · exact ⟨sm'.trans sm2, _, _, rfl, by rw [sameL_take ex ey, hs, ht]; rfl⟩
          · rintro σ H' ⟨sm, w3, w4, rfl, hs⟩
            have e : Zq76 (.tup ds1) (.tup ds2) = true := by
              rw [Zq76]
              rw [List.take_of_length_le (by omega), List.take_of_length_le (by omega)] at hs
              exact hs
            have qq := q H' sm
            rw [e] at qq
            exact qq
      | lst _ => exact nt2 (iteT q0)
      | non => exact ne2 ⟨_, rfl, v2, "tuple", tt2, _, rfl, yt2, et2, _, rfl, v1, "tuple", tt1, _, rfl, yt1, et1, rfl, _, rfl, nt1 q0⟩
      | bl _ => exact ne2 ⟨_, rfl, v2, "tuple", tt2, _, rfl, yt2, et2, _, rfl, v1, "tuple", tt1, _, rfl, yt1, et1, rfl, _, rfl, nt1 q0⟩
      | int _ => exact ne2 ⟨_, rfl, v2, "tuple", tt2, _, rfl, yt2, et2, _, rfl, v1, "tuple", tt1, _, rfl, yt1, et1, rfl, _, rfl, nt1 q0⟩
      | str _ => exact ne2 ⟨_, rfl, v2, "tuple", tt2, _, rfl, yt2, et2, _, rfl, v1, "tuple", tt1, _, rfl, yt1, et1, rfl, _, rfl, nt1 q0⟩
theorem same_never {k : Nat} (Zq73 : Has K mg "_law_same" Zq33) : Fn P w K mg base "_law_same" ["_law_found", "_law_due"] k (fun _ _ _ _ => False) := by
  obtain ⟨f, fd, F, hm⟩ := Zq73
  exact ⟨f, fd, hm, F.kp, F.binds fun _ _ _ _ _ _ us hl => match us, hl with | [_, _], _ => rfl, ⟨fun _ _ _ _ h => h.elim, fun _ _ _ _ _ _ _ _ _ _ _ _ _ h => h.elim⟩⟩
theorem Zq250 (Zq73 : Has K mg "_law_same" Zq33) (T : Txt mg) (Zq141 : Fn P w K mg base "_law_whole" ["_law_found"] 1 spWhole) : ∀ n : Nat, Fn P w K mg base "_law_same" ["_law_found", "_law_due"] (n + 2) (spSame n)
  | 0 => same_step (k := 0) Zq73 T Zq141 ((same_never Zq73).imp fun _ _ _ _ h => absurd h.1 (Nat.lt_irrefl _))
  | n + 1 => same_step (k := n + 1) Zq73 T Zq141 ((Zq250 Zq73 T Zq141 n).imp fun _ _ _ _ h => h.2)
end
section
variable {P : Program} {w : World} {K : PySem.W.Frag} {mg : Str -> Option Value} {base : Heap}
def spSrc (K : PySem.W.Frag) : Sp := fun vs H Q _ => ∃ (a : Addr) (ns : List Int), vs = [.ref a] /\ SqL K H a (ns.map V.int) /\ ∀ (s la : Addr) (H' : Hp), H s = none -> H la = none -> SrcAt H' s la -> Same H H' -> Q (.ref s) H'
abbrev Zq182 : Stmt := top 33
theorem Zq296 : FnScope ["_law_script"] ["_law_script"] (Zq0 Zq182) := ⟨rfl, rfl, rfl, by decide +kernel, rfl, by decide +kernel, by decide +kernel⟩
theorem Nq184 : Nm (Zq0 Zq182) "_law_script" .local := by decide +kernel
theorem Nq185 : Nm (Zq0 Zq182) "list" .globalImplicit := by decide +kernel
theorem Zq318 (Zq232 : Has K mg "_law_src" Zq182) (T : Txt mg) : Fn P w K mg base "_law_src" ["_law_script"] 1 (spSrc K) := by
  refine Zq232.fnQ Zq296 (fun _ _ _ _ _ _ us hl => match us, hl with | [_], _ => rfl) (fun vs H Q E h => ?_) (fun f cdv A outer s H vs Q E hr h => ?_)
  · obtain ⟨a, ns, rfl, _⟩ := h
    rfl
  · obtain ⟨a, ns, rfl, hS, k⟩ := h
    refine ⟨_, (Zq6 (Zq14 (Zq83 (Zq1 (qe_callTyN qcall_list_of Nq185 T.list Zq176 (Zq1 (Zq60 Zq91 (qvN 0 Nq184) Zq81 (Zq82 Zq5)) Zq2)) (Zq1 Zq5 (Zq1 Zq5 (Zq1 Zq5 (Zq1 Zq5 Zq2)))))))), ?_⟩
    refine ⟨_, rfl, _, rfl, a, _, rfl, hS, fun l hl => ?_⟩
    have hc : ∃ ms : List Int, cutV (ns.map V.int) none (some 63) = ms.map V.int := by
      unfold cutV
      rw [← List.map_drop, ← List.map_take]
      exact ⟨_, rfl⟩
    obtain ⟨ms, ec⟩ := hc
    refine ⟨l, _, rfl, .inl (SqL.of Zq3), fun l2 hl2 => ⟨by show 5 <= sizeLine; decide, fun s hs => ?_⟩⟩
    have n1 : l2 ≠ l := fun z => by rw [z, Zq3] at hl2; cases hl2
    have s1 : Same H (upd H l (.lst (cutV (ns.map V.int) none (some 63)))) := Same.new hl
    have s2 := s1.trans (Same.new (o := .lst (cutV (ns.map V.int) none (some 63))) hl2)
    have n2 : l2 ≠ s := fun z => by rw [← z, Zq3] at hs; cases hs
    refine k s l2 _ (s2.free hs) (s1.free hl2) ⟨ms, 0, 0, 1, 0, Zq3, by rw [Zq7 n2, Zq3, ec], by decide, n2⟩ (s2.trans (Same.new hs))
def Zq116 : Sp := fun vs H Q _ => ∃ (s la : Addr) (b : Int), vs = [.ref s, .int b] /\ SrcAt H s la /\ 0 < b /\ b < 1073741824 /\ ∀ (d : Int) (H' : Hp), 0 <= d -> d < b -> SrcAt H' s la -> SameX s H H' -> Q (.int d) H'
abbrev Zq110 : Stmt := top 34
theorem Zq161 : FnScope ["_law_src_here", "_law_base", "_law_cell", "_law_digit"] ["_law_src_here", "_law_base"] (Zq0 Zq110) := ⟨rfl, rfl, rfl, by decide +kernel, rfl, by decide +kernel, by decide +kernel⟩
theorem Nq71 : Nm (Zq0 Zq110) "_law_base" .local := by decide +kernel
theorem Nq27 : Nm (Zq0 Zq110) "_law_cell" .local := by decide +kernel
theorem Nq123 : Nm (Zq0 Zq110) "_law_digit" .local := by decide +kernel
theorem Nq0 : Nm (Zq0 Zq110) "_law_src_here" .local := by decide +kernel
theorem Nq186 : Nm (Zq0 Zq110) "len" .globalImplicit := by decide +kernel
theorem Zq297 (Zq216 : Has K mg "_law_next" Zq110) (T : Txt mg) : Fn P w K mg base "_law_next" ["_law_src_here", "_law_base"] 1 Zq116 := by
  refine Zq216.fnQ Zq161 (fun _ _ _ _ _ _ us hl => match us, hl with | [_, _], _ => rfl) (fun vs H Q E h => ?_) (fun f cdv A outer s H vs Q E hr h => ?_)
  · obtain ⟨s, la, b, rfl, _⟩ := h
    rfl
  · obtain ⟨s, la, b, rfl, ⟨ns, i, big, st, cnt, hs, hla, hi, hne⟩, hb0, hb1, k⟩ := h
    refine ⟨_, (Zq4 (Zq160 (Zq18 Zq32 (Zq10 Zq21 (qvN 0 Nq0) Zq5 (fun _ _ => rfl)) Zq5) (Zq196 (qvN 0 Nq0) Zq5 Zq139))
 (Zq4 (Zq23 (Zq15 qop_le (Zq10 Zq21 (qvN 0 Nq0) Zq5 (fun _ _ => rfl)) Zq5 (Zq19 _)) (Zq4 (Zq12 (i := 2) Zq161.nd Nq27 Zq5)
 (Zq4 (Zq23 (Zq15 Zq181 (Zq10 Zq21 (qvN 0 Nq0) Zq5 (fun _ _ => rfl)) (Zq11 Zq13 Nq186 T.len Zq39 (Zq1 (Zq10 Zq21 (qvN 0 Nq0) Zq5 (fun _ _ => rfl)) Zq2)) (Zq19 _)) (Zq4 (Zq12 (i := 2) Zq161.nd Nq27 (Zq10 Zq21 (Zq10 Zq21 (qvN 0 Nq0) Zq5 (fun _ _ => rfl)) (Zq10 Zq21 (qvN 0 Nq0) Zq5 (fun _ _ => rfl)) (fun _ _ => rfl)))
 (Zq6 (Zq160 (Zq18 Zq32 (Zq10 Zq21 (qvN 0 Nq0) Zq5 (fun _ _ => rfl)) Zq5) (Zq196 (qvN 0 Nq0) Zq5 Zq139)))) Zq20)
 (Zq4 (Zq160 (Zq18 qop_mod (Zq18 Zq32 (Zq18 Zq32 (Zq18 qop_mul (Zq10 Zq21 (qvN 0 Nq0) Zq5 (fun _ _ => rfl)) Zq5) (Zq18 qop_mod (qvN 2 Nq27) Zq5)) (Zq10 Zq21 (qvN 0 Nq0) Zq5 (fun _ _ => rfl))) Zq5) (Zq196 (qvN 0 Nq0) Zq5 Zq139))
 (Zq6 (Zq23 (Zq15 qop_ge (qvN 2 Nq27) (Zq18 qop_pow Zq5 Zq5) (Zq19 _)) (Zq6 (Zq160 (qvN 2 Nq27) (Zq196 (qvN 0 Nq0) Zq5 Zq139))) Zq20))))) Zq20)
 (Zq4 (Zq23 (Zq15 qop_gt (Zq10 Zq21 (qvN 0 Nq0) Zq5 (fun _ _ => rfl)) Zq5 (Zq19 _)) (Zq4 (Zq12 (i := 3) Zq161.nd Nq123 (Zq18 qop_mod (Zq10 Zq21 (qvN 0 Nq0) Zq5 (fun _ _ => rfl)) (qvN 1 Nq71)))
 (Zq4 (Zq160 (Zq18 qop_fdiv (Zq10 Zq21 (qvN 0 Nq0) Zq5 (fun _ _ => rfl)) (qvN 1 Nq71)) (Zq196 (qvN 0 Nq0) Zq5 Zq139))
 (Zq6 (Zq14 (qvN 3 Nq123))))) Zq20)
 (Zq6 (Zq14 (Zq18 qop_mod (Zq18 qop_fdiv (Zq18 qop_mod (Zq18 qop_mul (Zq10 Zq21 (qvN 0 Nq0) Zq5 (fun _ _ => rfl)) Zq5) Zq5) Zq5) (qvN 1 Nq71))))))), ?_⟩
    have fin : ∀ (H1 : Hp) (i' big st cnt d : Int), 0 <= d -> d < b -> SameX s H H1 -> H1 s = some (.lst [.ref la, .int i', .int big, .int st, .int cnt]) -> 0 <= i' -> Q (.int d) H1 := fun H1 i' big st cnt d h0 h1 sx hs1 hi1 =>
      k d H1 h0 h1 ⟨ns, i', big, st, cnt, hs1, sx _ _ hne hla, hi1, hne⟩ sx
    walk_at "rd"
    all_goals refine fin _ _ _ _ _ _ (Int.emod_nonneg _ (by omega)) (Int.emod_lt_of_pos _ hb0) ?_ Zq3 (by omega)
    all_goals repeat (first | exact SameX.refl | refine SameX.trans ?_ SameX.upd)
end
section
variable {P : Program} {w : World} {K : PySem.W.Frag} {mg : Str -> Option Value} {base : Heap}
def spWord : Sp := fun vs H Q _ => ∃ (s la : Addr) (n : Int), vs = [.ref s, .int n] /\ SrcAt H s la /\ 0 <= n /\ n <= 100 /\ ∀ (x : Str) (H' : Hp), (x.length : Int) = n -> Low x -> SrcAt H' s la -> SameX s H H' -> Q (.str x) H'
theorem flat_singles (cl : List Nat) : (List.map cs (cl.map fun c => (⟨#[c]⟩ : Str))).flatten = cl := by
  induction cl with
  | nil => rfl
  | cons c r ih => rw [List.map_cons, List.map_cons, List.flatten_cons, ih]; rfl
abbrev Zq122 : Stmt := top 38
theorem Zq239 : FnScope ["_law_src_here", "_law_many", "_law_letters"] ["_law_src_here", "_law_many"] (Zq0 Zq122) := ⟨rfl, rfl, rfl, by decide +kernel, rfl, by decide +kernel, by decide +kernel⟩
theorem Nq124 : Nm (Zq0 Zq122) "_law_letters" .cell := by decide +kernel
theorem Nq187 : Nm (Zq0 Zq122) "_law_many" .local := by decide +kernel
theorem Nq188 : Nm (Zq0 Zq122) "_law_src_here" .cell := by decide +kernel
theorem Nq189 : Nm (Zq0 Zq122) "range" .globalImplicit := by decide +kernel
theorem Zq298 (Zq217 : Has K mg "_law_word" Zq122) (T : Txt mg) (Zq9 : Fn P w K mg base "_law_next" ["_law_src_here", "_law_base"] 1 Zq116) : Fn P w K mg base "_law_word" ["_law_src_here", "_law_many"] 2 spWord := by
  refine Zq217.fnQ Zq239 (fun _ _ _ _ _ _ us hl => match us, hl with | [_, _], _ => rfl) (fun vs H Q E h => ?_) (fun f cdv A outer s H vs Q E hr h => ?_)
  · obtain ⟨s, la, n, rfl, _⟩ := h
    rfl
  · obtain ⟨s, la, n, rfl, hsrc, hn0, hn1, k⟩ := h
    refine ⟨_, (Zq4 (qs_setNC (i := 2) Zq239.nd Nq124 qe_str)
 (Zq6 (Zq14 (Zq147 F.plainAttrs_str F.slot_str_join F.type_str_join qmt_join qe_str (Zq1 (Zq92 (locs := ["_law_k"]) (fr := [("_law_src_here", 0), ("_law_letters", 2)]) ⟨rfl, by decide +kernel, by decide +kernel, by decide +kernel, by decide +kernel, by decide +kernel⟩ (.consN Nq188 (.consN Nq124 .nil)) rfl (Zq140 Nq189.1 T.range (Zq1 (qvN 1 Nq187) Zq2)) ⟨fun _ _ _ _ _ _ => by
    have cnd : (inN ["_law_k"] [("_law_src_here", 0), ("_law_letters", 2)]).Nodup := by decide +kernel
    exact ⟨(qgLN 0 cnd), Zq90, (Zq10 qix_str (qvFN 2) (Zq8 Zq9 (hr.mono (by omega)) nmC (Zq1 (qvFN 1) (Zq1 Zq5 Zq2))) (fun _ _ => rfl))⟩⟩) Zq2))))), ?_⟩
    refine ⟨rfl, _, rfl, n, rfl, by omega, by omega, ?_⟩
    refine comp_range (n := n.toNat) (fun i ys H2 => SrcAt H2 s la /\ SameX s H H2 /\ ∃ cl : List Nat, cl.length = i /\ ys = cl.map (fun c => V.str ⟨#[c]⟩) /\ ∀ c ∈ cl, 97 <= c /\ c <= 122) ⟨hsrc, SameX.refl, [], rfl, rfl, (fun _ z => nomatch z)⟩ (by omega) ?_ ?_ ?_
    · rintro i ys H2 ⟨_, _, cl, h1, rfl, _⟩
      rw [List.length_map]; omega
    · rintro i ys H2 hi ⟨hs2, sx2, cl, h1, rfl, hc⟩ ls hls
      obtain ⟨a, rfl⟩ := len1 hls
      refine ⟨⟨[_], rfl, rfl⟩, ?_⟩
      walk_at "rd"
      refine ⟨s, la, 26, rfl, hs2, by decide, by decide, fun d H3 d0 d1 hs3 sx3 => ?_⟩
      refine ⟨letters, d, _, rfl, rfl, by decide, letters_at d0 d1, hs3, sx2.trans sx3, cl ++ [97 + d.toNat], by rw [List.length_append, h1]; rfl, by rw [List.map_append]; rfl, fun c hc' => ?_⟩
      rcases List.mem_append.mp hc' with z | z
      · exact hc c z
      · have : c = 97 + d.toNat := by simpa using z
        omega
    · rintro ys H2 ⟨hs2, sx2, cl, h1, rfl, hc⟩ l hl
      have e : (cl.map fun c => V.str ⟨#[c]⟩) = (cl.map fun c => (⟨#[c]⟩ : Str)).map V.str := by rw [List.map_map]; rfl
      have sumlen : ∀ l : List Nat, ((l.map fun c => (⟨#[c]⟩ : Str)).map (·.length)).sum = l.length := by
        intro l
        induction l with
        | nil => rfl
        | cons c r ih => rw [List.map_cons, List.map_cons, List.sum_cons, ih, List.length_cons]; show 1 + r.length = _; omega
      refine ⟨_, l, cl.map fun c => (⟨#[c]⟩ : Str), rfl, rfl, SqL.of (by rw [Zq3, e]), ?_, ?_⟩
      · rw [sumlen, List.length_map]
        show cl.length + cl.length * 0 <= 16777216
        omega
      · have ej : cs (Txt.join "" (cl.map fun c => (⟨#[c]⟩ : Str))) = cl := by rw [cs_join0, flat_singles]
        refine k _ _ ?_ (fun c hc' => hc c (by rw [ej] at hc'; exact hc')) (hs2.keep (Same.new hl)) (sx2.trans (SameX.new hl))
        rw [← Zq94, ej, h1]
        omega
end
theorem ph {α : Type} [DecidableEq α] : ∀ (L M : List α), L.Nodup -> (∀ a ∈ L, a ∈ M) -> L.length <= M.length
  | [], _, _, _ => Nat.zero_le _
  | a :: L, M, nd, h => by
    obtain ⟨n1, n2⟩ := List.nodup_cons.mp nd
    have ha := h a List.mem_cons_self
    have := ph L (M.erase a) n2 fun b hb => (List.mem_erase_of_ne (fun (e : b = a) => n1 (by rw [← e]; exact hb))).mpr (h b (List.mem_cons_of_mem _ hb))
    rw [List.length_erase_of_mem ha] at this
    have hp : 0 < M.length := List.length_pos_of_mem ha
    rw [List.length_cons]
    omega
def cand (stem : Str) (j : Nat) : Str := stem ++ ⟨#[97 + j % 26]⟩ ++ ⟨#[97 + j / 26]⟩
theorem cs_cand (stem : Str) (j : Nat) : cs (cand stem j) = cs stem ++ [97 + j % 26, 97 + j / 26] := by
  unfold cand
  rw [cs_app, cs_app]
  simp [cs]
theorem cand_inj {stem : Str} {i j : Nat} (h : cand stem i = cand stem j) : i = j := by
  have e : cs (cand stem i) = cs (cand stem j) := by rw [h]
  rw [cs_cand, cs_cand] at e
  have e2 := List.append_cancel_left e
  injection e2 with e3 e4
  injection e4 with e5 _
  omega
theorem cand_len (stem : Str) (j : Nat) : (cand stem j).length = stem.length + 2 := by
  rw [← Zq94, cs_cand, List.length_append, Zq94]
  rfl
theorem cand_low {stem : Str} {j : Nat} (h : Low stem) (hj : j < 676) : Low (cand stem j) := by
  intro c hc
  rw [cs_cand] at hc
  rcases List.mem_append.mp hc with z | z
  · exact h c z
  · simp at z
    omega
theorem not_all_cands {names : List Str} {stem : Str} (h : ∀ j, j < names.length -> cand stem j ∈ names) : cand stem names.length ∉ names := by
  intro hm
  have nd : ((List.range (names.length + 1)).map (cand stem)).Nodup := by
    rw [List.nodup_iff_pairwise_ne, List.pairwise_map]
    exact List.Pairwise.imp (fun h e => h (cand_inj e)) (List.nodup_iff_pairwise_ne.mp List.nodup_range)
  have := ph _ names nd fun a ha => by
    obtain ⟨j, hj, rfl⟩ := List.mem_map.mp ha
    have hj := List.mem_range.mp hj
    by_cases e : j = names.length
    · rw [e]; exact hm
    · exact h j (by omega)
  rw [List.length_map, List.length_range] at this
  omega
theorem inV_str (x : Str) (names : List Str) : inV (.str x) (names.map V.str) = decide (x ∈ names) := by
  unfold inV
  rw [List.any_map, Bool.eq_iff_iff, List.any_eq_true, decide_eq_true_iff]
  constructor
  · rintro ⟨y, hy, e⟩
    have : y = x := by simpa [eqV] using e
    rw [← this]; exact hy
  · intro h
    exact ⟨x, h, by simp [eqV]⟩
theorem Zq142 (names : List Str) : (names.map V.str).all Zq136 = true := by
  rw [List.all_map, List.all_eq_true]
  intro x _
  rfl
def Zq117 (x : Str) : Prop := Low x /\ 1 <= x.length /\ x.length <= 12
section
variable {P : Program} {w : World} {K : PySem.W.Frag} {mg : Str -> Option Value} {base : Heap}
def spUnlike (K : PySem.W.Frag) : Sp := fun vs H Q _ => ∃ (a : Addr) (names : List Str) (x : Str), vs = [.ref a, .str x] /\ SqL K H a (names.map V.str) /\ names.length <= 600 /\ Zq117 x /\ ∀ y : Str, Zq117 y -> y ∉ names -> Q (.str y) H
abbrev Zq65 : Stmt := top 37
theorem Zq118 : FnScope ["_law_names_here", "_law_name", "_law_letters", "_law_stem", "_law_tries"] ["_law_names_here", "_law_name"] (Zq0 Zq65) := ⟨rfl, rfl, rfl, by decide +kernel, rfl, by decide +kernel, by decide +kernel⟩
theorem Nq72 : Nm (Zq0 Zq65) "_law_letters" .local := by decide +kernel
theorem Nq28 : Nm (Zq0 Zq65) "_law_name" .local := by decide +kernel
theorem Nq125 : Nm (Zq0 Zq65) "_law_names_here" .local := by decide +kernel
theorem Nq126 : Nm (Zq0 Zq65) "_law_stem" .local := by decide +kernel
theorem Nq73 : Nm (Zq0 Zq65) "_law_tries" .local := by decide +kernel
theorem Nq190 : Nm (Zq0 Zq65) "len" .globalImplicit := by decide +kernel
theorem Nq191 : Nm (Zq0 Zq65) "range" .globalImplicit := by decide +kernel
theorem Zq271 (Zq186 : Has K mg "_law_unlike" Zq65) (T : Txt mg) : Fn P w K mg base "_law_unlike" ["_law_names_here", "_law_name"] 1 (spUnlike K) := by
  refine Zq186.fnQ Zq118 (fun _ _ _ _ _ _ us hl => match us, hl with | [_, _], _ => rfl) (fun vs H Q E h => ?_) (fun f cdv A outer s H vs Q E hr h => ?_)
  · obtain ⟨a, names, x, rfl, _⟩ := h
    rfl
  · obtain ⟨a, names, x, rfl, hS, hn, ⟨hx1, hx2, hx3⟩, k⟩ := h
    refine ⟨_, (Zq4 (Zq12 (i := 2) Zq118.nd Nq72 qe_str)
 (Zq4 (Zq12 (i := 3) Zq118.nd Nq126 (Zq60 qsl_str (qvN 1 Nq28) Zq81 (Zq82 Zq5)))
 (Zq4 (Zq64 PassesOwn.never rfl (Zq140 Nq191.1 T.range (Zq1 (Zq18 Zq32 (Zq11 Zq13 Nq190 T.len Zq39 (Zq1 (qvN 0 Nq125) Zq2)) Zq5) Zq2)) (Zq27 (i := 4) Zq118.nd Nq73)
  (Zq4 (Zq23 (Zq15 qop_notIn_seq (qvN 1 Nq28) (qvN 0 Nq125) rfl) (Zq6 (Zq14 (qvN 1 Nq28))) Zq20)
 (Zq6 (Zq12 (i := 1) Zq118.nd Nq28 (Zq18 qop_add_str (Zq18 qop_add_str (qvN 3 Nq126) (Zq10 qix_str (qvN 2 Nq72) (Zq18 qop_mod (qvN 4 Nq73) Zq5) (fun _ _ => rfl))) (Zq10 qix_str (qvN 2 Nq72) (Zq18 qop_fdiv (qvN 4 Nq73) Zq5) (fun _ _ => rfl)))))))
 (Zq6 (Zq14 (qvN 1 Nq28)))))), ?_⟩
    have hz : (13 : Nat) <= sizeLine := by decide
    refine ⟨_, rfl, 10, rfl, x, rfl, by omega, ?_⟩
    have hst : cs (Txt.slice x none (some 10)) = (cs x).take 10 := cs_upto x (by decide)
    have hstl : (Txt.slice x none (some 10)).length <= 10 := by rw [← Zq94, hst, List.length_take]; omega
    have hsto : Low (Txt.slice x none (some 10)) := fun c hc => hx1 c (by rw [hst] at hc; exact List.mem_of_mem_take hc)
    show tSeq _ _ _ [some (.ref a), some (.str x), some (.str letters), some (.str (Txt.slice x none (some 10))), none] H
    generalize Txt.slice x none (some 10) = stem at hstl hsto
    refine ⟨_, rfl, a, _, rfl, .inl hS, _, _, rfl, rfl, _, rfl, by omega, by rw [List.length_map]; omega, ?_⟩
    refine forW_range (names.length + 1) (by rw [List.length_map]; omega) (fun i σ H' => H' = H /\ ∃ (cur : Str) (v : Option V), σ = [some (.ref a), some (.str cur), some (.str letters), some (.str stem), v] /\ Zq117 cur /\ (i = 0 \/ cur = cand stem (i - 1)) /\ ∀ j, j + 1 < i -> cand stem j ∈ names)
      ⟨rfl, x, none, rfl, ⟨hx1, hx2, hx3⟩, .inl rfl, fun j hj => by omega⟩ ?_ ?_
    · rintro i σ H' hi ⟨rfl, cur, v, rfl, hc, hci, hal⟩
      refine ⟨_, rfl, _, rfl, a, _, rfl, .inl hS, rfl, Zq142 names, _, rfl, ?_⟩
      rw [inV_str]
      refine Zq103 (fun hnin => ?_) (fun hin => ?_)
      · exact ⟨_, rfl, k cur hc hnin⟩
      · have hi' : i <= 600 := by omega
        refine ⟨_, rfl, _, rfl, _, rfl, _, _, rfl, rfl, by show (0 : Int) < 26; decide, letters, _, _, rfl, rfl, by decide, letters_at (Int.emod_nonneg _ (by decide)) (Int.emod_lt_of_pos _ (by decide)), stem, _, rfl, rfl, ?_, ?_⟩
        · show stem.length + 1 <= sizeLine
          omega
        refine ⟨_, rfl, _, rfl, _, _, rfl, rfl, ⟨by decide, by decide⟩, letters, _, _, rfl, rfl, by decide, letters_at (Int.ediv_nonneg (by omega) (by decide)) (by omega), _, _, rfl, rfl, ?_, ?_⟩
        · show (stem ++ _).length + 1 <= sizeLine
          rw [PySem.Str.length_append]
          show stem.length + 1 + 1 <= sizeLine
          omega
        have e1 : ((0 : Int) + (i : Nat)) % 26 = ((i % 26 : Nat) : Int) := by omega
        have e2 : ((0 : Int) + (i : Nat)) / 26 = ((i / 26 : Nat) : Int) := by omega
        refine ⟨rfl, cand stem i, some (.int (0 + (i : Nat))), ?_, ⟨cand_low hsto (by omega), by rw [cand_len]; omega, by rw [cand_len]; omega⟩, .inr rfl, fun j hj => ?_⟩
        · show [some (V.ref a), some (V.str _), some (V.str letters), some (V.str stem), some (V.int _)] = _
          unfold cand
          rw [e1, e2]
          rfl
        · by_cases e : j + 1 = i
          · rcases hci with z | z
            · omega
            · have : j = i - 1 := by omega
              rw [this, ← z]; exact hin
          · exact hal j (by omega)
    · rintro σ H' ⟨rfl, cur, v, rfl, hc, hci, hal⟩
      refine ⟨_, rfl, k cur hc ?_⟩
      rcases hci with z | z
      · omega
      · rw [z]
        exact not_all_cands fun j hj => hal j (by omega)
def spNames : Sp := fun vs H Q _ => ∃ (s la : Addr) (n : Int), vs = [.ref s, .int n] /\ SrcAt H s la /\ 0 <= n /\ n <= 100 /\
  ∀ (l : Addr) (names : List Str) (H' : Hp), (names.length : Int) = n -> names.Nodup -> (∀ x ∈ names, Zq117 x) -> H l = none -> H' l = some (.lst (names.map V.str)) -> SrcAt H' s la -> SameX s H H' -> Q (.ref l) H'
abbrev Zq41 : Stmt := top 39
theorem Zq66 : FnScope ["_law_src_here", "_law_many", "_law_style", "_law_stem", "_law_at", "_law_names_here", "_law_k", "_law_name"] ["_law_src_here", "_law_many"] (Zq0 Zq41) := ⟨rfl, rfl, rfl, by decide +kernel, rfl, by decide +kernel, by decide +kernel⟩
theorem Nq74 : Nm (Zq0 Zq41) "_law_at" .local := by decide +kernel
theorem Nq192 : Nm (Zq0 Zq41) "_law_k" .local := by decide +kernel
theorem Nq193 : Nm (Zq0 Zq41) "_law_many" .local := by decide +kernel
theorem Nq39 : Nm (Zq0 Zq41) "_law_name" .local := by decide +kernel
theorem Nq40 : Nm (Zq0 Zq41) "_law_names_here" .local := by decide +kernel
theorem Nq29 : Nm (Zq0 Zq41) "_law_next" .globalImplicit := by decide +kernel
theorem Nq8 : Nm (Zq0 Zq41) "_law_src_here" .local := by decide +kernel
theorem Nq18 : Nm (Zq0 Zq41) "_law_stem" .local := by decide +kernel
theorem Nq75 : Nm (Zq0 Zq41) "_law_style" .local := by decide +kernel
theorem Nq194 : Nm (Zq0 Zq41) "_law_unlike" .globalImplicit := by decide +kernel
theorem Nq76 : Nm (Zq0 Zq41) "_law_word" .globalImplicit := by decide +kernel
theorem Nq127 : Nm (Zq0 Zq41) "len" .globalImplicit := by decide +kernel
theorem Nq195 : Nm (Zq0 Zq41) "range" .globalImplicit := by decide +kernel
theorem Zq282 (Zq201 : Has K mg "_law_names" Zq41) (T : Txt mg) (Zq9 : Fn P w K mg base "_law_next" ["_law_src_here", "_law_base"] 1 Zq116) (Zq218 : Fn P w K mg base "_law_word" ["_law_src_here", "_law_many"] 2 spWord)
    (Zq272 : Fn P w K mg base "_law_unlike" ["_law_names_here", "_law_name"] 1 (spUnlike K)) : Fn P w K mg base "_law_names" ["_law_src_here", "_law_many"] 3 spNames := by
  refine Zq201.fnQ Zq66 (fun _ _ _ _ _ _ us hl => match us, hl with | [_, _], _ => rfl) (fun vs H Q E h => ?_) (fun f cdv A outer s H vs Q E hr h => ?_)
  · obtain ⟨s, la, n, rfl, _⟩ := h
    rfl
  · obtain ⟨s, la, n, rfl, hsrc, hn0, hn1, k⟩ := h
    refine ⟨_, (Zq4 (Zq12 (i := 2) Zq66.nd Nq75 (Zq8 Zq9 (hr.mono (by omega)) Nq29 (Zq1 (qvN 0 Nq8) (Zq1 Zq5 Zq2))))
 (Zq4 (Zq12 (i := 3) Zq66.nd Nq18 (Zq8 Zq218 (hr.mono (by omega)) Nq76 (Zq1 (qvN 0 Nq8) (Zq1 (Zq18 Zq32 Zq5 (Zq8 Zq9 (hr.mono (by omega)) Nq29 (Zq1 (qvN 0 Nq8) (Zq1 Zq5 Zq2)))) Zq2))))
 (Zq4 (Zq12 (i := 4) Zq66.nd Nq74 (Zq8 Zq9 (hr.mono (by omega)) Nq29 (Zq1 (qvN 0 Nq8) (Zq1 (Zq11 qcall_len_str Nq127 T.len Zq39 (Zq1 (qvN 3 Nq18) Zq2)) Zq2))))
 (Zq4 (Zq12 (i := 5) Zq66.nd Nq40 (Zq83 Zq2))
 (Zq4 (Zq64 PassesOwn.never rfl (Zq140 Nq195.1 T.range (Zq1 (qvN 1 Nq193) Zq2)) (Zq27 (i := 6) Zq66.nd Nq192)
  (Zq4 (Zq12 (i := 7) Zq66.nd Nq39 (Zq18 qop_add_str (Zq18 qop_add_str (Zq60 qsl_str (qvN 3 Nq18) Zq81 (Zq82 (qvN 4 Nq74))) (Zq8 Zq218 (hr.mono (by omega)) Nq76 (Zq1 (qvN 0 Nq8) (Zq1 Zq5 Zq2)))) (Zq60 qsl_str (qvN 3 Nq18) (Zq82 (Zq18 Zq32 (qvN 4 Nq74) Zq5)) Zq81)))
 (Zq4 (Zq23 (Zq15 Zq43 (qvN 2 Nq75) Zq5 (Zq19 _)) (Zq6 (Zq12 (i := 7) Zq66.nd Nq39 (Zq60 qsl_str (qvN 3 Nq18) Zq81 (Zq82 (Zq18 Zq32 Zq5 (Zq8 Zq9 (hr.mono (by omega)) Nq29 (Zq1 (qvN 0 Nq8) (Zq1 (Zq11 qcall_len_str Nq127 T.len Zq39 (Zq1 (qvN 3 Nq18) Zq2)) Zq2)))))))) Zq20)
 (Zq4 (Zq23 (Zq15 Zq43 (qvN 2 Nq75) Zq5 (Zq19 _)) (Zq6 (Zq12 (i := 7) Zq66.nd Nq39 (Zq8 Zq218 (hr.mono (by omega)) Nq76 (Zq1 (qvN 0 Nq8) (Zq1 (Zq18 Zq32 Zq5 (Zq8 Zq9 (hr.mono (by omega)) Nq29 (Zq1 (qvN 0 Nq8) (Zq1 Zq5 Zq2)))) Zq2))))) Zq20)
 (Zq6 (Zq132 (Zq147 F.plainAttrs_list F.slot_list_append F.type_list_append Zq108 (qvN 5 Nq40) (Zq1 (Zq8 Zq272 (hr.mono (by omega)) Nq194 (Zq1 (qvN 5 Nq40) (Zq1 (qvN 7 Nq39) Zq2))) Zq2))))))))
 (Zq6 (Zq14 (qvN 5 Nq40)))))))), ?_⟩
    have hz : (200 : Nat) <= sizeLine := by decide
    refine ⟨_, rfl, s, la, 3, rfl, hsrc, by decide, by decide, fun style H1 st0 st1 hs1 sx1 => ?_⟩
    refine ⟨_, rfl, _, rfl, s, la, 11, rfl, hs1, by decide, by decide, fun d1 H2 d10 d11 hs2 sx2 => ?_⟩
    refine ⟨_, _, rfl, rfl, s, la, _, rfl, hs2, by omega, by omega, fun stem H3 hl3 hlow3 hs3 sx3 => ?_⟩
    refine ⟨_, rfl, _, rfl, stem, rfl, by omega, s, la, _, rfl, hs3, by omega, by omega, fun at_ H4 at0 at1 hs4 sx4 => ?_⟩
    refine ⟨by show 0 <= sizeLine; omega, fun l hl4 => ?_⟩
    have sx : SameX s H H4 := ((sx1.trans sx2).trans sx3).trans sx4
    obtain ⟨nls, nlla⟩ := hs4.ne hl4
    have hlH : H l = none := by
      cases e : H l with
      | none => rfl
      | some o => exact absurd (sx l o nls e) (by rw [hl4]; simp)
    refine ⟨_, rfl, n, rfl, by omega, by omega, ?_⟩
    show tForW _ _ _ _ [some (.ref s), some (.int n), some (.int style), some (.str stem), some (.int at_), some (.ref l), none, none] (upd H4 l (.lst []))
    have mkn : ∀ x : Str, Low x -> 1 <= x.length -> x.length <= 12 -> Zq117 x := fun x a b c => ⟨a, b, c⟩
    refine forW_range n.toNat rfl (fun i σ H' => ∃ (names : List Str) (v1 v2 : Option V), σ = [some (.ref s), some (.int n), some (.int style), some (.str stem), some (.int at_), some (.ref l), v1, v2] /\ names.length = i /\ names.Nodup /\ (∀ x ∈ names, Zq117 x) /\ H' l = some (.lst (names.map V.str)) /\ SrcAt H' s la /\ SameX s H H')
      ⟨[], none, none, rfl, rfl, List.nodup_nil, (fun _ z => nomatch z), Zq3, hs4.keep (Same.new hl4), sx.trans (SameX.new hl4)⟩ ?_ ?_
    · rintro i σ H5 hi ⟨names, v1, v2, rfl, hlen, hnd, hall, hl5, hs5, sx5⟩
      have e1 : cs (Txt.slice stem none (some at_)) = (cs stem).take at_.toNat := cs_upto stem at0
      have e2 : cs (Txt.slice stem (some (at_ + 1)) none) = (cs stem).drop (at_ + 1).toNat := cs_from stem (by omega)
      have l1 : (Txt.slice stem none (some at_)).length <= 11 := by rw [← Zq94, e1, List.length_take, Zq94]; omega
      have l2 : (Txt.slice stem (some (at_ + 1)) none).length + (at_ + 1).toNat = stem.length := by rw [← Zq94, e2, List.length_drop, Zq94]; omega
      have l1' : (Txt.slice stem none (some at_)).length = at_.toNat := by rw [← Zq94, e1, List.length_take, Zq94]; omega
      refine ⟨_, rfl, _, rfl, at_, rfl, stem, rfl, by omega, _, rfl, s, la, 1, rfl, hs5, by decide, by decide, fun x1 H6 hx1 hlow1 hs6 sx6 => ?_⟩
      have hl6 : H6 l = some (.lst (names.map V.str)) := sx6 l _ nls hl5
      refine ⟨_, _, rfl, rfl, by omega, ?_⟩
      refine ⟨_, rfl, _, rfl, _, _, rfl, rfl, _, rfl, stem, rfl, by omega, ?_⟩
      have l3 : (Txt.slice stem none (some at_) ++ x1).length = at_.toNat + 1 := by rw [PySem.Str.length_append, l1']; omega
      refine ⟨_, _, rfl, rfl, by rw [l3]; omega, ?_⟩
      have hname : Zq117 (Txt.slice stem none (some at_) ++ x1 ++ Txt.slice stem (some (at_ + 1)) none) := by
        refine mkn _ (fun c hc => ?_) ?_ ?_
        · rw [cs_app, cs_app, e1, e2] at hc
          rcases List.mem_append.mp hc with hc | hc
          · rcases List.mem_append.mp hc with hc | hc
            · exact hlow3 c (List.mem_of_mem_take hc)
            · exact hlow1 c hc
          · exact hlow3 c (List.mem_of_mem_drop hc)
        · rw [PySem.Str.length_append, l3]; omega
        · rw [PySem.Str.length_append, l3]; omega
      generalize Txt.slice stem none (some at_) ++ x1 ++ Txt.slice stem (some (at_ + 1)) none = nm0 at hname
      show tSeq _ _ _ [some (.ref s), some (.int n), some (.int style), some (.str stem), some (.int at_), some (.ref l), some (.int (0 + (i : Nat))), some (.str nm0)] H6
      have app : ∀ (D : Ends), (∀ σ H', (∃ (names : List Str) (v1 v2 : Option V), σ = [some (.ref s), some (.int n), some (.int style), some (.str stem), some (.int at_), some (.ref l), v1, v2] /\ names.length = i + 1 /\ names.Nodup /\ (∀ x ∈ names, Zq117 x) /\ H' l = some (.lst (names.map V.str)) /\ SrcAt H' s la /\ SameX s H H') -> D.nx σ H') ->
          ∀ (x : Str) (H6 : Hp), Zq117 x -> H6 l = some (.lst (names.map V.str)) -> SrcAt H6 s la -> SameX s H H6 ->
          tDrop (tBM K "list" rAppend (tVar 5) (Zq154 (tFn (spUnlike K) (Zq154 (tVar 5) (Zq154 (tVar 7) tNil))) tNil)) D
            [some (.ref s), some (.int n), some (.int style), some (.str stem), some (.int at_), some (.ref l), some (.int (0 + (i : Nat))), some (.str x)] H6 := by
        intro D hD x H6 hx hl6 hs6 sx6
        refine ⟨_, rfl, .inl ⟨rfl, _, SqL.of hl6⟩, _, rfl, _, rfl, l, names, x, rfl, SqL.of hl6, by omega, hx, fun y hy hny => ?_⟩
        refine ⟨l, _, _, rfl, rfl, hl6, by rw [List.length_map]; omega, hD _ _ ⟨names ++ [y], _, _, rfl, by rw [List.length_append, hlen]; rfl, nd_snoc hnd hny, fun z hz => ?_, ?_, ?_, ?_⟩⟩
        · rcases List.mem_append.mp hz with q | q
          · exact hall z q
          · have : z = y := by simpa using q
            rw [this]; exact hy
        · rw [Zq3, List.map_append]; rfl
        · exact hs6.keepX SameX.upd nls nlla
        · intro b o hb e
          have : b ≠ l := fun z => by rw [z, hlH] at e; cases e
          rw [Zq7 this]
          exact sx6 b o hb e
      have step2 : ∀ (D : Ends), (∀ σ H', (∃ (names : List Str) (v1 v2 : Option V), σ = [some (.ref s), some (.int n), some (.int style), some (.str stem), some (.int at_), some (.ref l), v1, v2] /\ names.length = i + 1 /\ names.Nodup /\ (∀ x ∈ names, Zq117 x) /\ H' l = some (.lst (names.map V.str)) /\ SrcAt H' s la /\ SameX s H H') -> D.nx σ H') ->
          ∀ (x : Str) (H6 : Hp), Zq117 x -> H6 l = some (.lst (names.map V.str)) -> SrcAt H6 s la -> SameX s H H6 ->
          tSeq (tIfS (tTest (tOp rEq (tVar 2) (tC (.int 2)))) (tAsg (tFn spWord (Zq154 (tVar 0) (Zq154 (tOp (rI0 fun i j => .int (i + j)) (tC (.int 1)) (tFn Zq116 (Zq154 (tVar 0) (Zq154 (tC (.int 12)) tNil)))) tNil))) (Zq88 7)) Zq231)
            (tDrop (tBM K "list" rAppend (tVar 5) (Zq154 (tFn (spUnlike K) (Zq154 (tVar 5) (Zq154 (tVar 7) tNil))) tNil))) D
            [some (.ref s), some (.int n), some (.int style), some (.str stem), some (.int at_), some (.ref l), some (.int (0 + (i : Nat))), some (.str x)] H6 := by
        intro D hD x H6 hx hl6 hs6 sx6
        refine ⟨_, rfl, rfl, _, rfl, iteD (fun _ => ?_) (fun _ => ?_)⟩
        · refine ⟨_, rfl, _, rfl, s, la, 12, rfl, hs6, by decide, by decide, fun d H7 d0 d1 hs7 sx7 => ?_⟩
          refine ⟨_, _, rfl, rfl, s, la, _, rfl, hs7, by omega, by omega, fun y H8 hy1 hy2 hs8 sx8 => ?_⟩
          exact app D hD y H8 ⟨hy2, by omega, by omega⟩ (sx8 l _ nls (sx7 l _ nls hl6)) hs8 ((sx6.trans sx7).trans sx8)
        · exact app D hD x H6 hx hl6 hs6 sx6
      refine ⟨_, rfl, rfl, _, rfl, iteD (fun _ => ?_) (fun _ => ?_)⟩
      · refine ⟨_, rfl, _, rfl, _, rfl, stem, rfl, by omega, s, la, _, rfl, hs6, by omega, by omega, fun d H7 d0 d1 hs7 sx7 => ?_⟩
        refine ⟨_, _, rfl, rfl, _, rfl, stem, rfl, by omega, ?_⟩
        have e3 : cs (Txt.slice stem none (some (1 + d))) = (cs stem).take (1 + d).toNat := cs_upto stem (by omega)
        refine step2 _ (fun σ H' h => h) _ H7 ⟨fun c hc => hlow3 c (by rw [e3] at hc; exact List.mem_of_mem_take hc), ?_, ?_⟩ (sx7 l _ nls hl6) hs7 ((sx5.trans sx6).trans sx7)
        · rw [← Zq94, e3, List.length_take, Zq94]; omega
        · rw [← Zq94, e3, List.length_take, Zq94]; omega
      · exact step2 _ (fun σ H' h => h) nm0 H6 hname hl6 hs6 (sx5.trans sx6)
    · rintro σ H5 ⟨names, v1, v2, rfl, hlen, hnd, hall, hl5, hs5, sx5⟩
      exact ⟨_, rfl, k l names H5 (by omega) hnd hall hlH hl5 hs5 sx5⟩
end
section
variable {P : Program} {w : World} {K : PySem.W.Frag} {mg : Str -> Option Value} {base : Heap}
def spWeight : Sp := fun vs H Q _ => ∃ (s la : Addr), vs = [.ref s] /\ SrcAt H s la /\ ∀ (d : Int) (H' : Hp), 1 <= d -> d <= 1000 -> SrcAt H' s la -> SameX s H H' -> Q (.int d) H'
abbrev Zq119 : Stmt := top 40
theorem Zq229 : FnScope ["_law_src_here", "_law_kind"] ["_law_src_here"] (Zq0 Zq119) := ⟨rfl, rfl, rfl, by decide +kernel, rfl, by decide +kernel, by decide +kernel⟩
theorem Nq77 : Nm (Zq0 Zq119) "_law_kind" .local := by decide +kernel
theorem Nq41 : Nm (Zq0 Zq119) "_law_next" .globalImplicit := by decide +kernel
theorem Nq42 : Nm (Zq0 Zq119) "_law_src_here" .local := by decide +kernel
theorem Zq273 (Zq187 : Has K mg "_law_weight" Zq119) (T : Txt mg) (Zq9 : Fn P w K mg base "_law_next" ["_law_src_here", "_law_base"] 1 Zq116) : Fn P w K mg base "_law_weight" ["_law_src_here"] 2 spWeight := by
  refine Zq187.fnQ Zq229 (fun _ _ _ _ _ _ us hl => match us, hl with | [_], _ => rfl) (fun vs H Q E h => ?_) (fun f cdv A outer s H vs Q E hr h => ?_)
  · obtain ⟨s, la, rfl, _⟩ := h
    rfl
  · obtain ⟨s, la, rfl, hsrc, k⟩ := h
    refine ⟨_, (Zq4 (Zq12 (i := 1) Zq229.nd Nq77 (Zq8 Zq9 (hr.mono (by omega)) Nq41 (Zq1 (qvN 0 Nq42) (Zq1 Zq5 Zq2))))
 (Zq4 (Zq23 (Zq15 Zq43 (qvN 1 Nq77) Zq5 (Zq19 _)) (Zq6 (Zq14 (Zq18 Zq32 Zq5 (Zq8 Zq9 (hr.mono (by omega)) Nq41 (Zq1 (qvN 0 Nq42) (Zq1 Zq5 Zq2)))))) Zq20)
 (Zq4 (Zq23 (Zq15 Zq43 (qvN 1 Nq77) Zq5 (Zq19 _)) (Zq6 (Zq14 (Zq18 Zq105 Zq5 (Zq8 Zq9 (hr.mono (by omega)) Nq41 (Zq1 (qvN 0 Nq42) (Zq1 Zq5 Zq2)))))) Zq20)
 (Zq6 (Zq14 (Zq18 Zq32 Zq5 (Zq8 Zq9 (hr.mono (by omega)) Nq41 (Zq1 (qvN 0 Nq42) (Zq1 Zq5 Zq2))))))))), ?_⟩
    refine ⟨_, rfl, s, la, 5, rfl, hsrc, by decide, by decide, fun d0 H1 _ _ hs1 sx1 => ?_⟩
    refine ⟨_, rfl, rfl, _, rfl, iteD (fun _ => ?_) (fun _ => ?_)⟩
    · exact ⟨_, rfl, s, la, 1000, rfl, hs1, by decide, by decide, fun d H2 h0 h1 hs2 sx2 => ⟨_, _, rfl, rfl, k _ H2 (by omega) (by omega) hs2 (sx1.trans sx2)⟩⟩
    · refine ⟨_, rfl, rfl, _, rfl, iteD (fun _ => ?_) (fun _ => ?_)⟩
      · exact ⟨_, rfl, s, la, 3, rfl, hs1, by decide, by decide, fun d H2 h0 h1 hs2 sx2 => ⟨_, _, rfl, rfl, k _ H2 (by omega) (by omega) hs2 (sx1.trans sx2)⟩⟩
      · exact ⟨_, rfl, s, la, 9, rfl, hs1, by decide, by decide, fun d H2 h0 h1 hs2 sx2 => ⟨_, _, rfl, rfl, k _ H2 (by omega) (by omega) hs2 (sx1.trans sx2)⟩⟩
abbrev Side := List (Str × Int)
def oathD (p : Str × Int) : D := .tup [.str p.1, .int p.2]
def Zq233 (sd : Side) : D := .lst (sd.map oathD)
def SameT (H H' : Hp) : Prop := ∀ b xs, H b = some (.tup xs) -> H' b = some (.tup xs)
def RepS (H : Hp) : Side -> List V -> Prop
  | [], vs => vs = []
  | p :: r, vs => ∃ a vs', vs = .ref a :: vs' /\ H a = some (.tup [.str p.1, .int p.2]) /\ RepS H r vs'
theorem RepS.mono {H H' : Hp} (k : SameT H H') : ∀ {sd : Side} {vs : List V}, RepS H sd vs -> RepS H' sd vs
  | [], _, h => h
  | _ :: _, _, ⟨a, vs', e, h1, h2⟩ => ⟨a, vs', e, k _ _ h1, RepS.mono k h2⟩
theorem RepS.rep {H : Hp} : ∀ {sd : Side} {vs : List V}, RepS H sd vs -> RepL H (sd.map oathD) vs
  | [], _, h => h
  | p :: _, _, ⟨a, vs', e, h1, h2⟩ => ⟨.ref a, vs', e, ⟨a, _, rfl, h1, ⟨.str p.1, _, rfl, rfl, ⟨.int p.2, [], rfl, rfl, rfl⟩⟩⟩, RepS.rep h2⟩
theorem RepS.of {H : Hp} : ∀ {sd : Side} {vs : List V}, RepL H (sd.map oathD) vs -> RepS H sd vs
  | [], _, h => h
  | p :: _, _, ⟨v, vs', e, ⟨a, us, e2, h1, ⟨x, r1, e3, e4, ⟨y, r2, e5, e6, e7⟩⟩⟩, h2⟩ => by
    subst e2 e7 e5 e3
    cases e4
    cases e6
    exact ⟨a, vs', e, h1, RepS.of h2⟩
theorem RepS.len {H : Hp} {sd : Side} {vs : List V} (h : RepS H sd vs) : vs.length = sd.length := by
  have := (RepS.rep h).length
  rw [List.length_map] at this
  exact this
theorem RepS.get {H : Hp} : ∀ {sd : Side} {vs : List V} {i : Nat} {v : V}, RepS H sd vs -> vs[i]? = some v -> ∃ p a, sd[i]? = some p /\ v = .ref a /\ H a = some (.tup [.str p.1, .int p.2])
  | [], vs, i, v, h, e => by cases h; simp at e
  | p :: sd, vs, i, v, ⟨a, vs', e1, h1, h2⟩, e => by
    subst e1
    cases i with
    | zero => simp at e; subst e; exact ⟨p, a, rfl, rfl, h1⟩
    | succ i => simp at e; exact RepS.get (i := i) h2 e
theorem RepS.snoc {H : Hp} {p : Str × Int} {a : Addr} (hp : H a = some (.tup [.str p.1, .int p.2])) : ∀ {sd : Side} {vs : List V}, RepS H sd vs -> RepS H (sd ++ [p]) (vs ++ [.ref a])
  | [], vs, h => by cases h; exact ⟨a, [], rfl, hp, rfl⟩
  | q :: sd, vs, ⟨b, vs', e, h1, h2⟩ => by subst e; exact ⟨b, vs' ++ [.ref a], rfl, h1, RepS.snoc hp h2⟩
theorem erase_map {α β : Type} (f : α -> β) : ∀ (l : List α) (i : Nat), (l.map f).eraseIdx i = (l.eraseIdx i).map f
  | [], _ => rfl
  | _ :: _, 0 => rfl
  | a :: l, i + 1 => by show f a :: (l.map f).eraseIdx i = f a :: (l.eraseIdx i).map f; rw [erase_map f l i]
theorem erase_perm {α : Type} : ∀ {l : List α} {i : Nat} (h : i < l.length), (l[i] :: l.eraseIdx i).Perm l
  | a :: l, 0, _ => List.Perm.refl _
  | a :: l, i + 1, h => by
    have h' : i < l.length := by simpa using h
    exact (List.Perm.swap a l[i] (l.eraseIdx i)).trans (List.Perm.cons a (erase_perm h'))
theorem sameX_t {s : Addr} {H H' : Hp} {xs : List V} (h : SameX s H H') (hs : H s = some (.lst xs)) : SameT H H' := fun b ys e => h b _ (fun z => by rw [z, hs] at e; cases e) e
theorem upd_t {l : Addr} {H : Hp} {xs : List V} {o : HO} (hl : H l = some (.lst xs)) : SameT H (upd H l o) := fun b ys e => by
  rw [Zq7 (fun z => by rw [z, hl] at e; cases e)]; exact e
theorem new_t {l : Addr} {H : Hp} {o : HO} (hl : H l = none) : SameT H (upd H l o) := fun b ys e => by rw [Zq7 (Zq16 e hl)]; exact e
theorem SameT.trans {H H1 H2 : Hp} (a : SameT H H1) (b : SameT H1 H2) : SameT H H2 := fun c xs e => b c xs (a c xs e)
structure Drawn (names : List Str) (sd : Side) : Prop where
  mem : ∀ p ∈ sd, p.1 ∈ names
  nd : (sd.map (·.1)).Nodup
  wt : ∀ p ∈ sd, 1 <= p.2 /\ p.2 <= 1000
def spSide : Sp := fun vs H Q _ => ∃ (s la a : Addr) (names : List Str) (n : Int), vs = [.ref s, .ref a, .int n] /\ SrcAt H s la /\ H a = some (.lst (names.map V.str)) /\ a ≠ s /\ names.Nodup /\ 0 <= n /\ names.length <= 1000 /\
  ∀ (l : Addr) (sd : Side) (vs : List V) (H' : Hp), (sd.length : Int) = min n names.length -> Drawn names sd -> H l = none -> H' l = some (.lst vs) -> RepS H' sd vs -> SrcAt H' s la -> SameX s H H' -> Q (.ref l) H'
abbrev Zq48 : Stmt := top 42
theorem Zq162 : FnScope ["_law_src_here", "_law_names_here", "_law_many", "_law_left", "_law_side_here", "_law_k"] ["_law_src_here", "_law_names_here", "_law_many"] (Zq0 Zq48) := ⟨rfl, rfl, rfl, by decide +kernel, rfl, by decide +kernel, by decide +kernel⟩
theorem Nq196 : Nm (Zq0 Zq48) "_law_k" .local := by decide +kernel
theorem Nq78 : Nm (Zq0 Zq48) "_law_left" .local := by decide +kernel
theorem Nq197 : Nm (Zq0 Zq48) "_law_many" .local := by decide +kernel
theorem Nq128 : Nm (Zq0 Zq48) "_law_names_here" .local := by decide +kernel
theorem Nq198 : Nm (Zq0 Zq48) "_law_next" .globalImplicit := by decide +kernel
theorem Nq79 : Nm (Zq0 Zq48) "_law_side_here" .local := by decide +kernel
theorem Nq129 : Nm (Zq0 Zq48) "_law_src_here" .local := by decide +kernel
theorem Nq199 : Nm (Zq0 Zq48) "_law_weight" .globalImplicit := by decide +kernel
theorem Nq130 : Nm (Zq0 Zq48) "len" .globalImplicit := by decide +kernel
theorem Nq200 : Nm (Zq0 Zq48) "list" .globalImplicit := by decide +kernel
theorem Nq201 : Nm (Zq0 Zq48) "min" .globalImplicit := by decide +kernel
theorem Nq202 : Nm (Zq0 Zq48) "range" .globalImplicit := by decide +kernel
theorem Zq299 (Zq219 : Has K mg "_law_side" Zq48) (T : Txt mg) (Zq9 : Fn P w K mg base "_law_next" ["_law_src_here", "_law_base"] 1 Zq116) (Zq274 : Fn P w K mg base "_law_weight" ["_law_src_here"] 2 spWeight) :
    Fn P w K mg base "_law_side" ["_law_src_here", "_law_names_here", "_law_many"] 3 spSide := by
  refine Zq219.fnQ Zq162 (fun _ _ _ _ _ _ us hl => match us, hl with | [_, _, _], _ => rfl) (fun vs H Q E h => ?_) (fun f cdv A outer s H vs Q E hr h => ?_)
  · obtain ⟨s, la, a, names, n, rfl, _⟩ := h
    rfl
  · obtain ⟨s, la, a, names, n, rfl, hsrc, ha, has, hnd, hn0, hnl, k⟩ := h
    refine ⟨_, (Zq4 (Zq12 (i := 3) Zq162.nd Nq78 (qe_callTyN qcall_list_of Nq200 T.list Zq176 (Zq1 (qvN 1 Nq128) Zq2)))
 (Zq4 (Zq12 (i := 4) Zq162.nd Nq79 (Zq83 Zq2))
 (Zq4 (Zq64 PassesOwn.never rfl (Zq140 Nq202.1 T.range (Zq1 (Zq11 (qcall_min2 (by rfl)) Nq201 T.min b_min (Zq1 (qvN 2 Nq197) (Zq1 (Zq11 Zq13 Nq130 T.len Zq39 (Zq1 (qvN 1 Nq128) Zq2)) Zq2))) Zq2)) (Zq27 (i := 5) Zq162.nd Nq196)
  (Zq6 (Zq132 (Zq147 F.plainAttrs_list F.slot_list_append F.type_list_append Zq108 (qvN 4 Nq79) (Zq1 (Zq70 (Zq1 (Zq147 F.plainAttrs_list F.slot_list_pop F.type_list_pop qmt_popAt (qvN 3 Nq78) (Zq1 (Zq8 Zq9 (hr.mono (by omega)) Nq198 (Zq1 (qvN 0 Nq129) (Zq1 (Zq11 Zq13 Nq130 T.len Zq39 (Zq1 (qvN 3 Nq78) Zq2)) Zq2))) Zq2)) (Zq1 (Zq8 Zq274 (hr.mono (by omega)) Nq199 (Zq1 (qvN 0 Nq129) Zq2)) Zq2))) Zq2)))))
 (Zq6 (Zq14 (qvN 4 Nq79)))))), ?_⟩
    have hz : (2000 : Nat) <= sizeLine := by decide
    refine ⟨_, rfl, a, _, rfl, .inl (SqL.of ha), fun lf hlf => ?_⟩
    refine ⟨by show 0 <= sizeLine; omega, fun l hl => ?_⟩
    have nfl : lf ≠ l := fun z => by rw [← z, Zq3] at hl; cases hl
    have sm0 : Same H (upd (upd H lf (.lst (names.map V.str))) l (.lst [])) := (Same.new hlf).trans (Same.new hl)
    have hlH : H l = none := (Same.new hlf).free hl
    obtain ⟨n1, n2⟩ := hsrc.ne hlf
    obtain ⟨n3, n4⟩ := hsrc.ne hlH
    have ea : (upd (upd H lf (.lst (names.map V.str))) l (.lst [])) a = some (.lst (names.map V.str)) := sm0 _ _ ha
    refine ⟨_, rfl, _, rfl, a, _, rfl, .inl (SqL.of ea), n, _, rfl, _, rfl, ?_, ?_, ?_⟩
    · split <;> omega
    · rw [List.length_map]; split <;> omega
    have em : (if ((names.map V.str).length : Int) < n then ((names.map V.str).length : Int) else n) = min n names.length := by rw [List.length_map]; split <;> omega
    refine forW_range (min n names.length).toNat (by rw [em]) (fun i σ H' => ∃ (sd : Side) (vs : List V) (left : List Str) (v : Option V), σ = [some (.ref s), some (.ref a), some (.int n), some (.ref lf), some (.ref l), v] /\ sd.length = i /\ left.length + i = names.length /\ (sd.map (·.1) ++ left).Perm names /\ (∀ p ∈ sd, 1 <= p.2 /\ p.2 <= 1000) /\
        H' l = some (.lst vs) /\ RepS H' sd vs /\ H' lf = some (.lst (left.map V.str)) /\ SrcAt H' s la /\ SameX s H H')
      ⟨[], [], names, none, rfl, rfl, rfl, List.Perm.refl _, (fun _ z => nomatch z), Zq3, rfl, by rw [Zq7 nfl, Zq3], hsrc.keep sm0, sm0.x⟩ ?_ ?_
    · rintro i σ H' hi ⟨sd, vs, left, v, rfl, hsd, hleft, hperm, hwt, hl', hrep, hlf', hs', sx'⟩
      have hll : 0 < left.length := by omega
      refine ⟨_, rfl, .inl ⟨rfl, _, SqL.of hl'⟩, _, rfl, .inl ⟨rfl, _, SqL.of hlf'⟩, _, rfl, _, rfl, lf, _, rfl, .inl (SqL.of hlf'), s, la, _, rfl, hs', by rw [List.length_map]; omega, by rw [List.length_map]; omega, fun d H1 d0 d1 hs1 sx1 => ?_⟩
      rw [List.length_map] at d1
      obtain ⟨j, rfl⟩ := Int.eq_ofNat_of_zero_le d0
      have hj : j < left.length := by omega
      have hlf1 := sx1 lf _ n1 hlf'
      have hl1 := sx1 l _ n3 hl'
      obtain ⟨ns0, i0, b0, st0, c0, hs0, _⟩ := id hs'
      have t1 : SameT H' H1 := sameX_t sx1 hs0
      refine ⟨lf, _, _, j, .str left[j], rfl, rfl, hlf1, by omega, by omega, seqIndex_of (by omega) (by rw [List.length_map]; omega), by rw [List.getElem?_map, List.getElem?_eq_getElem hj]; rfl, ?_⟩
      have em2 : ((left.map V.str).eraseIdx j) = (left.eraseIdx j).map V.str := erase_map _ _ _
      rw [em2]
      have hs2 : SrcAt (upd H1 lf (.lst ((left.eraseIdx j).map V.str))) s la := hs1.keepX SameX.upd n1 n2
      refine ⟨_, rfl, s, la, rfl, hs2, fun wt H3 w0 w1 hs3 sx3 => ?_⟩
      have hl2 : upd H1 lf (.lst ((left.eraseIdx j).map V.str)) l = some (.lst vs) := by rw [Zq7 nfl.symm]; exact hl1
      have hl3 := sx3 l _ n3 hl2
      have hlf3 := sx3 lf _ n1 Zq3
      obtain ⟨ns2, i2, b2, st2, c2, hs20, _⟩ := id hs2
      have t3 : SameT H' H3 := (t1.trans (upd_t hlf1)).trans (sameX_t sx3 hs20)
      refine ⟨by show 2 <= sizeLine; omega, fun p hp => ?_⟩
      have npl : p ≠ l := fun z => by rw [z, hl3] at hp; cases hp
      have npf : p ≠ lf := fun z => by rw [z, hlf3] at hp; cases hp
      obtain ⟨m3, m4⟩ := hs3.ne hp
      refine ⟨l, vs, .ref p, rfl, rfl, by rw [Zq7 npl.symm]; exact hl3, by rw [hrep.len]; omega, ?_⟩
      have t4 : SameT H3 (upd (upd H3 p (.tup [.str left[j], .int wt])) l (.lst (vs ++ [.ref p]))) := (new_t hp).trans (upd_t (by rw [Zq7 npl.symm]; exact hl3))
      refine ⟨sd ++ [(left[j], wt)], vs ++ [.ref p], left.eraseIdx j, _, rfl, by rw [List.length_append, hsd]; rfl, ?_, ?_, fun q hq => ?_, Zq3, ?_, ?_, ?_, ?_⟩
      · rw [List.length_eraseIdx_of_lt hj]; omega
      · rw [List.map_append, List.append_assoc]
        refine List.Perm.trans (List.Perm.append_left _ ?_) hperm
        exact erase_perm hj
      · rcases List.mem_append.mp hq with z | z
        · exact hwt q z
        · have : q = (left[j], wt) := by simpa using z
          rw [this]; exact ⟨w0, w1⟩
      · refine RepS.snoc (p := (left[j], wt)) ?_ (hrep.mono (t3.trans t4))
        rw [Zq7 npl, Zq3]
      · rw [Zq7 nfl, Zq7 npf.symm]; exact hlf3
      · exact (hs3.keep (Same.new hp)).keepX SameX.upd n3 n4
      · intro b o hb e
        have b1 : b ≠ lf := fun z => by rw [z, hlf] at e; cases e
        have b2 : b ≠ l := fun z => by rw [z, hlH] at e; cases e
        have e1 := sx1 b o hb (sx' b o hb e)
        have e2 : upd H1 lf (.lst ((left.eraseIdx j).map V.str)) b = some o := by rw [Zq7 b1]; exact e1
        have e3 := sx3 b o hb e2
        rw [Zq7 b2, Zq7 (Zq16 e3 hp)]
        exact e3
    · rintro σ H' ⟨sd, vs, left, v, rfl, hsd, hleft, hperm, hwt, hl', hrep, hlf', hs', sx'⟩
      refine ⟨_, rfl, k l sd vs H' (by omega) ⟨fun p hp => ?_, ?_, hwt⟩ hlH hl' hrep hs' sx'⟩
      · exact hperm.subset (List.mem_append_left _ (List.mem_map.mpr ⟨p, hp, rfl⟩))
      · exact (List.nodup_append.mp (hperm.symm.nodup hnd)).1
end
section
variable {P : Program} {w : World} {K : PySem.W.Frag} {mg : Str -> Option Value} {base : Heap}
def wts (sd : Side) : List Int := sd.map (·.2)
def Light (sd : Side) : Prop := (∀ p ∈ sd, 1 <= p.2 /\ p.2 <= 1000) /\ sd.length <= 60
theorem Light.bnd {sd : Side} (h : Light sd) : ∀ n ∈ wts sd, -1000000000 <= n /\ n <= 1000000000 := fun n hn => by
  obtain ⟨p, hp, rfl⟩ := List.mem_map.mp hn
  have := h.1 p hp
  show -1000000000 <= p.2 /\ p.2 <= 1000000000
  omega
theorem wts_get {sd : Side} {i : Nat} {p : Str × Int} (h : sd[i]? = some p) : (wts sd)[i]? = some p.2 := by unfold wts; rw [List.getElem?_map, h]; rfl
theorem sum_take_snoc {l : List Int} {i : Nat} {a : Int} (h : l[i]? = some a) : (l.take (i + 1)).sum = (l.take i).sum + a := by
  rw [List.take_add_one, h, List.sum_append]
  simp
def SideAt (H : Hp) (sd : Side) (v : V) : Prop := ∃ a vs, v = .ref a /\ H a = some (.lst vs) /\ RepS H sd vs
theorem SideAt.rep {H : Hp} {sd : Side} {v : V} (h : SideAt H sd v) : Rep H (Zq233 sd) v := let ⟨a, vs, e, h1, h2⟩ := h; ⟨a, vs, e, h1, h2.rep⟩
theorem Same.t {H H' : Hp} (h : Same H H') : SameT H H' := fun b xs e => h b _ e
theorem SideAt.mono {H H' : Hp} {sd : Side} {v : V} (h : SideAt H sd v) (k : Same H H') : SideAt H' sd v := let ⟨a, vs, e, h1, h2⟩ := h; ⟨a, vs, e, k _ _ h1, h2.mono fun b xs e => k b _ e⟩
def spLTotal : Sp := fun vs H Q _ => ∃ (v : V) (sd : Side), vs = [v] /\ SideAt H sd v /\ Q (.int (wts sd).sum) H
abbrev Zq114 : Stmt := top 41
theorem Zq129 : FnScope ["_law_side_here", "_law_found", "_law_name", "_law_weight_here"] ["_law_side_here"] (Zq0 Zq114) := ⟨rfl, rfl, rfl, by decide +kernel, rfl, by decide +kernel, by decide +kernel⟩
theorem Nq43 : Nm (Zq0 Zq114) "_law_found" .local := by decide +kernel
theorem Nq203 : Nm (Zq0 Zq114) "_law_name" .local := by decide +kernel
theorem Nq204 : Nm (Zq0 Zq114) "_law_side_here" .local := by decide +kernel
theorem Nq131 : Nm (Zq0 Zq114) "_law_weight_here" .local := by decide +kernel
theorem Zq283 (Zq202 : Has K mg "_law_total" Zq114) (T : Txt mg) : Fn P w K mg base "_law_total" ["_law_side_here"] 1 spLTotal := by
  refine Zq202.fnQ Zq129 (fun _ _ _ _ _ _ us hl => match us, hl with | [_], _ => rfl) (fun vs H Q E h => ?_) (fun f cdv A outer s H vs Q E hr h => ?_)
  · obtain ⟨v, sd, rfl, _⟩ := h
    rfl
  · obtain ⟨v, sd, rfl, ⟨a, vs, rfl, ha, hr⟩, k⟩ := h
    refine ⟨_, (Zq4 (Zq12 (i := 1) Zq129.nd Nq43 Zq5)
 (Zq4 (Zq64 PassesOwn.never rfl (Zq28 (qvN 0 Nq204)) (qg_tup (by rfl) (Zq22 (Zq27 (i := 2) Zq129.nd Nq203) (Zq22 (Zq27 (i := 3) Zq129.nd Nq131) Zq69)))
  (Zq6 (Zq12 (i := 1) Zq129.nd Nq43 (Zq18 Zq32 (qvN 1 Nq43) (qvN 3 Nq131)))))
 (Zq6 (Zq14 (qvN 1 Nq43))))), ?_⟩
    refine ⟨_, rfl, a, rfl, ⟨_, SqL.of ha⟩, ?_⟩
    refine Zq71 vs (fun i σ H' => H' = H /\ ∃ v2 v3, σ = [some (.ref a), some (.int ((wts sd).take i).sum), v2, v3]) ⟨rfl, none, none, rfl⟩ (fun i σ H' _ ⟨e, _⟩ => by rw [e]; exact SqL.of ha) ?_ ?_
    · rintro i x σ H' hx ⟨rfl, v2, v3, rfl⟩
      obtain ⟨p, b, hp, rfl, hb⟩ := hr.get hx
      refine ⟨b, _, rfl, SqT.of hb, rfl, _, _, rfl, _, _, rfl, rfl, ?_⟩
      refine ⟨_, rfl, _, rfl, _, _, rfl, rfl, rfl, some (.str p.1), some (.int p.2), ?_⟩
      rw [sum_take_snoc (wts_get hp)]
      rfl
    · rintro σ H' ⟨rfl, v2, v3, rfl⟩
      refine ⟨_, rfl, ?_⟩
      rw [hr.len] at *
      have e : (wts sd).take sd.length = wts sd := List.take_of_length_le (by unfold wts; rw [List.length_map]; omega)
      rw [e]
      exact k
end
section
variable {P : Program} {w : World} {K : PySem.W.Frag} {mg : Str -> Option Value} {base : Heap}
def spTotal : Sp := fun vs H Q _ => ∃ (v : V) (sd : Side), vs = [v] /\ SideAt H sd v /\ Light sd /\ ∀ H', Same H H' -> Q (.int (wts sd).sum) H'
theorem comp_wts {H : Hp} {sd : Side} {a : Addr} {vs : List V} {fv : St} {Q : VK} (ha : H a = some (.lst vs)) (hr : RepS H sd vs) (hl : sd.length <= 60)
    (hd : ∀ l, H l = none -> Q (.ref l) (upd H l (.lst ((wts sd).map V.int)))) :
    Zq175 (Itl K a) 2 fv (gTup K 2 (gCons (Zq88 0) (gCons (Zq88 1) gNil))) (fun _ H Q => Q true H) (tVar 1) Q H := by
  have hlen := hr.len
  refine Zq61 (xs := vs) (fun i ys H' => H' = H /\ ys = ((wts sd).take i).map V.int) ⟨rfl, rfl⟩ (by omega) (fun i ys H' _ ⟨e, _⟩ => by rw [e]; exact SqL.of ha) ?_ ?_ ?_
  · rintro i ys H' ⟨_, rfl⟩
    rw [List.length_map, List.length_take]; omega
  · rintro i x ys H' hx ⟨rfl, rfl⟩ ls hls
    obtain ⟨u, v, rfl⟩ := len2 hls
    obtain ⟨p, b, hp, rfl, hb⟩ := hr.get hx
    refine ⟨b, _, rfl, SqT.of hb, rfl, _, _, rfl, _, _, rfl, rfl, ⟨[_, _], rfl, rfl⟩, iteT ?_⟩
    refine ⟨_, rfl, rfl, ?_⟩
    rw [List.take_add_one, wts_get hp, List.map_append]
    rfl
  · rintro ys H' ⟨rfl, rfl⟩ l hl'
    have e : (wts sd).take vs.length = wts sd := List.take_of_length_le (by unfold wts; rw [List.length_map]; omega)
    rw [e]
    exact hd l hl'
abbrev Zq230 : Stmt := top 2
theorem Zq330 : FnScope ["side"] ["side"] (Zq0 Zq230) := ⟨rfl, rfl, rfl, by decide +kernel, rfl, by decide +kernel, by decide +kernel⟩
theorem Nq205 : Nm (Zq0 Zq230) "side" .local := by decide +kernel
theorem Nq206 : Nm (Zq0 Zq230) "sum" .globalImplicit := by decide +kernel
theorem Zq334 (Zq261 : Has K mg "total" Zq230) (T : Txt mg) : Fn P w K mg base "total" ["side"] 1 spTotal := by
  refine Zq261.fnQ Zq330 (fun _ _ _ _ _ _ us hl => match us, hl with | [_], _ => rfl) (fun vs H Q E h => ?_) (fun f cdv A outer s H vs Q E hr h => ?_)
  · obtain ⟨v, sd, rfl, _⟩ := h
    rfl
  · obtain ⟨v, sd, rfl, ⟨a, vs, rfl, ha, hr⟩, hL, k⟩ := h
    refine ⟨_, (Zq6 (Zq14 (Zq11 (qcall_sum (by rfl)) Nq206 T.sum b_sum (Zq1 (Zq92 (locs := ["name", "weight"]) (fr := []) ⟨rfl, by decide +kernel, by decide +kernel, by decide +kernel, by decide +kernel, by decide +kernel⟩ .nil rfl (Zq28 (qvN 0 Nq205)) ⟨fun _ _ _ _ _ _ => by
    have cnd : (inN ["name", "weight"] []).Nodup := by decide +kernel
    exact ⟨(Zq106 2 (by rfl) (Zq22 (qgLN 0 cnd) (Zq22 (qgLN 1 cnd) Zq69))), Zq90, (qvLN 1)⟩⟩) Zq2)))), ?_⟩
    refine ⟨_, rfl, a, rfl, ⟨_, SqL.of ha⟩, ?_⟩
    refine comp_wts ha hr hL.2 fun l hl => ?_
    exact ⟨l, wts sd, rfl, SqL.of Zq3, hL.bnd, by unfold wts; rw [List.length_map]; have := hL.2; omega, k _ (Same.new hl)⟩
end
section
variable {P : Program} {w : World} {K : PySem.W.Frag} {mg : Str -> Option Value} {base : Heap}
theorem SideAt.monoX {s : Addr} {H H' : Hp} {sd : Side} {v : V} {xs : List V} (hs : H s = some (.lst xs)) (h : SideAt H sd v) (hv : v ≠ .ref s) (k : SameX s H H') : SideAt H' sd v :=
  let ⟨a, vs, e, h1, h2⟩ := h
  ⟨a, vs, e, k a _ (fun z => hv (by rw [e, z])) h1, h2.mono (sameX_t k hs)⟩
def spNeed : Sp := fun vs H Q _ => ∃ (s la : Addr) (u v : V) (a b : Side), vs = [.ref s, u, v] /\ SrcAt H s la /\ SideAt H a u /\ SideAt H b v /\
  ∀ (d : Int) (H' : Hp), 1 <= d -> d <= 12000 -> SrcAt H' s la -> SameX s H H' -> Q (.int d) H'
abbrev Zq77 : Stmt := top 43
theorem Zq203 : FnScope ["_law_src_here", "_law_ones", "_law_others", "_law_close"] ["_law_src_here", "_law_ones", "_law_others"] (Zq0 Zq77) := ⟨rfl, rfl, rfl, by decide +kernel, rfl, by decide +kernel, by decide +kernel⟩
theorem Nq80 : Nm (Zq0 Zq77) "_law_close" .local := by decide +kernel
theorem Nq81 : Nm (Zq0 Zq77) "_law_next" .globalImplicit := by decide +kernel
theorem Nq207 : Nm (Zq0 Zq77) "_law_ones" .local := by decide +kernel
theorem Nq208 : Nm (Zq0 Zq77) "_law_others" .local := by decide +kernel
theorem Nq82 : Nm (Zq0 Zq77) "_law_src_here" .local := by decide +kernel
theorem Nq132 : Nm (Zq0 Zq77) "_law_total" .globalImplicit := by decide +kernel
theorem Nq209 : Nm (Zq0 Zq77) "max" .globalImplicit := by decide +kernel
theorem Nq210 : Nm (Zq0 Zq77) "min" .globalImplicit := by decide +kernel
theorem Zq300 (Zq220 : Has K mg "_law_need" Zq77) (T : Txt mg) (Zq9 : Fn P w K mg base "_law_next" ["_law_src_here", "_law_base"] 1 Zq116) (Zq101 : Fn P w K mg base "_law_total" ["_law_side_here"] 1 spLTotal) :
    Fn P w K mg base "_law_need" ["_law_src_here", "_law_ones", "_law_others"] 2 spNeed := by
  refine Zq220.fnQ Zq203 (fun _ _ _ _ _ _ us hl => match us, hl with | [_, _, _], _ => rfl) (fun vs H Q E h => ?_) (fun f cdv A outer s H vs Q E hr h => ?_)
  · obtain ⟨s, la, u, v, a, b, rfl, _⟩ := h
    rfl
  · obtain ⟨s, la, u, v, a, b, rfl, hsrc, hu, hv, k⟩ := h
    refine ⟨_, (Zq4 (Zq12 (i := 3) Zq203.nd Nq80 (Zq18 Zq32 (Zq18 Zq105 (Zq18 Zq105 (Zq8 Zq101 (hr.mono (by omega)) Nq132 (Zq1 (qvN 1 Nq207) Zq2)) (Zq8 Zq101 (hr.mono (by omega)) Nq132 (Zq1 (qvN 2 Nq208) Zq2))) Zq5) (Zq8 Zq9 (hr.mono (by omega)) Nq81 (Zq1 (qvN 0 Nq82) (Zq1 Zq5 Zq2)))))
 (Zq4 (Zq23 (Zq15 Zq43 (Zq8 Zq9 (hr.mono (by omega)) Nq81 (Zq1 (qvN 0 Nq82) (Zq1 Zq5 Zq2))) Zq5 (Zq19 _)) (Zq6 (Zq12 (i := 3) Zq203.nd Nq80 (Zq18 Zq32 Zq5 (Zq8 Zq9 (hr.mono (by omega)) Nq81 (Zq1 (qvN 0 Nq82) (Zq1 Zq5 Zq2)))))) Zq20)
 (Zq6 (Zq14 (Zq11 (qcall_max2 (by rfl)) Nq209 T.max b_max (Zq1 Zq5 (Zq1 (Zq11 (qcall_min2 (by rfl)) Nq210 T.min b_min (Zq1 Zq5 (Zq1 (qvN 3 Nq80) Zq2))) Zq2))))))), ?_⟩
    refine ⟨_, rfl, u, a, rfl, hu, _, rfl, v, b, rfl, hv, _, _, rfl, rfl, _, _, rfl, rfl, _, rfl, s, la, 6, rfl, hsrc, by decide, by decide, fun d0 H1 _ _ hs1 sx1 => ?_⟩
    refine ⟨_, _, rfl, rfl, ?_⟩
    refine gset ?_
    dsimp only
    refine Zq170 (fun σ H' => ∃ m : Int, SrcAt H' s la /\ SameX s H H' /\ σ = [some (.ref s), some u, some v, some (.int m)]) ?_ ?_
    · rintro σ H' ⟨m, hs', sx', rfl⟩
      refine ⟨_, rfl, _, _, rfl, _, _, rfl, k _ H' ?_ ?_ hs' sx'⟩
      · split <;> split <;> omega
      · split <;> split <;> omega
    · intro D' hn _ _ _
      refine ⟨_, rfl, s, la, 4, rfl, hs1, by decide, by decide, fun d1 H2 _ _ hs2 sx2 => ?_⟩
      refine ⟨rfl, _, rfl, iteD (fun _ => ?_) (fun _ => ?_)⟩
      · exact ⟨_, rfl, s, la, 30, rfl, hs2, by decide, by decide, fun d2 H3 _ _ hs3 sx3 => ⟨_, _, rfl, rfl, hn _ _ ⟨_, hs3, (sx1.trans sx2).trans sx3, rfl⟩⟩⟩
      · exact hn _ _ ⟨_, hs2, sx1.trans sx2, rfl⟩
def off (ms : List Addr) (H : Hp) : Hp := fun b => if b ∈ ms then none else H b
theorem Zq163 {ms : List Addr} {H : Hp} : Same (off ms H) H := fun b o e => by
  unfold off at e
  split at e
  · cases e
  · exact e
theorem Zq49 {ms : List Addr} {H H' : Hp} (h : ∀ b o, b ∉ ms -> H b = some o -> H' b = some o) : Same (off ms H) (off ms H') := fun b o e => by
  unfold off at e ⊢
  split at e
  · cases e
  · rename_i n
    rw [if_neg n]
    exact h b o n e
theorem Zq47 {ms : List Addr} {H : Hp} {b : Addr} {o : HO} (n : b ∉ ms) (h : H b = some o) : off ms H b = some o := by unfold off; rw [if_neg n]; exact h
theorem off_of {ms : List Addr} {H : Hp} {b : Addr} {o : HO} (h : off ms H b = some o) : b ∉ ms /\ H b = some o := by
  unfold off at h
  split at h
  · cases h
  · rename_i n
    exact ⟨n, h⟩
structure Suit where
  ones : Side
  others : Side
  need : Int
  named : Option (Int × Str)
def Zq152 : Option (Int × Str) -> D
  | none => .non
  | some (c, n) => .tup [.int c, .str n]
def Zq86 (t : Suit) : D := .tup [Zq233 t.ones, Zq233 t.others, .int t.need, Zq152 t.named]
theorem SideAt.of {H : Hp} {sd : Side} {v : V} (h : Rep H (Zq233 sd) v) : SideAt H sd v := by
  obtain ⟨a, vs, e, h1, h2⟩ := h
  exact ⟨a, vs, e, h1, RepS.of h2⟩
theorem suit_inv {H : Hp} {t : Suit} {v : V} (h : Rep H (Zq86 t) v) : ∃ a u1 u2 u4, v = .ref a /\ H a = some (.tup [u1, u2, .int t.need, u4]) /\ SideAt H t.ones u1 /\ SideAt H t.others u2 /\ Rep H (Zq152 t.named) u4 := by
  obtain ⟨a, vs, e, h1, ⟨u1, r1, rfl, a1, ⟨u2, r2, rfl, a2, ⟨u3, r3, rfl, a3, ⟨u4, r4, rfl, a4, a5⟩⟩⟩⟩⟩ := h
  cases a3
  cases a5
  exact ⟨a, u1, u2, u4, e, h1, .of a1, .of a2, a4⟩
theorem suit_mk {H : Hp} {t : Suit} {a : Addr} {u1 u2 u4 : V} (h1 : H a = some (.tup [u1, u2, .int t.need, u4])) (a1 : SideAt H t.ones u1) (a2 : SideAt H t.others u2) (a4 : Rep H (Zq152 t.named) u4) : Rep H (Zq86 t) (.ref a) :=
  ⟨a, _, rfl, h1, ⟨u1, _, rfl, a1.rep, ⟨u2, _, rfl, a2.rep, ⟨.int t.need, _, rfl, rfl, ⟨u4, _, rfl, a4, rfl⟩⟩⟩⟩⟩
theorem RepS.app {H : Hp} {b : Side} {ws : List V} (hb : RepS H b ws) : ∀ {a : Side} {vs : List V}, RepS H a vs -> RepS H (a ++ b) (vs ++ ws)
  | [], vs, h => by cases h; exact hb
  | p :: a, vs, ⟨c, vs', e, h1, h2⟩ => by subst e; exact ⟨c, vs' ++ ws, rfl, h1, RepS.app hb h2⟩
theorem comp_nms {H : Hp} {sd : Side} {a : Addr} {vs : List V} {fv : St} {Q : VK} (ha : H a = some (.lst vs)) (hr : RepS H sd vs) (hl : sd.length <= 1000)
    (hd : ∀ l, H l = none -> Q (.ref l) (upd H l (.lst ((sd.map (·.1)).map V.str)))) :
    Zq175 (Itl K a) 2 fv (gTup K 2 (gCons (Zq88 0) (gCons (Zq88 1) gNil))) (fun _ H Q => Q true H) (tVar 0) Q H := by
  have hlen := hr.len
  refine Zq61 (xs := vs) (fun i ys H' => H' = H /\ ys = ((sd.map (·.1)).take i).map V.str) ⟨rfl, rfl⟩ (by omega) (fun i ys H' _ ⟨e, _⟩ => by rw [e]; exact SqL.of ha) ?_ ?_ ?_
  · rintro i ys H' ⟨_, rfl⟩
    rw [List.length_map, List.length_take]; omega
  · rintro i x ys H' hx ⟨rfl, rfl⟩ ls hls
    obtain ⟨u, v, rfl⟩ := len2 hls
    obtain ⟨p, b, hp, rfl, hb⟩ := hr.get hx
    refine ⟨b, _, rfl, SqT.of hb, rfl, _, _, rfl, _, _, rfl, rfl, ⟨[_, _], rfl, rfl⟩, iteT ?_⟩
    refine ⟨_, rfl, rfl, ?_⟩
    have e : (sd.map (·.1))[i]? = some p.1 := by rw [List.getElem?_map, hp]; rfl
    rw [List.take_add_one, e, List.map_append]
    rfl
  · rintro ys H' ⟨rfl, rfl⟩ l hl'
    have e : (sd.map (·.1)).take vs.length = sd.map (·.1) := List.take_of_length_le (by rw [List.length_map]; omega)
    rw [e]
    exact hd l hl'
def NamedOk (ss : List Suit) (nm : Option (Int × Str)) : Prop := ∀ c n, nm = some (c, n) -> 0 <= c /\ ∃ t wt, ss[c.toNat]? = some t /\ (n, wt) ∈ t.ones ++ t.others
def Zq96 (t : Suit) : Prop := Light t.ones /\ Light t.others /\ 1 <= t.need /\ t.need <= 12000
def spNamed : Sp := fun vs H Q _ => ∃ (s la l : Addr) (us : List V) (ss : List Suit), vs = [.ref s, .ref l] /\ SrcAt H s la /\ H l = some (.lst us) /\ l ≠ s /\ RepL (off [s] H) (ss.map Zq86) us /\ ss.length <= 1000 /\ (∀ t ∈ ss, Zq96 t) /\
  ∀ (nm : Option (Int × Str)) (v : V) (H' : Hp), NamedOk ss nm -> Rep (off [s, l] H') (Zq152 nm) v -> SrcAt H' s la -> SameX s H H' -> Q v H'
abbrev Zq74 : Stmt := top 44
theorem Zq130 : FnScope ["_law_src_here", "_law_suits_here", "_law_number", "_law_case", "_law_swearers"] ["_law_src_here", "_law_suits_here"] (Zq0 Zq74) := ⟨rfl, rfl, rfl, by decide +kernel, rfl, by decide +kernel, by decide +kernel⟩
theorem Nq30 : Nm (Zq0 Zq74) "_law_case" .local := by decide +kernel
theorem Nq44 : Nm (Zq0 Zq74) "_law_next" .globalImplicit := by decide +kernel
theorem Nq45 : Nm (Zq0 Zq74) "_law_number" .local := by decide +kernel
theorem Nq46 : Nm (Zq0 Zq74) "_law_src_here" .local := by decide +kernel
theorem Nq83 : Nm (Zq0 Zq74) "_law_suits_here" .local := by decide +kernel
theorem Nq47 : Nm (Zq0 Zq74) "_law_swearers" .local := by decide +kernel
theorem Nq84 : Nm (Zq0 Zq74) "len" .globalImplicit := by decide +kernel
theorem Zq284 (Zq204 : Has K mg "_law_named" Zq74) (T : Txt mg) (Zq9 : Fn P w K mg base "_law_next" ["_law_src_here", "_law_base"] 1 Zq116) :
    Fn P w K mg base "_law_named" ["_law_src_here", "_law_suits_here"] 2 spNamed := by
  refine Zq204.fnQ Zq130 (fun _ _ _ _ _ _ us hl => match us, hl with | [_, _], _ => rfl) (fun vs H Q E h => ?_) (fun f cdv A outer s H vs Q E hr h => ?_)
  · obtain ⟨s, la, l, us, ss, rfl, _⟩ := h
    rfl
  · obtain ⟨s, la, l, us, ss, rfl, hsrc, hl, hls, hrep, hlen, hok, k⟩ := h
    refine ⟨_, (Zq4 (Zq12 (i := 2) Zq130.nd Nq45 (Zq11 Zq13 Nq84 T.len Zq39 (Zq1 (qvN 1 Nq83) Zq2)))
 (Zq4 (Zq23 (QW.pt (Zq214 (Zq15 Zq43 (qvN 2 Nq45) Zq5 (Zq19 _)) (Zq197 (Zq15 Zq43 (Zq8 Zq9 (hr.mono (by omega)) Nq44 (Zq1 (qvN 0 Nq46) (Zq1 Zq5 Zq2))) Zq5 (Zq19 _))))) (Zq6 (Zq14 Zq178)) Zq20)
 (Zq4 (Zq12 (i := 3) Zq130.nd Nq30 (Zq8 Zq9 (hr.mono (by omega)) Nq44 (Zq1 (qvN 0 Nq46) (Zq1 (qvN 2 Nq45) Zq2))))
 (Zq4 (Zq23 (Zq15 Zq43 (Zq8 Zq9 (hr.mono (by omega)) Nq44 (Zq1 (qvN 0 Nq46) (Zq1 Zq5 Zq2))) Zq5 (Zq19 _)) (Zq6 (Zq12 (i := 3) Zq130.nd Nq30 (Zq18 Zq105 (qvN 2 Nq45) Zq5))) Zq20)
 (Zq4 (Zq133 (locs := ["_law_name", "_law_weight_here"]) (fr := []) ⟨rfl, by decide +kernel, by decide +kernel, by decide +kernel, by decide +kernel, by decide +kernel⟩ .nil rfl (Zq28 (Zq18 Zq89 (Zq10 Zq17 (Zq10 Zq21 (qvN 1 Nq83) (qvN 3 Nq30) (fun _ _ => rfl)) Zq5 (fun _ _ => rfl)) (Zq10 Zq17 (Zq10 Zq21 (qvN 1 Nq83) (qvN 3 Nq30) (fun _ _ => rfl)) Zq5 (fun _ _ => rfl)))) ⟨fun _ _ _ _ _ _ => by
    have cnd : (inN ["_law_name", "_law_weight_here"] []).Nodup := by decide +kernel
    exact ⟨(Zq106 2 (by rfl) (Zq22 (qgLN 0 cnd) (Zq22 (qgLN 1 cnd) Zq69))), Zq90, (qvLN 0)⟩⟩ Zq130.nd Nq47 (by rfl) (i := 4))
 (Zq4 (Zq23 (Zq15 Zq43 (Zq11 Zq13 Nq84 T.len Zq39 (Zq1 (qvN 4 Nq47) Zq2)) Zq5 (Zq19 _)) (Zq6 (Zq14 Zq178)) Zq20)
 (Zq6 (Zq14 (Zq70 (Zq1 (qvN 3 Nq30) (Zq1 (Zq10 Zq21 (qvN 4 Nq47) (Zq8 Zq9 (hr.mono (by omega)) Nq44 (Zq1 (qvN 0 Nq46) (Zq1 (Zq11 Zq13 Nq84 T.len Zq39 (Zq1 (qvN 4 Nq47) Zq2)) Zq2))) (fun _ _ => rfl)) Zq2))))))))))), ?_⟩
    have hz : (2000 : Nat) <= sizeLine := by decide
    have hul : us.length = ss.length := by have := hrep.length; rw [List.length_map] at this; exact this
    have knone : ∀ H', SrcAt H' s la -> SameX s H H' -> _ := fun H' a b => k none .non H' (fun _ _ e => nomatch e) rfl a b
    refine ⟨_, rfl, l, us, rfl, .inl (SqL.of hl), ?_⟩
    refine ⟨_, rfl, rfl, _, rfl, iteD (fun _ => ?_) (fun h0 => ?_)⟩
    · exact iteT (knone H hsrc SameX.refl)
    have hul0 : 0 < us.length := by
      rcases Nat.eq_zero_or_pos us.length with z | z
      · exact absurd (by rw [z]; rfl) h0
      · exact z
    refine ⟨_, rfl, s, la, 5, rfl, hsrc, by decide, by decide, fun d1 H1 _ _ hs1 sx1 => ?_⟩
    refine ⟨rfl, _, rfl, iteD (fun _ => knone H1 hs1 sx1) (fun _ => ?_)⟩
    refine ⟨_, rfl, _, rfl, s, la, us.length, rfl, hs1, by omega, by omega, fun d2 H2 a2 b2 hs2 sx2 => ?_⟩
    refine gset ?_
    dsimp only
    refine Zq170 (fun σ H' => ∃ c : Nat, c < us.length /\ SrcAt H' s la /\ SameX s H H' /\ σ = [some (.ref s), some (.ref l), some (.int us.length), some (.int c), none]) ?_ ?_
    · rintro σ H' ⟨c, hc, hs', sx', rfl⟩
      have hl' : H' l = some (.lst us) := sx' l _ hls hl
      have hrep' : RepL H' (ss.map Zq86) us := (hrep.mono' (Zq49 (H' := H') fun b o n e => sx' b o (fun z => n (by rw [z]; exact List.mem_singleton.mpr rfl)) e)).mono' Zq163
      have hcv : us[c]? = some us[c] := List.getElem?_eq_getElem hc
      obtain ⟨d, hd, hrd⟩ := hrep'.get hcv
      rw [List.getElem?_map] at hd
      obtain ⟨t, ht⟩ : ∃ t, ss[c]? = some t := by cases e : ss[c]? with | none => rw [e] at hd; cases hd | some t => exact ⟨t, rfl⟩
      rw [ht] at hd
      cases hd
      obtain ⟨ta, u1, u2, u4, eu, hta, ⟨b1, v1, rfl, hb1, hr1⟩, ⟨b2, v2, rfl, hb2, hr2⟩, _⟩ := suit_inv hrd
      rw [eu] at hcv
      have htm : t ∈ ss := List.mem_of_getElem? ht
      obtain ⟨L1, L2', _, _⟩ := hok t htm
      have z1 := hr1.len
      have z2 := hr2.len
      have w1 := L1.2
      have w2 := L2'.2
      refine ⟨_, rfl, _, rfl, l, us, c, .ref ta, rfl, rfl, SqL.of hl', Zq40 hcv, ta, _, 0, .ref b1, rfl, rfl, SqT.of hta, rfl, _, rfl, _, rfl, l, us, c, .ref ta, rfl, rfl, SqL.of hl', Zq40 hcv, ta, _, 1, .ref b2, rfl, rfl, SqT.of hta, rfl, ?_⟩
      refine ⟨b1, b2, v1, v2, rfl, rfl, hb1, hb2, by omega, fun q hq => ?_⟩
      refine ⟨q, rfl, ⟨_, SqL.of Zq3⟩, ?_⟩
      have sq : Same H' (upd H' q (.lst (v1 ++ v2))) := Same.new hq
      refine comp_nms (sd := t.ones ++ t.others) Zq3 (RepS.mono (Same.t sq) (RepS.app hr2 hr1)) (by rw [List.length_append]; omega) fun q2 hq2 => ?_
      have hqs : q2 ≠ s := ((hs'.keep sq).ne hq2).1
      have hql : q2 ≠ l := fun z => by rw [z, sq _ _ hl'] at hq2; cases hq2
      have hs4 := (hs'.keep sq).keep (Same.new hq2 (o := .lst (((t.ones ++ t.others).map (·.1)).map V.str)))
      have sx4 : SameX s H _ := sx'.trans (sq.trans (Same.new hq2 (o := .lst (((t.ones ++ t.others).map (·.1)).map V.str)))).x
      have hq2' : (upd (upd H' q (.lst (v1 ++ v2))) q2 (.lst (((t.ones ++ t.others).map (·.1)).map V.str))) q2 = some (.lst (((t.ones ++ t.others).map (·.1)).map V.str)) := Zq3
      generalize (upd (upd H' q (.lst (v1 ++ v2))) q2 (.lst (((t.ones ++ t.others).map (·.1)).map V.str))) = H4 at hs4 sx4 hq2' ⊢
      refine gset ?_
      dsimp only
      refine ⟨_, rfl, q2, _, rfl, .inl (SqL.of hq2'), rfl, _, rfl, iteD (fun _ => ?_) (fun hne => ?_)⟩
      · exact knone H4 hs4 sx4
      have hnl : ((((t.ones ++ t.others).map (·.1)).map V.str).length) = (t.ones ++ t.others).length := by rw [List.length_map, List.length_map]
      have hnl2 : (t.ones ++ t.others).length <= 120 := by rw [List.length_append]; omega
      have hpos : 0 < (t.ones ++ t.others).length := by
        rcases Nat.eq_zero_or_pos (t.ones ++ t.others).length with z | z
        · exact absurd (by rw [hnl, z]; rfl) hne
        · exact z
      refine ⟨_, rfl, _, rfl, _, rfl, _, rfl, q2, _, rfl, .inl (SqL.of hq2'), s, la, _, rfl, hs4, by rw [hnl]; omega, by rw [hnl]; omega, fun d H5 d0 d1 hs5 sx5 => ?_⟩
      rw [hnl] at d1
      obtain ⟨j, rfl⟩ := Int.eq_ofNat_of_zero_le d0
      have hj : j < (t.ones ++ t.others).length := by omega
      have ej : (((t.ones ++ t.others).map (·.1)).map V.str)[j]? = some (.str ((t.ones ++ t.others)[j]).1) := by rw [List.getElem?_map, List.getElem?_map, List.getElem?_eq_getElem hj]; rfl
      refine ⟨q2, _, j, _, rfl, rfl, SqL.of (sx5 q2 _ hqs hq2'), Zq40 ej, by show 2 <= sizeLine; omega, fun p hp => ?_⟩
      have hps : p ≠ s := (hs5.ne hp).1
      have hpl : p ≠ l := fun z => by rw [z, sx5 l _ hls (sx4 l _ hls hl)] at hp; cases hp
      refine k (some ((c : Int), ((t.ones ++ t.others)[j]).1)) _ _ ?_ ?_ (hs5.keep (Same.new hp)) ((sx4.trans sx5).trans (SameX.new hp))
      · rintro c' n' e
        cases e
        exact ⟨by omega, t, ((t.ones ++ t.others)[j]).2, by rw [Int.toNat_natCast]; exact ht, List.getElem_mem hj⟩
      · refine ⟨p, _, rfl, Zq47 ?_ Zq3, ⟨_, _, rfl, rfl, ⟨_, _, rfl, rfl, rfl⟩⟩⟩
        intro m
        rcases List.mem_cons.mp m with z | z
        · exact hps z
        · exact hpl (List.mem_singleton.mp z)
    · intro D' hn _ _ _
      refine ⟨_, rfl, s, la, 3, rfl, hs2, by decide, by decide, fun d3 H3 _ _ hs3 sx3 => ?_⟩
      refine ⟨rfl, _, rfl, iteD (fun _ => ?_) (fun _ => ?_)⟩
      · exact ⟨_, rfl, _, _, rfl, rfl, hn _ _ ⟨us.length - 1, by omega, hs3, (sx1.trans sx2).trans sx3, by rw [Int.ofNat_sub (by omega)]; rfl⟩⟩
      · obtain ⟨j, rfl⟩ := Int.eq_ofNat_of_zero_le a2
        exact hn _ _ ⟨j, by omega, hs3, (sx1.trans sx2).trans sx3, rfl⟩
end
section
variable {P : Program} {w : World} {K : PySem.W.Frag} {mg : Str -> Option Value} {base : Heap}
theorem RepS.take {H : Hp} : ∀ {sd : Side} {vs : List V} (n : Nat), RepS H sd vs -> RepS H (sd.take n) (vs.take n)
  | [], _, n, h => by cases h; rw [List.take_nil, List.take_nil]; rfl
  | _ :: _, _, 0, _ => rfl
  | _ :: _, _, n + 1, ⟨c, vs', e, h1, h2⟩ => by subst e; exact ⟨c, vs'.take n, rfl, h1, RepS.take n h2⟩
theorem RepS.drop {H : Hp} : ∀ {sd : Side} {vs : List V} (n : Nat), RepS H sd vs -> RepS H (sd.drop n) (vs.drop n)
  | [], _, n, h => by cases h; rw [List.drop_nil, List.drop_nil]; rfl
  | _ :: _, _, 0, h => h
  | _ :: _, _, n + 1, ⟨c, vs', e, h1, h2⟩ => by subst e; exact RepS.drop n h2
theorem cut_to (xs : List V) (c : Nat) : cutV xs none (some (c : Int)) = xs.take c := by
  unfold cutV
  rw [HT.sIx_none, HT.sIx_nat, List.drop_zero, Nat.sub_zero]
  by_cases h : c <= xs.length
  · rw [Nat.min_eq_left h]
  · rw [Nat.min_eq_right (by omega), List.take_of_length_le (Nat.le_refl _), List.take_of_length_le (by omega)]
theorem cut_from (xs : List V) (c : Nat) : cutV xs (some (c : Int)) none = xs.drop c := by
  unfold cutV
  rw [HT.sIx_none, HT.sIx_nat]
  by_cases h : c <= xs.length
  · rw [Nat.min_eq_left h]
    exact List.take_of_length_le (by rw [List.length_drop]; omega)
  · rw [Nat.min_eq_right (by omega), List.drop_of_length_le (Nat.le_refl _), List.drop_of_length_le (by omega)]
    exact List.take_nil
def SameO (ms : List Addr) (H H' : Hp) : Prop := ∀ b o, b ∉ ms -> H b = some o -> H' b = some o
theorem SameO.trans {ms : List Addr} {H H1 H2 : Hp} (a : SameO ms H H1) (b : SameO ms H1 H2) : SameO ms H H2 := fun c o n e => b c o n (a c o n e)
theorem SameX.o {s : Addr} {ms : List Addr} {H H' : Hp} (h : SameX s H H') (m : s ∈ ms) : SameO ms H H' := fun b o n e => h b o (fun z => n (by rw [z]; exact m)) e
theorem Same.o {ms : List Addr} {H H' : Hp} (h : Same H H') : SameO ms H H' := fun b o _ e => h b o e
theorem RepS.off {s l : Addr} {H : Hp} {xs ys : List V} (hs : H s = some (.lst xs)) (hl : H l = some (.lst ys)) : ∀ {sd : Side} {vs : List V}, RepS H sd vs -> RepS (off [s, l] H) sd vs
  | [], _, h => h
  | _ :: _, _, ⟨a, vs', e, h1, h2⟩ => ⟨a, vs', e, Zq47 (fun m => by
      rcases List.mem_cons.mp m with z | z
      · rw [z, hs] at h1; cases h1
      · rw [List.mem_singleton.mp z, hl] at h1; cases h1) h1, RepS.off hs hl h2⟩
theorem off_sub {ms ns : List Addr} {H : Hp} (h : ∀ b ∈ ms, b ∈ ns) : Same (off ns H) (off ms H) := fun b o e => by
  obtain ⟨n, e⟩ := off_of e
  exact Zq47 (fun m => n (h b m)) e
structure Line (ss : List Suit) : Prop where
  ok : ∀ t ∈ ss, Zq96 t
  nd : ∀ t ∈ ss, ((t.ones ++ t.others).map (·.1)).Nodup
  nm : ∀ t ∈ ss, ∀ p ∈ t.ones ++ t.others, Zq117 p.1
  back : ∀ i t, ss[i]? = some t -> NamedOk (ss.take i) t.named
theorem Line.nil : Line [] := ⟨(fun _ z => nomatch z), (fun _ z => nomatch z), (fun _ z => nomatch z), fun i t h => by simp at h⟩
theorem Line.snoc {ss : List Suit} {t : Suit} (h : Line ss) (h1 : Zq96 t) (h2 : ((t.ones ++ t.others).map (·.1)).Nodup) (h3 : ∀ p ∈ t.ones ++ t.others, Zq117 p.1) (h4 : NamedOk ss t.named) : Line (ss ++ [t]) := by
  have m : ∀ x ∈ ss ++ [t], x ∈ ss \/ x = t := fun x hx => (List.mem_append.mp hx).imp id List.mem_singleton.mp
  refine ⟨fun x hx => (m x hx).elim (h.ok x) (fun z => z ▸ h1), fun x hx => (m x hx).elim (h.nd x) (fun z => z ▸ h2), fun x hx => (m x hx).elim (h.nm x) (fun z => z ▸ h3), fun i x hx => ?_⟩
  by_cases hi : i < ss.length
  · rw [List.getElem?_append_left hi] at hx
    rw [List.take_append_of_le_length (Nat.le_of_lt hi)]
    exact h.back i x hx
  · rw [List.getElem?_append_right (by omega)] at hx
    have e0 : i - ss.length = 0 := by
      rcases Nat.eq_zero_or_pos (i - ss.length) with z | z
      · exact z
      · rw [List.getElem?_eq_none (by rw [List.length_singleton]; exact z)] at hx; cases hx
    rw [e0] at hx
    cases hx
    have : i = ss.length := by omega
    rw [this, List.take_append_of_le_length (Nat.le_refl _), List.take_length]
    exact h4
def spSuits : Sp := fun vs H Q _ => ∃ (s la : Addr) (n m : Int), vs = [.ref s, .int n, .int m] /\ SrcAt H s la /\ 0 <= n /\ n <= 100 /\ 0 <= m /\ m <= 60 /\
  ∀ (l : Addr) (us : List V) (ss : List Suit) (H' : Hp), (ss.length : Int) = n -> Line ss -> (∀ t ∈ ss, ((t.ones ++ t.others).length : Int) <= m) -> H l = none -> l ≠ s -> H' l = some (.lst us) -> RepL (off [s, l] H') (ss.map Zq86) us -> SrcAt H' s la -> SameX s H H' -> Q (.ref l) H'
abbrev Zq29 : Stmt := top 45
theorem Zq67 : FnScope ["_law_src_here", "_law_many", "_law_most", "_law_pool", "_law_suits_here", "_law_number", "_law_side_here", "_law_cut", "_law_named_here", "_law_need_here"] ["_law_src_here", "_law_many", "_law_most"] (Zq0 Zq29) := ⟨rfl, rfl, rfl, by decide +kernel, rfl, by decide +kernel, by decide +kernel⟩
theorem Nq19 : Nm (Zq0 Zq29) "_law_cut" .local := by decide +kernel
theorem Nq211 : Nm (Zq0 Zq29) "_law_many" .local := by decide +kernel
theorem Nq133 : Nm (Zq0 Zq29) "_law_most" .local := by decide +kernel
theorem Nq212 : Nm (Zq0 Zq29) "_law_named" .globalImplicit := by decide +kernel
theorem Nq134 : Nm (Zq0 Zq29) "_law_named_here" .local := by decide +kernel
theorem Nq213 : Nm (Zq0 Zq29) "_law_names" .globalImplicit := by decide +kernel
theorem Nq214 : Nm (Zq0 Zq29) "_law_need" .globalImplicit := by decide +kernel
theorem Nq135 : Nm (Zq0 Zq29) "_law_need_here" .local := by decide +kernel
theorem Nq48 : Nm (Zq0 Zq29) "_law_next" .globalImplicit := by decide +kernel
theorem Nq215 : Nm (Zq0 Zq29) "_law_number" .local := by decide +kernel
theorem Nq136 : Nm (Zq0 Zq29) "_law_pool" .local := by decide +kernel
theorem Nq216 : Nm (Zq0 Zq29) "_law_side" .globalImplicit := by decide +kernel
theorem Nq13 : Nm (Zq0 Zq29) "_law_side_here" .local := by decide +kernel
theorem Nq9 : Nm (Zq0 Zq29) "_law_src_here" .local := by decide +kernel
theorem Nq49 : Nm (Zq0 Zq29) "_law_suits_here" .local := by decide +kernel
theorem Nq137 : Nm (Zq0 Zq29) "len" .globalImplicit := by decide +kernel
theorem Nq217 : Nm (Zq0 Zq29) "range" .globalImplicit := by decide +kernel
theorem Zq285 (Zq205 : Has K mg "_law_suits" Zq29) (T : Txt mg) (Zq9 : Fn P w K mg base "_law_next" ["_law_src_here", "_law_base"] 1 Zq116)
    (Zq286 : Fn P w K mg base "_law_names" ["_law_src_here", "_law_many"] 3 spNames) (Zq301 : Fn P w K mg base "_law_side" ["_law_src_here", "_law_names_here", "_law_many"] 3 spSide)
    (Zq287 : Fn P w K mg base "_law_named" ["_law_src_here", "_law_suits_here"] 2 spNamed) (Zq302 : Fn P w K mg base "_law_need" ["_law_src_here", "_law_ones", "_law_others"] 2 spNeed) :
    Fn P w K mg base "_law_suits" ["_law_src_here", "_law_many", "_law_most"] 4 spSuits := by
  refine Zq205.fnQ Zq67 (fun _ _ _ _ _ _ us hl => match us, hl with | [_, _, _], _ => rfl) (fun vs H Q E h => ?_) (fun f cdv A outer s H vs Q E hr h => ?_)
  · obtain ⟨s, la, n, m, rfl, _⟩ := h
    rfl
  · obtain ⟨s, la, n, m, rfl, hsrc, hn0, hn1, hm0, hm1, k⟩ := h
    refine ⟨_, (Zq4 (Zq12 (i := 3) Zq67.nd Nq136 (Zq8 Zq286 (hr.mono (by omega)) Nq213 (Zq1 (qvN 0 Nq9) (Zq1 (Zq18 Zq32 (qvN 2 Nq133) Zq5) Zq2))))
 (Zq4 (Zq12 (i := 4) Zq67.nd Nq49 (Zq83 Zq2))
 (Zq4 (Zq64 PassesOwn.never rfl (Zq140 Nq217.1 T.range (Zq1 (qvN 1 Nq211) Zq2)) (Zq27 (i := 5) Zq67.nd Nq215)
  (Zq4 (Zq12 (i := 6) Zq67.nd Nq13 (Zq8 Zq301 (hr.mono (by omega)) Nq216 (Zq1 (qvN 0 Nq9) (Zq1 (qvN 3 Nq136) (Zq1 (Zq8 Zq9 (hr.mono (by omega)) Nq48 (Zq1 (qvN 0 Nq9) (Zq1 (Zq18 Zq32 (qvN 2 Nq133) Zq5) Zq2))) Zq2)))))
 (Zq4 (Zq12 (i := 7) Zq67.nd Nq19 (Zq18 qop_fdiv (Zq18 Zq32 (Zq18 Zq32 (Zq11 Zq13 Nq137 T.len Zq39 (Zq1 (qvN 6 Nq13) Zq2)) Zq5) (Zq8 Zq9 (hr.mono (by omega)) Nq48 (Zq1 (qvN 0 Nq9) (Zq1 Zq5 Zq2)))) Zq5))
 (Zq4 (Zq23 (Zq15 Zq43 (Zq8 Zq9 (hr.mono (by omega)) Nq48 (Zq1 (qvN 0 Nq9) (Zq1 Zq5 Zq2))) Zq5 (Zq19 _)) (Zq6 (Zq12 (i := 7) Zq67.nd Nq19 (Zq8 Zq9 (hr.mono (by omega)) Nq48 (Zq1 (qvN 0 Nq9) (Zq1 (Zq18 Zq32 (Zq11 Zq13 Nq137 T.len Zq39 (Zq1 (qvN 6 Nq13) Zq2)) Zq5) Zq2))))) Zq20)
 (Zq4 (Zq12 (i := 8) Zq67.nd Nq134 (Zq8 Zq287 (hr.mono (by omega)) Nq212 (Zq1 (qvN 0 Nq9) (Zq1 (qvN 4 Nq49) Zq2))))
 (Zq4 (Zq12 (i := 9) Zq67.nd Nq135 (Zq8 Zq302 (hr.mono (by omega)) Nq214 (Zq1 (qvN 0 Nq9) (Zq1 (Zq60 Zq91 (qvN 6 Nq13) Zq81 (Zq82 (qvN 7 Nq19))) (Zq1 (Zq60 Zq91 (qvN 6 Nq13) (Zq82 (qvN 7 Nq19)) Zq81) Zq2)))))
 (Zq6 (Zq132 (Zq147 F.plainAttrs_list F.slot_list_append F.type_list_append Zq108 (qvN 4 Nq49) (Zq1 (Zq70 (Zq1 (Zq60 Zq91 (qvN 6 Nq13) Zq81 (Zq82 (qvN 7 Nq19))) (Zq1 (Zq60 Zq91 (qvN 6 Nq13) (Zq82 (qvN 7 Nq19)) Zq81) (Zq1 (qvN 9 Nq135) (Zq1 (qvN 8 Nq134) Zq2))))) Zq2))))))))))
 (Zq6 (Zq14 (qvN 4 Nq49)))))), ?_⟩
    have hz : (2000 : Nat) <= sizeLine := by decide
    refine ⟨_, rfl, _, rfl, _, _, rfl, rfl, s, la, _, rfl, hsrc, by omega, by omega, fun lp names H1 hnl hnd hnm hlpf hlp hs1 sx1 => ?_⟩
    have hlps : lp ≠ s := (hsrc.ne hlpf).1
    refine ⟨by show 0 <= sizeLine; omega, fun l hl => ?_⟩
    have hls : l ≠ s := (hs1.ne hl).1
    have hlla : l ≠ la := (hs1.ne hl).2
    have hllp : l ≠ lp := fun z => by rw [z, hlp] at hl; cases hl
    have hlH : H l = none := by
      cases e : H l with
      | none => rfl
      | some o => rw [sx1 l o hls e] at hl; cases hl
    refine ⟨_, rfl, _, rfl, ?_, ?_, ?_⟩
    · omega
    · omega
    refine forW_range n.toNat (by omega) (fun i σ H' => ∃ (ss : List Suit) (us : List V) (v5 v6 v7 v8 v9 : Option V), σ = [some (.ref s), some (.int n), some (.int m), some (.ref lp), some (.ref l), v5, v6, v7, v8, v9] /\ ss.length = i /\ Line ss /\ (∀ t ∈ ss, ((t.ones ++ t.others).length : Int) <= m) /\
        H' l = some (.lst us) /\ RepL (off [s, l] H') (ss.map Zq86) us /\ SrcAt H' s la /\ SameX s H H' /\ H' lp = some (.lst (names.map V.str)))
      ⟨[], [], none, none, none, none, none, rfl, rfl, Line.nil, (fun _ z => nomatch z), Zq3, rfl, hs1.keep (Same.new hl), sx1.trans (SameX.new hl), by rw [Zq7 hllp.symm]; exact hlp⟩ ?_ ?_
    · rintro i σ H' hi ⟨ss, us, v5, v6, v7, v8, v9, rfl, hss, hline, hshort, hl', hrep, hs', sx', hlp'⟩
      refine gset ?_
      dsimp only
      refine ⟨_, rfl, _, rfl, _, rfl, _, rfl, _, _, rfl, rfl, s, la, _, rfl, hs', by omega, by omega, fun d H2 d0 d1 hs2 sx2 => ?_⟩
      refine ⟨s, la, lp, names, d, rfl, hs2, sx2 lp _ hlps hlp', hlps, hnd, d0, by omega, fun ls sd vs H3 hsd hdr hlsf hls3 hrs3 hs3 sx3 => ?_⟩
      have n1 : ls ≠ s := (hs2.ne hlsf).1
      have n2 : ls ≠ l := fun z => by rw [z, sx2 l _ hls hl'] at hlsf; cases hlsf
      refine gset ?_
      dsimp only
      refine ⟨_, rfl, ls, _, rfl, .inl (SqL.of hls3), _, _, rfl, rfl, _, rfl, s, la, 2, rfl, hs3, by decide, by decide, fun d4 H4 e0 e1 hs4 sx4 => ?_⟩
      refine ⟨_, _, rfl, rfl, _, _, rfl, rfl, ⟨by decide, by decide⟩, ?_⟩
      refine gset ?_
      dsimp only
      have hvl := hrs3.len
      refine Zq170 (fun σ H' => ∃ c : Nat, SrcAt H' s la /\ SameX s H3 H' /\ σ = [some (.ref s), some (.int n), some (.int m), some (.ref lp), some (.ref l), some (.int (0 + (i : Nat))), some (.ref ls), some (.int c), v8, v9]) ?_ ?_
      · rintro σ H5 ⟨c, hs5, sx5, rfl⟩
        have o15 : SameO [s, l] H' H5 := SameX.o ((sx2.trans sx3).trans sx5) List.mem_cons_self
        have hl5 : H5 l = some (.lst us) := sx5 l _ hls (sx3 l _ hls (sx2 l _ hls hl'))
        have hrep5 := hrep.mono' (Zq49 o15)
        refine ⟨_, rfl, _, rfl, s, la, l, us, ss, rfl, hs5, hl5, hls, hrep5.mono' (off_sub fun b hb => List.mem_cons.mpr (.inl (List.mem_singleton.mp hb))), by omega, hline.ok, fun nm vn H6 hnmok hnmr hs6 sx6 => ?_⟩
        refine gset ?_
        dsimp only
        have hls6 : H6 ls = some (.lst vs) := sx6 ls _ n1 (sx5 ls _ n1 hls3)
        obtain ⟨_, _, _, _, _, hs3', _⟩ := id hs3
        obtain ⟨_, _, _, _, _, hs6', _⟩ := id hs6
        have hrs6 : RepS H6 sd vs := hrs3.mono (sameX_t (sx5.trans sx6) hs3')
        have hl6 := sx6 l _ hls hl5
        refine ⟨_, rfl, _, rfl, _, rfl, _, rfl, ls, vs, rfl, SqL.of hls6, fun p1 hp1 => ?_⟩
        rw [cut_to]
        have hls7 := Same.new (o := .lst (vs.take c)) hp1 _ _ hls6
        refine ⟨_, rfl, _, rfl, _, rfl, ls, vs, rfl, SqL.of hls7, fun p2 hp2 => ?_⟩
        rw [cut_from]
        have S68 := (Same.new (o := .lst (vs.take c)) hp1).trans (Same.new (o := .lst (vs.drop c)) hp2)
        have g2 : (upd (upd H6 p1 (.lst (vs.take c))) p2 (.lst (vs.drop c))) p2 = some (.lst (vs.drop c)) := Zq3
        have g1 : (upd (upd H6 p1 (.lst (vs.take c))) p2 (.lst (vs.drop c))) p1 = some (.lst (vs.take c)) := Same.new (o := .lst (vs.drop c)) hp2 _ _ Zq3
        generalize (upd (upd H6 p1 (.lst (vs.take c))) p2 (.lst (vs.drop c))) = H8 at S68 g1 g2 ⊢
        have hs8 := hs6.keep S68
        have hrs8 : RepS H8 sd vs := hrs6.mono (Same.t S68)
        refine ⟨s, la, .ref p1, .ref p2, sd.take c, sd.drop c, rfl, hs8, ⟨p1, _, rfl, g1, hrs8.take c⟩, ⟨p2, _, rfl, g2, hrs8.drop c⟩, fun dn H9 w0 w1 hs9 sx9 => ?_⟩
        refine gset ?_
        dsimp only
        obtain ⟨_, _, _, _, _, hs8', _⟩ := id hs8
        obtain ⟨_, _, _, _, _, hs9', _⟩ := id hs9
        have hl9 : H9 l = some (.lst us) := sx9 l _ hls (S68 l _ hl6)
        have hls9 : H9 ls = some (.lst vs) := sx9 ls _ n1 (S68 ls _ hls6)
        have hrs9 : RepS H9 sd vs := hrs8.mono (sameX_t sx9 hs8')
        refine ⟨_, rfl, .inl ⟨rfl, _, SqL.of hl9⟩, _, rfl, _, rfl, _, rfl, ls, vs, rfl, SqL.of hls9, fun q1 hq1 => ?_⟩
        rw [cut_to]
        have S1 := Same.new (o := .lst (vs.take c)) hq1
        have k1 : (upd H9 q1 (.lst (vs.take c))) q1 = some (.lst (vs.take c)) := Zq3
        generalize (upd H9 q1 (.lst (vs.take c))) = H10 at S1 k1 ⊢
        refine ⟨_, rfl, _, rfl, _, rfl, ls, vs, rfl, SqL.of (S1 _ _ hls9), fun q2 hq2 => ?_⟩
        rw [cut_from]
        have S2 := Same.new (o := .lst (vs.drop c)) hq2
        have k2 : (upd H10 q2 (.lst (vs.drop c))) q2 = some (.lst (vs.drop c)) := Zq3
        generalize (upd H10 q2 (.lst (vs.drop c))) = H11 at S2 k2 ⊢
        refine ⟨_, rfl, _, rfl, by show 4 <= sizeLine; omega, fun p hp => ?_⟩
        have S3 := Same.new (o := .tup [.ref q1, .ref q2, .int dn, vn]) hp
        have k3 : (upd H11 p (.tup [.ref q1, .ref q2, .int dn, vn])) p = some (.tup [.ref q1, .ref q2, .int dn, vn]) := Zq3
        have hs11 := (hs9.keep S1).keep S2
        have hl11 := S2 _ _ (S1 _ _ hl9)
        have np : p ∉ [s, l] := fun z => by
          rcases List.mem_cons.mp z with z | z
          · exact (hs11.ne hp).1 z
          · rw [List.mem_singleton.mp z, hl11] at hp; cases hp
        have nq1 : q1 ∉ [s, l] := fun z => by
          rcases List.mem_cons.mp z with z | z
          · exact (hs9.ne hq1).1 z
          · rw [List.mem_singleton.mp z, hl9] at hq1; cases hq1
        have nq2 : q2 ∉ [s, l] := fun z => by
          rcases List.mem_cons.mp z with z | z
          · exact ((hs9.keep S1).ne hq2).1 z
          · rw [List.mem_singleton.mp z, S1 _ _ hl9] at hq2; cases hq2
        generalize (upd H11 p (.tup [.ref q1, .ref q2, .int dn, vn])) = H12 at S3 k3 ⊢
        have hul : us.length = ss.length := by have := hrep.length; rw [List.length_map] at this; exact this
        have hl12 := S3 _ _ hl11
        refine ⟨l, us, .ref p, rfl, rfl, hl12, by omega, ?_⟩
        have Ol : SameO [s, l] H12 (upd H12 l (.lst (us ++ [.ref p]))) := fun b o nb e => by rw [Zq7 (fun z => nb (by rw [z]; exact List.mem_cons_of_mem _ (List.mem_singleton.mpr rfl)))]; exact e
        have O10 : SameO [s, l] H10 (upd H12 l (.lst (us ++ [.ref p]))) := (Same.o (S2.trans S3)).trans Ol
        have O11 : SameO [s, l] H11 (upd H12 l (.lst (us ++ [.ref p]))) := (Same.o S3).trans Ol
        have O9 : SameO [s, l] H9 (upd H12 l (.lst (us ++ [.ref p]))) := (Same.o S1).trans O10
        have O6 : SameO [s, l] H6 (upd H12 l (.lst (us ++ [.ref p]))) := ((Same.o S68).trans (SameX.o sx9 List.mem_cons_self)).trans O9
        have O5 : SameO [s, l] H5 (upd H12 l (.lst (us ++ [.ref p]))) := (SameX.o sx6 List.mem_cons_self).trans O6
        have hro := (RepS.off hs9' hl9 hrs9).mono (Same.t (Zq49 O9))
        have hsdm : (sd.length : Int) <= m := by omega
        have etd : sd.take c ++ sd.drop c = sd := List.take_append_drop c sd
        refine ⟨ss ++ [⟨sd.take c, sd.drop c, dn, nm⟩], us ++ [.ref p], _, _, _, _, _, rfl, by rw [List.length_append, hss]; rfl, hline.snoc ⟨⟨fun q hq => hdr.wt q (List.mem_of_mem_take hq), ?_⟩, ⟨fun q hq => hdr.wt q (List.mem_of_mem_drop hq), ?_⟩, w0, w1⟩ ?_ ?_ hnmok, fun x hx => ?_, Zq3, ?_, ?_, ?_, ?_⟩
        · rw [List.length_take]; omega
        · rw [List.length_drop]; omega
        · show ((sd.take c ++ sd.drop c).map (·.1)).Nodup
          rw [etd]; exact hdr.nd
        · intro q hq
          have hq : q ∈ sd.take c ++ sd.drop c := hq
          rw [etd] at hq
          exact hnm _ (hdr.mem q hq)
        · rcases List.mem_append.mp hx with z | z
          · exact hshort x z
          · rw [List.mem_singleton.mp z]
            show ((sd.take c ++ sd.drop c).length : Int) <= m
            rw [etd]; exact hsdm
        · rw [List.map_append]
          refine RepL.snoc (suit_mk (t := ⟨sd.take c, sd.drop c, dn, nm⟩) (Zq49 Ol _ _ (Zq47 np k3)) ⟨q1, _, rfl, Zq49 O10 _ _ (Zq47 nq1 k1), hro.take c⟩ ⟨q2, _, rfl, Zq49 O11 _ _ (Zq47 nq2 k2), hro.drop c⟩ (hnmr.mono' (Zq49 O6))) (hrep5.mono' (Zq49 O5))
        · exact (hs11.keep S3).keepX SameX.upd hls hlla
        · intro b o hb e
          have e12 := S3 b o (S2 b o (S1 b o (sx9 b o hb (S68 b o (sx6 b o hb (sx5 b o hb (sx3 b o hb (sx2 b o hb (sx' b o hb e)))))))))
          rw [Zq7 (fun z => by rw [z, hlH] at e; cases e)]
          exact e12
        · have e12 := S3 _ _ (S2 _ _ (S1 _ _ (sx9 _ _ hlps (S68 _ _ (sx6 _ _ hlps (sx5 _ _ hlps (sx3 _ _ hlps (sx2 _ _ hlps hlp'))))))))
          rw [Zq7 hllp.symm]
          exact e12
      · intro D' hn _ _ _
        refine ⟨_, rfl, s, la, 3, rfl, hs4, by decide, by decide, fun d5 H5 _ _ hs5 sx5 => ?_⟩
        refine ⟨rfl, _, rfl, iteD (fun _ => ?_) (fun _ => ?_)⟩
        · refine ⟨_, rfl, _, rfl, ls, _, rfl, .inl (SqL.of (sx5 ls _ n1 (sx4 ls _ n1 hls3))), _, _, rfl, rfl, s, la, _, rfl, hs5, by omega, by omega, fun d6 H6 f0 f1 hs6 sx6 => ?_⟩
          obtain ⟨j, rfl⟩ := Int.eq_ofNat_of_zero_le f0
          exact hn _ _ ⟨j, hs6, (sx4.trans sx5).trans sx6, rfl⟩
        · obtain ⟨j, ej⟩ := Int.eq_ofNat_of_zero_le (show (0 : Int) <= ((vs.length : Int) + 1 + d4) / 2 by omega)
          exact hn _ _ ⟨j, hs5, sx4.trans sx5, by rw [← ej]; rfl⟩
    · rintro σ H' ⟨ss, us, v5, v6, v7, v8, v9, rfl, hss, hline, hshort, hl', hrep, hs', sx', hlp'⟩
      exact ⟨_, rfl, k l us ss H' (by omega) hline hshort hlH hls hl' hrep hs' sx'⟩
end
section
variable {P : Program} {w : World} {K : PySem.W.Frag} {mg : Str -> Option Value} {base : Heap}
def spCopy : Sp := fun vs H Q _ => ∃ (l : Addr) (us : List V) (ss : List Suit), vs = [.ref l] /\ H l = some (.lst us) /\ RepL H (ss.map Zq86) us /\ ss.length <= 1000 /\
  ∀ (l2 : Addr) (us2 : List V) (H' : Hp), H l2 = none -> H' l2 = some (.lst us2) -> RepL H' (ss.map Zq86) us2 -> Same H H' -> Q (.ref l2) H'
abbrev Zq193 : Stmt := top 46
theorem Zq288 : FnScope ["_law_suits_here"] ["_law_suits_here"] (Zq0 Zq193) := ⟨rfl, rfl, rfl, by decide +kernel, rfl, by decide +kernel, by decide +kernel⟩
theorem Nq218 : Nm (Zq0 Zq193) "_law_suits_here" .local := by decide +kernel
theorem Zq303 (Zq221 : Has K mg "_law_copy" Zq193) (T : Txt mg) : Fn P w K mg base "_law_copy" ["_law_suits_here"] 1 spCopy := by
  refine Zq221.fnQ Zq288 (fun _ _ _ _ _ _ us hl => match us, hl with | [_], _ => rfl) (fun vs H Q E h => ?_) (fun f cdv A outer s H vs Q E hr h => ?_)
  · obtain ⟨l, us, ss, rfl, _⟩ := h
    rfl
  · obtain ⟨l, us, ss, rfl, hl, hrep, hlen, k⟩ := h
    refine ⟨_, (Zq6 (Zq14 (Zq92 (locs := ["_law_ones", "_law_others", "_law_need_here", "_law_named_here"]) (fr := []) ⟨rfl, by decide +kernel, by decide +kernel, by decide +kernel, by decide +kernel, by decide +kernel⟩ .nil rfl (Zq28 (qvN 0 Nq218)) ⟨fun _ _ _ _ _ _ => by
    have cnd : (inN ["_law_ones", "_law_others", "_law_need_here", "_law_named_here"] []).Nodup := by decide +kernel
    exact ⟨(Zq106 4 (by rfl) (Zq22 (qgLN 0 cnd) (Zq22 (qgLN 1 cnd) (Zq22 (qgLN 2 cnd) (Zq22 (qgLN 3 cnd) Zq69))))), Zq90, (Zq70 (Zq1 (qe_callTyN qcall_list_ofC nmC T.list Zq176 (Zq1 (qvLN 0) Zq2)) (Zq1 (qe_callTyN qcall_list_ofC nmC T.list Zq176 (Zq1 (qvLN 1) Zq2)) (Zq1 (qvLN 2) (Zq1 (qvLN 3) Zq2)))))⟩⟩))), ?_⟩
    have hz : (2000 : Nat) <= sizeLine := by decide
    have hul : us.length = ss.length := by have := hrep.length; rw [List.length_map] at this; exact this
    refine ⟨_, rfl, l, rfl, ⟨_, SqL.of hl⟩, ?_⟩
    refine Zq61 (xs := us) (fun i ys H' => Same H H' /\ RepL H' ((ss.take i).map Zq86) ys) ⟨fun _ _ e => e, rfl⟩ (by omega) (fun i ys H' _ ⟨e, _⟩ => SqL.of (e _ _ hl)) ?_ ?_ ?_
    · rintro i ys H' ⟨_, h2⟩
      rw [h2.length, List.length_map, List.length_take]; omega
    · rintro i x ys H' hx ⟨sm, hr⟩ ls hls
      obtain ⟨w1, w2, w3, w4, rfl⟩ := len4 hls
      obtain ⟨d, hd, hrd⟩ := hrep.get hx
      rw [List.getElem?_map] at hd
      obtain ⟨t, ht⟩ : ∃ t, ss[i]? = some t := by cases e : ss[i]? with | none => rw [e] at hd; cases hd | some t => exact ⟨t, rfl⟩
      rw [ht] at hd
      cases hd
      obtain ⟨ta, u1, u2, u4, rfl, hta, ⟨b1, v1, rfl, hb1, hr1⟩, ⟨b2, v2, rfl, hb2, hr2⟩, hr4⟩ := suit_inv (hrd.mono' sm)
      refine ⟨ta, _, rfl, SqT.of hta, rfl, _, _, rfl, _, _, rfl, _, _, rfl, _, _, rfl, rfl, ⟨[_, _, _, _], rfl, rfl⟩, iteT ?_⟩
      refine ⟨_, rfl, b1, _, rfl, .inl (SqL.of hb1), fun q1 hq1 => ?_⟩
      have S1 := Same.new (o := .lst v1) hq1
      have k1 : (upd H' q1 (.lst v1)) q1 = some (.lst v1) := Zq3
      generalize (upd H' q1 (.lst v1)) = H1 at S1 k1 ⊢
      refine ⟨_, rfl, b2, _, rfl, .inl (SqL.of (S1 _ _ hb2)), fun q2 hq2 => ?_⟩
      have S2 := Same.new (o := .lst v2) hq2
      have k2 : (upd H1 q2 (.lst v2)) q2 = some (.lst v2) := Zq3
      generalize (upd H1 q2 (.lst v2)) = H2 at S2 k2 ⊢
      refine ⟨_, rfl, _, rfl, by show 4 <= sizeLine; omega, fun p hp => ?_⟩
      have S3 := Same.new (o := .tup [.ref q1, .ref q2, .int t.need, u4]) hp
      have k3 : (upd H2 p (.tup [.ref q1, .ref q2, .int t.need, u4])) p = some (.tup [.ref q1, .ref q2, .int t.need, u4]) := Zq3
      have S13 := (S1.trans S2).trans S3
      refine ⟨sm.trans S13, ?_⟩
      rw [List.take_add_one, ht, List.map_append]
      refine RepL.snoc (suit_mk (t := t) k3 ⟨q1, _, rfl, S3 _ _ (S2 _ _ k1), hr1.mono (Same.t S13)⟩ ⟨q2, _, rfl, S3 _ _ k2, hr2.mono (Same.t S13)⟩ (hr4.mono' S13)) (hr.mono' S13)
    · rintro ys H' ⟨sm, hr⟩ l2 hl2
      rw [hul, List.take_length] at hr
      exact k l2 ys _ (sm.free hl2) Zq3 (hr.mono' (Same.new hl2)) (sm.trans (Same.new hl2))
end
section
variable {P : Program} {w : World} {K : PySem.W.Frag} {mg : Str -> Option Value} {base : Heap}
abbrev Gone := List (List Key × V)
def okey (c : Int) (n : Str) : List Key := [.inl c, .inr n]
def brk (kvs : Gone) (c : Int) (n : Str) : Bool := (valV kvs (okey c n)).isSome
def keep (br : Int -> Str -> Bool) (c : Int) (sd : Side) : Side := sd.filter fun p => !br c p.1
def keptW (br : Int -> Str -> Bool) (c : Int) (sd : Side) : Int := (wts (keep br c sd)).sum
def spKept : Sp := fun vs H Q _ => ∃ (c : Int) (v : V) (g : Addr) (sd : Side) (kvs : Gone), vs = [.int c, v, .ref g] /\ SideAt H sd v /\ Light sd /\ H g = some (.dT kvs) /\ ∀ H', Same H H' -> Q (.int (keptW (brk kvs) c sd)) H'
theorem keep_take {br : Int -> Str -> Bool} {c : Int} {sd : Side} {i : Nat} {p : Str × Int} (h : sd[i]? = some p) : keep br c (sd.take (i + 1)) = keep br c (sd.take i) ++ (if br c p.1 then [] else [p]) := by
  unfold keep
  rw [List.take_add_one, h, List.filter_append]
  cases e : br c p.1 <;> simp [e]
abbrev Zq93 : Stmt := top 19
theorem Zq262 : FnScope ["case", "side", "gone"] ["case", "side", "gone"] (Zq0 Zq93) := ⟨rfl, rfl, rfl, by decide +kernel, rfl, by decide +kernel, by decide +kernel⟩
theorem Nq219 : Nm (Zq0 Zq93) "case" .cell := by decide +kernel
theorem Nq220 : Nm (Zq0 Zq93) "gone" .cell := by decide +kernel
theorem Nq221 : Nm (Zq0 Zq93) "side" .local := by decide +kernel
theorem Nq222 : Nm (Zq0 Zq93) "sum" .globalImplicit := by decide +kernel
theorem Zq275 (Zq188 : Has K mg "kept_weight" Zq93) (T : Txt mg) : Fn P w K mg base "kept_weight" ["case", "side", "gone"] 1 spKept := by
  refine Zq188.fnQ Zq262 (fun _ _ _ _ _ _ us hl => match us, hl with | [_, _, _], _ => rfl) (fun vs H Q E h => ?_) (fun f cdv A outer s H vs Q E hr h => ?_)
  · obtain ⟨c, v, g, sd, kvs, rfl, _⟩ := h
    rfl
  · obtain ⟨c, v, g, sd, kvs, rfl, ⟨a, vs, rfl, ha, hrs⟩, hL, hg, k⟩ := h
    refine ⟨_, (Zq6 (Zq14 (Zq11 (qcall_sum (by rfl)) Nq222 T.sum b_sum (Zq1 (Zq92 (locs := ["name", "weight"]) (fr := [("case", 0), ("gone", 2)]) ⟨rfl, by decide +kernel, by decide +kernel, by decide +kernel, by decide +kernel, by decide +kernel⟩ (.consN Nq219 (.consN Nq220 .nil)) rfl (Zq28 (qvN 1 Nq221)) ⟨fun _ _ _ _ _ _ => by
    have cnd : (inN ["name", "weight"] [("case", 0), ("gone", 2)]).Nodup := by decide +kernel
    exact ⟨(Zq106 2 (by rfl) (Zq22 (qgLN 0 cnd) (Zq22 (qgLN 1 cnd) Zq69))), (Zq158 (Zq15 (qop_dnotin hr) (Zq70 (Zq1 (qvFN 2) (Zq1 (qvLN 0) Zq2))) (qvFN 3) rfl)), (qvLN 1)⟩⟩) Zq2)))), ?_⟩
    have hz : (2000 : Nat) <= sizeLine := by decide
    have hvl := hrs.len
    have hl60 := hL.2
    refine ⟨_, rfl, a, rfl, ⟨_, SqL.of ha⟩, ?_⟩
    refine Zq61 (xs := vs) (fun i ys H' => Same H H' /\ ys = (wts (keep (brk kvs) c (sd.take i))).map V.int) ⟨fun _ _ e => e, rfl⟩ (by omega) (fun i ys H' _ ⟨e, _⟩ => SqL.of (e _ _ ha)) ?_ ?_ ?_
    · rintro i ys H' ⟨_, rfl⟩
      unfold wts keep
      rw [List.length_map, List.length_map]
      refine Nat.le_trans (List.length_filter_le _ _) ?_
      rw [List.length_take]; omega
    · rintro i x ys H' hx ⟨sm, rfl⟩ ls hls
      obtain ⟨w1, w2, rfl⟩ := len2 hls
      obtain ⟨p, b, hp, rfl, hb⟩ := hrs.get hx
      refine ⟨b, _, rfl, SqT.of (sm _ _ hb), rfl, _, _, rfl, _, _, rfl, rfl, ⟨[_, _], rfl, rfl⟩, ?_⟩
      refine ⟨_, rfl, _, rfl, by show 2 <= sizeLine; omega, fun q hq => ?_⟩
      have S1 := Same.new (o := .tup [.int c, .str p.1]) hq
      have k1 : (upd H' q (.tup [.int c, .str p.1])) q = some (.tup [.int c, .str p.1]) := Zq3
      generalize (upd H' q (.tup [.int c, .str p.1])) = H1 at S1 k1 ⊢
      refine ⟨_, rfl, g, _, rfl, DGet.t (S1 _ _ (sm _ _ hg)) (k := okey c p.1) k1, _, rfl, ?_⟩
      have e := keep_take (br := brk kvs) (c := c) hp
      show if (!brk kvs c p.1) = true then _ else _
      cases hb' : brk kvs c p.1 with
      | true =>
        rw [hb', if_pos rfl, List.append_nil] at e
        refine iteF ?_
        exact ⟨sm.trans S1, by rw [e]⟩
      | false =>
        rw [hb', if_neg Bool.false_ne_true] at e
        refine iteT ?_
        refine ⟨_, rfl, sm.trans S1, ?_⟩
        rw [e]
        unfold wts
        rw [List.map_append, List.map_append]
        rfl
    · rintro ys H' ⟨sm, rfl⟩ l hl'
      rw [hvl, List.take_length]
      refine ⟨l, wts (keep (brk kvs) c sd), rfl, SqL.of Zq3, fun n hn => ?_, ?_, k _ (sm.trans (Same.new hl'))⟩
      · obtain ⟨p, hp, rfl⟩ := List.mem_map.mp hn
        exact hL.bnd _ (List.mem_map.mpr ⟨p, (List.mem_filter.mp hp).1, rfl⟩)
      · unfold wts keep
        rw [List.length_map]
        exact Nat.le_trans (List.length_filter_le _ _) (by omega)
def marg (br : Int -> Str -> Bool) (c : Int) (t : Suit) : Int := keptW br c t.ones - keptW br c t.others - t.need
def SuitsAt (H : Hp) (ss : List Suit) (l : Addr) : Prop := ∃ us, H l = some (.lst us) /\ RepL H (ss.map Zq86) us
theorem SuitsAt.mono {H H' : Hp} {ss : List Suit} {l : Addr} (h : SuitsAt H ss l) (k : Same H H') : SuitsAt H' ss l := let ⟨us, a, b⟩ := h; ⟨us, k _ _ a, b.mono' k⟩
theorem SuitsAt.get {H : Hp} {ss : List Suit} {l : Addr} {us : List V} {i : Nat} {t : Suit} (b : RepL H (ss.map Zq86) us) (ht : ss[i]? = some t) :
    ∃ ta u1 u2 u4, us[i]? = some (.ref ta) /\ H ta = some (.tup [u1, u2, .int t.need, u4]) /\ SideAt H t.ones u1 /\ SideAt H t.others u2 /\ Rep H (Zq152 t.named) u4 := by
  have hl := b.length
  rw [List.length_map] at hl
  have hi : i < us.length := by rw [hl]; exact (List.getElem?_eq_some_iff.mp ht).1
  have hu : us[i]? = some us[i] := List.getElem?_eq_getElem hi
  obtain ⟨d, hd, hr⟩ := b.get hu
  rw [List.getElem?_map, ht] at hd
  cases hd
  obtain ⟨ta, u1, u2, u4, e, h1, h2, h3, h4⟩ := suit_inv hr
  exact ⟨ta, u1, u2, u4, by rw [hu, e], h1, h2, h3, h4⟩
def spMargin : Sp := fun vs H Q _ => ∃ (l g : Addr) (c : Nat) (ss : List Suit) (t : Suit) (kvs : Gone), vs = [.ref l, .int c, .ref g] /\ SuitsAt H ss l /\ ss[c]? = some t /\ Zq96 t /\ H g = some (.dT kvs) /\ ∀ H', Same H H' -> Q (.int (marg (brk kvs) c t)) H'
abbrev Zq37 : Stmt := top 18
theorem Zq191 : FnScope ["suits", "case", "gone", "suit"] ["suits", "case", "gone"] (Zq0 Zq37) := ⟨rfl, rfl, rfl, by decide +kernel, rfl, by decide +kernel, by decide +kernel⟩
theorem Nq223 : Nm (Zq0 Zq37) "NEED" .globalImplicit := by decide +kernel
theorem Nq224 : Nm (Zq0 Zq37) "ONES" .globalImplicit := by decide +kernel
theorem Nq225 : Nm (Zq0 Zq37) "OTHERS" .globalImplicit := by decide +kernel
theorem Nq85 : Nm (Zq0 Zq37) "case" .local := by decide +kernel
theorem Nq138 : Nm (Zq0 Zq37) "gone" .local := by decide +kernel
theorem Nq139 : Nm (Zq0 Zq37) "kept_weight" .globalImplicit := by decide +kernel
theorem Nq50 : Nm (Zq0 Zq37) "suit" .local := by decide +kernel
theorem Nq226 : Nm (Zq0 Zq37) "suits" .local := by decide +kernel
theorem Zq251 (Zq156 : Has K mg "margin_without" Zq37) (T : Txt mg) (C0 : ∃ t, mg "ONES" = some (.int 0 t)) (C1 : ∃ t, mg "OTHERS" = some (.int 1 t)) (C2 : ∃ t, mg "NEED" = some (.int 2 t))
    (Zq238 : Fn P w K mg base "kept_weight" ["case", "side", "gone"] 1 spKept) : Fn P w K mg base "margin_without" ["suits", "case", "gone"] 2 spMargin := by
  obtain ⟨t0, c_ONES⟩ := C0
  obtain ⟨t1, c_OTHERS⟩ := C1
  obtain ⟨t2, c_NEED⟩ := C2
  have r_ONES : RelV (.int 0) (.int 0 t0) := ⟨t0, rfl⟩
  have r_OTHERS : RelV (.int 1) (.int 1 t1) := ⟨t1, rfl⟩
  have r_NEED : RelV (.int 2) (.int 2 t2) := ⟨t2, rfl⟩
  refine Zq156.fnQ Zq191 (fun _ _ _ _ _ _ us hl => match us, hl with | [_, _, _], _ => rfl) (fun vs H Q E h => ?_) (fun f cdv A outer s H vs Q E hr h => ?_)
  · obtain ⟨l, g, c, ss, t, kvs, rfl, _⟩ := h
    rfl
  · obtain ⟨l, g, c, ss, t, kvs, rfl, ⟨us, hl, hrep⟩, ht, ⟨L1, L2', _, _⟩, hg, k⟩ := h
    refine ⟨_, (Zq4 (Zq12 (i := 3) Zq191.nd Nq50 (Zq10 Zq21 (qvN 0 Nq226) (qvN 1 Nq85) (fun _ _ => rfl)))
 (Zq6 (Zq14 (Zq18 Zq105 (Zq18 Zq105 (Zq8 Zq238 (hr.mono (by omega)) Nq139 (Zq1 (qvN 1 Nq85) (Zq1 (Zq10 Zq17 (qvN 3 Nq50) (Zq24 Nq224 c_ONES r_ONES) (fun _ _ => rfl)) (Zq1 (qvN 2 Nq138) Zq2)))) (Zq8 Zq238 (hr.mono (by omega)) Nq139 (Zq1 (qvN 1 Nq85) (Zq1 (Zq10 Zq17 (qvN 3 Nq50) (Zq24 Nq225 c_OTHERS r_OTHERS) (fun _ _ => rfl)) (Zq1 (qvN 2 Nq138) Zq2))))) (Zq10 Zq17 (qvN 3 Nq50) (Zq24 Nq223 c_NEED r_NEED) (fun _ _ => rfl)))))), ?_⟩
    obtain ⟨ta, u1, u2, u4, hu, hta, h1, h2, h4⟩ := SuitsAt.get (l := l) hrep ht
    refine ⟨_, rfl, _, rfl, l, us, c, .ref ta, rfl, rfl, SqL.of hl, Zq40 hu, ?_⟩
    refine ⟨_, rfl, _, rfl, ta, _, 0, u1, rfl, rfl, SqT.of hta, rfl, _, rfl, c, u1, g, t.ones, kvs, rfl, h1, L1, hg, fun H1 s1 => ?_⟩
    refine ⟨_, rfl, _, rfl, ta, _, 1, u2, rfl, rfl, SqT.of (s1 _ _ hta), rfl, _, rfl, c, u2, g, t.others, kvs, rfl, h2.mono s1, L2', s1 _ _ hg, fun H2 s2 => ?_⟩
    refine ⟨_, _, rfl, rfl, _, rfl, ta, _, 2, _, rfl, rfl, SqT.of (s2 _ _ (s1 _ _ hta)), rfl, _, _, rfl, rfl, k H2 (s1.trans s2)⟩
end
section
variable {P : Program} {w : World} {K : PySem.W.Frag} {mg : Str -> Option Value} {base : Heap}
abbrev Oath := Int × Str
def Zq34 (more : List Oath) : Nat -> List Suit -> List Bool × List Oath
  | _, [] => ([], more)
  | i, t :: r =>
    (decide (0 <= marg (fun c n => decide ((c, n) ∈ (Zq34 more (i + 1) r).2)) i t) :: (Zq34 more (i + 1) r).1,
      if decide (0 <= marg (fun c n => decide ((c, n) ∈ (Zq34 more (i + 1) r).2)) i t) = true then (Zq34 more (i + 1) r).2 ++ t.named.toList else (Zq34 more (i + 1) r).2)
theorem settL_len (more : List Oath) : ∀ (ss : List Suit) (i : Nat), (Zq34 more i ss).1.length = ss.length
  | [], _ => rfl
  | t :: r, i => by rw [Zq34, List.length_cons, settL_len more r (i + 1), List.length_cons]
def GoneIs (kvs : Gone) (gn : List Oath) : Prop := ∀ c n, brk kvs c n = decide ((c, n) ∈ gn)
theorem GoneIs.put {kvs : Gone} {gn : List Oath} {c : Int} {n : Str} {v : V} (h : GoneIs kvs gn) : GoneIs (putK kvs (okey c n) v) (gn ++ [(c, n)]) := by
  intro c' n'
  unfold brk
  rw [Zq112]
  by_cases e : okey c' n' = okey c n
  · rw [if_pos e]
    have e' : (c', n') = (c, n) := by
      unfold okey at e
      injection e with e1 e2
      injection e2 with e2 _
      cases e1
      cases e2
      rfl
    rw [e']
    exact (decide_eq_true (List.mem_append_right _ (List.mem_singleton.mpr rfl))).symm
  · rw [if_neg e]
    refine (h c' n').trans ?_
    have e' : ¬ (c', n') = (c, n) := fun z => e (by injection z with z1 z2; rw [z1, z2])
    have : ((c', n') ∈ gn ++ [(c, n)]) ↔ ((c', n') ∈ gn) := by rw [List.mem_append, List.mem_singleton]; exact ⟨fun z => z.elim id (fun z => absurd z e'), .inl⟩
    rw [decide_eq_decide]
    exact this.symm
theorem set_rep (r : List Bool) (b : Bool) : ∀ c : Nat, ((List.replicate (c + 1) false ++ r).map V.bl).set c (.bl b) = (List.replicate c false ++ (b :: r)).map V.bl
  | 0 => rfl
  | c + 1 => by
    rw [List.replicate_succ, List.cons_append, List.map_cons, List.set_cons_succ, set_rep r b c, List.replicate_succ, List.cons_append, List.map_cons]
theorem get_rep (r : List Bool) (b : Bool) : ∀ c : Nat, ((List.replicate c false ++ (b :: r)).map V.bl)[c]? = some (.bl b)
  | 0 => rfl
  | c + 1 => by
    rw [List.replicate_succ, List.cons_append, List.map_cons, List.getElem?_cons_succ]
    exact get_rep r b c
theorem ixN_nat {n c : Nat} (h : c < n) : ixN n (c : Int) = some c := by
  unfold ixN
  rw [if_pos (by omega), if_pos (by omega), Int.toNat_natCast]
def spSettW : Sp := fun vs H Q _ => ∃ (l m : Addr) (ss : List Suit) (ms : List V) (more : List Oath), vs = [.ref l, .ref m] /\ SuitsAt H ss l /\ (∀ t ∈ ss, Zq96 t) /\ ss.length <= 1000 /\ H m = some (.lst ms) /\ RepL H (more.map fun x => Zq152 (some x)) ms /\ more.length <= 1000 /\
  ∀ (l2 : Addr) (H' : Hp), H l2 = none -> H' l2 = some (.lst ((Zq34 more 0 ss).1.map V.bl)) -> Same H H' -> Q (.ref l2) H'
abbrev Zq36 : Stmt := top 13
theorem Zq111 : FnScope ["suits", "more", "gone", "oath", "standing", "case"] ["suits", "more"] (Zq0 Zq36) := ⟨rfl, rfl, rfl, by decide +kernel, rfl, by decide +kernel, by decide +kernel⟩
theorem Nq140 : Nm (Zq0 Zq36) "NAMED" .globalImplicit := by decide +kernel
theorem Nq20 : Nm (Zq0 Zq36) "case" .local := by decide +kernel
theorem Nq51 : Nm (Zq0 Zq36) "gone" .local := by decide +kernel
theorem Nq141 : Nm (Zq0 Zq36) "len" .globalImplicit := by decide +kernel
theorem Nq227 : Nm (Zq0 Zq36) "margin_without" .globalImplicit := by decide +kernel
theorem Nq228 : Nm (Zq0 Zq36) "more" .local := by decide +kernel
theorem Nq142 : Nm (Zq0 Zq36) "oath" .local := by decide +kernel
theorem Nq229 : Nm (Zq0 Zq36) "range" .globalImplicit := by decide +kernel
theorem Nq52 : Nm (Zq0 Zq36) "standing" .local := by decide +kernel
theorem Nq31 : Nm (Zq0 Zq36) "suits" .local := by decide +kernel
theorem Zq263 (Zq171 : Has K mg "settled_with" Zq36) (T : Txt mg) (C3 : ∃ t, mg "NAMED" = some (.int 3 t))
    (Zq252 : Fn P w K mg base "margin_without" ["suits", "case", "gone"] 2 spMargin) : Fn P w K mg base "settled_with" ["suits", "more"] 3 spSettW := by
  obtain ⟨t3, c_NAMED⟩ := C3
  have r_NAMED : RelV (.int 3) (.int 3 t3) := ⟨t3, rfl⟩
  refine Zq171.fnQ Zq111 (fun _ _ _ _ _ _ us hl => match us, hl with | [_, _], _ => rfl) (fun vs H Q E h => ?_) (fun f cdv A outer s H vs Q E hr h => ?_)
  · obtain ⟨l, m, ss, ms, more, rfl, _⟩ := h
    rfl
  · obtain ⟨l, m, ss, ms, more, rfl, hsu, hok, hlen, hm, hms, hml, k⟩ := h
    refine ⟨_, (Zq4 (Zq12 (i := 2) Zq111.nd Nq51 qe_dnewT)
 (Zq4 (Zq64 PassesOwn.never rfl (Zq28 (qvN 1 Nq228)) (Zq27 (i := 3) Zq111.nd Nq142)
  (Zq6 (qs_dput hr (qvN 2 Nq51) (qvN 3 Nq142) Zq56)))
 (Zq4 (Zq12 (i := 4) Zq111.nd Nq52 (Zq18 qop_rep (Zq83 (Zq1 Zq56 Zq2)) (Zq11 Zq13 Nq141 T.len Zq39 (Zq1 (qvN 0 Nq31) Zq2))))
 (Zq4 (Zq64 PassesOwn.never rfl (qi_rangeDown Nq229.1 T.range (Zq1 (Zq18 Zq105 (Zq11 Zq13 Nq141 T.len Zq39 (Zq1 (qvN 0 Nq31) Zq2)) Zq5) (Zq1 (qe_un qop_neg Zq5) (Zq1 (qe_un qop_neg Zq5) Zq2)))) (Zq27 (i := 5) Zq111.nd Nq20)
  (Zq4 (Zq160 (Zq62 qop_ge (Zq8 Zq252 (hr.mono (by omega)) Nq227 (Zq1 (qvN 0 Nq31) (Zq1 (qvN 5 Nq20) (Zq1 (qvN 2 Nq51) Zq2)))) Zq5 (Zq19 _)) (Zq196 (qvN 4 Nq52) (qvN 5 Nq20) Zq139))
 (Zq6 (Zq23 (QW.pt (qw_and (Zq95 (Zq10 Zq21 (qvN 4 Nq52) (qvN 5 Nq20) (fun _ _ => rfl))) (qw_and1 (Zq15 qop_notN (Zq10 Zq17 (Zq10 Zq21 (qvN 0 Nq31) (qvN 5 Nq20) (fun _ _ => rfl)) (Zq24 Nq140 c_NAMED r_NAMED) (fun _ _ => rfl)) Zq178 (Zq19 _))))) (Zq6 (qs_dput hr (qvN 2 Nq51) (Zq10 Zq17 (Zq10 Zq21 (qvN 0 Nq31) (qvN 5 Nq20) (fun _ _ => rfl)) (Zq24 Nq140 c_NAMED r_NAMED) (fun _ _ => rfl)) Zq56)) Zq20))))
 (Zq6 (Zq14 (qvN 4 Nq52))))))), ?_⟩
    have hz : (5000 : Nat) <= sizeLine := by decide
    refine fun g hg => ?_
    have S0 : Same H (upd H g (.dT [])) := Same.new hg
    have hml' : ms.length = more.length := by have := hms.length; rw [List.length_map] at this; exact this
    refine ⟨_, rfl, m, rfl, ⟨_, SqL.of (S0 _ _ hm)⟩, ?_⟩
    refine Zq71 ms (fun i σ H' => ∃ (kvs : Gone) (v3 : Option V), σ = [some (.ref l), some (.ref m), some (.ref g), v3, none, none] /\ H' g = some (.dT kvs) /\ GoneIs kvs (more.take i) /\ kvs.length <= i /\ Same H H') ⟨[], none, rfl, Zq3, fun c n => rfl, Nat.le_refl _, S0⟩ (fun i σ H' _ ⟨_, _, _, _, _, _, e⟩ => SqL.of (e _ _ hm)) ?_ ?_
    · rintro i x σ H' hx ⟨kvs, v3, rfl, hg', hgi, hkl, sm⟩
      obtain ⟨d, hd, hrd⟩ := hms.get hx
      rw [List.getElem?_map] at hd
      obtain ⟨⟨c, n⟩, ho⟩ : ∃ o, more[i]? = some o := by cases e : more[i]? with | none => rw [e] at hd; cases hd | some t => exact ⟨t, rfl⟩
      rw [ho] at hd
      cases hd
      obtain ⟨b, bs, rfl, hb, ⟨y1, r1, rfl, e1, ⟨y2, r2, rfl, e2, e3⟩⟩⟩ := hrd
      cases e1
      cases e2
      cases e3
      have hi : i < ms.length := (List.getElem?_eq_some_iff.mp hx).1
      refine ⟨_, rfl, _, rfl, g, _, rfl, DPut.t hg' (k := okey c n) (sm _ _ hb) (by omega), ?_⟩
      refine ⟨_, _, rfl, Zq3, ?_, Nat.le_trans (Zq72 _ _ _) (by omega), ?_⟩
      · rw [List.take_add_one, ho]
        exact hgi.put
      · intro b' o e
        rw [Zq7 (fun z => by rw [z, hg] at e; cases e)]
        exact sm b' o e
    · rintro σ H1 ⟨kvs, v3, rfl, hg1, hgi, hkl, sm1⟩
      rw [hml', List.take_length] at hgi
      obtain ⟨us, hl1, hrep1⟩ := hsu.mono sm1
      have hul : us.length = ss.length := by have := hrep1.length; rw [List.length_map] at this; exact this
      refine ⟨by show 1 <= sizeLine; omega, fun q hq => ?_⟩
      have S2 := Same.new (o := .lst [.bl false]) hq
      have k2 : (upd H1 q (.lst [.bl false])) q = some (.lst [.bl false]) := Zq3
      generalize (upd H1 q (.lst [.bl false])) = H2 at S2 k2 ⊢
      refine ⟨_, rfl, l, us, rfl, .inl (SqL.of (S2 _ _ hl1)), q, _, _, rfl, rfl, k2, by omega, by omega, ?_, fun st hst => ?_⟩
      · rw [Int.toNat_natCast, hul]; show 1 * ss.length <= sizeLine; omega
      have hstH : H st = none := (sm1.trans S2).free hst
      have hgst : g ≠ st := fun z => by rw [← z, S2 _ _ hg1] at hst; cases hst
      have S3 := Same.new (o := .lst (List.replicate (us.length : Int).toNat [V.bl false]).flatten) hst
      have k3 : (upd H2 st (.lst (List.replicate (us.length : Int).toNat [V.bl false]).flatten)) st = some (.lst ((List.replicate ss.length false).map V.bl)) := by
        rw [Zq3, Int.toNat_natCast, hul]
        have : ∀ n : Nat, (List.replicate n [V.bl false]).flatten = (List.replicate n false).map V.bl := by
          intro n
          induction n with
          | zero => rfl
          | succ n ih => rw [List.replicate_succ, List.flatten_cons, ih, List.replicate_succ, List.map_cons]; rfl
        rw [this]
      generalize (upd H2 st (.lst (List.replicate (us.length : Int).toNat [V.bl false]).flatten)) = H3 at S3 k3 ⊢
      have S13 := S2.trans S3
      have sm3 := sm1.trans S13
      refine ⟨_, rfl, l, us, rfl, .inl (SqL.of (S13 _ _ hl1)), _, _, rfl, rfl, _, rfl, _, rfl, _, _, rfl, ⟨by omega, by omega, by decide, by decide⟩, ?_⟩
      refine forW_down ss.length (by omega) (fun i σ H' => ∃ (kvs : Gone) (v3 v5 : Option V), σ = [some (.ref l), some (.ref m), some (.ref g), v3, some (.ref st), v5] /\
          H' st = some (.lst ((List.replicate (ss.length - i) false ++ (Zq34 more (ss.length - i) (ss.drop (ss.length - i))).1).map V.bl)) /\ H' g = some (.dT kvs) /\ GoneIs kvs (Zq34 more (ss.length - i) (ss.drop (ss.length - i))).2 /\ kvs.length <= 1000 + i /\ Same H H')
        ⟨kvs, _, none, rfl, ?_, S13 _ _ hg1, ?_, by omega, sm3⟩ ?_ ?_
      · rw [Nat.sub_zero, List.drop_length, Zq34, List.append_nil]; exact k3
      · rw [Nat.sub_zero, List.drop_length, Zq34]; exact hgi
      · rintro i σ H' hi ⟨kvs, v3, v5, rfl, hst', hg', hgi', hkl', sm'⟩
        obtain ⟨c, hc⟩ : ∃ c, ss.length - i = c + 1 := ⟨ss.length - i - 1, by omega⟩
        have hc2 : ss.length - (i + 1) = c := by omega
        have hcl : c < ss.length := by omega
        have ec : ((us.length : Int) - 1 - (i : Nat)) = ((c : Nat) : Int) := by omega
        rw [hc] at hst' hgi'
        rw [ec, hc2]
        have ht : ss[c]? = some ss[c] := List.getElem?_eq_getElem hcl
        have htm : ss[c] ∈ ss := List.getElem_mem hcl
        have ed : ss.drop c = ss[c] :: ss.drop (c + 1) := List.drop_eq_getElem_cons hcl
        rw [ed]
        generalize ss[c] = t at ht htm ed ⊢
        obtain ⟨us', hl', hrep'⟩ := hsu.mono sm'
        have hg'' : brk kvs = fun (a : Int) (n : Str) => decide ((a, n) ∈ (Zq34 more (c + 1) (ss.drop (c + 1))).2) := funext fun a => funext fun b => hgi' a b
        have hset : Zq34 more c (t :: ss.drop (c + 1)) = (decide (0 <= marg (brk kvs) c t) :: (Zq34 more (c + 1) (ss.drop (c + 1))).1, if decide (0 <= marg (brk kvs) c t) = true then (Zq34 more (c + 1) (ss.drop (c + 1))).2 ++ t.named.toList else (Zq34 more (c + 1) (ss.drop (c + 1))).2) := by rw [hg'', Zq34]
        rw [hset]
        generalize Zq34 more (c + 1) (ss.drop (c + 1)) = R at hst' hgi' ⊢
        refine ⟨_, rfl, _, rfl, _, rfl, l, g, c, ss, t, kvs, rfl, hsu.mono sm', ht, hok t htm, hg', fun H4 s4 => ?_⟩
        have hst4 := s4 _ _ hst'
        refine ⟨marg (brk kvs) c t, 0, rfl, rfl, _, rfl, _, rfl, st, _, c, c, rfl, rfl, hst4, ?_, ?_⟩
        · exact ixN_nat (by rw [List.length_map, List.length_append, List.length_replicate]; omega)
        dsimp only
        generalize decide (0 <= marg (brk kvs) c t) = b
        rw [set_rep]
        have sm5 : Same H (upd H4 st (.lst ((List.replicate c false ++ (b :: R.1)).map V.bl))) := fun x o e => by
          rw [Zq7 (fun z => by rw [z, hstH] at e; cases e)]
          exact s4 _ _ (sm' _ _ e)
        have k5 : (upd H4 st (.lst ((List.replicate c false ++ (b :: R.1)).map V.bl))) st = some (.lst ((List.replicate c false ++ (b :: R.1)).map V.bl)) := Zq3
        have hg5 : (upd H4 st (.lst ((List.replicate c false ++ (b :: R.1)).map V.bl))) g = some (.dT kvs) := by rw [Zq7 hgst]; exact s4 _ _ hg'
        generalize (upd H4 st (.lst ((List.replicate c false ++ (b :: R.1)).map V.bl))) = H5 at sm5 k5 hg5 ⊢
        obtain ⟨us5, hl5, hrep5⟩ := hsu.mono sm5
        obtain ⟨ta, u1, u2, u4, hu, hta, h1, h2, h4⟩ := SuitsAt.get (l := l) hrep5 ht
        refine ⟨_, rfl, _, rfl, st, _, c, .bl b, rfl, rfl, SqL.of k5, Zq40 (get_rep ..), b, rfl, ?_⟩
        cases b with
        | false =>
          refine iteF (iteF ?_)
          exact ⟨kvs, _, _, rfl, k5, hg5, hgi', by omega, sm5⟩
        | true =>
          refine iteT ?_
          refine ⟨_, rfl, _, rfl, l, us5, c, .ref ta, rfl, rfl, SqL.of hl5, Zq40 hu, ta, _, 3, u4, rfl, rfl, SqT.of hta, rfl, rfl, _, rfl, ?_⟩
          cases hn : t.named with
          | none =>
            rw [hn] at h4
            cases h4
            refine iteF ?_
            exact ⟨kvs, _, _, rfl, k5, hg5, by show GoneIs kvs (R.2 ++ []); rw [List.append_nil]; exact hgi', by omega, sm5⟩
          | some o =>
            rw [hn] at h4
            obtain ⟨oc, on⟩ := o
            obtain ⟨d, bs, rfl, hb, ⟨y1, r1, rfl, e1, ⟨y2, r2, rfl, e2, e3⟩⟩⟩ := h4
            cases e1
            cases e2
            cases e3
            refine iteT ?_
            refine ⟨_, rfl, _, rfl, _, rfl, l, us5, c, .ref ta, rfl, rfl, SqL.of hl5, Zq40 hu, ta, _, 3, .ref d, rfl, rfl, SqT.of hta, rfl, ?_⟩
            refine ⟨g, _, rfl, DPut.t hg5 (k := okey oc on) hb (by omega), ?_⟩
            refine ⟨_, _, _, rfl, by rw [Zq7 hgst.symm]; exact k5, Zq3, hgi'.put, Nat.le_trans (Zq72 _ _ _) (by omega), ?_⟩
            intro b' o e
            rw [Zq7 (fun z => by rw [z, hg] at e; cases e)]
            exact sm5 b' o e
      · rintro σ H' ⟨kvs, v3, v5, rfl, hst', hg', hgi', hkl', sm'⟩
        rw [Nat.sub_self] at hst'
        exact ⟨_, rfl, k st H' hstH hst' sm'⟩
end
section
variable {P : Program} {w : World} {K : PySem.W.Frag} {mg : Str -> Option Value} {base : Heap}
def spSett : Sp := fun vs H Q _ => ∃ (l : Addr) (ss : List Suit), vs = [.ref l] /\ SuitsAt H ss l /\ (∀ t ∈ ss, Zq96 t) /\ ss.length <= 1000 /\
  ∀ (l2 : Addr) (H' : Hp), H l2 = none -> H' l2 = some (.lst ((Zq34 [] 0 ss).1.map V.bl)) -> Same H H' -> Q (.ref l2) H'
abbrev Zq183 : Stmt := top 12
theorem Zq319 : FnScope ["suits"] ["suits"] (Zq0 Zq183) := ⟨rfl, rfl, rfl, by decide +kernel, rfl, by decide +kernel, by decide +kernel⟩
theorem Nq230 : Nm (Zq0 Zq183) "settled_with" .globalImplicit := by decide +kernel
theorem Nq231 : Nm (Zq0 Zq183) "suits" .local := by decide +kernel
theorem Zq327 (Zq240 : Has K mg "settled" Zq183) (T : Txt mg) (Zq264 : Fn P w K mg base "settled_with" ["suits", "more"] 3 spSettW) : Fn P w K mg base "settled" ["suits"] 4 spSett := by
  refine Zq240.fnQ Zq319 (fun _ _ _ _ _ _ us hl => match us, hl with | [_], _ => rfl) (fun vs H Q E h => ?_) (fun f cdv A outer s H vs Q E hr h => ?_)
  · obtain ⟨l, ss, rfl, _⟩ := h
    rfl
  · obtain ⟨l, ss, rfl, hsu, hok, hlen, k⟩ := h
    refine ⟨_, (Zq6 (Zq14 (Zq8 Zq264 (hr.mono (by omega)) Nq230 (Zq1 (qvN 0 Nq231) (Zq1 (Zq83 Zq2) Zq2))))), ?_⟩
    refine ⟨_, rfl, by show 0 <= sizeLine; omega, fun q hq => ?_⟩
    have S := Same.new (o := .lst []) hq
    exact ⟨l, q, ss, [], [], rfl, hsu.mono S, hok, hlen, Zq3, rfl, Nat.zero_le _, fun l2 H' h1 h2 h3 => k l2 H' (S.free h1) h2 (S.trans h3)⟩
def Brok (bs : List Bool) (ss : List Suit) (c : Nat) (n : Str) : Prop := ∃ j t, c < j /\ ss[j]? = some t /\ bs[j]? = some true /\ t.named = some ((c : Int), n)
end
section
variable {P : Program} {w : World} {K : PySem.W.Frag} {mg : Str -> Option Value} {base : Heap}
theorem settL_drop (more : List Oath) : ∀ (k : Nat) (ss : List Suit) (i : Nat), (Zq34 more i ss).1.drop k = (Zq34 more (i + k) (ss.drop k)).1
  | 0, ss, i => rfl
  | k + 1, [], i => by rw [List.drop_nil, Zq34, Zq34, List.drop_nil]
  | k + 1, t :: r, i => by
    rw [Zq34, List.drop_succ_cons, List.drop_succ_cons, settL_drop more k r (i + 1)]
    have : i + 1 + k = i + (k + 1) := by omega
    rw [this]
theorem settL_mem (more : List Oath) (x : Oath) : ∀ (r : List Suit) (i : Nat), x ∈ (Zq34 more i r).2 ↔ x ∈ more \/ ∃ (j : Nat) (t : Suit), r[j]? = some t /\ (Zq34 more i r).1[j]? = some true /\ t.named = some x
  | [], i => by rw [Zq34]; exact ⟨.inl, fun h => h.elim id fun ⟨j, t, e, _⟩ => by simp at e⟩
  | t :: r, i => by
    have ih := settL_mem more x r (i + 1)
    rw [Zq34]
    generalize decide (0 <= marg (fun c n => decide ((c, n) ∈ (Zq34 more (i + 1) r).2)) i t) = b
    dsimp only
    have tail : (∃ (j : Nat) (u : Suit), (t :: r)[j]? = some u /\ (b :: (Zq34 more (i + 1) r).1)[j]? = some true /\ u.named = some x) ↔ (b = true /\ t.named = some x) \/ ∃ (j : Nat) (u : Suit), r[j]? = some u /\ (Zq34 more (i + 1) r).1[j]? = some true /\ u.named = some x := by
      constructor
      · rintro ⟨j, u, e1, e2, e3⟩
        cases j with
        | zero =>
          have e1 : some t = some u := e1
          have e2 : some b = some true := e2
          cases e1
          exact .inl ⟨Option.some.inj e2, e3⟩
        | succ j => exact .inr ⟨j, u, e1, e2, e3⟩
      · rintro (⟨rfl, e⟩ | ⟨j, u, e1, e2, e3⟩)
        · exact ⟨0, t, rfl, rfl, e⟩
        · exact ⟨j + 1, u, e1, e2, e3⟩
    rw [tail]
    cases b with
    | false =>
      rw [if_neg Bool.false_ne_true, ih]
      exact ⟨fun h => h.imp id .inr, fun h => h.imp id fun z => z.elim (fun q => nomatch q.1) id⟩
    | true =>
      rw [if_pos rfl, List.mem_append, ih, Option.mem_toList]
      constructor
      · rintro ((h | h) | h)
        · exact .inl h
        · exact .inr (.inr h)
        · exact .inr (.inl ⟨rfl, h⟩)
      · rintro (h | ⟨_, h⟩ | h)
        · exact .inl (.inl h)
        · exact .inr h
        · exact .inl (.inr h)
theorem settL_at {ss : List Suit} {c : Nat} {t : Suit} (ht : ss[c]? = some t) : ∃ br : Int -> Str -> Bool, (∀ n, br c n = true ↔ Brok (Zq34 [] 0 ss).1 ss c n) /\ (Zq34 [] 0 ss).1[c]? = some (decide (0 <= marg br c t)) := by
  have hc := (List.getElem?_eq_some_iff.mp ht).1
  have ed : ss.drop c = t :: ss.drop (c + 1) := by
    have := List.drop_eq_getElem_cons hc
    rw [this]
    have e := List.getElem?_eq_getElem hc
    rw [ht] at e
    rw [Option.some.inj e]
  refine ⟨fun a n => decide ((a, n) ∈ (Zq34 [] (c + 1) (ss.drop (c + 1))).2), fun n => ?_, ?_⟩
  · rw [decide_eq_true_iff, settL_mem]
    have e1 := settL_drop [] (c + 1) ss 0
    rw [Nat.zero_add] at e1
    rw [← e1]
    constructor
    · rintro (h | ⟨j, u, a1, a2, a3⟩)
      · cases h
      · rw [List.getElem?_drop] at a1 a2
        exact ⟨c + 1 + j, u, by omega, a1, a2, a3⟩
    · rintro ⟨j, u, a0, a1, a2, a3⟩
      refine .inr ⟨j - (c + 1), u, ?_, ?_, a3⟩
      · rw [List.getElem?_drop, show c + 1 + (j - (c + 1)) = j by omega]; exact a1
      · rw [List.getElem?_drop, show c + 1 + (j - (c + 1)) = j by omega]; exact a2
  · have e0 := settL_drop [] c ss 0
    rw [Nat.zero_add, ed, Zq34] at e0
    have : (Zq34 [] 0 ss).1[c]? = ((Zq34 [] 0 ss).1.drop c)[0]? := by rw [List.getElem?_drop, Nat.add_zero]
    rw [this, e0]
    rfl
theorem rep_bls {H : Hp} : ∀ bs : List Bool, RepL H (bs.map D.bl) (bs.map V.bl)
  | [] => rfl
  | b :: bs => ⟨.bl b, _, rfl, rfl, rep_bls bs⟩
theorem deep_suits (ss : List Suit) : (D.lst (ss.map Zq86)).deep <= 4 := by
  have h1 : ∀ s : Side, (Zq233 s).deep <= 2 := by
    intro s
    have : ∀ s : Side, Zq97 (s.map oathD) <= 1 := by
      intro s
      induction s with
      | nil => exact Nat.zero_le _
      | cons p r ih => rw [List.map_cons, Zq97]; show max 1 _ <= 1; omega
    have := this s
    show Zq97 (s.map oathD) + 1 <= 2
    omega
  have h2 : ∀ o, (Zq152 o).deep <= 2 := by
    intro o
    cases o with
    | none => exact Nat.zero_le _
    | some o => obtain ⟨a, b⟩ := o; show max 0 (max 0 0) + 1 <= 2; omega
  have h3 : ∀ t : Suit, (Zq86 t).deep <= 3 := by
    intro t
    have a := h1 t.ones
    have b := h1 t.others
    have c := h2 t.named
    show max (Zq233 t.ones).deep (max (Zq233 t.others).deep (max 0 (max (Zq152 t.named).deep 0))) + 1 <= 3
    omega
  have h4 : Zq97 (ss.map Zq86) <= 3 := by
    induction ss with
    | nil => exact Nat.zero_le _
    | cons t r ih => rw [List.map_cons, Zq97]; have := h3 t; omega
  show Zq97 (ss.map Zq86) + 1 <= 4
  omega
end
section
structure Ent where
  c : Nat
  st : Bool
  ns : List Str
def entD (e : Ent) : D := .tup [.int e.c, .bl e.st, .lst (e.ns.map D.str)]
theorem strs_of {H : Hp} : ∀ {ns : List Str} {vs : List V}, RepL H (ns.map D.str) vs -> vs = ns.map V.str
  | [], _, h => h
  | n :: ns, _, ⟨v, r, e, h1, h2⟩ => by
    cases h1
    rw [e, strs_of h2]
    rfl
theorem strs_mk {H : Hp} : ∀ ns : List Str, RepL H (ns.map D.str) (ns.map V.str)
  | [] => rfl
  | n :: ns => ⟨.str n, ns.map V.str, rfl, rfl, strs_mk ns⟩
theorem ent_inv {H : Hp} {e : Ent} {v : V} (h : Rep H (entD e) v) : ∃ a na, v = .ref a /\ H a = some (.tup [.int e.c, .bl e.st, .ref na]) /\ H na = some (.lst (e.ns.map V.str)) := by
  obtain ⟨a, vs, ev, h1, ⟨u1, r1, rfl, a1, ⟨u2, r2, rfl, a2, ⟨u3, r3, rfl, a3, a4⟩⟩⟩⟩ := h
  cases a1
  cases a2
  cases a4
  obtain ⟨na, ws, rfl, h3, h4⟩ := a3
  exact ⟨a, na, ev, h1, by rw [h3, strs_of h4]⟩
theorem ent_mk {H : Hp} {e : Ent} {a na : Addr} (h1 : H a = some (.tup [.int e.c, .bl e.st, .ref na])) (h2 : H na = some (.lst (e.ns.map V.str))) : Rep H (entD e) (.ref a) :=
  ⟨a, _, rfl, h1, ⟨_, _, rfl, rfl, ⟨_, _, rfl, rfl, ⟨_, _, rfl, ⟨na, _, rfl, h2, strs_mk _⟩, rfl⟩⟩⟩⟩
def claimed (ns : List Str) (sd : Side) : Side := sd.filter fun p => decide (p.1 ∈ ns)
def Zq63 (t : Suit) (st : Bool) : Int := if st then t.need + (wts t.others).sum else (wts t.ones).sum - t.need + 1
def clBr (t : Suit) (st : Bool) (n : Str) : Bool := !decide (decide (n ∈ t.ones.map (·.1)) = st)
theorem named_lt {ss : List Suit} (hl : Line ss) {j c : Nat} {u : Suit} {n : Str} (hu : ss[j]? = some u) (hn : u.named = some ((c : Int), n)) : c < j := by
  obtain ⟨_, t, w, h, _⟩ := hl.back j u hu c n hn
  rw [Int.toNat_natCast] at h
  have := (List.getElem?_eq_some_iff.mp h).1
  rw [List.length_take] at this
  omega
end
section
structure EntI where
  c : Int
  st : Bool
  ns : List Str
def Zq44 (e : EntI) : D := .tup [.int e.c, .bl e.st, .lst (e.ns.map D.str)]
def EntI.toN (e : EntI) : Ent := ⟨e.c.toNat, e.st, e.ns⟩
def Ent.toI (e : Ent) : EntI := ⟨e.c, e.st, e.ns⟩
theorem entI_N {e : EntI} (h : 0 <= e.c) : Zq44 e = entD e.toN := by
  unfold Zq44 entD EntI.toN
  rw [show ((e.c.toNat : Nat) : Int) = e.c from Int.toNat_of_nonneg h]
theorem Zq157 {H : Hp} {e : EntI} {v : V} (h : Rep H (Zq44 e) v) : ∃ a na, v = .ref a /\ H a = some (.tup [.int e.c, .bl e.st, .ref na]) /\ H na = some (.lst (e.ns.map V.str)) := by
  obtain ⟨a, vs, ev, h1, ⟨u1, r1, rfl, a1, ⟨u2, r2, rfl, a2, ⟨u3, r3, rfl, a3, a4⟩⟩⟩⟩ := h
  cases a1
  cases a2
  cases a4
  obtain ⟨na, ws, rfl, h3, h4⟩ := a3
  exact ⟨a, na, ev, h1, by rw [h3, strs_of h4]⟩
theorem entI_mk {H : Hp} {e : EntI} {a na : Addr} (h1 : H a = some (.tup [.int e.c, .bl e.st, .ref na])) (h2 : H na = some (.lst (e.ns.map V.str))) : Rep H (Zq44 e) (.ref a) :=
  ⟨a, _, rfl, h1, ⟨_, _, rfl, rfl, ⟨_, _, rfl, rfl, ⟨_, _, rfl, ⟨na, _, rfl, h2, strs_mk _⟩, rfl⟩⟩⟩⟩
def Zq234 (H : Hp) (es : List EntI) (l : Addr) : Prop := ∃ us, H l = some (.lst us) /\ RepL H (es.map Zq44) us
theorem Zq143 {H : Hp} {es : List EntI} {us : List V} {i : Nat} {x : V} (h : RepL H (es.map Zq44) us) (hx : us[i]? = some x) : ∃ e, es[i]? = some e /\ Rep H (Zq44 e) x := by
  obtain ⟨d, hd, hr⟩ := h.get hx
  rw [List.getElem?_map] at hd
  obtain ⟨e, he, rfl⟩ := Option.map_eq_some_iff.mp hd
  exact ⟨e, he, hr⟩
end
section
variable {P : Program} {w : World} {K : PySem.W.Frag} {mg : Str -> Option Value} {base : Heap}
def Zq30 (cs : List Nat) : List V := cs.map fun (c : Nat) => V.int (c : Int)
def nmd (ss : List Suit) (c : Int) (n : Str) (j : Nat) : Bool := match ss[j]? with
  | some u => decide (u.named = some (c, n))
  | none => false
theorem nmd_iff {ss : List Suit} {c : Int} {n : Str} {j : Nat} : nmd ss c n j = true ↔ ∃ u, ss[j]? = some u /\ u.named = some (c, n) := by
  unfold nmd
  cases e : ss[j]? with
  | none => exact ⟨(fun z => nomatch z), (fun ⟨u, z, _⟩ => nomatch z)⟩
  | some u => exact ⟨fun z => ⟨u, rfl, of_decide_eq_true z⟩, fun ⟨v, z, q⟩ => by cases z; exact decide_eq_true q⟩
def jsOf (ss : List Suit) (c : Int) (n : Str) (cs : List Nat) : List Nat := cs.filter (nmd ss c n)
theorem js_succ {ss : List Suit} {c : Int} {n : Str} {cs : List Nat} {i j : Nat} (h : cs[i]? = some j) : jsOf ss c n (cs.take (i + 1)) = jsOf ss c n (cs.take i) ++ (if nmd ss c n j then [j] else []) := by
  unfold jsOf
  rw [List.take_add_one, h, List.filter_append]
  cases e : nmd ss c n j <;> simp [e]
theorem js_len (ss : List Suit) (c : Int) (n : Str) (cs : List Nat) : (jsOf ss c n cs).length <= cs.length := List.length_filter_le _ _
def NbAt (H : Hp) (g : Addr) (ss : List Suit) (cs : List Nat) : Prop := ∃ kvs : Gone, H g = some (.dT kvs) /\ kvs.length <= cs.length /\ (∀ p ∈ kvs, ∃ c n, p.1 = okey c n /\ jsOf ss c n cs ≠ []) /\ ∀ c n, (valV kvs (okey c n) = none /\ jsOf ss c n cs = []) \/ ∃ a, valV kvs (okey c n) = some (.ref a) /\ H a = some (.lst (Zq30 (jsOf ss c n cs)))
theorem NbAt.mono {H H' : Hp} {g : Addr} {ss : List Suit} {cs : List Nat} (h : NbAt H g ss cs) (k : Same H H') : NbAt H' g ss cs :=
  let ⟨kvs, h1, h0, h3, h2⟩ := h
  ⟨kvs, k _ _ h1, h0, h3, fun c n => (h2 c n).imp id fun ⟨a, e1, e2⟩ => ⟨a, e1, k _ _ e2⟩⟩
structure NbPre (H H' : Hp) (g : Addr) (ss : List Suit) (cs : List Nat) (kvs : Gone) : Prop where
  at_ : H' g = some (.dT kvs)
  len : kvs.length <= cs.length
  keys : ∀ p ∈ kvs, ∃ c n, p.1 = okey c n /\ jsOf ss c n cs ≠ []
  no : ∀ c n, valV kvs (okey c n) = none -> jsOf ss c n cs = []
  yes : ∀ c n v, valV kvs (okey c n) = some v -> ∃ a, v = .ref a /\ H a = none /\ a ≠ g /\ H' a = some (.lst (Zq30 (jsOf ss c n cs)))
  one : ∀ c n c' n' a, valV kvs (okey c n) = some (.ref a) -> valV kvs (okey c' n') = some (.ref a) -> (c, n) = (c', n')
def spNaming : Sp := fun vs H Q _ => ∃ (l lc : Addr) (ss : List Suit) (cs : List Nat), vs = [.ref l, .ref lc] /\ SuitsAt H ss l /\ cs.length <= 1000 /\ (∀ j ∈ cs, j < ss.length) /\ H lc = some (.lst (Zq30 cs)) /\
  ∀ (g : Addr) (H' : Hp), H g = none -> NbAt H' g ss cs -> (∀ kvs c n a, H' g = some (.dT kvs) -> valV kvs (okey c n) = some (.ref a) -> H a = none) -> Same H H' -> Q (.ref g) H'
theorem okey_inj {c c' : Int} {n n' : Str} (e : okey c n = okey c' n') : (c, n) = (c', n') := by
  unfold okey at e
  injection e with e1 e2
  injection e2 with e2 _
  cases e1
  cases e2
  rfl
theorem mem_putT {l : Gone} {k : List Key} {v : V} {p : List Key × V} (h : p ∈ putK l k v) : p = (k, v) \/ p ∈ l := by
  unfold putK at h
  split at h
  · obtain ⟨q, hq, e⟩ := List.mem_map.mp h
    split at e
    · rename_i e2
      rw [← e, e2]; exact .inl rfl
    · rw [← e]; exact .inr hq
  · rcases List.mem_append.mp h with z | z
    · exact .inr z
    · exact .inl (List.mem_singleton.mp z)
abbrev Zq123 : Stmt := top 16
theorem Zq215 : FnScope ["suits", "cases", "named_by", "case", "oath"] ["suits", "cases"] (Zq0 Zq123) := ⟨rfl, rfl, rfl, by decide +kernel, rfl, by decide +kernel, by decide +kernel⟩
theorem Nq232 : Nm (Zq0 Zq123) "NAMED" .globalImplicit := by decide +kernel
theorem Nq86 : Nm (Zq0 Zq123) "case" .local := by decide +kernel
theorem Nq233 : Nm (Zq0 Zq123) "cases" .local := by decide +kernel
theorem Nq87 : Nm (Zq0 Zq123) "named_by" .local := by decide +kernel
theorem Nq88 : Nm (Zq0 Zq123) "oath" .local := by decide +kernel
theorem Nq234 : Nm (Zq0 Zq123) "suits" .local := by decide +kernel
theorem Zq331 (Zq253 : Has K mg "naming" Zq123) (T : Txt mg) (C3 : ∃ t, mg "NAMED" = some (.int 3 t)) : Fn P w K mg base "naming" ["suits", "cases"] 1 spNaming := by
  obtain ⟨t3, c_NAMED⟩ := C3
  have r_NAMED : RelV (.int 3) (.int 3 t3) := ⟨t3, rfl⟩
  refine Zq253.fnQ Zq215 (fun _ _ _ _ _ _ us hl => match us, hl with | [_, _], _ => rfl) (fun vs H Q E h => ?_) (fun f cdv A outer s H vs Q E hr h => ?_)
  · obtain ⟨l, lc, ss, cs, rfl, _⟩ := h
    rfl
  · obtain ⟨l, lc, ss, cs, rfl, hsu, hlen, hcs, hlc, k⟩ := h
    refine ⟨_, (Zq4 (Zq12 (i := 2) Zq215.nd Nq87 qe_dnewT)
 (Zq4 (Zq64 PassesOwn.never rfl (Zq28 (qvN 1 Nq233)) (Zq27 (i := 3) Zq215.nd Nq86)
  (Zq4 (Zq12 (i := 4) Zq215.nd Nq88 (Zq10 Zq17 (Zq10 Zq21 (qvN 0 Nq234) (qvN 3 Nq86) (fun _ _ => rfl)) (Zq24 Nq232 c_NAMED r_NAMED) (fun _ _ => rfl)))
 (Zq6 (Zq23 (Zq15 qop_notN (qvN 4 Nq88) Zq178 (Zq19 _)) (Zq6 (Zq132 (Zq147 F.plainAttrs_list F.slot_list_append F.type_list_append Zq108 (qe_setdef hr (qvN 2 Nq87) (qvN 4 Nq88) (Zq83 Zq2)) (Zq1 (qvN 3 Nq86) Zq2)))) Zq20))))
 (Zq6 (Zq14 (qvN 2 Nq87))))), ?_⟩
    have hz : (5000 : Nat) <= sizeLine := by decide
    refine fun g hg => ?_
    have S0 : Same H (upd H g (.dT [])) := Same.new hg
    refine ⟨_, rfl, lc, rfl, ⟨_, SqL.of (S0 _ _ hlc)⟩, ?_⟩
    refine Zq71 (Zq30 cs) (fun i σ H' => ∃ (kvs : Gone) (v3 v4 : Option V), σ = [some (.ref l), some (.ref lc), some (.ref g), v3, v4] /\ NbPre H H' g ss (cs.take i) kvs /\ Same H H') ⟨[], none, none, rfl, ⟨Zq3, Nat.le_refl _, (fun p hp => nomatch hp), fun c n _ => rfl, (fun c n v e => nomatch e), (fun c n c' n' a e => nomatch e)⟩, S0⟩ (fun i σ H' _ ⟨_, _, _, _, _, e⟩ => SqL.of (e _ _ hlc)) ?_ ?_
    · rintro i x σ H' hx ⟨kvs, v3, v4, rfl, I, sm⟩
      have hi : i < cs.length := by
        have := (List.getElem?_eq_some_iff.mp hx).1
        unfold Zq30 at this
        rw [List.length_map] at this
        exact this
      obtain ⟨j, hcj, ex⟩ : ∃ j, cs[i]? = some j /\ x = .int (j : Int) := by
        unfold Zq30 at hx
        rw [List.getElem?_map] at hx
        obtain ⟨j, h1, h2⟩ := Option.map_eq_some_iff.mp hx
        exact ⟨j, h1, h2.symm⟩
      subst ex
      have tl : (cs.take i).length = i := by rw [List.length_take]; omega
      have tl1 : (cs.take (i + 1)).length = i + 1 := by rw [List.length_take]; omega
      have more : ∀ c n, jsOf ss c n (cs.take i) ≠ [] -> jsOf ss c n (cs.take (i + 1)) ≠ [] := fun c n h z => by
        rw [js_succ hcj] at z
        exact h (List.append_eq_nil_iff.mp z).1
      have hlen' := I.len
      rw [tl] at hlen'
      obtain ⟨t, ht⟩ : ∃ t, ss[j]? = some t := ⟨_, List.getElem?_eq_getElem (hcs j (List.mem_of_getElem? hcj))⟩
      obtain ⟨us, hl', hrep⟩ := hsu.mono sm
      obtain ⟨ta, u1, u2, u4, hu, hta, _, _, h4⟩ := SuitsAt.get (l := l) hrep ht
      refine ⟨_, rfl, _, rfl, l, us, j, .ref ta, rfl, rfl, SqL.of hl', Zq40 hu, ta, _, 3, u4, rfl, rfl, SqT.of hta, rfl, ?_⟩
      cases hn : t.named with
      | none =>
        rw [hn] at h4
        cases h4
        refine ⟨_, rfl, rfl, _, rfl, Zq103 (fun z => absurd rfl z) (fun _ => ?_)⟩
        have same : ∀ c n, jsOf ss c n (cs.take (i + 1)) = jsOf ss c n (cs.take i) := fun c n => by
          rw [js_succ hcj]
          have : nmd ss c n j = false := by
            cases e : nmd ss c n j with
            | false => rfl
            | true => obtain ⟨u, q1, q2⟩ := nmd_iff.mp e; rw [ht] at q1; cases q1; rw [hn] at q2; cases q2
          rw [this, if_neg Bool.false_ne_true, List.append_nil]
        exact ⟨kvs, _, _, rfl, ⟨I.at_, by omega, fun p hp => let ⟨c, n, e, h⟩ := I.keys p hp; ⟨c, n, e, more c n h⟩, fun c n e => by rw [same]; exact I.no c n e, fun c n v e => by rw [same]; exact I.yes c n v e, I.one⟩, sm⟩
      | some o =>
        rw [hn] at h4
        obtain ⟨c0, n0⟩ := o
        obtain ⟨b, bs, rfl, hb, ⟨y1, r1, rfl, e1, ⟨y2, r2, rfl, e2, e3⟩⟩⟩ := h4
        cases e1
        cases e2
        cases e3
        have mine : jsOf ss c0 n0 (cs.take (i + 1)) = jsOf ss c0 n0 (cs.take i) ++ [j] := by rw [js_succ hcj, nmd_iff.mpr ⟨t, ht, hn⟩, if_pos rfl]
        have same : ∀ c n, (c, n) ≠ (c0, n0) -> jsOf ss c n (cs.take (i + 1)) = jsOf ss c n (cs.take i) := fun c n hne => by
          rw [js_succ hcj]
          have : nmd ss c n j = false := by
            cases e : nmd ss c n j with
            | false => rfl
            | true => obtain ⟨u, q1, q2⟩ := nmd_iff.mp e; rw [ht] at q1; cases q1; rw [hn] at q2; exact absurd (Option.some.inj q2).symm hne
          rw [this, if_neg Bool.false_ne_true, List.append_nil]
        have snocV : Zq30 (jsOf ss c0 n0 (cs.take i)) ++ [V.int j] = Zq30 (jsOf ss c0 n0 (cs.take (i + 1))) := by rw [mine]; unfold Zq30; rw [List.map_append]; rfl
        have jl := js_len ss c0 n0 (cs.take i)
        rw [tl] at jl
        refine ⟨_, rfl, rfl, _, rfl, Zq103 (fun _ => ?_) (fun z => nomatch z)⟩
        refine ⟨_, rfl, g, rfl, .inr ⟨kvs, .inl I.at_⟩, _, rfl, by show 0 <= sizeLine; omega, fun q hq => ?_⟩
        have Sq := Same.new (o := .lst []) hq
        have kq : (upd H' q (.lst [])) q = some (.lst []) := Zq3
        have gq : q ≠ g := fun z => by rw [z, I.at_] at hq; cases hq
        have hqH : H q = none := sm.free hq
        generalize (upd H' q (.lst [])) = H1 at Sq kq ⊢
        have smq := sm.trans Sq
        refine ⟨kvs, okey c0 n0, b, Sq _ _ I.at_, rfl, Sq _ _ hb, by omega, fun v hv => ?_, fun hv => ?_⟩
        · obtain ⟨a, rfl, haf, hag, ha⟩ := I.yes c0 n0 v hv
          have ha1 := Sq _ _ ha
          refine ⟨.inl ⟨rfl, _, SqL.of ha1⟩, _, rfl, a, _, _, rfl, rfl, ha1, by unfold Zq30; rw [List.length_map]; omega, ?_⟩
          refine ⟨kvs, _, _, rfl, ⟨?_, by omega, fun p hp => let ⟨c, n, e, h⟩ := I.keys p hp; ⟨c, n, e, more c n h⟩, fun c n e => ?_, fun c n v e => ?_, I.one⟩, ?_⟩
          · rw [Zq7 hag.symm]; exact Sq _ _ I.at_
          · rw [same c n (fun z => by cases z; rw [hv] at e; cases e)]; exact I.no c n e
          · obtain ⟨a', rfl, h1, h2, h3⟩ := I.yes c n v e
            refine ⟨a', rfl, h1, h2, ?_⟩
            by_cases hk : (c, n) = (c0, n0)
            · cases hk
              rw [hv] at e
              cases e
              rw [Zq3, snocV]
            · rw [same c n hk, Zq7 (fun z => hk (by rw [z] at e; exact I.one c n c0 n0 a e hv))]
              exact Sq _ _ h3
          · intro b' o e
            rw [Zq7 (fun z => by rw [z, haf] at e; cases e)]
            exact smq b' o e
        · have hg2 : (upd H1 g (.dT (putK kvs (okey c0 n0) (.ref q)))) q = some (.lst []) := by rw [Zq7 gq]; exact kq
          refine ⟨.inl ⟨rfl, _, SqL.of hg2⟩, _, rfl, q, _, _, rfl, rfl, hg2, by show 0 < sizeLine; omega, ?_⟩
          have j0 := I.no c0 n0 hv
          refine ⟨putK kvs (okey c0 n0) (.ref q), _, _, rfl, ⟨?_, Nat.le_trans (Zq72 _ _ _) (by omega), fun p hp => ?_, fun c n e => ?_, fun c n v e => ?_, fun c n c' n' a e e' => ?_⟩, ?_⟩
          · rw [Zq7 gq.symm, Zq3]
          · rcases mem_putT hp with rfl | hp
            · exact ⟨c0, n0, rfl, by rw [mine]; simp⟩
            · obtain ⟨c, n, e, h⟩ := I.keys p hp
              exact ⟨c, n, e, more c n h⟩
          · rw [Zq112] at e
            by_cases hk : okey c n = okey c0 n0
            · rw [if_pos hk] at e; cases e
            · rw [if_neg hk] at e
              rw [same c n (fun z => hk (by cases z; rfl))]
              exact I.no c n e
          · rw [Zq112] at e
            by_cases hk : okey c n = okey c0 n0
            · rw [if_pos hk] at e
              cases e
              have hk' := okey_inj hk
              cases hk'
              exact ⟨q, rfl, hqH, gq, by rw [Zq3, mine, j0]; rfl⟩
            · rw [if_neg hk] at e
              obtain ⟨a', rfl, h1, h2, h3⟩ := I.yes c n v e
              refine ⟨a', rfl, h1, h2, ?_⟩
              have aq : a' ≠ q := fun z => by rw [z, hq] at h3; cases h3
              rw [same c n (fun z => hk (by cases z; rfl)), Zq7 aq, Zq7 h2]
              exact Sq _ _ h3
          · rw [Zq112] at e e'
            have no : ∀ c n, valV kvs (okey c n) = some (.ref q) -> False := fun c n z => by
              obtain ⟨a', z1, _, _, h3⟩ := I.yes c n _ z
              cases z1
              rw [hq] at h3
              cases h3
            by_cases hk : okey c n = okey c0 n0
            · by_cases hk' : okey c' n' = okey c0 n0
              · exact (okey_inj hk).trans (okey_inj hk').symm
              · rw [if_pos hk] at e
                rw [if_neg hk'] at e'
                cases e
                exact (no _ _ e').elim
            · rw [if_neg hk] at e
              by_cases hk' : okey c' n' = okey c0 n0
              · rw [if_pos hk'] at e'
                cases e'
                exact (no _ _ e).elim
              · rw [if_neg hk'] at e'
                exact I.one _ _ _ _ _ e e'
          · intro b' o e
            rw [Zq7 (fun z => by rw [z, hqH] at e; cases e), Zq7 (fun z => by rw [z, hg] at e; cases e)]
            exact smq b' o e
    · rintro σ H' ⟨kvs, v3, v4, rfl, I, sm⟩
      have el : (Zq30 cs).length = cs.length := by unfold Zq30; rw [List.length_map]
      rw [el, List.take_length] at I
      refine ⟨_, rfl, k g H' hg ⟨kvs, I.at_, I.len, I.keys, fun c n => ?_⟩ (fun kvs2 c n a e1 e2 => ?_) sm⟩
      · cases e : valV kvs (okey c n) with
        | none => exact .inl ⟨rfl, I.no c n e⟩
        | some v =>
          obtain ⟨a, rfl, _, _, h3⟩ := I.yes c n v e
          exact .inr ⟨a, rfl, h3⟩
      · rw [I.at_] at e1
        cases e1
        obtain ⟨a', z, hz', _, _⟩ := I.yes c n _ e2
        cases z
        exact hz'
end
section
variable {P : Program} {w : World} {K : PySem.W.Frag} {mg : Str -> Option Value} {base : Heap}
def spNamers : Sp := fun vs H Q _ => ∃ (l : Addr) (ss : List Suit), vs = [.ref l] /\ SuitsAt H ss l /\ ss.length <= 1000 /\ ∀ (g : Addr) (H' : Hp), NbAt H' g ss (List.range ss.length) -> Same H H' -> Q (.ref g) H'
abbrev Zq144 : Stmt := top 14
theorem Zq328 : FnScope ["suits"] ["suits"] (Zq0 Zq144) := ⟨rfl, rfl, rfl, by decide +kernel, rfl, by decide +kernel, by decide +kernel⟩
theorem Nq235 : Nm (Zq0 Zq144) "len" .globalImplicit := by decide +kernel
theorem Nq236 : Nm (Zq0 Zq144) "list" .globalImplicit := by decide +kernel
theorem Nq237 : Nm (Zq0 Zq144) "naming" .globalImplicit := by decide +kernel
theorem Nq238 : Nm (Zq0 Zq144) "range" .globalImplicit := by decide +kernel
theorem Nq143 : Nm (Zq0 Zq144) "suits" .local := by decide +kernel
theorem Zq332 (Zq254 : Has K mg "namers" Zq144) (T : Txt mg) (Zq255 : Fn P w K mg base "naming" ["suits", "cases"] 1 spNaming) : Fn P w K mg base "namers" ["suits"] 2 spNamers := by
  refine Zq254.fnQ Zq328 (fun _ _ _ _ _ _ us hl => match us, hl with | [_], _ => rfl) (fun vs H Q E h => ?_) (fun f cdv A outer s H vs Q E hr h => ?_)
  · obtain ⟨l, ss, rfl, _⟩ := h
    rfl
  · obtain ⟨l, ss, rfl, hsu, hlen, k⟩ := h
    refine ⟨_, (Zq6 (Zq14 (Zq8 Zq255 (hr.mono (by omega)) Nq237 (Zq1 (qvN 0 Nq143) (Zq1 (qe_lrng (by rfl) Nq236 T.list Nq238.1 T.range (Zq1 (Zq11 Zq13 Nq235 T.len Zq39 (Zq1 (qvN 0 Nq143) Zq2)) Zq2)) Zq2))))), ?_⟩
    obtain ⟨us, hl, hrep⟩ := id hsu
    have hul : us.length = ss.length := by have := hrep.length; rw [List.length_map] at this; exact this
    refine ⟨_, rfl, _, rfl, l, us, rfl, .inl (SqL.of hl), us.length, rfl, by omega, fun q hq => ?_⟩
    have S := Same.new (o := .lst (Zq30 (List.range us.length))) hq
    exact ⟨l, q, ss, List.range ss.length, rfl, hsu.mono S, by rw [List.length_range]; exact hlen, (fun j hj => List.mem_range.mp hj), by rw [← hul]; exact Zq3, fun g H' _ h1 _ h2 => k g H' h1 (S.trans h2)⟩
end
section
variable {P : Program} {w : World} {K : PySem.W.Frag} {mg : Str -> Option Value} {base : Heap}
def stT (bs : List Bool) (i : Nat) : List Nat := (List.range i).filter fun j => bs.getD j false
def stL (bs : List Bool) : List Nat := stT bs bs.length
theorem stT_succ {bs : List Bool} {i : Nat} {b : Bool} (h : bs[i]? = some b) : stT bs (i + 1) = stT bs i ++ (if b then [i] else []) := by
  unfold stT
  rw [List.range_succ, List.filter_append]
  cases b <;> simp [h]
theorem stT_len (bs : List Bool) (i : Nat) : (stT bs i).length <= i := Nat.le_trans (List.length_filter_le _ _) (by rw [List.length_range]; exact Nat.le_refl _)
theorem stL_mem {bs : List Bool} {j : Nat} : j ∈ stL bs ↔ bs[j]? = some true := by
  unfold stL stT
  rw [List.mem_filter, List.mem_range, List.getD_eq_getElem?_getD]
  constructor
  · rintro ⟨h1, h2⟩
    rw [List.getElem?_eq_getElem h1] at h2 ⊢
    exact congrArg some h2
  · intro h
    exact ⟨(List.getElem?_eq_some_iff.mp h).1, by rw [h]; rfl⟩
abbrev bsOf (ss : List Suit) : List Bool := (Zq34 [] 0 ss).1
def brk9 (ss : List Suit) (c : Int) (n : Str) : List Nat := jsOf ss c n (stL (bsOf ss))
theorem brk9_ne {ss : List Suit} {c : Int} {n : Str} : brk9 ss c n ≠ [] ↔ ∃ (j : Nat) (u : Suit), ss[j]? = some u /\ (bsOf ss)[j]? = some true /\ u.named = some (c, n) := by
  unfold brk9 jsOf
  rw [← List.isEmpty_eq_false_iff, List.isEmpty_eq_false_iff_exists_mem]
  constructor
  · rintro ⟨j, h⟩
    obtain ⟨h1, h2⟩ := List.mem_filter.mp h
    obtain ⟨u, a, b⟩ := nmd_iff.mp h2
    exact ⟨j, u, a, stL_mem.mp h1, b⟩
  · rintro ⟨j, u, a, b, c⟩
    exact ⟨j, List.mem_filter.mpr ⟨stL_mem.mpr b, nmd_iff.mpr ⟨u, a, c⟩⟩⟩
def spBreaking : Sp := fun vs H Q _ => ∃ (l : Addr) (ss : List Suit), vs = [.ref l] /\ SuitsAt H ss l /\ (∀ t ∈ ss, Zq96 t) /\ ss.length <= 1000 /\
  ∀ (g : Addr) (H' : Hp), H g = none -> NbAt H' g ss (stL (bsOf ss)) -> (∀ kvs c n a, H' g = some (.dT kvs) -> valV kvs (okey c n) = some (.ref a) -> H a = none) -> Same H H' -> Q (.ref g) H'
abbrev Zq124 : Stmt := top 15
theorem Zq304 : FnScope ["suits"] ["suits"] (Zq0 Zq124) := ⟨rfl, rfl, rfl, by decide +kernel, rfl, by decide +kernel, by decide +kernel⟩
theorem Nq239 : Nm (Zq0 Zq124) "enumerate" .globalImplicit := by decide +kernel
theorem Nq240 : Nm (Zq0 Zq124) "naming" .globalImplicit := by decide +kernel
theorem Nq241 : Nm (Zq0 Zq124) "settled" .globalImplicit := by decide +kernel
theorem Nq144 : Nm (Zq0 Zq124) "suits" .local := by decide +kernel
theorem Zq320 (Zq235 : Has K mg "breaking" Zq124) (T : Txt mg) (Zq184 : Fn P w K mg base "settled" ["suits"] 4 spSett) (Zq255 : Fn P w K mg base "naming" ["suits", "cases"] 1 spNaming) :
    Fn P w K mg base "breaking" ["suits"] 5 spBreaking := by
  refine Zq235.fnQ Zq304 (fun _ _ _ _ _ _ us hl => match us, hl with | [_], _ => rfl) (fun vs H Q E h => ?_) (fun f cdv A outer s H vs Q E hr h => ?_)
  · obtain ⟨l, ss, rfl, _⟩ := h
    rfl
  · obtain ⟨l, ss, rfl, hsu, hok, hlen, k⟩ := h
    refine ⟨_, (Zq6 (Zq14 (Zq8 Zq255 (hr.mono (by omega)) Nq240 (Zq1 (qvN 0 Nq144) (Zq1 (Zq92 (locs := ["case", "stands"]) (fr := []) ⟨rfl, by decide +kernel, by decide +kernel, by decide +kernel, by decide +kernel, by decide +kernel⟩ .nil rfl (qi_enum Nq239.1 T.enumerate (Zq1 (Zq8 Zq184 (hr.mono (by omega)) Nq241 (Zq1 (qvN 0 Nq144) Zq2)) Zq2)) ⟨fun _ _ _ _ _ _ => by
    have cnd : (inN ["case", "stands"] []).Nodup := by decide +kernel
    exact ⟨(Zq106 2 (by rfl) (Zq22 (qgLN 0 cnd) (Zq22 (qgLN 1 cnd) Zq69))), (Zq158 (Zq95 (qvLN 1))), (qvLN 0)⟩⟩) Zq2))))), ?_⟩
    refine ⟨_, rfl, _, rfl, l, ss, rfl, hsu, hok, hlen, fun tl H1 h1 h2 sm1 => ?_⟩
    have hbl : (bsOf ss).length = ss.length := settL_len [] ss 0
    refine ⟨tl, _, rfl, SqL.of h2, ?_⟩
    refine comp_enum ((bsOf ss).map V.bl) (fun i ys H' => Same H1 H' /\ ys = Zq30 (stT (bsOf ss) i)) ⟨fun _ _ e => e, rfl⟩ (by rw [List.length_map]; omega) (fun i ys H' _ ⟨e, _⟩ => SqL.of (e _ _ h2)) ?_ ?_ ?_
    · rintro i ys H' ⟨_, rfl⟩
      unfold Zq30
      rw [List.length_map]
      exact stT_len _ _
    · rintro i x p ys H' hx ⟨sm, rfl⟩ hp ls hls
      obtain ⟨w1, w2, rfl⟩ := len2 hls
      have Sp := Same.new (o := .tup [.int i, x]) hp
      have kp : (upd H' p (.tup [.int i, x])) p = some (.tup [.int i, x]) := Zq3
      generalize (upd H' p (.tup [.int i, x])) = H2 at Sp kp ⊢
      obtain ⟨b, hb, rfl⟩ : ∃ b, (bsOf ss)[i]? = some b /\ x = .bl b := by
        rw [List.getElem?_map] at hx
        obtain ⟨b, h1, h2⟩ := Option.map_eq_some_iff.mp hx
        exact ⟨b, h1, h2.symm⟩
      refine ⟨p, _, rfl, SqT.of kp, rfl, _, _, rfl, _, _, rfl, rfl, ⟨[_, _], rfl, rfl⟩, ?_⟩
      refine ⟨_, rfl, b, rfl, ?_⟩
      have e := stT_succ hb
      cases b with
      | true =>
        refine iteT ?_
        refine ⟨_, rfl, sm.trans Sp, ?_⟩
        rw [e]
        unfold Zq30
        rw [List.map_append]
        rfl
      | false =>
        refine iteF ?_
        exact ⟨sm.trans Sp, by rw [e]; simp⟩
    · rintro ys H' ⟨sm, rfl⟩ lc hlc
      rw [List.length_map]
      have Sc := Same.new (o := .lst (Zq30 (stL (bsOf ss)))) hlc
      have S := (sm1.trans sm).trans Sc
      have hl9 := stT_len (bsOf ss) (bsOf ss).length
      refine ⟨l, lc, ss, stL (bsOf ss), rfl, hsu.mono S, by unfold stL; omega, fun j hj => ?_, Zq3, fun g H2 hg hnb hfr sm2 => ?_⟩
      · rw [← hbl]; exact (List.getElem?_eq_some_iff.mp (stL_mem.mp hj)).1
      · exact k g H2 (S.free hg) hnb (fun kvs c n a e1 e2 => S.free (hfr kvs c n a e1 e2)) (S.trans sm2)
end
section
variable {P : Program} {w : World} {K : PySem.W.Frag} {mg : Str -> Option Value} {base : Heap} {C : Addr}
abbrev fewNm : Str := "fewest_to" ++ ".<locals>." ++ "<lambda>"
def o0 : Str × Int := (⟨#[]⟩, 0)
theorem side_pick (sd : Side) : (List.range sd.length).map (fun i => sd.getD i o0) = sd := by
  apply List.ext_getElem
  · simp
  · intro i h1 h2
    simp [h2]
theorem RepS.pick {H : Hp} {sd : Side} {vs : List V} (h : RepS H sd vs) : ∀ p : List Nat, (∀ i ∈ p, i < sd.length) -> RepS H (p.map fun i => sd.getD i o0) (p.map fun i => vs.getD i .non)
  | [], _ => rfl
  | i :: p, hp => by
    have hi := hp i List.mem_cons_self
    have hl := h.len
    obtain ⟨x, a, e1, e2, e3⟩ := h.get (List.getElem?_eq_getElem (show i < vs.length by omega))
    refine ⟨a, _, ?_, ?_, RepS.pick h p fun j hj => hp j (List.mem_cons_of_mem _ hj)⟩
    · show vs.getD i .non :: _ = _
      rw [List.getD_eq_getElem?_getD, List.getElem?_eq_getElem (show i < vs.length by omega), e2]
      rfl
    · show H a = some (.tup [.str (sd.getD i o0).1, .int (sd.getD i o0).2])
      rw [List.getD_eq_getElem?_getD, e1]; exact e3
theorem sorted_side {sd : Side} {p : List Nat} (hp : p.Perm (List.range sd.length)) (hs : p.Pairwise (LKb true (wts sd))) : (p.map fun i => sd.getD i o0).Perm sd /\ (wts (p.map fun i => sd.getD i o0)).Pairwise (· >= ·) := by
  refine ⟨by have := hp.map fun i => sd.getD i o0; rw [side_pick] at this; exact this, ?_⟩
  have hm : ∀ i ∈ p, i < sd.length := fun i hi => List.mem_range.mp (hp.mem_iff.mp hi)
  unfold wts
  rw [List.map_map, List.pairwise_map]
  refine List.Pairwise.imp_of_mem ?_ hs
  intro i j hi hj h
  have key : ∀ i, i < sd.length -> kI (wts sd) i = (sd.getD i o0).2 := fun i hi => by
    unfold kI wts
    rw [List.getD_eq_getElem?_getD, List.getD_eq_getElem?_getD, List.getElem?_map, List.getElem?_eq_getElem hi]
    rfl
  unfold LKb at h
  rw [if_pos rfl, key i (hm i hi), key j (hm j hj)] at h
  show (sd.getD i o0).2 >= (sd.getD j o0).2
  omega
def Zq125 (sd : Side) (goal : Int) (j : Nat) : Int := goal - ((wts sd).take j).sum
theorem lack0 (sd : Side) (goal : Int) : Zq125 sd goal 0 = goal := by unfold Zq125; simp
def Zq185 (sd : Side) : List V := sd.map fun p => V.str p.1
def spFew (T : Addr) : Sp := fun vs H Q _ => ∃ (a : Addr) (us : List V) (sd : Side) (goal : Int), vs = [.ref a, .int goal] /\ H a = some (.lst us) /\ RepS H sd us /\ sd.length <= 60 /\ IsTab H T fewNm /\
  ∀ sd' : Side, sd'.Perm sd -> (wts sd').Pairwise (· >= ·) ->
    (∀ (k : Nat) (l : Addr) (H' : Hp), k <= sd'.length -> Zq125 sd' goal k < 1 -> (∀ j, j < k -> 1 <= Zq125 sd' goal j) -> H l = none -> H' l = some (.lst (Zq185 (sd'.take k))) -> Same H H' -> Q (.ref l) H') /\
    ((∀ j, j <= sd'.length -> 1 <= Zq125 sd' goal j) -> ∀ H', Same H H' -> Q .non H')
abbrev Zq75 : Stmt := top 3
theorem Zq120 : FnScope ["side", "goal", "names", "lack", "name", "weight"] ["side", "goal"] (Zq0 Zq75) := ⟨rfl, rfl, rfl, by decide +kernel, rfl, by decide +kernel, by decide +kernel⟩
theorem Nq242 : Nm (Zq0 Zq75) "goal" .local := by decide +kernel
theorem Nq53 : Nm (Zq0 Zq75) "lack" .local := by decide +kernel
theorem Nq145 : Nm (Zq0 Zq75) "name" .local := by decide +kernel
theorem Nq54 : Nm (Zq0 Zq75) "names" .local := by decide +kernel
theorem Nq243 : Nm (Zq0 Zq75) "side" .local := by decide +kernel
theorem Nq244 : Nm (Zq0 Zq75) "sorted" .globalImplicit := by decide +kernel
theorem Nq146 : Nm (Zq0 Zq75) "weight" .local := by decide +kernel
theorem Zq305 {c T : Addr} (Zq222 : HasL K mg "fewest_to" Zq75 c) (B_fewest_to : LamB K mg c T) (kb : K.In base) (T0 : Txt mg) : Fn P w K mg base "fewest_to" ["side", "goal"] 4 (spFew T) := by
  refine Zq222.fnQ B_fewest_to kb Zq120 (fun _ _ _ _ _ _ us hl => match us, hl with | [_, _], _ => rfl) (fun vs H Q E h => ?_) (fun f A outer s H vs Q E hr hL h => ?_)
  · obtain ⟨a, us, sd, goal, rfl, _⟩ := h
    rfl
  · obtain ⟨a, us, sd, goal, rfl, ha, hrep, hl60, hT, k⟩ := h
    have T := T0
    refine ⟨_, (Zq4 (Zq12 (i := 2) Zq120.nd Nq54 (Zq83 Zq2))
 (Zq4 (Zq12 (i := 3) Zq120.nd Nq53 (qvN 1 Nq242))
 (Zq4 (Zq64 PassesOwn.never rfl (Zq28 (qe_sortedKeyRev (x := "oath") hL hT hr (by omega) Nq244 T.sorted (Zq1 (qvN 0 Nq243) Zq2) ⟨closure_nil (by decide +kernel), rfl, ⟨rfl, rfl, rfl, by decide +kernel, rfl, by decide +kernel, by decide +kernel⟩, fun _ _ _ _ => rfl, fun _ _ _ _ _ => (Zq10 qix_tupL (qvLm) Zq5 (fun _ _ => rfl))⟩)) (qg_tup (by rfl) (Zq22 (Zq27 (i := 4) Zq120.nd Nq145) (Zq22 (Zq27 (i := 5) Zq120.nd Nq146) Zq69)))
  (Zq4 (Zq23 (Zq15 Zq181 (qvN 3 Nq53) Zq5 (Zq19 _)) (Zq6 (Zq14 (qvN 2 Nq54))) Zq20)
 (Zq4 (Zq132 (Zq147 F.plainAttrs_list F.slot_list_append F.type_list_append Zq108 (qvN 2 Nq54) (Zq1 (qvN 4 Nq145) Zq2)))
 (Zq6 (qs_augN (i := 3) Zq120.nd Nq53 (qvN 5 Nq146) qip_sub)))))
 (Zq6 (Zq14 (qe_ifExp (Zq15 Zq181 (qvN 3 Nq53) Zq5 (Zq19 _)) (qvN 2 Nq54) Zq178)))))), ?_⟩
    have hz : (5000 : Nat) <= sizeLine := by decide
    have hul := hrep.len
    refine ⟨by show 0 <= sizeLine; omega, fun l hl => ?_⟩
    have S1 := Same.new (o := .lst []) hl
    have k1 : (upd H l (.lst [])) l = some (.lst []) := Zq3
    have hrep1 := hrep.mono (H' := upd H l (.lst [])) fun b xs e => S1 _ _ e
    generalize (upd H l (.lst [])) = H1 at S1 k1 hrep1 ⊢
    refine gset ?_
    dsimp only
    refine ⟨_, rfl, ?_⟩
    refine gset ?_
    dsimp only
    refine ⟨_, rfl, a, us, wts sd, rfl, SqL.of (S1 _ _ ha), by omega, by unfold wts; rw [List.length_map]; omega, fun i x kk hx hk H2 t2 => ?_, fun ls p H2 sm hls hp hpw => ?_⟩
    · obtain ⟨o, b, ho, rfl, hb⟩ := hrep1.get hx
      rw [wts_get ho] at hk
      cases hk
      exact ⟨_, rfl, b, _, 1, .int o.2, rfl, rfl, SqT.of (t2 _ _ hb), rfl, rfl, rfl⟩
    · rw [hul] at hp
      obtain ⟨q1, q2⟩ := sorted_side hp hpw
      have hm : ∀ i ∈ p, i < sd.length := fun i hi => List.mem_range.mp (hp.mem_iff.mp hi)
      have S2 := sm.trans (Same.new (o := .lst (p.map fun i => us.getD i .non)) hls)
      have hrep2 := (hrep1.pick p hm).mono (H' := upd H2 ls (.lst (p.map fun i => us.getD i .non))) fun b xs e => S2 _ _ e
      have k2 : (upd H2 ls (.lst (p.map fun i => us.getD i .non))) ls = some (.lst (p.map fun i => us.getD i .non)) := Zq3
      have l2 := S2 _ _ k1
      have nls : ls ≠ l := fun z => by rw [z, sm _ _ k1] at hls; cases hls
      obtain ⟨kY, kN⟩ := k _ q1 q2
      generalize (upd H2 ls (.lst (p.map fun i => us.getD i .non))) = H3 at S2 hrep2 k2 l2 ⊢
      have SH := S1.trans S2
      generalize (p.map fun i => us.getD i .non) = us' at hrep2 k2
      have hsl : (p.map fun i => sd.getD i o0).length <= 60 := by have := q1.length_eq; omega
      generalize (p.map fun i => sd.getD i o0) = sd' at q1 q2 hrep2 kY kN hsl
      have hul' := hrep2.len
      have keep : ∀ {H' : Hp}, SameX l H3 H' -> Same H H' := fun {H'} sx b o e => sx b o (Zq16 e hl) (SH _ _ e)
      refine ⟨ls, rfl, ⟨_, SqL.of k2⟩, ?_⟩
      refine Zq71 us' (fun i σ H' => ∃ v4 v5 : Option V, σ = [some (.ref a), some (.int goal), some (.ref l), some (.int (Zq125 sd' goal i)), v4, v5] /\ SameX l H3 H' /\ H' l = some (.lst (Zq185 (sd'.take i))) /\ ∀ j, j < i -> 1 <= Zq125 sd' goal j)
        ⟨none, none, by rw [lack0]; rfl, SameX.refl, l2, fun j hj => by omega⟩ (fun i σ H' _ ⟨_, _, _, sx, _⟩ => SqL.of (sx _ _ nls k2)) ?_ ?_
      · rintro i x σ H' hx ⟨v4, v5, rfl, sx, hl', hlk⟩
        obtain ⟨o, b, ho, rfl, hb⟩ := hrep2.get hx
        have hi := (List.getElem?_eq_some_iff.mp ho).1
        have hb' : H' b = some (.tup [.str o.1, .int o.2]) := sx _ _ (fun z => by rw [z, l2] at hb; cases hb) hb
        refine ⟨b, _, rfl, SqT.of hb', rfl, _, _, rfl, _, _, rfl, rfl, ?_⟩
        dsimp only
        refine ⟨_, rfl, _, _, rfl, rfl, _, rfl, iteD (fun c => ?_) (fun c => ?_)⟩
        · exact ⟨_, rfl, kY i l H' (by omega) c hlk hl hl' (keep sx)⟩
        · have hnl : (Zq185 (sd'.take i)).length = i := by unfold Zq185; rw [List.length_map, List.length_take]; omega
          refine ⟨_, rfl, .inl ⟨rfl, _, SqL.of hl'⟩, _, rfl, l, _, .str o.1, rfl, rfl, hl', by omega, ?_⟩
          refine ⟨_, rfl, _, rfl, _, _, rfl, rfl, some (.str o.1), some (.int o.2), ?_, sx.trans SameX.upd, ?_, fun j hj => ?_⟩
          · have e : Zq125 sd' goal (i + 1) = Zq125 sd' goal i - o.2 := by unfold Zq125; rw [sum_take_snoc (wts_get ho)]; omega
            rw [e]; rfl
          · rw [Zq3, List.take_add_one, ho]
            unfold Zq185
            rw [List.map_append]
            rfl
          · by_cases z : j < i
            · exact hlk j z
            · have : j = i := by omega
              rw [this]; omega
      · rintro σ H' ⟨v4, v5, rfl, sx, hl', hlk⟩
        rw [hul'] at hl' hlk
        rw [hul']
        refine ⟨_, rfl, _, _, rfl, rfl, _, rfl, iteD (fun c => ?_) (fun c => ?_)⟩
        · exact ⟨_, rfl, kY sd'.length l H' (Nat.le_refl _) c hlk hl hl' (keep sx)⟩
        · refine kN (fun j hj => ?_) H' (keep sx)
          by_cases z : j < sd'.length
          · exact hlk j z
          · have : j = sd'.length := by omega
            rw [this]; omega
end
section
variable {P : Program} {w : World} {K : PySem.W.Frag} {mg : Str -> Option Value} {base : Heap}
def SuitAt (H : Hp) (t : Suit) (v : V) : Prop := ∃ ta u1 u2 u4, v = .ref ta /\ H ta = some (.tup [u1, u2, .int t.need, u4]) /\ SideAt H t.ones u1 /\ SideAt H t.others u2
theorem SuitAt.mono {H H' : Hp} {t : Suit} {v : V} (h : SuitAt H t v) (k : Same H H') : SuitAt H' t v := let ⟨ta, u1, u2, u4, e, h1, h2, h3⟩ := h; ⟨ta, u1, u2, u4, e, k _ _ h1, h2.mono k, h3.mono k⟩
theorem SuitsAt.suit {H : Hp} {ss : List Suit} {l : Addr} {us : List V} {i : Nat} {t : Suit} (b : RepL H (ss.map Zq86) us) (ht : ss[i]? = some t) : ∃ v, us[i]? = some v /\ SuitAt H t v := by
  obtain ⟨ta, u1, u2, u4, hu, hta, h1, h2, _⟩ := SuitsAt.get (l := l) b ht
  exact ⟨_, hu, ta, u1, u2, u4, rfl, hta, h1, h2⟩
def spEnough : Sp := fun vs H Q _ => ∃ (v : V) (t : Suit) (st : Bool), vs = [v, .bl st] /\ SuitAt H t v /\ Zq96 t /\ ∀ H', Same H H' -> Q (.int (Zq63 t st)) H'
abbrev Zq126 : Stmt := top 27
theorem Zq329 : FnScope ["suit", "stands"] ["suit", "stands"] (Zq0 Zq126) := ⟨rfl, rfl, rfl, by decide +kernel, rfl, by decide +kernel, by decide +kernel⟩
theorem Nq147 : Nm (Zq0 Zq126) "NEED" .globalImplicit := by decide +kernel
theorem Nq245 : Nm (Zq0 Zq126) "ONES" .globalImplicit := by decide +kernel
theorem Nq246 : Nm (Zq0 Zq126) "OTHERS" .globalImplicit := by decide +kernel
theorem Nq247 : Nm (Zq0 Zq126) "stands" .local := by decide +kernel
theorem Nq55 : Nm (Zq0 Zq126) "suit" .local := by decide +kernel
theorem Nq148 : Nm (Zq0 Zq126) "total" .globalImplicit := by decide +kernel
theorem Zq333 (Zq256 : Has K mg "enough" Zq126) (T : Txt mg) (C0 : ∃ t, mg "ONES" = some (.int 0 t)) (C1 : ∃ t, mg "OTHERS" = some (.int 1 t)) (C2 : ∃ t, mg "NEED" = some (.int 2 t)) (Zq245 : Fn P w K mg base "total" ["side"] 1 spTotal) :
    Fn P w K mg base "enough" ["suit", "stands"] 2 spEnough := by
  obtain ⟨t0, c_ONES⟩ := C0
  obtain ⟨t1, c_OTHERS⟩ := C1
  obtain ⟨t2, c_NEED⟩ := C2
  have r_ONES : RelV (.int 0) (.int 0 t0) := ⟨t0, rfl⟩
  have r_OTHERS : RelV (.int 1) (.int 1 t1) := ⟨t1, rfl⟩
  have r_NEED : RelV (.int 2) (.int 2 t2) := ⟨t2, rfl⟩
  refine Zq256.fnQ Zq329 (fun _ _ _ _ _ _ us hl => match us, hl with | [_, _], _ => rfl) (fun vs H Q E h => ?_) (fun f cdv A outer s H vs Q E hr h => ?_)
  · obtain ⟨v, t, st, rfl, _⟩ := h
    rfl
  · obtain ⟨v, t, st, rfl, ⟨ta, u1, u2, u4, rfl, hta, h1, h2⟩, ⟨L1, L2', _, _⟩, k⟩ := h
    refine ⟨_, (Zq4 (Zq23 (Zq95 (qvN 1 Nq247)) (Zq6 (Zq14 (Zq18 Zq32 (Zq10 Zq17 (qvN 0 Nq55) (Zq24 Nq147 c_NEED r_NEED) (fun _ _ => rfl)) (Zq8 Zq245 (hr.mono (by omega)) Nq148 (Zq1 (Zq10 Zq17 (qvN 0 Nq55) (Zq24 Nq246 c_OTHERS r_OTHERS) (fun _ _ => rfl)) Zq2))))) Zq20)
 (Zq6 (Zq14 (Zq18 Zq32 (Zq18 Zq105 (Zq8 Zq245 (hr.mono (by omega)) Nq148 (Zq1 (Zq10 Zq17 (qvN 0 Nq55) (Zq24 Nq245 c_ONES r_ONES) (fun _ _ => rfl)) Zq2)) (Zq10 Zq17 (qvN 0 Nq55) (Zq24 Nq147 c_NEED r_NEED) (fun _ _ => rfl))) Zq5)))), ?_⟩
    refine ⟨_, rfl, st, rfl, ?_⟩
    unfold Zq63 at k
    cases st with
    | true =>
      rw [if_pos rfl] at k
      refine iteT ?_
      exact ⟨_, rfl, ta, _, 2, _, rfl, rfl, SqT.of hta, rfl, _, rfl, ta, _, 1, u2, rfl, rfl, SqT.of hta, rfl, u2, t.others, rfl, h2, L2', fun H1 s1 => ⟨_, _, rfl, rfl, k H1 s1⟩⟩
    | false =>
      rw [if_neg Bool.false_ne_true] at k
      refine iteF ?_
      exact ⟨_, rfl, ta, _, 0, u1, rfl, rfl, SqT.of hta, rfl, u1, t.ones, rfl, h1, L1, fun H1 s1 => ⟨_, rfl, ta, _, 2, _, rfl, rfl, SqT.of (s1 _ _ hta), rfl, _, _, rfl, rfl, _, _, rfl, rfl, k H1 s1⟩⟩
def spClBr : Sp := fun vs H Q _ => ∃ (v : V) (t : Suit) (st : Bool) (n : Str), vs = [v, .bl st, .str n] /\ SuitAt H t v /\ Zq96 t /\ ∀ H', Same H H' -> Q (.bl (clBr t st n)) H'
abbrev Zq78 : Stmt := top 28
theorem Zq257 : FnScope ["suit", "stands", "name"] ["suit", "stands", "name"] (Zq0 Zq78) := ⟨rfl, rfl, rfl, by decide +kernel, rfl, by decide +kernel, by decide +kernel⟩
theorem Nq248 : Nm (Zq0 Zq78) "ONES" .globalImplicit := by decide +kernel
theorem Nq249 : Nm (Zq0 Zq78) "name" .local := by decide +kernel
theorem Nq250 : Nm (Zq0 Zq78) "stands" .local := by decide +kernel
theorem Nq251 : Nm (Zq0 Zq78) "suit" .local := by decide +kernel
theorem Zq260 (Zq164 : Has K mg "claims_broken" Zq78) (T : Txt mg) (C0 : ∃ t, mg "ONES" = some (.int 0 t)) : Fn P w K mg base "claims_broken" ["suit", "stands", "name"] 1 spClBr := by
  obtain ⟨t0, c_ONES⟩ := C0
  have r_ONES : RelV (.int 0) (.int 0 t0) := ⟨t0, rfl⟩
  refine Zq164.fnQ Zq257 (fun _ _ _ _ _ _ us hl => match us, hl with | [_, _, _], _ => rfl) (fun vs H Q E h => ?_) (fun f cdv A outer s H vs Q E hr h => ?_)
  · obtain ⟨v, t, st, n, rfl, _⟩ := h
    rfl
  · obtain ⟨v, t, st, n, rfl, ⟨ta, u1, u2, u4, rfl, hta, ⟨b1, v1, rfl, hb1, hr1⟩, h2⟩, ⟨L1, _, _, _⟩, k⟩ := h
    refine ⟨_, (Zq6 (Zq14 (Zq62 qop_ne (Zq62 qop_in_seq (qvN 2 Nq249) (Zq92 (locs := ["one", "weight"]) (fr := []) ⟨rfl, by decide +kernel, by decide +kernel, by decide +kernel, by decide +kernel, by decide +kernel⟩ .nil rfl (Zq28 (Zq10 Zq17 (qvN 0 Nq251) (Zq24 Nq248 c_ONES r_ONES) (fun _ _ => rfl))) ⟨fun _ _ _ _ _ _ => by
    have cnd : (inN ["one", "weight"] []).Nodup := by decide +kernel
    exact ⟨(Zq106 2 (by rfl) (Zq22 (qgLN 0 cnd) (Zq22 (qgLN 1 cnd) Zq69))), Zq90, (qvLN 0)⟩⟩) rfl) (qvN 1 Nq250) (Zq19 _)))), ?_⟩
    have l1 := L1.2
    refine ⟨_, rfl, _, rfl, ta, _, 0, _, rfl, rfl, SqT.of hta, rfl, b1, rfl, ⟨_, SqL.of hb1⟩, ?_⟩
    refine comp_nms hb1 hr1 (by omega) fun q hq => ?_
    refine ⟨q, _, rfl, .inl (SqL.of Zq3), rfl, Zq142 _, _, rfl, rfl, ?_⟩
    have e : (!decide (V.bl (inV (.str n) ((t.ones.map (·.1)).map V.str)) = V.bl st)) = clBr t st n := by
      unfold clBr
      rw [inV_str, Bool.eq_iff_iff]
      simp
    have k' := k _ (Same.new (o := .lst ((t.ones.map (·.1)).map V.str)) hq)
    rw [← e] at k'
    exact k'
theorem RepS.filter {H : Hp} {f : Str × Int -> Bool} : ∀ {sd : Side} {vs : List V}, RepS H sd vs -> ∃ ws, RepS H (sd.filter f) ws
  | [], _, _ => ⟨[], rfl⟩
  | p :: sd, _, ⟨b, vs', e, h1, h2⟩ => by
    obtain ⟨ws, hw⟩ := RepS.filter (f := f) h2
    rw [List.filter_cons]
    cases f p with
    | true => exact ⟨_, b, ws, rfl, h1, hw⟩
    | false => exact ⟨ws, hw⟩
def Zq153 (t : Suit) (e : Ent) : Bool := decide ((claimed e.ns (t.ones ++ t.others)).length = e.ns.length) && decide (Zq63 t e.st <= (wts (claimed e.ns (t.ones ++ t.others))).sum)
def Zq131 (ss : List Suit) (e : EntI) : Bool := decide (0 <= e.c) && (match ss[e.c.toNat]? with
  | some t => Zq153 t e.toN
  | none => false)
def spSound : Sp := fun vs H Q _ => ∃ (l : Addr) (v : V) (ss : List Suit) (e : EntI), vs = [.ref l, v] /\ SuitsAt H ss l /\ ss.length <= 1000 /\ (∀ t ∈ ss, Zq96 t) /\ (∀ t ∈ ss, (t.ones ++ t.others).length <= 60) /\ Rep H (Zq44 e) v /\
  ∀ H' : Hp, Same H H' -> Q (.bl (Zq131 ss e)) H'
theorem claimed_take {ns : List Str} {sd : Side} {i : Nat} {p : Str × Int} (h : sd[i]? = some p) : claimed ns (sd.take (i + 1)) = claimed ns (sd.take i) ++ (if decide (p.1 ∈ ns) then [p] else []) := by
  unfold claimed
  rw [List.take_add_one, h, List.filter_append]
  cases e : decide (p.1 ∈ ns) <;> simp [e] <;> simpa using e
abbrev Zq50 : Stmt := top 30
theorem Zq223 : FnScope ["suits", "entry", "suit", "claimed"] ["suits", "entry"] (Zq0 Zq50) := ⟨rfl, rfl, rfl, by decide +kernel, rfl, by decide +kernel, by decide +kernel⟩
theorem Nq149 : Nm (Zq0 Zq50) "CASE" .globalImplicit := by decide +kernel
theorem Nq252 : Nm (Zq0 Zq50) "NAMES" .globalImplicit := by decide +kernel
theorem Nq253 : Nm (Zq0 Zq50) "ONES" .globalImplicit := by decide +kernel
theorem Nq254 : Nm (Zq0 Zq50) "OTHERS" .globalImplicit := by decide +kernel
theorem Nq255 : Nm (Zq0 Zq50) "STANDS" .globalImplicit := by decide +kernel
theorem Nq89 : Nm (Zq0 Zq50) "claimed" .local := by decide +kernel
theorem Nq256 : Nm (Zq0 Zq50) "enough" .globalImplicit := by decide +kernel
theorem Nq32 : Nm (Zq0 Zq50) "entry" .cell := by decide +kernel
theorem Nq90 : Nm (Zq0 Zq50) "len" .globalImplicit := by decide +kernel
theorem Nq56 : Nm (Zq0 Zq50) "suit" .local := by decide +kernel
theorem Nq150 : Nm (Zq0 Zq50) "suits" .local := by decide +kernel
theorem Nq257 : Nm (Zq0 Zq50) "total" .globalImplicit := by decide +kernel
theorem Zq321 (Zq236 : Has K mg "is_sound" Zq50) (T : Txt mg) (C0 : ∃ t, mg "ONES" = some (.int 0 t)) (C1 : ∃ t, mg "OTHERS" = some (.int 1 t)) (D0 : ∃ t, mg "CASE" = some (.int 0 t)) (D1 : ∃ t, mg "STANDS" = some (.int 1 t)) (D2 : ∃ t, mg "NAMES" = some (.int 2 t))
    (Zq245 : Fn P w K mg base "total" ["side"] 1 spTotal) (Zq258 : Fn P w K mg base "enough" ["suit", "stands"] 2 spEnough) : Fn P w K mg base "is_sound" ["suits", "entry"] 3 spSound := by
  obtain ⟨t0, c_ONES⟩ := C0
  obtain ⟨t1, c_OTHERS⟩ := C1
  have r_ONES : RelV (.int 0) (.int 0 t0) := ⟨t0, rfl⟩
  have r_OTHERS : RelV (.int 1) (.int 1 t1) := ⟨t1, rfl⟩
  obtain ⟨s0, c_CASE⟩ := D0
  obtain ⟨s1, c_STANDS⟩ := D1
  obtain ⟨s2, c_NAMES⟩ := D2
  have r_CASE : RelV (.int 0) (.int 0 s0) := ⟨s0, rfl⟩
  have r_STANDS : RelV (.int 1) (.int 1 s1) := ⟨s1, rfl⟩
  have r_NAMES : RelV (.int 2) (.int 2 s2) := ⟨s2, rfl⟩
  refine Zq236.fnQ Zq223 (fun _ _ _ _ _ _ us hl => match us, hl with | [_, _], _ => rfl) (fun vs H Q E h => ?_) (fun f cdv A outer s H vs Q E hr h => ?_)
  · obtain ⟨l, v, ss, e, rfl, _⟩ := h
    rfl
  · obtain ⟨l, v, ss, e, rfl, hsu, hlen, hoks, h60s, hev, k⟩ := h
    refine ⟨_, (Zq4 (Zq23 (Zq177 (qt_chain qop_le Zq181 Zq5 (Zq10 Zq17 (qvC 1 Nq32) (Zq24 Nq149 c_CASE r_CASE) (fun _ _ => rfl)) (Zq11 Zq13 Nq90 T.len Zq39 (Zq1 (qvN 0 Nq150) Zq2)))) (Zq6 (Zq14 Zq56)) Zq20)
 (Zq4 (Zq12 (i := 2) Zq223.nd Nq56 (Zq10 Zq21 (qvN 0 Nq150) (Zq10 Zq17 (qvC 1 Nq32) (Zq24 Nq149 c_CASE r_CASE) (fun _ _ => rfl)) (fun _ _ => rfl)))
 (Zq4 (Zq133 (locs := ["oath"]) (fr := [("entry", 1)]) ⟨rfl, by decide +kernel, by decide +kernel, by decide +kernel, by decide +kernel, by decide +kernel⟩ (.consN Nq32 .nil) rfl (Zq28 (Zq18 Zq89 (Zq10 Zq17 (qvN 2 Nq56) (Zq24 Nq253 c_ONES r_ONES) (fun _ _ => rfl)) (Zq10 Zq17 (qvN 2 Nq56) (Zq24 Nq254 c_OTHERS r_OTHERS) (fun _ _ => rfl)))) ⟨fun _ _ _ _ _ _ => by
    have cnd : (inN ["oath"] [("entry", 1)]).Nodup := by decide +kernel
    exact ⟨(qgLN 0 cnd), (Zq158 (Zq15 qop_in_seqC (Zq10 qix_tupC (qvLN 0) Zq5 (fun _ _ => rfl)) (Zq10 qix_tupC (qvFN 1) (Zq24 nmC c_NAMES r_NAMES) (fun _ _ => rfl)) rfl)), (qvLN 0)⟩⟩ Zq223.nd Nq89 (by rfl) (i := 3))
 (Zq6 (Zq14 (Zq180 (Zq62 Zq43 (Zq11 Zq13 Nq90 T.len Zq39 (Zq1 (qvN 3 Nq89) Zq2)) (Zq11 Zq13 Nq90 T.len Zq39 (Zq1 (Zq10 Zq17 (qvC 1 Nq32) (Zq24 Nq252 c_NAMES r_NAMES) (fun _ _ => rfl)) Zq2)) (Zq19 _)) (Zq179 (Zq62 qop_ge (Zq8 Zq245 (hr.mono (by omega)) Nq257 (Zq1 (qvN 3 Nq89) Zq2)) (Zq8 Zq258 (hr.mono (by omega)) Nq256 (Zq1 (qvN 2 Nq56) (Zq1 (Zq10 Zq17 (qvC 1 Nq32) (Zq24 Nq255 c_STANDS r_STANDS) (fun _ _ => rfl)) Zq2))) (Zq19 _))))))))), ?_⟩
    have hz : (5000 : Nat) <= sizeLine := by decide
    obtain ⟨ea, na, rfl, hea, hna⟩ := Zq157 hev
    obtain ⟨us, hl, hrep⟩ := id hsu
    have hul : us.length = ss.length := by have := hrep.length; rw [List.length_map] at this; exact this
    have no : ¬ (0 <= e.c /\ e.c < ss.length) -> Zq131 ss e = false := fun hn => by
      unfold Zq131
      by_cases h0 : 0 <= e.c
      · rw [List.getElem?_eq_none (by omega), Bool.and_false]
      · rw [decide_eq_false h0, Bool.false_and]
    have fl : ¬ (0 <= e.c /\ e.c < ss.length) -> Q (.bl false) H := fun hn => by
      have := k H (Same.refl _)
      rw [no hn] at this
      exact this
    refine ⟨_, rfl, ea, _, 0, _, rfl, rfl, SqT.of hea, rfl, _, _, rfl, rfl, _, rfl, iteD (fun h0 => ?_) (fun h0 => ?_)⟩
    rotate_left
    · exact ⟨false, rfl, iteT (fl (fun z => h0 z.1))⟩
    refine ⟨_, rfl, l, us, rfl, .inl (SqL.of hl), _, _, rfl, rfl, _, rfl, Zq103 (fun h1 => ?_) (fun h1 => ?_)⟩
    · exact fl (fun z => h1 (by omega))
    have hc : e.c.toNat < ss.length := by omega
    obtain ⟨t, ht⟩ : ∃ t, ss[e.c.toNat]? = some t := ⟨_, List.getElem?_eq_getElem hc⟩
    have htm := List.mem_of_getElem? ht
    have hok := hoks t htm
    have h60 := h60s t htm
    have k : ∀ H' : Hp, Same H H' -> Q (.bl (Zq153 t e.toN)) H' := fun H' sm => by
      have := k H' sm
      unfold Zq131 at this
      rw [decide_eq_true h0, Bool.true_and, ht] at this
      exact this
    obtain ⟨tv, htv, ta, u1, u2, u4, rfl, hta, ⟨b1, v1, rfl, hb1, hr1⟩, ⟨b2, v2, rfl, hb2, hr2⟩⟩ := SuitsAt.suit (l := l) hrep ht
    refine ⟨_, rfl, _, rfl, ea, _, 0, _, rfl, rfl, SqT.of hea, rfl, l, us, e.c, .ref ta, rfl, rfl, SqL.of hl, by rw [show e.c = ((e.c.toNat : Nat) : Int) by omega]; exact Zq40 htv, ?_⟩
    have z1 := hr1.len
    have z2 := hr2.len
    have h60' : v1.length + v2.length <= 60 := by rw [List.length_append] at h60; omega
    refine ⟨_, rfl, ta, _, 0, _, rfl, rfl, SqT.of hta, rfl, _, rfl, ta, _, 1, _, rfl, rfl, SqT.of hta, rfl, ?_⟩
    refine ⟨b1, b2, v1, v2, rfl, rfl, hb1, hb2, by omega, fun q hq => ?_⟩
    refine ⟨q, rfl, ⟨_, SqL.of Zq3⟩, ?_⟩
    have sq : Same H (upd H q (.lst (v1 ++ v2))) := Same.new hq
    have kq : (upd H q (.lst (v1 ++ v2))) q = some (.lst (v1 ++ v2)) := Zq3
    have hrs := RepS.mono (Same.t sq) (RepS.app hr2 hr1)
    generalize (upd H q (.lst (v1 ++ v2))) = H1 at sq kq hrs ⊢
    refine Zq61 (xs := v1 ++ v2) (fun i ys H' => H' = H1 /\ RepS H1 (claimed e.ns ((t.ones ++ t.others).take i)) ys /\ ys.length <= i) ⟨rfl, rfl, Nat.le_refl _⟩ (by rw [List.length_append]; omega) (fun i ys H' _ ⟨e, _⟩ => by rw [e]; exact SqL.of kq) (fun i ys H' ⟨_, _, h⟩ => h) ?_ ?_
    · rintro i x ys H' hx ⟨rfl, hys, hyl⟩ ls hls
      obtain ⟨w0, rfl⟩ := len1 hls
      obtain ⟨p, b, hp, rfl, hb⟩ := hrs.get hx
      have et := claimed_take (ns := e.ns) hp
      refine ⟨⟨[_], rfl, rfl⟩, ?_⟩
      refine ⟨_, rfl, b, _, 0, _, rfl, rfl, SqT.of hb, rfl, _, rfl, ea, _, 2, _, rfl, rfl, SqT.of (sq _ _ hea), rfl, na, _, rfl, .inl (SqL.of (sq _ _ hna)), rfl, Zq142 _, _, rfl, ?_⟩
      show if inV _ _ = true then _ else _
      rw [inV_str]
      generalize decide (p.1 ∈ e.ns) = bb at et
      cases bb with
      | true =>
        rw [if_pos rfl] at et
        refine iteT ⟨_, rfl, rfl, ?_, by rw [List.length_append]; show _ + 1 <= _; omega⟩
        rw [et]
        exact RepS.app (b := [p]) (ws := [.ref b]) ⟨b, [], rfl, hb, rfl⟩ hys
      | false =>
        rw [if_neg Bool.false_ne_true, List.append_nil] at et
        exact iteF ⟨rfl, by rw [et]; exact hys, by omega⟩
    · rintro ys H' ⟨rfl, hys, hyl⟩ lq hlq
      have el : (v1 ++ v2).length = (t.ones ++ t.others).length := by rw [List.length_append, List.length_append]; omega
      rw [el, List.take_length] at hys
      rw [el] at hyl
      have sm := sq.trans (Same.new (o := .lst ys) hlq)
      have klq : (upd H' lq (.lst ys)) lq = some (.lst ys) := Zq3
      have hys' := RepS.mono (Same.t (Same.new (o := .lst ys) hlq)) hys
      generalize (upd H' lq (.lst ys)) = H2 at sm klq hys' ⊢
      have hcl := hys'.len
      refine ⟨_, rfl, lq, ys, rfl, .inl (SqL.of klq), _, rfl, ea, _, 2, _, rfl, rfl, SqT.of (sm _ _ hea), rfl, na, _, rfl, .inl (SqL.of (sm _ _ hna)), rfl, _, rfl, iteD (fun hle => ?_) (fun hle => ?_)⟩
      · have Lc : Light (claimed e.ns (t.ones ++ t.others)) := ⟨fun p hp => by
          have := (List.mem_filter.mp hp).1
          rcases List.mem_append.mp this with z | z
          · exact hok.1.1 p z
          · exact hok.2.1.1 p z, Nat.le_trans (List.length_filter_le _ _) h60⟩
        refine ⟨_, rfl, _, _, rfl, ⟨lq, ys, rfl, klq, hys'⟩, Lc, fun H3 s3 => ?_⟩
        have sm3 := sm.trans s3
        refine ⟨_, rfl, _, rfl, ea, _, 1, _, rfl, rfl, SqT.of (sm3 _ _ hea), rfl, .ref ta, t, e.st, rfl, ⟨ta, .ref b1, .ref b2, u4, rfl, sm3 _ _ hta, SideAt.mono ⟨b1, v1, rfl, hb1, hr1⟩ sm3, SideAt.mono ⟨b2, v2, rfl, hb2, hr2⟩ sm3⟩, hok, fun H4 s4 => ?_⟩
        have k' := k H4 (sm3.trans s4)
        have e1 : Zq153 t e.toN = decide (Zq63 t e.st <= (wts (claimed e.ns (t.ones ++ t.others))).sum) := by
          show (decide ((claimed e.ns (t.ones ++ t.others)).length = e.ns.length) && decide (Zq63 t e.st <= (wts (claimed e.ns (t.ones ++ t.others))).sum)) = _
          rw [decide_eq_true (show (claimed e.ns (t.ones ++ t.others)).length = e.ns.length by injection hle with hle; rw [List.length_map] at hle; omega), Bool.true_and]
        rw [e1] at k'
        exact ⟨_, _, rfl, rfl, k'⟩
      · have k' := k H2 sm
        have e1 : Zq153 t e.toN = false := by
          show (decide ((claimed e.ns (t.ones ++ t.others)).length = e.ns.length) && decide (Zq63 t e.st <= (wts (claimed e.ns (t.ones ++ t.others))).sum)) = _
          rw [decide_eq_false (fun z : (claimed e.ns (t.ones ++ t.others)).length = e.ns.length => hle (by rw [List.length_map]; exact congrArg V.int (by omega))), Bool.false_and]
        rw [e1] at k'
        exact k'
end
section
variable {P : Program} {w : World} {K : PySem.W.Frag} {mg : Str -> Option Value} {base : Heap}
abbrev Tru := List (Key × V)
def TruOk (tks : Tru) : Prop := ∀ k v, valV tks k = some v -> ∃ b, v = .bl b
def tv (tks : Tru) (j : Nat) : V := (valV tks (.inl (j : Int))).getD .non
theorem tv_cases {tks : Tru} (h : TruOk tks) (j : Nat) : tv tks j = .non \/ ∃ b, tv tks j = .bl b /\ valV tks (.inl (j : Int)) = some (.bl b) := by
  unfold tv
  cases e : valV tks (.inl (j : Int)) with
  | none => exact .inl rfl
  | some v =>
    obtain ⟨b, rfl⟩ := h _ _ e
    exact .inr ⟨b, rfl, rfl⟩
theorem tv_eq {tks : Tru} (h : TruOk tks) {j : Nat} {b : Bool} (e : eqV (tv tks j) (.bl b) = true) : valV tks (.inl (j : Int)) = some (.bl b) := by
  rcases tv_cases h j with z | ⟨c, z, q⟩
  · rw [z] at e; cases e
  · rw [z] at e
    have : c = b := by simpa [eqV] using e
    rw [q, this]
theorem tv_flat {tks : Tru} (h : TruOk tks) (js : List Nat) : (js.map (tv tks)).all Zq136 = true := by
  rw [List.all_map, List.all_eq_true]
  intro j _
  show Zq136 (tv tks j) = true
  rcases tv_cases h j with z | ⟨c, z, q⟩ <;> rw [z] <;> rfl
def Zq165 (ss : List Suit) (tks : Tru) (e : Ent) (t : Suit) (n : Str) : Prop :=
  (clBr t e.st n = true -> ∃ (j : Nat) (u : Suit), ss[j]? = some u /\ u.named = some ((e.c : Int), n) /\ valV tks (.inl (j : Int)) = some (.bl true)) /\
  (clBr t e.st n = false -> ∀ (j : Nat) (u : Suit), ss[j]? = some u -> u.named = some ((e.c : Int), n) -> valV tks (.inl (j : Int)) = some (.bl false))
theorem js_mem {ss : List Suit} {c : Int} {n : Str} {j : Nat} : j ∈ jsOf ss c n (List.range ss.length) ↔ ∃ u, ss[j]? = some u /\ u.named = some (c, n) := by
  unfold jsOf
  rw [List.mem_filter, nmd_iff, List.mem_range]
  exact ⟨fun h => h.2, fun ⟨u, h1, h2⟩ => ⟨(List.getElem?_eq_some_iff.mp h1).1, u, h1, h2⟩⟩
def spBacked : Sp := fun vs H Q _ => ∃ (l tr g : Addr) (v : V) (ss : List Suit) (e : Ent) (t : Suit) (tks : Tru), vs = [.ref l, v, .ref tr, .ref g] /\ SuitsAt H ss l /\ ss.length <= 1000 /\ ss[e.c]? = some t /\ Zq96 t /\ Rep H (entD e) v /\ H tr = some (.dK tks) /\ TruOk tks /\ NbAt H g ss (List.range ss.length) /\
  ∀ (b : Bool) (H' : Hp), (b = true ↔ ∀ n ∈ e.ns, Zq165 ss tks e t n) -> Same H H' -> Q (.bl b) H'
abbrev Zq46 : Stmt := top 31
theorem Zq206 : FnScope ["suits", "entry", "truths", "named_by", "name", "told"] ["suits", "entry", "truths", "named_by"] (Zq0 Zq46) := ⟨rfl, rfl, rfl, by decide +kernel, rfl, by decide +kernel, by decide +kernel⟩
theorem Nq151 : Nm (Zq0 Zq46) "CASE" .globalImplicit := by decide +kernel
theorem Nq258 : Nm (Zq0 Zq46) "NAMES" .globalImplicit := by decide +kernel
theorem Nq259 : Nm (Zq0 Zq46) "STANDS" .globalImplicit := by decide +kernel
theorem Nq260 : Nm (Zq0 Zq46) "claims_broken" .globalImplicit := by decide +kernel
theorem Nq57 : Nm (Zq0 Zq46) "entry" .local := by decide +kernel
theorem Nq261 : Nm (Zq0 Zq46) "len" .globalImplicit := by decide +kernel
theorem Nq91 : Nm (Zq0 Zq46) "name" .local := by decide +kernel
theorem Nq262 : Nm (Zq0 Zq46) "named_by" .local := by decide +kernel
theorem Nq263 : Nm (Zq0 Zq46) "suits" .local := by decide +kernel
theorem Nq58 : Nm (Zq0 Zq46) "told" .local := by decide +kernel
theorem Nq264 : Nm (Zq0 Zq46) "truths" .cell := by decide +kernel
theorem Zq306 (Zq224 : Has K mg "is_backed" Zq46) (T : Txt mg) (D0 : ∃ t, mg "CASE" = some (.int 0 t)) (D1 : ∃ t, mg "STANDS" = some (.int 1 t)) (D2 : ∃ t, mg "NAMES" = some (.int 2 t))
    (Zq166 : Fn P w K mg base "claims_broken" ["suit", "stands", "name"] 1 spClBr) : Fn P w K mg base "is_backed" ["suits", "entry", "truths", "named_by"] 2 spBacked := by
  obtain ⟨s0, c_CASE⟩ := D0
  obtain ⟨s1, c_STANDS⟩ := D1
  obtain ⟨s2, c_NAMES⟩ := D2
  have r_CASE : RelV (.int 0) (.int 0 s0) := ⟨s0, rfl⟩
  have r_STANDS : RelV (.int 1) (.int 1 s1) := ⟨s1, rfl⟩
  have r_NAMES : RelV (.int 2) (.int 2 s2) := ⟨s2, rfl⟩
  refine Zq224.fnQ Zq206 (fun _ _ _ _ _ _ us hl => match us, hl with | [_, _, _, _], _ => rfl) (fun vs H Q E h => ?_) (fun f cdv A outer s H vs Q E hr h => ?_)
  · obtain ⟨l, tr, g, v, ss, e, t, tks, rfl, _⟩ := h
    rfl
  · obtain ⟨l, tr, g, v, ss, e, t, tks, rfl, hsu, hlen, ht, hok, hev, htr, htk, hnb, k⟩ := h
    refine ⟨_, (Zq4 (Zq64 PassesOwn.never rfl (Zq28 (Zq10 Zq17 (qvN 1 Nq57) (Zq24 Nq258 c_NAMES r_NAMES) (fun _ _ => rfl))) (Zq27 (i := 4) Zq206.nd Nq91)
  (Zq4 (Zq133 (locs := ["later"]) (fr := [("truths", 2)]) ⟨rfl, by decide +kernel, by decide +kernel, by decide +kernel, by decide +kernel, by decide +kernel⟩ (.consN Nq264 .nil) rfl (Zq28 (qe_dget2 hr (qvN 3 Nq262) (Zq70 (Zq1 (Zq10 Zq17 (qvN 1 Nq57) (Zq24 Nq151 c_CASE r_CASE) (fun _ _ => rfl)) (Zq1 (qvN 4 Nq91) Zq2))) (Zq83 Zq2))) ⟨fun _ _ _ _ _ _ => by
    have cnd : (inN ["later"] [("truths", 2)]).Nodup := by decide +kernel
    exact ⟨(qgLN 0 cnd), Zq90, (qe_dget1 hr (qvFN 1) (qvLN 0))⟩⟩ Zq206.nd Nq58 (by rfl) (i := 5))
 (Zq6 (Zq23 (Zq95 (Zq8 Zq166 (hr.mono (by omega)) Nq260 (Zq1 (Zq10 Zq21 (qvN 0 Nq263) (Zq10 Zq17 (qvN 1 Nq57) (Zq24 Nq151 c_CASE r_CASE) (fun _ _ => rfl)) (fun _ _ => rfl)) (Zq1 (Zq10 Zq17 (qvN 1 Nq57) (Zq24 Nq259 c_STANDS r_STANDS) (fun _ _ => rfl)) (Zq1 (qvN 4 Nq91) Zq2))))) (Zq6 (Zq23 (Zq15 qop_notIn_seq Zq56 (qvN 5 Nq58) rfl) (Zq6 (Zq14 Zq56)) Zq20)) (Zq6 (Zq23 (Zq15 Zq181 (Zq147 F.plainAttrs_list F.slot_list_count F.type_list_count qmt_count (qvN 5 Nq58) (Zq1 Zq56 Zq2)) (Zq11 Zq13 Nq261 T.len Zq39 (Zq1 (qvN 5 Nq58) Zq2)) (Zq19 _)) (Zq6 (Zq14 Zq56)) Zq20))))))
 (Zq6 (Zq14 Zq56))), ?_⟩
    have hz : (5000 : Nat) <= sizeLine := by decide
    obtain ⟨ea, na, rfl, hea, hna⟩ := ent_inv hev
    refine ⟨_, rfl, ea, _, 2, _, rfl, rfl, SqT.of hea, rfl, na, rfl, ⟨_, SqL.of hna⟩, ?_⟩
    refine Zq71 (e.ns.map V.str) (fun i σ H' => ∃ (v4 v5 : Option V), σ = [some (.ref l), some (.ref ea), some (.ref tr), some (.ref g), v4, v5] /\ Same H H' /\ ∀ n ∈ e.ns.take i, Zq165 ss tks e t n) ⟨none, none, rfl, Same.refl _, fun n hn => by rw [List.take_zero] at hn; cases hn⟩ (fun i σ H' _ ⟨_, _, _, sm, _⟩ => SqL.of (sm _ _ hna)) ?_ ?_
    · rintro i x σ H' hx ⟨v4, v5, rfl, sm, hb⟩
      rw [List.getElem?_map] at hx
      obtain ⟨n, hn, rfl⟩ := Option.map_eq_some_iff.mp hx
      obtain ⟨kvs, hg, _, _, hnb'⟩ := hnb
      refine ⟨_, rfl, g, rfl, .inr ⟨kvs, .inl (sm _ _ hg)⟩, _, rfl, ea, _, 0, _, rfl, rfl, SqT.of (sm _ _ hea), rfl, _, rfl, by show 2 <= sizeLine; omega, fun q hq => ?_⟩
      have S1 := sm.trans (Same.new (o := .tup [.int e.c, .str n]) hq)
      have k1 : (upd H' q (.tup [.int e.c, .str n])) q = some (.tup [.int e.c, .str n]) := Zq3
      generalize (upd H' q (.tup [.int e.c, .str n])) = H1 at S1 k1 ⊢
      refine ⟨by show 0 <= sizeLine; omega, fun z hz' => ?_⟩
      have Sz := Same.new (o := .lst []) hz'
      have S2 := S1.trans Sz
      have k2 : (upd H1 z (.lst [])) z = some (.lst []) := Zq3
      generalize (upd H1 z (.lst [])) = H2 at Sz S2 k2 ⊢
      refine ⟨_, DGet.t (S2 _ _ hg) (k := okey e.c n) (Sz _ _ k1), ?_⟩
      obtain ⟨a, hav, ha⟩ : ∃ a, (valV kvs (okey e.c n)).getD (.ref z) = .ref a /\ H2 a = some (.lst (Zq30 (jsOf ss e.c n (List.range ss.length)))) := by
        rcases hnb' e.c n with ⟨h1, h2⟩ | ⟨a, h1, h2⟩
        · exact ⟨z, by rw [h1]; rfl, by rw [h2]; exact k2⟩
        · exact ⟨a, by rw [h1]; rfl, S2 _ _ h2⟩
      rw [hav]
      have hjl := js_len ss e.c n (List.range ss.length)
      rw [List.length_range] at hjl
      have hil : (Zq30 (jsOf ss e.c n (List.range ss.length))).length = (jsOf ss e.c n (List.range ss.length)).length := by unfold Zq30; rw [List.length_map]
      refine ⟨a, rfl, ⟨_, SqL.of ha⟩, ?_⟩
      refine Zq61 (xs := Zq30 (jsOf ss e.c n (List.range ss.length))) (fun i ys H' => H' = H2 /\ ys = ((jsOf ss e.c n (List.range ss.length)).take i).map (tv tks)) ⟨rfl, rfl⟩ (by omega) (fun i ys H' _ ⟨e, _⟩ => by rw [e]; exact SqL.of ha) (fun i ys H' ⟨_, e⟩ => by rw [e, List.length_map, List.length_take]; omega) ?_ ?_
      · rintro i x ys H' hx ⟨rfl, rfl⟩ ls hls
        obtain ⟨w0, rfl⟩ := len1 hls
        unfold Zq30 at hx
        rw [List.getElem?_map] at hx
        obtain ⟨j, hj, rfl⟩ := Option.map_eq_some_iff.mp hx
        refine ⟨⟨[_], rfl, rfl⟩, iteT ?_⟩
        refine ⟨_, rfl, tr, rfl, .inl ⟨tks, .inl (S2 _ _ htr)⟩, _, rfl, _, DGet.k (k := .inl (j : Int)) (S2 _ _ htr), rfl, ?_⟩
        rw [List.take_add_one, hj, List.map_append]
        rfl
      · rintro ys H' ⟨rfl, rfl⟩ lt hlt
        rw [hil, List.take_length]
        have S3 := S2.trans (Same.new (o := .lst ((jsOf ss e.c n (List.range ss.length)).map (tv tks))) hlt)
        have k3 : (upd H' lt (.lst ((jsOf ss e.c n (List.range ss.length)).map (tv tks)))) lt = some (.lst ((jsOf ss e.c n (List.range ss.length)).map (tv tks))) := Zq3
        generalize (upd H' lt (.lst ((jsOf ss e.c n (List.range ss.length)).map (tv tks)))) = H3 at S3 k3 ⊢
        obtain ⟨us, hl3, hrep3⟩ := hsu.mono S3
        obtain ⟨sv, hsv, hsa⟩ := SuitsAt.suit (l := l) hrep3 ht
        refine ⟨_, rfl, _, rfl, ea, _, 0, _, rfl, rfl, SqT.of (S3 _ _ hea), rfl, l, us, e.c, sv, rfl, rfl, SqL.of hl3, Zq40 hsv, _, rfl, ea, _, 1, _, rfl, rfl, SqT.of (S3 _ _ hea), rfl, _, rfl, sv, t, e.st, n, rfl, hsa, hok, fun H4 s4 => ?_⟩
        have S4 := S3.trans s4
        have k4 := s4 _ _ k3
        have next : Zq165 ss tks e t n -> ∀ m ∈ e.ns.take (i + 1), Zq165 ss tks e t m := by
          intro hB m hm
          rw [List.take_add_one, hn] at hm
          rcases List.mem_append.mp hm with z | z
          · exact hb m z
          · rw [List.mem_singleton.mp z]; exact hB
        refine ⟨_, rfl, ?_⟩
        cases hcb : clBr t e.st n with
        | true =>
          refine iteT ?_
          refine ⟨_, rfl, lt, _, rfl, .inl (SqL.of k4), rfl, tv_flat htk _, _, rfl, ?_⟩
          show if (!inV _ _) = true then _ else _
          cases hin : inV (.bl true) ((jsOf ss e.c n (List.range ss.length)).map (tv tks)) with
          | false => 
            refine iteT (k false H4 ⟨(fun z => nomatch z), fun hall => ?_⟩ S4)
            obtain ⟨j, u, h1, h2, h3⟩ := (hall n (List.mem_of_getElem? hn)).1 hcb
            have : inV (.bl true) ((jsOf ss e.c n (List.range ss.length)).map (tv tks)) = true := List.any_eq_true.mpr ⟨.bl true, List.mem_map.mpr ⟨j, js_mem.mpr ⟨u, h1, h2⟩, by unfold tv; rw [h3]; rfl⟩, rfl⟩
            rw [hin] at this
            cases this
          | true =>
            refine iteF ?_
            refine ⟨_, _, rfl, S4, next ⟨fun _ => ?_, fun z => by rw [hcb] at z; cases z⟩⟩
            obtain ⟨v, hv, hev'⟩ := List.any_eq_true.mp hin
            obtain ⟨j, hj, rfl⟩ := List.mem_map.mp hv
            obtain ⟨u, h1, h2⟩ := js_mem.mp hj
            exact ⟨j, u, h1, h2, tv_eq htk hev'⟩
        | false =>
          refine iteF ?_
          refine ⟨_, rfl, .inl ⟨rfl, _, SqL.of k4⟩, lt, _, _, rfl, rfl, SqL.of k4, rfl, tv_flat htk _, _, rfl, lt, _, rfl, .inl (SqL.of k4), _, _, rfl, rfl, _, rfl, iteD (fun _ => ?_) (fun hge => ?_)⟩
          · rename_i hlt'
            refine k false H4 ⟨(fun z => nomatch z), fun hall => ?_⟩ S4
            have hB := (hall n (List.mem_of_getElem? hn)).2 hcb
            have : List.countP (fun z => eqV z (.bl false)) ((jsOf ss e.c n (List.range ss.length)).map (tv tks)) = ((jsOf ss e.c n (List.range ss.length)).map (tv tks)).length := by
              refine List.countP_eq_length.mpr fun z hz' => ?_
              obtain ⟨j, hj, rfl⟩ := List.mem_map.mp hz'
              obtain ⟨u, h1, h2⟩ := js_mem.mp hj
              unfold tv
              rw [hB j u h1 h2]
              rfl
            omega
          · refine ⟨_, _, rfl, S4, next ⟨(fun z => by rw [hcb] at z; cases z), fun _ j u h1 h2 => ?_⟩⟩
            have hcl := List.countP_le_length (p := fun z => eqV z (.bl false)) (l := (jsOf ss e.c n (List.range ss.length)).map (tv tks))
            have hall := List.countP_eq_length.mp (show List.countP (fun z => eqV z (.bl false)) ((jsOf ss e.c n (List.range ss.length)).map (tv tks)) = _ by omega)
            exact tv_eq htk (hall _ (List.mem_map.mpr ⟨j, js_mem.mpr ⟨u, h1, h2⟩, rfl⟩))
    · rintro σ H' ⟨v4, v5, rfl, sm, hb⟩
      rw [List.length_map, List.take_length] at hb
      exact k true H' ⟨fun _ => hb, fun _ => rfl⟩ sm
end
section
variable {P : Program} {w : World} {K : PySem.W.Frag} {mg : Str -> Option Value} {base : Heap}
structure TruII (tks : Tru) (es : List EntI) : Prop where
  len : tks.length <= es.length
  ok : TruOk tks
  to_ : ∀ e ∈ es, valV tks (.inl e.c) = some (.bl e.st)
  nd : (es.map (·.c)).Nodup
  from_ : ∀ (j : Int) b, valV tks (.inl j) = some (.bl b) -> ∃ e ∈ es, e.c = j /\ e.st = b
theorem TruII.iff {tks : Tru} {es : List EntI} (h : TruII tks es) (j : Int) (b : Bool) : valV tks (.inl j) = some (.bl b) ↔ ∃ e ∈ es, e.c = j /\ e.st = b :=
  ⟨h.from_ j b, fun ⟨e, he, e1, e2⟩ => by rw [← e1, ← e2]; exact h.to_ e he⟩
theorem ndI_pre {es : List EntI} {i : Nat} {e : EntI} (he : es[i]? = some e) (h : (es.map (·.c)).Nodup) : ∀ f ∈ es.take i, f.c ≠ e.c := by
  intro f hf z
  have h2 : ((es.take (i + 1)).map (·.c)).Nodup := List.Nodup.sublist ((List.take_sublist _ _).map _) h
  rw [List.take_add_one, he, List.map_append, List.nodup_append] at h2
  exact h2.2.2 f.c (List.mem_map.mpr ⟨f, hf, rfl⟩) e.c (List.mem_map.mpr ⟨e, List.mem_singleton.mpr rfl, rfl⟩) z
def BackI (ss : List Suit) (es : List EntI) : Prop := ∀ e ∈ es, ∀ t, ss[e.c.toNat]? = some t -> ∀ n ∈ e.ns,
    (clBr t e.st n = true -> ∃ (j : Nat) (u : Suit), ss[j]? = some u /\ u.named = some (((e.c.toNat : Nat) : Int), n) /\ ∃ f ∈ es, f.c = (j : Int) /\ f.st = true) /\
    (clBr t e.st n = false -> ∀ (j : Nat) (u : Suit), ss[j]? = some u -> u.named = some (((e.c.toNat : Nat) : Int), n) -> ∃ f ∈ es, f.c = (j : Int) /\ f.st = false)
structure GoodI (S : EntI -> Prop) (ss : List Suit) (c : Int) (st : Bool) (es : List EntI) : Prop where
  nd : (es.map (·.c)).Nodup
  asked : ∃ e ∈ es, e.c = c /\ e.st = st
  sound : ∀ e ∈ es, S e
  back : BackI ss es
theorem back_iff {ss : List Suit} {tks : Tru} {es : List EntI} (h : TruII tks es) : BackI ss es ↔ ∀ e ∈ es, ∀ t, ss[e.c.toNat]? = some t -> ∀ n ∈ e.ns, Zq165 ss tks e.toN t n := by
  constructor
  · intro hb e he t ht n hn
    obtain ⟨h1, h2⟩ := hb e he t ht n hn
    refine ⟨fun z => ?_, fun z j u hu hun => (h.iff j false).mpr (h2 z j u hu hun)⟩
    obtain ⟨j, u, a1, a2, a3⟩ := h1 z
    exact ⟨j, u, a1, a2, (h.iff j true).mpr a3⟩
  · intro hb e he t ht n hn
    obtain ⟨h1, h2⟩ := hb e he t ht n hn
    refine ⟨fun z => ?_, fun z j u hu hun => (h.iff j false).mp (h2 z j u hu hun)⟩
    obtain ⟨j, u, a1, a2, a3⟩ := h1 z
    exact ⟨j, u, a1, a2, (h.iff j true).mp a3⟩
def spGood : Sp := fun vs H Q _ => ∃ (l le : Addr) (ss : List Suit) (es : List EntI) (c : Int) (st : Bool), vs = [.ref l, .int c, .bl st, .ref le] /\ SuitsAt H ss l /\ ss.length <= 1000 /\ Line ss /\ (∀ t ∈ ss, (t.ones ++ t.others).length <= 60) /\ Zq234 H es le /\ es.length <= 1000 /\
  ∀ (b : Bool) (H' : Hp), (b = true ↔ GoodI (fun e => Zq131 ss e = true) ss c st es) -> Same H H' -> Q (.bl b) H'
theorem soundI_at {ss : List Suit} {e : EntI} (h : Zq131 ss e = true) : 0 <= e.c /\ ∃ t, ss[e.c.toNat]? = some t /\ Zq153 t e.toN = true := by
  unfold Zq131 at h
  rw [Bool.and_eq_true] at h
  refine ⟨of_decide_eq_true h.1, ?_⟩
  cases ht : ss[e.c.toNat]? with
  | none => rw [ht] at h; cases h.2
  | some t => rw [ht] at h; exact ⟨t, rfl, h.2⟩
abbrev Zq38 : Stmt := top 25
theorem Zq155 : FnScope ["suits", "case", "stands", "entries", "truths", "entry", "named_by"] ["suits", "case", "stands", "entries"] (Zq0 Zq38) := ⟨rfl, rfl, rfl, by decide +kernel, rfl, by decide +kernel, by decide +kernel⟩
theorem Nq152 : Nm (Zq0 Zq38) "CASE" .globalImplicit := by decide +kernel
theorem Nq265 : Nm (Zq0 Zq38) "STANDS" .globalImplicit := by decide +kernel
theorem Nq266 : Nm (Zq0 Zq38) "all" .globalImplicit := by decide +kernel
theorem Nq267 : Nm (Zq0 Zq38) "case" .local := by decide +kernel
theorem Nq153 : Nm (Zq0 Zq38) "entries" .local := by decide +kernel
theorem Nq33 : Nm (Zq0 Zq38) "entry" .local := by decide +kernel
theorem Nq268 : Nm (Zq0 Zq38) "is_sound" .globalImplicit := by decide +kernel
theorem Nq154 : Nm (Zq0 Zq38) "named_by" .cell := by decide +kernel
theorem Nq269 : Nm (Zq0 Zq38) "namers" .globalImplicit := by decide +kernel
theorem Nq270 : Nm (Zq0 Zq38) "stands" .local := by decide +kernel
theorem Nq92 : Nm (Zq0 Zq38) "suits" .cell := by decide +kernel
theorem Nq34 : Nm (Zq0 Zq38) "truths" .cell := by decide +kernel
theorem Zq289 (Zq207 : Has K mg "good_paper" Zq38) (T : Txt mg) (D0 : ∃ t, mg "CASE" = some (.int 0 t)) (D1 : ∃ t, mg "STANDS" = some (.int 1 t))
    (Zq322 : Fn P w K mg base "is_sound" ["suits", "entry"] 3 spSound) (Zq259 : Fn P w K mg base "namers" ["suits"] 2 spNamers) (Zq307 : Fn P w K mg base "is_backed" ["suits", "entry", "truths", "named_by"] 2 spBacked) :
    Fn P w K mg base "good_paper" ["suits", "case", "stands", "entries"] 4 spGood := by
  obtain ⟨s0, c_CASE⟩ := D0
  obtain ⟨s1, c_STANDS⟩ := D1
  have r_CASE : RelV (.int 0) (.int 0 s0) := ⟨s0, rfl⟩
  have r_STANDS : RelV (.int 1) (.int 1 s1) := ⟨s1, rfl⟩
  refine Zq207.fnQ Zq155 (fun _ _ _ _ _ _ us hl => match us, hl with | [_, _, _, _], _ => rfl) (fun vs H Q E h => ?_) (fun f cdv A outer s H vs Q E hr h => ?_)
  · obtain ⟨l, le, ss, es, c, st, rfl, _⟩ := h
    rfl
  · obtain ⟨l, le, ss, es, c, st, rfl, hsu, hlen, hline, h60, hes, hel, k⟩ := h
    refine ⟨_, (Zq4 (qs_setNC (i := 4) Zq155.nd Nq34 ⟨L2.pe_dnewK⟩)
 (Zq4 (Zq64 PassesOwn.never rfl (Zq28 (qvN 3 Nq153)) (Zq27 (i := 5) Zq155.nd Nq33)
  (Zq4 (Zq23 (QW.pt (Zq214 (Zq15 (qop_din hr) (Zq10 Zq17 (qvN 5 Nq33) (Zq24 Nq152 c_CASE r_CASE) (fun _ _ => rfl)) (qvC 4 Nq34) rfl) (Zq197 (Zq177 (Zq95 (Zq8 Zq322 (hr.mono (by omega)) Nq268 (Zq1 (qvC 0 Nq92) (Zq1 (qvN 5 Nq33) Zq2)))))))) (Zq6 (Zq14 Zq56)) Zq20)
 (Zq6 (qs_dput hr (qvC 4 Nq34) (Zq10 Zq17 (qvN 5 Nq33) (Zq24 Nq152 c_CASE r_CASE) (fun _ _ => rfl)) (Zq10 Zq17 (qvN 5 Nq33) (Zq24 Nq265 c_STANDS r_STANDS) (fun _ _ => rfl))))))
 (Zq4 (qs_setNC (i := 6) Zq155.nd Nq154 (Zq8 Zq259 (hr.mono (by omega)) Nq269 (Zq1 (qvC 0 Nq92) Zq2)))
 (Zq6 (Zq14 (Zq180 (Zq62 Zq43 (qe_dget1 hr (qvC 4 Nq34) (qvN 1 Nq267)) (qvN 2 Nq270) (Zq19 _)) (Zq179 (Zq11 (qcall_all (by rfl)) Nq266 T.all b_all (Zq1 (Zq92 (locs := ["entry"]) (fr := [("suits", 0), ("truths", 4), ("named_by", 6)]) ⟨rfl, by decide +kernel, by decide +kernel, by decide +kernel, by decide +kernel, by decide +kernel⟩ (.consN Nq92 (.consN Nq34 (.consN Nq154 .nil))) rfl (Zq28 (qvN 3 Nq153)) ⟨fun _ _ _ _ _ _ => by
    have cnd : (inN ["entry"] [("suits", 0), ("truths", 4), ("named_by", 6)]).Nodup := by decide +kernel
    exact ⟨(qgLN 0 cnd), Zq90, (Zq8 Zq307 (hr.mono (by omega)) nmC (Zq1 (qvFN 1) (Zq1 (qvLN 0) (Zq1 (qvFN 2) (Zq1 (qvFN 3) Zq2)))))⟩⟩) Zq2))))))))), ?_⟩
    have hz : (5000 : Nat) <= sizeLine := by decide
    refine fun g hg => ?_
    have S0 : Same H (upd H g (.dK [])) := Same.new hg
    obtain ⟨us, hle, hrep⟩ := hes
    have hul : us.length = es.length := by have := hrep.length; rw [List.length_map] at this; exact this
    refine ⟨_, rfl, le, rfl, ⟨_, SqL.of (S0 _ _ hle)⟩, ?_⟩
    refine Zq71 us (fun i σ H' => ∃ (tks : Tru) (v5 : Option V), σ = [some (.ref l), some (.int c), some (.bl st), some (.ref le), some (.ref g), v5, none] /\ H' g = some (.dK tks) /\ TruII tks (es.take i) /\
        (∀ e ∈ es.take i, Zq131 ss e = true) /\ Same H H') ⟨[], none, rfl, Zq3, ⟨Nat.zero_le _, (fun k v e => nomatch e), (fun e he => by rw [List.take_zero] at he; cases he), (by rw [List.take_zero]; exact List.nodup_nil), (fun j b e => nomatch e)⟩, (fun e he => by rw [List.take_zero] at he; cases he), S0⟩ (fun i σ H' _ ⟨_, _, _, _, _, _, sm⟩ => SqL.of (sm _ _ hle)) ?_ ?_
    · rintro i x σ H' hx ⟨tks, v5, rfl, hg', htk, hsd, sm⟩
      obtain ⟨e, he, hre⟩ := Zq143 (hrep.mono' sm) hx
      have hem := List.mem_of_getElem? he
      have hi := (List.getElem?_eq_some_iff.mp he).1
      obtain ⟨ea, na, rfl, hea, hna⟩ := Zq157 hre
      refine ⟨_, rfl, ea, _, 0, _, rfl, rfl, SqT.of hea, rfl, _, rfl, g, _, rfl, DGet.k (k := .inl e.c) hg', _, rfl, ?_⟩
      cases hin : valV tks (.inl e.c) with
      | some v =>
        refine iteT (iteT (k false H' ⟨(fun z => nomatch z), fun hG => ?_⟩ sm))
        obtain ⟨b, rfl⟩ := htk.ok _ _ hin
        obtain ⟨f, hf, h1, _⟩ := htk.from_ _ _ hin
        exact (ndI_pre he hG.nd f hf h1).elim
      | none =>
        refine iteF ?_
        refine ⟨_, rfl, _, rfl, l, .ref ea, ss, e, rfl, hsu.mono sm, hlen, hline.ok, h60, hre, fun H1 s1 => ?_⟩
        have S1 := sm.trans s1
        refine ⟨_, rfl, ?_⟩
        cases hb : Zq131 ss e with
        | false =>
          refine iteT (k false H1 ⟨(fun z => nomatch z), fun hG => ?_⟩ S1)
          have := hG.sound e hem
          rw [hb] at this
          cases this
        | true =>
          refine iteF ?_
          refine ⟨_, rfl, ea, _, 1, _, rfl, rfl, SqT.of (s1 _ _ hea), rfl, _, rfl, _, rfl, ea, _, 0, _, rfl, rfl, SqT.of (s1 _ _ hea), rfl, g, _, rfl, DPut.k (k := .inl e.c) (s1 _ _ hg') (by have := htk.len; rw [List.length_take] at this; omega), ?_⟩
          refine ⟨_, _, rfl, Zq3, ⟨?_, ?_, ?_, ?_, ?_⟩, ?_, ?_⟩
          · refine Nat.le_trans (Zq72 _ _ _) ?_
            have := htk.len
            rw [List.length_take] at this ⊢
            omega
          · intro k' v' e'
            rw [Zq112] at e'
            split at e'
            · cases e'; exact ⟨_, rfl⟩
            · exact htk.ok _ _ e'
          · intro f hf
            rw [Zq112]
            rw [List.take_add_one, he] at hf
            rcases List.mem_append.mp hf with z | z
            · have hv := htk.to_ f z
              rw [if_neg (fun q => by rw [q, hin] at hv; cases hv)]
              exact hv
            · rw [List.mem_singleton.mp z, if_pos rfl]
          · rw [List.take_add_one, he, List.map_append, List.nodup_append]
            refine ⟨htk.nd, List.pairwise_singleton _ _, fun a ha b hb' z => ?_⟩
            obtain ⟨f, hf, rfl⟩ := List.mem_map.mp ha
            have hb2 := List.mem_singleton.mp hb'
            have hv := htk.to_ f hf
            rw [z, hb2, hin] at hv
            cases hv
          · intro j b' e'
            rw [Zq112] at e'
            rw [List.take_add_one, he]
            by_cases hj : (Sum.inl j : Key) = .inl e.c
            · rw [if_pos hj] at e'
              cases e'
              injection hj with hj
              exact ⟨e, List.mem_append_right _ (List.mem_singleton.mpr rfl), hj.symm, rfl⟩
            · rw [if_neg hj] at e'
              obtain ⟨f, hf, h1, h2⟩ := htk.from_ j b' e'
              exact ⟨f, List.mem_append_left _ hf, h1, h2⟩
          · intro f hf
            rw [List.take_add_one, he] at hf
            rcases List.mem_append.mp hf with z | z
            · exact hsd f z
            · rw [List.mem_singleton.mp z]; exact hb
          · intro b' o e'
            rw [Zq7 (fun z => by rw [z, hg] at e'; cases e')]
            exact S1 b' o e'
    · rintro σ H1 ⟨tks, v5, rfl, hg1, htk, hsd, sm1⟩
      rw [hul, List.take_length] at htk hsd
      refine ⟨_, rfl, l, ss, rfl, hsu.mono sm1, hlen, fun nb H2 hnb sm2 => ?_⟩
      have S2 := sm1.trans sm2
      have hg2 := sm2 _ _ hg1
      refine ⟨_, rfl, g, rfl, .inl ⟨tks, .inl hg2⟩, _, rfl, _, DGet.k (k := .inl c) hg2, _, rfl, ?_, _, rfl, ?_⟩
      · cases hv : valV tks (.inl c) with
        | none => rfl
        | some v => obtain ⟨b, rfl⟩ := htk.ok _ _ hv; rfl
      refine iteD (fun hask => ?_) (fun hask => k false H2 ⟨(fun z => nomatch z), fun hG => ?_⟩ S2)
      rotate_left
      · obtain ⟨e, he, h1, h2⟩ := hG.asked
        have hv := (htk.iff c st).mpr ⟨e, he, h1, h2⟩
        exact (hask (by rw [hv]; rfl)).elim
      have asked : ∃ e ∈ es, e.c = c /\ e.st = st := by
        cases hv : valV tks (.inl c) with
        | none => rw [hv] at hask; cases hask
        | some v =>
          rw [hv] at hask
          have : v = .bl st := hask
          rw [this] at hv
          exact htk.from_ c st hv
      refine ⟨_, rfl, le, rfl, ⟨_, SqL.of (S2 _ _ hle)⟩, ?_⟩
      refine Zq61 (xs := us) (fun i ys H' => Same H2 H' /\ ∃ bs : List Bool, ys = bs.map V.bl /\ bs.length = i /\ (bs.all id = true ↔ ∀ e ∈ es.take i, ∀ t, ss[e.c.toNat]? = some t -> ∀ n ∈ e.ns, Zq165 ss tks e.toN t n)) ⟨Same.refl _, [], rfl, rfl, ⟨(fun _ e he => by rw [List.take_zero] at he; cases he), fun _ => rfl⟩⟩ (by omega) (fun i ys H' _ ⟨sm, _⟩ => SqL.of (sm _ _ (S2 _ _ hle))) ?_ ?_ ?_
      · rintro i ys H' ⟨_, bs, rfl, h, _⟩
        rw [List.length_map]; omega
      · rintro i x ys H' hx ⟨sm, bs, rfl, hbl, hall⟩ ls hls
        obtain ⟨w0, rfl⟩ := len1 hls
        have S3 := S2.trans sm
        obtain ⟨e, he, hre⟩ := Zq143 (hrep.mono' S3) hx
        have hem := List.mem_of_getElem? he
        obtain ⟨he0, t, ht, _⟩ := soundI_at (hsd e hem)
        have htm := List.mem_of_getElem? ht
        rw [entI_N he0] at hre
        refine ⟨⟨[_], rfl, rfl⟩, iteT ?_⟩
        refine ⟨_, rfl, _, rfl, _, rfl, _, rfl, l, g, nb, x, ss, e.toN, t, tks, rfl, hsu.mono S3, hlen, ht, hline.ok t htm, hre, sm _ _ hg2, htk.ok, hnb.mono sm, fun b H4 hb s4 => ?_⟩
        refine ⟨sm.trans s4, bs ++ [b], by rw [List.map_append]; rfl, by rw [List.length_append, hbl]; rfl, ?_⟩
        have ea : (bs ++ [b]).all id = true ↔ bs.all id = true /\ b = true := by rw [List.all_append, Bool.and_eq_true]; simp
        rw [ea, hall, hb, List.take_add_one, he]
        constructor
        · rintro ⟨h1, h2⟩ f hf u hu
          rcases List.mem_append.mp hf with z | z
          · exact h1 f z u hu
          · rw [List.mem_singleton.mp z] at hu ⊢
            rw [ht] at hu
            cases hu
            exact h2
        · intro h
          exact ⟨fun f hf => h f (List.mem_append_left _ hf), h e (List.mem_append_right _ (List.mem_singleton.mpr rfl)) t ht⟩
      · rintro ys H' ⟨sm, bs, rfl, hbl, hall⟩ lq hlq
        rw [hul, List.take_length] at hall
        refine ⟨lq, bs, rfl, SqL.of Zq3, k _ _ ?_ (S2.trans (sm.trans (Same.new hlq)))⟩
        rw [hall]
        exact ⟨fun h => ⟨htk.nd, asked, hsd, (back_iff htk).mpr h⟩, fun hG => (back_iff htk).mp hG.back⟩
end
section
variable {P : Program} {w : World} {K : PySem.W.Frag} {mg : Str -> Option Value} {base : Heap}
def brB (ss : List Suit) (c : Nat) (n : Str) : Bool := decide (brk9 ss (c : Int) n ≠ [])
def Zq194 (ss : List Suit) (c : Nat) (t : Suit) (st : Bool) : Side := (t.ones.filter fun p => !decide (brB ss c p.1 = st)) ++ t.others.filter fun p => decide (brB ss c p.1 = st)
theorem filt_take {sd : Side} {f : Str × Int -> Bool} {i : Nat} {p : Str × Int} (h : sd[i]? = some p) : (sd.take (i + 1)).filter f = (sd.take i).filter f ++ (if f p then [p] else []) := by
  rw [List.take_add_one, h, List.filter_append]
  cases e : f p <;> simp [e]
theorem perm_wts {a b : Side} (h : a.Perm b) : (wts a).sum = (wts b).sum := by
  unfold wts
  induction h with
  | nil => rfl
  | cons x _ ih => rw [List.map_cons, List.map_cons, List.sum_cons, List.sum_cons, ih]
  | swap x y l => simp only [List.map_cons, List.sum_cons]; omega
  | trans _ _ h1 h2 => exact h1.trans h2
theorem nb_isb {H : Hp} {g : Addr} {ss : List Suit} (h : NbAt H g ss (stL (bsOf ss))) : ∃ kvs : Gone, H g = some (.dT kvs) /\ (∀ (c : Nat) n, (valV kvs (okey c n)).isSome = brB ss c n) /\ ∀ (c : Nat) n, brB ss c n = true -> ∃ a, valV kvs (okey c n) = some (.ref a) /\ H a = some (.lst (Zq30 (brk9 ss c n))) := by
  obtain ⟨kvs, hg, _, hk, hn⟩ := h
  refine ⟨kvs, hg, fun c n => ?_, fun c n hb => ?_⟩
  · unfold brB
    rcases hn c n with ⟨h1, h2⟩ | ⟨a, h1, h2⟩
    · rw [h1]; exact (decide_eq_false (fun z => z h2)).symm
    · obtain ⟨p, hp, e⟩ := List.mem_map.mp (valV_in h1)
      obtain ⟨c', n', e2, h3⟩ := hk p hp
      have := okey_inj (e.symm.trans e2)
      cases this
      rw [h1]; exact (decide_eq_true h3).symm
  · rcases hn c n with ⟨h1, h2⟩ | ⟨a, h1, h2⟩
    · exact (of_decide_eq_true hb h2).elim
    · exact ⟨a, h1, h2⟩
def spFewn (T : Addr) : Sp := fun vs H Q _ => ∃ (l g : Addr) (ss : List Suit) (c : Nat) (t : Suit) (st : Bool), vs = [.ref l, .int c, .bl st, .ref g] /\ SuitsAt H ss l /\ ss[c]? = some t /\ Zq96 t /\ (t.ones ++ t.others).length <= 60 /\ NbAt H g ss (stL (bsOf ss)) /\ IsTab H T fewNm /\ Zq63 t st <= (wts (Zq194 ss c t st)).sum /\
  ∀ (q : Addr) (k : Nat) (sd' : Side) (H' : Hp), sd'.Perm (Zq194 ss c t st) -> (wts sd').Pairwise (· >= ·) -> k <= sd'.length -> Zq125 sd' (Zq63 t st) k < 1 -> (∀ j, j < k -> 1 <= Zq125 sd' (Zq63 t st) j) -> H q = none -> H' q = some (.lst (Zq185 (sd'.take k))) -> Same H H' -> Q (.ref q) H'
abbrev Zq31 : Stmt := top 26
theorem Zq137 : FnScope ["suits", "case", "stands", "broken_by", "suit", "true_ones", "true_others"] ["suits", "case", "stands", "broken_by"] (Zq0 Zq31) := ⟨rfl, rfl, rfl, by decide +kernel, rfl, by decide +kernel, by decide +kernel⟩
theorem Nq271 : Nm (Zq0 Zq31) "ONES" .globalImplicit := by decide +kernel
theorem Nq272 : Nm (Zq0 Zq31) "OTHERS" .globalImplicit := by decide +kernel
theorem Nq155 : Nm (Zq0 Zq31) "broken_by" .cell := by decide +kernel
theorem Nq93 : Nm (Zq0 Zq31) "case" .cell := by decide +kernel
theorem Nq273 : Nm (Zq0 Zq31) "enough" .globalImplicit := by decide +kernel
theorem Nq274 : Nm (Zq0 Zq31) "fewest_to" .globalImplicit := by decide +kernel
theorem Nq94 : Nm (Zq0 Zq31) "stands" .cell := by decide +kernel
theorem Nq59 : Nm (Zq0 Zq31) "suit" .local := by decide +kernel
theorem Nq275 : Nm (Zq0 Zq31) "suits" .local := by decide +kernel
theorem Nq156 : Nm (Zq0 Zq31) "true_ones" .local := by decide +kernel
theorem Nq157 : Nm (Zq0 Zq31) "true_others" .local := by decide +kernel
theorem Zq265 {Tt : Addr} (Zq172 : Has K mg "fewest_names" Zq31) (T : Txt mg) (C0 : ∃ t, mg "ONES" = some (.int 0 t)) (C1 : ∃ t, mg "OTHERS" = some (.int 1 t)) (Zq308 : Fn P w K mg base "fewest_to" ["side", "goal"] 4 (spFew Tt)) (Zq258 : Fn P w K mg base "enough" ["suit", "stands"] 2 spEnough) :
    Fn P w K mg base "fewest_names" ["suits", "case", "stands", "broken_by"] 5 (spFewn Tt) := by
  obtain ⟨t0, c_ONES⟩ := C0
  obtain ⟨t1, c_OTHERS⟩ := C1
  have r_ONES : RelV (.int 0) (.int 0 t0) := ⟨t0, rfl⟩
  have r_OTHERS : RelV (.int 1) (.int 1 t1) := ⟨t1, rfl⟩
  refine Zq172.fnQ Zq137 (fun _ _ _ _ _ _ us hl => match us, hl with | [_, _, _, _], _ => rfl) (fun vs H Q E h => ?_) (fun f cdv A outer s H vs Q E hr h => ?_)
  · obtain ⟨l, g, ss, c, t, st, rfl, _⟩ := h
    rfl
  · obtain ⟨l, g, ss, c, t, st, rfl, hsu, ht, hok, h60, hnb, hT, hen, k⟩ := h
    refine ⟨_, (Zq4 (Zq12 (i := 4) Zq137.nd Nq59 (Zq10 Zq21 (qvN 0 Nq275) (qvC 1 Nq93) (fun _ _ => rfl)))
 (Zq4 (Zq133 (locs := ["oath"]) (fr := [("case", 1), ("stands", 2), ("broken_by", 3)]) ⟨rfl, by decide +kernel, by decide +kernel, by decide +kernel, by decide +kernel, by decide +kernel⟩ (.consN Nq93 (.consN Nq94 (.consN Nq155 .nil))) rfl (Zq28 (Zq10 Zq17 (qvN 4 Nq59) (Zq24 Nq271 c_ONES r_ONES) (fun _ _ => rfl))) ⟨fun _ _ _ _ _ _ => by
    have cnd : (inN ["oath"] [("case", 1), ("stands", 2), ("broken_by", 3)]).Nodup := by decide +kernel
    exact ⟨(qgLN 0 cnd), (Zq158 (Zq15 qop_ne (Zq62 (qop_din hr) (Zq70 (Zq1 (qvFN 1) (Zq1 (Zq10 qix_tupC (qvLN 0) Zq5 (fun _ _ => rfl)) Zq2))) (qvFN 3) rfl) (qvFN 2) (Zq19 _))), (qvLN 0)⟩⟩ Zq137.nd Nq156 (by rfl) (i := 5))
 (Zq4 (Zq133 (locs := ["oath"]) (fr := [("case", 1), ("stands", 2), ("broken_by", 3)]) ⟨rfl, by decide +kernel, by decide +kernel, by decide +kernel, by decide +kernel, by decide +kernel⟩ (.consN Nq93 (.consN Nq94 (.consN Nq155 .nil))) rfl (Zq28 (Zq10 Zq17 (qvN 4 Nq59) (Zq24 Nq272 c_OTHERS r_OTHERS) (fun _ _ => rfl))) ⟨fun _ _ _ _ _ _ => by
    have cnd : (inN ["oath"] [("case", 1), ("stands", 2), ("broken_by", 3)]).Nodup := by decide +kernel
    exact ⟨(qgLN 0 cnd), (Zq158 (Zq15 Zq43 (Zq62 (qop_din hr) (Zq70 (Zq1 (qvFN 1) (Zq1 (Zq10 qix_tupC (qvLN 0) Zq5 (fun _ _ => rfl)) Zq2))) (qvFN 3) rfl) (qvFN 2) (Zq19 _))), (qvLN 0)⟩⟩ Zq137.nd Nq157 (by rfl) (i := 6))
 (Zq6 (Zq14 (Zq8 Zq308 (hr.mono (by omega)) Nq274 (Zq1 (Zq18 Zq89 (qvN 5 Nq156) (qvN 6 Nq157)) (Zq1 (Zq8 Zq258 (hr.mono (by omega)) Nq273 (Zq1 (qvN 4 Nq59) (Zq1 (qvC 2 Nq94) Zq2))) Zq2)))))))), ?_⟩
    have hz : (5000 : Nat) <= sizeLine := by decide
    obtain ⟨us, hl, hrep⟩ := id hsu
    obtain ⟨tv, htv, ta, u1, u2, u4, rfl, hta, ⟨b1, v1, rfl, hb1, hr1⟩, ⟨b2, v2, rfl, hb2, hr2⟩⟩ := SuitsAt.suit (l := l) hrep ht
    obtain ⟨kvs, hg, isb, _⟩ := nb_isb hnb
    have z1 := hr1.len
    have z2 := hr2.len
    have h60' := h60
    rw [List.length_append] at h60'
    refine ⟨_, rfl, _, rfl, l, us, c, .ref ta, rfl, rfl, SqL.of hl, Zq40 htv, ?_⟩
    refine ⟨_, rfl, ta, _, 0, _, rfl, rfl, SqT.of hta, rfl, b1, rfl, ⟨_, SqL.of hb1⟩, ?_⟩
    refine Zq61 (xs := v1) (fun i ys H' => Same H H' /\ RepS H' ((t.ones.take i).filter fun p => !decide (brB ss c p.1 = st)) ys /\ ys.length <= i) ⟨Same.refl _, rfl, Nat.le_refl _⟩ (by omega) (fun i ys H' _ ⟨e, _⟩ => SqL.of (e _ _ hb1)) (fun i ys H' ⟨_, _, h⟩ => h) ?_ ?_
    · rintro i x ys H' hx ⟨sm, hys, hyl⟩ ls hls
      obtain ⟨w0, rfl⟩ := len1 hls
      obtain ⟨p, b, hp, rfl, hb⟩ := hr1.get hx
      have et := filt_take (f := fun p => !decide (brB ss c p.1 = st)) hp
      refine ⟨⟨[_], rfl, rfl⟩, ?_⟩
      refine ⟨_, rfl, _, rfl, b, _, 0, _, rfl, rfl, SqT.of (sm _ _ hb), rfl, by show 2 <= sizeLine; omega, fun q hq => ?_⟩
      have Sq := Same.new (o := .tup [.int c, .str p.1]) hq
      have kq : (upd H' q (.tup [.int c, .str p.1])) q = some (.tup [.int c, .str p.1]) := Zq3
      have hys1 := RepS.mono (Same.t Sq) hys
      generalize (upd H' q (.tup [.int c, .str p.1])) = H1 at Sq kq hys1 ⊢
      have S1 := sm.trans Sq
      refine ⟨_, rfl, g, _, rfl, DGet.t (S1 _ _ hg) (k := okey c p.1) kq, _, rfl, rfl, _, rfl, ?_⟩
      rw [isb]
      refine Zq103 (fun hne => ?_) (fun heq => ?_)
      · have hf : (!decide (brB ss c p.1 = st)) = true := by simpa using hne
        rw [if_pos hf] at et
        refine ⟨_, rfl, S1, ?_, by rw [List.length_append]; show _ + 1 <= _; omega⟩
        rw [et]
        exact RepS.app (b := [p]) (ws := [.ref b]) ⟨b, [], rfl, S1 _ _ hb, rfl⟩ hys1
      · have hf : ¬ (!decide (brB ss c p.1 = st)) = true := by simpa using heq
        rw [if_neg hf, List.append_nil] at et
        exact ⟨S1, by rw [et]; exact hys1, by omega⟩
    rintro y1 H1 ⟨sm1, hy1, hyl1⟩ q1 hq1
    rw [z1, List.take_length] at hy1
    have Sq1 := Same.new (o := .lst y1) hq1
    have kq1 : (upd H1 q1 (.lst y1)) q1 = some (.lst y1) := Zq3
    have hy1' := RepS.mono (Same.t Sq1) hy1
    generalize (upd H1 q1 (.lst y1)) = H2 at Sq1 kq1 hy1' ⊢
    have S2 := sm1.trans Sq1
    refine ⟨_, rfl, ta, _, 1, _, rfl, rfl, SqT.of (S2 _ _ hta), rfl, b2, rfl, ⟨_, SqL.of (S2 _ _ hb2)⟩, ?_⟩
    refine Zq61 (xs := v2) (fun i ys H' => Same H2 H' /\ RepS H' ((t.others.take i).filter fun p => decide (brB ss c p.1 = st)) ys /\ ys.length <= i) ⟨Same.refl _, rfl, Nat.le_refl _⟩ (by omega) (fun i ys H' _ ⟨e, _⟩ => SqL.of (e _ _ (S2 _ _ hb2))) (fun i ys H' ⟨_, _, h⟩ => h) ?_ ?_
    · rintro i x ys H' hx ⟨sm, hys, hyl⟩ ls hls
      obtain ⟨w0, rfl⟩ := len1 hls
      obtain ⟨p, b, hp, rfl, hb⟩ := hr2.get hx
      have et := filt_take (f := fun p => decide (brB ss c p.1 = st)) hp
      have sH := S2.trans sm
      refine ⟨⟨[_], rfl, rfl⟩, ?_⟩
      refine ⟨_, rfl, _, rfl, b, _, 0, _, rfl, rfl, SqT.of (sH _ _ hb), rfl, by show 2 <= sizeLine; omega, fun q hq => ?_⟩
      have Sq := Same.new (o := .tup [.int c, .str p.1]) hq
      have kq : (upd H' q (.tup [.int c, .str p.1])) q = some (.tup [.int c, .str p.1]) := Zq3
      have hys1 := RepS.mono (Same.t Sq) hys
      generalize (upd H' q (.tup [.int c, .str p.1])) = H3 at Sq kq hys1 ⊢
      have S1 := sH.trans Sq
      refine ⟨_, rfl, g, _, rfl, DGet.t (S1 _ _ hg) (k := okey c p.1) kq, _, rfl, rfl, _, rfl, ?_⟩
      rw [isb]
      refine iteD (fun heq => ?_) (fun hne => ?_)
      · have hf : decide (brB ss c p.1 = st) = true := by simpa using heq
        rw [if_pos hf] at et
        refine ⟨_, rfl, sm.trans Sq, ?_, by rw [List.length_append]; show _ + 1 <= _; omega⟩
        rw [et]
        exact RepS.app (b := [p]) (ws := [.ref b]) ⟨b, [], rfl, S1 _ _ hb, rfl⟩ hys1
      · have hf : ¬ decide (brB ss c p.1 = st) = true := by simpa using hne
        rw [if_neg hf, List.append_nil] at et
        exact ⟨sm.trans Sq, by rw [et]; exact hys1, by omega⟩
    rintro y2 H3 ⟨sm3, hy2, hyl2⟩ q2 hq2
    rw [z2, List.take_length] at hy2
    have Sq2 := Same.new (o := .lst y2) hq2
    have kq2 : (upd H3 q2 (.lst y2)) q2 = some (.lst y2) := Zq3
    have hy2' := RepS.mono (Same.t Sq2) hy2
    generalize (upd H3 q2 (.lst y2)) = H4 at Sq2 kq2 hy2' ⊢
    have S34 := sm3.trans Sq2
    have S4 := S2.trans S34
    have hy1'' := RepS.mono (Same.t S34) hy1'
    refine ⟨_, rfl, _, rfl, q1, q2, y1, y2, rfl, rfl, S34 _ _ kq1, kq2, by omega, fun q3 hq3 => ?_⟩
    have Sq3 := Same.new (o := .lst (y1 ++ y2)) hq3
    have kq3 : (upd H4 q3 (.lst (y1 ++ y2))) q3 = some (.lst (y1 ++ y2)) := Zq3
    have hy3 : RepS (upd H4 q3 (.lst (y1 ++ y2))) (Zq194 ss c t st) (y1 ++ y2) := RepS.mono (Same.t Sq3) (RepS.app hy2' hy1'')
    generalize (upd H4 q3 (.lst (y1 ++ y2))) = H5 at Sq3 kq3 hy3 ⊢
    have S5 := S4.trans Sq3
    refine ⟨_, rfl, _, rfl, .ref ta, t, st, rfl, ⟨ta, .ref b1, .ref b2, u4, rfl, S5 _ _ hta, SideAt.mono ⟨b1, v1, rfl, hb1, hr1⟩ S5, SideAt.mono ⟨b2, v2, rfl, hb2, hr2⟩ S5⟩, hok, fun H6 s6 => ?_⟩
    have S6 := S5.trans s6
    have hy6 := RepS.mono (Same.t s6) hy3
    have hl3 := hy6.len
    rw [List.length_append] at hl3
    refine ⟨q3, y1 ++ y2, Zq194 ss c t st, Zq63 t st, rfl, s6 _ _ kq3, hy6, by omega, hT.same S6, fun sd' hp hs => ⟨fun kk q H7 h1 h2 h3 h4 h5 h6 => ?_, fun hno H7 _ => ?_⟩⟩
    · exact k q kk sd' H7 hp hs h1 h2 h3 (S6.free h4) h5 (S6.trans h6)
    · exfalso
      have := hno sd'.length (Nat.le_refl _)
      unfold Zq125 at this
      rw [show sd'.length = (wts sd').length by unfold wts; rw [List.length_map], List.take_length, perm_wts hp] at this
      omega
end
section
variable {P : Program} {w : World} {K : PySem.W.Frag} {mg : Str -> Option Value} {base : Heap}
def ask1 (ss : List Suit) (t : Suit) (e : Ent) (n : Str) : List Nat := if clBr t e.st n then (brk9 ss (e.c : Int) n).take 1 else jsOf ss (e.c : Int) n (List.range ss.length)
def askL (ss : List Suit) (t : Suit) (e : Ent) (ns : List Str) : List Nat := ns.flatMap (ask1 ss t e)
theorem stL_len (ss : List Suit) : (stL (bsOf ss)).length <= ss.length := by
  have := stT_len (bsOf ss) (bsOf ss).length
  have h : (bsOf ss).length = ss.length := settL_len [] ss 0
  unfold stL
  omega
theorem ask1_len (ss : List Suit) (t : Suit) (e : Ent) (n : Str) : (ask1 ss t e n).length <= ss.length := by
  unfold ask1
  split
  · have h1 := js_len ss (e.c : Int) n (stL (bsOf ss))
    have h2 := stL_len ss
    unfold brk9
    rw [List.length_take]
    omega
  · have h1 := js_len ss (e.c : Int) n (List.range ss.length)
    rw [List.length_range] at h1
    exact h1
theorem askL_len (ss : List Suit) (t : Suit) (e : Ent) : ∀ ns : List Str, (askL ss t e ns).length <= ns.length * ss.length
  | [] => Nat.zero_le _
  | n :: ns => by
    have ih := askL_len ss t e ns
    have h1 := ask1_len ss t e n
    unfold askL at ih ⊢
    rw [List.flatMap_cons, List.length_append, List.length_cons, Nat.succ_mul]
    omega
theorem askL_snoc {ss : List Suit} {t : Suit} {e : Ent} {ns : List Str} {i : Nat} {n : Str} (h : ns[i]? = some n) : askL ss t e (ns.take (i + 1)) = askL ss t e (ns.take i) ++ ask1 ss t e n := by
  unfold askL
  rw [List.take_add_one, h, List.flatMap_append]
  simp
theorem ask1_mem {ss : List Suit} {t : Suit} {e : Ent} {n : Str} {j : Nat} (h : j ∈ ask1 ss t e n) : ∃ u, ss[j]? = some u /\ u.named = some ((e.c : Int), n) := by
  unfold ask1 at h
  split at h
  · have := List.mem_of_mem_take h
    unfold brk9 jsOf at this
    exact nmd_iff.mp (List.mem_filter.mp this).2
  · unfold jsOf at h
    exact nmd_iff.mp (List.mem_filter.mp h).2
theorem askL_mem {ss : List Suit} {t : Suit} {e : Ent} {ns : List Str} {j : Nat} (h : j ∈ askL ss t e ns) : ∃ n ∈ ns, j ∈ ask1 ss t e n := List.mem_flatMap.mp h
theorem intsV_app (a b : List Nat) : Zq30 (a ++ b) = Zq30 a ++ Zq30 b := by unfold Zq30; rw [List.map_append]
theorem intsV_len (a : List Nat) : (Zq30 a).length = a.length := by unfold Zq30; rw [List.length_map]
def spAskBy : Sp := fun vs H Q _ => ∃ (l g1 g2 : Addr) (v : V) (ss : List Suit) (e : Ent) (t : Suit), vs = [.ref l, v, .ref g1, .ref g2] /\ SuitsAt H ss l /\ ss.length <= 20 /\ ss[e.c]? = some t /\ Zq96 t /\ Rep H (entD e) v /\ NbAt H g1 ss (List.range ss.length) /\ NbAt H g2 ss (stL (bsOf ss)) /\ e.ns.length <= 60 /\
  (∀ n ∈ e.ns, clBr t e.st n = true -> brB ss e.c n = true) /\ ∀ (q : Addr) (H' : Hp), H q = none -> H' q = some (.lst (Zq30 (askL ss t e e.ns))) -> Same H H' -> Q (.ref q) H'
abbrev Zq53 : Stmt := top 29
theorem Zq173 : FnScope ["suits", "entry", "named_by", "broken_by", "cases", "name", "oath"] ["suits", "entry", "named_by", "broken_by"] (Zq0 Zq53) := ⟨rfl, rfl, rfl, by decide +kernel, rfl, by decide +kernel, by decide +kernel⟩
theorem Nq158 : Nm (Zq0 Zq53) "CASE" .globalImplicit := by decide +kernel
theorem Nq276 : Nm (Zq0 Zq53) "NAMES" .globalImplicit := by decide +kernel
theorem Nq277 : Nm (Zq0 Zq53) "STANDS" .globalImplicit := by decide +kernel
theorem Nq278 : Nm (Zq0 Zq53) "broken_by" .local := by decide +kernel
theorem Nq60 : Nm (Zq0 Zq53) "cases" .local := by decide +kernel
theorem Nq279 : Nm (Zq0 Zq53) "claims_broken" .globalImplicit := by decide +kernel
theorem Nq61 : Nm (Zq0 Zq53) "entry" .local := by decide +kernel
theorem Nq95 : Nm (Zq0 Zq53) "name" .local := by decide +kernel
theorem Nq280 : Nm (Zq0 Zq53) "named_by" .local := by decide +kernel
theorem Nq96 : Nm (Zq0 Zq53) "oath" .local := by decide +kernel
theorem Nq281 : Nm (Zq0 Zq53) "suits" .local := by decide +kernel
theorem Zq323 (Zq237 : Has K mg "asked_by" Zq53) (T : Txt mg) (D0 : ∃ t, mg "CASE" = some (.int 0 t)) (D1 : ∃ t, mg "STANDS" = some (.int 1 t)) (D2 : ∃ t, mg "NAMES" = some (.int 2 t))
    (Zq166 : Fn P w K mg base "claims_broken" ["suit", "stands", "name"] 1 spClBr) : Fn P w K mg base "asked_by" ["suits", "entry", "named_by", "broken_by"] 2 spAskBy := by
  obtain ⟨s0, c_CASE⟩ := D0
  obtain ⟨s1, c_STANDS⟩ := D1
  obtain ⟨s2, c_NAMES⟩ := D2
  have r_CASE : RelV (.int 0) (.int 0 s0) := ⟨s0, rfl⟩
  have r_STANDS : RelV (.int 1) (.int 1 s1) := ⟨s1, rfl⟩
  have r_NAMES : RelV (.int 2) (.int 2 s2) := ⟨s2, rfl⟩
  refine Zq237.fnQ Zq173 (fun _ _ _ _ _ _ us hl => match us, hl with | [_, _, _, _], _ => rfl) (fun vs H Q E h => ?_) (fun f cdv A outer s H vs Q E hr h => ?_)
  · obtain ⟨l, g1, g2, v, ss, e, t, rfl, _⟩ := h
    rfl
  · obtain ⟨l, g1, g2, v, ss, e, t, rfl, hsu, hlen, ht, hok, hev, hnb1, hnb2, hnl, hbr, k⟩ := h
    refine ⟨_, (Zq4 (Zq12 (i := 4) Zq173.nd Nq60 (Zq83 Zq2))
 (Zq4 (Zq64 PassesOwn.never rfl (Zq28 (Zq10 Zq17 (qvN 1 Nq61) (Zq24 Nq276 c_NAMES r_NAMES) (fun _ _ => rfl))) (Zq27 (i := 5) Zq173.nd Nq95)
  (Zq4 (Zq12 (i := 6) Zq173.nd Nq96 (Zq70 (Zq1 (Zq10 Zq17 (qvN 1 Nq61) (Zq24 Nq158 c_CASE r_CASE) (fun _ _ => rfl)) (Zq1 (qvN 5 Nq95) Zq2))))
 (Zq6 (Zq23 (Zq95 (Zq8 Zq166 (hr.mono (by omega)) Nq279 (Zq1 (Zq10 Zq21 (qvN 0 Nq281) (Zq10 Zq17 (qvN 1 Nq61) (Zq24 Nq158 c_CASE r_CASE) (fun _ _ => rfl)) (fun _ _ => rfl)) (Zq1 (Zq10 Zq17 (qvN 1 Nq61) (Zq24 Nq277 c_STANDS r_STANDS) (fun _ _ => rfl)) (Zq1 (qvN 5 Nq95) Zq2))))) (Zq6 (Zq132 (Zq147 F.plainAttrs_list F.slot_list_append F.type_list_append Zq108 (qvN 4 Nq60) (Zq1 (Zq10 Zq21 (qe_dget hr (qvN 3 Nq278) (qvN 6 Nq96) (fun _ _ => rfl)) Zq5 (fun _ _ => rfl)) Zq2)))) (Zq6 (Zq132 (Zq147 F.plainAttrs_list F.slot_list_extend F.type_list_extend qmt_extend (qvN 4 Nq60) (Zq1 (qe_dget2 hr (qvN 2 Nq280) (qvN 6 Nq96) (Zq83 Zq2)) Zq2))))))))
 (Zq6 (Zq14 (qvN 4 Nq60))))), ?_⟩
    have hz : (5000 : Nat) <= sizeLine := by decide
    obtain ⟨ea, na, rfl, hea, hna⟩ := ent_inv hev
    obtain ⟨kv1, hg1, _, _, hn1⟩ := hnb1
    obtain ⟨kv2, hg2, isb, hn2⟩ := nb_isb hnb2
    refine ⟨by show 0 <= sizeLine; omega, fun m hm => ?_⟩
    have S0 := Same.new (o := .lst []) hm
    have k0 : (upd H m (.lst [])) m = some (.lst []) := Zq3
    generalize (upd H m (.lst [])) = H0 at S0 k0 ⊢
    refine ⟨_, rfl, ea, _, 2, _, rfl, rfl, SqT.of (S0 _ _ hea), rfl, na, rfl, ⟨_, SqL.of (S0 _ _ hna)⟩, ?_⟩
    refine Zq71 (e.ns.map V.str) (fun i σ H' => ∃ (v5 v6 : Option V), σ = [some (.ref l), some (.ref ea), some (.ref g1), some (.ref g2), some (.ref m), v5, v6] /\ Same H H' /\ H' m = some (.lst (Zq30 (askL ss t e (e.ns.take i))))) ⟨none, none, rfl, S0, k0⟩ (fun i σ H' _ ⟨_, _, _, sm, _⟩ => SqL.of (sm _ _ hna)) ?_ ?_
    · rintro i x σ H' hx ⟨v5, v6, rfl, sm, hm'⟩
      rw [List.getElem?_map] at hx
      obtain ⟨n, hn, rfl⟩ := Option.map_eq_some_iff.mp hx
      have hi := (List.getElem?_eq_some_iff.mp hn).1
      have al := askL_len ss t e (e.ns.take i)
      have al2 : (askL ss t e (e.ns.take i)).length <= 1200 := by
        rw [List.length_take] at al
        exact Nat.le_trans al (Nat.mul_le_mul (show min i e.ns.length <= 60 by omega) hlen)
      have a1 := ask1_len ss t e n
      have es := askL_snoc (ss := ss) (t := t) (e := e) hn
      refine ⟨_, rfl, ea, _, 0, _, rfl, rfl, SqT.of (sm _ _ hea), rfl, _, rfl, by show 2 <= sizeLine; omega, fun q hq => ?_⟩
      have Sq := Same.new (o := .tup [.int e.c, .str n]) hq
      have kq : (upd H' q (.tup [.int e.c, .str n])) q = some (.tup [.int e.c, .str n]) := Zq3
      generalize (upd H' q (.tup [.int e.c, .str n])) = H1 at Sq kq ⊢
      have S1 := sm.trans Sq
      obtain ⟨us, hl1, hrep1⟩ := hsu.mono S1
      obtain ⟨sv, hsv, hsa⟩ := SuitsAt.suit (l := l) hrep1 ht
      refine ⟨_, rfl, _, rfl, ea, _, 0, _, rfl, rfl, SqT.of (S1 _ _ hea), rfl, l, us, e.c, sv, rfl, rfl, SqL.of hl1, Zq40 hsv, _, rfl, ea, _, 1, _, rfl, rfl, SqT.of (S1 _ _ hea), rfl, _, rfl, sv, t, e.st, n, rfl, hsa, hok, fun H2 s2 => ?_⟩
      have S2 := S1.trans s2
      have hm2 := s2 _ _ (Sq _ _ hm')
      have kq2 := s2 _ _ kq
      refine ⟨_, rfl, ?_⟩
      cases hcb : clBr t e.st n with
      | true =>
        have e1 : ask1 ss t e n = (brk9 ss (e.c : Int) n).take 1 := by unfold ask1; rw [hcb, if_pos rfl]
        have hB := hbr n (List.mem_of_getElem? hn) hcb
        obtain ⟨a, hv, ha⟩ := hn2 e.c n hB
        obtain ⟨j, r, hj⟩ : ∃ j r, brk9 ss (e.c : Int) n = j :: r := by
          cases hbk : brk9 ss (e.c : Int) n with
          | nil => exact (of_decide_eq_true hB hbk).elim
          | cons j r => exact ⟨j, r, rfl⟩
        have hd : DGet H2 g2 (.ref q) (some (.ref a)) := by
          have := DGet.t (S2 _ _ hg2) (k := okey e.c n) kq2
          rw [hv] at this
          exact this
        have h0 : (Zq30 (brk9 ss (e.c : Int) n))[0]? = some (V.int (j : Int)) := by rw [hj]; rfl
        refine iteT ?_
        refine ⟨_, rfl, .inl ⟨rfl, _, SqL.of hm2⟩, _, rfl, _, rfl, g2, .ref a, rfl, hd, a, _, 0, .int (j : Int), rfl, rfl, SqL.of (S2 _ _ ha), Zq40 (j := 0) h0, m, _, _, rfl, rfl, hm2, by rw [intsV_len]; omega, ?_⟩
        refine ⟨_, _, rfl, ?_, ?_⟩
        · intro b o eb
          rw [Zq7 (fun z => by rw [z, hm] at eb; cases eb)]
          exact S2 b o eb
        · rw [Zq3, es, e1, hj, intsV_app]
          rfl
      | false =>
        have e1 : ask1 ss t e n = jsOf ss (e.c : Int) n (List.range ss.length) := by unfold ask1; rw [hcb, if_neg Bool.false_ne_true]
        refine iteF ?_
        refine ⟨_, rfl, .inl ⟨rfl, _, SqL.of hm2⟩, _, rfl, g1, rfl, .inr ⟨kv1, .inl (S2 _ _ hg1)⟩, _, rfl, by show 0 <= sizeLine; omega, fun z hz' => ?_⟩
        have Sz := Same.new (o := .lst []) hz'
        have kz : (upd H2 z (.lst [])) z = some (.lst []) := Zq3
        generalize (upd H2 z (.lst [])) = H3 at Sz kz ⊢
        have S3 := S2.trans Sz
        have hm3 := Sz _ _ hm2
        refine ⟨_, DGet.t (S3 _ _ hg1) (k := okey e.c n) (Sz _ _ kq2), ?_⟩
        obtain ⟨a, hav, ha⟩ : ∃ a, (valV kv1 (okey e.c n)).getD (.ref z) = .ref a /\ H3 a = some (.lst (Zq30 (jsOf ss (e.c : Int) n (List.range ss.length)))) := by
          rcases hn1 e.c n with ⟨h1, h2⟩ | ⟨a, h1, h2⟩
          · exact ⟨z, by rw [h1]; rfl, by rw [h2]; exact kz⟩
          · exact ⟨a, by rw [h1]; rfl, S3 _ _ h2⟩
        rw [hav]
        refine ⟨m, a, _, _, rfl, rfl, hm3, ha, by rw [intsV_len, intsV_len, ← e1]; omega, ?_⟩
        refine ⟨_, _, rfl, ?_, ?_⟩
        · intro b o eb
          rw [Zq7 (fun z => by rw [z, hm] at eb; cases eb)]
          exact S3 b o eb
        · rw [Zq3, es, e1, intsV_app]
    · rintro σ H' ⟨v5, v6, rfl, sm, hm'⟩
      rw [List.length_map, List.take_length] at hm'
      exact ⟨_, rfl, k m H' hm hm' sm⟩
end
section
variable {P : Program} {w : World} {K : PySem.W.Frag} {mg : Str -> Option Value} {base : Heap}
def spCheck : Sp := fun vs H Q _ => ∃ (l : Addr) (us : List V) (c : Nat), vs = [.ref l, .int c] /\ H l = some (.lst us) /\ c < us.length /\ Q .non H
abbrev Zq121 : Stmt := top 17
theorem Zq276 : FnScope ["suits", "case"] ["suits", "case"] (Zq0 Zq121) := ⟨rfl, rfl, rfl, by decide +kernel, rfl, by decide +kernel, by decide +kernel⟩
theorem Nq282 : Nm (Zq0 Zq121) "case" .local := by decide +kernel
theorem Nq283 : Nm (Zq0 Zq121) "len" .globalImplicit := by decide +kernel
theorem Nq284 : Nm (Zq0 Zq121) "suits" .local := by decide +kernel
theorem Zq290 (Zq208 : Has K mg "check_case" Zq121) (T : Txt mg) : Fn P w K mg base "check_case" ["suits", "case"] 1 spCheck := by
  refine Zq208.fnQ Zq276 (fun _ _ _ _ _ _ us hl => match us, hl with | [_, _], _ => rfl) (fun vs H Q E h => ?_) (fun f cdv A outer s H vs Q E hr h => ?_)
  · obtain ⟨l, us, c, rfl, _⟩ := h
    rfl
  · obtain ⟨l, us, c, rfl, hl, hc, k⟩ := h
    refine ⟨_, (Zq6 (Zq23 (Zq177 (qt_chain qop_le Zq181 Zq5 (qvN 1 Nq282) (Zq11 Zq13 Nq283 T.len Zq39 (Zq1 (qvN 0 Nq284) Zq2)))) (Zq6 qs_never) Zq20)), ?_⟩
    refine ⟨_, rfl, _, _, rfl, rfl, _, rfl, iteD (fun _ => ?_) (fun z => absurd (by omega) z)⟩
    refine ⟨_, rfl, l, us, rfl, .inl (SqL.of hl), _, _, rfl, rfl, _, rfl, Zq103 (fun z => absurd (by omega) z) (fun _ => ?_)⟩
    exact k
end
section
theorem sum_split (f : Str × Int -> Bool) : ∀ sd : Side, (wts (sd.filter f)).sum + (wts (sd.filter fun p => !f p)).sum = (wts sd).sum
  | [] => rfl
  | p :: sd => by
    have ih := sum_split f sd
    unfold wts at ih ⊢
    rw [List.filter_cons, List.filter_cons]
    cases e : f p <;> simp_all <;> omega
theorem br_is {ss : List Suit} (hl : Line ss) {c : Nat} {br : Int -> Str -> Bool} (hbr : ∀ n, br c n = true ↔ Brok (bsOf ss) ss c n) (n : Str) : br c n = brB ss c n := by
  rw [Bool.eq_iff_iff, hbr]
  unfold brB Brok
  rw [decide_eq_true_iff, brk9_ne]
  exact ⟨fun ⟨j, u, _, h2, h3, h4⟩ => ⟨j, u, h2, h3, h4⟩, fun ⟨j, u, h2, h3, h4⟩ => ⟨j, u, named_lt hl h2 h4, h2, h3, h4⟩⟩
theorem enough_true {ss : List Suit} (hl : Line ss) {c : Nat} {t : Suit} {st : Bool} (ht : ss[c]? = some t) (hb : (bsOf ss)[c]? = some st) : Zq63 t st <= (wts (Zq194 ss c t st)).sum := by
  obtain ⟨br, hbr, hs⟩ := settL_at ht
  have e : (some st : Option Bool) = some (decide (0 <= marg br c t)) := hb.symm.trans hs
  have e := Option.some.inj e
  have hB := br_is hl hbr
  have ap : (wts (Zq194 ss c t st)).sum = (wts (t.ones.filter fun p => !decide (brB ss c p.1 = st))).sum + (wts (t.others.filter fun p => decide (brB ss c p.1 = st))).sum := by
    unfold Zq194 wts
    rw [List.map_append, List.sum_append]
  rw [ap]
  have s1 := sum_split (fun p => !brB ss c p.1) t.ones
  have s2 := sum_split (fun p => !brB ss c p.1) t.others
  simp only [Bool.not_not] at s1 s2
  have m : marg br c t = (wts (t.ones.filter fun p => !brB ss c p.1)).sum - (wts (t.others.filter fun p => !brB ss c p.1)).sum - t.need := by
    unfold marg keptW keep
    simp only [hB]
  cases st with
  | true =>
    have h := of_decide_eq_true e.symm
    have f1 : (fun p : Str × Int => !decide (brB ss c p.1 = true)) = fun p => !brB ss c p.1 := by funext p; simp
    have f2 : (fun p : Str × Int => decide (brB ss c p.1 = true)) = fun p => brB ss c p.1 := by funext p; simp
    rw [f1, f2]
    unfold Zq63
    rw [if_pos rfl]
    omega
  | false =>
    have h := of_decide_eq_false e.symm
    have f1 : (fun p : Str × Int => !decide (brB ss c p.1 = false)) = fun p => brB ss c p.1 := by funext p; cases brB ss c p.1 <;> rfl
    have f2 : (fun p : Str × Int => decide (brB ss c p.1 = false)) = fun p => !brB ss c p.1 := by funext p; cases brB ss c p.1 <;> rfl
    rw [f1, f2]
    unfold Zq63
    rw [if_neg Bool.false_ne_true]
    omega
structure EntT (ss : List Suit) (e : Ent) (t : Suit) : Prop where
  at_ : ss[e.c]? = some t
  so : (bsOf ss)[e.c]? = some e.st
  sound : Zq153 t e = true
  claims : ∀ n ∈ e.ns, clBr t e.st n = brB ss e.c n
theorem trueS_sub (ss : List Suit) (c : Nat) (t : Suit) (st : Bool) : (Zq194 ss c t st).Sublist (t.ones ++ t.others) := List.Sublist.append List.filter_sublist List.filter_sublist
theorem side_nd {sd : Side} (h : (sd.map (·.1)).Nodup) : sd.Nodup := by
  unfold List.Nodup at h ⊢
  rw [List.pairwise_map] at h
  exact h.imp fun hne z => hne (by rw [z])
theorem side_one {sd : Side} (h : (sd.map (·.1)).Nodup) {p q : Str × Int} (hp : p ∈ sd) (hq : q ∈ sd) (e : p.1 = q.1) : p = q := by
  induction sd with
  | nil => cases hp
  | cons x r ih =>
    rw [List.map_cons, List.nodup_cons] at h
    rcases List.mem_cons.mp hp with hp1 | hp1
    · rcases List.mem_cons.mp hq with hq1 | hq1
      · rw [hp1, hq1]
      · exact (h.1 (List.mem_map.mpr ⟨q, hq1, by rw [← e, hp1]⟩)).elim
    · rcases List.mem_cons.mp hq with hq1 | hq1
      · exact (h.1 (List.mem_map.mpr ⟨p, hp1, by rw [e, hq1]⟩)).elim
      · exact ih h.2 hp1 hq1
theorem ent_true {ss : List Suit} (hl : Line ss) {c : Nat} {t : Suit} {st : Bool} (ht : ss[c]? = some t) (hb : (bsOf ss)[c]? = some st) {sd' : Side} {k : Nat} (hp : sd'.Perm (Zq194 ss c t st)) (h1 : Zq125 sd' (Zq63 t st) k < 1) : EntT ss ⟨c, st, (sd'.take k).map (·.1)⟩ t := by
  have nd := hl.nd t (List.mem_of_getElem? ht)
  have ndA := side_nd nd
  have mem : ∀ p ∈ sd', p ∈ t.ones ++ t.others := fun p h => (trueS_sub ss c t st).subset (hp.mem_iff.mp h)
  have ndS : sd'.Nodup := hp.nodup_iff.mpr ((trueS_sub ss c t st).nodup ndA)
  have ndT : (sd'.take k).Nodup := (List.take_sublist _ _).nodup ndS
  have hperm : (claimed ((sd'.take k).map (·.1)) (t.ones ++ t.others)).Perm (sd'.take k) := by
    unfold claimed
    rw [List.perm_ext_iff_of_nodup (List.filter_sublist.nodup ndA) ndT]
    intro p
    rw [List.mem_filter, decide_eq_true_iff]
    constructor
    · rintro ⟨hpA, hpn⟩
      obtain ⟨q, hq, e⟩ := List.mem_map.mp hpn
      rw [side_one nd hpA (mem q (List.mem_of_mem_take hq)) e.symm]
      exact hq
    · intro h
      exact ⟨mem p (List.mem_of_mem_take h), List.mem_map.mpr ⟨p, h, rfl⟩⟩
  refine ⟨ht, hb, ?_, fun n hn => ?_⟩
  · unfold Zq153
    rw [Bool.and_eq_true]
    refine ⟨decide_eq_true ?_, decide_eq_true ?_⟩
    · rw [hperm.length_eq, List.length_map]
    · rw [perm_wts hperm]
      unfold Zq125 at h1
      have e : wts (sd'.take k) = (wts sd').take k := by unfold wts; rw [List.map_take]
      rw [e]
      show Zq63 t st <= _
      omega
  · obtain ⟨p, hp', rfl⟩ := List.mem_map.mp hn
    have hT := hp.mem_iff.mp (List.mem_of_mem_take hp')
    unfold clBr
    rcases List.mem_append.mp hT with z | z
    · obtain ⟨z1, z2⟩ := List.mem_filter.mp z
      have h : decide (p.1 ∈ t.ones.map (·.1)) = true := decide_eq_true (List.mem_map.mpr ⟨p, z1, rfl⟩)
      rw [h]
      show (!decide (true = st)) = brB ss c p.1
      revert z2
      cases st <;> cases brB ss c p.1 <;> decide
    · obtain ⟨z1, z2⟩ := List.mem_filter.mp z
      have h : decide (p.1 ∈ t.ones.map (·.1)) = false := decide_eq_false fun q => by
        rw [List.map_append, List.nodup_append] at nd
        exact nd.2.2 _ q _ (List.mem_map.mpr ⟨p, z1, rfl⟩) rfl
      rw [h]
      show (!decide (false = st)) = brB ss c p.1
      revert z2
      cases st <;> cases brB ss c p.1 <;> decide
end
section
variable {P : Program} {w : World} {K : PySem.W.Frag} {mg : Str -> Option Value} {base : Heap}
def nw (H H' : Hp) : Hp := fun b => match H b with
  | none => H' b
  | some _ => none
theorem nw_get {H H' : Hp} {b : Addr} {o : HO} (h : H b = none) (h' : H' b = some o) : nw H H' b = some o := by unfold nw; rw [h]; exact h'
theorem nw_of {H H' : Hp} {b : Addr} {o : HO} (h : nw H H' b = some o) : H b = none /\ H' b = some o := by
  unfold nw at h
  cases e : H b with
  | none => rw [e] at h; exact ⟨rfl, h⟩
  | some z => rw [e] at h; cases h
theorem nw_le {H H' : Hp} : Same (nw H H') H' := fun b o e => (nw_of e).2
def spPap (T : Addr) : Sp := fun vs H Q _ => ∃ (l : Addr) (ss : List Suit) (c : Nat), vs = [.ref l, .int c] /\ SuitsAt H ss l /\ Line ss /\ ss.length <= 20 /\ (∀ t ∈ ss, (t.ones ++ t.others).length <= 60) /\ c < ss.length /\ IsTab H T fewNm /\
  ∀ (le : Addr) (es : List Ent) (vs : List V) (H' : Hp), (∀ e ∈ es, ∃ t, EntT ss e t) -> es.length <= ss.length -> H le = none -> H' le = some (.lst vs) -> RepL (off [le] (nw H H')) (es.map entD) vs -> Same H H' -> Q (.ref le) H'
abbrev Zq51 : Stmt := top 24
theorem Zq127 : FnScope ["suits", "case", "standing", "named_by", "broken_by", "asked", "entries", "number", "entry", "later"] ["suits", "case"] (Zq0 Zq51) := ⟨rfl, rfl, rfl, by decide +kernel, rfl, by decide +kernel, by decide +kernel⟩
theorem Nq97 : Nm (Zq0 Zq51) "asked" .local := by decide +kernel
theorem Nq285 : Nm (Zq0 Zq51) "asked_by" .globalImplicit := by decide +kernel
theorem Nq286 : Nm (Zq0 Zq51) "breaking" .globalImplicit := by decide +kernel
theorem Nq98 : Nm (Zq0 Zq51) "broken_by" .local := by decide +kernel
theorem Nq99 : Nm (Zq0 Zq51) "case" .local := by decide +kernel
theorem Nq287 : Nm (Zq0 Zq51) "check_case" .globalImplicit := by decide +kernel
theorem Nq100 : Nm (Zq0 Zq51) "entries" .local := by decide +kernel
theorem Nq101 : Nm (Zq0 Zq51) "entry" .local := by decide +kernel
theorem Nq288 : Nm (Zq0 Zq51) "fewest_names" .globalImplicit := by decide +kernel
theorem Nq159 : Nm (Zq0 Zq51) "later" .local := by decide +kernel
theorem Nq289 : Nm (Zq0 Zq51) "len" .globalImplicit := by decide +kernel
theorem Nq160 : Nm (Zq0 Zq51) "named_by" .local := by decide +kernel
theorem Nq290 : Nm (Zq0 Zq51) "namers" .globalImplicit := by decide +kernel
theorem Nq21 : Nm (Zq0 Zq51) "number" .local := by decide +kernel
theorem Nq291 : Nm (Zq0 Zq51) "range" .globalImplicit := by decide +kernel
theorem Nq292 : Nm (Zq0 Zq51) "settled" .globalImplicit := by decide +kernel
theorem Nq102 : Nm (Zq0 Zq51) "standing" .local := by decide +kernel
theorem Nq14 : Nm (Zq0 Zq51) "suits" .local := by decide +kernel
theorem Zq335 {Tt : Addr} (Zq266 : Has K mg "paper" Zq51) (T : Txt mg) (Zq291 : Fn P w K mg base "check_case" ["suits", "case"] 1 spCheck) (Zq184 : Fn P w K mg base "settled" ["suits"] 4 spSett) (Zq259 : Fn P w K mg base "namers" ["suits"] 2 spNamers)
    (Zq324 : Fn P w K mg base "breaking" ["suits"] 5 spBreaking) (Zq267 : Fn P w K mg base "fewest_names" ["suits", "case", "stands", "broken_by"] 5 (spFewn Tt)) (Zq325 : Fn P w K mg base "asked_by" ["suits", "entry", "named_by", "broken_by"] 2 spAskBy) :
    Fn P w K mg base "paper" ["suits", "case"] 6 (spPap Tt) := by
  refine Zq266.fnQ Zq127 (fun _ _ _ _ _ _ us hl => match us, hl with | [_, _], _ => rfl) (fun vs H Q E h => ?_) (fun f cdv A outer s H vs Q E hr h => ?_)
  · obtain ⟨l, ss, c, rfl, _⟩ := h
    rfl
  · obtain ⟨l, ss, c, rfl, hsu, hline, hlen, h60, hc, hT, k⟩ := h
    refine ⟨_, (Zq4 (Zq132 (Zq8 Zq291 (hr.mono (by omega)) Nq287 (Zq1 (qvN 0 Nq14) (Zq1 (qvN 1 Nq99) Zq2))))
 (Zq4 (Zq12 (i := 2) Zq127.nd Nq102 (Zq8 Zq184 (hr.mono (by omega)) Nq292 (Zq1 (qvN 0 Nq14) Zq2)))
 (Zq4 (Zq12 (i := 3) Zq127.nd Nq160 (Zq8 Zq259 (hr.mono (by omega)) Nq290 (Zq1 (qvN 0 Nq14) Zq2)))
 (Zq4 (Zq12 (i := 4) Zq127.nd Nq98 (Zq8 Zq324 (hr.mono (by omega)) Nq286 (Zq1 (qvN 0 Nq14) Zq2)))
 (Zq4 (Zq12 (i := 5) Zq127.nd Nq97 (qe_disp1 (qvN 1 Nq99) Zq56))
 (Zq4 (Zq12 (i := 6) Zq127.nd Nq100 (Zq83 Zq2))
 (Zq4 (Zq64 PassesOwn.never rfl (qi_range2 Nq291.1 T.range (Zq1 (qvN 1 Nq99) (Zq1 (Zq11 Zq13 Nq289 T.len Zq39 (Zq1 (qvN 0 Nq14) Zq2)) Zq2))) (Zq27 (i := 7) Zq127.nd Nq21)
  (Zq6 (Zq23 (Zq15 (qop_din hr) (qvN 7 Nq21) (qvN 5 Nq97) rfl) (Zq4 (Zq12 (i := 8) Zq127.nd Nq101 (Zq70 (Zq1 (qvN 7 Nq21) (Zq1 (Zq10 Zq21 (qvN 2 Nq102) (qvN 7 Nq21) (fun _ _ => rfl)) (Zq1 (Zq8 Zq267 (hr.mono (by omega)) Nq288 (Zq1 (qvN 0 Nq14) (Zq1 (qvN 7 Nq21) (Zq1 (Zq10 Zq21 (qvN 2 Nq102) (qvN 7 Nq21) (fun _ _ => rfl)) (Zq1 (qvN 4 Nq98) Zq2))))) Zq2)))))
 (Zq4 (Zq132 (Zq147 F.plainAttrs_list F.slot_list_append F.type_list_append Zq108 (qvN 6 Nq100) (Zq1 (qvN 8 Nq101) Zq2)))
 (Zq6 (Zq64 PassesOwn.never rfl (Zq28 (Zq8 Zq325 (hr.mono (by omega)) Nq285 (Zq1 (qvN 0 Nq14) (Zq1 (qvN 8 Nq101) (Zq1 (qvN 3 Nq160) (Zq1 (qvN 4 Nq98) Zq2)))))) (Zq27 (i := 9) Zq127.nd Nq159)
  (Zq6 (qs_dput hr (qvN 5 Nq97) (qvN 9 Nq159) Zq56)))))) Zq20)))
 (Zq6 (Zq14 (qvN 6 Nq100)))))))))), ?_⟩
    have hz : (500000 : Nat) <= sizeLine := by decide
    obtain ⟨us, hl, hrep⟩ := id hsu
    have hul : us.length = ss.length := by have := hrep.length; rw [List.length_map] at this; exact this
    have hbl : (bsOf ss).length = ss.length := settL_len [] ss 0
    refine ⟨_, rfl, _, rfl, l, us, c, rfl, hl, by omega, ?_⟩
    refine ⟨_, rfl, l, ss, rfl, hsu, hline.ok, by omega, fun tl H1 htlf htl sm1 => ?_⟩
    refine ⟨_, rfl, l, ss, rfl, hsu.mono sm1, by omega, fun nb H2 hnb sm2 => ?_⟩
    have S2 := sm1.trans sm2
    refine ⟨_, rfl, l, ss, rfl, hsu.mono S2, hline.ok, by omega, fun bb H3 _ hbb _ sm3 => ?_⟩
    have S3 := S2.trans sm3
    have htl3 := sm3 _ _ (sm2 _ _ htl)
    have hnb3 := hnb.mono sm3
    refine fun d hd => ?_
    refine ⟨_, rfl, Zq3, [(Sum.inl (c : Int), .bl true)], rfl, by show 1 <= 15; decide, ?_⟩
    have Sd : Same H3 (upd (upd H3 d (.dK [])) d (.dK (Zq174 [] [(Sum.inl (c : Int), .bl true)]))) := fun b o e => by rw [Zq7 (Zq16 e hd), Zq7 (Zq16 e hd)]; exact e
    have kd : (upd (upd H3 d (.dK [])) d (.dK (Zq174 [] [(Sum.inl (c : Int), .bl true)]))) d = some (.dK [(Sum.inl (c : Int), .bl true)]) := Zq3
    generalize (upd (upd H3 d (.dK [])) d (.dK (Zq174 [] [(Sum.inl (c : Int), .bl true)]))) = H4 at Sd kd ⊢
    have S4 := S3.trans Sd
    have hdH := S3.free hd
    refine ⟨by show 0 <= sizeLine; omega, fun le hle => ?_⟩
    have Sl := Same.new (o := .lst []) hle
    have kl : (upd H4 le (.lst [])) le = some (.lst []) := Zq3
    have kd5 := Sl _ _ kd
    have hleH := S4.free hle
    have ndl : d ≠ le := fun z => by rw [z, hle] at kd; cases kd
    generalize (upd H4 le (.lst [])) = H5 at Sl kl kd5 ⊢
    have S5 := S4.trans Sl
    have S35 := Sd.trans Sl
    have hd3 : H3 d = none := hd
    have hl3 : H3 le = none := Sd.free hle
    refine ⟨_, rfl, _, rfl, l, us, rfl, .inl (SqL.of (S5 _ _ hl)), c, us.length, rfl, by omega, ?_⟩
    refine forW_range (ss.length - c) (by omega) (fun i σ H' => ∃ (es : List Ent) (vs : List V) (ak : Tru) (v7 v8 v9 : Option V), σ = [some (.ref l), some (.int c), some (.ref tl), some (.ref nb), some (.ref bb), some (.ref d), some (.ref le), v7, v8, v9] /\
      (∀ e ∈ es, ∃ t, EntT ss e t) /\ es.length <= i /\ ak.length <= 1 + 1200 * i /\ H' d = some (.dK ak) /\ H' le = some (.lst vs) /\ RepL (off [d, le] (nw H3 H')) (es.map entD) vs /\ Same H3 H')
      ⟨[], [], _, none, none, none, rfl, (fun e he => nomatch he), Nat.le_refl _, by show 1 <= _; omega, kd5, kl, rfl, S35⟩ ?_ ?_
    · rintro i σ H' hi ⟨es, vs, ak, v7, v8, v9, rfl, I, hel, hal, hd', hle', hre, sm⟩
      have ec : ((c : Int) + (i : Nat)) = ((c + i : Nat) : Int) := by omega
      rw [ec]
      generalize hm : c + i = m
      have hml : m < ss.length := by omega
      have hcm : c <= m := by omega
      obtain ⟨t, ht⟩ : ∃ t, ss[m]? = some t := ⟨_, List.getElem?_eq_getElem hml⟩
      obtain ⟨b, hb⟩ : ∃ b, (bsOf ss)[m]? = some b := ⟨_, List.getElem?_eq_getElem (by omega)⟩
      have htm := List.mem_of_getElem? ht
      have SH := S3.trans sm
      refine ⟨_, rfl, _, rfl, d, _, rfl, DGet.k (k := .inl (m : Int)) hd', _, rfl, ?_⟩
      cases hin : (valV ak (.inl (m : Int))).isSome with
      | false =>
        refine iteF ?_
        exact ⟨es, vs, ak, _, _, _, rfl, I, by omega, by omega, hd', hle', hre, sm⟩
      | true =>
        refine iteT ?_
        have hbv : ((bsOf ss).map V.bl)[m]? = some (.bl b) := by rw [List.getElem?_map, hb]; rfl
        refine ⟨_, rfl, _, rfl, _, rfl, tl, _, m, .bl b, rfl, rfl, SqL.of (sm _ _ htl3), Zq40 hbv, ?_⟩
        refine ⟨_, rfl, _, rfl, _, rfl, _, rfl, tl, _, m, .bl b, rfl, rfl, SqL.of (sm _ _ htl3), Zq40 hbv, _, rfl, ?_⟩
        refine ⟨l, bb, ss, m, t, b, rfl, hsu.mono SH, ht, hline.ok t htm, h60 t htm, hbb.mono sm, hT.same SH, enough_true hline ht hb, fun q kk sd' H6 hp hs hk h1 h2 hqf hq s6 => ?_⟩
        have hE := ent_true hline ht hb hp h1
        have hnsl : ((sd'.take kk).map (·.1)).length <= 60 := by
          have z1 := hp.length_eq
          have z2 := (trueS_sub ss m t b).length_le
          have z3 := h60 t htm
          rw [List.length_map, List.length_take]
          omega
        have eq : Zq185 (sd'.take kk) = ((sd'.take kk).map (·.1)).map V.str := by unfold Zq185; rw [List.map_map]; rfl
        rw [eq] at hq
        generalize ((sd'.take kk).map (·.1)) = ns at hE hnsl hq
        have sm6 := sm.trans s6
        have nq1 : q ≠ d := fun z => by rw [z, hd'] at hqf; cases hqf
        have nq2 : q ≠ le := fun z => by rw [z, hle'] at hqf; cases hqf
        refine ⟨by show 3 <= sizeLine; omega, fun ea hea => ?_⟩
        have Se := Same.new (o := .tup [.int m, .bl b, .ref q]) hea
        have ke : (upd H6 ea (.tup [.int m, .bl b, .ref q])) ea = some (.tup [.int m, .bl b, .ref q]) := Zq3
        have ne1 : ea ≠ d := fun z => by rw [z, s6 _ _ hd'] at hea; cases hea
        have ne2 : ea ≠ le := fun z => by rw [z, s6 _ _ hle'] at hea; cases hea
        generalize (upd H6 ea (.tup [.int m, .bl b, .ref q])) = H7 at Se ke ⊢
        have sm7 := sm6.trans Se
        have S07 := s6.trans Se
        have hle7 := S07 _ _ hle'
        have hd7 := S07 _ _ hd'
        have hq7 := Se _ _ hq
        have hvl : vs.length = es.length := by have := hre.length; rw [List.length_map] at this; exact this
        refine ⟨_, rfl, .inl ⟨rfl, _, SqL.of hle7⟩, _, rfl, le, vs, _, rfl, rfl, hle7, by omega, ?_⟩
        have nin : ∀ {b : Addr}, b ≠ d -> b ≠ le -> b ∉ [d, le] := fun h1 h2 m => (List.mem_cons.mp m).elim h1 fun z => h2 (List.mem_singleton.mp z)
        have sm8 : Same H3 (upd H7 le (.lst (vs ++ [.ref ea]))) := fun b o e => by
          rw [Zq7 (fun z => by rw [z, hl3] at e; cases e)]
          exact sm7 b o e
        have re8 : RepL (off [d, le] (nw H3 (upd H7 le (.lst (vs ++ [.ref ea]))))) ((es ++ [Ent.mk m b ns]).map entD) (vs ++ [.ref ea]) := by
          rw [List.map_append]
          refine RepL.snoc (ent_mk (na := q) (Zq47 (nin ne1 ne2) (nw_get (sm6.free hea) (by rw [Zq7 ne2]; exact ke))) (Zq47 (nin nq1 nq2) (nw_get (sm.free hqf) (by rw [Zq7 nq2]; exact hq7)))) (hre.mono' (Zq49 fun b o n h => ?_))
          obtain ⟨h1, h2⟩ := nw_of h
          refine nw_get h1 ?_
          rw [Zq7 (fun z => n (by rw [z]; exact List.mem_cons_of_mem _ (List.mem_singleton.mpr rfl)))]
          exact S07 b o h2
        have ke8 : (upd H7 le (.lst (vs ++ [.ref ea]))) ea = some (.tup [.int m, .bl b, .ref q]) := by rw [Zq7 ne2]; exact ke
        have kq8 : (upd H7 le (.lst (vs ++ [.ref ea]))) q = some (.lst (ns.map V.str)) := by rw [Zq7 nq2]; exact hq7
        have kd8 : (upd H7 le (.lst (vs ++ [.ref ea]))) d = some (.dK ak) := by rw [Zq7 ndl]; exact hd7
        have kl8 : (upd H7 le (.lst (vs ++ [.ref ea]))) le = some (.lst (vs ++ [.ref ea])) := Zq3
        generalize (upd H7 le (.lst (vs ++ [.ref ea]))) = H8 at sm8 re8 ke8 kq8 kd8 kl8 ⊢
        have SH8 := S3.trans sm8
        refine ⟨_, rfl, _, rfl, _, rfl, _, rfl, l, nb, bb, .ref ea, ss, ⟨m, b, ns⟩, t, rfl, hsu.mono SH8, hlen, ht, hline.ok t htm, ent_mk ke8 kq8, hnb3.mono sm8, hbb.mono sm8, hnsl, (fun n hn hcb => by rw [← hE.claims n hn]; exact hcb), fun al H9 half hal9 s9 => ?_⟩
        have sm9 := sm8.trans s9
        have nal1 : al ≠ d := fun z => by rw [z, kd8] at half; cases half
        have nal2 : al ≠ le := fun z => by rw [z, kl8] at half; cases half
        have hAl := askL_len ss t ⟨m, b, ns⟩ ns
        have hAl2 : (askL ss t ⟨m, b, ns⟩ ns).length <= 1200 := Nat.le_trans hAl (Nat.mul_le_mul hnsl hlen)
        refine ⟨al, rfl, ⟨_, SqL.of hal9⟩, ?_⟩
        refine Zq71 (Zq30 (askL ss t ⟨m, b, ns⟩ ns)) (fun j σ H' => ∃ (ak' : Tru) (v9 : Option V), σ = [some (.ref l), some (.int c), some (.ref tl), some (.ref nb), some (.ref bb), some (.ref d), some (.ref le), some (.int (m : Int)), some (.ref ea), v9] /\
          ak'.length <= ak.length + j /\ H' d = some (.dK ak') /\ SameX d H9 H')
          ⟨ak, v9, rfl, Nat.le_refl _, s9 _ _ kd8, SameX.refl⟩ (fun j σ H' _ ⟨_, _, _, _, _, sx⟩ => SqL.of (sx _ _ nal1 hal9)) ?_ ?_
        · rintro j x σ H0 hx ⟨ak', v9', rfl, hl', hd0, sx⟩
          unfold Zq30 at hx
          rw [List.getElem?_map] at hx
          obtain ⟨y, hy, rfl⟩ := Option.map_eq_some_iff.mp hx
          have hj := (List.getElem?_eq_some_iff.mp hy).1
          refine ⟨_, rfl, _, rfl, d, _, rfl, DPut.k (k := .inl (y : Int)) hd0 (by omega), ?_⟩
          exact ⟨_, _, rfl, Nat.le_trans (Zq72 _ _ _) (by omega), Zq3, sx.trans SameX.upd⟩
        · rintro σ H0 ⟨ak', v9', rfl, hl', hd0, sx⟩
          rw [intsV_len] at hl'
          refine ⟨es ++ [Ent.mk m b ns], vs ++ [.ref ea], ak', _, _, _, rfl, (fun f hf => (List.mem_append.mp hf).elim (I f) fun z => by rw [List.mem_singleton.mp z]; exact ⟨t, hE⟩), by rw [List.length_append]; show _ + 1 <= _; omega, by omega, hd0, sx _ _ ndl.symm (s9 _ _ kl8), re8.mono' (Zq49 fun b o n h => ?_), fun b o e => ?_⟩
          · obtain ⟨h1, h2⟩ := nw_of h
            exact nw_get h1 (sx b o (fun z => n (by rw [z]; exact List.mem_cons_self)) (s9 b o h2))
          · exact sx b o (fun z => by rw [z, hd3] at e; cases e) (sm9 b o e)
    · rintro σ H' ⟨es, vs, ak, v7, v8, v9, rfl, I, hel, hal, hd', hle', hre, sm⟩
      exact ⟨_, rfl, k le es vs H' I (by omega) hleH hle' ((hre.mono' (off_sub fun b hb => by rw [List.mem_singleton.mp hb]; exact List.mem_cons_of_mem _ (List.mem_singleton.mpr rfl))).mono' (Zq49 fun b o _ h => nw_get (S3.free (nw_of h).1) (nw_of h).2)) (S3.trans sm)⟩
end
section
theorem off_x {s : Addr} {H H' : Hp} (k : SameX s H H') : Same (off [s] H) (off [s] H') := Zq49 fun b o n e => k b o (fun z => n (by rw [z]; exact List.mem_singleton.mpr rfl)) e
theorem free_x {s b : Addr} {H H' : Hp} (k : SameX s H H') (hb : b ≠ s) (h : H' b = none) : H b = none := by
  cases e : H b with
  | none => rfl
  | some o => rw [k b o hb e] at h; cases h
theorem side_off {H : Hp} {s la : Addr} (hs : SrcAt H s la) {sd : Side} {v : V} (h : SideAt H sd v) : SideAt (off [s] H) sd v := by
  obtain ⟨ns, i, big, st, cnt, h1, h2, h3, h4⟩ := hs
  obtain ⟨a, vs, e, ha, hr⟩ := h
  have na : a ≠ s := fun z => by
    rw [z, h1] at ha
    cases ha
    obtain ⟨p, b, _, z2, _⟩ := hr.get (i := 1) rfl
    cases z2
  have g : ∀ {sd : Side} {vs : List V}, RepS H sd vs -> RepS (off [s] H) sd vs := by
    intro sd
    induction sd with
    | nil => intro vs h; exact h
    | cons p r ih =>
      rintro vs ⟨b, vs', e, hb, hr⟩
      exact ⟨b, vs', e, Zq47 (fun m => by rw [List.mem_singleton.mp m, h1] at hb; cases hb) hb, ih hr⟩
  exact ⟨a, vs, e, Zq47 (fun m => na (List.mem_singleton.mp m)) ha, g hr⟩
theorem named_off {H : Hp} {s la : Addr} (hs : SrcAt H s la) {nm : Option Oath} {v : V} (h : Rep H (Zq152 nm) v) : Rep (off [s] H) (Zq152 nm) v := by
  obtain ⟨ns, i, big, st, cnt, h1, _⟩ := hs
  cases nm with
  | none => exact h
  | some o =>
    obtain ⟨a, vs, e, ha, ⟨x, r1, rfl, e1, ⟨y, r2, rfl, e2, e3⟩⟩⟩ := h
    exact ⟨a, _, e, Zq47 (fun m => by rw [List.mem_singleton.mp m, h1] at ha; cases ha) ha, ⟨x, _, rfl, e1, ⟨y, _, rfl, e2, e3⟩⟩⟩
theorem suits_off {H : Hp} {s la : Addr} (hs : SrcAt H s la) : ∀ {ss : List Suit} {us : List V}, RepL H (ss.map Zq86) us -> RepL (off [s] H) (ss.map Zq86) us
  | [], us, h => h
  | t :: ss, us, ⟨v, r, e, h1, h2⟩ => by
    obtain ⟨ta, u1, u2, u4, rfl, hta, a1, a2, a4⟩ := suit_inv h1
    have nt : ta ∉ [s] := fun m => by obtain ⟨ns, i, big, st, cnt, h1, _⟩ := hs; rw [List.mem_singleton.mp m, h1] at hta; cases hta
    exact ⟨.ref ta, r, e, suit_mk (Zq47 nt hta) (side_off hs a1) (side_off hs a2) (named_off hs a4), suits_off hs h2⟩
theorem IsTab.src {H H' : Hp} {T s la : Addr} {nm : Str} (h : IsTab H T nm) (hs : SrcAt H s la) (k : SameX s H H') : IsTab H' T nm := by
  obtain ⟨_, _, _, _, _, a, _⟩ := hs
  exact h.x a k
end
section
variable {P : Program} {w : World} {K : PySem.W.Frag} {mg : Str -> Option Value} {base : Heap}
def spLGoal : Sp := fun vs H Q _ => ∃ (v : V) (t : Suit) (st : Bool), vs = [v, .bl st] /\ SuitAt H t v /\ Q (.int (Zq63 t st)) H
abbrev Zq148 : Stmt := top 47
theorem Zq292 : FnScope ["_law_suit", "_law_stands"] ["_law_suit", "_law_stands"] (Zq0 Zq148) := ⟨rfl, rfl, rfl, by decide +kernel, rfl, by decide +kernel, by decide +kernel⟩
theorem Nq293 : Nm (Zq0 Zq148) "_law_stands" .local := by decide +kernel
theorem Nq62 : Nm (Zq0 Zq148) "_law_suit" .local := by decide +kernel
theorem Nq161 : Nm (Zq0 Zq148) "_law_total" .globalImplicit := by decide +kernel
theorem Zq309 (Zq225 : Has K mg "_law_goal" Zq148) (T : Txt mg) (Zq101 : Fn P w K mg base "_law_total" ["_law_side_here"] 1 spLTotal) : Fn P w K mg base "_law_goal" ["_law_suit", "_law_stands"] 2 spLGoal := by
  refine Zq225.fnQ Zq292 (fun _ _ _ _ _ _ us hl => match us, hl with | [_, _], _ => rfl) (fun vs H Q E h => ?_) (fun f cdv A outer s H vs Q E hr h => ?_)
  · obtain ⟨v, t, st, rfl, _⟩ := h
    rfl
  · obtain ⟨v, t, st, rfl, ⟨ta, u1, u2, u4, rfl, hta, h1, h2⟩, k⟩ := h
    refine ⟨_, (Zq4 (Zq23 (Zq95 (qvN 1 Nq293)) (Zq6 (Zq14 (Zq18 Zq32 (Zq10 Zq17 (qvN 0 Nq62) Zq5 (fun _ _ => rfl)) (Zq8 Zq101 (hr.mono (by omega)) Nq161 (Zq1 (Zq10 Zq17 (qvN 0 Nq62) Zq5 (fun _ _ => rfl)) Zq2))))) Zq20)
 (Zq6 (Zq14 (Zq18 Zq32 (Zq18 Zq105 (Zq8 Zq101 (hr.mono (by omega)) Nq161 (Zq1 (Zq10 Zq17 (qvN 0 Nq62) Zq5 (fun _ _ => rfl)) Zq2)) (Zq10 Zq17 (qvN 0 Nq62) Zq5 (fun _ _ => rfl))) Zq5)))), ?_⟩
    refine ⟨_, rfl, st, rfl, ?_⟩
    unfold Zq63 at k
    cases st with
    | true =>
      rw [if_pos rfl] at k
      refine iteT ?_
      exact ⟨_, rfl, ta, _, 2, _, rfl, rfl, SqT.of hta, rfl, _, rfl, ta, _, 1, u2, rfl, rfl, SqT.of hta, rfl, u2, t.others, rfl, h2, _, _, rfl, rfl, k⟩
    | false =>
      rw [if_neg Bool.false_ne_true] at k
      refine iteF ?_
      exact ⟨_, rfl, ta, _, 0, u1, rfl, rfl, SqT.of hta, rfl, u1, t.ones, rfl, h1, _, rfl, ta, _, 2, _, rfl, rfl, SqT.of hta, rfl, _, _, rfl, rfl, _, _, rfl, rfl, k⟩
def spLNamers : Sp := fun vs H Q _ => ∃ (l : Addr) (ss : List Suit) (c : Nat) (n : Str), vs = [.ref l, .int c, .str n] /\ SuitsAt H ss l /\ ss.length <= 1000 /\
  ∀ (q : Addr) (H' : Hp), H q = none -> H' q = some (.lst (Zq30 (jsOf ss (c : Int) n (List.range ss.length)))) -> Same H H' -> Q (.ref q) H'
theorem range_take (n i : Nat) (h : i <= n) : (List.range n).take i = List.range i := by
  rw [List.take_range, Nat.min_eq_left h]
abbrev Zq87 : Stmt := top 48
theorem Zq268 : FnScope ["_law_suits_here", "_law_case", "_law_name"] ["_law_suits_here", "_law_case", "_law_name"] (Zq0 Zq87) := ⟨rfl, rfl, rfl, by decide +kernel, rfl, by decide +kernel, by decide +kernel⟩
theorem Nq294 : Nm (Zq0 Zq87) "_law_case" .cell := by decide +kernel
theorem Nq295 : Nm (Zq0 Zq87) "_law_name" .cell := by decide +kernel
theorem Nq162 : Nm (Zq0 Zq87) "_law_suits_here" .cell := by decide +kernel
theorem Nq296 : Nm (Zq0 Zq87) "len" .globalImplicit := by decide +kernel
theorem Nq297 : Nm (Zq0 Zq87) "range" .globalImplicit := by decide +kernel
theorem Zq277 (Zq189 : Has K mg "_law_namers" Zq87) (T : Txt mg) : Fn P w K mg base "_law_namers" ["_law_suits_here", "_law_case", "_law_name"] 1 spLNamers := by
  refine Zq189.fnQ Zq268 (fun _ _ _ _ _ _ us hl => match us, hl with | [_, _, _], _ => rfl) (fun vs H Q E h => ?_) (fun f cdv A outer s H vs Q E hr h => ?_)
  · obtain ⟨l, ss, c, n, rfl, _⟩ := h
    rfl
  · obtain ⟨l, ss, c, n, rfl, hsu, hlen, k⟩ := h
    refine ⟨_, (Zq6 (Zq14 (Zq92 (locs := ["_law_later"]) (fr := [("_law_suits_here", 0), ("_law_case", 1), ("_law_name", 2)]) ⟨rfl, by decide +kernel, by decide +kernel, by decide +kernel, by decide +kernel, by decide +kernel⟩ (.consN Nq162 (.consN Nq294 (.consN Nq295 .nil))) rfl (Zq140 Nq297.1 T.range (Zq1 (Zq11 Zq13 Nq296 T.len Zq39 (Zq1 (qvC 0 Nq162) Zq2)) Zq2)) ⟨fun _ _ _ _ _ _ => by
    have cnd : (inN ["_law_later"] [("_law_suits_here", 0), ("_law_case", 1), ("_law_name", 2)]).Nodup := by decide +kernel
    exact ⟨(qgLN 0 cnd), (Zq158 (Zq15 (qop_eqK hr) (Zq10 qix_tupC (Zq10 qix_listC (qvFN 1) (qvLN 0) (fun _ _ => rfl)) Zq5 (fun _ _ => rfl)) (Zq70 (Zq1 (qvFN 2) (Zq1 (qvFN 3) Zq2))) (Zq19 _))), (qvLN 0)⟩⟩))), ?_⟩
    have hz : (5000 : Nat) <= sizeLine := by decide
    obtain ⟨us, hl, hrep⟩ := id hsu
    have hul : us.length = ss.length := by have := hrep.length; rw [List.length_map] at this; exact this
    refine ⟨_, rfl, l, us, rfl, .inl (SqL.of hl), _, rfl, by omega, by omega, ?_⟩
    refine comp_range (fun i ys H' => Same H H' /\ ys = Zq30 (jsOf ss (c : Int) n (List.range i))) ⟨Same.refl _, rfl⟩ (by omega) ?_ ?_ ?_
    · rintro i ys H' ⟨_, rfl⟩
      have := js_len ss (c : Int) n (List.range i)
      rw [List.length_range] at this
      unfold Zq30
      rw [List.length_map]
      exact this
    · rintro i ys H' hi ⟨sm, rfl⟩ ls hls
      obtain ⟨w0, rfl⟩ := len1 hls
      have ec : ((0 : Int) + (i : Nat)) = ((i : Nat) : Int) := by omega
      rw [ec]
      have hi' : i < ss.length := by omega
      obtain ⟨t, ht⟩ : ∃ t, ss[i]? = some t := ⟨_, List.getElem?_eq_getElem hi'⟩
      obtain ⟨us', hl', hrep'⟩ := hsu.mono sm
      obtain ⟨ta, u1, u2, u4, hu, hta, _, _, h4⟩ := SuitsAt.get (l := l) hrep' ht
      have es : jsOf ss (c : Int) n (List.range (i + 1)) = jsOf ss (c : Int) n (List.range i) ++ (if nmd ss (c : Int) n i then [i] else []) := by
        unfold jsOf
        rw [List.range_succ, List.filter_append]
        cases e : nmd ss (c : Int) n i <;> simp [e]
      refine ⟨⟨[_], rfl, rfl⟩, ?_⟩
      refine ⟨_, rfl, _, rfl, l, us', i, .ref ta, rfl, rfl, SqL.of hl', Zq40 hu, ta, _, 3, u4, rfl, rfl, SqT.of hta, rfl, _, rfl, _, rfl, by show 2 <= sizeLine; omega, fun q2 hq2 => ?_⟩
      have S2 := Same.new (o := .tup [.int c, .str n]) hq2
      have k2 : (upd H' q2 (.tup [.int c, .str n])) q2 = some (.tup [.int c, .str n]) := Zq3
      generalize (upd H' q2 (.tup [.int c, .str n])) = H2 at S2 k2 ⊢
      refine ⟨q2, okey c n, rfl, k2, ?_⟩
      cases hn : t.named with
      | none =>
        rw [hn] at h4
        cases h4
        refine .inl ⟨rfl, _, rfl, iteF ?_⟩
        have : nmd ss (c : Int) n i = false := by
          cases e : nmd ss (c : Int) n i with
          | false => rfl
          | true => obtain ⟨u, q1, q2⟩ := nmd_iff.mp e; rw [ht] at q1; cases q1; rw [hn] at q2; cases q2
        rw [this, if_neg Bool.false_ne_true, List.append_nil] at es
        exact ⟨sm.trans S2, by rw [es]⟩
      | some o =>
        rw [hn] at h4
        obtain ⟨oc, on⟩ := o
        obtain ⟨d, bs', rfl, hd, ⟨y1, r1, rfl, e1, ⟨y2, r2, rfl, e2, e3⟩⟩⟩ := h4
        cases e1
        cases e2
        cases e3
        refine .inr ⟨d, okey oc on, rfl, S2 _ _ hd, _, rfl, iteD (fun heq => ?_) (fun hne => ?_)⟩
        · have := okey_inj heq
          cases this
          rw [nmd_iff.mpr ⟨t, ht, hn⟩, if_pos rfl] at es
          refine ⟨_, rfl, sm.trans S2, ?_⟩
          rw [es]
          unfold Zq30
          rw [List.map_append]
          rfl
        · have : nmd ss (c : Int) n i = false := by
            cases e : nmd ss (c : Int) n i with
            | false => rfl
            | true =>
              obtain ⟨u, q1, q2⟩ := nmd_iff.mp e
              rw [ht] at q1
              cases q1
              rw [hn] at q2
              cases q2
              exact (hne rfl).elim
          rw [this, if_neg Bool.false_ne_true, List.append_nil] at es
          exact ⟨sm.trans S2, by rw [es]⟩
    · rintro ys H' ⟨sm, rfl⟩ q hq
      have e : us.length = ss.length := hul
      refine k q _ (sm.free hq) ?_ (sm.trans (Same.new hq))
      rw [Zq3]
      try rw [hul]
      try rfl
def spLKeep : Sp := fun vs H Q _ => ∃ (v : V) (t : Suit) (st : Bool) (n : Str), vs = [v, .bl st, .str n] /\ SuitAt H t v /\ Zq96 t /\ ∀ H', Same H H' -> Q (.bl (!clBr t st n)) H'
abbrev Zq84 : Stmt := top 49
theorem Zq241 : FnScope ["_law_suit", "_law_stands", "_law_name"] ["_law_suit", "_law_stands", "_law_name"] (Zq0 Zq84) := ⟨rfl, rfl, rfl, by decide +kernel, rfl, by decide +kernel, by decide +kernel⟩
theorem Nq298 : Nm (Zq0 Zq84) "_law_name" .local := by decide +kernel
theorem Nq299 : Nm (Zq0 Zq84) "_law_stands" .local := by decide +kernel
theorem Nq300 : Nm (Zq0 Zq84) "_law_suit" .local := by decide +kernel
theorem Zq246 (Zq149 : Has K mg "_law_kept_claim" Zq84) (T : Txt mg) : Fn P w K mg base "_law_kept_claim" ["_law_suit", "_law_stands", "_law_name"] 1 spLKeep := by
  refine Zq149.fnQ Zq241 (fun _ _ _ _ _ _ us hl => match us, hl with | [_, _, _], _ => rfl) (fun vs H Q E h => ?_) (fun f cdv A outer s H vs Q E hr h => ?_)
  · obtain ⟨v, t, st, n, rfl, _⟩ := h
    rfl
  · obtain ⟨v, t, st, n, rfl, ⟨ta, u1, u2, u4, rfl, hta, ⟨b1, v1, rfl, hb1, hr1⟩, h2⟩, ⟨L1, _, _, _⟩, k⟩ := h
    refine ⟨_, (Zq6 (Zq14 (Zq62 Zq43 (Zq62 qop_in_seq (qvN 2 Nq298) (Zq92 (locs := ["_law_one", "_law_weight_here"]) (fr := []) ⟨rfl, by decide +kernel, by decide +kernel, by decide +kernel, by decide +kernel, by decide +kernel⟩ .nil rfl (Zq28 (Zq10 Zq17 (qvN 0 Nq300) Zq5 (fun _ _ => rfl))) ⟨fun _ _ _ _ _ _ => by
    have cnd : (inN ["_law_one", "_law_weight_here"] []).Nodup := by decide +kernel
    exact ⟨(Zq106 2 (by rfl) (Zq22 (qgLN 0 cnd) (Zq22 (qgLN 1 cnd) Zq69))), Zq90, (qvLN 0)⟩⟩) rfl) (qvN 1 Nq299) (Zq19 _)))), ?_⟩
    have l1 := L1.2
    refine ⟨_, rfl, _, rfl, ta, _, 0, _, rfl, rfl, SqT.of hta, rfl, b1, rfl, ⟨_, SqL.of hb1⟩, ?_⟩
    refine comp_nms hb1 hr1 (by omega) fun q hq => ?_
    refine ⟨q, _, rfl, .inl (SqL.of Zq3), rfl, Zq142 _, _, rfl, rfl, ?_⟩
    have e : decide (V.bl (inV (.str n) ((t.ones.map (·.1)).map V.str)) = V.bl st) = !clBr t st n := by
      unfold clBr
      rw [inV_str, Bool.not_not, Bool.eq_iff_iff]
      simp
    have k' := k _ (Same.new (o := .lst ((t.ones.map (·.1)).map V.str)) hq)
    rw [← e] at k'
    exact k'
end
section
variable {P : Program} {w : World} {K : PySem.W.Frag} {mg : Str -> Option Value} {base : Heap}
def FairP (t : Suit) (st : Bool) (ns : List Str) : Prop := (∀ n ∈ ns, n ∈ (t.ones ++ t.others).map (·.1) /\ ns.count n = 1) /\ Zq63 t st <= (wts (claimed ns (t.ones ++ t.others))).sum
theorem count_str (n : Str) : ∀ ns : List Str, (ns.map V.str).countP (fun z => eqV z (.str n)) = ns.count n
  | [] => rfl
  | m :: ns => by
    rw [List.map_cons, List.countP_cons, count_str n ns, List.count_cons]
    have : (eqV (V.str m) (.str n) = true) ↔ ((m == n) = true) := by simp [eqV]
    by_cases h : (m == n) = true
    · rw [if_pos h, if_pos (this.mpr h)]
    · rw [if_neg h, if_neg (fun z => h (this.mp z))]
def spLFair : Sp := fun vs H Q _ => ∃ (v : V) (t : Suit) (st : Bool) (na : Addr) (ns : List Str), vs = [v, .bl st, .ref na] /\ SuitAt H t v /\ (t.ones ++ t.others).length <= 60 /\ H na = some (.lst (ns.map V.str)) /\
  ∀ (b : Bool) (H' : Hp), (b = true ↔ FairP t st ns) -> Same H H' -> Q (.bl b) H'
theorem claimed_take2 {ns : List Str} {sd : Side} {i : Nat} {p : Str × Int} (h : sd[i]? = some p) : claimed ns (sd.take (i + 1)) = claimed ns (sd.take i) ++ (if decide (p.1 ∈ ns) then [p] else []) := by
  unfold claimed
  rw [List.take_add_one, h, List.filter_append]
  cases e : decide (p.1 ∈ ns) <;> simp [e] <;> simpa using e
abbrev Zq79 : Stmt := top 50
theorem Zq167 : FnScope ["_law_suit", "_law_stands", "_law_names_here", "_law_swearers", "_law_name", "_law_reached"] ["_law_suit", "_law_stands", "_law_names_here"] (Zq0 Zq79) := ⟨rfl, rfl, rfl, by decide +kernel, rfl, by decide +kernel, by decide +kernel⟩
theorem Nq301 : Nm (Zq0 Zq79) "_law_goal" .globalImplicit := by decide +kernel
theorem Nq103 : Nm (Zq0 Zq79) "_law_name" .local := by decide +kernel
theorem Nq104 : Nm (Zq0 Zq79) "_law_names_here" .cell := by decide +kernel
theorem Nq163 : Nm (Zq0 Zq79) "_law_reached" .local := by decide +kernel
theorem Nq302 : Nm (Zq0 Zq79) "_law_stands" .local := by decide +kernel
theorem Nq35 : Nm (Zq0 Zq79) "_law_suit" .local := by decide +kernel
theorem Nq164 : Nm (Zq0 Zq79) "_law_swearers" .local := by decide +kernel
theorem Nq303 : Nm (Zq0 Zq79) "_law_total" .globalImplicit := by decide +kernel
theorem Zq310 (Zq226 : Has K mg "_law_fair" Zq79) (T : Txt mg) (Zq101 : Fn P w K mg base "_law_total" ["_law_side_here"] 1 spLTotal) (Zq311 : Fn P w K mg base "_law_goal" ["_law_suit", "_law_stands"] 2 spLGoal) :
    Fn P w K mg base "_law_fair" ["_law_suit", "_law_stands", "_law_names_here"] 3 spLFair := by
  refine Zq226.fnQ Zq167 (fun _ _ _ _ _ _ us hl => match us, hl with | [_, _, _], _ => rfl) (fun vs H Q E h => ?_) (fun f cdv A outer s H vs Q E hr h => ?_)
  · obtain ⟨v, t, st, na, ns, rfl, _⟩ := h
    rfl
  · obtain ⟨v, t, st, na, ns, rfl, ⟨ta, u1, u2, u4, rfl, hta, ⟨b1, v1, rfl, hb1, hr1⟩, ⟨b2, v2, rfl, hb2, hr2⟩⟩, h60, hna, k⟩ := h
    refine ⟨_, (Zq4 (Zq133 (locs := ["_law_name", "_law_weight_here"]) (fr := []) ⟨rfl, by decide +kernel, by decide +kernel, by decide +kernel, by decide +kernel, by decide +kernel⟩ .nil rfl (Zq28 (Zq18 Zq89 (Zq10 Zq17 (qvN 0 Nq35) Zq5 (fun _ _ => rfl)) (Zq10 Zq17 (qvN 0 Nq35) Zq5 (fun _ _ => rfl)))) ⟨fun _ _ _ _ _ _ => by
    have cnd : (inN ["_law_name", "_law_weight_here"] []).Nodup := by decide +kernel
    exact ⟨(Zq106 2 (by rfl) (Zq22 (qgLN 0 cnd) (Zq22 (qgLN 1 cnd) Zq69))), Zq90, (qvLN 0)⟩⟩ Zq167.nd Nq164 (by rfl) (i := 3))
 (Zq4 (Zq64 PassesOwn.never rfl (Zq28 (qvC 2 Nq104)) (Zq27 (i := 4) Zq167.nd Nq103)
  (Zq6 (Zq23 (QW.pt (Zq214 (Zq15 qop_notIn_seq (qvN 4 Nq103) (qvN 3 Nq164) rfl) (Zq197 (Zq15 qop_ne (Zq147 F.plainAttrs_list F.slot_list_count F.type_list_count qmt_count (qvC 2 Nq104) (Zq1 (qvN 4 Nq103) Zq2)) Zq5 (Zq19 _))))) (Zq6 (Zq14 Zq56)) Zq20)))
 (Zq4 (Zq12 (i := 5) Zq167.nd Nq163 (Zq8 Zq101 (hr.mono (by omega)) Nq303 (Zq1 (Zq92 (locs := ["_law_oath"]) (fr := [("_law_names_here", 2)]) ⟨rfl, by decide +kernel, by decide +kernel, by decide +kernel, by decide +kernel, by decide +kernel⟩ (.consN Nq104 .nil) rfl (Zq28 (Zq18 Zq89 (Zq10 Zq17 (qvN 0 Nq35) Zq5 (fun _ _ => rfl)) (Zq10 Zq17 (qvN 0 Nq35) Zq5 (fun _ _ => rfl)))) ⟨fun _ _ _ _ _ _ => by
    have cnd : (inN ["_law_oath"] [("_law_names_here", 2)]).Nodup := by decide +kernel
    exact ⟨(qgLN 0 cnd), (Zq158 (Zq15 qop_in_seqC (Zq10 qix_tupC (qvLN 0) Zq5 (fun _ _ => rfl)) (qvFN 1) rfl)), (qvLN 0)⟩⟩) Zq2)))
 (Zq6 (Zq14 (Zq62 qop_ge (qvN 5 Nq163) (Zq8 Zq311 (hr.mono (by omega)) Nq301 (Zq1 (qvN 0 Nq35) (Zq1 (qvN 1 Nq302) Zq2))) (Zq19 _))))))), ?_⟩
    have hz : (5000 : Nat) <= sizeLine := by decide
    have z1 := hr1.len
    have z2 := hr2.len
    have h60' := h60
    rw [List.length_append] at h60'
    refine ⟨_, rfl, ta, _, 0, _, rfl, rfl, SqT.of hta, rfl, _, rfl, ta, _, 1, _, rfl, rfl, SqT.of hta, rfl, ?_⟩
    refine ⟨b1, b2, v1, v2, rfl, rfl, hb1, hb2, by omega, fun q0 hq0 => ?_⟩
    refine ⟨q0, rfl, ⟨_, SqL.of Zq3⟩, ?_⟩
    have sq := Same.new (o := .lst (v1 ++ v2)) hq0
    refine comp_nms (sd := t.ones ++ t.others) Zq3 (RepS.mono (Same.t sq) (RepS.app hr2 hr1)) (by omega) fun q2 hq2 => ?_
    generalize (upd H q0 (.lst (v1 ++ v2))) = H1 at sq hq2 ⊢
    have sq2 := Same.new (o := .lst (((t.ones ++ t.others).map (·.1)).map V.str)) hq2
    have kq2 : (upd H1 q2 (.lst (((t.ones ++ t.others).map (·.1)).map V.str))) q2 = some (.lst (((t.ones ++ t.others).map (·.1)).map V.str)) := Zq3
    generalize (upd H1 q2 (.lst (((t.ones ++ t.others).map (·.1)).map V.str))) = H2 at sq2 kq2 ⊢
    have S2 := sq.trans sq2
    refine ⟨_, rfl, na, rfl, ⟨_, SqL.of (S2 _ _ hna)⟩, ?_⟩
    refine Zq71 (ns.map V.str) (fun i σ H' => ∃ (v4 : Option V), σ = [some (.ref ta), some (.bl st), some (.ref na), some (.ref q2), v4, none] /\ H' = H2 /\ ∀ n ∈ ns.take i, n ∈ (t.ones ++ t.others).map (·.1) /\ ns.count n = 1) ⟨none, rfl, rfl, fun n hn => by rw [List.take_zero] at hn; cases hn⟩ (fun i σ H' _ ⟨_, _, e, _⟩ => by rw [e]; exact SqL.of (S2 _ _ hna)) ?_ ?_
    · rintro i x σ H' hx ⟨v4, rfl, rfl, hall⟩
      rw [List.getElem?_map] at hx
      obtain ⟨n, hn, rfl⟩ := Option.map_eq_some_iff.mp hx
      have hnm := List.mem_of_getElem? hn
      refine ⟨_, rfl, _, rfl, q2, _, rfl, .inl (SqL.of kq2), rfl, Zq142 _, _, rfl, ?_⟩
      show if (!inV _ _) = true then _ else _
      rw [inV_str]
      by_cases hin : n ∈ (t.ones ++ t.others).map (·.1)
      · rw [decide_eq_true hin]
        refine iteF ?_
        refine ⟨_, rfl, .inl ⟨rfl, _, SqL.of (S2 _ _ hna)⟩, _, rfl, na, _, _, rfl, rfl, SqL.of (S2 _ _ hna), rfl, Zq142 _, rfl, _, rfl, ?_⟩
        rw [count_str]
        refine Zq103 (fun hne => ?_) (fun heq => ?_)
        · refine k false H' ⟨(fun z => nomatch z), fun hF => ?_⟩ S2
          exact (hne (by rw [(hF.1 n hnm).2]; rfl)).elim
        · refine ⟨_, rfl, rfl, fun m hm => ?_⟩
          rw [List.take_add_one, hn] at hm
          rcases List.mem_append.mp hm with z | z
          · exact hall m z
          · rw [List.mem_singleton.mp z]
            injection heq with heq
            exact ⟨hin, by omega⟩
      · rw [decide_eq_false hin]
        refine iteT (iteT (k false H' ⟨(fun z => nomatch z), fun hF => (hin (hF.1 n hnm).1).elim⟩ S2))
    · rintro σ H' ⟨v4, rfl, rfl, hall⟩
      rw [List.length_map, List.take_length] at hall
      refine ⟨_, rfl, ta, _, 0, _, rfl, rfl, SqT.of (S2 _ _ hta), rfl, _, rfl, ta, _, 1, _, rfl, rfl, SqT.of (S2 _ _ hta), rfl, ?_⟩
      refine ⟨b1, b2, v1, v2, rfl, rfl, S2 _ _ hb1, S2 _ _ hb2, by omega, fun q3 hq3 => ?_⟩
      refine ⟨q3, rfl, ⟨_, SqL.of Zq3⟩, ?_⟩
      have s3 := Same.new (o := .lst (v1 ++ v2)) hq3
      have k3 : (upd H' q3 (.lst (v1 ++ v2))) q3 = some (.lst (v1 ++ v2)) := Zq3
      generalize (upd H' q3 (.lst (v1 ++ v2))) = H3 at s3 k3 ⊢
      have S3 := S2.trans s3
      have hrs := RepS.mono (Same.t S3) (RepS.app hr2 hr1)
      refine Zq61 (xs := v1 ++ v2) (fun i ys H' => H' = H3 /\ RepS H3 (claimed ns ((t.ones ++ t.others).take i)) ys /\ ys.length <= i) ⟨rfl, rfl, Nat.le_refl _⟩ (by rw [List.length_append]; omega) (fun i ys H' _ ⟨e, _⟩ => by rw [e]; exact SqL.of k3) (fun i ys H' ⟨_, _, h⟩ => h) ?_ ?_
      · rintro i x ys H' hx ⟨rfl, hys, hyl⟩ ls hls
        obtain ⟨w0, rfl⟩ := len1 hls
        obtain ⟨p, b, hp, rfl, hb⟩ := hrs.get hx
        have et := claimed_take2 (ns := ns) hp
        refine ⟨⟨[_], rfl, rfl⟩, ?_⟩
        refine ⟨_, rfl, b, _, 0, _, rfl, rfl, SqT.of hb, rfl, _, rfl, na, _, rfl, .inl (SqL.of (S3 _ _ hna)), rfl, Zq142 _, _, rfl, ?_⟩
        show if inV _ _ = true then _ else _
        rw [inV_str]
        generalize decide (p.1 ∈ ns) = bb at et
        cases bb with
        | true =>
          rw [if_pos rfl] at et
          refine iteT ⟨_, rfl, rfl, ?_, by rw [List.length_append]; show _ + 1 <= _; omega⟩
          rw [et]
          exact RepS.app (b := [p]) (ws := [.ref b]) ⟨b, [], rfl, hb, rfl⟩ hys
        | false =>
          rw [if_neg Bool.false_ne_true, List.append_nil] at et
          exact iteF ⟨rfl, by rw [et]; exact hys, by omega⟩
      · rintro ys H4 ⟨rfl, hys, hyl⟩ lq hlq
        have el : (v1 ++ v2).length = (t.ones ++ t.others).length := by rw [List.length_append, List.length_append]; omega
        rw [el, List.take_length] at hys
        have s4 := Same.new (o := .lst ys) hlq
        have k4 : (upd H4 lq (.lst ys)) lq = some (.lst ys) := Zq3
        have hys4 := RepS.mono (Same.t s4) hys
        generalize (upd H4 lq (.lst ys)) = H5 at s4 k4 hys4 ⊢
        have S5 := S3.trans s4
        refine ⟨_, _, rfl, ⟨lq, ys, rfl, k4, hys4⟩, ?_⟩
        refine ⟨_, rfl, _, rfl, _, rfl, .ref ta, t, st, rfl, ⟨ta, .ref b1, .ref b2, u4, rfl, S5 _ _ hta, SideAt.mono ⟨b1, v1, rfl, hb1, hr1⟩ S5, SideAt.mono ⟨b2, v2, rfl, hb2, hr2⟩ S5⟩, _, _, rfl, rfl, k _ H5 ?_ S5⟩
        rw [decide_eq_true_iff]
        exact ⟨fun h => ⟨hall, h⟩, fun h => h.2⟩
end
section
variable {P : Program} {w : World} {K : PySem.W.Frag} {mg : Str -> Option Value} {base : Heap}
def spLBorne : Sp := fun vs H Q _ => ∃ (l tr : Addr) (v : V) (ss : List Suit) (e : Ent) (t : Suit) (tks : Tru), vs = [.ref l, .ref tr, v] /\ SuitsAt H ss l /\ ss.length <= 1000 /\ ss[e.c]? = some t /\ Zq96 t /\ Rep H (entD e) v /\ H tr = some (.dK tks) /\ TruOk tks /\
  ∀ (b : Bool) (H' : Hp), (b = true ↔ ∀ n ∈ e.ns, Zq165 ss tks e t n) -> Same H H' -> Q (.bl b) H'
abbrev Zq52 : Stmt := top 51
theorem Zq107 : FnScope ["_law_suits_here", "_law_says", "_law_entry", "_law_case", "_law_stands", "_law_names_here", "_law_name", "_law_told"] ["_law_suits_here", "_law_says", "_law_entry"] (Zq0 Zq52) := ⟨rfl, rfl, rfl, by decide +kernel, rfl, by decide +kernel, by decide +kernel⟩
theorem Nq105 : Nm (Zq0 Zq52) "_law_case" .local := by decide +kernel
theorem Nq304 : Nm (Zq0 Zq52) "_law_entry" .local := by decide +kernel
theorem Nq305 : Nm (Zq0 Zq52) "_law_kept_claim" .globalImplicit := by decide +kernel
theorem Nq106 : Nm (Zq0 Zq52) "_law_name" .local := by decide +kernel
theorem Nq306 : Nm (Zq0 Zq52) "_law_namers" .globalImplicit := by decide +kernel
theorem Nq165 : Nm (Zq0 Zq52) "_law_names_here" .local := by decide +kernel
theorem Nq307 : Nm (Zq0 Zq52) "_law_says" .cell := by decide +kernel
theorem Nq166 : Nm (Zq0 Zq52) "_law_stands" .local := by decide +kernel
theorem Nq167 : Nm (Zq0 Zq52) "_law_suits_here" .local := by decide +kernel
theorem Nq63 : Nm (Zq0 Zq52) "_law_told" .local := by decide +kernel
theorem Zq293 (Zq209 : Has K mg "_law_borne" Zq52) (T : Txt mg) (Zq278 : Fn P w K mg base "_law_namers" ["_law_suits_here", "_law_case", "_law_name"] 1 spLNamers) (Zq247 : Fn P w K mg base "_law_kept_claim" ["_law_suit", "_law_stands", "_law_name"] 1 spLKeep) :
    Fn P w K mg base "_law_borne" ["_law_suits_here", "_law_says", "_law_entry"] 2 spLBorne := by
  refine Zq209.fnQ Zq107 (fun _ _ _ _ _ _ us hl => match us, hl with | [_, _, _], _ => rfl) (fun vs H Q E h => ?_) (fun f cdv A outer s H vs Q E hr h => ?_)
  · obtain ⟨l, tr, v, ss, e, t, tks, rfl, _⟩ := h
    rfl
  · obtain ⟨l, tr, v, ss, e, t, tks, rfl, hsu, hlen, ht, hok, hev, htr, htk, k⟩ := h
    refine ⟨_, (Zq4 (Zq160 (qvN 2 Nq304) (qg_tup (by rfl) (Zq22 (Zq27 (i := 3) Zq107.nd Nq105) (Zq22 (Zq27 (i := 4) Zq107.nd Nq166) (Zq22 (Zq27 (i := 5) Zq107.nd Nq165) Zq69)))))
 (Zq4 (Zq64 PassesOwn.never rfl (Zq28 (qvN 5 Nq165)) (Zq27 (i := 6) Zq107.nd Nq106)
  (Zq4 (Zq133 (locs := ["_law_later"]) (fr := [("_law_says", 1)]) ⟨rfl, by decide +kernel, by decide +kernel, by decide +kernel, by decide +kernel, by decide +kernel⟩ (.consN Nq307 .nil) rfl (Zq28 (Zq8 Zq278 (hr.mono (by omega)) Nq306 (Zq1 (qvN 0 Nq167) (Zq1 (qvN 3 Nq105) (Zq1 (qvN 6 Nq106) Zq2))))) ⟨fun _ _ _ _ _ _ => by
    have cnd : (inN ["_law_later"] [("_law_says", 1)]).Nodup := by decide +kernel
    exact ⟨(qgLN 0 cnd), Zq90, (qe_dget1 hr (qvFN 1) (qvLN 0))⟩⟩ Zq107.nd Nq63 (by rfl) (i := 7))
 (Zq6 (Zq23 (Zq95 (Zq8 Zq247 (hr.mono (by omega)) Nq305 (Zq1 (Zq10 Zq21 (qvN 0 Nq167) (qvN 3 Nq105) (fun _ _ => rfl)) (Zq1 (qvN 4 Nq166) (Zq1 (qvN 6 Nq106) Zq2))))) (Zq6 (Zq23 (QW.pt (Zq214 (Zq15 qop_in_seq Zq178 (qvN 7 Nq63) rfl) (Zq197 (Zq15 qop_in_seq Zq56 (qvN 7 Nq63) rfl)))) (Zq6 (Zq14 Zq56)) Zq20)) (Zq6 (Zq23 (Zq15 qop_notIn_seq Zq56 (qvN 7 Nq63) rfl) (Zq6 (Zq14 Zq56)) Zq20))))))
 (Zq6 (Zq14 Zq56)))), ?_⟩
    have hz : (5000 : Nat) <= sizeLine := by decide
    obtain ⟨ea, na, rfl, hea, hna⟩ := ent_inv hev
    refine ⟨_, rfl, ea, _, rfl, SqT.of hea, rfl, _, _, rfl, _, _, rfl, _, _, rfl, rfl, ?_⟩
    refine ⟨_, rfl, na, rfl, ⟨_, SqL.of hna⟩, ?_⟩
    refine Zq71 (e.ns.map V.str) (fun i σ H' => ∃ (v6 v7 : Option V), σ = [some (.ref l), some (.ref tr), some (.ref ea), some (.int (e.c : Int)), some (.bl e.st), some (.ref na), v6, v7] /\ Same H H' /\ ∀ n ∈ e.ns.take i, Zq165 ss tks e t n) ⟨none, none, rfl, Same.refl _, fun n hn => by rw [List.take_zero] at hn; cases hn⟩ (fun i σ H' _ ⟨_, _, _, sm, _⟩ => SqL.of (sm _ _ hna)) ?_ ?_
    · rintro i x σ H' hx ⟨v6, v7, rfl, sm, hb⟩
      rw [List.getElem?_map] at hx
      obtain ⟨n, hn, rfl⟩ := Option.map_eq_some_iff.mp hx
      have hnm := List.mem_of_getElem? hn
      refine ⟨_, rfl, _, rfl, _, rfl, l, ss, e.c, n, rfl, hsu.mono sm, hlen, fun a H2 haf ha s2 => ?_⟩
      have S2 := sm.trans s2
      have hjl := js_len ss e.c n (List.range ss.length)
      rw [List.length_range] at hjl
      have hil : (Zq30 (jsOf ss e.c n (List.range ss.length))).length = (jsOf ss e.c n (List.range ss.length)).length := by unfold Zq30; rw [List.length_map]
      refine ⟨a, rfl, ⟨_, SqL.of ha⟩, ?_⟩
      refine Zq61 (xs := Zq30 (jsOf ss e.c n (List.range ss.length))) (fun i ys H' => H' = H2 /\ ys = ((jsOf ss e.c n (List.range ss.length)).take i).map (tv tks)) ⟨rfl, rfl⟩ (by omega) (fun i ys H' _ ⟨e, _⟩ => by rw [e]; exact SqL.of ha) (fun i ys H' ⟨_, e⟩ => by rw [e, List.length_map, List.length_take]; omega) ?_ ?_
      · rintro i x ys H' hx ⟨rfl, rfl⟩ ls hls
        obtain ⟨w0, rfl⟩ := len1 hls
        unfold Zq30 at hx
        rw [List.getElem?_map] at hx
        obtain ⟨j, hj, rfl⟩ := Option.map_eq_some_iff.mp hx
        refine ⟨⟨[_], rfl, rfl⟩, iteT ?_⟩
        refine ⟨_, rfl, tr, rfl, .inl ⟨tks, .inl (S2 _ _ htr)⟩, _, rfl, _, DGet.k (k := .inl (j : Int)) (S2 _ _ htr), rfl, ?_⟩
        rw [List.take_add_one, hj, List.map_append]
        rfl
      · rintro ys H' ⟨rfl, rfl⟩ lt hlt
        rw [hil, List.take_length]
        have S3 := S2.trans (Same.new (o := .lst ((jsOf ss e.c n (List.range ss.length)).map (tv tks))) hlt)
        have k3 : (upd H' lt (.lst ((jsOf ss e.c n (List.range ss.length)).map (tv tks)))) lt = some (.lst ((jsOf ss e.c n (List.range ss.length)).map (tv tks))) := Zq3
        generalize (upd H' lt (.lst ((jsOf ss e.c n (List.range ss.length)).map (tv tks)))) = H3 at S3 k3 ⊢
        obtain ⟨us, hl3, hrep3⟩ := hsu.mono S3
        obtain ⟨sv, hsv, hsa⟩ := SuitsAt.suit (l := l) hrep3 ht
        refine ⟨_, rfl, _, rfl, l, us, e.c, sv, rfl, rfl, SqL.of hl3, Zq40 hsv, _, rfl, _, rfl, sv, t, e.st, n, rfl, hsa, hok, fun H4 s4 => ?_⟩
        have S4 := S3.trans s4
        have k4 := s4 _ _ k3
        have next : Zq165 ss tks e t n -> ∀ m ∈ e.ns.take (i + 1), Zq165 ss tks e t m := by
          intro hB m hm
          rw [List.take_add_one, hn] at hm
          rcases List.mem_append.mp hm with z | z
          · exact hb m z
          · rw [List.mem_singleton.mp z]; exact hB
        refine ⟨_, rfl, ?_⟩
        cases hcb : clBr t e.st n with
        | false =>
          refine iteT ?_
          refine ⟨_, rfl, lt, _, rfl, .inl (SqL.of k4), rfl, tv_flat htk _, _, rfl, ?_⟩
          · show if inV _ _ = true then _ else _
            cases hN : inV .non ((jsOf ss e.c n (List.range ss.length)).map (tv tks)) with
            | true =>
              refine iteT (iteT (k false H4 ⟨(fun z => nomatch z), fun hall => ?_⟩ S4))
              obtain ⟨v, hv, hev'⟩ := List.any_eq_true.mp hN
              obtain ⟨j, hj, rfl⟩ := List.mem_map.mp hv
              obtain ⟨u, h1, h2⟩ := js_mem.mp hj
              have := (hall n hnm).2 hcb j u h1 h2
              unfold tv at hev'
              rw [this] at hev'
              cases hev'
            | false =>
              refine iteF ?_
              refine ⟨_, rfl, lt, _, rfl, .inl (SqL.of k4), rfl, tv_flat htk _, _, rfl, ?_⟩
              show if inV _ _ = true then _ else _
              cases hT : inV (.bl true) ((jsOf ss e.c n (List.range ss.length)).map (tv tks)) with
              | true =>
                refine iteT (k false H4 ⟨(fun z => nomatch z), fun hall => ?_⟩ S4)
                obtain ⟨v, hv, hev'⟩ := List.any_eq_true.mp hT
                obtain ⟨j, hj, rfl⟩ := List.mem_map.mp hv
                obtain ⟨u, h1, h2⟩ := js_mem.mp hj
                have := (hall n hnm).2 hcb j u h1 h2
                unfold tv at hev'
                rw [this] at hev'
                cases hev'
              | false =>
                refine iteF ?_
                refine ⟨_, _, rfl, S4, next ⟨(fun z => by rw [hcb] at z; cases z), fun _ j u h1 h2 => ?_⟩⟩
                have hjm : tv tks j ∈ (jsOf ss e.c n (List.range ss.length)).map (tv tks) := List.mem_map.mpr ⟨j, js_mem.mpr ⟨u, h1, h2⟩, rfl⟩
                rcases tv_cases htk j with z | ⟨b, z, q⟩
                · rw [z] at hjm
                  have : inV .non ((jsOf ss e.c n (List.range ss.length)).map (tv tks)) = true := List.any_eq_true.mpr ⟨.non, hjm, rfl⟩
                  rw [hN] at this
                  cases this
                · cases b with
                  | false => exact q
                  | true =>
                    rw [z] at hjm
                    have : inV (.bl true) ((jsOf ss e.c n (List.range ss.length)).map (tv tks)) = true := List.any_eq_true.mpr ⟨.bl true, hjm, rfl⟩
                    rw [hT] at this
                    cases this
        | true =>
          refine iteF ?_
          refine ⟨_, rfl, lt, _, rfl, .inl (SqL.of k4), rfl, tv_flat htk _, _, rfl, ?_⟩
          show if (!inV _ _) = true then _ else _
          cases hin : inV (.bl true) ((jsOf ss e.c n (List.range ss.length)).map (tv tks)) with
          | false =>
            refine iteT (k false H4 ⟨(fun z => nomatch z), fun hall => ?_⟩ S4)
            obtain ⟨j, u, h1, h2, h3⟩ := (hall n hnm).1 hcb
            have : inV (.bl true) ((jsOf ss e.c n (List.range ss.length)).map (tv tks)) = true := List.any_eq_true.mpr ⟨.bl true, List.mem_map.mpr ⟨j, js_mem.mpr ⟨u, h1, h2⟩, by unfold tv; rw [h3]; rfl⟩, rfl⟩
            rw [hin] at this
            cases this
          | true =>
            refine iteF ?_
            refine ⟨_, _, rfl, S4, next ⟨fun _ => ?_, fun z => by rw [hcb] at z; cases z⟩⟩
            obtain ⟨v, hv, hev'⟩ := List.any_eq_true.mp hin
            obtain ⟨j, hj, rfl⟩ := List.mem_map.mp hv
            obtain ⟨u, h1, h2⟩ := js_mem.mp hj
            exact ⟨j, u, h1, h2, tv_eq htk hev'⟩
    · rintro σ H' ⟨v6, v7, rfl, sm, hb⟩
      rw [List.length_map, List.take_length] at hb
      exact k true H' ⟨fun _ => hb, fun _ => rfl⟩ sm
end
section
variable {P : Program} {w : World} {K : PySem.W.Frag} {mg : Str -> Option Value} {base : Heap}
def FairI (ss : List Suit) (e : EntI) : Prop := 0 <= e.c /\ ∃ t, ss[e.c.toNat]? = some t /\ FairP t e.st e.ns
def spLGood : Sp := fun vs H Q _ => ∃ (l le : Addr) (ss : List Suit) (es : List EntI) (c : Int) (st : Bool), vs = [.ref l, .int c, .bl st, .ref le] /\ SuitsAt H ss l /\ ss.length <= 1000 /\ Line ss /\ (∀ t ∈ ss, (t.ones ++ t.others).length <= 60) /\ Zq234 H es le /\ es.length <= 1000 /\
  ∀ (b : Bool) (H' : Hp), (b = true ↔ GoodI (FairI ss) ss c st es) -> Same H H' -> Q (.bl b) H'
abbrev Zq68 : Stmt := top 52
theorem Zq168 : FnScope ["_law_suits_here", "_law_case", "_law_stands", "_law_entries", "_law_says", "_law_entry"] ["_law_suits_here", "_law_case", "_law_stands", "_law_entries"] (Zq0 Zq68) := ⟨rfl, rfl, rfl, by decide +kernel, rfl, by decide +kernel, by decide +kernel⟩
theorem Nq308 : Nm (Zq0 Zq68) "_law_borne" .globalImplicit := by decide +kernel
theorem Nq168 : Nm (Zq0 Zq68) "_law_case" .local := by decide +kernel
theorem Nq169 : Nm (Zq0 Zq68) "_law_entries" .local := by decide +kernel
theorem Nq5 : Nm (Zq0 Zq68) "_law_entry" .local := by decide +kernel
theorem Nq309 : Nm (Zq0 Zq68) "_law_fair" .globalImplicit := by decide +kernel
theorem Nq22 : Nm (Zq0 Zq68) "_law_says" .local := by decide +kernel
theorem Nq310 : Nm (Zq0 Zq68) "_law_stands" .local := by decide +kernel
theorem Nq107 : Nm (Zq0 Zq68) "_law_suits_here" .local := by decide +kernel
theorem Nq311 : Nm (Zq0 Zq68) "len" .globalImplicit := by decide +kernel
theorem Zq312 (Zq227 : Has K mg "_law_good" Zq68) (T : Txt mg) (Zq313 : Fn P w K mg base "_law_fair" ["_law_suit", "_law_stands", "_law_names_here"] 3 spLFair) (Zq294 : Fn P w K mg base "_law_borne" ["_law_suits_here", "_law_says", "_law_entry"] 2 spLBorne) :
    Fn P w K mg base "_law_good" ["_law_suits_here", "_law_case", "_law_stands", "_law_entries"] 4 spLGood := by
  refine Zq227.fnQ Zq168 (fun _ _ _ _ _ _ us hl => match us, hl with | [_, _, _, _], _ => rfl) (fun vs H Q E h => ?_) (fun f cdv A outer s H vs Q E hr h => ?_)
  · obtain ⟨l, le, ss, es, c, st, rfl, _⟩ := h
    rfl
  · obtain ⟨l, le, ss, es, c, st, rfl, hsu, hlen, hline, h60, hes, hel, k⟩ := h
    refine ⟨_, (Zq4 (Zq12 (i := 4) Zq168.nd Nq22 ⟨L2.pe_dnewK⟩)
 (Zq4 (Zq64 PassesOwn.never rfl (Zq28 (qvN 3 Nq169)) (Zq27 (i := 5) Zq168.nd Nq5)
  (Zq4 (Zq23 (QW.pt (Zq214 (Zq15 (qop_din hr) (Zq10 Zq17 (qvN 5 Nq5) Zq5 (fun _ _ => rfl)) (qvN 4 Nq22) rfl) (Zq214 (Zq15 Zq181 (Zq10 Zq17 (qvN 5 Nq5) Zq5 (fun _ _ => rfl)) Zq5 (Zq19 _)) (Zq197 (Zq15 qop_ge (Zq10 Zq17 (qvN 5 Nq5) Zq5 (fun _ _ => rfl)) (Zq11 Zq13 Nq311 T.len Zq39 (Zq1 (qvN 0 Nq107) Zq2)) (Zq19 _)))))) (Zq6 (Zq14 Zq56)) Zq20)
 (Zq4 (Zq23 (Zq177 (Zq95 (Zq8 Zq313 (hr.mono (by omega)) Nq309 (Zq1 (Zq10 Zq21 (qvN 0 Nq107) (Zq10 Zq17 (qvN 5 Nq5) Zq5 (fun _ _ => rfl)) (fun _ _ => rfl)) (Zq1 (Zq10 Zq17 (qvN 5 Nq5) Zq5 (fun _ _ => rfl)) (Zq1 (Zq10 Zq17 (qvN 5 Nq5) Zq5 (fun _ _ => rfl)) Zq2)))))) (Zq6 (Zq14 Zq56)) Zq20)
 (Zq6 (qs_dput hr (qvN 4 Nq22) (Zq10 Zq17 (qvN 5 Nq5) Zq5 (fun _ _ => rfl)) (Zq10 Zq17 (qvN 5 Nq5) Zq5 (fun _ _ => rfl)))))))
 (Zq4 (Zq64 PassesOwn.never rfl (Zq28 (qvN 3 Nq169)) (Zq27 (i := 5) Zq168.nd Nq5)
  (Zq6 (Zq23 (Zq177 (Zq95 (Zq8 Zq294 (hr.mono (by omega)) Nq308 (Zq1 (qvN 0 Nq107) (Zq1 (qvN 4 Nq22) (Zq1 (qvN 5 Nq5) Zq2)))))) (Zq6 (Zq14 Zq56)) Zq20)))
 (Zq6 (Zq14 (Zq180 (Zq62 (qop_din hr) (qvN 1 Nq168) (qvN 4 Nq22) rfl) (Zq179 (Zq62 Zq43 (qe_dget hr (qvN 4 Nq22) (qvN 1 Nq168) (fun _ _ => rfl)) (qvN 2 Nq310) (Zq19 _))))))))), ?_⟩
    have hz : (5000 : Nat) <= sizeLine := by decide
    refine fun g hg => ?_
    have S0 : Same H (upd H g (.dK [])) := Same.new hg
    obtain ⟨us, hle, hrep⟩ := hes
    have hul : us.length = es.length := by have := hrep.length; rw [List.length_map] at this; exact this
    refine ⟨_, rfl, le, rfl, ⟨_, SqL.of (S0 _ _ hle)⟩, ?_⟩
    refine Zq71 us (fun i σ H' => ∃ (tks : Tru) (v5 : Option V), σ = [some (.ref l), some (.int c), some (.bl st), some (.ref le), some (.ref g), v5] /\ H' g = some (.dK tks) /\ TruII tks (es.take i) /\
        (∀ e ∈ es.take i, FairI ss e) /\ Same H H') ⟨[], none, rfl, Zq3, ⟨Nat.zero_le _, (fun k v e => nomatch e), (fun e he => by rw [List.take_zero] at he; cases he), (by rw [List.take_zero]; exact List.nodup_nil), (fun j b e => nomatch e)⟩, (fun e he => by rw [List.take_zero] at he; cases he), S0⟩ (fun i σ H' _ ⟨_, _, _, _, _, _, sm⟩ => SqL.of (sm _ _ hle)) ?_ ?_
    · rintro i x σ H' hx ⟨tks, v5, rfl, hg', htk, hsd, sm⟩
      obtain ⟨e, he, hre⟩ := Zq143 (hrep.mono' sm) hx
      have hem := List.mem_of_getElem? he
      have hi := (List.getElem?_eq_some_iff.mp he).1
      obtain ⟨ea, na, rfl, hea, hna⟩ := Zq157 hre
      obtain ⟨ls, hl1, hrep1⟩ := hsu.mono sm
      have hll : ls.length = ss.length := by have := hrep1.length; rw [List.length_map] at this; exact this
      refine ⟨_, rfl, ea, _, 0, _, rfl, rfl, SqT.of hea, rfl, _, rfl, g, _, rfl, DGet.k (k := .inl e.c) hg', _, rfl, ?_⟩
      cases hin : valV tks (.inl e.c) with
      | some v =>
        refine iteT (iteT (k false H' ⟨(fun z => nomatch z), fun hG => ?_⟩ sm))
        obtain ⟨b, rfl⟩ := htk.ok _ _ hin
        obtain ⟨f, hf, h1, _⟩ := htk.from_ _ _ hin
        exact (ndI_pre he hG.nd f hf h1).elim
      | none =>
        refine iteF ?_
        have out : ¬ (0 <= e.c /\ e.c < ss.length) -> Q (.bl false) H' := fun hn => k false H' ⟨(fun z => nomatch z), fun hG => by
          obtain ⟨q0, t, q1, _⟩ := hG.sound e hem
          have := (List.getElem?_eq_some_iff.mp q1).1
          exact absurd ⟨q0, by omega⟩ hn⟩ sm
        refine ⟨_, rfl, ea, _, 0, _, rfl, rfl, SqT.of hea, rfl, _, _, rfl, rfl, _, rfl, iteD (fun z => iteT (out (by omega))) (fun hc0 => ?_)⟩
        refine ⟨_, rfl, ea, _, 0, _, rfl, rfl, SqT.of hea, rfl, _, rfl, l, ls, rfl, .inl (SqL.of hl1), _, _, rfl, rfl, _, rfl, iteD (fun z => out (by omega)) (fun hc1 => ?_)⟩
        obtain ⟨t, ht⟩ : ∃ t, ss[e.c.toNat]? = some t := ⟨_, List.getElem?_eq_getElem (by omega)⟩
        have htm := List.mem_of_getElem? ht
        obtain ⟨sv, hsv, hsa⟩ := SuitsAt.suit (l := l) hrep1 ht
        refine ⟨_, rfl, _, rfl, ea, _, 0, _, rfl, rfl, SqT.of hea, rfl, l, ls, e.c, sv, rfl, rfl, SqL.of hl1, by rw [show e.c = ((e.c.toNat : Nat) : Int) by omega]; exact Zq40 hsv, _, rfl, ea, _, 1, _, rfl, rfl, SqT.of hea, rfl, _, rfl, ea, _, 2, _, rfl, rfl, SqT.of hea, rfl, ?_⟩
        refine ⟨sv, t, e.st, na, e.ns, rfl, hsa, h60 t htm, hna, fun b H1 hb s1 => ?_⟩
        have S1 := sm.trans s1
        refine ⟨b, rfl, ?_⟩
        cases b with
        | false =>
          refine iteT (k false H1 ⟨(fun z => nomatch z), fun hG => ?_⟩ S1)
          obtain ⟨_, t', q1, q2⟩ := hG.sound e hem
          rw [ht] at q1
          cases q1
          exact nomatch (hb.mpr q2)
        | true =>
          refine iteF ?_
          refine ⟨_, rfl, ea, _, 1, _, rfl, rfl, SqT.of (s1 _ _ hea), rfl, _, rfl, _, rfl, ea, _, 0, _, rfl, rfl, SqT.of (s1 _ _ hea), rfl, g, _, rfl, DPut.k (k := .inl e.c) (s1 _ _ hg') (by have := htk.len; rw [List.length_take] at this; omega), ?_⟩
          refine ⟨_, _, rfl, Zq3, ⟨?_, ?_, ?_, ?_, ?_⟩, ?_, ?_⟩
          · refine Nat.le_trans (Zq72 _ _ _) ?_
            have := htk.len
            rw [List.length_take] at this ⊢
            omega
          · intro k' v' e'
            rw [Zq112] at e'
            split at e'
            · cases e'; exact ⟨_, rfl⟩
            · exact htk.ok _ _ e'
          · intro f hf
            rw [Zq112]
            rw [List.take_add_one, he] at hf
            rcases List.mem_append.mp hf with z | z
            · have hv := htk.to_ f z
              rw [if_neg (fun q => by rw [q, hin] at hv; cases hv)]
              exact hv
            · rw [List.mem_singleton.mp z, if_pos rfl]
          · rw [List.take_add_one, he, List.map_append, List.nodup_append]
            refine ⟨htk.nd, List.pairwise_singleton _ _, fun a ha b hb' z => ?_⟩
            obtain ⟨f, hf, rfl⟩ := List.mem_map.mp ha
            have hb2 := List.mem_singleton.mp hb'
            have hv := htk.to_ f hf
            rw [z, hb2, hin] at hv
            cases hv
          · intro j b' e'
            rw [Zq112] at e'
            rw [List.take_add_one, he]
            by_cases hj : (Sum.inl j : Key) = .inl e.c
            · rw [if_pos hj] at e'
              cases e'
              injection hj with hj
              exact ⟨e, List.mem_append_right _ (List.mem_singleton.mpr rfl), hj.symm, rfl⟩
            · rw [if_neg hj] at e'
              obtain ⟨f, hf, h1, h2⟩ := htk.from_ j b' e'
              exact ⟨f, List.mem_append_left _ hf, h1, h2⟩
          · intro f hf
            rw [List.take_add_one, he] at hf
            rcases List.mem_append.mp hf with z | z
            · exact hsd f z
            · rw [List.mem_singleton.mp z]; exact ⟨by omega, t, ht, hb.mp rfl⟩
          · intro b' o e'
            rw [Zq7 (fun z => by rw [z, hg] at e'; cases e')]
            exact S1 b' o e'
    · rintro σ H1 ⟨tks, v5, rfl, hg1, htk, hsd, sm1⟩
      rw [hul, List.take_length] at htk hsd
      refine ⟨_, rfl, le, rfl, ⟨_, SqL.of (sm1 _ _ hle)⟩, ?_⟩
      refine Zq71 us (fun i σ H' => ∃ (v5 : Option V), σ = [some (.ref l), some (.int c), some (.bl st), some (.ref le), some (.ref g), v5] /\ Same H1 H' /\ (∀ e ∈ es.take i, ∀ t, ss[e.c.toNat]? = some t -> ∀ n ∈ e.ns, Zq165 ss tks e.toN t n))
        ⟨v5, rfl, Same.refl _, fun e he => by rw [List.take_zero] at he; cases he⟩ (fun i σ H' _ ⟨_, _, sm, _⟩ => SqL.of (sm _ _ (sm1 _ _ hle))) ?_ ?_
      · rintro i x σ H' hx ⟨v5', rfl, sm, hall⟩
        have S3 := sm1.trans sm
        obtain ⟨e, he, hre⟩ := Zq143 (hrep.mono' S3) hx
        have hem := List.mem_of_getElem? he
        obtain ⟨he0, t, ht, _⟩ := hsd e hem
        have htm := List.mem_of_getElem? ht
        rw [entI_N he0] at hre
        refine ⟨_, rfl, _, rfl, _, rfl, l, g, x, ss, e.toN, t, tks, rfl, hsu.mono S3, hlen, ht, hline.ok t htm, hre, sm _ _ hg1, htk.ok, fun b H4 hb s4 => ?_⟩
        refine ⟨b, rfl, ?_⟩
        cases b with
        | false =>
          refine iteT (k false H4 ⟨(fun z => nomatch z), fun hG => ?_⟩ (S3.trans s4))
          exact nomatch (hb.mpr fun n hn => (back_iff htk).mp hG.back e hem t ht n hn)
        | true =>
          refine iteF ?_
          refine ⟨_, rfl, sm.trans s4, fun f hf u hu => ?_⟩
          rw [List.take_add_one, he] at hf
          rcases List.mem_append.mp hf with z | z
          · exact hall f z u hu
          · rw [List.mem_singleton.mp z] at hu ⊢
            rw [ht] at hu
            cases hu
            exact hb.mp rfl
      · rintro σ H2 ⟨v5', rfl, sm, hall⟩
        rw [hul, List.take_length] at hall
        have S2 := sm1.trans sm
        have hg2 := sm _ _ hg1
        have fin : (∃ e ∈ es, e.c = c /\ e.st = st) -> GoodI (FairI ss) ss c st es := fun asked => ⟨htk.nd, asked, hsd, (back_iff htk).mpr hall⟩
        refine ⟨_, rfl, _, rfl, g, _, rfl, DGet.k (k := .inl c) hg2, _, rfl, ?_⟩
        cases hv : valV tks (.inl c) with
        | none =>
          refine iteF (k false H2 ⟨(fun z => nomatch z), fun hG => ?_⟩ S2)
          obtain ⟨e, he, h1, h2⟩ := hG.asked
          have := (htk.iff c st).mpr ⟨e, he, h1, h2⟩
          rw [hv] at this
          cases this
        | some v =>
          obtain ⟨b, rfl⟩ := htk.ok _ _ hv
          refine iteT ?_
          have hd : DGet H2 g (.int c) (some (.bl b)) := by
            have := DGet.k (k := .inl c) hg2
            rw [hv] at this
            exact this
          refine ⟨_, rfl, _, rfl, g, _, rfl, hd, _, rfl, rfl, k _ H2 ?_ S2⟩
          rw [decide_eq_true_iff]
          constructor
          · intro hb
            injection hb with hb
            rw [hb] at hv
            exact fin ((htk.iff c st).mp hv)
          · intro hG
            obtain ⟨e, he, h1, h2⟩ := hG.asked
            have := (htk.iff c st).mpr ⟨e, he, h1, h2⟩
            rw [hv] at this
            cases this
            rfl
end
section
theorem perm_of_sub : ∀ {A B : List Str}, A.Nodup -> (∀ x ∈ A, x ∈ B) -> B.length <= A.length -> A.Perm B
  | [], B, _, _, h => by
    have : B = [] := List.eq_nil_of_length_eq_zero (by simpa using h)
    rw [this]
  | a :: A, B, hn, hs, hl => by
    have ha := hs a List.mem_cons_self
    have h1 := List.perm_cons_erase ha
    rw [List.nodup_cons] at hn
    refine List.Perm.trans (List.Perm.cons a (perm_of_sub hn.2 (fun x hx => ?_) ?_)) h1.symm
    · exact (List.mem_erase_of_ne (fun z => hn.1 (by rw [← z]; exact hx))).mpr (hs x (List.mem_cons_of_mem _ hx))
    · have := h1.length_eq
      rw [List.length_cons] at this hl
      omega
theorem sound_fair {t : Suit} (nd : ((t.ones ++ t.others).map (·.1)).Nodup) (e : Ent) : Zq153 t e = true ↔ FairP t e.st e.ns := by
  unfold Zq153 FairP
  rw [Bool.and_eq_true, decide_eq_true_iff, decide_eq_true_iff]
  refine and_congr ?_ Iff.rfl
  have sub : (claimed e.ns (t.ones ++ t.others)).Sublist (t.ones ++ t.others) := List.filter_sublist
  have ndA : ((claimed e.ns (t.ones ++ t.others)).map (·.1)).Nodup := (sub.map _).nodup nd
  have inA : ∀ n, n ∈ (claimed e.ns (t.ones ++ t.others)).map (·.1) ↔ n ∈ (t.ones ++ t.others).map (·.1) /\ n ∈ e.ns := fun n => by
    constructor
    · intro h
      obtain ⟨p, hp, rfl⟩ := List.mem_map.mp h
      obtain ⟨h1, h2⟩ := List.mem_filter.mp hp
      exact ⟨List.mem_map.mpr ⟨p, h1, rfl⟩, of_decide_eq_true h2⟩
    · rintro ⟨h1, h2⟩
      obtain ⟨p, hp, rfl⟩ := List.mem_map.mp h1
      exact List.mem_map.mpr ⟨p, List.mem_filter.mpr ⟨hp, decide_eq_true h2⟩, rfl⟩
  constructor
  · intro hlen
    have hp := perm_of_sub ndA (fun x hx => ((inA x).mp hx).2) (by rw [List.length_map]; omega)
    have ndn : e.ns.Nodup := hp.nodup_iff.mp ndA
    intro n hn
    refine ⟨((inA n).mp (hp.mem_iff.mpr hn)).1, ?_⟩
    rw [ndn.count, if_pos hn]
  · intro h
    have ndn : e.ns.Nodup := by
      rw [List.nodup_iff_count]
      intro a
      by_cases ha : a ∈ e.ns
      · have := (h a ha).2; omega
      · rw [List.count_eq_zero_of_not_mem ha]; omega
    have hp : ((claimed e.ns (t.ones ++ t.others)).map (·.1)).Perm e.ns := by
      rw [List.perm_ext_iff_of_nodup ndA ndn]
      intro n
      rw [inA n]
      exact ⟨fun z => z.2, fun z => ⟨(h n z).1, z⟩⟩
    have := hp.length_eq
    rw [List.length_map] at this
    exact this
theorem soundI_iff {ss : List Suit} (hl : Line ss) (e : EntI) : Zq131 ss e = true ↔ FairI ss e := by
  constructor
  · intro h
    obtain ⟨h0, t, ht, hs⟩ := soundI_at h
    exact ⟨h0, t, ht, (sound_fair (hl.nd t (List.mem_of_getElem? ht)) e.toN).mp hs⟩
  · rintro ⟨h0, t, ht, hf⟩
    unfold Zq131
    rw [decide_eq_true h0, Bool.true_and, ht]
    exact (sound_fair (hl.nd t (List.mem_of_getElem? ht)) e.toN).mpr hf
theorem goodI_iff {ss : List Suit} (hl : Line ss) {c : Int} {st : Bool} {es : List EntI} : GoodI (fun e => Zq131 ss e = true) ss c st es ↔ GoodI (FairI ss) ss c st es :=
  ⟨fun g => ⟨g.nd, g.asked, fun e he => (soundI_iff hl e).mp (g.sound e he), g.back⟩, fun g => ⟨g.nd, g.asked, fun e he => (soundI_iff hl e).mpr (g.sound e he), g.back⟩⟩
end
section
variable {P : Program} {w : World} {K : PySem.W.Frag} {mg : Str -> Option Value} {base : Heap}
structure SuitsX (H : Hp) (s l : Addr) (ss : List Suit) (us : List V) : Prop where
  at_ : H l = some (.lst us)
  ne : l ≠ s
  rep : RepL (off [s] H) (ss.map Zq86) us
  ok : ∀ t ∈ ss, Zq96 t
  sh : ∀ t ∈ ss, (t.ones ++ t.others).length <= 60
  len : ss.length <= 1000
theorem SuitsX.x {H H' : Hp} {s l : Addr} {ss : List Suit} {us : List V} (h : SuitsX H s l ss us) (k : SameX s H H') : SuitsX H' s l ss us := ⟨k _ _ h.ne h.at_, h.ne, h.rep.mono' (off_x k), h.ok, h.sh, h.len⟩
theorem SuitsX.at {H : Hp} {s l : Addr} {ss : List Suit} {us : List V} (h : SuitsX H s l ss us) : SuitsAt H ss l := ⟨us, h.at_, h.rep.mono' Zq163⟩
theorem SuitsX.ul {H : Hp} {s l : Addr} {ss : List Suit} {us : List V} (h : SuitsX H s l ss us) : us.length = ss.length := by have := h.rep.length; rw [List.length_map] at this; exact this
def spDrawn : Sp := fun vs H Q _ => ∃ (s la l : Addr) (us : List V) (ss : List Suit) (x : Addr) (ox : HO), vs = [.ref s, .ref l] /\ SrcAt H s la /\ SuitsX H s l ss us /\ 0 < ss.length /\ x ≠ s /\ H x = some ox /\
  ∀ (v : V) (e : EntI) (H' : Hp), Rep (off [s, x] H') (Zq44 e) v -> e.ns.length <= 60 -> SrcAt H' s la -> SameX s H H' -> Q v H'
abbrev Zq42 : Stmt := top 54
theorem Zq104 : FnScope ["_law_src_here", "_law_suits_here", "_law_case", "_law_swearers", "_law_kept"] ["_law_src_here", "_law_suits_here"] (Zq0 Zq42) := ⟨rfl, rfl, rfl, by decide +kernel, rfl, by decide +kernel, by decide +kernel⟩
theorem Nq64 : Nm (Zq0 Zq42) "_law_case" .local := by decide +kernel
theorem Nq170 : Nm (Zq0 Zq42) "_law_kept" .local := by decide +kernel
theorem Nq171 : Nm (Zq0 Zq42) "_law_next" .globalImplicit := by decide +kernel
theorem Nq108 : Nm (Zq0 Zq42) "_law_src_here" .cell := by decide +kernel
theorem Nq109 : Nm (Zq0 Zq42) "_law_suits_here" .local := by decide +kernel
theorem Nq172 : Nm (Zq0 Zq42) "_law_swearers" .local := by decide +kernel
theorem Nq312 : Nm (Zq0 Zq42) "len" .globalImplicit := by decide +kernel
theorem Zq242 (Zq145 : Has K mg "_law_drawn_entry" Zq42) (T : Txt mg) (Zq9 : Fn P w K mg base "_law_next" ["_law_src_here", "_law_base"] 1 Zq116) :
    Fn P w K mg base "_law_drawn_entry" ["_law_src_here", "_law_suits_here"] 2 spDrawn := by
  refine Zq145.fnQ Zq104 (fun _ _ _ _ _ _ us hl => match us, hl with | [_, _], _ => rfl) (fun vs H Q E h => ?_) (fun f cdv A outer s H vs Q E hr h => ?_)
  · obtain ⟨s, la, l, us, ss, x, ox, rfl, _⟩ := h
    rfl
  · obtain ⟨s, la, l, us, ss, x, ox, rfl, hsrc, hX, hpos, nxs, hx, k⟩ := h
    refine ⟨_, (Zq4 (Zq12 (i := 2) Zq104.nd Nq64 (Zq8 Zq9 (hr.mono (by omega)) Nq171 (Zq1 (qvC 0 Nq108) (Zq1 (Zq11 Zq13 Nq312 T.len Zq39 (Zq1 (qvN 1 Nq109) Zq2)) Zq2))))
 (Zq4 (Zq133 (locs := ["_law_name", "_law_weight_here"]) (fr := []) ⟨rfl, by decide +kernel, by decide +kernel, by decide +kernel, by decide +kernel, by decide +kernel⟩ .nil rfl (Zq28 (Zq18 Zq89 (Zq10 Zq17 (Zq10 Zq21 (qvN 1 Nq109) (qvN 2 Nq64) (fun _ _ => rfl)) Zq5 (fun _ _ => rfl)) (Zq10 Zq17 (Zq10 Zq21 (qvN 1 Nq109) (qvN 2 Nq64) (fun _ _ => rfl)) Zq5 (fun _ _ => rfl)))) ⟨fun _ _ _ _ _ _ => by
    have cnd : (inN ["_law_name", "_law_weight_here"] []).Nodup := by decide +kernel
    exact ⟨(Zq106 2 (by rfl) (Zq22 (qgLN 0 cnd) (Zq22 (qgLN 1 cnd) Zq69))), Zq90, (qvLN 0)⟩⟩ Zq104.nd Nq172 (by rfl) (i := 3))
 (Zq4 (Zq133 (locs := ["_law_name"]) (fr := [("_law_src_here", 0)]) ⟨rfl, by decide +kernel, by decide +kernel, by decide +kernel, by decide +kernel, by decide +kernel⟩ (.consN Nq108 .nil) rfl (Zq28 (qvN 3 Nq172)) ⟨fun _ _ _ _ _ _ => by
    have cnd : (inN ["_law_name"] [("_law_src_here", 0)]).Nodup := by decide +kernel
    exact ⟨(qgLN 0 cnd), (Zq158 (Zq15 qop_gt (Zq8 Zq9 (hr.mono (by omega)) nmC (Zq1 (qvFN 1) (Zq1 Zq5 Zq2))) Zq5 (Zq19 _))), (qvLN 0)⟩⟩ Zq104.nd Nq170 (by rfl) (i := 4))
 (Zq6 (Zq14 (Zq70 (Zq1 (qvN 2 Nq64) (Zq1 (Zq62 Zq43 (Zq8 Zq9 (hr.mono (by omega)) Nq171 (Zq1 (qvC 0 Nq108) (Zq1 Zq5 Zq2))) Zq5 (Zq19 _)) (Zq1 (qvN 4 Nq170) Zq2))))))))), ?_⟩
    have hz : (5000 : Nat) <= sizeLine := by decide
    have hul := hX.ul
    have hlen := hX.len
    refine ⟨_, rfl, _, rfl, l, us, rfl, .inl (SqL.of hX.at_), s, la, us.length, rfl, hsrc, by omega, by omega, fun d H1 d0 d1 hs1 sx1 => ?_⟩
    obtain ⟨c, rfl⟩ := Int.eq_ofNat_of_zero_le d0
    have hc : c < ss.length := by omega
    obtain ⟨t, ht⟩ : ∃ t, ss[c]? = some t := ⟨_, List.getElem?_eq_getElem hc⟩
    have hX1 := hX.x sx1
    obtain ⟨ta, u1, u2, u4, hu, hta, ⟨b1, v1, rfl, hb1, hr1⟩, ⟨b2, v2, rfl, hb2, hr2⟩, _⟩ := SuitsAt.get (l := l) (hX1.rep.mono' Zq163) ht
    have h60 := hX.sh t (List.mem_of_getElem? ht)
    have z1 := hr1.len
    have z2 := hr2.len
    have h60' := h60
    rw [List.length_append] at h60'
    refine ⟨_, rfl, _, rfl, l, us, c, .ref ta, rfl, rfl, SqL.of hX1.at_, Zq40 hu, ta, _, 0, .ref b1, rfl, rfl, SqT.of hta, rfl, _, rfl, _, rfl, l, us, c, .ref ta, rfl, rfl, SqL.of hX1.at_, Zq40 hu, ta, _, 1, .ref b2, rfl, rfl, SqT.of hta, rfl, ?_⟩
    refine ⟨b1, b2, v1, v2, rfl, rfl, hb1, hb2, by omega, fun q0 hq0 => ?_⟩
    refine ⟨q0, rfl, ⟨_, SqL.of Zq3⟩, ?_⟩
    have sq := Same.new (o := .lst (v1 ++ v2)) hq0
    refine comp_nms (sd := t.ones ++ t.others) Zq3 (RepS.mono (Same.t sq) (RepS.app hr2 hr1)) (by omega) fun q2 hq2 => ?_
    generalize (upd H1 q0 (.lst (v1 ++ v2))) = H2 at sq hq2 ⊢
    have hs2 := hs1.keep sq
    have nq2 : q2 ≠ s := (hs2.ne hq2).1
    have sq2 := Same.new (o := .lst (((t.ones ++ t.others).map (·.1)).map V.str)) hq2
    have kq2 : (upd H2 q2 (.lst (((t.ones ++ t.others).map (·.1)).map V.str))) q2 = some (.lst (((t.ones ++ t.others).map (·.1)).map V.str)) := Zq3
    generalize (upd H2 q2 (.lst (((t.ones ++ t.others).map (·.1)).map V.str))) = H3 at sq2 kq2 ⊢
    have hs3 := hs2.keep sq2
    have sx3 : SameX s H H3 := sx1.trans (sq.trans sq2).x
    refine ⟨_, rfl, q2, rfl, ⟨_, SqL.of kq2⟩, ?_⟩
    refine Zq61 (xs := ((t.ones ++ t.others).map (·.1)).map V.str) (fun i ys H2 => SrcAt H2 s la /\ SameX s H3 H2 /\ ∃ ns : List Str, ys = ns.map V.str /\ ns.length <= i) ⟨hs3, SameX.refl, [], rfl, Nat.le_refl _⟩ (by rw [List.length_map, List.length_map]; omega) (fun i ys H2 _ ⟨_, sx, _⟩ => SqL.of (sx _ _ nq2 kq2)) (fun i ys H' ⟨_, _, ns, e, h⟩ => by rw [e, List.length_map]; exact h) ?_ ?_
    · rintro i x' ys H2 hx' ⟨hs, sx, ns, rfl, hnl⟩ ls hls
      obtain ⟨w0, rfl⟩ := len1 hls
      rw [List.getElem?_map] at hx'
      obtain ⟨n, hn, rfl⟩ := Option.map_eq_some_iff.mp hx'
      refine ⟨⟨[_], rfl, rfl⟩, ?_⟩
      refine ⟨_, rfl, s, la, 3, rfl, hs, by decide, by decide, fun d H4 _ _ hs4 sx4 => ?_⟩
      refine ⟨_, _, rfl, rfl, _, rfl, iteD (fun _ => ?_) (fun _ => ?_)⟩
      · exact ⟨_, rfl, hs4, sx.trans sx4, ns ++ [n], by rw [List.map_append]; rfl, by rw [List.length_append]; show _ + 1 <= _; omega⟩
      · exact ⟨hs4, sx.trans sx4, ns, rfl, by omega⟩
    · rintro ys H4 ⟨hs4, sx4, ns, rfl, hnl⟩ q3 hq3
      rw [List.length_map, List.length_map] at hnl
      have nq3 : q3 ≠ s := (hs4.ne hq3).1
      have sq3 := Same.new (o := .lst (ns.map V.str)) hq3
      have kq3 : (upd H4 q3 (.lst (ns.map V.str))) q3 = some (.lst (ns.map V.str)) := Zq3
      generalize (upd H4 q3 (.lst (ns.map V.str))) = H5 at sq3 kq3 ⊢
      have hs5 := hs4.keep sq3
      refine ⟨_, rfl, _, rfl, s, la, 2, rfl, hs5, by decide, by decide, fun d6 H6 _ _ hs6 sx6 => ?_⟩
      refine ⟨rfl, ?_⟩
      generalize decide (V.int d6 = V.int 0) = wd
      refine ⟨_, rfl, by show 3 <= sizeLine; omega, fun ea hea => ?_⟩
      have ne : ea ≠ s := (hs6.ne hea).1
      have Se := Same.new (o := .tup [.int c, .bl wd, .ref q3]) hea
      have nin : ∀ {b : Addr}, b ≠ s -> b ≠ x -> b ∉ [s, x] := fun h1 h2 m => (List.mem_cons.mp m).elim h1 fun z => h2 (List.mem_singleton.mp z)
      have hx4 := sx4 _ _ nxs (sx3 _ _ nxs hx)
      have nex : ea ≠ x := fun z => by rw [z, sx6 _ _ nxs (sq3 _ _ hx4)] at hea; cases hea
      have nqx : q3 ≠ x := fun z => by rw [z, hx4] at hq3; cases hq3
      refine k (.ref ea) ⟨c, wd, ns⟩ _ (entI_mk (na := q3) (Zq47 (nin ne nex) Zq3) (Zq47 (nin nq3 nqx) (Se _ _ (sx6 _ _ nq3 kq3)))) (by show ns.length <= 60; omega) (hs6.keep Se) ?_
      exact ((sx3.trans sx4).trans (sq3.x.trans sx6)).trans Se.x
theorem cut_strs (ns : List Str) (lo hi : Option Int) : ∃ ms : List Str, cutV (ns.map V.str) lo hi = ms.map V.str /\ ms.length <= ns.length := by
  unfold cutV
  refine ⟨(ns.drop (HT.sIx ns.length 0 lo)).take (HT.sIx ns.length ns.length hi - HT.sIx ns.length 0 lo), ?_, ?_⟩
  · rw [List.map_take, List.map_drop, List.length_map]
  · rw [List.length_take, List.length_drop]; omega
end
section
variable {P : Program} {w : World} {K : PySem.W.Frag} {mg : Str -> Option Value} {base : Heap}
theorem cutS_to (ns : List Str) (j : Nat) (hj : j <= ns.length) : cutV (ns.map V.str) none (some (j : Int)) = (ns.take j).map V.str := by
  unfold cutV
  rw [HT.sIx_nat, HT.sIx_none, List.length_map, Nat.min_eq_left hj, List.drop_zero, Nat.sub_zero, List.map_take]
theorem cutS_from (ns : List Str) (j : Nat) (hj : j <= ns.length) : cutV (ns.map V.str) (some (j : Int)) none = (ns.drop j).map V.str := by
  unfold cutV
  rw [HT.sIx_nat, HT.sIx_none, List.length_map, Nat.min_eq_left hj, List.map_drop]
  exact List.take_of_length_le (by rw [List.length_drop, List.length_map]; omega)
theorem at4 {a b c d : Int} {j : Nat} (h : j < 4) : ∃ x : Int, atI [V.int a, V.int b, V.int c, V.int d] (j : Int) = some (.int x) := by
  rcases (by omega : j = 0 \/ j = 1 \/ j = 2 \/ j = 3) with rfl | rfl | rfl | rfl
  · exact ⟨a, rfl⟩
  · exact ⟨b, rfl⟩
  · exact ⟨c, rfl⟩
  · exact ⟨d, rfl⟩
def spBentE : Sp := fun vs H Q _ => ∃ (s la l : Addr) (us : List V) (ss : List Suit) (v : V) (e : EntI) (m : Nat) (x : Addr) (ox : HO), vs = [.ref s, .ref l, v] /\ SrcAt H s la /\ SuitsX H s l ss us /\ 0 < ss.length /\ x ≠ s /\ H x = some ox /\ Rep (off [s, x] H) (Zq44 e) v /\ e.ns.length <= 60 + m /\ m <= 100 /\
  ∀ (v' : V) (e' : EntI) (H' : Hp), Rep (off [s, x] H') (Zq44 e') v' -> e'.ns.length <= 61 + m -> SrcAt H' s la -> SameX s H H' -> Q v' H'
abbrev Zq25 : Stmt := top 53
theorem Zq45 : FnScope ["_law_src_here", "_law_suits_here", "_law_entry", "_law_case", "_law_stands", "_law_names_here", "_law_kind", "_law_swearers", "_law_at", "_law_odd"] ["_law_src_here", "_law_suits_here", "_law_entry"] (Zq0 Zq25) := ⟨rfl, rfl, rfl, by decide +kernel, rfl, by decide +kernel, by decide +kernel⟩
theorem Nq110 : Nm (Zq0 Zq25) "_law_at" .local := by decide +kernel
theorem Nq6 : Nm (Zq0 Zq25) "_law_case" .local := by decide +kernel
theorem Nq313 : Nm (Zq0 Zq25) "_law_entry" .local := by decide +kernel
theorem Nq23 : Nm (Zq0 Zq25) "_law_kind" .local := by decide +kernel
theorem Nq2 : Nm (Zq0 Zq25) "_law_names_here" .local := by decide +kernel
theorem Nq24 : Nm (Zq0 Zq25) "_law_next" .globalImplicit := by decide +kernel
theorem Nq173 : Nm (Zq0 Zq25) "_law_odd" .local := by decide +kernel
theorem Nq25 : Nm (Zq0 Zq25) "_law_src_here" .local := by decide +kernel
theorem Nq15 : Nm (Zq0 Zq25) "_law_stands" .local := by decide +kernel
theorem Nq36 : Nm (Zq0 Zq25) "_law_suits_here" .local := by decide +kernel
theorem Nq26 : Nm (Zq0 Zq25) "_law_swearers" .local := by decide +kernel
theorem Nq10 : Nm (Zq0 Zq25) "len" .globalImplicit := by decide +kernel
theorem Zq248 (Zq150 : Has K mg "_law_bent_entry" Zq25) (T : Txt mg) (Zq9 : Fn P w K mg base "_law_next" ["_law_src_here", "_law_base"] 1 Zq116) :
    Fn P w K mg base "_law_bent_entry" ["_law_src_here", "_law_suits_here", "_law_entry"] 2 spBentE := by
  refine Zq150.fnQ Zq45 (fun _ _ _ _ _ _ us hl => match us, hl with | [_, _, _], _ => rfl) (fun vs H Q E h => ?_) (fun f cdv A outer s H vs Q E hr h => ?_)
  · obtain ⟨s, la, l, us, ss, v, e, m, x, ox, rfl, _⟩ := h
    rfl
  · obtain ⟨s, la, l, us, ss, v, e, m, x, ox, rfl, hsrc, hX, hpos, nxs, hx, hrE, hnl, hm, k⟩ := h
    refine ⟨_, (Zq4 (Zq160 (qvN 2 Nq313) (qg_tup (by rfl) (Zq22 (Zq27 (i := 3) Zq45.nd Nq6) (Zq22 (Zq27 (i := 4) Zq45.nd Nq15) (Zq22 (Zq27 (i := 5) Zq45.nd Nq2) Zq69)))))
 (Zq4 (Zq12 (i := 6) Zq45.nd Nq23 (Zq8 Zq9 (hr.mono (by omega)) Nq24 (Zq1 (qvN 0 Nq25) (Zq1 Zq5 Zq2))))
 (Zq4 (Zq12 (i := 7) Zq45.nd Nq26 (Zq83 (Zq1 qe_str Zq2)))
 (Zq4 (Zq23 (QW.pt (qw_and (Zq15 qop_le Zq5 (qvN 3 Nq6) (Zq19 _)) (qw_and1 (Zq15 Zq181 (qvN 3 Nq6) (Zq11 Zq13 Nq10 T.len Zq39 (Zq1 (qvN 1 Nq36) Zq2)) (Zq19 _))))) (Zq6 (Zq12 (i := 7) Zq45.nd Nq26 (Zq18 Zq89 (qvN 7 Nq26) (Zq92 (locs := ["_law_name", "_law_weight_here"]) (fr := []) ⟨rfl, by decide +kernel, by decide +kernel, by decide +kernel, by decide +kernel, by decide +kernel⟩ .nil rfl (Zq28 (Zq18 Zq89 (Zq10 Zq17 (Zq10 Zq21 (qvN 1 Nq36) (qvN 3 Nq6) (fun _ _ => rfl)) Zq5 (fun _ _ => rfl)) (Zq10 Zq17 (Zq10 Zq21 (qvN 1 Nq36) (qvN 3 Nq6) (fun _ _ => rfl)) Zq5 (fun _ _ => rfl)))) ⟨fun _ _ _ _ _ _ => by
    have cnd : (inN ["_law_name", "_law_weight_here"] []).Nodup := by decide +kernel
    exact ⟨(Zq106 2 (by rfl) (Zq22 (qgLN 0 cnd) (Zq22 (qgLN 1 cnd) Zq69))), Zq90, (qvLN 0)⟩⟩)))) Zq20)
 (Zq4 (Zq23 (Zq15 Zq43 (qvN 6 Nq23) Zq5 (Zq19 _)) (Zq6 (Zq14 (Zq70 (Zq1 (qvN 3 Nq6) (Zq1 (qe_not (qvN 4 Nq15)) (Zq1 (qvN 5 Nq2) Zq2)))))) Zq20)
 (Zq4 (Zq23 (QW.pt (qw_and (Zq15 Zq43 (qvN 6 Nq23) Zq5 (Zq19 _)) (qw_and1 (Zq15 qop_gt (Zq11 Zq13 Nq10 T.len Zq39 (Zq1 (qvN 5 Nq2) Zq2)) Zq5 (Zq19 _))))) (Zq4 (Zq12 (i := 8) Zq45.nd Nq110 (Zq8 Zq9 (hr.mono (by omega)) Nq24 (Zq1 (qvN 0 Nq25) (Zq1 (Zq11 Zq13 Nq10 T.len Zq39 (Zq1 (qvN 5 Nq2) Zq2)) Zq2))))
 (Zq6 (Zq14 (Zq70 (Zq1 (qvN 3 Nq6) (Zq1 (qvN 4 Nq15) (Zq1 (Zq18 Zq89 (Zq60 Zq91 (qvN 5 Nq2) Zq81 (Zq82 (qvN 8 Nq110))) (Zq60 Zq91 (qvN 5 Nq2) (Zq82 (Zq18 Zq32 (qvN 8 Nq110) Zq5)) Zq81)) Zq2))))))) Zq20)
 (Zq4 (Zq23 (QW.pt (qw_and (Zq15 Zq43 (qvN 6 Nq23) Zq5 (Zq19 _)) (qw_and1 (Zq15 qop_gt (Zq11 Zq13 Nq10 T.len Zq39 (Zq1 (qvN 5 Nq2) Zq2)) Zq5 (Zq19 _))))) (Zq6 (Zq14 (Zq70 (Zq1 (qvN 3 Nq6) (Zq1 (qvN 4 Nq15) (Zq1 (Zq18 Zq89 (qvN 5 Nq2) (Zq83 (Zq1 (Zq10 Zq21 (qvN 5 Nq2) (Zq8 Zq9 (hr.mono (by omega)) Nq24 (Zq1 (qvN 0 Nq25) (Zq1 (Zq11 Zq13 Nq10 T.len Zq39 (Zq1 (qvN 5 Nq2) Zq2)) Zq2))) (fun _ _ => rfl)) Zq2))) Zq2)))))) Zq20)
 (Zq4 (Zq23 (Zq15 Zq43 (qvN 6 Nq23) Zq5 (Zq19 _)) (Zq4 (Zq12 (i := 9) Zq45.nd Nq173 (Zq83 (Zq1 (Zq18 Zq105 (Zq8 Zq9 (hr.mono (by omega)) Nq24 (Zq1 (qvN 0 Nq25) (Zq1 (Zq18 Zq32 (Zq11 Zq13 Nq10 T.len Zq39 (Zq1 (qvN 1 Nq36) Zq2)) Zq5) Zq2))) Zq5) (Zq1 (Zq18 Zq105 (Zq11 Zq13 Nq10 T.len Zq39 (Zq1 (qvN 1 Nq36) Zq2)) Zq5) (Zq1 (Zq18 qop_pow Zq5 Zq5) (Zq1 (qe_un qop_neg (Zq18 qop_pow Zq5 Zq5)) Zq2))))))
 (Zq6 (Zq14 (Zq70 (Zq1 (Zq10 Zq21 (qvN 9 Nq173) (Zq8 Zq9 (hr.mono (by omega)) Nq24 (Zq1 (qvN 0 Nq25) (Zq1 Zq5 Zq2))) (fun _ _ => rfl)) (Zq1 (qvN 4 Nq15) (Zq1 (qvN 5 Nq2) Zq2))))))) Zq20)
 (Zq4 (Zq23 (Zq15 Zq43 (qvN 6 Nq23) Zq5 (Zq19 _)) (Zq6 (Zq14 (Zq70 (Zq1 (qvN 3 Nq6) (Zq1 (qvN 4 Nq15) (Zq1 (Zq60 Zq91 (qvN 7 Nq26) (Zq82 Zq5) Zq81) Zq2)))))) Zq20)
 (Zq6 (Zq14 (Zq70 (Zq1 (qvN 3 Nq6) (Zq1 (qvN 4 Nq15) (Zq1 (Zq18 Zq89 (Zq83 (Zq1 (Zq10 Zq21 (qvN 7 Nq26) (Zq8 Zq9 (hr.mono (by omega)) Nq24 (Zq1 (qvN 0 Nq25) (Zq1 (Zq11 Zq13 Nq10 T.len Zq39 (Zq1 (qvN 7 Nq26) Zq2)) Zq2))) (fun _ _ => rfl)) Zq2)) (qvN 5 Nq2)) Zq2))))))))))))))), ?_⟩
    have hz : (5000 : Nat) <= sizeLine := by decide
    have hul := hX.ul
    have hlen := hX.len
    obtain ⟨ea, na, rfl, hea, hna⟩ := Zq157 hrE
    obtain ⟨nea, hea⟩ := off_of hea
    obtain ⟨nna, hna⟩ := off_of hna
    have nnx : na ≠ x := fun z => nna (by rw [z]; exact List.mem_cons_of_mem _ (List.mem_singleton.mpr rfl))
    have nna : na ≠ s := fun z => nna (by rw [z]; exact List.mem_cons_self)
    have nin : ∀ {b : Addr}, b ≠ s -> b ≠ x -> b ∉ [s, x] := fun h1 h2 m => (List.mem_cons.mp m).elim h1 fun z => h2 (List.mem_singleton.mp z)
    have fresh : ∀ {H' : Hp} {b : Addr}, SameX s H H' -> H' b = none -> b ≠ x := fun sx h z => by rw [z, sx _ _ nxs hx] at h; cases h
    have fin : ∀ {H' : Hp} {c' : Int} {st' : Bool} {na' : Addr} {ns' : List Str} {ea' : Addr}, SrcAt H' s la -> SameX s H H' -> H' na' = some (.lst (ns'.map V.str)) -> na' ≠ s -> na' ≠ x -> ns'.length <= 61 + m -> H' ea' = none -> Q (.ref ea') (upd H' ea' (.tup [.int c', .bl st', .ref na'])) := by
      intro H' c' st' na' ns' ea' hs sx h1 h2 hx2 h3 h4
      have Se := Same.new (o := .tup [.int c', .bl st', .ref na']) h4
      exact k (.ref ea') ⟨c', st', ns'⟩ _ (entI_mk (na := na') (Zq47 (nin (hs.ne h4).1 (fresh sx h4)) Zq3) (Zq47 (nin h2 hx2) (Se _ _ h1))) h3 (hs.keep Se) (sx.trans Se.x)
    refine ⟨_, rfl, ea, _, rfl, SqT.of hea, rfl, _, _, rfl, _, _, rfl, _, _, rfl, rfl, ?_⟩
    refine ⟨_, rfl, s, la, 6, rfl, hsrc, by decide, by decide, fun kd H1 _ _ hs1 sx1 => ?_⟩
    refine ⟨by show 1 <= sizeLine; omega, fun w0 hw0 => ?_⟩
    have S0 := Same.new (o := .lst [.str "stranger"]) hw0
    have k0 : (upd H1 w0 (.lst [.str "stranger"])) w0 = some (.lst [.str "stranger"]) := Zq3
    have nw0 : w0 ≠ s := (hs1.ne hw0).1
    generalize (upd H1 w0 (.lst [.str "stranger"])) = H2 at S0 k0 ⊢
    have hs2 := hs1.keep S0
    have sx2 : SameX s H H2 := sx1.trans S0.x
    have hX2 := hX.x sx2
    refine gset ?_
    dsimp only [Zq231]
    refine Zq170 (fun σ H' => ∃ (w0 : Addr) (sw : List Str), σ = [some (.ref s), some (.ref l), some (.ref ea), some (.int e.c), some (.bl e.st), some (.ref na), some (.int kd), some (.ref w0), none, none] /\ H' w0 = some (.lst (sw.map V.str)) /\ 1 <= sw.length /\ sw.length <= 61 /\ w0 ≠ s /\ SrcAt H' s la /\ SameX s H H') ?_ ?_
    · rintro σ H3 ⟨w1, sw, rfl, hw1, hsw0, hsw1, nw1, hs3, sx3⟩
      have hna3 := sx3 _ _ nna hna
      have hX3 := hX.x sx3
      refine ⟨_, rfl, rfl, _, rfl, iteD (fun _ => ?_) (fun _ => ?_)⟩
      · refine ⟨_, rfl, _, rfl, e.st, rfl, _, rfl, by show 3 <= sizeLine; omega, fun e2 he2 => ?_⟩
        exact fin hs3 sx3 hna3 nna nnx (by omega) he2
      let R : St -> Hp -> Prop := fun σ H' => σ = [some (.ref s), some (.ref l), some (.ref ea), some (.int e.c), some (.bl e.st), some (.ref na), some (.int kd), some (.ref w1), none, none] /\ H' = H3
      have hnV : (e.ns.map V.str).length = e.ns.length := List.length_map _
      dsimp only [Zq231]
      refine Zq170 R ?_ ?_
      rotate_left
      · intro D' hn hrt _ _
        refine ⟨_, rfl, rfl, _, rfl, iteD (fun _ => ?_) (fun _ => iteF (hn _ _ ⟨rfl, rfl⟩))⟩
        refine ⟨_, rfl, na, _, rfl, .inl (SqL.of hna3), _, _, rfl, rfl, _, rfl, iteD (fun hp => ?_) (fun _ => hn _ _ ⟨rfl, rfl⟩)⟩
        have hp' : 0 < e.ns.length := by omega
        refine ⟨_, rfl, _, rfl, na, _, rfl, .inl (SqL.of hna3), s, la, _, rfl, hs3, by omega, by omega, fun at_ H4 at0 at1 hs4 sx4 => ?_⟩
        have hna4 := sx4 _ _ nna hna3
        obtain ⟨j, rfl⟩ := Int.eq_ofNat_of_zero_le at0
        refine ⟨_, rfl, _, rfl, _, rfl, _, rfl, (j : Int), rfl, na, _, rfl, SqL.of hna4, fun p1 hp1 => ?_⟩
        rw [cutS_to e.ns j (by omega)]
        have Sp1 := Same.new (o := .lst ((e.ns.take j).map V.str)) hp1
        have kp1 : (upd H4 p1 (.lst ((e.ns.take j).map V.str))) p1 = some (.lst ((e.ns.take j).map V.str)) := Zq3
        generalize (upd H4 p1 (.lst ((e.ns.take j).map V.str))) = H5 at Sp1 kp1 ⊢
        refine ⟨_, rfl, _, rfl, _, _, rfl, rfl, ((j + 1 : Nat) : Int), rfl, na, _, rfl, SqL.of (Sp1 _ _ hna4), fun p2 hp2 => ?_⟩
        rw [cutS_from e.ns (j + 1) (by omega)]
        have Sp2 := Same.new (o := .lst ((e.ns.drop (j + 1)).map V.str)) hp2
        have kp2 : (upd H5 p2 (.lst ((e.ns.drop (j + 1)).map V.str))) p2 = some (.lst ((e.ns.drop (j + 1)).map V.str)) := Zq3
        generalize (upd H5 p2 (.lst ((e.ns.drop (j + 1)).map V.str))) = H6 at Sp2 kp2 ⊢
        have hs6 := (hs4.keep Sp1).keep Sp2
        refine ⟨p1, p2, _, _, rfl, rfl, Sp2 _ _ kp1, kp2, by rw [List.length_map, List.length_map, List.length_take, List.length_drop]; omega, fun p3 hp3 => ?_⟩
        have Sp3 := Same.new (o := .lst ((e.ns.take j).map V.str ++ (e.ns.drop (j + 1)).map V.str)) hp3
        have kp3 : (upd H6 p3 (.lst ((e.ns.take j).map V.str ++ (e.ns.drop (j + 1)).map V.str))) p3 = some (.lst ((e.ns.take j ++ e.ns.drop (j + 1)).map V.str)) := by rw [Zq3, List.map_append]
        have np3 : p3 ≠ s := (hs6.ne hp3).1
        generalize (upd H6 p3 (.lst ((e.ns.take j).map V.str ++ (e.ns.drop (j + 1)).map V.str))) = H7 at Sp3 kp3 ⊢
        exact ⟨by show 3 <= sizeLine; omega, fun e4 he4 => hrt _ _ (fin (hs6.keep Sp3) ((sx3.trans sx4).trans ((Sp1.trans Sp2).trans Sp3).x) kp3 np3 (fresh ((sx3.trans sx4).trans (Sp1.trans Sp2).x) hp3) (by rw [List.length_append, List.length_take, List.length_drop]; omega) he4)⟩
      rintro σ H' ⟨rfl, rfl⟩
      refine Zq170 R ?_ ?_
      rotate_left
      · intro D' hn hrt _ _
        refine ⟨_, rfl, rfl, _, rfl, iteD (fun _ => ?_) (fun _ => iteF (hn _ _ ⟨rfl, rfl⟩))⟩
        refine ⟨_, rfl, na, _, rfl, .inl (SqL.of hna3), _, _, rfl, rfl, _, rfl, iteD (fun hp => ?_) (fun _ => hn _ _ ⟨rfl, rfl⟩)⟩
        have hp' : 0 < e.ns.length := by omega
        refine ⟨_, rfl, _, rfl, _, rfl, _, rfl, _, rfl, _, rfl, na, _, rfl, .inl (SqL.of hna3), s, la, _, rfl, hs3, by omega, by omega, fun at_ H4 at0 at1 hs4 sx4 => ?_⟩
        obtain ⟨j, rfl⟩ := Int.eq_ofNat_of_zero_le at0
        have hna4 := sx4 _ _ nna hna3
        obtain ⟨n, hn'⟩ : ∃ n, e.ns[j]? = some n := ⟨_, List.getElem?_eq_getElem (by omega)⟩
        refine ⟨na, _, j, .str n, rfl, rfl, SqL.of hna4, Zq40 (by rw [List.getElem?_map, hn']; rfl), by show 1 <= sizeLine; omega, fun p1 hp1 => ?_⟩
        have Sp1 := Same.new (o := .lst [.str n]) hp1
        have kp1 : (upd H4 p1 (.lst [.str n])) p1 = some (.lst [.str n]) := Zq3
        generalize (upd H4 p1 (.lst [.str n])) = H5 at Sp1 kp1 ⊢
        have hs5 := hs4.keep Sp1
        refine ⟨na, p1, _, _, rfl, rfl, Sp1 _ _ hna4, kp1, by show _ + 1 <= sizeLine; omega, fun p3 hp3 => ?_⟩
        have Sp3 := Same.new (o := .lst (e.ns.map V.str ++ [.str n])) hp3
        have kp3 : (upd H5 p3 (.lst (e.ns.map V.str ++ [.str n]))) p3 = some (.lst ((e.ns ++ [n]).map V.str)) := by rw [Zq3, List.map_append]; rfl
        have np3 : p3 ≠ s := (hs5.ne hp3).1
        generalize (upd H5 p3 (.lst (e.ns.map V.str ++ [.str n]))) = H7 at Sp3 kp3 ⊢
        exact ⟨by show 3 <= sizeLine; omega, fun e4 he4 => hrt _ _ (fin (hs5.keep Sp3) ((sx3.trans sx4).trans (Sp1.trans Sp3).x) kp3 np3 (fresh ((sx3.trans sx4).trans Sp1.x) hp3) (by rw [List.length_append]; show _ + 1 <= _; omega) he4)⟩
      rintro σ H' ⟨rfl, rfl⟩
      refine ⟨_, rfl, rfl, _, rfl, iteD (fun _ => ?_) (fun _ => ?_)⟩
      · refine ⟨_, rfl, _, rfl, l, us, rfl, .inl (SqL.of hX3.at_), _, _, rfl, rfl, s, la, _, rfl, hs3, by omega, by omega, fun d H4 d0 d1 hs4 sx4 => ?_⟩
        refine ⟨_, _, rfl, rfl, _, rfl, l, us, rfl, .inl (SqL.of ((hX3.x sx4).at_)), _, _, rfl, rfl, _, _, rfl, rfl, by unfold CPow; decide, _, _, rfl, rfl, by unfold CPow; decide, _, rfl, by show 4 <= sizeLine; omega, fun p1 hp1 => ?_⟩
        have np1 : p1 ≠ s := (hs4.ne hp1).1
        refine ⟨_, rfl, _, rfl, s, la, 4, rfl, hs4.keep (Same.new hp1), by decide, by decide, fun d2 H6 d20 d21 hs6 sx6 => ?_⟩
        have hp6 := sx6 p1 _ np1 Zq3
        have sx06 : SameX s H H6 := (sx3.trans sx4).trans ((Same.new hp1).x.trans sx6)
        have hna6 := sx06 _ _ nna hna
        obtain ⟨j, rfl⟩ := Int.eq_ofNat_of_zero_le d20
        obtain ⟨x4, hx4⟩ := at4 (a := d - 1) (b := (us.length : Int) - 1) (c := 10 ^ (17 : Int).toNat) (d := -(10 ^ (17 : Int).toNat)) (j := j) (by omega)
        exact ⟨p1, _, _, .int x4, rfl, rfl, SqL.of hp6, hx4, _, rfl, _, rfl, by show 3 <= sizeLine; omega, fun e4 he4 => fin hs6 sx06 hna6 nna nnx (by omega) he4⟩
      refine ⟨_, rfl, rfl, _, rfl, iteD (fun _ => ?_) (fun _ => ?_)⟩
      · refine ⟨_, rfl, _, rfl, _, rfl, 1, rfl, w1, _, rfl, SqL.of hw1, fun p1 hp1 => ?_⟩
        obtain ⟨m1, e1, l1⟩ := cut_strs sw (some 1) none
        rw [e1]
        have Sp1 := Same.new (o := .lst (m1.map V.str)) hp1
        have kp1 : (upd H' p1 (.lst (m1.map V.str))) p1 = some (.lst (m1.map V.str)) := Zq3
        have np1 : p1 ≠ s := (hs3.ne hp1).1
        generalize (upd H' p1 (.lst (m1.map V.str))) = H5 at Sp1 kp1 ⊢
        exact ⟨by show 3 <= sizeLine; omega, fun e4 he4 => fin (hs3.keep Sp1) (sx3.trans Sp1.x) kp1 np1 (fresh sx3 hp1) (by omega) he4⟩
      refine ⟨_, rfl, _, rfl, _, rfl, _, rfl, _, rfl, w1, _, rfl, .inl (SqL.of hw1), s, la, _, rfl, hs3, by rw [List.length_map]; omega, by rw [List.length_map]; omega, fun at_ H4 at0 at1 hs4 sx4 => ?_⟩
      obtain ⟨j, rfl⟩ := Int.eq_ofNat_of_zero_le at0
      have hna4 := sx4 _ _ nna hna3
      rw [List.length_map] at at1
      obtain ⟨n, hn'⟩ : ∃ n, sw[j]? = some n := ⟨_, List.getElem?_eq_getElem (by omega)⟩
      refine ⟨w1, _, j, .str n, rfl, rfl, SqL.of (sx4 _ _ nw1 hw1), Zq40 (by rw [List.getElem?_map, hn']; rfl), by show 1 <= sizeLine; omega, fun p1 hp1 => ?_⟩
      have Sp1 := Same.new (o := .lst [.str n]) hp1
      have kp1 : (upd H4 p1 (.lst [.str n])) p1 = some (.lst [.str n]) := Zq3
      generalize (upd H4 p1 (.lst [.str n])) = H5 at Sp1 kp1 ⊢
      have hs5 := hs4.keep Sp1
      refine ⟨_, rfl, p1, na, _, _, rfl, rfl, kp1, Sp1 _ _ hna4, by show 1 + _ <= sizeLine; omega, fun p3 hp3 => ?_⟩
      have Sp3 := Same.new (o := .lst ([.str n] ++ e.ns.map V.str)) hp3
      have kp3 : (upd H5 p3 (.lst ([.str n] ++ e.ns.map V.str))) p3 = some (.lst ((n :: e.ns).map V.str)) := by rw [Zq3]; rfl
      have np3 : p3 ≠ s := (hs5.ne hp3).1
      generalize (upd H5 p3 (.lst ([.str n] ++ e.ns.map V.str))) = H7 at Sp3 kp3 ⊢
      exact ⟨by show 3 <= sizeLine; omega, fun e4 he4 => fin (hs5.keep Sp3) ((sx3.trans sx4).trans (Sp1.trans Sp3).x) kp3 np3 (fresh ((sx3.trans sx4).trans Sp1.x) hp3) (by rw [List.length_cons]; omega) he4⟩
    · intro D' hn _ _ _
      refine ⟨_, rfl, _, _, rfl, rfl, _, rfl, iteD (fun h0 => ?_) (fun h0 => iteF (hn _ _ ⟨w0, ["stranger"], rfl, k0, Nat.le_refl _, by decide, nw0, hs2, sx2⟩))⟩
      refine ⟨_, rfl, _, rfl, l, us, rfl, .inl (SqL.of hX2.at_), _, _, rfl, rfl, _, rfl, iteD (fun h1 => ?_) (fun h1 => hn _ _ ⟨w0, ["stranger"], rfl, k0, Nat.le_refl _, by decide, nw0, hs2, sx2⟩)⟩
      have hc : e.c.toNat < ss.length := by omega
      have ecc : e.c = ((e.c.toNat : Nat) : Int) := by omega
      obtain ⟨t, ht⟩ : ∃ t, ss[e.c.toNat]? = some t := ⟨_, List.getElem?_eq_getElem hc⟩
      obtain ⟨ta, u1, u2, u4, hu, hta, ⟨b1, v1, rfl, hb1, hr1⟩, ⟨b2, v2, rfl, hb2, hr2⟩, _⟩ := SuitsAt.get (l := l) (hX2.rep.mono' Zq163) ht
      have h60 := hX.sh t (List.mem_of_getElem? ht)
      have z1 := hr1.len
      have z2 := hr2.len
      have h60' := h60
      rw [List.length_append] at h60'
      have hat : atI us e.c = some (.ref ta) := by rw [ecc]; exact Zq40 hu
      refine ⟨_, rfl, _, rfl, _, rfl, l, us, e.c, .ref ta, rfl, rfl, SqL.of hX2.at_, hat, ta, _, 0, .ref b1, rfl, rfl, SqT.of hta, rfl, _, rfl, _, rfl, l, us, e.c, .ref ta, rfl, rfl, SqL.of hX2.at_, hat, ta, _, 1, .ref b2, rfl, rfl, SqT.of hta, rfl, ?_⟩
      refine ⟨b1, b2, v1, v2, rfl, rfl, hb1, hb2, by omega, fun q0 hq0 => ?_⟩
      refine ⟨q0, rfl, ⟨_, SqL.of Zq3⟩, ?_⟩
      have sq := Same.new (o := .lst (v1 ++ v2)) hq0
      refine comp_nms (sd := t.ones ++ t.others) Zq3 (RepS.mono (Same.t sq) (RepS.app hr2 hr1)) (by omega) fun q2 hq2 => ?_
      generalize (upd H2 q0 (.lst (v1 ++ v2))) = H3 at sq hq2 ⊢
      have sq2 := Same.new (o := .lst (((t.ones ++ t.others).map (·.1)).map V.str)) hq2
      have kq2 : (upd H3 q2 (.lst (((t.ones ++ t.others).map (·.1)).map V.str))) q2 = some (.lst (((t.ones ++ t.others).map (·.1)).map V.str)) := Zq3
      generalize (upd H3 q2 (.lst (((t.ones ++ t.others).map (·.1)).map V.str))) = H4 at sq2 kq2 ⊢
      have hs4 := (hs2.keep sq).keep sq2
      refine ⟨w0, q2, _, _, rfl, rfl, sq2 _ _ (sq _ _ k0), kq2, by rw [List.length_map, List.length_map]; show 1 + _ <= sizeLine; omega, fun q3 hq3 => ?_⟩
      have sq3 := Same.new (o := .lst ([.str "stranger"] ++ ((t.ones ++ t.others).map (·.1)).map V.str)) hq3
      exact hn _ _ ⟨q3, "stranger" :: (t.ones ++ t.others).map (·.1), rfl, by rw [Zq3]; rfl, by rw [List.length_cons]; omega, by rw [List.length_cons, List.length_map]; omega, (hs4.ne hq3).1, hs4.keep sq3, sx2.trans ((sq.trans sq2).trans sq3).x⟩
end
section
variable {P : Program} {w : World} {K : PySem.W.Frag} {mg : Str -> Option Value} {base : Heap}
theorem RepL.cons' {H : Hp} {d : D} {v : V} {ds : List D} {vs : List V} (h : Rep H d v) (h2 : RepL H ds vs) : RepL H (d :: ds) (v :: vs) := ⟨v, vs, rfl, h, h2⟩
theorem RepL.tk {H : Hp} : ∀ {ds : List D} {vs : List V} (j : Nat), RepL H ds vs -> RepL H (ds.take j) (vs.take j)
  | [], vs, j, h => by cases h; rw [List.take_nil, List.take_nil]; rfl
  | d :: ds, vs, 0, h => rfl
  | d :: ds, vs, j + 1, ⟨v, r, e, h1, h2⟩ => by rw [e]; exact ⟨v, r.take j, rfl, h1, RepL.tk j h2⟩
theorem RepL.dr {H : Hp} : ∀ {ds : List D} {vs : List V} (j : Nat), RepL H ds vs -> RepL H (ds.drop j) (vs.drop j)
  | [], vs, j, h => by cases h; rw [List.drop_nil, List.drop_nil]; rfl
  | d :: ds, vs, 0, h => h
  | d :: ds, vs, j + 1, ⟨v, r, e, h1, h2⟩ => by rw [e]; exact RepL.dr j h2
theorem RepL.ap {H : Hp} {es : List D} {ws : List V} (h2 : RepL H es ws) : ∀ {ds : List D} {vs : List V}, RepL H ds vs -> RepL H (ds ++ es) (vs ++ ws)
  | [], vs, h => by cases h; exact h2
  | d :: ds, vs, ⟨v, r, e, h1, h3⟩ => by rw [e]; exact ⟨v, r ++ ws, rfl, h1, RepL.ap h2 h3⟩
theorem RepL.st {H : Hp} {d' : D} {v' : V} (hd : Rep H d' v') : ∀ {ds : List D} {vs : List V} (j : Nat), RepL H ds vs -> RepL H (ds.set j d') (vs.set j v')
  | [], vs, j, h => by cases h; rw [List.set_nil, List.set_nil]; rfl
  | d :: ds, vs, 0, ⟨v, r, e, h1, h2⟩ => by rw [e]; exact ⟨v', r, rfl, hd, h2⟩
  | d :: ds, vs, j + 1, ⟨v, r, e, h1, h2⟩ => by rw [e]; exact ⟨v, r.set j v', rfl, h1, RepL.st hd j h2⟩
def spCopied : Sp := fun vs H Q _ => ∃ (le : Addr) (us : List V) (es : List EntI), vs = [.ref le] /\ H le = some (.lst us) /\ RepL H (es.map Zq44) us /\ es.length <= 1000 /\
  ∀ (lc : Addr) (ws : List V) (H' : Hp), H lc = none -> H' lc = some (.lst ws) -> RepL H' (es.map Zq44) ws -> Same H H' -> Q (.ref lc) H'
abbrev Zq169 : Stmt := top 56
theorem Zq269 : FnScope ["_law_entries"] ["_law_entries"] (Zq0 Zq169) := ⟨rfl, rfl, rfl, by decide +kernel, rfl, by decide +kernel, by decide +kernel⟩
theorem Nq314 : Nm (Zq0 Zq169) "_law_entries" .local := by decide +kernel
theorem Zq279 (Zq190 : Has K mg "_law_copied" Zq169) (T : Txt mg) : Fn P w K mg base "_law_copied" ["_law_entries"] 1 spCopied := by
  refine Zq190.fnQ Zq269 (fun _ _ _ _ _ _ us hl => match us, hl with | [_], _ => rfl) (fun vs H Q E h => ?_) (fun f cdv A outer s H vs Q E hr h => ?_)
  · obtain ⟨le, us, es, rfl, _⟩ := h
    rfl
  · obtain ⟨le, us, es, rfl, hle, hrep, hlen, k⟩ := h
    refine ⟨_, (Zq6 (Zq14 (Zq92 (locs := ["_law_case", "_law_stands", "_law_names_here"]) (fr := []) ⟨rfl, by decide +kernel, by decide +kernel, by decide +kernel, by decide +kernel, by decide +kernel⟩ .nil rfl (Zq28 (qvN 0 Nq314)) ⟨fun _ _ _ _ _ _ => by
    have cnd : (inN ["_law_case", "_law_stands", "_law_names_here"] []).Nodup := by decide +kernel
    exact ⟨(Zq106 3 (by rfl) (Zq22 (qgLN 0 cnd) (Zq22 (qgLN 1 cnd) (Zq22 (qgLN 2 cnd) Zq69)))), Zq90, (Zq70 (Zq1 (qvLN 0) (Zq1 (qvLN 1) (Zq1 (qe_callTyN qcall_list_ofC nmC T.list Zq176 (Zq1 (qvLN 2) Zq2)) Zq2))))⟩⟩))), ?_⟩
    have hz : (5000 : Nat) <= sizeLine := by decide
    have hul : us.length = es.length := by have := hrep.length; rw [List.length_map] at this; exact this
    refine ⟨_, rfl, le, rfl, ⟨_, SqL.of hle⟩, ?_⟩
    refine Zq61 (xs := us) (fun i ys H' => Same H H' /\ RepL H' ((es.take i).map Zq44) ys) ⟨Same.refl _, rfl⟩ (by omega) (fun i ys H' _ ⟨e, _⟩ => SqL.of (e _ _ hle)) (fun i ys H' ⟨_, h⟩ => by have := h.length; rw [List.length_map, List.length_take] at this; omega) ?_ ?_
    · rintro i x ys H' hx ⟨sm, hys⟩ ls hls
      obtain ⟨w1, w2, w3, rfl⟩ := len3 hls
      obtain ⟨e, he, hre⟩ := Zq143 (hrep.mono' sm) hx
      obtain ⟨ea, na, rfl, hea, hna⟩ := Zq157 hre
      refine ⟨ea, _, rfl, SqT.of hea, rfl, _, _, rfl, _, _, rfl, _, _, rfl, rfl, ⟨[_, _, _], rfl, rfl⟩, iteT ?_⟩
      refine ⟨_, rfl, _, rfl, _, rfl, na, _, rfl, .inl (SqL.of hna), fun q hq => ?_⟩
      have Sq := Same.new (o := .lst (e.ns.map V.str)) hq
      have kq : (upd H' q (.lst (e.ns.map V.str))) q = some (.lst (e.ns.map V.str)) := Zq3
      generalize (upd H' q (.lst (e.ns.map V.str))) = H1 at Sq kq ⊢
      refine ⟨by show 3 <= sizeLine; omega, fun e2 he2 => ?_⟩
      have Se := Same.new (o := .tup [.int e.c, .bl e.st, .ref q]) he2
      refine ⟨(sm.trans Sq).trans Se, ?_⟩
      rw [List.take_add_one, he, List.map_append]
      exact RepL.snoc (entI_mk Zq3 (Se _ _ kq)) ((hys.mono' Sq).mono' Se)
    · rintro ys H' ⟨sm, hys⟩ lc hlc
      rw [hul, List.take_length] at hys
      have Sl := Same.new (o := .lst ys) hlc
      exact k lc ys _ (sm.free hlc) Zq3 (hys.mono' Sl) (sm.trans Sl)
def spBent : Sp := fun vs H Q _ => ∃ (s la l le : Addr) (us ves : List V) (ss : List Suit) (es : List EntI), vs = [.ref s, .ref l, .ref le] /\ SrcAt H s la /\ SuitsX H s l ss us /\ 0 < ss.length /\ H le = some (.lst ves) /\ RepL H (es.map Zq44) ves /\ es.length <= 20 /\ (∀ e ∈ es, e.ns.length <= 60) /\
  ∀ (en : Addr) (ws : List V) (es' : List EntI) (H' : Hp), en ≠ s -> H en = none -> H' en = some (.lst ws) -> RepL (off [s, en] H') (es'.map Zq44) ws -> es'.length <= 30 -> SrcAt H' s la -> SameX s H H' -> Q (.ref en) H'
abbrev Zq54 : Stmt := top 55
theorem Zq102 : FnScope ["_law_src_here", "_law_suits_here", "_law_entries", "_law_k", "_law_kind", "_law_at"] ["_law_src_here", "_law_suits_here", "_law_entries"] (Zq0 Zq54) := ⟨rfl, rfl, rfl, by decide +kernel, rfl, by decide +kernel, by decide +kernel⟩
theorem Nq16 : Nm (Zq0 Zq54) "_law_at" .local := by decide +kernel
theorem Nq315 : Nm (Zq0 Zq54) "_law_bent_entry" .globalImplicit := by decide +kernel
theorem Nq316 : Nm (Zq0 Zq54) "_law_drawn_entry" .globalImplicit := by decide +kernel
theorem Nq1 : Nm (Zq0 Zq54) "_law_entries" .local := by decide +kernel
theorem Nq317 : Nm (Zq0 Zq54) "_law_k" .local := by decide +kernel
theorem Nq65 : Nm (Zq0 Zq54) "_law_kind" .local := by decide +kernel
theorem Nq111 : Nm (Zq0 Zq54) "_law_next" .globalImplicit := by decide +kernel
theorem Nq37 : Nm (Zq0 Zq54) "_law_src_here" .local := by decide +kernel
theorem Nq174 : Nm (Zq0 Zq54) "_law_suits_here" .local := by decide +kernel
theorem Nq175 : Nm (Zq0 Zq54) "len" .globalImplicit := by decide +kernel
theorem Nq318 : Nm (Zq0 Zq54) "range" .globalImplicit := by decide +kernel
theorem Zq314 (Zq228 : Has K mg "_law_bent" Zq54) (T : Txt mg) (Zq9 : Fn P w K mg base "_law_next" ["_law_src_here", "_law_base"] 1 Zq116) (Zq243 : Fn P w K mg base "_law_drawn_entry" ["_law_src_here", "_law_suits_here"] 2 spDrawn)
    (Zq249 : Fn P w K mg base "_law_bent_entry" ["_law_src_here", "_law_suits_here", "_law_entry"] 2 spBentE) : Fn P w K mg base "_law_bent" ["_law_src_here", "_law_suits_here", "_law_entries"] 3 spBent := by
  refine Zq228.fnQ Zq102 (fun _ _ _ _ _ _ us hl => match us, hl with | [_, _, _], _ => rfl) (fun vs H Q E h => ?_) (fun f cdv A outer s H vs Q E hr h => ?_)
  · obtain ⟨s, la, l, le, us, ves, ss, es, rfl, _⟩ := h
    rfl
  · obtain ⟨s, la, l, le, us, ves0, ss, es0, rfl, hsrc, hX, hpos, hle, hrep, hel, hns0, k⟩ := h
    refine ⟨_, (Zq4 (Zq133 (locs := ["_law_case", "_law_stands", "_law_names_here"]) (fr := []) ⟨rfl, by decide +kernel, by decide +kernel, by decide +kernel, by decide +kernel, by decide +kernel⟩ .nil rfl (Zq28 (qvN 2 Nq1)) ⟨fun _ _ _ _ _ _ => by
    have cnd : (inN ["_law_case", "_law_stands", "_law_names_here"] []).Nodup := by decide +kernel
    exact ⟨(Zq106 3 (by rfl) (Zq22 (qgLN 0 cnd) (Zq22 (qgLN 1 cnd) (Zq22 (qgLN 2 cnd) Zq69)))), Zq90, (Zq70 (Zq1 (qvLN 0) (Zq1 (qvLN 1) (Zq1 (qe_callTyN qcall_list_ofC nmC T.list Zq176 (Zq1 (qvLN 2) Zq2)) Zq2))))⟩⟩ Zq102.nd Nq1 (by rfl) (i := 2))
 (Zq4 (Zq64 PassesOwn.never rfl (Zq140 Nq318.1 T.range (Zq1 (Zq8 Zq9 (hr.mono (by omega)) Nq111 (Zq1 (qvN 0 Nq37) (Zq1 Zq5 Zq2))) Zq2)) (Zq27 (i := 3) Zq102.nd Nq317)
  (Zq4 (Zq12 (i := 4) Zq102.nd Nq65 (Zq8 Zq9 (hr.mono (by omega)) Nq111 (Zq1 (qvN 0 Nq37) (Zq1 Zq5 Zq2))))
 (Zq4 (Zq23 (QW.pt (Zq214 (Zq15 Zq43 (qvN 4 Nq65) Zq5 (Zq19 _)) (Zq197 (Zq15 Zq43 (Zq11 Zq13 Nq175 T.len Zq39 (Zq1 (qvN 2 Nq1) Zq2)) Zq5 (Zq19 _))))) (Zq4 (Zq132 (Zq147 F.plainAttrs_list F.slot_list_append F.type_list_append Zq108 (qvN 2 Nq1) (Zq1 (Zq8 Zq243 (hr.mono (by omega)) Nq316 (Zq1 (qvN 0 Nq37) (Zq1 (qvN 1 Nq174) Zq2))) Zq2)))
 (Zq6 qs_continue)) Zq20)
 (Zq4 (Zq12 (i := 5) Zq102.nd Nq16 (Zq8 Zq9 (hr.mono (by omega)) Nq111 (Zq1 (qvN 0 Nq37) (Zq1 (Zq11 Zq13 Nq175 T.len Zq39 (Zq1 (qvN 2 Nq1) Zq2)) Zq2))))
 (Zq6 (Zq23 (Zq15 Zq43 (qvN 4 Nq65) Zq5 (Zq19 _)) (Zq6 (Zq12 (i := 2) Zq102.nd Nq1 (Zq18 Zq89 (Zq60 Zq91 (qvN 2 Nq1) Zq81 (Zq82 (qvN 5 Nq16))) (Zq60 Zq91 (qvN 2 Nq1) (Zq82 (Zq18 Zq32 (qvN 5 Nq16) Zq5)) Zq81)))) (Zq6 (Zq23 (Zq15 Zq43 (qvN 4 Nq65) Zq5 (Zq19 _)) (Zq6 (Zq12 (i := 2) Zq102.nd Nq1 (Zq18 Zq89 (Zq60 Zq91 (qvN 2 Nq1) (Zq82 (qvN 5 Nq16)) Zq81) (Zq60 Zq91 (qvN 2 Nq1) Zq81 (Zq82 (qvN 5 Nq16)))))) (Zq6 (Zq160 (Zq8 Zq249 (hr.mono (by omega)) Nq315 (Zq1 (qvN 0 Nq37) (Zq1 (qvN 1 Nq174) (Zq1 (Zq10 Zq21 (qvN 2 Nq1) (qvN 5 Nq16) (fun _ _ => rfl)) Zq2)))) (Zq196 (qvN 2 Nq1) (qvN 5 Nq16) Zq139)))))))))))
 (Zq6 (Zq14 (qvN 2 Nq1))))), ?_⟩
    have hz : (5000 : Nat) <= sizeLine := by decide
    have hul : ves0.length = es0.length := by have := hrep.length; rw [List.length_map] at this; exact this
    have nin1 : ∀ {b : Addr}, b ≠ s -> b ∉ [s] := fun h m => h (List.mem_singleton.mp m)
    refine ⟨_, rfl, le, rfl, ⟨_, SqL.of hle⟩, ?_⟩
    refine Zq61 (xs := ves0) (fun i ys H' => Same H H' /\ RepL (off [s] H') ((es0.take i).map Zq44) ys) ⟨Same.refl _, rfl⟩ (by omega) (fun i ys H' _ ⟨e, _⟩ => SqL.of (e _ _ hle)) (fun i ys H' ⟨_, h⟩ => by have := h.length; rw [List.length_map, List.length_take] at this; omega) ?_ ?_
    · rintro i x ys H' hx ⟨sm, hys⟩ ls hls
      obtain ⟨w1, w2, w3, rfl⟩ := len3 hls
      obtain ⟨e, he, hre⟩ := Zq143 (hrep.mono' sm) hx
      obtain ⟨ea, na, rfl, hea, hna⟩ := Zq157 hre
      have hs' := hsrc.keep sm
      refine ⟨ea, _, rfl, SqT.of hea, rfl, _, _, rfl, _, _, rfl, _, _, rfl, rfl, ⟨[_, _, _], rfl, rfl⟩, iteT ?_⟩
      refine ⟨_, rfl, _, rfl, _, rfl, na, _, rfl, .inl (SqL.of hna), fun q hq => ?_⟩
      have Sq := Same.new (o := .lst (e.ns.map V.str)) hq
      have kq : (upd H' q (.lst (e.ns.map V.str))) q = some (.lst (e.ns.map V.str)) := Zq3
      have nq : q ≠ s := (hs'.ne hq).1
      generalize (upd H' q (.lst (e.ns.map V.str))) = H1 at Sq kq ⊢
      refine ⟨by show 3 <= sizeLine; omega, fun e2 he2 => ?_⟩
      have ne2 : e2 ≠ s := ((hs'.keep Sq).ne he2).1
      have Se := Same.new (o := .tup [.int e.c, .bl e.st, .ref q]) he2
      refine ⟨(sm.trans Sq).trans Se, ?_⟩
      rw [List.take_add_one, he, List.map_append]
      exact RepL.snoc (entI_mk (Zq47 (nin1 ne2) Zq3) (Zq47 (nin1 nq) (Se _ _ kq))) (hys.mono' (off_x (Sq.trans Se).x))
    rintro ys H1 ⟨sm1, hys⟩ en0 hen0
    rw [hul, List.take_length] at hys
    have Sn := Same.new (o := .lst ys) hen0
    have kn : (upd H1 en0 (.lst ys)) en0 = some (.lst ys) := Zq3
    have hs1 := hsrc.keep sm1
    obtain ⟨nn1, nn2⟩ := hs1.ne hen0
    have hys2 : RepL (off [s, en0] (upd H1 en0 (.lst ys))) (es0.map Zq44) ys := hys.mono' (fun b o e => by
      obtain ⟨nb, eb⟩ := off_of e
      have nb' : b ≠ en0 := fun z => by rw [z, hen0] at eb; cases eb
      exact Zq47 (fun m => (List.mem_cons.mp m).elim (fun z => nb (List.mem_singleton.mpr z)) (fun z => nb' (List.mem_singleton.mp z))) (by rw [Zq7 nb']; exact eb))
    generalize (upd H1 en0 (.lst ys)) = H2 at Sn kn hys2 ⊢
    have hs2 := hs1.keep Sn
    have sx2 : SameX s H H2 := (sm1.trans Sn).x
    have hen0H := sm1.free hen0
    refine gset ?_
    dsimp only [Zq231]
    refine ⟨_, rfl, s, la, 4, rfl, hs2, by decide, by decide, fun dn H3 dn0 dn1 hs3 sx3 => ?_⟩
    obtain ⟨n, rfl⟩ := Int.eq_ofNat_of_zero_le dn0
    refine ⟨_, rfl, by omega, by omega, ?_⟩
    refine forW_range n (by omega) (fun i σ H' => ∃ (en : Addr) (es : List EntI) (ves : List V) (v3 v4 v5 : Option V), σ = [some (.ref s), some (.ref l), some (.ref en), v3, v4, v5] /\ H en = none /\ en ≠ s /\ en ≠ la /\ H' en = some (.lst ves) /\ RepL (off [s, en] H') (es.map Zq44) ves /\ es.length <= 20 + i /\ (∀ e ∈ es, e.ns.length <= 60 + i) /\ SrcAt H' s la /\ SameX s H H')
      ⟨en0, es0, ys, none, none, none, rfl, hen0H, nn1, nn2, sx3 _ _ nn1 kn, hys2.mono' (Zq49 fun b o nb e => sx3 b o (fun z => nb (by rw [z]; exact List.mem_cons_self)) e), by omega, (fun e he => by have := hns0 e he; omega), hs3, sx2.trans sx3⟩ ?_ ?_
    · rintro i σ H' hi ⟨en, es, ves, v3, v4, v5, rfl, henH, nen1, nen2, hen', hre, hesl, hns, hs', sx'⟩
      have hvl : ves.length = es.length := by have := hre.length; rw [List.length_map] at this; exact this
      have nin : ∀ {b : Addr}, b ≠ s -> b ≠ en -> b ∉ [s, en] := fun h1 h2 m => (List.mem_cons.mp m).elim h1 fun z => h2 (List.mem_singleton.mp z)
      refine ⟨_, rfl, s, la, 5, rfl, hs', by decide, by decide, fun kd H1 _ _ hs1 sx1 => ?_⟩
      have hen1 := sx1 _ _ nen1 hen'
      have sx01 := sx'.trans sx1
      have hre1 : RepL (off [s, en] H1) (es.map Zq44) ves := hre.mono' (Zq49 fun b o nb e => sx1 b o (fun z => nb (by rw [z]; exact List.mem_cons_self)) e)
      have frame : ∀ {v : V} {e : EntI} {H2 : Hp} {H1 : Hp} {ves : List V} {es : List EntI}, Rep (off [s, en] H2) (Zq44 e) v -> SameX s H1 H2 -> H1 en = some (.lst ves) -> RepL (off [s, en] H1) (es.map Zq44) ves -> RepL (off [s, en] (upd H2 en (.lst (ves ++ [v])))) ((es ++ [e]).map Zq44) (ves ++ [v]) := by
        intro v e H2 H1 ves es hr sx _ hre
        have S2 : Same (off [s, en] H2) (off [s, en] (upd H2 en (.lst (ves ++ [v])))) := Zq49 fun b o nb eb => by
          rw [Zq7 (fun z => nb (by rw [z]; exact List.mem_cons_of_mem _ (List.mem_singleton.mpr rfl)))]
          exact eb
        rw [List.map_append]
        exact RepL.snoc (Rep.mono' hr S2) ((hre.mono' (Zq49 fun b o nb e => sx b o (fun z => nb (by rw [z]; exact List.mem_cons_self)) e)).mono' S2)
      have move : ∀ {H2 H4 : Hp} {p3 : Addr} {o' : HO}, Same H2 H4 -> H4 p3 = none -> Same (off [s, en] H2) (off [s, p3] (upd H4 p3 o')) := by
        intro H2 H4 p3 o' sm hp b o e
        obtain ⟨nb, eb⟩ := off_of e
        have nb' : b ≠ p3 := fun z => by rw [z, sm.free hp] at eb; cases eb
        exact Zq47 (fun m => (List.mem_cons.mp m).elim (fun z => nb (by rw [z]; exact List.mem_cons_self)) (fun z => nb' (List.mem_singleton.mp z))) (by rw [Zq7 nb']; exact sm _ _ eb)
      refine ⟨_, rfl, rfl, _, rfl, iteD (fun h => iteT ?_) (fun h => ⟨_, rfl, en, ves, rfl, .inl (SqL.of hen1), rfl, _, rfl, iteD (fun h2 => ?_) (fun h2 => ?_)⟩)⟩
      ·
        refine ⟨_, rfl, .inl ⟨rfl, _, SqL.of hen1⟩, _, rfl, _, rfl, s, la, l, us, ss, en, _, rfl, hs1, hX.x sx01, hpos, nen1, hen1, fun v e H2 hrE hnl hs2 sx2 => ?_⟩
        have hen2 := sx2 _ _ nen1 hen1
        refine ⟨en, ves, v, rfl, rfl, hen2, by omega, ?_⟩
        have fr := frame (v := v) hrE sx2 hen1 hre1
        refine ⟨en, es ++ [e], ves ++ [v], _, _, _, rfl, henH, nen1, nen2, Zq3, fr, by rw [List.length_append]; show _ + 1 <= _; omega, fun f hf => ?_, hs2.keepX SameX.upd nen1 nen2, ?_⟩
        · rcases List.mem_append.mp hf with z | z
          · have := hns f z; omega
          · rw [List.mem_singleton.mp z]; omega
        · intro b o hb eb
          rw [Zq7 (fun z => by rw [z, henH] at eb; cases eb)]
          exact sx2 b o hb (sx01 b o hb eb)
      ·
        refine ⟨_, rfl, .inl ⟨rfl, _, SqL.of hen1⟩, _, rfl, _, rfl, s, la, l, us, ss, en, _, rfl, hs1, hX.x sx01, hpos, nen1, hen1, fun v e H2 hrE hnl hs2 sx2 => ?_⟩
        have hen2 := sx2 _ _ nen1 hen1
        refine ⟨en, ves, v, rfl, rfl, hen2, by omega, ?_⟩
        have fr := frame (v := v) hrE sx2 hen1 hre1
        refine ⟨en, es ++ [e], ves ++ [v], _, _, _, rfl, henH, nen1, nen2, Zq3, fr, by rw [List.length_append]; show _ + 1 <= _; omega, fun f hf => ?_, hs2.keepX SameX.upd nen1 nen2, ?_⟩
        · rcases List.mem_append.mp hf with z | z
          · have := hns f z; omega
          · rw [List.mem_singleton.mp z]; omega
        · intro b o hb eb
          rw [Zq7 (fun z => by rw [z, henH] at eb; cases eb)]
          exact sx2 b o hb (sx01 b o hb eb)
      have hpos' : 0 < es.length := by
        rcases Nat.eq_zero_or_pos es.length with z | z
        · exact absurd (congrArg V.int (by rw [hvl, z]; rfl)) h2
        · exact z
      refine ⟨_, rfl, _, rfl, en, ves, rfl, .inl (SqL.of hen1), s, la, _, rfl, hs1, by omega, by omega, fun at_ H2 at0 at1 hs2 sx2 => ?_⟩
      obtain ⟨j, rfl⟩ := Int.eq_ofNat_of_zero_le at0
      have hj : j < es.length := by omega
      have hen2 := sx2 _ _ nen1 hen1
      have sx02 := sx01.trans sx2
      have hre2 : RepL (off [s, en] H2) (es.map Zq44) ves := hre1.mono' (Zq49 fun b o nb e => sx2 b o (fun z => nb (by rw [z]; exact List.mem_cons_self)) e)
      have free_s : ∀ {H' : Hp} {b : Addr}, SameX s H H' -> b ≠ s -> H' b = none -> H b = none := fun {H'} {b} sx nb h => by
        cases e : H b with
        | none => rfl
        | some o => rw [sx b o nb e] at h; cases h
      refine ⟨_, rfl, rfl, _, rfl, iteD (fun _ => ?_) (fun _ => ?_)⟩
      ·
        refine ⟨_, rfl, _, rfl, (j : Int), rfl, en, ves, rfl, SqL.of hen2, fun p1 hp1 => ?_⟩
        rw [cut_to]
        have Sp1 := Same.new (o := .lst (ves.take j)) hp1
        have kp1 : (upd H2 p1 (.lst (ves.take j))) p1 = some (.lst (ves.take j)) := Zq3
        generalize (upd H2 p1 (.lst (ves.take j))) = H3 at Sp1 kp1 ⊢
        refine ⟨_, rfl, _, rfl, _, _, rfl, rfl, ((j + 1 : Nat) : Int), rfl, en, ves, rfl, SqL.of (Sp1 _ _ hen2), fun p2 hp2 => ?_⟩
        rw [cut_from ves (j + 1)]
        have Sp2 := Same.new (o := .lst (ves.drop (j + 1))) hp2
        have kp2 : (upd H3 p2 (.lst (ves.drop (j + 1)))) p2 = some (.lst (ves.drop (j + 1))) := Zq3
        generalize (upd H3 p2 (.lst (ves.drop (j + 1)))) = H4 at Sp2 kp2 ⊢
        have S24 := Sp1.trans Sp2
        have hs4 := hs2.keep S24
        refine ⟨p1, p2, _, _, rfl, rfl, Sp2 _ _ kp1, kp2, by rw [List.length_take, List.length_drop]; omega, fun p3 hp3 => ?_⟩
        have sx4 : SameX s H H4 := sx02.trans S24.x
        obtain ⟨np1, np2⟩ := hs4.ne hp3
        refine ⟨p3, es.take j ++ es.drop (j + 1), _, _, _, _, rfl, free_s sx4 np1 hp3, np1, np2, Zq3, ?_, ?_, fun f hf => ?_, hs4.keep (Same.new hp3), sx4.trans (SameX.new hp3)⟩
        · have hq := hre2.mono' (move (o' := .lst (ves.take j ++ ves.drop (j + 1))) S24 hp3)
          rw [List.map_append, List.map_take, List.map_drop]
          exact RepL.ap (RepL.dr (j + 1) hq) (RepL.tk j hq)
        · rw [List.length_append, List.length_take, List.length_drop]; omega
        · have : f ∈ es := by
            rcases List.mem_append.mp hf with z | z
            · exact List.mem_of_mem_take z
            · exact List.mem_of_mem_drop z
          have := hns f this
          omega
      refine ⟨_, rfl, rfl, _, rfl, iteD (fun _ => ?_) (fun _ => ?_)⟩
      ·
        refine ⟨_, rfl, _, rfl, (j : Int), rfl, en, ves, rfl, SqL.of hen2, fun p1 hp1 => ?_⟩
        rw [cut_from]
        have Sp1 := Same.new (o := .lst (ves.drop j)) hp1
        have kp1 : (upd H2 p1 (.lst (ves.drop j))) p1 = some (.lst (ves.drop j)) := Zq3
        generalize (upd H2 p1 (.lst (ves.drop j))) = H3 at Sp1 kp1 ⊢
        refine ⟨_, rfl, _, rfl, (j : Int), rfl, en, ves, rfl, SqL.of (Sp1 _ _ hen2), fun p2 hp2 => ?_⟩
        rw [cut_to]
        have Sp2 := Same.new (o := .lst (ves.take j)) hp2
        have kp2 : (upd H3 p2 (.lst (ves.take j))) p2 = some (.lst (ves.take j)) := Zq3
        generalize (upd H3 p2 (.lst (ves.take j))) = H4 at Sp2 kp2 ⊢
        have S24 := Sp1.trans Sp2
        have hs4 := hs2.keep S24
        refine ⟨p1, p2, _, _, rfl, rfl, Sp2 _ _ kp1, kp2, by rw [List.length_drop, List.length_take]; omega, fun p3 hp3 => ?_⟩
        have sx4 : SameX s H H4 := sx02.trans S24.x
        obtain ⟨np1, np2⟩ := hs4.ne hp3
        refine ⟨p3, es.drop j ++ es.take j, _, _, _, _, rfl, free_s sx4 np1 hp3, np1, np2, Zq3, ?_, ?_, fun f hf => ?_, hs4.keep (Same.new hp3), sx4.trans (SameX.new hp3)⟩
        · have hq := hre2.mono' (move (o' := .lst (ves.drop j ++ ves.take j)) S24 hp3)
          rw [List.map_append, List.map_drop, List.map_take]
          exact RepL.ap (RepL.tk j hq) (RepL.dr j hq)
        · rw [List.length_append, List.length_drop, List.length_take]; omega
        · have : f ∈ es := by
            rcases List.mem_append.mp hf with z | z
            · exact List.mem_of_mem_drop z
            · exact List.mem_of_mem_take z
          have := hns f this
          omega
      obtain ⟨x0, hx0⟩ : ∃ x, ves[j]? = some x := ⟨_, List.getElem?_eq_getElem (by omega)⟩
      obtain ⟨e, he, hre0⟩ := Zq143 hre2 hx0
      have hem := List.mem_of_getElem? he
      refine ⟨_, rfl, _, rfl, _, rfl, _, rfl, en, ves, j, x0, rfl, rfl, SqL.of hen2, Zq40 hx0, s, la, l, us, ss, x0, e, i, en, _, rfl, hs2, hX.x sx02, hpos, nen1, hen2, hre0, hns e hem, by omega, fun v' e' H3 hr' hnl' hs3 sx3 => ?_⟩
      have hen3 := sx3 _ _ nen1 hen2
      refine ⟨_, rfl, _, rfl, en, ves, (j : Int), j, rfl, rfl, hen3, ixN_nat (by omega), ?_⟩
      have S3 : Same (off [s, en] H3) (off [s, en] (upd H3 en (.lst (ves.set j v')))) := Zq49 fun b o nb eb => by
        rw [Zq7 (fun z => nb (by rw [z]; exact List.mem_cons_of_mem _ (List.mem_singleton.mpr rfl)))]
        exact eb
      have hre3 : RepL (off [s, en] H3) (es.map Zq44) ves := hre2.mono' (Zq49 fun b o nb e => sx3 b o (fun z => nb (by rw [z]; exact List.mem_cons_self)) e)
      refine ⟨en, es.set j e', _, _, _, _, rfl, henH, nen1, nen2, Zq3, ?_, by rw [List.length_set]; omega, fun f hf => ?_, hs3.keepX SameX.upd nen1 nen2, ?_⟩
      · rw [List.map_set]
        exact RepL.st (Rep.mono' hr' S3) j (hre3.mono' S3)
      · rcases List.mem_or_eq_of_mem_set hf with z | z
        · have := hns f z; omega
        · rw [z]; omega
      · intro b o hb eb
        rw [Zq7 (fun z => by rw [z, henH] at eb; cases eb)]
        exact sx3 b o hb (sx02 b o hb eb)
    · rintro σ H' ⟨en, es, ves, v3, v4, v5, rfl, henH, nen1, nen2, hen', hre, hesl, hns, hs', sx'⟩
      exact ⟨_, rfl, k en ves es H' nen1 henH hen' hre (by omega) hs' sx'⟩
end
section
variable {P : Program} {w : World} {K : PySem.W.Frag} {mg : Str -> Option Value} {base : Heap}
theorem deep_strs : ∀ ns : List Str, Zq97 (ns.map D.str) = 0
  | [] => rfl
  | n :: ns => by rw [List.map_cons, Zq97, deep_strs ns]; rfl
theorem deep_entI (e : EntI) : (Zq44 e).deep <= 2 := by
  show max 0 (max 0 (max (Zq97 (e.ns.map D.str) + 1) 0)) + 1 <= 2
  rw [deep_strs]
  omega
theorem deep_entsI : ∀ es : List EntI, Zq97 (es.map Zq44) <= 2
  | [] => Nat.zero_le _
  | e :: es => by
    have := deep_entsI es
    have := deep_entI e
    rw [List.map_cons, Zq97]
    omega
theorem deep_pap (es : List EntI) : (D.lst (es.map Zq44)).deep <= 4 := by
  have := deep_entsI es
  rw [D.deep]
  omega
theorem at_bool {bs : List Bool} {c : Int} (h0 : -(bs.length : Int) <= c) (h1 : c < bs.length) : ∃ b, atI (bs.map V.bl) c = some (.bl b) := by
  unfold atI ixN
  rw [List.length_map]
  by_cases h : 0 <= c
  · rw [if_pos h, if_pos h1]
    refine ⟨bs[c.toNat]'(by omega), ?_⟩
    show (bs.map V.bl)[c.toNat]? = _
    rw [List.getElem?_map, List.getElem?_eq_getElem (by omega)]
    rfl
  · rw [if_neg h, if_pos h0]
    refine ⟨bs[(c + bs.length).toNat]'(by omega), ?_⟩
    show (bs.map V.bl)[(c + bs.length).toNat]? = _
    rw [List.getElem?_map, List.getElem?_eq_getElem (by omega)]
    rfl
abbrev Zq57 : Stmt := top 57
theorem sc_law : FnScope ["_law_script", "_law_src_here", "_law_suits_here", "_law_case", "_law_kept", "_law_entries", "_law_handed", "_law_told", "_law_stands", "_law_due"] ["_law_script"] (Zq0 Zq57) := ⟨rfl, rfl, rfl, by decide +kernel, rfl, by decide +kernel, by decide +kernel⟩
theorem Nq319 : Nm (Zq0 Zq57) "_law_bent" .globalImplicit := by decide +kernel
theorem Nq11 : Nm (Zq0 Zq57) "_law_case" .local := by decide +kernel
theorem Nq320 : Nm (Zq0 Zq57) "_law_copied" .globalImplicit := by decide +kernel
theorem Nq321 : Nm (Zq0 Zq57) "_law_copy" .globalImplicit := by decide +kernel
theorem Nq112 : Nm (Zq0 Zq57) "_law_due" .local := by decide +kernel
theorem Nq66 : Nm (Zq0 Zq57) "_law_entries" .local := by decide +kernel
theorem Nq322 : Nm (Zq0 Zq57) "_law_good" .globalImplicit := by decide +kernel
theorem Nq67 : Nm (Zq0 Zq57) "_law_handed" .local := by decide +kernel
theorem Nq38 : Nm (Zq0 Zq57) "_law_kept" .local := by decide +kernel
theorem Nq68 : Nm (Zq0 Zq57) "_law_next" .globalImplicit := by decide +kernel
theorem Nq69 : Nm (Zq0 Zq57) "_law_same" .globalImplicit := by decide +kernel
theorem Nq323 : Nm (Zq0 Zq57) "_law_script" .local := by decide +kernel
theorem Nq324 : Nm (Zq0 Zq57) "_law_src" .globalImplicit := by decide +kernel
theorem Nq17 : Nm (Zq0 Zq57) "_law_src_here" .local := by decide +kernel
theorem Nq70 : Nm (Zq0 Zq57) "_law_stands" .local := by decide +kernel
theorem Nq325 : Nm (Zq0 Zq57) "_law_suits" .globalImplicit := by decide +kernel
theorem Nq12 : Nm (Zq0 Zq57) "_law_suits_here" .local := by decide +kernel
theorem Nq113 : Nm (Zq0 Zq57) "_law_told" .local := by decide +kernel
theorem Nq176 : Nm (Zq0 Zq57) "good_paper" .globalImplicit := by decide +kernel
theorem Nq177 : Nm (Zq0 Zq57) "len" .globalImplicit := by decide +kernel
theorem Nq326 : Nm (Zq0 Zq57) "paper" .globalImplicit := by decide +kernel
theorem Nq327 : Nm (Zq0 Zq57) "settled" .globalImplicit := by decide +kernel
theorem f_law {f Tt : Addr} {fd : FuncData} {ts : List Tb} (hts : ∃ c, (⟨c, Tt, fewNm⟩ : Tb) ∈ ts) (F_law : Fun K "law" "law" Zq57 f fd) (T0 : Txt mg) (Zq326 : Fn P w K mg base "_law_src" ["_law_script"] 1 (spSrc K)) (Zq9 : Fn P w K mg base "_law_next" ["_law_src_here", "_law_base"] 1 Zq116)
    (Zq295 : Fn P w K mg base "_law_suits" ["_law_src_here", "_law_many", "_law_most"] 4 spSuits) (Zq315 : Fn P w K mg base "_law_copy" ["_law_suits_here"] 1 spCopy) (Zq184 : Fn P w K mg base "settled" ["suits"] 4 spSett)
    (Zq336 : Fn P w K mg base "paper" ["suits", "case"] 6 (spPap Tt)) (Zq316 : Fn P w K mg base "_law_bent" ["_law_src_here", "_law_suits_here", "_law_entries"] 3 spBent) (Zq280 : Fn P w K mg base "_law_copied" ["_law_entries"] 1 spCopied)
    (Zq317 : Fn P w K mg base "_law_good" ["_law_suits_here", "_law_case", "_law_stands", "_law_entries"] 4 spLGood) (Zq244 : Fn P w K mg base "good_paper" ["suits", "case", "stands", "entries"] 4 spGood)
    (Zq134 : Fn P w K mg base "_law_same" ["_law_found", "_law_due"] 6 (spSame 4)) :
    FnOk P w K mg base CX0 8 f fd ["_law_script"] (spLawT K ts) := by
  refine F_law.okQ sc_law (fun vs H Q E h => ?_) (fun cdv A outer s H vs Q E hr h => ?_)
  · obtain ⟨a, ns, rfl, _⟩ := h
    rfl
  · obtain ⟨a, ns, rfl, hS, hlen, hTs, k⟩ := h
    obtain ⟨cT, hcT⟩ := hts
    have hT0 : IsTab H Tt fewNm := hTs _ hcT
    have T := T0
    refine ⟨_, (Zq4 (Zq12 (i := 1) sc_law.nd Nq17 (Zq8 Zq326 (hr.mono (by omega)) Nq324 (Zq1 (qvN 0 Nq323) Zq2)))
 (Zq4 (Zq12 (i := 2) sc_law.nd Nq12 (Zq8 Zq295 (hr.mono (by omega)) Nq325 (Zq1 (qvN 1 Nq17) (Zq1 (Zq18 Zq32 Zq5 (Zq8 Zq9 (hr.mono (by omega)) Nq68 (Zq1 (qvN 1 Nq17) (Zq1 Zq5 Zq2)))) (Zq1 Zq5 Zq2)))))
 (Zq4 (Zq12 (i := 3) sc_law.nd Nq11 (Zq8 Zq9 (hr.mono (by omega)) Nq68 (Zq1 (qvN 1 Nq17) (Zq1 (Zq11 Zq13 Nq177 T.len Zq39 (Zq1 (qvN 2 Nq12) Zq2)) Zq2))))
 (Zq4 (Zq12 (i := 4) sc_law.nd Nq38 (Zq8 Zq315 (hr.mono (by omega)) Nq321 (Zq1 (qvN 2 Nq12) Zq2)))
 (Zq4 (Zq12 (i := 5) sc_law.nd Nq66 (Zq8 Zq316 (hr.mono (by omega)) Nq319 (Zq1 (qvN 1 Nq17) (Zq1 (qvN 4 Nq38) (Zq1 (Zq8 Zq336 (hr.mono (by omega)) Nq326 (Zq1 (qvN 2 Nq12) (Zq1 (qvN 3 Nq11) Zq2))) Zq2)))))
 (Zq4 (Zq12 (i := 6) sc_law.nd Nq67 (Zq8 Zq280 (hr.mono (by omega)) Nq320 (Zq1 (qvN 5 Nq66) Zq2)))
 (Zq4 (Zq23 (Zq15 Zq43 (Zq8 Zq9 (hr.mono (by omega)) Nq68 (Zq1 (qvN 1 Nq17) (Zq1 Zq5 Zq2))) Zq5 (Zq19 _)) (Zq6 (Zq12 (i := 3) sc_law.nd Nq11 (Zq18 Zq105 (Zq8 Zq9 (hr.mono (by omega)) Nq68 (Zq1 (qvN 1 Nq17) (Zq1 (Zq18 Zq32 (Zq11 Zq13 Nq177 T.len Zq39 (Zq1 (qvN 2 Nq12) Zq2)) Zq5) Zq2))) Zq5))) Zq20)
 (Zq4 (Zq12 (i := 7) sc_law.nd Nq113 (Zq18 Zq89 (Zq8 Zq184 (hr.mono (by omega)) Nq327 (Zq1 (qvN 4 Nq38) Zq2)) (Zq83 (Zq1 Zq56 Zq2))))
 (Zq4 (Zq64 PassesOwn.never rfl (Zq28 (Zq83 (Zq1 (Zq10 Zq21 (qvN 7 Nq113) (qvN 3 Nq11) (fun _ _ => rfl)) (Zq1 (qe_not (Zq10 Zq21 (qvN 7 Nq113) (qvN 3 Nq11) (fun _ _ => rfl))) Zq2)))) (Zq27 (i := 8) sc_law.nd Nq70)
  (Zq4 (Zq12 (i := 9) sc_law.nd Nq112 (Zq8 Zq317 (hr.mono (by omega)) Nq322 (Zq1 (qvN 4 Nq38) (Zq1 (qvN 3 Nq11) (Zq1 (qvN 8 Nq70) (Zq1 (qvN 5 Nq66) Zq2))))))
 (Zq4 (Zq23 (Zq177 (Zq95 (Zq8 Zq134 (hr.mono (by omega)) Nq69 (Zq1 (Zq8 Zq244 (hr.mono (by omega)) Nq176 (Zq1 (qvN 2 Nq12) (Zq1 (qvN 3 Nq11) (Zq1 (qvN 8 Nq70) (Zq1 (qvN 6 Nq67) Zq2))))) (Zq1 (qvN 9 Nq112) Zq2))))) (Zq6 (Zq14 Zq56)) Zq20)
 (Zq6 (Zq23 (Zq177 (Zq95 (Zq8 Zq134 (hr.mono (by omega)) Nq69 (Zq1 (Zq8 Zq244 (hr.mono (by omega)) Nq176 (Zq1 (qvN 2 Nq12) (Zq1 (qvN 3 Nq11) (Zq1 (qvN 8 Nq70) (Zq1 (qvN 6 Nq67) Zq2))))) (Zq1 (qvN 9 Nq112) Zq2))))) (Zq6 (Zq14 Zq56)) Zq20)))))
 (Zq6 (Zq14 (Zq180 (Zq8 Zq134 (hr.mono (by omega)) Nq69 (Zq1 (qvN 6 Nq67) (Zq1 (qvN 5 Nq66) Zq2))) (Zq179 (Zq8 Zq134 (hr.mono (by omega)) Nq69 (Zq1 (qvN 2 Nq12) (Zq1 (qvN 4 Nq38) Zq2)))))))))))))))), ?_⟩
    have hz : (5000 : Nat) <= sizeLine := by decide
    refine ⟨_, rfl, a, ns, rfl, hS, fun s la H1 hs hla hs1 sm1 => ?_⟩
    have hT1 := hT0.same sm1
    refine ⟨_, rfl, _, rfl, s, la, 8, rfl, hs1, by decide, by decide, fun d H2 d0 d1 hs2 sx2 => ?_⟩
    have hT2 := IsTab.src hT1 hs1 sx2
    refine ⟨_, _, rfl, rfl, s, la, 1 + d, 5, rfl, hs2, by omega, by omega, by decide, by decide, fun l us ss H3 hssl hline hshort hlf hls hl3 hrep3 hs3 sx3 => ?_⟩
    have hT3 := IsTab.src hT2 hs2 sx3
    have hsl : ss.length <= 8 := by omega
    have hpos : 0 < ss.length := by omega
    have h60 : ∀ t ∈ ss, (t.ones ++ t.others).length <= 60 := fun t ht => by have := hshort t ht; omega
    have hul : us.length = ss.length := by have := hrep3.length; rw [List.length_map] at this; exact this
    refine ⟨_, rfl, _, rfl, l, us, rfl, .inl (SqL.of hl3), s, la, us.length, rfl, hs3, by omega, by omega, fun dc H4 dc0 dc1 hs4 sx4 => ?_⟩
    obtain ⟨c0, rfl⟩ := Int.eq_ofNat_of_zero_le dc0
    have hc0 : c0 < ss.length := by omega
    have hT4 := IsTab.src hT3 hs3 sx4
    have hl4 := sx4 _ _ hls hl3
    have hrep4 : RepL H4 (ss.map Zq86) us := ((hrep3.mono' (off_sub fun b hb => by rw [List.mem_singleton.mp hb]; exact List.mem_cons_self)).mono' (off_x sx4)).mono' Zq163
    refine ⟨_, rfl, l, us, ss, rfl, hl4, hrep4, by omega, fun l2 us2 H5 hl2f hl2 hrep5 sm5 => ?_⟩
    have hT5 := hT4.same sm5
    have nl2 : l2 ≠ s := (hs4.ne hl2f).1
    have hs5 := hs4.keep sm5
    have A15 : SuitsAt H5 ss l := ⟨us, sm5 _ _ hl4, hrep4.mono' sm5⟩
    refine ⟨_, rfl, _, rfl, _, rfl, _, rfl, l, ss, c0, rfl, A15, hline, by omega, h60, hc0, hT5, fun le es0 ves0 H6 hP hel0 hlef hle hre0 sm6 => ?_⟩
    have hs6 := hs5.keep sm6
    have hre6 := (hre0.mono' Zq163).mono' nw_le
    have emap : (es0.map Ent.toI).map Zq44 = es0.map entD := by rw [List.map_map]; rfl
    have hul2 : us2.length = ss.length := by have := hrep5.length; rw [List.length_map] at this; exact this
    have X6 : SuitsX H6 s l2 ss us2 := ⟨sm6 _ _ hl2, nl2, suits_off hs6 (hrep5.mono' sm6), hline.ok, h60, by omega⟩
    have X6b : SuitsX H6 s l ss us := ⟨sm6 _ _ (sm5 _ _ hl4), hls, suits_off hs6 ((hrep4.mono' sm5).mono' sm6), hline.ok, h60, by omega⟩
    refine ⟨s, la, l2, le, us2, ves0, ss, es0.map Ent.toI, rfl, hs6, X6, hpos, hle, by rw [emap]; exact hre6, by rw [List.length_map]; omega, fun e he => ?_, fun en ws es H7 nen henf hen hre hel hs7 sx7 => ?_⟩
    · obtain ⟨e', he', rfl⟩ := List.mem_map.mp he
      obtain ⟨t, hTe⟩ := hP e' he'
      have h1 := hTe.sound
      unfold Zq153 at h1
      rw [Bool.and_eq_true] at h1
      have h2 := of_decide_eq_true h1.1
      have h3 : (claimed e'.ns (t.ones ++ t.others)).length <= (t.ones ++ t.others).length := List.length_filter_le _ _
      have h4 := h60 t (List.mem_of_getElem? hTe.at_)
      show e'.ns.length <= 60
      omega
    have X7 := X6.x sx7
    have X7b := X6b.x sx7
    have hre7 : RepL (off [s] H7) (es.map Zq44) ws := hre.mono' (off_sub fun b hb => by rw [List.mem_singleton.mp hb]; exact List.mem_cons_self)
    refine ⟨_, rfl, en, ws, es, rfl, hen, hre.mono' Zq163, by omega, fun lc ws2 H8 hlcf hlc hrec sm8 => ?_⟩
    have hs8 := hs7.keep sm8
    have X8 := X7.x sm8.x
    have X8b := X7b.x sm8.x
    have nlc : lc ≠ s := (hs7.ne hlcf).1
    have hen8 := sm8 _ _ hen
    have hre8 : RepL (off [s] H8) (es.map Zq44) ws := hre7.mono' (off_x sm8.x)
    have hrec8 : RepL (off [s] H8) (es.map Zq44) ws2 := by
      have g : ∀ {es : List EntI} {ws : List V}, RepL H8 (es.map Zq44) ws -> RepL (off [s] H8) (es.map Zq44) ws := by
        intro es
        induction es with
        | nil => intro ws h; exact h
        | cons e es ih =>
          rintro ws ⟨v, r, ev, h1, h2⟩
          obtain ⟨ea, na, rfl, q1, q2⟩ := Zq157 h1
          obtain ⟨nsz, i, big, st, cnt, z1, _⟩ := id hs8
          refine ⟨.ref ea, r, ev, entI_mk (na := na) (Zq47 (fun m => by rw [List.mem_singleton.mp m, z1] at q1; cases q1) q1) (Zq47 (fun m => ?_) q2), ih h2⟩
          rw [List.mem_singleton.mp m, z1] at q2
          cases hn : e.ns with
          | nil => rw [hn] at q2; cases q2
          | cons n r => rw [hn] at q2; cases q2
      exact g hrec
    refine gset ?_
    dsimp only [Zq231]
    refine Zq170 (fun σ H' => ∃ c : Int, σ = [some (.ref a), some (.ref s), some (.ref l), some (.int c), some (.ref l2), some (.ref en), some (.ref lc), none, none, none] /\ -1 <= c /\ c <= ss.length /\ SrcAt H' s la /\ SameX s H8 H') ?_ ?_
    rotate_left
    · intro D' hn _ _ _
      refine ⟨_, rfl, s, la, 4, rfl, hs8, by decide, by decide, fun d9 H9 _ _ hs9 sx9 => ?_⟩
      refine ⟨rfl, _, rfl, iteD (fun _ => ?_) (fun _ => hn _ _ ⟨(c0 : Int), rfl, by omega, by omega, hs9, sx9⟩)⟩
      refine ⟨_, rfl, _, rfl, l, us, rfl, .inl (SqL.of ((X8b.x sx9).at_)), _, _, rfl, rfl, s, la, _, rfl, hs9, by omega, by omega, fun d10 H10 e0 e1 hs10 sx10 => ?_⟩
      exact ⟨_, _, rfl, rfl, hn _ _ ⟨d10 - 1, rfl, by omega, by omega, hs10, sx9.trans sx10⟩⟩
    rintro σ H9 ⟨c, rfl, hcl, hch, hs9, sx9⟩
    have X9 := X8.x sx9
    have X9b := X8b.x sx9
    have hen9 := sx9 _ _ nen hen8
    have hlc9 := sx9 _ _ nlc hlc
    have E9 : Zq234 H9 es en := ⟨ws, hen9, (hre8.mono' (off_x sx9)).mono' Zq163⟩
    have C9 : Zq234 H9 es lc := ⟨ws2, hlc9, (hrec8.mono' (off_x sx9)).mono' Zq163⟩
    have A9 : SuitsAt H9 ss l := X9b.at
    have B9 : SuitsAt H9 ss l2 := X9.at
    have em : ∀ {H H' : Hp} {l : Addr}, Zq234 H es l -> Same H H' -> Zq234 H' es l := fun ⟨us, a, b⟩ k => ⟨us, k _ _ a, b.mono' k⟩
    refine ⟨_, rfl, l2, ss, rfl, B9, hline.ok, by omega, fun tl H10 _ htl sm10 => ?_⟩
    have hbl : (bsOf ss).length = ss.length := settL_len [] ss 0
    refine ⟨by show 1 <= sizeLine; omega, fun q1 hq1 => ?_⟩
    have Sq1 := Same.new (o := .lst [.bl true]) hq1
    have kq1 : (upd H10 q1 (.lst [.bl true])) q1 = some (.lst [.bl true]) := Zq3
    have htl10 : H10 tl = some (.lst ((bsOf ss).map V.bl)) := htl
    generalize (upd H10 q1 (.lst [.bl true])) = H11 at Sq1 kq1 ⊢
    refine ⟨tl, q1, _, _, rfl, rfl, Sq1 _ _ htl10, kq1, by rw [List.length_map]; show _ + 1 <= _; omega, fun tq htq => ?_⟩
    have Stq := Same.new (o := .lst ((bsOf ss).map V.bl ++ [.bl true])) htq
    have ktq : (upd H11 tq (.lst ((bsOf ss).map V.bl ++ [.bl true]))) tq = some (.lst ((bsOf ss ++ [true]).map V.bl)) := by rw [Zq3, List.map_append]; rfl
    generalize (upd H11 tq (.lst ((bsOf ss).map V.bl ++ [.bl true]))) = H12 at Stq ktq ⊢
    have S12 : Same H9 H12 := (sm10.trans Sq1).trans Stq
    obtain ⟨b, hat⟩ := at_bool (bs := bsOf ss ++ [true]) (c := c) (by rw [List.length_append, hbl]; show -((ss.length + 1 : Nat) : Int) <= c; omega) (by rw [List.length_append, hbl]; show c < ((ss.length + 1 : Nat) : Int); omega)
    refine ⟨_, rfl, _, rfl, tq, _, c, .bl b, rfl, rfl, SqL.of ktq, hat, _, rfl, _, rfl, tq, _, c, .bl b, rfl, rfl, SqL.of ktq, hat, b, rfl, by show 2 <= sizeLine; omega, fun q2 hq2 => ?_⟩
    have Sq2 := Same.new (o := .lst [.bl b, .bl (!b)]) hq2
    have kq2 : (upd H12 q2 (.lst [.bl b, .bl (!b)])) q2 = some (.lst [.bl b, .bl (!b)]) := Zq3
    generalize (upd H12 q2 (.lst [.bl b, .bl (!b)])) = H13 at Sq2 kq2 ⊢
    have S13 := S12.trans Sq2
    refine ⟨q2, rfl, ⟨_, SqL.of kq2⟩, ?_⟩
    refine Zq71 [.bl b, .bl (!b)] (fun j σ H' => ∃ v8 v9 : Option V, σ = [some (.ref a), some (.ref s), some (.ref l), some (.int c), some (.ref l2), some (.ref en), some (.ref lc), some (.ref tq), v8, v9] /\ Same H13 H') ⟨none, none, rfl, Same.refl _⟩ (fun j σ H' _ ⟨_, _, _, sm⟩ => SqL.of (sm _ _ kq2)) ?_ ?_
    · rintro j x σ H' hx ⟨v8, v9, rfl, sm⟩
      obtain ⟨st, rfl⟩ : ∃ st, x = .bl st := by
        have := List.mem_of_getElem? hx
        rcases List.mem_cons.mp this with z | z
        · exact ⟨_, z⟩
        · exact ⟨_, List.mem_singleton.mp z⟩
      have S' := S13.trans sm
      refine ⟨_, rfl, _, rfl, _, rfl, _, rfl, l2, en, ss, es, c, st, rfl, B9.mono S', by omega, hline, h60, em E9 S', by omega, fun b1 Ha hb1 sa => ?_⟩
      have Sa := S'.trans sa
      refine ⟨_, rfl, _, rfl, _, rfl, _, rfl, l, lc, ss, es, c, st, rfl, A9.mono Sa, by omega, hline, h60, em C9 Sa, by omega, fun b2 Hb hb2 sb => ?_⟩
      have Sb := Sa.trans sb
      obtain rfl : b2 = b1 := Bool.eq_iff_iff.mpr (hb2.trans ((goodI_iff hline).trans hb1.symm))
      refine ⟨_, rfl, .bl b2, .bl b2, .bl b2, .bl b2, rfl, rfl, rfl, Nat.zero_le _, fun Hc sc => ?_⟩
      refine ⟨_, rfl, iteNB (fun z => by rw [sameD_refl] at z; cases z) fun _ => ?_⟩
      have Sc := Sb.trans sc
      refine ⟨_, rfl, _, rfl, _, rfl, _, rfl, l, lc, ss, es, c, st, rfl, A9.mono Sc, by omega, hline, h60, em C9 Sc, by omega, fun b3 Hd hb3 sd => ?_⟩
      obtain rfl : b3 = b2 := Bool.eq_iff_iff.mpr (hb3.trans hb2.symm)
      refine ⟨_, rfl, .bl b3, .bl b3, .bl b3, .bl b3, rfl, rfl, rfl, Nat.zero_le _, fun He se => ?_⟩
      refine ⟨_, rfl, iteNB (fun z => by rw [sameD_refl] at z; cases z) fun _ => ?_⟩
      exact ⟨_, _, rfl, sm.trans ((sa.trans sb).trans (sc.trans (sd.trans se)))⟩
    · rintro σ H' ⟨v8, v9, rfl, sm⟩
      have S' := S13.trans sm
      have RL : ∀ {H7 : Hp} {l : Addr}, SuitsAt H7 ss l -> Rep H7 (.lst (ss.map Zq86)) (.ref l) := fun ⟨us, a, b⟩ => ⟨_, us, rfl, a, b⟩
      have RE : ∀ {H7 : Hp} {l : Addr}, Zq234 H7 es l -> Rep H7 (.lst (es.map Zq44)) (.ref l) := fun ⟨us, a, b⟩ => ⟨_, us, rfl, a, b⟩
      refine ⟨_, rfl, _, rfl, _, _, _, _, rfl, RE (em C9 S'), RE (em E9 S'), deep_pap es, fun Ha sa => ?_⟩
      rw [sameD_refl]
      refine ⟨_, rfl, iteT ?_⟩
      have Sa := S'.trans sa
      refine ⟨_, rfl, _, rfl, _, _, _, _, rfl, RL (A9.mono Sa), RL (B9.mono Sa), deep_suits ss, fun Hb sb => ?_⟩
      rw [sameD_refl]
      exact k Hb
end
def tabs : List Tb := [⟨32, 28, "fewest_to" ++ ".<locals>." ++ "<lambda>"⟩]
theorem tabs_ok (p : Params) : ∀ t ∈ tabs, (KTK p).lookup t.P = some { cls := .none, data := .fields #[] } /\ PySem.W.codeHdIn (KK p) t.c t.P = true /\ (KK p).lookup t.P = none := by
  intro t ht
  simp only [tabs, List.mem_cons, List.not_mem_nil, or_false] at ht
  rcases ht with rfl <;> exact ⟨by kernel_rfl, by kernel_rfl, by kernel_rfl⟩
theorem all_mk {w : World} {h : Heap} {mg : Str -> Option Value} {fa : Addr} (X : (KK w.params).In h) (G : h.Ns mainGlobals mg) (hfa : mg "law" = some (.ref fa)) :
    ∃ fd : FuncData, (∀ (s : Shared) (v : Value), BindsTo s fd ⟨[v], []⟩ [("_law_script", v)]) /\ ∀ base : Heap, (KK w.params).In base -> base.Ns mainGlobals mg -> FnOk (PySem.Challenge.rw_forsworn_k14_papers_that_are_looked_at).prog w (KK w.params) mg base CX0 40 fa fd ["_law_script"] (spLawT (KK w.params) tabs) := by
  have e : some (Value.ref fa) = some (.ref 323) := hfa.symm.trans (PySem.W.mg_of X G (by kernel_rfl))
  cases e
  have Zq261 : Has (KK w.params) mg "total" Zq230 := Zq26 (f := 26) (oc := .type "function") (od := none) (an := none) (osl := #[]) (kV := .none) (doc := .none) (pm := (.str "forsworn.oaths" 194)) (cdv := (.ref 25)) (ct := .none) X G (by kernel_rfl) (by kernel_rfl) (by kernel_rfl) (by kernel_rfl)
  have Zq222 : HasL (KK w.params) mg "fewest_to" Zq75 32 := hasL_mk (f := 33) (oc := .type "function") (od := none) (an := none) (osl := #[]) (kV := .none) (doc := .none) (pm := (.str "forsworn.oaths" 194)) (ct := .none) X G (by kernel_rfl) (by kernel_rfl) (by kernel_rfl) (by kernel_rfl)
  have B_fewest_to : LamB (KK w.params) mg 32 28 := ⟨by kernel_rfl, ⟨4, ⟨.type "module", some 0, .plain, #[]⟩, PySem.W.mg_of X G (by kernel_rfl), by decide, by decide, by decide, by kernel_rfl, rfl, rfl, rfl⟩, by decide⟩
  have Zq240 : Has (KK w.params) mg "settled" Zq183 := Zq26 (f := 79) (oc := .type "function") (od := none) (an := none) (osl := #[]) (kV := .none) (doc := .none) (pm := (.str "forsworn.stands" 264)) (cdv := (.ref 78)) (ct := .none) X G (by kernel_rfl) (by kernel_rfl) (by kernel_rfl) (by kernel_rfl)
  have Zq171 : Has (KK w.params) mg "settled_with" Zq36 := Zq26 (f := 86) (oc := .type "function") (od := none) (an := none) (osl := #[]) (kV := .none) (doc := .none) (pm := (.str "forsworn.stands" 264)) (cdv := (.ref 85)) (ct := .none) X G (by kernel_rfl) (by kernel_rfl) (by kernel_rfl) (by kernel_rfl)
  have Zq254 : Has (KK w.params) mg "namers" Zq144 := Zq26 (f := 93) (oc := .type "function") (od := none) (an := none) (osl := #[]) (kV := .none) (doc := .none) (pm := (.str "forsworn.stands" 264)) (cdv := (.ref 92)) (ct := .none) X G (by kernel_rfl) (by kernel_rfl) (by kernel_rfl) (by kernel_rfl)
  have Zq235 : Has (KK w.params) mg "breaking" Zq124 := Zq26 (f := 98) (oc := .type "function") (od := none) (an := none) (osl := #[]) (kV := .none) (doc := .none) (pm := (.str "forsworn.stands" 264)) (cdv := (.ref 97)) (ct := .none) X G (by kernel_rfl) (by kernel_rfl) (by kernel_rfl) (by kernel_rfl)
  have Zq253 : Has (KK w.params) mg "naming" Zq123 := Zq26 (f := 105) (oc := .type "function") (od := none) (an := none) (osl := #[]) (kV := .none) (doc := .none) (pm := (.str "forsworn.stands" 264)) (cdv := (.ref 104)) (ct := .none) X G (by kernel_rfl) (by kernel_rfl) (by kernel_rfl) (by kernel_rfl)
  have Zq208 : Has (KK w.params) mg "check_case" Zq121 := Zq26 (f := 112) (oc := .type "function") (od := none) (an := none) (osl := #[]) (kV := .none) (doc := .none) (pm := (.str "forsworn.stands" 264)) (cdv := (.ref 111)) (ct := .none) X G (by kernel_rfl) (by kernel_rfl) (by kernel_rfl) (by kernel_rfl)
  have Zq156 : Has (KK w.params) mg "margin_without" Zq37 := Zq26 (f := 119) (oc := .type "function") (od := none) (an := none) (osl := #[]) (kV := .none) (doc := .none) (pm := (.str "forsworn.stands" 264)) (cdv := (.ref 118)) (ct := .none) X G (by kernel_rfl) (by kernel_rfl) (by kernel_rfl) (by kernel_rfl)
  have Zq188 : Has (KK w.params) mg "kept_weight" Zq93 := Zq26 (f := 124) (oc := .type "function") (od := none) (an := none) (osl := #[]) (kV := .none) (doc := .none) (pm := (.str "forsworn.stands" 264)) (cdv := (.ref 123)) (ct := .none) X G (by kernel_rfl) (by kernel_rfl) (by kernel_rfl) (by kernel_rfl)
  have Zq266 : Has (KK w.params) mg "paper" Zq51 := Zq26 (f := 131) (oc := .type "function") (od := none) (an := none) (osl := #[]) (kV := .none) (doc := .none) (pm := (.str "forsworn.papers" 341)) (cdv := (.ref 130)) (ct := .none) X G (by kernel_rfl) (by kernel_rfl) (by kernel_rfl) (by kernel_rfl)
  have Zq207 : Has (KK w.params) mg "good_paper" Zq38 := Zq26 (f := 136) (oc := .type "function") (od := none) (an := none) (osl := #[]) (kV := .none) (doc := .none) (pm := (.str "forsworn.papers" 341)) (cdv := (.ref 135)) (ct := .none) X G (by kernel_rfl) (by kernel_rfl) (by kernel_rfl) (by kernel_rfl)
  have Zq172 : Has (KK w.params) mg "fewest_names" Zq31 := Zq26 (f := 141) (oc := .type "function") (od := none) (an := none) (osl := #[]) (kV := .none) (doc := .none) (pm := (.str "forsworn.papers" 341)) (cdv := (.ref 140)) (ct := .none) X G (by kernel_rfl) (by kernel_rfl) (by kernel_rfl) (by kernel_rfl)
  have Zq256 : Has (KK w.params) mg "enough" Zq126 := Zq26 (f := 148) (oc := .type "function") (od := none) (an := none) (osl := #[]) (kV := .none) (doc := .none) (pm := (.str "forsworn.papers" 341)) (cdv := (.ref 147)) (ct := .none) X G (by kernel_rfl) (by kernel_rfl) (by kernel_rfl) (by kernel_rfl)
  have Zq164 : Has (KK w.params) mg "claims_broken" Zq78 := Zq26 (f := 153) (oc := .type "function") (od := none) (an := none) (osl := #[]) (kV := .none) (doc := .none) (pm := (.str "forsworn.papers" 341)) (cdv := (.ref 152)) (ct := .none) X G (by kernel_rfl) (by kernel_rfl) (by kernel_rfl) (by kernel_rfl)
  have Zq237 : Has (KK w.params) mg "asked_by" Zq53 := Zq26 (f := 160) (oc := .type "function") (od := none) (an := none) (osl := #[]) (kV := .none) (doc := .none) (pm := (.str "forsworn.papers" 341)) (cdv := (.ref 159)) (ct := .none) X G (by kernel_rfl) (by kernel_rfl) (by kernel_rfl) (by kernel_rfl)
  have Zq236 : Has (KK w.params) mg "is_sound" Zq50 := Zq26 (f := 165) (oc := .type "function") (od := none) (an := none) (osl := #[]) (kV := .none) (doc := .none) (pm := (.str "forsworn.papers" 341)) (cdv := (.ref 164)) (ct := .none) X G (by kernel_rfl) (by kernel_rfl) (by kernel_rfl) (by kernel_rfl)
  have Zq224 : Has (KK w.params) mg "is_backed" Zq46 := Zq26 (f := 170) (oc := .type "function") (od := none) (an := none) (osl := #[]) (kV := .none) (doc := .none) (pm := (.str "forsworn.papers" 341)) (cdv := (.ref 169)) (ct := .none) X G (by kernel_rfl) (by kernel_rfl) (by kernel_rfl) (by kernel_rfl)
  have Zq232 : Has (KK w.params) mg "_law_src" Zq182 := Zq26 (f := 177) (oc := .type "function") (od := none) (an := none) (osl := #[]) (kV := .none) (doc := .none) (pm := (.str "law_forsworn_k14_papers_that_are_looked_at" 416)) (cdv := (.ref 176)) (ct := .none) X G (by kernel_rfl) (by kernel_rfl) (by kernel_rfl) (by kernel_rfl)
  have Zq216 : Has (KK w.params) mg "_law_next" Zq110 := Zq26 (f := 184) (oc := .type "function") (od := none) (an := none) (osl := #[]) (kV := .none) (doc := .none) (pm := (.str "law_forsworn_k14_papers_that_are_looked_at" 416)) (cdv := (.ref 183)) (ct := .none) X G (by kernel_rfl) (by kernel_rfl) (by kernel_rfl) (by kernel_rfl)
  have Zq199 : Has (KK w.params) mg "_law_whole" Zq113 := Zq26 (f := 191) (oc := .type "function") (od := none) (an := none) (osl := #[]) (kV := .none) (doc := .none) (pm := (.str "law_forsworn_k14_papers_that_are_looked_at" 416)) (cdv := (.ref 190)) (ct := .none) X G (by kernel_rfl) (by kernel_rfl) (by kernel_rfl) (by kernel_rfl)
  have Zq73 : Has (KK w.params) mg "_law_same" Zq33 := Zq26 (f := 198) (oc := .type "function") (od := none) (an := none) (osl := #[]) (kV := .none) (doc := .none) (pm := (.str "law_forsworn_k14_papers_that_are_looked_at" 416)) (cdv := (.ref 197)) (ct := .none) X G (by kernel_rfl) (by kernel_rfl) (by kernel_rfl) (by kernel_rfl)
  have Zq186 : Has (KK w.params) mg "_law_unlike" Zq65 := Zq26 (f := 205) (oc := .type "function") (od := none) (an := none) (osl := #[]) (kV := .none) (doc := .none) (pm := (.str "law_forsworn_k14_papers_that_are_looked_at" 416)) (cdv := (.ref 204)) (ct := .none) X G (by kernel_rfl) (by kernel_rfl) (by kernel_rfl) (by kernel_rfl)
  have Zq217 : Has (KK w.params) mg "_law_word" Zq122 := Zq26 (f := 210) (oc := .type "function") (od := none) (an := none) (osl := #[]) (kV := .none) (doc := .none) (pm := (.str "law_forsworn_k14_papers_that_are_looked_at" 416)) (cdv := (.ref 209)) (ct := .none) X G (by kernel_rfl) (by kernel_rfl) (by kernel_rfl) (by kernel_rfl)
  have Zq201 : Has (KK w.params) mg "_law_names" Zq41 := Zq26 (f := 217) (oc := .type "function") (od := none) (an := none) (osl := #[]) (kV := .none) (doc := .none) (pm := (.str "law_forsworn_k14_papers_that_are_looked_at" 416)) (cdv := (.ref 216)) (ct := .none) X G (by kernel_rfl) (by kernel_rfl) (by kernel_rfl) (by kernel_rfl)
  have Zq187 : Has (KK w.params) mg "_law_weight" Zq119 := Zq26 (f := 224) (oc := .type "function") (od := none) (an := none) (osl := #[]) (kV := .none) (doc := .none) (pm := (.str "law_forsworn_k14_papers_that_are_looked_at" 416)) (cdv := (.ref 223)) (ct := .none) X G (by kernel_rfl) (by kernel_rfl) (by kernel_rfl) (by kernel_rfl)
  have Zq202 : Has (KK w.params) mg "_law_total" Zq114 := Zq26 (f := 231) (oc := .type "function") (od := none) (an := none) (osl := #[]) (kV := .none) (doc := .none) (pm := (.str "law_forsworn_k14_papers_that_are_looked_at" 416)) (cdv := (.ref 230)) (ct := .none) X G (by kernel_rfl) (by kernel_rfl) (by kernel_rfl) (by kernel_rfl)
  have Zq219 : Has (KK w.params) mg "_law_side" Zq48 := Zq26 (f := 238) (oc := .type "function") (od := none) (an := none) (osl := #[]) (kV := .none) (doc := .none) (pm := (.str "law_forsworn_k14_papers_that_are_looked_at" 416)) (cdv := (.ref 237)) (ct := .none) X G (by kernel_rfl) (by kernel_rfl) (by kernel_rfl) (by kernel_rfl)
  have Zq220 : Has (KK w.params) mg "_law_need" Zq77 := Zq26 (f := 245) (oc := .type "function") (od := none) (an := none) (osl := #[]) (kV := .none) (doc := .none) (pm := (.str "law_forsworn_k14_papers_that_are_looked_at" 416)) (cdv := (.ref 244)) (ct := .none) X G (by kernel_rfl) (by kernel_rfl) (by kernel_rfl) (by kernel_rfl)
  have Zq204 : Has (KK w.params) mg "_law_named" Zq74 := Zq26 (f := 250) (oc := .type "function") (od := none) (an := none) (osl := #[]) (kV := .none) (doc := .none) (pm := (.str "law_forsworn_k14_papers_that_are_looked_at" 416)) (cdv := (.ref 249)) (ct := .none) X G (by kernel_rfl) (by kernel_rfl) (by kernel_rfl) (by kernel_rfl)
  have Zq205 : Has (KK w.params) mg "_law_suits" Zq29 := Zq26 (f := 257) (oc := .type "function") (od := none) (an := none) (osl := #[]) (kV := .none) (doc := .none) (pm := (.str "law_forsworn_k14_papers_that_are_looked_at" 416)) (cdv := (.ref 256)) (ct := .none) X G (by kernel_rfl) (by kernel_rfl) (by kernel_rfl) (by kernel_rfl)
  have Zq221 : Has (KK w.params) mg "_law_copy" Zq193 := Zq26 (f := 262) (oc := .type "function") (od := none) (an := none) (osl := #[]) (kV := .none) (doc := .none) (pm := (.str "law_forsworn_k14_papers_that_are_looked_at" 416)) (cdv := (.ref 261)) (ct := .none) X G (by kernel_rfl) (by kernel_rfl) (by kernel_rfl) (by kernel_rfl)
  have Zq225 : Has (KK w.params) mg "_law_goal" Zq148 := Zq26 (f := 269) (oc := .type "function") (od := none) (an := none) (osl := #[]) (kV := .none) (doc := .none) (pm := (.str "law_forsworn_k14_papers_that_are_looked_at" 416)) (cdv := (.ref 268)) (ct := .none) X G (by kernel_rfl) (by kernel_rfl) (by kernel_rfl) (by kernel_rfl)
  have Zq189 : Has (KK w.params) mg "_law_namers" Zq87 := Zq26 (f := 274) (oc := .type "function") (od := none) (an := none) (osl := #[]) (kV := .none) (doc := .none) (pm := (.str "law_forsworn_k14_papers_that_are_looked_at" 416)) (cdv := (.ref 273)) (ct := .none) X G (by kernel_rfl) (by kernel_rfl) (by kernel_rfl) (by kernel_rfl)
  have Zq149 : Has (KK w.params) mg "_law_kept_claim" Zq84 := Zq26 (f := 279) (oc := .type "function") (od := none) (an := none) (osl := #[]) (kV := .none) (doc := .none) (pm := (.str "law_forsworn_k14_papers_that_are_looked_at" 416)) (cdv := (.ref 278)) (ct := .none) X G (by kernel_rfl) (by kernel_rfl) (by kernel_rfl) (by kernel_rfl)
  have Zq226 : Has (KK w.params) mg "_law_fair" Zq79 := Zq26 (f := 284) (oc := .type "function") (od := none) (an := none) (osl := #[]) (kV := .none) (doc := .none) (pm := (.str "law_forsworn_k14_papers_that_are_looked_at" 416)) (cdv := (.ref 283)) (ct := .none) X G (by kernel_rfl) (by kernel_rfl) (by kernel_rfl) (by kernel_rfl)
  have Zq209 : Has (KK w.params) mg "_law_borne" Zq52 := Zq26 (f := 289) (oc := .type "function") (od := none) (an := none) (osl := #[]) (kV := .none) (doc := .none) (pm := (.str "law_forsworn_k14_papers_that_are_looked_at" 416)) (cdv := (.ref 288)) (ct := .none) X G (by kernel_rfl) (by kernel_rfl) (by kernel_rfl) (by kernel_rfl)
  have Zq227 : Has (KK w.params) mg "_law_good" Zq68 := Zq26 (f := 296) (oc := .type "function") (od := none) (an := none) (osl := #[]) (kV := .none) (doc := .none) (pm := (.str "law_forsworn_k14_papers_that_are_looked_at" 416)) (cdv := (.ref 295)) (ct := .none) X G (by kernel_rfl) (by kernel_rfl) (by kernel_rfl) (by kernel_rfl)
  have Zq150 : Has (KK w.params) mg "_law_bent_entry" Zq25 := Zq26 (f := 301) (oc := .type "function") (od := none) (an := none) (osl := #[]) (kV := .none) (doc := .none) (pm := (.str "law_forsworn_k14_papers_that_are_looked_at" 416)) (cdv := (.ref 300)) (ct := .none) X G (by kernel_rfl) (by kernel_rfl) (by kernel_rfl) (by kernel_rfl)
  have Zq145 : Has (KK w.params) mg "_law_drawn_entry" Zq42 := Zq26 (f := 306) (oc := .type "function") (od := none) (an := none) (osl := #[]) (kV := .none) (doc := .none) (pm := (.str "law_forsworn_k14_papers_that_are_looked_at" 416)) (cdv := (.ref 305)) (ct := .none) X G (by kernel_rfl) (by kernel_rfl) (by kernel_rfl) (by kernel_rfl)
  have Zq228 : Has (KK w.params) mg "_law_bent" Zq54 := Zq26 (f := 311) (oc := .type "function") (od := none) (an := none) (osl := #[]) (kV := .none) (doc := .none) (pm := (.str "law_forsworn_k14_papers_that_are_looked_at" 416)) (cdv := (.ref 310)) (ct := .none) X G (by kernel_rfl) (by kernel_rfl) (by kernel_rfl) (by kernel_rfl)
  have Zq190 : Has (KK w.params) mg "_law_copied" Zq169 := Zq26 (f := 316) (oc := .type "function") (od := none) (an := none) (osl := #[]) (kV := .none) (doc := .none) (pm := (.str "law_forsworn_k14_papers_that_are_looked_at" 416)) (cdv := (.ref 315)) (ct := .none) X G (by kernel_rfl) (by kernel_rfl) (by kernel_rfl) (by kernel_rfl)
  have F_law := fun_mk (K := KK w.params) (x := "law") (qual := "law") (st := Zq57) (f := 323) (oc := .type "function") (od := none) (an := none) (osl := #[]) (kV := .none) (doc := .none) (pm := (.str "law_forsworn_k14_papers_that_are_looked_at" 416)) (cdv := (.ref 322)) (ct := .none) (by kernel_rfl) (by kernel_rfl) (by kernel_rfl)
  have c_ONES : mg "ONES" = some (.int 0 266) := PySem.W.mg_of X G (by kernel_rfl)
  have c_OTHERS : mg "OTHERS" = some (.int 1 268) := PySem.W.mg_of X G (by kernel_rfl)
  have c_NEED : mg "NEED" = some (.int 2 270) := PySem.W.mg_of X G (by kernel_rfl)
  have c_NAMED : mg "NAMED" = some (.int 3 272) := PySem.W.mg_of X G (by kernel_rfl)
  have c_CASE : mg "CASE" = some (.int 0 343) := PySem.W.mg_of X G (by kernel_rfl)
  have c_STANDS : mg "STANDS" = some (.int 1 345) := PySem.W.mg_of X G (by kernel_rfl)
  have c_NAMES : mg "NAMES" = some (.int 2 347) := PySem.W.mg_of X G (by kernel_rfl)
  have T : Txt mg := ⟨PySem.W.mg_none_of X G (by kernel_rfl), PySem.W.mg_none_of X G (by kernel_rfl), PySem.W.mg_none_of X G (by kernel_rfl), PySem.W.mg_none_of X G (by kernel_rfl), PySem.W.mg_none_of X G (by kernel_rfl), PySem.W.mg_none_of X G (by kernel_rfl), PySem.W.mg_none_of X G (by kernel_rfl), PySem.W.mg_none_of X G (by kernel_rfl), PySem.W.mg_none_of X G (by kernel_rfl), PySem.W.mg_none_of X G (by kernel_rfl), PySem.W.mg_none_of X G (by kernel_rfl), PySem.W.mg_none_of X G (by kernel_rfl), PySem.W.mg_none_of X G (by kernel_rfl), PySem.W.mg_none_of X G (by kernel_rfl), PySem.W.mg_none_of X G (by kernel_rfl)⟩
  exact ⟨PySem.W.fnOf "law" "law" (Zq115 Zq57) (Zq80 Zq57) (Zq0 Zq57) .none .none .none (.str "law_forsworn_k14_papers_that_are_looked_at" 416) none (.ref 322) .none, fun s v => .of_eq rfl, fun base kb _ => by
    have F1 := Zq318 (P := (PySem.Challenge.rw_forsworn_k14_papers_that_are_looked_at).prog) (w := w) (base := base) Zq232 T
    have F2 := Zq297 (P := (PySem.Challenge.rw_forsworn_k14_papers_that_are_looked_at).prog) (w := w) (base := base) Zq216 T
    have F3 := Zq298 Zq217 T F2
    have F4 := Zq271 (P := (PySem.Challenge.rw_forsworn_k14_papers_that_are_looked_at).prog) (w := w) (base := base) Zq186 T
    have F5 := Zq282 Zq201 T F2 F3 F4
    have F6 := Zq273 Zq187 T F2
    have F7 := Zq299 Zq219 T F2 F6
    have F0 := Zq281 (P := (PySem.Challenge.rw_forsworn_k14_papers_that_are_looked_at).prog) (w := w) (base := base) Zq199 T
    have F8 := Zq250 Zq73 T F0 4
    have F9 := Zq283 (P := (PySem.Challenge.rw_forsworn_k14_papers_that_are_looked_at).prog) (w := w) (base := base) Zq202 T
    have F10 := Zq300 Zq220 T F2 F9
    have F11 := Zq284 Zq204 T F2
    have F12 := Zq285 Zq205 T F2 F5 F7 F11 F10
    have F13 := Zq303 (P := (PySem.Challenge.rw_forsworn_k14_papers_that_are_looked_at).prog) (w := w) (base := base) Zq221 T
    have F14 := Zq275 (P := (PySem.Challenge.rw_forsworn_k14_papers_that_are_looked_at).prog) (w := w) (base := base) Zq188 T
    have F15 := Zq251 Zq156 T ⟨_, c_ONES⟩ ⟨_, c_OTHERS⟩ ⟨_, c_NEED⟩ F14
    have F16 := Zq263 Zq171 T ⟨_, c_NAMED⟩ F15
    have F17 := Zq327 Zq240 T F16
    have F19 := Zq331 (P := (PySem.Challenge.rw_forsworn_k14_papers_that_are_looked_at).prog) (w := w) (base := base) Zq253 T ⟨_, c_NAMED⟩
    have F20 := Zq332 Zq254 T F19
    have F21 := Zq334 (P := (PySem.Challenge.rw_forsworn_k14_papers_that_are_looked_at).prog) (w := w) (base := base) Zq261 T
    have F22 := Zq333 Zq256 T ⟨_, c_ONES⟩ ⟨_, c_OTHERS⟩ ⟨_, c_NEED⟩ F21
    have F23 := Zq260 (P := (PySem.Challenge.rw_forsworn_k14_papers_that_are_looked_at).prog) (w := w) (base := base) Zq164 T ⟨_, c_ONES⟩
    have F27 := Zq305 (P := (PySem.Challenge.rw_forsworn_k14_papers_that_are_looked_at).prog) (w := w) Zq222 B_fewest_to kb T
    have F28 := Zq265 Zq172 T ⟨_, c_ONES⟩ ⟨_, c_OTHERS⟩ F27 F22
    have F29 := Zq323 Zq237 T ⟨_, c_CASE⟩ ⟨_, c_STANDS⟩ ⟨_, c_NAMES⟩ F23
    have F30 := Zq320 Zq235 T F17 F19
    have F31 := Zq290 (P := (PySem.Challenge.rw_forsworn_k14_papers_that_are_looked_at).prog) (w := w) (base := base) Zq208 T
    have F32 := Zq335 Zq266 T F31 F17 F20 F30 F28 F29
    have G1 := Zq309 Zq225 T F9
    have G2 := Zq277 (P := (PySem.Challenge.rw_forsworn_k14_papers_that_are_looked_at).prog) (w := w) (base := base) Zq189 T
    have G3 := Zq246 (P := (PySem.Challenge.rw_forsworn_k14_papers_that_are_looked_at).prog) (w := w) (base := base) Zq149 T
    have G4 := Zq310 Zq226 T F9 G1
    have G5 := Zq293 Zq209 T G2 G3
    have G6 := Zq312 Zq227 T G4 G5
    have F24 := Zq321 Zq236 T ⟨_, c_ONES⟩ ⟨_, c_OTHERS⟩ ⟨_, c_CASE⟩ ⟨_, c_STANDS⟩ ⟨_, c_NAMES⟩ F21 F22
    have F25 := Zq306 Zq224 T ⟨_, c_CASE⟩ ⟨_, c_STANDS⟩ ⟨_, c_NAMES⟩ F23
    have F26 := Zq289 Zq207 T ⟨_, c_CASE⟩ ⟨_, c_STANDS⟩ F24 F20 F25
    have G7 := Zq242 Zq145 T F2
    have G8 := Zq248 Zq150 T F2
    have G9 := Zq314 Zq228 T F2 G7 G8
    have G10 := Zq279 (P := (PySem.Challenge.rw_forsworn_k14_papers_that_are_looked_at).prog) (w := w) (base := base) Zq190 T
    exact (f_law (ts := tabs) ⟨_, List.mem_cons_self⟩ F_law T F1 F2 F12 F13 F17 F32 G9 G10 G6 F26 F8).mono (by decide)⟩
end Law
open PySem PySem.W PyProof.Rows
set_option maxRecDepth 100000 in
set_option maxHeartbeats 0 in
theorem PySem.Challenge.cw_forsworn_k14_papers_that_are_looked_at_holds : PySem.Challenge.rw_forsworn_k14_papers_that_are_looked_at.Holds := by
  w_on; o_law
  refine holds_open (q := Law.q) (loose := []) (Xt := fun s => xlAt Law.q [] s && recOk (RowW.records PySem.Challenge.rw_forsworn_k14_papers_that_are_looked_at.row.toRowW) s) (XP := XL Law.q []) (Yf := Law.HK.obs) (Ya := Law.HK.val) (YP := Law.HK.says) (N := 3872) Law.left Law.HK.of Law.HK.keeps (fun s e => xl_of s (Bool.and_eq_true_iff.mp e).1) XL.keeps (by rfl) (by rfl) (by rfl) (fun s e => recFacts_of (Bool.and_eq_true_iff.mp e).2) (by rfl) (by first | assumption | decide +kernel) (by decide +kernel) ⟨rfl, rfl, rfl, rfl, rfl, by decide +kernel⟩ ?hw ?hc
  case hw => w_witness2
  refine L2.walkLawT (l := PySem.Challenge.rw_forsworn_k14_papers_that_are_looked_at) (K := Law.KK) (KT := Law.KTK) (ts := Law.tabs) rfl rfl (fun w h Y => PySem.W.kIn_of (K := Law.KTK) Y) (fun p h x => L2.Frag.In.left x) (fun p t ht => Law.tabs_ok p t ht) (by decide) fun w mg fa h KX G hmg => Law.all_mk KX G hmg
namespace Law
end Law
