import PyProof.Rows.All
import Wide.All
import OpenK.AllK
import Wide.FinOn
import Lean
import PyProof.EqAt
import PyProof.EqKinds
import PyProof.TupleCall
import KE.KSortTup
import PyProof.NeKinds
import PyProof.ExcArgsOwn
import PyProof.ExcAttrAll.ValueError
import KE.KIsAll
import KE.KIntText
import PyProof.Rows.StrNews
import PyProof.Rows.StrSplitCount
import PySem.Challenge.RW_forsworn_k49_deeds_written
section
set_option Elab.async false
set_option linter.all false
set_option maxRecDepth 100000
set_option maxHeartbeats 4000000
namespace L2
open PySem PySem.W
def topRunT (tb : String -> Option Builtin) (p : Program) (w : World) (m : Nat) (ann : Option Value) : Nat -> SharedT -> Thread -> Option SharedT
  | 0, _, _ => none
  | n + 1, s, t => match through t with
    | true => some s
    | false => match stepOk m ann t with
      | false => none
      | true => match stepT (denote tb) p w s t with
        | some x => topRunT tb p w m ann n x.1 x.2
        | none => none
theorem topRunT_of {tb : String -> Option Builtin} {p : Program} {w : World} {m : Nat} {ann : Option Value} : ∀ {n : Nat} {s r : SharedT} {t : Thread}, topRunT tb p w m ann n s t = some r -> topRun tb p w m ann n s.abs t = some r.abs
  | 0, s, r, t, h => by cases h
  | n + 1, s, r, t, h => by
    unfold topRunT at h
    unfold topRun
    cases a : through t with
    | true => rw [a] at h; cases h; rfl
    | false =>
      rw [a] at h
      cases b : stepOk m ann t with
      | false => rw [b] at h; cases h
      | true =>
        rw [b] at h
        cases c : stepT (denote tb) p w s t with
        | none => rw [c] at h; cases h
        | some x => obtain ⟨s2, t2⟩ := x; rw [c] at h; dsimp only at h ⊢; rw [stepT_spec c]; exact topRunT_of h
def btOf : List Obj -> Nat -> BT -> BT
  | [], _, t => t
  | o :: r, i, t => btOf r (i + 1) (t.ins i o)
noncomputable def s0T (P : Params) (os : OsState) : SharedT := ⟨btOf (boot_heap P).objs.toList 0 .nil, 11, (boot_heap P).life, #[], boot_drawn, boot_toks, os⟩
noncomputable def seenT {α : Type} (p q : Program) (loose : List Str) (Xt : Shared -> Bool) (Yf : Shared -> α) (P : Params) (s : Shared) :=
  (staticsOk (importedModules p.main.body) (boot_heap P) s.heap && namesBound p s.heap && gensDone s && laidKept (boot_heap P) s.heap, openSeen q loose (importedModules p.main.body) Xt true s, Yf s)
theorem s0T_abs (P : Params) (os : OsState) : (s0T P os).abs = ⟨boot_heap P, #[], boot_drawn, boot_toks, os⟩ := by kernel_rfl
theorem boot_size (P : Params) : ((boot_heap P).isNs mainGlobals && (#[] : Array GenState).size == 0, (boot_heap P).objs.size, (boot_heap P).nsMap mainGlobals "__annotations__") = (true, 11, some (.ref 6)) := by kernel_rfl
theorem left_of {p q : Program} {loose : List Str} {Xt : Shared -> Bool} {α : Type} {Yf : Shared -> α} {Ya : World -> α} {N : Nat} (e : opening p = plainProg p.main.scope.names) (hN : Nat.ble 600 N = true) (f : ∀ s, fenceModules? p s = some s)
    (run : ∀ (w : World) (os : OsState), (topRunT treeTable p w 11 (some (.ref 6)) N (s0T w.params os) (topStub p)).map (fun s => seenT p q loose Xt Yf w.params s.abs) = some (true, openGood q loose, Ya w)) : LeftO p q loose Xt Yf Ya N := fun w => by
  obtain ⟨⟨h, gs, d, k, os⟩, e1, e2⟩ := Option.map_eq_some_iff.mp (boot_open e hN f w)
  obtain ⟨rfl, rfl, rfl, rfl⟩ : h = boot_heap w.params /\ gs = #[] /\ d = boot_drawn /\ k = boot_toks := by simpa using e2
  obtain ⟨s, r1, r2⟩ := Option.map_eq_some_iff.mp (run w os)
  unfold seenT at r2
  obtain ⟨l1, l2, l3⟩ : _ /\ _ /\ _ := by simpa only [Prod.mk.injEq] using r2
  have r := topRunT_of r1
  rw [s0T_abs] at r
  obtain ⟨z1, z2, z3⟩ : _ /\ _ /\ _ := by simpa only [Prod.mk.injEq] using boot_size w.params
  have t : topFrom treeTable p w N ⟨boot_heap w.params, #[], boot_drawn, boot_toks, os⟩ = some s.abs := by
    unfold topFrom
    dsimp only
    rw [z1, z2, z3, r]
    show (match staticsOk (importedModules p.main.body) (boot_heap w.params) s.abs.heap && namesBound p s.abs.heap && gensDone s.abs && laidKept (boot_heap w.params) s.abs.heap with | true => some s.abs | false => none) = _
    rw [l1]
  unfold openEnds
  rw [e1]
  show (topFrom treeTable p w N _).map _ = _
  rw [t]
  exact congrArg some (Prod.ext l2 l3)
def topP (p : Program) (i : Nat) : Stmt := p.main.body.getD i (.Pass ⟨0, 0, 0, 0⟩)
def hIn (s : Stmt) (j : Nat) : Stmt := match s with
  | .ClassDef _ _ _ b _ _ _ _ _ _ _ => b.getD j (.Pass ⟨0, 0, 0, 0⟩)
  | _ => s
def hArgs (s : Stmt) : Arguments := match s with
  | .FunctionDef _ a _ _ _ _ _ _ _ _ => a
  | _ => ⟨[], [], none, [], [], none, []⟩
def hBody (s : Stmt) : List Stmt := match s with
  | .FunctionDef _ _ b _ _ _ _ _ _ _ => b
  | _ => []
def hScope (s : Stmt) : Scope := match s with
  | .FunctionDef _ _ _ _ _ _ c _ _ _ => c
  | _ => { kind := .function, names := [], isGenerator := false, isCoroutine := false }
def de (P : Params) (n : Str) (t : Tok) (v : Value) : DictEntry := ⟨PyData.keyHash P n, .str n t, v⟩
def kFn (n q : Str) (st : Stmt) (pm : Value) (c : Addr) : Obj := ⟨.type "function", none, .func (PySem.W.fnOf n q (hArgs st) (hBody st) (hScope st) .none .none .none pm none (.ref c) .none), #[]⟩
end L2
namespace PySem.W.Fast
noncomputable def tw14598715356260435866 : PySem.Params -> PySem.Obj := PySem.W.boot_o_0
theorem te14598715356260435866 : PySem.W.boot_o_0 = tw14598715356260435866 := rfl
end PySem.W.Fast
lay_quick L2.topRunT L2.s0T L2.seenT
end
set_option Elab.async false
set_option linter.all false
set_option maxRecDepth 100000
set_option maxHeartbeats 4000000
namespace Law
open PySem L2
def Kp (p : Program) (P : Params) : PySem.W.Frag := [
  (3, ⟨(.type "dict"), none, (.dict #[de P "__name__" 165 (.str "law_forsworn_k49_deeds_written" 365), de P "__doc__" 166 .none, de P "__package__" 167 .none, de P "__loader__" 168 (.builtin "__main__.__loader__#opaque"), de P "__spec__" 169 .none, de P "__annotations__" 170 (.ref 6), de P "__builtins__" 171 (.ref 4), de P "__file__" 173 (.str "/claim/cut.py" 172), de P "__cached__" 174 .none, de P "_wall" 193 (.ref 21), de P "MootError" 220 (.ref 38), de P "NoDeed" 243 (.ref 58), de P "LONGEST_NAME" 247 (.int (12) 246), de P "is_name" 253 (.ref 65), de P "MOST_FIGURES" 257 (.int (9) 256), de P "PLAIN" 292 (.ref 66), de P "SWORN" 312 (.ref 74), de P "shown_deed" 318 (.ref 82), de P "read_deed" 330 (.ref 89), de P "place_of" 338 (.ref 96), de P "read_names" 344 (.ref 101), de P "read_values" 350 (.ref 106), de P "read_value" 358 (.ref 113), de P "is_number" 364 (.ref 118), de P "_law_src" 373 (.ref 125), de P "_law_next" 383 (.ref 132), de P "_law_whole" 390 (.ref 139), de P "_law_same" 400 (.ref 146), de P "_law_unlike" 411 (.ref 153), de P "_law_word" 417 (.ref 158), de P "_law_names" 431 (.ref 165), de P "_law_number" 439 (.ref 172), de P "_law_row" 445 (.ref 177), de P "_law_form" 454 (.ref 184), de P "_law_any_deed" 466 (.ref 191), de P "_law_shown" 477 (.ref 198), de P "law" 483 (.ref 203)] 37), #[]⟩),
  (64, ⟨(.type "code"), none, (.fields #[(.str "is_name" 248), (.str "is_name" 249), (.str "/claim/cut.py" 250), (.int (15) 0), (.int (1) 0), (.int (0) 0), (.int (0) 0), (.int (3) 0), (.ref 61), (.bool true), (.int (181) 0), (.ref 62), .none, .none, .none, (.ref 63), (.int (251) 0), (.int (15) 0), (.str "/claim/cut.py" 252)]), #[]⟩),
  (65, kFn "is_name" "is_name" (topP p 6) (.str "forsworn.oaths" 244) 64),
  (66, ⟨(.type "dict"), none, (.dict #[de P "come" 258 (.ref 67), de P "rise" 262 (.ref 68), de P "die" 266 (.ref 69), de P "penance" 270 (.ref 70), de P "bring" 272 (.ref 71), de P "give" 275 (.ref 72), de P "pay" 280 (.ref 73)] 7), #[]⟩),
  (67, ⟨(.type "tuple"), none, (.seq #[(.str "name" 259), (.str "number" 260), (.str "number" 261)] 0), #[]⟩),
  (68, ⟨(.type "tuple"), none, (.seq #[(.str "name" 263), (.str "number" 264), (.str "number" 265)] 0), #[]⟩),
  (69, ⟨(.type "tuple"), none, (.seq #[(.str "name" 267), (.str "number" 268), (.str "name" 269)] 0), #[]⟩),
  (70, ⟨(.type "tuple"), none, (.seq #[(.str "name" 271)] 0), #[]⟩),
  (71, ⟨(.type "tuple"), none, (.seq #[(.str "name" 273), (.str "number" 274)] 0), #[]⟩),
  (72, ⟨(.type "tuple"), none, (.seq #[(.str "number" 276), (.str "name" 277), (.str "name" 278), (.str "number" 279)] 0), #[]⟩),
  (73, ⟨(.type "tuple"), none, (.seq #[(.str "name" 281), (.str "name" 282), (.str "number" 283), (.str "number" 284)] 0), #[]⟩),
  (74, ⟨(.type "dict"), none, (.dict #[de P "claim" 293 (.ref 75), de P "wergild" 298 (.ref 76), de P "accuse" 304 (.ref 77)] 3), #[]⟩),
  (75, ⟨(.type "tuple"), none, (.seq #[(.str "name" 294), (.str "number" 295), (.str "number" 296), (.str "number" 297)] 0), #[]⟩),
  (76, ⟨(.type "tuple"), none, (.seq #[(.str "name" 299), (.str "name" 300), (.str "number" 301), (.str "number" 302), (.str "number" 303)] 0), #[]⟩),
  (77, ⟨(.type "tuple"), none, (.seq #[(.str "number" 305), (.str "name" 306), (.str "number" 307), (.str "number" 308)] 0), #[]⟩),
  (81, ⟨(.type "code"), none, (.fields #[(.str "shown_deed" 313), (.str "shown_deed" 314), (.str "/claim/cut.py" 315), (.int (21) 0), (.int (1) 0), (.int (0) 0), (.int (0) 0), (.int (3) 0), (.ref 78), (.bool true), (.int (181) 0), (.ref 79), .none, .none, .none, (.ref 80), (.int (316) 0), (.int (21) 0), (.str "/claim/cut.py" 317)]), #[]⟩),
  (82, kFn "shown_deed" "shown_deed" (topP p 11) (.str "forsworn.notes" 254) 81),
  (88, ⟨(.type "code"), none, (.fields #[(.str "read_deed" 319), (.str "read_deed" 320), (.str "/claim/cut.py" 321), (.int (25) 0), (.int (1) 0), (.int (0) 0), (.int (0) 0), (.int (3) 0), (.ref 83), (.bool true), (.int (181) 0), (.ref 84), .none, (.ref 85), (.ref 86), (.ref 87), (.int (328) 0), (.int (25) 0), (.str "/claim/cut.py" 329)]), #[]⟩),
  (89, kFn "read_deed" "read_deed" (topP p 12) (.str "forsworn.notes" 254) 88),
  (95, ⟨(.type "code"), none, (.fields #[(.str "place_of" 331), (.str "place_of" 332), (.str "/claim/cut.py" 333), (.int (36) 0), (.int (2) 0), (.int (0) 0), (.int (0) 0), (.int (3) 0), (.ref 90), (.bool true), (.int (181) 0), (.ref 91), .none, (.ref 92), (.ref 93), (.ref 94), (.int (336) 0), (.int (36) 0), (.str "/claim/cut.py" 337)]), #[]⟩),
  (96, kFn "place_of" "place_of" (topP p 13) (.str "forsworn.notes" 254) 95),
  (100, ⟨(.type "code"), none, (.fields #[(.str "read_names" 339), (.str "read_names" 340), (.str "/claim/cut.py" 341), (.int (40) 0), (.int (1) 0), (.int (0) 0), (.int (0) 0), (.int (3) 0), (.ref 97), (.bool true), (.int (181) 0), (.ref 98), .none, .none, .none, (.ref 99), (.int (342) 0), (.int (40) 0), (.str "/claim/cut.py" 343)]), #[]⟩),
  (101, kFn "read_names" "read_names" (topP p 14) (.str "forsworn.notes" 254) 100),
  (105, ⟨(.type "code"), none, (.fields #[(.str "read_values" 345), (.str "read_values" 346), (.str "/claim/cut.py" 347), (.int (42) 0), (.int (2) 0), (.int (0) 0), (.int (0) 0), (.int (3) 0), (.ref 102), (.bool true), (.int (181) 0), (.ref 103), .none, .none, .none, (.ref 104), (.int (348) 0), (.int (42) 0), (.str "/claim/cut.py" 349)]), #[]⟩),
  (106, kFn "read_values" "read_values" (topP p 15) (.str "forsworn.notes" 254) 105),
  (112, ⟨(.type "code"), none, (.fields #[(.str "read_value" 351), (.str "read_value" 352), (.str "/claim/cut.py" 353), (.int (46) 0), (.int (2) 0), (.int (0) 0), (.int (0) 0), (.int (3) 0), (.ref 107), (.bool true), (.int (181) 0), (.ref 108), .none, (.ref 109), (.ref 110), (.ref 111), (.int (356) 0), (.int (46) 0), (.str "/claim/cut.py" 357)]), #[]⟩),
  (113, kFn "read_value" "read_value" (topP p 16) (.str "forsworn.notes" 254) 112),
  (117, ⟨(.type "code"), none, (.fields #[(.str "is_number" 359), (.str "is_number" 360), (.str "/claim/cut.py" 361), (.int (52) 0), (.int (1) 0), (.int (0) 0), (.int (0) 0), (.int (3) 0), (.ref 114), (.bool true), (.int (181) 0), (.ref 115), .none, .none, .none, (.ref 116), (.int (362) 0), (.int (52) 0), (.str "/claim/cut.py" 363)]), #[]⟩),
  (118, kFn "is_number" "is_number" (topP p 17) (.str "forsworn.notes" 254) 117),
  (124, ⟨(.type "code"), none, (.fields #[(.str "_law_src" 367), (.str "_law_src" 368), (.str "/claim/cut.py" 369), (.int (57) 0), (.int (1) 0), (.int (0) 0), (.int (0) 0), (.int (3) 0), (.ref 119), (.bool true), (.int (181) 0), (.ref 120), .none, (.ref 121), (.ref 122), (.ref 123), (.int (371) 0), (.int (57) 0), (.str "/claim/cut.py" 372)]), #[]⟩),
  (125, kFn "_law_src" "_law_src" (topP p 19) (.str "law_forsworn_k49_deeds_written" 365) 124),
  (131, ⟨(.type "code"), none, (.fields #[(.str "_law_next" 374), (.str "_law_next" 375), (.str "/claim/cut.py" 376), (.int (59) 0), (.int (2) 0), (.int (0) 0), (.int (0) 0), (.int (3) 0), (.ref 126), (.bool true), (.int (181) 0), (.ref 127), .none, (.ref 128), (.ref 129), (.ref 130), (.int (381) 0), (.int (59) 0), (.str "/claim/cut.py" 382)]), #[]⟩),
  (132, kFn "_law_next" "_law_next" (topP p 20) (.str "law_forsworn_k49_deeds_written" 365) 131),
  (138, ⟨(.type "code"), none, (.fields #[(.str "_law_whole" 384), (.str "_law_whole" 385), (.str "/claim/cut.py" 386), (.int (74) 0), (.int (1) 0), (.int (0) 0), (.int (0) 0), (.int (3) 0), (.ref 133), (.bool true), (.int (181) 0), (.ref 134), .none, (.ref 135), (.ref 136), (.ref 137), (.int (388) 0), (.int (74) 0), (.str "/claim/cut.py" 389)]), #[]⟩),
  (139, kFn "_law_whole" "_law_whole" (topP p 21) (.str "law_forsworn_k49_deeds_written" 365) 138),
  (145, ⟨(.type "code"), none, (.fields #[(.str "_law_same" 391), (.str "_law_same" 392), (.str "/claim/cut.py" 393), (.int (76) 0), (.int (2) 0), (.int (0) 0), (.int (0) 0), (.int (3) 0), (.ref 140), (.bool true), (.int (181) 0), (.ref 141), .none, (.ref 142), (.ref 143), (.ref 144), (.int (398) 0), (.int (76) 0), (.str "/claim/cut.py" 399)]), #[]⟩),
  (146, kFn "_law_same" "_law_same" (topP p 22) (.str "law_forsworn_k49_deeds_written" 365) 145),
  (152, ⟨(.type "code"), none, (.fields #[(.str "_law_unlike" 401), (.str "_law_unlike" 402), (.str "/claim/cut.py" 403), (.int (93) 0), (.int (2) 0), (.int (0) 0), (.int (0) 0), (.int (3) 0), (.ref 147), (.bool true), (.int (181) 0), (.ref 148), .none, (.ref 149), (.ref 150), (.ref 151), (.int (409) 0), (.int (93) 0), (.str "/claim/cut.py" 410)]), #[]⟩),
  (153, kFn "_law_unlike" "_law_unlike" (topP p 23) (.str "law_forsworn_k49_deeds_written" 365) 152),
  (157, ⟨(.type "code"), none, (.fields #[(.str "_law_word" 412), (.str "_law_word" 413), (.str "/claim/cut.py" 414), (.int (101) 0), (.int (2) 0), (.int (0) 0), (.int (0) 0), (.int (3) 0), (.ref 154), (.bool true), (.int (181) 0), (.ref 155), .none, .none, .none, (.ref 156), (.int (415) 0), (.int (101) 0), (.str "/claim/cut.py" 416)]), #[]⟩),
  (158, kFn "_law_word" "_law_word" (topP p 24) (.str "law_forsworn_k49_deeds_written" 365) 157),
  (164, ⟨(.type "code"), none, (.fields #[(.str "_law_names" 418), (.str "_law_names" 419), (.str "/claim/cut.py" 420), (.int (104) 0), (.int (2) 0), (.int (0) 0), (.int (0) 0), (.int (3) 0), (.ref 159), (.bool true), (.int (181) 0), (.ref 160), .none, (.ref 161), (.ref 162), (.ref 163), (.int (429) 0), (.int (104) 0), (.str "/claim/cut.py" 430)]), #[]⟩),
  (165, kFn "_law_names" "_law_names" (topP p 25) (.str "law_forsworn_k49_deeds_written" 365) 164),
  (171, ⟨(.type "code"), none, (.fields #[(.str "_law_number" 432), (.str "_law_number" 433), (.str "/claim/cut.py" 434), (.int (117) 0), (.int (1) 0), (.int (0) 0), (.int (0) 0), (.int (3) 0), (.ref 166), (.bool true), (.int (181) 0), (.ref 167), .none, (.ref 168), (.ref 169), (.ref 170), (.int (437) 0), (.int (117) 0), (.str "/claim/cut.py" 438)]), #[]⟩),
  (172, kFn "_law_number" "_law_number" (topP p 26) (.str "law_forsworn_k49_deeds_written" 365) 171),
  (176, ⟨(.type "code"), none, (.fields #[(.str "_law_row" 440), (.str "_law_row" 441), (.str "/claim/cut.py" 442), (.int (124) 0), (.int (2) 0), (.int (0) 0), (.int (0) 0), (.int (3) 0), (.ref 173), (.bool true), (.int (181) 0), (.ref 174), .none, .none, .none, (.ref 175), (.int (443) 0), (.int (124) 0), (.str "/claim/cut.py" 444)]), #[]⟩),
  (177, kFn "_law_row" "_law_row" (topP p 27) (.str "law_forsworn_k49_deeds_written" 365) 176),
  (183, ⟨(.type "code"), none, (.fields #[(.str "_law_form" 446), (.str "_law_form" 447), (.str "/claim/cut.py" 448), (.int (126) 0), (.int (1) 0), (.int (0) 0), (.int (0) 0), (.int (3) 0), (.ref 178), (.bool true), (.int (181) 0), (.ref 179), .none, (.ref 180), (.ref 181), (.ref 182), (.int (452) 0), (.int (126) 0), (.str "/claim/cut.py" 453)]), #[]⟩),
  (184, kFn "_law_form" "_law_form" (topP p 28) (.str "law_forsworn_k49_deeds_written" 365) 183),
  (190, ⟨(.type "code"), none, (.fields #[(.str "_law_any_deed" 455), (.str "_law_any_deed" 456), (.str "/claim/cut.py" 457), (.int (130) 0), (.int (2) 0), (.int (0) 0), (.int (0) 0), (.int (3) 0), (.ref 185), (.bool true), (.int (181) 0), (.ref 186), .none, (.ref 187), (.ref 188), (.ref 189), (.int (464) 0), (.int (130) 0), (.str "/claim/cut.py" 465)]), #[]⟩),
  (191, kFn "_law_any_deed" "_law_any_deed" (topP p 29) (.str "law_forsworn_k49_deeds_written" 365) 190),
  (197, ⟨(.type "code"), none, (.fields #[(.str "_law_shown" 467), (.str "_law_shown" 468), (.str "/claim/cut.py" 469), (.int (142) 0), (.int (1) 0), (.int (0) 0), (.int (0) 0), (.int (3) 0), (.ref 192), (.bool true), (.int (181) 0), (.ref 193), .none, (.ref 194), (.ref 195), (.ref 196), (.int (475) 0), (.int (142) 0), (.str "/claim/cut.py" 476)]), #[]⟩),
  (198, kFn "_law_shown" "_law_shown" (topP p 30) (.str "law_forsworn_k49_deeds_written" 365) 197),
  (202, ⟨(.type "code"), none, (.fields #[(.str "law" 478), (.str "law" 479), (.str "/claim/cut.py" 480), (.int (154) 0), (.int (1) 0), (.int (0) 0), (.int (0) 0), (.int (3) 0), (.ref 199), (.bool true), (.int (181) 0), (.ref 200), .none, .none, .none, (.ref 201), (.int (481) 0), (.int (154) 0), (.str "/claim/cut.py" 482)]), #[]⟩),
  (203, kFn "law" "law" (topP p 31) (.str "law_forsworn_k49_deeds_written" 365) 202)]
def KK (P : Params) : PySem.W.Frag := Kp PySem.Challenge.pw_forsworn_k49_deeds_written P
def askd : List Addr := [3, 64, 65, 66, 67, 68, 69, 70, 71, 72, 73, 74, 75, 76, 77, 81, 82, 88, 89, 95, 96, 100, 101, 105, 106, 112, 113, 117, 118, 124, 125, 131, 132, 138, 139, 145, 146, 152, 153, 157, 158, 164, 165, 171, 172, 176, 177, 183, 184, 190, 191, 197, 198, 202, 203]
def HK : PySem.W.Hook := PySem.W.kHook KK askd fun _ => by kernel_rfl
def q : Program := PySem.W.view PySem.Challenge.pw_forsworn_k49_deeds_written [0, 2, 3, 5, 6, 8, 9, 10, 11, 12, 13, 14, 15, 16, 17, 19, 20, 21, 22, 23, 24, 25, 26, 27, 28, 29, 30, 31]
end Law
namespace PySem.W.Fast
noncomputable def tw14222062539635695282 : PySem.Program := PySem.Challenge.pw_forsworn_k49_deeds_written
theorem te14222062539635695282 : PySem.Challenge.pw_forsworn_k49_deeds_written = tw14222062539635695282 := rfl
end PySem.W.Fast
lay_quick PySem.Challenge.rw_forsworn_k49_deeds_written Law.q
namespace Law
open PySem L2
set_option maxRecDepth 1000000 in
theorem runQ (w : World) (os : PySem.OsState) (b : Bool) : Option.map (fun s => PySem.W.Fast.tw12071799914241796487 (PySem.W.Fast.tw2368527892694137696 PySem.W.Fast.tw14031893762794615815).prog PySem.W.Fast.tw2797900513057943271 ["PLAIN", "SWORN"] (fun s => PySem.W.xlAt PySem.W.Fast.tw2797900513057943271 [] s && PySem.W.recOk (PySem.W.Fast.tw2368527892694137696 PySem.W.Fast.tw14031893762794615815).records s) (fun s => askd.map s.heap.get?) (w.withFollow "special-get-raises" b).params s.abs)
    (PySem.W.Fast.tw4652649595001227023 PySem.W.Fast.tw14364793385576792824 (PySem.W.Fast.tw2368527892694137696 PySem.W.Fast.tw14031893762794615815).prog (w.withFollow "special-get-raises" b) 11 (some (.ref 6)) 2878 (PySem.W.Fast.tw15095419895629540892 (w.withFollow "special-get-raises" b).params os) (PySem.W.topStub (PySem.W.Fast.tw2368527892694137696 PySem.W.Fast.tw14031893762794615815).prog)) = some (true, PySem.W.openGood PySem.W.Fast.tw2797900513057943271 ["PLAIN", "SWORN"], (Kp PySem.W.Fast.tw14222062539635695282 (w.withFollow "special-get-raises" b).params).map fun p => some p.2) := by
  cases b <;> kernel_rfl
theorem left : PySem.W.LeftO PySem.Challenge.rw_forsworn_k49_deeds_written.row.prog q ["PLAIN", "SWORN"] (fun s => PySem.W.xlAt q [] s && PySem.W.recOk (PySem.W.RowW.records PySem.Challenge.rw_forsworn_k49_deeds_written.row.toRowW) s) HK.obs HK.val 2878 := by
  refine left_of (by kernel_rfl) (by decide) (fun s => by kernel_rfl) fun w os => ?_
  have h := runQ w os (w.params.followText "special-get-raises")
  rw [World.withFollow_self] at h
  rw [← PySem.W.Fast.te12071799914241796487, ← PySem.W.Fast.te4652649595001227023, ← PySem.W.Fast.te15095419895629540892, ← PySem.W.Fast.te2797900513057943271, ← PySem.W.Fast.te2368527892694137696, ← PySem.W.Fast.te14031893762794615815, ← PySem.W.Fast.te14364793385576792824, ← PySem.W.Fast.te14222062539635695282] at h
  exact h
end Law
section
set_option Elab.async false
set_option linter.all false
set_option maxRecDepth 100000
namespace L2
open PySem PySem.Spec PyProof.Rows
abbrev Key := Sum Int Str
def keyIs : Key -> Value -> Bool
  | .inl k, v => Value.isInt k v
  | .inr x, v => Value.isStrOf x v
def keyH (w : World) : Key -> Int
  | .inl k => hashInt k
  | .inr x => hashStr w x
theorem Zq44 : ∀ {k : Key} {v : Value}, keyIs k v = true -> (∃ i t, k = Sum.inl i /\ v = Value.int i t) \/ (∃ x t, k = Sum.inr x /\ v = Value.str x t)
  | .inl i, v, h => by
    obtain ⟨t, e⟩ := Value.isInt_shape (k := i) (v := v) h
    exact .inl ⟨i, t, rfl, e⟩
  | .inr x, v, h => by
    obtain ⟨t, e⟩ := Value.isStrOf_shape (x := x) (v := v) h
    exact .inr ⟨x, t, rfl, e⟩
theorem keyIs_int (i : Int) (t : Tok) : keyIs (.inl i) (.int i t) = true := by simp [keyIs, Value.isInt]
theorem keyIs_str (x : Str) (t : Tok) : keyIs (.inr x) (.str x t) = true := by simp [keyIs, Value.isStrOf]
theorem key_ll (a b : Int) : decide ((Sum.inl a : Key) = Sum.inl b) = (a == b) := by
  by_cases e : a = b
  · subst e; simp
  · have h : ¬ (Sum.inl a : Key) = Sum.inl b := fun q => e (Sum.inl.inj q)
    rw [decide_eq_false h]
    exact (beq_eq_false_iff_ne.mpr e).symm
theorem key_rr (a b : Str) : decide ((Sum.inr a : Key) = Sum.inr b) = decide (a = b) := by
  by_cases e : a = b
  · subst e; simp
  · have h : ¬ (Sum.inr a : Key) = Sum.inr b := fun q => e (Sum.inr.inj q)
    rw [decide_eq_false h, decide_eq_false e]
theorem key_lr (a : Int) (b : Str) : decide ((Sum.inl a : Key) = Sum.inr b) = false := decide_eq_false (fun q => nomatch q)
theorem key_rl (a : Str) (b : Int) : decide ((Sum.inr a : Key) = Sum.inl b) = false := decide_eq_false (fun q => nomatch q)
def Zq31 (prog : Program) (w : World) : PySem.KeyKind prog w Key where
  is := keyIs
  hash := keyH w
  inj := fun v a b ha hb => by
    rcases Zq44 ha with ⟨i, t, rfl, rfl⟩ | ⟨x, t, rfl, rfl⟩
    · rcases Zq44 hb with ⟨j, u, rfl, e⟩ | ⟨y, u, rfl, e⟩
      · injection e with e1 _; rw [e1]
      · exact nomatch e
    · rcases Zq44 hb with ⟨j, u, rfl, e⟩ | ⟨y, u, rfl, e⟩
      · exact nomatch e
      · injection e with e1 _; rw [e1]
  byValue := fun k v h => by
    rcases Zq44 h with ⟨i, t, rfl, rfl⟩ | ⟨x, t, rfl, rfl⟩ <;> rfl
  pyHash := fun hv h => by
    rcases Zq44 hv with ⟨i, t, rfl, rfl⟩ | ⟨x, t, rfl, rfl⟩
    · exact wpAny_pyHash_int h
    · exact wpAny_pyHash_str h
  eqBool := fun hu hv h => by
    rcases Zq44 hu with ⟨i, t, rfl, rfl⟩ | ⟨x, t, rfl, rfl⟩
    · rcases Zq44 hv with ⟨j, u, rfl, rfl⟩ | ⟨y, u, rfl, rfl⟩
      · rw [key_ll] at h; exact wpAny_eqBool_int h
      · rw [key_lr] at h; exact SeqAt.EqAt.int_str i t y u _ _ _ _ h
    · rcases Zq44 hv with ⟨j, u, rfl, rfl⟩ | ⟨y, u, rfl, rfl⟩
      · rw [key_rl] at h; exact SeqAt.EqAt.str_int x t j u _ _ _ _ h
      · rw [key_rr] at h; exact wpAny_eqBool_str h
  «strs» := fun k x t v h => by
    rcases Zq44 h with ⟨i, u, rfl, e⟩ | ⟨y, u, rfl, e⟩
    · exact nomatch e
    · injection e with e1 _
      subst e1
      cases v <;> rfl
theorem mixKind_int (prog : Program) (w : World) (i : Int) (t : Tok) : (Zq31 prog w).is (.inl i) (.int i t) = true := keyIs_int i t
theorem mixKind_str (prog : Program) (w : World) (x : Str) (t : Tok) : (Zq31 prog w).is (.inr x) (.str x t) = true := keyIs_str x t
end L2
namespace L2
open PySem PySem.Spec PyProof.Rows
inductive V where
  | non | bl (b : Bool) | int (i : Int) | str (x : Str) | byt (b : Array UInt8) | flt (b : UInt64) | ref (a : Addr) | ty (n : String)
  deriving DecidableEq
def RelV : V -> Value -> Prop
  | .non, u => u = Value.none
  | .bl b, u => u = Value.bool b
  | .int i, u => ∃ t, u = Value.int i t
  | .str x, u => ∃ t, u = Value.str x t
  | .byt b, u => ∃ t, u = Value.bytes b t
  | .flt b, u => ∃ t, u = Value.float b t
  | .ref a, u => u = Value.ref a
  | .ty n, u => u = Value.type n
abbrev Vals : List V -> List Value -> Prop := Paired RelV
theorem Vals.length {xs : List V} {us : List Value} (r : Vals xs us) : xs.length = us.length := Paired.length r
theorem Vals.get : ∀ {xs : List V} {us : List Value} {i : Nat} {x : V}, Vals xs us -> xs[i]? = some x -> ∃ u, us[i]? = some u /\ RelV x u
  | _, _, _, _, .nil, e => by simp at e
  | _, _, 0, _, .cons r _, e => by simp at e; subst e; exact ⟨_, rfl, r⟩
  | _, _, i + 1, x, .cons _ t, e => by
    obtain ⟨u, h1, h2⟩ := Vals.get (i := i) (x := x) t (by simpa using e)
    exact ⟨u, by simpa using h1, h2⟩
theorem Vals.set {x : V} {u : Value} (r : RelV x u) : ∀ {xs : List V} {us : List Value} (i : Nat), Vals xs us -> Vals (xs.set i x) (us.set i u)
  | _, _, _, .nil => .nil
  | _, _, 0, .cons _ t => .cons r t
  | _, _, i + 1, .cons q t => .cons q (Vals.set r i t)
theorem Vals.append : ∀ {xs ys : List V} {us ws : List Value}, Vals xs us -> Vals ys ws -> Vals (xs ++ ys) (us ++ ws)
  | _, _, _, _, .nil, s => s
  | _, _, _, _, .cons r t, s => .cons r (Vals.append t s)
theorem Vals.take : ∀ {xs : List V} {us : List Value} (n : Nat), Vals xs us -> Vals (xs.take n) (us.take n)
  | _, _, 0, _ => .nil
  | _, _, _ + 1, .nil => .nil
  | _, _, n + 1, .cons r t => .cons r (Vals.take n t)
theorem Vals.drop : ∀ {xs : List V} {us : List Value} (n : Nat), Vals xs us -> Vals (xs.drop n) (us.drop n)
  | _, _, 0, r => r
  | _, _, _ + 1, .nil => .nil
  | _, _, n + 1, .cons _ t => Vals.drop n t
def RelO : Option V -> Option Value -> Prop
  | some v, some u => RelV v u
  | none, none => True
  | _, _ => False
def KV {κ : Type} : List (κ × V) -> List (κ × Value) -> Prop := Paired fun (p : κ × V) (q : κ × Value) => p.1 = q.1 /\ RelV p.2 q.2
def kV : Key -> V
  | .inl i => .int i
  | .inr x => .str x
inductive HO where
  | lst (xs : List V)
  | tup (xs : List V)
  | dK (kvs : List (Key × V)) | dT (kvs : List (List Key × V))
  | set (S : Int -> Bool) (n : Nat)
  | ins (C dx : Addr) (fs : List (Str × V))
  | own (x : Addr)
  | xd (fs : List (Str × V))
  | met (f x : Addr)
  | rng (lo hi : Int)
  | frz (o : Obj) (u : HO)
  | tbl (ps : Array Value)
  | ext (φ : Heap -> Prop)
abbrev Hp := Addr -> Option HO
def upd (H : Hp) (a : Addr) (o : HO) : Hp := fun b => if b = a then some o else H b
theorem Zq5 {H : Hp} {a : Addr} {o : HO} : upd H a o a = some o := by unfold upd; rw [if_pos rfl]
theorem Zq9 {H : Hp} {a b : Addr} {o : HO} (h : b ≠ a) : upd H a o b = H b := by unfold upd; rw [if_neg h]
theorem Zq12 {H : Hp} {a b : Addr} {o : HO} (h : H a = some o) (h' : H b = none) : a ≠ b := by
  intro e; subst e; rw [h] at h'; cases h'
section
variable (P : Program) (w : World)
def ObjOk (H : Hp) (h : Heap) (a : Addr) : HO -> Prop
  | .lst xs => xs.length <= sizeLine /\ ∃ (its : List Value) (n : Nat), Vals xs its /\ h.get? a = some { cls := .type "list", data := .seq its.toArray n }
  | .tup xs => xs.length <= sizeLine /\ ∃ its : List Value, Vals xs its /\ IsTup h a its.toArray
  | .dK kvs => kvs.length <= sizeLine /\ (a == sysModules) = false /\ ∃ vs, KV kvs vs /\ h.DictOf (Zq31 P w) a vs
  | .dT kvs => kvs.length <= sizeLine /\ (a == sysModules) = false /\ ∃ xs : List (List Key × Addr × Value),
      Paired (fun (p : List Key × V) (q : List Key × Addr × Value) => p.1 = q.1 /\ H q.2.1 = some (.tup (p.1.map kV)) /\ RelV p.2 q.2.2) kvs xs /\
      ∃ o es ep, h.get? a = some o /\ o.ExactDict /\ o.data = .dict es ep /\ es.toList = xs.map (entryOfKey (tupleKind (Zq31 P w))) /\ (xs.map (·.1)).Nodup
  | .set S n => h.SetOf (intKind P w) a S n
  | .ins C dx fs => H dx = some (.own a) /\ fs.length <= 1000 /\ dx ≠ a /\ h.get? a = some (PySem.W.instObj C dx) /\
      ∃ mA, h.Ns1 dx mA /\ (∀ f, RelO (fs.lookup f) (mA f)) /\ PySem.Within mA (fs.map (·.1))
  | .own _ => ∃ o, h.get? a = some o
  | .xd fs => ∃ mA, h.Ns1 a mA /\ ∀ f, RelO (fs.lookup f) (mA f)
  | .rng lo hi => ∃ t u v, h.get? a = some { cls := .type "range", data := .fields #[.int lo t, .int hi u, .int 1 v] }
  | .frz o u => h.get? a = some o /\ ObjOk H h a u
  | .tbl ps => ∃ (qs : Array Value) (nm : Str) (t : Tok), h.get? a = some { cls := .none, data := .fields qs } /\ TriplesOk qs.toList /\ ps[0]? = some (.str nm t) /\ ∀ pos cv, codeAmong pos qs.toList = some cv -> ∃ c, cv = .ref c /\ H c = some (.own a) /\ h.CodeRec (.ref c) nm
  | .met f x => h.get? a = some (PySem.W.methodObj (.ref f) (.ref x))
  | .ext φ => φ h /\ (∃ o, h.get? a = some o) /\ ∀ h1 h2 : Heap, φ h1 -> (∀ o, h1.get? a = some o -> h2.get? a = some o) -> φ h2
def HOk (H : Hp) (h : Heap) : Prop := ∀ a o, H a = some o -> ObjOk P w H h a o
end
section
variable {P : Program} {w : World} {H H' : Hp} {h h' : Heap} {a : Addr} {o : HO}
theorem ObjOk.lt (x : ObjOk P w H h a o) : a < h.objs.size := by
  cases o with
  | lst xs => obtain ⟨_, _, _, _, e⟩ := x; exact Heap.lt_size e
  | tup xs => obtain ⟨_, _, _, p⟩ := x; exact p.lt
  | dK kvs => obtain ⟨_, _, _, _, o, _, _, e, _⟩ := x; exact Heap.lt_size e
  | dT kvs => obtain ⟨_, _, _, _, o, _, _, e, _⟩ := x; exact Heap.lt_size e
  | set S n => obtain ⟨o, _, _, _, e, _⟩ := x; exact Heap.lt_size e
  | ins C dx fs => obtain ⟨_, _, _, e, _⟩ := x; exact Heap.lt_size e
  | own y => obtain ⟨_, e⟩ := x; exact Heap.lt_size e
  | xd fs => obtain ⟨_, ⟨_, _, _, e, _⟩, _⟩ := x; exact Heap.lt_size e
  | rng lo hi => obtain ⟨_, _, _, e⟩ := x; exact Heap.lt_size e
  | frz ob u => obtain ⟨e, _⟩ := x; exact Heap.lt_size e
  | tbl ps => obtain ⟨_, _, _, e, _⟩ := x; exact Heap.lt_size e
  | met f y => exact Heap.lt_size (show h.get? a = some _ from x)
  | ext φ => obtain ⟨_, ⟨_, e⟩, _⟩ := x; exact Heap.lt_size e
theorem Paired.mapP {α β : Type} {F G : α -> β -> Prop} : ∀ {l₁ : List α} {l₂ : List β}, Paired F l₁ l₂ -> (∀ a b, F a b -> G a b) -> Paired G l₁ l₂
  | _, _, .nil, _ => .nil
  | _, _, .cons r t, f => .cons (f _ _ r) (Paired.mapP t f)
theorem ObjOk.stay (x : ObjOk P w H h a o) (k : ∀ b u, (b = a \/ H b = some (.own a)) -> h.get? b = some u -> h'.get? b = some u)
    (ho : ∀ b, H b = some (.own a) -> H' b = some (.own a)) (ht : ∀ b xs, H b = some (.tup xs) -> H' b = some (.tup xs)) : ObjOk P w H' h' a o := by
  induction o with
  | lst xs => obtain ⟨z, its, n, r, e⟩ := x; exact ⟨z, its, n, r, k _ _ (.inl rfl) e⟩
  | tup xs => obtain ⟨z, its, r, ob, e, c⟩ := x; exact ⟨z, its, r, ob, k _ _ (.inl rfl) e, c⟩
  | dK kvs => obtain ⟨z, y, vs, r, ob, es, ep, e, c⟩ := x; exact ⟨z, y, vs, r, ob, es, ep, k _ _ (.inl rfl) e, c⟩
  | dT kvs =>
    obtain ⟨z, y, xs, r, ob, es, ep, e, c⟩ := x
    exact ⟨z, y, xs, Paired.mapP r fun p q z => ⟨z.1, ht _ _ z.2.1, z.2.2⟩, ob, es, ep, k _ _ (.inl rfl) e, c⟩
  | set S n => obtain ⟨ob, es, ep, t, e, c⟩ := x; exact ⟨ob, es, ep, t, k _ _ (.inl rfl) e, c⟩
  | ins C dx fs =>
    obtain ⟨d, z, ne, e, mA, ⟨od, es, ep, e2, c⟩, r⟩ := x
    exact ⟨ho _ d, z, ne, k _ _ (.inl rfl) e, mA, ⟨od, es, ep, k _ _ (.inr d) e2, c⟩, r⟩
  | own y => obtain ⟨ob, e⟩ := x; exact ⟨ob, k _ _ (.inl rfl) e⟩
  | xd fs => obtain ⟨mA, ⟨od, es, ep, e, c⟩, r⟩ := x; exact ⟨mA, ⟨od, es, ep, k _ _ (.inl rfl) e, c⟩, r⟩
  | rng lo hi => obtain ⟨t, u, v, e⟩ := x; exact ⟨t, u, v, k _ _ (.inl rfl) e⟩
  | frz ob u ih => obtain ⟨e, q⟩ := x; exact ⟨k _ _ (.inl rfl) e, ih q⟩
  | tbl ps =>
    obtain ⟨qs, nm, t, e, z1, z2, z3⟩ := x
    refine ⟨qs, nm, t, k a _ (.inl rfl) e, z1, z2, fun pos cv ec => ?_⟩
    obtain ⟨c, e1, e2, c2, oc, vs, tt, e3, e4, e5⟩ := z3 pos cv ec
    cases e3
    exact ⟨c, e1, ho _ e2, c, oc, vs, tt, rfl, k _ _ (.inr e2) e4, e5⟩
  | met f y =>
    have e : h.get? a = some (PySem.W.methodObj (.ref f) (.ref y)) := x
    show h'.get? a = some (PySem.W.methodObj (.ref f) (.ref y))
    exact k a _ (.inl rfl) e
  | ext φ => obtain ⟨p, ⟨o, e⟩, st⟩ := x; exact ⟨st _ _ p fun o q => k _ _ (.inl rfl) q, ⟨o, k _ _ (.inl rfl) e⟩, st⟩
theorem HOk.lt (x : HOk P w H h) (e : H a = some o) : a < h.objs.size := (x a o e).lt
theorem HOk.fresh (x : HOk P w H h) (e : h.objs.size <= a) : H a = none := by
  cases q : H a with
  | none => rfl
  | some u => exact absurd (Nat.lt_of_lt_of_le (x.lt q) e) (Nat.lt_irrefl _)
theorem HOk.kept (x : HOk P w H h) (k : ∀ b u, h.get? b = some u -> h'.get? b = some u) : HOk P w H h' := fun a o e =>
  (x a o e).stay (fun b u _ q => k b u q) (fun _ q => q) fun _ _ q => q
theorem HOk.laid (x : HOk P w H h) (k : ∀ b u, h.get? b = some u -> h'.get? b = some u) (hp : h.objs.size <= a) (new : ObjOk P w (upd H a o) h' a o) : HOk P w (upd H a o) h' := fun b u e => by
  have hn := x.fresh hp
  by_cases hb : b = a
  · subst hb; rw [Zq5] at e; cases e; exact new
  · rw [Zq9 hb] at e
    exact (x b u e).stay (fun c v _ q => k c v q) (fun c q => by rw [Zq9 (Zq12 q hn)]; exact q) fun c xs q => by rw [Zq9 (Zq12 q hn)]; exact q
end
def Rd (H : Hp) (a : Addr) (u : HO) : Prop := H a = some u \/ ∃ o, H a = some (.frz o u)
theorem Rd.ok {P : Program} {w : World} {H : Hp} {h : Heap} {a : Addr} {u : HO} (r : Rd H a u) (x : HOk P w H h) : ObjOk P w H h a u := by
  rcases r with r | ⟨o, r⟩
  · exact x a u r
  · obtain ⟨_, q⟩ := x a _ r
    exact q
def Mut : Option HO -> Prop
  | some (.lst _) => True
  | some (.dK _) => True
  | some (.dT _) => True
  | some (.set _ _) => True
  | some (.ins _ _ _) => True
  | some (.ext _) => True
  | _ => False
section
variable {P : Program} {w : World} {H : Hp} {h h' : Heap} {x e : Addr} {o' : HO}
theorem HOk.write (ok : HOk P w H h) (mu : Mut (H x)) (he : e = x \/ H e = some (.own x)) (k : ∀ b u, b ≠ e -> h.get? b = some u -> h'.get? b = some u) (heo : ∃ u, h'.get? e = some u)
    (new : ObjOk P w (upd H x o') h' x o') : HOk P w (upd H x o') h' := fun b u q => by
  have nown : ∀ c y, H c = some (.own y) -> c ≠ x := fun c y r z => by subst z; rw [r] at mu; exact mu
  have ntup : ∀ c xs, H c = some (.tup xs) -> c ≠ x := fun c xs r z => by subst z; rw [r] at mu; exact mu
  by_cases hb : b = x
  · subst hb; rw [Zq5] at q; cases q; exact new
  · rw [Zq9 hb] at q
    by_cases hbe : b = e
    · have q' : H b = some (.own x) := by
        rcases he with z | z
        · exact absurd (hbe.trans z) hb
        · rw [hbe]; exact z
      rw [q] at q'; cases q'
      obtain ⟨v, hv⟩ := heo
      exact ⟨v, by rw [hbe]; exact hv⟩
    · refine (ok b u q).stay (fun c v hc r => k c v ?_ r) (fun c r => by rw [Zq9 (nown c b r)]; exact r) fun c xs r => by rw [Zq9 (ntup c xs r)]; exact r
      rcases hc with rfl | hc
      · exact hbe
      · rintro rfl
        rcases he with z | z
        · exact nown c b hc z
        · rw [hc] at z; cases z; exact hb rfl
end
structure Un (fs ex : List Addr) (H H' : Hp) (h h' : Heap) : Prop where
  keep : ∀ b o, h.get? b = some o -> H b = none -> b ∉ fs -> b ∉ ex -> h'.get? b = some o
  slot : ∀ b o, h.get? b = some o -> H b = none -> b ∈ fs -> b ∉ ex -> ∃ sl, h'.get? b = some { o with slots := sl }
  free : ∀ b o, h.get? b = some o -> H b = none -> b ∉ ex -> H' b = none
  there : ∀ b o, h.get? b = some o -> b ∉ ex -> ∃ o', h'.get? b = some o'
  tups : ∀ b xs, H b = some (.tup xs) -> H' b = some (.tup xs)
  frzs : ∀ b o u, H b = some (.frz o u) -> H' b = some (.frz o u)
  tbls : ∀ b ps, H b = some (.tbl ps) -> ∃ more, H' b = some (.tbl (ps ++ more))
section
variable {fs fs' ex ex' : List Addr} {H H1 H2 : Hp} {h h1 h2 h' : Heap} {a x e : Addr} {o : HO}
theorem Un.any (u : Un fs ex H H1 h h1) {b : Addr} {ob : Obj} (q : h.get? b = some ob) (n : H b = none) (hx : b ∉ ex) : ∃ sl, h1.get? b = some { ob with slots := sl } := by
  by_cases hb : b ∈ fs
  · exact u.slot b ob q n hb hx
  · exact ⟨ob.slots, u.keep b ob q n hb hx⟩
theorem Un.kept (k : ∀ b u, h.get? b = some u -> h'.get? b = some u) : Un fs ex H H h h' :=
  ⟨fun b ob q _ _ _ => k b ob q, fun b ob q _ _ _ => ⟨ob.slots, k b ob q⟩, fun _ _ _ n _ => n, fun b ob q _ => ⟨ob, k b ob q⟩, fun _ _ q => q, fun _ _ _ q => q, fun _ ps q => ⟨#[], by rw [q]; simp⟩⟩
theorem Un.refl : Un fs ex H H h h := Un.kept fun _ _ q => q
theorem Un.laid (k : ∀ b u, h.get? b = some u -> h'.get? b = some u) (hp : h.objs.size <= a) (hn : H a = none) : Un fs ex H (upd H a o) h h' where
  keep := fun b u q _ _ _ => k b u q
  slot := fun b u q _ _ _ => ⟨u.slots, k b u q⟩
  free := fun b u q n _ => by rw [Zq9 (Nat.ne_of_lt (Nat.lt_of_lt_of_le (Heap.lt_size q) hp))]; exact n
  there := fun b u q _ => ⟨u, k b u q⟩
  tups := fun b xs q => by rw [Zq9 (Zq12 q hn)]; exact q
  frzs := fun b u xs q => by rw [Zq9 (Zq12 q hn)]; exact q
  tbls := fun b ps q => ⟨#[], by rw [Zq9 (Zq12 q hn), q]; simp⟩
theorem Un.write (mu : Mut (H x)) (he : e = x \/ H e = some (.own x)) (k : ∀ b u, b ≠ e -> h.get? b = some u -> h'.get? b = some u) (heo : ∃ u, h'.get? e = some u) : Un fs ex H (upd H x o) h h' := by
  have hx : ∀ b, H b = none -> b ≠ x := fun b n z => by subst z; rw [n] at mu; exact mu
  have hb : ∀ b, H b = none -> b ≠ e := fun b n z => by
    subst z
    rcases he with r | r
    · exact hx b n r
    · rw [n] at r; cases r
  have hm : ∀ b u, H b = some u -> ¬ Mut (some u) -> b ≠ x := fun b u q nm z => by subst z; rw [q] at mu; exact nm mu
  refine ⟨fun b u q n _ _ => k b u (hb b n) q, fun b u q n _ _ => ⟨u.slots, k b u (hb b n) q⟩, fun b u q n _ => by rw [Zq9 (hx b n)]; exact n, fun b u q _ => ?_,
    fun b xs q => by rw [Zq9 (hm b _ q fun z => z)]; exact q, fun b u xs q => by rw [Zq9 (hm b _ q fun z => z)]; exact q, fun b ps q => ⟨#[], by rw [Zq9 (hm b _ q fun z => z), q]; simp⟩⟩
  by_cases hbe : b = e
  · subst hbe; exact heo
  · exact ⟨u, k b u hbe q⟩
end
def trk (h : Heap) (H : Hp) : List Addr := (List.range h.objs.size).filter fun a => (H a).isSome
def hidT (h : Heap) (H : Hp) : Heap := PySem.W.hideAll h (trk h H)
theorem hidT_size (h : Heap) (H : Hp) : (hidT h H).objs.size = h.objs.size := PySem.W.hideAll_size _ _
theorem hidT_get {h : Heap} {H : Hp} {b : Addr} {o : Obj} (e : h.get? b = some o) (n : H b = none) : (hidT h H).get? b = some o :=
  PySem.W.hideAll_get _ e fun hm => by
    have q : (H b).isSome = true := (List.mem_filter.mp hm).2
    rw [n] at q; simp at q
theorem of_hidT {h : Heap} {H : Hp} {b : Addr} {o : Obj} (e : (hidT h H).get? b = some o) : h.get? b = some o /\ H b = none := by
  have e' : h.get? b = some o := PySem.W.of_hideAll (trk h H) e
  refine ⟨e', ?_⟩
  cases q : H b with
  | none => rfl
  | some x =>
    have hm : b ∈ trk h H := List.mem_filter.mpr ⟨List.mem_range.mpr (Heap.lt_size e'), by simp [q]⟩
    have z : (hidT h H).get? b = none := PySem.W.hideAll_none (trk h H) hm
    rw [z] at e; cases e
end L2
namespace L2
open PySem PySem.Spec PyProof.Rows
structure Mod (K : PySem.W.Frag) (mg : Str -> Option Value) (base : Heap) : Prop where
  kin : K.In base
  glob : base.Ns mainGlobals mg
  blt : ∃ mb, base.Ns builtinsNs mb /\ ∀ x : Str, x ≠ "__name__" -> mb x = bootBuiltins x
  nolimit : base.NoLimit
/-- the context: a def's body (or a comprehension's block) running. base: fixed through the whole law; s₀, H₀: the entry; outer: the frames whose slots others may change (a def's callers); stack: all frames that run;
   ex: iterators that were made ahead of the entry and are walked here (a comprehension's); fn: the names whose cells were made at the entry (a def: all; a comprehension's block: its own); calm: not within an except suite; pn: pins that every state bears; xe: what is wanted of an exception that leaves the code -/
structure Cx where
  prog : Program
  w : World
  K : PySem.W.Frag
  mg : Str -> Option Value
  base : Heap
  A : Around
  N : List Str
  s₀ : Shared
  H₀ : Hp
  env : Env
  outer : List Env
  stack : List Env
  ex : List Addr
  fn : Str -> Bool
  calm : Bool
  pn : List (Addr × Obj)
  xe : Value -> Shared -> Prop
def frs (l : List Env) : List Addr := l.filterMap (·.frame)
abbrev Cx.fs (X : Cx) : List Addr := frs X.outer
def Vis (sc : Scope) (x : Str) : Prop := sc.names.lookup x = some .local \/ sc.names.lookup x = some .cell \/ sc.names.lookup x = some .free
def Loc (sc : Scope) (x : Str) : Prop := sc.names.lookup x = some .local \/ sc.names.lookup x = some .cell
def Look (env : Env) (h : Heap) (m : Str -> Option Value) (x : Str) (u : Value) : Prop :=
  (env.kindOf x = some .local /\ m x = some u) \/ ((env.kindOf x = some .cell \/ env.kindOf x = some .free) /\ ∃ c, env.cells.lookup x = some c /\ h.IsCell c (some u))
structure Cx.Ok (X : Cx) : Prop where
  mod : Mod X.K X.mg X.base
  kind : X.env.scope.kind = .function
  glob : X.env.globals = mainGlobals
  blt : X.env.builtins = builtinsNs
  above : X.s₀.heap.objs.size <= X.env.locals
  inj : ∀ x y c, X.env.cells.lookup x = some c -> X.env.cells.lookup y = some c -> x = y
  has : ∀ x, (X.env.kindOf x = some .cell \/ X.env.kindOf x = some .free) -> ∃ c, X.env.cells.lookup x = some c
  cab : ∀ x c, X.fn x = true -> X.env.cells.lookup x = some c -> X.s₀.heap.objs.size <= c
  hd : X.calm = true -> X.A.handled = none
  frames : X.A.frames = some X.stack
  stk : X.stack = X.outer \/ (X.stack = X.env :: X.outer /\ X.env.frame = some X.env.locals)
  exf : ∀ b ∈ X.ex, b ≠ X.env.locals /\ ∀ x c, X.env.cells.lookup x = some c -> c ≠ b
  bs : ∀ b o, X.base.get? b = some o -> X.s₀.heap.get? b = some o /\ X.H₀ b = none
  bsz : X.base.objs.size <= X.s₀.heap.objs.size
  noex : ∀ b o, X.base.get? b = some o -> b ∉ X.ex
  exfs : ∀ b ∈ X.ex, b ∉ X.fs
  funs : X.s₀.heap.FunFrames X.base X.outer
  frf : ∀ b ∈ X.fs, X.H₀ b = none
structure Inv (X : Cx) (pins : List (Addr × Obj)) (σ : List (Option V)) (H : Hp) (s : Shared) : Prop where
  ok : X.Ok
  os : s.os = X.s₀.os
  bare : AllBare s.gens
  base : Un X.fs X.ex X.H₀ H X.s₀.heap s.heap
  loc : ∃ m, s.heap.Ns X.env.locals m /\ ∀ (i : Nat) (x : Str) (v : V), X.N[i]? = some x -> σ[i]? = some (some v) -> Vis X.env.scope x -> ∃ u, RelV v u /\ Look X.env s.heap m x u
  cell : ∀ x c, X.env.cells.lookup x = some c -> ∃ v, s.heap.IsCell c v
  free : H X.env.locals = none
  freeC : ∀ x c, X.env.cells.lookup x = some c -> H c = none
  pin : ∀ p ∈ X.pn ++ pins, s.heap.get? p.1 = some p.2 /\ H p.1 = none /\ p.1 ≠ X.env.locals /\ p.1 ∉ X.fs /\ ∀ v, p.2.data ≠ .cell v
  hok : HOk X.prog X.w H s.heap
  len : σ.length = X.N.length
section
variable {X : Cx} {pins : List (Addr × Obj)} {σ : List (Option V)} {H H' : Hp} {s : Shared} {h' : Heap}
theorem Cx.Ok.nofr (ok : X.Ok) {b : Addr} {o : Obj} (e : X.base.get? b = some o) : b ∉ X.fs := fun hb => by
  have := (ok.funs.mem hb).1
  rw [e] at this; cases this
theorem Inv.bs (I : Inv X pins σ H s) : ∀ b o, X.base.get? b = some o -> s.heap.get? b = some o /\ H b = none := fun b o e =>
  ⟨I.base.keep b o (I.ok.bs b o e).1 (I.ok.bs b o e).2 (I.ok.nofr e) (I.ok.noex b o e), I.base.free b o (I.ok.bs b o e).1 (I.ok.bs b o e).2 (I.ok.noex b o e)⟩
theorem Inv.bk (I : Inv X pins σ H s) : ∀ b o, X.base.get? b = some o -> s.heap.get? b = some o := fun b o e => (I.bs b o e).1
theorem Inv.mod (I : Inv X pins σ H s) : Mod X.K X.mg X.base := I.ok.mod
theorem Inv.kIn (I : Inv X pins σ H s) : X.K.In s.heap := I.ok.mod.kin.keeps I.bk
theorem Inv.lt (I : Inv X pins σ H s) : X.env.locals < s.heap.objs.size := let ⟨_, hn, _⟩ := I.loc; hn.lt
theorem Inv.sz (I : Inv X pins σ H s) : X.s₀.heap.objs.size <= s.heap.objs.size := Nat.le_trans I.ok.above (Nat.le_of_lt I.lt)
theorem Inv.nofs (I : Inv X pins σ H s) {a : Addr} (h : s.heap.objs.size <= a) : a ∉ X.fs := fun hb => by
  obtain ⟨_, o, ho, _⟩ := I.ok.funs.mem hb
  exact absurd (Nat.lt_of_lt_of_le (Heap.lt_size ho) (Nat.le_trans I.sz h)) (Nat.lt_irrefl _)
theorem Inv.cne (I : Inv X pins σ H s) : ∀ x c, X.env.cells.lookup x = some c -> c ≠ X.env.locals := fun x c e z => by
  obtain ⟨v, o, ho, hd⟩ := I.cell x c e
  obtain ⟨m, ⟨o', es, ep, ho', hd', _⟩, _⟩ := I.loc
  rw [z, ho'] at ho; cases ho; rw [hd'] at hd; cases hd
theorem Inv.funs (I : Inv X pins σ H s) : s.heap.FunFrames X.base X.outer := by
  have all : ∀ (l : List Env), (∀ b ∈ frs l, b ∈ X.fs) -> X.s₀.heap.FunFrames X.base l -> s.heap.FunFrames X.base l := by
    intro l
    induction l with
    | nil => intro _ _; trivial
    | cons env r ih =>
      intro hs hl
      obtain ⟨hk, ⟨L, o, hf, hn, ho, hd⟩, hr⟩ := hl
      have hL : L ∈ X.fs := hs L (by unfold frs; rw [List.filterMap_cons, hf]; exact List.mem_cons_self)
      obtain ⟨sl, e⟩ := I.base.slot L o ho (I.ok.frf L hL) hL fun z => I.ok.exfs L z hL
      exact ⟨hk, ⟨L, _, hf, hn, e, hd⟩, ih (fun b hb => hs b (by unfold frs; rw [List.filterMap_cons, hf]; exact List.mem_cons_of_mem _ hb)) hr⟩
  exact all X.outer (fun _ hb => hb) I.ok.funs
theorem Inv.stack (I : Inv X pins σ H s) : s.heap.FunFrames X.base X.stack := by
  rcases I.ok.stk with e | ⟨e, hf⟩
  · rw [e]; exact I.funs
  · rw [e]
    obtain ⟨m, hn, _⟩ := I.loc
    refine .cons (by rw [I.ok.kind]; decide) hf hn ?_ I.funs
    exact Heap.get?_none_of_le (Nat.le_trans I.ok.bsz I.ok.above)
theorem Inv.stkSub (I : Inv X pins σ H s) : ∀ b ∈ frs X.stack, b ∈ X.env.locals :: X.fs := fun b hb => by
  rcases I.ok.stk with e | ⟨e, hf⟩
  · rw [e] at hb; exact List.mem_cons_of_mem _ hb
  · rw [e] at hb
    unfold frs at hb
    rw [List.filterMap_cons, hf] at hb
    exact hb
theorem Inv.stkFree (I : Inv X pins σ H s) : ∀ b ∈ frs X.stack, H b = none := fun b hb => by
  rcases List.mem_cons.mp (I.stkSub b hb) with e | hb
  · rw [e]; exact I.free
  · obtain ⟨_, o, ho, _⟩ := I.ok.funs.mem hb
    exact I.base.free b o ho (I.ok.frf b hb) fun z => I.ok.exfs b z hb
theorem Inv.step {g' : Array GenState} {t' : Nat} {d' : Drawn} {ch : List Addr} (I : Inv X pins σ H s)
    (hch : ∀ b ∈ ch, (b ∈ X.ex \/ X.s₀.heap.objs.size <= b) /\ b ≠ X.env.locals /\ (∀ x c, X.env.cells.lookup x = some c -> c ≠ b) /\ ∀ p ∈ X.pn ++ pins, p.1 ≠ b)
    (keep : ∀ b o, b ≠ X.env.locals -> b ∉ X.fs -> b ∉ ch -> s.heap.get? b = some o -> H b = none -> h'.get? b = some o)
    (slot : ∀ b o, b ≠ X.env.locals -> b ∈ X.fs -> b ∉ ch -> s.heap.get? b = some o -> H b = none -> ∃ sl, h'.get? b = some { o with slots := sl }) (free : ∀ b o, b ∉ ch -> s.heap.get? b = some o -> H b = none -> H' b = none)
    (there : ∀ b o, b ∉ ch -> s.heap.get? b = some o -> ∃ o', h'.get? b = some o')
    (tups : ∀ b xs, H b = some (.tup xs) -> H' b = some (.tup xs)) (frzs : ∀ b o u, H b = some (.frz o u) -> H' b = some (.frz o u)) (tbls : ∀ b ps, H b = some (.tbl ps) -> ∃ more, H' b = some (.tbl (ps ++ more)))
    (ns : ∀ m, s.heap.Ns X.env.locals m -> h'.Ns X.env.locals m) (hok : HOk X.prog X.w H' h') (hg : AllBare g') :
    Inv X pins σ H' { s with heap := h', gens := g', drawn := d', toks := t' } := by
  have neL : ∀ b o, X.s₀.heap.get? b = some o -> b ≠ X.env.locals := fun b o e => Nat.ne_of_lt (Nat.lt_of_lt_of_le (Heap.lt_size e) I.ok.above)
  have neC : ∀ b o, X.s₀.heap.get? b = some o -> b ∉ X.ex -> b ∉ ch := fun b o e hx hb => by
    rcases (hch b hb).1 with z | z
    · exact hx z
    · exact absurd (Nat.lt_of_lt_of_le (Heap.lt_size e) z) (Nat.lt_irrefl _)
  have cellK : ∀ x c, X.env.cells.lookup x = some c -> ∀ v, s.heap.IsCell c v -> h'.IsCell c v := fun x c e v ⟨o, ho, hd⟩ => by
    have nch : c ∉ ch := fun z => (hch c z).2.2.1 x c e rfl
    by_cases hc : c ∈ X.fs
    · obtain ⟨sl, q⟩ := slot c o (I.cne x c e) hc nch ho (I.freeC x c e)
      exact ⟨_, q, hd⟩
    · exact ⟨o, keep c o (I.cne x c e) hc nch ho (I.freeC x c e), hd⟩
  refine ⟨I.ok, I.os, hg, ⟨fun b o e n hb hx => ?_, fun b o e n hb hx => ?_, fun b o e n hx => ?_, fun b o e hx => ?_, fun b xs e => tups b xs (I.base.tups b xs e), fun b o xs e => frzs b o xs (I.base.frzs b o xs e), fun b ps e => ?_⟩, ?_, fun x c e => ?_, ?_, fun x c e => ?_, fun p hp => ?_, hok, I.len⟩
  · exact keep b o (neL b o e) hb (neC b o e hx) (I.base.keep b o e n hb hx) (I.base.free b o e n hx)
  · obtain ⟨sl, e1⟩ := I.base.slot b o e n hb hx
    obtain ⟨sl', e2⟩ := slot b _ (neL b o e) hb (neC b o e hx) e1 (I.base.free b o e n hx)
    exact ⟨sl', e2⟩
  · obtain ⟨o', e1⟩ := I.base.there b o e hx
    exact free b o' (neC b o e hx) e1 (I.base.free b o e n hx)
  · obtain ⟨o', e1⟩ := I.base.there b o e hx
    exact there b o' (neC b o e hx) e1
  · obtain ⟨m1, e1⟩ := I.base.tbls b ps e
    obtain ⟨m2, e2⟩ := tbls b _ e1
    exact ⟨m1 ++ m2, by rw [e2, Array.append_assoc]⟩
  · obtain ⟨m, hn, hl⟩ := I.loc
    refine ⟨m, ns m hn, fun i x v e1 e2 e3 => ?_⟩
    obtain ⟨u, r, l⟩ := hl i x v e1 e2 e3
    refine ⟨u, r, ?_⟩
    rcases l with l | ⟨k, c, e, z⟩
    · exact .inl l
    · exact .inr ⟨k, c, e, cellK x c e _ z⟩
  · obtain ⟨v, z⟩ := I.cell x c e
    exact ⟨v, cellK x c e v z⟩
  · obtain ⟨m, ⟨o, _, _, ho, _⟩, _⟩ := I.loc
    exact free _ o (fun z => (hch _ z).2.1 rfl) ho I.free
  · obtain ⟨v, o, ho, hd⟩ := I.cell x c e
    exact free c o (fun z => (hch c z).2.2.1 x c e rfl) ho (I.freeC x c e)
  · obtain ⟨e, n, ne, nf, d⟩ := I.pin p hp
    have nch : p.1 ∉ ch := fun z => (hch p.1 z).2.2.2 p hp rfl
    exact ⟨keep p.1 p.2 ne nf nch e n, free p.1 p.2 nch e n, ne, nf, d⟩
theorem Inv.un {t' : Nat} (I : Inv X pins σ H s) (u : Un X.fs [] H H' s.heap h') (hok : HOk X.prog X.w H' h') : Inv X pins σ H' { s with heap := h', toks := t' } := by
  obtain ⟨m, ⟨o, es, ep, ho, r⟩, _⟩ := id I.loc
  obtain ⟨sl, hL⟩ := u.any ho I.free (by simp)
  exact I.step (g' := s.gens) (d' := s.drawn) (ch := []) (fun _ z => nomatch z) (fun b o _ hb _ e n => u.keep b o e n hb (by simp)) (fun b o _ hb _ e n => u.slot b o e n hb (by simp)) (fun b o _ e n => u.free b o e n (by simp)) (fun b o _ e => u.there b o e (by simp)) u.tups u.frzs u.tbls (fun m' hm => by
    obtain ⟨o', es', ep', ho', r'⟩ := hm
    rw [ho] at ho'; cases ho'
    exact ⟨_, es', ep', hL, r'⟩) hok I.bare
theorem Inv.call {g' : Array GenState} {t' : Nat} {d' : Drawn} {ch : List Addr} (I : Inv X pins σ H s) (u : Un (frs X.stack) ch H H' s.heap h') (hok : HOk X.prog X.w H' h') (hg : AllBare g')
    (hch : ∀ b ∈ ch, (b ∈ X.ex \/ X.s₀.heap.objs.size <= b) /\ b ≠ X.env.locals /\ (∀ x c, X.env.cells.lookup x = some c -> c ≠ b) /\ ∀ p ∈ X.pn ++ pins, p.1 ≠ b) :
    Inv X pins σ H' { s with heap := h', gens := g', drawn := d', toks := t' } := by
  obtain ⟨m, ⟨o, es, ep, ho, r⟩, _⟩ := id I.loc
  obtain ⟨sl, hL⟩ := u.any ho I.free fun z => (hch _ z).2.1 rfl
  exact I.step (ch := ch) hch (fun b o hL hb hc e n => u.keep b o e n (fun z => (List.mem_cons.mp (I.stkSub b z)).elim hL hb) hc) (fun b o _ _ hc e n => u.any e n hc) (fun b o hc e n => u.free b o e n hc) (fun b o hc e => u.there b o e hc) u.tups u.frzs u.tbls (fun m' hm => by
    obtain ⟨o', es', ep', ho', r'⟩ := hm
    rw [ho] at ho'; cases ho'
    exact ⟨_, es', ep', hL, r'⟩) hok hg
theorem Inv.turned {t' : Nat} {it : Addr} (I : Inv X pins σ H s) (k : ∀ b o, b ≠ it -> s.heap.get? b = some o -> h'.get? b = some o) (hn : H it = none) (hL : it ≠ X.env.locals)
    (h1 : it ∈ X.ex \/ X.s₀.heap.objs.size <= it) (h2 : ∀ x c, X.env.cells.lookup x = some c -> c ≠ it) (h3 : ∀ p ∈ X.pn ++ pins, p.1 ≠ it) : Inv X pins σ H { s with heap := h', toks := t' } := by
  have nit : ∀ b u, H b = some u -> b ≠ it := fun b u e z => by rw [z, hn] at e; cases e
  refine I.step (g' := s.gens) (d' := s.drawn) (ch := [it]) (fun b hb => ?_) (fun b o _ _ hc e _ => k b o (fun z => hc (by simp [z])) e) (fun b o _ _ hc e _ => ⟨o.slots, k b o (fun z => hc (by simp [z])) e⟩) (fun _ _ _ _ n => n)
    (fun b o hc e => ⟨o, k b o (fun z => hc (by simp [z])) e⟩) (fun _ _ e => e) (fun _ _ _ e => e) (fun b ps e => ⟨#[], by rw [e]; simp⟩) (fun m hm => ?_) (fun b u e => ?_) I.bare
  · have e : b = it := by simpa using hb
    subst e
    exact ⟨h1, hL, h2, h3⟩
  · obtain ⟨o, es, ep, ho, r⟩ := hm
    exact ⟨o, es, ep, k _ o (Ne.symm hL) ho, r⟩
  · refine (I.hok b u e).stay (fun c v hc q => k c v ?_ q) (fun _ q => q) fun _ _ q => q
    rcases hc with z | z
    · rw [z]; exact nit b u e
    · exact nit c _ z
theorem Inv.tok (I : Inv X pins σ H s) (t : Nat) : Inv X pins σ H { s with toks := t } := I.un (h' := s.heap) (t' := t) Un.refl I.hok
theorem Inv.kept {t' : Nat} (I : Inv X pins σ H s) (k : ∀ b u, s.heap.get? b = some u -> h'.get? b = some u) : Inv X pins σ H { s with heap := h', toks := t' } := I.un (Un.kept k) (I.hok.kept k)
theorem Inv.laid {a : Addr} {o : HO} {t' : Nat} (I : Inv X pins σ H s) (k : ∀ b u, s.heap.get? b = some u -> h'.get? b = some u) (hp : s.heap.objs.size <= a) (new : ObjOk X.prog X.w (upd H a o) h' a o) :
    Inv X pins σ (upd H a o) { s with heap := h', toks := t' } := I.un (Un.laid k hp (I.hok.fresh hp)) (I.hok.laid k hp new)
theorem Inv.write {x e : Addr} {o : HO} {t' : Nat} (I : Inv X pins σ H s) (mu : Mut (H x)) (he : e = x \/ H e = some (.own x)) (k : ∀ b u, b ≠ e -> s.heap.get? b = some u -> h'.get? b = some u) (heo : ∃ u, h'.get? e = some u)
    (new : ObjOk X.prog X.w (upd H x o) h' x o) : Inv X pins σ (upd H x o) { s with heap := h', toks := t' } := I.un (Un.write mu he k heo) (I.hok.write mu he k heo new)
theorem Inv.pins_of {pins' : List (Addr × Obj)} (I : Inv X pins σ H s) (h : ∀ p ∈ pins', s.heap.get? p.1 = some p.2 /\ H p.1 = none /\ p.1 ≠ X.env.locals /\ p.1 ∉ X.fs /\ ∀ v, p.2.data ≠ .cell v) : Inv X pins' σ H s :=
  ⟨I.ok, I.os, I.bare, I.base, I.loc, I.cell, I.free, I.freeC, fun p hp => (List.mem_append.mp hp).elim (fun z => I.pin p (List.mem_append_left _ z)) (h p), I.hok, I.len⟩
theorem nodup_ix {N : List Str} (hN : N.Nodup) {i j : Nat} {x : Str} (a : N[i]? = some x) (b : N[j]? = some x) : i = j := by
  obtain ⟨h1, e1⟩ := List.getElem?_eq_some_iff.mp a
  obtain ⟨h2, e2⟩ := List.getElem?_eq_some_iff.mp b
  exact (List.getElem_inj hN).mp (e1.trans e2.symm)
theorem store_ok2 {M : Model} {A : Around} {E : Value -> Shared -> Prop} {i : Nat} {x : Str} {v : V} {u : Value} {Q : Unit -> Shared -> Prop} (I : Inv X pins σ H s) (hN : X.N.Nodup) (hi : X.N[i]? = some x) (hx : Loc X.env.scope x) (r : RelV v u)
    (h : ∀ s', Inv X pins (σ.set i (some v)) H s' -> (∃ a, Heap.SameBut a s.heap s'.heap /\ (a = X.env.locals \/ X.env.cells.lookup x = some a)) -> Q () s') (hf : X.fn x = true \/ X.env.scope.names.lookup x = some .local := by first | exact .inl rfl | exact .inr rfl | assumption) : wpAny M A (storeName X.env x u) Q E s := by
  obtain ⟨m, hn, hl⟩ := id I.loc
  have hcls : (X.env.scope.kind == .class || (X.env.scope.kind == .module && X.env.locals != X.env.globals)) = false := by rw [I.ok.kind]; rfl
  have hiσ : i < σ.length := by rw [I.len]; exact (List.getElem?_eq_some_iff.mp hi).1
  have cne := I.cne
  have tracked : ∀ {a : Addr} {h' : Heap}, (∃ o, s.heap.get? a = some o /\ H a = none) -> Heap.SameBut a s.heap h' -> HOk X.prog X.w H h' := fun {a h'} ha hs b ob e => by
    obtain ⟨_, _, hfree⟩ := ha
    refine (I.hok b ob e).stay (fun c w' hc q => (hs.2 c ?_).trans q) (fun _ q => q) fun _ _ q => q
    rintro rfl
    rcases hc with rfl | hc
    · rw [hfree] at e; cases e
    · rw [hfree] at hc; cases hc
  rcases hx with hk | hk
  · refine wpAny_storeName_local hk hn (fun h' hn' hs => ?_) hcls
    obtain ⟨oL, _, _, hoL, _⟩ := id hn
    refine h _ ⟨I.ok, I.os, I.bare, ⟨fun b o e n hb hx => ?_, fun b o e n hb hx => ?_, I.base.free, fun b o e hx => ?_, I.base.tups, I.base.frzs, I.base.tbls⟩, ⟨_, hn', fun j y v' e1 e2 e3 => ?_⟩, fun y c e => ?_, I.free, I.freeC, fun p hp => ?_, tracked ⟨oL, hoL, I.free⟩ hs, by simpa using I.len⟩ ⟨_, hs, .inl rfl⟩
    · exact (hs.2 b (Nat.ne_of_lt (Nat.lt_of_lt_of_le (Heap.lt_size e) I.ok.above))).trans (I.base.keep b o e n hb hx)
    · obtain ⟨sl, e1⟩ := I.base.slot b o e n hb hx
      exact ⟨sl, (hs.2 b (Nat.ne_of_lt (Nat.lt_of_lt_of_le (Heap.lt_size e) I.ok.above))).trans e1⟩
    · obtain ⟨o', e1⟩ := I.base.there b o e hx
      exact ⟨o', (hs.2 b (Nat.ne_of_lt (Nat.lt_of_lt_of_le (Heap.lt_size e) I.ok.above))).trans e1⟩
    · by_cases hj : j = i
      · subst hj
        rw [hi] at e1; cases e1
        rw [List.getElem?_set_self hiσ] at e2
        cases e2
        exact ⟨u, r, .inl ⟨hk, by simp⟩⟩
      · rw [List.getElem?_set_ne (Ne.symm hj)] at e2
        obtain ⟨u', r', q⟩ := hl j y v' e1 e2 e3
        refine ⟨u', r', ?_⟩
        rcases q with ⟨k, e⟩ | ⟨k, c, e, z⟩
        · refine .inl ⟨k, ?_⟩
          have : y ≠ x := fun e => hj (nodup_ix hN e1 (e ▸ hi))
          simp [this, e]
        · exact .inr ⟨k, c, e, z.sameBut hs (cne y c e)⟩
    · obtain ⟨w', z⟩ := I.cell y c e
      exact ⟨w', z.sameBut hs (cne y c e)⟩
    · obtain ⟨e, n, ne, nf, d⟩ := I.pin p hp
      exact ⟨(hs.2 p.1 ne).trans e, n, ne, nf, d⟩
  · have hfn : X.fn x = true := by
      rcases hf with z | z
      · exact z
      · rw [z] at hk; cases hk
    obtain ⟨c, hc⟩ := I.ok.has x (.inl hk)
    obtain ⟨w', z⟩ := I.cell x c hc
    refine wpAny_storeName_cell I.ok.kind hk hc z (fun h' hc' hs => ?_)
    obtain ⟨oc, hoc, hocd⟩ := id z
    refine h { s with heap := h' } ⟨I.ok, I.os, I.bare, ⟨fun b o e n hb hx => ?_, fun b o e n hb hx => ?_, I.base.free, fun b o e hx => ?_, I.base.tups, I.base.frzs, I.base.tbls⟩, ⟨m, hn.sameBut hs (Ne.symm (cne x c hc)), fun j y v' e1 e2 e3 => ?_⟩, fun y c' e => ?_, I.free, I.freeC, fun p hp => ?_, tracked ⟨oc, hoc, I.freeC x c hc⟩ hs, by simpa using I.len⟩ ⟨c, hs, .inr hc⟩
    · exact (hs.2 b (Nat.ne_of_lt (Nat.lt_of_lt_of_le (Heap.lt_size e) (I.ok.cab x c hfn hc)))).trans (I.base.keep b o e n hb hx)
    · obtain ⟨sl, e1⟩ := I.base.slot b o e n hb hx
      exact ⟨sl, (hs.2 b (Nat.ne_of_lt (Nat.lt_of_lt_of_le (Heap.lt_size e) (I.ok.cab x c hfn hc)))).trans e1⟩
    · obtain ⟨o', e1⟩ := I.base.there b o e hx
      exact ⟨o', (hs.2 b (Nat.ne_of_lt (Nat.lt_of_lt_of_le (Heap.lt_size e) (I.ok.cab x c hfn hc)))).trans e1⟩
    · by_cases hj : j = i
      · subst hj
        rw [hi] at e1; cases e1
        rw [List.getElem?_set_self hiσ] at e2
        cases e2
        exact ⟨u, r, .inr ⟨.inl hk, c, hc, hc'⟩⟩
      · rw [List.getElem?_set_ne (Ne.symm hj)] at e2
        obtain ⟨u', r', q⟩ := hl j y v' e1 e2 e3
        refine ⟨u', r', ?_⟩
        rcases q with q | ⟨k, c', e, z'⟩
        · exact .inl q
        · refine .inr ⟨k, c', e, z'.sameBut hs ?_⟩
          rintro rfl
          exact hj (nodup_ix hN e1 (I.ok.inj _ _ _ e hc ▸ hi))
    · by_cases hcc : c' = c
      · subst hcc; exact ⟨_, hc'⟩
      · obtain ⟨w2, z2⟩ := I.cell y c' e
        exact ⟨w2, z2.sameBut hs hcc⟩
    · obtain ⟨e, n, ne, nf, d⟩ := I.pin p hp
      refine ⟨(hs.2 p.1 ?_).trans e, n, ne, nf, d⟩
      intro q
      rw [q, hoc] at e
      have q' : oc = p.2 := Option.some.inj e
      exact d w' (by rw [← q']; exact hocd)
theorem store_ok {M : Model} {A : Around} {E : Value -> Shared -> Prop} {i : Nat} {x : Str} {v : V} {u : Value} {Q : Unit -> Shared -> Prop} (I : Inv X pins σ H s) (hN : X.N.Nodup) (hi : X.N[i]? = some x) (hx : Loc X.env.scope x) (r : RelV v u)
    (h : ∀ s', Inv X pins (σ.set i (some v)) H s' -> Q () s') (hf : X.fn x = true \/ X.env.scope.names.lookup x = some .local := by first | exact .inl rfl | exact .inr rfl | assumption) : wpAny M A (storeName X.env x u) Q E s :=
  store_ok2 I hN hi hx r (fun s' I' _ => h s' I') hf
theorem Inv.call' {s' : Shared} {ch : List Addr} (I : Inv X pins σ H s) (ho : s'.os = s.os) (u : Un (frs X.stack) ch H H' s.heap s'.heap) (hok : HOk X.prog X.w H' s'.heap) (hg : AllBare s'.gens)
    (hch : ∀ b ∈ ch, (b ∈ X.ex \/ X.s₀.heap.objs.size <= b) /\ b ≠ X.env.locals /\ (∀ x c, X.env.cells.lookup x = some c -> c ≠ b) /\ ∀ p ∈ X.pn ++ pins, p.1 ≠ b) : Inv X pins σ H' s' := by
  obtain ⟨h', g', d', t', o'⟩ := s'
  have e : o' = s.os := ho
  subst e
  exact I.call (g' := g') (t' := t') (d' := d') u hok hg hch
end
abbrev XK := Value -> Option Addr -> Hp -> Prop
abbrev St := List (Option V)
abbrev VK := V -> Hp -> Prop
abbrev TE := St -> Hp -> VK -> Prop
abbrev TT := St -> Hp -> (Bool -> Hp -> Prop) -> Prop
abbrev TA := St -> Hp -> (List V -> Hp -> Prop) -> Prop
structure Ends where
  nx : St -> Hp -> Prop
  rt : VK
  bk : St -> Hp -> Prop := fun _ _ => False
  ct : St -> Hp -> Prop := fun _ _ => False
abbrev TS := Ends -> St -> Hp -> Prop
def EP (X : Cx) (pins : List (Addr × Obj)) (σ : St) (Q : VK) (u : Value) (s' : Shared) : Prop := ∃ v H', Inv X pins σ H' s' /\ RelV v u /\ Q v H'
def TP (X : Cx) (pins : List (Addr × Obj)) (σ : St) (Q : Bool -> Hp -> Prop) (b : Bool) (s' : Shared) : Prop := ∃ H', Inv X pins σ H' s' /\ Q b H'
def AP (X : Cx) (pins : List (Addr × Obj)) (σ : St) (Q : List V -> Hp -> Prop) (us : List Value) (s' : Shared) : Prop := ∃ vs H', Inv X pins σ H' s' /\ Vals vs us /\ Q vs H'
def SP (X : Cx) (pins : List (Addr × Obj)) (D : Ends) (f : Flow) (s' : Shared) : Prop :=
  match f with
  | .next => ∃ σ' H', Inv X pins σ' H' s' /\ D.nx σ' H'
  | .brk => ∃ σ' H', Inv X pins σ' H' s' /\ D.bk σ' H'
  | .cont => ∃ σ' H', Inv X pins σ' H' s' /\ D.ct σ' H'
  | .ret u => ∃ v σ' H', Inv X pins σ' H' s' /\ RelV v u /\ D.rt v H'
def PE (X : Cx) (e : Expr) (t : TE) : Prop :=
  ∀ (pins : List (Addr × Obj)) (s : Shared) (σ : St) (H : Hp) (Q : VK), Inv X pins σ H s -> t σ H Q -> wpAny (model X.prog X.w) X.A (eval e X.env) (EP X pins σ Q) X.xe s
def PT (X : Cx) (e : Expr) (t : TT) : Prop :=
  ∀ (pins : List (Addr × Obj)) (s : Shared) (σ : St) (H : Hp) (Q : Bool -> Hp -> Prop), Inv X pins σ H s -> t σ H Q -> wpAny (model X.prog X.w) X.A (isTrue e X.env (eval e X.env)) (TP X pins σ Q) X.xe s
def PW (X : Cx) (e : Expr) (t : TT) : Prop :=
  ∀ (whole : Sem Value) (pins : List (Addr × Obj)) (s : Shared) (σ : St) (H : Hp) (Q : Bool -> Hp -> Prop), Inv X pins σ H s -> t σ H Q -> wpAny (model X.prog X.w) X.A (isTrue e X.env whole) (TP X pins σ Q) X.xe s
theorem PW.pt {X : Cx} {e : Expr} {t : TT} (h : PW X e t) : PT X e t := h _
def PA (X : Cx) (es : List Expr) (t : TA) : Prop :=
  ∀ (pos : Pos) (pins : List (Addr × Obj)) (s : Shared) (σ : St) (H : Hp) (Q : List V -> Hp -> Prop), Inv X pins σ H s -> t σ H Q -> wpAny (model X.prog X.w) X.A (spliced (backTo pos (starEach es X.env))) (AP X pins σ Q) X.xe s
def PS (X : Cx) (st : Stmt) (t : TS) : Prop :=
  ∀ (pins : List (Addr × Obj)) (s : Shared) (σ : St) (H : Hp) (D : Ends), Inv X pins σ H s -> t D σ H -> wpAny (model X.prog X.w) X.A (exec st X.env) (SP X pins D) X.xe s
def PSs (X : Cx) (st : List Stmt) (t : TS) : Prop :=
  ∀ (pins : List (Addr × Obj)) (s : Shared) (σ : St) (H : Hp) (D : Ends), Inv X pins σ H s -> t D σ H -> wpAny (model X.prog X.w) X.A (execs st X.env) (SP X pins D) X.xe s
theorem thn {α : Type} {t : Sem α} {Q Q' : α -> Shared -> Prop} {M : Model} {A : Around} {E : Value -> Shared -> Prop} {s : Shared} (h : wpAny M A t Q E s) (hQ : ∀ a s, Q a s -> Q' a s) : wpAny M A t Q' E s := wpAny_mono h hQ fun _ _ x => x
end L2
namespace L2
open PySem PySem.Spec PyProof.Rows
section
variable {X : Cx}
def tVar (i : Nat) : TE := fun σ H Q => ∃ v, σ[i]? = some (some v) /\ Q v H
def tC (v : V) : TE := fun _ H Q => Q v H
theorem pe_var {i : Nat} {x : Str} {pos : Pos} (hN : X.N[i]? = some x) (hv : Vis X.env.scope x) (hd : (x == ("__debug__" : Str)) = false := by decide) (hcd : (x == ("__classdict__" : Str)) = false := by decide) : PE X (.Name x pos) (tVar i) := by
  intro pins s σ H Q I h
  obtain ⟨v, e, h⟩ := h
  obtain ⟨m, hn, hl⟩ := I.loc
  obtain ⟨u, r, l⟩ := hl i x v hN e hv
  have fin : EP X pins σ Q u s := ⟨v, H, I, r, h⟩
  rcases l with ⟨hk, hm⟩ | ⟨hk, c, hc, hcell⟩
  · exact wpAny_Name (wpAny_loadName_local I.ok.kind hk hn hm fin) hd
  · rcases hk with hk | hk
    · exact wpAny_Name (wpAny_loadName_cell I.ok.kind hk hc hcell fin) hd
    · exact wpAny_Name (wpAny_loadName_free I.ok.kind hk hc hcell fin hcd) hd
theorem pe_int {i j pos} : PE X (.Constant (.int i) j pos) (tC (.int i)) := fun _ _ _ H _ I h => wpAny_Constant_int ⟨.int i, H, I.tok _, ⟨_, rfl⟩, h⟩
theorem pe_bl {b j pos} : PE X (.Constant (.bool b) j pos) (tC (.bl b)) := fun _ _ _ H _ I h => Constant_bool ⟨.bl b, H, I, rfl, h⟩
theorem pe_non {j pos} : PE X (.Constant .none j pos) (tC .non) := fun _ _ _ H _ I h => Constant_none ⟨.non, H, I, rfl, h⟩
theorem pe_str {x j pos} : PE X (.Constant (.str x) j pos) (tC (.str x)) := fun _ _ _ H _ I h => Calls.Constant_str ⟨.str x, H, I.tok _, ⟨_, rfl⟩, h⟩
def Gl (X : Cx) (x : Str) : Prop := X.env.kindOf x = some .globalImplicit
theorem ld_glob {E : Value -> Shared -> Prop} {pins : List (Addr × Obj)} {s : Shared} {σ : St} {H : Hp} {x : Str} {u : Value} {pos : Pos} {Q : Value -> Shared -> Prop} (I : Inv X pins σ H s) (hg : Gl X x) (hm : X.mg x = some u) (h : Q u s)
    (hd : (x == ("__debug__" : Str)) = false := by decide) : wpAny (model X.prog X.w) X.A (eval (.Name x pos) X.env) Q E s :=
  Calls.Name_function_global I.ok.kind hg (Calls.loadGlobal_global (by rw [I.ok.glob]; exact I.mod.glob.keeps I.bk) hm h) hd
theorem ld_blt {E : Value -> Shared -> Prop} {pins : List (Addr × Obj)} {s : Shared} {σ : St} {H : Hp} {x : Str} {u : Value} {pos : Pos} {Q : Value -> Shared -> Prop} (I : Inv X pins σ H s) (hg : Gl X x) (hm : X.mg x = none) (hv : bootBuiltins x = some u) (h : Q u s)
    (hn : x ≠ "__name__" := by decide) (hd : (x == ("__debug__" : Str)) = false := by decide) : wpAny (model X.prog X.w) X.A (eval (.Name x pos) X.env) Q E s := by
  obtain ⟨mb, h1, h2⟩ := I.mod.blt
  exact Calls.Name_function_global I.ok.kind hg (Calls.loadGlobal_builtin (by rw [I.ok.glob]; exact I.mod.glob.keeps I.bk) hm (by rw [I.ok.blt]; exact h1.keeps I.bk) ((h2 x hn).trans hv) h) hd
theorem pe_glob {x : Str} {v : V} {u : Value} {pos : Pos} (hg : Gl X x) (hm : X.mg x = some u) (r : RelV v u) (hd : (x == ("__debug__" : Str)) = false := by decide) : PE X (.Name x pos) (tC v) :=
  fun _ _ _ H _ I h => ld_glob I hg hm ⟨v, H, I, r, h⟩ hd
theorem pe_bltn {x : Str} {v : V} {u : Value} {pos : Pos} (hg : Gl X x) (hm : X.mg x = none) (hv : bootBuiltins x = some u) (r : RelV v u) (hn : x ≠ "__name__" := by decide) (hd : (x == ("__debug__" : Str)) = false := by decide) : PE X (.Name x pos) (tC v) :=
  fun _ _ _ H _ I h => ld_blt I hg hm hv ⟨v, H, I, r, h⟩ hn hd
variable {a b : Expr} {ta tb : TE} {pos : Pos}
def tB (t : TE) : TT := fun σ H Q => t σ H fun x H1 => ∃ c, x = .bl c /\ Q c H1
theorem pt_val {e : Expr} {t : TE} (h : PE X e t) (he : ∀ whole, isTrue e X.env whole = (do let v ← whole; standAt e.pos; holding [v] (truthy v)) := by intro _; rfl) : PT X e (tB t) := by
  intro pins s σ H Q I hw
  refine isTrue_plain (thn (h pins s σ H _ I hw) fun v s1 ⟨x, H1, I1, r1, q1⟩ => ?_) (he _)
  obtain ⟨d, rfl, q⟩ := q1
  cases r1
  exact wpAny_truthy_bool ⟨H1, I1, q⟩
variable {tA tB' : TT} {rest : List Expr}
def tAnd (t u : TT) : TT := fun σ H Q => t σ H fun c H1 => if c = true then u σ H1 Q else Q false H1
def tOr (t u : TT) : TT := fun σ H Q => t σ H fun c H1 => if c = true then Q true H1 else u σ H1 Q
def tNot (t : TT) : TT := fun σ H Q => t σ H fun c H1 => Q (!c) H1
theorem pw_and1 (ha : PT X a tA) : PW X (.BoolOp .And [a] pos) tA := by
  intro wh pins s σ H Q I h
  refine isTrue_and (thn (ha pins s σ H Q I h) fun c s1 e => ?_)
  cases c with
  | true => exact isTrue_and_nil e
  | false => exact e
theorem pw_or1 (ha : PT X a tA) : PW X (.BoolOp .Or [a] pos) tA := by
  intro wh pins s σ H Q I h
  refine isTrue_or (thn (ha pins s σ H Q I h) fun c s1 e => ?_)
  cases c with
  | false => exact isTrue_or_nil e
  | true => exact e
theorem pw_and (ha : PT X a tA) (hb : PW X (.BoolOp .And (b :: rest) pos) tB') : PW X (.BoolOp .And (a :: b :: rest) pos) (tAnd tA tB') := by
  intro wh pins s σ H Q I h
  refine isTrue_and (thn (ha pins s σ H _ I h) fun c s1 ⟨H1, I1, q1⟩ => ?_)
  cases c with
  | true => exact hb wh pins s1 σ H1 Q I1 q1
  | false => exact ⟨H1, I1, q1⟩
theorem pw_or (ha : PT X a tA) (hb : PW X (.BoolOp .Or (b :: rest) pos) tB') : PW X (.BoolOp .Or (a :: b :: rest) pos) (tOr tA tB') := by
  intro wh pins s σ H Q I h
  refine isTrue_or (thn (ha pins s σ H _ I h) fun c s1 ⟨H1, I1, q1⟩ => ?_)
  cases c with
  | true => exact ⟨H1, I1, q1⟩
  | false => exact hb wh pins s1 σ H1 Q I1 q1
theorem pt_not (ha : PT X a tA) : PT X (.UnaryOp .Not a pos) (tNot tA) := by
  intro pins s σ H Q I h
  exact isTrue_not (ha pins s σ H (fun c H1 => Q (!c) H1) I h)
def tAndV (ta tb : TE) : TE := fun σ H Q => ta σ H fun x H1 => ∃ c, x = .bl c /\ if c = true then tb σ H1 Q else Q (.bl false) H1
def tOrV (ta tb : TE) : TE := fun σ H Q => ta σ H fun x H1 => ∃ c, x = .bl c /\ if c = true then Q (.bl true) H1 else tb σ H1 Q
def tNotV (ta : TE) : TE := fun σ H Q => ta σ H fun x H1 => ∃ c, x = .bl c /\ Q (.bl (!c)) H1
theorem pe_one {op} {t : TE} (h : PE X a t) : PE X (.BoolOp op [a] pos) t := fun pins s σ H Q I hw => BoolOp_one (h pins s σ H Q I hw)
theorem pe_and (ha : PE X a ta) (hb : PE X (.BoolOp .And (b :: rest) pos) tb) : PE X (.BoolOp .And (a :: b :: rest) pos) (tAndV ta tb) := by
  intro pins s σ H Q I h
  refine BoolOp_and (thn (ha pins s σ H _ I h) fun v s1 ⟨x, H1, I1, r1, q1⟩ => ?_)
  obtain ⟨c, rfl, q1⟩ := q1
  cases r1
  refine wpAny_truthy_bool ?_
  cases c with
  | true => exact hb pins s1 σ H1 Q I1 q1
  | false => exact ⟨.bl false, H1, I1, rfl, q1⟩
theorem pe_or (ha : PE X a ta) (hb : PE X (.BoolOp .Or (b :: rest) pos) tb) : PE X (.BoolOp .Or (a :: b :: rest) pos) (tOrV ta tb) := by
  intro pins s σ H Q I h
  refine BoolOp_or (thn (ha pins s σ H _ I h) fun v s1 ⟨x, H1, I1, r1, q1⟩ => ?_)
  obtain ⟨c, rfl, q1⟩ := q1
  cases r1
  refine wpAny_truthy_bool ?_
  cases c with
  | false => exact hb pins s1 σ H1 Q I1 q1
  | true => exact ⟨.bl true, H1, I1, rfl, q1⟩
theorem pe_not (ha : PE X a ta) : PE X (.UnaryOp .Not a pos) (tNotV ta) := by
  intro pins s σ H Q I h
  refine UnaryOp_ (thn (ha pins s σ H _ I h) fun v s1 ⟨x, H1, I1, r1, q1⟩ => ?_)
  obtain ⟨c, rfl, q1⟩ := q1
  cases r1
  exact not_of (wpAny_truthy_bool ⟨.bl (!c), H1, I1, rfl, q1⟩)
def tIf (t : TT) (ta tb : TE) : TE := fun σ H Q => t σ H fun c H1 => if c = true then ta σ H1 Q else tb σ H1 Q
theorem pe_ifExp {c : Expr} (hc : PT X c tA) (ha : PE X a ta) (hb : PE X b tb) : PE X (.IfExp c a b pos) (tIf tA ta tb) := by
  intro pins s σ H Q I h
  refine wpAny_IfExp (thn (hc pins s σ H _ I h) fun d s1 ⟨H1, I1, q1⟩ => ?_)
  cases d with
  | true => exact ha pins s1 σ H1 Q I1 q1
  | false => exact hb pins s1 σ H1 Q I1 q1
end
end L2
namespace L2
open PySem PySem.Spec PyProof.Rows
def SqL (K : PySem.W.Frag) (H : Hp) (a : Addr) (xs : List V) : Prop :=
  Rd H a (.lst xs) \/
    ∃ (o : Obj) (its : Array Value) (n : Nat), K.lookup a = some o /\ o.cls = .type "list" /\ o.dict = none /\ o.data = .seq its n /\ its.size <= sizeLine /\ Vals xs its.toList
def SqT (K : PySem.W.Frag) (H : Hp) (a : Addr) (xs : List V) : Prop :=
  Rd H a (.tup xs) \/
    ∃ (o : Obj) (its : Array Value) (n : Nat), K.lookup a = some o /\ o.cls = .type "tuple" /\ o.data = .seq its n /\ its.size <= sizeLine /\ Vals xs its.toList
def absV : Value -> Option V
  | .none => some .non
  | .bool b => some (.bl b)
  | .int i _ => some (.int i)
  | .str x _ => some (.str x)
  | .bytes b _ => some (.byt b)
  | .float b _ => some (.flt b)
  | .ref a => some (.ref a)
  | .type n => some (.ty n)
  | _ => none
theorem RelV.abs {x : V} {u : Value} (r : RelV x u) : absV u = some x := by
  cases x with
  | non => cases r; rfl
  | bl _ => cases r; rfl
  | int _ => obtain ⟨t, rfl⟩ := r; rfl
  | str _ => obtain ⟨t, rfl⟩ := r; rfl
  | byt _ => obtain ⟨t, rfl⟩ := r; rfl
  | flt _ => obtain ⟨t, rfl⟩ := r; rfl
  | ref _ => cases r; rfl
  | ty _ => cases r; rfl
theorem RelV.inj {x y : V} {u : Value} (r : RelV x u) (q : RelV y u) : x = y := Option.some.inj (r.abs.symm.trans q.abs)
theorem Vals.inj : ∀ {xs ys : List V} {us : List Value}, Vals xs us -> Vals ys us -> xs = ys
  | _, _, _, .nil, .nil => rfl
  | _, _, _, .cons r t, .cons r' t' => by rw [r.inj r', Vals.inj t t']
section
variable {X : Cx} {pins : List (Addr × Obj)} {σ : St} {H : Hp} {s : Shared} {a : Addr} {xs ys : List V}
theorem SqL.of {K : PySem.W.Frag} (h : H a = some (.lst xs)) : SqL K H a xs := .inl (.inl h)
theorem SqT.of {K : PySem.W.Frag} (h : H a = some (.tup xs)) : SqT K H a xs := .inl (.inl h)
theorem Inv.list (I : Inv X pins σ H s) (h : SqL X.K H a xs) : ∃ its : List Value, Vals xs its /\ PlainL s.heap a its.toArray /\ xs.length <= sizeLine := by
  rcases h with h | ⟨o, its, n, hk, hc, hd, hs, hz, r⟩
  · obtain ⟨z, its, n, r, e⟩ := h.ok I.hok
    exact ⟨its, r, ⟨_, n, e, rfl, rfl, rfl⟩, z⟩
  · refine ⟨its.toList, r, ⟨o, n, I.kIn a o hk, hc, hd, by simpa using hs⟩, ?_⟩
    have e := r.length
    simp only [Array.length_toList] at e
    omega
theorem Inv.tuple (I : Inv X pins σ H s) (h : SqT X.K H a xs) : ∃ its : List Value, Vals xs its /\ IsTup s.heap a its.toArray /\ xs.length <= sizeLine := by
  rcases h with h | ⟨o, its, n, hk, hc, hs, hz, r⟩
  · obtain ⟨z, its, r, p⟩ := h.ok I.hok
    exact ⟨its, r, p, z⟩
  · refine ⟨its.toList, r, ⟨o, I.kIn a o hk, hc, n, by simpa using hs⟩, ?_⟩
    have e := r.length
    simp only [Array.length_toList] at e
    omega
theorem Inv.list_inj (I : Inv X pins σ H s) (h : SqL X.K H a xs) (h' : SqL X.K H a ys) : xs = ys := by
  obtain ⟨its, r, ⟨o, n, e, _, _, d⟩, _⟩ := I.list h
  obtain ⟨its', r', ⟨o', n', e', _, _, d'⟩, _⟩ := I.list h'
  rw [e] at e'; cases e'
  rw [d] at d'
  injection d' with d1 _
  have : its = its' := by simpa using congrArg Array.toList d1
  subst this
  exact r.inj r'
theorem Inv.tuple_inj (I : Inv X pins σ H s) (h : SqT X.K H a xs) (h' : SqT X.K H a ys) : xs = ys := by
  obtain ⟨its, r, ⟨o, e, _, n, d⟩, _⟩ := I.tuple h
  obtain ⟨its', r', ⟨o', e', _, n', d'⟩, _⟩ := I.tuple h'
  rw [e] at e'; cases e'
  rw [d] at d'
  injection d' with d1 _
  have : its = its' := by simpa using congrArg Array.toList d1
  subst this
  exact r.inj r'
end
abbrev Cx.wish (X : Cx) (E : Value -> Shared -> Prop) : Cx := { X with xe := E }
abbrev Cx.nox (X : Cx) : Cx := X.wish fun _ _ => False
theorem Cx.Ok.wish {X : Cx} (ok : X.Ok) (E : Value -> Shared -> Prop) : (X.wish E).Ok :=
  ⟨ok.mod, ok.kind, ok.glob, ok.blt, ok.above, ok.inj, ok.has, ok.cab, ok.hd, ok.frames, ok.stk, ok.exf, ok.bs, ok.bsz, ok.noex, ok.exfs, ok.funs, ok.frf⟩
theorem Cx.Ok.unwish {X : Cx} {E : Value -> Shared -> Prop} (ok : (X.wish E).Ok) : X.Ok :=
  ⟨ok.mod, ok.kind, ok.glob, ok.blt, ok.above, ok.inj, ok.has, ok.cab, ok.hd, ok.frames, ok.stk, ok.exf, ok.bs, ok.bsz, ok.noex, ok.exfs, ok.funs, ok.frf⟩
section
variable {X : Cx} {pins : List (Addr × Obj)} {σ : St} {H : Hp} {s : Shared} {E : Value -> Shared -> Prop}
theorem Inv.wish (I : Inv X pins σ H s) (E : Value -> Shared -> Prop) : Inv (X.wish E) pins σ H s := ⟨I.ok.wish E, I.os, I.bare, I.base, I.loc, I.cell, I.free, I.freeC, I.pin, I.hok, I.len⟩
theorem Inv.unwish (I : Inv (X.wish E) pins σ H s) : Inv X pins σ H s := ⟨I.ok.unwish, I.os, I.bare, I.base, I.loc, I.cell, I.free, I.freeC, I.pin, I.hok, I.len⟩
theorem SP.unwish {D : Ends} {f : Flow} {s' : Shared} (h : SP (X.wish E) pins D f s') : SP X pins D f s' := by
  cases f with
  | next => obtain ⟨σ', H', I, q⟩ := h; exact ⟨σ', H', I.unwish, q⟩
  | brk => obtain ⟨σ', H', I, q⟩ := h; exact ⟨σ', H', I.unwish, q⟩
  | cont => obtain ⟨σ', H', I, q⟩ := h; exact ⟨σ', H', I.unwish, q⟩
  | ret u => obtain ⟨v, σ', H', I, r, q⟩ := h; exact ⟨v, σ', H', I.unwish, r, q⟩
theorem PSs.nox {st : List Stmt} {t : TS} (h : PSs X.nox st t) : PSs X st t := fun pins s σ H D I hw =>
  wpAny_mono (h pins s σ H D (I.wish _) hw) (fun _ _ q => q.unwish) fun _ _ z => False.elim z
end
section
variable {X : Cx} {st : Stmt} {rest : List Stmt} {t u : TS} {e : Expr} {te : TE} {pos : Pos}
def Zq40 : TS := fun D σ H => D.nx σ H
def tSeq (t u : TS) : TS := fun D σ H => t { D with nx := u D } σ H
theorem pss_nil : PSs X [] Zq40 := fun _ _ σ H _ I h => wpAny_execs_nil ⟨σ, H, I, h⟩
theorem pss_cons (h1 : PS X st t) (h2 : PSs X rest u) : PSs X (st :: rest) (tSeq t u) := by
  intro pins s σ H D I h
  refine wpAny_execs_cons (thn (h1 pins s σ H { D with nx := u D } I h) fun f s1 q => ?_)
  cases f with
  | next =>
    obtain ⟨σ', H', I', q⟩ := q
    exact h2 pins s1 σ' H' D I' q
  | ret v => exact q
  | brk => exact q
  | cont => exact q
theorem pss_one (h1 : PS X st t) : PSs X [st] t := by
  intro pins s σ H D I h
  refine wpAny_execs_cons (thn (h1 pins s σ H D I h) fun f s1 q => ?_)
  cases f with
  | next => exact wpAny_execs_nil q
  | ret v => exact q
  | brk => exact q
  | cont => exact q
theorem Inv.quiet {pins : List (Addr × Obj)} {σ : St} {H : Hp} {s : Shared} (I : Inv X pins σ H s) : interactive X.env = false := by simp [interactive, I.ok.kind]
def tDrop (te : TE) : TS := fun D σ H => te σ H fun _ H1 => D.nx σ H1
theorem ps_expr (he : PE X e te) (hs : swapsWith e none pos.line X.env = pure false := by rfl) : PS X (.Expr e pos) (tDrop te) := by
  intro pins s σ H D I h
  exact wpAny_Expr_any (thn (he pins s σ H _ I h) fun v s1 ⟨x, H1, I1, r1, q1⟩ => ⟨σ, H1, I1, q1⟩) I.quiet hs
def tRet (te : TE) : TS := fun D σ H => te σ H D.rt
theorem ps_ret (he : PE X e te) : PS X (.Return (some e) pos) (tRet te) := by
  intro pins s σ H D I h
  exact wpAny_Return_some (thn (he pins s σ H _ I h) fun v s1 ⟨x, H1, I1, r1, q1⟩ => ⟨x, σ, H1, I1, r1, q1⟩)
def tIfS (c : TT) (t u : TS) : TS := fun D σ H => c σ H fun b H1 => if b = true then t D σ H1 else u D σ H1
theorem ps_if {c : Expr} {a b : List Stmt} {tc : TT} (hc : PT X c tc) (ha : PSs X a t) (hb : PSs X b u) : PS X (.If c a b pos) (tIfS tc t u) := by
  intro pins s σ H D I h
  refine wpAny_If (thn (hc pins s σ H _ I h) fun d s1 ⟨H1, I1, q1⟩ => ?_)
  cases d with
  | true => exact ha pins s1 σ H1 D I1 q1
  | false => exact hb pins s1 σ H1 D I1 q1
end
abbrev TG := V -> St -> Hp -> (St -> Hp -> Prop) -> Prop
abbrev TGs := List V -> St -> Hp -> (St -> Hp -> Prop) -> Prop
def PG (X : Cx) (target : Expr) (t : TG) : Prop :=
  ∀ (pins : List (Addr × Obj)) (s : Shared) (σ : St) (H : Hp) (v : V) (u : Value) (Q : St -> Hp -> Prop), Inv X pins σ H s -> RelV v u -> t v σ H Q ->
    wpAny (model X.prog X.w) X.A (assign target X.env u) (fun _ s' => ∃ σ' H', Inv X pins σ' H' s' /\ Q σ' H') X.xe s
def PGs (X : Cx) (ts : List Expr) (t : TGs) : Prop :=
  ∀ (pins : List (Addr × Obj)) (s : Shared) (σ : St) (H : Hp) (vs : List V) (us : List Value) (Q : St -> Hp -> Prop), Inv X pins σ H s -> Vals vs us -> t vs σ H Q ->
    wpAny (model X.prog X.w) X.A (assignInOrder ((assignEach ts X.env).map (·.2)) us) (fun _ s' => ∃ σ' H', Inv X pins σ' H' s' /\ Q σ' H') X.xe s
abbrev TSet := V -> V -> V -> Hp -> (Hp -> Prop) -> Prop
def PSet (X : Cx) (t : TSet) : Prop :=
  ∀ (pins : List (Addr × Obj)) (s : Shared) (σ : St) (H : Hp) (o i v : V) (ov iv u : Value) (Q : Hp -> Prop), Inv X pins σ H s -> RelV o ov -> RelV i iv -> RelV v u -> t o i v H Q ->
    wpAny (model X.prog X.w) X.A (setItem ov iv u) (fun _ s' => ∃ H', Inv X pins σ H' s' /\ Q H') X.xe s
abbrev TIp := V -> V -> Hp -> VK -> Prop
def PIp (X : Cx) (op : Operator) (t : TIp) : Prop :=
  ∀ (pins : List (Addr × Obj)) (s : Shared) (σ : St) (H : Hp) (x y : V) (v u : Value) (Q : VK), Inv X pins σ H s -> RelV x v -> RelV y u -> t x y H Q ->
    wpAny (model X.prog X.w) X.A (inplaceOp op v u) (EP X pins σ Q) X.xe s
section
variable {X : Cx} {pos : Pos}
def Zq78 (i : Nat) : TG := fun v σ H Q => Q (σ.set i (some v)) H
theorem pg_name {i : Nat} {x : Str} (hN : X.N.Nodup) (hi : X.N[i]? = some x) (hx : Loc X.env.scope x) (hf : X.fn x = true \/ X.env.scope.names.lookup x = some .local := by first | exact .inl rfl | exact .inr rfl | assumption) : PG X (.Name x pos) (Zq78 i) := by
  intro pins s σ H v u Q I r h
  exact wpAny_assign_Name (store_ok I hN hi hx r (fun s' I' => ⟨_, H, I', h⟩) hf)
def gNil : TGs := fun vs σ H Q => vs = [] /\ Q σ H
def gCons (t : TG) (u : TGs) : TGs := fun vs σ H Q => ∃ v r, vs = v :: r /\ t v σ H fun σ' H' => u r σ' H' Q
theorem pgs_nil : PGs X [] gNil := by
  intro pins s σ H vs us Q I r h
  obtain ⟨e, h⟩ := h
  subst e
  cases r
  exact assignInOrder_nil ⟨σ, H, I, h⟩
theorem pgs_cons {e : Expr} {es : List Expr} {t : TG} {u : TGs} (h1 : PG X e t) (h2 : PGs X es u)
    (hs : (assignEach (e :: es) X.env).map (·.2) = assign e X.env :: (assignEach es X.env).map (·.2) := by rfl) : PGs X (e :: es) (gCons t u) := by
  intro pins s σ H vs us Q I r h
  obtain ⟨v, vr, e1, h⟩ := h
  subst e1
  cases r with
  | cons r rr =>
    rw [hs]
    refine assignInOrder_cons (thn (h1 pins s σ H _ _ _ I r h) fun _ s1 ⟨σ1, H1, I1, q1⟩ => ?_)
    exact h2 pins s1 σ1 H1 _ _ Q I1 rr q1
def gTup (K : PySem.W.Frag) (n : Nat) (t : TGs) : TG := fun v σ H Q => ∃ a xs, v = .ref a /\ SqT K H a xs /\ xs.length = n /\ t xs σ H Q
theorem pg_tup {es : List Expr} {k : Nat} {t : TGs} {n : Nat} (hc : X.calm = true) (h : PGs X es t)
    (hn : (assignEach es X.env).length = n := by rfl) (hst : (assignEach es X.env).findIdx? (·.1) = none := by rfl) : PG X (.Tuple es k pos) (gTup X.K n t) := by
  intro pins s σ H v u Q I r hw
  obtain ⟨a, xs, e1, hq, hl, hw⟩ := hw
  subst e1
  cases r
  obtain ⟨its, rv, ht, hz⟩ := I.tuple hq
  refine assign_Tuple_tuple (I.ok.hd hc) ht (by simp [hn, ← hl, rv.length]) hst fun h' hx => ?_
  have I1 : Inv X pins σ H { s with heap := h' } := I.kept (t' := s.toks) fun b o e => hx b o (Nat.ne_of_lt (Heap.lt_size e)) e
  exact h pins _ σ H xs _ Q I1 (by simpa using rv) hw
def gSub (to ti : TE) (t : TSet) : TG := fun v σ H Q => to σ H fun o H1 => ti σ H1 fun i H2 => t o i v H2 fun H3 => Q σ H3
theorem pg_sub {o i : Expr} {to ti : TE} {t : TSet} (ho : PE X o to) (hi : PE X i ti) (hs : PSet X t)
    (ha : ∀ v, assign (.Subscript o i pos) X.env v = (do
      let ov ← holding [v] (eval o X.env)
      let iv ← holding [v, ov] (eval i X.env)
      standAt pos
      holding [v, ov, iv] (setItem ov iv v)
      release [v, ov, iv] []) := by intro _; rfl) : PG X (.Subscript o i pos) (gSub to ti t) := by
  intro pins s σ H v u Q I r h
  rw [ha]
  refine wpAny_bind (wpAny_holding (thn (ho pins s σ H _ I h) fun ov s1 ⟨x, H1, I1, r1, q1⟩ => ?_))
  refine wpAny_bind (wpAny_holding (thn (hi pins s1 σ H1 _ I1 q1) fun iv s2 ⟨y, H2, I2, r2, q2⟩ => ?_))
  refine wpAny_bind (wpAny_standAt (wpAny_bind (wpAny_holding (thn (hs pins s2 σ H2 x y v ov iv u _ I2 r1 r2 r q2) fun _ s3 ⟨H3, I3, q3⟩ => ?_))))
  exact wpAny_release ⟨σ, H3, I3, q3⟩
def tAsg (te : TE) (g : TG) : TS := fun D σ H => te σ H fun x H1 => g x σ H1 D.nx
theorem ps_asg {tg e : Expr} {te : TE} {g : TG} (he : PE X e te) (hg : PG X tg g) (hs : swapsWithSole [tg] e pos.line X.env = pure false := by rfl) (hw : swappedStores [tg] e X.env = pure none := by rfl)
    (h1 : (assignEach [tg] X.env).map (·.2) = [assign tg X.env] := by rfl) : PS X (.Assign [tg] e pos) (tAsg te g) := by
  intro pins s σ H D I h
  refine wpAny_Assign_stores (thn (he pins s σ H _ I h) fun v s1 ⟨x, H1, I1, r1, q1⟩ => ?_) hs hw
  rw [h1]
  exact thn (hg pins s1 σ H1 x v _ I1 r1 q1) fun _ s2 q => q
theorem ps_set {i : Nat} {x : Str} {e : Expr} {te : TE} {pos' : Pos} (hN : X.N.Nodup) (hi : X.N[i]? = some x) (hx : Loc X.env.scope x) (he : PE X e te) (hs : swapsWith e (some (.Name x pos')) pos.line X.env = pure false := by rfl) (hf : X.fn x = true \/ X.env.scope.names.lookup x = some .local := by first | exact .inl rfl | exact .inr rfl | assumption) :
    PS X (.Assign [.Name x pos'] e pos) (tAsg te (Zq78 i)) := by
  intro pins s σ H D I h
  refine wpAny_Assign_Name (thn (he pins s σ H _ I h) fun v s1 ⟨y, H1, I1, r1, q1⟩ => ?_) hs
  exact store_ok I1 hN hi hx r1 (fun s2 I2 => ⟨_, H1, I2, q1⟩) hf
end
section
variable {X : Cx} {pos : Pos}
end
structure It where
  go : Nat -> Hp -> Prop
  yld : Nat -> Hp -> V -> Hp -> Prop
  stop : Nat -> Hp -> Prop
def FpOk (X : Cx) (pins : List (Addr × Obj)) (H : Hp) (b : Addr) : Prop :=
  H b = none /\ b ≠ X.env.locals /\ b ∉ X.fs /\ (b ∈ X.ex \/ X.s₀.heap.objs.size <= b) /\ (∀ x c, X.env.cells.lookup x = some c -> c ≠ b) /\ ∀ p ∈ X.pn ++ pins, p.1 ≠ b
theorem Inv.fpOk {X : Cx} {pins : List (Addr × Obj)} {σ : St} {H H' : Hp} {s : Shared} {b : Addr} (I : Inv X pins σ H s) (hb : s.heap.objs.size <= b) (hn : H' b = none) : FpOk X pins H' b := by
  refine ⟨hn, Nat.ne_of_gt (Nat.lt_of_lt_of_le I.lt hb), I.nofs hb, .inr (Nat.le_trans I.sz hb), fun x c e z => ?_, fun p hp z => ?_⟩
  · obtain ⟨v, q⟩ := I.cell x c e
    exact absurd (Nat.lt_of_lt_of_le q.lt (by rw [z]; exact hb)) (Nat.lt_irrefl _)
  · exact absurd (Nat.lt_of_lt_of_le (Heap.lt_size (I.pin p hp).1) (by rw [z]; exact hb)) (Nat.lt_irrefl _)
structure Turn (P : Program) (w : World) (K : PySem.W.Frag) (tg : Expr) (J : It) (fp : List Addr) (it : Addr) (tn : Nat -> Heap -> Prop) : Prop where
  mem : it ∈ fp
  obj : ∀ i h, tn i h -> ∀ b ∈ fp, ∃ o, h.get? b = some o /\ ∀ v, o.data ≠ .cell v
  keep : ∀ i h h', tn i h -> (∀ b ∈ fp, ∀ o, h.get? b = some o -> h'.get? b = some o) -> tn i h'
  item : ∀ (X : Cx), X.prog = P -> X.w = w -> X.K = K -> X.calm = true -> ∀ (i : Nat) (pins : List (Addr × Obj)) (s : Shared) (σ : St) (H : Hp) (E : Value -> Shared -> Prop), Inv X pins σ H s -> (∀ b ∈ fp, FpOk X pins H b) -> tn i s.heap -> J.go i H ->
    wpAny (model P w) X.A (pyNext (.ref it)) (fun r s1 => ∃ u, r = some u /\
      wpAny (model P w) X.A (letOwnedTupleGo tg (.ref it) u) (fun _ s2 => ∃ x H', Inv X pins σ H' s2 /\ RelV x u /\ J.yld i H x H' /\ tn (i + 1) s2.heap /\ ∀ b ∈ fp, H' b = none) E s1) E s
  done : ∀ (X : Cx), X.prog = P -> X.w = w -> X.K = K -> X.calm = true -> ∀ (i : Nat) (pins : List (Addr × Obj)) (s : Shared) (σ : St) (H : Hp) (E : Value -> Shared -> Prop), Inv X pins σ H s -> (∀ b ∈ fp, FpOk X pins H b) -> tn i s.heap -> J.stop i H ->
    wpAny (model P w) X.A (pyNext (.ref it)) (fun r s1 => r = none /\ Inv X pins σ H s1) E s
  self : ∀ (A : Around) (i : Nat) (s : Shared) (Q : Value -> Shared -> Prop) (E : Value -> Shared -> Prop), tn i s.heap -> Q (.ref it) s -> wpAny (model P w) A (pyIter (.ref it)) Q E s
abbrev TI := St -> Hp -> (It -> Hp -> Prop) -> Prop
def PIE (X : Cx) (pins : List (Addr × Obj)) (σ : St) (tg : Expr) (R : It -> Hp -> Prop) (itv : Value) (s2 : Shared) : Prop :=
  ∃ (it : Addr) (fp : List Addr) (tn : Nat -> Heap -> Prop) (J : It) (H' : Hp), itv = .ref it /\ Inv X pins σ H' s2 /\ Turn X.prog X.w X.K tg J fp it tn /\ tn 0 s2.heap /\ (∀ b ∈ fp, FpOk X pins H' b) /\ R J H'
def PI (X : Cx) (tg iter : Expr) (wi : TI) : Prop :=
  ∀ (pins : List (Addr × Obj)) (s : Shared) (σ : St) (H : Hp) (R : It -> Hp -> Prop), Inv X pins σ H s -> wi σ H R ->
    wpAny (model X.prog X.w) X.A (eval iter X.env) (fun v s1 => wpAny (model X.prog X.w) X.A (pyIter v) (PIE X pins σ tg R) X.xe s1) X.xe s
theorem go_of {M : Model} {A : Around} {E : Value -> Shared -> Prop} {s : Shared} {tg : Expr} {it : Addr} {u : Value} {o : Obj} {n : String} {vs : Array Value} {Q : Unit -> Shared -> Prop} (ho : s.heap.get? it = some o) (hc : o.cls = .type n) (hd : o.data = .fields vs)
    (hn : ["enumerate", "zip", "dict_itemiterator", "dict_reverseitemiterator", "odict_iterator", "itertools.zip_longest", "itertools.pairwise"].contains n = false) (hQ : Q () s) : wpAny M A (letOwnedTupleGo tg (.ref it) u) Q E s := by
  unfold letOwnedTupleGo
  cases tg <;> first
    | exact wpAny_pure hQ
    | (cases u <;> first
        | exact wpAny_pure hQ
        | (refine wpAny_bind (wpAny_load ho ?_)
           rw [hc, hd]
           show wpAny M A (if (["enumerate", "zip", "dict_itemiterator", "dict_reverseitemiterator", "odict_iterator", "itertools.zip_longest", "itertools.pairwise"].contains n && vs[0]? == some (rawInt _)) = true then _ else _) Q E s
           rw [if_neg (by intro h; rw [hn, Bool.false_and] at h; cases h)]
           exact wpAny_pure hQ))
def Itl (K : PySem.W.Frag) (a : Addr) : It :=
  ⟨fun i H => ∃ xs x, SqL K H a xs /\ xs[i]? = some x, fun i H x H' => H' = H /\ ∀ xs, SqL K H a xs -> xs[i]? = some x, fun i H => ∃ xs, SqL K H a xs /\ xs.length <= i⟩
def Itt (K : PySem.W.Frag) (a : Addr) : It :=
  ⟨fun i H => ∃ xs x, SqT K H a xs /\ xs[i]? = some x, fun i H x H' => H' = H /\ ∀ xs, SqT K H a xs -> xs[i]? = some x, fun i H => ∃ xs, SqT K H a xs /\ xs.length <= i⟩
def Itr (lo : Int) (n : Nat) : It := ⟨fun i _ => i < n, fun i H x H' => H' = H /\ x = .int (lo + i), fun i _ => n <= i⟩
theorem turn_list {P : Program} {w : World} {K : PySem.W.Frag} {tg : Expr} (a it : Addr) : Turn P w K tg (Itl K a) [it] it (fun i h => h.IsListIter it a i) where
  mem := by simp
  obj := fun i h st b hb => by
    have e : b = it := by simpa using hb
    subst e
    obtain ⟨o, e, c, d⟩ := st
    exact ⟨o, e, fun v z => by rw [d] at z; cases z⟩
  keep := fun i h h' st k => st.at fun o e => k it (by simp) o e
  item := by
    intro X hP hw hK hc i pins s σ H E I hf st hg
    subst hP hw hK
    obtain ⟨xs, x, hq, hx⟩ := hg
    obtain ⟨its, rv, p, hz⟩ := I.list hq
    obtain ⟨u, hu, ru⟩ := rv.get hx
    obtain ⟨f0, f1, f2, f3, f4, f5⟩ := hf it (by simp)
    refine wpAny_pyNext_list_item st p.isList (x := u) (by simpa using hu) fun h' st' sb => ?_
    have I1 : Inv X pins σ H { s with heap := h' } := I.turned (t' := s.toks) (fun b o hb e => (sb.2 b hb).trans e) f0 f1 f3 f4 f5
    obtain ⟨o, e, c, d⟩ := id st'
    exact ⟨u, rfl, go_of (s := { s with heap := h' }) e c d (by decide) ⟨x, H, I1, ru, ⟨rfl, fun ys hy => by rw [I.list_inj hy hq]; exact hx⟩, st', fun b hb => (hf b hb).1⟩⟩
  done := by
    intro X hP hw hK hc i pins s σ H E I hf st hg
    subst hP hw hK
    obtain ⟨xs, hq, hx⟩ := hg
    obtain ⟨its, rv, p, hz⟩ := I.list hq
    obtain ⟨f0, f1, f2, f3, f4, f5⟩ := hf it (by simp)
    have hl := rv.length
    exact wpAny_pyNext_list_end (I.ok.hd hc) st p.isList (by simp; omega) fun h' eb => ⟨rfl, I.turned (t' := s.toks) (fun b o hb e => eb b o hb e) f0 f1 f3 f4 f5⟩
  self := fun _ _ _ _ _ st h => wpAny_pyIter_listiter st h
theorem turn_tuple {P : Program} {w : World} {K : PySem.W.Frag} {tg : Expr} (a it : Addr) : Turn P w K tg (Itt K a) [it] it (fun i h => h.IsTupleIter it a i) where
  mem := by simp
  obj := fun i h st b hb => by
    have e : b = it := by simpa using hb
    subst e
    obtain ⟨o, e, c, d⟩ := st
    exact ⟨o, e, fun v z => by rw [d] at z; cases z⟩
  keep := fun i h h' st k => st.at fun o e => k it (by simp) o e
  item := by
    intro X hP hw hK hc i pins s σ H E I hf st hg
    subst hP hw hK
    obtain ⟨xs, x, hq, hx⟩ := hg
    obtain ⟨its, rv, p, hz⟩ := I.tuple hq
    obtain ⟨u, hu, ru⟩ := rv.get hx
    obtain ⟨f0, f1, f2, f3, f4, f5⟩ := hf it (by simp)
    refine wpAny_pyNext_tuple_item st (show s.heap.IsTuple a its.toArray from p) (x := u) (by simpa using hu) fun h' st' sb => ?_
    have I1 : Inv X pins σ H { s with heap := h' } := I.turned (t' := s.toks) (fun b o hb e => (sb.2 b hb).trans e) f0 f1 f3 f4 f5
    obtain ⟨o, e, c, d⟩ := id st'
    exact ⟨u, rfl, go_of (s := { s with heap := h' }) e c d (by decide) ⟨x, H, I1, ru, ⟨rfl, fun ys hy => by rw [I.tuple_inj hy hq]; exact hx⟩, st', fun b hb => (hf b hb).1⟩⟩
  done := by
    intro X hP hw hK hc i pins s σ H E I hf st hg
    subst hP hw hK
    obtain ⟨xs, hq, hx⟩ := hg
    obtain ⟨its, rv, p, hz⟩ := I.tuple hq
    obtain ⟨f0, f1, f2, f3, f4, f5⟩ := hf it (by simp)
    have hl := rv.length
    exact wpAny_pyNext_tuple_end (I.ok.hd hc) st (show s.heap.IsTuple a its.toArray from p) (by simp; omega) fun h' eb => ⟨rfl, I.turned (t' := s.toks) (fun b o hb e => eb b o hb e) f0 f1 f3 f4 f5⟩
  self := fun _ _ _ _ _ st h => wpAny_pyIter_tupleiter st h
theorem turn_range {P : Program} {w : World} {K : PySem.W.Frag} {tg : Expr} (it : Addr) (lo : Int) (n : Nat) : Turn P w K tg (Itr lo n) [it] it (fun i h => IsRangeIter h it (lo + (i : Nat) * 1) ((n : Int) - (i : Nat)) 1) where
  mem := by simp
  obj := fun i h st b hb => by
    have e : b = it := by simpa using hb
    subst e
    exact ⟨_, st, fun v z => by
      have z' : Data.fields _ = Data.cell v := z
      cases z'⟩
  keep := fun i h h' st k => k it (by simp) _ st
  item := by
    intro X hP hw hK hc i pins s σ H E I hf st hg
    subst hP hw hK
    obtain ⟨f0, f1, f2, f3, f4, f5⟩ := hf it (by simp)
    have W := Walks.range (prog := X.prog) (w := X.w) (I.ok.hd hc) it lo 1 n
    refine W.item i s _ _ hg st fun v h' tk hv st' kk => ?_
    obtain ⟨t, rfl⟩ := hv
    have I1 : Inv X pins σ H { s with heap := h', toks := tk } := I.turned (fun b o hb e => kk b o (by simpa using hb) e) f0 f1 f3 f4 f5
    refine ⟨_, rfl, go_of (s := { s with heap := h', toks := tk }) (n := "range_iterator") st' rfl rfl (by decide) ⟨.int (lo + i), H, I1, ⟨t, ?_⟩, ⟨rfl, rfl⟩, st', fun b hb => (hf b hb).1⟩⟩
    rw [Int.mul_one]
  done := by
    intro X hP hw hK hc i pins s σ H E I hf st hg
    subst hP hw hK
    obtain ⟨f0, f1, f2, f3, f4, f5⟩ := hf it (by simp)
    exact wpAny_pyNext_range_end (I.ok.hd hc) st (by have : n <= i := hg; omega) fun h' eb => ⟨rfl, I.turned (t' := s.toks) (fun b o hb e => eb b o hb e) f0 f1 f3 f4 f5⟩
  self := fun _ _ _ _ _ st h => wpAny_pyIter_rangeiter st h
end L2
namespace L2
open PySem PySem.Spec PyProof.Rows
section
variable {X : Cx} {tg : Expr}
def iList (K : PySem.W.Frag) (tl : TE) : TI := fun σ H R => tl σ H fun x H1 => ∃ a, x = .ref a /\ (∃ xs, SqL K H1 a xs) /\ R (Itl K a) H1
def iTup (K : PySem.W.Frag) (tl : TE) : TI := fun σ H R => tl σ H fun x H1 => ∃ a, x = .ref a /\ (∃ xs, SqT K H1 a xs) /\ R (Itt K a) H1
theorem pi_list {l : Expr} {tl : TE} (hl : PE X l tl) : PI X tg l (iList X.K tl) := by
  intro pins s σ H R I h
  refine thn (hl pins s σ H _ I h) fun v s1 ⟨x, H1, I1, r1, q1⟩ => ?_
  obtain ⟨a, e, ⟨xs, hq⟩, q⟩ := q1
  subst e
  cases r1
  obtain ⟨its, rv, p, hz⟩ := I1.list hq
  refine wpAny_pyIter_list p.isList ?_
  refine ⟨s1.heap.objs.size, [s1.heap.objs.size], _, _, H1, rfl, I1.kept (t' := s1.toks) fun b o e => Heap.get?_push_of_some _ e, turn_list a _, ⟨_, Heap.get?_push_size _ rfl, rfl, rfl⟩, fun b hb => ?_, q⟩
  have e : b = s1.heap.objs.size := by simpa using hb
  subst e
  exact I1.fpOk (Nat.le_refl _) (I1.hok.fresh (Nat.le_refl _))
theorem pi_tup {l : Expr} {tl : TE} (hl : PE X l tl) : PI X tg l (iTup X.K tl) := by
  intro pins s σ H R I h
  refine thn (hl pins s σ H _ I h) fun v s1 ⟨x, H1, I1, r1, q1⟩ => ?_
  obtain ⟨a, e, ⟨xs, hq⟩, q⟩ := q1
  subst e
  cases r1
  obtain ⟨its, rv, p, hz⟩ := I1.tuple hq
  refine wpAny_pyIter_tuple (show s1.heap.IsTuple a its.toArray from p) ?_
  refine ⟨s1.heap.objs.size, [s1.heap.objs.size], _, _, H1, rfl, I1.kept (t' := s1.toks) fun b o e => Heap.get?_push_of_some _ e, turn_tuple a _, ⟨_, Heap.get?_push_size _ rfl, rfl, rfl⟩, fun b hb => ?_, q⟩
  have e : b = s1.heap.objs.size := by simpa using hb
  subst e
  exact I1.fpOk (Nat.le_refl _) (I1.hok.fresh (Nat.le_refl _))
theorem range_it {pins : List (Addr × Obj)} {σ : St} {H : Hp} {s : Shared} {R : It -> Hp -> Prop} {E : Value -> Shared -> Prop} {lo hi : Int} {t u v : Tok} {tk : Nat} (I : Inv X pins σ H s) (h1 : -(2 ^ 62) <= lo) (h2 : lo < 2 ^ 62) (h3 : -(2 ^ 62) <= hi) (h4 : hi < 2 ^ 62)
    (q : R (Itr lo (hi - lo).toNat) H) : wpAny (model X.prog X.w) X.A (pyIter (.ref s.heap.objs.size)) (PIE X pins σ tg R) E { s with heap := s.heap.push { cls := .type "range", data := .fields #[.int lo t, .int hi u, .int 1 v] }, toks := tk } := by
  refine wpAny_pyIter_range (IsRange.new ..) (small_one h1 h2 h3 h4) ?_
  have I1 : Inv X pins σ H { s with heap := s.heap.push { cls := .type "range", data := .fields #[.int lo t, .int hi u, .int 1 v] }, toks := tk } := I.kept fun b o e => Heap.get?_push_of_some _ e
  refine ⟨(s.heap.push { cls := .type "range", data := .fields #[.int lo t, .int hi u, .int 1 v] }).objs.size, [(s.heap.push { cls := .type "range", data := .fields #[.int lo t, .int hi u, .int 1 v] }).objs.size], _, _, H, rfl,
    I1.kept (t' := tk) fun b o e => Heap.get?_push_of_some _ e, turn_range _ lo (hi - lo).toNat, ?_, fun b hb => ?_, q⟩
  · have e1 : lo + ((0 : Nat) : Int) * 1 = lo := by simp
    have e2 : (((hi - lo).toNat : Nat) : Int) - ((0 : Nat) : Int) = Builtin.Range.rangeSize lo hi 1 := by rw [rangeSize_one]; split <;> omega
    show IsRangeIter _ _ (lo + ((0 : Nat) : Int) * 1) ((((hi - lo).toNat : Nat) : Int) - ((0 : Nat) : Int)) 1
    rw [e1, e2]
    exact Heap.get?_push_size _ rfl
  · have e : b = (s.heap.push { cls := .type "range", data := .fields #[.int lo t, .int hi u, .int 1 v] }).objs.size := by simpa using hb
    subst e
    exact I1.fpOk (Nat.le_refl _) (I1.hok.fresh (Nat.le_refl _))
def iRng1 (ta : TA) : TI := fun σ H R => ta σ H fun vs H1 => ∃ j : Int, vs = [.int j] /\ -(2 ^ 62) <= j /\ j < 2 ^ 62 /\ R (Itr 0 j.toNat) H1
theorem pi_range1 {a : Expr} {ta : TA} {p pos : Pos} (hg : Gl X "range") (hm : X.mg "range" = none) (ha : PA X [a] ta) (hs : starEach [a] X.env = [(false, eval a X.env)] := by rfl) : PI X tg (.Call (.Name "range" p) [a] [] pos) (iRng1 ta) := by
  intro pins s σ H R I h
  refine Call_ (ld_blt I hg hm boot_range (PyProof.Rows.callWith_type1 (thn (ha pos pins s σ H _ I h) fun us s1 ⟨vs, H1, I1, r1, q1⟩ => ?_) hs rfl))
  obtain ⟨j, e, q1, q2, q⟩ := q1
  subst e
  cases r1 with
  | cons r rr =>
    cases rr
    obtain ⟨t, rfl⟩ := r
    exact call_range_1 (range_it I1 (by omega) (by omega) q1 q2 (by simpa using q))
def tFor (wi : TI) (g : TG) (tb : TS) : TS := fun D σ H => wi σ H fun J H1 => ∃ W : Nat -> Nat -> St -> Hp -> Prop, (∃ m, W 0 m σ H1) /\ ∀ i m σ H, W i m σ H ->
  (J.stop i H /\ D.nx σ H) \/ (J.go i H /\ ∃ N : St -> Hp -> Prop, (∀ σ' H', N σ' H' -> ∃ m', m' < m /\ W (i + 1) m' σ' H') /\ ∀ x H', J.yld i H x H' -> g x σ H' fun σ2 H2 => tb { D with nx := N, ct := N, bk := D.nx } σ2 H2)
def Zq111 (fp : List Addr) (h : Heap) : List (Addr × Obj) := fp.filterMap fun b => (h.get? b).map fun o => (b, o)
theorem mem_pinsAt {fp : List Addr} {h : Heap} {b : Addr} {o : Obj} (hb : b ∈ fp) (e : h.get? b = some o) : (b, o) ∈ Zq111 fp h := List.mem_filterMap.mpr ⟨b, hb, by rw [e]; rfl⟩
theorem of_pinsAt {fp : List Addr} {h : Heap} {p : Addr × Obj} (hp : p ∈ Zq111 fp h) : p.1 ∈ fp /\ h.get? p.1 = some p.2 := by
  obtain ⟨b, hb, e⟩ := List.mem_filterMap.mp hp
  cases q : h.get? b with
  | none => rw [q] at e; cases e
  | some o =>
    rw [q] at e
    have e' : (b, o) = p := Option.some.inj e
    subst e'
    exact ⟨hb, q⟩
theorem Inv.pinned {pins : List (Addr × Obj)} {σ : St} {H : Hp} {s : Shared} {fp : List Addr} (I : Inv X pins σ H s) (hf : ∀ b ∈ fp, FpOk X pins H b) (ho : ∀ b ∈ fp, ∃ o, s.heap.get? b = some o /\ ∀ v, o.data ≠ .cell v) : Inv X (pins ++ Zq111 fp s.heap) σ H s :=
  I.pins_of fun p hp => (List.mem_append.mp hp).elim (fun z => I.pin p (List.mem_append_right _ z)) fun z => by
    obtain ⟨hb, e⟩ := of_pinsAt z
    obtain ⟨f0, f1, f2, _⟩ := hf p.1 hb
    obtain ⟨o, e', d⟩ := ho p.1 hb
    rw [e] at e'; cases e'
    exact ⟨e, f0, f1, f2, d⟩
theorem Inv.unpinned {pins pl : List (Addr × Obj)} {σ : St} {H : Hp} {s : Shared} (I : Inv X (pins ++ pl) σ H s) : Inv X pins σ H s := I.pins_of fun p hp => I.pin p (List.mem_append_right _ (List.mem_append_left _ hp))
theorem ps_for {iter : Expr} {body : List Stmt} {wi : TI} {g : TG} {tb : TS} {pos : Pos} (hp : PassesOwn (model X.prog X.w) X.A X.env X.xe) (hc : X.calm = true) (hi : PI X tg iter wi) (hg : PG X tg g) (hb : PSs X body tb)
    (hs : ∀ x, foldedSetIterable iter X.env x = pure x := by intro _; rfl) : PS X (.For tg iter body [] pos) (tFor wi g tb) := by
  intro pins s σ H D I h
  refine wpAny_For (thn (hi pins s σ H _ I h) fun v s1 h1 => thn h1 fun itv s2 h2 => ?_) hs
  obtain ⟨it, fp, tn, J, H2, e, I2, T, st2, f2, W, ⟨m0, w0⟩, turn⟩ := h2
  subst e
  have stat : ∀ {H' : Hp}, (∀ b ∈ fp, H' b = none) -> ∀ b ∈ fp, FpOk X pins H' b := fun hn b hb => ⟨hn b hb, (f2 b hb).2⟩
  refine codeAny_forLoop_any (fun n s' => ∃ i σ' H', Inv X pins σ' H' s' /\ tn i s'.heap /\ (∀ b ∈ fp, H' b = none) /\ W i n σ' H') ?_ m0 ⟨0, σ, H2, I2, st2, fun b hb => (f2 b hb).1, w0⟩
  rintro n s3 ⟨i, σ3, H3, I3, st3, fr3, w3⟩
  rcases turn i n σ3 H3 w3 with ⟨stop, qn⟩ | ⟨go, N, hN, step⟩
  · refine wpAny_passesOwn hp (thn (T.done X rfl rfl rfl hc i pins s3 σ3 H3 X.xe I3 (stat fr3) st3 stop) fun r s4 ⟨hr, I4⟩ => ?_)
    subst hr
    exact wpAny_execs_nil ⟨σ3, H3, I4, qn⟩
  · refine wpAny_passesOwn hp (thn (T.item X rfl rfl rfl hc i pins s3 σ3 H3 X.xe I3 (stat fr3) st3 go) fun r s4 ⟨u, hr, h4⟩ => ?_)
    subst hr
    refine wpAny_passesOwn hp (thn h4 fun _ s5 ⟨x, H5, I5, r5, y5, st5, fr5⟩ => ?_)
    have I5' := I5.pinned (stat fr5) (T.obj _ _ st5)
    refine wpAny_passesOwn hp (thn (hg _ s5 σ3 H5 x u _ I5' r5 (step x H5 y5)) fun _ s6 ⟨σ6, H6, I6, q6⟩ => ?_)
    refine wpAny_passesOwn hp (thn (hb _ s6 σ6 H6 _ I6 q6) fun f s7 q7 => ?_)
    have again : ∀ {σ7 : St} {H7 : Hp}, Inv X (pins ++ Zq111 fp s5.heap) σ7 H7 s7 -> N σ7 H7 -> ∃ m, m < n /\ ∃ i σ' H', Inv X pins σ' H' s7 /\ tn i s7.heap /\ (∀ b ∈ fp, H' b = none) /\ W i m σ' H' := fun {σ7 H7} I7 n7 => by
      obtain ⟨m', hm, w7⟩ := hN σ7 H7 n7
      refine ⟨m', hm, i + 1, σ7, H7, I7.unpinned, T.keep _ _ _ st5 fun b hb o e => (I7.pin (b, o) (List.mem_append_right _ (List.mem_append_right _ (mem_pinsAt hb e)))).1, fun b hb => ?_, w7⟩
      obtain ⟨o, e, d⟩ := T.obj _ _ st5 b hb
      exact (I7.pin (b, o) (List.mem_append_right _ (List.mem_append_right _ (mem_pinsAt hb e)))).2.1
    cases f with
    | next => obtain ⟨σ7, H7, I7, n7⟩ := q7; exact again I7 n7
    | cont => obtain ⟨σ7, H7, I7, n7⟩ := q7; exact again I7 n7
    | brk => obtain ⟨σ7, H7, I7, q7⟩ := q7; exact ⟨σ7, H7, I7.unpinned, q7⟩
    | ret v => obtain ⟨x7, σ7, H7, I7, r7, q7⟩ := q7; exact ⟨x7, σ7, H7, I7.unpinned, r7, q7⟩
end
theorem for_list {K : PySem.W.Frag} {a : Addr} {xs : List V} {g : TG} {tb : TS} {D : Ends} {σ : St} {H : Hp} (Pv : Nat -> St -> Hp -> Prop) (h0 : Pv 0 σ H) (hl : ∀ i σ H, i <= xs.length -> Pv i σ H -> SqL K H a xs)
    (hs : ∀ i x σ H, xs[i]? = some x -> Pv i σ H -> g x σ H fun σ2 H2 => tb { D with nx := Pv (i + 1), ct := Pv (i + 1), bk := D.nx } σ2 H2) (hd : ∀ σ H, Pv xs.length σ H -> D.nx σ H) :
    ∃ W : Nat -> Nat -> St -> Hp -> Prop, (∃ m, W 0 m σ H) /\ ∀ i m σ H, W i m σ H ->
      ((Itl K a).stop i H /\ D.nx σ H) \/ ((Itl K a).go i H /\ ∃ N : St -> Hp -> Prop, (∀ σ' H', N σ' H' -> ∃ m', m' < m /\ W (i + 1) m' σ' H') /\ ∀ x H', (Itl K a).yld i H x H' -> g x σ H' fun σ2 H2 => tb { D with nx := N, ct := N, bk := D.nx } σ2 H2) := by
  refine ⟨fun i m σ H => m = xs.length - i /\ i <= xs.length /\ Pv i σ H, ⟨xs.length, by simp, Nat.zero_le _, h0⟩, ?_⟩
  rintro i m σ H ⟨rfl, hi, p⟩
  have q := hl i σ H hi p
  by_cases hlt : i < xs.length
  · refine .inr ⟨⟨xs, xs[i], q, by simp [hlt]⟩, Pv (i + 1), fun σ' H' p' => ⟨xs.length - (i + 1), by omega, rfl, hlt, p'⟩, fun x H' y => ?_⟩
    obtain ⟨e, y⟩ := y
    subst e
    exact hs i x σ _ (y xs q) p
  · have e : i = xs.length := by omega
    subst e
    exact .inl ⟨⟨xs, q, Nat.le_refl _⟩, hd σ H p⟩
theorem for_tup {K : PySem.W.Frag} {a : Addr} {xs : List V} {g : TG} {tb : TS} {D : Ends} {σ : St} {H : Hp} (Pv : Nat -> St -> Hp -> Prop) (h0 : Pv 0 σ H) (hl : ∀ i σ H, i <= xs.length -> Pv i σ H -> SqT K H a xs)
    (hs : ∀ i x σ H, xs[i]? = some x -> Pv i σ H -> g x σ H fun σ2 H2 => tb { D with nx := Pv (i + 1), ct := Pv (i + 1), bk := D.nx } σ2 H2) (hd : ∀ σ H, Pv xs.length σ H -> D.nx σ H) :
    ∃ W : Nat -> Nat -> St -> Hp -> Prop, (∃ m, W 0 m σ H) /\ ∀ i m σ H, W i m σ H ->
      ((Itt K a).stop i H /\ D.nx σ H) \/ ((Itt K a).go i H /\ ∃ N : St -> Hp -> Prop, (∀ σ' H', N σ' H' -> ∃ m', m' < m /\ W (i + 1) m' σ' H') /\ ∀ x H', (Itt K a).yld i H x H' -> g x σ H' fun σ2 H2 => tb { D with nx := N, ct := N, bk := D.nx } σ2 H2) := by
  refine ⟨fun i m σ H => m = xs.length - i /\ i <= xs.length /\ Pv i σ H, ⟨xs.length, by simp, Nat.zero_le _, h0⟩, ?_⟩
  rintro i m σ H ⟨rfl, hi, p⟩
  have q := hl i σ H hi p
  by_cases hlt : i < xs.length
  · refine .inr ⟨⟨xs, xs[i], q, by simp [hlt]⟩, Pv (i + 1), fun σ' H' p' => ⟨xs.length - (i + 1), by omega, rfl, hlt, p'⟩, fun x H' y => ?_⟩
    obtain ⟨e, y⟩ := y
    subst e
    exact hs i x σ _ (y xs q) p
  · have e : i = xs.length := by omega
    subst e
    exact .inl ⟨⟨xs, q, Nat.le_refl _⟩, hd σ H p⟩
theorem for_range {lo : Int} {n : Nat} {g : TG} {tb : TS} {D : Ends} {σ : St} {H : Hp} (Pv : Nat -> St -> Hp -> Prop) (h0 : Pv 0 σ H)
    (hs : ∀ i σ H, i < n -> Pv i σ H -> g (.int (lo + i)) σ H fun σ2 H2 => tb { D with nx := Pv (i + 1), ct := Pv (i + 1), bk := D.nx } σ2 H2) (hd : ∀ σ H, Pv n σ H -> D.nx σ H) :
    ∃ W : Nat -> Nat -> St -> Hp -> Prop, (∃ m, W 0 m σ H) /\ ∀ i m σ H, W i m σ H ->
      ((Itr lo n).stop i H /\ D.nx σ H) \/ ((Itr lo n).go i H /\ ∃ N : St -> Hp -> Prop, (∀ σ' H', N σ' H' -> ∃ m', m' < m /\ W (i + 1) m' σ' H') /\ ∀ x H', (Itr lo n).yld i H x H' -> g x σ H' fun σ2 H2 => tb { D with nx := N, ct := N, bk := D.nx } σ2 H2) := by
  refine ⟨fun i m σ H => m = n - i /\ i <= n /\ Pv i σ H, ⟨n, by simp, Nat.zero_le _, h0⟩, ?_⟩
  rintro i m σ H ⟨rfl, hi, p⟩
  by_cases hlt : i < n
  · refine .inr ⟨hlt, Pv (i + 1), fun σ' H' p' => ⟨n - (i + 1), by omega, rfl, hlt, p'⟩, fun x H' y => ?_⟩
    obtain ⟨e, y⟩ := y
    subst e y
    exact hs i σ _ hlt p
  · have e : i = n := by omega
    subst e
    exact .inl ⟨Nat.le_refl _, hd σ H p⟩
end L2
namespace L2
open PySem PySem.Spec PyProof.Rows
abbrev R2 := V -> V -> Hp -> VK -> Prop
def OpR (X : Cx) (f : Value -> Value -> Sem Value) (r : R2) : Prop :=
  ∀ (pins : List (Addr × Obj)) (s : Shared) (σ : St) (H : Hp) (x y : V) (v u : Value) (Q : VK), Inv X pins σ H s -> RelV x v -> RelV y u -> r x y H Q ->
    wpAny (model X.prog X.w) X.A (f v u) (EP X pins σ Q) X.xe s
def UnR (X : Cx) (f : Value -> Sem Value) (r : V -> Hp -> VK -> Prop) : Prop :=
  ∀ (pins : List (Addr × Obj)) (s : Shared) (σ : St) (H : Hp) (x : V) (v : Value) (Q : VK), Inv X pins σ H s -> RelV x v -> r x H Q ->
    wpAny (model X.prog X.w) X.A (f v) (EP X pins σ Q) X.xe s
def Zq73 (X : Cx) (f : Value) (r : List V -> Hp -> VK -> Prop) : Prop :=
  ∀ (pins : List (Addr × Obj)) (s : Shared) (σ : St) (H : Hp) (xs : List V) (us : List Value) (Q : VK), Inv X pins σ H s -> Vals xs us -> r xs H Q ->
    wpAny (model X.prog X.w) X.A (call f us) (EP X pins σ Q) X.xe s
def tOp (r : R2) (ta tb : TE) : TE := fun σ H Q => ta σ H fun x H1 => tb σ H1 fun y H2 => r x y H2 Q
def tUn (r : V -> Hp -> VK -> Prop) (ta : TE) : TE := fun σ H Q => ta σ H fun x H1 => r x H1 Q
def rI (C : Int -> Int -> Prop) (g : Int -> Int -> V) : R2 := fun x y H Q => ∃ i j, x = .int i /\ y = .int j /\ C i j /\ Q (g i j) H
def rI0 (g : Int -> Int -> V) : R2 := fun x y H Q => ∃ i j, x = .int i /\ y = .int j /\ Q (g i j) H
def rU (g : Int -> V) : V -> Hp -> VK -> Prop := fun x H Q => ∃ i, x = .int i /\ Q (g i) H
section
variable {X : Cx} {a b c : Expr} {ta tb tc : TE} {pos : Pos}
theorem binT (ha : PE X a ta) (hb : PE X b tb) {pins : List (Addr × Obj)} {s : Shared} {σ : St} {H : Hp} {R : V -> V -> Hp -> Prop} (I : Inv X pins σ H s)
    (h : ta σ H fun x H1 => tb σ H1 fun y H2 => R x y H2) {Q : Value -> Shared -> Prop} {f : Value -> Value -> Sem Value}
    (hf : ∀ v u s2 x y H2, Inv X pins σ H2 s2 -> RelV x v -> RelV y u -> R x y H2 -> wpAny (model X.prog X.w) X.A (f v u) Q X.xe s2) :
    wpAny (model X.prog X.w) X.A (eval a X.env) (fun v s₁ => wpAny (model X.prog X.w) X.A (eval b X.env) (fun u s₂ => wpAny (model X.prog X.w) X.A (f v u) Q X.xe s₂) X.xe s₁) X.xe s := by
  refine thn (ha pins s σ H _ I h) fun v s1 ⟨x, H1, I1, r1, q1⟩ => ?_
  refine thn (hb pins s1 σ H1 _ I1 q1) fun u s2 ⟨y, H2, I2, r2, q2⟩ => ?_
  exact hf v u s2 x y H2 I2 r1 r2 q2
theorem pe_op {op : Operator} {r : R2} (ho : OpR X (binaryOp op) r) (ha : PE X a ta) (hb : PE X b tb) : PE X (.BinOp a op b pos) (tOp r ta tb) := by
  intro pins s σ H Q I h
  exact wpAny_BinOp (binT ha hb I h fun v u s2 x y H2 I2 rx ry q => ho pins s2 σ H2 x y v u Q I2 rx ry q)
theorem pe_un {op : UnaryOp} {r : V -> Hp -> VK -> Prop} (ho : UnR X (unaryOp op) r) (ha : PE X a ta) : PE X (.UnaryOp op a pos) (tUn r ta) := by
  intro pins s σ H Q I h
  exact UnaryOp_ (thn (ha pins s σ H _ I h) fun v s1 ⟨x, H1, I1, r1, q1⟩ => ho pins s1 σ H1 x v Q I1 r1 q1)
theorem opI {f : Value -> Value -> Sem Value} {C : Int -> Int -> Prop} {g : Int -> Int -> Int}
    (rule : ∀ (i j : Int) (t u : Tok) (s : Shared) (Q : Value -> Shared -> Prop) (E : Value -> Shared -> Prop), C i j -> Q (.int (g i j) s.toks) { s with toks := s.toks + 1 } -> wpAny (model X.prog X.w) X.A (f (.int i t) (.int j u)) Q E s) :
    OpR X f (rI C fun i j => .int (g i j)) := by
  intro pins s σ H x y v u Q I rx ry h
  obtain ⟨i, j, rfl, rfl, hc, q⟩ := h
  obtain ⟨t, rfl⟩ := rx
  obtain ⟨t', rfl⟩ := ry
  exact rule i j t t' s _ _ hc ⟨.int (g i j), H, I.tok _, ⟨_, rfl⟩, q⟩
theorem opI0 {f : Value -> Value -> Sem Value} {g : Int -> Int -> Int}
    (rule : ∀ (i j : Int) (t u : Tok) (s : Shared) (Q : Value -> Shared -> Prop) (E : Value -> Shared -> Prop), Q (.int (g i j) s.toks) { s with toks := s.toks + 1 } -> wpAny (model X.prog X.w) X.A (f (.int i t) (.int j u)) Q E s) :
    OpR X f (rI0 fun i j => .int (g i j)) := by
  intro pins s σ H x y v u Q I rx ry h
  obtain ⟨i, j, rfl, rfl, q⟩ := h
  obtain ⟨t, rfl⟩ := rx
  obtain ⟨t', rfl⟩ := ry
  exact rule i j t t' s _ _ ⟨.int (g i j), H, I.tok _, ⟨_, rfl⟩, q⟩
theorem opB0 {f : Value -> Value -> Sem Value} {g : Int -> Int -> Bool}
    (rule : ∀ (i j : Int) (t u : Tok) (s : Shared) (Q : Value -> Shared -> Prop) (E : Value -> Shared -> Prop), Q (.bool (g i j)) s -> wpAny (model X.prog X.w) X.A (f (.int i t) (.int j u)) Q E s) :
    OpR X f (rI0 fun i j => .bl (g i j)) := by
  intro pins s σ H x y v u Q I rx ry h
  obtain ⟨i, j, rfl, rfl, q⟩ := h
  obtain ⟨t, rfl⟩ := rx
  obtain ⟨t', rfl⟩ := ry
  exact rule i j t t' s _ _ ⟨.bl (g i j), H, I, rfl, q⟩
def CDiv (i j : Int) : Prop := 0 < j /\ j < 1073741824
def CPow (i j : Int) : Prop := 0 <= j /\ j <= 1000000 /\ i.natAbs < 2 ^ 64
def CMul (i j : Int) : Prop := (-(2 ^ 64) < i /\ i < 2 ^ 64) \/ (-(2 ^ 64) < j /\ j < 2 ^ 64)
theorem CMul.ok {i j : Int} (h : CMul i j) : IntMulOk i j := by
  rcases h with ⟨h1, h2⟩ | ⟨h1, h2⟩
  · exact .of_left (intBits_le_64 h1 h2)
  · exact .of_right (intBits_le_64 h1 h2)
theorem op_add : OpR X (binaryOp .Add) (rI0 fun i j => .int (i + j)) := opI0 fun _ _ _ _ _ _ _ q => add_int q
theorem op_mul : OpR X (binaryOp .Mult) (rI CMul fun i j => .int (i * j)) := opI fun _ _ _ _ _ _ _ hc q => mul_int q hc.ok
theorem op_fdiv : OpR X (binaryOp .FloorDiv) (rI CDiv fun i j => .int (i / j)) := opI fun i j _ _ _ _ _ hc q => by
  have h1 : (0 : Int) < j := hc.1
  have h2 : j < 1073741824 := hc.2
  exact floordiv_int (by omega) (by rw [Int.fdiv_eq_ediv_of_nonneg i (by omega)]; exact q) (.inl (PyProof.noPylong_small (by omega)))
theorem op_mod : OpR X (binaryOp .Mod) (rI (fun _ j => 0 < j) fun i j => .int (i % j)) := opI fun i j _ _ _ _ _ hc q => by
  have h1 : (0 : Int) < j := hc
  exact mod_int' (by omega) (by rw [Int.fmod_eq_emod_of_nonneg i (by omega)]; exact q)
theorem op_pow : OpR X (binaryOp .Pow) (rI CPow fun i j => .int (i ^ j.toNat)) := opI fun _ _ _ _ _ _ _ hc q => pow_int_small hc.1 hc.2.1 hc.2.2 q
end
def scal : V -> V -> Bool
  | .non, .non => true | .non, .int _ => true | .int _, .non => true | .non, .bl _ => true | .bl _, .non => true | .non, .str _ => true | .str _, .non => true
  | .int _, .int _ => true | .bl _, .bl _ => true | .str _, .str _ => true | .byt _, .byt _ => true
  | .int _, .str _ => true | .str _, .int _ => true | .bl _, .str _ => true | .str _, .bl _ => true
  | _, _ => false
def rEq : R2 := fun x y H Q => scal x y = true /\ Q (.bl (decide (x = y))) H
def rNe : R2 := fun x y H Q => scal x y = true /\ Q (.bl (!decide (x = y))) H
theorem dec_int {i j : Int} : decide (V.int i = V.int j) = (i == j) := by
  rw [Bool.eq_iff_iff]
  simp
theorem dec_bl {i j : Bool} : decide (V.bl i = V.bl j) = (i == j) := by
  rw [Bool.eq_iff_iff]
  simp
theorem dec_str {i j : Str} : decide (V.str i = V.str j) = (i == j) := by
  rw [Bool.eq_iff_iff]
  simp
theorem dec_byt {i j : Array UInt8} : decide (V.byt i = V.byt j) = (i.toList == j.toList) := by
  rw [Bool.eq_iff_iff]
  cases i
  cases j
  simp
section
variable {X : Cx} {a b c : Expr} {ta tb tc : TE} {pos : Pos}
theorem Zq19 {pins : List (Addr × Obj)} {σ : St} {H : Hp} {s : Shared} {Q : VK} {k k' : Bool} (I : Inv X pins σ H s) (q : Q (.bl k) H) (e : k = k') : EP X pins σ Q (.bool k') s := by
  subst e
  exact ⟨.bl k, H, I, rfl, q⟩
theorem op_eq : OpR X (compareOp .Eq) rEq := by
  intro pins s σ H x y v u Q I rx ry h
  obtain ⟨hs, q⟩ := h
  cases x with
  | non =>
    cases rx
    cases y with
    | non => cases ry; exact PySem.EqNone.eq_none_none (Zq19 I q (by simp))
    | bl j => cases ry; exact PySem.EqNone.eq_none_bool (Zq19 I q (by simp))
    | int j => obtain ⟨t', rfl⟩ := ry; exact PySem.EqNone.eq_none_int (Zq19 I q (by simp))
    | str j => obtain ⟨t', rfl⟩ := ry; exact PySem.EqNone.eq_none_str (Zq19 I q (by simp))
    | _ => exact absurd (show false = true from hs) Bool.false_ne_true
  | bl i =>
    cases rx
    cases y with
    | non => cases ry; exact PySem.EqNone.eq_bool_none (Zq19 I q (by simp))
    | bl j => cases ry; exact eq_bool (Zq19 I q dec_bl)
    | str j => obtain ⟨t', rfl⟩ := ry; exact PySem.EqMixed.eq_bool_str (Zq19 I q (by simp))
    | _ => exact absurd (show false = true from hs) Bool.false_ne_true
  | int i =>
    obtain ⟨t, rfl⟩ := rx
    cases y with
    | non => cases ry; exact PySem.EqNone.eq_int_none (Zq19 I q (by simp))
    | int j => obtain ⟨t', rfl⟩ := ry; exact eq_int (Zq19 I q dec_int)
    | str j => obtain ⟨t', rfl⟩ := ry; exact PySem.EqMixed.eq_int_str (Zq19 I q (by simp))
    | _ => exact absurd (show false = true from hs) Bool.false_ne_true
  | str i =>
    obtain ⟨t, rfl⟩ := rx
    cases y with
    | non => cases ry; exact PySem.EqNone.eq_str_none (Zq19 I q (by simp))
    | bl j => cases ry; exact PySem.EqMixed.eq_str_bool (Zq19 I q (by simp))
    | int j => obtain ⟨t', rfl⟩ := ry; exact PySem.EqMixed.eq_str_int (Zq19 I q (by simp))
    | str j => obtain ⟨t', rfl⟩ := ry; exact eq_str (Zq19 I q dec_str)
    | _ => exact absurd (show false = true from hs) Bool.false_ne_true
  | byt i =>
    obtain ⟨t, rfl⟩ := rx
    cases y with
    | byt j => obtain ⟨t', rfl⟩ := ry; exact PySem.W.eq_bytes (Zq19 I q dec_byt)
    | _ => exact absurd (show false = true from hs) Bool.false_ne_true
  | _ => cases y <;> exact absurd (show false = true from hs) Bool.false_ne_true
theorem op_ne : OpR X (compareOp .NotEq) rNe := by
  intro pins s σ H x y v u Q I rx ry h
  obtain ⟨hs, q⟩ := h
  cases x with
  | non =>
    cases rx
    cases y with
    | non => cases ry; exact PySem.EqNone.ne_none_none (Zq19 I q (by simp))
    | bl j => cases ry; exact PySem.EqNone.ne_none_bool (Zq19 I q (by simp))
    | int j => obtain ⟨t', rfl⟩ := ry; exact PySem.EqNone.ne_none_int (Zq19 I q (by simp))
    | str j => obtain ⟨t', rfl⟩ := ry; exact PySem.EqNone.ne_none_str (Zq19 I q (by simp))
    | _ => exact absurd (show false = true from hs) Bool.false_ne_true
  | bl i =>
    cases rx
    cases y with
    | non => cases ry; exact PySem.EqNone.ne_bool_none (Zq19 I q (by simp))
    | bl j => cases ry; exact ne_bool (Zq19 I q (congrArg not dec_bl))
    | str j => obtain ⟨t', rfl⟩ := ry; exact PySem.EqMixed.ne_bool_str (Zq19 I q (by simp))
    | _ => exact absurd (show false = true from hs) Bool.false_ne_true
  | int i =>
    obtain ⟨t, rfl⟩ := rx
    cases y with
    | non => cases ry; exact PySem.EqNone.ne_int_none (Zq19 I q (by simp))
    | int j => obtain ⟨t', rfl⟩ := ry; exact ne_int (Zq19 I q (congrArg not dec_int))
    | str j => obtain ⟨t', rfl⟩ := ry; exact PySem.EqMixed.ne_int_str (Zq19 I q (by simp))
    | _ => exact absurd (show false = true from hs) Bool.false_ne_true
  | str i =>
    obtain ⟨t, rfl⟩ := rx
    cases y with
    | non => cases ry; exact PySem.EqNone.ne_str_none (Zq19 I q (by simp))
    | bl j => cases ry; exact PySem.EqMixed.ne_str_bool (Zq19 I q (by simp))
    | int j => obtain ⟨t', rfl⟩ := ry; exact PySem.EqMixed.ne_str_int (Zq19 I q (by simp))
    | str j => obtain ⟨t', rfl⟩ := ry; exact ne_str (Zq19 I q (congrArg not dec_str))
    | _ => exact absurd (show false = true from hs) Bool.false_ne_true
  | byt i =>
    obtain ⟨t, rfl⟩ := rx
    cases y with
    | byt j => obtain ⟨t', rfl⟩ := ry; exact PySem.W.ne_bytes (Zq19 I q (congrArg not dec_byt))
    | _ => exact absurd (show false = true from hs) Bool.false_ne_true
  | _ => cases y <;> exact absurd (show false = true from hs) Bool.false_ne_true
theorem op_lt : OpR X (compareOp .Lt) (rI0 fun i j => .bl (decide (i < j))) := opB0 fun _ _ _ _ _ _ _ q => lt_int q
theorem op_le : OpR X (compareOp .LtE) (rI0 fun i j => .bl (decide (i <= j))) := opB0 fun _ _ _ _ _ _ _ q => le_int q
theorem op_gt : OpR X (compareOp .Gt) (rI0 fun i j => .bl (decide (j < i))) := opB0 fun _ _ _ _ _ _ _ q => gt_int q
theorem op_ge : OpR X (compareOp .GtE) (rI0 fun i j => .bl (decide (j <= i))) := opB0 fun _ _ _ _ _ _ _ q => ge_int q
theorem op_isN : OpR X (compareOp .Is) (fun x y H Q => y = .non /\ Q (.bl (decide (x = .non))) H) := by
  intro pins s σ H x y v u Q I rx ry h
  obtain ⟨rfl, q⟩ := h
  cases ry
  refine is_none_gen (Zq19 I q ?_)
  cases x <;> first
    | (cases rx; rfl)
    | (obtain ⟨t, rfl⟩ := rx; rfl)
theorem Zq29 (b : Expr) {op : CmpOp} (h : op ≠ .In := by decide) (h2 : op ≠ .NotIn := by decide) : behindInMarks op b = false := by
  have e1 : (op == CmpOp.In) = false := by cases op <;> first | rfl | exact absurd rfl h
  have e2 : (op == CmpOp.NotIn) = false := by cases op <;> first | rfl | exact absurd rfl h2
  cases b <;> simp [behindInMarks, e1, e2]
theorem pe_cmpR {op : CmpOp} {r : R2} (ho : OpR X (compareOp op) r) (ha : PE X a ta) (hb : PE X b tb) (hm : behindInMarks op b = false) : PE X (.Compare a [op] [b] pos) (tOp r ta tb) := by
  intro pins s σ H Q I h
  exact wpAny_Compare1 (binT ha hb I h fun v u s2 x y H2 I2 rx ry q => ho pins s2 σ H2 x y v u Q I2 rx ry q) hm
def tTest (t : TE) : TT := fun σ H Q => t σ H fun x H' => ∃ k, x = .bl k /\ Q k H'
theorem pt_cmpR {op : CmpOp} {r : R2} (ho : OpR X (compareOp op) r) (ha : PE X a ta) (hb : PE X b tb) (hm : behindInMarks op b = false) : PT X (.Compare a [op] [b] pos) (tTest (tOp r ta tb)) := by
  intro pins s σ H Q I h
  refine wpAny_isTrue_Compare1 (thn (ha pins s σ H _ I h) fun v s1 ⟨x, H1, I1, r1, q1⟩ => thn (hb pins s1 σ H1 _ I1 q1) fun u s2 ⟨y, H2, I2, r2, q2⟩ =>
    thn (ho pins s2 σ H2 x y v u _ I2 r1 r2 q2) fun c s3 ⟨z, H3, I3, r3, k, e, q3⟩ => ?_) hm
  subst e
  cases r3
  exact wpAny_truthy_bool ⟨H3, I3, q3⟩
def tChain (r r' : R2) (ta tb tc : TE) : TE := fun σ H Q => ta σ H fun x H1 => tb σ H1 fun y H2 => r x y H2 fun z H3 => ∃ k, z = .bl k /\
  (if k = true then tc σ H3 fun w' H4 => r' y w' H4 Q else Q (.bl false) H3)
theorem pe_chain {op op' : CmpOp} {r r' : R2} (ho : OpR X (compareOp op) r) (ho' : OpR X (compareOp op') r') (ha : PE X a ta) (hb : PE X b tb) (hc : PE X c tc)
    (hm : lastMarks [op, op'] [b, c] = false := by with_unfolding_all rfl) : PE X (.Compare a [op, op'] [b, c] pos) (tChain r r' ta tb tc) := by
  intro pins s σ H Q I h
  refine Compare_chain (thn (ha pins s σ H _ I h) fun v s1 ⟨x, H1, I1, r1, q1⟩ => chain_link (thn (hb pins s1 σ H1 _ I1 q1) fun u s2 ⟨y, H2, I2, r2, q2⟩ =>
    thn (ho pins s2 σ H2 x y v u _ I2 r1 r2 q2) fun d s3 ⟨z, H3, I3, r3, k, e, q3⟩ => ?_)) hm
  subst e
  cases r3
  refine wpAny_truthy_bool ?_
  cases k with
  | false => exact ite_ff ⟨.bl false, H3, I3, rfl, q3⟩
  | true => exact ite_tt (chain_last (thn (hc pins s3 σ H3 _ I3 q3) fun w' s4 ⟨z', H4, I4, r4, q4⟩ => ho' pins s4 σ H4 y z' u w' Q I4 r2 r4 q4))
theorem pt_chain {op op' : CmpOp} {r r' : R2} (ho : OpR X (compareOp op) r) (ho' : OpR X (compareOp op') r') (ha : PE X a ta) (hb : PE X b tb) (hc : PE X c tc)
    (hm : lastMarks [op, op'] [b, c] = false := by with_unfolding_all rfl) : PT X (.Compare a [op, op'] [b, c] pos) (tTest (tChain r r' ta tb tc)) := by
  intro pins s σ H Q I h
  refine isTrue_chain (thn (ha pins s σ H _ I h) fun v s1 ⟨x, H1, I1, r1, q1⟩ => test_link (thn (hb pins s1 σ H1 _ I1 q1) fun u s2 ⟨y, H2, I2, r2, q2⟩ =>
    thn (ho pins s2 σ H2 x y v u _ I2 r1 r2 q2) fun d s3 ⟨z, H3, I3, r3, k, e, q3⟩ => ?_)) hm
  subst e
  cases r3
  refine wpAny_truthy_bool ?_
  cases k with
  | false =>
    obtain ⟨k', e', q'⟩ := q3
    cases e'
    exact ite_ff ⟨H3, I3, q'⟩
  | true =>
    refine ite_tt (test_last (thn (hc pins s3 σ H3 _ I3 q3) fun w' s4 ⟨z', H4, I4, r4, q4⟩ => thn (ho' pins s4 σ H4 y z' u w' _ I4 r2 r4 q4) fun d' s5 ⟨z2, H5, I5, r5, k2, e2, q5⟩ => ?_))
    subst e2
    cases r5
    exact wpAny_truthy_bool ⟨H5, I5, q5⟩
theorem line63 : (sizeLine : Nat) < 2 ^ 63 := by rw [sizeLine_eq]; decide
theorem op_add_str : OpR X (binaryOp .Add) (fun x y H Q => ∃ i j, x = .str i /\ y = .str j /\ i.length + j.length <= sizeLine /\ Q (.str (i ++ j)) H) := by
  intro pins s σ H x y v u Q I rx ry h
  obtain ⟨i, j, rfl, rfl, hz, q⟩ := h
  obtain ⟨t, rfl⟩ := rx
  obtain ⟨t', rfl⟩ := ry
  exact add_str (fun t' tk => ⟨.str (i ++ j), H, I.tok _, ⟨_, rfl⟩, q⟩) hz
theorem Zq86 {x : V} {us : List Value} (r : Vals [x] us) : ∃ u, us = [u] /\ RelV x u := by
  cases r with
  | cons r1 r2 => cases r2; exact ⟨_, rfl, r1⟩
theorem vals2 {x y : V} {us : List Value} (r : Vals [x, y] us) : ∃ u w', us = [u, w'] /\ RelV x u /\ RelV y w' := by
  cases r with
  | cons r1 r2 =>
    cases r2 with
    | cons r3 r4 => cases r4; exact ⟨_, _, rfl, r1, r3⟩
end
end L2
namespace L2
open PySem PySem.Spec PyProof.Rows
structure ObjM (h : Heap) (x dx C : Addr) (mA : Str -> Option Value) : Prop where
  obj : h.get? x = some (PySem.W.instObj C dx)
  ns : h.Ns1 dx mA
  ne : dx ≠ x
theorem lookIn_ns {h : Heap} {dx : Addr} {mA : Str -> Option Value} (n : h.Ns1 dx mA) : ∃ od, h.get? dx = some od /\ ∀ name, PySem.W.lookIn name od = some (mA name) := by
  obtain ⟨o, es, ep, ho, hd, hk, _, hm⟩ := n
  refine ⟨o, ho, fun name => ?_⟩
  have e := hm name
  unfold nsFind findBy at e
  rw [← Array.find?_toList] at e
  unfold PySem.W.lookIn
  rw [hd]
  dsimp only
  split
  · rename_i y q
    rw [q] at e
    exact congrArg some e
  · rename_i q
    rw [q] at e
    have a : es.toList.any (·.refKey) = false := by
      rw [List.any_eq_false]
      intro y hy
      obtain ⟨z, t, hkey⟩ := hk y (Array.mem_toList_iff.mp hy)
      simp [DictEntry.refKey, hkey]
    have a' : ¬ es.toList.any (·.refKey) = true := by rw [a]; exact Bool.false_ne_true
    rw [if_neg a']
    exact congrArg some e
theorem ObjM.look {h : Heap} {x dx C : Addr} {mA : Str -> Option Value} (I : ObjM h x dx C mA) : ∃ od, PySem.W.InstAt h x (PySem.W.instObj C dx) C (some od) /\ ∀ name, PySem.W.lookIn name od = some (mA name) :=
  let ⟨od, ho, hl⟩ := lookIn_ns I.ns
  ⟨od, ⟨I.obj, rfl, rfl, ho⟩, hl⟩
section
variable {prog : Program} {w : World} {A : Around} {E : Value -> Shared -> Prop} {s : Shared} {K : PySem.W.Frag} {x dx C f : Addr} {mA : Str -> Option Value} {name : Str} {v : Value}
end
section
variable {P : Program} {w : World} {H H' : Hp} {h h' : Heap} {a C dx : Addr} {fs fs' : List (Str × V)}
theorem ins_get (hok : HOk P w H h) (e : H a = some (.ins C dx fs)) : ∃ mA, ObjM h a dx C mA /\ (∀ f, RelO (fs.lookup f) (mA f)) /\ PySem.Within mA (fs.map (·.1)) /\ fs.length <= 1000 /\ H dx = some (.own a) := by
  obtain ⟨d, z, ne, ob, mA, n, r, q⟩ := (show ObjOk P w H h a (.ins C dx fs) from hok a _ e)
  exact ⟨mA, ⟨ob, n, ne⟩, r, q, z, d⟩
end
structure Cls (K : PySem.W.Frag) (C : Addr) : Prop where
  pg : PySem.W.plainGet K C Str.empty = true
  hd : PySem.W.hasDictIn K C = true
  po : PySem.W.plainOver K C = true
  sa : PySem.W.findIn K (.ref C) "__setattr__" = some (some (.builtin "object.__setattr__"))
theorem Cls.get {K : PySem.W.Frag} {C : Addr} (c : Cls K C) (f : Str) : PySem.W.plainGet K C f = true := c.pg
structure Con (K : PySem.W.Frag) (C : Addr) (f : Str) (v : V) (u : Value) : Prop where
  at_ : PySem.W.findIn K (.ref C) f = some (some u)
  rel : RelV v u
  get : PySem.W.specialIn K u "__get__" = some none
  cp : PySem.W.copiedNames.contains f = false
structure Meth (K : PySem.W.Frag) (C : Addr) (m : Str) (f : Addr) : Prop where
  at_ : PySem.W.findIn K (.ref C) m = some (some (.ref f))
  fn : PySem.W.isFn K (.ref f) = true
  kp : PySem.W.keepIn K (.ref f) = true
section
variable {X : Cx} {pins : List (Addr × Obj)} {σ : St} {H : Hp} {s : Shared} {a C dx : Addr} {fs : List (Str × V)} {f : Str} {v : V} {A : Around} {E : Value -> Shared -> Prop}
end
section
variable {X : Cx} {o e value : Expr} {f : Str} {pos pos' tpos : Pos} {ta tv : TE}
end
section
variable {X : Cx} {pins : List (Addr × Obj)} {σ : St} {H : Hp} {s : Shared} {A : Around} {E : Value -> Shared -> Prop} {Q : Value -> Shared -> Prop} {c : Value} {b : Bool}
inductive TyOf (K : PySem.W.Frag) (H : Hp) : V -> Value -> Prop where
  | non : TyOf K H .non (.type "NoneType")
  | bl (x : Bool) : TyOf K H (.bl x) (.type "bool")
  | int (i : Int) : TyOf K H (.int i) (.type "int")
  | str (x : Str) : TyOf K H (.str x) (.type "str")
  | flt (x : UInt64) : TyOf K H (.flt x) (.type "float")
  | lst {a : Addr} {xs : List V} (e : H a = some (.lst xs)) : TyOf K H (.ref a) (.type "list")
  | frz {a : Addr} {o : Obj} {xs : List V} (e : H a = some (.frz o (.lst xs))) : TyOf K H (.ref a) (.type "list")
  | tup {a : Addr} {xs : List V} (e : H a = some (.tup xs)) : TyOf K H (.ref a) (.type "tuple")
  | dK {a : Addr} {kvs : List (Key × V)} (e : H a = some (.dK kvs)) : TyOf K H (.ref a) (.type "dict")
  | dT {a : Addr} {kvs : List (List Key × V)} (e : H a = some (.dT kvs)) : TyOf K H (.ref a) (.type "dict")
  | ins {a C dx : Addr} {fs : List (Str × V)} (e : H a = some (.ins C dx fs)) (cl : Cls K C) (ha : PySem.W.findIn K (.ref C) "__class__" = some (some (.builtin "object.__class__")))
      (hn : PySem.W.specialIn K (.builtin "object.__class__") "__get__" = some (some (.builtin "getset_descriptor.__get__"))) (htk : PySem.W.takesIn K (.builtin "object.__class__") = some true)
      (hm : PySem.W.mroIn K C (.type "object") = some true) : TyOf K H (.ref a) (.ref C)
theorem isinst_ok {x : V} {u t : Value} (I : Inv X pins σ H s) (rx : RelV x u) (ty : TyOf X.K H x t) (e : PySem.W.kitOne X.K t c = some b) (h : ∀ tk, Q (.bool b) { s with toks := tk }) :
    wpAny (model X.prog X.w) A (call (.builtin "isinstance") [u, c]) Q E s := by
  cases ty with
  | non => cases (show u = Value.none from rx); exact PySem.W.kia_one PySem.W.kitx_none I.kIn True.intro e (fun z => nomatch z) h
  | bl y => cases (show u = Value.bool y from rx); exact PySem.W.kia_one PySem.W.kitx_bool I.kIn True.intro e (fun z => nomatch z) h
  | int i => obtain ⟨t, q⟩ := (show ∃ t, u = Value.int i t from rx); cases q; exact PySem.W.kia_one PySem.W.kitx_int I.kIn True.intro e (fun z => nomatch z) h
  | str y => obtain ⟨t, q⟩ := (show ∃ t, u = Value.str y t from rx); cases q; exact PySem.W.kia_one PySem.W.kitx_str I.kIn True.intro e (fun z => nomatch z) h
  | flt y => obtain ⟨t, q⟩ := (show ∃ t, u = Value.float y t from rx); cases q; exact PySem.W.kia_one PySem.W.kitx_float I.kIn True.intro e (fun z => nomatch z) h
  | @lst a xs ea =>
    cases (show u = Value.ref a from rx)
    obtain ⟨_, _, n, _, h1⟩ := (show ObjOk X.prog X.w H s.heap a (.lst xs) from I.hok a _ ea)
    exact PySem.W.kia_one PySem.W.kitx_list I.kIn ⟨_, h1, rfl⟩ e (fun z => nomatch z) h
  | @frz a ob xs ea =>
    cases (show u = Value.ref a from rx)
    obtain ⟨_, _, _, n, _, h1⟩ := (show ObjOk X.prog X.w H s.heap a (.frz ob (.lst xs)) from I.hok a _ ea)
    exact PySem.W.kia_one PySem.W.kitx_list I.kIn ⟨_, h1, rfl⟩ e (fun z => nomatch z) h
  | @tup a xs ea =>
    cases (show u = Value.ref a from rx)
    obtain ⟨_, _, _, p⟩ := (show ObjOk X.prog X.w H s.heap a (.tup xs) from I.hok a _ ea)
    obtain ⟨o, h1, h2, _⟩ := p
    exact PySem.W.kia_one PySem.W.kitx_tuple I.kIn ⟨o, h1, h2⟩ e (fun z => nomatch z) h
  | @dK a kvs ea =>
    cases (show u = Value.ref a from rx)
    obtain ⟨_, _, vs, _, p⟩ := (show ObjOk X.prog X.w H s.heap a (.dK kvs) from I.hok a _ ea)
    obtain ⟨o, es, ep, h1, h2, _⟩ := p
    exact PySem.W.kia_one PySem.W.kitx_dict I.kIn ⟨o, h1, h2.1⟩ e (fun z => nomatch z) h
  | @dT a kvs ea =>
    cases (show u = Value.ref a from rx)
    obtain ⟨_, _, xs, _, o, es, ep, h1, h2, _⟩ := (show ObjOk X.prog X.w H s.heap a (.dT kvs) from I.hok a _ ea)
    exact PySem.W.kia_one PySem.W.kitx_dict I.kIn ⟨o, h1, h2.1⟩ e (fun z => nomatch z) h
  | @ins a C dx fs ea cl ha hn htk hm =>
    cases (show u = Value.ref a from rx)
    obtain ⟨mA, O, _⟩ := ins_get I.hok ea
    obtain ⟨od, J, _⟩ := O.look
    exact PySem.W.kia_one (PySem.W.kitx_own (cl.get _) cl.hd ha hn htk hm) I.kIn J e (fun z => nomatch z) h
end
end L2
namespace L2
open PySem PySem.Spec PyProof.Rows
structure Room (k : Nat) (A : Around) : Prop where
  hd : A.handled = none
  dp : A.depth + 3 * k + 5 < recursionLimit
  un : A.units + 16 * k + 200 < cLine
theorem Room.mono {j k : Nat} {A : Around} (r : Room k A) (h : j <= k) : Room j A := ⟨r.hd, by have := r.dp; omega, by have := r.un; omega⟩
theorem Room.deeper {k : Nat} {A : Around} (r : Room (k + 1) A) (env : Env) : Room k (A.deeper env) :=
  ⟨r.hd, by have := r.dp; show A.depth + 1 + 3 * k + 5 < _; omega, by have := r.un; show A.units + 3 + 16 * k + 200 < _; omega⟩
theorem Room.depth {k : Nat} {A : Around} (r : Room k A) : A.depth < recursionLimit := by have := r.dp; omega
theorem Room.units {k : Nat} {A : Around} (r : Room k A) : A.units + 64 < cLine := by have := r.un; omega
def tNil : TA := fun _ H Q => Q [] H
def Zq87 (ta : TE) (tr : TA) : TA := fun σ H Q => ta σ H fun x H1 => tr σ H1 fun xs H2 => Q (x :: xs) H2
section
variable {X : Cx} {e : Expr} {es : List Expr} {te : TE} {t : TA} {pos : Pos}
theorem pa_nil : PA X [] tNil := fun _ _ _ _ H Q I h => Calls.spliced_nil ⟨[], H, I, .nil, h⟩
theorem pa_cons (ha : PE X e te) (hr : PA X es t) (hs : starEach (e :: es) X.env = (false, eval e X.env) :: starEach es X.env := by rfl) : PA X (e :: es) (Zq87 te t) := by
  intro pos pins s σ H Q I h
  rw [hs]
  show wpAny _ _ (spliced ((false, eval e X.env) :: backTo pos (starEach es X.env))) _ _ s
  refine Calls.spliced_cons (thn (ha pins s σ H _ I h) fun u s1 ⟨x, H1, I1, r1, q1⟩ => ?_)
  exact thn (hr pos pins s1 σ H1 _ I1 q1) fun us s2 ⟨xs, H2, I2, r2, q2⟩ => ⟨x :: xs, H2, I2, .cons r1 r2, q2⟩
def tLst (t : TA) : TE := fun σ H Q => t σ H fun xs H1 => xs.length <= sizeLine /\ ∀ p, H1 p = none -> Q (.ref p) (upd H1 p (.lst xs))
theorem pe_lst (h : PA X es t) : PE X (.List es pos) (tLst t) := by
  intro pins s σ H Q I hq
  refine wpAny_List_spliced (thn (h pos pins s σ H _ I hq) fun us s1 ⟨xs, H1, I1, r, z, q⟩ => ⟨by rw [← r.length]; exact z, ?_⟩)
  have hf : H1 s1.heap.objs.size = none := I1.hok.fresh (Nat.le_refl _)
  refine ⟨.ref s1.heap.objs.size, upd H1 s1.heap.objs.size (.lst xs), I1.laid (t' := s1.toks) (fun b u e => Heap.get?_push_of_some _ e) (Nat.le_refl _) ?_, rfl, q _ hf⟩
  exact ⟨z, us, 0, r, Heap.get?_push_size _ rfl⟩
end
abbrev Sp := List V -> Hp -> VK -> XK -> Prop
abbrev CXT := List Env -> Hp -> Shared -> XK -> Value -> Shared -> Prop
structure Env0 (P : Program) (w : World) (K : PySem.W.Frag) (mg : Str -> Option Value) (base : Heap) (A : Around) (outer : List Env) (s : Shared) (H : Hp) : Prop where
  frames : A.frames = some outer
  mod : Mod K mg base
  bs : ∀ b o, base.get? b = some o -> s.heap.get? b = some o /\ H b = none
  bsz : base.objs.size <= s.heap.objs.size
  funs : s.heap.FunFrames base outer
  frf : ∀ b ∈ frs outer, H b = none
  hok : HOk P w H s.heap
  bare : AllBare s.gens
def CE (outer : List Env) (P : Program) (w : World) (H : Hp) (s : Shared) (Q : VK) (u : Value) (s' : Shared) : Prop :=
  ∃ v H', s'.os = s.os /\ AllBare s'.gens /\ Un (frs outer) [] H H' s.heap s'.heap /\ HOk P w H' s'.heap /\ RelV v u /\ Q v H'
def CR (CX : CXT) (outer : List Env) (P : Program) (w : World) (H : Hp) (s : Shared) (Q : VK) (E : XK) (r : Result) (s' : Shared) : Prop :=
  match r with
  | .ok (.ret u) => CE outer P w H s Q u s'
  | .ok _ => False
  | .error e => CX outer H s E e s'
structure FnOk (P : Program) (w : World) (K : PySem.W.Frag) (mg : Str -> Option Value) (base : Heap) (CX : CXT) (k : Nat) (f : Addr) (fd : FuncData) (ps : List Str) (sp : Sp) : Prop where
  len : ∀ vs H Q E, sp vs H Q E -> vs.length = ps.length
  run : ∀ (A : Around) (outer : List Env) (s : Shared) (H : Hp) (args : Args) (us : List Value) (vs : List V) (Q : VK) (E : XK), Room k A -> Env0 P w K mg base A outer s H -> BindsTo s fd args (ps.zip us) -> Vals vs us -> sp vs H Q E ->
    codeAny (model P w) A (.call (.ref f) args) (CR CX outer P w H s Q E) s
theorem FnOk.mono {P : Program} {w : World} {K : PySem.W.Frag} {mg : Str -> Option Value} {base : Heap} {CX : CXT} {j k : Nat} {f : Addr} {fd : FuncData} {ps : List Str} {sp : Sp} (F : FnOk P w K mg base CX j f fd ps sp) (h : j <= k) :
    FnOk P w K mg base CX k f fd ps sp := ⟨F.len, fun A outer s H args us vs Q E hr => F.run A outer s H args us vs Q E (hr.mono h)⟩
theorem FnOk.imp {P : Program} {w : World} {K : PySem.W.Frag} {mg : Str -> Option Value} {base : Heap} {CX : CXT} {k : Nat} {f : Addr} {fd : FuncData} {ps : List Str} {sp sp' : Sp} (F : FnOk P w K mg base CX k f fd ps sp)
    (h : ∀ vs H Q E, sp' vs H Q E -> sp vs H Q E) : FnOk P w K mg base CX k f fd ps sp' :=
  ⟨fun vs H Q E q => F.len vs H Q E (h _ _ _ _ q), fun A outer s H args us vs Q E hr he hb hv hs => F.run A outer s H args us vs Q E hr he hb hv (h _ _ _ _ hs)⟩
section
variable {X : Cx} {pins : List (Addr × Obj)} {σ : St} {H : Hp} {s s' : Shared}
theorem Inv.env0 (I : Inv X pins σ H s) : Env0 X.prog X.w X.K X.mg X.base X.A X.stack s H :=
  ⟨I.ok.frames, I.ok.mod, I.bs, Nat.le_trans I.ok.bsz I.sz, I.stack, I.stkFree, I.hok, I.bare⟩
theorem Inv.after {Q : VK} {u : Value} (I : Inv X pins σ H s) (h : CE X.stack X.prog X.w H s Q u s') : EP X pins σ Q u s' := by
  obtain ⟨v, H', os, bare, un, hok, r, q⟩ := h
  obtain ⟨hh, g, d, t, os'⟩ := s'
  obtain rfl : os' = s.os := os
  exact ⟨v, H', I.call (h' := hh) (g' := g) (d' := d) (t' := t) (ch := []) un hok bare (fun b z => absurd z (by simp)), r, q⟩
end
def tCall (sp : Sp) (dvs : List V) (E : XK) (t : TA) : TE := fun σ H Q => t σ H fun vs H1 => sp (vs ++ dvs) H1 Q E
def Binds (K : PySem.W.Frag) (fd : FuncData) (ps : List Str) (ds : List Value) : Prop :=
  ∀ (s : Shared) (us : List Value), K.In s.heap -> (us ++ ds).length = ps.length -> BindsTo s fd ⟨us, []⟩ (ps.zip (us ++ ds))
theorem Binds.all {K : PySem.W.Frag} {fd : FuncData} {ps : List Str} (h : ∀ us : List Value, us.length = ps.length -> bindArgs fd ⟨us, []⟩ = pure (ps.zip us)) : Binds K fd ps [] := fun s us _ hl => by
  rw [List.append_nil] at hl ⊢
  exact .of_eq (h us hl)
def Passes (CX : CXT) (X : Cx) (E : XK) : Prop := ∀ (pins : List (Addr × Obj)) (σ : St) (H : Hp) (s : Shared) (e : Value) (s' : Shared), Inv X pins σ H s -> CX X.stack H s E e s' -> X.xe e s'
section
variable {X : Cx} {CX : CXT} {k : Nat} {f C : Addr} {fd : FuncData} {ps : List Str} {sp : Sp} {dvs : List V} {ds : List Value} {E : XK} {x m : Str} {p pos apos : Pos} {e o : Expr} {es : List Expr} {ta : TE} {t : TA}
theorem run_fn {pins : List (Addr × Obj)} {σ : St} {H : Hp} {s : Shared} {Q : VK} {us : List Value} {vs : List V} (F : FnOk X.prog X.w X.K X.mg X.base CX k f fd ps sp) (hr : Room k X.A) (hb : Binds X.K fd ps ds) (hd : Vals dvs ds) (hx : Passes CX X E)
    (I : Inv X pins σ H s) (r : Vals vs us) (h : sp (vs ++ dvs) H Q E) : wpAny (model X.prog X.w) X.A (call (.ref f) us) (EP X pins σ Q) X.xe s := by
  have r2 : Vals (vs ++ dvs) (us ++ ds) := r.append hd
  have hl : (us ++ ds).length = ps.length := by rw [← r2.length]; exact F.len _ _ _ _ h
  refine wpAny_call (codeAny_mono (F.run X.A X.stack s H ⟨us, []⟩ (us ++ ds) (vs ++ dvs) Q E hr I.env0 (hb s us I.kIn hl) r2 h) fun r s' hq => ?_)
  cases r with
  | error e => exact hx pins σ H s e s' I hq
  | ok fl =>
    cases fl with
    | ret u => exact I.after hq
    | next => exact False.elim hq
    | brk => exact False.elim hq
    | cont => exact False.elim hq
theorem pe_call (F : FnOk X.prog X.w X.K X.mg X.base CX k f fd ps sp) (hr : Room k X.A) (hg : Gl X x) (hm : X.mg x = some (.ref f)) (hk : PySem.W.keepIn X.K (.ref f) = true) (hb : Binds X.K fd ps ds) (hd : Vals dvs ds) (hx : Passes CX X E)
    (ha : PA X (e :: es) t) (hdb : (x == ("__debug__" : Str)) = false := by decide) (he : starEach (e :: es) X.env = (false, eval e X.env) :: starEach es X.env := by rfl) (hpl : (backTo pos (starEach es X.env)).any (·.1) = false := by rfl) :
    PE X (.Call (.Name x p) (e :: es) [] pos) (tCall sp dvs E t) := by
  intro pins s σ H Q I h
  refine wpAny_Call_Name_kw (ld_glob I hg hm ?_ hdb)
  refine PySem.W.callWith_K (h₀ := X.base) I.ok.mod.kin hk (thn (ha pos pins s σ H _ I h) fun us s1 ⟨vs, H1, I1, r, q⟩ => ⟨I1.kIn, ?_⟩) he hpl
  exact run_fn F hr hb hd hx I1 r q
structure Mk (K : PySem.W.Frag) (C f : Addr) : Prop where
  makes : PySem.W.makesIn K C = true
  init : PySem.W.findIn K (.ref C) "__init__" = some (some (.ref f))
  fn : PySem.W.isFn K (.ref f) = true
  kp : PySem.W.keepIn K (.ref C) = true
end
section
variable {X : Cx} {CX : CXT} {k : Nat} {f C : Addr} {fd : FuncData} {ps ks : List Str} {sp : Sp} {E : XK} {x m : Str} {p pos apos kpos : Pos} {e o : Expr} {es : List Expr} {kws : List Keyword} {te ta : TE} {t tk : TA} {nm : Option Str}
structure KBinds (K : PySem.W.Frag) (fd : FuncData) (ps ks : List Str) (g : List Value -> List Value -> List Value) (gV : List V -> List V -> List V) : Prop where
  to : ∀ (s : Shared) (us ws : List Value), K.In s.heap -> (g us ws).length = ps.length -> BindsTo s fd ⟨us, ks.zip ws⟩ (ps.zip (g us ws))
  rel : ∀ {vs : List V} {us : List Value} {zs : List V} {ws : List Value}, Vals vs us -> Vals zs ws -> Vals (gV vs zs) (g us ws)
variable {g : List Value -> List Value -> List Value} {gV : List V -> List V -> List V}
end
structure FnScope (N P : List Str) (sc : Scope) : Prop where
  kind : sc.kind = .function
  co : sc.isCoroutine = false
  gen : sc.isGenerator = false
  nd : N.Nodup
  pre : N.take P.length = P
  par : ∀ x ∈ P, sc.names.lookup x = some .local \/ sc.names.lookup x = some .cell
  nofree : ∀ y ∈ sc.names, y.2 ≠ .free
theorem bindL_out {kindOf : Str -> Option NameKind} {x : Str} : ∀ {binds : List (Str × Value)} {m : Str -> Option Value}, (∀ v, (x, v) ∉ binds) -> bindL kindOf binds m x = m x
  | [], _, _ => rfl
  | (n, v) :: r, m, h => by
    unfold bindL
    rw [bindL_out fun w hw => h w (List.mem_cons_of_mem _ hw)]
    split
    · have : x ≠ n := by rintro rfl; exact h v List.mem_cons_self
      simp [this]
    · rfl
theorem bindC_out {kindOf : Str -> Option NameKind} {x : Str} : ∀ {binds : List (Str × Value)} {m : Str -> Option Value}, (∀ v, (x, v) ∉ binds) -> bindC kindOf binds m x = m x
  | [], _, _ => rfl
  | (n, v) :: r, m, h => by
    unfold bindC
    rw [bindC_out fun w hw => h w (List.mem_cons_of_mem _ hw)]
    split
    · rfl
    · have : x ≠ n := by rintro rfl; exact h v List.mem_cons_self
      simp [this]
theorem bindL_get {kindOf : Str -> Option NameKind} {x : Str} {v : Value} : ∀ {P : List Str} {vs : List Value} {i : Nat} {m : Str -> Option Value}, P.Nodup -> P[i]? = some x -> vs[i]? = some v -> kindOf x = some .local ->
    bindL kindOf (P.zip vs) m x = some v
  | [], _, _, _, _, h, _, _ => by simp at h
  | _ :: _, [], _, _, _, _, h, _ => by simp at h
  | p :: P, w :: vs, 0, m, nd, h1, h2, hk => by
    simp at h1 h2; subst h1; subst h2
    show bindL kindOf ((p, w) :: P.zip vs) m p = _
    unfold bindL
    rw [bindL_out fun v hv => (List.nodup_cons.mp nd).1 (List.of_mem_zip hv).1, if_pos hk]
    simp
  | p :: P, w :: vs, i + 1, m, nd, h1, h2, hk => by
    show bindL kindOf ((p, w) :: P.zip vs) m x = _
    unfold bindL
    exact bindL_get (i := i) (List.nodup_cons.mp nd).2 (by simpa using h1) (by simpa using h2) hk
theorem bindC_get {kindOf : Str -> Option NameKind} {x : Str} {v : Value} : ∀ {P : List Str} {vs : List Value} {i : Nat} {m : Str -> Option Value}, P.Nodup -> P[i]? = some x -> vs[i]? = some v -> kindOf x ≠ some .local ->
    bindC kindOf (P.zip vs) m x = some v
  | [], _, _, _, _, h, _, _ => by simp at h
  | _ :: _, [], _, _, _, _, h, _ => by simp at h
  | p :: P, w :: vs, 0, m, nd, h1, h2, hk => by
    simp at h1 h2; subst h1; subst h2
    show bindC kindOf ((p, w) :: P.zip vs) m p = _
    unfold bindC
    rw [bindC_out fun v hv => (List.nodup_cons.mp nd).1 (List.of_mem_zip hv).1, if_neg hk]
    simp
  | p :: P, w :: vs, i + 1, m, nd, h1, h2, hk => by
    show bindC kindOf ((p, w) :: P.zip vs) m x = _
    unfold bindC
    exact bindC_get (i := i) (List.nodup_cons.mp nd).2 (by simpa using h1) (by simpa using h2) hk
def Zq92 (N : List Str) (vs : List V) : St := vs.map some ++ List.replicate (N.length - vs.length) none
def cxOf (CX : CXT) (P : Program) (w : World) (K : PySem.W.Frag) (mg : Str -> Option Value) (base : Heap) (N : List Str) (qual : Str) (scope : Scope) (f : Addr) (cd : Value) (A : Around) (outer : List Env) (s : Shared) (H : Hp) (E : XK) : Cx where
  prog := P
  w := w
  K := K
  mg := mg
  base := base
  A := A.deeper (envOfC qual scope s.heap.objs.size f cd)
  N := N
  s₀ := s
  H₀ := H
  env := envOfC qual scope s.heap.objs.size f cd
  outer := outer
  stack := envOfC qual scope s.heap.objs.size f cd :: outer
  ex := []
  calm := true
  fn := fun _ => true
  pn := []
  xe := fun e s' => wpAny (model P w) (A.deeper (envOfC qual scope s.heap.objs.size f cd)) (leaving (envOfC qual scope s.heap.objs.size f cd) e) (fun _ s'' => CX outer H s E e s'') (fun e' s'' => CX outer H s E e' s'') s'
theorem cell_has {sc : Scope} {n : Nat} {x : Str} (h : sc.names.lookup x = some .cell) : ∃ c, (cellsFrom n sc.names []).lookup x = some c := by
  have q := PySem.W.cellsFrom_some sc.names n [] (.inl h)
  exact Option.isSome_iff_exists.mp q
theorem inv_start {CX : CXT} {P : Program} {w : World} {K : PySem.W.Frag} {mg : Str -> Option Value} {base : Heap} {N ps : List Str} {qual : Str} {scope : Scope} {f : Addr} {cd : Value} {A : Around} {outer : List Env} {s s1 : Shared} {H : Hp} {E : XK} {us : List Value} {vs : List V}
    (S : FnScope N ps scope) (hd : A.handled = none) (e0 : Env0 P w K mg base A outer s H) (hl : vs.length = ps.length) (r : Vals vs us)
    (x : InCallC s s.heap.objs.size (bindL (envOfC qual scope s.heap.objs.size f cd).kindOf (ps.zip us) fun _ => none) (cellsFrom (s.heap.objs.size + 1) scope.names []) (bindC (envOfC qual scope s.heap.objs.size f cd).kindOf (ps.zip us) fun _ => none) s1) :
    Inv (cxOf CX P w K mg base N qual scope f cd A outer s H E) [] (Zq92 N vs) H s1 := by
  have hpl : ps.length <= N.length := by have := congrArg List.length S.pre; rw [List.length_take] at this; omega
  obtain ⟨h1, tk, rfl, hk⟩ := x.done
  have noA : ∀ b : Addr, b ∉ (cxOf CX P w K mg base N qual scope f cd A outer s H E).ex := fun b z => absurd (show b ∈ ([] : List Addr) from z) (by simp)
  refine ⟨⟨e0.mod, S.kind, rfl, rfl, Nat.le_refl _, fun y z c h1 h2 => ?_, fun y hy => ?_, fun y c _ h => ?_, fun _ => hd, Around.frames_deeper e0.frames, .inr ⟨rfl, rfl⟩, fun b z => absurd z (noA b), e0.bs, e0.bsz, fun b _ _ => noA b, fun b z => absurd z (noA b), e0.funs, e0.frf⟩,
    rfl, e0.bare, Un.kept hk, ⟨_, x.toInCall.ns, fun i y v h1 h2 h3 => ?_⟩, fun y c h => ⟨_, x.cell y c h⟩, e0.hok.fresh (Nat.le_refl _), fun y c h => ?_, fun p hp => absurd (show p ∈ ([] : List (Addr × Obj)) from hp) (by simp), e0.hok.kept hk, ?_⟩
  · exact name_of_addr x.apart (PySem.mem_of_lookup h1) (PySem.mem_of_lookup h2)
  · have hy : scope.names.lookup y = some .cell \/ scope.names.lookup y = some .free := hy
    rcases hy with hy | hy
    · exact cell_has hy
    · exact absurd rfl (S.nofree _ (PySem.mem_of_lookup hy))
  · exact Nat.le_of_lt (x.above y c (PySem.mem_of_lookup h))
  · have hi : i < vs.length := by
      unfold Zq92 at h2
      by_cases hi : i < vs.length
      · exact hi
      · rw [List.getElem?_append_right (by simpa using hi)] at h2
        rw [List.getElem?_replicate] at h2
        split at h2 <;> cases h2
    have ha : vs[i]? = some v := by
      unfold Zq92 at h2
      rw [List.getElem?_append_left (by simpa using hi), List.getElem?_map] at h2
      cases e : vs[i]? with
      | none => rw [e] at h2; cases h2
      | some a => rw [e] at h2; cases h2; rfl
    obtain ⟨u, hu, rv⟩ := r.get ha
    have hp : ps[i]? = some y := by
      rw [← S.pre, List.getElem?_take_of_lt (by omega)]; exact h1
    have ndP : ps.Nodup := by rw [← S.pre]; exact S.nd.sublist (List.take_sublist _ _)
    refine ⟨u, rv, ?_⟩
    rcases S.par y (List.mem_of_getElem? hp) with k | k
    · exact .inl ⟨k, bindL_get ndP hp hu k⟩
    · obtain ⟨c, e⟩ := cell_has (n := s.heap.objs.size + 1) k
      refine .inr ⟨.inl k, c, e, ?_⟩
      have q := x.cell y c e
      rw [bindC_get ndP hp hu (by show scope.names.lookup y ≠ _; rw [k]; decide)] at q
      exact q
  · exact e0.hok.fresh (Nat.le_of_lt (x.above y c (PySem.mem_of_lookup h)))
  · unfold Zq92
    show _ = N.length
    rw [List.length_append, List.length_map, List.length_replicate]
    omega
theorem fn_of {CX : CXT} {P : Program} {w : World} {K : PySem.W.Frag} {mg : Str -> Option Value} {base : Heap} {k : Nat} {f : Addr} {name qual : Str} {params : Arguments} {body : List Stmt} {scope : Scope} {dV kV doc pm cdv ct oc : Value} {an od : Option Addr}
    {osl : Array (Option Value)} {N ps : List Str} {sp : Sp} (lk : K.lookup f = some ⟨oc, od, .func (PySem.W.fnOf name qual params body scope dV kV doc pm an cdv ct), osl⟩) (hcd : PySem.W.codeIn K cdv qual = true) (S : FnScope N ps scope)
    (len : ∀ vs H Q E, sp vs H Q E -> vs.length = ps.length)
    (hbody : ∀ (A : Around) (outer : List Env) (s : Shared) (H : Hp) (vs : List V) (Q : VK) (E : XK), Room k (A.deeper (envOfC qual scope s.heap.objs.size f cdv)) -> sp vs H Q E ->
      ∃ t, PSs (cxOf CX P w K mg base N qual scope f cdv A outer s H E) body t /\ t { nx := fun _ H' => Q .non H', rt := Q } (Zq92 N vs) H) :
    FnOk P w K mg base CX (k + 1) f (PySem.W.fnOf name qual params body scope dV kV doc pm an cdv ct) ps sp := by
  refine ⟨len, fun A outer s H args us vs Q E hr e0 hb r hsp => ?_⟩
  have hl := len _ _ _ _ hsp
  have KX : K.In s.heap := e0.mod.kin.keeps fun b o e => (e0.bs b o e).1
  have lim : s.heap.NoLimit := e0.mod.nolimit.keeps fun b o e => (e0.bs b o e).1
  have hkind : ∀ y ∈ ps.zip us, scope.names.lookup y.1 = some .local \/ (scope.names.lookup y.1 = some .cell /\ ((cellsFrom (s.heap.objs.size + 1) scope.names []).lookup y.1).isSome = true) := fun ⟨n, v⟩ hy => by
    rcases S.par n (List.of_mem_zip hy).1 with q | q
    · exact .inl q
    · exact .inr ⟨q, PySem.W.cellsFrom_some _ _ _ (.inl q)⟩
  refine codeAny_call_function hr.depth (KX _ _ lk) rfl S.co S.gen rfl (PySem.W.codeRec_of KX hcd) (hb _ _ _ _ ?_)
  refine wpAny_newFunctionEnv_cells S.kind hkind fun env he s1 x => ?_
  subst he
  refine ⟨lim.keeps x.toInCall.keep, codeAny_func ?_⟩
  obtain ⟨t, ht, hq⟩ := hbody A outer s H vs Q E (hr.deeper _) hsp
  have I : Inv (cxOf CX P w K mg base N qual scope f cdv A outer s H E) [] (Zq92 N vs) H s1 := inv_start S hr.hd e0 hl r x
  refine wpAny_mono (ht [] s1 (Zq92 N vs) H _ I hq) (fun fl s' hs => ?_) fun e s' hs => hs
  have fin : ∀ {σ' : St} {H' : Hp} {v : V} {u : Value}, Inv (cxOf CX P w K mg base N qual scope f cdv A outer s H E) [] σ' H' s' -> RelV v u -> Q v H' -> CE outer P w H s Q u s' :=
    fun {σ' H' v u} J rv q => ⟨v, H', J.os, J.bare, J.base, J.hok, rv, q⟩
  cases fl with
  | ret u =>
    obtain ⟨v, σ', H', J, rv, q⟩ := hs
    exact fin J rv q
  | next =>
    obtain ⟨σ', H', J, q⟩ := hs
    exact fin (v := V.non) (u := Value.none) J rfl q
  | brk =>
    obtain ⟨_, _, _, q⟩ := hs
    exact False.elim q
  | cont =>
    obtain ⟨_, _, _, q⟩ := hs
    exact False.elim q
end L2
namespace L2
open PySem PySem.Spec PyProof.Rows
section
variable {X : Cx} {x : Str} {p pos : Pos} {e : Expr} {es : List Expr} {t : TA} {id T : String} {r : List V -> Hp -> VK -> Prop}
def tCB (r : List V -> Hp -> VK -> Prop) (t : TA) : TE := fun σ H Q => t σ H fun vs H1 => r vs H1 Q
theorem pe_callB (hc : Zq73 X (.builtin id) r) (hg : Gl X x) (hm : X.mg x = none) (hv : bootBuiltins x = some (.builtin id)) (ha : PA X (e :: es) t) (hn : x ≠ "__name__" := by decide) (hdb : (x == ("__debug__" : Str)) = false := by decide)
    (he : starEach (e :: es) X.env = (false, eval e X.env) :: starEach es X.env := by rfl) (hpl : (backTo pos (starEach es X.env)).any (·.1) = false := by rfl) : PE X (.Call (.Name x p) (e :: es) [] pos) (tCB r t) := by
  intro pins s σ H Q I h
  refine wpAny_Call_Name_kw (ld_blt I hg hm hv ?_ hn hdb)
  exact PyProof.Rows.callWith_builtin1 (thn (ha pos pins s σ H _ I h) fun us s1 ⟨vs, H1, I1, r1, q1⟩ => hc pins s1 σ H1 vs us Q I1 r1 q1) he hpl
theorem pe_callTy (hc : Zq73 X (.type T) r) (hg : Gl X x) (hm : X.mg x = none) (hv : bootBuiltins x = some (.type T)) (ha : PA X (e :: es) t) (hn : x ≠ "__name__" := by decide) (hdb : (x == ("__debug__" : Str)) = false := by decide)
    (he : starEach (e :: es) X.env = (false, eval e X.env) :: starEach es X.env := by rfl) (hpl : (backTo pos (starEach es X.env)).any (·.1) = false := by rfl) : PE X (.Call (.Name x p) (e :: es) [] pos) (tCB r t) := by
  intro pins s σ H Q I h
  refine wpAny_Call_Name_kw (ld_blt I hg hm hv ?_ hn hdb)
  exact PyProof.Rows.callWith_type1 (thn (ha pos pins s σ H _ I h) fun us s1 ⟨vs, H1, I1, r1, q1⟩ => hc pins s1 σ H1 vs us Q I1 r1 q1) he hpl
end
end L2
namespace HT
open PySem PyProof.Rows
section
open PySem.SeqAt
open PySem.AutoSeq1 (wpAny_loadPart')
open PySem.MeetsSeq PySem.MeetsSeq2 PySem.MeetsSeq3
end
section
variable {prog : Program} {w : World} {A : Around} {E : Value -> Shared -> Prop} {s : Shared}
def sIx (n d : Nat) : Option Int -> Nat
  | none => d
  | some v => if v < 0 then (v + (n : Int)).toNat else min v.toNat n
theorem sIx_none (n d : Nat) : sIx n d none = d := rfl
theorem sIx_nat (n d k : Nat) : sIx n d (some (k : Int)) = min k n := by
  show (if (k : Int) < 0 then ((k : Int) + (n : Int)).toNat else min (k : Int).toNat n) = min k n
  rw [if_neg (by omega), Int.toNat_natCast]
theorem sIx_le (n d : Nat) (hd : d <= n) (o : Option Int) : sIx n d o <= n := by
  cases o with
  | none => exact hd
  | some v =>
    show (if v < 0 then (v + (n : Int)).toNat else min v.toNat n) <= n
    by_cases hv : v < 0
    · rw [if_pos hv]; omega
    · rw [if_neg hv]; exact Nat.min_le_right _ _
theorem clip_eq (v : Int) (n d : Nat) : (if v < 0 then max (v + (n : Int)) 0 else min v (n : Int)) = ((sIx n d (some v) : Nat) : Int) := by
  show (if v < 0 then max (v + (n : Int)) 0 else min v (n : Int)) = (((if v < 0 then (v + (n : Int)).toNat else min v.toNat n) : Nat) : Int)
  by_cases hv : v < 0
  · simp only [if_pos hv]; omega
  · simp only [if_neg hv]; omega
theorem adjust_gen (lo hi : Option Int) (n : Nat) : Builtin.Slice.sliceAdjust lo hi 1 (n : Int) = (((sIx n 0 lo : Nat) : Int), ((sIx n n hi : Nat) : Int)) := by
  have h1 : ¬ ((1 : Int) < 0) := by omega
  unfold Builtin.Slice.sliceAdjust
  simp only [h1, if_false]
  refine Prod.ext ?_ ?_
  · cases lo with
    | none => rfl
    | some v => exact clip_eq v n 0
  · cases hi with
    | none => rfl
    | some v => exact clip_eq v n n
theorem places_gen (i j : Nat) : Builtin.Slice.slicePlaces (i : Int) (j : Int) 1 = j - i := by
  unfold Builtin.Slice.slicePlaces
  have h1 : (1 : Int) > 0 := by omega
  simp only [h1, if_true, Int.ediv_one]
  split <;> omega
theorem slicePart_ {v : Value} {o : Option Int} {Q : Option Int -> Shared -> Prop} (p : IsPart v o) (h : Q o s) : wpAny (model prog w) A (Builtin.Slice.slicePartIndex v) Q E s := by
  cases p with
  | none => exact slicePart_none h
  | int i t => exact slicePart_int h
theorem sliceApplied_gen {sl : Addr} {vl vu : Value} {lo hi : Option Int} {n : Nat} {Q : Int × Int × Nat -> Shared -> Prop} (hs : s.heap.IsSliceOf sl vl vu .none) (pl : IsPart vl lo) (pu : IsPart vu hi)
    (h : Q (((sIx n 0 lo : Nat) : Int), 1, sIx n n hi - sIx n 0 lo) s) : wpAny (model prog w) A (Builtin.Slice.sliceApplied (.ref sl) (pure (n : Int))) Q E s := by
  obtain ⟨os, hos, hcs, hds⟩ := id hs
  unfold Builtin.Slice.sliceApplied Builtin.Slice.sliceFields
  refine wpAny_bind (wpAny_bind (wpAny_field hos hds (x := vl) rfl (wpAny_bind (wpAny_field hos hds (x := vu) rfl (wpAny_bind (wpAny_field hos hds (x := .none) rfl (wpAny_pure ?_)))))))
  refine wpAny_bind (slicePart_none ?_)
  show wpAny _ _ (if ((1 : Int) == 0) = true then _ else _) _ _ s
  rw [if_neg (by decide)]
  refine wpAny_bind (slicePart_ pl (wpAny_bind (slicePart_ pu (wpAny_bind (wpAny_pure ?_)))))
  show wpAny _ _ (match Builtin.Slice.sliceAdjust lo hi 1 (n : Int) with | (lo, hi) => pure (lo, (1 : Int), Builtin.Slice.slicePlaces lo hi 1)) _ _ s
  rw [adjust_gen lo hi n]
  show wpAny _ _ (pure (((sIx n 0 lo : Nat) : Int), (1 : Int), Builtin.Slice.slicePlaces ((sIx n 0 lo : Nat) : Int) ((sIx n n hi : Nat) : Int) 1)) _ _ s
  rw [places_gen]
  exact wpAny_pure h
theorem pick_gen (xs : Array Value) (i k : Nat) : ((List.range k).filterMap fun (m : Nat) => xs[((i : Int) + (m : Int) * 1).toNat]?).toArray = ((xs.toList.drop i).take k).toArray := by
  have e : (fun (m : Nat) => xs[((i : Int) + (m : Int) * 1).toNat]?) = fun m => xs[i + m]? := by
    funext m
    have : ((i : Int) + (m : Int) * 1).toNat = i + m := by omega
    rw [this]
  rw [e]
  have := pick_run xs i k
  rw [List.filterMap_map] at this
  have e2 : ((fun x => xs[x]?) ∘ fun x => i + x) = fun m => xs[i + m]? := rfl
  rw [e2] at this
  rw [this]
theorem getItem_tuple_cut {t sl : Addr} {items : Array Value} {vl vu : Value} {lo hi : Option Int} {Q : Value -> Shared -> Prop} (ht : IsTup s.heap t items) (hs : s.heap.IsSliceOf sl vl vu .none) (pl : IsPart vl lo) (pu : IsPart vu hi)
    (hw : ¬ (sIx items.size 0 lo = 0 /\ sIx items.size items.size hi = items.size))
    (h : Q (.ref s.heap.objs.size) { s with heap := s.heap.push { cls := .type "tuple", data := .seq ((items.toList.drop (sIx items.size 0 lo)).take (sIx items.size items.size hi - sIx items.size 0 lo)).toArray } })
    (hsz : items.size <= sizeLine) : wpAny (model prog w) A (getItem (.ref t) (.ref sl)) Q E s := by
  have htake : sizeOk (.seq ((items.toList.drop (sIx items.size 0 lo)).take (sIx items.size items.size hi - sIx items.size 0 lo)).toArray) := by
    show ((items.toList.drop (sIx items.size 0 lo)).take (sIx items.size items.size hi - sIx items.size 0 lo)).toArray.size <= sizeLine
    rw [List.size_toArray, List.length_take, List.length_drop, Array.length_toList]
    omega
  have hj : sIx items.size items.size hi <= items.size := sIx_le _ _ (Nat.le_refl _) hi
  obtain ⟨os, hos, hcs, hds⟩ := id hs
  have hTs : s.TypeIs (.ref sl) "slice" := ⟨os, hos, hcs⟩
  unfold getItem
  try with_reducible refine wpAny_holding ?_
  first | refine wpAny_bind (wpAny_pure ?_) | skip
  refine wpAny_bind (wpAny_sequenceKey ht.typeIs (by decide) ?_)
  refine wpAny_bind (wpAny_callSpecial?_slot (name := Str.ofString "__getitem__") ht.typeIs PyProof.Rows.slot_tuple_getitem
    (wpAny_call_entry PyProof.Rows.slot_tuple_getitem ht.typeIs entry_tuple_getitem ?_ (args_tuple_getitem _ _)))
  show wpAny _ _ (Builtin.Tuple.tupleItemsOf (.ref t) >>= _) _ _ s
  refine wpAny_bind (tupleItemsOf_ ht ?_)
  refine wpAny_bind (wpAny_typeOf hTs ?_)
  rw [if_pos (by decide)]
  refine wpAny_bind (sliceApplied_gen hs pl pu ?_)
  have hno : ¬ ((((sIx items.size 0 lo : Nat) : Int) == 0 && (1 : Int) == 1 && (sIx items.size items.size hi - sIx items.size 0 lo) == items.size) = true) := by
    intro q
    rw [Bool.and_eq_true, Bool.and_eq_true] at q
    have q1 : ((sIx items.size 0 lo : Nat) : Int) = 0 := eq_of_beq q.1.1
    have q2 : sIx items.size items.size hi - sIx items.size 0 lo = items.size := eq_of_beq q.2
    exact hw ⟨by omega, by omega⟩
  show wpAny _ _ (if (((sIx items.size 0 lo : Nat) : Int) == 0 && (1 : Int) == 1 && (sIx items.size items.size hi - sIx items.size 0 lo) == items.size) = true then _ else _) _ _ s
  rw [if_neg hno, pick_gen]
  first
    | exact wpAny_bind (m := Builtin.Tuple.tupleExact _) (wpAny_newObj_type (wpAny_pure ⟨_, rfl, wpAny_pure h⟩) htake)
    | exact wpAny_bind (m := Builtin.Tuple.tupleExact _) (wpAny_newObj_type (wpAny_bind (wpAny_pure (wpAny_pure ⟨_, rfl, wpAny_pure h⟩))) htake)
    | exact wpAny_bind (wpAny_bind (m := Builtin.Tuple.tupleExact _) (wpAny_newObj_type (wpAny_pure (wpAny_pure ⟨_, rfl, wpAny_pure h⟩)) htake))
    | exact wpAny_bind (wpAny_bind (m := Builtin.Tuple.tupleExact _) (wpAny_newObj_type (wpAny_pure ⟨_, rfl, wpAny_pure h⟩) htake))
end
end HT
namespace L2
open PySem PySem.Spec PyProof.Rows
abbrev TO := St -> Hp -> (Option Int -> Hp -> Prop) -> Prop
def PO (X : Cx) (e : Option Expr) (t : TO) : Prop :=
  ∀ (pins : List (Addr × Obj)) (s : Shared) (σ : St) (H : Hp) (Q : Option Int -> Hp -> Prop), Inv X pins σ H s -> t σ H Q ->
    wpAny (model X.prog X.w) X.A (evalPart e X.env) (fun u s' => ∃ o H', Inv X pins σ H' s' /\ IsPart u o /\ Q o H') X.xe s
def tNoPart : TO := fun _ H Q => Q none H
def tPart (t : TE) : TO := fun σ H Q => t σ H fun x H1 => ∃ i, x = .int i /\ Q (some i) H1
section
variable {X : Cx} {e : Expr} {te : TE} {lo hi : Option Expr} {tl th : TO} {pos p2 : Pos}
theorem po_none : PO X none tNoPart := by
  intro pins s σ H Q I h
  rw [evalPart_none]
  exact wpAny_pure ⟨none, H, I, .none, h⟩
theorem po_some (h : PE X e te) : PO X (some e) (tPart te) := by
  intro pins s σ H Q I hw
  rw [evalPart_some]
  refine thn (h pins s σ H _ I hw) fun u s1 ⟨x, H1, I1, r1, q1⟩ => ?_
  obtain ⟨i, rfl, q⟩ := q1
  obtain ⟨t, rfl⟩ := r1
  exact ⟨some i, H1, I1, .int i t, q⟩
def SlR (X : Cx) (r : V -> Option Int -> Option Int -> Hp -> VK -> Prop) : Prop :=
  ∀ (pins : List (Addr × Obj)) (s : Shared) (σ : St) (H : Hp) (x : V) (v vl vu : Value) (lo hi : Option Int) (sl : Addr) (Q : VK), Inv X pins σ H s -> RelV x v -> s.heap.IsSliceOf sl vl vu .none -> IsPart vl lo -> IsPart vu hi -> r x lo hi H Q ->
    ∃ T id, typeLookup (.type T) "__getitem__" = pure (some (.builtin id)) /\ s.TypeIs v T /\ wpAny (model X.prog X.w) X.A (getItem v (.ref sl)) (EP X pins σ Q) X.xe s
def tSl (r : V -> Option Int -> Option Int -> Hp -> VK -> Prop) (te : TE) (tl th : TO) : TE := fun σ H Q => te σ H fun x H1 => tl σ H1 fun l H2 => th σ H2 fun u H3 => r x l u H3 Q
theorem pe_slice {r : V -> Option Int -> Option Int -> Hp -> VK -> Prop} (hr : SlR X r) (he : PE X e te) (hl : PO X lo tl) (hu : PO X hi th) : PE X (.Subscript e (.Slice lo hi none p2) pos) (tSl r te tl th) := by
  intro pins s σ H Q I h
  refine Subscript_ (thn (he pins s σ H _ I h) fun v s1 ⟨x, H1, I1, r1, q1⟩ => ?_)
  refine wpAny_Slice (thn (hl pins s1 σ H1 _ I1 q1) fun vl s2 ⟨l, H2, I2, pl, q2⟩ => thn (hu pins s2 σ H2 _ I2 q2) fun vu s3 ⟨u, H3, I3, pu, q3⟩ => ?_)
  rw [evalPart_none]
  refine wpAny_pure ?_
  have I4 : Inv X pins σ H3 { s3 with heap := s3.heap.push { cls := .type "slice", data := .fields #[vl, vu, .none] } } := I3.kept (t' := s3.toks) fun b ob q => Heap.get?_push_of_some _ q
  obtain ⟨T, id, hT, ht, hg⟩ := hr pins { s3 with heap := s3.heap.push { cls := .type "slice", data := .fields #[vl, vu, .none] } } σ H3 x v vl vu l u s3.heap.objs.size Q I4 r1 (Heap.IsSliceOf.new ..) pl pu q3
  show wpAny (model X.prog X.w) X.A (subscriptTail e (.Slice lo hi none p2) v (.ref s3.heap.objs.size)) (EP X pins σ Q) X.xe { s3 with heap := s3.heap.push { cls := .type "slice", data := .fields #[vl, vu, .none] } }
  exact tail_any (ops := [.ref s3.heap.objs.size, v]) ht hT hg (by with_unfolding_all rfl)
def cutV (xs : List V) (lo hi : Option Int) : List V := (xs.drop (HT.sIx xs.length 0 lo)).take (HT.sIx xs.length xs.length hi - HT.sIx xs.length 0 lo)
theorem cutV_length (xs : List V) (lo hi : Option Int) : (cutV xs lo hi).length <= xs.length := by
  unfold cutV
  rw [List.length_take, List.length_drop]
  omega
def rSlT (K : PySem.W.Frag) : V -> Option Int -> Option Int -> Hp -> VK -> Prop := fun x lo hi H Q => ∃ a xs, x = .ref a /\ SqT K H a xs /\
  ¬ (HT.sIx xs.length 0 lo = 0 /\ HT.sIx xs.length xs.length hi = xs.length) /\ ∀ p, H p = none -> Q (.ref p) (upd H p (.tup (cutV xs lo hi)))
theorem sl_tup : SlR X (rSlT X.K) := by
  intro pins s σ H x v vl vu lo hi sl Q I rx hs pl pu h
  obtain ⟨a, xs, rfl, hx, hw, q⟩ := h
  cases rx
  obtain ⟨its, r, ht, hz⟩ := I.tuple hx
  have hlen : its.toArray.size = xs.length := by rw [List.size_toArray]; exact r.length.symm
  refine ⟨"tuple", _, PyProof.Rows.slot_tuple_getitem.lookup, ht.typeIs, ?_⟩
  refine HT.getItem_tuple_cut ht hs pl pu (by rw [hlen]; exact hw) ?_ (by rw [hlen]; exact hz)
  rw [hlen]
  refine ⟨.ref s.heap.objs.size, _, I.laid (t' := s.toks) (o := .tup (cutV xs lo hi)) (fun b ob q => Heap.get?_push_of_some _ q) (Nat.le_refl _) ?_, rfl, q _ (I.hok.fresh (Nat.le_refl _))⟩
  exact ⟨Nat.le_trans (cutV_length xs lo hi) hz, _, (r.drop (HT.sIx xs.length 0 lo)).take (HT.sIx xs.length xs.length hi - HT.sIx xs.length 0 lo), IsTup.new _ _⟩
end
end L2
namespace L2
open PySem PySem.Spec PyProof.Rows
def ixN (n : Nat) (i : Int) : Option Nat := if 0 <= i then (if i < n then some i.toNat else none) else if -(n : Int) <= i then some (i + n).toNat else none
def atI {α : Type} (xs : List α) (i : Int) : Option α := (ixN xs.length i).bind fun j => xs[j]?
theorem ixN_seq {n : Nat} {i : Int} {j : Nat} (h : ixN n i = some j) : seqIndex? i n = some j /\ j < n /\ -(n : Int) <= i /\ i < n := by
  unfold ixN at h
  by_cases h0 : 0 <= i
  · rw [if_pos h0] at h
    by_cases h1 : i < n
    · rw [if_pos h1] at h
      have e : i.toNat = j := Option.some.inj h
      exact ⟨by rw [seqIndex_of h0 h1, e], by omega, by omega, h1⟩
    · rw [if_neg h1] at h; cases h
  · rw [if_neg h0] at h
    by_cases h1 : -(n : Int) <= i
    · rw [if_pos h1] at h
      have e : (i + n).toNat = j := Option.some.inj h
      exact ⟨by rw [seqIndex_neg (by omega) h1, e], by omega, h1, by omega⟩
    · rw [if_neg h1] at h; cases h
theorem atI_get {α : Type} {xs : List α} {i : Int} {v : α} (h : atI xs i = some v) : ∃ j, seqIndex? i xs.length = some j /\ xs[j]? = some v /\ j < xs.length /\ -(xs.length : Int) <= i /\ i < xs.length := by
  unfold atI at h
  cases e : ixN xs.length i with
  | none => rw [e] at h; cases h
  | some j =>
    rw [e] at h
    obtain ⟨h1, h2, h3, h4⟩ := ixN_seq e
    exact ⟨j, h1, h, h2, h3, h4⟩
theorem Zq79 {α : Type} {xs : List α} {j : Nat} {v : α} (h : xs[j]? = some v) : atI xs (j : Int) = some v := by
  have hj : j < xs.length := (List.getElem?_eq_some_iff.mp h).1
  have e : ixN xs.length (j : Int) = some j := by
    unfold ixN
    rw [if_pos (by omega), if_pos (by omega)]; simp
  unfold atI; rw [e]; exact h
def PlainIx (b : Expr) : Prop := ∀ o i, subscripted b false o i = operate [o, i] (getItem o i)
def IxR (X : Cx) (r : R2) : Prop :=
  ∀ (value slice : Expr) (pins : List (Addr × Obj)) (s : Shared) (σ : St) (H : Hp) (x y : V) (v u : Value) (Q : VK), Inv X pins σ H s -> RelV x v -> RelV y u -> r x y H Q ->
    subscripted slice false v u = operate [v, u] (getItem v u) -> wpAny (model X.prog X.w) X.A (subscriptTail value slice v u) (EP X pins σ Q) X.xe s
def MtR (X : Cx) (id : String) (r : V -> List V -> Hp -> VK -> Prop) : Prop :=
  ∀ (pins : List (Addr × Obj)) (s : Shared) (σ : St) (H : Hp) (x : V) (xs : List V) (v : Value) (us : List Value) (Q : VK), Inv X pins σ H s -> RelV x v -> Vals xs us -> r x xs H Q ->
    wpAny (model X.prog X.w) X.A (call (.builtin id) (v :: us)) (EP X pins σ Q) X.xe s
section
variable {X : Cx} {a b : Expr} {ta tb : TE} {pos : Pos}
theorem pe_ix {r : R2} (hr : IxR X r) (ha : PE X a ta) (hb : PE X b tb) (hs : PlainIx b) : PE X (.Subscript a b pos) (tOp r ta tb) := by
  intro pins s σ H Q I h
  exact Subscript_ (binT ha hb I h fun v u s2 x y H2 I2 rx ry q => hr a b pins s2 σ H2 x y v u Q I2 rx ry q (hs _ _))
def rIxL (K : PySem.W.Frag) : R2 := fun x y H Q => ∃ p xs i v, x = .ref p /\ y = .int i /\ SqL K H p xs /\ atI xs i = some v /\ Q v H
def rIxT (K : PySem.W.Frag) : R2 := fun x y H Q => ∃ p xs i v, x = .ref p /\ y = .int i /\ SqT K H p xs /\ atI xs i = some v /\ Q v H
def rIxS : R2 := fun x y H Q => ∃ z i c, x = .str z /\ y = .int i /\ z.length <= sizeLine /\ atI z.cps.toList i = some c /\ Q (.str ⟨#[c]⟩) H
theorem ix_list : IxR X (rIxL X.K) := by
  intro value slice pins s σ H x y v u Q I rx ry h hs
  obtain ⟨p, xs, i, z, rfl, rfl, hq, he, q⟩ := h
  cases rx
  obtain ⟨t, rfl⟩ := ry
  obtain ⟨its, r, pl, hz⟩ := I.list hq
  obtain ⟨j, h1, h2, h3, h4, h5⟩ := atI_get he
  obtain ⟨w, ew, rw'⟩ := r.get h2
  have hl := r.length
  have hn := line63
  have fin : EP X pins σ Q w s := ⟨z, H, I, rw', q⟩
  by_cases h0 : 0 <= i
  · have hj : i.toNat = j := by
      rw [seqIndex_of h0 h5] at h1
      exact Option.some.inj h1
    exact item_listR pl.isList h0 (by omega) (by rw [hj]; simpa using ew) fin hs
  · have hj : (i + (its.toArray.size : Int)).toNat = j := by
      rw [seqIndex_neg (by omega) h4] at h1
      rw [List.size_toArray, ← hl]
      exact Option.some.inj h1
    exact subscriptTail_builtinR (x := w) pl.isList.typeIs slot_list_getitem.lookup
      (wpAny_getItem_list_neg (Q := fun r s' => r = w /\ EP X pins σ Q r s') pl.isList (by omega) (by rw [List.size_toArray] <;> omega) (by omega) (by rw [hj]; simpa using ew) ⟨rfl, fin⟩) hs
theorem ix_tup : IxR X (rIxT X.K) := by
  intro value slice pins s σ H x y v u Q I rx ry h hs
  obtain ⟨p, xs, i, z, rfl, rfl, hq, he, q⟩ := h
  cases rx
  obtain ⟨t, rfl⟩ := ry
  obtain ⟨its, r, pl, hz⟩ := I.tuple hq
  obtain ⟨j, h1, h2, h3, h4, h5⟩ := atI_get he
  obtain ⟨w, ew, rw'⟩ := r.get h2
  have hl := r.length
  have hn := line63
  have fin : EP X pins σ Q w s := ⟨z, H, I, rw', q⟩
  exact subscriptTail_builtinR (x := w) pl.typeIs slot_tuple_getitem.lookup
    (getItem_tuple (j := j) (Q := fun r s' => r = w /\ EP X pins σ Q r s') pl (by omega) (by omega) (by rw [List.size_toArray, ← hl]; exact h1) (by simpa using ew) ⟨rfl, fin⟩) hs
theorem ix_str : IxR X rIxS := by
  intro value slice pins s σ H x y v u Q I rx ry h hs
  obtain ⟨z, i, c, rfl, rfl, hz, he, q⟩ := h
  obtain ⟨t, rfl⟩ := rx
  obtain ⟨t', rfl⟩ := ry
  obtain ⟨j, h1, h2, h3, h4, h5⟩ := atI_get he
  have hl : z.cps.toList.length = z.length := by simp [Str.length]
  rw [hl] at h1 h4 h5
  have hn := line63
  exact tail_any (typeIs_str s z t) slot_str_getitem.lookup (getItem_str (c := c) (by
    have e1 : decide (i < -(2 ^ 63 : Int)) = false := decide_eq_false (by omega)
    have e2 : decide (i >= 2 ^ 63) = false := decide_eq_false (by omega)
    rw [e1, e2, Bool.or_false]) (by rw [h1]; simpa using h2) ⟨.str ⟨#[c]⟩, H, I.tok _, ⟨_, rfl⟩, q⟩) hs
theorem mapSeq_set (its : List Value) (n j : Nat) (u : Value) : Obj.mapSeq (·.setIfInBounds j u) { cls := .type "list", data := .seq its.toArray n } = { cls := .type "list", data := .seq (its.set j u).toArray n } := by
  simp [Obj.mapSeq]
theorem Inv.lst {pins : List (Addr × Obj)} {σ : St} {H : Hp} {s : Shared} {p : Addr} {xs : List V} (I : Inv X pins σ H s) (h : H p = some (.lst xs)) :
    ∃ (its : List Value) (n : Nat), Vals xs its /\ s.heap.get? p = some { cls := .type "list", data := .seq its.toArray n } /\ xs.length <= sizeLine := by
  obtain ⟨z, its, n, r, e⟩ := I.hok p _ h
  exact ⟨its, n, r, e, z⟩
theorem Inv.lstUpd {pins : List (Addr × Obj)} {σ : St} {H : Hp} {s : Shared} {p : Addr} {xs ys : List V} {its its' : List Value} {n n' : Nat} {f : Obj -> Obj} (I : Inv X pins σ H s) (h : H p = some (.lst xs))
    (ho : s.heap.get? p = some { cls := .type "list", data := .seq its.toArray n }) (hf : f { cls := .type "list", data := .seq its.toArray n } = { cls := .type "list", data := .seq its'.toArray n' }) (r : Vals ys its') (hz : ys.length <= sizeLine) (t : Nat) :
    Inv X pins σ (upd H p (.lst ys)) { s with heap := s.heap.update p f, toks := t } := by
  have e : (s.heap.update p f).get? p = some { cls := .type "list", data := .seq its'.toArray n' } := by
    rw [Heap.get?_update_self f ho (by rw [hf] <;> rfl), hf]
  refine I.write (x := p) (e := p) (by rw [h]; trivial) (.inl rfl) (fun b u hb q => (Heap.get?_update_other _ _ (Ne.symm hb)).trans q) ⟨_, e⟩ ?_
  exact ⟨hz, its', n', r, e⟩
def rSetL : V -> V -> V -> Hp -> (Hp -> Prop) -> Prop := fun o i v H Q => ∃ p xs k j, o = .ref p /\ i = .int k /\ H p = some (.lst xs) /\ ixN xs.length k = some j /\ Q (upd H p (.lst (xs.set j v)))
theorem set_list : PSet X rSetL := by
  intro pins s σ H o i v ov iv u Q I ro ri rv h
  obtain ⟨p, xs, k, j, rfl, rfl, hp, hj, q⟩ := h
  cases ro
  obtain ⟨t, rfl⟩ := ri
  obtain ⟨its, n, r, ho, hz⟩ := I.lst hp
  obtain ⟨h1, h2, h3, h4⟩ := ixN_seq hj
  have hl := r.length
  have hn := line63
  have I' : Inv X pins σ (upd H p (.lst (xs.set j v))) { s with heap := s.heap.update p (Obj.mapSeq (·.setIfInBounds j u)) } :=
    I.lstUpd hp ho (mapSeq_set its n j u) (r.set rv j) (by rw [List.length_set]; exact hz) s.toks
  by_cases h0 : 0 <= k
  · have hk : k.toNat = j := by
      rw [seqIndex_of h0 h4] at h1
      exact Option.some.inj h1
    exact PySem.W.ki_setAt ho h0 (by omega) (by rw [List.size_toArray, ← hl]; exact h4) (by rw [hk]; exact ⟨_, I', q⟩)
  · have hk : (k + (its.toArray.size : Int)).toNat = j := by
      rw [seqIndex_neg (by omega) h3] at h1
      rw [List.size_toArray, ← hl]
      exact Option.some.inj h1
    exact PySem.W.ki_setBack ho (by omega) (by rw [List.size_toArray, ← hl]; exact h3) (by omega) (by rw [hk]; exact ⟨_, I', q⟩)
theorem slice_bounds (lo hi : Option Int) (n : Nat) : (sliceBounds lo hi none n).1 = ((HT.sIx n 0 lo : Nat) : Int) /\ (sliceBounds lo hi none n).2.1 = ((HT.sIx n n hi : Nat) : Int) /\ (sliceBounds lo hi none n).2.2 = 1 := by
  refine ⟨?_, ?_, rfl⟩
  · cases lo with
    | none => simp [sliceBounds, HT.sIx]
    | some i =>
      simp only [sliceBounds, HT.sIx, Option.getD_none, show (1 : Int) > 0 by decide, if_true]
      by_cases h : i < 0
      · simp only [h, if_true] <;> omega
      · simp only [h, if_false] <;> omega
  · cases hi with
    | none => simp [sliceBounds, HT.sIx]
    | some i =>
      simp only [sliceBounds, HT.sIx, Option.getD_none, show (1 : Int) > 0 by decide, if_true]
      by_cases h : i < 0
      · simp only [h, if_true] <;> omega
      · simp only [h, if_false] <;> omega
theorem slicePick_cut (its : List Value) (lo hi : Option Int) : slicePick its.toArray lo hi none = ((its.drop (HT.sIx its.length 0 lo)).take (HT.sIx its.length its.length hi - HT.sIx its.length 0 lo)).toArray := by
  obtain ⟨h1, h2, h3⟩ := slice_bounds lo hi its.toArray.size
  unfold slicePick
  rw [h1, h2, h3]
  simp only [sliceRange_one, pick_run, List.size_toArray] <;> rfl
def rSlL (K : PySem.W.Frag) : V -> Option Int -> Option Int -> Hp -> VK -> Prop := fun x lo hi H Q => ∃ a xs, x = .ref a /\ SqL K H a xs /\ ∀ p, H p = none -> Q (.ref p) (upd H p (.lst (cutV xs lo hi)))
theorem sl_list : SlR X (rSlL X.K) := by
  intro pins s σ H x v vl vu lo hi sl Q I rx hs pl pu h
  obtain ⟨a, xs, rfl, hx, q⟩ := h
  cases rx
  obtain ⟨its, r, ht, hz⟩ := I.list hx
  have hlen := r.length
  refine ⟨"list", _, slot_list_getitem.lookup, ht.isList.typeIs, ?_⟩
  refine wpAny_getItem_list_slice ht.isList hs pl pu .none (by simp) ?_ (by rw [List.size_toArray] <;> omega)
  rw [slicePick_cut, ← hlen]
  refine ⟨.ref s.heap.objs.size, _, I.laid (t' := s.toks) (o := .lst (cutV xs lo hi)) (fun b ob q => Heap.get?_push_of_some _ q) (Nat.le_refl _) ?_, rfl, q _ (I.hok.fresh (Nat.le_refl _))⟩
  exact ⟨Nat.le_trans (cutV_length xs lo hi) hz, _, 0, (r.drop (HT.sIx xs.length 0 lo)).take (HT.sIx xs.length xs.length hi - HT.sIx xs.length 0 lo), Heap.get?_push_size _ rfl⟩
def Zq108 : V -> Bool
  | .non => true
  | .bl _ => true
  | .int _ => true
  | .str _ => true
  | _ => false
def eqV : V -> V -> Bool
  | .non, .non => true
  | .bl a, .bl b => a == b
  | .bl a, .int b => (if a then 1 else 0) == b
  | .int a, .bl b => a == (if b then 1 else 0)
  | .int a, .int b => a == b
  | .str a, .str b => a == b
  | _, _ => false
theorem eqAt_V {A : Around} {s : Shared} {y x : V} {u v : Value} (ry : RelV y u) (rx : RelV x v) (fy : Zq108 y = true) (fx : Zq108 x = true) : SeqAt.EqAt A s u v (eqV y x) := by
  cases y with
  | non =>
    cases ry
    cases x with
    | non => cases rx; exact SeqAt.EqAt.same _
    | bl b => cases rx; exact SeqAt.EqAt.none_bool b
    | int b => obtain ⟨t, rfl⟩ := rx; exact SeqAt.EqAt.none_int b t
    | str b => obtain ⟨t, rfl⟩ := rx; exact SeqAt.EqAt.none_str b t
    | _ => exact absurd (show false = true from fx) Bool.false_ne_true
  | bl a =>
    cases ry
    cases x with
    | non => cases rx; exact SeqAt.EqAt.bool_none a
    | bl b => cases rx; exact SeqAt.EqAt.bool_bool a b
    | int b => obtain ⟨t, rfl⟩ := rx; exact SeqAt.EqAt.bool_int a b t
    | str b => obtain ⟨t, rfl⟩ := rx; exact SeqAt.EqAt.bool_str a b t
    | _ => exact absurd (show false = true from fx) Bool.false_ne_true
  | int a =>
    obtain ⟨t', rfl⟩ := ry
    cases x with
    | non => cases rx; exact SeqAt.EqAt.int_none a t'
    | bl b => cases rx; exact SeqAt.EqAt.int_bool a t' b
    | int b => obtain ⟨t, rfl⟩ := rx; exact SeqAt.EqAt.int_int a t' b t
    | str b => obtain ⟨t, rfl⟩ := rx; exact SeqAt.EqAt.int_str a t' b t
    | _ => exact absurd (show false = true from fx) Bool.false_ne_true
  | str a =>
    obtain ⟨t', rfl⟩ := ry
    cases x with
    | non => cases rx; exact SeqAt.EqAt.str_none a t'
    | bl b => cases rx; exact SeqAt.EqAt.str_bool a t' b
    | int b => obtain ⟨t, rfl⟩ := rx; exact SeqAt.EqAt.str_int a t' b t
    | str b => obtain ⟨t, rfl⟩ := rx; exact SeqAt.EqAt.str_str a t' b t
    | _ => exact absurd (show false = true from fx) Bool.false_ne_true
  | _ => exact absurd (show false = true from fy) Bool.false_ne_true
def eqU (x : V) (u : Value) : Bool := match u with
  | .none => eqV .non x
  | .bool b => eqV (.bl b) x
  | .int i _ => eqV (.int i) x
  | .str z _ => eqV (.str z) x
  | _ => false
theorem eqU_of {x y : V} {u : Value} (r : RelV y u) (f : Zq108 y = true) : eqU x u = eqV y x := by
  cases y with
  | non => cases r; rfl
  | bl b => cases r; rfl
  | int i => obtain ⟨t, rfl⟩ := r; rfl
  | str z => obtain ⟨t, rfl⟩ := r; rfl
  | _ => exact absurd (show false = true from f) Bool.false_ne_true
theorem any_eqU {x : V} : ∀ {xs : List V} {us : List Value}, Vals xs us -> xs.all Zq108 = true -> us.any (eqU x) = xs.any fun y => eqV y x
  | _, _, .nil, _ => rfl
  | y :: xs, u :: us, .cons r t, f => by
    rw [List.all_cons, Bool.and_eq_true] at f
    rw [List.any_cons, List.any_cons, eqU_of r f.1, any_eqU t f.2]
theorem mem_eqAt {A : Around} {s : Shared} {x : V} {v : Value} (rx : RelV x v) (fx : Zq108 x = true) : ∀ {xs : List V} {us : List Value}, Vals xs us -> xs.all Zq108 = true -> ∀ u ∈ us, SeqAt.EqAt A s u v (eqU x u)
  | _, _, .nil, _ => fun u hu => by cases hu
  | y :: xs, u :: us, .cons r t, f => fun u' hu => by
    rw [List.all_cons, Bool.and_eq_true] at f
    rcases List.mem_cons.mp hu with rfl | hu
    · rw [eqU_of r f.1]; exact eqAt_V r rx f.1 fx
    · exact mem_eqAt rx fx t f.2 u' hu
def inV (x : V) (xs : List V) : Bool := xs.any fun y => eqV y x
def rIn (K : PySem.W.Frag) (neg : Bool) : R2 := fun x y H Q => ∃ p xs, y = .ref p /\ (SqL K H p xs \/ SqT K H p xs) /\ Zq108 x = true /\ xs.all Zq108 = true /\ Q (.bl (if neg then !inV x xs else inV x xs)) H
theorem op_notIn_seq : OpR X (compareOp .NotIn) (rIn X.K true) := by
  intro pins s σ H x y v u Q I rx ry h
  obtain ⟨p, xs, rfl, hq, fx, fs, q⟩ := h
  cases ry
  rcases hq with hq | hq
  · obtain ⟨its, r, pl, hz⟩ := I.list hq
    refine SeqAt.notIn_listAt (eqU x) pl.isList (fun w hw => mem_eqAt rx fx r fs w (by simpa using hw)) ⟨.bl _, H, I, rfl, ?_⟩
    rw [show its.toArray.any (eqU x) = its.any (eqU x) by simp, any_eqU r fs]
    exact q
  · obtain ⟨its, r, pl, hz⟩ := I.tuple hq
    refine SeqAt.notIn_tupleAt (eqU x) pl (fun w hw => mem_eqAt rx fx r fs w (by simpa using hw)) ⟨.bl _, H, I, rfl, ?_⟩
    rw [show its.toArray.any (eqU x) = its.any (eqU x) by simp, any_eqU r fs]
    exact q
theorem call_len_seq : Zq73 X (.builtin "len") (fun xs H Q => ∃ p ys, xs = [.ref p] /\ (SqL X.K H p ys \/ SqT X.K H p ys) /\ Q (.int ys.length) H) := by
  intro pins s σ H xs us Q I r h
  obtain ⟨p, ys, rfl, hq, q⟩ := h
  obtain ⟨u, rfl, rx⟩ := Zq86 r
  cases rx
  have hn := line63
  rcases hq with hq | hq
  · obtain ⟨its, r', pl, hz⟩ := I.list hq
    have hlen := r'.length
    exact Calls.call_len_list pl.isList (by simp only [List.size_toArray] <;> omega) ⟨.int ys.length, H, I.tok _, ⟨s.toks + 1, by rw [List.size_toArray, hlen]⟩, q⟩
  · obtain ⟨its, r', pl, hz⟩ := I.tuple hq
    have hlen := r'.length
    exact len_tuple pl (by simp only [List.size_toArray] <;> omega) ⟨.int ys.length, H, I.tok _, ⟨s.toks + 1, by rw [List.size_toArray, hlen]⟩, q⟩
theorem call_len_str : Zq73 X (.builtin "len") (fun xs H Q => ∃ z, xs = [.str z] /\ z.length <= sizeLine /\ Q (.int z.length) H) := by
  intro pins s σ H xs us Q I r h
  obtain ⟨z, rfl, hz, q⟩ := h
  obtain ⟨u, rfl, t, rfl⟩ := Zq86 r
  have hn := line63
  exact len_str (by omega) ⟨.int z.length, H, I.tok _, ⟨_, rfl⟩, q⟩
theorem call_list_of : Zq73 X (.type "list") (fun xs H Q => ∃ p ys, xs = [.ref p] /\ (SqL X.K H p ys \/ SqT X.K H p ys) /\ ∀ l, H l = none -> Q (.ref l) (upd H l (.lst ys))) := by
  intro pins s σ H xs us Q I r h
  obtain ⟨p, ys, rfl, hq, q⟩ := h
  obtain ⟨u, rfl, rx⟩ := Zq86 r
  cases rx
  have fin : ∀ (its : List Value), Vals ys its -> ys.length <= sizeLine -> ∀ (h' : Heap) (c' : Nat), (∀ b o', s.heap.get? b = some o' -> h'.get? b = some o') ->
      h'.get? s.heap.objs.size = some { cls := .type "list", dict := none, data := .seq its.toArray c', slots := #[] } -> EP X pins σ Q (.ref s.heap.objs.size) { s with heap := h' } := fun its r' hz h' c' kp e =>
    ⟨.ref s.heap.objs.size, _, I.laid (t' := s.toks) kp (Nat.le_refl _) (show ObjOk X.prog X.w _ h' _ (.lst ys) from ⟨hz, its, c', r', e⟩), rfl, q _ (I.hok.fresh (Nat.le_refl _))⟩
  rcases hq with hq | hq
  · obtain ⟨its, r', pl, hz⟩ := I.list hq
    have hlen := r'.length
    obtain ⟨o, ho, hc, n, hd⟩ := pl.isList
    exact call_list_seq p (.inl rfl) ho hc hd (fun h' c' kp e => fin its r' hz h' c' kp e) (by simp only [List.size_toArray] <;> omega)
  · obtain ⟨its, r', pl, hz⟩ := I.tuple hq
    have hlen := r'.length
    obtain ⟨o, ho, hc, n, hd⟩ := pl
    exact call_list_seq p (.inr rfl) ho hc hd (fun h' c' kp e => fin its r' hz h' c' kp e) (by simp only [List.size_toArray] <;> omega)
theorem call_tuple_of : Zq73 X (.type "tuple") (fun xs H Q => ∃ p ys, xs = [.ref p] /\ ((SqL X.K H p ys /\ ∀ l, H l = none -> Q (.ref l) (upd H l (.tup ys))) \/ (SqT X.K H p ys /\ Q (.ref p) H))) := by
  intro pins s σ H xs us Q I r h
  obtain ⟨p, ys, rfl, h⟩ := h
  obtain ⟨u, rfl, rx⟩ := Zq86 r
  cases rx
  rcases h with ⟨hq, q⟩ | ⟨hq, q⟩
  · obtain ⟨its, r', pl, hz⟩ := I.list hq
    have hlen := r'.length
    refine call_tuple_list pl.isList (fun h' kp => ?_) (by simp only [List.size_toArray] <;> omega)
    have I1 : Inv X pins σ H { s with heap := h' } := I.kept (t' := s.toks) kp
    have I2 : Inv X pins σ (upd H h'.objs.size (.tup ys)) { s with heap := h'.push { cls := .type "tuple", data := .seq its.toArray } } :=
      I1.laid (t' := s.toks) (fun b o e => Heap.get?_push_of_some _ e) (Nat.le_refl _) (show ObjOk X.prog X.w _ _ _ (.tup ys) from ⟨hz, its, r', IsTup.new _ _⟩)
    exact ⟨.ref h'.objs.size, _, I2, rfl, q _ (I1.hok.fresh (Nat.le_refl _))⟩
  · obtain ⟨its, r', pl, hz⟩ := I.tuple hq
    exact call_tuple_same pl ⟨.ref p, H, I, rfl, q⟩
def tyV (K : PySem.W.Frag) (T : String) (x : V) (H : Hp) : Prop := match x with
  | .str _ => T = "str"
  | .int _ => T = "int"
  | .ref p => (T = "list" /\ ∃ xs, SqL K H p xs) \/ (T = "tuple" /\ ∃ o, K.lookup p = some o /\ o.cls = .type "tuple" /\ o.dict = none) \/
      (T = "dict" /\ ((∃ kvs, H p = some (.dK kvs)) \/ ∃ kvs, H p = some (.dT kvs))) \/ (T = "set" /\ ∃ S n, H p = some (.set S n))
  | _ => False
theorem tyV_is {pins : List (Addr × Obj)} {σ : St} {H : Hp} {s : Shared} {T : String} {x : V} {v : Value} (I : Inv X pins σ H s) (r : RelV x v) (ty : tyV X.K T x H) :
    s.TypeIs v T /\ ∀ a, v = .ref a -> ∃ ob, s.heap.get? a = some ob /\ ob.dict = none := by
  cases x with
  | str z =>
    obtain ⟨t, rfl⟩ := r
    cases (show T = "str" from ty)
    exact ⟨typeIs_str s z t, fun _ e => nomatch e⟩
  | int i =>
    obtain ⟨t, rfl⟩ := r
    cases (show T = "int" from ty)
    exact ⟨typeIs_int s i t, fun _ e => nomatch e⟩
  | ref p =>
    cases r
    rcases ty with ⟨rfl, xs, hq⟩ | ⟨rfl, o, hk, hc, hd⟩ | ⟨rfl, hk⟩ | ⟨rfl, S, n, hk⟩
    · obtain ⟨its, _, pl, _⟩ := I.list hq
      refine ⟨pl.isList.typeIs, fun a e => ?_⟩
      cases e
      obtain ⟨o, n, e, c, hd, _⟩ := pl
      exact ⟨o, e, hd⟩
    · refine ⟨⟨o, I.kIn p o hk, hc⟩, fun a e => ?_⟩
      cases e
      exact ⟨o, I.kIn _ o hk, hd⟩
    · have z : ∃ o, s.heap.get? p = some o /\ o.ExactDict := by
        rcases hk with ⟨kvs, hk⟩ | ⟨kvs, hk⟩
        · obtain ⟨_, _, _, _, o, _, _, e, ex, _⟩ := I.hok p _ hk
          exact ⟨o, e, ex⟩
        · obtain ⟨_, _, _, _, o, _, _, e, ex, _⟩ := I.hok p _ hk
          exact ⟨o, e, ex⟩
      obtain ⟨o, e, ex⟩ := z
      refine ⟨⟨o, e, ex.1⟩, fun a e2 => ?_⟩
      cases e2
      exact ⟨o, e, ex.2.1⟩
    · obtain ⟨o, _, _, _, e, ex, _⟩ := I.hok p _ hk
      refine ⟨⟨o, e, ex.1⟩, fun a e2 => ?_⟩
      cases e2
      exact ⟨o, e, ex.2.1⟩
  | _ => exact False.elim ty
def tBM (K : PySem.W.Frag) (T : String) (r : V -> List V -> Hp -> VK -> Prop) (to : TE) (t : TA) : TE := fun σ H Q => to σ H fun x H1 => tyV K T x H1 /\ t σ H1 fun xs H2 => r x xs H2 Q
variable {o e : Expr} {es : List Expr} {to : TE} {t : TA} {name : Str} {apos cpos : Pos} {T id : String} {r : V -> List V -> Hp -> VK -> Prop}
theorem pe_bm (pa : PlainAttrs T) (slot : Slot T name id) (hty : typeOf (.builtin id) = pure (.type "method_descriptor")) (hm : MtR X id r) (ho : PE X o to) (ha : PA X (e :: es) t)
    (hbase : attributeBase o name X.env (eval o X.env) = eval o X.env := by rfl)
    (hfew : ((backTo cpos (starEach (e :: es) X.env)).all (fun x => !x.1) && (backToKw cpos (keywordEach [] X.env)).all (fun x => x.1.isSome)
      && decide ((e :: es).length + ([] : List Keyword).length + (if ([] : List Keyword).isEmpty then 0 else 1) < 30)) = true := by rfl)
    (hline : (apos.endLine == cpos.line) = true := by rfl) (hs : starEach (e :: es) X.env = (false, eval e X.env) :: starEach es X.env := by rfl) (hplain : (backTo cpos (starEach es X.env)).any (·.1) = false := by rfl) :
    PE X (.Call (.Attribute o name apos) (e :: es) [] cpos) (tBM X.K T r to t) := by
  intro pins s σ H Q I h
  refine wpAny_Call_method_late hbase hfew hline rfl (thn (ho pins s σ H _ I h) fun v s1 ⟨x, H1, I1, r1, ty, q1⟩ => ?_)
  obtain ⟨h1, h2⟩ := tyV_is I1 r1 ty
  refine ⟨T, id, pa, slot, hty, h1, h2, ?_⟩
  have hA := ha cpos pins s1 σ H1 _ I1 q1
  rw [hs] at hA ⊢
  refine Calls.callWith_builtin (by show (false || (backTo cpos (starEach es X.env)).any (·.1)) = false; rw [hplain] <;> rfl) (Calls.evalArgs_plain ?_)
  exact thn hA fun us s2 ⟨vs, H2, I2, r2, q2⟩ => hm pins s2 σ H2 x vs v us Q I2 r1 r2 q2
/- xs.append(e), list.index on a module's tuple .. are MtR facts of 06m -/
end
end L2
namespace L2
open PySem PySem.Spec PyProof.Rows
def MtM (X : Cx) (id : String) (r : V -> List V -> Hp -> VK -> Prop) : Prop :=
  ∀ (pins : List (Addr × Obj)) (s : Shared) (σ : St) (H : Hp) (x : V) (xs : List V) (v : Value) (us : List Value) (Q : VK), Inv X pins σ H s -> RelV x v -> Vals xs us -> r x xs H Q ->
    wpAny (model X.prog X.w) X.A (call (.builtin id) (v :: us)) (EP X pins σ Q) X.xe s
theorem Vals.one : ∀ {x : V} {us : List Value}, Vals [x] us -> ∃ u, us = [u] /\ RelV x u
  | _, _, .cons r .nil => ⟨_, rfl, r⟩
section
variable {X : Cx} {pins : List (Addr × Obj)} {σ : St} {H : Hp} {s : Shared} {l b : Addr} {xs ys zs : List V}
theorem Inv.lset {its its' : List Value} {n : Nat} {f : Array Value -> Array Value} {t' : Nat} (I : Inv X pins σ H s) (hH : H l = some (.lst xs))
    (e : s.heap.get? l = some { cls := .type "list", data := .seq its.toArray n }) (hf : f its.toArray = its'.toArray) (hv : Vals ys its') (hz : ys.length <= sizeLine) :
    Inv X pins σ (upd H l (.lst ys)) { s with heap := s.heap.update l (Obj.mapSeq f), toks := t' } := by
  have q := PySem.IsL.update e f
  rw [hf] at q
  refine I.write (x := l) (e := l) (by rw [hH]; exact trivial) (.inl rfl) (fun b' u hb hu => (Heap.get?_update_other s.heap (Obj.mapSeq f) (Ne.symm hb)).trans hu) ⟨_, q⟩ ?_
  exact ⟨hz, its', _, hv, q⟩
theorem Inv.lnew {its : List Value} {t' : Nat} (I : Inv X pins σ H s) (hv : Vals ys its) (hz : ys.length <= sizeLine) :
    Inv X pins σ (upd H s.heap.objs.size (.lst ys)) { s with heap := s.heap.push { cls := .type "list", data := .seq its.toArray }, toks := t' } :=
  I.laid (fun _ _ q => Heap.get?_push_of_some _ q) (Nat.le_refl _) ⟨hz, its, 0, hv, Heap.get?_push_size _ rfl⟩
theorem Inv.fresh (I : Inv X pins σ H s) : H s.heap.objs.size = none := I.hok.fresh (Nat.le_refl _)
theorem Inv.lstM (I : Inv X pins σ H s) (hH : H l = some (.lst xs)) : xs.length <= sizeLine /\ ∃ (its : List Value) (n : Nat), Vals xs its /\ xs.length = its.length /\ s.heap.get? l = some { cls := .type "list", data := .seq its.toArray n } := by
  obtain ⟨z, its, n, r, e⟩ := I.hok l _ hH
  exact ⟨z, its, n, r, r.length, e⟩
end
section
variable {X : Cx}
def rAppend : V -> List V -> Hp -> VK -> Prop := fun x vs H Q => ∃ l xs y, x = .ref l /\ vs = [y] /\ H l = some (.lst xs) /\ xs.length < sizeLine /\ Q .non (upd H l (.lst (xs ++ [y])))
theorem mt_append : MtM X "list.append" rAppend := by
  intro pins s σ H x vs v us Q I rx rv h
  obtain ⟨l, xs, y, rfl, rfl, hH, hz, q⟩ := h
  cases rx
  obtain ⟨u, rfl, ru⟩ := rv.one
  obtain ⟨z, its, n, r, hl, e⟩ := I.lstM hH
  refine call_meets F.slot_list_append ⟨_, e, rfl⟩ F.entry_list_append (F.args_list_append_2 _ _) (PySem.list_append l its.toArray n u (by rw [List.size_toArray]; omega)) ⟨e, ?_⟩
  refine ⟨.non, _, I.lset (its' := its ++ [u]) hH e (by simp) (r.append (.cons ru .nil)) ?_, rfl, q⟩
  rw [List.length_append, List.length_singleton]
  omega
def rCat : R2 := fun x y H Q => ∃ l b xs zs, x = .ref l /\ y = .ref b /\ H l = some (.lst xs) /\ H b = some (.lst zs) /\ xs.length + zs.length <= sizeLine /\ ∀ p, H p = none -> Q (.ref p) (upd H p (.lst (xs ++ zs)))
theorem op_cat : OpR X (binaryOp .Add) rCat := by
  intro pins s σ H x y v u Q I rx ry h
  obtain ⟨l, b, xs, zs, rfl, rfl, hH, hB, hz, q⟩ := h
  cases rx
  cases ry
  obtain ⟨z, its, n, r, hl, e⟩ := I.lstM hH
  obtain ⟨z2, its2, n2, r2, hl2, e2⟩ := I.lstM hB
  refine PySem.P.add_list e e2 ?_ (by rw [List.size_toArray, List.size_toArray]; omega)
  have ea : its.toArray ++ its2.toArray = (its ++ its2).toArray := by simp
  rw [ea]
  exact ⟨.ref _, _, I.lnew (t' := s.toks) (r.append r2) (by rw [List.length_append]; omega), rfl, q _ I.fresh⟩
end
section
variable {prog : Program} {w : World} {A : Around} {E : Value -> Shared -> Prop} {s : Shared}
set_option maxRecDepth 100000 in
end
section
variable {X : Cx}
end
end L2
namespace L2
open PySem PySem.Spec PyProof.Rows
section
variable {κ : Type} [DecidableEq κ]
def valV (kvs : List (κ × V)) (k : κ) : Option V := (kvs.find? fun kv => decide (kv.1 = k)).map (·.2)
def putK (kvs : List (κ × V)) (k : κ) (v : V) : List (κ × V) :=
  if (kvs.any fun kv => decide (kv.1 = k)) = true then kvs.map (fun kv => if kv.1 = k then (kv.1, v) else kv) else kvs ++ [(k, v)]
theorem valV_pos {p : κ × V} {r : List (κ × V)} {k : κ} (e : p.1 = k) : valV (p :: r) k = some p.2 := by simp [valV, List.find?_cons, e]
theorem valV_neg {p : κ × V} {r : List (κ × V)} {k : κ} (e : ¬ p.1 = k) : valV (p :: r) k = valV r k := by simp [valV, List.find?_cons, e]
theorem length_putK (kvs : List (κ × V)) (k : κ) (v : V) : (putK kvs k v).length <= kvs.length + 1 := by
  unfold putK
  split
  · rw [List.length_map]; omega
  · rw [List.length_append, List.length_cons, List.length_nil]; omega
theorem RelO.getD {o : Option V} {u : Option Value} {d : V} {d' : Value} (r : RelO o u) (rd : RelV d d') : RelV (o.getD d) (u.getD d') := by
  cases o with
  | none => cases u with
    | none => exact rd
    | some _ => exact (show False from r).elim
  | some _ => cases u with
    | none => exact (show False from r).elim
    | some _ => exact r
theorem KV.val {kvs : List (κ × V)} {vs : List (κ × Value)} (r : KV kvs vs) (k : κ) : RelO (valV kvs k) (valueAt vs k) := by
  unfold KV at r
  induction r with
  | nil => exact True.intro
  | @cons p q ps qs h t ih =>
    obtain ⟨h1, h2⟩ := h
    by_cases e : p.1 = k
    · have e' : q.1 = k := h1.symm.trans e
      have b : valueAt (q :: qs) k = some q.2 := by simp [valueAt, List.find?_cons, e']
      rw [valV_pos e, b]; exact h2
    · have e' : ¬ q.1 = k := fun z => e (h1.trans z)
      have b : valueAt (q :: qs) k = valueAt qs k := by simp [valueAt, List.find?_cons, e']
      rw [valV_neg e, b]; exact ih
theorem KV.any {kvs : List (κ × V)} {vs : List (κ × Value)} (r : KV kvs vs) (k : κ) : (kvs.any fun kv => decide (kv.1 = k)) = vs.any fun kv => decide (kv.1 = k) := by
  unfold KV at r
  induction r with
  | nil => rfl
  | cons h t ih => rw [List.any_cons, List.any_cons, ih, h.1]
theorem KV.repl {kvs : List (κ × V)} {vs : List (κ × Value)} (r : KV kvs vs) (k : κ) {y : V} {u : Value} (ry : RelV y u) :
    KV (kvs.map fun kv => if kv.1 = k then (kv.1, y) else kv) (vs.map fun kv => if kv.1 = k then (kv.1, u) else kv) := by
  unfold KV at r ⊢
  induction r with
  | nil => exact .nil
  | @cons p q ps qs h t ih =>
    rw [List.map_cons, List.map_cons]
    refine .cons ?_ ih
    obtain ⟨h1, h2⟩ := h
    by_cases e : p.1 = k
    · rw [if_pos e, if_pos (h1.symm.trans e)]; exact ⟨h1, ry⟩
    · rw [if_neg e, if_neg (fun z => e (h1.trans z))]; exact ⟨h1, h2⟩
theorem KV.put {kvs : List (κ × V)} {vs : List (κ × Value)} (r : KV kvs vs) (k : κ) {y : V} {u : Value} (ry : RelV y u) : KV (putK kvs k y) (stored vs k u) := by
  unfold putK stored
  rw [r.any k]
  by_cases e : (vs.any fun kv => decide (kv.1 = k)) = true
  · rw [if_pos e, if_pos e]; exact r.repl k ry
  · rw [if_neg e, if_neg e]; exact Paired.snoc r ⟨rfl, ry⟩
end
theorem kV_is {P : Program} {w : World} {k : Key} {u : Value} (r : RelV (kV k) u) : (Zq31 P w).is k u = true := by
  cases k with
  | inl i => obtain ⟨t, e⟩ := (show ∃ t, u = Value.int i t from r); subst e; exact mixKind_int P w i t
  | inr x => obtain ⟨t, e⟩ := (show ∃ t, u = Value.str x t from r); subst e; exact mixKind_str P w x t
theorem items_are {P : Program} {w : World} : ∀ {ks : List Key} {us : List Value}, Vals (ks.map kV) us -> ItemsAre (Zq31 P w) ks us
  | [], _, r => by rw [List.map_nil] at r; cases r; exact .nil
  | k :: ks, _, r => by
    rw [List.map_cons] at r
    cases r with
    | cons h t => exact .cons (kV_is h) (items_are t)
abbrev KT (H : Hp) : List (List Key × V) -> List (List Key × Addr × Value) -> Prop := Paired fun p q => p.1 = q.1 /\ H q.2.1 = some (.tup (p.1.map kV)) /\ RelV p.2 q.2.2
theorem KT.val {H : Hp} {kvs : List (List Key × V)} {xs : List (List Key × Addr × Value)} (r : KT H kvs xs) (k : List Key) : RelO (valV kvs k) ((atKey xs k).map (·.2)) := by
  induction r with
  | nil => exact True.intro
  | @cons p q ps qs h t ih =>
    obtain ⟨h1, _, h2⟩ := h
    by_cases e : p.1 = k
    · have e' : q.1 = k := h1.symm.trans e
      have b : atKey (q :: qs) k = some q.2 := by simp [atKey, List.find?_cons, e']
      rw [valV_pos e, b]; exact h2
    · have e' : ¬ q.1 = k := fun z => e (h1.trans z)
      have b : atKey (q :: qs) k = atKey qs k := by simp [atKey, List.find?_cons, e']
      rw [valV_neg e, b]; exact ih
section
variable {P : Program} {w : World} {H : Hp} {h : Heap} {a : Addr}
theorem rd_of {u : HO} (ok : HOk P w H h) (e : Rd H a u) : ObjOk P w H h a u := e.ok ok
theorem dk_rd {kvs : List (Key × V)} (ok : HOk P w H h) (e : Rd H a (.dK kvs)) : kvs.length <= sizeLine /\ (a == sysModules) = false /\ ∃ vs, KV kvs vs /\ h.DictOf (Zq31 P w) a vs :=
  show ObjOk P w H h a (.dK kvs) from rd_of ok e
theorem dk_of {kvs : List (Key × V)} (ok : HOk P w H h) (e : H a = some (.dK kvs)) : kvs.length <= sizeLine /\ (a == sysModules) = false /\ ∃ vs, KV kvs vs /\ h.DictOf (Zq31 P w) a vs := dk_rd ok (.inl e)
theorem key_of {ks : List Key} (ok : HOk P w H h) (e : H a = some (.tup (ks.map kV))) : (tupleKind (Zq31 P w)).is h ks a := by
  obtain ⟨_, its, r, o, h1, h2, n, h3⟩ := (show ObjOk P w H h a (.tup (ks.map kV)) from ok a _ e)
  exact ⟨o, its.toArray, n, h1, h2, h3, by simpa using items_are r⟩
theorem dt_rd {kvs : List (List Key × V)} (ok : HOk P w H h) (e : Rd H a (.dT kvs)) : kvs.length <= sizeLine /\ (a == sysModules) = false /\
    ∃ xs, KT H kvs xs /\ h.DictOfH (tupleKind (Zq31 P w)) a xs := by
  obtain ⟨z, y, xs, r, o, es, ep, h1, h2, h3, h4, h5⟩ := (show ObjOk P w H h a (.dT kvs) from rd_of ok e)
  refine ⟨z, y, xs, r, o, es, ep, h1, h2, h3, h4, fun x hx => ?_, h5⟩
  have all : ∀ {l : List (List Key × V)} {m : List (List Key × Addr × Value)}, KT H l m -> ∀ x ∈ m, (tupleKind (Zq31 P w)).is h x.1 x.2.1 := by
    intro l m q
    induction q with
    | nil => intro x hx; exact nomatch hx
    | @cons p q ps qs hq t ih =>
      intro x hx
      rcases List.mem_cons.mp hx with e | hx
      · subst e
        exact key_of ok (by rw [← hq.1]; exact hq.2.1)
      · exact ih x hx
  exact all r x hx
end
def DGet (H : Hp) (a : Addr) (y : V) (r : Option V) : Prop :=
  (∃ kvs k, Rd H a (.dK kvs) /\ y = kV k /\ r = valV kvs k) \/ ∃ kvs k b, Rd H a (.dT kvs) /\ y = .ref b /\ H b = some (.tup (k.map kV)) /\ r = valV kvs k
theorem DGet.k {H : Hp} {a : Addr} {kvs : List (Key × V)} {k : Key} (e : H a = some (.dK kvs)) : DGet H a (kV k) (valV kvs k) := .inl ⟨kvs, k, .inl e, rfl, rfl⟩
section
variable {X : Cx} {pins : List (Addr × Obj)} {σ : St} {H : Hp} {s : Shared} {a : Addr} {y v : V} {u r : Value} {o : Option V} {A : Around} {E : Value -> Shared -> Prop}
theorem Inv.big (I : Inv X pins σ H s) : sysModules < s.heap.objs.size := by
  have h : mainGlobals < s.heap.objs.size := (I.mod.glob.keeps I.bk).lt
  exact Nat.lt_trans (by decide) h
theorem d_write {h' : Heap} {t' : Nat} {ob : HO} (I : Inv X pins σ H s) (mu : Mut (H a)) (hs : Heap.SameBut a s.heap h') (he : ∃ q, h'.get? a = some q) (new : ObjOk X.prog X.w (upd H a ob) h' a ob) :
    Inv X pins σ (upd H a ob) { s with heap := h', toks := t' } :=
  I.write (x := a) (e := a) mu (.inl rfl) (fun b q hb z => (hs.2 b hb).trans z) he new
theorem dk_new {P : Program} {w : World} {H' : Hp} {h' : Heap} {kvs : List (Key × V)} {vs : List (Key × Value)} (z : kvs.length <= sizeLine) (hd : (a == sysModules) = false) (rel : KV kvs vs) (dd : h'.DictOf (Zq31 P w) a vs) :
    ObjOk P w H' h' a (.dK kvs) := ⟨z, hd, vs, rel, dd⟩
end
section
variable {X : Cx} {pins : List (Addr × Obj)} {σ : St} {H : Hp} {s : Shared} {a : Addr} {kvs : List (Key × V)} {k : Key} {u : Value} {A : Around} {E : Value -> Shared -> Prop}
end
section
variable {X : Cx} {o i e value : Expr} {pos pos' tpos : Pos} {td ty tv : TE}
end
theorem dk_empty {P : Program} {w : World} {H : Hp} (h : Heap) (hb : sysModules < h.objs.size) : ObjOk P w H (h.push { cls := .type "dict", data := .dict #[] }) h.objs.size (.dK []) :=
  ⟨Nat.zero_le _, beq_eq_false_iff_ne.mpr (Ne.symm (Nat.ne_of_lt hb)), [], .nil, Heap.DictOf.new h⟩
section
variable {X : Cx} {pos : Pos}
end
def tPairs : List (TE × TE) -> St -> Hp -> (List (V × V) -> Hp -> Prop) -> Prop
  | [], _, H, Q => Q [] H
  | (tk, tv) :: r, σ, H, Q => tk σ H fun x H1 => tv σ H1 fun y H2 => tPairs r σ H2 fun ps H3 => Q ((x, y) :: ps) H3
abbrev VV : List (V × V) -> List (Value × Value) -> Prop := Paired fun p q => RelV p.1 q.1 /\ RelV p.2 q.2
def PPs (X : Cx) (pos : Pos) (keys : List (Option Expr)) (values : List Expr) (trs : List (TE × TE)) : Prop :=
  ∀ (pins : List (Addr × Obj)) (s : Shared) (σ : St) (H : Hp) (Q : List (V × V) -> Hp -> Prop), Inv X pins σ H s -> tPairs trs σ H Q ->
    wpAny (model X.prog X.w) X.A (evalPairs (pairTrees keys values X.env pos)) (fun vs s' => ∃ ps H', Inv X pins σ H' s' /\ VV ps vs /\ Q ps H') X.xe s
theorem pps_nil {X : Cx} {pos : Pos} : PPs X pos [] [] [] := fun pins s σ H Q I h => pairTrees_nil_walk ⟨[], H, I, .nil, h⟩
theorem pps_cons {X : Cx} {pos : Pos} {k v : Expr} {ks : List (Option Expr)} {vs : List Expr} {tk tv : TE} {trs : List (TE × TE)} (hk : PE X k tk) (hv : PE X v tv) (hr : PPs X pos ks vs trs) :
    PPs X pos (some k :: ks) (v :: vs) ((tk, tv) :: trs) := fun pins s σ H Q I h =>
  pairTrees_cons_walk (thn (hk pins s σ H _ I h) fun u s1 ⟨x, H1, I1, rx, q1⟩ => thn (hv pins s1 σ H1 _ I1 q1) fun w2 s2 ⟨y, H2, I2, ry, q2⟩ =>
    thn (hr pins s2 σ H2 _ I2 q2) fun ws s3 ⟨ps, H3, I3, rel, q3⟩ => ⟨(x, y) :: ps, H3, I3, .cons ⟨rx, ry⟩ rel, q3⟩)
def Zq51 (kvs more : List (Key × V)) : List (Key × V) := more.foldl (fun acc kv => putK acc kv.1 kv.2) kvs
theorem KV.merge : ∀ {more : List (Key × V)} {rs : List (Key × Value)} {kvs : List (Key × V)} {vs : List (Key × Value)}, KV more rs -> KV kvs vs -> KV (Zq51 kvs more) (merged vs rs) := by
  intro more rs kvs vs r
  unfold KV at r
  induction r generalizing kvs vs with
  | nil => intro q; exact q
  | @cons p q ps qs h t ih =>
    intro r0
    have e : KV (putK kvs p.1 p.2) (stored vs q.1 q.2) := by
      have := r0.put p.1 h.2
      rw [← h.1]; exact this
    exact ih e
theorem length_mergeK : ∀ (more kvs : List (Key × V)), (Zq51 kvs more).length <= kvs.length + more.length
  | [], kvs => by show kvs.length <= kvs.length + 0; omega
  | p :: r, kvs => by
    have h1 := length_mergeK r (putK kvs p.1 p.2)
    have h2 := length_putK kvs p.1 p.2
    show (Zq51 (putK kvs p.1 p.2) r).length <= _
    rw [List.length_cons]; omega
theorem carries_of {P : Program} {w : World} : ∀ {kvs : List (Key × V)} {ws : List (Value × Value)}, VV (kvs.map fun kv => (kV kv.1, kv.2)) ws -> ∃ rs, Carries (Zq31 P w) ws rs /\ KV kvs rs
  | [], _, r => by rw [List.map_nil] at r; cases r; exact ⟨[], True.intro, .nil⟩
  | p :: kvs, _, r => by
    rw [List.map_cons] at r
    cases r with
    | @cons a b as bs h t =>
      obtain ⟨rs, c, q⟩ := carries_of (P := P) (w := w) t
      obtain ⟨b1, b2⟩ := b
      exact ⟨(p.1, b2) :: rs, ⟨kV_is h.1, rfl, c⟩, .cons ⟨rfl, h.2⟩ q⟩
def tDisp (trs : List (TE × TE)) : TE := fun σ H Q => ∀ p, H p = none -> tPairs trs σ (upd H p (.dK [])) fun ps H2 => H2 p = some (.dK []) /\ ∃ kvs : List (Key × V), ps = kvs.map (fun kv => (kV kv.1, kv.2)) /\ kvs.length <= 15 /\ Q (.ref p) (upd H2 p (.dK (Zq51 [] kvs)))
theorem pe_disp {X : Cx} {pos : Pos} {keys : List (Option Expr)} {values : List Expr} {trs : List (TE × TE)} (h : PPs X pos keys values trs) (hall : keys.all (·.isSome) = true) (hl : keys.length = values.length) (h0 : keys ≠ [])
    (h15 : keys.length <= 15) : PE X (.Dict keys values pos) (tDisp trs) := by
  intro pins s σ H Q I q
  have hn := I.hok.fresh (Nat.le_refl s.heap.objs.size)
  have I1 := I.laid (a := s.heap.objs.size) (o := .dK []) (h' := s.heap.push { cls := .type "dict", data := .dict #[] }) (t' := s.toks) (fun _ _ q => Heap.get?_push_of_some _ q) (Nat.le_refl _) (dk_empty s.heap I.big)
  refine wpAny_Dict_walk (knd := Zq31 X.prog X.w) hall hl h0 h15 (thn (h pins _ σ _ _ I1 (q _ hn)) fun ws s2 ⟨ps, H2, I2, rel, e, kvs, ep, lk, q2⟩ => ?_)
  subst ep
  obtain ⟨rs, c, rk⟩ := carries_of (P := X.prog) (w := X.w) rel
  obtain ⟨z, hd, vs0, r0, dd⟩ := dk_of I2.hok e
  cases r0
  refine ⟨rs, c, dd, fun h' dd' hs => ⟨.ref s.heap.objs.size, _, ?_, rfl, q2⟩⟩
  have hz : (Zq51 [] kvs).length <= sizeLine := by
    have h1 := length_mergeK kvs []
    rw [List.length_nil] at h1
    rw [sizeLine_eq]; omega
  have he : ∃ q, h'.get? s.heap.objs.size = some q := let ⟨q, _, _, hq, _⟩ := dd'; ⟨q, hq⟩
  exact d_write I2 (by rw [e]; exact True.intro) hs he (dk_new hz hd (rk.merge .nil) dd')
structure M1 (X : Cx) (o : Expr) (m : Str) (apos : Pos) (e : Expr) (cpos : Pos) : Prop where
  base : attributeBase o m X.env (eval o X.env) = eval o X.env
  few : ((backTo cpos (starEach [e] X.env)).all (fun x => !x.1) && (backToKw cpos (keywordEach [] X.env)).all (fun x => x.1.isSome)
    && decide (([e] : List Expr).length + ([] : List Keyword).length + (if ([] : List Keyword).isEmpty then 0 else 1) < 30)) = true
  line : (apos.endLine == cpos.line) = true
  trees : backTo cpos (starEach [e] X.env) = [(false, eval e X.env)]
structure M2 (X : Cx) (o : Expr) (m : Str) (apos : Pos) (e f : Expr) (cpos : Pos) : Prop where
  base : attributeBase o m X.env (eval o X.env) = eval o X.env
  few : ((backTo cpos (starEach [e, f] X.env)).all (fun x => !x.1) && (backToKw cpos (keywordEach [] X.env)).all (fun x => x.1.isSome)
    && decide (([e, f] : List Expr).length + ([] : List Keyword).length + (if ([] : List Keyword).isEmpty then 0 else 1) < 30)) = true
  line : (apos.endLine == cpos.line) = true
  trees : backTo cpos (starEach [e, f] X.env) = [(false, eval e X.env), (false, eval f X.env)]
def IsD (H : Hp) (a : Addr) : Prop := (∃ kvs, Rd H a (.dK kvs)) \/ ∃ kvs, Rd H a (.dT kvs)
theorem isD_at {X : Cx} {pins : List (Addr × Obj)} {σ : St} {H : Hp} {s : Shared} {a : Addr} (I : Inv X pins σ H s) (d : IsD H a) :
    s.TypeIs (.ref a) "dict" /\ (∀ b, Value.ref a = .ref b -> ∃ ob, s.heap.get? b = some ob /\ ob.dict = none) /\ (a == sysModules) = false := by
  rcases d with ⟨kvs, e⟩ | ⟨kvs, e⟩
  · obtain ⟨_, hd, vs, _, dd⟩ := dk_rd I.hok e
    refine ⟨dd.typeIs, fun b q => ?_, hd⟩
    cases q
    obtain ⟨ob, _, _, h1, h2, _⟩ := dd
    exact ⟨ob, h1, h2.2.1⟩
  · obtain ⟨_, hd, xs, _, dd⟩ := dt_rd I.hok e
    refine ⟨dd.typeIs, fun b q => ?_, hd⟩
    cases q
    obtain ⟨ob, _, _, h1, h2, _⟩ := dd
    exact ⟨ob, h1, h2.2.1⟩
section
variable {X : Cx} {pins : List (Addr × Obj)} {σ : St} {H : Hp} {s : Shared} {a : Addr} {y d : V} {u r : Value} {o : Option V} {A : Around} {E : Value -> Shared -> Prop}
theorem d_get2 {Q : Value -> Shared -> Prop} (hu : A.units + 1 < cLine) (I : Inv X pins σ H s) (g : DGet H a y o) (ry : RelV y u) (rd : RelV d r) (h : ∀ w' s', Inv X pins σ H s' -> RelV (o.getD d) w' -> Q w' s') :
    wpAny (model X.prog X.w) A (call (.builtin "dict.get") [.ref a, u, r]) Q E s := by
  rcases g with ⟨kvs, k, e, ey, l⟩ | ⟨kvs, k, b, e, ey, eb, l⟩
  · subst ey
    obtain ⟨z, hd, vs, rel, dd⟩ := dk_rd I.hok e
    refine call_meetsIn PySem.F.slot_dict_get dd.typeIs PySem.F.entry_dict_get (PySem.F.args_dict_get_3 _ _ _) (meets_dict_get_default (Zq31 X.prog X.w) a (kV_is ry) hd r) ⟨_, dd.mapOf, h _ _ (I.tok _) ?_⟩
    rw [l]
    exact (rel.val k).getD rd
  · subst ey
    cases (show u = Value.ref b from ry)
    obtain ⟨z, hd, xs, rel, dd⟩ := dt_rd I.hok e
    refine call_meetsIn PySem.F.slot_dict_get dd.typeIs PySem.F.entry_dict_get (PySem.F.args_dict_get_3 _ _ _) (meetsH_dict_get_default (tupleKind (Zq31 X.prog X.w)) a b hd r) ⟨tupleKind_room_in1 hu, k, xs, key_of I.hok eb, dd, h _ _ (I.tok _) ?_⟩
    rw [l]
    exact (rel.val k).getD rd
end
def tDGet2 (td ty tx : TE) : TE := fun σ H Q => td σ H fun x H1 => ∃ a, x = .ref a /\ IsD H1 a /\ ty σ H1 fun y H2 => tx σ H2 fun z H3 => ∃ o, DGet H3 a y o /\ Q (o.getD z) H3
section
variable {X : Cx} {o e f : Expr} {apos cpos : Pos} {td ty tx : TE}
theorem pe_dget2 (hu : X.A.units + 1 < cLine) (ho : PE X o td) (he : PE X e ty) (hf : PE X f tx) (m : M2 X o "get" apos e f cpos) : PE X (.Call (.Attribute o "get" apos) [e, f] [] cpos) (tDGet2 td ty tx) := by
  intro pins s σ H Q I h
  refine wpAny_Call_method m.base m.few m.line PySem.F.plainAttrs_dict PySem.F.slot_dict_get PySem.F.type_dict_get (thn (ho pins s σ H _ I h) fun u s1 ⟨x, H1, I1, rx, a, ex, d, q1⟩ => ?_)
  subst ex
  obtain rfl : u = Value.ref a := rx
  obtain ⟨t1, t2, _⟩ := isD_at I1 d
  refine ⟨t1, t2, ?_⟩
  rw [m.trees]
  refine Calls.callWith_builtin rfl (Calls.evalArgs_plain (Calls.spliced_cons (thn (he pins s1 σ H1 _ I1 q1) fun iv s2 ⟨y, H2, I2, ry, q2⟩ =>
    Calls.spliced_cons (thn (hf pins s2 σ H2 _ I2 q2) fun fv s3 ⟨z, H3, I3, rz, ov, g, q3⟩ => Calls.spliced_nil ?_))))
  exact d_get2 hu I3 g ry rz fun w' s4 I4 rw' => ⟨_, H3, I4, rw', q3⟩
end
section
variable {X : Cx} {pins : List (Addr × Obj)} {σ : St} {H : Hp} {s : Shared} {a : Addr} {kvs : List (Key × V)} {A : Around} {E : Value -> Shared -> Prop}
end
section
variable {X : Cx} {pins : List (Addr × Obj)} {σ : St} {H : Hp} {s : Shared} {a : Addr} {y : V} {u : Value} {A : Around} {E : Value -> Shared -> Prop}
end
end L2
namespace Att
open PySem PySem.W PySem.Calls PyProof.Rows
theorem ints_of_wellAll {P : Params} {h : Heap} : ∀ (ns : List Int) (vs : List Value), WellAll P h vs (ns.map WData.int) -> IntsAre vs ns := by
  intro ns
  induction ns with
  | nil =>
    intro vs w
    rw [List.map_nil] at w
    cases w
    exact .nil
  | cons n ns ih =>
    intro vs w
    rw [List.map_cons] at w
    cases w with
    | cons a b =>
      cases a
      exact .cons _ _ (ih _ b)
theorem script_of {l : OpenLaw} {n : Nat} (hn : l.most = some n) {P : Params} {h : Heap} {args : List WData} {vals : List Value}
    (hpre : l.row.toRowW.claim.pre args = true) (hwl : WellAll P h vals args) :
    ∃ a vs ns, vals = [Value.ref a] /\ args = [WData.list (ns.map WData.int)] /\ h.get? a = some { cls := .type "list", data := .seq vs.toArray } /\ IntsAre vs ns /\ ns.length <= n := by
  have hsh : WShape.hasAll [] args [.list .int] = true := (pre_splitW hpre).1
  have hc : l.pre.holds [] { args := args } = true := (pre_splitW hpre).2
  obtain ⟨d, r, rfl, h1, h2⟩ := hasAllW_cons hsh
  obtain rfl := hasAllW_nil h2
  obtain ⟨xs, rfl, h3⟩ := hasW_list h1
  obtain ⟨ns, rfl⟩ := items_int h3
  have hlen : ns.length <= n := by
    unfold OpenLaw.pre at hc
    have h4 : (WTm.not (.lt (.lit (.int (n : Int))) (.len (.arg 0)))).holds [] { args := [.list (ns.map .int)] } = true := by
      have h4 := (holds_andW hc).1
      rw [hn] at h4
      exact h4
    have h5 := condW_of h4 (w_not (w_lt w_lit (w_len_list (w_arg rfl))))
    rw [List.length_map] at h5
    refine Nat.le_of_not_lt fun q => ?_
    have q' : (n : Int) < ((ns.length : Nat) : Int) := by omega
    first
      | (rw [decide_eq_true q'] at h5; exact absurd h5 (by decide))
      | (simp at h5; omega)
  cases hwl with
  | cons w1 w2 =>
    cases w2
    cases w1 with
    | list ho hall => exact ⟨_, _, ns, rfl, rfl, ho, ints_of_wellAll ns _ hall, hlen⟩
theorem post_true (l : OpenLaw) (args : List WData) : l.row.toRowW.claim.post args (.bool true) args = true :=
  postW_of (r := l.row.toRowW) (X := (true == true))
    (show WShape.has [] (.bool true) .bool = true by first | rfl | decide | simp [WShape.has, WShape.arms, WShape.armsAll])
    (show (WTm.eq .res (.lit (.bool true))).value [] { args := args, res := some (.bool true), after := args } = some (.bool (true == true)) from w_eq_bool (w_res rfl) w_lit) rfl
theorem attach_call {l : OpenLaw} {n : Nat} {q : Program} {loose : List Str} {XP : (Str -> Option Value) -> Heap -> Prop} {YP : World -> Heap -> Prop} {d : DefRec}
    (hn : l.most = some n) (hdf : d.params.defaults = [])
    (call : ∀ (w : World) (s₀ s₁ : Shared) (mg mb : Str -> Option Value) (fa : Addr) (o : Obj) (pm cd doc : Value) (a : Addr) (vs : List Value) (ns : List Int),
      Ground q loose [] XP w s₀ mg mb s₁.heap -> YP w s₁.heap ->
      s₁.heap.get? fa = some o -> o.data = .func (docDef d.name d.params d.body d.scope pm cd doc) -> s₁.heap.CodeRec cd d.name -> mg d.name = some (.ref fa) ->
      s₁.heap.get? a = some { cls := .type "list", data := .seq vs.toArray } -> IntsAre vs ns -> ns.length <= n -> s₁.gens = #[] ->
      codeAny (model l.prog w) callerA (.call (.ref fa) ⟨[.ref a], []⟩) (fun r s' => r = .ok (.ret (.bool true)) /\ OldK s₁.heap s'.heap /\ s'.os = s₁.os /\ AllBare s'.gens) s₁) :
    WalkO q loose XP YP l.row.toRowW d [] (fun f vs => PySem.call f vs) := by
  intro w s₀ s₁ mg mb G Y fa o pm cd doc dV kV ho hd hcd hD hmg hg args vals as hpre hlay hrd hwl hlo
  obtain rfl : dV = .none := Dflts.none hD hdf
  obtain rfl : kV = .none := Dflts.noKw hD
  obtain ⟨a, vs, ns, rfl, rfl, hobj, hints, hlen⟩ := script_of hn hpre hwl
  refine enter_call (codeAny_mono (call w s₀ s₁ mg mb fa o pm cd doc a vs ns G Y ho (fd_plain hd) hcd hmg hobj hints hlen hg) fun r s' hq => ?_)
  obtain ⟨rfl, h2, h3, h4⟩ := hq
  exact ⟨.inl ⟨.bool true, .bool true, [], rfl, fun _ => rfl, .bool true, post_true l _, fun _ => ⟨List.Pairwise.nil, fun _ hm => (nomatch hm)⟩⟩, h2, h3, h4⟩
section
variable {prog : Program} {w : World} {A : Around} {E : Value -> Shared -> Prop} {s : Shared} {K : Frag}
end
end Att
namespace L2
open PySem PySem.Spec PyProof.Rows
theorem vals_ints : ∀ {vs : List Value} {ns : List Int}, IntsAre vs ns -> Vals (ns.map V.int) vs
  | _, _, .nil => .nil
  | _, _, .cons n t h => .cons ⟨t, rfl⟩ (vals_ints h)
def Only (H : Hp) : Prop := ∀ b, H b = none \/ ∃ o xs, H b = some (.frz o (.lst xs))
theorem law_call {P : Program} {w : World} {K : PySem.W.Frag} {mg mb : Str -> Option Value} {CX : CXT} {k : Nat} {fa a : Addr} {fd : FuncData} {x : Str} {sp : Sp} {s₁ : Shared} {vs : List Value} {ns : List Int}
    (KX : K.In s₁.heap) (hns : s₁.heap.Ns mainGlobals mg) (hb : s₁.heap.Ns builtinsNs mb) (hbb : ∀ x : Str, x ≠ "__name__" -> mb x = bootBuiltins x) (hlim : s₁.heap.NoLimit) (hg : s₁.gens = #[])
    (ha : s₁.heap.get? a = some { cls := .type "list", data := .seq vs.toArray }) (hi : IntsAre vs ns) (hl : ns.length <= sizeLine) (hr : Room k callerA)
    (F : ∀ base : Heap, K.In base -> base.Ns mainGlobals mg -> FnOk P w K mg base CX k fa fd [x] sp) (hbind : ∀ (s : Shared) (u : Value), BindsTo s fd ⟨[u], []⟩ [(x, u)])
    (hsp : ∀ H : Hp, Only H -> SqL K H a (ns.map V.int) -> sp [.ref a] H (fun v _ => v = .bl true) fun _ _ _ => False)
    (hCX : ∀ H e s', CX [] H s₁ (fun _ _ _ => False) e s' -> False) :
    codeAny (model P w) callerA (.call (.ref fa) ⟨[.ref a], []⟩) (fun r s' => r = .ok (.ret (.bool true)) /\ OldK s₁.heap s'.heap /\ s'.os = s₁.os /\ AllBare s'.gens) s₁ := by
  have rv := vals_ints hi
  have lenV := hi.length
  have core : ∀ H : Hp, Only H -> SqL K H a (ns.map V.int) -> HOk P w H s₁.heap -> (∀ b, H b ≠ none -> b = a) -> (H a ≠ none -> K.lookup a = none) ->
      codeAny (model P w) callerA (.call (.ref fa) ⟨[.ref a], []⟩) (fun r s' => r = .ok (.ret (.bool true)) /\ OldK s₁.heap s'.heap /\ s'.os = s₁.os /\ AllBare s'.gens) s₁ := by
    intro H hO hS hok hA hK
    have base_of : ∀ {b : Addr} {o : Obj}, s₁.heap.get? b = some o -> H b = none -> (hidT s₁.heap H).get? b = some o := fun e n => hidT_get e n
    have noA : ∀ {b : Addr} {o : Obj} {es : Array DictEntry} {ep : Nat}, s₁.heap.get? b = some o -> o.data = .dict es ep -> H b = none := fun {b o es ep} e d => by
      cases q : H b with
      | none => rfl
      | some u =>
        have e' : b = a := hA b (by rw [q]; simp)
        subst e'
        rw [ha] at e; cases e
        have d' : Data.seq vs.toArray _ = Data.dict es ep := d
        cases d'
    have nsK : ∀ {b : Addr} {m : Str -> Option Value}, s₁.heap.Ns b m -> (hidT s₁.heap H).Ns b m := fun {b m} ⟨o, es, ep, e, d, r⟩ => ⟨o, es, ep, base_of e (noA e d), d, r⟩
    have hKb : K.In (hidT s₁.heap H) := fun b o e => base_of (KX b o e) (by
      cases q : H b with
      | none => rfl
      | some u =>
        have e' : b = a := hA b (by rw [q]; simp)
        subst e'
        rw [hK (by rw [q]; simp)] at e; cases e)
    have hM : Mod K mg (hidT s₁.heap H) := ⟨hKb, nsK hns, ⟨mb, nsK hb, hbb⟩, let ⟨mc, h1, h2⟩ := hlim; ⟨mc, nsK h1, h2⟩⟩
    have e0 : Env0 P w K mg (hidT s₁.heap H) callerA [] s₁ H := ⟨rfl, hM, fun b o e => of_hidT e, Nat.le_of_eq (hidT_size _ _), trivial, fun b hb => absurd (show b ∈ ([] : List Addr) from hb) (by simp), hok, .of_eq hg⟩
    refine codeAny_mono ((F _ hKb (nsK hns)).run callerA [] s₁ H ⟨[.ref a], []⟩ [.ref a] [.ref a] _ _ hr e0 (hbind s₁ (.ref a)) (.cons rfl .nil) (hsp H hO hS)) fun r s' h => ?_
    cases r with
    | error e => exact (hCX H e s' h).elim
    | ok fl =>
      cases fl with
      | next => exact False.elim h
      | brk => exact False.elim h
      | cont => exact False.elim h
      | ret u =>
        obtain ⟨v, H', os, bare, un, hok', r', q⟩ := h
        have q' : v = .bl true := q
        subst q'
        obtain rfl : u = Value.bool true := r'
        refine ⟨rfl, OldK.of_keep fun b o e => ?_, os, bare⟩
        cases q : H b with
        | none => exact un.keep b o e q (by intro z; exact absurd (show b ∈ ([] : List Addr) from z) (by simp)) (by simp)
        | some u =>
          rcases hO b with z | ⟨ob, xs, z⟩
          · rw [q] at z; cases z
          · have z2 := un.frzs b ob _ z
            obtain ⟨e1, _⟩ := hok b _ z
            obtain ⟨e2, _⟩ := hok' b _ z2
            rw [e] at e1; cases e1
            exact e2
  cases hk : K.lookup a with
  | some o =>
    have e := KX a o hk
    rw [ha] at e
    cases e
    refine core (fun _ => none) (fun _ => .inl rfl) (.inr ⟨_, vs.toArray, _, hk, rfl, rfl, rfl, by rw [List.size_toArray, lenV]; exact hl, by simpa using rv⟩) (fun b u z => by have z' : (none : Option HO) = some u := z; cases z') (fun b z => absurd rfl z) fun z => absurd rfl z
  | none =>
    refine core (fun b => if b = a then some (.frz { cls := .type "list", data := .seq vs.toArray } (.lst (ns.map V.int))) else none) (fun b => ?_) (.inl (.inr ⟨{ cls := .type "list", data := .seq vs.toArray }, if_pos rfl⟩)) (fun b u z => ?_) (fun b z => ?_) fun _ => hk
    · by_cases hb : b = a
      · exact .inr ⟨_, _, if_pos hb⟩
      · exact .inl (if_neg hb)
    · by_cases hb : b = a
      · have z' := (if_pos hb).symm.trans z
        cases z'
        subst hb
        exact ⟨ha, by rw [List.length_map]; exact hl, vs, _, rv, ha⟩
      · have z' := (if_neg hb).symm.trans z
        cases z'
    · by_cases hb : b = a
      · exact hb
      · exact absurd (if_neg hb) z
end L2
namespace L2
open PySem PySem.Spec PyProof.Rows
theorem walk_of {l : PySem.W.OpenLaw} {n k : Nat} {q : Program} {loose : List Str} {XP : (Str -> Option Value) -> Heap -> Prop} {YP : World -> Heap -> Prop} {d : DefRec} {K : Params -> PySem.W.Frag} {CX : World -> CXT} {sp : World -> Sp} {x : Str}
    (hn : l.most = some n) (hn2 : n <= sizeLine) (hdf : d.params.defaults = []) (hr : Room k callerA)
    (hY : ∀ (w : World) (h : Heap), YP w h -> (K w.params).In h)
    (F : ∀ (w : World) (mg : Str -> Option Value) (fa : Addr) (h : Heap), (K w.params).In h -> h.Ns mainGlobals mg -> mg d.name = some (.ref fa) ->
      ∃ fd : FuncData, (∀ (s : Shared) (u : Value), BindsTo s fd ⟨[u], []⟩ [(x, u)]) /\
        ∀ base : Heap, (K w.params).In base -> base.Ns mainGlobals mg -> FnOk l.prog w (K w.params) mg base (CX w) k fa fd [x] (sp w))
    (hsp : ∀ (w : World) (H : Hp) (a : Addr) (ns : List Int), ns.length <= n -> Only H -> SqL (K w.params) H a (ns.map V.int) -> sp w [.ref a] H (fun v _ => v = .bl true) fun _ _ _ => False)
    (hCX : ∀ (w : World) (H : Hp) (s : Shared) (e : Value) (s' : Shared), CX w [] H s (fun _ _ _ => False) e s' -> False) :
    PySem.W.WalkO q loose XP YP l.row.toRowW d [] (fun f vs => PySem.call f vs) := by
  refine Att.attach_call hn hdf fun w s₀ s₁ mg mb fa o pm cd doc a vs ns G Y ho hd hcd hmg hobj hints hlen hg => ?_
  have KX := hY w _ Y
  obtain ⟨fd, hb, hF⟩ := F w mg fa _ KX G.T.g hmg
  exact law_call KX G.T.g G.T.b G.T.builtins G.T.nolimit hg hobj hints (Nat.le_trans hlen hn2) hr hF hb (fun H hO hS => hsp w H a ns hlen hO hS) fun H e s' => hCX w H s₁ e s'
end L2
/- THE LAST THEOREM (shape; LID, My.* are yours):
   My.Adr: a structure of the addresses that your layer names (classes, functions); My.Txt K t: a structure (Prop) of the equations over K;
   My.txt_mk : {K} {implicit addresses ..} (e1 : nsIn K mainGlobals "law" = some (some (.ref f))) (e2 : K.lookup f = some ⟨oc, od, .func (fnOf "law" "law" params body scope dV kV doc pm an cdv ct), sl⟩) (e3 : codeIn K cdv "law" = true) .. : ∃ t, My.Txt K t
set_option maxRecDepth 100000 in
set_option maxHeartbeats 0 in
theorem PySem.Challenge.cw_LID_holds : PySem.Challenge.rw_LID.Holds := by
  w_on; o_law; k_head; (case hw => w_witness2)
  k_fill
  refine L2.walk_of (l := PySem.Challenge.rw_LID) (n := 63) (k := 40) (x := "script") (CX := fun w => ..) (sp := fun _ => My.sp_law) rfl (by decide) rfl ⟨rfl, by decide, by decide⟩ (fun w h Y => PySem.W.kIn_of Y) ?F ?S ?C
  case F =>
    intro w mg fa h KX G hmg
    have T : ∃ t, My.Txt (L2.KOf KX) t := by
      dsimp only [L2.KOf]                          -- K must stand as «<heap const> w.params» for k_is
      refine' My.txt_mk ?e1 ?e2 ?e3 ..
      (case e1 => PySem.W.k_is)                    -- in the order: a name -> its address -> its object -> its parts
      (case e2 => PySem.W.k_is)
      ..
    obtain ⟨t, T⟩ := T
    have e0 := hmg.symm.trans (PySem.W.mg_of KX G T.law)
    cases e0                                       -- fa is the law's own address
    exact ⟨_, fun s u => .of_eq rfl, fun base kb nb => My.law_fn T kb nb⟩     -- if «.of_eq rfl» comes too early: refine' ⟨_, ?b, fun base kb nb => My.law_fn T kb nb⟩; exact fun s u => .of_eq rfl
  case S => exact fun w H a ns hl hO hS => ..
  case C => exact ..
(the tactic k_is has no namespace: write k_is) -/
namespace L2
open PySem PySem.Spec PyProof.Rows
def Zq90 (s : Stmt) : Arguments := match s with
  | .FunctionDef _ a _ _ _ _ _ _ _ _ => a
  | _ => { posonlyargs := [], args := [], vararg := none, kwonlyargs := [], kw_defaults := [], kwarg := none, defaults := [] }
def Zq54 (s : Stmt) : List Stmt := match s with
  | .FunctionDef _ _ b _ _ _ _ _ _ _ => b
  | _ => []
def Zq0 (s : Stmt) : Scope := match s with
  | .FunctionDef _ _ _ _ _ _ sc _ _ _ => sc
  | _ => { kind := .function, names := [], isGenerator := false, isCoroutine := false }
abbrev CX0 : CXT := fun _ _ _ _ _ _ => False
abbrev E0 : XK := fun _ _ _ => False
theorem pass0 {X : Cx} : Passes CX0 X E0 := fun _ _ _ _ _ _ _ h => h.elim
structure Fun (K : PySem.W.Frag) (x qual : Str) (st : Stmt) (f : Addr) (fd : FuncData) : Prop where
  ex : ∃ (oc : Value) (od : Option Addr) (kV doc pm : Value) (an : Option Addr) (cdv ct : Value) (osl : Array (Option Value)),
    fd = PySem.W.fnOf x qual (Zq90 st) (Zq54 st) (Zq0 st) .none kV doc pm an cdv ct /\ K.lookup f = some ⟨oc, od, .func fd, osl⟩ /\ PySem.W.codeIn K cdv qual = true
  kp : PySem.W.keepIn K (.ref f) = true
section
variable {P : Program} {w : World} {K : PySem.W.Frag} {mg : Str -> Option Value} {base : Heap}
theorem Fun.ok {x qual : Str} {st : Stmt} {f : Addr} {fd : FuncData} {N ps : List Str} {k : Nat} {sp : Sp} (F : Fun K x qual st f fd) (S : FnScope N ps (Zq0 st)) (len : ∀ vs H Q E, sp vs H Q E -> vs.length = ps.length)
    (hbody : ∀ (cdv : Value) (A : Around) (outer : List Env) (s : Shared) (H : Hp) (vs : List V) (Q : VK) (E : XK), Room k (A.deeper (envOfC qual (Zq0 st) s.heap.objs.size f cdv)) -> sp vs H Q E ->
      ∃ t, PSs (cxOf CX0 P w K mg base N qual (Zq0 st) f cdv A outer s H E).nox (Zq54 st) t /\ t { nx := fun _ H' => Q .non H', rt := Q } (Zq92 N vs) H) : FnOk P w K mg base CX0 (k + 1) f fd ps sp := by
  obtain ⟨oc, od, kV, doc, pm, an, cdv, ct, osl, rfl, lk, hcd⟩ := F.ex
  refine fn_of lk hcd S len fun A outer s H vs Q E hr hsp => ?_
  obtain ⟨t, h, q⟩ := hbody cdv A outer s H vs Q E hr hsp
  exact ⟨t, h.nox, q⟩
theorem Fun.binds {x qual : Str} {st : Stmt} {f : Addr} {fd : FuncData} {ps : List Str} (F : Fun K x qual st f fd)
    (h : ∀ (kV doc pm : Value) (an : Option Addr) (cdv ct : Value) (us : List Value), us.length = ps.length -> bindArgs (PySem.W.fnOf x qual (Zq90 st) (Zq54 st) (Zq0 st) .none kV doc pm an cdv ct) ⟨us, []⟩ = pure (ps.zip us)) : Binds K fd ps [] := by
  obtain ⟨oc, od, kV, doc, pm, an, cdv, ct, osl, rfl, lk, hcd⟩ := F.ex
  exact .all (h kV doc pm an cdv ct)
theorem fun_mk {x qual : Str} {st : Stmt} {f : Addr} {oc : Value} {od an : Option Addr} {osl : Array (Option Value)} {kV doc pm cdv ct : Value} (l : K.lookup f = some ⟨oc, od, .func (PySem.W.fnOf x qual (Zq90 st) (Zq54 st) (Zq0 st) .none kV doc pm an cdv ct), osl⟩)
    (c : PySem.W.codeIn K cdv qual = true) (k : PySem.W.keepIn K (.ref f) = true) : Fun K x qual st f (PySem.W.fnOf x qual (Zq90 st) (Zq54 st) (Zq0 st) .none kV doc pm an cdv ct) := ⟨⟨oc, od, kV, doc, pm, an, cdv, ct, osl, rfl, l, c⟩, k⟩
end
section
variable {X : Cx}
end
theorem iteF {A B : Prop} (h : B) : if false = true then A else B := by
  rw [if_neg Bool.false_ne_true]
  exact h
theorem iteT {A B : Prop} (h : A) : if true = true then A else B := by
  rw [if_pos rfl]
  exact h
def Same (H H' : Hp) : Prop := ∀ b o, H b = some o -> H' b = some o
theorem Same.refl (H : Hp) : Same H H := fun _ _ h => h
theorem Same.trans {H H1 H2 : Hp} (a : Same H H1) (b : Same H1 H2) : Same H H2 := fun c o h => b c o (a c o h)
theorem Same.free {H H' : Hp} (e : Same H H') {l : Addr} (h : H' l = Option.none) : H l = Option.none := by
  cases q : H l with
  | none => rfl
  | some o =>
    rw [e l o q] at h
    cases h
end L2
namespace L2
open PySem PySem.Spec PyProof.Rows
section
variable {X : Cx}
end
section
variable {κ : Type} [DecidableEq κ]
theorem nd_snoc : ∀ {l : List κ} {k : κ}, l.Nodup -> ¬ k ∈ l -> (l ++ [k]).Nodup
  | [], k, _, _ => by simp
  | a :: r, k, h, hk => by
    obtain ⟨h1, h2⟩ := List.nodup_cons.mp h
    show (a :: (r ++ [k])).Nodup
    refine List.nodup_cons.mpr ⟨fun m => ?_, nd_snoc h2 fun m => hk (List.mem_cons.mpr (Or.inr m))⟩
    rcases List.mem_append.mp m with q | q
    · exact h1 q
    · exact hk (List.mem_cons.mpr (Or.inl (List.mem_singleton.mp q).symm))
end
end L2
end
section
set_option Elab.async false
set_option linter.all false
set_option maxRecDepth 100000
set_option maxHeartbeats 4000000
namespace L2
open PySem PySem.Spec PyProof.Rows
abbrev ccx (X : Cx) (scope : Scope) (cl : List (Str × Addr)) (C : Addr) (N' : List Str) (s2 : Shared) (H2 : Hp) (ex : List Addr) (pn : List (Addr × Obj)) : Cx where
  prog := X.prog
  w := X.w
  K := X.K
  mg := X.mg
  base := X.base
  A := X.A
  N := N'
  s₀ := s2
  H₀ := H2
  env := compEnvC scope cl C X.env
  outer := X.stack
  stack := X.stack
  ex := ex
  fn := fun _ => false
  calm := X.calm
  pn := pn
  xe := fun _ _ => False
theorem closure_go (env : Env) : ∀ (l : List (Str × NameKind)) (cs : List (Str × Addr)), (∀ p ∈ l, p.2 = .free -> ∃ c, env.cells.lookup p.1 = some c) ->
    ∃ cl, (forIn l cs (fun (x : Str × NameKind) (r : List (Str × Addr)) => if (x.2 == NameKind.free) = true then (do let a ← cellOf env x.1; pure (ForInStep.yield ((x.1, a) :: r)) : Sem (ForInStep (List (Str × Addr)))) else pure (ForInStep.yield r)) : Sem _) = pure cl /\
      (∀ x c, cl.lookup x = some c -> env.cells.lookup x = some c \/ cs.lookup x = some c) /\ (∀ x, ((x, NameKind.free) ∈ l \/ ∃ c, cs.lookup x = some c) -> ∃ c, cl.lookup x = some c)
  | [], cs, _ => ⟨cs, rfl, fun x c h => .inr h, fun x h => h.elim (fun z => nomatch z) id⟩
  | (n, k) :: r, cs, h => by
    have hr : ∀ p ∈ r, p.2 = .free -> ∃ c, env.cells.lookup p.1 = some c := fun p hp => h p (List.mem_cons_of_mem _ hp)
    by_cases hk : k = .free
    · subst hk
      obtain ⟨c, hc⟩ := h (n, .free) List.mem_cons_self rfl
      obtain ⟨cl, e, h1, h2⟩ := closure_go env r ((n, c) :: cs) hr
      refine ⟨cl, ?_, fun x d hx => ?_, fun x hx => ?_⟩
      · rw [List.forIn_cons]
        have e2 : cellOf env n = pure c := by unfold cellOf; rw [hc]
        simp only [beq_self_eq_true, if_true, e2, pure_bind]
        exact e
      · rcases h1 x d hx with z | z
        · exact .inl z
        · rw [List.lookup_cons] at z
          cases q : x == n with
          | true =>
            rw [q] at z
            cases z
            have : x = n := by simpa using q
            subst this
            exact .inl hc
          | false =>
            rw [q] at z
            exact .inr z
      · apply h2
        rcases hx with hx | ⟨d, hx⟩
        · rcases List.mem_cons.mp hx with z | z
          · cases z
            exact .inr ⟨c, by rw [List.lookup_cons]; simp⟩
          · exact .inl z
        · right
          rw [List.lookup_cons]
          cases q : x == n with
          | true => exact ⟨c, rfl⟩
          | false => exact ⟨d, hx⟩
    · obtain ⟨cl, e, h1, h2⟩ := closure_go env r cs hr
      refine ⟨cl, ?_, h1, fun x hx => h2 x ?_⟩
      · rw [List.forIn_cons]
        have e2 : (k == NameKind.free) = false := by simpa using hk
        simp only [e2, Bool.false_eq_true, if_false, pure_bind]
        exact e
      · rcases hx with hx | hx
        · rcases List.mem_cons.mp hx with z | z
          · cases z
            exact absurd rfl hk
          · exact .inl z
        · exact .inr hx
theorem closure_of {scope : Scope} {env : Env} (h : ∀ p ∈ scope.names, p.2 = .free -> ∃ c, env.cells.lookup p.1 = some c) :
    ∃ cl, closureFor scope env = pure cl /\ (∀ x c, cl.lookup x = some c -> env.cells.lookup x = some c) /\ (∀ x, (x, NameKind.free) ∈ scope.names -> ∃ c, cl.lookup x = some c) := by
  obtain ⟨cl, e, h1, h2⟩ := closure_go env scope.names [] h
  refine ⟨cl, ?_, fun x c hx => (h1 x c hx).elim id (fun z => nomatch z), fun x hx => h2 x (.inl hx)⟩
  unfold closureFor
  have e' := congrArg (fun m : Sem (List (Str × Addr)) => m >>= fun r => pure r) e
  simp only [pure_bind] at e'
  exact e'
theorem lookup_relabel {env : Env} {kk : NameKind} (hkk : kk ≠ .free) : ∀ {names : List (Str × NameKind)} {x : Str}, names.lookup x = some kk ->
    (names.map fun (n, k) => if (k == NameKind.free && env.scope.kind == .function && env.kindOf n == some .cell) then (n, NameKind.cell) else (n, k)).lookup x = some kk
  | [], _, h => by simp at h
  | (n, k) :: r, x, h => by
    have ih := @lookup_relabel env kk hkk r x
    show List.lookup x ((if (k == NameKind.free && env.scope.kind == .function && env.kindOf n == some .cell) = true then (n, NameKind.cell) else (n, k)) :: _) = _
    cases hx : x == n with
    | true =>
      simp only [List.lookup_cons, hx] at h
      have h : some k = some kk := h
      have h' : k = kk := Option.some.inj h
      subst h'
      have e : (k == NameKind.free) = false := by simpa using hkk
      rw [e, Bool.false_and, Bool.false_and, if_neg Bool.false_ne_true, List.lookup_cons, hx]
    | false =>
      simp only [List.lookup_cons, hx] at h
      by_cases hc : (k == NameKind.free && env.scope.kind == .function && env.kindOf n == some .cell) = true
      · rw [if_pos hc]; simp only [List.lookup_cons, hx]; exact ih h
      · rw [if_neg hc]; simp only [List.lookup_cons, hx]; exact ih h
theorem lookup_relabel_free {env : Env} : ∀ {names : List (Str × NameKind)} {x : Str}, names.lookup x = some .free ->
    ((names.map fun (n, k) => if (k == NameKind.free && env.scope.kind == .function && env.kindOf n == some .cell) then (n, NameKind.cell) else (n, k)).lookup x = some .cell) \/
    ((names.map fun (n, k) => if (k == NameKind.free && env.scope.kind == .function && env.kindOf n == some .cell) then (n, NameKind.cell) else (n, k)).lookup x = some .free)
  | [], _, h => by simp at h
  | (n, k) :: r, x, h => by
    have ih := @lookup_relabel_free env r x
    show (List.lookup x ((if (k == NameKind.free && env.scope.kind == .function && env.kindOf n == some .cell) = true then (n, NameKind.cell) else (n, k)) :: _) = _) \/ (List.lookup x ((if (k == NameKind.free && env.scope.kind == .function && env.kindOf n == some .cell) = true then (n, NameKind.cell) else (n, k)) :: _) = _)
    cases hx : x == n with
    | true =>
      simp only [List.lookup_cons, hx] at h
      cases h
      by_cases hc : (NameKind.free == NameKind.free && env.scope.kind == .function && env.kindOf n == some .cell) = true
      · rw [if_pos hc]; simp [List.lookup_cons, hx]
      · rw [if_neg hc]; simp [List.lookup_cons, hx]
    | false =>
      simp only [List.lookup_cons, hx] at h
      by_cases hc : (k == NameKind.free && env.scope.kind == .function && env.kindOf n == some .cell) = true
      · rw [if_pos hc]; simp only [List.lookup_cons, hx]; exact ih h
      · rw [if_neg hc]; simp only [List.lookup_cons, hx]; exact ih h
theorem relabel_mem {env : Env} {scope : Scope} {x : Str} (hcell : ∀ y ∈ scope.names, y.2 ≠ .cell) (h : (relabel scope env).names.lookup x = some .cell \/ (relabel scope env).names.lookup x = some .free) : (x, NameKind.free) ∈ scope.names := by
  have m : ∃ k', (k' = NameKind.cell \/ k' = NameKind.free) /\ (x, k') ∈ (relabel scope env).names := by
    rcases h with h | h
    · exact ⟨_, .inl rfl, PySem.mem_of_lookup h⟩
    · exact ⟨_, .inr rfl, PySem.mem_of_lookup h⟩
  obtain ⟨k', hk, m⟩ := m
  obtain ⟨⟨n, k⟩, hm, e⟩ := List.mem_map.mp m
  have e : (if (k == NameKind.free && env.scope.kind == .function && env.kindOf n == some .cell) = true then (n, NameKind.cell) else (n, k)) = (x, k') := e
  by_cases hc : (k == NameKind.free && env.scope.kind == .function && env.kindOf n == some .cell) = true
  · rw [if_pos hc] at e
    cases e
    have : k = .free := by
      cases k <;> simp at hc ⊢
    rw [← this]; exact hm
  · rw [if_neg hc] at e
    cases e
    rcases hk with z | z
    · exact absurd z (hcell _ hm)
    · rw [← z]; exact hm
section
variable {prog : Program} {w : World} {A : Around} {E : Value -> Shared -> Prop} {R : Result -> Shared -> Prop} {s : Shared}
theorem codeAny_compLoop_go {elt target iter : Expr} {ifs : List Expr} {scope : Scope} {pos : Pos} {it acc : Value} {env : Env} (I : Nat -> Shared -> Prop)
    (turn : ∀ n s, I n s -> wpAny (model prog w) A (pyNext it) (fun r s₁ => match r with
      | none => R (.ok .next) s₁
      | some v => wpAny (model prog w) A (letOwnedTupleGo target it v) (fun _ s1 => wpAny (model prog w) A (assign target env v) (fun _ s₂ =>
          wpAny (model prog w) A (forIn ifs true fun c r => if r = true then do let ok ← isTrue c env (eval c env); pure (ForInStep.yield ok) else pure (ForInStep.yield r)) (fun ok s₃ =>
            if ok = true then wpAny (model prog w) A (eval elt env) (fun x s₄ =>
              wpAny (model prog w) A (call (.builtin "list.append") [acc, x]) (fun _ s₅ => ∃ m, m < n /\ I m s₅) (fun _ _ => False) s₄) (fun _ _ => False) s₃
            else ∃ m, m < n /\ I m s₃) (fun _ _ => False) s₂) (fun _ _ => False) s1) (fun _ _ => False) s₁) (fun _ _ => False) s)
    (n : Nat) (h : I n s) :
    codeAny (model prog w) A (.compLoop (.ListComp elt [⟨target, iter, ifs, 0⟩] scope pos) 0 it acc env) R s := by
  refine codeAny_loop rfl I (fun n s hI => ?_) n h
  show wpAny _ A ((compTurn (.ListComp elt [⟨target, iter, ifs, 0⟩] scope pos) 0 it acc env).onRaise (fun x => do noteFrame x env; theTreesLotGoes x)) _ _ s
  refine wpAny_noted ?_
  rw [compTurn_list]
  refine wpAny_bind (wpAny_standAt (wpAny_bind (wpAny_mono (turn n s hI) (fun r s₁ h₁ => ?_) fun _ _ h' => h'.elim)))
  cases r with
  | none => exact wpAny_pure h₁
  | some v =>
    refine wpAny_bind (wpAny_mono h₁ (fun _ s1 h1 => ?_) fun _ _ h' => h'.elim)
    refine wpAny_bind (wpAny_mono h1 (fun _ s₂ h₂ => wpAny_bind (wpAny_mono h₂ (fun ok s₃ h₃ => ?_) fun _ _ h' => h'.elim)) fun _ _ h' => h'.elim)
    cases ok with
    | false => exact wpAny_pure ⟨rfl, h₃⟩
    | true =>
      exact wpAny_bind (wpAny_bind (wpAny_mono h₃ (fun x s₄ h₄ => wpAny_bind (wpAny_mono h₄ (fun _ s₅ h₅ => wpAny_pure (wpAny_pure ⟨rfl, h₅⟩)) fun _ _ h' => h'.elim)) fun _ _ h' => h'.elim))
end
abbrev TTs := St -> Hp -> (Bool -> Hp -> Prop) -> Prop
def PTs (X : Cx) (ifs : List Expr) (t : TTs) : Prop :=
  ∀ (pins : List (Addr × Obj)) (s : Shared) (σ : St) (H : Hp) (Q : Bool -> Hp -> Prop), Inv X pins σ H s -> t σ H Q ->
    wpAny (model X.prog X.w) X.A (forIn ifs true fun c r => if r = true then do let ok ← isTrue c X.env (eval c X.env); pure (ForInStep.yield ok) else pure (ForInStep.yield r)) (TP X pins σ Q) X.xe s
theorem pts_nil {X : Cx} : PTs X [] (fun _ H Q => Q true H) := fun _ _ _ H _ I h => wpAny_tests_nil ⟨H, I, h⟩
structure FrOk (X : Cx) (scope : Scope) (fr : List (Str × Nat)) : Prop where
  slots : ∀ p ∈ fr, X.N[p.2]? = some p.1 /\ (X.env.kindOf p.1 = some .cell \/ X.env.kindOf p.1 = some .free)
  kind : ∀ p ∈ fr, scope.names.lookup p.1 = some .free
def inN (locs : List Str) (fr : List (Str × Nat)) : List Str := locs ++ fr.map (·.1)
def inS (locs : List Str) (fr : List (Str × Nat)) (σ : St) : St := List.replicate locs.length none ++ fr.map fun p => (σ[p.2]?).join
def inF (fr : List (Str × Nat)) (σ : St) : St := fr.map fun p => (σ[p.2]?).join
def Zq80 (n : Nat) (fv : St) (g : TG) (tt : TTs) (te : TE) (x : V) (H : Hp) (Y : V -> Hp -> Prop) (N : Hp -> Prop) : Prop :=
  ∀ ls : St, ls.length = n -> g x (ls ++ fv) H fun σ2 H2 => (∃ l2 : St, l2.length = n /\ σ2 = l2 ++ fv) /\ tt σ2 H2 fun b H3 => if b = true then te σ2 H3 Y else N H3
def Zq99 (J : It) (n : Nat) (fv : St) (g : TG) (tt : TTs) (te : TE) (Q : VK) (H1 : Hp) : Prop := ∃ W : Nat -> Nat -> List V -> Hp -> Prop, (∃ m, W 0 m [] H1) /\ ∀ i m ys H, W i m ys H ->
  (J.stop i H /\ ys.length <= sizeLine /\ ∀ l, H l = none -> Q (.ref l) (upd H l (.lst ys))) \/
  (J.go i H /\ ys.length < sizeLine /\ ∃ m', m' < m /\ ∀ x H', J.yld i H x H' -> Zq80 n fv g tt te x H' (fun y H4 => W (i + 1) m' (ys ++ [y]) H4) fun H3 => W (i + 1) m' ys H3)
def tComp (n : Nat) (fr : List (Str × Nat)) (wi : TI) (g : TG) (tt : TTs) (te : TE) : TE := fun σ H Q => wi σ H fun J H1 => Zq99 J n (inF fr σ) g tt te Q H1
theorem hok_add {P : Program} {w : World} {H : Hp} {h : Heap} {D : Addr} {o : HO} (ok : HOk P w H h) (hn : H D = none) (new : ObjOk P w (upd H D o) h D o) : HOk P w (upd H D o) h := fun b u e => by
  by_cases hb : b = D
  · subst hb; rw [Zq5] at e; cases e; exact new
  · rw [Zq9 hb] at e
    exact (ok b u e).stay (fun _ _ _ q => q) (fun c q => by rw [Zq9 (Zq12 q hn)]; exact q) fun c xs q => by rw [Zq9 (Zq12 q hn)]; exact q
section
variable {X : Cx} {tg elt iter : Expr} {ifs : List Expr} {scope : Scope} {pos : Pos} {locs : List Str} {fr : List (Str × Nat)} {g : TG} {tt : TTs} {te : TE}
theorem comp_core {pins : List (Addr × Obj)} {σ : St} {H1 : Hp} {s2 : Shared} {it : Addr} {fp : List Addr} {tn : Nat -> Heap -> Prop} {J : It} {cl : List (Str × Addr)} {E : Value -> Shared -> Prop}
    {RR : Value -> Addr -> Result -> Shared -> Prop} {QQ : List V -> Hp -> Prop}
    (hc : X.calm = true) (hkind : scope.kind = .function) (hcell : ∀ y ∈ scope.names, y.2 ≠ .cell) (hlo : ∀ x ∈ locs, scope.names.lookup x = some .local) (F : FrOk X scope fr) (hnd : (inN locs fr).Nodup)
    (cl1 : ∀ x c, cl.lookup x = some c -> X.env.cells.lookup x = some c) (cl2 : ∀ x, (x, NameKind.free) ∈ scope.names -> ∃ c, cl.lookup x = some c)
    (inner : ∀ (C : Addr) (s0 : Shared) (H0 : Hp) (ex : List Addr) (pn : List (Addr × Obj)), PG (ccx X scope cl C (inN locs fr) s0 H0 ex pn) tg g /\ PTs (ccx X scope cl C (inN locs fr) s0 H0 ex pn) ifs tt /\ PE (ccx X scope cl C (inN locs fr) s0 H0 ex pn) elt te)
    (I : Inv X pins σ H1 s2) (T : Turn X.prog X.w X.K tg J fp it tn) (st0 : tn 0 s2.heap) (hf : ∀ b ∈ fp, FpOk X pins H1 b)
    {W : Nat -> Nat -> List V -> Hp -> Prop} (w0 : ∃ m, W 0 m [] H1) (turn : ∀ i m ys H, W i m ys H ->
      (J.stop i H /\ ys.length <= sizeLine /\ QQ ys H) \/
      (J.go i H /\ ys.length < sizeLine /\ ∃ m', m' < m /\ ∀ x H', J.yld i H x H' -> Zq80 locs.length (inF fr σ) g tt te x H' (fun y H4 => W (i + 1) m' (ys ++ [y]) H4) fun H3 => W (i + 1) m' ys H3))
    (hRR : ∀ (D C : Addr) (ys : List V) (H' : Hp) (s' : Shared) (m : Str -> Option Value), H' D = none -> D ≠ C -> Inv X pins σ (upd H' D (.lst ys)) s' -> FpOk X pins (upd H' D (.lst ys)) C -> s'.heap.Ns C m -> QQ ys H' -> RR (.ref D) C (.ok .next) s') :
    wpAny (model X.prog X.w) X.A (newList []) (fun acc s₃ => wpAny (model X.prog X.w) X.A (newFunctionEnv scope X.env.globals cl [] X.env.qual none .none (some X.env)) (fun cenv s₄ =>
      codeAny (model X.prog X.w) X.A (.compStart (.ListComp elt [⟨tg, iter, ifs, 0⟩] scope pos) 0 (.ref it) acc { cenv with scope := relabel scope X.env }) (RR acc cenv.locals) s₄) E s₃) E s2 := by
  refine wpAny_newObj_type (wpAny_newFunctionEnv hcell (by intro y hy; simp at hy) (fun h₁ hns₁ hsb₁ => ?_) hkind)
  dsimp only at hns₁ hsb₁ ⊢
  generalize hH2 : s2.heap.push { cls := .type "list", dict := none, data := .seq ([] : List Value).toArray } = Hq at hns₁ hsb₁ ⊢
  have hC : Hq.objs.size = s2.heap.objs.size + 1 := by rw [← hH2, Heap.size_push]
  generalize hDe : s2.heap.objs.size = D at hC ⊢
  generalize hCe : Hq.objs.size = C at hC hns₁ hsb₁ ⊢
  have hDC : D ≠ C := by omega
  have below : ∀ b, b < D -> b ≠ C /\ b ≠ D := fun b hb => ⟨by omega, by omega⟩
  have ltD : ∀ {b : Addr} {o : Obj}, s2.heap.get? b = some o -> b < D := fun e => hDe ▸ Heap.lt_size e
  have old : ∀ b o, s2.heap.get? b = some o -> h₁.get? b = some o := fun b o e => hsb₁.extBut b o (below b (ltD e)).1 (Heap.get?_push_of_some _ (hH2 ▸ Heap.get?_push_of_some _ e))
  have hacc : h₁.PlainList D #[] := ⟨_, hsb₁.extBut _ _ hDC (Heap.get?_push_of_some _ (by subst hDe; exact hH2 ▸ Heap.get?_push_size _ rfl))⟩
  let X' : Cx := ccx X scope cl C (inN locs fr) s2 H1 fp (X.pn ++ pins)
  have ltC : s2.heap.objs.size <= C := by rw [hDe, hC]; exact Nat.le_succ _
  have fpC : FpOk X pins H1 C := I.fpOk ltC (I.hok.fresh ltC)
  have fpD : FpOk X pins H1 D := I.fpOk (Nat.le_of_eq hDe) (I.hok.fresh (Nat.le_of_eq hDe))
  have stkN : ∀ b, b ≠ X.env.locals -> b ∉ X.fs -> b ∉ frs X.stack := fun b h1 h2 z => (List.mem_cons.mp (I.stkSub b z)).elim h1 h2
  have ok' : X'.Ok := by
    refine ⟨I.ok.mod, hkind, I.ok.glob, I.ok.blt, ltC, fun x y c h1 h2 => I.ok.inj x y c (cl1 x c h1) (cl1 y c h2), fun x hx => ?_, fun x c h => ?_, I.ok.hd, I.ok.frames, .inl rfl, fun b hb => ?_, fun b o e => I.bs b o e, Nat.le_trans I.ok.bsz I.sz, fun b o e hb => ?_, fun b hb => ?_, I.stack, I.stkFree⟩
    · obtain ⟨c, hcc⟩ := cl2 x (relabel_mem hcell hx)
      exact ⟨c, hcc⟩
    · cases h
    · refine ⟨fun z => ?_, fun x c e => (hf b hb).2.2.2.2.1 x c (cl1 x c e)⟩
      obtain ⟨o, ho, _⟩ := T.obj _ _ st0 b hb
      have z' : b = C := z
      exact (below b (ltD ho)).1 z'
    · have hb' := hf b hb
      rcases hb'.2.2.2.1 with z | z
      · exact I.ok.noex b o e z
      · exact absurd (Nat.lt_of_lt_of_le (Heap.lt_size e) (Nat.le_trans I.ok.bsz z)) (Nat.lt_irrefl _)
    · exact stkN b (hf b hb).2.1 (hf b hb).2.2.1
  have I1 : Inv X' [] (inS locs fr σ) H1 { s2 with heap := h₁, toks := s2.toks + ([] : List (Str × Value)).length } := by
    refine ⟨ok', I.os.symm ▸ rfl, I.bare, Un.kept old, ⟨_, hns₁, fun i x v h1 h2 h3 => ?_⟩, fun x c e => ?_, I.hok.fresh ltC, fun x c e => I.freeC x c (cl1 x c e), fun p hp => ?_, I.hok.kept old, ?_⟩
    · -- a slot of the block that has a value is a free name's
      have hge : locs.length <= i := by
        by_cases hi : i < locs.length
        · unfold inS at h2
          rw [List.getElem?_append_left (by simpa using hi), List.getElem?_replicate, if_pos hi] at h2
          cases h2
        · omega
      have h1' : (fr.map (·.1))[i - locs.length]? = some x := by
        have h1 : (inN locs fr)[i]? = some x := h1
        unfold inN at h1
        rw [List.getElem?_append_right hge] at h1
        exact h1
      have h2' : (fr.map fun p => (σ[p.2]?).join)[i - locs.length]? = some (some v) := by
        unfold inS at h2
        rw [List.getElem?_append_right (by simpa using hge), List.length_replicate] at h2
        exact h2
      rw [List.getElem?_map] at h1' h2'
      cases e : fr[i - locs.length]? with
      | none => rw [e] at h1'; cases h1'
      | some p =>
        rw [e] at h1' h2'
        have ex : p.1 = x := Option.some.inj h1'
        have ev : (σ[p.2]?).join = some v := Option.some.inj h2'
        obtain ⟨f1, f2⟩ := F.slots p (List.mem_of_getElem? e)
        have ev' : σ[p.2]? = some (some v) := by
          cases q : σ[p.2]? with
          | none => rw [q] at ev; cases ev
          | some o => rw [q] at ev; cases o with
            | none => cases ev
            | some v' => cases ev; rfl
        obtain ⟨m0, hn0, hl0⟩ := I.loc
        have vis0 : Vis X.env.scope p.1 := by
          rcases f2 with z | z
          · exact .inr (.inl z)
          · exact .inr (.inr z)
        obtain ⟨u, ru, lk⟩ := hl0 p.2 p.1 v f1 ev' vis0
        have hxm : x ∉ locs := fun z => by
          have hnd' := hnd
          unfold inN at hnd'
          exact (List.nodup_append.mp hnd').2.2 x z x (List.mem_map.mpr ⟨p, List.mem_of_getElem? e, ex⟩) rfl
        refine ⟨u, ru, ?_⟩
        rcases lk with ⟨hk, _⟩ | ⟨hk, c, hcc, hce⟩
        · rcases f2 with z | z
          · rw [z] at hk; cases hk
          · rw [z] at hk; cases hk
        · -- in the block it is a cell or free name
          have h3 : Vis (relabel scope X.env) x := h3
          have hk' : (compEnvC scope cl C X.env).kindOf x = some .cell \/ (compEnvC scope cl C X.env).kindOf x = some .free := by
            rcases h3 with z | z | z
            · exfalso
              have q := lookup_relabel_free (env := X.env) (F.kind p (List.mem_of_getElem? e))
              rw [ex] at q
              rcases q with q | q
              · have z' : some NameKind.local = some NameKind.cell := z.symm.trans q
                cases z'
              · have z' : some NameKind.local = some NameKind.free := z.symm.trans q
                cases z'
            · exact .inl z
            · exact .inr z
          obtain ⟨c', hc'⟩ := cl2 x (relabel_mem hcell hk')
          have := cl1 x c' hc'
          rw [← ex, hcc] at this
          cases this
          refine .inr ⟨hk', c, hc', ?_⟩
          obtain ⟨o, ho, hd⟩ := hce
          exact ⟨o, old _ _ ho, hd⟩
    · obtain ⟨v, o, ho, hd⟩ := I.cell x c (cl1 x c e)
      exact ⟨v, o, old _ _ ho, hd⟩
    · have hp' : p ∈ X.pn ++ pins := (List.mem_append.mp hp).elim id fun z => nomatch z
      obtain ⟨e, n, ne, nf, d⟩ := I.pin p hp'
      exact ⟨old _ _ e, n, (below _ (ltD e)).1, stkN _ ne nf, d⟩
    · show (inS locs fr σ).length = (inN locs fr).length
      unfold inS inN
      simp
  have fpLt : ∀ b ∈ fp, b < D := fun b hb => by
    obtain ⟨o, ho, _⟩ := T.obj _ _ st0 b hb
    exact ltD ho
  obtain ⟨m0, w0⟩ := w0
  let oD : List Value -> Nat -> Obj := fun its k => { cls := .type "list", data := .seq its.toArray k }
  have stat : ∀ {H' : Hp} {ob : Obj}, (∀ b ∈ fp, H' b = none) -> ∀ b ∈ fp, FpOk X' [(D, ob)] H' b := fun {H' ob} hn b hb => by
    obtain ⟨f0, f1, f2, f3, f4, f5⟩ := hf b hb
    refine ⟨hn b hb, (below b (fpLt b hb)).1, stkN b f1 f2, .inl hb, fun x c e => f4 x c (cl1 x c e), fun p hp z => ?_⟩
    rcases List.mem_append.mp hp with q | q
    · exact f5 p q z
    · have e : p = (D, ob) := by simpa using q
      subst e
      exact (below b (fpLt b hb)).2 z.symm
  have loop : ∀ s₃ : Shared, s₃ = { s2 with heap := h₁, toks := s2.toks + ([] : List (Str × Value)).length } ->
      codeAny (model X.prog X.w) X.A (.compLoop (.ListComp elt [⟨tg, iter, ifs, 0⟩] scope pos) 0 (.ref it) (.ref D) (compEnvC scope cl C X.env)) (RR (.ref D) C) s₃ := by
    rintro s₃ rfl
    refine codeAny_compLoop_go (fun n s' => ∃ (i : Nat) (ls : St) (H' : Hp) (ys : List V) (its : List Value) (k : Nat), ls.length = locs.length /\ Inv X' [(D, oD its k)] (ls ++ inF fr σ) H' s' /\ tn i s'.heap /\ (∀ b ∈ fp, H' b = none) /\ Vals ys its /\ W i n ys H') ?_ m0 ?_
    · rintro n s3 ⟨i, ls, H3, ys, its, k, hls, I3, st3, fr3, rv, w3⟩
      rcases turn i n ys H3 w3 with ⟨stop, hz, q⟩ | ⟨go, hz, m', hm, step⟩
      · refine thn (T.done X' rfl rfl rfl hc i _ s3 _ H3 (fun _ _ => False) I3 (stat fr3) st3 stop) fun r s4 ⟨hr, I4⟩ => ?_
        subst hr
        obtain ⟨pD, nD, _, _, _⟩ := I4.pin (D, oD its k) (List.mem_append_right _ List.mem_cons_self)
        have nD : H3 D = none := nD
        obtain ⟨mC, hnC, _⟩ := I4.loc
        have hnC : s4.heap.Ns C mC := hnC
        have nC : H3 C = none := I4.free
        have new : ObjOk X.prog X.w (upd H3 D (.lst ys)) s4.heap D (.lst ys) := ⟨hz, its, k, rv, pD⟩
        have hok4 : HOk X.prog X.w (upd H3 D (.lst ys)) s4.heap := hok_add I4.hok nD new
        have u4 : Un (frs X.stack) fp H1 H3 s2.heap s4.heap := I4.base
        have u5 : Un (frs X.stack) fp H1 (upd H3 D (.lst ys)) s2.heap s4.heap := by
          refine ⟨u4.keep, u4.slot, fun b o e n hx => ?_, u4.there, fun b xs e => ?_, fun b o u e => ?_, fun b ps e => ?_⟩
          · rw [Zq9 (below b (ltD e)).2]; exact u4.free b o e n hx
          · rw [Zq9 (Zq12 e fpD.1)]; exact u4.tups b xs e
          · rw [Zq9 (Zq12 e fpD.1)]; exact u4.frzs b o u e
          · rw [Zq9 (Zq12 e fpD.1)]; exact u4.tbls b ps e
        have I5 : Inv X pins σ (upd H3 D (.lst ys)) s4 := by
          refine I.call' (ch := fp) ?_ u5 hok4 I4.bare fun b hb => ?_
          · have : s4.os = s2.os := I4.os
            exact this
          · obtain ⟨f0, f1, f2, f3, f4, f5⟩ := hf b hb
            exact ⟨f3, f1, f4, f5⟩
        have fpC' : FpOk X pins (upd H3 D (.lst ys)) C := I.fpOk ltC (by rw [Zq9 hDC.symm]; exact nC)
        exact hRR D C ys H3 s4 mC nD hDC I5 fpC' hnC q
      · refine thn (T.item X' rfl rfl rfl hc i _ s3 _ H3 (fun _ _ => False) I3 (stat fr3) st3 go) fun r s4 ⟨u, hr, h4⟩ => ?_
        subst hr
        refine thn h4 fun _ s5 ⟨x, H5, I5, r5, y5, st5, fr5⟩ => ?_
        obtain ⟨hg, htt, hte⟩ := inner C s2 H1 fp (X.pn ++ pins)
        have I5' := I5.pinned (stat fr5) (T.obj _ _ st5)
        refine thn (hg _ s5 _ H5 x u _ I5' r5 (step x H5 y5 ls hls)) fun _ s6 ⟨σ6, H6, I6, ⟨l6, hl6, e6⟩, q6⟩ => ?_
        subst e6
        refine thn (htt _ s6 _ H6 _ I6 q6) fun ok s7 ⟨H7, I7, q7⟩ => ?_
        have again : ∀ {H8 : Hp} {s8 : Shared}, Inv X' ([(D, oD its k)] ++ Zq111 fp s5.heap) (l6 ++ inF fr σ) H8 s8 -> tn (i + 1) s8.heap /\ ∀ b ∈ fp, H8 b = none := fun {H8 s8} I8 => by
          refine ⟨T.keep _ _ _ st5 fun b hb o e => (I8.pin (b, o) (List.mem_append_right _ (List.mem_append_right _ (mem_pinsAt hb e)))).1, fun b hb => ?_⟩
          obtain ⟨o, e, d⟩ := T.obj _ _ st5 b hb
          exact (I8.pin (b, o) (List.mem_append_right _ (List.mem_append_right _ (mem_pinsAt hb e)))).2.1
        cases ok with
        | false =>
          rw [if_neg Bool.false_ne_true] at q7 ⊢
          obtain ⟨a1, a2⟩ := again I7
          exact ⟨m', hm, i + 1, l6, H7, ys, its, k, hl6, I7.unpinned, a1, a2, rv, q7⟩
        | true =>
          rw [if_pos rfl] at q7 ⊢
          refine thn (hte _ s7 _ H7 _ I7 q7) fun yv s8 ⟨y, H8, I8, r8, q8⟩ => ?_
          obtain ⟨a1, a2⟩ := again I8
          obtain ⟨pD, nD, _, nfD, _⟩ := I8.pin (D, oD its k) (List.mem_append_right _ (List.mem_append_left _ List.mem_cons_self))
          have nD : H8 D = none := nD
          have hl8 : s8.heap.PlainList D its.toArray := ⟨k, pD⟩
          have hlen : its.toArray.size <= sizeLine := by
            rw [List.size_toArray, ← rv.length]; omega
          refine wpAny_list_append_plain (hsz := hlen) hl8 fun h9 hl9 hs9 => ?_
          obtain ⟨k9, e9⟩ := hl9
          have I9 : Inv X' (Zq111 fp s5.heap) (l6 ++ inF fr σ) H8 s8 := I8.pins_of fun p hp => I8.pin p (List.mem_append_right _ (List.mem_append_right _ hp))
          have I10 : Inv X' (Zq111 fp s5.heap) (l6 ++ inF fr σ) H8 { s8 with heap := h9 } := by
            refine I9.turned (it := D) (t' := s8.toks) (fun b o hb e => (hs9.2 b hb).trans e) nD ?_ ?_ ?_ ?_
            · exact hDC
            · exact .inr (Nat.le_of_eq hDe)
            · exact fun x c e => fpD.2.2.2.2.1 x c (cl1 x c e)
            · intro p hp z
              rcases List.mem_append.mp hp with q | q
              · exact fpD.2.2.2.2.2 p q z
              · have := fpLt p.1 (of_pinsAt q).1
                exact (below p.1 this).2 z
          have e9' : h9.get? D = some (oD (its ++ [yv]) k9) := by
            rw [e9]; simp [oD]
          have I11 : Inv X' [(D, oD (its ++ [yv]) k9)] (l6 ++ inF fr σ) H8 { s8 with heap := h9 } := I10.pins_of fun p hp => by
            have e : p = (D, oD (its ++ [yv]) k9) := by simpa using hp
            subst e
            exact ⟨e9', nD, hDC, nfD, fun v z => by cases z⟩
          refine ⟨m', hm, i + 1, l6, H8, ys ++ [y], its ++ [yv], k9, hl6, I11, ?_, a2, Vals.append rv (.cons r8 .nil), q8⟩
          exact T.keep _ _ _ a1 fun b hb o e => (hs9.2 b (below b (fpLt b hb)).2).trans e
    · have e0 : List.replicate locs.length none ++ inF fr σ = inS locs fr σ := rfl
      obtain ⟨k0, eD⟩ := hacc
      refine ⟨0, List.replicate locs.length none, H1, [], [], k0, by simp, ?_, T.keep _ _ _ st0 fun b _ o e => old b o e, fun b hb => (hf b hb).1, .nil, w0⟩
      rw [e0]
      refine I1.pins_of fun p hp => ?_
      have e : p = (D, oD [] k0) := by simpa using hp
      subst e
      exact ⟨eD, fpD.1, hDC, stkN D fpD.2.1 fpD.2.2.1, fun v z => by cases z⟩
  exact codeAny_compStart_list (loop _ rfl) (T.self _ 0 _ _ _ (T.keep _ _ _ st0 fun b _ o e => old b o e) (loop _ rfl))
structure CompOk (X : Cx) (scope : Scope) (locs : List Str) (fr : List (Str × Nat)) : Prop where
  kind : scope.kind = .function
  nocell : ∀ y ∈ scope.names, y.2 ≠ .cell
  names : ∀ y ∈ scope.names, y.2 = .local -> scope.names.lookup y.1 = some .local
  own : ∀ x ∈ locs, scope.names.lookup x = some .local
  free : ∀ y ∈ scope.names, y.2 = .free -> y.1 ∈ fr.map (·.1)
  nd : (inN locs fr).Nodup
theorem FrOk.nil : FrOk X scope [] := ⟨(fun _ h => nomatch h), (fun _ h => nomatch h)⟩
theorem FrOk.cons {x : Str} {j : Nat} {fr : List (Str × Nat)} (h1 : X.N[j]? = some x) (h2 : X.env.kindOf x = some .cell \/ X.env.kindOf x = some .free) (h3 : scope.names.lookup x = some .free) (t : FrOk X scope fr) : FrOk X scope ((x, j) :: fr) :=
  ⟨fun p hp => (List.mem_cons.mp hp).elim (fun e => by subst e; exact ⟨h1, h2⟩) (t.slots p), fun p hp => (List.mem_cons.mp hp).elim (fun e => by subst e; exact h3) (t.kind p)⟩
theorem CompOk.clos {pins : List (Addr × Obj)} {σ : St} {H : Hp} {s : Shared} (S : CompOk X scope locs fr) (F : FrOk X scope fr) (I : Inv X pins σ H s) :
    ∃ cl, closureFor scope X.env = pure cl /\ (∀ x c, cl.lookup x = some c -> X.env.cells.lookup x = some c) /\ (∀ x, (x, NameKind.free) ∈ scope.names -> ∃ c, cl.lookup x = some c) := by
  refine closure_of fun p hp hk => ?_
  obtain ⟨q, hq, e⟩ := List.mem_map.mp (S.free p hp hk)
  obtain ⟨c, hc⟩ := I.ok.has q.1 (F.slots q hq).2
  exact ⟨c, e ▸ hc⟩
theorem pe_lcomp {wi : TI} (S : CompOk X scope locs fr) (F : FrOk X scope fr) (hc : X.calm = true) (hi : PI X tg iter wi)
    (inner : ∀ (cl : List (Str × Addr)) (C : Addr) (s0 : Shared) (H0 : Hp) (ex : List Addr) (pn : List (Addr × Obj)), PG (ccx X scope cl C (inN locs fr) s0 H0 ex pn) tg g /\ PTs (ccx X scope cl C (inN locs fr) s0 H0 ex pn) ifs tt /\ PE (ccx X scope cl C (inN locs fr) s0 H0 ex pn) elt te)
    (hs : ∀ x, foldedSetIterable iter X.env x = pure x := by intro _; rfl) : PE X (.ListComp elt [⟨tg, iter, ifs, 0⟩] scope pos) (tComp locs.length fr wi g tt te) := by
  intro pins s σ H Q I h
  obtain ⟨cl, hcl, cl1, cl2⟩ := S.clos F I
  rw [eval_ListComp]
  refine wpAny_comprehension_free (use := none) rfl hs hcl S.kind S.names (thn (hi pins s σ H _ I h) fun v s1 h1 => thn h1 fun itv s2 h2 => ?_)
  obtain ⟨it, fp, tn, J, H1, e, I2, T, st2, f2, W, w0, turn⟩ := h2
  subst e
  refine comp_core (QQ := fun ys H' => ∀ l, H' l = none -> Q (.ref l) (upd H' l (.lst ys))) hc S.kind S.nocell S.own F S.nd cl1 cl2 (inner cl) I2 T st2 f2 w0 turn fun D C ys H' s' m nD hDC I' fC hn q => ?_
  refine ⟨m, hn, fun h' hs' => ?_⟩
  obtain ⟨f0, f1, f2, f3, f4, f5⟩ := fC
  exact ⟨.ref D, _, I'.turned (it := C) (t' := s'.toks) (fun b o hb e => (hs'.2 b hb).trans e) f0 f1 f3 f4 f5, rfl, q D nD⟩
end
section
variable {X : Cx} {scope : Scope} {cl : List (Str × Addr)} {C : Addr} {N' : List Str} {s0 : Shared} {H0 : Hp} {ex : List Addr} {pn : List (Addr × Obj)}
theorem pvL (i : Nat) {x : Str} {pos : Pos} (hN : N'[i]? = some x := by rfl) (h : scope.names.lookup x = some .local := by rfl) (hd : (x == ("__debug__" : Str)) = false := by decide) (hcd : (x == ("__classdict__" : Str)) = false := by decide) :
    PE (ccx X scope cl C N' s0 H0 ex pn) (.Name x pos) (tVar i) := pe_var hN (.inl (lookup_relabel_local h)) hd hcd
theorem pvF (i : Nat) {x : Str} {pos : Pos} (hN : N'[i]? = some x := by rfl) (h : scope.names.lookup x = some .free := by rfl) (hd : (x == ("__debug__" : Str)) = false := by decide) (hcd : (x == ("__classdict__" : Str)) = false := by decide) :
    PE (ccx X scope cl C N' s0 H0 ex pn) (.Name x pos) (tVar i) := pe_var hN ((lookup_relabel_free h).elim (fun z => .inr (.inl z)) fun z => .inr (.inr z)) hd hcd
theorem pgL (i : Nat) {x : Str} {pos : Pos} (hnd : N'.Nodup) (hN : N'[i]? = some x := by rfl) (h : scope.names.lookup x = some .local := by rfl) : PG (ccx X scope cl C N' s0 H0 ex pn) (.Name x pos) (Zq78 i) :=
  pg_name (X := ccx X scope cl C N' s0 H0 ex pn) hnd hN (.inl (lookup_relabel_local h)) (.inr (lookup_relabel_local h))
end
end L2
end
section
set_option Elab.async false
set_option linter.all false
set_option maxRecDepth 100000
set_option maxHeartbeats 4000000
namespace L2
open PySem PySem.Spec PyProof.Rows
def sgn (x : Str) (i : Nat) : V := .str ⟨#[x.cps.getD i 0]⟩
def Its (x : Str) : It := ⟨fun i _ => i < x.length, fun i H v H' => H' = H /\ v = sgn x i, fun i _ => i = x.length⟩
theorem strIter_next {P : Program} {w : World} {A : Around} (hh : A.handled = none) (I : Addr) (x : Str) (t : Tok) :
    Walks P w A I [I] [I] x.cps.size (SignAt x) (fun i h => h.IsStrIter I (strIterType x) x t i) := by
  unfold strIterType
  cases ha : x.cps.all (· < 128)
  · exact Walks.strWide hh I x t
  · exact Walks.strAscii hh I x t
theorem turn_str {P : Program} {w : World} {K : PySem.W.Frag} {tg : Expr} (it : Addr) (x : Str) (t : Tok) : Turn P w K tg (Its x) [it] it (fun i h => h.IsStrIter it (strIterType x) x t i) where
  mem := by simp
  obj := fun i h st b hb => by
    have e : b = it := by simpa using hb
    subst e
    obtain ⟨o, e, c, d⟩ := st
    exact ⟨o, e, fun v z => by rw [d] at z; cases z⟩
  keep := fun i h h' st k => let ⟨o, ho, r⟩ := st; ⟨o, k it (by simp) o ho, r⟩
  item := by
    intro X hP hw hK hc i pins s σ H E I hf st hg
    subst hP hw hK
    obtain ⟨f0, f1, f2, f3, f4, f5⟩ := hf it (by simp)
    refine (strIter_next (I.ok.hd hc) it x t).item i s _ _ hg st fun v h' tk hv st' kk => ?_
    obtain ⟨c, u, hcx, rfl⟩ := hv
    have I1 : Inv X pins σ H { s with heap := h', toks := tk } := I.turned (fun b o hb e => kk b o (by simpa using hb) e) f0 f1 f3 f4 f5
    obtain ⟨o, e, cc, d⟩ := id st'
    have hn : ["enumerate", "zip", "dict_itemiterator", "dict_reverseitemiterator", "odict_iterator", "itertools.zip_longest", "itertools.pairwise"].contains (strIterType x) = false := by
      unfold strIterType
      split <;> decide
    refine ⟨_, rfl, go_of (s := { s with heap := h', toks := tk }) e cc d hn ⟨sgn x i, H, I1, ⟨u, ?_⟩, ⟨rfl, rfl⟩, st', fun b hb => (hf b hb).1⟩⟩
    rw [Array.getD_eq_getD_getElem?, hcx]
    all_goals rfl
  done := by
    intro X hP hw hK hc i pins s σ H E I hf st hg
    subst hP hw hK
    obtain ⟨f0, f1, f2, f3, f4, f5⟩ := hf it (by simp)
    have e : i = x.cps.size := hg
    subst e
    exact (strIter_next (I.ok.hd hc) it x t).done s _ _ st fun h' tk kk => ⟨rfl, I.turned (fun b o hb e => kk b o (by simpa using hb) e) f0 f1 f3 f4 f5⟩
  self := fun A i s Q E st h => by
    have st : s.heap.IsStrIter it (strIterType x) x t i := st
    unfold strIterType at st
    split at st
    · exact wpAny_pyIter_striter_ascii st h
    · exact wpAny_pyIter_striter_wide st h
def iStr (te : TE) : TI := fun σ H R => te σ H fun v H1 => ∃ x, v = .str x /\ R (Its x) H1
theorem pi_str {X : Cx} {tg l : Expr} {tl : TE} (hl : PE X l tl) : PI X tg l (iStr tl) := by
  intro pins s σ H R I h
  refine thn (hl pins s σ H _ I h) fun v s1 ⟨y, H1, I1, r1, q1⟩ => ?_
  obtain ⟨x, e, q⟩ := q1
  subst e
  obtain ⟨t, rfl⟩ := r1
  refine wpAny_pyIter_strU ?_
  refine ⟨s1.heap.objs.size, [s1.heap.objs.size], _, _, H1, rfl, I1.kept (t' := s1.toks) fun b o e => Heap.get?_push_of_some _ e, turn_str _ x t, ⟨_, Heap.get?_push_size _ rfl, rfl, rfl⟩, fun b hb => ?_, q⟩
  have e : b = s1.heap.objs.size := by simpa using hb
  subst e
  exact I1.fpOk (Nat.le_refl _) (I1.hok.fresh (Nat.le_refl _))
section
variable {X : Cx}
theorem op_le_str : OpR X (compareOp .LtE) (fun x y H Q => ∃ i j, x = .str i /\ y = .str j /\ Q (.bl (!decide (j.cps.toList < i.cps.toList))) H) := by
  intro pins s σ H x y v u Q I rx ry h
  obtain ⟨i, j, rfl, rfl, q⟩ := h
  obtain ⟨t, rfl⟩ := rx
  obtain ⟨t', rfl⟩ := ry
  exact P.le_str ⟨.bl _, H, I, rfl, q⟩
end
theorem isPart_opt {v : Value} {o : Option Int} (h : IsPart v o) : ∃ l : Option (Int × Tok), v = partValue l /\ l.map (·.1) = o := by
  cases h with
  | none => exact ⟨none, rfl, rfl⟩
  | int i t => exact ⟨some (i, t), rfl, rfl⟩
section
variable {X : Cx}
theorem sl_str : SlR X (fun x lo hi H Q => ∃ z, x = .str z /\ z.length <= sizeLine /\ Q (.str (Txt.slice z lo hi)) H) := by
  intro pins s σ H x v vl vu lo hi sl Q I rx hs pl pu h
  obtain ⟨z, rfl, hz, q⟩ := h
  obtain ⟨t, rfl⟩ := rx
  obtain ⟨l, rfl, rfl⟩ := isPart_opt pl
  obtain ⟨u, rfl, rfl⟩ := isPart_opt pu
  refine ⟨"str", _, F.slot_str_getitem.lookup, typeIs_str _ _ _, ?_⟩
  refine wpAny_getItem_str_slice (l := l) (u := u) (st := none) hs rfl (post_val_or_str ⟨Nat.le_trans (Txt.slice_le z _ _) hz, fun t' k => ?_⟩)
  exact ⟨.str _, H, I.tok _, ⟨t', rfl⟩, q⟩
end
theorem strsAre_of {ys : List Str} : ∀ {us : List Value}, Vals (ys.map V.str) us -> StrsAre us ys := by
  induction ys with
  | nil => intro us r; rw [List.map_nil] at r; cases r; exact .nil
  | cons n ns ih =>
    intro us r
    rw [List.map_cons] at r
    cases r with
    | cons r1 r2 =>
      obtain ⟨t, e⟩ := r1
      subst e
      exact .cons n t (ih r2)
section
variable {X : Cx}
theorem mt_join : MtR X "str.join" (fun x xs H Q => ∃ sep a ys, x = .str sep /\ xs = [.ref a] /\ SqL X.K H a (ys.map V.str) /\ (ys.map (·.length)).sum + ys.length * sep.length <= 16777216 /\ Q (.str (Txt.join sep ys)) H) := by
  intro pins s σ H x xs v us Q I rx rs h
  obtain ⟨sep, a, ys, rfl, rfl, ha, hz, q⟩ := h
  obtain ⟨t, rfl⟩ := rx
  obtain ⟨u, rfl, ru⟩ := Zq86 rs
  cases ru
  obtain ⟨its, r, p, _⟩ := I.list ha
  exact join_list p.isList (strsAre_of r) hz fun t' k => ⟨.str _, H, I.tok _, ⟨t', rfl⟩, q⟩
theorem call_all (hc : X.calm = true) : Zq73 X (.builtin "all") (fun xs H Q => ∃ (a : Addr) (bs : List Bool), xs = [.ref a] /\ SqL X.K H a (bs.map V.bl) /\ Q (.bl (bs.all id)) H) := by
  intro pins s σ H xs us Q I r h
  obtain ⟨a, bs, rfl, ha, q⟩ := h
  obtain ⟨u, rfl, ru⟩ := Zq86 r
  cases ru
  obtain ⟨its, rv, p, _⟩ := I.list ha
  have hlt : a < s.heap.objs.size := by obtain ⟨o, n, e, _⟩ := p; exact Heap.lt_size e
  refine call_all_walk (wpAny_pyIter_list p.isList ?_)
  refine ⟨s.heap.objs.size, _, _, _, _, _, fun i => bs.getD i true, rfl, Walks.list (A := X.A.in1) (I.ok.hd hc) _ a (Nat.ne_of_lt hlt) its.toArray, ⟨⟨_, Heap.get?_push_size _ rfl, rfl, rfl⟩, p.isList.push _⟩, ?_, fun h' tk hk => ?_⟩
  · intro i v s' Q' E' hv hq
    have hv : its.toArray[i]? = some v := hv
    have hv' : its[i]? = some v := by simpa using hv
    have hlen : bs.length = its.length := by have := rv.length; simpa using this
    have hi : i < its.length := (List.getElem?_eq_some_iff.mp hv').1
    have hb : (bs.map V.bl)[i]? = some (V.bl (bs.getD i true)) := by
      rw [List.getElem?_map, List.getD_eq_getElem?_getD, List.getElem?_eq_getElem (by omega)]
      rfl
    obtain ⟨u, hu, ru⟩ := rv.get hb
    rw [hv'] at hu
    cases hu
    cases ru
    exact wpAny_truthy_bool hq
  · have hlen : its.toArray.size = bs.length := by have := rv.length; simp at this ⊢; omega
    have e : (List.range its.toArray.size).all (fun i => bs.getD i true) = bs.all id := by
      rw [hlen, Bool.eq_iff_iff, List.all_eq_true, List.all_eq_true]
      constructor
      · intro h b hb
        obtain ⟨i, hi, e⟩ := List.mem_iff_getElem.mp hb
        have := h i (List.mem_range.mpr hi)
        rw [List.getD_eq_getElem?_getD, List.getElem?_eq_getElem hi, e] at this
        exact this
      · intro h i hi
        have hi := List.mem_range.mp hi
        rw [List.getD_eq_getElem?_getD, List.getElem?_eq_getElem hi]
        exact h _ (List.getElem_mem hi)
    refine ⟨.bl (bs.all id), H, I.kept (h' := h') (t' := tk) (fun b o eb => hk b o ?_ (Heap.get?_push_of_some _ eb)), by rw [e]; rfl, q⟩
    intro z
    have : b = s.heap.objs.size := by simpa using z
    exact absurd (Heap.lt_size eb) (by rw [this]; exact Nat.lt_irrefl _)
theorem call_isinst : Zq73 X (.builtin "isinstance") (fun xs H Q => ∃ x n t b, xs = [x, .ty n] /\ TyOf X.K H x t /\ PySem.W.kitOne X.K t (.type n) = some b /\ Q (.bl b) H) := by
  intro pins s σ H xs us Q I r h
  obtain ⟨x, n, t, b, rfl, ty, e, q⟩ := h
  obtain ⟨u, w', rfl, ru, rw'⟩ := vals2 r
  cases rw'
  exact isinst_ok I ru ty e fun tk => ⟨.bl b, H, I.tok _, rfl, q⟩
def CallK (X : Cx) (f : Value) (kw : Str) (r : List V -> V -> Hp -> VK -> Prop) : Prop :=
  ∀ (pins : List (Addr × Obj)) (s : Shared) (σ : St) (H : Hp) (xs : List V) (us : List Value) (k : V) (ku : Value) (Q : VK), Inv X pins σ H s -> Vals xs us -> RelV k ku -> r xs k H Q ->
    wpAny (model X.prog X.w) X.A (call f us [(kw, ku)]) (EP X pins σ Q) X.xe s
end
section
variable {K : PySem.W.Frag}
end
end L2
end
section
set_option Elab.async false
set_option linter.all false
set_option maxRecDepth 100000
set_option maxHeartbeats 4000000
namespace L2
open PySem PySem.Spec PyProof.Rows
def Has (K : PySem.W.Frag) (mg : Str -> Option Value) (x : Str) (st : Stmt) : Prop := ∃ f fd, Fun K x x st f fd /\ mg x = some (.ref f)
def Fn (P : Program) (w : World) (K : PySem.W.Frag) (mg : Str -> Option Value) (base : Heap) (x : Str) (ps : List Str) (k : Nat) (sp : Sp) : Prop :=
  ∃ f fd, mg x = some (.ref f) /\ PySem.W.keepIn K (.ref f) = true /\ Binds K fd ps [] /\ FnOk P w K mg base CX0 k f fd ps sp
theorem Fn.imp {P : Program} {w : World} {K : PySem.W.Frag} {mg : Str -> Option Value} {base : Heap} {x : Str} {ps : List Str} {k : Nat} {sp sp' : Sp} (F : Fn P w K mg base x ps k sp) (h : ∀ vs H Q E, sp' vs H Q E -> sp vs H Q E) : Fn P w K mg base x ps k sp' :=
  let ⟨f, fd, a, b, c, d⟩ := F; ⟨f, fd, a, b, c, d.imp h⟩
section
variable {P : Program} {w : World} {K : PySem.W.Frag} {mg : Str -> Option Value} {base : Heap}
theorem Has.fn {x : Str} {st : Stmt} {N ps : List Str} {k : Nat} {sp : Sp} (h : Has K mg x st) (S : FnScope N ps (Zq0 st))
    (hb : ∀ (kV doc pm : Value) (an : Option Addr) (cdv ct : Value) (us : List Value), us.length = ps.length -> bindArgs (PySem.W.fnOf x x (Zq90 st) (Zq54 st) (Zq0 st) .none kV doc pm an cdv ct) ⟨us, []⟩ = pure (ps.zip us))
    (len : ∀ vs H Q E, sp vs H Q E -> vs.length = ps.length)
    (hbody : ∀ (f : Addr) (cdv : Value) (A : Around) (outer : List Env) (s : Shared) (H : Hp) (vs : List V) (Q : VK) (E : XK), Room k (A.deeper (envOfC x (Zq0 st) s.heap.objs.size f cdv)) -> sp vs H Q E ->
      ∃ t, PSs (cxOf CX0 P w K mg base N x (Zq0 st) f cdv A outer s H E).nox (Zq54 st) t /\ t { nx := fun _ H' => Q .non H', rt := Q } (Zq92 N vs) H) : Fn P w K mg base x ps (k + 1) sp := by
  obtain ⟨f, fd, F, hm⟩ := h
  exact ⟨f, fd, hm, F.kp, F.binds hb, F.ok S len fun cdv A outer s H vs Q E hr q => hbody f cdv A outer s H vs Q E hr q⟩
theorem Zq36 {h : Heap} {x : Str} {st : Stmt} {f : Addr} {oc : Value} {od an : Option Addr} {osl : Array (Option Value)} {kV doc pm cdv ct : Value} (KX : K.In h) (G : h.Ns mainGlobals mg)
    (a : PySem.W.nsIn K mainGlobals x = some (some (.ref f))) (l : K.lookup f = some ⟨oc, od, .func (PySem.W.fnOf x x (Zq90 st) (Zq54 st) (Zq0 st) .none kV doc pm an cdv ct), osl⟩)
    (c : PySem.W.codeIn K cdv x = true) (k : PySem.W.keepIn K (.ref f) = true) : Has K mg x st := ⟨f, _, fun_mk l c k, PySem.W.mg_of KX G a⟩
end
def tFn (sp : Sp) (t : TA) : TE := fun σ H Q => t σ H fun vs H1 => sp vs H1 Q E0
section
variable {X : Cx}
theorem pe_fn {k : Nat} {ps : List Str} {sp : Sp} {x : Str} {p pos : Pos} {e : Expr} {es : List Expr} {t : TA} (F : Fn X.prog X.w X.K X.mg X.base x ps k sp) (hr : Room k X.A) (hg : Gl X x) (ha : PA X (e :: es) t)
    (hdb : (x == ("__debug__" : Str)) = false := by decide) (he : starEach (e :: es) X.env = (false, eval e X.env) :: starEach es X.env := by rfl) (hpl : (backTo pos (starEach es X.env)).any (·.1) = false := by rfl) :
    PE X (.Call (.Name x p) (e :: es) [] pos) (tFn sp t) := by
  obtain ⟨f, fd, hm, hk, hb, G⟩ := F
  intro pins s σ H Q I h
  refine pe_call G hr hg hm hk hb .nil pass0 ha hdb he hpl pins s σ H Q I ?_
  have e : tCall sp [] E0 t = tFn sp t := by
    unfold tCall tFn
    simp only [List.append_nil]
  rw [e]
  exact h
theorem op_neg : UnR X (unaryOp .USub) (rU fun i => .int (-i)) := by
  intro pins s σ H x v Q I rx h
  obtain ⟨i, rfl, q⟩ := h
  obtain ⟨t, rfl⟩ := rx
  exact neg_int ⟨.int (-i), H, I.tok _, ⟨_, rfl⟩, q⟩
end
theorem Zq88 : bootBuiltins "len" = some (.builtin "len") := by decide +kernel
theorem b_all : bootBuiltins "all" = some (.builtin "all") := by decide +kernel
theorem Zq22 : bootBuiltins "isinstance" = some (.builtin "isinstance") := by decide +kernel
theorem Zq112 : bootBuiltins "list" = some (.type "list") := by decide +kernel
theorem b_bool : bootBuiltins "bool" = some (.type "bool") := by decide +kernel
theorem b_int : bootBuiltins "int" = some (.type "int") := by decide +kernel
theorem b_str : bootBuiltins "str" = some (.type "str") := by decide +kernel
theorem b_tuple : bootBuiltins "tuple" = some (.type "tuple") := by decide +kernel
def SameX (s : Addr) (H H' : Hp) : Prop := ∀ b o, b ≠ s -> H b = some o -> H' b = some o
theorem SameX.refl {s : Addr} {H : Hp} : SameX s H H := fun _ _ _ e => e
theorem SameX.trans {s : Addr} {H H1 H2 : Hp} (a : SameX s H H1) (b : SameX s H1 H2) : SameX s H H2 := fun c o n e => b c o n (a c o n e)
theorem SameX.upd {s : Addr} {H : Hp} {o : HO} : SameX s H (upd H s o) := fun b _ n e => by rw [Zq9 n]; exact e
theorem SameX.new {s l : Addr} {H : Hp} {o : HO} (h : H l = none) : SameX s H (L2.upd H l o) := fun b _ _ e => by rw [Zq9 (Zq12 e h)]; exact e
theorem Same.new {l : Addr} {H : Hp} {o : HO} (h : H l = none) : Same H (L2.upd H l o) := fun b _ e => by rw [Zq9 (Zq12 e h)]; exact e
theorem Same.x {s : Addr} {H H' : Hp} (h : Same H H') : SameX s H H' := fun b o _ e => h b o e
def SrcAt (H : Hp) (s la : Addr) : Prop := ∃ (ns : List Int) (i big st cnt : Int), H s = some (.lst [.ref la, .int i, .int big, .int st, .int cnt]) /\ H la = some (.lst (ns.map V.int)) /\ 0 <= i /\ la ≠ s
theorem SrcAt.keep {H H' : Hp} {s la : Addr} (h : SrcAt H s la) (k : Same H H') : SrcAt H' s la := by
  obtain ⟨ns, i, big, st, cnt, h1, h2, h3, h4⟩ := h
  exact ⟨ns, i, big, st, cnt, k _ _ h1, k _ _ h2, h3, h4⟩
theorem SrcAt.keepX {H H' : Hp} {s la l : Addr} (h : SrcAt H s la) (k : SameX l H H') (n1 : l ≠ s) (n2 : l ≠ la) : SrcAt H' s la := by
  obtain ⟨ns, i, big, st, cnt, h1, h2, h3, h4⟩ := h
  exact ⟨ns, i, big, st, cnt, k _ _ n1.symm h1, k _ _ n2.symm h2, h3, h4⟩
theorem SrcAt.ne {H : Hp} {s la l : Addr} (h : SrcAt H s la) (hl : H l = none) : l ≠ s /\ l ≠ la := by
  obtain ⟨ns, i, big, st, cnt, h1, h2, h3, h4⟩ := h
  exact ⟨(Zq12 h1 hl).symm, (Zq12 h2 hl).symm⟩
end L2
namespace L2
open PySem PySem.Spec PyProof.Rows
theorem iteD {c A B : Prop} [Decidable c] (h1 : c -> A) (h2 : ¬ c -> B) : if decide c = true then A else B := by
  by_cases h : c
  · rw [if_pos (decide_eq_true h)]; exact h1 h
  · rw [if_neg (by rw [decide_eq_false h]; exact Bool.false_ne_true)]; exact h2 h
theorem Zq81 {c A B : Prop} [Decidable c] (h1 : ¬ c -> A) (h2 : c -> B) : if (!decide c) = true then A else B := by
  by_cases h : c
  · rw [if_neg (by rw [decide_eq_true h]; exact Bool.false_ne_true)]; exact h2 h
  · rw [if_pos (by rw [decide_eq_false h]; rfl)]; exact h1 h
theorem iteB {b : Bool} {A B : Prop} (h1 : b = true -> A) (h2 : b = false -> B) : if b = true then A else B := by
  cases b
  · rw [if_neg Bool.false_ne_true]; exact h2 rfl
  · rw [if_pos rfl]; exact h1 rfl
theorem iteNB {b : Bool} {A B : Prop} (h1 : b = false -> A) (h2 : b = true -> B) : if (!b) = true then A else B := by
  cases b
  · exact h1 rfl
  · exact h2 rfl
theorem at_ints {ns : List Int} {i : Int} (h0 : 0 <= i) (h1 : i < (ns.map V.int).length) : atI (ns.map V.int) i = some (.int (ns.getD i.toNat 0)) := by
  obtain ⟨j, rfl⟩ := Int.eq_ofNat_of_zero_le h0
  rw [List.length_map] at h1
  refine Zq79 ?_
  rw [List.getElem?_map, Int.toNat_natCast, List.getD_eq_getElem?_getD, List.getElem?_eq_getElem (by omega)]
  rfl
end L2
namespace L2
open PySem PySem.Spec PyProof.Rows
def Nm (sc : Scope) (x : Str) (k : NameKind) : Prop := sc.names.lookup x = some k /\ (x == ("__debug__" : Str)) = false /\ (x == ("__classdict__" : Str)) = false /\ x ≠ "__name__"
instance (sc : Scope) (x : Str) (k : NameKind) : Decidable (Nm sc x k) := by unfold Nm; exact inferInstance
section
variable {X : Cx} {x : Str} {pos : Pos}
theorem pvN (i : Nat) (n : Nm X.env.scope x .local) (hN : X.N[i]? = some x := by rfl) : PE X (.Name x pos) (tVar i) := pe_var hN (.inl n.1) n.2.1 n.2.2.1
theorem pvC (i : Nat) (n : Nm X.env.scope x .cell) (hN : X.N[i]? = some x := by rfl) : PE X (.Name x pos) (tVar i) := pe_var hN (.inr (.inl n.1)) n.2.1 n.2.2.1
theorem pe_globN {v : V} {u : Value} (n : Nm X.env.scope x .globalImplicit) (hm : X.mg x = some u) (r : RelV v u) : PE X (.Name x pos) (tC v) := pe_glob n.1 hm r n.2.1
theorem pe_bltnN {v : V} {u : Value} (n : Nm X.env.scope x .globalImplicit) (hm : X.mg x = none) (hv : bootBuiltins x = some u) (r : RelV v u) : PE X (.Name x pos) (tC v) := pe_bltn n.1 hm hv r n.2.2.2 n.2.1
theorem pe_fnN {k : Nat} {ps : List Str} {sp : Sp} {p : Pos} {e : Expr} {es : List Expr} {t : TA} (F : Fn X.prog X.w X.K X.mg X.base x ps k sp) (hr : Room k X.A) (n : Nm X.env.scope x .globalImplicit) (ha : PA X (e :: es) t)
    (he : starEach (e :: es) X.env = (false, eval e X.env) :: starEach es X.env := by rfl) (hpl : (backTo pos (starEach es X.env)).any (·.1) = false := by rfl) :
    PE X (.Call (.Name x p) (e :: es) [] pos) (tFn sp t) := pe_fn F hr n.1 ha n.2.1 he hpl
theorem pe_callBN {p : Pos} {e : Expr} {es : List Expr} {t : TA} {id : String} {r : List V -> Hp -> VK -> Prop} (hc : Zq73 X (.builtin id) r) (n : Nm X.env.scope x .globalImplicit) (hm : X.mg x = none) (hv : bootBuiltins x = some (.builtin id)) (ha : PA X (e :: es) t)
    (he : starEach (e :: es) X.env = (false, eval e X.env) :: starEach es X.env := by rfl) (hpl : (backTo pos (starEach es X.env)).any (·.1) = false := by rfl) : PE X (.Call (.Name x p) (e :: es) [] pos) (tCB r t) := pe_callB hc n.1 hm hv ha n.2.2.2 n.2.1 he hpl
theorem pe_callTyN {p : Pos} {e : Expr} {es : List Expr} {t : TA} {T : String} {r : List V -> Hp -> VK -> Prop} (hc : Zq73 X (.type T) r) (n : Nm X.env.scope x .globalImplicit) (hm : X.mg x = none) (hv : bootBuiltins x = some (.type T)) (ha : PA X (e :: es) t)
    (he : starEach (e :: es) X.env = (false, eval e X.env) :: starEach es X.env := by rfl) (hpl : (backTo pos (starEach es X.env)).any (·.1) = false := by rfl) : PE X (.Call (.Name x p) (e :: es) [] pos) (tCB r t) := pe_callTy hc n.1 hm hv ha n.2.2.2 n.2.1 he hpl
theorem ps_setN {i : Nat} {e : Expr} {te : TE} {pos' : Pos} (hN : X.N.Nodup) (n : Nm X.env.scope x .local) (he : PE X e te) (hi : X.N[i]? = some x := by rfl) (hs : swapsWith e (some (.Name x pos')) pos.line X.env = pure false := by rfl) :
    PS X (.Assign [.Name x pos'] e pos) (tAsg te (Zq78 i)) := ps_set hN hi (.inl n.1) he hs (.inr n.1)
theorem ps_setNC {i : Nat} {e : Expr} {te : TE} {pos' : Pos} (hN : X.N.Nodup) (n : Nm X.env.scope x .cell) (he : PE X e te) (hf : X.fn x = true := by rfl) (hi : X.N[i]? = some x := by rfl) (hs : swapsWith e (some (.Name x pos')) pos.line X.env = pure false := by rfl) :
    PS X (.Assign [.Name x pos'] e pos) (tAsg te (Zq78 i)) := ps_set hN hi (.inr n.1) he hs (.inl hf)
theorem pg_nameN {i : Nat} (hN : X.N.Nodup) (n : Nm X.env.scope x .local) (hi : X.N[i]? = some x := by rfl) : PG X (.Name x pos) (Zq78 i) := pg_name hN hi (.inl n.1) (.inr n.1)
end
section
variable {X : Cx} {scope : Scope} {cl : List (Str × Addr)} {C : Addr} {N' : List Str} {s0 : Shared} {H0 : Hp} {ex : List Addr} {pn : List (Addr × Obj)} {x : Str} {pos : Pos}
theorem pvLN (i : Nat) (n : Nm scope x .local := by decide +kernel) (hN : N'[i]? = some x := by rfl) : PE (ccx X scope cl C N' s0 H0 ex pn) (.Name x pos) (tVar i) := pvL i hN n.1 n.2.1 n.2.2.1
theorem pvFN (i : Nat) (n : Nm scope x .free := by decide +kernel) (hN : N'[i]? = some x := by rfl) : PE (ccx X scope cl C N' s0 H0 ex pn) (.Name x pos) (tVar i) := pvF i hN n.1 n.2.1 n.2.2.1
theorem pgLN (i : Nat) (hnd : N'.Nodup) (n : Nm scope x .local := by decide +kernel) (hN : N'[i]? = some x := by rfl) : PG (ccx X scope cl C N' s0 H0 ex pn) (.Name x pos) (Zq78 i) := pgL i hnd hN n.1
theorem nmC (n : Nm scope x .globalImplicit := by decide +kernel) : Nm (ccx X scope cl C N' s0 H0 ex pn).env.scope x .globalImplicit := ⟨lookup_relabel (by decide) n.1, n.2⟩
theorem FrOk.consN {j : Nat} {fr : List (Str × Nat)} (n : Nm X.env.scope x .cell) (t : FrOk X scope fr) (m : Nm scope x .free := by decide +kernel) (h1 : X.N[j]? = some x := by rfl) : FrOk X scope ((x, j) :: fr) := .cons h1 (.inl n.1) m.1 t
end
end L2
end
section
set_option Elab.async false
set_option linter.all false
set_option maxRecDepth 100000
set_option maxHeartbeats 4000000
namespace L2
open PySem PySem.Spec PyProof.Rows
def cs (x : Str) : List Nat := x.cps.toList
theorem cs_inj {x y : Str} (h : cs x = cs y) : x = y := by
  obtain ⟨⟨a⟩⟩ := x
  obtain ⟨⟨b⟩⟩ := y
  have : a = b := h
  rw [this]
theorem Zq37 (x : Str) : (cs x).length = x.length := by unfold cs; exact Array.length_toList
theorem Zq56 (x y : Str) : cs (x ++ y) = cs x ++ cs y := by unfold cs; rw [PySem.Str.cps_append, Array.toList_append]
theorem cs_mk (l : List Nat) : cs ⟨l.toArray⟩ = l := by unfold cs; simp
theorem pick_range (xs : List Nat) (lo : Nat) : ∀ m, lo + m <= xs.length -> ((List.range m).map (lo + ·)).filterMap (xs[·]?) = (xs.drop lo).take m := by
  intro m
  induction m with
  | zero => intro _; simp
  | succ m ih =>
    intro h
    rw [List.range_succ, List.map_append, List.filterMap_append, ih (by omega), List.take_add_one, List.getElem?_drop]
    have : lo + m < xs.length := by omega
    simp [List.getElem?_eq_getElem this]
theorem cs_upto (x : Str) {i : Int} (h : 0 <= i) : cs (Txt.slice x none (some i)) = (cs x).take i.toNat := by
  have hl := Zq37 x
  have e : Builtin.Str.strSliceIndices none (some i) 1 x.length = (List.range (min i.toNat x.length)).map (0 + ·) := by
    unfold Builtin.Str.strSliceIndices sliceRange
    simp only [show (1 : Int) > 0 by decide, if_true]
    have e1 : (if i < 0 then i + (x.length : Int) else i) = i := if_neg (by omega)
    rw [e1]
    have e2 : (if (0 : Int) < max 0 (min i (x.length : Int)) then (max 0 (min i (x.length : Int)) - 0 + 1 - 1) / 1 else 0).toNat = min i.toNat x.length := by
      split <;> (try simp only [Int.ediv_one]) <;> omega
    rw [e2]
    apply List.map_congr_left
    intro k _
    omega
  unfold Txt.slice
  rw [e]
  split
  · rename_i hc
    have hc : ((List.range (min i.toNat x.length)).map (0 + ·)).length = x.length := by simpa using hc
    rw [List.length_map, List.length_range] at hc
    rw [List.take_of_length_le (by omega)]
  · rw [cs_mk]
    have := pick_range (cs x) 0 (min i.toNat x.length) (by omega)
    rw [List.drop_zero] at this
    have e3 : (cs x).take (min i.toNat x.length) = (cs x).take i.toNat := by
      rw [← hl]
      by_cases h1 : i.toNat <= (cs x).length
      · rw [Nat.min_eq_left h1]
      · rw [Nat.min_eq_right (by omega), List.take_of_length_le (by omega), List.take_of_length_le (by omega)]
    rw [← e3, ← this]
    congr 1
    funext k
    unfold cs
    simp
theorem cs_from (x : Str) {i : Int} (h : 0 <= i) : cs (Txt.slice x (some i) none) = (cs x).drop i.toNat := by
  have hl := Zq37 x
  have e : Builtin.Str.strSliceIndices (some i) none 1 x.length = (List.range (x.length - min i.toNat x.length)).map (min i.toNat x.length + ·) := by
    unfold Builtin.Str.strSliceIndices sliceRange
    simp only [show (1 : Int) > 0 by decide, if_true]
    have e1 : (if i < 0 then i + (x.length : Int) else i) = i := if_neg (by omega)
    rw [e1]
    have e2 : (if max 0 (min i (x.length : Int)) < (x.length : Int) then ((x.length : Int) - max 0 (min i (x.length : Int)) + 1 - 1) / 1 else 0).toNat = x.length - min i.toNat x.length := by
      split <;> (try simp only [Int.ediv_one]) <;> omega
    rw [e2]
    apply List.map_congr_left
    intro k _
    omega
  unfold Txt.slice
  rw [e]
  split
  · rename_i hc
    have hc : ((List.range (x.length - min i.toNat x.length)).map (min i.toNat x.length + ·)).length = x.length := by simpa using hc
    rw [List.length_map, List.length_range] at hc
    by_cases h0 : i.toNat = 0
    · rw [h0, List.drop_zero]
    · have : x.length = 0 := by omega
      rw [List.drop_of_length_le (by omega)]
      exact List.length_eq_zero_iff.mp (by omega)
  · rw [cs_mk]
    have := pick_range (cs x) (min i.toNat x.length) (x.length - min i.toNat x.length) (by omega)
    have e3 : ((cs x).drop (min i.toNat x.length)).take (x.length - min i.toNat x.length) = (cs x).drop i.toNat := by
      rw [List.take_of_length_le (by rw [List.length_drop]; omega)]
      by_cases h1 : i.toNat <= x.length
      · rw [Nat.min_eq_left h1]
      · rw [Nat.min_eq_right (by omega), List.drop_of_length_le (by omega), List.drop_of_length_le (by omega)]
    rw [← e3, ← this]
    congr 1
    funext k
    unfold cs
    simp
theorem cs_join0 : ∀ ys : List Str, cs (Txt.join "" ys) = (ys.map cs).flatten := by
  have go : ∀ (ys : List Str) (a : Array Nat), (ys.foldl (fun acc p => acc ++ (("" : Str)).cps ++ p.cps) a).toList = a.toList ++ (ys.map cs).flatten := by
    intro ys
    induction ys with
    | nil => intro a; simp
    | cons y r ih =>
      intro a
      rw [List.foldl_cons, ih]
      have : (("" : Str)).cps = #[] := by decide +kernel
      rw [this]
      simp [cs]
  intro ys
  show (cs (Builtin.Str.glued "" ys)) = _
  unfold Builtin.Str.glued
  cases ys with
  | nil => decide +kernel
  | cons y r =>
    show (List.foldl _ y.cps r).toList = _
    rw [go]
    rfl
def Low (x : Str) : Prop := ∀ c ∈ cs x, 97 <= c /\ c <= 122
def letters : Str := "abcdefghijklmnopqrstuvwxyz"
theorem letters_cs : cs letters = (List.range 26).map (97 + ·) := by decide +kernel
theorem letters_at {d : Int} (h0 : 0 <= d) (h1 : d < 26) : atI letters.cps.toList d = some (97 + d.toNat) := by
  obtain ⟨j, rfl⟩ := Int.eq_ofNat_of_zero_le h0
  refine Zq79 ?_
  show (cs letters)[j]? = _
  rw [letters_cs, List.getElem?_map, List.getElem?_range (by omega)]
  rfl
theorem comp_by {J : It} {nl : Nat} {fv : St} {g : TG} {tt : TTs} {te : TE} {Q : VK} {H : Hp} {xs : List V} (Pv : Nat -> List V -> Hp -> Prop) (h0 : Pv 0 [] H) (hn : xs.length <= 1000000)
    (hgo : ∀ i H ys, i < xs.length -> Pv i ys H -> J.go i H) (hy : ∀ i H x H' ys, i < xs.length -> Pv i ys H -> J.yld i H x H' -> H' = H /\ xs[i]? = some x) (hst : ∀ H ys, Pv xs.length ys H -> J.stop xs.length H)
    (hlen : ∀ i ys H, Pv i ys H -> ys.length <= i)
    (step : ∀ i x ys H, xs[i]? = some x -> Pv i ys H -> Zq80 nl fv g tt te x H (fun y H' => Pv (i + 1) (ys ++ [y]) H') fun H' => Pv (i + 1) ys H')
    (hd : ∀ ys H, Pv xs.length ys H -> ∀ l, H l = none -> Q (.ref l) (upd H l (.lst ys))) :
    Zq99 J nl fv g tt te Q H := by
  have mono : ∀ {x : V} {H : Hp} {Y Y' : V -> Hp -> Prop} {N N' : Hp -> Prop}, Zq80 nl fv g tt te x H Y N -> Y = Y' -> N = N' -> Zq80 nl fv g tt te x H Y' N' := fun h e1 e2 => by subst e1; subst e2; exact h
  refine ⟨fun i m ys H => m = xs.length - i /\ i <= xs.length /\ Pv i ys H, ⟨xs.length, by simp, Nat.zero_le _, h0⟩, ?_⟩
  rintro i m ys H ⟨rfl, hi, p⟩
  have hl := hlen i ys H p
  have hz : (1000000 : Nat) < sizeLine := by decide
  by_cases hlt : i < xs.length
  · refine .inr ⟨hgo i H ys hlt p, by omega, xs.length - (i + 1), by omega, fun x H' y => ?_⟩
    obtain ⟨e, ex⟩ := hy i H x H' ys hlt p y
    subst e
    refine mono (step i x ys _ ex p) ?_ ?_
    · funext y H4
      apply propext
      exact ⟨fun q => ⟨rfl, hlt, q⟩, fun q => q.2.2⟩
    · funext H3
      apply propext
      exact ⟨fun q => ⟨rfl, hlt, q⟩, fun q => q.2.2⟩
  · have e : i = xs.length := by omega
    subst e
    exact .inl ⟨hst H ys p, by omega, hd ys H p⟩
def rngV (lo : Int) (n : Nat) : List V := (List.range n).map fun k => V.int (lo + (k : Nat))
theorem rngV_len (lo : Int) (n : Nat) : (rngV lo n).length = n := by simp [rngV]
theorem rngV_get {lo : Int} {n i : Nat} {x : V} (h : (rngV lo n)[i]? = some x) : i < n /\ x = .int (lo + (i : Nat)) := by
  have hi : i < n := by have := (List.getElem?_eq_some_iff.mp h).1; rwa [rngV_len] at this
  refine ⟨hi, ?_⟩
  unfold rngV at h
  rw [List.getElem?_map, List.getElem?_range hi] at h
  exact (Option.some.inj h).symm
theorem comp_range {lo : Int} {n : Nat} {nl : Nat} {fv : St} {g : TG} {tt : TTs} {te : TE} {Q : VK} {H : Hp} (Pv : Nat -> List V -> Hp -> Prop) (h0 : Pv 0 [] H) (hn : n <= 1000000)
    (hlen : ∀ i ys H, Pv i ys H -> ys.length <= i)
    (step : ∀ i ys H, i < n -> Pv i ys H -> Zq80 nl fv g tt te (.int (lo + (i : Nat))) H (fun y H' => Pv (i + 1) (ys ++ [y]) H') fun H' => Pv (i + 1) ys H')
    (hd : ∀ ys H, Pv n ys H -> ∀ l, H l = none -> Q (.ref l) (upd H l (.lst ys))) :
    Zq99 (Itr lo n) nl fv g tt te Q H := by
  refine comp_by (xs := rngV lo n) Pv h0 (by rw [rngV_len]; exact hn) ?_ ?_ ?_ hlen ?_ ?_
  · intro i H ys hi _
    rw [rngV_len] at hi
    exact hi
  · rintro i H x H' ys hi _ ⟨rfl, rfl⟩
    rw [rngV_len] at hi
    refine ⟨rfl, ?_⟩
    unfold rngV
    rw [List.getElem?_map, List.getElem?_range hi]
    rfl
  · intro H ys _
    rw [rngV_len]
    exact Nat.le_refl _
  · intro i x ys H hx p
    obtain ⟨hi, rfl⟩ := rngV_get hx
    exact step i ys H hi p
  · intro ys H p
    rw [rngV_len] at p
    exact hd ys H p
theorem comp_list {K : PySem.W.Frag} {a : Addr} {xs : List V} {nl : Nat} {fv : St} {g : TG} {tt : TTs} {te : TE} {Q : VK} {H : Hp} (Pv : Nat -> List V -> Hp -> Prop) (h0 : Pv 0 [] H) (hn : xs.length <= 1000000)
    (hl : ∀ i ys H, i <= xs.length -> Pv i ys H -> SqL K H a xs)
    (hlen : ∀ i ys H, Pv i ys H -> ys.length <= i)
    (step : ∀ i x ys H, xs[i]? = some x -> Pv i ys H -> Zq80 nl fv g tt te x H (fun y H' => Pv (i + 1) (ys ++ [y]) H') fun H' => Pv (i + 1) ys H')
    (hd : ∀ ys H, Pv xs.length ys H -> ∀ l, H l = none -> Q (.ref l) (upd H l (.lst ys))) :
    Zq99 (Itl K a) nl fv g tt te Q H := by
  refine comp_by (xs := xs) Pv h0 hn ?_ ?_ ?_ hlen step hd
  · intro i H ys hi p
    exact ⟨xs, xs[i], hl i ys H (Nat.le_of_lt hi) p, by simp [hi]⟩
  · rintro i H x H' ys hi p ⟨rfl, y⟩
    exact ⟨rfl, y xs (hl i ys _ (Nat.le_of_lt hi) p)⟩
  · intro H ys p
    exact ⟨xs, hl _ ys H (Nat.le_refl _) p, Nat.le_refl _⟩
theorem comp_str {x : Str} {nl : Nat} {fv : St} {g : TG} {tt : TTs} {te : TE} {Q : VK} {H : Hp} (Pv : Nat -> List V -> Hp -> Prop) (h0 : Pv 0 [] H) (hn : x.length <= 1000000)
    (hlen : ∀ i ys H, Pv i ys H -> ys.length <= i)
    (step : ∀ i ys H, i < x.length -> Pv i ys H -> Zq80 nl fv g tt te (sgn x i) H (fun y H' => Pv (i + 1) (ys ++ [y]) H') fun H' => Pv (i + 1) ys H')
    (hd : ∀ ys H, Pv x.length ys H -> ∀ l, H l = none -> Q (.ref l) (upd H l (.lst ys))) :
    Zq99 (Its x) nl fv g tt te Q H := by
  have ln : ((List.range x.length).map fun i => sgn x i).length = x.length := by simp
  refine comp_by (xs := (List.range x.length).map fun i => sgn x i) Pv h0 (by rw [ln]; exact hn) ?_ ?_ ?_ hlen ?_ ?_
  · intro i H ys hi _
    rw [ln] at hi
    exact hi
  · rintro i H v H' ys hi _ ⟨rfl, rfl⟩
    rw [ln] at hi
    refine ⟨rfl, ?_⟩
    rw [List.getElem?_map, List.getElem?_range hi]
    rfl
  · intro H ys _
    rw [ln]
    exact rfl
  · intro i v ys H hx p
    have hi : i < x.length := by have := (List.getElem?_eq_some_iff.mp hx).1; rwa [ln] at this
    rw [List.getElem?_map, List.getElem?_range hi] at hx
    cases hx
    exact step i ys H hi p
  · intro ys H p
    rw [ln] at p
    exact hd ys H p
theorem for_str {x : Str} {g : TG} {tb : TS} {D : Ends} {σ : St} {H : Hp} (Pv : Nat -> St -> Hp -> Prop) (h0 : Pv 0 σ H)
    (hs : ∀ i σ H, i < x.length -> Pv i σ H -> g (sgn x i) σ H fun σ2 H2 => tb { D with nx := Pv (i + 1), ct := Pv (i + 1), bk := D.nx } σ2 H2) (hd : ∀ σ H, Pv x.length σ H -> D.nx σ H) :
    ∃ W : Nat -> Nat -> St -> Hp -> Prop, (∃ m, W 0 m σ H) /\ ∀ i m σ H, W i m σ H ->
      ((Its x).stop i H /\ D.nx σ H) \/ ((Its x).go i H /\ ∃ N : St -> Hp -> Prop, (∀ σ' H', N σ' H' -> ∃ m', m' < m /\ W (i + 1) m' σ' H') /\ ∀ v H', (Its x).yld i H v H' -> g v σ H' fun σ2 H2 => tb { D with nx := N, ct := N, bk := D.nx } σ2 H2) := by
  refine ⟨fun i m σ H => m = x.length - i /\ i <= x.length /\ Pv i σ H, ⟨x.length, by simp, Nat.zero_le _, h0⟩, ?_⟩
  rintro i m σ H ⟨rfl, hi, p⟩
  by_cases hlt : i < x.length
  · refine .inr ⟨hlt, Pv (i + 1), fun σ' H' p' => ⟨x.length - (i + 1), by omega, rfl, hlt, p'⟩, fun v H' y => ?_⟩
    obtain ⟨e, y⟩ := y
    subst e y
    exact hs i σ _ hlt p
  · have e : i = x.length := by omega
    subst e
    exact .inl ⟨rfl, hd σ H p⟩
theorem len1 {ls : St} (h : ls.length = 1) : ∃ a, ls = [a] := by
  match ls, h with
  | [a], _ => exact ⟨a, rfl⟩
theorem len2 {ls : St} (h : ls.length = 2) : ∃ a b, ls = [a, b] := by
  match ls, h with
  | [a, b], _ => exact ⟨a, b, rfl⟩
end L2
end
section
set_option Elab.async false
set_option linter.all false
set_option maxRecDepth 100000
set_option maxHeartbeats 4000000
namespace L2
open PySem PySem.Spec PyProof.Rows
structure QE (X : Cx) (e : Expr) (t : TE) : Prop where
  h : PE X e t
structure QT (X : Cx) (e : Expr) (t : TT) : Prop where
  h : PT X e t
structure QW (X : Cx) (e : Expr) (t : TT) : Prop where
  h : PW X e t
structure QS (X : Cx) (s : Stmt) (t : TS) : Prop where
  h : PS X s t
structure QSs (X : Cx) (s : List Stmt) (t : TS) : Prop where
  h : PSs X s t
structure QA (X : Cx) (es : List Expr) (t : TA) : Prop where
  h : PA X es t
structure QG (X : Cx) (e : Expr) (t : TG) : Prop where
  h : PG X e t
structure QGs (X : Cx) (es : List Expr) (t : TGs) : Prop where
  h : PGs X es t
structure QI (X : Cx) (tg iter : Expr) (t : TI) : Prop where
  h : PI X tg iter t
structure QO (X : Cx) (e : Option Expr) (t : TO) : Prop where
  h : PO X e t
structure QTs (X : Cx) (es : List Expr) (t : TTs) : Prop where
  h : PTs X es t
structure QOp (X : Cx) (f : Value -> Value -> Sem Value) (r : R2) : Prop where
  h : OpR X f r
structure QUn (X : Cx) (f : Value -> Sem Value) (r : V -> Hp -> VK -> Prop) : Prop where
  h : UnR X f r
structure QC (X : Cx) (f : Value) (r : List V -> Hp -> VK -> Prop) : Prop where
  h : Zq73 X f r
structure QCk (X : Cx) (f : Value) (kw : Str) (r : List V -> V -> Hp -> VK -> Prop) : Prop where
  h : CallK X f kw r
structure QIx (X : Cx) (r : R2) : Prop where
  h : IxR X r
structure QSl (X : Cx) (r : V -> Option Int -> Option Int -> Hp -> VK -> Prop) : Prop where
  h : SlR X r
structure QM (X : Cx) (id : String) (r : V -> List V -> Hp -> VK -> Prop) : Prop where
  h : MtR X id r
structure QSet (X : Cx) (t : TSet) : Prop where
  h : PSet X t
structure QIp (X : Cx) (op : Operator) (t : TIp) : Prop where
  h : PIp X op t
section
variable {X : Cx} {a b c : Expr} {ta tb tc te : TE} {tA tB' : TT} {pos p p2 pos' : Pos} {st : Stmt} {rest : List Stmt} {t u : TS} {x : Str} {es : List Expr} {e : Expr}
theorem Zq17 : QSs X [] Zq40 := ⟨pss_nil⟩
theorem Zq3 (h1 : QS X st t) (h2 : QSs X rest u) : QSs X (st :: rest) (tSeq t u) := ⟨pss_cons h1.h h2.h⟩
theorem Zq6 (h1 : QS X st t) : QSs X [st] t := ⟨pss_one h1.h⟩
theorem Zq14 (h : QE X e te) : QS X (.Return (some e) pos) (tRet te) := ⟨ps_ret h.h⟩
theorem Zq26 {c : Expr} {a b : List Stmt} {tc : TT} (hc : QT X c tc) (ha : QSs X a t) (hb : QSs X b u) : QS X (.If c a b pos) (tIfS tc t u) := ⟨ps_if hc.h ha.h hb.h⟩
theorem qs_expr (he : QE X e te) (hs : swapsWith e none pos.line X.env = pure false := by rfl) : QS X (.Expr e pos) (tDrop te) := ⟨ps_expr he.h hs⟩
theorem Zq10 {i : Nat} (hN : X.N.Nodup) (n : Nm X.env.scope x .local) (he : QE X e te) (hi : X.N[i]? = some x := by rfl) (hs : swapsWith e (some (.Name x pos')) pos.line X.env = pure false := by rfl) :
    QS X (.Assign [.Name x pos'] e pos) (tAsg te (Zq78 i)) := ⟨ps_setN hN n he.h hi hs⟩
theorem qs_setNC {i : Nat} (hN : X.N.Nodup) (n : Nm X.env.scope x .cell) (he : QE X e te) (hf : X.fn x = true := by rfl) (hi : X.N[i]? = some x := by rfl) (hs : swapsWith e (some (.Name x pos')) pos.line X.env = pure false := by rfl) :
    QS X (.Assign [.Name x pos'] e pos) (tAsg te (Zq78 i)) := ⟨ps_setNC hN n he.h hf hi hs⟩
theorem qs_asg {tg : Expr} {g : TG} (he : QE X e te) (hg : QG X tg g) (hs : swapsWithSole [tg] e pos.line X.env = pure false := by rfl) (hw : swappedStores [tg] e X.env = pure none := by rfl)
    (h1 : (assignEach [tg] X.env).map (·.2) = [assign tg X.env] := by rfl) : QS X (.Assign [tg] e pos) (tAsg te g) := ⟨ps_asg he.h hg.h hs hw h1⟩
def Zq130 (J : It) (g : TG) (tb : TS) (D : Ends) (σ : St) (H1 : Hp) : Prop := ∃ W : Nat -> Nat -> St -> Hp -> Prop, (∃ m, W 0 m σ H1) /\ ∀ i m σ H, W i m σ H ->
  (J.stop i H /\ D.nx σ H) \/ (J.go i H /\ ∃ N : St -> Hp -> Prop, (∀ σ' H', N σ' H' -> ∃ m', m' < m /\ W (i + 1) m' σ' H') /\ ∀ x H', J.yld i H x H' -> g x σ H' fun σ2 H2 => tb { D with nx := N, ct := N, bk := D.nx } σ2 H2)
def tForQ (wi : TI) (g : TG) (tb : TS) : TS := fun D σ H => wi σ H fun J H1 => Zq130 J g tb D σ H1
theorem Zq100 {tg iter : Expr} {body : List Stmt} {wi : TI} {g : TG} (hp : PassesOwn (model X.prog X.w) X.A X.env X.xe) (hc : X.calm = true) (hi : QI X tg iter wi) (hg : QG X tg g) (hb : QSs X body t)
    (hs : ∀ x, foldedSetIterable iter X.env x = pure x := by intro _; rfl) : QS X (.For tg iter body [] pos) (tForQ wi g t) := ⟨ps_for hp hc hi.h hg.h hb.h hs⟩
theorem Zq67 {i : Nat} (hN : X.N.Nodup) (n : Nm X.env.scope x .local) (hi : X.N[i]? = some x := by rfl) : QG X (.Name x pos) (Zq78 i) := ⟨pg_nameN hN n hi⟩
theorem qgs_nil : QGs X [] gNil := ⟨pgs_nil⟩
theorem Zq131 {t : TG} {u : TGs} (h1 : QG X e t) (h2 : QGs X es u) (hs : (assignEach (e :: es) X.env).map (·.2) = assign e X.env :: (assignEach es X.env).map (·.2) := by rfl) : QGs X (e :: es) (gCons t u) := ⟨pgs_cons h1.h h2.h hs⟩
theorem qg_tup {k : Nat} {t : TGs} {n : Nat} (hc : X.calm = true) (h : QGs X es t) (hn : (assignEach es X.env).length = n := by rfl) (hst : (assignEach es X.env).findIdx? (·.1) = none := by rfl) : QG X (.Tuple es k pos) (gTup X.K n t) := ⟨pg_tup hc h.h hn hst⟩
theorem qg_sub {o i : Expr} {to ti : TE} {t : TSet} (ho : QE X o to) (hi : QE X i ti) (hs : QSet X t)
    (ha : ∀ v, assign (.Subscript o i pos) X.env v = (do
      let ov ← holding [v] (eval o X.env)
      let iv ← holding [v, ov] (eval i X.env)
      standAt pos
      holding [v, ov, iv] (setItem ov iv v)
      release [v, ov, iv] []) := by intro _; rfl) : QG X (.Subscript o i pos) (gSub to ti t) := ⟨pg_sub ho.h hi.h hs.h ha⟩
theorem qset_list : QSet X rSetL := ⟨set_list⟩
variable {tg : Expr}
theorem qi_list {l : Expr} (hl : QE X l te) : QI X tg l (iList X.K te) := ⟨pi_list hl.h⟩
theorem qi_tup {l : Expr} (hl : QE X l te) : QI X tg l (iTup X.K te) := ⟨pi_tup hl.h⟩
theorem qi_str {l : Expr} (hl : QE X l te) : QI X tg l (iStr te) := ⟨pi_str hl.h⟩
theorem qi_range1 {a : Expr} {ta : TA} (hg : Gl X "range") (hm : X.mg "range" = none) (ha : QA X [a] ta) (hs : starEach [a] X.env = [(false, eval a X.env)] := by rfl) : QI X tg (.Call (.Name "range" p) [a] [] pos) (iRng1 ta) := ⟨pi_range1 hg hm ha.h hs⟩
theorem Zq2 : QA X [] tNil := ⟨pa_nil⟩
theorem Zq1 {t : TA} (ha : QE X e te) (hr : QA X es t) (hs : starEach (e :: es) X.env = (false, eval e X.env) :: starEach es X.env := by rfl) : QA X (e :: es) (Zq87 te t) := ⟨pa_cons ha.h hr.h hs⟩
theorem Zq71 {t : TA} (h : QA X es t) : QE X (.List es pos) (tLst t) := ⟨pe_lst h.h⟩
theorem Zq101 (ha : QT X a tA) : QT X (.UnaryOp .Not a pos) (tNot tA) := ⟨pt_not ha.h⟩
theorem QW.pt (h : QW X e tA) : QT X e tA := ⟨PW.pt h.h⟩
theorem qw_and1 (ha : QT X a tA) : QW X (.BoolOp .And [a] pos) tA := ⟨pw_and1 ha.h⟩
theorem qw_or1 (ha : QT X a tA) : QW X (.BoolOp .Or [a] pos) tA := ⟨pw_or1 ha.h⟩
theorem qw_and {rest : List Expr} (ha : QT X a tA) (hb : QW X (.BoolOp .And (b :: rest) pos) tB') : QW X (.BoolOp .And (a :: b :: rest) pos) (tAnd tA tB') := ⟨pw_and ha.h hb.h⟩
theorem qw_or {rest : List Expr} (ha : QT X a tA) (hb : QW X (.BoolOp .Or (b :: rest) pos) tB') : QW X (.BoolOp .Or (a :: b :: rest) pos) (tOr tA tB') := ⟨pw_or ha.h hb.h⟩
theorem Zq25 {op : CmpOp} {r : R2} (ho : QOp X (compareOp op) r) (ha : QE X a ta) (hb : QE X b tb) (hm : behindInMarks op b = false) : QT X (.Compare a [op] [b] pos) (tTest (tOp r ta tb)) := ⟨pt_cmpR ho.h ha.h hb.h hm⟩
theorem qe_cmpR {op : CmpOp} {r : R2} (ho : QOp X (compareOp op) r) (ha : QE X a ta) (hb : QE X b tb) (hm : behindInMarks op b = false) : QE X (.Compare a [op] [b] pos) (tOp r ta tb) := ⟨pe_cmpR ho.h ha.h hb.h hm⟩
theorem qe_chain {op op' : CmpOp} {r r' : R2} (ho : QOp X (compareOp op) r) (ho' : QOp X (compareOp op') r') (ha : QE X a ta) (hb : QE X b tb) (hc : QE X c tc)
    (hm : lastMarks [op, op'] [b, c] = false := by with_unfolding_all rfl) : QE X (.Compare a [op, op'] [b, c] pos) (tChain r r' ta tb tc) := ⟨pe_chain ho.h ho'.h ha.h hb.h hc.h hm⟩
theorem qt_chain {op op' : CmpOp} {r r' : R2} (ho : QOp X (compareOp op) r) (ho' : QOp X (compareOp op') r') (ha : QE X a ta) (hb : QE X b tb) (hc : QE X c tc)
    (hm : lastMarks [op, op'] [b, c] = false := by with_unfolding_all rfl) : QT X (.Compare a [op, op'] [b, c] pos) (tTest (tChain r r' ta tb tc)) := ⟨pt_chain ho.h ho'.h ha.h hb.h hc.h hm⟩
theorem Zq52 (h : QE X e te) (he : ∀ whole, isTrue e X.env whole = (do let v ← whole; standAt e.pos; holding [v] (truthy v)) := by intro _; rfl) : QT X e (tB te) := ⟨pt_val h.h he⟩
theorem Zq4 {i j pos} : QE X (.Constant (.int i) j pos) (tC (.int i)) := ⟨pe_int⟩
theorem Zq109 {b j pos} : QE X (.Constant (.bool b) j pos) (tC (.bl b)) := ⟨pe_bl⟩
theorem qe_non {j pos} : QE X (.Constant .none j pos) (tC .non) := ⟨pe_non⟩
theorem Zq7 {x j pos} : QE X (.Constant (.str x) j pos) (tC (.str x)) := ⟨pe_str⟩
theorem qvN (i : Nat) (n : Nm X.env.scope x .local) (hN : X.N[i]? = some x := by rfl) : QE X (.Name x pos) (tVar i) := ⟨pvN i n hN⟩
theorem qvC (i : Nat) (n : Nm X.env.scope x .cell) (hN : X.N[i]? = some x := by rfl) : QE X (.Name x pos) (tVar i) := ⟨pvC i n hN⟩
theorem Zq89 {v : V} {u : Value} (n : Nm X.env.scope x .globalImplicit) (hm : X.mg x = some u) (r : RelV v u) : QE X (.Name x pos) (tC v) := ⟨pe_globN n hm r⟩
theorem Zq41 {v : V} {u : Value} (n : Nm X.env.scope x .globalImplicit) (hm : X.mg x = none) (hv : bootBuiltins x = some u) (r : RelV v u) : QE X (.Name x pos) (tC v) := ⟨pe_bltnN n hm hv r⟩
theorem Zq16 {op : Operator} {r : R2} (ho : QOp X (binaryOp op) r) (ha : QE X a ta) (hb : QE X b tb) : QE X (.BinOp a op b pos) (tOp r ta tb) := ⟨pe_op ho.h ha.h hb.h⟩
theorem qe_un {op : UnaryOp} {r : V -> Hp -> VK -> Prop} (ho : QUn X (unaryOp op) r) (ha : QE X a ta) : QE X (.UnaryOp op a pos) (tUn r ta) := ⟨pe_un ho.h ha.h⟩
theorem qe_not (ha : QE X a ta) : QE X (.UnaryOp .Not a pos) (tNotV ta) := ⟨pe_not ha.h⟩
theorem qe_one {op} (h : QE X a ta) : QE X (.BoolOp op [a] pos) ta := ⟨pe_one h.h⟩
theorem qe_and {rest : List Expr} (ha : QE X a ta) (hb : QE X (.BoolOp .And (b :: rest) pos) tb) : QE X (.BoolOp .And (a :: b :: rest) pos) (tAndV ta tb) := ⟨pe_and ha.h hb.h⟩
theorem qe_or {rest : List Expr} (ha : QE X a ta) (hb : QE X (.BoolOp .Or (b :: rest) pos) tb) : QE X (.BoolOp .Or (a :: b :: rest) pos) (tOrV ta tb) := ⟨pe_or ha.h hb.h⟩
theorem qe_ifExp (hc : QT X c tA) (ha : QE X a ta) (hb : QE X b tb) : QE X (.IfExp c a b pos) (tIf tA ta tb) := ⟨pe_ifExp hc.h ha.h hb.h⟩
theorem Zq82 : QO X none tNoPart := ⟨po_none⟩
theorem Zq50 (h : QE X e te) : QO X (some e) (tPart te) := ⟨po_some h.h⟩
theorem Zq53 {lo hi : Option Expr} {tl th : TO} {r : V -> Option Int -> Option Int -> Hp -> VK -> Prop} (hr : QSl X r) (he : QE X e te) (hl : QO X lo tl) (hu : QO X hi th) : QE X (.Subscript e (.Slice lo hi none p2) pos) (tSl r te tl th) := ⟨pe_slice hr.h he.h hl.h hu.h⟩
theorem Zq28 {r : R2} (hr : QIx X r) (ha : QE X a ta) (hb : QE X b tb) (hs : PlainIx b) : QE X (.Subscript a b pos) (tOp r ta tb) := ⟨pe_ix hr.h ha.h hb.h hs⟩
theorem Zq8 {k : Nat} {ps : List Str} {sp : Sp} {t : TA} (F : Fn X.prog X.w X.K X.mg X.base x ps k sp) (hr : Room k X.A) (n : Nm X.env.scope x .globalImplicit) (ha : QA X (e :: es) t)
    (he : starEach (e :: es) X.env = (false, eval e X.env) :: starEach es X.env := by rfl) (hpl : (backTo pos (starEach es X.env)).any (·.1) = false := by rfl) :
    QE X (.Call (.Name x p) (e :: es) [] pos) (tFn sp t) := ⟨pe_fnN F hr n ha.h he hpl⟩
theorem Zq11 {t : TA} {id : String} {r : List V -> Hp -> VK -> Prop} (hc : QC X (.builtin id) r) (n : Nm X.env.scope x .globalImplicit) (hm : X.mg x = none) (hv : bootBuiltins x = some (.builtin id)) (ha : QA X (e :: es) t)
    (he : starEach (e :: es) X.env = (false, eval e X.env) :: starEach es X.env := by rfl) (hpl : (backTo pos (starEach es X.env)).any (·.1) = false := by rfl) : QE X (.Call (.Name x p) (e :: es) [] pos) (tCB r t) := ⟨pe_callBN hc.h n hm hv ha.h he hpl⟩
theorem Zq45 {t : TA} {T : String} {r : List V -> Hp -> VK -> Prop} (hc : QC X (.type T) r) (n : Nm X.env.scope x .globalImplicit) (hm : X.mg x = none) (hv : bootBuiltins x = some (.type T)) (ha : QA X (e :: es) t)
    (he : starEach (e :: es) X.env = (false, eval e X.env) :: starEach es X.env := by rfl) (hpl : (backTo pos (starEach es X.env)).any (·.1) = false := by rfl) : QE X (.Call (.Name x p) (e :: es) [] pos) (tCB r t) := ⟨pe_callTyN hc.h n hm hv ha.h he hpl⟩
theorem Zq110 {o : Expr} {to : TE} {t : TA} {name : Str} {apos cpos : Pos} {T id : String} {r : V -> List V -> Hp -> VK -> Prop} (pa : PlainAttrs T) (slot : Slot T name id) (hty : typeOf (.builtin id) = pure (.type "method_descriptor")) (hm : QM X id r) (ho : QE X o to) (ha : QA X (e :: es) t)
    (hbase : attributeBase o name X.env (eval o X.env) = eval o X.env := by rfl)
    (hfew : ((backTo cpos (starEach (e :: es) X.env)).all (fun x => !x.1) && (backToKw cpos (keywordEach [] X.env)).all (fun x => x.1.isSome)
      && decide ((e :: es).length + ([] : List Keyword).length + (if ([] : List Keyword).isEmpty then 0 else 1) < 30)) = true := by rfl)
    (hline : (apos.endLine == cpos.line) = true := by rfl) (hs : starEach (e :: es) X.env = (false, eval e X.env) :: starEach es X.env := by rfl) (hplain : (backTo cpos (starEach es X.env)).any (·.1) = false := by rfl) :
    QE X (.Call (.Attribute o name apos) (e :: es) [] cpos) (tBM X.K T r to t) := ⟨pe_bm pa slot hty hm.h ho.h ha.h hbase hfew hline hs hplain⟩
theorem Zq55 : QOp X (binaryOp .Add) (rI0 fun i j => .int (i + j)) := ⟨op_add⟩
theorem qop_mul : QOp X (binaryOp .Mult) (rI CMul fun i j => .int (i * j)) := ⟨op_mul⟩
theorem qop_fdiv : QOp X (binaryOp .FloorDiv) (rI CDiv fun i j => .int (i / j)) := ⟨op_fdiv⟩
theorem qop_mod : QOp X (binaryOp .Mod) (rI (fun _ j => 0 < j) fun i j => .int (i % j)) := ⟨op_mod⟩
theorem qop_pow : QOp X (binaryOp .Pow) (rI CPow fun i j => .int (i ^ j.toNat)) := ⟨op_pow⟩
theorem qop_neg : QUn X (unaryOp .USub) (rU fun i => .int (-i)) := ⟨op_neg⟩
def rStr2 (g : Str -> Str -> V) : R2 := fun x y H Q => ∃ i j, x = .str i /\ y = .str j /\ Q (g i j) H
theorem qop_le_str : QOp X (compareOp .LtE) (rStr2 fun i j => .bl (!decide (j.cps.toList < i.cps.toList))) := ⟨op_le_str⟩
def rCatS : R2 := fun x y H Q => ∃ i j, x = .str i /\ y = .str j /\ i.length + j.length <= sizeLine /\ Q (.str (i ++ j)) H
theorem Zq46 : QOp X (binaryOp .Add) rCatS := ⟨op_add_str⟩
theorem Zq91 : QOp X (binaryOp .Add) rCat := ⟨op_cat⟩
theorem Zq72 : QOp X (compareOp .Eq) rEq := ⟨op_eq⟩
theorem qop_ne : QOp X (compareOp .NotEq) rNe := ⟨op_ne⟩
theorem qop_lt : QOp X (compareOp .Lt) (rI0 fun i j => .bl (decide (i < j))) := ⟨op_lt⟩
theorem qop_le : QOp X (compareOp .LtE) (rI0 fun i j => .bl (decide (i <= j))) := ⟨op_le⟩
theorem qop_gt : QOp X (compareOp .Gt) (rI0 fun i j => .bl (decide (j < i))) := ⟨op_gt⟩
theorem qop_ge : QOp X (compareOp .GtE) (rI0 fun i j => .bl (decide (j <= i))) := ⟨op_ge⟩
def rIsN : R2 := fun x y H Q => y = .non /\ Q (.bl (decide (x = .non))) H
theorem qop_isN : QOp X (compareOp .Is) rIsN := ⟨op_isN⟩
theorem qop_notIn_seq : QOp X (compareOp .NotIn) (rIn X.K true) := ⟨op_notIn_seq⟩
theorem Zq27 : QIx X (rIxL X.K) := ⟨ix_list⟩
theorem Zq140 : QIx X (rIxT X.K) := ⟨ix_tup⟩
theorem qix_str : QIx X rIxS := ⟨ix_str⟩
theorem qsl_list : QSl X (rSlL X.K) := ⟨sl_list⟩
theorem qsl_tup : QSl X (rSlT X.K) := ⟨sl_tup⟩
def rSlS : V -> Option Int -> Option Int -> Hp -> VK -> Prop := fun x lo hi H Q => ∃ z, x = .str z /\ z.length <= sizeLine /\ Q (.str (Txt.slice z lo hi)) H
theorem qsl_str : QSl X rSlS := ⟨sl_str⟩
def rLenSeq (K : PySem.W.Frag) : List V -> Hp -> VK -> Prop := fun xs H Q => ∃ p ys, xs = [.ref p] /\ (SqL K H p ys \/ SqT K H p ys) /\ Q (.int ys.length) H
theorem Zq48 : QC X (.builtin "len") (rLenSeq X.K) := ⟨call_len_seq⟩
def rLenS : List V -> Hp -> VK -> Prop := fun xs H Q => ∃ z, xs = [.str z] /\ z.length <= sizeLine /\ Q (.int z.length) H
theorem qcall_len_str : QC X (.builtin "len") rLenS := ⟨call_len_str⟩
def rAll (K : PySem.W.Frag) : List V -> Hp -> VK -> Prop := fun xs H Q => ∃ (a : Addr) (bs : List Bool), xs = [.ref a] /\ SqL K H a (bs.map V.bl) /\ Q (.bl (bs.all id)) H
theorem qcall_all (hc : X.calm = true) : QC X (.builtin "all") (rAll X.K) := ⟨call_all hc⟩
def rIsInst (K : PySem.W.Frag) : List V -> Hp -> VK -> Prop := fun xs H Q => ∃ x n t b, xs = [x, .ty n] /\ TyOf K H x t /\ PySem.W.kitOne K t (.type n) = some b /\ Q (.bl b) H
theorem Zq24 : QC X (.builtin "isinstance") (rIsInst X.K) := ⟨call_isinst⟩
def rListOf (K : PySem.W.Frag) : List V -> Hp -> VK -> Prop := fun xs H Q => ∃ p ys, xs = [.ref p] /\ (SqL K H p ys \/ SqT K H p ys) /\ ∀ l, H l = none -> Q (.ref l) (upd H l (.lst ys))
theorem qcall_list_of : QC X (.type "list") (rListOf X.K) := ⟨call_list_of⟩
def rJoin (K : PySem.W.Frag) : V -> List V -> Hp -> VK -> Prop := fun x xs H Q => ∃ sep a ys, x = .str sep /\ xs = [.ref a] /\ SqL K H a (ys.map V.str) /\ (ys.map (·.length)).sum + ys.length * sep.length <= 16777216 /\ Q (.str (Txt.join sep ys)) H
theorem qmt_join : QM X "str.join" (rJoin X.K) := ⟨mt_join⟩
theorem qmt_append : QM X "list.append" rAppend := ⟨mt_append⟩
end
section
variable {g : TG} {tb : TS} {D : Ends} {σ : St} {H : Hp}
theorem forW_range {lo : Int} {n : Nat} (m : Nat) (hm : n = m) (Pv : Nat -> St -> Hp -> Prop) (h0 : Pv 0 σ H)
    (hs : ∀ i σ H, i < m -> Pv i σ H -> g (.int (lo + i)) σ H fun σ2 H2 => tb { D with nx := Pv (i + 1), ct := Pv (i + 1), bk := D.nx } σ2 H2) (hd : ∀ σ H, Pv m σ H -> D.nx σ H) : Zq130 (Itr lo n) g tb D σ H := by
  subst hm
  exact for_range Pv h0 hs hd
theorem forW_list {K : PySem.W.Frag} {a : Addr} (xs : List V) (Pv : Nat -> St -> Hp -> Prop) (h0 : Pv 0 σ H) (hl : ∀ i σ H, i <= xs.length -> Pv i σ H -> SqL K H a xs)
    (hs : ∀ i x σ H, xs[i]? = some x -> Pv i σ H -> g x σ H fun σ2 H2 => tb { D with nx := Pv (i + 1), ct := Pv (i + 1), bk := D.nx } σ2 H2) (hd : ∀ σ H, Pv xs.length σ H -> D.nx σ H) : Zq130 (Itl K a) g tb D σ H := for_list Pv h0 hl hs hd
theorem forW_tup {K : PySem.W.Frag} {a : Addr} (xs : List V) (Pv : Nat -> St -> Hp -> Prop) (h0 : Pv 0 σ H) (hl : ∀ i σ H, i <= xs.length -> Pv i σ H -> SqT K H a xs)
    (hs : ∀ i x σ H, xs[i]? = some x -> Pv i σ H -> g x σ H fun σ2 H2 => tb { D with nx := Pv (i + 1), ct := Pv (i + 1), bk := D.nx } σ2 H2) (hd : ∀ σ H, Pv xs.length σ H -> D.nx σ H) : Zq130 (Itt K a) g tb D σ H := for_tup Pv h0 hl hs hd
theorem forW_str {x : Str} (Pv : Nat -> St -> Hp -> Prop) (h0 : Pv 0 σ H)
    (hs : ∀ i σ H, i < x.length -> Pv i σ H -> g (sgn x i) σ H fun σ2 H2 => tb { D with nx := Pv (i + 1), ct := Pv (i + 1), bk := D.nx } σ2 H2) (hd : ∀ σ H, Pv x.length σ H -> D.nx σ H) : Zq130 (Its x) g tb D σ H := for_str Pv h0 hs hd
end
section
variable {X : Cx} {tg elt iter : Expr} {ifs : List Expr} {scope : Scope} {pos : Pos} {locs : List Str} {fr : List (Str × Nat)} {g : TG} {tt : TTs} {te : TE}
theorem Zq83 : QTs X [] (fun _ H Q => Q true H) := ⟨pts_nil⟩
structure Inn (X : Cx) (scope : Scope) (N' : List Str) (tg : Expr) (ifs : List Expr) (elt : Expr) (g : TG) (tt : TTs) (te : TE) : Prop where
  h : ∀ (cl : List (Str × Addr)) (C : Addr) (s0 : Shared) (H0 : Hp) (ex : List Addr) (pn : List (Addr × Obj)), QG (ccx X scope cl C N' s0 H0 ex pn) tg g /\ QTs (ccx X scope cl C N' s0 H0 ex pn) ifs tt /\ QE (ccx X scope cl C N' s0 H0 ex pn) elt te
theorem Zq68 {wi : TI} (S : CompOk X scope locs fr) (F : FrOk X scope fr) (hc : X.calm = true) (hi : QI X tg iter wi) (inner : Inn X scope (inN locs fr) tg ifs elt g tt te)
    (hs : ∀ x, foldedSetIterable iter X.env x = pure x := by intro _; rfl) : QE X (.ListComp elt [⟨tg, iter, ifs, 0⟩] scope pos) (tComp locs.length fr wi g tt te) :=
  ⟨pe_lcomp S F hc hi.h (fun cl C s0 H0 ex pn => let ⟨a, b, c⟩ := inner.h cl C s0 H0 ex pn; ⟨a.h, b.h, c.h⟩) hs⟩
end
section
variable {X : Cx} {scope : Scope} {cl : List (Str × Addr)} {C : Addr} {N' : List Str} {s0 : Shared} {H0 : Hp} {ex : List Addr} {pn : List (Addr × Obj)} {x : Str} {pos : Pos}
theorem qvLN (i : Nat) (n : Nm scope x .local := by decide +kernel) (hN : N'[i]? = some x := by rfl) : QE (ccx X scope cl C N' s0 H0 ex pn) (.Name x pos) (tVar i) := ⟨pvLN i n hN⟩
theorem qvFN (i : Nat) (n : Nm scope x .free := by decide +kernel) (hN : N'[i]? = some x := by rfl) : QE (ccx X scope cl C N' s0 H0 ex pn) (.Name x pos) (tVar i) := ⟨pvFN i n hN⟩
theorem qgLN (i : Nat) (hnd : N'.Nodup) (n : Nm scope x .local := by decide +kernel) (hN : N'[i]? = some x := by rfl) : QG (ccx X scope cl C N' s0 H0 ex pn) (.Name x pos) (Zq78 i) := ⟨pgLN i hnd n hN⟩
end
section
variable {P : Program} {w : World} {K : PySem.W.Frag} {mg : Str -> Option Value} {base : Heap}
theorem Has.fnQ {x : Str} {st : Stmt} {N ps : List Str} {k : Nat} {sp : Sp} (h : Has K mg x st) (S : FnScope N ps (Zq0 st))
    (hb : ∀ (kV doc pm : Value) (an : Option Addr) (cdv ct : Value) (us : List Value), us.length = ps.length -> bindArgs (PySem.W.fnOf x x (Zq90 st) (Zq54 st) (Zq0 st) .none kV doc pm an cdv ct) ⟨us, []⟩ = pure (ps.zip us))
    (len : ∀ vs H Q E, sp vs H Q E -> vs.length = ps.length)
    (hbody : ∀ (f : Addr) (cdv : Value) (A : Around) (outer : List Env) (s : Shared) (H : Hp) (vs : List V) (Q : VK) (E : XK), Room k (A.deeper (envOfC x (Zq0 st) s.heap.objs.size f cdv)) -> sp vs H Q E ->
      ∃ t, QSs (cxOf CX0 P w K mg base N x (Zq0 st) f cdv A outer s H E).nox (Zq54 st) t /\ t { nx := fun _ H' => Q .non H', rt := Q } (Zq92 N vs) H) : Fn P w K mg base x ps (k + 1) sp :=
  h.fn S hb len fun f cdv A outer s H vs Q E hr q => let ⟨t, a, b⟩ := hbody f cdv A outer s H vs Q E hr q; ⟨t, a.h, b⟩
end
end L2
namespace L2
open PySem PySem.Spec PyProof.Rows
theorem one_lt_one {a b : Nat} : (([a] : List Nat) < [b]) ↔ a < b := by
  constructor
  · intro h
    rcases List.cons_lt_cons_iff.mp h with z | ⟨_, z⟩
    · exact z
    · exact absurd z (by simp)
  · intro h
    exact List.cons_lt_cons_iff.mpr (.inl h)
end L2
namespace L2
theorem gset {i : Nat} {v : V} {σ : St} {H : Hp} {Q : St -> Hp -> Prop} (h : Q (σ.set i (some v)) H) : Zq78 i v σ H Q := h
end L2
namespace L2
open PySem PySem.Spec PyProof.Rows
theorem Fun.okQ {P : Program} {w : World} {K : PySem.W.Frag} {mg : Str -> Option Value} {base : Heap} {x qual : Str} {st : Stmt} {f : Addr} {fd : FuncData} {N ps : List Str} {k : Nat} {sp : Sp} (F : Fun K x qual st f fd) (S : FnScope N ps (Zq0 st)) (len : ∀ vs H Q E, sp vs H Q E -> vs.length = ps.length)
    (hbody : ∀ (cdv : Value) (A : Around) (outer : List Env) (s : Shared) (H : Hp) (vs : List V) (Q : VK) (E : XK), Room k (A.deeper (envOfC qual (Zq0 st) s.heap.objs.size f cdv)) -> sp vs H Q E ->
      ∃ t, QSs (cxOf CX0 P w K mg base N qual (Zq0 st) f cdv A outer s H E).nox (Zq54 st) t /\ t { nx := fun _ H' => Q .non H', rt := Q } (Zq92 N vs) H) : FnOk P w K mg base CX0 (k + 1) f fd ps sp :=
  F.ok S len fun cdv A outer s H vs Q E hr q => let ⟨t, a, b⟩ := hbody cdv A outer s H vs Q E hr q; ⟨t, a.h, b⟩
def spLaw (K : PySem.W.Frag) : Sp := fun vs H Q _ => ∃ (a : Addr) (ns : List Int), vs = [.ref a] /\ SqL K H a (ns.map V.int) /\ ns.length <= 63 /\ ∀ H', Q (.bl true) H'
theorem walkLaw {l : PySem.W.OpenLaw} {q : Program} {loose : List Str} {XP : (Str -> Option Value) -> Heap -> Prop} {YP : World -> Heap -> Prop} {d : DefRec} {K : Params -> PySem.W.Frag} (hn : l.most = some 63) (hdf : d.params.defaults = [])
    (hY : ∀ (w : World) (h : Heap), YP w h -> (K w.params).In h)
    (F : ∀ (w : World) (mg : Str -> Option Value) (fa : Addr) (h : Heap), (K w.params).In h -> h.Ns mainGlobals mg -> mg d.name = some (.ref fa) ->
      ∃ fd : FuncData, (∀ (s : Shared) (u : Value), BindsTo s fd ⟨[u], []⟩ [("_law_script", u)]) /\ ∀ base : Heap, (K w.params).In base -> base.Ns mainGlobals mg -> FnOk l.prog w (K w.params) mg base CX0 40 fa fd ["_law_script"] (spLaw (K w.params))) :
    PySem.W.WalkO q loose XP YP l.row.toRowW d [] (fun f vs => PySem.call f vs) :=
  L2.walk_of (n := 63) (k := 40) (x := "_law_script") (CX := fun _ => CX0) (sp := fun w => spLaw (K w.params)) hn (by decide) hdf ⟨rfl, by decide, by decide⟩ hY F (fun _ _ a ns hl _ hS => ⟨a, ns, rfl, hS, hl, fun _ => rfl⟩) fun _ _ _ _ _ z => z
end L2
namespace L2
open PySem PySem.Spec PyProof.Rows
section
variable {X : Cx} {scope : Scope} {cl : List (Str × Addr)} {C : Addr} {N' : List Str} {s0 : Shared} {H0 : Hp} {ex : List Addr} {pn : List (Addr × Obj)} {x : Str} {pos : Pos} {es : List Expr} {k : Nat} {t : TGs}
theorem qg_tupC (n : Nat) (hc : X.calm = true) (h : QGs (ccx X scope cl C N' s0 H0 ex pn) es t) (hn : (assignEach es (ccx X scope cl C N' s0 H0 ex pn).env).length = n := by rfl) (hst : (assignEach es (ccx X scope cl C N' s0 H0 ex pn).env).findIdx? (·.1) = none := by rfl) :
    QG (ccx X scope cl C N' s0 H0 ex pn) (.Tuple es k pos) (gTup X.K n t) := ⟨pg_tup (X := ccx X scope cl C N' s0 H0 ex pn) hc h.h hn hst⟩
theorem qix_listC : QIx (ccx X scope cl C N' s0 H0 ex pn) (rIxL X.K) := ⟨ix_list (X := ccx X scope cl C N' s0 H0 ex pn)⟩
theorem qcall_len_seqC : QC (ccx X scope cl C N' s0 H0 ex pn) (.builtin "len") (rLenSeq X.K) := ⟨call_len_seq (X := ccx X scope cl C N' s0 H0 ex pn)⟩
theorem qcall_list_ofC : QC (ccx X scope cl C N' s0 H0 ex pn) (.type "list") (rListOf X.K) := ⟨call_list_of (X := ccx X scope cl C N' s0 H0 ex pn)⟩
theorem qcall_isinstC : QC (ccx X scope cl C N' s0 H0 ex pn) (.builtin "isinstance") (rIsInst X.K) := ⟨call_isinst (X := ccx X scope cl C N' s0 H0 ex pn)⟩
end
end L2
end
section
set_option Elab.async false
set_option linter.all false
set_option maxRecDepth 100000
set_option maxHeartbeats 4000000
namespace L2
open PySem PySem.Spec PyProof.Rows
structure Drw (P : Program) (w : World) (it l : Addr) (St : Nat -> Heap -> Prop) (Hs : Heap -> List Value -> Prop) : Prop where
  obj : ∀ k h, St k h -> ∃ o, h.get? it = some o /\ ∀ v, o.data ≠ .cell v
  keep : ∀ k h h', St k h -> (∀ o, h.get? it = some o -> h'.get? it = some o) -> St k h'
  src : ∀ h h' its, Hs h its -> (∀ o, h.get? l = some o -> h'.get? l = some o) -> Hs h' its
  item : ∀ (A : Around) (k : Nat) (s : Shared) (its : List Value) (x : Value) (Q : Value -> Shared -> Prop) (E : Value -> Shared -> Prop), St k s.heap -> Hs s.heap its -> its[k]? = some x ->
    (∀ h', St (k + 1) h' -> Heap.SameBut it s.heap h' -> Q x { s with heap := h' }) -> wpAny (model P w) A (Builtin.SmallTypes.nextOf (.ref it)) Q E s
  done : ∀ (A : Around) (k : Nat) (s : Shared) (its : List Value) (Q : Value -> Shared -> Prop) (E : Value -> Shared -> Prop), A.handled = none -> St k s.heap -> Hs s.heap its -> its[k]? = none ->
    (∀ h' e, Heap.ExtBut it s.heap h' -> (∃ o, h'.get? e = some o /\ o.cls = .type "StopIteration") -> E (.ref e) { s with heap := h' }) -> wpAny (model P w) A (Builtin.SmallTypes.nextOf (.ref it)) Q E s
theorem drw_list {P : Program} {w : World} (it l : Addr) : Drw P w it l (fun k h => h.IsListIter it l k) (fun h its => h.IsList l its.toArray) where
  obj := fun k h st => by
    obtain ⟨o, e, c, d⟩ := st
    exact ⟨o, e, fun v z => by rw [d] at z; cases z⟩
  keep := fun k h h' st kk => st.at kk
  src := fun h h' its hl kk => hl.at kk
  item := fun A k s its x Q E st hl hx hQ => wpAny_nextOf_list_item st hl (by simpa using hx) hQ
  done := fun A k s its Q E hh st hl hx hE => wpAny_nextOf_list_end hh st hl (by simpa using hx) hE
section
variable {P : Program} {w : World} {A : Around} {E : Value -> Shared -> Prop} {s : Shared}
theorem nextT_item {it t : Addr} {k : Nat} {its : List Value} {x : Value} {Q : Value -> Shared -> Prop} (st : s.heap.IsTupleIter it t k) (ht : s.heap.IsTuple t its.toArray) (hx : its[k]? = some x)
    (hQ : ∀ h', h'.IsTupleIter it t (k + 1) -> Heap.SameBut it s.heap h' -> Q x { s with heap := h' }) : wpAny (model P w) A (Builtin.SmallTypes.nextOf (.ref it)) Q E s := by
  obtain ⟨o, ho, hc, hd⟩ := id st
  obtain ⟨ot, hot, _, nt, hdt⟩ := id ht
  unfold Builtin.SmallTypes.nextOf
  refine wpAny_bind (wpAny_callSpecial?_slot (name := Str.ofString "__next__") st.typeIs F.slot_tuple_iterator_next (wpAny_call_entry F.slot_tuple_iterator_next st.typeIs F.entry_tuple_iterator_next ?_ (F.args_tuple_iterator_next_1 _)))
  show wpAny _ _ (field (.ref it) 0 >>= _) _ _ s
  refine wpAny_bind (wpAny_field ho hd (x := .ref t) rfl ?_)
  show wpAny _ _ (if (Value.ref t == Value.none) = true then _ else _) _ _ s
  rw [if_neg (show ¬ ((Value.ref t == Value.none) = true) from Bool.false_ne_true)]
  show wpAny _ _ (field (.ref it) 1 >>= _) _ _ s
  refine wpAny_bind (wpAny_field ho hd (x := .int k 0) rfl ?_)
  show wpAny _ _ (seqItems? (.ref t) >>= _) _ _ s
  refine wpAny_bind (wpAny_seqItems hot hdt ?_)
  have hx' : its.toArray[k]? = some x := by simpa using hx
  simp only [Int.toNat_natCast, hx']
  refine wpAny_bind (wpAny_setField ho hd (by simp) ?_)
  refine wpAny_pure ⟨_, rfl, wpAny_pure (hQ _ ?_ (Heap.SameBut.update ..))⟩
  refine ⟨_, Heap.get?_update_self _ ho ?_, ?_, ?_⟩
  · obtain ⟨c, d, dt, sl⟩ := o; subst hd; rfl
  · obtain ⟨c, d, dt, sl⟩ := o; subst hd; exact hc
  · obtain ⟨c, d, dt, sl⟩ := o; subst hd; rfl
theorem nextT_end {it t : Addr} {k : Nat} {its : List Value} {Q : Value -> Shared -> Prop} (hh : A.handled = none) (st : s.heap.IsTupleIter it t k) (ht : s.heap.IsTuple t its.toArray) (hx : its[k]? = none)
    (hE : ∀ h' e, Heap.ExtBut it s.heap h' -> (∃ o, h'.get? e = some o /\ o.cls = .type "StopIteration") -> E (.ref e) { s with heap := h' }) : wpAny (model P w) A (Builtin.SmallTypes.nextOf (.ref it)) Q E s := by
  obtain ⟨o, ho, hc, hd⟩ := id st
  obtain ⟨ot, hot, _, nt, hdt⟩ := id ht
  unfold Builtin.SmallTypes.nextOf
  refine wpAny_bind (wpAny_callSpecial?_slot (name := Str.ofString "__next__") st.typeIs F.slot_tuple_iterator_next (wpAny_call_entry F.slot_tuple_iterator_next st.typeIs F.entry_tuple_iterator_next ?_ (F.args_tuple_iterator_next_1 _)))
  show wpAny _ _ (field (.ref it) 0 >>= _) _ _ s
  refine wpAny_bind (wpAny_field ho hd (x := .ref t) rfl ?_)
  show wpAny _ _ (if (Value.ref t == Value.none) = true then _ else _) _ _ s
  rw [if_neg (show ¬ ((Value.ref t == Value.none) = true) from Bool.false_ne_true)]
  show wpAny _ _ (field (.ref it) 1 >>= _) _ _ s
  refine wpAny_bind (wpAny_field ho hd (x := .int k 0) rfl ?_)
  show wpAny _ _ (seqItems? (.ref t) >>= _) _ _ s
  refine wpAny_bind (wpAny_seqItems hot hdt ?_)
  have hx' : its.toArray[k]? = none := by simpa using hx
  simp only [Int.toNat_natCast, hx']
  refine wpAny_bind (wpAny_rule (wpAny_bind (wpAny_setField ho hd (by simp) ?_)))
  show wpAny _ _ (newExc (.type "StopIteration") [] >>= _) _ _ _
  refine wpAny_bind ?_
  simp only [newExc, newTuple]
  refine wpAny_bind (wpAny_newObj_type ?_ (by size_fits))
  refine wpAny_bind (m := firstArgMember _ _) (wpAny_of_eq (a := Value.none) (by first | rfl | (simp only [firstArgMember]; rfl)) ?_)
  refine wpAny_newObj_type ?_ (by size_fits)
  simp only [raiseNew]
  refine wpAny_bind (wpAny_handled ?_)
  first | rw [show A.in1.handled = none from hh] | rw [hh]
  refine wpAny_bind (wpAny_pure (wpAny_throw ?_))
  exact hE _ _ (((Heap.SameBut.update ..).extBut.push _).push _) ⟨_, Heap.get?_push_size _ rfl, rfl⟩
end
theorem drw_tuple {P : Program} {w : World} (it l : Addr) : Drw P w it l (fun k h => h.IsTupleIter it l k) (fun h its => h.IsTuple l its.toArray) where
  obj := fun k h st => by
    obtain ⟨o, e, c, d⟩ := st
    exact ⟨o, e, fun v z => by rw [d] at z; cases z⟩
  keep := fun k h h' st kk => st.at kk
  src := fun h h' its hl kk => let ⟨o, e, r⟩ := hl; ⟨o, kk o e, r⟩
  item := fun A k s its x Q E st hl hx hQ => nextT_item st hl hx hQ
  done := fun A k s its Q E hh st hl hx hE => nextT_end hh st hl hx hE
structure ZA (z TI TO i1 i2 l1 l2 : Addr) : Prop where
  a1 : TI ≠ z
  a2 : TO ≠ z
  a3 : i1 ≠ z
  a4 : i2 ≠ z
  a5 : TI ≠ TO
  a6 : TI ≠ i1
  a7 : TI ≠ i2
  a8 : TO ≠ i1
  a9 : TO ≠ i2
  a10 : i1 ≠ i2
  b1 : l1 ≠ z
  b2 : l1 ≠ TO
  b3 : l1 ≠ i1
  b4 : l1 ≠ i2
  b5 : l2 ≠ z
  b6 : l2 ≠ TO
  b7 : l2 ≠ i1
  b8 : l2 ≠ i2
section
variable {P : Program} {w : World} {A : Around} {E : Value -> Shared -> Prop} {s : Shared} {z TI TO i1 i2 l1 l2 : Addr} {S1 S2 : Nat -> Heap -> Prop} {H1 H2 : Heap -> List Value -> Prop} {k : Nat} {xs ys : List Value} {x y a b : Value}
theorem zipD_item {Q : Value -> Shared -> Prop} (Z : ZA z TI TO i1 i2 l1 l2) (D1 : Drw P w i1 l1 S1 H1) (D2 : Drw P w i2 l2 S2 H2) (hz : IsZip s.heap z TI TO .none) (hTI : IsPair s.heap TI (.ref i1) (.ref i2)) (hTO : IsPair s.heap TO a b)
    (st1 : S1 k s.heap) (st2 : S2 k s.heap) (h1 : H1 s.heap xs) (h2 : H2 s.heap ys) (hx : xs[k]? = some x) (hy : ys[k]? = some y)
    (hQ : ∀ h', IsZip h' z TI TO (rawInt s.heap.objs.size) -> IsPair h' TO x y -> S1 (k + 1) h' -> S2 (k + 1) h' -> IsPair h' s.heap.objs.size x y ->
      (∀ c o, c ≠ z -> c ≠ TO -> c ≠ i1 -> c ≠ i2 -> s.heap.get? c = some o -> h'.get? c = some o) -> Q (.ref s.heap.objs.size) { s with heap := h' }) :
    wpAny (model P w) A (Builtin.«zip.__next__» ⟨[.ref z], []⟩) (fun fin s' => ∃ v, fin = .done (.ret v) /\ Q v s') E s := by
  show wpAny _ _ (field (.ref z) 2 >>= _) _ _ _
  refine wpAny_bind (wpAny_field hz rfl (x := .bool false) rfl ?_)
  show wpAny _ _ (field (.ref z) 3 >>= _) _ _ _
  refine wpAny_bind (wpAny_field hz rfl (x := .ref TI) rfl (wpAny_bind (wpAny_seqItems hTI rfl ?_)))
  show wpAny _ _ (Builtin.SmallTypes.ownedTupleIsFree (.ref z) >>= _) _ _ _
  refine wpAny_bind ?_
  unfold Builtin.SmallTypes.ownedTupleIsFree
  refine wpAny_bind (wpAny_field hz rfl (x := .none) rfl (wpAny_pure ?_))
  simp only [if_true]
  refine wpAny_bind (wpAny_rule (wpAny_bind (wpAny_field hz rfl (x := .ref TO) rfl (wpAny_bind (wpAny_setField_rec hz (by simp) fun g1 z1 e1 => ?_)))))
  replace z1 : IsZip g1 z TI TO .ellipsis := z1
  refine wpAny_bind ?_
  simp only [List.zipIdx_cons, List.zipIdx_nil, List.forIn_cons, List.forIn_nil]
  refine wpAny_bind (wpAny_bind (wpAny_onRaise ?_))
  show wpAny _ _ (Builtin.SmallTypes.nextOf (.ref i1) >>= _) _ _ _
  refine wpAny_bind (D1.item _ k _ xs x _ _ (D1.keep _ _ _ st1 fun o e => e1.extBut _ _ Z.a3 e) (D1.src _ _ _ h1 fun o e => e1.extBut _ _ Z.b1 e) hx fun g2 s12 e2 => wpAny_pure ?_)
  have t2 : IsPair g2 TO a b := e2.extBut _ _ Z.a8 (e1.extBut _ _ Z.a2 hTO)
  refine wpAny_bind (wpAny_seqItems t2 rfl (wpAny_bind (wpAny_updateSeq_pair t2 fun g3 t3 e3 => ?_)))
  replace t3 : IsPair g3 TO x b := t3
  refine wpAny_bind (wpAny_letGo (wpAny_pure (wpAny_bind (wpAny_bind (wpAny_onRaise ?_)))))
  show wpAny _ _ (Builtin.SmallTypes.nextOf (.ref i2) >>= _) _ _ _
  have up3 : ∀ c o, c ≠ z -> c ≠ TO -> c ≠ i1 -> s.heap.get? c = some o -> g3.get? c = some o := fun c o c1 c2 c3 e => e3.extBut _ _ c2 (e2.extBut _ _ c3 (e1.extBut _ _ c1 e))
  refine wpAny_bind (D2.item _ k _ ys y _ _ (D2.keep _ _ _ st2 fun o e => up3 _ _ Z.a4 Z.a9.symm Z.a10.symm e) (D2.src _ _ _ h2 fun o e => up3 _ _ Z.b5 Z.b6 Z.b7 e) hy fun g4 s24 e4 => wpAny_pure ?_)
  have t4 : IsPair g4 TO x b := e4.extBut _ _ Z.a9 t3
  refine wpAny_bind (wpAny_seqItems t4 rfl (wpAny_bind (wpAny_updateSeq_pair t4 fun g5 t5 e5 => ?_)))
  replace t5 : IsPair g5 TO x y := t5
  refine wpAny_bind (wpAny_letGo (wpAny_pure (wpAny_pure (wpAny_bind (wpAny_seqItems t5 rfl (wpAny_bind (wpAny_newTuple ?_)))))))
  have size5 : g5.objs.size = s.heap.objs.size := by rw [e5.1, e4.1, e3.1, e2.1, e1.1]
  have z5 : IsZip g5 z TI TO .ellipsis := e5.extBut _ _ Z.a2.symm (e4.extBut _ _ Z.a4.symm (e3.extBut _ _ Z.a2.symm (e2.extBut _ _ Z.a3.symm z1)))
  have up5 : ∀ c o, c ≠ z -> c ≠ TO -> c ≠ i1 -> c ≠ i2 -> s.heap.get? c = some o -> g5.get? c = some o := fun c o c1 c2 c3 c4 e => e5.extBut _ _ c2 (e4.extBut _ _ c4 (up3 c o c1 c2 c3 e))
  have s15 : S1 (k + 1) g5 := D1.keep _ _ _ s12 fun o e => e5.extBut _ _ Z.a8.symm (e4.extBut _ _ Z.a10 (e3.extBut _ _ Z.a8.symm e))
  have s25 : S2 (k + 1) g5 := D2.keep _ _ _ s24 fun o e => e5.extBut _ _ Z.a9.symm e
  have zlt : z < g5.objs.size := Heap.lt_size z5
  show wpAny _ _ (Builtin.SmallTypes.ownedTupleHandOut (.ref z) (.ref g5.objs.size) >>= _) _ _ _
  refine wpAny_bind ?_
  unfold Builtin.SmallTypes.ownedTupleHandOut
  have z6 : IsZip (g5.push { cls := .type "tuple", data := .seq #[x, y] }) z TI TO .ellipsis := Heap.get?_push_of_some _ z5
  refine wpAny_bind (wpAny_setField_rec z6 (by simp) fun g7 z7 e7 => ?_)
  replace z7 : IsZip g7 z TI TO (rawInt g5.objs.size) := z7
  refine wpAny_setField_rec z7 (by simp) fun g8 z8 e8 => ?_
  replace z8 : IsZip g8 z TI TO (rawInt g5.objs.size) := z8
  have up8 : ∀ c o, c ≠ z -> g5.get? c = some o -> g8.get? c = some o := fun c o c1 e => e8.extBut _ _ c1 (e7.extBut _ _ c1 (Heap.get?_push_of_some _ e))
  have p8 : IsPair g8 g5.objs.size x y := e8.extBut _ _ (Nat.ne_of_gt zlt) (e7.extBut _ _ (Nat.ne_of_gt zlt) (Heap.get?_push_size _ rfl))
  rw [size5] at z8 p8
  refine wpAny_pure ⟨_, rfl, ?_⟩
  show Q (.ref g5.objs.size) _
  rw [size5]
  exact hQ g8 z8 (up8 _ _ Z.a2 t5) (D1.keep _ _ _ s15 fun o e => up8 _ _ Z.a3 e) (D2.keep _ _ _ s25 fun o e => up8 _ _ Z.a4 e) p8 fun c o c1 c2 c3 c4 e => up8 c o c1 (up5 c o c1 c2 c3 c4 e)
theorem zipD_end {Q : PySem.Fin -> Shared -> Prop} (hh : A.handled = none) (Z : ZA z TI TO i1 i2 l1 l2) (D1 : Drw P w i1 l1 S1 H1) (D2 : Drw P w i2 l2 S2 H2) (hz : IsZip s.heap z TI TO .none) (hTI : IsPair s.heap TI (.ref i1) (.ref i2)) (hTO : IsPair s.heap TO a b)
    (st1 : S1 k s.heap) (st2 : S2 k s.heap) (h1 : H1 s.heap xs) (h2 : H2 s.heap ys) (hend : xs[k]? = none \/ ys[k]? = none)
    (hE : ∀ h' e, (∀ c o, c ≠ z -> c ≠ TO -> c ≠ i1 -> c ≠ i2 -> s.heap.get? c = some o -> h'.get? c = some o) -> (∃ o, h'.get? e = some o /\ o.cls = .type "StopIteration") -> E (.ref e) { s with heap := h' }) :
    wpAny (model P w) A (Builtin.«zip.__next__» ⟨[.ref z], []⟩) Q E s := by
  show wpAny _ _ (field (.ref z) 2 >>= _) _ _ _
  refine wpAny_bind (wpAny_field hz rfl (x := .bool false) rfl ?_)
  show wpAny _ _ (field (.ref z) 3 >>= _) _ _ _
  refine wpAny_bind (wpAny_field hz rfl (x := .ref TI) rfl (wpAny_bind (wpAny_seqItems hTI rfl ?_)))
  show wpAny _ _ (Builtin.SmallTypes.ownedTupleIsFree (.ref z) >>= _) _ _ _
  refine wpAny_bind ?_
  unfold Builtin.SmallTypes.ownedTupleIsFree
  refine wpAny_bind (wpAny_field hz rfl (x := .none) rfl (wpAny_pure ?_))
  simp only [if_true]
  refine wpAny_bind (wpAny_rule (wpAny_bind (wpAny_field hz rfl (x := .ref TO) rfl (wpAny_bind (wpAny_setField_rec hz (by simp) fun g1 z1 e1 => ?_)))))
  replace z1 : IsZip g1 z TI TO .ellipsis := z1
  refine wpAny_bind ?_
  simp only [List.zipIdx_cons, List.zipIdx_nil, List.forIn_cons, List.forIn_nil]
  refine wpAny_bind (wpAny_bind (wpAny_onRaise ?_))
  show wpAny _ _ (Builtin.SmallTypes.nextOf (.ref i1) >>= _) _ _ _
  have st1' := D1.keep _ _ _ st1 fun o e => e1.extBut _ _ Z.a3 e
  have h1' := D1.src _ _ _ h1 fun o e => e1.extBut _ _ Z.b1 e
  cases hx : xs[k]? with
  | none =>
    refine wpAny_bind (D1.done _ k _ xs _ _ hh st1' h1' hx fun g2 e e2 ⟨oe, hoe, hce⟩ => ?_)
    have z2 : IsZip g2 z TI TO .ellipsis := e2 _ _ Z.a3.symm z1
    have ne : e ≠ z := fun q => by subst q; rw [z2] at hoe; cases hoe; simp at hce
    exact wpAny_setField_rec z2 (by simp) fun g3 _ e3 => hE g3 e (fun c o c1 _ c3 _ q => e3.extBut _ _ c1 (e2 _ _ c3 (e1.extBut _ _ c1 q))) ⟨oe, e3.extBut _ _ ne hoe, hce⟩
  | some x =>
    have hy : ys[k]? = none := hend.elim (fun q => by rw [hx] at q; cases q) id
    refine wpAny_bind (D1.item _ k _ xs x _ _ st1' h1' hx fun g2 s12 e2 => wpAny_pure ?_)
    have t2 : IsPair g2 TO a b := e2.extBut _ _ Z.a8 (e1.extBut _ _ Z.a2 hTO)
    refine wpAny_bind (wpAny_seqItems t2 rfl (wpAny_bind (wpAny_updateSeq_pair t2 fun g3 t3 e3 => ?_)))
    refine wpAny_bind (wpAny_letGo (wpAny_pure (wpAny_bind (wpAny_bind (wpAny_onRaise ?_)))))
    show wpAny _ _ (Builtin.SmallTypes.nextOf (.ref i2) >>= _) _ _ _
    have up3 : ∀ c o, c ≠ z -> c ≠ TO -> c ≠ i1 -> s.heap.get? c = some o -> g3.get? c = some o := fun c o c1 c2 c3 e => e3.extBut _ _ c2 (e2.extBut _ _ c3 (e1.extBut _ _ c1 e))
    refine wpAny_bind (D2.done _ k _ ys _ _ hh (D2.keep _ _ _ st2 fun o e => up3 _ _ Z.a4 Z.a9.symm Z.a10.symm e) (D2.src _ _ _ h2 fun o e => up3 _ _ Z.b5 Z.b6 Z.b7 e) hy fun g4 e e4 ⟨oe, hoe, hce⟩ => ?_)
    have z4 : IsZip g4 z TI TO .ellipsis := e4 _ _ Z.a4.symm (e3.extBut _ _ Z.a2.symm (e2.extBut _ _ Z.a3.symm z1))
    have ne : e ≠ z := fun q => by subst q; rw [z4] at hoe; cases hoe; simp at hce
    exact wpAny_setField_rec z4 (by simp) fun g5 _ e5 => hE g5 e (fun c o c1 c2 c3 c4 q => e5.extBut _ _ c1 (e4 _ _ c4 (up3 c o c1 c2 c3 q))) ⟨oe, e5.extBut _ _ ne hoe, hce⟩
end
structure SqK (sq : PySem.W.Frag -> Hp -> Addr -> List V -> Prop) (Hs : Addr -> Heap -> List Value -> Prop) : Prop where
  get : ∀ {X : Cx} {pins : List (Addr × Obj)} {σ : St} {H : Hp} {s : Shared} {l : Addr} {xs : List V}, Inv X pins σ H s -> sq X.K H l xs -> ∃ its, Vals xs its /\ Hs l s.heap its
  inj : ∀ {X : Cx} {pins : List (Addr × Obj)} {σ : St} {H : Hp} {s : Shared} {l : Addr} {xs ys : List V}, Inv X pins σ H s -> sq X.K H l xs -> sq X.K H l ys -> xs = ys
theorem sqk_list : SqK SqL (fun l h its => h.IsList l its.toArray) := ⟨fun I h => let ⟨its, r, p, _⟩ := I.list h; ⟨its, r, p.isList⟩, fun I h h' => I.list_inj h h'⟩
theorem sqk_tup : SqK SqT (fun l h its => h.IsTuple l its.toArray) := ⟨fun I h => let ⟨its, r, p, _⟩ := I.tuple h; ⟨its, r, p⟩, fun I h h' => I.tuple_inj h h'⟩
def Itz (sq : PySem.W.Frag -> Hp -> Addr -> List V -> Prop) (K : PySem.W.Frag) (l1 l2 : Addr) : It :=
  ⟨fun i H => ∃ xs ys, sq K H l1 xs /\ sq K H l2 ys /\ i < xs.length /\ i < ys.length, fun i H v H' => ∃ p a b, v = .ref p /\ H p = none /\ H' = upd H p (.tup [a, b]) /\ ∀ xs ys, sq K H l1 xs -> sq K H l2 ys -> xs[i]? = some a /\ ys[i]? = some b,
    fun i H => ∃ xs ys, sq K H l1 xs /\ sq K H l2 ys /\ (xs.length <= i \/ ys.length <= i)⟩
theorem turn_zip {P : Program} {w : World} {K : PySem.W.Frag} {elts : List Expr} {ek : Nat} {epos : Pos} {sq : PySem.W.Frag -> Hp -> Addr -> List V -> Prop} {Hs : Addr -> Heap -> List Value -> Prop} {z TI TO i1 i2 l1 l2 : Addr} {S1 S2 : Nat -> Heap -> Prop}
    (SK : SqK sq Hs) (Z : ZA z TI TO i1 i2 l1 l2) (D1 : Drw P w i1 l1 S1 (Hs l1)) (D2 : Drw P w i2 l2 S2 (Hs l2)) :
    Turn P w K (.Tuple elts ek epos) (Itz sq K l1 l2) [z, TI, TO, i1, i2] z (fun i h => IsZip h z TI TO .none /\ IsPair h TI (.ref i1) (.ref i2) /\ (∃ a b, IsPair h TO a b) /\ S1 i h /\ S2 i h) where
  mem := by simp
  obj := fun i h st b hb => by
    obtain ⟨hz, hTI, ⟨a, c, hTO⟩, s1, s2⟩ := st
    simp only [List.mem_cons, List.not_mem_nil, or_false] at hb
    rcases hb with rfl | rfl | rfl | rfl | rfl
    · exact ⟨_, hz, fun v q => by cases q⟩
    · exact ⟨_, hTI, fun v q => by cases q⟩
    · exact ⟨_, hTO, fun v q => by cases q⟩
    · exact D1.obj _ _ s1
    · exact D2.obj _ _ s2
  keep := fun i h h' st k => by
    obtain ⟨hz, hTI, ⟨a, c, hTO⟩, s1, s2⟩ := st
    exact ⟨k z (by simp) _ hz, k TI (by simp) _ hTI, ⟨a, c, k TO (by simp) _ hTO⟩, D1.keep _ _ _ s1 fun o e => k i1 (by simp) o e, D2.keep _ _ _ s2 fun o e => k i2 (by simp) o e⟩
  item := by
    intro X hP hw hK hc i pins s σ H E I hf st hg
    subst hP hw hK
    obtain ⟨hz, hTI, ⟨a, b, hTO⟩, s1, s2⟩ := st
    obtain ⟨xs, ys, q1, q2, hx, hy⟩ := hg
    obtain ⟨its1, r1, w1⟩ := SK.get I q1
    obtain ⟨its2, r2, w2⟩ := SK.get I q2
    have gx : xs[i]? = some xs[i] := List.getElem?_eq_getElem hx
    have gy : ys[i]? = some ys[i] := List.getElem?_eq_getElem hy
    obtain ⟨u1, hu1, ru1⟩ := r1.get gx
    obtain ⟨u2, hu2, ru2⟩ := r2.get gy
    have hT : s.TypeIs (.ref z) "zip" := ⟨_, hz, rfl⟩
    unfold pyNext
    refine wpAny_bind (wpAny_attempt (wpAny_callSpecial?_slot (name := Str.ofString "__next__") hT F.slot_zip_next (wpAny_call_entry F.slot_zip_next hT F.entry_zip_next
      (zipD_item Z D1 D2 hz hTI hTO s1 s2 w1 w2 hu1 hu2 fun h' z1 t1 n1 n2 p1 kp => wpAny_pure ?_) (F.args_zip_next_1 _))))
    refine ⟨_, rfl, ?_⟩
    have nfp : ∀ c, c ∈ [z, TO, i1, i2] -> c ∈ [z, TI, TO, i1, i2] := fun c hc => by
      simp only [List.mem_cons, List.not_mem_nil, or_false] at hc ⊢
      rcases hc with q | q | q | q
      · exact .inl q
      · exact .inr (.inr (.inl q))
      · exact .inr (.inr (.inr (.inl q)))
      · exact .inr (.inr (.inr (.inr q)))
    have kp' : ∀ c o, c ∉ [z, TO, i1, i2] -> s.heap.get? c = some o -> h'.get? c = some o := fun c o hc e => kp c o (fun q => hc (by simp [q])) (fun q => hc (by simp [q])) (fun q => hc (by simp [q])) (fun q => hc (by simp [q])) e
    have hp : H s.heap.objs.size = none := I.hok.fresh (Nat.le_refl _)
    have ltp : ∀ c o, s.heap.get? c = some o -> c ≠ s.heap.objs.size := fun c o e => Nat.ne_of_lt (Heap.lt_size e)
    have ntr : ∀ c u, H c = some u -> c ∉ [z, TO, i1, i2] := fun c u e hc => by
      have := (hf c (nfp c hc)).1
      rw [this] at e; cases e
    have there4 : ∀ c, c ∈ [z, TO, i1, i2] -> ∃ o', h'.get? c = some o' := fun c hc => by
      simp only [List.mem_cons, List.not_mem_nil, or_false] at hc
      rcases hc with rfl | rfl | rfl | rfl
      · exact ⟨_, z1⟩
      · exact ⟨_, t1⟩
      · obtain ⟨o, e, _⟩ := D1.obj _ _ n1; exact ⟨o, e⟩
      · obtain ⟨o, e, _⟩ := D2.obj _ _ n2; exact ⟨o, e⟩
    have I1 : Inv X pins σ (upd H s.heap.objs.size (.tup [xs[i], ys[i]])) { s with heap := h' } := by
      refine I.step (g' := s.gens) (d' := s.drawn) (t' := s.toks) (ch := [z, TO, i1, i2]) (fun c hc => ?_) (fun c o _ _ hc e _ => kp' c o hc e) (fun c o _ _ hc e _ => ⟨o.slots, kp' c o hc e⟩) (fun c o hc e n => by rw [Zq9 (ltp c o e)]; exact n)
        (fun c o hc e => ⟨o, kp' c o hc e⟩) (fun c us e => by rw [Zq9 (Zq12 e hp)]; exact e) (fun c o u e => by rw [Zq9 (Zq12 e hp)]; exact e) (fun c ps e => ⟨#[], by rw [Zq9 (Zq12 e hp), e]; simp⟩) (fun m hm => ?_) ?_ I.bare
      · obtain ⟨f0, f1, f2, f3, f4, f5⟩ := hf c (nfp c hc)
        exact ⟨f3, f1, f4, f5⟩
      · refine hm.at fun o e => kp' _ o (fun hc => ?_) e
        exact (hf _ (nfp _ hc)).2.1 rfl
      · intro c u e
        by_cases hcp : c = s.heap.objs.size
        · subst hcp
          rw [Zq5] at e
          cases e
          exact ⟨by show 2 <= sizeLine; decide, [u1, u2], .cons ru1 (.cons ru2 .nil), ⟨_, p1, rfl, _, rfl⟩⟩
        · rw [Zq9 hcp] at e
          refine (I.hok c u e).stay (fun d v hd q => kp' d v ?_ q) (fun d q => by rw [Zq9 (Zq12 q hp)]; exact q) fun d us q => by rw [Zq9 (Zq12 q hp)]; exact q
          rcases hd with rfl | hd
          · exact ntr _ u e
          · exact ntr _ _ hd
    refine wpAny_letOwnedTupleGo_zip (s := { s with heap := h' }) z1 fun h2 z2 e2 => ?_
    obtain ⟨f0, f1, f2, f3, f4, f5⟩ := hf z (by simp)
    have nz : z ≠ s.heap.objs.size := ltp z _ hz
    have I2 : Inv X pins σ (upd H s.heap.objs.size (.tup [xs[i], ys[i]])) { s with heap := h2 } := I1.turned (s := { s with heap := h' }) (it := z) (t' := s.toks) (fun c o hc e => (e2.2 c hc).trans e) (by rw [Zq9 nz]; exact f0) f1 f3 f4 f5
    refine ⟨.ref s.heap.objs.size, _, I2, rfl, ⟨s.heap.objs.size, xs[i], ys[i], rfl, hp, rfl, fun xs' ys' q1' q2' => ?_⟩, ⟨z2, (e2.2 _ Z.a1).trans (kp' TI _ (fun hc => ?_) hTI), ⟨_, _, (e2.2 _ Z.a2).trans t1⟩, D1.keep _ _ _ n1 fun o e => (e2.2 _ Z.a3).trans e, D2.keep _ _ _ n2 fun o e => (e2.2 _ Z.a4).trans e⟩, fun c hc => ?_⟩
    · rw [SK.inj I q1' q1, SK.inj I q2' q2]
      exact ⟨gx, gy⟩
    · simp only [List.mem_cons, List.not_mem_nil, or_false] at hc
      rcases hc with q | q | q | q
      · exact Z.a1 q
      · exact Z.a5 q
      · exact Z.a6 q
      · exact Z.a7 q
    · obtain ⟨o, ho⟩ : ∃ o, s.heap.get? c = some o := by
        simp only [List.mem_cons, List.not_mem_nil, or_false] at hc
        rcases hc with rfl | rfl | rfl | rfl | rfl
        · exact ⟨_, hz⟩
        · exact ⟨_, hTI⟩
        · exact ⟨_, hTO⟩
        · obtain ⟨o, e, _⟩ := D1.obj _ _ s1; exact ⟨o, e⟩
        · obtain ⟨o, e, _⟩ := D2.obj _ _ s2; exact ⟨o, e⟩
      rw [Zq9 (ltp c o ho)]
      exact (hf c hc).1
  done := by
    intro X hP hw hK hc i pins s σ H E I hf st hg
    subst hP hw hK
    obtain ⟨hz, hTI, ⟨a, b, hTO⟩, s1, s2⟩ := st
    obtain ⟨xs, ys, q1, q2, hend⟩ := hg
    obtain ⟨its1, r1, w1⟩ := SK.get I q1
    obtain ⟨its2, r2, w2⟩ := SK.get I q2
    have hT : s.TypeIs (.ref z) "zip" := ⟨_, hz, rfl⟩
    have hend' : its1[i]? = none \/ its2[i]? = none := by
      have e1 := r1.length
      have e2 := r2.length
      rcases hend with q | q
      · exact .inl (List.getElem?_eq_none (by omega))
      · exact .inr (List.getElem?_eq_none (by omega))
    unfold pyNext
    refine wpAny_bind (wpAny_attempt (wpAny_callSpecial?_slot (name := Str.ofString "__next__") hT F.slot_zip_next (wpAny_call_entry F.slot_zip_next hT F.entry_zip_next (zipD_end (I.ok.hd hc) Z D1 D2 hz hTI hTO s1 s2 w1 w2 hend' fun h' e kp ⟨o, ho, hcl⟩ => ?_) (F.args_zip_next_1 _))))
    refine wpAny_bind (wpAny_isInstance (T := "StopIteration") (b := true) ⟨o, ho, hcl⟩ isSubtype_stop (wpAny_pure ⟨rfl, ?_⟩))
    have nfp : ∀ c, c ∈ [z, TO, i1, i2] -> c ∈ [z, TI, TO, i1, i2] := fun c hc => by
      simp only [List.mem_cons, List.not_mem_nil, or_false] at hc ⊢
      rcases hc with q | q | q | q
      · exact .inl q
      · exact .inr (.inr (.inl q))
      · exact .inr (.inr (.inr (.inl q)))
      · exact .inr (.inr (.inr (.inr q)))
    have kp' : ∀ c o, c ∉ [z, TO, i1, i2] -> s.heap.get? c = some o -> h'.get? c = some o := fun c o hc e => kp c o (fun q => hc (by simp [q])) (fun q => hc (by simp [q])) (fun q => hc (by simp [q])) (fun q => hc (by simp [q])) e
    have ntr : ∀ c u, H c = some u -> c ∉ [z, TO, i1, i2] := fun c u e hc => by
      have := (hf c (nfp c hc)).1
      rw [this] at e; cases e
    refine I.step (g' := s.gens) (d' := s.drawn) (t' := s.toks) (ch := [z, TO, i1, i2]) (fun c hc => ?_) (fun c o _ _ hc e _ => kp' c o hc e) (fun c o _ _ hc e _ => ⟨o.slots, kp' c o hc e⟩) (fun c o hc e n => n)
      (fun c o hc e => ⟨o, kp' c o hc e⟩) (fun c us e => e) (fun c o u e => e) (fun c ps e => ⟨#[], by rw [e]; simp⟩) (fun m hm => ?_) ?_ I.bare
    · obtain ⟨f0, f1, f2, f3, f4, f5⟩ := hf c (nfp c hc)
      exact ⟨f3, f1, f4, f5⟩
    · refine hm.at fun o e => kp' _ o (fun hc => ?_) e
      exact (hf _ (nfp _ hc)).2.1 rfl
    · intro c u e
      refine (I.hok c u e).stay (fun d v hd q => kp' d v ?_ q) (fun d q => q) fun d us q => q
      rcases hd with rfl | hd
      · exact ntr _ u e
      · exact ntr _ _ hd
  self := fun A i s Q E st h => wpAny_pyIter_zip st.1 h
abbrev tzA (h : Heap) (t1 : Addr) : Heap := h.push { cls := .type "tuple_iterator", data := .fields #[.ref t1, .int 0 0] }
abbrev tzB (h : Heap) (t1 t2 : Addr) : Heap := (tzA h t1).push { cls := .type "tuple_iterator", data := .fields #[.ref t2, .int 0 0] }
abbrev tzC (h : Heap) (t1 t2 : Addr) : Heap := (tzB h t1 t2).push { cls := .type "tuple", data := .seq #[.ref h.objs.size, .ref (tzA h t1).objs.size] }
abbrev tzD (h : Heap) (t1 t2 : Addr) : Heap := (tzC h t1 t2).push { cls := .type "tuple", data := .seq #[.none, .none] }
abbrev tzE (h : Heap) (t1 t2 : Addr) : Heap := (tzD h t1 t2).push { cls := .type "zip", data := .fields #[.none, .bool false, .bool false, .ref (tzB h t1 t2).objs.size, .ref (tzC h t1 t2).objs.size] }
theorem meets_zipT (l1 l2 : Addr) (xs ys : Array Value) : Meets (Builtin.«zip.__new__» ⟨[.type "zip", .ref l1, .ref l2], []⟩) (fun _ R s => s.heap.IsTuple l1 xs /\ s.heap.IsTuple l2 ys /\ R (.ok (.ret (.ref (tzD s.heap l1 l2).objs.size))) { s with heap := tzE s.heap l1 l2 }) :=
  .of_wp fun prog w A R s h => by
    obtain ⟨hp, g, d, tk, os⟩ := s; obtain ⟨hl1, hl2, h⟩ := h
    have hsub := sub_zip
    have hL1 : Heap.IsTuple (Shared.heap ⟨hp, g, d, tk, os⟩) l1 xs := hl1
    have hL2 : Heap.IsTuple (Shared.heap ⟨tzA hp l1, g, d, tk, os⟩) l2 ys := let ⟨o, e, r⟩ := hl2; ⟨o, Heap.get?_push_of_some _ e, r⟩
    wp_walk using wpAny_pyIter_tuple hL1, wpAny_pyIter_tuple hL2
    exact ⟨_, rfl, h⟩
section
variable {P : Program} {w : World} {A : Around} {E : Value -> Shared -> Prop} {s : Shared}
theorem call_zipT {l1 l2 : Addr} {xs ys : Array Value} {Q : Value -> Shared -> Prop} (hl1 : s.heap.IsTuple l1 xs) (hl2 : s.heap.IsTuple l2 ys)
    (h : ∀ h', IsZip h' (s.heap.objs.size + 4) (s.heap.objs.size + 2) (s.heap.objs.size + 3) .none -> IsPair h' (s.heap.objs.size + 2) (.ref s.heap.objs.size) (.ref (s.heap.objs.size + 1)) ->
      IsPair h' (s.heap.objs.size + 3) .none .none -> h'.IsTupleIter s.heap.objs.size l1 0 -> h'.IsTupleIter (s.heap.objs.size + 1) l2 0 ->
      (∀ c o, s.heap.get? c = some o -> h'.get? c = some o) -> Q (.ref (s.heap.objs.size + 4)) { s with heap := h' }) : wpAny (model P w) A (call (.type "zip") [.ref l1, .ref l2]) Q E s := by
  refine callType_new F.called_zip (by decide) (F.typeCall_zip_2 _ _) (F.newCall_zip_2 _ _) (fun obj => F.args_object_init_3 obj _ _) F.entry_zip_new (meets_zipT l1 l2 xs ys) ⟨hl1, hl2, ?_⟩
  have n1 : (tzA s.heap l1).objs.size = s.heap.objs.size + 1 := Heap.size_push ..
  have n2 : (tzB s.heap l1 l2).objs.size = s.heap.objs.size + 2 := by rw [Heap.size_push, n1]
  have n3 : (tzC s.heap l1 l2).objs.size = s.heap.objs.size + 3 := by rw [Heap.size_push, n2]
  have n4 : (tzD s.heap l1 l2).objs.size = s.heap.objs.size + 4 := by rw [Heap.size_push, n3]
  have q5 : (tzE s.heap l1 l2).get? (tzD s.heap l1 l2).objs.size = some _ := Heap.get?_push_size _ rfl
  have q4 : (tzE s.heap l1 l2).get? (tzC s.heap l1 l2).objs.size = some _ := Heap.get?_push_of_some _ (Heap.get?_push_size _ rfl)
  have q3 : (tzE s.heap l1 l2).get? (tzB s.heap l1 l2).objs.size = some _ := Heap.get?_push_of_some _ (Heap.get?_push_of_some _ (Heap.get?_push_size _ rfl))
  have q2 : (tzE s.heap l1 l2).get? (tzA s.heap l1).objs.size = some _ := Heap.get?_push_of_some _ (Heap.get?_push_of_some _ (Heap.get?_push_of_some _ (Heap.get?_push_size _ rfl)))
  have q1 : (tzE s.heap l1 l2).get? s.heap.objs.size = some _ := Heap.get?_push_of_some _ (Heap.get?_push_of_some _ (Heap.get?_push_of_some _ (Heap.get?_push_of_some _ (Heap.get?_push_size _ rfl))))
  show _ /\ _
  rw [n2, n3, n4] at q5
  rw [n1, n2] at q3
  rw [n3] at q4
  rw [n1] at q2
  rw [n4]
  exact ⟨⟨_, q5, rfl⟩, h _ q5 q3 q4 ⟨_, q1, rfl, rfl⟩ ⟨_, q2, rfl, rfl⟩ fun c o x => Heap.get?_push_of_some _ (Heap.get?_push_of_some _ (Heap.get?_push_of_some _ (Heap.get?_push_of_some _ (Heap.get?_push_of_some _ x))))⟩
end
theorem za_of {n l1 l2 : Addr} (h1 : l1 < n) (h2 : l2 < n) : ZA (n + 4) (n + 2) (n + 3) n (n + 1) l1 l2 := by
  have h1 : @LT.lt Nat _ l1 n := h1
  have h2 : @LT.lt Nat _ l2 n := h2
  have key : ∀ (a b : Nat), (a < b \/ b < a) -> ¬ (@Eq Nat a b) := fun a b h q => by omega
  exact ⟨key _ _ (by omega), key _ _ (by omega), key _ _ (by omega), key _ _ (by omega), key _ _ (by omega), key _ _ (by omega), key _ _ (by omega), key _ _ (by omega), key _ _ (by omega), key _ _ (by omega),
    key _ _ (by omega), key _ _ (by omega), key _ _ (by omega), key _ _ (by omega), key _ _ (by omega), key _ _ (by omega), key _ _ (by omega), key _ _ (by omega)⟩
def iZip (K : PySem.W.Frag) (ta : TA) : TI := fun σ H R => ta σ H fun vs H1 => ∃ l1 l2, vs = [.ref l1, .ref l2] /\
  ((∃ xs ys, SqL K H1 l1 xs /\ SqL K H1 l2 ys /\ R (Itz SqL K l1 l2) H1) \/ (∃ xs ys, SqT K H1 l1 xs /\ SqT K H1 l2 ys /\ R (Itz SqT K l1 l2) H1))
theorem pi_zip {X : Cx} {a b : Expr} {ta : TA} {p pos : Pos} {elts : List Expr} {ek : Nat} {epos : Pos} (hg : Gl X "zip") (hm : X.mg "zip" = none) (ha : PA X [a, b] ta) (hs : starEach [a, b] X.env = [(false, eval a X.env), (false, eval b X.env)] := by rfl) (hs2 : starEach [b] X.env = [(false, eval b X.env)] := by rfl) :
    PI X (.Tuple elts ek epos) (.Call (.Name "zip" p) [a, b] [] pos) (iZip X.K ta) := by
  intro pins s σ H R I h
  refine Call_ (ld_blt I hg hm boot_zip (PyProof.Rows.callWith_type1 (thn (ha pos pins s σ H _ I h) fun us s1 ⟨vs, H1, I1, r1, q1⟩ => ?_) (by rw [hs, hs2]) (by rw [hs2]; rfl)))
  obtain ⟨l1, l2, e, q1⟩ := q1
  subst e
  obtain ⟨u1, u2, rfl, ru1, ru2⟩ := vals2 r1
  cases ru1
  cases ru2
  have fin : ∀ {sq : PySem.W.Frag -> Hp -> Addr -> List V -> Prop} {Hs : Addr -> Heap -> List Value -> Prop} {S1 S2 : Nat -> Heap -> Prop} {h' : Heap}, SqK sq Hs -> l1 < s1.heap.objs.size -> l2 < s1.heap.objs.size -> Drw X.prog X.w s1.heap.objs.size l1 S1 (Hs l1) -> Drw X.prog X.w (s1.heap.objs.size + 1) l2 S2 (Hs l2) ->
      IsZip h' (s1.heap.objs.size + 4) (s1.heap.objs.size + 2) (s1.heap.objs.size + 3) .none -> IsPair h' (s1.heap.objs.size + 2) (.ref s1.heap.objs.size) (.ref (s1.heap.objs.size + 1)) -> IsPair h' (s1.heap.objs.size + 3) .none .none -> S1 0 h' -> S2 0 h' -> (∀ c o, s1.heap.get? c = some o -> h'.get? c = some o) -> R (Itz sq X.K l1 l2) H1 ->
      wpAny (model X.prog X.w) X.A (pyIter (.ref (s1.heap.objs.size + 4))) (PIE X pins σ (.Tuple elts ek epos) R) X.xe { s1 with heap := h' } := by
    intro sq Hs S1 S2 h' SK b1 b2 D1 D2 z0 t1 t0 st1 st2 kp q
    refine wpAny_pyIter_zip z0 ?_
    refine ⟨s1.heap.objs.size + 4, _, _, _, H1, rfl, I1.kept (h' := h') (t' := s1.toks) kp, turn_zip SK (za_of b1 b2) D1 D2, ⟨z0, t1, ⟨_, _, t0⟩, st1, st2⟩, fun c hc => ?_, q⟩
    have hle : s1.heap.objs.size <= c := by
      simp only [List.mem_cons, List.not_mem_nil, or_false] at hc
      have : (s1.heap.objs.size : Nat) <= (c : Nat) := by rcases hc with rfl | rfl | rfl | rfl | rfl <;> omega
      exact this
    exact I1.fpOk hle (I1.hok.fresh hle)
  rcases q1 with ⟨xs, ys, h1, h2, q⟩ | ⟨xs, ys, h1, h2, q⟩
  · obtain ⟨its1, r1, p1, _⟩ := I1.list h1
    obtain ⟨its2, r2, p2, _⟩ := I1.list h2
    have b1 : l1 < s1.heap.objs.size := by obtain ⟨o, n, e, _⟩ := p1; exact Heap.lt_size e
    have b2 : l2 < s1.heap.objs.size := by obtain ⟨o, n, e, _⟩ := p2; exact Heap.lt_size e
    exact call_zip_2 p1.isList p2.isList fun h' z0 t1 t0 st1 st2 _ kp => fin sqk_list b1 b2 (drw_list _ _) (drw_list _ _) z0 t1 t0 st1 st2 kp q
  · obtain ⟨its1, r1, p1, _⟩ := I1.tuple h1
    obtain ⟨its2, r2, p2, _⟩ := I1.tuple h2
    have b1 : l1 < s1.heap.objs.size := by obtain ⟨o, e, _⟩ := p1; exact Heap.lt_size e
    have b2 : l2 < s1.heap.objs.size := by obtain ⟨o, e, _⟩ := p2; exact Heap.lt_size e
    exact call_zipT p1 p2 fun h' z0 t1 t0 st1 st2 kp => fin sqk_tup b1 b2 (drw_tuple _ _) (drw_tuple _ _) z0 t1 t0 st1 st2 kp q
theorem qi_zip {X : Cx} {a b : Expr} {ta : TA} {p pos : Pos} {elts : List Expr} {ek : Nat} {epos : Pos} (hg : Gl X "zip") (hm : X.mg "zip" = none) (ha : QA X [a, b] ta) (hs : starEach [a, b] X.env = [(false, eval a X.env), (false, eval b X.env)] := by rfl) (hs2 : starEach [b] X.env = [(false, eval b X.env)] := by rfl) :
    QI X (.Tuple elts ek epos) (.Call (.Name "zip" p) [a, b] [] pos) (iZip X.K ta) := ⟨pi_zip hg hm ha.h hs hs2⟩
theorem forW_zip {sq : PySem.W.Frag -> Hp -> Addr -> List V -> Prop} {K : PySem.W.Frag} {l1 l2 : Addr} {g : TG} {tb : TS} {D : Ends} {σ : St} {H : Hp} (xs ys : List V) (hxy : xs.length = ys.length) (Pv : Nat -> St -> Hp -> Prop) (h0 : Pv 0 σ H) (hl : ∀ i σ H, i <= xs.length -> Pv i σ H -> sq K H l1 xs /\ sq K H l2 ys)
    (hs : ∀ i x y p σ H, xs[i]? = some x -> ys[i]? = some y -> Pv i σ H -> H p = none -> g (.ref p) σ (upd H p (.tup [x, y])) fun σ2 H2 => tb { D with nx := Pv (i + 1), ct := Pv (i + 1), bk := D.nx } σ2 H2) (hd : ∀ σ H, Pv xs.length σ H -> D.nx σ H) : Zq130 (Itz sq K l1 l2) g tb D σ H := by
  refine ⟨fun i m σ H => m = xs.length - i /\ i <= xs.length /\ Pv i σ H, ⟨xs.length, by simp, Nat.zero_le _, h0⟩, ?_⟩
  rintro i m σ H ⟨rfl, hi, p⟩
  obtain ⟨q1, q2⟩ := hl i σ H hi p
  by_cases hlt : i < xs.length
  · refine .inr ⟨⟨xs, ys, q1, q2, hlt, by omega⟩, Pv (i + 1), fun σ' H' p' => ⟨xs.length - (i + 1), by omega, rfl, hlt, p'⟩, fun v H' y => ?_⟩
    obtain ⟨pp, a, b, rfl, hp, rfl, hv⟩ := y
    obtain ⟨e1, e2⟩ := hv xs ys q1 q2
    exact hs i a b pp σ H e1 e2 p hp
  · have e : i = xs.length := by omega
    subst e
    exact .inl ⟨⟨xs, ys, q1, q2, .inl (Nat.le_refl _)⟩, hd σ H p⟩
end L2
end
section
set_option Elab.async false
set_option linter.all false
set_option maxRecDepth 100000
set_option maxHeartbeats 4000000
namespace L2
open PySem PySem.Spec PyProof.Rows
inductive D where
  | non | bl (b : Bool) | int (i : Int) | str (x : Str) | tup (xs : List D) | lst (xs : List D)
mutual
def Rep (H : Hp) : D -> V -> Prop
  | .non, v => v = .non
  | .bl b, v => v = .bl b
  | .int i, v => v = .int i
  | .str x, v => v = .str x
  | .tup ds, v => ∃ a vs, v = .ref a /\ H a = some (.tup vs) /\ RepL H ds vs
  | .lst ds, v => ∃ a vs, v = .ref a /\ H a = some (.lst vs) /\ RepL H ds vs
def RepL (H : Hp) : List D -> List V -> Prop
  | [], vs => vs = []
  | d :: ds, vs => ∃ v r, vs = v :: r /\ Rep H d v /\ RepL H ds r
end
mutual
theorem Rep.mono {H H' : Hp} (k : Same H H') : ∀ (d : D) (v : V), Rep H d v -> Rep H' d v
  | .non, v, h => h
  | .bl b, v, h => h
  | .int i, v, h => h
  | .str x, v, h => h
  | .tup ds, v, h => by
    obtain ⟨a, vs, e, h1, h2⟩ := h
    exact ⟨a, vs, e, k _ _ h1, RepL.mono k ds vs h2⟩
  | .lst ds, v, h => by
    obtain ⟨a, vs, e, h1, h2⟩ := h
    exact ⟨a, vs, e, k _ _ h1, RepL.mono k ds vs h2⟩
theorem RepL.mono {H H' : Hp} (k : Same H H') : ∀ (ds : List D) (vs : List V), RepL H ds vs -> RepL H' ds vs
  | [], vs, h => h
  | d :: ds, vs, h => by
    obtain ⟨v, r, e, h1, h2⟩ := h
    exact ⟨v, r, e, Rep.mono k d v h1, RepL.mono k ds r h2⟩
end
theorem RepL.length {H : Hp} : ∀ {ds : List D} {vs : List V}, RepL H ds vs -> vs.length = ds.length
  | [], vs, h => by cases h; rfl
  | d :: ds, vs, h => by
    obtain ⟨v, r, rfl, h1, h2⟩ := h
    rw [List.length_cons, List.length_cons, RepL.length h2]
theorem RepL.get {H : Hp} : ∀ {ds : List D} {vs : List V} {i : Nat} {v : V}, RepL H ds vs -> vs[i]? = some v -> ∃ d, ds[i]? = some d /\ Rep H d v
  | [], vs, i, v, h, e => by cases h; simp at e
  | d :: ds, vs, i, v, h, e => by
    obtain ⟨w, r, rfl, h1, h2⟩ := h
    cases i with
    | zero => simp at e; subst e; exact ⟨d, rfl, h1⟩
    | succ i => simp at e; exact RepL.get (i := i) h2 e
mutual
def Zq38 : D -> D -> Bool
  | .non, .non => true
  | .bl a, .bl b => a == b
  | .int a, .int b => a == b
  | .str a, .str b => a == b
  | .tup a, .tup b => Zq57 a b
  | .lst a, .lst b => Zq57 a b
  | _, _ => false
def Zq57 : List D -> List D -> Bool
  | [], [] => true
  | a :: r, b :: s => Zq38 a b && Zq57 r s
  | _, _ => false
end
mutual
theorem sameD_refl : ∀ d : D, Zq38 d d = true
  | .non => rfl
  | .bl _ => by simp [Zq38]
  | .int _ => by simp [Zq38]
  | .str _ => by simp [Zq38]
  | .tup ds => by rw [Zq38]; exact sameL_refl ds
  | .lst ds => by rw [Zq38]; exact sameL_refl ds
theorem sameL_refl : ∀ ds : List D, Zq57 ds ds = true
  | [] => rfl
  | d :: ds => by rw [Zq57, sameD_refl d, sameL_refl ds]; rfl
end
mutual
def D.deep : D -> Nat
  | .tup ds => Zq69 ds + 1
  | .lst ds => Zq69 ds + 1
  | _ => 0
def Zq69 : List D -> Nat
  | [] => 0
  | d :: ds => max d.deep (Zq69 ds)
end
theorem deep_get : ∀ {ds : List D} {i : Nat} {d : D}, ds[i]? = some d -> d.deep <= Zq69 ds
  | [], i, d, h => by simp at h
  | e :: ds, 0, d, h => by simp at h; subst h; rw [Zq69]; omega
  | e :: ds, i + 1, d, h => by
    simp at h
    have := deep_get h
    rw [Zq69]; omega
def isI : D -> String -> Bool
  | .non, _ => false
  | .bl _, c => c == "bool" || c == "int"
  | .int _, c => c == "int"
  | .str _, c => c == "str"
  | .tup _, c => c == "tuple"
  | .lst _, c => c == "list"
def fiveT : List String := ["bool", "int", "str", "list", "tuple"]
theorem isi {K : PySem.W.Frag} {H : Hp} {d : D} {v : V} (r : Rep H d v) (c : String) (hc : c ∈ fiveT) : ∃ t, TyOf K H v t /\ PySem.W.kitOne K t (.type c) = some (isI d c) := by
  unfold fiveT at hc
  simp only [List.mem_cons, List.not_mem_nil, or_false] at hc
  cases d with
  | non => cases r; refine ⟨_, .non, ?_⟩; rcases hc with rfl | rfl | rfl | rfl | rfl <;> rfl
  | bl b => cases r; refine ⟨_, .bl b, ?_⟩; rcases hc with rfl | rfl | rfl | rfl | rfl <;> rfl
  | int i => cases r; refine ⟨_, .int i, ?_⟩; rcases hc with rfl | rfl | rfl | rfl | rfl <;> rfl
  | str x => cases r; refine ⟨_, .str x, ?_⟩; rcases hc with rfl | rfl | rfl | rfl | rfl <;> rfl
  | tup ds => obtain ⟨a, vs, rfl, h1, h2⟩ := r; refine ⟨_, .tup h1, ?_⟩; rcases hc with rfl | rfl | rfl | rfl | rfl <;> rfl
  | lst ds => obtain ⟨a, vs, rfl, h1, h2⟩ := r; refine ⟨_, .lst h1, ?_⟩; rcases hc with rfl | rfl | rfl | rfl | rfl <;> rfl
theorem Rep.none_iff {H : Hp} {d : D} {v : V} (r : Rep H d v) : decide (v = .non) = (match d with | .non => true | _ => false) := by
  cases d with
  | non => cases r; rfl
  | bl b => cases r; rfl
  | int i => cases r; rfl
  | str x => cases r; rfl
  | tup ds => obtain ⟨a, vs, rfl, h1, h2⟩ := r; rfl
  | lst ds => obtain ⟨a, vs, rfl, h1, h2⟩ := r; rfl
theorem sameL_take {as bs : List D} : ∀ {i : Nat} {a b : D}, as[i]? = some a -> bs[i]? = some b -> Zq57 (as.take (i + 1)) (bs.take (i + 1)) = (Zq57 (as.take i) (bs.take i) && Zq38 a b) := by
  induction as generalizing bs with
  | nil => intro i a b h; simp at h
  | cons x as ih =>
    intro i a b h1 h2
    cases bs with
    | nil => simp at h2
    | cons y bs =>
      cases i with
      | zero => simp at h1 h2; subst h1; subst h2; simp [Zq57]
      | succ i =>
        simp at h1 h2
        have := ih h1 h2
        rw [List.take_succ_cons, List.take_succ_cons, Zq57, this, List.take_succ_cons, List.take_succ_cons, Zq57, Bool.and_assoc]
theorem sameL_false_len {as bs : List D} (h : as.length ≠ bs.length) : Zq57 as bs = false := by
  induction as generalizing bs with
  | nil => cases bs with
    | nil => exact absurd rfl h
    | cons y bs => rfl
  | cons x as ih => cases bs with
    | nil => rfl
    | cons y bs => rw [Zq57, ih (fun e => h (by rw [List.length_cons, List.length_cons, e])), Bool.and_false]
theorem sameL_false_at {as bs : List D} {i : Nat} {a b : D} (h1 : as[i]? = some a) (h2 : bs[i]? = some b) (h : Zq38 a b = false) : Zq57 as bs = false := by
  induction as generalizing bs i with
  | nil => simp at h1
  | cons x as ih =>
    cases bs with
    | nil => simp at h2
    | cons y bs =>
      cases i with
      | zero => simp at h1 h2; subst h1; subst h2; rw [Zq57, h, Bool.false_and]
      | succ i => simp at h1 h2; rw [Zq57, ih h1 h2, Bool.and_false]
end L2
namespace L2
theorem Rep.mono' {H H' : Hp} {d : D} {v : V} (h : Rep H d v) (k : Same H H') : Rep H' d v := Rep.mono k d v h
end L2
end
section
set_option Elab.async false
set_option linter.all false
set_option maxRecDepth 100000
set_option maxHeartbeats 4000000
namespace L2
open PySem PySem.Spec PyProof.Rows
section
variable {X : Cx} {tg : Expr}
end
section
variable {g : TG} {tb : TS} {D : Ends} {σ : St} {H : Hp}
end
section
variable {X : Cx} {o i value : Expr} {pos pos' : Pos} {td ty tv : TE}
end
end L2
end
section
set_option Elab.async false
set_option linter.all false
set_option maxRecDepth 100000
set_option maxHeartbeats 4000000
namespace L2
open PySem PySem.Spec PyProof.Rows
section
variable {X : Cx}
end
end L2
end
section
set_option Elab.async false
set_option linter.all false
set_option maxRecDepth 100000
set_option maxHeartbeats 4000000
namespace L2
open PySem PySem.Spec PyProof.Rows
section
variable {X : Cx}
end
end L2
end
section
set_option Elab.async false
set_option linter.all false
set_option maxRecDepth 100000
set_option maxHeartbeats 4000000
namespace L2
open PySem PySem.Spec PyProof.Rows PySem.W
def Zq97 (cmp : Nat -> Nat -> (Bool -> Shared -> Prop) -> Shared -> Prop) (r : Nat -> Nat) (N : Nat) (s : Shared) : Prop := ∀ (i j : Nat) (C : Bool -> Shared -> Prop), i < N -> j < N -> C (decide (r i < r j)) s -> cmp i j C s
def kp (r : Nat -> Nat) (p : Array Nat) (i : Nat) : Nat := r (p.getD i 0)
def Pm (N : Nat) (p : Array Nat) : Prop := p.toList.Perm (List.range N)
def UpTo (r : Nat -> Nat) (p : Array Nat) (m : Nat) : Prop := ∀ i, i + 1 < m -> kp r p i <= kp r p (i + 1)
def Zq113 (r : Nat -> Nat) (p : Array Nat) (m : Nat) : Prop := ∀ i, i + 1 < m -> kp r p (i + 1) <= kp r p i
section
variable {s : Shared} {cmp : Nat -> Nat -> (Bool -> Shared -> Prop) -> Shared -> Prop} {r : Nat -> Nat} {N : Nat} {p : Array Nat}
theorem Pm.size (h : Pm N p) : p.size = N := by
  have := h.length_eq
  rw [List.length_range] at this
  simpa using this
theorem Pm.lt (h : Pm N p) {i : Nat} (hi : i < N) : p.getD i 0 < N := by
  have hs : i < p.size := by rw [h.size]; exact hi
  have e : p.getD i 0 = p[i] := by simp [Array.getD, hs]
  have m : p[i] ∈ p.toList := by simp
  rw [e]
  exact List.mem_range.mp (h.mem_iff.mp m)
theorem Pm.rev (h : Pm N p) (i j : Nat) : Pm N (kas_rev p i j) := (Array.perm_iff_toList_perm.mp (mirror_perm p i j _)).trans h
theorem Pm.bub (h : Pm N p) (i d : Nat) : Pm N (bubble p i d) := (Array.perm_iff_toList_perm.mp (bubble_perm p i d)).trans h
theorem kp_of {p q : Array Nat} {i j : Nat} (h : p[i]? = q[j]?) : kp r p i = kp r q j := by
  unfold kp
  rw [Array.getD_eq_getD_getElem?, Array.getD_eq_getD_getElem?, h]
theorem kp_rev (h : Pm N p) {i j k : Nat} (hj : j <= N) : kp r (kas_rev p i j) k = if i <= k /\ k < j then kp r p (i + j - 1 - k) else kp r p k := by
  have e := getElem?_mirror_all (xs := p) (i := i) (j := j) (by rw [h.size]; exact hj) k
  by_cases c : i <= k /\ k < j
  · rw [if_pos c] at e ⊢; exact kp_of e
  · rw [if_neg c] at e ⊢; exact kp_of e
theorem kp_bub (h : Pm N p) {k l i : Nat} (hk : k < N) (hl : l <= k) : kp r (bubble p k (k - l)) i = if i = l then kp r p k else if l < i /\ i <= k then kp r p (i - 1) else kp r p i := by
  have e := getElem?_bubble (xs := p) (src := k) (by rw [h.size]; exact hk) (k - l) (by omega) i
  have x : k - (k - l) = l := by omega
  rw [x] at e
  by_cases c : i = l
  · rw [if_pos c] at e ⊢; exact kp_of e
  · rw [if_neg c] at e ⊢
    by_cases d : l < i /\ i <= k
    · rw [if_pos d] at e ⊢; exact kp_of e
    · rw [if_neg d] at e ⊢; exact kp_of e
theorem asc_ok (hR : Zq97 cmp r N s) (hp : Pm N p) {Q : Nat -> Shared -> Prop} : ∀ (f n : Nat), 1 <= n -> n + f <= N -> UpTo r p n -> (∀ m, n <= m -> m <= n + f -> UpTo r p m -> (m < n + f -> kp r p m < kp r p (m - 1)) -> Q m s) -> (kas_asc p f n).kasWp cmp Q s
  | 0, n, h1, h2, hu, k => k n (Nat.le_refl _) (Nat.le_refl _) hu (fun z => by omega)
  | f + 1, n, h1, h2, hu, k => by
    refine hR _ _ _ (hp.lt (by omega)) (hp.lt (by omega)) ?_
    by_cases c : r (p.getD n 0) < r (p.getD (n - 1) 0)
    · rw [decide_eq_true c]
      exact k n (Nat.le_refl _) (by omega) hu fun _ => c
    · rw [decide_eq_false c]
      refine asc_ok hR hp f (n + 1) (by omega) (by omega) (fun i hi => ?_) fun m a b u d => k m (by omega) (by omega) u (fun z => d (by omega))
      by_cases e : i + 1 < n
      · exact hu i e
      · have : i = n - 1 := by omega
        subst this
        rw [show n - 1 + 1 = n by omega]
        unfold kp
        omega
theorem kp_rev_same (h : Pm N p) {a n k : Nat} (hn : n <= N) (he : ∀ i, a <= i -> i < n -> kp r p i = kp r p (n - 1)) : kp r (kas_rev p a n) k = kp r p k := by
  rw [kp_rev h hn]
  by_cases c : a <= k /\ k < n
  · rw [if_pos c, he (a + n - 1 - k) (by omega) (by omega), he k c.1 c.2]
  · rw [if_neg c]
theorem desc_ok (hR : Zq97 cmp r N s) {Q : Array Nat × Nat × Nat -> Shared -> Prop} : ∀ (f : Nat) (p : Array Nat) (n q : Nat), Pm N p -> 1 <= n -> n + f <= N -> q + 1 <= n -> Zq113 r p n -> (∀ k, n - (q + 1) <= k -> k < n -> kp r p k = kp r p (n - 1)) ->
    (∀ (p' : Array Nat) (m q' : Nat), Pm N p' -> n <= m -> m <= n + f -> q' + 1 <= m -> Zq113 r p' m -> (∀ k, m - (q' + 1) <= k -> k < m -> kp r p' k = kp r p' (m - 1)) -> Q (p', m, q') s) -> (kas_desc f p n q).kasWp cmp Q s
  | 0, p, n, q, hp, h1, h2, hq, hd, he, k => k p n q hp (Nat.le_refl _) (Nat.le_refl _) hq hd he
  | f + 1, p, n, q, hp, h1, h2, hq, hd, he, k => by
    refine hR _ _ _ (hp.lt (by omega)) (hp.lt (by omega)) ?_
    by_cases c : r (p.getD n 0) < r (p.getD (n - 1) 0)
    · rw [decide_eq_true c]
      have step : Zq113 r p (n + 1) := fun i hi => by
        by_cases e : i + 1 < n
        · exact hd i e
        · have : i = n - 1 := by omega
          subst this
          rw [show n - 1 + 1 = n by omega]
          unfold kp
          omega
      show (if true = true then (if q > 0 then kas_desc f (kas_rev p (n - (q + 1)) n) (n + 1) 0 else kas_desc f p (n + 1) 0) else _).kasWp cmp Q s
      rw [if_pos rfl]
      by_cases z : q > 0
      · rw [if_pos z]
        have same : ∀ k, kp r (kas_rev p (n - (q + 1)) n) k = kp r p k := fun k => kp_rev_same hp (by omega) he
        refine desc_ok hR f _ (n + 1) 0 (hp.rev _ _) (by omega) (by omega) (by omega) (fun i hi => ?_) (fun k a b => ?_) fun p' m q' a b c' d e g => k p' m q' a (by omega) (by omega) d e g
        · rw [same, same]; exact step i hi
        · have : k = n + 1 - 1 := by omega
          rw [this]
      · rw [if_neg z]
        refine desc_ok hR f p (n + 1) 0 hp (by omega) (by omega) (by omega) step (fun k a b => ?_) fun p' m q' a b c' d e g => k p' m q' a (by omega) (by omega) d e g
        have : k = n + 1 - 1 := by omega
        rw [this]
    · rw [decide_eq_false c]
      show (if false = true then _ else KasT.ask (p.getD (n - 1) 0) (p.getD n 0) fun d => if d = true then .ret (p, n, q) else kas_desc f p (n + 1) (q + 1)).kasWp cmp Q s
      rw [if_neg Bool.false_ne_true]
      refine hR _ _ _ (hp.lt (by omega)) (hp.lt (by omega)) ?_
      by_cases d : r (p.getD (n - 1) 0) < r (p.getD n 0)
      · rw [decide_eq_true d]
        exact k p n q hp (Nat.le_refl _) (by omega) hq hd he
      · rw [decide_eq_false d]
        have eq : kp r p n = kp r p (n - 1) := by unfold kp; omega
        refine desc_ok hR f p (n + 1) (q + 1) hp (by omega) (by omega) (by omega) (fun i hi => ?_) (fun k a b => ?_) fun p' m q' a b c' d e g => k p' m q' a (by omega) (by omega) d e g
        · by_cases e : i + 1 < n
          · exact hd i e
          · have : i = n - 1 := by omega
            subst this
            rw [show n - 1 + 1 = n by omega, eq]
            exact Nat.le_refl _
        · rw [show n + 1 - 1 = n by omega, eq]
          by_cases e : k < n
          · exact he k (by omega) e
          · rw [show k = n by omega, eq]
theorem down_le (h : Zq113 r p m) : ∀ (d i : Nat), i + d < m -> kp r p (i + d) <= kp r p i
  | 0, i, _ => Nat.le_refl _
  | d + 1, i, hi => Nat.le_trans (h (i + d) (by omega)) (down_le h d i (by omega))
theorem up_le (h : UpTo r p m) : ∀ (d i : Nat), i + d < m -> kp r p i <= kp r p (i + d)
  | 0, i, _ => Nat.le_refl _
  | d + 1, i, hi => Nat.le_trans (up_le h d i (by omega)) (h (i + d) (by omega))
theorem rev_up (h : Pm N p) {n : Nat} (hn : n <= N) (hd : Zq113 r p n) : UpTo r (kas_rev p 0 n) n := fun i hi => by
  rw [kp_rev h hn, kp_rev h hn, if_pos (by omega), if_pos (by omega)]
  have := hd (0 + n - 1 - (i + 1)) (by omega)
  rw [show 0 + n - 1 - (i + 1) + 1 = 0 + n - 1 - i by omega] at this
  exact this
def Runs (r : Nat -> Nat) (N : Nat) (Q : Nat × Array Nat -> Shared -> Prop) (s : Shared) : Prop := ∀ (m : Nat) (p : Array Nat), 1 <= m -> m <= N -> Pm N p -> UpTo r p m -> Q (m, p) s
theorem tail_ok (hR : Zq97 cmp r N s) (h : Pm N p) {Q : Nat × Array Nat -> Shared -> Prop} (k : Runs r N Q s) {n : Nat} (h1 : 1 <= n) (hn : n <= N) (hd : Zq113 r p n) : (kas_tail3 n N p).kasWp cmp Q s := by
  unfold kas_tail3
  rw [KasT.kasWp_bind]
  exact asc_ok hR (h.rev 0 n) (N - n) n h1 (by omega) (rev_up h hn hd) fun m a b u _ => k m _ (by omega) (by omega) (h.rev 0 n) u
theorem part_ok (hR : Zq97 cmp r N s) (h : Pm N p) {Q : Nat × Array Nat -> Shared -> Prop} (k : Runs r N Q s) {n : Nat} (hn : n + 1 <= N) (hd : Zq113 r p (n + 1)) : (kas_descPart n N p).kasWp cmp Q s := by
  unfold kas_descPart
  rw [KasT.kasWp_bind]
  refine desc_ok hR (N - (n + 1)) p (n + 1) 0 h (by omega) (by omega) (by omega) hd (fun k a b => by rw [show k = n + 1 - 1 by omega]) fun p' m q' a b c d e g => ?_
  dsimp only
  by_cases z : q' > 0
  · rw [if_pos z]
    have same : ∀ k, kp r (kas_rev p' (m - (q' + 1)) m) k = kp r p' k := fun k => kp_rev_same a (by omega) g
    exact tail_ok hR (a.rev _ _) k (by omega) (by omega) fun i hi => by rw [same, same]; exact e i hi
  · rw [if_neg z]
    exact tail_ok hR a k (by omega) (by omega) e
theorem count_ok (hR : Zq97 cmp r N s) (h : Pm N p) (h1 : 1 <= N) {Q : Nat × Array Nat -> Shared -> Prop} (k : Runs r N Q s) : (kas_count N p).kasWp cmp Q s := by
  unfold kas_count
  rw [KasT.kasWp_bind]
  refine asc_ok hR h (N - 1) 1 (Nat.le_refl _) (by omega) (fun i hi => by omega) fun m a b u d => ?_
  by_cases z : m = N
  · rw [if_pos (by rw [z]; exact beq_self_eq_true N)]
    exact k m p a (by omega) h u
  · rw [if_neg (fun e => z (eq_of_beq e))]
    have dm := d (by omega)
    by_cases y : m > 1
    · rw [if_pos y]
      refine hR _ _ _ (h.lt (by omega)) (h.lt (by omega)) ?_
      by_cases c : r (p.getD 0 0) < r (p.getD (m - 1) 0)
      · rw [decide_eq_true c]
        exact k m p a (by omega) h u
      · rw [decide_eq_false c]
        have all : ∀ i, 0 <= i -> i < m -> kp r p i = kp r p (m - 1) := fun i _ hi => by
          have h0 := up_le u i 0 (by omega)
          have h2 := up_le u (m - 1 - i) i (by omega)
          rw [show 0 + i = i by omega] at h0
          rw [show i + (m - 1 - i) = m - 1 by omega] at h2
          have h3 : kp r p (m - 1) <= kp r p 0 := by unfold kp; omega
          omega
        have same : ∀ k, kp r (kas_rev p 0 m) k = kp r p k := fun k => kp_rev_same h (by omega) all
        refine part_ok hR (h.rev _ _) k (by omega) fun i hi => ?_
        rw [same, same]
        by_cases e : i + 1 < m
        · rw [all i (by omega) (by omega), all (i + 1) (by omega) e]; exact Nat.le_refl _
        · rw [show i = m - 1 by omega, show m - 1 + 1 = m by omega]
          exact Nat.le_of_lt dm
    · rw [if_neg y]
      refine part_ok hR h k (by omega) fun i hi => ?_
      rw [show i = m - 1 by omega, show m - 1 + 1 = m by omega]
      exact Nat.le_of_lt dm
theorem place_ok (hR : Zq97 cmp r N s) (h : Pm N p) {Q : Nat -> Shared -> Prop} {k : Nat} (hk : k < N) (hu : UpTo r p k) (q : ∀ l, l <= k -> (∀ i, i < l -> kp r p i <= kp r p k) -> (∀ i, l <= i -> i < k -> kp r p k <= kp r p i) -> Q l s) :
    ∀ (f l m : Nat), l <= m -> m <= k -> m - l <= f -> (∀ i, i < l -> kp r p i <= kp r p k) -> (∀ i, m <= i -> i < k -> kp r p k <= kp r p i) -> (kas_place p k f l m).kasWp cmp Q s
  | 0, l, m, a, b, c, lo, hi => q l (by omega) lo fun i x y => hi i (by omega) y
  | f + 1, l, m, a, b, c, lo, hi => by
    show (if l >= m then KasT.ret l else _).kasWp cmp Q s
    by_cases z : l >= m
    · rw [if_pos z]
      exact q l (by omega) lo fun i x y => hi i (by omega) y
    · rw [if_neg z]
      refine hR _ _ _ (h.lt hk) (h.lt (by omega)) ?_
      by_cases y : r (p.getD k 0) < r (p.getD ((l + m) / 2) 0)
      · rw [decide_eq_true y]
        refine place_ok hR h hk hu q f l ((l + m) / 2) (by omega) (by omega) (by omega) lo fun i x w => ?_
        have := up_le hu (i - (l + m) / 2) ((l + m) / 2) (by omega)
        rw [show (l + m) / 2 + (i - (l + m) / 2) = i by omega] at this
        exact Nat.le_trans (Nat.le_of_lt y) this
      · rw [decide_eq_false y]
        refine place_ok hR h hk hu q f ((l + m) / 2 + 1) m (by omega) b (by omega) (fun i x => ?_) hi
        have := up_le hu ((l + m) / 2 - i) i (by omega)
        rw [show i + ((l + m) / 2 - i) = (l + m) / 2 by omega] at this
        exact Nat.le_trans this (Nat.le_of_not_lt y)
theorem bin_ok (hR : Zq97 cmp r N s) {Q : Array Nat -> Shared -> Prop} : ∀ (f : Nat) (p : Array Nat) (k : Nat), Pm N p -> k + f <= N -> UpTo r p k -> (∀ p', Pm N p' -> UpTo r p' (k + f) -> Q p' s) -> (kas_bin f p k).kasWp cmp Q s
  | 0, p, k, h, hk, hu, q => q p h hu
  | f + 1, p, k, h, hk, hu, q => by
    show ((kas_place p k k 0 k).bind fun l => kas_bin f (bubble p k (k - l)) (k + 1)).kasWp cmp Q s
    rw [KasT.kasWp_bind]
    refine place_ok hR h (by omega) hu (fun l a lo hi => ?_) k 0 k (by omega) (by omega) (by omega) (fun i x => by omega) fun i x y => by omega
    refine bin_ok hR f _ (k + 1) (h.bub _ _) (by omega) (fun i x => ?_) fun p' a b => q p' a (by rw [show k + (f + 1) = k + 1 + f by omega]; exact b)
    rw [kp_bub h (by omega) a, kp_bub h (by omega) a]
    by_cases c : i = l
    · rw [if_pos c, if_neg (by omega), if_pos (by omega)]
      by_cases d : i + 1 <= k /\ l < k
      · rw [show i + 1 - 1 = l by omega]
        exact hi l (by omega) (by omega)
      · omega
    · rw [if_neg c]
      by_cases d : i + 1 = l
      · rw [if_pos d, if_neg (by omega)]
        exact lo i (by omega)
      · rw [if_neg d]
        by_cases e : l < i
        · rw [if_pos (by omega), if_pos (by omega), show i + 1 - 1 = i - 1 + 1 by omega]
          exact hu (i - 1) (by omega)
        · rw [if_neg (by omega), if_neg (by omega)]
          exact hu i (by omega)
theorem sort_ok (hR : Zq97 cmp r N s) (h2 : 1 <= N) {Q : Array Nat -> Shared -> Prop} (q : ∀ p, Pm N p -> UpTo r p N -> Q p s) : (kas_sort N).kasWp cmp Q s := by
  unfold kas_sort
  rw [KasT.kasWp_bind]
  refine count_ok hR (by show (List.toArray (List.range N)).toList.Perm _; exact List.Perm.refl _) h2 fun m p a b hp u => ?_
  by_cases c : m < N
  · rw [if_pos c]
    refine bin_ok hR _ p _ hp (by omega) (by rw [Nat.max_eq_left a]; exact u) fun p' x y => q p' x ?_
    rw [show max m 1 + (N - max m 1) = N by omega] at y
    exact y
  · rw [if_neg c]
    exact q p hp (by rw [show N = m by omega]; exact u)
end
end L2
namespace L2
structure Weak (lt : Nat -> Nat -> Bool) : Prop where
  irr : ∀ i, lt i i = false
  tr : ∀ i j k, lt i j = true -> lt j k = true -> lt i k = true
  neg : ∀ i j k, lt i j = true -> lt i k = true \/ lt k j = true
def rk (lt : Nat -> Nat -> Bool) (N i : Nat) : Nat := (List.range N).countP fun k => lt k i
theorem countP_less {p q : Nat -> Bool} (h : ∀ k, p k = true -> q k = true) {i : Nat} (hp : p i = false) (hq : q i = true) : ∀ l : List Nat, i ∈ l -> l.countP p < l.countP q
  | [], m => nomatch m
  | x :: l, m => by
    have le := List.countP_mono_left (l := l) (p := p) (q := q) fun k _ => h k
    rw [List.countP_cons, List.countP_cons]
    rcases List.mem_cons.mp m with rfl | m
    · rw [hp, hq]
      simp
      omega
    · have := countP_less h hp hq l m
      by_cases z : p x = true
      · rw [z, h x z]; simp; omega
      · cases e : q x with
        | true => simp [z]; omega
        | false => simp [z]; omega
theorem rk_iff {lt : Nat -> Nat -> Bool} (W : Weak lt) {N i j : Nat} (hi : i < N) : decide (rk lt N i < rk lt N j) = lt i j := by
  unfold rk
  cases e : lt i j with
  | true => exact decide_eq_true (countP_less (fun k h => W.tr k i j h e) (W.irr i) e _ (List.mem_range.mpr hi))
  | false =>
    refine decide_eq_false (Nat.not_lt.mpr (List.countP_mono_left fun k _ h => ?_))
    rcases W.neg k j i h with z | z
    · exact z
    · rw [e] at z; cases z
theorem Pm.out {α : Type} {p : Array Nat} {vs : List α} {d : α} (h : Pm vs.length p) : (p.toList.map fun i => vs.getD i d).Perm vs := by
  have e : (List.range vs.length).map (fun i => vs.getD i d) = vs := by
    apply List.ext_getElem
    · simp
    · intro i h1 h2
      simp [h2]
  have := h.map fun i => vs.getD i d
  rw [e] at this
  exact this
theorem UpTo.pair {r : Nat -> Nat} {p : Array Nat} {N : Nat} (hp : Pm N p) (u : UpTo r p N) : p.toList.Pairwise fun i j => r i <= r j := by
  rw [List.pairwise_iff_getElem]
  intro i j hi hj hij
  have hs := hp.size
  have hi' : i < p.size := by simpa using hi
  have hj' : j < p.size := by simpa using hj
  have := up_le u (j - i) i (by omega)
  rw [show i + (j - i) = j by omega] at this
  unfold kp at this
  simpa [Array.getD, hi', hj'] using this
theorem sorted_by {α : Type} {p : Array Nat} {vs : List α} {d : α} {lt : α -> α -> Bool} (hp : Pm vs.length p) (W : Weak fun i j => lt (vs.getD i d) (vs.getD j d)) (u : UpTo (rk (fun i j => lt (vs.getD i d) (vs.getD j d)) vs.length) p vs.length) :
    (p.toList.map fun i => vs.getD i d).Perm vs /\ (p.toList.map fun i => vs.getD i d).Pairwise fun a b => lt b a = false := by
  refine ⟨hp.out, ?_⟩
  rw [List.pairwise_map]
  have h1 := u.pair hp
  have hm : ∀ i ∈ p.toList, i < vs.length := fun i hi => List.mem_range.mp (hp.mem_iff.mp hi)
  refine List.Pairwise.imp_of_mem ?_ h1
  intro i j hi hj h
  have := rk_iff W (i := j) (j := i) (hm j hj)
  rw [decide_eq_false (Nat.not_lt.mpr h)] at this
  exact this.symm
end L2
namespace L2
open PySem PySem.Spec PyProof.Rows
def ltK : List Key -> List Key -> Bool
  | .inl x :: r, .inl y :: t => if x = y then ltK r t else decide (x < y)
  | .inr x :: r, .inr y :: t => if x = y then ltK r t else decide (x.cps.toList < y.cps.toList)
  | _, _ => false
def shp (k : List Key) : List Bool := k.map Sum.isLeft
theorem str_tri {x y : Str} (h : x ≠ y) (h2 : ¬ x.cps.toList < y.cps.toList) : y.cps.toList < x.cps.toList := by
  by_cases c : y.cps.toList < x.cps.toList
  · exact c
  · exfalso
    apply h
    have e : x.cps.toList = y.cps.toList := List.le_antisymm (List.not_lt.mp c) (List.not_lt.mp h2)
    cases x; cases y
    simp only [Str.mk.injEq]
    exact Array.toList_inj.mp e
theorem str_ne {x y : Str} (h : x.cps.toList < y.cps.toList) : x ≠ y := fun e => by subst e; exact List.lt_irrefl _ h
theorem ltK_irr : ∀ a : List Key, ltK a a = false
  | [] => rfl
  | .inl x :: r => by rw [ltK, if_pos rfl]; exact ltK_irr r
  | .inr x :: r => by rw [ltK, if_pos rfl]; exact ltK_irr r
theorem ltK_tr : ∀ a b c : List Key, ltK a b = true -> ltK b c = true -> ltK a c = true
  | .inl x :: r, .inl y :: t, .inl z :: u, h1, h2 => by
    rw [ltK] at h1 h2 ⊢
    by_cases e1 : x = y
    · rw [if_pos e1] at h1
      subst e1
      by_cases e2 : x = z
      · rw [if_pos e2] at h2 ⊢; exact ltK_tr r t u h1 h2
      · rw [if_neg e2] at h2 ⊢; exact h2
    · rw [if_neg e1] at h1
      have l1 := of_decide_eq_true h1
      by_cases e2 : y = z
      · subst e2; rw [if_neg e1]; exact h1
      · rw [if_neg e2] at h2
        have l2 := of_decide_eq_true h2
        rw [if_neg (by omega)]
        exact decide_eq_true (by omega)
  | .inr x :: r, .inr y :: t, .inr z :: u, h1, h2 => by
    rw [ltK] at h1 h2 ⊢
    by_cases e1 : x = y
    · rw [if_pos e1] at h1
      subst e1
      by_cases e2 : x = z
      · rw [if_pos e2] at h2 ⊢; exact ltK_tr r t u h1 h2
      · rw [if_neg e2] at h2 ⊢; exact h2
    · rw [if_neg e1] at h1
      have l1 := of_decide_eq_true h1
      by_cases e2 : y = z
      · subst e2; rw [if_neg e1]; exact h1
      · rw [if_neg e2] at h2
        have l2 := of_decide_eq_true h2
        have l3 := List.lt_trans l1 l2
        rw [if_neg (str_ne l3)]
        exact decide_eq_true l3
  | [], _, _, h1, _ => by cases h1
  | .inl _ :: _, [], _, h1, _ => by cases h1
  | .inr _ :: _, [], _, h1, _ => by cases h1
  | .inl _ :: _, .inr _ :: _, _, h1, _ => by cases h1
  | .inr _ :: _, .inl _ :: _, _, h1, _ => by cases h1
  | .inl _ :: _, .inl _ :: _, [], _, h2 => by cases h2
  | .inr _ :: _, .inr _ :: _, [], _, h2 => by cases h2
  | .inl _ :: _, .inl _ :: _, .inr _ :: _, _, h2 => by cases h2
  | .inr _ :: _, .inr _ :: _, .inl _ :: _, _, h2 => by cases h2
theorem ltK_neg : ∀ a b c : List Key, shp a = shp c -> ltK a b = true -> ltK a c = true \/ ltK c b = true
  | .inl x :: r, .inl y :: t, .inl z :: u, hs, h => by
    have hs' : shp r = shp u := by unfold shp at hs ⊢; simpa using hs
    rw [ltK] at h
    rw [ltK, ltK]
    by_cases e1 : x = z
    · subst e1
      rw [if_pos rfl]
      by_cases e2 : x = y
      · rw [if_pos e2] at h ⊢; exact ltK_neg r t u hs' h
      · rw [if_neg e2] at h ⊢; exact .inr h
    · rw [if_neg e1]
      by_cases l : x < z
      · exact .inl (decide_eq_true l)
      · by_cases e2 : x = y
        · subst e2; rw [if_neg (fun q => e1 q.symm)]; exact .inr (decide_eq_true (by omega))
        · rw [if_neg e2] at h
          have := of_decide_eq_true h
          rw [if_neg (by omega)]
          exact .inr (decide_eq_true (by omega))
  | .inr x :: r, .inr y :: t, .inr z :: u, hs, h => by
    have hs' : shp r = shp u := by unfold shp at hs ⊢; simpa using hs
    rw [ltK] at h
    rw [ltK, ltK]
    by_cases e1 : x = z
    · subst e1
      rw [if_pos rfl]
      by_cases e2 : x = y
      · rw [if_pos e2] at h ⊢; exact ltK_neg r t u hs' h
      · rw [if_neg e2] at h ⊢; exact .inr h
    · rw [if_neg e1]
      by_cases l : x.cps.toList < z.cps.toList
      · exact .inl (decide_eq_true l)
      · have l2 := str_tri e1 l
        by_cases e2 : x = y
        · subst e2; rw [if_neg (fun q => e1 q.symm)]; exact .inr (decide_eq_true l2)
        · rw [if_neg e2] at h
          have := List.lt_trans l2 (of_decide_eq_true h)
          rw [if_neg (str_ne this)]
          exact .inr (decide_eq_true this)
  | [], _, _, _, h1 => by cases h1
  | .inl _ :: _, [], _, _, h1 => by cases h1
  | .inr _ :: _, [], _, _, h1 => by cases h1
  | .inl _ :: _, .inr _ :: _, _, _, h1 => by cases h1
  | .inr _ :: _, .inl _ :: _, _, _, h1 => by cases h1
  | .inl _ :: _, .inl _ :: _, [], hs, _ => by simp [shp] at hs
  | .inr _ :: _, .inr _ :: _, [], hs, _ => by simp [shp] at hs
  | .inl _ :: _, .inl _ :: _, .inr _ :: _, hs, _ => by simp [shp] at hs
  | .inr _ :: _, .inr _ :: _, .inl _ :: _, hs, _ => by simp [shp] at hs
theorem ltK_tri : ∀ a b : List Key, shp a = shp b -> ltK a b = false -> ltK b a = false -> a = b
  | [], [], _, _, _ => rfl
  | .inl x :: r, .inl y :: t, hs, h1, h2 => by
    have hs' : shp r = shp t := by unfold shp at hs ⊢; simpa using hs
    rw [ltK] at h1 h2
    by_cases e : x = y
    · subst e; rw [if_pos rfl] at h1 h2; rw [ltK_tri r t hs' h1 h2]
    · rw [if_neg e] at h1; rw [if_neg (fun q => e q.symm)] at h2
      have := of_decide_eq_false h1; have := of_decide_eq_false h2; omega
  | .inr x :: r, .inr y :: t, hs, h1, h2 => by
    have hs' : shp r = shp t := by unfold shp at hs ⊢; simpa using hs
    rw [ltK] at h1 h2
    by_cases e : x = y
    · subst e; rw [if_pos rfl] at h1 h2; rw [ltK_tri r t hs' h1 h2]
    · rw [if_neg e] at h1; rw [if_neg (fun q => e q.symm)] at h2
      exact absurd (str_tri e (of_decide_eq_false h1)) (of_decide_eq_false h2)
  | [], _ :: _, hs, _, _ => by simp [shp] at hs
  | .inl _ :: _, [], hs, _, _ => by simp [shp] at hs
  | .inr _ :: _, [], hs, _, _ => by simp [shp] at hs
  | .inl _ :: _, .inr _ :: _, hs, _, _ => by simp [shp] at hs
  | .inr _ :: _, .inl _ :: _, hs, _, _ => by simp [shp] at hs
end L2
namespace L2
open PySem PySem.Spec PyProof.Rows PySem.W
section
variable {prog : Program} {w : World} {A : Around} {E : Value -> Shared -> Prop} {s : Shared}
theorem lt_at {i : Nat} {x y : Int} {t u : Tok} {Q : Bool -> Shared -> Prop} (h : Q (decide (x < y)) s) : wpAny (model prog w) A (oneLt' (true && i == 0) (.int x t) (.int y u)) Q E s := by
  rw [Bool.true_and]
  cases i == 0 with
  | true => exact oneLt_int h
  | false => exact kat_one _ _ (lt_int (show PySem.W.BoolBack Q (.bool (decide (x < y))) s from h))
theorem lt_atS {i : Nat} {x y : Str} {t u : Tok} {Q : Bool -> Shared -> Prop} (h : Q (decide (x.cps.toList < y.cps.toList)) s) : wpAny (model prog w) A (oneLt' (true && i == 0) (.str x t) (.str y u)) Q E s := by
  rw [Bool.true_and]
  cases i == 0 with
  | true => exact oneLt_str h
  | false => exact kat_one _ _ (lt_str (show PySem.W.BoolBack Q (.bool (decide (x.cps.toList < y.cps.toList))) s from h))
theorem lex_ok {Q : Bool -> Shared -> Prop} : ∀ (k1 k2 : List Key) (us vs : List Value) (i : Nat), shp k1 = shp k2 -> Vals (k1.map kV) us -> Vals (k2.map kV) vs -> Q (ltK k1 k2) s -> KatLex prog w A true false Q (us.zip vs) i s
  | [], [], _, _, i, _, .nil, .nil, h => kat_nil h
  | .inl x :: r, .inl y :: t, _, _, i, hs, .cons r1 rr, .cons q1 qq, h => by
    obtain ⟨t1, rfl⟩ := r1
    obtain ⟨t2, rfl⟩ := q1
    have hs' : shp r = shp t := by unfold shp at hs ⊢; simpa using hs
    rw [ltK] at h
    refine kat_cons (wpAny_eqBool_int ?_)
    by_cases e : x = y
    · rw [if_pos e] at h
      rw [beq_iff_eq.mpr e]
      exact kat_yes (lex_ok r t _ _ (i + 1) hs' rr qq h)
    · rw [if_neg e] at h
      rw [beq_eq_false_iff_ne.mpr e]
      exact kat_no (lt_at h)
  | .inr x :: r, .inr y :: t, _, _, i, hs, .cons r1 rr, .cons q1 qq, h => by
    obtain ⟨t1, rfl⟩ := r1
    obtain ⟨t2, rfl⟩ := q1
    have hs' : shp r = shp t := by unfold shp at hs ⊢; simpa using hs
    rw [ltK] at h
    refine kat_cons (wpAny_eqBool_str ?_)
    by_cases e : x = y
    · rw [if_pos e] at h
      rw [decide_eq_true e]
      exact kat_yes (lex_ok r t _ _ (i + 1) hs' rr qq h)
    · rw [if_neg e] at h
      rw [decide_eq_false e]
      exact kat_no (lt_atS h)
  | .inl _ :: _, .inr _ :: _, _, _, _, hs, _, _, _ => by simp [shp] at hs
  | .inr _ :: _, .inl _ :: _, _, _, _, hs, _, _, _ => by simp [shp] at hs
  | [], _ :: _, _, _, _, hs, _, _, _ => by simp [shp] at hs
  | _ :: _, [], _, _, _, hs, _, _, _ => by simp [shp] at hs
def Sorts (prog : Program) (w : World) (A : Around) (s : Shared) (a : Addr) (vs : List Value) (r : Nat -> Nat) : Prop := 2 <= vs.length -> ∀ h' : Heap, (∀ b o, b ≠ a -> s.heap.get? b = some o -> h'.get? b = some o) ->
  ∀ Q : SortKind -> Shared -> Prop, (∀ κ, Zq97 (kas_ask prog w A κ vs) r vs.length { s with heap := h' } -> Q κ { s with heap := h' }) -> wpAny (model prog w) A (keyKind' vs.toArray) Q (fun _ _ => False) { s with heap := h' }
theorem sort_list {a : Addr} {vs : List Value} {n : Nat} {P : PySem.Fin -> Shared -> Prop} {r : Nat -> Nat} (ho : s.heap.get? a = some (seqObj "list" vs.toArray n)) (h64 : vs.length < 64) (hk : Sorts prog w A s a vs r)
    (q : ∀ p : Array Nat, Pm vs.length p -> UpTo r p vs.length -> P (.done (.ret .none)) { s with heap := sortedHeap s.heap a vs (List.toArray (p.toList.map fun i => vs.getD i Value.none)) }) : wpAny (model prog w) A (Builtin.«list.sort» ⟨[.ref a], []⟩) P E s := by
  have la : a < s.heap.objs.size := Heap.lt_size ho
  obtain ⟨e1, h1⟩ : ∃ e1, (s.heap.update a (Obj.mapSeq fun _ => (#[] : Array Value))).get? a = some (seqObj "list" #[] e1) := ⟨_, get?_update_seq ho fun _ => #[]⟩
  have old : ∀ b o, b ≠ a -> s.heap.get? b = some o -> (((s.heap.update a (Obj.mapSeq fun _ => (#[] : Array Value))).push (seqObj "tuple" vs.toArray 0)).push (seqObj "list" #[] 0)).get? b = some o := fun b o nb e =>
    Heap.get?_push_of_some _ (Heap.get?_push_of_some _ (by rw [Heap.get?_update_ne _ _ _ _ nb]; exact e))
  have h6 : (((s.heap.update a (Obj.mapSeq fun _ => (#[] : Array Value))).push (seqObj "tuple" vs.toArray 0)).push (seqObj "list" #[] 0)).get? a = some (seqObj "list" #[] e1) := Heap.get?_push_of_some _ (Heap.get?_push_of_some _ h1)
  rw [list_sort_plain]; refine wpAny_bind (listItems_at ho rfl (wpAny_bind (listUpdate_at ho rfl (wpAny_bind (seqEpoch_at h1 rfl (wpAny_bind (wpAny_newTuple (wpAny_bind (wpAny_newList (wpAny_holding ?_)))))))))) <;> try (rw [sizeLine_eq]; simp; omega)
  show wpAny (model prog w) A _ P E { s with heap := ((s.heap.update a (Obj.mapSeq fun _ => (#[] : Array Value))).push (seqObj "tuple" vs.toArray 0)).push (seqObj "list" #[] 0) }
  dsimp only
  by_cases h2 : vs.toArray.size < 2
  · have l2 : vs.length < 2 := by simpa using h2
    rw [if_pos h2, if_pos h2]; refine wpAny_bind (wpAny_pure ?_); rw [StateT.run_pure]; refine wpAny_bind (wpAny_pure ?_)
    dsimp only
    have em : (Array.map (fun x => x.2) (arrOf (SortSt.mk' general' (vs.toArray.zip vs.toArray) #[] 7 none))) = List.toArray ((List.toArray (List.range vs.length)).toList.map fun i => vs.getD i Value.none) := by
      show Array.map (fun x => x.2) (vs.toArray.zip vs.toArray) = _
      match vs, l2 with
      | [], _ => simp
      | [v], _ => simp [List.range_succ]
    rw [em]
    have pm : Pm vs.length (List.toArray (List.range vs.length)) := List.Perm.refl _
    have sz : (List.toArray ((List.toArray (List.range vs.length)).toList.map fun i => vs.getD i Value.none)).size <= sizeLine + 1 := by rw [sizeLine_eq]; simp; omega
    refine wpAny_bind (seqEpoch_at h6 rfl (wpAny_bind (listUpdate_at h6 rfl ?_ (Nat.zero_le _) sz)))
    simp only [bne_self_eq_false, Bool.false_eq_true, if_false]; exact wpAny_pure (q _ pm fun i hi => by omega)
  · have l2 : 2 <= vs.length := by simp at h2; omega
    rw [if_neg h2, if_neg h2]
    refine wpAny_bind (wpAny_mono (hk l2 _ old (fun κ s' => s' = { s with heap := ((s.heap.update a (Obj.mapSeq fun _ => (#[] : Array Value))).push (seqObj "tuple" vs.toArray 0)).push (seqObj "list" #[] 0) } /\ Zq97 (kas_ask prog w A κ vs) r vs.length s') fun κ hr => ⟨rfl, hr⟩) (fun κ s0 hq => ?_) fun _ _ x => x.elim)
    obtain ⟨rfl, hr⟩ := hq
    refine wpAny_bind (wpAny_mono (kat_run (ks := vs) (vs := vs) (κ := κ) (G := fun p s' => s' = { s with heap := ((s.heap.update a (Obj.mapSeq fun _ => (#[] : Array Value))).push (seqObj "tuple" vs.toArray 0)).push (seqObj "list" #[] 0) } /\ Pm vs.length p /\ UpTo r p vs.length)
      (Q := fun st' s' => s' = { s with heap := ((s.heap.update a (Obj.mapSeq fun _ => (#[] : Array Value))).push (seqObj "tuple" vs.toArray 0)).push (seqObj "list" #[] 0) } /\ ∃ p : Array Nat, (arrOf st').map (·.2) = List.toArray (p.toList.map fun i => vs.getD i Value.none) /\ failedOf st' = none /\ Pm vs.length p /\ UpTo r p vs.length)
      rfl l2 h64 (fun p st' s' a1 a2 a3 a4 => ⟨a4.1, p, kat_snds rfl a2, a3, a4.2⟩) (sort_ok hr (by omega) fun p a b => ⟨rfl, a, b⟩)) ?_ fun _ _ e => e)
    rintro ⟨⟨⟩, st'⟩ s' ⟨rfl, p, ho', hf, hp, hu⟩
    dsimp only
    rw [ho']
    have sz : (List.toArray (p.toList.map fun i => vs.getD i Value.none)).size <= sizeLine + 1 := by rw [sizeLine_eq]; simp [hp.size]; omega
    refine wpAny_bind (seqEpoch_at h6 rfl (wpAny_bind (listUpdate_at h6 rfl ?_ (Nat.zero_le _) sz)))
    rw [hf]; simp only [bne_self_eq_false, Bool.false_eq_true, if_false]; exact wpAny_pure (q p hp hu)
theorem sorted_list {l : Addr} {vs : List Value} {Q : Value -> Shared -> Prop} {r : Nat -> Nat} (hl : s.heap.IsList l vs.toArray) (h64 : vs.length < 64)
    (hk : ∀ h0 : Heap, (∀ b o, s.heap.get? b = some o -> h0.get? b = some o) -> Sorts prog w A.in1.in1 { s with heap := h0 } (s.heap.objs.size + 1) vs r)
    (q : ∀ p : Array Nat, Pm vs.length p -> UpTo r p vs.length -> Q (.ref (s.heap.objs.size + 1)) { s with heap := sortedAll s.heap vs (List.toArray (p.toList.map fun i => vs.getD i Value.none)) }) : wpAny (model prog w) A (call (.builtin "sorted") [.ref l]) Q E s := by
  refine Calls.call_function_entry kind_sorted plain_sorted entry_sorted (args_sorted1 _) ?_
  have hz : vs.length <= sizeLine := by rw [sizeLine_eq]; omega
  unfold Builtin.«sorted»; refine wpAny_bind (m := checkCount "sorted" 1 1 _) (wpAny_pure (wpAny_bind (collect_list hl (wpAny_bind (wpAny_newList ?_ hz)) hz)))
  have zz : ((s.heap.push (seqObj "list" #[] 0)).update s.heap.objs.size (Obj.mapSeq (· ++ vs.toArray))).objs.size = s.heap.objs.size + 1 := by rw [Heap.size_update]; exact size_push' _ _
  have hL : (((s.heap.push (seqObj "list" #[] 0)).update s.heap.objs.size (Obj.mapSeq (· ++ vs.toArray))).push (seqObj "list" vs.toArray 0)).get? (s.heap.objs.size + 1) = some (seqObj "list" vs.toArray 0) := by have := Heap.get?_push_size ((s.heap.push (seqObj "list" #[] 0)).update s.heap.objs.size (Obj.mapSeq (· ++ vs.toArray))) (o := seqObj "list" vs.toArray 0) rfl; rw [zz] at this; exact this
  have old : ∀ b o, s.heap.get? b = some o -> (((s.heap.push (seqObj "list" #[] 0)).update s.heap.objs.size (Obj.mapSeq (· ++ vs.toArray))).push (seqObj "list" vs.toArray 0)).get? b = some o := fun b o e =>
    Heap.get?_push_of_some _ (by rw [Heap.get?_update_ne _ _ _ _ (Nat.ne_of_lt (Heap.lt_size e))]; exact Heap.get?_push_of_some _ e)
  show wpAny _ _ _ _ _ { s with heap := ((s.heap.push (seqObj "list" #[] 0)).update s.heap.objs.size (Obj.mapSeq (· ++ vs.toArray))).push (seqObj "list" vs.toArray 0) }
  rw [zz]
  exact wpAny_bind (wpAny_holding (wpAny_call_entry slot_list_sort ⟨_, hL, rfl⟩ entry_list_sort (sort_list hL h64 (hk _ old) fun p hp hu => ⟨_, rfl, wpAny_pure ⟨_, rfl, q p hp hu⟩⟩) (args_list_sort _)))
end
section
variable {X : Cx}
def TupAt (H : Hp) (p : Addr × List Key) : Prop := H p.1 = some (.tup (p.2.map kV))
def rSortedT (K : PySem.W.Frag) : List V -> Hp -> VK -> Prop := fun xs H Q => ∃ (a : Addr) (ps : List (Addr × List Key)) (sh : List Bool), xs = [.ref a] /\ SqL K H a (ps.map fun p => V.ref p.1) /\ ps.length < 64 /\ (∀ p ∈ ps, TupAt H p /\ shp p.2 = sh) /\ sh ≠ [] /\
    ∀ (l : Addr) (ms : List (Addr × List Key)), H l = none -> ms.Perm ps -> ms.Pairwise (fun p q => ltK q.2 p.2 = false) -> Q (.ref l) (upd H l (.lst (ms.map fun p => V.ref p.1)))
theorem refs_of : ∀ {ps : List (Addr × List Key)} {its : List Value}, Vals (ps.map fun p => V.ref p.1) its -> its = ps.map fun p => Value.ref p.1
  | [], _, .nil => rfl
  | p :: ps, _, .cons r rr => by cases r; rw [List.map_cons, refs_of rr]
theorem vals_refs : ∀ ps : List (Addr × List Key), Vals (ps.map fun p => V.ref p.1) (ps.map fun p => Value.ref p.1)
  | [] => .nil
  | p :: ps => .cons rfl (vals_refs ps)
theorem tups_of {pins : List (Addr × Obj)} {σ : St} {H : Hp} {s : Shared} (I : Inv X pins σ H s) {sh : List Bool} (hne : sh ≠ []) {h' : Heap} (hk : ∀ (p : Addr × List Key) (o : Obj), TupAt H p -> s.heap.get? p.1 = some o -> h'.get? p.1 = some o) : ∀ ps : List (Addr × List Key), (∀ p ∈ ps, TupAt H p /\ shp p.2 = sh) ->
    ∃ fs, KatTups h' (ps.map fun p => Value.ref p.1) fs /\ fs.length = ps.length /\ ∀ v ∈ fs, Looks (model X.prog X.w) h' (typeOf v) (.type (if sh.head hne then "int" else "str"))
  | [], _ => ⟨[], .nil, rfl, fun v hv => by simp at hv⟩
  | p :: ps, h => by
    obtain ⟨fs, h1, h2, h3⟩ := tups_of I hne hk ps fun q hq => h q (List.mem_cons_of_mem _ hq)
    obtain ⟨ht, hs⟩ := h p List.mem_cons_self
    obtain ⟨a, ks⟩ := p
    obtain ⟨its, rv, ⟨o, e1, e2, n, e3⟩, _⟩ := I.tuple (SqT.of ht)
    cases ks with
    | nil => exact absurd hs.symm hne
    | cons k r =>
      cases k with
      | inl x =>
        subst hs
        cases rv with
        | cons r1 rr =>
          obtain ⟨t, rfl⟩ := r1
          refine ⟨.int x t :: fs, KatTups.cons (hk (a, .inl x :: r) o ht e1) e2 e3 (by simp) h1, by rw [List.length_cons, List.length_cons, h2], fun v hv => ?_⟩
          rcases List.mem_cons.mp hv with rfl | hv
          · exact Looks.of_pure rfl
          · exact h3 v hv
      | inr x =>
        subst hs
        cases rv with
        | cons r1 rr =>
          obtain ⟨t, rfl⟩ := r1
          refine ⟨.str x t :: fs, KatTups.cons (hk (a, .inr x :: r) o ht e1) e2 e3 (by simp) h1, by rw [List.length_cons, List.length_cons, h2], fun v hv => ?_⟩
          rcases List.mem_cons.mp hv with rfl | hv
          · exact Looks.of_pure rfl
          · exact h3 v hv
theorem all_shp {ps : List (Addr × List Key)} {sh : List Bool} {H : Hp} (ht : ∀ p ∈ ps, TupAt H p /\ shp p.2 = sh) : ∃ sh', ∀ i, shp (ps.getD i (ps.headD (0, []))).2 = sh' := by
  cases ps with
  | nil => exact ⟨[], fun i => by simp [shp]⟩
  | cons p ps =>
    refine ⟨sh, fun i => ?_⟩
    rw [List.getD_eq_getElem?_getD]
    cases e : (p :: ps)[i]? with
    | none => exact (ht p List.mem_cons_self).2
    | some x => exact (ht x (List.mem_of_getElem? e)).2
theorem call_sortedT : Zq73 X (.builtin "sorted") (rSortedT X.K) := by
  intro pins s σ H xs us Q I r h
  obtain ⟨a, ps, sh, rfl, ha, hl, ht, hne, q⟩ := h
  obtain ⟨u, rfl, ru⟩ := Zq86 r
  cases ru
  obtain ⟨its, rv, p, _⟩ := I.list ha
  have ei := refs_of rv
  subst ei
  obtain ⟨sh', hsh⟩ := all_shp ht
  have W : Weak fun i j => ltK (ps.getD i (ps.headD (0, []))).2 (ps.getD j (ps.headD (0, []))).2 := ⟨fun i => ltK_irr _, fun i j k => ltK_tr _ _ _, fun i j k => ltK_neg _ _ _ ((hsh i).trans (hsh k).symm)⟩
  have hlen : (ps.map fun p => Value.ref p.1).length = ps.length := List.length_map ..
  refine sorted_list (r := rk (fun i j => ltK (ps.getD i (ps.headD (0, []))).2 (ps.getD j (ps.headD (0, []))).2) ps.length) p.isList (by rw [hlen]; exact hl) (fun h0 hk0 l2 h' hk Q' hQ => ?_) fun pa hp hu => ?_
  · have hold : ∀ (p : Addr × List Key) (o : Obj), TupAt H p -> s.heap.get? p.1 = some o -> h'.get? p.1 = some o := fun p o _ e => hk _ _ (Nat.ne_of_lt (Nat.lt_succ_of_lt (Heap.lt_size e))) (hk0 _ _ e)
    obtain ⟨fs, f1, f2, f3⟩ := tups_of (h' := h') I hne hold ps ht
    have tt : (Value.type (if sh.head hne then "int" else "str") != Value.type "tuple") = true := by cases sh.head hne <;> rfl
    have t2 : (Value.type (if sh.head hne then "int" else "str") == Value.type (if sh.head hne then "int" else "str")) = true := by cases sh.head hne <;> rfl
    refine kat_kind (s := { s with heap := h' }) f1 (by omega) f3 t2 (hQ _ fun i j C hi hj hC => ?_)
    rw [tt]
    rw [hlen] at hi hj
    have get : ∀ {i}, i < ps.length -> ∃ p its o n, ps.getD i (ps.headD (0, [])) = p /\ (ps.map fun p => Value.ref p.1).getD i Value.none = .ref p.1 /\ Vals (p.2.map kV) its /\ h'.get? p.1 = some o /\ o.data = .seq its.toArray n := fun {i} hi => by
      have e : ps[i]? = some ps[i] := List.getElem?_eq_getElem hi
      have m := List.getElem_mem hi
      obtain ⟨its, rv, ⟨o, e1, e2, n, e3⟩, _⟩ := I.tuple (SqT.of (ht _ m).1)
      exact ⟨ps[i], its, o, n, by rw [List.getD_eq_getElem?_getD, e]; rfl, by rw [List.getD_eq_getElem?_getD, List.getElem?_map, e]; rfl, rv, hold _ o (ht _ m).1 e1, e3⟩
    obtain ⟨x, xs, ox, nx, ex, gx, vx, hx, dx⟩ := get hi
    obtain ⟨y, ys, oy, ny, ey, gy, vy, hy, dy⟩ := get hj
    rw [rk_iff W hi] at hC
    have s1 := hsh i
    have s2 := hsh j
    rw [ex] at hC s1
    rw [ey] at hC s2
    show wpAny (model X.prog X.w) X.A.in1.in1 (keyLt' (tuples' true) _ _) C (fun _ _ => False) { s with heap := h' }
    rw [gx, gy]
    have sz : xs.length = ys.length := by
      have a1 := vx.length; have a2 := vy.length
      have a3 : (shp x.2).length = (shp y.2).length := by rw [s1, s2]
      unfold shp at a3
      rw [List.length_map] at a1 a2 a3
      rw [List.length_map] at a3
      omega
    refine kat_lt hx dx hy dy ?_
    rw [decide_eq_false (by simp [sz])]
    exact lex_ok x.2 y.2 xs ys 0 (s1.trans s2.symm) vx vy hC
  · rw [hlen] at hp hu
    obtain ⟨b1, b2⟩ := sorted_by (lt := fun a b : Addr × List Key => ltK a.2 b.2) hp W hu
    obtain ⟨e, he⟩ := sortedAll_at s.heap (ps.map fun p => Value.ref p.1) (List.toArray (pa.toList.map fun i => (ps.map fun p => Value.ref p.1).getD i Value.none))
    have eo : (pa.toList.map fun i => (ps.map fun p => Value.ref p.1).getD i Value.none) = (pa.toList.map fun i => ps.getD i (ps.headD (0, []))).map fun p => Value.ref p.1 := by
      rw [List.map_map]
      refine List.map_congr_left fun i hi => ?_
      have li : i < ps.length := List.mem_range.mp (hp.mem_iff.mp hi)
      show _ = Value.ref (ps.getD i (ps.headD (0, []))).1
      rw [List.getD_eq_getElem?_getD, List.getD_eq_getElem?_getD, List.getElem?_map, List.getElem?_eq_getElem li]
      rfl
    rw [eo] at he ⊢
    generalize (pa.toList.map fun i => ps.getD i (ps.headD (0, []))) = ms at b1 b2 he ⊢
    have hz : ms.length = ps.length := b1.length_eq
    refine ⟨.ref (s.heap.objs.size + 1), _, I.laid (t' := s.toks) (o := .lst (ms.map fun p => V.ref p.1)) (fun b o => sortedAll_old) (Nat.le_succ _) ?_, rfl, q _ ms (I.hok.fresh (Nat.le_succ _)) b1 b2⟩
    exact ⟨by rw [List.length_map, hz]; exact Nat.le_trans (Nat.le_of_lt hl) (by decide), ms.map fun p => Value.ref p.1, e, vals_refs ms, by simpa using he⟩
theorem qcall_sortedT : QC X (.builtin "sorted") (rSortedT X.K) := ⟨call_sortedT⟩
def rNeRefs (K : PySem.W.Frag) : R2 := fun x y H Q => ∃ (a b : Addr) (as : List Addr), x = .ref a /\ y = .ref b /\ SqL K H a (as.map V.ref) /\ SqL K H b (as.map V.ref) /\ Q (.bl false) H
theorem refs_only : ∀ {as : List Addr} {its : List Value}, Vals (as.map V.ref) its -> its = as.map Value.ref
  | [], _, .nil => rfl
  | a :: as, _, .cons r rr => by cases r; rw [List.map_cons, refs_only rr]
theorem op_neRefs (hu : X.A.units < cLine) : OpR X (compareOp .NotEq) (rNeRefs X.K) := by
  intro pins s σ H x y v u Q I rx ry ⟨a, b, as, ex, ey, ha, hb, q⟩
  subst ex ey
  obtain rfl : v = Value.ref a := rx
  obtain rfl : u = Value.ref b := ry
  obtain ⟨i1, r1, p1, _⟩ := I.list ha
  obtain ⟨i2, r2, p2, _⟩ := I.list hb
  have e1 := refs_only r1
  have e2 := refs_only r2
  subst e1 e2
  have h := SeqAt.RcNeAt.lists (A := X.A) (e := fun _ => true) p1.isList p2.isList rfl hu (fun j h1 h2 => SeqAt.EqAt.same _)
  rw [show (!(List.range (as.map Value.ref).toArray.size).all fun _ => true) = false by simp] at h
  exact h X.prog X.w _ _ ⟨.bl false, H, I, rfl, q⟩
end
end L2
end
section
set_option Elab.async false
set_option linter.all false
set_option maxRecDepth 100000
set_option maxHeartbeats 4000000
namespace L2
open PySem PySem.Spec PyProof.Rows
section
variable {prog : Program} {w : World} {K : Type} [DecidableEq K] {knd : HeapKind prog w K} {A : Around} {E : Value -> Shared -> Prop} {s : Shared}
end
section
variable {X : Cx} {pins : List (Addr × Obj)} {σ : St} {H : Hp} {s : Shared} {a b : Addr} {z : V} {r : Value} {kvs : List (List Key × V)} {k : List Key} {A : Around} {E : Value -> Shared -> Prop}
end
section
variable {X : Cx} {o e f : Expr} {apos cpos : Pos} {td ty tx : TE} {n : Nat}
theorem qe_dget2 (hr : Room n X.A) (ho : QE X o td) (he : QE X e ty) (hf : QE X f tx) (m : M2 X o "get" apos e f cpos := by exact ⟨rfl, rfl, rfl, rfl⟩) : QE X (.Call (.Attribute o "get" apos) [e, f] [] cpos) (tDGet2 td ty tx) := ⟨pe_dget2 (by have := hr.units; omega) ho.h he.h hf.h m⟩
end
end L2
end
section
set_option Elab.async false
set_option linter.all false
namespace L2
open PySem PySem.Spec PyProof.Rows
theorem qs_never {X : Cx} {st : Stmt} : QS X st (fun _ _ _ => False) := ⟨fun _ _ _ _ _ _ h => h.elim⟩
end L2
end
section
set_option Elab.async false
set_option linter.all false
set_option maxRecDepth 100000
set_option maxHeartbeats 4000000
namespace L2
open PySem PySem.Spec PyProof.Rows
end L2
end
section
set_option Elab.async false
set_option linter.all false
set_option maxRecDepth 100000
set_option maxHeartbeats 4000000
namespace L2
open PySem PySem.Spec PyProof.Rows
structure HasM (K : PySem.W.Frag) (C : Addr) (m qual : Str) (st : Stmt) : Prop where
  ex : ∃ (f : Addr) (fd : FuncData), Fun K m qual st f fd /\ Meth K C m f
structure Mt (P : Program) (w : World) (K : PySem.W.Frag) (mg : Str -> Option Value) (base : Heap) (C : Addr) (m : Str) (ps : List Str) (k : Nat) (sp : Sp) : Prop where
  ex : ∃ (f : Addr) (fd : FuncData), Meth K C m f /\ FnOk P w K mg base CX0 k f fd ps sp /\ Binds K fd ps []
section
variable {P : Program} {w : World} {K : PySem.W.Frag} {mg : Str -> Option Value} {base : Heap} {C : Addr} {m qual : Str} {st : Stmt} {N ps : List Str} {k : Nat} {sp : Sp}
structure Mks (P : Program) (w : World) (K : PySem.W.Frag) (mg : Str -> Option Value) (base : Heap) (C : Addr) (x : Str) (k : Nat) (sp : Sp) : Prop where
  ex : ∃ (f : Addr) (fd : FuncData), Mk K C f /\ FnOk P w K mg base CX0 k f fd ["self"] sp /\ Binds K fd ["self"] [] /\ mg x = some (.ref C)
end
section
variable {X : Cx} {C : Addr} {m x f : Str} {ps : List Str} {k : Nat} {sp : Sp} {o e value i : Expr} {es : List Expr} {ta td ty tv : TE} {t : TA} {apos pos pos' p : Pos}
end
end L2
end
section
set_option Elab.async false
set_option linter.all false
set_option maxRecDepth 100000
set_option maxHeartbeats 4000000
namespace L2
open PySem PySem.Spec PyProof.Rows
section
variable {X : Cx} {pins : List (Addr × Obj)} {σ : St} {H : Hp} {s : Shared}
end
section
variable {X : Cx} {e : Expr} {te : TE}
end
section
variable {X : Cx} {tg l : Expr} {te : TE}
end
section
variable {X : Cx}
end
end L2
end
section
set_option Elab.async false
set_option linter.all false
set_option maxRecDepth 100000
set_option maxHeartbeats 4000000
namespace L2
open PySem PySem.Spec PyProof.Rows
section
variable {X : Cx} {o : Expr} {te : TE}
end
end L2
end
section
set_option Elab.async false
set_option linter.all false
set_option maxRecDepth 100000
set_option maxHeartbeats 4000000
namespace L2
open PySem PySem.Spec PyProof.Rows
theorem comp_made {J : It} {nl : Nat} {fv : St} {g : TG} {tt : TTs} {te : TE} {Q : VK} {H : Hp} (n : Nat) (f : Nat -> Option (List V)) (Pv : Nat -> List V -> Hp -> Prop) (h0 : Pv 0 [] H) (hn : n <= 1000000)
    (hgo : ∀ i H ys, i < n -> Pv i ys H -> J.go i H) (hy : ∀ i H x H' ys, i < n -> Pv i ys H -> J.yld i H x H' -> ∃ p us, f i = some us /\ x = .ref p /\ H p = none /\ H' = upd H p (.tup us)) (hst : ∀ H ys, Pv n ys H -> J.stop n H)
    (hlen : ∀ i ys H, Pv i ys H -> ys.length <= i)
    (step : ∀ i us p ys H, i < n -> f i = some us -> Pv i ys H -> H p = none -> Zq80 nl fv g tt te (.ref p) (upd H p (.tup us)) (fun y H' => Pv (i + 1) (ys ++ [y]) H') fun H' => Pv (i + 1) ys H')
    (hd : ∀ ys H, Pv n ys H -> ∀ l, H l = none -> Q (.ref l) (upd H l (.lst ys))) :
    Zq99 J nl fv g tt te Q H := by
  have mono : ∀ {x : V} {H : Hp} {Y Y' : V -> Hp -> Prop} {N N' : Hp -> Prop}, Zq80 nl fv g tt te x H Y N -> Y = Y' -> N = N' -> Zq80 nl fv g tt te x H Y' N' := fun h e1 e2 => by subst e1; subst e2; exact h
  refine ⟨fun i m ys H => m = n - i /\ i <= n /\ Pv i ys H, ⟨n, by simp, Nat.zero_le _, h0⟩, ?_⟩
  rintro i m ys H ⟨rfl, hi, p⟩
  have hl := hlen i ys H p
  have hz : (1000000 : Nat) < sizeLine := by decide
  by_cases hlt : i < n
  · refine .inr ⟨hgo i H ys hlt p, by omega, n - (i + 1), by omega, fun x H' y => ?_⟩
    obtain ⟨q, us, hf, rfl, hq, rfl⟩ := hy i H x H' ys hlt p y
    refine mono (step i us q ys H hlt hf p hq) ?_ ?_
    · funext y H4
      apply propext
      exact ⟨fun q => ⟨rfl, hlt, q⟩, fun q => q.2.2⟩
    · funext H3
      apply propext
      exact ⟨fun q => ⟨rfl, hlt, q⟩, fun q => q.2.2⟩
  · have e : i = n := by omega
    subst e
    exact .inl ⟨hst H ys p, by omega, hd ys H p⟩
end L2
end
section
set_option Elab.async false
set_option linter.all false
set_option maxRecDepth 100000
set_option maxHeartbeats 4000000
namespace L2
open PySem PySem.Spec PyProof.Rows
def XAt (h0 : Heap) (H : Hp) (h : Heap) (a C : Addr) : Prop := H a = none /\ h0.get? a = none /\ ∃ oe vs a0, h.get? a = some oe /\ oe.cls = .ref C /\ oe.data = .fields vs /\ vs[0]? = some a0 /\
  (vs[1]? = some .none \/ ∃ T oT ts, vs[1]? = some (.ref T) /\ T ≠ a /\ h.get? T = some oT /\ oT.data = .fields ts /\ ts[3]? = some .none /\ H T = none /\ h0.get? T = none)
def CXE (P : Program) (w : World) : CXT := fun outer H s E e s' => ∃ a C H', e = .ref a /\ s'.os = s.os /\ AllBare s'.gens /\ Un (frs outer) [] H H' s.heap s'.heap /\ HOk P w H' s'.heap /\ XAt s.heap H' s'.heap a C /\ E (.ref C) none H'
structure Xp (X : Cx) (E : St -> XK) : Prop where
  h : ∀ pins σ H s a C, Inv X pins σ H s -> XAt X.s₀.heap H s.heap a C -> E σ (.ref C) none H -> X.xe (.ref a) s
section
variable {X : Cx} {σ : List (Option V)} {H H' : Hp} {s : Shared} {h' : Heap}
end
section
variable {X : Cx} {σ : List (Option V)} {H : Hp} {s : Shared} {a C : Addr} {M : Model} {E : Value -> Shared -> Prop} {Q : Unit -> Shared -> Prop}
end
end L2
namespace L2
open PySem PySem.Spec PyProof.Rows
section
variable {X : Cx} {E : St -> XK}
structure Xq (X : Cx) (E : St -> XK) : Prop where
  h : (∀ σ c d H, ¬ E σ c d H) \/ (X.ex = [] /\ Xp X E)
end
structure Run (P : Program) (w : World) (K : PySem.W.Frag) (mg : Str -> Option Value) (base : Heap) (k : Nat) (f : Addr) (sp : Sp) : Prop where
  run : ∀ (A : Around) (outer : List Env) (s : Shared) (H : Hp) (us : List Value) (vs : List V) (Q : VK) (E : XK), Room k A -> Env0 P w K mg base A outer s H -> Vals vs us -> sp vs H Q E -> codeAny (model P w) A (.call (.ref f) ⟨us, []⟩) (CR (CXE P w) outer P w H s Q E) s
structure MtX (P : Program) (w : World) (K : PySem.W.Frag) (mg : Str -> Option Value) (base : Heap) (C : Addr) (m : Str) (k : Nat) (sp : Sp) : Prop where
  ex : ∃ (f : Addr), Meth K C m f /\ Run P w K mg base k f sp
section
variable {P : Program} {w : World} {K : PySem.W.Frag} {mg : Str -> Option Value} {base : Heap} {C : Addr} {x : Str} {ps : List Str} {k k' : Nat} {sp sp' : Sp}
end
section
variable {X : Cx} {E : St -> XK} {k : Nat} {f C : Addr} {sp : Sp} {x m : Str} {p pos apos : Pos} {e o : Expr} {es : List Expr} {ta : TE} {t : TA}
end
section
variable {P : Program} {w : World} {K : PySem.W.Frag} {mg : Str -> Option Value} {base : Heap}
end
end L2
namespace L2
open PySem PySem.Spec PyProof.Rows
def nsX (K : PySem.W.Frag) (N : Addr) : Bool := match K.lookup N with
  | some ⟨_, _, .dict es _, _⟩ => (es.toList.all fun e => match e.key with | .str _ _ => true | _ => false) && (nsFind es "__init__").isNone
  | _ => false
def vE : List Value := [.type "ValueError", .type "Exception", .type "BaseException", .type "object"]
def newX : List (Option Value) -> Bool
  | [_, _, _, _, some v, _] => v == .builtin "ValueError.__new__"
  | _ => false
def clsX (K : PySem.W.Frag) : List Value -> Bool
  | .ref M :: r => r == vE && (match K.lookup M with | some ⟨_, _, .cls cd, _⟩ => nsX K cd.ns | _ => false)
  | _ => false
def xcIn (K : PySem.W.Frag) (C : Addr) : Bool := match K.lookup C with
  | some ⟨c, _, .cls cd, sl⟩ => (c == .type "type") && (cd.hasDel == false) && nsX K cd.ns && newX sl.toList && (match cd.mro with | v :: r => (v == .ref C) && clsX K r | _ => false)
  | _ => false
section
variable {X : Cx} {E : St -> XK} {C : Addr} {x : Str} {np cpos pos : Pos} {e : Expr} {te : TE}
end
end L2
end
section
set_option Elab.async false
set_option linter.all false
set_option maxRecDepth 100000
set_option maxHeartbeats 4000000
namespace L2
open PySem PySem.Spec PyProof.Rows
abbrev TJ := St -> Hp -> (Hp -> Prop) -> Prop
def PJ (X : Cx) (es : List Expr) (t : TJ) : Prop := ∀ (pins : List (Addr × Obj)) (s : Shared) (σ : St) (H : Hp) (Q : Hp -> Prop) (acc : Str), Inv X pins σ H s -> acc.length + es.length * 1000000 <= sizeLine -> t σ H Q ->
  Joins (model X.prog X.w) X.A X.xe (evalEach es X.env) acc (fun out s₁ => out.length <= sizeLine /\ ∃ H', Inv X pins σ H' s₁ /\ Q H') s
structure QJ (X : Cx) (es : List Expr) (t : TJ) : Prop where
  h : PJ X es t
section
variable {X : Cx} {es : List Expr} {e : Expr} {te : TE} {t : TJ} {pos : Pos}
end
end L2
end
section
set_option Elab.async false
set_option linter.all false
set_option maxRecDepth 100000
set_option maxHeartbeats 4000000
namespace L2
open PySem PySem.Spec PyProof.Rows PySem.W PySem.Calls PySem.Builtin PySem.Builtin.ObjectAttr PySem.Builtin.Getset_descriptor
def kcIn (K : Frag) (C : Addr) : Bool := (clsIn K C).isSome && (findIn K (.ref C) "__getattribute__" == some (some (.builtin "BaseException.__getattribute__"))) && (findIn K (.ref C) "__getattr__" == some none) && (findIn K (.ref C) "__class__" == some (some (.builtin "object.__class__"))) &&
  (mroIn K C (.type "object") == some true) && (mroIn K C (.type "BaseException") == some true)
section
variable {prog : Program} {w : World} {A : Around} {E : Value -> Shared -> Prop} {h : Heap} {g : Array GenState} {d : Drawn} {t : Nat} {os : OsState} {a C : Addr} {o : Obj} {K : Frag}
structure ExA (h : Heap) (a : Addr) (o : Obj) (C : Addr) : Prop where
  at_ : h.get? a = some o
  cls : o.cls = .ref C
end
section
variable {K : Frag} {a C : Addr} {o : Obj}
end
end L2
end
section
set_option Elab.async false
set_option linter.all false
set_option maxRecDepth 100000
set_option maxHeartbeats 4000000
namespace L2
open PySem PySem.Spec PyProof.Rows
section
variable {X : Cx} {σ : St} {H : Hp} {s : Shared} {a C : Addr} {o : Obj}
end
def exIn (K : PySem.W.Frag) (C D : Addr) : Option Bool := if ((PySem.W.clsIn K D).isSome && (PySem.W.typeIn K (.ref D) == some (.type "type")) && (PySem.W.subIn K (.ref D) (.type "BaseException") == some true)) = true then PySem.W.subIn K (.ref C) (.ref D) else none
def PH (X : Cx) (hs : List ExceptHandler) (t : Addr -> TS) : Prop := ∀ (a C : Addr) (s : Shared) (σ : St) (H : Hp) (D : Ends), Inv X [] σ H s -> XAt X.s₀.heap H s.heap a C -> t C D σ H -> wpAny (model X.prog X.w) X.A (handleBy (.ref a) X.env hs) (SP X [] D) X.xe s
structure QH (X : Cx) (hs : List ExceptHandler) (t : Addr -> TS) : Prop where
  h : PH X hs t
structure Pl (X : Cx) : Prop where
  pn : X.pn = []
  ex : X.ex = []
  stk : X.stack = X.env :: X.outer
  fr : X.env.frame = some X.env.locals
section
variable {X : Cx} {x n : Str} {np pos : Pos} {b₀ : Stmt} {suite : List Stmt} {rest : List ExceptHandler} {Dc : Addr} {tr : Addr -> TS}
end
end L2
namespace L2
open PySem PySem.Spec PyProof.Rows
def PS0 (X : Cx) (st : Stmt) (t : TS) : Prop := ∀ (s : Shared) (σ : St) (H : Hp) (D : Ends), Inv X [] σ H s -> t D σ H -> wpAny (model X.prog X.w) X.A (exec st X.env) (SP X [] D) X.xe s
def PSs0 (X : Cx) (st : List Stmt) (t : TS) : Prop := ∀ (s : Shared) (σ : St) (H : Hp) (D : Ends), Inv X [] σ H s -> t D σ H -> wpAny (model X.prog X.w) X.A (execs st X.env) (SP X [] D) X.xe s
structure QS0 (X : Cx) (st : Stmt) (t : TS) : Prop where
  h : PS0 X st t
structure QSs0 (X : Cx) (st : List Stmt) (t : TS) : Prop where
  h : PSs0 X st t
section
variable {X : Cx} {st : Stmt} {rest body : List Stmt} {t u : TS} {h₀ : ExceptHandler} {hs : List ExceptHandler} {tb : (St -> XK) -> TS} {th : Addr -> TS} {pos : Pos}
end
section
variable {P : Program} {w : World} {K : PySem.W.Frag} {mg : Str -> Option Value} {base : Heap}
end
structure Er (K : PySem.W.Frag) (mg : Str -> Option Value) (c : Str -> Addr) (errs : List Str) : Prop where
  g : ∀ x, x ∈ errs -> mg x = some (.ref (c x))
  x : ∀ x, x ∈ errs -> xcIn K (c x) = true
  k : ∀ x, x ∈ errs -> kcIn K (c x) = true
  m : mg "MootError" = some (.ref (c "MootError"))
  e : ∀ x, x ∈ errs -> exIn K (c x) (c "MootError") = some true
  s : ∀ x, x ∈ errs -> ∀ y, y ∈ errs -> exIn K (c x) (c y) = some (decide (x = y))
  i : ∀ x, x ∈ errs -> ∀ y, y ∈ errs -> PySem.W.kitOne K (.ref (c x)) (.ref (c y)) = some (decide (x = y))
  v : ∀ x, x ∈ errs -> PySem.W.kitOne K (.ref (c x)) (.type "ValueError") = some true
end L2
end
section
set_option Elab.async false
set_option linter.all false
set_option maxRecDepth 100000
set_option maxHeartbeats 4000000
namespace L2
open PySem PySem.Spec PyProof.Rows
section
variable {X : Cx}
def rStr : List V -> Hp -> VK -> Prop := fun xs H Q => (∃ x, xs = [.str x] /\ Q (.str x) H) \/ ∃ i : Int, xs = [.int i] /\ i.natAbs.log2 < 1920 /\ Q (.str (Str.ofString (toString i))) H
theorem call_str : Zq73 X (.type "str") rStr := by
  intro pins s σ H xs us Q I r h
  rcases h with ⟨x, rfl, q⟩ | ⟨i, rfl, hi, q⟩
  · obtain ⟨u, rfl, t, rfl⟩ := Zq86 r
    exact P.str_of_str ⟨.str x, H, I, ⟨t, rfl⟩, q⟩
  · obtain ⟨u, rfl, t, rfl⟩ := Zq86 r
    exact P.str_of_int hi ⟨.str _, H, I.tok _, ⟨_, rfl⟩, q⟩
theorem qcall_str : QC X (.type "str") rStr := ⟨call_str⟩
def rIntT : List V -> Hp -> VK -> Prop := fun xs H Q => ∃ x n, xs = [.str x] /\ PySem.intText? x = some n /\ x.length <= 640 /\ Q (.int n) H
theorem call_intT : Zq73 X (.type "int") rIntT := by
  intro pins s σ H xs us Q I r ⟨x, n, e, hn, hl, q⟩
  subst e
  obtain ⟨u, rfl, t, rfl⟩ := Zq86 r
  exact PySem.W.KIN.call_text hn hl ⟨.int n, H, I.tok _, ⟨_, rfl⟩, q⟩
theorem qcall_intT : QC X (.type "int") rIntT := ⟨call_intT⟩
def rSplit : V -> List V -> Hp -> VK -> Prop := fun x xs H Q => ∃ a b : Str, x = .str a /\ xs = [.str b] /\ b.length ≠ 0 /\ a.length + 2 <= sizeLine /\ ∀ l, H l = none -> Q (.ref l) (upd H l (.lst ((Txt.split a b).map V.str)))
theorem strs_vals : ∀ l : List (Str × Tok), Vals ((l.map (·.1)).map V.str) (strValues l)
  | [] => .nil
  | (x, t) :: l => .cons ⟨t, rfl⟩ (strs_vals l)
theorem mt_split : MtR X "str.split" rSplit := by
  intro pins s σ H x xs v us Q I rx rs ⟨a, b, ex, exs, hb, hz, q⟩
  subst ex exs
  obtain ⟨t, rfl⟩ := rx
  obtain ⟨u, rfl, tu, rfl⟩ := Zq86 rs
  have hn : (PySem.Builtin.Str.partsBetween a (PySem.Builtin.Str.occurrences a b 0 a.length (a.length + 1)) b.length).length <= sizeLine := by
    have e1 := StrLaws.occ_length_le a b 0 a.length (a.length + 1)
    rw [PySem.length_partsBetween]; omega
  have hy : (b.length == 0) = false := by simpa using hb
  have put : ∀ (l : List (Str × Tok)) (k : Nat), l.map (·.1) = Txt.split a b -> l.length <= sizeLine -> EP X pins σ Q (.ref s.heap.objs.size) { s with toks := k, heap := s.heap.push { cls := .type "list", data := .seq (strValues l).toArray } } := fun l k e hl =>
    ⟨.ref s.heap.objs.size, _, I.laid (t' := k) (fun b o e => Heap.get?_push_of_some _ e) (Nat.le_refl _) (show ObjOk X.prog X.w _ _ _ (.lst ((Txt.split a b).map V.str)) from ⟨by rw [List.length_map, ← e, List.length_map]; exact hl, strValues l, 0, by rw [← e]; exact strs_vals l, Heap.get?_push_size _ rfl⟩), rfl, q _ (I.hok.fresh (Nat.le_refl _))⟩
  cases h1 : (decide (a.length < b.length) || decide (PySem.Builtin.Str.strKind a < PySem.Builtin.Str.strKind b))
  · cases hf : (PySem.Builtin.Str.occurrences a b 0 a.length (a.length + 1)).isEmpty
    · refine call_meets F.slot_str_split (typeIs_str _ _ _) F.entry_str_split (F.args_str_split_2 _ _) (meets_str_split_sep a b t tu h1 hy hf (by omega) hn) ?_
      show wants _ _ _ { s with toks := _, heap := s.heap.push { cls := .type "list", data := .seq (strsFrom s.toks (PySem.Builtin.Str.partsBetween a (PySem.Builtin.Str.occurrences a b 0 a.length (a.length + 1)) b.length)).toArray } }
      rw [strsFrom_eq]
      have e : (numbered s.toks (PySem.Builtin.Str.partsBetween a (PySem.Builtin.Str.occurrences a b 0 a.length (a.length + 1)) b.length)).map (·.1) = Txt.split a b := (numbered_texts s.toks (PySem.Builtin.Str.partsBetween a (PySem.Builtin.Str.occurrences a b 0 a.length (a.length + 1)) b.length)).trans ((if_neg (ne_true_of_eq_false h1)).trans (if_neg (ne_true_of_eq_false hf))).symm
      refine put (numbered s.toks _) _ e ?_
      have := congrArg List.length (numbered_texts s.toks (PySem.Builtin.Str.partsBetween a (PySem.Builtin.Str.occurrences a b 0 a.length (a.length + 1)) b.length))
      rw [List.length_map] at this
      rw [this]; exact hn
    · exact call_meets F.slot_str_split (typeIs_str _ _ _) F.entry_str_split (F.args_str_split_2 _ _) (meets_str_split_not_found a b t tu h1 hy hf) (put [(a, t)] s.toks ((if_neg (ne_true_of_eq_false h1)).trans (if_pos hf)).symm (by show 1 <= sizeLine; omega))
  · exact call_meets F.slot_str_split (typeIs_str _ _ _) F.entry_str_split (F.args_str_split_2 _ _) (meets_str_split_cannot_occur a b t tu h1) (put [(a, t)] s.toks (if_pos h1).symm (by show 1 <= sizeLine; omega))
theorem qmt_split : QM X "str.split" rSplit := ⟨mt_split⟩
def rIdxS (K : PySem.W.Frag) : V -> List V -> Hp -> VK -> Prop := fun v vs H Q => ∃ (l : Addr) (xs : List Str) (x : Str) (j : Nat), v = .ref l /\ vs = [.str x] /\ SqL K H l (xs.map V.str) /\ xs[j]? = some x /\ (∀ m, m < j -> xs[m]? ≠ some x) /\ Q (.int j) H
def eqS (x : Str) : Value -> Bool
  | .str y _ => y == x
  | _ => false
theorem strs_at : ∀ {xs : List Str} {us : List Value}, Vals (xs.map V.str) us -> us.length = xs.length /\ ∀ (j : Nat) (y : Str), xs[j]? = some y -> ∃ t, us[j]? = some (Value.str y t)
  | [], _, .nil => ⟨rfl, fun j y h => by simp at h⟩
  | x :: xs, _, .cons r rr => by
    obtain ⟨h1, h2⟩ := strs_at rr
    obtain ⟨t, rfl⟩ := r
    refine ⟨by rw [List.length_cons, List.length_cons, h1], fun j y h => ?_⟩
    cases j with
    | zero => simp at h; subst h; exact ⟨t, rfl⟩
    | succ j => simp at h; simpa using h2 j y h
theorem mt_indexS : MtR X "list.index" (rIdxS X.K) := by
  intro pins s σ H v vs u us Q I rx rv ⟨l, xs, x, j, e1, e2, hL, hj, hno, q⟩
  subst e1 e2
  obtain rfl : u = Value.ref l := rx
  obtain ⟨u, rfl, t, rfl⟩ := Zq86 rv
  obtain ⟨its, r, pl, hz⟩ := I.list hL
  obtain ⟨hl, hat⟩ := strs_at r
  obtain ⟨o, m, e1, e2, e3, e4⟩ := pl
  obtain ⟨oc, od, odt, osl⟩ := o
  have e2' : oc = .type "list" := e2
  have e4' : odt = .seq its.toArray m := by first | exact e4 | exact e3
  subst e2' e4'
  have hjl : j < xs.length := (List.getElem?_eq_some_iff.mp hj).1
  have at_ : ∀ (i : Nat) (hi : i < its.toArray.size), ∃ y t', xs[i]? = some y /\ its.toArray[i] = .str y t' := fun i hi => by
    have hi' : i < xs.length := by simpa [hl] using hi
    obtain ⟨t', h⟩ := hat i xs[i] (List.getElem?_eq_getElem hi')
    refine ⟨xs[i], t', List.getElem?_eq_getElem hi', ?_⟩
    rw [List.getElem_toArray]
    exact (List.getElem?_eq_some_iff.mp h).2
  have hjs : j < its.toArray.size := by simpa [hl] using hjl
  refine call_meets F.slot_list_index ⟨_, e1, rfl⟩ F.entry_list_index (F.args_list_index_2 _ _) (SeqAt.list_indexAt l its.toArray m od osl (.str x t) (eqS x) j hjs ?_ ?_ ?_) ⟨e1, fun y hy => ?_, ⟨.int j, H, I.tok _, ⟨_, rfl⟩, q⟩⟩
  · have : xs.length <= sizeLine := by rw [List.length_map] at hz; exact hz
    have h2 : sizeLine < 2 ^ 62 := by decide
    omega
  · obtain ⟨y, t', h1, h2⟩ := at_ j hjs
    rw [hj] at h1
    cases h1
    rw [h2]
    exact beq_self_eq_true x
  · intro i hi hlt
    obtain ⟨y, t', h1, h2⟩ := at_ i hi
    rw [h2]
    have : y ≠ x := fun z => hno i hlt (by rw [h1, z])
    exact beq_eq_false_iff_ne.mpr this
  · obtain ⟨i, hi, rfl⟩ := Array.getElem_of_mem hy
    obtain ⟨y, t', h1, h2⟩ := at_ i hi
    rw [h2]
    exact SeqAt.EqAt.str_str y t' x t
theorem qmt_indexS : QM X "list.index" (rIdxS X.K) := ⟨mt_indexS⟩
end
end L2
end
section
set_option Elab.async false
set_option linter.all false
set_option maxRecDepth 100000
set_option maxHeartbeats 4000000
namespace L2
open PySem PySem.Spec PyProof.Rows
def DkIn (K : PySem.W.Frag) (P : Params) (d : Addr) (kvs : List (Str × Tok × Addr)) : Prop := (∃ n, K.lookup d = some ⟨.type "dict", none, .dict (kvs.map fun x => de P x.1 x.2.1 (.ref x.2.2)).toArray n, #[]⟩) /\ (kvs.map (·.1)).Nodup /\ (d == sysModules) = false
def kdK (kvs : List (Str × Tok × Addr)) : List (Key × Value) := kvs.map fun x => (Sum.inr x.1, Value.ref x.2.2)
theorem dk_map {K : PySem.W.Frag} {Pg : Program} {w : World} {h : Heap} {d : Addr} {kvs : List (Str × Tok × Addr)} (X : K.In h) (D : DkIn K w.params d kvs) : h.DictOf (Zq31 Pg w) d (kdK kvs) := by
  obtain ⟨⟨n, e⟩, nd, _⟩ := D
  refine ⟨_, _, n, X _ _ e, ⟨rfl, rfl, rfl⟩, rfl, fun x hx => ?_, ?_, ?_⟩
  · obtain ⟨y, _, rfl⟩ := List.mem_map.mp (Array.mem_toList_iff.mpr hx)
    exact ⟨Sum.inr y.1, keyIs_str y.1 y.2.1, rfl⟩
  · have : ∀ l : List (Str × Tok × Addr), PySem.Pairs (Zq31 Pg w) (l.map fun x => de w.params x.1 x.2.1 (.ref x.2.2)) (kdK l) := by
      intro l
      induction l with
      | nil => exact .nil
      | cons y l ih => exact .cons (keyIs_str y.1 y.2.1) rfl ih
    exact this kvs
  · unfold kdK
    rw [List.map_map]
    have e2 : ((fun x : Key × Value => x.1) ∘ fun x : Str × Tok × Addr => ((Sum.inr x.1 : Key), Value.ref x.2.2)) = fun x => Sum.inr x.1 := rfl
    rw [e2]
    rw [List.nodup_iff_pairwise_ne] at nd ⊢
    rw [List.pairwise_map] at nd ⊢
    exact nd.imp fun h z => h (Sum.inr.inj z)
def kdAt (kvs : List (Str × Tok × Addr)) (n : Str) : Option Addr := (kvs.find? fun x => decide (x.1 = n)).map (·.2.2)
theorem kd_val (n : Str) : ∀ kvs : List (Str × Tok × Addr), valueAt (kdK kvs) (Sum.inr n) = (kdAt kvs n).map Value.ref
  | [] => rfl
  | x :: l => by
    have ih := kd_val n l
    unfold valueAt kdK kdAt at *
    rw [List.map_cons, List.find?_cons, List.find?_cons]
    dsimp only
    rw [key_rr]
    cases decide (x.1 = n) with
    | true => rfl
    | false => exact ih
section
variable {X : Cx}
def rInKD (K : PySem.W.Frag) (P : Params) : R2 := fun x y H Q => ∃ (n : Str) (d : Addr) (kvs : List (Str × Tok × Addr)), x = .str n /\ y = .ref d /\ DkIn K P d kvs /\ Q (.bl (kdAt kvs n).isSome) H
theorem op_inKD : OpR X (compareOp .In) (rInKD X.K X.w.params) := by
  intro pins s σ H x y v u Q I rx ry ⟨n, d, kvs, ex, ey, D, q⟩
  subst ex ey
  obtain rfl : u = Value.ref d := ry
  refine wpAny_in_of (kV_is (P := X.prog) (w := X.w) (k := Sum.inr n) rx) D.2.2 (dk_map I.kIn D).mapOf ?_
  rw [kd_val, Option.isSome_map]
  exact ⟨.bl _, H, I.tok _, rfl, q⟩
theorem qop_inKD : QOp X (compareOp .In) (rInKD X.K X.w.params) := ⟨op_inKD⟩
def rIxKD (K : PySem.W.Frag) (P : Params) : R2 := fun x y H Q => ∃ (n : Str) (d t : Addr) (kvs : List (Str × Tok × Addr)), x = .ref d /\ y = .str n /\ DkIn K P d kvs /\ kdAt kvs n = some t /\ Q (.ref t) H
theorem ix_KD : IxR X (rIxKD X.K X.w.params) := by
  intro value slice pins s σ H x y v u Q I rx ry ⟨n, d, t, kvs, ex, ey, D, ht, q⟩ hs
  subst ex ey
  obtain rfl : v = Value.ref d := rx
  have hw : valueAt (kdK kvs) (Sum.inr n) = some (Value.ref t) := by rw [kd_val, ht]; rfl
  obtain ⟨⟨m, e⟩, _, _⟩ := id D
  have he := I.kIn _ _ e
  exact subscriptTail_builtinR (x := .ref t) ⟨_, he, rfl⟩ slot_dict_getitem.lookup (wpAny_getItem_of (kV_is (P := X.prog) (w := X.w) (k := Sum.inr n) ry) (dk_map I.kIn D).mapOf hw ⟨rfl, .ref t, H, I.tok _, rfl, q⟩) hs
theorem qix_KD : QIx X (rIxKD X.K X.w.params) := ⟨ix_KD⟩
end
end L2
end
section
set_option Elab.async false
set_option linter.all false
set_option maxRecDepth 100000
set_option maxHeartbeats 4000000
namespace L2
open PySem PySem.Spec PyProof.Rows
def jn : List (List Nat) -> List Nat
  | [] => []
  | [a] => a
  | a :: b :: r => a ++ 32 :: jn (b :: r)
theorem jn_head {a : List Nat} {r : List (List Nat)} (h : 32 ∉ a) : (jn (a :: r)).takeWhile (fun c => c != 32) = a := by
  have all : ∀ (l x : List Nat), 32 ∉ l -> (l ++ 32 :: x).takeWhile (fun c => c != 32) = l := by
    intro l x
    induction l with
    | nil => intro _; rfl
    | cons c l ih =>
      intro h
      rw [List.mem_cons, not_or] at h
      rw [List.cons_append, List.takeWhile_cons, if_pos (by simpa using fun z : c = 32 => h.1 z.symm), ih h.2]
  have one : ∀ l : List Nat, 32 ∉ l -> l.takeWhile (fun c => c != 32) = l := by
    intro l
    induction l with
    | nil => intro _; rfl
    | cons c l ih =>
      intro h
      rw [List.mem_cons, not_or] at h
      rw [List.takeWhile_cons, if_pos (by simpa using fun z : c = 32 => h.1 z.symm), ih h.2]
  cases r with
  | nil => exact one a h
  | cons b r => exact all a _ h
theorem jn_inj : ∀ {as bs : List (List Nat)}, as ≠ [] -> bs ≠ [] -> (∀ a ∈ as, 32 ∉ a) -> (∀ b ∈ bs, 32 ∉ b) -> jn as = jn bs -> as = bs
  | [], _, h, _, _, _, _ => absurd rfl h
  | _, [], _, h, _, _, _ => absurd rfl h
  | a :: as, b :: bs, _, _, h1, h2, e => by
    have e1 : a = b := by
      have := congrArg (fun l => l.takeWhile fun c => c != 32) e
      simpa only [jn_head (h1 a List.mem_cons_self), jn_head (h2 b List.mem_cons_self)] using this
    subst e1
    cases as with
    | nil => cases bs with
      | nil => rfl
      | cons b' bs =>
        have e' : a = a ++ 32 :: jn (b' :: bs) := e
        have := congrArg List.length e'
        rw [List.length_append, List.length_cons] at this
        omega
    | cons a' as => cases bs with
      | nil =>
        have e' : a ++ 32 :: jn (a' :: as) = a := e
        have := congrArg List.length e'
        rw [List.length_append, List.length_cons] at this
        omega
      | cons b' bs =>
        have e' : a ++ 32 :: jn (a' :: as) = a ++ 32 :: jn (b' :: bs) := e
        have e2 := List.append_cancel_left e'
        have e3 : jn (a' :: as) = jn (b' :: bs) := by injection e2
        have := jn_inj (as := a' :: as) (bs := b' :: bs) (by simp) (by simp) (fun x hx => h1 x (List.mem_cons_of_mem _ hx)) (fun x hx => h2 x (List.mem_cons_of_mem _ hx)) e3
        rw [this]
theorem blank1 : (" " : Str) = ⟨#[32]⟩ := by decide +kernel
theorem cs_join : ∀ ws : List Str, cs (Str.join " " ws) = jn (ws.map cs)
  | [] => by decide +kernel
  | [w] => rfl
  | w :: v :: r => by
    show cs (w ++ " " ++ Str.join " " (v :: r)) = cs w ++ 32 :: jn ((v :: r).map cs)
    rw [Zq56, Zq56, cs_join (v :: r), List.append_assoc]
    have : cs (" " : Str) = [32] := by decide +kernel
    rw [this]
    rfl
theorem split_join {ws : List Str} (hne : ws ≠ []) (hf : ∀ w ∈ ws, 32 ∉ cs w) : Txt.split (Txt.join " " ws) " " = ws := by
  have h1 := StrLaws.join_split (Txt.join " " ws) " "
  have h2 := StrLaws.split_free (Txt.join " " ws) 32
  rw [← blank1] at h2
  have h3 : 1 <= (Txt.split (Txt.join " " ws) " ").length := split_pos _ _
  generalize Txt.split (Txt.join " " ws) " " = vs at h1 h2 h3
  have h4 : Txt.join " " ws = Str.join " " ws := StrLaws.glued_eq_join " " ws
  rw [h4] at h1
  have h5 := congrArg cs h1
  rw [cs_join, cs_join] at h5
  have h6 := jn_inj (by intro z; have := List.map_eq_nil_iff.mp z; rw [this] at h3; simp at h3) (by intro z; exact hne (List.map_eq_nil_iff.mp z)) (fun a ha => by obtain ⟨w, hw, rfl⟩ := List.mem_map.mp ha; exact h2 w hw) (fun a ha => by obtain ⟨w, hw, rfl⟩ := List.mem_map.mp ha; exact hf w hw) h5
  have inj : ∀ {as bs : List Str}, as.map cs = bs.map cs -> as = bs := by
    intro as
    induction as with
    | nil => intro bs h; cases bs with
      | nil => rfl
      | cons b bs => cases h
    | cons a as ih => intro bs h; cases bs with
      | nil => cases h
      | cons b bs =>
        rw [List.map_cons, List.map_cons] at h
        injection h with e1 e2
        rw [cs_inj e1, ih e2]
  exact inj h6
end L2
end
section
set_option Elab.async false
set_option linter.all false
set_option maxRecDepth 100000
set_option maxHeartbeats 4000000
namespace L2
open PySem PySem.Spec PyProof.Rows
abbrev lzA (h : Heap) (t1 : Addr) : Heap := h.push { cls := .type "list_iterator", data := .fields #[.ref t1, .int 0 0] }
abbrev lzB (h : Heap) (t1 t2 : Addr) : Heap := (lzA h t1).push { cls := .type "tuple_iterator", data := .fields #[.ref t2, .int 0 0] }
abbrev lzC (h : Heap) (t1 t2 : Addr) : Heap := (lzB h t1 t2).push { cls := .type "tuple", data := .seq #[.ref h.objs.size, .ref (lzA h t1).objs.size] }
abbrev lzD (h : Heap) (t1 t2 : Addr) : Heap := (lzC h t1 t2).push { cls := .type "tuple", data := .seq #[.none, .none] }
abbrev lzE (h : Heap) (t1 t2 : Addr) : Heap := (lzD h t1 t2).push { cls := .type "zip", data := .fields #[.none, .bool false, .bool false, .ref (lzB h t1 t2).objs.size, .ref (lzC h t1 t2).objs.size] }
theorem meets_zipLT (l1 l2 : Addr) (xs ys : Array Value) : Meets (Builtin.«zip.__new__» ⟨[.type "zip", .ref l1, .ref l2], []⟩) (fun _ R s => s.heap.IsList l1 xs /\ s.heap.IsTuple l2 ys /\ R (.ok (.ret (.ref (lzD s.heap l1 l2).objs.size))) { s with heap := lzE s.heap l1 l2 }) :=
  .of_wp fun prog w A R s h => by
    obtain ⟨hp, g, d, tk, os⟩ := s; obtain ⟨hl1, hl2, h⟩ := h
    have hsub := sub_zip
    have hL1 : Heap.IsList (Shared.heap ⟨hp, g, d, tk, os⟩) l1 xs := hl1
    have hL2 : Heap.IsTuple (Shared.heap ⟨lzA hp l1, g, d, tk, os⟩) l2 ys := let ⟨o, e, r⟩ := hl2; ⟨o, Heap.get?_push_of_some _ e, r⟩
    wp_walk using wpAny_pyIter_list hL1, wpAny_pyIter_tuple hL2
    exact ⟨_, rfl, h⟩
section
variable {P : Program} {w : World} {A : Around} {E : Value -> Shared -> Prop} {s : Shared}
theorem call_zipLT {l1 l2 : Addr} {xs ys : Array Value} {Q : Value -> Shared -> Prop} (hl1 : s.heap.IsList l1 xs) (hl2 : s.heap.IsTuple l2 ys)
    (h : ∀ h', IsZip h' (s.heap.objs.size + 4) (s.heap.objs.size + 2) (s.heap.objs.size + 3) .none -> IsPair h' (s.heap.objs.size + 2) (.ref s.heap.objs.size) (.ref (s.heap.objs.size + 1)) ->
      IsPair h' (s.heap.objs.size + 3) .none .none -> h'.IsListIter s.heap.objs.size l1 0 -> h'.IsTupleIter (s.heap.objs.size + 1) l2 0 ->
      (∀ c o, s.heap.get? c = some o -> h'.get? c = some o) -> Q (.ref (s.heap.objs.size + 4)) { s with heap := h' }) : wpAny (model P w) A (call (.type "zip") [.ref l1, .ref l2]) Q E s := by
  refine callType_new F.called_zip (by decide) (F.typeCall_zip_2 _ _) (F.newCall_zip_2 _ _) (fun obj => F.args_object_init_3 obj _ _) F.entry_zip_new (meets_zipLT l1 l2 xs ys) ⟨hl1, hl2, ?_⟩
  have n1 : (lzA s.heap l1).objs.size = s.heap.objs.size + 1 := Heap.size_push ..
  have n2 : (lzB s.heap l1 l2).objs.size = s.heap.objs.size + 2 := by rw [Heap.size_push, n1]
  have n3 : (lzC s.heap l1 l2).objs.size = s.heap.objs.size + 3 := by rw [Heap.size_push, n2]
  have n4 : (lzD s.heap l1 l2).objs.size = s.heap.objs.size + 4 := by rw [Heap.size_push, n3]
  have q5 : (lzE s.heap l1 l2).get? (lzD s.heap l1 l2).objs.size = some _ := Heap.get?_push_size _ rfl
  have q4 : (lzE s.heap l1 l2).get? (lzC s.heap l1 l2).objs.size = some _ := Heap.get?_push_of_some _ (Heap.get?_push_size _ rfl)
  have q3 : (lzE s.heap l1 l2).get? (lzB s.heap l1 l2).objs.size = some _ := Heap.get?_push_of_some _ (Heap.get?_push_of_some _ (Heap.get?_push_size _ rfl))
  have q2 : (lzE s.heap l1 l2).get? (lzA s.heap l1).objs.size = some _ := Heap.get?_push_of_some _ (Heap.get?_push_of_some _ (Heap.get?_push_of_some _ (Heap.get?_push_size _ rfl)))
  have q1 : (lzE s.heap l1 l2).get? s.heap.objs.size = some _ := Heap.get?_push_of_some _ (Heap.get?_push_of_some _ (Heap.get?_push_of_some _ (Heap.get?_push_of_some _ (Heap.get?_push_size _ rfl))))
  show _ /\ _
  rw [n2, n3, n4] at q5
  rw [n1, n2] at q3
  rw [n3] at q4
  rw [n1] at q2
  rw [n4]
  exact ⟨⟨_, q5, rfl⟩, h _ q5 q3 q4 ⟨_, q1, rfl, rfl⟩ ⟨_, q2, rfl, rfl⟩ fun c o x => Heap.get?_push_of_some _ (Heap.get?_push_of_some _ (Heap.get?_push_of_some _ (Heap.get?_push_of_some _ (Heap.get?_push_of_some _ x))))⟩
end
def SqM (l1 : Addr) : PySem.W.Frag -> Hp -> Addr -> List V -> Prop := fun K H a xs => (a = l1 /\ SqL K H a xs) \/ (a ≠ l1 /\ SqT K H a xs)
def HsM (l1 : Addr) : Addr -> Heap -> List Value -> Prop := fun a h its => if a = l1 then h.IsList a its.toArray else h.IsTuple a its.toArray
theorem sqk_M (l1 : Addr) : SqK (SqM l1) (HsM l1) := by
  refine ⟨fun {X pins σ H s l xs} I h => ?_, fun {X pins σ H s l xs ys} I h h' => ?_⟩
  · rcases h with ⟨rfl, h⟩ | ⟨n, h⟩
    · obtain ⟨its, r, p, _⟩ := I.list h
      exact ⟨its, r, by unfold HsM; rw [if_pos rfl]; exact p.isList⟩
    · obtain ⟨its, r, p, _⟩ := I.tuple h
      exact ⟨its, r, by unfold HsM; rw [if_neg n]; exact p⟩
  · rcases h with ⟨e, h⟩ | ⟨n, h⟩
    · rcases h' with ⟨_, h'⟩ | ⟨n, _⟩
      · exact I.list_inj h h'
      · exact absurd e n
    · rcases h' with ⟨e, _⟩ | ⟨_, h'⟩
      · exact absurd e n
      · exact I.tuple_inj h h'
def iZipM (K : PySem.W.Frag) (ta : TA) : TI := fun σ H R => ta σ H fun vs H1 => ∃ l1 l2 xs ys, vs = [.ref l1, .ref l2] /\ SqL K H1 l1 xs /\ SqT K H1 l2 ys /\ (l2 ≠ l1 -> R (Itz (SqM l1) K l1 l2) H1)
theorem pi_zipM {X : Cx} {a b : Expr} {ta : TA} {p pos : Pos} {elts : List Expr} {ek : Nat} {epos : Pos} (hg : Gl X "zip") (hm : X.mg "zip" = none) (ha : PA X [a, b] ta) (hs : starEach [a, b] X.env = [(false, eval a X.env), (false, eval b X.env)] := by rfl) (hs2 : starEach [b] X.env = [(false, eval b X.env)] := by rfl) :
    PI X (.Tuple elts ek epos) (.Call (.Name "zip" p) [a, b] [] pos) (iZipM X.K ta) := by
  intro pins s σ H R I h
  refine Call_ (ld_blt I hg hm boot_zip (PyProof.Rows.callWith_type1 (thn (ha pos pins s σ H _ I h) fun us s1 ⟨vs, H1, I1, r1, q1⟩ => ?_) (by rw [hs, hs2]) (by rw [hs2]; rfl)))
  obtain ⟨l1, l2, xs, ys, e, h1, h2, q⟩ := q1
  subst e
  obtain ⟨u1, u2, rfl, ru1, ru2⟩ := vals2 r1
  cases ru1
  cases ru2
  obtain ⟨its1, r1, p1, _⟩ := I1.list h1
  obtain ⟨its2, r2, p2, _⟩ := I1.tuple h2
  have b1 : l1 < s1.heap.objs.size := by obtain ⟨o, n, e, _⟩ := p1; exact Heap.lt_size e
  have b2 : l2 < s1.heap.objs.size := by obtain ⟨o, e, _⟩ := p2; exact Heap.lt_size e
  have n21 : l2 ≠ l1 := fun z => by
    subst z
    obtain ⟨o, e, c, _⟩ := p1.isList
    obtain ⟨o', e', c', _⟩ := p2
    rw [e] at e'
    cases e'
    rw [c] at c'
    exact absurd c' (by decide)
  have q := q n21
  have e1 : HsM l1 l1 = fun h its => h.IsList l1 its.toArray := funext fun h => funext fun its => if_pos rfl
  have e2 : HsM l1 l2 = fun h its => h.IsTuple l2 its.toArray := funext fun h => funext fun its => if_neg n21
  refine call_zipLT p1.isList p2 fun h' z0 t1 t0 st1 st2 kp => ?_
  refine wpAny_pyIter_zip z0 ?_
  refine ⟨s1.heap.objs.size + 4, _, _, _, H1, rfl, I1.kept (h' := h') (t' := s1.toks) kp, turn_zip (sqk_M l1) (za_of b1 b2) (by rw [e1]; exact drw_list _ _) (by rw [e2]; exact drw_tuple _ _), ⟨z0, t1, ⟨_, _, t0⟩, st1, st2⟩, fun c hc => ?_, q⟩
  have hle : s1.heap.objs.size <= c := by
    simp only [List.mem_cons, List.not_mem_nil, or_false] at hc
    have : (s1.heap.objs.size : Nat) <= (c : Nat) := by rcases hc with rfl | rfl | rfl | rfl | rfl <;> omega
    exact this
  exact I1.fpOk hle (I1.hok.fresh hle)
theorem qi_zipM {X : Cx} {a b : Expr} {ta : TA} {p pos : Pos} {elts : List Expr} {ek : Nat} {epos : Pos} (hg : Gl X "zip") (hm : X.mg "zip" = none) (ha : QA X [a, b] ta) (hs : starEach [a, b] X.env = [(false, eval a X.env), (false, eval b X.env)] := by rfl) (hs2 : starEach [b] X.env = [(false, eval b X.env)] := by rfl) :
    QI X (.Tuple elts ek epos) (.Call (.Name "zip" p) [a, b] [] pos) (iZipM X.K ta) := ⟨pi_zipM hg hm ha.h hs hs2⟩
end L2
end
section
set_option Elab.async false
set_option linter.all false
set_option maxRecDepth 100000
set_option maxHeartbeats 4000000
namespace L2
open PySem PySem.Spec PyProof.Rows
theorem comp_tup {K : PySem.W.Frag} {a : Addr} {xs : List V} {nl : Nat} {fv : St} {g : TG} {tt : TTs} {te : TE} {Q : VK} {H : Hp} (Pv : Nat -> List V -> Hp -> Prop) (h0 : Pv 0 [] H) (hn : xs.length <= 1000000)
    (hl : ∀ i ys H, i <= xs.length -> Pv i ys H -> SqT K H a xs)
    (hlen : ∀ i ys H, Pv i ys H -> ys.length <= i)
    (step : ∀ i x ys H, xs[i]? = some x -> Pv i ys H -> Zq80 nl fv g tt te x H (fun y H' => Pv (i + 1) (ys ++ [y]) H') fun H' => Pv (i + 1) ys H')
    (hd : ∀ ys H, Pv xs.length ys H -> ∀ l, H l = none -> Q (.ref l) (upd H l (.lst ys))) :
    Zq99 (Itt K a) nl fv g tt te Q H := by
  refine comp_by (xs := xs) Pv h0 hn ?_ ?_ ?_ hlen step hd
  · intro i H ys hi p
    exact ⟨xs, xs[i], hl i ys H (Nat.le_of_lt hi) p, by simp [hi]⟩
  · rintro i H x H' ys hi p ⟨rfl, y⟩
    exact ⟨rfl, y xs (hl i ys _ (Nat.le_of_lt hi) p)⟩
  · intro H ys p
    exact ⟨xs, hl _ ys H (Nat.le_refl _) p, Nat.le_refl _⟩
theorem comp_zipM {K : PySem.W.Frag} {l1 l2 : Addr} {nl : Nat} {fv : St} {g : TG} {tt : TTs} {te : TE} {Q : VK} {H : Hp} (xs zs : List V) (hxz : xs.length = zs.length) (n21 : l2 ≠ l1) (Pv : Nat -> List V -> Hp -> Prop) (h0 : Pv 0 [] H) (hn : xs.length <= 1000000)
    (hl : ∀ i ys H, i <= xs.length -> Pv i ys H -> SqL K H l1 xs /\ SqT K H l2 zs) (hlen : ∀ i ys H, Pv i ys H -> ys.length <= i)
    (step : ∀ i x z p ys H, xs[i]? = some x -> zs[i]? = some z -> Pv i ys H -> H p = none -> Zq80 nl fv g tt te (.ref p) (upd H p (.tup [x, z])) (fun y H' => Pv (i + 1) (ys ++ [y]) H') fun H' => Pv (i + 1) ys H')
    (hd : ∀ ys H, Pv xs.length ys H -> ∀ l, H l = none -> Q (.ref l) (upd H l (.lst ys))) :
    Zq99 (Itz (SqM l1) K l1 l2) nl fv g tt te Q H := by
  have m : ∀ {i ys H}, i <= xs.length -> Pv i ys H -> SqM l1 K H l1 xs /\ SqM l1 K H l2 zs := fun hi p => let ⟨a, b⟩ := hl _ _ _ hi p; ⟨.inl ⟨rfl, a⟩, .inr ⟨n21, b⟩⟩
  refine comp_made xs.length (fun i => (xs[i]?).bind fun x => (zs[i]?).map fun z => [x, z]) Pv h0 hn (fun i H ys hi p => ⟨xs, zs, (m (Nat.le_of_lt hi) p).1, (m (Nat.le_of_lt hi) p).2, hi, by omega⟩) ?_ (fun H ys p => ⟨xs, zs, (m (Nat.le_refl _) p).1, (m (Nat.le_refl _) p).2, .inl (Nat.le_refl _)⟩) hlen ?_ hd
  · rintro i H x H' ys hi p ⟨q, a, b, rfl, hq, rfl, ha⟩
    obtain ⟨e1, e2⟩ := ha xs zs (m (Nat.le_of_lt hi) p).1 (m (Nat.le_of_lt hi) p).2
    exact ⟨q, [a, b], by rw [e1, e2]; rfl, rfl, hq, rfl⟩
  · intro i us p ys H hi hf hp hq
    obtain ⟨x, hx, h2⟩ := Option.bind_eq_some_iff.mp hf
    obtain ⟨z, hz, rfl⟩ := Option.map_eq_some_iff.mp h2
    exact step i x z p ys H hx hz hp hq
section
variable {X : Cx}
def rTupOf (K : PySem.W.Frag) : List V -> Hp -> VK -> Prop := fun xs H Q => ∃ p ys, xs = [.ref p] /\ ((SqL K H p ys /\ ∀ l, H l = none -> Q (.ref l) (upd H l (.tup ys))) \/ (SqT K H p ys /\ Q (.ref p) H))
theorem qcall_tuple_of : QC X (.type "tuple") (rTupOf X.K) := ⟨call_tuple_of⟩
structure QPs (X : Cx) (pos : Pos) (keys : List (Option Expr)) (values : List Expr) (trs : List (TE × TE)) : Prop where
  h : PPs X pos keys values trs
theorem qps_nil {pos : Pos} : QPs X pos [] [] [] := ⟨pps_nil⟩
theorem Zq60 {pos : Pos} {k v : Expr} {ks : List (Option Expr)} {vs : List Expr} {tk tv : TE} {trs : List (TE × TE)} (hk : QE X k tk) (hv : QE X v tv) (hr : QPs X pos ks vs trs) : QPs X pos (some k :: ks) (v :: vs) ((tk, tv) :: trs) := ⟨pps_cons hk.h hv.h hr.h⟩
theorem qe_disp {pos : Pos} {keys : List (Option Expr)} {values : List Expr} {trs : List (TE × TE)} (h : QPs X pos keys values trs) (hall : keys.all (·.isSome) = true := by rfl) (hl : keys.length = values.length := by rfl) (h0 : keys ≠ [] := by simp) (h15 : keys.length <= 15 := by decide) : QE X (.Dict keys values pos) (tDisp trs) := ⟨pe_disp h.h hall hl h0 h15⟩
end
end L2
end
set_option Elab.async false
set_option linter.all false
set_option maxRecDepth 100000
set_option maxHeartbeats 4000000
namespace Law
open PySem L2
local macro_rules | `(tactic| walk_at "hp") => `(tactic| first | exact Zq5 | assumption | (rw [Zq9 (by first | assumption | (apply Ne.symm; assumption))]; walk_at "hp"))
local macro_rules | `(tactic| walk_at "sq") => `(tactic| first | assumption | exact SqL.of (by walk_at "hp"))
local macro_rules | `(tactic| walk_at "dc") => `(tactic| first | decide | assumption | omega)
local macro_rules | `(tactic| walk_at "rd1") => `(tactic| first | refine iteT ?_ | refine iteF ?_ | refine iteD (fun _ => ?_) (fun _ => ?_) | refine Zq81 (fun _ => ?_) (fun _ => ?_) | refine iteB (fun _ => ?_) (fun _ => ?_) | refine ⟨_, rfl, ?_⟩ | refine ⟨_, _, rfl, rfl, ?_⟩ | refine ⟨(.inr ⟨by decide, by decide⟩ : CMul _ _), ?_⟩ | refine ⟨(⟨by walk_at "dc", by walk_at "dc"⟩ : CDiv _ _), ?_⟩ | refine ⟨(⟨by decide, by decide, by decide⟩ : CPow _ _), ?_⟩ | refine ⟨(show (0 : Int) < _ by walk_at "dc"), ?_⟩ | refine ⟨_, _, _, _, rfl, rfl, (by walk_at "sq"), (by rfl), ?_⟩ | refine ⟨_, _, _, _, rfl, rfl, (by walk_at "sq"), at_ints (by omega) (by omega), ?_⟩ | refine ⟨_, _, _, _, rfl, rfl, (by walk_at "hp"), (by rfl), ?_⟩ | refine ⟨_, _, rfl, .inl (by walk_at "sq"), ?_⟩ | fail "rd")
local macro_rules | `(tactic| walk_at "rd") => `(tactic| repeat' walk_at "rd1")
def top (i : Nat) : Stmt := PySem.Challenge.pw_forsworn_k49_deeds_written.main.body.getD i (.Pass ⟨0, 0, 0, 0⟩)
structure Txt (mg : Str -> Option Value) : Prop where
  len : mg "len" = none
  list : mg "list" = none
  range : mg "range" = none
  isinstance : mg "isinstance" = none
  bool : mg "bool" = none
  int : mg "int" = none
  str : mg "str" = none
  tuple : mg "tuple" = none
  zip : mg "zip" = none
  min : mg "min" = none
  max : mg "max" = none
  all : mg "all" = none
section
variable {P : Program} {w : World} {K : PySem.W.Frag} {mg : Str -> Option Value} {base : Heap}
def isInt : D -> Bool
  | .int _ => true
  | _ => false
def spWhole : Sp := fun vs H Q _ => ∃ (v : V) (d : D), vs = [v] /\ Rep H d v /\ Q (.bl (isInt d)) H
abbrev Zq61 : Stmt := top 21
theorem Zq148 : FnScope ["_law_found"] ["_law_found"] (Zq0 Zq61) := ⟨rfl, rfl, rfl, by decide +kernel, rfl, by decide +kernel, by decide +kernel⟩
theorem Nq43 : Nm (Zq0 Zq61) "_law_found" .local := by decide +kernel
theorem Nq83 : Nm (Zq0 Zq61) "bool" .globalImplicit := by decide +kernel
theorem Nq84 : Nm (Zq0 Zq61) "int" .globalImplicit := by decide +kernel
theorem Nq44 : Nm (Zq0 Zq61) "isinstance" .globalImplicit := by decide +kernel
theorem Zq157 (Zq114 : Has K mg "_law_whole" Zq61) (T : Txt mg) : Fn P w K mg base "_law_whole" ["_law_found"] 1 spWhole := by
  refine Zq114.fnQ Zq148 (fun _ _ _ _ _ _ us hl => match us, hl with | [_], _ => rfl) (fun vs H Q E h => ?_) (fun f cdv A outer s H vs Q E hr h => ?_)
  · obtain ⟨v, d, rfl, _⟩ := h
    rfl
  · obtain ⟨v, d, rfl, r, k⟩ := h
    refine ⟨_, (Zq6 (Zq14 (qe_and (Zq11 Zq24 Nq44 T.isinstance Zq22 (Zq1 (qvN 0 Nq43) (Zq1 (Zq41 (v := .ty "int") Nq84 T.int b_int rfl) Zq2))) (qe_one (qe_not (Zq11 Zq24 Nq44 T.isinstance Zq22 (Zq1 (qvN 0 Nq43) (Zq1 (Zq41 (v := .ty "bool") Nq83 T.bool b_bool rfl) Zq2)))))))), ?_⟩
    obtain ⟨t1, ty1, e1⟩ := isi (K := K) r "int" (by decide)
    obtain ⟨t2, ty2, e2⟩ := isi (K := K) r "bool" (by decide)
    refine ⟨_, rfl, v, "int", t1, _, rfl, ty1, e1, _, rfl, iteB (fun h1 => ?_) (fun h1 => ?_)⟩
    · refine ⟨_, rfl, v, "bool", t2, _, rfl, ty2, e2, _, rfl, ?_⟩
      have e : (!isI d "bool") = isInt d := by cases d <;> first | rfl | (simp [isI] at h1)
      rw [e]
      exact k
    · have e : false = isInt d := by cases d <;> first | rfl | (simp [isI] at h1)
      rw [e]
      exact k
def spSame (n : Nat) : Sp := fun vs H Q _ => ∃ (v1 v2 : V) (d1 d2 : D), vs = [v1, v2] /\ Rep H d1 v1 /\ Rep H d2 v2 /\ d2.deep <= n /\ ∀ H', Same H H' -> Q (.bl (Zq38 d1 d2)) H'
abbrev Zq18 : Stmt := top 22
theorem Zq115 : FnScope ["_law_found", "_law_due", "_law_one", "_law_other"] ["_law_found", "_law_due"] (Zq0 Zq18) := ⟨rfl, rfl, rfl, by decide +kernel, rfl, by decide +kernel, by decide +kernel⟩
theorem Nq1 : Nm (Zq0 Zq18) "_law_due" .local := by decide +kernel
theorem Nq2 : Nm (Zq0 Zq18) "_law_found" .local := by decide +kernel
theorem Nq45 : Nm (Zq0 Zq18) "_law_one" .local := by decide +kernel
theorem Nq46 : Nm (Zq0 Zq18) "_law_other" .local := by decide +kernel
theorem Nq85 : Nm (Zq0 Zq18) "_law_same" .globalImplicit := by decide +kernel
theorem Nq86 : Nm (Zq0 Zq18) "_law_whole" .globalImplicit := by decide +kernel
theorem Nq47 : Nm (Zq0 Zq18) "bool" .globalImplicit := by decide +kernel
theorem Nq87 : Nm (Zq0 Zq18) "int" .globalImplicit := by decide +kernel
theorem Nq3 : Nm (Zq0 Zq18) "isinstance" .globalImplicit := by decide +kernel
theorem Nq48 : Nm (Zq0 Zq18) "len" .globalImplicit := by decide +kernel
theorem Nq49 : Nm (Zq0 Zq18) "list" .globalImplicit := by decide +kernel
theorem Nq50 : Nm (Zq0 Zq18) "str" .globalImplicit := by decide +kernel
theorem Nq51 : Nm (Zq0 Zq18) "tuple" .globalImplicit := by decide +kernel
theorem Nq88 : Nm (Zq0 Zq18) "zip" .globalImplicit := by decide +kernel
theorem same_step {n k : Nat} (Zq39 : Has K mg "_law_same" Zq18) (T : Txt mg) (Zq74 : Fn P w K mg base "_law_whole" ["_law_found"] 1 spWhole)
    (Zq62 : Fn P w K mg base "_law_same" ["_law_found", "_law_due"] (k + 1) (fun vs H Q E => 0 < n /\ spSame (n - 1) vs H Q E)) : Fn P w K mg base "_law_same" ["_law_found", "_law_due"] (k + 2) (spSame n) := by
  refine Zq39.fnQ Zq115 (fun _ _ _ _ _ _ us hl => match us, hl with | [_, _], _ => rfl) (fun vs H Q E h => ?_) (fun f cdv A outer s H vs Q E hr h => ?_)
  · obtain ⟨v1, v2, d1, d2, rfl, _⟩ := h
    rfl
  · obtain ⟨v1, v2, d1, d2, rfl, r1, r2, hn, q⟩ := h
    have hk : 1 <= k + 1 := Nat.le_add_left _ _
    refine ⟨_, (Zq3 (Zq26 (Zq25 qop_isN (qvN 1 Nq1) qe_non (Zq29 _)) (Zq6 (Zq14 (qe_cmpR qop_isN (qvN 0 Nq2) qe_non (Zq29 _)))) Zq17)
 (Zq3 (Zq26 (Zq52 (Zq11 Zq24 Nq3 T.isinstance Zq22 (Zq1 (qvN 1 Nq1) (Zq1 (Zq41 (v := .ty "bool") Nq47 T.bool b_bool rfl) Zq2)))) (Zq6 (Zq14 (qe_and (Zq11 Zq24 Nq3 T.isinstance Zq22 (Zq1 (qvN 0 Nq2) (Zq1 (Zq41 (v := .ty "bool") Nq47 T.bool b_bool rfl) Zq2))) (qe_one (qe_cmpR Zq72 (qvN 0 Nq2) (qvN 1 Nq1) (Zq29 _)))))) Zq17)
 (Zq3 (Zq26 (Zq52 (Zq11 Zq24 Nq3 T.isinstance Zq22 (Zq1 (qvN 1 Nq1) (Zq1 (Zq41 (v := .ty "int") Nq87 T.int b_int rfl) Zq2)))) (Zq6 (Zq14 (qe_and (Zq8 Zq74 (hr.mono (by omega)) Nq86 (Zq1 (qvN 0 Nq2) Zq2)) (qe_one (qe_cmpR Zq72 (qvN 0 Nq2) (qvN 1 Nq1) (Zq29 _)))))) Zq17)
 (Zq3 (Zq26 (Zq52 (Zq11 Zq24 Nq3 T.isinstance Zq22 (Zq1 (qvN 1 Nq1) (Zq1 (Zq41 (v := .ty "str") Nq50 T.str b_str rfl) Zq2)))) (Zq6 (Zq14 (qe_and (Zq11 Zq24 Nq3 T.isinstance Zq22 (Zq1 (qvN 0 Nq2) (Zq1 (Zq41 (v := .ty "str") Nq50 T.str b_str rfl) Zq2))) (qe_one (qe_cmpR Zq72 (qvN 0 Nq2) (qvN 1 Nq1) (Zq29 _)))))) Zq17)
 (Zq3 (Zq26 (QW.pt (qw_or (Zq25 qop_ne (Zq11 Zq24 Nq3 T.isinstance Zq22 (Zq1 (qvN 1 Nq1) (Zq1 (Zq41 (v := .ty "list") Nq49 T.list Zq112 rfl) Zq2))) (Zq11 Zq24 Nq3 T.isinstance Zq22 (Zq1 (qvN 0 Nq2) (Zq1 (Zq41 (v := .ty "list") Nq49 T.list Zq112 rfl) Zq2))) (Zq29 _)) (qw_or1 (Zq25 qop_ne (Zq11 Zq24 Nq3 T.isinstance Zq22 (Zq1 (qvN 1 Nq1) (Zq1 (Zq41 (v := .ty "tuple") Nq51 T.tuple b_tuple rfl) Zq2))) (Zq11 Zq24 Nq3 T.isinstance Zq22 (Zq1 (qvN 0 Nq2) (Zq1 (Zq41 (v := .ty "tuple") Nq51 T.tuple b_tuple rfl) Zq2))) (Zq29 _))))) (Zq6 (Zq14 Zq109)) Zq17)
 (Zq3 (Zq26 (Zq25 qop_ne (Zq11 Zq48 Nq48 T.len Zq88 (Zq1 (qvN 0 Nq2) Zq2)) (Zq11 Zq48 Nq48 T.len Zq88 (Zq1 (qvN 1 Nq1) Zq2)) (Zq29 _)) (Zq6 (Zq14 Zq109)) Zq17)
 (Zq3 (Zq100 PassesOwn.never rfl (qi_zip Nq88.1 T.zip (Zq1 (qvN 0 Nq2) (Zq1 (qvN 1 Nq1) Zq2))) (qg_tup (by rfl) (Zq131 (Zq67 (i := 2) Zq115.nd Nq45) (Zq131 (Zq67 (i := 3) Zq115.nd Nq46) qgs_nil)))
  (Zq6 (Zq26 (Zq101 (Zq52 (Zq8 Zq62 (hr.mono (by omega)) Nq85 (Zq1 (qvN 2 Nq45) (Zq1 (qvN 3 Nq46) Zq2))))) (Zq6 (Zq14 Zq109)) Zq17)))
 (Zq6 (Zq14 Zq109))))))))), ?_⟩
    have q0 : Q (.bl (Zq38 d1 d2)) H := q H (Same.refl _)
    obtain ⟨tb2, yb2, eb2⟩ := isi (K := K) r2 "bool" (by decide)
    obtain ⟨ti2, yi2, ei2⟩ := isi (K := K) r2 "int" (by decide)
    obtain ⟨ts2, ys2, es2⟩ := isi (K := K) r2 "str" (by decide)
    obtain ⟨tl2, yl2, el2⟩ := isi (K := K) r2 "list" (by decide)
    obtain ⟨tt2, yt2, et2⟩ := isi (K := K) r2 "tuple" (by decide)
    obtain ⟨tb1, yb1, eb1⟩ := isi (K := K) r1 "bool" (by decide)
    obtain ⟨ts1, ys1, es1⟩ := isi (K := K) r1 "str" (by decide)
    obtain ⟨tl1, yl1, el1⟩ := isi (K := K) r1 "list" (by decide)
    obtain ⟨tt1, yt1, et1⟩ := isi (K := K) r1 "tuple" (by decide)
    refine ⟨_, rfl, rfl, _, rfl, ?_⟩
    rw [r2.none_iff]
    cases d2 with
    | non =>
      refine iteT ⟨_, rfl, rfl, ?_⟩
      rw [r1.none_iff]
      cases d1 <;> exact q0
    | bl b2 =>
      refine iteF ?_
      refine ⟨_, rfl, v2, "bool", tb2, _, rfl, yb2, eb2, _, rfl, iteT ?_⟩
      refine ⟨_, rfl, v1, "bool", tb1, _, rfl, yb1, eb1, _, rfl, ?_⟩
      cases r2
      cases d1 with
      | bl b1 =>
        cases r1
        refine iteT ⟨_, rfl, _, rfl, rfl, ?_⟩
        rw [dec_bl]
        exact q0
      | non => exact iteF q0
      | int _ => exact iteF q0
      | str _ => exact iteF q0
      | tup _ => exact iteF q0
      | lst _ => exact iteF q0
    | int i2 =>
      refine iteF ?_
      refine ⟨_, rfl, v2, "bool", tb2, _, rfl, yb2, eb2, _, rfl, iteF ?_⟩
      refine ⟨_, rfl, v2, "int", ti2, _, rfl, yi2, ei2, _, rfl, iteT ?_⟩
      refine ⟨_, rfl, v1, d1, rfl, r1, _, rfl, ?_⟩
      cases r2
      cases d1 with
      | int i1 =>
        cases r1
        refine iteT ⟨_, rfl, _, rfl, rfl, ?_⟩
        rw [dec_int]
        exact q0
      | non => exact iteF q0
      | bl _ => exact iteF q0
      | str _ => exact iteF q0
      | tup _ => exact iteF q0
      | lst _ => exact iteF q0
    | str x2 =>
      refine iteF ?_
      refine ⟨_, rfl, v2, "bool", tb2, _, rfl, yb2, eb2, _, rfl, iteF ?_⟩
      refine ⟨_, rfl, v2, "int", ti2, _, rfl, yi2, ei2, _, rfl, iteF ?_⟩
      refine ⟨_, rfl, v2, "str", ts2, _, rfl, ys2, es2, _, rfl, iteT ?_⟩
      refine ⟨_, rfl, v1, "str", ts1, _, rfl, ys1, es1, _, rfl, ?_⟩
      cases r2
      cases d1 with
      | str x1 =>
        cases r1
        refine iteT ⟨_, rfl, _, rfl, rfl, ?_⟩
        rw [dec_str]
        exact q0
      | non => exact iteF q0
      | bl _ => exact iteF q0
      | int _ => exact iteF q0
      | tup _ => exact iteF q0
      | lst _ => exact iteF q0
    | lst ds2 =>
      refine iteF ?_
      refine ⟨_, rfl, v2, "bool", tb2, _, rfl, yb2, eb2, _, rfl, iteF ?_⟩
      refine ⟨_, rfl, v2, "int", ti2, _, rfl, yi2, ei2, _, rfl, iteF ?_⟩
      refine ⟨_, rfl, v2, "str", ts2, _, rfl, ys2, es2, _, rfl, iteF ?_⟩
      refine ⟨_, rfl, v2, "list", tl2, _, rfl, yl2, el2, _, rfl, v1, "list", tl1, _, rfl, yl1, el1, rfl, _, rfl, ?_⟩
      have ne1 : ∀ {A B : Prop}, B -> if (!decide (V.bl true = V.bl true)) = true then A else B := fun h => Zq81 (fun z => absurd rfl z) fun _ => h
      have ne2 : ∀ {A B : Prop}, B -> if (!decide (V.bl false = V.bl false)) = true then A else B := fun h => Zq81 (fun z => absurd rfl z) fun _ => h
      have nt1 : ∀ {A B : Prop}, A -> if (!decide (V.bl true = V.bl false)) = true then A else B := fun h => Zq81 (fun _ => h) fun z => by cases z
      have nt2 : ∀ {A B : Prop}, A -> if (!decide (V.bl false = V.bl true)) = true then A else B := fun h => Zq81 (fun _ => h) fun z => by cases z
      have two : ∀ {R : Prop}, R -> R := id
      cases d1 with
      | lst ds1 =>
        refine ne1 ?_
        refine ⟨_, rfl, v2, "tuple", tt2, _, rfl, yt2, et2, _, rfl, v1, "tuple", tt1, _, rfl, yt1, et1, rfl, _, rfl, ?_⟩
        refine ne2 ?_
        obtain ⟨a1, vs1, rfl, g1, p1⟩ := r1
        obtain ⟨a2, vs2, rfl, g2, p2⟩ := r2
        refine ⟨_, rfl, a1, vs1, rfl, .inl (SqL.of g1), _, rfl, a2, vs2, rfl, .inl (SqL.of g2), rfl, _, rfl, Zq81 (fun hne => ?_) (fun heq => ?_)⟩
        · have : ds1.length ≠ ds2.length := fun z => hne (by rw [p1.length, p2.length, z])
          have e : Zq38 (.lst ds1) (.lst ds2) = false := by rw [Zq38]; exact sameL_false_len this
          rw [e] at q0
          exact q0
        · have hl : vs1.length = vs2.length := by injection heq with z; omega
          have hl1 := p1.length
          have hl2 := p2.length
          refine ⟨_, rfl, _, rfl, a1, a2, rfl, .inl ⟨vs1, vs2, SqL.of g1, SqL.of g2, ?_⟩⟩
          refine forW_zip vs1 vs2 hl (fun i σ H' => Same H H' /\ ∃ w3 w4, σ = [some (.ref a1), some (.ref a2), w3, w4] /\ Zq57 (ds1.take i) (ds2.take i) = true) ⟨Same.refl _, none, none, rfl, rfl⟩ (fun i σ H' _ ⟨sm, _⟩ => ⟨SqL.of (sm _ _ g1), SqL.of (sm _ _ g2)⟩) ?_ ?_
          · rintro i x y p σ H' hx hy ⟨sm, w3, w4, rfl, hs⟩ hp
            obtain ⟨dx, ex, rx⟩ := p1.get hx
            obtain ⟨dy, ey, ry⟩ := p2.get hy
            have sm' := sm.trans (Same.new (o := .tup [x, y]) hp)
            have dd := deep_get ey
            have hn' : Zq69 ds2 + 1 <= n := hn
            refine ⟨p, _, rfl, SqT.of Zq5, rfl, x, [y], rfl, y, [], rfl, rfl, ?_⟩
            refine ⟨_, rfl, _, rfl, by omega, x, y, dx, dy, rfl, rx.mono' sm', ry.mono' sm', by omega, fun H2 sm2 => ⟨_, rfl, iteNB (fun hf => ?_) (fun ht => ?_)⟩⟩
            · have e : Zq38 (.lst ds1) (.lst ds2) = false := by rw [Zq38]; exact sameL_false_at ex ey hf
              have qq := q H2 (sm'.trans sm2)
              rw [e] at qq
              exact qq
            · exact ⟨sm'.trans sm2, _, _, rfl, by rw [sameL_take ex ey, hs, ht]; rfl⟩
          · rintro σ H' ⟨sm, w3, w4, rfl, hs⟩
            have e : Zq38 (.lst ds1) (.lst ds2) = true := by
              rw [Zq38]
              rw [List.take_of_length_le (by omega), List.take_of_length_le (by omega)] at hs
              exact hs
            have qq := q H' sm
            rw [e] at qq
            exact qq
      | tup _ => exact nt1 (iteT q0)
      | non => exact nt1 (iteT q0)
      | bl _ => exact nt1 (iteT q0)
      | int _ => exact nt1 (iteT q0)
      | str _ => exact nt1 (iteT q0)
    | tup ds2 =>
      refine iteF ?_
      refine ⟨_, rfl, v2, "bool", tb2, _, rfl, yb2, eb2, _, rfl, iteF ?_⟩
      refine ⟨_, rfl, v2, "int", ti2, _, rfl, yi2, ei2, _, rfl, iteF ?_⟩
      refine ⟨_, rfl, v2, "str", ts2, _, rfl, ys2, es2, _, rfl, iteF ?_⟩
      refine ⟨_, rfl, v2, "list", tl2, _, rfl, yl2, el2, _, rfl, v1, "list", tl1, _, rfl, yl1, el1, rfl, _, rfl, ?_⟩
      have ne1 : ∀ {A B : Prop}, B -> if (!decide (V.bl true = V.bl true)) = true then A else B := fun h => Zq81 (fun z => absurd rfl z) fun _ => h
      have ne2 : ∀ {A B : Prop}, B -> if (!decide (V.bl false = V.bl false)) = true then A else B := fun h => Zq81 (fun z => absurd rfl z) fun _ => h
      have nt1 : ∀ {A B : Prop}, A -> if (!decide (V.bl true = V.bl false)) = true then A else B := fun h => Zq81 (fun _ => h) fun z => by cases z
      have nt2 : ∀ {A B : Prop}, A -> if (!decide (V.bl false = V.bl true)) = true then A else B := fun h => Zq81 (fun _ => h) fun z => by cases z
      have two : ∀ {R : Prop}, R -> R := id
      cases d1 with
      | tup ds1 =>
        refine ne2 ?_
        refine ⟨_, rfl, v2, "tuple", tt2, _, rfl, yt2, et2, _, rfl, v1, "tuple", tt1, _, rfl, yt1, et1, rfl, _, rfl, ?_⟩
        refine ne1 ?_
        obtain ⟨a1, vs1, rfl, g1, p1⟩ := r1
        obtain ⟨a2, vs2, rfl, g2, p2⟩ := r2
        refine ⟨_, rfl, a1, vs1, rfl, .inr (SqT.of g1), _, rfl, a2, vs2, rfl, .inr (SqT.of g2), rfl, _, rfl, Zq81 (fun hne => ?_) (fun heq => ?_)⟩
        · have : ds1.length ≠ ds2.length := fun z => hne (by rw [p1.length, p2.length, z])
          have e : Zq38 (.tup ds1) (.tup ds2) = false := by rw [Zq38]; exact sameL_false_len this
          rw [e] at q0
          exact q0
        · have hl : vs1.length = vs2.length := by injection heq with z; omega
          have hl1 := p1.length
          have hl2 := p2.length
          refine ⟨_, rfl, _, rfl, a1, a2, rfl, .inr ⟨vs1, vs2, SqT.of g1, SqT.of g2, ?_⟩⟩
          refine forW_zip vs1 vs2 hl (fun i σ H' => Same H H' /\ ∃ w3 w4, σ = [some (.ref a1), some (.ref a2), w3, w4] /\ Zq57 (ds1.take i) (ds2.take i) = true) ⟨Same.refl _, none, none, rfl, rfl⟩ (fun i σ H' _ ⟨sm, _⟩ => ⟨SqT.of (sm _ _ g1), SqT.of (sm _ _ g2)⟩) ?_ ?_
          · rintro i x y p σ H' hx hy ⟨sm, w3, w4, rfl, hs⟩ hp
            obtain ⟨dx, ex, rx⟩ := p1.get hx
            obtain ⟨dy, ey, ry⟩ := p2.get hy
            have sm' := sm.trans (Same.new (o := .tup [x, y]) hp)
            have dd := deep_get ey
            have hn' : Zq69 ds2 + 1 <= n := hn
            refine ⟨p, _, rfl, SqT.of Zq5, rfl, x, [y], rfl, y, [], rfl, rfl, ?_⟩
            refine ⟨_, rfl, _, rfl, by omega, x, y, dx, dy, rfl, rx.mono' sm', ry.mono' sm', by omega, fun H2 sm2 => ⟨_, rfl, iteNB (fun hf => ?_) (fun ht => ?_)⟩⟩
            · have e : Zq38 (.tup ds1) (.tup ds2) = false := by rw [Zq38]; exact sameL_false_at ex ey hf
              have qq := q H2 (sm'.trans sm2)
              rw [e] at qq
              exact qq
            · exact ⟨sm'.trans sm2, _, _, rfl, by rw [sameL_take ex ey, hs, ht]; rfl⟩
          · rintro σ H' ⟨sm, w3, w4, rfl, hs⟩
            have e : Zq38 (.tup ds1) (.tup ds2) = true := by
              rw [Zq38]
              rw [List.take_of_length_le (by omega), List.take_of_length_le (by omega)] at hs
              exact hs
            have qq := q H' sm
            rw [e] at qq
            exact qq
      | lst _ => exact nt2 (iteT q0)
      | non => exact ne2 ⟨_, rfl, v2, "tuple", tt2, _, rfl, yt2, et2, _, rfl, v1, "tuple", tt1, _, rfl, yt1, et1, rfl, _, rfl, nt1 q0⟩
      | bl _ => exact ne2 ⟨_, rfl, v2, "tuple", tt2, _, rfl, yt2, et2, _, rfl, v1, "tuple", tt1, _, rfl, yt1, et1, rfl, _, rfl, nt1 q0⟩
      | int _ => exact ne2 ⟨_, rfl, v2, "tuple", tt2, _, rfl, yt2, et2, _, rfl, v1, "tuple", tt1, _, rfl, yt1, et1, rfl, _, rfl, nt1 q0⟩
      | str _ => exact ne2 ⟨_, rfl, v2, "tuple", tt2, _, rfl, yt2, et2, _, rfl, v1, "tuple", tt1, _, rfl, yt1, et1, rfl, _, rfl, nt1 q0⟩
theorem same_never {k : Nat} (Zq39 : Has K mg "_law_same" Zq18) : Fn P w K mg base "_law_same" ["_law_found", "_law_due"] k (fun _ _ _ _ => False) := by
  obtain ⟨f, fd, F, hm⟩ := Zq39
  exact ⟨f, fd, hm, F.kp, F.binds fun _ _ _ _ _ _ us hl => match us, hl with | [_, _], _ => rfl, ⟨fun _ _ _ _ h => h.elim, fun _ _ _ _ _ _ _ _ _ _ _ _ _ h => h.elim⟩⟩
theorem Zq141 (Zq39 : Has K mg "_law_same" Zq18) (T : Txt mg) (Zq74 : Fn P w K mg base "_law_whole" ["_law_found"] 1 spWhole) : ∀ n : Nat, Fn P w K mg base "_law_same" ["_law_found", "_law_due"] (n + 2) (spSame n)
  | 0 => same_step (k := 0) Zq39 T Zq74 ((same_never Zq39).imp fun _ _ _ _ h => absurd h.1 (Nat.lt_irrefl _))
  | n + 1 => same_step (k := n + 1) Zq39 T Zq74 ((Zq141 Zq39 T Zq74 n).imp fun _ _ _ _ h => h.2)
end
section
variable {P : Program} {w : World} {K : PySem.W.Frag} {mg : Str -> Option Value} {base : Heap}
def spSrc (K : PySem.W.Frag) : Sp := fun vs H Q _ => ∃ (a : Addr) (ns : List Int), vs = [.ref a] /\ SqL K H a (ns.map V.int) /\ ∀ (s la : Addr) (H' : Hp), H s = none -> H la = none -> SrcAt H' s la -> Same H H' -> Q (.ref s) H'
abbrev Zq102 : Stmt := top 19
theorem Zq166 : FnScope ["_law_script"] ["_law_script"] (Zq0 Zq102) := ⟨rfl, rfl, rfl, by decide +kernel, rfl, by decide +kernel, by decide +kernel⟩
theorem Nq89 : Nm (Zq0 Zq102) "_law_script" .local := by decide +kernel
theorem Nq90 : Nm (Zq0 Zq102) "list" .globalImplicit := by decide +kernel
theorem Zq176 (Zq132 : Has K mg "_law_src" Zq102) (T : Txt mg) : Fn P w K mg base "_law_src" ["_law_script"] 1 (spSrc K) := by
  refine Zq132.fnQ Zq166 (fun _ _ _ _ _ _ us hl => match us, hl with | [_], _ => rfl) (fun vs H Q E h => ?_) (fun f cdv A outer s H vs Q E hr h => ?_)
  · obtain ⟨a, ns, rfl, _⟩ := h
    rfl
  · obtain ⟨a, ns, rfl, hS, k⟩ := h
    refine ⟨_, (Zq6 (Zq14 (Zq71 (Zq1 (Zq45 qcall_list_of Nq90 T.list Zq112 (Zq1 (Zq53 qsl_list (qvN 0 Nq89) Zq82 (Zq50 Zq4)) Zq2)) (Zq1 Zq4 (Zq1 Zq4 (Zq1 Zq4 (Zq1 Zq4 Zq2)))))))), ?_⟩
    refine ⟨_, rfl, _, rfl, a, _, rfl, hS, fun l hl => ?_⟩
    have hc : ∃ ms : List Int, cutV (ns.map V.int) none (some 63) = ms.map V.int := by
      unfold cutV
      rw [← List.map_drop, ← List.map_take]
      exact ⟨_, rfl⟩
    obtain ⟨ms, ec⟩ := hc
    refine ⟨l, _, rfl, .inl (SqL.of Zq5), fun l2 hl2 => ⟨by show 5 <= sizeLine; decide, fun s hs => ?_⟩⟩
    have n1 : l2 ≠ l := fun z => by rw [z, Zq5] at hl2; cases hl2
    have s1 : Same H (upd H l (.lst (cutV (ns.map V.int) none (some 63)))) := Same.new hl
    have s2 := s1.trans (Same.new (o := .lst (cutV (ns.map V.int) none (some 63))) hl2)
    have n2 : l2 ≠ s := fun z => by rw [← z, Zq5] at hs; cases hs
    refine k s l2 _ (s2.free hs) (s1.free hl2) ⟨ms, 0, 0, 1, 0, Zq5, by rw [Zq9 n2, Zq5, ec], by decide, n2⟩ (s2.trans (Same.new hs))
def Zq103 : Sp := fun vs H Q _ => ∃ (s la : Addr) (b : Int), vs = [.ref s, .int b] /\ SrcAt H s la /\ 0 < b /\ b < 1073741824 /\ ∀ (d : Int) (H' : Hp), 0 <= d -> d < b -> SrcAt H' s la -> SameX s H H' -> Q (.int d) H'
abbrev Zq58 : Stmt := top 20
theorem Zq93 : FnScope ["_law_src_here", "_law_base", "_law_cell", "_law_digit"] ["_law_src_here", "_law_base"] (Zq0 Zq58) := ⟨rfl, rfl, rfl, by decide +kernel, rfl, by decide +kernel, by decide +kernel⟩
theorem Nq28 : Nm (Zq0 Zq58) "_law_base" .local := by decide +kernel
theorem Nq11 : Nm (Zq0 Zq58) "_law_cell" .local := by decide +kernel
theorem Nq52 : Nm (Zq0 Zq58) "_law_digit" .local := by decide +kernel
theorem Nq0 : Nm (Zq0 Zq58) "_law_src_here" .local := by decide +kernel
theorem Nq91 : Nm (Zq0 Zq58) "len" .globalImplicit := by decide +kernel
theorem Zq167 (Zq123 : Has K mg "_law_next" Zq58) (T : Txt mg) : Fn P w K mg base "_law_next" ["_law_src_here", "_law_base"] 1 Zq103 := by
  refine Zq123.fnQ Zq93 (fun _ _ _ _ _ _ us hl => match us, hl with | [_, _], _ => rfl) (fun vs H Q E h => ?_) (fun f cdv A outer s H vs Q E hr h => ?_)
  · obtain ⟨s, la, b, rfl, _⟩ := h
    rfl
  · obtain ⟨s, la, b, rfl, ⟨ns, i, big, st, cnt, hs, hla, hi, hne⟩, hb0, hb1, k⟩ := h
    refine ⟨_, (Zq3 (qs_asg (Zq16 Zq55 (Zq28 Zq27 (qvN 0 Nq0) Zq4 (fun _ _ => rfl)) Zq4) (qg_sub (qvN 0 Nq0) Zq4 qset_list))
 (Zq3 (Zq26 (Zq25 qop_le (Zq28 Zq27 (qvN 0 Nq0) Zq4 (fun _ _ => rfl)) Zq4 (Zq29 _)) (Zq3 (Zq10 (i := 2) Zq93.nd Nq11 Zq4)
 (Zq3 (Zq26 (Zq25 qop_lt (Zq28 Zq27 (qvN 0 Nq0) Zq4 (fun _ _ => rfl)) (Zq11 Zq48 Nq91 T.len Zq88 (Zq1 (Zq28 Zq27 (qvN 0 Nq0) Zq4 (fun _ _ => rfl)) Zq2)) (Zq29 _)) (Zq3 (Zq10 (i := 2) Zq93.nd Nq11 (Zq28 Zq27 (Zq28 Zq27 (qvN 0 Nq0) Zq4 (fun _ _ => rfl)) (Zq28 Zq27 (qvN 0 Nq0) Zq4 (fun _ _ => rfl)) (fun _ _ => rfl)))
 (Zq6 (qs_asg (Zq16 Zq55 (Zq28 Zq27 (qvN 0 Nq0) Zq4 (fun _ _ => rfl)) Zq4) (qg_sub (qvN 0 Nq0) Zq4 qset_list)))) Zq17)
 (Zq3 (qs_asg (Zq16 qop_mod (Zq16 Zq55 (Zq16 Zq55 (Zq16 qop_mul (Zq28 Zq27 (qvN 0 Nq0) Zq4 (fun _ _ => rfl)) Zq4) (Zq16 qop_mod (qvN 2 Nq11) Zq4)) (Zq28 Zq27 (qvN 0 Nq0) Zq4 (fun _ _ => rfl))) Zq4) (qg_sub (qvN 0 Nq0) Zq4 qset_list))
 (Zq6 (Zq26 (Zq25 qop_ge (qvN 2 Nq11) (Zq16 qop_pow Zq4 Zq4) (Zq29 _)) (Zq6 (qs_asg (qvN 2 Nq11) (qg_sub (qvN 0 Nq0) Zq4 qset_list))) Zq17))))) Zq17)
 (Zq3 (Zq26 (Zq25 qop_gt (Zq28 Zq27 (qvN 0 Nq0) Zq4 (fun _ _ => rfl)) Zq4 (Zq29 _)) (Zq3 (Zq10 (i := 3) Zq93.nd Nq52 (Zq16 qop_mod (Zq28 Zq27 (qvN 0 Nq0) Zq4 (fun _ _ => rfl)) (qvN 1 Nq28)))
 (Zq3 (qs_asg (Zq16 qop_fdiv (Zq28 Zq27 (qvN 0 Nq0) Zq4 (fun _ _ => rfl)) (qvN 1 Nq28)) (qg_sub (qvN 0 Nq0) Zq4 qset_list))
 (Zq6 (Zq14 (qvN 3 Nq52))))) Zq17)
 (Zq6 (Zq14 (Zq16 qop_mod (Zq16 qop_fdiv (Zq16 qop_mod (Zq16 qop_mul (Zq28 Zq27 (qvN 0 Nq0) Zq4 (fun _ _ => rfl)) Zq4) Zq4) Zq4) (qvN 1 Nq28))))))), ?_⟩
    have fin : ∀ (H1 : Hp) (i' big st cnt d : Int), 0 <= d -> d < b -> SameX s H H1 -> H1 s = some (.lst [.ref la, .int i', .int big, .int st, .int cnt]) -> 0 <= i' -> Q (.int d) H1 := fun H1 i' big st cnt d h0 h1 sx hs1 hi1 =>
      k d H1 h0 h1 ⟨ns, i', big, st, cnt, hs1, sx _ _ hne hla, hi1, hne⟩ sx
    walk_at "rd"
    all_goals refine fin _ _ _ _ _ _ (Int.emod_nonneg _ (by omega)) (Int.emod_lt_of_pos _ hb0) ?_ Zq5 (by omega)
    all_goals repeat (first | exact SameX.refl | refine SameX.trans ?_ SameX.upd)
end
section
variable {P : Program} {w : World} {K : PySem.W.Frag} {mg : Str -> Option Value} {base : Heap}
def spWord : Sp := fun vs H Q _ => ∃ (s la : Addr) (n : Int), vs = [.ref s, .int n] /\ SrcAt H s la /\ 0 <= n /\ n <= 100 /\ ∀ (x : Str) (H' : Hp), (x.length : Int) = n -> Low x -> SrcAt H' s la -> SameX s H H' -> Q (.str x) H'
theorem flat_singles (cl : List Nat) : (List.map cs (cl.map fun c => (⟨#[c]⟩ : Str))).flatten = cl := by
  induction cl with
  | nil => rfl
  | cons c r ih => rw [List.map_cons, List.map_cons, List.flatten_cons, ih]; rfl
abbrev Zq70 : Stmt := top 24
theorem Zq136 : FnScope ["_law_src_here", "_law_many", "_law_letters"] ["_law_src_here", "_law_many"] (Zq0 Zq70) := ⟨rfl, rfl, rfl, by decide +kernel, rfl, by decide +kernel, by decide +kernel⟩
theorem Nq53 : Nm (Zq0 Zq70) "_law_letters" .cell := by decide +kernel
theorem Nq92 : Nm (Zq0 Zq70) "_law_many" .local := by decide +kernel
theorem Nq93 : Nm (Zq0 Zq70) "_law_src_here" .cell := by decide +kernel
theorem Nq94 : Nm (Zq0 Zq70) "range" .globalImplicit := by decide +kernel
theorem Zq168 (Zq124 : Has K mg "_law_word" Zq70) (T : Txt mg) (Zq13 : Fn P w K mg base "_law_next" ["_law_src_here", "_law_base"] 1 Zq103) : Fn P w K mg base "_law_word" ["_law_src_here", "_law_many"] 2 spWord := by
  refine Zq124.fnQ Zq136 (fun _ _ _ _ _ _ us hl => match us, hl with | [_, _], _ => rfl) (fun vs H Q E h => ?_) (fun f cdv A outer s H vs Q E hr h => ?_)
  · obtain ⟨s, la, n, rfl, _⟩ := h
    rfl
  · obtain ⟨s, la, n, rfl, hsrc, hn0, hn1, k⟩ := h
    refine ⟨_, (Zq3 (qs_setNC (i := 2) Zq136.nd Nq53 Zq7)
 (Zq6 (Zq14 (Zq110 F.plainAttrs_str F.slot_str_join F.type_str_join qmt_join Zq7 (Zq1 (Zq68 (locs := ["_law_k"]) (fr := [("_law_src_here", 0), ("_law_letters", 2)]) ⟨rfl, by decide +kernel, by decide +kernel, by decide +kernel, by decide +kernel, by decide +kernel⟩ (.consN Nq93 (.consN Nq53 .nil)) rfl (qi_range1 Nq94.1 T.range (Zq1 (qvN 1 Nq92) Zq2)) ⟨fun _ _ _ _ _ _ => by
    have cnd : (inN ["_law_k"] [("_law_src_here", 0), ("_law_letters", 2)]).Nodup := by decide +kernel
    exact ⟨(qgLN 0 cnd), Zq83, (Zq28 qix_str (qvFN 2) (Zq8 Zq13 (hr.mono (by omega)) nmC (Zq1 (qvFN 1) (Zq1 Zq4 Zq2))) (fun _ _ => rfl))⟩⟩) Zq2))))), ?_⟩
    refine ⟨rfl, _, rfl, n, rfl, by omega, by omega, ?_⟩
    refine comp_range (n := n.toNat) (fun i ys H2 => SrcAt H2 s la /\ SameX s H H2 /\ ∃ cl : List Nat, cl.length = i /\ ys = cl.map (fun c => V.str ⟨#[c]⟩) /\ ∀ c ∈ cl, 97 <= c /\ c <= 122) ⟨hsrc, SameX.refl, [], rfl, rfl, (fun _ z => nomatch z)⟩ (by omega) ?_ ?_ ?_
    · rintro i ys H2 ⟨_, _, cl, h1, rfl, _⟩
      rw [List.length_map]; omega
    · rintro i ys H2 hi ⟨hs2, sx2, cl, h1, rfl, hc⟩ ls hls
      obtain ⟨a, rfl⟩ := len1 hls
      refine ⟨⟨[_], rfl, rfl⟩, ?_⟩
      walk_at "rd"
      refine ⟨s, la, 26, rfl, hs2, by decide, by decide, fun d H3 d0 d1 hs3 sx3 => ?_⟩
      refine ⟨letters, d, _, rfl, rfl, by decide, letters_at d0 d1, hs3, sx2.trans sx3, cl ++ [97 + d.toNat], by rw [List.length_append, h1]; rfl, by rw [List.map_append]; rfl, fun c hc' => ?_⟩
      rcases List.mem_append.mp hc' with z | z
      · exact hc c z
      · have : c = 97 + d.toNat := by simpa using z
        omega
    · rintro ys H2 ⟨hs2, sx2, cl, h1, rfl, hc⟩ l hl
      have e : (cl.map fun c => V.str ⟨#[c]⟩) = (cl.map fun c => (⟨#[c]⟩ : Str)).map V.str := by rw [List.map_map]; rfl
      have sumlen : ∀ l : List Nat, ((l.map fun c => (⟨#[c]⟩ : Str)).map (·.length)).sum = l.length := by
        intro l
        induction l with
        | nil => rfl
        | cons c r ih => rw [List.map_cons, List.map_cons, List.sum_cons, ih, List.length_cons]; show 1 + r.length = _; omega
      refine ⟨_, l, cl.map fun c => (⟨#[c]⟩ : Str), rfl, rfl, SqL.of (by rw [Zq5, e]), ?_, ?_⟩
      · rw [sumlen, List.length_map]
        show cl.length + cl.length * 0 <= 16777216
        omega
      · have ej : cs (Txt.join "" (cl.map fun c => (⟨#[c]⟩ : Str))) = cl := by rw [cs_join0, flat_singles]
        refine k _ _ ?_ (fun c hc' => hc c (by rw [ej] at hc'; exact hc')) (hs2.keep (Same.new hl)) (sx2.trans (SameX.new hl))
        rw [← Zq37, ej, h1]
        omega
end
theorem ph {α : Type} [DecidableEq α] : ∀ (L M : List α), L.Nodup -> (∀ a ∈ L, a ∈ M) -> L.length <= M.length
  | [], _, _, _ => Nat.zero_le _
  | a :: L, M, nd, h => by
    obtain ⟨n1, n2⟩ := List.nodup_cons.mp nd
    have ha := h a List.mem_cons_self
    have := ph L (M.erase a) n2 fun b hb => (List.mem_erase_of_ne (fun (e : b = a) => n1 (by rw [← e]; exact hb))).mpr (h b (List.mem_cons_of_mem _ hb))
    rw [List.length_erase_of_mem ha] at this
    have hp : 0 < M.length := List.length_pos_of_mem ha
    rw [List.length_cons]
    omega
def cand (stem : Str) (j : Nat) : Str := stem ++ ⟨#[97 + j % 26]⟩ ++ ⟨#[97 + j / 26]⟩
theorem cs_cand (stem : Str) (j : Nat) : cs (cand stem j) = cs stem ++ [97 + j % 26, 97 + j / 26] := by
  unfold cand
  rw [Zq56, Zq56]
  simp [cs]
theorem cand_inj {stem : Str} {i j : Nat} (h : cand stem i = cand stem j) : i = j := by
  have e : cs (cand stem i) = cs (cand stem j) := by rw [h]
  rw [cs_cand, cs_cand] at e
  have e2 := List.append_cancel_left e
  injection e2 with e3 e4
  injection e4 with e5 _
  omega
theorem cand_len (stem : Str) (j : Nat) : (cand stem j).length = stem.length + 2 := by
  rw [← Zq37, cs_cand, List.length_append, Zq37]
  rfl
theorem cand_low {stem : Str} {j : Nat} (h : Low stem) (hj : j < 676) : Low (cand stem j) := by
  intro c hc
  rw [cs_cand] at hc
  rcases List.mem_append.mp hc with z | z
  · exact h c z
  · simp at z
    omega
theorem not_all_cands {names : List Str} {stem : Str} (h : ∀ j, j < names.length -> cand stem j ∈ names) : cand stem names.length ∉ names := by
  intro hm
  have nd : ((List.range (names.length + 1)).map (cand stem)).Nodup := by
    rw [List.nodup_iff_pairwise_ne, List.pairwise_map]
    exact List.Pairwise.imp (fun h e => h (cand_inj e)) (List.nodup_iff_pairwise_ne.mp List.nodup_range)
  have := ph _ names nd fun a ha => by
    obtain ⟨j, hj, rfl⟩ := List.mem_map.mp ha
    have hj := List.mem_range.mp hj
    by_cases e : j = names.length
    · rw [e]; exact hm
    · exact h j (by omega)
  rw [List.length_map, List.length_range] at this
  omega
theorem inV_str (x : Str) (names : List Str) : inV (.str x) (names.map V.str) = decide (x ∈ names) := by
  unfold inV
  rw [List.any_map, Bool.eq_iff_iff, List.any_eq_true, decide_eq_true_iff]
  constructor
  · rintro ⟨y, hy, e⟩
    have : y = x := by simpa [eqV] using e
    rw [← this]; exact hy
  · intro h
    exact ⟨x, h, by simp [eqV]⟩
theorem flat_strs (names : List Str) : (names.map V.str).all Zq108 = true := by
  rw [List.all_map, List.all_eq_true]
  intro x _
  rfl
def Zq42 (x : Str) : Prop := Low x /\ 1 <= x.length /\ x.length <= 12
section
variable {P : Program} {w : World} {K : PySem.W.Frag} {mg : Str -> Option Value} {base : Heap}
def spUnlike (K : PySem.W.Frag) : Sp := fun vs H Q _ => ∃ (a : Addr) (names : List Str) (x : Str), vs = [.ref a, .str x] /\ SqL K H a (names.map V.str) /\ names.length <= 600 /\ Zq42 x /\ ∀ y : Str, Zq42 y -> y ∉ names -> Q (.str y) H
abbrev Zq32 : Stmt := top 23
theorem Zq64 : FnScope ["_law_names_here", "_law_name", "_law_letters", "_law_stem", "_law_tries"] ["_law_names_here", "_law_name"] (Zq0 Zq32) := ⟨rfl, rfl, rfl, by decide +kernel, rfl, by decide +kernel, by decide +kernel⟩
theorem Nq29 : Nm (Zq0 Zq32) "_law_letters" .local := by decide +kernel
theorem Nq12 : Nm (Zq0 Zq32) "_law_name" .local := by decide +kernel
theorem Nq54 : Nm (Zq0 Zq32) "_law_names_here" .local := by decide +kernel
theorem Nq55 : Nm (Zq0 Zq32) "_law_stem" .local := by decide +kernel
theorem Nq30 : Nm (Zq0 Zq32) "_law_tries" .local := by decide +kernel
theorem Nq95 : Nm (Zq0 Zq32) "len" .globalImplicit := by decide +kernel
theorem Nq96 : Nm (Zq0 Zq32) "range" .globalImplicit := by decide +kernel
theorem Zq149 (Zq105 : Has K mg "_law_unlike" Zq32) (T : Txt mg) : Fn P w K mg base "_law_unlike" ["_law_names_here", "_law_name"] 1 (spUnlike K) := by
  refine Zq105.fnQ Zq64 (fun _ _ _ _ _ _ us hl => match us, hl with | [_, _], _ => rfl) (fun vs H Q E h => ?_) (fun f cdv A outer s H vs Q E hr h => ?_)
  · obtain ⟨a, names, x, rfl, _⟩ := h
    rfl
  · obtain ⟨a, names, x, rfl, hS, hn, ⟨hx1, hx2, hx3⟩, k⟩ := h
    refine ⟨_, (Zq3 (Zq10 (i := 2) Zq64.nd Nq29 Zq7)
 (Zq3 (Zq10 (i := 3) Zq64.nd Nq55 (Zq53 qsl_str (qvN 1 Nq12) Zq82 (Zq50 Zq4)))
 (Zq3 (Zq100 PassesOwn.never rfl (qi_range1 Nq96.1 T.range (Zq1 (Zq16 Zq55 (Zq11 Zq48 Nq95 T.len Zq88 (Zq1 (qvN 0 Nq54) Zq2)) Zq4) Zq2)) (Zq67 (i := 4) Zq64.nd Nq30)
  (Zq3 (Zq26 (Zq25 qop_notIn_seq (qvN 1 Nq12) (qvN 0 Nq54) rfl) (Zq6 (Zq14 (qvN 1 Nq12))) Zq17)
 (Zq6 (Zq10 (i := 1) Zq64.nd Nq12 (Zq16 Zq46 (Zq16 Zq46 (qvN 3 Nq55) (Zq28 qix_str (qvN 2 Nq29) (Zq16 qop_mod (qvN 4 Nq30) Zq4) (fun _ _ => rfl))) (Zq28 qix_str (qvN 2 Nq29) (Zq16 qop_fdiv (qvN 4 Nq30) Zq4) (fun _ _ => rfl)))))))
 (Zq6 (Zq14 (qvN 1 Nq12)))))), ?_⟩
    have hz : (13 : Nat) <= sizeLine := by decide
    refine ⟨_, rfl, 10, rfl, x, rfl, by omega, ?_⟩
    have hst : cs (Txt.slice x none (some 10)) = (cs x).take 10 := cs_upto x (by decide)
    have hstl : (Txt.slice x none (some 10)).length <= 10 := by rw [← Zq37, hst, List.length_take]; omega
    have hsto : Low (Txt.slice x none (some 10)) := fun c hc => hx1 c (by rw [hst] at hc; exact List.mem_of_mem_take hc)
    show tSeq _ _ _ [some (.ref a), some (.str x), some (.str letters), some (.str (Txt.slice x none (some 10))), none] H
    generalize Txt.slice x none (some 10) = stem at hstl hsto
    refine ⟨_, rfl, a, _, rfl, .inl hS, _, _, rfl, rfl, _, rfl, by omega, by rw [List.length_map]; omega, ?_⟩
    refine forW_range (names.length + 1) (by rw [List.length_map]; omega) (fun i σ H' => H' = H /\ ∃ (cur : Str) (v : Option V), σ = [some (.ref a), some (.str cur), some (.str letters), some (.str stem), v] /\ Zq42 cur /\ (i = 0 \/ cur = cand stem (i - 1)) /\ ∀ j, j + 1 < i -> cand stem j ∈ names)
      ⟨rfl, x, none, rfl, ⟨hx1, hx2, hx3⟩, .inl rfl, fun j hj => by omega⟩ ?_ ?_
    · rintro i σ H' hi ⟨rfl, cur, v, rfl, hc, hci, hal⟩
      refine ⟨_, rfl, _, rfl, a, _, rfl, .inl hS, rfl, flat_strs names, _, rfl, ?_⟩
      rw [inV_str]
      refine Zq81 (fun hnin => ?_) (fun hin => ?_)
      · exact ⟨_, rfl, k cur hc hnin⟩
      · have hi' : i <= 600 := by omega
        refine ⟨_, rfl, _, rfl, _, rfl, _, _, rfl, rfl, by show (0 : Int) < 26; decide, letters, _, _, rfl, rfl, by decide, letters_at (Int.emod_nonneg _ (by decide)) (Int.emod_lt_of_pos _ (by decide)), stem, _, rfl, rfl, ?_, ?_⟩
        · show stem.length + 1 <= sizeLine
          omega
        refine ⟨_, rfl, _, rfl, _, _, rfl, rfl, ⟨by decide, by decide⟩, letters, _, _, rfl, rfl, by decide, letters_at (Int.ediv_nonneg (by omega) (by decide)) (by omega), _, _, rfl, rfl, ?_, ?_⟩
        · show (stem ++ _).length + 1 <= sizeLine
          rw [PySem.Str.length_append]
          show stem.length + 1 + 1 <= sizeLine
          omega
        have e1 : ((0 : Int) + (i : Nat)) % 26 = ((i % 26 : Nat) : Int) := by omega
        have e2 : ((0 : Int) + (i : Nat)) / 26 = ((i / 26 : Nat) : Int) := by omega
        refine ⟨rfl, cand stem i, some (.int (0 + (i : Nat))), ?_, ⟨cand_low hsto (by omega), by rw [cand_len]; omega, by rw [cand_len]; omega⟩, .inr rfl, fun j hj => ?_⟩
        · show [some (V.ref a), some (V.str _), some (V.str letters), some (V.str stem), some (V.int _)] = _
          unfold cand
          rw [e1, e2]
          rfl
        · by_cases e : j + 1 = i
          · rcases hci with z | z
            · omega
            · have : j = i - 1 := by omega
              rw [this, ← z]; exact hin
          · exact hal j (by omega)
    · rintro σ H' ⟨rfl, cur, v, rfl, hc, hci, hal⟩
      refine ⟨_, rfl, k cur hc ?_⟩
      rcases hci with z | z
      · omega
      · rw [z]
        exact not_all_cands fun j hj => hal j (by omega)
def spNames : Sp := fun vs H Q _ => ∃ (s la : Addr) (n : Int), vs = [.ref s, .int n] /\ SrcAt H s la /\ 0 <= n /\ n <= 100 /\
  ∀ (l : Addr) (names : List Str) (H' : Hp), (names.length : Int) = n -> names.Nodup -> (∀ x ∈ names, Zq42 x) -> H l = none -> H' l = some (.lst (names.map V.str)) -> SrcAt H' s la -> SameX s H H' -> Q (.ref l) H'
abbrev Zq21 : Stmt := top 25
theorem Zq34 : FnScope ["_law_src_here", "_law_many", "_law_style", "_law_stem", "_law_at", "_law_names_here", "_law_k", "_law_name"] ["_law_src_here", "_law_many"] (Zq0 Zq21) := ⟨rfl, rfl, rfl, by decide +kernel, rfl, by decide +kernel, by decide +kernel⟩
theorem Nq31 : Nm (Zq0 Zq21) "_law_at" .local := by decide +kernel
theorem Nq97 : Nm (Zq0 Zq21) "_law_k" .local := by decide +kernel
theorem Nq98 : Nm (Zq0 Zq21) "_law_many" .local := by decide +kernel
theorem Nq18 : Nm (Zq0 Zq21) "_law_name" .local := by decide +kernel
theorem Nq19 : Nm (Zq0 Zq21) "_law_names_here" .local := by decide +kernel
theorem Nq13 : Nm (Zq0 Zq21) "_law_next" .globalImplicit := by decide +kernel
theorem Nq4 : Nm (Zq0 Zq21) "_law_src_here" .local := by decide +kernel
theorem Nq8 : Nm (Zq0 Zq21) "_law_stem" .local := by decide +kernel
theorem Nq32 : Nm (Zq0 Zq21) "_law_style" .local := by decide +kernel
theorem Nq99 : Nm (Zq0 Zq21) "_law_unlike" .globalImplicit := by decide +kernel
theorem Nq33 : Nm (Zq0 Zq21) "_law_word" .globalImplicit := by decide +kernel
theorem Nq56 : Nm (Zq0 Zq21) "len" .globalImplicit := by decide +kernel
theorem Nq100 : Nm (Zq0 Zq21) "range" .globalImplicit := by decide +kernel
theorem Zq158 (Zq116 : Has K mg "_law_names" Zq21) (T : Txt mg) (Zq13 : Fn P w K mg base "_law_next" ["_law_src_here", "_law_base"] 1 Zq103) (Zq125 : Fn P w K mg base "_law_word" ["_law_src_here", "_law_many"] 2 spWord)
    (Zq150 : Fn P w K mg base "_law_unlike" ["_law_names_here", "_law_name"] 1 (spUnlike K)) : Fn P w K mg base "_law_names" ["_law_src_here", "_law_many"] 3 spNames := by
  refine Zq116.fnQ Zq34 (fun _ _ _ _ _ _ us hl => match us, hl with | [_, _], _ => rfl) (fun vs H Q E h => ?_) (fun f cdv A outer s H vs Q E hr h => ?_)
  · obtain ⟨s, la, n, rfl, _⟩ := h
    rfl
  · obtain ⟨s, la, n, rfl, hsrc, hn0, hn1, k⟩ := h
    refine ⟨_, (Zq3 (Zq10 (i := 2) Zq34.nd Nq32 (Zq8 Zq13 (hr.mono (by omega)) Nq13 (Zq1 (qvN 0 Nq4) (Zq1 Zq4 Zq2))))
 (Zq3 (Zq10 (i := 3) Zq34.nd Nq8 (Zq8 Zq125 (hr.mono (by omega)) Nq33 (Zq1 (qvN 0 Nq4) (Zq1 (Zq16 Zq55 Zq4 (Zq8 Zq13 (hr.mono (by omega)) Nq13 (Zq1 (qvN 0 Nq4) (Zq1 Zq4 Zq2)))) Zq2))))
 (Zq3 (Zq10 (i := 4) Zq34.nd Nq31 (Zq8 Zq13 (hr.mono (by omega)) Nq13 (Zq1 (qvN 0 Nq4) (Zq1 (Zq11 qcall_len_str Nq56 T.len Zq88 (Zq1 (qvN 3 Nq8) Zq2)) Zq2))))
 (Zq3 (Zq10 (i := 5) Zq34.nd Nq19 (Zq71 Zq2))
 (Zq3 (Zq100 PassesOwn.never rfl (qi_range1 Nq100.1 T.range (Zq1 (qvN 1 Nq98) Zq2)) (Zq67 (i := 6) Zq34.nd Nq97)
  (Zq3 (Zq10 (i := 7) Zq34.nd Nq18 (Zq16 Zq46 (Zq16 Zq46 (Zq53 qsl_str (qvN 3 Nq8) Zq82 (Zq50 (qvN 4 Nq31))) (Zq8 Zq125 (hr.mono (by omega)) Nq33 (Zq1 (qvN 0 Nq4) (Zq1 Zq4 Zq2)))) (Zq53 qsl_str (qvN 3 Nq8) (Zq50 (Zq16 Zq55 (qvN 4 Nq31) Zq4)) Zq82)))
 (Zq3 (Zq26 (Zq25 Zq72 (qvN 2 Nq32) Zq4 (Zq29 _)) (Zq6 (Zq10 (i := 7) Zq34.nd Nq18 (Zq53 qsl_str (qvN 3 Nq8) Zq82 (Zq50 (Zq16 Zq55 Zq4 (Zq8 Zq13 (hr.mono (by omega)) Nq13 (Zq1 (qvN 0 Nq4) (Zq1 (Zq11 qcall_len_str Nq56 T.len Zq88 (Zq1 (qvN 3 Nq8) Zq2)) Zq2)))))))) Zq17)
 (Zq3 (Zq26 (Zq25 Zq72 (qvN 2 Nq32) Zq4 (Zq29 _)) (Zq6 (Zq10 (i := 7) Zq34.nd Nq18 (Zq8 Zq125 (hr.mono (by omega)) Nq33 (Zq1 (qvN 0 Nq4) (Zq1 (Zq16 Zq55 Zq4 (Zq8 Zq13 (hr.mono (by omega)) Nq13 (Zq1 (qvN 0 Nq4) (Zq1 Zq4 Zq2)))) Zq2))))) Zq17)
 (Zq6 (qs_expr (Zq110 F.plainAttrs_list F.slot_list_append F.type_list_append qmt_append (qvN 5 Nq19) (Zq1 (Zq8 Zq150 (hr.mono (by omega)) Nq99 (Zq1 (qvN 5 Nq19) (Zq1 (qvN 7 Nq18) Zq2))) Zq2))))))))
 (Zq6 (Zq14 (qvN 5 Nq19)))))))), ?_⟩
    have hz : (200 : Nat) <= sizeLine := by decide
    refine ⟨_, rfl, s, la, 3, rfl, hsrc, by decide, by decide, fun style H1 st0 st1 hs1 sx1 => ?_⟩
    refine ⟨_, rfl, _, rfl, s, la, 11, rfl, hs1, by decide, by decide, fun d1 H2 d10 d11 hs2 sx2 => ?_⟩
    refine ⟨_, _, rfl, rfl, s, la, _, rfl, hs2, by omega, by omega, fun stem H3 hl3 hlow3 hs3 sx3 => ?_⟩
    refine ⟨_, rfl, _, rfl, stem, rfl, by omega, s, la, _, rfl, hs3, by omega, by omega, fun at_ H4 at0 at1 hs4 sx4 => ?_⟩
    refine ⟨by show 0 <= sizeLine; omega, fun l hl4 => ?_⟩
    have sx : SameX s H H4 := ((sx1.trans sx2).trans sx3).trans sx4
    obtain ⟨nls, nlla⟩ := hs4.ne hl4
    have hlH : H l = none := by
      cases e : H l with
      | none => rfl
      | some o => exact absurd (sx l o nls e) (by rw [hl4]; simp)
    refine ⟨_, rfl, n, rfl, by omega, by omega, ?_⟩
    show Zq130 _ _ _ _ [some (.ref s), some (.int n), some (.int style), some (.str stem), some (.int at_), some (.ref l), none, none] (upd H4 l (.lst []))
    have mkn : ∀ x : Str, Low x -> 1 <= x.length -> x.length <= 12 -> Zq42 x := fun x a b c => ⟨a, b, c⟩
    refine forW_range n.toNat rfl (fun i σ H' => ∃ (names : List Str) (v1 v2 : Option V), σ = [some (.ref s), some (.int n), some (.int style), some (.str stem), some (.int at_), some (.ref l), v1, v2] /\ names.length = i /\ names.Nodup /\ (∀ x ∈ names, Zq42 x) /\ H' l = some (.lst (names.map V.str)) /\ SrcAt H' s la /\ SameX s H H')
      ⟨[], none, none, rfl, rfl, List.nodup_nil, (fun _ z => nomatch z), Zq5, hs4.keep (Same.new hl4), sx.trans (SameX.new hl4)⟩ ?_ ?_
    · rintro i σ H5 hi ⟨names, v1, v2, rfl, hlen, hnd, hall, hl5, hs5, sx5⟩
      have e1 : cs (Txt.slice stem none (some at_)) = (cs stem).take at_.toNat := cs_upto stem at0
      have e2 : cs (Txt.slice stem (some (at_ + 1)) none) = (cs stem).drop (at_ + 1).toNat := cs_from stem (by omega)
      have l1 : (Txt.slice stem none (some at_)).length <= 11 := by rw [← Zq37, e1, List.length_take, Zq37]; omega
      have l2 : (Txt.slice stem (some (at_ + 1)) none).length + (at_ + 1).toNat = stem.length := by rw [← Zq37, e2, List.length_drop, Zq37]; omega
      have l1' : (Txt.slice stem none (some at_)).length = at_.toNat := by rw [← Zq37, e1, List.length_take, Zq37]; omega
      refine ⟨_, rfl, _, rfl, at_, rfl, stem, rfl, by omega, _, rfl, s, la, 1, rfl, hs5, by decide, by decide, fun x1 H6 hx1 hlow1 hs6 sx6 => ?_⟩
      have hl6 : H6 l = some (.lst (names.map V.str)) := sx6 l _ nls hl5
      refine ⟨_, _, rfl, rfl, by omega, ?_⟩
      refine ⟨_, rfl, _, rfl, _, _, rfl, rfl, _, rfl, stem, rfl, by omega, ?_⟩
      have l3 : (Txt.slice stem none (some at_) ++ x1).length = at_.toNat + 1 := by rw [PySem.Str.length_append, l1']; omega
      refine ⟨_, _, rfl, rfl, by rw [l3]; omega, ?_⟩
      have hname : Zq42 (Txt.slice stem none (some at_) ++ x1 ++ Txt.slice stem (some (at_ + 1)) none) := by
        refine mkn _ (fun c hc => ?_) ?_ ?_
        · rw [Zq56, Zq56, e1, e2] at hc
          rcases List.mem_append.mp hc with hc | hc
          · rcases List.mem_append.mp hc with hc | hc
            · exact hlow3 c (List.mem_of_mem_take hc)
            · exact hlow1 c hc
          · exact hlow3 c (List.mem_of_mem_drop hc)
        · rw [PySem.Str.length_append, l3]; omega
        · rw [PySem.Str.length_append, l3]; omega
      generalize Txt.slice stem none (some at_) ++ x1 ++ Txt.slice stem (some (at_ + 1)) none = nm0 at hname
      show tSeq _ _ _ [some (.ref s), some (.int n), some (.int style), some (.str stem), some (.int at_), some (.ref l), some (.int (0 + (i : Nat))), some (.str nm0)] H6
      have app : ∀ (D : Ends), (∀ σ H', (∃ (names : List Str) (v1 v2 : Option V), σ = [some (.ref s), some (.int n), some (.int style), some (.str stem), some (.int at_), some (.ref l), v1, v2] /\ names.length = i + 1 /\ names.Nodup /\ (∀ x ∈ names, Zq42 x) /\ H' l = some (.lst (names.map V.str)) /\ SrcAt H' s la /\ SameX s H H') -> D.nx σ H') ->
          ∀ (x : Str) (H6 : Hp), Zq42 x -> H6 l = some (.lst (names.map V.str)) -> SrcAt H6 s la -> SameX s H H6 ->
          tDrop (tBM K "list" rAppend (tVar 5) (Zq87 (tFn (spUnlike K) (Zq87 (tVar 5) (Zq87 (tVar 7) tNil))) tNil)) D
            [some (.ref s), some (.int n), some (.int style), some (.str stem), some (.int at_), some (.ref l), some (.int (0 + (i : Nat))), some (.str x)] H6 := by
        intro D hD x H6 hx hl6 hs6 sx6
        refine ⟨_, rfl, .inl ⟨rfl, _, SqL.of hl6⟩, _, rfl, _, rfl, l, names, x, rfl, SqL.of hl6, by omega, hx, fun y hy hny => ?_⟩
        refine ⟨l, _, _, rfl, rfl, hl6, by rw [List.length_map]; omega, hD _ _ ⟨names ++ [y], _, _, rfl, by rw [List.length_append, hlen]; rfl, nd_snoc hnd hny, fun z hz => ?_, ?_, ?_, ?_⟩⟩
        · rcases List.mem_append.mp hz with q | q
          · exact hall z q
          · have : z = y := by simpa using q
            rw [this]; exact hy
        · rw [Zq5, List.map_append]; rfl
        · exact hs6.keepX SameX.upd nls nlla
        · intro b o hb e
          have : b ≠ l := fun z => by rw [z, hlH] at e; cases e
          rw [Zq9 this]
          exact sx6 b o hb e
      have step2 : ∀ (D : Ends), (∀ σ H', (∃ (names : List Str) (v1 v2 : Option V), σ = [some (.ref s), some (.int n), some (.int style), some (.str stem), some (.int at_), some (.ref l), v1, v2] /\ names.length = i + 1 /\ names.Nodup /\ (∀ x ∈ names, Zq42 x) /\ H' l = some (.lst (names.map V.str)) /\ SrcAt H' s la /\ SameX s H H') -> D.nx σ H') ->
          ∀ (x : Str) (H6 : Hp), Zq42 x -> H6 l = some (.lst (names.map V.str)) -> SrcAt H6 s la -> SameX s H H6 ->
          tSeq (tIfS (tTest (tOp rEq (tVar 2) (tC (.int 2)))) (tAsg (tFn spWord (Zq87 (tVar 0) (Zq87 (tOp (rI0 fun i j => .int (i + j)) (tC (.int 1)) (tFn Zq103 (Zq87 (tVar 0) (Zq87 (tC (.int 12)) tNil)))) tNil))) (Zq78 7)) Zq40)
            (tDrop (tBM K "list" rAppend (tVar 5) (Zq87 (tFn (spUnlike K) (Zq87 (tVar 5) (Zq87 (tVar 7) tNil))) tNil))) D
            [some (.ref s), some (.int n), some (.int style), some (.str stem), some (.int at_), some (.ref l), some (.int (0 + (i : Nat))), some (.str x)] H6 := by
        intro D hD x H6 hx hl6 hs6 sx6
        refine ⟨_, rfl, rfl, _, rfl, iteD (fun _ => ?_) (fun _ => ?_)⟩
        · refine ⟨_, rfl, _, rfl, s, la, 12, rfl, hs6, by decide, by decide, fun d H7 d0 d1 hs7 sx7 => ?_⟩
          refine ⟨_, _, rfl, rfl, s, la, _, rfl, hs7, by omega, by omega, fun y H8 hy1 hy2 hs8 sx8 => ?_⟩
          exact app D hD y H8 ⟨hy2, by omega, by omega⟩ (sx8 l _ nls (sx7 l _ nls hl6)) hs8 ((sx6.trans sx7).trans sx8)
        · exact app D hD x H6 hx hl6 hs6 sx6
      refine ⟨_, rfl, rfl, _, rfl, iteD (fun _ => ?_) (fun _ => ?_)⟩
      · refine ⟨_, rfl, _, rfl, _, rfl, stem, rfl, by omega, s, la, _, rfl, hs6, by omega, by omega, fun d H7 d0 d1 hs7 sx7 => ?_⟩
        refine ⟨_, _, rfl, rfl, _, rfl, stem, rfl, by omega, ?_⟩
        have e3 : cs (Txt.slice stem none (some (1 + d))) = (cs stem).take (1 + d).toNat := cs_upto stem (by omega)
        refine step2 _ (fun σ H' h => h) _ H7 ⟨fun c hc => hlow3 c (by rw [e3] at hc; exact List.mem_of_mem_take hc), ?_, ?_⟩ (sx7 l _ nls hl6) hs7 ((sx5.trans sx6).trans sx7)
        · rw [← Zq37, e3, List.length_take, Zq37]; omega
        · rw [← Zq37, e3, List.length_take, Zq37]; omega
      · exact step2 _ (fun σ H' h => h) nm0 H6 hname hl6 hs6 (sx5.trans sx6)
    · rintro σ H5 ⟨names, v1, v2, rfl, hlen, hnd, hall, hl5, hs5, sx5⟩
      exact ⟨_, rfl, k l names H5 (by omega) hnd hall hlH hl5 hs5 sx5⟩
end
section
variable {P : Program} {w : World} {K : PySem.W.Frag} {mg : Str -> Option Value} {base : Heap}
def okc (c : Nat) : Bool := decide (97 <= c) && decide (c <= 122)
def Zq84 (x : Str) : Bool := (decide (1 <= x.length) && decide (x.length <= 12)) && (cs x).all okc
theorem isNameB_of {x : Str} (h : Zq42 x) : Zq84 x = true := by
  obtain ⟨h1, h2, h3⟩ := h
  unfold Zq84
  rw [decide_eq_true h2, decide_eq_true h3, Bool.true_and, Bool.true_and, List.all_eq_true]
  intro c hc
  obtain ⟨a, b⟩ := h1 c hc
  unfold okc
  rw [decide_eq_true a, decide_eq_true b]
  rfl
def spIsName : Sp := fun vs H Q _ => ∃ x : Str, vs = [.str x] /\ x.length <= 1000 /\ ∀ H', Same H H' -> Q (.bl (Zq84 x)) H'
theorem Zq104 {x : Str} {i : Nat} (hi : i < x.length) : (cs x)[i]? = some (x.cps.getD i 0) := by
  unfold cs
  have : i < x.cps.size := hi
  rw [Array.getD_eq_getD_getElem?, Array.getElem?_eq_getElem this, Array.getElem?_toList, Array.getElem?_eq_getElem this]
  rfl
theorem leA (c : Nat) : (!decide ((⟨#[c]⟩ : Str).cps.toList < ("a" : Str).cps.toList)) = decide (97 <= c) := by
  have e : ("a" : Str).cps.toList = [97] := by decide +kernel
  rw [e]
  show (!decide (([c] : List Nat) < [97])) = _
  rw [Bool.eq_iff_iff, Bool.not_eq_true', decide_eq_false_iff_not, decide_eq_true_iff, one_lt_one]
  omega
theorem leZ (c : Nat) : (!decide (("z" : Str).cps.toList < (⟨#[c]⟩ : Str).cps.toList)) = decide (c <= 122) := by
  have e : ("z" : Str).cps.toList = [122] := by decide +kernel
  rw [e]
  show (!decide (([122] : List Nat) < [c])) = _
  rw [Bool.eq_iff_iff, Bool.not_eq_true', decide_eq_false_iff_not, decide_eq_true_iff, one_lt_one]
  omega
theorem take_map_snoc {α β : Type} {l : List α} {i : Nat} {a : α} (f : α -> β) (h : l[i]? = some a) : (l.take (i + 1)).map f = (l.take i).map f ++ [f a] := by
  rw [List.take_add_one, h, List.map_append]
  rfl
abbrev Zq75 : Stmt := top 6
theorem Zq177 : FnScope ["text"] ["text"] (Zq0 Zq75) := ⟨rfl, rfl, rfl, by decide +kernel, rfl, by decide +kernel, by decide +kernel⟩
theorem Nq101 : Nm (Zq0 Zq75) "LONGEST_NAME" .globalImplicit := by decide +kernel
theorem Nq102 : Nm (Zq0 Zq75) "all" .globalImplicit := by decide +kernel
theorem Nq103 : Nm (Zq0 Zq75) "len" .globalImplicit := by decide +kernel
theorem Nq57 : Nm (Zq0 Zq75) "text" .local := by decide +kernel
theorem Zq181 (Zq137 : Has K mg "is_name" Zq75) (T : Txt mg) (hL : ∃ t, mg "LONGEST_NAME" = some (.int 12 t)) : Fn P w K mg base "is_name" ["text"] 1 spIsName := by
  obtain ⟨tL, c_LONGEST_NAME⟩ := hL
  have r_LONGEST_NAME : RelV (.int 12) (.int 12 tL) := ⟨tL, rfl⟩
  refine Zq137.fnQ Zq177 (fun _ _ _ _ _ _ us hl => match us, hl with | [_], _ => rfl) (fun vs H Q E h => ?_) (fun f cdv A outer s H vs Q E hr h => ?_)
  · obtain ⟨x, rfl, _⟩ := h
    rfl
  · obtain ⟨x, rfl, hx, k⟩ := h
    refine ⟨_, (Zq6 (Zq14 (qe_and (qe_chain qop_le qop_le Zq4 (Zq11 qcall_len_str Nq103 T.len Zq88 (Zq1 (qvN 0 Nq57) Zq2)) (Zq89 Nq101 c_LONGEST_NAME r_LONGEST_NAME)) (qe_one (Zq11 (qcall_all (by rfl)) Nq102 T.all b_all (Zq1 (Zq68 (locs := ["sign"]) (fr := []) ⟨rfl, by decide +kernel, by decide +kernel, by decide +kernel, by decide +kernel, by decide +kernel⟩ .nil rfl (qi_str (qvN 0 Nq57)) ⟨fun _ _ _ _ _ _ => by
    have cnd : (inN ["sign"] []).Nodup := by decide +kernel
    exact ⟨(qgLN 0 cnd), Zq83, (qe_chain qop_le_str qop_le_str Zq7 (qvLN 0) Zq7)⟩⟩) Zq2)))))), ?_⟩
    have hz : (1000 : Nat) <= sizeLine := by decide
    refine ⟨_, rfl, x, rfl, by omega, _, _, rfl, rfl, _, rfl, iteD (fun h1 => ?_) (fun h1 => ?_)⟩
    · refine ⟨_, _, rfl, rfl, _, rfl, iteD (fun h2 => ?_) (fun h2 => ?_)⟩
      · refine ⟨_, rfl, x, rfl, ?_⟩
        refine comp_str (fun i ys H' => H' = H /\ ys = ((cs x).take i).map fun c => V.bl (okc c)) ⟨rfl, rfl⟩ (by omega) ?_ ?_ ?_
        · rintro i ys H' ⟨_, rfl⟩
          rw [List.length_map, List.length_take]; omega
        · rintro i ys H' hi ⟨rfl, rfl⟩ ls hls
          obtain ⟨a, rfl⟩ := len1 hls
          refine ⟨⟨[_], rfl, rfl⟩, iteT ?_⟩
          refine ⟨_, rfl, _, _, rfl, rfl, _, rfl, ?_⟩
          rw [leA]
          refine iteD (fun h3 => ?_) (fun h3 => ?_)
          · refine ⟨_, _, rfl, rfl, rfl, ?_⟩
            dsimp only
            rw [leZ, take_map_snoc _ (Zq104 hi)]
            unfold okc
            rw [decide_eq_true h3, Bool.true_and]
          · refine ⟨rfl, ?_⟩
            rw [take_map_snoc _ (Zq104 hi)]
            unfold okc
            rw [decide_eq_false h3, Bool.false_and]
        · rintro ys H' ⟨rfl, rfl⟩ l hl
          refine ⟨l, (cs x).map okc, rfl, SqL.of (by rw [Zq5, ← Zq37, List.take_length, List.map_map]; rfl), ?_⟩
          have e : ((cs x).map okc).all id = Zq84 x := by
            unfold Zq84
            rw [List.all_map, decide_eq_true (show 1 <= x.length by omega), decide_eq_true (show x.length <= 12 by omega)]
            rfl
          rw [e]
          exact k _ (Same.new hl)
      · refine (?_ : Q (.bl false) H)
        have e : Zq84 x = false := by
          unfold Zq84
          rw [decide_eq_false (show ¬ x.length <= 12 by omega), Bool.and_false, Bool.false_and]
        rw [← e]
        exact k H (Same.refl _)
    · refine ⟨_, rfl, iteF ?_⟩
      have e : Zq84 x = false := by
        unfold Zq84
        rw [decide_eq_false (show ¬ 1 <= x.length by omega), Bool.false_and, Bool.false_and]
      rw [← e]
      exact k H (Same.refl _)
end
section
def num (i : Int) : Str := Str.ofString (toString i)
theorem num_cs (m : Nat) : cs (num (m : Int)) = (Nat.toDigits 10 m).map Char.toNat := PySem.W.KIN.signs_num m
theorem dig_toNat : ∀ d : Nat, d < 10 -> (Nat.digitChar d).toNat = 48 + d := by decide
theorem dig_all (m : Nat) : ∀ c ∈ (Nat.toDigits 10 m).map Char.toNat, 48 <= c /\ c <= 57 := by
  induction m using Nat.strongRecOn with
  | _ m ih =>
    rw [Nat.toDigits_eq_if (by decide)]
    split
    · rename_i h
      intro c hc
      have e := dig_toNat m h
      rw [List.map_cons, List.map_nil, List.mem_singleton] at hc
      omega
    · rename_i h
      intro c hc
      rw [List.map_append] at hc
      rcases List.mem_append.mp hc with z | z
      · exact ih (m / 10) (by omega) c z
      · have e := dig_toNat (m % 10) (Nat.mod_lt _ (by decide))
        rw [List.map_cons, List.map_nil, List.mem_singleton] at z
        omega
theorem dig_head (m : Nat) (hm : 0 < m) : ∃ c r, (Nat.toDigits 10 m).map Char.toNat = c :: r /\ 49 <= c := by
  induction m using Nat.strongRecOn with
  | _ m ih =>
    rw [Nat.toDigits_eq_if (by decide)]
    split
    · rename_i h
      exact ⟨_, [], rfl, by have := dig_toNat m h; omega⟩
    · obtain ⟨c, r, e, hc⟩ := ih (m / 10) (by omega) (by omega)
      rw [List.map_append, e]
      exact ⟨c, _, rfl, hc⟩
def isNo (i : Int) : Prop := 0 <= i /\ i <= 999999999
structure NumOk (x : Str) : Prop where
  l1 : 1 <= x.length
  l9 : x.length <= 9
  all : ∀ c ∈ cs x, 48 <= c /\ c <= 57
  zero : x = "0" \/ x.cps.getD 0 0 ≠ 48
theorem num_ok {i : Int} (h : isNo i) : NumOk (num i) := by
  obtain ⟨m, rfl⟩ := Int.eq_ofNat_of_zero_le h.1
  have hl : (num (m : Int)).length = (Nat.toDigits 10 m).length := by rw [← Zq37, num_cs, List.length_map]
  have h1 : 0 < (Nat.toDigits 10 m).length := Nat.length_toDigits_pos
  have h9 : (Nat.toDigits 10 m).length <= 9 := (Nat.length_toDigits_le_iff (by decide) (by decide)).mpr (by have := h.2; omega)
  refine ⟨by omega, by omega, fun c hc => dig_all m c (by rw [← num_cs]; exact hc), ?_⟩
  by_cases z : m = 0
  · subst z; exact .inl (by decide +kernel)
  · obtain ⟨c, r, e, hc⟩ := dig_head m (by omega)
    refine .inr fun z => ?_
    have hs : (cs (num (m : Int)))[0]? = some ((num (m : Int)).cps.getD 0 0) := Zq104 (by omega)
    rw [num_cs, e, z] at hs
    have : c = 48 := by simpa using hs
    omega
theorem num_back {i : Int} (h : isNo i) : PySem.intText? (num i) = some i := PySem.W.KIN.num_reads h.1 (by have := h.2; omega)
theorem num_small {i : Int} (h : isNo i) : i.natAbs.log2 < 1920 := by
  by_cases z : i.natAbs = 0
  · rw [z]; decide +kernel
  · rw [Nat.log2_lt z]
    have := h.2
    have := h.1
    exact Nat.lt_of_lt_of_le (show i.natAbs < 1000000000 by omega) (by decide +kernel)
end
section
variable {P : Program} {w : World} {K : PySem.W.Frag} {mg : Str -> Option Value} {base : Heap}
theorem le0 (c : Nat) : (!decide ((⟨#[c]⟩ : Str).cps.toList < ("0" : Str).cps.toList)) = decide (48 <= c) := by
  have e : ("0" : Str).cps.toList = [48] := by decide +kernel
  rw [e]
  show (!decide (([c] : List Nat) < [48])) = _
  rw [Bool.eq_iff_iff, Bool.not_eq_true', decide_eq_false_iff_not, decide_eq_true_iff, one_lt_one]
  omega
theorem le9 (c : Nat) : (!decide (("9" : Str).cps.toList < (⟨#[c]⟩ : Str).cps.toList)) = decide (c <= 57) := by
  have e : ("9" : Str).cps.toList = [57] := by decide +kernel
  rw [e]
  show (!decide (([57] : List Nat) < [c])) = _
  rw [Bool.eq_iff_iff, Bool.not_eq_true', decide_eq_false_iff_not, decide_eq_true_iff, one_lt_one]
  omega
def spIsNum : Sp := fun vs H Q _ => ∃ x : Str, vs = [.str x] /\ NumOk x /\ ∀ H', Same H H' -> Q (.bl true) H'
abbrev Zq63 : Stmt := top 17
theorem Zq159 : FnScope ["word"] ["word"] (Zq0 Zq63) := ⟨rfl, rfl, rfl, by decide +kernel, rfl, by decide +kernel, by decide +kernel⟩
theorem Nq104 : Nm (Zq0 Zq63) "MOST_FIGURES" .globalImplicit := by decide +kernel
theorem Nq105 : Nm (Zq0 Zq63) "all" .globalImplicit := by decide +kernel
theorem Nq106 : Nm (Zq0 Zq63) "len" .globalImplicit := by decide +kernel
theorem Nq20 : Nm (Zq0 Zq63) "word" .local := by decide +kernel
theorem Zq169 (Zq126 : Has K mg "is_number" Zq63) (T : Txt mg) (hL : ∃ t, mg "MOST_FIGURES" = some (.int 9 t)) : Fn P w K mg base "is_number" ["word"] 1 spIsNum := by
  obtain ⟨tL, c_MOST_FIGURES⟩ := hL
  have r_MOST_FIGURES : RelV (.int 9) (.int 9 tL) := ⟨tL, rfl⟩
  refine Zq126.fnQ Zq159 (fun _ _ _ _ _ _ us hl => match us, hl with | [_], _ => rfl) (fun vs H Q E h => ?_) (fun f cdv A outer s H vs Q E hr h => ?_)
  · obtain ⟨x, rfl, _⟩ := h
    rfl
  · obtain ⟨x, rfl, hx, k⟩ := h
    refine ⟨_, (Zq3 (Zq26 (QW.pt (qw_or (Zq101 (qt_chain qop_le qop_le Zq4 (Zq11 qcall_len_str Nq106 T.len Zq88 (Zq1 (qvN 0 Nq20) Zq2)) (Zq89 Nq104 c_MOST_FIGURES r_MOST_FIGURES))) (qw_or1 (Zq101 (Zq52 (Zq11 (qcall_all (by rfl)) Nq105 T.all b_all (Zq1 (Zq68 (locs := ["sign"]) (fr := []) ⟨rfl, by decide +kernel, by decide +kernel, by decide +kernel, by decide +kernel, by decide +kernel⟩ .nil rfl (qi_str (qvN 0 Nq20)) ⟨fun _ _ _ _ _ _ => by
    have cnd : (inN ["sign"] []).Nodup := by decide +kernel
    exact ⟨(qgLN 0 cnd), Zq83, (qe_chain qop_le_str qop_le_str Zq7 (qvLN 0) Zq7)⟩⟩) Zq2))))))) (Zq6 (Zq14 Zq109)) Zq17)
 (Zq6 (Zq14 (qe_or (qe_cmpR Zq72 (qvN 0 Nq20) Zq7 (Zq29 _)) (qe_one (qe_cmpR qop_ne (Zq28 qix_str (qvN 0 Nq20) Zq4 (fun _ _ => rfl)) Zq7 (Zq29 _))))))), ?_⟩
    have hz : (1000 : Nat) <= sizeLine := by decide
    obtain ⟨h1, h9, hall, h0⟩ := hx
    refine ⟨_, rfl, x, rfl, by omega, _, _, rfl, rfl, _, rfl, iteD (fun _ => ?_) (fun z => absurd (show (1 : Int) <= x.length by omega) z)⟩
    refine ⟨_, _, rfl, rfl, _, rfl, Zq81 (fun z => absurd (show (x.length : Int) <= 9 by omega) z) (fun _ => ?_)⟩
    refine ⟨_, rfl, x, rfl, ?_⟩
    refine comp_str (fun i ys H' => H' = H /\ ys = ((cs x).take i).map fun _ => V.bl true) ⟨rfl, rfl⟩ (by omega) ?_ ?_ ?_
    · rintro i ys H' ⟨_, rfl⟩
      rw [List.length_map, List.length_take]; omega
    · rintro i ys H' hi ⟨rfl, rfl⟩ ls hls
      obtain ⟨a, rfl⟩ := len1 hls
      have hc := hall _ (List.mem_of_getElem? (Zq104 hi))
      refine ⟨⟨[_], rfl, rfl⟩, iteT ?_⟩
      refine ⟨_, rfl, _, _, rfl, rfl, _, rfl, ?_⟩
      rw [le0, decide_eq_true hc.1]
      refine iteT ?_
      refine ⟨_, _, rfl, rfl, rfl, ?_⟩
      dsimp only
      rw [le9, decide_eq_true hc.2, take_map_snoc _ (Zq104 hi)]
    · rintro ys H' ⟨rfl, rfl⟩ l hl
      refine ⟨l, (cs x).map fun _ => true, rfl, SqL.of (by rw [Zq5, ← Zq37, List.take_length, List.map_map]; rfl), ?_⟩
      have e : ((cs x).map fun _ => true).all id = true := by rw [List.all_map, List.all_eq_true]; exact fun _ _ => rfl
      rw [e]
      refine ⟨_, rfl, iteF ?_⟩
      have S := Same.new (o := .lst (((cs x).take x.length).map fun _ => V.bl true)) hl
      generalize (upd H' l (.lst (((cs x).take x.length).map fun _ => V.bl true))) = H1 at S ⊢
      have h00 : (x.cps.toList)[0]? = some (x.cps.getD 0 0) := Zq104 (by omega)
      by_cases z : x = "0"
      · subst z
        exact ⟨_, rfl, rfl, _, rfl, iteT (k H1 S)⟩
      · have hne : x.cps.getD 0 0 ≠ 48 := h0.resolve_left z
        refine ⟨_, rfl, rfl, _, rfl, iteD (fun e => absurd (by injection e) z) (fun _ => ?_)⟩
        have hc : V.str ⟨#[x.cps.getD 0 0]⟩ ≠ V.str "0" := fun e => by
          have e1 : (⟨#[x.cps.getD 0 0]⟩ : Str) = "0" := by injection e
          have e2 : (⟨#[x.cps.getD 0 0]⟩ : Str).cps.toList = [48] := by rw [e1]; decide +kernel
          have e3 : x.cps.getD 0 0 = 48 := by simpa using e2
          exact hne e3
        have fin : Q (.bl (!decide (V.str ⟨#[x.cps.getD 0 0]⟩ = V.str "0"))) H1 := by rw [decide_eq_false hc]; exact k H1 S
        exact ⟨_, rfl, x, 0, x.cps.getD 0 0, rfl, rfl, by omega, Zq79 (j := 0) h00, rfl, fin⟩
def spRV : Sp := fun vs H Q _ => (∃ x : Str, vs = [.str x, .str "name"] /\ Zq42 x /\ ∀ H', Same H H' -> Q (.str x) H') \/ ∃ i : Int, vs = [.str (num i), .str "number"] /\ isNo i /\ ∀ H', Same H H' -> Q (.int i) H'
abbrev Zq47 : Stmt := top 16
theorem Zq151 : FnScope ["word", "kind"] ["word", "kind"] (Zq0 Zq47) := ⟨rfl, rfl, rfl, by decide +kernel, rfl, by decide +kernel, by decide +kernel⟩
theorem Nq107 : Nm (Zq0 Zq47) "int" .globalImplicit := by decide +kernel
theorem Nq108 : Nm (Zq0 Zq47) "is_name" .globalImplicit := by decide +kernel
theorem Nq109 : Nm (Zq0 Zq47) "is_number" .globalImplicit := by decide +kernel
theorem Nq58 : Nm (Zq0 Zq47) "kind" .local := by decide +kernel
theorem Nq21 : Nm (Zq0 Zq47) "word" .local := by decide +kernel
theorem Zq160 (Zq117 : Has K mg "read_value" Zq47) (T : Txt mg) (Zq182 : Fn P w K mg base "is_name" ["text"] 1 spIsName) (Zq170 : Fn P w K mg base "is_number" ["word"] 1 spIsNum) : Fn P w K mg base "read_value" ["word", "kind"] 2 spRV := by
  refine Zq117.fnQ Zq151 (fun _ _ _ _ _ _ us hl => match us, hl with | [_, _], _ => rfl) (fun vs H Q E h => ?_) (fun f cdv A outer s H vs Q E hr h => ?_)
  · rcases h with ⟨x, rfl, _⟩ | ⟨i, rfl, _⟩ <;> rfl
  · refine ⟨_, (Zq3 (Zq26 (QW.pt (qw_and (Zq25 Zq72 (qvN 1 Nq58) Zq7 (Zq29 _)) (qw_and1 (Zq52 (Zq8 Zq182 (hr.mono (by omega)) Nq108 (Zq1 (qvN 0 Nq21) Zq2)))))) (Zq6 (Zq14 (qvN 0 Nq21))) Zq17)
 (Zq3 (Zq26 (QW.pt (qw_and (Zq25 Zq72 (qvN 1 Nq58) Zq7 (Zq29 _)) (qw_and1 (Zq52 (Zq8 Zq170 (hr.mono (by omega)) Nq109 (Zq1 (qvN 0 Nq21) Zq2)))))) (Zq6 (Zq14 (Zq45 qcall_intT Nq107 T.int b_int (Zq1 (qvN 0 Nq21) Zq2)))) Zq17)
 (Zq6 qs_never))), ?_⟩
    rcases h with ⟨x, rfl, hx, k⟩ | ⟨i, rfl, hi, k⟩
    · refine ⟨_, rfl, rfl, _, rfl, iteD (fun _ => ?_) (fun z => absurd rfl z)⟩
      refine ⟨_, rfl, x, rfl, by have := hx.2.2; omega, fun H1 s1 => ?_⟩
      rw [isNameB_of hx]
      exact ⟨_, rfl, iteT ⟨_, rfl, k H1 s1⟩⟩
    · refine ⟨_, rfl, rfl, _, rfl, iteD (fun z => absurd z (by decide +kernel)) (fun _ => iteF ?_)⟩
      refine ⟨_, rfl, rfl, _, rfl, iteD (fun _ => ?_) (fun z => absurd rfl z)⟩
      refine ⟨_, rfl, num i, rfl, num_ok hi, fun H1 s1 => ?_⟩
      refine ⟨_, rfl, iteT ?_⟩
      exact ⟨_, rfl, num i, i, rfl, num_back hi, by have := (num_ok hi).l9; omega, k H1 s1⟩
end
section
variable {P : Program} {w : World} {K : PySem.W.Frag} {mg : Str -> Option Value} {base : Heap}
inductive Pt where
  | nm (x : Str)
  | no (i : Int)
def ptV : Pt -> V
  | .nm x => .str x
  | .no i => .int i
def ptS : Pt -> Str
  | .nm x => x
  | .no i => num i
def ptK : Pt -> Str
  | .nm _ => "name"
  | .no _ => "number"
def PtOk : Pt -> Prop
  | .nm x => Zq42 x
  | .no i => isNo i
def spPlace (K : PySem.W.Frag) : Sp := fun vs H Q _ => ∃ (x : Str) (l : Addr) (xs : List Str) (j : Nat), vs = [.str x, .ref l] /\ H l = some (.lst (xs.map V.str)) /\ xs[j]? = some x /\ (∀ m, m < j -> xs[m]? ≠ some x) /\ Q (.int j) H
abbrev Zq94 : Stmt := top 13
theorem Zq171 : FnScope ["sign", "words"] ["sign", "words"] (Zq0 Zq94) := ⟨rfl, rfl, rfl, by decide +kernel, rfl, by decide +kernel, by decide +kernel⟩
theorem Nq59 : Nm (Zq0 Zq94) "sign" .local := by decide +kernel
theorem Nq60 : Nm (Zq0 Zq94) "words" .local := by decide +kernel
theorem Zq178 (Zq133 : Has K mg "place_of" Zq94) (T : Txt mg) : Fn P w K mg base "place_of" ["sign", "words"] 1 (spPlace K) := by
  refine Zq133.fnQ Zq171 (fun _ _ _ _ _ _ us hl => match us, hl with | [_, _], _ => rfl) (fun vs H Q E h => ?_) (fun f cdv A outer s H vs Q E hr h => ?_)
  · obtain ⟨x, l, xs, j, rfl, _⟩ := h
    rfl
  · obtain ⟨x, l, xs, j, rfl, hl, hj, hno, k⟩ := h
    refine ⟨_, (Zq3 (Zq26 (Zq25 qop_notIn_seq (qvN 0 Nq59) (qvN 1 Nq60) rfl) (Zq6 qs_never) Zq17)
 (Zq6 (Zq14 (Zq110 F.plainAttrs_list F.slot_list_index F.type_list_index qmt_indexS (qvN 1 Nq60) (Zq1 (qvN 0 Nq59) Zq2))))), ?_⟩
    refine ⟨_, rfl, _, rfl, l, _, rfl, .inl (SqL.of hl), rfl, flat_strs _, _, rfl, ?_⟩
    rw [if_pos rfl, inV_str, decide_eq_true (List.mem_of_getElem? hj)]
    refine iteF ?_
    exact ⟨_, rfl, .inl ⟨rfl, _, SqL.of hl⟩, _, rfl, l, xs, x, j, rfl, rfl, SqL.of hl, hj, hno, k⟩
def spRNames : Sp := fun vs H Q _ => ∃ (a : Addr) (xs : List Str), vs = [.ref a] /\ H a = some (.lst (xs.map V.str)) /\ (∀ x ∈ xs, Zq42 x) /\ xs.length <= 1000 /\ ∀ l H', H l = none -> H' l = some (.lst (xs.map V.str)) -> Same H H' -> Q (.ref l) H'
abbrev Zq95 : Stmt := top 14
theorem Zq152 : FnScope ["words"] ["words"] (Zq0 Zq95) := ⟨rfl, rfl, rfl, by decide +kernel, rfl, by decide +kernel, by decide +kernel⟩
theorem Nq110 : Nm (Zq0 Zq95) "words" .local := by decide +kernel
theorem Zq161 (Zq118 : Has K mg "read_names" Zq95) (T : Txt mg) (Zq119 : Fn P w K mg base "read_value" ["word", "kind"] 2 spRV) : Fn P w K mg base "read_names" ["words"] 3 spRNames := by
  refine Zq118.fnQ Zq152 (fun _ _ _ _ _ _ us hl => match us, hl with | [_], _ => rfl) (fun vs H Q E h => ?_) (fun f cdv A outer s H vs Q E hr h => ?_)
  · obtain ⟨a, xs, rfl, _⟩ := h
    rfl
  · obtain ⟨a, xs, rfl, ha, hx, hlen, k⟩ := h
    refine ⟨_, (Zq6 (Zq14 (Zq68 (locs := ["word"]) (fr := []) ⟨rfl, by decide +kernel, by decide +kernel, by decide +kernel, by decide +kernel, by decide +kernel⟩ .nil rfl (qi_list (qvN 0 Nq110)) ⟨fun _ _ _ _ _ _ => by
    have cnd : (inN ["word"] []).Nodup := by decide +kernel
    exact ⟨(qgLN 0 cnd), Zq83, (Zq8 Zq119 (hr.mono (by omega)) nmC (Zq1 (qvLN 0) (Zq1 Zq7 Zq2)))⟩⟩))), ?_⟩
    have hz : (2000 : Nat) <= sizeLine := by decide
    refine ⟨_, rfl, a, rfl, ⟨_, SqL.of ha⟩, ?_⟩
    refine comp_list (xs := xs.map V.str) (fun i ys H' => Same H H' /\ ys = (xs.take i).map V.str) ⟨Same.refl _, rfl⟩ (by rw [List.length_map]; omega) (fun i ys H' _ ⟨e, _⟩ => SqL.of (e _ _ ha)) (fun i ys H' ⟨_, e⟩ => by rw [e, List.length_map, List.length_take]; omega) ?_ ?_
    · rintro i v ys H' hv ⟨sm, rfl⟩ ls hls
      obtain ⟨w0, rfl⟩ := len1 hls
      rw [List.getElem?_map] at hv
      obtain ⟨x, hxi, rfl⟩ := Option.map_eq_some_iff.mp hv
      refine ⟨⟨[_], rfl, rfl⟩, ?_⟩
      refine ⟨_, rfl, .inl ⟨x, rfl, hx x (List.mem_of_getElem? hxi), fun H1 s1 => ⟨sm.trans s1, ?_⟩⟩⟩
      rw [List.take_add_one, hxi, List.map_append]
      rfl
    · rintro ys H' ⟨sm, rfl⟩ l hl
      rw [List.length_map, List.take_length]
      exact k l _ (sm.free hl) Zq5 (sm.trans (Same.new hl))
def spRVals (K : PySem.W.Frag) : Sp := fun vs H Q _ => ∃ (a t : Addr) (ps : List Pt), vs = [.ref a, .ref t] /\ H a = some (.lst (ps.map fun p => V.str (ptS p))) /\ SqT K H t (ps.map fun p => V.str (ptK p)) /\ (∀ H', Same H H' -> SqT K H' t (ps.map fun p => V.str (ptK p))) /\ (∀ p ∈ ps, PtOk p) /\ ps.length <= 1000 /\
  ∀ l H', H l = none -> H' l = some (.lst (ps.map ptV)) -> Same H H' -> Q (.ref l) H'
abbrev Zq49 : Stmt := top 15
theorem Zq147 : FnScope ["words", "kinds"] ["words", "kinds"] (Zq0 Zq49) := ⟨rfl, rfl, rfl, by decide +kernel, rfl, by decide +kernel, by decide +kernel⟩
theorem Nq61 : Nm (Zq0 Zq49) "kinds" .local := by decide +kernel
theorem Nq62 : Nm (Zq0 Zq49) "len" .globalImplicit := by decide +kernel
theorem Nq63 : Nm (Zq0 Zq49) "words" .local := by decide +kernel
theorem Nq111 : Nm (Zq0 Zq49) "zip" .globalImplicit := by decide +kernel
theorem Zq153 (Zq106 : Has K mg "read_values" Zq49) (T : Txt mg) (Zq119 : Fn P w K mg base "read_value" ["word", "kind"] 2 spRV) : Fn P w K mg base "read_values" ["words", "kinds"] 3 (spRVals K) := by
  refine Zq106.fnQ Zq147 (fun _ _ _ _ _ _ us hl => match us, hl with | [_, _], _ => rfl) (fun vs H Q E h => ?_) (fun f cdv A outer s H vs Q E hr h => ?_)
  · obtain ⟨a, t, ps, rfl, _⟩ := h
    rfl
  · obtain ⟨a, t, ps, rfl, ha, ht, htS, hp, hlen, k⟩ := h
    refine ⟨_, (Zq3 (Zq26 (Zq25 qop_ne (Zq11 Zq48 Nq62 T.len Zq88 (Zq1 (qvN 0 Nq63) Zq2)) (Zq11 Zq48 Nq62 T.len Zq88 (Zq1 (qvN 1 Nq61) Zq2)) (Zq29 _)) (Zq6 qs_never) Zq17)
 (Zq6 (Zq14 (Zq68 (locs := ["word", "kind"]) (fr := []) ⟨rfl, by decide +kernel, by decide +kernel, by decide +kernel, by decide +kernel, by decide +kernel⟩ .nil rfl (qi_zipM Nq111.1 T.zip (Zq1 (qvN 0 Nq63) (Zq1 (qvN 1 Nq61) Zq2))) ⟨fun _ _ _ _ _ _ => by
    have cnd : (inN ["word", "kind"] []).Nodup := by decide +kernel
    exact ⟨(qg_tupC 2 (by rfl) (Zq131 (qgLN 0 cnd) (Zq131 (qgLN 1 cnd) qgs_nil))), Zq83, (Zq8 Zq119 (hr.mono (by omega)) nmC (Zq1 (qvLN 0) (Zq1 (qvLN 1) Zq2)))⟩⟩)))), ?_⟩
    have hz : (2000 : Nat) <= sizeLine := by decide
    refine ⟨_, rfl, a, _, rfl, .inl (SqL.of ha), _, rfl, t, _, rfl, .inr ht, rfl, _, rfl, ?_⟩
    rw [List.length_map, List.length_map, decide_eq_true rfl]
    refine iteF ?_
    refine ⟨_, rfl, _, rfl, a, t, _, _, rfl, SqL.of ha, ht, fun n21 => ?_⟩
    refine comp_zipM (ps.map fun p => V.str (ptS p)) (ps.map fun p => V.str (ptK p)) (by rw [List.length_map, List.length_map]) n21 (fun i ys H' => Same H H' /\ ys = (ps.take i).map ptV) ⟨Same.refl _, rfl⟩ (by rw [List.length_map]; omega) (fun i ys H' _ ⟨e, _⟩ => ⟨SqL.of (e _ _ ha), htS _ e⟩) (fun i ys H' ⟨_, e⟩ => by rw [e, List.length_map, List.length_take]; omega) ?_ ?_
    · rintro i x z p ys H' hx hz' ⟨sm, rfl⟩ hpn ls hls
      obtain ⟨w0, w1, rfl⟩ := len2 hls
      rw [List.getElem?_map] at hx hz'
      obtain ⟨q, hq, rfl⟩ := Option.map_eq_some_iff.mp hx
      rw [hq] at hz'
      cases hz'
      have S := Same.new (o := .tup [.str (ptS q), .str (ptK q)]) hpn
      have kp : (upd H' p (.tup [.str (ptS q), .str (ptK q)])) p = some (.tup [.str (ptS q), .str (ptK q)]) := Zq5
      generalize (upd H' p (.tup [.str (ptS q), .str (ptK q)])) = H1 at S kp ⊢
      have et : (ps.take (i + 1)).map ptV = (ps.take i).map ptV ++ [ptV q] := by rw [List.take_add_one, hq, List.map_append]; rfl
      refine ⟨p, _, rfl, SqT.of kp, rfl, _, _, rfl, _, _, rfl, rfl, ⟨[_, _], rfl, rfl⟩, iteT ?_⟩
      have hok := hp q (List.mem_of_getElem? hq)
      rw [et]
      refine ⟨_, rfl, _, rfl, ?_⟩
      cases q with
      | nm x => exact .inl ⟨x, rfl, hok, fun H2 s2 => ⟨(sm.trans S).trans s2, rfl⟩⟩
      | no j => exact .inr ⟨j, rfl, hok, fun H2 s2 => ⟨(sm.trans S).trans s2, rfl⟩⟩
    · rintro ys H' ⟨sm, rfl⟩ l hl
      rw [List.length_map, List.take_length]
      exact k l _ (sm.free hl) Zq5 (sm.trans (Same.new hl))
end
section
variable {P : Program} {w : World} {K : PySem.W.Frag} {mg : Str -> Option Value} {base : Heap}
structure Dd where
  w : Str
  ps : List Pt
  rows : Option (List Str × List Str)
def tailS : Option (List Str × List Str) -> List Str
  | none => []
  | some (a, b) => ("+" : Str) :: (a ++ ("-" : Str) :: b)
def toks (d : Dd) : List Str := d.w :: (d.ps.map ptS ++ tailS d.rows)
def Rows (f : List Str -> Prop) : Option (List Str × List Str) -> Prop
  | none => True
  | some (a, b) => f a /\ f b
structure Tbl (K : PySem.W.Frag) (mg : Str -> Option Value) (pr : Params) (dP dS : Addr) (kP kS : List (Str × Tok × Addr)) : Prop where
  cP : mg "PLAIN" = some (.ref dP)
  cS : mg "SWORN" = some (.ref dS)
  P : DkIn K pr dP kP
  S : DkIn K pr dS kS
structure DdOk (K : PySem.W.Frag) (kP kS : List (Str × Tok × Addr)) (d : Dd) : Prop where
  word : (∀ c ∈ cs d.w, 97 <= c /\ c <= 122) /\ 1 <= d.w.length /\ d.w.length <= 10
  ps : ∀ p ∈ d.ps, PtOk p
  len : d.ps.length <= 10
  rows : Rows (fun a => (∀ x ∈ a, Zq42 x) /\ a.length <= 15) d.rows
  form : (d.rows = none /\ ∃ t, kdAt kP d.w = some t /\ kdAt kS d.w = none /\ ∀ H, SqT K H t (d.ps.map fun p => V.str (ptK p))) \/ (d.rows ≠ none /\ kdAt kP d.w = none /\ ∃ t, kdAt kS d.w = some t /\ ∀ H, SqT K H t (d.ps.map fun p => V.str (ptK p)))
theorem plus_cs : cs ("+" : Str) = [43] := by decide +kernel
theorem minus_cs : cs ("-" : Str) = [45] := by decide +kernel
theorem pt_free {p : Pt} (h : PtOk p) : ∀ c ∈ cs (ptS p), 48 <= c := by
  intro c hc
  cases p with
  | nm x => have := h.1 c hc; omega
  | no i => have := (num_ok h).all c hc; omega
theorem name_free {x : Str} (h : Zq42 x) : ∀ c ∈ cs x, 48 <= c := fun c hc => by have := h.1 c hc; omega
theorem ne_of_free {x y : Str} {c : Nat} (hx : ∀ c ∈ cs x, 48 <= c) (hy : cs y = [c]) (hc : c < 48) : x ≠ y := fun e => by
  subst e
  have := hx c (by rw [hy]; exact List.mem_singleton.mpr rfl)
  omega
theorem toks_free {kP kS : List (Str × Tok × Addr)} {d : Dd} (h : DdOk K kP kS d) : ∀ x ∈ toks d, 32 ∉ cs x := by
  have big : ∀ {x : Str}, (∀ c ∈ cs x, 48 <= c) -> 32 ∉ cs x := fun hx z => by have := hx 32 z; omega
  intro x hx
  rcases List.mem_cons.mp hx with rfl | hx
  · exact big fun c hc => by have := h.word.1 c hc; omega
  rcases List.mem_append.mp hx with hx | hx
  · obtain ⟨p, hp, rfl⟩ := List.mem_map.mp hx
    exact big (pt_free (h.ps p hp))
  · have hr := h.rows
    cases e : d.rows with
    | none => rw [e] at hx; cases hx
    | some ab =>
      obtain ⟨a, b⟩ := ab
      rw [e] at hx hr
      rcases List.mem_cons.mp hx with rfl | hx
      · rw [plus_cs]; decide
      rcases List.mem_append.mp hx with hx | hx
      · exact big (name_free (hr.1.1 x hx))
      · rcases List.mem_cons.mp hx with rfl | hx
        · rw [minus_cs]; decide
        · exact big (name_free (hr.2.1 x hx))
def text (d : Dd) : Str := Txt.join " " (toks d)
theorem text_split {kP kS : List (Str × Tok × Addr)} {d : Dd} (h : DdOk K kP kS d) : Txt.split (text d) " " = toks d := split_join (by simp [toks]) (toks_free h)
def Zq20 : Option (List Str × List Str) -> Addr -> Addr -> List V
  | none, _, _ => []
  | some _, ra, rb => [.ref ra, .ref rb]
def tailAt (H : Hp) : Option (List Str × List Str) -> Addr -> Addr -> Prop
  | none, _, _ => True
  | some (a, b), ra, rb => H ra = some (.lst (a.map V.str)) /\ H rb = some (.lst (b.map V.str)) /\ ra ≠ rb
def DdAt (H : Hp) (d : Dd) (p ra rb : Addr) : Prop := H p = some (.tup (.str d.w :: (d.ps.map ptV ++ Zq20 d.rows ra rb))) /\ tailAt H d.rows ra rb
theorem cut_from (xs : List V) (c : Nat) (h : c <= xs.length) : cutV xs (some (c : Int)) none = xs.drop c := by
  unfold cutV
  rw [HT.sIx_none, HT.sIx_nat, Nat.min_eq_left h, List.take_of_length_le (by rw [List.length_drop]; exact Nat.le_refl _)]
theorem cut_mid {xs : List V} {i j : Nat} (h1 : i <= j) (h2 : j <= xs.length) : cutV xs (some (i : Int)) (some (j : Int)) = (xs.drop i).take (j - i) := by
  unfold cutV
  rw [HT.sIx_nat, HT.sIx_nat, Nat.min_eq_left (show j <= xs.length from h2), Nat.min_eq_left (show i <= xs.length by omega)]
end
section
variable {P : Program} {w : World} {K : PySem.W.Frag} {mg : Str -> Option Value} {base : Heap} {dP dS : Addr} {kP kS : List (Str × Tok × Addr)}
theorem idx_of {xs pre post : List Str} {y : Str} (e : xs = pre ++ y :: post) (h : ∀ z ∈ pre, z ≠ y) : xs[pre.length]? = some y /\ ∀ m, m < pre.length -> xs[m]? ≠ some y := by
  subst e
  refine ⟨by rw [List.getElem?_append_right (Nat.le_refl _), Nat.sub_self]; rfl, fun m hm z => ?_⟩
  rw [List.getElem?_append_left hm] at z
  exact h y (List.mem_of_getElem? z) rfl
theorem cut_part {xs pre mid post : List V} {i j : Int} (e : xs = pre ++ (mid ++ post)) (hi : i = pre.length) (hj : j = pre.length + mid.length) : cutV xs (some i) (some j) = mid := by
  subst e hi
  have ej : j = ((pre.length + mid.length : Nat) : Int) := by omega
  subst ej
  rw [cut_mid (by omega) (by rw [List.length_append, List.length_append]; omega), List.drop_left, Nat.add_sub_cancel_left, List.take_left]
theorem cut_last {xs pre post : List V} {i : Int} (e : xs = pre ++ post) (hi : i = pre.length) : cutV xs (some i) none = post := by
  subst e hi
  rw [cut_from _ _ (by rw [List.length_append]; omega), List.drop_left]
def spRead (K : PySem.W.Frag) (kP kS : List (Str × Tok × Addr)) : Sp := fun vs H Q _ => ∃ d : Dd, vs = [.str (text d)] /\ DdOk K kP kS d /\ (text d).length + 2 <= sizeLine /\ ∀ p ra rb H', DdAt H' d p ra rb -> (d.rows ≠ none -> H ra = none /\ H rb = none) -> Same H H' -> Q (.ref p) H'
abbrev Zq23 : Stmt := top 12
theorem Zq65 : FnScope ["text", "words", "word", "plus", "minus", "values"] ["text"] (Zq0 Zq23) := ⟨rfl, rfl, rfl, by decide +kernel, rfl, by decide +kernel, by decide +kernel⟩
theorem Nq64 : Nm (Zq0 Zq23) "PLAIN" .globalImplicit := by decide +kernel
theorem Nq65 : Nm (Zq0 Zq23) "SWORN" .globalImplicit := by decide +kernel
theorem Nq34 : Nm (Zq0 Zq23) "minus" .local := by decide +kernel
theorem Nq66 : Nm (Zq0 Zq23) "place_of" .globalImplicit := by decide +kernel
theorem Nq35 : Nm (Zq0 Zq23) "plus" .local := by decide +kernel
theorem Nq67 : Nm (Zq0 Zq23) "read_names" .globalImplicit := by decide +kernel
theorem Nq68 : Nm (Zq0 Zq23) "read_values" .globalImplicit := by decide +kernel
theorem Nq112 : Nm (Zq0 Zq23) "text" .local := by decide +kernel
theorem Nq69 : Nm (Zq0 Zq23) "tuple" .globalImplicit := by decide +kernel
theorem Nq70 : Nm (Zq0 Zq23) "values" .local := by decide +kernel
theorem Nq7 : Nm (Zq0 Zq23) "word" .local := by decide +kernel
theorem Nq5 : Nm (Zq0 Zq23) "words" .local := by decide +kernel
theorem Zq172 (Zq127 : Has K mg "read_deed" Zq23) (T : Txt mg) (tb : Tbl K mg w.params dP dS kP kS) (Zq143 : Fn P w K mg base "place_of" ["sign", "words"] 1 (spPlace K)) (Zq138 : Fn P w K mg base "read_names" ["words"] 3 spRNames) (Zq135 : Fn P w K mg base "read_values" ["words", "kinds"] 3 (spRVals K)) : Fn P w K mg base "read_deed" ["text"] 4 (spRead K kP kS) := by
  have c_PLAIN := tb.cP
  have c_SWORN := tb.cS
  have r_PLAIN : RelV (.ref dP) (.ref dP) := rfl
  have r_SWORN : RelV (.ref dS) (.ref dS) := rfl
  refine Zq127.fnQ Zq65 (fun _ _ _ _ _ _ us hl => match us, hl with | [_], _ => rfl) (fun vs H Q E h => ?_) (fun f cdv A outer s H vs Q E hr h => ?_)
  · obtain ⟨d, rfl, _⟩ := h
    rfl
  · obtain ⟨d, rfl, ok, hz, k⟩ := h
    refine ⟨_, (Zq3 (Zq10 (i := 1) Zq65.nd Nq5 (Zq110 F.plainAttrs_str F.slot_str_split F.type_str_split qmt_split (qvN 0 Nq112) (Zq1 Zq7 Zq2)))
 (Zq3 (Zq10 (i := 2) Zq65.nd Nq7 (Zq28 Zq27 (qvN 1 Nq5) Zq4 (fun _ _ => rfl)))
 (Zq3 (Zq26 (Zq25 qop_inKD (qvN 2 Nq7) (Zq89 Nq64 c_PLAIN r_PLAIN) rfl) (Zq6 (Zq14 (Zq45 qcall_tuple_of Nq69 T.tuple b_tuple (Zq1 (Zq16 Zq91 (Zq71 (Zq1 (qvN 2 Nq7) Zq2)) (Zq8 Zq135 (hr.mono (by omega)) Nq68 (Zq1 (Zq53 qsl_list (qvN 1 Nq5) (Zq50 Zq4) Zq82) (Zq1 (Zq28 qix_KD (Zq89 Nq64 c_PLAIN r_PLAIN) (qvN 2 Nq7) (fun _ _ => rfl)) Zq2)))) Zq2)))) Zq17)
 (Zq3 (Zq26 (Zq25 qop_inKD (qvN 2 Nq7) (Zq89 Nq65 c_SWORN r_SWORN) rfl) (Zq3 (Zq10 (i := 3) Zq65.nd Nq35 (Zq8 Zq143 (hr.mono (by omega)) Nq66 (Zq1 Zq7 (Zq1 (qvN 1 Nq5) Zq2))))
 (Zq3 (Zq10 (i := 4) Zq65.nd Nq34 (Zq8 Zq143 (hr.mono (by omega)) Nq66 (Zq1 Zq7 (Zq1 (qvN 1 Nq5) Zq2))))
 (Zq3 (Zq10 (i := 5) Zq65.nd Nq70 (Zq8 Zq135 (hr.mono (by omega)) Nq68 (Zq1 (Zq53 qsl_list (qvN 1 Nq5) (Zq50 Zq4) (Zq50 (qvN 3 Nq35))) (Zq1 (Zq28 qix_KD (Zq89 Nq65 c_SWORN r_SWORN) (qvN 2 Nq7) (fun _ _ => rfl)) Zq2))))
 (Zq6 (Zq14 (Zq45 qcall_tuple_of Nq69 T.tuple b_tuple (Zq1 (Zq16 Zq91 (Zq16 Zq91 (Zq71 (Zq1 (qvN 2 Nq7) Zq2)) (qvN 5 Nq70)) (Zq71 (Zq1 (Zq8 Zq138 (hr.mono (by omega)) Nq67 (Zq1 (Zq53 qsl_list (qvN 1 Nq5) (Zq50 (Zq16 Zq55 (qvN 3 Nq35) Zq4)) (Zq50 (qvN 4 Nq34))) Zq2)) (Zq1 (Zq8 Zq138 (hr.mono (by omega)) Nq67 (Zq1 (Zq53 qsl_list (qvN 1 Nq5) (Zq50 (Zq16 Zq55 (qvN 4 Nq34) Zq4)) Zq82) Zq2)) Zq2)))) Zq2))))))) Zq17)
 (Zq6 qs_never))))), ?_⟩
    have hZ : (2000 : Nat) <= sizeLine := by decide
    refine ⟨_, rfl, rfl, text d, " ", rfl, rfl, by decide +kernel, hz, fun l hl => ?_⟩
    rw [text_split ok]
    have S1 := Same.new (o := .lst ((toks d).map V.str)) hl
    have k1 : (upd H l (.lst ((toks d).map V.str))) l = some (.lst ((toks d).map V.str)) := Zq5
    generalize (upd H l (.lst ((toks d).map V.str))) = H1 at S1 k1 ⊢
    refine gset ?_
    dsimp only [Zq40]
    refine ⟨_, rfl, l, _, 0, .str d.w, rfl, rfl, SqL.of k1, Zq79 (j := 0) (by rw [List.getElem?_map]; rfl), ?_⟩
    refine gset ?_
    dsimp only [Zq40]
    rcases ok.form with ⟨hn, t, hP, hS, ht⟩ | ⟨hn, hP, t, hS, ht⟩
    · refine ⟨_, rfl, d.w, dP, kP, rfl, rfl, tb.P, _, rfl, ?_⟩
      rw [hP]
      refine iteT ?_
      have hps := ok.len
      refine ⟨_, rfl, by show 1 <= sizeLine; omega, fun l2 hl2 => ?_⟩
      have S2 := Same.new (o := .lst [.str d.w]) hl2
      have k2 : (upd H1 l2 (.lst [.str d.w])) l2 = some (.lst [.str d.w]) := Zq5
      generalize (upd H1 l2 (.lst [.str d.w])) = H2 at S2 k2 ⊢
      refine ⟨_, rfl, _, rfl, l, _, rfl, SqL.of (S2 _ _ k1), fun l3 hl3 => ?_⟩
      have ec : cutV ((toks d).map V.str) (some 1) none = d.ps.map fun p => V.str (ptS p) := by
        have := cut_from ((toks d).map V.str) 1 (by simp [toks])
        rw [show ((1 : Nat) : Int) = 1 from rfl] at this
        rw [this, ← List.map_drop]
        show (d.ps.map ptS ++ tailS d.rows).map V.str = _
        rw [hn]
        show (d.ps.map ptS ++ []).map V.str = _
        rw [List.append_nil, List.map_map]
        rfl
      rw [ec]
      have S3 := Same.new (o := .lst (d.ps.map fun p => V.str (ptS p))) hl3
      have k3 : (upd H2 l3 (.lst (d.ps.map fun p => V.str (ptS p)))) l3 = some (.lst (d.ps.map fun p => V.str (ptS p))) := Zq5
      generalize (upd H2 l3 (.lst (d.ps.map fun p => V.str (ptS p)))) = H3 at S3 k3 ⊢
      refine ⟨_, rfl, d.w, dP, t, kP, rfl, rfl, tb.P, hP, l3, t, d.ps, rfl, k3, ht _, fun _ _ => ht _, ok.ps, by omega, fun l4 H4 hl4 k4 s4 => ?_⟩
      refine ⟨l2, l4, _, _, rfl, rfl, s4 _ _ (S3 _ _ k2), k4, by rw [List.length_map]; show 1 + d.ps.length <= sizeLine; omega, fun l5 hl5 => ?_⟩
      have S5 := Same.new (o := .lst ([V.str d.w] ++ d.ps.map ptV)) hl5
      have k5 : (upd H4 l5 (.lst ([V.str d.w] ++ d.ps.map ptV))) l5 = some (.lst ([V.str d.w] ++ d.ps.map ptV)) := Zq5
      generalize (upd H4 l5 (.lst ([V.str d.w] ++ d.ps.map ptV))) = H5 at S5 k5 ⊢
      refine ⟨l5, _, rfl, .inl ⟨SqL.of k5, fun p hp => ?_⟩⟩
      refine k p 0 0 _ ⟨?_, ?_⟩ (fun z => absurd hn z) (((((S1.trans S2).trans S3).trans s4).trans S5).trans (Same.new hp))
      · rw [Zq5, hn]
        show _ = some (HO.tup (V.str d.w :: (d.ps.map ptV ++ [])))
        rw [List.append_nil]
        rfl
      · rw [hn]; trivial
    · refine ⟨_, rfl, d.w, dP, kP, rfl, rfl, tb.P, _, rfl, ?_⟩
      rw [hP]
      refine iteF ?_
      refine ⟨_, rfl, d.w, dS, kS, rfl, rfl, tb.S, _, rfl, ?_⟩
      rw [hS]
      refine iteT ?_
      have hps := ok.len
      obtain ⟨a, b, er⟩ : ∃ a b, d.rows = some (a, b) := by
        cases e : d.rows with
        | none => exact absurd e hn
        | some ab => exact ⟨ab.1, ab.2, rfl⟩
      have hr := ok.rows
      rw [er] at hr
      obtain ⟨⟨ha, la⟩, ⟨hb, lb⟩⟩ := hr
      have et : toks d = d.w :: (d.ps.map ptS ++ ("+" : Str) :: (a ++ ("-" : Str) :: b)) := by unfold toks; rw [er]; rfl
      have fw : ∀ c ∈ cs d.w, 48 <= c := fun c hc => by have := ok.word.1 c hc; omega
      obtain ⟨ip1, ip2⟩ := idx_of (xs := toks d) (pre := d.w :: d.ps.map ptS) (y := "+") (post := a ++ ("-" : Str) :: b) (by rw [et]; rfl) (fun z hz' => by
        rcases List.mem_cons.mp hz' with rfl | hz'
        · exact ne_of_free fw plus_cs (by decide)
        · obtain ⟨p, hp, rfl⟩ := List.mem_map.mp hz'
          exact ne_of_free (pt_free (ok.ps p hp)) plus_cs (by decide))
      obtain ⟨im1, im2⟩ := idx_of (xs := toks d) (pre := d.w :: (d.ps.map ptS ++ ("+" : Str) :: a)) (y := "-") (post := b) (by rw [et, List.cons_append, List.append_assoc]; rfl) (fun z hz' => by
        rcases List.mem_cons.mp hz' with rfl | hz'
        · exact ne_of_free fw minus_cs (by decide)
        rcases List.mem_append.mp hz' with hz' | hz'
        · obtain ⟨p, hp, rfl⟩ := List.mem_map.mp hz'
          exact ne_of_free (pt_free (ok.ps p hp)) minus_cs (by decide)
        rcases List.mem_cons.mp hz' with rfl | hz'
        · decide +kernel
        · exact ne_of_free (name_free (ha z hz')) minus_cs (by decide))
      have lp : (d.w :: d.ps.map ptS).length = 1 + d.ps.length := by rw [List.length_cons, List.length_map]; omega
      have lm : (d.w :: (d.ps.map ptS ++ ("+" : Str) :: a)).length = 2 + d.ps.length + a.length := by rw [List.length_cons, List.length_append, List.length_cons, List.length_map]; omega
      rw [lp] at ip1 ip2
      rw [lm] at im1 im2
      refine ⟨_, rfl, "+", l, toks d, 1 + d.ps.length, rfl, k1, ip1, ip2, ?_⟩
      refine gset ?_
      dsimp only [Zq40]
      refine ⟨_, rfl, "-", l, toks d, 2 + d.ps.length + a.length, rfl, k1, im1, im2, ?_⟩
      refine gset ?_
      dsimp only [Zq40]
      refine ⟨_, rfl, _, rfl, _, rfl, _, rfl, l, _, rfl, SqL.of k1, fun l3 hl3 => ?_⟩
      have ec : cutV ((toks d).map V.str) (some 1) (some ((1 + d.ps.length : Nat) : Int)) = d.ps.map fun p => V.str (ptS p) :=
        cut_part (pre := [.str d.w]) (post := (("+" : Str) :: (a ++ ("-" : Str) :: b)).map V.str) (by rw [et, List.map_cons, List.map_append, List.map_map]; rfl) rfl (by rw [List.length_map, List.length_singleton]; omega)
      rw [ec]
      have S3 := Same.new (o := .lst (d.ps.map fun p => V.str (ptS p))) hl3
      have k3 : (upd H1 l3 (.lst (d.ps.map fun p => V.str (ptS p)))) l3 = some (.lst (d.ps.map fun p => V.str (ptS p))) := Zq5
      generalize (upd H1 l3 (.lst (d.ps.map fun p => V.str (ptS p)))) = H3 at S3 k3 ⊢
      refine ⟨_, rfl, d.w, dS, t, kS, rfl, rfl, tb.S, hS, l3, t, d.ps, rfl, k3, ht _, fun _ _ => ht _, ok.ps, by omega, fun l4 H4 hl4 k4 s4 => ?_⟩
      refine gset ?_
      dsimp only [Zq40]
      have S14 := S3.trans s4
      have k14 := S14 _ _ k1
      refine ⟨_, rfl, by show 1 <= sizeLine; omega, fun l5 hl5 => ?_⟩
      have S5 := Same.new (o := .lst [.str d.w]) hl5
      have k5 : (upd H4 l5 (.lst [.str d.w])) l5 = some (.lst [.str d.w]) := Zq5
      generalize (upd H4 l5 (.lst [.str d.w])) = H5 at S5 k5 ⊢
      refine ⟨_, rfl, l5, l4, _, _, rfl, rfl, k5, S5 _ _ k4, by rw [List.length_map]; show 1 + d.ps.length <= sizeLine; omega, fun l6 hl6 => ?_⟩
      have S6 := Same.new (o := .lst ([V.str d.w] ++ d.ps.map ptV)) hl6
      have k6 : (upd H5 l6 (.lst ([V.str d.w] ++ d.ps.map ptV))) l6 = some (.lst ([V.str d.w] ++ d.ps.map ptV)) := Zq5
      generalize (upd H5 l6 (.lst ([V.str d.w] ++ d.ps.map ptV))) = H6 at S6 k6 ⊢
      have S16 := (S14.trans S5).trans S6
      have k16 := S16 _ _ k1
      refine ⟨_, rfl, _, rfl, _, _, rfl, rfl, _, rfl, _, rfl, _, rfl, l, _, rfl, SqL.of k16, fun l7 hl7 => ?_⟩
      have ea : cutV ((toks d).map V.str) (some (((1 + d.ps.length : Nat) : Int) + 1)) (some ((2 + d.ps.length + a.length : Nat) : Int)) = a.map V.str :=
        cut_part (pre := (d.w :: (d.ps.map ptS ++ [("+" : Str)])).map V.str) (post := (("-" : Str) :: b).map V.str) (by rw [et, ← List.map_append, ← List.map_append, List.cons_append, List.append_assoc]; rfl) (by rw [List.length_map, List.length_cons, List.length_append, List.length_map, List.length_singleton]; omega) (by rw [List.length_map, List.length_map, List.length_cons, List.length_append, List.length_map, List.length_singleton]; omega)
      rw [ea]
      have S7 := Same.new (o := .lst (a.map V.str)) hl7
      have k7 : (upd H6 l7 (.lst (a.map V.str))) l7 = some (.lst (a.map V.str)) := Zq5
      generalize (upd H6 l7 (.lst (a.map V.str))) = H7 at S7 k7 ⊢
      refine ⟨l7, a, rfl, k7, ha, by omega, fun ra H8 hra kra s8 => ?_⟩
      have S18 := (S16.trans S7).trans s8
      have k18 := S18 _ _ k1
      refine ⟨_, rfl, _, rfl, _, _, rfl, rfl, _, rfl, l, _, rfl, SqL.of k18, fun l9 hl9 => ?_⟩
      have eb : cutV ((toks d).map V.str) (some (((2 + d.ps.length + a.length : Nat) : Int) + 1)) none = b.map V.str :=
        cut_last (pre := (d.w :: (d.ps.map ptS ++ ("+" : Str) :: (a ++ [("-" : Str)]))).map V.str) (by rw [et, ← List.map_append, List.cons_append, List.append_assoc, List.cons_append, List.append_assoc]; rfl) (by rw [List.length_map, List.length_cons, List.length_append, List.length_map, List.length_cons, List.length_append, List.length_singleton]; omega)
      rw [eb]
      have S9 := Same.new (o := .lst (b.map V.str)) hl9
      have k9 : (upd H8 l9 (.lst (b.map V.str))) l9 = some (.lst (b.map V.str)) := Zq5
      generalize (upd H8 l9 (.lst (b.map V.str))) = H9 at S9 k9 ⊢
      refine ⟨l9, b, rfl, k9, hb, by omega, fun rb H10 hrb krb s10 => ?_⟩
      have S110 := (S18.trans S9).trans s10
      have kra10 := s10 _ _ (S9 _ _ kra)
      have nab : ra ≠ rb := fun z => by rw [z] at kra; rw [S9 _ _ kra] at hrb; cases hrb
      have fra : H ra = none := (S1.trans (S16.trans S7)).free hra
      have frb : H rb = none := (S1.trans (S18.trans S9)).free hrb
      refine ⟨by show 2 <= sizeLine; omega, fun l11 hl11 => ?_⟩
      have S11 := Same.new (o := .lst [.ref ra, .ref rb]) hl11
      have k11 : (upd H10 l11 (.lst [.ref ra, .ref rb])) l11 = some (.lst [.ref ra, .ref rb]) := Zq5
      generalize (upd H10 l11 (.lst [.ref ra, .ref rb])) = H11 at S11 k11 ⊢
      have k611 := S11 _ _ (s10 _ _ (S9 _ _ (s8 _ _ (S7 _ _ k6))))
      refine ⟨l6, l11, _, _, rfl, rfl, k611, k11, by rw [List.length_append, List.length_map]; show 1 + d.ps.length + 2 <= sizeLine; omega, fun l12 hl12 => ?_⟩
      have S12 := Same.new (o := .lst ([V.str d.w] ++ d.ps.map ptV ++ [.ref ra, .ref rb])) hl12
      have k12 : (upd H11 l12 (.lst ([V.str d.w] ++ d.ps.map ptV ++ [.ref ra, .ref rb]))) l12 = some (.lst ([V.str d.w] ++ d.ps.map ptV ++ [.ref ra, .ref rb])) := Zq5
      generalize (upd H11 l12 (.lst ([V.str d.w] ++ d.ps.map ptV ++ [.ref ra, .ref rb]))) = H12 at S12 k12 ⊢
      refine ⟨l12, _, rfl, .inl ⟨SqL.of k12, fun p hp => ?_⟩⟩
      have S13 := Same.new (o := .tup ([V.str d.w] ++ d.ps.map ptV ++ [.ref ra, .ref rb])) hp
      refine k p ra rb _ ⟨?_, ?_⟩ (fun _ => ⟨fra, frb⟩) ((((S1.trans S110).trans S11).trans S12).trans S13)
      · rw [Zq5, er]
        rfl
      · rw [er]
        exact ⟨S13 _ _ (S12 _ _ (S11 _ _ kra10)), S13 _ _ (S12 _ _ (S11 _ _ krb)), nab⟩
end
section
variable {P : Program} {w : World} {K : PySem.W.Frag} {mg : Str -> Option Value} {base : Heap} {dP dS : Addr} {kP kS : List (Str × Tok × Addr)}
def wps (d : Dd) : List Pt := .nm d.w :: d.ps
theorem wps_v (d : Dd) : (wps d).map ptV = .str d.w :: d.ps.map ptV := rfl
theorem wps_s (d : Dd) : (wps d).map ptS = d.w :: d.ps.map ptS := rfl
def PtS : Pt -> Prop
  | .nm _ => True
  | .no i => isNo i
theorem DdOk.pts {d : Dd} (h : DdOk K kP kS d) : ∀ p ∈ wps d, PtS p := fun p hp => by
  rcases List.mem_cons.mp hp with rfl | hp
  · trivial
  · have := h.ps p hp
    cases p with
    | nm x => trivial
    | no i => exact this
theorem six2 {n : Nat} (h : 2 <= n) : HT.sIx n n (some (-2)) = n - 2 := by
  unfold HT.sIx
  simp
  omega
theorem cut_two {xs : List V} {a b : V} : cutV (xs ++ [a, b]) none (some (-2)) = xs := by
  unfold cutV
  rw [six2 (by rw [List.length_append]; show 2 <= xs.length + 2; omega), HT.sIx_none, List.drop_zero, Nat.sub_zero, List.length_append]
  show List.take (xs.length + 2 - 2) _ = _
  rw [Nat.add_sub_cancel, List.take_left]
theorem at_m2 {xs : List V} {a b : V} : atI (xs ++ [a, b]) (-2) = some a := by
  unfold atI
  have : ixN (xs ++ [a, b]).length (-2) = some xs.length := by
    unfold ixN
    rw [List.length_append, if_neg (by decide), if_pos (by show -((xs.length + 2 : Nat) : Int) <= -2; omega)]
    show some ((-2 : Int) + ((xs.length + 2 : Nat) : Int)).toNat = _
    congr 1
    omega
  rw [this]
  show (xs ++ [a, b])[xs.length]? = _
  rw [List.getElem?_append_right (Nat.le_refl _), Nat.sub_self]
  rfl
theorem at_m1 {xs : List V} {a b : V} : atI (xs ++ [a, b]) (-1) = some b := by
  unfold atI
  have : ixN (xs ++ [a, b]).length (-1) = some (xs.length + 1) := by
    unfold ixN
    rw [List.length_append, if_neg (by decide), if_pos (by show -((xs.length + 2 : Nat) : Int) <= -1; omega)]
    show some ((-1 : Int) + ((xs.length + 2 : Nat) : Int)).toNat = _
    congr 1
    omega
  rw [this]
  show (xs ++ [a, b])[xs.length + 1]? = _
  rw [List.getElem?_append_right (by omega), Nat.add_sub_cancel_left]
  rfl
def spShown (K : PySem.W.Frag) (kP kS : List (Str × Tok × Addr)) : Sp := fun vs H Q _ => ∃ (d : Dd) (p ra rb : Addr), vs = [.ref p] /\ DdAt H d p ra rb /\ DdOk K kP kS d /\ ((toks d).map (·.length)).sum + (toks d).length <= 16777216 /\ ∀ H', Same H H' -> Q (.str (text d)) H'
abbrev Zq76 : Stmt := top 11
theorem Zq154 : FnScope ["deed"] ["deed"] (Zq0 Zq76) := ⟨rfl, rfl, rfl, by decide +kernel, rfl, by decide +kernel, by decide +kernel⟩
theorem Nq113 : Nm (Zq0 Zq76) "SWORN" .globalImplicit := by decide +kernel
theorem Nq14 : Nm (Zq0 Zq76) "deed" .local := by decide +kernel
theorem Zq162 (Zq120 : Has K mg "shown_deed" Zq76) (T : Txt mg) (tb : Tbl K mg w.params dP dS kP kS) : Fn P w K mg base "shown_deed" ["deed"] 1 (spShown K kP kS) := by
  have c_SWORN := tb.cS
  have r_SWORN : RelV (.ref dS) (.ref dS) := rfl
  refine Zq120.fnQ Zq154 (fun _ _ _ _ _ _ us hl => match us, hl with | [_], _ => rfl) (fun vs H Q E h => ?_) (fun f cdv A outer s H vs Q E hr h => ?_)
  · obtain ⟨d, p, ra, rb, rfl, _⟩ := h
    rfl
  · obtain ⟨d, p, ra, rb, rfl, ⟨hp, htl⟩, ok, hsum, k⟩ := h
    refine ⟨_, (Zq3 (Zq26 (Zq25 qop_inKD (Zq28 Zq140 (qvN 0 Nq14) Zq4 (fun _ _ => rfl)) (Zq89 Nq113 c_SWORN r_SWORN) rfl) (Zq6 (Zq14 (Zq110 F.plainAttrs_str F.slot_str_join F.type_str_join qmt_join Zq7 (Zq1 (Zq16 Zq91 (Zq16 Zq91 (Zq16 Zq91 (Zq16 Zq91 (Zq68 (locs := ["part"]) (fr := []) ⟨rfl, by decide +kernel, by decide +kernel, by decide +kernel, by decide +kernel, by decide +kernel⟩ .nil rfl (qi_tup (Zq53 qsl_tup (qvN 0 Nq14) Zq82 (Zq50 (qe_un qop_neg Zq4)))) ⟨fun _ _ _ _ _ _ => by
    have cnd : (inN ["part"] []).Nodup := by decide +kernel
    exact ⟨(qgLN 0 cnd), Zq83, (Zq45 qcall_str nmC T.str b_str (Zq1 (qvLN 0) Zq2))⟩⟩) (Zq71 (Zq1 Zq7 Zq2))) (Zq28 Zq140 (qvN 0 Nq14) (qe_un qop_neg Zq4) (fun _ _ => rfl))) (Zq71 (Zq1 Zq7 Zq2))) (Zq28 Zq140 (qvN 0 Nq14) (qe_un qop_neg Zq4) (fun _ _ => rfl))) Zq2)))) Zq17)
 (Zq6 (Zq14 (Zq110 F.plainAttrs_str F.slot_str_join F.type_str_join qmt_join Zq7 (Zq1 (Zq68 (locs := ["part"]) (fr := []) ⟨rfl, by decide +kernel, by decide +kernel, by decide +kernel, by decide +kernel, by decide +kernel⟩ .nil rfl (qi_tup (qvN 0 Nq14)) ⟨fun _ _ _ _ _ _ => by
    have cnd : (inN ["part"] []).Nodup := by decide +kernel
    exact ⟨(qgLN 0 cnd), Zq83, (Zq45 qcall_str nmC T.str b_str (Zq1 (qvLN 0) Zq2))⟩⟩) Zq2))))), ?_⟩
    have hZ : (2000 : Nat) <= sizeLine := by decide
    have hps := ok.len
    refine ⟨_, rfl, p, _, 0, .str d.w, rfl, rfl, SqT.of hp, Zq79 (j := 0) rfl, d.w, dS, kS, rfl, rfl, tb.S, _, rfl, ?_⟩
    rcases ok.form with ⟨hn, t, hP, hS, ht⟩ | ⟨hn, hP, t, hS, ht⟩
    · rw [hS]
      refine iteF ?_
      rw [hn] at hp
      have hp' : H p = some (.tup ((wps d).map ptV)) := by rw [hp, wps_v]; show some (HO.tup (V.str d.w :: (d.ps.map ptV ++ []))) = _; rw [List.append_nil]
      refine ⟨rfl, _, rfl, p, rfl, ⟨_, SqT.of hp'⟩, ?_⟩
      refine comp_tup (xs := (wps d).map ptV) (fun i ys H' => H' = H /\ ys = ((wps d).take i).map fun q => V.str (ptS q)) ⟨rfl, rfl⟩ (by rw [List.length_map]; show (d.ps.length + 1) <= 1000000; omega) (fun i ys H' _ ⟨e, _⟩ => by rw [e]; exact SqT.of hp') (fun i ys H' ⟨_, e⟩ => by rw [e, List.length_map, List.length_take]; omega) ?_ ?_
      · rintro i v ys H' hv ⟨rfl, rfl⟩ ls hls
        obtain ⟨w0, rfl⟩ := len1 hls
        rw [List.getElem?_map] at hv
        obtain ⟨q, hq, rfl⟩ := Option.map_eq_some_iff.mp hv
        refine ⟨⟨[_], rfl, rfl⟩, ?_⟩
        have et : ((wps d).take (i + 1)).map (fun q => V.str (ptS q)) = ((wps d).take i).map (fun q => V.str (ptS q)) ++ [V.str (ptS q)] := by rw [List.take_add_one, hq, List.map_append]; rfl
        have hs := ok.pts q (List.mem_of_getElem? hq)
        rw [et]
        cases q with
        | nm x => exact ⟨_, rfl, .inl ⟨x, rfl, rfl, rfl⟩⟩
        | no j => exact ⟨_, rfl, .inr ⟨j, rfl, num_small hs, rfl, rfl⟩⟩
      · rintro ys H' ⟨rfl, rfl⟩ l hl
        have e : (((wps d).take ((wps d).map ptV).length).map fun q => V.str (ptS q)) = (toks d).map V.str := by
          rw [List.length_map, List.take_length]
          unfold toks
          rw [hn]
          show _ = (d.w :: (d.ps.map ptS ++ [])).map V.str
          rw [List.append_nil, ← wps_s, List.map_map]
          rfl
        rw [e]
        refine ⟨" ", l, toks d, rfl, rfl, SqL.of Zq5, ?_, k _ (Same.new hl)⟩
        have : (" " : Str).length = 1 := by decide +kernel
        rw [this, Nat.mul_one]; exact hsum
    · rw [hS]
      refine iteT ?_
      obtain ⟨a, b, er⟩ : ∃ a b, d.rows = some (a, b) := by
        cases e : d.rows with
        | none => exact absurd e hn
        | some ab => exact ⟨ab.1, ab.2, rfl⟩
      rw [er] at hp htl
      obtain ⟨hra, hrb, nab⟩ := htl
      have hpw : H p = some (.tup ((wps d).map ptV ++ [.ref ra, .ref rb])) := hp
      refine ⟨rfl, _, rfl, _, rfl, _, rfl, p, _, rfl, SqT.of hpw, (fun z => by have := z.2; rw [six2 (by rw [List.length_append]; show 2 <= _ + 2; omega), List.length_append] at this; simp only [List.length_cons, List.length_nil] at this; omega), fun q hq => ?_⟩
      rw [cut_two]
      have Sq := Same.new (o := .tup ((wps d).map ptV)) hq
      have kq : (upd H q (.tup ((wps d).map ptV))) q = some (.tup ((wps d).map ptV)) := Zq5
      generalize (upd H q (.tup ((wps d).map ptV))) = H1 at Sq kq ⊢
      refine ⟨q, rfl, ⟨_, SqT.of kq⟩, ?_⟩
      refine comp_tup (xs := (wps d).map ptV) (fun i ys H' => H' = H1 /\ ys = ((wps d).take i).map fun q => V.str (ptS q)) ⟨rfl, rfl⟩ (by rw [List.length_map]; show (d.ps.length + 1) <= 1000000; omega) (fun i ys H' _ ⟨e, _⟩ => by rw [e]; exact SqT.of kq) (fun i ys H' ⟨_, e⟩ => by rw [e, List.length_map, List.length_take]; omega) ?_ ?_
      · rintro i v ys H' hv ⟨rfl, rfl⟩ ls hls
        obtain ⟨w0, rfl⟩ := len1 hls
        rw [List.getElem?_map] at hv
        obtain ⟨q, hq, rfl⟩ := Option.map_eq_some_iff.mp hv
        refine ⟨⟨[_], rfl, rfl⟩, ?_⟩
        have et : ((wps d).take (i + 1)).map (fun q => V.str (ptS q)) = ((wps d).take i).map (fun q => V.str (ptS q)) ++ [V.str (ptS q)] := by rw [List.take_add_one, hq, List.map_append]; rfl
        have hs := ok.pts q (List.mem_of_getElem? hq)
        rw [et]
        cases q with
        | nm x => exact ⟨_, rfl, .inl ⟨x, rfl, rfl, rfl⟩⟩
        | no j => exact ⟨_, rfl, .inr ⟨j, rfl, num_small hs, rfl, rfl⟩⟩
      · rintro ys H' ⟨rfl, rfl⟩ l hl
        have e : (((wps d).take ((wps d).map ptV).length).map fun q => V.str (ptS q)) = (d.w :: d.ps.map ptS).map V.str := by
          rw [List.length_map, List.take_length, ← wps_s, List.map_map]
          rfl
        rw [e]
        have hr := ok.rows
        rw [er] at hr
        obtain ⟨⟨_, la⟩, ⟨_, lb⟩⟩ := hr
        have S1 := Same.new (o := .lst ((d.w :: d.ps.map ptS).map V.str)) hl
        have k1 : (upd H' l (.lst ((d.w :: d.ps.map ptS).map V.str))) l = some (.lst ((d.w :: d.ps.map ptS).map V.str)) := Zq5
        generalize (upd H' l (.lst ((d.w :: d.ps.map ptS).map V.str))) = H1 at S1 k1 ⊢
        have l1 : ((d.w :: d.ps.map ptS).map V.str).length = 1 + d.ps.length := by rw [List.length_map, List.length_cons, List.length_map]; omega
        refine ⟨by show 1 <= sizeLine; omega, fun l2 hl2 => ?_⟩
        have S2 := Same.new (o := .lst [.str "+"]) hl2
        have k2 : (upd H1 l2 (.lst [.str "+"])) l2 = some (.lst [.str "+"]) := Zq5
        generalize (upd H1 l2 (.lst [.str "+"])) = H2 at S2 k2 ⊢
        refine ⟨l, l2, _, _, rfl, rfl, S2 _ _ k1, k2, by rw [l1]; show 1 + d.ps.length + 1 <= sizeLine; omega, fun l3 hl3 => ?_⟩
        have S3 := Same.new (o := .lst ((d.w :: d.ps.map ptS).map V.str ++ [.str "+"])) hl3
        have k3 : (upd H2 l3 (.lst ((d.w :: d.ps.map ptS).map V.str ++ [.str "+"]))) l3 = some (.lst ((d.w :: d.ps.map ptS).map V.str ++ [.str "+"])) := Zq5
        generalize (upd H2 l3 (.lst ((d.w :: d.ps.map ptS).map V.str ++ [.str "+"]))) = H3 at S3 k3 ⊢
        have s03 := ((Sq.trans S1).trans S2).trans S3
        refine ⟨_, rfl, _, rfl, p, _, -2, .ref ra, rfl, rfl, SqT.of (s03 _ _ hpw), at_m2, l3, ra, _, _, rfl, rfl, k3, s03 _ _ hra, by rw [List.length_append, l1, List.length_map]; show 1 + d.ps.length + 1 + a.length <= sizeLine; omega, fun l4 hl4 => ?_⟩
        have S4 := Same.new (o := .lst ((d.w :: d.ps.map ptS).map V.str ++ [.str "+"] ++ a.map V.str)) hl4
        have k4 : (upd H3 l4 (.lst ((d.w :: d.ps.map ptS).map V.str ++ [.str "+"] ++ a.map V.str))) l4 = some (.lst ((d.w :: d.ps.map ptS).map V.str ++ [.str "+"] ++ a.map V.str)) := Zq5
        generalize (upd H3 l4 (.lst ((d.w :: d.ps.map ptS).map V.str ++ [.str "+"] ++ a.map V.str))) = H4 at S4 k4 ⊢
        refine ⟨by show 1 <= sizeLine; omega, fun l5 hl5 => ?_⟩
        have S5 := Same.new (o := .lst [.str "-"]) hl5
        have k5 : (upd H4 l5 (.lst [.str "-"])) l5 = some (.lst [.str "-"]) := Zq5
        generalize (upd H4 l5 (.lst [.str "-"])) = H5 at S5 k5 ⊢
        refine ⟨l4, l5, _, _, rfl, rfl, S5 _ _ k4, k5, by rw [List.length_append, List.length_append, l1, List.length_map]; show 1 + d.ps.length + 1 + a.length + 1 <= sizeLine; omega, fun l6 hl6 => ?_⟩
        have S6 := Same.new (o := .lst ((d.w :: d.ps.map ptS).map V.str ++ [.str "+"] ++ a.map V.str ++ [.str "-"])) hl6
        have k6 : (upd H5 l6 (.lst ((d.w :: d.ps.map ptS).map V.str ++ [.str "+"] ++ a.map V.str ++ [.str "-"]))) l6 = some (.lst ((d.w :: d.ps.map ptS).map V.str ++ [.str "+"] ++ a.map V.str ++ [.str "-"])) := Zq5
        generalize (upd H5 l6 (.lst ((d.w :: d.ps.map ptS).map V.str ++ [.str "+"] ++ a.map V.str ++ [.str "-"]))) = H6 at S6 k6 ⊢
        have s06 := ((s03.trans S4).trans S5).trans S6
        refine ⟨_, rfl, _, rfl, p, _, -1, .ref rb, rfl, rfl, SqT.of (s06 _ _ hpw), at_m1, l6, rb, _, _, rfl, rfl, k6, s06 _ _ hrb, by rw [List.length_append, List.length_append, List.length_append, l1, List.length_map, List.length_map]; show 1 + d.ps.length + 1 + a.length + 1 + b.length <= sizeLine; omega, fun l7 hl7 => ?_⟩
        have ef : (d.w :: d.ps.map ptS).map V.str ++ [.str "+"] ++ a.map V.str ++ [.str "-"] ++ b.map V.str = (toks d).map V.str := by
          unfold toks
          rw [er]
          simp [tailS]
        rw [ef]
        refine ⟨" ", l7, toks d, rfl, rfl, SqL.of Zq5, ?_, k _ (s06.trans (Same.new hl7))⟩
        have : (" " : Str).length = 1 := by decide +kernel
        rw [this, Nat.mul_one]; exact hsum
end
section
variable {P : Program} {w : World} {K : PySem.W.Frag} {mg : Str -> Option Value} {base : Heap}
def spNo : Sp := fun vs H Q _ => ∃ (s la : Addr), vs = [.ref s] /\ SrcAt H s la /\ ∀ (i : Int) (H' : Hp), isNo i -> SrcAt H' s la -> SameX s H H' -> Q (.int i) H'
abbrev Zq66 : Stmt := top 26
theorem Zq129 : FnScope ["_law_src_here", "_law_kind"] ["_law_src_here"] (Zq0 Zq66) := ⟨rfl, rfl, rfl, by decide +kernel, rfl, by decide +kernel, by decide +kernel⟩
theorem Nq36 : Nm (Zq0 Zq66) "_law_kind" .local := by decide +kernel
theorem Nq22 : Nm (Zq0 Zq66) "_law_next" .globalImplicit := by decide +kernel
theorem Nq23 : Nm (Zq0 Zq66) "_law_src_here" .local := by decide +kernel
theorem Zq155 (Zq107 : Has K mg "_law_number" Zq66) (T : Txt mg) (Zq13 : Fn P w K mg base "_law_next" ["_law_src_here", "_law_base"] 1 Zq103) : Fn P w K mg base "_law_number" ["_law_src_here"] 2 spNo := by
  refine Zq107.fnQ Zq129 (fun _ _ _ _ _ _ us hl => match us, hl with | [_], _ => rfl) (fun vs H Q E h => ?_) (fun f cdv A outer s H vs Q E hr h => ?_)
  · obtain ⟨s, la, rfl, _⟩ := h
    rfl
  · obtain ⟨s, la, rfl, hs, k⟩ := h
    refine ⟨_, (Zq3 (Zq10 (i := 1) Zq129.nd Nq36 (Zq8 Zq13 (hr.mono (by omega)) Nq22 (Zq1 (qvN 0 Nq23) (Zq1 Zq4 Zq2))))
 (Zq3 (Zq26 (Zq25 Zq72 (qvN 1 Nq36) Zq4 (Zq29 _)) (Zq6 (Zq14 (Zq28 Zq27 (Zq71 (Zq1 Zq4 (Zq1 Zq4 (Zq1 Zq4 (Zq1 Zq4 (Zq1 Zq4 (Zq1 Zq4 Zq2))))))) (Zq8 Zq13 (hr.mono (by omega)) Nq22 (Zq1 (qvN 0 Nq23) (Zq1 Zq4 Zq2))) (fun _ _ => rfl)))) Zq17)
 (Zq3 (Zq26 (Zq25 Zq72 (qvN 1 Nq36) Zq4 (Zq29 _)) (Zq6 (Zq14 (Zq8 Zq13 (hr.mono (by omega)) Nq22 (Zq1 (qvN 0 Nq23) (Zq1 Zq4 Zq2))))) Zq17)
 (Zq6 (Zq14 (Zq8 Zq13 (hr.mono (by omega)) Nq22 (Zq1 (qvN 0 Nq23) (Zq1 Zq4 Zq2)))))))), ?_⟩
    have hz : (5000 : Nat) <= sizeLine := by decide
    refine ⟨_, rfl, s, la, 4, rfl, hs, by decide, by decide, fun d H1 _ _ hs1 sx1 => ?_⟩
    refine ⟨_, rfl, rfl, _, rfl, iteD (fun _ => ?_) (fun _ => ?_)⟩
    · refine ⟨by show 6 <= sizeLine; omega, fun q hq => ?_⟩
      have S := Same.new (o := .lst [.int 0, .int 9, .int 10, .int 999999999, .int 100000000, .int 99]) hq
      have kq : (upd H1 q (.lst [.int 0, .int 9, .int 10, .int 999999999, .int 100000000, .int 99])) q = some (.lst [.int 0, .int 9, .int 10, .int 999999999, .int 100000000, .int 99]) := Zq5
      have nq : q ≠ s := (hs1.ne hq).1
      generalize (upd H1 q (.lst [.int 0, .int 9, .int 10, .int 999999999, .int 100000000, .int 99])) = H2 at S kq ⊢
      refine ⟨_, rfl, s, la, 6, rfl, hs1.keep S, by decide, by decide, fun d2 H3 e0 e1 hs3 sx3 => ?_⟩
      have hk := sx3 q _ nq kq
      have at6 : ∃ z : Int, atI [V.int 0, .int 9, .int 10, .int 999999999, .int 100000000, .int 99] d2 = some (.int z) /\ isNo z := by
        have : d2 = 0 \/ d2 = 1 \/ d2 = 2 \/ d2 = 3 \/ d2 = 4 \/ d2 = 5 := by omega
        rcases this with rfl | rfl | rfl | rfl | rfl | rfl
        · exact ⟨0, rfl, by decide, by decide⟩
        · exact ⟨9, rfl, by decide, by decide⟩
        · exact ⟨10, rfl, by decide, by decide⟩
        · exact ⟨999999999, rfl, by decide, by decide⟩
        · exact ⟨100000000, rfl, by decide, by decide⟩
        · exact ⟨99, rfl, by decide, by decide⟩
      obtain ⟨z, hz1, hz2⟩ := at6
      exact ⟨q, _, d2, .int z, rfl, rfl, SqL.of hk, hz1, k z H3 hz2 hs3 ((sx1.trans S.x).trans sx3)⟩
    · refine ⟨_, rfl, rfl, _, rfl, iteD (fun _ => ?_) (fun _ => ?_)⟩
      · exact ⟨_, rfl, s, la, 1000000000, rfl, hs1, by decide, by decide, fun d2 H3 e0 e1 hs3 sx3 => k d2 H3 ⟨e0, by omega⟩ hs3 (sx1.trans sx3)⟩
      · exact ⟨_, rfl, s, la, 30, rfl, hs1, by decide, by decide, fun d2 H3 e0 e1 hs3 sx3 => k d2 H3 ⟨e0, by omega⟩ hs3 (sx1.trans sx3)⟩
def spRow : Sp := fun vs H Q _ => ∃ (s la na : Addr) (names : List Str), vs = [.ref s, .ref na] /\ SrcAt H s la /\ H na = some (.lst (names.map V.str)) /\ na ≠ s /\ 1 <= names.length /\ names.length <= 100 /\
  ∀ (l : Addr) (xs : List Str) (H' : Hp), (∀ x ∈ xs, x ∈ names) -> xs.length <= 15 -> H l = none -> H' l = some (.lst (xs.map V.str)) -> SrcAt H' s la -> SameX s H H' -> Q (.ref l) H'
abbrev Zq77 : Stmt := top 27
theorem Zq173 : FnScope ["_law_src_here", "_law_names_here"] ["_law_src_here", "_law_names_here"] (Zq0 Zq77) := ⟨rfl, rfl, rfl, by decide +kernel, rfl, by decide +kernel, by decide +kernel⟩
theorem Nq114 : Nm (Zq0 Zq77) "_law_names_here" .cell := by decide +kernel
theorem Nq71 : Nm (Zq0 Zq77) "_law_next" .globalImplicit := by decide +kernel
theorem Nq37 : Nm (Zq0 Zq77) "_law_src_here" .cell := by decide +kernel
theorem Nq115 : Nm (Zq0 Zq77) "range" .globalImplicit := by decide +kernel
theorem Zq179 (Zq134 : Has K mg "_law_row" Zq77) (T : Txt mg) (Zq13 : Fn P w K mg base "_law_next" ["_law_src_here", "_law_base"] 1 Zq103) : Fn P w K mg base "_law_row" ["_law_src_here", "_law_names_here"] 2 spRow := by
  refine Zq134.fnQ Zq173 (fun _ _ _ _ _ _ us hl => match us, hl with | [_, _], _ => rfl) (fun vs H Q E h => ?_) (fun f cdv A outer s H vs Q E hr h => ?_)
  · obtain ⟨s, la, na, names, rfl, _⟩ := h
    rfl
  · obtain ⟨s, la, na, names, rfl, hs, hna, nns, l0, l1, k⟩ := h
    refine ⟨_, (Zq6 (Zq14 (Zq68 (locs := ["_law_k"]) (fr := [("_law_src_here", 0), ("_law_names_here", 1)]) ⟨rfl, by decide +kernel, by decide +kernel, by decide +kernel, by decide +kernel, by decide +kernel⟩ (.consN Nq37 (.consN Nq114 .nil)) rfl (qi_range1 Nq115.1 T.range (Zq1 (Zq8 Zq13 (hr.mono (by omega)) Nq71 (Zq1 (qvC 0 Nq37) (Zq1 (Zq28 Zq27 (Zq71 (Zq1 Zq4 (Zq1 Zq4 (Zq1 Zq4 (Zq1 Zq4 Zq2))))) (Zq8 Zq13 (hr.mono (by omega)) Nq71 (Zq1 (qvC 0 Nq37) (Zq1 Zq4 Zq2))) (fun _ _ => rfl)) Zq2))) Zq2)) ⟨fun _ _ _ _ _ _ => by
    have cnd : (inN ["_law_k"] [("_law_src_here", 0), ("_law_names_here", 1)]).Nodup := by decide +kernel
    exact ⟨(qgLN 0 cnd), Zq83, (Zq28 qix_listC (qvFN 2) (Zq8 Zq13 (hr.mono (by omega)) nmC (Zq1 (qvFN 1) (Zq1 (Zq11 qcall_len_seqC nmC T.len Zq88 (Zq1 (qvFN 2) Zq2)) Zq2))) (fun _ _ => rfl))⟩⟩))), ?_⟩
    have hz : (5000 : Nat) <= sizeLine := by decide
    refine ⟨_, rfl, by show 4 <= sizeLine; omega, fun q hq => ?_⟩
    have S := Same.new (o := .lst [.int 3, .int 3, .int 3, .int 16]) hq
    have kq : (upd H q (.lst [.int 3, .int 3, .int 3, .int 16])) q = some (.lst [.int 3, .int 3, .int 3, .int 16]) := Zq5
    have nq : q ≠ s := (hs.ne hq).1
    generalize (upd H q (.lst [.int 3, .int 3, .int 3, .int 16])) = H1 at S kq ⊢
    refine ⟨_, rfl, s, la, 4, rfl, hs.keep S, by decide, by decide, fun d2 H2 e0 e1 hs2 sx2 => ?_⟩
    have hk := sx2 q _ nq kq
    have at4 : ∃ z : Int, atI [V.int 3, .int 3, .int 3, .int 16] d2 = some (.int z) /\ 1 <= z /\ z <= 16 := by
      have : d2 = 0 \/ d2 = 1 \/ d2 = 2 \/ d2 = 3 := by omega
      rcases this with rfl | rfl | rfl | rfl
      · exact ⟨3, rfl, by decide, by decide⟩
      · exact ⟨3, rfl, by decide, by decide⟩
      · exact ⟨3, rfl, by decide, by decide⟩
      · exact ⟨16, rfl, by decide, by decide⟩
    obtain ⟨z, hz1, hz2, hz3⟩ := at4
    refine ⟨q, _, d2, .int z, rfl, rfl, SqL.of hk, hz1, s, la, z, rfl, hs2, by omega, by omega, fun m H3 m0 m1 hs3 sx3 => ?_⟩
    have sxA := (S.x.trans sx2).trans sx3
    refine ⟨_, rfl, by omega, by omega, ?_⟩
    refine comp_range (n := m.toNat) (fun i ys H' => SrcAt H' s la /\ SameX s H H' /\ ∃ xs : List Str, ys = xs.map V.str /\ xs.length = i /\ ∀ x ∈ xs, x ∈ names) ⟨hs3, sxA, [], rfl, rfl, fun x hx => nomatch hx⟩ (by omega) ?_ ?_ ?_
    · rintro i ys H' ⟨_, _, xs, rfl, h2, _⟩
      rw [List.length_map, h2]; exact Nat.le_refl _
    · rintro i ys H' hi ⟨hs', sx', xs, rfl, h2, h3⟩ ls hls
      obtain ⟨w0, rfl⟩ := len1 hls
      have hna' := sx' _ _ nns hna
      refine ⟨⟨[_], rfl, rfl⟩, ?_⟩
      refine ⟨_, rfl, _, rfl, _, rfl, na, _, rfl, .inl (SqL.of hna'), s, la, _, rfl, hs', by rw [List.length_map]; omega, by rw [List.length_map]; omega, fun d H4 d0 d1 hs4 sx4 => ?_⟩
      rw [List.length_map] at d1
      obtain ⟨j, rfl⟩ := Int.eq_ofNat_of_zero_le d0
      have hj : j < names.length := by omega
      refine ⟨na, _, (j : Int), .str names[j], rfl, rfl, SqL.of (sx4 _ _ nns hna'), Zq79 (by rw [List.getElem?_map, List.getElem?_eq_getElem hj]; rfl), hs4, sx'.trans sx4, xs ++ [names[j]], by rw [List.map_append]; rfl, by rw [List.length_append, h2]; rfl, fun x hx => ?_⟩
      rcases List.mem_append.mp hx with y | y
      · exact h3 x y
      · rw [List.mem_singleton.mp y]; exact List.getElem_mem hj
    · rintro ys H' ⟨hs', sx', xs, rfl, h2, h3⟩ l hl
      have fl : H l = none := by
        cases e : H l with
        | none => rfl
        | some o =>
          by_cases z' : l = s
          · subst z'
            obtain ⟨_, _, _, _, _, hsl, _⟩ := hs'
            rw [hsl] at hl; cases hl
          · rw [sx' _ _ z' e] at hl; cases hl
      exact k l xs _ h3 (by omega) fl Zq5 (hs'.keep (Same.new hl)) (sx'.trans (Same.new hl).x)
end
section
variable {P : Program} {w : World} {K : PySem.W.Frag} {mg : Str -> Option Value} {base : Heap}
abbrev fmA : List (Key × V) := [(.inr "come", .str "abb"), (.inr "rise", .str "abb"), (.inr "die", .str "aba"), (.inr "penance", .str "a"), (.inr "bring", .str "ab"), (.inr "give", .str "baab")]
abbrev fmB : List (Key × V) := [(.inr "pay", .str "aabb"), (.inr "claim", .str "abbb+"), (.inr "wergild", .str "aabbb+"), (.inr "accuse", .str "babb+")]
abbrev fm10 : List (Str × Str) := [("come", "abb"), ("rise", "abb"), ("die", "aba"), ("penance", "a"), ("bring", "ab"), ("give", "baab"), ("pay", "aabb"), ("claim", "abbb+"), ("wergild", "aabbb+"), ("accuse", "babb+")]
def fmV (x : Str) : V := (valV (Zq51 [] fmA) (.inr x)).getD ((valV (Zq51 [] fmB) (.inr x)).getD .non)
theorem fm_all : ∀ p ∈ fm10, fmV p.1 = .str p.2 := by
  intro p hp
  simp only [fm10, List.mem_cons, List.not_mem_nil, or_false] at hp
  rcases hp with rfl | rfl | rfl | rfl | rfl | rfl | rfl | rfl | rfl | rfl <;> decide +kernel
def spForm : Sp := fun vs H Q _ => ∃ (x f : Str), vs = [.str x] /\ (x, f) ∈ fm10 /\ ∀ H', Same H H' -> Q (.str f) H'
abbrev Zq85 : Stmt := top 28
theorem Zq121 : FnScope ["_law_word_here", "_law_forms", "_law_more"] ["_law_word_here"] (Zq0 Zq85) := ⟨rfl, rfl, rfl, by decide +kernel, rfl, by decide +kernel, by decide +kernel⟩
theorem Nq72 : Nm (Zq0 Zq85) "_law_forms" .local := by decide +kernel
theorem Nq73 : Nm (Zq0 Zq85) "_law_more" .local := by decide +kernel
theorem Nq74 : Nm (Zq0 Zq85) "_law_word_here" .local := by decide +kernel
theorem Zq174 (Zq128 : Has K mg "_law_form" Zq85) (T : Txt mg) : Fn P w K mg base "_law_form" ["_law_word_here"] 1 spForm := by
  refine Zq128.fnQ Zq121 (fun _ _ _ _ _ _ us hl => match us, hl with | [_], _ => rfl) (fun vs H Q E h => ?_) (fun f cdv A outer s H vs Q E hr h => ?_)
  · obtain ⟨x, f, rfl, _⟩ := h
    rfl
  · obtain ⟨x, f', rfl, hx, k⟩ := h
    refine ⟨_, (Zq3 (Zq10 (i := 1) Zq121.nd Nq72 (qe_disp (Zq60 Zq7 Zq7 (Zq60 Zq7 Zq7 (Zq60 Zq7 Zq7 (Zq60 Zq7 Zq7 (Zq60 Zq7 Zq7 (Zq60 Zq7 Zq7 qps_nil))))))))
 (Zq3 (Zq10 (i := 2) Zq121.nd Nq73 (qe_disp (Zq60 Zq7 Zq7 (Zq60 Zq7 Zq7 (Zq60 Zq7 Zq7 (Zq60 Zq7 Zq7 qps_nil))))))
 (Zq6 (Zq14 (qe_dget2 hr (qvN 1 Nq72) (qvN 0 Nq74) (qe_dget2 hr (qvN 2 Nq73) (qvN 0 Nq74) qe_non)))))), ?_⟩
    have e := fm_all _ hx
    dsimp only at e
    refine fun p hp => ?_
    refine ⟨Zq5, fmA, rfl, by decide, ?_⟩
    have S1 : Same H (upd (upd H p (.dK [])) p (.dK (Zq51 [] fmA))) := fun b o eb => by rw [Zq9 (Zq12 eb hp), Zq9 (Zq12 eb hp)]; exact eb
    have k1 : (upd (upd H p (.dK [])) p (.dK (Zq51 [] fmA))) p = some (.dK (Zq51 [] fmA)) := Zq5
    generalize (upd (upd H p (.dK [])) p (.dK (Zq51 [] fmA))) = H1 at S1 k1 ⊢
    refine gset ?_
    dsimp only [Zq40]
    refine fun q hq => ?_
    refine ⟨Zq5, fmB, rfl, by decide, ?_⟩
    have S2 : Same H1 (upd (upd H1 q (.dK [])) q (.dK (Zq51 [] fmB))) := fun b o eb => by rw [Zq9 (Zq12 eb hq), Zq9 (Zq12 eb hq)]; exact eb
    have k2 : (upd (upd H1 q (.dK [])) q (.dK (Zq51 [] fmB))) q = some (.dK (Zq51 [] fmB)) := Zq5
    generalize (upd (upd H1 q (.dK [])) q (.dK (Zq51 [] fmB))) = H2 at S2 k2 ⊢
    refine gset ?_
    dsimp only [Zq40]
    have fin : Q (fmV x) H2 := by rw [e]; exact k _ (S1.trans S2)
    exact ⟨_, rfl, p, rfl, .inl ⟨_, .inl (S2 _ _ k1)⟩, _, rfl, _, rfl, q, rfl, .inl ⟨_, .inl k2⟩, _, rfl, _, DGet.k (k := Sum.inr x) k2, _, DGet.k (k := Sum.inr x) (S2 _ _ k1), fin⟩
end
section
variable {P : Program} {w : World} {K : PySem.W.Frag} {mg : Str -> Option Value} {base : Heap} {kP kS : List (Str × Tok × Addr)}
def kdC (c : Nat) : Str := if c = 97 then "name" else "number"
def Zq59 (l : List Nat) : List Str := (l.filter fun c => c != 43).map kdC
def Fms (K : PySem.W.Frag) (kP kS : List (Str × Tok × Addr)) : Prop := ∀ q ∈ fm10, (43 ∉ cs q.2 /\ ∃ t, kdAt kP q.1 = some t /\ kdAt kS q.1 = none /\ ∀ H, SqT K H t ((Zq59 (cs q.2)).map V.str)) \/ (43 ∈ cs q.2 /\ kdAt kP q.1 = none /\ ∃ t, kdAt kS q.1 = some t /\ ∀ H, SqT K H t ((Zq59 (cs q.2)).map V.str))
theorem fm_facts : ∀ q ∈ fm10, ((∀ c ∈ cs q.1, 97 <= c /\ c <= 122) /\ 1 <= q.1.length /\ q.1.length <= 10) /\ q.2.length <= 6 /\ ∀ i, i < q.2.length -> (q.2.cps.getD i 0 = 97 \/ q.2.cps.getD i 0 = 98) \/ (q.2.cps.getD i 0 = 43 /\ i + 1 = q.2.length) := by
  intro q hq
  simp only [fm10, List.mem_cons, List.not_mem_nil, or_false] at hq
  rcases hq with rfl | rfl | rfl | rfl | rfl | rfl | rfl | rfl | rfl | rfl <;> exact ⟨⟨by decide +kernel, by decide +kernel, by decide +kernel⟩, by decide +kernel, by decide +kernel⟩
theorem fm_at {d : Int} (h0 : 0 <= d) (h1 : d < 10) : ∃ q ∈ fm10, atI ((fm10.map (·.1)).map V.str) d = some (.str q.1) := by
  obtain ⟨j, rfl⟩ := Int.eq_ofNat_of_zero_le h0
  have hj : j < fm10.length := by show j < 10; omega
  exact ⟨fm10[j], List.getElem_mem hj, Zq79 (by rw [List.getElem?_map, List.getElem?_map, List.getElem?_eq_getElem hj]; rfl)⟩
theorem sxfree {H H' : Hp} {s la l : Addr} (hs' : SrcAt H' s la) (sx : SameX s H H') (hl : H' l = none) : H l = none := by
  cases e : H l with
  | none => rfl
  | some o =>
    by_cases z' : l = s
    · subst z'
      obtain ⟨_, _, _, _, _, hsl, _⟩ := hs'
      rw [hsl] at hl; cases hl
    · rw [sx _ _ z' e] at hl; cases hl
theorem kds_snoc (l : List Nat) (c : Nat) : Zq59 (l ++ [c]) = Zq59 l ++ (if c = 43 then [] else [kdC c]) := by
  unfold Zq59
  rw [List.filter_append, List.map_append]
  by_cases h : c = 43
  · rw [if_pos h, h]; rfl
  · rw [if_neg h, List.filter_cons_of_pos (by simpa using h)]; rfl
def spAny (K : PySem.W.Frag) (kP kS : List (Str × Tok × Addr)) : Sp := fun vs H Q _ => ∃ (s la na : Addr) (names : List Str), vs = [.ref s, .ref na] /\ SrcAt H s la /\ H na = some (.lst (names.map V.str)) /\ na ≠ s /\ 1 <= names.length /\ names.length <= 100 /\ (∀ n ∈ names, Zq42 n) /\ Fms K kP kS /\
  ∀ (d : Dd) (p ra rb : Addr) (H' : Hp), DdOk K kP kS d -> DdAt H' d p ra rb -> SrcAt H' s la -> SameX s H H' -> Q (.ref p) H'
structure Prts (H : Hp) (names : List Str) (x f : Str) (i : Nat) (lp : Addr) (ps : List Pt) (rw : Option (List Str × List Str)) (ra rb : Addr) : Prop where
  lst : H lp = some (.lst (.str x :: (ps.map ptV ++ Zq20 rw ra rb)))
  ok : ∀ p ∈ ps, PtOk p
  kd : ps.map ptK = Zq59 ((cs f).take i)
  tl : (43 ∉ (cs f).take i /\ rw = none) \/ (43 ∈ (cs f).take i /\ rw ≠ none)
  at_ : tailAt H rw ra rb
  row : Rows (fun a => (∀ y ∈ a, Zq42 y) /\ a.length <= 15) rw
abbrev Zq15 : Stmt := top 29
theorem Zq43 : FnScope ["_law_src_here", "_law_names_here", "_law_words", "_law_word_here", "_law_parts", "_law_sign"] ["_law_src_here", "_law_names_here"] (Zq0 Zq15) := ⟨rfl, rfl, rfl, by decide +kernel, rfl, by decide +kernel, by decide +kernel⟩
theorem Nq116 : Nm (Zq0 Zq15) "_law_form" .globalImplicit := by decide +kernel
theorem Nq24 : Nm (Zq0 Zq15) "_law_names_here" .local := by decide +kernel
theorem Nq75 : Nm (Zq0 Zq15) "_law_next" .globalImplicit := by decide +kernel
theorem Nq117 : Nm (Zq0 Zq15) "_law_number" .globalImplicit := by decide +kernel
theorem Nq9 : Nm (Zq0 Zq15) "_law_parts" .local := by decide +kernel
theorem Nq76 : Nm (Zq0 Zq15) "_law_row" .globalImplicit := by decide +kernel
theorem Nq38 : Nm (Zq0 Zq15) "_law_sign" .local := by decide +kernel
theorem Nq15 : Nm (Zq0 Zq15) "_law_src_here" .local := by decide +kernel
theorem Nq39 : Nm (Zq0 Zq15) "_law_word_here" .local := by decide +kernel
theorem Nq77 : Nm (Zq0 Zq15) "_law_words" .local := by decide +kernel
theorem Nq118 : Nm (Zq0 Zq15) "len" .globalImplicit := by decide +kernel
theorem Nq119 : Nm (Zq0 Zq15) "tuple" .globalImplicit := by decide +kernel
theorem Zq144 (Zq96 : Has K mg "_law_any_deed" Zq15) (T : Txt mg) (Zq13 : Fn P w K mg base "_law_next" ["_law_src_here", "_law_base"] 1 Zq103) (Zq156 : Fn P w K mg base "_law_number" ["_law_src_here"] 2 spNo) (Zq145 : Fn P w K mg base "_law_row" ["_law_src_here", "_law_names_here"] 2 spRow) (Zq175 : Fn P w K mg base "_law_form" ["_law_word_here"] 1 spForm) :
    Fn P w K mg base "_law_any_deed" ["_law_src_here", "_law_names_here"] 3 (spAny K kP kS) := by
  refine Zq96.fnQ Zq43 (fun _ _ _ _ _ _ us hl => match us, hl with | [_, _], _ => rfl) (fun vs H Q E h => ?_) (fun f cdv A outer s H vs Q E hr h => ?_)
  · obtain ⟨s, la, na, names, rfl, _⟩ := h
    rfl
  · obtain ⟨s, la, na, names, rfl, hs, hna, nns, l0, l1, hnm, fms, k⟩ := h
    refine ⟨_, (Zq3 (Zq10 (i := 2) Zq43.nd Nq77 (Zq71 (Zq1 Zq7 (Zq1 Zq7 (Zq1 Zq7 (Zq1 Zq7 (Zq1 Zq7 (Zq1 Zq7 (Zq1 Zq7 (Zq1 Zq7 (Zq1 Zq7 (Zq1 Zq7 Zq2))))))))))))
 (Zq3 (Zq10 (i := 3) Zq43.nd Nq39 (Zq28 Zq27 (qvN 2 Nq77) (Zq8 Zq13 (hr.mono (by omega)) Nq75 (Zq1 (qvN 0 Nq15) (Zq1 Zq4 Zq2))) (fun _ _ => rfl)))
 (Zq3 (Zq10 (i := 4) Zq43.nd Nq9 (Zq71 (Zq1 (qvN 3 Nq39) Zq2)))
 (Zq3 (Zq100 PassesOwn.never rfl (qi_str (Zq8 Zq175 (hr.mono (by omega)) Nq116 (Zq1 (qvN 3 Nq39) Zq2))) (Zq67 (i := 5) Zq43.nd Nq38)
  (Zq6 (Zq26 (Zq25 Zq72 (qvN 5 Nq38) Zq7 (Zq29 _)) (Zq6 (qs_expr (Zq110 F.plainAttrs_list F.slot_list_append F.type_list_append qmt_append (qvN 4 Nq9) (Zq1 (Zq28 Zq27 (qvN 1 Nq24) (Zq8 Zq13 (hr.mono (by omega)) Nq75 (Zq1 (qvN 0 Nq15) (Zq1 (Zq11 Zq48 Nq118 T.len Zq88 (Zq1 (qvN 1 Nq24) Zq2)) Zq2))) (fun _ _ => rfl)) Zq2)))) (Zq6 (Zq26 (Zq25 Zq72 (qvN 5 Nq38) Zq7 (Zq29 _)) (Zq6 (qs_expr (Zq110 F.plainAttrs_list F.slot_list_append F.type_list_append qmt_append (qvN 4 Nq9) (Zq1 (Zq8 Zq156 (hr.mono (by omega)) Nq117 (Zq1 (qvN 0 Nq15) Zq2)) Zq2)))) (Zq6 (Zq10 (i := 4) Zq43.nd Nq9 (Zq16 Zq91 (qvN 4 Nq9) (Zq71 (Zq1 (Zq8 Zq145 (hr.mono (by omega)) Nq76 (Zq1 (qvN 0 Nq15) (Zq1 (qvN 1 Nq24) Zq2))) (Zq1 (Zq8 Zq145 (hr.mono (by omega)) Nq76 (Zq1 (qvN 0 Nq15) (Zq1 (qvN 1 Nq24) Zq2))) Zq2)))))))))))
 (Zq6 (Zq14 (Zq45 qcall_tuple_of Nq119 T.tuple b_tuple (Zq1 (qvN 4 Nq9) Zq2)))))))), ?_⟩
    have hz : (5000 : Nat) <= sizeLine := by decide
    refine ⟨by show 10 <= sizeLine; omega, fun wl hwl => ?_⟩
    have S1 := Same.new (o := .lst ((fm10.map (·.1)).map V.str)) hwl
    have k1 : (upd H wl (.lst ((fm10.map (·.1)).map V.str))) wl = some (.lst ((fm10.map (·.1)).map V.str)) := Zq5
    refine gset ?_
    dsimp only [Zq40]
    have nw : wl ≠ s := (hs.ne hwl).1
    refine ⟨_, rfl, _, rfl, s, la, 10, rfl, hs.keep S1, by decide, by decide, fun d H2 d0 d1 hs2 sx2 => ?_⟩
    obtain ⟨q, hq, eq⟩ := fm_at d0 d1
    refine ⟨wl, _, d, .str q.1, rfl, rfl, SqL.of (sx2 _ _ nw k1), eq, ?_⟩
    have sxA := S1.x.trans sx2
    obtain ⟨hw, hf6, hsh⟩ := fm_facts q hq
    refine gset ?_
    dsimp only [Zq40]
    refine ⟨_, rfl, by show 1 <= sizeLine; omega, fun lp hlp => ?_⟩
    have S3 := Same.new (o := .lst [.str q.1]) hlp
    have k3 : (upd H2 lp (.lst [.str q.1])) lp = some (.lst [.str q.1]) := Zq5
    have flp := sxfree hs2 sxA hlp
    generalize (upd H2 lp (.lst [.str q.1])) = H3 at S3 k3 ⊢
    have hs3 := hs2.keep S3
    have sx3 := sxA.trans S3.x
    refine gset ?_
    dsimp only [Zq40]
    refine ⟨_, rfl, q.1, q.2, rfl, hq, fun H4 s4 => ?_⟩
    refine ⟨q.2, rfl, ?_⟩
    have no43 : ∀ i, i < q.2.length -> 43 ∉ (cs q.2).take i := fun i hi hm => by
      obtain ⟨m, hm1, hm2⟩ := List.getElem_of_mem hm
      rw [List.length_take] at hm1
      have hml : m < q.2.length := by omega
      have e1 := Zq104 hml
      have e2 : (cs q.2)[m]? = some 43 := by rw [← hm2, List.getElem_take]; exact List.getElem?_eq_getElem _
      rw [e1] at e2
      have e3 := Option.some.inj e2
      rcases hsh m hml with (z | z) | ⟨_, z⟩ <;> omega
    refine forW_str (fun i σ H' => ∃ (v5 : Option V) (lp : Addr) (ps : List Pt) (rw : Option (List Str × List Str)) (ra rb : Addr), σ = [some (.ref s), some (.ref na), some (.ref wl), some (.str q.1), some (.ref lp), v5] /\ Prts H' names q.1 q.2 i lp ps rw ra rb /\ ps.length <= i /\ H lp = none /\ SrcAt H' s la /\ SameX s H H')
      ⟨none, lp, [], none, 0, 0, rfl, ⟨s4 _ _ k3, (fun p hp => nomatch hp), rfl, .inl ⟨(fun z => nomatch z), rfl⟩, trivial, trivial⟩, Nat.le_refl _, flp, hs3.keep s4, sx3.trans s4.x⟩ ?_ ?_
    · rintro i σ H' hi ⟨v5, lp, ps, rw', ra, rb, rfl, pr, hpl, flp, hs', sx'⟩
      have hn43 := no43 i hi
      have erw : rw' = none := by
        rcases pr.tl with ⟨_, z⟩ | ⟨z, _⟩
        · exact z
        · exact absurd z hn43
      subst erw
      have hlst : H' lp = some (.lst (.str q.1 :: ps.map ptV)) := by have := pr.lst; rw [show ps.map ptV ++ Zq20 none ra rb = ps.map ptV from List.append_nil _] at this; exact this
      have hna' := sx' _ _ nns hna
      have nlps : lp ≠ s := fun z => by subst z; obtain ⟨_, _, _, _, _, hsl, _⟩ := hs; rw [hsl] at flp; cases flp
      have etk : (cs q.2).take (i + 1) = (cs q.2).take i ++ [q.2.cps.getD i 0] := by rw [List.take_add_one, Zq104 hi]; rfl
      have upx : ∀ {H5 : Hp} {o : HO}, SameX s H H5 -> SameX s H (upd H5 lp o) := fun h b o nb e => by rw [Zq9 (fun z => by rw [z, flp] at e; cases e)]; exact h b o nb e
      have ups : ∀ {H5 : Hp} {xs ys : List V}, SrcAt H5 s la -> H5 lp = some (.lst (.str q.1 :: xs)) -> SrcAt (upd H5 lp (.lst ys)) s la := fun h e => by
        obtain ⟨ns, i, big, st, cnt, h1, h2, h3, h4⟩ := id h
        exact h.keepX SameX.upd nlps (fun z => by rw [z, h2] at e; cases ns with | nil => cases e | cons a r => cases e)
      rw [show sgn q.2 i = V.str ⟨#[q.2.cps.getD i 0]⟩ from rfl]
      rcases hsh i hi with (ec | ec) | ⟨ec, ei⟩
      · rw [ec] at etk
        rw [ec]
        refine ⟨_, rfl, rfl, _, rfl, iteD (fun _ => ?_) (fun z => absurd (by decide +kernel) z)⟩
        refine ⟨_, rfl, .inl ⟨rfl, _, SqL.of hlst⟩, _, rfl, _, rfl, _, rfl, na, _, rfl, .inl (SqL.of hna'), s, la, _, rfl, hs', by rw [List.length_map]; omega, by rw [List.length_map]; omega, fun d5 H5 e50 e51 hs5 sx5 => ?_⟩
        rw [List.length_map] at e51
        obtain ⟨j, rfl⟩ := Int.eq_ofNat_of_zero_le e50
        have hj : j < names.length := by omega
        have hl5 := sx5 _ _ nlps hlst
        refine ⟨na, _, (j : Int), .str names[j], rfl, rfl, SqL.of (sx5 _ _ nns hna'), Zq79 (by rw [List.getElem?_map, List.getElem?_eq_getElem hj]; rfl), lp, _, _, rfl, rfl, hl5, by rw [List.length_cons, List.length_map]; omega, ?_⟩
        refine ⟨_, lp, ps ++ [.nm names[j]], none, 0, 0, rfl, ⟨?_, fun p hp => ?_, ?_, .inl ⟨?_, rfl⟩, trivial, trivial⟩, by rw [List.length_append, List.length_singleton]; omega, flp, ups hs5 hl5, upx (sx'.trans sx5)⟩
        · rw [Zq5, List.map_append]
          show some (HO.lst (V.str q.1 :: ps.map ptV ++ [V.str names[j]])) = some (HO.lst (V.str q.1 :: (ps.map ptV ++ [V.str names[j]] ++ [])))
          rw [List.append_nil]
          rfl
        · rcases List.mem_append.mp hp with y | y
          · exact pr.ok p y
          · rw [List.mem_singleton.mp y]; exact hnm _ (List.getElem_mem hj)
        · rw [etk, kds_snoc, List.map_append, pr.kd]
          rfl
        · rw [etk]
          intro z
          rcases List.mem_append.mp z with y | y
          · exact hn43 y
          · exact absurd (List.mem_singleton.mp y) (by decide)
      · rw [ec] at etk
        rw [ec]
        refine ⟨_, rfl, rfl, _, rfl, iteD (fun z => absurd z (by decide +kernel)) (fun _ => ?_)⟩
        refine ⟨_, rfl, rfl, _, rfl, iteD (fun _ => ?_) (fun z => absurd (by decide +kernel) z)⟩
        refine ⟨_, rfl, .inl ⟨rfl, _, SqL.of hlst⟩, _, rfl, s, la, rfl, hs', fun v H5 hv hs5 sx5 => ?_⟩
        have hl5 := sx5 _ _ nlps hlst
        refine ⟨lp, _, _, rfl, rfl, hl5, by rw [List.length_cons, List.length_map]; omega, ?_⟩
        refine ⟨_, lp, ps ++ [.no v], none, 0, 0, rfl, ⟨?_, fun p hp => ?_, ?_, .inl ⟨?_, rfl⟩, trivial, trivial⟩, by rw [List.length_append, List.length_singleton]; omega, flp, ups hs5 hl5, upx (sx'.trans sx5)⟩
        · rw [Zq5, List.map_append]
          show some (HO.lst (V.str q.1 :: ps.map ptV ++ [V.int v])) = some (HO.lst (V.str q.1 :: (ps.map ptV ++ [V.int v] ++ [])))
          rw [List.append_nil]
          rfl
        · rcases List.mem_append.mp hp with y | y
          · exact pr.ok p y
          · rw [List.mem_singleton.mp y]; exact hv
        · rw [etk, kds_snoc, List.map_append, pr.kd]
          rfl
        · rw [etk]
          intro z
          rcases List.mem_append.mp z with y | y
          · exact hn43 y
          · exact absurd (List.mem_singleton.mp y) (by decide)
      · rw [ec] at etk
        rw [ec]
        refine ⟨_, rfl, rfl, _, rfl, iteD (fun z => absurd z (by decide +kernel)) (fun _ => ?_)⟩
        refine ⟨_, rfl, rfl, _, rfl, iteD (fun z => absurd z (by decide +kernel)) (fun _ => ?_)⟩
        refine ⟨_, rfl, _, rfl, _, rfl, s, la, na, names, rfl, hs', hna', nns, l0, l1, fun ra xa H5 hxa lxa fra kra hs5 sx5 => ?_⟩
        have hna5 := sx5 _ _ nns hna'
        refine ⟨_, rfl, _, rfl, s, la, na, names, rfl, hs5, hna5, nns, l0, l1, fun rb xb H6 hxb lxb frb krb hs6 sx6 => ?_⟩
        have nra : ra ≠ s := (hs'.ne fra).1
        have kra6 := sx6 _ _ nra kra
        have nab : ra ≠ rb := fun z => by rw [z] at kra; rw [kra] at frb; cases frb
        have hl6 := sx6 _ _ nlps (sx5 _ _ nlps hlst)
        refine ⟨by show 2 <= sizeLine; omega, fun l7 hl7 => ?_⟩
        have S7 := Same.new (o := .lst [.ref ra, .ref rb]) hl7
        have k7 : (upd H6 l7 (.lst [.ref ra, .ref rb])) l7 = some (.lst [.ref ra, .ref rb]) := Zq5
        generalize (upd H6 l7 (.lst [.ref ra, .ref rb])) = H7 at S7 k7 ⊢
        refine ⟨lp, l7, _, _, rfl, rfl, S7 _ _ hl6, k7, by rw [List.length_cons, List.length_map]; show ps.length + 1 + 2 <= sizeLine; omega, fun l8 hl8 => ?_⟩
        have S8 := Same.new (o := .lst ((V.str q.1 :: ps.map ptV) ++ [.ref ra, .ref rb])) hl8
        have k8 : (upd H7 l8 (.lst ((V.str q.1 :: ps.map ptV) ++ [.ref ra, .ref rb]))) l8 = some (.lst ((V.str q.1 :: ps.map ptV) ++ [.ref ra, .ref rb])) := Zq5
        generalize (upd H7 l8 (.lst ((V.str q.1 :: ps.map ptV) ++ [.ref ra, .ref rb]))) = H8 at S8 k8 ⊢
        have S68 := S7.trans S8
        have sx8 := ((sx'.trans sx5).trans sx6).trans S7.x
        refine ⟨_, l8, ps, some (xa, xb), ra, rb, rfl, ⟨k8, pr.ok, ?_, .inr ⟨?_, (fun z => nomatch z)⟩, ⟨S68 _ _ kra6, S68 _ _ krb, nab⟩, ⟨⟨fun y hy => hnm y (hxa y hy), lxa⟩, ⟨fun y hy => hnm y (hxb y hy), lxb⟩⟩⟩, by omega, sxfree (hs6.keep S7) sx8 hl8, hs6.keep S68, sx8.trans S8.x⟩
        · rw [etk, kds_snoc, if_pos rfl, List.append_nil]; exact pr.kd
        · rw [etk]; exact List.mem_append_right _ (List.mem_singleton.mpr rfl)
    · rintro σ H' ⟨v5, lp, ps, rw', ra, rb, rfl, pr, hpl, flp, hs', sx'⟩
      have hfl : (cs q.2).take q.2.length = cs q.2 := by rw [← Zq37, List.take_length]
      obtain ⟨h1, h2, h3, h4, h5, h6⟩ := pr
      rw [hfl] at h3 h4
      refine ⟨_, rfl, lp, _, rfl, .inl ⟨SqL.of h1, fun p hp => ?_⟩⟩
      have S := Same.new (o := .tup (.str q.1 :: (ps.map ptV ++ Zq20 rw' ra rb))) hp
      have kp : (upd H' p (.tup (.str q.1 :: (ps.map ptV ++ Zq20 rw' ra rb)))) p = some (.tup (.str q.1 :: (ps.map ptV ++ Zq20 rw' ra rb))) := Zq5
      generalize (upd H' p (.tup (.str q.1 :: (ps.map ptV ++ Zq20 rw' ra rb)))) = H5 at S kp ⊢
      refine k ⟨q.1, ps, rw'⟩ p ra rb H5 ⟨hw, h2, (by show ps.length <= 10; omega), h6, ?_⟩ ⟨kp, ?_⟩ (hs'.keep S) (sx'.trans S.x)
      · have ek : (ps.map fun p => V.str (ptK p)) = (Zq59 (cs q.2)).map V.str := by rw [← h3, List.map_map]; rfl
        show (rw' = none /\ ∃ t, kdAt kP q.1 = some t /\ kdAt kS q.1 = none /\ ∀ H, SqT K H t (ps.map fun p => V.str (ptK p))) \/ (rw' ≠ none /\ kdAt kP q.1 = none /\ ∃ t, kdAt kS q.1 = some t /\ ∀ H, SqT K H t (ps.map fun p => V.str (ptK p)))
        rw [ek]
        rcases fms q hq with ⟨z, hh⟩ | ⟨z, hh⟩
        · rcases h4 with ⟨_, y⟩ | ⟨y, _⟩
          · exact .inl ⟨y, hh⟩
          · exact absurd y z
        · rcases h4 with ⟨y, _⟩ | ⟨_, y⟩
          · exact absurd z y
          · exact .inr ⟨y, hh⟩
      · cases rw' with
        | none => trivial
        | some ab => exact ⟨S _ _ h5.1, S _ _ h5.2.1, h5.2.2⟩
end
section
variable {P : Program} {w : World} {K : PySem.W.Frag} {mg : Str -> Option Value} {base : Heap} {kP kS : List (Str × Tok × Addr)}
theorem join_snoc {ws : List Str} (h : ws ≠ []) (x : Str) : Str.join " " (ws ++ [x]) = Str.join " " ws ++ " " ++ x := by
  apply cs_inj
  rw [cs_join, Zq56, Zq56, cs_join]
  have e1 : cs (" " : Str) = [32] := by decide +kernel
  rw [e1]
  have : ∀ as : List (List Nat), as ≠ [] -> jn (as ++ [cs x]) = jn as ++ [32] ++ cs x := by
    intro as
    induction as with
    | nil => intro h; exact absurd rfl h
    | cons a r ih =>
      intro _
      cases r with
      | nil => show a ++ 32 :: cs x = a ++ [32] ++ cs x; rw [List.append_assoc]; rfl
      | cons b r =>
        show a ++ 32 :: jn ((b :: r) ++ [cs x]) = (a ++ 32 :: jn (b :: r)) ++ [32] ++ cs x
        rw [ih (by simp), List.append_assoc, List.append_assoc, List.append_assoc]
        rfl
  rw [List.map_append]
  exact this _ (by intro z; exact h (List.map_eq_nil_iff.mp z))
theorem len_join12 : ∀ ws : List Str, (∀ x ∈ ws, x.length <= 12) -> (Str.join " " ws).length <= 13 * ws.length
  | [], _ => by decide
  | [x], h => by have := h x List.mem_cons_self; show x.length <= 13 * 1; omega
  | x :: y :: r, h => by
    have h1 := h x List.mem_cons_self
    have h2 := len_join12 (y :: r) fun z hz => h z (List.mem_cons_of_mem _ hz)
    show (x ++ " " ++ Str.join " " (y :: r)).length <= _
    rw [PySem.Str.length_append, PySem.Str.length_append, List.length_cons]
    have e : (" " : Str).length = 1 := by decide +kernel
    omega
theorem pt_len {p : Pt} (h : PtOk p) : (ptS p).length <= 12 := by
  cases p with
  | nm x => exact h.2.2
  | no i => have := (num_ok h).l9; show (num i).length <= 12; omega
theorem toks_len {d : Dd} (h : DdOk K kP kS d) : (∀ x ∈ toks d, x.length <= 12) /\ (toks d).length <= 43 := by
  have hl := h.len
  refine ⟨fun x hx => ?_, ?_⟩
  · rcases List.mem_cons.mp hx with rfl | hx
    · have := h.word.2.2; omega
    rcases List.mem_append.mp hx with hx | hx
    · obtain ⟨p, hp, rfl⟩ := List.mem_map.mp hx
      exact pt_len (h.ps p hp)
    · have hr := h.rows
      cases e : d.rows with
      | none => rw [e] at hx; cases hx
      | some ab =>
        obtain ⟨a, b⟩ := ab
        rw [e] at hx hr
        rcases List.mem_cons.mp hx with rfl | hx
        · decide +kernel
        rcases List.mem_append.mp hx with hx | hx
        · exact (hr.1.1 x hx).2.2
        rcases List.mem_cons.mp hx with rfl | hx
        · decide +kernel
        · exact (hr.2.1 x hx).2.2
  · have hr := h.rows
    unfold toks
    rw [List.length_cons, List.length_append, List.length_map]
    cases e : d.rows with
    | none => show d.ps.length + 0 + 1 <= 43; omega
    | some ab =>
      obtain ⟨a, b⟩ := ab
      rw [e] at hr
      have := hr.1.2
      have := hr.2.2
      show d.ps.length + (("+" : Str) :: (a ++ ("-" : Str) :: b)).length + 1 <= 43
      rw [List.length_cons, List.length_append, List.length_cons]
      omega
theorem text_join (d : Dd) : text d = Str.join " " (toks d) := StrLaws.glued_eq_join " " (toks d)
theorem text_len {d : Dd} (h : DdOk K kP kS d) : (text d).length + 2 <= sizeLine /\ ((toks d).map (·.length)).sum + (toks d).length <= 16777216 := by
  obtain ⟨h1, h2⟩ := toks_len h
  have h3 := len_join12 (toks d) h1
  have hz : (5000 : Nat) <= sizeLine := by decide
  refine ⟨by rw [text_join]; omega, ?_⟩
  have : ∀ l : List Str, (∀ x ∈ l, x.length <= 12) -> (l.map (·.length)).sum <= 12 * l.length := by
    intro l
    induction l with
    | nil => intro _; exact Nat.le_refl _
    | cons x r ih =>
      intro h
      have a := h x List.mem_cons_self
      have b := ih fun y hy => h y (List.mem_cons_of_mem _ hy)
      rw [List.map_cons, List.sum_cons, List.length_cons]
      omega
  have := this _ h1
  omega
end
section
variable {P : Program} {w : World} {K : PySem.W.Frag} {mg : Str -> Option Value} {base : Heap} {kP kS : List (Str × Tok × Addr)}
theorem strs_mk {H : Hp} : ∀ ns : List Str, RepL H (ns.map D.str) (ns.map V.str)
  | [] => rfl
  | n :: ns => ⟨.str n, ns.map V.str, rfl, rfl, strs_mk ns⟩
def ptD : Pt -> D
  | .nm x => .str x
  | .no i => .int i
theorem pt_rep {H : Hp} (p : Pt) : Rep H (ptD p) (ptV p) := by cases p <;> rfl
theorem pt_notlist (p : Pt) : isI (ptD p) "list" = false := by cases p <;> rfl
def tailP : Option (List Str × List Str) -> List (List Str)
  | none => []
  | some (a, b) => [("+" : Str) :: a, ("-" : Str) :: b]
def pcs (d : Dd) : List (List Str) := d.ps.map (fun p => [ptS p]) ++ tailP d.rows
theorem pcs_all (d : Dd) : d.w :: (pcs d).flatten = toks d := by
  unfold pcs toks
  rw [List.flatten_append]
  have e1 : (d.ps.map fun p => [ptS p]).flatten = d.ps.map ptS := by
    induction d.ps with
    | nil => rfl
    | cons p r ih => rw [List.map_cons, List.flatten_cons, ih]; rfl
  rw [e1]
  cases d.rows with
  | none => rfl
  | some ab => obtain ⟨a, b⟩ := ab; simp [tailP, tailS]
theorem app_plus (x : Str) : x ++ " +" = x ++ " " ++ "+" := by
  apply cs_inj
  rw [Zq56, Zq56, Zq56, List.append_assoc]
  have : cs (" +" : Str) = cs (" " : Str) ++ cs ("+" : Str) := by decide +kernel
  rw [this]
theorem app_minus (x : Str) : x ++ " -" = x ++ " " ++ "-" := by
  apply cs_inj
  rw [Zq56, Zq56, Zq56, List.append_assoc]
  have : cs (" -" : Str) = cs (" " : Str) ++ cs ("-" : Str) := by decide +kernel
  rw [this]
theorem pre_bnd {d : Dd} (h : DdOk K kP kS d) {ws : List Str} (hp : ws <+: toks d) : (Str.join " " ws).length <= 600 := by
  obtain ⟨r, e⟩ := hp
  obtain ⟨h1, h2⟩ := toks_len h
  have h3 := len_join12 ws fun x hx => h1 x (by rw [← e]; exact List.mem_append_left _ hx)
  have h4 : ws.length <= (toks d).length := by rw [← e, List.length_append]; omega
  omega
theorem pre_pcs (d : Dd) (i : Nat) : d.w :: ((pcs d).take i).flatten <+: toks d := by
  refine ⟨((pcs d).drop i).flatten, ?_⟩
  rw [List.cons_append, ← List.flatten_append, List.take_append_drop, pcs_all]
def spLShown (K : PySem.W.Frag) (kP kS : List (Str × Tok × Addr)) : Sp := fun vs H Q _ => ∃ (d : Dd) (p ra rb : Addr), vs = [.ref p] /\ DdAt H d p ra rb /\ DdOk K kP kS d /\ ∀ H', Same H H' -> Q (.str (text d)) H'
abbrev Zq33 : Stmt := top 30
theorem Zq35 : FnScope ["_law_deed", "_law_text", "_law_sign", "_law_part", "_law_name"] ["_law_deed"] (Zq0 Zq33) := ⟨rfl, rfl, rfl, by decide +kernel, rfl, by decide +kernel, by decide +kernel⟩
theorem Nq78 : Nm (Zq0 Zq33) "_law_deed" .local := by decide +kernel
theorem Nq79 : Nm (Zq0 Zq33) "_law_name" .local := by decide +kernel
theorem Nq25 : Nm (Zq0 Zq33) "_law_part" .local := by decide +kernel
theorem Nq40 : Nm (Zq0 Zq33) "_law_sign" .local := by decide +kernel
theorem Nq6 : Nm (Zq0 Zq33) "_law_text" .local := by decide +kernel
theorem Nq120 : Nm (Zq0 Zq33) "isinstance" .globalImplicit := by decide +kernel
theorem Nq121 : Nm (Zq0 Zq33) "list" .globalImplicit := by decide +kernel
theorem Nq122 : Nm (Zq0 Zq33) "str" .globalImplicit := by decide +kernel
theorem Zq163 (Zq122 : Has K mg "_law_shown" Zq33) (T : Txt mg) : Fn P w K mg base "_law_shown" ["_law_deed"] 1 (spLShown K kP kS) := by
  refine Zq122.fnQ Zq35 (fun _ _ _ _ _ _ us hl => match us, hl with | [_], _ => rfl) (fun vs H Q E h => ?_) (fun f cdv A outer s H vs Q E hr h => ?_)
  · obtain ⟨d, p, ra, rb, rfl, _⟩ := h
    rfl
  · obtain ⟨d, p, ra, rb, rfl, ⟨hp, htl⟩, ok, k⟩ := h
    refine ⟨_, (Zq3 (Zq10 (i := 1) Zq35.nd Nq6 (Zq28 Zq140 (qvN 0 Nq78) Zq4 (fun _ _ => rfl)))
 (Zq3 (Zq10 (i := 2) Zq35.nd Nq40 Zq7)
 (Zq3 (Zq100 PassesOwn.never rfl (qi_tup (Zq53 qsl_tup (qvN 0 Nq78) (Zq50 Zq4) Zq82)) (Zq67 (i := 3) Zq35.nd Nq25)
  (Zq6 (Zq26 (Zq52 (Zq11 Zq24 Nq120 T.isinstance Zq22 (Zq1 (qvN 3 Nq25) (Zq1 (Zq41 (v := .ty "list") Nq121 T.list Zq112 rfl) Zq2)))) (Zq3 (Zq10 (i := 1) Zq35.nd Nq6 (Zq16 Zq46 (qvN 1 Nq6) (qvN 2 Nq40)))
 (Zq3 (Zq10 (i := 2) Zq35.nd Nq40 Zq7)
 (Zq6 (Zq100 PassesOwn.never rfl (qi_list (qvN 3 Nq25)) (Zq67 (i := 4) Zq35.nd Nq79)
  (Zq6 (Zq10 (i := 1) Zq35.nd Nq6 (Zq16 Zq46 (Zq16 Zq46 (qvN 1 Nq6) Zq7) (qvN 4 Nq79)))))))) (Zq6 (Zq10 (i := 1) Zq35.nd Nq6 (Zq16 Zq46 (Zq16 Zq46 (qvN 1 Nq6) Zq7) (Zq45 qcall_str Nq122 T.str b_str (Zq1 (qvN 3 Nq25) Zq2))))))))
 (Zq6 (Zq14 (qvN 1 Nq6)))))), ?_⟩
    have hZ : (5000 : Nat) <= sizeLine := by decide
    have hps := ok.len
    refine ⟨_, rfl, p, _, 0, .str d.w, rfl, rfl, SqT.of hp, Zq79 (j := 0) rfl, ?_⟩
    refine gset ?_
    dsimp only [Zq40]
    refine gset ?_
    dsimp only [Zq40]
    refine ⟨_, rfl, _, rfl, p, _, rfl, SqT.of hp, (fun z => by have := z.1; rw [show (1 : Int) = ((1 : Nat) : Int) from rfl, HT.sIx_nat, List.length_cons] at this; omega), fun q hq => ?_⟩
    have ec : cutV (V.str d.w :: (d.ps.map ptV ++ Zq20 d.rows ra rb)) (some 1) none = d.ps.map ptV ++ Zq20 d.rows ra rb := cut_from _ 1 (by rw [List.length_cons]; omega)
    rw [ec]
    have Sq := Same.new (o := .tup (d.ps.map ptV ++ Zq20 d.rows ra rb)) hq
    have kq : (upd H q (.tup (d.ps.map ptV ++ Zq20 d.rows ra rb))) q = some (.tup (d.ps.map ptV ++ Zq20 d.rows ra rb)) := Zq5
    generalize (upd H q (.tup (d.ps.map ptV ++ Zq20 d.rows ra rb))) = H1 at Sq kq ⊢
    refine ⟨q, rfl, ⟨_, SqT.of kq⟩, ?_⟩
    refine forW_tup (d.ps.map ptV ++ Zq20 d.rows ra rb) (fun i σ H' => ∃ (v3 v4 : Option V), σ = [some (.ref p), some (.str (Str.join " " (d.w :: ((pcs d).take i).flatten))), some (.str (if i <= d.ps.length then " +" else " -")), v3, v4] /\ Same H1 H') ⟨none, none, rfl, Same.refl _⟩ (fun i σ H' _ ⟨_, _, _, e⟩ => SqT.of (e _ _ kq)) ?_ ?_
    · rintro i v σ H' hv ⟨v3, v4, rfl, sm⟩
      have s1 : (" " : Str).length = 1 := by decide +kernel
      have nx : ∀ {c : List Str}, (pcs d)[i]? = some c -> ((pcs d).take (i + 1)).flatten = ((pcs d).take i).flatten ++ c := fun {c} h => by rw [List.take_add_one, h, List.flatten_append]; simp
      have b0 := pre_bnd ok (pre_pcs d i)
      have b1 := pre_bnd ok (pre_pcs d (i + 1))
      by_cases hi : i < d.ps.length
      · rw [List.getElem?_append_left (by rw [List.length_map]; exact hi), List.getElem?_map] at hv
        obtain ⟨pt, hpt, rfl⟩ := Option.map_eq_some_iff.mp hv
        have hc : (pcs d)[i]? = some [ptS pt] := by unfold pcs; rw [List.getElem?_append_left (by rw [List.length_map]; exact hi), List.getElem?_map, hpt]; rfl
        have e := nx hc
        have ej : Str.join " " (d.w :: ((pcs d).take (i + 1)).flatten) = Str.join " " (d.w :: ((pcs d).take i).flatten) ++ " " ++ ptS pt := by rw [e, ← List.cons_append]; exact join_snoc (by simp) _
        obtain ⟨t1, ty1, e1⟩ := isi (K := K) (pt_rep (H := H') pt) "list" (by decide)
        rw [pt_notlist] at e1
        refine ⟨_, rfl, ptV pt, "list", t1, _, rfl, ty1, e1, _, rfl, iteF ?_⟩
        rw [ej] at b1
        rw [PySem.Str.length_append, PySem.Str.length_append] at b1
        have hs := pt_len (ok.ps pt (List.mem_of_getElem? hpt))
        have i1 : i <= d.ps.length := by omega
        have i2 : i + 1 <= d.ps.length := by omega
        refine ⟨_, rfl, _, _, rfl, rfl, by rw [s1]; omega, _, rfl, ?_⟩
        cases pt with
        | nm x =>
          have hs : x.length <= 12 := hs
          exact .inl ⟨x, rfl, _, _, rfl, rfl, by rw [PySem.Str.length_append, s1]; omega, some (.str x), v4, by rw [ej, if_pos i1, if_pos i2]; rfl, sm⟩
        | no j =>
          have hs : (num j).length <= 12 := hs
          exact .inr ⟨j, rfl, num_small (ok.ps _ (List.mem_of_getElem? hpt)), _, _, rfl, rfl, by rw [PySem.Str.length_append, s1]; show _ + 1 + (num j).length <= _; omega, some (.int j), v4, by rw [ej, if_pos i1, if_pos i2]; rfl, sm⟩
      · rw [List.getElem?_append_right (by rw [List.length_map]; omega), List.length_map] at hv
        obtain ⟨a, b, er⟩ : ∃ a b, d.rows = some (a, b) := by
          cases e : d.rows with
          | none => rw [e] at hv; cases hv
          | some ab => exact ⟨ab.1, ab.2, rfl⟩
        rw [er] at htl hv
        obtain ⟨hra, hrb, nab⟩ := htl
        obtain ⟨r, xs, sg, mk, hr, rfl, esg, ems, hc⟩ : ∃ (r : Addr) (xs : List Str) (sg mk : Str), H r = some (.lst (xs.map V.str)) /\ v = .ref r /\ (if i <= d.ps.length then (" +" : Str) else " -") = sg /\ (∀ x : Str, x ++ sg = x ++ " " ++ mk) /\ (pcs d)[i]? = some (mk :: xs) := by
          have pc : ∀ j, (pcs d)[d.ps.length + j]? = (tailP d.rows)[j]? := fun j => by unfold pcs; rw [List.getElem?_append_right (by rw [List.length_map]; omega), List.length_map, Nat.add_sub_cancel_left]
          by_cases e0 : i = d.ps.length
          · have := pc 0
            rw [er] at this
            rw [e0, Nat.sub_self] at hv
            cases hv
            exact ⟨ra, a, " +", "+", hra, rfl, if_pos (by omega), app_plus, by rw [e0]; exact this⟩
          · by_cases e1 : i = d.ps.length + 1
            · have := pc 1
              rw [er] at this
              rw [e1, Nat.add_sub_cancel_left] at hv
              cases hv
              exact ⟨rb, b, " -", "-", hrb, rfl, if_neg (by omega), app_minus, by rw [e1]; exact this⟩
            · rw [List.getElem?_eq_none (by show 2 <= i - d.ps.length; omega)] at hv; cases hv
        have e := nx hc
        obtain ⟨t1, ty1, e1⟩ := isi (K := K) (d := .lst (xs.map D.str)) (v := .ref r) (H := H') ⟨r, _, rfl, sm _ _ (Sq _ _ hr), strs_mk _⟩ "list" (by decide)
        rw [show isI (D.lst (xs.map D.str)) "list" = true from rfl] at e1
        refine ⟨_, rfl, .ref r, "list", t1, _, rfl, ty1, e1, _, rfl, iteT ?_⟩
        rw [esg]
        have ej0 : Str.join " " (d.w :: ((pcs d).take i).flatten) ++ sg = Str.join " " ((d.w :: ((pcs d).take i).flatten) ++ [mk]) := by rw [ems]; exact (join_snoc (by simp) _).symm
        have pf : ∀ j, (d.w :: ((pcs d).take i).flatten) ++ (mk :: xs.take j) <+: toks d := fun j => by
          refine List.IsPrefix.trans ?_ (pre_pcs d (i + 1))
          rw [e, ← List.cons_append]
          refine ⟨xs.drop j, ?_⟩
          rw [List.append_assoc, show (mk :: xs.take j) ++ xs.drop j = mk :: (xs.take j ++ xs.drop j) from rfl, List.take_append_drop]
        have sgl : sg.length <= 2 := by rw [← esg]; split <;> decide +kernel
        refine ⟨_, rfl, _, rfl, _, _, rfl, rfl, by omega, ?_⟩
        rw [ej0]
        refine gset ?_
        dsimp only [Zq40]
        refine gset ?_
        dsimp only [Zq40]
        have hr' := sm _ _ (Sq _ _ hr)
        refine ⟨_, rfl, r, rfl, ⟨_, SqL.of hr'⟩, ?_⟩
        refine forW_list (xs.map V.str) (fun j σ H2 => ∃ (v4 : Option V), σ = [some (.ref p), some (.str (Str.join " " ((d.w :: ((pcs d).take i).flatten) ++ (mk :: xs.take j)))), some (.str " -"), some (.ref r), v4] /\ Same H1 H2) ⟨v4, rfl, sm⟩ (fun j σ H2 _ ⟨_, _, s2⟩ => SqL.of (s2 _ _ (Sq _ _ hr))) ?_ ?_
        · rintro j y σ H2 hy ⟨w4, rfl, s2⟩
          rw [List.getElem?_map] at hy
          obtain ⟨x, hx, rfl⟩ := Option.map_eq_some_iff.mp hy
          have bj := pre_bnd ok (pf j)
          have bj1 := pre_bnd ok (pf (j + 1))
          have ej : Str.join " " ((d.w :: ((pcs d).take i).flatten) ++ (mk :: xs.take (j + 1))) = Str.join " " ((d.w :: ((pcs d).take i).flatten) ++ (mk :: xs.take j)) ++ " " ++ x := by
            rw [List.take_add_one, hx, show mk :: (xs.take j ++ (some x).toList) = (mk :: xs.take j) ++ [x] from rfl, ← List.append_assoc]
            exact join_snoc (by simp) _
          have bx := bj1
          rw [ej, PySem.Str.length_append, PySem.Str.length_append] at bx
          refine ⟨_, rfl, _, _, rfl, rfl, by rw [s1]; omega, _, rfl, _, _, rfl, rfl, by rw [PySem.Str.length_append, s1]; omega, some (.str x), by rw [ej]; rfl, s2⟩
        · rintro σ H2 ⟨w4, rfl, s2⟩
          refine ⟨some (.ref r), w4, ?_, s2⟩
          rw [List.length_map, List.take_length, e, ← List.cons_append, if_neg (by omega)]
    · rintro σ H' ⟨v3, v4, rfl, sm⟩
      have el : (d.ps.map ptV ++ Zq20 d.rows ra rb).length = (pcs d).length := by
        unfold pcs
        rw [List.length_append, List.length_append, List.length_map, List.length_map]
        cases d.rows <;> rfl
      rw [el, List.take_length, pcs_all, ← text_join]
      exact ⟨_, rfl, k _ (Sq.trans sm)⟩
end
section
variable {P : Program} {w : World} {K : PySem.W.Frag} {mg : Str -> Option Value} {base : Heap} {kP kS : List (Str × Tok × Addr)}
def tailD : Option (List Str × List Str) -> List D
  | none => []
  | some (a, b) => [.lst (a.map D.str), .lst (b.map D.str)]
def ddD (d : Dd) : D := .tup (.str d.w :: (d.ps.map ptD ++ tailD d.rows))
theorem tail_rep {H : Hp} {rw : Option (List Str × List Str)} {ra rb : Addr} (h : tailAt H rw ra rb) : RepL H (tailD rw) (Zq20 rw ra rb) := by
  cases rw with
  | none => rfl
  | some ab =>
    obtain ⟨a, b⟩ := ab
    obtain ⟨h1, h2, _⟩ := h
    exact ⟨.ref ra, [.ref rb], rfl, ⟨ra, _, rfl, h1, strs_mk _⟩, ⟨.ref rb, [], rfl, ⟨rb, _, rfl, h2, strs_mk _⟩, rfl⟩⟩
theorem ps_rep {H : Hp} {as : List D} {vs : List V} (h : RepL H as vs) : ∀ ps : List Pt, RepL H (ps.map ptD ++ as) (ps.map ptV ++ vs)
  | [] => h
  | p :: ps => ⟨ptV p, ps.map ptV ++ vs, rfl, pt_rep p, ps_rep h ps⟩
theorem dd_rep {H : Hp} {d : Dd} {p ra rb : Addr} (h : DdAt H d p ra rb) : Rep H (ddD d) (.ref p) := ⟨p, _, rfl, h.1, ⟨.str d.w, _, rfl, rfl, ps_rep (tail_rep h.2) d.ps⟩⟩
theorem deep_str0 : ∀ l : List Str, Zq69 (l.map D.str) = 0
  | [] => rfl
  | x :: l => by rw [List.map_cons, Zq69, deep_str0 l]; rfl
theorem deep_dd (d : Dd) : (ddD d).deep <= 4 := by
  have h : ∀ ps : List Pt, Zq69 (ps.map ptD ++ tailD d.rows) <= 1 := by
    intro ps
    induction ps with
    | nil =>
      cases d.rows with
      | none => exact Nat.zero_le _
      | some ab =>
        obtain ⟨a, b⟩ := ab
        show Zq69 [.lst (a.map D.str), .lst (b.map D.str)] <= 1
        simp [Zq69, D.deep, deep_str0]
    | cons p ps ih => cases p <;> (simp only [List.map_cons, List.cons_append, Zq69, ptD, D.deep]; omega)
  have := h d.ps
  unfold ddD
  simp only [D.deep, Zq69]
  omega
theorem DdAt.mono {H H' : Hp} {d : Dd} {p ra rb : Addr} (h : DdAt H d p ra rb) (k : Same H H') : DdAt H' d p ra rb := by
  refine ⟨k _ _ h.1, ?_⟩
  have h2 := h.2
  cases e : d.rows with
  | none => trivial
  | some ab => rw [e] at h2; exact ⟨k _ _ h2.1, k _ _ h2.2.1, h2.2.2⟩
abbrev Zq30 : Stmt := top 31
theorem sc_law : FnScope ["_law_script", "_law_src_here", "_law_names_here", "_law_k", "_law_deed", "_law_handed", "_law_text", "_law_found", "_law_part"] ["_law_script"] (Zq0 Zq30) := ⟨rfl, rfl, rfl, by decide +kernel, rfl, by decide +kernel, by decide +kernel⟩
theorem Nq123 : Nm (Zq0 Zq30) "_law_any_deed" .globalImplicit := by decide +kernel
theorem Nq10 : Nm (Zq0 Zq30) "_law_deed" .local := by decide +kernel
theorem Nq41 : Nm (Zq0 Zq30) "_law_found" .local := by decide +kernel
theorem Nq26 : Nm (Zq0 Zq30) "_law_handed" .local := by decide +kernel
theorem Nq124 : Nm (Zq0 Zq30) "_law_k" .local := by decide +kernel
theorem Nq125 : Nm (Zq0 Zq30) "_law_names" .globalImplicit := by decide +kernel
theorem Nq80 : Nm (Zq0 Zq30) "_law_names_here" .local := by decide +kernel
theorem Nq126 : Nm (Zq0 Zq30) "_law_next" .globalImplicit := by decide +kernel
theorem Nq42 : Nm (Zq0 Zq30) "_law_part" .local := by decide +kernel
theorem Nq16 : Nm (Zq0 Zq30) "_law_same" .globalImplicit := by decide +kernel
theorem Nq127 : Nm (Zq0 Zq30) "_law_script" .local := by decide +kernel
theorem Nq128 : Nm (Zq0 Zq30) "_law_shown" .globalImplicit := by decide +kernel
theorem Nq129 : Nm (Zq0 Zq30) "_law_src" .globalImplicit := by decide +kernel
theorem Nq27 : Nm (Zq0 Zq30) "_law_src_here" .local := by decide +kernel
theorem Nq17 : Nm (Zq0 Zq30) "_law_text" .local := by decide +kernel
theorem Nq130 : Nm (Zq0 Zq30) "isinstance" .globalImplicit := by decide +kernel
theorem Nq131 : Nm (Zq0 Zq30) "list" .globalImplicit := by decide +kernel
theorem Nq132 : Nm (Zq0 Zq30) "range" .globalImplicit := by decide +kernel
theorem Nq81 : Nm (Zq0 Zq30) "read_deed" .globalImplicit := by decide +kernel
theorem Nq82 : Nm (Zq0 Zq30) "shown_deed" .globalImplicit := by decide +kernel
theorem Nq133 : Nm (Zq0 Zq30) "tuple" .globalImplicit := by decide +kernel
theorem f_law {f : Addr} {fd : FuncData} (F_law : Fun K "law" "law" Zq30 f fd) (T : Txt mg) (fms : Fms K kP kS) (Zq180 : Fn P w K mg base "_law_src" ["_law_script"] 1 (spSrc K)) (Zq13 : Fn P w K mg base "_law_next" ["_law_src_here", "_law_base"] 1 Zq103)
    (Zq164 : Fn P w K mg base "_law_names" ["_law_src_here", "_law_many"] 3 spNames) (Zq146 : Fn P w K mg base "_law_any_deed" ["_law_src_here", "_law_names_here"] 3 (spAny K kP kS)) (Zq165 : Fn P w K mg base "_law_shown" ["_law_deed"] 1 (spLShown K kP kS))
    (Zq62 : Fn P w K mg base "_law_same" ["_law_found", "_law_due"] 6 (spSame 4)) (Zq139 : Fn P w K mg base "shown_deed" ["deed"] 1 (spShown K kP kS)) (Zq142 : Fn P w K mg base "read_deed" ["text"] 4 (spRead K kP kS)) :
    FnOk P w K mg base CX0 8 f fd ["_law_script"] (spLaw K) := by
  refine F_law.okQ sc_law (fun vs H Q E h => ?_) (fun cdv A outer s H vs Q E hr h => ?_)
  · obtain ⟨a, ns, rfl, _⟩ := h
    rfl
  · obtain ⟨a, ns, rfl, hS, hlen, k⟩ := h
    refine ⟨_, (Zq3 (Zq10 (i := 1) sc_law.nd Nq27 (Zq8 Zq180 (hr.mono (by omega)) Nq129 (Zq1 (qvN 0 Nq127) Zq2)))
 (Zq3 (Zq10 (i := 2) sc_law.nd Nq80 (Zq8 Zq164 (hr.mono (by omega)) Nq125 (Zq1 (qvN 1 Nq27) (Zq1 (Zq16 Zq55 Zq4 (Zq8 Zq13 (hr.mono (by omega)) Nq126 (Zq1 (qvN 1 Nq27) (Zq1 Zq4 Zq2)))) Zq2))))
 (Zq3 (Zq100 PassesOwn.never rfl (qi_range1 Nq132.1 T.range (Zq1 Zq4 Zq2)) (Zq67 (i := 3) sc_law.nd Nq124)
  (Zq3 (Zq10 (i := 4) sc_law.nd Nq10 (Zq8 Zq146 (hr.mono (by omega)) Nq123 (Zq1 (qvN 1 Nq27) (Zq1 (qvN 2 Nq80) Zq2))))
 (Zq3 (Zq10 (i := 5) sc_law.nd Nq26 (Zq45 qcall_tuple_of Nq133 T.tuple b_tuple (Zq1 (Zq68 (locs := ["_law_part"]) (fr := []) ⟨rfl, by decide +kernel, by decide +kernel, by decide +kernel, by decide +kernel, by decide +kernel⟩ .nil rfl (qi_tup (qvN 4 Nq10)) ⟨fun _ _ _ _ _ _ => by
    have cnd : (inN ["_law_part"] []).Nodup := by decide +kernel
    exact ⟨(qgLN 0 cnd), Zq83, (qe_ifExp (Zq52 (Zq11 qcall_isinstC nmC T.isinstance Zq22 (Zq1 (qvLN 0) (Zq1 (Zq41 (v := .ty "list") nmC T.list Zq112 rfl) Zq2)))) (Zq45 qcall_list_ofC nmC T.list Zq112 (Zq1 (qvLN 0) Zq2)) (qvLN 0))⟩⟩) Zq2)))
 (Zq3 (Zq10 (i := 6) sc_law.nd Nq17 (Zq8 Zq165 (hr.mono (by omega)) Nq128 (Zq1 (qvN 4 Nq10) Zq2)))
 (Zq3 (Zq26 (QW.pt (qw_or (Zq101 (Zq52 (Zq8 Zq62 (hr.mono (by omega)) Nq16 (Zq1 (Zq8 Zq139 (hr.mono (by omega)) Nq82 (Zq1 (qvN 5 Nq26) Zq2)) (Zq1 (qvN 6 Nq17) Zq2))))) (qw_or1 (Zq101 (Zq52 (Zq8 Zq62 (hr.mono (by omega)) Nq16 (Zq1 (qvN 5 Nq26) (Zq1 (qvN 4 Nq10) Zq2)))))))) (Zq6 (Zq14 Zq109)) Zq17)
 (Zq3 (Zq10 (i := 7) sc_law.nd Nq41 (Zq8 Zq142 (hr.mono (by omega)) Nq81 (Zq1 (qvN 6 Nq17) Zq2)))
 (Zq3 (Zq26 (Zq101 (Zq52 (Zq8 Zq62 (hr.mono (by omega)) Nq16 (Zq1 (qvN 7 Nq41) (Zq1 (qvN 4 Nq10) Zq2))))) (Zq6 (Zq14 Zq109)) Zq17)
 (Zq3 (Zq100 PassesOwn.never rfl (qi_tup (qvN 7 Nq41)) (Zq67 (i := 8) sc_law.nd Nq42)
  (Zq6 (Zq26 (Zq52 (Zq11 Zq24 Nq130 T.isinstance Zq22 (Zq1 (qvN 8 Nq42) (Zq1 (Zq41 (v := .ty "list") Nq131 T.list Zq112 rfl) Zq2)))) (Zq6 (qs_expr (Zq110 F.plainAttrs_list F.slot_list_append F.type_list_append qmt_append (qvN 8 Nq42) (Zq1 Zq7 Zq2)))) Zq17)))
 (Zq6 (Zq26 (QW.pt (qw_or (Zq101 (Zq52 (Zq8 Zq62 (hr.mono (by omega)) Nq16 (Zq1 (Zq8 Zq142 (hr.mono (by omega)) Nq81 (Zq1 (qvN 6 Nq17) Zq2)) (Zq1 (qvN 4 Nq10) Zq2))))) (qw_or1 (Zq101 (Zq52 (Zq8 Zq62 (hr.mono (by omega)) Nq16 (Zq1 (Zq8 Zq139 (hr.mono (by omega)) Nq82 (Zq1 (qvN 5 Nq26) Zq2)) (Zq1 (qvN 6 Nq17) Zq2)))))))) (Zq6 (Zq14 Zq109)) Zq17))))))))))
 (Zq6 (Zq14 Zq109))))), ?_⟩
    have hz : (5000 : Nat) <= sizeLine := by decide
    have ok : ∀ {d : D} {A B : Prop}, B -> if (!Zq38 d d) = true then A else B := fun h => iteNB (fun z => by rw [sameD_refl] at z; cases z) fun _ => h
    refine ⟨_, rfl, a, ns, rfl, hS, fun s la H1 hs hla hs1 sm1 => ?_⟩
    refine gset ?_
    dsimp only [Zq40]
    refine ⟨_, rfl, _, rfl, s, la, 6, rfl, hs1, by decide, by decide, fun d0 H2 d00 d01 hs2 sx2 => ?_⟩
    refine ⟨_, _, rfl, rfl, s, la, _, rfl, hs2, by omega, by omega, fun na names H3 hnl hnd hnm hnf hna hs3 sx3 => ?_⟩
    have nns := (hs2.ne hnf).1
    refine gset ?_
    dsimp only [Zq40]
    refine ⟨3, rfl, by decide, by decide, ?_⟩
    refine forW_range 3 rfl (fun i σ H' => ∃ (v3 v4 v5 v6 v7 v8 : Option V), σ = [some (.ref a), some (.ref s), some (.ref na), v3, v4, v5, v6, v7, v8] /\ SrcAt H' s la /\ H' na = some (.lst (names.map V.str))) ⟨none, none, none, none, none, none, rfl, hs3, hna⟩ ?_ ?_
    · rintro i σ H' hi ⟨v3, v4, v5, v6, v7, v8, rfl, hs', hna'⟩
      refine ⟨_, rfl, _, rfl, s, la, na, names, rfl, hs', hna', nns, by omega, by omega, hnm, fms, fun d p ra rb H4 dok D4 hs4 sx4 => ?_⟩
      have hna4 := sx4 _ _ nns hna'
      refine gset ?_
      dsimp only [Zq40]
      have hps := dok.len
      have D4' : H4 p = some (.tup ((wps d).map ptV ++ Zq20 d.rows ra rb)) := D4.1
      refine ⟨_, rfl, p, rfl, ⟨_, SqT.of D4'⟩, ?_⟩
      refine comp_tup (xs := (wps d).map ptV ++ Zq20 d.rows ra rb) (fun i ys H' => Same H4 H' /\ ((i <= (wps d).length /\ ys = ((wps d).take i).map ptV) \/ (i = (wps d).length + 1 /\ ∃ a b r1, d.rows = some (a, b) /\ ys = (wps d).map ptV ++ [.ref r1] /\ H' r1 = some (.lst (a.map V.str)) /\ H4 r1 = none) \/ (i = (wps d).length + 2 /\ ∃ a b r1 r2, d.rows = some (a, b) /\ ys = (wps d).map ptV ++ [.ref r1, .ref r2] /\ H' r1 = some (.lst (a.map V.str)) /\ H' r2 = some (.lst (b.map V.str)) /\ r1 ≠ r2)))
        ⟨Same.refl _, .inl ⟨Nat.zero_le _, rfl⟩⟩ (by rw [List.length_append, List.length_map]; show d.ps.length + 1 + _ <= _; cases d.rows <;> (simp [Zq20]; omega)) (fun i ys H' _ ⟨e, _⟩ => SqT.of (e _ _ D4')) ?_ ?_ ?_
      · rintro i ys H' ⟨_, ⟨h1, rfl⟩ | ⟨rfl, _, _, _, _, rfl, _⟩ | ⟨rfl, _, _, _, _, _, rfl, _⟩⟩
        · rw [List.length_map, List.length_take]; omega
        · rw [List.length_append, List.length_map]; exact Nat.le_refl _
        · rw [List.length_append, List.length_map]; exact Nat.le_refl _
      · rintro i v ys H' hv ⟨sm, hI⟩ ls hls
        obtain ⟨w0, rfl⟩ := len1 hls
        refine ⟨⟨[_], rfl, rfl⟩, ?_⟩
        have tlv : ∀ j, ((wps d).map ptV ++ Zq20 d.rows ra rb)[(wps d).length + j]? = (Zq20 d.rows ra rb)[j]? := fun j => by rw [List.getElem?_append_right (by rw [List.length_map]; omega), List.length_map, Nat.add_sub_cancel_left]
        have rowsat : ∀ {j : Nat}, (Zq20 d.rows ra rb)[j]? = some v -> ∃ a b, d.rows = some (a, b) /\ H4 ra = some (.lst (a.map V.str)) /\ H4 rb = some (.lst (b.map V.str)) := fun {j} h => by
          have h2 := D4.2
          cases e : d.rows with
          | none => rw [e] at h; cases h
          | some ab => rw [e] at h2; exact ⟨ab.1, ab.2, rfl, h2.1, h2.2.1⟩
        have islist : ∀ {r : Addr} {xs : List Str}, H' r = some (.lst (xs.map V.str)) -> ∃ t, TyOf K H' (.ref r) t /\ PySem.W.kitOne K t (.type "list") = some true := fun {r xs} h => isi (K := K) (d := .lst (xs.map D.str)) (v := .ref r) (H := H') ⟨r, _, rfl, h, strs_mk _⟩ "list" (by decide)
        rcases hI with ⟨h1, rfl⟩ | ⟨rfl, a', b', r1, er, rfl, kr1, fr1⟩ | ⟨rfl, a', b', r1, r2, er, rfl, _⟩
        · by_cases h2 : i < (wps d).length
          · rw [List.getElem?_append_left (by rw [List.length_map]; exact h2), List.getElem?_map] at hv
            obtain ⟨pt, hpt, rfl⟩ := Option.map_eq_some_iff.mp hv
            obtain ⟨t1, ty1, e1⟩ := isi (K := K) (pt_rep (H := H') pt) "list" (by decide)
            rw [pt_notlist] at e1
            refine ⟨_, rfl, ptV pt, "list", t1, _, rfl, ty1, e1, _, rfl, iteF ⟨_, rfl, sm, .inl ⟨h2, ?_⟩⟩⟩
            rw [List.take_add_one, hpt, List.map_append]
            rfl
          · have ei : i = (wps d).length := by omega
            subst ei
            have h0 := tlv 0
            rw [Nat.add_zero, hv] at h0
            obtain ⟨a', b', er, kra, krb⟩ := rowsat h0.symm
            have ev : v = .ref ra := by rw [er] at h0; exact Option.some.inj h0
            subst ev
            obtain ⟨t1, ty1, e1⟩ := islist (sm _ _ kra)
            refine ⟨_, rfl, .ref ra, "list", t1, _, rfl, ty1, e1, _, rfl, iteT ⟨_, rfl, ra, _, rfl, .inl (SqL.of (sm _ _ kra)), fun r1 hr1 => ⟨sm.trans (Same.new hr1), .inr (.inl ⟨rfl, a', b', r1, er, ?_, Zq5, sm.free hr1⟩)⟩⟩⟩
            rw [List.take_length]
        · have h0 := tlv 1
          rw [hv] at h0
          obtain ⟨a2, b2, er2, kra, krb⟩ := rowsat h0.symm
          have ev : v = .ref rb := by rw [er] at h0; exact Option.some.inj h0
          subst ev
          rw [er] at er2
          cases er2
          obtain ⟨t1, ty1, e1⟩ := islist (sm _ _ krb)
          refine ⟨_, rfl, .ref rb, "list", t1, _, rfl, ty1, e1, _, rfl, iteT ⟨_, rfl, rb, _, rfl, .inl (SqL.of (sm _ _ krb)), fun r2 hr2 => ⟨sm.trans (Same.new hr2), .inr (.inr ⟨rfl, a', b', r1, r2, er, by rw [List.append_assoc]; rfl, Same.new hr2 _ _ kr1, Zq5, Zq12 kr1 hr2⟩)⟩⟩⟩
        · have h0 := tlv 2
          rw [hv, er] at h0
          cases h0
      · rintro ys H5 ⟨sm, hI⟩ l hl
        obtain ⟨qa, qb, eys, kt⟩ : ∃ qa qb, ys = (wps d).map ptV ++ Zq20 d.rows qa qb /\ tailAt H5 d.rows qa qb := by
          rw [List.length_append, List.length_map] at hI
          cases er : d.rows with
          | none =>
            rw [er] at hI
            rcases hI with ⟨_, rfl⟩ | ⟨z, _⟩ | ⟨z, _⟩
            · exact ⟨0, 0, by show List.map ptV (List.take ((wps d).length + 0) (wps d)) = _ ++ []; rw [Nat.add_zero, List.take_length, List.append_nil], trivial⟩
            · exact absurd (show (wps d).length + 0 = (wps d).length + 1 from z) (by omega)
            · exact absurd (show (wps d).length + 0 = (wps d).length + 2 from z) (by omega)
          | some ab =>
            rw [er] at hI
            rcases hI with ⟨z, _⟩ | ⟨z, _⟩ | ⟨_, a', b', r1, r2, e2, rfl, k1, k2, n12⟩
            · exact absurd (show (wps d).length + 2 <= (wps d).length from z) (by omega)
            · exact absurd (show (wps d).length + 2 = (wps d).length + 1 from z) (by omega)
            · cases e2
              exact ⟨r1, r2, rfl, k1, k2, n12⟩
        subst eys
        have S6 := Same.new (o := .lst ((wps d).map ptV ++ Zq20 d.rows qa qb)) hl
        have k6 : (upd H5 l (.lst ((wps d).map ptV ++ Zq20 d.rows qa qb))) l = some (.lst ((wps d).map ptV ++ Zq20 d.rows qa qb)) := Zq5
        generalize (upd H5 l (.lst ((wps d).map ptV ++ Zq20 d.rows qa qb))) = H6 at S6 k6 ⊢
        refine ⟨l, _, rfl, .inl ⟨SqL.of k6, fun p2 hp2 => ?_⟩⟩
        have S7 := Same.new (o := .tup ((wps d).map ptV ++ Zq20 d.rows qa qb)) hp2
        have k7 : (upd H6 p2 (.tup ((wps d).map ptV ++ Zq20 d.rows qa qb))) p2 = some (.tup ((wps d).map ptV ++ Zq20 d.rows qa qb)) := Zq5
        generalize (upd H6 p2 (.tup ((wps d).map ptV ++ Zq20 d.rows qa qb))) = H7 at S7 k7 ⊢
        have E7 : DdAt H7 d p2 qa qb := ⟨k7, by
          have S57 := S6.trans S7
          cases er : d.rows with
          | none => trivial
          | some ab => rw [er] at kt; exact ⟨S57 _ _ kt.1, S57 _ _ kt.2.1, kt.2.2⟩⟩
        have s47 := (sm.trans S6).trans S7
        have D7 := D4.mono s47
        have tl := text_len dok
        refine gset ?_
        dsimp only [Zq40]
        refine ⟨_, rfl, d, p, ra, rb, rfl, D7, dok, fun H8 s8 => ?_⟩
        refine gset ?_
        dsimp only [Zq40]
        refine ⟨_, rfl, d, p2, qa, qb, rfl, E7.mono s8, dok, tl.2, fun H9 s9 => ?_⟩
        refine ⟨_, rfl, .str (text d), .str (text d), .str (text d), .str (text d), rfl, rfl, rfl, Nat.zero_le _, fun H10 s10 => ⟨_, rfl, ok ?_⟩⟩
        have s710 := (s8.trans s9).trans s10
        refine ⟨_, rfl, _, rfl, .ref p2, .ref p, ddD d, ddD d, rfl, dd_rep (E7.mono s710), dd_rep (D7.mono s710), deep_dd d, fun H11 s11 => ⟨_, rfl, ok ?_⟩⟩
        have s711 := s710.trans s11
        have E11 := E7.mono s711
        have D11 := D7.mono s711
        refine ⟨_, rfl, d, rfl, dok, tl.1, fun p3 ra3 rb3 H12 D12 fr3 s12 => ?_⟩
        refine gset ?_
        dsimp only [Zq40]
        refine ⟨_, rfl, _, rfl, .ref p3, .ref p, ddD d, ddD d, rfl, dd_rep D12, dd_rep (D11.mono s12), deep_dd d, fun H13 s13 => ⟨_, rfl, ok ?_⟩⟩
        have D13 := D12.mono s13
        have D13' : H13 p3 = some (.tup ((wps d).map ptV ++ Zq20 d.rows ra3 rb3)) := D13.1
        refine ⟨_, rfl, p3, rfl, ⟨_, SqT.of D13'⟩, ?_⟩
        refine forW_tup ((wps d).map ptV ++ Zq20 d.rows ra3 rb3) (fun i σ H' => ∃ (v3 v8 : Option V), σ = [some (.ref a), some (.ref s), some (.ref na), v3, some (.ref p), some (.ref p2), some (.str (text d)), some (.ref p3), v8] /\ Same H11 H' /\ H' p3 = some (.tup ((wps d).map ptV ++ Zq20 d.rows ra3 rb3)) /\ (d.rows ≠ none -> ∃ xs ys : List Str, H' ra3 = some (.lst (xs.map V.str)) /\ H' rb3 = some (.lst (ys.map V.str)) /\ ra3 ≠ rb3 /\ xs.length <= 15 + i /\ ys.length <= 15 + i))
          ⟨_, _, rfl, s12.trans s13, D13', fun hn => by
            have h2 := D13.2
            have hr := dok.rows
            cases er : d.rows with
            | none => exact absurd er hn
            | some ab => rw [er] at h2 hr; exact ⟨ab.1, ab.2, h2.1, h2.2.1, h2.2.2, hr.1.2, hr.2.2⟩⟩ (fun i σ H' _ ⟨_, _, _, _, e, _⟩ => SqT.of e) ?_ ?_
        · rintro j v σ H' hv ⟨v3', v8', rfl, sm', kp3, hrw⟩
          have tlv : ∀ j, ((wps d).map ptV ++ Zq20 d.rows ra3 rb3)[(wps d).length + j]? = (Zq20 d.rows ra3 rb3)[j]? := fun j => by rw [List.getElem?_append_right (by rw [List.length_map]; omega), List.length_map, Nat.add_sub_cancel_left]
          have islist : ∀ {r : Addr} {xs : List Str}, H' r = some (.lst (xs.map V.str)) -> ∃ t, TyOf K H' (.ref r) t /\ PySem.W.kitOne K t (.type "list") = some true := fun {r xs} h => isi (K := K) (d := .lst (xs.map D.str)) (v := .ref r) (H := H') ⟨r, _, rfl, h, strs_mk _⟩ "list" (by decide)
          by_cases h2 : j < (wps d).length
          · rw [List.getElem?_append_left (by rw [List.length_map]; exact h2), List.getElem?_map] at hv
            obtain ⟨pt, hpt, rfl⟩ := Option.map_eq_some_iff.mp hv
            obtain ⟨t1, ty1, e1⟩ := isi (K := K) (pt_rep (H := H') pt) "list" (by decide)
            rw [pt_notlist] at e1
            refine ⟨_, rfl, ptV pt, "list", t1, _, rfl, ty1, e1, _, rfl, iteF ⟨_, _, rfl, sm', kp3, fun hn => ?_⟩⟩
            obtain ⟨xs, ys, x1, x2, x3, x4, x5⟩ := hrw hn
            exact ⟨xs, ys, x1, x2, x3, by omega, by omega⟩
          · obtain ⟨j', rfl⟩ : ∃ j', j = (wps d).length + j' := ⟨j - (wps d).length, by omega⟩
            rw [tlv] at hv
            have hn : d.rows ≠ none := fun z => by rw [z] at hv; cases hv
            obtain ⟨f1, f2⟩ := fr3 hn
            obtain ⟨xs, ys, x1, x2, x3, x4, x5⟩ := hrw hn
            have hwl : (wps d).length <= 11 := by show d.ps.length + 1 <= 11; omega
            have hj : j' < 2 := by
              have := (List.getElem?_eq_some_iff.mp hv).1
              cases er : d.rows with
              | none => exact absurd er hn
              | some ab => rw [er] at this; exact this
            have ev : v = .ref (if j' = 0 then ra3 else rb3) := by
              cases er : d.rows with
              | none => exact absurd er hn
              | some ab =>
                rw [er] at hv
                rcases (show j' = 0 \/ j' = 1 by omega) with rfl | rfl
                · exact (Option.some.inj hv).symm
                · exact (Option.some.inj hv).symm
            have keep : ∀ {r : Addr} {zs : List Str} {o : HO}, H11 r = none -> H' r = some (.lst (zs.map V.str)) -> Same H11 (upd H' r o) /\ (upd H' r o) p3 = some (.tup ((wps d).map ptV ++ Zq20 d.rows ra3 rb3)) := fun {r zs o} fr kr => ⟨fun b o' e => by rw [Zq9 (Zq12 e fr)]; exact sm' b o' e, by rw [Zq9 (fun z => by rw [z, kr] at kp3; cases kp3)]; exact kp3⟩
            rcases (show j' = 0 \/ j' = 1 by omega) with rfl | rfl
            · rw [if_pos rfl] at ev
              subst ev
              obtain ⟨t1, ty1, e1⟩ := islist x1
              obtain ⟨g1, g2⟩ := keep (o := .lst (xs.map V.str ++ [.str "x"])) f1 x1
              refine ⟨_, rfl, .ref ra3, "list", t1, _, rfl, ty1, e1, _, rfl, iteT ⟨_, rfl, .inl ⟨rfl, _, SqL.of x1⟩, ra3, _, _, rfl, rfl, x1, by rw [List.length_map]; omega, _, _, rfl, g1, g2, fun _ => ⟨xs ++ [("x" : Str)], ys, by rw [Zq5, List.map_append]; rfl, by rw [Zq9 x3.symm]; exact x2, x3, by rw [List.length_append]; show xs.length + 1 <= _; omega, by omega⟩⟩⟩
            · rw [if_neg (by decide)] at ev
              subst ev
              obtain ⟨t1, ty1, e1⟩ := islist x2
              obtain ⟨g1, g2⟩ := keep (o := .lst (ys.map V.str ++ [.str "x"])) f2 x2
              refine ⟨_, rfl, .ref rb3, "list", t1, _, rfl, ty1, e1, _, rfl, iteT ⟨_, rfl, .inl ⟨rfl, _, SqL.of x2⟩, rb3, _, _, rfl, rfl, x2, by rw [List.length_map]; omega, _, _, rfl, g1, g2, fun _ => ⟨xs, ys ++ [("x" : Str)], by rw [Zq9 x3]; exact x1, by rw [Zq5, List.map_append]; rfl, x3, by omega, by rw [List.length_append]; show ys.length + 1 <= _; omega⟩⟩⟩
        · rintro σ H14 ⟨v3', v8', rfl, s14, kp3, hrw⟩
          have E14 := E11.mono s14
          have D14 := D11.mono s14
          refine ⟨_, rfl, d, rfl, dok, tl.1, fun p4 ra4 rb4 H15 D15 _ s15 => ?_⟩
          refine ⟨_, rfl, .ref p4, .ref p, ddD d, ddD d, rfl, dd_rep D15, dd_rep (D14.mono s15), deep_dd d, fun H16 s16 => ⟨_, rfl, ok ?_⟩⟩
          refine ⟨_, rfl, d, p2, qa, qb, rfl, E14.mono (s15.trans s16), dok, tl.2, fun H17 s17 => ?_⟩
          refine ⟨_, rfl, .str (text d), .str (text d), .str (text d), .str (text d), rfl, rfl, rfl, Nat.zero_le _, fun H18 s18 => ⟨_, rfl, ok ?_⟩⟩
          have send := (((((s47.trans s711).trans s14).trans s15).trans s16).trans s17).trans s18
          exact ⟨_, _, _, _, _, _, rfl, hs4.keep send, send _ _ hna4⟩
    · rintro σ H' _
      exact k H'
end
section
def kP49 : List (Str × Tok × Addr) := [("come", 258, 67), ("rise", 262, 68), ("die", 266, 69), ("penance", 270, 70), ("bring", 272, 71), ("give", 275, 72), ("pay", 280, 73)]
def kS49 : List (Str × Tok × Addr) := [("claim", 293, 75), ("wergild", 298, 76), ("accuse", 304, 77)]
theorem Zq98 {K : PySem.W.Frag} {t : Addr} {xs : List V} {its : Array Value} (e : K.lookup t = some ⟨.type "tuple", none, .seq its 0, #[]⟩) (hz : its.size <= sizeLine) (v : Vals xs its.toList) : ∀ H, SqT K H t xs := fun H => .inr ⟨_, its, 0, e, rfl, rfl, hz, v⟩
theorem fms_mk (pr : Params) : Fms (KK pr) kP49 kS49 := by
  intro q hq
  simp only [fm10, List.mem_cons, List.not_mem_nil, or_false] at hq
  rcases hq with rfl | rfl | rfl | rfl | rfl | rfl | rfl | rfl | rfl | rfl
  · exact .inl ⟨by decide +kernel, 67, by decide +kernel, by decide +kernel, Zq98 (its := #[.str "name" 259, .str "number" 260, .str "number" 261]) (by kernel_rfl) (by decide) (by rw [show Zq59 (cs "abb") = (["name", "number", "number"] : List Str) from by decide +kernel]; exact (.cons ⟨_, rfl⟩ (.cons ⟨_, rfl⟩ (.cons ⟨_, rfl⟩ .nil))))⟩
  · exact .inl ⟨by decide +kernel, 68, by decide +kernel, by decide +kernel, Zq98 (its := #[.str "name" 263, .str "number" 264, .str "number" 265]) (by kernel_rfl) (by decide) (by rw [show Zq59 (cs "abb") = (["name", "number", "number"] : List Str) from by decide +kernel]; exact (.cons ⟨_, rfl⟩ (.cons ⟨_, rfl⟩ (.cons ⟨_, rfl⟩ .nil))))⟩
  · exact .inl ⟨by decide +kernel, 69, by decide +kernel, by decide +kernel, Zq98 (its := #[.str "name" 267, .str "number" 268, .str "name" 269]) (by kernel_rfl) (by decide) (by rw [show Zq59 (cs "aba") = (["name", "number", "name"] : List Str) from by decide +kernel]; exact (.cons ⟨_, rfl⟩ (.cons ⟨_, rfl⟩ (.cons ⟨_, rfl⟩ .nil))))⟩
  · exact .inl ⟨by decide +kernel, 70, by decide +kernel, by decide +kernel, Zq98 (its := #[.str "name" 271]) (by kernel_rfl) (by decide) (by rw [show Zq59 (cs "a") = (["name"] : List Str) from by decide +kernel]; exact (.cons ⟨_, rfl⟩ .nil))⟩
  · exact .inl ⟨by decide +kernel, 71, by decide +kernel, by decide +kernel, Zq98 (its := #[.str "name" 273, .str "number" 274]) (by kernel_rfl) (by decide) (by rw [show Zq59 (cs "ab") = (["name", "number"] : List Str) from by decide +kernel]; exact (.cons ⟨_, rfl⟩ (.cons ⟨_, rfl⟩ .nil)))⟩
  · exact .inl ⟨by decide +kernel, 72, by decide +kernel, by decide +kernel, Zq98 (its := #[.str "number" 276, .str "name" 277, .str "name" 278, .str "number" 279]) (by kernel_rfl) (by decide) (by rw [show Zq59 (cs "baab") = (["number", "name", "name", "number"] : List Str) from by decide +kernel]; exact (.cons ⟨_, rfl⟩ (.cons ⟨_, rfl⟩ (.cons ⟨_, rfl⟩ (.cons ⟨_, rfl⟩ .nil)))))⟩
  · exact .inl ⟨by decide +kernel, 73, by decide +kernel, by decide +kernel, Zq98 (its := #[.str "name" 281, .str "name" 282, .str "number" 283, .str "number" 284]) (by kernel_rfl) (by decide) (by rw [show Zq59 (cs "aabb") = (["name", "name", "number", "number"] : List Str) from by decide +kernel]; exact (.cons ⟨_, rfl⟩ (.cons ⟨_, rfl⟩ (.cons ⟨_, rfl⟩ (.cons ⟨_, rfl⟩ .nil)))))⟩
  · exact .inr ⟨by decide +kernel, by decide +kernel, 75, by decide +kernel, Zq98 (its := #[.str "name" 294, .str "number" 295, .str "number" 296, .str "number" 297]) (by kernel_rfl) (by decide) (by rw [show Zq59 (cs "abbb+") = (["name", "number", "number", "number"] : List Str) from by decide +kernel]; exact (.cons ⟨_, rfl⟩ (.cons ⟨_, rfl⟩ (.cons ⟨_, rfl⟩ (.cons ⟨_, rfl⟩ .nil)))))⟩
  · exact .inr ⟨by decide +kernel, by decide +kernel, 76, by decide +kernel, Zq98 (its := #[.str "name" 299, .str "name" 300, .str "number" 301, .str "number" 302, .str "number" 303]) (by kernel_rfl) (by decide) (by rw [show Zq59 (cs "aabbb+") = (["name", "name", "number", "number", "number"] : List Str) from by decide +kernel]; exact (.cons ⟨_, rfl⟩ (.cons ⟨_, rfl⟩ (.cons ⟨_, rfl⟩ (.cons ⟨_, rfl⟩ (.cons ⟨_, rfl⟩ .nil))))))⟩
  · exact .inr ⟨by decide +kernel, by decide +kernel, 77, by decide +kernel, Zq98 (its := #[.str "number" 305, .str "name" 306, .str "number" 307, .str "number" 308]) (by kernel_rfl) (by decide) (by rw [show Zq59 (cs "babb+") = (["number", "name", "number", "number"] : List Str) from by decide +kernel]; exact (.cons ⟨_, rfl⟩ (.cons ⟨_, rfl⟩ (.cons ⟨_, rfl⟩ (.cons ⟨_, rfl⟩ .nil)))))⟩
end
theorem all_mk {w : World} {h : Heap} {mg : Str -> Option Value} {fa : Addr} (X : (KK w.params).In h) (G : h.Ns mainGlobals mg) (hfa : mg "law" = some (.ref fa)) :
    ∃ fd : FuncData, (∀ (s : Shared) (v : Value), BindsTo s fd ⟨[v], []⟩ [("_law_script", v)]) /\ ∀ base : Heap, (KK w.params).In base -> base.Ns mainGlobals mg -> FnOk (PySem.Challenge.rw_forsworn_k49_deeds_written).prog w (KK w.params) mg base CX0 40 fa fd ["_law_script"] (spLaw (KK w.params)) := by
  have e : some (Value.ref fa) = some (.ref 203) := hfa.symm.trans (PySem.W.mg_of X G (by kernel_rfl))
  cases e
  have Zq137 : Has (KK w.params) mg "is_name" Zq75 := Zq36 (f := 65) (oc := .type "function") (od := none) (an := none) (osl := #[]) (kV := .none) (doc := .none) (pm := (.str "forsworn.oaths" 244)) (cdv := (.ref 64)) (ct := .none) X G (by kernel_rfl) (by kernel_rfl) (by kernel_rfl) (by kernel_rfl)
  have Zq120 : Has (KK w.params) mg "shown_deed" Zq76 := Zq36 (f := 82) (oc := .type "function") (od := none) (an := none) (osl := #[]) (kV := .none) (doc := .none) (pm := (.str "forsworn.notes" 254)) (cdv := (.ref 81)) (ct := .none) X G (by kernel_rfl) (by kernel_rfl) (by kernel_rfl) (by kernel_rfl)
  have Zq127 : Has (KK w.params) mg "read_deed" Zq23 := Zq36 (f := 89) (oc := .type "function") (od := none) (an := none) (osl := #[]) (kV := .none) (doc := .none) (pm := (.str "forsworn.notes" 254)) (cdv := (.ref 88)) (ct := .none) X G (by kernel_rfl) (by kernel_rfl) (by kernel_rfl) (by kernel_rfl)
  have Zq133 : Has (KK w.params) mg "place_of" Zq94 := Zq36 (f := 96) (oc := .type "function") (od := none) (an := none) (osl := #[]) (kV := .none) (doc := .none) (pm := (.str "forsworn.notes" 254)) (cdv := (.ref 95)) (ct := .none) X G (by kernel_rfl) (by kernel_rfl) (by kernel_rfl) (by kernel_rfl)
  have Zq118 : Has (KK w.params) mg "read_names" Zq95 := Zq36 (f := 101) (oc := .type "function") (od := none) (an := none) (osl := #[]) (kV := .none) (doc := .none) (pm := (.str "forsworn.notes" 254)) (cdv := (.ref 100)) (ct := .none) X G (by kernel_rfl) (by kernel_rfl) (by kernel_rfl) (by kernel_rfl)
  have Zq106 : Has (KK w.params) mg "read_values" Zq49 := Zq36 (f := 106) (oc := .type "function") (od := none) (an := none) (osl := #[]) (kV := .none) (doc := .none) (pm := (.str "forsworn.notes" 254)) (cdv := (.ref 105)) (ct := .none) X G (by kernel_rfl) (by kernel_rfl) (by kernel_rfl) (by kernel_rfl)
  have Zq117 : Has (KK w.params) mg "read_value" Zq47 := Zq36 (f := 113) (oc := .type "function") (od := none) (an := none) (osl := #[]) (kV := .none) (doc := .none) (pm := (.str "forsworn.notes" 254)) (cdv := (.ref 112)) (ct := .none) X G (by kernel_rfl) (by kernel_rfl) (by kernel_rfl) (by kernel_rfl)
  have Zq126 : Has (KK w.params) mg "is_number" Zq63 := Zq36 (f := 118) (oc := .type "function") (od := none) (an := none) (osl := #[]) (kV := .none) (doc := .none) (pm := (.str "forsworn.notes" 254)) (cdv := (.ref 117)) (ct := .none) X G (by kernel_rfl) (by kernel_rfl) (by kernel_rfl) (by kernel_rfl)
  have Zq132 : Has (KK w.params) mg "_law_src" Zq102 := Zq36 (f := 125) (oc := .type "function") (od := none) (an := none) (osl := #[]) (kV := .none) (doc := .none) (pm := (.str "law_forsworn_k49_deeds_written" 365)) (cdv := (.ref 124)) (ct := .none) X G (by kernel_rfl) (by kernel_rfl) (by kernel_rfl) (by kernel_rfl)
  have Zq123 : Has (KK w.params) mg "_law_next" Zq58 := Zq36 (f := 132) (oc := .type "function") (od := none) (an := none) (osl := #[]) (kV := .none) (doc := .none) (pm := (.str "law_forsworn_k49_deeds_written" 365)) (cdv := (.ref 131)) (ct := .none) X G (by kernel_rfl) (by kernel_rfl) (by kernel_rfl) (by kernel_rfl)
  have Zq114 : Has (KK w.params) mg "_law_whole" Zq61 := Zq36 (f := 139) (oc := .type "function") (od := none) (an := none) (osl := #[]) (kV := .none) (doc := .none) (pm := (.str "law_forsworn_k49_deeds_written" 365)) (cdv := (.ref 138)) (ct := .none) X G (by kernel_rfl) (by kernel_rfl) (by kernel_rfl) (by kernel_rfl)
  have Zq39 : Has (KK w.params) mg "_law_same" Zq18 := Zq36 (f := 146) (oc := .type "function") (od := none) (an := none) (osl := #[]) (kV := .none) (doc := .none) (pm := (.str "law_forsworn_k49_deeds_written" 365)) (cdv := (.ref 145)) (ct := .none) X G (by kernel_rfl) (by kernel_rfl) (by kernel_rfl) (by kernel_rfl)
  have Zq105 : Has (KK w.params) mg "_law_unlike" Zq32 := Zq36 (f := 153) (oc := .type "function") (od := none) (an := none) (osl := #[]) (kV := .none) (doc := .none) (pm := (.str "law_forsworn_k49_deeds_written" 365)) (cdv := (.ref 152)) (ct := .none) X G (by kernel_rfl) (by kernel_rfl) (by kernel_rfl) (by kernel_rfl)
  have Zq124 : Has (KK w.params) mg "_law_word" Zq70 := Zq36 (f := 158) (oc := .type "function") (od := none) (an := none) (osl := #[]) (kV := .none) (doc := .none) (pm := (.str "law_forsworn_k49_deeds_written" 365)) (cdv := (.ref 157)) (ct := .none) X G (by kernel_rfl) (by kernel_rfl) (by kernel_rfl) (by kernel_rfl)
  have Zq116 : Has (KK w.params) mg "_law_names" Zq21 := Zq36 (f := 165) (oc := .type "function") (od := none) (an := none) (osl := #[]) (kV := .none) (doc := .none) (pm := (.str "law_forsworn_k49_deeds_written" 365)) (cdv := (.ref 164)) (ct := .none) X G (by kernel_rfl) (by kernel_rfl) (by kernel_rfl) (by kernel_rfl)
  have Zq107 : Has (KK w.params) mg "_law_number" Zq66 := Zq36 (f := 172) (oc := .type "function") (od := none) (an := none) (osl := #[]) (kV := .none) (doc := .none) (pm := (.str "law_forsworn_k49_deeds_written" 365)) (cdv := (.ref 171)) (ct := .none) X G (by kernel_rfl) (by kernel_rfl) (by kernel_rfl) (by kernel_rfl)
  have Zq134 : Has (KK w.params) mg "_law_row" Zq77 := Zq36 (f := 177) (oc := .type "function") (od := none) (an := none) (osl := #[]) (kV := .none) (doc := .none) (pm := (.str "law_forsworn_k49_deeds_written" 365)) (cdv := (.ref 176)) (ct := .none) X G (by kernel_rfl) (by kernel_rfl) (by kernel_rfl) (by kernel_rfl)
  have Zq128 : Has (KK w.params) mg "_law_form" Zq85 := Zq36 (f := 184) (oc := .type "function") (od := none) (an := none) (osl := #[]) (kV := .none) (doc := .none) (pm := (.str "law_forsworn_k49_deeds_written" 365)) (cdv := (.ref 183)) (ct := .none) X G (by kernel_rfl) (by kernel_rfl) (by kernel_rfl) (by kernel_rfl)
  have Zq96 : Has (KK w.params) mg "_law_any_deed" Zq15 := Zq36 (f := 191) (oc := .type "function") (od := none) (an := none) (osl := #[]) (kV := .none) (doc := .none) (pm := (.str "law_forsworn_k49_deeds_written" 365)) (cdv := (.ref 190)) (ct := .none) X G (by kernel_rfl) (by kernel_rfl) (by kernel_rfl) (by kernel_rfl)
  have Zq122 : Has (KK w.params) mg "_law_shown" Zq33 := Zq36 (f := 198) (oc := .type "function") (od := none) (an := none) (osl := #[]) (kV := .none) (doc := .none) (pm := (.str "law_forsworn_k49_deeds_written" 365)) (cdv := (.ref 197)) (ct := .none) X G (by kernel_rfl) (by kernel_rfl) (by kernel_rfl) (by kernel_rfl)
  have F_law := fun_mk (K := KK w.params) (x := "law") (qual := "law") (st := Zq30) (f := 203) (oc := .type "function") (od := none) (an := none) (osl := #[]) (kV := .none) (doc := .none) (pm := (.str "law_forsworn_k49_deeds_written" 365)) (cdv := (.ref 202)) (ct := .none) (by kernel_rfl) (by kernel_rfl) (by kernel_rfl)
  have c_LONGEST_NAME : mg "LONGEST_NAME" = some (.int 12 246) := PySem.W.mg_of X G (by kernel_rfl)
  have c_MOST_FIGURES : mg "MOST_FIGURES" = some (.int 9 256) := PySem.W.mg_of X G (by kernel_rfl)
  have T : Txt mg := ⟨PySem.W.mg_none_of X G (by kernel_rfl), PySem.W.mg_none_of X G (by kernel_rfl), PySem.W.mg_none_of X G (by kernel_rfl), PySem.W.mg_none_of X G (by kernel_rfl), PySem.W.mg_none_of X G (by kernel_rfl), PySem.W.mg_none_of X G (by kernel_rfl), PySem.W.mg_none_of X G (by kernel_rfl), PySem.W.mg_none_of X G (by kernel_rfl), PySem.W.mg_none_of X G (by kernel_rfl), PySem.W.mg_none_of X G (by kernel_rfl), PySem.W.mg_none_of X G (by kernel_rfl), PySem.W.mg_none_of X G (by kernel_rfl)⟩
  exact ⟨PySem.W.fnOf "law" "law" (Zq90 Zq30) (Zq54 Zq30) (Zq0 Zq30) .none .none .none (.str "law_forsworn_k49_deeds_written" 365) none (.ref 202) .none, fun s v => .of_eq rfl, fun base _ _ => by
    have F1 := Zq176 (P := (PySem.Challenge.rw_forsworn_k49_deeds_written).prog) (w := w) (base := base) Zq132 T
    have F2 := Zq167 (P := (PySem.Challenge.rw_forsworn_k49_deeds_written).prog) (w := w) (base := base) Zq123 T
    have F3 := Zq168 Zq124 T F2
    have F4 := Zq149 (P := (PySem.Challenge.rw_forsworn_k49_deeds_written).prog) (w := w) (base := base) Zq105 T
    have F5 := Zq158 Zq116 T F2 F3 F4
    have F8 := Zq141 Zq39 T (Zq157 (P := (PySem.Challenge.rw_forsworn_k49_deeds_written).prog) (w := w) (base := base) Zq114 T) 4
    have F9 := Zq181 (P := (PySem.Challenge.rw_forsworn_k49_deeds_written).prog) (w := w) (base := base) Zq137 T ⟨_, c_LONGEST_NAME⟩
    have F10 := Zq169 (P := (PySem.Challenge.rw_forsworn_k49_deeds_written).prog) (w := w) (base := base) Zq126 T ⟨_, c_MOST_FIGURES⟩
    have F11 := Zq160 Zq117 T F9 F10
    have F12 := Zq161 Zq118 T F11
    have F13 := Zq153 Zq106 T F11
    have F14 := Zq178 (P := (PySem.Challenge.rw_forsworn_k49_deeds_written).prog) (w := w) (base := base) Zq133 T
    have tb : Tbl (KK w.params) mg w.params 66 74 kP49 kS49 := ⟨PySem.W.mg_of X G (by kernel_rfl), PySem.W.mg_of X G (by kernel_rfl), ⟨⟨7, by kernel_rfl⟩, by decide +kernel, by decide⟩, ⟨⟨3, by kernel_rfl⟩, by decide +kernel, by decide⟩⟩
    have F15 := Zq172 Zq127 T tb F14 F12 F13
    have F16 := Zq162 (P := (PySem.Challenge.rw_forsworn_k49_deeds_written).prog) (base := base) Zq120 T tb
    have F17 := Zq155 Zq107 T F2
    have F18 := Zq179 Zq134 T F2
    have F19 := Zq174 (P := (PySem.Challenge.rw_forsworn_k49_deeds_written).prog) (w := w) (base := base) Zq128 T
    have F20 := Zq144 (kP := kP49) (kS := kS49) Zq96 T F2 F17 F18 F19
    have F21 := Zq163 (P := (PySem.Challenge.rw_forsworn_k49_deeds_written).prog) (w := w) (base := base) (kP := kP49) (kS := kS49) Zq122 T
    exact (f_law F_law T (fms_mk w.params) F1 F2 F5 F20 F21 F8 F16 F15).mono (by decide)⟩
end Law
open PySem PySem.W PyProof.Rows
set_option maxRecDepth 100000 in
set_option maxHeartbeats 0 in
theorem PySem.Challenge.cw_forsworn_k49_deeds_written_holds : PySem.Challenge.rw_forsworn_k49_deeds_written.Holds := by
  w_on; o_law
  refine holds_open (q := Law.q) (loose := ["PLAIN", "SWORN"]) (Xt := fun s => xlAt Law.q [] s && recOk (RowW.records PySem.Challenge.rw_forsworn_k49_deeds_written.row.toRowW) s) (XP := XL Law.q []) (Yf := Law.HK.obs) (Ya := Law.HK.val) (YP := Law.HK.says) (N := 2878) Law.left Law.HK.of Law.HK.keeps (fun s e => xl_of s (Bool.and_eq_true_iff.mp e).1) XL.keeps (by rfl) (by rfl) (by rfl) (fun s e => recFacts_of (Bool.and_eq_true_iff.mp e).2) (by rfl) (by first | assumption | decide +kernel) (by decide +kernel) ⟨rfl, rfl, rfl, rfl, rfl, by decide +kernel⟩ ?hw ?hc
  case hw => w_witness2
  refine L2.walkLaw (l := PySem.Challenge.rw_forsworn_k49_deeds_written) rfl rfl (fun w h Y => PySem.W.kIn_of (K := Law.KK) Y) fun w mg fa h KX G hmg => Law.all_mk KX G hmg
namespace Law
end Law
