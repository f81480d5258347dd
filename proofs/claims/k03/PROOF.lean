import PyProof.Rows.All
import Wide.All
import OpenK.AllK
import Wide.FinOn
import Lean
import PyProof.EqAt
import PyProof.EqKinds
import PyProof.TupleCall
import KE.KSortTup
import PyProof.NeKinds
import KE.KLam
import KE.KSortKey
import PySem.Challenge.RW_forsworn_k03_fewest_names
section
set_option Elab.async false
set_option linter.all false
set_option maxRecDepth 100000
set_option maxHeartbeats 4000000
/-! THE TEXT RUN AT ONCE, over a tree of objects. -/
namespace L2
open PySem PySem.W
def topRunT (tb : String → Option Builtin) (p : Program) (w : World) (m : Nat) (ann : Option Value) : Nat → SharedT → Thread → Option SharedT
  | 0, _, _ => none
  | n + 1, s, t => match through t with
    | true => some s
    | false => match stepOk m ann t with
      | false => none
      | true => match stepT (denote tb) p w s t with
        | some x => topRunT tb p w m ann n x.1 x.2
        | none => none
theorem topRunT_of {tb : String → Option Builtin} {p : Program} {w : World} {m : Nat} {ann : Option Value} : ∀ {n : Nat} {s r : SharedT} {t : Thread}, topRunT tb p w m ann n s t = some r → topRun tb p w m ann n s.abs t = some r.abs
  | 0, s, r, t, h => by cases h
  | n + 1, s, r, t, h => by
    unfold topRunT at h
    unfold topRun
    cases a : through t with
    | true => rw [a] at h; cases h; rfl
    | false =>
      rw [a] at h
      cases b : stepOk m ann t with
      | false => rw [b] at h; cases h
      | true =>
        rw [b] at h
        cases c : stepT (denote tb) p w s t with
        | none => rw [c] at h; cases h
        | some x => obtain ⟨s2, t2⟩ := x; rw [c] at h; dsimp only at h ⊢; rw [stepT_spec c]; exact topRunT_of h
def btOf : List Obj → Nat → BT → BT
  | [], _, t => t
  | o :: r, i, t => btOf r (i + 1) (t.ins i o)
/-- the boot's heap as a tree -/
noncomputable def s0T (P : Params) (os : OsState) : SharedT := ⟨btOf (boot_heap P).objs.toList 0 .nil, 11, (boot_heap P).life, #[], boot_drawn, boot_toks, os⟩
noncomputable def seenT {α : Type} (p q : Program) (loose : List Str) (Xt : Shared → Bool) (Yf : Shared → α) (P : Params) (s : Shared) :=
  (staticsOk (importedModules p.main.body) (boot_heap P) s.heap && namesBound p s.heap && gensDone s && laidKept (boot_heap P) s.heap, openSeen q loose (importedModules p.main.body) Xt true s, Yf s)
theorem s0T_abs (P : Params) (os : OsState) : (s0T P os).abs = ⟨boot_heap P, #[], boot_drawn, boot_toks, os⟩ := by kernel_rfl
theorem boot_size (P : Params) : ((boot_heap P).isNs mainGlobals && (#[] : Array GenState).size == 0, (boot_heap P).objs.size, (boot_heap P).nsMap mainGlobals "__annotations__") = (true, 11, some (.ref 6)) := by kernel_rfl
theorem left_of {p q : Program} {loose : List Str} {Xt : Shared → Bool} {α : Type} {Yf : Shared → α} {Ya : World → α} {N : Nat} (e : opening p = plainProg p.main.scope.names) (hN : Nat.ble 600 N = true) (f : ∀ s, fenceModules? p s = some s)
    (run : ∀ (w : World) (os : OsState), (topRunT treeTable p w 11 (some (.ref 6)) N (s0T w.params os) (topStub p)).map (fun s => seenT p q loose Xt Yf w.params s.abs) = some (true, openGood q loose, Ya w)) : LeftO p q loose Xt Yf Ya N := fun w => by
  obtain ⟨⟨h, gs, d, k, os⟩, e1, e2⟩ := Option.map_eq_some_iff.mp (boot_open e hN f w)
  obtain ⟨rfl, rfl, rfl, rfl⟩ : h = boot_heap w.params ∧ gs = #[] ∧ d = boot_drawn ∧ k = boot_toks := by simpa using e2
  obtain ⟨s, r1, r2⟩ := Option.map_eq_some_iff.mp (run w os)
  unfold seenT at r2
  obtain ⟨l1, l2, l3⟩ : _ ∧ _ ∧ _ := by simpa only [Prod.mk.injEq] using r2
  have r := topRunT_of r1
  rw [s0T_abs] at r
  obtain ⟨z1, z2, z3⟩ : _ ∧ _ ∧ _ := by simpa only [Prod.mk.injEq] using boot_size w.params
  have t : topFrom treeTable p w N ⟨boot_heap w.params, #[], boot_drawn, boot_toks, os⟩ = some s.abs := by
    unfold topFrom
    dsimp only
    rw [z1, z2, z3, r]
    show (match staticsOk (importedModules p.main.body) (boot_heap w.params) s.abs.heap && namesBound p s.abs.heap && gensDone s.abs && laidKept (boot_heap w.params) s.abs.heap with | true => some s.abs | false => none) = _
    rw [l1]
  unfold openEnds
  rw [e1]
  show (topFrom treeTable p w N _).map _ = _
  rw [t]
  exact congrArg some (Prod.ext l2 l3)
/-! defs of the text, by their places -/
def topP (p : Program) (i : Nat) : Stmt := p.main.body.getD i (.Pass ⟨0, 0, 0, 0⟩)
def hIn (s : Stmt) (j : Nat) : Stmt := match s with
  | .ClassDef _ _ _ b _ _ _ _ _ _ _ => b.getD j (.Pass ⟨0, 0, 0, 0⟩)
  | _ => s
def hArgs (s : Stmt) : Arguments := match s with
  | .FunctionDef _ a _ _ _ _ _ _ _ _ => a
  | _ => ⟨[], [], none, [], [], none, []⟩
def hBody (s : Stmt) : List Stmt := match s with
  | .FunctionDef _ _ b _ _ _ _ _ _ _ => b
  | _ => []
def hScope (s : Stmt) : Scope := match s with
  | .FunctionDef _ _ _ _ _ _ c _ _ _ => c
  | _ => { kind := .function, names := [], isGenerator := false, isCoroutine := false }
def de (P : Params) (n : Str) (t : Tok) (v : Value) : DictEntry := ⟨PyData.keyHash P n, .str n t, v⟩
def kFn (n q : Str) (st : Stmt) (pm : Value) (c : Addr) : Obj := ⟨.type "function", none, .func (PySem.W.fnOf n q (hArgs st) (hBody st) (hScope st) .none .none .none pm none (.ref c) .none), #[]⟩
end L2
lay_quick L2.topRunT L2.s0T L2.seenT

end
set_option Elab.async false
set_option linter.all false
set_option maxRecDepth 100000
set_option maxHeartbeats 4000000
namespace Law
open PySem L2
/-! the heap behind the text, as far as it is asked -/
def Kp (p : Program) (P : Params) : PySem.W.Frag := [
  (3, ⟨(.type "dict"), none, (.dict #[de P "__name__" 165 (.str "law_forsworn_k03_fewest_names" 201), de P "__doc__" 166 .none, de P "__package__" 167 .none, de P "__loader__" 168 (.builtin "__main__.__loader__#opaque"), de P "__spec__" 169 .none, de P "__annotations__" 170 (.ref 6), de P "__builtins__" 171 (.ref 4), de P "__file__" 173 (.str "/claim/cut.py" 172), de P "__cached__" 174 .none, de P "fewest_to" 200 (.ref 21), de P "_law_src" 209 (.ref 28), de P "_law_next" 219 (.ref 35), de P "_law_whole" 226 (.ref 42), de P "_law_same" 236 (.ref 49), de P "_law_unlike" 247 (.ref 56), de P "_law_word" 253 (.ref 61), de P "_law_names" 267 (.ref 68), de P "_law_weight" 275 (.ref 75), de P "_law_total" 285 (.ref 82), de P "_law_side" 297 (.ref 89), de P "_law_sum_first" 303 (.ref 94), de P "law" 309 (.ref 99)] 22), #[]⟩),
  (4, ⟨(.type "module"), (some 0), .plain, #[]⟩),
  (20, ⟨(.type "code"), none, (.fields #[(.str "fewest_to" 189), (.str "fewest_to" 190), (.str "/claim/cut.py" 191), (.int (2) 0), (.int (2) 0), (.int (0) 0), (.int (0) 0), (.int (3) 0), (.ref 15), (.bool true), (.int (181) 0), (.ref 16), .none, (.ref 17), (.ref 18), (.ref 19), (.int (198) 0), (.int (2) 0), (.str "/claim/cut.py" 199)]), #[]⟩),
  (21, kFn "fewest_to" "fewest_to" (topP p 1) (.str "forsworn.oaths" 187) 20),
  (27, ⟨(.type "code"), none, (.fields #[(.str "_law_src" 203), (.str "_law_src" 204), (.str "/claim/cut.py" 205), (.int (12) 0), (.int (1) 0), (.int (0) 0), (.int (0) 0), (.int (3) 0), (.ref 22), (.bool true), (.int (181) 0), (.ref 23), .none, (.ref 24), (.ref 25), (.ref 26), (.int (207) 0), (.int (12) 0), (.str "/claim/cut.py" 208)]), #[]⟩),
  (28, kFn "_law_src" "_law_src" (topP p 3) (.str "law_forsworn_k03_fewest_names" 201) 27),
  (34, ⟨(.type "code"), none, (.fields #[(.str "_law_next" 210), (.str "_law_next" 211), (.str "/claim/cut.py" 212), (.int (14) 0), (.int (2) 0), (.int (0) 0), (.int (0) 0), (.int (3) 0), (.ref 29), (.bool true), (.int (181) 0), (.ref 30), .none, (.ref 31), (.ref 32), (.ref 33), (.int (217) 0), (.int (14) 0), (.str "/claim/cut.py" 218)]), #[]⟩),
  (35, kFn "_law_next" "_law_next" (topP p 4) (.str "law_forsworn_k03_fewest_names" 201) 34),
  (41, ⟨(.type "code"), none, (.fields #[(.str "_law_whole" 220), (.str "_law_whole" 221), (.str "/claim/cut.py" 222), (.int (29) 0), (.int (1) 0), (.int (0) 0), (.int (0) 0), (.int (3) 0), (.ref 36), (.bool true), (.int (181) 0), (.ref 37), .none, (.ref 38), (.ref 39), (.ref 40), (.int (224) 0), (.int (29) 0), (.str "/claim/cut.py" 225)]), #[]⟩),
  (42, kFn "_law_whole" "_law_whole" (topP p 5) (.str "law_forsworn_k03_fewest_names" 201) 41),
  (48, ⟨(.type "code"), none, (.fields #[(.str "_law_same" 227), (.str "_law_same" 228), (.str "/claim/cut.py" 229), (.int (31) 0), (.int (2) 0), (.int (0) 0), (.int (0) 0), (.int (3) 0), (.ref 43), (.bool true), (.int (181) 0), (.ref 44), .none, (.ref 45), (.ref 46), (.ref 47), (.int (234) 0), (.int (31) 0), (.str "/claim/cut.py" 235)]), #[]⟩),
  (49, kFn "_law_same" "_law_same" (topP p 6) (.str "law_forsworn_k03_fewest_names" 201) 48),
  (55, ⟨(.type "code"), none, (.fields #[(.str "_law_unlike" 237), (.str "_law_unlike" 238), (.str "/claim/cut.py" 239), (.int (48) 0), (.int (2) 0), (.int (0) 0), (.int (0) 0), (.int (3) 0), (.ref 50), (.bool true), (.int (181) 0), (.ref 51), .none, (.ref 52), (.ref 53), (.ref 54), (.int (245) 0), (.int (48) 0), (.str "/claim/cut.py" 246)]), #[]⟩),
  (56, kFn "_law_unlike" "_law_unlike" (topP p 7) (.str "law_forsworn_k03_fewest_names" 201) 55),
  (60, ⟨(.type "code"), none, (.fields #[(.str "_law_word" 248), (.str "_law_word" 249), (.str "/claim/cut.py" 250), (.int (56) 0), (.int (2) 0), (.int (0) 0), (.int (0) 0), (.int (3) 0), (.ref 57), (.bool true), (.int (181) 0), (.ref 58), .none, .none, .none, (.ref 59), (.int (251) 0), (.int (56) 0), (.str "/claim/cut.py" 252)]), #[]⟩),
  (61, kFn "_law_word" "_law_word" (topP p 8) (.str "law_forsworn_k03_fewest_names" 201) 60),
  (67, ⟨(.type "code"), none, (.fields #[(.str "_law_names" 254), (.str "_law_names" 255), (.str "/claim/cut.py" 256), (.int (59) 0), (.int (2) 0), (.int (0) 0), (.int (0) 0), (.int (3) 0), (.ref 62), (.bool true), (.int (181) 0), (.ref 63), .none, (.ref 64), (.ref 65), (.ref 66), (.int (265) 0), (.int (59) 0), (.str "/claim/cut.py" 266)]), #[]⟩),
  (68, kFn "_law_names" "_law_names" (topP p 9) (.str "law_forsworn_k03_fewest_names" 201) 67),
  (74, ⟨(.type "code"), none, (.fields #[(.str "_law_weight" 268), (.str "_law_weight" 269), (.str "/claim/cut.py" 270), (.int (72) 0), (.int (1) 0), (.int (0) 0), (.int (0) 0), (.int (3) 0), (.ref 69), (.bool true), (.int (181) 0), (.ref 70), .none, (.ref 71), (.ref 72), (.ref 73), (.int (273) 0), (.int (72) 0), (.str "/claim/cut.py" 274)]), #[]⟩),
  (75, kFn "_law_weight" "_law_weight" (topP p 10) (.str "law_forsworn_k03_fewest_names" 201) 74),
  (81, ⟨(.type "code"), none, (.fields #[(.str "_law_total" 276), (.str "_law_total" 277), (.str "/claim/cut.py" 278), (.int (79) 0), (.int (1) 0), (.int (0) 0), (.int (0) 0), (.int (3) 0), (.ref 76), (.bool true), (.int (181) 0), (.ref 77), .none, (.ref 78), (.ref 79), (.ref 80), (.int (283) 0), (.int (79) 0), (.str "/claim/cut.py" 284)]), #[]⟩),
  (82, kFn "_law_total" "_law_total" (topP p 11) (.str "law_forsworn_k03_fewest_names" 201) 81),
  (88, ⟨(.type "code"), none, (.fields #[(.str "_law_side" 286), (.str "_law_side" 287), (.str "/claim/cut.py" 288), (.int (84) 0), (.int (3) 0), (.int (0) 0), (.int (0) 0), (.int (3) 0), (.ref 83), (.bool true), (.int (181) 0), (.ref 84), .none, (.ref 85), (.ref 86), (.ref 87), (.int (295) 0), (.int (84) 0), (.str "/claim/cut.py" 296)]), #[]⟩),
  (89, kFn "_law_side" "_law_side" (topP p 12) (.str "law_forsworn_k03_fewest_names" 201) 88),
  (93, ⟨(.type "code"), none, (.fields #[(.str "_law_sum_first" 298), (.str "_law_sum_first" 299), (.str "/claim/cut.py" 300), (.int (90) 0), (.int (2) 0), (.int (0) 0), (.int (0) 0), (.int (3) 0), (.ref 90), (.bool true), (.int (181) 0), (.ref 91), .none, .none, .none, (.ref 92), (.int (301) 0), (.int (90) 0), (.str "/claim/cut.py" 302)]), #[]⟩),
  (94, kFn "_law_sum_first" "_law_sum_first" (topP p 13) (.str "law_forsworn_k03_fewest_names" 201) 93),
  (98, ⟨(.type "code"), none, (.fields #[(.str "law" 304), (.str "law" 305), (.str "/claim/cut.py" 306), (.int (96) 0), (.int (1) 0), (.int (0) 0), (.int (0) 0), (.int (3) 0), (.ref 95), (.bool true), (.int (181) 0), (.ref 96), .none, .none, .none, (.ref 97), (.int (307) 0), (.int (96) 0), (.str "/claim/cut.py" 308)]), #[]⟩),
  (99, kFn "law" "law" (topP p 14) (.str "law_forsworn_k03_fewest_names" 201) 98)]
def KK (P : Params) : PySem.W.Frag := Kp PySem.Challenge.pw_forsworn_k03_fewest_names P
def tabl : PySem.W.Frag := [(16, ⟨.none, none, .fields #[], #[]⟩)]
def KTp (p : Program) (P : Params) : PySem.W.Frag := (Kp p P ++ tabl : List (Addr × Obj))
def KTK (P : Params) : PySem.W.Frag := KTp PySem.Challenge.pw_forsworn_k03_fewest_names P
def askd : List Addr := [3, 4, 20, 21, 27, 28, 34, 35, 41, 42, 48, 49, 55, 56, 60, 61, 67, 68, 74, 75, 81, 82, 88, 89, 93, 94, 98, 99, 16]
def HK : PySem.W.Hook := PySem.W.kHook KTK askd fun _ => by kernel_rfl
def q : Program := PySem.W.view PySem.Challenge.pw_forsworn_k03_fewest_names [1, 3, 4, 5, 6, 7, 8, 9, 10, 11, 12, 13, 14]
end Law
lay_quick PySem.Challenge.rw_forsworn_k03_fewest_names Law.q
namespace Law
open PySem L2
set_option maxRecDepth 1000000 in
theorem runQ (w : World) (os : PySem.OsState) : Option.map (fun s => PySem.W.Fast.tw12071799914241796487 (PySem.W.Fast.tw2368527892694137696 PySem.W.Fast.tw15501138010921930188).prog PySem.W.Fast.tw2797900513057943271 [] (fun s => PySem.W.xlAt PySem.W.Fast.tw2797900513057943271 [] s && PySem.W.recOk (PySem.W.Fast.tw2368527892694137696 PySem.W.Fast.tw15501138010921930188).records s) (fun s => askd.map s.heap.get?) w.params s.abs)
    (PySem.W.Fast.tw4652649595001227023 PySem.W.Fast.tw14364793385576792824 (PySem.W.Fast.tw2368527892694137696 PySem.W.Fast.tw15501138010921930188).prog w 11 (some (.ref 6)) 960 (PySem.W.Fast.tw15095419895629540892 w.params os) (PySem.W.topStub (PySem.W.Fast.tw2368527892694137696 PySem.W.Fast.tw15501138010921930188).prog)) = some (true, PySem.W.openGood PySem.W.Fast.tw2797900513057943271 [], (KTp PySem.W.Fast.tw3305229789879098769 w.params).map fun p => some p.2) := by
  kernel_rfl
theorem left : PySem.W.LeftO PySem.Challenge.rw_forsworn_k03_fewest_names.row.prog q [] (fun s => PySem.W.xlAt q [] s && PySem.W.recOk (PySem.W.RowW.records PySem.Challenge.rw_forsworn_k03_fewest_names.row.toRowW) s) HK.obs HK.val 960 := by
  refine left_of (by kernel_rfl) (by decide) (fun s => by kernel_rfl) fun w os => ?_
  have h := runQ w os
  rw [← PySem.W.Fast.te12071799914241796487, ← PySem.W.Fast.te4652649595001227023, ← PySem.W.Fast.te15095419895629540892, ← PySem.W.Fast.te2797900513057943271, ← PySem.W.Fast.te2368527892694137696, ← PySem.W.Fast.te15501138010921930188, ← PySem.W.Fast.te14364793385576792824, ← PySem.W.Fast.te3305229789879098769] at h
  exact h
end Law

section
set_option Elab.async false
set_option linter.all false
set_option maxRecDepth 100000
/-! THE HAND LAYER, for ints, bools, texts, own classes, LISTS and tuples (index, slices, in, append, pop ..), calls, loops. Paste it whole ahead of your own text; what your proof does not reach may be deleted. -/
namespace L2
open PySem PySem.Spec PyProof.Rows

/-- a key: an int or a str -/
abbrev Key := Sum Int Str
def keyIs : Key → Value → Bool
  | .inl k, v => Value.isInt k v
  | .inr x, v => Value.isStrOf x v
def keyH (w : World) : Key → Int
  | .inl k => hashInt k
  | .inr x => hashStr w x
theorem keyIs_shape : ∀ {k : Key} {v : Value}, keyIs k v = true → (∃ i t, k = Sum.inl i ∧ v = Value.int i t) ∨ (∃ x t, k = Sum.inr x ∧ v = Value.str x t)
  | .inl i, v, h => by
    obtain ⟨t, e⟩ := Value.isInt_shape (k := i) (v := v) h
    exact .inl ⟨i, t, rfl, e⟩
  | .inr x, v, h => by
    obtain ⟨t, e⟩ := Value.isStrOf_shape (x := x) (v := v) h
    exact .inr ⟨x, t, rfl, e⟩
theorem key_ll (a b : Int) : decide ((Sum.inl a : Key) = Sum.inl b) = (a == b) := by
  by_cases e : a = b
  · subst e; simp
  · have h : ¬ (Sum.inl a : Key) = Sum.inl b := fun q => e (Sum.inl.inj q)
    rw [decide_eq_false h]
    exact (beq_eq_false_iff_ne.mpr e).symm
theorem key_rr (a b : Str) : decide ((Sum.inr a : Key) = Sum.inr b) = decide (a = b) := by
  by_cases e : a = b
  · subst e; simp
  · have h : ¬ (Sum.inr a : Key) = Sum.inr b := fun q => e (Sum.inr.inj q)
    rw [decide_eq_false h, decide_eq_false e]
theorem key_lr (a : Int) (b : Str) : decide ((Sum.inl a : Key) = Sum.inr b) = false := decide_eq_false (fun q => nomatch q)
theorem key_rl (a : Str) (b : Int) : decide ((Sum.inr a : Key) = Sum.inl b) = false := decide_eq_false (fun q => nomatch q)

def mixKind (prog : Program) (w : World) : PySem.KeyKind prog w Key where
  is := keyIs
  hash := keyH w
  inj := fun v a b ha hb => by
    rcases keyIs_shape ha with ⟨i, t, rfl, rfl⟩ | ⟨x, t, rfl, rfl⟩
    · rcases keyIs_shape hb with ⟨j, u, rfl, e⟩ | ⟨y, u, rfl, e⟩
      · injection e with e1 _; rw [e1]
      · exact nomatch e
    · rcases keyIs_shape hb with ⟨j, u, rfl, e⟩ | ⟨y, u, rfl, e⟩
      · exact nomatch e
      · injection e with e1 _; rw [e1]
  byValue := fun k v h => by
    rcases keyIs_shape h with ⟨i, t, rfl, rfl⟩ | ⟨x, t, rfl, rfl⟩ <;> rfl
  pyHash := fun hv h => by
    rcases keyIs_shape hv with ⟨i, t, rfl, rfl⟩ | ⟨x, t, rfl, rfl⟩
    · exact wpAny_pyHash_int h
    · exact wpAny_pyHash_str h
  eqBool := fun hu hv h => by
    rcases keyIs_shape hu with ⟨i, t, rfl, rfl⟩ | ⟨x, t, rfl, rfl⟩
    · rcases keyIs_shape hv with ⟨j, u, rfl, rfl⟩ | ⟨y, u, rfl, rfl⟩
      · rw [key_ll] at h; exact wpAny_eqBool_int h
      · rw [key_lr] at h; exact SeqAt.EqAt.int_str i t y u _ _ _ _ h
    · rcases keyIs_shape hv with ⟨j, u, rfl, rfl⟩ | ⟨y, u, rfl, rfl⟩
      · rw [key_rl] at h; exact SeqAt.EqAt.str_int x t j u _ _ _ _ h
      · rw [key_rr] at h; exact wpAny_eqBool_str h
  «strs» := fun k x t v h => by
    rcases keyIs_shape h with ⟨i, u, rfl, e⟩ | ⟨y, u, rfl, e⟩
    · exact nomatch e
    · injection e with e1 _
      subst e1
      cases v <;> rfl

end L2

namespace L2
open PySem PySem.Spec PyProof.Rows

/-- a value, without the heap -/
inductive V where
  | non | bl (b : Bool) | int (i : Int) | str (x : Str) | byt (b : Array UInt8) | flt (b : UInt64) | ref (a : Addr) | ty (n : String)
  deriving DecidableEq

def RelV : V → Value → Prop
  | .non, u => u = Value.none
  | .bl b, u => u = Value.bool b
  | .int i, u => ∃ t, u = Value.int i t
  | .str x, u => ∃ t, u = Value.str x t
  | .byt b, u => ∃ t, u = Value.bytes b t
  | .flt b, u => ∃ t, u = Value.float b t
  | .ref a, u => u = Value.ref a
  | .ty n, u => u = Value.type n

abbrev Vals : List V → List Value → Prop := Paired RelV
theorem Vals.length {xs : List V} {us : List Value} (r : Vals xs us) : xs.length = us.length := Paired.length r
theorem Vals.get : ∀ {xs : List V} {us : List Value} {i : Nat} {x : V}, Vals xs us → xs[i]? = some x → ∃ u, us[i]? = some u ∧ RelV x u
  | _, _, _, _, .nil, e => by simp at e
  | _, _, 0, _, .cons r _, e => by simp at e; subst e; exact ⟨_, rfl, r⟩
  | _, _, i + 1, x, .cons _ t, e => by
    obtain ⟨u, h1, h2⟩ := Vals.get (i := i) (x := x) t (by simpa using e)
    exact ⟨u, by simpa using h1, h2⟩
theorem Vals.set {x : V} {u : Value} (r : RelV x u) : ∀ {xs : List V} {us : List Value} (i : Nat), Vals xs us → Vals (xs.set i x) (us.set i u)
  | _, _, _, .nil => .nil
  | _, _, 0, .cons _ t => .cons r t
  | _, _, i + 1, .cons q t => .cons q (Vals.set r i t)
theorem Vals.append : ∀ {xs ys : List V} {us ws : List Value}, Vals xs us → Vals ys ws → Vals (xs ++ ys) (us ++ ws)
  | _, _, _, _, .nil, s => s
  | _, _, _, _, .cons r t, s => .cons r (Vals.append t s)
theorem Vals.take : ∀ {xs : List V} {us : List Value} (n : Nat), Vals xs us → Vals (xs.take n) (us.take n)
  | _, _, 0, _ => .nil
  | _, _, _ + 1, .nil => .nil
  | _, _, n + 1, .cons r t => .cons r (Vals.take n t)
theorem Vals.drop : ∀ {xs : List V} {us : List Value} (n : Nat), Vals xs us → Vals (xs.drop n) (us.drop n)
  | _, _, 0, r => r
  | _, _, _ + 1, .nil => .nil
  | _, _, n + 1, .cons _ t => Vals.drop n t
theorem Vals.none_of : ∀ {xs : List V} {us : List Value} {i : Nat}, Vals xs us → xs[i]? = none → us[i]? = none := fun {xs us i} r e => by
  have h1 := r.length
  have h2 : xs.length ≤ i := List.getElem?_eq_none_iff.mp e
  exact List.getElem?_eq_none_iff.mpr (by omega)

def RelO : Option V → Option Value → Prop
  | some v, some u => RelV v u
  | none, none => True
  | _, _ => False
def KV {κ : Type} : List (κ × V) → List (κ × Value) → Prop := Paired fun (p : κ × V) (q : κ × Value) => p.1 = q.1 ∧ RelV p.2 q.2

/-- a key of a dict (00_mix): an int or a text -/
def kV : Key → V
  | .inl i => .int i
  | .inr x => .str x

/-- what stands at a tracked address -/
inductive HO where
  /-- a list -/
  | lst (xs : List V)
  /-- a tuple (never changes) -/
  | tup (xs : List V)
  /-- a dict whose keys are ints and texts; one whose keys are tuples of ints and texts (the empty one is both) -/
  | dK (kvs : List (Key × V)) | dT (kvs : List (List Key × V))
  /-- a set of ints: its members, its size -/
  | set (S : Int → Bool) (n : Nat)
  /-- an instance of the class at C, its dict at dx, its attributes -/
  | ins (C dx : Addr) (fs : List (Str × V))
  /-- the dict of the instance at x -/
  | own (x : Addr)
  /-- the dict of an exception -/
  | xd (fs : List (Str × V))
  /-- a bound method, f of x -/
  | met (f x : Addr)
  /-- a range object lo, lo + 1, .. below hi -/
  | rng (lo hi : Int)
  /-- a thing that is known to the object (the script; a dict while a loop walks it): read, never written while it is so -/
  | frz (o : Obj) (u : HO)
  /-- a code object's table -/
  | tbl (ps : Array Value)
  /-- any other thing, by what is true of its one object (a def of one's own: SetO a S n := HO.ext fun h => ..) -/
  | ext (φ : Heap → Prop)

abbrev Hp := Addr → Option HO
def upd (H : Hp) (a : Addr) (o : HO) : Hp := fun b => if b = a then some o else H b
theorem upd_same {H : Hp} {a : Addr} {o : HO} : upd H a o a = some o := by unfold upd; rw [if_pos rfl]
theorem upd_ne {H : Hp} {a b : Addr} {o : HO} (h : b ≠ a) : upd H a o b = H b := by unfold upd; rw [if_neg h]
theorem ne_of_none {H : Hp} {a b : Addr} {o : HO} (h : H a = some o) (h' : H b = none) : a ≠ b := by
  intro e; subst e; rw [h] at h'; cases h'

section
variable (P : Program) (w : World)
def ObjOk (H : Hp) (h : Heap) (a : Addr) : HO → Prop
  | .lst xs => xs.length ≤ sizeLine ∧ ∃ (its : List Value) (n : Nat), Vals xs its ∧ h.get? a = some { cls := .type "list", data := .seq its.toArray n }
  | .tup xs => xs.length ≤ sizeLine ∧ ∃ its : List Value, Vals xs its ∧ IsTup h a its.toArray
  | .dK kvs => kvs.length ≤ sizeLine ∧ (a == sysModules) = false ∧ ∃ vs, KV kvs vs ∧ h.DictOf (mixKind P w) a vs
  | .dT kvs => kvs.length ≤ sizeLine ∧ (a == sysModules) = false ∧ ∃ xs : List (List Key × Addr × Value),
      Paired (fun (p : List Key × V) (q : List Key × Addr × Value) => p.1 = q.1 ∧ H q.2.1 = some (.tup (p.1.map kV)) ∧ RelV p.2 q.2.2) kvs xs ∧
      ∃ o es ep, h.get? a = some o ∧ o.ExactDict ∧ o.data = .dict es ep ∧ es.toList = xs.map (entryOfKey (tupleKind (mixKind P w))) ∧ (xs.map (·.1)).Nodup
  | .set S n => h.SetOf (intKind P w) a S n
  | .ins C dx fs => H dx = some (.own a) ∧ fs.length ≤ 1000 ∧ dx ≠ a ∧ h.get? a = some (PySem.W.instObj C dx) ∧
      ∃ mA, h.Ns1 dx mA ∧ (∀ f, RelO (fs.lookup f) (mA f)) ∧ PySem.Within mA (fs.map (·.1))
  | .own _ => ∃ o, h.get? a = some o
  | .xd fs => ∃ mA, h.Ns1 a mA ∧ ∀ f, RelO (fs.lookup f) (mA f)
  | .rng lo hi => ∃ t u v, h.get? a = some { cls := .type "range", data := .fields #[.int lo t, .int hi u, .int 1 v] }
  | .frz o u => h.get? a = some o ∧ ObjOk H h a u
  | .tbl ps => ∃ (qs : Array Value) (nm : Str) (t : Tok), h.get? a = some { cls := .none, data := .fields qs } ∧ TriplesOk qs.toList ∧ ps[0]? = some (.str nm t) ∧ ∀ pos cv, codeAmong pos qs.toList = some cv → ∃ c, cv = .ref c ∧ H c = some (.own a) ∧ h.CodeRec (.ref c) nm
  | .met f x => h.get? a = some (PySem.W.methodObj (.ref f) (.ref x))
  | .ext φ => φ h ∧ (∃ o, h.get? a = some o) ∧ ∀ h1 h2 : Heap, φ h1 → (∀ o, h1.get? a = some o → h2.get? a = some o) → φ h2
/-- the abstract heap is held -/
def HOk (H : Hp) (h : Heap) : Prop := ∀ a o, H a = some o → ObjOk P w H h a o
end

section
variable {P : Program} {w : World} {H H' : Hp} {h h' : Heap} {a : Addr} {o : HO}
theorem ObjOk.lt (x : ObjOk P w H h a o) : a < h.objs.size := by
  cases o with
  | lst xs => obtain ⟨_, _, _, _, e⟩ := x; exact Heap.lt_size e
  | tup xs => obtain ⟨_, _, _, p⟩ := x; exact p.lt
  | dK kvs => obtain ⟨_, _, _, _, o, _, _, e, _⟩ := x; exact Heap.lt_size e
  | dT kvs => obtain ⟨_, _, _, _, o, _, _, e, _⟩ := x; exact Heap.lt_size e
  | set S n => obtain ⟨o, _, _, _, e, _⟩ := x; exact Heap.lt_size e
  | ins C dx fs => obtain ⟨_, _, _, e, _⟩ := x; exact Heap.lt_size e
  | own y => obtain ⟨_, e⟩ := x; exact Heap.lt_size e
  | xd fs => obtain ⟨_, ⟨_, _, _, e, _⟩, _⟩ := x; exact Heap.lt_size e
  | rng lo hi => obtain ⟨_, _, _, e⟩ := x; exact Heap.lt_size e
  | frz ob u => obtain ⟨e, _⟩ := x; exact Heap.lt_size e
  | tbl ps => obtain ⟨_, _, _, e, _⟩ := x; exact Heap.lt_size e
  | met f y => exact Heap.lt_size (show h.get? a = some _ from x)
  | ext φ => obtain ⟨_, ⟨_, e⟩, _⟩ := x; exact Heap.lt_size e
theorem Paired.mapP {α β : Type} {F G : α → β → Prop} : ∀ {l₁ : List α} {l₂ : List β}, Paired F l₁ l₂ → (∀ a b, F a b → G a b) → Paired G l₁ l₂
  | _, _, .nil, _ => .nil
  | _, _, .cons r t, f => .cons (f _ _ r) (Paired.mapP t f)
/-- what an object's description leans on: its own object, its own dict, the tuples -/
theorem ObjOk.stay (x : ObjOk P w H h a o) (k : ∀ b u, (b = a ∨ H b = some (.own a)) → h.get? b = some u → h'.get? b = some u)
    (ho : ∀ b, H b = some (.own a) → H' b = some (.own a)) (ht : ∀ b xs, H b = some (.tup xs) → H' b = some (.tup xs)) : ObjOk P w H' h' a o := by
  induction o with
  | lst xs => obtain ⟨z, its, n, r, e⟩ := x; exact ⟨z, its, n, r, k _ _ (.inl rfl) e⟩
  | tup xs => obtain ⟨z, its, r, ob, e, c⟩ := x; exact ⟨z, its, r, ob, k _ _ (.inl rfl) e, c⟩
  | dK kvs => obtain ⟨z, y, vs, r, ob, es, ep, e, c⟩ := x; exact ⟨z, y, vs, r, ob, es, ep, k _ _ (.inl rfl) e, c⟩
  | dT kvs =>
    obtain ⟨z, y, xs, r, ob, es, ep, e, c⟩ := x
    exact ⟨z, y, xs, Paired.mapP r fun p q z => ⟨z.1, ht _ _ z.2.1, z.2.2⟩, ob, es, ep, k _ _ (.inl rfl) e, c⟩
  | set S n => obtain ⟨ob, es, ep, t, e, c⟩ := x; exact ⟨ob, es, ep, t, k _ _ (.inl rfl) e, c⟩
  | ins C dx fs =>
    obtain ⟨d, z, ne, e, mA, ⟨od, es, ep, e2, c⟩, r⟩ := x
    exact ⟨ho _ d, z, ne, k _ _ (.inl rfl) e, mA, ⟨od, es, ep, k _ _ (.inr d) e2, c⟩, r⟩
  | own y => obtain ⟨ob, e⟩ := x; exact ⟨ob, k _ _ (.inl rfl) e⟩
  | xd fs => obtain ⟨mA, ⟨od, es, ep, e, c⟩, r⟩ := x; exact ⟨mA, ⟨od, es, ep, k _ _ (.inl rfl) e, c⟩, r⟩
  | rng lo hi => obtain ⟨t, u, v, e⟩ := x; exact ⟨t, u, v, k _ _ (.inl rfl) e⟩
  | frz ob u ih => obtain ⟨e, q⟩ := x; exact ⟨k _ _ (.inl rfl) e, ih q⟩
  | tbl ps =>
    obtain ⟨qs, nm, t, e, z1, z2, z3⟩ := x
    refine ⟨qs, nm, t, k a _ (.inl rfl) e, z1, z2, fun pos cv ec => ?_⟩
    obtain ⟨c, e1, e2, c2, oc, vs, tt, e3, e4, e5⟩ := z3 pos cv ec
    cases e3
    exact ⟨c, e1, ho _ e2, c, oc, vs, tt, rfl, k _ _ (.inr e2) e4, e5⟩
  | met f y =>
    have e : h.get? a = some (PySem.W.methodObj (.ref f) (.ref y)) := x
    show h'.get? a = some (PySem.W.methodObj (.ref f) (.ref y))
    exact k a _ (.inl rfl) e
  | ext φ => obtain ⟨p, ⟨o, e⟩, st⟩ := x; exact ⟨st _ _ p fun o q => k _ _ (.inl rfl) q, ⟨o, k _ _ (.inl rfl) e⟩, st⟩
theorem HOk.lt (x : HOk P w H h) (e : H a = some o) : a < h.objs.size := (x a o e).lt
theorem HOk.fresh (x : HOk P w H h) (e : h.objs.size ≤ a) : H a = none := by
  cases q : H a with
  | none => rfl
  | some u => exact absurd (Nat.lt_of_lt_of_le (x.lt q) e) (Nat.lt_irrefl _)
/-- every object of the heap is kept -/
theorem HOk.kept (x : HOk P w H h) (k : ∀ b u, h.get? b = some u → h'.get? b = some u) : HOk P w H h' := fun a o e =>
  (x a o e).stay (fun b u _ q => k b u q) (fun _ q => q) fun _ _ q => q
/-- a new object is laid and tracked -/
theorem HOk.laid (x : HOk P w H h) (k : ∀ b u, h.get? b = some u → h'.get? b = some u) (hp : h.objs.size ≤ a) (new : ObjOk P w (upd H a o) h' a o) : HOk P w (upd H a o) h' := fun b u e => by
  have hn := x.fresh hp
  by_cases hb : b = a
  · subst hb; rw [upd_same] at e; cases e; exact new
  · rw [upd_ne hb] at e
    exact (x b u e).stay (fun c v _ q => k c v q) (fun c q => by rw [upd_ne (ne_of_none q hn)]; exact q) fun c xs q => by rw [upd_ne (ne_of_none q hn)]; exact q
end

/-- what may be read as u: it is u, or a known u -/
def Rd (H : Hp) (a : Addr) (u : HO) : Prop := H a = some u ∨ ∃ o, H a = some (.frz o u)
theorem Rd.ok {P : Program} {w : World} {H : Hp} {h : Heap} {a : Addr} {u : HO} (r : Rd H a u) (x : HOk P w H h) : ObjOk P w H h a u := by
  rcases r with r | ⟨o, r⟩
  · exact x a u r
  · obtain ⟨_, q⟩ := x a _ r
    exact q
/-- what may be written -/
def Mut : Option HO → Prop
  | some (.lst _) => True
  | some (.dK _) => True
  | some (.dT _) => True
  | some (.set _ _) => True
  | some (.ins _ _ _) => True
  | some (.ext _) => True
  | _ => False
section
variable {P : Program} {w : World} {H : Hp} {h h' : Heap} {x e : Addr} {o' : HO}
/-- the object at e is changed: x itself, or the dict of the instance x -/
theorem HOk.write (ok : HOk P w H h) (mu : Mut (H x)) (he : e = x ∨ H e = some (.own x)) (k : ∀ b u, b ≠ e → h.get? b = some u → h'.get? b = some u) (heo : ∃ u, h'.get? e = some u)
    (new : ObjOk P w (upd H x o') h' x o') : HOk P w (upd H x o') h' := fun b u q => by
  have nown : ∀ c y, H c = some (.own y) → c ≠ x := fun c y r z => by subst z; rw [r] at mu; exact mu
  have ntup : ∀ c xs, H c = some (.tup xs) → c ≠ x := fun c xs r z => by subst z; rw [r] at mu; exact mu
  by_cases hb : b = x
  · subst hb; rw [upd_same] at q; cases q; exact new
  · rw [upd_ne hb] at q
    by_cases hbe : b = e
    · have q' : H b = some (.own x) := by
        rcases he with z | z
        · exact absurd (hbe.trans z) hb
        · rw [hbe]; exact z
      rw [q] at q'; cases q'
      obtain ⟨v, hv⟩ := heo
      exact ⟨v, by rw [hbe]; exact hv⟩
    · refine (ok b u q).stay (fun c v hc r => k c v ?_ r) (fun c r => by rw [upd_ne (nown c b r)]; exact r) fun c xs r => by rw [upd_ne (ntup c xs r)]; exact r
      rcases hc with rfl | hc
      · exact hbe
      · rintro rfl
        rcases he with z | z
        · exact nown c b hc z
        · rw [hc] at z; cases z; exact hb rfl
end

/-! ### kept unless tracked; of the frames at fs (the callers') the slots may change (an exception that passes writes there); of the records at ex (iterators) nothing is said -/
structure Un (fs ex : List Addr) (H H' : Hp) (h h' : Heap) : Prop where
  keep : ∀ b o, h.get? b = some o → H b = none → b ∉ fs → b ∉ ex → h'.get? b = some o
  slot : ∀ b o, h.get? b = some o → H b = none → b ∈ fs → b ∉ ex → ∃ sl, h'.get? b = some { o with slots := sl }
  free : ∀ b o, h.get? b = some o → H b = none → b ∉ ex → H' b = none
  there : ∀ b o, h.get? b = some o → b ∉ ex → ∃ o', h'.get? b = some o'
  tups : ∀ b xs, H b = some (.tup xs) → H' b = some (.tup xs)
  frzs : ∀ b o u, H b = some (.frz o u) → H' b = some (.frz o u)
  tbls : ∀ b ps, H b = some (.tbl ps) → ∃ more, H' b = some (.tbl (ps ++ more))
section
variable {fs fs' ex ex' : List Addr} {H H1 H2 : Hp} {h h1 h2 h' : Heap} {a x e : Addr} {o : HO}
theorem Un.any (u : Un fs ex H H1 h h1) {b : Addr} {ob : Obj} (q : h.get? b = some ob) (n : H b = none) (hx : b ∉ ex) : ∃ sl, h1.get? b = some { ob with slots := sl } := by
  by_cases hb : b ∈ fs
  · exact u.slot b ob q n hb hx
  · exact ⟨ob.slots, u.keep b ob q n hb hx⟩
theorem Un.kept (k : ∀ b u, h.get? b = some u → h'.get? b = some u) : Un fs ex H H h h' :=
  ⟨fun b ob q _ _ _ => k b ob q, fun b ob q _ _ _ => ⟨ob.slots, k b ob q⟩, fun _ _ _ n _ => n, fun b ob q _ => ⟨ob, k b ob q⟩, fun _ _ q => q, fun _ _ _ q => q, fun _ ps q => ⟨#[], by rw [q]; simp⟩⟩
theorem Un.refl : Un fs ex H H h h := Un.kept fun _ _ q => q
theorem Un.laid (k : ∀ b u, h.get? b = some u → h'.get? b = some u) (hp : h.objs.size ≤ a) (hn : H a = none) : Un fs ex H (upd H a o) h h' where
  keep := fun b u q _ _ _ => k b u q
  slot := fun b u q _ _ _ => ⟨u.slots, k b u q⟩
  free := fun b u q n _ => by rw [upd_ne (Nat.ne_of_lt (Nat.lt_of_lt_of_le (Heap.lt_size q) hp))]; exact n
  there := fun b u q _ => ⟨u, k b u q⟩
  tups := fun b xs q => by rw [upd_ne (ne_of_none q hn)]; exact q
  frzs := fun b u xs q => by rw [upd_ne (ne_of_none q hn)]; exact q
  tbls := fun b ps q => ⟨#[], by rw [upd_ne (ne_of_none q hn), q]; simp⟩
theorem Un.write (mu : Mut (H x)) (he : e = x ∨ H e = some (.own x)) (k : ∀ b u, b ≠ e → h.get? b = some u → h'.get? b = some u) (heo : ∃ u, h'.get? e = some u) : Un fs ex H (upd H x o) h h' := by
  have hx : ∀ b, H b = none → b ≠ x := fun b n z => by subst z; rw [n] at mu; exact mu
  have hb : ∀ b, H b = none → b ≠ e := fun b n z => by
    subst z
    rcases he with r | r
    · exact hx b n r
    · rw [n] at r; cases r
  have hm : ∀ b u, H b = some u → ¬ Mut (some u) → b ≠ x := fun b u q nm z => by subst z; rw [q] at mu; exact nm mu
  refine ⟨fun b u q n _ _ => k b u (hb b n) q, fun b u q n _ _ => ⟨u.slots, k b u (hb b n) q⟩, fun b u q n _ => by rw [upd_ne (hx b n)]; exact n, fun b u q _ => ?_,
    fun b xs q => by rw [upd_ne (hm b _ q fun z => z)]; exact q, fun b u xs q => by rw [upd_ne (hm b _ q fun z => z)]; exact q, fun b ps q => ⟨#[], by rw [upd_ne (hm b _ q fun z => z), q]; simp⟩⟩
  by_cases hbe : b = e
  · subst hbe; exact heo
  · exact ⟨u, k b u hbe q⟩
end

/-! ### the heap without what is tracked -/
def trk (h : Heap) (H : Hp) : List Addr := (List.range h.objs.size).filter fun a => (H a).isSome
def hidT (h : Heap) (H : Hp) : Heap := PySem.W.hideAll h (trk h H)
theorem hidT_size (h : Heap) (H : Hp) : (hidT h H).objs.size = h.objs.size := PySem.W.hideAll_size _ _
theorem hidT_get {h : Heap} {H : Hp} {b : Addr} {o : Obj} (e : h.get? b = some o) (n : H b = none) : (hidT h H).get? b = some o :=
  PySem.W.hideAll_get _ e fun hm => by
    have q : (H b).isSome = true := (List.mem_filter.mp hm).2
    rw [n] at q; simp at q
theorem of_hidT {h : Heap} {H : Hp} {b : Addr} {o : Obj} (e : (hidT h H).get? b = some o) : h.get? b = some o ∧ H b = none := by
  have e' : h.get? b = some o := PySem.W.of_hideAll (trk h H) e
  refine ⟨e', ?_⟩
  cases q : H b with
  | none => rfl
  | some x =>
    have hm : b ∈ trk h H := List.mem_filter.mpr ⟨List.mem_range.mpr (Heap.lt_size e'), by simp [q]⟩
    have z : (hidT h H).get? b = none := PySem.W.hideAll_none (trk h H) hm
    rw [z] at e; cases e

/-! ### OpenK's ledger, filled with every new object but one -/
end L2

namespace L2
open PySem PySem.Spec PyProof.Rows

/-- the module's facts, over the base: the heap at the law's entry without what is tracked there -/
structure Mod (K : PySem.W.Frag) (mg : Str → Option Value) (base : Heap) : Prop where
  kin : K.In base
  glob : base.Ns mainGlobals mg
  blt : ∃ mb, base.Ns builtinsNs mb ∧ ∀ x : Str, x ≠ "__name__" → mb x = bootBuiltins x
  nolimit : base.NoLimit

/-- the context: a def's body (or a comprehension's block) running. base: fixed through the whole law; s₀, H₀: the entry; outer: the frames whose slots others may change (a def's callers); stack: all frames that run;
   ex: iterators that were made ahead of the entry and are walked here (a comprehension's); fn: the names whose cells were made at the entry (a def: all; a comprehension's block: its own); calm: not within an except suite; pn: pins that every state bears; xe: what is wanted of an exception that leaves the code -/
structure Cx where
  prog : Program
  w : World
  K : PySem.W.Frag
  mg : Str → Option Value
  base : Heap
  A : Around
  N : List Str
  s₀ : Shared
  H₀ : Hp
  env : Env
  outer : List Env
  stack : List Env
  ex : List Addr
  fn : Str → Bool
  calm : Bool
  pn : List (Addr × Obj)
  xe : Value → Shared → Prop
/-- the callers' frames -/
def frs (l : List Env) : List Addr := l.filterMap (·.frame)
abbrev Cx.fs (X : Cx) : List Addr := frs X.outer

def Vis (sc : Scope) (x : Str) : Prop := sc.names.lookup x = some .local ∨ sc.names.lookup x = some .cell ∨ sc.names.lookup x = some .free
def Loc (sc : Scope) (x : Str) : Prop := sc.names.lookup x = some .local ∨ sc.names.lookup x = some .cell
def Look (env : Env) (h : Heap) (m : Str → Option Value) (x : Str) (u : Value) : Prop :=
  (env.kindOf x = some .local ∧ m x = some u) ∨ ((env.kindOf x = some .cell ∨ env.kindOf x = some .free) ∧ ∃ c, env.cells.lookup x = some c ∧ h.IsCell c (some u))

structure Cx.Ok (X : Cx) : Prop where
  mod : Mod X.K X.mg X.base
  kind : X.env.scope.kind = .function
  glob : X.env.globals = mainGlobals
  blt : X.env.builtins = builtinsNs
  above : X.s₀.heap.objs.size ≤ X.env.locals
  inj : ∀ x y c, X.env.cells.lookup x = some c → X.env.cells.lookup y = some c → x = y
  has : ∀ x, (X.env.kindOf x = some .cell ∨ X.env.kindOf x = some .free) → ∃ c, X.env.cells.lookup x = some c
  cab : ∀ x c, X.fn x = true → X.env.cells.lookup x = some c → X.s₀.heap.objs.size ≤ c
  hd : X.calm = true → X.A.handled = none
  frames : X.A.frames = some X.stack
  stk : X.stack = X.outer ∨ (X.stack = X.env :: X.outer ∧ X.env.frame = some X.env.locals)
  exf : ∀ b ∈ X.ex, b ≠ X.env.locals ∧ ∀ x c, X.env.cells.lookup x = some c → c ≠ b
  bs : ∀ b o, X.base.get? b = some o → X.s₀.heap.get? b = some o ∧ X.H₀ b = none
  bsz : X.base.objs.size ≤ X.s₀.heap.objs.size
  noex : ∀ b o, X.base.get? b = some o → b ∉ X.ex
  exfs : ∀ b ∈ X.ex, b ∉ X.fs
  funs : X.s₀.heap.FunFrames X.base X.outer
  frf : ∀ b ∈ X.fs, X.H₀ b = none

structure Inv (X : Cx) (pins : List (Addr × Obj)) (σ : List (Option V)) (H : Hp) (s : Shared) : Prop where
  ok : X.Ok
  os : s.os = X.s₀.os
  bare : AllBare s.gens
  base : Un X.fs X.ex X.H₀ H X.s₀.heap s.heap
  loc : ∃ m, s.heap.Ns X.env.locals m ∧ ∀ (i : Nat) (x : Str) (v : V), X.N[i]? = some x → σ[i]? = some (some v) → Vis X.env.scope x → ∃ u, RelV v u ∧ Look X.env s.heap m x u
  cell : ∀ x c, X.env.cells.lookup x = some c → ∃ v, s.heap.IsCell c v
  free : H X.env.locals = none
  freeC : ∀ x c, X.env.cells.lookup x = some c → H c = none
  pin : ∀ p ∈ X.pn ++ pins, s.heap.get? p.1 = some p.2 ∧ H p.1 = none ∧ p.1 ≠ X.env.locals ∧ p.1 ∉ X.fs ∧ ∀ v, p.2.data ≠ .cell v
  hok : HOk X.prog X.w H s.heap
  len : σ.length = X.N.length

section
variable {X : Cx} {pins : List (Addr × Obj)} {σ : List (Option V)} {H H' : Hp} {s : Shared} {h' : Heap}

theorem Cx.Ok.nofr (ok : X.Ok) {b : Addr} {o : Obj} (e : X.base.get? b = some o) : b ∉ X.fs := fun hb => by
  have := (ok.funs.mem hb).1
  rw [e] at this; cases this
theorem Inv.bs (I : Inv X pins σ H s) : ∀ b o, X.base.get? b = some o → s.heap.get? b = some o ∧ H b = none := fun b o e =>
  ⟨I.base.keep b o (I.ok.bs b o e).1 (I.ok.bs b o e).2 (I.ok.nofr e) (I.ok.noex b o e), I.base.free b o (I.ok.bs b o e).1 (I.ok.bs b o e).2 (I.ok.noex b o e)⟩
theorem Inv.bk (I : Inv X pins σ H s) : ∀ b o, X.base.get? b = some o → s.heap.get? b = some o := fun b o e => (I.bs b o e).1
theorem Inv.mod (I : Inv X pins σ H s) : Mod X.K X.mg X.base := I.ok.mod
theorem Inv.kIn (I : Inv X pins σ H s) : X.K.In s.heap := I.ok.mod.kin.keeps I.bk
theorem Inv.lt (I : Inv X pins σ H s) : X.env.locals < s.heap.objs.size := let ⟨_, hn, _⟩ := I.loc; hn.lt
theorem Inv.sz (I : Inv X pins σ H s) : X.s₀.heap.objs.size ≤ s.heap.objs.size := Nat.le_trans I.ok.above (Nat.le_of_lt I.lt)
theorem Inv.nofs (I : Inv X pins σ H s) {a : Addr} (h : s.heap.objs.size ≤ a) : a ∉ X.fs := fun hb => by
  obtain ⟨_, o, ho, _⟩ := I.ok.funs.mem hb
  exact absurd (Nat.lt_of_lt_of_le (Heap.lt_size ho) (Nat.le_trans I.sz h)) (Nat.lt_irrefl _)
theorem Inv.cne (I : Inv X pins σ H s) : ∀ x c, X.env.cells.lookup x = some c → c ≠ X.env.locals := fun x c e z => by
  obtain ⟨v, o, ho, hd⟩ := I.cell x c e
  obtain ⟨m, ⟨o', es, ep, ho', hd', _⟩, _⟩ := I.loc
  rw [z, ho'] at ho; cases ho; rw [hd'] at hd; cases hd
theorem Inv.funs (I : Inv X pins σ H s) : s.heap.FunFrames X.base X.outer := by
  have all : ∀ (l : List Env), (∀ b ∈ frs l, b ∈ X.fs) → X.s₀.heap.FunFrames X.base l → s.heap.FunFrames X.base l := by
    intro l
    induction l with
    | nil => intro _ _; trivial
    | cons env r ih =>
      intro hs hl
      obtain ⟨hk, ⟨L, o, hf, hn, ho, hd⟩, hr⟩ := hl
      have hL : L ∈ X.fs := hs L (by unfold frs; rw [List.filterMap_cons, hf]; exact List.mem_cons_self)
      obtain ⟨sl, e⟩ := I.base.slot L o ho (I.ok.frf L hL) hL fun z => I.ok.exfs L z hL
      exact ⟨hk, ⟨L, _, hf, hn, e, hd⟩, ih (fun b hb => hs b (by unfold frs; rw [List.filterMap_cons, hf]; exact List.mem_cons_of_mem _ hb)) hr⟩
  exact all X.outer (fun _ hb => hb) I.ok.funs

/-- the frames that run, for a call -/
theorem Inv.stack (I : Inv X pins σ H s) : s.heap.FunFrames X.base X.stack := by
  rcases I.ok.stk with e | ⟨e, hf⟩
  · rw [e]; exact I.funs
  · rw [e]
    obtain ⟨m, hn, _⟩ := I.loc
    refine .cons (by rw [I.ok.kind]; decide) hf hn ?_ I.funs
    exact Heap.get?_none_of_le (Nat.le_trans I.ok.bsz I.ok.above)
theorem Inv.stkSub (I : Inv X pins σ H s) : ∀ b ∈ frs X.stack, b ∈ X.env.locals :: X.fs := fun b hb => by
  rcases I.ok.stk with e | ⟨e, hf⟩
  · rw [e] at hb; exact List.mem_cons_of_mem _ hb
  · rw [e] at hb
    unfold frs at hb
    rw [List.filterMap_cons, hf] at hb
    exact hb
theorem Inv.stkFree (I : Inv X pins σ H s) : ∀ b ∈ frs X.stack, H b = none := fun b hb => by
  rcases List.mem_cons.mp (I.stkSub b hb) with e | hb
  · rw [e]; exact I.free
  · obtain ⟨_, o, ho, _⟩ := I.ok.funs.mem hb
    exact I.base.free b o ho (I.ok.frf b hb) fun z => I.ok.exfs b z hb

/-- THE STEP: the untracked objects but the frame and the records at ch are kept (the callers' frames up to slots), the frame's map is kept, the new abstract heap is held -/
theorem Inv.step {g' : Array GenState} {t' : Nat} {d' : Drawn} {ch : List Addr} (I : Inv X pins σ H s)
    (hch : ∀ b ∈ ch, (b ∈ X.ex ∨ X.s₀.heap.objs.size ≤ b) ∧ b ≠ X.env.locals ∧ (∀ x c, X.env.cells.lookup x = some c → c ≠ b) ∧ ∀ p ∈ X.pn ++ pins, p.1 ≠ b)
    (keep : ∀ b o, b ≠ X.env.locals → b ∉ X.fs → b ∉ ch → s.heap.get? b = some o → H b = none → h'.get? b = some o)
    (slot : ∀ b o, b ≠ X.env.locals → b ∈ X.fs → b ∉ ch → s.heap.get? b = some o → H b = none → ∃ sl, h'.get? b = some { o with slots := sl }) (free : ∀ b o, b ∉ ch → s.heap.get? b = some o → H b = none → H' b = none)
    (there : ∀ b o, b ∉ ch → s.heap.get? b = some o → ∃ o', h'.get? b = some o')
    (tups : ∀ b xs, H b = some (.tup xs) → H' b = some (.tup xs)) (frzs : ∀ b o u, H b = some (.frz o u) → H' b = some (.frz o u)) (tbls : ∀ b ps, H b = some (.tbl ps) → ∃ more, H' b = some (.tbl (ps ++ more)))
    (ns : ∀ m, s.heap.Ns X.env.locals m → h'.Ns X.env.locals m) (hok : HOk X.prog X.w H' h') (hg : AllBare g') :
    Inv X pins σ H' { s with heap := h', gens := g', drawn := d', toks := t' } := by
  have neL : ∀ b o, X.s₀.heap.get? b = some o → b ≠ X.env.locals := fun b o e => Nat.ne_of_lt (Nat.lt_of_lt_of_le (Heap.lt_size e) I.ok.above)
  have neC : ∀ b o, X.s₀.heap.get? b = some o → b ∉ X.ex → b ∉ ch := fun b o e hx hb => by
    rcases (hch b hb).1 with z | z
    · exact hx z
    · exact absurd (Nat.lt_of_lt_of_le (Heap.lt_size e) z) (Nat.lt_irrefl _)
  have cellK : ∀ x c, X.env.cells.lookup x = some c → ∀ v, s.heap.IsCell c v → h'.IsCell c v := fun x c e v ⟨o, ho, hd⟩ => by
    have nch : c ∉ ch := fun z => (hch c z).2.2.1 x c e rfl
    by_cases hc : c ∈ X.fs
    · obtain ⟨sl, q⟩ := slot c o (I.cne x c e) hc nch ho (I.freeC x c e)
      exact ⟨_, q, hd⟩
    · exact ⟨o, keep c o (I.cne x c e) hc nch ho (I.freeC x c e), hd⟩
  refine ⟨I.ok, I.os, hg, ⟨fun b o e n hb hx => ?_, fun b o e n hb hx => ?_, fun b o e n hx => ?_, fun b o e hx => ?_, fun b xs e => tups b xs (I.base.tups b xs e), fun b o xs e => frzs b o xs (I.base.frzs b o xs e), fun b ps e => ?_⟩, ?_, fun x c e => ?_, ?_, fun x c e => ?_, fun p hp => ?_, hok, I.len⟩
  · exact keep b o (neL b o e) hb (neC b o e hx) (I.base.keep b o e n hb hx) (I.base.free b o e n hx)
  · obtain ⟨sl, e1⟩ := I.base.slot b o e n hb hx
    obtain ⟨sl', e2⟩ := slot b _ (neL b o e) hb (neC b o e hx) e1 (I.base.free b o e n hx)
    exact ⟨sl', e2⟩
  · obtain ⟨o', e1⟩ := I.base.there b o e hx
    exact free b o' (neC b o e hx) e1 (I.base.free b o e n hx)
  · obtain ⟨o', e1⟩ := I.base.there b o e hx
    exact there b o' (neC b o e hx) e1
  · obtain ⟨m1, e1⟩ := I.base.tbls b ps e
    obtain ⟨m2, e2⟩ := tbls b _ e1
    exact ⟨m1 ++ m2, by rw [e2, Array.append_assoc]⟩
  · obtain ⟨m, hn, hl⟩ := I.loc
    refine ⟨m, ns m hn, fun i x v e1 e2 e3 => ?_⟩
    obtain ⟨u, r, l⟩ := hl i x v e1 e2 e3
    refine ⟨u, r, ?_⟩
    rcases l with l | ⟨k, c, e, z⟩
    · exact .inl l
    · exact .inr ⟨k, c, e, cellK x c e _ z⟩
  · obtain ⟨v, z⟩ := I.cell x c e
    exact ⟨v, cellK x c e v z⟩
  · obtain ⟨m, ⟨o, _, _, ho, _⟩, _⟩ := I.loc
    exact free _ o (fun z => (hch _ z).2.1 rfl) ho I.free
  · obtain ⟨v, o, ho, hd⟩ := I.cell x c e
    exact free c o (fun z => (hch c z).2.2.1 x c e rfl) ho (I.freeC x c e)
  · obtain ⟨e, n, ne, nf, d⟩ := I.pin p hp
    have nch : p.1 ∉ ch := fun z => (hch p.1 z).2.2.2 p hp rfl
    exact ⟨keep p.1 p.2 ne nf nch e n, free p.1 p.2 nch e n, ne, nf, d⟩
/-- .. where the frame's own object is kept too -/
theorem Inv.un {t' : Nat} (I : Inv X pins σ H s) (u : Un X.fs [] H H' s.heap h') (hok : HOk X.prog X.w H' h') : Inv X pins σ H' { s with heap := h', toks := t' } := by
  obtain ⟨m, ⟨o, es, ep, ho, r⟩, _⟩ := id I.loc
  obtain ⟨sl, hL⟩ := u.any ho I.free (by simp)
  exact I.step (g' := s.gens) (d' := s.drawn) (ch := []) (fun _ z => nomatch z) (fun b o _ hb _ e n => u.keep b o e n hb (by simp)) (fun b o _ hb _ e n => u.slot b o e n hb (by simp)) (fun b o _ e n => u.free b o e n (by simp)) (fun b o _ e => u.there b o e (by simp)) u.tups u.frzs u.tbls (fun m' hm => by
    obtain ⟨o', es', ep', ho', r'⟩ := hm
    rw [ho] at ho'; cases ho'
    exact ⟨_, es', ep', hL, r'⟩) hok I.bare
/-- behind a call (or a comprehension's block): the slots of this frame may have changed too, the records at ch may have turned -/
theorem Inv.call {g' : Array GenState} {t' : Nat} {d' : Drawn} {ch : List Addr} (I : Inv X pins σ H s) (u : Un (frs X.stack) ch H H' s.heap h') (hok : HOk X.prog X.w H' h') (hg : AllBare g')
    (hch : ∀ b ∈ ch, (b ∈ X.ex ∨ X.s₀.heap.objs.size ≤ b) ∧ b ≠ X.env.locals ∧ (∀ x c, X.env.cells.lookup x = some c → c ≠ b) ∧ ∀ p ∈ X.pn ++ pins, p.1 ≠ b) :
    Inv X pins σ H' { s with heap := h', gens := g', drawn := d', toks := t' } := by
  obtain ⟨m, ⟨o, es, ep, ho, r⟩, _⟩ := id I.loc
  obtain ⟨sl, hL⟩ := u.any ho I.free fun z => (hch _ z).2.1 rfl
  exact I.step (ch := ch) hch (fun b o hL hb hc e n => u.keep b o e n (fun z => (List.mem_cons.mp (I.stkSub b z)).elim hL hb) hc) (fun b o _ _ hc e n => u.any e n hc) (fun b o hc e n => u.free b o e n hc) (fun b o hc e => u.there b o e hc) u.tups u.frzs u.tbls (fun m' hm => by
    obtain ⟨o', es', ep', ho', r'⟩ := hm
    rw [ho] at ho'; cases ho'
    exact ⟨_, es', ep', hL, r'⟩) hok hg
/-- an untracked record of ours (an iterator) has turned -/
theorem Inv.turned {t' : Nat} {it : Addr} (I : Inv X pins σ H s) (k : ∀ b o, b ≠ it → s.heap.get? b = some o → h'.get? b = some o) (hn : H it = none) (hL : it ≠ X.env.locals)
    (h1 : it ∈ X.ex ∨ X.s₀.heap.objs.size ≤ it) (h2 : ∀ x c, X.env.cells.lookup x = some c → c ≠ it) (h3 : ∀ p ∈ X.pn ++ pins, p.1 ≠ it) : Inv X pins σ H { s with heap := h', toks := t' } := by
  have nit : ∀ b u, H b = some u → b ≠ it := fun b u e z => by rw [z, hn] at e; cases e
  refine I.step (g' := s.gens) (d' := s.drawn) (ch := [it]) (fun b hb => ?_) (fun b o _ _ hc e _ => k b o (fun z => hc (by simp [z])) e) (fun b o _ _ hc e _ => ⟨o.slots, k b o (fun z => hc (by simp [z])) e⟩) (fun _ _ _ _ n => n)
    (fun b o hc e => ⟨o, k b o (fun z => hc (by simp [z])) e⟩) (fun _ _ e => e) (fun _ _ _ e => e) (fun b ps e => ⟨#[], by rw [e]; simp⟩) (fun m hm => ?_) (fun b u e => ?_) I.bare
  · have e : b = it := by simpa using hb
    subst e
    exact ⟨h1, hL, h2, h3⟩
  · obtain ⟨o, es, ep, ho, r⟩ := hm
    exact ⟨o, es, ep, k _ o (Ne.symm hL) ho, r⟩
  · refine (I.hok b u e).stay (fun c v hc q => k c v ?_ q) (fun _ q => q) fun _ _ q => q
    rcases hc with z | z
    · rw [z]; exact nit b u e
    · exact nit c _ z
theorem Inv.tok (I : Inv X pins σ H s) (t : Nat) : Inv X pins σ H { s with toks := t } := I.un (h' := s.heap) (t' := t) Un.refl I.hok
/-- all objects kept -/
theorem Inv.kept {t' : Nat} (I : Inv X pins σ H s) (k : ∀ b u, s.heap.get? b = some u → h'.get? b = some u) : Inv X pins σ H { s with heap := h', toks := t' } := I.un (Un.kept k) (I.hok.kept k)
/-- a new object laid and tracked -/
theorem Inv.laid {a : Addr} {o : HO} {t' : Nat} (I : Inv X pins σ H s) (k : ∀ b u, s.heap.get? b = some u → h'.get? b = some u) (hp : s.heap.objs.size ≤ a) (new : ObjOk X.prog X.w (upd H a o) h' a o) :
    Inv X pins σ (upd H a o) { s with heap := h', toks := t' } := I.un (Un.laid k hp (I.hok.fresh hp)) (I.hok.laid k hp new)
/-- an object written -/
theorem Inv.write {x e : Addr} {o : HO} {t' : Nat} (I : Inv X pins σ H s) (mu : Mut (H x)) (he : e = x ∨ H e = some (.own x)) (k : ∀ b u, b ≠ e → s.heap.get? b = some u → h'.get? b = some u) (heo : ∃ u, h'.get? e = some u)
    (new : ObjOk X.prog X.w (upd H x o) h' x o) : Inv X pins σ (upd H x o) { s with heap := h', toks := t' } := I.un (Un.write mu he k heo) (I.hok.write mu he k heo new)
theorem Inv.pins_of {pins' : List (Addr × Obj)} (I : Inv X pins σ H s) (h : ∀ p ∈ pins', s.heap.get? p.1 = some p.2 ∧ H p.1 = none ∧ p.1 ≠ X.env.locals ∧ p.1 ∉ X.fs ∧ ∀ v, p.2.data ≠ .cell v) : Inv X pins' σ H s :=
  ⟨I.ok, I.os, I.bare, I.base, I.loc, I.cell, I.free, I.freeC, fun p hp => (List.mem_append.mp hp).elim (fun z => I.pin p (List.mem_append_left _ z)) (h p), I.hok, I.len⟩

theorem nodup_ix {N : List Str} (hN : N.Nodup) {i j : Nat} {x : Str} (a : N[i]? = some x) (b : N[j]? = some x) : i = j := by
  obtain ⟨h1, e1⟩ := List.getElem?_eq_some_iff.mp a
  obtain ⟨h2, e2⟩ := List.getElem?_eq_some_iff.mp b
  exact (List.getElem_inj hN).mp (e1.trans e2.symm)

/-- a name is stored; what changed -/
theorem store_ok2 {M : Model} {A : Around} {E : Value → Shared → Prop} {i : Nat} {x : Str} {v : V} {u : Value} {Q : Unit → Shared → Prop} (I : Inv X pins σ H s) (hN : X.N.Nodup) (hi : X.N[i]? = some x) (hx : Loc X.env.scope x) (r : RelV v u)
    (h : ∀ s', Inv X pins (σ.set i (some v)) H s' → (∃ a, Heap.SameBut a s.heap s'.heap ∧ (a = X.env.locals ∨ X.env.cells.lookup x = some a)) → Q () s') (hf : X.fn x = true ∨ X.env.scope.names.lookup x = some .local := by first | exact .inl rfl | exact .inr rfl | assumption) : wpAny M A (storeName X.env x u) Q E s := by
  obtain ⟨m, hn, hl⟩ := id I.loc
  have hcls : (X.env.scope.kind == .class || (X.env.scope.kind == .module && X.env.locals != X.env.globals)) = false := by rw [I.ok.kind]; rfl
  have hiσ : i < σ.length := by rw [I.len]; exact (List.getElem?_eq_some_iff.mp hi).1
  have cne := I.cne
  have tracked : ∀ {a : Addr} {h' : Heap}, (∃ o, s.heap.get? a = some o ∧ H a = none) → Heap.SameBut a s.heap h' → HOk X.prog X.w H h' := fun {a h'} ha hs b ob e => by
    obtain ⟨_, _, hfree⟩ := ha
    refine (I.hok b ob e).stay (fun c w' hc q => (hs.2 c ?_).trans q) (fun _ q => q) fun _ _ q => q
    rintro rfl
    rcases hc with rfl | hc
    · rw [hfree] at e; cases e
    · rw [hfree] at hc; cases hc
  rcases hx with hk | hk
  · refine wpAny_storeName_local hk hn (fun h' hn' hs => ?_) hcls
    obtain ⟨oL, _, _, hoL, _⟩ := id hn
    refine h _ ⟨I.ok, I.os, I.bare, ⟨fun b o e n hb hx => ?_, fun b o e n hb hx => ?_, I.base.free, fun b o e hx => ?_, I.base.tups, I.base.frzs, I.base.tbls⟩, ⟨_, hn', fun j y v' e1 e2 e3 => ?_⟩, fun y c e => ?_, I.free, I.freeC, fun p hp => ?_, tracked ⟨oL, hoL, I.free⟩ hs, by simpa using I.len⟩ ⟨_, hs, .inl rfl⟩
    · exact (hs.2 b (Nat.ne_of_lt (Nat.lt_of_lt_of_le (Heap.lt_size e) I.ok.above))).trans (I.base.keep b o e n hb hx)
    · obtain ⟨sl, e1⟩ := I.base.slot b o e n hb hx
      exact ⟨sl, (hs.2 b (Nat.ne_of_lt (Nat.lt_of_lt_of_le (Heap.lt_size e) I.ok.above))).trans e1⟩
    · obtain ⟨o', e1⟩ := I.base.there b o e hx
      exact ⟨o', (hs.2 b (Nat.ne_of_lt (Nat.lt_of_lt_of_le (Heap.lt_size e) I.ok.above))).trans e1⟩
    · by_cases hj : j = i
      · subst hj
        rw [hi] at e1; cases e1
        rw [List.getElem?_set_self hiσ] at e2
        cases e2
        exact ⟨u, r, .inl ⟨hk, by simp⟩⟩
      · rw [List.getElem?_set_ne (Ne.symm hj)] at e2
        obtain ⟨u', r', q⟩ := hl j y v' e1 e2 e3
        refine ⟨u', r', ?_⟩
        rcases q with ⟨k, e⟩ | ⟨k, c, e, z⟩
        · refine .inl ⟨k, ?_⟩
          have : y ≠ x := fun e => hj (nodup_ix hN e1 (e ▸ hi))
          simp [this, e]
        · exact .inr ⟨k, c, e, z.sameBut hs (cne y c e)⟩
    · obtain ⟨w', z⟩ := I.cell y c e
      exact ⟨w', z.sameBut hs (cne y c e)⟩
    · obtain ⟨e, n, ne, nf, d⟩ := I.pin p hp
      exact ⟨(hs.2 p.1 ne).trans e, n, ne, nf, d⟩
  · have hfn : X.fn x = true := by
      rcases hf with z | z
      · exact z
      · rw [z] at hk; cases hk
    obtain ⟨c, hc⟩ := I.ok.has x (.inl hk)
    obtain ⟨w', z⟩ := I.cell x c hc
    refine wpAny_storeName_cell I.ok.kind hk hc z (fun h' hc' hs => ?_)
    obtain ⟨oc, hoc, hocd⟩ := id z
    refine h { s with heap := h' } ⟨I.ok, I.os, I.bare, ⟨fun b o e n hb hx => ?_, fun b o e n hb hx => ?_, I.base.free, fun b o e hx => ?_, I.base.tups, I.base.frzs, I.base.tbls⟩, ⟨m, hn.sameBut hs (Ne.symm (cne x c hc)), fun j y v' e1 e2 e3 => ?_⟩, fun y c' e => ?_, I.free, I.freeC, fun p hp => ?_, tracked ⟨oc, hoc, I.freeC x c hc⟩ hs, by simpa using I.len⟩ ⟨c, hs, .inr hc⟩
    · exact (hs.2 b (Nat.ne_of_lt (Nat.lt_of_lt_of_le (Heap.lt_size e) (I.ok.cab x c hfn hc)))).trans (I.base.keep b o e n hb hx)
    · obtain ⟨sl, e1⟩ := I.base.slot b o e n hb hx
      exact ⟨sl, (hs.2 b (Nat.ne_of_lt (Nat.lt_of_lt_of_le (Heap.lt_size e) (I.ok.cab x c hfn hc)))).trans e1⟩
    · obtain ⟨o', e1⟩ := I.base.there b o e hx
      exact ⟨o', (hs.2 b (Nat.ne_of_lt (Nat.lt_of_lt_of_le (Heap.lt_size e) (I.ok.cab x c hfn hc)))).trans e1⟩
    · by_cases hj : j = i
      · subst hj
        rw [hi] at e1; cases e1
        rw [List.getElem?_set_self hiσ] at e2
        cases e2
        exact ⟨u, r, .inr ⟨.inl hk, c, hc, hc'⟩⟩
      · rw [List.getElem?_set_ne (Ne.symm hj)] at e2
        obtain ⟨u', r', q⟩ := hl j y v' e1 e2 e3
        refine ⟨u', r', ?_⟩
        rcases q with q | ⟨k, c', e, z'⟩
        · exact .inl q
        · refine .inr ⟨k, c', e, z'.sameBut hs ?_⟩
          rintro rfl
          exact hj (nodup_ix hN e1 (I.ok.inj _ _ _ e hc ▸ hi))
    · by_cases hcc : c' = c
      · subst hcc; exact ⟨_, hc'⟩
      · obtain ⟨w2, z2⟩ := I.cell y c' e
        exact ⟨w2, z2.sameBut hs hcc⟩
    · obtain ⟨e, n, ne, nf, d⟩ := I.pin p hp
      refine ⟨(hs.2 p.1 ?_).trans e, n, ne, nf, d⟩
      intro q
      rw [q, hoc] at e
      have q' : oc = p.2 := Option.some.inj e
      exact d w' (by rw [← q']; exact hocd)
theorem store_ok {M : Model} {A : Around} {E : Value → Shared → Prop} {i : Nat} {x : Str} {v : V} {u : Value} {Q : Unit → Shared → Prop} (I : Inv X pins σ H s) (hN : X.N.Nodup) (hi : X.N[i]? = some x) (hx : Loc X.env.scope x) (r : RelV v u)
    (h : ∀ s', Inv X pins (σ.set i (some v)) H s' → Q () s') (hf : X.fn x = true ∨ X.env.scope.names.lookup x = some .local := by first | exact .inl rfl | exact .inr rfl | assumption) : wpAny M A (storeName X.env x u) Q E s :=
  store_ok2 I hN hi hx r (fun s' I' _ => h s' I') hf
/-- behind a call or a block, the state as it is -/
theorem Inv.call' {s' : Shared} {ch : List Addr} (I : Inv X pins σ H s) (ho : s'.os = s.os) (u : Un (frs X.stack) ch H H' s.heap s'.heap) (hok : HOk X.prog X.w H' s'.heap) (hg : AllBare s'.gens)
    (hch : ∀ b ∈ ch, (b ∈ X.ex ∨ X.s₀.heap.objs.size ≤ b) ∧ b ≠ X.env.locals ∧ (∀ x c, X.env.cells.lookup x = some c → c ≠ b) ∧ ∀ p ∈ X.pn ++ pins, p.1 ≠ b) : Inv X pins σ H' s' := by
  obtain ⟨h', g', d', t', o'⟩ := s'
  have e : o' = s.os := ho
  subst e
  exact I.call (g' := g') (t' := t') (d' := d') u hok hg hch
end

/-! ### the judgements -/
/-- an exception: its class, its own dict's address (where it has one), the abstract heap behind it -/
abbrev XK := Value → Option Addr → Hp → Prop
abbrev St := List (Option V)
abbrev VK := V → Hp → Prop
/-- an expression's reading; a test's; an argument list's -/
abbrev TE := St → Hp → VK → Prop
abbrev TT := St → Hp → (Bool → Hp → Prop) → Prop
abbrev TA := St → Hp → (List V → Hp → Prop) → Prop
/-- what is wanted behind a statement -/
structure Ends where
  nx : St → Hp → Prop
  rt : VK
  bk : St → Hp → Prop := fun _ _ => False
  ct : St → Hp → Prop := fun _ _ => False
abbrev TS := Ends → St → Hp → Prop

def EP (X : Cx) (pins : List (Addr × Obj)) (σ : St) (Q : VK) (u : Value) (s' : Shared) : Prop := ∃ v H', Inv X pins σ H' s' ∧ RelV v u ∧ Q v H'
def TP (X : Cx) (pins : List (Addr × Obj)) (σ : St) (Q : Bool → Hp → Prop) (b : Bool) (s' : Shared) : Prop := ∃ H', Inv X pins σ H' s' ∧ Q b H'
def AP (X : Cx) (pins : List (Addr × Obj)) (σ : St) (Q : List V → Hp → Prop) (us : List Value) (s' : Shared) : Prop := ∃ vs H', Inv X pins σ H' s' ∧ Vals vs us ∧ Q vs H'
def SP (X : Cx) (pins : List (Addr × Obj)) (D : Ends) (f : Flow) (s' : Shared) : Prop :=
  match f with
  | .next => ∃ σ' H', Inv X pins σ' H' s' ∧ D.nx σ' H'
  | .brk => ∃ σ' H', Inv X pins σ' H' s' ∧ D.bk σ' H'
  | .cont => ∃ σ' H', Inv X pins σ' H' s' ∧ D.ct σ' H'
  | .ret u => ∃ v σ' H', Inv X pins σ' H' s' ∧ RelV v u ∧ D.rt v H'

def PE (X : Cx) (e : Expr) (t : TE) : Prop :=
  ∀ (pins : List (Addr × Obj)) (s : Shared) (σ : St) (H : Hp) (Q : VK), Inv X pins σ H s → t σ H Q → wpAny (model X.prog X.w) X.A (eval e X.env) (EP X pins σ Q) X.xe s
def PT (X : Cx) (e : Expr) (t : TT) : Prop :=
  ∀ (pins : List (Addr × Obj)) (s : Shared) (σ : St) (H : Hp) (Q : Bool → Hp → Prop), Inv X pins σ H s → t σ H Q → wpAny (model X.prog X.w) X.A (isTrue e X.env (eval e X.env)) (TP X pins σ Q) X.xe s
/-- a test whatever its 'whole' is (and, or) -/
def PW (X : Cx) (e : Expr) (t : TT) : Prop :=
  ∀ (whole : Sem Value) (pins : List (Addr × Obj)) (s : Shared) (σ : St) (H : Hp) (Q : Bool → Hp → Prop), Inv X pins σ H s → t σ H Q → wpAny (model X.prog X.w) X.A (isTrue e X.env whole) (TP X pins σ Q) X.xe s
theorem PW.pt {X : Cx} {e : Expr} {t : TT} (h : PW X e t) : PT X e t := h _
/-- an argument list (no star), from the left -/
def PA (X : Cx) (es : List Expr) (t : TA) : Prop :=
  ∀ (pos : Pos) (pins : List (Addr × Obj)) (s : Shared) (σ : St) (H : Hp) (Q : List V → Hp → Prop), Inv X pins σ H s → t σ H Q → wpAny (model X.prog X.w) X.A (spliced (backTo pos (starEach es X.env))) (AP X pins σ Q) X.xe s
def PS (X : Cx) (st : Stmt) (t : TS) : Prop :=
  ∀ (pins : List (Addr × Obj)) (s : Shared) (σ : St) (H : Hp) (D : Ends), Inv X pins σ H s → t D σ H → wpAny (model X.prog X.w) X.A (exec st X.env) (SP X pins D) X.xe s
def PSs (X : Cx) (st : List Stmt) (t : TS) : Prop :=
  ∀ (pins : List (Addr × Obj)) (s : Shared) (σ : St) (H : Hp) (D : Ends), Inv X pins σ H s → t D σ H → wpAny (model X.prog X.w) X.A (execs st X.env) (SP X pins D) X.xe s
/-- weaken the end -/
theorem thn {α : Type} {t : Sem α} {Q Q' : α → Shared → Prop} {M : Model} {A : Around} {E : Value → Shared → Prop} {s : Shared} (h : wpAny M A t Q E s) (hQ : ∀ a s, Q a s → Q' a s) : wpAny M A t Q' E s := wpAny_mono h hQ fun _ _ x => x
end L2

namespace L2
open PySem PySem.Spec PyProof.Rows
section
variable {X : Cx}


/-! ### names and constants -/
def tVar (i : Nat) : TE := fun σ H Q => ∃ v, σ[i]? = some (some v) ∧ Q v H
def tC (v : V) : TE := fun _ H Q => Q v H
theorem pe_var {i : Nat} {x : Str} {pos : Pos} (hN : X.N[i]? = some x) (hv : Vis X.env.scope x) (hd : (x == ("__debug__" : Str)) = false := by decide) (hcd : (x == ("__classdict__" : Str)) = false := by decide) : PE X (.Name x pos) (tVar i) := by
  intro pins s σ H Q I h
  obtain ⟨v, e, h⟩ := h
  obtain ⟨m, hn, hl⟩ := I.loc
  obtain ⟨u, r, l⟩ := hl i x v hN e hv
  have fin : EP X pins σ Q u s := ⟨v, H, I, r, h⟩
  rcases l with ⟨hk, hm⟩ | ⟨hk, c, hc, hcell⟩
  · exact wpAny_Name (wpAny_loadName_local I.ok.kind hk hn hm fin) hd
  · rcases hk with hk | hk
    · exact wpAny_Name (wpAny_loadName_cell I.ok.kind hk hc hcell fin) hd
    · exact wpAny_Name (wpAny_loadName_free I.ok.kind hk hc hcell fin hcd) hd
theorem pe_int {i j pos} : PE X (.Constant (.int i) j pos) (tC (.int i)) := fun _ _ _ H _ I h => wpAny_Constant_int ⟨.int i, H, I.tok _, ⟨_, rfl⟩, h⟩
theorem pe_bl {b j pos} : PE X (.Constant (.bool b) j pos) (tC (.bl b)) := fun _ _ _ H _ I h => Constant_bool ⟨.bl b, H, I, rfl, h⟩
theorem pe_non {j pos} : PE X (.Constant .none j pos) (tC .non) := fun _ _ _ H _ I h => Constant_none ⟨.non, H, I, rfl, h⟩
theorem pe_str {x j pos} : PE X (.Constant (.str x) j pos) (tC (.str x)) := fun _ _ _ H _ I h => Calls.Constant_str ⟨.str x, H, I.tok _, ⟨_, rfl⟩, h⟩

/-- a global name of the def -/
def Gl (X : Cx) (x : Str) : Prop := X.env.kindOf x = some .globalImplicit
theorem ld_glob {E : Value → Shared → Prop} {pins : List (Addr × Obj)} {s : Shared} {σ : St} {H : Hp} {x : Str} {u : Value} {pos : Pos} {Q : Value → Shared → Prop} (I : Inv X pins σ H s) (hg : Gl X x) (hm : X.mg x = some u) (h : Q u s)
    (hd : (x == ("__debug__" : Str)) = false := by decide) : wpAny (model X.prog X.w) X.A (eval (.Name x pos) X.env) Q E s :=
  Calls.Name_function_global I.ok.kind hg (Calls.loadGlobal_global (by rw [I.ok.glob]; exact I.mod.glob.keeps I.bk) hm h) hd
theorem ld_blt {E : Value → Shared → Prop} {pins : List (Addr × Obj)} {s : Shared} {σ : St} {H : Hp} {x : Str} {u : Value} {pos : Pos} {Q : Value → Shared → Prop} (I : Inv X pins σ H s) (hg : Gl X x) (hm : X.mg x = none) (hv : bootBuiltins x = some u) (h : Q u s)
    (hn : x ≠ "__name__" := by decide) (hd : (x == ("__debug__" : Str)) = false := by decide) : wpAny (model X.prog X.w) X.A (eval (.Name x pos) X.env) Q E s := by
  obtain ⟨mb, h1, h2⟩ := I.mod.blt
  exact Calls.Name_function_global I.ok.kind hg (Calls.loadGlobal_builtin (by rw [I.ok.glob]; exact I.mod.glob.keeps I.bk) hm (by rw [I.ok.blt]; exact h1.keeps I.bk) ((h2 x hn).trans hv) h) hd
theorem pe_bltn {x : Str} {v : V} {u : Value} {pos : Pos} (hg : Gl X x) (hm : X.mg x = none) (hv : bootBuiltins x = some u) (r : RelV v u) (hn : x ≠ "__name__" := by decide) (hd : (x == ("__debug__" : Str)) = false := by decide) : PE X (.Name x pos) (tC v) :=
  fun _ _ _ H _ I h => ld_blt I hg hm hv ⟨v, H, I, r, h⟩ hn hd

/-! ### arithmetic -/
variable {a b : Expr} {ta tb : TE} {pos : Pos}

/-! ### comparisons -/
/-- a comparison as a value, as a test -/
def tB (t : TE) : TT := fun σ H Q => t σ H fun x H1 => ∃ c, x = .bl c ∧ Q c H1
/-- an expression whose value is a bool, as a test -/
theorem pt_val {e : Expr} {t : TE} (h : PE X e t) (he : ∀ whole, isTrue e X.env whole = (do let v ← whole; standAt e.pos; holding [v] (truthy v)) := by intro _; rfl) : PT X e (tB t) := by
  intro pins s σ H Q I hw
  refine isTrue_plain (thn (h pins s σ H _ I hw) fun v s1 ⟨x, H1, I1, r1, q1⟩ => ?_) (he _)
  obtain ⟨d, rfl, q⟩ := q1
  cases r1
  exact wpAny_truthy_bool ⟨H1, I1, q⟩

/-! ### and, or, not -/
variable {tA tB' : TT} {rest : List Expr}
def tAnd (t u : TT) : TT := fun σ H Q => t σ H fun c H1 => if c = true then u σ H1 Q else Q false H1
def tOr (t u : TT) : TT := fun σ H Q => t σ H fun c H1 => if c = true then Q true H1 else u σ H1 Q
def tNot (t : TT) : TT := fun σ H Q => t σ H fun c H1 => Q (!c) H1
theorem pw_and1 (ha : PT X a tA) : PW X (.BoolOp .And [a] pos) tA := by
  intro wh pins s σ H Q I h
  refine isTrue_and (thn (ha pins s σ H Q I h) fun c s1 e => ?_)
  cases c with
  | true => exact isTrue_and_nil e
  | false => exact e
theorem pw_or1 (ha : PT X a tA) : PW X (.BoolOp .Or [a] pos) tA := by
  intro wh pins s σ H Q I h
  refine isTrue_or (thn (ha pins s σ H Q I h) fun c s1 e => ?_)
  cases c with
  | false => exact isTrue_or_nil e
  | true => exact e
theorem pw_and (ha : PT X a tA) (hb : PW X (.BoolOp .And (b :: rest) pos) tB') : PW X (.BoolOp .And (a :: b :: rest) pos) (tAnd tA tB') := by
  intro wh pins s σ H Q I h
  refine isTrue_and (thn (ha pins s σ H _ I h) fun c s1 ⟨H1, I1, q1⟩ => ?_)
  cases c with
  | true => exact hb wh pins s1 σ H1 Q I1 q1
  | false => exact ⟨H1, I1, q1⟩
theorem pw_or (ha : PT X a tA) (hb : PW X (.BoolOp .Or (b :: rest) pos) tB') : PW X (.BoolOp .Or (a :: b :: rest) pos) (tOr tA tB') := by
  intro wh pins s σ H Q I h
  refine isTrue_or (thn (ha pins s σ H _ I h) fun c s1 ⟨H1, I1, q1⟩ => ?_)
  cases c with
  | true => exact ⟨H1, I1, q1⟩
  | false => exact hb wh pins s1 σ H1 Q I1 q1
theorem pt_not (ha : PT X a tA) : PT X (.UnaryOp .Not a pos) (tNot tA) := by
  intro pins s σ H Q I h
  exact isTrue_not (ha pins s σ H (fun c H1 => Q (!c) H1) I h)
/-- .. as values (bools) -/
def tAndV (ta tb : TE) : TE := fun σ H Q => ta σ H fun x H1 => ∃ c, x = .bl c ∧ if c = true then tb σ H1 Q else Q (.bl false) H1
def tNotV (ta : TE) : TE := fun σ H Q => ta σ H fun x H1 => ∃ c, x = .bl c ∧ Q (.bl (!c)) H1
theorem pe_one {op} {t : TE} (h : PE X a t) : PE X (.BoolOp op [a] pos) t := fun pins s σ H Q I hw => BoolOp_one (h pins s σ H Q I hw)
theorem pe_and (ha : PE X a ta) (hb : PE X (.BoolOp .And (b :: rest) pos) tb) : PE X (.BoolOp .And (a :: b :: rest) pos) (tAndV ta tb) := by
  intro pins s σ H Q I h
  refine BoolOp_and (thn (ha pins s σ H _ I h) fun v s1 ⟨x, H1, I1, r1, q1⟩ => ?_)
  obtain ⟨c, rfl, q1⟩ := q1
  cases r1
  refine wpAny_truthy_bool ?_
  cases c with
  | true => exact hb pins s1 σ H1 Q I1 q1
  | false => exact ⟨.bl false, H1, I1, rfl, q1⟩
theorem pe_not (ha : PE X a ta) : PE X (.UnaryOp .Not a pos) (tNotV ta) := by
  intro pins s σ H Q I h
  refine UnaryOp_ (thn (ha pins s σ H _ I h) fun v s1 ⟨x, H1, I1, r1, q1⟩ => ?_)
  obtain ⟨c, rfl, q1⟩ := q1
  cases r1
  exact not_of (wpAny_truthy_bool ⟨.bl (!c), H1, I1, rfl, q1⟩)
/-- a if t else b -/
def tIf (t : TT) (ta tb : TE) : TE := fun σ H Q => t σ H fun c H1 => if c = true then ta σ H1 Q else tb σ H1 Q
theorem pe_ifExp {c : Expr} (hc : PT X c tA) (ha : PE X a ta) (hb : PE X b tb) : PE X (.IfExp c a b pos) (tIf tA ta tb) := by
  intro pins s σ H Q I h
  refine wpAny_IfExp (thn (hc pins s σ H _ I h) fun d s1 ⟨H1, I1, q1⟩ => ?_)
  cases d with
  | true => exact ha pins s1 σ H1 Q I1 q1
  | false => exact hb pins s1 σ H1 Q I1 q1
end
end L2

namespace L2
open PySem PySem.Spec PyProof.Rows

/-! ### a list, a tuple that is read: tracked, frozen, or an object of the module -/
def SqL (K : PySem.W.Frag) (H : Hp) (a : Addr) (xs : List V) : Prop :=
  Rd H a (.lst xs) ∨
    ∃ (o : Obj) (its : Array Value) (n : Nat), K.lookup a = some o ∧ o.cls = .type "list" ∧ o.dict = none ∧ o.data = .seq its n ∧ its.size ≤ sizeLine ∧ Vals xs its.toList
def SqT (K : PySem.W.Frag) (H : Hp) (a : Addr) (xs : List V) : Prop :=
  Rd H a (.tup xs) ∨
    ∃ (o : Obj) (its : Array Value) (n : Nat), K.lookup a = some o ∧ o.cls = .type "tuple" ∧ o.data = .seq its n ∧ its.size ≤ sizeLine ∧ Vals xs its.toList
def absV : Value → Option V
  | .none => some .non
  | .bool b => some (.bl b)
  | .int i _ => some (.int i)
  | .str x _ => some (.str x)
  | .bytes b _ => some (.byt b)
  | .float b _ => some (.flt b)
  | .ref a => some (.ref a)
  | .type n => some (.ty n)
  | _ => none
theorem RelV.abs {x : V} {u : Value} (r : RelV x u) : absV u = some x := by
  cases x with
  | non => cases r; rfl
  | bl _ => cases r; rfl
  | int _ => obtain ⟨t, rfl⟩ := r; rfl
  | str _ => obtain ⟨t, rfl⟩ := r; rfl
  | byt _ => obtain ⟨t, rfl⟩ := r; rfl
  | flt _ => obtain ⟨t, rfl⟩ := r; rfl
  | ref _ => cases r; rfl
  | ty _ => cases r; rfl
theorem RelV.inj {x y : V} {u : Value} (r : RelV x u) (q : RelV y u) : x = y := Option.some.inj (r.abs.symm.trans q.abs)
theorem Vals.inj : ∀ {xs ys : List V} {us : List Value}, Vals xs us → Vals ys us → xs = ys
  | _, _, _, .nil, .nil => rfl
  | _, _, _, .cons r t, .cons r' t' => by rw [r.inj r', Vals.inj t t']
section
variable {X : Cx} {pins : List (Addr × Obj)} {σ : St} {H : Hp} {s : Shared} {a : Addr} {xs ys : List V}
theorem SqL.of {K : PySem.W.Frag} (h : H a = some (.lst xs)) : SqL K H a xs := .inl (.inl h)
theorem SqT.of {K : PySem.W.Frag} (h : H a = some (.tup xs)) : SqT K H a xs := .inl (.inl h)
theorem Inv.list (I : Inv X pins σ H s) (h : SqL X.K H a xs) : ∃ its : List Value, Vals xs its ∧ PlainL s.heap a its.toArray ∧ xs.length ≤ sizeLine := by
  rcases h with h | ⟨o, its, n, hk, hc, hd, hs, hz, r⟩
  · obtain ⟨z, its, n, r, e⟩ := h.ok I.hok
    exact ⟨its, r, ⟨_, n, e, rfl, rfl, rfl⟩, z⟩
  · refine ⟨its.toList, r, ⟨o, n, I.kIn a o hk, hc, hd, by simpa using hs⟩, ?_⟩
    have e := r.length
    simp only [Array.length_toList] at e
    omega
theorem Inv.tuple (I : Inv X pins σ H s) (h : SqT X.K H a xs) : ∃ its : List Value, Vals xs its ∧ IsTup s.heap a its.toArray ∧ xs.length ≤ sizeLine := by
  rcases h with h | ⟨o, its, n, hk, hc, hs, hz, r⟩
  · obtain ⟨z, its, r, p⟩ := h.ok I.hok
    exact ⟨its, r, p, z⟩
  · refine ⟨its.toList, r, ⟨o, I.kIn a o hk, hc, n, by simpa using hs⟩, ?_⟩
    have e := r.length
    simp only [Array.length_toList] at e
    omega
theorem Inv.list_inj (I : Inv X pins σ H s) (h : SqL X.K H a xs) (h' : SqL X.K H a ys) : xs = ys := by
  obtain ⟨its, r, ⟨o, n, e, _, _, d⟩, _⟩ := I.list h
  obtain ⟨its', r', ⟨o', n', e', _, _, d'⟩, _⟩ := I.list h'
  rw [e] at e'; cases e'
  rw [d] at d'
  injection d' with d1 _
  have : its = its' := by simpa using congrArg Array.toList d1
  subst this
  exact r.inj r'
theorem Inv.tuple_inj (I : Inv X pins σ H s) (h : SqT X.K H a xs) (h' : SqT X.K H a ys) : xs = ys := by
  obtain ⟨its, r, ⟨o, e, _, n, d⟩, _⟩ := I.tuple h
  obtain ⟨its', r', ⟨o', e', _, n', d'⟩, _⟩ := I.tuple h'
  rw [e] at e'; cases e'
  rw [d] at d'
  injection d' with d1 _
  have : its = its' := by simpa using congrArg Array.toList d1
  subst this
  exact r.inj r'
end

/-! ### another wish about exceptions -/
abbrev Cx.wish (X : Cx) (E : Value → Shared → Prop) : Cx := { X with xe := E }
/-- no exception leaves -/
abbrev Cx.nox (X : Cx) : Cx := X.wish fun _ _ => False
theorem Cx.Ok.wish {X : Cx} (ok : X.Ok) (E : Value → Shared → Prop) : (X.wish E).Ok :=
  ⟨ok.mod, ok.kind, ok.glob, ok.blt, ok.above, ok.inj, ok.has, ok.cab, ok.hd, ok.frames, ok.stk, ok.exf, ok.bs, ok.bsz, ok.noex, ok.exfs, ok.funs, ok.frf⟩
theorem Cx.Ok.unwish {X : Cx} {E : Value → Shared → Prop} (ok : (X.wish E).Ok) : X.Ok :=
  ⟨ok.mod, ok.kind, ok.glob, ok.blt, ok.above, ok.inj, ok.has, ok.cab, ok.hd, ok.frames, ok.stk, ok.exf, ok.bs, ok.bsz, ok.noex, ok.exfs, ok.funs, ok.frf⟩
section
variable {X : Cx} {pins : List (Addr × Obj)} {σ : St} {H : Hp} {s : Shared} {E : Value → Shared → Prop}
theorem Inv.wish (I : Inv X pins σ H s) (E : Value → Shared → Prop) : Inv (X.wish E) pins σ H s := ⟨I.ok.wish E, I.os, I.bare, I.base, I.loc, I.cell, I.free, I.freeC, I.pin, I.hok, I.len⟩
theorem Inv.unwish (I : Inv (X.wish E) pins σ H s) : Inv X pins σ H s := ⟨I.ok.unwish, I.os, I.bare, I.base, I.loc, I.cell, I.free, I.freeC, I.pin, I.hok, I.len⟩
theorem SP.unwish {D : Ends} {f : Flow} {s' : Shared} (h : SP (X.wish E) pins D f s') : SP X pins D f s' := by
  cases f with
  | next => obtain ⟨σ', H', I, q⟩ := h; exact ⟨σ', H', I.unwish, q⟩
  | brk => obtain ⟨σ', H', I, q⟩ := h; exact ⟨σ', H', I.unwish, q⟩
  | cont => obtain ⟨σ', H', I, q⟩ := h; exact ⟨σ', H', I.unwish, q⟩
  | ret u => obtain ⟨v, σ', H', I, r, q⟩ := h; exact ⟨v, σ', H', I.unwish, r, q⟩
theorem PSs.nox {st : List Stmt} {t : TS} (h : PSs X.nox st t) : PSs X st t := fun pins s σ H D I hw =>
  wpAny_mono (h pins s σ H D (I.wish _) hw) (fun _ _ q => q.unwish) fun _ _ z => False.elim z
end

/-! ### blocks and small statements -/
section
variable {X : Cx} {st : Stmt} {rest : List Stmt} {t u : TS} {e : Expr} {te : TE} {pos : Pos}
def tNext : TS := fun D σ H => D.nx σ H
def tSeq (t u : TS) : TS := fun D σ H => t { D with nx := u D } σ H
theorem pss_nil : PSs X [] tNext := fun _ _ σ H _ I h => wpAny_execs_nil ⟨σ, H, I, h⟩
theorem pss_cons (h1 : PS X st t) (h2 : PSs X rest u) : PSs X (st :: rest) (tSeq t u) := by
  intro pins s σ H D I h
  refine wpAny_execs_cons (thn (h1 pins s σ H { D with nx := u D } I h) fun f s1 q => ?_)
  cases f with
  | next =>
    obtain ⟨σ', H', I', q⟩ := q
    exact h2 pins s1 σ' H' D I' q
  | ret v => exact q
  | brk => exact q
  | cont => exact q
theorem pss_one (h1 : PS X st t) : PSs X [st] t := by
  intro pins s σ H D I h
  refine wpAny_execs_cons (thn (h1 pins s σ H D I h) fun f s1 q => ?_)
  cases f with
  | next => exact wpAny_execs_nil q
  | ret v => exact q
  | brk => exact q
  | cont => exact q
/-- in a def's body nothing is shown -/
theorem Inv.quiet {pins : List (Addr × Obj)} {σ : St} {H : Hp} {s : Shared} (I : Inv X pins σ H s) : interactive X.env = false := by simp [interactive, I.ok.kind]
/-- an expression whose value is dropped -/
def tDrop (te : TE) : TS := fun D σ H => te σ H fun _ H1 => D.nx σ H1
theorem ps_expr (he : PE X e te) (hs : swapsWith e none pos.line X.env = pure false := by rfl) : PS X (.Expr e pos) (tDrop te) := by
  intro pins s σ H D I h
  exact wpAny_Expr_any (thn (he pins s σ H _ I h) fun v s1 ⟨x, H1, I1, r1, q1⟩ => ⟨σ, H1, I1, q1⟩) I.quiet hs
def tRet (te : TE) : TS := fun D σ H => te σ H D.rt
theorem ps_ret (he : PE X e te) : PS X (.Return (some e) pos) (tRet te) := by
  intro pins s σ H D I h
  exact wpAny_Return_some (thn (he pins s σ H _ I h) fun v s1 ⟨x, H1, I1, r1, q1⟩ => ⟨x, σ, H1, I1, r1, q1⟩)
def tIfS (c : TT) (t u : TS) : TS := fun D σ H => c σ H fun b H1 => if b = true then t D σ H1 else u D σ H1
theorem ps_if {c : Expr} {a b : List Stmt} {tc : TT} (hc : PT X c tc) (ha : PSs X a t) (hb : PSs X b u) : PS X (.If c a b pos) (tIfS tc t u) := by
  intro pins s σ H D I h
  refine wpAny_If (thn (hc pins s σ H _ I h) fun d s1 ⟨H1, I1, q1⟩ => ?_)
  cases d with
  | true => exact ha pins s1 σ H1 D I1 q1
  | false => exact hb pins s1 σ H1 D I1 q1
end

/-! ### targets -/
abbrev TG := V → St → Hp → (St → Hp → Prop) → Prop
abbrev TGs := List V → St → Hp → (St → Hp → Prop) → Prop
def PG (X : Cx) (target : Expr) (t : TG) : Prop :=
  ∀ (pins : List (Addr × Obj)) (s : Shared) (σ : St) (H : Hp) (v : V) (u : Value) (Q : St → Hp → Prop), Inv X pins σ H s → RelV v u → t v σ H Q →
    wpAny (model X.prog X.w) X.A (assign target X.env u) (fun _ s' => ∃ σ' H', Inv X pins σ' H' s' ∧ Q σ' H') X.xe s
/-- several targets, one after another -/
def PGs (X : Cx) (ts : List Expr) (t : TGs) : Prop :=
  ∀ (pins : List (Addr × Obj)) (s : Shared) (σ : St) (H : Hp) (vs : List V) (us : List Value) (Q : St → Hp → Prop), Inv X pins σ H s → Vals vs us → t vs σ H Q →
    wpAny (model X.prog X.w) X.A (assignInOrder ((assignEach ts X.env).map (·.2)) us) (fun _ s' => ∃ σ' H', Inv X pins σ' H' s' ∧ Q σ' H') X.xe s
/-- o[i] = v, by values -/
abbrev TSet := V → V → V → Hp → (Hp → Prop) → Prop
def PSet (X : Cx) (t : TSet) : Prop :=
  ∀ (pins : List (Addr × Obj)) (s : Shared) (σ : St) (H : Hp) (o i v : V) (ov iv u : Value) (Q : Hp → Prop), Inv X pins σ H s → RelV o ov → RelV i iv → RelV v u → t o i v H Q →
    wpAny (model X.prog X.w) X.A (setItem ov iv u) (fun _ s' => ∃ H', Inv X pins σ H' s' ∧ Q H') X.xe s
/-- a op= b, by values -/
abbrev TIp := V → V → Hp → VK → Prop
def PIp (X : Cx) (op : Operator) (t : TIp) : Prop :=
  ∀ (pins : List (Addr × Obj)) (s : Shared) (σ : St) (H : Hp) (x y : V) (v u : Value) (Q : VK), Inv X pins σ H s → RelV x v → RelV y u → t x y H Q →
    wpAny (model X.prog X.w) X.A (inplaceOp op v u) (EP X pins σ Q) X.xe s
section
variable {X : Cx} {pos : Pos}
def gName (i : Nat) : TG := fun v σ H Q => Q (σ.set i (some v)) H
theorem pg_name {i : Nat} {x : Str} (hN : X.N.Nodup) (hi : X.N[i]? = some x) (hx : Loc X.env.scope x) (hf : X.fn x = true ∨ X.env.scope.names.lookup x = some .local := by first | exact .inl rfl | exact .inr rfl | assumption) : PG X (.Name x pos) (gName i) := by
  intro pins s σ H v u Q I r h
  exact wpAny_assign_Name (store_ok I hN hi hx r (fun s' I' => ⟨_, H, I', h⟩) hf)
def gNil : TGs := fun vs σ H Q => vs = [] ∧ Q σ H
def gCons (t : TG) (u : TGs) : TGs := fun vs σ H Q => ∃ v r, vs = v :: r ∧ t v σ H fun σ' H' => u r σ' H' Q
theorem pgs_nil : PGs X [] gNil := by
  intro pins s σ H vs us Q I r h
  obtain ⟨e, h⟩ := h
  subst e
  cases r
  exact assignInOrder_nil ⟨σ, H, I, h⟩
theorem pgs_cons {e : Expr} {es : List Expr} {t : TG} {u : TGs} (h1 : PG X e t) (h2 : PGs X es u)
    (hs : (assignEach (e :: es) X.env).map (·.2) = assign e X.env :: (assignEach es X.env).map (·.2) := by rfl) : PGs X (e :: es) (gCons t u) := by
  intro pins s σ H vs us Q I r h
  obtain ⟨v, vr, e1, h⟩ := h
  subst e1
  cases r with
  | cons r rr =>
    rw [hs]
    refine assignInOrder_cons (thn (h1 pins s σ H _ _ _ I r h) fun _ s1 ⟨σ1, H1, I1, q1⟩ => ?_)
    exact h2 pins s1 σ1 H1 _ _ Q I1 rr q1
/-- (a, b, ..) = a tuple of that length -/
def gTup (K : PySem.W.Frag) (n : Nat) (t : TGs) : TG := fun v σ H Q => ∃ a xs, v = .ref a ∧ SqT K H a xs ∧ xs.length = n ∧ t xs σ H Q
theorem pg_tup {es : List Expr} {k : Nat} {t : TGs} {n : Nat} (hc : X.calm = true) (h : PGs X es t)
    (hn : (assignEach es X.env).length = n := by rfl) (hst : (assignEach es X.env).findIdx? (·.1) = none := by rfl) : PG X (.Tuple es k pos) (gTup X.K n t) := by
  intro pins s σ H v u Q I r hw
  obtain ⟨a, xs, e1, hq, hl, hw⟩ := hw
  subst e1
  cases r
  obtain ⟨its, rv, ht, hz⟩ := I.tuple hq
  refine assign_Tuple_tuple (I.ok.hd hc) ht (by simp [hn, ← hl, rv.length]) hst fun h' hx => ?_
  have I1 : Inv X pins σ H { s with heap := h' } := I.kept (t' := s.toks) fun b o e => hx b o (Nat.ne_of_lt (Heap.lt_size e)) e
  exact h pins _ σ H xs _ Q I1 (by simpa using rv) hw
/-- o[i] = .. -/
def gSub (to ti : TE) (t : TSet) : TG := fun v σ H Q => to σ H fun o H1 => ti σ H1 fun i H2 => t o i v H2 fun H3 => Q σ H3
theorem pg_sub {o i : Expr} {to ti : TE} {t : TSet} (ho : PE X o to) (hi : PE X i ti) (hs : PSet X t)
    (ha : ∀ v, assign (.Subscript o i pos) X.env v = (do
      let ov ← holding [v] (eval o X.env)
      let iv ← holding [v, ov] (eval i X.env)
      standAt pos
      holding [v, ov, iv] (setItem ov iv v)
      release [v, ov, iv] []) := by intro _; rfl) : PG X (.Subscript o i pos) (gSub to ti t) := by
  intro pins s σ H v u Q I r h
  rw [ha]
  refine wpAny_bind (wpAny_holding (thn (ho pins s σ H _ I h) fun ov s1 ⟨x, H1, I1, r1, q1⟩ => ?_))
  refine wpAny_bind (wpAny_holding (thn (hi pins s1 σ H1 _ I1 q1) fun iv s2 ⟨y, H2, I2, r2, q2⟩ => ?_))
  refine wpAny_bind (wpAny_standAt (wpAny_bind (wpAny_holding (thn (hs pins s2 σ H2 x y v ov iv u _ I2 r1 r2 r q2) fun _ s3 ⟨H3, I3, q3⟩ => ?_))))
  exact wpAny_release ⟨σ, H3, I3, q3⟩
/-- target = value -/
def tAsg (te : TE) (g : TG) : TS := fun D σ H => te σ H fun x H1 => g x σ H1 D.nx
theorem ps_asg {tg e : Expr} {te : TE} {g : TG} (he : PE X e te) (hg : PG X tg g) (hs : swapsWithSole [tg] e pos.line X.env = pure false := by rfl) (hw : swappedStores [tg] e X.env = pure none := by rfl)
    (h1 : (assignEach [tg] X.env).map (·.2) = [assign tg X.env] := by rfl) : PS X (.Assign [tg] e pos) (tAsg te g) := by
  intro pins s σ H D I h
  refine wpAny_Assign_stores (thn (he pins s σ H _ I h) fun v s1 ⟨x, H1, I1, r1, q1⟩ => ?_) hs hw
  rw [h1]
  exact thn (hg pins s1 σ H1 x v _ I1 r1 q1) fun _ s2 q => q
/-- name = value -/
theorem ps_set {i : Nat} {x : Str} {e : Expr} {te : TE} {pos' : Pos} (hN : X.N.Nodup) (hi : X.N[i]? = some x) (hx : Loc X.env.scope x) (he : PE X e te) (hs : swapsWith e (some (.Name x pos')) pos.line X.env = pure false := by rfl) (hf : X.fn x = true ∨ X.env.scope.names.lookup x = some .local := by first | exact .inl rfl | exact .inr rfl | assumption) :
    PS X (.Assign [.Name x pos'] e pos) (tAsg te (gName i)) := by
  intro pins s σ H D I h
  refine wpAny_Assign_Name (thn (he pins s σ H _ I h) fun v s1 ⟨y, H1, I1, r1, q1⟩ => ?_) hs
  exact store_ok I1 hN hi hx r1 (fun s2 I2 => ⟨_, H1, I2, q1⟩) hf
/-- name op= e -/
def tAug (i : Nat) (te : TE) (ti : TIp) : TS := fun D σ H => ∃ x, σ[i]? = some (some x) ∧ te σ H fun y H1 => ti x y H1 fun z H2 => D.nx (σ.set i (some z)) H2
theorem ps_aug {i : Nat} {x : Str} {e : Expr} {te : TE} {op : Operator} {ti : TIp} {pos' : Pos} (hN : X.N.Nodup) (hi : X.N[i]? = some x) (hx : Loc X.env.scope x) (he : PE X e te) (ho : PIp X op ti) (hf : X.fn x = true ∨ X.env.scope.names.lookup x = some .local := by first | exact .inl rfl | exact .inr rfl | assumption) :
    PS X (.AugAssign (.Name x pos') op e pos) (tAug i te ti) := by
  intro pins s σ H D I h
  obtain ⟨v, e1, h⟩ := h
  obtain ⟨m, hn, hl⟩ := I.loc
  have vis : Vis X.env.scope x := by rcases hx with k | k; exact .inl k; exact .inr (.inl k)
  obtain ⟨u, r, l⟩ := hl i x v hi e1 vis
  refine wpAny_AugAssign_Name ?_
  have go : wpAny (model X.prog X.w) X.A (eval e X.env) (fun w s₂ => wpAny (model X.prog X.w) X.A (inplaceOp op u w) (fun r s₃ => wpAny (model X.prog X.w) X.A (storeName X.env x r) (fun _ => SP X pins D .next) X.xe s₃) X.xe s₂) X.xe s := by
    refine thn (he pins s σ H _ I h) fun w s1 ⟨y, H1, I1, r1, q1⟩ => ?_
    refine thn (ho pins s1 σ H1 v y u w _ I1 r r1 q1) fun z s2 ⟨zv, H2, I2, r2, q2⟩ => ?_
    exact store_ok I2 hN hi hx r2 (fun s3 I3 => ⟨_, H2, I3, q2⟩) hf
  rcases l with ⟨hk, hm⟩ | ⟨hk, c, hc, hcell⟩
  · exact wpAny_loadName_local I.ok.kind hk hn hm go
  · rcases hk with hk | hk
    · exact wpAny_loadName_cell I.ok.kind hk hc hcell go
    · rcases hx with k | k
      · have : X.env.scope.names.lookup x = some .free := hk
        rw [k] at this; cases this
      · have : X.env.scope.names.lookup x = some .free := hk
        rw [k] at this; cases this
/-- ints -/
def ipI (f : Int → Int → Int) : TIp := fun x y H Q => ∃ i j, x = .int i ∧ y = .int j ∧ Q (.int (f i j)) H
theorem ip_sub : PIp X .Sub (ipI fun i j => i - j) := by
  intro pins s σ H x y v u Q I r1 r2 h
  obtain ⟨i, j, e1, e2, q⟩ := h
  subst e1; subst e2
  obtain ⟨t, rfl⟩ := r1
  obtain ⟨t', rfl⟩ := r2
  exact isub_int ⟨.int _, H, I.tok _, ⟨_, rfl⟩, q⟩
end

/-! ### while -/
section
variable {X : Cx} {pos : Pos}
end

/-! ### what a loop or a comprehension walks -/
/-- at turn i: it yields x (the heap may grow), or it stops -/
structure It where
  go : Nat → Hp → Prop
  yld : Nat → Hp → V → Hp → Prop
  stop : Nat → Hp → Prop
/-- the iterator's own objects may turn: they are not the frame's, not pinned, younger than the entry (or a comprehension's own) -/
def FpOk (X : Cx) (pins : List (Addr × Obj)) (H : Hp) (b : Addr) : Prop :=
  H b = none ∧ b ≠ X.env.locals ∧ b ∉ X.fs ∧ (b ∈ X.ex ∨ X.s₀.heap.objs.size ≤ b) ∧ (∀ x c, X.env.cells.lookup x = some c → c ≠ b) ∧ ∀ p ∈ X.pn ++ pins, p.1 ≠ b
theorem Inv.fpOk {X : Cx} {pins : List (Addr × Obj)} {σ : St} {H H' : Hp} {s : Shared} {b : Addr} (I : Inv X pins σ H s) (hb : s.heap.objs.size ≤ b) (hn : H' b = none) : FpOk X pins H' b := by
  refine ⟨hn, Nat.ne_of_gt (Nat.lt_of_lt_of_le I.lt hb), I.nofs hb, .inr (Nat.le_trans I.sz hb), fun x c e z => ?_, fun p hp z => ?_⟩
  · obtain ⟨v, q⟩ := I.cell x c e
    exact absurd (Nat.lt_of_lt_of_le q.lt (by rw [z]; exact hb)) (Nat.lt_irrefl _)
  · exact absurd (Nat.lt_of_lt_of_le (Heap.lt_size (I.pin p hp).1) (by rw [z]; exact hb)) (Nat.lt_irrefl _)
structure Turn (P : Program) (w : World) (K : PySem.W.Frag) (tg : Expr) (J : It) (fp : List Addr) (it : Addr) (tn : Nat → Heap → Prop) : Prop where
  mem : it ∈ fp
  obj : ∀ i h, tn i h → ∀ b ∈ fp, ∃ o, h.get? b = some o ∧ ∀ v, o.data ≠ .cell v
  keep : ∀ i h h', tn i h → (∀ b ∈ fp, ∀ o, h.get? b = some o → h'.get? b = some o) → tn i h'
  item : ∀ (X : Cx), X.prog = P → X.w = w → X.K = K → X.calm = true → ∀ (i : Nat) (pins : List (Addr × Obj)) (s : Shared) (σ : St) (H : Hp) (E : Value → Shared → Prop), Inv X pins σ H s → (∀ b ∈ fp, FpOk X pins H b) → tn i s.heap → J.go i H →
    wpAny (model P w) X.A (pyNext (.ref it)) (fun r s1 => ∃ u, r = some u ∧
      wpAny (model P w) X.A (letOwnedTupleGo tg (.ref it) u) (fun _ s2 => ∃ x H', Inv X pins σ H' s2 ∧ RelV x u ∧ J.yld i H x H' ∧ tn (i + 1) s2.heap ∧ ∀ b ∈ fp, H' b = none) E s1) E s
  done : ∀ (X : Cx), X.prog = P → X.w = w → X.K = K → X.calm = true → ∀ (i : Nat) (pins : List (Addr × Obj)) (s : Shared) (σ : St) (H : Hp) (E : Value → Shared → Prop), Inv X pins σ H s → (∀ b ∈ fp, FpOk X pins H b) → tn i s.heap → J.stop i H →
    wpAny (model P w) X.A (pyNext (.ref it)) (fun r s1 => r = none ∧ Inv X pins σ H s1) E s
  self : ∀ (A : Around) (i : Nat) (s : Shared) (Q : Value → Shared → Prop) (E : Value → Shared → Prop), tn i s.heap → Q (.ref it) s → wpAny (model P w) A (pyIter (.ref it)) Q E s
abbrev TI := St → Hp → (It → Hp → Prop) → Prop
/-- an iterator has come -/
def PIE (X : Cx) (pins : List (Addr × Obj)) (σ : St) (tg : Expr) (R : It → Hp → Prop) (itv : Value) (s2 : Shared) : Prop :=
  ∃ (it : Addr) (fp : List Addr) (tn : Nat → Heap → Prop) (J : It) (H' : Hp), itv = .ref it ∧ Inv X pins σ H' s2 ∧ Turn X.prog X.w X.K tg J fp it tn ∧ tn 0 s2.heap ∧ (∀ b ∈ fp, FpOk X pins H' b) ∧ R J H'
def PI (X : Cx) (tg iter : Expr) (wi : TI) : Prop :=
  ∀ (pins : List (Addr × Obj)) (s : Shared) (σ : St) (H : Hp) (R : It → Hp → Prop), Inv X pins σ H s → wi σ H R →
    wpAny (model X.prog X.w) X.A (eval iter X.env) (fun v s1 => wpAny (model X.prog X.w) X.A (pyIter v) (PIE X pins σ tg R) X.xe s1) X.xe s

/-- the step ahead of the store is nothing for an iterator that keeps no tuple -/
theorem go_of {M : Model} {A : Around} {E : Value → Shared → Prop} {s : Shared} {tg : Expr} {it : Addr} {u : Value} {o : Obj} {n : String} {vs : Array Value} {Q : Unit → Shared → Prop} (ho : s.heap.get? it = some o) (hc : o.cls = .type n) (hd : o.data = .fields vs)
    (hn : ["enumerate", "zip", "dict_itemiterator", "dict_reverseitemiterator", "odict_iterator", "itertools.zip_longest", "itertools.pairwise"].contains n = false) (hQ : Q () s) : wpAny M A (letOwnedTupleGo tg (.ref it) u) Q E s := by
  unfold letOwnedTupleGo
  cases tg <;> first
    | exact wpAny_pure hQ
    | (cases u <;> first
        | exact wpAny_pure hQ
        | (refine wpAny_bind (wpAny_load ho ?_)
           rw [hc, hd]
           show wpAny M A (if (["enumerate", "zip", "dict_itemiterator", "dict_reverseitemiterator", "odict_iterator", "itertools.zip_longest", "itertools.pairwise"].contains n && vs[0]? == some (rawInt _)) = true then _ else _) Q E s
           rw [if_neg (by intro h; rw [hn, Bool.false_and] at h; cases h)]
           exact wpAny_pure hQ))

/-- the list at a, as it stands at each turn (a loop may append to it) -/
def Itl (K : PySem.W.Frag) (a : Addr) : It :=
  ⟨fun i H => ∃ xs x, SqL K H a xs ∧ xs[i]? = some x, fun i H x H' => H' = H ∧ ∀ xs, SqL K H a xs → xs[i]? = some x, fun i H => ∃ xs, SqL K H a xs ∧ xs.length ≤ i⟩
/-- lo, lo + 1, .. (n of them) -/
def Itr (lo : Int) (n : Nat) : It := ⟨fun i _ => i < n, fun i H x H' => H' = H ∧ x = .int (lo + i), fun i _ => n ≤ i⟩
theorem turn_list {P : Program} {w : World} {K : PySem.W.Frag} {tg : Expr} (a it : Addr) : Turn P w K tg (Itl K a) [it] it (fun i h => h.IsListIter it a i) where
  mem := by simp
  obj := fun i h st b hb => by
    have e : b = it := by simpa using hb
    subst e
    obtain ⟨o, e, c, d⟩ := st
    exact ⟨o, e, fun v z => by rw [d] at z; cases z⟩
  keep := fun i h h' st k => st.at fun o e => k it (by simp) o e
  item := by
    intro X hP hw hK hc i pins s σ H E I hf st hg
    subst hP hw hK
    obtain ⟨xs, x, hq, hx⟩ := hg
    obtain ⟨its, rv, p, hz⟩ := I.list hq
    obtain ⟨u, hu, ru⟩ := rv.get hx
    obtain ⟨f0, f1, f2, f3, f4, f5⟩ := hf it (by simp)
    refine wpAny_pyNext_list_item st p.isList (x := u) (by simpa using hu) fun h' st' sb => ?_
    have I1 : Inv X pins σ H { s with heap := h' } := I.turned (t' := s.toks) (fun b o hb e => (sb.2 b hb).trans e) f0 f1 f3 f4 f5
    obtain ⟨o, e, c, d⟩ := id st'
    exact ⟨u, rfl, go_of (s := { s with heap := h' }) e c d (by decide) ⟨x, H, I1, ru, ⟨rfl, fun ys hy => by rw [I.list_inj hy hq]; exact hx⟩, st', fun b hb => (hf b hb).1⟩⟩
  done := by
    intro X hP hw hK hc i pins s σ H E I hf st hg
    subst hP hw hK
    obtain ⟨xs, hq, hx⟩ := hg
    obtain ⟨its, rv, p, hz⟩ := I.list hq
    obtain ⟨f0, f1, f2, f3, f4, f5⟩ := hf it (by simp)
    have hl := rv.length
    exact wpAny_pyNext_list_end (I.ok.hd hc) st p.isList (by simp; omega) fun h' eb => ⟨rfl, I.turned (t' := s.toks) (fun b o hb e => eb b o hb e) f0 f1 f3 f4 f5⟩
  self := fun _ _ _ _ _ st h => wpAny_pyIter_listiter st h
theorem turn_range {P : Program} {w : World} {K : PySem.W.Frag} {tg : Expr} (it : Addr) (lo : Int) (n : Nat) : Turn P w K tg (Itr lo n) [it] it (fun i h => IsRangeIter h it (lo + (i : Nat) * 1) ((n : Int) - (i : Nat)) 1) where
  mem := by simp
  obj := fun i h st b hb => by
    have e : b = it := by simpa using hb
    subst e
    exact ⟨_, st, fun v z => by
      have z' : Data.fields _ = Data.cell v := z
      cases z'⟩
  keep := fun i h h' st k => k it (by simp) _ st
  item := by
    intro X hP hw hK hc i pins s σ H E I hf st hg
    subst hP hw hK
    obtain ⟨f0, f1, f2, f3, f4, f5⟩ := hf it (by simp)
    have W := Walks.range (prog := X.prog) (w := X.w) (I.ok.hd hc) it lo 1 n
    refine W.item i s _ _ hg st fun v h' tk hv st' kk => ?_
    obtain ⟨t, rfl⟩ := hv
    have I1 : Inv X pins σ H { s with heap := h', toks := tk } := I.turned (fun b o hb e => kk b o (by simpa using hb) e) f0 f1 f3 f4 f5
    refine ⟨_, rfl, go_of (s := { s with heap := h', toks := tk }) (n := "range_iterator") st' rfl rfl (by decide) ⟨.int (lo + i), H, I1, ⟨t, ?_⟩, ⟨rfl, rfl⟩, st', fun b hb => (hf b hb).1⟩⟩
    rw [Int.mul_one]
  done := by
    intro X hP hw hK hc i pins s σ H E I hf st hg
    subst hP hw hK
    obtain ⟨f0, f1, f2, f3, f4, f5⟩ := hf it (by simp)
    exact wpAny_pyNext_range_end (I.ok.hd hc) st (by have : n ≤ i := hg; omega) fun h' eb => ⟨rfl, I.turned (t' := s.toks) (fun b o hb e => eb b o hb e) f0 f1 f3 f4 f5⟩
  self := fun _ _ _ _ _ st h => wpAny_pyIter_rangeiter st h
end L2

namespace L2
open PySem PySem.Spec PyProof.Rows
section
variable {X : Cx} {tg : Expr}
def iList (K : PySem.W.Frag) (tl : TE) : TI := fun σ H R => tl σ H fun x H1 => ∃ a, x = .ref a ∧ (∃ xs, SqL K H1 a xs) ∧ R (Itl K a) H1
theorem pi_list {l : Expr} {tl : TE} (hl : PE X l tl) : PI X tg l (iList X.K tl) := by
  intro pins s σ H R I h
  refine thn (hl pins s σ H _ I h) fun v s1 ⟨x, H1, I1, r1, q1⟩ => ?_
  obtain ⟨a, e, ⟨xs, hq⟩, q⟩ := q1
  subst e
  cases r1
  obtain ⟨its, rv, p, hz⟩ := I1.list hq
  refine wpAny_pyIter_list p.isList ?_
  refine ⟨s1.heap.objs.size, [s1.heap.objs.size], _, _, H1, rfl, I1.kept (t' := s1.toks) fun b o e => Heap.get?_push_of_some _ e, turn_list a _, ⟨_, Heap.get?_push_size _ rfl, rfl, rfl⟩, fun b hb => ?_, q⟩
  have e : b = s1.heap.objs.size := by simpa using hb
  subst e
  exact I1.fpOk (Nat.le_refl _) (I1.hok.fresh (Nat.le_refl _))
/-- a range object just made, walked -/
theorem range_it {pins : List (Addr × Obj)} {σ : St} {H : Hp} {s : Shared} {R : It → Hp → Prop} {E : Value → Shared → Prop} {lo hi : Int} {t u v : Tok} {tk : Nat} (I : Inv X pins σ H s) (h1 : -(2 ^ 62) ≤ lo) (h2 : lo < 2 ^ 62) (h3 : -(2 ^ 62) ≤ hi) (h4 : hi < 2 ^ 62)
    (q : R (Itr lo (hi - lo).toNat) H) : wpAny (model X.prog X.w) X.A (pyIter (.ref s.heap.objs.size)) (PIE X pins σ tg R) E { s with heap := s.heap.push { cls := .type "range", data := .fields #[.int lo t, .int hi u, .int 1 v] }, toks := tk } := by
  refine wpAny_pyIter_range (IsRange.new ..) (small_one h1 h2 h3 h4) ?_
  have I1 : Inv X pins σ H { s with heap := s.heap.push { cls := .type "range", data := .fields #[.int lo t, .int hi u, .int 1 v] }, toks := tk } := I.kept fun b o e => Heap.get?_push_of_some _ e
  refine ⟨(s.heap.push { cls := .type "range", data := .fields #[.int lo t, .int hi u, .int 1 v] }).objs.size, [(s.heap.push { cls := .type "range", data := .fields #[.int lo t, .int hi u, .int 1 v] }).objs.size], _, _, H, rfl,
    I1.kept (t' := tk) fun b o e => Heap.get?_push_of_some _ e, turn_range _ lo (hi - lo).toNat, ?_, fun b hb => ?_, q⟩
  · have e1 : lo + ((0 : Nat) : Int) * 1 = lo := by simp
    have e2 : (((hi - lo).toNat : Nat) : Int) - ((0 : Nat) : Int) = Builtin.Range.rangeSize lo hi 1 := by rw [rangeSize_one]; split <;> omega
    show IsRangeIter _ _ (lo + ((0 : Nat) : Int) * 1) ((((hi - lo).toNat : Nat) : Int) - ((0 : Nat) : Int)) 1
    rw [e1, e2]
    exact Heap.get?_push_size _ rfl
  · have e : b = (s.heap.push { cls := .type "range", data := .fields #[.int lo t, .int hi u, .int 1 v] }).objs.size := by simpa using hb
    subst e
    exact I1.fpOk (Nat.le_refl _) (I1.hok.fresh (Nat.le_refl _))
def iRng1 (ta : TA) : TI := fun σ H R => ta σ H fun vs H1 => ∃ j : Int, vs = [.int j] ∧ -(2 ^ 62) ≤ j ∧ j < 2 ^ 62 ∧ R (Itr 0 j.toNat) H1
theorem pi_range1 {a : Expr} {ta : TA} {p pos : Pos} (hg : Gl X "range") (hm : X.mg "range" = none) (ha : PA X [a] ta) (hs : starEach [a] X.env = [(false, eval a X.env)] := by rfl) : PI X tg (.Call (.Name "range" p) [a] [] pos) (iRng1 ta) := by
  intro pins s σ H R I h
  refine Call_ (ld_blt I hg hm boot_range (PyProof.Rows.callWith_type1 (thn (ha pos pins s σ H _ I h) fun us s1 ⟨vs, H1, I1, r1, q1⟩ => ?_) hs rfl))
  obtain ⟨j, e, q1, q2, q⟩ := q1
  subst e
  cases r1 with
  | cons r rr =>
    cases rr
    obtain ⟨t, rfl⟩ := r
    exact call_range_1 (range_it I1 (by omega) (by omega) q1 q2 (by simpa using q))

/-! ### for -/
/-- W: the invariant by the turn and a measure; N: what the body is to reach -/
def tFor (wi : TI) (g : TG) (tb : TS) : TS := fun D σ H => wi σ H fun J H1 => ∃ W : Nat → Nat → St → Hp → Prop, (∃ m, W 0 m σ H1) ∧ ∀ i m σ H, W i m σ H →
  (J.stop i H ∧ D.nx σ H) ∨ (J.go i H ∧ ∃ N : St → Hp → Prop, (∀ σ' H', N σ' H' → ∃ m', m' < m ∧ W (i + 1) m' σ' H') ∧ ∀ x H', J.yld i H x H' → g x σ H' fun σ2 H2 => tb { D with nx := N, ct := N, bk := D.nx } σ2 H2)
/-- the records at fp as they stand -/
def pinsAt (fp : List Addr) (h : Heap) : List (Addr × Obj) := fp.filterMap fun b => (h.get? b).map fun o => (b, o)
theorem mem_pinsAt {fp : List Addr} {h : Heap} {b : Addr} {o : Obj} (hb : b ∈ fp) (e : h.get? b = some o) : (b, o) ∈ pinsAt fp h := List.mem_filterMap.mpr ⟨b, hb, by rw [e]; rfl⟩
theorem of_pinsAt {fp : List Addr} {h : Heap} {p : Addr × Obj} (hp : p ∈ pinsAt fp h) : p.1 ∈ fp ∧ h.get? p.1 = some p.2 := by
  obtain ⟨b, hb, e⟩ := List.mem_filterMap.mp hp
  cases q : h.get? b with
  | none => rw [q] at e; cases e
  | some o =>
    rw [q] at e
    have e' : (b, o) = p := Option.some.inj e
    subst e'
    exact ⟨hb, q⟩
theorem Inv.pinned {pins : List (Addr × Obj)} {σ : St} {H : Hp} {s : Shared} {fp : List Addr} (I : Inv X pins σ H s) (hf : ∀ b ∈ fp, FpOk X pins H b) (ho : ∀ b ∈ fp, ∃ o, s.heap.get? b = some o ∧ ∀ v, o.data ≠ .cell v) : Inv X (pins ++ pinsAt fp s.heap) σ H s :=
  I.pins_of fun p hp => (List.mem_append.mp hp).elim (fun z => I.pin p (List.mem_append_right _ z)) fun z => by
    obtain ⟨hb, e⟩ := of_pinsAt z
    obtain ⟨f0, f1, f2, _⟩ := hf p.1 hb
    obtain ⟨o, e', d⟩ := ho p.1 hb
    rw [e] at e'; cases e'
    exact ⟨e, f0, f1, f2, d⟩
theorem Inv.unpinned {pins pl : List (Addr × Obj)} {σ : St} {H : Hp} {s : Shared} (I : Inv X (pins ++ pl) σ H s) : Inv X pins σ H s := I.pins_of fun p hp => I.pin p (List.mem_append_right _ (List.mem_append_left _ hp))
theorem ps_for {iter : Expr} {body : List Stmt} {wi : TI} {g : TG} {tb : TS} {pos : Pos} (hp : PassesOwn (model X.prog X.w) X.A X.env X.xe) (hc : X.calm = true) (hi : PI X tg iter wi) (hg : PG X tg g) (hb : PSs X body tb)
    (hs : ∀ x, foldedSetIterable iter X.env x = pure x := by intro _; rfl) : PS X (.For tg iter body [] pos) (tFor wi g tb) := by
  intro pins s σ H D I h
  refine wpAny_For (thn (hi pins s σ H _ I h) fun v s1 h1 => thn h1 fun itv s2 h2 => ?_) hs
  obtain ⟨it, fp, tn, J, H2, e, I2, T, st2, f2, W, ⟨m0, w0⟩, turn⟩ := h2
  subst e
  -- what stays true of the iterator's objects through the loop
  have stat : ∀ {H' : Hp}, (∀ b ∈ fp, H' b = none) → ∀ b ∈ fp, FpOk X pins H' b := fun hn b hb => ⟨hn b hb, (f2 b hb).2⟩
  refine codeAny_forLoop_any (fun n s' => ∃ i σ' H', Inv X pins σ' H' s' ∧ tn i s'.heap ∧ (∀ b ∈ fp, H' b = none) ∧ W i n σ' H') ?_ m0 ⟨0, σ, H2, I2, st2, fun b hb => (f2 b hb).1, w0⟩
  rintro n s3 ⟨i, σ3, H3, I3, st3, fr3, w3⟩
  rcases turn i n σ3 H3 w3 with ⟨stop, qn⟩ | ⟨go, N, hN, step⟩
  · refine wpAny_passesOwn hp (thn (T.done X rfl rfl rfl hc i pins s3 σ3 H3 X.xe I3 (stat fr3) st3 stop) fun r s4 ⟨hr, I4⟩ => ?_)
    subst hr
    exact wpAny_execs_nil ⟨σ3, H3, I4, qn⟩
  · refine wpAny_passesOwn hp (thn (T.item X rfl rfl rfl hc i pins s3 σ3 H3 X.xe I3 (stat fr3) st3 go) fun r s4 ⟨u, hr, h4⟩ => ?_)
    subst hr
    refine wpAny_passesOwn hp (thn h4 fun _ s5 ⟨x, H5, I5, r5, y5, st5, fr5⟩ => ?_)
    have I5' := I5.pinned (stat fr5) (T.obj _ _ st5)
    refine wpAny_passesOwn hp (thn (hg _ s5 σ3 H5 x u _ I5' r5 (step x H5 y5)) fun _ s6 ⟨σ6, H6, I6, q6⟩ => ?_)
    refine wpAny_passesOwn hp (thn (hb _ s6 σ6 H6 _ I6 q6) fun f s7 q7 => ?_)
    have again : ∀ {σ7 : St} {H7 : Hp}, Inv X (pins ++ pinsAt fp s5.heap) σ7 H7 s7 → N σ7 H7 → ∃ m, m < n ∧ ∃ i σ' H', Inv X pins σ' H' s7 ∧ tn i s7.heap ∧ (∀ b ∈ fp, H' b = none) ∧ W i m σ' H' := fun {σ7 H7} I7 n7 => by
      obtain ⟨m', hm, w7⟩ := hN σ7 H7 n7
      refine ⟨m', hm, i + 1, σ7, H7, I7.unpinned, T.keep _ _ _ st5 fun b hb o e => (I7.pin (b, o) (List.mem_append_right _ (List.mem_append_right _ (mem_pinsAt hb e)))).1, fun b hb => ?_, w7⟩
      obtain ⟨o, e, d⟩ := T.obj _ _ st5 b hb
      exact (I7.pin (b, o) (List.mem_append_right _ (List.mem_append_right _ (mem_pinsAt hb e)))).2.1
    cases f with
    | next => obtain ⟨σ7, H7, I7, n7⟩ := q7; exact again I7 n7
    | cont => obtain ⟨σ7, H7, I7, n7⟩ := q7; exact again I7 n7
    | brk => obtain ⟨σ7, H7, I7, q7⟩ := q7; exact ⟨σ7, H7, I7.unpinned, q7⟩
    | ret v => obtain ⟨x7, σ7, H7, I7, r7, q7⟩ := q7; exact ⟨x7, σ7, H7, I7.unpinned, r7, q7⟩
end

/-! ### the forms one uses -/
/-- over a list that the body leaves as it is -/
theorem for_list {K : PySem.W.Frag} {a : Addr} {xs : List V} {g : TG} {tb : TS} {D : Ends} {σ : St} {H : Hp} (Pv : Nat → St → Hp → Prop) (h0 : Pv 0 σ H) (hl : ∀ i σ H, i ≤ xs.length → Pv i σ H → SqL K H a xs)
    (hs : ∀ i x σ H, xs[i]? = some x → Pv i σ H → g x σ H fun σ2 H2 => tb { D with nx := Pv (i + 1), ct := Pv (i + 1), bk := D.nx } σ2 H2) (hd : ∀ σ H, Pv xs.length σ H → D.nx σ H) :
    ∃ W : Nat → Nat → St → Hp → Prop, (∃ m, W 0 m σ H) ∧ ∀ i m σ H, W i m σ H →
      ((Itl K a).stop i H ∧ D.nx σ H) ∨ ((Itl K a).go i H ∧ ∃ N : St → Hp → Prop, (∀ σ' H', N σ' H' → ∃ m', m' < m ∧ W (i + 1) m' σ' H') ∧ ∀ x H', (Itl K a).yld i H x H' → g x σ H' fun σ2 H2 => tb { D with nx := N, ct := N, bk := D.nx } σ2 H2) := by
  refine ⟨fun i m σ H => m = xs.length - i ∧ i ≤ xs.length ∧ Pv i σ H, ⟨xs.length, by simp, Nat.zero_le _, h0⟩, ?_⟩
  rintro i m σ H ⟨rfl, hi, p⟩
  have q := hl i σ H hi p
  by_cases hlt : i < xs.length
  · refine .inr ⟨⟨xs, xs[i], q, by simp [hlt]⟩, Pv (i + 1), fun σ' H' p' => ⟨xs.length - (i + 1), by omega, rfl, hlt, p'⟩, fun x H' y => ?_⟩
    obtain ⟨e, y⟩ := y
    subst e
    exact hs i x σ _ (y xs q) p
  · have e : i = xs.length := by omega
    subst e
    exact .inl ⟨⟨xs, q, Nat.le_refl _⟩, hd σ H p⟩
theorem for_range {lo : Int} {n : Nat} {g : TG} {tb : TS} {D : Ends} {σ : St} {H : Hp} (Pv : Nat → St → Hp → Prop) (h0 : Pv 0 σ H)
    (hs : ∀ i σ H, i < n → Pv i σ H → g (.int (lo + i)) σ H fun σ2 H2 => tb { D with nx := Pv (i + 1), ct := Pv (i + 1), bk := D.nx } σ2 H2) (hd : ∀ σ H, Pv n σ H → D.nx σ H) :
    ∃ W : Nat → Nat → St → Hp → Prop, (∃ m, W 0 m σ H) ∧ ∀ i m σ H, W i m σ H →
      ((Itr lo n).stop i H ∧ D.nx σ H) ∨ ((Itr lo n).go i H ∧ ∃ N : St → Hp → Prop, (∀ σ' H', N σ' H' → ∃ m', m' < m ∧ W (i + 1) m' σ' H') ∧ ∀ x H', (Itr lo n).yld i H x H' → g x σ H' fun σ2 H2 => tb { D with nx := N, ct := N, bk := D.nx } σ2 H2) := by
  refine ⟨fun i m σ H => m = n - i ∧ i ≤ n ∧ Pv i σ H, ⟨n, by simp, Nat.zero_le _, h0⟩, ?_⟩
  rintro i m σ H ⟨rfl, hi, p⟩
  by_cases hlt : i < n
  · refine .inr ⟨hlt, Pv (i + 1), fun σ' H' p' => ⟨n - (i + 1), by omega, rfl, hlt, p'⟩, fun x H' y => ?_⟩
    obtain ⟨e, y⟩ := y
    subst e y
    exact hs i σ _ hlt p
  · have e : i = n := by omega
    subst e
    exact .inl ⟨Nat.le_refl _, hd σ H p⟩
end L2

namespace L2
open PySem PySem.Spec PyProof.Rows

abbrev R2 := V → V → Hp → VK → Prop
/-- a two-place operation on values: f is binaryOp op, inplaceOp op or compareOp op -/
def OpR (X : Cx) (f : Value → Value → Sem Value) (r : R2) : Prop :=
  ∀ (pins : List (Addr × Obj)) (s : Shared) (σ : St) (H : Hp) (x y : V) (v u : Value) (Q : VK), Inv X pins σ H s → RelV x v → RelV y u → r x y H Q →
    wpAny (model X.prog X.w) X.A (f v u) (EP X pins σ Q) X.xe s
/-- a one-place operation -/
def UnR (X : Cx) (f : Value → Sem Value) (r : V → Hp → VK → Prop) : Prop :=
  ∀ (pins : List (Addr × Obj)) (s : Shared) (σ : St) (H : Hp) (x : V) (v : Value) (Q : VK), Inv X pins σ H s → RelV x v → r x H Q →
    wpAny (model X.prog X.w) X.A (f v) (EP X pins σ Q) X.xe s
/-- a call of a value that is known (a builtin, a type) with values -/
def CallR (X : Cx) (f : Value) (r : List V → Hp → VK → Prop) : Prop :=
  ∀ (pins : List (Addr × Obj)) (s : Shared) (σ : St) (H : Hp) (xs : List V) (us : List Value) (Q : VK), Inv X pins σ H s → Vals xs us → r xs H Q →
    wpAny (model X.prog X.w) X.A (call f us) (EP X pins σ Q) X.xe s

def tOp (r : R2) (ta tb : TE) : TE := fun σ H Q => ta σ H fun x H1 => tb σ H1 fun y H2 => r x y H2 Q
def tUn (r : V → Hp → VK → Prop) (ta : TE) : TE := fun σ H Q => ta σ H fun x H1 => r x H1 Q
/-- ints in, under C, and a value out -/
def rI (C : Int → Int → Prop) (g : Int → Int → V) : R2 := fun x y H Q => ∃ i j, x = .int i ∧ y = .int j ∧ C i j ∧ Q (g i j) H
def rI0 (g : Int → Int → V) : R2 := fun x y H Q => ∃ i j, x = .int i ∧ y = .int j ∧ Q (g i j) H
def rU (g : Int → V) : V → Hp → VK → Prop := fun x H Q => ∃ i, x = .int i ∧ Q (g i) H

section
variable {X : Cx} {a b c : Expr} {ta tb tc : TE} {pos : Pos}

theorem binT (ha : PE X a ta) (hb : PE X b tb) {pins : List (Addr × Obj)} {s : Shared} {σ : St} {H : Hp} {R : V → V → Hp → Prop} (I : Inv X pins σ H s)
    (h : ta σ H fun x H1 => tb σ H1 fun y H2 => R x y H2) {Q : Value → Shared → Prop} {f : Value → Value → Sem Value}
    (hf : ∀ v u s2 x y H2, Inv X pins σ H2 s2 → RelV x v → RelV y u → R x y H2 → wpAny (model X.prog X.w) X.A (f v u) Q X.xe s2) :
    wpAny (model X.prog X.w) X.A (eval a X.env) (fun v s₁ => wpAny (model X.prog X.w) X.A (eval b X.env) (fun u s₂ => wpAny (model X.prog X.w) X.A (f v u) Q X.xe s₂) X.xe s₁) X.xe s := by
  refine thn (ha pins s σ H _ I h) fun v s1 ⟨x, H1, I1, r1, q1⟩ => ?_
  refine thn (hb pins s1 σ H1 _ I1 q1) fun u s2 ⟨y, H2, I2, r2, q2⟩ => ?_
  exact hf v u s2 x y H2 I2 r1 r2 q2

theorem pe_op {op : Operator} {r : R2} (ho : OpR X (binaryOp op) r) (ha : PE X a ta) (hb : PE X b tb) : PE X (.BinOp a op b pos) (tOp r ta tb) := by
  intro pins s σ H Q I h
  exact wpAny_BinOp (binT ha hb I h fun v u s2 x y H2 I2 rx ry q => ho pins s2 σ H2 x y v u Q I2 rx ry q)
theorem pe_un {op : UnaryOp} {r : V → Hp → VK → Prop} (ho : UnR X (unaryOp op) r) (ha : PE X a ta) : PE X (.UnaryOp op a pos) (tUn r ta) := by
  intro pins s σ H Q I h
  exact UnaryOp_ (thn (ha pins s σ H _ I h) fun v s1 ⟨x, H1, I1, r1, q1⟩ => ho pins s1 σ H1 x v Q I1 r1 q1)

/-! ### ints -/
theorem opI {f : Value → Value → Sem Value} {C : Int → Int → Prop} {g : Int → Int → Int}
    (rule : ∀ (i j : Int) (t u : Tok) (s : Shared) (Q : Value → Shared → Prop) (E : Value → Shared → Prop), C i j → Q (.int (g i j) s.toks) { s with toks := s.toks + 1 } → wpAny (model X.prog X.w) X.A (f (.int i t) (.int j u)) Q E s) :
    OpR X f (rI C fun i j => .int (g i j)) := by
  intro pins s σ H x y v u Q I rx ry h
  obtain ⟨i, j, rfl, rfl, hc, q⟩ := h
  obtain ⟨t, rfl⟩ := rx
  obtain ⟨t', rfl⟩ := ry
  exact rule i j t t' s _ _ hc ⟨.int (g i j), H, I.tok _, ⟨_, rfl⟩, q⟩
theorem opI0 {f : Value → Value → Sem Value} {g : Int → Int → Int}
    (rule : ∀ (i j : Int) (t u : Tok) (s : Shared) (Q : Value → Shared → Prop) (E : Value → Shared → Prop), Q (.int (g i j) s.toks) { s with toks := s.toks + 1 } → wpAny (model X.prog X.w) X.A (f (.int i t) (.int j u)) Q E s) :
    OpR X f (rI0 fun i j => .int (g i j)) := by
  intro pins s σ H x y v u Q I rx ry h
  obtain ⟨i, j, rfl, rfl, q⟩ := h
  obtain ⟨t, rfl⟩ := rx
  obtain ⟨t', rfl⟩ := ry
  exact rule i j t t' s _ _ ⟨.int (g i j), H, I.tok _, ⟨_, rfl⟩, q⟩
theorem opB0 {f : Value → Value → Sem Value} {g : Int → Int → Bool}
    (rule : ∀ (i j : Int) (t u : Tok) (s : Shared) (Q : Value → Shared → Prop) (E : Value → Shared → Prop), Q (.bool (g i j)) s → wpAny (model X.prog X.w) X.A (f (.int i t) (.int j u)) Q E s) :
    OpR X f (rI0 fun i j => .bl (g i j)) := by
  intro pins s σ H x y v u Q I rx ry h
  obtain ⟨i, j, rfl, rfl, q⟩ := h
  obtain ⟨t, rfl⟩ := rx
  obtain ⟨t', rfl⟩ := ry
  exact rule i j t t' s _ _ ⟨.bl (g i j), H, I, rfl, q⟩

def CDiv (i j : Int) : Prop := 0 < j ∧ j < 1073741824
def CPow (i j : Int) : Prop := 0 ≤ j ∧ j ≤ 1000000 ∧ i.natAbs < 2 ^ 64
def CMul (i j : Int) : Prop := (-(2 ^ 64) < i ∧ i < 2 ^ 64) ∨ (-(2 ^ 64) < j ∧ j < 2 ^ 64)
theorem CMul.ok {i j : Int} (h : CMul i j) : IntMulOk i j := by
  rcases h with ⟨h1, h2⟩ | ⟨h1, h2⟩
  · exact .of_left (intBits_le_64 h1 h2)
  · exact .of_right (intBits_le_64 h1 h2)

theorem op_add : OpR X (binaryOp .Add) (rI0 fun i j => .int (i + j)) := opI0 fun _ _ _ _ _ _ _ q => add_int q
theorem op_sub : OpR X (binaryOp .Sub) (rI0 fun i j => .int (i - j)) := opI0 fun _ _ _ _ _ _ _ q => sub_int q
theorem op_mul : OpR X (binaryOp .Mult) (rI CMul fun i j => .int (i * j)) := opI fun _ _ _ _ _ _ _ hc q => mul_int q hc.ok
/-- // by a positive divisor -/
theorem op_fdiv : OpR X (binaryOp .FloorDiv) (rI CDiv fun i j => .int (i / j)) := opI fun i j _ _ _ _ _ hc q => by
  have h1 : (0 : Int) < j := hc.1
  have h2 : j < 1073741824 := hc.2
  exact floordiv_int (by omega) (by rw [Int.fdiv_eq_ediv_of_nonneg i (by omega)]; exact q) (.inl (PyProof.noPylong_small (by omega)))
/-- % by a positive divisor of any size -/
theorem op_mod : OpR X (binaryOp .Mod) (rI (fun _ j => 0 < j) fun i j => .int (i % j)) := opI fun i j _ _ _ _ _ hc q => by
  have h1 : (0 : Int) < j := hc
  exact mod_int' (by omega) (by rw [Int.fmod_eq_emod_of_nonneg i (by omega)]; exact q)
theorem op_pow : OpR X (binaryOp .Pow) (rI CPow fun i j => .int (i ^ j.toNat)) := opI fun _ _ _ _ _ _ _ hc q => pow_int_small hc.1 hc.2.1 hc.2.2 q



/-! ### bools among ints: n += (a < b) -/
end

/-! ### comparisons -/
/-- the scalars that == tells apart as data does -/
def scal : V → V → Bool
  | .non, .non => true | .non, .int _ => true | .int _, .non => true | .non, .bl _ => true | .bl _, .non => true | .non, .str _ => true | .str _, .non => true
  | .int _, .int _ => true | .bl _, .bl _ => true | .str _, .str _ => true | .byt _, .byt _ => true
  | .int _, .str _ => true | .str _, .int _ => true | .bl _, .str _ => true | .str _, .bl _ => true
  | _, _ => false
def rEq : R2 := fun x y H Q => scal x y = true ∧ Q (.bl (decide (x = y))) H
def rNe : R2 := fun x y H Q => scal x y = true ∧ Q (.bl (!decide (x = y))) H

theorem dec_int {i j : Int} : decide (V.int i = V.int j) = (i == j) := by
  rw [Bool.eq_iff_iff]
  simp
theorem dec_bl {i j : Bool} : decide (V.bl i = V.bl j) = (i == j) := by
  rw [Bool.eq_iff_iff]
  simp
theorem dec_str {i j : Str} : decide (V.str i = V.str j) = (i == j) := by
  rw [Bool.eq_iff_iff]
  simp
theorem dec_byt {i j : Array UInt8} : decide (V.byt i = V.byt j) = (i.toList == j.toList) := by
  rw [Bool.eq_iff_iff]
  cases i
  cases j
  simp

section
variable {X : Cx} {a b c : Expr} {ta tb tc : TE} {pos : Pos}
theorem fin_bl {pins : List (Addr × Obj)} {σ : St} {H : Hp} {s : Shared} {Q : VK} {k k' : Bool} (I : Inv X pins σ H s) (q : Q (.bl k) H) (e : k = k') : EP X pins σ Q (.bool k') s := by
  subst e
  exact ⟨.bl k, H, I, rfl, q⟩
theorem op_eq : OpR X (compareOp .Eq) rEq := by
  intro pins s σ H x y v u Q I rx ry h
  obtain ⟨hs, q⟩ := h
  cases x with
  | non =>
    cases rx
    cases y with
    | non => cases ry; exact PySem.EqNone.eq_none_none (fin_bl I q (by simp))
    | bl j => cases ry; exact PySem.EqNone.eq_none_bool (fin_bl I q (by simp))
    | int j => obtain ⟨t', rfl⟩ := ry; exact PySem.EqNone.eq_none_int (fin_bl I q (by simp))
    | str j => obtain ⟨t', rfl⟩ := ry; exact PySem.EqNone.eq_none_str (fin_bl I q (by simp))
    | _ => exact absurd (show false = true from hs) Bool.false_ne_true
  | bl i =>
    cases rx
    cases y with
    | non => cases ry; exact PySem.EqNone.eq_bool_none (fin_bl I q (by simp))
    | bl j => cases ry; exact eq_bool (fin_bl I q dec_bl)
    | str j => obtain ⟨t', rfl⟩ := ry; exact PySem.EqMixed.eq_bool_str (fin_bl I q (by simp))
    | _ => exact absurd (show false = true from hs) Bool.false_ne_true
  | int i =>
    obtain ⟨t, rfl⟩ := rx
    cases y with
    | non => cases ry; exact PySem.EqNone.eq_int_none (fin_bl I q (by simp))
    | int j => obtain ⟨t', rfl⟩ := ry; exact eq_int (fin_bl I q dec_int)
    | str j => obtain ⟨t', rfl⟩ := ry; exact PySem.EqMixed.eq_int_str (fin_bl I q (by simp))
    | _ => exact absurd (show false = true from hs) Bool.false_ne_true
  | str i =>
    obtain ⟨t, rfl⟩ := rx
    cases y with
    | non => cases ry; exact PySem.EqNone.eq_str_none (fin_bl I q (by simp))
    | bl j => cases ry; exact PySem.EqMixed.eq_str_bool (fin_bl I q (by simp))
    | int j => obtain ⟨t', rfl⟩ := ry; exact PySem.EqMixed.eq_str_int (fin_bl I q (by simp))
    | str j => obtain ⟨t', rfl⟩ := ry; exact eq_str (fin_bl I q dec_str)
    | _ => exact absurd (show false = true from hs) Bool.false_ne_true
  | byt i =>
    obtain ⟨t, rfl⟩ := rx
    cases y with
    | byt j => obtain ⟨t', rfl⟩ := ry; exact PySem.W.eq_bytes (fin_bl I q dec_byt)
    | _ => exact absurd (show false = true from hs) Bool.false_ne_true
  | _ => cases y <;> exact absurd (show false = true from hs) Bool.false_ne_true
theorem op_ne : OpR X (compareOp .NotEq) rNe := by
  intro pins s σ H x y v u Q I rx ry h
  obtain ⟨hs, q⟩ := h
  cases x with
  | non =>
    cases rx
    cases y with
    | non => cases ry; exact PySem.EqNone.ne_none_none (fin_bl I q (by simp))
    | bl j => cases ry; exact PySem.EqNone.ne_none_bool (fin_bl I q (by simp))
    | int j => obtain ⟨t', rfl⟩ := ry; exact PySem.EqNone.ne_none_int (fin_bl I q (by simp))
    | str j => obtain ⟨t', rfl⟩ := ry; exact PySem.EqNone.ne_none_str (fin_bl I q (by simp))
    | _ => exact absurd (show false = true from hs) Bool.false_ne_true
  | bl i =>
    cases rx
    cases y with
    | non => cases ry; exact PySem.EqNone.ne_bool_none (fin_bl I q (by simp))
    | bl j => cases ry; exact ne_bool (fin_bl I q (congrArg not dec_bl))
    | str j => obtain ⟨t', rfl⟩ := ry; exact PySem.EqMixed.ne_bool_str (fin_bl I q (by simp))
    | _ => exact absurd (show false = true from hs) Bool.false_ne_true
  | int i =>
    obtain ⟨t, rfl⟩ := rx
    cases y with
    | non => cases ry; exact PySem.EqNone.ne_int_none (fin_bl I q (by simp))
    | int j => obtain ⟨t', rfl⟩ := ry; exact ne_int (fin_bl I q (congrArg not dec_int))
    | str j => obtain ⟨t', rfl⟩ := ry; exact PySem.EqMixed.ne_int_str (fin_bl I q (by simp))
    | _ => exact absurd (show false = true from hs) Bool.false_ne_true
  | str i =>
    obtain ⟨t, rfl⟩ := rx
    cases y with
    | non => cases ry; exact PySem.EqNone.ne_str_none (fin_bl I q (by simp))
    | bl j => cases ry; exact PySem.EqMixed.ne_str_bool (fin_bl I q (by simp))
    | int j => obtain ⟨t', rfl⟩ := ry; exact PySem.EqMixed.ne_str_int (fin_bl I q (by simp))
    | str j => obtain ⟨t', rfl⟩ := ry; exact ne_str (fin_bl I q (congrArg not dec_str))
    | _ => exact absurd (show false = true from hs) Bool.false_ne_true
  | byt i =>
    obtain ⟨t, rfl⟩ := rx
    cases y with
    | byt j => obtain ⟨t', rfl⟩ := ry; exact PySem.W.ne_bytes (fin_bl I q (congrArg not dec_byt))
    | _ => exact absurd (show false = true from hs) Bool.false_ne_true
  | _ => cases y <;> exact absurd (show false = true from hs) Bool.false_ne_true

theorem op_lt : OpR X (compareOp .Lt) (rI0 fun i j => .bl (decide (i < j))) := opB0 fun _ _ _ _ _ _ _ q => lt_int q
theorem op_le : OpR X (compareOp .LtE) (rI0 fun i j => .bl (decide (i ≤ j))) := opB0 fun _ _ _ _ _ _ _ q => le_int q
theorem op_gt : OpR X (compareOp .Gt) (rI0 fun i j => .bl (decide (j < i))) := opB0 fun _ _ _ _ _ _ _ q => gt_int q
theorem op_ge : OpR X (compareOp .GtE) (rI0 fun i j => .bl (decide (j ≤ i))) := opB0 fun _ _ _ _ _ _ _ q => ge_int q

/-- is None, is not None: the right side a value none -/
theorem op_isN : OpR X (compareOp .Is) (fun x y H Q => y = .non ∧ Q (.bl (decide (x = .non))) H) := by
  intro pins s σ H x y v u Q I rx ry h
  obtain ⟨rfl, q⟩ := h
  cases ry
  refine is_none_gen (fin_bl I q ?_)
  cases x <;> first
    | (cases rx; rfl)
    | (obtain ⟨t, rfl⟩ := rx; rfl)



theorem nomark (b : Expr) {op : CmpOp} (h : op ≠ .In := by decide) (h2 : op ≠ .NotIn := by decide) : behindInMarks op b = false := by
  have e1 : (op == CmpOp.In) = false := by cases op <;> first | rfl | exact absurd rfl h
  have e2 : (op == CmpOp.NotIn) = false := by cases op <;> first | rfl | exact absurd rfl h2
  cases b <;> simp [behindInMarks, e1, e2]
/-- a comparison as a value; hm: nomark b, or (for in, not in) by with_unfolding_all rfl -/
theorem pe_cmpR {op : CmpOp} {r : R2} (ho : OpR X (compareOp op) r) (ha : PE X a ta) (hb : PE X b tb) (hm : behindInMarks op b = false) : PE X (.Compare a [op] [b] pos) (tOp r ta tb) := by
  intro pins s σ H Q I h
  exact wpAny_Compare1 (binT ha hb I h fun v u s2 x y H2 I2 rx ry q => ho pins s2 σ H2 x y v u Q I2 rx ry q) hm
/-- a reading of a value as a test -/
def tTest (t : TE) : TT := fun σ H Q => t σ H fun x H' => ∃ k, x = .bl k ∧ Q k H'
theorem pt_cmpR {op : CmpOp} {r : R2} (ho : OpR X (compareOp op) r) (ha : PE X a ta) (hb : PE X b tb) (hm : behindInMarks op b = false) : PT X (.Compare a [op] [b] pos) (tTest (tOp r ta tb)) := by
  intro pins s σ H Q I h
  refine wpAny_isTrue_Compare1 (thn (ha pins s σ H _ I h) fun v s1 ⟨x, H1, I1, r1, q1⟩ => thn (hb pins s1 σ H1 _ I1 q1) fun u s2 ⟨y, H2, I2, r2, q2⟩ =>
    thn (ho pins s2 σ H2 x y v u _ I2 r1 r2 q2) fun c s3 ⟨z, H3, I3, r3, k, e, q3⟩ => ?_) hm
  subst e
  cases r3
  exact wpAny_truthy_bool ⟨H3, I3, q3⟩

/-! ### truth -/
theorem line63 : (sizeLine : Nat) < 2 ^ 63 := by rw [sizeLine_eq]; decide

/-! ### strs and bytes -/
theorem op_add_str : OpR X (binaryOp .Add) (fun x y H Q => ∃ i j, x = .str i ∧ y = .str j ∧ i.length + j.length ≤ sizeLine ∧ Q (.str (i ++ j)) H) := by
  intro pins s σ H x y v u Q I rx ry h
  obtain ⟨i, j, rfl, rfl, hz, q⟩ := h
  obtain ⟨t, rfl⟩ := rx
  obtain ⟨t', rfl⟩ := ry
  exact add_str (fun t' tk => ⟨.str (i ++ j), H, I.tok _, ⟨_, rfl⟩, q⟩) hz


/-! ### scalar builtins, by CallR -/
theorem vals1 {x : V} {us : List Value} (r : Vals [x] us) : ∃ u, us = [u] ∧ RelV x u := by
  cases r with
  | cons r1 r2 => cases r2; exact ⟨_, rfl, r1⟩
theorem vals2 {x y : V} {us : List Value} (r : Vals [x, y] us) : ∃ u w', us = [u, w'] ∧ RelV x u ∧ RelV y w' := by
  cases r with
  | cons r1 r2 =>
    cases r2 with
    | cons r3 r4 => cases r4; exact ⟨_, _, rfl, r1, r3⟩
theorem call_max2 (hc : X.calm = true) : CallR X (.builtin "max") (fun xs H Q => ∃ i j, xs = [.int i, .int j] ∧ Q (.int (if j > i then j else i)) H) := by
  intro pins s σ H xs us Q I r h
  obtain ⟨i, j, rfl, q⟩ := h
  obtain ⟨u, w', rfl, ⟨t, rfl⟩, ⟨t', rfl⟩⟩ := vals2 r
  refine max_two_ints (I.ok.hd hc) fun h' tk k => ⟨_, H, I.kept k, ?_, q⟩
  by_cases hj : j > i
  · rw [if_pos hj, if_pos hj]; exact ⟨_, rfl⟩
  · rw [if_neg hj, if_neg hj]; exact ⟨_, rfl⟩
theorem call_min2 (hc : X.calm = true) : CallR X (.builtin "min") (fun xs H Q => ∃ i j, xs = [.int i, .int j] ∧ Q (.int (if j < i then j else i)) H) := by
  intro pins s σ H xs us Q I r h
  obtain ⟨i, j, rfl, q⟩ := h
  obtain ⟨u, w', rfl, ⟨t, rfl⟩, ⟨t', rfl⟩⟩ := vals2 r
  refine min_two_ints (I.ok.hd hc) fun h' tk k => ⟨_, H, I.kept k, ?_, q⟩
  by_cases hj : j < i
  · rw [if_pos hj, if_pos hj]; exact ⟨_, rfl⟩
  · rw [if_neg hj, if_neg hj]; exact ⟨_, rfl⟩
end
end L2

namespace L2
open PySem PySem.Spec PyProof.Rows

/-! ### an instance, its attributes a map -/
structure ObjM (h : Heap) (x dx C : Addr) (mA : Str → Option Value) : Prop where
  obj : h.get? x = some (PySem.W.instObj C dx)
  ns : h.Ns1 dx mA
  ne : dx ≠ x

theorem lookIn_ns {h : Heap} {dx : Addr} {mA : Str → Option Value} (n : h.Ns1 dx mA) : ∃ od, h.get? dx = some od ∧ ∀ name, PySem.W.lookIn name od = some (mA name) := by
  obtain ⟨o, es, ep, ho, hd, hk, _, hm⟩ := n
  refine ⟨o, ho, fun name => ?_⟩
  have e := hm name
  unfold nsFind findBy at e
  rw [← Array.find?_toList] at e
  unfold PySem.W.lookIn
  rw [hd]
  dsimp only
  split
  · rename_i y q
    rw [q] at e
    exact congrArg some e
  · rename_i q
    rw [q] at e
    have a : es.toList.any (·.refKey) = false := by
      rw [List.any_eq_false]
      intro y hy
      obtain ⟨z, t, hkey⟩ := hk y (Array.mem_toList_iff.mp hy)
      simp [DictEntry.refKey, hkey]
    have a' : ¬ es.toList.any (·.refKey) = true := by rw [a]; exact Bool.false_ne_true
    rw [if_neg a']
    exact congrArg some e

theorem ObjM.look {h : Heap} {x dx C : Addr} {mA : Str → Option Value} (I : ObjM h x dx C mA) : ∃ od, PySem.W.InstAt h x (PySem.W.instObj C dx) C (some od) ∧ ∀ name, PySem.W.lookIn name od = some (mA name) :=
  let ⟨od, ho, hl⟩ := lookIn_ns I.ns
  ⟨od, ⟨I.obj, rfl, rfl, ho⟩, hl⟩

section
variable {prog : Program} {w : World} {A : Around} {E : Value → Shared → Prop} {s : Shared} {K : PySem.W.Frag} {x dx C f : Addr} {mA : Str → Option Value} {name : Str} {v : Value}





end

/-! ### the attributes as a list of pairs -/


section
variable {P : Program} {w : World} {H H' : Hp} {h h' : Heap} {a C dx : Addr} {fs fs' : List (Str × V)}
theorem ins_get (hok : HOk P w H h) (e : H a = some (.ins C dx fs)) : ∃ mA, ObjM h a dx C mA ∧ (∀ f, RelO (fs.lookup f) (mA f)) ∧ PySem.Within mA (fs.map (·.1)) ∧ fs.length ≤ 1000 ∧ H dx = some (.own a) := by
  obtain ⟨d, z, ne, ob, mA, n, r, q⟩ := (show ObjOk P w H h a (.ins C dx fs) from hok a _ e)
  exact ⟨mA, ⟨ob, n, ne⟩, r, q, z, d⟩
end

/-! ### what of the text a class must have -/
structure Cls (K : PySem.W.Frag) (C : Addr) : Prop where
  pg : PySem.W.plainGet K C Str.empty = true
  hd : PySem.W.hasDictIn K C = true
  po : PySem.W.plainOver K C = true
  sa : PySem.W.findIn K (.ref C) "__setattr__" = some (some (.builtin "object.__setattr__"))
theorem Cls.get {K : PySem.W.Frag} {C : Addr} (c : Cls K C) (f : Str) : PySem.W.plainGet K C f = true := c.pg
/-- a constant of the class -/
structure Con (K : PySem.W.Frag) (C : Addr) (f : Str) (v : V) (u : Value) : Prop where
  at_ : PySem.W.findIn K (.ref C) f = some (some u)
  rel : RelV v u
  get : PySem.W.specialIn K u "__get__" = some none
  cp : PySem.W.copiedNames.contains f = false
/-- a method: a plain def of the class or of one above it -/
structure Meth (K : PySem.W.Frag) (C : Addr) (m : Str) (f : Addr) : Prop where
  at_ : PySem.W.findIn K (.ref C) m = some (some (.ref f))
  fn : PySem.W.isFn K (.ref f) = true
  kp : PySem.W.keepIn K (.ref f) = true

section
variable {X : Cx} {pins : List (Addr × Obj)} {σ : St} {H : Hp} {s : Shared} {a C dx : Addr} {fs : List (Str × V)} {f : Str} {v : V} {A : Around} {E : Value → Shared → Prop}






end

/-! ### readings and rules -/

section
variable {X : Cx} {o e value : Expr} {f : Str} {pos pos' tpos : Pos} {ta tv : TE}

end

/-! ### isinstance -/
section
variable {X : Cx} {pins : List (Addr × Obj)} {σ : St} {H : Hp} {s : Shared} {A : Around} {E : Value → Shared → Prop} {Q : Value → Shared → Prop} {c : Value} {b : Bool}
/-- the type of a value, as the fragment's deciders take it; for an instance its class -/
inductive TyOf (K : PySem.W.Frag) (H : Hp) : V → Value → Prop where
  | non : TyOf K H .non (.type "NoneType")
  | bl (x : Bool) : TyOf K H (.bl x) (.type "bool")
  | int (i : Int) : TyOf K H (.int i) (.type "int")
  | str (x : Str) : TyOf K H (.str x) (.type "str")
  | flt (x : UInt64) : TyOf K H (.flt x) (.type "float")
  | lst {a : Addr} {xs : List V} (e : H a = some (.lst xs)) : TyOf K H (.ref a) (.type "list")
  | frz {a : Addr} {o : Obj} {xs : List V} (e : H a = some (.frz o (.lst xs))) : TyOf K H (.ref a) (.type "list")
  | tup {a : Addr} {xs : List V} (e : H a = some (.tup xs)) : TyOf K H (.ref a) (.type "tuple")
  | dK {a : Addr} {kvs : List (Key × V)} (e : H a = some (.dK kvs)) : TyOf K H (.ref a) (.type "dict")
  | dT {a : Addr} {kvs : List (List Key × V)} (e : H a = some (.dT kvs)) : TyOf K H (.ref a) (.type "dict")
  | ins {a C dx : Addr} {fs : List (Str × V)} (e : H a = some (.ins C dx fs)) (cl : Cls K C) (ha : PySem.W.findIn K (.ref C) "__class__" = some (some (.builtin "object.__class__")))
      (hn : PySem.W.specialIn K (.builtin "object.__class__") "__get__" = some (some (.builtin "getset_descriptor.__get__"))) (htk : PySem.W.takesIn K (.builtin "object.__class__") = some true)
      (hm : PySem.W.mroIn K C (.type "object") = some true) : TyOf K H (.ref a) (.ref C)
/-- isinstance(x, c) for one class c, a built-in or an own one: kitOne's answer -/
theorem isinst_ok {x : V} {u t : Value} (I : Inv X pins σ H s) (rx : RelV x u) (ty : TyOf X.K H x t) (e : PySem.W.kitOne X.K t c = some b) (h : ∀ tk, Q (.bool b) { s with toks := tk }) :
    wpAny (model X.prog X.w) A (call (.builtin "isinstance") [u, c]) Q E s := by
  cases ty with
  | non => cases (show u = Value.none from rx); exact PySem.W.kia_one PySem.W.kitx_none I.kIn True.intro e (fun z => nomatch z) h
  | bl y => cases (show u = Value.bool y from rx); exact PySem.W.kia_one PySem.W.kitx_bool I.kIn True.intro e (fun z => nomatch z) h
  | int i => obtain ⟨t, q⟩ := (show ∃ t, u = Value.int i t from rx); cases q; exact PySem.W.kia_one PySem.W.kitx_int I.kIn True.intro e (fun z => nomatch z) h
  | str y => obtain ⟨t, q⟩ := (show ∃ t, u = Value.str y t from rx); cases q; exact PySem.W.kia_one PySem.W.kitx_str I.kIn True.intro e (fun z => nomatch z) h
  | flt y => obtain ⟨t, q⟩ := (show ∃ t, u = Value.float y t from rx); cases q; exact PySem.W.kia_one PySem.W.kitx_float I.kIn True.intro e (fun z => nomatch z) h
  | @lst a xs ea =>
    cases (show u = Value.ref a from rx)
    obtain ⟨_, _, n, _, h1⟩ := (show ObjOk X.prog X.w H s.heap a (.lst xs) from I.hok a _ ea)
    exact PySem.W.kia_one PySem.W.kitx_list I.kIn ⟨_, h1, rfl⟩ e (fun z => nomatch z) h
  | @frz a ob xs ea =>
    cases (show u = Value.ref a from rx)
    obtain ⟨_, _, _, n, _, h1⟩ := (show ObjOk X.prog X.w H s.heap a (.frz ob (.lst xs)) from I.hok a _ ea)
    exact PySem.W.kia_one PySem.W.kitx_list I.kIn ⟨_, h1, rfl⟩ e (fun z => nomatch z) h
  | @tup a xs ea =>
    cases (show u = Value.ref a from rx)
    obtain ⟨_, _, _, p⟩ := (show ObjOk X.prog X.w H s.heap a (.tup xs) from I.hok a _ ea)
    obtain ⟨o, h1, h2, _⟩ := p
    exact PySem.W.kia_one PySem.W.kitx_tuple I.kIn ⟨o, h1, h2⟩ e (fun z => nomatch z) h
  | @dK a kvs ea =>
    cases (show u = Value.ref a from rx)
    obtain ⟨_, _, vs, _, p⟩ := (show ObjOk X.prog X.w H s.heap a (.dK kvs) from I.hok a _ ea)
    obtain ⟨o, es, ep, h1, h2, _⟩ := p
    exact PySem.W.kia_one PySem.W.kitx_dict I.kIn ⟨o, h1, h2.1⟩ e (fun z => nomatch z) h
  | @dT a kvs ea =>
    cases (show u = Value.ref a from rx)
    obtain ⟨_, _, xs, _, o, es, ep, h1, h2, _⟩ := (show ObjOk X.prog X.w H s.heap a (.dT kvs) from I.hok a _ ea)
    exact PySem.W.kia_one PySem.W.kitx_dict I.kIn ⟨o, h1, h2.1⟩ e (fun z => nomatch z) h
  | @ins a C dx fs ea cl ha hn htk hm =>
    cases (show u = Value.ref a from rx)
    obtain ⟨mA, O, _⟩ := ins_get I.hok ea
    obtain ⟨od, J, _⟩ := O.look
    exact PySem.W.kia_one (PySem.W.kitx_own (cl.get _) cl.hd ha hn htk hm) I.kIn J e (fun z => nomatch z) h
end
end L2

namespace L2
open PySem PySem.Spec PyProof.Rows

/-! ### room -/
structure Room (k : Nat) (A : Around) : Prop where
  hd : A.handled = none
  dp : A.depth + 3 * k + 5 < recursionLimit
  un : A.units + 16 * k + 200 < cLine
theorem Room.mono {j k : Nat} {A : Around} (r : Room k A) (h : j ≤ k) : Room j A := ⟨r.hd, by have := r.dp; omega, by have := r.un; omega⟩
theorem Room.deeper {k : Nat} {A : Around} (r : Room (k + 1) A) (env : Env) : Room k (A.deeper env) :=
  ⟨r.hd, by have := r.dp; show A.depth + 1 + 3 * k + 5 < _; omega, by have := r.un; show A.units + 3 + 16 * k + 200 < _; omega⟩
theorem Room.in1 {k : Nat} {A : Around} (r : Room (k + 1) A) : Room k A.in1 :=
  ⟨r.hd, by have := r.dp; show A.depth + 3 * k + 5 < _; omega, by have := r.un; show A.units + 1 + 16 * k + 200 < _; omega⟩
theorem Room.depth {k : Nat} {A : Around} (r : Room k A) : A.depth < recursionLimit := by have := r.dp; omega

/-! ### argument lists and displays -/
def tNil : TA := fun _ H Q => Q [] H
def tCons (ta : TE) (tr : TA) : TA := fun σ H Q => ta σ H fun x H1 => tr σ H1 fun xs H2 => Q (x :: xs) H2
section
variable {X : Cx} {e : Expr} {es : List Expr} {te : TE} {t : TA} {pos : Pos}
theorem pa_nil : PA X [] tNil := fun _ _ _ _ H Q I h => Calls.spliced_nil ⟨[], H, I, .nil, h⟩
theorem pa_cons (ha : PE X e te) (hr : PA X es t) (hs : starEach (e :: es) X.env = (false, eval e X.env) :: starEach es X.env := by rfl) : PA X (e :: es) (tCons te t) := by
  intro pos pins s σ H Q I h
  rw [hs]
  show wpAny _ _ (spliced ((false, eval e X.env) :: backTo pos (starEach es X.env))) _ _ s
  refine Calls.spliced_cons (thn (ha pins s σ H _ I h) fun u s1 ⟨x, H1, I1, r1, q1⟩ => ?_)
  exact thn (hr pos pins s1 σ H1 _ I1 q1) fun us s2 ⟨xs, H2, I2, r2, q2⟩ => ⟨x :: xs, H2, I2, .cons r1 r2, q2⟩

/-- a tuple, a list of written items -/
def tTup (t : TA) : TE := fun σ H Q => t σ H fun xs H1 => xs.length ≤ sizeLine ∧ ∀ p, H1 p = none → Q (.ref p) (upd H1 p (.tup xs))
def tLst (t : TA) : TE := fun σ H Q => t σ H fun xs H1 => xs.length ≤ sizeLine ∧ ∀ p, H1 p = none → Q (.ref p) (upd H1 p (.lst xs))
theorem pe_tup {x1} (h : PA X es t) : PE X (.Tuple es x1 pos) (tTup t) := by
  intro pins s σ H Q I hq
  refine wpAny_Tuple_spliced (thn (h pos pins s σ H _ I hq) fun us s1 ⟨xs, H1, I1, r, z, q⟩ => ⟨by rw [← r.length]; exact z, ?_⟩)
  have hf : H1 s1.heap.objs.size = none := I1.hok.fresh (Nat.le_refl _)
  refine ⟨.ref s1.heap.objs.size, upd H1 s1.heap.objs.size (.tup xs), I1.laid (t' := s1.toks) (fun b u e => Heap.get?_push_of_some _ e) (Nat.le_refl _) ?_, rfl, q _ hf⟩
  exact ⟨z, us, r, ⟨_, Heap.get?_push_size _ rfl, rfl, _, rfl⟩⟩
theorem pe_lst (h : PA X es t) : PE X (.List es pos) (tLst t) := by
  intro pins s σ H Q I hq
  refine wpAny_List_spliced (thn (h pos pins s σ H _ I hq) fun us s1 ⟨xs, H1, I1, r, z, q⟩ => ⟨by rw [← r.length]; exact z, ?_⟩)
  have hf : H1 s1.heap.objs.size = none := I1.hok.fresh (Nat.le_refl _)
  refine ⟨.ref s1.heap.objs.size, upd H1 s1.heap.objs.size (.lst xs), I1.laid (t' := s1.toks) (fun b u e => Heap.get?_push_of_some _ e) (Nat.le_refl _) ?_, rfl, q _ hf⟩
  exact ⟨z, us, 0, r, Heap.get?_push_size _ rfl⟩
end

/-! ### what a def promises -/
/-- a def's promise: the bound arguments in the parameters' order, the heap, the wanted end, the wanted exception -/
abbrev Sp := List V → Hp → VK → XK → Prop
/-- how an exception lies behind a call (file 08 gives it): the callers' frames, abstract heap and state ahead of the call, the wish, the exception, the state -/
abbrev CXT := List Env → Hp → Shared → XK → Value → Shared → Prop

/-- the state at a call -/
structure Env0 (P : Program) (w : World) (K : PySem.W.Frag) (mg : Str → Option Value) (base : Heap) (A : Around) (outer : List Env) (s : Shared) (H : Hp) : Prop where
  frames : A.frames = some outer
  mod : Mod K mg base
  bs : ∀ b o, base.get? b = some o → s.heap.get? b = some o ∧ H b = none
  bsz : base.objs.size ≤ s.heap.objs.size
  funs : s.heap.FunFrames base outer
  frf : ∀ b ∈ frs outer, H b = none
  hok : HOk P w H s.heap
  bare : AllBare s.gens
/-- a call's end -/
def CE (outer : List Env) (P : Program) (w : World) (H : Hp) (s : Shared) (Q : VK) (u : Value) (s' : Shared) : Prop :=
  ∃ v H', s'.os = s.os ∧ AllBare s'.gens ∧ Un (frs outer) [] H H' s.heap s'.heap ∧ HOk P w H' s'.heap ∧ RelV v u ∧ Q v H'
def CR (CX : CXT) (outer : List Env) (P : Program) (w : World) (H : Hp) (s : Shared) (Q : VK) (E : XK) (r : Result) (s' : Shared) : Prop :=
  match r with
  | .ok (.ret u) => CE outer P w H s Q u s'
  | .ok _ => False
  | .error e => CX outer H s E e s'
structure FnOk (P : Program) (w : World) (K : PySem.W.Frag) (mg : Str → Option Value) (base : Heap) (CX : CXT) (k : Nat) (f : Addr) (fd : FuncData) (ps : List Str) (sp : Sp) : Prop where
  len : ∀ vs H Q E, sp vs H Q E → vs.length = ps.length
  run : ∀ (A : Around) (outer : List Env) (s : Shared) (H : Hp) (args : Args) (us : List Value) (vs : List V) (Q : VK) (E : XK), Room k A → Env0 P w K mg base A outer s H → BindsTo s fd args (ps.zip us) → Vals vs us → sp vs H Q E →
    codeAny (model P w) A (.call (.ref f) args) (CR CX outer P w H s Q E) s
theorem FnOk.mono {P : Program} {w : World} {K : PySem.W.Frag} {mg : Str → Option Value} {base : Heap} {CX : CXT} {j k : Nat} {f : Addr} {fd : FuncData} {ps : List Str} {sp : Sp} (F : FnOk P w K mg base CX j f fd ps sp) (h : j ≤ k) :
    FnOk P w K mg base CX k f fd ps sp := ⟨F.len, fun A outer s H args us vs Q E hr => F.run A outer s H args us vs Q E (hr.mono h)⟩
/-- a weaker promise -/
theorem FnOk.imp {P : Program} {w : World} {K : PySem.W.Frag} {mg : Str → Option Value} {base : Heap} {CX : CXT} {k : Nat} {f : Addr} {fd : FuncData} {ps : List Str} {sp sp' : Sp} (F : FnOk P w K mg base CX k f fd ps sp)
    (h : ∀ vs H Q E, sp' vs H Q E → sp vs H Q E) : FnOk P w K mg base CX k f fd ps sp' :=
  ⟨fun vs H Q E q => F.len vs H Q E (h _ _ _ _ q), fun A outer s H args us vs Q E hr he hb hv hs => F.run A outer s H args us vs Q E hr he hb hv (h _ _ _ _ hs)⟩


section
variable {X : Cx} {pins : List (Addr × Obj)} {σ : St} {H : Hp} {s s' : Shared}
/-- from a body: what a callee wants -/
theorem Inv.env0 (I : Inv X pins σ H s) : Env0 X.prog X.w X.K X.mg X.base X.A X.stack s H :=
  ⟨I.ok.frames, I.ok.mod, I.bs, Nat.le_trans I.ok.bsz I.sz, I.stack, I.stkFree, I.hok, I.bare⟩
/-- behind a call -/
theorem Inv.after {Q : VK} {u : Value} (I : Inv X pins σ H s) (h : CE X.stack X.prog X.w H s Q u s') : EP X pins σ Q u s' := by
  obtain ⟨v, H', os, bare, un, hok, r, q⟩ := h
  obtain ⟨hh, g, d, t, os'⟩ := s'
  obtain rfl : os' = s.os := os
  exact ⟨v, H', I.call (h' := hh) (g' := g) (d' := d) (t' := t) (ch := []) un hok bare (fun b z => absurd z (by simp)), r, q⟩
end

/-! ### calls -/
/-- f(..): the written arguments, then the defaults dvs; E: what is wanted of an exception -/
def tCall (sp : Sp) (dvs : List V) (E : XK) (t : TA) : TE := fun σ H Q => t σ H fun vs H1 => sp (vs ++ dvs) H1 Q E

/-- how the parameters are bound: us the positional arguments, kw the keywords' values by name, ds the defaults that fill up -/
def Binds (K : PySem.W.Frag) (fd : FuncData) (ps : List Str) (ds : List Value) : Prop :=
  ∀ (s : Shared) (us : List Value), K.In s.heap → (us ++ ds).length = ps.length → BindsTo s fd ⟨us, []⟩ (ps.zip (us ++ ds))
/-- every parameter is given -/
theorem Binds.all {K : PySem.W.Frag} {fd : FuncData} {ps : List Str} (h : ∀ us : List Value, us.length = ps.length → bindArgs fd ⟨us, []⟩ = pure (ps.zip us)) : Binds K fd ps [] := fun s us _ hl => by
  rw [List.append_nil] at hl ⊢
  exact .of_eq (h us hl)

/-- an exception of a callee reaches what this body wants of exceptions -/
def Passes (CX : CXT) (X : Cx) (E : XK) : Prop := ∀ (pins : List (Addr × Obj)) (σ : St) (H : Hp) (s : Shared) (e : Value) (s' : Shared), Inv X pins σ H s → CX X.stack H s E e s' → X.xe e s'

section
variable {X : Cx} {CX : CXT} {k : Nat} {f C : Addr} {fd : FuncData} {ps : List Str} {sp : Sp} {dvs : List V} {ds : List Value} {E : XK} {x m : Str} {p pos apos : Pos} {e o : Expr} {es : List Expr} {ta : TE} {t : TA}

/-- the callee runs -/
theorem run_fn {pins : List (Addr × Obj)} {σ : St} {H : Hp} {s : Shared} {Q : VK} {us : List Value} {vs : List V} (F : FnOk X.prog X.w X.K X.mg X.base CX k f fd ps sp) (hr : Room k X.A) (hb : Binds X.K fd ps ds) (hd : Vals dvs ds) (hx : Passes CX X E)
    (I : Inv X pins σ H s) (r : Vals vs us) (h : sp (vs ++ dvs) H Q E) : wpAny (model X.prog X.w) X.A (call (.ref f) us) (EP X pins σ Q) X.xe s := by
  have r2 : Vals (vs ++ dvs) (us ++ ds) := r.append hd
  have hl : (us ++ ds).length = ps.length := by rw [← r2.length]; exact F.len _ _ _ _ h
  refine wpAny_call (codeAny_mono (F.run X.A X.stack s H ⟨us, []⟩ (us ++ ds) (vs ++ dvs) Q E hr I.env0 (hb s us I.kIn hl) r2 h) fun r s' hq => ?_)
  cases r with
  | error e => exact hx pins σ H s e s' I hq
  | ok fl =>
    cases fl with
    | ret u => exact I.after hq
    | next => exact False.elim hq
    | brk => exact False.elim hq
    | cont => exact False.elim hq

theorem pe_call (F : FnOk X.prog X.w X.K X.mg X.base CX k f fd ps sp) (hr : Room k X.A) (hg : Gl X x) (hm : X.mg x = some (.ref f)) (hk : PySem.W.keepIn X.K (.ref f) = true) (hb : Binds X.K fd ps ds) (hd : Vals dvs ds) (hx : Passes CX X E)
    (ha : PA X (e :: es) t) (hdb : (x == ("__debug__" : Str)) = false := by decide) (he : starEach (e :: es) X.env = (false, eval e X.env) :: starEach es X.env := by rfl) (hpl : (backTo pos (starEach es X.env)).any (·.1) = false := by rfl) :
    PE X (.Call (.Name x p) (e :: es) [] pos) (tCall sp dvs E t) := by
  intro pins s σ H Q I h
  refine wpAny_Call_Name_kw (ld_glob I hg hm ?_ hdb)
  refine PySem.W.callWith_K (h₀ := X.base) I.ok.mod.kin hk (thn (ha pos pins s σ H _ I h) fun us s1 ⟨vs, H1, I1, r, q⟩ => ⟨I1.kIn, ?_⟩) he hpl
  exact run_fn F hr hb hd hx I1 r q


/-- what a class must have to be made -/
structure Mk (K : PySem.W.Frag) (C f : Addr) : Prop where
  makes : PySem.W.makesIn K C = true
  init : PySem.W.findIn K (.ref C) "__init__" = some (some (.ref f))
  fn : PySem.W.isFn K (.ref f) = true
  kp : PySem.W.keepIn K (.ref C) = true

end

/-! ### keywords -/
section
variable {X : Cx} {CX : CXT} {k : Nat} {f C : Addr} {fd : FuncData} {ps ks : List Str} {sp : Sp} {E : XK} {x m : Str} {p pos apos kpos : Pos} {e o : Expr} {es : List Expr} {kws : List Keyword} {te ta : TE} {t tk : TA} {nm : Option Str}

/-- how a call with keywords binds: g puts the positional values us and the keywords' values ws (names ks) in the parameters' order, defaults among them -/
structure KBinds (K : PySem.W.Frag) (fd : FuncData) (ps ks : List Str) (g : List Value → List Value → List Value) (gV : List V → List V → List V) : Prop where
  to : ∀ (s : Shared) (us ws : List Value), K.In s.heap → (g us ws).length = ps.length → BindsTo s fd ⟨us, ks.zip ws⟩ (ps.zip (g us ws))
  rel : ∀ {vs : List V} {us : List Value} {zs : List V} {ws : List Value}, Vals vs us → Vals zs ws → Vals (gV vs zs) (g us ws)
variable {g : List Value → List Value → List Value} {gV : List V → List V → List V}
end

/-! ### a def's body keeps its promise -/
/-- names: the parameters first -/
structure FnScope (N P : List Str) (sc : Scope) : Prop where
  kind : sc.kind = .function
  co : sc.isCoroutine = false
  gen : sc.isGenerator = false
  nd : N.Nodup
  pre : N.take P.length = P
  par : ∀ x ∈ P, sc.names.lookup x = some .local ∨ sc.names.lookup x = some .cell
  nofree : ∀ y ∈ sc.names, y.2 ≠ .free

theorem bindL_out {kindOf : Str → Option NameKind} {x : Str} : ∀ {binds : List (Str × Value)} {m : Str → Option Value}, (∀ v, (x, v) ∉ binds) → bindL kindOf binds m x = m x
  | [], _, _ => rfl
  | (n, v) :: r, m, h => by
    unfold bindL
    rw [bindL_out fun w hw => h w (List.mem_cons_of_mem _ hw)]
    split
    · have : x ≠ n := by rintro rfl; exact h v List.mem_cons_self
      simp [this]
    · rfl
theorem bindC_out {kindOf : Str → Option NameKind} {x : Str} : ∀ {binds : List (Str × Value)} {m : Str → Option Value}, (∀ v, (x, v) ∉ binds) → bindC kindOf binds m x = m x
  | [], _, _ => rfl
  | (n, v) :: r, m, h => by
    unfold bindC
    rw [bindC_out fun w hw => h w (List.mem_cons_of_mem _ hw)]
    split
    · rfl
    · have : x ≠ n := by rintro rfl; exact h v List.mem_cons_self
      simp [this]
theorem bindL_get {kindOf : Str → Option NameKind} {x : Str} {v : Value} : ∀ {P : List Str} {vs : List Value} {i : Nat} {m : Str → Option Value}, P.Nodup → P[i]? = some x → vs[i]? = some v → kindOf x = some .local →
    bindL kindOf (P.zip vs) m x = some v
  | [], _, _, _, _, h, _, _ => by simp at h
  | _ :: _, [], _, _, _, _, h, _ => by simp at h
  | p :: P, w :: vs, 0, m, nd, h1, h2, hk => by
    simp at h1 h2; subst h1; subst h2
    show bindL kindOf ((p, w) :: P.zip vs) m p = _
    unfold bindL
    rw [bindL_out fun v hv => (List.nodup_cons.mp nd).1 (List.of_mem_zip hv).1, if_pos hk]
    simp
  | p :: P, w :: vs, i + 1, m, nd, h1, h2, hk => by
    show bindL kindOf ((p, w) :: P.zip vs) m x = _
    unfold bindL
    exact bindL_get (i := i) (List.nodup_cons.mp nd).2 (by simpa using h1) (by simpa using h2) hk
theorem bindC_get {kindOf : Str → Option NameKind} {x : Str} {v : Value} : ∀ {P : List Str} {vs : List Value} {i : Nat} {m : Str → Option Value}, P.Nodup → P[i]? = some x → vs[i]? = some v → kindOf x ≠ some .local →
    bindC kindOf (P.zip vs) m x = some v
  | [], _, _, _, _, h, _, _ => by simp at h
  | _ :: _, [], _, _, _, _, h, _ => by simp at h
  | p :: P, w :: vs, 0, m, nd, h1, h2, hk => by
    simp at h1 h2; subst h1; subst h2
    show bindC kindOf ((p, w) :: P.zip vs) m p = _
    unfold bindC
    rw [bindC_out fun v hv => (List.nodup_cons.mp nd).1 (List.of_mem_zip hv).1, if_neg hk]
    simp
  | p :: P, w :: vs, i + 1, m, nd, h1, h2, hk => by
    show bindC kindOf ((p, w) :: P.zip vs) m x = _
    unfold bindC
    exact bindC_get (i := i) (List.nodup_cons.mp nd).2 (by simpa using h1) (by simpa using h2) hk

/-- the names' values at the entry -/
def start (N : List Str) (vs : List V) : St := vs.map some ++ List.replicate (N.length - vs.length) none

/-- the context of a def's body, at its entry; an exception leaves the frame, then lies as CX says -/
def cxOf (CX : CXT) (P : Program) (w : World) (K : PySem.W.Frag) (mg : Str → Option Value) (base : Heap) (N : List Str) (qual : Str) (scope : Scope) (f : Addr) (cd : Value) (A : Around) (outer : List Env) (s : Shared) (H : Hp) (E : XK) : Cx where
  prog := P
  w := w
  K := K
  mg := mg
  base := base
  A := A.deeper (envOfC qual scope s.heap.objs.size f cd)
  N := N
  s₀ := s
  H₀ := H
  env := envOfC qual scope s.heap.objs.size f cd
  outer := outer
  stack := envOfC qual scope s.heap.objs.size f cd :: outer
  ex := []
  calm := true
  fn := fun _ => true
  pn := []
  xe := fun e s' => wpAny (model P w) (A.deeper (envOfC qual scope s.heap.objs.size f cd)) (leaving (envOfC qual scope s.heap.objs.size f cd) e) (fun _ s'' => CX outer H s E e s'') (fun e' s'' => CX outer H s E e' s'') s'

theorem cell_has {sc : Scope} {n : Nat} {x : Str} (h : sc.names.lookup x = some .cell) : ∃ c, (cellsFrom n sc.names []).lookup x = some c := by
  have q := PySem.W.cellsFrom_some sc.names n [] (.inl h)
  exact Option.isSome_iff_exists.mp q

theorem inv_start {CX : CXT} {P : Program} {w : World} {K : PySem.W.Frag} {mg : Str → Option Value} {base : Heap} {N ps : List Str} {qual : Str} {scope : Scope} {f : Addr} {cd : Value} {A : Around} {outer : List Env} {s s1 : Shared} {H : Hp} {E : XK} {us : List Value} {vs : List V}
    (S : FnScope N ps scope) (hd : A.handled = none) (e0 : Env0 P w K mg base A outer s H) (hl : vs.length = ps.length) (r : Vals vs us)
    (x : InCallC s s.heap.objs.size (bindL (envOfC qual scope s.heap.objs.size f cd).kindOf (ps.zip us) fun _ => none) (cellsFrom (s.heap.objs.size + 1) scope.names []) (bindC (envOfC qual scope s.heap.objs.size f cd).kindOf (ps.zip us) fun _ => none) s1) :
    Inv (cxOf CX P w K mg base N qual scope f cd A outer s H E) [] (start N vs) H s1 := by
  have hpl : ps.length ≤ N.length := by have := congrArg List.length S.pre; rw [List.length_take] at this; omega
  obtain ⟨h1, tk, rfl, hk⟩ := x.done
  have noA : ∀ b : Addr, b ∉ (cxOf CX P w K mg base N qual scope f cd A outer s H E).ex := fun b z => absurd (show b ∈ ([] : List Addr) from z) (by simp)
  refine ⟨⟨e0.mod, S.kind, rfl, rfl, Nat.le_refl _, fun y z c h1 h2 => ?_, fun y hy => ?_, fun y c _ h => ?_, fun _ => hd, Around.frames_deeper e0.frames, .inr ⟨rfl, rfl⟩, fun b z => absurd z (noA b), e0.bs, e0.bsz, fun b _ _ => noA b, fun b z => absurd z (noA b), e0.funs, e0.frf⟩,
    rfl, e0.bare, Un.kept hk, ⟨_, x.toInCall.ns, fun i y v h1 h2 h3 => ?_⟩, fun y c h => ⟨_, x.cell y c h⟩, e0.hok.fresh (Nat.le_refl _), fun y c h => ?_, fun p hp => absurd (show p ∈ ([] : List (Addr × Obj)) from hp) (by simp), e0.hok.kept hk, ?_⟩
  · exact name_of_addr x.apart (PySem.mem_of_lookup h1) (PySem.mem_of_lookup h2)
  · have hy : scope.names.lookup y = some .cell ∨ scope.names.lookup y = some .free := hy
    rcases hy with hy | hy
    · exact cell_has hy
    · exact absurd rfl (S.nofree _ (PySem.mem_of_lookup hy))
  · exact Nat.le_of_lt (x.above y c (PySem.mem_of_lookup h))
  · have hi : i < vs.length := by
      unfold start at h2
      by_cases hi : i < vs.length
      · exact hi
      · rw [List.getElem?_append_right (by simpa using hi)] at h2
        rw [List.getElem?_replicate] at h2
        split at h2 <;> cases h2
    have ha : vs[i]? = some v := by
      unfold start at h2
      rw [List.getElem?_append_left (by simpa using hi), List.getElem?_map] at h2
      cases e : vs[i]? with
      | none => rw [e] at h2; cases h2
      | some a => rw [e] at h2; cases h2; rfl
    obtain ⟨u, hu, rv⟩ := r.get ha
    have hp : ps[i]? = some y := by
      rw [← S.pre, List.getElem?_take_of_lt (by omega)]; exact h1
    have ndP : ps.Nodup := by rw [← S.pre]; exact S.nd.sublist (List.take_sublist _ _)
    refine ⟨u, rv, ?_⟩
    rcases S.par y (List.mem_of_getElem? hp) with k | k
    · exact .inl ⟨k, bindL_get ndP hp hu k⟩
    · obtain ⟨c, e⟩ := cell_has (n := s.heap.objs.size + 1) k
      refine .inr ⟨.inl k, c, e, ?_⟩
      have q := x.cell y c e
      rw [bindC_get ndP hp hu (by show scope.names.lookup y ≠ _; rw [k]; decide)] at q
      exact q
  · exact e0.hok.fresh (Nat.le_of_lt (x.above y c (PySem.mem_of_lookup h)))
  · unfold start
    show _ = N.length
    rw [List.length_append, List.length_map, List.length_replicate]
    omega

/-- THE RULE: a def (or a method) of the text, by its body. The body's reading t is chosen for each entry; it is run at the parameters' values -/
theorem fn_of {CX : CXT} {P : Program} {w : World} {K : PySem.W.Frag} {mg : Str → Option Value} {base : Heap} {k : Nat} {f : Addr} {name qual : Str} {params : Arguments} {body : List Stmt} {scope : Scope} {dV kV doc pm cdv ct oc : Value} {an od : Option Addr}
    {osl : Array (Option Value)} {N ps : List Str} {sp : Sp} (lk : K.lookup f = some ⟨oc, od, .func (PySem.W.fnOf name qual params body scope dV kV doc pm an cdv ct), osl⟩) (hcd : PySem.W.codeIn K cdv qual = true) (S : FnScope N ps scope)
    (len : ∀ vs H Q E, sp vs H Q E → vs.length = ps.length)
    (hbody : ∀ (A : Around) (outer : List Env) (s : Shared) (H : Hp) (vs : List V) (Q : VK) (E : XK), Room k (A.deeper (envOfC qual scope s.heap.objs.size f cdv)) → sp vs H Q E →
      ∃ t, PSs (cxOf CX P w K mg base N qual scope f cdv A outer s H E) body t ∧ t { nx := fun _ H' => Q .non H', rt := Q } (start N vs) H) :
    FnOk P w K mg base CX (k + 1) f (PySem.W.fnOf name qual params body scope dV kV doc pm an cdv ct) ps sp := by
  refine ⟨len, fun A outer s H args us vs Q E hr e0 hb r hsp => ?_⟩
  have hl := len _ _ _ _ hsp
  have KX : K.In s.heap := e0.mod.kin.keeps fun b o e => (e0.bs b o e).1
  have lim : s.heap.NoLimit := e0.mod.nolimit.keeps fun b o e => (e0.bs b o e).1
  have hkind : ∀ y ∈ ps.zip us, scope.names.lookup y.1 = some .local ∨ (scope.names.lookup y.1 = some .cell ∧ ((cellsFrom (s.heap.objs.size + 1) scope.names []).lookup y.1).isSome = true) := fun ⟨n, v⟩ hy => by
    rcases S.par n (List.of_mem_zip hy).1 with q | q
    · exact .inl q
    · exact .inr ⟨q, PySem.W.cellsFrom_some _ _ _ (.inl q)⟩
  refine codeAny_call_function hr.depth (KX _ _ lk) rfl S.co S.gen rfl (PySem.W.codeRec_of KX hcd) (hb _ _ _ _ ?_)
  refine wpAny_newFunctionEnv_cells S.kind hkind fun env he s1 x => ?_
  subst he
  refine ⟨lim.keeps x.toInCall.keep, codeAny_func ?_⟩
  obtain ⟨t, ht, hq⟩ := hbody A outer s H vs Q E (hr.deeper _) hsp
  have I : Inv (cxOf CX P w K mg base N qual scope f cdv A outer s H E) [] (start N vs) H s1 := inv_start S hr.hd e0 hl r x
  refine wpAny_mono (ht [] s1 (start N vs) H _ I hq) (fun fl s' hs => ?_) fun e s' hs => hs
  have fin : ∀ {σ' : St} {H' : Hp} {v : V} {u : Value}, Inv (cxOf CX P w K mg base N qual scope f cdv A outer s H E) [] σ' H' s' → RelV v u → Q v H' → CE outer P w H s Q u s' :=
    fun {σ' H' v u} J rv q => ⟨v, H', J.os, J.bare, J.base, J.hok, rv, q⟩
  cases fl with
  | ret u =>
    obtain ⟨v, σ', H', J, rv, q⟩ := hs
    exact fin J rv q
  | next =>
    obtain ⟨σ', H', J, q⟩ := hs
    exact fin (v := V.non) (u := Value.none) J rfl q
  | brk =>
    obtain ⟨_, _, _, q⟩ := hs
    exact False.elim q
  | cont =>
    obtain ⟨_, _, _, q⟩ := hs
    exact False.elim q
end L2

namespace L2
open PySem PySem.Spec PyProof.Rows
section
variable {X : Cx} {x : Str} {p pos : Pos} {e : Expr} {es : List Expr} {t : TA} {id T : String} {r : List V → Hp → VK → Prop}

def tCB (r : List V → Hp → VK → Prop) (t : TA) : TE := fun σ H Q => t σ H fun vs H1 => r vs H1 Q
/-- f(e, ..), f a built-in function -/
theorem pe_callB (hc : CallR X (.builtin id) r) (hg : Gl X x) (hm : X.mg x = none) (hv : bootBuiltins x = some (.builtin id)) (ha : PA X (e :: es) t) (hn : x ≠ "__name__" := by decide) (hdb : (x == ("__debug__" : Str)) = false := by decide)
    (he : starEach (e :: es) X.env = (false, eval e X.env) :: starEach es X.env := by rfl) (hpl : (backTo pos (starEach es X.env)).any (·.1) = false := by rfl) : PE X (.Call (.Name x p) (e :: es) [] pos) (tCB r t) := by
  intro pins s σ H Q I h
  refine wpAny_Call_Name_kw (ld_blt I hg hm hv ?_ hn hdb)
  exact PyProof.Rows.callWith_builtin1 (thn (ha pos pins s σ H _ I h) fun us s1 ⟨vs, H1, I1, r1, q1⟩ => hc pins s1 σ H1 vs us Q I1 r1 q1) he hpl
/-- T(e, ..), T a built-in type -/
theorem pe_callTy (hc : CallR X (.type T) r) (hg : Gl X x) (hm : X.mg x = none) (hv : bootBuiltins x = some (.type T)) (ha : PA X (e :: es) t) (hn : x ≠ "__name__" := by decide) (hdb : (x == ("__debug__" : Str)) = false := by decide)
    (he : starEach (e :: es) X.env = (false, eval e X.env) :: starEach es X.env := by rfl) (hpl : (backTo pos (starEach es X.env)).any (·.1) = false := by rfl) : PE X (.Call (.Name x p) (e :: es) [] pos) (tCB r t) := by
  intro pins s σ H Q I h
  refine wpAny_Call_Name_kw (ld_blt I hg hm hv ?_ hn hdb)
  exact PyProof.Rows.callWith_type1 (thn (ha pos pins s σ H _ I h) fun us s1 ⟨vs, H1, I1, r1, q1⟩ => hc pins s1 σ H1 vs us Q I1 r1 q1) he hpl
end
end L2

namespace HT
open PySem PyProof.Rows



section
open PySem.SeqAt
open PySem.AutoSeq1 (wpAny_loadPart')
open PySem.MeetsSeq PySem.MeetsSeq2 PySem.MeetsSeq3

end

section
variable {prog : Program} {w : World} {A : Around} {E : Value → Shared → Prop} {s : Shared}



/-! ### t[a:b], not the whole -/
/-- a slice's bound as a place among n (d where it is left out) -/
def sIx (n d : Nat) : Option Int → Nat
  | none => d
  | some v => if v < 0 then (v + (n : Int)).toNat else min v.toNat n
theorem sIx_none (n d : Nat) : sIx n d none = d := rfl
theorem sIx_nat (n d k : Nat) : sIx n d (some (k : Int)) = min k n := by
  show (if (k : Int) < 0 then ((k : Int) + (n : Int)).toNat else min (k : Int).toNat n) = min k n
  rw [if_neg (by omega), Int.toNat_natCast]

end
end HT

namespace L2
open PySem PySem.Spec PyProof.Rows

/-! ### the parts of a slice -/
abbrev TO := St → Hp → (Option Int → Hp → Prop) → Prop
/-- a slice's part (left out, or an int) -/
def PO (X : Cx) (e : Option Expr) (t : TO) : Prop :=
  ∀ (pins : List (Addr × Obj)) (s : Shared) (σ : St) (H : Hp) (Q : Option Int → Hp → Prop), Inv X pins σ H s → t σ H Q →
    wpAny (model X.prog X.w) X.A (evalPart e X.env) (fun u s' => ∃ o H', Inv X pins σ H' s' ∧ IsPart u o ∧ Q o H') X.xe s
def tNoPart : TO := fun _ H Q => Q none H
def tPart (t : TE) : TO := fun σ H Q => t σ H fun x H1 => ∃ i, x = .int i ∧ Q (some i) H1

theorem intsAre_of {ns : List Int} : ∀ {us : List Value}, Vals (ns.map V.int) us → IntsAre us ns := by
  induction ns with
  | nil => intro us r; rw [List.map_nil] at r; cases r; exact .nil
  | cons n ns ih =>
    intro us r
    rw [List.map_cons] at r
    cases r with
    | cons r1 r2 =>
      obtain ⟨t, e⟩ := r1
      subst e
      exact .cons n t (ih r2)

section
variable {X : Cx} {e : Expr} {te : TE} {lo hi : Option Expr} {tl th : TO} {pos p2 : Pos}

theorem po_none : PO X none tNoPart := by
  intro pins s σ H Q I h
  rw [evalPart_none]
  exact wpAny_pure ⟨none, H, I, .none, h⟩
theorem po_some (h : PE X e te) : PO X (some e) (tPart te) := by
  intro pins s σ H Q I hw
  rw [evalPart_some]
  refine thn (h pins s σ H _ I hw) fun u s1 ⟨x, H1, I1, r1, q1⟩ => ?_
  obtain ⟨i, rfl, q⟩ := q1
  obtain ⟨t, rfl⟩ := r1
  exact ⟨some i, H1, I1, .int i t, q⟩

/-- what a slice of a value is, by values: the slice object stands at sl -/
def SlR (X : Cx) (r : V → Option Int → Option Int → Hp → VK → Prop) : Prop :=
  ∀ (pins : List (Addr × Obj)) (s : Shared) (σ : St) (H : Hp) (x : V) (v vl vu : Value) (lo hi : Option Int) (sl : Addr) (Q : VK), Inv X pins σ H s → RelV x v → s.heap.IsSliceOf sl vl vu .none → IsPart vl lo → IsPart vu hi → r x lo hi H Q →
    ∃ T id, typeLookup (.type T) "__getitem__" = pure (some (.builtin id)) ∧ s.TypeIs v T ∧ wpAny (model X.prog X.w) X.A (getItem v (.ref sl)) (EP X pins σ Q) X.xe s
def tSl (r : V → Option Int → Option Int → Hp → VK → Prop) (te : TE) (tl th : TO) : TE := fun σ H Q => te σ H fun x H1 => tl σ H1 fun l H2 => th σ H2 fun u H3 => r x l u H3 Q
/-- a[lo:hi], any a -/
theorem pe_slice {r : V → Option Int → Option Int → Hp → VK → Prop} (hr : SlR X r) (he : PE X e te) (hl : PO X lo tl) (hu : PO X hi th) : PE X (.Subscript e (.Slice lo hi none p2) pos) (tSl r te tl th) := by
  intro pins s σ H Q I h
  refine Subscript_ (thn (he pins s σ H _ I h) fun v s1 ⟨x, H1, I1, r1, q1⟩ => ?_)
  refine wpAny_Slice (thn (hl pins s1 σ H1 _ I1 q1) fun vl s2 ⟨l, H2, I2, pl, q2⟩ => thn (hu pins s2 σ H2 _ I2 q2) fun vu s3 ⟨u, H3, I3, pu, q3⟩ => ?_)
  rw [evalPart_none]
  refine wpAny_pure ?_
  have I4 : Inv X pins σ H3 { s3 with heap := s3.heap.push { cls := .type "slice", data := .fields #[vl, vu, .none] } } := I3.kept (t' := s3.toks) fun b ob q => Heap.get?_push_of_some _ q
  obtain ⟨T, id, hT, ht, hg⟩ := hr pins { s3 with heap := s3.heap.push { cls := .type "slice", data := .fields #[vl, vu, .none] } } σ H3 x v vl vu l u s3.heap.objs.size Q I4 r1 (Heap.IsSliceOf.new ..) pl pu q3
  show wpAny (model X.prog X.w) X.A (subscriptTail e (.Slice lo hi none p2) v (.ref s3.heap.objs.size)) (EP X pins σ Q) X.xe { s3 with heap := s3.heap.push { cls := .type "slice", data := .fields #[vl, vu, .none] } }
  exact tail_any (ops := [.ref s3.heap.objs.size, v]) ht hT hg (by with_unfolding_all rfl)

/-- the items of xs[lo:hi] -/
def cutV (xs : List V) (lo hi : Option Int) : List V := (xs.drop (HT.sIx xs.length 0 lo)).take (HT.sIx xs.length xs.length hi - HT.sIx xs.length 0 lo)
theorem cutV_length (xs : List V) (lo hi : Option Int) : (cutV xs lo hi).length ≤ xs.length := by
  unfold cutV
  rw [List.length_take, List.length_drop]
  omega

/-! ### t < u, t + u -/
end
end L2

namespace L2
open PySem PySem.Spec PyProof.Rows

/-! ### places -/
/-- the place that an index of any sign means -/
def ixN (n : Nat) (i : Int) : Option Nat := if 0 ≤ i then (if i < n then some i.toNat else none) else if -(n : Int) ≤ i then some (i + n).toNat else none
def atI {α : Type} (xs : List α) (i : Int) : Option α := (ixN xs.length i).bind fun j => xs[j]?
theorem ixN_seq {n : Nat} {i : Int} {j : Nat} (h : ixN n i = some j) : seqIndex? i n = some j ∧ j < n ∧ -(n : Int) ≤ i ∧ i < n := by
  unfold ixN at h
  by_cases h0 : 0 ≤ i
  · rw [if_pos h0] at h
    by_cases h1 : i < n
    · rw [if_pos h1] at h
      have e : i.toNat = j := Option.some.inj h
      exact ⟨by rw [seqIndex_of h0 h1, e], by omega, by omega, h1⟩
    · rw [if_neg h1] at h; cases h
  · rw [if_neg h0] at h
    by_cases h1 : -(n : Int) ≤ i
    · rw [if_pos h1] at h
      have e : (i + n).toNat = j := Option.some.inj h
      exact ⟨by rw [seqIndex_neg (by omega) h1, e], by omega, h1, by omega⟩
    · rw [if_neg h1] at h; cases h
theorem atI_get {α : Type} {xs : List α} {i : Int} {v : α} (h : atI xs i = some v) : ∃ j, seqIndex? i xs.length = some j ∧ xs[j]? = some v ∧ j < xs.length ∧ -(xs.length : Int) ≤ i ∧ i < xs.length := by
  unfold atI at h
  cases e : ixN xs.length i with
  | none => rw [e] at h; cases h
  | some j =>
    rw [e] at h
    obtain ⟨h1, h2, h3, h4⟩ := ixN_seq e
    exact ⟨j, h1, h, h2, h3, h4⟩
theorem atI_nat {α : Type} {xs : List α} {j : Nat} {v : α} (h : xs[j]? = some v) : atI xs (j : Int) = some v := by
  have hj : j < xs.length := (List.getElem?_eq_some_iff.mp h).1
  have e : ixN xs.length (j : Int) = some j := by
    unfold ixN
    rw [if_pos (by omega), if_pos (by omega)]; simp
  unfold atI; rw [e]; exact h

/-! ### what may be subscripted -/
/-- what stands as an index of a plain subscript -/
def PlainIx (b : Expr) : Prop := ∀ o i, subscripted b false o i = operate [o, i] (getItem o i)
/-- a subscript by values -/
def IxR (X : Cx) (r : R2) : Prop :=
  ∀ (value slice : Expr) (pins : List (Addr × Obj)) (s : Shared) (σ : St) (H : Hp) (x y : V) (v u : Value) (Q : VK), Inv X pins σ H s → RelV x v → RelV y u → r x y H Q →
    subscripted slice false v u = operate [v, u] (getItem v u) → wpAny (model X.prog X.w) X.A (subscriptTail value slice v u) (EP X pins σ Q) X.xe s
/-- a call of a builtin's method by values: the receiver, the arguments -/
def MtR (X : Cx) (id : String) (r : V → List V → Hp → VK → Prop) : Prop :=
  ∀ (pins : List (Addr × Obj)) (s : Shared) (σ : St) (H : Hp) (x : V) (xs : List V) (v : Value) (us : List Value) (Q : VK), Inv X pins σ H s → RelV x v → Vals xs us → r x xs H Q →
    wpAny (model X.prog X.w) X.A (call (.builtin id) (v :: us)) (EP X pins σ Q) X.xe s
section
variable {X : Cx} {a b : Expr} {ta tb : TE} {pos : Pos}
/-- a[b] -/
theorem pe_ix {r : R2} (hr : IxR X r) (ha : PE X a ta) (hb : PE X b tb) (hs : PlainIx b) : PE X (.Subscript a b pos) (tOp r ta tb) := by
  intro pins s σ H Q I h
  exact Subscript_ (binT ha hb I h fun v u s2 x y H2 I2 rx ry q => hr a b pins s2 σ H2 x y v u Q I2 rx ry q (hs _ _))

def rIxL (K : PySem.W.Frag) : R2 := fun x y H Q => ∃ p xs i v, x = .ref p ∧ y = .int i ∧ SqL K H p xs ∧ atI xs i = some v ∧ Q v H
def rIxT (K : PySem.W.Frag) : R2 := fun x y H Q => ∃ p xs i v, x = .ref p ∧ y = .int i ∧ SqT K H p xs ∧ atI xs i = some v ∧ Q v H
def rIxS : R2 := fun x y H Q => ∃ z i c, x = .str z ∧ y = .int i ∧ z.length ≤ sizeLine ∧ atI z.cps.toList i = some c ∧ Q (.str ⟨#[c]⟩) H
theorem ix_list : IxR X (rIxL X.K) := by
  intro value slice pins s σ H x y v u Q I rx ry h hs
  obtain ⟨p, xs, i, z, rfl, rfl, hq, he, q⟩ := h
  cases rx
  obtain ⟨t, rfl⟩ := ry
  obtain ⟨its, r, pl, hz⟩ := I.list hq
  obtain ⟨j, h1, h2, h3, h4, h5⟩ := atI_get he
  obtain ⟨w, ew, rw'⟩ := r.get h2
  have hl := r.length
  have hn := line63
  have fin : EP X pins σ Q w s := ⟨z, H, I, rw', q⟩
  by_cases h0 : 0 ≤ i
  · have hj : i.toNat = j := by
      rw [seqIndex_of h0 h5] at h1
      exact Option.some.inj h1
    exact item_listR pl.isList h0 (by omega) (by rw [hj]; simpa using ew) fin hs
  · have hj : (i + (its.toArray.size : Int)).toNat = j := by
      rw [seqIndex_neg (by omega) h4] at h1
      rw [List.size_toArray, ← hl]
      exact Option.some.inj h1
    exact subscriptTail_builtinR (x := w) pl.isList.typeIs slot_list_getitem.lookup
      (wpAny_getItem_list_neg (Q := fun r s' => r = w ∧ EP X pins σ Q r s') pl.isList (by omega) (by rw [List.size_toArray] <;> omega) (by omega) (by rw [hj]; simpa using ew) ⟨rfl, fin⟩) hs
theorem ix_tup : IxR X (rIxT X.K) := by
  intro value slice pins s σ H x y v u Q I rx ry h hs
  obtain ⟨p, xs, i, z, rfl, rfl, hq, he, q⟩ := h
  cases rx
  obtain ⟨t, rfl⟩ := ry
  obtain ⟨its, r, pl, hz⟩ := I.tuple hq
  obtain ⟨j, h1, h2, h3, h4, h5⟩ := atI_get he
  obtain ⟨w, ew, rw'⟩ := r.get h2
  have hl := r.length
  have hn := line63
  have fin : EP X pins σ Q w s := ⟨z, H, I, rw', q⟩
  exact subscriptTail_builtinR (x := w) pl.typeIs slot_tuple_getitem.lookup
    (getItem_tuple (j := j) (Q := fun r s' => r = w ∧ EP X pins σ Q r s') pl (by omega) (by omega) (by rw [List.size_toArray, ← hl]; exact h1) (by simpa using ew) ⟨rfl, fin⟩) hs
theorem ix_str : IxR X rIxS := by
  intro value slice pins s σ H x y v u Q I rx ry h hs
  obtain ⟨z, i, c, rfl, rfl, hz, he, q⟩ := h
  obtain ⟨t, rfl⟩ := rx
  obtain ⟨t', rfl⟩ := ry
  obtain ⟨j, h1, h2, h3, h4, h5⟩ := atI_get he
  have hl : z.cps.toList.length = z.length := by simp [Str.length]
  rw [hl] at h1 h4 h5
  have hn := line63
  exact tail_any (typeIs_str s z t) slot_str_getitem.lookup (getItem_str (c := c) (by
    have e1 : decide (i < -(2 ^ 63 : Int)) = false := decide_eq_false (by omega)
    have e2 : decide (i ≥ 2 ^ 63) = false := decide_eq_false (by omega)
    rw [e1, e2, Bool.or_false]) (by rw [h1]; simpa using h2) ⟨.str ⟨#[c]⟩, H, I.tok _, ⟨_, rfl⟩, q⟩) hs

/-! ### xs[i] = v, any sign -/
/-- the list's object behind a store -/
theorem mapSeq_set (its : List Value) (n j : Nat) (u : Value) : Obj.mapSeq (·.setIfInBounds j u) { cls := .type "list", data := .seq its.toArray n } = { cls := .type "list", data := .seq (its.set j u).toArray n } := by
  simp [Obj.mapSeq]
theorem Inv.lst {pins : List (Addr × Obj)} {σ : St} {H : Hp} {s : Shared} {p : Addr} {xs : List V} (I : Inv X pins σ H s) (h : H p = some (.lst xs)) :
    ∃ (its : List Value) (n : Nat), Vals xs its ∧ s.heap.get? p = some { cls := .type "list", data := .seq its.toArray n } ∧ xs.length ≤ sizeLine := by
  obtain ⟨z, its, n, r, e⟩ := I.hok p _ h
  exact ⟨its, n, r, e, z⟩
/-- the list at p is written by an update of its object -/
theorem Inv.lstUpd {pins : List (Addr × Obj)} {σ : St} {H : Hp} {s : Shared} {p : Addr} {xs ys : List V} {its its' : List Value} {n n' : Nat} {f : Obj → Obj} (I : Inv X pins σ H s) (h : H p = some (.lst xs))
    (ho : s.heap.get? p = some { cls := .type "list", data := .seq its.toArray n }) (hf : f { cls := .type "list", data := .seq its.toArray n } = { cls := .type "list", data := .seq its'.toArray n' }) (r : Vals ys its') (hz : ys.length ≤ sizeLine) (t : Nat) :
    Inv X pins σ (upd H p (.lst ys)) { s with heap := s.heap.update p f, toks := t } := by
  have e : (s.heap.update p f).get? p = some { cls := .type "list", data := .seq its'.toArray n' } := by
    rw [Heap.get?_update_self f ho (by rw [hf] <;> rfl), hf]
  refine I.write (x := p) (e := p) (by rw [h]; trivial) (.inl rfl) (fun b u hb q => (Heap.get?_update_other _ _ (Ne.symm hb)).trans q) ⟨_, e⟩ ?_
  exact ⟨hz, its', n', r, e⟩
def rSetL : V → V → V → Hp → (Hp → Prop) → Prop := fun o i v H Q => ∃ p xs k j, o = .ref p ∧ i = .int k ∧ H p = some (.lst xs) ∧ ixN xs.length k = some j ∧ Q (upd H p (.lst (xs.set j v)))
theorem set_list : PSet X rSetL := by
  intro pins s σ H o i v ov iv u Q I ro ri rv h
  obtain ⟨p, xs, k, j, rfl, rfl, hp, hj, q⟩ := h
  cases ro
  obtain ⟨t, rfl⟩ := ri
  obtain ⟨its, n, r, ho, hz⟩ := I.lst hp
  obtain ⟨h1, h2, h3, h4⟩ := ixN_seq hj
  have hl := r.length
  have hn := line63
  have I' : Inv X pins σ (upd H p (.lst (xs.set j v))) { s with heap := s.heap.update p (Obj.mapSeq (·.setIfInBounds j u)) } :=
    I.lstUpd hp ho (mapSeq_set its n j u) (r.set rv j) (by rw [List.length_set]; exact hz) s.toks
  by_cases h0 : 0 ≤ k
  · have hk : k.toNat = j := by
      rw [seqIndex_of h0 h4] at h1
      exact Option.some.inj h1
    exact PySem.W.ki_setAt ho h0 (by omega) (by rw [List.size_toArray, ← hl]; exact h4) (by rw [hk]; exact ⟨_, I', q⟩)
  · have hk : (k + (its.toArray.size : Int)).toNat = j := by
      rw [seqIndex_neg (by omega) h3] at h1
      rw [List.size_toArray, ← hl]
      exact Option.some.inj h1
    exact PySem.W.ki_setBack ho (by omega) (by rw [List.size_toArray, ← hl]; exact h3) (by omega) (by rw [hk]; exact ⟨_, I', q⟩)

/-! ### slices -/
theorem slice_bounds (lo hi : Option Int) (n : Nat) : (sliceBounds lo hi none n).1 = ((HT.sIx n 0 lo : Nat) : Int) ∧ (sliceBounds lo hi none n).2.1 = ((HT.sIx n n hi : Nat) : Int) ∧ (sliceBounds lo hi none n).2.2 = 1 := by
  refine ⟨?_, ?_, rfl⟩
  · cases lo with
    | none => simp [sliceBounds, HT.sIx]
    | some i =>
      simp only [sliceBounds, HT.sIx, Option.getD_none, show (1 : Int) > 0 by decide, if_true]
      by_cases h : i < 0
      · simp only [h, if_true] <;> omega
      · simp only [h, if_false] <;> omega
  · cases hi with
    | none => simp [sliceBounds, HT.sIx]
    | some i =>
      simp only [sliceBounds, HT.sIx, Option.getD_none, show (1 : Int) > 0 by decide, if_true]
      by_cases h : i < 0
      · simp only [h, if_true] <;> omega
      · simp only [h, if_false] <;> omega
theorem slicePick_cut (its : List Value) (lo hi : Option Int) : slicePick its.toArray lo hi none = ((its.drop (HT.sIx its.length 0 lo)).take (HT.sIx its.length its.length hi - HT.sIx its.length 0 lo)).toArray := by
  obtain ⟨h1, h2, h3⟩ := slice_bounds lo hi its.toArray.size
  unfold slicePick
  rw [h1, h2, h3]
  simp only [sliceRange_one, pick_run, List.size_toArray] <;> rfl
/-- xs[lo:hi] of a list: a new list -/
def rSlL (K : PySem.W.Frag) : V → Option Int → Option Int → Hp → VK → Prop := fun x lo hi H Q => ∃ a xs, x = .ref a ∧ SqL K H a xs ∧ ∀ p, H p = none → Q (.ref p) (upd H p (.lst (cutV xs lo hi)))
theorem sl_list : SlR X (rSlL X.K) := by
  intro pins s σ H x v vl vu lo hi sl Q I rx hs pl pu h
  obtain ⟨a, xs, rfl, hx, q⟩ := h
  cases rx
  obtain ⟨its, r, ht, hz⟩ := I.list hx
  have hlen := r.length
  refine ⟨"list", _, slot_list_getitem.lookup, ht.isList.typeIs, ?_⟩
  refine wpAny_getItem_list_slice ht.isList hs pl pu .none (by simp) ?_ (by rw [List.size_toArray] <;> omega)
  rw [slicePick_cut, ← hlen]
  refine ⟨.ref s.heap.objs.size, _, I.laid (t' := s.toks) (o := .lst (cutV xs lo hi)) (fun b ob q => Heap.get?_push_of_some _ q) (Nat.le_refl _) ?_, rfl, q _ (I.hok.fresh (Nat.le_refl _))⟩
  exact ⟨Nat.le_trans (cutV_length xs lo hi) hz, _, 0, (r.drop (HT.sIx xs.length 0 lo)).take (HT.sIx xs.length xs.length hi - HT.sIx xs.length 0 lo), Heap.get?_push_size _ rfl⟩

/-! ### in, not in: flat items -/
def flatV : V → Bool
  | .non => true
  | .bl _ => true
  | .int _ => true
  | .str _ => true
  | _ => false
/-- == of flat values -/
def eqV : V → V → Bool
  | .non, .non => true
  | .bl a, .bl b => a == b
  | .bl a, .int b => (if a then 1 else 0) == b
  | .int a, .bl b => a == (if b then 1 else 0)
  | .int a, .int b => a == b
  | .str a, .str b => a == b
  | _, _ => false
theorem eqAt_V {A : Around} {s : Shared} {y x : V} {u v : Value} (ry : RelV y u) (rx : RelV x v) (fy : flatV y = true) (fx : flatV x = true) : SeqAt.EqAt A s u v (eqV y x) := by
  cases y with
  | non =>
    cases ry
    cases x with
    | non => cases rx; exact SeqAt.EqAt.same _
    | bl b => cases rx; exact SeqAt.EqAt.none_bool b
    | int b => obtain ⟨t, rfl⟩ := rx; exact SeqAt.EqAt.none_int b t
    | str b => obtain ⟨t, rfl⟩ := rx; exact SeqAt.EqAt.none_str b t
    | _ => exact absurd (show false = true from fx) Bool.false_ne_true
  | bl a =>
    cases ry
    cases x with
    | non => cases rx; exact SeqAt.EqAt.bool_none a
    | bl b => cases rx; exact SeqAt.EqAt.bool_bool a b
    | int b => obtain ⟨t, rfl⟩ := rx; exact SeqAt.EqAt.bool_int a b t
    | str b => obtain ⟨t, rfl⟩ := rx; exact SeqAt.EqAt.bool_str a b t
    | _ => exact absurd (show false = true from fx) Bool.false_ne_true
  | int a =>
    obtain ⟨t', rfl⟩ := ry
    cases x with
    | non => cases rx; exact SeqAt.EqAt.int_none a t'
    | bl b => cases rx; exact SeqAt.EqAt.int_bool a t' b
    | int b => obtain ⟨t, rfl⟩ := rx; exact SeqAt.EqAt.int_int a t' b t
    | str b => obtain ⟨t, rfl⟩ := rx; exact SeqAt.EqAt.int_str a t' b t
    | _ => exact absurd (show false = true from fx) Bool.false_ne_true
  | str a =>
    obtain ⟨t', rfl⟩ := ry
    cases x with
    | non => cases rx; exact SeqAt.EqAt.str_none a t'
    | bl b => cases rx; exact SeqAt.EqAt.str_bool a t' b
    | int b => obtain ⟨t, rfl⟩ := rx; exact SeqAt.EqAt.str_int a t' b t
    | str b => obtain ⟨t, rfl⟩ := rx; exact SeqAt.EqAt.str_str a t' b t
    | _ => exact absurd (show false = true from fx) Bool.false_ne_true
  | _ => exact absurd (show false = true from fy) Bool.false_ne_true
/-- the items' answers, read off the values (a value's own answer does not lean on its token) -/
def eqU (x : V) (u : Value) : Bool := match u with
  | .none => eqV .non x
  | .bool b => eqV (.bl b) x
  | .int i _ => eqV (.int i) x
  | .str z _ => eqV (.str z) x
  | _ => false
theorem eqU_of {x y : V} {u : Value} (r : RelV y u) (f : flatV y = true) : eqU x u = eqV y x := by
  cases y with
  | non => cases r; rfl
  | bl b => cases r; rfl
  | int i => obtain ⟨t, rfl⟩ := r; rfl
  | str z => obtain ⟨t, rfl⟩ := r; rfl
  | _ => exact absurd (show false = true from f) Bool.false_ne_true
theorem any_eqU {x : V} : ∀ {xs : List V} {us : List Value}, Vals xs us → xs.all flatV = true → us.any (eqU x) = xs.any fun y => eqV y x
  | _, _, .nil, _ => rfl
  | y :: xs, u :: us, .cons r t, f => by
    rw [List.all_cons, Bool.and_eq_true] at f
    rw [List.any_cons, List.any_cons, eqU_of r f.1, any_eqU t f.2]
theorem mem_eqAt {A : Around} {s : Shared} {x : V} {v : Value} (rx : RelV x v) (fx : flatV x = true) : ∀ {xs : List V} {us : List Value}, Vals xs us → xs.all flatV = true → ∀ u ∈ us, SeqAt.EqAt A s u v (eqU x u)
  | _, _, .nil, _ => fun u hu => by cases hu
  | y :: xs, u :: us, .cons r t, f => fun u' hu => by
    rw [List.all_cons, Bool.and_eq_true] at f
    rcases List.mem_cons.mp hu with rfl | hu
    · rw [eqU_of r f.1]; exact eqAt_V r rx f.1 fx
    · exact mem_eqAt rx fx t f.2 u' hu
def inV (x : V) (xs : List V) : Bool := xs.any fun y => eqV y x
/-- x in a list or tuple of flat items -/
def rIn (K : PySem.W.Frag) (neg : Bool) : R2 := fun x y H Q => ∃ p xs, y = .ref p ∧ (SqL K H p xs ∨ SqT K H p xs) ∧ flatV x = true ∧ xs.all flatV = true ∧ Q (.bl (if neg then !inV x xs else inV x xs)) H
theorem op_in_seq : OpR X (compareOp .In) (rIn X.K false) := by
  intro pins s σ H x y v u Q I rx ry h
  obtain ⟨p, xs, rfl, hq, fx, fs, q⟩ := h
  cases ry
  rcases hq with hq | hq
  · obtain ⟨its, r, pl, hz⟩ := I.list hq
    refine SeqAt.in_listAt (eqU x) pl.isList (fun w hw => mem_eqAt rx fx r fs w (by simpa using hw)) ⟨.bl _, H, I, rfl, ?_⟩
    rw [show its.toArray.any (eqU x) = its.any (eqU x) by simp, any_eqU r fs]
    exact q
  · obtain ⟨its, r, pl, hz⟩ := I.tuple hq
    refine SeqAt.in_tupleAt (eqU x) pl (fun w hw => mem_eqAt rx fx r fs w (by simpa using hw)) ⟨.bl _, H, I, rfl, ?_⟩
    rw [show its.toArray.any (eqU x) = its.any (eqU x) by simp, any_eqU r fs]
    exact q
theorem op_notIn_seq : OpR X (compareOp .NotIn) (rIn X.K true) := by
  intro pins s σ H x y v u Q I rx ry h
  obtain ⟨p, xs, rfl, hq, fx, fs, q⟩ := h
  cases ry
  rcases hq with hq | hq
  · obtain ⟨its, r, pl, hz⟩ := I.list hq
    refine SeqAt.notIn_listAt (eqU x) pl.isList (fun w hw => mem_eqAt rx fx r fs w (by simpa using hw)) ⟨.bl _, H, I, rfl, ?_⟩
    rw [show its.toArray.any (eqU x) = its.any (eqU x) by simp, any_eqU r fs]
    exact q
  · obtain ⟨its, r, pl, hz⟩ := I.tuple hq
    refine SeqAt.notIn_tupleAt (eqU x) pl (fun w hw => mem_eqAt rx fx r fs w (by simpa using hw)) ⟨.bl _, H, I, rfl, ?_⟩
    rw [show its.toArray.any (eqU x) = its.any (eqU x) by simp, any_eqU r fs]
    exact q

/-! ### len, list(x), tuple(x) of any list or tuple that is read -/
theorem call_len_seq : CallR X (.builtin "len") (fun xs H Q => ∃ p ys, xs = [.ref p] ∧ (SqL X.K H p ys ∨ SqT X.K H p ys) ∧ Q (.int ys.length) H) := by
  intro pins s σ H xs us Q I r h
  obtain ⟨p, ys, rfl, hq, q⟩ := h
  obtain ⟨u, rfl, rx⟩ := vals1 r
  cases rx
  have hn := line63
  rcases hq with hq | hq
  · obtain ⟨its, r', pl, hz⟩ := I.list hq
    have hlen := r'.length
    exact Calls.call_len_list pl.isList (by simp only [List.size_toArray] <;> omega) ⟨.int ys.length, H, I.tok _, ⟨s.toks + 1, by rw [List.size_toArray, hlen]⟩, q⟩
  · obtain ⟨its, r', pl, hz⟩ := I.tuple hq
    have hlen := r'.length
    exact len_tuple pl (by simp only [List.size_toArray] <;> omega) ⟨.int ys.length, H, I.tok _, ⟨s.toks + 1, by rw [List.size_toArray, hlen]⟩, q⟩
theorem call_len_str : CallR X (.builtin "len") (fun xs H Q => ∃ z, xs = [.str z] ∧ z.length ≤ sizeLine ∧ Q (.int z.length) H) := by
  intro pins s σ H xs us Q I r h
  obtain ⟨z, rfl, hz, q⟩ := h
  obtain ⟨u, rfl, t, rfl⟩ := vals1 r
  have hn := line63
  exact len_str (by omega) ⟨.int z.length, H, I.tok _, ⟨_, rfl⟩, q⟩
theorem call_list_of : CallR X (.type "list") (fun xs H Q => ∃ p ys, xs = [.ref p] ∧ (SqL X.K H p ys ∨ SqT X.K H p ys) ∧ ∀ l, H l = none → Q (.ref l) (upd H l (.lst ys))) := by
  intro pins s σ H xs us Q I r h
  obtain ⟨p, ys, rfl, hq, q⟩ := h
  obtain ⟨u, rfl, rx⟩ := vals1 r
  cases rx
  have fin : ∀ (its : List Value), Vals ys its → ys.length ≤ sizeLine → ∀ (h' : Heap) (c' : Nat), (∀ b o', s.heap.get? b = some o' → h'.get? b = some o') →
      h'.get? s.heap.objs.size = some { cls := .type "list", dict := none, data := .seq its.toArray c', slots := #[] } → EP X pins σ Q (.ref s.heap.objs.size) { s with heap := h' } := fun its r' hz h' c' kp e =>
    ⟨.ref s.heap.objs.size, _, I.laid (t' := s.toks) kp (Nat.le_refl _) (show ObjOk X.prog X.w _ h' _ (.lst ys) from ⟨hz, its, c', r', e⟩), rfl, q _ (I.hok.fresh (Nat.le_refl _))⟩
  rcases hq with hq | hq
  · obtain ⟨its, r', pl, hz⟩ := I.list hq
    have hlen := r'.length
    obtain ⟨o, ho, hc, n, hd⟩ := pl.isList
    exact call_list_seq p (.inl rfl) ho hc hd (fun h' c' kp e => fin its r' hz h' c' kp e) (by simp only [List.size_toArray] <;> omega)
  · obtain ⟨its, r', pl, hz⟩ := I.tuple hq
    have hlen := r'.length
    obtain ⟨o, ho, hc, n, hd⟩ := pl
    exact call_list_seq p (.inr rfl) ho hc hd (fun h' c' kp e => fin its r' hz h' c' kp e) (by simp only [List.size_toArray] <;> omega)

/-! ### the call of a builtin's method: o.m(..) -/
/-- the value is of that builtin type -/
def tyV (K : PySem.W.Frag) (T : String) (x : V) (H : Hp) : Prop := match x with
  | .str _ => T = "str"
  | .int _ => T = "int"
  | .ref p => (T = "list" ∧ ∃ xs, SqL K H p xs) ∨ (T = "tuple" ∧ ∃ o, K.lookup p = some o ∧ o.cls = .type "tuple" ∧ o.dict = none) ∨
      (T = "dict" ∧ ((∃ kvs, H p = some (.dK kvs)) ∨ ∃ kvs, H p = some (.dT kvs))) ∨ (T = "set" ∧ ∃ S n, H p = some (.set S n))
  | _ => False
theorem tyV_is {pins : List (Addr × Obj)} {σ : St} {H : Hp} {s : Shared} {T : String} {x : V} {v : Value} (I : Inv X pins σ H s) (r : RelV x v) (ty : tyV X.K T x H) :
    s.TypeIs v T ∧ ∀ a, v = .ref a → ∃ ob, s.heap.get? a = some ob ∧ ob.dict = none := by
  cases x with
  | str z =>
    obtain ⟨t, rfl⟩ := r
    cases (show T = "str" from ty)
    exact ⟨typeIs_str s z t, fun _ e => nomatch e⟩
  | int i =>
    obtain ⟨t, rfl⟩ := r
    cases (show T = "int" from ty)
    exact ⟨typeIs_int s i t, fun _ e => nomatch e⟩
  | ref p =>
    cases r
    rcases ty with ⟨rfl, xs, hq⟩ | ⟨rfl, o, hk, hc, hd⟩ | ⟨rfl, hk⟩ | ⟨rfl, S, n, hk⟩
    · obtain ⟨its, _, pl, _⟩ := I.list hq
      refine ⟨pl.isList.typeIs, fun a e => ?_⟩
      cases e
      obtain ⟨o, n, e, c, hd, _⟩ := pl
      exact ⟨o, e, hd⟩
    · refine ⟨⟨o, I.kIn p o hk, hc⟩, fun a e => ?_⟩
      cases e
      exact ⟨o, I.kIn _ o hk, hd⟩
    · have z : ∃ o, s.heap.get? p = some o ∧ o.ExactDict := by
        rcases hk with ⟨kvs, hk⟩ | ⟨kvs, hk⟩
        · obtain ⟨_, _, _, _, o, _, _, e, ex, _⟩ := I.hok p _ hk
          exact ⟨o, e, ex⟩
        · obtain ⟨_, _, _, _, o, _, _, e, ex, _⟩ := I.hok p _ hk
          exact ⟨o, e, ex⟩
      obtain ⟨o, e, ex⟩ := z
      refine ⟨⟨o, e, ex.1⟩, fun a e2 => ?_⟩
      cases e2
      exact ⟨o, e, ex.2.1⟩
    · obtain ⟨o, _, _, _, e, ex, _⟩ := I.hok p _ hk
      refine ⟨⟨o, e, ex.1⟩, fun a e2 => ?_⟩
      cases e2
      exact ⟨o, e, ex.2.1⟩
  | _ => exact False.elim ty
def tBM (K : PySem.W.Frag) (T : String) (r : V → List V → Hp → VK → Prop) (to : TE) (t : TA) : TE := fun σ H Q => to σ H fun x H1 => tyV K T x H1 ∧ t σ H1 fun xs H2 => r x xs H2 Q
variable {o e : Expr} {es : List Expr} {to : TE} {t : TA} {name : Str} {apos cpos : Pos} {T id : String} {r : V → List V → Hp → VK → Prop}
theorem pe_bm (pa : PlainAttrs T) (slot : Slot T name id) (hty : typeOf (.builtin id) = pure (.type "method_descriptor")) (hm : MtR X id r) (ho : PE X o to) (ha : PA X (e :: es) t)
    (hbase : attributeBase o name X.env (eval o X.env) = eval o X.env := by rfl)
    (hfew : ((backTo cpos (starEach (e :: es) X.env)).all (fun x => !x.1) && (backToKw cpos (keywordEach [] X.env)).all (fun x => x.1.isSome)
      && decide ((e :: es).length + ([] : List Keyword).length + (if ([] : List Keyword).isEmpty then 0 else 1) < 30)) = true := by rfl)
    (hline : (apos.endLine == cpos.line) = true := by rfl) (hs : starEach (e :: es) X.env = (false, eval e X.env) :: starEach es X.env := by rfl) (hplain : (backTo cpos (starEach es X.env)).any (·.1) = false := by rfl) :
    PE X (.Call (.Attribute o name apos) (e :: es) [] cpos) (tBM X.K T r to t) := by
  intro pins s σ H Q I h
  refine wpAny_Call_method_late hbase hfew hline rfl (thn (ho pins s σ H _ I h) fun v s1 ⟨x, H1, I1, r1, ty, q1⟩ => ?_)
  obtain ⟨h1, h2⟩ := tyV_is I1 r1 ty
  refine ⟨T, id, pa, slot, hty, h1, h2, ?_⟩
  have hA := ha cpos pins s1 σ H1 _ I1 q1
  rw [hs] at hA ⊢
  refine Calls.callWith_builtin (by show (false || (backTo cpos (starEach es X.env)).any (·.1)) = false; rw [hplain] <;> rfl) (Calls.evalArgs_plain ?_)
  exact thn hA fun us s2 ⟨vs, H2, I2, r2, q2⟩ => hm pins s2 σ H2 x vs v us Q I2 r1 r2 q2
/- xs.append(e), list.index on a module's tuple .. are MtR facts of 06m -/
end
end L2

namespace L2
open PySem PySem.Spec PyProof.Rows

def MtM (X : Cx) (id : String) (r : V → List V → Hp → VK → Prop) : Prop :=
  ∀ (pins : List (Addr × Obj)) (s : Shared) (σ : St) (H : Hp) (x : V) (xs : List V) (v : Value) (us : List Value) (Q : VK), Inv X pins σ H s → RelV x v → Vals xs us → r x xs H Q →
    wpAny (model X.prog X.w) X.A (call (.builtin id) (v :: us)) (EP X pins σ Q) X.xe s

/-! ### lists of values -/
theorem Vals.one : ∀ {x : V} {us : List Value}, Vals [x] us → ∃ u, us = [u] ∧ RelV x u
  | _, _, .cons r .nil => ⟨_, rfl, r⟩
theorem Vals.eraseIdx : ∀ {xs : List V} {us : List Value} (i : Nat), Vals xs us → Vals (xs.eraseIdx i) (us.eraseIdx i)
  | _, _, _, .nil => .nil
  | _, _, 0, .cons _ t => t
  | _, _, i + 1, .cons r t => .cons r (Vals.eraseIdx i t)
theorem len_erase {α : Type} : ∀ (l : List α) (i : Nat), (l.eraseIdx i).length ≤ l.length
  | [], _ => Nat.le_refl _
  | _ :: _, 0 => Nat.le_succ _
  | _ :: r, i + 1 => Nat.succ_le_succ (len_erase r i)

section
variable {X : Cx} {pins : List (Addr × Obj)} {σ : St} {H : Hp} {s : Shared} {l b : Addr} {xs ys zs : List V}

/-! ### the two steps: a tracked list is rewritten, a new list is laid -/
theorem Inv.lset {its its' : List Value} {n : Nat} {f : Array Value → Array Value} {t' : Nat} (I : Inv X pins σ H s) (hH : H l = some (.lst xs))
    (e : s.heap.get? l = some { cls := .type "list", data := .seq its.toArray n }) (hf : f its.toArray = its'.toArray) (hv : Vals ys its') (hz : ys.length ≤ sizeLine) :
    Inv X pins σ (upd H l (.lst ys)) { s with heap := s.heap.update l (Obj.mapSeq f), toks := t' } := by
  have q := PySem.IsL.update e f
  rw [hf] at q
  refine I.write (x := l) (e := l) (by rw [hH]; exact trivial) (.inl rfl) (fun b' u hb hu => (Heap.get?_update_other s.heap (Obj.mapSeq f) (Ne.symm hb)).trans hu) ⟨_, q⟩ ?_
  exact ⟨hz, its', _, hv, q⟩
theorem Inv.lstM (I : Inv X pins σ H s) (hH : H l = some (.lst xs)) : xs.length ≤ sizeLine ∧ ∃ (its : List Value) (n : Nat), Vals xs its ∧ xs.length = its.length ∧ s.heap.get? l = some { cls := .type "list", data := .seq its.toArray n } := by
  obtain ⟨z, its, n, r, e⟩ := I.hok l _ hH
  exact ⟨z, its, n, r, r.length, e⟩

end

section
variable {X : Cx}

/-! ### methods -/
def rAppend : V → List V → Hp → VK → Prop := fun x vs H Q => ∃ l xs y, x = .ref l ∧ vs = [y] ∧ H l = some (.lst xs) ∧ xs.length < sizeLine ∧ Q .non (upd H l (.lst (xs ++ [y])))
theorem mt_append : MtM X "list.append" rAppend := by
  intro pins s σ H x vs v us Q I rx rv h
  obtain ⟨l, xs, y, rfl, rfl, hH, hz, q⟩ := h
  cases rx
  obtain ⟨u, rfl, ru⟩ := rv.one
  obtain ⟨z, its, n, r, hl, e⟩ := I.lstM hH
  refine call_meets F.slot_list_append ⟨_, e, rfl⟩ F.entry_list_append (F.args_list_append_2 _ _) (PySem.list_append l its.toArray n u (by rw [List.size_toArray]; omega)) ⟨e, ?_⟩
  refine ⟨.non, _, I.lset (its' := its ++ [u]) hH e (by simp) (r.append (.cons ru .nil)) ?_, rfl, q⟩
  rw [List.length_append, List.length_singleton]
  omega



def rPopAt : V → List V → Hp → VK → Prop := fun x vs H Q => ∃ l xs i k y, x = .ref l ∧ vs = [.int i] ∧ H l = some (.lst xs) ∧ -(2 ^ 63) ≤ i ∧ i < 2 ^ 63 ∧ seqIndex? i xs.length = some k ∧ xs[k]? = some y ∧ Q y (upd H l (.lst (xs.eraseIdx k)))
theorem mt_popAt : MtM X "list.pop" rPopAt := by
  intro pins s σ H x vs v us Q I rx rv h
  obtain ⟨l, xs, i, k, y, rfl, rfl, hH, h1, h2, hk, hy, q⟩ := h
  cases rx
  obtain ⟨u, rfl, ru⟩ := rv.one
  obtain ⟨t, rfl⟩ := ru
  obtain ⟨z, its, n, r, hl, e⟩ := I.lstM hH
  obtain ⟨w, hw, rw'⟩ := r.get hy
  refine call_meets F.slot_list_pop ⟨_, e, rfl⟩ F.entry_list_pop (F.args_list_pop_2 _ _)
    (MeetsSeq.list_pop_at l its.toArray n i t k w (fitsIndex_both h1 h2) (by rw [List.size_toArray, ← hl]; exact hk) (by rw [← Array.getElem?_toList]; exact hw) (by rw [List.size_toArray]; omega)) ⟨e, ?_⟩
  refine ⟨y, _, I.lset (its' := its.eraseIdx k) hH e ?_ (r.eraseIdx k) ?_, rw', q⟩
  · show its.toArray.eraseIdxIfInBounds k = (its.eraseIdx k).toArray
    rw [List.eraseIdxIfInBounds_toArray]
  · have := len_erase xs k
    omega



/-! ### list + list, list += list, list * int -/

/-! ### del xs[i] -/
end

/-! ### xs[a:b] = ys -/
section
variable {prog : Program} {w : World} {A : Around} {E : Value → Shared → Prop} {s : Shared}
set_option maxRecDepth 100000 in
end

section
variable {X : Cx}
end
end L2

namespace L2
open PySem PySem.Spec PyProof.Rows

/-! ### lists of pairs as tables -/
section
variable {κ : Type} [DecidableEq κ]



end


/-! ### a tracked dict, its keys ints and texts or tuples of these -/


section
variable {P : Program} {w : World} {H : Hp} {h : Heap} {a : Addr}
end



section
variable {X : Cx} {pins : List (Addr × Obj)} {σ : St} {H : Hp} {s : Shared} {a : Addr} {y v : V} {u r : Value} {o : Option V} {A : Around} {E : Value → Shared → Prop}


end

section
variable {X : Cx} {pins : List (Addr × Obj)} {σ : St} {H : Hp} {s : Shared} {a : Addr} {kvs : List (Key × V)} {k : Key} {u : Value} {A : Around} {E : Value → Shared → Prop}
end


/-! ### readings and rules -/



section
variable {X : Cx} {o i e value : Expr} {pos pos' tpos : Pos} {td ty tv : TE}
end


/-! ### displays -/
section
variable {X : Cx} {pos : Pos}
end




/-! ### methods -/
/-- a method call o.m(e) of a built-in, with one argument: what must be seen of the text -/
structure M1 (X : Cx) (o : Expr) (m : Str) (apos : Pos) (e : Expr) (cpos : Pos) : Prop where
  base : attributeBase o m X.env (eval o X.env) = eval o X.env
  few : ((backTo cpos (starEach [e] X.env)).all (fun x => !x.1) && (backToKw cpos (keywordEach [] X.env)).all (fun x => x.1.isSome)
    && decide (([e] : List Expr).length + ([] : List Keyword).length + (if ([] : List Keyword).isEmpty then 0 else 1) < 30)) = true
  line : (apos.endLine == cpos.line) = true
  trees : backTo cpos (starEach [e] X.env) = [(false, eval e X.env)]
structure M2 (X : Cx) (o : Expr) (m : Str) (apos : Pos) (e f : Expr) (cpos : Pos) : Prop where
  base : attributeBase o m X.env (eval o X.env) = eval o X.env
  few : ((backTo cpos (starEach [e, f] X.env)).all (fun x => !x.1) && (backToKw cpos (keywordEach [] X.env)).all (fun x => x.1.isSome)
    && decide (([e, f] : List Expr).length + ([] : List Keyword).length + (if ([] : List Keyword).isEmpty then 0 else 1) < 30)) = true
  line : (apos.endLine == cpos.line) = true
  trees : backTo cpos (starEach [e, f] X.env) = [(false, eval e X.env), (false, eval f X.env)]


section
variable {X : Cx} {pins : List (Addr × Obj)} {σ : St} {H : Hp} {s : Shared} {a : Addr} {y d : V} {u r : Value} {o : Option V} {A : Around} {E : Value → Shared → Prop}
end

section
variable {X : Cx} {o e f : Expr} {apos cpos : Pos} {td ty tx : TE}
end

/-! ### dict(d): a copy -/
section
variable {X : Cx} {pins : List (Addr × Obj)} {σ : St} {H : Hp} {s : Shared} {a : Addr} {kvs : List (Key × V)} {A : Around} {E : Value → Shared → Prop}
end


section
variable {X : Cx} {pins : List (Addr × Obj)} {σ : St} {H : Hp} {s : Shared} {a : Addr} {y : V} {u : Value} {A : Around} {E : Value → Shared → Prop}
end
end L2

namespace Att
open PySem PySem.W PySem.Calls PyProof.Rows

/-! ### the script -/
theorem ints_of_wellAll {P : Params} {h : Heap} : ∀ (ns : List Int) (vs : List Value), WellAll P h vs (ns.map WData.int) → IntsAre vs ns := by
  intro ns
  induction ns with
  | nil =>
    intro vs w
    rw [List.map_nil] at w
    cases w
    exact .nil
  | cons n ns ih =>
    intro vs w
    rw [List.map_cons] at w
    cases w with
    | cons a b =>
      cases a
      exact .cons _ _ (ih _ b)

theorem script_of {l : OpenLaw} {n : Nat} (hn : l.most = some n) {P : Params} {h : Heap} {args : List WData} {vals : List Value}
    (hpre : l.row.toRowW.claim.pre args = true) (hwl : WellAll P h vals args) :
    ∃ a vs ns, vals = [Value.ref a] ∧ args = [WData.list (ns.map WData.int)] ∧ h.get? a = some { cls := .type "list", data := .seq vs.toArray } ∧ IntsAre vs ns ∧ ns.length ≤ n := by
  have hsh : WShape.hasAll [] args [.list .int] = true := (pre_splitW hpre).1
  have hc : l.pre.holds [] { args := args } = true := (pre_splitW hpre).2
  obtain ⟨d, r, rfl, h1, h2⟩ := hasAllW_cons hsh
  obtain rfl := hasAllW_nil h2
  obtain ⟨xs, rfl, h3⟩ := hasW_list h1
  obtain ⟨ns, rfl⟩ := items_int h3
  have hlen : ns.length ≤ n := by
    unfold OpenLaw.pre at hc
    have h4 : (WTm.not (.lt (.lit (.int (n : Int))) (.len (.arg 0)))).holds [] { args := [.list (ns.map .int)] } = true := by
      have h4 := (holds_andW hc).1
      rw [hn] at h4
      exact h4
    have h5 := condW_of h4 (w_not (w_lt w_lit (w_len_list (w_arg rfl))))
    rw [List.length_map] at h5
    refine Nat.le_of_not_lt fun q => ?_
    have q' : (n : Int) < ((ns.length : Nat) : Int) := by omega
    first
      | (rw [decide_eq_true q'] at h5; exact absurd h5 (by decide))
      | (simp at h5; omega)
  cases hwl with
  | cons w1 w2 =>
    cases w2
    cases w1 with
    | list ho hall => exact ⟨_, _, ns, rfl, rfl, ho, ints_of_wellAll ns _ hall, hlen⟩

theorem post_true (l : OpenLaw) (args : List WData) : l.row.toRowW.claim.post args (.bool true) args = true :=
  postW_of (r := l.row.toRowW) (X := (true == true))
    (show WShape.has [] (.bool true) .bool = true by first | rfl | decide | simp [WShape.has, WShape.arms, WShape.armsAll])
    (show (WTm.eq .res (.lit (.bool true))).value [] { args := args, res := some (.bool true), after := args } = some (.bool (true == true)) from w_eq_bool (w_res rfl) w_lit) rfl

/-! ### the attachment: holds_open's last premise (the goal 'hc' behind k_head) from a wpAny of the law's body -/

/-- the same from a codeAny of the CALL (for a layer whose function contracts speak of calls) -/
theorem attach_call {l : OpenLaw} {n : Nat} {q : Program} {loose : List Str} {XP : (Str → Option Value) → Heap → Prop} {YP : World → Heap → Prop} {d : DefRec}
    (hn : l.most = some n) (hdf : d.params.defaults = [])
    (call : ∀ (w : World) (s₀ s₁ : Shared) (mg mb : Str → Option Value) (fa : Addr) (o : Obj) (pm cd doc : Value) (a : Addr) (vs : List Value) (ns : List Int),
      Ground q loose [] XP w s₀ mg mb s₁.heap → YP w s₁.heap →
      s₁.heap.get? fa = some o → o.data = .func (docDef d.name d.params d.body d.scope pm cd doc) → s₁.heap.CodeRec cd d.name → mg d.name = some (.ref fa) →
      s₁.heap.get? a = some { cls := .type "list", data := .seq vs.toArray } → IntsAre vs ns → ns.length ≤ n → s₁.gens = #[] →
      codeAny (model l.prog w) callerA (.call (.ref fa) ⟨[.ref a], []⟩) (fun r s' => r = .ok (.ret (.bool true)) ∧ OldK s₁.heap s'.heap ∧ s'.os = s₁.os ∧ AllBare s'.gens) s₁) :
    WalkO q loose XP YP l.row.toRowW d [] (fun f vs => PySem.call f vs) := by
  intro w s₀ s₁ mg mb G Y fa o pm cd doc dV kV ho hd hcd hD hmg hg args vals as hpre hlay hrd hwl hlo
  obtain rfl : dV = .none := Dflts.none hD hdf
  obtain rfl : kV = .none := Dflts.noKw hD
  obtain ⟨a, vs, ns, rfl, rfl, hobj, hints, hlen⟩ := script_of hn hpre hwl
  refine enter_call (codeAny_mono (call w s₀ s₁ mg mb fa o pm cd doc a vs ns G Y ho (fd_plain hd) hcd hmg hobj hints hlen hg) fun r s' hq => ?_)
  obtain ⟨rfl, h2, h3, h4⟩ := hq
  exact ⟨.inl ⟨.bool true, .bool true, [], rfl, fun _ => rfl, .bool true, post_true l _, fun _ => ⟨List.Pairwise.nil, fun _ hm => (nomatch hm)⟩⟩, h2, h3, h4⟩


/-! ### rules over ANY heap (no ledger) from facts about the written part K: the library's own take a ledger (News) for what they write -/
section
variable {prog : Program} {w : World} {A : Around} {E : Value → Shared → Prop} {s : Shared} {K : Frag}





/-! the whole heap as the ledger: makes every rule that writes through a ledger a rule over any heap -/

end
end Att

namespace L2
open PySem PySem.Spec PyProof.Rows

theorem vals_ints : ∀ {vs : List Value} {ns : List Int}, IntsAre vs ns → Vals (ns.map V.int) vs
  | _, _, .nil => .nil
  | _, _, .cons n t h => .cons ⟨t, rfl⟩ (vals_ints h)


end L2

namespace L2
open PySem PySem.Spec PyProof.Rows


end L2

/- THE LAST THEOREM (shape; LID, My.* are yours):
   My.Adr: a structure of the addresses that your layer names (classes, functions); My.Txt K t: a structure (Prop) of the equations over K;
   My.txt_mk : {K} {implicit addresses ..} (e1 : nsIn K mainGlobals "law" = some (some (.ref f))) (e2 : K.lookup f = some ⟨oc, od, .func (fnOf "law" "law" params body scope dV kV doc pm an cdv ct), sl⟩) (e3 : codeIn K cdv "law" = true) .. : ∃ t, My.Txt K t

set_option maxRecDepth 100000 in
set_option maxHeartbeats 0 in
theorem PySem.Challenge.cw_LID_holds : PySem.Challenge.rw_LID.Holds := by
  w_on; o_law; k_head; (case hw => w_witness2)
  k_fill
  refine L2.walk_of (l := PySem.Challenge.rw_LID) (n := 63) (k := 40) (x := "script") (CX := fun w => ..) (sp := fun _ => My.sp_law) rfl (by decide) rfl ⟨rfl, by decide, by decide⟩ (fun w h Y => PySem.W.kIn_of Y) ?F ?S ?C
  case F =>
    intro w mg fa h KX G hmg
    have T : ∃ t, My.Txt (L2.KOf KX) t := by
      dsimp only [L2.KOf]                          -- K must stand as «<heap const> w.params» for k_is
      refine' My.txt_mk ?e1 ?e2 ?e3 ..
      (case e1 => PySem.W.k_is)                    -- in the order: a name -> its address -> its object -> its parts
      (case e2 => PySem.W.k_is)
      ..
    obtain ⟨t, T⟩ := T
    have e0 := hmg.symm.trans (PySem.W.mg_of KX G T.law)
    cases e0                                       -- fa is the law's own address
    exact ⟨_, fun s u => .of_eq rfl, fun base kb nb => My.law_fn T kb nb⟩     -- if «.of_eq rfl» comes too early: refine' ⟨_, ?b, fun base kb nb => My.law_fn T kb nb⟩; exact fun s u => .of_eq rfl
  case S => exact fun w H a ns hl hO hS => ..
  case C => exact ..
(the tactic k_is has no namespace: write k_is) -/

/-! SHORT WORDS over the layer: a def of the text, its body, what a loop and a test want. -/
namespace L2
open PySem PySem.Spec PyProof.Rows

/-! ### the text by places -/
def defArgs (s : Stmt) : Arguments := match s with
  | .FunctionDef _ a _ _ _ _ _ _ _ _ => a
  | _ => { posonlyargs := [], args := [], vararg := none, kwonlyargs := [], kw_defaults := [], kwarg := none, defaults := [] }
def defBody (s : Stmt) : List Stmt := match s with
  | .FunctionDef _ _ b _ _ _ _ _ _ _ => b
  | _ => []
def defScope (s : Stmt) : Scope := match s with
  | .FunctionDef _ _ _ _ _ _ sc _ _ _ => sc
  | _ => { kind := .function, names := [], isGenerator := false, isCoroutine := false }

/-! ### no exception leaves a def -/
abbrev CX0 : CXT := fun _ _ _ _ _ _ => False
abbrev E0 : XK := fun _ _ _ => False
theorem pass0 {X : Cx} : Passes CX0 X E0 := fun _ _ _ _ _ _ _ h => h.elim

/-! ### a def (or method) of the text as it stands behind the top -/
structure Fun (K : PySem.W.Frag) (x qual : Str) (st : Stmt) (f : Addr) (fd : FuncData) : Prop where
  ex : ∃ (oc : Value) (od : Option Addr) (kV doc pm : Value) (an : Option Addr) (cdv ct : Value) (osl : Array (Option Value)),
    fd = PySem.W.fnOf x qual (defArgs st) (defBody st) (defScope st) .none kV doc pm an cdv ct ∧ K.lookup f = some ⟨oc, od, .func fd, osl⟩ ∧ PySem.W.codeIn K cdv qual = true
  kp : PySem.W.keepIn K (.ref f) = true
section
variable {P : Program} {w : World} {K : PySem.W.Frag} {mg : Str → Option Value} {base : Heap}
/-- THE RULE for a def: its body as a term of rules, and the reading of that term -/
theorem Fun.ok {x qual : Str} {st : Stmt} {f : Addr} {fd : FuncData} {N ps : List Str} {k : Nat} {sp : Sp} (F : Fun K x qual st f fd) (S : FnScope N ps (defScope st)) (len : ∀ vs H Q E, sp vs H Q E → vs.length = ps.length)
    (hbody : ∀ (cdv : Value) (A : Around) (outer : List Env) (s : Shared) (H : Hp) (vs : List V) (Q : VK) (E : XK), Room k (A.deeper (envOfC qual (defScope st) s.heap.objs.size f cdv)) → sp vs H Q E →
      ∃ t, PSs (cxOf CX0 P w K mg base N qual (defScope st) f cdv A outer s H E).nox (defBody st) t ∧ t { nx := fun _ H' => Q .non H', rt := Q } (start N vs) H) : FnOk P w K mg base CX0 (k + 1) f fd ps sp := by
  obtain ⟨oc, od, kV, doc, pm, an, cdv, ct, osl, rfl, lk, hcd⟩ := F.ex
  refine fn_of lk hcd S len fun A outer s H vs Q E hr hsp => ?_
  obtain ⟨t, h, q⟩ := hbody cdv A outer s H vs Q E hr hsp
  exact ⟨t, h.nox, q⟩
/-- how its arguments bind (no defaults): h is «fun _ _ _ _ _ _ us hl => match us, hl with | [_, _], _ => rfl», one _ a parameter -/
theorem Fun.binds {x qual : Str} {st : Stmt} {f : Addr} {fd : FuncData} {ps : List Str} (F : Fun K x qual st f fd)
    (h : ∀ (kV doc pm : Value) (an : Option Addr) (cdv ct : Value) (us : List Value), us.length = ps.length → bindArgs (PySem.W.fnOf x qual (defArgs st) (defBody st) (defScope st) .none kV doc pm an cdv ct) ⟨us, []⟩ = pure (ps.zip us)) : Binds K fd ps [] := by
  obtain ⟨oc, od, kV, doc, pm, an, cdv, ct, osl, rfl, lk, hcd⟩ := F.ex
  exact .all (h kV doc pm an cdv ct)
theorem fun_mk {x qual : Str} {st : Stmt} {f : Addr} {oc : Value} {od an : Option Addr} {osl : Array (Option Value)} {kV doc pm cdv ct : Value} (l : K.lookup f = some ⟨oc, od, .func (PySem.W.fnOf x qual (defArgs st) (defBody st) (defScope st) .none kV doc pm an cdv ct), osl⟩)
    (c : PySem.W.codeIn K cdv qual = true) (k : PySem.W.keepIn K (.ref f) = true) : Fun K x qual st f (PySem.W.fnOf x qual (defArgs st) (defBody st) (defScope st) .none kV doc pm an cdv ct) := ⟨⟨oc, od, kV, doc, pm, an, cdv, ct, osl, rfl, l, c⟩, k⟩
end

/-! ### expressions in short: the name that stands in the i-th slot -/
section
variable {X : Cx}
end

/-! ### tests -/
theorem iteF {A B : Prop} (h : B) : if false = true then A else B := by
  rw [if_neg Bool.false_ne_true]
  exact h
theorem iteT {A B : Prop} (h : A) : if true = true then A else B := by
  rw [if_pos rfl]
  exact h

/-! ### heaps -/
/-- all that was tracked is as it was -/
def Same (H H' : Hp) : Prop := ∀ b o, H b = some o → H' b = some o
theorem Same.refl (H : Hp) : Same H H := fun _ _ h => h
theorem Same.trans {H H1 H2 : Hp} (a : Same H H1) (b : Same H1 H2) : Same H H2 := fun c o h => b c o (a c o h)
theorem Same.free {H H' : Hp} (e : Same H H') {l : Addr} (h : H' l = Option.none) : H l = Option.none := by
  cases q : H l with
  | none => rfl
  | some o =>
    rw [e l o q] at h
    cases h

end L2

namespace L2
open PySem PySem.Spec PyProof.Rows
section
variable {X : Cx}
end

/-! ### a dict's pairs: keys that differ -/
section
variable {κ : Type} [DecidableEq κ]
theorem nd_snoc : ∀ {l : List κ} {k : κ}, l.Nodup → ¬ k ∈ l → (l ++ [k]).Nodup
  | [], k, _, _ => by simp
  | a :: r, k, h, hk => by
    obtain ⟨h1, h2⟩ := List.nodup_cons.mp h
    show (a :: (r ++ [k])).Nodup
    refine List.nodup_cons.mpr ⟨fun m => ?_, nd_snoc h2 fun m => hk (List.mem_cons.mpr (Or.inr m))⟩
    rcases List.mem_append.mp m with q | q
    · exact h1 q
    · exact hk (List.mem_cons.mpr (Or.inl (List.mem_singleton.mp q).symm))
end
end L2

end
section
set_option Elab.async false
set_option linter.all false
set_option maxRecDepth 100000
set_option maxHeartbeats 4000000
/-! LIST COMPREHENSIONS with one clause, over the layer. -/
namespace L2
open PySem PySem.Spec PyProof.Rows

/-- a comprehension's block as a context -/
abbrev ccx (X : Cx) (scope : Scope) (cl : List (Str × Addr)) (C : Addr) (N' : List Str) (s2 : Shared) (H2 : Hp) (ex : List Addr) (pn : List (Addr × Obj)) : Cx where
  prog := X.prog
  w := X.w
  K := X.K
  mg := X.mg
  base := X.base
  A := X.A
  N := N'
  s₀ := s2
  H₀ := H2
  env := compEnvC scope cl C X.env
  outer := X.stack
  stack := X.stack
  ex := ex
  fn := fun _ => false
  calm := X.calm
  pn := pn
  xe := fun _ _ => False

theorem closure_go (env : Env) : ∀ (l : List (Str × NameKind)) (cs : List (Str × Addr)), (∀ p ∈ l, p.2 = .free → ∃ c, env.cells.lookup p.1 = some c) →
    ∃ cl, (forIn l cs (fun (x : Str × NameKind) (r : List (Str × Addr)) => if (x.2 == NameKind.free) = true then (do let a ← cellOf env x.1; pure (ForInStep.yield ((x.1, a) :: r)) : Sem (ForInStep (List (Str × Addr)))) else pure (ForInStep.yield r)) : Sem _) = pure cl ∧
      (∀ x c, cl.lookup x = some c → env.cells.lookup x = some c ∨ cs.lookup x = some c) ∧ (∀ x, ((x, NameKind.free) ∈ l ∨ ∃ c, cs.lookup x = some c) → ∃ c, cl.lookup x = some c)
  | [], cs, _ => ⟨cs, rfl, fun x c h => .inr h, fun x h => h.elim (fun z => nomatch z) id⟩
  | (n, k) :: r, cs, h => by
    have hr : ∀ p ∈ r, p.2 = .free → ∃ c, env.cells.lookup p.1 = some c := fun p hp => h p (List.mem_cons_of_mem _ hp)
    by_cases hk : k = .free
    · subst hk
      obtain ⟨c, hc⟩ := h (n, .free) List.mem_cons_self rfl
      obtain ⟨cl, e, h1, h2⟩ := closure_go env r ((n, c) :: cs) hr
      refine ⟨cl, ?_, fun x d hx => ?_, fun x hx => ?_⟩
      · rw [List.forIn_cons]
        have e2 : cellOf env n = pure c := by unfold cellOf; rw [hc]
        simp only [beq_self_eq_true, if_true, e2, pure_bind]
        exact e
      · rcases h1 x d hx with z | z
        · exact .inl z
        · rw [List.lookup_cons] at z
          cases q : x == n with
          | true =>
            rw [q] at z
            cases z
            have : x = n := by simpa using q
            subst this
            exact .inl hc
          | false =>
            rw [q] at z
            exact .inr z
      · apply h2
        rcases hx with hx | ⟨d, hx⟩
        · rcases List.mem_cons.mp hx with z | z
          · cases z
            exact .inr ⟨c, by rw [List.lookup_cons]; simp⟩
          · exact .inl z
        · right
          rw [List.lookup_cons]
          cases q : x == n with
          | true => exact ⟨c, rfl⟩
          | false => exact ⟨d, hx⟩
    · obtain ⟨cl, e, h1, h2⟩ := closure_go env r cs hr
      refine ⟨cl, ?_, h1, fun x hx => h2 x ?_⟩
      · rw [List.forIn_cons]
        have e2 : (k == NameKind.free) = false := by simpa using hk
        simp only [e2, Bool.false_eq_true, if_false, pure_bind]
        exact e
      · rcases hx with hx | hx
        · rcases List.mem_cons.mp hx with z | z
          · cases z
            exact absurd rfl hk
          · exact .inl z
        · exact .inr hx
theorem closure_of {scope : Scope} {env : Env} (h : ∀ p ∈ scope.names, p.2 = .free → ∃ c, env.cells.lookup p.1 = some c) :
    ∃ cl, closureFor scope env = pure cl ∧ (∀ x c, cl.lookup x = some c → env.cells.lookup x = some c) ∧ (∀ x, (x, NameKind.free) ∈ scope.names → ∃ c, cl.lookup x = some c) := by
  obtain ⟨cl, e, h1, h2⟩ := closure_go env scope.names [] h
  refine ⟨cl, ?_, fun x c hx => (h1 x c hx).elim id (fun z => nomatch z), fun x hx => h2 x (.inl hx)⟩
  unfold closureFor
  have e' := congrArg (fun m : Sem (List (Str × Addr)) => m >>= fun r => pure r) e
  simp only [pure_bind] at e'
  exact e'

theorem lookup_relabel {env : Env} {kk : NameKind} (hkk : kk ≠ .free) : ∀ {names : List (Str × NameKind)} {x : Str}, names.lookup x = some kk →
    (names.map fun (n, k) => if (k == NameKind.free && env.scope.kind == .function && env.kindOf n == some .cell) then (n, NameKind.cell) else (n, k)).lookup x = some kk
  | [], _, h => by simp at h
  | (n, k) :: r, x, h => by
    have ih := @lookup_relabel env kk hkk r x
    show List.lookup x ((if (k == NameKind.free && env.scope.kind == .function && env.kindOf n == some .cell) = true then (n, NameKind.cell) else (n, k)) :: _) = _
    cases hx : x == n with
    | true =>
      simp only [List.lookup_cons, hx] at h
      have h : some k = some kk := h
      have h' : k = kk := Option.some.inj h
      subst h'
      have e : (k == NameKind.free) = false := by simpa using hkk
      rw [e, Bool.false_and, Bool.false_and, if_neg Bool.false_ne_true, List.lookup_cons, hx]
    | false =>
      simp only [List.lookup_cons, hx] at h
      by_cases hc : (k == NameKind.free && env.scope.kind == .function && env.kindOf n == some .cell) = true
      · rw [if_pos hc]; simp only [List.lookup_cons, hx]; exact ih h
      · rw [if_neg hc]; simp only [List.lookup_cons, hx]; exact ih h
theorem lookup_relabel_free {env : Env} : ∀ {names : List (Str × NameKind)} {x : Str}, names.lookup x = some .free →
    ((names.map fun (n, k) => if (k == NameKind.free && env.scope.kind == .function && env.kindOf n == some .cell) then (n, NameKind.cell) else (n, k)).lookup x = some .cell) ∨
    ((names.map fun (n, k) => if (k == NameKind.free && env.scope.kind == .function && env.kindOf n == some .cell) then (n, NameKind.cell) else (n, k)).lookup x = some .free)
  | [], _, h => by simp at h
  | (n, k) :: r, x, h => by
    have ih := @lookup_relabel_free env r x
    show (List.lookup x ((if (k == NameKind.free && env.scope.kind == .function && env.kindOf n == some .cell) = true then (n, NameKind.cell) else (n, k)) :: _) = _) ∨ (List.lookup x ((if (k == NameKind.free && env.scope.kind == .function && env.kindOf n == some .cell) = true then (n, NameKind.cell) else (n, k)) :: _) = _)
    cases hx : x == n with
    | true =>
      simp only [List.lookup_cons, hx] at h
      cases h
      by_cases hc : (NameKind.free == NameKind.free && env.scope.kind == .function && env.kindOf n == some .cell) = true
      · rw [if_pos hc]; simp [List.lookup_cons, hx]
      · rw [if_neg hc]; simp [List.lookup_cons, hx]
    | false =>
      simp only [List.lookup_cons, hx] at h
      by_cases hc : (k == NameKind.free && env.scope.kind == .function && env.kindOf n == some .cell) = true
      · rw [if_pos hc]; simp only [List.lookup_cons, hx]; exact ih h
      · rw [if_neg hc]; simp only [List.lookup_cons, hx]; exact ih h
theorem relabel_mem {env : Env} {scope : Scope} {x : Str} (hcell : ∀ y ∈ scope.names, y.2 ≠ .cell) (h : (relabel scope env).names.lookup x = some .cell ∨ (relabel scope env).names.lookup x = some .free) : (x, NameKind.free) ∈ scope.names := by
  have m : ∃ k', (k' = NameKind.cell ∨ k' = NameKind.free) ∧ (x, k') ∈ (relabel scope env).names := by
    rcases h with h | h
    · exact ⟨_, .inl rfl, PySem.mem_of_lookup h⟩
    · exact ⟨_, .inr rfl, PySem.mem_of_lookup h⟩
  obtain ⟨k', hk, m⟩ := m
  obtain ⟨⟨n, k⟩, hm, e⟩ := List.mem_map.mp m
  have e : (if (k == NameKind.free && env.scope.kind == .function && env.kindOf n == some .cell) = true then (n, NameKind.cell) else (n, k)) = (x, k') := e
  by_cases hc : (k == NameKind.free && env.scope.kind == .function && env.kindOf n == some .cell) = true
  · rw [if_pos hc] at e
    cases e
    have : k = .free := by
      cases k <;> simp at hc ⊢
    rw [← this]; exact hm
  · rw [if_neg hc] at e
    cases e
    rcases hk with z | z
    · exact absurd z (hcell _ hm)
    · rw [← z]; exact hm

section
variable {prog : Program} {w : World} {A : Around} {E : Value → Shared → Prop} {R : Result → Shared → Prop} {s : Shared}
theorem codeAny_compLoop_go {elt target iter : Expr} {ifs : List Expr} {scope : Scope} {pos : Pos} {it acc : Value} {env : Env} (I : Nat → Shared → Prop)
    (turn : ∀ n s, I n s → wpAny (model prog w) A (pyNext it) (fun r s₁ => match r with
      | none => R (.ok .next) s₁
      | some v => wpAny (model prog w) A (letOwnedTupleGo target it v) (fun _ s1 => wpAny (model prog w) A (assign target env v) (fun _ s₂ =>
          wpAny (model prog w) A (forIn ifs true fun c r => if r = true then do let ok ← isTrue c env (eval c env); pure (ForInStep.yield ok) else pure (ForInStep.yield r)) (fun ok s₃ =>
            if ok = true then wpAny (model prog w) A (eval elt env) (fun x s₄ =>
              wpAny (model prog w) A (call (.builtin "list.append") [acc, x]) (fun _ s₅ => ∃ m, m < n ∧ I m s₅) (fun _ _ => False) s₄) (fun _ _ => False) s₃
            else ∃ m, m < n ∧ I m s₃) (fun _ _ => False) s₂) (fun _ _ => False) s1) (fun _ _ => False) s₁) (fun _ _ => False) s)
    (n : Nat) (h : I n s) :
    codeAny (model prog w) A (.compLoop (.ListComp elt [⟨target, iter, ifs, 0⟩] scope pos) 0 it acc env) R s := by
  refine codeAny_loop rfl I (fun n s hI => ?_) n h
  show wpAny _ A ((compTurn (.ListComp elt [⟨target, iter, ifs, 0⟩] scope pos) 0 it acc env).onRaise (fun x => do noteFrame x env; theTreesLotGoes x)) _ _ s
  refine wpAny_noted ?_
  rw [compTurn_list]
  refine wpAny_bind (wpAny_standAt (wpAny_bind (wpAny_mono (turn n s hI) (fun r s₁ h₁ => ?_) fun _ _ h' => h'.elim)))
  cases r with
  | none => exact wpAny_pure h₁
  | some v =>
    refine wpAny_bind (wpAny_mono h₁ (fun _ s1 h1 => ?_) fun _ _ h' => h'.elim)
    refine wpAny_bind (wpAny_mono h1 (fun _ s₂ h₂ => wpAny_bind (wpAny_mono h₂ (fun ok s₃ h₃ => ?_) fun _ _ h' => h'.elim)) fun _ _ h' => h'.elim)
    cases ok with
    | false => exact wpAny_pure ⟨rfl, h₃⟩
    | true =>
      exact wpAny_bind (wpAny_bind (wpAny_mono h₃ (fun x s₄ h₄ => wpAny_bind (wpAny_mono h₄ (fun _ s₅ h₅ => wpAny_pure (wpAny_pure ⟨rfl, h₅⟩)) fun _ _ h' => h'.elim)) fun _ _ h' => h'.elim))
end

/-- the tests of a clause -/
abbrev TTs := St → Hp → (Bool → Hp → Prop) → Prop
def PTs (X : Cx) (ifs : List Expr) (t : TTs) : Prop :=
  ∀ (pins : List (Addr × Obj)) (s : Shared) (σ : St) (H : Hp) (Q : Bool → Hp → Prop), Inv X pins σ H s → t σ H Q →
    wpAny (model X.prog X.w) X.A (forIn ifs true fun c r => if r = true then do let ok ← isTrue c X.env (eval c X.env); pure (ForInStep.yield ok) else pure (ForInStep.yield r)) (TP X pins σ Q) X.xe s
theorem pts_nil {X : Cx} : PTs X [] (fun _ H Q => Q true H) := fun _ _ _ H _ I h => wpAny_tests_nil ⟨H, I, h⟩
theorem pts_one {X : Cx} {c : Expr} {t : TT} (h : PT X c t) : PTs X [c] t := fun pins s σ H Q I hw => wpAny_tests_one (h pins s σ H Q I hw)

/-- the free names of a block: name, slot in the outer frame -/
structure FrOk (X : Cx) (scope : Scope) (fr : List (Str × Nat)) : Prop where
  slots : ∀ p ∈ fr, X.N[p.2]? = some p.1 ∧ (X.env.kindOf p.1 = some .cell ∨ X.env.kindOf p.1 = some .free)
  kind : ∀ p ∈ fr, scope.names.lookup p.1 = some .free
/-- the block's slots: its own names, then the free ones -/
def inN (locs : List Str) (fr : List (Str × Nat)) : List Str := locs ++ fr.map (·.1)
def inS (locs : List Str) (fr : List (Str × Nat)) (σ : St) : St := List.replicate locs.length none ++ fr.map fun p => (σ[p.2]?).join

/-- the free names' values -/
def inF (fr : List (Str × Nat)) (σ : St) : St := fr.map fun p => (σ[p.2]?).join
/-- one turn of a block: ls are the block's own slots as the turn before has left them -/
def tTurn (n : Nat) (fv : St) (g : TG) (tt : TTs) (te : TE) (x : V) (H : Hp) (Y : V → Hp → Prop) (N : Hp → Prop) : Prop :=
  ∀ ls : St, ls.length = n → g x (ls ++ fv) H fun σ2 H2 => (∃ l2 : St, l2.length = n ∧ σ2 = l2 ++ fv) ∧ tt σ2 H2 fun b H3 => if b = true then te σ2 H3 Y else N H3
/-- W: by the turn, a measure, the items so far -/
def tCompW (J : It) (n : Nat) (fv : St) (g : TG) (tt : TTs) (te : TE) (Q : VK) (H1 : Hp) : Prop := ∃ W : Nat → Nat → List V → Hp → Prop, (∃ m, W 0 m [] H1) ∧ ∀ i m ys H, W i m ys H →
  (J.stop i H ∧ ys.length ≤ sizeLine ∧ ∀ l, H l = none → Q (.ref l) (upd H l (.lst ys))) ∨
  (J.go i H ∧ ys.length < sizeLine ∧ ∃ m', m' < m ∧ ∀ x H', J.yld i H x H' → tTurn n fv g tt te x H' (fun y H4 => W (i + 1) m' (ys ++ [y]) H4) fun H3 => W (i + 1) m' ys H3)
def tComp (n : Nat) (fr : List (Str × Nat)) (wi : TI) (g : TG) (tt : TTs) (te : TE) : TE := fun σ H Q => wi σ H fun J H1 => tCompW J n (inF fr σ) g tt te Q H1

theorem hok_add {P : Program} {w : World} {H : Hp} {h : Heap} {D : Addr} {o : HO} (ok : HOk P w H h) (hn : H D = none) (new : ObjOk P w (upd H D o) h D o) : HOk P w (upd H D o) h := fun b u e => by
  by_cases hb : b = D
  · subst hb; rw [upd_same] at e; cases e; exact new
  · rw [upd_ne hb] at e
    exact (ok b u e).stay (fun _ _ _ q => q) (fun c q => by rw [upd_ne (ne_of_none q hn)]; exact q) fun c xs q => by rw [upd_ne (ne_of_none q hn)]; exact q

section
variable {X : Cx} {tg elt iter : Expr} {ifs : List Expr} {scope : Scope} {pos : Pos} {locs : List Str} {fr : List (Str × Nat)} {g : TG} {tt : TTs} {te : TE}

/-- the block, from the iterator on; RR: what is wanted of its list, its frame, its end -/
theorem comp_core {pins : List (Addr × Obj)} {σ : St} {H1 : Hp} {s2 : Shared} {it : Addr} {fp : List Addr} {tn : Nat → Heap → Prop} {J : It} {cl : List (Str × Addr)} {E : Value → Shared → Prop}
    {RR : Value → Addr → Result → Shared → Prop} {QQ : List V → Hp → Prop}
    (hc : X.calm = true) (hkind : scope.kind = .function) (hcell : ∀ y ∈ scope.names, y.2 ≠ .cell) (hlo : ∀ x ∈ locs, scope.names.lookup x = some .local) (F : FrOk X scope fr) (hnd : (inN locs fr).Nodup)
    (cl1 : ∀ x c, cl.lookup x = some c → X.env.cells.lookup x = some c) (cl2 : ∀ x, (x, NameKind.free) ∈ scope.names → ∃ c, cl.lookup x = some c)
    (inner : ∀ (C : Addr) (s0 : Shared) (H0 : Hp) (ex : List Addr) (pn : List (Addr × Obj)), PG (ccx X scope cl C (inN locs fr) s0 H0 ex pn) tg g ∧ PTs (ccx X scope cl C (inN locs fr) s0 H0 ex pn) ifs tt ∧ PE (ccx X scope cl C (inN locs fr) s0 H0 ex pn) elt te)
    (I : Inv X pins σ H1 s2) (T : Turn X.prog X.w X.K tg J fp it tn) (st0 : tn 0 s2.heap) (hf : ∀ b ∈ fp, FpOk X pins H1 b)
    {W : Nat → Nat → List V → Hp → Prop} (w0 : ∃ m, W 0 m [] H1) (turn : ∀ i m ys H, W i m ys H →
      (J.stop i H ∧ ys.length ≤ sizeLine ∧ QQ ys H) ∨
      (J.go i H ∧ ys.length < sizeLine ∧ ∃ m', m' < m ∧ ∀ x H', J.yld i H x H' → tTurn locs.length (inF fr σ) g tt te x H' (fun y H4 => W (i + 1) m' (ys ++ [y]) H4) fun H3 => W (i + 1) m' ys H3))
    (hRR : ∀ (D C : Addr) (ys : List V) (H' : Hp) (s' : Shared) (m : Str → Option Value), H' D = none → D ≠ C → Inv X pins σ (upd H' D (.lst ys)) s' → FpOk X pins (upd H' D (.lst ys)) C → s'.heap.Ns C m → QQ ys H' → RR (.ref D) C (.ok .next) s') :
    wpAny (model X.prog X.w) X.A (newList []) (fun acc s₃ => wpAny (model X.prog X.w) X.A (newFunctionEnv scope X.env.globals cl [] X.env.qual none .none (some X.env)) (fun cenv s₄ =>
      codeAny (model X.prog X.w) X.A (.compStart (.ListComp elt [⟨tg, iter, ifs, 0⟩] scope pos) 0 (.ref it) acc { cenv with scope := relabel scope X.env }) (RR acc cenv.locals) s₄) E s₃) E s2 := by
  refine wpAny_newObj_type (wpAny_newFunctionEnv hcell (by intro y hy; simp at hy) (fun h₁ hns₁ hsb₁ => ?_) hkind)
  dsimp only at hns₁ hsb₁ ⊢
  generalize hH2 : s2.heap.push { cls := .type "list", dict := none, data := .seq ([] : List Value).toArray } = Hq at hns₁ hsb₁ ⊢
  have hC : Hq.objs.size = s2.heap.objs.size + 1 := by rw [← hH2, Heap.size_push]
  generalize hDe : s2.heap.objs.size = D at hC ⊢
  generalize hCe : Hq.objs.size = C at hC hns₁ hsb₁ ⊢
  have hDC : D ≠ C := by omega
  have below : ∀ b, b < D → b ≠ C ∧ b ≠ D := fun b hb => ⟨by omega, by omega⟩
  have ltD : ∀ {b : Addr} {o : Obj}, s2.heap.get? b = some o → b < D := fun e => hDe ▸ Heap.lt_size e
  have old : ∀ b o, s2.heap.get? b = some o → h₁.get? b = some o := fun b o e => hsb₁.extBut b o (below b (ltD e)).1 (Heap.get?_push_of_some _ (hH2 ▸ Heap.get?_push_of_some _ e))
  have hacc : h₁.PlainList D #[] := ⟨_, hsb₁.extBut _ _ hDC (Heap.get?_push_of_some _ (by subst hDe; exact hH2 ▸ Heap.get?_push_size _ rfl))⟩
  -- the block's context
  let X' : Cx := ccx X scope cl C (inN locs fr) s2 H1 fp (X.pn ++ pins)
  have ltC : s2.heap.objs.size ≤ C := by rw [hDe, hC]; exact Nat.le_succ _
  have fpC : FpOk X pins H1 C := I.fpOk ltC (I.hok.fresh ltC)
  have fpD : FpOk X pins H1 D := I.fpOk (Nat.le_of_eq hDe) (I.hok.fresh (Nat.le_of_eq hDe))
  have stkN : ∀ b, b ≠ X.env.locals → b ∉ X.fs → b ∉ frs X.stack := fun b h1 h2 z => (List.mem_cons.mp (I.stkSub b z)).elim h1 h2
  have ok' : X'.Ok := by
    refine ⟨I.ok.mod, hkind, I.ok.glob, I.ok.blt, ltC, fun x y c h1 h2 => I.ok.inj x y c (cl1 x c h1) (cl1 y c h2), fun x hx => ?_, fun x c h => ?_, I.ok.hd, I.ok.frames, .inl rfl, fun b hb => ?_, fun b o e => I.bs b o e, Nat.le_trans I.ok.bsz I.sz, fun b o e hb => ?_, fun b hb => ?_, I.stack, I.stkFree⟩
    · obtain ⟨c, hcc⟩ := cl2 x (relabel_mem hcell hx)
      exact ⟨c, hcc⟩
    · cases h
    · refine ⟨fun z => ?_, fun x c e => (hf b hb).2.2.2.2.1 x c (cl1 x c e)⟩
      obtain ⟨o, ho, _⟩ := T.obj _ _ st0 b hb
      have z' : b = C := z
      exact (below b (ltD ho)).1 z'
    · have hb' := hf b hb
      rcases hb'.2.2.2.1 with z | z
      · exact I.ok.noex b o e z
      · exact absurd (Nat.lt_of_lt_of_le (Heap.lt_size e) (Nat.le_trans I.ok.bsz z)) (Nat.lt_irrefl _)
    · exact stkN b (hf b hb).2.1 (hf b hb).2.2.1
  have I1 : Inv X' [] (inS locs fr σ) H1 { s2 with heap := h₁, toks := s2.toks + ([] : List (Str × Value)).length } := by
    refine ⟨ok', I.os.symm ▸ rfl, I.bare, Un.kept old, ⟨_, hns₁, fun i x v h1 h2 h3 => ?_⟩, fun x c e => ?_, I.hok.fresh ltC, fun x c e => I.freeC x c (cl1 x c e), fun p hp => ?_, I.hok.kept old, ?_⟩
    · -- a slot of the block that has a value is a free name's
      have hge : locs.length ≤ i := by
        by_cases hi : i < locs.length
        · unfold inS at h2
          rw [List.getElem?_append_left (by simpa using hi), List.getElem?_replicate, if_pos hi] at h2
          cases h2
        · omega
      have h1' : (fr.map (·.1))[i - locs.length]? = some x := by
        have h1 : (inN locs fr)[i]? = some x := h1
        unfold inN at h1
        rw [List.getElem?_append_right hge] at h1
        exact h1
      have h2' : (fr.map fun p => (σ[p.2]?).join)[i - locs.length]? = some (some v) := by
        unfold inS at h2
        rw [List.getElem?_append_right (by simpa using hge), List.length_replicate] at h2
        exact h2
      rw [List.getElem?_map] at h1' h2'
      cases e : fr[i - locs.length]? with
      | none => rw [e] at h1'; cases h1'
      | some p =>
        rw [e] at h1' h2'
        have ex : p.1 = x := Option.some.inj h1'
        have ev : (σ[p.2]?).join = some v := Option.some.inj h2'
        obtain ⟨f1, f2⟩ := F.slots p (List.mem_of_getElem? e)
        have ev' : σ[p.2]? = some (some v) := by
          cases q : σ[p.2]? with
          | none => rw [q] at ev; cases ev
          | some o => rw [q] at ev; cases o with
            | none => cases ev
            | some v' => cases ev; rfl
        obtain ⟨m0, hn0, hl0⟩ := I.loc
        have vis0 : Vis X.env.scope p.1 := by
          rcases f2 with z | z
          · exact .inr (.inl z)
          · exact .inr (.inr z)
        obtain ⟨u, ru, lk⟩ := hl0 p.2 p.1 v f1 ev' vis0
        have hxm : x ∉ locs := fun z => by
          have hnd' := hnd
          unfold inN at hnd'
          exact (List.nodup_append.mp hnd').2.2 x z x (List.mem_map.mpr ⟨p, List.mem_of_getElem? e, ex⟩) rfl
        refine ⟨u, ru, ?_⟩
        rcases lk with ⟨hk, _⟩ | ⟨hk, c, hcc, hce⟩
        · rcases f2 with z | z
          · rw [z] at hk; cases hk
          · rw [z] at hk; cases hk
        · -- in the block it is a cell or free name
          have h3 : Vis (relabel scope X.env) x := h3
          have hk' : (compEnvC scope cl C X.env).kindOf x = some .cell ∨ (compEnvC scope cl C X.env).kindOf x = some .free := by
            rcases h3 with z | z | z
            · exfalso
              have q := lookup_relabel_free (env := X.env) (F.kind p (List.mem_of_getElem? e))
              rw [ex] at q
              rcases q with q | q
              · have z' : some NameKind.local = some NameKind.cell := z.symm.trans q
                cases z'
              · have z' : some NameKind.local = some NameKind.free := z.symm.trans q
                cases z'
            · exact .inl z
            · exact .inr z
          obtain ⟨c', hc'⟩ := cl2 x (relabel_mem hcell hk')
          have := cl1 x c' hc'
          rw [← ex, hcc] at this
          cases this
          refine .inr ⟨hk', c, hc', ?_⟩
          obtain ⟨o, ho, hd⟩ := hce
          exact ⟨o, old _ _ ho, hd⟩
    · obtain ⟨v, o, ho, hd⟩ := I.cell x c (cl1 x c e)
      exact ⟨v, o, old _ _ ho, hd⟩
    · have hp' : p ∈ X.pn ++ pins := (List.mem_append.mp hp).elim id fun z => nomatch z
      obtain ⟨e, n, ne, nf, d⟩ := I.pin p hp'
      exact ⟨old _ _ e, n, (below _ (ltD e)).1, stkN _ ne nf, d⟩
    · show (inS locs fr σ).length = (inN locs fr).length
      unfold inS inN
      simp
  have fpLt : ∀ b ∈ fp, b < D := fun b hb => by
    obtain ⟨o, ho, _⟩ := T.obj _ _ st0 b hb
    exact ltD ho
  obtain ⟨m0, w0⟩ := w0
  let oD : List Value → Nat → Obj := fun its k => { cls := .type "list", data := .seq its.toArray k }
  have stat : ∀ {H' : Hp} {ob : Obj}, (∀ b ∈ fp, H' b = none) → ∀ b ∈ fp, FpOk X' [(D, ob)] H' b := fun {H' ob} hn b hb => by
    obtain ⟨f0, f1, f2, f3, f4, f5⟩ := hf b hb
    refine ⟨hn b hb, (below b (fpLt b hb)).1, stkN b f1 f2, .inl hb, fun x c e => f4 x c (cl1 x c e), fun p hp z => ?_⟩
    rcases List.mem_append.mp hp with q | q
    · exact f5 p q z
    · have e : p = (D, ob) := by simpa using q
      subst e
      exact (below b (fpLt b hb)).2 z.symm
  have loop : ∀ s₃ : Shared, s₃ = { s2 with heap := h₁, toks := s2.toks + ([] : List (Str × Value)).length } →
      codeAny (model X.prog X.w) X.A (.compLoop (.ListComp elt [⟨tg, iter, ifs, 0⟩] scope pos) 0 (.ref it) (.ref D) (compEnvC scope cl C X.env)) (RR (.ref D) C) s₃ := by
    rintro s₃ rfl
    refine codeAny_compLoop_go (fun n s' => ∃ (i : Nat) (ls : St) (H' : Hp) (ys : List V) (its : List Value) (k : Nat), ls.length = locs.length ∧ Inv X' [(D, oD its k)] (ls ++ inF fr σ) H' s' ∧ tn i s'.heap ∧ (∀ b ∈ fp, H' b = none) ∧ Vals ys its ∧ W i n ys H') ?_ m0 ?_
    · rintro n s3 ⟨i, ls, H3, ys, its, k, hls, I3, st3, fr3, rv, w3⟩
      rcases turn i n ys H3 w3 with ⟨stop, hz, q⟩ | ⟨go, hz, m', hm, step⟩
      · refine thn (T.done X' rfl rfl rfl hc i _ s3 _ H3 (fun _ _ => False) I3 (stat fr3) st3 stop) fun r s4 ⟨hr, I4⟩ => ?_
        subst hr
        obtain ⟨pD, nD, _, _, _⟩ := I4.pin (D, oD its k) (List.mem_append_right _ List.mem_cons_self)
        have nD : H3 D = none := nD
        obtain ⟨mC, hnC, _⟩ := I4.loc
        have hnC : s4.heap.Ns C mC := hnC
        have nC : H3 C = none := I4.free
        have new : ObjOk X.prog X.w (upd H3 D (.lst ys)) s4.heap D (.lst ys) := ⟨hz, its, k, rv, pD⟩
        have hok4 : HOk X.prog X.w (upd H3 D (.lst ys)) s4.heap := hok_add I4.hok nD new
        have u4 : Un (frs X.stack) fp H1 H3 s2.heap s4.heap := I4.base
        have u5 : Un (frs X.stack) fp H1 (upd H3 D (.lst ys)) s2.heap s4.heap := by
          refine ⟨u4.keep, u4.slot, fun b o e n hx => ?_, u4.there, fun b xs e => ?_, fun b o u e => ?_, fun b ps e => ?_⟩
          · rw [upd_ne (below b (ltD e)).2]; exact u4.free b o e n hx
          · rw [upd_ne (ne_of_none e fpD.1)]; exact u4.tups b xs e
          · rw [upd_ne (ne_of_none e fpD.1)]; exact u4.frzs b o u e
          · rw [upd_ne (ne_of_none e fpD.1)]; exact u4.tbls b ps e
        have I5 : Inv X pins σ (upd H3 D (.lst ys)) s4 := by
          refine I.call' (ch := fp) ?_ u5 hok4 I4.bare fun b hb => ?_
          · have : s4.os = s2.os := I4.os
            exact this
          · obtain ⟨f0, f1, f2, f3, f4, f5⟩ := hf b hb
            exact ⟨f3, f1, f4, f5⟩
        have fpC' : FpOk X pins (upd H3 D (.lst ys)) C := I.fpOk ltC (by rw [upd_ne hDC.symm]; exact nC)
        exact hRR D C ys H3 s4 mC nD hDC I5 fpC' hnC q
      · refine thn (T.item X' rfl rfl rfl hc i _ s3 _ H3 (fun _ _ => False) I3 (stat fr3) st3 go) fun r s4 ⟨u, hr, h4⟩ => ?_
        subst hr
        refine thn h4 fun _ s5 ⟨x, H5, I5, r5, y5, st5, fr5⟩ => ?_
        obtain ⟨hg, htt, hte⟩ := inner C s2 H1 fp (X.pn ++ pins)
        have I5' := I5.pinned (stat fr5) (T.obj _ _ st5)
        refine thn (hg _ s5 _ H5 x u _ I5' r5 (step x H5 y5 ls hls)) fun _ s6 ⟨σ6, H6, I6, ⟨l6, hl6, e6⟩, q6⟩ => ?_
        subst e6
        refine thn (htt _ s6 _ H6 _ I6 q6) fun ok s7 ⟨H7, I7, q7⟩ => ?_
        have again : ∀ {H8 : Hp} {s8 : Shared}, Inv X' ([(D, oD its k)] ++ pinsAt fp s5.heap) (l6 ++ inF fr σ) H8 s8 → tn (i + 1) s8.heap ∧ ∀ b ∈ fp, H8 b = none := fun {H8 s8} I8 => by
          refine ⟨T.keep _ _ _ st5 fun b hb o e => (I8.pin (b, o) (List.mem_append_right _ (List.mem_append_right _ (mem_pinsAt hb e)))).1, fun b hb => ?_⟩
          obtain ⟨o, e, d⟩ := T.obj _ _ st5 b hb
          exact (I8.pin (b, o) (List.mem_append_right _ (List.mem_append_right _ (mem_pinsAt hb e)))).2.1
        cases ok with
        | false =>
          rw [if_neg Bool.false_ne_true] at q7 ⊢
          obtain ⟨a1, a2⟩ := again I7
          exact ⟨m', hm, i + 1, l6, H7, ys, its, k, hl6, I7.unpinned, a1, a2, rv, q7⟩
        | true =>
          rw [if_pos rfl] at q7 ⊢
          refine thn (hte _ s7 _ H7 _ I7 q7) fun yv s8 ⟨y, H8, I8, r8, q8⟩ => ?_
          obtain ⟨a1, a2⟩ := again I8
          obtain ⟨pD, nD, _, nfD, _⟩ := I8.pin (D, oD its k) (List.mem_append_right _ (List.mem_append_left _ List.mem_cons_self))
          have nD : H8 D = none := nD
          have hl8 : s8.heap.PlainList D its.toArray := ⟨k, pD⟩
          have hlen : its.toArray.size ≤ sizeLine := by
            rw [List.size_toArray, ← rv.length]; omega
          refine wpAny_list_append_plain (hsz := hlen) hl8 fun h9 hl9 hs9 => ?_
          obtain ⟨k9, e9⟩ := hl9
          have I9 : Inv X' (pinsAt fp s5.heap) (l6 ++ inF fr σ) H8 s8 := I8.pins_of fun p hp => I8.pin p (List.mem_append_right _ (List.mem_append_right _ hp))
          have I10 : Inv X' (pinsAt fp s5.heap) (l6 ++ inF fr σ) H8 { s8 with heap := h9 } := by
            refine I9.turned (it := D) (t' := s8.toks) (fun b o hb e => (hs9.2 b hb).trans e) nD ?_ ?_ ?_ ?_
            · exact hDC
            · exact .inr (Nat.le_of_eq hDe)
            · exact fun x c e => fpD.2.2.2.2.1 x c (cl1 x c e)
            · intro p hp z
              rcases List.mem_append.mp hp with q | q
              · exact fpD.2.2.2.2.2 p q z
              · have := fpLt p.1 (of_pinsAt q).1
                exact (below p.1 this).2 z
          have e9' : h9.get? D = some (oD (its ++ [yv]) k9) := by
            rw [e9]; simp [oD]
          have I11 : Inv X' [(D, oD (its ++ [yv]) k9)] (l6 ++ inF fr σ) H8 { s8 with heap := h9 } := I10.pins_of fun p hp => by
            have e : p = (D, oD (its ++ [yv]) k9) := by simpa using hp
            subst e
            exact ⟨e9', nD, hDC, nfD, fun v z => by cases z⟩
          refine ⟨m', hm, i + 1, l6, H8, ys ++ [y], its ++ [yv], k9, hl6, I11, ?_, a2, Vals.append rv (.cons r8 .nil), q8⟩
          exact T.keep _ _ _ a1 fun b hb o e => (hs9.2 b (below b (fpLt b hb)).2).trans e
    · have e0 : List.replicate locs.length none ++ inF fr σ = inS locs fr σ := rfl
      obtain ⟨k0, eD⟩ := hacc
      refine ⟨0, List.replicate locs.length none, H1, [], [], k0, by simp, ?_, T.keep _ _ _ st0 fun b _ o e => old b o e, fun b hb => (hf b hb).1, .nil, w0⟩
      rw [e0]
      refine I1.pins_of fun p hp => ?_
      have e : p = (D, oD [] k0) := by simpa using hp
      subst e
      exact ⟨eD, fpD.1, hDC, stkN D fpD.2.1 fpD.2.2.1, fun v z => by cases z⟩
  exact codeAny_compStart_list (loop _ rfl) (T.self _ 0 _ _ _ (T.keep _ _ _ st0 fun b _ o e => old b o e) (loop _ rfl))

/-- what a block's text must have -/
structure CompOk (X : Cx) (scope : Scope) (locs : List Str) (fr : List (Str × Nat)) : Prop where
  kind : scope.kind = .function
  nocell : ∀ y ∈ scope.names, y.2 ≠ .cell
  names : ∀ y ∈ scope.names, y.2 = .local → scope.names.lookup y.1 = some .local
  own : ∀ x ∈ locs, scope.names.lookup x = some .local
  free : ∀ y ∈ scope.names, y.2 = .free → y.1 ∈ fr.map (·.1)
  nd : (inN locs fr).Nodup
theorem FrOk.nil : FrOk X scope [] := ⟨(fun _ h => nomatch h), (fun _ h => nomatch h)⟩
theorem FrOk.cons {x : Str} {j : Nat} {fr : List (Str × Nat)} (h1 : X.N[j]? = some x) (h2 : X.env.kindOf x = some .cell ∨ X.env.kindOf x = some .free) (h3 : scope.names.lookup x = some .free) (t : FrOk X scope fr) : FrOk X scope ((x, j) :: fr) :=
  ⟨fun p hp => (List.mem_cons.mp hp).elim (fun e => by subst e; exact ⟨h1, h2⟩) (t.slots p), fun p hp => (List.mem_cons.mp hp).elim (fun e => by subst e; exact h3) (t.kind p)⟩
theorem CompOk.clos {pins : List (Addr × Obj)} {σ : St} {H : Hp} {s : Shared} (S : CompOk X scope locs fr) (F : FrOk X scope fr) (I : Inv X pins σ H s) :
    ∃ cl, closureFor scope X.env = pure cl ∧ (∀ x c, cl.lookup x = some c → X.env.cells.lookup x = some c) ∧ (∀ x, (x, NameKind.free) ∈ scope.names → ∃ c, cl.lookup x = some c) := by
  refine closure_of fun p hp hk => ?_
  obtain ⟨q, hq, e⟩ := List.mem_map.mp (S.free p hp hk)
  obtain ⟨c, hc⟩ := I.ok.has q.1 (F.slots q hq).2
  exact ⟨c, e ▸ hc⟩

theorem pe_lcomp {wi : TI} (S : CompOk X scope locs fr) (F : FrOk X scope fr) (hc : X.calm = true) (hi : PI X tg iter wi)
    (inner : ∀ (cl : List (Str × Addr)) (C : Addr) (s0 : Shared) (H0 : Hp) (ex : List Addr) (pn : List (Addr × Obj)), PG (ccx X scope cl C (inN locs fr) s0 H0 ex pn) tg g ∧ PTs (ccx X scope cl C (inN locs fr) s0 H0 ex pn) ifs tt ∧ PE (ccx X scope cl C (inN locs fr) s0 H0 ex pn) elt te)
    (hs : ∀ x, foldedSetIterable iter X.env x = pure x := by intro _; rfl) : PE X (.ListComp elt [⟨tg, iter, ifs, 0⟩] scope pos) (tComp locs.length fr wi g tt te) := by
  intro pins s σ H Q I h
  obtain ⟨cl, hcl, cl1, cl2⟩ := S.clos F I
  rw [eval_ListComp]
  refine wpAny_comprehension_free (use := none) rfl hs hcl S.kind S.names (thn (hi pins s σ H _ I h) fun v s1 h1 => thn h1 fun itv s2 h2 => ?_)
  obtain ⟨it, fp, tn, J, H1, e, I2, T, st2, f2, W, w0, turn⟩ := h2
  subst e
  refine comp_core (QQ := fun ys H' => ∀ l, H' l = none → Q (.ref l) (upd H' l (.lst ys))) hc S.kind S.nocell S.own F S.nd cl1 cl2 (inner cl) I2 T st2 f2 w0 turn fun D C ys H' s' m nD hDC I' fC hn q => ?_
  refine ⟨m, hn, fun h' hs' => ?_⟩
  obtain ⟨f0, f1, f2, f3, f4, f5⟩ := fC
  exact ⟨.ref D, _, I'.turned (it := C) (t' := s'.toks) (fun b o hb e => (hs'.2 b hb).trans e) f0 f1 f3 f4 f5, rfl, q D nD⟩

/-- name = [.. for ..] -/
theorem ps_setC {wi : TI} {i : Nat} {x : Str} {pos' spos : Pos} (S : CompOk X scope locs fr) (F : FrOk X scope fr) (hc : X.calm = true) (hi : PI X tg iter wi)
    (inner : ∀ (cl : List (Str × Addr)) (C : Addr) (s0 : Shared) (H0 : Hp) (ex : List Addr) (pn : List (Addr × Obj)), PG (ccx X scope cl C (inN locs fr) s0 H0 ex pn) tg g ∧ PTs (ccx X scope cl C (inN locs fr) s0 H0 ex pn) ifs tt ∧ PE (ccx X scope cl C (inN locs fr) s0 H0 ex pn) elt te)
    (hN : X.N.Nodup) (hi0 : X.N[i]? = some x) (hx : X.env.scope.names.lookup x = some .local) (hsw : swapsWith (.ListComp elt [⟨tg, iter, ifs, 0⟩] scope pos) (some (.Name x pos')) spos.line X.env = pure true)
    (hs : ∀ x, foldedSetIterable iter X.env x = pure x := by intro _; rfl) : PS X (.Assign [.Name x pos'] (.ListComp elt [⟨tg, iter, ifs, 0⟩] scope pos) spos) (tAsg (tComp locs.length fr wi g tt te) (gName i)) := by
  intro pins s σ H D0 I h
  obtain ⟨cl, hcl, cl1, cl2⟩ := S.clos F I
  rw [exec_Assign_Name_used _ _ _ _ hsw]
  refine wpAny_bind (wpAny_standAt (wpAny_bind ?_))
  show wpAny _ X.A (do let _ ← comprehension (.ListComp elt [⟨tg, iter, ifs, 0⟩] scope pos) scope X.env _ (newList []) false (eval iter X.env) (some (assign (.Name x pos') X.env))) _ _ s
  refine wpAny_bind (wpAny_mono (wpAny_comprehension_free (use := some (assign (.Name x pos') X.env)) (Q := fun _ s' => SP X pins D0 .next s') rfl hs hcl S.kind S.names (thn (hi pins s σ H _ I h) fun v s1 h1 => thn h1 fun itv s2 h2 => ?_)) (fun _ s' hq => wpAny_pure (wpAny_pure hq)) fun _ _ e => e)
  obtain ⟨it, fp, tn, J, H1, e, I2, T, st2, f2, W, w0, turn⟩ := h2
  subst e
  refine comp_core (QQ := fun ys H' => ∀ l, H' l = none → gName i (.ref l) σ (upd H' l (.lst ys)) D0.nx) hc S.kind S.nocell S.own F S.nd cl1 cl2 (inner cl) I2 T st2 f2 w0 turn fun D C ys H' s' m nD hDC I' fC hn q => ?_
  obtain ⟨f0, f1, f2, f3, f4, f5⟩ := fC
  obtain ⟨oC, es, ep, hoC, hdC, hrC⟩ := id hn
  have I6 : Inv X (pins ++ [(C, oC)]) σ (upd H' D (.lst ys)) s' := I'.pins_of fun p hp => (List.mem_append.mp hp).elim (fun z => I'.pin p (List.mem_append_right _ z)) fun z => by
    have e : p = (C, oC) := by simpa using z
    subst e
    exact ⟨hoC, f0, f1, f2, fun v z => by rw [hdC] at z; cases z⟩
  refine wpAny_assign_Name (store_ok (v := .ref D) I6 hN hi0 (.inl hx) rfl (fun s'' I'' => ?_) (.inr hx))
  obtain ⟨p1, p2, p3, p4, p5⟩ := I''.pin (C, oC) (List.mem_append_right _ (List.mem_append_right _ List.mem_cons_self))
  refine ⟨m, ⟨oC, es, ep, p1, hdC, hrC⟩, fun h' hs' => ?_⟩
  have I7 : Inv X pins (σ.set i (some (.ref D))) (upd H' D (.lst ys)) s'' := I''.unpinned
  exact ⟨_, _, I7.turned (it := C) (t' := s''.toks) (fun b o hb e => (hs'.2 b hb).trans e) p2 p3 f3 f4 f5, q D nD⟩
end

/-! ### within a block -/
section
variable {X : Cx} {scope : Scope} {cl : List (Str × Addr)} {C : Addr} {N' : List Str} {s0 : Shared} {H0 : Hp} {ex : List Addr} {pn : List (Addr × Obj)}
theorem pvL (i : Nat) {x : Str} {pos : Pos} (hN : N'[i]? = some x := by rfl) (h : scope.names.lookup x = some .local := by rfl) (hd : (x == ("__debug__" : Str)) = false := by decide) (hcd : (x == ("__classdict__" : Str)) = false := by decide) :
    PE (ccx X scope cl C N' s0 H0 ex pn) (.Name x pos) (tVar i) := pe_var hN (.inl (lookup_relabel_local h)) hd hcd
theorem pvF (i : Nat) {x : Str} {pos : Pos} (hN : N'[i]? = some x := by rfl) (h : scope.names.lookup x = some .free := by rfl) (hd : (x == ("__debug__" : Str)) = false := by decide) (hcd : (x == ("__classdict__" : Str)) = false := by decide) :
    PE (ccx X scope cl C N' s0 H0 ex pn) (.Name x pos) (tVar i) := pe_var hN ((lookup_relabel_free h).elim (fun z => .inr (.inl z)) fun z => .inr (.inr z)) hd hcd
theorem pgL (i : Nat) {x : Str} {pos : Pos} (hnd : N'.Nodup) (hN : N'[i]? = some x := by rfl) (h : scope.names.lookup x = some .local := by rfl) : PG (ccx X scope cl C N' s0 H0 ex pn) (.Name x pos) (gName i) :=
  pg_name (X := ccx X scope cl C N' s0 H0 ex pn) hnd hN (.inl (lookup_relabel_local h)) (.inr (lookup_relabel_local h))
end
end L2

end
section
set_option Elab.async false
set_option linter.all false
set_option maxRecDepth 100000
set_option maxHeartbeats 4000000
/-! MORE RULES over the layer: texts walked and cut, join, all, sum, sorted, zip, isinstance, is. -/
namespace L2
open PySem PySem.Spec PyProof.Rows

/-! ### the signs of a text -/

/-! ### comparisons of texts, is -/
section
variable {X : Cx}
end

/-! ### a cut of a text -/
theorem isPart_opt {v : Value} {o : Option Int} (h : IsPart v o) : ∃ l : Option (Int × Tok), v = partValue l ∧ l.map (·.1) = o := by
  cases h with
  | none => exact ⟨none, rfl, rfl⟩
  | int i t => exact ⟨some (i, t), rfl, rfl⟩
section
variable {X : Cx}
theorem sl_str : SlR X (fun x lo hi H Q => ∃ z, x = .str z ∧ z.length ≤ sizeLine ∧ Q (.str (Txt.slice z lo hi)) H) := by
  intro pins s σ H x v vl vu lo hi sl Q I rx hs pl pu h
  obtain ⟨z, rfl, hz, q⟩ := h
  obtain ⟨t, rfl⟩ := rx
  obtain ⟨l, rfl, rfl⟩ := isPart_opt pl
  obtain ⟨u, rfl, rfl⟩ := isPart_opt pu
  refine ⟨"str", _, F.slot_str_getitem.lookup, typeIs_str _ _ _, ?_⟩
  refine wpAny_getItem_str_slice (l := l) (u := u) (st := none) hs rfl (post_val_or_str ⟨Nat.le_trans (Txt.slice_le z _ _) hz, fun t' k => ?_⟩)
  exact ⟨.str _, H, I.tok _, ⟨t', rfl⟩, q⟩
end

/-! ### join -/
theorem strsAre_of {ys : List Str} : ∀ {us : List Value}, Vals (ys.map V.str) us → StrsAre us ys := by
  induction ys with
  | nil => intro us r; rw [List.map_nil] at r; cases r; exact .nil
  | cons n ns ih =>
    intro us r
    rw [List.map_cons] at r
    cases r with
    | cons r1 r2 =>
      obtain ⟨t, e⟩ := r1
      subst e
      exact .cons n t (ih r2)
section
variable {X : Cx}
theorem mt_join : MtR X "str.join" (fun x xs H Q => ∃ sep a ys, x = .str sep ∧ xs = [.ref a] ∧ SqL X.K H a (ys.map V.str) ∧ (ys.map (·.length)).sum + ys.length * sep.length ≤ 16777216 ∧ Q (.str (Txt.join sep ys)) H) := by
  intro pins s σ H x xs v us Q I rx rs h
  obtain ⟨sep, a, ys, rfl, rfl, ha, hz, q⟩ := h
  obtain ⟨t, rfl⟩ := rx
  obtain ⟨u, rfl, ru⟩ := vals1 rs
  cases ru
  obtain ⟨its, r, p, _⟩ := I.list ha
  exact join_list p.isList (strsAre_of r) hz fun t' k => ⟨.str _, H, I.tok _, ⟨t', rfl⟩, q⟩

/-! ### all, sum, sorted -/

theorem call_isinst : CallR X (.builtin "isinstance") (fun xs H Q => ∃ x n t b, xs = [x, .ty n] ∧ TyOf X.K H x t ∧ PySem.W.kitOne X.K t (.type n) = some b ∧ Q (.bl b) H) := by
  intro pins s σ H xs us Q I r h
  obtain ⟨x, n, t, b, rfl, ty, e, q⟩ := h
  obtain ⟨u, w', rfl, ru, rw'⟩ := vals2 r
  cases rw'
  exact isinst_ok I ru ty e fun tk => ⟨.bl b, H, I.tok _, rfl, q⟩
theorem valsI : ∀ {us : List Value} {ns : List Int}, IntsAre us ns → Vals (ns.map V.int) us
  | _, _, .nil => .nil
  | _, _, .cons n t h => .cons ⟨t, rfl⟩ (valsI h)
/-- sorted of ints: rising -/
theorem call_sorted : CallR X (.builtin "sorted") (fun xs H Q => ∃ (a : Addr) (ns : List Int), xs = [.ref a] ∧ SqL X.K H a (ns.map V.int) ∧ ns.length < 64 ∧
    ∀ (l : Addr) (ms : List Int), H l = none → ms.Perm ns → ms.Pairwise (· ≤ ·) → Q (.ref l) (upd H l (.lst (ms.map V.int)))) := by
  intro pins s σ H xs us Q I r h
  obtain ⟨a, ns, rfl, ha, hl, q⟩ := h
  obtain ⟨u, rfl, ru⟩ := vals1 r
  cases ru
  obtain ⟨its, rv, p, _⟩ := I.list ha
  have hlen : ns.length = its.length := by have := rv.length; simpa using this
  refine sorted_ints p.isList (intsAre_of rv) (by omega) fun out ms h1 h2 h3 => ?_
  obtain ⟨e, he⟩ := sortedAll_at s.heap its out
  have hz : ms.length = ns.length := h2.length_eq
  refine ⟨.ref (s.heap.objs.size + 1), _, I.laid (t' := s.toks) (o := .lst (ms.map V.int)) (fun b o => sortedAll_old) (Nat.le_succ _) ?_, rfl, q _ ms (I.hok.fresh (Nat.le_succ _)) h2 h3⟩
  exact ⟨by rw [List.length_map, hz]; exact Nat.le_trans (Nat.le_of_lt hl) (by decide), out.toList, e, valsI h1, by simpa using he⟩
/-- a built-in function with one keyword, a constant -/
def CallK (X : Cx) (f : Value) (kw : Str) (r : List V → V → Hp → VK → Prop) : Prop :=
  ∀ (pins : List (Addr × Obj)) (s : Shared) (σ : St) (H : Hp) (xs : List V) (us : List Value) (k : V) (ku : Value) (Q : VK), Inv X pins σ H s → Vals xs us → RelV k ku → r xs k H Q →
    wpAny (model X.prog X.w) X.A (call f us [(kw, ku)]) (EP X pins σ Q) X.xe s
end
/-! isinstance of built-in kinds -/
section
variable {K : PySem.W.Frag}
theorem ii_same (n : String) : PySem.W.kitOne K (.type n) (.type n) = some true := by unfold PySem.W.kitOne; simp
end
end L2

end
section
set_option Elab.async false
set_option linter.all false
set_option maxRecDepth 100000
set_option maxHeartbeats 4000000
/-! THE FRAME of our proofs: a def by its name, heaps without some addresses, data as trees. -/
namespace L2
open PySem PySem.Spec PyProof.Rows

/-- a def of the text under its own name -/
def Has (K : PySem.W.Frag) (mg : Str → Option Value) (x : Str) (st : Stmt) : Prop := ∃ f fd, Fun K x x st f fd ∧ mg x = some (.ref f)
/-- .. and what it promises -/
def Fn (P : Program) (w : World) (K : PySem.W.Frag) (mg : Str → Option Value) (base : Heap) (x : Str) (ps : List Str) (k : Nat) (sp : Sp) : Prop :=
  ∃ f fd, mg x = some (.ref f) ∧ PySem.W.keepIn K (.ref f) = true ∧ Binds K fd ps [] ∧ FnOk P w K mg base CX0 k f fd ps sp
theorem Fn.imp {P : Program} {w : World} {K : PySem.W.Frag} {mg : Str → Option Value} {base : Heap} {x : Str} {ps : List Str} {k : Nat} {sp sp' : Sp} (F : Fn P w K mg base x ps k sp) (h : ∀ vs H Q E, sp' vs H Q E → sp vs H Q E) : Fn P w K mg base x ps k sp' :=
  let ⟨f, fd, a, b, c, d⟩ := F; ⟨f, fd, a, b, c, d.imp h⟩
section
variable {P : Program} {w : World} {K : PySem.W.Frag} {mg : Str → Option Value} {base : Heap}
theorem Has.fn {x : Str} {st : Stmt} {N ps : List Str} {k : Nat} {sp : Sp} (h : Has K mg x st) (S : FnScope N ps (defScope st))
    (hb : ∀ (kV doc pm : Value) (an : Option Addr) (cdv ct : Value) (us : List Value), us.length = ps.length → bindArgs (PySem.W.fnOf x x (defArgs st) (defBody st) (defScope st) .none kV doc pm an cdv ct) ⟨us, []⟩ = pure (ps.zip us))
    (len : ∀ vs H Q E, sp vs H Q E → vs.length = ps.length)
    (hbody : ∀ (f : Addr) (cdv : Value) (A : Around) (outer : List Env) (s : Shared) (H : Hp) (vs : List V) (Q : VK) (E : XK), Room k (A.deeper (envOfC x (defScope st) s.heap.objs.size f cdv)) → sp vs H Q E →
      ∃ t, PSs (cxOf CX0 P w K mg base N x (defScope st) f cdv A outer s H E).nox (defBody st) t ∧ t { nx := fun _ H' => Q .non H', rt := Q } (start N vs) H) : Fn P w K mg base x ps (k + 1) sp := by
  obtain ⟨f, fd, F, hm⟩ := h
  exact ⟨f, fd, hm, F.kp, F.binds hb, F.ok S len fun cdv A outer s H vs Q E hr q => hbody f cdv A outer s H vs Q E hr q⟩
theorem has_mk {h : Heap} {x : Str} {st : Stmt} {f : Addr} {oc : Value} {od an : Option Addr} {osl : Array (Option Value)} {kV doc pm cdv ct : Value} (KX : K.In h) (G : h.Ns mainGlobals mg)
    (a : PySem.W.nsIn K mainGlobals x = some (some (.ref f))) (l : K.lookup f = some ⟨oc, od, .func (PySem.W.fnOf x x (defArgs st) (defBody st) (defScope st) .none kV doc pm an cdv ct), osl⟩)
    (c : PySem.W.codeIn K cdv x = true) (k : PySem.W.keepIn K (.ref f) = true) : Has K mg x st := ⟨f, _, fun_mk l c k, PySem.W.mg_of KX G a⟩
end
/-- a call of a def -/
def tFn (sp : Sp) (t : TA) : TE := fun σ H Q => t σ H fun vs H1 => sp vs H1 Q E0
section
variable {X : Cx}
theorem pe_fn {k : Nat} {ps : List Str} {sp : Sp} {x : Str} {p pos : Pos} {e : Expr} {es : List Expr} {t : TA} (F : Fn X.prog X.w X.K X.mg X.base x ps k sp) (hr : Room k X.A) (hg : Gl X x) (ha : PA X (e :: es) t)
    (hdb : (x == ("__debug__" : Str)) = false := by decide) (he : starEach (e :: es) X.env = (false, eval e X.env) :: starEach es X.env := by rfl) (hpl : (backTo pos (starEach es X.env)).any (·.1) = false := by rfl) :
    PE X (.Call (.Name x p) (e :: es) [] pos) (tFn sp t) := by
  obtain ⟨f, fd, hm, hk, hb, G⟩ := F
  intro pins s σ H Q I h
  refine pe_call G hr hg hm hk hb .nil pass0 ha hdb he hpl pins s σ H Q I ?_
  have e : tCall sp [] E0 t = tFn sp t := by
    unfold tCall tFn
    simp only [List.append_nil]
  rw [e]
  exact h
theorem op_neg : UnR X (unaryOp .USub) (rU fun i => .int (-i)) := by
  intro pins s σ H x v Q I rx h
  obtain ⟨i, rfl, q⟩ := h
  obtain ⟨t, rfl⟩ := rx
  exact neg_int ⟨.int (-i), H, I.tok _, ⟨_, rfl⟩, q⟩
end
theorem b_len : bootBuiltins "len" = some (.builtin "len") := by decide +kernel
theorem b_max : bootBuiltins "max" = some (.builtin "max") := by decide +kernel
theorem b_min : bootBuiltins "min" = some (.builtin "min") := by decide +kernel
theorem b_sorted : bootBuiltins "sorted" = some (.builtin "sorted") := by decide +kernel
theorem b_isinstance : bootBuiltins "isinstance" = some (.builtin "isinstance") := by decide +kernel
theorem b_list : bootBuiltins "list" = some (.type "list") := by decide +kernel
theorem b_bool : bootBuiltins "bool" = some (.type "bool") := by decide +kernel
theorem b_int : bootBuiltins "int" = some (.type "int") := by decide +kernel
theorem b_str : bootBuiltins "str" = some (.type "str") := by decide +kernel
theorem b_tuple : bootBuiltins "tuple" = some (.type "tuple") := by decide +kernel

/-! ### the heap without some addresses -/
/-- all but s is as it was -/
def SameX (s : Addr) (H H' : Hp) : Prop := ∀ b o, b ≠ s → H b = some o → H' b = some o
theorem SameX.refl {s : Addr} {H : Hp} : SameX s H H := fun _ _ _ e => e
theorem SameX.trans {s : Addr} {H H1 H2 : Hp} (a : SameX s H H1) (b : SameX s H1 H2) : SameX s H H2 := fun c o n e => b c o n (a c o n e)
theorem SameX.upd {s : Addr} {H : Hp} {o : HO} : SameX s H (upd H s o) := fun b _ n e => by rw [upd_ne n]; exact e
theorem SameX.new {s l : Addr} {H : Hp} {o : HO} (h : H l = none) : SameX s H (L2.upd H l o) := fun b _ _ e => by rw [upd_ne (ne_of_none e h)]; exact e
theorem Same.new {l : Addr} {H : Hp} {o : HO} (h : H l = none) : Same H (L2.upd H l o) := fun b _ e => by rw [upd_ne (ne_of_none e h)]; exact e
theorem Same.x {s : Addr} {H H' : Hp} (h : Same H H') : SameX s H H' := fun b o _ e => h b o e
/-- the source of the draws, at s, its cells at la -/
def SrcAt (H : Hp) (s la : Addr) : Prop := ∃ (ns : List Int) (i big st cnt : Int), H s = some (.lst [.ref la, .int i, .int big, .int st, .int cnt]) ∧ H la = some (.lst (ns.map V.int)) ∧ 0 ≤ i ∧ la ≠ s
theorem SrcAt.keep {H H' : Hp} {s la : Addr} (h : SrcAt H s la) (k : Same H H') : SrcAt H' s la := by
  obtain ⟨ns, i, big, st, cnt, h1, h2, h3, h4⟩ := h
  exact ⟨ns, i, big, st, cnt, k _ _ h1, k _ _ h2, h3, h4⟩
theorem SrcAt.keepX {H H' : Hp} {s la l : Addr} (h : SrcAt H s la) (k : SameX l H H') (n1 : l ≠ s) (n2 : l ≠ la) : SrcAt H' s la := by
  obtain ⟨ns, i, big, st, cnt, h1, h2, h3, h4⟩ := h
  exact ⟨ns, i, big, st, cnt, k _ _ n1.symm h1, k _ _ n2.symm h2, h3, h4⟩
theorem SrcAt.ne {H : Hp} {s la l : Addr} (h : SrcAt H s la) (hl : H l = none) : l ≠ s ∧ l ≠ la := by
  obtain ⟨ns, i, big, st, cnt, h1, h2, h3, h4⟩ := h
  exact ⟨(ne_of_none h1 hl).symm, (ne_of_none h2 hl).symm⟩
end L2
namespace L2
open PySem PySem.Spec PyProof.Rows
theorem iteD {c A B : Prop} [Decidable c] (h1 : c → A) (h2 : ¬ c → B) : if decide c = true then A else B := by
  by_cases h : c
  · rw [if_pos (decide_eq_true h)]; exact h1 h
  · rw [if_neg (by rw [decide_eq_false h]; exact Bool.false_ne_true)]; exact h2 h
theorem iteND {c A B : Prop} [Decidable c] (h1 : ¬ c → A) (h2 : c → B) : if (!decide c) = true then A else B := by
  by_cases h : c
  · rw [if_neg (by rw [decide_eq_true h]; exact Bool.false_ne_true)]; exact h2 h
  · rw [if_pos (by rw [decide_eq_false h]; rfl)]; exact h1 h
theorem iteB {b : Bool} {A B : Prop} (h1 : b = true → A) (h2 : b = false → B) : if b = true then A else B := by
  cases b
  · rw [if_neg Bool.false_ne_true]; exact h2 rfl
  · rw [if_pos rfl]; exact h1 rfl
theorem iteNB {b : Bool} {A B : Prop} (h1 : b = false → A) (h2 : b = true → B) : if (!b) = true then A else B := by
  cases b
  · exact h1 rfl
  · exact h2 rfl
theorem at_ints {ns : List Int} {i : Int} (h0 : 0 ≤ i) (h1 : i < (ns.map V.int).length) : atI (ns.map V.int) i = some (.int (ns.getD i.toNat 0)) := by
  obtain ⟨j, rfl⟩ := Int.eq_ofNat_of_zero_le h0
  rw [List.length_map] at h1
  refine atI_nat ?_
  rw [List.getElem?_map, Int.toNat_natCast, List.getD_eq_getElem?_getD, List.getElem?_eq_getElem (by omega)]
  rfl
end L2
/-! ### names, their kinds told ahead (so that nothing is looked up while a term is built) -/
namespace L2
open PySem PySem.Spec PyProof.Rows
def Nm (sc : Scope) (x : Str) (k : NameKind) : Prop := sc.names.lookup x = some k ∧ (x == ("__debug__" : Str)) = false ∧ (x == ("__classdict__" : Str)) = false ∧ x ≠ "__name__"
instance (sc : Scope) (x : Str) (k : NameKind) : Decidable (Nm sc x k) := by unfold Nm; exact inferInstance
section
variable {X : Cx} {x : Str} {pos : Pos}
theorem pvN (i : Nat) (n : Nm X.env.scope x .local) (hN : X.N[i]? = some x := by rfl) : PE X (.Name x pos) (tVar i) := pe_var hN (.inl n.1) n.2.1 n.2.2.1
theorem pvC (i : Nat) (n : Nm X.env.scope x .cell) (hN : X.N[i]? = some x := by rfl) : PE X (.Name x pos) (tVar i) := pe_var hN (.inr (.inl n.1)) n.2.1 n.2.2.1
theorem pe_bltnN {v : V} {u : Value} (n : Nm X.env.scope x .globalImplicit) (hm : X.mg x = none) (hv : bootBuiltins x = some u) (r : RelV v u) : PE X (.Name x pos) (tC v) := pe_bltn n.1 hm hv r n.2.2.2 n.2.1
theorem pe_fnN {k : Nat} {ps : List Str} {sp : Sp} {p : Pos} {e : Expr} {es : List Expr} {t : TA} (F : Fn X.prog X.w X.K X.mg X.base x ps k sp) (hr : Room k X.A) (n : Nm X.env.scope x .globalImplicit) (ha : PA X (e :: es) t)
    (he : starEach (e :: es) X.env = (false, eval e X.env) :: starEach es X.env := by rfl) (hpl : (backTo pos (starEach es X.env)).any (·.1) = false := by rfl) :
    PE X (.Call (.Name x p) (e :: es) [] pos) (tFn sp t) := pe_fn F hr n.1 ha n.2.1 he hpl
theorem pe_callBN {p : Pos} {e : Expr} {es : List Expr} {t : TA} {id : String} {r : List V → Hp → VK → Prop} (hc : CallR X (.builtin id) r) (n : Nm X.env.scope x .globalImplicit) (hm : X.mg x = none) (hv : bootBuiltins x = some (.builtin id)) (ha : PA X (e :: es) t)
    (he : starEach (e :: es) X.env = (false, eval e X.env) :: starEach es X.env := by rfl) (hpl : (backTo pos (starEach es X.env)).any (·.1) = false := by rfl) : PE X (.Call (.Name x p) (e :: es) [] pos) (tCB r t) := pe_callB hc n.1 hm hv ha n.2.2.2 n.2.1 he hpl
theorem pe_callTyN {p : Pos} {e : Expr} {es : List Expr} {t : TA} {T : String} {r : List V → Hp → VK → Prop} (hc : CallR X (.type T) r) (n : Nm X.env.scope x .globalImplicit) (hm : X.mg x = none) (hv : bootBuiltins x = some (.type T)) (ha : PA X (e :: es) t)
    (he : starEach (e :: es) X.env = (false, eval e X.env) :: starEach es X.env := by rfl) (hpl : (backTo pos (starEach es X.env)).any (·.1) = false := by rfl) : PE X (.Call (.Name x p) (e :: es) [] pos) (tCB r t) := pe_callTy hc n.1 hm hv ha n.2.2.2 n.2.1 he hpl
theorem ps_setN {i : Nat} {e : Expr} {te : TE} {pos' : Pos} (hN : X.N.Nodup) (n : Nm X.env.scope x .local) (he : PE X e te) (hi : X.N[i]? = some x := by rfl) (hs : swapsWith e (some (.Name x pos')) pos.line X.env = pure false := by rfl) :
    PS X (.Assign [.Name x pos'] e pos) (tAsg te (gName i)) := ps_set hN hi (.inl n.1) he hs (.inr n.1)
theorem ps_setNC {i : Nat} {e : Expr} {te : TE} {pos' : Pos} (hN : X.N.Nodup) (n : Nm X.env.scope x .cell) (he : PE X e te) (hf : X.fn x = true := by rfl) (hi : X.N[i]? = some x := by rfl) (hs : swapsWith e (some (.Name x pos')) pos.line X.env = pure false := by rfl) :
    PS X (.Assign [.Name x pos'] e pos) (tAsg te (gName i)) := ps_set hN hi (.inr n.1) he hs (.inl hf)
theorem ps_augN {i : Nat} {e : Expr} {te : TE} {op : Operator} {ti : TIp} {pos' : Pos} (hN : X.N.Nodup) (n : Nm X.env.scope x .local) (he : PE X e te) (ho : PIp X op ti) (hi : X.N[i]? = some x := by rfl) :
    PS X (.AugAssign (.Name x pos') op e pos) (tAug i te ti) := ps_aug hN hi (.inl n.1) he ho (.inr n.1)
theorem pg_nameN {i : Nat} (hN : X.N.Nodup) (n : Nm X.env.scope x .local) (hi : X.N[i]? = some x := by rfl) : PG X (.Name x pos) (gName i) := pg_name hN hi (.inl n.1) (.inr n.1)
theorem pg_nameNC {i : Nat} (hN : X.N.Nodup) (n : Nm X.env.scope x .cell) (hf : X.fn x = true := by rfl) (hi : X.N[i]? = some x := by rfl) : PG X (.Name x pos) (gName i) := pg_name hN hi (.inr n.1) (.inl hf)
end
section
variable {X : Cx} {scope : Scope} {cl : List (Str × Addr)} {C : Addr} {N' : List Str} {s0 : Shared} {H0 : Hp} {ex : List Addr} {pn : List (Addr × Obj)} {x : Str} {pos : Pos}
theorem pvLN (i : Nat) (n : Nm scope x .local := by decide +kernel) (hN : N'[i]? = some x := by rfl) : PE (ccx X scope cl C N' s0 H0 ex pn) (.Name x pos) (tVar i) := pvL i hN n.1 n.2.1 n.2.2.1
theorem pvFN (i : Nat) (n : Nm scope x .free := by decide +kernel) (hN : N'[i]? = some x := by rfl) : PE (ccx X scope cl C N' s0 H0 ex pn) (.Name x pos) (tVar i) := pvF i hN n.1 n.2.1 n.2.2.1
theorem pgLN (i : Nat) (hnd : N'.Nodup) (n : Nm scope x .local := by decide +kernel) (hN : N'[i]? = some x := by rfl) : PG (ccx X scope cl C N' s0 H0 ex pn) (.Name x pos) (gName i) := pgL i hnd hN n.1
/-- a global name within a block -/
theorem nmC (n : Nm scope x .globalImplicit := by decide +kernel) : Nm (ccx X scope cl C N' s0 H0 ex pn).env.scope x .globalImplicit := ⟨lookup_relabel (by decide) n.1, n.2⟩
theorem FrOk.consN {j : Nat} {fr : List (Str × Nat)} (n : Nm X.env.scope x .cell) (t : FrOk X scope fr) (m : Nm scope x .free := by decide +kernel) (h1 : X.N[j]? = some x := by rfl) : FrOk X scope ((x, j) :: fr) := .cons h1 (.inl n.1) m.1 t
end
end L2

end
section
set_option Elab.async false
set_option linter.all false
set_option maxRecDepth 100000
set_option maxHeartbeats 4000000
/-! TEXTS as lists of codes; comprehensions by an invariant. -/
namespace L2
open PySem PySem.Spec PyProof.Rows

/-- the codes of a text -/
def cs (x : Str) : List Nat := x.cps.toList
theorem cs_len (x : Str) : (cs x).length = x.length := by unfold cs; exact Array.length_toList
theorem cs_app (x y : Str) : cs (x ++ y) = cs x ++ cs y := by unfold cs; rw [PySem.Str.cps_append, Array.toList_append]
theorem cs_mk (l : List Nat) : cs ⟨l.toArray⟩ = l := by unfold cs; simp
theorem pick_range (xs : List Nat) (lo : Nat) : ∀ m, lo + m ≤ xs.length → ((List.range m).map (lo + ·)).filterMap (xs[·]?) = (xs.drop lo).take m := by
  intro m
  induction m with
  | zero => intro _; simp
  | succ m ih =>
    intro h
    rw [List.range_succ, List.map_append, List.filterMap_append, ih (by omega), List.take_add_one, List.getElem?_drop]
    have : lo + m < xs.length := by omega
    simp [List.getElem?_eq_getElem this]
theorem cs_upto (x : Str) {i : Int} (h : 0 ≤ i) : cs (Txt.slice x none (some i)) = (cs x).take i.toNat := by
  have hl := cs_len x
  have e : Builtin.Str.strSliceIndices none (some i) 1 x.length = (List.range (min i.toNat x.length)).map (0 + ·) := by
    unfold Builtin.Str.strSliceIndices sliceRange
    simp only [show (1 : Int) > 0 by decide, if_true]
    have e1 : (if i < 0 then i + (x.length : Int) else i) = i := if_neg (by omega)
    rw [e1]
    have e2 : (if (0 : Int) < max 0 (min i (x.length : Int)) then (max 0 (min i (x.length : Int)) - 0 + 1 - 1) / 1 else 0).toNat = min i.toNat x.length := by
      split <;> (try simp only [Int.ediv_one]) <;> omega
    rw [e2]
    apply List.map_congr_left
    intro k _
    omega
  unfold Txt.slice
  rw [e]
  split
  · rename_i hc
    have hc : ((List.range (min i.toNat x.length)).map (0 + ·)).length = x.length := by simpa using hc
    rw [List.length_map, List.length_range] at hc
    rw [List.take_of_length_le (by omega)]
  · rw [cs_mk]
    have := pick_range (cs x) 0 (min i.toNat x.length) (by omega)
    rw [List.drop_zero] at this
    have e3 : (cs x).take (min i.toNat x.length) = (cs x).take i.toNat := by
      rw [← hl]
      by_cases h1 : i.toNat ≤ (cs x).length
      · rw [Nat.min_eq_left h1]
      · rw [Nat.min_eq_right (by omega), List.take_of_length_le (by omega), List.take_of_length_le (by omega)]
    rw [← e3, ← this]
    congr 1
    funext k
    unfold cs
    simp
theorem cs_from (x : Str) {i : Int} (h : 0 ≤ i) : cs (Txt.slice x (some i) none) = (cs x).drop i.toNat := by
  have hl := cs_len x
  have e : Builtin.Str.strSliceIndices (some i) none 1 x.length = (List.range (x.length - min i.toNat x.length)).map (min i.toNat x.length + ·) := by
    unfold Builtin.Str.strSliceIndices sliceRange
    simp only [show (1 : Int) > 0 by decide, if_true]
    have e1 : (if i < 0 then i + (x.length : Int) else i) = i := if_neg (by omega)
    rw [e1]
    have e2 : (if max 0 (min i (x.length : Int)) < (x.length : Int) then ((x.length : Int) - max 0 (min i (x.length : Int)) + 1 - 1) / 1 else 0).toNat = x.length - min i.toNat x.length := by
      split <;> (try simp only [Int.ediv_one]) <;> omega
    rw [e2]
    apply List.map_congr_left
    intro k _
    omega
  unfold Txt.slice
  rw [e]
  split
  · rename_i hc
    have hc : ((List.range (x.length - min i.toNat x.length)).map (min i.toNat x.length + ·)).length = x.length := by simpa using hc
    rw [List.length_map, List.length_range] at hc
    by_cases h0 : i.toNat = 0
    · rw [h0, List.drop_zero]
    · have : x.length = 0 := by omega
      rw [List.drop_of_length_le (by omega)]
      exact List.length_eq_zero_iff.mp (by omega)
  · rw [cs_mk]
    have := pick_range (cs x) (min i.toNat x.length) (x.length - min i.toNat x.length) (by omega)
    have e3 : ((cs x).drop (min i.toNat x.length)).take (x.length - min i.toNat x.length) = (cs x).drop i.toNat := by
      rw [List.take_of_length_le (by rw [List.length_drop]; omega)]
      by_cases h1 : i.toNat ≤ x.length
      · rw [Nat.min_eq_left h1]
      · rw [Nat.min_eq_right (by omega), List.drop_of_length_le (by omega), List.drop_of_length_le (by omega)]
    rw [← e3, ← this]
    congr 1
    funext k
    unfold cs
    simp
theorem cs_join0 : ∀ ys : List Str, cs (Txt.join "" ys) = (ys.map cs).flatten := by
  have go : ∀ (ys : List Str) (a : Array Nat), (ys.foldl (fun acc p => acc ++ (("" : Str)).cps ++ p.cps) a).toList = a.toList ++ (ys.map cs).flatten := by
    intro ys
    induction ys with
    | nil => intro a; simp
    | cons y r ih =>
      intro a
      rw [List.foldl_cons, ih]
      have : (("" : Str)).cps = #[] := by decide +kernel
      rw [this]
      simp [cs]
  intro ys
  show (cs (Builtin.Str.glued "" ys)) = _
  unfold Builtin.Str.glued
  cases ys with
  | nil => decide +kernel
  | cons y r =>
    show (List.foldl _ y.cps r).toList = _
    rw [go]
    rfl
/-- only small letters -/
def Low (x : Str) : Prop := ∀ c ∈ cs x, 97 ≤ c ∧ c ≤ 122
def letters : Str := "abcdefghijklmnopqrstuvwxyz"
theorem letters_cs : cs letters = (List.range 26).map (97 + ·) := by decide +kernel
theorem letters_at {d : Int} (h0 : 0 ≤ d) (h1 : d < 26) : atI letters.cps.toList d = some (97 + d.toNat) := by
  obtain ⟨j, rfl⟩ := Int.eq_ofNat_of_zero_le h0
  refine atI_nat ?_
  show (cs letters)[j]? = _
  rw [letters_cs, List.getElem?_map, List.getElem?_range (by omega)]
  rfl

/-! ### comprehensions by an invariant -/
/-- behind k of the items xs (as the iterator yields them) -/
theorem comp_by {J : It} {nl : Nat} {fv : St} {g : TG} {tt : TTs} {te : TE} {Q : VK} {H : Hp} {xs : List V} (Pv : Nat → List V → Hp → Prop) (h0 : Pv 0 [] H) (hn : xs.length ≤ 1000000)
    (hgo : ∀ i H ys, i < xs.length → Pv i ys H → J.go i H) (hy : ∀ i H x H' ys, i < xs.length → Pv i ys H → J.yld i H x H' → H' = H ∧ xs[i]? = some x) (hst : ∀ H ys, Pv xs.length ys H → J.stop xs.length H)
    (hlen : ∀ i ys H, Pv i ys H → ys.length ≤ i)
    (step : ∀ i x ys H, xs[i]? = some x → Pv i ys H → tTurn nl fv g tt te x H (fun y H' => Pv (i + 1) (ys ++ [y]) H') fun H' => Pv (i + 1) ys H')
    (hd : ∀ ys H, Pv xs.length ys H → ∀ l, H l = none → Q (.ref l) (upd H l (.lst ys))) :
    tCompW J nl fv g tt te Q H := by
  have mono : ∀ {x : V} {H : Hp} {Y Y' : V → Hp → Prop} {N N' : Hp → Prop}, tTurn nl fv g tt te x H Y N → Y = Y' → N = N' → tTurn nl fv g tt te x H Y' N' := fun h e1 e2 => by subst e1; subst e2; exact h
  refine ⟨fun i m ys H => m = xs.length - i ∧ i ≤ xs.length ∧ Pv i ys H, ⟨xs.length, by simp, Nat.zero_le _, h0⟩, ?_⟩
  rintro i m ys H ⟨rfl, hi, p⟩
  have hl := hlen i ys H p
  have hz : (1000000 : Nat) < sizeLine := by decide
  by_cases hlt : i < xs.length
  · refine .inr ⟨hgo i H ys hlt p, by omega, xs.length - (i + 1), by omega, fun x H' y => ?_⟩
    obtain ⟨e, ex⟩ := hy i H x H' ys hlt p y
    subst e
    refine mono (step i x ys _ ex p) ?_ ?_
    · funext y H4
      apply propext
      exact ⟨fun q => ⟨rfl, hlt, q⟩, fun q => q.2.2⟩
    · funext H3
      apply propext
      exact ⟨fun q => ⟨rfl, hlt, q⟩, fun q => q.2.2⟩
  · have e : i = xs.length := by omega
    subst e
    exact .inl ⟨hst H ys p, by omega, hd ys H p⟩
/-- the ints of a range -/
def rngV (lo : Int) (n : Nat) : List V := (List.range n).map fun k => V.int (lo + (k : Nat))
theorem rngV_len (lo : Int) (n : Nat) : (rngV lo n).length = n := by simp [rngV]
theorem rngV_get {lo : Int} {n i : Nat} {x : V} (h : (rngV lo n)[i]? = some x) : i < n ∧ x = .int (lo + (i : Nat)) := by
  have hi : i < n := by have := (List.getElem?_eq_some_iff.mp h).1; rwa [rngV_len] at this
  refine ⟨hi, ?_⟩
  unfold rngV at h
  rw [List.getElem?_map, List.getElem?_range hi] at h
  exact (Option.some.inj h).symm
theorem comp_range {lo : Int} {n : Nat} {nl : Nat} {fv : St} {g : TG} {tt : TTs} {te : TE} {Q : VK} {H : Hp} (Pv : Nat → List V → Hp → Prop) (h0 : Pv 0 [] H) (hn : n ≤ 1000000)
    (hlen : ∀ i ys H, Pv i ys H → ys.length ≤ i)
    (step : ∀ i ys H, i < n → Pv i ys H → tTurn nl fv g tt te (.int (lo + (i : Nat))) H (fun y H' => Pv (i + 1) (ys ++ [y]) H') fun H' => Pv (i + 1) ys H')
    (hd : ∀ ys H, Pv n ys H → ∀ l, H l = none → Q (.ref l) (upd H l (.lst ys))) :
    tCompW (Itr lo n) nl fv g tt te Q H := by
  refine comp_by (xs := rngV lo n) Pv h0 (by rw [rngV_len]; exact hn) ?_ ?_ ?_ hlen ?_ ?_
  · intro i H ys hi _
    rw [rngV_len] at hi
    exact hi
  · rintro i H x H' ys hi _ ⟨rfl, rfl⟩
    rw [rngV_len] at hi
    refine ⟨rfl, ?_⟩
    unfold rngV
    rw [List.getElem?_map, List.getElem?_range hi]
    rfl
  · intro H ys _
    rw [rngV_len]
    exact Nat.le_refl _
  · intro i x ys H hx p
    obtain ⟨hi, rfl⟩ := rngV_get hx
    exact step i ys H hi p
  · intro ys H p
    rw [rngV_len] at p
    exact hd ys H p
theorem comp_list {K : PySem.W.Frag} {a : Addr} {xs : List V} {nl : Nat} {fv : St} {g : TG} {tt : TTs} {te : TE} {Q : VK} {H : Hp} (Pv : Nat → List V → Hp → Prop) (h0 : Pv 0 [] H) (hn : xs.length ≤ 1000000)
    (hl : ∀ i ys H, i ≤ xs.length → Pv i ys H → SqL K H a xs)
    (hlen : ∀ i ys H, Pv i ys H → ys.length ≤ i)
    (step : ∀ i x ys H, xs[i]? = some x → Pv i ys H → tTurn nl fv g tt te x H (fun y H' => Pv (i + 1) (ys ++ [y]) H') fun H' => Pv (i + 1) ys H')
    (hd : ∀ ys H, Pv xs.length ys H → ∀ l, H l = none → Q (.ref l) (upd H l (.lst ys))) :
    tCompW (Itl K a) nl fv g tt te Q H := by
  refine comp_by (xs := xs) Pv h0 hn ?_ ?_ ?_ hlen step hd
  · intro i H ys hi p
    exact ⟨xs, xs[i], hl i ys H (Nat.le_of_lt hi) p, by simp [hi]⟩
  · rintro i H x H' ys hi p ⟨rfl, y⟩
    exact ⟨rfl, y xs (hl i ys _ (Nat.le_of_lt hi) p)⟩
  · intro H ys p
    exact ⟨xs, hl _ ys H (Nat.le_refl _) p, Nat.le_refl _⟩
theorem len1 {ls : St} (h : ls.length = 1) : ∃ a, ls = [a] := by
  match ls, h with
  | [a], _ => exact ⟨a, rfl⟩
theorem len2 {ls : St} (h : ls.length = 2) : ∃ a b, ls = [a, b] := by
  match ls, h with
  | [a, b], _ => exact ⟨a, b, rfl⟩
end L2

end
section
set_option Elab.async false
set_option linter.all false
set_option maxRecDepth 100000
set_option maxHeartbeats 4000000
/-! THE JUDGEMENTS as structures: so that a term of rules is elaborated without a look into the semantics. -/
namespace L2
open PySem PySem.Spec PyProof.Rows
structure QE (X : Cx) (e : Expr) (t : TE) : Prop where
  h : PE X e t
structure QT (X : Cx) (e : Expr) (t : TT) : Prop where
  h : PT X e t
structure QW (X : Cx) (e : Expr) (t : TT) : Prop where
  h : PW X e t
structure QS (X : Cx) (s : Stmt) (t : TS) : Prop where
  h : PS X s t
structure QSs (X : Cx) (s : List Stmt) (t : TS) : Prop where
  h : PSs X s t
structure QA (X : Cx) (es : List Expr) (t : TA) : Prop where
  h : PA X es t
structure QG (X : Cx) (e : Expr) (t : TG) : Prop where
  h : PG X e t
structure QGs (X : Cx) (es : List Expr) (t : TGs) : Prop where
  h : PGs X es t
structure QI (X : Cx) (tg iter : Expr) (t : TI) : Prop where
  h : PI X tg iter t
structure QO (X : Cx) (e : Option Expr) (t : TO) : Prop where
  h : PO X e t
structure QTs (X : Cx) (es : List Expr) (t : TTs) : Prop where
  h : PTs X es t
structure QOp (X : Cx) (f : Value → Value → Sem Value) (r : R2) : Prop where
  h : OpR X f r
structure QUn (X : Cx) (f : Value → Sem Value) (r : V → Hp → VK → Prop) : Prop where
  h : UnR X f r
structure QC (X : Cx) (f : Value) (r : List V → Hp → VK → Prop) : Prop where
  h : CallR X f r
structure QCk (X : Cx) (f : Value) (kw : Str) (r : List V → V → Hp → VK → Prop) : Prop where
  h : CallK X f kw r
structure QIx (X : Cx) (r : R2) : Prop where
  h : IxR X r
structure QSl (X : Cx) (r : V → Option Int → Option Int → Hp → VK → Prop) : Prop where
  h : SlR X r
structure QM (X : Cx) (id : String) (r : V → List V → Hp → VK → Prop) : Prop where
  h : MtR X id r
structure QSet (X : Cx) (t : TSet) : Prop where
  h : PSet X t
structure QIp (X : Cx) (op : Operator) (t : TIp) : Prop where
  h : PIp X op t

section
variable {X : Cx} {a b c : Expr} {ta tb tc te : TE} {tA tB' : TT} {pos p p2 pos' : Pos} {st : Stmt} {rest : List Stmt} {t u : TS} {x : Str} {es : List Expr} {e : Expr}
theorem qss_nil : QSs X [] tNext := ⟨pss_nil⟩
theorem qss_cons (h1 : QS X st t) (h2 : QSs X rest u) : QSs X (st :: rest) (tSeq t u) := ⟨pss_cons h1.h h2.h⟩
theorem qss_one (h1 : QS X st t) : QSs X [st] t := ⟨pss_one h1.h⟩
theorem qs_ret (h : QE X e te) : QS X (.Return (some e) pos) (tRet te) := ⟨ps_ret h.h⟩
theorem qs_if {c : Expr} {a b : List Stmt} {tc : TT} (hc : QT X c tc) (ha : QSs X a t) (hb : QSs X b u) : QS X (.If c a b pos) (tIfS tc t u) := ⟨ps_if hc.h ha.h hb.h⟩
theorem qs_expr (he : QE X e te) (hs : swapsWith e none pos.line X.env = pure false := by rfl) : QS X (.Expr e pos) (tDrop te) := ⟨ps_expr he.h hs⟩
theorem qs_setN {i : Nat} (hN : X.N.Nodup) (n : Nm X.env.scope x .local) (he : QE X e te) (hi : X.N[i]? = some x := by rfl) (hs : swapsWith e (some (.Name x pos')) pos.line X.env = pure false := by rfl) :
    QS X (.Assign [.Name x pos'] e pos) (tAsg te (gName i)) := ⟨ps_setN hN n he.h hi hs⟩
theorem qs_setNC {i : Nat} (hN : X.N.Nodup) (n : Nm X.env.scope x .cell) (he : QE X e te) (hf : X.fn x = true := by rfl) (hi : X.N[i]? = some x := by rfl) (hs : swapsWith e (some (.Name x pos')) pos.line X.env = pure false := by rfl) :
    QS X (.Assign [.Name x pos'] e pos) (tAsg te (gName i)) := ⟨ps_setNC hN n he.h hf hi hs⟩
theorem qs_asg {tg : Expr} {g : TG} (he : QE X e te) (hg : QG X tg g) (hs : swapsWithSole [tg] e pos.line X.env = pure false := by rfl) (hw : swappedStores [tg] e X.env = pure none := by rfl)
    (h1 : (assignEach [tg] X.env).map (·.2) = [assign tg X.env] := by rfl) : QS X (.Assign [tg] e pos) (tAsg te g) := ⟨ps_asg he.h hg.h hs hw h1⟩
theorem qs_augN {i : Nat} {op : Operator} {ti : TIp} (hN : X.N.Nodup) (n : Nm X.env.scope x .local) (he : QE X e te) (ho : QIp X op ti) (hi : X.N[i]? = some x := by rfl) :
    QS X (.AugAssign (.Name x pos') op e pos) (tAug i te ti) := ⟨ps_augN hN n he.h ho.h hi⟩
theorem qip_sub : QIp X .Sub (ipI fun i j => i - j) := ⟨ip_sub⟩
def tForW (J : It) (g : TG) (tb : TS) (D : Ends) (σ : St) (H1 : Hp) : Prop := ∃ W : Nat → Nat → St → Hp → Prop, (∃ m, W 0 m σ H1) ∧ ∀ i m σ H, W i m σ H →
  (J.stop i H ∧ D.nx σ H) ∨ (J.go i H ∧ ∃ N : St → Hp → Prop, (∀ σ' H', N σ' H' → ∃ m', m' < m ∧ W (i + 1) m' σ' H') ∧ ∀ x H', J.yld i H x H' → g x σ H' fun σ2 H2 => tb { D with nx := N, ct := N, bk := D.nx } σ2 H2)
def tForQ (wi : TI) (g : TG) (tb : TS) : TS := fun D σ H => wi σ H fun J H1 => tForW J g tb D σ H1
theorem qs_for {tg iter : Expr} {body : List Stmt} {wi : TI} {g : TG} (hp : PassesOwn (model X.prog X.w) X.A X.env X.xe) (hc : X.calm = true) (hi : QI X tg iter wi) (hg : QG X tg g) (hb : QSs X body t)
    (hs : ∀ x, foldedSetIterable iter X.env x = pure x := by intro _; rfl) : QS X (.For tg iter body [] pos) (tForQ wi g t) := ⟨ps_for hp hc hi.h hg.h hb.h hs⟩
/-! targets -/
theorem qg_nameN {i : Nat} (hN : X.N.Nodup) (n : Nm X.env.scope x .local) (hi : X.N[i]? = some x := by rfl) : QG X (.Name x pos) (gName i) := ⟨pg_nameN hN n hi⟩
theorem qg_nameNC {i : Nat} (hN : X.N.Nodup) (n : Nm X.env.scope x .cell) (hf : X.fn x = true := by rfl) (hi : X.N[i]? = some x := by rfl) : QG X (.Name x pos) (gName i) := ⟨pg_nameNC hN n hf hi⟩
theorem qgs_nil : QGs X [] gNil := ⟨pgs_nil⟩
theorem qgs_cons {t : TG} {u : TGs} (h1 : QG X e t) (h2 : QGs X es u) (hs : (assignEach (e :: es) X.env).map (·.2) = assign e X.env :: (assignEach es X.env).map (·.2) := by rfl) : QGs X (e :: es) (gCons t u) := ⟨pgs_cons h1.h h2.h hs⟩
theorem qg_tup {k : Nat} {t : TGs} {n : Nat} (hc : X.calm = true) (h : QGs X es t) (hn : (assignEach es X.env).length = n := by rfl) (hst : (assignEach es X.env).findIdx? (·.1) = none := by rfl) : QG X (.Tuple es k pos) (gTup X.K n t) := ⟨pg_tup hc h.h hn hst⟩
theorem qg_sub {o i : Expr} {to ti : TE} {t : TSet} (ho : QE X o to) (hi : QE X i ti) (hs : QSet X t)
    (ha : ∀ v, assign (.Subscript o i pos) X.env v = (do
      let ov ← holding [v] (eval o X.env)
      let iv ← holding [v, ov] (eval i X.env)
      standAt pos
      holding [v, ov, iv] (setItem ov iv v)
      release [v, ov, iv] []) := by intro _; rfl) : QG X (.Subscript o i pos) (gSub to ti t) := ⟨pg_sub ho.h hi.h hs.h ha⟩
theorem qset_list : QSet X rSetL := ⟨set_list⟩
/-! what is walked -/
variable {tg : Expr}
theorem qi_list {l : Expr} (hl : QE X l te) : QI X tg l (iList X.K te) := ⟨pi_list hl.h⟩
theorem qi_range1 {a : Expr} {ta : TA} (hg : Gl X "range") (hm : X.mg "range" = none) (ha : QA X [a] ta) (hs : starEach [a] X.env = [(false, eval a X.env)] := by rfl) : QI X tg (.Call (.Name "range" p) [a] [] pos) (iRng1 ta) := ⟨pi_range1 hg hm ha.h hs⟩
/-! arguments, displays -/
theorem qa_nil : QA X [] tNil := ⟨pa_nil⟩
theorem qa_cons {t : TA} (ha : QE X e te) (hr : QA X es t) (hs : starEach (e :: es) X.env = (false, eval e X.env) :: starEach es X.env := by rfl) : QA X (e :: es) (tCons te t) := ⟨pa_cons ha.h hr.h hs⟩
theorem qe_tup {x1} {t : TA} (h : QA X es t) : QE X (.Tuple es x1 pos) (tTup t) := ⟨pe_tup h.h⟩
theorem qe_lst {t : TA} (h : QA X es t) : QE X (.List es pos) (tLst t) := ⟨pe_lst h.h⟩
/-! tests -/
theorem qt_not (ha : QT X a tA) : QT X (.UnaryOp .Not a pos) (tNot tA) := ⟨pt_not ha.h⟩
theorem QW.pt (h : QW X e tA) : QT X e tA := ⟨PW.pt h.h⟩
theorem qw_and1 (ha : QT X a tA) : QW X (.BoolOp .And [a] pos) tA := ⟨pw_and1 ha.h⟩
theorem qw_or1 (ha : QT X a tA) : QW X (.BoolOp .Or [a] pos) tA := ⟨pw_or1 ha.h⟩
theorem qw_and {rest : List Expr} (ha : QT X a tA) (hb : QW X (.BoolOp .And (b :: rest) pos) tB') : QW X (.BoolOp .And (a :: b :: rest) pos) (tAnd tA tB') := ⟨pw_and ha.h hb.h⟩
theorem qw_or {rest : List Expr} (ha : QT X a tA) (hb : QW X (.BoolOp .Or (b :: rest) pos) tB') : QW X (.BoolOp .Or (a :: b :: rest) pos) (tOr tA tB') := ⟨pw_or ha.h hb.h⟩
theorem qt_cmpR {op : CmpOp} {r : R2} (ho : QOp X (compareOp op) r) (ha : QE X a ta) (hb : QE X b tb) (hm : behindInMarks op b = false) : QT X (.Compare a [op] [b] pos) (tTest (tOp r ta tb)) := ⟨pt_cmpR ho.h ha.h hb.h hm⟩
theorem qe_cmpR {op : CmpOp} {r : R2} (ho : QOp X (compareOp op) r) (ha : QE X a ta) (hb : QE X b tb) (hm : behindInMarks op b = false) : QE X (.Compare a [op] [b] pos) (tOp r ta tb) := ⟨pe_cmpR ho.h ha.h hb.h hm⟩
theorem qt_val (h : QE X e te) (he : ∀ whole, isTrue e X.env whole = (do let v ← whole; standAt e.pos; holding [v] (truthy v)) := by intro _; rfl) : QT X e (tB te) := ⟨pt_val h.h he⟩
/-! expressions -/
theorem qe_int {i j pos} : QE X (.Constant (.int i) j pos) (tC (.int i)) := ⟨pe_int⟩
theorem qe_bl {b j pos} : QE X (.Constant (.bool b) j pos) (tC (.bl b)) := ⟨pe_bl⟩
theorem qe_non {j pos} : QE X (.Constant .none j pos) (tC .non) := ⟨pe_non⟩
theorem qe_str {x j pos} : QE X (.Constant (.str x) j pos) (tC (.str x)) := ⟨pe_str⟩
theorem qvN (i : Nat) (n : Nm X.env.scope x .local) (hN : X.N[i]? = some x := by rfl) : QE X (.Name x pos) (tVar i) := ⟨pvN i n hN⟩
theorem qvC (i : Nat) (n : Nm X.env.scope x .cell) (hN : X.N[i]? = some x := by rfl) : QE X (.Name x pos) (tVar i) := ⟨pvC i n hN⟩
theorem qe_bltnN {v : V} {u : Value} (n : Nm X.env.scope x .globalImplicit) (hm : X.mg x = none) (hv : bootBuiltins x = some u) (r : RelV v u) : QE X (.Name x pos) (tC v) := ⟨pe_bltnN n hm hv r⟩
theorem qe_op {op : Operator} {r : R2} (ho : QOp X (binaryOp op) r) (ha : QE X a ta) (hb : QE X b tb) : QE X (.BinOp a op b pos) (tOp r ta tb) := ⟨pe_op ho.h ha.h hb.h⟩
theorem qe_un {op : UnaryOp} {r : V → Hp → VK → Prop} (ho : QUn X (unaryOp op) r) (ha : QE X a ta) : QE X (.UnaryOp op a pos) (tUn r ta) := ⟨pe_un ho.h ha.h⟩
theorem qe_not (ha : QE X a ta) : QE X (.UnaryOp .Not a pos) (tNotV ta) := ⟨pe_not ha.h⟩
theorem qe_one {op} (h : QE X a ta) : QE X (.BoolOp op [a] pos) ta := ⟨pe_one h.h⟩
theorem qe_and {rest : List Expr} (ha : QE X a ta) (hb : QE X (.BoolOp .And (b :: rest) pos) tb) : QE X (.BoolOp .And (a :: b :: rest) pos) (tAndV ta tb) := ⟨pe_and ha.h hb.h⟩
theorem qe_ifExp (hc : QT X c tA) (ha : QE X a ta) (hb : QE X b tb) : QE X (.IfExp c a b pos) (tIf tA ta tb) := ⟨pe_ifExp hc.h ha.h hb.h⟩
theorem qo_none : QO X none tNoPart := ⟨po_none⟩
theorem qo_some (h : QE X e te) : QO X (some e) (tPart te) := ⟨po_some h.h⟩
theorem qe_slice {lo hi : Option Expr} {tl th : TO} {r : V → Option Int → Option Int → Hp → VK → Prop} (hr : QSl X r) (he : QE X e te) (hl : QO X lo tl) (hu : QO X hi th) : QE X (.Subscript e (.Slice lo hi none p2) pos) (tSl r te tl th) := ⟨pe_slice hr.h he.h hl.h hu.h⟩
theorem qe_ix {r : R2} (hr : QIx X r) (ha : QE X a ta) (hb : QE X b tb) (hs : PlainIx b) : QE X (.Subscript a b pos) (tOp r ta tb) := ⟨pe_ix hr.h ha.h hb.h hs⟩
theorem qe_fnN {k : Nat} {ps : List Str} {sp : Sp} {t : TA} (F : Fn X.prog X.w X.K X.mg X.base x ps k sp) (hr : Room k X.A) (n : Nm X.env.scope x .globalImplicit) (ha : QA X (e :: es) t)
    (he : starEach (e :: es) X.env = (false, eval e X.env) :: starEach es X.env := by rfl) (hpl : (backTo pos (starEach es X.env)).any (·.1) = false := by rfl) :
    QE X (.Call (.Name x p) (e :: es) [] pos) (tFn sp t) := ⟨pe_fnN F hr n ha.h he hpl⟩
theorem qe_callBN {t : TA} {id : String} {r : List V → Hp → VK → Prop} (hc : QC X (.builtin id) r) (n : Nm X.env.scope x .globalImplicit) (hm : X.mg x = none) (hv : bootBuiltins x = some (.builtin id)) (ha : QA X (e :: es) t)
    (he : starEach (e :: es) X.env = (false, eval e X.env) :: starEach es X.env := by rfl) (hpl : (backTo pos (starEach es X.env)).any (·.1) = false := by rfl) : QE X (.Call (.Name x p) (e :: es) [] pos) (tCB r t) := ⟨pe_callBN hc.h n hm hv ha.h he hpl⟩
theorem qe_callTyN {t : TA} {T : String} {r : List V → Hp → VK → Prop} (hc : QC X (.type T) r) (n : Nm X.env.scope x .globalImplicit) (hm : X.mg x = none) (hv : bootBuiltins x = some (.type T)) (ha : QA X (e :: es) t)
    (he : starEach (e :: es) X.env = (false, eval e X.env) :: starEach es X.env := by rfl) (hpl : (backTo pos (starEach es X.env)).any (·.1) = false := by rfl) : QE X (.Call (.Name x p) (e :: es) [] pos) (tCB r t) := ⟨pe_callTyN hc.h n hm hv ha.h he hpl⟩
theorem qe_bm {o : Expr} {to : TE} {t : TA} {name : Str} {apos cpos : Pos} {T id : String} {r : V → List V → Hp → VK → Prop} (pa : PlainAttrs T) (slot : Slot T name id) (hty : typeOf (.builtin id) = pure (.type "method_descriptor")) (hm : QM X id r) (ho : QE X o to) (ha : QA X (e :: es) t)
    (hbase : attributeBase o name X.env (eval o X.env) = eval o X.env := by rfl)
    (hfew : ((backTo cpos (starEach (e :: es) X.env)).all (fun x => !x.1) && (backToKw cpos (keywordEach [] X.env)).all (fun x => x.1.isSome)
      && decide ((e :: es).length + ([] : List Keyword).length + (if ([] : List Keyword).isEmpty then 0 else 1) < 30)) = true := by rfl)
    (hline : (apos.endLine == cpos.line) = true := by rfl) (hs : starEach (e :: es) X.env = (false, eval e X.env) :: starEach es X.env := by rfl) (hplain : (backTo cpos (starEach es X.env)).any (·.1) = false := by rfl) :
    QE X (.Call (.Attribute o name apos) (e :: es) [] cpos) (tBM X.K T r to t) := ⟨pe_bm pa slot hty hm.h ho.h ha.h hbase hfew hline hs hplain⟩
/-! operations -/
theorem qop_add : QOp X (binaryOp .Add) (rI0 fun i j => .int (i + j)) := ⟨op_add⟩
theorem qop_sub : QOp X (binaryOp .Sub) (rI0 fun i j => .int (i - j)) := ⟨op_sub⟩
theorem qop_mul : QOp X (binaryOp .Mult) (rI CMul fun i j => .int (i * j)) := ⟨op_mul⟩
theorem qop_fdiv : QOp X (binaryOp .FloorDiv) (rI CDiv fun i j => .int (i / j)) := ⟨op_fdiv⟩
theorem qop_mod : QOp X (binaryOp .Mod) (rI (fun _ j => 0 < j) fun i j => .int (i % j)) := ⟨op_mod⟩
theorem qop_pow : QOp X (binaryOp .Pow) (rI CPow fun i j => .int (i ^ j.toNat)) := ⟨op_pow⟩
theorem qop_neg : QUn X (unaryOp .USub) (rU fun i => .int (-i)) := ⟨op_neg⟩
def rCatS : R2 := fun x y H Q => ∃ i j, x = .str i ∧ y = .str j ∧ i.length + j.length ≤ sizeLine ∧ Q (.str (i ++ j)) H
theorem qop_add_str : QOp X (binaryOp .Add) rCatS := ⟨op_add_str⟩
theorem qop_eq : QOp X (compareOp .Eq) rEq := ⟨op_eq⟩
theorem qop_ne : QOp X (compareOp .NotEq) rNe := ⟨op_ne⟩
theorem qop_lt : QOp X (compareOp .Lt) (rI0 fun i j => .bl (decide (i < j))) := ⟨op_lt⟩
theorem qop_le : QOp X (compareOp .LtE) (rI0 fun i j => .bl (decide (i ≤ j))) := ⟨op_le⟩
theorem qop_gt : QOp X (compareOp .Gt) (rI0 fun i j => .bl (decide (j < i))) := ⟨op_gt⟩
theorem qop_ge : QOp X (compareOp .GtE) (rI0 fun i j => .bl (decide (j ≤ i))) := ⟨op_ge⟩
def rIsN : R2 := fun x y H Q => y = .non ∧ Q (.bl (decide (x = .non))) H
theorem qop_isN : QOp X (compareOp .Is) rIsN := ⟨op_isN⟩
theorem qop_in_seq : QOp X (compareOp .In) (rIn X.K false) := ⟨op_in_seq⟩
theorem qop_notIn_seq : QOp X (compareOp .NotIn) (rIn X.K true) := ⟨op_notIn_seq⟩
theorem qix_list : QIx X (rIxL X.K) := ⟨ix_list⟩
theorem qix_str : QIx X rIxS := ⟨ix_str⟩
theorem qsl_list : QSl X (rSlL X.K) := ⟨sl_list⟩
def rSlS : V → Option Int → Option Int → Hp → VK → Prop := fun x lo hi H Q => ∃ z, x = .str z ∧ z.length ≤ sizeLine ∧ Q (.str (Txt.slice z lo hi)) H
theorem qsl_str : QSl X rSlS := ⟨sl_str⟩
def rLenSeq (K : PySem.W.Frag) : List V → Hp → VK → Prop := fun xs H Q => ∃ p ys, xs = [.ref p] ∧ (SqL K H p ys ∨ SqT K H p ys) ∧ Q (.int ys.length) H
theorem qcall_len_seq : QC X (.builtin "len") (rLenSeq X.K) := ⟨call_len_seq⟩
def rLenS : List V → Hp → VK → Prop := fun xs H Q => ∃ z, xs = [.str z] ∧ z.length ≤ sizeLine ∧ Q (.int z.length) H
theorem qcall_len_str : QC X (.builtin "len") rLenS := ⟨call_len_str⟩
def rMax2 : List V → Hp → VK → Prop := fun xs H Q => ∃ i j, xs = [.int i, .int j] ∧ Q (.int (if j > i then j else i)) H
def rMin2 : List V → Hp → VK → Prop := fun xs H Q => ∃ i j, xs = [.int i, .int j] ∧ Q (.int (if j < i then j else i)) H
theorem qcall_max2 (hc : X.calm = true) : QC X (.builtin "max") rMax2 := ⟨call_max2 hc⟩
theorem qcall_min2 (hc : X.calm = true) : QC X (.builtin "min") rMin2 := ⟨call_min2 hc⟩
def rSorted (K : PySem.W.Frag) : List V → Hp → VK → Prop := fun xs H Q => ∃ (a : Addr) (ns : List Int), xs = [.ref a] ∧ SqL K H a (ns.map V.int) ∧ ns.length < 64 ∧
    ∀ (l : Addr) (ms : List Int), H l = none → ms.Perm ns → ms.Pairwise (· ≤ ·) → Q (.ref l) (upd H l (.lst (ms.map V.int)))
theorem qcall_sorted : QC X (.builtin "sorted") (rSorted X.K) := ⟨call_sorted⟩
def rIsInst (K : PySem.W.Frag) : List V → Hp → VK → Prop := fun xs H Q => ∃ x n t b, xs = [x, .ty n] ∧ TyOf K H x t ∧ PySem.W.kitOne K t (.type n) = some b ∧ Q (.bl b) H
theorem qcall_isinst : QC X (.builtin "isinstance") (rIsInst X.K) := ⟨call_isinst⟩
def rListOf (K : PySem.W.Frag) : List V → Hp → VK → Prop := fun xs H Q => ∃ p ys, xs = [.ref p] ∧ (SqL K H p ys ∨ SqT K H p ys) ∧ ∀ l, H l = none → Q (.ref l) (upd H l (.lst ys))
theorem qcall_list_of : QC X (.type "list") (rListOf X.K) := ⟨call_list_of⟩
def rJoin (K : PySem.W.Frag) : V → List V → Hp → VK → Prop := fun x xs H Q => ∃ sep a ys, x = .str sep ∧ xs = [.ref a] ∧ SqL K H a (ys.map V.str) ∧ (ys.map (·.length)).sum + ys.length * sep.length ≤ 16777216 ∧ Q (.str (Txt.join sep ys)) H
theorem qmt_join : QM X "str.join" (rJoin X.K) := ⟨mt_join⟩
theorem qmt_append : QM X "list.append" rAppend := ⟨mt_append⟩
theorem qmt_popAt : QM X "list.pop" rPopAt := ⟨mt_popAt⟩
end
section
variable {g : TG} {tb : TS} {D : Ends} {σ : St} {H : Hp}
theorem forW_range {lo : Int} {n : Nat} (m : Nat) (hm : n = m) (Pv : Nat → St → Hp → Prop) (h0 : Pv 0 σ H)
    (hs : ∀ i σ H, i < m → Pv i σ H → g (.int (lo + i)) σ H fun σ2 H2 => tb { D with nx := Pv (i + 1), ct := Pv (i + 1), bk := D.nx } σ2 H2) (hd : ∀ σ H, Pv m σ H → D.nx σ H) : tForW (Itr lo n) g tb D σ H := by
  subst hm
  exact for_range Pv h0 hs hd
theorem forW_list {K : PySem.W.Frag} {a : Addr} (xs : List V) (Pv : Nat → St → Hp → Prop) (h0 : Pv 0 σ H) (hl : ∀ i σ H, i ≤ xs.length → Pv i σ H → SqL K H a xs)
    (hs : ∀ i x σ H, xs[i]? = some x → Pv i σ H → g x σ H fun σ2 H2 => tb { D with nx := Pv (i + 1), ct := Pv (i + 1), bk := D.nx } σ2 H2) (hd : ∀ σ H, Pv xs.length σ H → D.nx σ H) : tForW (Itl K a) g tb D σ H := for_list Pv h0 hl hs hd
end
/-! comprehensions -/
section
variable {X : Cx} {tg elt iter : Expr} {ifs : List Expr} {scope : Scope} {pos : Pos} {locs : List Str} {fr : List (Str × Nat)} {g : TG} {tt : TTs} {te : TE}
theorem qts_nil : QTs X [] (fun _ H Q => Q true H) := ⟨pts_nil⟩
theorem qts_one {c : Expr} {t : TT} (h : QT X c t) : QTs X [c] t := ⟨pts_one h.h⟩
/-- the parts of a block, in every context that it may have -/
structure Inn (X : Cx) (scope : Scope) (N' : List Str) (tg : Expr) (ifs : List Expr) (elt : Expr) (g : TG) (tt : TTs) (te : TE) : Prop where
  h : ∀ (cl : List (Str × Addr)) (C : Addr) (s0 : Shared) (H0 : Hp) (ex : List Addr) (pn : List (Addr × Obj)), QG (ccx X scope cl C N' s0 H0 ex pn) tg g ∧ QTs (ccx X scope cl C N' s0 H0 ex pn) ifs tt ∧ QE (ccx X scope cl C N' s0 H0 ex pn) elt te
theorem qe_lcomp {wi : TI} (S : CompOk X scope locs fr) (F : FrOk X scope fr) (hc : X.calm = true) (hi : QI X tg iter wi) (inner : Inn X scope (inN locs fr) tg ifs elt g tt te)
    (hs : ∀ x, foldedSetIterable iter X.env x = pure x := by intro _; rfl) : QE X (.ListComp elt [⟨tg, iter, ifs, 0⟩] scope pos) (tComp locs.length fr wi g tt te) :=
  ⟨pe_lcomp S F hc hi.h (fun cl C s0 H0 ex pn => let ⟨a, b, c⟩ := inner.h cl C s0 H0 ex pn; ⟨a.h, b.h, c.h⟩) hs⟩
theorem qs_setC {wi : TI} {i : Nat} {x : Str} {pos' spos : Pos} (S : CompOk X scope locs fr) (F : FrOk X scope fr) (hc : X.calm = true) (hi : QI X tg iter wi) (inner : Inn X scope (inN locs fr) tg ifs elt g tt te)
    (hN : X.N.Nodup) (n : Nm X.env.scope x .local) (hsw : swapsWith (.ListComp elt [⟨tg, iter, ifs, 0⟩] scope pos) (some (.Name x pos')) spos.line X.env = pure true) (hi0 : X.N[i]? = some x := by rfl)
    (hs : ∀ x, foldedSetIterable iter X.env x = pure x := by intro _; rfl) : QS X (.Assign [.Name x pos'] (.ListComp elt [⟨tg, iter, ifs, 0⟩] scope pos) spos) (tAsg (tComp locs.length fr wi g tt te) (gName i)) :=
  ⟨ps_setC S F hc hi.h (fun cl C s0 H0 ex pn => let ⟨a, b, c⟩ := inner.h cl C s0 H0 ex pn; ⟨a.h, b.h, c.h⟩) hN hi0 n.1 hsw hs⟩
end
section
variable {X : Cx} {scope : Scope} {cl : List (Str × Addr)} {C : Addr} {N' : List Str} {s0 : Shared} {H0 : Hp} {ex : List Addr} {pn : List (Addr × Obj)} {x : Str} {pos : Pos}
theorem qvLN (i : Nat) (n : Nm scope x .local := by decide +kernel) (hN : N'[i]? = some x := by rfl) : QE (ccx X scope cl C N' s0 H0 ex pn) (.Name x pos) (tVar i) := ⟨pvLN i n hN⟩
theorem qvFN (i : Nat) (n : Nm scope x .free := by decide +kernel) (hN : N'[i]? = some x := by rfl) : QE (ccx X scope cl C N' s0 H0 ex pn) (.Name x pos) (tVar i) := ⟨pvFN i n hN⟩
theorem qgLN (i : Nat) (hnd : N'.Nodup) (n : Nm scope x .local := by decide +kernel) (hN : N'[i]? = some x := by rfl) : QG (ccx X scope cl C N' s0 H0 ex pn) (.Name x pos) (gName i) := ⟨pgLN i hnd n hN⟩
end
section
variable {P : Program} {w : World} {K : PySem.W.Frag} {mg : Str → Option Value} {base : Heap}
theorem Has.fnQ {x : Str} {st : Stmt} {N ps : List Str} {k : Nat} {sp : Sp} (h : Has K mg x st) (S : FnScope N ps (defScope st))
    (hb : ∀ (kV doc pm : Value) (an : Option Addr) (cdv ct : Value) (us : List Value), us.length = ps.length → bindArgs (PySem.W.fnOf x x (defArgs st) (defBody st) (defScope st) .none kV doc pm an cdv ct) ⟨us, []⟩ = pure (ps.zip us))
    (len : ∀ vs H Q E, sp vs H Q E → vs.length = ps.length)
    (hbody : ∀ (f : Addr) (cdv : Value) (A : Around) (outer : List Env) (s : Shared) (H : Hp) (vs : List V) (Q : VK) (E : XK), Room k (A.deeper (envOfC x (defScope st) s.heap.objs.size f cdv)) → sp vs H Q E →
      ∃ t, QSs (cxOf CX0 P w K mg base N x (defScope st) f cdv A outer s H E).nox (defBody st) t ∧ t { nx := fun _ H' => Q .non H', rt := Q } (start N vs) H) : Fn P w K mg base x ps (k + 1) sp :=
  h.fn S hb len fun f cdv A outer s H vs Q E hr q => let ⟨t, a, b⟩ := hbody f cdv A outer s H vs Q E hr q; ⟨t, a.h, b⟩
end
end L2
namespace L2
open PySem PySem.Spec PyProof.Rows
/-- a cut between two parts of a block: R is what the first part is to reach -/
theorem seq_cut {t u : TS} {D : Ends} {σ : St} {H : Hp} (R : St → Hp → Prop) (hu : ∀ σ' H', R σ' H' → u D σ' H')
    (ht : ∀ D' : Ends, (∀ σ' H', R σ' H' → D'.nx σ' H') → (∀ v H', D.rt v H' → D'.rt v H') → (∀ σ' H', D.bk σ' H' → D'.bk σ' H') → (∀ σ' H', D.ct σ' H' → D'.ct σ' H') → t D' σ H) : tSeq t u D σ H :=
  ht { D with nx := u D } hu (fun _ _ h => h) (fun _ _ h => h) (fun _ _ h => h)
end L2
namespace L2
theorem gset {i : Nat} {v : V} {σ : St} {H : Hp} {Q : St → Hp → Prop} (h : Q (σ.set i (some v)) H) : gName i v σ H Q := h
end L2
namespace L2
open PySem PySem.Spec PyProof.Rows
theorem Fun.okQ {P : Program} {w : World} {K : PySem.W.Frag} {mg : Str → Option Value} {base : Heap} {x qual : Str} {st : Stmt} {f : Addr} {fd : FuncData} {N ps : List Str} {k : Nat} {sp : Sp} (F : Fun K x qual st f fd) (S : FnScope N ps (defScope st)) (len : ∀ vs H Q E, sp vs H Q E → vs.length = ps.length)
    (hbody : ∀ (cdv : Value) (A : Around) (outer : List Env) (s : Shared) (H : Hp) (vs : List V) (Q : VK) (E : XK), Room k (A.deeper (envOfC qual (defScope st) s.heap.objs.size f cdv)) → sp vs H Q E →
      ∃ t, QSs (cxOf CX0 P w K mg base N qual (defScope st) f cdv A outer s H E).nox (defBody st) t ∧ t { nx := fun _ H' => Q .non H', rt := Q } (start N vs) H) : FnOk P w K mg base CX0 (k + 1) f fd ps sp :=
  F.ok S len fun cdv A outer s H vs Q E hr q => let ⟨t, a, b⟩ := hbody cdv A outer s H vs Q E hr q; ⟨t, a.h, b⟩
end L2
/-! within a block: what names the fragment names the outer one's -/
namespace L2
open PySem PySem.Spec PyProof.Rows
section
variable {X : Cx} {scope : Scope} {cl : List (Str × Addr)} {C : Addr} {N' : List Str} {s0 : Shared} {H0 : Hp} {ex : List Addr} {pn : List (Addr × Obj)} {x : Str} {pos : Pos} {es : List Expr} {k : Nat} {t : TGs}
theorem qg_tupC (n : Nat) (hc : X.calm = true) (h : QGs (ccx X scope cl C N' s0 H0 ex pn) es t) (hn : (assignEach es (ccx X scope cl C N' s0 H0 ex pn).env).length = n := by rfl) (hst : (assignEach es (ccx X scope cl C N' s0 H0 ex pn).env).findIdx? (·.1) = none := by rfl) :
    QG (ccx X scope cl C N' s0 H0 ex pn) (.Tuple es k pos) (gTup X.K n t) := ⟨pg_tup (X := ccx X scope cl C N' s0 H0 ex pn) hc h.h hn hst⟩
end
end L2

end
section
set_option Elab.async false
set_option linter.all false
set_option maxRecDepth 100000
set_option maxHeartbeats 4000000
/-! ZIP of two lists, or of two tuples, walked by a pair of names. -/
namespace L2
open PySem PySem.Spec PyProof.Rows

/-- an iterator at it over what stands at l, drawn from by zip -/
structure Drw (P : Program) (w : World) (it l : Addr) (St : Nat → Heap → Prop) (Hs : Heap → List Value → Prop) : Prop where
  obj : ∀ k h, St k h → ∃ o, h.get? it = some o ∧ ∀ v, o.data ≠ .cell v
  keep : ∀ k h h', St k h → (∀ o, h.get? it = some o → h'.get? it = some o) → St k h'
  src : ∀ h h' its, Hs h its → (∀ o, h.get? l = some o → h'.get? l = some o) → Hs h' its
  item : ∀ (A : Around) (k : Nat) (s : Shared) (its : List Value) (x : Value) (Q : Value → Shared → Prop) (E : Value → Shared → Prop), St k s.heap → Hs s.heap its → its[k]? = some x →
    (∀ h', St (k + 1) h' → Heap.SameBut it s.heap h' → Q x { s with heap := h' }) → wpAny (model P w) A (Builtin.SmallTypes.nextOf (.ref it)) Q E s
  done : ∀ (A : Around) (k : Nat) (s : Shared) (its : List Value) (Q : Value → Shared → Prop) (E : Value → Shared → Prop), A.handled = none → St k s.heap → Hs s.heap its → its[k]? = none →
    (∀ h' e, Heap.ExtBut it s.heap h' → (∃ o, h'.get? e = some o ∧ o.cls = .type "StopIteration") → E (.ref e) { s with heap := h' }) → wpAny (model P w) A (Builtin.SmallTypes.nextOf (.ref it)) Q E s
theorem drw_list {P : Program} {w : World} (it l : Addr) : Drw P w it l (fun k h => h.IsListIter it l k) (fun h its => h.IsList l its.toArray) where
  obj := fun k h st => by
    obtain ⟨o, e, c, d⟩ := st
    exact ⟨o, e, fun v z => by rw [d] at z; cases z⟩
  keep := fun k h h' st kk => st.at kk
  src := fun h h' its hl kk => hl.at kk
  item := fun A k s its x Q E st hl hx hQ => wpAny_nextOf_list_item st hl (by simpa using hx) hQ
  done := fun A k s its Q E hh st hl hx hE => wpAny_nextOf_list_end hh st hl (by simpa using hx) hE
section
variable {P : Program} {w : World} {A : Around} {E : Value → Shared → Prop} {s : Shared}
theorem nextT_item {it t : Addr} {k : Nat} {its : List Value} {x : Value} {Q : Value → Shared → Prop} (st : s.heap.IsTupleIter it t k) (ht : s.heap.IsTuple t its.toArray) (hx : its[k]? = some x)
    (hQ : ∀ h', h'.IsTupleIter it t (k + 1) → Heap.SameBut it s.heap h' → Q x { s with heap := h' }) : wpAny (model P w) A (Builtin.SmallTypes.nextOf (.ref it)) Q E s := by
  obtain ⟨o, ho, hc, hd⟩ := id st
  obtain ⟨ot, hot, _, nt, hdt⟩ := id ht
  unfold Builtin.SmallTypes.nextOf
  refine wpAny_bind (wpAny_callSpecial?_slot (name := Str.ofString "__next__") st.typeIs F.slot_tuple_iterator_next (wpAny_call_entry F.slot_tuple_iterator_next st.typeIs F.entry_tuple_iterator_next ?_ (F.args_tuple_iterator_next_1 _)))
  show wpAny _ _ (field (.ref it) 0 >>= _) _ _ s
  refine wpAny_bind (wpAny_field ho hd (x := .ref t) rfl ?_)
  show wpAny _ _ (if (Value.ref t == Value.none) = true then _ else _) _ _ s
  rw [if_neg (show ¬ ((Value.ref t == Value.none) = true) from Bool.false_ne_true)]
  show wpAny _ _ (field (.ref it) 1 >>= _) _ _ s
  refine wpAny_bind (wpAny_field ho hd (x := .int k 0) rfl ?_)
  show wpAny _ _ (seqItems? (.ref t) >>= _) _ _ s
  refine wpAny_bind (wpAny_seqItems hot hdt ?_)
  have hx' : its.toArray[k]? = some x := by simpa using hx
  simp only [Int.toNat_natCast, hx']
  refine wpAny_bind (wpAny_setField ho hd (by simp) ?_)
  refine wpAny_pure ⟨_, rfl, wpAny_pure (hQ _ ?_ (Heap.SameBut.update ..))⟩
  refine ⟨_, Heap.get?_update_self _ ho ?_, ?_, ?_⟩
  · obtain ⟨c, d, dt, sl⟩ := o; subst hd; rfl
  · obtain ⟨c, d, dt, sl⟩ := o; subst hd; exact hc
  · obtain ⟨c, d, dt, sl⟩ := o; subst hd; rfl
theorem nextT_end {it t : Addr} {k : Nat} {its : List Value} {Q : Value → Shared → Prop} (hh : A.handled = none) (st : s.heap.IsTupleIter it t k) (ht : s.heap.IsTuple t its.toArray) (hx : its[k]? = none)
    (hE : ∀ h' e, Heap.ExtBut it s.heap h' → (∃ o, h'.get? e = some o ∧ o.cls = .type "StopIteration") → E (.ref e) { s with heap := h' }) : wpAny (model P w) A (Builtin.SmallTypes.nextOf (.ref it)) Q E s := by
  obtain ⟨o, ho, hc, hd⟩ := id st
  obtain ⟨ot, hot, _, nt, hdt⟩ := id ht
  unfold Builtin.SmallTypes.nextOf
  refine wpAny_bind (wpAny_callSpecial?_slot (name := Str.ofString "__next__") st.typeIs F.slot_tuple_iterator_next (wpAny_call_entry F.slot_tuple_iterator_next st.typeIs F.entry_tuple_iterator_next ?_ (F.args_tuple_iterator_next_1 _)))
  show wpAny _ _ (field (.ref it) 0 >>= _) _ _ s
  refine wpAny_bind (wpAny_field ho hd (x := .ref t) rfl ?_)
  show wpAny _ _ (if (Value.ref t == Value.none) = true then _ else _) _ _ s
  rw [if_neg (show ¬ ((Value.ref t == Value.none) = true) from Bool.false_ne_true)]
  show wpAny _ _ (field (.ref it) 1 >>= _) _ _ s
  refine wpAny_bind (wpAny_field ho hd (x := .int k 0) rfl ?_)
  show wpAny _ _ (seqItems? (.ref t) >>= _) _ _ s
  refine wpAny_bind (wpAny_seqItems hot hdt ?_)
  have hx' : its.toArray[k]? = none := by simpa using hx
  simp only [Int.toNat_natCast, hx']
  refine wpAny_bind (wpAny_rule (wpAny_bind (wpAny_setField ho hd (by simp) ?_)))
  show wpAny _ _ (newExc (.type "StopIteration") [] >>= _) _ _ _
  refine wpAny_bind ?_
  simp only [newExc, newTuple]
  refine wpAny_bind (wpAny_newObj_type ?_ (by size_fits))
  refine wpAny_bind (m := firstArgMember _ _) (wpAny_of_eq (a := Value.none) (by first | rfl | (simp only [firstArgMember]; rfl)) ?_)
  refine wpAny_newObj_type ?_ (by size_fits)
  simp only [raiseNew]
  refine wpAny_bind (wpAny_handled ?_)
  first | rw [show A.in1.handled = none from hh] | rw [hh]
  refine wpAny_bind (wpAny_pure (wpAny_throw ?_))
  exact hE _ _ (((Heap.SameBut.update ..).extBut.push _).push _) ⟨_, Heap.get?_push_size _ rfl, rfl⟩
end
theorem drw_tuple {P : Program} {w : World} (it l : Addr) : Drw P w it l (fun k h => h.IsTupleIter it l k) (fun h its => h.IsTuple l its.toArray) where
  obj := fun k h st => by
    obtain ⟨o, e, c, d⟩ := st
    exact ⟨o, e, fun v z => by rw [d] at z; cases z⟩
  keep := fun k h h' st kk => st.at kk
  src := fun h h' its hl kk => let ⟨o, e, r⟩ := hl; ⟨o, kk o e, r⟩
  item := fun A k s its x Q E st hl hx hQ => nextT_item st hl hx hQ
  done := fun A k s its Q E hh st hl hx hE => nextT_end hh st hl hx hE

/-- the parts of a zip lie apart -/
structure ZA (z TI TO i1 i2 l1 l2 : Addr) : Prop where
  a1 : TI ≠ z
  a2 : TO ≠ z
  a3 : i1 ≠ z
  a4 : i2 ≠ z
  a5 : TI ≠ TO
  a6 : TI ≠ i1
  a7 : TI ≠ i2
  a8 : TO ≠ i1
  a9 : TO ≠ i2
  a10 : i1 ≠ i2
  b1 : l1 ≠ z
  b2 : l1 ≠ TO
  b3 : l1 ≠ i1
  b4 : l1 ≠ i2
  b5 : l2 ≠ z
  b6 : l2 ≠ TO
  b7 : l2 ≠ i1
  b8 : l2 ≠ i2
section
variable {P : Program} {w : World} {A : Around} {E : Value → Shared → Prop} {s : Shared} {z TI TO i1 i2 l1 l2 : Addr} {S1 S2 : Nat → Heap → Prop} {H1 H2 : Heap → List Value → Prop} {k : Nat} {xs ys : List Value} {x y a b : Value}
theorem zipD_item {Q : Value → Shared → Prop} (Z : ZA z TI TO i1 i2 l1 l2) (D1 : Drw P w i1 l1 S1 H1) (D2 : Drw P w i2 l2 S2 H2) (hz : IsZip s.heap z TI TO .none) (hTI : IsPair s.heap TI (.ref i1) (.ref i2)) (hTO : IsPair s.heap TO a b)
    (st1 : S1 k s.heap) (st2 : S2 k s.heap) (h1 : H1 s.heap xs) (h2 : H2 s.heap ys) (hx : xs[k]? = some x) (hy : ys[k]? = some y)
    (hQ : ∀ h', IsZip h' z TI TO (rawInt s.heap.objs.size) → IsPair h' TO x y → S1 (k + 1) h' → S2 (k + 1) h' → IsPair h' s.heap.objs.size x y →
      (∀ c o, c ≠ z → c ≠ TO → c ≠ i1 → c ≠ i2 → s.heap.get? c = some o → h'.get? c = some o) → Q (.ref s.heap.objs.size) { s with heap := h' }) :
    wpAny (model P w) A (Builtin.«zip.__next__» ⟨[.ref z], []⟩) (fun fin s' => ∃ v, fin = .done (.ret v) ∧ Q v s') E s := by
  show wpAny _ _ (field (.ref z) 2 >>= _) _ _ _
  refine wpAny_bind (wpAny_field hz rfl (x := .bool false) rfl ?_)
  show wpAny _ _ (field (.ref z) 3 >>= _) _ _ _
  refine wpAny_bind (wpAny_field hz rfl (x := .ref TI) rfl (wpAny_bind (wpAny_seqItems hTI rfl ?_)))
  show wpAny _ _ (Builtin.SmallTypes.ownedTupleIsFree (.ref z) >>= _) _ _ _
  refine wpAny_bind ?_
  unfold Builtin.SmallTypes.ownedTupleIsFree
  refine wpAny_bind (wpAny_field hz rfl (x := .none) rfl (wpAny_pure ?_))
  simp only [if_true]
  refine wpAny_bind (wpAny_rule (wpAny_bind (wpAny_field hz rfl (x := .ref TO) rfl (wpAny_bind (wpAny_setField_rec hz (by simp) fun g1 z1 e1 => ?_)))))
  replace z1 : IsZip g1 z TI TO .ellipsis := z1
  refine wpAny_bind ?_
  simp only [List.zipIdx_cons, List.zipIdx_nil, List.forIn_cons, List.forIn_nil]
  refine wpAny_bind (wpAny_bind (wpAny_onRaise ?_))
  show wpAny _ _ (Builtin.SmallTypes.nextOf (.ref i1) >>= _) _ _ _
  refine wpAny_bind (D1.item _ k _ xs x _ _ (D1.keep _ _ _ st1 fun o e => e1.extBut _ _ Z.a3 e) (D1.src _ _ _ h1 fun o e => e1.extBut _ _ Z.b1 e) hx fun g2 s12 e2 => wpAny_pure ?_)
  have t2 : IsPair g2 TO a b := e2.extBut _ _ Z.a8 (e1.extBut _ _ Z.a2 hTO)
  refine wpAny_bind (wpAny_seqItems t2 rfl (wpAny_bind (wpAny_updateSeq_pair t2 fun g3 t3 e3 => ?_)))
  replace t3 : IsPair g3 TO x b := t3
  refine wpAny_bind (wpAny_letGo (wpAny_pure (wpAny_bind (wpAny_bind (wpAny_onRaise ?_)))))
  show wpAny _ _ (Builtin.SmallTypes.nextOf (.ref i2) >>= _) _ _ _
  have up3 : ∀ c o, c ≠ z → c ≠ TO → c ≠ i1 → s.heap.get? c = some o → g3.get? c = some o := fun c o c1 c2 c3 e => e3.extBut _ _ c2 (e2.extBut _ _ c3 (e1.extBut _ _ c1 e))
  refine wpAny_bind (D2.item _ k _ ys y _ _ (D2.keep _ _ _ st2 fun o e => up3 _ _ Z.a4 Z.a9.symm Z.a10.symm e) (D2.src _ _ _ h2 fun o e => up3 _ _ Z.b5 Z.b6 Z.b7 e) hy fun g4 s24 e4 => wpAny_pure ?_)
  have t4 : IsPair g4 TO x b := e4.extBut _ _ Z.a9 t3
  refine wpAny_bind (wpAny_seqItems t4 rfl (wpAny_bind (wpAny_updateSeq_pair t4 fun g5 t5 e5 => ?_)))
  replace t5 : IsPair g5 TO x y := t5
  refine wpAny_bind (wpAny_letGo (wpAny_pure (wpAny_pure (wpAny_bind (wpAny_seqItems t5 rfl (wpAny_bind (wpAny_newTuple ?_)))))))
  have size5 : g5.objs.size = s.heap.objs.size := by rw [e5.1, e4.1, e3.1, e2.1, e1.1]
  have z5 : IsZip g5 z TI TO .ellipsis := e5.extBut _ _ Z.a2.symm (e4.extBut _ _ Z.a4.symm (e3.extBut _ _ Z.a2.symm (e2.extBut _ _ Z.a3.symm z1)))
  have up5 : ∀ c o, c ≠ z → c ≠ TO → c ≠ i1 → c ≠ i2 → s.heap.get? c = some o → g5.get? c = some o := fun c o c1 c2 c3 c4 e => e5.extBut _ _ c2 (e4.extBut _ _ c4 (up3 c o c1 c2 c3 e))
  have s15 : S1 (k + 1) g5 := D1.keep _ _ _ s12 fun o e => e5.extBut _ _ Z.a8.symm (e4.extBut _ _ Z.a10 (e3.extBut _ _ Z.a8.symm e))
  have s25 : S2 (k + 1) g5 := D2.keep _ _ _ s24 fun o e => e5.extBut _ _ Z.a9.symm e
  have zlt : z < g5.objs.size := Heap.lt_size z5
  show wpAny _ _ (Builtin.SmallTypes.ownedTupleHandOut (.ref z) (.ref g5.objs.size) >>= _) _ _ _
  refine wpAny_bind ?_
  unfold Builtin.SmallTypes.ownedTupleHandOut
  have z6 : IsZip (g5.push { cls := .type "tuple", data := .seq #[x, y] }) z TI TO .ellipsis := Heap.get?_push_of_some _ z5
  refine wpAny_bind (wpAny_setField_rec z6 (by simp) fun g7 z7 e7 => ?_)
  replace z7 : IsZip g7 z TI TO (rawInt g5.objs.size) := z7
  refine wpAny_setField_rec z7 (by simp) fun g8 z8 e8 => ?_
  replace z8 : IsZip g8 z TI TO (rawInt g5.objs.size) := z8
  have up8 : ∀ c o, c ≠ z → g5.get? c = some o → g8.get? c = some o := fun c o c1 e => e8.extBut _ _ c1 (e7.extBut _ _ c1 (Heap.get?_push_of_some _ e))
  have p8 : IsPair g8 g5.objs.size x y := e8.extBut _ _ (Nat.ne_of_gt zlt) (e7.extBut _ _ (Nat.ne_of_gt zlt) (Heap.get?_push_size _ rfl))
  rw [size5] at z8 p8
  refine wpAny_pure ⟨_, rfl, ?_⟩
  show Q (.ref g5.objs.size) _
  rw [size5]
  exact hQ g8 z8 (up8 _ _ Z.a2 t5) (D1.keep _ _ _ s15 fun o e => up8 _ _ Z.a3 e) (D2.keep _ _ _ s25 fun o e => up8 _ _ Z.a4 e) p8 fun c o c1 c2 c3 c4 e => up8 c o c1 (up5 c o c1 c2 c3 c4 e)
theorem zipD_end {Q : PySem.Fin → Shared → Prop} (hh : A.handled = none) (Z : ZA z TI TO i1 i2 l1 l2) (D1 : Drw P w i1 l1 S1 H1) (D2 : Drw P w i2 l2 S2 H2) (hz : IsZip s.heap z TI TO .none) (hTI : IsPair s.heap TI (.ref i1) (.ref i2)) (hTO : IsPair s.heap TO a b)
    (st1 : S1 k s.heap) (st2 : S2 k s.heap) (h1 : H1 s.heap xs) (h2 : H2 s.heap ys) (hend : xs[k]? = none ∨ ys[k]? = none)
    (hE : ∀ h' e, (∀ c o, c ≠ z → c ≠ TO → c ≠ i1 → c ≠ i2 → s.heap.get? c = some o → h'.get? c = some o) → (∃ o, h'.get? e = some o ∧ o.cls = .type "StopIteration") → E (.ref e) { s with heap := h' }) :
    wpAny (model P w) A (Builtin.«zip.__next__» ⟨[.ref z], []⟩) Q E s := by
  show wpAny _ _ (field (.ref z) 2 >>= _) _ _ _
  refine wpAny_bind (wpAny_field hz rfl (x := .bool false) rfl ?_)
  show wpAny _ _ (field (.ref z) 3 >>= _) _ _ _
  refine wpAny_bind (wpAny_field hz rfl (x := .ref TI) rfl (wpAny_bind (wpAny_seqItems hTI rfl ?_)))
  show wpAny _ _ (Builtin.SmallTypes.ownedTupleIsFree (.ref z) >>= _) _ _ _
  refine wpAny_bind ?_
  unfold Builtin.SmallTypes.ownedTupleIsFree
  refine wpAny_bind (wpAny_field hz rfl (x := .none) rfl (wpAny_pure ?_))
  simp only [if_true]
  refine wpAny_bind (wpAny_rule (wpAny_bind (wpAny_field hz rfl (x := .ref TO) rfl (wpAny_bind (wpAny_setField_rec hz (by simp) fun g1 z1 e1 => ?_)))))
  replace z1 : IsZip g1 z TI TO .ellipsis := z1
  refine wpAny_bind ?_
  simp only [List.zipIdx_cons, List.zipIdx_nil, List.forIn_cons, List.forIn_nil]
  refine wpAny_bind (wpAny_bind (wpAny_onRaise ?_))
  show wpAny _ _ (Builtin.SmallTypes.nextOf (.ref i1) >>= _) _ _ _
  have st1' := D1.keep _ _ _ st1 fun o e => e1.extBut _ _ Z.a3 e
  have h1' := D1.src _ _ _ h1 fun o e => e1.extBut _ _ Z.b1 e
  cases hx : xs[k]? with
  | none =>
    refine wpAny_bind (D1.done _ k _ xs _ _ hh st1' h1' hx fun g2 e e2 ⟨oe, hoe, hce⟩ => ?_)
    have z2 : IsZip g2 z TI TO .ellipsis := e2 _ _ Z.a3.symm z1
    have ne : e ≠ z := fun q => by subst q; rw [z2] at hoe; cases hoe; simp at hce
    exact wpAny_setField_rec z2 (by simp) fun g3 _ e3 => hE g3 e (fun c o c1 _ c3 _ q => e3.extBut _ _ c1 (e2 _ _ c3 (e1.extBut _ _ c1 q))) ⟨oe, e3.extBut _ _ ne hoe, hce⟩
  | some x =>
    have hy : ys[k]? = none := hend.elim (fun q => by rw [hx] at q; cases q) id
    refine wpAny_bind (D1.item _ k _ xs x _ _ st1' h1' hx fun g2 s12 e2 => wpAny_pure ?_)
    have t2 : IsPair g2 TO a b := e2.extBut _ _ Z.a8 (e1.extBut _ _ Z.a2 hTO)
    refine wpAny_bind (wpAny_seqItems t2 rfl (wpAny_bind (wpAny_updateSeq_pair t2 fun g3 t3 e3 => ?_)))
    refine wpAny_bind (wpAny_letGo (wpAny_pure (wpAny_bind (wpAny_bind (wpAny_onRaise ?_)))))
    show wpAny _ _ (Builtin.SmallTypes.nextOf (.ref i2) >>= _) _ _ _
    have up3 : ∀ c o, c ≠ z → c ≠ TO → c ≠ i1 → s.heap.get? c = some o → g3.get? c = some o := fun c o c1 c2 c3 e => e3.extBut _ _ c2 (e2.extBut _ _ c3 (e1.extBut _ _ c1 e))
    refine wpAny_bind (D2.done _ k _ ys _ _ hh (D2.keep _ _ _ st2 fun o e => up3 _ _ Z.a4 Z.a9.symm Z.a10.symm e) (D2.src _ _ _ h2 fun o e => up3 _ _ Z.b5 Z.b6 Z.b7 e) hy fun g4 e e4 ⟨oe, hoe, hce⟩ => ?_)
    have z4 : IsZip g4 z TI TO .ellipsis := e4 _ _ Z.a4.symm (e3.extBut _ _ Z.a2.symm (e2.extBut _ _ Z.a3.symm z1))
    have ne : e ≠ z := fun q => by subst q; rw [z4] at hoe; cases hoe; simp at hce
    exact wpAny_setField_rec z4 (by simp) fun g5 _ e5 => hE g5 e (fun c o c1 c2 c3 c4 q => e5.extBut _ _ c1 (e4 _ _ c4 (up3 c o c1 c2 c3 q))) ⟨oe, e5.extBut _ _ ne hoe, hce⟩
end

/-- what stands at l, as a row of values, and how the heap bears it -/
structure SqK (sq : PySem.W.Frag → Hp → Addr → List V → Prop) (Hs : Addr → Heap → List Value → Prop) : Prop where
  get : ∀ {X : Cx} {pins : List (Addr × Obj)} {σ : St} {H : Hp} {s : Shared} {l : Addr} {xs : List V}, Inv X pins σ H s → sq X.K H l xs → ∃ its, Vals xs its ∧ Hs l s.heap its
  inj : ∀ {X : Cx} {pins : List (Addr × Obj)} {σ : St} {H : Hp} {s : Shared} {l : Addr} {xs ys : List V}, Inv X pins σ H s → sq X.K H l xs → sq X.K H l ys → xs = ys
theorem sqk_list : SqK SqL (fun l h its => h.IsList l its.toArray) := ⟨fun I h => let ⟨its, r, p, _⟩ := I.list h; ⟨its, r, p.isList⟩, fun I h h' => I.list_inj h h'⟩
theorem sqk_tup : SqK SqT (fun l h its => h.IsTuple l its.toArray) := ⟨fun I h => let ⟨its, r, p, _⟩ := I.tuple h; ⟨its, r, p⟩, fun I h h' => I.tuple_inj h h'⟩
def Itz (sq : PySem.W.Frag → Hp → Addr → List V → Prop) (K : PySem.W.Frag) (l1 l2 : Addr) : It :=
  ⟨fun i H => ∃ xs ys, sq K H l1 xs ∧ sq K H l2 ys ∧ i < xs.length ∧ i < ys.length, fun i H v H' => ∃ p a b, v = .ref p ∧ H p = none ∧ H' = upd H p (.tup [a, b]) ∧ ∀ xs ys, sq K H l1 xs → sq K H l2 ys → xs[i]? = some a ∧ ys[i]? = some b,
    fun i H => ∃ xs ys, sq K H l1 xs ∧ sq K H l2 ys ∧ (xs.length ≤ i ∨ ys.length ≤ i)⟩
theorem turn_zip {P : Program} {w : World} {K : PySem.W.Frag} {elts : List Expr} {ek : Nat} {epos : Pos} {sq : PySem.W.Frag → Hp → Addr → List V → Prop} {Hs : Addr → Heap → List Value → Prop} {z TI TO i1 i2 l1 l2 : Addr} {S1 S2 : Nat → Heap → Prop}
    (SK : SqK sq Hs) (Z : ZA z TI TO i1 i2 l1 l2) (D1 : Drw P w i1 l1 S1 (Hs l1)) (D2 : Drw P w i2 l2 S2 (Hs l2)) :
    Turn P w K (.Tuple elts ek epos) (Itz sq K l1 l2) [z, TI, TO, i1, i2] z (fun i h => IsZip h z TI TO .none ∧ IsPair h TI (.ref i1) (.ref i2) ∧ (∃ a b, IsPair h TO a b) ∧ S1 i h ∧ S2 i h) where
  mem := by simp
  obj := fun i h st b hb => by
    obtain ⟨hz, hTI, ⟨a, c, hTO⟩, s1, s2⟩ := st
    simp only [List.mem_cons, List.not_mem_nil, or_false] at hb
    rcases hb with rfl | rfl | rfl | rfl | rfl
    · exact ⟨_, hz, fun v q => by cases q⟩
    · exact ⟨_, hTI, fun v q => by cases q⟩
    · exact ⟨_, hTO, fun v q => by cases q⟩
    · exact D1.obj _ _ s1
    · exact D2.obj _ _ s2
  keep := fun i h h' st k => by
    obtain ⟨hz, hTI, ⟨a, c, hTO⟩, s1, s2⟩ := st
    exact ⟨k z (by simp) _ hz, k TI (by simp) _ hTI, ⟨a, c, k TO (by simp) _ hTO⟩, D1.keep _ _ _ s1 fun o e => k i1 (by simp) o e, D2.keep _ _ _ s2 fun o e => k i2 (by simp) o e⟩
  item := by
    intro X hP hw hK hc i pins s σ H E I hf st hg
    subst hP hw hK
    obtain ⟨hz, hTI, ⟨a, b, hTO⟩, s1, s2⟩ := st
    obtain ⟨xs, ys, q1, q2, hx, hy⟩ := hg
    obtain ⟨its1, r1, w1⟩ := SK.get I q1
    obtain ⟨its2, r2, w2⟩ := SK.get I q2
    have gx : xs[i]? = some xs[i] := List.getElem?_eq_getElem hx
    have gy : ys[i]? = some ys[i] := List.getElem?_eq_getElem hy
    obtain ⟨u1, hu1, ru1⟩ := r1.get gx
    obtain ⟨u2, hu2, ru2⟩ := r2.get gy
    have hT : s.TypeIs (.ref z) "zip" := ⟨_, hz, rfl⟩
    unfold pyNext
    refine wpAny_bind (wpAny_attempt (wpAny_callSpecial?_slot (name := Str.ofString "__next__") hT F.slot_zip_next (wpAny_call_entry F.slot_zip_next hT F.entry_zip_next
      (zipD_item Z D1 D2 hz hTI hTO s1 s2 w1 w2 hu1 hu2 fun h' z1 t1 n1 n2 p1 kp => wpAny_pure ?_) (F.args_zip_next_1 _))))
    refine ⟨_, rfl, ?_⟩
    have nfp : ∀ c, c ∈ [z, TO, i1, i2] → c ∈ [z, TI, TO, i1, i2] := fun c hc => by
      simp only [List.mem_cons, List.not_mem_nil, or_false] at hc ⊢
      rcases hc with q | q | q | q
      · exact .inl q
      · exact .inr (.inr (.inl q))
      · exact .inr (.inr (.inr (.inl q)))
      · exact .inr (.inr (.inr (.inr q)))
    have kp' : ∀ c o, c ∉ [z, TO, i1, i2] → s.heap.get? c = some o → h'.get? c = some o := fun c o hc e => kp c o (fun q => hc (by simp [q])) (fun q => hc (by simp [q])) (fun q => hc (by simp [q])) (fun q => hc (by simp [q])) e
    have hp : H s.heap.objs.size = none := I.hok.fresh (Nat.le_refl _)
    have ltp : ∀ c o, s.heap.get? c = some o → c ≠ s.heap.objs.size := fun c o e => Nat.ne_of_lt (Heap.lt_size e)
    have ntr : ∀ c u, H c = some u → c ∉ [z, TO, i1, i2] := fun c u e hc => by
      have := (hf c (nfp c hc)).1
      rw [this] at e; cases e
    have there4 : ∀ c, c ∈ [z, TO, i1, i2] → ∃ o', h'.get? c = some o' := fun c hc => by
      simp only [List.mem_cons, List.not_mem_nil, or_false] at hc
      rcases hc with rfl | rfl | rfl | rfl
      · exact ⟨_, z1⟩
      · exact ⟨_, t1⟩
      · obtain ⟨o, e, _⟩ := D1.obj _ _ n1; exact ⟨o, e⟩
      · obtain ⟨o, e, _⟩ := D2.obj _ _ n2; exact ⟨o, e⟩
    have I1 : Inv X pins σ (upd H s.heap.objs.size (.tup [xs[i], ys[i]])) { s with heap := h' } := by
      refine I.step (g' := s.gens) (d' := s.drawn) (t' := s.toks) (ch := [z, TO, i1, i2]) (fun c hc => ?_) (fun c o _ _ hc e _ => kp' c o hc e) (fun c o _ _ hc e _ => ⟨o.slots, kp' c o hc e⟩) (fun c o hc e n => by rw [upd_ne (ltp c o e)]; exact n)
        (fun c o hc e => ⟨o, kp' c o hc e⟩) (fun c us e => by rw [upd_ne (ne_of_none e hp)]; exact e) (fun c o u e => by rw [upd_ne (ne_of_none e hp)]; exact e) (fun c ps e => ⟨#[], by rw [upd_ne (ne_of_none e hp), e]; simp⟩) (fun m hm => ?_) ?_ I.bare
      · obtain ⟨f0, f1, f2, f3, f4, f5⟩ := hf c (nfp c hc)
        exact ⟨f3, f1, f4, f5⟩
      · refine hm.at fun o e => kp' _ o (fun hc => ?_) e
        exact (hf _ (nfp _ hc)).2.1 rfl
      · intro c u e
        by_cases hcp : c = s.heap.objs.size
        · subst hcp
          rw [upd_same] at e
          cases e
          exact ⟨by show 2 ≤ sizeLine; decide, [u1, u2], .cons ru1 (.cons ru2 .nil), ⟨_, p1, rfl, _, rfl⟩⟩
        · rw [upd_ne hcp] at e
          refine (I.hok c u e).stay (fun d v hd q => kp' d v ?_ q) (fun d q => by rw [upd_ne (ne_of_none q hp)]; exact q) fun d us q => by rw [upd_ne (ne_of_none q hp)]; exact q
          rcases hd with rfl | hd
          · exact ntr _ u e
          · exact ntr _ _ hd
    refine wpAny_letOwnedTupleGo_zip (s := { s with heap := h' }) z1 fun h2 z2 e2 => ?_
    obtain ⟨f0, f1, f2, f3, f4, f5⟩ := hf z (by simp)
    have nz : z ≠ s.heap.objs.size := ltp z _ hz
    have I2 : Inv X pins σ (upd H s.heap.objs.size (.tup [xs[i], ys[i]])) { s with heap := h2 } := I1.turned (s := { s with heap := h' }) (it := z) (t' := s.toks) (fun c o hc e => (e2.2 c hc).trans e) (by rw [upd_ne nz]; exact f0) f1 f3 f4 f5
    refine ⟨.ref s.heap.objs.size, _, I2, rfl, ⟨s.heap.objs.size, xs[i], ys[i], rfl, hp, rfl, fun xs' ys' q1' q2' => ?_⟩, ⟨z2, (e2.2 _ Z.a1).trans (kp' TI _ (fun hc => ?_) hTI), ⟨_, _, (e2.2 _ Z.a2).trans t1⟩, D1.keep _ _ _ n1 fun o e => (e2.2 _ Z.a3).trans e, D2.keep _ _ _ n2 fun o e => (e2.2 _ Z.a4).trans e⟩, fun c hc => ?_⟩
    · rw [SK.inj I q1' q1, SK.inj I q2' q2]
      exact ⟨gx, gy⟩
    · simp only [List.mem_cons, List.not_mem_nil, or_false] at hc
      rcases hc with q | q | q | q
      · exact Z.a1 q
      · exact Z.a5 q
      · exact Z.a6 q
      · exact Z.a7 q
    · obtain ⟨o, ho⟩ : ∃ o, s.heap.get? c = some o := by
        simp only [List.mem_cons, List.not_mem_nil, or_false] at hc
        rcases hc with rfl | rfl | rfl | rfl | rfl
        · exact ⟨_, hz⟩
        · exact ⟨_, hTI⟩
        · exact ⟨_, hTO⟩
        · obtain ⟨o, e, _⟩ := D1.obj _ _ s1; exact ⟨o, e⟩
        · obtain ⟨o, e, _⟩ := D2.obj _ _ s2; exact ⟨o, e⟩
      rw [upd_ne (ltp c o ho)]
      exact (hf c hc).1
  done := by
    intro X hP hw hK hc i pins s σ H E I hf st hg
    subst hP hw hK
    obtain ⟨hz, hTI, ⟨a, b, hTO⟩, s1, s2⟩ := st
    obtain ⟨xs, ys, q1, q2, hend⟩ := hg
    obtain ⟨its1, r1, w1⟩ := SK.get I q1
    obtain ⟨its2, r2, w2⟩ := SK.get I q2
    have hT : s.TypeIs (.ref z) "zip" := ⟨_, hz, rfl⟩
    have hend' : its1[i]? = none ∨ its2[i]? = none := by
      have e1 := r1.length
      have e2 := r2.length
      rcases hend with q | q
      · exact .inl (List.getElem?_eq_none (by omega))
      · exact .inr (List.getElem?_eq_none (by omega))
    unfold pyNext
    refine wpAny_bind (wpAny_attempt (wpAny_callSpecial?_slot (name := Str.ofString "__next__") hT F.slot_zip_next (wpAny_call_entry F.slot_zip_next hT F.entry_zip_next (zipD_end (I.ok.hd hc) Z D1 D2 hz hTI hTO s1 s2 w1 w2 hend' fun h' e kp ⟨o, ho, hcl⟩ => ?_) (F.args_zip_next_1 _))))
    refine wpAny_bind (wpAny_isInstance (T := "StopIteration") (b := true) ⟨o, ho, hcl⟩ isSubtype_stop (wpAny_pure ⟨rfl, ?_⟩))
    have nfp : ∀ c, c ∈ [z, TO, i1, i2] → c ∈ [z, TI, TO, i1, i2] := fun c hc => by
      simp only [List.mem_cons, List.not_mem_nil, or_false] at hc ⊢
      rcases hc with q | q | q | q
      · exact .inl q
      · exact .inr (.inr (.inl q))
      · exact .inr (.inr (.inr (.inl q)))
      · exact .inr (.inr (.inr (.inr q)))
    have kp' : ∀ c o, c ∉ [z, TO, i1, i2] → s.heap.get? c = some o → h'.get? c = some o := fun c o hc e => kp c o (fun q => hc (by simp [q])) (fun q => hc (by simp [q])) (fun q => hc (by simp [q])) (fun q => hc (by simp [q])) e
    have ntr : ∀ c u, H c = some u → c ∉ [z, TO, i1, i2] := fun c u e hc => by
      have := (hf c (nfp c hc)).1
      rw [this] at e; cases e
    refine I.step (g' := s.gens) (d' := s.drawn) (t' := s.toks) (ch := [z, TO, i1, i2]) (fun c hc => ?_) (fun c o _ _ hc e _ => kp' c o hc e) (fun c o _ _ hc e _ => ⟨o.slots, kp' c o hc e⟩) (fun c o hc e n => n)
      (fun c o hc e => ⟨o, kp' c o hc e⟩) (fun c us e => e) (fun c o u e => e) (fun c ps e => ⟨#[], by rw [e]; simp⟩) (fun m hm => ?_) ?_ I.bare
    · obtain ⟨f0, f1, f2, f3, f4, f5⟩ := hf c (nfp c hc)
      exact ⟨f3, f1, f4, f5⟩
    · refine hm.at fun o e => kp' _ o (fun hc => ?_) e
      exact (hf _ (nfp _ hc)).2.1 rfl
    · intro c u e
      refine (I.hok c u e).stay (fun d v hd q => kp' d v ?_ q) (fun d q => q) fun d us q => q
      rcases hd with rfl | hd
      · exact ntr _ u e
      · exact ntr _ _ hd
  self := fun A i s Q E st h => wpAny_pyIter_zip st.1 h

/-! ### making it -/
abbrev tzA (h : Heap) (t1 : Addr) : Heap := h.push { cls := .type "tuple_iterator", data := .fields #[.ref t1, .int 0 0] }
abbrev tzB (h : Heap) (t1 t2 : Addr) : Heap := (tzA h t1).push { cls := .type "tuple_iterator", data := .fields #[.ref t2, .int 0 0] }
abbrev tzC (h : Heap) (t1 t2 : Addr) : Heap := (tzB h t1 t2).push { cls := .type "tuple", data := .seq #[.ref h.objs.size, .ref (tzA h t1).objs.size] }
abbrev tzD (h : Heap) (t1 t2 : Addr) : Heap := (tzC h t1 t2).push { cls := .type "tuple", data := .seq #[.none, .none] }
abbrev tzE (h : Heap) (t1 t2 : Addr) : Heap := (tzD h t1 t2).push { cls := .type "zip", data := .fields #[.none, .bool false, .bool false, .ref (tzB h t1 t2).objs.size, .ref (tzC h t1 t2).objs.size] }
theorem meets_zipT (l1 l2 : Addr) (xs ys : Array Value) : Meets (Builtin.«zip.__new__» ⟨[.type "zip", .ref l1, .ref l2], []⟩) (fun _ R s => s.heap.IsTuple l1 xs ∧ s.heap.IsTuple l2 ys ∧ R (.ok (.ret (.ref (tzD s.heap l1 l2).objs.size))) { s with heap := tzE s.heap l1 l2 }) :=
  .of_wp fun prog w A R s h => by
    obtain ⟨hp, g, d, tk, os⟩ := s; obtain ⟨hl1, hl2, h⟩ := h
    have hsub := sub_zip
    have hL1 : Heap.IsTuple (Shared.heap ⟨hp, g, d, tk, os⟩) l1 xs := hl1
    have hL2 : Heap.IsTuple (Shared.heap ⟨tzA hp l1, g, d, tk, os⟩) l2 ys := let ⟨o, e, r⟩ := hl2; ⟨o, Heap.get?_push_of_some _ e, r⟩
    wp_walk using wpAny_pyIter_tuple hL1, wpAny_pyIter_tuple hL2
    exact ⟨_, rfl, h⟩
section
variable {P : Program} {w : World} {A : Around} {E : Value → Shared → Prop} {s : Shared}
theorem call_zipT {l1 l2 : Addr} {xs ys : Array Value} {Q : Value → Shared → Prop} (hl1 : s.heap.IsTuple l1 xs) (hl2 : s.heap.IsTuple l2 ys)
    (h : ∀ h', IsZip h' (s.heap.objs.size + 4) (s.heap.objs.size + 2) (s.heap.objs.size + 3) .none → IsPair h' (s.heap.objs.size + 2) (.ref s.heap.objs.size) (.ref (s.heap.objs.size + 1)) →
      IsPair h' (s.heap.objs.size + 3) .none .none → h'.IsTupleIter s.heap.objs.size l1 0 → h'.IsTupleIter (s.heap.objs.size + 1) l2 0 →
      (∀ c o, s.heap.get? c = some o → h'.get? c = some o) → Q (.ref (s.heap.objs.size + 4)) { s with heap := h' }) : wpAny (model P w) A (call (.type "zip") [.ref l1, .ref l2]) Q E s := by
  refine callType_new F.called_zip (by decide) (F.typeCall_zip_2 _ _) (F.newCall_zip_2 _ _) (fun obj => F.args_object_init_3 obj _ _) F.entry_zip_new (meets_zipT l1 l2 xs ys) ⟨hl1, hl2, ?_⟩
  have n1 : (tzA s.heap l1).objs.size = s.heap.objs.size + 1 := Heap.size_push ..
  have n2 : (tzB s.heap l1 l2).objs.size = s.heap.objs.size + 2 := by rw [Heap.size_push, n1]
  have n3 : (tzC s.heap l1 l2).objs.size = s.heap.objs.size + 3 := by rw [Heap.size_push, n2]
  have n4 : (tzD s.heap l1 l2).objs.size = s.heap.objs.size + 4 := by rw [Heap.size_push, n3]
  have q5 : (tzE s.heap l1 l2).get? (tzD s.heap l1 l2).objs.size = some _ := Heap.get?_push_size _ rfl
  have q4 : (tzE s.heap l1 l2).get? (tzC s.heap l1 l2).objs.size = some _ := Heap.get?_push_of_some _ (Heap.get?_push_size _ rfl)
  have q3 : (tzE s.heap l1 l2).get? (tzB s.heap l1 l2).objs.size = some _ := Heap.get?_push_of_some _ (Heap.get?_push_of_some _ (Heap.get?_push_size _ rfl))
  have q2 : (tzE s.heap l1 l2).get? (tzA s.heap l1).objs.size = some _ := Heap.get?_push_of_some _ (Heap.get?_push_of_some _ (Heap.get?_push_of_some _ (Heap.get?_push_size _ rfl)))
  have q1 : (tzE s.heap l1 l2).get? s.heap.objs.size = some _ := Heap.get?_push_of_some _ (Heap.get?_push_of_some _ (Heap.get?_push_of_some _ (Heap.get?_push_of_some _ (Heap.get?_push_size _ rfl))))
  show _ ∧ _
  rw [n2, n3, n4] at q5
  rw [n1, n2] at q3
  rw [n3] at q4
  rw [n1] at q2
  rw [n4]
  exact ⟨⟨_, q5, rfl⟩, h _ q5 q3 q4 ⟨_, q1, rfl, rfl⟩ ⟨_, q2, rfl, rfl⟩ fun c o x => Heap.get?_push_of_some _ (Heap.get?_push_of_some _ (Heap.get?_push_of_some _ (Heap.get?_push_of_some _ (Heap.get?_push_of_some _ x))))⟩
end
theorem za_of {n l1 l2 : Addr} (h1 : l1 < n) (h2 : l2 < n) : ZA (n + 4) (n + 2) (n + 3) n (n + 1) l1 l2 := by
  have h1 : @LT.lt Nat _ l1 n := h1
  have h2 : @LT.lt Nat _ l2 n := h2
  have key : ∀ (a b : Nat), (a < b ∨ b < a) → ¬ (@Eq Nat a b) := fun a b h q => by omega
  exact ⟨key _ _ (by omega), key _ _ (by omega), key _ _ (by omega), key _ _ (by omega), key _ _ (by omega), key _ _ (by omega), key _ _ (by omega), key _ _ (by omega), key _ _ (by omega), key _ _ (by omega),
    key _ _ (by omega), key _ _ (by omega), key _ _ (by omega), key _ _ (by omega), key _ _ (by omega), key _ _ (by omega), key _ _ (by omega), key _ _ (by omega)⟩
/-- zip(a, b) of two lists, or of two tuples -/
def iZip (K : PySem.W.Frag) (ta : TA) : TI := fun σ H R => ta σ H fun vs H1 => ∃ l1 l2, vs = [.ref l1, .ref l2] ∧
  ((∃ xs ys, SqL K H1 l1 xs ∧ SqL K H1 l2 ys ∧ R (Itz SqL K l1 l2) H1) ∨ (∃ xs ys, SqT K H1 l1 xs ∧ SqT K H1 l2 ys ∧ R (Itz SqT K l1 l2) H1))
theorem pi_zip {X : Cx} {a b : Expr} {ta : TA} {p pos : Pos} {elts : List Expr} {ek : Nat} {epos : Pos} (hg : Gl X "zip") (hm : X.mg "zip" = none) (ha : PA X [a, b] ta) (hs : starEach [a, b] X.env = [(false, eval a X.env), (false, eval b X.env)] := by rfl) (hs2 : starEach [b] X.env = [(false, eval b X.env)] := by rfl) :
    PI X (.Tuple elts ek epos) (.Call (.Name "zip" p) [a, b] [] pos) (iZip X.K ta) := by
  intro pins s σ H R I h
  refine Call_ (ld_blt I hg hm boot_zip (PyProof.Rows.callWith_type1 (thn (ha pos pins s σ H _ I h) fun us s1 ⟨vs, H1, I1, r1, q1⟩ => ?_) (by rw [hs, hs2]) (by rw [hs2]; rfl)))
  obtain ⟨l1, l2, e, q1⟩ := q1
  subst e
  obtain ⟨u1, u2, rfl, ru1, ru2⟩ := vals2 r1
  cases ru1
  cases ru2
  have fin : ∀ {sq : PySem.W.Frag → Hp → Addr → List V → Prop} {Hs : Addr → Heap → List Value → Prop} {S1 S2 : Nat → Heap → Prop} {h' : Heap}, SqK sq Hs → l1 < s1.heap.objs.size → l2 < s1.heap.objs.size → Drw X.prog X.w s1.heap.objs.size l1 S1 (Hs l1) → Drw X.prog X.w (s1.heap.objs.size + 1) l2 S2 (Hs l2) →
      IsZip h' (s1.heap.objs.size + 4) (s1.heap.objs.size + 2) (s1.heap.objs.size + 3) .none → IsPair h' (s1.heap.objs.size + 2) (.ref s1.heap.objs.size) (.ref (s1.heap.objs.size + 1)) → IsPair h' (s1.heap.objs.size + 3) .none .none → S1 0 h' → S2 0 h' → (∀ c o, s1.heap.get? c = some o → h'.get? c = some o) → R (Itz sq X.K l1 l2) H1 →
      wpAny (model X.prog X.w) X.A (pyIter (.ref (s1.heap.objs.size + 4))) (PIE X pins σ (.Tuple elts ek epos) R) X.xe { s1 with heap := h' } := by
    intro sq Hs S1 S2 h' SK b1 b2 D1 D2 z0 t1 t0 st1 st2 kp q
    refine wpAny_pyIter_zip z0 ?_
    refine ⟨s1.heap.objs.size + 4, _, _, _, H1, rfl, I1.kept (h' := h') (t' := s1.toks) kp, turn_zip SK (za_of b1 b2) D1 D2, ⟨z0, t1, ⟨_, _, t0⟩, st1, st2⟩, fun c hc => ?_, q⟩
    have hle : s1.heap.objs.size ≤ c := by
      simp only [List.mem_cons, List.not_mem_nil, or_false] at hc
      have : (s1.heap.objs.size : Nat) ≤ (c : Nat) := by rcases hc with rfl | rfl | rfl | rfl | rfl <;> omega
      exact this
    exact I1.fpOk hle (I1.hok.fresh hle)
  rcases q1 with ⟨xs, ys, h1, h2, q⟩ | ⟨xs, ys, h1, h2, q⟩
  · obtain ⟨its1, r1, p1, _⟩ := I1.list h1
    obtain ⟨its2, r2, p2, _⟩ := I1.list h2
    have b1 : l1 < s1.heap.objs.size := by obtain ⟨o, n, e, _⟩ := p1; exact Heap.lt_size e
    have b2 : l2 < s1.heap.objs.size := by obtain ⟨o, n, e, _⟩ := p2; exact Heap.lt_size e
    exact call_zip_2 p1.isList p2.isList fun h' z0 t1 t0 st1 st2 _ kp => fin sqk_list b1 b2 (drw_list _ _) (drw_list _ _) z0 t1 t0 st1 st2 kp q
  · obtain ⟨its1, r1, p1, _⟩ := I1.tuple h1
    obtain ⟨its2, r2, p2, _⟩ := I1.tuple h2
    have b1 : l1 < s1.heap.objs.size := by obtain ⟨o, e, _⟩ := p1; exact Heap.lt_size e
    have b2 : l2 < s1.heap.objs.size := by obtain ⟨o, e, _⟩ := p2; exact Heap.lt_size e
    exact call_zipT p1 p2 fun h' z0 t1 t0 st1 st2 kp => fin sqk_tup b1 b2 (drw_tuple _ _) (drw_tuple _ _) z0 t1 t0 st1 st2 kp q
theorem qi_zip {X : Cx} {a b : Expr} {ta : TA} {p pos : Pos} {elts : List Expr} {ek : Nat} {epos : Pos} (hg : Gl X "zip") (hm : X.mg "zip" = none) (ha : QA X [a, b] ta) (hs : starEach [a, b] X.env = [(false, eval a X.env), (false, eval b X.env)] := by rfl) (hs2 : starEach [b] X.env = [(false, eval b X.env)] := by rfl) :
    QI X (.Tuple elts ek epos) (.Call (.Name "zip" p) [a, b] [] pos) (iZip X.K ta) := ⟨pi_zip hg hm ha.h hs hs2⟩
/-- a loop over a zip of two rows that stay -/
theorem forW_zip {sq : PySem.W.Frag → Hp → Addr → List V → Prop} {K : PySem.W.Frag} {l1 l2 : Addr} {g : TG} {tb : TS} {D : Ends} {σ : St} {H : Hp} (xs ys : List V) (hxy : xs.length = ys.length) (Pv : Nat → St → Hp → Prop) (h0 : Pv 0 σ H) (hl : ∀ i σ H, i ≤ xs.length → Pv i σ H → sq K H l1 xs ∧ sq K H l2 ys)
    (hs : ∀ i x y p σ H, xs[i]? = some x → ys[i]? = some y → Pv i σ H → H p = none → g (.ref p) σ (upd H p (.tup [x, y])) fun σ2 H2 => tb { D with nx := Pv (i + 1), ct := Pv (i + 1), bk := D.nx } σ2 H2) (hd : ∀ σ H, Pv xs.length σ H → D.nx σ H) : tForW (Itz sq K l1 l2) g tb D σ H := by
  refine ⟨fun i m σ H => m = xs.length - i ∧ i ≤ xs.length ∧ Pv i σ H, ⟨xs.length, by simp, Nat.zero_le _, h0⟩, ?_⟩
  rintro i m σ H ⟨rfl, hi, p⟩
  obtain ⟨q1, q2⟩ := hl i σ H hi p
  by_cases hlt : i < xs.length
  · refine .inr ⟨⟨xs, ys, q1, q2, hlt, by omega⟩, Pv (i + 1), fun σ' H' p' => ⟨xs.length - (i + 1), by omega, rfl, hlt, p'⟩, fun v H' y => ?_⟩
    obtain ⟨pp, a, b, rfl, hp, rfl, hv⟩ := y
    obtain ⟨e1, e2⟩ := hv xs ys q1 q2
    exact hs i a b pp σ H e1 e2 p hp
  · have e : i = xs.length := by omega
    subst e
    exact .inl ⟨⟨xs, ys, q1, q2, .inl (Nat.le_refl _)⟩, hd σ H p⟩
end L2

end
section
set_option Elab.async false
set_option linter.all false
set_option maxRecDepth 100000
set_option maxHeartbeats 4000000
/-! DATA as trees, and how a heap bears them. -/
namespace L2
open PySem PySem.Spec PyProof.Rows
inductive D where
  | non | bl (b : Bool) | int (i : Int) | str (x : Str) | tup (xs : List D) | lst (xs : List D)
mutual
def Rep (H : Hp) : D → V → Prop
  | .non, v => v = .non
  | .bl b, v => v = .bl b
  | .int i, v => v = .int i
  | .str x, v => v = .str x
  | .tup ds, v => ∃ a vs, v = .ref a ∧ H a = some (.tup vs) ∧ RepL H ds vs
  | .lst ds, v => ∃ a vs, v = .ref a ∧ H a = some (.lst vs) ∧ RepL H ds vs
def RepL (H : Hp) : List D → List V → Prop
  | [], vs => vs = []
  | d :: ds, vs => ∃ v r, vs = v :: r ∧ Rep H d v ∧ RepL H ds r
end
mutual
theorem Rep.mono {H H' : Hp} (k : Same H H') : ∀ (d : D) (v : V), Rep H d v → Rep H' d v
  | .non, v, h => h
  | .bl b, v, h => h
  | .int i, v, h => h
  | .str x, v, h => h
  | .tup ds, v, h => by
    obtain ⟨a, vs, e, h1, h2⟩ := h
    exact ⟨a, vs, e, k _ _ h1, RepL.mono k ds vs h2⟩
  | .lst ds, v, h => by
    obtain ⟨a, vs, e, h1, h2⟩ := h
    exact ⟨a, vs, e, k _ _ h1, RepL.mono k ds vs h2⟩
theorem RepL.mono {H H' : Hp} (k : Same H H') : ∀ (ds : List D) (vs : List V), RepL H ds vs → RepL H' ds vs
  | [], vs, h => h
  | d :: ds, vs, h => by
    obtain ⟨v, r, e, h1, h2⟩ := h
    exact ⟨v, r, e, Rep.mono k d v h1, RepL.mono k ds r h2⟩
end
theorem RepL.length {H : Hp} : ∀ {ds : List D} {vs : List V}, RepL H ds vs → vs.length = ds.length
  | [], vs, h => by cases h; rfl
  | d :: ds, vs, h => by
    obtain ⟨v, r, rfl, h1, h2⟩ := h
    rw [List.length_cons, List.length_cons, RepL.length h2]
theorem RepL.get {H : Hp} : ∀ {ds : List D} {vs : List V} {i : Nat} {v : V}, RepL H ds vs → vs[i]? = some v → ∃ d, ds[i]? = some d ∧ Rep H d v
  | [], vs, i, v, h, e => by cases h; simp at e
  | d :: ds, vs, i, v, h, e => by
    obtain ⟨w, r, rfl, h1, h2⟩ := h
    cases i with
    | zero => simp at e; subst e; exact ⟨d, rfl, h1⟩
    | succ i => simp at e; exact RepL.get (i := i) h2 e
mutual
def sameD : D → D → Bool
  | .non, .non => true
  | .bl a, .bl b => a == b
  | .int a, .int b => a == b
  | .str a, .str b => a == b
  | .tup a, .tup b => sameL a b
  | .lst a, .lst b => sameL a b
  | _, _ => false
def sameL : List D → List D → Bool
  | [], [] => true
  | a :: r, b :: s => sameD a b && sameL r s
  | _, _ => false
end
mutual
theorem sameD_refl : ∀ d : D, sameD d d = true
  | .non => rfl
  | .bl _ => by simp [sameD]
  | .int _ => by simp [sameD]
  | .str _ => by simp [sameD]
  | .tup ds => by rw [sameD]; exact sameL_refl ds
  | .lst ds => by rw [sameD]; exact sameL_refl ds
theorem sameL_refl : ∀ ds : List D, sameL ds ds = true
  | [] => rfl
  | d :: ds => by rw [sameL, sameD_refl d, sameL_refl ds]; rfl
end
mutual
def D.deep : D → Nat
  | .tup ds => deepL ds + 1
  | .lst ds => deepL ds + 1
  | _ => 0
def deepL : List D → Nat
  | [] => 0
  | d :: ds => max d.deep (deepL ds)
end
theorem deep_get : ∀ {ds : List D} {i : Nat} {d : D}, ds[i]? = some d → d.deep ≤ deepL ds
  | [], i, d, h => by simp at h
  | e :: ds, 0, d, h => by simp at h; subst h; rw [deepL]; omega
  | e :: ds, i + 1, d, h => by
    simp at h
    have := deep_get h
    rw [deepL]; omega
/-- what isinstance says -/
def isI : D → String → Bool
  | .non, _ => false
  | .bl _, c => c == "bool" || c == "int"
  | .int _, c => c == "int"
  | .str _, c => c == "str"
  | .tup _, c => c == "tuple"
  | .lst _, c => c == "list"
def fiveT : List String := ["bool", "int", "str", "list", "tuple"]
theorem isi {K : PySem.W.Frag} {H : Hp} {d : D} {v : V} (r : Rep H d v) (c : String) (hc : c ∈ fiveT) : ∃ t, TyOf K H v t ∧ PySem.W.kitOne K t (.type c) = some (isI d c) := by
  unfold fiveT at hc
  simp only [List.mem_cons, List.not_mem_nil, or_false] at hc
  cases d with
  | non => cases r; refine ⟨_, .non, ?_⟩; rcases hc with rfl | rfl | rfl | rfl | rfl <;> rfl
  | bl b => cases r; refine ⟨_, .bl b, ?_⟩; rcases hc with rfl | rfl | rfl | rfl | rfl <;> rfl
  | int i => cases r; refine ⟨_, .int i, ?_⟩; rcases hc with rfl | rfl | rfl | rfl | rfl <;> rfl
  | str x => cases r; refine ⟨_, .str x, ?_⟩; rcases hc with rfl | rfl | rfl | rfl | rfl <;> rfl
  | tup ds => obtain ⟨a, vs, rfl, h1, h2⟩ := r; refine ⟨_, .tup h1, ?_⟩; rcases hc with rfl | rfl | rfl | rfl | rfl <;> rfl
  | lst ds => obtain ⟨a, vs, rfl, h1, h2⟩ := r; refine ⟨_, .lst h1, ?_⟩; rcases hc with rfl | rfl | rfl | rfl | rfl <;> rfl
theorem Rep.none_iff {H : Hp} {d : D} {v : V} (r : Rep H d v) : decide (v = .non) = (match d with | .non => true | _ => false) := by
  cases d with
  | non => cases r; rfl
  | bl b => cases r; rfl
  | int i => cases r; rfl
  | str x => cases r; rfl
  | tup ds => obtain ⟨a, vs, rfl, h1, h2⟩ := r; rfl
  | lst ds => obtain ⟨a, vs, rfl, h1, h2⟩ := r; rfl
theorem sameL_take {as bs : List D} : ∀ {i : Nat} {a b : D}, as[i]? = some a → bs[i]? = some b → sameL (as.take (i + 1)) (bs.take (i + 1)) = (sameL (as.take i) (bs.take i) && sameD a b) := by
  induction as generalizing bs with
  | nil => intro i a b h; simp at h
  | cons x as ih =>
    intro i a b h1 h2
    cases bs with
    | nil => simp at h2
    | cons y bs =>
      cases i with
      | zero => simp at h1 h2; subst h1; subst h2; simp [sameL]
      | succ i =>
        simp at h1 h2
        have := ih h1 h2
        rw [List.take_succ_cons, List.take_succ_cons, sameL, this, List.take_succ_cons, List.take_succ_cons, sameL, Bool.and_assoc]
theorem sameL_false_len {as bs : List D} (h : as.length ≠ bs.length) : sameL as bs = false := by
  induction as generalizing bs with
  | nil => cases bs with
    | nil => exact absurd rfl h
    | cons y bs => rfl
  | cons x as ih => cases bs with
    | nil => rfl
    | cons y bs => rw [sameL, ih (fun e => h (by rw [List.length_cons, List.length_cons, e])), Bool.and_false]
theorem sameL_false_at {as bs : List D} {i : Nat} {a b : D} (h1 : as[i]? = some a) (h2 : bs[i]? = some b) (h : sameD a b = false) : sameL as bs = false := by
  induction as generalizing bs i with
  | nil => simp at h1
  | cons x as ih =>
    cases bs with
    | nil => simp at h2
    | cons y bs =>
      cases i with
      | zero => simp at h1 h2; subst h1; subst h2; rw [sameL, h, Bool.false_and]
      | succ i => simp at h1 h2; rw [sameL, ih h1 h2, Bool.and_false]
end L2
namespace L2
theorem Rep.mono' {H H' : Hp} {d : D} {v : V} (h : Rep H d v) (k : Same H H') : Rep H' d v := Rep.mono k d v h
end L2

end
section
set_option Elab.async false
set_option linter.all false
set_option maxRecDepth 100000
set_option maxHeartbeats 4000000
/-! DOWNWARD RANGES, and dicts keyed by tuples. -/
namespace L2
open PySem PySem.Spec PyProof.Rows
section
variable {X : Cx} {tg : Expr}
end
section
variable {g : TG} {tb : TS} {D : Ends} {σ : St} {H : Hp}
end
section
variable {X : Cx} {o i value : Expr} {pos pos' : Pos} {td ty tv : TE}
end
end L2

end
section
set_option Elab.async false
set_option linter.all false
set_option maxRecDepth 100000
set_option maxHeartbeats 4000000
/-! == of pairs, and pairs looked up in a list. -/
namespace L2
open PySem PySem.Spec PyProof.Rows
section
variable {X : Cx}
end
end L2

end
section
set_option Elab.async false
set_option linter.all false
set_option maxRecDepth 100000
set_option maxHeartbeats 4000000
/-! a pair in a list of pairs -/
namespace L2
open PySem PySem.Spec PyProof.Rows
section
variable {X : Cx}
end
end L2

end
section
set_option Elab.async false
set_option linter.all false
set_option maxRecDepth 100000
set_option maxHeartbeats 4000000
/-! A SORT of fewer than 64 items whose questions are answered by ranks: a rising rearrangement comes out. -/
namespace L2
open PySem PySem.Spec PyProof.Rows PySem.W
def Ranks (cmp : Nat → Nat → (Bool → Shared → Prop) → Shared → Prop) (r : Nat → Nat) (N : Nat) (s : Shared) : Prop := ∀ (i j : Nat) (C : Bool → Shared → Prop), i < N → j < N → C (decide (r i < r j)) s → cmp i j C s
def kp (r : Nat → Nat) (p : Array Nat) (i : Nat) : Nat := r (p.getD i 0)
def Pm (N : Nat) (p : Array Nat) : Prop := p.toList.Perm (List.range N)
def UpTo (r : Nat → Nat) (p : Array Nat) (m : Nat) : Prop := ∀ i, i + 1 < m → kp r p i ≤ kp r p (i + 1)
section
variable {s : Shared} {cmp : Nat → Nat → (Bool → Shared → Prop) → Shared → Prop} {r : Nat → Nat} {N : Nat} {p : Array Nat}
theorem Pm.size (h : Pm N p) : p.size = N := by
  have := h.length_eq
  rw [List.length_range] at this
  simpa using this
theorem Pm.lt (h : Pm N p) {i : Nat} (hi : i < N) : p.getD i 0 < N := by
  have hs : i < p.size := by rw [h.size]; exact hi
  have e : p.getD i 0 = p[i] := by simp [Array.getD, hs]
  have m : p[i] ∈ p.toList := by simp
  rw [e]
  exact List.mem_range.mp (h.mem_iff.mp m)
theorem Pm.rev (h : Pm N p) (i j : Nat) : Pm N (kas_rev p i j) := (Array.perm_iff_toList_perm.mp (mirror_perm p i j _)).trans h
theorem Pm.bub (h : Pm N p) (i d : Nat) : Pm N (bubble p i d) := (Array.perm_iff_toList_perm.mp (bubble_perm p i d)).trans h
theorem kp_of {p q : Array Nat} {i j : Nat} (h : p[i]? = q[j]?) : kp r p i = kp r q j := by
  unfold kp
  rw [Array.getD_eq_getD_getElem?, Array.getD_eq_getD_getElem?, h]
theorem kp_rev (h : Pm N p) {i j k : Nat} (hj : j ≤ N) : kp r (kas_rev p i j) k = if i ≤ k ∧ k < j then kp r p (i + j - 1 - k) else kp r p k := by
  have e := getElem?_mirror_all (xs := p) (i := i) (j := j) (by rw [h.size]; exact hj) k
  by_cases c : i ≤ k ∧ k < j
  · rw [if_pos c] at e ⊢; exact kp_of e
  · rw [if_neg c] at e ⊢; exact kp_of e
theorem kp_bub (h : Pm N p) {k l i : Nat} (hk : k < N) (hl : l ≤ k) : kp r (bubble p k (k - l)) i = if i = l then kp r p k else if l < i ∧ i ≤ k then kp r p (i - 1) else kp r p i := by
  have e := getElem?_bubble (xs := p) (src := k) (by rw [h.size]; exact hk) (k - l) (by omega) i
  have x : k - (k - l) = l := by omega
  rw [x] at e
  by_cases c : i = l
  · rw [if_pos c] at e ⊢; exact kp_of e
  · rw [if_neg c] at e ⊢
    by_cases d : l < i ∧ i ≤ k
    · rw [if_pos d] at e ⊢; exact kp_of e
    · rw [if_neg d] at e ⊢; exact kp_of e
theorem up_le (h : UpTo r p m) : ∀ (d i : Nat), i + d < m → kp r p i ≤ kp r p (i + d)
  | 0, i, _ => Nat.le_refl _
  | d + 1, i, hi => Nat.le_trans (up_le h d i (by omega)) (h (i + d) (by omega))
end
end L2

namespace L2
/-! ranks by counting -/
structure Weak (lt : Nat → Nat → Bool) : Prop where
  irr : ∀ i, lt i i = false
  tr : ∀ i j k, lt i j = true → lt j k = true → lt i k = true
  neg : ∀ i j k, lt i j = true → lt i k = true ∨ lt k j = true
def rk (lt : Nat → Nat → Bool) (N i : Nat) : Nat := (List.range N).countP fun k => lt k i
theorem countP_less {p q : Nat → Bool} (h : ∀ k, p k = true → q k = true) {i : Nat} (hp : p i = false) (hq : q i = true) : ∀ l : List Nat, i ∈ l → l.countP p < l.countP q
  | [], m => nomatch m
  | x :: l, m => by
    have le := List.countP_mono_left (l := l) (p := p) (q := q) fun k _ => h k
    rw [List.countP_cons, List.countP_cons]
    rcases List.mem_cons.mp m with rfl | m
    · rw [hp, hq]
      simp
      omega
    · have := countP_less h hp hq l m
      by_cases z : p x = true
      · rw [z, h x z]; simp; omega
      · cases e : q x with
        | true => simp [z]; omega
        | false => simp [z]; omega
theorem rk_iff {lt : Nat → Nat → Bool} (W : Weak lt) {N i j : Nat} (hi : i < N) : decide (rk lt N i < rk lt N j) = lt i j := by
  unfold rk
  cases e : lt i j with
  | true => exact decide_eq_true (countP_less (fun k h => W.tr k i j h e) (W.irr i) e _ (List.mem_range.mpr hi))
  | false =>
    refine decide_eq_false (Nat.not_lt.mpr (List.countP_mono_left fun k _ h => ?_))
    rcases W.neg k j i h with z | z
    · exact z
    · rw [e] at z; cases z
end L2

namespace L2
open PySem PySem.Spec PyProof.Rows
/-! tuples of keys, place by place -/
end L2

namespace L2
open PySem PySem.Spec PyProof.Rows PySem.W
section
variable {prog : Program} {w : World} {A : Around} {E : Value → Shared → Prop} {s : Shared}
end
section
variable {X : Cx}
end
end L2

end
section
set_option Elab.async false
set_option linter.all false
set_option maxRecDepth 100000
set_option maxHeartbeats 4000000
/-! setdefault on a dict keyed by tuples; d.get; list.count. -/
namespace L2
open PySem PySem.Spec PyProof.Rows
section
variable {prog : Program} {w : World} {K : Type} [DecidableEq K] {knd : HeapKind prog w K} {A : Around} {E : Value → Shared → Prop} {s : Shared}
end
section
variable {X : Cx} {pins : List (Addr × Obj)} {σ : St} {H : Hp} {s : Shared} {a b : Addr} {z : V} {r : Value} {kvs : List (List Key × V)} {k : List Key} {A : Around} {E : Value → Shared → Prop}
end
section
variable {X : Cx} {o e f : Expr} {apos cpos : Pos} {td ty tx : TE} {n : Nat}
/-- l.count(x), of flat items -/
def rCount (K : PySem.W.Frag) : V → List V → Hp → VK → Prop := fun x vs H Q => ∃ l xs y, x = .ref l ∧ vs = [y] ∧ SqL K H l xs ∧ flatV y = true ∧ xs.all flatV = true ∧ Q (.int (xs.countP fun z => eqV z y)) H
theorem countP_eqU {x : V} : ∀ {xs : List V} {us : List Value}, Vals xs us → xs.all flatV = true → us.countP (eqU x) = xs.countP fun y => eqV y x
  | _, _, .nil, _ => rfl
  | y :: xs, u :: us, .cons r t, f => by
    rw [List.all_cons, Bool.and_eq_true] at f
    rw [List.countP_cons, List.countP_cons, countP_eqU t f.2, eqU_of r f.1]
theorem mt_count : MtR X "list.count" (rCount X.K) := by
  intro pins s σ H x vs v us Q I rx rv h
  obtain ⟨l, xs, y, rfl, rfl, hL, fy, fs, q⟩ := h
  cases rx
  obtain ⟨u, rfl, ru⟩ := rv.one
  obtain ⟨its, r, pl, hz⟩ := I.list hL
  obtain ⟨o, n, e1, e2, e3, e4⟩ := pl
  obtain ⟨oc, od, odt, osl⟩ := o
  have e2' : oc = .type "list" := e2
  have e4' : odt = .seq its.toArray n := by first | exact e4 | exact e3
  subst e2' e4'
  refine call_meets F.slot_list_count ⟨_, e1, rfl⟩ F.entry_list_count (F.args_list_count_2 _ _) (SeqAt.list_countAt l its.toArray n od osl u (eqU y)) ⟨e1, fun w hw => mem_eqAt ru fy r fs w (by simpa using hw), ?_⟩
  rw [show its.toArray.toList = its by simp, countP_eqU r fs]
  exact ⟨.int (xs.countP fun z => eqV z y), H, I.tok _, ⟨_, rfl⟩, q⟩
theorem qmt_count : QM X "list.count" (rCount X.K) := ⟨mt_count⟩
end
end L2

end
section
set_option Elab.async false
set_option linter.all false
set_option maxRecDepth 100000
set_option maxHeartbeats 4000000
/-! A SORT of fewer than 64 items is STABLE: by rank, and of one rank in the order in which they stood. -/
namespace L2
open PySem PySem.Spec PyProof.Rows PySem.W
def LL (r : Nat → Nat) (a b : Nat) : Prop := r a < r b ∨ (r a = r b ∧ a < b)
theorem LL.le {r : Nat → Nat} {a b : Nat} (h : LL r a b) : r a ≤ r b := by rcases h with h | h <;> omega
structure Tl (N m : Nat) (p : Array Nat) : Prop where
  pm : Pm N p
  tl : ∀ j, m ≤ j → j < N → p.getD j 0 = j
  hd : ∀ j, j < m → p.getD j 0 < m
def UpS (r : Nat → Nat) (p : Array Nat) (m : Nat) : Prop := ∀ i, i + 1 < m → LL r (p.getD i 0) (p.getD (i + 1) 0)
def DnS (r : Nat → Nat) (p : Array Nat) (m : Nat) : Prop := ∀ i, i + 1 < m → LL r (p.getD (i + 1) 0) (p.getD i 0)
section
variable {s : Shared} {cmp : Nat → Nat → (Bool → Shared → Prop) → Shared → Prop} {r : Nat → Nat} {N : Nat} {p : Array Nat}
theorem UpS.up {m : Nat} (h : UpS r p m) : UpTo r p m := fun i hi => (h i hi).le
theorem at_rev (h : Pm N p) {i j k : Nat} (hj : j ≤ N) : (kas_rev p i j).getD k 0 = if i ≤ k ∧ k < j then p.getD (i + j - 1 - k) 0 else p.getD k 0 := kp_rev (r := id) h hj
theorem at_bub (h : Pm N p) {k l i : Nat} (hk : k < N) (hl : l ≤ k) : (bubble p k (k - l)).getD i 0 = if i = l then p.getD k 0 else if l < i ∧ i ≤ k then p.getD (i - 1) 0 else p.getD i 0 := kp_bub (r := id) h hk hl
theorem Tl.step {n : Nat} (h : Tl N n p) (hn : n < N) : Tl N (n + 1) p := ⟨h.pm, fun j a b => h.tl j (by omega) b, fun j hj => by
  by_cases e : j < n
  · have := h.hd j e; omega
  · have : j = n := by omega
    subst this
    rw [h.tl j (Nat.le_refl _) hn]; omega⟩
theorem Tl.rev {n i j : Nat} (h : Tl N n p) (hj : j ≤ n) (hn : n ≤ N) : Tl N n (kas_rev p i j) := ⟨h.pm.rev i j, fun k a b => by rw [at_rev h.pm (by omega), if_neg (by omega)]; exact h.tl k a b, fun k hk => by
  rw [at_rev h.pm (by omega)]
  by_cases c : i ≤ k ∧ k < j
  · rw [if_pos c]; exact h.hd _ (by omega)
  · rw [if_neg c]; exact h.hd k hk⟩
theorem asc_okS (hR : Ranks cmp r N s) {Q : Nat → Shared → Prop} : ∀ (f n : Nat), 1 ≤ n → n + f ≤ N → Tl N n p → UpS r p n → (∀ m, n ≤ m → m ≤ n + f → Tl N m p → UpS r p m → (m < n + f → r (p.getD m 0) < r (p.getD (m - 1) 0)) → Q m s) → (kas_asc p f n).kasWp cmp Q s
  | 0, n, h1, h2, ht, hu, k => k n (Nat.le_refl _) (Nat.le_refl _) ht hu (fun z => by omega)
  | f + 1, n, h1, h2, ht, hu, k => by
    refine hR _ _ _ (ht.pm.lt (by omega)) (ht.pm.lt (by omega)) ?_
    by_cases c : r (p.getD n 0) < r (p.getD (n - 1) 0)
    · rw [decide_eq_true c]
      exact k n (Nat.le_refl _) (by omega) ht hu fun _ => c
    · rw [decide_eq_false c]
      refine asc_okS hR f (n + 1) (by omega) (by omega) (ht.step (by omega)) (fun i hi => ?_) fun m a b t u d => k m (by omega) (by omega) t u (fun z => d (by omega))
      by_cases e : i + 1 < n
      · exact hu i e
      · have : i = n - 1 := by omega
        subst this
        rw [show n - 1 + 1 = n by omega]
        have e1 := ht.tl n (Nat.le_refl _) (by omega)
        have e2 := ht.hd (n - 1) (by omega)
        rw [e1] at c ⊢
        unfold LL
        omega
/-- a run that goes down; its last items, from b on, are of one rank and still stand as they came -/
structure Dn (r : Nat → Nat) (p : Array Nat) (z n : Nat) : Prop where
  a : ∀ i, i + 1 ≤ z → LL r (p.getD (i + 1) 0) (p.getD i 0)
  b : ∀ i, i + 1 = z → r (p.getD (i + 1) 0) < r (p.getD i 0)
  c : ∀ i, z ≤ i → i + 1 < n → r (p.getD i 0) = r (p.getD (i + 1) 0) ∧ p.getD i 0 < p.getD (i + 1) 0
theorem Dn.eq {b n : Nat} (h : Dn r p b n) : ∀ d, b + d < n → r (p.getD b 0) = r (p.getD (b + d) 0)
  | 0, _ => rfl
  | d + 1, hd => (h.eq d (by omega)).trans (h.c (b + d) (by omega) (by omega)).1
theorem Dn.flip {b n : Nat} (h : Dn r p b n) (hp : Pm N p) (hb : b < n) (hn : n ≤ N) : DnS r (kas_rev p b n) n := fun i hi => by
  rw [at_rev hp hn, at_rev hp hn]
  by_cases c1 : i + 1 < b
  · rw [if_neg (by omega), if_neg (by omega)]; exact h.a i (by omega)
  · by_cases c2 : i + 1 = b
    · rw [if_pos (by omega), if_neg (by omega), show b + n - 1 - (i + 1) = n - 1 by omega]
      have e := h.eq (n - 1 - b) (by omega)
      rw [show b + (n - 1 - b) = n - 1 by omega] at e
      have e2 := h.b i c2
      rw [c2] at e2
      exact .inl (by omega)
    · rw [if_pos (by omega), if_pos (by omega)]
      have e := h.c (b + n - 1 - (i + 1)) (by omega) (by omega)
      rw [show b + n - 1 - (i + 1) + 1 = b + n - 1 - i by omega] at e
      exact .inr e
theorem desc_okS (hR : Ranks cmp r N s) {Q : Array Nat × Nat × Nat → Shared → Prop} : ∀ (f : Nat) (p : Array Nat) (n q : Nat), Tl N n p → 1 ≤ n → n + f ≤ N → q + 1 ≤ n → Dn r p (n - (q + 1)) n →
    (∀ (p' : Array Nat) (m q' : Nat), Tl N m p' → n ≤ m → m ≤ n + f → q' + 1 ≤ m → Dn r p' (m - (q' + 1)) m → Q (p', m, q') s) → (kas_desc f p n q).kasWp cmp Q s
  | 0, p, n, q, hp, h1, h2, hq, hd, k => k p n q hp (Nat.le_refl _) (Nat.le_refl _) hq hd
  | f + 1, p, n, q, hp, h1, h2, hq, hd, k => by
    refine hR _ _ _ (hp.pm.lt (by omega)) (hp.pm.lt (by omega)) ?_
    by_cases c : r (p.getD n 0) < r (p.getD (n - 1) 0)
    · rw [decide_eq_true c]
      show (if true = true then (if q > 0 then kas_desc f (kas_rev p (n - (q + 1)) n) (n + 1) 0 else kas_desc f p (n + 1) 0) else _).kasWp cmp Q s
      rw [if_pos rfl]
      by_cases z : q > 0
      · rw [if_pos z]
        have fl := hd.flip hp.pm (by omega) (by omega)
        have last : r ((kas_rev p (n - (q + 1)) n).getD n 0) < r ((kas_rev p (n - (q + 1)) n).getD (n - 1) 0) := by
          rw [at_rev hp.pm (by omega), at_rev hp.pm (by omega), if_neg (by omega), if_pos (by omega), show n - (q + 1) + n - 1 - (n - 1) = n - (q + 1) by omega]
          have e := hd.eq q (by omega)
          rw [show n - (q + 1) + q = n - 1 by omega] at e
          omega
        refine desc_okS hR f _ (n + 1) 0 ((hp.rev (by omega) (by omega)).step (by omega)) (by omega) (by omega) (by omega) ⟨fun i hi => ?_, fun i hi => ?_, fun i a b => by omega⟩ fun p' m q' a b c' d e => k p' m q' a (by omega) (by omega) d e
        · by_cases e : i + 1 < n
          · exact fl i e
          · have : i = n - 1 := by omega
            subst this
            rw [show n - 1 + 1 = n by omega]
            exact .inl last
        · have : i = n - 1 := by omega
          subst this
          rw [show n - 1 + 1 = n by omega]
          exact last
      · rw [if_neg z]
        have q0 : q = 0 := by omega
        subst q0
        refine desc_okS hR f p (n + 1) 0 (hp.step (by omega)) (by omega) (by omega) (by omega) ⟨fun i hi => ?_, fun i hi => ?_, fun i a b => by omega⟩ fun p' m q' a b c' d e => k p' m q' a (by omega) (by omega) d e
        · by_cases e : i + 1 < n
          · exact hd.a i (by omega)
          · have : i = n - 1 := by omega
            subst this
            rw [show n - 1 + 1 = n by omega]
            exact .inl c
        · have : i = n - 1 := by omega
          subst this
          rw [show n - 1 + 1 = n by omega]
          exact c
    · rw [decide_eq_false c]
      show (if false = true then _ else KasT.ask (p.getD (n - 1) 0) (p.getD n 0) fun d => if d = true then .ret (p, n, q) else kas_desc f p (n + 1) (q + 1)).kasWp cmp Q s
      rw [if_neg Bool.false_ne_true]
      refine hR _ _ _ (hp.pm.lt (by omega)) (hp.pm.lt (by omega)) ?_
      by_cases d : r (p.getD (n - 1) 0) < r (p.getD n 0)
      · rw [decide_eq_true d]
        exact k p n q hp (Nat.le_refl _) (by omega) hq hd
      · rw [decide_eq_false d]
        have e1 := hp.tl n (Nat.le_refl _) (by omega)
        have e2 := hp.hd (n - 1) (by omega)
        have eb : n + 1 - (q + 1 + 1) = n - (q + 1) := by omega
        refine desc_okS hR f p (n + 1) (q + 1) (hp.step (by omega)) (by omega) (by omega) (by omega) (by
          rw [eb]
          refine ⟨hd.a, hd.b, fun i a b => ?_⟩
          by_cases e : i + 1 < n
          · exact hd.c i a e
          · have : i = n - 1 := by omega
            subst this
            rw [show n - 1 + 1 = n by omega]
            exact ⟨by omega, by omega⟩) fun p' m q' a b c' d e => k p' m q' a (by omega) (by omega) d e
theorem rev_upS (h : Pm N p) {n : Nat} (hn : n ≤ N) (hd : DnS r p n) : UpS r (kas_rev p 0 n) n := fun i hi => by
  rw [at_rev h hn, at_rev h hn, if_pos (by omega), if_pos (by omega)]
  have := hd (0 + n - 1 - (i + 1)) (by omega)
  rw [show 0 + n - 1 - (i + 1) + 1 = 0 + n - 1 - i by omega] at this
  exact this
def RunsS (r : Nat → Nat) (N : Nat) (Q : Nat × Array Nat → Shared → Prop) (s : Shared) : Prop := ∀ (m : Nat) (p : Array Nat), 1 ≤ m → m ≤ N → Tl N m p → UpS r p m → Q (m, p) s
theorem tail_okS (hR : Ranks cmp r N s) {n : Nat} (h : Tl N n p) {Q : Nat × Array Nat → Shared → Prop} (k : RunsS r N Q s) (h1 : 1 ≤ n) (hn : n ≤ N) (hd : DnS r p n) : (kas_tail3 n N p).kasWp cmp Q s := by
  unfold kas_tail3
  rw [KasT.kasWp_bind]
  exact asc_okS hR (N - n) n h1 (by omega) (h.rev (Nat.le_refl _) hn) (rev_upS h.pm hn hd) fun m a b t u _ => k m _ (by omega) (by omega) t u
theorem part_okS (hR : Ranks cmp r N s) {n : Nat} (h : Tl N (n + 1) p) {Q : Nat × Array Nat → Shared → Prop} (k : RunsS r N Q s) (hn : n + 1 ≤ N) (hd : Dn r p n (n + 1)) : (kas_descPart n N p).kasWp cmp Q s := by
  unfold kas_descPart
  rw [KasT.kasWp_bind]
  refine desc_okS hR (N - (n + 1)) p (n + 1) 0 h (by omega) (by omega) (by omega) hd fun p' m q' a b c d e => ?_
  dsimp only
  by_cases z : q' > 0
  · rw [if_pos z]
    exact tail_okS hR (a.rev (Nat.le_refl _) (by omega)) k (by omega) (by omega) (e.flip a.pm (by omega) (by omega))
  · rw [if_neg z]
    exact tail_okS hR a k (by omega) (by omega) fun i hi => e.a i (by omega)
theorem count_okS (hR : Ranks cmp r N s) (h : Tl N 1 p) (h1 : 1 ≤ N) {Q : Nat × Array Nat → Shared → Prop} (k : RunsS r N Q s) : (kas_count N p).kasWp cmp Q s := by
  unfold kas_count
  rw [KasT.kasWp_bind]
  refine asc_okS hR (N - 1) 1 (Nat.le_refl _) (by omega) h (fun i hi => by omega) fun m a b t u d => ?_
  by_cases z : m = N
  · rw [if_pos (by rw [z]; exact beq_self_eq_true N)]
    exact k m p a (by omega) t u
  · rw [if_neg (fun e => z (eq_of_beq e))]
    have dm := d (by omega)
    by_cases y : m > 1
    · rw [if_pos y]
      refine hR _ _ _ (h.pm.lt (by omega)) (h.pm.lt (by omega)) ?_
      by_cases c : r (p.getD 0 0) < r (p.getD (m - 1) 0)
      · rw [decide_eq_true c]
        exact k m p a (by omega) t u
      · rw [decide_eq_false c]
        have all : ∀ i, i < m → r (p.getD i 0) = r (p.getD (m - 1) 0) := fun i hi => by
          have h0 := up_le u.up i 0 (by omega)
          have h2 := up_le u.up (m - 1 - i) i (by omega)
          rw [show 0 + i = i by omega] at h0
          rw [show i + (m - 1 - i) = m - 1 by omega] at h2
          unfold kp at h0 h2
          omega
        refine part_okS hR ((t.rev (Nat.le_refl _) (by omega)).step (by omega)) k (by omega) ⟨fun i hi => ?_, fun i hi => ?_, fun i a b => by omega⟩
        · rw [at_rev h.pm (by omega), at_rev h.pm (by omega)]
          by_cases e : i + 1 < m
          · rw [if_pos (by omega), if_pos (by omega)]
            have e2 := u (0 + m - 1 - (i + 1)) (by omega)
            rw [show 0 + m - 1 - (i + 1) + 1 = 0 + m - 1 - i by omega] at e2
            have a1 := all (0 + m - 1 - (i + 1)) (by omega)
            have a2 := all (0 + m - 1 - i) (by omega)
            rcases e2 with e2 | e2
            · omega
            · exact .inr ⟨by omega, e2.2⟩
          · rw [if_neg (by omega), if_pos (by omega)]
            have e3 : i + 1 = m := by omega
            rw [e3, show 0 + m - 1 - i = 0 by omega]
            have := all 0 (by omega)
            exact .inl (by omega)
        · rw [at_rev h.pm (by omega), at_rev h.pm (by omega), if_neg (by omega), if_pos (by omega), hi, show 0 + m - 1 - i = 0 by omega]
          have := all 0 (by omega)
          omega
    · rw [if_neg y]
      have m1 : m = 1 := by omega
      subst m1
      refine part_okS hR (t.step (by omega)) k (by omega) ⟨fun i hi => ?_, fun i hi => ?_, fun i a b => by omega⟩
      · have : i = 0 := by omega
        subst this
        exact .inl dm
      · have : i = 0 := by omega
        subst this
        exact dm
theorem place_okS (hR : Ranks cmp r N s) (h : Pm N p) {Q : Nat → Shared → Prop} {k : Nat} (hk : k < N) (hu : UpTo r p k) (q : ∀ l, l ≤ k → (∀ i, i < l → kp r p i ≤ kp r p k) → (∀ i, l ≤ i → i < k → kp r p k < kp r p i) → Q l s) :
    ∀ (f l m : Nat), l ≤ m → m ≤ k → m - l ≤ f → (∀ i, i < l → kp r p i ≤ kp r p k) → (∀ i, m ≤ i → i < k → kp r p k < kp r p i) → (kas_place p k f l m).kasWp cmp Q s
  | 0, l, m, a, b, c, lo, hi => q l (by omega) lo fun i x y => hi i (by omega) y
  | f + 1, l, m, a, b, c, lo, hi => by
    show (if l ≥ m then KasT.ret l else _).kasWp cmp Q s
    by_cases z : l ≥ m
    · rw [if_pos z]
      exact q l (by omega) lo fun i x y => hi i (by omega) y
    · rw [if_neg z]
      refine hR _ _ _ (h.lt hk) (h.lt (by omega)) ?_
      by_cases y : r (p.getD k 0) < r (p.getD ((l + m) / 2) 0)
      · rw [decide_eq_true y]
        refine place_okS hR h hk hu q f l ((l + m) / 2) (by omega) (by omega) (by omega) lo fun i x w => ?_
        have := up_le hu (i - (l + m) / 2) ((l + m) / 2) (by omega)
        rw [show (l + m) / 2 + (i - (l + m) / 2) = i by omega] at this
        exact Nat.lt_of_lt_of_le y this
      · rw [decide_eq_false y]
        refine place_okS hR h hk hu q f ((l + m) / 2 + 1) m (by omega) b (by omega) (fun i x => ?_) hi
        have := up_le hu ((l + m) / 2 - i) i (by omega)
        rw [show i + ((l + m) / 2 - i) = (l + m) / 2 by omega] at this
        exact Nat.le_trans this (Nat.le_of_not_lt y)
theorem bin_okS (hR : Ranks cmp r N s) {Q : Array Nat → Shared → Prop} : ∀ (f : Nat) (p : Array Nat) (k : Nat), Tl N k p → k + f ≤ N → UpS r p k → (∀ p', Pm N p' → UpS r p' (k + f) → Q p' s) → (kas_bin f p k).kasWp cmp Q s
  | 0, p, k, h, hk, hu, q => q p h.pm hu
  | f + 1, p, k, h, hk, hu, q => by
    show ((kas_place p k k 0 k).bind fun l => kas_bin f (bubble p k (k - l)) (k + 1)).kasWp cmp Q s
    rw [KasT.kasWp_bind]
    refine place_okS hR h.pm (by omega) hu.up (fun l a lo hi => ?_) k 0 k (by omega) (by omega) (by omega) (fun i x => by omega) fun i x y => by omega
    have ek := h.tl k (Nat.le_refl _) (by omega)
    refine bin_okS hR f _ (k + 1) ⟨h.pm.bub _ _, fun j x y => ?_, fun j x => ?_⟩ (by omega) (fun i x => ?_) fun p' a b => q p' a (by rw [show k + (f + 1) = k + 1 + f by omega]; exact b)
    · rw [at_bub h.pm (by omega) a, if_neg (by omega), if_neg (by omega)]; exact h.tl j (by omega) y
    · rw [at_bub h.pm (by omega) a]
      by_cases c : j = l
      · rw [if_pos c, ek]; omega
      · rw [if_neg c]
        by_cases d : l < j ∧ j ≤ k
        · rw [if_pos d]; have := h.hd (j - 1) (by omega); omega
        · rw [if_neg d]; have := h.hd j (by omega); omega
    · rw [at_bub h.pm (by omega) a, at_bub h.pm (by omega) a]
      by_cases c : i = l
      · rw [if_pos c, if_neg (by omega), if_pos (by omega), show i + 1 - 1 = l by omega]
        exact .inl (hi l (by omega) (by omega))
      · rw [if_neg c]
        by_cases d : i + 1 = l
        · rw [if_pos d, if_neg (by omega)]
          have e1 := lo i (by omega)
          have e2 := h.hd i (by omega)
          unfold kp at e1
          rw [ek] at e1 ⊢
          unfold LL
          omega
        · rw [if_neg d]
          by_cases e : l < i
          · rw [if_pos (by omega), if_pos (by omega), show i + 1 - 1 = i - 1 + 1 by omega]
            exact hu (i - 1) (by omega)
          · rw [if_neg (by omega), if_neg (by omega)]
            exact hu i (by omega)
theorem sort_okS (hR : Ranks cmp r N s) (h2 : 1 ≤ N) {Q : Array Nat → Shared → Prop} (q : ∀ p, Pm N p → UpS r p N → Q p s) : (kas_sort N).kasWp cmp Q s := by
  unfold kas_sort
  rw [KasT.kasWp_bind]
  have id0 : ∀ j, j < N → (List.toArray (List.range N)).getD j 0 = j := fun j hj => by simp [Array.getD, hj]
  refine count_okS hR ⟨by show (List.toArray (List.range N)).toList.Perm _; exact List.Perm.refl _, fun j _ hj => id0 j hj, fun j hj => by rw [id0 j (by omega)]; exact hj⟩ h2 fun m p a b hp u => ?_
  by_cases c : m < N
  · rw [if_pos c]
    refine bin_okS hR _ p _ (by rw [Nat.max_eq_left a]; exact hp) (by omega) (by rw [Nat.max_eq_left a]; exact u) fun p' x y => q p' x ?_
    rw [show max m 1 + (N - max m 1) = N by omega] at y
    exact y
  · rw [if_neg c]
    exact q p hp.pm (by rw [show N = m by omega]; exact u)
theorem LL.tr {a b c : Nat} (h : LL r a b) (g : LL r b c) : LL r a c := by unfold LL at *; omega
theorem UpS.lt {m : Nat} (h : UpS r p m) : ∀ (d i : Nat), i + d + 1 < m → LL r (p.getD i 0) (p.getD (i + d + 1) 0)
  | 0, i, hi => h i hi
  | d + 1, i, hi => (UpS.lt h d i (by omega)).tr (h (i + d + 1) (by omega))
theorem UpS.pair (hp : Pm N p) (u : UpS r p N) : p.toList.Pairwise (LL r) := by
  rw [List.pairwise_iff_getElem]
  intro i j hi hj hij
  have hs := hp.size
  have hi' : i < p.size := by simpa using hi
  have hj' : j < p.size := by simpa using hj
  have := u.lt (j - i - 1) i (by omega)
  rw [show i + (j - i - 1) + 1 = j by omega] at this
  simpa [Array.getD, hi', hj'] using this
end
/-! keys that are ints -/
def kI (ks : List Int) (i : Nat) : Int := ks.getD i 0
/-- by key, and of one key by place -/
def LK (ks : List Int) (a b : Nat) : Prop := kI ks a < kI ks b ∨ (kI ks a = kI ks b ∧ a < b)
theorem weak_ints (ks : List Int) : Weak fun i j => decide (kI ks i < kI ks j) := ⟨fun i => decide_eq_false (Int.lt_irrefl _), fun i j k a b => by have := of_decide_eq_true a; have := of_decide_eq_true b; exact decide_eq_true (by omega),
  fun i j k a => by
    have := of_decide_eq_true a
    by_cases c : kI ks i < kI ks k
    · exact .inl (decide_eq_true c)
    · exact .inr (decide_eq_true (by omega))⟩
def rI' (ks : List Int) : Nat → Nat := rk (fun i j => decide (kI ks i < kI ks j)) ks.length
theorem rI_iff {ks : List Int} {i j : Nat} (hi : i < ks.length) : (rI' ks i < rI' ks j) ↔ kI ks i < kI ks j := by
  have := rk_iff (weak_ints ks) (i := i) (j := j) hi
  unfold rI'
  by_cases c : kI ks i < kI ks j
  · rw [decide_eq_true c] at this
    exact ⟨fun _ => c, fun _ => of_decide_eq_true this⟩
  · rw [decide_eq_false c] at this
    exact ⟨fun z => absurd z (of_decide_eq_false this), fun z => absurd z c⟩
theorem LL.key {ks : List Int} {i j : Nat} (hi : i < ks.length) (hj : j < ks.length) (h : LL (rI' ks) i j) : LK ks i j := by
  have a := rI_iff (ks := ks) (i := i) (j := j) hi
  have b := rI_iff (ks := ks) (i := j) (j := i) hj
  rcases h with h | ⟨h1, h2⟩
  · exact .inl (a.mp h)
  · refine .inr ⟨?_, h2⟩
    have : ¬ kI ks i < kI ks j := fun z => by have := a.mpr z; omega
    have : ¬ kI ks j < kI ks i := fun z => by have := b.mpr z; omega
    omega
theorem UpS.keys {ks : List Int} {p : Array Nat} (hp : Pm ks.length p) (u : UpS (rI' ks) p ks.length) : p.toList.Pairwise (LK ks) := by
  have hm : ∀ i ∈ p.toList, i < ks.length := fun i hi => List.mem_range.mp (hp.mem_iff.mp hi)
  exact List.Pairwise.imp_of_mem (fun hi hj h => LL.key (hm _ hi) (hm _ hj) h) (u.pair hp)
end L2

end
section
set_option Elab.async false
set_option linter.all false
set_option maxRecDepth 100000
set_option maxHeartbeats 4000000
/-! A LAMBDA as sorted's key: sorted(l, key=lambda x: ..), also with reverse=True. The code's table is tracked; its rows are loose. -/
namespace L2
open PySem PySem.Spec PyProof.Rows PySem.W
def IsTab (H : Hp) (P : Addr) (nm : Str) : Prop := ∃ ps t, H P = some (.tbl ps) ∧ ps[0]? = some (.str nm t)
theorem IsTab.same {H H' : Hp} {P : Addr} {nm : Str} (h : IsTab H P nm) (k : Same H H') : IsTab H' P nm := let ⟨ps, t, a, b⟩ := h; ⟨ps, t, k _ _ a, b⟩
theorem IsTab.x {H H' : Hp} {P s : Addr} {xs : List V} {nm : Str} (h : IsTab H P nm) (hs : H s = some (.lst xs)) (k : SameX s H H') : IsTab H' P nm := let ⟨ps, t, a, b⟩ := h; ⟨ps, t, k _ _ (fun z => by rw [z, hs] at a; cases a) a, b⟩
/-- what a call leaves of tables -/
def Tabs (H H' : Hp) : Prop := ∀ b ps, H b = some (.tbl ps) → ∃ more, H' b = some (.tbl (ps ++ more))
theorem IsTab.call {H H' : Hp} {P : Addr} {nm : Str} (h : IsTab H P nm) (k : Tabs H H') : IsTab H' P nm := by
  obtain ⟨ps, t, a, b⟩ := h
  obtain ⟨m, e⟩ := k _ _ a
  refine ⟨_, t, e, ?_⟩
  have h0 : 0 < ps.size := by
    rcases Nat.eq_zero_or_pos ps.size with z | z
    · rw [Array.getElem?_eq_none (by omega)] at b; cases b
    · exact z
  rw [Array.getElem?_append_left h0]; exact b
section
variable {P : Program} {w : World} {K : Frag} {mg : Str → Option Value} {base : Heap}
/-- a lambda of one argument is called -/
theorem lam_run {A : Around} {outer : List Env} {s : Shared} {H : Hp} {k : Nat} {name qual : Str} {params : Arguments} {body : Expr} {scope : Scope} {pm ctv : Value} {c f : Addr} {x : Str} {u : Value} {v : V} {te : TE} {Q : VK}
    (hr : Room k A) (e0 : Env0 P w K mg base A outer s H) (ho : s.heap.get? f = some (kla_obj name qual params body scope [] pm c ctv)) (hcd : s.heap.CodeRec (.ref c) qual) (S : FnScope [x] [x] scope)
    (hb : bindArgs (kla_fn name qual params body scope [] pm (.ref c) ctv) ⟨[u], []⟩ = pure [(x, u)]) (r : RelV v u)
    (hbody : PE (cxOf CX0 P w K mg base [x] qual scope f (.ref c) A outer s H E0) body te) (hq : te (start [x] [v]) H Q) :
    codeAny (model P w) A (.call (.ref f) ⟨[u], []⟩) (CR CX0 outer P w H s Q E0) s := by
  have lim : s.heap.NoLimit := e0.mod.nolimit.keeps fun b o e => (e0.bs b o e).1
  have hkind : ∀ y ∈ [(x, u)], scope.names.lookup y.1 = some .local ∨ (scope.names.lookup y.1 = some .cell ∧ ((cellsFrom (s.heap.objs.size + 1) scope.names []).lookup y.1).isSome = true) := fun ⟨n, v⟩ hy => by
    have e : (n, v) = (x, u) := by simpa using hy
    cases e
    rcases S.par x List.mem_cons_self with q | q
    · exact .inl q
    · exact .inr ⟨q, PySem.W.cellsFrom_some _ _ _ (.inl q)⟩
  refine kla_callFunE hr.depth ho rfl S.co S.gen rfl hcd ?_
  rw [hb]
  refine wpAny_pure (wpAny_newFunctionEnv_cells S.kind hkind fun env he s1 xx => ?_)
  subst he
  refine ⟨lim.keeps xx.toInCall.keep, kla_codeExpr ?_⟩
  have I : Inv (cxOf CX0 P w K mg base [x] qual scope f (.ref c) A outer s H E0) [] (start [x] [v]) H s1 := inv_start (ps := [x]) S hr.hd e0 rfl (.cons r .nil) xx
  exact wpAny_mono (hbody [] s1 _ H _ I hq) (fun v s' ⟨v', H', J, rv, q⟩ => ⟨v', H', J.os, J.bare, J.base, J.hok, rv, q⟩) fun e s' hs => hs
end
theorem among_snoc {pos p2 : Pos} {c cv : Value} (l : List Value) (h : TriplesOk l) (e : codeAmong pos (l ++ [rawInt p2.line, rawInt p2.col, c]) = some cv) : codeAmong pos l = some cv ∨ cv = c := by
  fun_induction TriplesOk l with
  | case1 =>
    simp only [List.nil_append, codeAmong, rawInt] at e
    split at e
    · cases e; exact .inr rfl
    · cases e
  | case2 a t b u x rest ih =>
    simp only [List.cons_append, codeAmong] at e ⊢
    split at e
    · rename_i hc; rw [if_pos hc]; exact .inl e
    · rename_i hc; rw [if_neg hc]; exact ih h e
  | case3 l h1 h2 => exact h.elim
/-- what a def that makes a lambda must have -/
structure LamX (X : Cx) (c P : Addr) (nm : Str) : Prop where
  code : X.env.code = .ref c
  hd : CodeHd X.base c P
  blt : X.base.BuiltinsAt X.mg P
  nmq : X.env.qual ++ "<lambda>" = nm
  gl : mainGlobals ≠ P
section
variable {X : Cx} {pins : List (Addr × Obj)} {σ : St} {H : Hp} {s : Shared} {c P : Addr} {nm : Str} {params : Arguments} {body : Expr} {scope : Scope} {lpos : Pos}
theorem Inv.pin1 {f : Addr} {o : Obj} (I : Inv X pins σ H s) (fp : FpOk X pins H f) (ho : s.heap.get? f = some o) (hc : ∀ v, o.data ≠ .cell v) : Inv X (pins ++ [(f, o)]) σ H s := I.pins_of fun p hp => (List.mem_append.mp hp).elim (fun z => I.pin p (List.mem_append_right _ z)) fun z => by
  have e : p = (f, o) := by simpa using z
  subst e
  exact ⟨ho, fp.1, fp.2.1, fp.2.2.1, hc⟩
theorem lam_make {Q : Value → Shared → Prop} (I : Inv X pins σ H s) (L : LamX X c P nm) (hT : IsTab X.H₀ P nm) (hcl : closureFor scope X.env = pure []) (hdef : defaultsOf params X.env = ([], []))
    (k : ∀ (f c' : Addr) (ctv : Value) (oc : Obj) (vs : Array Value) (t : Tok) (H' : Hp) (s' : Shared), Inv X (pins ++ [(f, kla_obj "<lambda>" nm params body scope [] ((X.mg "__name__").getD .none) c' ctv)]) σ H' s' → s'.heap.get? c' = some oc → oc.data = .fields vs → vs[1]? = some (.str nm t) → H' c' = some (.own P) → IsTab H' P nm → Same H H' → Q (.ref f) s') :
    wpAny (model X.prog X.w) X.A (eval (.Lambda params body scope lpos) X.env) Q X.xe s := by
  have hTH := hT.call I.base.tbls
  obtain ⟨ps, tp, hP, hps⟩ := hTH
  obtain ⟨qs, nm', t', eP, tr, hps', rows⟩ := I.hok P _ hP
  rw [hps] at hps'
  cases hps'
  have C := L.hd.keeps I.bk
  have G : s.heap.Ns mainGlobals X.mg := let ⟨o, es, ep, e, r⟩ := I.ok.mod.glob; ⟨o, es, ep, I.bk _ _ e, r⟩
  have B : s.heap.BuiltinsAt X.mg P := let ⟨bm, o, a1, a2, a3, a4, a5, a6⟩ := L.blt; ⟨bm, o, a1, a2, a3, a4, I.bk _ _ a5, a6⟩
  refine kla_eval hdef ?_
  rw [L.nmq]
  cases hf : codeAmong lpos qs.toList with
  | some cv =>
    obtain ⟨c', rfl, own, c2, oc, vs, t2, e3, e4, e5, e6⟩ := rows _ _ hf
    cases e3
    refine kla_makeFunctionHit (mg := X.mg) hcl I.ok.glob G L.code C eP tr hf B fun ctv h' tk hk hsz => ?_
    have hk2 : ∀ b u, s.heap.get? b = some u → (h'.push (kla_obj "<lambda>" nm params body scope [] ((X.mg "__name__").getD .none) c' ctv)).get? b = some u := fun b u e => Heap.get?_push_of_some _ (hk b u e)
    have I2 : Inv X pins σ H { s with heap := h'.push (kla_obj "<lambda>" nm params body scope [] ((X.mg "__name__").getD .none) c' ctv), toks := tk } := I.kept hk2
    exact k h'.objs.size c' ctv oc vs t2 H _ (I2.pin1 (I.fpOk hsz (I.hok.fresh hsz)) (Heap.get?_push_size _ rfl) (fun v z => by cases z)) (hk2 _ _ e4) e5 e6 own ⟨ps, tp, hP, hps⟩ fun _ _ e => e
  | none =>
    refine kla_makeFunction (mg := X.mg) hcl I.ok.glob G L.code C eP tr hf L.gl B fun c' ctv h' tk hx hge hlt hrec htb => ?_
    obtain ⟨c2, oc, vs, t2, e3, e4, e5, e6⟩ := hrec
    cases e3
    have hcn : H c' = none := I.hok.fresh hge
    have hcP : c' ≠ P := fun z => by rw [z] at hge; exact absurd (Nat.lt_of_lt_of_le (Heap.lt_size eP) hge) (Nat.lt_irrefl _)
    have ext : ∀ b u, b ≠ P → s.heap.get? b = some u → (h'.push (kla_obj "<lambda>" nm params body scope [] ((X.mg "__name__").getD .none) c' ctv)).get? b = some u := fun b u n e => Heap.get?_push_of_some _ (hx b u n e)
    have hoc := Heap.get?_push_of_some (kla_obj "<lambda>" nm params body scope [] ((X.mg "__name__").getD .none) c' ctv) e4
    have hPt := Heap.get?_push_of_some (kla_obj "<lambda>" nm params body scope [] ((X.mg "__name__").getD .none) c' ctv) htb
    have hszz : s.heap.objs.size ≤ h'.objs.size := Nat.le_of_lt (Nat.lt_of_le_of_lt hge hlt)
    have hfo := Heap.get?_push_size h' (o := kla_obj "<lambda>" nm params body scope [] ((X.mg "__name__").getD .none) c' ctv) rfl
    generalize (h'.push (kla_obj "<lambda>" nm params body scope [] ((X.mg "__name__").getD .none) c' ctv)) = h2 at ext hoc hPt hfo ⊢
    have hPu : upd H c' (.own P) P = some (.tbl ps) := by rw [upd_ne hcP.symm]; exact hP
    have hok : HOk X.prog X.w (upd H c' (.own P)) h2 := fun b u e => by
      by_cases b1 : b = c'
      · subst b1; rw [upd_same] at e; cases e; exact ⟨oc, hoc⟩
      · rw [upd_ne b1] at e
        by_cases b2 : b = P
        · subst b2
          rw [hP] at e
          cases e
          refine ⟨_, nm, tp, hPt, by rw [Array.toList_append]; exact TriplesOk_snoc _ _ _ _ tr, hps, fun pos cv ec => ?_⟩
          rw [Array.toList_append] at ec
          rcases among_snoc _ tr ec with z | z
          · obtain ⟨c3, f1, f2, c4, o4, v4, t4, f3, f4, f5⟩ := rows _ _ z
            cases f3
            have nb : c3 ≠ b := fun y => by rw [y, hP] at f2; cases f2
            exact ⟨c3, f1, by rw [upd_ne (fun y => by rw [y, hcn] at f2; cases f2)]; exact f2, c3, o4, v4, t4, rfl, ext _ _ nb f4, f5⟩
          · exact ⟨c', z, upd_same, c', oc, vs, t2, rfl, hoc, e5, e6⟩
        · refine (I.hok b u e).stay (fun d v hd q => ext d v ?_ q) (fun d q => by rw [upd_ne (ne_of_none q hcn)]; exact q) fun d xs q => by rw [upd_ne (ne_of_none q hcn)]; exact q
          rcases hd with z | z
          · rw [z]; exact b2
          · intro y; rw [y, hP] at z; cases z
    have un : Un X.fs [] H (upd H c' (.own P)) s.heap h2 := by
      have nP : ∀ b, H b = none → b ≠ P := fun b n z => by rw [z, hP] at n; cases n
      have lt : ∀ b o, s.heap.get? b = some o → b ≠ c' := fun b o e z => by rw [z] at e; exact absurd (Nat.lt_of_lt_of_le (Heap.lt_size e) hge) (Nat.lt_irrefl _)
      refine ⟨fun b o e n _ _ => ext b o (nP b n) e, fun b o e n _ _ => ⟨o.slots, ext b o (nP b n) e⟩, fun b o e n _ => by rw [upd_ne (lt b o e)]; exact n, fun b o e _ => ?_, fun b xs e => by rw [upd_ne (ne_of_none e hcn)]; exact e, fun b o u e => by rw [upd_ne (ne_of_none e hcn)]; exact e, fun b ps e => ⟨#[], by rw [upd_ne (ne_of_none e hcn), e]; simp⟩⟩
      by_cases b2 : b = P
      · exact ⟨_, by rw [b2]; exact hPt⟩
      · exact ⟨o, ext b o b2 e⟩
    have I2 : Inv X pins σ (upd H c' (.own P)) { s with heap := h2, toks := tk } := I.un un hok
    have hfn : (upd H c' (.own P)) h'.objs.size = none := by rw [upd_ne (Nat.ne_of_gt hlt)]; exact I.hok.fresh hszz
    exact k h'.objs.size c' ctv oc vs t2 _ _ (I2.pin1 (I.fpOk hszz hfn) hfo (fun v z => by cases z)) hoc e5 e6 upd_same ⟨ps, tp, hPu, hps⟩ (Same.new hcn)
/-- .. and called, under an abstract heap that does not track the table -/
theorem lam_call {k : Nat} {A : Around} {f c' : Addr} {ctv pm : Value} {oc : Obj} {vs : Array Value} {t : Tok} {x : Str} {u : Value} {v w : V} {te : TE} (I : Inv X pins σ H s) (hA : A.frames = X.A.frames) (hr : Room k A) (hf : s.heap.get? f = some (kla_obj "<lambda>" nm params body scope [] pm c' ctv))
    (ho : s.heap.get? c' = some oc) (e1 : oc.data = .fields vs) (e2 : vs[1]? = some (.str nm t)) (hc : H c' = some (.own P)) (hT : IsTab H P nm) (S : FnScope [x] [x] scope)
    (hb : bindArgs (kla_fn "<lambda>" nm params body scope [] pm (.ref c') ctv) ⟨[u], []⟩ = pure [(x, u)]) (r : RelV v u)
    (hbody : ∀ H2 : Hp, PE (cxOf CX0 X.prog X.w X.K X.mg X.base [x] nm scope f (.ref c') A X.stack s H2 E0) body te)
    (hq : ∀ H2 : Hp, (∀ b ys, H b = some (.tup ys) → H2 b = some (.tup ys)) → te [some v] H2 fun z H3 => z = w ∧ H3 = H2) :
    wpAny (model X.prog X.w) A (call (.ref f) [u]) (fun r s' => RelV w r ∧ Inv X pins σ H s' ∧ s'.heap.get? c' = some oc) (fun _ _ => False) s := by
  classical
  obtain ⟨ps, tp, hP, hps⟩ := hT
  let H2 : Hp := fun b => if b = P ∨ H b = some (.own P) then none else H b
  have sub : ∀ b o, H2 b = some o → H b = some o ∧ b ≠ P ∧ o ≠ .own P := fun b o e => by
    by_cases z : b = P ∨ H b = some (.own P)
    · have : H2 b = none := if_pos z
      rw [this] at e; cases e
    · have e' : H2 b = H b := if_neg z
      rw [e'] at e
      exact ⟨e, fun y => z (.inl y), fun y => z (.inr (by rw [e, y]))⟩
  have up : ∀ b o, H b = some o → b ≠ P → o ≠ .own P → H2 b = some o := fun b o e n1 n2 => by
    have z : ¬ (b = P ∨ H b = some (.own P)) := fun z => z.elim n1 fun y => n2 (by rw [e] at y; exact Option.some.inj y)
    have e' : H2 b = H b := if_neg z
    rw [e']; exact e
  have non : ∀ b, H b = none → H2 b = none := fun b e => by
    cases q : H2 b with
    | none => rfl
    | some o => rw [(sub b o q).1] at e; cases e
  have tup2 : ∀ b ys, H b = some (.tup ys) → H2 b = some (.tup ys) := fun b ys e => up b _ e (fun z => by rw [z, hP] at e; cases e) (fun z => by cases z)
  have hok2 : HOk X.prog X.w H2 s.heap := fun b o e => by
    obtain ⟨h1, h2, h3⟩ := sub b o e
    refine (I.hok b o h1).stay (fun _ _ _ q => q) (fun d q => up d _ q (fun z => by rw [z, hP] at q; cases q) (fun z => by cases z; exact h2 rfl)) tup2
  have e0 := I.env0
  have e02 : Env0 X.prog X.w X.K X.mg X.base A X.stack s H2 := ⟨hA.trans e0.frames, e0.mod, fun b o e => ⟨(e0.bs b o e).1, non b (e0.bs b o e).2⟩, e0.bsz, e0.funs, fun b hb => non b (e0.frf b hb), hok2, e0.bare⟩
  refine wpAny_call (codeAny_mono (lam_run (Q := fun z H3 => z = w ∧ H3 = H2) hr e02 hf ⟨c', oc, vs, t, rfl, ho, e1, e2⟩ S hb r (hbody H2) (hq H2 tup2)) fun rr s' h => ?_)
  cases rr with
  | error e => exact h.elim
  | ok fl =>
    cases fl with
    | next => exact False.elim h
    | brk => exact False.elim h
    | cont => exact False.elim h
    | ret uu =>
      obtain ⟨z, H3, os, bare, un, hok3, rz, ez, eH⟩ := h
      subst ez eH
      have hc2 : H2 c' = none := if_pos (.inr hc)
      have hP2 : H2 P = none := if_pos (.inl rfl)
      have nfr : ∀ b o, H b = some o → b ∉ frs X.stack := fun b o e z => by rw [I.stkFree b z] at e; cases e
      have own2 : ∀ d, H d = some (.own P) → H2 d = none := fun d q => if_pos (.inr q)
      have hokH : HOk X.prog X.w H s'.heap := fun b o e => by
        by_cases b0 : o = .own P
        · subst b0
          obtain ⟨ob, eb⟩ := I.hok b _ e
          exact ⟨ob, un.keep _ _ eb (own2 _ e) (nfr _ _ e) (by simp)⟩
        by_cases b1 : b = P
        · subst b1
          refine (I.hok b o e).stay (fun d v hd q => ?_) (fun _ q => q) fun _ _ q => q
          rcases hd with z | z
          · subst z; exact un.keep _ _ q hP2 (nfr _ _ e) (by simp)
          · exact un.keep _ _ q (own2 _ z) (nfr _ _ z) (by simp)
        · have b1' : b ≠ P ∧ o ≠ .own P := ⟨b1, b0⟩
          refine (hok3 b o (up b o e b1'.1 b1'.2)).stay (fun _ _ _ q => q) (fun d q => (sub d _ q).1) fun d xs q => (sub d _ q).1
      refine ⟨rz, I.call' (ch := []) os ⟨fun b o e n hb hx => un.keep b o e (non b n) hb hx, fun b o e n hb hx => un.slot b o e (non b n) hb hx, fun b o e n hx => n, fun b o e hx => un.there b o e hx, fun _ _ e => e, fun _ _ _ e => e, fun b ps e => ⟨#[], by rw [e]; simp⟩⟩ hokH bare (fun b z => absurd z (by simp)), un.keep _ _ ho hc2 (nfr _ _ hc) (by simp)⟩
end
end L2

end
section
set_option Elab.async false
set_option linter.all false
set_option maxRecDepth 100000
set_option maxHeartbeats 4000000
namespace L2
open PySem PySem.Spec PyProof.Rows PySem.W
/-- by key, and of one key by place; falling where b -/
def LKb (b : Bool) (ks : List Int) (x y : Nat) : Prop := (if b = true then kI ks y < kI ks x else kI ks x < kI ks y) ∨ (kI ks x = kI ks y ∧ x < y)
def KeyOut (b : Bool) (ks : List Int) (vs out : List Value) : Prop := ∃ p : List Nat, p.Perm (List.range vs.length) ∧ p.Pairwise (LKb b ks) ∧ out = p.map fun i => vs.getD i Value.none
theorem getD_rev {α : Type} {l : List α} {d : α} {i : Nat} (h : i < l.length) : l.reverse.getD i d = l.getD (l.length - 1 - i) d := by
  rw [List.getD_eq_getElem?_getD, List.getD_eq_getElem?_getD, List.getElem?_reverse h]
theorem keyOut_up {ks : List Int} {vs : List Value} {p : Array Nat} (hl : ks.length = vs.length) (hp : Pm vs.length p) (u : UpS (rI' ks) p vs.length) : KeyOut false ks vs (p.toList.map fun i => vs.getD i Value.none) :=
  ⟨p.toList, hp, by rw [← hl] at hp u; exact (u.keys hp).imp fun h => by unfold LKb; rw [if_neg Bool.false_ne_true]; exact h, rfl⟩
theorem keyOut_down {ks : List Int} {vs : List Value} {p : Array Nat} (hl : ks.length = vs.length) (hp : Pm vs.length p) (u : UpS (rI' ks.reverse) p vs.length) : KeyOut true ks vs (p.toList.map fun i => vs.reverse.getD i Value.none).reverse := by
  have hm : ∀ i ∈ p.toList, i < vs.length := fun i hi => List.mem_range.mp (hp.mem_iff.mp hi)
  have e1 : (List.range vs.length).map (fun i => vs.length - 1 - i) = (List.range vs.length).reverse := by
    apply List.ext_getElem
    · simp
    · intro i h1 h2
      simp
  refine ⟨(p.toList.map fun i => vs.length - 1 - i).reverse, (List.reverse_perm _).trans ?_, ?_, ?_⟩
  · have := hp.map fun i => vs.length - 1 - i
    rw [e1] at this
    exact this.trans (List.reverse_perm _)
  · rw [List.pairwise_reverse, List.pairwise_map]
    have hp' : Pm ks.reverse.length p := by rw [List.length_reverse, hl]; exact hp
    have u' : UpS (rI' ks.reverse) p ks.reverse.length := by rw [List.length_reverse, hl]; exact u
    refine List.Pairwise.imp_of_mem ?_ (u'.keys hp')
    intro i j hi hj h
    have hi := hm i hi
    have hj := hm j hj
    unfold LK kI at h
    rw [getD_rev (by omega), getD_rev (by omega), hl] at h
    unfold LKb kI
    rw [if_pos rfl]
    rcases h with h | ⟨h1, h2⟩
    · exact .inl h
    · exact .inr ⟨h1.symm, by omega⟩
  · rw [List.map_reverse, List.map_map]
    congr 1
    refine List.map_congr_left fun i hi => ?_
    exact getD_rev (hm i hi)
section
variable {X : Cx} {pins : List (Addr × Obj)} {σ : St} {H : Hp} {s : Shared}
theorem Inv.track {D : Addr} {u : HO} (I : Inv X pins σ H s) (fp : FpOk X pins H D) (h0 : X.s₀.heap.objs.size ≤ D) (new : ObjOk X.prog X.w (upd H D u) s.heap D u) : Inv X pins σ (upd H D u) s := by
  obtain ⟨f0, f1, f2, f3, f4, f5⟩ := fp
  refine ⟨I.ok, I.os, I.bare, ⟨I.base.keep, I.base.slot, fun b o e n hx => ?_, I.base.there, fun b xs e => ?_, fun b o v e => ?_, fun b ps e => ?_⟩, I.loc, I.cell, ?_, fun x c e => ?_, fun p hp => ?_, hok_add I.hok f0 new, I.len⟩
  · rw [upd_ne (fun z => by rw [z] at e; exact absurd (Nat.lt_of_lt_of_le (Heap.lt_size e) h0) (Nat.lt_irrefl _))]; exact I.base.free b o e n hx
  · have := I.base.tups b xs e
    rw [upd_ne (ne_of_none this f0)]; exact this
  · have := I.base.frzs b o v e
    rw [upd_ne (ne_of_none this f0)]; exact this
  · obtain ⟨m, e2⟩ := I.base.tbls b ps e
    exact ⟨m, by rw [upd_ne (ne_of_none e2 f0)]; exact e2⟩
  · rw [upd_ne f1.symm]; exact I.free
  · rw [upd_ne (f4 x c e)]; exact I.freeC x c e
  · obtain ⟨a1, a2, a3⟩ := I.pin p hp
    exact ⟨a1, by rw [upd_ne (f5 p hp)]; exact a2, a3⟩
theorem Inv.reup {D : Addr} {g : Array Value → Array Value} (I : Inv X pins σ H s) (fp : FpOk X pins H D) : Inv X pins σ H { s with heap := s.heap.update D (Obj.mapSeq g) } :=
  I.turned (it := D) (t' := s.toks) (fun b o hb e => by rw [Heap.get?_update_ne _ _ _ _ hb]; exact e) fp.1 fp.2.1 fp.2.2.2.1 fp.2.2.2.2.1 fp.2.2.2.2.2
theorem Inv.pin2 {a b : Addr} {oa ob : Obj} (I : Inv X pins σ H s) (fa : FpOk X pins H a) (fb : FpOk X pins H b) (ha : s.heap.get? a = some oa) (hb : s.heap.get? b = some ob) (ca : ∀ v, oa.data ≠ .cell v) (cb : ∀ v, ob.data ≠ .cell v) : Inv X (pins ++ [(a, oa), (b, ob)]) σ H s :=
  I.pins_of fun p hp => (List.mem_append.mp hp).elim (fun z => I.pin p (List.mem_append_right _ z)) fun z => by
    rcases List.mem_cons.mp z with e | z
    · subst e; exact ⟨ha, fa.1, fa.2.1, fa.2.2.1, ca⟩
    · have e : p = (b, ob) := by simpa using z
      subst e; exact ⟨hb, fb.1, fb.2.1, fb.2.2.1, cb⟩
theorem Inv.at1 {pl : List (Addr × Obj)} {p : Addr × Obj} (I : Inv X (pins ++ pl) σ H s) (h : p ∈ pl) : s.heap.get? p.1 = some p.2 := (I.pin p (List.mem_append_right _ (List.mem_append_right _ h))).1
/-- the key of each item, by calls -/
def TurnOk (X : Cx) (pins : List (Addr × Obj)) (σ : St) (H : Hp) (f : Value) (c' : Addr) (oc : Obj) (vs : List Value) (ks : List Int) : Prop := ∀ (i : Nat) (v : Value) (k : Int), vs[i]? = some v → ks[i]? = some k → ∀ (pl : List (Addr × Obj)) (s : Shared), Inv X (pins ++ pl) σ H s → s.heap.get? c' = some oc →
  wpAny (model X.prog X.w) X.A.in1.in1 (call f [v]) (fun r s' => (∃ t, r = .int k t) ∧ Inv X (pins ++ pl) σ H s' ∧ s'.heap.get? c' = some oc) (fun _ _ => False) s
variable {f : Value} {c' a kS : Addr} {oc : Obj} {vs : List Value} {ks : List Int} {keys : Array Value} {b : Bool} {e e1 : Nat} {Pf : PySem.Fin → Shared → Prop} {E : Value → Shared → Prop}
theorem key_tail {st : SortSt} {o : List Value} (I : Inv X (pins ++ [(kS, seqObj "list" keys e), (a, seqObj "list" #[] e1)]) σ H s) (fk : FpOk X pins H kS) (fa : FpOk X pins H a) (hka : kS ≠ a) (hz1 : keys.size < 64) (ho : o.length < 64)
    (hs : (arrOf st).map (·.2) = List.toArray o) (hfl : failedOf st = none)
    (h : ∀ (s' : Shared) (c : Nat), Inv X pins σ H s' → s'.heap.get? a = some (seqObj "list" (List.toArray (if b then o.reverse else o)) c) → Pf (.done (.ret .none)) s') :
    wpAny (model X.prog X.w) X.A.in1.in1 (ksk_tail a b e1 (.ref kS) st) Pf E s := by
  have nk := I.at1 (p := (kS, seqObj "list" keys e)) (.head _)
  have na := I.at1 (p := (a, seqObj "list" #[] e1)) (.tail _ (.head _))
  have na1 : (s.heap.update kS (Obj.mapSeq fun _ => (#[] : Array Value))).get? a = some (seqObj "list" #[] e1) := by rw [Heap.get?_update_ne _ _ _ _ hka.symm]; exact na
  have I1 := (I.unpinned).reup (g := fun _ => (#[] : Array Value)) fk
  have hout : (if b then ((arrOf st).map (·.2)).reverse else (arrOf st).map (·.2)) = List.toArray (if b then o.reverse else o) := by
    rw [hs]; cases b <;> simp
  unfold ksk_tail
  try dsimp only
  refine wpAny_bind (listUpdate_at nk rfl ?_ (by rw [sizeLine_eq]; omega) (Nat.zero_le _))
  refine wpAny_bind (wpAny_letGo ?_)
  refine wpAny_bind (seqEpoch_at na1 rfl ?_)
  rw [hout]
  have hz : (List.toArray (if b then o.reverse else o)).size ≤ sizeLine + 1 := by
    rw [sizeLine_eq]
    cases b <;> simp <;> omega
  refine wpAny_bind (listUpdate_at na1 rfl ?_ (Nat.zero_le _) hz)
  rw [hfl]
  simp only [bne_self_eq_false, Bool.false_eq_true, if_false]
  have I2 := I1.reup (g := fun _ => List.toArray (if b then o.reverse else o)) fa
  exact wpAny_pure (h _ _ I2 (get?_update_seq na1 fun _ => List.toArray (if b then o.reverse else o)))
theorem zip_rev {α β : Type} {l : List α} {m : List β} (h : l.length = m.length) : (l.zip m).reverse = l.reverse.zip m.reverse := by
  unfold List.zip
  rw [List.reverse_zipWith h]
theorem ints_rev {kv : List Value} {ks : List Int} (h : IntsAre kv ks) : IntsAre kv.reverse ks.reverse := by
  induction h with
  | nil => exact .nil
  | cons n t _ ih => rw [List.reverse_cons, List.reverse_cons]; exact ksk_snoc ih
theorem ints_get {kv : List Value} {ks : List Int} (h : IntsAre kv ks) : ∀ {i : Nat}, i < ks.length → ∃ t, kv.getD i Value.none = .int (kI ks i) t := by
  induction h with
  | nil => intro i hi; simp at hi
  | cons n t _ ih =>
    intro i hi
    cases i with
    | zero => exact ⟨t, rfl⟩
    | succ i =>
      obtain ⟨t', e⟩ := ih (i := i) (by simpa using hi)
      exact ⟨t', by unfold kI at e ⊢; simpa using e⟩
theorem ranks_ints {A : Around} {kv : List Value} {ks : List Int} (h : IntsAre kv ks) (s : Shared) : Ranks (kas_ask X.prog X.w A oneType' kv) (rI' ks) ks.length s := by
  intro i j C hi hj hC
  obtain ⟨t, ei⟩ := ints_get h hi
  obtain ⟨u, ej⟩ := ints_get h hj
  unfold kas_ask
  rw [ei, ej, keyLt'_oneType]
  refine oneLt_int ?_
  have := rI_iff (ks := ks) (i := i) (j := j) hi
  by_cases c : kI ks i < kI ks j
  · rw [decide_eq_true c]; rw [decide_eq_true (this.mpr c)] at hC; exact hC
  · rw [decide_eq_false c]; rw [decide_eq_false (fun z => c (this.mp z))] at hC; exact hC
theorem key_end (I : Inv X (pins ++ [(kS, seqObj "list" keys e), (a, seqObj "list" #[] e1)]) σ H s) (fk : FpOk X pins H kS) (fa : FpOk X pins H a) (hka : kS ≠ a) (hk : IntsAre keys.toList ks) (hlen : ks.length = vs.length) (h64 : vs.length < 64)
    (h : ∀ (s' : Shared) (out : List Value) (c : Nat), Inv X pins σ H s' → s'.heap.get? a = some (seqObj "list" (List.toArray out) c) → KeyOut b ks vs out → Pf (.done (.ret .none)) s') :
    wpAny (model X.prog X.w) X.A.in1.in1 (ksk_end a b vs.toArray e1 (.ref kS) keys) Pf E s := by
  have hsz : keys.size = vs.length := by
    have h1 := hk.length
    rw [Array.length_toList] at h1
    omega
  have step : ∀ t : Sem PySem.Fin, wpAny (model X.prog X.w) X.A.in1.in1 t Pf E s → wpAny (model X.prog X.w) X.A.in1.in1 (if b = true then (do let _ ← rule "list.sort.reverse"; t) else t) Pf E s := by
    intro t ht
    split
    · exact wpAny_bind (wpAny_rule ht)
    · exact ht
  -- the pairs, as two lists
  obtain ⟨kv, ks2, v2, hpr, hi2, hl2, hl3, fin⟩ : ∃ (kv : List Value) (ks2 : List Int) (v2 : List Value), (if b = true then (keys.zip vs.toArray).reverse else keys.zip vs.toArray) = kv.toArray.zip v2.toArray ∧ IntsAre kv ks2 ∧ ks2.length = v2.length ∧ v2.length = vs.length ∧
      ∀ p : Array Nat, Pm v2.length p → UpS (rI' ks2) p v2.length → KeyOut b ks vs (if b then (p.toList.map fun i => v2.getD i Value.none).reverse else p.toList.map fun i => v2.getD i Value.none) := by
    cases b with
    | false =>
      refine ⟨keys.toList, ks, vs, by rw [if_neg Bool.false_ne_true, Array.toArray_toList], hk, hlen, rfl, fun p hp u => ?_⟩
      rw [if_neg Bool.false_ne_true]
      exact keyOut_up hlen hp u
    | true =>
      refine ⟨keys.toList.reverse, ks.reverse, vs.reverse, ?_, ints_rev hk, by rw [List.length_reverse, List.length_reverse, hlen], List.length_reverse, fun p hp u => ?_⟩
      · rw [if_pos rfl]
        apply Array.toList_inj.mp
        rw [Array.toList_reverse, ksk_zip, zip_rev (by rw [Array.length_toList]; exact hsz)]
        simp
      · rw [if_pos rfl]
        rw [List.length_reverse] at hp u
        exact keyOut_down hlen hp u
  have hkl : kv.length = v2.length := by have := hi2.length; omega
  unfold ksk_end
  try dsimp only
  refine step _ ?_
  rw [hpr]
  by_cases h2 : vs.toArray.size < 2
  · rw [if_pos h2, if_pos h2]
    refine wpAny_bind (wpAny_pure ?_)
    rw [StateT.run_pure]
    refine wpAny_bind (wpAny_pure ?_)
    try dsimp only
    have l2 : v2.length < 2 := by simp at h2; omega
    have pm : Pm v2.length (List.toArray (List.range v2.length)) := List.Perm.refl _
    have ko := fin _ pm fun i hi => by omega
    have eo : ((List.toArray (List.range v2.length)).toList.map fun i => v2.getD i Value.none) = v2 := by
      apply List.ext_getElem
      · simp
      · intro i h1 h2
        simp at h1
        simp [h1]
    rw [eo] at ko
    refine key_tail (o := v2) (b := b) I fk fa hka (by omega) (by omega) ?_ rfl fun s' c I' e' => h s' _ c I' e' ko
    show Array.map (fun x => x.2) (kv.toArray.zip v2.toArray) = _
    apply Array.toList_inj.mp
    rw [Array.toList_map, ksk_zip]
    simp only [List.toList_toArray]
    rw [List.map_snd_zip (by omega)]
  · rw [if_neg h2, if_neg h2]
    have l2 : 2 ≤ v2.length := by simp at h2; omega
    rw [ksk_kind hk (by omega)]
    refine wpAny_bind (wpAny_pure ?_)
    refine wpAny_bind (wpAny_mono (kat_run (ks := kv) (vs := v2) (κ := oneType') (G := fun p s' => s' = s ∧ Pm v2.length p ∧ UpS (rI' ks2) p v2.length)
      (Q := fun st' s' => s' = s ∧ ∃ p : Array Nat, (arrOf st').map (·.2) = List.toArray (p.toList.map fun i => v2.getD i Value.none) ∧ failedOf st' = none ∧ Pm v2.length p ∧ UpS (rI' ks2) p v2.length)
      hkl l2 (by omega) (fun p st' s' a1 a2 a3 a4 => ⟨a4.1, p, kat_snds hkl a2, a3, a4.2⟩) (sort_okS (by have := ranks_ints (X := X) (A := X.A.in1.in1) hi2 s; rw [hl2] at this; exact this) (by omega) fun p a b => ⟨rfl, a, b⟩)) ?_ fun _ _ e => e)
    rintro ⟨⟨⟩, st'⟩ s' ⟨rfl, p, ho', hf, hp, hu⟩
    try dsimp only
    have hpl : (p.toList.map fun i => v2.getD i Value.none).length = v2.length := by rw [List.length_map, Array.length_toList, hp.size]
    exact key_tail (o := p.toList.map fun i => v2.getD i Value.none) (b := b) I fk fa hka (by omega) (by omega) ho' hf fun s' c I' e' => h s' _ c I' e' (fin p hp hu)
theorem key_rest (I : Inv X (pins ++ [(kS, seqObj "list" #[] 0), (a, seqObj "list" #[] e1)]) σ H s) (hc : s.heap.get? c' = some oc) (fk : FpOk X pins H kS) (fa : FpOk X pins H a) (hka : kS ≠ a) (nck : c' ≠ kS) (hlen : ks.length = vs.length) (h64 : vs.length < 64)
    (turn : TurnOk X pins σ H f c' oc vs ks)
    (h : ∀ (s' : Shared) (out : List Value) (c : Nat), Inv X pins σ H s' → s'.heap.get? a = some (seqObj "list" (List.toArray out) c) → KeyOut b ks vs out → Pf (.done (.ret .none)) s') :
    wpAny (model X.prog X.w) X.A.in1.in1 (ksk_rest a f b vs.toArray e1 (.ref kS)) Pf E s := by
  unfold ksk_rest
  refine wpAny_bind (wpAny_rule ?_)
  first
    | rw [List.forIn_toArray]
    | (rw [← Array.forIn_toList]; simp only [List.toList_toArray])
    | rw [← Array.forIn_toList]
  refine wpAny_bind (ksk_fold (fun i s' => ∃ kA e, Inv X (pins ++ [(kS, seqObj "list" kA e), (a, seqObj "list" #[] e1)]) σ H s' ∧ s'.heap.get? c' = some oc ∧ IntsAre kA.toList (ks.take i)) vs 0 s
    ⟨#[], 0, I, hc, by simpa using IntsAre.nil⟩ ?step ?done)
  case step =>
    rintro j x s' hx ⟨kA, e, I', hc', hk⟩
    simp only [Nat.zero_add] at hk ⊢
    have hj : j < vs.length := (List.getElem?_eq_some_iff.mp hx).1
    obtain ⟨k, hkj⟩ : ∃ k, ks[j]? = some k := ⟨_, List.getElem?_eq_getElem (by omega)⟩
    have hz : kA.size ≤ vs.length := by
      have h1 := hk.length
      rw [Array.length_toList, List.length_take] at h1
      omega
    refine wpAny_bind (wpAny_attempt (wpAny_mono (turn j x k hx hkj _ s' I' hc') (fun v s'' he => ?_) fun _ _ hF => hF.elim))
    obtain ⟨⟨t2, rfl⟩, I2, hc2⟩ := he
    try dsimp only
    have nk := I2.at1 (p := (kS, seqObj "list" kA e)) (.head _)
    have na := I2.at1 (p := (a, seqObj "list" #[] e1)) (.tail _ (.head _))
    have ek : ks.take (j + 1) = ks.take j ++ [k] := by rw [List.take_add_one, hkj]; simp
    have ea : (kA.push (Value.int k t2)).toList = kA.toList ++ [Value.int k t2] := by simp
    refine wpAny_bind (listUpdate_at nk rfl ?_ (by rw [sizeLine_eq]; omega) (Nat.le_trans (Nat.le_of_eq (Array.size_push ..)) (by rw [sizeLine_eq]; omega)))
    have I3 := (I2.unpinned).reup (g := (·.push (.int k t2))) fk
    refine wpAny_pure ⟨rfl, kA.push (.int k t2), _, I3.pin2 fk fa (get?_update_seq nk (·.push (.int k t2))) (by rw [Heap.get?_update_ne _ _ _ _ hka.symm]; exact na) (fun v z => by cases z) (fun v z => by cases z), ?_, by rw [ea, ek]; exact ksk_snoc hk⟩
    show (s''.heap.update kS _).get? c' = _
    rw [Heap.get?_update_ne _ _ _ _ nck]; exact hc2
  case done =>
    rintro s' ⟨kA, e, I', hc', hk⟩
    have hk' : IntsAre kA.toList ks := by
      have e3 : ks.take (0 + vs.length) = ks := List.take_of_length_le (by omega)
      rw [e3] at hk
      exact hk
    have nk := I'.at1 (p := (kS, seqObj "list" kA e)) (.head _)
    try dsimp only
    refine wpAny_bind (listItems_at nk rfl ?_)
    exact key_end I' fk fa hka hk' hlen h64 h
theorem key_sort {n : Nat} (I : Inv X pins σ H s) (hc : s.heap.get? c' = some oc) (fa : FpOk X pins H a) (ho : s.heap.get? a = some (seqObj "list" vs.toArray n)) (nca : c' ≠ a) (hlen : ks.length = vs.length) (h64 : vs.length < 64) (turn : TurnOk X pins σ H f c' oc vs ks)
    (h : ∀ (s' : Shared) (out : List Value) (c : Nat), Inv X pins σ H s' → s'.heap.get? a = some (seqObj "list" (List.toArray out) c) → KeyOut b ks vs out → Pf (.done (.ret .none)) s') :
    wpAny (model X.prog X.w) X.A.in1.in1 (ksk_tree a f b) Pf E s := by
  have ha : a < s.heap.objs.size := Heap.lt_size ho
  obtain ⟨e1, ho1⟩ : ∃ e1, (s.heap.update a (Obj.mapSeq fun _ => (#[] : Array Value))).get? a = some (seqObj "list" #[] e1) := ⟨_, get?_update_seq ho fun _ => #[]⟩
  have hkS : ((s.heap.update a (Obj.mapSeq fun _ => (#[] : Array Value))).push (seqObj "tuple" vs.toArray 0)).objs.size = s.heap.objs.size + 1 := by rw [size_push', Heap.size_update]
  have I1 := I.reup (g := fun _ => (#[] : Array Value)) fa
  have I2 : Inv X pins σ H { s with heap := ((s.heap.update a (Obj.mapSeq fun _ => (#[] : Array Value))).push (seqObj "tuple" vs.toArray 0)).push (seqObj "list" #[] 0) } := I1.kept (t' := s.toks) fun b u e => Heap.get?_push_of_some _ (Heap.get?_push_of_some _ e)
  have fk : FpOk X pins H ((s.heap.update a (Obj.mapSeq fun _ => (#[] : Array Value))).push (seqObj "tuple" vs.toArray 0)).objs.size := I.fpOk (by rw [hkS]; omega) (I.hok.fresh (by rw [hkS]; omega))
  unfold ksk_tree
  refine wpAny_bind (listItems_at ho rfl ?_)
  refine wpAny_bind (listUpdate_at ho rfl ?_ (by rw [List.size_toArray, sizeLine_eq]; omega) (Nat.zero_le _))
  refine wpAny_bind (seqEpoch_at ho1 rfl ?_)
  refine wpAny_bind (wpAny_newTuple ?_ (by show vs.length ≤ _; rw [sizeLine_eq]; omega))
  refine wpAny_bind (wpAny_newList ?_ (Nat.zero_le _))
  refine wpAny_holding ?_
  refine key_rest (s := { s with heap := ((s.heap.update a (Obj.mapSeq fun _ => (#[] : Array Value))).push (seqObj "tuple" vs.toArray 0)).push (seqObj "list" #[] 0) }) (kS := ((s.heap.update a (Obj.mapSeq fun _ => (#[] : Array Value))).push (seqObj "tuple" vs.toArray 0)).objs.size)
    (I2.pin2 fk fa (Heap.get?_push_size _ rfl) (Heap.get?_push_of_some _ (Heap.get?_push_of_some _ ho1)) (fun v z => by cases z) (fun v z => by cases z)) ?_ fk fa (by rw [hkS]; exact Nat.ne_of_gt (Nat.lt_succ_of_lt ha)) (by rw [hkS]; exact Nat.ne_of_lt (Nat.lt_succ_of_lt (Heap.lt_size hc))) hlen h64 turn h
  refine Heap.get?_push_of_some _ (Heap.get?_push_of_some _ ?_)
  rw [Heap.get?_update_ne _ _ _ _ nca]; exact hc
theorem key_sorted {l : Addr} {kw : List (Str × Value)} {Q : Value → Shared → Prop} (I : Inv X pins σ H s) (hc : s.heap.get? c' = some oc) (hl : s.heap.IsList l vs.toArray) (hlen : ks.length = vs.length) (h64 : vs.length < 64)
    (ha1 : argsOk "sorted" ⟨[.ref l], kw⟩) (ha2 : ∀ x, argsOk "list.sort" ⟨[.ref x], kw⟩) (ht : ∀ x, Builtin.«list.sort» ⟨[.ref x], kw⟩ = ksk_tree x f b) (turn : TurnOk X pins σ H f c' oc vs ks)
    (h : ∀ (D : Addr) (s' : Shared) (out : List Value) (c : Nat), Inv X pins σ H s' → FpOk X pins H D → X.s₀.heap.objs.size ≤ D → s'.heap.get? D = some (seqObj "list" (List.toArray out) c) → KeyOut b ks vs out → Q (.ref D) s') :
    wpAny (model X.prog X.w) X.A (call (.builtin "sorted") [.ref l] kw) Q E s := by
  refine call_function_entry_kw kind_sorted plain_sorted entry_sorted ha1 ?_
  unfold Builtin.«sorted»
  refine wpAny_bind (m := checkCount "sorted" 1 1 _) (wpAny_pure ?_)
  refine wpAny_bind (collect_list hl ?_ (by rw [sizeLine_eq]; omega))
  refine wpAny_bind (wpAny_newList ?_ (by rw [sizeLine_eq]; omega))
  have hsz : ((s.heap.push (seqObj "list" #[] 0)).update s.heap.objs.size (Obj.mapSeq (· ++ vs.toArray))).objs.size = s.heap.objs.size + 1 := by
    rw [Heap.size_update, size_push']
  have hoL : (((s.heap.push (seqObj "list" #[] 0)).update s.heap.objs.size (Obj.mapSeq (· ++ vs.toArray))).push (seqObj "list" vs.toArray 0)).get? (s.heap.objs.size + 1) = some (seqObj "list" vs.toArray 0) := by
    rw [← hsz]; exact Heap.get?_push_size _ rfl
  have keep : ∀ b o, s.heap.get? b = some o → (((s.heap.push (seqObj "list" #[] 0)).update s.heap.objs.size (Obj.mapSeq (· ++ vs.toArray))).push (seqObj "list" vs.toArray 0)).get? b = some o := fun b o q => by
    have hlt : b < s.heap.objs.size := Heap.lt_size q
    rw [Heap.get?_push_ne _ _ _ (by rw [hsz]; exact Nat.ne_of_lt (Nat.lt_succ_of_lt hlt)), Heap.get?_update_ne _ _ _ _ (Nat.ne_of_lt hlt), Heap.get?_push_ne _ _ _ (Nat.ne_of_lt hlt)]
    exact q
  show wpAny _ _ _ _ _ { s with heap := ((s.heap.push (seqObj "list" #[] 0)).update s.heap.objs.size (Obj.mapSeq (· ++ vs.toArray))).push (seqObj "list" vs.toArray 0) }
  rw [hsz]
  refine wpAny_bind (wpAny_holding (wpAny_call_entry_kw slot_list_sort ⟨_, hoL, rfl⟩ entry_list_sort ?body (ha2 _)))
  case body =>
    have ht' := ht (s.heap.objs.size + 1)
    show wpAny (model X.prog X.w) X.A.in1.in1 (Builtin.«list.sort» ⟨[.ref (s.heap.objs.size + 1)], kw⟩) _ _ _
    rw [ht']
    have I1 : Inv X pins σ H { s with heap := ((s.heap.push (seqObj "list" #[] 0)).update s.heap.objs.size (Obj.mapSeq (· ++ vs.toArray))).push (seqObj "list" vs.toArray 0) } := I.kept (t' := s.toks) keep
    have fa : FpOk X pins H (s.heap.objs.size + 1) := I.fpOk (by omega) (I.hok.fresh (by omega))
    refine key_sort (s := { s with heap := ((s.heap.push (seqObj "list" #[] 0)).update s.heap.objs.size (Obj.mapSeq (· ++ vs.toArray))).push (seqObj "list" vs.toArray 0) }) I1 (keep _ _ hc) fa hoL (Nat.ne_of_lt (Nat.lt_succ_of_lt (Heap.lt_size hc))) hlen h64 turn fun s' out c I' ho' ko => ⟨_, rfl, ?_⟩
    exact wpAny_pure ⟨_, rfl, h _ s' out c I' fa (Nat.le_succ_of_le I.sz) ho' ko⟩
end
end L2

end
section
set_option Elab.async false
set_option linter.all false
set_option maxRecDepth 100000
set_option maxHeartbeats 4000000
namespace L2
open PySem PySem.Spec PyProof.Rows PySem.W
/-- sorted by a key -/
def rSortK (K : Frag) (b : Bool) (te : TE) : List V → Hp → VK → Prop := fun vs H Q => ∃ (a : Addr) (xs : List V) (ks : List Int), vs = [.ref a] ∧ SqL K H a xs ∧ xs.length < 64 ∧ ks.length = xs.length ∧
  (∀ (i : Nat) (x : V) (k : Int), xs[i]? = some x → ks[i]? = some k → ∀ H2 : Hp, (∀ b ys, H b = some (.tup ys) → H2 b = some (.tup ys)) → te [some x] H2 fun z H3 => z = .int k ∧ H3 = H2) ∧
  ∀ (l : Addr) (p : List Nat) (H' : Hp), Same H H' → H' l = none → p.Perm (List.range xs.length) → p.Pairwise (LKb b ks) → Q (.ref l) (upd H' l (.lst (p.map fun i => xs.getD i .non)))
theorem vals_pick {xs : List V} {vs : List Value} (r : Vals xs vs) : ∀ p : List Nat, Vals (p.map fun i => xs.getD i .non) (p.map fun i => vs.getD i Value.none)
  | [] => .nil
  | i :: p => .cons (by
      show RelV (xs.getD i .non) (vs.getD i Value.none)
      rw [List.getD_eq_getElem?_getD, List.getD_eq_getElem?_getD]
      cases e : xs[i]? with
      | none => rw [r.none_of e]; rfl
      | some x => obtain ⟨u, e2, r2⟩ := r.get e; rw [e2]; exact r2) (vals_pick r p)
section
variable {X : Cx} {c P : Addr} {nm x : Str} {params : Arguments} {body : Expr} {scope : Scope} {lpos p kp kp2 pos : Pos} {e : Expr} {te1 te : TE} {k : Nat}
/-- what the lambda's text must have -/
structure LamOk (X : Cx) (nm x : Str) (params : Arguments) (body : Expr) (scope : Scope) (te : TE) : Prop where
  cl : closureFor scope X.env = pure []
  df : defaultsOf params X.env = ([], [])
  S : FnScope [x] [x] scope
  bd : ∀ (pm cv ctv u : Value), bindArgs (kla_fn "<lambda>" nm params body scope [] pm cv ctv) ⟨[u], []⟩ = pure [(x, u)]
  bo : ∀ (f : Addr) (cv : Value) (A : Around) (s : Shared) (H2 : Hp), QE (cxOf CX0 X.prog X.w X.K X.mg X.base [x] nm scope f cv A X.stack s H2 E0) body te
theorem sortK_core {b : Bool} {kw : Addr → List (Str × Value)} {pins : List (Addr × Obj)} {σ : St} {H : Hp} {s : Shared} {Q : VK} {a f c' : Addr} {ctv pm : Value} {oc : Obj} {vs : Array Value} {t : Tok} {H1 : Hp} (Lo : LamOk X nm x params body scope te) (hr : Room k X.A) (hk : 3 ≤ k)
    (ha1 : ∀ l f, argsOk "sorted" ⟨[.ref l], kw f⟩) (ha2 : ∀ x f, argsOk "list.sort" ⟨[.ref x], kw f⟩) (ht : ∀ x f, Builtin.«list.sort» ⟨[.ref x], kw f⟩ = ksk_tree x (.ref f) b)
    (I : Inv X (pins ++ [(f, kla_obj "<lambda>" nm params body scope [] pm c' ctv)]) σ H s) (ho : s.heap.get? c' = some oc) (e1 : oc.data = .fields vs) (e2 : vs[1]? = some (.str nm t)) (own : H c' = some (.own P)) (hT : IsTab H P nm) (sm : Same H1 H)
    (h : rSortK X.K b te [.ref a] H1 Q) : wpAny (model X.prog X.w) X.A (call (.builtin "sorted") [.ref a] (kw f)) (EP X pins σ Q) X.xe s := by
  obtain ⟨a', xs, ks, ea, hS, h64, hlen, hkey, q⟩ := h
  cases ea
  have hS' : SqL X.K H a xs := by
    rcases hS with (z | ⟨o, z⟩) | z
    · exact .inl (.inl (sm _ _ z))
    · exact .inl (.inr ⟨o, sm _ _ z⟩)
    · exact .inr z
  obtain ⟨its, rv, pl, _⟩ := I.list hS'
  have hl := rv.length
  have hr2 : Room (k - 2) X.A.in1.in1 := (Room.in1 (k := k - 2) (Room.in1 (k := k - 2 + 1) (hr.mono (by omega))))
  refine key_sorted (f := .ref f) (oc := oc) (ks := ks) (b := b) I ho pl.isList (by omega) (by omega) (ha1 a f) (fun x => ha2 x f) (fun x => ht x f) (fun i v kk hv hkk pl2 s2 I2 ho2 => ?_) fun D s' out cc I' fp hD hdo ko => ?_
  · have hx : ∃ xv, xs[i]? = some xv ∧ RelV xv v := by
      have hi : i < xs.length := by have := (List.getElem?_eq_some_iff.mp hv).1; omega
      obtain ⟨u, e3, r3⟩ := rv.get (List.getElem?_eq_getElem hi)
      rw [hv] at e3
      cases e3
      exact ⟨_, List.getElem?_eq_getElem hi, r3⟩
    obtain ⟨xv, hxv, rxv⟩ := hx
    refine wpAny_mono (lam_call (P := P) (pm := pm) (ctv := ctv) (te := te) (w := .int kk) I2 rfl hr2 ?_ ho2 e1 e2 own hT Lo.S (Lo.bd _ _ _ _) rxv (fun H2 => (Lo.bo _ _ _ _ _).h) fun H2 hH2 => hkey i xv kk hxv hkk H2 fun b ys e => hH2 b ys (sm _ _ e)) (fun r s3 ⟨r1, r2, r3⟩ => ⟨r1, r2, r3⟩) fun _ _ z => z
    exact (I2.pin _ (List.mem_append_right _ (List.mem_append_left _ (List.mem_append_right _ List.mem_cons_self)))).1
  · obtain ⟨pp, hp1, hp2, rfl⟩ := ko
    have hl3 : xs.length = its.length := hl
    have hpl : pp.length = xs.length := by have := hp1.length_eq; rw [List.length_range] at this; omega
    refine ⟨.ref D, _, (I'.track (u := .lst (pp.map fun i => xs.getD i .non)) fp hD ⟨?_, pp.map fun i => its.getD i Value.none, cc, vals_pick rv pp, hdo⟩).unpinned, rfl, q D pp H sm fp.1 (by rw [hl3]; exact hp1) hp2⟩
    rw [List.length_map, hpl]
    exact Nat.le_trans (Nat.le_of_lt h64) (by decide)
/-- sorted(e, key=lambda x: .., reverse=True) -/
theorem qe_sortedKeyRev {t : TA} {j : Nat} {vp : Pos} (L : LamX X c P nm) (hT : IsTab X.H₀ P nm) (hr : Room k X.A) (hk : 3 ≤ k) (n : Nm X.env.scope "sorted" .globalImplicit) (hm : X.mg "sorted" = none) (ha : QA X [e] t) (Lo : LamOk X nm x params body scope te)
    (hs : backTo pos (starEach [e] X.env) = (false, eval e X.env) :: backTo pos (starEach [] X.env) := by rfl) (hpl : (backTo pos (starEach [e] X.env)).any (·.1) = false := by rfl) :
    QE X (.Call (.Name "sorted" p) [e] [⟨some "key", .Lambda params body scope lpos, kp⟩, ⟨some "reverse", .Constant (.bool true) j vp, kp2⟩] pos) (tCB (rSortK X.K true te) t) := ⟨by
  intro pins s σ H Q I h
  refine wpAny_Call_Name_kw (ld_blt I n.1 hm b_sorted ?_ n.2.2.2 n.2.1)
  refine PyProof.Rows.callWith_kw (thn (ha.h pos pins s σ H _ I h) fun us s1 ⟨vs, H1, I1, r1, q1⟩ => ?_) hs hpl rfl rfl
  obtain ⟨a, xs, ks, ea, rest⟩ := id q1
  subst ea
  obtain ⟨u, rfl, ru⟩ := vals1 r1
  cases ru
  refine PyProof.Rows.kws_cons (lam_make I1 L hT Lo.cl Lo.df fun f c' ctv oc vs t H' s' I2 ho e1 e2 own hT' sm => ?_)
  refine PyProof.Rows.kws_cons (Constant_bool (PyProof.Rows.kws_nil ?_))
  exact sortK_core (kw := fun f => [(Str.ofString "key", .ref f), (Str.ofString "reverse", .bool true)]) Lo hr hk (fun l f => ksk_s2 _ _ _) (fun x f => ksk_l2 _ _ _) (fun x f => ksk_t2 _ _ _) I2 ho e1 e2 own hT' sm q1⟩
end
end L2

end
section
set_option Elab.async false
set_option linter.all false
set_option maxRecDepth 100000
set_option maxHeartbeats 4000000
namespace L2
open PySem PySem.Spec PyProof.Rows PySem.W
/-! a def that makes a lambda -/
def codeHdIn (K : Frag) (c P : Addr) : Bool := match K.lookup c with
  | some ⟨.type t, _, .fields vs, _⟩ => t == "code" && (match vs.toList with
    | [_, _, _, _, _, _, _, .int _ _, _, .bool _, .int _ _, .ref p, _, _, _, _, _, _, .str _ _] => p == P && !(c == P)
    | _ => false)
  | _ => false
theorem codeHd_of {K : Frag} {h : Heap} {c P : Addr} (X : K.In h) (e : codeHdIn K c P = true) : CodeHd h c P := by
  unfold codeHdIn at e
  split at e
  · rename_i t d vs sl hl
    rw [Bool.and_eq_true] at e
    obtain ⟨e1, e2⟩ := e
    have et : t = "code" := by simpa using e1
    subst et
    split at e2
    · rename_i x0 x1 x2 x3 x4 x5 x6 i7 t7 x8 b9 i10 t10 p x12 x13 x14 x15 x16 x17 f18 t18 hv
      rw [Bool.and_eq_true] at e2
      obtain ⟨e3, e4⟩ := e2
      have ep : p = P := by simpa using e3
      subst ep
      have hne : c ≠ p := by simpa using e4
      have ev : vs = List.toArray [x0, x1, x2, x3, x4, x5, x6, .int i7 t7, x8, .bool b9, .int i10 t10, .ref p, x12, x13, x14, x15, x16, x17, .str f18 t18] := by rw [← hv, Array.toArray_toList]
      subst ev
      exact ⟨_, _, f18, t18, i7, t7, b9, i10, t10, X c _ hl, rfl, rfl, rfl, rfl, rfl, rfl, rfl, rfl, hne⟩
    · cases e2
  · cases e
def HasL (K : Frag) (mg : Str → Option Value) (x : Str) (st : Stmt) (c : Addr) : Prop := ∃ (f : Addr) (oc : Value) (od : Option Addr) (kV doc pm : Value) (an : Option Addr) (ct : Value) (osl : Array (Option Value)),
  K.lookup f = some ⟨oc, od, .func (PySem.W.fnOf x x (defArgs st) (defBody st) (defScope st) .none kV doc pm an (.ref c) ct), osl⟩ ∧ PySem.W.codeIn K (.ref c) x = true ∧ PySem.W.keepIn K (.ref f) = true ∧ mg x = some (.ref f)
theorem hasL_mk {K : Frag} {mg : Str → Option Value} {h : Heap} {x : Str} {st : Stmt} {f c : Addr} {oc : Value} {od an : Option Addr} {osl : Array (Option Value)} {kV doc pm ct : Value} (KX : K.In h) (G : h.Ns mainGlobals mg)
    (a : PySem.W.nsIn K mainGlobals x = some (some (.ref f))) (l : K.lookup f = some ⟨oc, od, .func (PySem.W.fnOf x x (defArgs st) (defBody st) (defScope st) .none kV doc pm an (.ref c) ct), osl⟩)
    (cc : PySem.W.codeIn K (.ref c) x = true) (k : PySem.W.keepIn K (.ref f) = true) : HasL K mg x st c := ⟨f, oc, od, kV, doc, pm, an, ct, osl, l, cc, k, PySem.W.mg_of KX G a⟩
/-- what the module must have where lambdas are made -/
structure LamB (K : Frag) (mg : Str → Option Value) (c P : Addr) : Prop where
  hd : codeHdIn K c P = true
  bm : ∃ bm o, mg "__builtins__" = some (.ref bm) ∧ bm ≠ builtinsNs ∧ bm ≠ mainGlobals ∧ bm ≠ P ∧ K.lookup bm = some o ∧ o.cls = .type "module" ∧ o.dict = some builtinsNs ∧ o.data = .plain
  gl : mainGlobals ≠ P
section
variable {P : Program} {w : World} {K : PySem.W.Frag} {mg : Str → Option Value} {base : Heap}
theorem HasL.fnQ {x : Str} {st : Stmt} {N ps : List Str} {k : Nat} {sp : Sp} {c T : Addr} (h : HasL K mg x st c) (B : LamB K mg c T) (kb : K.In base) (S : FnScope N ps (defScope st))
    (hb : ∀ (kV doc pm : Value) (an : Option Addr) (cdv ct : Value) (us : List Value), us.length = ps.length → bindArgs (PySem.W.fnOf x x (defArgs st) (defBody st) (defScope st) .none kV doc pm an cdv ct) ⟨us, []⟩ = pure (ps.zip us))
    (len : ∀ vs H Q E, sp vs H Q E → vs.length = ps.length)
    (hbody : ∀ (f : Addr) (A : Around) (outer : List Env) (s : Shared) (H : Hp) (vs : List V) (Q : VK) (E : XK), Room k (A.deeper (envOfC x (defScope st) s.heap.objs.size f (.ref c))) → LamX (cxOf CX0 P w K mg base N x (defScope st) f (.ref c) A outer s H E).nox c T (x ++ ".<locals>." ++ "<lambda>") → sp vs H Q E →
      ∃ t, QSs (cxOf CX0 P w K mg base N x (defScope st) f (.ref c) A outer s H E).nox (defBody st) t ∧ t { nx := fun _ H' => Q .non H', rt := Q } (start N vs) H) : Fn P w K mg base x ps (k + 1) sp := by
  obtain ⟨f, oc, od, kV, doc, pm, an, ct, osl, lk, hcd, kp, hm⟩ := h
  refine ⟨f, _, hm, kp, .all (hb kV doc pm an (.ref c) ct), fn_of lk hcd S len fun A outer s H vs Q E hr hsp => ?_⟩
  have L : LamX (cxOf CX0 P w K mg base N x (defScope st) f (.ref c) A outer s H E).nox c T (x ++ ".<locals>." ++ "<lambda>") :=
    ⟨rfl, codeHd_of kb B.hd, let ⟨bm, o, a1, a2, a3, a4, a5, a6⟩ := B.bm; ⟨bm, o, a1, a2, a3, a4, kb _ _ a5, a6⟩, rfl, B.gl⟩
  obtain ⟨t, h, q⟩ := hbody f A outer s H vs Q E hr L hsp
  exact ⟨t, h.h.nox, q⟩
end
/-! within a lambda's body -/
section
variable {P : Program} {w : World} {K : PySem.W.Frag} {mg : Str → Option Value} {base : Heap} {x nm : Str} {scope : Scope} {f : Addr} {cv : Value} {A : Around} {outer : List Env} {s : Shared} {H : Hp} {E : XK} {pos : Pos}
theorem qix_tupL : QIx (cxOf CX0 P w K mg base [x] nm scope f cv A outer s H E) (rIxT K) := ⟨ix_tup (X := cxOf CX0 P w K mg base [x] nm scope f cv A outer s H E)⟩
theorem qvLm (n : Nm scope x .local := by decide +kernel) : QE (cxOf CX0 P w K mg base [x] nm scope f cv A outer s H E) (.Name x pos) (tVar 0) := qvN 0 n
end
/-! ### the head, where tables are tracked -/
structure Tb where
  c : Addr
  P : Addr
  nm : Str
def tabH (ts : List Tb) (b : Addr) : Option HO := (ts.find? fun t => t.P == b).map fun t => .tbl #[.str t.nm 0]
def TabsIn (ts : List Tb) (H : Hp) : Prop := ∀ t ∈ ts, IsTab H t.P t.nm
/-- law's promise: a list of at most 63 ints is handed in, True comes out -/
def spLawT (K : PySem.W.Frag) (ts : List Tb) : Sp := fun vs H Q _ => ∃ (a : Addr) (ns : List Int), vs = [.ref a] ∧ SqL K H a (ns.map V.int) ∧ ns.length ≤ 63 ∧ TabsIn ts H ∧ ∀ H', Q (.bl true) H'
theorem law_callT {P : Program} {w : World} {K : PySem.W.Frag} {mg mb : Str → Option Value} {k : Nat} {fa a : Addr} {fd : FuncData} {x : Str} {s₁ : Shared} {vs : List Value} {ns : List Int} {ts : List Tb}
    (KX : K.In s₁.heap) (hns : s₁.heap.Ns mainGlobals mg) (hb : s₁.heap.Ns builtinsNs mb) (hbb : ∀ x : Str, x ≠ "__name__" → mb x = bootBuiltins x) (hlim : s₁.heap.NoLimit) (hg : s₁.gens = #[])
    (ha : s₁.heap.get? a = some { cls := .type "list", data := .seq vs.toArray }) (hi : IntsAre vs ns) (hl : ns.length ≤ 63) (hr : Room k callerA)
    (hts : ∀ t ∈ ts, s₁.heap.get? t.P = some { cls := .none, data := .fields #[] } ∧ codeHdIn K t.c t.P = true ∧ K.lookup t.P = none) (hnd : (ts.map (·.P)).Nodup)
    (F : ∀ base : Heap, K.In base → base.Ns mainGlobals mg → FnOk P w K mg base CX0 k fa fd [x] (spLawT K ts)) (hbind : ∀ (s : Shared) (u : Value), BindsTo s fd ⟨[u], []⟩ [(x, u)]) :
    codeAny (model P w) callerA (.call (.ref fa) ⟨[.ref a], []⟩) (fun r s' => r = .ok (.ret (.bool true)) ∧ OldK s₁.heap s'.heap ∧ s'.os = s₁.os ∧ AllBare s'.gens) s₁ := by
  have rv := vals_ints hi
  have lenV := hi.length
  have hl' : ns.length ≤ sizeLine := Nat.le_trans hl (by decide)
  have tabS : ∀ b u, tabH ts b = some u → ∃ t ∈ ts, t.P = b ∧ u = .tbl #[.str t.nm 0] := fun b u e => by
    unfold tabH at e
    obtain ⟨t, h1, h2⟩ := Option.map_eq_some_iff.mp e
    exact ⟨t, List.mem_of_find?_eq_some h1, by simpa using List.find?_some h1, h2.symm⟩
  have tabN : ∀ t ∈ ts, ∃ u, tabH ts t.P = some u := fun t ht => by
    unfold tabH
    cases e : ts.find? (fun t' => t'.P == t.P) with
    | none => have := List.find?_eq_none.mp e t ht; simp at this
    | some t' => exact ⟨_, rfl⟩
  have tabE : ∀ t ∈ ts, tabH ts t.P = some (.tbl #[.str t.nm 0]) := fun t ht => by
    obtain ⟨u, e⟩ := tabN t ht
    obtain ⟨t', h1, h2, h3⟩ := tabS _ _ e
    have : t' = t := by
      have e1 : ∀ {l : List Tb} {t t' : Tb}, (l.map (·.P)).Nodup → t ∈ l → t' ∈ l → t'.P = t.P → t' = t := by
        intro l
        induction l with
        | nil => intro t t' _ h; cases h
        | cons y l ih =>
          intro t t' hn h h' hp
          rw [List.map_cons, List.nodup_cons] at hn
          rcases List.mem_cons.mp h with z | z
          · rcases List.mem_cons.mp h' with z' | z'
            · rw [z, z']
            · rw [z] at hp; exact absurd (List.mem_map.mpr ⟨t', z', hp⟩) hn.1
          · rcases List.mem_cons.mp h' with z' | z'
            · rw [z'] at hp; exact absurd (List.mem_map.mpr ⟨t, z, hp.symm⟩) hn.1
            · exact ih hn.2 z z' hp
      exact e1 hnd ht h1 h2
    rw [e, h3, this]
  -- from an abstract heap in which nothing but the script and the tables may be tracked
  have core : ∀ H : Hp, (∀ b u, H b = some u → (b = a ∧ ∃ o xs, u = .frz o (.lst xs)) ∨ tabH ts b = some u) → TabsIn ts H → SqL K H a (ns.map V.int) → HOk P w H s₁.heap → (H a ≠ none → K.lookup a = none) →
      codeAny (model P w) callerA (.call (.ref fa) ⟨[.ref a], []⟩) (fun r s' => r = .ok (.ret (.bool true)) ∧ OldK s₁.heap s'.heap ∧ s'.os = s₁.os ∧ AllBare s'.gens) s₁ := by
    intro H hO hT hS hok hK
    have base_of : ∀ {b : Addr} {o : Obj}, s₁.heap.get? b = some o → H b = none → (hidT s₁.heap H).get? b = some o := fun e n => hidT_get e n
    have noA : ∀ {b : Addr} {o : Obj} {es : Array DictEntry} {ep : Nat}, s₁.heap.get? b = some o → o.data = .dict es ep → H b = none := fun {b o es ep} e d => by
      cases q : H b with
      | none => rfl
      | some u =>
        rcases hO b u q with ⟨e', _⟩ | e'
        · subst e'
          rw [ha] at e; cases e
          have d' : Data.seq vs.toArray _ = Data.dict es ep := d
          cases d'
        · obtain ⟨t, h1, h2, _⟩ := tabS b u e'
          subst h2
          rw [(hts t h1).1] at e; cases e; cases d
    have nsK : ∀ {b : Addr} {m : Str → Option Value}, s₁.heap.Ns b m → (hidT s₁.heap H).Ns b m := fun {b m} ⟨o, es, ep, e, d, r⟩ => ⟨o, es, ep, base_of e (noA e d), d, r⟩
    have hKb : K.In (hidT s₁.heap H) := fun b o e => base_of (KX b o e) (by
      cases q : H b with
      | none => rfl
      | some u =>
        rcases hO b u q with ⟨e', _⟩ | e'
        · subst e'
          rw [hK (by rw [q]; simp)] at e; cases e
        · obtain ⟨t, h1, h2, _⟩ := tabS b u e'
          subst h2
          rw [(hts t h1).2.2] at e; cases e)
    have hM : Mod K mg (hidT s₁.heap H) := ⟨hKb, nsK hns, ⟨mb, nsK hb, hbb⟩, let ⟨mc, h1, h2⟩ := hlim; ⟨mc, nsK h1, h2⟩⟩
    have e0 : Env0 P w K mg (hidT s₁.heap H) callerA [] s₁ H := ⟨rfl, hM, fun b o e => of_hidT e, Nat.le_of_eq (hidT_size _ _), trivial, fun b hb => absurd (show b ∈ ([] : List Addr) from hb) (by simp), hok, .of_eq hg⟩
    refine codeAny_mono ((F _ hKb (nsK hns)).run callerA [] s₁ H ⟨[.ref a], []⟩ [.ref a] [.ref a] (fun v _ => v = .bl true) E0 hr e0 (hbind s₁ (.ref a)) (.cons rfl .nil) ⟨a, ns, rfl, hS, hl, hT, fun _ => rfl⟩) fun r s' h => ?_
    cases r with
    | error e => exact h.elim
    | ok fl =>
      cases fl with
      | next => exact False.elim h
      | brk => exact False.elim h
      | cont => exact False.elim h
      | ret u =>
        obtain ⟨v, H', os, bare, un, hok', r', q⟩ := h
        have q' : v = .bl true := q
        subst q'
        obtain rfl : u = Value.bool true := r'
        have nfs : ∀ b : Addr, b ∉ frs [] := fun b z => absurd (show b ∈ ([] : List Addr) from z) (by simp)
        refine ⟨rfl, ⟨fun b o e => ?_, fun b o e => un.there b o e (by simp)⟩, os, bare⟩
        cases q : H b with
        | none => exact .inl (un.keep b o e q (nfs b) (by simp))
        | some u =>
          rcases hO b u q with ⟨_, ob, xs, z⟩ | z
          · subst z
            have z2 := un.frzs b ob _ q
            obtain ⟨e1, _⟩ := hok b _ q
            obtain ⟨e2, _⟩ := hok' b _ z2
            rw [e] at e1; cases e1
            exact .inl e2
          · obtain ⟨t, h1, h2, h3⟩ := tabS b u z
            subst h2 h3
            obtain ⟨e1, e2, _⟩ := hts t h1
            rw [e1] at e
            cases e
            obtain ⟨more, z2⟩ := un.tbls _ _ q
            obtain ⟨qs, _, _, e3, _⟩ := hok' _ _ z2
            obtain ⟨oc, vv, _, _, _, _, _, _, _, f1, f2, f3, f4, _⟩ := codeHd_of KX e2
            exact .inr (.inl ⟨⟨t.c, oc, vv, f1, f2, f3, f4⟩, rfl, #[], qs, rfl, by rw [e3]; simp⟩)
  have tabOk : ∀ (H : Hp), (∀ t ∈ ts, H t.P = some (.tbl #[.str t.nm 0])) → ∀ b u, tabH ts b = some u → ObjOk P w H s₁.heap b u := fun H hH b u z => by
    obtain ⟨t, h1, h2, h3⟩ := tabS b u z
    subst h2 h3
    exact ⟨#[], t.nm, 0, (hts t h1).1, trivial, rfl, fun pos cv e => by cases e⟩
  have nPa : ∀ t ∈ ts, t.P ≠ a := fun t ht z => by
    have := (hts t ht).1
    rw [z, ha] at this; cases this
  cases hk : K.lookup a with
  | some o =>
    have e := KX a o hk
    rw [ha] at e
    cases e
    refine core (tabH ts) (fun b u z => .inr z) (fun t ht => ⟨_, _, tabE t ht, rfl⟩) (.inr ⟨_, vs.toArray, _, hk, rfl, rfl, rfl, by rw [List.size_toArray, lenV]; exact hl', by simpa using rv⟩) (fun b u z => tabOk _ tabE b u z) fun z => ?_
    exfalso
    cases q : tabH ts a with
    | none => exact z q
    | some u => obtain ⟨t, h1, h2, _⟩ := tabS a u q; exact nPa t h1 h2
  | none =>
    have hH : ∀ t ∈ ts, (fun b => if b = a then some (HO.frz { cls := .type "list", data := .seq vs.toArray } (.lst (ns.map V.int))) else tabH ts b) t.P = some (.tbl #[.str t.nm 0]) := fun t ht => by
      show (if t.P = a then _ else _) = _
      rw [if_neg (nPa t ht)]; exact tabE t ht
    refine core (fun b => if b = a then some (.frz { cls := .type "list", data := .seq vs.toArray } (.lst (ns.map V.int))) else tabH ts b) (fun b u z => ?_) (fun t ht => ⟨_, _, hH t ht, rfl⟩) (.inl (.inr ⟨{ cls := .type "list", data := .seq vs.toArray }, if_pos rfl⟩)) (fun b u z => ?_) fun _ => hk
    · by_cases hb : b = a
      · have z' := (if_pos hb).symm.trans z
        cases z'
        exact .inl ⟨hb, _, _, rfl⟩
      · exact .inr ((if_neg hb).symm.trans z)
    · by_cases hb : b = a
      · have z' := (if_pos hb).symm.trans z
        cases z'
        subst hb
        exact ⟨ha, by rw [List.length_map]; exact hl', vs, _, rv, ha⟩
      · exact tabOk _ hH b u ((if_neg hb).symm.trans z)
/-- K: what is asked of the module; KT: that, and the tables -/
theorem walkLawT {l : PySem.W.OpenLaw} {q : Program} {loose : List Str} {XP : (Str → Option Value) → Heap → Prop} {YP : World → Heap → Prop} {d : DefRec} {K KT : Params → PySem.W.Frag} {ts : List Tb} (hn : l.most = some 63) (hdf : d.params.defaults = [])
    (hY : ∀ (w : World) (h : Heap), YP w h → (KT w.params).In h) (hsub : ∀ (p : Params) (h : Heap), (KT p).In h → (K p).In h)
    (hts : ∀ (p : Params), ∀ t ∈ ts, (KT p).lookup t.P = some { cls := .none, data := .fields #[] } ∧ codeHdIn (K p) t.c t.P = true ∧ (K p).lookup t.P = none) (hnd : (ts.map (·.P)).Nodup)
    (F : ∀ (w : World) (mg : Str → Option Value) (fa : Addr) (h : Heap), (K w.params).In h → h.Ns mainGlobals mg → mg d.name = some (.ref fa) →
      ∃ fd : FuncData, (∀ (s : Shared) (u : Value), BindsTo s fd ⟨[u], []⟩ [("_law_script", u)]) ∧ ∀ base : Heap, (K w.params).In base → base.Ns mainGlobals mg → FnOk l.prog w (K w.params) mg base CX0 40 fa fd ["_law_script"] (spLawT (K w.params) ts)) :
    PySem.W.WalkO q loose XP YP l.row.toRowW d [] (fun f vs => PySem.call f vs) := by
  refine Att.attach_call hn hdf fun w s₀ s₁ mg mb fa o pm cd doc a vs ns G Y ho hd hcd hmg hobj hints hlen hg => ?_
  have KT' := hY w _ Y
  have KX := hsub _ _ KT'
  obtain ⟨fd, hb, hF⟩ := F w mg fa _ KX G.T.g hmg
  exact law_callT KX G.T.g G.T.b G.T.builtins G.T.nolimit hg hobj hints hlen ⟨rfl, by decide, by decide⟩ (fun t ht => ⟨KT' _ _ (hts w.params t ht).1, (hts w.params t ht).2⟩) hnd hF hb
end L2
namespace L2
open PySem PySem.Spec PyProof.Rows PySem.W
theorem closure_nil {scope : Scope} {env : Env} (h : ∀ p ∈ scope.names, p.2 ≠ .free) : closureFor scope env = pure [] := by
  have go : ∀ (l : List (Str × NameKind)) (cs : List (Str × Addr)), (∀ p ∈ l, p.2 ≠ .free) →
      (forIn l cs (fun (x : Str × NameKind) (r : List (Str × Addr)) => if (x.2 == NameKind.free) = true then (do let a ← cellOf env x.1; pure (ForInStep.yield ((x.1, a) :: r)) : Sem (ForInStep (List (Str × Addr)))) else pure (ForInStep.yield r)) : Sem _) = pure cs := by
    intro l
    induction l with
    | nil => intro cs _; rfl
    | cons p l ih =>
      intro cs hp
      rw [List.forIn_cons]
      have e2 : (p.2 == NameKind.free) = false := by simpa using hp p List.mem_cons_self
      simp only [e2, Bool.false_eq_true, if_false, pure_bind]
      exact ih cs fun q hq => hp q (List.mem_cons_of_mem _ hq)
  unfold closureFor
  have e' := congrArg (fun m : Sem (List (Str × Addr)) => m >>= fun r => pure r) (go scope.names [] h)
  simp only [pure_bind] at e'
  exact e'
theorem Frag.In.left {K T : Frag} {h : Heap} (x : Frag.In (K ++ T : List (Addr × Obj)) h) : K.In h := fun a o e => x a o (by
  show List.lookup a (K ++ T) = some o
  rw [List.lookup_append]
  have : List.lookup a K = some o := e
  rw [this]; rfl)
end L2
namespace L2
open PySem PySem.Spec PyProof.Rows PySem.W
section
variable {X : Cx} {a : Expr} {ta : TE}
end
end L2

end
set_option Elab.async false
set_option linter.all false
set_option maxRecDepth 100000
set_option maxHeartbeats 4000000
namespace Law
open PySem L2
local macro_rules | `(tactic| walk_at "hp") => `(tactic| first | exact upd_same | assumption | (rw [upd_ne (by first | assumption | (apply Ne.symm; assumption))]; walk_at "hp"))
local macro_rules | `(tactic| walk_at "sq") => `(tactic| first | assumption | exact SqL.of (by walk_at "hp"))
local macro_rules | `(tactic| walk_at "dc") => `(tactic| first | decide | assumption | omega)
local macro_rules | `(tactic| walk_at "rd1") => `(tactic| first | refine iteT ?_ | refine iteF ?_ | refine iteD (fun _ => ?_) (fun _ => ?_) | refine iteND (fun _ => ?_) (fun _ => ?_) | refine iteB (fun _ => ?_) (fun _ => ?_) | refine ⟨_, rfl, ?_⟩ | refine ⟨_, _, rfl, rfl, ?_⟩ | refine ⟨(.inr ⟨by decide, by decide⟩ : CMul _ _), ?_⟩ | refine ⟨(⟨by walk_at "dc", by walk_at "dc"⟩ : CDiv _ _), ?_⟩ | refine ⟨(⟨by decide, by decide, by decide⟩ : CPow _ _), ?_⟩ | refine ⟨(show (0 : Int) < _ by walk_at "dc"), ?_⟩ | refine ⟨_, _, _, _, rfl, rfl, (by walk_at "sq"), (by rfl), ?_⟩ | refine ⟨_, _, _, _, rfl, rfl, (by walk_at "sq"), at_ints (by omega) (by omega), ?_⟩ | refine ⟨_, _, _, _, rfl, rfl, (by walk_at "hp"), (by rfl), ?_⟩ | refine ⟨_, _, rfl, .inl (by walk_at "sq"), ?_⟩ | fail "rd")
local macro_rules | `(tactic| walk_at "rd") => `(tactic| repeat' walk_at "rd1")
def top (i : Nat) : Stmt := PySem.Challenge.pw_forsworn_k03_fewest_names.main.body.getD i (.Pass ⟨0, 0, 0, 0⟩)

/-- the built-in names that nothing hides -/
structure Txt (mg : Str → Option Value) : Prop where
  len : mg "len" = none
  list : mg "list" = none
  range : mg "range" = none
  isinstance : mg "isinstance" = none
  bool : mg "bool" = none
  int : mg "int" = none
  str : mg "str" = none
  tuple : mg "tuple" = none
  zip : mg "zip" = none
  min : mg "min" = none
  max : mg "max" = none
  sorted : mg "sorted" = none

section
variable {P : Program} {w : World} {K : PySem.W.Frag} {mg : Str → Option Value} {base : Heap}
/-! ### _law_whole, _law_same -/
def isInt : D → Bool
  | .int _ => true
  | _ => false
def spWhole : Sp := fun vs H Q _ => ∃ (v : V) (d : D), vs = [v] ∧ Rep H d v ∧ Q (.bl (isInt d)) H
abbrev s_law_whole : Stmt := top 5
theorem sc__law_whole : FnScope ["_law_found"] ["_law_found"] (defScope s_law_whole) := ⟨rfl, rfl, rfl, by decide +kernel, rfl, by decide +kernel, by decide +kernel⟩
theorem nm__law_whole__law_found : Nm (defScope s_law_whole) "_law_found" .local := by decide +kernel
theorem nm__law_whole_bool : Nm (defScope s_law_whole) "bool" .globalImplicit := by decide +kernel
theorem nm__law_whole_int : Nm (defScope s_law_whole) "int" .globalImplicit := by decide +kernel
theorem nm__law_whole_isinstance : Nm (defScope s_law_whole) "isinstance" .globalImplicit := by decide +kernel
theorem f__law_whole (h__law_whole : Has K mg "_law_whole" s_law_whole) (T : Txt mg) : Fn P w K mg base "_law_whole" ["_law_found"] 1 spWhole := by
  refine h__law_whole.fnQ sc__law_whole (fun _ _ _ _ _ _ us hl => match us, hl with | [_], _ => rfl) (fun vs H Q E h => ?_) (fun f cdv A outer s H vs Q E hr h => ?_)
  · obtain ⟨v, d, rfl, _⟩ := h
    rfl
  · obtain ⟨v, d, rfl, r, k⟩ := h
    refine ⟨_, (qss_one (qs_ret (qe_and (qe_callBN qcall_isinst nm__law_whole_isinstance T.isinstance b_isinstance (qa_cons (qvN 0 nm__law_whole__law_found) (qa_cons (qe_bltnN (v := .ty "int") nm__law_whole_int T.int b_int rfl) qa_nil))) (qe_one (qe_not (qe_callBN qcall_isinst nm__law_whole_isinstance T.isinstance b_isinstance (qa_cons (qvN 0 nm__law_whole__law_found) (qa_cons (qe_bltnN (v := .ty "bool") nm__law_whole_bool T.bool b_bool rfl) qa_nil)))))))), ?_⟩
    obtain ⟨t1, ty1, e1⟩ := isi (K := K) r "int" (by decide)
    obtain ⟨t2, ty2, e2⟩ := isi (K := K) r "bool" (by decide)
    refine ⟨_, rfl, v, "int", t1, _, rfl, ty1, e1, _, rfl, iteB (fun h1 => ?_) (fun h1 => ?_)⟩
    · refine ⟨_, rfl, v, "bool", t2, _, rfl, ty2, e2, _, rfl, ?_⟩
      have e : (!isI d "bool") = isInt d := by cases d <;> first | rfl | (simp [isI] at h1)
      rw [e]
      exact k
    · have e : false = isInt d := by cases d <;> first | rfl | (simp [isI] at h1)
      rw [e]
      exact k
def spSame (n : Nat) : Sp := fun vs H Q _ => ∃ (v1 v2 : V) (d1 d2 : D), vs = [v1, v2] ∧ Rep H d1 v1 ∧ Rep H d2 v2 ∧ d2.deep ≤ n ∧ ∀ H', Same H H' → Q (.bl (sameD d1 d2)) H'
abbrev s_law_same : Stmt := top 6
theorem sc__law_same : FnScope ["_law_found", "_law_due", "_law_one", "_law_other"] ["_law_found", "_law_due"] (defScope s_law_same) := ⟨rfl, rfl, rfl, by decide +kernel, rfl, by decide +kernel, by decide +kernel⟩
theorem nm__law_same__law_due : Nm (defScope s_law_same) "_law_due" .local := by decide +kernel
theorem nm__law_same__law_found : Nm (defScope s_law_same) "_law_found" .local := by decide +kernel
theorem nm__law_same__law_one : Nm (defScope s_law_same) "_law_one" .local := by decide +kernel
theorem nm__law_same__law_other : Nm (defScope s_law_same) "_law_other" .local := by decide +kernel
theorem nm__law_same__law_same : Nm (defScope s_law_same) "_law_same" .globalImplicit := by decide +kernel
theorem nm__law_same__law_whole : Nm (defScope s_law_same) "_law_whole" .globalImplicit := by decide +kernel
theorem nm__law_same_bool : Nm (defScope s_law_same) "bool" .globalImplicit := by decide +kernel
theorem nm__law_same_int : Nm (defScope s_law_same) "int" .globalImplicit := by decide +kernel
theorem nm__law_same_isinstance : Nm (defScope s_law_same) "isinstance" .globalImplicit := by decide +kernel
theorem nm__law_same_len : Nm (defScope s_law_same) "len" .globalImplicit := by decide +kernel
theorem nm__law_same_list : Nm (defScope s_law_same) "list" .globalImplicit := by decide +kernel
theorem nm__law_same_str : Nm (defScope s_law_same) "str" .globalImplicit := by decide +kernel
theorem nm__law_same_tuple : Nm (defScope s_law_same) "tuple" .globalImplicit := by decide +kernel
theorem nm__law_same_zip : Nm (defScope s_law_same) "zip" .globalImplicit := by decide +kernel
/-- the body, given itself for what is less deep (depth nought: nothing is asked of it) -/
theorem same_step {n k : Nat} (h__law_same : Has K mg "_law_same" s_law_same) (T : Txt mg) (F__law_whole : Fn P w K mg base "_law_whole" ["_law_found"] 1 spWhole)
    (F__law_same : Fn P w K mg base "_law_same" ["_law_found", "_law_due"] (k + 1) (fun vs H Q E => 0 < n ∧ spSame (n - 1) vs H Q E)) : Fn P w K mg base "_law_same" ["_law_found", "_law_due"] (k + 2) (spSame n) := by
  refine h__law_same.fnQ sc__law_same (fun _ _ _ _ _ _ us hl => match us, hl with | [_, _], _ => rfl) (fun vs H Q E h => ?_) (fun f cdv A outer s H vs Q E hr h => ?_)
  · obtain ⟨v1, v2, d1, d2, rfl, _⟩ := h
    rfl
  · obtain ⟨v1, v2, d1, d2, rfl, r1, r2, hn, q⟩ := h
    have hk : 1 ≤ k + 1 := Nat.le_add_left _ _
    refine ⟨_, (qss_cons (qs_if (qt_cmpR qop_isN (qvN 1 nm__law_same__law_due) qe_non (nomark _)) (qss_one (qs_ret (qe_cmpR qop_isN (qvN 0 nm__law_same__law_found) qe_non (nomark _)))) qss_nil)
 (qss_cons (qs_if (qt_val (qe_callBN qcall_isinst nm__law_same_isinstance T.isinstance b_isinstance (qa_cons (qvN 1 nm__law_same__law_due) (qa_cons (qe_bltnN (v := .ty "bool") nm__law_same_bool T.bool b_bool rfl) qa_nil)))) (qss_one (qs_ret (qe_and (qe_callBN qcall_isinst nm__law_same_isinstance T.isinstance b_isinstance (qa_cons (qvN 0 nm__law_same__law_found) (qa_cons (qe_bltnN (v := .ty "bool") nm__law_same_bool T.bool b_bool rfl) qa_nil))) (qe_one (qe_cmpR qop_eq (qvN 0 nm__law_same__law_found) (qvN 1 nm__law_same__law_due) (nomark _)))))) qss_nil)
 (qss_cons (qs_if (qt_val (qe_callBN qcall_isinst nm__law_same_isinstance T.isinstance b_isinstance (qa_cons (qvN 1 nm__law_same__law_due) (qa_cons (qe_bltnN (v := .ty "int") nm__law_same_int T.int b_int rfl) qa_nil)))) (qss_one (qs_ret (qe_and (qe_fnN F__law_whole (hr.mono (by omega)) nm__law_same__law_whole (qa_cons (qvN 0 nm__law_same__law_found) qa_nil)) (qe_one (qe_cmpR qop_eq (qvN 0 nm__law_same__law_found) (qvN 1 nm__law_same__law_due) (nomark _)))))) qss_nil)
 (qss_cons (qs_if (qt_val (qe_callBN qcall_isinst nm__law_same_isinstance T.isinstance b_isinstance (qa_cons (qvN 1 nm__law_same__law_due) (qa_cons (qe_bltnN (v := .ty "str") nm__law_same_str T.str b_str rfl) qa_nil)))) (qss_one (qs_ret (qe_and (qe_callBN qcall_isinst nm__law_same_isinstance T.isinstance b_isinstance (qa_cons (qvN 0 nm__law_same__law_found) (qa_cons (qe_bltnN (v := .ty "str") nm__law_same_str T.str b_str rfl) qa_nil))) (qe_one (qe_cmpR qop_eq (qvN 0 nm__law_same__law_found) (qvN 1 nm__law_same__law_due) (nomark _)))))) qss_nil)
 (qss_cons (qs_if (QW.pt (qw_or (qt_cmpR qop_ne (qe_callBN qcall_isinst nm__law_same_isinstance T.isinstance b_isinstance (qa_cons (qvN 1 nm__law_same__law_due) (qa_cons (qe_bltnN (v := .ty "list") nm__law_same_list T.list b_list rfl) qa_nil))) (qe_callBN qcall_isinst nm__law_same_isinstance T.isinstance b_isinstance (qa_cons (qvN 0 nm__law_same__law_found) (qa_cons (qe_bltnN (v := .ty "list") nm__law_same_list T.list b_list rfl) qa_nil))) (nomark _)) (qw_or1 (qt_cmpR qop_ne (qe_callBN qcall_isinst nm__law_same_isinstance T.isinstance b_isinstance (qa_cons (qvN 1 nm__law_same__law_due) (qa_cons (qe_bltnN (v := .ty "tuple") nm__law_same_tuple T.tuple b_tuple rfl) qa_nil))) (qe_callBN qcall_isinst nm__law_same_isinstance T.isinstance b_isinstance (qa_cons (qvN 0 nm__law_same__law_found) (qa_cons (qe_bltnN (v := .ty "tuple") nm__law_same_tuple T.tuple b_tuple rfl) qa_nil))) (nomark _))))) (qss_one (qs_ret qe_bl)) qss_nil)
 (qss_cons (qs_if (qt_cmpR qop_ne (qe_callBN qcall_len_seq nm__law_same_len T.len b_len (qa_cons (qvN 0 nm__law_same__law_found) qa_nil)) (qe_callBN qcall_len_seq nm__law_same_len T.len b_len (qa_cons (qvN 1 nm__law_same__law_due) qa_nil)) (nomark _)) (qss_one (qs_ret qe_bl)) qss_nil)
 (qss_cons (qs_for PassesOwn.never rfl (qi_zip nm__law_same_zip.1 T.zip (qa_cons (qvN 0 nm__law_same__law_found) (qa_cons (qvN 1 nm__law_same__law_due) qa_nil))) (qg_tup (by rfl) (qgs_cons (qg_nameN (i := 2) sc__law_same.nd nm__law_same__law_one) (qgs_cons (qg_nameN (i := 3) sc__law_same.nd nm__law_same__law_other) qgs_nil)))
  (qss_one (qs_if (qt_not (qt_val (qe_fnN F__law_same (hr.mono (by omega)) nm__law_same__law_same (qa_cons (qvN 2 nm__law_same__law_one) (qa_cons (qvN 3 nm__law_same__law_other) qa_nil))))) (qss_one (qs_ret qe_bl)) qss_nil)))
 (qss_one (qs_ret qe_bl))))))))), ?_⟩
    have q0 : Q (.bl (sameD d1 d2)) H := q H (Same.refl _)
    obtain ⟨tb2, yb2, eb2⟩ := isi (K := K) r2 "bool" (by decide)
    obtain ⟨ti2, yi2, ei2⟩ := isi (K := K) r2 "int" (by decide)
    obtain ⟨ts2, ys2, es2⟩ := isi (K := K) r2 "str" (by decide)
    obtain ⟨tl2, yl2, el2⟩ := isi (K := K) r2 "list" (by decide)
    obtain ⟨tt2, yt2, et2⟩ := isi (K := K) r2 "tuple" (by decide)
    obtain ⟨tb1, yb1, eb1⟩ := isi (K := K) r1 "bool" (by decide)
    obtain ⟨ts1, ys1, es1⟩ := isi (K := K) r1 "str" (by decide)
    obtain ⟨tl1, yl1, el1⟩ := isi (K := K) r1 "list" (by decide)
    obtain ⟨tt1, yt1, et1⟩ := isi (K := K) r1 "tuple" (by decide)
    -- if due is None
    refine ⟨_, rfl, rfl, _, rfl, ?_⟩
    rw [r2.none_iff]
    cases d2 with
    | non =>
      refine iteT ⟨_, rfl, rfl, ?_⟩
      rw [r1.none_iff]
      cases d1 <;> exact q0
    | bl b2 =>
      refine iteF ?_
      refine ⟨_, rfl, v2, "bool", tb2, _, rfl, yb2, eb2, _, rfl, iteT ?_⟩
      refine ⟨_, rfl, v1, "bool", tb1, _, rfl, yb1, eb1, _, rfl, ?_⟩
      cases r2
      cases d1 with
      | bl b1 =>
        cases r1
        refine iteT ⟨_, rfl, _, rfl, rfl, ?_⟩
        rw [dec_bl]
        exact q0
      | non => exact iteF q0
      | int _ => exact iteF q0
      | str _ => exact iteF q0
      | tup _ => exact iteF q0
      | lst _ => exact iteF q0
    | int i2 =>
      refine iteF ?_
      refine ⟨_, rfl, v2, "bool", tb2, _, rfl, yb2, eb2, _, rfl, iteF ?_⟩
      refine ⟨_, rfl, v2, "int", ti2, _, rfl, yi2, ei2, _, rfl, iteT ?_⟩
      refine ⟨_, rfl, v1, d1, rfl, r1, _, rfl, ?_⟩
      cases r2
      cases d1 with
      | int i1 =>
        cases r1
        refine iteT ⟨_, rfl, _, rfl, rfl, ?_⟩
        rw [dec_int]
        exact q0
      | non => exact iteF q0
      | bl _ => exact iteF q0
      | str _ => exact iteF q0
      | tup _ => exact iteF q0
      | lst _ => exact iteF q0
    | str x2 =>
      refine iteF ?_
      refine ⟨_, rfl, v2, "bool", tb2, _, rfl, yb2, eb2, _, rfl, iteF ?_⟩
      refine ⟨_, rfl, v2, "int", ti2, _, rfl, yi2, ei2, _, rfl, iteF ?_⟩
      refine ⟨_, rfl, v2, "str", ts2, _, rfl, ys2, es2, _, rfl, iteT ?_⟩
      refine ⟨_, rfl, v1, "str", ts1, _, rfl, ys1, es1, _, rfl, ?_⟩
      cases r2
      cases d1 with
      | str x1 =>
        cases r1
        refine iteT ⟨_, rfl, _, rfl, rfl, ?_⟩
        rw [dec_str]
        exact q0
      | non => exact iteF q0
      | bl _ => exact iteF q0
      | int _ => exact iteF q0
      | tup _ => exact iteF q0
      | lst _ => exact iteF q0
    | lst ds2 =>
      refine iteF ?_
      refine ⟨_, rfl, v2, "bool", tb2, _, rfl, yb2, eb2, _, rfl, iteF ?_⟩
      refine ⟨_, rfl, v2, "int", ti2, _, rfl, yi2, ei2, _, rfl, iteF ?_⟩
      refine ⟨_, rfl, v2, "str", ts2, _, rfl, ys2, es2, _, rfl, iteF ?_⟩
      refine ⟨_, rfl, v2, "list", tl2, _, rfl, yl2, el2, _, rfl, v1, "list", tl1, _, rfl, yl1, el1, rfl, _, rfl, ?_⟩
      have ne1 : ∀ {A B : Prop}, B → if (!decide (V.bl true = V.bl true)) = true then A else B := fun h => iteND (fun z => absurd rfl z) fun _ => h
      have ne2 : ∀ {A B : Prop}, B → if (!decide (V.bl false = V.bl false)) = true then A else B := fun h => iteND (fun z => absurd rfl z) fun _ => h
      have nt1 : ∀ {A B : Prop}, A → if (!decide (V.bl true = V.bl false)) = true then A else B := fun h => iteND (fun _ => h) fun z => by cases z
      have nt2 : ∀ {A B : Prop}, A → if (!decide (V.bl false = V.bl true)) = true then A else B := fun h => iteND (fun _ => h) fun z => by cases z
      have two : ∀ {R : Prop}, R → R := id
      cases d1 with
      | lst ds1 =>
        refine ne1 ?_
        refine ⟨_, rfl, v2, "tuple", tt2, _, rfl, yt2, et2, _, rfl, v1, "tuple", tt1, _, rfl, yt1, et1, rfl, _, rfl, ?_⟩
        refine ne2 ?_
        obtain ⟨a1, vs1, rfl, g1, p1⟩ := r1
        obtain ⟨a2, vs2, rfl, g2, p2⟩ := r2
        refine ⟨_, rfl, a1, vs1, rfl, .inl (SqL.of g1), _, rfl, a2, vs2, rfl, .inl (SqL.of g2), rfl, _, rfl, iteND (fun hne => ?_) (fun heq => ?_)⟩
        · have : ds1.length ≠ ds2.length := fun z => hne (by rw [p1.length, p2.length, z])
          have e : sameD (.lst ds1) (.lst ds2) = false := by rw [sameD]; exact sameL_false_len this
          rw [e] at q0
          exact q0
        · have hl : vs1.length = vs2.length := by injection heq with z; omega
          have hl1 := p1.length
          have hl2 := p2.length
          refine ⟨_, rfl, _, rfl, a1, a2, rfl, .inl ⟨vs1, vs2, SqL.of g1, SqL.of g2, ?_⟩⟩
          refine forW_zip vs1 vs2 hl (fun i σ H' => Same H H' ∧ ∃ w3 w4, σ = [some (.ref a1), some (.ref a2), w3, w4] ∧ sameL (ds1.take i) (ds2.take i) = true) ⟨Same.refl _, none, none, rfl, rfl⟩ (fun i σ H' _ ⟨sm, _⟩ => ⟨SqL.of (sm _ _ g1), SqL.of (sm _ _ g2)⟩) ?_ ?_
          · rintro i x y p σ H' hx hy ⟨sm, w3, w4, rfl, hs⟩ hp
            obtain ⟨dx, ex, rx⟩ := p1.get hx
            obtain ⟨dy, ey, ry⟩ := p2.get hy
            have sm' := sm.trans (Same.new (o := .tup [x, y]) hp)
            have dd := deep_get ey
            have hn' : deepL ds2 + 1 ≤ n := hn
            refine ⟨p, _, rfl, SqT.of upd_same, rfl, x, [y], rfl, y, [], rfl, rfl, ?_⟩
            refine ⟨_, rfl, _, rfl, by omega, x, y, dx, dy, rfl, rx.mono' sm', ry.mono' sm', by omega, fun H2 sm2 => ⟨_, rfl, iteNB (fun hf => ?_) (fun ht => ?_)⟩⟩
            · have e : sameD (.lst ds1) (.lst ds2) = false := by rw [sameD]; exact sameL_false_at ex ey hf
              have qq := q H2 (sm'.trans sm2)
              rw [e] at qq
              exact qq
            · exact ⟨sm'.trans sm2, _, _, rfl, by rw [sameL_take ex ey, hs, ht]; rfl⟩
          · rintro σ H' ⟨sm, w3, w4, rfl, hs⟩
            have e : sameD (.lst ds1) (.lst ds2) = true := by
              rw [sameD]
              rw [List.take_of_length_le (by omega), List.take_of_length_le (by omega)] at hs
              exact hs
            have qq := q H' sm
            rw [e] at qq
            exact qq
      | tup _ => exact nt1 (iteT q0)
      | non => exact nt1 (iteT q0)
      | bl _ => exact nt1 (iteT q0)
      | int _ => exact nt1 (iteT q0)
      | str _ => exact nt1 (iteT q0)
    | tup ds2 =>
      refine iteF ?_
      refine ⟨_, rfl, v2, "bool", tb2, _, rfl, yb2, eb2, _, rfl, iteF ?_⟩
      refine ⟨_, rfl, v2, "int", ti2, _, rfl, yi2, ei2, _, rfl, iteF ?_⟩
      refine ⟨_, rfl, v2, "str", ts2, _, rfl, ys2, es2, _, rfl, iteF ?_⟩
      refine ⟨_, rfl, v2, "list", tl2, _, rfl, yl2, el2, _, rfl, v1, "list", tl1, _, rfl, yl1, el1, rfl, _, rfl, ?_⟩
      have ne1 : ∀ {A B : Prop}, B → if (!decide (V.bl true = V.bl true)) = true then A else B := fun h => iteND (fun z => absurd rfl z) fun _ => h
      have ne2 : ∀ {A B : Prop}, B → if (!decide (V.bl false = V.bl false)) = true then A else B := fun h => iteND (fun z => absurd rfl z) fun _ => h
      have nt1 : ∀ {A B : Prop}, A → if (!decide (V.bl true = V.bl false)) = true then A else B := fun h => iteND (fun _ => h) fun z => by cases z
      have nt2 : ∀ {A B : Prop}, A → if (!decide (V.bl false = V.bl true)) = true then A else B := fun h => iteND (fun _ => h) fun z => by cases z
      have two : ∀ {R : Prop}, R → R := id
      cases d1 with
      | tup ds1 =>
        refine ne2 ?_
        refine ⟨_, rfl, v2, "tuple", tt2, _, rfl, yt2, et2, _, rfl, v1, "tuple", tt1, _, rfl, yt1, et1, rfl, _, rfl, ?_⟩
        refine ne1 ?_
        obtain ⟨a1, vs1, rfl, g1, p1⟩ := r1
        obtain ⟨a2, vs2, rfl, g2, p2⟩ := r2
        refine ⟨_, rfl, a1, vs1, rfl, .inr (SqT.of g1), _, rfl, a2, vs2, rfl, .inr (SqT.of g2), rfl, _, rfl, iteND (fun hne => ?_) (fun heq => ?_)⟩
        · have : ds1.length ≠ ds2.length := fun z => hne (by rw [p1.length, p2.length, z])
          have e : sameD (.tup ds1) (.tup ds2) = false := by rw [sameD]; exact sameL_false_len this
          rw [e] at q0
          exact q0
        · have hl : vs1.length = vs2.length := by injection heq with z; omega
          have hl1 := p1.length
          have hl2 := p2.length
          refine ⟨_, rfl, _, rfl, a1, a2, rfl, .inr ⟨vs1, vs2, SqT.of g1, SqT.of g2, ?_⟩⟩
          refine forW_zip vs1 vs2 hl (fun i σ H' => Same H H' ∧ ∃ w3 w4, σ = [some (.ref a1), some (.ref a2), w3, w4] ∧ sameL (ds1.take i) (ds2.take i) = true) ⟨Same.refl _, none, none, rfl, rfl⟩ (fun i σ H' _ ⟨sm, _⟩ => ⟨SqT.of (sm _ _ g1), SqT.of (sm _ _ g2)⟩) ?_ ?_
          · rintro i x y p σ H' hx hy ⟨sm, w3, w4, rfl, hs⟩ hp
            obtain ⟨dx, ex, rx⟩ := p1.get hx
            obtain ⟨dy, ey, ry⟩ := p2.get hy
            have sm' := sm.trans (Same.new (o := .tup [x, y]) hp)
            have dd := deep_get ey
            have hn' : deepL ds2 + 1 ≤ n := hn
            refine ⟨p, _, rfl, SqT.of upd_same, rfl, x, [y], rfl, y, [], rfl, rfl, ?_⟩
            refine ⟨_, rfl, _, rfl, by omega, x, y, dx, dy, rfl, rx.mono' sm', ry.mono' sm', by omega, fun H2 sm2 => ⟨_, rfl, iteNB (fun hf => ?_) (fun ht => ?_)⟩⟩
            · have e : sameD (.tup ds1) (.tup ds2) = false := by rw [sameD]; exact sameL_false_at ex ey hf
              have qq := q H2 (sm'.trans sm2)
              rw [e] at qq
              exact qq
            · exact ⟨sm'.trans sm2, _, _, rfl, by rw [sameL_take ex ey, hs, ht]; rfl⟩
          · rintro σ H' ⟨sm, w3, w4, rfl, hs⟩
            have e : sameD (.tup ds1) (.tup ds2) = true := by
              rw [sameD]
              rw [List.take_of_length_le (by omega), List.take_of_length_le (by omega)] at hs
              exact hs
            have qq := q H' sm
            rw [e] at qq
            exact qq
      | lst _ => exact nt2 (iteT q0)
      | non => exact ne2 ⟨_, rfl, v2, "tuple", tt2, _, rfl, yt2, et2, _, rfl, v1, "tuple", tt1, _, rfl, yt1, et1, rfl, _, rfl, nt1 q0⟩
      | bl _ => exact ne2 ⟨_, rfl, v2, "tuple", tt2, _, rfl, yt2, et2, _, rfl, v1, "tuple", tt1, _, rfl, yt1, et1, rfl, _, rfl, nt1 q0⟩
      | int _ => exact ne2 ⟨_, rfl, v2, "tuple", tt2, _, rfl, yt2, et2, _, rfl, v1, "tuple", tt1, _, rfl, yt1, et1, rfl, _, rfl, nt1 q0⟩
      | str _ => exact ne2 ⟨_, rfl, v2, "tuple", tt2, _, rfl, yt2, et2, _, rfl, v1, "tuple", tt1, _, rfl, yt1, et1, rfl, _, rfl, nt1 q0⟩
theorem same_never {k : Nat} (h__law_same : Has K mg "_law_same" s_law_same) : Fn P w K mg base "_law_same" ["_law_found", "_law_due"] k (fun _ _ _ _ => False) := by
  obtain ⟨f, fd, F, hm⟩ := h__law_same
  exact ⟨f, fd, hm, F.kp, F.binds fun _ _ _ _ _ _ us hl => match us, hl with | [_, _], _ => rfl, ⟨fun _ _ _ _ h => h.elim, fun _ _ _ _ _ _ _ _ _ _ _ _ _ h => h.elim⟩⟩
theorem f__law_same (h__law_same : Has K mg "_law_same" s_law_same) (T : Txt mg) (F__law_whole : Fn P w K mg base "_law_whole" ["_law_found"] 1 spWhole) : ∀ n : Nat, Fn P w K mg base "_law_same" ["_law_found", "_law_due"] (n + 2) (spSame n)
  | 0 => same_step (k := 0) h__law_same T F__law_whole ((same_never h__law_same).imp fun _ _ _ _ h => absurd h.1 (Nat.lt_irrefl _))
  | n + 1 => same_step (k := n + 1) h__law_same T F__law_whole ((f__law_same h__law_same T F__law_whole n).imp fun _ _ _ _ h => h.2)
end

section
variable {P : Program} {w : World} {K : PySem.W.Frag} {mg : Str → Option Value} {base : Heap}
/-! ### the source of the draws -/
def spSrc (K : PySem.W.Frag) : Sp := fun vs H Q _ => ∃ (a : Addr) (ns : List Int), vs = [.ref a] ∧ SqL K H a (ns.map V.int) ∧ ∀ (s la : Addr) (H' : Hp), H s = none → H la = none → SrcAt H' s la → Same H H' → Q (.ref s) H'
abbrev s_law_src : Stmt := top 3
theorem sc__law_src : FnScope ["_law_script"] ["_law_script"] (defScope s_law_src) := ⟨rfl, rfl, rfl, by decide +kernel, rfl, by decide +kernel, by decide +kernel⟩
theorem nm__law_src__law_script : Nm (defScope s_law_src) "_law_script" .local := by decide +kernel
theorem nm__law_src_list : Nm (defScope s_law_src) "list" .globalImplicit := by decide +kernel
theorem f__law_src (h__law_src : Has K mg "_law_src" s_law_src) (T : Txt mg) : Fn P w K mg base "_law_src" ["_law_script"] 1 (spSrc K) := by
  refine h__law_src.fnQ sc__law_src (fun _ _ _ _ _ _ us hl => match us, hl with | [_], _ => rfl) (fun vs H Q E h => ?_) (fun f cdv A outer s H vs Q E hr h => ?_)
  · obtain ⟨a, ns, rfl, _⟩ := h
    rfl
  · obtain ⟨a, ns, rfl, hS, k⟩ := h
    refine ⟨_, (qss_one (qs_ret (qe_lst (qa_cons (qe_callTyN qcall_list_of nm__law_src_list T.list b_list (qa_cons (qe_slice qsl_list (qvN 0 nm__law_src__law_script) qo_none (qo_some qe_int)) qa_nil)) (qa_cons qe_int (qa_cons qe_int (qa_cons qe_int (qa_cons qe_int qa_nil)))))))), ?_⟩
    refine ⟨_, rfl, _, rfl, a, _, rfl, hS, fun l hl => ?_⟩
    have hc : ∃ ms : List Int, cutV (ns.map V.int) none (some 63) = ms.map V.int := by
      unfold cutV
      rw [← List.map_drop, ← List.map_take]
      exact ⟨_, rfl⟩
    obtain ⟨ms, ec⟩ := hc
    refine ⟨l, _, rfl, .inl (SqL.of upd_same), fun l2 hl2 => ⟨by show 5 ≤ sizeLine; decide, fun s hs => ?_⟩⟩
    have n1 : l2 ≠ l := fun z => by rw [z, upd_same] at hl2; cases hl2
    have s1 : Same H (upd H l (.lst (cutV (ns.map V.int) none (some 63)))) := Same.new hl
    have s2 := s1.trans (Same.new (o := .lst (cutV (ns.map V.int) none (some 63))) hl2)
    have n2 : l2 ≠ s := fun z => by rw [← z, upd_same] at hs; cases hs
    refine k s l2 _ (s2.free hs) (s1.free hl2) ⟨ms, 0, 0, 1, 0, upd_same, by rw [upd_ne n2, upd_same, ec], by decide, n2⟩ (s2.trans (Same.new hs))
def spNext : Sp := fun vs H Q _ => ∃ (s la : Addr) (b : Int), vs = [.ref s, .int b] ∧ SrcAt H s la ∧ 0 < b ∧ b < 1073741824 ∧ ∀ (d : Int) (H' : Hp), 0 ≤ d → d < b → SrcAt H' s la → SameX s H H' → Q (.int d) H'
abbrev s_law_next : Stmt := top 4
theorem sc__law_next : FnScope ["_law_src_here", "_law_base", "_law_cell", "_law_digit"] ["_law_src_here", "_law_base"] (defScope s_law_next) := ⟨rfl, rfl, rfl, by decide +kernel, rfl, by decide +kernel, by decide +kernel⟩
theorem nm__law_next__law_base : Nm (defScope s_law_next) "_law_base" .local := by decide +kernel
theorem nm__law_next__law_cell : Nm (defScope s_law_next) "_law_cell" .local := by decide +kernel
theorem nm__law_next__law_digit : Nm (defScope s_law_next) "_law_digit" .local := by decide +kernel
theorem nm__law_next__law_src_here : Nm (defScope s_law_next) "_law_src_here" .local := by decide +kernel
theorem nm__law_next_len : Nm (defScope s_law_next) "len" .globalImplicit := by decide +kernel
theorem f__law_next (h__law_next : Has K mg "_law_next" s_law_next) (T : Txt mg) : Fn P w K mg base "_law_next" ["_law_src_here", "_law_base"] 1 spNext := by
  refine h__law_next.fnQ sc__law_next (fun _ _ _ _ _ _ us hl => match us, hl with | [_, _], _ => rfl) (fun vs H Q E h => ?_) (fun f cdv A outer s H vs Q E hr h => ?_)
  · obtain ⟨s, la, b, rfl, _⟩ := h
    rfl
  · obtain ⟨s, la, b, rfl, ⟨ns, i, big, st, cnt, hs, hla, hi, hne⟩, hb0, hb1, k⟩ := h
    refine ⟨_, (qss_cons (qs_asg (qe_op qop_add (qe_ix qix_list (qvN 0 nm__law_next__law_src_here) qe_int (fun _ _ => rfl)) qe_int) (qg_sub (qvN 0 nm__law_next__law_src_here) qe_int qset_list))
 (qss_cons (qs_if (qt_cmpR qop_le (qe_ix qix_list (qvN 0 nm__law_next__law_src_here) qe_int (fun _ _ => rfl)) qe_int (nomark _)) (qss_cons (qs_setN (i := 2) sc__law_next.nd nm__law_next__law_cell qe_int)
 (qss_cons (qs_if (qt_cmpR qop_lt (qe_ix qix_list (qvN 0 nm__law_next__law_src_here) qe_int (fun _ _ => rfl)) (qe_callBN qcall_len_seq nm__law_next_len T.len b_len (qa_cons (qe_ix qix_list (qvN 0 nm__law_next__law_src_here) qe_int (fun _ _ => rfl)) qa_nil)) (nomark _)) (qss_cons (qs_setN (i := 2) sc__law_next.nd nm__law_next__law_cell (qe_ix qix_list (qe_ix qix_list (qvN 0 nm__law_next__law_src_here) qe_int (fun _ _ => rfl)) (qe_ix qix_list (qvN 0 nm__law_next__law_src_here) qe_int (fun _ _ => rfl)) (fun _ _ => rfl)))
 (qss_one (qs_asg (qe_op qop_add (qe_ix qix_list (qvN 0 nm__law_next__law_src_here) qe_int (fun _ _ => rfl)) qe_int) (qg_sub (qvN 0 nm__law_next__law_src_here) qe_int qset_list)))) qss_nil)
 (qss_cons (qs_asg (qe_op qop_mod (qe_op qop_add (qe_op qop_add (qe_op qop_mul (qe_ix qix_list (qvN 0 nm__law_next__law_src_here) qe_int (fun _ _ => rfl)) qe_int) (qe_op qop_mod (qvN 2 nm__law_next__law_cell) qe_int)) (qe_ix qix_list (qvN 0 nm__law_next__law_src_here) qe_int (fun _ _ => rfl))) qe_int) (qg_sub (qvN 0 nm__law_next__law_src_here) qe_int qset_list))
 (qss_one (qs_if (qt_cmpR qop_ge (qvN 2 nm__law_next__law_cell) (qe_op qop_pow qe_int qe_int) (nomark _)) (qss_one (qs_asg (qvN 2 nm__law_next__law_cell) (qg_sub (qvN 0 nm__law_next__law_src_here) qe_int qset_list))) qss_nil))))) qss_nil)
 (qss_cons (qs_if (qt_cmpR qop_gt (qe_ix qix_list (qvN 0 nm__law_next__law_src_here) qe_int (fun _ _ => rfl)) qe_int (nomark _)) (qss_cons (qs_setN (i := 3) sc__law_next.nd nm__law_next__law_digit (qe_op qop_mod (qe_ix qix_list (qvN 0 nm__law_next__law_src_here) qe_int (fun _ _ => rfl)) (qvN 1 nm__law_next__law_base)))
 (qss_cons (qs_asg (qe_op qop_fdiv (qe_ix qix_list (qvN 0 nm__law_next__law_src_here) qe_int (fun _ _ => rfl)) (qvN 1 nm__law_next__law_base)) (qg_sub (qvN 0 nm__law_next__law_src_here) qe_int qset_list))
 (qss_one (qs_ret (qvN 3 nm__law_next__law_digit))))) qss_nil)
 (qss_one (qs_ret (qe_op qop_mod (qe_op qop_fdiv (qe_op qop_mod (qe_op qop_mul (qe_ix qix_list (qvN 0 nm__law_next__law_src_here) qe_int (fun _ _ => rfl)) qe_int) qe_int) qe_int) (qvN 1 nm__law_next__law_base))))))), ?_⟩
    have fin : ∀ (H1 : Hp) (i' big st cnt d : Int), 0 ≤ d → d < b → SameX s H H1 → H1 s = some (.lst [.ref la, .int i', .int big, .int st, .int cnt]) → 0 ≤ i' → Q (.int d) H1 := fun H1 i' big st cnt d h0 h1 sx hs1 hi1 =>
      k d H1 h0 h1 ⟨ns, i', big, st, cnt, hs1, sx _ _ hne hla, hi1, hne⟩ sx
    walk_at "rd"
    all_goals refine fin _ _ _ _ _ _ (Int.emod_nonneg _ (by omega)) (Int.emod_lt_of_pos _ hb0) ?_ upd_same (by omega)
    all_goals repeat (first | exact SameX.refl | refine SameX.trans ?_ SameX.upd)
end

section
variable {P : Program} {w : World} {K : PySem.W.Frag} {mg : Str → Option Value} {base : Heap}
/-! ### words and names -/
def spWord : Sp := fun vs H Q _ => ∃ (s la : Addr) (n : Int), vs = [.ref s, .int n] ∧ SrcAt H s la ∧ 0 ≤ n ∧ n ≤ 100 ∧ ∀ (x : Str) (H' : Hp), (x.length : Int) = n → Low x → SrcAt H' s la → SameX s H H' → Q (.str x) H'
theorem flat_singles (cl : List Nat) : (List.map cs (cl.map fun c => (⟨#[c]⟩ : Str))).flatten = cl := by
  induction cl with
  | nil => rfl
  | cons c r ih => rw [List.map_cons, List.map_cons, List.flatten_cons, ih]; rfl
abbrev s_law_word : Stmt := top 8
theorem sc__law_word : FnScope ["_law_src_here", "_law_many", "_law_letters"] ["_law_src_here", "_law_many"] (defScope s_law_word) := ⟨rfl, rfl, rfl, by decide +kernel, rfl, by decide +kernel, by decide +kernel⟩
theorem nm__law_word__law_letters : Nm (defScope s_law_word) "_law_letters" .cell := by decide +kernel
theorem nm__law_word__law_many : Nm (defScope s_law_word) "_law_many" .local := by decide +kernel
theorem nm__law_word__law_src_here : Nm (defScope s_law_word) "_law_src_here" .cell := by decide +kernel
theorem nm__law_word_range : Nm (defScope s_law_word) "range" .globalImplicit := by decide +kernel
theorem f__law_word (h__law_word : Has K mg "_law_word" s_law_word) (T : Txt mg) (F__law_next : Fn P w K mg base "_law_next" ["_law_src_here", "_law_base"] 1 spNext) : Fn P w K mg base "_law_word" ["_law_src_here", "_law_many"] 2 spWord := by
  refine h__law_word.fnQ sc__law_word (fun _ _ _ _ _ _ us hl => match us, hl with | [_, _], _ => rfl) (fun vs H Q E h => ?_) (fun f cdv A outer s H vs Q E hr h => ?_)
  · obtain ⟨s, la, n, rfl, _⟩ := h
    rfl
  · obtain ⟨s, la, n, rfl, hsrc, hn0, hn1, k⟩ := h
    refine ⟨_, (qss_cons (qs_setNC (i := 2) sc__law_word.nd nm__law_word__law_letters qe_str)
 (qss_one (qs_ret (qe_bm F.plainAttrs_str F.slot_str_join F.type_str_join qmt_join qe_str (qa_cons (qe_lcomp (locs := ["_law_k"]) (fr := [("_law_src_here", 0), ("_law_letters", 2)]) ⟨rfl, by decide +kernel, by decide +kernel, by decide +kernel, by decide +kernel, by decide +kernel⟩ (.consN nm__law_word__law_src_here (.consN nm__law_word__law_letters .nil)) rfl (qi_range1 nm__law_word_range.1 T.range (qa_cons (qvN 1 nm__law_word__law_many) qa_nil)) ⟨fun _ _ _ _ _ _ => by
    have cnd : (inN ["_law_k"] [("_law_src_here", 0), ("_law_letters", 2)]).Nodup := by decide +kernel
    exact ⟨(qgLN 0 cnd), qts_nil, (qe_ix qix_str (qvFN 2) (qe_fnN F__law_next (hr.mono (by omega)) nmC (qa_cons (qvFN 1) (qa_cons qe_int qa_nil))) (fun _ _ => rfl))⟩⟩) qa_nil))))), ?_⟩
    refine ⟨rfl, _, rfl, n, rfl, by omega, by omega, ?_⟩
    refine comp_range (n := n.toNat) (fun i ys H2 => SrcAt H2 s la ∧ SameX s H H2 ∧ ∃ cl : List Nat, cl.length = i ∧ ys = cl.map (fun c => V.str ⟨#[c]⟩) ∧ ∀ c ∈ cl, 97 ≤ c ∧ c ≤ 122) ⟨hsrc, SameX.refl, [], rfl, rfl, (fun _ z => nomatch z)⟩ (by omega) ?_ ?_ ?_
    · rintro i ys H2 ⟨_, _, cl, h1, rfl, _⟩
      rw [List.length_map]; omega
    · rintro i ys H2 hi ⟨hs2, sx2, cl, h1, rfl, hc⟩ ls hls
      obtain ⟨a, rfl⟩ := len1 hls
      refine ⟨⟨[_], rfl, rfl⟩, ?_⟩
      walk_at "rd"
      refine ⟨s, la, 26, rfl, hs2, by decide, by decide, fun d H3 d0 d1 hs3 sx3 => ?_⟩
      refine ⟨letters, d, _, rfl, rfl, by decide, letters_at d0 d1, hs3, sx2.trans sx3, cl ++ [97 + d.toNat], by rw [List.length_append, h1]; rfl, by rw [List.map_append]; rfl, fun c hc' => ?_⟩
      rcases List.mem_append.mp hc' with z | z
      · exact hc c z
      · have : c = 97 + d.toNat := by simpa using z
        omega
    · rintro ys H2 ⟨hs2, sx2, cl, h1, rfl, hc⟩ l hl
      have e : (cl.map fun c => V.str ⟨#[c]⟩) = (cl.map fun c => (⟨#[c]⟩ : Str)).map V.str := by rw [List.map_map]; rfl
      have sumlen : ∀ l : List Nat, ((l.map fun c => (⟨#[c]⟩ : Str)).map (·.length)).sum = l.length := by
        intro l
        induction l with
        | nil => rfl
        | cons c r ih => rw [List.map_cons, List.map_cons, List.sum_cons, ih, List.length_cons]; show 1 + r.length = _; omega
      refine ⟨_, l, cl.map fun c => (⟨#[c]⟩ : Str), rfl, rfl, SqL.of (by rw [upd_same, e]), ?_, ?_⟩
      · rw [sumlen, List.length_map]
        show cl.length + cl.length * 0 ≤ 16777216
        omega
      · have ej : cs (Txt.join "" (cl.map fun c => (⟨#[c]⟩ : Str))) = cl := by rw [cs_join0, flat_singles]
        refine k _ _ ?_ (fun c hc' => hc c (by rw [ej] at hc'; exact hc')) (hs2.keep (Same.new hl)) (sx2.trans (SameX.new hl))
        rw [← cs_len, ej, h1]
        omega
end

/-! ### lists: as many unlike items as there is room for -/
theorem ph {α : Type} [DecidableEq α] : ∀ (L M : List α), L.Nodup → (∀ a ∈ L, a ∈ M) → L.length ≤ M.length
  | [], _, _, _ => Nat.zero_le _
  | a :: L, M, nd, h => by
    obtain ⟨n1, n2⟩ := List.nodup_cons.mp nd
    have ha := h a List.mem_cons_self
    have := ph L (M.erase a) n2 fun b hb => (List.mem_erase_of_ne (fun (e : b = a) => n1 (by rw [← e]; exact hb))).mpr (h b (List.mem_cons_of_mem _ hb))
    rw [List.length_erase_of_mem ha] at this
    have hp : 0 < M.length := List.length_pos_of_mem ha
    rw [List.length_cons]
    omega
/-- the j-th candidate behind a stem -/
def cand (stem : Str) (j : Nat) : Str := stem ++ ⟨#[97 + j % 26]⟩ ++ ⟨#[97 + j / 26]⟩
theorem cs_cand (stem : Str) (j : Nat) : cs (cand stem j) = cs stem ++ [97 + j % 26, 97 + j / 26] := by
  unfold cand
  rw [cs_app, cs_app]
  simp [cs]
theorem cand_inj {stem : Str} {i j : Nat} (h : cand stem i = cand stem j) : i = j := by
  have e : cs (cand stem i) = cs (cand stem j) := by rw [h]
  rw [cs_cand, cs_cand] at e
  have e2 := List.append_cancel_left e
  injection e2 with e3 e4
  injection e4 with e5 _
  omega
theorem cand_len (stem : Str) (j : Nat) : (cand stem j).length = stem.length + 2 := by
  rw [← cs_len, cs_cand, List.length_append, cs_len]
  rfl
theorem cand_low {stem : Str} {j : Nat} (h : Low stem) (hj : j < 676) : Low (cand stem j) := by
  intro c hc
  rw [cs_cand] at hc
  rcases List.mem_append.mp hc with z | z
  · exact h c z
  · simp at z
    omega
theorem not_all_cands {names : List Str} {stem : Str} (h : ∀ j, j < names.length → cand stem j ∈ names) : cand stem names.length ∉ names := by
  intro hm
  have nd : ((List.range (names.length + 1)).map (cand stem)).Nodup := by
    rw [List.nodup_iff_pairwise_ne, List.pairwise_map]
    exact List.Pairwise.imp (fun h e => h (cand_inj e)) (List.nodup_iff_pairwise_ne.mp List.nodup_range)
  have := ph _ names nd fun a ha => by
    obtain ⟨j, hj, rfl⟩ := List.mem_map.mp ha
    have hj := List.mem_range.mp hj
    by_cases e : j = names.length
    · rw [e]; exact hm
    · exact h j (by omega)
  rw [List.length_map, List.length_range] at this
  omega
theorem inV_str (x : Str) (names : List Str) : inV (.str x) (names.map V.str) = decide (x ∈ names) := by
  unfold inV
  rw [List.any_map, Bool.eq_iff_iff, List.any_eq_true, decide_eq_true_iff]
  constructor
  · rintro ⟨y, hy, e⟩
    have : y = x := by simpa [eqV] using e
    rw [← this]; exact hy
  · intro h
    exact ⟨x, h, by simp [eqV]⟩
theorem flat_strs (names : List Str) : (names.map V.str).all flatV = true := by
  rw [List.all_map, List.all_eq_true]
  intro x _
  rfl
/-- a name -/
def IsName (x : Str) : Prop := Low x ∧ 1 ≤ x.length ∧ x.length ≤ 12

section
variable {P : Program} {w : World} {K : PySem.W.Frag} {mg : Str → Option Value} {base : Heap}
def spUnlike (K : PySem.W.Frag) : Sp := fun vs H Q _ => ∃ (a : Addr) (names : List Str) (x : Str), vs = [.ref a, .str x] ∧ SqL K H a (names.map V.str) ∧ names.length ≤ 600 ∧ IsName x ∧ ∀ y : Str, IsName y → y ∉ names → Q (.str y) H
abbrev s_law_unlike : Stmt := top 7
theorem sc__law_unlike : FnScope ["_law_names_here", "_law_name", "_law_letters", "_law_stem", "_law_tries"] ["_law_names_here", "_law_name"] (defScope s_law_unlike) := ⟨rfl, rfl, rfl, by decide +kernel, rfl, by decide +kernel, by decide +kernel⟩
theorem nm__law_unlike__law_letters : Nm (defScope s_law_unlike) "_law_letters" .local := by decide +kernel
theorem nm__law_unlike__law_name : Nm (defScope s_law_unlike) "_law_name" .local := by decide +kernel
theorem nm__law_unlike__law_names_here : Nm (defScope s_law_unlike) "_law_names_here" .local := by decide +kernel
theorem nm__law_unlike__law_stem : Nm (defScope s_law_unlike) "_law_stem" .local := by decide +kernel
theorem nm__law_unlike__law_tries : Nm (defScope s_law_unlike) "_law_tries" .local := by decide +kernel
theorem nm__law_unlike_len : Nm (defScope s_law_unlike) "len" .globalImplicit := by decide +kernel
theorem nm__law_unlike_range : Nm (defScope s_law_unlike) "range" .globalImplicit := by decide +kernel
theorem f__law_unlike (h__law_unlike : Has K mg "_law_unlike" s_law_unlike) (T : Txt mg) : Fn P w K mg base "_law_unlike" ["_law_names_here", "_law_name"] 1 (spUnlike K) := by
  refine h__law_unlike.fnQ sc__law_unlike (fun _ _ _ _ _ _ us hl => match us, hl with | [_, _], _ => rfl) (fun vs H Q E h => ?_) (fun f cdv A outer s H vs Q E hr h => ?_)
  · obtain ⟨a, names, x, rfl, _⟩ := h
    rfl
  · obtain ⟨a, names, x, rfl, hS, hn, ⟨hx1, hx2, hx3⟩, k⟩ := h
    refine ⟨_, (qss_cons (qs_setN (i := 2) sc__law_unlike.nd nm__law_unlike__law_letters qe_str)
 (qss_cons (qs_setN (i := 3) sc__law_unlike.nd nm__law_unlike__law_stem (qe_slice qsl_str (qvN 1 nm__law_unlike__law_name) qo_none (qo_some qe_int)))
 (qss_cons (qs_for PassesOwn.never rfl (qi_range1 nm__law_unlike_range.1 T.range (qa_cons (qe_op qop_add (qe_callBN qcall_len_seq nm__law_unlike_len T.len b_len (qa_cons (qvN 0 nm__law_unlike__law_names_here) qa_nil)) qe_int) qa_nil)) (qg_nameN (i := 4) sc__law_unlike.nd nm__law_unlike__law_tries)
  (qss_cons (qs_if (qt_cmpR qop_notIn_seq (qvN 1 nm__law_unlike__law_name) (qvN 0 nm__law_unlike__law_names_here) rfl) (qss_one (qs_ret (qvN 1 nm__law_unlike__law_name))) qss_nil)
 (qss_one (qs_setN (i := 1) sc__law_unlike.nd nm__law_unlike__law_name (qe_op qop_add_str (qe_op qop_add_str (qvN 3 nm__law_unlike__law_stem) (qe_ix qix_str (qvN 2 nm__law_unlike__law_letters) (qe_op qop_mod (qvN 4 nm__law_unlike__law_tries) qe_int) (fun _ _ => rfl))) (qe_ix qix_str (qvN 2 nm__law_unlike__law_letters) (qe_op qop_fdiv (qvN 4 nm__law_unlike__law_tries) qe_int) (fun _ _ => rfl)))))))
 (qss_one (qs_ret (qvN 1 nm__law_unlike__law_name)))))), ?_⟩
    have hz : (13 : Nat) ≤ sizeLine := by decide
    refine ⟨_, rfl, 10, rfl, x, rfl, by omega, ?_⟩
    have hst : cs (Txt.slice x none (some 10)) = (cs x).take 10 := cs_upto x (by decide)
    have hstl : (Txt.slice x none (some 10)).length ≤ 10 := by rw [← cs_len, hst, List.length_take]; omega
    have hsto : Low (Txt.slice x none (some 10)) := fun c hc => hx1 c (by rw [hst] at hc; exact List.mem_of_mem_take hc)
    show tSeq _ _ _ [some (.ref a), some (.str x), some (.str letters), some (.str (Txt.slice x none (some 10))), none] H
    generalize Txt.slice x none (some 10) = stem at hstl hsto
    refine ⟨_, rfl, a, _, rfl, .inl hS, _, _, rfl, rfl, _, rfl, by omega, by rw [List.length_map]; omega, ?_⟩
    refine forW_range (names.length + 1) (by rw [List.length_map]; omega) (fun i σ H' => H' = H ∧ ∃ (cur : Str) (v : Option V), σ = [some (.ref a), some (.str cur), some (.str letters), some (.str stem), v] ∧ IsName cur ∧ (i = 0 ∨ cur = cand stem (i - 1)) ∧ ∀ j, j + 1 < i → cand stem j ∈ names)
      ⟨rfl, x, none, rfl, ⟨hx1, hx2, hx3⟩, .inl rfl, fun j hj => by omega⟩ ?_ ?_
    · rintro i σ H' hi ⟨rfl, cur, v, rfl, hc, hci, hal⟩
      refine ⟨_, rfl, _, rfl, a, _, rfl, .inl hS, rfl, flat_strs names, _, rfl, ?_⟩
      rw [inV_str]
      refine iteND (fun hnin => ?_) (fun hin => ?_)
      · exact ⟨_, rfl, k cur hc hnin⟩
      · have hi' : i ≤ 600 := by omega
        refine ⟨_, rfl, _, rfl, _, rfl, _, _, rfl, rfl, by show (0 : Int) < 26; decide, letters, _, _, rfl, rfl, by decide, letters_at (Int.emod_nonneg _ (by decide)) (Int.emod_lt_of_pos _ (by decide)), stem, _, rfl, rfl, ?_, ?_⟩
        · show stem.length + 1 ≤ sizeLine
          omega
        refine ⟨_, rfl, _, rfl, _, _, rfl, rfl, ⟨by decide, by decide⟩, letters, _, _, rfl, rfl, by decide, letters_at (Int.ediv_nonneg (by omega) (by decide)) (by omega), _, _, rfl, rfl, ?_, ?_⟩
        · show (stem ++ _).length + 1 ≤ sizeLine
          rw [PySem.Str.length_append]
          show stem.length + 1 + 1 ≤ sizeLine
          omega
        have e1 : ((0 : Int) + (i : Nat)) % 26 = ((i % 26 : Nat) : Int) := by omega
        have e2 : ((0 : Int) + (i : Nat)) / 26 = ((i / 26 : Nat) : Int) := by omega
        refine ⟨rfl, cand stem i, some (.int (0 + (i : Nat))), ?_, ⟨cand_low hsto (by omega), by rw [cand_len]; omega, by rw [cand_len]; omega⟩, .inr rfl, fun j hj => ?_⟩
        · show [some (V.ref a), some (V.str _), some (V.str letters), some (V.str stem), some (V.int _)] = _
          unfold cand
          rw [e1, e2]
          rfl
        · by_cases e : j + 1 = i
          · rcases hci with z | z
            · omega
            · have : j = i - 1 := by omega
              rw [this, ← z]; exact hin
          · exact hal j (by omega)
    · rintro σ H' ⟨rfl, cur, v, rfl, hc, hci, hal⟩
      refine ⟨_, rfl, k cur hc ?_⟩
      rcases hci with z | z
      · omega
      · rw [z]
        exact not_all_cands fun j hj => hal j (by omega)

def spNames : Sp := fun vs H Q _ => ∃ (s la : Addr) (n : Int), vs = [.ref s, .int n] ∧ SrcAt H s la ∧ 0 ≤ n ∧ n ≤ 100 ∧
  ∀ (l : Addr) (names : List Str) (H' : Hp), (names.length : Int) = n → names.Nodup → (∀ x ∈ names, IsName x) → H l = none → H' l = some (.lst (names.map V.str)) → SrcAt H' s la → SameX s H H' → Q (.ref l) H'
abbrev s_law_names : Stmt := top 9
theorem sc__law_names : FnScope ["_law_src_here", "_law_many", "_law_style", "_law_stem", "_law_at", "_law_names_here", "_law_k", "_law_name"] ["_law_src_here", "_law_many"] (defScope s_law_names) := ⟨rfl, rfl, rfl, by decide +kernel, rfl, by decide +kernel, by decide +kernel⟩
theorem nm__law_names__law_at : Nm (defScope s_law_names) "_law_at" .local := by decide +kernel
theorem nm__law_names__law_k : Nm (defScope s_law_names) "_law_k" .local := by decide +kernel
theorem nm__law_names__law_many : Nm (defScope s_law_names) "_law_many" .local := by decide +kernel
theorem nm__law_names__law_name : Nm (defScope s_law_names) "_law_name" .local := by decide +kernel
theorem nm__law_names__law_names_here : Nm (defScope s_law_names) "_law_names_here" .local := by decide +kernel
theorem nm__law_names__law_next : Nm (defScope s_law_names) "_law_next" .globalImplicit := by decide +kernel
theorem nm__law_names__law_src_here : Nm (defScope s_law_names) "_law_src_here" .local := by decide +kernel
theorem nm__law_names__law_stem : Nm (defScope s_law_names) "_law_stem" .local := by decide +kernel
theorem nm__law_names__law_style : Nm (defScope s_law_names) "_law_style" .local := by decide +kernel
theorem nm__law_names__law_unlike : Nm (defScope s_law_names) "_law_unlike" .globalImplicit := by decide +kernel
theorem nm__law_names__law_word : Nm (defScope s_law_names) "_law_word" .globalImplicit := by decide +kernel
theorem nm__law_names_len : Nm (defScope s_law_names) "len" .globalImplicit := by decide +kernel
theorem nm__law_names_range : Nm (defScope s_law_names) "range" .globalImplicit := by decide +kernel
theorem f__law_names (h__law_names : Has K mg "_law_names" s_law_names) (T : Txt mg) (F__law_next : Fn P w K mg base "_law_next" ["_law_src_here", "_law_base"] 1 spNext) (F__law_word : Fn P w K mg base "_law_word" ["_law_src_here", "_law_many"] 2 spWord)
    (F__law_unlike : Fn P w K mg base "_law_unlike" ["_law_names_here", "_law_name"] 1 (spUnlike K)) : Fn P w K mg base "_law_names" ["_law_src_here", "_law_many"] 3 spNames := by
  refine h__law_names.fnQ sc__law_names (fun _ _ _ _ _ _ us hl => match us, hl with | [_, _], _ => rfl) (fun vs H Q E h => ?_) (fun f cdv A outer s H vs Q E hr h => ?_)
  · obtain ⟨s, la, n, rfl, _⟩ := h
    rfl
  · obtain ⟨s, la, n, rfl, hsrc, hn0, hn1, k⟩ := h
    refine ⟨_, (qss_cons (qs_setN (i := 2) sc__law_names.nd nm__law_names__law_style (qe_fnN F__law_next (hr.mono (by omega)) nm__law_names__law_next (qa_cons (qvN 0 nm__law_names__law_src_here) (qa_cons qe_int qa_nil))))
 (qss_cons (qs_setN (i := 3) sc__law_names.nd nm__law_names__law_stem (qe_fnN F__law_word (hr.mono (by omega)) nm__law_names__law_word (qa_cons (qvN 0 nm__law_names__law_src_here) (qa_cons (qe_op qop_add qe_int (qe_fnN F__law_next (hr.mono (by omega)) nm__law_names__law_next (qa_cons (qvN 0 nm__law_names__law_src_here) (qa_cons qe_int qa_nil)))) qa_nil))))
 (qss_cons (qs_setN (i := 4) sc__law_names.nd nm__law_names__law_at (qe_fnN F__law_next (hr.mono (by omega)) nm__law_names__law_next (qa_cons (qvN 0 nm__law_names__law_src_here) (qa_cons (qe_callBN qcall_len_str nm__law_names_len T.len b_len (qa_cons (qvN 3 nm__law_names__law_stem) qa_nil)) qa_nil))))
 (qss_cons (qs_setN (i := 5) sc__law_names.nd nm__law_names__law_names_here (qe_lst qa_nil))
 (qss_cons (qs_for PassesOwn.never rfl (qi_range1 nm__law_names_range.1 T.range (qa_cons (qvN 1 nm__law_names__law_many) qa_nil)) (qg_nameN (i := 6) sc__law_names.nd nm__law_names__law_k)
  (qss_cons (qs_setN (i := 7) sc__law_names.nd nm__law_names__law_name (qe_op qop_add_str (qe_op qop_add_str (qe_slice qsl_str (qvN 3 nm__law_names__law_stem) qo_none (qo_some (qvN 4 nm__law_names__law_at))) (qe_fnN F__law_word (hr.mono (by omega)) nm__law_names__law_word (qa_cons (qvN 0 nm__law_names__law_src_here) (qa_cons qe_int qa_nil)))) (qe_slice qsl_str (qvN 3 nm__law_names__law_stem) (qo_some (qe_op qop_add (qvN 4 nm__law_names__law_at) qe_int)) qo_none)))
 (qss_cons (qs_if (qt_cmpR qop_eq (qvN 2 nm__law_names__law_style) qe_int (nomark _)) (qss_one (qs_setN (i := 7) sc__law_names.nd nm__law_names__law_name (qe_slice qsl_str (qvN 3 nm__law_names__law_stem) qo_none (qo_some (qe_op qop_add qe_int (qe_fnN F__law_next (hr.mono (by omega)) nm__law_names__law_next (qa_cons (qvN 0 nm__law_names__law_src_here) (qa_cons (qe_callBN qcall_len_str nm__law_names_len T.len b_len (qa_cons (qvN 3 nm__law_names__law_stem) qa_nil)) qa_nil)))))))) qss_nil)
 (qss_cons (qs_if (qt_cmpR qop_eq (qvN 2 nm__law_names__law_style) qe_int (nomark _)) (qss_one (qs_setN (i := 7) sc__law_names.nd nm__law_names__law_name (qe_fnN F__law_word (hr.mono (by omega)) nm__law_names__law_word (qa_cons (qvN 0 nm__law_names__law_src_here) (qa_cons (qe_op qop_add qe_int (qe_fnN F__law_next (hr.mono (by omega)) nm__law_names__law_next (qa_cons (qvN 0 nm__law_names__law_src_here) (qa_cons qe_int qa_nil)))) qa_nil))))) qss_nil)
 (qss_one (qs_expr (qe_bm F.plainAttrs_list F.slot_list_append F.type_list_append qmt_append (qvN 5 nm__law_names__law_names_here) (qa_cons (qe_fnN F__law_unlike (hr.mono (by omega)) nm__law_names__law_unlike (qa_cons (qvN 5 nm__law_names__law_names_here) (qa_cons (qvN 7 nm__law_names__law_name) qa_nil))) qa_nil))))))))
 (qss_one (qs_ret (qvN 5 nm__law_names__law_names_here)))))))), ?_⟩
    have hz : (200 : Nat) ≤ sizeLine := by decide
    refine ⟨_, rfl, s, la, 3, rfl, hsrc, by decide, by decide, fun style H1 st0 st1 hs1 sx1 => ?_⟩
    refine ⟨_, rfl, _, rfl, s, la, 11, rfl, hs1, by decide, by decide, fun d1 H2 d10 d11 hs2 sx2 => ?_⟩
    refine ⟨_, _, rfl, rfl, s, la, _, rfl, hs2, by omega, by omega, fun stem H3 hl3 hlow3 hs3 sx3 => ?_⟩
    refine ⟨_, rfl, _, rfl, stem, rfl, by omega, s, la, _, rfl, hs3, by omega, by omega, fun at_ H4 at0 at1 hs4 sx4 => ?_⟩
    refine ⟨by show 0 ≤ sizeLine; omega, fun l hl4 => ?_⟩
    have sx : SameX s H H4 := ((sx1.trans sx2).trans sx3).trans sx4
    obtain ⟨nls, nlla⟩ := hs4.ne hl4
    have hlH : H l = none := by
      cases e : H l with
      | none => rfl
      | some o => exact absurd (sx l o nls e) (by rw [hl4]; simp)
    refine ⟨_, rfl, n, rfl, by omega, by omega, ?_⟩
    show tForW _ _ _ _ [some (.ref s), some (.int n), some (.int style), some (.str stem), some (.int at_), some (.ref l), none, none] (upd H4 l (.lst []))
    have mkn : ∀ x : Str, Low x → 1 ≤ x.length → x.length ≤ 12 → IsName x := fun x a b c => ⟨a, b, c⟩
    refine forW_range n.toNat rfl (fun i σ H' => ∃ (names : List Str) (v1 v2 : Option V), σ = [some (.ref s), some (.int n), some (.int style), some (.str stem), some (.int at_), some (.ref l), v1, v2] ∧ names.length = i ∧ names.Nodup ∧ (∀ x ∈ names, IsName x) ∧ H' l = some (.lst (names.map V.str)) ∧ SrcAt H' s la ∧ SameX s H H')
      ⟨[], none, none, rfl, rfl, List.nodup_nil, (fun _ z => nomatch z), upd_same, hs4.keep (Same.new hl4), sx.trans (SameX.new hl4)⟩ ?_ ?_
    · rintro i σ H5 hi ⟨names, v1, v2, rfl, hlen, hnd, hall, hl5, hs5, sx5⟩
      -- stem[:at] + word(1) + stem[at + 1:]
      have e1 : cs (Txt.slice stem none (some at_)) = (cs stem).take at_.toNat := cs_upto stem at0
      have e2 : cs (Txt.slice stem (some (at_ + 1)) none) = (cs stem).drop (at_ + 1).toNat := cs_from stem (by omega)
      have l1 : (Txt.slice stem none (some at_)).length ≤ 11 := by rw [← cs_len, e1, List.length_take, cs_len]; omega
      have l2 : (Txt.slice stem (some (at_ + 1)) none).length + (at_ + 1).toNat = stem.length := by rw [← cs_len, e2, List.length_drop, cs_len]; omega
      have l1' : (Txt.slice stem none (some at_)).length = at_.toNat := by rw [← cs_len, e1, List.length_take, cs_len]; omega
      refine ⟨_, rfl, _, rfl, at_, rfl, stem, rfl, by omega, _, rfl, s, la, 1, rfl, hs5, by decide, by decide, fun x1 H6 hx1 hlow1 hs6 sx6 => ?_⟩
      have hl6 : H6 l = some (.lst (names.map V.str)) := sx6 l _ nls hl5
      refine ⟨_, _, rfl, rfl, by omega, ?_⟩
      refine ⟨_, rfl, _, rfl, _, _, rfl, rfl, _, rfl, stem, rfl, by omega, ?_⟩
      have l3 : (Txt.slice stem none (some at_) ++ x1).length = at_.toNat + 1 := by rw [PySem.Str.length_append, l1']; omega
      refine ⟨_, _, rfl, rfl, by rw [l3]; omega, ?_⟩
      have hname : IsName (Txt.slice stem none (some at_) ++ x1 ++ Txt.slice stem (some (at_ + 1)) none) := by
        refine mkn _ (fun c hc => ?_) ?_ ?_
        · rw [cs_app, cs_app, e1, e2] at hc
          rcases List.mem_append.mp hc with hc | hc
          · rcases List.mem_append.mp hc with hc | hc
            · exact hlow3 c (List.mem_of_mem_take hc)
            · exact hlow1 c hc
          · exact hlow3 c (List.mem_of_mem_drop hc)
        · rw [PySem.Str.length_append, l3]; omega
        · rw [PySem.Str.length_append, l3]; omega
      generalize Txt.slice stem none (some at_) ++ x1 ++ Txt.slice stem (some (at_ + 1)) none = nm0 at hname
      show tSeq _ _ _ [some (.ref s), some (.int n), some (.int style), some (.str stem), some (.int at_), some (.ref l), some (.int (0 + (i : Nat))), some (.str nm0)] H6
      -- if style == 1
      have app : ∀ (D : Ends), (∀ σ H', (∃ (names : List Str) (v1 v2 : Option V), σ = [some (.ref s), some (.int n), some (.int style), some (.str stem), some (.int at_), some (.ref l), v1, v2] ∧ names.length = i + 1 ∧ names.Nodup ∧ (∀ x ∈ names, IsName x) ∧ H' l = some (.lst (names.map V.str)) ∧ SrcAt H' s la ∧ SameX s H H') → D.nx σ H') →
          ∀ (x : Str) (H6 : Hp), IsName x → H6 l = some (.lst (names.map V.str)) → SrcAt H6 s la → SameX s H H6 →
          tDrop (tBM K "list" rAppend (tVar 5) (tCons (tFn (spUnlike K) (tCons (tVar 5) (tCons (tVar 7) tNil))) tNil)) D
            [some (.ref s), some (.int n), some (.int style), some (.str stem), some (.int at_), some (.ref l), some (.int (0 + (i : Nat))), some (.str x)] H6 := by
        intro D hD x H6 hx hl6 hs6 sx6
        refine ⟨_, rfl, .inl ⟨rfl, _, SqL.of hl6⟩, _, rfl, _, rfl, l, names, x, rfl, SqL.of hl6, by omega, hx, fun y hy hny => ?_⟩
        refine ⟨l, _, _, rfl, rfl, hl6, by rw [List.length_map]; omega, hD _ _ ⟨names ++ [y], _, _, rfl, by rw [List.length_append, hlen]; rfl, nd_snoc hnd hny, fun z hz => ?_, ?_, ?_, ?_⟩⟩
        · rcases List.mem_append.mp hz with q | q
          · exact hall z q
          · have : z = y := by simpa using q
            rw [this]; exact hy
        · rw [upd_same, List.map_append]; rfl
        · exact hs6.keepX SameX.upd nls nlla
        · intro b o hb e
          have : b ≠ l := fun z => by rw [z, hlH] at e; cases e
          rw [upd_ne this]
          exact sx6 b o hb e
      have step2 : ∀ (D : Ends), (∀ σ H', (∃ (names : List Str) (v1 v2 : Option V), σ = [some (.ref s), some (.int n), some (.int style), some (.str stem), some (.int at_), some (.ref l), v1, v2] ∧ names.length = i + 1 ∧ names.Nodup ∧ (∀ x ∈ names, IsName x) ∧ H' l = some (.lst (names.map V.str)) ∧ SrcAt H' s la ∧ SameX s H H') → D.nx σ H') →
          ∀ (x : Str) (H6 : Hp), IsName x → H6 l = some (.lst (names.map V.str)) → SrcAt H6 s la → SameX s H H6 →
          tSeq (tIfS (tTest (tOp rEq (tVar 2) (tC (.int 2)))) (tAsg (tFn spWord (tCons (tVar 0) (tCons (tOp (rI0 fun i j => .int (i + j)) (tC (.int 1)) (tFn spNext (tCons (tVar 0) (tCons (tC (.int 12)) tNil)))) tNil))) (gName 7)) tNext)
            (tDrop (tBM K "list" rAppend (tVar 5) (tCons (tFn (spUnlike K) (tCons (tVar 5) (tCons (tVar 7) tNil))) tNil))) D
            [some (.ref s), some (.int n), some (.int style), some (.str stem), some (.int at_), some (.ref l), some (.int (0 + (i : Nat))), some (.str x)] H6 := by
        intro D hD x H6 hx hl6 hs6 sx6
        refine ⟨_, rfl, rfl, _, rfl, iteD (fun _ => ?_) (fun _ => ?_)⟩
        · refine ⟨_, rfl, _, rfl, s, la, 12, rfl, hs6, by decide, by decide, fun d H7 d0 d1 hs7 sx7 => ?_⟩
          refine ⟨_, _, rfl, rfl, s, la, _, rfl, hs7, by omega, by omega, fun y H8 hy1 hy2 hs8 sx8 => ?_⟩
          exact app D hD y H8 ⟨hy2, by omega, by omega⟩ (sx8 l _ nls (sx7 l _ nls hl6)) hs8 ((sx6.trans sx7).trans sx8)
        · exact app D hD x H6 hx hl6 hs6 sx6
      refine ⟨_, rfl, rfl, _, rfl, iteD (fun _ => ?_) (fun _ => ?_)⟩
      · refine ⟨_, rfl, _, rfl, _, rfl, stem, rfl, by omega, s, la, _, rfl, hs6, by omega, by omega, fun d H7 d0 d1 hs7 sx7 => ?_⟩
        refine ⟨_, _, rfl, rfl, _, rfl, stem, rfl, by omega, ?_⟩
        have e3 : cs (Txt.slice stem none (some (1 + d))) = (cs stem).take (1 + d).toNat := cs_upto stem (by omega)
        refine step2 _ (fun σ H' h => h) _ H7 ⟨fun c hc => hlow3 c (by rw [e3] at hc; exact List.mem_of_mem_take hc), ?_, ?_⟩ (sx7 l _ nls hl6) hs7 ((sx5.trans sx6).trans sx7)
        · rw [← cs_len, e3, List.length_take, cs_len]; omega
        · rw [← cs_len, e3, List.length_take, cs_len]; omega
      · exact step2 _ (fun σ H' h => h) nm0 H6 hname hl6 hs6 (sx5.trans sx6)
    · rintro σ H5 ⟨names, v1, v2, rfl, hlen, hnd, hall, hl5, hs5, sx5⟩
      exact ⟨_, rfl, k l names H5 (by omega) hnd hall hlH hl5 hs5 sx5⟩
end

section
variable {P : Program} {w : World} {K : PySem.W.Frag} {mg : Str → Option Value} {base : Heap}
/-! ### weights and sides -/
def spWeight : Sp := fun vs H Q _ => ∃ (s la : Addr), vs = [.ref s] ∧ SrcAt H s la ∧ ∀ (d : Int) (H' : Hp), 1 ≤ d → d ≤ 1000 → SrcAt H' s la → SameX s H H' → Q (.int d) H'
abbrev s_law_weight : Stmt := top 10
theorem sc__law_weight : FnScope ["_law_src_here", "_law_kind"] ["_law_src_here"] (defScope s_law_weight) := ⟨rfl, rfl, rfl, by decide +kernel, rfl, by decide +kernel, by decide +kernel⟩
theorem nm__law_weight__law_kind : Nm (defScope s_law_weight) "_law_kind" .local := by decide +kernel
theorem nm__law_weight__law_next : Nm (defScope s_law_weight) "_law_next" .globalImplicit := by decide +kernel
theorem nm__law_weight__law_src_here : Nm (defScope s_law_weight) "_law_src_here" .local := by decide +kernel
theorem f__law_weight (h__law_weight : Has K mg "_law_weight" s_law_weight) (T : Txt mg) (F__law_next : Fn P w K mg base "_law_next" ["_law_src_here", "_law_base"] 1 spNext) : Fn P w K mg base "_law_weight" ["_law_src_here"] 2 spWeight := by
  refine h__law_weight.fnQ sc__law_weight (fun _ _ _ _ _ _ us hl => match us, hl with | [_], _ => rfl) (fun vs H Q E h => ?_) (fun f cdv A outer s H vs Q E hr h => ?_)
  · obtain ⟨s, la, rfl, _⟩ := h
    rfl
  · obtain ⟨s, la, rfl, hsrc, k⟩ := h
    refine ⟨_, (qss_cons (qs_setN (i := 1) sc__law_weight.nd nm__law_weight__law_kind (qe_fnN F__law_next (hr.mono (by omega)) nm__law_weight__law_next (qa_cons (qvN 0 nm__law_weight__law_src_here) (qa_cons qe_int qa_nil))))
 (qss_cons (qs_if (qt_cmpR qop_eq (qvN 1 nm__law_weight__law_kind) qe_int (nomark _)) (qss_one (qs_ret (qe_op qop_add qe_int (qe_fnN F__law_next (hr.mono (by omega)) nm__law_weight__law_next (qa_cons (qvN 0 nm__law_weight__law_src_here) (qa_cons qe_int qa_nil)))))) qss_nil)
 (qss_cons (qs_if (qt_cmpR qop_eq (qvN 1 nm__law_weight__law_kind) qe_int (nomark _)) (qss_one (qs_ret (qe_op qop_sub qe_int (qe_fnN F__law_next (hr.mono (by omega)) nm__law_weight__law_next (qa_cons (qvN 0 nm__law_weight__law_src_here) (qa_cons qe_int qa_nil)))))) qss_nil)
 (qss_one (qs_ret (qe_op qop_add qe_int (qe_fnN F__law_next (hr.mono (by omega)) nm__law_weight__law_next (qa_cons (qvN 0 nm__law_weight__law_src_here) (qa_cons qe_int qa_nil))))))))), ?_⟩
    refine ⟨_, rfl, s, la, 5, rfl, hsrc, by decide, by decide, fun d0 H1 _ _ hs1 sx1 => ?_⟩
    refine ⟨_, rfl, rfl, _, rfl, iteD (fun _ => ?_) (fun _ => ?_)⟩
    · exact ⟨_, rfl, s, la, 1000, rfl, hs1, by decide, by decide, fun d H2 h0 h1 hs2 sx2 => ⟨_, _, rfl, rfl, k _ H2 (by omega) (by omega) hs2 (sx1.trans sx2)⟩⟩
    · refine ⟨_, rfl, rfl, _, rfl, iteD (fun _ => ?_) (fun _ => ?_)⟩
      · exact ⟨_, rfl, s, la, 3, rfl, hs1, by decide, by decide, fun d H2 h0 h1 hs2 sx2 => ⟨_, _, rfl, rfl, k _ H2 (by omega) (by omega) hs2 (sx1.trans sx2)⟩⟩
      · exact ⟨_, rfl, s, la, 9, rfl, hs1, by decide, by decide, fun d H2 h0 h1 hs2 sx2 => ⟨_, _, rfl, rfl, k _ H2 (by omega) (by omega) hs2 (sx1.trans sx2)⟩⟩
/-- a side: names and weights -/
abbrev Side := List (Str × Int)
def oathD (p : Str × Int) : D := .tup [.str p.1, .int p.2]
def sideD (sd : Side) : D := .lst (sd.map oathD)
/-- all tuples stay -/
def SameT (H H' : Hp) : Prop := ∀ b xs, H b = some (.tup xs) → H' b = some (.tup xs)
def RepS (H : Hp) : Side → List V → Prop
  | [], vs => vs = []
  | p :: r, vs => ∃ a vs', vs = .ref a :: vs' ∧ H a = some (.tup [.str p.1, .int p.2]) ∧ RepS H r vs'
theorem RepS.mono {H H' : Hp} (k : SameT H H') : ∀ {sd : Side} {vs : List V}, RepS H sd vs → RepS H' sd vs
  | [], _, h => h
  | _ :: _, _, ⟨a, vs', e, h1, h2⟩ => ⟨a, vs', e, k _ _ h1, RepS.mono k h2⟩
theorem RepS.rep {H : Hp} : ∀ {sd : Side} {vs : List V}, RepS H sd vs → RepL H (sd.map oathD) vs
  | [], _, h => h
  | p :: _, _, ⟨a, vs', e, h1, h2⟩ => ⟨.ref a, vs', e, ⟨a, _, rfl, h1, ⟨.str p.1, _, rfl, rfl, ⟨.int p.2, [], rfl, rfl, rfl⟩⟩⟩, RepS.rep h2⟩
theorem RepS.of {H : Hp} : ∀ {sd : Side} {vs : List V}, RepL H (sd.map oathD) vs → RepS H sd vs
  | [], _, h => h
  | p :: _, _, ⟨v, vs', e, ⟨a, us, e2, h1, ⟨x, r1, e3, e4, ⟨y, r2, e5, e6, e7⟩⟩⟩, h2⟩ => by
    subst e2 e7 e5 e3
    cases e4
    cases e6
    exact ⟨a, vs', e, h1, RepS.of h2⟩
theorem RepS.len {H : Hp} {sd : Side} {vs : List V} (h : RepS H sd vs) : vs.length = sd.length := by
  have := (RepS.rep h).length
  rw [List.length_map] at this
  exact this
theorem RepS.get {H : Hp} : ∀ {sd : Side} {vs : List V} {i : Nat} {v : V}, RepS H sd vs → vs[i]? = some v → ∃ p a, sd[i]? = some p ∧ v = .ref a ∧ H a = some (.tup [.str p.1, .int p.2])
  | [], vs, i, v, h, e => by cases h; simp at e
  | p :: sd, vs, i, v, ⟨a, vs', e1, h1, h2⟩, e => by
    subst e1
    cases i with
    | zero => simp at e; subst e; exact ⟨p, a, rfl, rfl, h1⟩
    | succ i => simp at e; exact RepS.get (i := i) h2 e
theorem RepS.snoc {H : Hp} {p : Str × Int} {a : Addr} (hp : H a = some (.tup [.str p.1, .int p.2])) : ∀ {sd : Side} {vs : List V}, RepS H sd vs → RepS H (sd ++ [p]) (vs ++ [.ref a])
  | [], vs, h => by cases h; exact ⟨a, [], rfl, hp, rfl⟩
  | q :: sd, vs, ⟨b, vs', e, h1, h2⟩ => by subst e; exact ⟨b, vs' ++ [.ref a], rfl, h1, RepS.snoc hp h2⟩
theorem erase_map {α β : Type} (f : α → β) : ∀ (l : List α) (i : Nat), (l.map f).eraseIdx i = (l.eraseIdx i).map f
  | [], _ => rfl
  | _ :: _, 0 => rfl
  | a :: l, i + 1 => by show f a :: (l.map f).eraseIdx i = f a :: (l.eraseIdx i).map f; rw [erase_map f l i]
theorem erase_perm {α : Type} : ∀ {l : List α} {i : Nat} (h : i < l.length), (l[i] :: l.eraseIdx i).Perm l
  | a :: l, 0, _ => List.Perm.refl _
  | a :: l, i + 1, h => by
    have h' : i < l.length := by simpa using h
    exact (List.Perm.swap a l[i] (l.eraseIdx i)).trans (List.Perm.cons a (erase_perm h'))
theorem sameX_t {s : Addr} {H H' : Hp} {xs : List V} (h : SameX s H H') (hs : H s = some (.lst xs)) : SameT H H' := fun b ys e => h b _ (fun z => by rw [z, hs] at e; cases e) e
theorem upd_t {l : Addr} {H : Hp} {xs : List V} {o : HO} (hl : H l = some (.lst xs)) : SameT H (upd H l o) := fun b ys e => by
  rw [upd_ne (fun z => by rw [z, hl] at e; cases e)]; exact e
theorem new_t {l : Addr} {H : Hp} {o : HO} (hl : H l = none) : SameT H (upd H l o) := fun b ys e => by rw [upd_ne (ne_of_none e hl)]; exact e
theorem SameT.trans {H H1 H2 : Hp} (a : SameT H H1) (b : SameT H1 H2) : SameT H H2 := fun c xs e => b c xs (a c xs e)
/-- a side that was drawn from some names -/
structure Drawn (names : List Str) (sd : Side) : Prop where
  mem : ∀ p ∈ sd, p.1 ∈ names
  nd : (sd.map (·.1)).Nodup
  wt : ∀ p ∈ sd, 1 ≤ p.2 ∧ p.2 ≤ 1000
def spSide : Sp := fun vs H Q _ => ∃ (s la a : Addr) (names : List Str) (n : Int), vs = [.ref s, .ref a, .int n] ∧ SrcAt H s la ∧ H a = some (.lst (names.map V.str)) ∧ a ≠ s ∧ names.Nodup ∧ 0 ≤ n ∧ names.length ≤ 1000 ∧
  ∀ (l : Addr) (sd : Side) (vs : List V) (H' : Hp), (sd.length : Int) = min n names.length → Drawn names sd → H l = none → H' l = some (.lst vs) → RepS H' sd vs → SrcAt H' s la → SameX s H H' → Q (.ref l) H'
abbrev s_law_side : Stmt := top 12
theorem sc__law_side : FnScope ["_law_src_here", "_law_names_here", "_law_many", "_law_left", "_law_side_here", "_law_k"] ["_law_src_here", "_law_names_here", "_law_many"] (defScope s_law_side) := ⟨rfl, rfl, rfl, by decide +kernel, rfl, by decide +kernel, by decide +kernel⟩
theorem nm__law_side__law_k : Nm (defScope s_law_side) "_law_k" .local := by decide +kernel
theorem nm__law_side__law_left : Nm (defScope s_law_side) "_law_left" .local := by decide +kernel
theorem nm__law_side__law_many : Nm (defScope s_law_side) "_law_many" .local := by decide +kernel
theorem nm__law_side__law_names_here : Nm (defScope s_law_side) "_law_names_here" .local := by decide +kernel
theorem nm__law_side__law_next : Nm (defScope s_law_side) "_law_next" .globalImplicit := by decide +kernel
theorem nm__law_side__law_side_here : Nm (defScope s_law_side) "_law_side_here" .local := by decide +kernel
theorem nm__law_side__law_src_here : Nm (defScope s_law_side) "_law_src_here" .local := by decide +kernel
theorem nm__law_side__law_weight : Nm (defScope s_law_side) "_law_weight" .globalImplicit := by decide +kernel
theorem nm__law_side_len : Nm (defScope s_law_side) "len" .globalImplicit := by decide +kernel
theorem nm__law_side_list : Nm (defScope s_law_side) "list" .globalImplicit := by decide +kernel
theorem nm__law_side_min : Nm (defScope s_law_side) "min" .globalImplicit := by decide +kernel
theorem nm__law_side_range : Nm (defScope s_law_side) "range" .globalImplicit := by decide +kernel
theorem f__law_side (h__law_side : Has K mg "_law_side" s_law_side) (T : Txt mg) (F__law_next : Fn P w K mg base "_law_next" ["_law_src_here", "_law_base"] 1 spNext) (F__law_weight : Fn P w K mg base "_law_weight" ["_law_src_here"] 2 spWeight) :
    Fn P w K mg base "_law_side" ["_law_src_here", "_law_names_here", "_law_many"] 3 spSide := by
  refine h__law_side.fnQ sc__law_side (fun _ _ _ _ _ _ us hl => match us, hl with | [_, _, _], _ => rfl) (fun vs H Q E h => ?_) (fun f cdv A outer s H vs Q E hr h => ?_)
  · obtain ⟨s, la, a, names, n, rfl, _⟩ := h
    rfl
  · obtain ⟨s, la, a, names, n, rfl, hsrc, ha, has, hnd, hn0, hnl, k⟩ := h
    refine ⟨_, (qss_cons (qs_setN (i := 3) sc__law_side.nd nm__law_side__law_left (qe_callTyN qcall_list_of nm__law_side_list T.list b_list (qa_cons (qvN 1 nm__law_side__law_names_here) qa_nil)))
 (qss_cons (qs_setN (i := 4) sc__law_side.nd nm__law_side__law_side_here (qe_lst qa_nil))
 (qss_cons (qs_for PassesOwn.never rfl (qi_range1 nm__law_side_range.1 T.range (qa_cons (qe_callBN (qcall_min2 (by rfl)) nm__law_side_min T.min b_min (qa_cons (qvN 2 nm__law_side__law_many) (qa_cons (qe_callBN qcall_len_seq nm__law_side_len T.len b_len (qa_cons (qvN 1 nm__law_side__law_names_here) qa_nil)) qa_nil))) qa_nil)) (qg_nameN (i := 5) sc__law_side.nd nm__law_side__law_k)
  (qss_one (qs_expr (qe_bm F.plainAttrs_list F.slot_list_append F.type_list_append qmt_append (qvN 4 nm__law_side__law_side_here) (qa_cons (qe_tup (qa_cons (qe_bm F.plainAttrs_list F.slot_list_pop F.type_list_pop qmt_popAt (qvN 3 nm__law_side__law_left) (qa_cons (qe_fnN F__law_next (hr.mono (by omega)) nm__law_side__law_next (qa_cons (qvN 0 nm__law_side__law_src_here) (qa_cons (qe_callBN qcall_len_seq nm__law_side_len T.len b_len (qa_cons (qvN 3 nm__law_side__law_left) qa_nil)) qa_nil))) qa_nil)) (qa_cons (qe_fnN F__law_weight (hr.mono (by omega)) nm__law_side__law_weight (qa_cons (qvN 0 nm__law_side__law_src_here) qa_nil)) qa_nil))) qa_nil)))))
 (qss_one (qs_ret (qvN 4 nm__law_side__law_side_here)))))), ?_⟩
    have hz : (2000 : Nat) ≤ sizeLine := by decide
    refine ⟨_, rfl, a, _, rfl, .inl (SqL.of ha), fun lf hlf => ?_⟩
    refine ⟨by show 0 ≤ sizeLine; omega, fun l hl => ?_⟩
    have nfl : lf ≠ l := fun z => by rw [← z, upd_same] at hl; cases hl
    have sm0 : Same H (upd (upd H lf (.lst (names.map V.str))) l (.lst [])) := (Same.new hlf).trans (Same.new hl)
    have hlH : H l = none := (Same.new hlf).free hl
    obtain ⟨n1, n2⟩ := hsrc.ne hlf
    obtain ⟨n3, n4⟩ := hsrc.ne hlH
    have ea : (upd (upd H lf (.lst (names.map V.str))) l (.lst [])) a = some (.lst (names.map V.str)) := sm0 _ _ ha
    refine ⟨_, rfl, _, rfl, a, _, rfl, .inl (SqL.of ea), n, _, rfl, _, rfl, ?_, ?_, ?_⟩
    · split <;> omega
    · rw [List.length_map]; split <;> omega
    have em : (if ((names.map V.str).length : Int) < n then ((names.map V.str).length : Int) else n) = min n names.length := by rw [List.length_map]; split <;> omega
    refine forW_range (min n names.length).toNat (by rw [em]) (fun i σ H' => ∃ (sd : Side) (vs : List V) (left : List Str) (v : Option V), σ = [some (.ref s), some (.ref a), some (.int n), some (.ref lf), some (.ref l), v] ∧ sd.length = i ∧ left.length + i = names.length ∧ (sd.map (·.1) ++ left).Perm names ∧ (∀ p ∈ sd, 1 ≤ p.2 ∧ p.2 ≤ 1000) ∧
        H' l = some (.lst vs) ∧ RepS H' sd vs ∧ H' lf = some (.lst (left.map V.str)) ∧ SrcAt H' s la ∧ SameX s H H')
      ⟨[], [], names, none, rfl, rfl, rfl, List.Perm.refl _, (fun _ z => nomatch z), upd_same, rfl, by rw [upd_ne nfl, upd_same], hsrc.keep sm0, sm0.x⟩ ?_ ?_
    · rintro i σ H' hi ⟨sd, vs, left, v, rfl, hsd, hleft, hperm, hwt, hl', hrep, hlf', hs', sx'⟩
      have hll : 0 < left.length := by omega
      refine ⟨_, rfl, .inl ⟨rfl, _, SqL.of hl'⟩, _, rfl, .inl ⟨rfl, _, SqL.of hlf'⟩, _, rfl, _, rfl, lf, _, rfl, .inl (SqL.of hlf'), s, la, _, rfl, hs', by rw [List.length_map]; omega, by rw [List.length_map]; omega, fun d H1 d0 d1 hs1 sx1 => ?_⟩
      rw [List.length_map] at d1
      obtain ⟨j, rfl⟩ := Int.eq_ofNat_of_zero_le d0
      have hj : j < left.length := by omega
      have hlf1 := sx1 lf _ n1 hlf'
      have hl1 := sx1 l _ n3 hl'
      obtain ⟨ns0, i0, b0, st0, c0, hs0, _⟩ := id hs'
      have t1 : SameT H' H1 := sameX_t sx1 hs0
      refine ⟨lf, _, _, j, .str left[j], rfl, rfl, hlf1, by omega, by omega, seqIndex_of (by omega) (by rw [List.length_map]; omega), by rw [List.getElem?_map, List.getElem?_eq_getElem hj]; rfl, ?_⟩
      have em2 : ((left.map V.str).eraseIdx j) = (left.eraseIdx j).map V.str := erase_map _ _ _
      rw [em2]
      have hs2 : SrcAt (upd H1 lf (.lst ((left.eraseIdx j).map V.str))) s la := hs1.keepX SameX.upd n1 n2
      refine ⟨_, rfl, s, la, rfl, hs2, fun wt H3 w0 w1 hs3 sx3 => ?_⟩
      have hl2 : upd H1 lf (.lst ((left.eraseIdx j).map V.str)) l = some (.lst vs) := by rw [upd_ne nfl.symm]; exact hl1
      have hl3 := sx3 l _ n3 hl2
      have hlf3 := sx3 lf _ n1 upd_same
      obtain ⟨ns2, i2, b2, st2, c2, hs20, _⟩ := id hs2
      have t3 : SameT H' H3 := (t1.trans (upd_t hlf1)).trans (sameX_t sx3 hs20)
      refine ⟨by show 2 ≤ sizeLine; omega, fun p hp => ?_⟩
      have npl : p ≠ l := fun z => by rw [z, hl3] at hp; cases hp
      have npf : p ≠ lf := fun z => by rw [z, hlf3] at hp; cases hp
      obtain ⟨m3, m4⟩ := hs3.ne hp
      refine ⟨l, vs, .ref p, rfl, rfl, by rw [upd_ne npl.symm]; exact hl3, by rw [hrep.len]; omega, ?_⟩
      have t4 : SameT H3 (upd (upd H3 p (.tup [.str left[j], .int wt])) l (.lst (vs ++ [.ref p]))) := (new_t hp).trans (upd_t (by rw [upd_ne npl.symm]; exact hl3))
      refine ⟨sd ++ [(left[j], wt)], vs ++ [.ref p], left.eraseIdx j, _, rfl, by rw [List.length_append, hsd]; rfl, ?_, ?_, fun q hq => ?_, upd_same, ?_, ?_, ?_, ?_⟩
      · rw [List.length_eraseIdx_of_lt hj]; omega
      · rw [List.map_append, List.append_assoc]
        refine List.Perm.trans (List.Perm.append_left _ ?_) hperm
        exact erase_perm hj
      · rcases List.mem_append.mp hq with z | z
        · exact hwt q z
        · have : q = (left[j], wt) := by simpa using z
          rw [this]; exact ⟨w0, w1⟩
      · refine RepS.snoc (p := (left[j], wt)) ?_ (hrep.mono (t3.trans t4))
        rw [upd_ne npl, upd_same]
      · rw [upd_ne nfl, upd_ne npf.symm]; exact hlf3
      · exact (hs3.keep (Same.new hp)).keepX SameX.upd n3 n4
      · intro b o hb e
        have b1 : b ≠ lf := fun z => by rw [z, hlf] at e; cases e
        have b2 : b ≠ l := fun z => by rw [z, hlH] at e; cases e
        have e1 := sx1 b o hb (sx' b o hb e)
        have e2 : upd H1 lf (.lst ((left.eraseIdx j).map V.str)) b = some o := by rw [upd_ne b1]; exact e1
        have e3 := sx3 b o hb e2
        rw [upd_ne b2, upd_ne (ne_of_none e3 hp)]
        exact e3
    · rintro σ H' ⟨sd, vs, left, v, rfl, hsd, hleft, hperm, hwt, hl', hrep, hlf', hs', sx'⟩
      refine ⟨_, rfl, k l sd vs H' (by omega) ⟨fun p hp => ?_, ?_, hwt⟩ hlH hl' hrep hs' sx'⟩
      · exact hperm.subset (List.mem_append_left _ (List.mem_map.mpr ⟨p, hp, rfl⟩))
      · exact (List.nodup_append.mp (hperm.symm.nodup hnd)).1
end

section
variable {P : Program} {w : World} {K : PySem.W.Frag} {mg : Str → Option Value} {base : Heap}
/-! ### sums -/
def wts (sd : Side) : List Int := sd.map (·.2)
def Light (sd : Side) : Prop := (∀ p ∈ sd, 1 ≤ p.2 ∧ p.2 ≤ 1000) ∧ sd.length ≤ 60
theorem Light.bnd {sd : Side} (h : Light sd) : ∀ n ∈ wts sd, -1000000000 ≤ n ∧ n ≤ 1000000000 := fun n hn => by
  obtain ⟨p, hp, rfl⟩ := List.mem_map.mp hn
  have := h.1 p hp
  show -1000000000 ≤ p.2 ∧ p.2 ≤ 1000000000
  omega
theorem wts_get {sd : Side} {i : Nat} {p : Str × Int} (h : sd[i]? = some p) : (wts sd)[i]? = some p.2 := by unfold wts; rw [List.getElem?_map, h]; rfl
theorem sum_take_snoc {l : List Int} {i : Nat} {a : Int} (h : l[i]? = some a) : (l.take (i + 1)).sum = (l.take i).sum + a := by
  rw [List.take_add_one, h, List.sum_append]
  simp
/-- a side handed in -/
def SideAt (H : Hp) (sd : Side) (v : V) : Prop := ∃ a vs, v = .ref a ∧ H a = some (.lst vs) ∧ RepS H sd vs
theorem SideAt.rep {H : Hp} {sd : Side} {v : V} (h : SideAt H sd v) : Rep H (sideD sd) v := let ⟨a, vs, e, h1, h2⟩ := h; ⟨a, vs, e, h1, h2.rep⟩
theorem Same.t {H H' : Hp} (h : Same H H') : SameT H H' := fun b xs e => h b _ e
theorem SideAt.mono {H H' : Hp} {sd : Side} {v : V} (h : SideAt H sd v) (k : Same H H') : SideAt H' sd v := let ⟨a, vs, e, h1, h2⟩ := h; ⟨a, vs, e, k _ _ h1, h2.mono fun b xs e => k b _ e⟩
def spLTotal : Sp := fun vs H Q _ => ∃ (v : V) (sd : Side), vs = [v] ∧ SideAt H sd v ∧ Q (.int (wts sd).sum) H
abbrev s_law_total : Stmt := top 11
theorem sc__law_total : FnScope ["_law_side_here", "_law_found", "_law_name", "_law_weight_here"] ["_law_side_here"] (defScope s_law_total) := ⟨rfl, rfl, rfl, by decide +kernel, rfl, by decide +kernel, by decide +kernel⟩
theorem nm__law_total__law_found : Nm (defScope s_law_total) "_law_found" .local := by decide +kernel
theorem nm__law_total__law_name : Nm (defScope s_law_total) "_law_name" .local := by decide +kernel
theorem nm__law_total__law_side_here : Nm (defScope s_law_total) "_law_side_here" .local := by decide +kernel
theorem nm__law_total__law_weight_here : Nm (defScope s_law_total) "_law_weight_here" .local := by decide +kernel
theorem f__law_total (h__law_total : Has K mg "_law_total" s_law_total) (T : Txt mg) : Fn P w K mg base "_law_total" ["_law_side_here"] 1 spLTotal := by
  refine h__law_total.fnQ sc__law_total (fun _ _ _ _ _ _ us hl => match us, hl with | [_], _ => rfl) (fun vs H Q E h => ?_) (fun f cdv A outer s H vs Q E hr h => ?_)
  · obtain ⟨v, sd, rfl, _⟩ := h
    rfl
  · obtain ⟨v, sd, rfl, ⟨a, vs, rfl, ha, hr⟩, k⟩ := h
    refine ⟨_, (qss_cons (qs_setN (i := 1) sc__law_total.nd nm__law_total__law_found qe_int)
 (qss_cons (qs_for PassesOwn.never rfl (qi_list (qvN 0 nm__law_total__law_side_here)) (qg_tup (by rfl) (qgs_cons (qg_nameN (i := 2) sc__law_total.nd nm__law_total__law_name) (qgs_cons (qg_nameN (i := 3) sc__law_total.nd nm__law_total__law_weight_here) qgs_nil)))
  (qss_one (qs_setN (i := 1) sc__law_total.nd nm__law_total__law_found (qe_op qop_add (qvN 1 nm__law_total__law_found) (qvN 3 nm__law_total__law_weight_here)))))
 (qss_one (qs_ret (qvN 1 nm__law_total__law_found))))), ?_⟩
    refine ⟨_, rfl, a, rfl, ⟨_, SqL.of ha⟩, ?_⟩
    refine forW_list vs (fun i σ H' => H' = H ∧ ∃ v2 v3, σ = [some (.ref a), some (.int ((wts sd).take i).sum), v2, v3]) ⟨rfl, none, none, rfl⟩ (fun i σ H' _ ⟨e, _⟩ => by rw [e]; exact SqL.of ha) ?_ ?_
    · rintro i x σ H' hx ⟨rfl, v2, v3, rfl⟩
      obtain ⟨p, b, hp, rfl, hb⟩ := hr.get hx
      refine ⟨b, _, rfl, SqT.of hb, rfl, _, _, rfl, _, _, rfl, rfl, ?_⟩
      refine ⟨_, rfl, _, rfl, _, _, rfl, rfl, rfl, some (.str p.1), some (.int p.2), ?_⟩
      rw [sum_take_snoc (wts_get hp)]
      rfl
    · rintro σ H' ⟨rfl, v2, v3, rfl⟩
      refine ⟨_, rfl, ?_⟩
      rw [hr.len] at *
      have e : (wts sd).take sd.length = wts sd := List.take_of_length_le (by unfold wts; rw [List.length_map]; omega)
      rw [e]
      exact k
end

section
variable {P : Program} {w : World} {K : PySem.W.Frag} {mg : Str → Option Value} {base : Heap}
/-- the reading of [weight for name, weight in side] -/
theorem comp_wts {H : Hp} {sd : Side} {a : Addr} {vs : List V} {fv : St} {Q : VK} (ha : H a = some (.lst vs)) (hr : RepS H sd vs) (hl : sd.length ≤ 60)
    (hd : ∀ l, H l = none → Q (.ref l) (upd H l (.lst ((wts sd).map V.int)))) :
    tCompW (Itl K a) 2 fv (gTup K 2 (gCons (gName 0) (gCons (gName 1) gNil))) (fun _ H Q => Q true H) (tVar 1) Q H := by
  have hlen := hr.len
  refine comp_list (xs := vs) (fun i ys H' => H' = H ∧ ys = ((wts sd).take i).map V.int) ⟨rfl, rfl⟩ (by omega) (fun i ys H' _ ⟨e, _⟩ => by rw [e]; exact SqL.of ha) ?_ ?_ ?_
  · rintro i ys H' ⟨_, rfl⟩
    rw [List.length_map, List.length_take]; omega
  · rintro i x ys H' hx ⟨rfl, rfl⟩ ls hls
    obtain ⟨u, v, rfl⟩ := len2 hls
    obtain ⟨p, b, hp, rfl, hb⟩ := hr.get hx
    refine ⟨b, _, rfl, SqT.of hb, rfl, _, _, rfl, _, _, rfl, rfl, ⟨[_, _], rfl, rfl⟩, iteT ?_⟩
    refine ⟨_, rfl, rfl, ?_⟩
    rw [List.take_add_one, wts_get hp, List.map_append]
    rfl
  · rintro ys H' ⟨rfl, rfl⟩ l hl'
    have e : (wts sd).take vs.length = wts sd := List.take_of_length_le (by unfold wts; rw [List.length_map]; omega)
    rw [e]
    exact hd l hl'
end
section
variable {P : Program} {w : World} {K : PySem.W.Frag} {mg : Str → Option Value} {base : Heap}
theorem perm_sum {a b : List Int} (h : a.Perm b) : a.sum = b.sum := by
  induction h with
  | nil => rfl
  | cons x _ ih => rw [List.sum_cons, List.sum_cons, ih]
  | swap x y l => rw [List.sum_cons, List.sum_cons, List.sum_cons, List.sum_cons]; omega
  | trans _ _ i1 i2 => exact i1.trans i2
theorem two_ways {ws ms ds : List Int} (n : Nat) (h1 : ms.Perm ws) (h2 : ms.Pairwise (· ≤ ·)) (h3 : ds.Perm ws) (h4 : ds.Pairwise (· ≥ ·)) : (ds.take n).sum = (ms.drop (ws.length - n)).sum := by
  have e : ds.reverse = ms := by
    refine PySem.W.ksm_same (((List.reverse_perm ds).trans h3).trans h1.symm) ?_ h2
    rw [List.pairwise_reverse]
    exact h4
  have hl : ms.length = ws.length := h1.length_eq
  rw [← e, ← hl, ← e, List.length_reverse, List.drop_reverse]
  have : ds.length - (ds.length - n) = min n ds.length := by omega
  rw [this]
  have e2 : ds.take (min n ds.length) = ds.take n := by
    by_cases h : n ≤ ds.length
    · rw [Nat.min_eq_left h]
    · rw [Nat.min_eq_right (by omega), List.take_of_length_le (Nat.le_refl _), List.take_of_length_le (by omega)]
  rw [e2]
  exact (perm_sum (List.reverse_perm _)).symm
def spSumFirst : Sp := fun vs H Q _ => ∃ (v : V) (sd : Side) (n : Int), vs = [v, .int n] ∧ SideAt H sd v ∧ Light sd ∧ 0 ≤ n ∧ ∀ (ms : List Int) (H' : Hp), ms.Perm (wts sd) → ms.Pairwise (· ≤ ·) → Same H H' → Q (.int (ms.drop ((wts sd).length - n.toNat)).sum) H'
abbrev s_law_sum_first : Stmt := top 13
theorem sc__law_sum_first : FnScope ["_law_side_here", "_law_many", "_law_weights", "_law_found", "_law_weight_here"] ["_law_side_here", "_law_many"] (defScope s_law_sum_first) := ⟨rfl, rfl, rfl, by decide +kernel, rfl, by decide +kernel, by decide +kernel⟩
theorem nm__law_sum_first__law_found : Nm (defScope s_law_sum_first) "_law_found" .local := by decide +kernel
theorem nm__law_sum_first__law_many : Nm (defScope s_law_sum_first) "_law_many" .local := by decide +kernel
theorem nm__law_sum_first__law_side_here : Nm (defScope s_law_sum_first) "_law_side_here" .local := by decide +kernel
theorem nm__law_sum_first__law_weight_here : Nm (defScope s_law_sum_first) "_law_weight_here" .local := by decide +kernel
theorem nm__law_sum_first__law_weights : Nm (defScope s_law_sum_first) "_law_weights" .local := by decide +kernel
theorem nm__law_sum_first_len : Nm (defScope s_law_sum_first) "len" .globalImplicit := by decide +kernel
theorem nm__law_sum_first_max : Nm (defScope s_law_sum_first) "max" .globalImplicit := by decide +kernel
theorem nm__law_sum_first_sorted : Nm (defScope s_law_sum_first) "sorted" .globalImplicit := by decide +kernel
theorem f__law_sum_first (h__law_sum_first : Has K mg "_law_sum_first" s_law_sum_first) (T : Txt mg) : Fn P w K mg base "_law_sum_first" ["_law_side_here", "_law_many"] 1 spSumFirst := by
  refine h__law_sum_first.fnQ sc__law_sum_first (fun _ _ _ _ _ _ us hl => match us, hl with | [_, _], _ => rfl) (fun vs H Q E h => ?_) (fun f cdv A outer s H vs Q E hr h => ?_)
  · obtain ⟨v, sd, n, rfl, _⟩ := h
    rfl
  · obtain ⟨v, sd, n, rfl, ⟨a, vs, rfl, ha, hr⟩, hL, hn, k⟩ := h
    refine ⟨_, (qss_cons (qs_setN (i := 2) sc__law_sum_first.nd nm__law_sum_first__law_weights (qe_callBN qcall_sorted nm__law_sum_first_sorted T.sorted b_sorted (qa_cons (qe_lcomp (locs := ["_law_name", "_law_weight_here"]) (fr := []) ⟨rfl, by decide +kernel, by decide +kernel, by decide +kernel, by decide +kernel, by decide +kernel⟩ .nil rfl (qi_list (qvN 0 nm__law_sum_first__law_side_here)) ⟨fun _ _ _ _ _ _ => by
    have cnd : (inN ["_law_name", "_law_weight_here"] []).Nodup := by decide +kernel
    exact ⟨(qg_tupC 2 (by rfl) (qgs_cons (qgLN 0 cnd) (qgs_cons (qgLN 1 cnd) qgs_nil))), qts_nil, (qvLN 1)⟩⟩) qa_nil)))
 (qss_cons (qs_setN (i := 3) sc__law_sum_first.nd nm__law_sum_first__law_found qe_int)
 (qss_cons (qs_for PassesOwn.never rfl (qi_list (qe_slice qsl_list (qvN 2 nm__law_sum_first__law_weights) (qo_some (qe_callBN (qcall_max2 (by rfl)) nm__law_sum_first_max T.max b_max (qa_cons qe_int (qa_cons (qe_op qop_sub (qe_callBN qcall_len_seq nm__law_sum_first_len T.len b_len (qa_cons (qvN 2 nm__law_sum_first__law_weights) qa_nil)) (qvN 1 nm__law_sum_first__law_many)) qa_nil)))) qo_none)) (qg_nameN (i := 4) sc__law_sum_first.nd nm__law_sum_first__law_weight_here)
  (qss_one (qs_setN (i := 3) sc__law_sum_first.nd nm__law_sum_first__law_found (qe_op qop_add (qvN 3 nm__law_sum_first__law_found) (qvN 4 nm__law_sum_first__law_weight_here)))))
 (qss_one (qs_ret (qvN 3 nm__law_sum_first__law_found)))))), ?_⟩
    have hl60 := hL.2
    have hwl : (wts sd).length ≤ 60 := by unfold wts; rw [List.length_map]; exact hl60
    refine ⟨_, rfl, a, rfl, ⟨_, SqL.of ha⟩, ?_⟩
    refine comp_wts ha hr hL.2 fun l hl => ?_
    refine ⟨l, wts sd, rfl, SqL.of upd_same, by omega, fun l2 ms hl2 hp hs => ?_⟩
    have hml : ms.length = (wts sd).length := hp.length_eq
    refine ⟨_, rfl, _, rfl, l2, _, rfl, .inl (SqL.of upd_same), _, rfl, _, _, rfl, rfl, 0, _, rfl, _, rfl, l2, _, rfl, SqL.of upd_same, fun l3 hl3 => ?_⟩
    have em : (if (((ms.map V.int).length : Int) - n) > 0 then (((ms.map V.int).length : Int) - n) else 0) = (((wts sd).length - n.toNat : Nat) : Int) := by rw [List.length_map]; split <;> omega
    have ec : cutV (ms.map V.int) (some (if (((ms.map V.int).length : Int) - n) > 0 then (((ms.map V.int).length : Int) - n) else 0)) none = (ms.drop ((wts sd).length - n.toNat)).map V.int := by
      rw [em]
      unfold cutV
      rw [HT.sIx_nat, HT.sIx_none, List.length_map, Nat.min_eq_left (by omega), List.map_drop]
      exact List.take_of_length_le (by rw [List.length_drop, List.length_map]; omega)
    have s3 := ((Same.new (o := .lst ((wts sd).map V.int)) hl).trans (Same.new (o := .lst (ms.map V.int)) hl2)).trans (Same.new (o := .lst (cutV (ms.map V.int) (some (if (((ms.map V.int).length : Int) - n) > 0 then (((ms.map V.int).length : Int) - n) else 0)) none)) hl3)
    refine ⟨l3, rfl, ⟨_, SqL.of upd_same⟩, ?_⟩
    have hl3' : (upd (upd (upd H l (.lst ((wts sd).map V.int))) l2 (.lst (ms.map V.int))) l3 (.lst (cutV (ms.map V.int) (some (if (((ms.map V.int).length : Int) - n) > 0 then (((ms.map V.int).length : Int) - n) else 0)) none))) l3 = some (.lst ((ms.drop ((wts sd).length - n.toNat)).map V.int)) := by rw [upd_same, ec]
    generalize (upd (upd (upd H l (.lst ((wts sd).map V.int))) l2 (.lst (ms.map V.int))) l3 (.lst (cutV (ms.map V.int) (some (if (((ms.map V.int).length : Int) - n) > 0 then (((ms.map V.int).length : Int) - n) else 0)) none))) = H3 at s3 hl3'
    refine forW_list ((ms.drop ((wts sd).length - n.toNat)).map V.int) (fun i σ H' => H' = H3 ∧ ∃ v4, σ = [some (.ref a), some (.int n), some (.ref l2), some (.int ((ms.drop ((wts sd).length - n.toNat)).take i).sum), v4]) ⟨rfl, none, rfl⟩ (fun i σ H' _ ⟨e, _⟩ => by rw [e]; exact SqL.of hl3') ?_ ?_
    · rintro i x σ H' hx ⟨rfl, v4, rfl⟩
      rw [List.getElem?_map] at hx
      cases e : (ms.drop ((wts sd).length - n.toNat))[i]? with
      | none => rw [e] at hx; cases hx
      | some z =>
        rw [e] at hx
        cases hx
        refine ⟨_, rfl, _, rfl, _, _, rfl, rfl, rfl, some (.int z), ?_⟩
        rw [sum_take_snoc e]
        rfl
    · rintro σ H' ⟨rfl, v4, rfl⟩
      refine ⟨_, rfl, ?_⟩
      rw [List.length_map, List.take_length]
      exact k ms _ hp hs s3
end

section
variable {P : Program} {w : World} {K : PySem.W.Frag} {mg : Str → Option Value} {base : Heap} {C : Addr}
/-! ### the fewest names -/
abbrev fewNm : Str := "fewest_to" ++ ".<locals>." ++ "<lambda>"
def o0 : Str × Int := (⟨#[]⟩, 0)
theorem side_pick (sd : Side) : (List.range sd.length).map (fun i => sd.getD i o0) = sd := by
  apply List.ext_getElem
  · simp
  · intro i h1 h2
    simp [h2]
theorem RepS.pick {H : Hp} {sd : Side} {vs : List V} (h : RepS H sd vs) : ∀ p : List Nat, (∀ i ∈ p, i < sd.length) → RepS H (p.map fun i => sd.getD i o0) (p.map fun i => vs.getD i .non)
  | [], _ => rfl
  | i :: p, hp => by
    have hi := hp i List.mem_cons_self
    have hl := h.len
    obtain ⟨x, a, e1, e2, e3⟩ := h.get (List.getElem?_eq_getElem (show i < vs.length by omega))
    refine ⟨a, _, ?_, ?_, RepS.pick h p fun j hj => hp j (List.mem_cons_of_mem _ hj)⟩
    · show vs.getD i .non :: _ = _
      rw [List.getD_eq_getElem?_getD, List.getElem?_eq_getElem (show i < vs.length by omega), e2]
      rfl
    · show H a = some (.tup [.str (sd.getD i o0).1, .int (sd.getD i o0).2])
      rw [List.getD_eq_getElem?_getD, e1]; exact e3
theorem sorted_side {sd : Side} {p : List Nat} (hp : p.Perm (List.range sd.length)) (hs : p.Pairwise (LKb true (wts sd))) : (p.map fun i => sd.getD i o0).Perm sd ∧ (wts (p.map fun i => sd.getD i o0)).Pairwise (· ≥ ·) := by
  refine ⟨by have := hp.map fun i => sd.getD i o0; rw [side_pick] at this; exact this, ?_⟩
  have hm : ∀ i ∈ p, i < sd.length := fun i hi => List.mem_range.mp (hp.mem_iff.mp hi)
  unfold wts
  rw [List.map_map, List.pairwise_map]
  refine List.Pairwise.imp_of_mem ?_ hs
  intro i j hi hj h
  have key : ∀ i, i < sd.length → kI (wts sd) i = (sd.getD i o0).2 := fun i hi => by
    unfold kI wts
    rw [List.getD_eq_getElem?_getD, List.getD_eq_getElem?_getD, List.getElem?_map, List.getElem?_eq_getElem hi]
    rfl
  unfold LKb at h
  rw [if_pos rfl, key i (hm i hi), key j (hm j hj)] at h
  show (sd.getD i o0).2 ≥ (sd.getD j o0).2
  omega
/-- what is lacking behind the first j -/
def lackM (sd : Side) (goal : Int) (j : Nat) : Int := goal - ((wts sd).take j).sum
theorem lack0 (sd : Side) (goal : Int) : lackM sd goal 0 = goal := by unfold lackM; simp
def namesV (sd : Side) : List V := sd.map fun p => V.str p.1
def spFew (T : Addr) : Sp := fun vs H Q _ => ∃ (a : Addr) (us : List V) (sd : Side) (goal : Int), vs = [.ref a, .int goal] ∧ H a = some (.lst us) ∧ RepS H sd us ∧ sd.length ≤ 60 ∧ IsTab H T fewNm ∧
  ∀ sd' : Side, sd'.Perm sd → (wts sd').Pairwise (· ≥ ·) →
    (∀ (k : Nat) (l : Addr) (H' : Hp), k ≤ sd'.length → lackM sd' goal k < 1 → (∀ j, j < k → 1 ≤ lackM sd' goal j) → H l = none → H' l = some (.lst (namesV (sd'.take k))) → Same H H' → Q (.ref l) H') ∧
    ((∀ j, j ≤ sd'.length → 1 ≤ lackM sd' goal j) → ∀ H', Same H H' → Q .non H')
abbrev s_fewest_to : Stmt := top 1
theorem sc_fewest_to : FnScope ["side", "goal", "names", "lack", "name", "weight"] ["side", "goal"] (defScope s_fewest_to) := ⟨rfl, rfl, rfl, by decide +kernel, rfl, by decide +kernel, by decide +kernel⟩
theorem nm_fewest_to_goal : Nm (defScope s_fewest_to) "goal" .local := by decide +kernel
theorem nm_fewest_to_lack : Nm (defScope s_fewest_to) "lack" .local := by decide +kernel
theorem nm_fewest_to_name : Nm (defScope s_fewest_to) "name" .local := by decide +kernel
theorem nm_fewest_to_names : Nm (defScope s_fewest_to) "names" .local := by decide +kernel
theorem nm_fewest_to_side : Nm (defScope s_fewest_to) "side" .local := by decide +kernel
theorem nm_fewest_to_sorted : Nm (defScope s_fewest_to) "sorted" .globalImplicit := by decide +kernel
theorem nm_fewest_to_weight : Nm (defScope s_fewest_to) "weight" .local := by decide +kernel
theorem f_fewest_to {c T : Addr} (h_fewest_to : HasL K mg "fewest_to" s_fewest_to c) (B_fewest_to : LamB K mg c T) (kb : K.In base) (T0 : Txt mg) : Fn P w K mg base "fewest_to" ["side", "goal"] 4 (spFew T) := by
  refine h_fewest_to.fnQ B_fewest_to kb sc_fewest_to (fun _ _ _ _ _ _ us hl => match us, hl with | [_, _], _ => rfl) (fun vs H Q E h => ?_) (fun f A outer s H vs Q E hr hL h => ?_)
  · obtain ⟨a, us, sd, goal, rfl, _⟩ := h
    rfl
  · obtain ⟨a, us, sd, goal, rfl, ha, hrep, hl60, hT, k⟩ := h
    have T := T0
    refine ⟨_, (qss_cons (qs_setN (i := 2) sc_fewest_to.nd nm_fewest_to_names (qe_lst qa_nil))
 (qss_cons (qs_setN (i := 3) sc_fewest_to.nd nm_fewest_to_lack (qvN 1 nm_fewest_to_goal))
 (qss_cons (qs_for PassesOwn.never rfl (qi_list (qe_sortedKeyRev (x := "oath") hL hT hr (by omega) nm_fewest_to_sorted T.sorted (qa_cons (qvN 0 nm_fewest_to_side) qa_nil) ⟨closure_nil (by decide +kernel), rfl, ⟨rfl, rfl, rfl, by decide +kernel, rfl, by decide +kernel, by decide +kernel⟩, fun _ _ _ _ => rfl, fun _ _ _ _ _ => (qe_ix qix_tupL (qvLm) qe_int (fun _ _ => rfl))⟩)) (qg_tup (by rfl) (qgs_cons (qg_nameN (i := 4) sc_fewest_to.nd nm_fewest_to_name) (qgs_cons (qg_nameN (i := 5) sc_fewest_to.nd nm_fewest_to_weight) qgs_nil)))
  (qss_cons (qs_if (qt_cmpR qop_lt (qvN 3 nm_fewest_to_lack) qe_int (nomark _)) (qss_one (qs_ret (qvN 2 nm_fewest_to_names))) qss_nil)
 (qss_cons (qs_expr (qe_bm F.plainAttrs_list F.slot_list_append F.type_list_append qmt_append (qvN 2 nm_fewest_to_names) (qa_cons (qvN 4 nm_fewest_to_name) qa_nil)))
 (qss_one (qs_augN (i := 3) sc_fewest_to.nd nm_fewest_to_lack (qvN 5 nm_fewest_to_weight) qip_sub)))))
 (qss_one (qs_ret (qe_ifExp (qt_cmpR qop_lt (qvN 3 nm_fewest_to_lack) qe_int (nomark _)) (qvN 2 nm_fewest_to_names) qe_non)))))), ?_⟩
    have hz : (5000 : Nat) ≤ sizeLine := by decide
    have hul := hrep.len
    refine ⟨by show 0 ≤ sizeLine; omega, fun l hl => ?_⟩
    have S1 := Same.new (o := .lst []) hl
    have k1 : (upd H l (.lst [])) l = some (.lst []) := upd_same
    have hrep1 := hrep.mono (H' := upd H l (.lst [])) fun b xs e => S1 _ _ e
    generalize (upd H l (.lst [])) = H1 at S1 k1 hrep1 ⊢
    refine gset ?_
    dsimp only
    refine ⟨_, rfl, ?_⟩
    refine gset ?_
    dsimp only
    refine ⟨_, rfl, a, us, wts sd, rfl, SqL.of (S1 _ _ ha), by omega, by unfold wts; rw [List.length_map]; omega, fun i x kk hx hk H2 t2 => ?_, fun ls p H2 sm hls hp hpw => ?_⟩
    · obtain ⟨o, b, ho, rfl, hb⟩ := hrep1.get hx
      rw [wts_get ho] at hk
      cases hk
      exact ⟨_, rfl, b, _, 1, .int o.2, rfl, rfl, SqT.of (t2 _ _ hb), rfl, rfl, rfl⟩
    · rw [hul] at hp
      obtain ⟨q1, q2⟩ := sorted_side hp hpw
      have hm : ∀ i ∈ p, i < sd.length := fun i hi => List.mem_range.mp (hp.mem_iff.mp hi)
      have S2 := sm.trans (Same.new (o := .lst (p.map fun i => us.getD i .non)) hls)
      have hrep2 := (hrep1.pick p hm).mono (H' := upd H2 ls (.lst (p.map fun i => us.getD i .non))) fun b xs e => S2 _ _ e
      have k2 : (upd H2 ls (.lst (p.map fun i => us.getD i .non))) ls = some (.lst (p.map fun i => us.getD i .non)) := upd_same
      have l2 := S2 _ _ k1
      have nls : ls ≠ l := fun z => by rw [z, sm _ _ k1] at hls; cases hls
      obtain ⟨kY, kN⟩ := k _ q1 q2
      generalize (upd H2 ls (.lst (p.map fun i => us.getD i .non))) = H3 at S2 hrep2 k2 l2 ⊢
      have SH := S1.trans S2
      generalize (p.map fun i => us.getD i .non) = us' at hrep2 k2
      have hsl : (p.map fun i => sd.getD i o0).length ≤ 60 := by have := q1.length_eq; omega
      generalize (p.map fun i => sd.getD i o0) = sd' at q1 q2 hrep2 kY kN hsl
      have hul' := hrep2.len
      have keep : ∀ {H' : Hp}, SameX l H3 H' → Same H H' := fun {H'} sx b o e => sx b o (ne_of_none e hl) (SH _ _ e)
      refine ⟨ls, rfl, ⟨_, SqL.of k2⟩, ?_⟩
      refine forW_list us' (fun i σ H' => ∃ v4 v5 : Option V, σ = [some (.ref a), some (.int goal), some (.ref l), some (.int (lackM sd' goal i)), v4, v5] ∧ SameX l H3 H' ∧ H' l = some (.lst (namesV (sd'.take i))) ∧ ∀ j, j < i → 1 ≤ lackM sd' goal j)
        ⟨none, none, by rw [lack0]; rfl, SameX.refl, l2, fun j hj => by omega⟩ (fun i σ H' _ ⟨_, _, _, sx, _⟩ => SqL.of (sx _ _ nls k2)) ?_ ?_
      · rintro i x σ H' hx ⟨v4, v5, rfl, sx, hl', hlk⟩
        obtain ⟨o, b, ho, rfl, hb⟩ := hrep2.get hx
        have hi := (List.getElem?_eq_some_iff.mp ho).1
        have hb' : H' b = some (.tup [.str o.1, .int o.2]) := sx _ _ (fun z => by rw [z, l2] at hb; cases hb) hb
        refine ⟨b, _, rfl, SqT.of hb', rfl, _, _, rfl, _, _, rfl, rfl, ?_⟩
        dsimp only
        refine ⟨_, rfl, _, _, rfl, rfl, _, rfl, iteD (fun c => ?_) (fun c => ?_)⟩
        · exact ⟨_, rfl, kY i l H' (by omega) c hlk hl hl' (keep sx)⟩
        · have hnl : (namesV (sd'.take i)).length = i := by unfold namesV; rw [List.length_map, List.length_take]; omega
          refine ⟨_, rfl, .inl ⟨rfl, _, SqL.of hl'⟩, _, rfl, l, _, .str o.1, rfl, rfl, hl', by omega, ?_⟩
          refine ⟨_, rfl, _, rfl, _, _, rfl, rfl, some (.str o.1), some (.int o.2), ?_, sx.trans SameX.upd, ?_, fun j hj => ?_⟩
          · have e : lackM sd' goal (i + 1) = lackM sd' goal i - o.2 := by unfold lackM; rw [sum_take_snoc (wts_get ho)]; omega
            rw [e]; rfl
          · rw [upd_same, List.take_add_one, ho]
            unfold namesV
            rw [List.map_append]
            rfl
          · by_cases z : j < i
            · exact hlk j z
            · have : j = i := by omega
              rw [this]; omega
      · rintro σ H' ⟨v4, v5, rfl, sx, hl', hlk⟩
        rw [hul'] at hl' hlk
        rw [hul']
        refine ⟨_, rfl, _, _, rfl, rfl, _, rfl, iteD (fun c => ?_) (fun c => ?_)⟩
        · exact ⟨_, rfl, kY sd'.length l H' (Nat.le_refl _) c hlk hl hl' (keep sx)⟩
        · refine kN (fun j hj => ?_) H' (keep sx)
          by_cases z : j < sd'.length
          · exact hlk j z
          · have : j = sd'.length := by omega
            rw [this]; omega
end

section
variable {P : Program} {w : World} {K : PySem.W.Frag} {mg : Str → Option Value} {base : Heap} {C : Addr}
theorem IsTab.src {H H' : Hp} {T s la : Addr} {nm : Str} (h : IsTab H T nm) (hs : SrcAt H s la) (k : SameX s H H') : IsTab H' T nm := by
  obtain ⟨_, _, _, _, _, a, _⟩ := hs
  exact h.x a k
theorem sum_pos {l : List Int} (h : ∀ x ∈ l, 1 ≤ x) : 0 ≤ l.sum := by
  induction l with
  | nil => exact Int.le_refl _
  | cons a r ih => rw [List.sum_cons]; have := ih (fun x hx => h x (List.mem_cons_of_mem _ hx)); have := h a List.mem_cons_self; omega
theorem take_le {l : List Int} (h : ∀ x ∈ l, 1 ≤ x) (n : Nat) : (l.take n).sum ≤ l.sum := by
  have e := List.take_append_drop n l
  have h2 := sum_pos (l := l.drop n) fun x hx => h x (List.mem_of_mem_drop hx)
  have : l.sum = (l.take n).sum + (l.drop n).sum := by rw [← List.sum_append, e]
  omega
theorem sum_bound {l : List Int} (h : ∀ x ∈ l, x ≤ 1000) : l.sum ≤ 1000 * l.length := by
  induction l with
  | nil => exact Int.le_refl _
  | cons a r ih => rw [List.sum_cons, List.length_cons]; have := ih (fun x hx => h x (List.mem_cons_of_mem _ hx)); have := h a List.mem_cons_self; omega
/-- a name's own oaths in a side -/
theorem one_of : ∀ {sd : Side} {p : Str × Int}, (sd.map (·.1)).Nodup → p ∈ sd → (sd.filter fun q => decide (q.1 = p.1)) = [p]
  | [], p, _, h => nomatch h
  | q :: r, p, hn, h => by
    rw [List.map_cons, List.nodup_cons] at hn
    rcases List.mem_cons.mp h with rfl | h
    · have : (r.filter fun q => decide (q.1 = p.1)) = [] := by
        rw [List.filter_eq_nil_iff]
        intro z hz e
        exact hn.1 (List.mem_map.mpr ⟨z, hz, of_decide_eq_true e⟩)
      rw [List.filter_cons, if_pos (by simp), this]
    · have hne : ¬ q.1 = p.1 := fun e => hn.1 (List.mem_map.mpr ⟨p, h, e.symm⟩)
      rw [List.filter_cons, if_neg (by simpa using hne)]
      exact one_of hn.2 h
theorem count_one {l : List Str} {x : Str} (hn : l.Nodup) (hx : x ∈ l) : (l.map V.str).countP (fun z => eqV z (.str x)) = 1 := by
  rw [List.countP_map]
  have : ((fun z => eqV z (V.str x)) ∘ V.str) = fun y => y == x := by
    funext y
    show (y == x) = (y == x)
    rfl
  rw [this]
  show l.count x = 1
  induction l with
  | nil => exact nomatch hx
  | cons y r ih =>
    rw [List.nodup_cons] at hn
    by_cases e : y = x
    · subst e
      rw [List.count_cons_self, List.count_eq_zero_of_not_mem hn.1]
    · have hx' : x ∈ r := (List.mem_cons.mp hx).resolve_left fun z => e z.symm
      rw [List.count_cons_of_ne (by simpa using e)]
      exact ih hn.2 hx'
theorem namesV_map (sd : Side) : namesV sd = (sd.map (·.1)).map V.str := by unfold namesV; rw [List.map_map]; rfl
theorem flat_names (sd : Side) : (namesV sd).all flatV = true := by
  rw [List.all_eq_true]
  intro x hx
  obtain ⟨p, _, rfl⟩ := List.mem_map.mp hx
  rfl
theorem deep_side (sd : Side) : (sideD sd).deep ≤ 3 := by
  have : ∀ rs : Side, deepL (rs.map oathD) ≤ 1 := by
    intro rs
    induction rs with
    | nil => exact Nat.zero_le _
    | cons b r ih => rw [List.map_cons, deepL]; show max (max 0 (max 0 0) + 1) _ ≤ 1; omega
  show deepL _ + 1 ≤ 3
  have := this sd
  omega
theorem notZz (h : Low "Zz") : False := by
  have := h 90 (by decide +kernel)
  revert this
  decide
abbrev s_law : Stmt := top 14
theorem sc_law : FnScope ["_law_script", "_law_src_here", "_law_names_here", "_law_side_here", "_law_kept", "_law_goal", "_law_found", "_law_reached", "_law_name", "_law_weights"] ["_law_script"] (defScope s_law) := ⟨rfl, rfl, rfl, by decide +kernel, rfl, by decide +kernel, by decide +kernel⟩
theorem nm_law__law_found : Nm (defScope s_law) "_law_found" .local := by decide +kernel
theorem nm_law__law_goal : Nm (defScope s_law) "_law_goal" .local := by decide +kernel
theorem nm_law__law_kept : Nm (defScope s_law) "_law_kept" .local := by decide +kernel
theorem nm_law__law_name : Nm (defScope s_law) "_law_name" .cell := by decide +kernel
theorem nm_law__law_names : Nm (defScope s_law) "_law_names" .globalImplicit := by decide +kernel
theorem nm_law__law_names_here : Nm (defScope s_law) "_law_names_here" .local := by decide +kernel
theorem nm_law__law_next : Nm (defScope s_law) "_law_next" .globalImplicit := by decide +kernel
theorem nm_law__law_reached : Nm (defScope s_law) "_law_reached" .local := by decide +kernel
theorem nm_law__law_same : Nm (defScope s_law) "_law_same" .globalImplicit := by decide +kernel
theorem nm_law__law_script : Nm (defScope s_law) "_law_script" .local := by decide +kernel
theorem nm_law__law_side : Nm (defScope s_law) "_law_side" .globalImplicit := by decide +kernel
theorem nm_law__law_side_here : Nm (defScope s_law) "_law_side_here" .local := by decide +kernel
theorem nm_law__law_src : Nm (defScope s_law) "_law_src" .globalImplicit := by decide +kernel
theorem nm_law__law_src_here : Nm (defScope s_law) "_law_src_here" .local := by decide +kernel
theorem nm_law__law_sum_first : Nm (defScope s_law) "_law_sum_first" .globalImplicit := by decide +kernel
theorem nm_law__law_total : Nm (defScope s_law) "_law_total" .globalImplicit := by decide +kernel
theorem nm_law__law_weights : Nm (defScope s_law) "_law_weights" .local := by decide +kernel
theorem nm_law_fewest_to : Nm (defScope s_law) "fewest_to" .globalImplicit := by decide +kernel
theorem nm_law_isinstance : Nm (defScope s_law) "isinstance" .globalImplicit := by decide +kernel
theorem nm_law_len : Nm (defScope s_law) "len" .globalImplicit := by decide +kernel
theorem nm_law_list : Nm (defScope s_law) "list" .globalImplicit := by decide +kernel
theorem nm_law_str : Nm (defScope s_law) "str" .globalImplicit := by decide +kernel
theorem f_law {f Tt : Addr} {fd : FuncData} {ts : List Tb} (hts : ∃ c, (⟨c, Tt, fewNm⟩ : Tb) ∈ ts) (F_law : Fun K "law" "law" s_law f fd) (T0 : Txt mg) (F__law_src : Fn P w K mg base "_law_src" ["_law_script"] 1 (spSrc K)) (F__law_next : Fn P w K mg base "_law_next" ["_law_src_here", "_law_base"] 1 spNext)
    (F__law_names : Fn P w K mg base "_law_names" ["_law_src_here", "_law_many"] 3 spNames) (F__law_side : Fn P w K mg base "_law_side" ["_law_src_here", "_law_names_here", "_law_many"] 3 spSide) (F__law_same : Fn P w K mg base "_law_same" ["_law_found", "_law_due"] 5 (spSame 3))
    (F__law_total : Fn P w K mg base "_law_total" ["_law_side_here"] 1 spLTotal) (F__law_sum_first : Fn P w K mg base "_law_sum_first" ["_law_side_here", "_law_many"] 1 spSumFirst) (F_fewest_to : Fn P w K mg base "fewest_to" ["side", "goal"] 4 (spFew Tt)) :
    FnOk P w K mg base CX0 7 f fd ["_law_script"] (spLawT K ts) := by
  refine F_law.okQ sc_law (fun vs H Q E h => ?_) (fun cdv A outer s H vs Q E hr h => ?_)
  · obtain ⟨a, ns, rfl, _⟩ := h
    rfl
  · obtain ⟨a, ns, rfl, hS, hlen, hTs, k⟩ := h
    obtain ⟨cT, hcT⟩ := hts
    have hT0 : IsTab H Tt fewNm := hTs _ hcT
    have T := T0
    refine ⟨_, (qss_cons (qs_setN (i := 1) sc_law.nd nm_law__law_src_here (qe_fnN F__law_src (hr.mono (by omega)) nm_law__law_src (qa_cons (qvN 0 nm_law__law_script) qa_nil)))
 (qss_cons (qs_setN (i := 2) sc_law.nd nm_law__law_names_here (qe_fnN F__law_names (hr.mono (by omega)) nm_law__law_names (qa_cons (qvN 1 nm_law__law_src_here) (qa_cons qe_int qa_nil))))
 (qss_cons (qs_setN (i := 3) sc_law.nd nm_law__law_side_here (qe_fnN F__law_side (hr.mono (by omega)) nm_law__law_side (qa_cons (qvN 1 nm_law__law_src_here) (qa_cons (qvN 2 nm_law__law_names_here) (qa_cons (qe_fnN F__law_next (hr.mono (by omega)) nm_law__law_next (qa_cons (qvN 1 nm_law__law_src_here) (qa_cons qe_int qa_nil))) qa_nil)))))
 (qss_cons (qs_setN (i := 4) sc_law.nd nm_law__law_kept (qe_callTyN qcall_list_of nm_law_list T.list b_list (qa_cons (qvN 3 nm_law__law_side_here) qa_nil)))
 (qss_cons (qs_setN (i := 5) sc_law.nd nm_law__law_goal (qe_op qop_sub (qe_fnN F__law_next (hr.mono (by omega)) nm_law__law_next (qa_cons (qvN 1 nm_law__law_src_here) (qa_cons (qe_op qop_add (qe_fnN F__law_total (hr.mono (by omega)) nm_law__law_total (qa_cons (qvN 4 nm_law__law_kept) qa_nil)) qe_int) qa_nil))) qe_int))
 (qss_cons (qs_if (qt_cmpR qop_eq (qe_fnN F__law_next (hr.mono (by omega)) nm_law__law_next (qa_cons (qvN 1 nm_law__law_src_here) (qa_cons qe_int qa_nil))) qe_int (nomark _)) (qss_one (qs_setN (i := 5) sc_law.nd nm_law__law_goal (qe_op qop_add (qe_op qop_sub (qe_fnN F__law_sum_first (hr.mono (by omega)) nm_law__law_sum_first (qa_cons (qvN 4 nm_law__law_kept) (qa_cons (qe_fnN F__law_next (hr.mono (by omega)) nm_law__law_next (qa_cons (qvN 1 nm_law__law_src_here) (qa_cons qe_int qa_nil))) qa_nil))) qe_int) (qe_fnN F__law_next (hr.mono (by omega)) nm_law__law_next (qa_cons (qvN 1 nm_law__law_src_here) (qa_cons qe_int qa_nil)))))) qss_nil)
 (qss_cons (qs_if (qt_cmpR qop_eq (qe_fnN F__law_next (hr.mono (by omega)) nm_law__law_next (qa_cons (qvN 1 nm_law__law_src_here) (qa_cons qe_int qa_nil))) qe_int (nomark _)) (qss_one (qs_setN (i := 5) sc_law.nd nm_law__law_goal (qe_ix qix_list (qe_lst (qa_cons (qe_op qop_pow qe_int qe_int) (qa_cons (qe_un qop_neg (qe_op qop_pow qe_int qe_int)) qa_nil))) (qe_fnN F__law_next (hr.mono (by omega)) nm_law__law_next (qa_cons (qvN 1 nm_law__law_src_here) (qa_cons qe_int qa_nil))) (fun _ _ => rfl)))) qss_nil)
 (qss_cons (qs_setN (i := 6) sc_law.nd nm_law__law_found (qe_fnN F_fewest_to (hr.mono (by omega)) nm_law_fewest_to (qa_cons (qvN 3 nm_law__law_side_here) (qa_cons (qvN 5 nm_law__law_goal) qa_nil))))
 (qss_cons (qs_if (qt_val (qe_callBN qcall_isinst nm_law_isinstance T.isinstance b_isinstance (qa_cons (qvN 6 nm_law__law_found) (qa_cons (qe_bltnN (v := .ty "list") nm_law_list T.list b_list rfl) qa_nil)))) (qss_cons (qs_expr (qe_bm F.plainAttrs_list F.slot_list_append F.type_list_append qmt_append (qvN 6 nm_law__law_found) (qa_cons qe_str qa_nil)))
 (qss_cons (qs_setN (i := 6) sc_law.nd nm_law__law_found (qe_fnN F_fewest_to (hr.mono (by omega)) nm_law_fewest_to (qa_cons (qvN 3 nm_law__law_side_here) (qa_cons (qvN 5 nm_law__law_goal) qa_nil))))
 (qss_one (qs_if (qt_cmpR qop_in_seq qe_str (qvN 6 nm_law__law_found) rfl) (qss_one (qs_ret qe_bl)) qss_nil)))) qss_nil)
 (qss_cons (qs_if (qt_not (qt_val (qe_fnN F__law_same (hr.mono (by omega)) nm_law__law_same (qa_cons (qvN 3 nm_law__law_side_here) (qa_cons (qvN 4 nm_law__law_kept) qa_nil))))) (qss_one (qs_ret qe_bl)) qss_nil)
 (qss_cons (qs_if (QW.pt (qw_and (qt_cmpR qop_gt (qvN 5 nm_law__law_goal) (qe_fnN F__law_total (hr.mono (by omega)) nm_law__law_total (qa_cons (qvN 4 nm_law__law_kept) qa_nil)) (nomark _)) (qw_and1 (qt_cmpR qop_gt (qvN 5 nm_law__law_goal) qe_int (nomark _))))) (qss_one (qs_ret (qe_cmpR qop_isN (qvN 6 nm_law__law_found) qe_non (nomark _)))) qss_nil)
 (qss_cons (qs_if (qt_not (qt_val (qe_callBN qcall_isinst nm_law_isinstance T.isinstance b_isinstance (qa_cons (qvN 6 nm_law__law_found) (qa_cons (qe_bltnN (v := .ty "list") nm_law_list T.list b_list rfl) qa_nil))))) (qss_one (qs_ret qe_bl)) qss_nil)
 (qss_cons (qs_setN (i := 7) sc_law.nd nm_law__law_reached qe_int)
 (qss_cons (qs_for PassesOwn.never rfl (qi_list (qvN 6 nm_law__law_found)) (qg_nameNC (i := 8) sc_law.nd nm_law__law_name)
  (qss_cons (qs_if (QW.pt (qw_or (qt_not (qt_val (qe_callBN qcall_isinst nm_law_isinstance T.isinstance b_isinstance (qa_cons (qvC 8 nm_law__law_name) (qa_cons (qe_bltnN (v := .ty "str") nm_law_str T.str b_str rfl) qa_nil))))) (qw_or1 (qt_cmpR qop_ne (qe_bm F.plainAttrs_list F.slot_list_count F.type_list_count qmt_count (qvN 6 nm_law__law_found) (qa_cons (qvC 8 nm_law__law_name) qa_nil)) qe_int (nomark _))))) (qss_one (qs_ret qe_bl)) qss_nil)
 (qss_cons (qs_setC (locs := ["_law_one", "_law_weight_here"]) (fr := [("_law_name", 8)]) ⟨rfl, by decide +kernel, by decide +kernel, by decide +kernel, by decide +kernel, by decide +kernel⟩ (.consN nm_law__law_name .nil) rfl (qi_list (qvN 4 nm_law__law_kept)) ⟨fun _ _ _ _ _ _ => by
    have cnd : (inN ["_law_one", "_law_weight_here"] [("_law_name", 8)]).Nodup := by decide +kernel
    exact ⟨(qg_tupC 2 (by rfl) (qgs_cons (qgLN 0 cnd) (qgs_cons (qgLN 1 cnd) qgs_nil))), (qts_one (qt_cmpR qop_eq (qvLN 0) (qvFN 2) (nomark _))), (qvLN 1)⟩⟩ sc_law.nd nm_law__law_weights (by rfl) (i := 9))
 (qss_cons (qs_if (qt_cmpR qop_ne (qe_callBN qcall_len_seq nm_law_len T.len b_len (qa_cons (qvN 9 nm_law__law_weights) qa_nil)) qe_int (nomark _)) (qss_one (qs_ret qe_bl)) qss_nil)
 (qss_one (qs_setN (i := 7) sc_law.nd nm_law__law_reached (qe_op qop_add (qvN 7 nm_law__law_reached) (qe_ix qix_list (qvN 9 nm_law__law_weights) qe_int (fun _ _ => rfl)))))))))
 (qss_cons (qs_if (qt_cmpR qop_lt (qvN 5 nm_law__law_goal) qe_int (nomark _)) (qss_one (qs_ret (qe_cmpR qop_eq (qe_callBN qcall_len_seq nm_law_len T.len b_len (qa_cons (qvN 6 nm_law__law_found) qa_nil)) qe_int (nomark _)))) qss_nil)
 (qss_one (qs_ret (qe_and (qe_cmpR qop_ge (qvN 7 nm_law__law_reached) (qvN 5 nm_law__law_goal) (nomark _)) (qe_one (qe_cmpR qop_lt (qe_fnN F__law_sum_first (hr.mono (by omega)) nm_law__law_sum_first (qa_cons (qvN 4 nm_law__law_kept) (qa_cons (qe_op qop_sub (qe_callBN qcall_len_seq nm_law_len T.len b_len (qa_cons (qvN 6 nm_law__law_found) qa_nil)) qe_int) qa_nil))) (qvN 5 nm_law__law_goal) (nomark _))))))))))))))))))))), ?_⟩
    have hz : (5000 : Nat) ≤ sizeLine := by decide
    refine ⟨_, rfl, a, ns, rfl, hS, fun s la H1 hs hla hs1 sm1 => ?_⟩
    refine ⟨_, rfl, s, la, 12, rfl, hs1, by omega, by omega, fun na names H3 hnl hnd hnm hnf hna hs3 sx3 => ?_⟩
    have nn1 : na ≠ s := (hs1.ne hnf).1
    have hT3 := IsTab.src (hT0.same sm1) hs1 sx3
    refine ⟨_, rfl, _, rfl, _, rfl, s, la, 13, rfl, hs3, by decide, by decide, fun m H4 m0 m1 hs4 sx4 => ?_⟩
    have hT4 := IsTab.src hT3 hs3 sx4
    refine ⟨s, la, na, names, m, rfl, hs4, sx4 _ _ nn1 hna, nn1, hnd, m0, by omega, fun l sd us H5 hsl hdr hlf hl hrep hs5 sx5 => ?_⟩
    have hT5 := IsTab.src hT4 hs4 sx5
    have hsd : sd.length ≤ 12 := by omega
    have nls : l ≠ s := (hs4.ne hlf).1
    refine gset ?_
    dsimp only
    refine ⟨_, rfl, l, us, rfl, .inl (SqL.of hl), fun lk hlk => ?_⟩
    have S6 := Same.new (o := .lst us) hlk
    have k6 : (upd H5 lk (.lst us)) lk = some (.lst us) := upd_same
    have hT6 := hT5.same S6
    have hs6 := hs5.keep S6
    have hl6 := S6 _ _ hl
    have hrep6 := hrep.mono (H' := upd H5 lk (.lst us)) fun b xs e => S6 _ _ e
    have nks : lk ≠ s := (hs5.ne hlk).1
    generalize (upd H5 lk (.lst us)) = H6 at S6 k6 hT6 hs6 hl6 hrep6 ⊢
    refine gset ?_
    dsimp only
    have hL : Light sd := ⟨hdr.wt, by omega⟩
    have hw1 : ∀ x ∈ wts sd, 1 ≤ x := fun x hx => by obtain ⟨p, hp, rfl⟩ := List.mem_map.mp hx; exact (hdr.wt p hp).1
    have hw2 : ∀ x ∈ wts sd, x ≤ 1000 := fun x hx => by obtain ⟨p, hp, rfl⟩ := List.mem_map.mp hx; exact (hdr.wt p hp).2
    have hwl : (wts sd).length = sd.length := by unfold wts; rw [List.length_map]
    have hsum0 := sum_pos hw1
    have hsum1 := sum_bound hw2
    -- what is held while the goal is drawn
    let B : Hp → Prop := fun H' => SrcAt H' s la ∧ H' l = some (.lst us) ∧ H' lk = some (.lst us) ∧ RepS H' sd us ∧ IsTab H' Tt fewNm
    have Bx : ∀ {H1 H2 : Hp}, B H1 → SameX s H1 H2 → SrcAt H2 s la → B H2 := fun {H1 H2} b sx hs => by
      obtain ⟨b1, b2, b3, b4, b5⟩ := b
      obtain ⟨n1, i1, g1, t1, c1, h1, _⟩ := id b1
      exact ⟨hs, sx _ _ nls b2, sx _ _ nks b3, b4.mono (sameX_t sx h1), IsTab.src b5 b1 sx⟩
    have Bs : ∀ {H1 H2 : Hp}, B H1 → Same H1 H2 → B H2 := fun {H1 H2} b sm => by
      obtain ⟨b1, b2, b3, b4, b5⟩ := b
      exact ⟨b1.keep sm, sm _ _ b2, sm _ _ b3, b4.mono (fun b xs e => sm _ _ e), b5.same sm⟩
    have B6 : B H6 := ⟨hs6, hl6, k6, hrep6, hT6⟩
    refine ⟨_, rfl, _, rfl, .ref lk, sd, rfl, ⟨lk, us, rfl, k6, hrep6⟩, _, _, rfl, rfl, s, la, _, rfl, hs6, by omega, by omega, fun d7 H7 d70 d71 hs7 sx7 => ⟨_, _, rfl, rfl, ?_⟩⟩
    have B7 := Bx B6 sx7 hs7
    refine gset ?_
    dsimp only
    refine seq_cut (fun σ' H' => ∃ goal : Int, σ' = [some (.ref a), some (.ref s), some (.ref na), some (.ref l), some (.ref lk), some (.int goal), none, none, none, none] ∧ B H') ?_ fun D' hn _ _ _ => ?_
    · rintro σ' H8 ⟨goal, rfl, B8⟩
      refine seq_cut (fun σ' H' => ∃ goal : Int, σ' = [some (.ref a), some (.ref s), some (.ref na), some (.ref l), some (.ref lk), some (.int goal), none, none, none, none] ∧ B H') ?_ fun D' hn _ _ _ => ?_
      · rintro σ' H9 ⟨goal, rfl, B9⟩
        obtain ⟨b1, b2, b3, b4, b5⟩ := id B9
        refine ⟨_, rfl, _, rfl, l, us, sd, goal, rfl, b2, b4, by omega, b5, fun sd' hp hpw => ⟨fun kk lf HA hk1 hk2 hk3 hlf hlfv smA => ?_, fun hno HA smA => ?_⟩⟩
        · refine gset ?_
          dsimp only
          refine ⟨_, rfl, .ref lf, "list", .type "list", true, rfl, .lst hlfv, ii_same "list", _, rfl, iteT ?_⟩
          have hsl' : sd'.length = sd.length := hp.length_eq
          have hnl : (namesV (sd'.take kk)).length ≤ 12 := by unfold namesV; rw [List.length_map, List.length_take]; omega
          refine ⟨_, rfl, .inl ⟨rfl, _, SqL.of hlfv⟩, lf, _, .str "Zz", rfl, rfl, hlfv, by omega, ?_⟩
          have SB : Same H9 (upd HA lf (.lst (namesV (sd'.take kk) ++ [.str "Zz"]))) := fun b o e => by rw [upd_ne (ne_of_none e hlf)]; exact smA _ _ e
          have BB := Bs B9 SB
          generalize (upd HA lf (.lst (namesV (sd'.take kk) ++ [.str "Zz"]))) = HB at SB BB ⊢
          have htot : goal ≤ (wts sd).sum ∨ goal < 1 := by
            have e1 : (wts sd').sum = (wts sd).sum := perm_sum (hp.map _)
            have e2 := take_le (l := wts sd') (fun x hx => hw1 x ((hp.map (·.2)).mem_iff.mp hx)) kk
            unfold lackM at hk2
            omega
          refine ⟨_, rfl, _, rfl, l, us, sd, goal, rfl, BB.2.1, BB.2.2.2.1, by omega, BB.2.2.2.2, fun sd2 hp2 hpw2 => ⟨fun k2 lf2 HC hk1 hk2 hk3 hlf2 hlfv2 smC => ?_, fun hno2 HC smC => ?_⟩⟩
          · refine gset ?_
            dsimp only
            have hsl2 : sd2.length = sd.length := hp2.length_eq
            have hmem : ∀ n ∈ (sd2.take k2).map (·.1), n ∈ names := fun n hn => by
              obtain ⟨p, hp', rfl⟩ := List.mem_map.mp hn
              exact hdr.mem p (hp2.mem_iff.mp (List.mem_of_mem_take hp'))
            have hzz : inV (.str "Zz") (namesV (sd2.take k2)) = false := by
              rw [namesV_map, inV_str]
              refine decide_eq_false fun z => ?_
              have := (hnm _ (hmem _ z)).1
              exact notZz this
            refine ⟨_, rfl, lf2, _, rfl, .inl (SqL.of hlfv2), rfl, flat_names _, _, rfl, ?_⟩
            rw [if_neg Bool.false_ne_true, hzz]
            refine iteF ?_
            have BC := Bs BB smC
            refine ⟨_, rfl, _, rfl, .ref l, .ref lk, sideD sd, sideD sd, rfl, ⟨l, us, rfl, BC.2.1, BC.2.2.2.1.rep⟩, ⟨lk, us, rfl, BC.2.2.1, BC.2.2.2.1.rep⟩, deep_side sd, fun HD smD => ⟨_, rfl, ?_⟩⟩
            rw [sameD_refl]
            refine iteF ?_
            have BD := Bs BC smD
            have hlfD := smD _ _ hlfv2
            refine ⟨_, rfl, _, rfl, .ref lk, sd, rfl, ⟨lk, us, rfl, BD.2.2.1, BD.2.2.2.1⟩, _, _, rfl, rfl, _, rfl, iteD (fun c => absurd (show (wts sd).sum < goal from c) (by omega)) (fun _ => iteF ?_)⟩
            refine ⟨_, rfl, .ref lf2, "list", .type "list", true, rfl, .lst hlfD, ii_same "list", _, rfl, iteF ?_⟩
            dsimp only [tNext]
            refine seq_cut (fun σ' H' => σ' = [some (.ref a), some (.ref s), some (.ref na), some (.ref l), some (.ref lk), some (.int goal), some (.ref lf2), some (.int 0), none, none] ∧ H' = HD) ?_ (fun D' hn _ _ _ => hn _ _ ⟨rfl, rfl⟩)
            rintro σ' H' ⟨rfl, rfl⟩
            have hnl2 : (namesV (sd2.take k2)).length = k2 := by unfold namesV; rw [List.length_map, List.length_take]; omega
            have hw2l : (wts sd2).length = sd2.length := by unfold wts; rw [List.length_map]
            have hnd2 : ((sd2.take k2).map (·.1)).Nodup := by
              have h0 : (sd2.map (·.1)).Nodup := (hp2.map (·.1)).symm.nodup hdr.nd
              rw [List.map_take]
              exact h0.sublist (List.take_sublist _ _)
            refine ⟨_, rfl, lf2, rfl, ⟨_, SqL.of hlfD⟩, ?_⟩
            refine forW_list (namesV (sd2.take k2)) (fun i σ H'' => ∃ v8 v9 : Option V, σ = [some (.ref a), some (.ref s), some (.ref na), some (.ref l), some (.ref lk), some (.int goal), some (.ref lf2), some (.int ((wts sd2).take i).sum), v8, v9] ∧ Same H' H'') ⟨none, none, by rw [List.take_zero]; rfl, fun _ _ e => e⟩ (fun i σ H'' _ ⟨_, _, _, sm⟩ => SqL.of (sm _ _ hlfD)) ?_ ?_
            · rintro i x σ H2 hx ⟨v8, v9, rfl, sm⟩
              have hi : i < k2 := by have := (List.getElem?_eq_some_iff.mp hx).1; omega
              obtain ⟨o, ho, rfl⟩ : ∃ o, sd2[i]? = some o ∧ x = .str o.1 := by
                unfold namesV at hx
                rw [List.getElem?_map, List.getElem?_take_of_lt hi] at hx
                obtain ⟨o, h1, h2⟩ := Option.map_eq_some_iff.mp hx
                exact ⟨o, h1, h2.symm⟩
              have hoT : o.1 ∈ (sd2.take k2).map (·.1) := List.mem_map.mpr ⟨o, List.mem_of_getElem? (by rw [List.getElem?_take_of_lt hi]; exact ho), rfl⟩
              have hoS : o ∈ sd := hp2.mem_iff.mp (List.mem_of_getElem? ho)
              have B2 := Bs BD sm
              have hlf2' := sm _ _ hlfD
              refine ⟨_, rfl, .str o.1, "str", .type "str", true, rfl, .str _, ii_same "str", _, rfl, iteF ?_⟩
              have hcnt : (namesV (sd2.take k2)).countP (fun z => eqV z (.str o.1)) = 1 := by rw [namesV_map]; exact count_one hnd2 hoT
              refine ⟨_, rfl, .inl ⟨rfl, _, SqL.of hlf2'⟩, _, rfl, lf2, _, .str o.1, rfl, rfl, SqL.of hlf2', rfl, flat_names _, rfl, _, rfl, ?_⟩
              rw [hcnt]
              refine iteND (fun z => absurd rfl z) (fun _ => ?_)
              refine ⟨_, rfl, lk, rfl, ⟨_, SqL.of B2.2.2.1⟩, ?_⟩
              have hul := B2.2.2.2.1.len
              refine comp_list (xs := us) (fun j ys H3 => H3 = H2 ∧ ys = ((sd.take j).filter fun q => decide (q.1 = o.1)).map fun q => V.int q.2) ⟨rfl, rfl⟩ (by omega) (fun j ys H3 _ ⟨e, _⟩ => by rw [e]; exact SqL.of B2.2.2.1)
                (fun j ys H3 ⟨_, e⟩ => by rw [e, List.length_map]; exact Nat.le_trans (List.length_filter_le _ _) (by rw [List.length_take]; omega)) ?_ ?_
              · rintro j y ys H3 hy ⟨rfl, rfl⟩ ls hls
                obtain ⟨u, v, rfl⟩ := len2 hls
                obtain ⟨q, bq, hq, rfl, hbq⟩ := B2.2.2.2.1.get hy
                have efil : ((sd.take (j + 1)).filter fun q => decide (q.1 = o.1)) = ((sd.take j).filter fun q => decide (q.1 = o.1)) ++ [q].filter fun q => decide (q.1 = o.1) := by rw [List.take_add_one, hq, List.filter_append]; rfl
                refine ⟨bq, _, rfl, SqT.of hbq, rfl, _, _, rfl, _, _, rfl, rfl, ⟨[_, _], rfl, rfl⟩, ?_⟩
                refine ⟨_, rfl, _, rfl, rfl, _, rfl, iteD (fun c => ?_) (fun c => ?_)⟩
                · have c2 : q.1 = o.1 := by injection c
                  refine ⟨_, rfl, rfl, ?_⟩
                  have e1 : ([q].filter fun q => decide (q.1 = o.1)) = [q] := by simp [c2]
                  rw [efil, e1, List.map_append]
                  rfl
                · refine ⟨rfl, ?_⟩
                  have e1 : ([q].filter fun q => decide (q.1 = o.1)) = [] := by simp; exact fun y => c (by rw [y])
                  rw [efil, e1, List.append_nil]
              · rintro ys H3 ⟨rfl, rfl⟩ lw hlw
                rw [hul, List.take_length, one_of hdr.nd hoS]
                change gName 9 (.ref lw) _ (upd H3 lw (.lst [.int o.2])) _
                have S4 := Same.new (o := .lst [.int o.2]) hlw
                have k4 : (upd H3 lw (.lst [.int o.2])) lw = some (.lst [.int o.2]) := upd_same
                refine gset ?_
                generalize (upd H3 lw (.lst [.int o.2])) = H4 at S4 k4 ⊢
                dsimp only
                refine ⟨_, rfl, lw, _, rfl, .inl (SqL.of k4), rfl, _, rfl, iteND (fun z => absurd rfl z) (fun _ => ?_)⟩
                refine ⟨_, rfl, _, rfl, lw, _, 0, .int o.2, rfl, rfl, SqL.of k4, rfl, _, _, rfl, rfl, ?_⟩
                refine ⟨some (.str o.1), some (.ref lw), ?_, sm.trans S4⟩
                rw [sum_take_snoc (wts_get ho)]
                rfl
            · rintro σ H2 ⟨v8, v9, rfl, sm⟩
              rw [hnl2]
              have B2 := Bs BD sm
              have hlf2' := sm _ _ hlfD
              refine ⟨_, rfl, _, _, rfl, rfl, _, rfl, iteD (fun c => ?_) (fun c => ?_)⟩
              · have k20 : k2 = 0 := by
                  by_cases z : 0 < k2
                  · have := hk3 0 z
                    rw [lack0] at this
                    omega
                  · omega
                refine ⟨_, rfl, lf2, _, rfl, .inl (SqL.of hlf2'), rfl, ?_⟩
                rw [hnl2, k20]
                exact k H2
              · have k21 : 1 ≤ k2 := by
                  by_cases z : k2 = 0
                  · rw [z, lack0] at hk2; omega
                  · omega
                have hlast := hk3 (k2 - 1) (by omega)
                unfold lackM at hk2 hlast
                refine ⟨_, rfl, _, rfl, _, _, rfl, rfl, _, rfl, iteD (fun _ => ?_) (fun c2 => absurd (show goal ≤ ((wts sd2).take k2).sum by omega) c2)⟩
                refine ⟨_, rfl, _, rfl, lf2, _, rfl, .inl (SqL.of hlf2'), _, _, rfl, rfl, .ref lk, sd, _, rfl, ⟨lk, us, rfl, B2.2.2.1, B2.2.2.2.1⟩, hL, by rw [hnl2]; omega, fun ms HE hpm hpo smE => ?_⟩
                have e5 := two_ways (ws := wts sd) (k2 - 1) hpm hpo (hp2.map (·.2)) hpw2
                have e6 : (((namesV (sd2.take k2)).length : Int) - 1).toNat = k2 - 1 := by rw [hnl2]; omega
                refine ⟨_, rfl, _, _, rfl, rfl, ?_⟩
                rw [e6, ← e5]
                have e7 : ((List.map (fun x => x.2) sd2).take (k2 - 1)).sum < goal := by unfold wts at hlast; omega
                show Q (.bl (decide (((List.map (fun x => x.2) sd2).take (k2 - 1)).sum < goal))) HE
                rw [decide_eq_true e7]
                exact k HE
          · exfalso
            have e1 : (wts sd2).sum = (wts sd).sum := perm_sum (hp2.map _)
            have h1 := hno2 sd2.length (Nat.le_refl _)
            have h0 := hno2 0 (Nat.zero_le _)
            rw [lack0] at h0
            unfold lackM at h1
            rw [List.take_of_length_le (by unfold wts; rw [List.length_map]; exact Nat.le_refl _)] at h1
            omega
        · refine gset ?_
          dsimp only
          refine ⟨_, rfl, .non, "list", .type "NoneType", false, rfl, .non, by rfl, _, rfl, iteF ?_⟩
          have BA := Bs B9 smA
          refine ⟨_, rfl, _, rfl, .ref l, .ref lk, sideD sd, sideD sd, rfl, ⟨l, us, rfl, BA.2.1, BA.2.2.2.1.rep⟩, ⟨lk, us, rfl, BA.2.2.1, BA.2.2.2.1.rep⟩, deep_side sd, fun HD smD => ⟨_, rfl, ?_⟩⟩
          rw [sameD_refl]
          refine iteF ?_
          have BD := Bs BA smD
          have e1 : (wts sd').sum = (wts sd).sum := perm_sum (hp.map _)
          have h1 := hno sd'.length (Nat.le_refl _)
          have h0 := hno 0 (Nat.zero_le _)
          rw [lack0] at h0
          unfold lackM at h1
          rw [List.take_of_length_le (by unfold wts; rw [List.length_map]; exact Nat.le_refl _)] at h1
          refine ⟨_, rfl, _, rfl, .ref lk, sd, rfl, ⟨lk, us, rfl, BD.2.2.1, BD.2.2.2.1⟩, _, _, rfl, rfl, _, rfl, iteD (fun _ => ?_) (fun c => absurd (show (wts sd).sum < goal by omega) c)⟩
          refine ⟨_, rfl, _, _, rfl, rfl, _, rfl, iteD (fun _ => ?_) (fun c => absurd (show (0 : Int) < goal by omega) c)⟩
          refine ⟨_, rfl, rfl, ?_⟩
          exact k HD
      · refine ⟨_, rfl, s, la, 8, rfl, B8.1, by decide, by decide, fun r H9 r0 r1 hs9 sx9 => ?_⟩
        have B9 := Bx B8 sx9 hs9
        refine ⟨rfl, _, rfl, iteD (fun _ => ?_) (fun _ => ?_)⟩
        · refine ⟨_, _, rfl, rfl, ⟨by decide, by decide, by decide⟩, _, _, rfl, rfl, ⟨by decide, by decide, by decide⟩, _, rfl, by show 2 ≤ sizeLine; omega, fun lg hlg => ?_⟩
          have SA := Same.new (o := .lst [.int (10 ^ 17), .int (-(10 ^ 17))]) hlg
          have BA := Bs B9 SA
          refine ⟨_, rfl, s, la, 2, rfl, BA.1, by decide, by decide, fun g HA g0 g1 hsA sxA => ?_⟩
          have BB := Bx BA sxA hsA
          obtain ⟨g, rfl⟩ := Int.eq_ofNat_of_zero_le g0
          have nlg : lg ≠ s := (B9.1.ne hlg).1
          have eg : ∃ x : Int, ([V.int (10 ^ 17), V.int (-(10 ^ 17))] : List V)[g]? = some (.int x) := by
            match g, g1 with
            | 0, _ => exact ⟨_, rfl⟩
            | 1, _ => exact ⟨_, rfl⟩
            | n + 2, h => omega
          obtain ⟨x, ex⟩ := eg
          refine ⟨lg, _, g, .int x, rfl, rfl, SqL.of (sxA _ _ nlg upd_same), atI_nat ex, ?_⟩
          exact hn _ _ ⟨x, rfl, BB⟩
        · exact hn _ _ ⟨goal, rfl, B9⟩
    · refine ⟨_, rfl, s, la, 2, rfl, B7.1, by decide, by decide, fun r H9 r0 r1 hs9 sx9 => ?_⟩
      have B9 := Bx B7 sx9 hs9
      refine ⟨rfl, _, rfl, iteD (fun _ => ?_) (fun _ => ?_)⟩
      · refine ⟨_, rfl, _, rfl, s, la, 13, rfl, B9.1, by decide, by decide, fun g HA g0 g1 hsA sxA => ?_⟩
        have BA := Bx B9 sxA hsA
        refine ⟨.ref lk, sd, g, rfl, ⟨lk, us, rfl, BA.2.2.1, BA.2.2.2.1⟩, hL, g0, fun ms HB _ _ smB => ⟨_, _, rfl, rfl, ?_⟩⟩
        have BB := Bs BA smB
        refine ⟨_, rfl, s, la, 3, rfl, BB.1, by decide, by decide, fun g' HC _ _ hsC sxC => ⟨_, _, rfl, rfl, ?_⟩⟩
        exact hn _ _ ⟨_, rfl, Bx BB sxC hsC⟩
      · exact hn _ _ ⟨_, rfl, B9⟩
end

def tabs : List Tb := [⟨20, 16, "fewest_to" ++ ".<locals>." ++ "<lambda>"⟩]
theorem tabs_ok (p : Params) : ∀ t ∈ tabs, (KTK p).lookup t.P = some { cls := .none, data := .fields #[] } ∧ codeHdIn (KK p) t.c t.P = true ∧ (KK p).lookup t.P = none := by
  intro t ht
  simp only [tabs, List.mem_cons, List.not_mem_nil, or_false] at ht
  rcases ht with rfl <;> exact ⟨by kernel_rfl, by kernel_rfl, by kernel_rfl⟩
theorem all_mk {w : World} {h : Heap} {mg : Str → Option Value} {fa : Addr} (X : (KK w.params).In h) (G : h.Ns mainGlobals mg) (hfa : mg "law" = some (.ref fa)) :
    ∃ fd : FuncData, (∀ (s : Shared) (v : Value), BindsTo s fd ⟨[v], []⟩ [("_law_script", v)]) ∧ ∀ base : Heap, (KK w.params).In base → base.Ns mainGlobals mg → FnOk (PySem.Challenge.rw_forsworn_k03_fewest_names).prog w (KK w.params) mg base CX0 40 fa fd ["_law_script"] (spLawT (KK w.params) tabs) := by
  have e : some (Value.ref fa) = some (.ref 99) := hfa.symm.trans (PySem.W.mg_of X G (by kernel_rfl))
  cases e
  have h_fewest_to : HasL (KK w.params) mg "fewest_to" s_fewest_to 20 := hasL_mk (f := 21) (oc := .type "function") (od := none) (an := none) (osl := #[]) (kV := .none) (doc := .none) (pm := (.str "forsworn.oaths" 187)) (ct := .none) X G (by kernel_rfl) (by kernel_rfl) (by kernel_rfl) (by kernel_rfl)
  have B_fewest_to : LamB (KK w.params) mg 20 16 := ⟨by kernel_rfl, ⟨4, ⟨.type "module", some 0, .plain, #[]⟩, PySem.W.mg_of X G (by kernel_rfl), by decide, by decide, by decide, by kernel_rfl, rfl, rfl, rfl⟩, by decide⟩
  have h__law_src : Has (KK w.params) mg "_law_src" s_law_src := has_mk (f := 28) (oc := .type "function") (od := none) (an := none) (osl := #[]) (kV := .none) (doc := .none) (pm := (.str "law_forsworn_k03_fewest_names" 201)) (cdv := (.ref 27)) (ct := .none) X G (by kernel_rfl) (by kernel_rfl) (by kernel_rfl) (by kernel_rfl)
  have h__law_next : Has (KK w.params) mg "_law_next" s_law_next := has_mk (f := 35) (oc := .type "function") (od := none) (an := none) (osl := #[]) (kV := .none) (doc := .none) (pm := (.str "law_forsworn_k03_fewest_names" 201)) (cdv := (.ref 34)) (ct := .none) X G (by kernel_rfl) (by kernel_rfl) (by kernel_rfl) (by kernel_rfl)
  have h__law_whole : Has (KK w.params) mg "_law_whole" s_law_whole := has_mk (f := 42) (oc := .type "function") (od := none) (an := none) (osl := #[]) (kV := .none) (doc := .none) (pm := (.str "law_forsworn_k03_fewest_names" 201)) (cdv := (.ref 41)) (ct := .none) X G (by kernel_rfl) (by kernel_rfl) (by kernel_rfl) (by kernel_rfl)
  have h__law_same : Has (KK w.params) mg "_law_same" s_law_same := has_mk (f := 49) (oc := .type "function") (od := none) (an := none) (osl := #[]) (kV := .none) (doc := .none) (pm := (.str "law_forsworn_k03_fewest_names" 201)) (cdv := (.ref 48)) (ct := .none) X G (by kernel_rfl) (by kernel_rfl) (by kernel_rfl) (by kernel_rfl)
  have h__law_unlike : Has (KK w.params) mg "_law_unlike" s_law_unlike := has_mk (f := 56) (oc := .type "function") (od := none) (an := none) (osl := #[]) (kV := .none) (doc := .none) (pm := (.str "law_forsworn_k03_fewest_names" 201)) (cdv := (.ref 55)) (ct := .none) X G (by kernel_rfl) (by kernel_rfl) (by kernel_rfl) (by kernel_rfl)
  have h__law_word : Has (KK w.params) mg "_law_word" s_law_word := has_mk (f := 61) (oc := .type "function") (od := none) (an := none) (osl := #[]) (kV := .none) (doc := .none) (pm := (.str "law_forsworn_k03_fewest_names" 201)) (cdv := (.ref 60)) (ct := .none) X G (by kernel_rfl) (by kernel_rfl) (by kernel_rfl) (by kernel_rfl)
  have h__law_names : Has (KK w.params) mg "_law_names" s_law_names := has_mk (f := 68) (oc := .type "function") (od := none) (an := none) (osl := #[]) (kV := .none) (doc := .none) (pm := (.str "law_forsworn_k03_fewest_names" 201)) (cdv := (.ref 67)) (ct := .none) X G (by kernel_rfl) (by kernel_rfl) (by kernel_rfl) (by kernel_rfl)
  have h__law_weight : Has (KK w.params) mg "_law_weight" s_law_weight := has_mk (f := 75) (oc := .type "function") (od := none) (an := none) (osl := #[]) (kV := .none) (doc := .none) (pm := (.str "law_forsworn_k03_fewest_names" 201)) (cdv := (.ref 74)) (ct := .none) X G (by kernel_rfl) (by kernel_rfl) (by kernel_rfl) (by kernel_rfl)
  have h__law_total : Has (KK w.params) mg "_law_total" s_law_total := has_mk (f := 82) (oc := .type "function") (od := none) (an := none) (osl := #[]) (kV := .none) (doc := .none) (pm := (.str "law_forsworn_k03_fewest_names" 201)) (cdv := (.ref 81)) (ct := .none) X G (by kernel_rfl) (by kernel_rfl) (by kernel_rfl) (by kernel_rfl)
  have h__law_side : Has (KK w.params) mg "_law_side" s_law_side := has_mk (f := 89) (oc := .type "function") (od := none) (an := none) (osl := #[]) (kV := .none) (doc := .none) (pm := (.str "law_forsworn_k03_fewest_names" 201)) (cdv := (.ref 88)) (ct := .none) X G (by kernel_rfl) (by kernel_rfl) (by kernel_rfl) (by kernel_rfl)
  have h__law_sum_first : Has (KK w.params) mg "_law_sum_first" s_law_sum_first := has_mk (f := 94) (oc := .type "function") (od := none) (an := none) (osl := #[]) (kV := .none) (doc := .none) (pm := (.str "law_forsworn_k03_fewest_names" 201)) (cdv := (.ref 93)) (ct := .none) X G (by kernel_rfl) (by kernel_rfl) (by kernel_rfl) (by kernel_rfl)
  have F_law := fun_mk (K := KK w.params) (x := "law") (qual := "law") (st := s_law) (f := 99) (oc := .type "function") (od := none) (an := none) (osl := #[]) (kV := .none) (doc := .none) (pm := (.str "law_forsworn_k03_fewest_names" 201)) (cdv := (.ref 98)) (ct := .none) (by kernel_rfl) (by kernel_rfl) (by kernel_rfl)
  have T : Txt mg := ⟨PySem.W.mg_none_of X G (by kernel_rfl), PySem.W.mg_none_of X G (by kernel_rfl), PySem.W.mg_none_of X G (by kernel_rfl), PySem.W.mg_none_of X G (by kernel_rfl), PySem.W.mg_none_of X G (by kernel_rfl), PySem.W.mg_none_of X G (by kernel_rfl), PySem.W.mg_none_of X G (by kernel_rfl), PySem.W.mg_none_of X G (by kernel_rfl), PySem.W.mg_none_of X G (by kernel_rfl), PySem.W.mg_none_of X G (by kernel_rfl), PySem.W.mg_none_of X G (by kernel_rfl), PySem.W.mg_none_of X G (by kernel_rfl)⟩
  exact ⟨PySem.W.fnOf "law" "law" (defArgs s_law) (defBody s_law) (defScope s_law) .none .none .none (.str "law_forsworn_k03_fewest_names" 201) none (.ref 98) .none, fun s v => .of_eq rfl, fun base kb _ => by
    have F1 := f__law_src (P := (PySem.Challenge.rw_forsworn_k03_fewest_names).prog) (w := w) (base := base) h__law_src T
    have F2 := f__law_next (P := (PySem.Challenge.rw_forsworn_k03_fewest_names).prog) (w := w) (base := base) h__law_next T
    have F3 := f__law_word h__law_word T F2
    have F4 := f__law_unlike (P := (PySem.Challenge.rw_forsworn_k03_fewest_names).prog) (w := w) (base := base) h__law_unlike T
    have F5 := f__law_names h__law_names T F2 F3 F4
    have F6 := f__law_weight h__law_weight T F2
    have F7 := f__law_side h__law_side T F2 F6
    have F8 := f__law_same h__law_same T (f__law_whole (P := (PySem.Challenge.rw_forsworn_k03_fewest_names).prog) (w := w) (base := base) h__law_whole T) 3
    have F9 := f__law_total (P := (PySem.Challenge.rw_forsworn_k03_fewest_names).prog) (w := w) (base := base) h__law_total T
    have F10 := f__law_sum_first (P := (PySem.Challenge.rw_forsworn_k03_fewest_names).prog) (w := w) (base := base) h__law_sum_first T
    have F11 := f_fewest_to (P := (PySem.Challenge.rw_forsworn_k03_fewest_names).prog) (w := w) h_fewest_to B_fewest_to kb T
    exact (f_law (ts := tabs) ⟨_, List.mem_cons_self⟩ F_law T F1 F2 F5 F7 F8 F9 F10 F11).mono (by decide)⟩
end Law
open PySem PySem.W PyProof.Rows
set_option maxRecDepth 100000 in
set_option maxHeartbeats 0 in
theorem PySem.Challenge.cw_forsworn_k03_fewest_names_holds : PySem.Challenge.rw_forsworn_k03_fewest_names.Holds := by
  w_on; o_law
  refine holds_open (q := Law.q) (loose := []) (Xt := fun s => xlAt Law.q [] s && recOk (RowW.records PySem.Challenge.rw_forsworn_k03_fewest_names.row.toRowW) s) (XP := XL Law.q []) (Yf := Law.HK.obs) (Ya := Law.HK.val) (YP := Law.HK.says) (N := 960) Law.left Law.HK.of Law.HK.keeps (fun s e => xl_of s (Bool.and_eq_true_iff.mp e).1) XL.keeps (by rfl) (by rfl) (by rfl) (fun s e => recFacts_of (Bool.and_eq_true_iff.mp e).2) (by rfl) (by first | assumption | decide +kernel) (by decide +kernel) ⟨rfl, rfl, rfl, rfl, rfl, by decide +kernel⟩ ?hw ?hc
  case hw => w_witness2
  refine L2.walkLawT (l := PySem.Challenge.rw_forsworn_k03_fewest_names) (K := Law.KK) (KT := Law.KTK) (ts := Law.tabs) rfl rfl (fun w h Y => PySem.W.kIn_of (K := Law.KTK) Y) (fun p h x => L2.Frag.In.left x) (fun p t ht => Law.tabs_ok p t ht) (by decide) fun w mg fa h KX G hmg => Law.all_mk KX G hmg
namespace Law

end Law
